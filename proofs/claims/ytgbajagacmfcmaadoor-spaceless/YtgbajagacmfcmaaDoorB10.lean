/- Texts that belong together, one behind the other: SpaceDef, SpaceDefOwn, SpaceOf, SpaceLives, SpaceKit, SpaceLeast, DoorKit, DoorTabs, SpaceNamesOwn, SpaceMath, SpaceTop. -/
import Derived.Test.YtgbajagacmfcmaaDoorB9
import Derived.Test.YtgbajagacmfcmaaDoorRows
import Derived.Test.YtgbajagacmfcmaaDoorTie
import Derived.Test.YtgbajagacmfcmaaDoorCards
import Derived.ProofKit
import Derived.LaidMore
import Derived.OpenShut
import Derived.Below
import Derived.Stop.Joined
import Derived.SevenTiedAt
import Derived.Lib.LaidTab
import Derived.WalkSmall
import Derived.Lib.ItoaNum
import Derived.Shelf.Vars
import Derived.SizedLaws
import Derived.LaidSub
/- Contracts of the landed space.entry and space.Default. -/
namespace Go.Proofs.YtgbajagacmfcmaaDoor
open Go.RowKit
set_option linter.unusedVariables false
set_option maxRecDepth 20000

theorem results_entT1 {fn : Func} {a : Tmp} {tmps : Array Value} {W : World} {R : Nat} {f : Int} {bs : List Nat} {n v : Int} (h : fn.results = #[.cell a 36]) (ha : tmps.getD a undef = .pointer (some ⟨R, 0, none⟩)) (hA : EntAt W R f bs n v) : (results fn tmps).run Tryd.prog W = .ok (entV f bs n v) W := by
  rw [Array.getD_eq_getD_getElem?] at ha
  simp [results, h, ha, asAddr, loadVar_entT hA]
set_option maxRecDepth 100000 in
theorem entry_any (s : ByteArray) (v : Int) (f : Int) (b : List Nat) (n c : Int) (w : World) (hp : parseP s = (f, b, n, c)) (h16 : b.length = 16) (hs : s.size ≤ 1000) (ht : Tabs w) :
    Calls Tryd.prog 46 #[.string s, .int .i64 v] w fun e w' => e = .returned (entV f b n v) ∧ Below w.heap.size w w' := by
  have HB0 : Hid (Below w.heap.size w (w.alloc (.cells zE 36))) := Lib.hid ((Below.refl _ _).alloc (Nat.le_refl _) _)
  have HPA := Lib.hid (cidrParse_any s (w.alloc (.cells zE 36)) (by omega) (ht.below HB0.out))
  rw [hp, show prefRet (f, b, n, c) = .tuple #[prefV f b n, .int .i64 c] from rfl] at HPA
  have HE0 := Lib.hid (entT_zeroed w)
  have H16 := Lib.hid h16
  clear hp h16 hs ht
  go_enter Tryd.func46, Tryd.ntmps46
  go_upto_region 1 with fail
  generalize (w.alloc (.cells zE 36)) = W at *
  go_wp2_with fail
  refine HPA.out.mono ?_
  rintro e w1 ⟨rfl, hb1⟩
  have HB1 := Lib.hid (chain HB0.out hb1)
  have HE1 := Lib.hid (HE0.out.below hb1)
  have HZ := Lib.hid (pref_zeroed w1)
  clear hb1 HPA HE0 HB0
  go_upto_region 2 with (refine store_pref HZ _ _ H16 rfl rfl rfl rfl (fun W1 HW1 HP1 => ?_))
  have HB2 := Lib.hid (chain HB1.out (below_newP HW1))
  have HE2 := Lib.hid (HE1.out.below (below_newP HW1))
  clear HB1 HE1 HZ HW1
  go_wp2_with (first | refine load_pref_g HP1 _ rfl rfl rfl ?_ | refine build_entT H16 rfl _ _ rfl rfl rfl ?_ | refine store_entT HE2 _ _ H16 rfl rfl rfl rfl (fun W2 HW2 HE3 => ?_))
  refine bodyPost_ret (v := entV f b n v) (results_entT1 Tryd.results46 rfl HE3.out) rfl ⟨rfl, by rw [HW2.out]; exact below_cells (Nat.le_refl _) _ _ _ HB2.out⟩
/-- The entries, as the landed Default lists them. -/
def R7 : List Raw := [⟨4, [127, 0, 0, 0, 0, 0, 0, 0, 0, 0, 0, 0, 0, 0, 0, 0], 8, 0⟩, ⟨6, [0, 0, 0, 0, 0, 0, 0, 0, 0, 0, 0, 0, 0, 0, 0, 1], 128, 0⟩, ⟨4, [10, 0, 0, 0, 0, 0, 0, 0, 0, 0, 0, 0, 0, 0, 0, 0], 8, 1⟩, ⟨4, [100, 64, 0, 0, 0, 0, 0, 0, 0, 0, 0, 0, 0, 0, 0, 0], 10, 1⟩, ⟨4, [169, 254, 0, 0, 0, 0, 0, 0, 0, 0, 0, 0, 0, 0, 0, 0], 16, 1⟩, ⟨4, [172, 16, 0, 0, 0, 0, 0, 0, 0, 0, 0, 0, 0, 0, 0, 0], 12, 1⟩, ⟨4, [192, 168, 0, 0, 0, 0, 0, 0, 0, 0, 0, 0, 0, 0, 0, 0], 16, 1⟩, ⟨6, [252, 0, 0, 0, 0, 0, 0, 0, 0, 0, 0, 0, 0, 0, 0, 0], 7, 1⟩, ⟨6, [254, 128, 0, 0, 0, 0, 0, 0, 0, 0, 0, 0, 0, 0, 0, 0], 10, 1⟩, ⟨4, [0, 0, 0, 0, 0, 0, 0, 0, 0, 0, 0, 0, 0, 0, 0, 0], 32, 0⟩, ⟨6, [0, 0, 0, 0, 0, 0, 0, 0, 0, 0, 0, 0, 0, 0, 0, 0], 128, 0⟩]
theorem R7_ok : AllOk R7 := by
  intro r hr
  simp only [R7, List.mem_cons, List.not_mem_nil, or_false] at hr
  rcases hr with rfl | rfl | rfl | rfl | rfl | rfl | rfl | rfl | rfl | rfl | rfl <;> exact ⟨by decide, by decide, by decide, by decide⟩
theorem newA_R7 : newA R7 11 = defE 11 := by kernel_rfl
theorem fill7 : Instr.fill (fun i => some (i * 19, 19)) ((Array.range (11 * 19)).map fun j => (Value.agg zE).cells[j % (Value.agg zE).cells.size]!) (#[(0, entV 4 [127, 0, 0, 0, 0, 0, 0, 0, 0, 0, 0, 0, 0, 0, 0, 0] 8 0), (1, entV 6 [0, 0, 0, 0, 0, 0, 0, 0, 0, 0, 0, 0, 0, 0, 0, 1] 128 0), (2, entV 4 [10, 0, 0, 0, 0, 0, 0, 0, 0, 0, 0, 0, 0, 0, 0, 0] 8 1), (3, entV 4 [100, 64, 0, 0, 0, 0, 0, 0, 0, 0, 0, 0, 0, 0, 0, 0] 10 1), (4, entV 4 [169, 254, 0, 0, 0, 0, 0, 0, 0, 0, 0, 0, 0, 0, 0, 0] 16 1), (5, entV 4 [172, 16, 0, 0, 0, 0, 0, 0, 0, 0, 0, 0, 0, 0, 0, 0] 12 1), (6, entV 4 [192, 168, 0, 0, 0, 0, 0, 0, 0, 0, 0, 0, 0, 0, 0, 0] 16 1), (7, entV 6 [252, 0, 0, 0, 0, 0, 0, 0, 0, 0, 0, 0, 0, 0, 0, 0] 7 1), (8, entV 6 [254, 128, 0, 0, 0, 0, 0, 0, 0, 0, 0, 0, 0, 0, 0, 0] 10 1), (9, entV 4 [0, 0, 0, 0, 0, 0, 0, 0, 0, 0, 0, 0, 0, 0, 0, 0] 32 0), (10, entV 6 [0, 0, 0, 0, 0, 0, 0, 0, 0, 0, 0, 0, 0, 0, 0, 0] 128 0)] : Array (Nat × Value)).toList = some (flatR R7).toArray := by kernel_rfl
theorem run_build7 (w : World) : (Instr.buildSlice 22 11 #[(0, entV 4 [127, 0, 0, 0, 0, 0, 0, 0, 0, 0, 0, 0, 0, 0, 0, 0] 8 0), (1, entV 6 [0, 0, 0, 0, 0, 0, 0, 0, 0, 0, 0, 0, 0, 0, 0, 1] 128 0), (2, entV 4 [10, 0, 0, 0, 0, 0, 0, 0, 0, 0, 0, 0, 0, 0, 0, 0] 8 1), (3, entV 4 [100, 64, 0, 0, 0, 0, 0, 0, 0, 0, 0, 0, 0, 0, 0, 0] 10 1), (4, entV 4 [169, 254, 0, 0, 0, 0, 0, 0, 0, 0, 0, 0, 0, 0, 0, 0] 16 1), (5, entV 4 [172, 16, 0, 0, 0, 0, 0, 0, 0, 0, 0, 0, 0, 0, 0, 0] 12 1), (6, entV 4 [192, 168, 0, 0, 0, 0, 0, 0, 0, 0, 0, 0, 0, 0, 0, 0] 16 1), (7, entV 6 [252, 0, 0, 0, 0, 0, 0, 0, 0, 0, 0, 0, 0, 0, 0, 0] 7 1), (8, entV 6 [254, 128, 0, 0, 0, 0, 0, 0, 0, 0, 0, 0, 0, 0, 0, 0] 10 1), (9, entV 4 [0, 0, 0, 0, 0, 0, 0, 0, 0, 0, 0, 0, 0, 0, 0, 0] 32 0), (10, entV 6 [0, 0, 0, 0, 0, 0, 0, 0, 0, 0, 0, 0, 0, 0, 0, 0] 128 0)]).run Tryd.prog w = .ok (.slice (some ⟨w.heap.size, 0, none⟩) 11 11) (w.alloc (.cells (flatR R7).toArray 36)) := by
  obtain ⟨i0, hi0, hz0, hz1, hz2⟩ := info_parts infoT
  have hf := fill7
  obtain ⟨Z, hZ⟩ : ∃ Z : Array Value, zE = Z := ⟨_, rfl⟩
  obtain ⟨X, hX⟩ : ∃ X : Array (Nat × Value), #[(0, entV 4 [127, 0, 0, 0, 0, 0, 0, 0, 0, 0, 0, 0, 0, 0, 0, 0] 8 0), (1, entV 6 [0, 0, 0, 0, 0, 0, 0, 0, 0, 0, 0, 0, 0, 0, 0, 1] 128 0), (2, entV 4 [10, 0, 0, 0, 0, 0, 0, 0, 0, 0, 0, 0, 0, 0, 0, 0] 8 1), (3, entV 4 [100, 64, 0, 0, 0, 0, 0, 0, 0, 0, 0, 0, 0, 0, 0, 0] 10 1), (4, entV 4 [169, 254, 0, 0, 0, 0, 0, 0, 0, 0, 0, 0, 0, 0, 0, 0] 16 1), (5, entV 4 [172, 16, 0, 0, 0, 0, 0, 0, 0, 0, 0, 0, 0, 0, 0, 0] 12 1), (6, entV 4 [192, 168, 0, 0, 0, 0, 0, 0, 0, 0, 0, 0, 0, 0, 0, 0] 16 1), (7, entV 6 [252, 0, 0, 0, 0, 0, 0, 0, 0, 0, 0, 0, 0, 0, 0, 0] 7 1), (8, entV 6 [254, 128, 0, 0, 0, 0, 0, 0, 0, 0, 0, 0, 0, 0, 0, 0] 10 1), (9, entV 4 [0, 0, 0, 0, 0, 0, 0, 0, 0, 0, 0, 0, 0, 0, 0, 0] 32 0), (10, entV 6 [0, 0, 0, 0, 0, 0, 0, 0, 0, 0, 0, 0, 0, 0, 0, 0] 128 0)] = X := ⟨_, rfl⟩
  obtain ⟨Y, hY⟩ : ∃ Y : Array Value, (flatR R7).toArray = Y := ⟨_, rfl⟩
  rw [hX, hY] at hf ⊢
  rw [hZ] at hf hz0
  have hsz : (sizeOf 36).run Tryd.prog w = .ok 19 w := by simp [sizeOf, typeInfo, hi0, hz1]
  have hzv : (zeroValue 36).run Tryd.prog w = .ok (.agg Z) w := by simp [zeroValue, typeInfo, hi0, hz0]
  have hnr : ∀ cs : Array Value, (newRow 36 cs).run Tryd.prog w = .ok ⟨w.heap.size, 0, none⟩ (w.alloc (.cells cs 36)) := fun cs => by simp [newRow]
  have hu : (underlying 22).run Tryd.prog w = .ok _ w := run_underlying Tryd.underlying22 w
  clear hX hY hZ
  unfold Instr.buildSlice
  simp only [Sem.run_bind, hu, Result.andThen_ok, hsz, if_neg (show ¬ (11 * 19 > 2 ^ 24) by decide), Sem.run_pure, if_neg (show ¬ (11 * 19 = 0) by decide), hzv, hf, hnr]
theorem wp_build7 {ops : Array Oper} {rest : List Oper} {op : Oper} {a : Act} {w w' : World} {Q : Exit → Act → World → Prop} {v : Value} {x0 : Value} {x1 : Value} {x2 : Value} {x3 : Value} {x4 : Value} {x5 : Value} {x6 : Value} {x7 : Value} {x8 : Value} {x9 : Value} {x10 : Value} (hb : Hid ((Instr.buildSlice 22 11 #[(0, x0), (1, x1), (2, x2), (3, x3), (4, x4), (5, x5), (6, x6), (7, x7), (8, x8), (9, x9), (10, x10)]).run Tryd.prog w = .ok v w')) (hg : op.guard = none) (o0 o1 o2 o3 o4 o5 o6 o7 o8 o9 o10 : Operand)
    (ho : op.op = .buildSlice 22 11 #[(0, o0), (1, o1), (2, o2), (3, o3), (4, o4), (5, o5), (6, o6), (7, o7), (8, o8), (9, o9), (10, o10)]) (h0 : a.eval o0 = x0) (h1 : a.eval o1 = x1) (h2 : a.eval o2 = x2) (h3 : a.eval o3 = x3) (h4 : a.eval o4 = x4) (h5 : a.eval o5 = x5) (h6 : a.eval o6 = x6) (h7 : a.eval o7 = x7) (h8 : a.eval o8 = x8) (h9 : a.eval o9 = x9) (h10 : a.eval o10 = x10) (h : wpList Tryd.prog ops Q rest (a.put op.dst v) w') : wpList Tryd.prog ops Q (op :: rest) a w := by
  refine wpList_plain hg fun K hK => ?_
  unfold Oper.wp execOp
  simp only [ho, List.map_toArray, List.map_cons, List.map_nil, h0, h1, h2, h3, h4, h5, h6, h7, h8, h9, h10, Sem.run_bind, hb.out, Result.andThen_ok]
  exact hK _ _ h
end Go.Proofs.YtgbajagacmfcmaaDoor
/- Contract of the landed space.Default. -/
namespace Go.Proofs.YtgbajagacmfcmaaDoor
open Go.RowKit
set_option linter.unusedVariables false
set_option maxRecDepth 20000

set_option maxRecDepth 100000 in
set_option maxHeartbeats 2000000 in
theorem default_any (w : World) (ht : Tabs w) :
    Calls Tryd.prog 30 #[] w fun e w' => ∃ G F, e = .returned (.pointer (some ⟨G, 0, none⟩)) ∧ TabAt w' G (defE 11) 0 F ∧ (∀ k ∈ F, w.heap.size ≤ k) ∧ Below w.heap.size w w' := by
  have C0 := fun W (h : Tabs W) => Lib.hid (entry_any text7_0 0 4 [127, 0, 0, 0, 0, 0, 0, 0, 0, 0, 0, 0, 0, 0, 0, 0] 8 0 W read7_0 rfl (by decide) h)
  have C1 := fun W (h : Tabs W) => Lib.hid (entry_any text7_1 0 6 [0, 0, 0, 0, 0, 0, 0, 0, 0, 0, 0, 0, 0, 0, 0, 1] 128 0 W read7_1 rfl (by decide) h)
  have C2 := fun W (h : Tabs W) => Lib.hid (entry_any text7_4 1 4 [10, 0, 0, 0, 0, 0, 0, 0, 0, 0, 0, 0, 0, 0, 0, 0] 8 0 W read7_4 rfl (by decide) h)
  have C3 := fun W (h : Tabs W) => Lib.hid (entry_any text7_5 1 4 [100, 64, 0, 0, 0, 0, 0, 0, 0, 0, 0, 0, 0, 0, 0, 0] 10 0 W read7_5 rfl (by decide) h)
  have C4 := fun W (h : Tabs W) => Lib.hid (entry_any text7_6 1 4 [169, 254, 0, 0, 0, 0, 0, 0, 0, 0, 0, 0, 0, 0, 0, 0] 16 0 W read7_6 rfl (by decide) h)
  have C5 := fun W (h : Tabs W) => Lib.hid (entry_any text7_7 1 4 [172, 16, 0, 0, 0, 0, 0, 0, 0, 0, 0, 0, 0, 0, 0, 0] 12 0 W read7_7 rfl (by decide) h)
  have C6 := fun W (h : Tabs W) => Lib.hid (entry_any text7_8 1 4 [192, 168, 0, 0, 0, 0, 0, 0, 0, 0, 0, 0, 0, 0, 0, 0] 16 0 W read7_8 rfl (by decide) h)
  have C7 := fun W (h : Tabs W) => Lib.hid (entry_any text7_9 1 6 [252, 0, 0, 0, 0, 0, 0, 0, 0, 0, 0, 0, 0, 0, 0, 0] 7 0 W read7_9 rfl (by decide) h)
  have C8 := fun W (h : Tabs W) => Lib.hid (entry_any text7_10 1 6 [254, 128, 0, 0, 0, 0, 0, 0, 0, 0, 0, 0, 0, 0, 0, 0] 10 0 W read7_10 rfl (by decide) h)
  have C9 := fun W (h : Tabs W) => Lib.hid (entry_any text7_2 0 4 [0, 0, 0, 0, 0, 0, 0, 0, 0, 0, 0, 0, 0, 0, 0, 0] 32 0 W read7_2 rfl (by decide) h)
  have C10 := fun W (h : Tabs W) => Lib.hid (entry_any text7_3 0 6 [0, 0, 0, 0, 0, 0, 0, 0, 0, 0, 0, 0, 0, 0, 0, 0] 128 0 W read7_3 rfl (by decide) h)
  have HBS := fun W => Lib.hid (run_build7 W)
  obtain ⟨x0, hx0⟩ : ∃ x, entV 4 [127, 0, 0, 0, 0, 0, 0, 0, 0, 0, 0, 0, 0, 0, 0, 0] 8 0 = x := ⟨_, rfl⟩
  rw [hx0] at C0 HBS
  clear hx0
  obtain ⟨x1, hx1⟩ : ∃ x, entV 6 [0, 0, 0, 0, 0, 0, 0, 0, 0, 0, 0, 0, 0, 0, 0, 1] 128 0 = x := ⟨_, rfl⟩
  rw [hx1] at C1 HBS
  clear hx1
  obtain ⟨x2, hx2⟩ : ∃ x, entV 4 [10, 0, 0, 0, 0, 0, 0, 0, 0, 0, 0, 0, 0, 0, 0, 0] 8 1 = x := ⟨_, rfl⟩
  rw [hx2] at C2 HBS
  clear hx2
  obtain ⟨x3, hx3⟩ : ∃ x, entV 4 [100, 64, 0, 0, 0, 0, 0, 0, 0, 0, 0, 0, 0, 0, 0, 0] 10 1 = x := ⟨_, rfl⟩
  rw [hx3] at C3 HBS
  clear hx3
  obtain ⟨x4, hx4⟩ : ∃ x, entV 4 [169, 254, 0, 0, 0, 0, 0, 0, 0, 0, 0, 0, 0, 0, 0, 0] 16 1 = x := ⟨_, rfl⟩
  rw [hx4] at C4 HBS
  clear hx4
  obtain ⟨x5, hx5⟩ : ∃ x, entV 4 [172, 16, 0, 0, 0, 0, 0, 0, 0, 0, 0, 0, 0, 0, 0, 0] 12 1 = x := ⟨_, rfl⟩
  rw [hx5] at C5 HBS
  clear hx5
  obtain ⟨x6, hx6⟩ : ∃ x, entV 4 [192, 168, 0, 0, 0, 0, 0, 0, 0, 0, 0, 0, 0, 0, 0, 0] 16 1 = x := ⟨_, rfl⟩
  rw [hx6] at C6 HBS
  clear hx6
  obtain ⟨x7, hx7⟩ : ∃ x, entV 6 [252, 0, 0, 0, 0, 0, 0, 0, 0, 0, 0, 0, 0, 0, 0, 0] 7 1 = x := ⟨_, rfl⟩
  rw [hx7] at C7 HBS
  clear hx7
  obtain ⟨x8, hx8⟩ : ∃ x, entV 6 [254, 128, 0, 0, 0, 0, 0, 0, 0, 0, 0, 0, 0, 0, 0, 0] 10 1 = x := ⟨_, rfl⟩
  rw [hx8] at C8 HBS
  clear hx8
  obtain ⟨x9, hx9⟩ : ∃ x, entV 4 [0, 0, 0, 0, 0, 0, 0, 0, 0, 0, 0, 0, 0, 0, 0, 0] 32 0 = x := ⟨_, rfl⟩
  rw [hx9] at C9 HBS
  clear hx9
  obtain ⟨x10, hx10⟩ : ∃ x, entV 6 [0, 0, 0, 0, 0, 0, 0, 0, 0, 0, 0, 0, 0, 0, 0, 0] 128 0 = x := ⟨_, rfl⟩
  rw [hx10] at C10 HBS
  clear hx10
  have HT0 := Lib.hid ht
  clear ht
  go_enter Tryd.func30, Tryd.ntmps30
  go_wp2_with fail
  refine (C0 w HT0.out).out.mono ?_
  rintro e V0 ⟨rfl, hb⟩
  have HT1 := Lib.hid (HT0.out.below hb)
  have HB0 := Lib.hid hb
  clear hb HT0 C0
  go_wp2_with fail
  refine (C1 V0 HT1.out).out.mono ?_
  rintro e V1 ⟨rfl, hb⟩
  have HT2 := Lib.hid (HT1.out.below hb)
  have HB1 := Lib.hid (chain HB0.out hb)
  clear HB0
  clear hb HT1 C1
  go_wp2_with fail
  refine (C2 V1 HT2.out).out.mono ?_
  rintro e V2 ⟨rfl, hb⟩
  have HT3 := Lib.hid (HT2.out.below hb)
  have HB2 := Lib.hid (chain HB1.out hb)
  clear HB1
  clear hb HT2 C2
  go_wp2_with fail
  refine (C3 V2 HT3.out).out.mono ?_
  rintro e V3 ⟨rfl, hb⟩
  have HT4 := Lib.hid (HT3.out.below hb)
  have HB3 := Lib.hid (chain HB2.out hb)
  clear HB2
  clear hb HT3 C3
  go_wp2_with fail
  refine (C4 V3 HT4.out).out.mono ?_
  rintro e V4 ⟨rfl, hb⟩
  have HT5 := Lib.hid (HT4.out.below hb)
  have HB4 := Lib.hid (chain HB3.out hb)
  clear HB3
  clear hb HT4 C4
  go_wp2_with fail
  refine (C5 V4 HT5.out).out.mono ?_
  rintro e V5 ⟨rfl, hb⟩
  have HT6 := Lib.hid (HT5.out.below hb)
  have HB5 := Lib.hid (chain HB4.out hb)
  clear HB4
  clear hb HT5 C5
  go_wp2_with fail
  refine (C6 V5 HT6.out).out.mono ?_
  rintro e V6 ⟨rfl, hb⟩
  have HT7 := Lib.hid (HT6.out.below hb)
  have HB6 := Lib.hid (chain HB5.out hb)
  clear HB5
  clear hb HT6 C6
  go_wp2_with fail
  refine (C7 V6 HT7.out).out.mono ?_
  rintro e V7 ⟨rfl, hb⟩
  have HT8 := Lib.hid (HT7.out.below hb)
  have HB7 := Lib.hid (chain HB6.out hb)
  clear HB6
  clear hb HT7 C7
  go_wp2_with fail
  refine (C8 V7 HT8.out).out.mono ?_
  rintro e V8 ⟨rfl, hb⟩
  have HT9 := Lib.hid (HT8.out.below hb)
  have HB8 := Lib.hid (chain HB7.out hb)
  clear HB7
  clear hb HT8 C8
  go_wp2_with fail
  refine (C9 V8 HT9.out).out.mono ?_
  rintro e V9 ⟨rfl, hb⟩
  have HT10 := Lib.hid (HT9.out.below hb)
  have HB9 := Lib.hid (chain HB8.out hb)
  clear HB8
  clear hb HT9 C9
  go_wp2_with fail
  refine (C10 V9 HT10.out).out.mono ?_
  rintro e V10 ⟨rfl, hb⟩
  have HT11 := Lib.hid (HT10.out.below hb)
  have HB10 := Lib.hid (chain HB9.out hb)
  clear HB9
  clear hb HT10 C10
  have HB11 : Hid (Below V10.heap.size V10 (V10.alloc (.cells (flatR R7).toArray 36))) := Lib.hid ((Below.refl _ _).alloc (Nat.le_refl _) _)
  have HNW := Lib.hid (mapNew_some V10.heap.size 0 11 R7 (V10.alloc (.cells (flatR R7).toArray 36)) (fun j u hu => by rw [Nat.zero_add, World.cell?_alloc_new]; simpa using hu) (by simp) R7_ok (by decide))
  rw [show R7.length = 11 from rfl, newA_R7] at HNW
  have HB12 := Lib.hid (chain HB10.out HB11.out)
  have HBS2 := HBS V10
  generalize (V10.alloc (.cells (flatR R7).toArray 36)) = X at *
  clear HBS HT11 HB11
  go_wp2_with (have HBS3 := HBS2; refine wp_build7 HBS3 rfl _ _ _ _ _ _ _ _ _ _ _ rfl rfl rfl rfl rfl rfl rfl rfl rfl rfl rfl rfl ?_; clear HBS2 HBS3)
  refine HNW.out.mono ?_
  rintro e w2 ⟨G, F, rfl, hT, hF, hb⟩
  have HT := Lib.hid hT
  have HF := Lib.hid hF
  have HB := Lib.hid (chain HB12.out hb)
  have HSZ := Lib.hid HB12.out.size
  clear hT hF hb HNW HB12
  go_wp2_with fail
  go_ret
  exact ⟨G, F, rfl, HT.out, (fun k hk => Nat.le_trans HSZ.out (HF.out k hk)), HB.out⟩
end Go.Proofs.YtgbajagacmfcmaaDoor
/- Contract of the landed Map's Of. -/
namespace Go.Proofs.YtgbajagacmfcmaaDoor
open Go.RowKit
set_option linter.unusedVariables false
set_option maxRecDepth 20000

theorem wp_store_entT {op : Oper} {a : Act} {w : World} {K : Act → World → Prop} {Q : Exit → Act → World → Prop} {G : Nat} {g : Int} {bs0 : List Nat} {n0 v0 : Int} (hA : Hid (EntAt w G g bs0 n0 v0)) (x y : Operand) {f : Int} {bs : List Nat} {n v : Int} (hl : Hid (bs.length = 16)) (ho : op.op = .store 36 x y)
    (hx : a.eval x = .pointer (some ⟨G, 0, none⟩)) (hy : a.eval y = entV f bs n v) (h : Hid (EntAt (w.setCells G 0 (entL f bs n v)) G f bs n v) → K (a.put op.dst undef) (w.setCells G 0 (entL f bs n v))) : op.wp Tryd.prog a w K Q :=
  wp_store_mid 36 x y ho G 0 (entL f bs n v).toArray hx hy (by rw [List.size_toArray, entL_len f bs n v hl.out]; exact hA.out.there) (by rw [entT_size, List.size_toArray, entL_len f bs n v hl.out]) (entL_one f bs n v) (h (Lib.hid (hA.out.stored f bs n v hl.out)))
/-- What an Of leaves: its answer, the table with some more steps. -/
def Oft (G : Nat) (es : List Ent) (st : Int) (F : List Nat) (x : Int) (w : World) (e : Ending) (w' : World) : Prop :=
  e = .returned (.int .i64 x) ∧ FindInv G es st F w' ∧ Foot [G] [G] w w'
theorem ofE_ret (es : List Ent) (f : Int) (us : List Nat) (hg : AllGood es) : ∃ (ef : Int) (eb : List Nat) (en ev : Int) (et : Bool), entRet (findE es f us) = .tuple #[entV ef eb en ev, .bool et] ∧ eb.length = 16 ∧ ofE es f us = if et = true then ev else 2 := by
  unfold ofE
  cases h : findE es f us with
  | none => exact ⟨_, _, _, _, _, rfl, rfl, rfl⟩
  | some x => exact ⟨_, _, _, _, _, rfl, (hg x ((findE_best es f us).2 x h).1).1.len, rfl⟩
set_option maxRecDepth 100000 in
set_option maxHeartbeats 2000000 in
theorem mapOf_any (G : Nat) (es : List Ent) (st : Int) (F : List Nat) (f : Int) (us : List Nat) (w : World) (hA : TabAt w G es st F) (h16 : us.length = 16) (hlt : ∀ y ∈ us, y < 256) (h0 : 0 ≤ st) (h1 : st ≤ 800000) :
    Calls Tryd.prog 11 #[.pointer (some ⟨G, 0, none⟩), addrV f us] w (Oft G es st F (ofE es (unmapF f us) (unmapB f us)) w) := by
  have HUM := fun W => Lib.hid (addrUnmap_any f us W h16 hlt)
  have HFD := fun W (h : TabAt W G es st F) => Lib.hid (find_any G es st F (unmapF f us) (unmapB f us) W h (unmap7 f us h16 hlt).1 (unmap7 f us h16 hlt).2 h0 h1)
  have hgd : AllGood es := by obtain ⟨v, rfl, _, hR, _, _⟩ := hA; exact hR.2.1
  obtain ⟨ef, eb, en, ev, et, her, he16, hof⟩ := ofE_ret es (unmapF f us) (unmapB f us) hgd
  obtain ⟨cs, ecs, HP, HB⟩ := addr_boxed f us w h16
  have HA := Lib.hid (hA.below HB.out)
  have HFL := Lib.hid hA.lt.2
  have HGF := Lib.hid hA.lt.1
  have H16 := Lib.hid h16
  have E16 := Lib.hid he16
  have HOF := Lib.hid hof
  rw [ecs]
  generalize ofE es (unmapF f us) (unmapB f us) = R at *
  have HBW : Hid (Below w.heap.size w (w.alloc (.cells cs 25))) := HB
  have HSZ : Hid ((w.alloc (.cells cs 25)).heap.size = w.heap.size + 1) := Lib.hid (by simp)
  have FIN : ∀ (W3 : World) (T : Nat), Hid (FindInv G es st F W3 → Foot [G] [G] w W3 → w.heap.size < T → T < W3.heap.size → Oft G es st F R w (.returned (.int .i64 R)) (W3.setCells T 0 (entL ef eb en ev))) := fun W3 T => Lib.hid (fun ⟨st', h1, h2, h3⟩ hf hT hT2 => by
    have hf3 : Foot [T] [T] W3 (W3.setCells T 0 (entL ef eb en ev)) := foot_cells _ _ _
    have hb3 := hf3.below (B := w.heap.size) (by simp; omega) hf.size
    refine ⟨rfl, ⟨st', h1.keep hb3.size (fun k hk => hb3.block k (HFL.out k hk)), h2, h3⟩, hb3.os.trans hf.os, hb3.tape.trans hf.tape, hb3.output.trans hf.output, Nat.le_trans hf.size hb3.size, fun k hk hn => (hb3.block k hk).trans (hf.keep k hk hn), hf.new⟩)
  clear ecs h16 hlt hA hgd he16 hof HB
  go_enter Tryd.func11, Tryd.ntmps11
  go_upto_region 1 with fail
  generalize (w.alloc (.cells cs 25)) = W at *
  obtain ⟨L, hL⟩ : ∃ L, [(w.heap.size, 0, addrL f us)] = L := ⟨_, rfl⟩
  have HK : Hid (HeldL L W.drew) := Lib.hid (by rw [← hL]; intro y hy; rw [List.mem_singleton.1 hy]; exact HP.out.range)
  have MA : Hid (InL L w.heap.size 0 (addrL f us)) := Lib.hid (fun W h => h.get (by rw [← hL]; simp))
  have HKB : Hid (∀ A B, HeldL L A → w.heap.size < A.heap.size → Below A.heap.size A B → HeldL L B) := Lib.hid (fun A B h hl hb => by
    rw [← hL] at h ⊢; intro y hy; rw [List.mem_singleton.1 hy]
    exact range_belowB (h _ (by simp)) hb hl)
  have HKF : Hid (∀ A B T, HeldL L A → w.heap.size < A.heap.size → T ≠ w.heap.size → Foot [T] [T] A B → HeldL L B) := Lib.hid (fun A B T h hl hn hf => by
    rw [← hL] at h ⊢; intro y hy; rw [List.mem_singleton.1 hy]
    exact range_foot hf (h _ (by simp)) hl (by simpa using fun e => hn e.symm))
  have HGW : Hid (G < w.heap.size) := Lib.hid (HFL.out G HGF.out)
  clear hL
  refine wp_region_noPanic ?_
  refine wp_region_held_drew (S := HeldL L) (by kernel_rfl) HK.out (fun hHeld => ?_)
  refine wpAnyH_take (i := 0) (v := ?_) rfl (by kernel_rfl) (by kernel_rfl) (by kernel_rfl) (fun _ _ _ h => h) (Or.inl ⟨by rfl, ?_⟩) (by assumption) ?_
  rotate_left
  · (intro w hSw; go_simp; try (with_reducible rfl))
  try simp only [Act.put, List.getElem_toArray, List.getElem_cons_zero, List.setIfInBounds_toArray, List.set_cons_zero, List.set_cons_succ]
  refine wpAnyH_take (i := 1) (v := ?_) rfl (by kernel_rfl) (by kernel_rfl) (by kernel_rfl) (fun _ _ _ h => h) (Or.inl ⟨by rfl, ?_⟩) (by assumption) ?_
  rotate_left
  · (intro w hSw; go_simp; try (with_reducible rfl))
  try simp only [Act.put, List.getElem_toArray, List.getElem_cons_zero, List.getElem_cons_succ, List.setIfInBounds_toArray, List.set_cons_zero, List.set_cons_succ]
  refine wpAnyH_take (i := 2) (v := ?_) rfl (by kernel_rfl) (by kernel_rfl) (by kernel_rfl) (fun _ _ _ h => h) (Or.inl ⟨by rfl, ?_⟩) (by assumption) ?_
  rotate_left
  · (intro w hSw; go_simp; try (with_reducible rfl))
  try simp only [Act.put, List.getElem_toArray, List.getElem_cons_zero, List.getElem_cons_succ, List.setIfInBounds_toArray, List.set_cons_zero, List.set_cons_succ]
  refine wpAnyH_take (i := 3) rfl (by kernel_rfl) (by kernel_rfl) (by kernel_rfl) (fun _ _ _ h => h) (yields_addr_l H16 MA (by rfl) _ rfl rfl) (by assumption) ?_
  try simp only [Act.put, List.getElem_toArray, List.getElem_cons_zero, List.getElem_cons_succ, List.setIfInBounds_toArray, List.set_cons_zero, List.set_cons_succ]
  refine wpAnyH_ready (rs := [4, 9]) (by kernel_rfl) (by simp) ?_
  refine AllReadyH.cons rfl (fun K hK => ?_) (AllReadyH.one rfl rfl (fun K hK => ?_))
  · go_simp
    refine (HUM _).out.mono ?_
    rintro e V1 ⟨rfl, hb1⟩
    have HB1 : Hid (Below w.heap.size w V1) := Lib.hid (chain HBW.out ((Below.refl _ _).drew.trans hb1))
    have HT1 := Lib.hid ((HA.out.below (Below.refl _ _).drew).below hb1)
    have HL1 : Hid (w.heap.size < V1.heap.size) := Lib.hid (by have := hb1.size; have := HSZ.out; show w.heap.size < V1.heap.size; have h3 : W.drew.heap.size = W.heap.size := rfl; omega)
    have hS1 := HKB.out _ _ HK.out (by have h3 : W.drew.heap.size = W.heap.size := rfl; have := HSZ.out; omega) hb1
    clear hb1 HUM
    go_wp2_with fail
    refine hK.out _ _ hS1 (fun hHeld1 => ?_)
    clear hK K
    try simp only [Act.put, List.getElem_toArray, List.getElem_cons_zero, List.getElem_cons_succ, List.setIfInBounds_toArray, List.set_cons_zero, List.set_cons_succ]
    refine wpAnyH_ready (rs := [5, 9]) (by kernel_rfl) (by simp) ?_
    refine AllReadyH.cons rfl (fun K hK => ?_) (AllReadyH.one rfl rfl (fun K hK => ?_))
    · go_simp
      refine (HFD _ HT1.out).out.mono ?_
      rintro e V2 ⟨rfl, hi2, hf2⟩
      rw [her]
      have HI : Hid (FindInv G es st F V2) := Lib.hid hi2
      have HF2 := Lib.hid hf2
      clear hi2 hf2
      have hS2 := HKF.out _ _ G hS1 HL1.out (by have := HGW.out; omega) HF2.out
      have HF0 : Hid (Foot [G] [G] w V2) := Lib.hid ((Foot.ofBelow [G] HB1.out).trans HF2.out)
      go_wp2_with fail
      refine hK.out _ _ hS2 (fun hHeld2 => ?_)
      clear hK K
      try simp only [Act.put, List.getElem_toArray, List.getElem_cons_zero, List.getElem_cons_succ, List.setIfInBounds_toArray, List.set_cons_zero, List.set_cons_succ]
      refine wpAnyH_take (i := 6) (v := ?_) rfl (by kernel_rfl) (by kernel_rfl) (by kernel_rfl) (fun _ _ _ h => h) (Or.inl ⟨by rfl, ?_⟩) (by assumption) ?_
      rotate_left
      · (intro w hSw; go_simp; try (with_reducible rfl))
      try simp only [Act.put, List.getElem_toArray, List.getElem_cons_zero, List.getElem_cons_succ, List.setIfInBounds_toArray, List.set_cons_zero, List.set_cons_succ]
      refine wpAnyH_take (i := 7) (v := ?_) rfl (by kernel_rfl) (by kernel_rfl) (by kernel_rfl) (fun _ _ _ h => h) (Or.inl ⟨by rfl, ?_⟩) (by assumption) ?_
      rotate_left
      · (intro w hSw; go_simp; try (with_reducible rfl))
      try simp only [Act.put, List.getElem_toArray, List.getElem_cons_zero, List.getElem_cons_succ, List.setIfInBounds_toArray, List.set_cons_zero, List.set_cons_succ]
      refine wpAnyH_take (i := 8) (v := ?_) rfl (by kernel_rfl) (by kernel_rfl) (by kernel_rfl) (fun _ _ _ h => h) (Or.inl ⟨by rfl, ?_⟩) (by assumption) ?_
      rotate_left
      · (intro w hSw; go_simp; try (with_reducible rfl))
      try simp only [Act.put, List.getElem_toArray, List.getElem_cons_zero, List.getElem_cons_succ, List.setIfInBounds_toArray, List.set_cons_zero, List.set_cons_succ]
      have HL2a : Hid (w.heap.size < V2.heap.size) := Lib.hid (Nat.lt_of_lt_of_le HL1.out HF2.out.size)
      have hba : Below V2.heap.size V2 (V2.alloc (.cells zE 36)) := (Below.refl _ _).alloc (Nat.le_refl _) _
      have HI3 : Hid (FindInv G es st F (V2.alloc (.cells zE 36))) := Lib.hid (by obtain ⟨st', a1, a2, a3⟩ := HI.out; exact ⟨st', a1.below hba, a2, a3⟩)
      have HF3 : Hid (Foot [G] [G] w (V2.alloc (.cells zE 36))) := Lib.hid (HF0.out.trans (Foot.ofBelow [G] hba))
      have HE := Lib.hid (entT_zeroed V2)
      have HTL : Hid (w.heap.size < V2.heap.size) := HL2a
      have HTT : Hid (V2.heap.size < (V2.alloc (.cells zE 36)).heap.size) := Lib.hid (by simp)
      have HL2 : Hid (w.heap.size < (V2.alloc (.cells zE 36)).heap.size) := Lib.hid (by have := HL2a.out; simp; omega)
      have hS3 := HKB.out _ _ hS2 HL2a.out hba
      clear HI hba hS2 hHeld hHeld1 hHeld2 hS1
      refine wpAnyH_ready (rs := [9]) (by kernel_rfl) (by simp) ?_
      refine AllReadyH.one rfl rfl (fun K hK => ?_)
      go_wp2_with fail
      refine hK.out _ _ hS3 (fun hHeld3 => ?_)
      clear hK K
      try simp only [Act.put, List.getElem_toArray, List.getElem_cons_zero, List.getElem_cons_succ, List.setIfInBounds_toArray, List.set_cons_zero, List.set_cons_succ]
      refine wpAnyH_ready (rs := [10]) (by kernel_rfl) (by simp) ?_
      refine AllReadyH.one rfl rfl (fun K hK => ?_)
      refine wp_store_entT HE _ _ E16 rfl rfl rfl (fun HQ => ?_)
      refine hK.out _ _ (HKF.out _ _ _ (by assumption) HL2.out (by have := HTL.out; omega) (foot_cells _ _ _)) (fun hHeld9 => ?_)
      clear hK K
      try simp only [Act.put, List.getElem_toArray, List.getElem_cons_zero, List.getElem_cons_succ]
      refine wpAnyH_take (i := 11) (v := ?_) rfl (by kernel_rfl) (by kernel_rfl) (by kernel_rfl) (fun _ _ _ h => h) (Or.inl ⟨by rfl, ?_⟩) (by assumption) ?_
      rotate_left
      · (intro w hSw; go_simp; try (with_reducible rfl))
      try simp only [Act.put, List.getElem_toArray, List.getElem_cons_zero, List.getElem_cons_succ, List.setIfInBounds_toArray, List.set_cons_zero, List.set_cons_succ]
      refine wpAnyH_done (by kernel_rfl) ?_ _
      refine NoPanic.normal ?_
      have hv := HQ.out.val
      have HO := Lib.hid ((FIN _ _).out HI3.out HF3.out HTL.out HTT.out)
      cases et with
      | true =>
        have ER := HOF.out
        rw [if_pos rfl] at ER
        subst ER
        go_wp2_with fail
        go_ret
        exact HO.out
      | false =>
        have ER := HOF.out
        rw [if_neg (by decide)] at ER
        subst ER
        go_wp2_with fail
        go_ret
        exact HO.out
    · have hba : Below V1.heap.size V1 (V1.alloc (.cells zE 36)) := (Below.refl _ _).alloc (Nat.le_refl _) _
      have hS3 := HKB.out _ _ hS1 HL1.out hba
      have HE := Lib.hid (entT_zeroed V1)
      have HTL : Hid (w.heap.size < V1.heap.size) := HL1
      have HB2 := Lib.hid (chain HB1.out hba)
      have HTT : Hid (V1.heap.size < (V1.alloc (.cells zE 36)).heap.size) := Lib.hid (by simp)
      replace HT1 := Lib.hid (HT1.out.below hba)
      clear hba hS1 hHeld hHeld1 HB1 HL1
      go_wp2_with fail
      refine hK.out _ _ hS3 (fun hHeld3 => ?_)
      clear hK K
      try simp only [Act.put, List.getElem_toArray, List.getElem_cons_zero, List.getElem_cons_succ, List.setIfInBounds_toArray, List.set_cons_zero, List.set_cons_succ]
      generalize (V1.alloc (.cells zE 36)) = X at *
      generalize V1.heap.size = T at *
      refine wpAnyH_ready (rs := [5]) (by kernel_rfl) (by simp) ?_
      refine AllReadyH.cons rfl (fun K hK => ?_) AllReadyH.nil
      go_simp
      refine (HFD _ HT1.out).out.mono ?_
      rintro e V2 ⟨rfl, hi2, hf2⟩
      rw [her]
      have HI : Hid (FindInv G es st F V2) := Lib.hid hi2
      have HF2 := Lib.hid hf2
      clear hi2 hf2
      have hS2 := HKF.out _ _ G hS3 (by have := HTT.out; have := HTL.out; omega) (by have := HGW.out; omega) HF2.out
      have HF : Hid (Foot [G] [G] w V2) := Lib.hid ((Foot.ofBelow [G] HB2.out).trans HF2.out)
      replace HE := Lib.hid (HE.out.same HF2.out.size (HF2.out.keep T HTT.out (by have := HGW.out; have := HTL.out; simp; omega)))
      replace HTT : Hid (T < V2.heap.size) := Lib.hid (Nat.lt_of_lt_of_le HTT.out HF2.out.size)
      have HL2 : Hid (w.heap.size < V2.heap.size) := Lib.hid (by have := HTT.out; have := HTL.out; omega)
      clear HF2 HB2 HT1 hS3 hHeld3
      go_wp2_with fail
      refine hK.out _ _ hS2 (fun hHeld2 => ?_)
      clear hK K
      try simp only [Act.put, List.getElem_toArray, List.getElem_cons_zero, List.getElem_cons_succ, List.setIfInBounds_toArray, List.set_cons_zero, List.set_cons_succ]
      refine wpAnyH_take (i := 6) (v := ?_) rfl (by kernel_rfl) (by kernel_rfl) (by kernel_rfl) (fun _ _ _ h => h) (Or.inl ⟨by rfl, ?_⟩) (by assumption) ?_
      rotate_left
      · (intro w hSw; go_simp; try (with_reducible rfl))
      try simp only [Act.put, List.getElem_toArray, List.getElem_cons_zero, List.getElem_cons_succ, List.setIfInBounds_toArray, List.set_cons_zero, List.set_cons_succ]
      refine wpAnyH_take (i := 7) (v := ?_) rfl (by kernel_rfl) (by kernel_rfl) (by kernel_rfl) (fun _ _ _ h => h) (Or.inl ⟨by rfl, ?_⟩) (by assumption) ?_
      rotate_left
      · (intro w hSw; go_simp; try (with_reducible rfl))
      try simp only [Act.put, List.getElem_toArray, List.getElem_cons_zero, List.getElem_cons_succ, List.setIfInBounds_toArray, List.set_cons_zero, List.set_cons_succ]
      refine wpAnyH_take (i := 8) (v := ?_) rfl (by kernel_rfl) (by kernel_rfl) (by kernel_rfl) (fun _ _ _ h => h) (Or.inl ⟨by rfl, ?_⟩) (by assumption) ?_
      rotate_left
      · (intro w hSw; go_simp; try (with_reducible rfl))
      try simp only [Act.put, List.getElem_toArray, List.getElem_cons_zero, List.getElem_cons_succ, List.setIfInBounds_toArray, List.set_cons_zero, List.set_cons_succ]
      refine wpAnyH_ready (rs := [10]) (by kernel_rfl) (by simp) ?_
      refine AllReadyH.one rfl rfl (fun K hK => ?_)
      refine wp_store_entT HE _ _ E16 rfl rfl rfl (fun HQ => ?_)
      refine hK.out _ _ (HKF.out _ _ _ (by assumption) HL2.out (by have := HTL.out; omega) (foot_cells _ _ _)) (fun hHeld9 => ?_)
      clear hK K
      try simp only [Act.put, List.getElem_toArray, List.getElem_cons_zero, List.getElem_cons_succ]
      refine wpAnyH_take (i := 11) (v := ?_) rfl (by kernel_rfl) (by kernel_rfl) (by kernel_rfl) (fun _ _ _ h => h) (Or.inl ⟨by rfl, ?_⟩) (by assumption) ?_
      rotate_left
      · (intro w hSw; go_simp; try (with_reducible rfl))
      try simp only [Act.put, List.getElem_toArray, List.getElem_cons_zero, List.getElem_cons_succ, List.setIfInBounds_toArray, List.set_cons_zero, List.set_cons_succ]
      refine wpAnyH_done (by kernel_rfl) ?_ _
      refine NoPanic.normal ?_
      have hv := HQ.out.val
      have HO := Lib.hid ((FIN _ _).out HI.out HF.out HTL.out HTT.out)
      cases et with
      | true =>
        have ER := HOF.out
        rw [if_pos rfl] at ER
        subst ER
        go_wp2_with fail
        go_ret
        exact HO.out
      | false =>
        have ER := HOF.out
        rw [if_neg (by decide)] at ER
        subst ER
        go_wp2_with fail
        go_ret
        exact HO.out
  · have HAD := Lib.hid (HA.out.below (Below.refl _ _).drew)
    have HBD : Hid (Below w.heap.size w W.drew) := Lib.hid HBW.out.drew
    have HZD : Hid (W.drew.heap.size = w.heap.size + 1) := HSZ
    clear HA HBW HSZ HP
    generalize W.drew = V at *
    have hba : Below V.heap.size V (V.alloc (.cells zE 36)) := (Below.refl _ _).alloc (Nat.le_refl _) _
    have HLW : Hid (w.heap.size < V.heap.size) := Lib.hid (by have := HZD.out; omega)
    have hS0 := HKB.out _ _ HK.out HLW.out hba
    have HE0 := Lib.hid (entT_zeroed V)
    have HTL : Hid (w.heap.size < V.heap.size) := HLW
    have HB0 : Hid (Below w.heap.size w (V.alloc (.cells zE 36))) := Lib.hid (chain HBD.out hba)
    have HT00 : Hid (V.heap.size < (V.alloc (.cells zE 36)).heap.size) := Lib.hid (by simp)
    have HA0 := Lib.hid (HAD.out.below hba)
    clear hba hHeld HK HLW HAD HBD HZD
    go_wp2_with fail
    refine hK.out _ _ hS0 (fun hHeld0 => ?_)
    clear hK K
    try simp only [Act.put, List.getElem_toArray, List.getElem_cons_zero, List.getElem_cons_succ, List.setIfInBounds_toArray, List.set_cons_zero, List.set_cons_succ]
    generalize (V.alloc (.cells zE 36)) = X at *
    generalize V.heap.size = T at *
    refine wpAnyH_ready (rs := [4]) (by kernel_rfl) (by simp) ?_
    refine AllReadyH.cons rfl (fun K hK => ?_) AllReadyH.nil
    go_simp
    refine (HUM _).out.mono ?_
    rintro e V1 ⟨rfl, hb1⟩
    have HB2 : Hid (Below w.heap.size w V1) := Lib.hid (chain HB0.out hb1)
    have HT1 := Lib.hid (HA0.out.below hb1)
    have HL1 : Hid (w.heap.size < V1.heap.size) := Lib.hid (by have := hb1.size; have := HTL.out; have := HT00.out; omega)
    have hS1 := HKB.out _ _ hS0 (by have := HTL.out; have := HT00.out; omega) hb1
    have HE := Lib.hid (HE0.out.below hb1)
    have HTT : Hid (T < V1.heap.size) := Lib.hid (Nat.lt_of_lt_of_le HT00.out hb1.size)
    clear hb1 HUM HB0 HA0 HT00 HE0 hHeld0 hS0
    go_wp2_with fail
    refine hK.out _ _ hS1 (fun hHeld1 => ?_)
    clear hK K
    try simp only [Act.put, List.getElem_toArray, List.getElem_cons_zero, List.getElem_cons_succ, List.setIfInBounds_toArray, List.set_cons_zero, List.set_cons_succ]
    refine wpAnyH_ready (rs := [5]) (by kernel_rfl) (by simp) ?_
    refine AllReadyH.cons rfl (fun K hK => ?_) AllReadyH.nil
    go_simp
    refine (HFD _ HT1.out).out.mono ?_
    rintro e V2 ⟨rfl, hi2, hf2⟩
    rw [her]
    have HI : Hid (FindInv G es st F V2) := Lib.hid hi2
    have HF2 := Lib.hid hf2
    clear hi2 hf2
    have hS2 := HKF.out _ _ G hS1 HL1.out (by have := HGW.out; omega) HF2.out
    have HF : Hid (Foot [G] [G] w V2) := Lib.hid ((Foot.ofBelow [G] HB2.out).trans HF2.out)
    replace HE := Lib.hid (HE.out.same HF2.out.size (HF2.out.keep T HTT.out (by have := HGW.out; have := HTL.out; simp; omega)))
    replace HTT : Hid (T < V2.heap.size) := Lib.hid (Nat.lt_of_lt_of_le HTT.out HF2.out.size)
    have HL2 : Hid (w.heap.size < V2.heap.size) := Lib.hid (by have := HTT.out; have := HTL.out; omega)
    clear HF2 HB2 HT1 hS1 hHeld1
    go_wp2_with fail
    refine hK.out _ _ hS2 (fun hHeld2 => ?_)
    clear hK K
    try simp only [Act.put, List.getElem_toArray, List.getElem_cons_zero, List.getElem_cons_succ, List.setIfInBounds_toArray, List.set_cons_zero, List.set_cons_succ]
    refine wpAnyH_take (i := 6) (v := ?_) rfl (by kernel_rfl) (by kernel_rfl) (by kernel_rfl) (fun _ _ _ h => h) (Or.inl ⟨by rfl, ?_⟩) (by assumption) ?_
    rotate_left
    · (intro w hSw; go_simp; try (with_reducible rfl))
    try simp only [Act.put, List.getElem_toArray, List.getElem_cons_zero, List.getElem_cons_succ, List.setIfInBounds_toArray, List.set_cons_zero, List.set_cons_succ]
    refine wpAnyH_take (i := 7) (v := ?_) rfl (by kernel_rfl) (by kernel_rfl) (by kernel_rfl) (fun _ _ _ h => h) (Or.inl ⟨by rfl, ?_⟩) (by assumption) ?_
    rotate_left
    · (intro w hSw; go_simp; try (with_reducible rfl))
    try simp only [Act.put, List.getElem_toArray, List.getElem_cons_zero, List.getElem_cons_succ, List.setIfInBounds_toArray, List.set_cons_zero, List.set_cons_succ]
    refine wpAnyH_take (i := 8) (v := ?_) rfl (by kernel_rfl) (by kernel_rfl) (by kernel_rfl) (fun _ _ _ h => h) (Or.inl ⟨by rfl, ?_⟩) (by assumption) ?_
    rotate_left
    · (intro w hSw; go_simp; try (with_reducible rfl))
    try simp only [Act.put, List.getElem_toArray, List.getElem_cons_zero, List.getElem_cons_succ, List.setIfInBounds_toArray, List.set_cons_zero, List.set_cons_succ]
    refine wpAnyH_ready (rs := [10]) (by kernel_rfl) (by simp) ?_
    refine AllReadyH.one rfl rfl (fun K hK => ?_)
    refine wp_store_entT HE _ _ E16 rfl rfl rfl (fun HQ => ?_)
    refine hK.out _ _ (HKF.out _ _ _ (by assumption) HL2.out (by have := HTL.out; omega) (foot_cells _ _ _)) (fun hHeld9 => ?_)
    clear hK K
    try simp only [Act.put, List.getElem_toArray, List.getElem_cons_zero, List.getElem_cons_succ]
    refine wpAnyH_take (i := 11) (v := ?_) rfl (by kernel_rfl) (by kernel_rfl) (by kernel_rfl) (fun _ _ _ h => h) (Or.inl ⟨by rfl, ?_⟩) (by assumption) ?_
    rotate_left
    · (intro w hSw; go_simp; try (with_reducible rfl))
    try simp only [Act.put, List.getElem_toArray, List.getElem_cons_zero, List.getElem_cons_succ, List.setIfInBounds_toArray, List.set_cons_zero, List.set_cons_succ]
    refine wpAnyH_done (by kernel_rfl) ?_ _
    refine NoPanic.normal ?_
    have hv := HQ.out.val
    have HO := Lib.hid ((FIN _ _).out HI.out HF.out HTL.out HTT.out)
    cases et with
    | true =>
      have ER := HOF.out
      rw [if_pos rfl] at ER
      subst ER
      go_wp2_with fail
      go_ret
      exact HO.out
    | false =>
      have ER := HOF.out
      rw [if_neg (by decide)] at ER
      subst ER
      go_wp2_with fail
      go_ret
      exact HO.out
end Go.Proofs.YtgbajagacmfcmaaDoor
/- The document's example holds: abatislaw07.lives. -/
namespace Go.Proofs.YtgbajagacmfcmaaDoor
open Go.RowKit
set_option linter.unusedVariables false
set_option maxRecDepth 20000

theorem map_example : ofE (defE 11) (unmapF (mapF 4) (mapB 4 (b4 3232235521))) (unmapB (mapF 4) (mapB 4 (b4 3232235521))) = 1 := by kernel_rfl
theorem map_example_ok : (mapB 4 (b4 3232235521)).length = 16 ∧ ∀ x ∈ mapB 4 (b4 3232235521), x < 256 := by
  have e : mapB 4 (b4 3232235521) = [0, 0, 0, 0, 0, 0, 0, 0, 0, 0, 255, 255, 192, 168, 0, 1] := by kernel_rfl
  rw [e]
  exact ⟨rfl, by decide⟩
set_option maxRecDepth 100000 in
set_option maxHeartbeats 1000000 in
theorem lives7_any (w : World) (ht : Tabs w) : Calls Tryd.prog 18 #[] w fun e w' => e = .returned (.bool true) ∧ Below w.heap.size w w' := by
  have HDE := Lib.hid (default_any w ht)
  have HO4 := fun W => Lib.hid (refOf4_any 3232235521 W (by decide))
  have HMA := fun W => Lib.hid (refMap_any 4 (b4 3232235521) W (b4_len _) (b4_lt _))
  have HOF := fun W G F (h : TabAt W G (defE 11) 0 F) => Lib.hid (mapOf_any G (defE 11) 0 F (mapF 4) (mapB 4 (b4 3232235521)) W h map_example_ok.1 map_example_ok.2 (by decide) (by decide))
  rw [map_example] at HOF
  generalize mapF 4 = mf at *
  generalize mapB 4 (b4 3232235521) = mb at *
  obtain ⟨ab, hab⟩ : ∃ ab, b4 3232235521 = ab := ⟨_, rfl⟩
  rw [hab] at HO4 HMA
  clear ht hab
  generalize defE 11 = es at *
  go_enter Tryd.func18, Tryd.ntmps18
  go_wp2_with fail
  refine HDE.out.mono ?_
  rintro e w1 ⟨G, F, rfl, hT, hF, hb⟩
  have HT := Lib.hid hT
  have HF := Lib.hid hF
  have HB := Lib.hid hb
  clear hT hF hb HDE
  go_wp2_with fail
  refine (HO4 _).out.mono ?_
  rintro e w2 ⟨rfl, hb⟩
  replace HT := Lib.hid (HT.out.below hb)
  replace HB := Lib.hid (chain HB.out hb)
  clear hb HO4
  go_wp2_with fail
  refine (HMA _).out.mono ?_
  rintro e w3 ⟨rfl, hb⟩
  replace HT := Lib.hid (HT.out.below hb)
  replace HB := Lib.hid (chain HB.out hb)
  clear hb HMA
  go_wp2_with fail
  refine (HOF _ G F HT.out).out.mono ?_
  rintro e w4 ⟨rfl, hi, hf⟩
  have HB4 := Lib.hid (HB.out.trans (hf.below (B := w.heap.size) (by have := HF.out G HT.out.lt.1; simpa using this) HB.out.size))
  clear hi hf HOF HB HT
  go_wp2_with fail
  go_ret
  exact ⟨rfl, HB4.out⟩
end Go.Proofs.YtgbajagacmfcmaaDoor
/- What the laws of layer 7 lean on: maps of rows that came in; Of and Len, as the laws call them. -/
namespace Go.Proofs.YtgbajagacmfcmaaDoor
open Go.RowKit
set_option linter.unusedVariables false
set_option maxRecDepth 20000

theorem flatR_app (xs ys : List Raw) : flatR (xs ++ ys) = flatR xs ++ flatR ys := by simp [flatR]
theorem newA_take (D : List Raw) (k : Nat) (hk : k ≤ D.length) : newA (D.take k) (D.take k).length = newA D k := by
  unfold newA
  rw [List.take_length]
theorem mapNew_raws (a : Option Addr) (len cap : Nat) (D : List Raw) (w : World) (h : RawsAt w a len cap D) (k : Nat) (hk : k ≤ len) (hle : k ≤ 900) :
    Calls Tryd.prog 9 #[.slice a k cap] w fun e w' => ∃ G F, e = .returned (.pointer (some ⟨G, 0, none⟩)) ∧ TabAt w' G (newA D k) 0 F ∧ (∀ j ∈ F, w.heap.size ≤ j) ∧ Below w.heap.size w w' := by
  obtain ⟨hc1, hc2, hl, hok, hrow⟩ := h
  by_cases h0 : k = 0
  · subst h0
    exact mapNew_nil a cap w
  · rcases hrow with h | ⟨g, o, rfl, hr, hg⟩
    · omega
    · have hlk : (D.take k).length = k := by rw [List.length_take]; omega
      have := mapNew_some g o cap (D.take k) w (fun j u hu => hr j u (by
        show (flatR D)[j]? = some u
        have hj := (List.getElem?_eq_some_iff.1 hu).1
        rw [← List.take_append_drop k D, flatR_app, List.getElem?_append_left hj]
        exact hu)) hg (fun r hr => hok r (List.mem_of_mem_take hr)) (by omega)
      rw [newA_take D k (by omega), hlk] at this
      exact this
theorem mapLen_any (G : Nat) (es : List Ent) (st : Int) (F : List Nat) (w : World) (h : TabAt w G es st F) :
    Calls Tryd.prog 13 #[.pointer (some ⟨G, 0, none⟩)] w fun e w' => e = .returned (.int .i64 (es.length : Int)) ∧ w' = w := by
  obtain ⟨v, rfl, hT, hR, _, _⟩ := h
  exact tabLen_any G v st es w hT hR
/-- Of, at a table of few steps. -/
theorem mapOf_few (G : Nat) (es : List Ent) (st : Int) (F : List Nat) (f : Int) (us : List Nat) (w : World) (hA : TabAt w G es st F) (h16 : us.length = 16) (hlt : ∀ y ∈ us, y < 256) (h0 : 0 ≤ st) (h1 : st ≤ 700000) (hle : es.length ≤ 1000) :
    Calls Tryd.prog 11 #[.pointer (some ⟨G, 0, none⟩), addrV f us] w fun e w' => e = .returned (.int .i64 (ofE es (unmapF f us) (unmapB f us))) ∧ (∃ st', TabAt w' G es st' F ∧ 0 ≤ st' ∧ st' ≤ st + 1419) ∧ Foot [G] [G] w w' :=
  (mapOf_any G es st F f us w hA h16 hlt h0 (by omega)).mono fun e w' ⟨h2, ⟨st', h3, h4, h5⟩, h6⟩ => ⟨h2, ⟨st', h3, by omega, by have := bl_small hle; omega⟩, h6⟩
theorem AddrAt.foot7 {F F' : List Nat} {w w' : World} {G : Nat} {f : Int} {bs : List Nat} (h : AddrAt w G f bs) (hf : Foot F F' w w') (hn : G ∉ F) : AddrAt w' G f bs :=
  AddrAt.ofRange h.len (Nat.lt_of_lt_of_le h.lt hf.size) (range_foot hf h.range h.lt hn) (fun j hj => by
    rw [World.cell?_of_block (w := w) (a := ⟨G, 0 + j, none⟩) (hf.keep G h.lt hn), World.frozen?_of_block (w := w) (a := ⟨G, 0 + j, none⟩) (hf.keep G h.lt hn)]; exact h.there j hj)
theorem HeldL.foot {L : List (Nat × Nat × List Value)} {F F' : List Nat} {w w' : World} (h : HeldL L w) (hf : Foot F F' w w') (hl : ∀ x ∈ L, x.1 < w.heap.size ∧ x.1 ∉ F) : HeldL L w' := fun x hx => range_foot hf (h x hx) (hl x hx).1 (hl x hx).2
theorem HeldL.below {L : List (Nat × Nat × List Value)} {w w' : World} (h : HeldL L w) (hb : Below w.heap.size w w') (hl : ∀ x ∈ L, x.1 < w.heap.size) : HeldL L w' := fun x hx => range_belowB (h x hx) hb (hl x hx)
end Go.Proofs.YtgbajagacmfcmaaDoor
/- Contracts of slices.Min over ints and of the landed space.Least. -/
namespace Go.Proofs.YtgbajagacmfcmaaDoor
open Go.RowKit
set_option linter.unusedVariables false
set_option maxRecDepth 20000

/-- A row of one's own of numbers, as a walk reads it. -/
theorem own_int_form {w : World} {B : Nat} {v : Value} {l : List Nat} (h : w.ownsRow B 3 1 v l.length (ints l)) :
    (v = .slice none 0 0 ∧ l = []) ∨ ∃ g cap, v = .slice (some ⟨g, 0, none⟩) l.length cap ∧ B ≤ g ∧ g < w.heap.size ∧ l.length ≤ cap ∧ cap ≤ maxLen ∧ w.rangeAt g 0 (ints l) := by
  obtain ⟨h1, h2⟩ := h
  rcases h2 with ⟨e1, e2⟩ | ⟨g, cap, cur, e1, e2, e3, e4, e5, e6, e7⟩
  · exact .inl ⟨e1, List.eq_nil_of_length_eq_zero e2⟩
  · refine .inr ⟨g, cap, e1, e2, ?_, e4, e5, fun j u hu => ?_⟩
    · apply Classical.byContradiction
      intro h
      rw [Array.getElem?_eq_none (by omega)] at e3
      cases e3
    · rw [Nat.zero_add, cell_of_row w g j cur _ _ e3, ← Array.getElem?_toList]
      rw [← e7, List.getElem?_take] at hu
      split at hu
      · exact hu
      · cases hu
theorem int_at {w : World} {g : Nat} {l : List Nat} (h : w.rangeAt g 0 (ints l)) (k : Nat) (hk : k < l.length) : w.cell? ⟨g, k, none⟩ = some (.int .i64 ((l[k] : Nat) : Int)) := by
  have := h k (.int .i64 ((l[k] : Nat) : Int)) (by unfold ints; rw [List.getElem?_map, List.getElem?_eq_getElem hk]; rfl)
  rwa [Nat.zero_add] at this
/-- The least of the first k. -/
def LeastOf (l : List Nat) (k : Nat) (m : Nat) : Prop := m ∈ l.take k ∧ ∀ x ∈ l.take k, m ≤ x
theorem least_next {l : List Nat} {k m x : Nat} (h : LeastOf l k m) (hk : k < l.length) (hx : l[k] = x) : (x < m → LeastOf l (k + 1) x) ∧ (¬ x < m → LeastOf l (k + 1) m) := by
  have e : l.take (k + 1) = l.take k ++ [x] := by rw [List.take_succ_eq_append_getElem hk, hx]
  obtain ⟨h1, h2⟩ := h
  refine ⟨fun hlt => ?_, fun hlt => ?_⟩
  · refine ⟨by rw [e]; simp, fun y hy => ?_⟩
    rw [e] at hy
    rcases List.mem_append.1 hy with hy | hy
    · have := h2 y hy; omega
    · rw [List.mem_singleton.1 hy]; exact Nat.le_refl _
  · refine ⟨by rw [e]; exact List.mem_append_left _ h1, fun y hy => ?_⟩
    rw [e] at hy
    rcases List.mem_append.1 hy with hy | hy
    · exact h2 y hy
    · rw [List.mem_singleton.1 hy]; omega
set_option maxRecDepth 100000 in
set_option maxHeartbeats 1000000 in
theorem min_any (g cap : Nat) (l : List Nat) (w : World) (hr : w.rangeAt g 0 (ints l)) (h0 : 0 < l.length) (hn : l.length ≤ 100000) :
    Calls Tryd.prog 45 #[.slice (some ⟨g, 0, none⟩) l.length cap] w fun e w' => (∃ m : Nat, e = .returned (.int .i64 (m : Int)) ∧ LeastOf l l.length m) ∧ w' = w := by
  have HR := Lib.hid hr
  have hc0 := int_at hr 0 h0
  have HL1 : Hid (LeastOf l 1 l[0]) := Lib.hid (by
    obtain ⟨y, r, rfl⟩ := List.exists_cons_of_ne_nil (List.ne_nil_of_length_pos h0)
    exact ⟨by simp, by simp⟩)
  obtain ⟨x0, hx0⟩ : ∃ x0, l[0] = x0 := ⟨_, rfl⟩
  rw [hx0] at hc0 HL1
  obtain ⟨N, hN⟩ : ∃ N, l.length = N := ⟨_, rfl⟩
  have HN := Lib.hid hN
  rw [hN] at h0 hn ⊢
  clear hr hx0 hN
  have hd1 : decide ((N : Int) < 1) = false := by simp; omega
  have hd1n : decide (N < 1) = false := by simp; omega
  have hpos : (0 : Int) < (N : Int) := by omega
  go_enter Tryd.func45, Tryd.ntmps45
  go_wp2_with fail
  clear hc0
  go_loop [3, 4] (fun s i => ∃ (k m : Nat), 1 ≤ k ∧ k ≤ N ∧ i = .int .i64 (k : Int) ∧ s = .int .i64 (m : Int) ∧ Hid (LeastOf l k m)) (fun _ i => N - (intOf i).toNat)
  case atStart => exact ⟨1, x0, Nat.le_refl _, by omega, rfl, rfl, HL1⟩
  case round =>
    clear HL1
    obtain ⟨k, m, hk1, hk, rfl, rfl, HL⟩ := hrel
    by_cases hkN : k < N
    · have hd : decide ((k : Int) < (N : Int)) = true := by simp; omega
      have hdn : decide (k < N) = true := by simp; omega
      have hkl : k < l.length := by rw [HN.out]; exact hkN
      have hc := int_at HR.out k hkl
      obtain ⟨x, hx⟩ : ∃ x, l[k] = x := ⟨_, rfl⟩
      rw [hx] at hc
      have HNX := Lib.hid (least_next HL.out hkl hx)
      have hb1 : (0 : Int) ≤ (k : Int) := by omega
      have hb2 : (k : Int) < (N : Int) := by omega
      clear hx hkl
      by_cases hxm : x < m
      · have hxi : (x : Int) < (m : Int) := by omega
        have hxd : decide ((x : Int) < (m : Int)) = true := by simp; omega
        have hmn : min (m : Int) (x : Int) = (x : Int) := by omega
        have HLn := Lib.hid (HNX.out.1 hxm)
        clear HNX HL
        go_wp2_with fail
        go_round
        case rel => exact ⟨k + 1, x, by omega, by omega, by go_num, by first | rfl | (congr 1; omega) | (congr 1; split <;> omega), HLn⟩
        case measure => simp [intOf]; omega
      · have hxi : ¬ (x : Int) < (m : Int) := by omega
        have hxd : decide ((x : Int) < (m : Int)) = false := by simp; omega
        have hmn : min (m : Int) (x : Int) = (m : Int) := by omega
        have HLn := Lib.hid (HNX.out.2 hxm)
        clear HNX HL
        go_wp2_with fail
        go_round
        case rel => exact ⟨k + 1, m, by omega, by omega, by go_num, by first | rfl | (congr 1; omega) | (congr 1; split <;> omega), HLn⟩
        case measure => simp [intOf]; omega
    · obtain rfl : k = N := by omega
      have hd : decide ((k : Int) < (k : Int)) = false := by simp
      go_wp2_with fail
      go_ret
      exact ⟨⟨m, rfl, HL.out⟩, rfl⟩
theorem least_some (g cap : Nat) (l : List Nat) (w : World) (hr : w.rangeAt g 0 (ints l)) (h0 : 0 < l.length) (hn : l.length ≤ 100000) :
    Calls Tryd.prog 27 #[.slice (some ⟨g, 0, none⟩) l.length cap] w fun e w' => (∃ m : Nat, e = .returned (.int .i64 (m : Int)) ∧ LeastOf l l.length m) ∧ w' = w := by
  have HMI := Lib.hid (min_any g cap l w hr h0 hn)
  obtain ⟨N, hN⟩ : ∃ N, l.length = N := ⟨_, rfl⟩
  rw [hN] at h0 hn HMI ⊢
  have hd1 : ((N : Int) == 0) = false := by simp; omega
  have hd2 : (N == 0) = false := by simp; omega
  clear hr hN
  go_enter Tryd.func27, Tryd.ntmps27
  go_wp2_with fail
  refine HMI.out.mono ?_
  rintro e w1 ⟨⟨m, rfl, hm⟩, rfl⟩
  have HM := Lib.hid hm
  clear hm HMI
  go_wp2_with fail
  go_ret
  exact ⟨⟨m, rfl, HM.out⟩, rfl⟩
theorem least_nil (w : World) : Calls Tryd.prog 27 #[.slice none 0 0] w fun e w' => e = .returned (.int .i64 2) ∧ w' = w := by
  go_enter Tryd.func27, Tryd.ntmps27
  go_wp2_with fail
  go_ret
  exact ⟨rfl, rfl⟩
end Go.Proofs.YtgbajagacmfcmaaDoor
/- What a tied card over strconv's three tables gives a walk: the table of powers of ten, in whatever later world. -/
namespace Go.Proofs.YtgbajagacmfcmaaDoor
open Go.ChangeShapes Go.WideShapes Go.ChangeAt Go.RowKit
set_option linter.unusedVariables false
set_option maxRecDepth 20000

theorem gPow : Tryd.prog.globalNamed "internal/strconv.uint64pow10" = some 2 := by kernel_rfl
theorem tPow : (Tryd.prog.globals[2]?).map (·.type) = some 147 := by kernel_rfl
theorem dPow : (Rows.laid_internal_strconv_uint64pow10 : DataW Unit) = Lib.tabData .u64 Lib.pow10Tab := by kernel_rfl
theorem of_laid {W : World} (L) (hL : L = [("math/bits.deBruijn32tab", Rows.laid_math_bits_deBruijn32tab), ("math/bits.deBruijn64tab", Rows.laid_math_bits_deBruijn64tab), ("internal/strconv.uint64pow10", Rows.laid_internal_strconv_uint64pow10)]) (h : laidMetH Tryd.prog L W) :
    ∀ w', Below W.heap.size W w' → Lib.TabIs Tryd.prog w' "internal/strconv.uint64pow10" .u64 Lib.pow10Tab := by
  subst hL
  rw [MakeChecks.laidMetH_plain _ _ _ (by kernel_rfl)] at h
  obtain ⟨ps, ⟨g0, t0, cs0, f0, p0, q0, hg0, ht0, hv0, hd0, ⟨g1, t1, cs1, f1, p1, q1, hg1, ht1, hv1, hd1, ⟨g2, t2, cs2, f2, p2, q2, hg2, ht2, hv2, hd2, _, _⟩, _⟩, _⟩, _, _⟩ := h
  obtain rfl := Option.some.inj (gPow.symm.trans hg2)
  obtain rfl := Option.some.inj (tPow.symm.trans ht2)
  rw [dPow] at hd2
  have hcs := Lib.cells_of_tab Tryd.underlying147 Tryd.underlying136 (by kernel_rfl) (by kernel_rfl) hd2
  have htab : Lib.TabIs Tryd.prog W "internal/strconv.uint64pow10" .u64 Lib.pow10Tab := by
    unfold Lib.TabIs
    rw [hv2, ← hcs]
  intro w' hb
  have hc := htab.cell gPow 0 (by rw [Lib.pow10Tab_length]; decide)
  have hlt : 2 < W.heap.size := by
    rcases Nat.lt_or_ge 2 W.heap.size with h | h
    · exact h
    · simp [World.cell?, Array.getElem?_eq_none h] at hc
  exact var?_below hb gPow hlt htab
end Go.Proofs.YtgbajagacmfcmaaDoor
/- What a tied card over three tables of the library, and the world's shape, give a walk: the tables' cells, and that MaxLen holds some number. -/
namespace Go.Proofs.YtgbajagacmfcmaaDoor
open Go.ChangeShapes Go.WideShapes Go.ChangeAt Go.RowKit
set_option linter.unusedVariables false
set_option maxRecDepth 20000

def bruTab : List Int := [0, 1, 56, 2, 57, 49, 28, 3, 61, 58, 42, 50, 38, 29, 17, 4, 62, 47, 59, 36, 45, 43, 51, 22, 53, 39, 33, 30, 24, 18, 12, 5, 63, 55, 48, 27, 60, 41, 37, 16, 46, 35, 44, 21, 52, 32, 23, 11, 54, 26, 40, 15, 34, 20, 31, 10, 25, 14, 19, 9, 13, 8, 7, 6]
theorem gBru : Tryd.prog.globalNamed "math/bits.deBruijn64tab" = some 4 := by kernel_rfl
theorem tBru : (Tryd.prog.globals[4]?).map (·.type) = some 152 := by kernel_rfl
theorem dBru : (Rows.laid_math_bits_deBruijn64tab : DataW Unit) = Lib.tabData .u8 bruTab := by kernel_rfl
theorem max_of {W : World} (hsh : W.ShapedOpen Tryd.prog) : ∃ m, W.cell? ⟨1, 0, none⟩ = some (.int .i64 m) :=
  cell_of_shapedOpen_int (P := Tryd.prog) (t := 3) (zero := #[.int .i64 0]) hsh (by decide +kernel) (by kernel_rfl) rfl (by kernel_rfl) (by kernel_rfl) Tryd.underlying3
theorem tabs_of {W : World} (L) (hL : L = [("math/bits.deBruijn32tab", Rows.laid_math_bits_deBruijn32tab), ("math/bits.deBruijn64tab", Rows.laid_math_bits_deBruijn64tab), ("internal/strconv.uint64pow10", Rows.laid_internal_strconv_uint64pow10)]) (h : laidMetH Tryd.prog L W) (hsh : W.ShapedOpen Tryd.prog) : Tabs W := by
  refine ⟨of_laid L hL h W (Below.refl _ _), ?_, max_of hsh⟩
  subst hL
  rw [MakeChecks.laidMetH_plain _ _ _ (by kernel_rfl)] at h
  obtain ⟨ps, ⟨g0, t0, cs0, f0, p0, q0, hg0, ht0, hv0, hd0, ⟨g1, t1, cs1, f1, p1, q1, hg1, ht1, hv1, hd1, _, _⟩, _⟩, _, _⟩ := h
  obtain rfl := Option.some.inj (gBru.symm.trans hg1)
  obtain rfl := Option.some.inj (tBru.symm.trans ht1)
  rw [dBru] at hd1
  have hcs := Lib.cells_of_tab Tryd.underlying152 Tryd.underlying5 (by kernel_rfl) (by kernel_rfl) hd1
  have htab : Lib.TabIs Tryd.prog W "math/bits.deBruijn64tab" .u8 bruTab := by
    unfold Lib.TabIs
    rw [hv1, ← hcs]
  exact htab.cell gBru 15 (by decide)

/-- The row's step, with the world's shape handed to the walk. -/
theorem handed_shaped {H : Type} {enc : TypeId × Value → H} {a : Assume} {C : Checked} {os : Os} {f : FuncId} {fn : Func} {s : ChangeSpec} {conds : List PathCond} {apart fresh handsOn again : Bool} {X : World → Array Value → Prop}
    (hX : ∀ (w w' : World) (args : Array Value), w.heap = w'.heap → X w args → X w' args)
    (own : ownKnob C.prog.godebug = none) (started : os.Started) (noInit : C.prog.inits.idxOf? f = none) (hfn : C.prog.funcs[f]? = some fn)
    (witness : ∃ (w : World) (tape : Tape) (i : Input), w.os = os ∧ (w.forCall tape i).Shaped C.prog ∧ i.vars = [] ∧ Input.okWide C.prog (w.forCall tape i) .any w.heap.size f i ∧
      ((s.pre enc C.prog fn conds apart (w.forCall tape i).memory i.args ∧ X (w.forCall tape i).memory i.args) ∧ sizedMet enc C.prog fn (OpenSpec.ofChange s) apart (w.forCall tape i).memory i.args) ∧ a.holds C.prog (lone (Frame.enter C.prog f i.args .normal) [] (w.forCall tape i)))
    (contract : ∀ (W : World) (base : Nat) (args : Array Value) (ds gs : List (DataW H)) (before : List MemPlace),
      (∀ (j : Nat) t v, fn.params[j]? = some t → args[j]? = some v → Value.okWide C.prog W .any base t v) →
      DataW.Whole enc C.prog fn.params.toList s.vars apart W args.toList ds gs before → X W args → W.ShapedOpen C.prog →
      Calls C.prog f args W fun e W' => ∃ v, e = .returned v ∧ s.post enc C.prog fn apart fresh handsOn again W args v W') :
    ReturnsInHanded a C os f .any (fun w args => (s.pre enc C.prog fn conds apart w args ∧ X w args) ∧ sizedMet enc C.prog fn (OpenSpec.ofChange s) apart w args) (s.post enc C.prog fn apart fresh handsOn again) := by
  refine returnsInHanded_of_calls own started noInit witness fun w tape i _ hsh _ hok hpre _ => ?_
  obtain ⟨_, _, _, fn', hfn', _, _, _, _, hval⟩ := hok
  obtain rfl : fn' = fn := Option.some.inj (hfn'.symm.trans hfn)
  obtain ⟨⟨⟨ds, gs, before, hw, _⟩, hx⟩, _⟩ := hpre
  refine (contract _ _ i.args ds gs before hval (DataW.Whole.of_heap (w' := w.forCall tape i) (by rfl) hw) (hX _ _ _ (by rfl) hx) hsh).mono fun e W' ⟨v, he, hp⟩ => ?_
  subst he
  exact ChangeSpec.post_blind hp

/-- An array of groups that came in, as the list of its numbers. -/
theorem groups_of (z0 : List Int) (l0 : z0.length = 8) (w0 : ∀ z ∈ z0, (Lit.int .u16 z).wf = true) : ∃ gs : List Nat, gs.length = 8 ∧ (∀ x ∈ gs, x < 65536) ∧ Value.agg (z0.map (Value.int .u16)).toArray = arr8 gs := by
  refine ⟨z0.map Int.toNat, by simpa using l0, ?_, ?_⟩
  · intro x hx
    obtain ⟨z, hz, rfl⟩ := List.mem_map.1 hx
    have := bounds_u16 (w0 z hz)
    omega
  · unfold arr8
    rw [List.map_map]
    congr 2
    apply List.map_congr_left
    intro z hz
    have := bounds_u16 (w0 z hz)
    show Value.int .u16 z = Value.int .u16 ((z.toNat : Nat) : Int)
    congr 1
    omega
end Go.Proofs.YtgbajagacmfcmaaDoor
/- The spaces' names, as the tied card lays them; contracts of the landed Name and Parse. -/
namespace Go.Proofs.YtgbajagacmfcmaaDoor
open Go.ChangeShapes Go.WideShapes Go.ChangeAt Go.RowKit
set_option linter.unusedVariables false
set_option maxRecDepth 20000

/-- An array of texts that reads as the list holds the list's texts, cell for cell. -/
theorem cells_of_texts {H : Type} {enc : TypeId × Value → H} {P : Program} {w : World} {base : Nat} {sp : Nat → Bool} {held : Bool} {fuel : Nat} {t e : TypeId} {n : Nat} {cs : List Value} {ss : List (List UInt8)} {p : List MemPlace}
    (ht : P.underlying t = some (.array n e)) (he : P.underlying e = some .string) (hce : P.cellsOf e = 1) (hct : P.cellsOf t = n)
    (h : DataW.trod enc P w base sp held fuel t cs = some (.agg (ss.map fun s => .lit (.string s)), p)) : cs = ss.map fun s => Value.string ⟨s.toArray⟩ := by
  cases fuel with
  | zero => simp [DataW.trod] at h
  | succ fuel =>
    simp only [DataW.trod, ht, hce, hct, Nat.mul_one] at h
    split at h
    · rename_i hl
      obtain ⟨xs, hm, hx⟩ := Option.map_eq_some_iff.1 h
      have hxs : xs.map (·.1) = ss.map fun s => (DataW.lit (.string s) : DataW H) := by
        have := congrArg Prod.fst hx
        simpa using this
      have hxl : xs.length = n := by simpa using Lib.mapM_length hm
      have hzl : ss.length = n := by
        have := congrArg List.length hxs
        simp at this
        omega
      apply List.ext_getElem?
      intro i
      by_cases hi : i < n
      · obtain ⟨b, hb, hf⟩ := Lib.mapM_at hm i i (by simp [hi])
        obtain ⟨s, hc, rfl, _⟩ := DataW.trod_string he hf
        have h1 : cs[i]? = some (.string s) := by
          have := congrArg (·[0]?) hc
          simpa [List.getElem?_take, List.getElem?_drop] using this
        have h2 : (xs.map (·.1))[i]? = some (DataW.lit (.string s.data.toList) : DataW H) := by simp [hb]
        rw [hxs] at h2
        simp only [List.getElem?_map, Option.map_eq_some_iff, DataW.lit.injEq, Lit.string.injEq] at h2
        obtain ⟨s', hs', rfl⟩ := h2
        simp [h1, hs']
      · rw [List.getElem?_eq_none (by omega), List.getElem?_eq_none (by simp; omega)]
    · cases h
/-- The names lie where the program has them. -/
def NamesAt (w : World) : Prop := w.cell? ⟨0, 0, none⟩ = some (.string (nameB 0)) ∧ w.cell? ⟨0, 1, none⟩ = some (.string (nameB 1)) ∧ w.cell? ⟨0, 2, none⟩ = some (.string (nameB 2))
theorem NamesAt.below {w w' : World} (h : NamesAt w) (hb : Below w.heap.size w w') : NamesAt w' := by
  obtain ⟨h0, h1, h2⟩ := h
  exact ⟨(hb.cell (p := ⟨0, 0, none⟩) (World.block_lt_of_cell? w _ h0)).trans h0, (hb.cell (p := ⟨0, 1, none⟩) (World.block_lt_of_cell? w _ h1)).trans h1, (hb.cell (p := ⟨0, 2, none⟩) (World.block_lt_of_cell? w _ h2)).trans h2⟩
theorem gNam : Tryd.prog.globalNamed "abatis/space.names" = some 0 := by kernel_rfl
theorem tNam : (Tryd.prog.globals[0]?).map (·.type) = some 80 := by kernel_rfl
def nams : List (List UInt8) := [[108, 111, 111, 112, 98, 97, 99, 107], [112, 114, 105, 118, 97, 116, 101], [112, 117, 98, 108, 105, 99]]
theorem dNam : (Rows.laid_abatis_space_names : DataW Unit) = .agg (nams.map fun s => .lit (.string s)) := by kernel_rfl
theorem tabs4_of {W : World} (L) (hL : L = [("math/bits.deBruijn32tab", Rows.laid_math_bits_deBruijn32tab), ("math/bits.deBruijn64tab", Rows.laid_math_bits_deBruijn64tab), ("internal/strconv.uint64pow10", Rows.laid_internal_strconv_uint64pow10), ("abatis/space.names", Rows.laid_abatis_space_names)]) (h : laidMetH Tryd.prog L W) (hsh : W.ShapedOpen Tryd.prog) : Tabs W ∧ NamesAt W := by
  subst hL
  refine ⟨tabs_of _ rfl (h.filter (fun x => x.1 != "abatis/space.names")) hsh, ?_⟩
  have h2 := h.filter (fun x => x.1 == "abatis/space.names")
  have h3 : laidMetH Tryd.prog [("abatis/space.names", Rows.laid_abatis_space_names)] W := h2
  rw [MakeChecks.laidMetH_plain _ _ _ (by kernel_rfl)] at h3
  obtain ⟨ps, ⟨g0, t0, cs0, f0, p0, q0, hg0, ht0, hv0, hd0, _, _⟩, _, _⟩ := h3
  obtain rfl := Option.some.inj (gNam.symm.trans hg0)
  obtain rfl := Option.some.inj (tNam.symm.trans ht0)
  rw [dNam] at hd0
  have hcs := cells_of_texts Tryd.underlying80 Tryd.underlying9 (by kernel_rfl) (by kernel_rfl) hd0
  have hc := fun i => World.var?_cell gNam hv0 i
  exact ⟨(hc 0).trans (by rw [← Array.getElem?_toList, hcs]; rfl), (hc 1).trans (by rw [← Array.getElem?_toList, hcs]; rfl), (hc 2).trans (by rw [← Array.getElem?_toList, hcs]; rfl)⟩
theorem name_out (s : Int) (h : isSp s = false) : nameB s = ⟨#[]⟩ := by
  unfold isSp at h
  have := of_decide_eq_false h
  unfold nameB
  rw [if_neg (by omega), if_neg (by omega), if_neg (by omega)]
set_option maxRecDepth 100000 in
theorem name_any (s : Int) (w : World) (hN : NamesAt w) : Calls Tryd.prog 24 #[.int .i64 s] w fun e w' => e = .returned (.string (nameB s)) ∧ w' = w := by
  have HIS := Lib.hid (isSpace_any s w)
  cases ht : isSp s with
  | false =>
    rw [name_out s ht]
    rw [ht] at HIS
    clear ht hN
    go_enter Tryd.func24, Tryd.ntmps24
    go_wp2_with fail
    refine HIS.out.mono ?_
    rintro e w1 ⟨rfl, rfl⟩
    go_wp2_with fail
    go_ret
    exact ⟨rfl, rfl⟩
  | true =>
    rw [ht] at HIS
    have h3 : s = 0 ∨ s = 1 ∨ s = 2 := by unfold isSp at ht; have := of_decide_eq_true ht; omega
    obtain ⟨c0, c1, c2⟩ := hN
    clear ht
    rcases h3 with rfl | rfl | rfl
    · generalize nameB 0 = X at *
      go_enter Tryd.func24, Tryd.ntmps24
      go_wp2_with fail
      refine HIS.out.mono ?_
      rintro e w1 ⟨rfl, rfl⟩
      go_wp2_with fail
      go_ret
      exact ⟨rfl, rfl⟩
    · generalize nameB 1 = X at *
      go_enter Tryd.func24, Tryd.ntmps24
      go_wp2_with fail
      refine HIS.out.mono ?_
      rintro e w1 ⟨rfl, rfl⟩
      go_wp2_with fail
      go_ret
      exact ⟨rfl, rfl⟩
    · generalize nameB 2 = X at *
      go_enter Tryd.func24, Tryd.ntmps24
      go_wp2_with fail
      refine HIS.out.mono ?_
      rintro e w1 ⟨rfl, rfl⟩
      go_wp2_with fail
      go_ret
      exact ⟨rfl, rfl⟩
theorem low_name0 : lowB (nameB 0) = nameB 0 := by kernel_rfl
theorem low_name1 : lowB (nameB 1) = nameB 1 := by kernel_rfl
theorem low_name2 : lowB (nameB 2) = nameB 2 := by kernel_rfl
theorem like_name (s x : ByteArray) (h : lowB x = x) : likeB s x = decide (lowB s = x) := by
  unfold likeB
  rw [h, Bool.eq_iff_iff, beq_iff_eq, decide_eq_true_iff]
  constructor
  · intro h
    rw [ByteArray.toList_eq, ByteArray.toList_eq] at h
    exact ByteArray.ext (Array.ext' h)
  · intro h
    rw [h]
set_option maxRecDepth 100000 in
set_option maxHeartbeats 1000000 in
theorem parse_any7 (s : ByteArray) (w : World) (hN : NamesAt w) (hs : s.size ≤ 1000000) :
    Calls Tryd.prog 22 #[.string s] w fun e w' => e = .returned (.tuple #[.int .i64 (parse7 s).1, .bool (parse7 s).2]) ∧ Below w.heap.size w w' := by
  have HPA : Hid (parse7 s = if lowB s = nameB 0 then (0, true) else if lowB s = nameB 1 then (1, true) else if lowB s = nameB 2 then (2, true) else (0, false)) := Lib.hid rfl
  have L0 := fun W => Lib.hid (like_any s (nameB 0) W hs (by decide))
  have L1 := fun W => Lib.hid (like_any s (nameB 1) W hs (by decide))
  have L2 := fun W => Lib.hid (like_any s (nameB 2) W hs (by decide))
  rw [like_name s _ low_name0] at L0
  rw [like_name s _ low_name1] at L1
  rw [like_name s _ low_name2] at L2
  generalize parse7 s = S at *
  generalize lowB s = l at *
  obtain ⟨c0, c1, c2⟩ := hN
  generalize nameB 0 = n0 at *
  generalize nameB 1 = n1 at *
  generalize nameB 2 = n2 at *
  clear hs
  have i0 : ∀ w : World, (Instr.index 80 (.agg #[.string n0, .string n1, .string n2]) (.int .i64 0)).run Tryd.prog w = .ok (.string n0) w := fun _ => by kernel_rfl
  have i1 : ∀ w : World, (Instr.index 80 (.agg #[.string n0, .string n1, .string n2]) (.int .i64 1)).run Tryd.prog w = .ok (.string n1) w := fun _ => by kernel_rfl
  have i2 : ∀ w : World, (Instr.index 80 (.agg #[.string n0, .string n1, .string n2]) (.int .i64 2)).run Tryd.prog w = .ok (.string n2) w := fun _ => by kernel_rfl
  go_enter Tryd.func22, Tryd.ntmps22
  go_wp2_with fail
  clear c0 c1 c2
  go_loopw [7] (fun i wr => ∃ (k : Nat), k ≤ 3 ∧ i = .int .i64 (k : Int) ∧ Hid ((0 < k → l ≠ n0) ∧ (1 < k → l ≠ n1) ∧ (2 < k → l ≠ n2)) ∧ Hid (Below w.heap.size w wr)) (fun i _ => 3 - (intOf i).toNat)
  case atStart => exact ⟨0, Nat.zero_le _, rfl, Lib.hid ⟨fun h => absurd h (by decide), fun h => absurd h (by decide), fun h => absurd h (by decide)⟩, Lib.hid (Below.refl _ _)⟩
  case round =>
    obtain ⟨k, hk, rfl, HN, HB⟩ := hrel
    have hk3 : k = 0 ∨ k = 1 ∨ k = 2 ∨ k = 3 := by omega
    rcases hk3 with rfl | rfl | rfl | rfl
    · by_cases he : l = n0
      · have HS : Hid (S = (0, true)) := Lib.hid (by rw [HPA.out, if_pos he])
        rw [decide_eq_true he] at L0
        have ES := HS.out
        subst ES
        clear L1 L2 HPA he
        go_wp2_with fail
        refine (L0 _).out.mono ?_
        rintro e w1 ⟨rfl, q, rfl⟩
        replace HB := Lib.hid (belowN HB.out q)
        go_wp2_with fail
        go_ret2
        exact ⟨rfl, HB.out⟩
      · rw [decide_eq_false he] at L0
        have HN2 : Hid ((0 < 1 → l ≠ n0) ∧ (1 < 1 → l ≠ n1) ∧ (2 < 1 → l ≠ n2)) := Lib.hid ⟨fun _ => he, fun h => absurd h (by decide), fun h => absurd h (by decide)⟩
        clear L1 L2 HPA he HN
        go_wp2_with fail
        refine (L0 _).out.mono ?_
        rintro e w1 ⟨rfl, q, rfl⟩
        replace HB := Lib.hid (belowN HB.out q)
        go_wp2_with fail
        go_roundw
        case rel => exact ⟨1, by omega, rfl, HN2, HB⟩
        case measure => simp [intOf]
    · by_cases he : l = n1
      · have HS : Hid (S = (1, true)) := Lib.hid (by rw [HPA.out, if_neg (HN.out.1 (by decide)), if_pos he])
        rw [decide_eq_true he] at L1
        have ES := HS.out
        subst ES
        clear L0 L2 HPA he
        go_wp2_with fail
        refine (L1 _).out.mono ?_
        rintro e w1 ⟨rfl, q, rfl⟩
        replace HB := Lib.hid (belowN HB.out q)
        go_wp2_with fail
        go_ret2
        exact ⟨rfl, HB.out⟩
      · rw [decide_eq_false he] at L1
        have HN2 : Hid ((0 < 2 → l ≠ n0) ∧ (1 < 2 → l ≠ n1) ∧ (2 < 2 → l ≠ n2)) := Lib.hid ⟨fun _ => HN.out.1 (by decide), fun _ => he, fun h => absurd h (by decide)⟩
        clear L0 L2 HPA he HN
        go_wp2_with fail
        refine (L1 _).out.mono ?_
        rintro e w1 ⟨rfl, q, rfl⟩
        replace HB := Lib.hid (belowN HB.out q)
        go_wp2_with fail
        go_roundw
        case rel => exact ⟨2, by omega, rfl, HN2, HB⟩
        case measure => simp [intOf]
    · by_cases he : l = n2
      · have HS : Hid (S = (2, true)) := Lib.hid (by rw [HPA.out, if_neg (HN.out.1 (by decide)), if_neg (HN.out.2.1 (by decide)), if_pos he])
        rw [decide_eq_true he] at L2
        have ES := HS.out
        subst ES
        clear L0 L1 HPA he
        go_wp2_with fail
        refine (L2 _).out.mono ?_
        rintro e w1 ⟨rfl, q, rfl⟩
        replace HB := Lib.hid (belowN HB.out q)
        go_wp2_with fail
        go_ret2
        exact ⟨rfl, HB.out⟩
      · rw [decide_eq_false he] at L2
        have HN2 : Hid ((0 < 3 → l ≠ n0) ∧ (1 < 3 → l ≠ n1) ∧ (2 < 3 → l ≠ n2)) := Lib.hid ⟨fun _ => HN.out.1 (by decide), fun _ => HN.out.2.1 (by decide), fun _ => he⟩
        clear L0 L1 HPA he HN
        go_wp2_with fail
        refine (L2 _).out.mono ?_
        rintro e w1 ⟨rfl, q, rfl⟩
        replace HB := Lib.hid (belowN HB.out q)
        go_wp2_with fail
        go_roundw
        case rel => exact ⟨3, by omega, rfl, HN2, HB⟩
        case measure => simp [intOf]
    · have HS : Hid (S = (0, false)) := Lib.hid (by rw [HPA.out, if_neg (HN.out.1 (by decide)), if_neg (HN.out.2.1 (by decide)), if_neg (HN.out.2.2 (by decide))])
      have ES := HS.out
      subst ES
      clear L0 L1 L2 HPA
      go_wp2_with fail
      go_ret2
      exact ⟨rfl, HB.out⟩
end Go.Proofs.YtgbajagacmfcmaaDoor
/- Plain facts on what is found when one entry more is set. -/
namespace Go.Proofs.YtgbajagacmfcmaaDoor
open Go.RowKit
set_option linter.unusedVariables false
set_option maxRecDepth 20000

/-- Only such as have the address count. -/
theorem findE_filter (es : List Ent) (g : Int) (us : List Nat) : findE es g us = findE (es.filter (fun e => hasB e.f e.b e.n g us)) g us := by
  unfold findE
  rw [List.foldl_filter]
  congr 1
  funext o e
  unfold betterE
  cases hasB e.f e.b e.n g us <;> simp
theorem filter_ins (p : Ent → Bool) (rest : List Ent) (e : Ent) (h : p e = false) : (insE rest e).filter p = rest.filter p := by
  unfold insE
  rw [List.filter_append, List.filter_append, List.filter_cons, h]
  simp only [Bool.false_eq_true, if_false, List.filter_nil, List.append_nil]
  rw [← List.filter_append, List.take_append_drop]
theorem filter_drop (es : List Ent) (f : Int) (bs : List Nat) (n : Int) (g : Int) (us : List Nat) (h : hasB f bs n.toNat g us = false) :
    (dropE es f bs n).filter (fun e => hasB e.f e.b e.n g us) = es.filter (fun e => hasB e.f e.b e.n g us) := by
  unfold dropE
  rw [List.filter_filter]
  apply List.filter_congr
  intro e he
  cases hi : isEnt f bs n e with
  | false => simp
  | true =>
    have : hasB e.f e.b e.n g us = false := by
      unfold isEnt at hi
      obtain ⟨h1, h2, h3⟩ := of_decide_eq_true hi
      rw [show e.n = n.toNat by omega]
      simp only [h1, h2] at h ⊢
      exact h
    simp [this]
/-- A prefix that hasn't the address: what is found stays. -/
theorem findE_off (es : List Ent) (f : Int) (bs : List Nat) (n v : Int) (g : Int) (us : List Nat) (h : hasB f bs n.toNat g us = false) : findE (setE es f bs n v) g us = findE es g us := by
  unfold setE
  split
  · rw [findE_filter, filter_ins _ _ _ h, filter_drop es f bs n g us h, ← findE_filter]
  · rfl
theorem findE_one (e : Ent) (g : Int) (us : List Nat) : findE [e] g us = if hasB e.f e.b e.n g us = true then some e else none := by
  unfold findE betterE
  rfl
/-- The one entry of a row that was empty. -/
theorem setE_nil (f : Int) (bs : List Nat) (n v : Int) (h : mayP f bs n = true) : setE [] f bs n v = [⟨f, bs, n.toNat, v⟩] := by
  unfold setE
  rw [if_pos h]
  rfl
end Go.Proofs.YtgbajagacmfcmaaDoor
/- A prefix of all bits, set, is what is found of its address. -/
namespace Go.Proofs.YtgbajagacmfcmaaDoor
open Go.RowKit
set_option linter.unusedVariables false
set_option maxRecDepth 20000

theorem mem_ins {rest : List Ent} {e x : Ent} (h : x ∈ insE rest e) : x = e ∨ x ∈ rest := by
  unfold insE at h
  rcases List.mem_append.1 h with h | h
  · rcases List.mem_append.1 h with h | h
    · exact .inr (List.mem_of_mem_take h)
    · exact .inl (List.mem_singleton.1 h)
  · exact .inr (List.mem_of_mem_drop h)
theorem ins_mem (rest : List Ent) (e : Ent) : e ∈ insE rest e := by unfold insE; simp
theorem findE_top (es : List Ent) (f : Int) (us : List Nat) (v : Int) (hg : AllGood es) (hu : us.length = 16) (hq : GoodP f (withL (bitsN f) us (bitsN f) 0) (bitsN f)) (hv : (Lit.int .i64 v).wf = true) :
    findE (setE es f (withL (bitsN f) us (bitsN f) 0) ((bitsN f : Nat) : Int) v) f us = some ⟨f, withL (bitsN f) us (bitsN f) 0, bitsN f, v⟩ := by
  unfold setE
  rw [if_pos hq.may, Int.toNat_natCast]
  obtain ⟨e0, he0⟩ : ∃ e0 : Ent, (⟨f, withL (bitsN f) us (bitsN f) 0, bitsN f, v⟩ : Ent) = e0 := ⟨_, rfl⟩
  rw [he0]
  have g0 : GoodP e0.f e0.b e0.n := by rw [← he0]; exact hq
  have h0 : hasB e0.f e0.b e0.n f us = true := (has_mask g0 hu).2 (by rw [← he0]; exact ⟨Nat.le_refl _, decide_eq_true ⟨rfl, rfl, rfl⟩⟩)
  have n0 : e0.n = bitsN f := by rw [← he0]
  have hb := findE_best (insE (dropE es f (withL (bitsN f) us (bitsN f) 0) ((bitsN f : Nat) : Int)) e0) f us
  cases hR : findE (insE (dropE es f (withL (bitsN f) us (bitsN f) 0) ((bitsN f : Nat) : Int)) e0) f us with
  | none =>
    have := hb.1 hR e0 (ins_mem _ _)
    rw [h0] at this
    cases this
  | some y =>
    obtain ⟨h1, h2, h3⟩ := hb.2 y hR
    have hn := h3 e0 (ins_mem _ _) h0
    rcases mem_ins h1 with e | hy
    · rw [e]
    · have hy2 : y ∈ es := (List.mem_filter.1 hy).1
      obtain ⟨k1, k2⟩ := (has_mask (hg y hy2).1 hu).1 h2
      have hyn : y.n = bitsN f := by omega
      rw [hyn] at k2
      have := (List.mem_filter.1 hy).2
      rw [k2] at this
      cases this
end Go.Proofs.YtgbajagacmfcmaaDoor
