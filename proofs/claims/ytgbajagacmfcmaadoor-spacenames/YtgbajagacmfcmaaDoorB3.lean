/- Texts that belong together, one behind the other: AddrCompare, CidrDefs, RefCidrGood, RefAddrMay, RefCidrMay, AddrGood, CidrMath, HeldLoad, ERow, EntKit, AppE. -/
import Derived.Test.YtgbajagacmfcmaaDoorB2
import Derived.Lib.BytesEntry
import Derived.Lib.Bytealg
import Derived.Deep.QuietTactic
import Derived.BigQuiet
import Derived.Deep.Cut
import Derived.Laws.OwnMore
import Derived.Deep.AppendLies
import Derived.Maps.AppendAt
/- Contracts of cmp.Compare at ints, bytes.Compare at two rows of sixteen bytes, addr.Compare. -/
namespace Go.Proofs.YtgbajagacmfcmaaDoor
open Go.RowKit
set_option linter.unusedVariables false
set_option maxRecDepth 20000

theorem isNaN_int (x : Int) (w : World) : Calls Tryd.prog 93 #[.int .i64 x] w fun e w' => e = .returned (.bool false) ∧ w = w' := by
  have h : (x != x) = false := by simp
  go_enter Tryd.func93, Tryd.ntmps93
  go_wp2
  go_ret
  exact ⟨rfl, rfl⟩
/-- Which of two numbers comes first. -/
def sgn3 (x y : Int) : Int := if x < y then -1 else if y < x then 1 else 0
theorem cmpInt_any (x y : Int) (w : World) : Calls Tryd.prog 84 #[.int .i64 x, .int .i64 y] w fun e w' => e = .returned (.int .i64 (sgn3 x y)) ∧ w = w' := by
  by_cases h1 : x < y
  · have HE : Hid (sgn3 x y = -1) := Lib.hid (if_pos h1)
    go_enter Tryd.func84, Tryd.ntmps84
    go_wp2_with (go_at_call 93; refine (isNaN_int _ _).mono ?_; rintro e w' ⟨rfl, rfl⟩)
    go_ret
    exact ⟨by rw [HE.out]; rfl, rfl⟩
  · by_cases h2 : y < x
    · have HE : Hid (sgn3 x y = 1) := Lib.hid (by unfold sgn3; rw [if_neg h1, if_pos h2])
      go_enter Tryd.func84, Tryd.ntmps84
      go_wp2_with (go_at_call 93; refine (isNaN_int _ _).mono ?_; rintro e w' ⟨rfl, rfl⟩)
      go_ret
      exact ⟨by rw [HE.out]; rfl, rfl⟩
    · have HE : Hid (sgn3 x y = 0) := Lib.hid (by unfold sgn3; rw [if_neg h1, if_neg h2])
      go_enter Tryd.func84, Tryd.ntmps84
      go_wp2_with (go_at_call 93; refine (isNaN_int _ _).mono ?_; rintro e w' ⟨rfl, rfl⟩)
      go_ret
      exact ⟨by rw [HE.out]; rfl, rfl⟩
theorem compare_nats : ∀ (xs ys : List Nat), xs.length = ys.length → (∀ x ∈ xs, x < 256) → (∀ x ∈ ys, x < 256) →
    Lib.compareBytes (Lib.bytesOf (xs.map fun n : Nat => (n : Int))) (Lib.bytesOf (ys.map fun n : Nat => (n : Int))) = cmpL xs ys
  | [], [], _, _, _ => rfl
  | [], _ :: _, h, _, _ => by cases h
  | _ :: _, [], h, _, _ => by cases h
  | x :: xs, y :: ys, h, hx, hy => by
    have ih := compare_nats xs ys (by simpa using h) (fun z hz => hx z (List.mem_cons_of_mem _ hz)) (fun z hz => hy z (List.mem_cons_of_mem _ hz))
    have hx0 := hx x (by simp)
    have hy0 := hy y (by simp)
    have o1 : (UInt8.ofNat x < UInt8.ofNat y) ↔ x < y := by rw [UInt8.lt_iff_toNat_lt]; simp; omega
    have o2 : (UInt8.ofNat y < UInt8.ofNat x) ↔ y < x := by rw [UInt8.lt_iff_toNat_lt]; simp; omega
    show Lib.compareBytes (UInt8.ofNat ((x : Int).toNat) :: Lib.bytesOf (xs.map fun n : Nat => (n : Int))) (UInt8.ofNat ((y : Int).toNat) :: Lib.bytesOf (ys.map fun n : Nat => (n : Int))) = _
    rw [Int.toNat_natCast, Int.toNat_natCast, Lib.compareBytes, cmpL, ih]
    simp only [o1, o2]
theorem run_loadB16 {P : Program} {w : World} {G o : Nat} {xs : List Nat} (hl : xs.length = 16) (h : w.rangeAt G o (xs.map fun n => Value.int .u8 ((n : Nat) : Int))) : (Extern.Bytes.loadBytes ⟨G, o, none⟩ 16 .empty).run P w = .ok ⟨(Lib.bytesOf (xs.map fun n : Nat => (n : Int))).toArray⟩ w := by
  have hr := Lib.run_loadBytesX (P := P) w (xs.map fun n : Nat => (n : Int)) ⟨G, o, none⟩ .empty (fun j x hj => by
    rw [Addr.add_mid]
    refine h j _ ?_
    rw [List.getElem?_map] at hj ⊢
    cases hx : xs[j]? with
    | none => rw [hx] at hj; cases hj
    | some y => rw [hx] at hj; cases hj; rfl)
  rw [List.length_map, hl] at hr
  rw [hr]
  congr 1
  apply ByteArray.ext
  show (#[] : Array UInt8) ++ _ = _
  simp
theorem run_compare16 {P : Program} {w : World} {G o G' o' : Nat} {xs ys : List Nat} (lx : xs.length = 16) (ly : ys.length = 16) (h : w.rangeAt G o (xs.map fun n => Value.int .u8 ((n : Nat) : Int))) (h' : w.rangeAt G' o' (ys.map fun n => Value.int .u8 ((n : Nat) : Int))) (hx : ∀ x ∈ xs, x < 256) (hy : ∀ x ∈ ys, x < 256) (c c' : Nat) :
    (Extern.BytealgCompare.compare #[.slice (some ⟨G, o, none⟩) 16 c, .slice (some ⟨G', o', none⟩) 16 c']).run P w = .ok (.int .i64 (cmpL xs ys)) w := by
  change Sem.run P (do
    let a ← Extern.Bytes.bytesOf (.slice (some ⟨G, o, none⟩) 16 c)
    let b ← Extern.Bytes.bytesOf (.slice (some ⟨G', o', none⟩) 16 c')
    pure (goInt (Extern.BytealgCompare.cmp a b))) w = _
  simp only [Extern.Bytes.bytesOf, Sem.run_bind, Sem.run_pure, run_loadB16 lx h, run_loadB16 ly h', Result.andThen, Lib.cmp_eq]
  rw [compare_nats xs ys (by rw [lx, ly]) hx hy]
  rfl
set_option maxRecDepth 100000 in
theorem bytesCompare_any (G G' : Nat) (xs ys : List Nat) (w : World) (lx : xs.length = 16) (ly : ys.length = 16) (h : w.rangeAt G 1 (xs.map fun n => Value.int .u8 ((n : Nat) : Int))) (h' : w.rangeAt G' 1 (ys.map fun n => Value.int .u8 ((n : Nat) : Int))) (hx : ∀ x ∈ xs, x < 256) (hy : ∀ x ∈ ys, x < 256) :
    Calls Tryd.prog 92 #[.slice (some ⟨G, 1, none⟩) 16 16, .slice (some ⟨G', 1, none⟩) 16 16] w fun e w' => e = .returned (.int .i64 (cmpL xs ys)) ∧ Below w.heap.size w w' := by
  have HR := Lib.hid (run_compare16 (P := Tryd.prog) lx ly h h' hx hy 16 16)
  clear h h' hx hy lx ly
  generalize cmpL xs ys = r at *
  go_enter Tryd.func92, Tryd.ntmps92
  go_wp2
  rw [run_callFunc_extern Tryd.func97 (by kernel_rfl) (by kernel_rfl) (by kernel_rfl) (e := Extern.BytealgCompare.compare) (by kernel_rfl), HR.out]
  simp only [Result.andThen]
  rw [Oper.upon_value]
  go_wp2
  go_ret
  exact ⟨rfl, Below.refl _ _⟩
theorem cmpA_ne {f g : Int} (xs ys : List Nat) (h : f ≠ g) : cmpA f xs g ys = sgn3 f g := by
  unfold cmpA sgn3
  rw [if_neg h]
  by_cases h1 : f < g
  · rw [if_pos h1, if_pos h1]
  · rw [if_neg h1, if_neg h1, if_pos (by omega)]
set_option maxRecDepth 100000 in
set_option maxHeartbeats 1000000 in
theorem addrCompare_any (f : Int) (xs : List Nat) (g : Int) (ys : List Nat) (w : World) (h16x : xs.length = 16) (h16 : ys.length = 16) (hx : ∀ x ∈ xs, x < 256) (hy : ∀ x ∈ ys, x < 256) :
    Calls Tryd.prog 83 #[addrV f xs, addrV g ys] w fun e w' => e = .returned (.int .i64 (cmpA f xs g ys)) ∧ Below w.heap.size w w' := by
  obtain ⟨cs, ecs, HA, HB⟩ := addr_boxed f xs w h16x
  obtain ⟨ds, eds, HA', HB'⟩ := addr_boxed g ys (w.alloc (.cells cs 25)) h16
  rw [ecs, eds]
  have HA1 := Lib.hid (HA.out.alloc (.cells ds 25))
  have HB1 := Lib.hid (chain HB.out HB'.out)
  rw [heap_alloc] at HA'
  have HX := Lib.hid hx
  have HY := Lib.hid hy
  clear ecs eds h16 h16x HA HB HB' hx hy
  go_enter Tryd.func83, Tryd.ntmps83
  go_upto_region 1 with fail
  generalize ((w.alloc (.cells cs 25)).alloc (.cells ds 25)) = W at *
  have f1 := HA1.out.fam
  have f2 := HA'.out.fam
  by_cases hfg : f = g
  · subst hfg
    have HE : Hid (cmpA f xs f ys = cmpL xs ys) := Lib.hid (if_pos rfl)
    obtain ⟨L, hL⟩ : ∃ L, [(w.heap.size, 1, xs.map fun n => Value.int .u8 ((n : Nat) : Int)), (w.heap.size + 1, 1, ys.map fun n => Value.int .u8 ((n : Nat) : Int))] = L := ⟨_, rfl⟩
    have HK : HeldR L w W := by rw [← hL]; exact ((HeldR.nil HB1.out).cons HA'.out.b16.range HA'.out.lt).cons HA1.out.b16.range HA1.out.lt
    have HC : ∀ w', HeldR L w w' → Hid (Calls Tryd.prog 92 #[.slice (some ⟨w.heap.size, 1, none⟩) 16 16, .slice (some ⟨w.heap.size + 1, 1, none⟩) 16 16] w' fun e w'' => e = .returned (.int .i64 (cmpL xs ys)) ∧ Below w'.heap.size w' w'') := fun w' h =>
      Lib.hid (bytesCompare_any w.heap.size (w.heap.size + 1) xs ys w' HA1.out.len HA'.out.len (h.get (by rw [← hL]; simp)) (h.get (by rw [← hL]; simp)) HX.out HY.out)
    have HKK := Lib.hid HK
    clear hL HK
    generalize cmpL xs ys = r at *
    go_wp2_with fail
    refine wp_region_noPanic ?_
    refine wp_region_held_drew (S := HeldR L w) (by kernel_rfl) HKK.out.drew (fun hHeld => ?_)
    refine wpAnyH_take (i := 0) (v := ?_) rfl (by kernel_rfl) (by kernel_rfl) (by kernel_rfl) (fun _ _ _ h => h) (Or.inl ⟨by rfl, ?_⟩) (by assumption) ?_
    rotate_left
    · (intro w hSw; go_simp; try (with_reducible rfl))
    try simp only [Act.put, List.getElem_toArray, List.getElem_cons_zero, List.setIfInBounds_toArray, List.set_cons_zero, List.set_cons_succ]
    refine wpAnyH_take (i := 1) (v := ?_) rfl (by kernel_rfl) (by kernel_rfl) (by kernel_rfl) (fun _ _ _ h => h) (Or.inl ⟨by rfl, ?_⟩) (by assumption) ?_
    rotate_left
    · (intro w hSw; go_simp; try (with_reducible rfl))
    try simp only [Act.put, List.getElem_toArray, List.getElem_cons_zero, List.getElem_cons_succ, List.setIfInBounds_toArray, List.set_cons_zero, List.set_cons_succ]
    refine wpAnyH_take (i := 2) (v := ?_) rfl (by kernel_rfl) (by kernel_rfl) (by kernel_rfl) (fun _ _ _ h => h) (Or.inl ⟨by rfl, ?_⟩) (by assumption) ?_
    rotate_left
    · (intro w hSw; go_simp; try (with_reducible rfl))
    try simp only [Act.put, List.getElem_toArray, List.getElem_cons_zero, List.getElem_cons_succ, List.setIfInBounds_toArray, List.set_cons_zero, List.set_cons_succ]
    refine wpAnyH_take (i := 3) (v := ?_) rfl (by kernel_rfl) (by kernel_rfl) (by kernel_rfl) (fun _ _ _ h => h) (Or.inl ⟨by rfl, ?_⟩) (by assumption) ?_
    rotate_left
    · (intro w hSw; go_simp; try (with_reducible rfl))
    try simp only [Act.put, List.getElem_toArray, List.getElem_cons_zero, List.getElem_cons_succ, List.setIfInBounds_toArray, List.set_cons_zero, List.set_cons_succ]
    refine wpAnyH_ready (rs := [4]) (by kernel_rfl) (by simp) ?_
    refine AllReadyH.cons rfl (fun K hK => ?_) AllReadyH.nil
    go_simp
    refine (Calls.heldR (HC _ (by assumption)).out (by assumption)).mono ?_
    rintro e wr4 ⟨rfl, hS4⟩
    go_wp2_with fail
    refine hK.out _ _ hS4 (fun hHeld => ?_)
    clear hK K
    try simp only [Act.put, List.getElem_toArray, List.getElem_cons_zero, List.getElem_cons_succ, List.setIfInBounds_toArray, List.set_cons_zero, List.set_cons_succ]
    refine wpAnyH_take (i := 5) (v := ?_) rfl (by kernel_rfl) (by kernel_rfl) (by kernel_rfl) (fun _ _ _ h => h) (Or.inl ⟨by rfl, ?_⟩) (by assumption) ?_
    rotate_left
    · (intro w hSw; go_simp; try (with_reducible rfl))
    try simp only [Act.put, List.getElem_toArray, List.getElem_cons_zero, List.getElem_cons_succ, List.setIfInBounds_toArray, List.set_cons_zero, List.set_cons_succ]
    refine wpAnyH_done (by kernel_rfl) ?_ _
    refine NoPanic.normal ?_
    go_wp2_with fail
    go_ret
    exact ⟨by rw [HE.out]; rfl, hHeld.bel⟩
  · have HE := Lib.hid (cmpA_ne xs ys hfg)
    have n1 : (f != g) = true := by simp [hfg]
    go_wp2_with (go_at_call 84; refine (cmpInt_any _ _ _).mono ?_; rintro e w' ⟨rfl, rfl⟩)
    go_ret
    exact ⟨by rw [HE.out]; rfl, HB1.out⟩
end Go.Proofs.YtgbajagacmfcmaaDoor
/- What cidr's functions answer, in plain words. -/
namespace Go.Proofs.YtgbajagacmfcmaaDoor
open Go.RowKit
set_option linter.unusedVariables false
set_option maxRecDepth 20000

/-- Which prefix may be. -/
def mayP (f : Int) (bs : List Nat) (n : Int) : Bool := decide (0 < bitsN f ∧ bs = withL (bitsN f) bs (maskN f n) 0 ∧ n = (maskN f n : Int))
/-- Whether a prefix is an address's own. -/
def hasR (f : Int) (ps : List Nat) (n : Int) (g : Int) (us : List Nat) : Bool := decide (f = g ∧ ps = withL (bitsN g) us (maskN g n) 0 ∧ n = (maskN g n : Int))
/-- Whether the first bits are the same. -/
def hasB (f : Int) (ps : List Nat) (n : Nat) (g : Int) (us : List Nat) : Bool := decide (f = g ∧ ∀ i : Nat, i < n → bitN f ps (i : Int) = bitN g us (i : Int))
def withinR (f : Int) (ps : List Nat) (n : Int) (g : Int) (qs : List Nat) (m : Int) : Bool := decide (m ≤ n) && hasR g qs m f ps
def cmpP (f : Int) (xs : List Nat) (n : Int) (g : Int) (ys : List Nat) (m : Int) : Int := if cmpA f xs g ys = 0 then sgn3 n m else cmpA f xs g ys
/-- Two prefixes that come in, boxed. -/
theorem prefs_boxed (f : Int) (ps : List Nat) (n : Int) (g : Int) (qs : List Nat) (m : Int) (w : World) (hp : ps.length = 16) (hq : qs.length = 16) :
    ∃ cs ds : Array Value, prefV f ps n = .agg cs ∧ prefV g qs m = .agg ds ∧ Hid (PrefAt ((w.alloc (.cells cs 27)).alloc (.cells ds 27)) w.heap.size f ps n) ∧ Hid (PrefAt ((w.alloc (.cells cs 27)).alloc (.cells ds 27)) (w.heap.size + 1) g qs m) ∧
      Hid (Below w.heap.size w ((w.alloc (.cells cs 27)).alloc (.cells ds 27))) := by
  obtain ⟨cs, ecs, HA, HB⟩ := pref_boxed f ps n w hp
  obtain ⟨ds, eds, HA', HB'⟩ := pref_boxed g qs m (w.alloc (.cells cs 27)) hq
  rw [heap_alloc] at HA'
  exact ⟨cs, ds, ecs, eds, Lib.hid (HA.out.alloc _), HA', Lib.hid (chain HB.out HB'.out)⟩
/-- A prefix and an address that come in, boxed. -/
theorem pref_addr_boxed (f : Int) (ps : List Nat) (n : Int) (g : Int) (qs : List Nat) (w : World) (hp : ps.length = 16) (hq : qs.length = 16) :
    ∃ cs ds : Array Value, prefV f ps n = .agg cs ∧ addrV g qs = .agg ds ∧ Hid (PrefAt ((w.alloc (.cells cs 27)).alloc (.cells ds 25)) w.heap.size f ps n) ∧ Hid (AddrAt ((w.alloc (.cells cs 27)).alloc (.cells ds 25)) (w.heap.size + 1) g qs) ∧
      Hid (Below w.heap.size w ((w.alloc (.cells cs 27)).alloc (.cells ds 25))) := by
  obtain ⟨cs, ecs, HA, HB⟩ := pref_boxed f ps n w hp
  obtain ⟨ds, eds, HA', HB'⟩ := addr_boxed g qs (w.alloc (.cells cs 27)) hq
  rw [heap_alloc] at HA'
  exact ⟨cs, ds, ecs, eds, Lib.hid (HA.out.alloc _), HA', Lib.hid (chain HB.out HB'.out)⟩
end Go.Proofs.YtgbajagacmfcmaaDoor
/- Contract of the reference's Good of layer 5. -/
namespace Go.Proofs.YtgbajagacmfcmaaDoor
open Go.RowKit
set_option linter.unusedVariables false
set_option maxRecDepth 20000

/-- How many bits the reference's Good keeps. -/
def goodN (f n : Int) : Nat := aroundN n (bitsN (goodF f) + 1)
theorem goodN_le (f n : Int) : goodN f n ≤ bitsN (goodF f) := Nat.le_of_lt_succ (aroundN_lt _ _ (Nat.succ_pos _))
theorem maskN_nat (f : Int) (m : Nat) (h : m ≤ bitsN f) : maskN f (m : Int) = m := by unfold maskN; omega
/-- The bytes of a prefix made good. -/
def goodP (f : Int) (bs : List Nat) (n : Int) : List Nat := withL (bitsN (goodF f)) (goodB f bs) (goodN f n) 0
theorem goodB_len (f : Int) (bs : List Nat) (h16 : bs.length = 16) : (goodB f bs).length = 16 := by
  unfold goodB
  split
  · exact b4_len _
  · exact h16
theorem goodB_lt (f : Int) (bs : List Nat) (hlt : ∀ x ∈ bs, x < 256) : ∀ x ∈ goodB f bs, x < 256 := by
  unfold goodB
  split
  · rw [b4_eq]
    simp
    omega
  · exact hlt
set_option maxRecDepth 100000 in
set_option maxHeartbeats 1000000 in
theorem refGoodP_any (f : Int) (bs : List Nat) (n : Int) (w : World) (h16 : bs.length = 16) (hlt : ∀ x ∈ bs, x < 256) (hn : (Lit.int .i64 n).wf = true) :
    Calls Tryd.prog 29 #[prefV f bs n] w fun e w' => e = .returned (prefV (goodF f) (goodP f bs n) (goodN f n)) ∧ Below w.heap.size w w' := by
  have H16 := Lib.hid h16
  have HG := fun W => Lib.hid (refGood_any f bs W h16 hlt)
  have HL2 := Lib.hid (goodB_len f bs h16)
  have HN := bitsN_le (goodF f)
  have HBI := fun W => Lib.hid (refBits_any (goodF f) (goodB f bs) W HL2.out)
  have HAR : ∀ W, Hid (Calls Tryd.prog 26 #[.int .i64 n, .int .i64 ((bitsN (goodF f) + 1 : Nat) : Int)] W fun e w' => e = .returned (.int .i64 ((goodN f n : Nat) : Int)) ∧ W = w') := fun W => Lib.hid (around_any n (bitsN (goodF f) + 1) W hn (by omega) (by omega))
  have HMK : ∀ W, Hid (Calls Tryd.prog 15 #[addrV (goodF f) (goodB f bs), .int .i64 ((goodN f n : Nat) : Int)] W fun e w' => e = .returned (prefV (goodF f) (goodP f bs n) (goodN f n)) ∧ Below W.heap.size W w') := fun W => Lib.hid (by
    have h := refMask_any (goodF f) (goodB f bs) (goodN f n : Int) W HL2.out (goodB_lt f bs hlt) (wf_small (Nat.le_trans (goodN_le f n) (by omega)))
    rw [maskN_nat _ _ (goodN_le f n)] at h
    exact h)
  have HLP : Hid ((goodP f bs n).length = 16) := Lib.hid (withL_len _ _ _ _)
  obtain ⟨cs, ecs, HA, HB⟩ := pref_boxed f bs n w h16
  have HR := pref_zeroed (w.alloc (.cells cs 27))
  rw [heap_alloc] at HR
  have HRH := Lib.hid HR
  have HA1 := Lib.hid (HA.out.alloc (.cells zP 27))
  have HB1 := Lib.hid (HB.out.alloc HB.out.size (.cells zP 27))
  rw [ecs]
  generalize goodP f bs n = R at *
  generalize goodN f n = m at *
  generalize bitsN (goodF f) = N at *
  generalize goodF f = F at *
  generalize goodB f bs = B at *
  clear ecs h16 hlt HA HB HR
  go_enter Tryd.func29, Tryd.ntmps29
  go_upto_region 1 with fail
  generalize ((w.alloc (.cells cs 27)).alloc (.cells zP 27)) = W at *
  have HA1a := Lib.hid HA1.out.addr
  go_wp2_with (refine load_addr_g HA1a _ rfl rfl rfl ?_)
  refine (HG _).out.mono ?_
  rintro e w1 ⟨rfl, hb1⟩
  have HA2 := Lib.hid (HA1.out.below hb1)
  have HR2 := Lib.hid (HRH.out.below hb1)
  have HB2 := Lib.hid (chain HB1.out hb1)
  have HZ1 := Lib.hid (addr_zeroed w1)
  clear HA1 HRH HB1 hb1 HA1a HG
  go_upto_region 2 with (refine store_addr HZ1 _ _ HL2 rfl rfl rfl rfl (fun W1 HW1 HO1 => ?_))
  have HA3 := Lib.hid (HA2.out.below (below_newA HW1))
  have HR3 := Lib.hid (HR2.out.below (below_newA HW1))
  have HB3 := Lib.hid (chain HB2.out (below_newA HW1))
  have HGR : Hid (w.heap.size + 1 < w1.heap.size) := Lib.hid HR2.out.addr.lt
  generalize w1.heap.size = G1 at *
  clear HA2 HR2 HB2 HZ1 HW1
  obtain ⟨L, hL⟩ : ∃ L, [(w.heap.size, 0, prefL f bs n), (w.heap.size, 0, addrL f bs), (G1, 0, addrL F B)] = L := ⟨_, rfl⟩
  have HK := Lib.hid (show HeldR L w W1 by rw [← hL]; exact ((HeldR.nil HB3.out).addr HO1.out).pref HA3.out)
  have Mt3 := Lib.hid (show InA L G1 F B from ⟨by rw [← hL]; simp, HL2.out⟩)
  have HNE : Hid (∀ x ∈ L, x.1 ≠ w.heap.size + 1) := Lib.hid (by rw [← hL]; intro x hx; simp at hx; have := HGR.out; rcases hx with rfl | rfl | rfl <;> simp <;> omega)
  have Cn := Lib.hid (bitsR (show InP L w.heap.size f bs n from ⟨by rw [← hL]; simp, H16.out⟩) w)
  clear hL HA3 HO1 HB3
  have C1 : ∀ w', HeldR L w w' → Hid (Calls Tryd.prog 16 #[addrV F B] w' fun e w'' => e = .returned (.int .i64 ((N : Nat) : Int)) ∧ Below w'.heap.size w' w'') := fun w' h => HBI w'
  have C2 : ∀ w', HeldR L w w' → Hid (Calls Tryd.prog 26 #[.int .i64 n, .int .i64 (IntKind.i64.wrap ((N : Int) + 1))] w' fun e w'' => e = .returned (.int .i64 (m : Int)) ∧ Below w'.heap.size w' w'') := fun w' h => Lib.hid (by
    rw [show IntKind.i64.wrap ((N : Int) + 1) = ((N + 1 : Nat) : Int) by rw [IntKind.wrap_i64]; omega]
    exact (HAR w').out.mono fun e w'' ⟨h1, h2⟩ => ⟨h1, by rw [← h2]; exact Below.refl _ _⟩)
  have C3 : ∀ w', HeldR L w w' → Hid (Calls Tryd.prog 15 #[addrV F B, .int .i64 (m : Int)] w' fun e w'' => e = .returned (prefV F R m) ∧ Below w'.heap.size w' w'') := fun w' h => HMK w'
  clear HBI HAR HMK
  replace HR3 := Lib.hid (HR3.out.below (Below.refl _ _).drew)
  refine wp_region_noPanic ?_
  refine wp_region_held_drew (S := HeldR L w) (by kernel_rfl) HK.out.drew (fun hHeld => ?_)
  refine wpAnyH_take (i := 0) rfl (by kernel_rfl) (by kernel_rfl) (by kernel_rfl) (fun _ _ _ h => h) (yields_addr Mt3 (by rfl) _ rfl rfl) (by assumption) ?_
  try simp only [Act.put, List.getElem_toArray, List.getElem_cons_zero, List.setIfInBounds_toArray, List.set_cons_zero, List.set_cons_succ]
  refine wpAnyH_take (i := 1) (v := ?_) rfl (by kernel_rfl) (by kernel_rfl) (by kernel_rfl) (fun _ _ _ h => h) (Or.inl ⟨by rfl, ?_⟩) (by assumption) ?_
  rotate_left
  · (intro w hSw; go_simp; try (with_reducible rfl))
  try simp only [Act.put, List.getElem_toArray, List.getElem_cons_zero, List.getElem_cons_succ, List.setIfInBounds_toArray, List.set_cons_zero, List.set_cons_succ]
  refine wpAnyH_take (i := 2) (v := ?_) rfl (by kernel_rfl) (by kernel_rfl) (by kernel_rfl) (fun _ _ _ h => h) (Or.inl ⟨by rfl, ?_⟩) (by assumption) ?_
  rotate_left
  · (intro w hSw; have hc0 := Cn.out w hSw; go_simp; try (with_reducible rfl))
  try simp only [Act.put, List.getElem_toArray, List.getElem_cons_zero, List.getElem_cons_succ, List.setIfInBounds_toArray, List.set_cons_zero, List.set_cons_succ]
  refine wpAnyH_take (i := 3) rfl (by kernel_rfl) (by kernel_rfl) (by kernel_rfl) (fun _ _ _ h => h) (yields_addr Mt3 (by rfl) _ rfl rfl) (by assumption) ?_
  try simp only [Act.put, List.getElem_toArray, List.getElem_cons_zero, List.getElem_cons_succ, List.setIfInBounds_toArray, List.set_cons_zero, List.set_cons_succ]
  refine wpAnyH_ready (rs := [4]) (by kernel_rfl) (by simp) ?_
  refine AllReadyH.cons rfl (fun K hK => ?_) AllReadyH.nil
  go_simp
  refine (C1 _ (by assumption)).out.mono ?_
  rintro e wr4 ⟨rfl, hb4⟩
  replace HR3 := Lib.hid (HR3.out.below hb4)
  have hS4 := HeldR.next (by assumption) hb4
  clear hb4
  go_wp2_with fail
  refine hK.out _ _ hS4 (fun hHeld => ?_)
  clear hK K
  try simp only [Act.put, List.getElem_toArray, List.getElem_cons_zero, List.getElem_cons_succ, List.setIfInBounds_toArray, List.set_cons_zero, List.set_cons_succ]
  refine wpAnyH_take (i := 5) (v := ?_) rfl (by kernel_rfl) (by kernel_rfl) (by kernel_rfl) (fun _ _ _ h => h) (Or.inl ⟨by rfl, ?_⟩) (by assumption) ?_
  rotate_left
  · (intro w hSw; go_simp; try (with_reducible rfl))
  try simp only [Act.put, List.getElem_toArray, List.getElem_cons_zero, List.getElem_cons_succ, List.setIfInBounds_toArray, List.set_cons_zero, List.set_cons_succ]
  refine wpAnyH_ready (rs := [6]) (by kernel_rfl) (by simp) ?_
  refine AllReadyH.cons rfl (fun K hK => ?_) AllReadyH.nil
  go_simp
  refine (C2 _ (by assumption)).out.mono ?_
  rintro e wr6 ⟨rfl, hb6⟩
  replace HR3 := Lib.hid (HR3.out.below hb6)
  have hS6 := HeldR.next (by assumption) hb6
  clear hb6
  go_wp2_with fail
  refine hK.out _ _ hS6 (fun hHeld => ?_)
  clear hK K
  try simp only [Act.put, List.getElem_toArray, List.getElem_cons_zero, List.getElem_cons_succ, List.setIfInBounds_toArray, List.set_cons_zero, List.set_cons_succ]
  refine wpAnyH_ready (rs := [7]) (by kernel_rfl) (by simp) ?_
  refine AllReadyH.cons rfl (fun K hK => ?_) AllReadyH.nil
  go_simp
  refine (C3 _ (by assumption)).out.mono ?_
  rintro e wr7 ⟨rfl, hb7⟩
  replace HR3 := Lib.hid (HR3.out.below hb7)
  have hS7 := HeldR.next (by assumption) hb7
  clear hb7
  go_wp2_with fail
  refine hK.out _ _ hS7 (fun hHeld => ?_)
  clear hK K
  try simp only [Act.put, List.getElem_toArray, List.getElem_cons_zero, List.getElem_cons_succ, List.setIfInBounds_toArray, List.set_cons_zero, List.set_cons_succ]
  refine wpAnyH_ready (rs := [8]) (by kernel_rfl) (by simp) ?_
  refine AllReadyH.one rfl rfl (fun K hK => ?_)
  refine wp_store_pref HR3 _ _ HLP rfl rfl rfl (fun HQ => ?_)
  refine hK.out _ _ ((HeldR.store (by assumption) _ (by omega) HNE.out)) (fun hHeld2 => ?_)
  refine wpAnyH_done (by kernel_rfl) ?_ _
  refine NoPanic.normal ?_
  go_wp2_with fail
  refine bodyPost_ret (v := prefV F R m) (results_pref Tryd.results29 rfl HQ.out) rfl ⟨rfl, hHeld2.bel⟩
end Go.Proofs.YtgbajagacmfcmaaDoor
/- Contract of the reference's May of layer 4. -/
namespace Go.Proofs.YtgbajagacmfcmaaDoor
open Go.RowKit
set_option linter.unusedVariables false
set_option maxRecDepth 20000

/-- All zero from a place on. -/
def zeroTo (bs : List Nat) (k : Nat) : Bool := (bs.drop k).all (· == 0)
theorem zeroTo_at (bs : List Nat) (k : Nat) (h : bs.length = 16) (hk : k < 16) : zeroTo bs k = (bs.getD k 0 == 0 && zeroTo bs (k + 1)) := by
  unfold zeroTo
  rw [List.drop_eq_getElem_cons (by omega), List.all_cons, List.getD_eq_getElem?_getD, List.getElem?_eq_getElem (by omega)]
  rfl
theorem zeroTo_end (bs : List Nat) (h : bs.length = 16) : zeroTo bs 16 = true := by
  unfold zeroTo
  rw [List.drop_eq_nil_of_le (by omega)]
  rfl
def fromN (f : Int) : Nat := if f = 0 then 0 else if f = 4 then 4 else 16
/-- Which address may be. -/
def mayB (f : Int) (bs : List Nat) : Bool := zeroTo bs (fromN f) && (f == 0 || f == 4 || f == 6)
set_option maxRecDepth 100000 in
set_option maxHeartbeats 1000000 in
theorem refMay_any (f : Int) (bs : List Nat) (w : World) (h16 : bs.length = 16) :
    Calls Tryd.prog 60 #[addrV f bs] w fun e w' => e = .returned (.bool (mayB f bs)) ∧ Below w.heap.size w w' := by
  have HL := Lib.hid h16
  obtain ⟨y0, y1, y2, y3, y4, y5, y6, y7, y8, y9, y10, y11, y12, y13, y14, y15, hbs⟩ := list16 bs h16
  have ha : addrV f bs = .agg #[.int .i64 f, .int .u8 (y0 : Int), .int .u8 (y1 : Int), .int .u8 (y2 : Int), .int .u8 (y3 : Int), .int .u8 (y4 : Int), .int .u8 (y5 : Int), .int .u8 (y6 : Int), .int .u8 (y7 : Int), .int .u8 (y8 : Int), .int .u8 (y9 : Int), .int .u8 (y10 : Int), .int .u8 (y11 : Int), .int .u8 (y12 : Int), .int .u8 (y13 : Int), .int .u8 (y14 : Int), .int .u8 (y15 : Int)] := by rw [hbs]; rfl
  rw [ha]
  have hA := AddrAt.new w 25 f y0 y1 y2 y3 y4 y5 y6 y7 y8 y9 y10 y11 y12 y13 y14 y15
  rw [← hbs] at hA
  have B0 : Hid (Below w.heap.size w (w.alloc (.cells #[.int .i64 f, .int .u8 (y0 : Int), .int .u8 (y1 : Int), .int .u8 (y2 : Int), .int .u8 (y3 : Int), .int .u8 (y4 : Int), .int .u8 (y5 : Int), .int .u8 (y6 : Int), .int .u8 (y7 : Int), .int .u8 (y8 : Int), .int .u8 (y9 : Int), .int .u8 (y10 : Int), .int .u8 (y11 : Int), .int .u8 (y12 : Int), .int .u8 (y13 : Int), .int .u8 (y14 : Int), .int .u8 (y15 : Int)] 25))) := Lib.hid ((Below.refl _ _).alloc (Nat.le_refl _) _)
  have HA := Lib.hid hA
  clear ha hbs h16 hA
  by_cases h0 : f = 0
  · subst h0
    have FR : Hid (fromN 0 = 0) := Lib.hid rfl
    go_enter Tryd.func60, Tryd.ntmps60
    have hfam := HA.out.fam
    go_wp2_with fail
    generalize (w.alloc (.cells #[.int .i64 0, .int .u8 (y0 : Int), .int .u8 (y1 : Int), .int .u8 (y2 : Int), .int .u8 (y3 : Int), .int .u8 (y4 : Int), .int .u8 (y5 : Int), .int .u8 (y6 : Int), .int .u8 (y7 : Int), .int .u8 (y8 : Int), .int .u8 (y9 : Int), .int .u8 (y10 : Int), .int .u8 (y11 : Int), .int .u8 (y12 : Int), .int .u8 (y13 : Int), .int .u8 (y14 : Int), .int .u8 (y15 : Int)] 25)) = W at *
    go_loop [4] (fun i => ∃ k : Nat, 0 ≤ k ∧ k ≤ 16 ∧ i = .int .i64 (k : Int) ∧ Hid (zeroTo bs 0 = zeroTo bs k)) (fun i => 16 - (intOf i).toNat)
    case atStart => exact ⟨0, Nat.le_refl _, by decide, rfl, Lib.hid rfl⟩
    case round =>
      obtain ⟨k, hk0, hk, rfl, HK⟩ := hrel
      by_cases hk16 : k < 16
      · have hcell := HA.out.cells k hk16
        have k1 : (k : Int) < 16 := by omega
        have hz := zeroTo_at bs k HL.out hk16
        obtain ⟨y, ey⟩ : ∃ y, bs.getD k 0 = y := ⟨_, rfl⟩
        rw [ey] at hcell hz
        clear ey
        by_cases hy : y = 0
        · subst hy
          have HK2 : Hid (zeroTo bs 0 = zeroTo bs (k + 1)) := Lib.hid (by rw [HK.out, hz]; rfl)
          clear hz
          go_wp2_with fail
          go_round
          case rel => exact ⟨k + 1, by omega, by omega, by go_num, HK2⟩
          case measure => simp [intOf]; omega
        · have HK2 : Hid (zeroTo bs 0 = false) := Lib.hid (by rw [HK.out, hz]; simp [hy])
          clear hz
          have hy2 : ((y : Int) != 0) = true := by simp; omega
          go_wp2_with fail
          go_ret
          exact ⟨by rw [mayB, show fromN 0 = 0 from FR.out, HK2.out]; rfl, B0.out⟩
      · obtain rfl : k = 16 := by omega
        have HK2 : Hid (zeroTo bs 0 = true) := Lib.hid (by rw [HK.out]; exact zeroTo_end bs HL.out)
        go_wp2_with fail
        go_ret
        exact ⟨by rw [mayB, show fromN 0 = 0 from FR.out, HK2.out]; rfl, B0.out⟩
  by_cases h4 : f = 4
  · subst h4
    have FR : Hid (fromN 4 = 4) := Lib.hid rfl
    go_enter Tryd.func60, Tryd.ntmps60
    have hfam := HA.out.fam
    go_wp2_with fail
    generalize (w.alloc (.cells #[.int .i64 4, .int .u8 (y0 : Int), .int .u8 (y1 : Int), .int .u8 (y2 : Int), .int .u8 (y3 : Int), .int .u8 (y4 : Int), .int .u8 (y5 : Int), .int .u8 (y6 : Int), .int .u8 (y7 : Int), .int .u8 (y8 : Int), .int .u8 (y9 : Int), .int .u8 (y10 : Int), .int .u8 (y11 : Int), .int .u8 (y12 : Int), .int .u8 (y13 : Int), .int .u8 (y14 : Int), .int .u8 (y15 : Int)] 25)) = W at *
    go_loop [4] (fun i => ∃ k : Nat, 4 ≤ k ∧ k ≤ 16 ∧ i = .int .i64 (k : Int) ∧ Hid (zeroTo bs 4 = zeroTo bs k)) (fun i => 16 - (intOf i).toNat)
    case atStart => exact ⟨4, Nat.le_refl _, by decide, rfl, Lib.hid rfl⟩
    case round =>
      obtain ⟨k, hk0, hk, rfl, HK⟩ := hrel
      by_cases hk16 : k < 16
      · have hcell := HA.out.cells k hk16
        have k1 : (k : Int) < 16 := by omega
        have hz := zeroTo_at bs k HL.out hk16
        obtain ⟨y, ey⟩ : ∃ y, bs.getD k 0 = y := ⟨_, rfl⟩
        rw [ey] at hcell hz
        clear ey
        by_cases hy : y = 0
        · subst hy
          have HK2 : Hid (zeroTo bs 4 = zeroTo bs (k + 1)) := Lib.hid (by rw [HK.out, hz]; rfl)
          clear hz
          go_wp2_with fail
          go_round
          case rel => exact ⟨k + 1, by omega, by omega, by go_num, HK2⟩
          case measure => simp [intOf]; omega
        · have HK2 : Hid (zeroTo bs 4 = false) := Lib.hid (by rw [HK.out, hz]; simp [hy])
          clear hz
          have hy2 : ((y : Int) != 0) = true := by simp; omega
          go_wp2_with fail
          go_ret
          exact ⟨by rw [mayB, show fromN 4 = 4 from FR.out, HK2.out]; rfl, B0.out⟩
      · obtain rfl : k = 16 := by omega
        have HK2 : Hid (zeroTo bs 4 = true) := Lib.hid (by rw [HK.out]; exact zeroTo_end bs HL.out)
        go_wp2_with fail
        go_ret
        exact ⟨by rw [mayB, show fromN 4 = 4 from FR.out, HK2.out]; rfl, B0.out⟩
  · have FR : Hid (fromN f = 16) := Lib.hid (by unfold fromN; rw [if_neg h0, if_neg h4])
    have g0 : (f == 0) = false := by simp [h0]
    have g4 : (f == 4) = false := by simp [h4]
    go_enter Tryd.func60, Tryd.ntmps60
    have hfam := HA.out.fam
    go_wp2_with fail
    generalize (w.alloc (.cells #[.int .i64 f, .int .u8 (y0 : Int), .int .u8 (y1 : Int), .int .u8 (y2 : Int), .int .u8 (y3 : Int), .int .u8 (y4 : Int), .int .u8 (y5 : Int), .int .u8 (y6 : Int), .int .u8 (y7 : Int), .int .u8 (y8 : Int), .int .u8 (y9 : Int), .int .u8 (y10 : Int), .int .u8 (y11 : Int), .int .u8 (y12 : Int), .int .u8 (y13 : Int), .int .u8 (y14 : Int), .int .u8 (y15 : Int)] 25)) = W at *
    go_loop [4] (fun i => ∃ k : Nat, 16 ≤ k ∧ k ≤ 16 ∧ i = .int .i64 (k : Int) ∧ Hid (zeroTo bs 16 = zeroTo bs k)) (fun i => 16 - (intOf i).toNat)
    case atStart => exact ⟨16, Nat.le_refl _, by decide, rfl, Lib.hid rfl⟩
    case round =>
      obtain ⟨k, hk0, hk, rfl, HK⟩ := hrel
      by_cases hk16 : k < 16
      · exact absurd hk16 (by omega)
      · obtain rfl : k = 16 := by omega
        have HK2 : Hid (zeroTo bs 16 = true) := Lib.hid (by rw [HK.out]; exact zeroTo_end bs HL.out)
        go_wp2_with fail
        go_ret
        exact ⟨by rw [mayB, show fromN f = 16 from FR.out, HK2.out]; simp [g0, g4], B0.out⟩
end Go.Proofs.YtgbajagacmfcmaaDoor
/- Contract of the reference's May of layer 5. -/
namespace Go.Proofs.YtgbajagacmfcmaaDoor
open Go.RowKit
set_option linter.unusedVariables false
set_option maxRecDepth 20000

/-- Which prefix may be, as the reference asks it. -/
def mayQ (f : Int) (bs : List Nat) (n : Int) : Bool := decide (mayB f bs = true ∧ f ≠ 0 ∧ 0 ≤ n ∧ n ≤ (bitsN f : Int) ∧ ∀ i : Nat, i < bitsN f → n.toNat ≤ i → bitA bs i = 0)
set_option maxRecDepth 100000 in
set_option maxHeartbeats 2000000 in
theorem refMayQ_any (f : Int) (ps : List Nat) (n : Int) (w : World) (hp : ps.length = 16) (lp : ∀ x ∈ ps, x < 256) :
    Calls Tryd.prog 48 #[prefV f ps n] w fun e w' => e = .returned (.bool (mayQ f ps n)) ∧ Below w.heap.size w w' := by
  have HP := Lib.hid hp
  obtain ⟨R, eR⟩ : ∃ R, mayQ f ps n = R := ⟨_, rfl⟩
  rw [eR]
  have HE : Hid (decide (mayB f ps = true ∧ f ≠ 0 ∧ 0 ≤ n ∧ n ≤ (bitsN f : Int) ∧ ∀ i : Nat, i < bitsN f → n.toNat ≤ i → bitA ps i = 0) = R) := Lib.hid (by rw [← eR]; rfl)
  have HC1 := fun W (k : Nat) (hk : k ≤ 1000) => Lib.hid (refBit_any f ps (k : Int) W hp lp (wf_small (by omega)))
  have HBI := fun W => Lib.hid (refBits_any f ps W hp)
  have HMB := fun W => Lib.hid (refMay_any f ps W hp)
  have HN := bitsN_le f
  have HBA : Hid (∀ k : Nat, k < bitsN f → bitN f ps (k : Int) = bitA ps k) := Lib.hid (fun k hk => bitN_A f ps k hk)
  generalize mayB f ps = mb at *
  generalize bitsN f = N at *
  obtain ⟨cs, ecs, H1, HB⟩ := pref_boxed f ps n w hp
  rw [ecs]
  clear ecs hp eR lp
  go_enter Tryd.func48, Tryd.ntmps48
  go_upto_region 1 with fail
  generalize (w.alloc (.cells cs 27)) = W at *
  have H1a := Lib.hid H1.out.addr
  go_wp2_with (refine load_addr_g H1a _ rfl rfl rfl ?_)
  refine (HMB _).out.mono ?_
  rintro e w1 ⟨rfl, hb1⟩
  have H2 := Lib.hid (H1.out.below hb1)
  have HB2 := Lib.hid (chain HB.out hb1)
  clear H1 HB hb1 H1a HMB
  obtain ⟨L, hL⟩ : ∃ L, [(w.heap.size, 0, prefL f ps n), (w.heap.size, 0, addrL f ps)] = L := ⟨_, rfl⟩
  have HK := Lib.hid (show HeldR L w w1 by rw [← hL]; exact (HeldR.nil HB2.out).pref H2.out)
  have Mp := Lib.hid (show InP L w.heap.size f ps n from ⟨by rw [← hL]; simp, HP.out⟩)
  have Ma := Lib.hid (show InA L w.heap.size f ps from ⟨by rw [← hL]; simp, HP.out⟩)
  have Cn := Lib.hid (bitsR Mp.out w)
  have Cf := Lib.hid (famPR Mp.out w)
  clear hL HB2
  have C1 : ∀ w', HeldR L w w' → Hid (Calls Tryd.prog 16 #[addrV f ps] w' fun e w'' => e = .returned (.int .i64 ((N : Nat) : Int)) ∧ Below w'.heap.size w' w'') := fun w' h => HBI w'
  cases mb with
  | false =>
    have HE2 : Hid (false = R) := Lib.hid (by rw [← HE.out]; exact (decide_eq_false (fun h => absurd h.1 (by decide))).symm)
    go_upto_region 2 with fail
    refine wp_region_noPanic ?_
    refine wp_region_held_drew (S := HeldR L w) (by kernel_rfl) HK.out.drew (fun hHeld => ?_)
    refine wpAnyH_take (i := 0) (v := ?_) rfl (by kernel_rfl) (by kernel_rfl) (by kernel_rfl) (fun _ _ _ h => h) (Or.inl ⟨by rfl, ?_⟩) (by assumption) ?_
    rotate_left
    · (intro w hSw; go_simp; try (with_reducible rfl))
    try simp only [Act.put, List.getElem_toArray, List.getElem_cons_zero, List.setIfInBounds_toArray, List.set_cons_zero, List.set_cons_succ]
    refine wpAnyH_take (i := 1) (v := ?_) rfl (by kernel_rfl) (by kernel_rfl) (by kernel_rfl) (fun _ _ _ h => h) (Or.inl ⟨by rfl, ?_⟩) (by assumption) ?_
    rotate_left
    · (intro w hSw; go_simp; try (with_reducible rfl))
    try simp only [Act.put, List.getElem_toArray, List.getElem_cons_zero, List.getElem_cons_succ, List.setIfInBounds_toArray, List.set_cons_zero, List.set_cons_succ]
    refine wpAnyH_take (i := 2) (v := ?_) rfl (by kernel_rfl) (by kernel_rfl) (by kernel_rfl) (fun _ _ _ h => h) (Or.inl ⟨by rfl, ?_⟩) (by assumption) ?_
    rotate_left
    · (intro w hSw; go_simp; try (with_reducible rfl))
    try simp only [Act.put, List.getElem_toArray, List.getElem_cons_zero, List.getElem_cons_succ, List.setIfInBounds_toArray, List.set_cons_zero, List.set_cons_succ]
    refine wpAnyH_take (i := 3) (v := undef) rfl (by kernel_rfl) (by kernel_rfl) (by kernel_rfl) (fun _ _ _ h => h) (Or.inr ⟨by rfl, rfl⟩) (by assumption) ?_
    try simp only [Act.put, List.getElem_toArray, List.getElem_cons_zero, List.getElem_cons_succ, List.setIfInBounds_toArray, List.set_cons_zero, List.set_cons_succ]
    refine wpAnyH_take (i := 4) (v := undef) rfl (by kernel_rfl) (by kernel_rfl) (by kernel_rfl) (fun _ _ _ h => h) (Or.inr ⟨by rfl, rfl⟩) (by assumption) ?_
    try simp only [Act.put, List.getElem_toArray, List.getElem_cons_zero, List.getElem_cons_succ, List.setIfInBounds_toArray, List.set_cons_zero, List.set_cons_succ]
    refine wpAnyH_take (i := 5) (v := undef) rfl (by kernel_rfl) (by kernel_rfl) (by kernel_rfl) (fun _ _ _ h => h) (Or.inr ⟨by rfl, rfl⟩) (by assumption) ?_
    try simp only [Act.put, List.getElem_toArray, List.getElem_cons_zero, List.getElem_cons_succ, List.setIfInBounds_toArray, List.set_cons_zero, List.set_cons_succ]
    refine wpAnyH_take (i := 6) (v := undef) rfl (by kernel_rfl) (by kernel_rfl) (by kernel_rfl) (fun _ _ _ h => h) (Or.inr ⟨by rfl, rfl⟩) (by assumption) ?_
    try simp only [Act.put, List.getElem_toArray, List.getElem_cons_zero, List.getElem_cons_succ, List.setIfInBounds_toArray, List.set_cons_zero, List.set_cons_succ]
    refine wpAnyH_take (i := 7) (v := ?_) rfl (by kernel_rfl) (by kernel_rfl) (by kernel_rfl) (fun _ _ _ h => h) (Or.inl ⟨by rfl, ?_⟩) (by assumption) ?_
    rotate_left
    · (intro w hSw; go_simp; try (with_reducible rfl))
    try simp only [Act.put, List.getElem_toArray, List.getElem_cons_zero, List.getElem_cons_succ, List.setIfInBounds_toArray, List.set_cons_zero, List.set_cons_succ]
    refine wpAnyH_take (i := 8) (v := ?_) rfl (by kernel_rfl) (by kernel_rfl) (by kernel_rfl) (fun _ _ _ h => h) (Or.inl ⟨by rfl, ?_⟩) (by assumption) ?_
    rotate_left
    · (intro w hSw; go_simp; try (with_reducible rfl))
    try simp only [Act.put, List.getElem_toArray, List.getElem_cons_zero, List.getElem_cons_succ, List.setIfInBounds_toArray, List.set_cons_zero, List.set_cons_succ]
    refine wpAnyH_take (i := 9) (v := undef) rfl (by kernel_rfl) (by kernel_rfl) (by kernel_rfl) (fun _ _ _ h => h) (Or.inr ⟨by rfl, rfl⟩) (by assumption) ?_
    try simp only [Act.put, List.getElem_toArray, List.getElem_cons_zero, List.getElem_cons_succ, List.setIfInBounds_toArray, List.set_cons_zero, List.set_cons_succ]
    refine wpAnyH_take (i := 10) (v := undef) rfl (by kernel_rfl) (by kernel_rfl) (by kernel_rfl) (fun _ _ _ h => h) (Or.inr ⟨by rfl, rfl⟩) (by assumption) ?_
    try simp only [Act.put, List.getElem_toArray, List.getElem_cons_zero, List.getElem_cons_succ, List.setIfInBounds_toArray, List.set_cons_zero, List.set_cons_succ]
    refine wpAnyH_take (i := 11) (v := undef) rfl (by kernel_rfl) (by kernel_rfl) (by kernel_rfl) (fun _ _ _ h => h) (Or.inr ⟨by rfl, rfl⟩) (by assumption) ?_
    try simp only [Act.put, List.getElem_toArray, List.getElem_cons_zero, List.getElem_cons_succ, List.setIfInBounds_toArray, List.set_cons_zero, List.set_cons_succ]
    refine wpAnyH_take (i := 12) (v := ?_) rfl (by kernel_rfl) (by kernel_rfl) (by kernel_rfl) (fun _ _ _ h => h) (Or.inl ⟨by rfl, ?_⟩) (by assumption) ?_
    rotate_left
    · (intro w hSw; go_simp; try (with_reducible rfl))
    try simp only [Act.put, List.getElem_toArray, List.getElem_cons_zero, List.getElem_cons_succ, List.setIfInBounds_toArray, List.set_cons_zero, List.set_cons_succ]
    refine wpAnyH_take (i := 13) (v := ?_) rfl (by kernel_rfl) (by kernel_rfl) (by kernel_rfl) (fun _ _ _ h => h) (Or.inl ⟨by rfl, ?_⟩) (by assumption) ?_
    rotate_left
    · (intro w hSw; go_simp; try (with_reducible rfl))
    try simp only [Act.put, List.getElem_toArray, List.getElem_cons_zero, List.getElem_cons_succ, List.setIfInBounds_toArray, List.set_cons_zero, List.set_cons_succ]
    refine wpAnyH_take (i := 14) (v := undef) rfl (by kernel_rfl) (by kernel_rfl) (by kernel_rfl) (fun _ _ _ h => h) (Or.inr ⟨by rfl, rfl⟩) (by assumption) ?_
    try simp only [Act.put, List.getElem_toArray, List.getElem_cons_zero, List.getElem_cons_succ, List.setIfInBounds_toArray, List.set_cons_zero, List.set_cons_succ]
    refine wpAnyH_take (i := 15) (v := undef) rfl (by kernel_rfl) (by kernel_rfl) (by kernel_rfl) (fun _ _ _ h => h) (Or.inr ⟨by rfl, rfl⟩) (by assumption) ?_
    try simp only [Act.put, List.getElem_toArray, List.getElem_cons_zero, List.getElem_cons_succ, List.setIfInBounds_toArray, List.set_cons_zero, List.set_cons_succ]
    refine wpAnyH_take (i := 16) (v := undef) rfl (by kernel_rfl) (by kernel_rfl) (by kernel_rfl) (fun _ _ _ h => h) (Or.inr ⟨by rfl, rfl⟩) (by assumption) ?_
    try simp only [Act.put, List.getElem_toArray, List.getElem_cons_zero, List.getElem_cons_succ, List.setIfInBounds_toArray, List.set_cons_zero, List.set_cons_succ]
    refine wpAnyH_take (i := 17) (v := undef) rfl (by kernel_rfl) (by kernel_rfl) (by kernel_rfl) (fun _ _ _ h => h) (Or.inr ⟨by rfl, rfl⟩) (by assumption) ?_
    try simp only [Act.put, List.getElem_toArray, List.getElem_cons_zero, List.getElem_cons_succ, List.setIfInBounds_toArray, List.set_cons_zero, List.set_cons_succ]
    refine wpAnyH_take (i := 18) (v := undef) rfl (by kernel_rfl) (by kernel_rfl) (by kernel_rfl) (fun _ _ _ h => h) (Or.inr ⟨by rfl, rfl⟩) (by assumption) ?_
    try simp only [Act.put, List.getElem_toArray, List.getElem_cons_zero, List.getElem_cons_succ, List.setIfInBounds_toArray, List.set_cons_zero, List.set_cons_succ]
    refine wpAnyH_take (i := 19) (v := undef) rfl (by kernel_rfl) (by kernel_rfl) (by kernel_rfl) (fun _ _ _ h => h) (Or.inr ⟨by rfl, rfl⟩) (by assumption) ?_
    try simp only [Act.put, List.getElem_toArray, List.getElem_cons_zero, List.getElem_cons_succ, List.setIfInBounds_toArray, List.set_cons_zero, List.set_cons_succ]
    refine wpAnyH_take (i := 20) (v := ?_) rfl (by kernel_rfl) (by kernel_rfl) (by kernel_rfl) (fun _ _ _ h => h) (Or.inl ⟨by rfl, ?_⟩) (by assumption) ?_
    rotate_left
    · (intro w hSw; go_simp; try (with_reducible rfl))
    try simp only [Act.put, List.getElem_toArray, List.getElem_cons_zero, List.getElem_cons_succ, List.setIfInBounds_toArray, List.set_cons_zero, List.set_cons_succ]
    refine wpAnyH_done (by kernel_rfl) ?_ _
    refine NoPanic.normal ?_
    go_wp2_with fail
    go_ret
    exact ⟨by rw [← HE2.out]; rfl, hHeld.bel⟩
  | true =>
    go_upto_region 2 with fail
    by_cases h0 : f = 0
    · have hd : (f == 0) = true := by simp [h0]
      have HE2 : Hid (false = R) := Lib.hid (by rw [← HE.out]; exact (decide_eq_false (fun h => absurd h0 h.2.1)).symm)
      clear h0
      refine wp_region_noPanic ?_
      refine wp_region_held_drew (S := HeldR L w) (by kernel_rfl) HK.out.drew (fun hHeld => ?_)
      refine wpAnyH_take (i := 0) (v := ?_) rfl (by kernel_rfl) (by kernel_rfl) (by kernel_rfl) (fun _ _ _ h => h) (Or.inl ⟨by rfl, ?_⟩) (by assumption) ?_
      rotate_left
      · (intro w hSw; go_simp; try (with_reducible rfl))
      try simp only [Act.put, List.getElem_toArray, List.getElem_cons_zero, List.setIfInBounds_toArray, List.set_cons_zero, List.set_cons_succ]
      refine wpAnyH_take (i := 1) (v := ?_) rfl (by kernel_rfl) (by kernel_rfl) (by kernel_rfl) (fun _ _ _ h => h) (Or.inl ⟨by rfl, ?_⟩) (by assumption) ?_
      rotate_left
      · (intro w hSw; go_simp; try (with_reducible rfl))
      try simp only [Act.put, List.getElem_toArray, List.getElem_cons_zero, List.getElem_cons_succ, List.setIfInBounds_toArray, List.set_cons_zero, List.set_cons_succ]
      refine wpAnyH_take (i := 2) (v := ?_) rfl (by kernel_rfl) (by kernel_rfl) (by kernel_rfl) (fun _ _ _ h => h) (Or.inl ⟨by rfl, ?_⟩) (by assumption) ?_
      rotate_left
      · (intro w hSw; go_simp; try (with_reducible rfl))
      try simp only [Act.put, List.getElem_toArray, List.getElem_cons_zero, List.getElem_cons_succ, List.setIfInBounds_toArray, List.set_cons_zero, List.set_cons_succ]
      refine wpAnyH_take (i := 3) (v := ?_) rfl (by kernel_rfl) (by kernel_rfl) (by kernel_rfl) (fun _ _ _ h => h) (Or.inl ⟨by rfl, ?_⟩) (by assumption) ?_
      rotate_left
      · (intro w hSw; go_simp; try (with_reducible rfl))
      try simp only [Act.put, List.getElem_toArray, List.getElem_cons_zero, List.getElem_cons_succ, List.setIfInBounds_toArray, List.set_cons_zero, List.set_cons_succ]
      refine wpAnyH_take (i := 4) (v := ?_) rfl (by kernel_rfl) (by kernel_rfl) (by kernel_rfl) (fun _ _ _ h => h) (Or.inl ⟨by rfl, ?_⟩) (by assumption) ?_
      rotate_left
      · (intro w hSw; go_simp; try (with_reducible rfl))
      try simp only [Act.put, List.getElem_toArray, List.getElem_cons_zero, List.getElem_cons_succ, List.setIfInBounds_toArray, List.set_cons_zero, List.set_cons_succ]
      refine wpAnyH_take (i := 5) (v := ?_) rfl (by kernel_rfl) (by kernel_rfl) (by kernel_rfl) (fun _ _ _ h => h) (Or.inl ⟨by rfl, ?_⟩) (by assumption) ?_
      rotate_left
      · (intro w hSw; have hc0 := Cf.out w hSw; go_simp; try (with_reducible rfl))
      try simp only [Act.put, List.getElem_toArray, List.getElem_cons_zero, List.getElem_cons_succ, List.setIfInBounds_toArray, List.set_cons_zero, List.set_cons_succ]
      refine wpAnyH_take (i := 6) (v := ?_) rfl (by kernel_rfl) (by kernel_rfl) (by kernel_rfl) (fun _ _ _ h => h) (Or.inl ⟨by rfl, ?_⟩) (by assumption) ?_
      rotate_left
      · (intro w hSw; go_simp; try (with_reducible rfl))
      try simp only [Act.put, List.getElem_toArray, List.getElem_cons_zero, List.getElem_cons_succ, List.setIfInBounds_toArray, List.set_cons_zero, List.set_cons_succ]
      refine wpAnyH_take (i := 7) (v := ?_) rfl (by kernel_rfl) (by kernel_rfl) (by kernel_rfl) (fun _ _ _ h => h) (Or.inl ⟨by rfl, ?_⟩) (by assumption) ?_
      rotate_left
      · (intro w hSw; go_simp; try (with_reducible rfl))
      try simp only [Act.put, List.getElem_toArray, List.getElem_cons_zero, List.getElem_cons_succ, List.setIfInBounds_toArray, List.set_cons_zero, List.set_cons_succ]
      refine wpAnyH_take (i := 8) (v := ?_) rfl (by kernel_rfl) (by kernel_rfl) (by kernel_rfl) (fun _ _ _ h => h) (Or.inl ⟨by rfl, ?_⟩) (by assumption) ?_
      rotate_left
      · (intro w hSw; go_simp; try (with_reducible rfl))
      try simp only [Act.put, List.getElem_toArray, List.getElem_cons_zero, List.getElem_cons_succ, List.setIfInBounds_toArray, List.set_cons_zero, List.set_cons_succ]
      refine wpAnyH_take (i := 9) (v := undef) rfl (by kernel_rfl) (by kernel_rfl) (by kernel_rfl) (fun _ _ _ h => h) (Or.inr ⟨by rfl, rfl⟩) (by assumption) ?_
      try simp only [Act.put, List.getElem_toArray, List.getElem_cons_zero, List.getElem_cons_succ, List.setIfInBounds_toArray, List.set_cons_zero, List.set_cons_succ]
      refine wpAnyH_take (i := 10) (v := undef) rfl (by kernel_rfl) (by kernel_rfl) (by kernel_rfl) (fun _ _ _ h => h) (Or.inr ⟨by rfl, rfl⟩) (by assumption) ?_
      try simp only [Act.put, List.getElem_toArray, List.getElem_cons_zero, List.getElem_cons_succ, List.setIfInBounds_toArray, List.set_cons_zero, List.set_cons_succ]
      refine wpAnyH_take (i := 11) (v := undef) rfl (by kernel_rfl) (by kernel_rfl) (by kernel_rfl) (fun _ _ _ h => h) (Or.inr ⟨by rfl, rfl⟩) (by assumption) ?_
      try simp only [Act.put, List.getElem_toArray, List.getElem_cons_zero, List.getElem_cons_succ, List.setIfInBounds_toArray, List.set_cons_zero, List.set_cons_succ]
      refine wpAnyH_take (i := 12) (v := ?_) rfl (by kernel_rfl) (by kernel_rfl) (by kernel_rfl) (fun _ _ _ h => h) (Or.inl ⟨by rfl, ?_⟩) (by assumption) ?_
      rotate_left
      · (intro w hSw; go_simp; try (with_reducible rfl))
      try simp only [Act.put, List.getElem_toArray, List.getElem_cons_zero, List.getElem_cons_succ, List.setIfInBounds_toArray, List.set_cons_zero, List.set_cons_succ]
      refine wpAnyH_take (i := 13) (v := ?_) rfl (by kernel_rfl) (by kernel_rfl) (by kernel_rfl) (fun _ _ _ h => h) (Or.inl ⟨by rfl, ?_⟩) (by assumption) ?_
      rotate_left
      · (intro w hSw; go_simp; try (with_reducible rfl))
      try simp only [Act.put, List.getElem_toArray, List.getElem_cons_zero, List.getElem_cons_succ, List.setIfInBounds_toArray, List.set_cons_zero, List.set_cons_succ]
      refine wpAnyH_take (i := 14) (v := undef) rfl (by kernel_rfl) (by kernel_rfl) (by kernel_rfl) (fun _ _ _ h => h) (Or.inr ⟨by rfl, rfl⟩) (by assumption) ?_
      try simp only [Act.put, List.getElem_toArray, List.getElem_cons_zero, List.getElem_cons_succ, List.setIfInBounds_toArray, List.set_cons_zero, List.set_cons_succ]
      refine wpAnyH_take (i := 15) (v := undef) rfl (by kernel_rfl) (by kernel_rfl) (by kernel_rfl) (fun _ _ _ h => h) (Or.inr ⟨by rfl, rfl⟩) (by assumption) ?_
      try simp only [Act.put, List.getElem_toArray, List.getElem_cons_zero, List.getElem_cons_succ, List.setIfInBounds_toArray, List.set_cons_zero, List.set_cons_succ]
      refine wpAnyH_take (i := 16) (v := undef) rfl (by kernel_rfl) (by kernel_rfl) (by kernel_rfl) (fun _ _ _ h => h) (Or.inr ⟨by rfl, rfl⟩) (by assumption) ?_
      try simp only [Act.put, List.getElem_toArray, List.getElem_cons_zero, List.getElem_cons_succ, List.setIfInBounds_toArray, List.set_cons_zero, List.set_cons_succ]
      refine wpAnyH_take (i := 17) (v := undef) rfl (by kernel_rfl) (by kernel_rfl) (by kernel_rfl) (fun _ _ _ h => h) (Or.inr ⟨by rfl, rfl⟩) (by assumption) ?_
      try simp only [Act.put, List.getElem_toArray, List.getElem_cons_zero, List.getElem_cons_succ, List.setIfInBounds_toArray, List.set_cons_zero, List.set_cons_succ]
      refine wpAnyH_take (i := 18) (v := undef) rfl (by kernel_rfl) (by kernel_rfl) (by kernel_rfl) (fun _ _ _ h => h) (Or.inr ⟨by rfl, rfl⟩) (by assumption) ?_
      try simp only [Act.put, List.getElem_toArray, List.getElem_cons_zero, List.getElem_cons_succ, List.setIfInBounds_toArray, List.set_cons_zero, List.set_cons_succ]
      refine wpAnyH_take (i := 19) (v := undef) rfl (by kernel_rfl) (by kernel_rfl) (by kernel_rfl) (fun _ _ _ h => h) (Or.inr ⟨by rfl, rfl⟩) (by assumption) ?_
      try simp only [Act.put, List.getElem_toArray, List.getElem_cons_zero, List.getElem_cons_succ, List.setIfInBounds_toArray, List.set_cons_zero, List.set_cons_succ]
      refine wpAnyH_take (i := 20) (v := ?_) rfl (by kernel_rfl) (by kernel_rfl) (by kernel_rfl) (fun _ _ _ h => h) (Or.inl ⟨by rfl, ?_⟩) (by assumption) ?_
      rotate_left
      · (intro w hSw; go_simp; try (with_reducible rfl))
      try simp only [Act.put, List.getElem_toArray, List.getElem_cons_zero, List.getElem_cons_succ, List.setIfInBounds_toArray, List.set_cons_zero, List.set_cons_succ]
      refine wpAnyH_done (by kernel_rfl) ?_ _
      refine NoPanic.normal ?_
      go_wp2_with fail
      go_ret
      exact ⟨by rw [← HE2.out]; rfl, hHeld.bel⟩
    · have hd : (f == 0) = false := by simp [h0]
      by_cases hn0 : n < 0
      · have hd1 : decide (n < 0) = true := by simp [hn0]
        have HE2 : Hid (false = R) := Lib.hid (by rw [← HE.out]; exact (decide_eq_false (fun h => by have := h.2.2.1; omega)).symm)
        refine wp_region_noPanic ?_
        refine wp_region_held_drew (S := HeldR L w) (by kernel_rfl) HK.out.drew (fun hHeld => ?_)
        refine wpAnyH_take (i := 0) (v := ?_) rfl (by kernel_rfl) (by kernel_rfl) (by kernel_rfl) (fun _ _ _ h => h) (Or.inl ⟨by rfl, ?_⟩) (by assumption) ?_
        rotate_left
        · (intro w hSw; go_simp; try (with_reducible rfl))
        try simp only [Act.put, List.getElem_toArray, List.getElem_cons_zero, List.setIfInBounds_toArray, List.set_cons_zero, List.set_cons_succ]
        refine wpAnyH_take (i := 1) (v := ?_) rfl (by kernel_rfl) (by kernel_rfl) (by kernel_rfl) (fun _ _ _ h => h) (Or.inl ⟨by rfl, ?_⟩) (by assumption) ?_
        rotate_left
        · (intro w hSw; go_simp; try (with_reducible rfl))
        try simp only [Act.put, List.getElem_toArray, List.getElem_cons_zero, List.getElem_cons_succ, List.setIfInBounds_toArray, List.set_cons_zero, List.set_cons_succ]
        refine wpAnyH_take (i := 2) (v := ?_) rfl (by kernel_rfl) (by kernel_rfl) (by kernel_rfl) (fun _ _ _ h => h) (Or.inl ⟨by rfl, ?_⟩) (by assumption) ?_
        rotate_left
        · (intro w hSw; go_simp; try (with_reducible rfl))
        try simp only [Act.put, List.getElem_toArray, List.getElem_cons_zero, List.getElem_cons_succ, List.setIfInBounds_toArray, List.set_cons_zero, List.set_cons_succ]
        refine wpAnyH_take (i := 3) (v := ?_) rfl (by kernel_rfl) (by kernel_rfl) (by kernel_rfl) (fun _ _ _ h => h) (Or.inl ⟨by rfl, ?_⟩) (by assumption) ?_
        rotate_left
        · (intro w hSw; go_simp; try (with_reducible rfl))
        try simp only [Act.put, List.getElem_toArray, List.getElem_cons_zero, List.getElem_cons_succ, List.setIfInBounds_toArray, List.set_cons_zero, List.set_cons_succ]
        refine wpAnyH_take (i := 4) (v := ?_) rfl (by kernel_rfl) (by kernel_rfl) (by kernel_rfl) (fun _ _ _ h => h) (Or.inl ⟨by rfl, ?_⟩) (by assumption) ?_
        rotate_left
        · (intro w hSw; go_simp; try (with_reducible rfl))
        try simp only [Act.put, List.getElem_toArray, List.getElem_cons_zero, List.getElem_cons_succ, List.setIfInBounds_toArray, List.set_cons_zero, List.set_cons_succ]
        refine wpAnyH_take (i := 5) (v := ?_) rfl (by kernel_rfl) (by kernel_rfl) (by kernel_rfl) (fun _ _ _ h => h) (Or.inl ⟨by rfl, ?_⟩) (by assumption) ?_
        rotate_left
        · (intro w hSw; have hc0 := Cf.out w hSw; go_simp; try (with_reducible rfl))
        try simp only [Act.put, List.getElem_toArray, List.getElem_cons_zero, List.getElem_cons_succ, List.setIfInBounds_toArray, List.set_cons_zero, List.set_cons_succ]
        refine wpAnyH_take (i := 6) (v := ?_) rfl (by kernel_rfl) (by kernel_rfl) (by kernel_rfl) (fun _ _ _ h => h) (Or.inl ⟨by rfl, ?_⟩) (by assumption) ?_
        rotate_left
        · (intro w hSw; go_simp; try (with_reducible rfl))
        try simp only [Act.put, List.getElem_toArray, List.getElem_cons_zero, List.getElem_cons_succ, List.setIfInBounds_toArray, List.set_cons_zero, List.set_cons_succ]
        refine wpAnyH_take (i := 7) (v := ?_) rfl (by kernel_rfl) (by kernel_rfl) (by kernel_rfl) (fun _ _ _ h => h) (Or.inl ⟨by rfl, ?_⟩) (by assumption) ?_
        rotate_left
        · (intro w hSw; go_simp; try (with_reducible rfl))
        try simp only [Act.put, List.getElem_toArray, List.getElem_cons_zero, List.getElem_cons_succ, List.setIfInBounds_toArray, List.set_cons_zero, List.set_cons_succ]
        refine wpAnyH_take (i := 8) (v := ?_) rfl (by kernel_rfl) (by kernel_rfl) (by kernel_rfl) (fun _ _ _ h => h) (Or.inl ⟨by rfl, ?_⟩) (by assumption) ?_
        rotate_left
        · (intro w hSw; go_simp; try (with_reducible rfl))
        try simp only [Act.put, List.getElem_toArray, List.getElem_cons_zero, List.getElem_cons_succ, List.setIfInBounds_toArray, List.set_cons_zero, List.set_cons_succ]
        refine wpAnyH_take (i := 9) (v := ?_) rfl (by kernel_rfl) (by kernel_rfl) (by kernel_rfl) (fun _ _ _ h => h) (Or.inl ⟨by rfl, ?_⟩) (by assumption) ?_
        rotate_left
        · (intro w hSw; go_simp; try (with_reducible rfl))
        try simp only [Act.put, List.getElem_toArray, List.getElem_cons_zero, List.getElem_cons_succ, List.setIfInBounds_toArray, List.set_cons_zero, List.set_cons_succ]
        refine wpAnyH_take (i := 10) (v := ?_) rfl (by kernel_rfl) (by kernel_rfl) (by kernel_rfl) (fun _ _ _ h => h) (Or.inl ⟨by rfl, ?_⟩) (by assumption) ?_
        rotate_left
        · (intro w hSw; have hc0 := Cn.out w hSw; go_simp; try (with_reducible rfl))
        try simp only [Act.put, List.getElem_toArray, List.getElem_cons_zero, List.getElem_cons_succ, List.setIfInBounds_toArray, List.set_cons_zero, List.set_cons_succ]
        refine wpAnyH_take (i := 11) (v := ?_) rfl (by kernel_rfl) (by kernel_rfl) (by kernel_rfl) (fun _ _ _ h => h) (Or.inl ⟨by rfl, ?_⟩) (by assumption) ?_
        rotate_left
        · (intro w hSw; go_simp; try (with_reducible rfl))
        try simp only [Act.put, List.getElem_toArray, List.getElem_cons_zero, List.getElem_cons_succ, List.setIfInBounds_toArray, List.set_cons_zero, List.set_cons_succ]
        refine wpAnyH_take (i := 12) (v := ?_) rfl (by kernel_rfl) (by kernel_rfl) (by kernel_rfl) (fun _ _ _ h => h) (Or.inl ⟨by rfl, ?_⟩) (by assumption) ?_
        rotate_left
        · (intro w hSw; go_simp; try (with_reducible rfl))
        try simp only [Act.put, List.getElem_toArray, List.getElem_cons_zero, List.getElem_cons_succ, List.setIfInBounds_toArray, List.set_cons_zero, List.set_cons_succ]
        refine wpAnyH_take (i := 13) (v := ?_) rfl (by kernel_rfl) (by kernel_rfl) (by kernel_rfl) (fun _ _ _ h => h) (Or.inl ⟨by rfl, ?_⟩) (by assumption) ?_
        rotate_left
        · (intro w hSw; go_simp; try (with_reducible rfl))
        try simp only [Act.put, List.getElem_toArray, List.getElem_cons_zero, List.getElem_cons_succ, List.setIfInBounds_toArray, List.set_cons_zero, List.set_cons_succ]
        refine wpAnyH_take (i := 14) (v := undef) rfl (by kernel_rfl) (by kernel_rfl) (by kernel_rfl) (fun _ _ _ h => h) (Or.inr ⟨by rfl, rfl⟩) (by assumption) ?_
        try simp only [Act.put, List.getElem_toArray, List.getElem_cons_zero, List.getElem_cons_succ, List.setIfInBounds_toArray, List.set_cons_zero, List.set_cons_succ]
        refine wpAnyH_take (i := 15) (v := undef) rfl (by kernel_rfl) (by kernel_rfl) (by kernel_rfl) (fun _ _ _ h => h) (Or.inr ⟨by rfl, rfl⟩) (by assumption) ?_
        try simp only [Act.put, List.getElem_toArray, List.getElem_cons_zero, List.getElem_cons_succ, List.setIfInBounds_toArray, List.set_cons_zero, List.set_cons_succ]
        refine wpAnyH_take (i := 16) (v := undef) rfl (by kernel_rfl) (by kernel_rfl) (by kernel_rfl) (fun _ _ _ h => h) (Or.inr ⟨by rfl, rfl⟩) (by assumption) ?_
        try simp only [Act.put, List.getElem_toArray, List.getElem_cons_zero, List.getElem_cons_succ, List.setIfInBounds_toArray, List.set_cons_zero, List.set_cons_succ]
        refine wpAnyH_take (i := 17) (v := undef) rfl (by kernel_rfl) (by kernel_rfl) (by kernel_rfl) (fun _ _ _ h => h) (Or.inr ⟨by rfl, rfl⟩) (by assumption) ?_
        try simp only [Act.put, List.getElem_toArray, List.getElem_cons_zero, List.getElem_cons_succ, List.setIfInBounds_toArray, List.set_cons_zero, List.set_cons_succ]
        refine wpAnyH_take (i := 18) (v := undef) rfl (by kernel_rfl) (by kernel_rfl) (by kernel_rfl) (fun _ _ _ h => h) (Or.inr ⟨by rfl, rfl⟩) (by assumption) ?_
        try simp only [Act.put, List.getElem_toArray, List.getElem_cons_zero, List.getElem_cons_succ, List.setIfInBounds_toArray, List.set_cons_zero, List.set_cons_succ]
        refine wpAnyH_take (i := 19) (v := undef) rfl (by kernel_rfl) (by kernel_rfl) (by kernel_rfl) (fun _ _ _ h => h) (Or.inr ⟨by rfl, rfl⟩) (by assumption) ?_
        try simp only [Act.put, List.getElem_toArray, List.getElem_cons_zero, List.getElem_cons_succ, List.setIfInBounds_toArray, List.set_cons_zero, List.set_cons_succ]
        refine wpAnyH_take (i := 20) (v := ?_) rfl (by kernel_rfl) (by kernel_rfl) (by kernel_rfl) (fun _ _ _ h => h) (Or.inl ⟨by rfl, ?_⟩) (by assumption) ?_
        rotate_left
        · (intro w hSw; go_simp; try (with_reducible rfl))
        try simp only [Act.put, List.getElem_toArray, List.getElem_cons_zero, List.getElem_cons_succ, List.setIfInBounds_toArray, List.set_cons_zero, List.set_cons_succ]
        refine wpAnyH_done (by kernel_rfl) ?_ _
        refine NoPanic.normal ?_
        go_wp2_with fail
        go_ret
        exact ⟨by rw [← HE2.out]; rfl, hHeld.bel⟩
      · have hd1 : decide (n < 0) = false := by simp; omega
        by_cases hnN : (N : Int) < n
        · have hd2 : decide ((N : Int) < n) = true := by simp [hnN]
          have HE2 : Hid (false = R) := Lib.hid (by rw [← HE.out]; exact (decide_eq_false (fun h => by have := h.2.2.2.1; omega)).symm)
          refine wp_region_noPanic ?_
          refine wp_region_held_drew (S := HeldR L w) (by kernel_rfl) HK.out.drew (fun hHeld => ?_)
          refine wpAnyH_take (i := 0) (v := ?_) rfl (by kernel_rfl) (by kernel_rfl) (by kernel_rfl) (fun _ _ _ h => h) (Or.inl ⟨by rfl, ?_⟩) (by assumption) ?_
          rotate_left
          · (intro w hSw; go_simp; try (with_reducible rfl))
          try simp only [Act.put, List.getElem_toArray, List.getElem_cons_zero, List.setIfInBounds_toArray, List.set_cons_zero, List.set_cons_succ]
          refine wpAnyH_take (i := 1) (v := ?_) rfl (by kernel_rfl) (by kernel_rfl) (by kernel_rfl) (fun _ _ _ h => h) (Or.inl ⟨by rfl, ?_⟩) (by assumption) ?_
          rotate_left
          · (intro w hSw; go_simp; try (with_reducible rfl))
          try simp only [Act.put, List.getElem_toArray, List.getElem_cons_zero, List.getElem_cons_succ, List.setIfInBounds_toArray, List.set_cons_zero, List.set_cons_succ]
          refine wpAnyH_take (i := 2) (v := ?_) rfl (by kernel_rfl) (by kernel_rfl) (by kernel_rfl) (fun _ _ _ h => h) (Or.inl ⟨by rfl, ?_⟩) (by assumption) ?_
          rotate_left
          · (intro w hSw; go_simp; try (with_reducible rfl))
          try simp only [Act.put, List.getElem_toArray, List.getElem_cons_zero, List.getElem_cons_succ, List.setIfInBounds_toArray, List.set_cons_zero, List.set_cons_succ]
          refine wpAnyH_take (i := 3) (v := ?_) rfl (by kernel_rfl) (by kernel_rfl) (by kernel_rfl) (fun _ _ _ h => h) (Or.inl ⟨by rfl, ?_⟩) (by assumption) ?_
          rotate_left
          · (intro w hSw; go_simp; try (with_reducible rfl))
          try simp only [Act.put, List.getElem_toArray, List.getElem_cons_zero, List.getElem_cons_succ, List.setIfInBounds_toArray, List.set_cons_zero, List.set_cons_succ]
          refine wpAnyH_take (i := 4) (v := ?_) rfl (by kernel_rfl) (by kernel_rfl) (by kernel_rfl) (fun _ _ _ h => h) (Or.inl ⟨by rfl, ?_⟩) (by assumption) ?_
          rotate_left
          · (intro w hSw; go_simp; try (with_reducible rfl))
          try simp only [Act.put, List.getElem_toArray, List.getElem_cons_zero, List.getElem_cons_succ, List.setIfInBounds_toArray, List.set_cons_zero, List.set_cons_succ]
          refine wpAnyH_take (i := 5) (v := ?_) rfl (by kernel_rfl) (by kernel_rfl) (by kernel_rfl) (fun _ _ _ h => h) (Or.inl ⟨by rfl, ?_⟩) (by assumption) ?_
          rotate_left
          · (intro w hSw; have hc0 := Cf.out w hSw; go_simp; try (with_reducible rfl))
          try simp only [Act.put, List.getElem_toArray, List.getElem_cons_zero, List.getElem_cons_succ, List.setIfInBounds_toArray, List.set_cons_zero, List.set_cons_succ]
          refine wpAnyH_take (i := 6) (v := ?_) rfl (by kernel_rfl) (by kernel_rfl) (by kernel_rfl) (fun _ _ _ h => h) (Or.inl ⟨by rfl, ?_⟩) (by assumption) ?_
          rotate_left
          · (intro w hSw; go_simp; try (with_reducible rfl))
          try simp only [Act.put, List.getElem_toArray, List.getElem_cons_zero, List.getElem_cons_succ, List.setIfInBounds_toArray, List.set_cons_zero, List.set_cons_succ]
          refine wpAnyH_take (i := 7) (v := ?_) rfl (by kernel_rfl) (by kernel_rfl) (by kernel_rfl) (fun _ _ _ h => h) (Or.inl ⟨by rfl, ?_⟩) (by assumption) ?_
          rotate_left
          · (intro w hSw; go_simp; try (with_reducible rfl))
          try simp only [Act.put, List.getElem_toArray, List.getElem_cons_zero, List.getElem_cons_succ, List.setIfInBounds_toArray, List.set_cons_zero, List.set_cons_succ]
          refine wpAnyH_take (i := 8) (v := ?_) rfl (by kernel_rfl) (by kernel_rfl) (by kernel_rfl) (fun _ _ _ h => h) (Or.inl ⟨by rfl, ?_⟩) (by assumption) ?_
          rotate_left
          · (intro w hSw; go_simp; try (with_reducible rfl))
          try simp only [Act.put, List.getElem_toArray, List.getElem_cons_zero, List.getElem_cons_succ, List.setIfInBounds_toArray, List.set_cons_zero, List.set_cons_succ]
          refine wpAnyH_take (i := 9) (v := ?_) rfl (by kernel_rfl) (by kernel_rfl) (by kernel_rfl) (fun _ _ _ h => h) (Or.inl ⟨by rfl, ?_⟩) (by assumption) ?_
          rotate_left
          · (intro w hSw; go_simp; try (with_reducible rfl))
          try simp only [Act.put, List.getElem_toArray, List.getElem_cons_zero, List.getElem_cons_succ, List.setIfInBounds_toArray, List.set_cons_zero, List.set_cons_succ]
          refine wpAnyH_take (i := 10) (v := ?_) rfl (by kernel_rfl) (by kernel_rfl) (by kernel_rfl) (fun _ _ _ h => h) (Or.inl ⟨by rfl, ?_⟩) (by assumption) ?_
          rotate_left
          · (intro w hSw; have hc0 := Cn.out w hSw; go_simp; try (with_reducible rfl))
          try simp only [Act.put, List.getElem_toArray, List.getElem_cons_zero, List.getElem_cons_succ, List.setIfInBounds_toArray, List.set_cons_zero, List.set_cons_succ]
          refine wpAnyH_take (i := 11) (v := ?_) rfl (by kernel_rfl) (by kernel_rfl) (by kernel_rfl) (fun _ _ _ h => h) (Or.inl ⟨by rfl, ?_⟩) (by assumption) ?_
          rotate_left
          · (intro w hSw; go_simp; try (with_reducible rfl))
          try simp only [Act.put, List.getElem_toArray, List.getElem_cons_zero, List.getElem_cons_succ, List.setIfInBounds_toArray, List.set_cons_zero, List.set_cons_succ]
          refine wpAnyH_take (i := 12) (v := ?_) rfl (by kernel_rfl) (by kernel_rfl) (by kernel_rfl) (fun _ _ _ h => h) (Or.inl ⟨by rfl, ?_⟩) (by assumption) ?_
          rotate_left
          · (intro w hSw; go_simp; try (with_reducible rfl))
          try simp only [Act.put, List.getElem_toArray, List.getElem_cons_zero, List.getElem_cons_succ, List.setIfInBounds_toArray, List.set_cons_zero, List.set_cons_succ]
          refine wpAnyH_take (i := 13) (v := ?_) rfl (by kernel_rfl) (by kernel_rfl) (by kernel_rfl) (fun _ _ _ h => h) (Or.inl ⟨by rfl, ?_⟩) (by assumption) ?_
          rotate_left
          · (intro w hSw; go_simp; try (with_reducible rfl))
          try simp only [Act.put, List.getElem_toArray, List.getElem_cons_zero, List.getElem_cons_succ, List.setIfInBounds_toArray, List.set_cons_zero, List.set_cons_succ]
          refine wpAnyH_take (i := 14) (v := ?_) rfl (by kernel_rfl) (by kernel_rfl) (by kernel_rfl) (fun _ _ _ h => h) (Or.inl ⟨by rfl, ?_⟩) (by assumption) ?_
          rotate_left
          · (intro w hSw; go_simp; try (with_reducible rfl))
          try simp only [Act.put, List.getElem_toArray, List.getElem_cons_zero, List.getElem_cons_succ, List.setIfInBounds_toArray, List.set_cons_zero, List.set_cons_succ]
          refine wpAnyH_take (i := 15) (v := ?_) rfl (by kernel_rfl) (by kernel_rfl) (by kernel_rfl) (fun _ _ _ h => h) (Or.inl ⟨by rfl, ?_⟩) (by assumption) ?_
          rotate_left
          · (intro w hSw; have hc0 := Cn.out w hSw; go_simp; try (with_reducible rfl))
          try simp only [Act.put, List.getElem_toArray, List.getElem_cons_zero, List.getElem_cons_succ, List.setIfInBounds_toArray, List.set_cons_zero, List.set_cons_succ]
          refine wpAnyH_take (i := 16) (v := ?_) rfl (by kernel_rfl) (by kernel_rfl) (by kernel_rfl) (fun _ _ _ h => h) (Or.inl ⟨by rfl, ?_⟩) (by assumption) ?_
          rotate_left
          · (intro w hSw; go_simp; try (with_reducible rfl))
          try simp only [Act.put, List.getElem_toArray, List.getElem_cons_zero, List.getElem_cons_succ, List.setIfInBounds_toArray, List.set_cons_zero, List.set_cons_succ]
          refine wpAnyH_take (i := 17) rfl (by kernel_rfl) (by kernel_rfl) (by kernel_rfl) (fun _ _ _ h => h) (yields_addr Ma (by rfl) _ rfl rfl) (by assumption) ?_
          try simp only [Act.put, List.getElem_toArray, List.getElem_cons_zero, List.getElem_cons_succ, List.setIfInBounds_toArray, List.set_cons_zero, List.set_cons_succ]
          refine wpAnyH_ready (rs := [18]) (by kernel_rfl) (by simp) ?_
          refine AllReadyH.cons rfl (fun K hK => ?_) AllReadyH.nil
          go_simp
          refine (Calls.heldR (C1 _ (by assumption)).out (by assumption)).mono ?_
          rintro e wr18 ⟨rfl, hS18⟩
          go_wp2_with fail
          refine hK.out _ _ hS18 (fun hHeld => ?_)
          clear hK K
          try simp only [Act.put, List.getElem_toArray, List.getElem_cons_zero, List.getElem_cons_succ, List.setIfInBounds_toArray, List.set_cons_zero, List.set_cons_succ]
          refine wpAnyH_take (i := 19) (v := ?_) rfl (by kernel_rfl) (by kernel_rfl) (by kernel_rfl) (fun _ _ _ h => h) (Or.inl ⟨by rfl, ?_⟩) (by assumption) ?_
          rotate_left
          · (intro w hSw; go_simp; try (with_reducible rfl))
          try simp only [Act.put, List.getElem_toArray, List.getElem_cons_zero, List.getElem_cons_succ, List.setIfInBounds_toArray, List.set_cons_zero, List.set_cons_succ]
          refine wpAnyH_take (i := 20) (v := ?_) rfl (by kernel_rfl) (by kernel_rfl) (by kernel_rfl) (fun _ _ _ h => h) (Or.inl ⟨by rfl, ?_⟩) (by assumption) ?_
          rotate_left
          · (intro w hSw; go_simp; try (with_reducible rfl))
          try simp only [Act.put, List.getElem_toArray, List.getElem_cons_zero, List.getElem_cons_succ, List.setIfInBounds_toArray, List.set_cons_zero, List.set_cons_succ]
          refine wpAnyH_done (by kernel_rfl) ?_ _
          refine NoPanic.normal ?_
          go_wp2_with fail
          go_ret
          exact ⟨by rw [← HE2.out]; rfl, hHeld.bel⟩
        · have hd2 : decide ((N : Int) < n) = false := by simp; omega
          have HQ : Hid (decide (∀ i : Nat, i < N → n.toNat ≤ i → bitA ps i = 0) = R) := Lib.hid (by rw [← HE.out]; exact decide_eq_decide.2 ⟨fun h => ⟨by trivial, h0, by omega, by omega, h⟩, fun h => h.2.2.2.2⟩)
          obtain ⟨m, rfl⟩ : ∃ m : Nat, n = (m : Int) := ⟨n.toNat, by omega⟩
          have hd2n : decide (N < m) = false := by simp; omega
          replace H2 := Lib.hid (H2.out.below (Below.refl _ _).drew)
          refine wp_region_noPanic ?_
          refine wp_region_held_drew (S := HeldR L w) (by kernel_rfl) HK.out.drew (fun hHeld => ?_)
          refine wpAnyH_take (i := 0) (v := ?_) rfl (by kernel_rfl) (by kernel_rfl) (by kernel_rfl) (fun _ _ _ h => h) (Or.inl ⟨by rfl, ?_⟩) (by assumption) ?_
          rotate_left
          · (intro w hSw; go_simp; try (with_reducible rfl))
          try simp only [Act.put, List.getElem_toArray, List.getElem_cons_zero, List.setIfInBounds_toArray, List.set_cons_zero, List.set_cons_succ]
          refine wpAnyH_take (i := 1) (v := ?_) rfl (by kernel_rfl) (by kernel_rfl) (by kernel_rfl) (fun _ _ _ h => h) (Or.inl ⟨by rfl, ?_⟩) (by assumption) ?_
          rotate_left
          · (intro w hSw; go_simp; try (with_reducible rfl))
          try simp only [Act.put, List.getElem_toArray, List.getElem_cons_zero, List.getElem_cons_succ, List.setIfInBounds_toArray, List.set_cons_zero, List.set_cons_succ]
          refine wpAnyH_take (i := 2) (v := ?_) rfl (by kernel_rfl) (by kernel_rfl) (by kernel_rfl) (fun _ _ _ h => h) (Or.inl ⟨by rfl, ?_⟩) (by assumption) ?_
          rotate_left
          · (intro w hSw; go_simp; try (with_reducible rfl))
          try simp only [Act.put, List.getElem_toArray, List.getElem_cons_zero, List.getElem_cons_succ, List.setIfInBounds_toArray, List.set_cons_zero, List.set_cons_succ]
          refine wpAnyH_take (i := 3) (v := ?_) rfl (by kernel_rfl) (by kernel_rfl) (by kernel_rfl) (fun _ _ _ h => h) (Or.inl ⟨by rfl, ?_⟩) (by assumption) ?_
          rotate_left
          · (intro w hSw; go_simp; try (with_reducible rfl))
          try simp only [Act.put, List.getElem_toArray, List.getElem_cons_zero, List.getElem_cons_succ, List.setIfInBounds_toArray, List.set_cons_zero, List.set_cons_succ]
          refine wpAnyH_take (i := 4) (v := ?_) rfl (by kernel_rfl) (by kernel_rfl) (by kernel_rfl) (fun _ _ _ h => h) (Or.inl ⟨by rfl, ?_⟩) (by assumption) ?_
          rotate_left
          · (intro w hSw; go_simp; try (with_reducible rfl))
          try simp only [Act.put, List.getElem_toArray, List.getElem_cons_zero, List.getElem_cons_succ, List.setIfInBounds_toArray, List.set_cons_zero, List.set_cons_succ]
          refine wpAnyH_take (i := 5) (v := ?_) rfl (by kernel_rfl) (by kernel_rfl) (by kernel_rfl) (fun _ _ _ h => h) (Or.inl ⟨by rfl, ?_⟩) (by assumption) ?_
          rotate_left
          · (intro w hSw; have hc0 := Cf.out w hSw; go_simp; try (with_reducible rfl))
          try simp only [Act.put, List.getElem_toArray, List.getElem_cons_zero, List.getElem_cons_succ, List.setIfInBounds_toArray, List.set_cons_zero, List.set_cons_succ]
          refine wpAnyH_take (i := 6) (v := ?_) rfl (by kernel_rfl) (by kernel_rfl) (by kernel_rfl) (fun _ _ _ h => h) (Or.inl ⟨by rfl, ?_⟩) (by assumption) ?_
          rotate_left
          · (intro w hSw; go_simp; try (with_reducible rfl))
          try simp only [Act.put, List.getElem_toArray, List.getElem_cons_zero, List.getElem_cons_succ, List.setIfInBounds_toArray, List.set_cons_zero, List.set_cons_succ]
          refine wpAnyH_take (i := 7) (v := ?_) rfl (by kernel_rfl) (by kernel_rfl) (by kernel_rfl) (fun _ _ _ h => h) (Or.inl ⟨by rfl, ?_⟩) (by assumption) ?_
          rotate_left
          · (intro w hSw; go_simp; try (with_reducible rfl))
          try simp only [Act.put, List.getElem_toArray, List.getElem_cons_zero, List.getElem_cons_succ, List.setIfInBounds_toArray, List.set_cons_zero, List.set_cons_succ]
          refine wpAnyH_take (i := 8) (v := ?_) rfl (by kernel_rfl) (by kernel_rfl) (by kernel_rfl) (fun _ _ _ h => h) (Or.inl ⟨by rfl, ?_⟩) (by assumption) ?_
          rotate_left
          · (intro w hSw; go_simp; try (with_reducible rfl))
          try simp only [Act.put, List.getElem_toArray, List.getElem_cons_zero, List.getElem_cons_succ, List.setIfInBounds_toArray, List.set_cons_zero, List.set_cons_succ]
          refine wpAnyH_take (i := 9) (v := ?_) rfl (by kernel_rfl) (by kernel_rfl) (by kernel_rfl) (fun _ _ _ h => h) (Or.inl ⟨by rfl, ?_⟩) (by assumption) ?_
          rotate_left
          · (intro w hSw; go_simp; try (with_reducible rfl))
          try simp only [Act.put, List.getElem_toArray, List.getElem_cons_zero, List.getElem_cons_succ, List.setIfInBounds_toArray, List.set_cons_zero, List.set_cons_succ]
          refine wpAnyH_take (i := 10) (v := ?_) rfl (by kernel_rfl) (by kernel_rfl) (by kernel_rfl) (fun _ _ _ h => h) (Or.inl ⟨by rfl, ?_⟩) (by assumption) ?_
          rotate_left
          · (intro w hSw; have hc0 := Cn.out w hSw; go_simp; try (with_reducible rfl))
          try simp only [Act.put, List.getElem_toArray, List.getElem_cons_zero, List.getElem_cons_succ, List.setIfInBounds_toArray, List.set_cons_zero, List.set_cons_succ]
          refine wpAnyH_take (i := 11) (v := ?_) rfl (by kernel_rfl) (by kernel_rfl) (by kernel_rfl) (fun _ _ _ h => h) (Or.inl ⟨by rfl, ?_⟩) (by assumption) ?_
          rotate_left
          · (intro w hSw; go_simp; try (with_reducible rfl))
          try simp only [Act.put, List.getElem_toArray, List.getElem_cons_zero, List.getElem_cons_succ, List.setIfInBounds_toArray, List.set_cons_zero, List.set_cons_succ]
          refine wpAnyH_take (i := 12) (v := ?_) rfl (by kernel_rfl) (by kernel_rfl) (by kernel_rfl) (fun _ _ _ h => h) (Or.inl ⟨by rfl, ?_⟩) (by assumption) ?_
          rotate_left
          · (intro w hSw; go_simp; try (with_reducible rfl))
          try simp only [Act.put, List.getElem_toArray, List.getElem_cons_zero, List.getElem_cons_succ, List.setIfInBounds_toArray, List.set_cons_zero, List.set_cons_succ]
          refine wpAnyH_take (i := 13) (v := ?_) rfl (by kernel_rfl) (by kernel_rfl) (by kernel_rfl) (fun _ _ _ h => h) (Or.inl ⟨by rfl, ?_⟩) (by assumption) ?_
          rotate_left
          · (intro w hSw; go_simp; try (with_reducible rfl))
          try simp only [Act.put, List.getElem_toArray, List.getElem_cons_zero, List.getElem_cons_succ, List.setIfInBounds_toArray, List.set_cons_zero, List.set_cons_succ]
          refine wpAnyH_take (i := 14) (v := ?_) rfl (by kernel_rfl) (by kernel_rfl) (by kernel_rfl) (fun _ _ _ h => h) (Or.inl ⟨by rfl, ?_⟩) (by assumption) ?_
          rotate_left
          · (intro w hSw; go_simp; try (with_reducible rfl))
          try simp only [Act.put, List.getElem_toArray, List.getElem_cons_zero, List.getElem_cons_succ, List.setIfInBounds_toArray, List.set_cons_zero, List.set_cons_succ]
          refine wpAnyH_take (i := 15) (v := ?_) rfl (by kernel_rfl) (by kernel_rfl) (by kernel_rfl) (fun _ _ _ h => h) (Or.inl ⟨by rfl, ?_⟩) (by assumption) ?_
          rotate_left
          · (intro w hSw; have hc0 := Cn.out w hSw; go_simp; try (with_reducible rfl))
          try simp only [Act.put, List.getElem_toArray, List.getElem_cons_zero, List.getElem_cons_succ, List.setIfInBounds_toArray, List.set_cons_zero, List.set_cons_succ]
          refine wpAnyH_take (i := 16) (v := ?_) rfl (by kernel_rfl) (by kernel_rfl) (by kernel_rfl) (fun _ _ _ h => h) (Or.inl ⟨by rfl, ?_⟩) (by assumption) ?_
          rotate_left
          · (intro w hSw; go_simp; try (with_reducible rfl))
          try simp only [Act.put, List.getElem_toArray, List.getElem_cons_zero, List.getElem_cons_succ, List.setIfInBounds_toArray, List.set_cons_zero, List.set_cons_succ]
          refine wpAnyH_take (i := 17) rfl (by kernel_rfl) (by kernel_rfl) (by kernel_rfl) (fun _ _ _ h => h) (yields_addr Ma (by rfl) _ rfl rfl) (by assumption) ?_
          try simp only [Act.put, List.getElem_toArray, List.getElem_cons_zero, List.getElem_cons_succ, List.setIfInBounds_toArray, List.set_cons_zero, List.set_cons_succ]
          refine wpAnyH_ready (rs := [18]) (by kernel_rfl) (by simp) ?_
          refine AllReadyH.cons rfl (fun K hK => ?_) AllReadyH.nil
          go_simp
          refine (C1 _ (by assumption)).out.mono ?_
          rintro e wr18 ⟨rfl, hb18⟩
          replace H2 := Lib.hid (H2.out.below hb18)
          have hS18 := HeldR.next (by assumption) hb18
          clear hb18
          go_wp2_with fail
          refine hK.out _ _ hS18 (fun hHeld => ?_)
          clear hK K
          try simp only [Act.put, List.getElem_toArray, List.getElem_cons_zero, List.getElem_cons_succ, List.setIfInBounds_toArray, List.set_cons_zero, List.set_cons_succ]
          refine wpAnyH_take (i := 19) (v := ?_) rfl (by kernel_rfl) (by kernel_rfl) (by kernel_rfl) (fun _ _ _ h => h) (Or.inl ⟨by rfl, ?_⟩) (by assumption) ?_
          rotate_left
          · (intro w hSw; go_simp; try (with_reducible rfl))
          try simp only [Act.put, List.getElem_toArray, List.getElem_cons_zero, List.getElem_cons_succ, List.setIfInBounds_toArray, List.set_cons_zero, List.set_cons_succ]
          refine wpAnyH_take (i := 20) (v := ?_) rfl (by kernel_rfl) (by kernel_rfl) (by kernel_rfl) (fun _ _ _ h => h) (Or.inl ⟨by rfl, ?_⟩) (by assumption) ?_
          rotate_left
          · (intro w hSw; go_simp; try (with_reducible rfl))
          try simp only [Act.put, List.getElem_toArray, List.getElem_cons_zero, List.getElem_cons_succ, List.setIfInBounds_toArray, List.set_cons_zero, List.set_cons_succ]
          refine wpAnyH_done (by kernel_rfl) ?_ _
          refine NoPanic.normal ?_
          have HB3 := Lib.hid hHeld.bel
          have hb17 := H2.out.bits
          clear C1 Cn Cf Ma Mp HK hHeld
          go_wp2_with fail
          go_loopw [4] (fun i wr => ∃ k : Nat, m ≤ k ∧ k ≤ N ∧ i = .int .i64 (k : Int) ∧ Hid (PrefAt wr w.heap.size f ps (m : Int)) ∧ Hid (Below w.heap.size w wr) ∧ Hid (∀ i : Nat, m ≤ i → i < k → bitA ps i = 0)) (fun i _ => 128 - (intOf i).toNat)
          case atStart => exact ⟨m, Nat.le_refl _, by omega, rfl, H2, HB3, Lib.hid (fun i h1 h2 => absurd h2 (by omega))⟩
          case round =>
            obtain ⟨k, hmk, hk, rfl, HP4, HB4, HT⟩ := hrel
            clear H2 HB3 hb17
            have HP4a := Lib.hid HP4.out.addr
            go_wp2_with (refine load_addr_g HP4a _ rfl rfl rfl ?_)
            refine (HBI _).out.mono ?_
            rintro e w2 ⟨rfl, hb2⟩
            have HP5 := Lib.hid (HP4.out.below hb2)
            have HB5 := Lib.hid (chain HB4.out hb2)
            clear HP4 HB4 HP4a hb2
            by_cases hkN : k < N
            · have hd3 : decide ((k : Int) < (N : Int)) = true := by simp; omega
              have HP5a := Lib.hid HP5.out.addr
              go_wp2_with (refine load_addr_g HP5a _ rfl rfl rfl ?_)
              refine (HC1 _ k (by omega)).out.mono ?_
              rintro e w3 ⟨rfl, hb3⟩
              have HP6 := Lib.hid (HP5.out.below hb3)
              have HB6 := Lib.hid (chain HB5.out hb3)
              clear HP5 HB5 HP5a hb3
              rw [HBA.out k hkN]
              obtain ⟨v, hv⟩ : ∃ v, bitA ps k = v := ⟨_, rfl⟩
              rw [hv]
              have HV := Lib.hid hv
              clear hv
              by_cases hv0 : v = 0
              · subst hv0
                have hd4 : (((0 : Nat) : Int) != 0) = false := rfl
                go_wp2_with fail
                go_roundw
                case rel => exact ⟨k + 1, by omega, by omega, by go_num, HP6, HB6, Lib.hid (fun i h1 h2 => by
                  by_cases e : i = k
                  · subst e; exact HV.out
                  · exact HT.out i h1 (by omega))⟩
                case measure => simp [intOf]; omega
              · have hd4 : ((v : Int) != 0) = true := by simp; omega
                have HE2 : Hid (false = R) := Lib.hid (by rw [← HQ.out]; exact (decide_eq_false (fun h => hv0 (by rw [← HV.out]; exact h k hkN (by simpa using hmk)))).symm)
                go_wp2_with fail
                go_ret
                exact ⟨by rw [← HE2.out]; rfl, HB6.out⟩
            · obtain rfl : k = N := by omega
              have hd3 : decide ((k : Int) < (k : Int)) = false := by simp
              have HE2 : Hid (true = R) := Lib.hid (by rw [← HQ.out]; exact (decide_eq_true (fun i h1 h2 => HT.out i (by simpa using h2) h1)).symm)
              go_wp2_with fail
              go_ret
              exact ⟨by rw [← HE2.out]; rfl, HB5.out⟩
end Go.Proofs.YtgbajagacmfcmaaDoor
/- Plain facts on addresses that may be, and on their row. -/
namespace Go.Proofs.YtgbajagacmfcmaaDoor
open Go.RowKit
set_option linter.unusedVariables false
set_option maxRecDepth 20000

theorem fourB_eq (bs : List Nat) : ((bs.getD 0 0 * 256 + bs.getD 1 0) * 256 + bs.getD 2 0) * 256 + bs.getD 3 0 = fourB bs := by
  simp [fourB, fourTo]
theorem fourB_le' (bs : List Nat) (h : ∀ x ∈ bs, x < 256) : fourB bs ≤ 4294967295 := by
  have := fourTo_lt bs h 4
  have e : (256 : Nat) ^ 4 = 4294967296 := by decide
  unfold fourB
  omega
theorem may4 (bs : List Nat) (h16 : bs.length = 16) (hlt : ∀ x ∈ bs, x < 256) : decide ((4 : Int) = 4 ∧ bs = b4 (fourB bs)) = mayB 4 bs := by
  obtain ⟨y0, y1, y2, y3, y4, y5, y6, y7, y8, y9, y10, y11, y12, y13, y14, y15, rfl⟩ := list16 bs h16
  simp at hlt
  rw [b4_eq, ← fourB_eq]
  have e : mayB 4 [y0, y1, y2, y3, y4, y5, y6, y7, y8, y9, y10, y11, y12, y13, y14, y15] = decide (y4 = 0 ∧ y5 = 0 ∧ y6 = 0 ∧ y7 = 0 ∧ y8 = 0 ∧ y9 = 0 ∧ y10 = 0 ∧ y11 = 0 ∧ y12 = 0 ∧ y13 = 0 ∧ y14 = 0 ∧ y15 = 0) := by
    rw [Bool.eq_iff_iff]
    simp [mayB, zeroTo, fromN]
  rw [e]
  refine decide_eq_decide.2 ?_
  simp
  omega
theorem may6 (bs : List Nat) (h16 : bs.length = 16) : mayB 6 bs = true := by
  unfold mayB
  rw [show fromN 6 = 16 from rfl, zeroTo_end bs h16]
  rfl
theorem mayElse (f : Int) (bs : List Nat) (h16 : bs.length = 16) (h4 : f ≠ 4) (h6 : f ≠ 6) : decide (f = 0 ∧ bs = List.replicate 16 0) = mayB f bs := by
  by_cases h0 : f = 0
  · subst h0
    obtain ⟨y0, y1, y2, y3, y4, y5, y6, y7, y8, y9, y10, y11, y12, y13, y14, y15, rfl⟩ := list16 bs h16
    rw [Bool.eq_iff_iff]
    simp [mayB, zeroTo, fromN]
  · rw [decide_eq_false (fun h => h0 h.1)]
    unfold mayB
    simp [h0, h4, h6]
theorem fourB_b4 (n : Nat) (hn : n ≤ 4294967295) : fourB (b4 n) = n := by
  rw [b4_eq, ← fourB_eq]
  simp
  omega
theorem b4_lt (n : Nat) : ∀ x ∈ b4 n, x < 256 := by
  rw [b4_eq]
  simp
  omega
theorem b4_inj {n m : Nat} (hn : n ≤ 4294967295) (hm : m ≤ 4294967295) (h : b4 n = b4 m) : n = m := by
  rw [← fourB_b4 n hn, h, fourB_b4 m hm]
/-- An address that may be, and is none of none. -/
inductive GoodA : Int → List Nat → Prop
  | four (n : Nat) (hn : n ≤ 4294967295) : GoodA 4 (b4 n)
  | six (bs : List Nat) (h16 : bs.length = 16) (hlt : ∀ x ∈ bs, x < 256) : GoodA 6 bs
theorem good_is (f : Int) (bs : List Nat) (h16 : bs.length = 16) (hlt : ∀ x ∈ bs, x < 256) : GoodA (goodF f) (goodB f bs) := by
  unfold goodF goodB
  by_cases h : f.tmod 2 = 0
  · rw [if_pos h, if_pos h]; exact .four _ (fourB_le' bs hlt)
  · rw [if_neg h, if_neg h]; exact .six bs h16 hlt
theorem GoodA.len {f : Int} {bs : List Nat} (h : GoodA f bs) : bs.length = 16 := by cases h <;> first | exact b4_len _ | assumption
theorem GoodA.lt {f : Int} {bs : List Nat} (h : GoodA f bs) : ∀ x ∈ bs, x < 256 := by cases h <;> first | exact b4_lt _ | assumption
theorem GoodA.may {f : Int} {bs : List Nat} (h : GoodA f bs) : mayB f bs = true := by
  cases h with
  | four n hn => rw [← may4 _ (b4_len n) (b4_lt n), fourB_b4 n hn, decide_eq_true ⟨rfl, rfl⟩]
  | six _ h16 hlt => exact may6 _ h16
theorem cmpL_range : ∀ xs ys : List Nat, cmpL xs ys = -1 ∨ cmpL xs ys = 0 ∨ cmpL xs ys = 1
  | [], _ => .inr (.inl (by cases ‹List Nat› <;> rfl))
  | _ :: _, [] => .inr (.inl rfl)
  | x :: xs, y :: ys => by
    rw [cmpL]
    split
    · exact .inl rfl
    · split
      · exact .inr (.inr rfl)
      · exact cmpL_range xs ys
theorem cmpL_neg : ∀ xs ys : List Nat, cmpL ys xs = - cmpL xs ys
  | [], [] => rfl
  | [], _ :: _ => rfl
  | _ :: _, [] => rfl
  | x :: xs, y :: ys => by
    have ih := cmpL_neg xs ys
    rw [cmpL, cmpL]
    by_cases h1 : x < y
    · rw [if_pos h1, if_neg (by omega), if_pos h1]; rfl
    · by_cases h2 : y < x
      · rw [if_pos h2, if_neg h1, if_pos h2]
      · rw [if_neg h2, if_neg h1, if_neg h1, if_neg h2, ih]
theorem cmpL_zero : ∀ xs ys : List Nat, xs.length = ys.length → (cmpL xs ys = 0 ↔ xs = ys)
  | [], [], _ => by simp [cmpL]
  | [], _ :: _, h => by cases h
  | _ :: _, [], h => by cases h
  | x :: xs, y :: ys, h => by
    have ih := cmpL_zero xs ys (by simpa using h)
    rw [cmpL]
    by_cases h1 : x < y
    · rw [if_pos h1]; simp; omega
    · by_cases h2 : y < x
      · rw [if_neg h1, if_pos h2]; simp; omega
      · rw [if_neg h1, if_neg h2, ih]
        simp
        omega
theorem cmpL_trans : ∀ xs ys zs : List Nat, xs.length = ys.length → ys.length = zs.length → cmpL xs ys ≤ 0 → cmpL ys zs ≤ 0 → cmpL xs zs ≤ 0
  | [], _, zs, _, _, _, _ => by cases zs <;> simp [cmpL]
  | _ :: _, _, [], h1, h2, _, _ => by rw [← h1] at h2; cases h2
  | x :: xs, [], z :: zs, h, _, _, _ => by cases h
  | x :: xs, y :: ys, z :: zs, h, h', a, b => by
    have ih := cmpL_trans xs ys zs (by simpa using h) (by simpa using h')
    rw [cmpL] at a b ⊢
    by_cases h1 : x < y
    · by_cases h2 : z < y
      · rw [if_neg (by omega), if_pos h2] at b; omega
      · rw [if_pos (by omega)]; decide
    · by_cases h2 : y < x
      · rw [if_neg h1, if_pos h2] at a; omega
      · obtain rfl : x = y := by omega
        rw [if_neg h1, if_neg h1] at a
        by_cases h3 : x < z
        · rw [if_pos h3]; decide
        · by_cases h4 : z < x
          · rw [if_neg h3, if_pos h4] at b; omega
          · rw [if_neg h3, if_neg h4] at b ⊢
            exact ih a b
theorem cmpA_range (f : Int) (xs : List Nat) (g : Int) (ys : List Nat) : cmpA f xs g ys = -1 ∨ cmpA f xs g ys = 0 ∨ cmpA f xs g ys = 1 := by
  unfold cmpA
  split
  · exact cmpL_range xs ys
  · split
    · exact .inl rfl
    · exact .inr (.inr rfl)
theorem cmpA_neg (f : Int) (xs : List Nat) (g : Int) (ys : List Nat) : cmpA g ys f xs = - cmpA f xs g ys := by
  unfold cmpA
  by_cases h : f = g
  · rw [if_pos h, if_pos h.symm]; exact cmpL_neg xs ys
  · rw [if_neg h, if_neg (fun e => h e.symm)]
    by_cases h1 : f < g
    · rw [if_pos h1, if_neg (by omega)]; rfl
    · rw [if_neg h1, if_pos (by omega)]
theorem cmpA_zero (f : Int) (xs : List Nat) (g : Int) (ys : List Nat) (hx : xs.length = 16) (hy : ys.length = 16) : cmpA f xs g ys = 0 ↔ (f = g ∧ xs = ys) := by
  unfold cmpA
  by_cases h : f = g
  · rw [if_pos h, cmpL_zero xs ys (by rw [hx, hy])]; simp [h]
  · rw [if_neg h]
    constructor
    · intro e; split at e <;> cases e
    · intro e; exact absurd e.1 h
theorem cmpA_trans (f : Int) (xs : List Nat) (g : Int) (ys : List Nat) (k : Int) (zs : List Nat) (hx : xs.length = 16) (hy : ys.length = 16) (hz : zs.length = 16) (a : cmpA f xs g ys ≤ 0) (b : cmpA g ys k zs ≤ 0) : cmpA f xs k zs ≤ 0 := by
  unfold cmpA at *
  by_cases h1 : f = g
  · subst h1
    rw [if_pos rfl] at a
    by_cases h2 : f = k
    · rw [if_pos h2] at b ⊢
      exact cmpL_trans xs ys zs (by rw [hx, hy]) (by rw [hy, hz]) a b
    · rw [if_neg h2] at b ⊢
      exact b
  · rw [if_neg h1] at a
    have h3 : f < g := by
      by_cases h : f < g
      · exact h
      · rw [if_neg h] at a; omega
    by_cases h2 : g = k
    · subst h2
      rw [if_neg h1, if_pos h3]; decide
    · rw [if_neg h2] at b
      have h4 : g < k := by
        by_cases h : g < k
        · exact h
        · rw [if_neg h] at b; omega
      rw [if_neg (by omega), if_pos (by omega)]; decide
end Go.Proofs.YtgbajagacmfcmaaDoor
/- Plain facts on prefixes: which may be, what they have, and their row. -/
namespace Go.Proofs.YtgbajagacmfcmaaDoor
open Go.RowKit
set_option linter.unusedVariables false
set_option maxRecDepth 20000

theorem bitA_zero {l : List Nat} {i : Nat} (h : l.getD (i / 8) 0 = 0) : bitA l i = 0 := by unfold bitA; rw [h]; simp
theorem byte_zero {x : Nat} (hx : x < 256) (h : ∀ r, r < 8 → x / 2 ^ (7 - r) % 2 = 0) : x = 0 := byte_ext x 0 hx (by decide) (fun r hr => by rw [h r hr]; simp)
theorem zeroTo_iff {bs : List Nat} (h16 : bs.length = 16) (hlt : ∀ x ∈ bs, x < 256) (k : Nat) : zeroTo bs k = true ↔ ∀ i, i < 128 → 8 * k ≤ i → bitA bs i = 0 := by
  have h1 : zeroTo bs k = true ↔ ∀ q, k ≤ q → q < 16 → bs.getD q 0 = 0 := by
    unfold zeroTo
    rw [List.all_eq_true]
    constructor
    · intro h q hk hq
      have : bs[q]'(by omega) ∈ bs.drop k := by
        rw [List.mem_drop_iff_getElem]
        exact ⟨q - k, by omega, by congr 1; omega⟩
      have := h _ this
      rw [List.getD_eq_getElem?_getD, List.getElem?_eq_getElem (by omega)]
      simpa using this
    · intro h x hx
      rw [List.mem_drop_iff_getElem] at hx
      obtain ⟨j, hj, rfl⟩ := hx
      have := h (k + j) (by omega) (by omega)
      rw [List.getD_eq_getElem?_getD, List.getElem?_eq_getElem (by omega)] at this
      simpa using this
  rw [h1]
  constructor
  · intro h i hi hk
    exact bitA_zero (h (i / 8) (by omega) (by omega))
  · intro h q hk hq
    refine byte_zero (getD_lt hlt q) (fun r hr => ?_)
    have := h (8 * q + r) (by omega) (by omega)
    unfold bitA at this
    rw [show (8 * q + r) / 8 = q by omega, show (8 * q + r) % 8 = r by omega] at this
    exact this
theorem with_same {bs : List Nat} (h16 : bs.length = 16) (hlt : ∀ x ∈ bs, x < 256) (N m : Nat) : bs = withL N bs m 0 ↔ ∀ i, i < 128 → (m ≤ i ∨ N ≤ i) → bitA bs i = 0 := by
  constructor
  · intro h i hi ho
    rw [h, bitA_with _ _ _ _ _ (by decide) hi]
    unfold withF
    by_cases h1 : i < N
    · rw [if_pos h1, if_pos (by omega)]
    · rw [if_neg h1]
  · intro h
    refine bits_ext h16 (withL_len _ _ _ _) hlt (withL_lt _ _ _ _ (by decide)) (fun i hi => ?_)
    rw [bitA_with _ _ _ _ _ (by decide) hi]
    unfold withF
    by_cases h1 : i < N
    · rw [if_pos h1]
      by_cases h2 : m ≤ i
      · rw [if_pos h2]; exact h i hi (.inl h2)
      · rw [if_neg h2]
    · rw [if_neg h1]; exact h i hi (.inr (by omega))
theorem mayB_bits {f : Int} {bs : List Nat} (h16 : bs.length = 16) (hlt : ∀ x ∈ bs, x < 256) (hf : f = 4 ∨ f = 6) : mayB f bs = true ↔ ∀ i, i < 128 → bitsN f ≤ i → bitA bs i = 0 := by
  rcases hf with rfl | rfl
  · unfold mayB
    rw [show fromN 4 = 4 from rfl, show bitsN 4 = 32 from rfl, show ((4 : Int) == 0 || (4 : Int) == 4 || (4 : Int) == 6) = true from rfl, Bool.and_true, zeroTo_iff h16 hlt]
  · rw [may6 bs h16, show bitsN 6 = 128 from rfl]
    exact ⟨fun _ i h1 h2 => absurd h1 (by omega), fun _ => rfl⟩
/-- Both ways to ask which prefix may be are one. -/
theorem mayQ_eq (f : Int) {bs : List Nat} (n : Int) (h16 : bs.length = 16) (hlt : ∀ x ∈ bs, x < 256) : mayQ f bs n = mayP f bs n := by
  unfold mayQ mayP
  refine decide_eq_decide.2 ?_
  rcases bitsN_cases f with ⟨hf, e⟩ | ⟨hf, e⟩ | ⟨h4, h6, e⟩
  case inr.inr =>
    constructor
    · intro h
      exfalso
      have h1 := h.1
      unfold mayB at h1
      have h2 := h.2.1
      simp [h2, h4, h6] at h1
    · intro h
      exfalso
      have := h.1
      omega
  all_goals
    have hm := mayB_bits h16 hlt (f := f) (by omega)
    rw [hm, with_same h16 hlt]
    constructor
    · rintro ⟨h1, h2, h3, h4, h5⟩
      have hk : maskN f n = n.toNat := by unfold maskN; omega
      refine ⟨by omega, fun i hi ho => ?_, by omega⟩
      by_cases h6 : i < bitsN f
      · exact h5 i h6 (by omega)
      · exact h1 i hi (by omega)
    · rintro ⟨h1, h2, h3⟩
      have hle := maskN_le f n
      refine ⟨fun i hi ho => h2 i hi (.inr ho), by omega, by omega, by omega, fun i hi ho => h2 i (by omega) (.inl (by omega))⟩
/-- A prefix that may be. -/
structure GoodP (f : Int) (bs : List Nat) (n : Nat) : Prop where
  pos : 0 < bitsN f
  len : bs.length = 16
  lt : ∀ x ∈ bs, x < 256
  le : n ≤ bitsN f
  zero : ∀ i, i < 128 → n ≤ i → bitA bs i = 0
theorem goodF_pos (f : Int) : 0 < bitsN (goodF f) := by
  unfold goodF
  split
  · show 0 < bitsN 4; decide
  · show 0 < bitsN 6; decide
theorem goodP_is (f : Int) (bs : List Nat) (n : Int) : GoodP (goodF f) (goodP f bs n) (goodN f n) := by
  refine ⟨goodF_pos f, withL_len _ _ _ _, withL_lt _ _ _ _ (by decide), goodN_le f n, fun i hi ho => ?_⟩
  unfold goodP
  rw [bitA_with _ _ _ _ _ (by decide) hi]
  unfold withF
  split
  · first | rfl | rw [if_pos ho]
  · rfl
theorem mask_is {f : Int} {bs : List Nat} (n : Int) (h : 0 < bitsN f) : GoodP f (withL (bitsN f) bs (maskN f n) 0) (maskN f n) := by
  refine ⟨h, withL_len _ _ _ _, withL_lt _ _ _ _ (by decide), maskN_le f n, fun i hi ho => ?_⟩
  rw [bitA_with _ _ _ _ _ (by decide) hi]
  unfold withF
  split
  · first | rfl | rw [if_pos ho]
  · rfl
section
variable {f g : Int} {ps qs us : List Nat} {n m : Nat}
theorem GoodP.may (h : GoodP f ps n) : mayP f ps (n : Int) = true := by
  unfold mayP
  rw [maskN_nat f n h.le]
  exact decide_eq_true ⟨h.pos, (with_same h.len h.lt _ _).2 (fun i hi ho => h.zero i hi (by have := h.le; omega)), rfl⟩
theorem GoodA.pos (h : GoodA f us) : 0 < bitsN f := by cases h <;> (first | (show 0 < bitsN 4; decide) | (show 0 < bitsN 6; decide))
theorem GoodA.zero (h : GoodA f us) : ∀ i, i < 128 → bitsN f ≤ i → bitA us i = 0 := by
  have h1 : f = 4 ∨ f = 6 := by cases h <;> simp
  exact (mayB_bits h.len h.lt h1).1 h.may
theorem GoodP.fam (h : GoodP f ps n) : f = 4 ∨ f = 6 := by
  have := h.pos
  rcases bitsN_cases f with ⟨hf, _⟩ | ⟨hf, _⟩ | ⟨_, _, e⟩ <;> omega
theorem GoodP.good (h : GoodP f ps n) : GoodA f ps := by
  have hm := (mayB_bits h.len h.lt h.fam).2 (fun i hi ho => h.zero i hi (by have := h.le; omega))
  rcases h.fam with rfl | rfl
  · rw [← may4 ps h.len h.lt] at hm
    have e := (of_decide_eq_true hm).2
    rw [e]
    exact .four _ (fourB_le' ps h.lt)
  · exact .six ps h.len h.lt
/-- The first bits are the same. -/
def Begins (xs ys : List Nat) (n : Nat) : Prop := ∀ i, i < n → bitA xs i = bitA ys i
theorem hasB_iff (h : n ≤ bitsN f) : hasB f ps n g us = true ↔ f = g ∧ Begins ps us n := by
  unfold hasB Begins
  rw [decide_eq_true_iff]
  constructor
  · rintro ⟨rfl, h2⟩
    exact ⟨rfl, fun i hi => by have := h2 i hi; rw [bitN_A _ _ _ (by omega), bitN_A _ _ _ (by omega)] at this; exact this⟩
  · rintro ⟨rfl, h2⟩
    exact ⟨rfl, fun i hi => by rw [bitN_A _ _ _ (by omega), bitN_A _ _ _ (by omega)]; exact h2 i hi⟩
theorem hasR_iff (h : GoodP f ps n) (hu : us.length = 16) : hasR f ps (n : Int) g us = true ↔ f = g ∧ Begins ps us n := by
  unfold hasR
  rw [decide_eq_true_iff]
  have hN := bitsN_le f
  have hle := h.le
  constructor
  · rintro ⟨rfl, h2, _⟩
    refine ⟨rfl, fun i hi => ?_⟩
    rw [maskN_nat f n h.le] at h2
    rw [h2, bitA_with _ _ _ _ _ (by decide) (by omega)]
    unfold withF
    rw [if_pos (by omega), if_neg (by omega)]
  · rintro ⟨rfl, h2⟩
    rw [maskN_nat f n h.le]
    refine ⟨rfl, bits_ext h.len (withL_len _ _ _ _) h.lt (withL_lt _ _ _ _ (by decide)) (fun i hi => ?_), rfl⟩
    rw [bitA_with _ _ _ _ _ (by decide) hi]
    unfold withF
    by_cases h1 : i < n
    · rw [if_pos (by omega), if_neg (by omega)]; exact h2 i h1
    · rw [h.zero i hi (by omega)]
      by_cases h3 : i < bitsN f
      · rw [if_pos h3, if_pos (by omega)]
      · rw [if_neg h3]
theorem has_same (h : GoodP f ps n) (hu : us.length = 16) : hasR f ps (n : Int) g us = hasB f ps n g us := by
  rw [Bool.eq_iff_iff, hasR_iff h hu, hasB_iff h.le]
theorem withinR_iff (hp : GoodP f ps n) (hq : GoodP g qs m) : withinR f ps (n : Int) g qs (m : Int) = true ↔ m ≤ n ∧ g = f ∧ Begins qs ps m := by
  unfold withinR
  rw [Bool.and_eq_true, hasR_iff hq hp.len, decide_eq_true_iff]
  constructor
  · rintro ⟨h1, h2⟩; exact ⟨by omega, h2⟩
  · rintro ⟨h1, h2⟩; exact ⟨by omega, h2⟩
theorem withF_at {N k b i : Nat} {bs : List Nat} (h : i < N) (h2 : i < k) : withF N bs k b i = bitA bs i := by unfold withF; rw [if_pos h, if_neg (by omega)]
/-- First and Last. -/
theorem GoodP.first (h : GoodP f ps n) : withL (bitsN f) ps n 0 = ps := ((with_same h.len h.lt _ _).2 (fun i hi ho => h.zero i hi (by have := h.le; omega))).symm
theorem GoodP.last (h : GoodP f ps n) : lastL ps n (bitsN f) = withL (bitsN f) ps n 1 :=
  ofBits_congr (lastF_le _ _ _) (fun i => withF_le _ _ _ _ _ (by decide)) (fun i hi => by
    unfold lastF withF
    by_cases h1 : i < bitsN f
    · rw [if_pos h1]
      by_cases h2 : n ≤ i
      · rw [if_pos ⟨h2, h1⟩, if_pos h2]
      · rw [if_neg (fun h => h2 h.1), if_neg h2]
    · rw [if_neg (fun h => h1 h.2), if_neg h1]
      exact h.zero i hi (by have := h.le; omega))
theorem GoodP.has_first (h : GoodP f ps n) : hasR f ps (n : Int) f ps = true := (hasR_iff h h.len).2 ⟨rfl, fun _ _ => rfl⟩
theorem begins_with (h : n ≤ bitsN f) (b : Nat) (hb : b ≤ 1) : Begins ps (withL (bitsN f) ps n b) n := fun i hi => by
  have := bitsN_le f
  rw [bitA_with _ _ _ _ _ hb (by omega), withF_at (by omega) hi]
theorem GoodP.has_last (h : GoodP f ps n) : hasR f ps (n : Int) f (withL (bitsN f) ps n 1) = true := (hasR_iff h (withL_len _ _ _ _)).2 ⟨rfl, begins_with h.le 1 (by decide)⟩
/-- A prefix is within another one just if that has its first and its last address. -/
theorem within_both (hp : GoodP f ps n) (hq : GoodP g qs m) : withinR f ps (n : Int) g qs (m : Int) = (hasB g qs m f (withL (bitsN f) ps n 0) && hasB g qs m f (withL (bitsN f) ps n 1)) := by
  rw [Bool.eq_iff_iff, withinR_iff hp hq, Bool.and_eq_true, hasB_iff hq.le, hasB_iff hq.le, hp.first]
  constructor
  · rintro ⟨h1, rfl, h2⟩
    refine ⟨⟨rfl, h2⟩, rfl, fun i hi => ?_⟩
    rw [h2 i hi]
    exact begins_with hp.le 1 (by decide) i (by omega)
  · rintro ⟨⟨rfl, h1⟩, _, h2⟩
    refine ⟨?_, rfl, h1⟩
    apply Classical.byContradiction
    intro h3
    have hN := bitsN_le g
    have hm := hq.le
    have e1 := h1 n (by omega)
    have e2 := h2 n (by omega)
    rw [hp.zero n (by omega) (Nat.le_refl _)] at e1
    rw [bitA_with _ _ _ _ _ (by decide) (by omega)] at e2
    unfold withF at e2
    rw [if_pos (by omega), if_pos (Nat.le_refl _)] at e2
    omega
theorem within_self (h : GoodP f ps n) : withinR f ps (n : Int) f ps (n : Int) = true := (withinR_iff h h).2 ⟨Nat.le_refl _, rfl, fun _ _ => rfl⟩
theorem GoodP.eq_of (hp : GoodP f ps n) (hq : GoodP f qs n) (h : Begins qs ps n) : ps = qs :=
  bits_ext hp.len hq.len hp.lt hq.lt (fun i hi => by
    by_cases h1 : i < n
    · exact (h i h1).symm
    · rw [hp.zero i hi (by omega), hq.zero i hi (by omega)])
theorem within_anti (hp : GoodP f ps n) (hq : GoodP g qs m) (h1 : withinR f ps (n : Int) g qs (m : Int) = true) (h2 : withinR g qs (m : Int) f ps (n : Int) = true) : f = g ∧ ps = qs ∧ n = m := by
  obtain ⟨a1, rfl, a2⟩ := (withinR_iff hp hq).1 h1
  obtain ⟨b1, _, b2⟩ := (withinR_iff hq hp).1 h2
  obtain rfl : n = m := by omega
  exact ⟨rfl, hp.eq_of hq a2, rfl⟩
end
end Go.Proofs.YtgbajagacmfcmaaDoor
/- Prefixes and addresses that a walk holds, loaded in a plain region. -/
namespace Go.Proofs.YtgbajagacmfcmaaDoor
open Go.RowKit
set_option linter.unusedVariables false
set_option maxRecDepth 20000

theorem load_pref_h {ops : Array Oper} {rest : List Oper} {op : Oper} {a : Act} {w W : World} {Q : Exit → Act → World → Prop} {L : List (Nat × Nat × List Value)} {G : Nat} {f : Int} {bs : List Nat} {n : Int} (hS : Hid (HeldR L W w)) (hm : Hid (InP L G f bs n)) (x : Operand) (hw : Region.wanted op (yielded ops a.tmps) = true) (ho : op.op = .load 27 x)
    (hx : a.eval x = .pointer (some ⟨G, 0, none⟩)) (h : wpList Tryd.prog ops Q rest (a.put op.dst (prefV f bs n)) w) : wpList Tryd.prog ops Q (op :: rest) a w :=
  wpList_load_row hw 27 x ho G 0 hx (prefL f bs n) _ (hS.out.get hm.out.1) Tryd.underlying27 rfl (by rw [pref_size, prefL_len f bs n hm.out.2]) h
theorem load_addr_h {ops : Array Oper} {rest : List Oper} {op : Oper} {a : Act} {w W : World} {Q : Exit → Act → World → Prop} {L : List (Nat × Nat × List Value)} {G : Nat} {f : Int} {bs : List Nat} (hS : Hid (HeldR L W w)) (hm : Hid (InA L G f bs)) (x : Operand) (hw : Region.wanted op (yielded ops a.tmps) = true) (ho : op.op = .load 25 x)
    (hx : a.eval x = .pointer (some ⟨G, 0, none⟩)) (h : wpList Tryd.prog ops Q rest (a.put op.dst (addrV f bs)) w) : wpList Tryd.prog ops Q (op :: rest) a w :=
  wpList_load_row hw 25 x ho G 0 hx (addrL f bs) _ (hS.out.get hm.out.1) Tryd.underlying25 rfl (by rw [addr_size, addrL_len f bs hm.out.2]) h
end Go.Proofs.YtgbajagacmfcmaaDoor
/- A row of entries (abatisref06.E: a prefix and a value: 19 cells each), as a walk reads it. -/
namespace Go.Proofs.YtgbajagacmfcmaaDoor
open Go.RowKit
set_option linter.unusedVariables false
set_option maxRecDepth 20000

/-- An entry: a prefix that may be, and a value. -/
structure Ent where
  f : Int
  b : List Nat
  n : Nat
  v : Int
deriving DecidableEq
def Ent.L (e : Ent) : List Value := prefL e.f e.b (e.n : Int) ++ [Value.int .i64 e.v]
def Ent.Good (e : Ent) : Prop := GoodP e.f e.b e.n ∧ (Lit.int .i64 e.v).wf = true
def flatE (es : List Ent) : List Value := es.flatMap Ent.L
def AllGood (es : List Ent) : Prop := ∀ e ∈ es, e.Good
theorem Ent.L_len (e : Ent) (h : e.b.length = 16) : e.L.length = 19 := by simp [Ent.L, prefL_len _ _ _ h]
theorem flatE_len : ∀ (es : List Ent), AllGood es → (flatE es).length = es.length * 19
  | [], _ => rfl
  | e :: es, h => by
    have h1 := Ent.L_len e (h e (by simp)).1.len
    have h2 := flatE_len es (fun x hx => h x (by simp [hx]))
    show (e.L ++ flatE es).length = _
    rw [List.length_append, h1, h2, List.length_cons]
    omega
theorem flatE_at : ∀ (es : List Ent), AllGood es → ∀ k (hk : k < es.length) j, j < 19 → (flatE es)[k * 19 + j]? = (es[k]).L[j]?
  | [], _, k, hk, j, hj => absurd hk (by simp)
  | e :: es, h, k, hk, j, hj => by
    have h1 := Ent.L_len e (h e (by simp)).1.len
    show (e.L ++ flatE es)[k * 19 + j]? = _
    cases k with
    | zero => rw [Nat.zero_mul, Nat.zero_add, List.getElem?_append_left (by omega)]; rfl
    | succ k =>
      rw [List.getElem?_append_right (by omega), h1, show (k + 1) * 19 + j - 19 = k * 19 + j by omega]
      exact flatE_at es (fun x hx => h x (by simp [hx])) k (by simpa using hk) j hj
theorem flatE_append (xs ys : List Ent) : flatE (xs ++ ys) = flatE xs ++ flatE ys := by simp [flatE]
theorem flatE_one (es : List Ent) (h : AllGood es) : ∀ u ∈ flatE es, u.oneCell' = true := by
  intro u hu
  obtain ⟨e, he, h2⟩ := List.mem_flatMap.1 hu
  rcases List.mem_append.1 h2 with h3 | h3
  · have := prefL_one e.f e.b (e.n : Int)
    rw [Array.all_eq_true_iff_forall_mem] at this
    exact this u (by simpa using h3)
  · rw [List.mem_singleton] at h3; rw [h3]; rfl
/-- A row of entries. -/
def RowE (w : World) (base : Nat) (v : Value) (es : List Ent) : Prop := w.ownsRow base 69 19 v es.length (flatE es) ∧ AllGood es ∧ es.length ≤ 1000
theorem RowE.below {w w' : World} {base : Nat} {v : Value} {es : List Ent} (h : RowE w base v es) (hb : Below w.heap.size w w') : RowE w' base v es := by
  obtain ⟨⟨h1, h2⟩, h3⟩ := h
  refine ⟨⟨h1, ?_⟩, h3⟩
  rcases h2 with h2 | ⟨g, cap, cur, e1, e2, e3, e4⟩
  · exact .inl h2
  · refine .inr ⟨g, cap, cur, e1, e2, ?_, e4⟩
    have hlt : g < w.heap.size := by
      apply Classical.byContradiction
      intro h
      rw [Array.getElem?_eq_none (by omega)] at e3
      cases e3
    rw [hb.block g hlt]
    exact e3
theorem RowE.nil (w : World) (base : Nat) : RowE w base (.slice none 0 0) [] := ⟨World.ownsRow_nil _ _ _ _, (fun e h => absurd h (by simp)), by decide⟩
theorem RowE.mono {w : World} {base base' : Nat} {v : Value} {es : List Ent} (h : RowE w base v es) (hb : base' ≤ base) : RowE w base' v es := by
  obtain ⟨⟨h1, h2⟩, h3⟩ := h
  refine ⟨⟨h1, ?_⟩, h3⟩
  rcases h2 with h2 | ⟨g, cap, cur, e1, e2, e3⟩
  · exact .inl h2
  · exact .inr ⟨g, cap, cur, e1, by omega, e3⟩
/-- How it reads: nil and empty, or cells of a block. -/
theorem RowE.form {w : World} {base : Nat} {v : Value} {es : List Ent} (h : RowE w base v es) : (v = .slice none 0 0 ∧ es = []) ∨ ∃ g cap, v = .slice (some ⟨g, 0, none⟩) es.length cap ∧ base ≤ g ∧ g < w.heap.size ∧ es.length ≤ cap ∧ cap ≤ maxLen ∧ w.rangeAt g 0 (flatE es) := by
  obtain ⟨hr, hg, hle⟩ := h
  obtain ⟨h1, h2⟩ := hr
  rcases h2 with ⟨e1, e2⟩ | ⟨g, cap, cur, e1, e2, e3, e4, e5, e6, e7⟩
  · exact .inl ⟨e1, List.eq_nil_of_length_eq_zero e2⟩
  · refine .inr ⟨g, cap, e1, e2, ?_, e4, e5, fun j u hu => ?_⟩
    · apply Classical.byContradiction
      intro h
      rw [Array.getElem?_eq_none (by omega)] at e3
      cases e3
    · rw [Nat.zero_add, cell_of_row w g j cur _ _ e3, ← Array.getElem?_toList]
      rw [← e7, List.getElem?_take] at hu
      split at hu
      · exact hu
      · cases hu
/-- The entry at a place. -/
theorem range_ent {w : World} {g : Nat} {es : List Ent} (h : w.rangeAt g 0 (flatE es)) (hg : AllGood es) (k : Nat) (hk : k < es.length) : w.rangeAt g (k * 19) (es[k]).L := by
  intro j u hu
  have hl := Ent.L_len (es[k]) (hg _ (List.getElem_mem hk)).1.len
  have hj : j < 19 := by
    apply Classical.byContradiction
    intro h2
    rw [List.getElem?_eq_none (by omega)] at hu
    cases hu
  have := h (k * 19 + j) u (by rw [flatE_at es hg k hk j hj]; exact hu)
  rw [Nat.zero_add] at this
  exact this
theorem range_pref {w : World} {g o : Nat} {e : Ent} (h : w.rangeAt g o e.L) : w.rangeAt g o (prefL e.f e.b (e.n : Int)) := by
  intro j u hu
  refine h j u ?_
  have hj : j < (prefL e.f e.b (e.n : Int)).length := by
    apply Classical.byContradiction
    intro h2
    rw [List.getElem?_eq_none (by omega)] at hu
    cases hu
  unfold Ent.L
  rw [List.getElem?_append_left hj]
  exact hu
theorem cell_val {w : World} {g o : Nat} {e : Ent} (h : w.rangeAt g o e.L) (hl : e.b.length = 16) : w.cell? ⟨g, o + 18, none⟩ = some (.int .i64 e.v) := h 18 _ (by
  unfold Ent.L; rw [List.getElem?_append_right (by rw [prefL_len _ _ _ hl]; exact Nat.le_refl _), prefL_len _ _ _ hl]; rfl)
theorem cell_bits {w : World} {g o : Nat} {e : Ent} (h : w.rangeAt g o e.L) (hl : e.b.length = 16) : w.cell? ⟨g, o + 17, none⟩ = some (.int .i64 (e.n : Int)) := range_pref h 17 _ (by
  unfold prefL; rw [List.getElem?_append_right (by rw [addrL_len _ _ hl]; exact Nat.le_refl _), addrL_len _ _ hl]; rfl)
/-- A prefix somewhere in a held range. -/
def InPo (L : List (Nat × Nat × List Value)) (W : World) (G o : Nat) (f : Int) (bs : List Nat) (n : Int) : Prop := (∀ w, HeldR L W w → w.rangeAt G o (prefL f bs n)) ∧ bs.length = 16
theorem yields_pref_o {ops : Array Oper} {op : Oper} {a : Act} {L : List (Nat × Nat × List Value)} {W : World} {G o : Nat} {f : Int} {bs : List Nat} {n : Int} (hm : Hid (InPo L W G o f bs n)) (hw : Region.wanted op (yielded ops a.tmps) = true) (x : Operand) (ho : op.op = .load 27 x)
    (hx : a.eval x = .pointer (some ⟨G, o, none⟩)) : YieldsIf Tryd.prog ops (HeldR L W) op (prefV f bs n) a :=
  yieldsIf_load_mid hw 27 x ho G o hx (prefL f bs n) _ (fun w h => hm.out.1 w h) Tryd.underlying27 rfl (by rw [pref_size, prefL_len f bs n hm.out.2])
def isEnt (f : Int) (bs : List Nat) (n : Int) (e : Ent) : Bool := decide (e.f = f ∧ e.b = bs ∧ (e.n : Int) = n)
end Go.Proofs.YtgbajagacmfcmaaDoor
/- An entry (abatisref06.E) in memory: read and stored whole, given back, built. -/
namespace Go.Proofs.YtgbajagacmfcmaaDoor
open Go.RowKit
set_option linter.unusedVariables false
set_option maxRecDepth 20000

/-- The cells of an entry, of whatever prefix. -/
def entL (f : Int) (bs : List Nat) (n v : Int) : List Value := prefL f bs n ++ [Value.int .i64 v]
def entV (f : Int) (bs : List Nat) (n v : Int) : Value := .agg (entL f bs n v).toArray
theorem Ent.L_eq (e : Ent) : e.L = entL e.f e.b (e.n : Int) e.v := rfl
theorem entL_len (f : Int) (bs : List Nat) (n v : Int) (h : bs.length = 16) : (entL f bs n v).length = 19 := by simp [entL, prefL_len f bs n h]
theorem entL_one (f : Int) (bs : List Nat) (n v : Int) : (entL f bs n v).toArray.all (·.oneCell') = true := all_oneCell_toArray fun u hu => by
  rcases List.mem_append.1 hu with hu | hu
  · have := prefL_one f bs n
    rw [Array.all_eq_true_iff_forall_mem] at this
    exact this u (by simpa using hu)
  · rw [List.mem_singleton] at hu; rw [hu]; rfl
theorem ent_size : (Tryd.prog.info? 69).map (·.size) = some 19 := by kernel_rfl
/-- An entry lies at G. -/
structure EntAt (w : World) (G : Nat) (f : Int) (bs : List Nat) (n v : Int) : Prop where
  len : bs.length = 16
  lt : G < w.heap.size
  range : w.rangeAt G 0 (entL f bs n v)
  there : w.there G 0 19
section
variable {w w' : World} {G : Nat} {f : Int} {bs : List Nat} {n v : Int}
theorem EntAt.below (h : EntAt w G f bs n v) (hb : Below w.heap.size w w') : EntAt w' G f bs n v :=
  ⟨h.len, Nat.lt_of_lt_of_le h.lt hb.size, fun j u hu => by rw [hb.cell (p := ⟨G, 0 + j, none⟩) h.lt]; exact h.range j u hu, fun j hj => by
    rw [hb.cell (p := ⟨G, 0 + j, none⟩) h.lt, hb.frozen (p := ⟨G, 0 + j, none⟩) h.lt]
    exact h.there j hj⟩
theorem EntAt.alloc (h : EntAt w G f bs n v) (b : Obj) : EntAt (w.alloc b) G f bs n v := h.below ((Below.refl _ _).alloc (Nat.le_refl _) _)
theorem EntAt.stored {f0 : Int} {bs0 : List Nat} {n0 v0 : Int} (h : EntAt w G f0 bs0 n0 v0) (f : Int) (bs : List Nat) (n v : Int) (hl : bs.length = 16) : EntAt (w.setCells G 0 (entL f bs n v)) G f bs n v := by
  have ht : w.there G 0 (entL f bs n v).length := by rw [entL_len f bs n v hl]; exact h.there
  exact ⟨hl, by rw [size_setCells]; exact h.lt, World.rangeAt_setCells_same w G 0 _ ht, World.there_setCells h.there G 0 _⟩
end
theorem EntAt.of (w : World) (t : TypeId) (cs : Array Value) (f : Int) (bs : List Nat) (n v : Int) (h16 : bs.length = 16) (h : cs.toList = entL f bs n v) : EntAt (w.alloc (.cells cs t)) w.heap.size f bs n v := by
  have e : ∀ j, cs[j]? = (entL f bs n v)[j]? := fun j => by rw [← h, Array.getElem?_toList]
  refine ⟨h16, by simp, fun j u hu => ?_, fun j hj => ⟨?_, World.frozen?_alloc_new _ _ _ _⟩⟩
  · rw [World.cell?_alloc_new, Nat.zero_add, e]; exact hu
  · rw [World.cell?_alloc_new, Nat.zero_add, e, List.getElem?_eq_getElem (by rw [entL_len f bs n v h16]; exact hj)]; rfl
/-- The cells of an entry of zeros. -/
abbrev zE : Array Value := #[.int .i64 0, .int .u8 0, .int .u8 0, .int .u8 0, .int .u8 0, .int .u8 0, .int .u8 0, .int .u8 0, .int .u8 0, .int .u8 0, .int .u8 0, .int .u8 0, .int .u8 0, .int .u8 0, .int .u8 0, .int .u8 0, .int .u8 0, .int .i64 0, .int .i64 0]
theorem ent_zeroed (w : World) : EntAt (w.alloc (.cells zE 69)) w.heap.size 0 (List.replicate 16 0) 0 0 := EntAt.of w _ _ 0 _ 0 0 rfl rfl
/-- An entry, loaded whole from wherever it lies. -/
theorem load_ent_o {ops : Array Oper} {rest : List Oper} {op : Oper} {a : Act} {w : World} {Q : Exit → Act → World → Prop} {G o : Nat} {f : Int} {bs : List Nat} {n v : Int} (hl : Hid (bs.length = 16)) (hA : Hid (w.rangeAt G o (entL f bs n v))) (x : Operand) (hw : Region.wanted op (yielded ops a.tmps) = true) (ho : op.op = .load 69 x)
    (hx : a.eval x = .pointer (some ⟨G, o, none⟩)) (h : wpList Tryd.prog ops Q rest (a.put op.dst (entV f bs n v)) w) : wpList Tryd.prog ops Q (op :: rest) a w :=
  wpList_load_row hw 69 x ho G o hx (entL f bs n v) _ hA.out Tryd.underlying69 rfl (by rw [ent_size, entL_len f bs n v hl.out]) h
/-- An entry, stored whole. -/
theorem store_ent {ops : Array Oper} {rest : List Oper} {op : Oper} {a : Act} {w : World} {Q : Exit → Act → World → Prop} {G : Nat} {g : Int} {bs0 : List Nat} {n0 v0 : Int} (hA : Hid (EntAt w G g bs0 n0 v0)) (x y : Operand) {f : Int} {bs : List Nat} {n v : Int} (hl : Hid (bs.length = 16)) (hgd : op.guard = none) (ho : op.op = .store 69 x y)
    (hx : a.eval x = .pointer (some ⟨G, 0, none⟩)) (hy : a.eval y = entV f bs n v) (h : ∀ W, Hid (W = w.setCells G 0 (entL f bs n v)) → Hid (EntAt W G f bs n v) → wpList Tryd.prog ops Q rest (a.put op.dst undef) W) : wpList Tryd.prog ops Q (op :: rest) a w :=
  wpList_store_mid hgd 69 x y ho G 0 (entL f bs n v).toArray hx hy (by rw [List.size_toArray, entL_len f bs n v hl.out]; exact hA.out.there) (by rw [ent_size, List.size_toArray, entL_len f bs n v hl.out]) (entL_one f bs n v) (h _ (Lib.hid rfl) (Lib.hid (hA.out.stored f bs n v hl.out)))
theorem loadVar_ent {w : World} {G : Nat} {f : Int} {bs : List Nat} {n v : Int} (h : EntAt w G f bs n v) : (loadVar 69 ⟨G, 0, none⟩).run Tryd.prog w = .ok (entV f bs n v) w :=
  run_loadVar_mid w G 0 69 (entL f bs n v) _ h.range Tryd.underlying69 rfl (by rw [ent_size, entL_len f bs n v h.len])
theorem results_ent2 {fn : Func} {a t : Tmp} {tmps : Array Value} {W : World} {R : Nat} {f : Int} {bs : List Nat} {n v : Int} (h : fn.results = #[.cell a 69, .tmp t]) (ha : tmps.getD a undef = .pointer (some ⟨R, 0, none⟩)) (hA : EntAt W R f bs n v) : (results fn tmps).run Tryd.prog W = .ok (.tuple #[entV f bs n v, tmps.getD t undef]) W := by
  rw [Array.getD_eq_getD_getElem?] at ha
  simp [results, h, ha, asAddr, loadVar_ent hA]
/-- An entry, built of a prefix and a value; one of zeros. -/
theorem built_ent (f : Int) (bs : List Nat) (n v : Int) (h16 : bs.length = 16) : Tryd.prog.built 69 [(0, prefV f bs n), (1, .int .i64 v)] = some (entL f bs n v).toArray := by
  obtain ⟨y0, y1, y2, y3, y4, y5, y6, y7, y8, y9, y10, y11, y12, y13, y14, y15, rfl⟩ := list16 bs h16
  kernel_rfl
theorem built_ent0 : Tryd.prog.built 69 [] = some (entL 0 (List.replicate 16 0) 0 0).toArray := rfl
theorem build_ent {ops : Array Oper} {rest : List Oper} {op : Oper} {a : Act} {w : World} {Q : Exit → Act → World → Prop} {f : Int} {bs : List Nat} {n v : Int} (hl : Hid (bs.length = 16)) (hg : op.guard = none) (x y : Operand) (ho : op.op = .build 69 #[(0, x), (1, y)])
    (hx : a.eval x = prefV f bs n) (hy : a.eval y = .int .i64 v) (h : wpList Tryd.prog ops Q rest (a.put op.dst (entV f bs n v)) w) : wpList Tryd.prog ops Q (op :: rest) a w := by
  have e : Tryd.prog.built 69 ((#[(0, x), (1, y)] : Array (Nat × Operand)).map fun (i, x) => (i, a.eval x)).toList = some (entL f bs n v).toArray := by
    simp only [List.map_toArray, List.map_cons, List.map_nil]
    rw [hx, hy]; exact built_ent f bs n v hl.out
  refine wpList_build hg 69 _ ho (by rw [e]; rfl) ?_
  rw [e]
  exact h
theorem build_ent0 {ops : Array Oper} {rest : List Oper} {op : Oper} {a : Act} {w : World} {Q : Exit → Act → World → Prop} (hg : op.guard = none) (ho : op.op = .build 69 #[])
    (h : wpList Tryd.prog ops Q rest (a.put op.dst (entV 0 (List.replicate 16 0) 0 0)) w) : wpList Tryd.prog ops Q (op :: rest) a w := by
  have e : Tryd.prog.built 69 ((#[] : Array (Nat × Operand)).map fun (i, x) => (i, a.eval x)).toList = some (entL 0 (List.replicate 16 0) 0 0).toArray := by
    simp only [List.map_toArray, List.map_nil]
    exact built_ent0
  refine wpList_build hg 69 _ ho (by rw [e]; rfl) ?_
  rw [e]
  exact h
end Go.Proofs.YtgbajagacmfcmaaDoor
/- Entries appended to a row of one's own. -/
namespace Go.Proofs.YtgbajagacmfcmaaDoor
open Go.RowKit
set_option linter.unusedVariables false
set_option maxRecDepth 20000

theorem infoE : (Tryd.prog.info? 69).map (fun i => (i.zero, i.size, i.bytes)) = some (some (.agg zE), 19, 40) := by kernel_rfl
theorem RowE.kept {w w' : World} {base : Nat} {v : Value} {es : List Ent} {row : Option Nat} (h : RowE w base v es) (hg : w.grownBy w' row) (hne : v.ownBlock = none ∨ v.ownBlock ≠ row) : RowE w' base v es := ⟨h.1.kept hg hne, h.2⟩
theorem below_grown {w0 w w' : World} {v : Value} {es : List Ent} (hb : Below w0.heap.size w0 w) (hE : RowE w w0.heap.size v es) (hg : w.grownBy w' v.ownBlock) : Below w0.heap.size w0 w' :=
  hb.grown hg hb.size (fun k hk => (hE.1.lt k hk).1)
/-- Entries that lie somewhere are appended. -/
theorem append_ents {ops : Array Oper} {rest : List Oper} {op : Oper} {a : Act} {w : World} {Q : Exit → Act → World → Prop} {base : Nat} {v : Value} {es : List Ent} (hE : Hid (RowE w base v es)) (s x : Operand) (hgd : op.guard = none) (ho : op.op = .call { callee := .builtin .append, args := #[s, x], argTypes := #[31, 31] })
    (hs : a.eval s = v) {G o m c : Nat} (ys : List Ent) (hx : a.eval x = .slice (some ⟨G, o, none⟩) m c) (hm : Hid (m = ys.length)) (hr : Hid (w.rangeAt G o (flatE ys))) (hy : Hid (AllGood ys)) (hle : Hid (es.length + ys.length ≤ 1000)) (hbase : Hid (base ≤ w.heap.size))
    (h : ∀ v' w', Hid (RowE w' base v' (es ++ ys)) → Hid (w.grownBy w' v.ownBlock) → Hid (v'.ownBlock = v.ownBlock ∨ v'.ownBlock = some w.heap.size) → wpList Tryd.prog ops Q rest (a.put op.dst v') w') : wpList Tryd.prog ops Q (op :: rest) a w := by
  obtain ⟨i0, hi0, hz0, hz1, hz2⟩ := info_parts infoE
  have hml := hm.out
  have hll := hle.out
  refine wpList_append_own_at w hgd s x 31 ho base 69 i0 _ 19 40 Tryd.underlying31 hi0 hz0 hz1 hz2 rfl (by decide) v es.length (flatE es) hs hE.out.1 ⟨G, o, none⟩ m c (flatE ys) hx (by rw [flatE_len ys hy.out, hml]) (fun j u hu => ?_) (flatE_one ys hy.out) (by unfold maxLen; omega) (by omega) hbase.out (fun v' w' h1 h2 _ h4 => ?_)
  · have := hr.out j u hu
    have hadd : (⟨G, o, none⟩ : Addr).add j = ⟨G, o + j, none⟩ := by unfold Addr.add; split <;> simp_all
    rw [hadd]
    exact this
  · refine h v' w' (Lib.hid ⟨?_, ?_, ?_⟩) (Lib.hid h2) (Lib.hid h4)
    · rw [List.length_append, flatE_append, ← hml]; exact h1
    · intro e he
      rcases List.mem_append.1 he with he | he
      · exact hE.out.2.1 e he
      · exact hy.out e he
    · rw [List.length_append]; exact hll
theorem append_none {ops : Array Oper} {rest : List Oper} {op : Oper} {a : Act} {w : World} {Q : Exit → Act → World → Prop} {base : Nat} {v : Value} {es : List Ent} (hE : Hid (RowE w base v es)) (s x : Operand) (hgd : op.guard = none) (ho : op.op = .call { callee := .builtin .append, args := #[s, x], argTypes := #[31, 31] })
    (hs : a.eval s = v) (hx : a.eval x = .slice none 0 0) (h : wpList Tryd.prog ops Q rest (a.put op.dst v) w) : wpList Tryd.prog ops Q (op :: rest) a w := by
  obtain ⟨i0, hi0, _⟩ := info_parts infoE
  refine wpList_plain hgd fun K hK => ?_
  have hr := run_append_owned_none (P := Tryd.prog) w base 31 op.type 69 i0 19 Tryd.underlying31 hi0 v es.length (flatE es) hE.out.1
  unfold Oper.wp execOp
  simp only [ho, resolve, invoke, builtin, Sem.run_bind, Sem.run_pure, Result.andThen_ok, List.map_toArray, List.map_cons, List.map_nil, hs, hx, hr]
  exact hK _ _ h
theorem fillE (f : Int) (bs : List Nat) (n v : Int) (h16 : bs.length = 16) : Instr.fill (fun i => some (i * 19, 19)) ((Array.range (1 * 19)).map fun j => zE[j % zE.size]!) [(0, entV f bs n v)] = some (entL f bs n v).toArray := by
  obtain ⟨y0, y1, y2, y3, y4, y5, y6, y7, y8, y9, y10, y11, y12, y13, y14, y15, rfl⟩ := list16 bs h16
  kernel_rfl
theorem run_buildE (f : Int) (bs : List Nat) (n v : Int) (w : World) (h16 : bs.length = 16) : (Instr.buildSlice 31 1 #[(0, entV f bs n v)]).run Tryd.prog w = .ok (.slice (some ⟨w.heap.size, 0, none⟩) 1 1) (w.alloc (.cells (entL f bs n v).toArray 69)) := by
  obtain ⟨i0, hi0, hz0, hz1, hz2⟩ := info_parts infoE
  have hf := fillE f bs n v h16
  obtain ⟨Z, hZ⟩ : ∃ Z : Array Value, zE = Z := ⟨_, rfl⟩
  rw [hZ] at hf hz0
  have hsz : (sizeOf 69).run Tryd.prog w = .ok 19 w := by simp [sizeOf, typeInfo, hi0, hz1]
  have hzv : (zeroValue 69).run Tryd.prog w = .ok (.agg Z) w := by simp [zeroValue, typeInfo, hi0, hz0]
  have hnr : ∀ cs : Array Value, (newRow 69 cs).run Tryd.prog w = .ok ⟨w.heap.size, 0, none⟩ (w.alloc (.cells cs 69)) := fun cs => by simp [newRow]
  have hu : (underlying 31).run Tryd.prog w = .ok _ w := run_underlying Tryd.underlying31 w
  have hfc : Instr.fill (fun i => some (i * 19, 19)) ((Array.range (1 * 19)).map fun j => (Value.agg Z).cells[j % (Value.agg Z).cells.size]!) (#[(0, entV f bs n v)] : Array (Nat × Value)).toList = some (entL f bs n v).toArray := hf
  unfold Instr.buildSlice
  simp only [Sem.run_bind, hu, Result.andThen_ok, hsz, if_neg (show ¬ (1 * 19 > 2 ^ 24) by decide), Sem.run_pure, if_neg (show ¬ (1 * 19 = 0) by decide), hzv, hfc, hnr]
theorem build_entS {ops : Array Oper} {rest : List Oper} {op : Oper} {a : Act} {w : World} {Q : Exit → Act → World → Prop} {f : Int} {bs : List Nat} {n v : Int} (hl : Hid (bs.length = 16)) (hg : op.guard = none) (x : Operand) (ho : op.op = .buildSlice 31 1 #[(0, x)])
    (hx : a.eval x = entV f bs n v) (h : ∀ W, Hid (W = w.alloc (.cells (entL f bs n v).toArray 69)) → wpList Tryd.prog ops Q rest (a.put op.dst (.slice (some ⟨w.heap.size, 0, none⟩) 1 1)) W) : wpList Tryd.prog ops Q (op :: rest) a w := by
  refine wpList_plain hg fun K hK => ?_
  unfold Oper.wp execOp
  simp only [ho, List.map_toArray, List.map_cons, List.map_nil, hx, Sem.run_bind, run_buildE f bs n v w hl.out, Result.andThen_ok]
  exact hK _ _ (h _ (Lib.hid rfl))
theorem run_neq_pref (f g : Int) (xs ys : List Nat) (n m : Int) (W : World) (hx : xs.length = 16) (hy : ys.length = 16) : (binOp .neq 27 (prefV f xs n) (prefV g ys m)).run Tryd.prog W = .ok (.bool (!decide (f = g ∧ xs = ys ∧ n = m))) W := by
  have h := eq_pref f g xs ys n m W hx hy
  unfold prefV at h ⊢
  rw [run_neq_struct, h]
  rfl
theorem buildS_new {w : World} {cs : List Value} (t : TypeId) : (w.alloc (.cells cs.toArray t)).rangeAt w.heap.size 0 cs := by
  intro j u hu
  rw [World.cell?_alloc_new, Nat.zero_add]
  simpa using hu
theorem below_none {w w' : World} (h : w.grownBy w' (Value.slice none 0 0).ownBlock) : Below w.heap.size w w' := ⟨h.os, h.tape, h.output, h.size, fun k hk => h.block k hk (by intro e; cases e)⟩
theorem range_far {w w' : World} {G o : Nat} {cs : List Value} {row : Option Nat} (h : w.rangeAt G o cs) (hg : w.grownBy w' row) (hlt : G < w.heap.size) (hne : some G ≠ row) : w'.rangeAt G o cs := fun j u hu => by rw [hg.cell_far ⟨G, o + j, none⟩ hlt hne]; exact h j u hu
theorem PrefAt.belowB {w w' : World} {G B : Nat} {f : Int} {bs : List Nat} {n : Int} (h : PrefAt w G f bs n) (hb : Below B w w') (hG : G < B) : PrefAt w' G f bs n :=
  PrefAt.ofRange h.addr.len (Nat.lt_of_lt_of_le h.addr.lt hb.size) (fun j u hu => by rw [hb.cell (p := ⟨G, 0 + j, none⟩) hG]; exact h.range j u hu) (fun j hj => by
    rw [hb.cell (p := ⟨G, 0 + j, none⟩) hG, hb.frozen (p := ⟨G, 0 + j, none⟩) hG]
    exact h.there j hj)
theorem range_belowB {w w' : World} {G B o : Nat} {cs : List Value} (h : w.rangeAt G o cs) (hb : Below B w w') (hG : G < B) : w'.rangeAt G o cs := fun j u hu => by rw [hb.cell (p := ⟨G, o + j, none⟩) hG]; exact h j u hu
end Go.Proofs.YtgbajagacmfcmaaDoor
