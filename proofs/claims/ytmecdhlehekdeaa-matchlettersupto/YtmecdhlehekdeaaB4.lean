/- Texts that belong together, one behind the other: MatRefCh, EqRec, RefWireSame, RefWireSame2, WirEqual, WirSame, WirAsk, MatRefFo, MatRefTe, MatAddrs, MatOwnCh. -/
import Derived.Test.YtmecdhlehekdeaaB3
import Derived.Deep.RegionHeld3
/- The reference's layer 11: a chain. -/
namespace Go.Proofs.Ytmecdhlehekdeaa
open Go.RowKit
set_option linter.unusedVariables false
set_option maxRecDepth 20000

/-- A row of texts of one's own. -/
def RowT (w : World) (base : Nat) (v : Value) (l : List ByteArray) : Prop := w.ownsRow base 9 1 v l.length (l.map Value.string)
theorem RowT.below {w w' : World} {base : Nat} {v : Value} {l : List ByteArray} (h : RowT w base v l) (hb : Below w.heap.size w w') : RowT w' base v l := own_below8 h hb
/-- A row that is not empty, and its last text. -/
theorem RowT.last {w : World} {base : Nat} {v : Value} {l : List ByteArray} {x : ByteArray} (h : RowT w base v (l ++ [x])) : ∃ g c, v = .slice (some ⟨g, 0, none⟩) (l.length + 1) c ∧ g < w.heap.size ∧ w.cell? ⟨g, l.length, none⟩ = some (.string x) := by
  obtain ⟨g, c, e, h1, h2⟩ := h.form (by simp)
  subst e
  have hl : (l ++ [x]).length = l.length + 1 := by simp
  have hc := own_cells (l := l ++ [x]) h l.length (by simp)
  rw [hl]
  exact ⟨g, c, rfl, h2, by rw [hc]; simp⟩
theorem RowT.one (w : World) (x : ByteArray) : RowT (w.alloc (.cells #[.string x] 9)) w.heap.size (.slice (some ⟨w.heap.size, 0, none⟩) 1 1) [x] :=
  ⟨rfl, .inr ⟨w.heap.size, 1, #[.string x], rfl, Nat.le_refl _, by show (w.heap.push _)[w.heap.size]? = _; simp, Nat.le_refl _, by decide, rfl, rfl⟩⟩
/-- What a chain hands back. -/
def ChainRet (w : World) (x : List ByteArray × Int × Bool) (e : Ending) (w' : World) : Prop :=
  ∃ v, e = .returned (.tuple #[v, .int .i64 x.2.1, .bool x.2.2]) ∧ RowT w' w.heap.size v x.1 ∧ Below w.heap.size w w'
set_option maxRecDepth 100000 in
set_option maxHeartbeats 2000000 in
theorem refChain11_any (a : Option Addr) (c : Nat) (D : List Rec) (nm : ByteArray) (most : Int) (w : World) (hA : RecsAt w a c D) (hD : All2 D) (hnm : nm.size ≤ 2000000) (hm : most ≤ 1000) :
    Calls Try.prog 21 #[.string nm, .slice a D.length c, .int .i64 most] w (ChainRet w (chainP D most.toNat nm 604800)) := by
  obtain ⟨i0, hi0, hz0, hz1, hz2⟩ := info_parts Try.infoString
  have HA := Lib.hid hA
  have HD := Lib.hid hD
  have HOF := fun (x : ByteArray) (W : World) (hx : x.size ≤ 2000000) (hb : Below w.heap.size w W) => Lib.hid (refOf11_any a c D x 5 0 W (hA.below hb) (Nat.zero_le _) hD.name hx)
  have hmx : D.length ≤ maxLen := Nat.le_trans hA.1 hA.2.1
  unfold maxLen at hmx
  obtain ⟨N, hN⟩ : ∃ N, D.length = N := ⟨_, rfl⟩
  have HN := Lib.hid hN
  have HNX := fun x => Lib.hid (ofR_next D x)
  rw [hN] at hmx HOF HNX ⊢
  obtain ⟨R, hR⟩ : ∃ R, chainP D most.toNat nm 604800 = R := ⟨_, rfl⟩
  have HR : Hid (RowT (w.alloc (.cells #[.string nm] 9)) w.heap.size (.slice (some ⟨w.heap.size, 0, none⟩) 1 1) [nm] ∧ Below w.heap.size w (w.alloc (.cells #[.string nm] 9))) := Lib.hid ⟨RowT.one _ _, (Below.refl _ _).alloc (Nat.le_refl _) _⟩
  have HRR := Lib.hid hR
  have HNM := Lib.hid hnm
  rw [hR]
  clear hR hA hN hD hnm
  go_enter Try.func21, Try.ntmps21
  go_wp2_with fail
  go_loopw [9, 10, 11] (fun v t i wr => ∃ (n : Nat) (pre : List ByteArray) (last : ByteArray) (T : Int), t = .int .i64 T ∧ n ≤ most.toNat ∧ Hid (pre.length + n = most.toNat ∧ last.size ≤ 2000000 ∧ (pre ++ (chainP D n last T).1, (chainP D n last T).2) = R) ∧ Hid (RowT wr w.heap.size v (pre ++ [last]) ∧ Below w.heap.size w wr)) (fun v _ _ _ => 2000 - (match v with | .slice _ n _ => n | _ => 0))
  case atStart => exact ⟨most.toNat, [], nm, 604800, rfl, Nat.le_refl _, Lib.hid ⟨by simp, HNM.out, by simpa using HRR.out⟩, HR⟩
  case round =>
    clear HR HRR
    obtain ⟨n, pre, last, T, rfl, hn, HI, HW⟩ := hrel
    obtain ⟨g, cap, rfl, hg, hlc⟩ := HW.out.1.last
    obtain ⟨L, hL⟩ : ∃ L, pre.length = L := ⟨_, rfl⟩
    have HL := Lib.hid hL
    have hLn : L + n = most.toNat := by rw [← hL]; exact HI.out.1
    have hLm : L ≤ 1000 := by omega
    rw [hL] at hlc ⊢
    have HO := HOF last wr HI.out.2.1 HW.out.2
    clear hL
    have hi1 : (0 : Int) ≤ (L : Int) := by omega
    have hi2 : (L : Int) < (L : Int) + 1 := by omega
    rcases (HNX last).out with ⟨j, r, hj, hjr, ej, enx⟩ | ⟨ej, enx⟩
    · have HE : Hid (n = 0 → (pre ++ [last], T, false) = R) := Lib.hid (fun e => by have := HI.out.2.2; rw [e, chain_zero enx] at this; exact this)
      have HS : Hid (∀ m, n = m + 1 → ((pre ++ [last]) ++ (chainP D m r.tg (min T r.ttl)).1, (chainP D m r.tg (min T r.ttl)).2) = R) := Lib.hid (fun m e => by have := HI.out.2.2; rw [e, chain_succ enx] at this; rw [← this]; simp)
      have HT : Hid (r.tg.size ≤ 2000000) := Lib.hid (HD.out r (next_mem enx).1).2
      rw [ej] at HO
      have hjN : j < N := hj
      have HJ : Hid (j < D.length) := Lib.hid (by rw [HN.out]; exact hj)
      have HJR := Lib.hid hjr
      have hneg : decide ((j : Int) < 0) = false := decide_eq_false (by omega)
      clear ej enx HNX HOF hj hjr
      go_wp2_with fail
      refine HO.out.mono ?_
      rintro e w1 ⟨rfl, hb⟩
      have HW1 : Hid (RowT w1 w.heap.size (.slice (some ⟨g, 0, none⟩) (L + 1) cap) (pre ++ [last]) ∧ Below w.heap.size w w1) := Lib.hid (by
        have h1 := HW.out.1.below hb
        rw [HL.out] at h1
        exact ⟨h1, chain HW.out.2 hb⟩)
      clear hb HO HW hlc
      by_cases hn0 : n = 0
      · have HE2 := Lib.hid (HE.out hn0)
        have hd : decide (most ≤ (L : Int)) = true := decide_eq_true (by omega)
        go_wp2_with fail
        go_ret3
        rw [← HE2.out]
        exact ⟨_, rfl, HW1.out.1, HW1.out.2⟩
      · obtain ⟨m, hm1⟩ : ∃ m, n = m + 1 := ⟨n - 1, by omega⟩
        have HS2 := Lib.hid (HS.out m hm1)
        have hd : decide (most ≤ (L : Int)) = false := decide_eq_false (by omega)
        obtain ⟨g2, o2, rfl, hg2, hr2⟩ := (HA.out.below HW1.out.2).at j HJ.out
        have hrr : D[j]'HJ.out = r := by have := HJR.out; rw [List.getElem?_eq_getElem HJ.out] at this; exact Option.some.inj this
        rw [hrr] at hr2
        have HP2 := Lib.hid (rec_parts hr2 (HA.out.2.2.1 r (List.mem_of_getElem? HJR.out)).1)
        have htg : w1.cell? ⟨g2, o2 + j * 23 + 21, none⟩ = some (.string r.tg) := HP2.out.tg
        have HOW := HW1.out.1
        unfold RowT at HOW
        have hll : (pre ++ [last]).length = L + 1 := by rw [List.length_append, HL.out]; rfl
        rw [hll] at HOW
        have hbs : w.heap.size ≤ w1.heap.size := HW1.out.2.size
        have hj1 : (0 : Int) ≤ (j : Int) := by omega
        have hj2 : (j : Int) < (N : Int) := by omega
        clear hr2 hrr hll
        go_wp2_with (at_builtin; refine wpList_append_own _ rfl (.tmp 33) (.tmp 39) 48 rfl w.heap.size 9 i0 _ 1 16 Try.underlying48 hi0 hz0 hz1 hz2 rfl (by decide) _ _ _ rfl (HOW.alloc _) ⟨w1.heap.size, 0, none⟩ 1 1 [.string r.tg] rfl rfl ?c1 ?c2 ?c3 ?c4 ?c5 ?_)
        case c1 => exact cell_one_new _ _ _
        case c2 => intro u hu; simp at hu; subst hu; rfl
        case c3 => unfold maxLen; omega
        case c4 => omega
        case c5 => simp; omega
        intro v' w2 hown' hgrow _
        have HB2 : Hid (Below w.heap.size w1 w2) := Lib.hid (((Below.refl _ _).alloc hbs _).grown hgrow (by simp; omega) (fun k hk => (HOW.lt k hk).1))
        have HW2 : Hid (RowT w2 w.heap.size v' ((pre ++ [last]) ++ [r.tg]) ∧ Below w.heap.size w w2) := Lib.hid ⟨by unfold RowT; simp only [List.length_append, List.length_cons, List.length_nil, List.map_append, List.map_cons, List.map_nil]; rw [HL.out]; simpa using hown', HW1.out.2.trans HB2.out⟩
        obtain ⟨g3, o3, e3, hg3, hr3⟩ := (HA.out.below HW2.out.2).at j HJ.out
        obtain ⟨rfl, rfl⟩ : g2 = g3 ∧ o2 = o3 := by injection e3 with h; injection h with h1 h2; exact ⟨h1, h2⟩
        have hrr : D[j]'HJ.out = r := by have := HJR.out; rw [List.getElem?_eq_getElem HJ.out] at this; exact Option.some.inj this
        rw [hrr] at hr3
        have httl : w2.cell? ⟨g2, o2 + j * 23 + 3, none⟩ = some (.int .i64 r.ttl) := (rec_parts hr3 (HA.out.2.2.1 r (List.mem_of_getElem? HJR.out)).1).ttl
        obtain ⟨g4, c4, rfl, _, _⟩ := HW2.out.1.last
        have hll : (pre ++ [last]).length = L + 1 := by rw [List.length_append, HL.out]; rfl
        rw [hll] at HW2 ⊢
        obtain ⟨mt, hmt⟩ : ∃ mt, min T r.ttl = mt := ⟨_, rfl⟩
        have HMT := Lib.hid hmt
        rw [hmt] at HS2
        clear hr3 hrr hgrow hown' htg e3 HOW HE HS hg3 hg2 HP2
        go_wp2_with fail
        go_roundw
        case rel => exact ⟨m, pre ++ [last], r.tg, mt, by first | rfl | (rw [← HMT.out]; go_num), by omega, Lib.hid ⟨by rw [hll]; omega, HT.out, HS2.out⟩, HW2⟩
        case measure => simp; omega
    · have HE : Hid ((pre ++ [last], T, true) = R) := Lib.hid (by have := HI.out.2.2; rw [chain_none enx] at this; exact this)
      rw [ej] at HO
      clear ej enx HNX HOF
      go_wp2_with fail
      refine HO.out.mono ?_
      rintro e w1 ⟨rfl, hb⟩
      have HW1 : Hid (RowT w1 w.heap.size (.slice (some ⟨g, 0, none⟩) (L + 1) cap) (pre ++ [last]) ∧ Below w.heap.size w w1) := Lib.hid (by
        have h1 := HW.out.1.below hb
        rw [HL.out] at h1
        exact ⟨h1, chain HW.out.2 hb⟩)
      clear hb HO HW hlc
      go_wp2_with fail
      go_ret3
      rw [← HE.out]
      exact ⟨_, rfl, HW1.out.1, HW1.out.2⟩
end Go.Proofs.Ytmecdhlehekdeaa
/- Records and questions compared. -/
namespace Go.Proofs.Ytmecdhlehekdeaa
open Go.RowKit
set_option linter.unusedVariables false
set_option maxRecDepth 20000

theorem eqF_nil (P : Program) (W : World) (D : Nat) (X Y : Array Value) : (Op.eqFields D X Y []).run P W = .ok true W := by simp [Op.eqFields]
theorem eqF_cons (P : Program) (W : World) (D : Nat) (X Y : Array Value) (f : Field) (fs : List Field) (a b : Value) (r s : Bool) (hn : f.name ≠ "_")
    (h1 : (part f.type X f.offset).run P W = .ok a W) (h2 : (part f.type Y f.offset).run P W = .ok b W) (h3 : (Op.equalIn D f.type a b).run P W = .ok r W) (h4 : (Op.eqFields D X Y fs).run P W = .ok s W) :
    (Op.eqFields D X Y (f :: fs)).run P W = .ok (r && s) W := by
  simp only [Op.eqFields, ne_eq, hn, not_false_eq_true, if_true, Sem.run_bind, h1, h2, h3, Result.andThen_ok, Sem.run_ite, Sem.run_pure]
  cases r
  · rfl
  · simpa using h4
theorem plainK_str : Try.prog.plainKey 9 = true := by kernel_rfl
theorem str_eq (a b : ByteArray) : (a.toList == b.toList) = decide (a = b) := by
  rw [Bool.eq_iff_iff, beq_iff_eq, decide_eq_true_iff]
  constructor
  · intro h
    rw [ByteArray.toList_eq, ByteArray.toList_eq] at h
    exact bytes_ext h
  · intro h; rw [h]
theorem eqS (d : Nat) (a b : ByteArray) (W : World) : (Op.equalIn (d + 1) 9 (.string a) (.string b)).run Try.prog W = .ok (decide (a = b)) W := by
  rw [run_equalIn_string (P := Try.prog) W d 9 a b Try.underlying9, str_eq]
theorem eqI (d : Nat) (a b : Int) (W : World) : (Op.equalIn (d + 1) 3 (.int .i64 a) (.int .i64 b)).run Try.prog W = .ok (decide (a = b)) W := by
  rw [run_equalIn_int (P := Try.prog) W d 3 .i64 .i64 a b Try.underlying3]
  congr 1
theorem rec_cell (r : Rec) (h16 : r.b.length = 16) : (recL r).toArray[0]? = some (.string r.name) ∧ (recL r).toArray[1]? = some (.int .i64 r.ty) ∧ (recL r).toArray[2]? = some (.int .i64 r.cl) ∧ (recL r).toArray[3]? = some (.int .i64 r.ttl) ∧ (recL r).toArray[21]? = some (.string r.tg) ∧ (recL r).toArray[22]? = some (.string r.da) := by
  have hl := addrL_len r.f r.b h16
  refine ⟨rfl, rfl, rfl, rfl, ?_, ?_⟩
  · rw [List.getElem?_toArray]
    unfold recL
    rw [List.getElem?_append_right (by simp [hl])]
    simp [hl]
  · rw [List.getElem?_toArray]
    unfold recL
    rw [List.getElem?_append_right (by simp [hl])]
    simp [hl]
theorem part_recA (W : World) (r : Rec) (h16 : r.b.length = 16) : (part 55 (recL r).toArray 4).run Try.prog W = .ok (addrV r.f r.b) W := by
  obtain ⟨i, hi, hs⟩ : ∃ i, Try.prog.info? 55 = some i ∧ i.size = 17 := ⟨_, rfl, by kernel_rfl⟩
  have h2 : (isAgg 55).run Try.prog W = .ok true W := by
    unfold isAgg
    rw [Sem.run_bind, run_underlying Try.underlying55 W]
    simp
  have h3 : (sizeOf 55).run Try.prog W = .ok 17 W := by simp [sizeOf, typeInfo, hi, hs]
  simp only [part, Sem.run_bind, h2, Result.andThen_ok, if_true, h3, Sem.run_pure]
  rw [addrV_L]
  congr 2
  apply Array.ext'
  simp only [Array.toList_extract, List.extract_eq_take_drop]
  show ((recL r).drop 4).take 17 = addrL r.f r.b
  have e : (recL r).drop 4 = addrL r.f r.b ++ [.string r.tg, .string r.da] := by unfold recL; rfl
  rw [e, List.take_append_of_le_length (by rw [addrL_len r.f r.b h16]; exact Nat.le_refl _), List.take_of_length_le (by rw [addrL_len r.f r.b h16]; exact Nat.le_refl _)]
theorem rec_fields : Try.prog.fieldsOf 57 = #[{ name := "Name", type := 9, offset := 0, embedded := false, tag := "", pkgPath := "", byteOffset := 0 }, { name := "Type", type := 3, offset := 1, embedded := false, tag := "", pkgPath := "", byteOffset := 16 }, { name := "Class", type := 3, offset := 2, embedded := false, tag := "", pkgPath := "", byteOffset := 24 }, { name := "Ttl", type := 3, offset := 3, embedded := false, tag := "", pkgPath := "", byteOffset := 32 }, { name := "Addr", type := 55, offset := 4, embedded := false, tag := "", pkgPath := "", byteOffset := 40 }, { name := "Target", type := 9, offset := 21, embedded := false, tag := "", pkgPath := "", byteOffset := 64 }, { name := "Data", type := 9, offset := 22, embedded := false, tag := "", pkgPath := "", byteOffset := 80 }] := by simp only [Program.fieldsOf, Try.underlying57]
theorem and7 (r s : Rec) : (decide (r.name = s.name) && (decide (r.ty = s.ty) && (decide (r.cl = s.cl) && (decide (r.ttl = s.ttl) && (decide (r.f = s.f ∧ r.b = s.b) && (decide (r.tg = s.tg) && (decide (r.da = s.da) && true))))))) = decide (r = s) := by
  rw [Bool.eq_iff_iff]
  simp only [Bool.and_eq_true, decide_eq_true_iff, Bool.and_true]
  cases r
  cases s
  simp only [Rec.mk.injEq]
  constructor
  · rintro ⟨h1, h2, h3, h4, ⟨h5, h6⟩, h7, h8⟩
    exact ⟨h1, h2, h3, h4, h5, h6, h7, h8⟩
  · rintro ⟨h1, h2, h3, h4, h5, h6, h7, h8⟩
    exact ⟨h1, h2, h3, h4, ⟨h5, h6⟩, h7, h8⟩
theorem eq_rec_at (d : Nat) (r s : Rec) (W : World) (hr : r.b.length = 16) (hs : s.b.length = 16) : (Op.equalIn (d + 4) 57 (recV r) (recV s)).run Try.prog W = .ok (decide (r = s)) W := by
  have hf := rec_fields
  have st : (Op.equalIn (d + 4) 57 (recV r) (recV s)).run Try.prog W = (Op.eqFields (d + 3) (recL r).toArray (recL s).toArray (Try.prog.fieldsOf 57).toList).run Try.prog W :=
    run_equalIn_struct W (d + 3) _ _ _ (by simp only [Program.fieldsOf, Try.underlying57]) Try.stoodInHeld57
  obtain ⟨r0, r1, r2, r3, r5, r6⟩ := rec_cell r hr
  obtain ⟨s0, s1, s2, s3, s5, s6⟩ := rec_cell s hs
  rw [st, hf, ← and7]
  refine eqF_cons _ _ _ _ _ _ _ _ _ _ _ (by decide) (run_part_plain W plainK_str r0) (run_part_plain W plainK_str s0) (eqS (d + 2) _ _ W) ?_
  refine eqF_cons _ _ _ _ _ _ _ _ _ _ _ (by decide) (run_part_plain W plainK_int r1) (run_part_plain W plainK_int s1) (eqI (d + 2) _ _ W) ?_
  refine eqF_cons _ _ _ _ _ _ _ _ _ _ _ (by decide) (run_part_plain W plainK_int r2) (run_part_plain W plainK_int s2) (eqI (d + 2) _ _ W) ?_
  refine eqF_cons _ _ _ _ _ _ _ _ _ _ _ (by decide) (run_part_plain W plainK_int r3) (run_part_plain W plainK_int s3) (eqI (d + 2) _ _ W) ?_
  refine eqF_cons _ _ _ _ _ _ _ _ _ _ _ (by decide) (part_recA W r hr) (part_recA W s hs) (eq_addr_at d _ _ _ _ W hr hs) ?_
  refine eqF_cons _ _ _ _ _ _ _ _ _ _ _ (by decide) (run_part_plain W plainK_str r5) (run_part_plain W plainK_str s5) (eqS (d + 2) _ _ W) ?_
  exact eqF_cons _ _ _ _ _ _ _ _ _ _ _ (by decide) (run_part_plain W plainK_str r6) (run_part_plain W plainK_str s6) (eqS (d + 2) _ _ W) (eqF_nil _ _ _ _ _)
theorem run_neq_rec (r s : Rec) (W : World) (hr : r.b.length = 16) (hs : s.b.length = 16) : (binOp .neq 57 (recV r) (recV s)).run Try.prog W = .ok (.bool (!decide (r = s))) W := by
  have h := eq_rec_at 9996 r s W hr hs
  unfold recV at h ⊢
  rw [run_neq_struct, h]
  rfl
theorem guard_rec (op : BinOp) (x y : Operand) (r s : Rec) (W : World) : (eqGuard op 57 x y (recV r) (recV s)).run Try.prog W = .ok () W := run_eqGuard_agg _ _ _ _ _ _ _ Try.eqGuardType57
theorem qu_fields : Try.prog.fieldsOf 35 = #[{ name := "Name", type := 9, offset := 0, embedded := false, tag := "", pkgPath := "", byteOffset := 0 }, { name := "Type", type := 3, offset := 1, embedded := false, tag := "", pkgPath := "", byteOffset := 16 }, { name := "Class", type := 3, offset := 2, embedded := false, tag := "", pkgPath := "", byteOffset := 24 }] := by simp only [Program.fieldsOf, Try.underlying35]
theorem and3 (r s : Qu) : (decide (r.name = s.name) && (decide (r.ty = s.ty) && (decide (r.cl = s.cl) && true))) = decide (r = s) := by
  rw [Bool.eq_iff_iff]
  simp only [Bool.and_eq_true, decide_eq_true_iff, Bool.and_true]
  cases r
  cases s
  simp only [Qu.mk.injEq]
theorem eq_qu_at (d : Nat) (r s : Qu) (W : World) : (Op.equalIn (d + 4) 35 (quV r) (quV s)).run Try.prog W = .ok (decide (r = s)) W := by
  have hf := qu_fields
  have st : (Op.equalIn (d + 4) 35 (quV r) (quV s)).run Try.prog W = (Op.eqFields (d + 3) (quL r).toArray (quL s).toArray (Try.prog.fieldsOf 35).toList).run Try.prog W :=
    run_equalIn_struct W (d + 3) _ _ _ (by simp only [Program.fieldsOf, Try.underlying35]) Try.stoodInHeld35
  rw [st, hf, ← and3]
  refine eqF_cons _ _ _ _ _ _ _ _ _ _ _ (by decide) (run_part_plain W plainK_str rfl) (run_part_plain W plainK_str rfl) (eqS (d + 2) _ _ W) ?_
  refine eqF_cons _ _ _ _ _ _ _ _ _ _ _ (by decide) (run_part_plain W plainK_int rfl) (run_part_plain W plainK_int rfl) (eqI (d + 2) _ _ W) ?_
  exact eqF_cons _ _ _ _ _ _ _ _ _ _ _ (by decide) (run_part_plain W plainK_int rfl) (run_part_plain W plainK_int rfl) (eqI (d + 2) _ _ W) (eqF_nil _ _ _ _ _)
theorem run_neq_qu (r s : Qu) (W : World) : (binOp .neq 35 (quV r) (quV s)).run Try.prog W = .ok (.bool (!decide (r = s))) W := by
  have h := eq_qu_at 9996 r s W
  unfold quV at h ⊢
  rw [run_neq_struct, h]
  rfl
theorem guard_qu (op : BinOp) (x y : Operand) (r s : Qu) (W : World) : (eqGuard op 35 x y (quV r) (quV s)).run Try.prog W = .ok () W := run_eqGuard_agg _ _ _ _ _ _ _ Try.eqGuardType35
end Go.Proofs.Ytmecdhlehekdeaa
/- Contracts of the reference's sameRecords and Same of layer 9. -/
namespace Go.Proofs.Ytmecdhlehekdeaa
open Go.RowKit
set_option linter.unusedVariables false
set_option maxRecDepth 20000

theorem yields_rec {ops : Array Oper} {S : World → Prop} {op : Oper} {a : Act} {G o : Nat} {r : Rec} (h16 : Hid (r.b.length = 16)) (hS : Hid (∀ w, S w → w.rangeAt G o (recL r))) (hw : Region.wanted op (yielded ops a.tmps) = true) (x : Operand) (ho : op.op = .load 57 x) (hx : a.eval x = .pointer (some ⟨G, o, none⟩)) : YieldsIf Try.prog ops S op (recV r) a :=
  yieldsIf_load_mid hw 57 x ho G o hx (recL r) _ (fun w h => hS.out w h) Try.underlying57 rfl (by rw [rec_size, recL_len r h16.out])
theorem qu_size : (Try.prog.info? 35).map (·.size) = some 3 := by kernel_rfl
theorem yields_qu {ops : Array Oper} {S : World → Prop} {op : Oper} {a : Act} {G o : Nat} {r : Qu} (hS : Hid (∀ w, S w → w.rangeAt G o (quL r))) (hw : Region.wanted op (yielded ops a.tmps) = true) (x : Operand) (ho : op.op = .load 35 x) (hx : a.eval x = .pointer (some ⟨G, o, none⟩)) : YieldsIf Try.prog ops S op (quV r) a :=
  yieldsIf_load_mid hw 35 x ho G o hx (quL r) _ (fun w h => hS.out w h) Try.underlying35 rfl (by rw [qu_size]; rfl)
theorem agg_rec (r : Rec) : ∃ cs, recV r = .agg cs := ⟨_, rfl⟩
set_option maxRecDepth 100000 in
set_option maxHeartbeats 1000000 in
theorem sameRecs_any (a b : Option Addr) (c d : Nat) (D E : List Rec) (w : World) (hD : RecsAt w a c D) (hE : RecsAt w b d E) (hl : D.length ≤ 1000000) (hl2 : E.length ≤ 1000000) :
    Calls Try.prog 38 #[.slice a D.length c, .slice b E.length d] w fun e w' => e = .returned (.bool (decide (D = E))) ∧ Below w.heap.size w w' := by
  have HD := Lib.hid hD
  have HE := Lib.hid hE
  obtain ⟨R, hR⟩ : ∃ R, decide (D = E) = R := ⟨_, rfl⟩
  have HRR := Lib.hid hR
  rw [hR]
  obtain ⟨N, hN⟩ : ∃ N, D.length = N := ⟨_, rfl⟩
  obtain ⟨M, hM⟩ : ∃ M, E.length = M := ⟨_, rfl⟩
  have HN := Lib.hid hN
  have HM := Lib.hid hM
  rw [hN] at hl ⊢
  rw [hM] at hl2 ⊢
  clear hD hE hR hN hM
  by_cases hNM : N = M
  · subst hNM
    have hne : ((N : Int) != (N : Int)) = false := by simp
    go_enter Try.func38, Try.ntmps38
    go_wp2_with fail
    go_loopw [5] (fun i wr => ∃ k : Nat, k ≤ N ∧ i = .int .i64 (k : Int) ∧ Hid (∀ j (h : j < D.length) (h2 : j < E.length), j < k → D[j] = E[j]) ∧ Hid (Below w.heap.size w wr)) (fun i _ => N - (intOf i).toNat)
    case atStart => exact ⟨0, Nat.zero_le _, rfl, Lib.hid (fun j _ _ h => absurd h (by omega)), Lib.hid (Below.refl _ _)⟩
    case round =>
      obtain ⟨k, hk, rfl, HO, HB⟩ := hrel
      by_cases hkN : k < N
      · have hd : decide ((k : Int) < (N : Int)) = true := decide_eq_true (by omega)
        have hdn : decide (k < N) = true := decide_eq_true hkN
        have hkD : k < D.length := by rw [HN.out]; exact hkN
        have hkE : k < E.length := by rw [HM.out]; exact hkN
        have HBD := Lib.hid HB.out.drew
        obtain ⟨g, o, ha, hg, hrg⟩ := (HD.out.below HBD.out).at k hkD
        obtain ⟨g2, o2, hb, hg2, hrg2⟩ := (HE.out.below HBD.out).at k hkE
        subst ha
        subst hb
        have H16 := Lib.hid (HD.out.2.2.1 _ (List.getElem_mem hkD)).1
        have H17 := Lib.hid (HE.out.2.2.1 _ (List.getElem_mem hkE)).1
        have q := fun W => run_neq_rec D[k] E[k] W H16.out H17.out
        have HO2 : Hid (D[k] = E[k] → ∀ j (h : j < D.length) (h2 : j < E.length), j < k + 1 → D[j] = E[j]) := Lib.hid (fun e j h h2 hj => by
          by_cases h3 : j < k
          · exact HO.out j h h2 h3
          · obtain rfl : j = k := by omega
            exact e)
        have HF : Hid (D[k] ≠ E[k] → R = false) := Lib.hid (fun e => by
          rw [← HRR.out]
          refine decide_eq_false (fun h => e ?_)
          subst h
          rfl)
        have gd := guard_rec
        generalize D[k] = r at *
        generalize E[k] = s at *
        have hb1 : (0 : Int) ≤ (k : Int) := by omega
        have hb2 : (k : Int) < (N : Int) := by omega
        obtain ⟨S, hS⟩ : ∃ S : World → Prop, (fun W => W.rangeAt g (o + k * 23) (recL r) ∧ W.rangeAt g2 (o2 + k * 23) (recL s)) = S := ⟨_, rfl⟩
        have C1 : Hid (∀ w', S w' → w'.rangeAt g (o + k * 23) (recL r)) := Lib.hid (fun w' h => by rw [← hS] at h; exact h.1)
        have C2 : Hid (∀ w', S w' → w'.rangeAt g2 (o2 + k * 23) (recL s)) := Lib.hid (fun w' h => by rw [← hS] at h; exact h.2)
        have HSS : Hid (S wr.drew) := Lib.hid (by rw [← hS]; exact ⟨hrg, hrg2⟩)
        clear hS hrg hrg2 hg hg2
        by_cases hrs : r = s
        · have hq : (!decide (r = s)) = false := by rw [decide_eq_true hrs]; rfl
          rw [hq] at q
          have HO3 := Lib.hid (HO2.out hrs)
          clear HO2 HF HO hrs hq
          go_upto_region 6 with fail
          refine wp_region_noPanic ?_
          refine wp_region_held_drew (S := S) (by kernel_rfl) HSS.out (fun hHeld => ?_)
          refine wpAnyH_take (i := 0) (v := ?_) rfl (by kernel_rfl) (by kernel_rfl) (by kernel_rfl) (fun _ _ _ h => h) (Or.inl ⟨by rfl, ?_⟩) (by assumption) ?_
          rotate_left
          · (intro w hSw; go_simp; try (with_reducible rfl))
          try simp only [Act.put, List.getElem_toArray, List.getElem_cons_zero, List.setIfInBounds_toArray, List.set_cons_zero, List.set_cons_succ]
          refine wpAnyH_take (i := 1) (v := ?_) rfl (by kernel_rfl) (by kernel_rfl) (by kernel_rfl) (fun _ _ _ h => h) (Or.inl ⟨by rfl, ?_⟩) (by assumption) ?_
          rotate_left
          · (intro w hSw; go_simp; try (with_reducible rfl))
          try simp only [Act.put, List.getElem_toArray, List.getElem_cons_zero, List.getElem_cons_succ, List.setIfInBounds_toArray, List.set_cons_zero, List.set_cons_succ]
          refine wpAnyH_take (i := 2) (v := ?_) rfl (by kernel_rfl) (by kernel_rfl) (by kernel_rfl) (fun _ _ _ h => h) (Or.inl ⟨by rfl, ?_⟩) (by assumption) ?_
          rotate_left
          · (intro w hSw; go_simp; try (with_reducible rfl))
          try simp only [Act.put, List.getElem_toArray, List.getElem_cons_zero, List.getElem_cons_succ, List.setIfInBounds_toArray, List.set_cons_zero, List.set_cons_succ]
          refine wpAnyH_take (i := 3) rfl (by kernel_rfl) (by kernel_rfl) (by kernel_rfl) (fun _ _ _ h => h) (yields_rec H16 C1 (by rfl) _ rfl rfl) (by assumption) ?_
          try simp only [Act.put, List.getElem_toArray, List.getElem_cons_zero, List.getElem_cons_succ, List.setIfInBounds_toArray, List.set_cons_zero, List.set_cons_succ]
          refine wpAnyH_take (i := 4) (v := ?_) rfl (by kernel_rfl) (by kernel_rfl) (by kernel_rfl) (fun _ _ _ h => h) (Or.inl ⟨by rfl, ?_⟩) (by assumption) ?_
          rotate_left
          · (intro w hSw; go_simp; try (with_reducible rfl))
          try simp only [Act.put, List.getElem_toArray, List.getElem_cons_zero, List.getElem_cons_succ, List.setIfInBounds_toArray, List.set_cons_zero, List.set_cons_succ]
          refine wpAnyH_take (i := 5) (v := ?_) rfl (by kernel_rfl) (by kernel_rfl) (by kernel_rfl) (fun _ _ _ h => h) (Or.inl ⟨by rfl, ?_⟩) (by assumption) ?_
          rotate_left
          · (intro w hSw; go_simp; try (with_reducible rfl))
          try simp only [Act.put, List.getElem_toArray, List.getElem_cons_zero, List.getElem_cons_succ, List.setIfInBounds_toArray, List.set_cons_zero, List.set_cons_succ]
          refine wpAnyH_take (i := 6) (v := ?_) rfl (by kernel_rfl) (by kernel_rfl) (by kernel_rfl) (fun _ _ _ h => h) (Or.inl ⟨by rfl, ?_⟩) (by assumption) ?_
          rotate_left
          · (intro w hSw; go_simp; try (with_reducible rfl))
          try simp only [Act.put, List.getElem_toArray, List.getElem_cons_zero, List.getElem_cons_succ, List.setIfInBounds_toArray, List.set_cons_zero, List.set_cons_succ]
          refine wpAnyH_take (i := 7) rfl (by kernel_rfl) (by kernel_rfl) (by kernel_rfl) (fun _ _ _ h => h) (yields_rec H17 C2 (by rfl) _ rfl rfl) (by assumption) ?_
          try simp only [Act.put, List.getElem_toArray, List.getElem_cons_zero, List.getElem_cons_succ, List.setIfInBounds_toArray, List.set_cons_zero, List.set_cons_succ]
          refine wpAnyH_take (i := 8) (v := ?_) rfl (by kernel_rfl) (by kernel_rfl) (by kernel_rfl) (fun _ _ _ h => h) (Or.inl ⟨by rfl, ?_⟩) (by assumption) ?_
          rotate_left
          · (intro w hSw; go_simp; try (with_reducible rfl))
          try simp only [Act.put, List.getElem_toArray, List.getElem_cons_zero, List.getElem_cons_succ, List.setIfInBounds_toArray, List.set_cons_zero, List.set_cons_succ]
          refine wpAnyH_done (by kernel_rfl) ?_ _
          refine NoPanic.normal ?_
          clear q gd C1 C2 HSS hHeld
          go_wp2_with fail
          go_roundw
          case rel => exact ⟨k + 1, by omega, by go_num, HO3, HBD⟩
          case measure => simp [intOf]; omega
        · have hq : (!decide (r = s)) = true := by rw [decide_eq_false hrs]; rfl
          rw [hq] at q
          have ER := HF.out hrs
          subst ER
          clear HO2 HF HO hrs hq
          go_upto_region 6 with fail
          refine wp_region_noPanic ?_
          refine wp_region_held_drew (S := S) (by kernel_rfl) HSS.out (fun hHeld => ?_)
          refine wpAnyH_take (i := 0) (v := ?_) rfl (by kernel_rfl) (by kernel_rfl) (by kernel_rfl) (fun _ _ _ h => h) (Or.inl ⟨by rfl, ?_⟩) (by assumption) ?_
          rotate_left
          · (intro w hSw; go_simp; try (with_reducible rfl))
          try simp only [Act.put, List.getElem_toArray, List.getElem_cons_zero, List.setIfInBounds_toArray, List.set_cons_zero, List.set_cons_succ]
          refine wpAnyH_take (i := 1) (v := ?_) rfl (by kernel_rfl) (by kernel_rfl) (by kernel_rfl) (fun _ _ _ h => h) (Or.inl ⟨by rfl, ?_⟩) (by assumption) ?_
          rotate_left
          · (intro w hSw; go_simp; try (with_reducible rfl))
          try simp only [Act.put, List.getElem_toArray, List.getElem_cons_zero, List.getElem_cons_succ, List.setIfInBounds_toArray, List.set_cons_zero, List.set_cons_succ]
          refine wpAnyH_take (i := 2) (v := ?_) rfl (by kernel_rfl) (by kernel_rfl) (by kernel_rfl) (fun _ _ _ h => h) (Or.inl ⟨by rfl, ?_⟩) (by assumption) ?_
          rotate_left
          · (intro w hSw; go_simp; try (with_reducible rfl))
          try simp only [Act.put, List.getElem_toArray, List.getElem_cons_zero, List.getElem_cons_succ, List.setIfInBounds_toArray, List.set_cons_zero, List.set_cons_succ]
          refine wpAnyH_take (i := 3) rfl (by kernel_rfl) (by kernel_rfl) (by kernel_rfl) (fun _ _ _ h => h) (yields_rec H16 C1 (by rfl) _ rfl rfl) (by assumption) ?_
          try simp only [Act.put, List.getElem_toArray, List.getElem_cons_zero, List.getElem_cons_succ, List.setIfInBounds_toArray, List.set_cons_zero, List.set_cons_succ]
          refine wpAnyH_take (i := 4) (v := ?_) rfl (by kernel_rfl) (by kernel_rfl) (by kernel_rfl) (fun _ _ _ h => h) (Or.inl ⟨by rfl, ?_⟩) (by assumption) ?_
          rotate_left
          · (intro w hSw; go_simp; try (with_reducible rfl))
          try simp only [Act.put, List.getElem_toArray, List.getElem_cons_zero, List.getElem_cons_succ, List.setIfInBounds_toArray, List.set_cons_zero, List.set_cons_succ]
          refine wpAnyH_take (i := 5) (v := ?_) rfl (by kernel_rfl) (by kernel_rfl) (by kernel_rfl) (fun _ _ _ h => h) (Or.inl ⟨by rfl, ?_⟩) (by assumption) ?_
          rotate_left
          · (intro w hSw; go_simp; try (with_reducible rfl))
          try simp only [Act.put, List.getElem_toArray, List.getElem_cons_zero, List.getElem_cons_succ, List.setIfInBounds_toArray, List.set_cons_zero, List.set_cons_succ]
          refine wpAnyH_take (i := 6) (v := ?_) rfl (by kernel_rfl) (by kernel_rfl) (by kernel_rfl) (fun _ _ _ h => h) (Or.inl ⟨by rfl, ?_⟩) (by assumption) ?_
          rotate_left
          · (intro w hSw; go_simp; try (with_reducible rfl))
          try simp only [Act.put, List.getElem_toArray, List.getElem_cons_zero, List.getElem_cons_succ, List.setIfInBounds_toArray, List.set_cons_zero, List.set_cons_succ]
          refine wpAnyH_take (i := 7) rfl (by kernel_rfl) (by kernel_rfl) (by kernel_rfl) (fun _ _ _ h => h) (yields_rec H17 C2 (by rfl) _ rfl rfl) (by assumption) ?_
          try simp only [Act.put, List.getElem_toArray, List.getElem_cons_zero, List.getElem_cons_succ, List.setIfInBounds_toArray, List.set_cons_zero, List.set_cons_succ]
          refine wpAnyH_take (i := 8) (v := ?_) rfl (by kernel_rfl) (by kernel_rfl) (by kernel_rfl) (fun _ _ _ h => h) (Or.inl ⟨by rfl, ?_⟩) (by assumption) ?_
          rotate_left
          · (intro w hSw; go_simp; try (with_reducible rfl))
          try simp only [Act.put, List.getElem_toArray, List.getElem_cons_zero, List.getElem_cons_succ, List.setIfInBounds_toArray, List.set_cons_zero, List.set_cons_succ]
          refine wpAnyH_done (by kernel_rfl) ?_ _
          refine NoPanic.normal ?_
          clear q gd C1 C2 HSS hHeld
          go_wp2_with fail
          go_ret
          exact ⟨rfl, HBD.out⟩
      · obtain rfl : k = N := by omega
        have hd : decide ((k : Int) < (k : Int)) = false := by simp
        have ER : R = true := by
          rw [← HRR.out]
          refine decide_eq_true (List.ext_getElem (by rw [HN.out, HM.out]) (fun j h1 h2 => HO.out j h1 h2 (by rw [← HN.out]; exact h1)))
        subst ER
        clear HO
        go_wp2_with fail
        go_ret
        exact ⟨rfl, HB.out⟩
  · have hne : ((N : Int) != (M : Int)) = true := by rw [bne_iff_ne]; omega
    have ER : R = false := by
      rw [← HRR.out]
      refine decide_eq_false (fun h => hNM ?_)
      rw [← HN.out, ← HM.out, h]
    subst ER
    go_enter Try.func38, Try.ntmps38
    go_wp2_with fail
    go_ret
    exact ⟨rfl, Below.refl _ _⟩
end Go.Proofs.Ytmecdhlehekdeaa
/- Contract of the reference's Same of layer 9. -/
namespace Go.Proofs.Ytmecdhlehekdeaa
open Go.RowKit
set_option linter.unusedVariables false
set_option maxRecDepth 20000

theorem QusAt.range {w : World} {a : Option Addr} {cap : Nat} {D : List Qu} (h : QusAt w a cap D) (k : Nat) (hk : k < D.length) : ∃ g o, a = some ⟨g, o, none⟩ ∧ g < w.heap.size ∧ w.rangeAt g (o + k * 3) (quL D[k]) := by
  obtain ⟨h1, h2, h3, h4⟩ := h
  rcases h4 with h4 | ⟨g, o, e, hg, hr⟩
  · omega
  · exact ⟨g, o, e, hg, range_at hr (S := 3) (fun d hd => rfl) k hk⟩
def Lens (m : Msg) : Prop := m.qs.length ≤ 1000000 ∧ m.an.length ≤ 1000000 ∧ m.au.length ≤ 1000000 ∧ m.mo.length ≤ 1000000
set_option maxRecDepth 100000 in
set_option maxHeartbeats 2000000 in
theorem refSame9_any (m n : Msg) (aq a1 a2 a3 : Option Addr) (cq c1 c2 c3 : Nat) (bq b1 b2 b3 : Option Addr) (dq d1 d2 d3 : Nat) (w : World) (hM : MsgIn w m aq a1 a2 a3 cq c1 c2 c3) (hN : MsgIn w n bq b1 b2 b3 dq d1 d2 d3) (hlm : Lens m) (hln : Lens n) :
    Calls Try.prog 25 #[msgV m aq a1 a2 a3 cq c1 c2 c3, msgV n bq b1 b2 b3 dq d1 d2 d3] w fun e w' => e = .returned (.bool (decide (m = n))) ∧ Below w.heap.size w w' := by
  unfold msgV
  obtain ⟨hl1, hl2, hl3, hl4⟩ := hlm
  obtain ⟨hk1, hk2, hk3, hk4⟩ := hln
  have HMI := Lib.hid hM
  have HNI := Lib.hid hN
  have HA1 := fun W (h : Below w.heap.size w W) => Lib.hid (sameRecs_any a1 b1 c1 d1 m.an n.an W (hM.an.below h) (hN.an.below h) hl2 hk2)
  have HA2 := fun W (h : Below w.heap.size w W) => Lib.hid (sameRecs_any a2 b2 c2 d2 m.au n.au W (hM.au.below h) (hN.au.below h) hl3 hk3)
  have HA3 := fun W (h : Below w.heap.size w W) => Lib.hid (sameRecs_any a3 b3 c3 d3 m.mo n.mo W (hM.mo.below h) (hN.mo.below h) hl4 hk4)
  obtain ⟨R, hR⟩ : ∃ R, decide (m = n) = R := ⟨_, rfl⟩
  have HRM := Lib.hid hR
  rw [hR]
  obtain ⟨i1, f1, q1, x1, y1, z1⟩ := m
  obtain ⟨i2, f2, q2, x2, y2, z2⟩ := n
  simp only at HA1 HA2 HA3 hl1 hk1
  have HEQ : Hid (R = decide (i1 = i2 ∧ f1 = f2 ∧ q1 = q2 ∧ x1 = x2 ∧ y1 = y2 ∧ z1 = z2)) := Lib.hid (by
    rw [← HRM.out]
    exact decide_eq_decide.2 (by simp only [Msg.mk.injEq]))
  have HQ1 := Lib.hid hM.qs
  have HQ2 := Lib.hid hN.qs
  simp only at HQ1 HQ2
  clear hM hN hR HMI HNI HRM
  obtain ⟨W, hW⟩ : ∃ W, (w.alloc (.cells #[.int .i64 i1, .int .i64 f1, .slice aq q1.length cq, .slice a1 x1.length c1, .slice a2 y1.length c2, .slice a3 z1.length c3] 27)).alloc (.cells #[.int .i64 i2, .int .i64 f2, .slice bq q2.length dq, .slice b1 x2.length d1, .slice b2 y2.length d2, .slice b3 z2.length d3] 27) = W := ⟨_, rfl⟩
  have HB0 : Hid (Below w.heap.size w W) := Lib.hid (by rw [← hW]; exact ((Below.refl _ _).alloc (Nat.le_refl _) _).alloc (by simp) _)
  have HBX : Hid (MBox W w.heap.size (.int .i64 i1) (.int .i64 f1) (.slice aq q1.length cq) (.slice a1 x1.length c1) (.slice a2 y1.length c2) (.slice a3 z1.length c3)) := Lib.hid (by rw [← hW]; exact (MBox.new w _ _ _ _ _ _ _).below ((Below.refl _ _).alloc (Nat.le_refl _) _))
  have HBY : Hid (MBox W (w.heap.size + 1) (.int .i64 i2) (.int .i64 f2) (.slice bq q2.length dq) (.slice b1 x2.length d1) (.slice b2 y2.length d2) (.slice b3 z2.length d3)) := Lib.hid (by
    rw [← hW]
    have := MBox.new (w.alloc (.cells #[.int .i64 i1, .int .i64 f1, .slice aq q1.length cq, .slice a1 x1.length c1, .slice a2 y1.length c2, .slice a3 z1.length c3] 27)) 27 (.int .i64 i2) (.int .i64 f2) (.slice bq q2.length dq) (.slice b1 x2.length d1) (.slice b2 y2.length d2) (.slice b3 z2.length d3)
    rw [show (w.alloc (.cells #[.int .i64 i1, .int .i64 f1, .slice aq q1.length cq, .slice a1 x1.length c1, .slice a2 y1.length c2, .slice a3 z1.length c3] 27)).heap.size = w.heap.size + 1 by simp] at this
    exact this)
  obtain ⟨N, hN⟩ : ∃ N, q1.length = N := ⟨_, rfl⟩
  have HN := Lib.hid hN
  obtain ⟨M, hM⟩ : ∃ M, q2.length = M := ⟨_, rfl⟩
  have HM := Lib.hid hM
  rw [hN] at hl1 HBX hW ⊢
  rw [hM] at hk1 HBY hW ⊢
  generalize x1.length = n1 at *
  generalize y1.length = n2 at *
  generalize z1.length = n3 at *
  generalize x2.length = n4 at *
  generalize y2.length = n5 at *
  generalize z2.length = n6 at *
  have e10 := HBX.out.c0
  have e11 := HBX.out.c1
  have e12 := HBX.out.c2
  have e20 := HBY.out.c0
  have e21 := HBY.out.c1
  have e22 := HBY.out.c2
  clear hN hM
  by_cases hi : i1 = i2
  · have hib : (i1 != i2) = false := by rw [hi]; simp
    have HI := Lib.hid hi
    clear hi
    by_cases hf : f1 = f2
    · have hfb : (f1 != f2) = false := by rw [hf]; simp
      have HF1 := Lib.hid hf
      clear hf
      by_cases hNM : N = M
      · have hnb : ((N : Int) != (M : Int)) = false := by rw [hNM]; simp
        have HNM := Lib.hid hNM
        clear hNM
        go_enter Try.func25, Try.ntmps25
        go_upto_region 1 with fail
        try rw [hW]
        clear hW
        go_wp2_with fail
        clear e10 e11 e12 e20 e21 e22
        go_loopw [5] (fun i wr => ∃ k : Nat, k ≤ N ∧ i = .int .i64 (k : Int) ∧ Hid (∀ j (h : j < q1.length) (h2 : j < q2.length), j < k → q1[j] = q2[j]) ∧ Hid (MBox wr w.heap.size (.int .i64 i1) (.int .i64 f1) (.slice aq N cq) (.slice a1 n1 c1) (.slice a2 n2 c2) (.slice a3 n3 c3)) ∧ Hid (MBox wr (w.heap.size + 1) (.int .i64 i2) (.int .i64 f2) (.slice bq M dq) (.slice b1 n4 d1) (.slice b2 n5 d2) (.slice b3 n6 d3)) ∧ Hid (Below w.heap.size w wr)) (fun i _ => N - (intOf i).toNat)
        case atStart => exact ⟨0, Nat.zero_le _, rfl, Lib.hid (fun j _ _ h => absurd h (by omega)), HBX, HBY, HB0⟩
        case round =>
          clear HBX HBY HB0
          obtain ⟨k, hk, rfl, HO, HX, HY, HB⟩ := hrel
          have e12 := HX.out.c2
          by_cases hkN : k < N
          · have hd : decide ((k : Int) < (N : Int)) = true := decide_eq_true (by omega)
            have hdn : decide (k < N) = true := decide_eq_true hkN
            have hkD : k < q1.length := by rw [HN.out]; exact hkN
            have hkE : k < q2.length := by rw [HM.out, ← HNM.out]; exact hkN
            have HBD := Lib.hid HB.out.drew
            have HXD := Lib.hid (HX.out.below (Below.refl _ _).drew)
            have HYD := Lib.hid (HY.out.below (Below.refl _ _).drew)
            obtain ⟨g, o, ha, hg, hrg⟩ := (HQ1.out.below HBD.out).range k hkD
            obtain ⟨g2, o2, hb, hg2, hrg2⟩ := (HQ2.out.below HBD.out).range k hkE
            subst ha
            subst hb
            have q := fun W => run_neq_qu q1[k] q2[k] W
            have HO2 : Hid (q1[k] = q2[k] → ∀ j (h : j < q1.length) (h2 : j < q2.length), j < k + 1 → q1[j] = q2[j]) := Lib.hid (fun e j h h2 hj => by
              by_cases h3 : j < k
              · exact HO.out j h h2 h3
              · obtain rfl : j = k := by omega
                exact e)
            have HF : Hid (q1[k] ≠ q2[k] → R = false) := Lib.hid (fun e => by
              rw [HEQ.out]
              refine decide_eq_false (fun h => e ?_)
              have := h.2.2.1
              subst this
              rfl)
            have gd := guard_qu
            generalize q1[k] = r at *
            generalize q2[k] = s at *
            have hb1 : (0 : Int) ≤ (k : Int) := by omega
            have hb2 : (k : Int) < (N : Int) := by omega
            have hb3 : (k : Int) < (M : Int) := by have := HNM.out; omega
            obtain ⟨S, hS⟩ : ∃ S : World → Prop, (fun W => W.rangeAt g (o + k * 3) (quL r) ∧ W.rangeAt g2 (o2 + k * 3) (quL s) ∧ W.cell? ⟨w.heap.size, 2, none⟩ = some (.slice (some ⟨g, o, none⟩) N cq) ∧ W.cell? ⟨w.heap.size + 1, 2, none⟩ = some (.slice (some ⟨g2, o2, none⟩) M dq)) = S := ⟨_, rfl⟩
            have C1 : Hid (∀ w', S w' → w'.rangeAt g (o + k * 3) (quL r)) := Lib.hid (fun w' h => by rw [← hS] at h; exact h.1)
            have C2 : Hid (∀ w', S w' → w'.rangeAt g2 (o2 + k * 3) (quL s)) := Lib.hid (fun w' h => by rw [← hS] at h; exact h.2.1)
            have C3 : Hid (∀ w', S w' → w'.cell? ⟨w.heap.size, 2, none⟩ = some (.slice (some ⟨g, o, none⟩) N cq)) := Lib.hid (fun w' h => by rw [← hS] at h; exact h.2.2.1)
            have C4 : Hid (∀ w', S w' → w'.cell? ⟨w.heap.size + 1, 2, none⟩ = some (.slice (some ⟨g2, o2, none⟩) M dq)) := Lib.hid (fun w' h => by rw [← hS] at h; exact h.2.2.2)
            have HSS : Hid (S wr.drew) := Lib.hid (by rw [← hS]; exact ⟨hrg, hrg2, HXD.out.c2, HYD.out.c2⟩)
            clear hS hrg hrg2 hg hg2
            by_cases hrs : r = s
            · have hq : (!decide (r = s)) = false := by rw [decide_eq_true hrs]; rfl
              rw [hq] at q
              have HO3 := Lib.hid (HO2.out hrs)
              clear HO2 HF HO hrs hq
              go_upto_region 6 with fail
              refine wp_region_noPanic ?_
              refine wp_region_held_drew (S := S) (by kernel_rfl) HSS.out (fun hHeld => ?_)
              refine wpAnyH_take (i := 0) (v := ?_) rfl (by kernel_rfl) (by kernel_rfl) (by kernel_rfl) (fun _ _ _ h => h) (Or.inl ⟨by rfl, ?_⟩) (by assumption) ?_
              rotate_left
              · (intro w hSw; go_simp; try (with_reducible rfl))
              try simp only [Act.put, List.getElem_toArray, List.getElem_cons_zero, List.setIfInBounds_toArray, List.set_cons_zero, List.set_cons_succ]
              refine wpAnyH_take (i := 1) (v := ?_) rfl (by kernel_rfl) (by kernel_rfl) (by kernel_rfl) (fun _ _ _ h => h) (Or.inl ⟨by rfl, ?_⟩) (by assumption) ?_
              rotate_left
              · (intro w hSw; have hc0 := C3.out w hSw; go_simp; try (with_reducible rfl))
              try simp only [Act.put, List.getElem_toArray, List.getElem_cons_zero, List.getElem_cons_succ, List.setIfInBounds_toArray, List.set_cons_zero, List.set_cons_succ]
              refine wpAnyH_take (i := 2) (v := ?_) rfl (by kernel_rfl) (by kernel_rfl) (by kernel_rfl) (fun _ _ _ h => h) (Or.inl ⟨by rfl, ?_⟩) (by assumption) ?_
              rotate_left
              · (intro w hSw; go_simp; try (with_reducible rfl))
              try simp only [Act.put, List.getElem_toArray, List.getElem_cons_zero, List.getElem_cons_succ, List.setIfInBounds_toArray, List.set_cons_zero, List.set_cons_succ]
              refine wpAnyH_take (i := 3) (v := ?_) rfl (by kernel_rfl) (by kernel_rfl) (by kernel_rfl) (fun _ _ _ h => h) (Or.inl ⟨by rfl, ?_⟩) (by assumption) ?_
              rotate_left
              · (intro w hSw; go_simp; try (with_reducible rfl))
              try simp only [Act.put, List.getElem_toArray, List.getElem_cons_zero, List.getElem_cons_succ, List.setIfInBounds_toArray, List.set_cons_zero, List.set_cons_succ]
              refine wpAnyH_take (i := 4) rfl (by kernel_rfl) (by kernel_rfl) (by kernel_rfl) (fun _ _ _ h => h) (yields_qu C1 (by rfl) _ rfl rfl) (by assumption) ?_
              try simp only [Act.put, List.getElem_toArray, List.getElem_cons_zero, List.getElem_cons_succ, List.setIfInBounds_toArray, List.set_cons_zero, List.set_cons_succ]
              refine wpAnyH_take (i := 5) (v := ?_) rfl (by kernel_rfl) (by kernel_rfl) (by kernel_rfl) (fun _ _ _ h => h) (Or.inl ⟨by rfl, ?_⟩) (by assumption) ?_
              rotate_left
              · (intro w hSw; go_simp; try (with_reducible rfl))
              try simp only [Act.put, List.getElem_toArray, List.getElem_cons_zero, List.getElem_cons_succ, List.setIfInBounds_toArray, List.set_cons_zero, List.set_cons_succ]
              refine wpAnyH_take (i := 6) (v := ?_) rfl (by kernel_rfl) (by kernel_rfl) (by kernel_rfl) (fun _ _ _ h => h) (Or.inl ⟨by rfl, ?_⟩) (by assumption) ?_
              rotate_left
              · (intro w hSw; have hc0 := C4.out w hSw; go_simp; try (with_reducible rfl))
              try simp only [Act.put, List.getElem_toArray, List.getElem_cons_zero, List.getElem_cons_succ, List.setIfInBounds_toArray, List.set_cons_zero, List.set_cons_succ]
              refine wpAnyH_take (i := 7) (v := ?_) rfl (by kernel_rfl) (by kernel_rfl) (by kernel_rfl) (fun _ _ _ h => h) (Or.inl ⟨by rfl, ?_⟩) (by assumption) ?_
              rotate_left
              · (intro w hSw; go_simp; try (with_reducible rfl))
              try simp only [Act.put, List.getElem_toArray, List.getElem_cons_zero, List.getElem_cons_succ, List.setIfInBounds_toArray, List.set_cons_zero, List.set_cons_succ]
              refine wpAnyH_take (i := 8) (v := ?_) rfl (by kernel_rfl) (by kernel_rfl) (by kernel_rfl) (fun _ _ _ h => h) (Or.inl ⟨by rfl, ?_⟩) (by assumption) ?_
              rotate_left
              · (intro w hSw; go_simp; try (with_reducible rfl))
              try simp only [Act.put, List.getElem_toArray, List.getElem_cons_zero, List.getElem_cons_succ, List.setIfInBounds_toArray, List.set_cons_zero, List.set_cons_succ]
              refine wpAnyH_take (i := 9) rfl (by kernel_rfl) (by kernel_rfl) (by kernel_rfl) (fun _ _ _ h => h) (yields_qu C2 (by rfl) _ rfl rfl) (by assumption) ?_
              try simp only [Act.put, List.getElem_toArray, List.getElem_cons_zero, List.getElem_cons_succ, List.setIfInBounds_toArray, List.set_cons_zero, List.set_cons_succ]
              refine wpAnyH_take (i := 10) (v := ?_) rfl (by kernel_rfl) (by kernel_rfl) (by kernel_rfl) (fun _ _ _ h => h) (Or.inl ⟨by rfl, ?_⟩) (by assumption) ?_
              rotate_left
              · (intro w hSw; go_simp; try (with_reducible rfl))
              try simp only [Act.put, List.getElem_toArray, List.getElem_cons_zero, List.getElem_cons_succ, List.setIfInBounds_toArray, List.set_cons_zero, List.set_cons_succ]
              refine wpAnyH_done (by kernel_rfl) ?_ _
              refine NoPanic.normal ?_
              clear q gd C1 C2 C3 C4 HSS hHeld e12
              go_wp2_with fail
              go_roundw
              case rel => exact ⟨k + 1, by omega, by go_num, HO3, HXD, HYD, HBD⟩
              case measure => simp [intOf]; omega
            · have hq : (!decide (r = s)) = true := by rw [decide_eq_false hrs]; rfl
              rw [hq] at q
              have ER := HF.out hrs
              subst ER
              clear HO2 HF HO hrs hq
              go_upto_region 6 with fail
              refine wp_region_noPanic ?_
              refine wp_region_held_drew (S := S) (by kernel_rfl) HSS.out (fun hHeld => ?_)
              refine wpAnyH_take (i := 0) (v := ?_) rfl (by kernel_rfl) (by kernel_rfl) (by kernel_rfl) (fun _ _ _ h => h) (Or.inl ⟨by rfl, ?_⟩) (by assumption) ?_
              rotate_left
              · (intro w hSw; go_simp; try (with_reducible rfl))
              try simp only [Act.put, List.getElem_toArray, List.getElem_cons_zero, List.setIfInBounds_toArray, List.set_cons_zero, List.set_cons_succ]
              refine wpAnyH_take (i := 1) (v := ?_) rfl (by kernel_rfl) (by kernel_rfl) (by kernel_rfl) (fun _ _ _ h => h) (Or.inl ⟨by rfl, ?_⟩) (by assumption) ?_
              rotate_left
              · (intro w hSw; have hc0 := C3.out w hSw; go_simp; try (with_reducible rfl))
              try simp only [Act.put, List.getElem_toArray, List.getElem_cons_zero, List.getElem_cons_succ, List.setIfInBounds_toArray, List.set_cons_zero, List.set_cons_succ]
              refine wpAnyH_take (i := 2) (v := ?_) rfl (by kernel_rfl) (by kernel_rfl) (by kernel_rfl) (fun _ _ _ h => h) (Or.inl ⟨by rfl, ?_⟩) (by assumption) ?_
              rotate_left
              · (intro w hSw; go_simp; try (with_reducible rfl))
              try simp only [Act.put, List.getElem_toArray, List.getElem_cons_zero, List.getElem_cons_succ, List.setIfInBounds_toArray, List.set_cons_zero, List.set_cons_succ]
              refine wpAnyH_take (i := 3) (v := ?_) rfl (by kernel_rfl) (by kernel_rfl) (by kernel_rfl) (fun _ _ _ h => h) (Or.inl ⟨by rfl, ?_⟩) (by assumption) ?_
              rotate_left
              · (intro w hSw; go_simp; try (with_reducible rfl))
              try simp only [Act.put, List.getElem_toArray, List.getElem_cons_zero, List.getElem_cons_succ, List.setIfInBounds_toArray, List.set_cons_zero, List.set_cons_succ]
              refine wpAnyH_take (i := 4) rfl (by kernel_rfl) (by kernel_rfl) (by kernel_rfl) (fun _ _ _ h => h) (yields_qu C1 (by rfl) _ rfl rfl) (by assumption) ?_
              try simp only [Act.put, List.getElem_toArray, List.getElem_cons_zero, List.getElem_cons_succ, List.setIfInBounds_toArray, List.set_cons_zero, List.set_cons_succ]
              refine wpAnyH_take (i := 5) (v := ?_) rfl (by kernel_rfl) (by kernel_rfl) (by kernel_rfl) (fun _ _ _ h => h) (Or.inl ⟨by rfl, ?_⟩) (by assumption) ?_
              rotate_left
              · (intro w hSw; go_simp; try (with_reducible rfl))
              try simp only [Act.put, List.getElem_toArray, List.getElem_cons_zero, List.getElem_cons_succ, List.setIfInBounds_toArray, List.set_cons_zero, List.set_cons_succ]
              refine wpAnyH_take (i := 6) (v := ?_) rfl (by kernel_rfl) (by kernel_rfl) (by kernel_rfl) (fun _ _ _ h => h) (Or.inl ⟨by rfl, ?_⟩) (by assumption) ?_
              rotate_left
              · (intro w hSw; have hc0 := C4.out w hSw; go_simp; try (with_reducible rfl))
              try simp only [Act.put, List.getElem_toArray, List.getElem_cons_zero, List.getElem_cons_succ, List.setIfInBounds_toArray, List.set_cons_zero, List.set_cons_succ]
              refine wpAnyH_take (i := 7) (v := ?_) rfl (by kernel_rfl) (by kernel_rfl) (by kernel_rfl) (fun _ _ _ h => h) (Or.inl ⟨by rfl, ?_⟩) (by assumption) ?_
              rotate_left
              · (intro w hSw; go_simp; try (with_reducible rfl))
              try simp only [Act.put, List.getElem_toArray, List.getElem_cons_zero, List.getElem_cons_succ, List.setIfInBounds_toArray, List.set_cons_zero, List.set_cons_succ]
              refine wpAnyH_take (i := 8) (v := ?_) rfl (by kernel_rfl) (by kernel_rfl) (by kernel_rfl) (fun _ _ _ h => h) (Or.inl ⟨by rfl, ?_⟩) (by assumption) ?_
              rotate_left
              · (intro w hSw; go_simp; try (with_reducible rfl))
              try simp only [Act.put, List.getElem_toArray, List.getElem_cons_zero, List.getElem_cons_succ, List.setIfInBounds_toArray, List.set_cons_zero, List.set_cons_succ]
              refine wpAnyH_take (i := 9) rfl (by kernel_rfl) (by kernel_rfl) (by kernel_rfl) (fun _ _ _ h => h) (yields_qu C2 (by rfl) _ rfl rfl) (by assumption) ?_
              try simp only [Act.put, List.getElem_toArray, List.getElem_cons_zero, List.getElem_cons_succ, List.setIfInBounds_toArray, List.set_cons_zero, List.set_cons_succ]
              refine wpAnyH_take (i := 10) (v := ?_) rfl (by kernel_rfl) (by kernel_rfl) (by kernel_rfl) (fun _ _ _ h => h) (Or.inl ⟨by rfl, ?_⟩) (by assumption) ?_
              rotate_left
              · (intro w hSw; go_simp; try (with_reducible rfl))
              try simp only [Act.put, List.getElem_toArray, List.getElem_cons_zero, List.getElem_cons_succ, List.setIfInBounds_toArray, List.set_cons_zero, List.set_cons_succ]
              refine wpAnyH_done (by kernel_rfl) ?_ _
              refine NoPanic.normal ?_
              clear q gd C1 C2 C3 C4 HSS hHeld e12
              go_wp2_with fail
              go_ret
              exact ⟨rfl, HBD.out⟩
          · obtain rfl : k = N := by omega
            have hd : decide ((k : Int) < (k : Int)) = false := by simp
            have HQE : Hid (q1 = q2) := Lib.hid (List.ext_getElem (by rw [HN.out, HM.out]; exact HNM.out) (fun j h1 h2 => HO.out j h1 h2 (by rw [← HN.out]; exact h1)))
            have ER : R = (decide (x1 = x2) && decide (y1 = y2) && decide (z1 = z2)) := by
              rw [HEQ.out, Bool.eq_iff_iff]
              simp only [Bool.and_eq_true, decide_eq_true_iff]
              exact ⟨fun h => ⟨⟨h.2.2.2.1, h.2.2.2.2.1⟩, h.2.2.2.2.2⟩, fun h => ⟨HI.out, HF1.out, HQE.out, h.1.1, h.1.2, h.2⟩⟩
            generalize decide (x1 = x2) = r1 at *
            generalize decide (y1 = y2) = r2 at *
            generalize decide (z1 = z2) = r3 at *
            subst ER
            have e13 := HX.out.c3
            have e23 := HY.out.c3
            clear HO HEQ HQE
            go_wp2_with fail
            refine (HA1 _ HB.out).out.mono ?_
            rintro e w2 ⟨rfl, hbx⟩
            replace HB := Lib.hid (chain HB.out hbx)
            replace HX := Lib.hid (HX.out.below hbx)
            replace HY := Lib.hid (HY.out.below hbx)
            clear hbx HA1 e12 e13 e23
            cases r1 with
            | false =>
              go_wp2_with fail
              go_ret
              exact ⟨rfl, HB.out⟩
            | true =>
              have e14 := HX.out.c4
              have e24 := HY.out.c4
              go_wp2_with fail
              refine (HA2 _ HB.out).out.mono ?_
              rintro e w3 ⟨rfl, hbx⟩
              replace HB := Lib.hid (chain HB.out hbx)
              replace HX := Lib.hid (HX.out.below hbx)
              replace HY := Lib.hid (HY.out.below hbx)
              clear hbx HA2 e14 e24
              cases r2 with
              | false =>
                go_wp2_with fail
                go_ret
                exact ⟨rfl, HB.out⟩
              | true =>
                have e15 := HX.out.c5
                have e25 := HY.out.c5
                go_wp2_with fail
                refine (HA3 _ HB.out).out.mono ?_
                rintro e w4 ⟨rfl, hbx⟩
                replace HB := Lib.hid (chain HB.out hbx)
                clear hbx HA3 e15 e25
                go_wp2_with fail
                go_ret
                exact ⟨rfl, HB.out⟩
      · have hnb : ((N : Int) != (M : Int)) = true := by rw [bne_iff_ne]; omega
        have ER : R = false := by
          rw [HEQ.out]
          refine decide_eq_false (fun h => hNM ?_)
          rw [← HN.out, ← HM.out, h.2.2.1]
        subst ER
        go_enter Try.func25, Try.ntmps25
        go_upto_region 1 with fail
        try rw [hW]
        clear hW
        go_wp2_with fail
        go_ret
        exact ⟨rfl, HB0.out⟩
    · have hfb : (f1 != f2) = true := by rw [bne_iff_ne]; exact hf
      have ER : R = false := by rw [HEQ.out]; exact decide_eq_false (fun h => hf h.2.1)
      subst ER
      go_enter Try.func25, Try.ntmps25
      go_upto_region 1 with fail
      try rw [hW]
      clear hW
      go_wp2_with fail
      go_ret
      exact ⟨rfl, HB0.out⟩
  · have hib : (i1 != i2) = true := by rw [bne_iff_ne]; exact hi
    have ER : R = false := by rw [HEQ.out]; exact decide_eq_false (fun h => hi h.1)
    subst ER
    go_enter Try.func25, Try.ntmps25
    go_upto_region 1 with fail
    try rw [hW]
    clear hW
    go_wp2_with fail
    go_ret
    exact ⟨rfl, HB0.out⟩
end Go.Proofs.Ytmecdhlehekdeaa
/- Contracts of slices.Equal at records and at questions. -/
namespace Go.Proofs.Ytmecdhlehekdeaa
open Go.RowKit
set_option linter.unusedVariables false
set_option maxRecDepth 20000

end Go.Proofs.Ytmecdhlehekdeaa
/- Contract of the landed wire's Same. -/
namespace Go.Proofs.Ytmecdhlehekdeaa
open Go.RowKit
set_option linter.unusedVariables false
set_option maxRecDepth 20000

end Go.Proofs.Ytmecdhlehekdeaa
/- Contracts of the landed wire's Ask, Clone and Answer. -/
namespace Go.Proofs.Ytmecdhlehekdeaa
open Go.RowKit
set_option linter.unusedVariables false
set_option maxRecDepth 20000

/-- A message that asks. -/
def askM (id : Int) (s : ByteArray) (k : Int) : Msg := ⟨id, 256, [⟨s, k, 1⟩], [], [], []⟩
set_option maxRecDepth 100000 in
set_option maxHeartbeats 2000000 in
theorem cloneR_any (a : Option Addr) (c : Nat) (D : List Rec) (w : World) (hD : RecsAt w a c D) (hl : D.length ≤ 100000) :
    Calls Try.prog 37 #[.slice a D.length c] w fun e w' => ∃ v', e = .returned v' ∧ RowR w' w.heap.size v' D ∧ Below w.heap.size w w' := by
  have q : ∀ (w : World) (a : Option Addr) (n c n' c' : Nat), (binOp .eql 25 (.slice a n c) (.slice none n' c')).run Try.prog w = .ok (.bool a.isNone) w := fun w a n c n' c' => Lib.run_eql_slice_nil w _ _ a n c n' c' Try.underlying25
  rcases hD.row with ⟨rfl, rfl⟩ | ⟨y, rfl, hr⟩
  · clear hD
    go_enter Try.func37, Try.ntmps37
    go_wp2_with fail
    go_ret
    exact ⟨_, rfl, RowR.nil _ _, Below.refl _ _⟩
  · have HR := Lib.hid hr
    have HL : Hid (([] : List Rec).length + D.length ≤ 100000) := Lib.hid (by simpa using hl)
    have HLT : Hid (∀ j u, (flatR D)[j]? = some u → (y.add j).block < w.heap.size) := Lib.hid (fun j u hu => World.block_lt_of_cell? w _ (hr j u hu))
    have H16 : Hid (All16 D) := Lib.hid (fun r hr => (hD.2.2.1 r hr).1)
    obtain ⟨N, hN⟩ : ∃ N, D.length = N := ⟨_, rfl⟩
    have HN : Hid (N = D.length) := Lib.hid hN.symm
    rw [hN]
    clear hr hl hD hN
    go_enter Try.func37, Try.ntmps37
    go_wp2_with (first
      | (refine build_step0R rfl rfl (fun W HW => ?_); have HE : Hid (RowR W w.heap.size (.slice (some ⟨w.heap.size, 0, none⟩) 0 0) []) := Lib.hid (by rw [HW.out]; exact ⟨own_emptyR w, fun r hr => by cases hr⟩); have HB : Hid (Below w.heap.size w W) := Lib.hid (by rw [HW.out]; exact (Below.refl _ _).alloc (Nat.le_refl _) _); have HX : Hid (∀ j u, (flatR D)[j]? = some u → W.cell? (y.add j) = some u) := Lib.hid (fun j u hu => (HB.out.cell (HLT.out j u hu)).trans (HR.out j u hu)); have HB2 : Hid (w.heap.size ≤ W.heap.size) := Lib.hid HB.out.size)
      | (have HE2 := HE; refine append_recsA HE2 _ _ rfl rfl rfl D rfl HN HX H16 HL HB2 (fun v' w' HO HG HF => ?_); clear HE))
    go_ret
    refine ⟨_, rfl, ?_, HB.out.grown HG.out HB.out.size (fun k hk => by cases hk; exact Nat.le_refl _)⟩
    have := HO.out
    rwa [List.nil_append] at this
/-- A message that answers. -/
def ansM (q : Msg) (D : List Rec) : Msg := ⟨q.id, 33152, q.qs, D, [], []⟩
/-- What Answer tells. -/
def AnsRet (w : World) (q : Msg) (D : List Rec) (e : Ending) (w' : World) : Prop :=
  Below w.heap.size w w' ∧ ∃ aq a1 cq c1, e = .returned (msgV (ansM q D) aq a1 none none cq c1 0 0) ∧ MsgIn w' (ansM q D) aq a1 none none cq c1 0 0
theorem RowQ.msg {w : World} {q : Msg} {D : List Rec} {b1 b2 : Nat} {v1 v2 : Value} (hq : RowQ w b1 v1 q.qs) (hr : RowR w b2 v2 D) (hfq : ∀ x ∈ q.qs, FitQ x) (hfr : ∀ x ∈ D, Fit x) : ∃ aq a1 cq c1, Value.agg #[.int .i64 q.id, .int .i64 33152, v1, v2, .slice none 0 0, .slice none 0 0] = msgV (ansM q D) aq a1 none none cq c1 0 0 ∧ MsgIn w (ansM q D) aq a1 none none cq c1 0 0 := by
  obtain ⟨aq, cq, rfl, h1⟩ := hq.qus hfq
  obtain ⟨a1, c1, rfl, h2⟩ := hr.recs hfr
  exact ⟨aq, a1, cq, c1, rfl, h1, h2, RecsAt.none0 _, RecsAt.none0 _⟩
end Go.Proofs.Ytmecdhlehekdeaa
/- The reference's layer 11: Forge; the law's as. -/
namespace Go.Proofs.Ytmecdhlehekdeaa
open Go.RowKit
set_option linter.unusedVariables false
set_option maxRecDepth 20000
set_option linter.unusedSimpArgs false

def forgeM (q : Qry) (D : List Rec) : Msg := ⟨q.id, 33152, [⟨q.nm, q.ty, 1⟩], D, [], []⟩
theorem ownQ_new (W : World) (q : Qu) : RowQ (W.alloc (.cells (quL q).toArray 35)) W.heap.size (.slice (some ⟨W.heap.size, 0, none⟩) 1 1) [q] :=
  ⟨rfl, .inr ⟨W.heap.size, 1, (quL q).toArray, rfl, Nat.le_refl _, by show (W.heap.push _)[W.heap.size]? = _; simp, Nat.le_refl _, by decide, rfl, by simp [flatQ, quL]⟩⟩
theorem RowQ.cells {w w' : World} {B : Nat} {v : Value} {D : List Qu} (h : RowQ w B v D) {G : Nat} (hG : G < B) (hk : ∀ k, k ≠ G → w'.heap[k]? = w.heap[k]?) : RowQ w' B v D := by
  obtain ⟨h1, h2⟩ := h
  refine ⟨h1, ?_⟩
  rcases h2 with h2 | ⟨g, cap, cur, e1, e2, e3, e4⟩
  · exact .inl h2
  · exact .inr ⟨g, cap, cur, e1, e2, (hk g (by omega)).trans e3, e4⟩
set_option maxRecDepth 100000 in
set_option maxHeartbeats 2000000 in
theorem refForge11_any (q : Qry) (a : Option Addr) (c : Nat) (D : List Rec) (w : World) (hA : RecsAt w a c D) :
    Calls Try.prog 13 #[qryV q, .slice a D.length c] w fun e w' => ∃ g, e = .returned (msgV (forgeM q D) (some ⟨g, 0, none⟩) a none none 1 c 0 0) ∧ w.heap.size ≤ g ∧ RowQ w' g (.slice (some ⟨g, 0, none⟩) 1 1) [⟨q.nm, q.ty, 1⟩] ∧ RecsAt w' a c D ∧ Below w.heap.size w w' := by
  obtain ⟨id, nm, ty, sv⟩ := q
  unfold qryV
  simp only
  have HA := Lib.hid hA
  obtain ⟨N, hN⟩ : ∃ N, D.length = N := ⟨_, rfl⟩
  have HN := Lib.hid hN
  have HMV : Hid (∀ g, msgV (forgeM ⟨id, nm, ty, sv⟩ D) (some ⟨g, 0, none⟩) a none none 1 c 0 0 = .agg #[.int .i64 id, .int .i64 33152, .slice (some ⟨g, 0, none⟩) 1 1, .slice a N c, .slice none 0 0, .slice none 0 0]) := Lib.hid (fun g => by unfold msgV forgeM; simp only; rw [hN]; rfl)
  rw [hN]
  obtain ⟨W0, hW0⟩ : ∃ W0, (w.alloc (.cells #[.int .i64 id, .string nm, .int .i64 ty, .int .i64 sv] 30)).alloc (.cells #[.int .i64 0, .int .i64 0, .slice none 0 0, .slice none 0 0, .slice none 0 0, .slice none 0 0] 27) = W0 := ⟨_, rfl⟩
  have HZ : Hid (CellsAt W0 (w.heap.size + 1) zM) := Lib.hid (by
    have := CellsAt.new (w.alloc (.cells #[.int .i64 id, .string nm, .int .i64 ty, .int .i64 sv] 30)) 27 zM
    rw [← hW0]; simpa using this)
  have HQ : Hid (CellsAt W0 w.heap.size [.int .i64 id, .string nm, .int .i64 ty, .int .i64 sv]) := Lib.hid (by
    have := (CellsAt.new w 30 [.int .i64 id, .string nm, .int .i64 ty, .int .i64 sv]).below ((Below.refl _ _).alloc (Nat.le_refl _) (.cells #[.int .i64 0, .int .i64 0, .slice none 0 0, .slice none 0 0, .slice none 0 0, .slice none 0 0] 27))
    rw [← hW0]; exact this)
  have HB0 : Hid (Below w.heap.size w W0) := Lib.hid (by rw [← hW0]; exact ((Below.refl _ _).alloc (Nat.le_refl _) _).alloc (by simp) _)
  have HS0 : Hid (W0.heap.size = w.heap.size + 2) := Lib.hid (by rw [← hW0]; simp)
  clear hA hN
  go_enter Try.func13, Try.ntmps13
  go_upto_region 1 with fail
  try rw [hW0]
  clear hW0
  obtain ⟨G, hG⟩ : ∃ G, w.heap.size = G := ⟨_, rfl⟩
  have HG := Lib.hid hG
  rw [hG] at HZ HQ
  try rw [hG]
  clear hG
  have hc0 := HQ.out.cell 0 _ rfl
  have hc1 := HQ.out.cell 1 _ rfl
  have hc2 := HQ.out.cell 2 _ rfl
  go_wp2_with (first | refine build_qu3 rfl _ _ _ rfl rfl rfl rfl ?_ | (refine build_quS rfl _ rfl rfl (fun W HW => ?_); have HZ1 : Hid (CellsAt W (G + 1) zM) := Lib.hid (by rw [HW.out]; exact HZ.out.below ((Below.refl _ _).alloc (Nat.le_refl _) _))) | (have HZ2 := HZ1; refine store_msg HZ2 rfl _ _ rfl rfl rfl rfl rfl rfl (fun V HV HVC => ?_); clear HZ1))
  have hs := HS0.out
  have hg := HG.out
  have hb1 : Below W0.heap.size W0 W := by rw [HW.out]; exact (Below.refl _ _).alloc (Nat.le_refl _) _
  have HB1 : Hid (Below w.heap.size w V) := Lib.hid (by rw [HV.out]; exact below_cells (by omega) _ _ _ (chain HB0.out hb1))
  refine bodyPost_ret (v := msgV (forgeM ⟨id, nm, ty, sv⟩ D) (some ⟨W0.heap.size, 0, none⟩) a none none 1 c 0 0) (by rw [HMV.out]; exact results_msg Try.results13 rfl HVC.out rfl) rfl ⟨_, rfl, by omega, ?_, HA.out.below HB1.out, HB1.out⟩
  refine RowQ.cells (w := W) (by rw [HW.out]; exact ownQ_new W0 ⟨nm, ty, 1⟩) (G := G + 1) (by omega) (fun k hk => ?_)
  rw [HV.out]
  exact heap_setCells_other _ _ _ _ _ hk
set_option maxRecDepth 100000 in
theorem as11_any (q : Qry) (w : World) : Calls Try.prog 12 #[qryV q] w fun e w' => e = .returned (qryV q) ∧ Below w.heap.size w w' := by
  obtain ⟨id, nm, ty, sv⟩ := q
  unfold qryV
  simp only
  go_enter Try.func12, Try.ntmps12
  go_wp2_with fail
  refine bodyPost_ret (results_of (w := _) Try.results12 rfl (by
    have := CellsAt.new (w.alloc (.cells #[.int .i64 id, .string nm, .int .i64 ty, .int .i64 sv] 23)) 30 [.int .i64 id, .string nm, .int .i64 ty, .int .i64 sv]
    rwa [World.size_alloc] at this) Try.underlying30 rfl (by kernel_rfl)) rfl ⟨rfl, ((Below.refl _ _).alloc (Nat.le_refl _) _).alloc (by simp) _⟩
end Go.Proofs.Ytmecdhlehekdeaa
/- The reference's layer 11: Tell. -/
namespace Go.Proofs.Ytmecdhlehekdeaa
open Go.RowKit
set_option linter.unusedVariables false
set_option maxRecDepth 20000
set_option linter.unusedSimpArgs false

/-- What is told, as a value. -/
def tldL (x : Tld) (v : Value) : List Value := [.int .i64 x.e, v, .int .i64 x.ttl, .string x.nx, .int .i64 (x.st : Int)]
def TellRet (w : World) (x : Tld) (e : Ending) (w' : World) : Prop :=
  ∃ v, e = .returned (.agg (tldL x v).toArray) ∧ RowA w' w.heap.size v x.ad ∧ Below w.heap.size w w'
theorem RowA.cells {w w' : World} {B : Nat} {v : Value} {D : List Ad} (h : RowA w B v D) {G : Nat} (hG : G < B) (hk : ∀ k, k ≠ G → w'.heap[k]? = w.heap[k]?) : RowA w' B v D := h.kept2 (fun g hg => hk g (by have := (h.lt g hg).1; omega))
theorem meas_lt {N j : Nat} {x : Int} (hj : j < N) (h : x < 0 ∨ (j : Int) + 1 ≤ x) : (if x < 0 then 0 else N - x.toNat) < (if (j : Int) < 0 then 0 else N - ((j : Int)).toNat) := by
  rw [if_neg (show ¬ (j : Int) < 0 by omega)]
  by_cases hx : x < 0
  · rw [if_pos hx]; omega
  · rw [if_neg hx]; omega
abbrev zT : List Value := [.int .i64 0, .slice none 0 0, .int .i64 0, .string ⟨#[]⟩, .int .i64 0]
set_option maxRecDepth 100000 in
set_option maxHeartbeats 4000000 in
theorem refTell11_any (q : Qry) (m : Msg) (aq a1 a2 a3 : Option Addr) (cq c1 c2 c3 : Nat) (w : World) (hM : RecsAt w a1 c1 m.an) (hD : All2 m.an) (hn : q.nm.size ≤ 2000000) (hl : m.an.length ≤ 900) :
    Calls Try.prog 19 #[qryV q, msgV m aq a1 a2 a3 cq c1 c2 c3] w (TellRet w (tellP m.fl q.nm q.ty m.an)) := by
  have HM := Lib.hid hM
  have HD := Lib.hid hD
  have HQN := Lib.hid hn
  have HLN := Lib.hid hl
  have HBI := fun W => Lib.hid (refBits11_any m.fl 0 4 W (by decide) (by decide))
  have HTP : Hid (tellP m.fl q.nm q.ty m.an = if bitS m.fl 0 4 = 3 then errT 8 else if bitS m.fl 0 4 ≠ 0 then errT 7 else
    if (chainP m.an 8 q.nm 604800).2.2 = true then endT (chainP m.an 8 q.nm 604800).1 (tellAll ((chainP m.an 8 q.nm 604800).2.1, []) (m.an.filter (isRec (lastB (chainP m.an 8 q.nm 604800).1) q.ty))) else errT 3) := Lib.hid rfl
  obtain ⟨X, hX⟩ : ∃ X, tellP m.fl q.nm q.ty m.an = X := ⟨_, rfl⟩
  rw [hX] at HTP ⊢
  obtain ⟨b4, hb4⟩ : ∃ b, bitS m.fl 0 4 = b := ⟨_, rfl⟩
  rw [hb4] at HTP
  simp only [hb4] at HBI
  have HCH := fun W (h : Below w.heap.size w W) => Lib.hid (refChain11_any a1 c1 m.an q.nm 8 W (hM.below h) hD hn (by decide))
  simp only [show ((8 : Int)).toNat = 8 from rfl] at HCH
  obtain ⟨CH, hCH⟩ : ∃ CH, chainP m.an 8 q.nm 604800 = CH := ⟨_, rfl⟩
  have HPOS : Hid (∃ l, CH.1 = q.nm :: l ∧ l.length ≤ 8) := Lib.hid (by rw [← hCH]; exact chain_pos _ _ _ _)
  have HSM : Hid (∀ p ∈ CH.1, p.size ≤ 2000000) := Lib.hid (by rw [← hCH]; exact chain_small hD 8 hn _)
  rw [hCH] at HTP
  simp only [hCH] at HCH
  clear hX hb4 hM hD hn hl hCH
  obtain ⟨qid, qnm, qty, qsv⟩ := q
  unfold qryV msgV
  simp only at HTP HCH HQN HPOS ⊢
  obtain ⟨W0, hW0⟩ : ∃ W0, ((w.alloc (.cells #[.int .i64 qid, .string qnm, .int .i64 qty, .int .i64 qsv] 30)).alloc (.cells #[.int .i64 m.id, .int .i64 m.fl, .slice aq m.qs.length cq, .slice a1 m.an.length c1, .slice a2 m.au.length c2, .slice a3 m.mo.length c3] 27)).alloc (.cells #[.int .i64 0, .slice none 0 0, .int .i64 0, .string ⟨#[]⟩, .int .i64 0] 45) = W0 := ⟨_, rfl⟩
  have HB0 : Hid (Below w.heap.size w W0) := Lib.hid (by rw [← hW0]; exact (((Below.refl _ _).alloc (Nat.le_refl _) _).alloc (by simp) _).alloc (by simp; omega) _)
  have HS0 : Hid (W0.heap.size = w.heap.size + 3) := Lib.hid (by rw [← hW0]; simp)
  have HQ : Hid (CellsAt W0 w.heap.size [.int .i64 qid, .string qnm, .int .i64 qty, .int .i64 qsv]) := Lib.hid (by
    rw [← hW0]; exact (CellsAt.new w 30 [.int .i64 qid, .string qnm, .int .i64 qty, .int .i64 qsv]).below (((Below.refl _ _).alloc (Nat.le_refl _) _).alloc (by simp) _))
  have HX : Hid (CellsAt W0 (w.heap.size + 1) [.int .i64 m.id, .int .i64 m.fl, .slice aq m.qs.length cq, .slice a1 m.an.length c1, .slice a2 m.au.length c2, .slice a3 m.mo.length c3]) := Lib.hid (by
    have := (CellsAt.new (w.alloc (.cells #[.int .i64 qid, .string qnm, .int .i64 qty, .int .i64 qsv] 30)) 27 [.int .i64 m.id, .int .i64 m.fl, .slice aq m.qs.length cq, .slice a1 m.an.length c1, .slice a2 m.au.length c2, .slice a3 m.mo.length c3]).below ((Below.refl _ _).alloc (Nat.le_refl _) (.cells #[.int .i64 0, .slice none 0 0, .int .i64 0, .string ⟨#[]⟩, .int .i64 0] 45))
    rw [← hW0]; simpa using this)
  have HZ : Hid (CellsAt W0 (w.heap.size + 2) zT) := Lib.hid (by
    have := CellsAt.new ((w.alloc (.cells #[.int .i64 qid, .string qnm, .int .i64 qty, .int .i64 qsv] 30)).alloc (.cells #[.int .i64 m.id, .int .i64 m.fl, .slice aq m.qs.length cq, .slice a1 m.an.length c1, .slice a2 m.au.length c2, .slice a3 m.mo.length c3] 27)) 45 zT
    rw [← hW0]; simpa using this)
  have HMM := Lib.hid HM.out.2.2.1
  obtain ⟨N, hN⟩ : ∃ N, m.an.length = N := ⟨_, rfl⟩
  have HN := Lib.hid hN
  rw [hN] at HX hW0 HLN ⊢
  simp only [hN] at HCH
  generalize m.qs.length = n1 at *
  generalize m.au.length = n2 at *
  generalize m.mo.length = n3 at *
  generalize m.id = mid at *
  generalize m.fl = mfl at *
  generalize m.an = D at *
  clear hN
  have FIN : Hid (∀ (tm : Array Value) (V U : World) (v : Value) (y : Tld), y = X → tm.getD 4 undef = .pointer (some ⟨w.heap.size + 2, 0, none⟩) → Below w.heap.size w V → RowA V W0.heap.size v y.ad → U = V.setCells (w.heap.size + 2) 0 (tldL y v) → CellsAt U (w.heap.size + 2) (tldL y v) → bodyPost Try.prog Try.f19 (TellRet w X) .ret { tmps := tm, defers := [] } U) := Lib.hid (fun tm V U v y hy ht hb hr hU hc => by
    have hs := HS0.out
    subst hy
    refine bodyPost_ret (v := .agg (tldL y v).toArray) (results_of Try.results19 ht hc Try.underlying45 rfl (by kernel_rfl)) rfl ⟨v, rfl, ?_, ?_⟩
    · refine (hr.cells (G := w.heap.size + 2) (by omega) (fun k hk => ?_)).mono (by omega)
      rw [hU]; exact heap_setCells_other _ _ _ _ _ hk
    · rw [hU]; exact below_cells (by omega) _ _ _ hb)
  go_enter Try.func19, Try.ntmps19
  go_upto_region 1 with fail
  try rw [hW0]
  clear hW0
  obtain ⟨G, hG⟩ : ∃ G, w.heap.size = G := ⟨_, rfl⟩
  have HG := Lib.hid hG
  rw [hG] at HX HQ HZ FIN HS0 HB0
  rw [hG] at HCH
  try rw [hG]
  clear hG
  have x1 := HX.out.cell 1 _ rfl
  have hsT : (Try.prog.info? 45).map (·.size) = some 5 := by kernel_rfl
  go_wp2_with fail
  refine (HBI _).out.mono ?_
  rintro e wq ⟨rfl, hwq⟩
  obtain rfl : W0 = wq := hwq.symm
  clear HBI hwq
  by_cases f3 : b4 = 3
  · have hd : decide ((b4 : Int) = 3) = true := by simp [f3]
    have hd2 : ((b4 : Int) == 3) = true := by simp [f3]
    have hd3 : (b4 == 3) = true := by simp [f3]
    have HE : Hid (errT 8 = X) := Lib.hid (by rw [HTP.out, if_pos f3])
    clear HTP f3
    go_wp2_with (refine store_of HZ rfl hsT _ _ rfl rfl rfl (vs := tldL (errT 8) (.slice none 0 0)) rfl rfl rfl (fun U HU HUC => ?_))
    exact FIN.out _ _ U (.slice none 0 0) (errT 8) HE.out rfl HB0.out (RowA.nil _ _) HU.out HUC.out
  · have hd : decide ((b4 : Int) = 3) = false := by simp; omega
    have hd2 : ((b4 : Int) == 3) = false := by simp; omega
    have hd3 : (b4 == 3) = false := by simp; omega
    by_cases f0 : b4 = 0
    · have he : ((b4 : Int) != 0) = false := by simp [f0]
      have he2 : (b4 != 0) = false := by simp [f0]
      have HE : Hid (X = if CH.2.2 = true then endT CH.1 (tellAll (CH.2.1, []) (D.filter (isRec (lastB CH.1) qty))) else errT 3) := Lib.hid (by rw [HTP.out, if_neg f3, if_neg (by simpa using f0)])
      have HC1 := HCH W0 HB0.out
      clear HTP f3 HCH
      have q1 := HQ.out.cell 1 _ rfl
      have x3 := HX.out.cell 3 _ rfl
      go_wp2_with fail
      refine HC1.out.mono ?_
      rintro e w1 ⟨v1, rfl, hr1, hb1⟩
      obtain ⟨pre, last, hpl⟩ : ∃ pre last, CH.1 = pre ++ [last] := by
        obtain ⟨l, e, _⟩ := HPOS.out
        exact ⟨CH.1.dropLast, CH.1.getLast (by rw [e]; simp), (List.dropLast_concat_getLast (by rw [e]; simp)).symm⟩
      have hL8 : pre.length ≤ 8 := by
        obtain ⟨l, e, h8⟩ := HPOS.out
        have := congrArg List.length (e.symm.trans hpl)
        simp at this; omega
      have hls : last.size ≤ 2000000 := HSM.out last (by rw [hpl]; simp)
      rw [hpl] at hr1
      obtain ⟨g, c, rfl, hg, hlc⟩ := hr1.last
      have HB1 := Lib.hid hb1
      have HE2 : Hid (X = if CH.2.2 = true then endT (pre ++ [last]) (tellAll (CH.2.1, []) (D.filter (isRec last qty))) else errT 3) := Lib.hid (by rw [HE.out, hpl, lastB_app])
      obtain ⟨cn, T0, ends⟩ := CH
      simp only at HE2 ⊢
      obtain ⟨L, hL⟩ : ∃ L, pre.length = L := ⟨_, rfl⟩
      have HL := Lib.hid hL
      rw [hL] at hlc hL8 ⊢
      clear hL hpl hr1 hb1 HE HC1 HPOS HSM
      have hi1 : (0 : Int) ≤ (L : Int) := by omega
      have hi2 : (L : Int) < (L : Int) + 1 := by omega
      have HZ1 := Lib.hid (HZ.out.below HB1.out)
      have HQ1 := Lib.hid (HQ.out.below HB1.out)
      have HX1 := Lib.hid (HX.out.below HB1.out)
      clear x1 q1 x3
      cases ends with
      | false =>
        have HE3 : Hid (errT 3 = X) := Lib.hid (by rw [HE2.out]; rfl)
        clear HE2
        go_wp2_with (refine store_of HZ1 rfl hsT _ _ rfl rfl rfl (vs := tldL (errT 3) (.slice none 0 0)) rfl rfl rfl (fun U HU HUC => ?_))
        exact FIN.out _ w1 U (.slice none 0 0) (errT 3) HE3.out rfl (HB0.out.trans (HB1.out.mono (by have := HS0.out; omega))) (RowA.nil _ _) HU.out HUC.out
      | true =>
        have HE3 : Hid (X = endT (pre ++ [last]) (tellAll (T0, []) (D.filter (isRec last qty)))) := Lib.hid (by rw [HE2.out, if_pos rfl])
        have HOF := fun (k : Nat) (V : World) (hk : k ≤ N) (hb : Below W0.heap.size W0 V) => Lib.hid (refOf11_any a1 c1 D last qty k V ((HM.out.below (by rw [HG.out]; exact HB0.out)).below hb) (by rw [HN.out]; exact hk) HD.out.name hls)
        simp only [HN.out] at HOF
        have HSP := fun k (hk : k ≤ N) => Lib.hid (ofR_split D last qty (N - k) k (by rw [HN.out]; omega))
        clear HE2
        have q2 := HQ1.out.cell 2 _ rfl
        have x3 := HX1.out.cell 3 _ rfl
        have HO0 := HOF 0 w1 (Nat.zero_le _) HB1.out
        go_wp2_with fail
        refine HO0.out.mono ?_
        rintro e w2 ⟨rfl, hb2⟩
        have HB2 := Lib.hid (chain HB1.out hb2)
        clear hb2 HB1 HO0 q2 x3 HZ1 HQ1 HX1 hlc hg
        go_wp2_with fail
        go_loopw [7, 10, 11, 12] (fun t v i o wr => ∃ (k : Nat) (T : Int) (acc : List Ad), t = .int .i64 T ∧ i = .int .i64 (ofR D last qty (N - k) k) ∧ k ≤ N ∧ Hid (RowA wr W0.heap.size v acc ∧ Below W0.heap.size W0 wr) ∧ Hid (tellAll (T, acc) ((D.drop k).filter (isRec last qty)) = tellAll (T0, []) (D.filter (isRec last qty)) ∧ acc.length ≤ k)) (fun _ _ i _ _ => if intOf i < 0 then 0 else N - (intOf i).toNat)
        case atStart => exact ⟨0, T0, [], rfl, rfl, Nat.zero_le _, Lib.hid ⟨RowA.nil _ _, HB2.out⟩, Lib.hid ⟨by rw [List.drop_zero], Nat.le_refl _⟩⟩
        case round =>
          clear HB2
          obtain ⟨k, T, acc, rfl, rfl, hk, HW, HT⟩ := hrel
          rcases (HSP k hk).out with ⟨j, hj, hkj, ej, hij, hfj⟩ | ⟨ej, hfj⟩
          · have hjN : j < N := by rw [← HN.out]; exact hj
            have HTJ := Lib.hid (by have := HT.out.1; rw [hfj, tell_cons] at this; exact this)
            have hal : acc.length ≤ j := Nat.le_trans HT.out.2 hkj
            rw [ej]
            have HJ := Lib.hid hj
            have HFT := Lib.hid (HMM.out D[j] (List.getElem_mem hj))
            obtain ⟨g2, o2, ea1, hg2, hr2⟩ := ((HM.out.below (by rw [HG.out]; exact HB0.out)).below HW.out.2).at j hj
            subst ea1
            have HG2 : Hid (∀ V, Below W0.heap.size W0 V → V.rangeAt g2 (o2 + j * 23) (recL D[j])) := Lib.hid (fun V hV => by
              obtain ⟨g3, o3, e3, _, h3⟩ := ((HM.out.below (by rw [HG.out]; exact HB0.out)).below hV).at j hj
              injection e3 with e3
              injection e3 with e4 e5
              rw [e4, e5]; exact h3)
            generalize D[j] = r at *
            have H16 := Lib.hid HFT.out.1
            have HPW := Lib.hid (rec_parts hr2 H16.out)
            have httl : wr.cell? ⟨g2, o2 + j * 23 + 3, none⟩ = some (.int .i64 r.ttl) := HPW.out.ttl
            have HAW : Hid (wr.rangeAt g2 (o2 + j * 23 + 4) (addrL r.f r.b)) := Lib.hid HPW.out.addr
            obtain ⟨av, cv, rfl, hav⟩ := HW.out.1.ads
            have HHS := Lib.hid (refHas11_any av cv acc (r.f, r.b) wr hav.1 H16.out)
            obtain ⟨T1, hT1⟩ : ∃ T1, min T r.ttl = T1 := ⟨_, rfl⟩
            have HT1 := Lib.hid hT1
            have hd0 : decide ((0 : Int) ≤ (j : Int)) = true := decide_eq_true (by omega)
            have hj1 : (0 : Int) ≤ (j : Int) := by omega
            have hj2 : (j : Int) < (N : Int) := by omega
            have hls2 := HLN.out
            have x3 := (HX.out.below HW.out.2).cell 3 _ rfl
            obtain ⟨M, hM⟩ : ∃ M, acc.length = M := ⟨_, rfl⟩
            have HM2 := Lib.hid hM
            have hwj : IntKind.i64.wrap ((j : Int) + 1) = (j : Int) + 1 := by rw [IntKind.wrap_i64]; omega
            rw [hM] at HHS hal
            clear ej hfj HT HSP hj hr2 hg2 hav hT1
            rw [hM] at HW ⊢
            clear hM
            go_wp2_with (first | refine load_addr_o H16 HAW _ rfl rfl rfl ?_ | (refine min_step rfl _ _ rfl rfl rfl ?_; rw [HT1.out]))
            refine HHS.out.mono ?_
            rintro e w3 ⟨rfl, hb3⟩
            have HB3 := Lib.hid (chain HW.out.2 hb3)
            have HR3 := Lib.hid (HW.out.1.below hb3)
            clear hb3 HW httl HAW HPW x3 HHS
            have x3 := (HX.out.below HB3.out).cell 3 _ rfl
            have HAW : Hid (w3.rangeAt g2 (o2 + j * 23 + 4) (addrL r.f r.b)) := Lib.hid (rec_parts (HG2.out w3 HB3.out) H16.out).addr
            by_cases hin : (r.f, r.b) ∈ acc
            · have hdi : decide ((r.f, r.b) ∈ acc) = true := decide_eq_true hin
              rw [hdi]
              have HT5 : Hid (tellAll (T1, acc) ((D.drop (j + 1)).filter (isRec last qty)) = tellAll (T0, []) (D.filter (isRec last qty))) := Lib.hid (by have := HTJ.out; unfold tellStep at this; rw [HT1.out, if_pos hin] at this; exact this)
              have HO5 := HOF (j + 1) w3 (by omega) HB3.out
              rw [show (((j + 1 : Nat)) : Int) = (j : Int) + 1 from rfl] at HO5
              have q2 := (HQ.out.below HB3.out).cell 2 _ rfl
              have HRI : Hid (ofR D last qty (N - (j + 1)) (j + 1) < 0 ∨ (j : Int) + 1 ≤ ofR D last qty (N - (j + 1)) (j + 1)) := Lib.hid (ofR_ge D last qty _ _)
              clear hin hdi HTJ HOF
              go_wp2_with fail
              refine HO5.out.mono ?_
              rintro e w5 ⟨rfl, hb5⟩
              have HB5 := Lib.hid (chain HB3.out hb5)
              have HR5 := Lib.hid (HR3.out.below hb5)
              clear hb5 HB3 HR3 HO5 x3 q2 HAW
              go_wp2_with fail
              go_roundw
              case rel => exact ⟨j + 1, T1, acc, by first | rfl | (rw [← HT1.out]; go_num), rfl, by omega, Lib.hid ⟨HR5.out, HB5.out⟩, Lib.hid ⟨HT5.out, by rw [HM2.out]; omega⟩⟩
              case measure => exact meas_lt hjN HRI.out
            · have hdi : decide ((r.f, r.b) ∈ acc) = false := decide_eq_false hin
              rw [hdi]
              have HT5 : Hid (tellAll (T1, acc ++ [(r.f, r.b)]) ((D.drop (j + 1)).filter (isRec last qty)) = tellAll (T0, []) (D.filter (isRec last qty))) := Lib.hid (by have := HTJ.out; unfold tellStep at this; rw [HT1.out, if_neg hin] at this; exact this)
              have HRI : Hid (ofR D last qty (N - (j + 1)) (j + 1) < 0 ∨ (j : Int) + 1 ≤ ofR D last qty (N - (j + 1)) (j + 1)) := Lib.hid (ofR_ge D last qty _ _)
              have HY : Hid (_root_.Go.Proofs.Ytmecdhlehekdeaa.H16 [(r.f, r.b)]) := Lib.hid (fun x hx => by rw [List.mem_singleton.1 hx]; exact H16.out)
              have H16b : Hid (((r.f, r.b) : Ad).2.length = 16) := Lib.hid H16.out
              have HM1 : Hid (1 = [((r.f, r.b) : Ad)].length) := Lib.hid rfl
              have HLE : Hid (acc.length + [((r.f, r.b) : Ad)].length ≤ 1000) := Lib.hid (by rw [HM2.out]; simp; omega)
              have HS3 := Lib.hid HB3.out.size
              have HR3b : Hid (RowA w3 W0.heap.size (.slice av M cv) acc) := HR3
              clear hin hdi HTJ
              have HFW : Hid (∀ W5, W5 = w3.alloc (.cells (adL (r.f, r.b)).toArray 55) → Below w3.heap.size w3 W5 ∧ RowA W5 W0.heap.size (.slice av M cv) acc ∧ W5.rangeAt w3.heap.size 0 (flatA [(r.f, r.b)]) ∧ W0.heap.size ≤ W5.heap.size) := Lib.hid (fun W5 e => by
                have hb : Below w3.heap.size w3 W5 := by rw [e]; exact (Below.refl _ _).alloc (Nat.le_refl _) _
                exact ⟨hb, HR3.out.below hb, by rw [e]; exact ad_range _ _, Nat.le_trans HS3.out hb.size⟩)
              have HF6 : Hid (∀ W5 w6, Below w3.heap.size w3 W5 → RowA W5 W0.heap.size (.slice av M cv) acc → W5.grownBy w6 (Value.slice av M cv).ownBlock → Below W0.heap.size W0 w6 ∧ w6.cell? ⟨G + 1, 3, none⟩ = some (.slice (some ⟨g2, o2, none⟩) N c1) ∧ w6.cell? ⟨G, 2, none⟩ = some (.int .i64 qty)) := Lib.hid (fun W5 w6 hb ho hg => by
                have h6 : Below W0.heap.size W0 w6 := HB3.out.trans ((hb.mono HS3.out).grown hg (Nat.le_trans HS3.out hb.size) (fun k hk => (ho.lt k hk).1))
                exact ⟨h6, (HX.out.below h6).cell 3 _ rfl, (HQ.out.below h6).cell 2 _ rfl⟩)
              go_wp2_with (first
                | refine load_addr_o H16 HAW _ rfl rfl rfl ?_
                | (refine build_adM (r := (r.f, r.b)) H16b rfl _ rfl rfl (fun W5 HW5 => ?_); obtain ⟨hb5, ho5, hr5, hs5⟩ := HFW.out W5 HW5.out; have HB5 := Lib.hid hb5; have HO5 := Lib.hid ho5; have HR5 := Lib.hid hr5; have HS5 := Lib.hid hs5; clear hb5 ho5 hr5 hs5)
                | (at_builtin; refine append_ads HO5 _ _ rfl rfl rfl [(r.f, r.b)] rfl HM1 HR5 HY HLE HS5 (fun v6 w6 HO6 HG6 => ?_); obtain ⟨hb6, x36, q26⟩ := HF6.out W5 w6 HB5.out HO5.out HG6.out; have HB6 := Lib.hid hb6; clear hb6))
              have HO8 := HOF (j + 1) w6 (by omega) HB6.out
              rw [show (((j + 1 : Nat)) : Int) = (j : Int) + 1 from rfl] at HO8
              clear HOF
              refine HO8.out.mono ?_
              rintro e w8 ⟨rfl, hb8⟩
              have HB8 := Lib.hid (chain HB6.out hb8)
              have HR8 := Lib.hid (HO6.out.below hb8)
              clear hb8 HB6 HO6 HG6 HO8 x36 q26 HAW x3
              go_wp2_with fail
              go_roundw
              case rel => exact ⟨j + 1, T1, acc ++ [(r.f, r.b)], by first | rfl | (rw [← HT1.out]; go_num), rfl, by omega, Lib.hid ⟨HR8.out, HB8.out⟩, Lib.hid ⟨HT5.out, by simp; rw [HM2.out]; omega⟩⟩
              case measure => exact meas_lt hjN HRI.out
          · have HT2 : Hid ((T, acc) = tellAll (T0, []) (D.filter (isRec last qty))) := Lib.hid (by rw [← HT.out.1, hfj]; rfl)
            rw [ej]
            clear ej hfj HT HSP HOF
            have HE4 : Hid (X = endT (pre ++ [last]) (T, acc)) := Lib.hid (by rw [HE3.out, HT2.out])
            clear HE3 HT2
            obtain ⟨av, cv, rfl, hav⟩ := HW.out.1.ads
            have HZ2 := Lib.hid (HZ.out.below HW.out.2)
            have hneg : decide (0 ≤ (-1 : Int)) = false := by decide
            have hlen : (pre ++ [last]).length = L + 1 := by rw [List.length_append, HL.out]; rfl
            by_cases hac : acc = []
            · subst hac
              have hl0 : ([] : List Ad).length = 0 := rfl
              rw [hl0] at HW ⊢
              by_cases hL0 : L = 0
              · have HE5 : Hid (errT 8 = X) := Lib.hid (by rw [HE4.out]; unfold endT; rw [if_pos rfl, if_pos (by rw [hlen, hL0])])
                have e1 : ((L : Int) + 1 == 1) = true := by simp [hL0]
                have e2 : decide ((L : Int) + 1 = 1) = true := by simp [hL0]
                have e3 : (L + 1 == 1) = true := by simp [hL0]
                have e4 : (L == 0) = true := by simp [hL0]
                have e5 : ((L : Int) == 0) = true := by simp [hL0]
                clear HE4 hL0 hlen
                go_wp2_with (refine store_of HZ2 rfl hsT _ _ rfl rfl rfl (vs := tldL (errT 8) (.slice none 0 0)) rfl rfl rfl (fun U HU HUC => ?_))
                exact FIN.out _ wr U (.slice none 0 0) (errT 8) HE5.out rfl (HB0.out.trans (HW.out.2.mono (by have := HS0.out; omega))) (RowA.nil _ _) HU.out HUC.out
              · have HE5 : Hid (⟨0, [], T, last, L⟩ = X) := Lib.hid (by rw [HE4.out]; unfold endT; rw [if_pos rfl, if_neg (by rw [hlen]; omega), hlen, lastB_app]; rfl)
                have e1 : ((L : Int) + 1 == 1) = false := by simp; omega
                have e2 : decide ((L : Int) + 1 = 1) = false := by simp; omega
                have e3 : (L + 1 == 1) = false := by simp; omega
                have e4 : (L == 0) = false := by simp; omega
                have e5 : ((L : Int) == 0) = false := by simp; omega
                clear HE4 hlen
                go_wp2_with (refine store_of HZ2 rfl hsT _ _ rfl rfl rfl (vs := tldL ⟨0, [], T, last, L⟩ (.slice none 0 0)) rfl rfl rfl (fun U HU HUC => ?_))
                exact FIN.out _ wr U (.slice none 0 0) ⟨0, [], T, last, L⟩ HE5.out rfl (HB0.out.trans (HW.out.2.mono (by have := HS0.out; omega))) (RowA.nil _ _) HU.out HUC.out
            · have HE5 : Hid (⟨0, acc, T, ⟨#[]⟩, L⟩ = X) := Lib.hid (by rw [HE4.out]; unfold endT; rw [if_neg hac, hlen]; rfl)
              obtain ⟨M, hM⟩ : ∃ M, acc.length = M := ⟨_, rfl⟩
              have hM0 : 0 < M := by rw [← hM]; exact List.length_pos_iff.2 hac
              have hdM : decide ((0 : Int) < (M : Int)) = true := decide_eq_true (by omega)
              rw [hM] at HW ⊢
              clear HE4 hac hM hlen
              go_wp2_with (refine store_of HZ2 rfl hsT _ _ rfl rfl rfl (vs := tldL ⟨0, acc, T, ⟨#[]⟩, L⟩ (.slice av M cv)) rfl rfl rfl (fun U HU HUC => ?_))
              exact FIN.out _ wr U (.slice av M cv) ⟨0, acc, T, ⟨#[]⟩, L⟩ HE5.out rfl (HB0.out.trans (HW.out.2.mono (by have := HS0.out; omega))) HW.out.1 HU.out HUC.out
    · have he : ((b4 : Int) != 0) = true := by simp; omega
      have he2 : (b4 != 0) = true := by simp; omega
      have HE : Hid (errT 7 = X) := Lib.hid (by rw [HTP.out, if_neg f3, if_pos f0])
      clear HTP f3 f0
      go_wp2_with (refine store_of HZ rfl hsT _ _ rfl rfl rfl (vs := tldL (errT 7) (.slice none 0 0)) rfl rfl rfl (fun U HU HUC => ?_))
      exact FIN.out _ _ U (.slice none 0 0) (errT 7) HE.out rfl HB0.out (RowA.nil _ _) HU.out HUC.out
end Go.Proofs.Ytmecdhlehekdeaa
/- The landed match: addresses. -/
namespace Go.Proofs.Ytmecdhlehekdeaa
open Go.RowKit
set_option linter.unusedVariables false
set_option maxRecDepth 20000
set_option linter.unusedSimpArgs false

theorem CellsAt.same {w w' : World} {G : Nat} {vs : List Value} (h : CellsAt w G vs) (hs : w.heap.size ≤ w'.heap.size) (hk : w'.heap[G]? = w.heap[G]?) : CellsAt w' G vs :=
  ⟨Nat.lt_of_lt_of_le h.lt hs, fun j u hu => by rw [World.cell?_of_block (w := w) (a := ⟨G, 0 + j, none⟩) hk]; exact h.range j u hu, fun j hj => by
    rw [World.cell?_of_block (w := w) (a := ⟨G, 0 + j, none⟩) hk, World.frozen?_of_block (w := w) (a := ⟨G, 0 + j, none⟩) hk]; exact h.there j hj⟩
theorem RowA.isSlice {w : World} {B : Nat} {v : Value} {D : List Ad} (h : RowA w B v D) : ∃ ad n c, v = .slice ad n c := by
  obtain ⟨a, c, e, _⟩ := h.ads
  exact ⟨a, _, c, e⟩
theorem tell_take {xs : List Rec} {k : Nat} (hk : k < xs.length) (x : Int × List Ad) : tellAll x (xs.take (k + 1)) = tellStep (tellAll x (xs.take k)) xs[k] := by
  unfold tellAll
  rw [List.take_succ_eq_append_getElem hk, List.foldl_append]
  rfl
/-- Between two rounds: the variables addrs and ttl. -/
def AdsInv (w : World) (B : Nat) (x : Int × List Ad) (W : World) : Prop := ∃ v, CellsAt W w.heap.size [v] ∧ CellsAt W (w.heap.size + 1) [.int .i64 x.1] ∧ RowA W B v x.2 ∧ Below w.heap.size w W
theorem AdsInv.put {w W : World} {B : Nat} {x : Int × List Ad} (h : AdsInv w B x W) {l : Nat} (o : Obj) (h1 : w.heap.size + 1 < l) (h2 : l < B) : AdsInv w B x (W.putObj l o) := by
  obtain ⟨v, a, b, c, d⟩ := h
  refine ⟨v, a.same (by simp) (World.putObj_heap_other (by omega)), b.same (by simp) (World.putObj_heap_other (by omega)), c.kept2 (fun g hg => World.putObj_heap_other (by have := (c.lt g hg).1; omega)), d.trans (below_put _ (by omega))⟩
theorem AdsInv.below {w W W' : World} {B : Nat} {x : Int × List Ad} (h : AdsInv w B x W) (hb : Below W.heap.size W W') : AdsInv w B x W' := by
  obtain ⟨v, a, b, c, d⟩ := h
  exact ⟨v, a.below hb, b.below hb, c.below hb, d.trans (hb.mono d.size)⟩
def AddrsRet (w : World) (x : Int × List Ad) (e : Ending) (w' : World) : Prop := ∃ v, e = .returned (.tuple #[v, .int .i64 x.1]) ∧ RowA w' w.heap.size v x.2 ∧ Below w.heap.size w w'
set_option maxRecDepth 100000 in
set_option maxHeartbeats 4000000 in
theorem addresses_any (nm : ByteArray) (kd : Int) (a : Option Addr) (c : Nat) (D : List Rec) (w : World) (hA : RecsAt w a c D) (hD : All2 D) (hnm : nm.size ≤ 2000000) (hl : D.length ≤ 900) :
    Calls Try.prog 33 #[.string nm, .int .i64 kd, .slice a D.length c] w (AddrsRet w (tellAll (604800, []) (D.filter (isRec nm kd)))) := by
  obtain ⟨W0, hW0⟩ : ∃ W0, (w.alloc (.cells #[.slice none 0 0] 41)).alloc (.cells #[.int .i64 604800] 3) = W0 := ⟨_, rfl⟩
  have HB0 : Hid (Below w.heap.size w W0) := Lib.hid (by rw [← hW0]; exact ((Below.refl _ _).alloc (Nat.le_refl _) _).alloc (by simp) _)
  have HS0 : Hid (W0.heap.size = w.heap.size + 2) := Lib.hid (by rw [← hW0]; simp)
  have HA0 : Hid (CellsAt W0 w.heap.size [.slice none 0 0]) := Lib.hid (by rw [← hW0]; exact (CellsAt.new w 41 [.slice none 0 0]).below ((Below.refl _ _).alloc (Nat.le_refl _) _))
  have HC0 : Hid (CellsAt W0 (w.heap.size + 1) [.int .i64 604800]) := Lib.hid (by
    have := CellsAt.new (w.alloc (.cells #[.slice none 0 0] 41)) 3 [.int .i64 604800]
    rw [← hW0]; simpa using this)
  have HCN := Lib.hid (counting_any nm kd a c D W0 (hA.below HB0.out))
  have HTG := fun V => fun (hC : CountAt V (W0.heap.size + 2) (W0.heap.size + 1) W0.heap.size a c D nm kd) => Lib.hid (count_tells (W0.heap.size + 2) (W0.heap.size + 1) W0.heap.size a c D nm kd [w.heap.size, w.heap.size + 1] V hC (by have := HS0.out; simp; omega) (by have := HS0.out; simp; omega) (by have := HS0.out; simp; omega) (by
    rcases hA.2.2.2 with e | ⟨g, o, e, hg, _⟩
    · exact .inl e
    · exact .inr fun x hx => by rw [e] at hx; cases hx; simp; omega) hD hnm hl)
  have HFT : Hid (∀ r ∈ D.filter (isRec nm kd), r.b.length = 16) := Lib.hid (fun r hr => (hA.2.2.1 r (List.mem_filter.1 hr).1).1)
  have HLN : Hid ((D.filter (isRec nm kd)).length ≤ 900) := Lib.hid (Nat.le_trans (List.length_filter_le _ _) hl)
  obtain ⟨xs, hxs⟩ : ∃ xs, D.filter (isRec nm kd) = xs := ⟨_, rfl⟩
  rw [hxs] at HFT HLN ⊢
  simp only [hxs] at HTG
  clear hA hD hnm hl hxs
  obtain ⟨N, hN⟩ : ∃ N, D.length = N := ⟨_, rfl⟩
  rw [hN] at HCN ⊢
  clear hN
  refine (callsIn_wide (n := 0)).1 (callsIn_of_wp_marks Try.func33 rfl trivial (wpIn_wide.2 ?_) rfl)
  simp only [Try.ntmps33, List.size_toArray, List.length_cons, List.length_nil, Nat.reduceAdd, Nat.reduceSub, Array.replicate_succ, Array.replicate_zero, List.push_toArray, List.append_toArray, List.nil_append, List.cons_append]
  go_upto_region 3 with fail
  try rw [hW0]
  clear hW0
  go_wp2_with fail
  refine HCN.out.mono ?_
  rintro e w1 ⟨rfl, hc1, hb1, hs1⟩
  have qf := func_nil
  have HS1 : Hid (w1.heap.size = w.heap.size + 5) := Lib.hid (by rw [hs1, HS0.out])
  have HT1 := HTG w1 hc1
  have HI1 : Hid (AdsInv w (w1.heap.size + 2) (604800, []) w1) := Lib.hid ⟨.slice none 0 0, HA0.out.below hb1, HC0.out.below hb1, RowA.nil _ _, chain HB0.out hb1⟩
  clear hc1 hb1 hs1 HCN HTG
  go_wp2_with fail
  refine range_go (gf := 42) (lb := #[.pointer (some ⟨W0.heap.size + 2, 0, none⟩), .pointer (some ⟨W0.heap.size + 1, 0, none⟩), .pointer (some ⟨W0.heap.size, 0, none⟩)]) rfl (enters_of Try.func42 (by kernel_rfl) rfl) xs recV [w.heap.size, w.heap.size + 1] (by have := HS1.out; simp; omega) w1 HT1.out (Below.refl _ _)
    (fun k W => AdsInv w (w1.heap.size + 2) (tellAll (604800, []) (xs.take k)) W)
    (fun k A B h hb => by
      rcases hb with ⟨l, o, h1, h2, rfl⟩ | hb
      · exact h.put o (by have := HS1.out; omega) h2
      · exact h.below hb) HI1.out ?round ?done
  case round =>
    intro k hk W hlW hI
    obtain ⟨x, hx⟩ : ∃ x, xs[k] = x := ⟨_, rfl⟩
    have HTK := Lib.hid (tell_take hk (604800, []))
    have H16 : Hid (x.b.length = 16) := Lib.hid (HFT.out x (by rw [← hx]; exact List.getElem_mem hk))
    have HAL : Hid ((tellAll (604800, []) (xs.take k)).2.length ≤ 900) := Lib.hid (by
      have h1 := tell_len (xs.take k) (604800, [])
      have h2 := List.length_take_le k xs
      have h3 := HLN.out
      simp only [List.length_nil, Nat.zero_add] at h1
      omega)
    rw [hx] at HTK ⊢
    have HZ := Lib.hid (rec_zeroed W)
    have HLW := Lib.hid hlW
    clear hk hx hlW hI qf
    refine round_region rfl (fun ⟨_, _, h⟩ => h) ?_
    simp only [List.setIfInBounds_toArray, List.set_cons_succ, List.set_cons_zero]
    go_wp2_with (refine store_rec HZ _ _ H16 rfl rfl rfl rfl (fun W3 HW3 HE3 => ?_))
    refine ⟨below_newR HW3, fun w₂ hf2 hI2 => ?_⟩
    have HX3 : Hid (RecAt w₂ W.heap.size x) := Lib.hid ⟨H16.out, Nat.lt_of_lt_of_le HE3.out.lt hf2.size, range_foot hf2 HE3.out.range HE3.out.lt (by have := HLW.out; simp; omega), fun j hj => by
      rw [World.cell?_of_block (w := W3) (a := ⟨W.heap.size, 0 + j, none⟩) (hf2.keep _ HE3.out.lt (by have := HLW.out; simp; omega)), World.frozen?_of_block (w := W3) (a := ⟨W.heap.size, 0 + j, none⟩) (hf2.keep _ HE3.out.lt (by have := HLW.out; simp; omega))]; exact HE3.out.there j hj⟩
    generalize tellAll (604800, []) (xs.take k) = y at *
    obtain ⟨T, acc⟩ := y
    obtain ⟨v, ha, hc, hr, hb⟩ := hI2
    simp only at hc hr HAL
    obtain ⟨av, cv, rfl, hav⟩ := hr.ads
    have HA2 := Lib.hid ha
    have HC2 := Lib.hid hc
    have HR2 := Lib.hid hr
    have HB2 := Lib.hid hb
    have HWW : Hid (w1.heap.size + 2 ≤ W.heap.size ∧ W.heap.size < w₂.heap.size) := Lib.hid ⟨HLW.out, HX3.out.lt⟩
    obtain ⟨R, hR⟩ : ∃ R, W.heap.size = R := ⟨_, rfl⟩
    rw [hR] at HX3 HWW
    try rw [hR]
    clear hR hf2 ha hc hr hb hav HZ HE3 HLW HW3
    have c0 := HC2.out.cell 0 _ rfl
    have f0 := HC2.out.live 0 (by simp)
    have t3 : w₂.cell? ⟨R, 3, none⟩ = some (.int .i64 x.ttl) := HX3.out.parts.ttl
    refine wpIn_block (wpIn_seq ?_)
    refine round_region rfl (fun ⟨_, _, h⟩ => by cases h.1) ?_
    go_wp2_with (refine min_step rfl _ _ rfl rfl rfl ?_)
    obtain ⟨V1, hV1⟩ : ∃ V1, w₂.setCell ⟨w.heap.size + 1, 0, none⟩ (.int .i64 (min T x.ttl)) = V1 := ⟨_, rfl⟩
    have hlw := HWW.out
    have hs1 := HS1.out
    have HK1 : Hid (Keep (w1.heap.size + 2) [w.heap.size, w.heap.size + 1] w₂ V1) := Lib.hid (by
      have hb : Below w.heap.size w₂ V1 := by rw [← hV1]; exact (Below.refl _ _).setCell (by show w.heap.size ≤ w.heap.size + 1; omega) _
      refine ⟨hb.os, hb.tape, hb.output, hb.size, fun j _ hn => ?_⟩
      simp at hn
      rw [← hV1]; exact heap_setCell_otherM _ _ _ _ _ hn.2)
    have HA3 : Hid (CellsAt V1 w.heap.size [.slice av acc.length cv]) := Lib.hid (by rw [← hV1]; exact HA2.out.other (by omega) _ _)
    have HC3 : Hid (CellsAt V1 (w.heap.size + 1) [.int .i64 (min T x.ttl)]) := Lib.hid (by rw [← hV1]; exact HC2.out.set 0 _ (by simp))
    have HR3 : Hid (RowA V1 (w1.heap.size + 2) (.slice av acc.length cv) acc) := Lib.hid (HR2.out.kept2 (fun g hg => by rw [← hV1]; exact heap_setCell_otherM _ _ _ _ _ (by have := (HR2.out.lt g hg).1; omega)))
    have HB3 : Hid (Below w.heap.size w V1) := Lib.hid (by rw [← hV1]; exact HB2.out.setCell (by show w.heap.size ≤ w.heap.size + 1; omega) _)
    have HX4 : Hid (RecAt V1 R x) := Lib.hid (by rw [← hV1]; exact HX3.out.other (by omega) _ _)
    have HWW2 : Hid (w1.heap.size + 2 ≤ R ∧ R < V1.heap.size) := Lib.hid ⟨hlw.1, HX4.out.lt⟩
    try rw [hV1]
    clear hV1 c0 f0 t3 HA2 HC2 HR2 HB2 HX3 HWW hlw hs1
    have HAW : Hid (V1.rangeAt R 4 (addrL x.f x.b)) := Lib.hid (by have := HX4.out.parts.addr; simpa using this)
    have HHS : Hid (Calls Try.prog 41 #[.slice av acc.length cv, addrV x.f x.b] V1 fun e w' => e = .returned (.bool (decide ((x.f, x.b) ∈ acc))) ∧ Below V1.heap.size V1 w') := Lib.hid (by
      obtain ⟨a2, c2, e2, h2⟩ := HR3.out.ads
      cases e2
      exact contains_any av cv acc (x.f, x.b) V1 h2.1 H16.out)
    have HCL : Hid (acc.length ≤ 900) := HAL
    obtain ⟨M, hM⟩ : ∃ M, acc.length = M := ⟨_, rfl⟩
    have HM2 := Lib.hid hM
    rw [hM] at HA3 HR3 HHS
    try rw [hM]
    clear hM
    have c1 := HA3.out.cell 0 _ rfl
    obtain ⟨T1, hT1⟩ : ∃ T1, min T x.ttl = T1 := ⟨_, rfl⟩
    have HTK2 : Hid (tellAll (604800, []) (xs.take (k + 1)) = (T1, if (x.f, x.b) ∈ acc then acc else acc ++ [(x.f, x.b)])) := Lib.hid (by rw [HTK.out, ← hT1]; rfl)
    rw [hT1] at HC3
    try rw [hT1]
    clear hT1 HTK
    refine wpIn_seq ?_
    refine round_region rfl (fun ⟨_, _, h⟩ => by cases h.1) ?_
    go_wp2_with (refine load_addr_o H16 HAW _ rfl rfl rfl ?_)
    refine HHS.out.mono ?_
    rintro e V2 ⟨rfl, hb2⟩
    have HK2 : Hid (Keep (w1.heap.size + 2) [w.heap.size, w.heap.size + 1] w₂ V2) := Lib.hid (HK1.out.trans (Keep.ofBelow _ hb2 (by have := HWW2.out; omega)))
    have HA4 := Lib.hid (HA3.out.below hb2)
    have HC4 := Lib.hid (HC3.out.below hb2)
    have HR4 := Lib.hid (HR3.out.below hb2)
    have HB4 : Hid (Below w.heap.size w V2) := Lib.hid (HB3.out.trans (hb2.mono HB3.out.size))
    have HX5 := Lib.hid (HX4.out.below hb2)
    have HWW3 : Hid (w1.heap.size + 2 ≤ R ∧ R < V2.heap.size) := Lib.hid ⟨HWW2.out.1, HX5.out.lt⟩
    clear hb2 HK1 HA3 HC3 HR3 HB3 HX4 HAW HHS HWW2 c1
    by_cases hin : (x.f, x.b) ∈ acc
    · have hdi : decide ((x.f, x.b) ∈ acc) = true := decide_eq_true hin
      rw [hdi]
      have HTK3 : Hid (tellAll (604800, []) (xs.take (k + 1)) = (T1, acc)) := Lib.hid (by rw [HTK2.out, if_pos hin])
      clear hin hdi HTK2
      go_wp2_with fail
      refine wpIn_cond_false rfl (wpIn_skip ?_)
      refine ⟨rfl, HK2.out, ?_⟩
      rw [HTK3.out]
      exact ⟨_, HA4.out, HC4.out, HR4.out, HB4.out⟩
    · have hdi : decide ((x.f, x.b) ∈ acc) = false := decide_eq_false hin
      rw [hdi]
      have HTK3 : Hid (tellAll (604800, []) (xs.take (k + 1)) = (T1, acc ++ [(x.f, x.b)])) := Lib.hid (by rw [HTK2.out, if_neg hin])
      clear hin hdi HTK2
      go_wp2_with fail
      refine wpIn_cond_true rfl ?_
      have HAW : Hid (V2.rangeAt R 4 (addrL x.f x.b)) := Lib.hid (by have := HX5.out.parts.addr; simpa using this)
      have c1 := HA4.out.cell 0 _ rfl
      have HY : Hid (_root_.Go.Proofs.Ytmecdhlehekdeaa.H16 [(x.f, x.b)]) := Lib.hid (fun y hy => by rw [List.mem_singleton.1 hy]; exact H16.out)
      have H16b : Hid (((x.f, x.b) : Ad).2.length = 16) := Lib.hid H16.out
      have HM1 : Hid (1 = [((x.f, x.b) : Ad)].length) := Lib.hid rfl
      have HLE : Hid (acc.length + [((x.f, x.b) : Ad)].length ≤ 1000) := Lib.hid (by have := HCL.out; simp; omega)
      have HS3 : Hid (w1.heap.size + 2 ≤ V2.heap.size) := Lib.hid (by have := HWW3.out; omega)
      have HFW : Hid (∀ W5, W5 = V2.alloc (.cells (adL (x.f, x.b)).toArray 55) → Below V2.heap.size V2 W5 ∧ RowA W5 (w1.heap.size + 2) (.slice av M cv) acc ∧ W5.rangeAt V2.heap.size 0 (flatA [(x.f, x.b)]) ∧ w1.heap.size + 2 ≤ W5.heap.size) := Lib.hid (fun W5 e => by
        have hb : Below V2.heap.size V2 W5 := by rw [e]; exact (Below.refl _ _).alloc (Nat.le_refl _) _
        exact ⟨hb, HR4.out.below hb, by rw [e]; exact ad_range _ _, Nat.le_trans HS3.out hb.size⟩)
      have HF6 : Hid (∀ W5 w6, Below V2.heap.size V2 W5 → RowA W5 (w1.heap.size + 2) (.slice av M cv) acc → W5.grownBy w6 (Value.slice av M cv).ownBlock → Below (w1.heap.size + 2) V2 w6 ∧ CellsAt w6 w.heap.size [.slice av M cv] ∧ CellsAt w6 (w.heap.size + 1) [.int .i64 T1]) := Lib.hid (fun W5 w6 hb ho hg => by
        have hs1 := HS1.out
        have h6 : Below (w1.heap.size + 2) V2 w6 := (hb.mono HS3.out).grown hg (Nat.le_trans HS3.out hb.size) (fun k hk => (ho.lt k hk).1)
        exact ⟨h6, HA4.out.upto h6 (by omega), HC4.out.upto h6 (by omega)⟩)
      refine round_region rfl (fun ⟨_, _, h⟩ => by cases h.1) ?_
      go_wp2_with (first
        | refine load_addr_o H16 HAW _ rfl rfl rfl ?_
        | (refine build_adM (r := (x.f, x.b)) H16b rfl _ rfl rfl (fun W5 HW5 => ?_); obtain ⟨hb5, ho5, hr5, hs5⟩ := HFW.out W5 HW5.out; have HB5 := Lib.hid hb5; have HO5 := Lib.hid ho5; have HR5 := Lib.hid hr5; have HS5 := Lib.hid hs5; clear hb5 ho5 hr5 hs5)
        | (at_builtin; refine append_ads HO5 _ _ rfl rfl rfl [(x.f, x.b)] rfl HM1 HR5 HY HLE HS5 (fun v6 w6 HO6 HG6 => ?_); obtain ⟨ad6, n6, cc6, rfl⟩ := HO6.out.isSlice; obtain ⟨hb6, hx6, hc6⟩ := HF6.out W5 w6 HB5.out HO5.out HG6.out; have HB6 := Lib.hid hb6; have HA6 := Lib.hid hx6; have HC6 := Lib.hid hc6; clear hb6 hx6 hc6; have c6 := HA6.out.cell 0 _ rfl; have f6 := HA6.out.live 0 (by simp)))
      have hs1 := HS1.out
      refine ⟨?_, ?_⟩
      · have hk := HK2.out.trans (Keep.ofBelow _ HB6.out (Nat.le_refl _))
        refine ⟨hk.os, hk.tape, hk.output, by simpa using hk.size, fun j hj hn => ?_⟩
        have hn2 := hn
        simp at hn2
        rw [heap_setCell_otherM _ _ _ _ _ hn2.1]
        exact hk.keep j hj hn
      · rw [HTK3.out]
        refine ⟨_, HA6.out.set 0 _ (by simp), HC6.out.other (by omega) _ _, HO6.out.kept2 (fun g hg => heap_setCell_otherM _ _ _ _ _ (by have := (HO6.out.lt g hg).1; omega)), ?_⟩
        exact ((HB4.out.trans (HB6.out.mono (by omega)))).setCell (Nat.le_refl _) _
  case done =>
    intro W hI hD
    rw [List.take_length] at hI
    obtain ⟨v, ha, hc, hr, hb⟩ := hI
    obtain ⟨ad, n, cc, rfl⟩ := hr.isSlice
    have HAW := Lib.hid (ha.below (Below.refl _ _).drew)
    have HCW := Lib.hid (hc.below (Below.refl _ _).drew)
    have HRW := Lib.hid (hr.below (Below.refl _ _).drew)
    have HBW : Hid (Below w.heap.size w W.drew) := Lib.hid hb.drew
    have HDW : Hid (W.drew.heap[w1.heap.size]? = some (.deferred (some []))) := Lib.hid hD
    clear ha hc hr hb hD qf
    generalize tellAll (604800, []) xs = y at *
    obtain ⟨S, hS⟩ : ∃ S : World → Prop, (fun V => V = W.drew) = S := ⟨_, rfl⟩
    have C1 : Hid (∀ w', S w' → w'.cell? ⟨w.heap.size, 0, none⟩ = some (.slice ad n cc)) := Lib.hid (fun w' h => by rw [← hS] at h; rw [h]; exact HAW.out.cell 0 _ rfl)
    have C2 : Hid (∀ w', S w' → w'.cell? ⟨w.heap.size + 1, 0, none⟩ = some (.int .i64 y.1)) := Lib.hid (fun w' h => by rw [← hS] at h; rw [h]; exact HCW.out.cell 0 _ rfl)
    have HSI : Hid (S W.drew) := Lib.hid (by rw [← hS])
    have HSO : Hid (∀ V, S V → V = W.drew) := Lib.hid (fun V h => by rw [← hS] at h; exact h)
    clear hS
    go_upto_region 8 with fail
    refine wp_region_noPanic ?_
    refine wp_region_held_drew (S := S) (by kernel_rfl) HSI.out (fun hHeld => ?_)
    refine wpAnyH_take (i := 0) (v := ?_) rfl (by kernel_rfl) (by kernel_rfl) (by kernel_rfl) (fun _ _ _ h => h) (Or.inl ⟨by rfl, ?_⟩) (by assumption) ?_
    rotate_left
    · (intro w hSw; have hc0 := C1.out w hSw; go_simp; try (with_reducible rfl))
    try simp only [Act.put, List.getElem_toArray, List.getElem_cons_zero, List.setIfInBounds_toArray, List.set_cons_zero, List.set_cons_succ]
    refine wpAnyH_take (i := 1) (v := ?_) rfl (by kernel_rfl) (by kernel_rfl) (by kernel_rfl) (fun _ _ _ h => h) (Or.inl ⟨by rfl, ?_⟩) (by assumption) ?_
    rotate_left
    · (intro w hSw; have hc0 := C2.out w hSw; go_simp; try (with_reducible rfl))
    try simp only [Act.put, List.getElem_toArray, List.getElem_cons_zero, List.getElem_cons_succ, List.setIfInBounds_toArray, List.set_cons_zero, List.set_cons_succ]
    refine wpAnyH_take (i := 2) (v := ?_) rfl (by kernel_rfl) (by kernel_rfl) (by kernel_rfl) (fun _ _ _ h => h) (Or.inl ⟨by rfl, ?_⟩) (by assumption) ?_
    rotate_left
    · (intro w hSw; go_simp; try (with_reducible rfl))
    try simp only [Act.put, List.getElem_toArray, List.getElem_cons_zero, List.getElem_cons_succ, List.setIfInBounds_toArray, List.set_cons_zero, List.set_cons_succ]
    refine wpAnyH_take (i := 3) (v := ?_) rfl (by kernel_rfl) (by kernel_rfl) (by kernel_rfl) (fun _ _ _ h => h) (Or.inl ⟨by rfl, ?_⟩) (by assumption) ?_
    rotate_left
    · (intro w hSw; go_simp; try (with_reducible rfl))
    try simp only [Act.put, List.getElem_toArray, List.getElem_cons_zero, List.getElem_cons_succ, List.setIfInBounds_toArray, List.set_cons_zero, List.set_cons_succ]
    refine wpAnyH_done (by kernel_rfl) ?_ _
    refine NoPanic.normal ?_
    clear C1 C2 HSI HSO hHeld
    go_wp2_with fail
    have hs1 := HS1.out
    have hb : Below w1.heap.size W.drew (W.drew.putObj w1.heap.size (.deferred none)) := below_put _ (Nat.le_refl _)
    refine ⟨by simp, .inl ⟨_, _, rfl, run_takeDeferred HDW.out, ?_⟩⟩
    exact ⟨_, results_tmp2 rfl _ _ _, _, rfl, (HRW.out.kept2 (fun g hg => World.putObj_heap_other (by have := (HRW.out.lt g hg).1; omega))).mono (by omega), HBW.out.trans (hb.mono (by omega))⟩
end Go.Proofs.Ytmecdhlehekdeaa
/- The landed match: Chain. -/
namespace Go.Proofs.Ytmecdhlehekdeaa
open Go.RowKit
set_option linter.unusedVariables false
set_option maxRecDepth 20000
set_option linter.unusedSimpArgs false

theorem RecAt.same {w w' : World} {G : Nat} {r : Rec} (h : RecAt w G r) (hs : w.heap.size ≤ w'.heap.size) (hk : w'.heap[G]? = w.heap[G]?) : RecAt w' G r :=
  ⟨h.len, Nat.lt_of_lt_of_le h.lt hs, fun j u hu => by rw [World.cell?_of_block (w := w) (a := ⟨G, 0 + j, none⟩) hk]; exact h.range j u hu, fun j hj => by
    rw [World.cell?_of_block (w := w) (a := ⟨G, 0 + j, none⟩) hk, World.frozen?_of_block (w := w) (a := ⟨G, 0 + j, none⟩) hk]; exact h.there j hj⟩
set_option maxRecDepth 100000 in
set_option maxHeartbeats 2000000 in
theorem chain_any (a : Option Addr) (c : Nat) (D : List Rec) (nm : ByteArray) (most : Int) (w : World) (hA : RecsAt w a c D) (hD : All2 D) (hnm : nm.size ≤ 2000000) (hm : most ≤ 1000) (hl : D.length ≤ 900) :
    Calls Try.prog 20 #[.string nm, .slice a D.length c, .int .i64 most] w (ChainRet w (chainP D most.toNat nm 604800)) := by
  obtain ⟨i0, hi0, hz0, hz1, hz2⟩ := info_parts Try.infoString
  have HA := Lib.hid hA
  have HD := Lib.hid hD
  have HST := fun (x : ByteArray) (W : World) (hx : x.size ≤ 2000000) (hb : Below w.heap.size w W) => Lib.hid (step_any x a c D W (hA.below hb) hD hx hl)
  obtain ⟨N, hN⟩ : ∃ N, D.length = N := ⟨_, rfl⟩
  rw [hN] at HST ⊢
  have HFI : Hid (∀ r ∈ D, r.b.length = 16) := Lib.hid (fun r hr => (hA.2.2.1 r hr).1)
  obtain ⟨R, hR⟩ : ∃ R, chainP D most.toNat nm 604800 = R := ⟨_, rfl⟩
  have HR : Hid (RowT (w.alloc (.cells #[.string nm] 9)) w.heap.size (.slice (some ⟨w.heap.size, 0, none⟩) 1 1) [nm] ∧ Below w.heap.size w (w.alloc (.cells #[.string nm] 9))) := Lib.hid ⟨RowT.one _ _, (Below.refl _ _).alloc (Nat.le_refl _) _⟩
  have HRR := Lib.hid hR
  have HNM := Lib.hid hnm
  rw [hR]
  clear hR hA hN hD hnm hl HA
  go_enter Try.func20, Try.ntmps20
  go_wp2_with fail
  go_loopw [9, 10, 11, 12] (fun v t _ _ wr => ∃ (n : Nat) (pre : List ByteArray) (last : ByteArray) (T : Int), t = .int .i64 T ∧ n ≤ most.toNat ∧ Hid (pre.length + n = most.toNat ∧ last.size ≤ 2000000 ∧ (pre ++ (chainP D n last T).1, (chainP D n last T).2) = R) ∧ Hid (RowT wr w.heap.size v (pre ++ [last]) ∧ Below w.heap.size w wr)) (fun v _ _ _ _ => 2000 - (match v with | .slice _ n _ => n | _ => 0))
  case atStart => exact ⟨most.toNat, [], nm, 604800, rfl, Nat.le_refl _, Lib.hid ⟨by simp, HNM.out, by simpa using HRR.out⟩, HR⟩
  case round =>
    clear HR HRR
    obtain ⟨n, pre, last, T, rfl, hn, HI, HW⟩ := hrel
    obtain ⟨g, cap, rfl, hg, hlc⟩ := HW.out.1.last
    obtain ⟨L, hL⟩ : ∃ L, pre.length = L := ⟨_, rfl⟩
    have HL := Lib.hid hL
    have hLn : L + n = most.toNat := by rw [← hL]; exact HI.out.1
    have hLm : L ≤ 1000 := by omega
    rw [hL] at hlc ⊢
    have HO := HST last wr HI.out.2.1 HW.out.2
    clear hL
    have hi1 : (0 : Int) ≤ (L : Int) := by omega
    have hi2 : (L : Int) < (L : Int) + 1 := by omega
    cases enx : nextR D last with
    | none =>
      have HE : Hid ((pre ++ [last], T, true) = R) := Lib.hid (by have := HI.out.2.2; rw [chain_none enx] at this; exact this)
      rw [enx] at HO
      clear enx HST
      go_wp2_with fail
      refine HO.out.mono ?_
      rintro e w1 ⟨rfl, hb⟩
      have HW1 : Hid (RowT w1 w.heap.size (.slice (some ⟨g, 0, none⟩) (L + 1) cap) (pre ++ [last]) ∧ Below w.heap.size w w1) := Lib.hid (by
        have h1 := HW.out.1.below hb
        rw [HL.out] at h1
        exact ⟨h1, chain HW.out.2 hb⟩)
      have HZ := Lib.hid (rec_zeroed w1)
      have Z16 : Hid (zR.b.length = 16) := Lib.hid rfl
      unfold stepV
      clear hb HO HW hlc
      go_wp2_with (refine store_rec HZ _ _ Z16 rfl rfl rfl rfl (fun W3 HW3 HE3 => ?_))
      have hb3 := below_newR HW3
      have hr3 := HW1.out.1.below hb3
      have hbw := chain HW1.out.2 hb3
      go_ret3
      rw [← HE.out]
      exact ⟨_, rfl, hr3, hbw⟩
    | some r =>
      have HE : Hid (n = 0 → (pre ++ [last], T, false) = R) := Lib.hid (fun e => by have := HI.out.2.2; rw [e, chain_zero enx] at this; exact this)
      have HS : Hid (∀ m, n = m + 1 → ((pre ++ [last]) ++ (chainP D m r.tg (min T r.ttl)).1, (chainP D m r.tg (min T r.ttl)).2) = R) := Lib.hid (fun m e => by have := HI.out.2.2; rw [e, chain_succ enx] at this; rw [← this]; simp)
      have HT : Hid (r.tg.size ≤ 2000000) := Lib.hid (HD.out r (next_mem enx).1).2
      have R16 : Hid (r.b.length = 16) := Lib.hid (HFI.out r (next_mem enx).1)
      rw [enx] at HO
      clear enx HST
      go_wp2_with fail
      refine HO.out.mono ?_
      rintro e w1 ⟨rfl, hb⟩
      have HW1 : Hid (RowT w1 w.heap.size (.slice (some ⟨g, 0, none⟩) (L + 1) cap) (pre ++ [last]) ∧ Below w.heap.size w w1) := Lib.hid (by
        have h1 := HW.out.1.below hb
        rw [HL.out] at h1
        exact ⟨h1, chain HW.out.2 hb⟩)
      have HZ := Lib.hid (rec_zeroed w1)
      unfold stepV
      have HGL : Hid (g < w1.heap.size) := Lib.hid (Nat.lt_of_lt_of_le hg hb.size)
      clear hb HO HW hlc hg
      by_cases hn0 : n = 0
      · have HE2 := Lib.hid (HE.out hn0)
        have hd : decide (most < (L : Int) + 1) = true := decide_eq_true (by omega)
        clear HE HS
        go_wp2_with (refine store_rec HZ _ _ R16 rfl rfl rfl rfl (fun W3 HW3 HE3 => ?_))
        have hb3 := below_newR HW3
        have hr3 := HW1.out.1.below hb3
        have hbw := chain HW1.out.2 hb3
        go_ret3
        rw [← HE2.out]
        exact ⟨_, rfl, hr3, hbw⟩
      · obtain ⟨m, hm1⟩ : ∃ m, n = m + 1 := ⟨n - 1, by omega⟩
        have HS2 := Lib.hid (HS.out m hm1)
        have hd : decide (most < (L : Int) + 1) = false := decide_eq_false (by omega)
        obtain ⟨T1, hT1⟩ : ∃ T1, min T r.ttl = T1 := ⟨_, rfl⟩
        rw [hT1] at HS2
        have HT1 := Lib.hid hT1
        clear HE HS hT1
        go_upto_region 7 with (refine store_rec HZ _ _ R16 rfl rfl rfl rfl (fun W3 HW3 HE3 => ?_))
        have hb3 := (below_newR HW3).drew
        have HR3 : Hid (RowT W3.drew w.heap.size (.slice (some ⟨g, 0, none⟩) (L + 1) cap) (pre ++ [last])) := Lib.hid (HW1.out.1.below hb3)
        have HB3 : Hid (Below w.heap.size w W3.drew) := Lib.hid (chain HW1.out.2 hb3)
        have HX3 := Lib.hid (HE3.out.below (Below.refl _ _).drew)
        obtain ⟨G, hG⟩ : ∃ G, w1.heap.size = G := ⟨_, rfl⟩
        have HG2 : Hid (g < G ∧ w.heap.size ≤ G) := Lib.hid ⟨by rw [← hG]; exact HGL.out, by rw [← hG]; exact HW1.out.2.size⟩
        rw [hG] at HX3
        try rw [hG]
        clear hb3 HW3 HE3 HZ hG HGL HW1
        obtain ⟨S, hS⟩ : ∃ S : World → Prop, (fun U => U.cell? ⟨G, 21, none⟩ = some (.string r.tg) ∧ U.cell? ⟨G, 3, none⟩ = some (.int .i64 r.ttl)) = S := ⟨_, rfl⟩
        have C1 : Hid (∀ w', S w' → w'.cell? ⟨G, 21, none⟩ = some (.string r.tg)) := Lib.hid (fun w' h => by rw [← hS] at h; exact h.1)
        have C2 : Hid (∀ w', S w' → w'.cell? ⟨G, 3, none⟩ = some (.int .i64 r.ttl)) := Lib.hid (fun w' h => by rw [← hS] at h; exact h.2)
        have HSI : Hid (∀ U, RecAt U G r → S U) := Lib.hid (fun U h => by rw [← hS]; exact ⟨by have := h.parts.tg; simpa using this, by have := h.parts.ttl; simpa using this⟩)
        clear hS
        refine wp_region_noPanic ?_
        refine wp_region_held_drew (S := S) (by kernel_rfl) (HSI.out _ HX3.out) (fun hHeld => ?_)
        generalize W3.drew = V at *
        refine wpAnyH_take (i := 0) (v := ?_) rfl (by kernel_rfl) (by kernel_rfl) (by kernel_rfl) (fun _ _ _ h => h) (Or.inl ⟨by rfl, ?_⟩) (by assumption) ?_
        rotate_left
        · (intro w hSw; go_simp; try (with_reducible rfl))
        try simp only [Act.put, List.getElem_toArray, List.getElem_cons_zero, List.setIfInBounds_toArray, List.set_cons_zero, List.set_cons_succ]
        refine wpAnyH_take (i := 1) (v := ?_) rfl (by kernel_rfl) (by kernel_rfl) (by kernel_rfl) (fun _ _ _ h => h) (Or.inl ⟨by rfl, ?_⟩) (by assumption) ?_
        rotate_left
        · (intro w hSw; go_simp; try (with_reducible rfl))
        try simp only [Act.put, List.getElem_toArray, List.getElem_cons_zero, List.getElem_cons_succ, List.setIfInBounds_toArray, List.set_cons_zero, List.set_cons_succ]
        refine wpAnyH_take (i := 2) (v := ?_) rfl (by kernel_rfl) (by kernel_rfl) (by kernel_rfl) (fun _ _ _ h => h) (Or.inl ⟨by rfl, ?_⟩) (by assumption) ?_
        rotate_left
        · (intro w hSw; have hc0 := C1.out w hSw; go_simp; try (with_reducible rfl))
        try simp only [Act.put, List.getElem_toArray, List.getElem_cons_zero, List.getElem_cons_succ, List.setIfInBounds_toArray, List.set_cons_zero, List.set_cons_succ]
        refine wpAnyH_take (i := 5) (v := ?_) rfl (by kernel_rfl) (by kernel_rfl) (by kernel_rfl) (fun _ _ _ h => h) (Or.inl ⟨by rfl, ?_⟩) (by assumption) ?_
        rotate_left
        · (intro w hSw; go_simp; try (with_reducible rfl))
        try simp only [Act.put, List.getElem_toArray, List.getElem_cons_zero, List.getElem_cons_succ, List.setIfInBounds_toArray, List.set_cons_zero, List.set_cons_succ]
        refine wpAnyH_take (i := 6) (v := ?_) rfl (by kernel_rfl) (by kernel_rfl) (by kernel_rfl) (fun _ _ _ h => h) (Or.inl ⟨by rfl, ?_⟩) (by assumption) ?_
        rotate_left
        · (intro w hSw; go_simp; try (with_reducible rfl))
        try simp only [Act.put, List.getElem_toArray, List.getElem_cons_zero, List.getElem_cons_succ, List.setIfInBounds_toArray, List.set_cons_zero, List.set_cons_succ]
        refine wpAnyH_take (i := 7) (v := ?_) rfl (by kernel_rfl) (by kernel_rfl) (by kernel_rfl) (fun _ _ _ h => h) (Or.inl ⟨by rfl, ?_⟩) (by assumption) ?_
        rotate_left
        · (intro w hSw; have hc0 := C2.out w hSw; go_simp; try (with_reducible rfl))
        try simp only [Act.put, List.getElem_toArray, List.getElem_cons_zero, List.getElem_cons_succ, List.setIfInBounds_toArray, List.set_cons_zero, List.set_cons_succ]
        refine wpAnyH_take (i := 8) rfl (by kernel_rfl) (by kernel_rfl) (by kernel_rfl) (fun _ _ _ h => h) (yields_min (by rfl) _ _ rfl rfl rfl) (by assumption) ?_
        try simp only [Act.put, List.getElem_toArray, List.getElem_cons_zero, List.getElem_cons_succ, List.setIfInBounds_toArray, List.set_cons_zero, List.set_cons_succ]
        rw [HT1.out]
        refine wpAnyH_ready (rs := [3]) (by kernel_rfl) (by simp) ?_
        refine ready_one rfl rfl (fun K hK => ?_)
        go_wp2_with fail
        have hb5 : Below V.heap.size V (V.alloc (.cells #[.string r.tg] 9)) := (Below.refl _ _).alloc (Nat.le_refl _) _
        have HM5 : Hid ((V.alloc (.cells #[.string r.tg] 9)).cell? ⟨V.heap.size, 0, none⟩ = some (.string r.tg)) := Lib.hid (by rw [World.cell?_alloc_new]; rfl)
        have HR5 := Lib.hid (HR3.out.below hb5)
        have HB5 := Lib.hid (chain HB3.out hb5)
        have HX5 := Lib.hid (HX3.out.below hb5)
        refine hK.out _ _ (HSI.out _ HX5.out) (fun hHeld5 => ?_)
        clear hK K
        try simp only [Act.put, List.getElem_toArray, List.getElem_cons_zero, List.getElem_cons_succ, List.setIfInBounds_toArray, List.set_cons_zero, List.set_cons_succ]
        generalize V.alloc (.cells #[.string r.tg] 9) = V5 at *
        have hll : (pre ++ [last]).length = L + 1 := by rw [List.length_append, HL.out]; rfl
        have HN5 : Hid ((pre ++ [last]).length ≤ 2000000 ∧ w.heap.size ≤ V5.heap.size) := Lib.hid ⟨by rw [hll]; omega, HB5.out.size⟩
        refine wpAnyH_ready (rs := [4]) (by kernel_rfl) (by simp) ?_
        refine ready_one rfl rfl (fun K hK => ?_)
        refine wp_append_str HR5 HM5 HN5 _ _ rfl rfl rfl (fun v' V6 h1 h2 h3 => ?_)
        have HB6 : Hid (Below w.heap.size w V6) := Lib.hid (HB5.out.grown h2.out HB5.out.size (fun k hk => (HR5.out.lt k hk).1))
        have HX6 : Hid (RecAt V6 G r) := Lib.hid (HX5.out.same h3.out.size (h3.out.keep G HX5.out.lt (by have := HG2.out.1; simp [Value.ownBlock]; omega)))
        have HR6 : Hid (RowT V6 w.heap.size v' ((pre ++ [last]) ++ [r.tg])) := h1
        refine hK.out _ _ (HSI.out _ HX6.out) (fun hHeld6 => ?_)
        clear hK K
        try simp only [Act.put, List.getElem_toArray, List.getElem_cons_zero, List.getElem_cons_succ, List.setIfInBounds_toArray, List.set_cons_zero, List.set_cons_succ]
        refine wpAnyH_take (i := 9) (v := ?_) rfl (by kernel_rfl) (by kernel_rfl) (by kernel_rfl) (fun _ _ _ h => h) (Or.inl ⟨by rfl, ?_⟩) (by assumption) ?_
        rotate_left
        · (intro w hSw; go_simp; try (with_reducible rfl))
        try simp only [Act.put, List.getElem_toArray, List.getElem_cons_zero, List.getElem_cons_succ, List.setIfInBounds_toArray, List.set_cons_zero, List.set_cons_succ]
        refine wpAnyH_take (i := 10) (v := ?_) rfl (by kernel_rfl) (by kernel_rfl) (by kernel_rfl) (fun _ _ _ h => h) (Or.inl ⟨by rfl, ?_⟩) (by assumption) ?_
        rotate_left
        · (intro w hSw; go_simp; try (with_reducible rfl))
        try simp only [Act.put, List.getElem_toArray, List.getElem_cons_zero, List.getElem_cons_succ, List.setIfInBounds_toArray, List.set_cons_zero, List.set_cons_succ]
        refine wpAnyH_done (by kernel_rfl) ?_ _
        refine NoPanic.normal ?_
        obtain ⟨g4, c4, rfl, _, _⟩ := HR6.out.last
        rw [hll] at HR6 ⊢
        clear h1 h2 h3 hHeld hHeld5 hHeld6 HX5 HX6 HR5 HB5 HM5 HN5 C1 C2 HSI HX3 HR3 HB3
        go_wp2_with fail
        go_roundw
        case rel => exact ⟨m, pre ++ [last], r.tg, T1, rfl, by omega, Lib.hid ⟨by rw [hll]; omega, HT.out, HS2.out⟩, Lib.hid ⟨HR6.out, HB6.out⟩⟩
        case measure => simp; omega
end Go.Proofs.Ytmecdhlehekdeaa
