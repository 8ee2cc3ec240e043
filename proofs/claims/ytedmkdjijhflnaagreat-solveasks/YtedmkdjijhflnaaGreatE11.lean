/- Texts that belong together, one behind the other: RefWireRecB. -/
import Derived.Test.YtedmkdjijhflnaaGreatE10
set_option linter.unusedVariables false
set_option linter.unusedSimpArgs false
set_option maxRecDepth 20000
namespace Go.Proofs.YtedmkdjijhflnaaGreat
open Go.RowKit Go.Maps

theorem rec_cells {w : World} {G : Nat} {r : Rec} (h : w.rangeAt G 0 (recL r)) (h16 : r.b.length = 16) : w.cell? ⟨G, 0, none⟩ = some (.string r.name) ∧ w.cell? ⟨G, 1, none⟩ = some (.int .i64 r.ty) ∧ w.cell? ⟨G, 2, none⟩ = some (.int .i64 r.cl) ∧ w.cell? ⟨G, 3, none⟩ = some (.int .i64 r.ttl) ∧ w.rangeAt G 4 (addrL r.f r.b) ∧ w.cell? ⟨G, 21, none⟩ = some (.string r.tg) ∧ w.cell? ⟨G, 22, none⟩ = some (.string r.da) := by
  have := rec_parts h h16
  have h1 := this.ty
  have h2 := this.cl
  have h3 := this.ttl
  have h4 := this.addr
  have h5 := this.tg
  have h6 := this.da
  rw [Nat.zero_add] at h1 h2 h3 h4 h5 h6
  exact ⟨this.name, h1, h2, h3, h4, h5, h6⟩
theorem load_W9r {ops : Array Oper} {rest : List Oper} {op : Oper} {a : Act} {w : World} {Q : Exit → Act → World → Prop} {G : Nat} {vs : List Value} (hA : Hid (w.rangeAt G 0 vs)) (hl : vs.length = 3) (x : Operand) (hw : Region.wanted op (yielded ops a.tmps) = true) (ho : op.op = .load 133 x)
    (hx : a.eval x = .pointer (some ⟨G, 0, none⟩)) (h : wpList Tryz.prog ops Q rest (a.put op.dst (.agg vs.toArray)) w) : wpList Tryz.prog ops Q (op :: rest) a w :=
  wpList_load_row hw 133 x ho G 0 hx vs _ hA.out Tryz.underlying133 rfl (by rw [w_size, hl]) h
theorem daR_1 {t : Wst} {r : Rec} (h : r.ty = 1) : daR t r = (byB (r.b.take 4), (nmT r.name t.1.length t.2.1 t.2.2).2) := by unfold daR daT; rw [if_pos h]
theorem daR_28 {t : Wst} {r : Rec} (h : r.ty = 28) : daR t r = (byB r.b, (nmT r.name t.1.length t.2.1 t.2.2).2) := by unfold daR daT; rw [if_neg (by omega), if_pos h]
theorem daR_5 {t : Wst} {r : Rec} (h : r.ty = 5) : daR t r = nmT r.tg (atR t r) (nmT r.name t.1.length t.2.1 t.2.2).2.1 (nmT r.name t.1.length t.2.1 t.2.2).2.2 := by unfold daR daT; rw [if_neg (by omega), if_neg (by omega), if_pos h]
theorem daR_o {t : Wst} {r : Rec} (h1 : r.ty ≠ 1) (h2 : r.ty ≠ 28) (h3 : r.ty ≠ 5) : daR t r = (r.da.data.toList, (nmT r.name t.1.length t.2.1 t.2.2).2) := by unfold daR daT; rw [if_neg h1, if_neg h2, if_neg h3]
set_option maxRecDepth 100000 in
set_option maxHeartbeats 8000000 in
theorem refRec9W_any (vB vN vA : Value) (t : Wst) (KN : Nat) (r : Rec) (w : World) (B : Nat) (h : W3 w B vB vN vA t) (hB : B ≤ w.heap.size) (hK : Wok KN t) (hk : KN ≤ 900000) (hm : mayR r = true) (hfit : Fit r) :
    Calls Tryz.prog 57 #[.agg #[vB, vN, vA], recV r] w (PutRet w B (blk3 vB vN vA) (rW t r).1 (rW t r).2.1 (rW t r).2.2) := by
  have MR := mayRec hm
  have H16 := Lib.hid hfit.1
  have HLT := Lib.hid hfit.2.1
  obtain ⟨nm, ty, cl, ttl, f, b, tg, da⟩ := r
  obtain ⟨ty, rfl⟩ : ∃ n : Nat, ty = (n : Int) := ⟨ty.toNat, by have := MR.ty; simp only at this; omega⟩
  obtain ⟨cl, rfl⟩ : ∃ n : Nat, cl = (n : Int) := ⟨cl.toNat, by have := MR.cl; simp only at this; omega⟩
  obtain ⟨ttl, rfl⟩ : ∃ n : Nat, ttl = (n : Int) := ⟨ttl.toNat, by have := MR.ttl; simp only at this; omega⟩
  have hty : ty ≤ 65535 := by have := MR.ty.2; simp only at this; omega
  have hcl : cl ≤ 65535 := by have := MR.cl.2; simp only at this; omega
  have htt : ttl ≤ 2147483647 := by have := MR.ttl.2; simp only at this; omega
  have hda : da.size ≤ 65535 := MR.da
  have HNUM : Hid (ty ≤ 65535 ∧ cl ≤ 65535 ∧ ttl ≤ 2147483647 ∧ da.size ≤ 65535) := Lib.hid ⟨hty, hcl, htt, hda⟩
  have HNM : Hid (mayN nm = true) := Lib.hid MR.name
  have HTG : Hid (ty = 5 → mayN tg = true) := Lib.hid (fun e => MR.tg (by simp only; omega))
  have HK := Lib.hid hK
  have HKK := Lib.hid hk
  obtain ⟨r, hr⟩ : ∃ r : Rec, (⟨nm, (ty : Int), (cl : Int), (ttl : Int), f, b, tg, da⟩ : Rec) = r := ⟨_, rfl⟩
  have HR := Lib.hid hr.symm
  have HRC : ∀ (V : World) (G : Nat), V.rangeAt G 0 (recL r) → V.cell? ⟨G, 0, none⟩ = some (.string nm) ∧ V.cell? ⟨G, 1, none⟩ = some (.int .i64 (ty : Int)) ∧ V.cell? ⟨G, 2, none⟩ = some (.int .i64 (cl : Int)) ∧ V.cell? ⟨G, 3, none⟩ = some (.int .i64 (ttl : Int)) ∧ V.rangeAt G 4 (addrL f b) ∧ V.cell? ⟨G, 21, none⟩ = some (.string tg) ∧ V.cell? ⟨G, 22, none⟩ = some (.string da) := fun V G hv => by
    rw [← hr] at hv
    exact rec_cells hv H16.out
  replace HRC := Lib.hid HRC
  rw [hr]
  obtain ⟨vr, hvr⟩ : ∃ vr, recL r = vr := ⟨_, rfl⟩
  rw [hvr] at HRC
  have hrv : recV r = .agg vr.toArray := by rw [← hvr]; rfl
  rw [hrv]
  have HS0 : Hid (St9 w B (blk3 vB vN vA) [(w.heap.size + 1 + 1, 0, zW), (w.heap.size + 1, 0, vr), (w.heap.size, 0, [vB, vN, vA])] vB vN vA t (((w.alloc (.cells [vB, vN, vA].toArray 133)).alloc (.cells vr.toArray 71)).alloc (.cells zW.toArray 133))) := Lib.hid (by
    have := (((St9.begin h hB).alloc [vB, vN, vA] 133).alloc vr 71).alloc zW 133
    simpa using this)
  obtain ⟨G0, hG0⟩ : ∃ G, w.heap.size = G := ⟨_, rfl⟩
  have HG0 := Lib.hid hG0
  obtain ⟨W, hW⟩ : ∃ W, ((w.alloc (.cells #[vB, vN, vA] 133)).alloc (.cells vr.toArray 71)).alloc (.cells #[.slice none 0 0, .slice none 0 0, .slice none 0 0] 133) = W := ⟨_, rfl⟩
  have HS : Hid (St9 w B (blk3 vB vN vA) [(w.heap.size + 1 + 1, 0, zW), (w.heap.size + 1, 0, vr), (w.heap.size, 0, [vB, vN, vA])] vB vN vA t W) := Lib.hid (by rw [← hW]; exact HS0.out)
  have hsz : W.heap.size = w.heap.size + 1 + 1 + 1 := by rw [← hW]; simp
  have HSZ := Lib.hid hsz
  rw [hG0] at HS HSZ
  clear h hB hK hk hm hfit MR hr hvr hrv hty hcl htt hda HS0 hsz
  go_enter Tryz.func57, Tryz.ntmps57
  go_upto_region 1 with fail
  try rw [hW]
  clear hW
  try rw [hG0]
  clear hG0
  have HL0 := Lib.hid (HS.out.cells (G := G0) (vs := [vB, vN, vA]) (by simp)).range
  have cn := (HRC.out W (G0 + 1) (HS.out.cells (G := G0 + 1) (vs := vr) (by simp)).range).1
  go_wp2_with (refine load_W9r HL0 rfl _ rfl rfl rfl ?_)
  refine (HS.out.namec HNM.out HK.out (by have := HKK.out; omega)).mono ?_
  rintro e w1 ⟨b1, n1, a1, rfl, hs1⟩
  have HNT := Lib.hid (nmT_is HNM.out t.1.length t.2.1 t.2.2)
  have HK1 := Lib.hid (HK.out.nm HNM.out)
  obtain ⟨T1, hT1⟩ : ∃ T : Wst, (t.1 ++ (nmT nm t.1.length t.2.1 t.2.2).1, (nmT nm t.1.length t.2.1 t.2.2).2) = T := ⟨_, rfl⟩
  have HT1 := Lib.hid hT1.symm
  rw [hT1] at hs1 HK1
  have HSZ1 : Hid (W.heap.size ≤ w1.heap.size) := Lib.hid (by have := (hs1.kept.lt _ (List.mem_cons_self ..)); have := HSZ.out; simp only at *; omega)
  have HS1 := Lib.hid (hs1.alloc zW 133)
  have HOW := hs1.rows.one
  clear hs1 hT1 HL0 cn HS HNT
  have HZ : Hid (CellsAt (w1.alloc (.cells zW.toArray 133)) w1.heap.size zW) := Lib.hid (CellsAt.new _ _ _)
  go_upto_region 2 with (have HZ2 := HZ; refine store_W9 HZ2 rfl _ _ rfl rfl rfl rfl rfl HOW (fun W2 HW2 HX2 => ?_); clear HZ)
  have HS2 : Hid (St9 w B (blk3 vB vN vA) [(w1.heap.size, 0, [b1, n1, a1]), (G0 + 1 + 1, 0, zW), (G0 + 1, 0, vr), (G0, 0, [vB, vN, vA])] b1 n1 a1 T1 W2) := Lib.hid (by
    rw [HW2.out]
    refine HS1.out.set (fun x hx => ?_) (by have := HSZ1.out; have := HSZ.out; have := HG0.out; omega) _ rfl
    have h1 := HSZ1.out
    have h2 := HSZ.out
    simp at hx
    rcases hx with rfl | rfl | rfl <;> (simp only; omega))
  have HG5 : Hid (G0 + 1 + 1 < w1.heap.size) := Lib.hid (by have := HSZ1.out; have := HSZ.out; omega)
  generalize w1.heap.size = G5 at *
  clear HS1 HW2 HX2 HZ2 HSZ1 HOW
  obtain ⟨L2, hL2⟩ : ∃ L2 : List (Nat × Nat × List Value), [(G5, 0, [b1, n1, a1]), (G0 + 1, 0, vr)] = L2 := ⟨_, rfl⟩
  have HS : Hid (St9 w B (blk3 vB vN vA) ((G0, 0, [vB, vN, vA]) :: (G0 + 1 + 1, 0, zW) :: L2) b1 n1 a1 T1 W2.drew) := Lib.hid (HS2.out.sub (fun x hx => by rcases List.mem_cons.1 hx with rfl | hx; (exact by simp); rcases List.mem_cons.1 hx with rfl | hx; (exact by simp); (rw [← hL2] at hx; simp at hx; rcases hx with rfl | rfl <;> simp))).drew
  have HI5 : Hid ((G5, 0, [b1, n1, a1]) ∈ L2 ∧ [b1, n1, a1].length = 3) := Lib.hid ⟨by rw [← hL2]; simp, rfl⟩
  have HI1 : Hid ((G0 + 1, 0, vr) ∈ L2) := Lib.hid (by rw [← hL2]; simp)
  have HN0 : Hid (∀ x ∈ L2, x.1 ≠ G0 ∧ x.1 ≠ G0 + 1 + 1) := Lib.hid (fun x hx => by have := HG5.out; rw [← hL2] at hx; simp at hx; rcases hx with rfl | rfl <;> (simp only; omega))
  have HSS : Hid (∀ us V, HeldS ((G0, 0, us) :: (G0 + 1 + 1, 0, zW) :: L2) V → HeldS L2 V) := Lib.hid (fun us V hv x hx => hv x (List.mem_cons_of_mem _ (List.mem_cons_of_mem _ hx)))
  have C1 : Hid (∀ V, HeldS L2 V → V.cell? ⟨G0 + 1, 1, none⟩ = some (.int .i64 (ty : Int))) := Lib.hid (fun V hv => (HRC.out V _ (hv _ HI1.out)).2.1)
  have C2 : Hid (∀ V, HeldS L2 V → V.cell? ⟨G0 + 1, 2, none⟩ = some (.int .i64 (cl : Int))) := Lib.hid (fun V hv => (HRC.out V _ (hv _ HI1.out)).2.2.1)
  have C3 : Hid (∀ V, HeldS L2 V → V.cell? ⟨G0 + 1, 3, none⟩ = some (.int .i64 (ttl : Int))) := Lib.hid (fun V hv => (HRC.out V _ (hv _ HI1.out)).2.2.2.1)
  have HKL : Hid (T1.1.length ≤ 917000) := Lib.hid (by have := HK1.out.len; have := HKK.out; omega)
  clear hL2 HS2
  refine wp_region_noPanic ?_
  refine wp_region_held_drew (S := HeldS L2) (by kernel_rfl) (HSS.out _ _ HS.out.kept.at0) (fun hHeld => ?_)
  generalize W2.drew = U at *
  refine wpAnyH_take (i := 0) rfl (by kernel_rfl) (by kernel_rfl) (by kernel_rfl) (fun _ _ _ h => h) (yields_W9 HI5 (by rfl) _ rfl rfl) (by assumption) ?_
  try simp only [Act.put, pZ]
  refine tkT 1 ?_ rfl (Or.inl ⟨by rfl, ?_⟩) ?_
  rotate_left
  · (intro w hSw; go_simp; try (with_reducible rfl))
  try simp only [Act.put, pZ]
  refine tkT 2 ?_ rfl (Or.inl ⟨by rfl, ?_⟩) ?_
  rotate_left
  · (intro w hSw; have hc0 := C1.out w hSw; go_simp; try (with_reducible rfl))
  try simp only [Act.put, pZ]
  refine tkT 5 ?_ rfl (Or.inl ⟨by rfl, ?_⟩) ?_
  rotate_left
  · (intro w hSw; go_simp; try (with_reducible rfl))
  try simp only [Act.put, pZ]
  refine tkT 6 ?_ rfl (Or.inl ⟨by rfl, ?_⟩) ?_
  rotate_left
  · (intro w hSw; have hc0 := C2.out w hSw; go_simp; try (with_reducible rfl))
  try simp only [Act.put, pZ]
  refine tkT 9 ?_ rfl (Or.inl ⟨by rfl, ?_⟩) ?_
  rotate_left
  · (intro w hSw; go_simp; try (with_reducible rfl))
  try simp only [Act.put, pZ]
  refine tkT 10 ?_ rfl (Or.inl ⟨by rfl, ?_⟩) ?_
  rotate_left
  · (intro w hSw; have hc0 := C3.out w hSw; go_simp; try (with_reducible rfl))
  try simp only [Act.put, pZ]
  refine tkT 11 ?_ rfl (Or.inl ⟨by rfl, ?_⟩) ?_
  rotate_left
  · (intro w hSw; go_simp; try (with_reducible rfl))
  try simp only [Act.put, pZ]
  refine tkT 14 ?_ rfl (Or.inl ⟨by rfl, ?_⟩) ?_
  rotate_left
  · (intro w hSw; go_simp; try (with_reducible rfl))
  try simp only [Act.put, pZ]
  refine tkT 15 ?_ rfl (Or.inl ⟨by rfl, ?_⟩) ?_
  rotate_left
  · (intro w hSw; have hc0 := C3.out w hSw; go_simp; try (with_reducible rfl))
  try simp only [Act.put, pZ]
  refine tkT 16 ?_ rfl (Or.inl ⟨by rfl, ?_⟩) ?_
  rotate_left
  · (intro w hSw; go_simp; try (with_reducible rfl))
  try simp only [Act.put, pZ]
  obtain ⟨q1, hq1⟩ : ∃ q, IntKind.i64.wrap ((ttl : Int) / 65536) = q := ⟨_, rfl⟩
  obtain ⟨q2, hq2⟩ : ∃ q, (ttl : Int).tmod 65536 = q := ⟨_, rfl⟩
  rw [hq1, hq2]
  have HQ1 : Hid (((ttl / 65536 : Nat) : Int) = q1) := Lib.hid (by rw [← hq1]; have := HNUM.out; rw [IntKind.wrap_i64]; omega)
  have HQ2 : Hid (((ttl % 65536 : Nat) : Int) = q2) := Lib.hid (by rw [← hq2]; rfl)
  clear hq1 hq2
  have HTW := Lib.hid (HS.out.twoc (n := ty) (by have := HNUM.out; omega))
  refine wpAnyH_ready (rs := [3]) (by kernel_rfl) (by simp) ?_
  refine AllReadyH.cons rfl (fun K hK => ?_) AllReadyH.nil
  go_simp
  refine HTW.out.mono ?_
  rintro e wt3 ⟨rfl, hm, hs⟩
  have HM := Lib.hid hm
  replace HS := Lib.hid hs
  clear hm hs HTW
  go_wp2_with fail
  refine hK.out _ _ (HSS.out _ _ HS.out.kept.at0) (fun hHeldt3 => ?_)
  clear hK K
  try simp only [Act.put, pZ]
  refine wpAnyH_ready (rs := [4]) (by kernel_rfl) (by simp) ?_
  refine AllReadyH.cons rfl (fun K hK => ?_) AllReadyH.nil
  go_simp
  refine (HS.out.putc HM.out (by (try simp only [List.length_append]); (try simp only [twoL_len]); have := HKL.out; omega) rfl).mono ?_
  rintro e wp4 ⟨b4, n4, a4, rfl, hs⟩
  replace HS := Lib.hid hs
  clear hs HM
  go_wp2_with fail
  refine hK.out _ _ (HSS.out _ _ HS.out.kept.at0) (fun hHeldp4 => ?_)
  clear hK K
  try simp only [Act.put, pZ]
  have HTW := Lib.hid (HS.out.twoc (n := cl) (by have := HNUM.out; omega))
  refine wpAnyH_ready (rs := [7]) (by kernel_rfl) (by simp) ?_
  refine AllReadyH.cons rfl (fun K hK => ?_) AllReadyH.nil
  go_simp
  refine HTW.out.mono ?_
  rintro e wt7 ⟨rfl, hm, hs⟩
  have HM := Lib.hid hm
  replace HS := Lib.hid hs
  clear hm hs HTW
  go_wp2_with fail
  refine hK.out _ _ (HSS.out _ _ HS.out.kept.at0) (fun hHeldt7 => ?_)
  clear hK K
  try simp only [Act.put, pZ]
  refine wpAnyH_ready (rs := [8]) (by kernel_rfl) (by simp) ?_
  refine AllReadyH.cons rfl (fun K hK => ?_) AllReadyH.nil
  go_simp
  refine (HS.out.putc HM.out (by (try simp only [List.length_append]); (try simp only [twoL_len]); have := HKL.out; omega) rfl).mono ?_
  rintro e wp8 ⟨b8, n8, a8, rfl, hs⟩
  replace HS := Lib.hid hs
  clear hs HM
  go_wp2_with fail
  refine hK.out _ _ (HSS.out _ _ HS.out.kept.at0) (fun hHeldp8 => ?_)
  clear hK K
  try simp only [Act.put, pZ]
  have HTW := Lib.hid (HS.out.twoc (n := ttl / 65536) (by have := HNUM.out; omega))
  rw [show ((ttl / 65536 : Nat) : Int) = q1 by exact HQ1.out] at HTW
  refine wpAnyH_ready (rs := [12]) (by kernel_rfl) (by simp) ?_
  refine AllReadyH.cons rfl (fun K hK => ?_) AllReadyH.nil
  go_simp
  refine HTW.out.mono ?_
  rintro e wt12 ⟨rfl, hm, hs⟩
  have HM := Lib.hid hm
  replace HS := Lib.hid hs
  clear hm hs HTW
  go_wp2_with fail
  refine hK.out _ _ (HSS.out _ _ HS.out.kept.at0) (fun hHeldt12 => ?_)
  clear hK K
  try simp only [Act.put, pZ]
  refine wpAnyH_ready (rs := [13]) (by kernel_rfl) (by simp) ?_
  refine AllReadyH.cons rfl (fun K hK => ?_) AllReadyH.nil
  go_simp
  refine (HS.out.putc HM.out (by (try simp only [List.length_append]); (try simp only [twoL_len]); have := HKL.out; omega) rfl).mono ?_
  rintro e wp13 ⟨b13, n13, a13, rfl, hs⟩
  replace HS := Lib.hid hs
  clear hs HM
  go_wp2_with fail
  refine hK.out _ _ (HSS.out _ _ HS.out.kept.at0) (fun hHeldp13 => ?_)
  clear hK K
  try simp only [Act.put, pZ]
  have HTW := Lib.hid (HS.out.twoc (n := ttl % 65536) (by omega))
  rw [show ((ttl % 65536 : Nat) : Int) = q2 by exact HQ2.out] at HTW
  refine wpAnyH_ready (rs := [17]) (by kernel_rfl) (by simp) ?_
  refine AllReadyH.cons rfl (fun K hK => ?_) AllReadyH.nil
  go_simp
  refine HTW.out.mono ?_
  rintro e wt17 ⟨rfl, hm, hs⟩
  have HM := Lib.hid hm
  replace HS := Lib.hid hs
  clear hm hs HTW
  go_wp2_with fail
  refine hK.out _ _ (HSS.out _ _ HS.out.kept.at0) (fun hHeldt17 => ?_)
  clear hK K
  try simp only [Act.put, pZ]
  refine wpAnyH_ready (rs := [18]) (by kernel_rfl) (by simp) ?_
  refine AllReadyH.cons rfl (fun K hK => ?_) AllReadyH.nil
  go_simp
  refine (HS.out.putc HM.out (by (try simp only [List.length_append]); (try simp only [twoL_len]); have := HKL.out; omega) rfl).mono ?_
  rintro e wp18 ⟨b18, n18, a18, rfl, hs⟩
  replace HS := Lib.hid hs
  clear hs HM
  go_wp2_with fail
  refine hK.out _ _ (HSS.out _ _ HS.out.kept.at0) (fun hHeldp18 => ?_)
  clear hK K
  try simp only [Act.put, pZ]
  refine wpAnyH_ready (rs := [19]) (by kernel_rfl) (by simp) ?_
  refine ready_one rfl rfl (fun K hK => ?_)
  have HC0 := Lib.hid (HS.out.cells (List.mem_cons_self ..))
  refine wp_store_W9 HC0 rfl _ _ rfl rfl rfl rfl HS.out.rows.one (fun Va HV HVC => ?_)
  replace HS := HS.out.set (fun x hx => by rcases List.mem_cons.1 hx with rfl | hx; (simp only; omega); exact (HN0.out x hx).1) (by have := HG0.out; omega) [b18, n18, a18] rfl
  rw [← HV.out] at HS
  replace HS := Lib.hid HS
  refine hK.out _ _ (HSS.out _ _ HS.out.kept.at0) (fun hHelda => ?_)
  clear hK K HC0 HV
  try simp only [Act.put, List.getElem_toArray, List.getElem_cons_zero, List.getElem_cons_succ]
  refine wpAnyH_done (by kernel_rfl) ?_ _
  refine NoPanic.normal ?_
  obtain ⟨T2, hT2⟩ : ∃ T : Wst, (T1.1 ++ twoL ty ++ twoL cl ++ twoL (ttl / 65536) ++ twoL (ttl % 65536), T1.2) = T := ⟨_, rfl⟩
  have HK2 := Lib.hid ((((HK1.out.put (twoL ty)).put (twoL cl)).put (twoL (ttl / 65536))).put (twoL (ttl % 65536)))
  have HT2 := Lib.hid hT2.symm
  obtain ⟨L4, hL4⟩ : ∃ L4, (G0, 0, [b18, n18, a18]) :: L2 = L4 := ⟨_, rfl⟩
  replace HS : Hid (St9 w B (blk3 vB vN vA) ((G0 + 1 + 1, 0, zW) :: L4) b18 n18 a18 T2 Va) := Lib.hid (by
    have := HS.out
    rw [hT2] at this
    refine this.sub (fun x hx => ?_)
    rw [← hL4] at hx
    rcases List.mem_cons.1 hx with rfl | hx
    · simp
    · rcases List.mem_cons.1 hx with rfl | hx
      · simp
      · simp [hx])
  replace HK2 : Hid (Wok (KN + 16300 + 2 + 2 + 2 + 2) T2) := Lib.hid (by have := HK2.out; simp only [twoL_len] at this; rw [hT2] at this; exact this)
  have HI0 : Hid ((G0, 0, [b18, n18, a18]) ∈ L4 ∧ [b18, n18, a18].length = 3) := Lib.hid ⟨by rw [← hL4]; simp, rfl⟩
  replace HI1 : Hid ((G0 + 1, 0, vr) ∈ L4) := Lib.hid (by rw [← hL4]; exact List.mem_cons_of_mem _ HI1.out)
  replace HN0 : Hid (∀ x ∈ L4, x.1 ≠ G0 + 1 + 1) := Lib.hid (fun x hx => by rw [← hL4] at hx; rcases List.mem_cons.1 hx with rfl | hx; (simp only; omega); exact (HN0.out x hx).2)
  replace HSS : Hid (∀ us V, HeldS ((G0 + 1 + 1, 0, us) :: L4) V → HeldS L4 V) := Lib.hid (fun us V hv x hx => hv x (List.mem_cons_of_mem _ hx))
  replace HRC : Hid (∀ V, HeldS L4 V → V.cell? ⟨G0 + 1, 1, none⟩ = some (.int .i64 (ty : Int)) ∧ V.rangeAt (G0 + 1) 4 (addrL f b) ∧ V.cell? ⟨G0 + 1, 21, none⟩ = some (.string tg) ∧ V.cell? ⟨G0 + 1, 22, none⟩ = some (.string da)) := Lib.hid (fun V hv => by
    have := HRC.out V _ (hv _ HI1.out)
    exact ⟨this.2.1, this.2.2.2.2.1, this.2.2.2.2.2.1, this.2.2.2.2.2.2⟩)
  replace HKL : Hid (T2.1.length ≤ 917000) := Lib.hid (by have := HK2.out.len; have := HKK.out; omega)
  have HRW : Hid (∀ d : Wst, daR t r = d → rW t r = (T2.1 ++ twoL d.1.length ++ d.1, d.2)) := Lib.hid (fun d hd => by
    unfold rW
    rw [hd, ← hT2, HT1.out, HR.out]
    simp only [numsR, Int.toNat_natCast, List.append_assoc])
  have HAT : Hid (atR t r = T2.1.length + 2 ∧ (nmT r.name t.1.length t.2.1 t.2.2).2 = T2.2) := Lib.hid (by
    rw [← hT2, HT1.out, HR.out]
    refine ⟨?_, rfl⟩
    unfold atR
    simp only [List.length_append, twoL_len] <;> omega)
  clear hT2 hL4 C1 C2 C3 HI5 hHeld hHelda hHeldt3 hHeldp4 hHeldt7 hHeldp8 hHeldt12 hHeldp13 hHeldt17 hHeldp18 HVC
  have ht := (HRC.out Va (HSS.out _ _ HS.out.kept.at0)).1
  by_cases t1 : ty = 1
  · have tb1 : ((ty : Int) == 1) = true := by rw [t1]; rfl
    go_upto_region 4 with fail
    clear ht
    replace HS := Lib.hid HS.out.drew
    refine wp_region_noPanic ?_
    refine wp_region_held_drew (S := HeldS L4) (by kernel_rfl) (HSS.out _ _ HS.out.kept.at0) (fun hHeld => ?_)
    generalize Va.drew = U4 at *
    have CSL : Hid (∀ V, HeldS L4 V → (Instr.sliceAt 67 (.pointer (some ⟨G0 + 1, 5, none⟩)) none (some (.int .i64 (IntKind.i64.wrap 4))) none).run Tryz.prog V = .ok (.slice (some ⟨G0 + 1, 5, none⟩) 4 16) V) := Lib.hid (fun V _ => by kernel_rfl)
    have HBL : Hid ((byB (b.take 4)).length = 4) := Lib.hid (by rw [byB_len, List.length_take, H16.out]; rfl)
    refine wpAnyH_take (i := 0) rfl (by kernel_rfl) (by kernel_rfl) (by kernel_rfl) (fun _ _ _ h => h) (yields_W9 HI0 (by rfl) _ rfl rfl) (by assumption) ?_
    try simp only [Act.put, pZ]
    refine tkT 3 ?_ rfl (Or.inl ⟨by rfl, ?_⟩) ?_
    rotate_left
    · (intro w hSw; go_simp; try (with_reducible rfl))
    try simp only [Act.put, pZ]
    refine tkT 4 ?_ rfl (Or.inl ⟨by rfl, ?_⟩) ?_
    rotate_left
    · (intro w hSw; go_simp; try (with_reducible rfl))
    try simp only [Act.put, pZ]
    refine tkT 5 ?_ rfl (Or.inl ⟨by rfl, ?_⟩) ?_
    rotate_left
    · (intro w hSw; have hc0 := CSL.out w hSw; go_simp; try (with_reducible rfl))
    try simp only [Act.put, pZ]
    have HTW := Lib.hid (HS.out.twoc (n := 4) (by decide))
    rw [show ((4 : Nat) : Int) = (4 : Int) by rfl] at HTW
    refine wpAnyH_ready (rs := [1]) (by kernel_rfl) (by simp) ?_
    refine AllReadyH.cons rfl (fun K hK => ?_) AllReadyH.nil
    go_simp
    refine HTW.out.mono ?_
    rintro e wtd1 ⟨rfl, hm, hs⟩
    have HM := Lib.hid hm
    replace HS := Lib.hid hs
    clear hm hs HTW
    go_wp2_with fail
    refine hK.out _ _ (HSS.out _ _ HS.out.kept.at0) (fun hHeldtd1 => ?_)
    clear hK K
    try simp only [Act.put, pZ]
    refine wpAnyH_ready (rs := [2]) (by kernel_rfl) (by simp) ?_
    refine AllReadyH.cons rfl (fun K hK => ?_) AllReadyH.nil
    go_simp
    refine (HS.out.putc HM.out (by (try simp only [List.length_append]); (try simp only [twoL_len]); have := HKL.out; omega) rfl).mono ?_
    rintro e wpd2 ⟨bd2, nd2, ad2, rfl, hs⟩
    replace HS := Lib.hid hs
    clear hs HM
    go_wp2_with fail
    refine hK.out _ _ (HSS.out _ _ HS.out.kept.at0) (fun hHeldpd2 => ?_)
    clear hK K
    try simp only [Act.put, pZ]
    have hbm := addr_bytes (HRC.out _ hHeldpd2).2.1 H16.out HLT.out 4 (by omega)
    have HM := Lib.hid hbm
    clear hbm
    refine wpAnyH_ready (rs := [6]) (by kernel_rfl) (by simp) ?_
    refine AllReadyH.cons rfl (fun K hK => ?_) AllReadyH.nil
    go_simp
    refine (HS.out.putc HM.out (by (try simp only [List.length_append]); (try simp only [twoL_len]); (try simp only [HBL.out]); have := HKL.out; omega) HBL.out).mono ?_
    rintro e w6 ⟨b6, n6, a6, rfl, hs⟩
    replace HS := Lib.hid hs
    clear hs HM
    go_wp2_with fail
    refine hK.out _ _ (HSS.out _ _ HS.out.kept.at0) (fun hHeldd6 => ?_)
    clear hK K
    try simp only [Act.put, pZ]
    refine wpAnyH_ready (rs := [7]) (by kernel_rfl) (by simp) ?_
    refine ready_one rfl rfl (fun K hK => ?_)
    have HC0 := Lib.hid (HS.out.cells (List.mem_cons_self ..))
    refine wp_store_W9 HC0 rfl _ _ rfl rfl rfl rfl HS.out.rows.one (fun Vz HV HVC => ?_)
    replace HS := HS.out.set HN0.out (by have := HG0.out; omega) [b6, n6, a6] rfl
    rw [← HV.out] at HS
    replace HS := Lib.hid HS
    refine hK.out _ _ (HSS.out _ _ HS.out.kept.at0) (fun hHeldz => ?_)
    clear hK K HC0 HV
    try simp only [Act.put, List.getElem_toArray, List.getElem_cons_zero, List.getElem_cons_succ]
    refine wpAnyH_done (by kernel_rfl) ?_ _
    refine NoPanic.normal ?_
    go_wp2_with fail
    have hrw := HRW.out (byB (b.take 4), T2.2) (by rw [daR_1 (by rw [HR.out]; simp only; omega), HAT.out.2, HR.out])
    refine bodyPost_ret (results_W9 Tryz.results57 rfl HVC.out rfl) rfl ?_
    have h2 := HS.out.ret
    rw [hrw]
    simp only [HBL.out]
    exact h2
  · have tb1 : ((ty : Int) == 1) = false := by rw [beq_eq_false_iff_ne]; omega
    by_cases t2 : ty = 28
    · have tb2 : ((ty : Int) == 28) = true := by rw [t2]; rfl
      go_upto_region 6 with fail
      clear ht
      replace HS := Lib.hid HS.out.drew
      refine wp_region_noPanic ?_
      refine wp_region_held_drew (S := HeldS L4) (by kernel_rfl) (HSS.out _ _ HS.out.kept.at0) (fun hHeld => ?_)
      generalize Va.drew = U4 at *
      have CSL : Hid (∀ V, HeldS L4 V → (Instr.sliceAt 67 (.pointer (some ⟨G0 + 1, 5, none⟩)) none none none).run Tryz.prog V = .ok (.slice (some ⟨G0 + 1, 5, none⟩) 16 16) V) := Lib.hid (fun V _ => by kernel_rfl)
      have HBL : Hid ((byB b).length = 16) := Lib.hid (by rw [byB_len, H16.out])
      refine wpAnyH_take (i := 0) rfl (by kernel_rfl) (by kernel_rfl) (by kernel_rfl) (fun _ _ _ h => h) (yields_W9 HI0 (by rfl) _ rfl rfl) (by assumption) ?_
      try simp only [Act.put, pZ]
      refine tkT 3 ?_ rfl (Or.inl ⟨by rfl, ?_⟩) ?_
      rotate_left
      · (intro w hSw; go_simp; try (with_reducible rfl))
      try simp only [Act.put, pZ]
      refine tkT 4 ?_ rfl (Or.inl ⟨by rfl, ?_⟩) ?_
      rotate_left
      · (intro w hSw; go_simp; try (with_reducible rfl))
      try simp only [Act.put, pZ]
      refine tkT 5 ?_ rfl (Or.inl ⟨by rfl, ?_⟩) ?_
      rotate_left
      · (intro w hSw; have hc0 := CSL.out w hSw; go_simp; try (with_reducible rfl))
      try simp only [Act.put, pZ]
      have HTW := Lib.hid (HS.out.twoc (n := 16) (by decide))
      rw [show ((16 : Nat) : Int) = (16 : Int) by rfl] at HTW
      refine wpAnyH_ready (rs := [1]) (by kernel_rfl) (by simp) ?_
      refine AllReadyH.cons rfl (fun K hK => ?_) AllReadyH.nil
      go_simp
      refine HTW.out.mono ?_
      rintro e wtd1 ⟨rfl, hm, hs⟩
      have HM := Lib.hid hm
      replace HS := Lib.hid hs
      clear hm hs HTW
      go_wp2_with fail
      refine hK.out _ _ (HSS.out _ _ HS.out.kept.at0) (fun hHeldtd1 => ?_)
      clear hK K
      try simp only [Act.put, pZ]
      refine wpAnyH_ready (rs := [2]) (by kernel_rfl) (by simp) ?_
      refine AllReadyH.cons rfl (fun K hK => ?_) AllReadyH.nil
      go_simp
      refine (HS.out.putc HM.out (by (try simp only [List.length_append]); (try simp only [twoL_len]); have := HKL.out; omega) rfl).mono ?_
      rintro e wpd2 ⟨bd2, nd2, ad2, rfl, hs⟩
      replace HS := Lib.hid hs
      clear hs HM
      go_wp2_with fail
      refine hK.out _ _ (HSS.out _ _ HS.out.kept.at0) (fun hHeldpd2 => ?_)
      clear hK K
      try simp only [Act.put, pZ]
      have hbm := addr_bytes (HRC.out _ hHeldpd2).2.1 H16.out HLT.out 16 (by omega)
      rw [List.take_of_length_le (by rw [H16.out]; exact Nat.le_refl _)] at hbm
      have HM := Lib.hid hbm
      clear hbm
      refine wpAnyH_ready (rs := [6]) (by kernel_rfl) (by simp) ?_
      refine AllReadyH.cons rfl (fun K hK => ?_) AllReadyH.nil
      go_simp
      refine (HS.out.putc HM.out (by (try simp only [List.length_append]); (try simp only [twoL_len]); (try simp only [HBL.out]); have := HKL.out; omega) HBL.out).mono ?_
      rintro e w6 ⟨b6, n6, a6, rfl, hs⟩
      replace HS := Lib.hid hs
      clear hs HM
      go_wp2_with fail
      refine hK.out _ _ (HSS.out _ _ HS.out.kept.at0) (fun hHeldd6 => ?_)
      clear hK K
      try simp only [Act.put, pZ]
      refine wpAnyH_ready (rs := [7]) (by kernel_rfl) (by simp) ?_
      refine ready_one rfl rfl (fun K hK => ?_)
      have HC0 := Lib.hid (HS.out.cells (List.mem_cons_self ..))
      refine wp_store_W9 HC0 rfl _ _ rfl rfl rfl rfl HS.out.rows.one (fun Vz HV HVC => ?_)
      replace HS := HS.out.set HN0.out (by have := HG0.out; omega) [b6, n6, a6] rfl
      rw [← HV.out] at HS
      replace HS := Lib.hid HS
      refine hK.out _ _ (HSS.out _ _ HS.out.kept.at0) (fun hHeldz => ?_)
      clear hK K HC0 HV
      try simp only [Act.put, List.getElem_toArray, List.getElem_cons_zero, List.getElem_cons_succ]
      refine wpAnyH_done (by kernel_rfl) ?_ _
      refine NoPanic.normal ?_
      go_wp2_with fail
      have hrw := HRW.out (byB b, T2.2) (by rw [daR_28 (by rw [HR.out]; simp only; omega), HAT.out.2, HR.out])
      refine bodyPost_ret (results_W9 Tryz.results57 rfl HVC.out rfl) rfl ?_
      have h2 := HS.out.ret
      rw [hrw]
      simp only [HBL.out]
      exact h2
    · have tb2 : ((ty : Int) == 28) = false := by rw [beq_eq_false_iff_ne]; omega
      by_cases t3 : ty = 5
      · have tb3 : ((ty : Int) != 5) = false := by rw [t3]; rfl
        obtain ⟨xb, yb, hxb⟩ := own_slice HS.out.rows.rb
        subst hxb
        have c0 : Va.cell? ⟨G0, 0, none⟩ = some (.slice xb T2.1.length yb) := (HSS.out _ _ HS.out.kept.at0) _ HI0.out.1 0 _ rfl
        have HTGM : Hid (mayN tg = true) := Lib.hid (HTG.out t3)
        have HTY : Hid (ty = 5) := Lib.hid t3
        have HKN : Hid (Wok (KN + 16310) (T2.1 ++ twoL 0, T2.2)) := Lib.hid ((HK2.out.put (twoL 0)).wider (by simp only [twoL_len]; omega))
        have CT : Hid (∀ V, HeldS L4 V → V.cell? ⟨G0 + 1, 21, none⟩ = some (.string tg)) := Lib.hid (fun V hv => (HRC.out V hv).2.2.1)
        go_upto_region 10 with fail
        clear c0 ht t1 t2 t3 tb1 tb2 tb3
        go_cut [8, 9] from 73 (fun s8 s9 wx => ∃ (P : Nat) (b10 n10 a10 : Value), s8 = .pointer (some ⟨P, 0, none⟩) ∧ s9 = .bool true ∧ Hid ((∀ x ∈ (G0 + 1 + 1, 0, zW) :: L4, x.1 ≠ P) ∧ w.heap.size ≤ P) ∧ Hid (St9 w B (blk3 vB vN vA) ((P, 0, [b10, n10, a10]) :: (G0 + 1 + 1, 0, zW) :: L4) b10 n10 a10 (T2.1 ++ twoL 0 ++ (nmT tg (T2.1 ++ twoL 0).length T2.2.1 T2.2.2).1, (nmT tg (T2.1 ++ twoL 0).length T2.2.1 T2.2.2).2) wx))
        case first =>
          replace HS := Lib.hid HS.out.drew
          refine wp_region_noPanic ?_
          refine wp_region_held_drew (S := HeldS L4) (by kernel_rfl) (HSS.out _ _ HS.out.kept.at0) (fun hHeld => ?_)
          generalize Va.drew = U10 at *
          refine wpAnyH_take (i := 0) rfl (by kernel_rfl) (by kernel_rfl) (by kernel_rfl) (fun _ _ _ h => h) (yields_W9 HI0 (by rfl) _ rfl rfl) (by assumption) ?_
          try simp only [Act.put, pZ]
          refine tkT 3 ?_ rfl (Or.inl ⟨by rfl, ?_⟩) ?_
          rotate_left
          · (intro w hSw; go_simp; try (with_reducible rfl))
          try simp only [Act.put, pZ]
          refine tkT 4 ?_ rfl (Or.inl ⟨by rfl, ?_⟩) ?_
          rotate_left
          · (intro w hSw; have hc0 := CT.out w hSw; go_simp; try (with_reducible rfl))
          try simp only [Act.put, pZ]
          refine wpAnyH_ready (rs := [1, 9]) (by kernel_rfl) (by simp) ?_
          refine AllReadyH.cons rfl (fun K hK => ?_) (ready_one rfl rfl (fun K hK => ?_))
          · have HTW := Lib.hid (HS.out.twoc (n := 0) (by decide))
            rw [show ((0 : Nat) : Int) = (0 : Int) by rfl] at HTW
            go_simp
            refine HTW.out.mono ?_
            rintro e wtg1 ⟨rfl, hm, hs⟩
            have HM := Lib.hid hm
            replace HS := Lib.hid hs
            clear hm hs HTW
            go_wp2_with fail
            refine hK.out _ _ (HSS.out _ _ HS.out.kept.at0) (fun hHeldtg1 => ?_)
            clear hK K
            try simp only [Act.put, pZ]
            refine wpAnyH_ready (rs := [2, 9]) (by kernel_rfl) (by simp) ?_
            refine AllReadyH.cons rfl (fun K hK => ?_) (ready_one rfl rfl (fun K hK => ?_))
            · go_simp
              refine (HS.out.putc HM.out (by (try simp only [List.length_append]); (try simp only [twoL_len]); have := HKL.out; omega) rfl).mono ?_
              rintro e wpg2 ⟨bg2, ng2, ag2, rfl, hs⟩
              replace HS := Lib.hid hs
              clear hs HM
              go_wp2_with fail
              refine hK.out _ _ (HSS.out _ _ HS.out.kept.at0) (fun hHeldpg2 => ?_)
              clear hK K
              try simp only [Act.put, pZ]
              refine wpAnyH_ready (rs := [5, 9]) (by kernel_rfl) (by simp) ?_
              refine AllReadyH.cons rfl (fun K hK => ?_) (ready_one rfl rfl (fun K hK => ?_))
              · go_simp
                refine (HS.out.namec HTGM.out (K := KN + 16310) HKN.out (by have := HKK.out; omega)).mono ?_
                rintro e wnd ⟨b10, n10, a10, rfl, hs⟩
                replace HS := Lib.hid hs
                clear hs
                go_wp2_with fail
                refine hK.out _ _ (HSS.out _ _ HS.out.kept.at0) (fun hHeldnd => ?_)
                clear hK K
                try simp only [Act.put, pZ]
                refine tkT 6 ?_ rfl (Or.inl ⟨by rfl, ?_⟩) ?_
                rotate_left
                · (intro w hSw; go_simp; try (with_reducible rfl))
                try simp only [Act.put, pZ]
                refine tkT 7 ?_ rfl (Or.inl ⟨by rfl, ?_⟩) ?_
                rotate_left
                · (intro w hSw; go_simp; try (with_reducible rfl))
                try simp only [Act.put, pZ]
                refine tkT 8 ?_ rfl (Or.inl ⟨by rfl, ?_⟩) ?_
                rotate_left
                · (intro w hSw; go_simp; try (with_reducible rfl))
                try simp only [Act.put, pZ]
                refine wpAnyH_ready (rs := [9]) (by kernel_rfl) (by simp) ?_
                refine ready_one rfl rfl (fun K hK => ?_)
                obtain ⟨P, Wa, hP, hWa, hn1, hn2, hal, hbl⟩ := HS.out.alloc_ex
                have HNP : Hid ((∀ x ∈ (G0 + 1 + 1, 0, zW) :: L4, x.1 ≠ P) ∧ w.heap.size ≤ P) := Lib.hid ⟨hn1, hn2⟩
                replace HS := Lib.hid hal
                clear hn1 hn2 hal hbl
                go_wp2_with fail
                try rw [hWa]
                try rw [hP]
                replace HSS : Hid (∀ us V, HeldS ((P, 0, us) :: (G0 + 1 + 1, 0, zW) :: L4) V → HeldS L4 V) := Lib.hid (fun us V hv x hx => hv x (List.mem_cons_of_mem _ (List.mem_cons_of_mem _ hx)))
                refine hK.out _ _ (HSS.out _ _ HS.out.kept.at0) (fun hHeldad => ?_)
                clear hK K hWa hP
                try simp only [Act.put, pZ]
                refine wpAnyH_ready (rs := [10]) (by kernel_rfl) (by simp) ?_
                refine ready_one rfl rfl (fun K hK => ?_)
                have HC0 := Lib.hid (HS.out.cells (List.mem_cons_self ..))
                refine wp_store_W9 HC0 rfl _ _ rfl rfl rfl rfl HS.out.rows.one (fun Vy HV HVC => ?_)
                replace HS := HS.out.set HNP.out.1 HNP.out.2 [b10, n10, a10] rfl
                rw [← HV.out] at HS
                replace HS := Lib.hid HS
                refine hK.out _ _ (HSS.out _ _ HS.out.kept.at0) (fun hHeldy => ?_)
                clear hK K HC0 HV
                try simp only [Act.put, List.getElem_toArray, List.getElem_cons_zero, List.getElem_cons_succ]
                refine tkT 11 ?_ rfl (Or.inl ⟨by rfl, ?_⟩) ?_
                rotate_left
                · (intro w hSw; go_simp; try (with_reducible rfl))
                try simp only [Act.put, pZ]
                refine wpAnyH_done (by kernel_rfl) ?_ _
                refine NoPanic.normal ?_
                go_wp2_with fail
                go_meet
                case rel => exact ⟨P, b10, n10, a10, rfl, rfl, HNP, HS⟩
              · obtain ⟨P, Wa, hP, hWa, hn1, hn2, hal, hbl⟩ := HS.out.alloc_ex
                have HNP : Hid ((∀ x ∈ (G0 + 1 + 1, 0, zW) :: L4, x.1 ≠ P) ∧ w.heap.size ≤ P) := Lib.hid ⟨hn1, hn2⟩
                replace HS := Lib.hid hal
                clear hn1 hn2 hal hbl
                go_wp2_with fail
                try rw [hWa]
                try rw [hP]
                replace HSS : Hid (∀ us V, HeldS ((P, 0, us) :: (G0 + 1 + 1, 0, zW) :: L4) V → HeldS L4 V) := Lib.hid (fun us V hv x hx => hv x (List.mem_cons_of_mem _ (List.mem_cons_of_mem _ hx)))
                refine hK.out _ _ (HSS.out _ _ HS.out.kept.at0) (fun hHeldac => ?_)
                clear hK K hWa hP
                try simp only [Act.put, pZ]
                refine wpAnyH_ready (rs := [5]) (by kernel_rfl) (by simp) ?_
                refine AllReadyH.cons rfl (fun K hK => ?_) AllReadyH.nil
                go_simp
                refine (HS.out.namec HTGM.out (K := KN + 16310) HKN.out (by have := HKK.out; omega)).mono ?_
                rintro e wnc ⟨b10, n10, a10, rfl, hs⟩
                replace HS := Lib.hid hs
                clear hs
                go_wp2_with fail
                refine hK.out _ _ (HSS.out _ _ HS.out.kept.at0) (fun hHeldnc => ?_)
                clear hK K
                try simp only [Act.put, pZ]
                refine tkT 6 ?_ rfl (Or.inl ⟨by rfl, ?_⟩) ?_
                rotate_left
                · (intro w hSw; go_simp; try (with_reducible rfl))
                try simp only [Act.put, pZ]
                refine tkT 7 ?_ rfl (Or.inl ⟨by rfl, ?_⟩) ?_
                rotate_left
                · (intro w hSw; go_simp; try (with_reducible rfl))
                try simp only [Act.put, pZ]
                refine tkT 8 ?_ rfl (Or.inl ⟨by rfl, ?_⟩) ?_
                rotate_left
                · (intro w hSw; go_simp; try (with_reducible rfl))
                try simp only [Act.put, pZ]
                refine wpAnyH_ready (rs := [10]) (by kernel_rfl) (by simp) ?_
                refine ready_one rfl rfl (fun K hK => ?_)
                have HC0 := Lib.hid (HS.out.cells (List.mem_cons_self ..))
                refine wp_store_W9 HC0 rfl _ _ rfl rfl rfl rfl HS.out.rows.one (fun Vy HV HVC => ?_)
                replace HS := HS.out.set HNP.out.1 HNP.out.2 [b10, n10, a10] rfl
                rw [← HV.out] at HS
                replace HS := Lib.hid HS
                refine hK.out _ _ (HSS.out _ _ HS.out.kept.at0) (fun hHeldy => ?_)
                clear hK K HC0 HV
                try simp only [Act.put, List.getElem_toArray, List.getElem_cons_zero, List.getElem_cons_succ]
                refine tkT 11 ?_ rfl (Or.inl ⟨by rfl, ?_⟩) ?_
                rotate_left
                · (intro w hSw; go_simp; try (with_reducible rfl))
                try simp only [Act.put, pZ]
                refine wpAnyH_done (by kernel_rfl) ?_ _
                refine NoPanic.normal ?_
                go_wp2_with fail
                go_meet
                case rel => exact ⟨P, b10, n10, a10, rfl, rfl, HNP, HS⟩
            · obtain ⟨P, Wa, hP, hWa, hn1, hn2, hal, hbl⟩ := HS.out.alloc_ex
              have HNP : Hid ((∀ x ∈ (G0 + 1 + 1, 0, zW) :: L4, x.1 ≠ P) ∧ w.heap.size ≤ P) := Lib.hid ⟨hn1, hn2⟩
              replace HS := Lib.hid hal
              replace HM := Lib.hid (HM.out.below hbl)
              clear hn1 hn2 hal hbl
              go_wp2_with fail
              try rw [hWa]
              try rw [hP]
              replace HSS : Hid (∀ us V, HeldS ((P, 0, us) :: (G0 + 1 + 1, 0, zW) :: L4) V → HeldS L4 V) := Lib.hid (fun us V hv x hx => hv x (List.mem_cons_of_mem _ (List.mem_cons_of_mem _ hx)))
              refine hK.out _ _ (HSS.out _ _ HS.out.kept.at0) (fun hHeldab => ?_)
              clear hK K hWa hP
              try simp only [Act.put, pZ]
              refine wpAnyH_ready (rs := [2]) (by kernel_rfl) (by simp) ?_
              refine AllReadyH.cons rfl (fun K hK => ?_) AllReadyH.nil
              go_simp
              refine (HS.out.putc HM.out (by (try simp only [List.length_append]); (try simp only [twoL_len]); have := HKL.out; omega) rfl).mono ?_
              rintro e wpg2 ⟨bg2, ng2, ag2, rfl, hs⟩
              replace HS := Lib.hid hs
              clear hs HM
              go_wp2_with fail
              refine hK.out _ _ (HSS.out _ _ HS.out.kept.at0) (fun hHeldpg2 => ?_)
              clear hK K
              try simp only [Act.put, pZ]
              refine wpAnyH_ready (rs := [5]) (by kernel_rfl) (by simp) ?_
              refine AllReadyH.cons rfl (fun K hK => ?_) AllReadyH.nil
              go_simp
              refine (HS.out.namec HTGM.out (K := KN + 16310) HKN.out (by have := HKK.out; omega)).mono ?_
              rintro e wnb ⟨b10, n10, a10, rfl, hs⟩
              replace HS := Lib.hid hs
              clear hs
              go_wp2_with fail
              refine hK.out _ _ (HSS.out _ _ HS.out.kept.at0) (fun hHeldnb => ?_)
              clear hK K
              try simp only [Act.put, pZ]
              refine tkT 6 ?_ rfl (Or.inl ⟨by rfl, ?_⟩) ?_
              rotate_left
              · (intro w hSw; go_simp; try (with_reducible rfl))
              try simp only [Act.put, pZ]
              refine tkT 7 ?_ rfl (Or.inl ⟨by rfl, ?_⟩) ?_
              rotate_left
              · (intro w hSw; go_simp; try (with_reducible rfl))
              try simp only [Act.put, pZ]
              refine tkT 8 ?_ rfl (Or.inl ⟨by rfl, ?_⟩) ?_
              rotate_left
              · (intro w hSw; go_simp; try (with_reducible rfl))
              try simp only [Act.put, pZ]
              refine wpAnyH_ready (rs := [10]) (by kernel_rfl) (by simp) ?_
              refine ready_one rfl rfl (fun K hK => ?_)
              have HC0 := Lib.hid (HS.out.cells (List.mem_cons_self ..))
              refine wp_store_W9 HC0 rfl _ _ rfl rfl rfl rfl HS.out.rows.one (fun Vy HV HVC => ?_)
              replace HS := HS.out.set HNP.out.1 HNP.out.2 [b10, n10, a10] rfl
              rw [← HV.out] at HS
              replace HS := Lib.hid HS
              refine hK.out _ _ (HSS.out _ _ HS.out.kept.at0) (fun hHeldy => ?_)
              clear hK K HC0 HV
              try simp only [Act.put, List.getElem_toArray, List.getElem_cons_zero, List.getElem_cons_succ]
              refine tkT 11 ?_ rfl (Or.inl ⟨by rfl, ?_⟩) ?_
              rotate_left
              · (intro w hSw; go_simp; try (with_reducible rfl))
              try simp only [Act.put, pZ]
              refine wpAnyH_done (by kernel_rfl) ?_ _
              refine NoPanic.normal ?_
              go_wp2_with fail
              go_meet
              case rel => exact ⟨P, b10, n10, a10, rfl, rfl, HNP, HS⟩
          · obtain ⟨P, Wa, hP, hWa, hn1, hn2, hal, hbl⟩ := HS.out.alloc_ex
            have HNP : Hid ((∀ x ∈ (G0 + 1 + 1, 0, zW) :: L4, x.1 ≠ P) ∧ w.heap.size ≤ P) := Lib.hid ⟨hn1, hn2⟩
            replace HS := Lib.hid hal
            clear hn1 hn2 hal hbl
            go_wp2_with fail
            try rw [hWa]
            try rw [hP]
            replace HSS : Hid (∀ us V, HeldS ((P, 0, us) :: (G0 + 1 + 1, 0, zW) :: L4) V → HeldS L4 V) := Lib.hid (fun us V hv x hx => hv x (List.mem_cons_of_mem _ (List.mem_cons_of_mem _ hx)))
            refine hK.out _ _ (HSS.out _ _ HS.out.kept.at0) (fun hHeldaa => ?_)
            clear hK K hWa hP
            try simp only [Act.put, pZ]
            have HTW := Lib.hid (HS.out.twoc (n := 0) (by decide))
            rw [show ((0 : Nat) : Int) = (0 : Int) by rfl] at HTW
            refine wpAnyH_ready (rs := [1]) (by kernel_rfl) (by simp) ?_
            refine AllReadyH.cons rfl (fun K hK => ?_) AllReadyH.nil
            go_simp
            refine HTW.out.mono ?_
            rintro e wtg1 ⟨rfl, hm, hs⟩
            have HM := Lib.hid hm
            replace HS := Lib.hid hs
            clear hm hs HTW
            go_wp2_with fail
            refine hK.out _ _ (HSS.out _ _ HS.out.kept.at0) (fun hHeldtg1 => ?_)
            clear hK K
            try simp only [Act.put, pZ]
            refine wpAnyH_ready (rs := [2]) (by kernel_rfl) (by simp) ?_
            refine AllReadyH.cons rfl (fun K hK => ?_) AllReadyH.nil
            go_simp
            refine (HS.out.putc HM.out (by (try simp only [List.length_append]); (try simp only [twoL_len]); have := HKL.out; omega) rfl).mono ?_
            rintro e wpg2 ⟨bg2, ng2, ag2, rfl, hs⟩
            replace HS := Lib.hid hs
            clear hs HM
            go_wp2_with fail
            refine hK.out _ _ (HSS.out _ _ HS.out.kept.at0) (fun hHeldpg2 => ?_)
            clear hK K
            try simp only [Act.put, pZ]
            refine wpAnyH_ready (rs := [5]) (by kernel_rfl) (by simp) ?_
            refine AllReadyH.cons rfl (fun K hK => ?_) AllReadyH.nil
            go_simp
            refine (HS.out.namec HTGM.out (K := KN + 16310) HKN.out (by have := HKK.out; omega)).mono ?_
            rintro e wna ⟨b10, n10, a10, rfl, hs⟩
            replace HS := Lib.hid hs
            clear hs
            go_wp2_with fail
            refine hK.out _ _ (HSS.out _ _ HS.out.kept.at0) (fun hHeldna => ?_)
            clear hK K
            try simp only [Act.put, pZ]
            refine tkT 6 ?_ rfl (Or.inl ⟨by rfl, ?_⟩) ?_
            rotate_left
            · (intro w hSw; go_simp; try (with_reducible rfl))
            try simp only [Act.put, pZ]
            refine tkT 7 ?_ rfl (Or.inl ⟨by rfl, ?_⟩) ?_
            rotate_left
            · (intro w hSw; go_simp; try (with_reducible rfl))
            try simp only [Act.put, pZ]
            refine tkT 8 ?_ rfl (Or.inl ⟨by rfl, ?_⟩) ?_
            rotate_left
            · (intro w hSw; go_simp; try (with_reducible rfl))
            try simp only [Act.put, pZ]
            refine wpAnyH_ready (rs := [10]) (by kernel_rfl) (by simp) ?_
            refine ready_one rfl rfl (fun K hK => ?_)
            have HC0 := Lib.hid (HS.out.cells (List.mem_cons_self ..))
            refine wp_store_W9 HC0 rfl _ _ rfl rfl rfl rfl HS.out.rows.one (fun Vy HV HVC => ?_)
            replace HS := HS.out.set HNP.out.1 HNP.out.2 [b10, n10, a10] rfl
            rw [← HV.out] at HS
            replace HS := Lib.hid HS
            refine hK.out _ _ (HSS.out _ _ HS.out.kept.at0) (fun hHeldy => ?_)
            clear hK K HC0 HV
            try simp only [Act.put, List.getElem_toArray, List.getElem_cons_zero, List.getElem_cons_succ]
            refine tkT 11 ?_ rfl (Or.inl ⟨by rfl, ?_⟩) ?_
            rotate_left
            · (intro w hSw; go_simp; try (with_reducible rfl))
            try simp only [Act.put, pZ]
            refine wpAnyH_done (by kernel_rfl) ?_ _
            refine NoPanic.normal ?_
            go_wp2_with fail
            go_meet
            case rel => exact ⟨P, b10, n10, a10, rfl, rfl, HNP, HS⟩
        case rest =>
          obtain ⟨P, b10, n10, a10, rfl, rfl, HNP, HS⟩ := hcut
          have HBN : Hid ((nmT tg (T2.1 ++ twoL 0).length T2.2.1 T2.2.2).1.length ≤ 16300) := Lib.hid (nmT_is HTGM.out _ _ _).len
          obtain ⟨T3, hT3⟩ : ∃ T : Wst, (T2.1 ++ twoL 0 ++ (nmT tg (T2.1 ++ twoL 0).length T2.2.1 T2.2.2).1, (nmT tg (T2.1 ++ twoL 0).length T2.2.1 T2.2.2).2) = T := ⟨_, rfl⟩
          rw [hT3] at HS
          have HS0 := HS
          have HT3 := Lib.hid hT3.symm
          have hl3 : T3.1.length = T2.1.length + 2 + (nmT tg (T2.1 ++ twoL 0).length T2.2.1 T2.2.2).1.length := by rw [← hT3]; simp only [List.length_append, twoL_len]
          obtain ⟨ln, hln⟩ : ∃ ln, (nmT tg (T2.1 ++ twoL 0).length T2.2.1 T2.2.2).1.length = ln := ⟨_, rfl⟩
          rw [hln] at hl3 HBN
          have HLN := Lib.hid hln
          obtain ⟨g, yc, hxc⟩ := own_some HS.out.rows.rb (by omega)
          subst hxc
          obtain ⟨N3, hN3⟩ : ∃ N, T3.1.length = N := ⟨_, rfl⟩
          rw [hN3] at HS HS0 hl3
          have HN3 := Lib.hid hN3
          have c0 : wc.cell? ⟨P, 0, none⟩ = some (.slice (some ⟨g, 0, none⟩) N3 yc) := HS.out.kept.at0 _ (List.mem_cons_self ..) 0 _ rfl
          have HL3 := Lib.hid hl3
          clear hT3 hln hN3
          obtain ⟨N2, hN2⟩ : ∃ N, T2.1.length = N := ⟨_, rfl⟩
          have HN2 := Lib.hid hN2
          rw [hN2]
          rw [hN2] at HL3 hl3
          clear hN2 hl3
          have HTW := Lib.hid (HS.out.twoc (n := ln) (by have := HBN.out; omega))
          rw [show ((ln : Nat) : Int) = wrap64 (wrap64 ((N3 : Int) - (N2 : Int)) - 2) by (have h1 := HL3.out; have h2 := HBN.out; have h3 := HKL.out; have h4 := HN2.out; simp only [wrap64]; omega)] at HTW
          go_wp2_with fail
          refine HTW.out.mono ?_
          rintro e wn ⟨rfl, hm, hs⟩
          obtain ⟨z0, z1⟩ := two_cells hm
          have HS := Lib.hid hs
          have hPn : wc.heap.size ≠ g := (Nat.ne_of_lt (HS0.out.rows.rb.lt g rfl).2).symm
          clear hm hs HTW
          obtain ⟨Pn, hpn⟩ : ∃ Pn, wc.heap.size = Pn := ⟨_, rfl⟩
          rw [hpn] at z0 z1 hPn
          try rw [hpn]
          clear hpn HS0 c0
          obtain ⟨x0, hx0⟩ : ∃ x, UInt8.ofNat (ln / 256) = x := ⟨_, rfl⟩
          obtain ⟨x1, hx1⟩ : ∃ x, UInt8.ofNat (ln % 256) = x := ⟨_, rfl⟩
          rw [hx0] at z0
          rw [hx1] at z1
          have HX01 := Lib.hid (And.intro hx0 hx1)
          clear hx0 hx1
          have hPg : P ≠ g := fun e => HS.out.kept.off _ (List.mem_cons_self ..) (by simp only; rw [e]; exact mem_blk3.2 (.inl rfl))
          obtain ⟨S, hS⟩ : ∃ S : World → Prop, (fun V : World => V.cell? ⟨P, 0, none⟩ = some (.slice (some ⟨g, 0, none⟩) N3 yc) ∧ V.cell? ⟨Pn, 0, none⟩ = some (.int .u8 (x0.toNat : Int)) ∧ V.cell? ⟨Pn, 1, none⟩ = some (.int .u8 (x1.toNat : Int))) = S := ⟨_, rfl⟩
          have D0 : Hid (∀ V, S V → V.cell? ⟨P, 0, none⟩ = some (.slice (some ⟨g, 0, none⟩) N3 yc)) := Lib.hid (fun V h => by rw [← hS] at h; exact h.1)
          have D1 : Hid (∀ V, S V → V.cell? ⟨Pn, 0, none⟩ = some (.int .u8 (x0.toNat : Int))) := Lib.hid (fun V h => by rw [← hS] at h; exact h.2.1)
          have D2 : Hid (∀ V, S V → V.cell? ⟨Pn, 1, none⟩ = some (.int .u8 (x1.toNat : Int))) := Lib.hid (fun V h => by rw [← hS] at h; exact h.2.2)
          have HSG : Hid (∀ V, S V → ∀ i v, S (V.setCell ⟨g, i, none⟩ v)) := Lib.hid (fun V h i v => by
            rw [← hS] at h ⊢
            exact ⟨(World.cell?_setCell_other _ _ _ _ (by intro e; injection e with e1 _ _; exact hPg e1.symm)).trans h.1, (World.cell?_setCell_other _ _ _ _ (by intro e; injection e with e1 _ _; exact hPn e1.symm)).trans h.2.1, (World.cell?_setCell_other _ _ _ _ (by intro e; injection e with e1 _ _; exact hPn e1.symm)).trans h.2.2⟩)
          have HSD : Hid (∀ V, S V → S V.drew) := Lib.hid (fun V h => by rw [← hS] at h ⊢; exact h)
          have hSd : S wn.drew := by rw [← hS]; exact ⟨HS.out.kept.at0 _ (List.mem_cons_self ..) 0 _ rfl, z0, z1⟩
          clear hS z0 z1 hPg hPn
          have hb1 : (0 : Int) ≤ (N2 : Int) := by omega
          have hb2 : (N2 : Int) < (N3 : Int) := by have := HL3.out; omega
          obtain ⟨M2, hM2⟩ : ∃ M, N2 + 1 = M := ⟨_, rfl⟩
          have HM2 := Lib.hid hM2
          have hw2 : IntKind.i64.wrap ((N2 : Int) + 1) = (M2 : Int) := by have h1 := HN2.out; have h2 := HKL.out; rw [IntKind.wrap_i64]; omega
          have hb3 : (0 : Int) ≤ (M2 : Int) := by omega
          have hb4 : (M2 : Int) < (N3 : Int) := by have := HL3.out; omega
          clear hM2
          have HS := Lib.hid HS.out.drew
          go_upto_region 12 with fail
          refine wp_region_noPanic ?_
          refine wp_region_held_drew (S := S) (by kernel_rfl) hSd (fun hHeld => ?_)
          obtain ⟨U12, hU12⟩ : ∃ U, wn.drew = U := ⟨_, rfl⟩
          rw [hU12] at HS hHeld ⊢
          clear hSd hU12
          refine tkT 0 ?_ rfl (Or.inl ⟨by rfl, ?_⟩) ?_
          rotate_left
          · (intro w hSw; go_simp; try (with_reducible rfl))
          try simp only [Act.put, pZ]
          refine tkT 1 ?_ rfl (Or.inl ⟨by rfl, ?_⟩) ?_
          rotate_left
          · (intro w hSw; have hc0 := D0.out w hSw; go_simp; try (with_reducible rfl))
          try simp only [Act.put, pZ]
          refine tkT 2 ?_ rfl (Or.inl ⟨by rfl, ?_⟩) ?_
          rotate_left
          · (intro w hSw; go_simp; try (with_reducible rfl))
          try simp only [Act.put, pZ]
          refine tkT 3 ?_ rfl (Or.inl ⟨by rfl, ?_⟩) ?_
          rotate_left
          · (intro w hSw; go_simp; try (with_reducible rfl))
          try simp only [Act.put, pZ]
          refine tkT 4 ?_ rfl (Or.inl ⟨by rfl, ?_⟩) ?_
          rotate_left
          · (intro w hSw; go_simp; try (with_reducible rfl))
          try simp only [Act.put, pZ]
          refine tkT 5 ?_ rfl (Or.inl ⟨by rfl, ?_⟩) ?_
          rotate_left
          · (intro w hSw; have hc0 := D1.out w hSw; go_simp; try (with_reducible rfl))
          try simp only [Act.put, pZ]
          refine tkT 6 ?_ rfl (Or.inl ⟨by rfl, ?_⟩) ?_
          rotate_left
          · (intro w hSw; go_simp; try (with_reducible rfl))
          try simp only [Act.put, pZ]
          obtain ⟨hs2, hf2, vv, hc2⟩ := HS.out.setB (i := N2) x0 (by rw [HN3.out]; have := HL3.out; omega)
          have HS2 := Lib.hid hs2
          clear hs2
          refine wpAnyH_ready (rs := [7]) (by kernel_rfl) (by simp) ?_
          refine ready_one rfl rfl (fun K hK => ?_)
          go_wp2_with fail
          refine hK.out _ _ (HSG.out _ hHeld _ _) (fun hHeld2 => ?_)
          clear hK K hf2 hc2
          try simp only [Act.put, List.getElem_toArray, List.getElem_cons_zero, List.getElem_cons_succ]
          refine wpAnyH_done (by kernel_rfl) ?_ _
          refine NoPanic.normal ?_
          obtain ⟨V12, hV12⟩ : ∃ V, U12.setCell ⟨g, N2, none⟩ (.int .u8 (x0.toNat : Int)) = V := ⟨_, rfl⟩
          rw [hV12] at HS2 hHeld2
          try rw [hV12]
          clear hV12 hHeld D1 hb1 hb2
          replace HS2 := Lib.hid HS2.out.drew
          have hSd : S V12.drew := HSD.out _ hHeld2
          go_upto_region 13 with fail
          refine wp_region_noPanic ?_
          refine wp_region_held_drew (S := S) (by kernel_rfl) hSd (fun hHeld => ?_)
          obtain ⟨U13, hU13⟩ : ∃ U, V12.drew = U := ⟨_, rfl⟩
          rw [hU13] at HS2 hHeld ⊢
          clear hSd hU13 hHeld2
          refine tkT 0 ?_ rfl (Or.inl ⟨by rfl, ?_⟩) ?_
          rotate_left
          · (intro w hSw; go_simp; try (with_reducible rfl))
          try simp only [Act.put, pZ]
          refine tkT 1 ?_ rfl (Or.inl ⟨by rfl, ?_⟩) ?_
          rotate_left
          · (intro w hSw; have hc0 := D0.out w hSw; go_simp; try (with_reducible rfl))
          try simp only [Act.put, pZ]
          refine tkT 2 ?_ rfl (Or.inl ⟨by rfl, ?_⟩) ?_
          rotate_left
          · (intro w hSw; go_simp; try (with_reducible rfl))
          try simp only [Act.put, pZ]
          refine tkT 3 ?_ rfl (Or.inl ⟨by rfl, ?_⟩) ?_
          rotate_left
          · (intro w hSw; go_simp; try (with_reducible rfl))
          try simp only [Act.put, pZ]
          refine tkT 4 ?_ rfl (Or.inl ⟨by rfl, ?_⟩) ?_
          rotate_left
          · (intro w hSw; go_simp; try (with_reducible rfl))
          try simp only [Act.put, pZ]
          refine tkT 5 ?_ rfl (Or.inl ⟨by rfl, ?_⟩) ?_
          rotate_left
          · (intro w hSw; go_simp; try (with_reducible rfl))
          try simp only [Act.put, pZ]
          refine tkT 6 ?_ rfl (Or.inl ⟨by rfl, ?_⟩) ?_
          rotate_left
          · (intro w hSw; have hc0 := D2.out w hSw; go_simp; try (with_reducible rfl))
          try simp only [Act.put, pZ]
          refine tkT 7 ?_ rfl (Or.inl ⟨by rfl, ?_⟩) ?_
          rotate_left
          · (intro w hSw; go_simp; try (with_reducible rfl))
          try simp only [Act.put, pZ]
          obtain ⟨hs3, hf3, vv3, hc3⟩ := HS2.out.setB (i := M2) x1 (by simp only [List.length_set]; rw [HN3.out]; have := HL3.out; have := HM2.out; omega)
          have HS3 := Lib.hid hs3
          clear hs3
          refine wpAnyH_ready (rs := [8]) (by kernel_rfl) (by simp) ?_
          refine ready_one rfl rfl (fun K hK => ?_)
          go_wp2_with fail
          refine hK.out _ _ (HSG.out _ hHeld _ _) (fun hHeld3 => ?_)
          clear hK K hf3 hc3
          try simp only [Act.put, List.getElem_toArray, List.getElem_cons_zero, List.getElem_cons_succ]
          refine wpAnyH_done (by kernel_rfl) ?_ _
          refine NoPanic.normal ?_
          obtain ⟨V13, hV13⟩ : ∃ V, U13.setCell ⟨g, M2, none⟩ (.int .u8 (x1.toNat : Int)) = V := ⟨_, rfl⟩
          rw [hV13] at HS3 hHeld3
          try rw [hV13]
          clear hV13 hHeld hHeld3 D0 D2 HSG HSD hb3 hb4 hw2
          have HLP := Lib.hid (HS3.out.kept.at0 _ (List.mem_cons_self ..))
          replace HS := Lib.hid (HS3.out.sub (L' := (G0 + 1 + 1, 0, zW) :: L4) (fun x hx => List.mem_cons_of_mem _ hx))
          have HC2 := Lib.hid (HS.out.cells (List.mem_cons_self ..))
          have HOW := HS.out.rows.one
          clear HS2 HS3
          go_wp2_with (first | refine load_W9r HLP rfl _ rfl rfl rfl ?_ | (refine store_W9 HC2 rfl _ _ rfl rfl rfl rfl rfl HOW (fun V14 HV HVC => ?_)))
          replace HS := HS.out.set HN0.out (by have := HG0.out; omega) [.slice (some ⟨g, 0, none⟩) N3 yc, n10, a10] rfl
          rw [← HV.out] at HS
          have hd : daR t r = (nmT tg (T2.1 ++ twoL 0).length T2.2.1 T2.2.2) := by
            rw [daR_5 (by rw [HR.out]; simp only; have := HTY.out; omega), HAT.out.1, HAT.out.2, HR.out, List.length_append, twoL_len]
          have hfin : rW t r = ((T3.1.set N2 x0).set M2 x1, T3.2) := by
            rw [HRW.out _ hd, HLN.out, ← HX01.out.1, ← HX01.out.2, HT3.out, ← HM2.out, ← HN2.out]
            have h := patch_mid T2.1 (nmT tg (T2.1 ++ twoL 0).length T2.2.1 T2.2.2).1 ln
            unfold patch at h
            rw [← h]
            rfl
          refine bodyPost_ret (results_W9 Tryz.results57 rfl HVC.out rfl) rfl ?_
          rw [hfin]
          exact HS.ret
      · have tb3 : ((ty : Int) != 5) = true := by rw [bne_iff_ne]; omega
        go_upto_region 8 with fail
        clear ht
        replace HS := Lib.hid HS.out.drew
        refine wp_region_noPanic ?_
        refine wp_region_held_drew (S := HeldS L4) (by kernel_rfl) (HSS.out _ _ HS.out.kept.at0) (fun hHeld => ?_)
        generalize Va.drew = U8 at *
        have CD : Hid (∀ V, HeldS L4 V → V.cell? ⟨G0 + 1, 22, none⟩ = some (.string da)) := Lib.hid (fun V hv => (HRC.out V hv).2.2.2)
        refine wpAnyH_take (i := 0) rfl (by kernel_rfl) (by kernel_rfl) (by kernel_rfl) (fun _ _ _ h => h) (yields_W9 HI0 (by rfl) _ rfl rfl) (by assumption) ?_
        try simp only [Act.put, pZ]
        refine tkT 1 ?_ rfl (Or.inl ⟨by rfl, ?_⟩) ?_
        rotate_left
        · (intro w hSw; go_simp; try (with_reducible rfl))
        try simp only [Act.put, pZ]
        refine tkT 2 ?_ rfl (Or.inl ⟨by rfl, ?_⟩) ?_
        rotate_left
        · (intro w hSw; have hc0 := CD.out w hSw; go_simp; try (with_reducible rfl))
        try simp only [Act.put, pZ]
        refine tkT 3 ?_ rfl (Or.inl ⟨by rfl, ?_⟩) ?_
        rotate_left
        · (intro w hSw; go_simp; try (with_reducible rfl))
        try simp only [Act.put, pZ]
        refine tkT 6 ?_ rfl (Or.inl ⟨by rfl, ?_⟩) ?_
        rotate_left
        · (intro w hSw; go_simp; try (with_reducible rfl))
        try simp only [Act.put, pZ]
        refine tkT 7 ?_ rfl (Or.inl ⟨by rfl, ?_⟩) ?_
        rotate_left
        · (intro w hSw; have hc0 := CD.out w hSw; go_simp; try (with_reducible rfl))
        try simp only [Act.put, pZ]
        refine wpAnyH_ready (rs := [4, 8]) (by kernel_rfl) (by simp) ?_
        refine AllReadyH.cons rfl (fun K hK => ?_) (ready_one rfl rfl (fun K hK => ?_))
        · have HTW := Lib.hid (HS.out.twoc (n := da.size) (by have := HNUM.out; omega))
          go_simp
          refine HTW.out.mono ?_
          rintro e wte4 ⟨rfl, hm, hs⟩
          have HM := Lib.hid hm
          replace HS := Lib.hid hs
          clear hm hs HTW
          go_wp2_with fail
          refine hK.out _ _ (HSS.out _ _ HS.out.kept.at0) (fun hHeldte4 => ?_)
          clear hK K
          try simp only [Act.put, pZ]
          refine wpAnyH_ready (rs := [5, 8]) (by kernel_rfl) (by simp) ?_
          refine AllReadyH.cons rfl (fun K hK => ?_) (ready_one rfl rfl (fun K hK => ?_))
          · go_simp
            refine (HS.out.putc HM.out (by (try simp only [List.length_append]); (try simp only [twoL_len]); have := HKL.out; omega) rfl).mono ?_
            rintro e wpe5 ⟨be5, ne5, ae5, rfl, hs⟩
            replace HS := Lib.hid hs
            clear hs HM
            go_wp2_with fail
            refine hK.out _ _ (HSS.out _ _ HS.out.kept.at0) (fun hHeldpe5 => ?_)
            clear hK K
            try simp only [Act.put, pZ]
            refine wpAnyH_ready (rs := [8]) (by kernel_rfl) (by simp) ?_
            refine ready_one rfl rfl (fun K hK => ?_)
            obtain ⟨P, Wcc, capc, hconv, hcap1, hcap2, hPn, hcv, hbl⟩ := HS.out.conv_ex da (by have := HNUM.out.2.2.2; unfold maxLen; omega)
            have HCAP : Hid (da.size ≤ capc ∧ capc ≤ maxLen) := Lib.hid ⟨hcap1, hcap2⟩
            replace HS := Lib.hid hcv
            replace HN0 : Hid (∀ x ∈ (P, 0, bys da.data.toList) :: L4, x.1 ≠ G0 + 1 + 1) := Lib.hid (fun x hx => by rcases List.mem_cons.1 hx with rfl | hx; (exact hPn); exact HN0.out x hx)
            replace HSS : Hid (∀ us V, HeldS ((G0 + 1 + 1, 0, us) :: (P, 0, bys da.data.toList) :: L4) V → HeldS L4 V) := Lib.hid (fun us V hv x hx => hv x (List.mem_cons_of_mem _ (List.mem_cons_of_mem _ hx)))
            clear hcap1 hcap2 hPn hcv hbl
            go_wp2_with fail
            refine hK.out _ _ (HSS.out _ _ HS.out.kept.at0) (fun hHeldcc => ?_)
            clear hK K hconv
            try simp only [Act.put, pZ]
            have HM := Lib.hid (bytes_of_held (c := capc) (HS.out.kept.at0 (P, 0, bys da.data.toList) (by simp)) (by rw [data_size]; exact HCAP.out.1) HCAP.out.2)
            refine wpAnyH_ready (rs := [9]) (by kernel_rfl) (by simp) ?_
            refine AllReadyH.cons rfl (fun K hK => ?_) AllReadyH.nil
            go_simp
            refine (HS.out.putc HM.out (by (try simp only [List.length_append]); (try simp only [twoL_len]); (try simp only [data_size]); have := HKL.out; have := HNUM.out; omega) (data_size da)).mono ?_
            rintro e w9 ⟨b9, n9, a9, rfl, hs⟩
            replace HS := Lib.hid hs
            clear hs HM
            go_wp2_with fail
            refine hK.out _ _ (HSS.out _ _ HS.out.kept.at0) (fun hHeldd9 => ?_)
            clear hK K
            try simp only [Act.put, pZ]
            refine wpAnyH_ready (rs := [10]) (by kernel_rfl) (by simp) ?_
            refine ready_one rfl rfl (fun K hK => ?_)
            have HC0 := Lib.hid (HS.out.cells (List.mem_cons_self ..))
            refine wp_store_W9 HC0 rfl _ _ rfl rfl rfl rfl HS.out.rows.one (fun Vz HV HVC => ?_)
            replace HS := HS.out.set HN0.out (by have := HG0.out; omega) [b9, n9, a9] rfl
            rw [← HV.out] at HS
            replace HS := Lib.hid HS
            refine hK.out _ _ (HSS.out _ _ HS.out.kept.at0) (fun hHeldz => ?_)
            clear hK K HC0 HV
            try simp only [Act.put, List.getElem_toArray, List.getElem_cons_zero, List.getElem_cons_succ]
            refine wpAnyH_done (by kernel_rfl) ?_ _
            refine NoPanic.normal ?_
            go_wp2_with fail
            have hrw := HRW.out (da.data.toList, T2.2) (by rw [daR_o (by rw [HR.out]; simp only; omega) (by rw [HR.out]; simp only; omega) (by rw [HR.out]; simp only; omega), HAT.out.2, HR.out])
            refine bodyPost_ret (results_W9 Tryz.results57 rfl HVC.out rfl) rfl ?_
            have h2 := HS.out.ret
            rw [hrw]
            simp only [data_size]
            exact h2
          · obtain ⟨P, Wcb, capc, hconv, hcap1, hcap2, hPn, hcv, hbl⟩ := HS.out.conv_ex da (by have := HNUM.out.2.2.2; unfold maxLen; omega)
            have HCAP : Hid (da.size ≤ capc ∧ capc ≤ maxLen) := Lib.hid ⟨hcap1, hcap2⟩
            replace HS := Lib.hid hcv
            replace HN0 : Hid (∀ x ∈ (P, 0, bys da.data.toList) :: L4, x.1 ≠ G0 + 1 + 1) := Lib.hid (fun x hx => by rcases List.mem_cons.1 hx with rfl | hx; (exact hPn); exact HN0.out x hx)
            replace HSS : Hid (∀ us V, HeldS ((G0 + 1 + 1, 0, us) :: (P, 0, bys da.data.toList) :: L4) V → HeldS L4 V) := Lib.hid (fun us V hv x hx => hv x (List.mem_cons_of_mem _ (List.mem_cons_of_mem _ hx)))
            replace HM := Lib.hid (HM.out.below hbl)
            clear hcap1 hcap2 hPn hcv hbl
            go_wp2_with fail
            refine hK.out _ _ (HSS.out _ _ HS.out.kept.at0) (fun hHeldcb => ?_)
            clear hK K hconv
            try simp only [Act.put, pZ]
            refine wpAnyH_ready (rs := [5]) (by kernel_rfl) (by simp) ?_
            refine AllReadyH.cons rfl (fun K hK => ?_) AllReadyH.nil
            go_simp
            refine (HS.out.putc HM.out (by (try simp only [List.length_append]); (try simp only [twoL_len]); have := HKL.out; omega) rfl).mono ?_
            rintro e wpe5 ⟨be5, ne5, ae5, rfl, hs⟩
            replace HS := Lib.hid hs
            clear hs HM
            go_wp2_with fail
            refine hK.out _ _ (HSS.out _ _ HS.out.kept.at0) (fun hHeldpe5 => ?_)
            clear hK K
            try simp only [Act.put, pZ]
            have HM := Lib.hid (bytes_of_held (c := capc) (HS.out.kept.at0 (P, 0, bys da.data.toList) (by simp)) (by rw [data_size]; exact HCAP.out.1) HCAP.out.2)
            refine wpAnyH_ready (rs := [9]) (by kernel_rfl) (by simp) ?_
            refine AllReadyH.cons rfl (fun K hK => ?_) AllReadyH.nil
            go_simp
            refine (HS.out.putc HM.out (by (try simp only [List.length_append]); (try simp only [twoL_len]); (try simp only [data_size]); have := HKL.out; have := HNUM.out; omega) (data_size da)).mono ?_
            rintro e w9 ⟨b9, n9, a9, rfl, hs⟩
            replace HS := Lib.hid hs
            clear hs HM
            go_wp2_with fail
            refine hK.out _ _ (HSS.out _ _ HS.out.kept.at0) (fun hHeldd9 => ?_)
            clear hK K
            try simp only [Act.put, pZ]
            refine wpAnyH_ready (rs := [10]) (by kernel_rfl) (by simp) ?_
            refine ready_one rfl rfl (fun K hK => ?_)
            have HC0 := Lib.hid (HS.out.cells (List.mem_cons_self ..))
            refine wp_store_W9 HC0 rfl _ _ rfl rfl rfl rfl HS.out.rows.one (fun Vz HV HVC => ?_)
            replace HS := HS.out.set HN0.out (by have := HG0.out; omega) [b9, n9, a9] rfl
            rw [← HV.out] at HS
            replace HS := Lib.hid HS
            refine hK.out _ _ (HSS.out _ _ HS.out.kept.at0) (fun hHeldz => ?_)
            clear hK K HC0 HV
            try simp only [Act.put, List.getElem_toArray, List.getElem_cons_zero, List.getElem_cons_succ]
            refine wpAnyH_done (by kernel_rfl) ?_ _
            refine NoPanic.normal ?_
            go_wp2_with fail
            have hrw := HRW.out (da.data.toList, T2.2) (by rw [daR_o (by rw [HR.out]; simp only; omega) (by rw [HR.out]; simp only; omega) (by rw [HR.out]; simp only; omega), HAT.out.2, HR.out])
            refine bodyPost_ret (results_W9 Tryz.results57 rfl HVC.out rfl) rfl ?_
            have h2 := HS.out.ret
            rw [hrw]
            simp only [data_size]
            exact h2
        · obtain ⟨P, Wca, capc, hconv, hcap1, hcap2, hPn, hcv, hbl⟩ := HS.out.conv_ex da (by have := HNUM.out.2.2.2; unfold maxLen; omega)
          have HCAP : Hid (da.size ≤ capc ∧ capc ≤ maxLen) := Lib.hid ⟨hcap1, hcap2⟩
          replace HS := Lib.hid hcv
          replace HN0 : Hid (∀ x ∈ (P, 0, bys da.data.toList) :: L4, x.1 ≠ G0 + 1 + 1) := Lib.hid (fun x hx => by rcases List.mem_cons.1 hx with rfl | hx; (exact hPn); exact HN0.out x hx)
          replace HSS : Hid (∀ us V, HeldS ((G0 + 1 + 1, 0, us) :: (P, 0, bys da.data.toList) :: L4) V → HeldS L4 V) := Lib.hid (fun us V hv x hx => hv x (List.mem_cons_of_mem _ (List.mem_cons_of_mem _ hx)))
          clear hcap1 hcap2 hPn hcv hbl
          go_wp2_with fail
          refine hK.out _ _ (HSS.out _ _ HS.out.kept.at0) (fun hHeldca => ?_)
          clear hK K hconv
          try simp only [Act.put, pZ]
          have HTW := Lib.hid (HS.out.twoc (n := da.size) (by have := HNUM.out; omega))
          refine wpAnyH_ready (rs := [4]) (by kernel_rfl) (by simp) ?_
          refine AllReadyH.cons rfl (fun K hK => ?_) AllReadyH.nil
          go_simp
          refine HTW.out.mono ?_
          rintro e wte4 ⟨rfl, hm, hs⟩
          have HM := Lib.hid hm
          replace HS := Lib.hid hs
          clear hm hs HTW
          go_wp2_with fail
          refine hK.out _ _ (HSS.out _ _ HS.out.kept.at0) (fun hHeldte4 => ?_)
          clear hK K
          try simp only [Act.put, pZ]
          refine wpAnyH_ready (rs := [5]) (by kernel_rfl) (by simp) ?_
          refine AllReadyH.cons rfl (fun K hK => ?_) AllReadyH.nil
          go_simp
          refine (HS.out.putc HM.out (by (try simp only [List.length_append]); (try simp only [twoL_len]); have := HKL.out; omega) rfl).mono ?_
          rintro e wpe5 ⟨be5, ne5, ae5, rfl, hs⟩
          replace HS := Lib.hid hs
          clear hs HM
          go_wp2_with fail
          refine hK.out _ _ (HSS.out _ _ HS.out.kept.at0) (fun hHeldpe5 => ?_)
          clear hK K
          try simp only [Act.put, pZ]
          have HM := Lib.hid (bytes_of_held (c := capc) (HS.out.kept.at0 (P, 0, bys da.data.toList) (by simp)) (by rw [data_size]; exact HCAP.out.1) HCAP.out.2)
          refine wpAnyH_ready (rs := [9]) (by kernel_rfl) (by simp) ?_
          refine AllReadyH.cons rfl (fun K hK => ?_) AllReadyH.nil
          go_simp
          refine (HS.out.putc HM.out (by (try simp only [List.length_append]); (try simp only [twoL_len]); (try simp only [data_size]); have := HKL.out; have := HNUM.out; omega) (data_size da)).mono ?_
          rintro e w9 ⟨b9, n9, a9, rfl, hs⟩
          replace HS := Lib.hid hs
          clear hs HM
          go_wp2_with fail
          refine hK.out _ _ (HSS.out _ _ HS.out.kept.at0) (fun hHeldd9 => ?_)
          clear hK K
          try simp only [Act.put, pZ]
          refine wpAnyH_ready (rs := [10]) (by kernel_rfl) (by simp) ?_
          refine ready_one rfl rfl (fun K hK => ?_)
          have HC0 := Lib.hid (HS.out.cells (List.mem_cons_self ..))
          refine wp_store_W9 HC0 rfl _ _ rfl rfl rfl rfl HS.out.rows.one (fun Vz HV HVC => ?_)
          replace HS := HS.out.set HN0.out (by have := HG0.out; omega) [b9, n9, a9] rfl
          rw [← HV.out] at HS
          replace HS := Lib.hid HS
          refine hK.out _ _ (HSS.out _ _ HS.out.kept.at0) (fun hHeldz => ?_)
          clear hK K HC0 HV
          try simp only [Act.put, List.getElem_toArray, List.getElem_cons_zero, List.getElem_cons_succ]
          refine wpAnyH_done (by kernel_rfl) ?_ _
          refine NoPanic.normal ?_
          go_wp2_with fail
          have hrw := HRW.out (da.data.toList, T2.2) (by rw [daR_o (by rw [HR.out]; simp only; omega) (by rw [HR.out]; simp only; omega) (by rw [HR.out]; simp only; omega), HAT.out.2, HR.out])
          refine bodyPost_ret (results_W9 Tryz.results57 rfl HVC.out rfl) rfl ?_
          have h2 := HS.out.ret
          rw [hrw]
          simp only [data_size]
          exact h2
end Go.Proofs.YtedmkdjijhflnaaGreat
