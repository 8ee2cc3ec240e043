/- Texts that belong together, one behind the other: SolTry, SolTick, CacCmp, CeRow, CeCut, CeKit, CeFind, CacMap, CeSweep, CacMath, CacRow, RangeKit, RangeLaw, RangeList, CacKeys, CacCollect. -/
import Derived.Test.YtedmkdjijhflnaaB3
import Derived.Sort.Grow
import Derived.Deep.Cut
import Derived.Deep.Draws
import Derived.Laws.OwnMore
import Derived.Deep.AppendLies
import Derived.Maps.AppendAt
import Derived.Maps.RangeWalk
import Derived.DeepKeys4
import Derived.Lib.SlMapFilter
import Derived.WalkArith
import Derived.Sort.Walk0
import Derived.RangeFuncCalls
import Derived.RangeFuncSeq
import Derived.RangeFuncIn
import Derived.OrdersIn
import Derived.TacticsIn
import Derived.Deep.RegionHeld3
import Derived.RangeFuncGives
import Derived.RangeFuncOwn
/- The landed solver: a lookup is tried again. -/
namespace Go.Proofs.Ytedmkdjijhflnaa
open Go.RowKit Go.Sort Go.Shelf
set_option linter.unusedVariables false
set_option maxRecDepth 20000
set_option linter.unusedSimpArgs false

/-- Those that are open, with one of them as it is now. -/
def setA (A : List PL) (g : Nat) (l : Lk) : List PL := A.map fun x => if x.1 = g then (g, l) else x
theorem setA_fst (A : List PL) (g : Nat) (l : Lk) : (setA A g l).map Prod.fst = A.map Prod.fst := by
  unfold setA
  rw [List.map_map]
  apply List.map_congr_left
  intro x _
  show (if x.1 = g then (g, l) else x).1 = x.1
  split
  · rename_i h; exact h.symm
  · rfl
theorem setA_mem {A : List PL} {g : Nat} {l : Lk} {q : PL} (h : q ∈ setA A g l) : q = (g, l) ∨ (q ∈ A ∧ q.1 ≠ g) := by
  obtain ⟨x, hx, e⟩ := List.mem_map.1 h
  by_cases hg : x.1 = g
  · rw [if_pos hg] at e; exact .inl e.symm
  · rw [if_neg hg] at e; subst e; exact .inr ⟨hx, hg⟩
/-- One lookup has turned, in its own block. -/
theorem SolO.put {w w' : World} {G cp g : Nat} {c : Cfg} {n : Int} {v : Value} {A : List PL} {l l' : Lk} (h : SolO w G cp c n v A) (hp : (g, l) ∈ A) (hc : CellsAt w' g (lkL l')) (hb : Blk w' g) (ho : l'.Ok c) (hf : Foot [g] [g] w w') : SolO w' G cp c n v (setA A g l') := by
  have hgG := h.gp _ hp
  have hd : ∀ q ∈ A, q.1 ≠ g → CellsAt w' q.1 (lkL q.2) ∧ Blk w' q.1 := fun q hq hn => ⟨(h.lk q hq).1.foot hf (by simpa using hn), (h.lk q hq).2.foot hf (by simpa using hn)⟩
  refine ⟨h.cs.foot hf (by simpa using fun e => hgG e.symm), ?_, fun q hq => ?_, by rw [setA_fst]; exact h.nd, fun q hq => ?_, fun b hvb => ⟨(h.vb b hvb).1, fun q hq => ?_⟩, fun q hq => ?_, h.cf⟩
  · rw [setA_fst]
    exact h.row.foot hf (fun b hvb => by simpa using fun e => (h.vb b hvb).2 _ hp e.symm)
  · rcases setA_mem hq with rfl | ⟨hq, hn⟩
    · exact ⟨hc, hb⟩
    · exact hd q hq hn
  · rcases setA_mem hq with rfl | ⟨hq, hn⟩
    · exact hgG
    · exact h.gp q hq
  · rcases setA_mem hq with rfl | ⟨hq, hn⟩
    · exact (h.vb b hvb).2 (g, l) hp
    · exact (h.vb b hvb).2 q hq
  · rcases setA_mem hq with rfl | ⟨hq, hn⟩
    · exact ho
    · exact h.ok q hq
/-- Those that are open behind one that is tried again. -/
def againA (c : Cfg) (A : List PL) (p : PL) (draw now : Int) : List PL := if overL c p.2 = true then cutA A p.1 else setA A p.1 (againL c p.2 draw now)
theorem cutA_set (A : List PL) (g : Nat) (l : Lk) : cutA (setA A g l) g = cutA A g := by
  induction A with
  | nil => rfl
  | cons x r ih =>
    unfold setA cutA at ih ⊢
    rw [List.map_cons]
    by_cases hx : x.1 = g
    · rw [if_pos hx, List.filter_cons_of_neg (by simp), List.filter_cons_of_neg (by simp [hx])]
      exact ih
    · rw [if_neg hx, List.filter_cons_of_pos (by simp [hx]), List.filter_cons_of_pos (by simp [hx]), ih]
theorem setA_set (A : List PL) (g : Nat) (l l' : Lk) : setA (setA A g l) g l' = setA A g l' := by
  unfold setA
  rw [List.map_map]
  apply List.map_congr_left
  intro x _
  show (if (if x.1 = g then (g, l) else x).1 = g then (g, l') else (if x.1 = g then (g, l) else x)) = _
  by_cases hx : x.1 = g
  · rw [if_pos hx, if_pos rfl]; rw [if_pos hx]
  · rw [if_neg hx, if_neg hx]
theorem setA_own {A : List PL} {g : Nat} {l : Lk} (h : (A.map Prod.fst).Nodup) (hp : ∃ l0, (g, l0) ∈ A) : (g, l) ∈ setA A g l := by
  obtain ⟨l0, h0⟩ := hp
  exact List.mem_map.2 ⟨(g, l0), h0, if_pos rfl⟩
set_option maxRecDepth 100000 in
set_option maxHeartbeats 2000000 in
theorem again_any (G cp : Nat) (p : PL) (draw now : Int) (c : Cfg) (n : Int) (v : Value) (A : List PL) (w : World) (h : SolO w G cp c n v A) (hp : p ∈ A) (hse : p.2.se < c.tr) (hd : (Lit.int .i64 draw).wf = true) (h0 : 0 ≤ now) (h1 : now ≤ 2199023255552) :
    Calls Try.prog 34 #[.pointer (some ⟨G, 0, none⟩), .pointer (some ⟨p.1, 0, none⟩), .int .i64 draw, .int .i64 now] w fun e w' => e = .returned (evV (againE c p.2 draw now)) ∧ ∃ v', v'.ownBlock = v.ownBlock ∧ SolO w' G cp c n v' (againA c A p draw now) ∧ Foot (fpO G v A) (fpO G v A) w w' := by
  obtain ⟨g, l⟩ := p
  have hse : l.se < c.tr := hse
  have hcf := h.cf
  have hok : l.Ok c := h.ok _ hp
  have hcl : CellsAt w g (lkL l) := (h.lk _ hp).1
  have hbl : Blk w g := (h.lk _ hp).2
  have hgG := h.gp _ hp
  have hgb := mem_fpO (G := G) (v := v) hp
  have hin := fun k (hk : k ∈ fpO G v A) => show k < w.heap.size from by
    rcases List.mem_cons.1 hk with rfl | hk
    · exact h.cs.lt
    rcases List.mem_append.1 hk with hk | hk
    · exact (h.row.lt k (by simpa using hk)).2
    · obtain ⟨q, hq, rfl⟩ := List.mem_map.1 hk
      exact (h.lk q hq).1.lt
  have HZ := Lib.hid (zeroEv w 56)
  obtain ⟨W, hW⟩ : ∃ W, w.alloc (.cells #[.int .i64 0, .int .i64 0, .int .i64 0, .string ⟨#[]⟩, .int .i64 0, .int .i64 0, .slice none 0 0, .int .i64 0] 56) = W := ⟨_, rfl⟩
  have hb : Below w.heap.size w W := by rw [← hW]; exact (Below.refl _ _).alloc (Nat.le_refl _) _
  rw [hW] at HZ
  obtain ⟨R, hR⟩ : ∃ R, w.heap.size = R := ⟨_, rfl⟩
  rw [hR] at HZ
  simp only [hR] at hin
  have HRR : Hid (w.heap.size = R) := Lib.hid hR
  have HIN := Lib.hid hin
  have HGB := Lib.hid hgb
  have HGR : Hid (g < R) := Lib.hid (hin g hgb)
  have HFW : Hid (Foot (fpO G v A) (fpO G v A) w W) := Lib.hid (Foot.ofBelow _ hb)
  have HS := Lib.hid (h.below hb)
  have HC := Lib.hid (hcl.below hb)
  have HP := Lib.hid hp
  have HND := Lib.hid h.nd
  have HBK := Lib.hid (hbl.below hb)
  have HOK := Lib.hid hok
  have HCF := Lib.hid hcf
  have HNG : Hid (G ≠ g) := Lib.hid (fun e => hgG e.symm)
  have HN0 := Lib.hid h0
  have HN1 := Lib.hid h1
  have HDW := Lib.hid hd
  obtain ⟨sn, hsn⟩ : ∃ sn, l.se + 1 = sn := ⟨_, rfl⟩
  have hws : IntKind.i64.wrap (l.se + 1) = sn := by have := hok.se0; have := hok.se1; have := hcf.t2; rw [IntKind.wrap_i64]; omega
  obtain ⟨sv, hsv⟩ : ∃ sv, (l.q.sv + 1) % c.sv = sv := ⟨_, rfl⟩
  have hs1 : IntKind.i64.wrap (l.q.sv + 1) = l.q.sv + 1 := by have := hok.sv0; have := hok.sv1; have := hcf.s2; rw [IntKind.wrap_i64]; omega
  have hs2 : (l.q.sv + 1).tmod c.sv = sv := by rw [Int.tmod_eq_emod_of_nonneg (by have := hok.sv0; omega), hsv]
  have hs0 : c.sv ≠ 0 := by have := hcf.s1; omega
  have HOV : Hid (overL c l = decide (sn = c.tr)) := Lib.hid (by unfold overL; rw [hsn])
  have HAG : Hid (againL c l draw now = sendL c { l with se := sn, q := { l.q with sv := sv } } draw now) := Lib.hid (by unfold againL; rw [hsn, hsv])
  have HSE : Hid (sn ≤ c.tr) := Lib.hid (by omega)
  clear h hp hd h0 h1 hse hcf hok hcl hbl hgG hgb hb hin hsn hsv
  obtain ⟨ln, lnm, ⟨qi, qn, qt, qs⟩, se, un, st, tt⟩ := l
  obtain ⟨csv, ctr, cwt, crm⟩ := c
  simp only at *
  go_enter Try.func34, Try.ntmps34
  go_upto_region 1 with fail
  try rw [hW]
  try rw [hR]
  clear hW hR
  have hc6 := HC.out.cell 6 _ rfl
  have hf6 := HC.out.live 6 (show 6 < 10 by decide)
  go_upto_region 2 with fail
  have HC2 := Lib.hid (HC.out.set 6 (.int .i64 sn) (show 6 < 10 by decide))
  simp only [lkL, List.set_cons_succ, List.set_cons_zero] at HC2
  have HF2 : Hid (Foot [g] [g] W (W.setCell ⟨g, 6, none⟩ (.int .i64 sn))) := Lib.hid (foot_cells g 6 [.int .i64 sn])
  have HK2 := Lib.hid (HBK.out.set 6 (.int .i64 sn))
  clear hc6 hf6
  generalize W.setCell ⟨g, 6, none⟩ (.int .i64 sn) = W2 at *
  have HG2 : Hid (W2.cell? ⟨G, 2, none⟩ = some (.int .i64 ctr)) := Lib.hid ((HS.out.cs.foot HF2.out (by have := HNG.out; simpa using this)).cell 2 _ rfl)
  obtain ⟨S, hS⟩ : ∃ S : World → Prop, (fun V => V.cell? ⟨g, 6, none⟩ = some (.int .i64 sn) ∧ V.cell? ⟨G, 2, none⟩ = some (.int .i64 ctr)) = S := ⟨_, rfl⟩
  have C1 : Hid (∀ w', S w' → w'.cell? ⟨g, 6, none⟩ = some (.int .i64 sn)) := Lib.hid (fun w' h => by rw [← hS] at h; exact h.1)
  have C2 : Hid (∀ w', S w' → w'.cell? ⟨G, 2, none⟩ = some (.int .i64 ctr)) := Lib.hid (fun w' h => by rw [← hS] at h; exact h.2)
  have HS0 : Hid (S W2.drew) := Lib.hid (by rw [← hS]; exact ⟨HC2.out.cell 6 _ rfl, HG2.out⟩)
  clear hS
  refine wp_region_noPanic ?_
  refine wp_region_held_drew (S := S) (by kernel_rfl) HS0.out (fun hHeld => ?_)
  refine wpAnyH_take (i := 0) (v := ?_) rfl (by kernel_rfl) (by kernel_rfl) (by kernel_rfl) (fun _ _ _ h => h) (Or.inl ⟨by rfl, ?_⟩) (by assumption) ?_
  rotate_left
  · (intro w hSw; go_simp; try (with_reducible rfl))
  try simp only [Act.put, List.getElem_toArray, List.getElem_cons_zero, List.setIfInBounds_toArray, List.set_cons_zero, List.set_cons_succ]
  refine wpAnyH_take (i := 1) (v := ?_) rfl (by kernel_rfl) (by kernel_rfl) (by kernel_rfl) (fun _ _ _ h => h) (Or.inl ⟨by rfl, ?_⟩) (by assumption) ?_
  rotate_left
  · (intro w hSw; go_simp; try (with_reducible rfl))
  try simp only [Act.put, List.getElem_toArray, List.getElem_cons_zero, List.getElem_cons_succ, List.setIfInBounds_toArray, List.set_cons_zero, List.set_cons_succ]
  refine wpAnyH_take (i := 2) (v := ?_) rfl (by kernel_rfl) (by kernel_rfl) (by kernel_rfl) (fun _ _ _ h => h) (Or.inl ⟨by rfl, ?_⟩) (by assumption) ?_
  rotate_left
  · (intro w hSw; go_simp; try (with_reducible rfl))
  try simp only [Act.put, List.getElem_toArray, List.getElem_cons_zero, List.getElem_cons_succ, List.setIfInBounds_toArray, List.set_cons_zero, List.set_cons_succ]
  refine wpAnyH_take (i := 3) (v := ?_) rfl (by kernel_rfl) (by kernel_rfl) (by kernel_rfl) (fun _ _ _ h => h) (Or.inl ⟨by rfl, ?_⟩) (by assumption) ?_
  rotate_left
  · (intro w hSw; have hc0 := C1.out w hSw; go_simp; try (with_reducible rfl))
  try simp only [Act.put, List.getElem_toArray, List.getElem_cons_zero, List.getElem_cons_succ, List.setIfInBounds_toArray, List.set_cons_zero, List.set_cons_succ]
  refine wpAnyH_take (i := 4) (v := ?_) rfl (by kernel_rfl) (by kernel_rfl) (by kernel_rfl) (fun _ _ _ h => h) (Or.inl ⟨by rfl, ?_⟩) (by assumption) ?_
  rotate_left
  · (intro w hSw; go_simp; try (with_reducible rfl))
  try simp only [Act.put, List.getElem_toArray, List.getElem_cons_zero, List.getElem_cons_succ, List.setIfInBounds_toArray, List.set_cons_zero, List.set_cons_succ]
  refine wpAnyH_take (i := 5) (v := ?_) rfl (by kernel_rfl) (by kernel_rfl) (by kernel_rfl) (fun _ _ _ h => h) (Or.inl ⟨by rfl, ?_⟩) (by assumption) ?_
  rotate_left
  · (intro w hSw; go_simp; try (with_reducible rfl))
  try simp only [Act.put, List.getElem_toArray, List.getElem_cons_zero, List.getElem_cons_succ, List.setIfInBounds_toArray, List.set_cons_zero, List.set_cons_succ]
  refine wpAnyH_take (i := 6) (v := ?_) rfl (by kernel_rfl) (by kernel_rfl) (by kernel_rfl) (fun _ _ _ h => h) (Or.inl ⟨by rfl, ?_⟩) (by assumption) ?_
  rotate_left
  · (intro w hSw; go_simp; try (with_reducible rfl))
  try simp only [Act.put, List.getElem_toArray, List.getElem_cons_zero, List.getElem_cons_succ, List.setIfInBounds_toArray, List.set_cons_zero, List.set_cons_succ]
  refine wpAnyH_take (i := 7) (v := ?_) rfl (by kernel_rfl) (by kernel_rfl) (by kernel_rfl) (fun _ _ _ h => h) (Or.inl ⟨by rfl, ?_⟩) (by assumption) ?_
  rotate_left
  · (intro w hSw; go_simp; try (with_reducible rfl))
  try simp only [Act.put, List.getElem_toArray, List.getElem_cons_zero, List.getElem_cons_succ, List.setIfInBounds_toArray, List.set_cons_zero, List.set_cons_succ]
  refine wpAnyH_take (i := 8) (v := ?_) rfl (by kernel_rfl) (by kernel_rfl) (by kernel_rfl) (fun _ _ _ h => h) (Or.inl ⟨by rfl, ?_⟩) (by assumption) ?_
  rotate_left
  · (intro w hSw; have hc0 := C2.out w hSw; go_simp; try (with_reducible rfl))
  try simp only [Act.put, List.getElem_toArray, List.getElem_cons_zero, List.getElem_cons_succ, List.setIfInBounds_toArray, List.set_cons_zero, List.set_cons_succ]
  refine wpAnyH_take (i := 9) (v := ?_) rfl (by kernel_rfl) (by kernel_rfl) (by kernel_rfl) (fun _ _ _ h => h) (Or.inl ⟨by rfl, ?_⟩) (by assumption) ?_
  rotate_left
  · (intro w hSw; go_simp; try (with_reducible rfl))
  try simp only [Act.put, List.getElem_toArray, List.getElem_cons_zero, List.getElem_cons_succ, List.setIfInBounds_toArray, List.set_cons_zero, List.set_cons_succ]
  refine wpAnyH_done (by kernel_rfl) ?_ _
  refine NoPanic.normal ?_
  clear hHeld C1 C2 HS0 HG2
  have HS2 : Hid (SolO W2 G cp ⟨csv, ctr, cwt, crm⟩ n v (setA A g ⟨ln, lnm, ⟨qi, qn, qt, qs⟩, sn, un, st, tt⟩)) := Lib.hid (HS.out.put HP.out HC2.out HK2.out (by
    have o := HOK.out
    have o0 := o.se0
    exact ⟨by show 0 ≤ sn; have := HSE.out; have := hws; rw [IntKind.wrap_i64] at this; have o1 := o.se1; have := HCF.out.t2; simp only at *; omega, HSE.out, o.sv0, o.sv1, o.n0, o.n1, o.un0, o.un1, o.st0, o.st1, o.tt, o.tt1, o.ty, o.id0, o.id1, o.nm, o.qn⟩) HF2.out)
  have HPG2 : Hid ((g, (⟨ln, lnm, ⟨qi, qn, qt, qs⟩, sn, un, st, tt⟩ : Lk)) ∈ setA A g ⟨ln, lnm, ⟨qi, qn, qt, qs⟩, sn, un, st, tt⟩) := Lib.hid (setA_own HND.out ⟨_, HP.out⟩)
  have HFP : Hid (fpO G v (setA A g ⟨ln, lnm, ⟨qi, qn, qt, qs⟩, sn, un, st, tt⟩) = fpO G v A) := Lib.hid (by unfold fpO; rw [setA_fst])
  have HZ2 : Hid (CellsAt W2.drew R evZ) := Lib.hid ((HZ.out.foot HF2.out (by have := HGR.out; simp; omega)).below (Below.refl _ _).drew)
  have HFW2 : Hid (Foot (fpO G v A) (fpO G v A) w W2.drew) := Lib.hid ((HFW.out.trans (foot_sub HF2.out (fun k hk => by rw [List.mem_singleton.1 hk]; exact HGB.out))).trans (Foot.ofBelow _ (Below.refl _ _).drew))
  have HFI : Hid (∀ v' A' W3 U vs, v'.ownBlock = v.ownBlock → (∀ k ∈ A'.map Prod.fst, k ∈ A.map Prod.fst) → SolO W3 G cp ⟨csv, ctr, cwt, crm⟩ n v' A' → Foot (fpO G v A) (fpO G v A) w W3 → U = W3.setCells R 0 vs → SolO U G cp ⟨csv, ctr, cwt, crm⟩ n v' A' ∧ Foot (fpO G v A) (fpO G v A) w U) := Lib.hid (fun v' A' W3 U vs hv hA hs hf hU => by
    refine ⟨hs.foot (by rw [hU]; exact foot_cells R 0 vs) (fun k hk => ?_), by rw [hU]; exact foot_new hf (by have := HRR.out; omega)⟩
    have hk2 : k ∈ fpO G v A := by
      rcases List.mem_cons.1 hk with rfl | hk
      · simp [fpO]
      rcases List.mem_append.1 hk with hk | hk
      · rw [hv] at hk; exact List.mem_cons_of_mem _ (List.mem_append_left _ hk)
      · exact List.mem_cons_of_mem _ (List.mem_append_right _ (hA k hk))
    have := HIN.out k hk2
    simp
    omega)
  clear HZ HFW HC HC2 HF2 HBK HK2 HS
  by_cases ho : sn = ctr
  · have hbe : ((sn : Int) == ctr) = true := by simp [ho]
    have HFA := Lib.hid (fail_any G cp (g, ⟨ln, lnm, ⟨qi, qn, qt, qs⟩, sn, un, st, tt⟩) 9 ⟨csv, ctr, cwt, crm⟩ n v (setA A g ⟨ln, lnm, ⟨qi, qn, qt, qs⟩, sn, un, st, tt⟩) W2.drew (HS2.out.below (Below.refl _ _).drew) HPG2.out)
    have HEQ : Hid (againE ⟨csv, ctr, cwt, crm⟩ ⟨ln, lnm, ⟨qi, qn, qt, qs⟩, se, un, st, tt⟩ draw now = evF ln 9) := Lib.hid (by unfold againE; rw [HOV.out, decide_eq_true ho, if_pos rfl])
    have HEA : Hid (againA ⟨csv, ctr, cwt, crm⟩ A (g, ⟨ln, lnm, ⟨qi, qn, qt, qs⟩, se, un, st, tt⟩) draw now = cutA (setA A g ⟨ln, lnm, ⟨qi, qn, qt, qs⟩, sn, un, st, tt⟩) g) := Lib.hid (by unfold againA; rw [HOV.out, decide_eq_true ho, if_pos rfl, cutA_set])
    rw [HFP.out] at HFA
    have HSUB : Hid (∀ k ∈ (cutA (setA A g ⟨ln, lnm, ⟨qi, qn, qt, qs⟩, sn, un, st, tt⟩) g).map Prod.fst, k ∈ A.map Prod.fst) := Lib.hid (fun k hk => by
      rw [← setA_fst A g ⟨ln, lnm, ⟨qi, qn, qt, qs⟩, sn, un, st, tt⟩]
      obtain ⟨q, hq, rfl⟩ := List.mem_map.1 hk
      exact mem_fst (List.mem_filter.1 hq).1)
    clear HOV HAG hws hs0 hs1 hs2 HS2 HPG2 HFP HND HP HOK HCF ho
    go_wp2_with fail
    refine HFA.out.mono ?_
    rintro e w3 ⟨rfl, v', hv, hs, hf⟩
    have HZ3 : Hid (CellsAt w3 R evZ) := Lib.hid (HZ2.out.foot hf (fun e => by have := HIN.out R e; omega))
    have HFI3 := Lib.hid (fun U vs => HFI.out v' _ w3 U vs hv HSUB.out hs (HFW2.out.trans hf))
    have HV := Lib.hid hv
    clear HFA hv hs hf HFI HZ2 HFW2
    unfold evV
    go_wp2_with (refine store_of HZ3 rfl ev_size _ _ rfl rfl rfl (vs := evL (evF ln 9)) rfl rfl rfl (fun U HU HUC => ?_))
    exact bodyPost_ret (results_of Try.results34 rfl HUC.out Try.underlying56 rfl ev_size) rfl ⟨by rw [HEQ.out]; rfl, v', HV.out, by rw [HEA.out]; exact HFI3.out U _ HU.out⟩
  · have hbe : ((sn : Int) == ctr) = false := by simp [ho]
    have HEQ : Hid (againE ⟨csv, ctr, cwt, crm⟩ ⟨ln, lnm, ⟨qi, qn, qt, qs⟩, se, un, st, tt⟩ draw now = evS (sendL ⟨csv, ctr, cwt, crm⟩ ⟨ln, lnm, ⟨qi, qn, qt, sv⟩, sn, un, st, tt⟩ draw now)) := Lib.hid (by unfold againE; rw [HOV.out, decide_eq_false ho, if_neg (by decide), HAG.out])
    have HEA : Hid (againA ⟨csv, ctr, cwt, crm⟩ A (g, ⟨ln, lnm, ⟨qi, qn, qt, qs⟩, se, un, st, tt⟩) draw now = setA (setA A g ⟨ln, lnm, ⟨qi, qn, qt, qs⟩, sn, un, st, tt⟩) g (sendL ⟨csv, ctr, cwt, crm⟩ ⟨ln, lnm, ⟨qi, qn, qt, sv⟩, sn, un, st, tt⟩ draw now)) := Lib.hid (by unfold againA; rw [HOV.out, decide_eq_false ho, if_neg (by decide), HAG.out, setA_set])
    have HS2D := Lib.hid (HS2.out.below (w' := W2.drew) (Below.refl _ _).drew)
    have HC2 : Hid (CellsAt W2.drew g [.int .i64 ln, .string lnm, .int .i64 qi, .string qn, .int .i64 qt, .int .i64 qs, .int .i64 sn, .int .i64 un, .int .i64 st, .int .i64 tt]) := Lib.hid (HS2D.out.lk _ HPG2.out).1
    have HK2 := Lib.hid (HS2D.out.lk _ HPG2.out).2
    have HG1 : Hid (W2.drew.cell? ⟨G, 1, none⟩ = some (.int .i64 csv)) := Lib.hid (HS2D.out.cs.cell 1 _ rfl)
    clear HOV HAG hws HS2
    generalize W2.drew = W3 at *
    go_upto_region 4 with fail
    obtain ⟨S1, hS⟩ : ∃ S : World → Prop, (fun V => V.cell? ⟨G, 1, none⟩ = some (.int .i64 csv)) = S := ⟨_, rfl⟩
    have D1 : Hid (∀ w', S1 w' → w'.cell? ⟨G, 1, none⟩ = some (.int .i64 csv)) := Lib.hid (fun w' h => by rw [← hS] at h; exact h)
    have HD0 : Hid (S1 W3.drew) := Lib.hid (by rw [← hS]; exact HG1.out)
    have HC4 : Hid (CellsAt W3.drew g [.int .i64 ln, .string lnm, .int .i64 qi, .string qn, .int .i64 qt, .int .i64 qs, .int .i64 sn, .int .i64 un, .int .i64 st, .int .i64 tt]) := Lib.hid (HC2.out.below (Below.refl _ _).drew)
    have HK4 := Lib.hid (HK2.out.below (Below.refl W3.heap.size W3).drew)
    have HS4 := Lib.hid (HS2D.out.below (Below.refl W3.heap.size W3).drew)
    have HZ4 := Lib.hid (HZ2.out.below (Below.refl W3.heap.size W3).drew)
    have HF4 : Hid (Foot (fpO G v A) (fpO G v A) w W3.drew) := Lib.hid (HFW2.out.trans (Foot.ofBelow _ (Below.refl _ _).drew))
    clear HG1 HC2 HK2 HS2D HZ2 HFW2
    refine wp_region_noPanic ?_
    refine wp_region_held_drew (S := S1) (by kernel_rfl) HD0.out (fun hHeld => ?_)
    generalize W3.drew = W4 at *
    have HD1 : Hid (S1 (W4.setCell ⟨g, 5, none⟩ (.int .i64 sv))) := Lib.hid (by
      rw [← hS]
      show (W4.setCell ⟨g, 5, none⟩ (.int .i64 sv)).cell? ⟨G, 1, none⟩ = _
      rw [World.cell?_setCell_other _ _ _ _ (by intro h2; injection h2 with h3 _ _; exact HNG.out h3.symm)]
      exact D1.out _ HD0.out)
    clear hS
    refine wpAnyH_take (i := 0) (v := ?_) rfl (by kernel_rfl) (by kernel_rfl) (by kernel_rfl) (fun _ _ _ h => h) (Or.inl ⟨by rfl, ?_⟩) (by assumption) ?_
    rotate_left
    · (intro w hSw; go_simp; try (with_reducible rfl))
    try simp only [Act.put, List.getElem_toArray, List.getElem_cons_zero, List.setIfInBounds_toArray, List.set_cons_zero, List.set_cons_succ]
    refine wpAnyH_take (i := 1) (v := ?_) rfl (by kernel_rfl) (by kernel_rfl) (by kernel_rfl) (fun _ _ _ h => h) (Or.inl ⟨by rfl, ?_⟩) (by assumption) ?_
    rotate_left
    · (intro w hSw; go_simp; try (with_reducible rfl))
    try simp only [Act.put, List.getElem_toArray, List.getElem_cons_zero, List.getElem_cons_succ, List.setIfInBounds_toArray, List.set_cons_zero, List.set_cons_succ]
    refine wpAnyH_take (i := 2) (v := ?_) rfl (by kernel_rfl) (by kernel_rfl) (by kernel_rfl) (fun _ _ _ h => h) (Or.inl ⟨by rfl, ?_⟩) (by assumption) ?_
    rotate_left
    · (intro w hSw; go_simp; try (with_reducible rfl))
    try simp only [Act.put, List.getElem_toArray, List.getElem_cons_zero, List.getElem_cons_succ, List.setIfInBounds_toArray, List.set_cons_zero, List.set_cons_succ]
    refine wpAnyH_take (i := 3) (v := ?_) rfl (by kernel_rfl) (by kernel_rfl) (by kernel_rfl) (fun _ _ _ h => h) (Or.inl ⟨by rfl, ?_⟩) (by assumption) ?_
    rotate_left
    · (intro w hSw; go_simp; try (with_reducible rfl))
    try simp only [Act.put, List.getElem_toArray, List.getElem_cons_zero, List.getElem_cons_succ, List.setIfInBounds_toArray, List.set_cons_zero, List.set_cons_succ]
    refine wpAnyH_take (i := 4) (v := ?_) rfl (by kernel_rfl) (by kernel_rfl) (by kernel_rfl) (fun _ _ _ h => h) (Or.inl ⟨by rfl, ?_⟩) (by assumption) ?_
    rotate_left
    · (intro w hSw; go_simp; try (with_reducible rfl))
    try simp only [Act.put, List.getElem_toArray, List.getElem_cons_zero, List.getElem_cons_succ, List.setIfInBounds_toArray, List.set_cons_zero, List.set_cons_succ]
    refine wpAnyH_take (i := 7) (v := ?_) rfl (by kernel_rfl) (by kernel_rfl) (by kernel_rfl) (fun _ _ _ h => h) (Or.inl ⟨by rfl, ?_⟩) (by assumption) ?_
    rotate_left
    · (intro w hSw; go_simp; try (with_reducible rfl))
    try simp only [Act.put, List.getElem_toArray, List.getElem_cons_zero, List.getElem_cons_succ, List.setIfInBounds_toArray, List.set_cons_zero, List.set_cons_succ]
    refine wpAnyH_take (i := 8) (v := ?_) rfl (by kernel_rfl) (by kernel_rfl) (by kernel_rfl) (fun _ _ _ h => h) (Or.inl ⟨by rfl, ?_⟩) (by assumption) ?_
    rotate_left
    · (intro w hSw; go_simp; try (with_reducible rfl))
    try simp only [Act.put, List.getElem_toArray, List.getElem_cons_zero, List.getElem_cons_succ, List.setIfInBounds_toArray, List.set_cons_zero, List.set_cons_succ]
    refine wpAnyH_take (i := 9) (v := ?_) rfl (by kernel_rfl) (by kernel_rfl) (by kernel_rfl) (fun _ _ _ h => h) (Or.inl ⟨by rfl, ?_⟩) (by assumption) ?_
    rotate_left
    · (intro w hSw; go_simp; try (with_reducible rfl))
    try simp only [Act.put, List.getElem_toArray, List.getElem_cons_zero, List.getElem_cons_succ, List.setIfInBounds_toArray, List.set_cons_zero, List.set_cons_succ]
    refine wpAnyH_take (i := 10) (v := ?_) rfl (by kernel_rfl) (by kernel_rfl) (by kernel_rfl) (fun _ _ _ h => h) (Or.inl ⟨by rfl, ?_⟩) (by assumption) ?_
    rotate_left
    · (intro w hSw; go_simp; try (with_reducible rfl))
    try simp only [Act.put, List.getElem_toArray, List.getElem_cons_zero, List.getElem_cons_succ, List.setIfInBounds_toArray, List.set_cons_zero, List.set_cons_succ]
    refine wpAnyH_take (i := 11) (v := ?_) rfl (by kernel_rfl) (by kernel_rfl) (by kernel_rfl) (fun _ _ _ h => h) (Or.inl ⟨by rfl, ?_⟩) (by assumption) ?_
    rotate_left
    · (intro w hSw; have hc0 := D1.out w hSw; go_simp; try (with_reducible rfl))
    try simp only [Act.put, List.getElem_toArray, List.getElem_cons_zero, List.getElem_cons_succ, List.setIfInBounds_toArray, List.set_cons_zero, List.set_cons_succ]
    have hc5 := HC4.out.cell 5 _ rfl
    have hf5 := HC4.out.live 5 (show 5 < 10 by decide)
    refine wpAnyH_ready (rs := [5]) (by kernel_rfl) (by simp) ?_
    refine AllReadyH.one rfl rfl (fun K hK => ?_)
    go_wp2_with fail
    refine hK.out _ _ hHeld (fun hHeld2 => ?_)
    clear hK K
    try simp only [Act.put, List.getElem_toArray, List.getElem_cons_zero, List.getElem_cons_succ, List.setIfInBounds_toArray, List.set_cons_zero, List.set_cons_succ]
    refine wpAnyH_take (i := 6) (v := ?_) rfl (by kernel_rfl) (by kernel_rfl) (by kernel_rfl) (fun _ _ _ h => h) (Or.inl ⟨by rfl, ?_⟩) (by assumption) ?_
    rotate_left
    · (intro w hSw; go_simp; try (with_reducible rfl))
    try simp only [Act.put, List.getElem_toArray, List.getElem_cons_zero, List.getElem_cons_succ, List.setIfInBounds_toArray, List.set_cons_zero, List.set_cons_succ]
    refine wpAnyH_take (i := 12) (v := ?_) rfl (by kernel_rfl) (by kernel_rfl) (by kernel_rfl) (fun _ _ _ h => h) (Or.inl ⟨by rfl, ?_⟩) (by assumption) ?_
    rotate_left
    · (intro w hSw; go_simp; try (with_reducible rfl))
    try simp only [Act.put, List.getElem_toArray, List.getElem_cons_zero, List.getElem_cons_succ, List.setIfInBounds_toArray, List.set_cons_zero, List.set_cons_succ]
    refine wpAnyH_take (i := 13) (v := ?_) rfl (by kernel_rfl) (by kernel_rfl) (by kernel_rfl) (fun _ _ _ h => h) (Or.inl ⟨by rfl, ?_⟩) (by assumption) ?_
    rotate_left
    · (intro w hSw; go_simp; try (with_reducible rfl))
    try simp only [Act.put, List.getElem_toArray, List.getElem_cons_zero, List.getElem_cons_succ, List.setIfInBounds_toArray, List.set_cons_zero, List.set_cons_succ]
    refine wpAnyH_take (i := 14) (v := ?_) rfl (by kernel_rfl) (by kernel_rfl) (by kernel_rfl) (fun _ _ _ h => h) (Or.inl ⟨by rfl, ?_⟩) (by assumption) ?_
    rotate_left
    · (intro w hSw; go_simp; try (with_reducible rfl))
    try simp only [Act.put, List.getElem_toArray, List.getElem_cons_zero, List.getElem_cons_succ, List.setIfInBounds_toArray, List.set_cons_zero, List.set_cons_succ]
    refine wpAnyH_take (i := 15) (v := ?_) rfl (by kernel_rfl) (by kernel_rfl) (by kernel_rfl) (fun _ _ _ h => h) (Or.inl ⟨by rfl, ?_⟩) (by assumption) ?_
    rotate_left
    · (intro w hSw; go_simp; try (with_reducible rfl))
    try simp only [Act.put, List.getElem_toArray, List.getElem_cons_zero, List.getElem_cons_succ, List.setIfInBounds_toArray, List.set_cons_zero, List.set_cons_succ]
    refine wpAnyH_ready (rs := [16]) (by kernel_rfl) (by simp) ?_
    refine AllReadyH.one rfl rfl (fun K hK => ?_)
    go_wp2_with fail
    try rw [hs2]
    refine hK.out _ _ HD1.out (fun hHeld3 => ?_)
    clear hK K
    try simp only [Act.put, List.getElem_toArray, List.getElem_cons_zero, List.getElem_cons_succ, List.setIfInBounds_toArray, List.set_cons_zero, List.set_cons_succ]
    refine wpAnyH_done (by kernel_rfl) ?_ _
    refine NoPanic.normal ?_
    have HC5 := Lib.hid (HC4.out.set 5 (.int .i64 sv) (show 5 < 10 by decide))
    simp only [List.set_cons_succ, List.set_cons_zero] at HC5
    have HFG : Hid (Foot [g] [g] W4 (W4.setCell ⟨g, 5, none⟩ (.int .i64 sv))) := Lib.hid (foot_cells g 5 [.int .i64 sv])
    have HK5 := Lib.hid (HK4.out.set 5 (.int .i64 sv))
    have HZ5 := Lib.hid (HZ4.out.foot HFG.out (by have := HGR.out; simp; omega))
    have HF5 := Lib.hid (HF4.out.trans (foot_sub HFG.out (fun k hk => by rw [List.mem_singleton.1 hk]; exact HGB.out)))
    have HOK5 : Hid (Lk.Ok ⟨csv, ctr, cwt, crm⟩ ⟨ln, lnm, ⟨qi, qn, qt, sv⟩, sn, un, st, tt⟩) := Lib.hid (by
      have o := HOK.out
      have c1 := HCF.out.s1
      have hv0 : 0 ≤ sv ∧ sv < csv := by
        rw [← hs2, Int.tmod_eq_emod_of_nonneg (by have := o.sv0; simp only at this; omega)]
        simp only at c1
        exact ⟨Int.emod_nonneg _ (by omega), Int.emod_lt_of_pos _ (by omega)⟩
      exact ⟨(HS4.out.ok _ HPG2.out).se0, HSE.out, hv0.1, hv0.2, o.n0, o.n1, o.un0, o.un1, o.st0, o.st1, o.tt, o.tt1, o.ty, o.id0, o.id1, o.nm, o.qn⟩)
    have HS5 := Lib.hid (HS4.out.put HPG2.out HC5.out HK5.out HOK5.out HFG.out)
    rw [setA_set] at HS5
    clear hHeld hHeld2 hHeld3 D1 HD0 HD1 hc5 hf5 HC4 HK4 HS4 HZ4 HF4 HFG
    generalize W4.setCell ⟨g, 5, none⟩ (.int .i64 sv) = W5 at *
    have HSEND := Lib.hid (send_any G g ⟨csv, ctr, cwt, crm⟩ ⟨ln, lnm, ⟨qi, qn, qt, sv⟩, sn, un, st, tt⟩ draw now W5 (HS5.out.cs.cell 3 _ rfl) HS5.out.cs.lt HC5.out HK5.out HNG.out HDW.out HN0.out HN1.out HCF.out)
    have HOK6 := Lib.hid (sendL_ok HCF.out HOK5.out draw now HN0.out HN1.out)
    have HPG5 : Hid ((g, (⟨ln, lnm, ⟨qi, qn, qt, sv⟩, sn, un, st, tt⟩ : Lk)) ∈ setA A g ⟨ln, lnm, ⟨qi, qn, qt, sv⟩, sn, un, st, tt⟩) := Lib.hid (setA_own HND.out ⟨_, HP.out⟩)
    rw [setA_set] at HEA
    clear HK5 HC5
    generalize sendL ⟨csv, ctr, cwt, crm⟩ ⟨ln, lnm, ⟨qi, qn, qt, sv⟩, sn, un, st, tt⟩ draw now = L6 at *
    go_wp2_with fail
    refine HSEND.out.mono ?_
    rintro e w6 ⟨rfl, hc6, hk6, hf6⟩
    have HZ6 := Lib.hid (HZ5.out.foot hf6 (by have := HGR.out; simp; omega))
    have HS6 := Lib.hid (HS5.out.put HPG5.out hc6 hk6 HOK6.out hf6)
    rw [setA_set] at HS6
    have HF6 := Lib.hid (HF5.out.trans (foot_sub hf6 (fun k hk => by rw [List.mem_singleton.1 hk]; exact HGB.out)))
    clear hc6 hk6 hf6 HSEND HZ5 HS5 HF5
    have HFI6 := Lib.hid (fun U vs => HFI.out v _ w6 U vs rfl (fun k hk => by rw [setA_fst] at hk; exact hk) HS6.out HF6.out)
    unfold evV
    go_wp2_with (refine store_of HZ6 rfl ev_size _ _ rfl rfl rfl (vs := evL (evS L6)) rfl rfl rfl (fun U HU HUC => ?_))
    exact bodyPost_ret (results_of Try.results34 rfl HUC.out Try.underlying56 rfl ev_size) rfl ⟨by rw [HEQ.out]; rfl, v, rfl, by rw [HEA.out]; exact HFI6.out U _ HU.out⟩
end Go.Proofs.Ytedmkdjijhflnaa
/- The landed solver: Tick and Open. -/
namespace Go.Proofs.Ytedmkdjijhflnaa
open Go.RowKit Go.Sort Go.Shelf
set_option linter.unusedVariables false
set_option maxRecDepth 20000
set_option linter.unusedSimpArgs false

theorem wrap_wf (x : Int) : (Lit.int .i64 (IntKind.i64.wrap x)).wf = true := by
  refine WalkArith.wf_i64 ?_
  rw [IntKind.wrap_i64]
  omega
theorem wrap_next (d : Int) (j : Nat) : IntKind.i64.wrap (IntKind.i64.wrap (d + (j : Int)) + 1) = IntKind.i64.wrap (d + ((j + 1 : Nat) : Int)) := by
  simp only [IntKind.wrap_i64]
  omega
theorem wrap_id {d : Int} (h : (Lit.int .i64 d).wf = true) : IntKind.i64.wrap d = d := by
  have := bounds_i64 h
  rw [IntKind.wrap_i64]
  omega
section
variable {c : Cfg} {now d : Int}
theorem tickA_cons (g : Nat) (l : Lk) (r : List PL) (j : Int) : tickA c now d j ((g, l) :: r) = if l.un ≤ now then (if overL c l = true then tickA c now d (j + 1) r else (g, againL c l (IntKind.i64.wrap (d + j)) now) :: tickA c now d (j + 1) r) else (g, l) :: tickA c now d j r := rfl
theorem tickE_cons (g : Nat) (l : Lk) (r : List PL) (j : Int) : tickE c now d j ((g, l) :: r) = if l.un ≤ now then againE c l (IntKind.i64.wrap (d + j)) now :: tickE c now d (j + 1) r else tickE c now d j r := rfl
theorem tickA_app (X Y : List PL) : ∀ j : Int, tickA c now d j (X ++ Y) = tickA c now d j X ++ tickA c now d (j + (tickE c now d j X).length) Y := by
  induction X with
  | nil => intro j; simp [tickA, tickE]
  | cons p r ih =>
    intro j
    obtain ⟨g, l⟩ := p
    rw [List.cons_append, tickA_cons, tickA_cons, tickE_cons]
    by_cases h : l.un ≤ now
    · rw [if_pos h, if_pos h, if_pos h]
      have e : j + 1 + ((tickE c now d (j + 1) r).length : Int) = j + ((againE c l (IntKind.i64.wrap (d + j)) now :: tickE c now d (j + 1) r).length : Int) := by rw [List.length_cons]; omega
      by_cases ho : overL c l = true
      · rw [if_pos ho, if_pos ho, ih, e]
      · rw [if_neg ho, if_neg ho, ih, e, List.cons_append]
    · rw [if_neg h, if_neg h, if_neg h, ih, List.cons_append]
theorem tickE_app (X Y : List PL) : ∀ j : Int, tickE c now d j (X ++ Y) = tickE c now d j X ++ tickE c now d (j + (tickE c now d j X).length) Y := by
  induction X with
  | nil => intro j; simp [tickE]
  | cons p r ih =>
    intro j
    obtain ⟨g, l⟩ := p
    rw [List.cons_append, tickE_cons, tickE_cons]
    by_cases h : l.un ≤ now
    · have e : j + 1 + ((tickE c now d (j + 1) r).length : Int) = j + ((againE c l (IntKind.i64.wrap (d + j)) now :: tickE c now d (j + 1) r).length : Int) := by rw [List.length_cons]; omega
      rw [if_pos h, if_pos h, ih, List.cons_append, e]
    · rw [if_neg h, if_neg h, ih]
theorem tickA_sub : ∀ (X : List PL) (j : Int), ∀ q ∈ tickA c now d j X, q.1 ∈ X.map Prod.fst := by
  intro X
  induction X with
  | nil => intro j q hq; cases hq
  | cons p r ih =>
    intro j q hq
    obtain ⟨g, l⟩ := p
    unfold tickA at hq
    rw [List.map_cons]
    split at hq
    · split at hq
      · exact List.mem_cons_of_mem _ (ih _ q hq)
      · rcases List.mem_cons.1 hq with rfl | hq
        · exact List.mem_cons_self ..
        · exact List.mem_cons_of_mem _ (ih _ q hq)
    · rcases List.mem_cons.1 hq with rfl | hq
      · exact List.mem_cons_self ..
      · exact List.mem_cons_of_mem _ (ih _ q hq)
theorem tickE_len : ∀ (X : List PL) (j : Int), (tickE c now d j X).length ≤ X.length := by
  intro X
  induction X with
  | nil => intro j; exact Nat.le_refl _
  | cons p r ih =>
    intro j
    obtain ⟨g, l⟩ := p
    unfold tickE
    rw [List.length_cons]
    split
    · rw [List.length_cons]; exact Nat.succ_le_succ (ih _)
    · exact Nat.le_succ_of_le (ih _)
/-- One in the middle is tried again. -/
theorem againA_mid {P D : List PL} {g : Nat} {l : Lk} (hP : ∀ q ∈ P, q.1 ≠ g) (hD : ∀ q ∈ D, q.1 ≠ g) : againA c (P ++ (g, l) :: D) (g, l) d now = P ++ (if overL c l = true then [] else [(g, againL c l d now)]) ++ D := by
  have f1 : ∀ X : List PL, (∀ q ∈ X, q.1 ≠ g) → X.filter (fun p => decide (p.1 ≠ g)) = X := fun X h => List.filter_eq_self.2 (fun q hq => decide_eq_true (h q hq))
  have f2 : ∀ (X : List PL) (y : PL), (∀ q ∈ X, q.1 ≠ g) → X.map (fun x => if x.1 = g then y else x) = X := fun X y h => by
    conv => rhs; rw [← List.map_id X]
    exact List.map_congr_left (fun q hq => by rw [if_neg (h q hq)]; rfl)
  unfold againA
  show (if overL c l = true then cutA (P ++ (g, l) :: D) g else setA (P ++ (g, l) :: D) g (againL c l d now)) = _
  by_cases ho : overL c l = true
  · rw [if_pos ho, if_pos ho]
    unfold cutA
    rw [List.filter_append, List.filter_cons_of_neg (by simp), f1 P hP, f1 D hD, List.append_nil]
  · rw [if_neg ho, if_neg ho]
    unfold setA
    rw [List.map_append, List.map_cons, f2 P _ hP, f2 D _ hD, if_pos rfl]
    simp
end
theorem SolO.old {w w' : World} {B G cp : Nat} {c : Cfg} {n : Int} {v : Value} {A : List PL} (h : SolO w G cp c n v A) (hb : Below B w w') (hk : ∀ k ∈ fpO G v A, k < B) : SolO w' G cp c n v A := by
  have hm : ∀ p ∈ A, p.1 < B := fun p hp => hk _ (mem_fpO hp)
  exact ⟨h.cs.keptB hb.size (hb.block G (hk G (by simp [fpO]))), h.row.kept2 (fun g hg => hb.block g (hk g (by simp [fpO, hg]))), fun p hp => ⟨(h.lk p hp).1.keptB hb.size (hb.block _ (hm p hp)), (h.lk p hp).2.kept (hb.block _ (hm p hp))⟩, h.nd, h.gp, h.vb, h.ok, h.cf⟩
structure TkSt (w : World) (G cp : Nat) (c : Cfg) (n : Int) (b : Option Nat) (gc B : Nat) (A0 : List PL) (now d : Int) (k : Nat) (v ve : Value) (wr : World) : Prop where
  so : SolO wr G cp c n v (tickA c now d 0 (A0.take k) ++ A0.drop k)
  vb : v.ownBlock = b
  ev : RowEv wr B ve (tickE c now d 0 (A0.take k))
  bb : w.heap.size ≤ B ∧ B ≤ wr.heap.size
  cl : wr.rangeAt gc 0 (ptsV (A0.map Prod.fst))
  ft : Foot (G :: (b.toList ++ A0.map Prod.fst)) (G :: (b.toList ++ A0.map Prod.fst)) w wr
theorem mem_tick {G : Nat} {c : Cfg} {now d : Int} {b : Option Nat} {A0 : List PL} {k : Nat} {v : Value} (hv : v.ownBlock = b) : ∀ x ∈ fpO G v (tickA c now d 0 (A0.take k) ++ A0.drop k), x ∈ G :: (b.toList ++ A0.map Prod.fst) := by
  intro x hx
  rcases List.mem_cons.1 hx with rfl | hx
  · simp
  rcases List.mem_append.1 hx with hx | hx
  · rw [hv] at hx
    exact List.mem_cons_of_mem _ (List.mem_append_left _ hx)
  · refine List.mem_cons_of_mem _ (List.mem_append_right _ ?_)
    obtain ⟨q, hq, rfl⟩ := List.mem_map.1 hx
    rcases List.mem_append.1 hq with hq | hq
    · have := tickA_sub _ _ q hq
      obtain ⟨y, hy, e⟩ := List.mem_map.1 this
      rw [← e]
      exact List.mem_map.2 ⟨y, List.mem_of_mem_take hy, rfl⟩
    · exact List.mem_map.2 ⟨q, List.mem_of_mem_drop hq, rfl⟩
theorem foot_old {F F' : List Nat} {w w2 w6 : World} {B : Nat} (h : Foot F F' w w2) (hb : Below B w2 w6) (hB : w.heap.size ≤ B) : Foot F F' w w6 :=
  ⟨hb.os.trans h.os, hb.tape.trans h.tape, hb.output.trans h.output, Nat.le_trans h.size hb.size, fun k hk hn => (hb.block k (Nat.lt_of_lt_of_le hk hB)).trans (h.keep k hk hn), h.new⟩
theorem TkSt.mem {w wr : World} {G cp gc B : Nat} {c : Cfg} {n now d : Int} {b : Option Nat} {A0 : List PL} {k : Nat} {v ve : Value} (h : TkSt w G cp c n b gc B A0 now d k v ve wr) : ∀ x ∈ fpO G v (tickA c now d 0 (A0.take k) ++ A0.drop k), x ∈ G :: (b.toList ++ A0.map Prod.fst) := mem_tick h.vb
set_option maxRecDepth 100000 in
set_option maxHeartbeats 2000000 in
theorem tick_any (G cp : Nat) (draw now : Int) (c : Cfg) (n : Int) (v0 : Value) (A0 : List PL) (w : World) (h : SolO w G cp c n v0 A0) (hal : ∀ p ∈ A0, p.2.se < c.tr) (hd : (Lit.int .i64 draw).wf = true) (h0 : 0 ≤ now) (h1 : now ≤ 2199023255552) (hl : A0.length ≤ 100) :
    Calls Try.prog 17 #[.pointer (some ⟨G, 0, none⟩), .int .i64 now, .int .i64 draw] w fun e w' => ∃ v ve, e = .returned ve ∧ RowEv w' w.heap.size ve (tickE c now draw 0 A0) ∧ v.ownBlock = v0.ownBlock ∧ SolO w' G cp c n v (tickA c now draw 0 A0) ∧ Foot (fpO G v0 A0) (fpO G v0 A0) w w' := by
  have HCL := Lib.hid (clonePt_any 0 v0 (A0.map Prod.fst) w h.row)
  have hin : ∀ k ∈ fpO G v0 A0, k < w.heap.size := fun k hk => by
    rcases List.mem_cons.1 hk with rfl | hk
    · exact h.cs.lt
    rcases List.mem_append.1 hk with hk | hk
    · exact (h.row.lt k (by simpa using hk)).2
    · obtain ⟨q, hq, rfl⟩ := List.mem_map.1 hk
      exact (h.lk q hq).1.lt
  have HIN := Lib.hid hin
  have HND := Lib.hid h.nd
  have HAL := Lib.hid hal
  have HD := Lib.hid hd
  have HN0 := Lib.hid h0
  have HN1 := Lib.hid h1
  have HL := Lib.hid hl
  have HS := Lib.hid h
  have c6 := h.cs.cell 6 _ rfl
  clear h hin hal hd h0 h1 hl
  go_enter Try.func17, Try.ntmps17
  go_wp2_with fail
  refine HCL.out.mono ?_
  rintro e w1 ⟨vc, rfl, hrc, hb1⟩
  clear HCL c6
  obtain ⟨ac, cc, rfl⟩ := hrc.slice
  obtain ⟨B, hB⟩ : ∃ B, w1.heap.size = B := ⟨_, rfl⟩
  have hbs := hb1.size
  have HS1 : Hid (∀ gc, ac = some ⟨gc, 0, none⟩ ∨ A0 = [] → TkSt w G cp c n v0.ownBlock gc B A0 now draw 0 v0 (.slice none 0 0) w1) := Lib.hid (fun gc hgc => ⟨by simpa [tickA] using HS.out.below hb1, rfl, by simpa [tickE] using RowEv.nil w1 B, ⟨by omega, by omega⟩, by
    rcases hgc with hgc | hgc
    · rcases hrc.form with ⟨e, e2⟩ | ⟨g, cap, e, _, _, _, _, h5⟩
      · rw [hgc] at e; cases e
      · rw [hgc] at e
        injection e with e
        injection e with e
        injection e with e
        subst e
        exact h5
    · rw [hgc]; intro j u hu; simp [ptsV] at hu, Foot.ofBelow _ hb1⟩)
  have HGC : Hid (∃ gc, (ac = some ⟨gc, 0, none⟩ ∨ A0 = []) ∧ (A0 ≠ [] → w.heap.size ≤ gc ∧ gc < B)) := Lib.hid (by
    rcases hrc.form with ⟨e, e2⟩ | ⟨g, cap, e, hg, hg2, _⟩
    · exact ⟨0, .inr (by simpa using e2), fun h => absurd (by simpa using e2) h⟩
    · injection e with e
      exact ⟨g, .inl e, fun _ => ⟨hg, by omega⟩⟩)
  have hlen : (A0.map Prod.fst).length = A0.length := List.length_map _
  rw [hlen]
  clear hrc hb1 HS hlen hbs hB
  obtain ⟨gc, hgc, hgl⟩ := HGC.out
  have HS2 := Lib.hid (HS1.out gc hgc)
  have HGL := Lib.hid hgl
  have HAC := Lib.hid hgc
  clear HS1 HGC hgc hgl
  obtain ⟨N, hN⟩ : ∃ N, A0.length = N := ⟨_, rfl⟩
  have HNN := Lib.hid hN
  rw [hN]
  have hn100 : N ≤ 100 := by rw [← hN]; exact HL.out
  clear hN
  go_wp2_with fail
  go_loopw [2, 7, 9, 16] (fun s2 s7 _ s16 wr => ∃ (k : Nat) (v : Value), k ≤ N ∧ s16 = .int .i64 (k : Int) ∧ s2 = .int .i64 (IntKind.i64.wrap (draw + ((tickE c now draw 0 (A0.take k)).length : Int))) ∧ Hid (TkSt w G cp c n v0.ownBlock gc B A0 now draw k v s7 wr)) (fun _ _ _ i _ => N - (intOf i).toNat)
  case atStart => exact ⟨0, v0, Nat.zero_le _, rfl, by simp only [List.take_zero, tickE, List.length_nil]; rw [show draw + ((0 : Nat) : Int) = draw by omega, wrap_id HD.out], HS2⟩
  case round =>
    clear HS2
    obtain ⟨k, v, hk, rfl, rfl, HS⟩ := hrel
    by_cases hkN : k < N
    · have hd : decide ((k : Int) < (N : Int)) = true := decide_eq_true (by omega)
      have hdn : decide (k < N) = true := decide_eq_true hkN
      have hk0 : k < A0.length := by rw [HNN.out]; exact hkN
      have hne : A0 ≠ [] := fun e => by rw [e] at hk0; cases hk0
      have hac : ac = some ⟨gc, 0, none⟩ := HAC.out.resolve_right hne
      have hgl := HGL.out hne
      obtain ⟨g, l, hgl2⟩ : ∃ g l, A0[k] = (g, l) := ⟨_, _, rfl⟩
      have hdr : A0.drop k = (g, l) :: A0.drop (k + 1) := by rw [List.drop_eq_getElem_cons hk0, hgl2]
      have htk : A0.take (k + 1) = A0.take k ++ [(g, l)] := by rw [List.take_succ_eq_append_getElem hk0, hgl2]
      have hmem : (g, l) ∈ A0 := by rw [← hgl2]; exact List.getElem_mem hk0
      have hcell : wr.cell? ⟨gc, k, none⟩ = some (.pointer (some ⟨g, 0, none⟩)) := by
        have := HS.out.cl k (ptV g) (by rw [ptsV_at (by simpa using hk0)]; simp [hgl2])
        rwa [Nat.zero_add] at this
      have hso := HS.out.so
      rw [hdr] at hso
      have hin2 : (g, l) ∈ tickA c now draw 0 (A0.take k) ++ (g, l) :: A0.drop (k + 1) := by simp
      have hun := (hso.lk _ hin2).1.cell 7 _ rfl
      have hnd2 := hso.nd
      have hPg : ∀ q ∈ tickA c now draw 0 (A0.take k), q.1 ≠ g := fun q hq e => by
        rw [List.map_append, List.map_cons] at hnd2
        exact (List.nodup_append.1 hnd2).2.2 q.1 (mem_fst hq) g (by simp) e
      have hDg : ∀ q ∈ A0.drop (k + 1), q.1 ≠ g := fun q hq e => by
        rw [List.map_append, List.map_cons] at hnd2
        have h2 := (List.nodup_append.1 hnd2).2.1
        rw [List.nodup_cons] at h2
        exact h2.1 (by have h3 := mem_fst hq; rw [e] at h3; exact h3)
      have HMID : Hid (∀ d, againA c (tickA c now draw 0 (A0.take k) ++ (g, l) :: A0.drop (k + 1)) (g, l) d now = _) := Lib.hid (fun d => againA_mid (c := c) (now := now) (d := d) hPg hDg)
      have HTA := Lib.hid (tickA_app (c := c) (now := now) (d := draw) (A0.take k) [(g, l)] 0)
      have HTE := Lib.hid (tickE_app (c := c) (now := now) (d := draw) (A0.take k) [(g, l)] 0)
      rw [← htk] at HTA HTE
      rw [tickA_cons, Int.zero_add] at HTA
      rw [tickE_cons, Int.zero_add] at HTE
      rw [show ∀ j, tickA c now draw j [] = [] from fun _ => rfl, show ∀ j, tickA c now draw j [] = [] from fun _ => rfl] at HTA
      rw [show ∀ j, tickE c now draw j [] = [] from fun _ => rfl, show ∀ j, tickE c now draw j [] = [] from fun _ => rfl] at HTE
      obtain ⟨T, hT⟩ : ∃ T, tickA c now draw 0 (A0.take k) = T := ⟨_, rfl⟩
      obtain ⟨E, hE⟩ : ∃ E, tickE c now draw 0 (A0.take k) = E := ⟨_, rfl⟩
      have hel : E.length ≤ 100 := by
        rw [← hE]
        have := tickE_len (c := c) (now := now) (d := draw) (A0.take k) 0
        rw [List.length_take] at this
        have := HL.out
        omega
      rw [hT, hE] at HTA
      rw [hE] at HTE
      have HMEM := Lib.hid HS.out.mem
      rw [hdr, hT] at HMEM
      have HSO := Lib.hid hso
      rw [hT] at HSO HMID
      rw [hT] at hin2
      have HEV := Lib.hid HS.out.ev
      rw [hE] at HEV
      have HCLR := Lib.hid HS.out.cl
      have HVB := Lib.hid HS.out.vb
      have HFT := Lib.hid HS.out.ft
      have HM2 := Lib.hid hin2
      have HGC2 := Lib.hid hgl
      have HBB := Lib.hid HS.out.bb
      have HAL2 := Lib.hid (HAL.out _ hmem)
      rw [hE]
      subst hac
      clear HS hk0 hne hgl hgl2 hdr htk hmem hso hin2 hnd2 hPg hDg hT hE HAC HGL
      by_cases hu : l.un ≤ now
      · have hdu : decide (l.un ≤ now) = true := decide_eq_true hu
        rw [if_pos hu] at HTA HTE
        have HAG0 := again_any G cp (g, l) (IntKind.i64.wrap (draw + (E.length : Int))) now c n v (T ++ (g, l) :: A0.drop (k + 1)) wr HSO.out HM2.out HAL2.out (wrap_wf _) HN0.out HN1.out
        have HEL : Hid (E.length + [againE c l (IntKind.i64.wrap (draw + (E.length : Int))) now].length ≤ 1000) := Lib.hid (by simp only [List.length_cons, List.length_nil]; omega)
        have hnx := wrap_next draw E.length
        obtain ⟨dw, hdw⟩ : ∃ dw, IntKind.i64.wrap (draw + (E.length : Int)) = dw := ⟨_, rfl⟩
        obtain ⟨dx, hdx⟩ : ∃ dx, IntKind.i64.wrap (draw + ((E.length + 1 : Nat) : Int)) = dx := ⟨_, rfl⟩
        rw [hdw] at hnx HAG0 HTA HTE HEL ⊢
        rw [hdx] at hnx
        have HDX := Lib.hid hdx
        obtain ⟨EV, hEV⟩ : ∃ EV, againE c l dw now = EV := ⟨_, rfl⟩
        rw [hEV] at HTE HEL
        simp only [hEV] at HAG0
        have HAG := Lib.hid HAG0
        clear hdw hdx hEV HAG0
        go_wp2_with fail
        refine HAG.out.mono ?_
        rintro e w2 ⟨rfl, v2, hv2, hs2, hf2⟩
        have hKin : ∀ x ∈ fpO G v (T ++ (g, l) :: A0.drop (k + 1)), x < w.heap.size := fun x hx => HIN.out x (HMEM.out x hx)
        have HS2 := Lib.hid hs2
        rw [HMID.out] at HS2
        have HE2 : Hid (RowEv w2 B u7 E) := Lib.hid (by
          have h := HEV.out
          obtain ⟨⟨e1, e2⟩, e3⟩ := h
          refine ⟨⟨e1, ?_⟩, e3⟩
          rcases e2 with e2 | ⟨gg, cap, cur, f1, f2, f3, f4⟩
          · exact .inl e2
          · refine .inr ⟨gg, cap, cur, f1, f2, ?_, f4⟩
            have hlt : gg < wr.heap.size := by
              apply Classical.byContradiction
              intro h
              rw [Array.getElem?_eq_none (by omega)] at f3
              cases f3
            rw [hf2.keep gg hlt (fun e => by have := hKin gg e; have := HBB.out; omega)]
            exact f3)
        have HC2 : Hid (w2.rangeAt gc 0 (ptsV (A0.map Prod.fst))) := Lib.hid (range_foot hf2 HCLR.out (by have := HBB.out; have := HGC2.out; omega) (fun e => by have := hKin gc e; have := HGC2.out; omega))
        have HF2 : Hid (Foot (G :: (v0.ownBlock.toList ++ A0.map Prod.fst)) (G :: (v0.ownBlock.toList ++ A0.map Prod.fst)) w w2) := Lib.hid (HFT.out.trans (foot_sub hf2 HMEM.out))
        have HV2 : Hid (v2.ownBlock = v0.ownBlock) := Lib.hid (hv2.trans HVB.out)
        have HSB : Hid (wr.heap.size ≤ w2.heap.size) := Lib.hid hf2.size
        clear hs2 hf2 hv2 HAG HSO HM2 HEV HCLR HFT HVB hKin hcell hun HMID HMEM
        have HM5 : Hid (1 = [EV].length) := Lib.hid rfl
        have HS0 : Hid (B ≤ w2.heap.size) := Lib.hid (Nat.le_trans HBB.out.2 HSB.out)
        clear HSB
        go_wp2_with (first
          | (refine build_evS rfl _ rfl rfl (fun W5 HW5 => ?_); have HB5 : Hid (Below w2.heap.size w2 W5) := Lib.hid (by rw [HW5.out]; exact (Below.refl _ _).alloc (Nat.le_refl _) _); have HO5 := Lib.hid (HE2.out.below HB5.out); have HR5 : Hid (W5.rangeAt w2.heap.size 0 (flatEv [EV])) := Lib.hid (by rw [HW5.out]; have := (CellsAt.new w2 56 (evL EV)).range; simpa [flatEv] using this); have HS5 := Lib.hid (Nat.le_trans HS0.out HB5.out.size))
          | (at_builtin; refine append_evs HO5 _ _ rfl rfl rfl [EV] rfl HM5 HR5 HEL HS5 (fun v6 w6 HO6 HG6 HA6 => ?_)))
        have hb6 : Below B w2 w6 := ((HB5.out.mono HS0.out)).grown HG6.out HS5.out (fun j hj => (HO5.out.1.lt j hj).1)
        go_roundw
        case rel =>
          have hbb := HBB.out
          have hgc := HGC2.out
          have HT2 : T ++ (if overL c l = true then [] else [(g, againL c l dw now)]) ++ A0.drop (k + 1) = tickA c now draw 0 (A0.take (k + 1)) ++ A0.drop (k + 1) := by rw [HTA.out]
          have hsz := hb6.size
          refine ⟨k + 1, v2, by omega, by go_num, ?_, Lib.hid ⟨?_, HV2.out, by rw [HTE.out]; exact HO6.out, ⟨hbb.1, by have := HS0.out; omega⟩, range_belowC HC2.out hb6 hgc.2, foot_old HF2.out hb6 hbb.1⟩⟩
          · rw [HTE.out, List.length_append, ← HDX.out]
            rfl
          · have h2 := HS2.out
            rw [HT2] at h2
            exact h2.old hb6 (fun x hx => by have := HIN.out x (mem_tick HV2.out x hx); omega)
        case measure => simp [intOf]; omega
      · have hdu : decide (l.un ≤ now) = false := decide_eq_false hu
        rw [if_neg hu] at HTA HTE
        go_wp2_with fail
        go_roundw
        case rel =>
          have HT2 : T ++ [(g, l)] ++ A0.drop (k + 1) = T ++ (g, l) :: A0.drop (k + 1) := by simp
          refine ⟨k + 1, v, by omega, by go_num, ?_, Lib.hid ⟨?_, HVB.out, by rw [HTE.out, List.append_nil]; exact HEV.out, HBB.out, HCLR.out, HFT.out⟩⟩
          · rw [HTE.out, List.append_nil]
          · rw [HTA.out, HT2]; exact HSO.out
        case measure => simp [intOf]; omega
    · obtain rfl : k = N := by omega
      have hd : decide ((k : Int) < (k : Int)) = false := by simp
      have hdn : decide (k < k) = false := by simp
      have htk : A0.take k = A0 := List.take_of_length_le (by rw [HNN.out]; exact Nat.le_refl _)
      have hdr : A0.drop k = [] := List.drop_eq_nil_of_le (by rw [HNN.out]; exact Nat.le_refl _)
      have HE := HS.out
      have h1 := HE.so
      have h2 := HE.ev
      rw [htk, hdr, List.append_nil] at h1
      rw [htk] at h2
      have HF := Lib.hid (show ∃ (v' : Value), RowEv wr w.heap.size u7 (tickE c now draw 0 A0) ∧ v'.ownBlock = v0.ownBlock ∧ SolO wr G cp c n v' (tickA c now draw 0 A0) ∧ Foot (fpO G v0 A0) (fpO G v0 A0) w wr from ⟨v, h2.mono HE.bb.1, HE.vb, h1, HE.ft⟩)
      clear h1 h2 HE HS htk hdr
      go_wp2_with fail
      go_ret
      obtain ⟨v', h1, h2, h3, h4⟩ := HF.out
      exact ⟨v', _, rfl, h1, h2, h3, h4⟩
end Go.Proofs.Ytedmkdjijhflnaa
/- cmp.Compare at texts and numbers, cmp.Or, the cache's compare. -/
namespace Go.Proofs.Ytedmkdjijhflnaa
open Go.RowKit
set_option linter.unusedVariables false
set_option maxRecDepth 20000

def cmpI (x y : Int) : Int := if x < y then -1 else if y < x then 1 else 0
/-- Byte by byte. -/
def ltB (x y : ByteArray) : Bool := Op.bytesLess x.toList y.toList
def cmpS (x y : ByteArray) : Int := if ltB x y then -1 else if x = y then 0 else 1
theorem toList_eq {x y : ByteArray} : (x.toList == y.toList) = true ↔ x = y := by
  rw [beq_iff_eq, ByteArray.toList_eq, ByteArray.toList_eq]
  exact ⟨fun h => bytes_ext h, fun h => by rw [h]⟩
def orI (a b : Int) : Int := if a = 0 then b else a
/-- The row of keys. -/
def cmpKey (p q : ByteArray × Int) : Int := orI (cmpS p.1 q.1) (cmpI p.2 q.2)
def keyL (p : ByteArray × Int) : List Value := [.string p.1, .int .i64 p.2]
def keyV (p : ByteArray × Int) : Value := .agg (keyL p).toArray
theorem grow_cell {w : World} {n : Nat} {os : Array Obj} {a : Addr} {v : Value} (h : w.cell? a = some v) : (Sort.grow (w.drewN n) os).cell? a = some v := by
  have hlt := World.block_lt_of_cell? w a h
  have e : (Sort.grow (w.drewN n) os).heap[a.block]? = w.heap[a.block]? := by
    show (w.heap ++ os)[a.block]? = _
    rw [Array.getElem?_append_left hlt]
  exact (World.cell?_of_block e).trans h
theorem grow_step (w : World) (n : Nat) (os : Array Obj) (o : Obj) : (Sort.grow (w.drewN n) os).alloc o = Sort.grow (w.drewN n) (os ++ #[o]) := by
  rw [Sort.alloc_eq_grow, Sort.grow_grow]
theorem drew_grow (w : World) (os : Array Obj) : (Sort.grow w os).drew = Sort.grow (w.drewN 1) os := rfl
end Go.Proofs.Ytedmkdjijhflnaa
/- Entries of the reference's layer 10 (abatisref10.E: a name, a type, a slice, a tick: 4 cells each), and rows of them of one's own. -/
namespace Go.Proofs.Ytedmkdjijhflnaa
open Go.RowKit
set_option linter.unusedVariables false
set_option maxRecDepth 20000

/-- An entry: its name, its type, the slice of its addresses, until when. -/
structure Ce where
  s : ByteArray
  t : Int
  a : Option Addr
  n : Nat
  c : Nat
  u : Int
def ceL (e : Ce) : List Value := [Value.string e.s, .int .i64 e.t, .slice e.a e.n e.c, .int .i64 e.u]
def ceV (e : Ce) : Value := .agg (ceL e).toArray
def flatC (D : List Ce) : List Value := D.flatMap ceL
theorem flatC_len : ∀ (D : List Ce), (flatC D).length = D.length * 4
  | [] => rfl
  | e :: es => by
    have h2 := flatC_len es
    show (ceL e ++ flatC es).length = _
    rw [List.length_append, h2, List.length_cons]
    show 4 + es.length * 4 = _
    omega
theorem flatC_append (xs ys : List Ce) : flatC (xs ++ ys) = flatC xs ++ flatC ys := by simp [flatC]
theorem flatC_one (D : List Ce) : ∀ u ∈ flatC D, u.oneCell' = true := by
  intro u hu
  obtain ⟨e, he, h2⟩ := List.mem_flatMap.1 hu
  unfold ceL at h2
  simp at h2
  rcases h2 with rfl | rfl | rfl | rfl <;> rfl
theorem flatC_at : ∀ (es : List Ce) k (hk : k < es.length) j, j < 4 → (flatC es)[k * 4 + j]? = (ceL es[k])[j]?
  | [], k, hk, j, hj => absurd hk (by simp)
  | e :: es, k, hk, j, hj => by
    have h1 : (ceL e).length = 4 := rfl
    show (ceL e ++ flatC es)[k * 4 + j]? = _
    cases k with
    | zero => rw [Nat.zero_mul, Nat.zero_add, List.getElem?_append_left (by omega)]; rfl
    | succ k =>
      rw [List.getElem?_append_right (by omega), h1, show (k + 1) * 4 + j - 4 = k * 4 + j by omega]
      exact flatC_at es k (by simpa using hk) j hj
theorem flatC_take (es : List Ce) (k : Nat) (hk : k ≤ es.length) : ∀ (j : Nat) (u : Value), (flatC (es.take k))[j]? = some u → (flatC es)[j]? = some u := by
  intro j u h
  have e : flatC es = flatC (es.take k) ++ flatC (es.drop k) := by rw [← flatC_append, List.take_append_drop]
  have hj : j < (flatC (es.take k)).length := by
    apply Classical.byContradiction
    intro h2
    rw [List.getElem?_eq_none (by omega)] at h
    cases h
  rw [e, List.getElem?_append_left hj]
  exact h
theorem flatC_drop (es : List Ce) (k : Nat) (hk : k ≤ es.length) : ∀ (j : Nat), (flatC (es.drop k))[j]? = (flatC es)[k * 4 + j]? := by
  intro j
  have e : flatC es = flatC (es.take k) ++ flatC (es.drop k) := by rw [← flatC_append, List.take_append_drop]
  have hl : (flatC (es.take k)).length = k * 4 := by rw [flatC_len, List.length_take, Nat.min_eq_left hk]
  rw [e, List.getElem?_append_right (by omega), hl]
  congr 1
  omega
abbrev zCrow : Array Value := #[.string ⟨#[]⟩, .int .i64 0, .slice none 0 0, .int .i64 0]
/-- The entry at a place. -/
theorem range_ce {w : World} {g o : Nat} {es : List Ce} (h : w.rangeAt g o (flatC es)) (k : Nat) (hk : k < es.length) : w.rangeAt g (o + k * 4) (ceL es[k]) := by
  intro j u hu
  have hj : j < 4 := by
    apply Classical.byContradiction
    intro h2
    rw [List.getElem?_eq_none (by show 4 ≤ j; omega)] at hu
    cases hu
  have := h (k * 4 + j) u (by rw [flatC_at es k hk j hj]; exact hu)
  rw [← Nat.add_assoc] at this
  exact this
theorem fillC (q : Ce) : Instr.fill (fun i => some (i * 4, 4)) ((Array.range (1 * 4)).map fun j => zCrow[j % zCrow.size]!) [(0, ceV q)] = some (ceL q).toArray := by
  obtain ⟨s, t, a, n, c, u⟩ := q
  kernel_rfl
end Go.Proofs.Ytedmkdjijhflnaa
/- Contract of the reference's cut of layer 10: a list without one. -/
namespace Go.Proofs.Ytedmkdjijhflnaa
open Go.RowKit
set_option linter.unusedVariables false
set_option maxRecDepth 20000

theorem below_noneC {w w' : World} (h : w.grownBy w' (Value.slice none 0 0).ownBlock) : Below w.heap.size w w' := ⟨h.os, h.tape, h.output, h.size, fun k hk => h.block k hk (by intro e; cases e)⟩
theorem ce_take {w : World} {g o : Nat} {es : List Ce} (h : w.rangeAt g o (flatC es)) (k : Nat) (hk : k ≤ es.length) : w.rangeAt g o (flatC (es.take k)) := fun j u hu => h j u (flatC_take es k hk j u hu)
theorem ce_drop {w : World} {g : Nat} {es : List Ce} (h : w.rangeAt g 0 (flatC es)) (k : Nat) (hk : k ≤ es.length) : w.rangeAt g (k * 4) (flatC (es.drop k)) := fun j u hu => by
  rw [flatC_drop es k hk j] at hu
  have := h _ u hu
  rw [Nat.zero_add] at this
  exact this
/-- A list without one. -/
def cutC (es : List Ce) (i : Nat) : List Ce := es.take i ++ es.drop (i + 1)
theorem cutC_len (es : List Ce) (i : Nat) (hi : i < es.length) : (cutC es i).length + 1 = es.length := by
  unfold cutC
  rw [List.length_append, List.length_take, List.length_drop]
  omega
end Go.Proofs.Ytedmkdjijhflnaa
/- The reference's cache (abatisref10.C: a room and a row: 2 cells) and its entries in memory: stored, loaded, given back. -/
namespace Go.Proofs.Ytedmkdjijhflnaa
open Go.RowKit
set_option linter.unusedVariables false
set_option maxRecDepth 20000

/-- A cache's value. -/
abbrev ccV (room : Int) (v : Value) : Value := .agg #[.int .i64 room, v]
theorem CellsAt.belowB {w w' : World} {G B : Nat} {vs : List Value} (h : CellsAt w G vs) (hb : Below B w w') (hG : G < B) : CellsAt w' G vs :=
  ⟨Nat.lt_of_lt_of_le h.lt hb.size, range_belowC h.range hb hG, fun j hj => by
    rw [hb.cell (p := ⟨G, 0 + j, none⟩) hG, hb.frozen (p := ⟨G, 0 + j, none⟩) hG]
    exact h.there j hj⟩
theorem ceS_new {w : World} {e : Ce} (t : TypeId) : (w.alloc (.cells (ceL e).toArray t)).rangeAt w.heap.size 0 (flatC [e]) := by
  intro j u hu
  rw [World.cell?_alloc_new, Nat.zero_add]
  rw [show flatC [e] = ceL e from List.append_nil _] at hu
  simpa using hu
theorem heap_setC (w : World) (b o : Nat) (v : Value) (k : Nat) (h : k ≠ b) : (w.setCell ⟨b, o, none⟩ v).heap[k]? = w.heap[k]? := heap_setCell_other _ _ _ _ h
theorem heap_setCs (b : Nat) : ∀ (vs : List Value) (o : Nat) (w : World) (k : Nat), k ≠ b → (w.setCells b o vs).heap[k]? = w.heap[k]?
  | [], _, _, _, _ => rfl
  | v :: r, o, w, k, h => by rw [World.setCells, heap_setCs b r _ _ k h, heap_setC _ _ _ _ _ h]
end Go.Proofs.Ytedmkdjijhflnaa
/- Contract of the reference's Find of layer 10: where a key stands. -/
namespace Go.Proofs.Ytedmkdjijhflnaa
open Go.RowKit
set_option linter.unusedVariables false
set_option maxRecDepth 20000

/-- Where a key stands. -/
def findC : List Ce → ByteArray → Int → Option Nat
  | [], _, _ => none
  | e :: es, x, t => if e.s = x ∧ e.t = t then some 0 else (findC es x t).map (· + 1)
def findI (es : List Ce) (x : ByteArray) (t : Int) : Int := match findC es x t with | some k => (k : Int) | none => -1
theorem findC_at (x : ByteArray) (t : Int) : ∀ (es : List Ce) (k : Nat) (hk : k < es.length), (es[k].s = x ∧ es[k].t = t) → (∀ j (hj : j < es.length), j < k → ¬ (es[j].s = x ∧ es[j].t = t)) → findC es x t = some k
  | [], k, hk, _, _ => absurd hk (by simp)
  | e :: es, 0, _, h, _ => by unfold findC; rw [if_pos (show e.s = x ∧ e.t = t from h)]
  | e :: es, k + 1, hk, h, ho => by
    unfold findC
    rw [if_neg (show ¬ (e.s = x ∧ e.t = t) from ho 0 (by simp) (by omega)), findC_at x t es k (by simpa using hk) h (fun j hj hjk => ho (j + 1) (by simpa using hj) (by omega))]
    rfl
theorem findC_none (x : ByteArray) (t : Int) : ∀ (es : List Ce), (∀ j (hj : j < es.length), ¬ (es[j].s = x ∧ es[j].t = t)) → findC es x t = none
  | [], _ => rfl
  | e :: es, h => by
    unfold findC
    rw [if_neg (show ¬ (e.s = x ∧ e.t = t) from h 0 (by simp)), findC_none x t es (fun j hj => h (j + 1) (by simpa using hj))]
    rfl
theorem findC_lt (x : ByteArray) (t : Int) : ∀ (es : List Ce) (k : Nat), findC es x t = some k → ∃ hk : k < es.length, es[k].s = x ∧ es[k].t = t
  | [], k, h => by cases h
  | e :: es, k, h => by
    unfold findC at h
    split at h
    · cases h
      exact ⟨by simp, by assumption⟩
    · cases h2 : findC es x t with
      | none => rw [h2] at h; cases h
      | some j =>
        rw [h2] at h
        cases h
        obtain ⟨hj, h3⟩ := findC_lt x t es j h2
        exact ⟨by simp; omega, h3⟩
theorem findI_at (es : List Ce) (x : ByteArray) (t : Int) (k : Nat) (hk : k < es.length) (h : es[k].s = x ∧ es[k].t = t) (ho : ∀ j (hj : j < es.length), j < k → ¬ (es[j].s = x ∧ es[j].t = t)) : findI es x t = (k : Int) := by
  unfold findI; rw [findC_at x t es k hk h ho]
theorem findI_none (es : List Ce) (x : ByteArray) (t : Int) (h : ∀ j (hj : j < es.length), ¬ (es[j].s = x ∧ es[j].t = t)) : findI es x t = -1 := by
  unfold findI; rw [findC_none x t es h]
end Go.Proofs.Ytedmkdjijhflnaa
/- The cache's map: its keys (structs), its entries, and what the map holds as a row of entries in whatever order. -/
namespace Go.Proofs.Ytedmkdjijhflnaa
open Go.RowKit Go.Maps
set_option linter.unusedVariables false
set_option maxRecDepth 20000

def keyLit (p : ByteArray × Int) : Lit := .string (keyBytes [.string p.1.data.toList, .int .i64 p.2])
set_option maxRecDepth 100000 in
theorem lawK : Keyed Try.prog 103 := Keyed.of_law (deep_law_laid laidOut (m := 5) (by decide) (Nat.le_of_ble_eq_true (by kernel_rfl)) (by kernel_rfl) (by kernel_rfl))
theorem keyFormed (p : ByteArray × Int) : (keyV p).formed Try.prog 103 = true := by
  unfold keyV keyL
  rfl
theorem keyTypeK : Try.prog.keyType 103 = true := by kernel_rfl
theorem typesK : ∃ m, Try.prog.types.size = m + 1 := ⟨Try.prog.types.size - 1, by kernel_rfl⟩
def KeyOk (p : ByteArray × Int) : Prop := p.1.size ≤ 2000000 ∧ (Lit.int .i64 p.2).wf = true
theorem keyOf_key (p : ByteArray × Int) (h : KeyOk p) : keyOf Try.prog 103 (keyV p) = some (keyLit p) := by
  obtain ⟨hs, ht⟩ := h
  obtain ⟨m, hm⟩ := typesK
  have hs2 : p.1.size ≤ maxLen := by unfold maxLen; omega
  have c0 : Try.prog.cellsOf 103 = 2 := by kernel_rfl
  have c1 : Try.prog.cellsOf 9 = 1 := by kernel_rfl
  have c2 : Try.prog.cellsOf 3 = 1 := by kernel_rfl
  unfold keyOf
  rw [Try.underlying103]
  simp only [keyTypeK, keyFormed, Bool.and_self, if_true, hm]
  simp only [Program.keyLits, Try.underlying103]
  simp [keyV, keyL, Value.cells, c0, c1, c2, Try.underlying9, Try.underlying3, hs2, ht, keyLit]
theorem keyV_inj {p q : ByteArray × Int} (h : keyV p = keyV q) : p = q := by
  unfold keyV keyL at h
  simp at h
  exact Prod.ext h.1 h.2
theorem keyLit_inj {p q : ByteArray × Int} (hp : KeyOk p) (hq : KeyOk q) (h : keyLit p = keyLit q) : p = q :=
  keyV_inj (lawK.inj (keyOf_key p hp) (h ▸ keyOf_key q hq))
/-- How an entry of the map reads: as itself. -/
def elemV (v : Value) : Option (DataW Value × List MemPlace) := some (.held v, [])
theorem elemV_inv {v : Value} {d : DataW Value} {ps : List MemPlace} (h : elemV v = some (d, ps)) : d = .held v := by
  unfold elemV at h
  injection h with h
  exact (Prod.mk.inj h).1.symm
def entV (e : Ce) : Value := .agg #[.slice e.a e.n e.c, .int .i64 e.u]
def zeroE : Value := .agg #[.slice none 0 0, .int .i64 0]
def keyC (e : Ce) : ByteArray × Int := (e.s, e.t)
def entD (e : Ce) : Lit × DataW Value := (keyLit (keyC e), .held (entV e))
/-- What the map holds: the entries, in whatever order. -/
def TellsC (D : DataW Value) (es : List Ce) : Prop := ∃ l, D = .map l ∧ l.Perm (es.map entD)
def KeysOk (es : List Ce) : Prop := ∀ e ∈ es, KeyOk (keyC e)
def KeysApart (es : List Ce) : Prop := es.Pairwise (fun a b => keyC a ≠ keyC b)
def CacMap (w : World) (b : Nat) (es : List Ce) : Prop := ∃ n D, w.ownsMap Try.prog 103 elemV b n D ∧ n ≤ 1000000 ∧ TellsC D es
theorem entD_apart {es : List Ce} (ho : KeysOk es) (ha : KeysApart es) : (es.map entD).Pairwise (fun p q => p.1 ≠ q.1) := by
  rw [List.pairwise_map]
  refine (List.Pairwise.imp_of_mem ?_ ha)
  intro a b h1 h2 h e
  exact h (keyLit_inj (ho a h1) (ho b h2) e)
theorem isKeyLit (p : ByteArray × Int) : WideAt.IsKeyLit (keyLit p) := trivial
theorem same_lit {p q : ByteArray × Int} (hp : KeyOk p) (hq : KeyOk q) : (keyLit p).sameKey (keyLit q) = decide (p = q) := by
  by_cases h : p = q
  · subst h
    rw [WideAt.sameKey_self (isKeyLit p)]; simp
  · have : (keyLit p).sameKey (keyLit q) = false := by
      cases hs : (keyLit p).sameKey (keyLit q)
      · rfl
      · exact absurd (keyLit_inj hp hq (WideAt.sameKey_eq hs)) h
    rw [this]; simp [h]
/-- The entry of a key. -/
def getE (es : List Ce) (x : ByteArray) (t : Int) : Option Ce := match findC es x t with
  | none => none
  | some k => es[k]?
theorem getE_none {es : List Ce} {x : ByteArray} {t : Int} (h : getE es x t = none) : ∀ e ∈ es, keyC e ≠ (x, t) := by
  induction es with
  | nil => intro e he; cases he
  | cons e es ih =>
    unfold getE findC at h
    by_cases hk : e.s = x ∧ e.t = t
    · rw [if_pos hk] at h
      simp at h
    · rw [if_neg hk] at h
      have h2 : getE es x t = none := by
        unfold getE
        cases hf : findC es x t with
        | none => rfl
        | some k => rw [hf] at h; simpa using h
      intro e' he'
      rcases List.mem_cons.1 he' with rfl | he'
      · exact fun h3 => hk (Prod.mk.inj h3)
      · exact ih h2 e' he'
theorem getE_some {es : List Ce} {x : ByteArray} {t : Int} {e : Ce} (h : getE es x t = some e) : e ∈ es ∧ keyC e = (x, t) := by
  unfold getE at h
  cases hf : findC es x t with
  | none => rw [hf] at h; cases h
  | some k =>
    rw [hf] at h
    obtain ⟨hk, h1, h2⟩ := findC_lt x t es k hf
    simp only at h
    rw [List.getElem?_eq_getElem hk] at h
    cases h
    exact ⟨List.getElem_mem hk, Prod.ext h1 h2⟩
section
variable {w w' : World} {b : Nat} {es es' : List Ce}
theorem CacMap.perm (h : CacMap w b es) (hp : es.Perm es') : CacMap w b es' := by
  obtain ⟨n, D, ho, hn, l, hD, hl⟩ := h
  exact ⟨n, D, ho, hn, l, hD, hl.trans (hp.map _)⟩
theorem CacMap.kept (h : CacMap w b es) (hk : w'.heap[b]? = w.heap[b]?) : CacMap w' b es := by
  obtain ⟨n, D, ⟨es0, cl, hb, r⟩, hn⟩ := h
  exact ⟨n, D, ⟨es0, cl, hk.trans hb, r⟩, hn⟩
theorem CacMap.lt (h : CacMap w b es) : b < w.heap.size := by
  obtain ⟨n, D, ho, _⟩ := h
  exact ho.lt
theorem CacMap.block (h : CacMap w b es) : ∃ e0 cl, w.heap[b]? = some (.map e0 cl) := by
  obtain ⟨n, D, ⟨e0, cl, hb, _⟩, _⟩ := h
  exact ⟨e0, cl, hb⟩
theorem CacMap.owns (h : CacMap w b es) : ∃ D, w.ownsMap Try.prog 103 elemV b es.length D ∧ TellsC D es := by
  obtain ⟨n, D, ⟨e0, cl, hb, F, hs, hD⟩, hn, l, rfl, hl⟩ := h
  refine ⟨.map l, ⟨e0, cl, hb, F, ?_, hD⟩, l, rfl, hl⟩
  injection hD with hD
  have h1 := hl.length_eq
  rw [hD, length_sorted] at h1
  simp at h1
  simpa using Nat.le_of_eq h1
theorem CacMap.len (h : CacMap w b es) (ty : TypeId) : (Builtin.len_ #[95] ty #[.map (some b)]).run Try.prog w = .ok (.int .i64 (es.length : Int)) w := by
  obtain ⟨n, D, ho, hn, l, rfl, hl⟩ := h
  have h1 : l.length = es.length := by rw [hl.length_eq]; simp
  rw [ho.len Try.underlying95 ty, size_eq, h1]
theorem CacMap.look (h : CacMap w b es) (hk : KeysOk es) (ha : KeysApart es) (x : ByteArray) (t : Int) (hp : KeyOk (x, t)) :
    (Instr.lookup 95 (.map (some b)) (keyV (x, t)) true).run Try.prog w = .ok (.tuple #[((getE es x t).map entV).getD zeroE, .bool (getE es x t).isSome]) w := by
  obtain ⟨n, D, ho, hn, l, rfl, hl⟩ := h
  have hz : (zeroValue 100).run Try.prog w = .ok zeroE w := by kernel_rfl
  obtain ⟨v, ps, hr, hv⟩ := ho.look_ok lawK Try.underlying95 hz (show elemV zeroE = some (.held zeroE, []) from rfl) (keyOf_key _ hp)
  have hv2 := elemV_inv hv
  rw [hr]
  cases hg : getE es x t with
  | none =>
    have hno : Maps.has (DataW.map l) (keyLit (x, t)) = false := by
      rw [has_eq, List.any_eq_false]
      intro p hp2
      obtain ⟨e, he, rfl⟩ := List.mem_map.1 (hl.mem_iff.1 hp2)
      show ¬ (keyLit (keyC e)).sameKey (keyLit (x, t)) = true
      rw [same_lit (hk e he) hp]
      simpa using getE_none hg e he
    rw [Maps.atKey_of_not_has hno] at hv2
    rw [hno]
    injection hv2 with hv2
    rw [← hv2]; rfl
  | some e =>
    obtain ⟨he, hke⟩ := getE_some hg
    have hm : (keyLit (x, t), DataW.held (entV e)) ∈ l := hl.mem_iff.2 (by rw [← hke]; exact List.mem_map.2 ⟨e, he, rfl⟩)
    have hap : l.Pairwise (fun p q => p.1 ≠ q.1) := (hl.pairwise_iff (fun {_ _} hne => Ne.symm hne)).2 (entD_apart hk ha)
    have hat := fun z => WideAt.atKey_mem z (isKeyLit (x, t)) hap hm
    rw [Maps.has_true_of_atKey hat]
    rw [hat] at hv2
    injection hv2 with hv2
    rw [← hv2]; rfl
/-- The entries of other keys. -/
def withoutC (es : List Ce) (p : ByteArray × Int) : List Ce := es.filter (fun e => !decide (keyC e = p))
theorem filter_notKey (es : List Ce) (hk : KeysOk es) (p : ByteArray × Int) (hp : KeyOk p) : (es.map entD).filter (ChangeMaps.notKey (keyLit p)) = (withoutC es p).map entD := by
  unfold withoutC
  rw [List.filter_map]
  congr 1
  refine List.filter_congr (fun e he => ?_)
  show (!(keyLit (keyC e)).sameKey (keyLit p)) = _
  rw [same_lit (hk e he) hp]
theorem CacMap.store (h : CacMap w b es) (hk : KeysOk es) (e : Ce) (hp : KeyOk (keyC e)) (hl : es.length ≤ 1000) :
    ∃ w', (Instr.mapUpdate 95 (.map (some b)) (keyV (keyC e)) (entV e)).run Try.prog w = .ok () w' ∧ CacMap w' b (e :: withoutC es (keyC e)) ∧ w.mapTurned w' b := by
  obtain ⟨D, ho, l, rfl, hl2⟩ := h.owns
  obtain ⟨w', hr, ho', ht⟩ := ho.store lawK Try.underlying95 (by unfold maxLen; omega) (keyOf_key _ hp) (show elemV (entV e) = some (.held (entV e), []) from rfl)
  refine ⟨w', hr, ⟨_, _, ho', by omega, ?_⟩, ht⟩
  rw [DataW.put_eq]
  refine ⟨_, rfl, ?_⟩
  refine (WideShapes.insert_perm _ _).trans ?_
  show List.Perm _ (entD e :: (withoutC es (keyC e)).map entD)
  refine List.Perm.cons _ ?_
  rw [← filter_notKey es hk _ hp]
  exact hl2.filter _
theorem CacMap.drop (h : CacMap w b es) (hk : KeysOk es) (p : ByteArray × Int) (hp : KeyOk p) (ty : TypeId) :
    ∃ w', (Builtin.delete_ #[95, 103] ty #[.map (some b), keyV p]).run Try.prog w = .ok (.tuple #[]) w' ∧ CacMap w' b (withoutC es p) ∧ w.mapTurned w' b := by
  obtain ⟨n, D, ho, hn, l, rfl, hl⟩ := h
  obtain ⟨w', hr, ho', ht⟩ := ho.drop lawK Try.underlying95 (keyOf_key _ hp) ty
  refine ⟨w', hr, ⟨_, _, ho', hn, ?_⟩, ht⟩
  rw [DataW.del_eq]
  refine ⟨_, rfl, ?_⟩
  rw [← filter_notKey es hk _ hp]
  exact hl.filter _
theorem cacMap_made (w : World) : CacMap (w.alloc (.map #[] 0)) w.heap.size [] := ⟨0, _, World.ownsMap_made w _ _ _, by decide, [], rfl, .refl _⟩
end
end Go.Proofs.Ytedmkdjijhflnaa
/- Contract of the reference's Sweep of layer 10: all that are over are taken out. -/
namespace Go.Proofs.Ytedmkdjijhflnaa
open Go.RowKit
set_option linter.unusedVariables false
set_option maxRecDepth 20000

/-- All that are not over. -/
def sweepC (es : List Ce) (now : Int) : List Ce := es.filter (fun e => decide (now < e.u))
theorem sweepC_len (es : List Ce) (now : Int) : (sweepC es now).length ≤ es.length := List.length_filter_le _ _
theorem sweepC_next (es : List Ce) (now : Int) (k : Nat) (hk : k < es.length) : sweepC (es.take (k + 1)) now = sweepC (es.take k) now ++ (if now < es[k].u then [es[k]] else []) := by
  unfold sweepC
  rw [List.take_succ_eq_append_getElem hk, List.filter_append]
  congr 1
  by_cases h : now < es[k].u <;> simp [h]
end Go.Proofs.Ytedmkdjijhflnaa
/- The row of keys, and what a cache holds behind a Put: plain facts. -/
namespace Go.Proofs.Ytedmkdjijhflnaa
open Go.RowKit Go.Maps
set_option linter.unusedVariables false
set_option maxRecDepth 20000

theorem ltB_eq (x y : ByteArray) : ltB x y = decide (x.data.toList < y.data.toList) := by
  unfold ltB
  rw [bytesLess_eq, ByteArray.toList_eq, ByteArray.toList_eq]
theorem ltB_irrefl (x : ByteArray) : ltB x x = false := by rw [ltB_eq]; simp [List.lt_irrefl]
theorem ltB_trans {x y z : ByteArray} (h1 : ltB x y = true) (h2 : ltB y z = true) : ltB x z = true := by
  rw [ltB_eq, decide_eq_true_eq] at *
  exact List.lt_trans h1 h2
theorem ltB_total {x y : ByteArray} (h : x ≠ y) : ltB x y = true ∨ ltB y x = true := by
  rw [ltB_eq, ltB_eq, decide_eq_true_eq, decide_eq_true_eq]
  by_cases h1 : x.data.toList < y.data.toList
  · exact .inl h1
  · by_cases h2 : y.data.toList < x.data.toList
    · exact .inr h2
    · exact absurd (bytes_ext (List.le_antisymm (List.not_lt.1 h2) (List.not_lt.1 h1))) h
/-- The row of keys. -/
def ltK (p q : ByteArray × Int) : Bool := ltB p.1 q.1 || (decide (p.1 = q.1) && decide (p.2 < q.2))
theorem ltK_irrefl (p : ByteArray × Int) : ltK p p = false := by unfold ltK; rw [ltB_irrefl]; simp
theorem ltK_iff (p q : ByteArray × Int) : ltK p q = true ↔ ltB p.1 q.1 = true ∨ (p.1 = q.1 ∧ p.2 < q.2) := by unfold ltK; simp
theorem ltK_trans {p q r : ByteArray × Int} (h1 : ltK p q = true) (h2 : ltK q r = true) : ltK p r = true := by
  rw [ltK_iff] at *
  rcases h1 with h1 | ⟨e1, h1⟩ <;> rcases h2 with h2 | ⟨e2, h2⟩
  · exact .inl (ltB_trans h1 h2)
  · exact .inl (e2 ▸ h1)
  · exact .inl (e1 ▸ h2)
  · exact .inr ⟨e1.trans e2, by omega⟩
theorem ltK_total {p q : ByteArray × Int} (h : p ≠ q) : ltK p q = true ∨ ltK q p = true := by
  rw [ltK_iff, ltK_iff]
  by_cases e : p.1 = q.1
  · have : p.2 ≠ q.2 := fun e2 => h (Prod.ext e e2)
    rcases Int.lt_or_gt_of_ne this with h2 | h2
    · exact .inl (.inr ⟨e, h2⟩)
    · exact .inr (.inr ⟨e.symm, h2⟩)
  · rcases ltB_total e with h2 | h2
    · exact .inl (.inl h2)
    · exact .inr (.inl h2)
theorem ltK_asymm {p q : ByteArray × Int} (h : ltK p q = true) : ltK q p = false := by
  cases h2 : ltK q p
  · rfl
  · have := ltK_trans h h2
    rw [ltK_irrefl] at this
    cases this
theorem cmpKey_neg (p q : ByteArray × Int) : decide (cmpKey p q < 0) = ltK p q := by
  unfold cmpKey orI cmpS cmpI ltK
  cases hb : ltB p.1 q.1
  · by_cases e : p.1 = q.1
    · by_cases h1 : p.2 < q.2
      · simp [e, h1]
      · by_cases h2 : q.2 < p.2 <;> simp [e, h1, h2]
    · simp [e]
  · simp
def SortedC (es : List Ce) : Prop := es.Pairwise (fun a b => ltK (keyC a) (keyC b) = true)
theorem SortedC.apart {es : List Ce} (h : SortedC es) : KeysApart es := h.imp (fun h e => by rw [e, ltK_irrefl] at h; cases h)
theorem sorted_keys {es : List Ce} (h : SortedC es) {ks : List (ByteArray × Int)} (hp : ks.Perm (es.map keyC)) : ks.mergeSort (fun x y => !ltK y x) = es.map keyC := by
  have tr : ∀ a b c : ByteArray × Int, (!ltK b a) = true → (!ltK c b) = true → (!ltK c a) = true := fun a b c h1 h2 => by
    rw [Bool.not_eq_true'] at *
    cases hca : ltK c a
    · rfl
    · by_cases e : b = c
      · subst e; rw [hca] at h1; cases h1
      · rcases ltK_total e with h3 | h3
        · rw [ltK_trans h3 hca] at h1; cases h1
        · rw [h3] at h2; cases h2
  have to : ∀ a b : ByteArray × Int, ((!ltK b a) || (!ltK a b)) = true := fun a b => by
    cases h1 : ltK b a
    · rfl
    · rw [ltK_asymm h1]; rfl
  refine List.Perm.eq_of_pairwise (le := fun a b => (!ltK b a) = true) (fun a b _ _ h1 h2 => ?_) (List.pairwise_mergeSort tr to ks) ?_ ((List.mergeSort_perm ks _).trans hp)
  · by_cases e : a = b
    · exact e
    · rw [Bool.not_eq_true'] at h1 h2
      rcases ltK_total e with h3 | h3
      · rw [h3] at h2; cases h2
      · rw [h3] at h1; cases h1
  · rw [List.pairwise_map]
    exact h.imp (fun h => by rw [ltK_asymm h]; rfl)
/-- Where an entry goes. -/
def placeC (p : ByteArray × Int) (es : List Ce) : Nat → Nat
  | 0 => 0
  | k + 1 => match es[k]? with
    | some e => if ltK p (keyC e) then placeC p es k else k + 1
    | none => k + 1
theorem placeC_le (p : ByteArray × Int) (es : List Ce) : ∀ n, placeC p es n ≤ n
  | 0 => Nat.le_refl _
  | k + 1 => by
    unfold placeC
    split
    · split
      · have := placeC_le p es k; omega
      · omega
    · omega
theorem placeC_yes {p : ByteArray × Int} {es : List Ce} {k : Nat} (hk : k < es.length) (h : ltK p (keyC es[k]) = true) : placeC p es (k + 1) = placeC p es k := by
  rw [placeC, List.getElem?_eq_getElem hk]; simp [h]
theorem placeC_no {p : ByteArray × Int} {es : List Ce} {k : Nat} (hk : k < es.length) (h : ltK p (keyC es[k]) = false) : placeC p es (k + 1) = k + 1 := by
  rw [placeC, List.getElem?_eq_getElem hk]; simp [h]
theorem placeC_after (p : ByteArray × Int) (es : List Ce) : ∀ n, n ≤ es.length → ∀ j (hj : j < es.length), placeC p es n ≤ j → j < n → ltK p (keyC es[j]) = true
  | 0, _, j, hj, _, h => absurd h (by omega)
  | k + 1, hn, j, hj, h1, h2 => by
    have hk : k < es.length := by omega
    cases h : ltK p (keyC es[k])
    · rw [placeC_no hk h] at h1; omega
    · rw [placeC_yes hk h] at h1
      by_cases e : j = k
      · subst e; exact h
      · exact placeC_after p es k (by omega) j hj h1 (by omega)
theorem placeC_before (p : ByteArray × Int) (es : List Ce) : ∀ n, n ≤ es.length → ∀ k, placeC p es n = k + 1 → ∃ hk : k < es.length, ltK p (keyC es[k]) = false
  | 0, _, k, h => by cases h
  | n + 1, hn, k, h => by
    have hk : n < es.length := by omega
    cases h2 : ltK p (keyC es[n])
    · rw [placeC_no hk h2] at h
      obtain rfl : n = k := by omega
      exact ⟨hk, h2⟩
    · rw [placeC_yes hk h2] at h
      exact placeC_before p es n (by omega) k h
def insC (own : Ce) (es : List Ce) : List Ce := es.take (placeC (keyC own) es es.length) ++ own :: es.drop (placeC (keyC own) es es.length)
theorem insC_perm (own : Ce) (es : List Ce) : (insC own es).Perm (own :: es) := by
  unfold insC
  refine List.perm_middle.trans ?_
  rw [List.take_append_drop]
theorem insC_len (own : Ce) (es : List Ce) : (insC own es).length = es.length + 1 := by rw [(insC_perm own es).length_eq]; rfl
theorem insC_sorted {own : Ce} {es : List Ce} (h : SortedC es) (hn : ∀ e ∈ es, keyC e ≠ keyC own) : SortedC (insC own es) := by
  have hle := placeC_le (keyC own) es es.length
  have hA := placeC_after (keyC own) es es.length (Nat.le_refl _)
  have hB := placeC_before (keyC own) es es.length (Nat.le_refl _)
  have hs : ∀ i j (hi : i < es.length) (hj : j < es.length), i < j → ltK (keyC es[i]) (keyC es[j]) = true := fun i j hi hj hij => List.pairwise_iff_getElem.1 h i j hi hj hij
  unfold insC SortedC
  generalize placeC (keyC own) es es.length = k at *
  rw [List.pairwise_append]
  refine ⟨h.take, ?_, ?_⟩
  · rw [List.pairwise_cons]
    refine ⟨fun e he => ?_, h.drop⟩
    obtain ⟨j, hj, rfl⟩ := List.getElem_of_mem he
    rw [List.getElem_drop]
    rw [List.length_drop] at hj
    exact hA (k + j) (by omega) (by omega) (by omega)
  · intro a ha b hb
    obtain ⟨i, hi, rfl⟩ := List.getElem_of_mem ha
    rw [List.length_take] at hi
    rw [List.getElem_take]
    have hio : ltK (keyC es[i]) (keyC own) = true := by
      cases k with
      | zero => omega
      | succ k =>
        obtain ⟨hk, h1⟩ := hB k rfl
        have h2 : ltK (keyC es[k]) (keyC own) = true := by
          rcases ltK_total (hn _ (List.getElem_mem hk)) with h3 | h3
          · exact h3
          · rw [h1] at h3; cases h3
        by_cases e : i = k
        · subst e; exact h2
        · exact ltK_trans (hs i k (by omega) hk (by omega)) h2
    rcases List.mem_cons.1 hb with rfl | hb
    · exact hio
    · obtain ⟨j, hj, rfl⟩ := List.getElem_of_mem hb
      rw [List.getElem_drop]
      rw [List.length_drop] at hj
      exact hs i (k + j) (by omega) (by omega) (by omega)
/-- The first one whose until is least. -/
def uAt (es : List Ce) (k : Nat) : Int := match es[k]? with
  | some e => e.u
  | none => 0
theorem uAt_eq {es : List Ce} {k : Nat} (hk : k < es.length) : uAt es k = es[k].u := by unfold uAt; rw [List.getElem?_eq_getElem hk]
def bestC (es : List Ce) : Nat → Nat
  | 0 => 0
  | k + 1 => if uAt es k < uAt es (bestC es k) then k else bestC es k
theorem bestC_one (es : List Ce) : bestC es 1 = 0 := by unfold bestC bestC; simp
theorem bestC_lt (es : List Ce) : ∀ k, bestC es (k + 1) ≤ k
  | 0 => by rw [bestC_one]; omega
  | k + 1 => by
    unfold bestC
    split
    · omega
    · have := bestC_lt es k; omega
theorem bestC_least (es : List Ce) : ∀ n j, j < n → uAt es (bestC es n) ≤ uAt es j ∧ (j < bestC es n → uAt es (bestC es n) < uAt es j)
  | 0, j, h => absurd h (by omega)
  | k + 1, j, h => by
    have ih := bestC_least es k
    unfold bestC
    split
    · rename_i hlt
      by_cases e : j = k
      · subst e; exact ⟨Int.le_refl _, fun h => absurd h (by omega)⟩
      · have := (ih j (by omega)).1
        exact ⟨by omega, fun _ => by omega⟩
    · rename_i hlt
      by_cases e : j = k
      · subst e
        refine ⟨by omega, fun h2 => ?_⟩
        have : bestC es j ≤ j := by
          cases j with
          | zero => exact Nat.le_refl _
          | succ j => have := bestC_lt es j; omega
        omega
      · exact ih j (by omega)
/-- What the reference's Put leaves, and whom it lets go. -/
def putC (room : Int) (es : List Ce) (own : Ce) (now : Int) : List Ce × Option Ce :=
  match findC es own.s own.t with
  | some i => (insC own (cutC es i), none)
  | none => if (es.length : Int) = room then
      (if ((sweepC es now).length : Int) = room then (insC own (cutC (sweepC es now) (bestC (sweepC es now) (sweepC es now).length)), (sweepC es now)[bestC (sweepC es now) (sweepC es now).length]?) else (insC own (sweepC es now), none))
    else (insC own es, none)
theorem sweepC_sorted {es : List Ce} (h : SortedC es) (now : Int) : SortedC (sweepC es now) := h.filter _
theorem cutC_sorted {es : List Ce} (h : SortedC es) (i : Nat) : SortedC (cutC es i) := by
  unfold cutC SortedC
  rw [List.pairwise_append]
  refine ⟨h.take, h.drop, fun a ha b hb => ?_⟩
  obtain ⟨x, hx, rfl⟩ := List.getElem_of_mem ha
  obtain ⟨y, hy, rfl⟩ := List.getElem_of_mem hb
  rw [List.length_take] at hx
  rw [List.length_drop] at hy
  rw [List.getElem_take, List.getElem_drop]
  exact List.pairwise_iff_getElem.1 h _ _ (by omega) (by omega) (by omega)
theorem cutC_mem {es : List Ce} {i : Nat} {e : Ce} (h : e ∈ cutC es i) : e ∈ es := by
  unfold cutC at h
  rcases List.mem_append.1 h with h | h
  · exact List.mem_of_mem_take h
  · exact List.mem_of_mem_drop h
theorem withoutC_none {es : List Ce} {p : ByteArray × Int} (h : ∀ e ∈ es, keyC e ≠ p) : withoutC es p = es := by
  unfold withoutC
  exact List.filter_eq_self.2 (fun e he => by simp [h e he])
theorem withoutC_cut : ∀ {es : List Ce} (ha : KeysApart es) (i : Nat) (hi : i < es.length), withoutC es (keyC es[i]) = cutC es i
  | [], _, i, hi => absurd hi (by simp)
  | e :: es, ha, 0, hi => by
    obtain ⟨h1, h2⟩ := List.pairwise_cons.1 ha
    show withoutC (e :: es) (keyC e) = es
    unfold withoutC
    rw [List.filter_cons_of_neg (by simp)]
    exact withoutC_none (fun x hx => (h1 x hx).symm)
  | e :: es, ha, i + 1, hi => by
    obtain ⟨h1, h2⟩ := List.pairwise_cons.1 ha
    have hi2 : i < es.length := by simpa using hi
    have ih := withoutC_cut h2 i hi2
    show withoutC (e :: es) (keyC es[i]) = e :: cutC es i
    rw [← ih]
    unfold withoutC
    rw [List.filter_cons_of_pos (by simpa using h1 _ (List.getElem_mem hi2))]
theorem withoutC_no (es : List Ce) (p : ByteArray × Int) : ∀ e ∈ withoutC es p, keyC e ≠ p := fun e he => by
  have := (List.mem_filter.1 he).2
  simpa using this
theorem sweepC_same {es : List Ce} {now : Int} (h : (sweepC es now).length = es.length) : sweepC es now = es := by
  unfold sweepC at *
  exact List.filter_eq_self.2 (List.length_filter_eq_length_iff.1 h)
theorem findC_none_iff {es : List Ce} {x : ByteArray} {t : Int} (h : findC es x t = none) : ∀ e ∈ es, keyC e ≠ (x, t) := getE_none (by unfold getE; rw [h])
/-- What a Put leaves is sorted, and no more than there is room for. -/
theorem putC_ok {room : Int} {es : List Ce} {own : Ce} {now : Int} (h : SortedC es) (hr : (es.length : Int) ≤ room) (h1 : 1 ≤ room) : SortedC (putC room es own now).1 ∧ ((putC room es own now).1.length : Int) ≤ room ∧ ∀ e ∈ (putC room es own now).1, e = own ∨ e ∈ es := by
  have mem : ∀ {l : List Ce} {e}, e ∈ insC own l → e = own ∨ e ∈ l := fun he => by simpa using (insC_perm own _).mem_iff.1 he
  unfold putC
  cases hf : findC es own.s own.t with
  | some i =>
    obtain ⟨hi, hk⟩ := findC_lt _ _ _ _ hf
    have e : keyC es[i] = keyC own := Prod.ext hk.1 hk.2
    have hc := withoutC_cut h.apart i hi
    refine ⟨insC_sorted (cutC_sorted h i) (fun x hx => ?_), ?_, fun x hx => (mem hx).imp id cutC_mem⟩
    · rw [← hc, e] at hx
      exact withoutC_no _ _ x hx
    · have := cutC_len es i hi
      simp only [insC_len]
      omega
  | none =>
    have hno := findC_none_iff hf
    have hno2 : ∀ e ∈ sweepC es now, keyC e ≠ keyC own := fun e he => hno e (List.mem_filter.1 he).1
    have hl := sweepC_len es now
    simp only
    split
    · split
      · rename_i _ h3
        have hb : bestC (sweepC es now) (sweepC es now).length < (sweepC es now).length := by
          cases hn : (sweepC es now).length with
          | zero => rw [hn] at h3; omega
          | succ n => have := bestC_lt (sweepC es now) n; omega
        have := cutC_len _ _ hb
        refine ⟨insC_sorted (cutC_sorted (sweepC_sorted h now) _) (fun e he => hno2 e (cutC_mem he)), ?_, fun e he => (mem he).imp id (fun he => (List.mem_filter.1 (cutC_mem he)).1)⟩
        simp only [insC_len]
        omega
      · refine ⟨insC_sorted (sweepC_sorted h now) hno2, ?_, fun e he => (mem he).imp id (fun he => (List.mem_filter.1 he).1)⟩
        simp only [insC_len]
        omega
    · refine ⟨insC_sorted h hno, ?_, fun e he => mem he⟩
      simp only [insC_len]
      omega
end Go.Proofs.Ytedmkdjijhflnaa
/- Rows of keys of one's own (cache.Key: 2 cells). -/
namespace Go.Proofs.Ytedmkdjijhflnaa
open Go.RowKit
set_option linter.unusedVariables false
set_option maxRecDepth 20000

def flatK (D : List (ByteArray × Int)) : List Value := D.flatMap keyL
theorem flatK_len : ∀ (D : List (ByteArray × Int)), (flatK D).length = D.length * 2
  | [] => rfl
  | e :: es => by
    have h2 := flatK_len es
    show (keyL e ++ flatK es).length = _
    rw [List.length_append, h2, List.length_cons]
    show 2 + es.length * 2 = _
    omega
theorem flatK_append (xs ys : List (ByteArray × Int)) : flatK (xs ++ ys) = flatK xs ++ flatK ys := by simp [flatK]
theorem flatK_one (D : List (ByteArray × Int)) : ∀ u ∈ flatK D, u.oneCell' = true := by
  intro u hu
  obtain ⟨e, he, h2⟩ := List.mem_flatMap.1 hu
  unfold keyL at h2
  simp at h2
  rcases h2 with rfl | rfl <;> rfl
theorem flatK_at : ∀ (es : List (ByteArray × Int)) k (hk : k < es.length) j, j < 2 → (flatK es)[k * 2 + j]? = (keyL es[k])[j]?
  | [], k, hk, j, hj => absurd hk (by simp)
  | e :: es, k, hk, j, hj => by
    have h1 : (keyL e).length = 2 := rfl
    show (keyL e ++ flatK es)[k * 2 + j]? = _
    cases k with
    | zero => rw [Nat.zero_mul, Nat.zero_add, List.getElem?_append_left (by omega)]; rfl
    | succ k =>
      rw [List.getElem?_append_right (by omega), h1, show (k + 1) * 2 + j - 2 = k * 2 + j by omega]
      exact flatK_at es k (by simpa using hk) j hj
theorem flatK_take (es : List (ByteArray × Int)) (k : Nat) (hk : k ≤ es.length) : ∀ (j : Nat) (u : Value), (flatK (es.take k))[j]? = some u → (flatK es)[j]? = some u := by
  intro j u h
  have e : flatK es = flatK (es.take k) ++ flatK (es.drop k) := by rw [← flatK_append, List.take_append_drop]
  have hj : j < (flatK (es.take k)).length := by
    apply Classical.byContradiction
    intro h2
    rw [List.getElem?_eq_none (by omega)] at h
    cases h
  rw [e, List.getElem?_append_left hj]
  exact h
theorem flatK_drop (es : List (ByteArray × Int)) (k : Nat) (hk : k ≤ es.length) : ∀ (j : Nat), (flatK (es.drop k))[j]? = (flatK es)[k * 2 + j]? := by
  intro j
  have e : flatK es = flatK (es.take k) ++ flatK (es.drop k) := by rw [← flatK_append, List.take_append_drop]
  have hl : (flatK (es.take k)).length = k * 2 := by rw [flatK_len, List.length_take, Nat.min_eq_left hk]
  rw [e, List.getElem?_append_right (by omega), hl]
  congr 1
  omega
abbrev zK : Array Value := #[.string ⟨#[]⟩, .int .i64 0]
theorem infoK : (Try.prog.info? 103).map (fun i => (i.zero, i.size, i.bytes)) = some (some (.agg zK), 2, 24) := by kernel_rfl
/-- A row of entries of one's own. -/
def RowK (w : World) (base : Nat) (v : Value) (D : List (ByteArray × Int)) : Prop := w.ownsRow base 103 2 v D.length (flatK D) ∧ D.length ≤ 1000
theorem RowK.nil (w : World) (base : Nat) : RowK w base (.slice none 0 0) [] := ⟨World.ownsRow_nil _ _ _ _, by decide⟩
theorem RowK.below {w w' : World} {base : Nat} {v : Value} {es : List (ByteArray × Int)} (h : RowK w base v es) (hb : Below w.heap.size w w') : RowK w' base v es := by
  obtain ⟨⟨h1, h2⟩, h3⟩ := h
  refine ⟨⟨h1, ?_⟩, h3⟩
  rcases h2 with h2 | ⟨g, cap, cur, e1, e2, e3, e4⟩
  · exact .inl h2
  · refine .inr ⟨g, cap, cur, e1, e2, ?_, e4⟩
    have hlt : g < w.heap.size := by
      apply Classical.byContradiction
      intro h
      rw [Array.getElem?_eq_none (by omega)] at e3
      cases e3
    rw [hb.block g hlt]
    exact e3
theorem RowK.mono {w : World} {base base' : Nat} {v : Value} {es : List (ByteArray × Int)} (h : RowK w base v es) (hb : base' ≤ base) : RowK w base' v es := by
  obtain ⟨⟨h1, h2⟩, h3⟩ := h
  refine ⟨⟨h1, ?_⟩, h3⟩
  rcases h2 with h2 | ⟨g, cap, cur, e1, e2, e3⟩
  · exact .inl h2
  · exact .inr ⟨g, cap, cur, e1, by omega, e3⟩
/-- How it reads: nil and empty, or cells of a block. -/
theorem RowK.form {w : World} {base : Nat} {v : Value} {es : List (ByteArray × Int)} (h : RowK w base v es) : (v = .slice none 0 0 ∧ es = []) ∨ ∃ g cap, v = .slice (some ⟨g, 0, none⟩) es.length cap ∧ base ≤ g ∧ g < w.heap.size ∧ es.length ≤ cap ∧ cap ≤ maxLen ∧ w.rangeAt g 0 (flatK es) := by
  obtain ⟨hr, hle⟩ := h
  obtain ⟨h1, h2⟩ := hr
  rcases h2 with ⟨e1, e2⟩ | ⟨g, cap, cur, e1, e2, e3, e4, e5, e6, e7⟩
  · exact .inl ⟨e1, List.eq_nil_of_length_eq_zero e2⟩
  · refine .inr ⟨g, cap, e1, e2, ?_, e4, e5, fun j u hu => ?_⟩
    · apply Classical.byContradiction
      intro h
      rw [Array.getElem?_eq_none (by omega)] at e3
      cases e3
    · rw [Nat.zero_add, cell_of_row w g j cur _ _ e3, ← Array.getElem?_toList]
      rw [← e7, List.getElem?_take] at hu
      split at hu
      · exact hu
      · cases hu
/-- The entry at a place. -/
theorem range_key {w : World} {g o : Nat} {es : List (ByteArray × Int)} (h : w.rangeAt g o (flatK es)) (k : Nat) (hk : k < es.length) : w.rangeAt g (o + k * 2) (keyL es[k]) := by
  intro j u hu
  have hj : j < 2 := by
    apply Classical.byContradiction
    intro h2
    rw [List.getElem?_eq_none (by show 2 ≤ j; omega)] at hu
    cases hu
  have := h (k * 2 + j) u (by rw [flatK_at es k hk j hj]; exact hu)
  rw [← Nat.add_assoc] at this
  exact this
theorem RowK.kept {w w' : World} {base : Nat} {v : Value} {es : List (ByteArray × Int)} {row : Option Nat} (h : RowK w base v es) (hg : w.grownBy w' row) (hne : v.ownBlock = none ∨ v.ownBlock ≠ row) : RowK w' base v es := ⟨h.1.kept hg hne, h.2⟩
theorem below_grownK {w0 w w' : World} {v : Value} {es : List (ByteArray × Int)} (hb : Below w0.heap.size w0 w) (hE : RowK w w0.heap.size v es) (hg : w.grownBy w' v.ownBlock) : Below w0.heap.size w0 w' :=
  hb.grown hg hb.size (fun k hk => (hE.1.lt k hk).1)
theorem fillK (q : (ByteArray × Int)) : Instr.fill (fun i => some (i * 2, 2)) ((Array.range (1 * 2)).map fun j => zK[j % zK.size]!) [(0, keyV q)] = some (keyL q).toArray := by
  obtain ⟨s, t⟩ := q
  kernel_rfl
end Go.Proofs.Ytedmkdjijhflnaa
/- A range over a function, walked with the plain laws: regions of a round; a range whose rounds all go on; one whose first round returns. -/
namespace Go.Proofs.Ytedmkdjijhflnaa
open Go.RowKit
set_option linter.unusedVariables false
set_option maxRecDepth 20000

section
variable {P : Program} {ops : Array Oper} {Q : Exit → Act → World → Prop} {n r : Nat}
theorem rows_in {row : String} {args : Array Value} {w : World} {R : Value → World → Prop} (h : Rows P row args w R) : RowsIn (Fence.wide.inRound r) n P row args w R := fun c cs _ => by
  obtain ⟨v, w', hr, hs⟩ := h c cs
  exact ⟨v, w', hr, stepsIn_wide.2 hs⟩
theorem depth_no : (Fence.wide.inRound r).depth.isSome = true → 1 ≤ n := fun h => by cases h
/-- An operation of a round. -/
theorem op_in {o : Oper} {a : Act} {w : World} {K : Act → World → Prop} (hd : ∀ c, o.op ≠ .defer c) (hq : ¬ LetsOut Q) (h : o.wp P a w K Q ∨ (o.asks P a w ∧ LetsOut Q)) : o.wpIn (Fence.wide.inRound r) n P a w K Q := by
  rcases h with h | ⟨_, h⟩
  · refine ⟨fun _ _ => trivial, ?_⟩
    rw [show o.semAt (Fence.wide.inRound r).round a.eval = execOp a.eval o from Oper.semAt_some r _ _ hd]
    unfold Oper.wp at h
    generalize (execOp a.eval o).run P w = x at *
    cases x with
    | ok y w' =>
      cases y <;> simp only [Oper.upon, Oper.uponIn] at h ⊢ <;> first
        | exact h
        | exact ⟨depth_no, CallsIn.inRound r (callsIn_wide.2 h)⟩
        | exact ⟨depth_no, rows_in h⟩
        | exact h.elim
    | halt y w' => cases y <;> simp only [Oper.upon, Oper.uponIn] at h ⊢ <;> first | exact h | exact h.elim
  · exact absurd h hq
theorem list_in (hq : ¬ LetsOut Q) : ∀ (l : List Oper) (a : Act) (w : World), (∀ o ∈ l, ∀ c, o.op ≠ .defer c) → wpList P ops Q l a w → wpListIn (Fence.wide.inRound r) n P ops Q l a w
  | [], _, _, _, h => h
  | o :: l, a, w, hd, h => by
    unfold wpListIn
    unfold wpList at h
    split
    · rename_i hw
      rw [if_pos hw] at h
      exact Oper.wpIn_mono (fun a w h => list_in hq l a w (fun o ho => hd o (List.mem_cons_of_mem _ ho)) h) (op_in (hd o (by simp)) hq h)
    · rename_i hw
      rw [if_neg hw] at h
      exact ⟨fun _ _ => trivial, list_in hq l _ w (fun o ho => hd o (List.mem_cons_of_mem _ ho)) h⟩
theorem any_in {md : Region.Mode} (hq : ¬ LetsOut Q) (hd : ∀ (i : Nat) (o : Oper), ops[i]? = some o → ∀ c, o.op ≠ .defer c) : ∀ (fuel : Nat) (listed : Array Bool) (a : Act) (w : World), wpAny P md ops Q fuel listed a w → wpAnyIn (Fence.wide.inRound r) n P md ops Q fuel listed a w
  | 0, _, _, _, h => h
  | fuel + 1, listed, a, w, h => by
    refine ⟨h.1, fun i hi => ?_⟩
    have h2 := h.2 i hi
    unfold wpOp at h2
    unfold wpOpIn
    cases ho : ops[i]? with
    | none => rw [ho] at h2; exact any_in hq hd fuel _ a w h2
    | some o =>
      rw [ho] at h2
      simp only at h2 ⊢
      split
      · rename_i hw
        rw [if_pos hw] at h2
        exact Oper.wpIn_mono (fun a w h => any_in hq hd fuel _ a w h) (op_in (hd i o ho) hq h2)
      · rename_i hw
        rw [if_neg hw] at h2
        exact ⟨fun _ _ => trivial, any_in hq hd fuel _ _ w h2⟩
/-- Operations none of which defers. -/
def noDefer (l : List Oper) : Bool := l.all fun o => match o.op with
  | .defer _ => false
  | _ => true
theorem noDefer_spec {l : List Oper} (h : noDefer l = true) : ∀ o ∈ l, ∀ c, o.op ≠ .defer c := fun o ho c e => by
  have := List.all_eq_true.1 h o ho
  rw [e] at this
  cases this
/-- A plain region of a round. -/
theorem round_region {id : Nat} {l : List Oper} {a : Act} {w : World} (hd : noDefer l = true) (hq : ¬ LetsOut Q) (h : wpList P l.toArray Q l a w) : (Code.region id l.toArray false).wpIn (Fence.wide.inRound r) n P Q a w :=
  wpIn_region_lit (list_in hq l a w (noDefer_spec hd) h)
/-- A region of a round that draws its order. -/
theorem round_drawn {id : Nat} {l : List Oper} {a : Act} {w : World} {S : World → Prop} (hm : P.follows .mixedOrders = true) (hd : noDefer l = true) (hq : ¬ LetsOut Q) (hS : S w.drew)
    (h : S w.drew → wpAnyH P .any l.toArray Q S l.toArray.size (Array.replicate l.toArray.size false) a w.drew) : (Code.region id l.toArray true).wpIn (Fence.wide.inRound r) n P Q a w := by
  refine wpIn_region_draw fun t => ?_
  have h1 := any_in (r := r) (n := n) hq (fun i o ho => noDefer_spec hd o (by
    have := Array.mem_of_getElem? ho
    simpa using this)) _ _ _ _ (wpAny_of_held _ _ _ _ (h hS))
  have h2 := wpAnyIn_sound _ t _ _ _ h1
  unfold Region.schedule
  rw [hm]
  exact h2
end
end Go.Proofs.Ytedmkdjijhflnaa
/- A range over a function: the law where each round goes on, and the law where the first round returns. -/
namespace Go.Proofs.Ytedmkdjijhflnaa
open Go.RowKit
set_option linter.unusedVariables false
set_option maxRecDepth 20000

section
variable {P : Program} {α : Type}
theorem foot_put (W : World) (l : Nat) (o : Obj) : Foot [l] [l] W (W.putObj l o) :=
  ⟨rfl, rfl, rfl, by simp, fun k _ hn => World.putObj_heap_other (fun e => hn (by simp [e])), fun k hk => .inl hk⟩
theorem below_put {W : World} {l n : Nat} (o : Obj) (h : n ≤ l) : Below n W (W.putObj l o) :=
  ⟨rfl, rfl, rfl, by simp, fun k hk => World.putObj_heap_other (by omega)⟩
/-- A call of yield, as an operation of a plain function's walk. -/
theorem yield_step {ops : Array Oper} {rest : List Oper} {o : Oper} {a : Act} {w : World} {Q : Exit → Act → World → Prop} {l : Nat} {v : Value} {ts : Array TypeId} {R : Ending → World → Prop} (hY : YieldAt Fence.wide 0 P l #[v] w R)
    (hw : Region.wanted o (yielded ops a.tmps) = true) (x y : Operand) (ho : o.op = .call { callee := .value x, args := #[y], argTypes := ts })
    (hx : a.eval x = .func (.yield l) #[] #[]) (hy : a.eval y = v) (h : ∀ e w', R e w' → ∃ u, e = .returned u ∧ wpListIn Fence.wide 0 P ops Q rest (a.put o.dst u) w') : wpListIn Fence.wide 0 P ops Q (o :: rest) a w := by
  obtain ⟨fn, tmps, assign, body, hr, hR⟩ := hY
  unfold wpListIn
  rw [if_pos hw]
  refine ⟨fun _ _ => trivial, ?_⟩
  have e : (o.semAt Fence.wide.round a.eval).run P w = .ok (.round l fn tmps assign body) w := by
    show (execOp a.eval o).run P w = _
    unfold execOp
    simp only [ho, resolve, List.map_toArray, List.map_cons, List.map_nil, hx, hy, Sem.run_bind]
    simp [Deferred.ofValue, invoke, hr]
  rw [e, Oper.uponIn_round]
  refine ⟨(fun h => by cases h), hR.mono fun e w' he => ?_⟩
  obtain ⟨u, rfl, hu⟩ := h e w' he
  exact hu
/-- An operation of a plain function's walk, by its plain law. -/
theorem wide_step {ops : Array Oper} {rest : List Oper} {o : Oper} {a : Act} {w : World} {Q : Exit → Act → World → Prop} {v : Value} (hw : Region.wanted o (yielded ops a.tmps) = true) (hr : (execOp a.eval o).run P w = .ok (.value v) w)
    (h : wpListIn Fence.wide 0 P ops Q rest (a.put o.dst v) w) : wpListIn Fence.wide 0 P ops Q (o :: rest) a w := by
  unfold wpListIn
  rw [if_pos hw]
  refine ⟨fun _ _ => trivial, ?_⟩
  rw [show (o.semAt Fence.wide.round a.eval).run P w = .ok (.value v) w from hr, Oper.uponIn_value]
  exact h
/-- What an iterator tells, one by one, where each round goes on and turns but the blocks M. -/
def Tells (P : Program) (gf : Nat) (lb : Array Value) (xs : List α) (enc : α → Value) (M : List Nat) (w : World) : Prop :=
  ∀ (l : Nat) (J : Nat → World → Prop) (W : World), Below w.heap.size w W → (∀ k A B, J k A → Below A.heap.size A B → J k B) →
    (∀ k (hk : k < xs.length) W1, J k W1 → YieldAt Fence.wide 0 P l #[enc xs[k]] W1 fun e W' => e = .returned (.bool true) ∧ J (k + 1) W' ∧ Foot M M W1 W') → J 0 W →
    CallsIn Fence.wide 0 P gf (#[.func (.yield l) #[] #[]] ++ lb) W fun e W' => (∃ v, e = .returned v) ∧ J xs.length W'
/-- The record of a loop. -/
def recOf (fn : FuncId) (a : Act) (ps : Array Tmp) (assign body : Code) (D : Nat) (st : LoopState) (pe : Option Code) : Loop := { state := st, pending := pe, fn, tmps := a.tmps, params := ps, assign, body, defers := D }
theorem zip_one (p : Tmp) (v : Value) (t : Array Value) : (#[p].zip #[v]).foldl (fun tmps (t, a) => tmps.setIfInBounds t a) t = t.setIfInBounds p v := by simp
theorem enter_law {g : Operand} {ps : Array Tmp} {assign body : Code} {Q : Exit → Act → World → Prop} {a : Act} {w : World} {gf : Nat} {lb : Array Value} (hg : a.eval g = .func (.func gf) #[] lb) (eg : ∀ args w, (callFunc gf args).run P w = .ok (.enter gf args) w)
    (h : ∀ fn W1, Below w.heap.size w W1 → W1.heap[w.heap.size + 1]? = some (.loop (recOf fn a ps assign body w.heap.size .ready none)) → W1.heap[w.heap.size]? = some (.deferred (some [])) →
      CallsIn Fence.wide 0 P gf (#[.func (.yield (w.heap.size + 1)) #[] #[]] ++ lb) W1 (rangePost Fence.wide 0 P (w.heap.size + 1) Q { a with defers := [{ target := .collected w.heap.size, args := #[] }] ++ a.defers })) :
    (Code.rangeFunc g ps assign body).wp P Q a w := by
  refine (wpIn_wide (n := 0)).1 (wpIn_rangeFunc fun fn _ => ?_)
  obtain ⟨W1, hW1⟩ : ∃ W1, (w.alloc (.deferred (some []))).alloc (.loop (recOf fn a ps assign body w.heap.size .ready none)) = W1 := ⟨_, rfl⟩
  have hL1 : W1.heap[w.heap.size + 1]? = some (.loop (recOf fn a ps assign body w.heap.size .ready none)) := by
    rw [← hW1]; have := World.alloc_heap_new (w.alloc (.deferred (some []))) (.loop (recOf fn a ps assign body w.heap.size .ready none)); rwa [World.size_alloc] at this
  have hK1 : W1.heap[w.heap.size]? = some (.deferred (some [])) := by
    rw [← hW1]; exact (Below.heap_alloc _ _ _ (by simp)).trans (World.alloc_heap_new w _)
  have hb1 : Below w.heap.size w W1 := by
    rw [← hW1]; exact ((Below.refl _ w).alloc (Nat.le_refl _) _).alloc (by simp) _
  have e1 : (Instr.enterLoop fn a.tmps ps assign body none).run P w = .ok (w.heap.size + 1, [{ target := .collected w.heap.size, args := #[] }]) W1 := by
    rw [← hW1]; exact run_enterLoop_outer _ _ _ _ _
  have e2 : (resolve a.eval (rangeCall g (w.heap.size + 1)) 0).run P W1 = .ok { target := .fn (.func gf) lb, args := #[.func (.yield (w.heap.size + 1)) #[] #[]] } W1 := by
    simp only [resolve, hg]
    simp [go_sem]
  have e3 : (invoke (.fn (.func gf) lb) #[.func (.yield (w.heap.size + 1)) #[] #[]]).run P W1 = .ok (.enter gf (#[.func (.yield (w.heap.size + 1)) #[] #[]] ++ lb)) W1 := by
    simp only [invoke]
    exact eg _ _
  have e4 := h fn W1 hb1 hL1 hK1
  clear hL1 hK1 hb1 hW1 h eg hg
  exact ⟨_, _, W1, _, W1, gf, _, W1, e1, e2, fun _ _ => trivial, e3, (fun h => by cases h), e4⟩
/-- The law where each round goes on. -/
theorem range_each {g : Operand} {p : Tmp} {assign body : Code} {Q : Exit → Act → World → Prop} {a : Act} {w : World} {gf : Nat} {lb : Array Value} (hg : a.eval g = .func (.func gf) #[] lb) (eg : ∀ args w, (callFunc gf args).run P w = .ok (.enter gf args) w)
    (xs : List α) (enc : α → Value) (M : List Nat) (hM : ∀ k ∈ M, k < w.heap.size) (w0 : World) (hseq : Tells P gf lb xs enc M w0) (hb0 : Below w0.heap.size w0 w)
    (I : Nat → World → Prop) (hI : ∀ k A B, I k A → Below w.heap.size A B → I k B) (h0 : I 0 w)
    (hround : ∀ l k (hk : k < xs.length) W, w.heap.size < l → l < W.heap.size → I k W →
      assign.wpIn (Fence.wide.inRound l) 0 P (Exit.then (fun a₁ w₁ => Below W.heap.size W w₁ ∧ ∀ w₂, Foot [l] [l] w₁ w₂ → body.wpIn (Fence.wide.inRound l) 0 P (fun e _ W3 => e = .normal ∧ Foot M M w₂ W3 ∧ I (k + 1) W3) a₁ w₂) (fun _ _ _ => False))
        { tmps := a.tmps.setIfInBounds p (enc xs[k]), defers := [] } W)
    (hdone : ∀ W, I xs.length W → W.heap[w.heap.size]? = some (.deferred (some [])) → Q .normal { a with defers := [{ target := .collected w.heap.size, args := #[] }] ++ a.defers } W) :
    (Code.rangeFunc g #[p] assign body).wp P Q a w := by
  refine enter_law hg eg fun fn W1 hb1 hL1 hK1 => ?_
  obtain ⟨l, hl⟩ : ∃ l, w.heap.size + 1 = l := ⟨_, rfl⟩
  rw [hl] at hL1 ⊢
  obtain ⟨rec, hrec⟩ : ∃ rec, recOf fn a #[p] assign body w.heap.size = rec := ⟨_, rfl⟩
  rw [hrec] at hL1
  refine (hseq l (fun k W => I k W ∧ W.heap[l]? = some (.loop (rec .ready none)) ∧ W.heap[w.heap.size]? = some (.deferred (some []))) W1 (hb0.trans (hb1.mono hb0.size)) ?_ ?_ ⟨hI 0 _ _ h0 hb1, hL1, hK1⟩).mono ?_
  · rintro k A B ⟨h1, h2, h3⟩ hb
    have hlA : l < A.heap.size := (Array.getElem?_eq_some_iff.1 h2).1
    exact ⟨hI k A B h1 (hb.mono (by omega)), (hb.block l hlA).trans h2, (hb.block w.heap.size (by omega)).trans h3⟩
  · rintro k hk W ⟨h1, h2, h3⟩
    have hlW : l < W.heap.size := (Array.getElem?_eq_some_iff.1 h2).1
    have hy := run_yield (P := P) (args := #[enc xs[k]]) h2 (by rw [← hrec]; simp [recOf])
    refine ⟨_, _, _, _, hy, roundIn_of_wpIn trivial ?_⟩
    rw [← hrec]
    show assign.wpIn _ _ _ _ { tmps := (#[p].zip #[_]).foldl _ a.tmps, defers := [] } W
    rw [zip_one]
    refine wpIn_mono (hround l k hk W (by omega) hlW h1) ?_
    rintro e a₁ w₁ he
    cases e with
    | normal =>
      obtain ⟨hb, hbody⟩ := he
      have hl1 : w₁.heap[l]? = some (.loop (rec .ready none)) := (hb.block l hlW).trans h2
      have hk1 : w₁.heap[w.heap.size]? = some (.deferred (some [])) := (hb.block _ (by omega)).trans h3
      have hll : l < w₁.heap.size := (Array.getElem?_eq_some_iff.1 hl1).1
      refine ⟨_, run_beginRound hl1 (by rw [← hrec]; rfl), ?_⟩
      refine wpIn_mono (hbody _ (foot_put w₁ l _)) ?_
      rintro e a₂ W3 ⟨rfl, hf, hi3⟩
      have hlM : l ∉ M := fun e => by have := hM l e; omega
      have hDM : w.heap.size ∉ M := fun e => by have := hM _ e; omega
      have hl3 := (hf.keep l (by simpa using hll) hlM).trans (World.putObj_heap_same hll)
      have hr3 := run_endRound (P := P) (none : Option Code) hl3
      refine ⟨_, _, hr3, rfl, ⟨hI _ _ _ hi3 (below_put _ (by omega)), ?_, ?_⟩, ?_⟩
      · rw [World.putObj_heap_same (Array.getElem?_eq_some_iff.1 hl3).1, ← hrec]; rfl
      · rw [World.putObj_heap_other (by omega), hf.keep _ (by simp; omega) hDM, World.putObj_heap_other (by omega)]; exact hk1
      · refine ⟨?_, ?_, ?_, ?_, fun j hj hn => ?_, fun j hj => .inl hj⟩
        · exact hf.os.trans hb.os
        · exact hf.tape.trans hb.tape
        · exact hf.output.trans hb.output
        · have := hf.size; have := hb.size; simp at *; omega
        · by_cases e : j = l
          · subst e
            rw [World.putObj_heap_same (Array.getElem?_eq_some_iff.1 hl3).1, h2, ← hrec]; rfl
          · rw [World.putObj_heap_other e, hf.keep j (by have := hb.size; simp; omega) hn, World.putObj_heap_other e]
            exact hb.block j hj
    | exit id => exact he.elim
    | goto t => exact he.elim
    | ret => exact he.elim
    | panic c => exact he.elim
    | outgrown => exact he.elim
  · rintro e W2 ⟨⟨v, rfl⟩, hi, h2, h3⟩
    refine ⟨none, _, by have := run_endLoop (P := P) h2 (by rw [← hrec]; simp [recOf]); rw [← hrec] at this; exact this, hdone _ (hI _ _ _ hi (below_put _ (by omega))) ((World.putObj_heap_other (by omega)).trans h3)⟩
/-- What an iterator tells whose first round says 'no more'; it turns the block G alone. -/
def TellsOne (P : Program) (gf : Nat) (lb : Array Value) (best : Option α) (enc : α → Value) (G : Nat) (Inv : World → Prop) (w : World) : Prop :=
  ∀ (l : Nat) (Jx : World → Prop) (W : World), Below w.heap.size w W →
    (∀ x W1, best = some x → Inv W1 → Foot [G] [G] W W1 → YieldAt Fence.wide 0 P l #[enc x] W1 fun e W' => e = .returned (.bool false) ∧ Jx W') →
    CallsIn Fence.wide 0 P gf (#[.func (.yield l) #[] #[]] ++ lb) W fun e W' => (∃ v, e = .returned v) ∧ ((best = none ∧ Inv W' ∧ Foot [G] [G] W W') ∨ (∃ x, best = some x ∧ Jx W'))
/-- The law where the first round returns. -/
theorem range_one {g : Operand} {p : Tmp} {assign body : Code} {Q : Exit → Act → World → Prop} {a : Act} {w : World} {gf : Nat} {lb : Array Value} (hg : a.eval g = .func (.func gf) #[] lb) (eg : ∀ args w, (callFunc gf args).run P w = .ok (.enter gf args) w)
    (best : Option α) (enc : α → Value) (G : Nat) (hG : G < w.heap.size) (Inv : World → Prop) (w0 : World) (hseq : TellsOne P gf lb best enc G Inv w0) (hb0 : Below w0.heap.size w0 w)
    (M : List Nat) (hM : ∀ k ∈ M, k < w.heap.size) (J : World → Prop) (hJ : ∀ A B, J A → Below w.heap.size A B → J B) (hInv : ∀ A B, Inv A → Below w.heap.size A B → Inv B)
    (hround : ∀ l x W, best = some x → w.heap.size < l → l < W.heap.size → Inv W → (∀ j, j < w.heap.size → j ≠ G → W.heap[j]? = w.heap[j]?) → W.os = w.os → W.tape = w.tape → W.output = w.output →
      assign.wpIn (Fence.wide.inRound l) 0 P (Exit.then (fun a₁ w₁ => Below W.heap.size W w₁ ∧ ∀ w₂, Foot [l] [l] w₁ w₂ → body.wpIn (Fence.wide.inRound l) 0 P (fun e _ W3 => e = .ret ∧ Foot M M w₂ W3 ∧ J W3) a₁ w₂) (fun _ _ _ => False))
        { tmps := a.tmps.setIfInBounds p (enc x), defers := [] } W)
    (hdone : ∀ W, best = none → Inv W → (∀ j, j < w.heap.size → j ≠ G → W.heap[j]? = w.heap[j]?) → w.heap.size ≤ W.heap.size → W.os = w.os → W.tape = w.tape → W.output = w.output → W.heap[w.heap.size]? = some (.deferred (some [])) → Q .normal { a with defers := [{ target := .collected w.heap.size, args := #[] }] ++ a.defers } W)
    (hstop : ∀ x W, best = some x → J W → W.heap[w.heap.size]? = some (.deferred (some [])) → Q .ret { a with defers := [{ target := .collected w.heap.size, args := #[] }] ++ a.defers } W) :
    (Code.rangeFunc g #[p] assign body).wp P Q a w := by
  refine enter_law hg eg fun fn W1 hb1 hL1 hK1 => ?_
  obtain ⟨l, hl⟩ : ∃ l, w.heap.size + 1 = l := ⟨_, rfl⟩
  rw [hl] at hL1 ⊢
  obtain ⟨rec, hrec⟩ : ∃ rec, recOf fn a #[p] assign body w.heap.size = rec := ⟨_, rfl⟩
  rw [hrec] at hL1
  have hlW1 : l < W1.heap.size := (Array.getElem?_eq_some_iff.1 hL1).1
  refine (hseq l (fun W => J W ∧ W.heap[l]? = some (.loop (rec .done (some .ret))) ∧ W.heap[w.heap.size]? = some (.deferred (some []))) W1 (hb0.trans (hb1.mono hb0.size)) ?_).mono ?_
  · rintro x W hx hinv hfW
    have h2 := (hfW.keep l hlW1 (by simp; omega)).trans hL1
    have h3 := (hfW.keep _ (by omega) (by simp; omega)).trans hK1
    have hlW : l < W.heap.size := (Array.getElem?_eq_some_iff.1 h2).1
    have hy := run_yield (P := P) (args := #[enc x]) h2 (by rw [← hrec]; simp [recOf])
    refine ⟨_, _, _, _, hy, roundIn_of_wpIn trivial ?_⟩
    rw [← hrec]
    show assign.wpIn _ _ _ _ { tmps := (#[p].zip #[_]).foldl _ a.tmps, defers := [] } W
    rw [zip_one]
    refine wpIn_mono (hround l x W hx (by omega) hlW hinv (fun j hj hn => (hfW.keep j (by omega) (by simpa using hn)).trans (hb1.block j hj)) (hfW.os.trans hb1.os) (hfW.tape.trans hb1.tape) (hfW.output.trans hb1.output)) ?_
    rintro e a₁ w₁ he
    cases e with
    | normal =>
      obtain ⟨hb, hbody⟩ := he
      have hl1 : w₁.heap[l]? = some (.loop (rec .ready none)) := (hb.block l hlW).trans h2
      have hk1 : w₁.heap[w.heap.size]? = some (.deferred (some [])) := (hb.block _ (by omega)).trans h3
      have hll : l < w₁.heap.size := (Array.getElem?_eq_some_iff.1 hl1).1
      refine ⟨_, run_beginRound hl1 (by rw [← hrec]; rfl), ?_⟩
      refine wpIn_mono (hbody _ (foot_put w₁ l _)) ?_
      rintro e a₂ W3 ⟨rfl, hf, hi3⟩
      have hlM : l ∉ M := fun e => by have := hM l e; omega
      have hDM : w.heap.size ∉ M := fun e => by have := hM _ e; omega
      have hl3 := (hf.keep l (by simpa using hll) hlM).trans (World.putObj_heap_same hll)
      have hr3 := run_endRound (P := P) (some Code.ret) hl3
      refine ⟨_, _, hr3, rfl, hJ _ _ hi3 (below_put _ (by omega)), ?_, ?_⟩
      · rw [World.putObj_heap_same (Array.getElem?_eq_some_iff.1 hl3).1, ← hrec]; rfl
      · rw [World.putObj_heap_other (by omega), hf.keep _ (by simp; omega) hDM, World.putObj_heap_other (by omega)]; exact hk1
    | exit id => exact he.elim
    | goto t => exact he.elim
    | ret => exact he.elim
    | panic c => exact he.elim
    | outgrown => exact he.elim
  · rintro e W2 ⟨⟨v, rfl⟩, ⟨hb, hinv, hf⟩ | ⟨x, hx, hj, h2, h3⟩⟩
    · have h2 := (hf.keep l hlW1 (by simp; omega)).trans hL1
      have h3 := (hf.keep _ (by omega) (by simp; omega)).trans hK1
      have hsz := hf.size
      refine ⟨none, _, by have := run_endLoop (P := P) h2 (by rw [← hrec]; simp [recOf]); rw [← hrec] at this; exact this, hdone _ hb (hInv _ _ hinv (below_put _ (by omega))) (fun j hj hn => ?_) (by simp; omega) (hf.os.trans hb1.os) (hf.tape.trans hb1.tape) (hf.output.trans hb1.output) ((World.putObj_heap_other (by omega)).trans h3)⟩
      rw [World.putObj_heap_other (by omega)]
      exact (hf.keep j (by omega) (by simpa using hn)).trans (hb1.block j hj)
    · exact ⟨some .ret, _, by have := run_endLoop (P := P) h2 (by rw [← hrec]; simp [recOf]); rw [← hrec] at this; exact this, wpIn_ret (hstop x _ hx (hJ _ _ hj (below_put _ (by omega))) ((World.putObj_heap_other (by omega)).trans h3))⟩
end
end Go.Proofs.Ytedmkdjijhflnaa
/- A range over a function that tells what it tells in whatever order: the list of what has come is what is carried. -/
namespace Go.Proofs.Ytedmkdjijhflnaa
open Go.RowKit
set_option linter.unusedVariables false
set_option maxRecDepth 20000

/-- What is kept through turns of new blocks that are no cells. -/
def OwnFrom {β : Type} (B : Nat) (I : β → World → Prop) : Prop :=
  ∀ s W W' row, I s W → W.grownBy W' row → (∀ r, row = some r → B ≤ r ∧ ∃ o : Obj, W.heap[r]? = some o ∧ o.isCells = false) → I s W'
theorem OwnFrom.putObj {β : Type} {B : Nat} {I : β → World → Prop} (h : OwnFrom B I) {s : β} {W : World} {l : Nat} {o : Obj} (o' : Obj) (hs : I s W) (hB : B ≤ l) (hl : W.heap[l]? = some o) (ho : o.isCells = false) : I s (W.putObj l o') :=
  h s W _ (some l) hs (grownBy_putObj' W l o') (fun r e => by cases e; exact ⟨hB, o, hl, ho⟩)
section
variable {P : Program} {α : Type}
/-- The law: each round goes on; the invariant speaks of cells alone. -/
theorem range_list {g : Operand} {p : Tmp} {assign body : Code} {Q : Exit → Act → World → Prop} {a : Act} {w : World} {gf : Nat} {lb : Array Value} (hg : a.eval g = .func (.func gf) #[] lb) (eg : ∀ args w, (callFunc gf args).run P w = .ok (.enter gf args) w)
    (enc : α → Value) (S : List α → Prop) (N : Nat) (w0 : World) (hseq : SeqGives Fence.wide 0 P gf lb enc S N w0) (hb0 : Below w0.heap.size w0 w)
    (I : List α → World → Prop) (hI : OwnFrom w.heap.size I) (h0 : I [] w)
    (hround : ∀ l pre x W, w.heap.size ≤ l → pre.length < N → I pre W → (∃ o : Obj, W.heap[l]? = some o ∧ o.isCells = false) →
      assign.wpIn (Fence.wide.inRound l) 0 P (Exit.then (fun a₁ w₁ => KeepsOthers W w₁ ∧ I pre w₁ ∧ ∀ w₂, w₁.grownBy w₂ (some l) → (∃ o : Obj, w₁.heap[l]? = some o ∧ o.isCells = false) → I pre w₂ → body.wpIn (Fence.wide.inRound l) 0 P (fun e _ W3 => e = .normal ∧ KeepsOthers w₂ W3 ∧ I (pre ++ [x]) W3) a₁ w₂) (fun _ _ _ => False))
        { tmps := a.tmps.setIfInBounds p (enc x), defers := [] } W)
    (hdone : ∀ xs W, S xs → I xs W → W.heap[w.heap.size]? = some (.deferred (some [])) → Q .normal { a with defers := [{ target := .collected w.heap.size, args := #[] }] ++ a.defers } W) :
    (Code.rangeFunc g #[p] assign body).wp P Q a w := by
  refine enter_law hg eg fun fn W1 hb1 hL1 hK1 => ?_
  obtain ⟨l, hl⟩ : ∃ l, w.heap.size + 1 = l := ⟨_, rfl⟩
  rw [hl] at hL1 ⊢
  obtain ⟨rec, hrec⟩ : ∃ rec, recOf fn a #[p] assign body w.heap.size = rec := ⟨_, rfl⟩
  rw [hrec] at hL1
  have hI1 : I [] W1 := hI [] w W1 none h0 ⟨hb1.os, hb1.tape, hb1.output, hb1.size, fun k hk _ => hb1.block k hk⟩ (fun r e => by cases e)
  refine (hseq l (fun pre W => I pre W ∧ W.heap[l]? = some (.loop (rec .ready none)) ∧ W.heap[w.heap.size]? = some (.deferred (some []))) W1 (hb0.trans (hb1.mono hb0.size)) ?_ ?_ ⟨hI1, hL1, hK1⟩).mono ?_
  · rintro s A B row ⟨h1, h2, h3⟩ hgr hr
    have hr2 : ∀ r, row = some r → w.heap.size ≤ r ∧ ∃ o : Obj, A.heap[r]? = some o ∧ o.isCells = false := fun r e => by
      obtain ⟨hb, o, ho, hw⟩ := hr r e
      exact ⟨Nat.le_trans hb1.size hb, o, ho, Obj.not_cells_of_walk hw⟩
    exact ⟨hI s A B row h1 hgr hr2, (grownBy_keeps hgr (fun r e => (hr r e).2) h2 rfl).trans h2, (grownBy_keeps hgr (fun r e => (hr r e).2) h3 rfl).trans h3⟩
  · rintro pre x W ⟨h1, h2, h3⟩ hlen
    have hlW : l < W.heap.size := (Array.getElem?_eq_some_iff.1 h2).1
    have hy := run_yield (P := P) (args := #[enc x]) h2 (by rw [← hrec]; simp [recOf])
    refine ⟨_, _, _, _, hy, roundIn_of_wpIn trivial ?_⟩
    rw [← hrec]
    show assign.wpIn _ _ _ _ { tmps := (#[p].zip #[_]).foldl _ a.tmps, defers := [] } W
    rw [zip_one]
    refine wpIn_mono (hround l pre x W (by omega) hlen h1 ⟨_, h2, rfl⟩) ?_
    rintro e a₁ w₁ he
    cases e with
    | normal =>
      obtain ⟨hko, hi1, hbody⟩ := he
      have hl1 : w₁.heap[l]? = some (.loop (rec .ready none)) := hko.same l _ h2 rfl
      have hk1 : w₁.heap[w.heap.size]? = some (.deferred (some [])) := hko.same _ _ h3 rfl
      have hll : l < w₁.heap.size := (Array.getElem?_eq_some_iff.1 hl1).1
      refine ⟨_, run_beginRound hl1 (by rw [← hrec]; rfl), ?_⟩
      have hi2 := hI.putObj (.loop { rec .ready none with state := .busy }) hi1 (by omega) hl1 rfl
      refine wpIn_mono (hbody _ (grownBy_putObj' w₁ l _) ⟨_, hl1, rfl⟩ hi2) ?_
      rintro e a₂ W3 ⟨rfl, hk3o, hi3⟩
      have hl3 := hk3o.same l _ (World.putObj_heap_same hll) rfl
      have hk3 := hk3o.same w.heap.size _ ((World.putObj_heap_other (by omega)).trans hk1) rfl
      have hr3 := run_endRound (P := P) (none : Option Code) hl3
      refine ⟨_, _, hr3, rfl, ⟨hI.putObj _ hi3 (by omega) hl3 rfl, ?_, ?_⟩, ?_⟩
      · rw [World.putObj_heap_same (Array.getElem?_eq_some_iff.1 hl3).1, ← hrec]; rfl
      · rw [World.putObj_heap_other (by omega)]; exact hk3
      · exact ((hko.walks.trans (KeepsWalks.putObj _ hl1 rfl)).trans hk3o.walks).trans (KeepsWalks.putObj _ hl3 rfl)
    | exit id => exact he.elim
    | goto t => exact he.elim
    | ret => exact he.elim
    | panic c => exact he.elim
    | outgrown => exact he.elim
  · rintro e W2 ⟨⟨v, rfl⟩, xs, hS, hi, h2, h3⟩
    refine ⟨none, _, by have := run_endLoop (P := P) h2 (by rw [← hrec]; simp [recOf]); rw [← hrec] at this; exact this, hdone xs _ hS (hI.putObj _ hi (by omega) h2 rfl) ((World.putObj_heap_other (by omega)).trans h3)⟩
end
end Go.Proofs.Ytedmkdjijhflnaa
/- The keys of the cache's map, as the iterator tells them: each once, in whatever order. -/
namespace Go.Proofs.Ytedmkdjijhflnaa
open Go.RowKit Go.Maps
set_option linter.unusedVariables false
set_option maxRecDepth 20000

/-- What has been told, and what is left. -/
def ToldK (es : List Ce) (left : Lit → Bool) (ss : List (ByteArray × Int)) : Prop := (ss ++ (es.filter (fun e => left (keyLit (keyC e)))).map keyC).Perm (es.map keyC)
theorem left_split : ∀ (es : List Ce) (hk : KeysOk es) (ha : KeysApart es) (left : Lit → Bool) (e : Ce), e ∈ es → left (keyLit (keyC e)) = true →
    (es.filter (fun x => left (keyLit (keyC x)))).Perm (e :: es.filter (fun x => left (keyLit (keyC x)) && !(keyLit (keyC x)).sameKey (keyLit (keyC e))))
  | [], _, _, _, _, h, _ => by cases h
  | x :: es, hk, ha, left, e, he, hl => by
    obtain ⟨h1, h2⟩ := List.pairwise_cons.1 ha
    have hk2 : KeysOk es := fun y hy => hk y (by simp [hy])
    rcases List.mem_cons.1 he with rfl | he
    · have e1 : es.filter (fun x => left (keyLit (keyC x)) && !(keyLit (keyC x)).sameKey (keyLit (keyC e))) = es.filter (fun x => left (keyLit (keyC x))) := by
        refine List.filter_congr (fun y hy => ?_)
        rw [same_lit (hk2 y hy) (hk e (by simp))]
        simp [(h1 y hy).symm]
      rw [List.filter_cons_of_pos (by simpa using hl), List.filter_cons_of_neg (by rw [same_lit (hk e (by simp)) (hk e (by simp))]; simp), e1]
    · have ih := left_split es hk2 h2 left e he hl
      have hne : keyC x ≠ keyC e := h1 e he
      have hs : (keyLit (keyC x)).sameKey (keyLit (keyC e)) = false := by rw [same_lit (hk x (by simp)) (hk e (by simp [he]))]; simp [hne]
      by_cases hlx : left (keyLit (keyC x)) = true
      · rw [List.filter_cons_of_pos (by simpa using hlx), List.filter_cons_of_pos (by simp [hlx, hs])]
        exact (ih.cons x).trans (List.Perm.swap _ _ _)
      · rw [List.filter_cons_of_neg (by simpa using hlx), List.filter_cons_of_neg (by simp [hlx])]
        exact ih
theorem ToldK.step {es : List Ce} {left : Lit → Bool} {ss : List (ByteArray × Int)} (h : ToldK es left ss) (hk : KeysOk es) (ha : KeysApart es) (e : Ce) (he : e ∈ es) (hl : left (keyLit (keyC e)) = true) : ToldK es (fun z => left z && !z.sameKey (keyLit (keyC e))) (ss ++ [keyC e]) := by
  unfold ToldK at *
  refine List.Perm.trans ?_ h
  rw [List.append_assoc]
  refine List.Perm.append_left _ ?_
  exact ((left_split es hk ha left e he hl).map keyC).symm
theorem ToldK.done {es : List Ce} {left : Lit → Bool} {ss : List (ByteArray × Int)} (h : ToldK es left ss) (hl : ∀ kl, left kl = false) : ss.Perm (es.map keyC) := by
  unfold ToldK at h
  rw [show es.filter (fun e => left (keyLit (keyC e))) = [] from List.filter_eq_nil_iff.2 (fun e _ => by simp [hl])] at h
  simpa using h
/-- The key that comes is that of an entry. -/
theorem key_of_at {es : List Ce} {D : DataW Value} (ht : TellsC D es) (hk : KeysOk es) {key : Value} {kl : Lit} {y : DataW Value} (hkey : keyOf Try.prog 103 key = some kl) (hat : ∀ zd, D.atKey kl zd = y) : ∃ e ∈ es, kl = keyLit (keyC e) ∧ key = keyV (keyC e) := by
  obtain ⟨l, rfl, hl⟩ := ht
  have hh := Maps.has_true_of_atKey hat
  rw [has_eq, List.any_eq_true] at hh
  obtain ⟨p, hp, hs⟩ := hh
  obtain ⟨e, he, rfl⟩ := List.mem_map.1 (hl.mem_iff.1 hp)
  have e1 : keyLit (keyC e) = kl := WideAt.sameKey_eq hs
  exact ⟨e, he, e1.symm, lawK.inj hkey (e1 ▸ keyOf_key _ (hk e he))⟩
theorem key_size : (Try.prog.info? 103).map (·.size) = some 2 := by kernel_rfl
theorem exec_key {o : Oper} {a : Act} {w : World} {G b : Nat} {p : ByteArray × Int} (hA : w.rangeAt G b (keyL p)) (x : Operand) (ho : o.op = .load 103 x) (hx : a.eval x = .pointer (some ⟨G, b, none⟩)) :
    (execOp a.eval o).run Try.prog w = .ok (.value (keyV p)) w := by
  unfold execOp
  simp only [ho, hx, Sem.run_bind, run_loadAt_mid w G b 103 (keyL p) _ hA Try.underlying103 rfl (by rw [key_size]; rfl)]
  rfl
theorem wp_of_listIn {P : Program} {id : Nat} {l : List Oper} {Q : Exit → Act → World → Prop} {a : Act} {w : World} (h : wpListIn Fence.wide 0 P l.toArray Q l a w) : (Code.region id l.toArray false).wp P Q a w :=
  (wpIn_wide (n := 0)).1 (wpIn_region_lit h)
end Go.Proofs.Ytedmkdjijhflnaa
/- slices.AppendSeq, slices.Collect and maps.Keys at the cache's keys. -/
namespace Go.Proofs.Ytedmkdjijhflnaa
open Go.RowKit Go.Maps
set_option linter.unusedVariables false
set_option maxRecDepth 20000

theorem CellsAt.own {W W' : World} {row : Option Nat} {G : Nat} {vs : List Value} (h : CellsAt W G vs) (hg : W.grownBy W' row) (hr : ∀ r, row = some r → ∃ o : Obj, W.heap[r]? = some o ∧ o.isCells = false) : CellsAt W' G vs := by
  refine ⟨Nat.lt_of_lt_of_le h.lt hg.size, fun j u hu => cell_kept (h.range j u hu) hg hr, fun j hj => ?_⟩
  obtain ⟨u, hu⟩ : ∃ u, vs[j]? = some u := ⟨_, List.getElem?_eq_getElem hj⟩
  have h1 := h.range j u hu
  exact ⟨by rw [cell_kept h1 hg hr]; rfl, by rw [frozen_kept h1 hg hr]; exact (h.there j hj).2⟩
theorem RowK.own {W W' : World} {row : Option Nat} {B : Nat} {v : Value} {ks : List (ByteArray × Int)} (h : RowK W B v ks) (hg : W.grownBy W' row) (hr : ∀ r, row = some r → ∃ o : Obj, W.heap[r]? = some o ∧ o.isCells = false) : RowK W' B v ks := by
  refine h.kept hg ?_
  rcases h.1.2 with ⟨rfl, _⟩ | ⟨g, cap, cur, rfl, _, hgb, _⟩
  · exact .inl rfl
  · refine .inr fun e' => ?_
    obtain ⟨o, ho, hw⟩ := hr g (by simpa [Value.ownBlock] using e'.symm)
    rw [hgb] at ho; cases ho; cases hw
theorem RowK.slice {w : World} {base : Nat} {v : Value} {D : List (ByteArray × Int)} (h : RowK w base v D) : ∃ ad c, v = .slice ad D.length c := by
  rcases h.1.2 with ⟨rfl, e⟩ | ⟨g, cap, cur, rfl, _⟩
  · exact ⟨none, 0, by rw [e]⟩
  · exact ⟨_, _, rfl⟩
theorem load_key {ops : Array Oper} {rest : List Oper} {op : Oper} {a : Act} {w : World} {Q : Exit → Act → World → Prop} {G o : Nat} {p : ByteArray × Int} (hA : Hid (w.rangeAt G o (keyL p))) (x : Operand) (hw : Region.wanted op (yielded ops a.tmps) = true) (ho : op.op = .load 103 x)
    (hx : a.eval x = .pointer (some ⟨G, o, none⟩)) (h : wpList Try.prog ops Q rest (a.put op.dst (keyV p)) w) : wpList Try.prog ops Q (op :: rest) a w :=
  wpList_load_row hw 103 x ho G o hx (keyL p) _ hA.out Try.underlying103 rfl (by rw [key_size]; rfl) h
theorem keyS_new {w : World} {p : ByteArray × Int} (t : TypeId) : (w.alloc (.cells (keyL p).toArray t)).rangeAt w.heap.size 0 (flatK [p]) := by
  intro j u hu
  rw [World.cell?_alloc_new, Nat.zero_add]
  rw [show flatK [p] = keyL p from List.append_nil _] at hu
  simpa using hu
theorem RowK.isCells {W : World} {B : Nat} {v : Value} {ks : List (ByteArray × Int)} (h : RowK W B v ks) : ∀ (j : Nat) (o : Obj), v.ownBlock = some j → W.heap[j]? = some o → o.isCells = true := by
  intro j o hj ho
  rcases h.1.2 with ⟨rfl, _⟩ | ⟨g, cap, cur, rfl, _, hgb, _⟩
  · cases hj
  · cases hj
    rw [hgb] at ho; cases ho; rfl
theorem RowK.kept2 {w w' : World} {B : Nat} {v : Value} {D : List (ByteArray × Int)} (h : RowK w B v D) (hk : ∀ g, v.ownBlock = some g → w'.heap[g]? = w.heap[g]?) : RowK w' B v D := by
  obtain ⟨⟨h1, h2⟩, h3⟩ := h
  refine ⟨⟨h1, ?_⟩, h3⟩
  rcases h2 with h2 | ⟨g, cap, cur, e1, e2, e3, e4⟩
  · exact .inl h2
  · exact .inr ⟨g, cap, cur, e1, e2, (hk g (by rw [e1]; rfl)).trans e3, e4⟩
theorem RowK.set {w : World} {B G o : Nat} {v u : Value} {D : List (ByteArray × Int)} (h : RowK w B v D) (hG : G < B) : RowK (w.setCell ⟨G, o, none⟩ u) B v D := h.kept2 (fun g hg => heap_setC _ _ _ _ _ (by have := (h.1.lt g hg).1; omega))
/-- Between two rounds. -/
def ApK (w : World) (ss : List (ByteArray × Int)) (W : World) : Prop := ∃ v, CellsAt W w.heap.size [v] ∧ RowK W (w.heap.size + 1) v ss ∧ Below w.heap.size w W
theorem apK_own (w : World) (B : Nat) (hB : w.heap.size ≤ B) : OwnFrom B (ApK w) := by
  rintro ss W W' row ⟨v, h1, h2, h3⟩ hg hr
  exact ⟨v, h1.own hg (fun r e => (hr r e).2), h2.own hg (fun r e => (hr r e).2), h3.grown hg h3.size (fun k e => Nat.le_trans hB (hr k e).1)⟩
end Go.Proofs.Ytedmkdjijhflnaa
