/- Texts that belong together, one behind the other: RefGoodRec, RefGoodRecs, RefGoodMsg. -/
import Derived.Test.YticdpidngmeebaaF10
import Derived.Laws.BitsLemmas
/- Contract of the reference's GoodRecord of layer 9. -/
namespace Go.Proofs.Yticdpidngmeebaa
open Go.RowKit
set_option linter.unusedVariables false
set_option maxRecDepth 20000

/-- A number's last bits. -/
def maskN (x : Int) (m : Nat) : Nat := (bits .and .i64 x (m : Int)).toNat
theorem wrap_small (k m : Nat) (hk : k ≤ m) (hm : m < 4611686018427387904) : IntKind.i64.wrap (k : Int) = (k : Int) := by
  rw [IntKind.wrap_i64]
  omega
theorem and_le (a b : BitVec 64) : (a &&& b).toNat ≤ b.toNat := by
  rw [BitVec.toNat_and]
  exact Nat.and_le_right
theorem mask_is (x : Int) (m : Nat) (hm : m < 4611686018427387904) : bits .and .i64 x (m : Int) = ((maskN x m : Nat) : Int) ∧ maskN x m ≤ m := by
  have h1 : (BitVec.ofInt 64 (m : Int)).toNat ≤ m := by
    rw [BitVec.ofInt_natCast, BitVec.toNat_ofNat]
    exact Nat.mod_le _ _
  have h2 := Nat.le_trans (and_le (BitVec.ofInt 64 x) (BitVec.ofInt 64 (m : Int))) h1
  have h3 : bits .and .i64 x (m : Int) = IntKind.i64.wrap (((BitVec.ofInt 64 x &&& BitVec.ofInt 64 (m : Int)).toNat : Nat) : Int) := rfl
  generalize (BitVec.ofInt 64 x &&& BitVec.ofInt 64 (m : Int)).toNat = k at *
  rw [wrap_small k m h2 hm] at h3
  unfold maskN
  rw [h3]
  exact ⟨by simp, by simpa using h2⟩
/-- A record that may be, made of any. -/
def goodR (r : Rec) : Rec :=
  if maskN r.ty 3 = 0 then ⟨goodN r.name, 1, (maskN r.cl 65535 : Nat), (maskN r.ttl 2147483647 : Nat), 4, b4 (fourB (goodB r.f r.b)), ⟨#[]⟩, ⟨#[]⟩⟩
  else if maskN r.ty 3 = 1 then ⟨goodN r.name, 28, (maskN r.cl 65535 : Nat), (maskN r.ttl 2147483647 : Nat), mapF (goodF r.f), mapB (goodF r.f) (goodB r.f r.b), ⟨#[]⟩, ⟨#[]⟩⟩
  else if maskN r.ty 3 = 2 then ⟨goodN r.name, 5, (maskN r.cl 65535 : Nat), (maskN r.ttl 2147483647 : Nat), 0, List.replicate 16 0, goodN r.tg, ⟨#[]⟩⟩
  else ⟨goodN r.name, 41, (maskN r.cl 65535 : Nat), (maskN r.ttl 2147483647 : Nat), 0, List.replicate 16 0, ⟨#[]⟩, few r.da 20⟩
theorem wp_store_rec {op : Oper} {a : Act} {w : World} {K : Act → World → Prop} {Q : Exit → Act → World → Prop} {G : Nat} {r0 r : Rec} (hA : Hid (RecAt w G r0)) (x y : Operand) (hl : Hid (r.b.length = 16)) (ho : op.op = .store 42 x y)
    (hx : a.eval x = .pointer (some ⟨G, 0, none⟩)) (hy : a.eval y = recV r) (h : ∀ W, Hid (W = w.setCells G 0 (recL r)) → Hid (RecAt W G r) → K (a.put op.dst undef) W) : op.wp Try.prog a w K Q :=
  wp_store_mid 42 x y ho G 0 (recL r).toArray hx hy (by rw [List.size_toArray, recL_len r hl.out]; exact hA.out.there) (by rw [rec_size, List.size_toArray, recL_len r hl.out]) (all_oneCell_toArray (recL_one r)) (h _ (Lib.hid rfl) (Lib.hid (hA.out.stored r hl.out)))
theorem RecAt.setAddr {w : World} {G : Nat} {r : Rec} (h : RecAt w G r) (f : Int) (b : List Nat) (hb : b.length = 16) : RecAt (w.setCells G 4 (addrL f b)) G { r with f := f, b := b } := by
  have hl := addrL_len f b hb
  have hl0 := addrL_len r.f r.b h.len
  refine ⟨hb, by rw [size_setCells]; exact h.lt, fun j u hu => ?_, World.there_setCells h.there G 4 _⟩
  rw [Nat.zero_add]
  have hsame : ∀ j, (j < 4 ∨ 21 ≤ j) → (recL { r with f := f, b := b })[j]? = (recL r)[j]? := fun j hj => by
    unfold recL
    rcases hj with hj | hj
    · rw [List.append_assoc, List.append_assoc, List.getElem?_append_left (by simp; omega), List.getElem?_append_left (by simp; omega)]
    · rw [List.getElem?_append_right (by simp [hl]; omega), List.getElem?_append_right (by simp [hl0]; omega)]
      simp [hl, hl0]
  by_cases hj : j < 4 ∨ 21 ≤ j
  · rw [World.cell?_setCells_out G (addrL f b) 4 w ⟨G, j, none⟩ (fun _ _ => by simp only [hl]; omega)]
    exact h.cell j u (by rw [← hsame j hj]; exact hu)
  · have hin := World.cell?_setCells_in G (addrL f b) 4 w (fun i hi => by
      have := (h.there (4 + i) (by rw [hl] at hi; omega)).1
      rwa [Nat.zero_add] at this) (j - 4) (by rw [hl]; omega)
    rw [show 4 + (j - 4) = j by omega] at hin
    rw [hin]
    rw [← hu]
    unfold recL
    rw [List.append_assoc, List.getElem?_append_right (by simp; omega), List.getElem?_append_left (by simp [hl]; omega)]
    simp only [List.length_cons, List.length_nil]
    rw [List.getElem?_eq_getElem (by rw [hl]; omega)]
theorem store_addr4 {ops : Array Oper} {rest : List Oper} {op : Oper} {a : Act} {w : World} {Q : Exit → Act → World → Prop} {G : Nat} {r : Rec} (hA : Hid (RecAt w G r)) (x y : Operand) {f : Int} {bs : List Nat} (hl : Hid (bs.length = 16)) (hgd : op.guard = none) (ho : op.op = .store 40 x y)
    (hx : a.eval x = .pointer (some ⟨G, 4, none⟩)) (hy : a.eval y = addrV f bs) (h : ∀ W, Hid (W = w.setCells G 4 (addrL f bs)) → Hid (RecAt W G { r with f := f, b := bs }) → wpList Try.prog ops Q rest (a.put op.dst undef) W) : wpList Try.prog ops Q (op :: rest) a w :=
  wpList_store_mid hgd 40 x y ho G 4 (addrL f bs).toArray hx hy (by
    rw [List.size_toArray, addrL_len f bs hl.out]
    intro j hj
    have := hA.out.there (4 + j) (by omega)
    rwa [Nat.zero_add] at this) (by rw [addr_size, List.size_toArray, addrL_len f bs hl.out]) (addrL_one f bs) (h _ (Lib.hid rfl) (Lib.hid (hA.out.setAddr f bs hl.out)))
set_option maxRecDepth 100000 in
set_option maxHeartbeats 4000000 in
theorem goodRec9_any (r : Rec) (w : World) (hfit : Fit r) (hn : r.name.size ≤ 1900000) (ht : r.tg.size ≤ 1900000) :
    Calls Try.prog 55 #[recV r] w fun e w' => e = .returned (recV (goodR r)) ∧ Below w.heap.size w w' := by
  have HGN := fun W => Lib.hid (refGoodN_any r.name W hn)
  have HGT := fun W => Lib.hid (refGoodN_any r.tg W ht)
  have HDA : Hid (r.da.size ≤ 9223372036854775807) := Lib.hid (by have := hfit.2.2.2.2.2.2.2.2; unfold maxLen at this; omega)
  have H16 := Lib.hid hfit.1
  have HLT := Lib.hid hfit.2.1
  have HGA := fun W => Lib.hid (refGood_any r.f r.b W H16.out HLT.out)
  have hm1 : bits .and .i64 r.cl 65535 = ((maskN r.cl 65535 : Nat) : Int) := (mask_is r.cl 65535 (by decide)).1
  have hm2 : bits .and .i64 r.ttl 2147483647 = ((maskN r.ttl 2147483647 : Nat) : Int) := (mask_is r.ttl 2147483647 (by decide)).1
  have hm3 : bits .and .i64 r.ty 3 = ((maskN r.ty 3 : Nat) : Int) := (mask_is r.ty 3 (by decide)).1
  have hq3 := (mask_is r.ty 3 (by decide)).2
  obtain ⟨vr, hvr⟩ : ∃ vr, recL r = vr := ⟨_, rfl⟩
  have hrv : recV r = .agg vr.toArray := by rw [← hvr]; rfl
  obtain ⟨W, hW⟩ : ∃ W, (w.alloc (.cells vr.toArray 42)).alloc (.cells zC 42) = W := ⟨_, rfl⟩
  have HX : Hid (RecIn W w.heap.size 0 r) := Lib.hid (by
    have h1 : RecIn (w.alloc (.cells vr.toArray 42)) w.heap.size 0 r := rec_parts (by rw [hvr]; exact built_new _) H16.out
    rw [← hW]
    exact h1.below ((Below.refl _ _).alloc (Nat.le_refl _) _))
  have HZ : Hid (RecAt W (w.heap.size + 1) zR) := Lib.hid (by
    have := rec_zeroed (w.alloc (.cells vr.toArray 42))
    rw [heap_alloc] at this
    rw [← hW]
    exact this)
  have HB : Hid (Below w.heap.size w W) := Lib.hid (by rw [← hW]; exact ((Below.refl _ _).alloc (Nat.le_refl _) _).alloc (by simp) _)
  have HGR : Hid (goodR r = if maskN r.ty 3 = 0 then ⟨goodN r.name, 1, (maskN r.cl 65535 : Nat), (maskN r.ttl 2147483647 : Nat), 4, b4 (fourB (goodB r.f r.b)), ⟨#[]⟩, ⟨#[]⟩⟩
    else if maskN r.ty 3 = 1 then ⟨goodN r.name, 28, (maskN r.cl 65535 : Nat), (maskN r.ttl 2147483647 : Nat), mapF (goodF r.f), mapB (goodF r.f) (goodB r.f r.b), ⟨#[]⟩, ⟨#[]⟩⟩
    else if maskN r.ty 3 = 2 then ⟨goodN r.name, 5, (maskN r.cl 65535 : Nat), (maskN r.ttl 2147483647 : Nat), 0, List.replicate 16 0, goodN r.tg, ⟨#[]⟩⟩
    else ⟨goodN r.name, 41, (maskN r.cl 65535 : Nat), (maskN r.ttl 2147483647 : Nat), 0, List.replicate 16 0, ⟨#[]⟩, few r.da 20⟩) := Lib.hid rfl
  have HGD := Lib.hid (good_is r.f r.b H16.out HLT.out)
  rw [hrv]
  obtain ⟨nm, ty, cl, ttl, f, b, tg, da⟩ := r
  simp only at HDA HGN HGT H16 HLT HGA hm1 hm2 hm3 hq3 HGR HGD
  obtain ⟨GR, hGR⟩ : ∃ GR, goodR ⟨nm, ty, cl, ttl, f, b, tg, da⟩ = GR := ⟨_, rfl⟩
  rw [hGR] at HGR ⊢
  generalize goodN nm = gn at *
  generalize goodN tg = gt at *
  generalize goodF f = gf at *
  generalize goodB f b = gb at *
  generalize maskN cl 65535 = c9 at *
  generalize maskN ttl 2147483647 = t9 at *
  generalize maskN ty 3 = y9 at *
  obtain ⟨G, hG⟩ : ∃ G, w.heap.size = G := ⟨_, rfl⟩
  have HG := Lib.hid hG
  rw [hG] at HX HZ
  have HSZ : Hid (G + 2 = W.heap.size) := Lib.hid (by rw [← hW, ← hG]; simp)
  clear hfit hn ht hrv hvr hGR
  go_enter Try.func55, Try.ntmps55
  go_upto_region 1 with fail
  try rw [hW]
  clear hW
  try rw [hG]
  clear hG
  obtain ⟨S, hS⟩ : ∃ S : World → Prop, (fun V => RecIn V G 0 ⟨nm, ty, cl, ttl, f, b, tg, da⟩) = S := ⟨_, rfl⟩
  have C0 : Hid (∀ V, S V → V.cell? ⟨G, 0, none⟩ = some (.string nm)) := Lib.hid (fun V h => by rw [← hS] at h; exact h.name)
  have C2 : Hid (∀ V, S V → V.cell? ⟨G, 2, none⟩ = some (.int .i64 cl)) := Lib.hid (fun V h => by rw [← hS] at h; have := h.cl; rwa [Nat.zero_add] at this)
  have C3 : Hid (∀ V, S V → V.cell? ⟨G, 3, none⟩ = some (.int .i64 ttl)) := Lib.hid (fun V h => by rw [← hS] at h; have := h.ttl; rwa [Nat.zero_add] at this)
  have HSI : Hid (∀ V, RecIn V G 0 ⟨nm, ty, cl, ttl, f, b, tg, da⟩ → S V) := Lib.hid (fun V h => by rw [← hS]; exact h)
  clear hS
  go_cut [3] from 5 (fun s3 wx => ∃ P : Nat, s3 = .pointer (some ⟨P, 0, none⟩) ∧ Hid (G + 1 < P) ∧ Hid (RecAt wx P ⟨gn, 0, (c9 : Nat), (t9 : Nat), 0, List.replicate 16 0, ⟨#[]⟩, ⟨#[]⟩⟩) ∧ Hid (RecIn wx G 0 ⟨nm, ty, cl, ttl, f, b, tg, da⟩) ∧ Hid (RecAt wx (G + 1) zR) ∧ Hid (Below w.heap.size w wx))
  case first =>
    replace HX := Lib.hid (HX.out.below (Below.refl _ _).drew)
    replace HZ := Lib.hid (HZ.out.below (Below.refl _ _).drew)
    replace HB := Lib.hid HB.out.drew
    replace HSZ : Hid (G + 2 ≤ W.drew.heap.size) := Lib.hid (Nat.le_of_eq HSZ.out)
    refine wp_region_noPanic ?_
    refine wp_region_held_drew (S := S) (by kernel_rfl) (HSI.out _ HX.out) (fun hHeld => ?_)
    obtain ⟨U, hU⟩ : ∃ U, W.drew = U := ⟨_, rfl⟩
    rw [hU] at HX HZ HB HSZ hHeld ⊢
    clear hU
    refine wpAnyH_take (i := 0) (v := ?_) rfl (by kernel_rfl) (by kernel_rfl) (by kernel_rfl) (fun _ _ _ h => h) (Or.inl ⟨by rfl, ?_⟩) (by assumption) ?_
    rotate_left
    · (intro w hSw; go_simp; try (with_reducible rfl))
    try simp only [Act.put, List.getElem_toArray, List.getElem_cons_zero, List.setIfInBounds_toArray, List.set_cons_zero, List.set_cons_succ]
    refine wpAnyH_take (i := 1) (v := ?_) rfl (by kernel_rfl) (by kernel_rfl) (by kernel_rfl) (fun _ _ _ h => h) (Or.inl ⟨by rfl, ?_⟩) (by assumption) ?_
    rotate_left
    · (intro w hSw; have hc0 := C0.out w hSw; go_simp; try (with_reducible rfl))
    try simp only [Act.put, List.getElem_toArray, List.getElem_cons_zero, List.getElem_cons_succ, List.setIfInBounds_toArray, List.set_cons_zero, List.set_cons_succ]
    refine wpAnyH_take (i := 3) (v := ?_) rfl (by kernel_rfl) (by kernel_rfl) (by kernel_rfl) (fun _ _ _ h => h) (Or.inl ⟨by rfl, ?_⟩) (by assumption) ?_
    rotate_left
    · (intro w hSw; go_simp; try (with_reducible rfl))
    try simp only [Act.put, List.getElem_toArray, List.getElem_cons_zero, List.getElem_cons_succ, List.setIfInBounds_toArray, List.set_cons_zero, List.set_cons_succ]
    refine wpAnyH_take (i := 4) (v := ?_) rfl (by kernel_rfl) (by kernel_rfl) (by kernel_rfl) (fun _ _ _ h => h) (Or.inl ⟨by rfl, ?_⟩) (by assumption) ?_
    rotate_left
    · (intro w hSw; have hc0 := C2.out w hSw; go_simp; try (with_reducible rfl))
    try simp only [Act.put, List.getElem_toArray, List.getElem_cons_zero, List.getElem_cons_succ, List.setIfInBounds_toArray, List.set_cons_zero, List.set_cons_succ]
    refine wpAnyH_take (i := 5) (v := ?_) rfl (by kernel_rfl) (by kernel_rfl) (by kernel_rfl) (fun _ _ _ h => h) (Or.inl ⟨by rfl, ?_⟩) (by assumption) ?_
    rotate_left
    · (intro w hSw; go_simp; try (with_reducible rfl))
    try simp only [Act.put, List.getElem_toArray, List.getElem_cons_zero, List.getElem_cons_succ, List.setIfInBounds_toArray, List.set_cons_zero, List.set_cons_succ]
    refine wpAnyH_take (i := 6) (v := ?_) rfl (by kernel_rfl) (by kernel_rfl) (by kernel_rfl) (fun _ _ _ h => h) (Or.inl ⟨by rfl, ?_⟩) (by assumption) ?_
    rotate_left
    · (intro w hSw; go_simp; try (with_reducible rfl))
    try simp only [Act.put, List.getElem_toArray, List.getElem_cons_zero, List.getElem_cons_succ, List.setIfInBounds_toArray, List.set_cons_zero, List.set_cons_succ]
    refine wpAnyH_take (i := 7) (v := ?_) rfl (by kernel_rfl) (by kernel_rfl) (by kernel_rfl) (fun _ _ _ h => h) (Or.inl ⟨by rfl, ?_⟩) (by assumption) ?_
    rotate_left
    · (intro w hSw; have hc0 := C3.out w hSw; go_simp; try (with_reducible rfl))
    try simp only [Act.put, List.getElem_toArray, List.getElem_cons_zero, List.getElem_cons_succ, List.setIfInBounds_toArray, List.set_cons_zero, List.set_cons_succ]
    refine wpAnyH_take (i := 8) (v := ?_) rfl (by kernel_rfl) (by kernel_rfl) (by kernel_rfl) (fun _ _ _ h => h) (Or.inl ⟨by rfl, ?_⟩) (by assumption) ?_
    rotate_left
    · (intro w hSw; go_simp; try (with_reducible rfl))
    try simp only [Act.put, List.getElem_toArray, List.getElem_cons_zero, List.getElem_cons_succ, List.setIfInBounds_toArray, List.set_cons_zero, List.set_cons_succ]
    refine wpAnyH_ready (rs := [2, 10]) (by kernel_rfl) (by simp) ?_
    refine AllReadyH.cons rfl (fun K hK => ?_) (ready_one rfl rfl (fun K hK => ?_))
    · go_simp
      refine (HGN _).out.mono ?_
      rintro e wa ⟨rfl, hba⟩
      replace HX := Lib.hid (HX.out.below hba)
      replace HZ := Lib.hid (HZ.out.below hba)
      replace HB := Lib.hid (chain HB.out hba)
      replace HSZ := Lib.hid (Nat.le_trans HSZ.out hba.size)
      clear hba
      go_wp2_with fail
      refine hK.out _ _ (HSI.out _ HX.out) (fun hHelda => ?_)
      clear hK K
      try simp only [Act.put, List.getElem_toArray, List.getElem_cons_zero, List.getElem_cons_succ, List.setIfInBounds_toArray, List.set_cons_zero, List.set_cons_succ]
      refine wpAnyH_take (i := 9) (v := ?_) rfl (by kernel_rfl) (by kernel_rfl) (by kernel_rfl) (fun _ _ _ h => h) (Or.inl ⟨by rfl, ?_⟩) (by assumption) ?_
      rotate_left
      · (intro w hSw; go_simp; try (with_reducible rfl))
      try simp only [Act.put, List.getElem_toArray, List.getElem_cons_zero, List.getElem_cons_succ, List.setIfInBounds_toArray, List.set_cons_zero, List.set_cons_succ]
      refine wpAnyH_ready (rs := [10]) (by kernel_rfl) (by simp) ?_
      refine ready_one rfl rfl (fun K hK => ?_)
      obtain ⟨P, hP⟩ : ∃ P, wa.heap.size = P := ⟨_, rfl⟩
      obtain ⟨Wa, hWa⟩ : ∃ Wa, wa.alloc (.cells zC 42) = Wa := ⟨_, rfl⟩
      have hbl : Below wa.heap.size wa Wa := by rw [← hWa]; exact (Below.refl _ _).alloc (Nat.le_refl _) _
      have HP : Hid (RecAt Wa P zR) := Lib.hid (by rw [← hWa, ← hP]; exact rec_zeroed wa)
      have HGP : Hid (G + 1 < P) := Lib.hid (by have := HSZ.out; omega)
      replace HX := Lib.hid (HX.out.below hbl)
      replace HZ := Lib.hid (HZ.out.below hbl)
      replace HB := Lib.hid (chain HB.out hbl)
      replace HSZ := Lib.hid (Nat.le_trans HSZ.out hbl.size)
      clear hbl
      go_wp2_with fail
      try rw [hWa]
      try rw [hP]
      refine hK.out _ _ (HSI.out _ HX.out) (fun hHeldaa => ?_)
      clear hK K hWa hP
      try simp only [Act.put, List.getElem_toArray, List.getElem_cons_zero, List.getElem_cons_succ, List.setIfInBounds_toArray, List.set_cons_zero, List.set_cons_succ]
      refine wpAnyH_ready (rs := [11]) (by kernel_rfl) (by simp) ?_
      refine ready_one rfl rfl (fun K hK => ?_)
      refine wp_store_rec (r := ⟨gn, 0, (c9 : Nat), (t9 : Nat), 0, List.replicate 16 0, ⟨#[]⟩, ⟨#[]⟩⟩) HP _ _ (Lib.hid rfl) rfl rfl rfl (fun V HV HVC => ?_)
      replace HX : Hid (RecIn V G 0 ⟨nm, ty, cl, ttl, f, b, tg, da⟩) := Lib.hid (by rw [HV.out]; exact HX.out.kept (setCells_block _ _ _ _ _ (by have := HGP.out; omega)))
      replace HZ := HZ.out.apart (G' := P) (o := 0) (by have := HGP.out; omega) (recL ⟨gn, 0, (c9 : Nat), (t9 : Nat), 0, List.replicate 16 0, ⟨#[]⟩, ⟨#[]⟩⟩)
      rw [← HV.out] at HZ
      replace HZ := Lib.hid HZ
      replace HB : Hid (Below w.heap.size w V) := Lib.hid (by rw [HV.out]; exact below_cells (by have := HGP.out; have := HG.out; omega) _ _ _ HB.out)
      refine hK.out _ _ (HSI.out _ HX.out) (fun hHeldz => ?_)
      clear hK K
      try simp only [Act.put, List.getElem_toArray, List.getElem_cons_zero, List.getElem_cons_succ]
      refine wpAnyH_done (by kernel_rfl) ?_ _
      refine NoPanic.normal ?_
      go_wp2_with fail
      go_meet
      case rel => exact ⟨P, rfl, HGP, HVC, HX, HZ, HB⟩
    · obtain ⟨P, hP⟩ : ∃ P, U.heap.size = P := ⟨_, rfl⟩
      obtain ⟨Wa, hWa⟩ : ∃ Wa, U.alloc (.cells zC 42) = Wa := ⟨_, rfl⟩
      have hbl : Below U.heap.size U Wa := by rw [← hWa]; exact (Below.refl _ _).alloc (Nat.le_refl _) _
      have HP : Hid (RecAt Wa P zR) := Lib.hid (by rw [← hWa, ← hP]; exact rec_zeroed U)
      have HGP : Hid (G + 1 < P) := Lib.hid (by have := HSZ.out; omega)
      replace HX := Lib.hid (HX.out.below hbl)
      replace HZ := Lib.hid (HZ.out.below hbl)
      replace HB := Lib.hid (chain HB.out hbl)
      replace HSZ := Lib.hid (Nat.le_trans HSZ.out hbl.size)
      clear hbl
      go_wp2_with fail
      try rw [hWa]
      try rw [hP]
      refine hK.out _ _ (HSI.out _ HX.out) (fun hHeldab => ?_)
      clear hK K hWa hP
      try simp only [Act.put, List.getElem_toArray, List.getElem_cons_zero, List.getElem_cons_succ, List.setIfInBounds_toArray, List.set_cons_zero, List.set_cons_succ]
      refine wpAnyH_ready (rs := [2]) (by kernel_rfl) (by simp) ?_
      refine AllReadyH.cons rfl (fun K hK => ?_) AllReadyH.nil
      go_simp
      refine (HGN _).out.mono ?_
      rintro e wb ⟨rfl, hbb⟩
      replace HX := Lib.hid (HX.out.below hbb)
      replace HZ := Lib.hid (HZ.out.below hbb)
      replace HB := Lib.hid (chain HB.out hbb)
      replace HSZ := Lib.hid (Nat.le_trans HSZ.out hbb.size)
      replace HP := Lib.hid (HP.out.below hbb)
      clear hbb
      go_wp2_with fail
      refine hK.out _ _ (HSI.out _ HX.out) (fun hHeldb => ?_)
      clear hK K
      try simp only [Act.put, List.getElem_toArray, List.getElem_cons_zero, List.getElem_cons_succ, List.setIfInBounds_toArray, List.set_cons_zero, List.set_cons_succ]
      refine wpAnyH_take (i := 9) (v := ?_) rfl (by kernel_rfl) (by kernel_rfl) (by kernel_rfl) (fun _ _ _ h => h) (Or.inl ⟨by rfl, ?_⟩) (by assumption) ?_
      rotate_left
      · (intro w hSw; go_simp; try (with_reducible rfl))
      try simp only [Act.put, List.getElem_toArray, List.getElem_cons_zero, List.getElem_cons_succ, List.setIfInBounds_toArray, List.set_cons_zero, List.set_cons_succ]
      refine wpAnyH_ready (rs := [11]) (by kernel_rfl) (by simp) ?_
      refine ready_one rfl rfl (fun K hK => ?_)
      refine wp_store_rec (r := ⟨gn, 0, (c9 : Nat), (t9 : Nat), 0, List.replicate 16 0, ⟨#[]⟩, ⟨#[]⟩⟩) HP _ _ (Lib.hid rfl) rfl rfl rfl (fun V HV HVC => ?_)
      replace HX : Hid (RecIn V G 0 ⟨nm, ty, cl, ttl, f, b, tg, da⟩) := Lib.hid (by rw [HV.out]; exact HX.out.kept (setCells_block _ _ _ _ _ (by have := HGP.out; omega)))
      replace HZ := HZ.out.apart (G' := P) (o := 0) (by have := HGP.out; omega) (recL ⟨gn, 0, (c9 : Nat), (t9 : Nat), 0, List.replicate 16 0, ⟨#[]⟩, ⟨#[]⟩⟩)
      rw [← HV.out] at HZ
      replace HZ := Lib.hid HZ
      replace HB : Hid (Below w.heap.size w V) := Lib.hid (by rw [HV.out]; exact below_cells (by have := HGP.out; have := HG.out; omega) _ _ _ HB.out)
      refine hK.out _ _ (HSI.out _ HX.out) (fun hHeldz => ?_)
      clear hK K
      try simp only [Act.put, List.getElem_toArray, List.getElem_cons_zero, List.getElem_cons_succ]
      refine wpAnyH_done (by kernel_rfl) ?_ _
      refine NoPanic.normal ?_
      go_wp2_with fail
      go_meet
      case rel => exact ⟨P, rfl, HGP, HVC, HX, HZ, HB⟩
  case rest =>
    obtain ⟨P, rfl, HGP, HP, HXc, HZc, HBc⟩ := hcut
    clear HX HZ HB HGN C0 C2 C3 HSI HSZ
    have HX := HXc
    have HZ := HZc
    have HB := HBc
    clear HXc HZc HBc
    have HAR : Hid (wc.rangeAt G 4 (addrL f b)) := Lib.hid (by have := HX.out.addr; rwa [Nat.zero_add] at this)
    go_wp2_with (refine load_addr_o H16 HAR _ rfl rfl rfl ?_)
    refine (HGA _).out.mono ?_
    rintro e wa ⟨rfl, hba⟩
    replace HX := Lib.hid (HX.out.below hba)
    replace HZ := Lib.hid (HZ.out.below hba)
    replace HP := Lib.hid (HP.out.below hba)
    replace HB := Lib.hid (chain HB.out hba)
    have HGL : Hid (gb.length = 16) := Lib.hid HGD.out.len
    have HZA := Lib.hid (addr_zeroed wa)
    have HG4 : Hid (P < wa.heap.size) := Lib.hid HP.out.lt
    clear hba HGA HAR
    go_upto_region 3 with (have HZ2 := HZA; refine store_addr HZ2 _ _ HGL rfl rfl rfl rfl (fun wb HW HA => ?_); clear HZA)
    have hbb : Below wa.heap.size wa wb := by rw [HW.out]; exact below_cells (Nat.le_refl _) _ _ _ ((Below.refl _ _).alloc (Nat.le_refl _) _)
    replace HX := Lib.hid (HX.out.below hbb)
    replace HZ := Lib.hid (HZ.out.below hbb)
    replace HP := Lib.hid (HP.out.below hbb)
    replace HB := Lib.hid (chain HB.out hbb)
    clear hbb HW HZ2
    generalize wa.heap.size = G4 at *
    have x1 := HX.out.ty
    rw [Nat.zero_add] at x1
    have hy : y9 = 0 ∨ y9 = 1 ∨ y9 = 2 ∨ y9 = 3 := by omega
    clear hq3
    rcases hy with rfl | rfl | rfl | rfl
    · have hc1 := HP.out.cell 1 _ rfl
      have hl1 := HP.out.live 1 (by omega)
      have hy0 : ((0 : Nat) : Int) = 0 := rfl
      go_upto_region 10 with fail
      obtain ⟨V1, hV1⟩ : ∃ V, wb.setCell ⟨P, 1, none⟩ (.int .i64 1) = V := ⟨_, rfl⟩
      have HP1 : Hid (RecAt V1 P ⟨gn, 1, (c9 : Nat), (t9 : Nat), 0, List.replicate 16 0, ⟨#[]⟩, ⟨#[]⟩⟩) := Lib.hid (by rw [← hV1]; exact HP.out.set 1 (.int .i64 1) ⟨gn, 1, (c9 : Nat), (t9 : Nat), 0, List.replicate 16 0, ⟨#[]⟩, ⟨#[]⟩⟩ rfl (by omega) rfl)
      replace HZ : Hid (RecAt V1 (G + 1) zR) := Lib.hid (by rw [← hV1]; exact HZ.out.other (by have := HGP.out; omega) _ _)
      replace HX : Hid (RecIn V1 G 0 ⟨nm, ty, cl, ttl, f, b, tg, da⟩) := Lib.hid (by rw [← hV1]; exact HX.out.kept (heap_setCell_other _ _ _ _ (by show G ≠ P; have := HGP.out; omega)))
      replace HA : Hid (AddrAt V1 G4 gf gb) := Lib.hid (by rw [← hV1]; exact HA.out.other (by have := HG4.out; omega) _)
      replace HB : Hid (Below w.heap.size w V1) := Lib.hid (by rw [← hV1]; exact HB.out.setCell (show w.heap.size ≤ P by have := HGP.out; have := HG.out; omega) _)
      try rw [hV1]
      clear hV1 hc1 hl1 HP
      have HFO := fun V => Lib.hid (refFour_any gf gb V HGD.out.len HGD.out.lt)
      have HOF := fun V => Lib.hid (refOf4_any (fourB gb) V (fourB_le gb HGD.out.lt))
      have HB4 : Hid ((b4 (fourB gb)).length = 16) := Lib.hid (b4_len _)
      go_wp2_with (refine load_addr_g HA _ rfl rfl rfl ?_)
      refine (HFO _).out.mono ?_
      rintro e w4 ⟨rfl, hb4⟩
      replace HP1 := Lib.hid (HP1.out.below hb4)
      replace HZ := Lib.hid (HZ.out.below hb4)
      replace HB := Lib.hid (chain HB.out hb4)
      clear hb4 HFO HA HX
      go_wp2_with fail
      refine (HOF _).out.mono ?_
      rintro e w5 ⟨rfl, hb5⟩
      replace HP1 := Lib.hid (HP1.out.below hb5)
      replace HZ := Lib.hid (HZ.out.below hb5)
      replace HB := Lib.hid (chain HB.out hb5)
      clear hb5 HOF
      go_upto_region 17 with (refine store_addr4 HP1 _ _ HB4 rfl rfl rfl rfl (fun V2 HV2 HPF => ?_))
      replace HZ : Hid (RecAt V2 (G + 1) zR) := Lib.hid (by rw [HV2.out]; exact HZ.out.apart (by have := HGP.out; omega) _)
      replace HB : Hid (Below w.heap.size w V2) := Lib.hid (by rw [HV2.out]; exact below_cells (by have := HGP.out; have := HG.out; omega) _ _ _ HB.out)
      clear HV2 HP1
      obtain ⟨R, hR⟩ : ∃ R : Rec, ⟨gn, 1, (c9 : Nat), (t9 : Nat), 4, b4 (fourB gb), ⟨#[]⟩, ⟨#[]⟩⟩ = R := ⟨_, rfl⟩
      rw [hR] at HPF
      have H16R : Hid (R.b.length = 16) := Lib.hid HPF.out.len
      go_wp2_with (first | refine load_recAt HPF _ rfl rfl rfl ?_ | (have HZZ := HZ; refine store_rec HZZ _ _ H16R rfl rfl rfl rfl (fun V HV HVC => ?_); clear HZ))
      have HBF : Hid (Below w.heap.size w V) := Lib.hid (by rw [HV.out]; exact below_cells (by have := HG.out; omega) _ _ _ HB.out)
      have hfin : GR = R := by rw [HGR.out, ← hR]; simp
      rw [hfin]
      exact bodyPost_ret (results_rec Try.results55 rfl HVC.out) rfl ⟨rfl, HBF.out⟩
    · have hc1 := HP.out.cell 1 _ rfl
      have hl1 := HP.out.live 1 (by omega)
      go_upto_region 13 with fail
      obtain ⟨V1, hV1⟩ : ∃ V, wb.setCell ⟨P, 1, none⟩ (.int .i64 28) = V := ⟨_, rfl⟩
      have HP1 : Hid (RecAt V1 P ⟨gn, 28, (c9 : Nat), (t9 : Nat), 0, List.replicate 16 0, ⟨#[]⟩, ⟨#[]⟩⟩) := Lib.hid (by rw [← hV1]; exact HP.out.set 1 (.int .i64 28) ⟨gn, 28, (c9 : Nat), (t9 : Nat), 0, List.replicate 16 0, ⟨#[]⟩, ⟨#[]⟩⟩ rfl (by omega) rfl)
      replace HZ : Hid (RecAt V1 (G + 1) zR) := Lib.hid (by rw [← hV1]; exact HZ.out.other (by have := HGP.out; omega) _ _)
      replace HX : Hid (RecIn V1 G 0 ⟨nm, ty, cl, ttl, f, b, tg, da⟩) := Lib.hid (by rw [← hV1]; exact HX.out.kept (heap_setCell_other _ _ _ _ (by show G ≠ P; have := HGP.out; omega)))
      replace HA : Hid (AddrAt V1 G4 gf gb) := Lib.hid (by rw [← hV1]; exact HA.out.other (by have := HG4.out; omega) _)
      replace HB : Hid (Below w.heap.size w V1) := Lib.hid (by rw [← hV1]; exact HB.out.setCell (show w.heap.size ≤ P by have := HGP.out; have := HG.out; omega) _)
      try rw [hV1]
      clear hV1 hc1 hl1 HP
      have HFO := fun V => Lib.hid (refMap_any gf gb V HGD.out.len HGD.out.lt)
      have HB4 : Hid ((mapB gf gb).length = 16) := Lib.hid (by unfold mapB; split; (rw [byL_len]; rfl); exact HGD.out.len)
      go_wp2_with (refine load_addr_g HA _ rfl rfl rfl ?_)
      refine (HFO _).out.mono ?_
      rintro e w4 ⟨rfl, hb4⟩
      replace HP1 := Lib.hid (HP1.out.below hb4)
      replace HZ := Lib.hid (HZ.out.below hb4)
      replace HB := Lib.hid (chain HB.out hb4)
      clear hb4 HFO HA HX
      go_upto_region 17 with (refine store_addr4 HP1 _ _ HB4 rfl rfl rfl rfl (fun V2 HV2 HPF => ?_))
      replace HZ : Hid (RecAt V2 (G + 1) zR) := Lib.hid (by rw [HV2.out]; exact HZ.out.apart (by have := HGP.out; omega) _)
      replace HB : Hid (Below w.heap.size w V2) := Lib.hid (by rw [HV2.out]; exact below_cells (by have := HGP.out; have := HG.out; omega) _ _ _ HB.out)
      clear HV2 HP1
      obtain ⟨R, hR⟩ : ∃ R : Rec, ⟨gn, 28, (c9 : Nat), (t9 : Nat), mapF gf, mapB gf gb, ⟨#[]⟩, ⟨#[]⟩⟩ = R := ⟨_, rfl⟩
      rw [hR] at HPF
      have H16R : Hid (R.b.length = 16) := Lib.hid HPF.out.len
      go_wp2_with (first | refine load_recAt HPF _ rfl rfl rfl ?_ | (have HZZ := HZ; refine store_rec HZZ _ _ H16R rfl rfl rfl rfl (fun V HV HVC => ?_); clear HZ))
      have HBF : Hid (Below w.heap.size w V) := Lib.hid (by rw [HV.out]; exact below_cells (by have := HG.out; omega) _ _ _ HB.out)
      have hfin : GR = R := by rw [HGR.out, ← hR]; simp
      rw [hfin]
      exact bodyPost_ret (results_rec Try.results55 rfl HVC.out) rfl ⟨rfl, HBF.out⟩
    · have hc1 := HP.out.cell 1 _ rfl
      have hl1 := HP.out.live 1 (by omega)
      go_upto_region 16 with fail
      obtain ⟨V1, hV1⟩ : ∃ V, wb.setCell ⟨P, 1, none⟩ (.int .i64 5) = V := ⟨_, rfl⟩
      have HP1 : Hid (RecAt V1 P ⟨gn, 5, (c9 : Nat), (t9 : Nat), 0, List.replicate 16 0, ⟨#[]⟩, ⟨#[]⟩⟩) := Lib.hid (by rw [← hV1]; exact HP.out.set 1 (.int .i64 5) ⟨gn, 5, (c9 : Nat), (t9 : Nat), 0, List.replicate 16 0, ⟨#[]⟩, ⟨#[]⟩⟩ rfl (by omega) rfl)
      replace HZ : Hid (RecAt V1 (G + 1) zR) := Lib.hid (by rw [← hV1]; exact HZ.out.other (by have := HGP.out; omega) _ _)
      replace HX : Hid (RecIn V1 G 0 ⟨nm, ty, cl, ttl, f, b, tg, da⟩) := Lib.hid (by rw [← hV1]; exact HX.out.kept (heap_setCell_other _ _ _ _ (by show G ≠ P; have := HGP.out; omega)))
      replace HA : Hid (AddrAt V1 G4 gf gb) := Lib.hid (by rw [← hV1]; exact HA.out.other (by have := HG4.out; omega) _)
      replace HB : Hid (Below w.heap.size w V1) := Lib.hid (by rw [← hV1]; exact HB.out.setCell (show w.heap.size ≤ P by have := HGP.out; have := HG.out; omega) _)
      try rw [hV1]
      clear hV1 hc1 hl1 HP
      have x21 := HX.out.tg
      rw [Nat.zero_add] at x21
      go_wp2_with fail
      refine (HGT _).out.mono ?_
      rintro e w4 ⟨rfl, hb4⟩
      replace HP1 := Lib.hid (HP1.out.below hb4)
      replace HZ := Lib.hid (HZ.out.below hb4)
      replace HB := Lib.hid (chain HB.out hb4)
      have hc21 := HP1.out.parts.tg
      rw [Nat.zero_add] at hc21
      have hl21 := HP1.out.live 21 (by omega)
      clear hb4 HA HX x21
      go_upto_region 17 with fail
      obtain ⟨V2, hV2⟩ : ∃ V, w4.setCell ⟨P, 21, none⟩ (.string gt) = V := ⟨_, rfl⟩
      have HPF : Hid (RecAt V2 P ⟨gn, 5, (c9 : Nat), (t9 : Nat), 0, List.replicate 16 0, gt, ⟨#[]⟩⟩) := Lib.hid (by rw [← hV2]; exact HP1.out.set 21 (.string gt) ⟨gn, 5, (c9 : Nat), (t9 : Nat), 0, List.replicate 16 0, gt, ⟨#[]⟩⟩ rfl (by omega) (recL_tg ⟨gn, 5, (c9 : Nat), (t9 : Nat), 0, List.replicate 16 0, ⟨#[]⟩, ⟨#[]⟩⟩ rfl gt))
      replace HZ : Hid (RecAt V2 (G + 1) zR) := Lib.hid (by rw [← hV2]; exact HZ.out.other (by have := HGP.out; omega) _ _)
      replace HB : Hid (Below w.heap.size w V2) := Lib.hid (by rw [← hV2]; exact HB.out.setCell (show w.heap.size ≤ P by have := HGP.out; have := HG.out; omega) _)
      try rw [hV2]
      clear hV2 HP1
      clear hc21 hl21
      obtain ⟨R, hR⟩ : ∃ R : Rec, ⟨gn, 5, (c9 : Nat), (t9 : Nat), 0, List.replicate 16 0, gt, ⟨#[]⟩⟩ = R := ⟨_, rfl⟩
      rw [hR] at HPF
      have H16R : Hid (R.b.length = 16) := Lib.hid HPF.out.len
      go_wp2_with (first | refine load_recAt HPF _ rfl rfl rfl ?_ | (have HZZ := HZ; refine store_rec HZZ _ _ H16R rfl rfl rfl rfl (fun V HV HVC => ?_); clear HZ))
      have HBF : Hid (Below w.heap.size w V) := Lib.hid (by rw [HV.out]; exact below_cells (by have := HG.out; omega) _ _ _ HB.out)
      have hfin : GR = R := by rw [HGR.out, ← hR]; simp
      rw [hfin]
      exact bodyPost_ret (results_rec Try.results55 rfl HVC.out) rfl ⟨rfl, HBF.out⟩
    · have hc1 := HP.out.cell 1 _ rfl
      have hl1 := HP.out.live 1 (by omega)
      go_upto_region 5 with fail
      obtain ⟨V1, hV1⟩ : ∃ V, wb.setCell ⟨P, 1, none⟩ (.int .i64 41) = V := ⟨_, rfl⟩
      have HP1 : Hid (RecAt V1 P ⟨gn, 41, (c9 : Nat), (t9 : Nat), 0, List.replicate 16 0, ⟨#[]⟩, ⟨#[]⟩⟩) := Lib.hid (by rw [← hV1]; exact HP.out.set 1 (.int .i64 41) ⟨gn, 41, (c9 : Nat), (t9 : Nat), 0, List.replicate 16 0, ⟨#[]⟩, ⟨#[]⟩⟩ rfl (by omega) rfl)
      replace HZ : Hid (RecAt V1 (G + 1) zR) := Lib.hid (by rw [← hV1]; exact HZ.out.other (by have := HGP.out; omega) _ _)
      replace HX : Hid (RecIn V1 G 0 ⟨nm, ty, cl, ttl, f, b, tg, da⟩) := Lib.hid (by rw [← hV1]; exact HX.out.kept (heap_setCell_other _ _ _ _ (by show G ≠ P; have := HGP.out; omega)))
      replace HA : Hid (AddrAt V1 G4 gf gb) := Lib.hid (by rw [← hV1]; exact HA.out.other (by have := HG4.out; omega) _)
      replace HB : Hid (Below w.heap.size w V1) := Lib.hid (by rw [← hV1]; exact HB.out.setCell (show w.heap.size ≤ P by have := HGP.out; have := HG.out; omega) _)
      try rw [hV1]
      clear hV1 hc1 hl1 HP
      have x22 := HX.out.da
      rw [Nat.zero_add] at x22
      have hc22 := HP1.out.parts.da
      rw [Nat.zero_add] at hc22
      have hl22 := HP1.out.live 22 (by omega)
      go_upto_region 6 with fail
      obtain ⟨V2, hV2⟩ : ∃ V, V1.setCell ⟨P, 22, none⟩ (.string da) = V := ⟨_, rfl⟩
      have HP2 : Hid (RecAt V2 P ⟨gn, 41, (c9 : Nat), (t9 : Nat), 0, List.replicate 16 0, ⟨#[]⟩, da⟩) := Lib.hid (by rw [← hV2]; exact HP1.out.set 22 (.string da) ⟨gn, 41, (c9 : Nat), (t9 : Nat), 0, List.replicate 16 0, ⟨#[]⟩, da⟩ rfl (by omega) (recL_da ⟨gn, 41, (c9 : Nat), (t9 : Nat), 0, List.replicate 16 0, ⟨#[]⟩, ⟨#[]⟩⟩ rfl da))
      replace HZ : Hid (RecAt V2 (G + 1) zR) := Lib.hid (by rw [← hV2]; exact HZ.out.other (by have := HGP.out; omega) _ _)
      replace HB : Hid (Below w.heap.size w V2) := Lib.hid (by rw [← hV2]; exact HB.out.setCell (show w.heap.size ≤ P by have := HGP.out; have := HG.out; omega) _)
      try rw [hV2]
      clear hV2
      clear HP1 hc22 hl22 x22 HX
      have hc22 := HP2.out.parts.da
      rw [Nat.zero_add] at hc22
      have hl22 := HP2.out.live 22 (by omega)
      simp only at hc22
      have hdm := HDA.out
      by_cases h20 : 20 < da.size
      · have hd : decide ((20 : Int) < (da.size : Int)) = true := decide_eq_true (by omega)
        have hdn : decide (20 < da.size) = true := decide_eq_true h20
        have ef : few da 20 = da.extract 0 20 := by unfold few; rw [if_pos h20]
        have HEF := Lib.hid ef
        clear ef
        go_upto_region 17 with fail
        rw [← HEF.out]
        obtain ⟨V3, hV2⟩ : ∃ V, V2.setCell ⟨P, 22, none⟩ (.string (few da 20)) = V := ⟨_, rfl⟩
        have HPF : Hid (RecAt V3 P ⟨gn, 41, (c9 : Nat), (t9 : Nat), 0, List.replicate 16 0, ⟨#[]⟩, few da 20⟩) := Lib.hid (by rw [← hV2]; exact HP2.out.set 22 (.string (few da 20)) ⟨gn, 41, (c9 : Nat), (t9 : Nat), 0, List.replicate 16 0, ⟨#[]⟩, few da 20⟩ rfl (by omega) (recL_da ⟨gn, 41, (c9 : Nat), (t9 : Nat), 0, List.replicate 16 0, ⟨#[]⟩, da⟩ rfl (few da 20)))
        replace HZ : Hid (RecAt V3 (G + 1) zR) := Lib.hid (by rw [← hV2]; exact HZ.out.other (by have := HGP.out; omega) _ _)
        replace HB : Hid (Below w.heap.size w V3) := Lib.hid (by rw [← hV2]; exact HB.out.setCell (show w.heap.size ≤ P by have := HGP.out; have := HG.out; omega) _)
        try rw [hV2]
        clear hV2
        clear HP2 hc22 hl22 hd hdn h20 hdm
        obtain ⟨R, hR⟩ : ∃ R : Rec, ⟨gn, 41, (c9 : Nat), (t9 : Nat), 0, List.replicate 16 0, ⟨#[]⟩, few da 20⟩ = R := ⟨_, rfl⟩
        rw [hR] at HPF
        have H16R : Hid (R.b.length = 16) := Lib.hid HPF.out.len
        go_wp2_with (first | refine load_recAt HPF _ rfl rfl rfl ?_ | (have HZZ := HZ; refine store_rec HZZ _ _ H16R rfl rfl rfl rfl (fun V HV HVC => ?_); clear HZ))
        have HBF : Hid (Below w.heap.size w V) := Lib.hid (by rw [HV.out]; exact below_cells (by have := HG.out; omega) _ _ _ HB.out)
        have hfin : GR = R := by rw [HGR.out, ← hR]; simp
        rw [hfin]
        exact bodyPost_ret (results_rec Try.results55 rfl HVC.out) rfl ⟨rfl, HBF.out⟩
      · have hd : decide ((20 : Int) < (da.size : Int)) = false := decide_eq_false (by omega)
        have hdn : decide (20 < da.size) = false := decide_eq_false h20
        have ef : few da 20 = da := by unfold few; rw [if_neg h20]
        have HPF : Hid (RecAt V2 P ⟨gn, 41, (c9 : Nat), (t9 : Nat), 0, List.replicate 16 0, ⟨#[]⟩, few da 20⟩) := Lib.hid (by rw [ef]; exact HP2.out)
        go_upto_region 17 with fail
        clear HP2 hc22 hl22 hd hdn h20 ef hdm
        obtain ⟨R, hR⟩ : ∃ R : Rec, ⟨gn, 41, (c9 : Nat), (t9 : Nat), 0, List.replicate 16 0, ⟨#[]⟩, few da 20⟩ = R := ⟨_, rfl⟩
        rw [hR] at HPF
        have H16R : Hid (R.b.length = 16) := Lib.hid HPF.out.len
        go_wp2_with (first | refine load_recAt HPF _ rfl rfl rfl ?_ | (have HZZ := HZ; refine store_rec HZZ _ _ H16R rfl rfl rfl rfl (fun V HV HVC => ?_); clear HZ))
        have HBF : Hid (Below w.heap.size w V) := Lib.hid (by rw [HV.out]; exact below_cells (by have := HG.out; omega) _ _ _ HB.out)
        have hfin : GR = R := by rw [HGR.out, ← hR]; simp
        rw [hfin]
        exact bodyPost_ret (results_rec Try.results55 rfl HVC.out) rfl ⟨rfl, HBF.out⟩
end Go.Proofs.Yticdpidngmeebaa
/- Contract of the reference's GoodRecords of layer 9. -/
namespace Go.Proofs.Yticdpidngmeebaa
open Go.RowKit
set_option linter.unusedVariables false
set_option maxRecDepth 20000

def goodRs (D : List Rec) : List Rec := (D.take 3).map goodR
theorem goodR_16 {r : Rec} (hf : Fit r) : (goodR r).b.length = 16 := by
  have HGD := good_is r.f r.b hf.1 hf.2.1
  unfold goodR
  split
  · exact b4_len _
  · split
    · show (mapB _ _).length = 16
      unfold mapB
      split
      · rw [byL_len]; rfl
      · exact HGD.len
    · split <;> rfl
set_option maxRecDepth 100000 in
set_option maxHeartbeats 4000000 in
theorem goodRecs9_any (a : Option Addr) (cap : Nat) (D : List Rec) (w : World) (hD : RecsAt w a cap D) (hr : ∀ r ∈ D, Room r) :
    Calls Try.prog 27 #[.slice a D.length cap] w fun e w' => ∃ v, e = .returned v ∧ RowR w' w.heap.size v (goodRs D) ∧ Below w.heap.size w w' := by
  have HD := Lib.hid hD
  have HRM := Lib.hid hr
  have hml : D.length ≤ maxLen := Nat.le_trans hD.1 hD.2.1
  unfold maxLen at hml
  obtain ⟨N, hN⟩ : ∃ N, D.length = N := ⟨_, rfl⟩
  have HN := Lib.hid hN
  rw [hN] at hml ⊢
  clear hD hr hN
  go_enter Try.func27, Try.ntmps27
  go_wp2_with fail
  go_loopw [3, 4] (fun s3 s4 wr => ∃ k : Nat, k ≤ N ∧ k ≤ 3 ∧ s4 = .int .i64 (k : Int) ∧ Hid (RowR wr w.heap.size s3 ((D.take k).map goodR)) ∧ Hid (Below w.heap.size w wr)) (fun _ i _ => 3 - (intOf i).toNat)
  case atStart => exact ⟨0, Nat.zero_le _, Nat.zero_le _, rfl, Lib.hid (RowR.nil _ _), Lib.hid (Below.refl _ _)⟩
  case round =>
    obtain ⟨k, hk, hk3, rfl, HR, HB⟩ := hrel
    obtain ⟨x3, y3, hx3⟩ := own_slice HR.out.1
    subst hx3
    obtain ⟨kk, hkk⟩ : ∃ kk, ((D.take k).map goodR).length = kk := ⟨_, rfl⟩
    have HKK : Hid (((D.take k).map goodR).length = kk ∧ kk ≤ 3) := Lib.hid ⟨hkk, by rw [← hkk, List.length_map, List.length_take]; omega⟩
    rw [hkk] at HR ⊢
    clear hkk
    by_cases hkN : k < N
    · have hd : decide ((k : Int) < (N : Int)) = true := decide_eq_true (by omega)
      have hdn : decide (k < N) = true := decide_eq_true hkN
      by_cases hk4 : k < 3
      · have he : decide ((k : Int) < 3) = true := decide_eq_true (by omega)
        have hen : decide (k < 3) = true := decide_eq_true hk4
        have hkD : k < D.length := by rw [HN.out]; exact hkN
        obtain ⟨g, o, ha, hg, hrg⟩ := (HD.out.below HB.out).at k hkD
        subst ha
        have HRG := Lib.hid hrg
        have hfit := HD.out.2.2.1 _ (List.getElem_mem hkD)
        have hroom := HRM.out _ (List.getElem_mem hkD)
        have H16 := Lib.hid hfit.1
        have HGR := fun W => Lib.hid (goodRec9_any D[k] W hfit hroom.1 hroom.2)
        have HG16 : Hid ((goodR D[k]).b.length = 16) := Lib.hid (goodR_16 hfit)
        have HNX : Hid ((D.take (k + 1)).map goodR = (D.take k).map goodR ++ [goodR D[k]]) := Lib.hid (by
          rw [List.take_add_one, List.getElem?_eq_getElem hkD, List.map_append]
          rfl)
        generalize goodR D[k] = gr at *
        generalize D[k] = r at *
        have hb1 : (0 : Int) ≤ (k : Int) := by omega
        have hb2 : (k : Int) < (N : Int) := by omega
        have HONE : Hid (1 = [gr].length) := Lib.hid rfl
        have HALL : Hid (All16 [gr]) := Lib.hid (fun r hr => by rw [List.mem_singleton.1 hr]; exact HG16.out)
        have HLE : Hid (((D.take k).map goodR).length + [gr].length ≤ 100000) := Lib.hid (by have := HKK.out; simp only [List.length_cons, List.length_nil]; omega)
        clear hrg hfit hroom hg
        go_wp2_with (refine load_rec H16 HRG _ rfl rfl rfl ?_)
        refine (HGR _).out.mono ?_
        rintro e w2 ⟨rfl, hb2⟩
        replace HR := Lib.hid (HR.out.below hb2)
        replace HB := Lib.hid (chain HB.out hb2)
        clear hb2 HGR HRG
        go_wp2_with (first
          | (refine build_recS HG16 rfl _ rfl rfl (fun W HW => ?_); have HBW : Hid (Below w2.heap.size w2 W) := Lib.hid (by rw [HW.out]; exact (Below.refl _ _).alloc (Nat.le_refl _) _); have HE : Hid (RowR W w.heap.size (.slice x3 kk y3) ((D.take k).map goodR)) := Lib.hid (HR.out.below HBW.out); have HRG : Hid (W.rangeAt w2.heap.size 0 (flatR [gr])) := Lib.hid (by rw [HW.out]; have := built_new (w := w2) (cs := recL gr) 42; simpa [flatR] using this); have HBS : Hid (w.heap.size ≤ W.heap.size) := Lib.hid (Nat.le_trans HB.out.size HBW.out.size))
          | (have HE2 := HE; refine append_recs HE2 _ _ rfl rfl rfl [gr] rfl HONE HRG HALL HLE HBS (fun v' w' HO HG HF => ?_); clear HE))
        go_roundw
        case rel => exact ⟨k + 1, by omega, by omega, by go_num, by rw [HNX.out]; exact HO, Lib.hid (by
          have h1 := chain HB.out HBW.out
          exact h1.grown HG.out h1.size (fun j hj => (HE2.out.1.lt j hj).1))⟩
        case measure => simp [intOf]; omega
      · obtain rfl : k = 3 := by omega
        go_wp2_with fail
        go_ret
        exact ⟨_, rfl, HR.out, HB.out⟩
    · obtain rfl : k = N := by omega
      have hd : decide ((k : Int) < (k : Int)) = false := by simp
      have HEQ : Hid ((D.take k).map goodR = goodRs D) := Lib.hid (by
        unfold goodRs
        rw [List.take_of_length_le (by rw [HN.out]; exact Nat.le_refl _), List.take_of_length_le (by rw [HN.out]; exact hk3)])
      go_wp2_with fail
      go_ret
      exact ⟨_, rfl, by rw [← HEQ.out]; exact HR.out, HB.out⟩
end Go.Proofs.Yticdpidngmeebaa
/- Contract of the reference's Good of layer 9. -/
namespace Go.Proofs.Yticdpidngmeebaa
open Go.RowKit
set_option linter.unusedVariables false
set_option maxRecDepth 20000

def goodQ (q : Qu) : Qu := ⟨goodN q.name, (maskN q.ty 65535 : Nat), (maskN q.cl 65535 : Nat)⟩
def goodM (m : Msg) : Msg := ⟨(maskN m.id 65535 : Nat), (maskN m.fl 65535 : Nat), (m.qs.take 3).map goodQ, goodRs m.an, goodRs m.au, goodRs m.mo⟩
theorem wf_small (k m : Nat) (hk : k ≤ m) (hm : m < 4611686018427387904) : (Lit.int .i64 (k : Int)).wf = true := WalkArith.wf_i64 (by omega)
theorem goodR_fit {r : Rec} (hf : Fit r) : Fit (goodR r) := by
  have HGD := good_is r.f r.b hf.1 hf.2.1
  have h1 := (mask_is r.cl 65535 (by decide)).2
  have h2 := (mask_is r.ttl 2147483647 (by decide)).2
  have w1 := wf_small _ _ h1 (by decide)
  have w2 := wf_small _ _ h2 (by decide)
  have hn : (goodN r.name).size ≤ maxLen := by have := goodN_small r.name; unfold maxLen; omega
  have ht : (goodN r.tg).size ≤ maxLen := by have := goodN_small r.tg; unfold maxLen; omega
  have hfw : (few r.da 20).size ≤ maxLen := by have := few_size r.da 20; unfold maxLen; omega
  unfold goodR
  split
  · exact ⟨b4_len _, b4_lt _, (by decide : (Lit.int .i64 1).wf = true), w1, w2, (by decide : (Lit.int .i64 4).wf = true), hn, Nat.zero_le _, Nat.zero_le _⟩
  · split
    · refine ⟨?_, ?_, (by decide : (Lit.int .i64 28).wf = true), w1, w2, ?_, hn, Nat.zero_le _, Nat.zero_le _⟩
      · show (mapB _ _).length = 16
        unfold mapB
        split
        · rw [byL_len]; rfl
        · exact HGD.len
      · show ∀ x ∈ mapB _ _, x < 256
        unfold mapB
        split
        · exact byL_lt _ (map8_lt _ (fourB_le _ HGD.lt))
        · exact HGD.lt
      · show (Lit.int .i64 (mapF (goodF r.f))).wf = true
        unfold mapF goodF
        split <;> split <;> decide
    · split
      · exact ⟨rfl, (fun x hx => by rw [(List.mem_replicate.1 hx).2]; decide), (by decide : (Lit.int .i64 5).wf = true), w1, w2, (by decide : (Lit.int .i64 0).wf = true), hn, ht, Nat.zero_le _⟩
      · exact ⟨rfl, (fun x hx => by rw [(List.mem_replicate.1 hx).2]; decide), (by decide : (Lit.int .i64 41).wf = true), w1, w2, (by decide : (Lit.int .i64 0).wf = true), hn, Nat.zero_le _, hfw⟩
theorem goodQ_fit (q : Qu) : FitQ (goodQ q) := ⟨wf_small _ _ (mask_is q.ty 65535 (by decide)).2 (by decide), wf_small _ _ (mask_is q.cl 65535 (by decide)).2 (by decide), by show (goodN q.name).size ≤ maxLen; have := goodN_small q.name; unfold maxLen; omega⟩
theorem goodRs_fit {D : List Rec} (h : ∀ r ∈ D, Fit r) : ∀ r ∈ goodRs D, Fit r := fun r hr => by
  obtain ⟨x, hx, rfl⟩ := List.mem_map.1 hr
  exact goodR_fit (h x (List.mem_of_mem_take hx))
theorem goodRs_len (D : List Rec) : (goodRs D).length ≤ 3 := by unfold goodRs; rw [List.length_map, List.length_take]; omega
theorem wp_build_quS {op : Oper} {a : Act} {w : World} {K : Act → World → Prop} {Q : Exit → Act → World → Prop} {q : Qu} (x : Operand) (ho : op.op = .buildSlice 22 1 #[(0, x)])
    (hx : a.eval x = quV q) (h : K (a.put op.dst (.slice (some ⟨w.heap.size, 0, none⟩) 1 1)) (w.alloc (.cells (quL q).toArray 51))) : op.wp Try.prog a w K Q := by
  unfold Oper.wp execOp
  simp only [ho, List.map_toArray, List.map_cons, List.map_nil, hx, Sem.run_bind, run_buildQ q w, Result.andThen_ok]
  exact h
theorem wp_append_qus {op : Oper} {a : Act} {w : World} {K : Act → World → Prop} {Q : Exit → Act → World → Prop} {base : Nat} {v : Value} {D : List Qu} (hE : Hid (RowQ w base v D)) (s x : Operand) (ho : op.op = .call { callee := .builtin .append, args := #[s, x], argTypes := #[22, 22] })
    (hs : a.eval s = v) {G o m c : Nat} (ys : List Qu) (hx : a.eval x = .slice (some ⟨G, o, none⟩) m c) (hm : Hid (m = ys.length)) (hr : Hid (w.rangeAt G o (flatQ ys))) (hle : Hid (D.length + ys.length ≤ 100000)) (hbase : Hid (base ≤ w.heap.size))
    (h : ∀ v' w', Hid (RowQ w' base v' (D ++ ys)) → Hid (w.grownBy w' v.ownBlock) → Hid (v'.ownBlock = v.ownBlock ∨ v'.ownBlock = some w.heap.size) → K (a.put op.dst v') w') : op.wp Try.prog a w K Q := by
  obtain ⟨i0, hi0, hz0, hz1, hz2⟩ := info_parts infoQ
  have hml := hm.out
  have hll := hle.out
  obtain ⟨v', w', hrun, h1, h2, _, h4⟩ := run_append_own_at (P := Try.prog) w base 22 op.type 51 i0 _ 3 32 Try.underlying22 hi0 hz0 hz1 hz2 rfl (by decide) v D.length (flatQ D) hE.out ⟨G, o, none⟩ m c (flatQ ys) (by rw [flatQ_len ys, hml]) (fun j u hu => by
    have := hr.out j u hu
    have hadd : (⟨G, o, none⟩ : Addr).add j = ⟨G, o + j, none⟩ := by unfold Addr.add; split <;> simp_all
    rw [hadd]
    exact this) (flatQ_one ys) (by unfold maxLen; omega) (by omega) hbase.out
  unfold Oper.wp execOp
  simp only [ho, resolve, invoke, builtin, Sem.run_bind, Sem.run_pure, Result.andThen_ok, List.map_toArray, List.map_cons, List.map_nil, hs, hx, hrun]
  refine h v' w' (Lib.hid ?_) (Lib.hid h2) (Lib.hid h4)
  unfold RowQ
  rw [List.length_append, flatQ_append, ← hml]; exact h1
/-- A message that is being made, at block P. -/
structure GSt (w0 : World) (P : Nat) (id fl : Int) (vq v1 v2 v3 : Value) (Q : List Qu) (D1 D2 D3 : List Rec) (w : World) : Prop where
  cells : CellsAt w P [.int .i64 id, .int .i64 fl, vq, v1, v2, v3]
  rq : RowQ w (w0.heap.size + 2) vq Q
  r1 : RowR w (w0.heap.size + 2) v1 D1
  r2 : RowR w (w0.heap.size + 2) v2 D2
  r3 : RowR w (w0.heap.size + 2) v3 D3
  nq : vq.ownBlock ≠ some P
  n1 : v1.ownBlock ≠ some P
  n2 : v2.ownBlock ≠ some P
  n3 : v3.ownBlock ≠ some P
  bel : Below w0.heap.size w0 w
  le : w0.heap.size + 1 < P
theorem GSt.below {w0 w w' : World} {P : Nat} {id fl : Int} {vq v1 v2 v3 : Value} {Q : List Qu} {D1 D2 D3 : List Rec} (h : GSt w0 P id fl vq v1 v2 v3 Q D1 D2 D3 w) (hb : Below w.heap.size w w') : GSt w0 P id fl vq v1 v2 v3 Q D1 D2 D3 w' :=
  ⟨h.cells.below hb, h.rq.below hb, h.r1.below hb, h.r2.below hb, h.r3.below hb, h.nq, h.n1, h.n2, h.n3, chain h.bel hb, h.le⟩
/-- A question more: its row grown, and stored. -/
theorem GSt.more {w0 w w' : World} {P : Nat} {id fl : Int} {vq vq' v1 v2 v3 : Value} {Q Q' : List Qu} {D1 D2 D3 : List Rec} (h : GSt w0 P id fl vq v1 v2 v3 Q D1 D2 D3 w) (hr : RowQ w' (w0.heap.size + 2) vq' Q') (hg : w.grownBy w' vq.ownBlock) (hv : vq'.ownBlock = vq.ownBlock ∨ vq'.ownBlock = some w.heap.size) :
    GSt w0 P id fl vq' v1 v2 v3 Q' D1 D2 D3 (w'.setCell ⟨P, 2, none⟩ vq') ∧ (∃ u, w'.cell? ⟨P, 2, none⟩ = some u) ∧ w'.frozen? ⟨P, 2, none⟩ = false := by
  have hP : w'.heap[P]? = w.heap[P]? := hg.block P h.cells.lt (fun e => h.nq e.symm)
  have hc : CellsAt w' P [.int .i64 id, .int .i64 fl, vq, v1, v2, v3] := by
    refine ⟨Nat.lt_of_lt_of_le h.cells.lt hg.size, fun j u hu => ?_, fun j hj => ?_⟩
    · rw [World.cell?_of_block (w := w) (a := ⟨P, 0 + j, none⟩) hP]; exact h.cells.range j u hu
    · rw [World.cell?_of_block (w := w) (a := ⟨P, 0 + j, none⟩) hP, World.frozen?_of_block (w := w) (a := ⟨P, 0 + j, none⟩) hP]; exact h.cells.there j hj
  have ho : ∀ {b t z n} {v : Value} {xs : List Value}, w'.ownsRow b t z v n xs → v.ownBlock ≠ some P → (w'.setCell ⟨P, 2, none⟩ vq').ownsRow b t z v n xs := fun hx hn => own_kept hx (fun g hg2 => heap_setCell_other _ _ _ _ (fun e => hn (by rw [hg2]; exact congrArg some e)))
  have hnq : vq'.ownBlock ≠ some P := by
    rcases hv with e | e
    · rw [e]; exact h.nq
    · rw [e]; intro e2; injection e2 with e2; have := h.cells.lt; omega
  have hk : ∀ {v : Value} {D : List Rec}, RowR w (w0.heap.size + 2) v D → v.ownBlock ≠ some P → RowR (w'.setCell ⟨P, 2, none⟩ vq') (w0.heap.size + 2) v D := fun hx hn => by
    have hne : ∀ g, vq.ownBlock = some g → _ ≠ some g := fun g hg2 => own_types h.rq hx.1 (by decide) g hg2
    exact ⟨ho (hx.1.kept hg (by
      rename_i v D
      cases hq : vq.ownBlock with
      | none => cases hv2 : v.ownBlock with
        | none => exact .inl rfl
        | some g => exact .inr (by simp)
      | some g => exact .inr (hne g hq))) hn, hx.2⟩
  refine ⟨⟨?_, ho hr hnq, hk h.r1 h.n1, hk h.r2 h.n2, hk h.r3 h.n3, hnq, h.n1, h.n2, h.n3, ?_, h.le⟩, ⟨_, hc.cell 2 _ rfl⟩, hc.live 2 (by show 2 < 6; decide)⟩
  · exact hc.set 2 vq' (by show 2 < 6; decide)
  · have h1 : Below w0.heap.size w0 w' := h.bel.grown hg h.bel.size (fun k hk => by have := (h.rq.lt k hk).1; omega)
    exact h1.setCell (show w0.heap.size ≤ P by have := h.le; omega) _
def RoomG (m : Msg) : Prop := (∀ q ∈ m.qs, q.name.size ≤ 1900000) ∧ (∀ r ∈ m.an, Room r) ∧ (∀ r ∈ m.au, Room r) ∧ ∀ r ∈ m.mo, Room r
theorem load_quG {ops : Array Oper} {rest : List Oper} {op : Oper} {a : Act} {w : World} {Q : Exit → Act → World → Prop} {G o : Nat} {q : Qu} (hA : Hid (w.rangeAt G o (quL q))) (x : Operand) (hw : Region.wanted op (yielded ops a.tmps) = true) (ho : op.op = .load 51 x)
    (hx : a.eval x = .pointer (some ⟨G, o, none⟩)) (h : wpList Try.prog ops Q rest (a.put op.dst (quV q)) w) : wpList Try.prog ops Q (op :: rest) a w :=
  wpList_load_row hw 51 x ho G o hx (quL q) _ hA.out Try.underlying51 rfl (by rw [qu_size]; rfl) h
theorem store_qu {ops : Array Oper} {rest : List Oper} {op : Oper} {a : Act} {w : World} {Q : Exit → Act → World → Prop} {G : Nat} {u0 u1 u2 : Value} {q : Qu} (hA : Hid (CellsAt w G [u0, u1, u2])) (x y : Operand) (hgd : op.guard = none) (ho : op.op = .store 51 x y)
    (hx : a.eval x = .pointer (some ⟨G, 0, none⟩)) (hy : a.eval y = quV q) (h : ∀ W, Hid (W = w.setCells G 0 (quL q)) → Hid (CellsAt W G (quL q)) → wpList Try.prog ops Q rest (a.put op.dst undef) W) : wpList Try.prog ops Q (op :: rest) a w :=
  wpList_store_mid hgd 51 x y ho G 0 (quL q).toArray hx hy (by rw [List.size_toArray]; exact hA.out.there) (by rw [qu_size]; rfl) (all_oneCell_toArray (fun u hu => by simp [quL] at hu; rcases hu with rfl | rfl | rfl <;> rfl)) (h _ (Lib.hid rfl) (Lib.hid (hA.out.stored (quL q) rfl)))
theorem CellsAt.keep {w w' : World} {G : Nat} {vs : List Value} (h : CellsAt w G vs) (hk : w'.heap[G]? = w.heap[G]?) (hs : w.heap.size ≤ w'.heap.size) : CellsAt w' G vs :=
  ⟨Nat.lt_of_lt_of_le h.lt hs, fun j u hu => by rw [World.cell?_of_block (w := w) (a := ⟨G, 0 + j, none⟩) hk]; exact h.range j u hu, fun j hj => by
    rw [World.cell?_of_block (w := w) (a := ⟨G, 0 + j, none⟩) hk, World.frozen?_of_block (w := w) (a := ⟨G, 0 + j, none⟩) hk]; exact h.there j hj⟩
theorem MBox.keep {w w' : World} {G : Nat} {v0 v1 v2 v3 v4 v5 : Value} (h : MBox w G v0 v1 v2 v3 v4 v5) (hk : w'.heap[G]? = w.heap[G]?) : MBox w' G v0 v1 v2 v3 v4 v5 :=
  ⟨(World.cell?_of_block (a := ⟨G, 0, none⟩) hk).trans h.c0, (World.cell?_of_block (a := ⟨G, 1, none⟩) hk).trans h.c1, (World.cell?_of_block (a := ⟨G, 2, none⟩) hk).trans h.c2, (World.cell?_of_block (a := ⟨G, 3, none⟩) hk).trans h.c3, (World.cell?_of_block (a := ⟨G, 4, none⟩) hk).trans h.c4, (World.cell?_of_block (a := ⟨G, 5, none⟩) hk).trans h.c5⟩
theorem MBox.lt {w : World} {G : Nat} {v0 v1 v2 v3 v4 v5 : Value} (h : MBox w G v0 v1 v2 v3 v4 v5) : G < w.heap.size := World.block_lt_of_cell? w ⟨G, 0, none⟩ h.c0
set_option maxRecDepth 100000 in
set_option maxHeartbeats 8000000 in
theorem goodMsg9R_any (m : Msg) (aq a1 a2 a3 : Option Addr) (cq c1 c2 c3 : Nat) (w : World) (hM : MsgIn w m aq a1 a2 a3 cq c1 c2 c3) (hr : RoomG m) :
    Calls Try.prog 10 #[msgV m aq a1 a2 a3 cq c1 c2 c3] w fun e w' => ∃ bq b1 b2 b3 dq d1 d2 d3, e = .returned (msgV (goodM m) bq b1 b2 b3 dq d1 d2 d3) ∧ MsgIn w' (goodM m) bq b1 b2 b3 dq d1 d2 d3 ∧ Below w.heap.size w w' ∧ RowR w' w.heap.size (.slice b1 (goodM m).an.length d1) (goodM m).an ∧ (∀ g, (Value.slice b1 (goodM m).an.length d1).ownBlock = some g → (∀ x, b2 = some x → x.block ≠ g) ∧ (∀ x, b3 = some x → x.block ≠ g) ∧ ∀ x, bq = some x → x.block ≠ g) := by
  unfold msgV
  obtain ⟨k0, k1, k2, k3⟩ := hr
  have kq : m.qs.length ≤ 9223372036854775807 := by have := Nat.le_trans hM.qs.1 hM.qs.2.1; unfold maxLen at this; omega
  have HMQ := Lib.hid hM.qs
  have HKQ := Lib.hid k0
  have HR1 := fun V (h : Below w.heap.size w V) => Lib.hid (goodRecs9_any a1 c1 m.an V (hM.an.below h) k1)
  have HR2 := fun V (h : Below w.heap.size w V) => Lib.hid (goodRecs9_any a2 c2 m.au V (hM.au.below h) k2)
  have HR3 := fun V (h : Below w.heap.size w V) => Lib.hid (goodRecs9_any a3 c3 m.mo V (hM.mo.below h) k3)
  have hF1 := goodRs_fit hM.an.2.2.1
  have hF2 := goodRs_fit hM.au.2.2.1
  have hF3 := goodRs_fit hM.mo.2.2.1
  have HF : Hid ((∀ r ∈ goodRs m.an, Fit r) ∧ (∀ r ∈ goodRs m.au, Fit r) ∧ ∀ r ∈ goodRs m.mo, Fit r) := Lib.hid ⟨hF1, hF2, hF3⟩
  have hmi : bits .and .i64 m.id 65535 = ((maskN m.id 65535 : Nat) : Int) := (mask_is m.id 65535 (by decide)).1
  have hmf : bits .and .i64 m.fl 65535 = ((maskN m.fl 65535 : Nat) : Int) := (mask_is m.fl 65535 (by decide)).1
  have HGM : Hid (goodM m = ⟨(maskN m.id 65535 : Nat), (maskN m.fl 65535 : Nat), (m.qs.take 3).map goodQ, goodRs m.an, goodRs m.au, goodRs m.mo⟩) := Lib.hid rfl
  have HQF : Hid (∀ q ∈ (m.qs.take 3).map goodQ, FitQ q) := Lib.hid (fun q hq => by obtain ⟨x, _, rfl⟩ := List.mem_map.1 hq; exact goodQ_fit x)
  obtain ⟨W, hW⟩ : ∃ W, (w.alloc (.cells #[.int .i64 m.id, .int .i64 m.fl, .slice aq m.qs.length cq, .slice a1 m.an.length c1, .slice a2 m.au.length c2, .slice a3 m.mo.length c3] 25)).alloc (.cells #[.int .i64 0, .int .i64 0, .slice none 0 0, .slice none 0 0, .slice none 0 0, .slice none 0 0] 25) = W := ⟨_, rfl⟩
  have HB : Hid (Below w.heap.size w W) := Lib.hid (by rw [← hW]; exact ((Below.refl _ _).alloc (Nat.le_refl _) _).alloc (by simp) _)
  have HX : Hid (MBox W w.heap.size (.int .i64 m.id) (.int .i64 m.fl) (.slice aq m.qs.length cq) (.slice a1 m.an.length c1) (.slice a2 m.au.length c2) (.slice a3 m.mo.length c3)) := Lib.hid (by rw [← hW]; exact (MBox.new w _ _ _ _ _ _ _).below ((Below.refl _ _).alloc (Nat.le_refl _) _))
  have HZ : Hid (CellsAt W (w.heap.size + 1) zM) := Lib.hid (by
    rw [← hW]
    have := CellsAt.new (w.alloc (.cells #[.int .i64 m.id, .int .i64 m.fl, .slice aq m.qs.length cq, .slice a1 m.an.length c1, .slice a2 m.au.length c2, .slice a3 m.mo.length c3] 25)) 25 zM
    rw [heap_alloc] at this
    exact this)
  have HSZ : Hid (w.heap.size + 2 ≤ W.heap.size) := Lib.hid (by rw [← hW]; simp)
  obtain ⟨id, fl, qs, D1, D2, D3⟩ := m
  simp only at HMQ HKQ HR1 HR2 HR3 HF hmi hmf HGM HQF HX kq
  obtain ⟨GM, hGM⟩ : ∃ GM, goodM ⟨id, fl, qs, D1, D2, D3⟩ = GM := ⟨_, rfl⟩
  rw [hGM] at HGM ⊢
  obtain ⟨i9, hi9⟩ : ∃ i9, maskN id 65535 = i9 := ⟨_, rfl⟩
  obtain ⟨f9, hf9⟩ : ∃ f9, maskN fl 65535 = f9 := ⟨_, rfl⟩
  rw [hi9] at hmi HGM
  rw [hf9] at hmf HGM
  obtain ⟨NQ, hNQ⟩ : ∃ N, qs.length = N := ⟨_, rfl⟩
  have HNQ := Lib.hid hNQ
  rw [hNQ] at HX hW kq
  simp only at hW
  generalize D1.length = n1 at *
  generalize D2.length = n2 at *
  generalize D3.length = n3 at *
  rw [hNQ]
  obtain ⟨G, hG⟩ : ∃ G, w.heap.size = G := ⟨_, rfl⟩
  have HG := Lib.hid hG
  rw [hG] at HX HZ HSZ
  clear hM k0 k1 k2 k3 hF1 hF2 hF3 hGM hi9 hf9 hNQ
  go_enter Try.func10, Try.ntmps10
  go_upto_region 1 with fail
  try rw [hW]
  clear hW
  try rw [hG]
  clear hG
  obtain ⟨S, hS⟩ : ∃ S : World → Prop, (fun V => MBox V G (.int .i64 id) (.int .i64 fl) (.slice aq NQ cq) (.slice a1 n1 c1) (.slice a2 n2 c2) (.slice a3 n3 c3)) = S := ⟨_, rfl⟩
  have C0 : Hid (∀ V, S V → V.cell? ⟨G, 0, none⟩ = some (.int .i64 id)) := Lib.hid (fun V h => by rw [← hS] at h; exact h.c0)
  have C1 : Hid (∀ V, S V → V.cell? ⟨G, 1, none⟩ = some (.int .i64 fl)) := Lib.hid (fun V h => by rw [← hS] at h; exact h.c1)
  have C3 : Hid (∀ V, S V → V.cell? ⟨G, 3, none⟩ = some (.slice a1 n1 c1)) := Lib.hid (fun V h => by rw [← hS] at h; exact h.c3)
  have C4 : Hid (∀ V, S V → V.cell? ⟨G, 4, none⟩ = some (.slice a2 n2 c2)) := Lib.hid (fun V h => by rw [← hS] at h; exact h.c4)
  have C5 : Hid (∀ V, S V → V.cell? ⟨G, 5, none⟩ = some (.slice a3 n3 c3)) := Lib.hid (fun V h => by rw [← hS] at h; exact h.c5)
  have HSI : Hid (∀ V, MBox V G (.int .i64 id) (.int .i64 fl) (.slice aq NQ cq) (.slice a1 n1 c1) (.slice a2 n2 c2) (.slice a3 n3 c3) → S V) := Lib.hid (fun V h => by rw [← hS]; exact h)
  clear hS
  go_cut [3] from 6 (fun s3 wx => ∃ (P : Nat) (v1 v2 v3 : Value), s3 = .pointer (some ⟨P, 0, none⟩) ∧ Hid (GSt w P (i9 : Nat) (f9 : Nat) (.slice none 0 0) v1 v2 v3 [] (goodRs D1) (goodRs D2) (goodRs D3) wx) ∧ Hid (MBox wx G (.int .i64 id) (.int .i64 fl) (.slice aq NQ cq) (.slice a1 n1 c1) (.slice a2 n2 c2) (.slice a3 n3 c3)) ∧ Hid (CellsAt wx (G + 1) zM) ∧ Hid (∀ g, v1.ownBlock = some g → v2.ownBlock ≠ some g) ∧ Hid (∀ g, v1.ownBlock = some g → v3.ownBlock ≠ some g))
  case first =>
    replace HX := Lib.hid (HX.out.below (Below.refl _ _).drew)
    replace HZ := Lib.hid (HZ.out.below (Below.refl _ _).drew)
    replace HB := Lib.hid HB.out.drew
    replace HSZ : Hid (G + 2 ≤ W.drew.heap.size) := Lib.hid HSZ.out
    refine wp_region_noPanic ?_
    refine wp_region_held_drew (S := S) (by kernel_rfl) (HSI.out _ HX.out) (fun hHeld => ?_)
    obtain ⟨U, hU⟩ : ∃ U, W.drew = U := ⟨_, rfl⟩
    rw [hU] at HX HZ HB HSZ hHeld ⊢
    clear hU
    refine wpAnyH_take (i := 0) (v := ?_) rfl (by kernel_rfl) (by kernel_rfl) (by kernel_rfl) (fun _ _ _ h => h) (Or.inl ⟨by rfl, ?_⟩) (by assumption) ?_
    rotate_left
    · (intro w hSw; go_simp; try (with_reducible rfl))
    try simp only [Act.put, List.getElem_toArray, List.getElem_cons_zero, List.setIfInBounds_toArray, List.set_cons_zero, List.set_cons_succ]
    refine wpAnyH_take (i := 1) (v := ?_) rfl (by kernel_rfl) (by kernel_rfl) (by kernel_rfl) (fun _ _ _ h => h) (Or.inl ⟨by rfl, ?_⟩) (by assumption) ?_
    rotate_left
    · (intro w hSw; have hc0 := C0.out w hSw; go_simp; try (with_reducible rfl))
    try simp only [Act.put, List.getElem_toArray, List.getElem_cons_zero, List.getElem_cons_succ, List.setIfInBounds_toArray, List.set_cons_zero, List.set_cons_succ]
    refine wpAnyH_take (i := 2) (v := ?_) rfl (by kernel_rfl) (by kernel_rfl) (by kernel_rfl) (fun _ _ _ h => h) (Or.inl ⟨by rfl, ?_⟩) (by assumption) ?_
    rotate_left
    · (intro w hSw; go_simp; try (with_reducible rfl))
    try simp only [Act.put, List.getElem_toArray, List.getElem_cons_zero, List.getElem_cons_succ, List.setIfInBounds_toArray, List.set_cons_zero, List.set_cons_succ]
    refine wpAnyH_take (i := 3) (v := ?_) rfl (by kernel_rfl) (by kernel_rfl) (by kernel_rfl) (fun _ _ _ h => h) (Or.inl ⟨by rfl, ?_⟩) (by assumption) ?_
    rotate_left
    · (intro w hSw; go_simp; try (with_reducible rfl))
    try simp only [Act.put, List.getElem_toArray, List.getElem_cons_zero, List.getElem_cons_succ, List.setIfInBounds_toArray, List.set_cons_zero, List.set_cons_succ]
    refine wpAnyH_take (i := 4) (v := ?_) rfl (by kernel_rfl) (by kernel_rfl) (by kernel_rfl) (fun _ _ _ h => h) (Or.inl ⟨by rfl, ?_⟩) (by assumption) ?_
    rotate_left
    · (intro w hSw; have hc0 := C1.out w hSw; go_simp; try (with_reducible rfl))
    try simp only [Act.put, List.getElem_toArray, List.getElem_cons_zero, List.getElem_cons_succ, List.setIfInBounds_toArray, List.set_cons_zero, List.set_cons_succ]
    refine wpAnyH_take (i := 5) (v := ?_) rfl (by kernel_rfl) (by kernel_rfl) (by kernel_rfl) (fun _ _ _ h => h) (Or.inl ⟨by rfl, ?_⟩) (by assumption) ?_
    rotate_left
    · (intro w hSw; go_simp; try (with_reducible rfl))
    try simp only [Act.put, List.getElem_toArray, List.getElem_cons_zero, List.getElem_cons_succ, List.setIfInBounds_toArray, List.set_cons_zero, List.set_cons_succ]
    refine wpAnyH_take (i := 6) (v := ?_) rfl (by kernel_rfl) (by kernel_rfl) (by kernel_rfl) (fun _ _ _ h => h) (Or.inl ⟨by rfl, ?_⟩) (by assumption) ?_
    rotate_left
    · (intro w hSw; go_simp; try (with_reducible rfl))
    try simp only [Act.put, List.getElem_toArray, List.getElem_cons_zero, List.getElem_cons_succ, List.setIfInBounds_toArray, List.set_cons_zero, List.set_cons_succ]
    refine wpAnyH_take (i := 7) (v := ?_) rfl (by kernel_rfl) (by kernel_rfl) (by kernel_rfl) (fun _ _ _ h => h) (Or.inl ⟨by rfl, ?_⟩) (by assumption) ?_
    rotate_left
    · (intro w hSw; have hc0 := C3.out w hSw; go_simp; try (with_reducible rfl))
    try simp only [Act.put, List.getElem_toArray, List.getElem_cons_zero, List.getElem_cons_succ, List.setIfInBounds_toArray, List.set_cons_zero, List.set_cons_succ]
    refine wpAnyH_take (i := 9) (v := ?_) rfl (by kernel_rfl) (by kernel_rfl) (by kernel_rfl) (fun _ _ _ h => h) (Or.inl ⟨by rfl, ?_⟩) (by assumption) ?_
    rotate_left
    · (intro w hSw; go_simp; try (with_reducible rfl))
    try simp only [Act.put, List.getElem_toArray, List.getElem_cons_zero, List.getElem_cons_succ, List.setIfInBounds_toArray, List.set_cons_zero, List.set_cons_succ]
    refine wpAnyH_take (i := 10) (v := ?_) rfl (by kernel_rfl) (by kernel_rfl) (by kernel_rfl) (fun _ _ _ h => h) (Or.inl ⟨by rfl, ?_⟩) (by assumption) ?_
    rotate_left
    · (intro w hSw; have hc0 := C4.out w hSw; go_simp; try (with_reducible rfl))
    try simp only [Act.put, List.getElem_toArray, List.getElem_cons_zero, List.getElem_cons_succ, List.setIfInBounds_toArray, List.set_cons_zero, List.set_cons_succ]
    refine wpAnyH_take (i := 12) (v := ?_) rfl (by kernel_rfl) (by kernel_rfl) (by kernel_rfl) (fun _ _ _ h => h) (Or.inl ⟨by rfl, ?_⟩) (by assumption) ?_
    rotate_left
    · (intro w hSw; go_simp; try (with_reducible rfl))
    try simp only [Act.put, List.getElem_toArray, List.getElem_cons_zero, List.getElem_cons_succ, List.setIfInBounds_toArray, List.set_cons_zero, List.set_cons_succ]
    refine wpAnyH_take (i := 13) (v := ?_) rfl (by kernel_rfl) (by kernel_rfl) (by kernel_rfl) (fun _ _ _ h => h) (Or.inl ⟨by rfl, ?_⟩) (by assumption) ?_
    rotate_left
    · (intro w hSw; have hc0 := C5.out w hSw; go_simp; try (with_reducible rfl))
    try simp only [Act.put, List.getElem_toArray, List.getElem_cons_zero, List.getElem_cons_succ, List.setIfInBounds_toArray, List.set_cons_zero, List.set_cons_succ]
    refine wpAnyH_ready (rs := [8, 16]) (by kernel_rfl) (by simp) ?_
    refine AllReadyH.cons rfl (fun K hK => ?_) (ready_one rfl rfl (fun K hK => ?_))
    · go_simp
      refine (HR1 _ HB.out).out.mono ?_
      rintro e wc1 ⟨v1, rfl, hr1, hb⟩
      obtain ⟨p1, q1, e1⟩ := own_slice (show wc1.ownsRow _ _ _ v1 _ _ from hr1.1)
      subst e1
      have HV1 : Hid (RowR wc1 (w.heap.size + 2) (.slice p1 (goodRs D1).length q1) (goodRs D1)) := Lib.hid ⟨own_lower8 hr1.1 (by have := HSZ.out; have := HG.out; omega), hr1.2⟩
      replace HX := Lib.hid (HX.out.below hb)
      replace HZ := Lib.hid (HZ.out.below hb)
      replace HB := Lib.hid (chain HB.out hb)
      replace HSZ := Lib.hid (Nat.le_trans HSZ.out hb.size)
      clear hr1 hb
      go_wp2_with fail
      refine hK.out _ _ (HSI.out _ HX.out) (fun hHeldc1 => ?_)
      clear hK K
      try simp only [Act.put, List.getElem_toArray, List.getElem_cons_zero, List.getElem_cons_succ, List.setIfInBounds_toArray, List.set_cons_zero, List.set_cons_succ]
      refine wpAnyH_ready (rs := [11, 16]) (by kernel_rfl) (by simp) ?_
      refine AllReadyH.cons rfl (fun K hK => ?_) (ready_one rfl rfl (fun K hK => ?_))
      · go_simp
        refine (HR2 _ HB.out).out.mono ?_
        rintro e wc2 ⟨v2, rfl, hr2, hb⟩
        obtain ⟨p2, q2, e2⟩ := own_slice (show wc2.ownsRow _ _ _ v2 _ _ from hr2.1)
        subst e2
        have HV2 : Hid (RowR wc2 (w.heap.size + 2) (.slice p2 (goodRs D2).length q2) (goodRs D2)) := Lib.hid ⟨own_lower8 hr2.1 (by have := HSZ.out; have := HG.out; omega), hr2.2⟩
        have HD12 : Hid (∀ g, (Value.slice p1 (goodRs D1).length q1).ownBlock = some g → (Value.slice p2 (goodRs D2).length q2).ownBlock ≠ some g) := Lib.hid (fun g h1 h2 => by have h3 := (HV1.out.1.lt _ h1).2; have h4 := (hr2.1.lt _ h2).1; omega)
        replace HV1 := Lib.hid (HV1.out.below hb)
        replace HX := Lib.hid (HX.out.below hb)
        replace HZ := Lib.hid (HZ.out.below hb)
        replace HB := Lib.hid (chain HB.out hb)
        replace HSZ := Lib.hid (Nat.le_trans HSZ.out hb.size)
        clear hr2 hb
        go_wp2_with fail
        refine hK.out _ _ (HSI.out _ HX.out) (fun hHeldc2 => ?_)
        clear hK K
        try simp only [Act.put, List.getElem_toArray, List.getElem_cons_zero, List.getElem_cons_succ, List.setIfInBounds_toArray, List.set_cons_zero, List.set_cons_succ]
        refine wpAnyH_ready (rs := [14, 16]) (by kernel_rfl) (by simp) ?_
        refine AllReadyH.cons rfl (fun K hK => ?_) (ready_one rfl rfl (fun K hK => ?_))
        · go_simp
          refine (HR3 _ HB.out).out.mono ?_
          rintro e wc3 ⟨v3, rfl, hr3, hb⟩
          obtain ⟨p3, q3, e3⟩ := own_slice (show wc3.ownsRow _ _ _ v3 _ _ from hr3.1)
          subst e3
          have HV3 : Hid (RowR wc3 (w.heap.size + 2) (.slice p3 (goodRs D3).length q3) (goodRs D3)) := Lib.hid ⟨own_lower8 hr3.1 (by have := HSZ.out; have := HG.out; omega), hr3.2⟩
          have HD13 : Hid (∀ g, (Value.slice p1 (goodRs D1).length q1).ownBlock = some g → (Value.slice p3 (goodRs D3).length q3).ownBlock ≠ some g) := Lib.hid (fun g h1 h2 => by have h3 := (HV1.out.1.lt _ h1).2; have h4 := (hr3.1.lt _ h2).1; omega)
          replace HV1 := Lib.hid (HV1.out.below hb)
          replace HV2 := Lib.hid (HV2.out.below hb)
          replace HX := Lib.hid (HX.out.below hb)
          replace HZ := Lib.hid (HZ.out.below hb)
          replace HB := Lib.hid (chain HB.out hb)
          replace HSZ := Lib.hid (Nat.le_trans HSZ.out hb.size)
          clear hr3 hb
          go_wp2_with fail
          refine hK.out _ _ (HSI.out _ HX.out) (fun hHeldc3 => ?_)
          clear hK K
          try simp only [Act.put, List.getElem_toArray, List.getElem_cons_zero, List.getElem_cons_succ, List.setIfInBounds_toArray, List.set_cons_zero, List.set_cons_succ]
          refine wpAnyH_take (i := 15) (v := ?_) rfl (by kernel_rfl) (by kernel_rfl) (by kernel_rfl) (fun _ _ _ h => h) (Or.inl ⟨by rfl, ?_⟩) (by assumption) ?_
          rotate_left
          · (intro w hSw; go_simp; try (with_reducible rfl))
          try simp only [Act.put, List.getElem_toArray, List.getElem_cons_zero, List.getElem_cons_succ, List.setIfInBounds_toArray, List.set_cons_zero, List.set_cons_succ]
          refine wpAnyH_ready (rs := [16]) (by kernel_rfl) (by simp) ?_
          refine ready_one rfl rfl (fun K hK => ?_)
          obtain ⟨P, hP⟩ : ∃ P, wc3.heap.size = P := ⟨_, rfl⟩
          obtain ⟨Wa, hWa⟩ : ∃ Wa, wc3.alloc (.cells #[.int .i64 0, .int .i64 0, .slice none 0 0, .slice none 0 0, .slice none 0 0, .slice none 0 0] 25) = Wa := ⟨_, rfl⟩
          have hbl : Below wc3.heap.size wc3 Wa := by rw [← hWa]; exact (Below.refl _ _).alloc (Nat.le_refl _) _
          have HC : Hid (CellsAt Wa P zM) := Lib.hid (by rw [← hWa, ← hP]; exact CellsAt.new wc3 _ zM)
          have HGP : Hid (G + 1 < P) := Lib.hid (by have := HSZ.out; omega)
          have HN1 : Hid ((Value.slice p1 (goodRs D1).length q1).ownBlock ≠ some P) := Lib.hid (fun e => by have h1 := (HV1.out.1.lt _ e).2; omega)
          replace HV1 := Lib.hid (HV1.out.below hbl)
          have HN2 : Hid ((Value.slice p2 (goodRs D2).length q2).ownBlock ≠ some P) := Lib.hid (fun e => by have h1 := (HV2.out.1.lt _ e).2; omega)
          replace HV2 := Lib.hid (HV2.out.below hbl)
          have HN3 : Hid ((Value.slice p3 (goodRs D3).length q3).ownBlock ≠ some P) := Lib.hid (fun e => by have h1 := (HV3.out.1.lt _ e).2; omega)
          replace HV3 := Lib.hid (HV3.out.below hbl)
          replace HX := Lib.hid (HX.out.below hbl)
          replace HZ := Lib.hid (HZ.out.below hbl)
          replace HB := Lib.hid (chain HB.out hbl)
          replace HSZ := Lib.hid (Nat.le_trans HSZ.out hbl.size)
          clear hbl
          go_wp2_with fail
          try rw [hWa]
          try rw [hP]
          refine hK.out _ _ (HSI.out _ HX.out) (fun hHeldad => ?_)
          clear hK K hWa hP
          try simp only [Act.put, List.getElem_toArray, List.getElem_cons_zero, List.getElem_cons_succ, List.setIfInBounds_toArray, List.set_cons_zero, List.set_cons_succ]
          refine wpAnyH_ready (rs := [17]) (by kernel_rfl) (by simp) ?_
          refine ready_one rfl rfl (fun K hK => ?_)
          refine wp_store_msg HC rfl _ _ rfl rfl (vs := [.int .i64 (i9 : Nat), .int .i64 (f9 : Nat), .slice none 0 0, .slice p1 (goodRs D1).length q1, .slice p2 (goodRs D2).length q2, .slice p3 (goodRs D3).length q3]) rfl rfl rfl (fun V HV HVC => ?_)
          refine hK.out _ _ (HSI.out _ (by rw [HV.out]; exact HX.out.apart (by have := HGP.out; omega) _)) (fun hHeldz => ?_)
          clear hK K
          try simp only [Act.put, List.getElem_toArray, List.getElem_cons_zero, List.getElem_cons_succ]
          refine wpAnyH_done (by kernel_rfl) ?_ _
          refine NoPanic.normal ?_
          go_wp2_with fail
          have hne : ∀ {v : Value} {D : List Rec}, RowR _ (w.heap.size + 2) v D → v.ownBlock ≠ some P → RowR V (w.heap.size + 2) v D := fun {v D} hx hn => by rw [HV.out]; exact ⟨own_kept hx.1 (fun g hg => setCells_block _ _ _ _ _ (fun e => hn (by rw [hg, e]))), hx.2⟩
          have HGS : Hid (GSt w P (i9 : Nat) (f9 : Nat) (.slice none 0 0) (.slice p1 (goodRs D1).length q1) (.slice p2 (goodRs D2).length q2) (.slice p3 (goodRs D3).length q3) [] (goodRs D1) (goodRs D2) (goodRs D3) V) := Lib.hid ⟨HVC.out, RowQ.nil _ _, hne HV1.out HN1.out, hne HV2.out HN2.out, hne HV3.out HN3.out, by simp [Value.ownBlock], HN1.out, HN2.out, HN3.out, by rw [HV.out]; exact below_cells (by have := HGP.out; have := HG.out; omega) _ _ _ HB.out, by have := HGP.out; have := HG.out; omega⟩
          have HXV : Hid (MBox V G (.int .i64 id) (.int .i64 fl) (.slice aq NQ cq) (.slice a1 n1 c1) (.slice a2 n2 c2) (.slice a3 n3 c3)) := Lib.hid (by rw [HV.out]; exact HX.out.apart (by have := HGP.out; omega) _)
          have HZV : Hid (CellsAt V (G + 1) zM) := Lib.hid (by rw [HV.out]; exact HZ.out.apart (by have := HGP.out; omega) _)
          go_meet
          case rel => exact ⟨P, _, _, _, rfl, HGS, HXV, HZV, HD12, HD13⟩
        · obtain ⟨P, hP⟩ : ∃ P, wc2.heap.size = P := ⟨_, rfl⟩
          obtain ⟨Wa, hWa⟩ : ∃ Wa, wc2.alloc (.cells #[.int .i64 0, .int .i64 0, .slice none 0 0, .slice none 0 0, .slice none 0 0, .slice none 0 0] 25) = Wa := ⟨_, rfl⟩
          have hbl : Below wc2.heap.size wc2 Wa := by rw [← hWa]; exact (Below.refl _ _).alloc (Nat.le_refl _) _
          have HC : Hid (CellsAt Wa P zM) := Lib.hid (by rw [← hWa, ← hP]; exact CellsAt.new wc2 _ zM)
          have HGP : Hid (G + 1 < P) := Lib.hid (by have := HSZ.out; omega)
          have HN1 : Hid ((Value.slice p1 (goodRs D1).length q1).ownBlock ≠ some P) := Lib.hid (fun e => by have h1 := (HV1.out.1.lt _ e).2; omega)
          replace HV1 := Lib.hid (HV1.out.below hbl)
          have HN2 : Hid ((Value.slice p2 (goodRs D2).length q2).ownBlock ≠ some P) := Lib.hid (fun e => by have h1 := (HV2.out.1.lt _ e).2; omega)
          replace HV2 := Lib.hid (HV2.out.below hbl)
          replace HX := Lib.hid (HX.out.below hbl)
          replace HZ := Lib.hid (HZ.out.below hbl)
          replace HB := Lib.hid (chain HB.out hbl)
          replace HSZ := Lib.hid (Nat.le_trans HSZ.out hbl.size)
          clear hbl
          go_wp2_with fail
          try rw [hWa]
          try rw [hP]
          refine hK.out _ _ (HSI.out _ HX.out) (fun hHeldaa2 => ?_)
          clear hK K hWa hP
          try simp only [Act.put, List.getElem_toArray, List.getElem_cons_zero, List.getElem_cons_succ, List.setIfInBounds_toArray, List.set_cons_zero, List.set_cons_succ]
          refine wpAnyH_ready (rs := [14]) (by kernel_rfl) (by simp) ?_
          refine AllReadyH.cons rfl (fun K hK => ?_) AllReadyH.nil
          go_simp
          refine (HR3 _ HB.out).out.mono ?_
          rintro e wb3 ⟨v3, rfl, hr3, hb⟩
          obtain ⟨p3, q3, e3⟩ := own_slice (show wb3.ownsRow _ _ _ v3 _ _ from hr3.1)
          subst e3
          have HV3 : Hid (RowR wb3 (w.heap.size + 2) (.slice p3 (goodRs D3).length q3) (goodRs D3)) := Lib.hid ⟨own_lower8 hr3.1 (by have := HSZ.out; have := HG.out; omega), hr3.2⟩
          have HN3 : Hid ((Value.slice p3 (goodRs D3).length q3).ownBlock ≠ some P) := Lib.hid (fun e => by have h1 := (hr3.1.lt _ e).1; have h2 := HC.out.lt; omega)
          have HD13 : Hid (∀ g, (Value.slice p1 (goodRs D1).length q1).ownBlock = some g → (Value.slice p3 (goodRs D3).length q3).ownBlock ≠ some g) := Lib.hid (fun g h1 h2 => by have h3 := (HV1.out.1.lt _ h1).2; have h4 := (hr3.1.lt _ h2).1; omega)
          replace HV1 := Lib.hid (HV1.out.below hb)
          replace HV2 := Lib.hid (HV2.out.below hb)
          replace HC := Lib.hid (HC.out.below hb)
          replace HX := Lib.hid (HX.out.below hb)
          replace HZ := Lib.hid (HZ.out.below hb)
          replace HB := Lib.hid (chain HB.out hb)
          replace HSZ := Lib.hid (Nat.le_trans HSZ.out hb.size)
          clear hr3 hb
          go_wp2_with fail
          refine hK.out _ _ (HSI.out _ HX.out) (fun hHeldb3 => ?_)
          clear hK K
          try simp only [Act.put, List.getElem_toArray, List.getElem_cons_zero, List.getElem_cons_succ, List.setIfInBounds_toArray, List.set_cons_zero, List.set_cons_succ]
          refine wpAnyH_take (i := 15) (v := ?_) rfl (by kernel_rfl) (by kernel_rfl) (by kernel_rfl) (fun _ _ _ h => h) (Or.inl ⟨by rfl, ?_⟩) (by assumption) ?_
          rotate_left
          · (intro w hSw; go_simp; try (with_reducible rfl))
          try simp only [Act.put, List.getElem_toArray, List.getElem_cons_zero, List.getElem_cons_succ, List.setIfInBounds_toArray, List.set_cons_zero, List.set_cons_succ]
          refine wpAnyH_ready (rs := [17]) (by kernel_rfl) (by simp) ?_
          refine ready_one rfl rfl (fun K hK => ?_)
          refine wp_store_msg HC rfl _ _ rfl rfl (vs := [.int .i64 (i9 : Nat), .int .i64 (f9 : Nat), .slice none 0 0, .slice p1 (goodRs D1).length q1, .slice p2 (goodRs D2).length q2, .slice p3 (goodRs D3).length q3]) rfl rfl rfl (fun V HV HVC => ?_)
          refine hK.out _ _ (HSI.out _ (by rw [HV.out]; exact HX.out.apart (by have := HGP.out; omega) _)) (fun hHeldz => ?_)
          clear hK K
          try simp only [Act.put, List.getElem_toArray, List.getElem_cons_zero, List.getElem_cons_succ]
          refine wpAnyH_done (by kernel_rfl) ?_ _
          refine NoPanic.normal ?_
          go_wp2_with fail
          have hne : ∀ {v : Value} {D : List Rec}, RowR _ (w.heap.size + 2) v D → v.ownBlock ≠ some P → RowR V (w.heap.size + 2) v D := fun {v D} hx hn => by rw [HV.out]; exact ⟨own_kept hx.1 (fun g hg => setCells_block _ _ _ _ _ (fun e => hn (by rw [hg, e]))), hx.2⟩
          have HGS : Hid (GSt w P (i9 : Nat) (f9 : Nat) (.slice none 0 0) (.slice p1 (goodRs D1).length q1) (.slice p2 (goodRs D2).length q2) (.slice p3 (goodRs D3).length q3) [] (goodRs D1) (goodRs D2) (goodRs D3) V) := Lib.hid ⟨HVC.out, RowQ.nil _ _, hne HV1.out HN1.out, hne HV2.out HN2.out, hne HV3.out HN3.out, by simp [Value.ownBlock], HN1.out, HN2.out, HN3.out, by rw [HV.out]; exact below_cells (by have := HGP.out; have := HG.out; omega) _ _ _ HB.out, by have := HGP.out; have := HG.out; omega⟩
          have HXV : Hid (MBox V G (.int .i64 id) (.int .i64 fl) (.slice aq NQ cq) (.slice a1 n1 c1) (.slice a2 n2 c2) (.slice a3 n3 c3)) := Lib.hid (by rw [HV.out]; exact HX.out.apart (by have := HGP.out; omega) _)
          have HZV : Hid (CellsAt V (G + 1) zM) := Lib.hid (by rw [HV.out]; exact HZ.out.apart (by have := HGP.out; omega) _)
          go_meet
          case rel => exact ⟨P, _, _, _, rfl, HGS, HXV, HZV, HD12, HD13⟩
      · obtain ⟨P, hP⟩ : ∃ P, wc1.heap.size = P := ⟨_, rfl⟩
        obtain ⟨Wa, hWa⟩ : ∃ Wa, wc1.alloc (.cells #[.int .i64 0, .int .i64 0, .slice none 0 0, .slice none 0 0, .slice none 0 0, .slice none 0 0] 25) = Wa := ⟨_, rfl⟩
        have hbl : Below wc1.heap.size wc1 Wa := by rw [← hWa]; exact (Below.refl _ _).alloc (Nat.le_refl _) _
        have HC : Hid (CellsAt Wa P zM) := Lib.hid (by rw [← hWa, ← hP]; exact CellsAt.new wc1 _ zM)
        have HGP : Hid (G + 1 < P) := Lib.hid (by have := HSZ.out; omega)
        have HN1 : Hid ((Value.slice p1 (goodRs D1).length q1).ownBlock ≠ some P) := Lib.hid (fun e => by have h1 := (HV1.out.1.lt _ e).2; omega)
        replace HV1 := Lib.hid (HV1.out.below hbl)
        replace HX := Lib.hid (HX.out.below hbl)
        replace HZ := Lib.hid (HZ.out.below hbl)
        replace HB := Lib.hid (chain HB.out hbl)
        replace HSZ := Lib.hid (Nat.le_trans HSZ.out hbl.size)
        clear hbl
        go_wp2_with fail
        try rw [hWa]
        try rw [hP]
        refine hK.out _ _ (HSI.out _ HX.out) (fun hHeldaa1 => ?_)
        clear hK K hWa hP
        try simp only [Act.put, List.getElem_toArray, List.getElem_cons_zero, List.getElem_cons_succ, List.setIfInBounds_toArray, List.set_cons_zero, List.set_cons_succ]
        refine wpAnyH_ready (rs := [11]) (by kernel_rfl) (by simp) ?_
        refine AllReadyH.cons rfl (fun K hK => ?_) AllReadyH.nil
        go_simp
        refine (HR2 _ HB.out).out.mono ?_
        rintro e wb2 ⟨v2, rfl, hr2, hb⟩
        obtain ⟨p2, q2, e2⟩ := own_slice (show wb2.ownsRow _ _ _ v2 _ _ from hr2.1)
        subst e2
        have HV2 : Hid (RowR wb2 (w.heap.size + 2) (.slice p2 (goodRs D2).length q2) (goodRs D2)) := Lib.hid ⟨own_lower8 hr2.1 (by have := HSZ.out; have := HG.out; omega), hr2.2⟩
        have HN2 : Hid ((Value.slice p2 (goodRs D2).length q2).ownBlock ≠ some P) := Lib.hid (fun e => by have h1 := (hr2.1.lt _ e).1; have h2 := HC.out.lt; omega)
        have HD12 : Hid (∀ g, (Value.slice p1 (goodRs D1).length q1).ownBlock = some g → (Value.slice p2 (goodRs D2).length q2).ownBlock ≠ some g) := Lib.hid (fun g h1 h2 => by have h3 := (HV1.out.1.lt _ h1).2; have h4 := (hr2.1.lt _ h2).1; omega)
        replace HV1 := Lib.hid (HV1.out.below hb)
        replace HC := Lib.hid (HC.out.below hb)
        replace HX := Lib.hid (HX.out.below hb)
        replace HZ := Lib.hid (HZ.out.below hb)
        replace HB := Lib.hid (chain HB.out hb)
        replace HSZ := Lib.hid (Nat.le_trans HSZ.out hb.size)
        clear hr2 hb
        go_wp2_with fail
        refine hK.out _ _ (HSI.out _ HX.out) (fun hHeldb2 => ?_)
        clear hK K
        try simp only [Act.put, List.getElem_toArray, List.getElem_cons_zero, List.getElem_cons_succ, List.setIfInBounds_toArray, List.set_cons_zero, List.set_cons_succ]
        refine wpAnyH_ready (rs := [14]) (by kernel_rfl) (by simp) ?_
        refine AllReadyH.cons rfl (fun K hK => ?_) AllReadyH.nil
        go_simp
        refine (HR3 _ HB.out).out.mono ?_
        rintro e wb3 ⟨v3, rfl, hr3, hb⟩
        obtain ⟨p3, q3, e3⟩ := own_slice (show wb3.ownsRow _ _ _ v3 _ _ from hr3.1)
        subst e3
        have HV3 : Hid (RowR wb3 (w.heap.size + 2) (.slice p3 (goodRs D3).length q3) (goodRs D3)) := Lib.hid ⟨own_lower8 hr3.1 (by have := HSZ.out; have := HG.out; omega), hr3.2⟩
        have HN3 : Hid ((Value.slice p3 (goodRs D3).length q3).ownBlock ≠ some P) := Lib.hid (fun e => by have h1 := (hr3.1.lt _ e).1; have h2 := HC.out.lt; omega)
        have HD13 : Hid (∀ g, (Value.slice p1 (goodRs D1).length q1).ownBlock = some g → (Value.slice p3 (goodRs D3).length q3).ownBlock ≠ some g) := Lib.hid (fun g h1 h2 => by have h3 := (HV1.out.1.lt _ h1).2; have h4 := (hr3.1.lt _ h2).1; omega)
        replace HV1 := Lib.hid (HV1.out.below hb)
        replace HV2 := Lib.hid (HV2.out.below hb)
        replace HC := Lib.hid (HC.out.below hb)
        replace HX := Lib.hid (HX.out.below hb)
        replace HZ := Lib.hid (HZ.out.below hb)
        replace HB := Lib.hid (chain HB.out hb)
        replace HSZ := Lib.hid (Nat.le_trans HSZ.out hb.size)
        clear hr3 hb
        go_wp2_with fail
        refine hK.out _ _ (HSI.out _ HX.out) (fun hHeldb3 => ?_)
        clear hK K
        try simp only [Act.put, List.getElem_toArray, List.getElem_cons_zero, List.getElem_cons_succ, List.setIfInBounds_toArray, List.set_cons_zero, List.set_cons_succ]
        refine wpAnyH_take (i := 15) (v := ?_) rfl (by kernel_rfl) (by kernel_rfl) (by kernel_rfl) (fun _ _ _ h => h) (Or.inl ⟨by rfl, ?_⟩) (by assumption) ?_
        rotate_left
        · (intro w hSw; go_simp; try (with_reducible rfl))
        try simp only [Act.put, List.getElem_toArray, List.getElem_cons_zero, List.getElem_cons_succ, List.setIfInBounds_toArray, List.set_cons_zero, List.set_cons_succ]
        refine wpAnyH_ready (rs := [17]) (by kernel_rfl) (by simp) ?_
        refine ready_one rfl rfl (fun K hK => ?_)
        refine wp_store_msg HC rfl _ _ rfl rfl (vs := [.int .i64 (i9 : Nat), .int .i64 (f9 : Nat), .slice none 0 0, .slice p1 (goodRs D1).length q1, .slice p2 (goodRs D2).length q2, .slice p3 (goodRs D3).length q3]) rfl rfl rfl (fun V HV HVC => ?_)
        refine hK.out _ _ (HSI.out _ (by rw [HV.out]; exact HX.out.apart (by have := HGP.out; omega) _)) (fun hHeldz => ?_)
        clear hK K
        try simp only [Act.put, List.getElem_toArray, List.getElem_cons_zero, List.getElem_cons_succ]
        refine wpAnyH_done (by kernel_rfl) ?_ _
        refine NoPanic.normal ?_
        go_wp2_with fail
        have hne : ∀ {v : Value} {D : List Rec}, RowR _ (w.heap.size + 2) v D → v.ownBlock ≠ some P → RowR V (w.heap.size + 2) v D := fun {v D} hx hn => by rw [HV.out]; exact ⟨own_kept hx.1 (fun g hg => setCells_block _ _ _ _ _ (fun e => hn (by rw [hg, e]))), hx.2⟩
        have HGS : Hid (GSt w P (i9 : Nat) (f9 : Nat) (.slice none 0 0) (.slice p1 (goodRs D1).length q1) (.slice p2 (goodRs D2).length q2) (.slice p3 (goodRs D3).length q3) [] (goodRs D1) (goodRs D2) (goodRs D3) V) := Lib.hid ⟨HVC.out, RowQ.nil _ _, hne HV1.out HN1.out, hne HV2.out HN2.out, hne HV3.out HN3.out, by simp [Value.ownBlock], HN1.out, HN2.out, HN3.out, by rw [HV.out]; exact below_cells (by have := HGP.out; have := HG.out; omega) _ _ _ HB.out, by have := HGP.out; have := HG.out; omega⟩
        have HXV : Hid (MBox V G (.int .i64 id) (.int .i64 fl) (.slice aq NQ cq) (.slice a1 n1 c1) (.slice a2 n2 c2) (.slice a3 n3 c3)) := Lib.hid (by rw [HV.out]; exact HX.out.apart (by have := HGP.out; omega) _)
        have HZV : Hid (CellsAt V (G + 1) zM) := Lib.hid (by rw [HV.out]; exact HZ.out.apart (by have := HGP.out; omega) _)
        go_meet
        case rel => exact ⟨P, _, _, _, rfl, HGS, HXV, HZV, HD12, HD13⟩
    · obtain ⟨P, hP⟩ : ∃ P, U.heap.size = P := ⟨_, rfl⟩
      obtain ⟨Wa, hWa⟩ : ∃ Wa, U.alloc (.cells #[.int .i64 0, .int .i64 0, .slice none 0 0, .slice none 0 0, .slice none 0 0, .slice none 0 0] 25) = Wa := ⟨_, rfl⟩
      have hbl : Below U.heap.size U Wa := by rw [← hWa]; exact (Below.refl _ _).alloc (Nat.le_refl _) _
      have HC : Hid (CellsAt Wa P zM) := Lib.hid (by rw [← hWa, ← hP]; exact CellsAt.new U _ zM)
      have HGP : Hid (G + 1 < P) := Lib.hid (by have := HSZ.out; omega)
      replace HX := Lib.hid (HX.out.below hbl)
      replace HZ := Lib.hid (HZ.out.below hbl)
      replace HB := Lib.hid (chain HB.out hbl)
      replace HSZ := Lib.hid (Nat.le_trans HSZ.out hbl.size)
      clear hbl
      go_wp2_with fail
      try rw [hWa]
      try rw [hP]
      refine hK.out _ _ (HSI.out _ HX.out) (fun hHeldaa0 => ?_)
      clear hK K hWa hP
      try simp only [Act.put, List.getElem_toArray, List.getElem_cons_zero, List.getElem_cons_succ, List.setIfInBounds_toArray, List.set_cons_zero, List.set_cons_succ]
      refine wpAnyH_ready (rs := [8]) (by kernel_rfl) (by simp) ?_
      refine AllReadyH.cons rfl (fun K hK => ?_) AllReadyH.nil
      go_simp
      refine (HR1 _ HB.out).out.mono ?_
      rintro e wb1 ⟨v1, rfl, hr1, hb⟩
      obtain ⟨p1, q1, e1⟩ := own_slice (show wb1.ownsRow _ _ _ v1 _ _ from hr1.1)
      subst e1
      have HV1 : Hid (RowR wb1 (w.heap.size + 2) (.slice p1 (goodRs D1).length q1) (goodRs D1)) := Lib.hid ⟨own_lower8 hr1.1 (by have := HSZ.out; have := HG.out; omega), hr1.2⟩
      have HN1 : Hid ((Value.slice p1 (goodRs D1).length q1).ownBlock ≠ some P) := Lib.hid (fun e => by have h1 := (hr1.1.lt _ e).1; have h2 := HC.out.lt; omega)
      replace HC := Lib.hid (HC.out.below hb)
      replace HX := Lib.hid (HX.out.below hb)
      replace HZ := Lib.hid (HZ.out.below hb)
      replace HB := Lib.hid (chain HB.out hb)
      replace HSZ := Lib.hid (Nat.le_trans HSZ.out hb.size)
      clear hr1 hb
      go_wp2_with fail
      refine hK.out _ _ (HSI.out _ HX.out) (fun hHeldb1 => ?_)
      clear hK K
      try simp only [Act.put, List.getElem_toArray, List.getElem_cons_zero, List.getElem_cons_succ, List.setIfInBounds_toArray, List.set_cons_zero, List.set_cons_succ]
      refine wpAnyH_ready (rs := [11]) (by kernel_rfl) (by simp) ?_
      refine AllReadyH.cons rfl (fun K hK => ?_) AllReadyH.nil
      go_simp
      refine (HR2 _ HB.out).out.mono ?_
      rintro e wb2 ⟨v2, rfl, hr2, hb⟩
      obtain ⟨p2, q2, e2⟩ := own_slice (show wb2.ownsRow _ _ _ v2 _ _ from hr2.1)
      subst e2
      have HV2 : Hid (RowR wb2 (w.heap.size + 2) (.slice p2 (goodRs D2).length q2) (goodRs D2)) := Lib.hid ⟨own_lower8 hr2.1 (by have := HSZ.out; have := HG.out; omega), hr2.2⟩
      have HN2 : Hid ((Value.slice p2 (goodRs D2).length q2).ownBlock ≠ some P) := Lib.hid (fun e => by have h1 := (hr2.1.lt _ e).1; have h2 := HC.out.lt; omega)
      have HD12 : Hid (∀ g, (Value.slice p1 (goodRs D1).length q1).ownBlock = some g → (Value.slice p2 (goodRs D2).length q2).ownBlock ≠ some g) := Lib.hid (fun g h1 h2 => by have h3 := (HV1.out.1.lt _ h1).2; have h4 := (hr2.1.lt _ h2).1; omega)
      replace HV1 := Lib.hid (HV1.out.below hb)
      replace HC := Lib.hid (HC.out.below hb)
      replace HX := Lib.hid (HX.out.below hb)
      replace HZ := Lib.hid (HZ.out.below hb)
      replace HB := Lib.hid (chain HB.out hb)
      replace HSZ := Lib.hid (Nat.le_trans HSZ.out hb.size)
      clear hr2 hb
      go_wp2_with fail
      refine hK.out _ _ (HSI.out _ HX.out) (fun hHeldb2 => ?_)
      clear hK K
      try simp only [Act.put, List.getElem_toArray, List.getElem_cons_zero, List.getElem_cons_succ, List.setIfInBounds_toArray, List.set_cons_zero, List.set_cons_succ]
      refine wpAnyH_ready (rs := [14]) (by kernel_rfl) (by simp) ?_
      refine AllReadyH.cons rfl (fun K hK => ?_) AllReadyH.nil
      go_simp
      refine (HR3 _ HB.out).out.mono ?_
      rintro e wb3 ⟨v3, rfl, hr3, hb⟩
      obtain ⟨p3, q3, e3⟩ := own_slice (show wb3.ownsRow _ _ _ v3 _ _ from hr3.1)
      subst e3
      have HV3 : Hid (RowR wb3 (w.heap.size + 2) (.slice p3 (goodRs D3).length q3) (goodRs D3)) := Lib.hid ⟨own_lower8 hr3.1 (by have := HSZ.out; have := HG.out; omega), hr3.2⟩
      have HN3 : Hid ((Value.slice p3 (goodRs D3).length q3).ownBlock ≠ some P) := Lib.hid (fun e => by have h1 := (hr3.1.lt _ e).1; have h2 := HC.out.lt; omega)
      have HD13 : Hid (∀ g, (Value.slice p1 (goodRs D1).length q1).ownBlock = some g → (Value.slice p3 (goodRs D3).length q3).ownBlock ≠ some g) := Lib.hid (fun g h1 h2 => by have h3 := (HV1.out.1.lt _ h1).2; have h4 := (hr3.1.lt _ h2).1; omega)
      replace HV1 := Lib.hid (HV1.out.below hb)
      replace HV2 := Lib.hid (HV2.out.below hb)
      replace HC := Lib.hid (HC.out.below hb)
      replace HX := Lib.hid (HX.out.below hb)
      replace HZ := Lib.hid (HZ.out.below hb)
      replace HB := Lib.hid (chain HB.out hb)
      replace HSZ := Lib.hid (Nat.le_trans HSZ.out hb.size)
      clear hr3 hb
      go_wp2_with fail
      refine hK.out _ _ (HSI.out _ HX.out) (fun hHeldb3 => ?_)
      clear hK K
      try simp only [Act.put, List.getElem_toArray, List.getElem_cons_zero, List.getElem_cons_succ, List.setIfInBounds_toArray, List.set_cons_zero, List.set_cons_succ]
      refine wpAnyH_take (i := 15) (v := ?_) rfl (by kernel_rfl) (by kernel_rfl) (by kernel_rfl) (fun _ _ _ h => h) (Or.inl ⟨by rfl, ?_⟩) (by assumption) ?_
      rotate_left
      · (intro w hSw; go_simp; try (with_reducible rfl))
      try simp only [Act.put, List.getElem_toArray, List.getElem_cons_zero, List.getElem_cons_succ, List.setIfInBounds_toArray, List.set_cons_zero, List.set_cons_succ]
      refine wpAnyH_ready (rs := [17]) (by kernel_rfl) (by simp) ?_
      refine ready_one rfl rfl (fun K hK => ?_)
      refine wp_store_msg HC rfl _ _ rfl rfl (vs := [.int .i64 (i9 : Nat), .int .i64 (f9 : Nat), .slice none 0 0, .slice p1 (goodRs D1).length q1, .slice p2 (goodRs D2).length q2, .slice p3 (goodRs D3).length q3]) rfl rfl rfl (fun V HV HVC => ?_)
      refine hK.out _ _ (HSI.out _ (by rw [HV.out]; exact HX.out.apart (by have := HGP.out; omega) _)) (fun hHeldz => ?_)
      clear hK K
      try simp only [Act.put, List.getElem_toArray, List.getElem_cons_zero, List.getElem_cons_succ]
      refine wpAnyH_done (by kernel_rfl) ?_ _
      refine NoPanic.normal ?_
      go_wp2_with fail
      have hne : ∀ {v : Value} {D : List Rec}, RowR _ (w.heap.size + 2) v D → v.ownBlock ≠ some P → RowR V (w.heap.size + 2) v D := fun {v D} hx hn => by rw [HV.out]; exact ⟨own_kept hx.1 (fun g hg => setCells_block _ _ _ _ _ (fun e => hn (by rw [hg, e]))), hx.2⟩
      have HGS : Hid (GSt w P (i9 : Nat) (f9 : Nat) (.slice none 0 0) (.slice p1 (goodRs D1).length q1) (.slice p2 (goodRs D2).length q2) (.slice p3 (goodRs D3).length q3) [] (goodRs D1) (goodRs D2) (goodRs D3) V) := Lib.hid ⟨HVC.out, RowQ.nil _ _, hne HV1.out HN1.out, hne HV2.out HN2.out, hne HV3.out HN3.out, by simp [Value.ownBlock], HN1.out, HN2.out, HN3.out, by rw [HV.out]; exact below_cells (by have := HGP.out; have := HG.out; omega) _ _ _ HB.out, by have := HGP.out; have := HG.out; omega⟩
      have HXV : Hid (MBox V G (.int .i64 id) (.int .i64 fl) (.slice aq NQ cq) (.slice a1 n1 c1) (.slice a2 n2 c2) (.slice a3 n3 c3)) := Lib.hid (by rw [HV.out]; exact HX.out.apart (by have := HGP.out; omega) _)
      have HZV : Hid (CellsAt V (G + 1) zM) := Lib.hid (by rw [HV.out]; exact HZ.out.apart (by have := HGP.out; omega) _)
      go_meet
      case rel => exact ⟨P, _, _, _, rfl, HGS, HXV, HZV, HD12, HD13⟩
  case rest =>
    obtain ⟨P, v1, v2, v3, rfl, HGS0, HX0, HZ0, HD12, HD13⟩ := hcut
    clear HX HZ HB HSZ HR1 HR2 HR3 hmi hmf C0 C1 C3 C4 C5 HSI
    go_wp2_with fail
    go_loopw [4] (fun s4 wr => ∃ (k : Nat) (vq : Value), k ≤ NQ ∧ k ≤ 3 ∧ s4 = .int .i64 (k : Int) ∧ Hid (GSt w P (i9 : Nat) (f9 : Nat) vq v1 v2 v3 ((qs.take k).map goodQ) (goodRs D1) (goodRs D2) (goodRs D3) wr) ∧ Hid (MBox wr G (.int .i64 id) (.int .i64 fl) (.slice aq NQ cq) (.slice a1 n1 c1) (.slice a2 n2 c2) (.slice a3 n3 c3)) ∧ Hid (CellsAt wr (G + 1) zM)) (fun i _ => 3 - (intOf i).toNat)
    case atStart => exact ⟨0, _, Nat.zero_le _, Nat.zero_le _, rfl, HGS0, HX0, HZ0⟩
    case round =>
      clear HGS0 HX0 HZ0
      obtain ⟨k, vq, hk, hk3, rfl, HGS, HX, HZ⟩ := hrel
      have x2 := HX.out.c2
      by_cases hkN : k < NQ
      · have hd : decide ((k : Int) < (NQ : Int)) = true := decide_eq_true (by omega)
        have hdn : decide (k < NQ) = true := decide_eq_true hkN
        by_cases hk4 : k < 3
        · have he : decide ((k : Int) < 3) = true := decide_eq_true (by omega)
          have hen : decide (k < 3) = true := decide_eq_true hk4
          have hkD : k < qs.length := by rw [HNQ.out]; exact hkN
          obtain ⟨g, o, ha, hg, hrg⟩ := (HMQ.out.below HGS.out.bel).range k hkD
          subst ha
          obtain ⟨kk, hkk⟩ : ∃ kk, ((qs.take k).map goodQ).length = kk := ⟨_, rfl⟩
          obtain ⟨xq, yq, hxq⟩ := own_slice (show wr.ownsRow _ _ _ vq _ _ from HGS.out.rq)
          rw [hkk] at hxq
          subst hxq
          have HLE : Hid (((qs.take k).map goodQ).length + [(⟨#[]⟩ : ByteArray)].length ≤ 100000) := Lib.hid (by rw [hkk, ← hkk, List.length_map, List.length_take]; simp only [List.length_cons, List.length_nil]; omega)
          have HNX : Hid ((qs.take (k + 1)).map goodQ = (qs.take k).map goodQ ++ [goodQ qs[k]]) := Lib.hid (by
            rw [List.take_add_one, List.getElem?_eq_getElem hkD, List.map_append]
            rfl)
          have HGN := fun V => Lib.hid (refGoodN_any (qs[k]).name V (HKQ.out _ (List.getElem_mem hkD)))
          have hmt : bits .and .i64 (qs[k]).ty 65535 = ((maskN (qs[k]).ty 65535 : Nat) : Int) := (mask_is (qs[k]).ty 65535 (by decide)).1
          have hmc : bits .and .i64 (qs[k]).cl 65535 = ((maskN (qs[k]).cl 65535 : Nat) : Int) := (mask_is (qs[k]).cl 65535 (by decide)).1
          generalize qs[k] = qq at *
          obtain ⟨nm, ty, cl⟩ := qq
          simp only at HGN hmt hmc
          have egq : goodQ ⟨nm, ty, cl⟩ = ⟨goodN nm, (maskN ty 65535 : Nat), (maskN cl 65535 : Nat)⟩ := rfl
          rw [egq] at HNX
          generalize goodN nm = gn at *
          generalize maskN ty 65535 = t9 at *
          generalize maskN cl 65535 = c9 at *
          have HONE : Hid (1 = [(⟨gn, (t9 : Nat), (c9 : Nat)⟩ : Qu)].length) := Lib.hid rfl
          have HLE2 : Hid (((qs.take k).map goodQ).length + [(⟨gn, (t9 : Nat), (c9 : Nat)⟩ : Qu)].length ≤ 100000) := HLE
          replace HLE := HLE2
          have hb1 : (0 : Int) ≤ (k : Int) := by omega
          have hb2 : (k : Int) < (NQ : Int) := by omega
          have HRQ := Lib.hid hrg
          have HQZ : Hid (CellsAt (wr.alloc (.cells zQ 51)) wr.heap.size [.string ⟨#[]⟩, .int .i64 0, .int .i64 0]) := Lib.hid (CellsAt.new wr _ [.string ⟨#[]⟩, .int .i64 0, .int .i64 0])
          clear hkk egq HLE2 hrg
          go_upto_region 6 with (first | refine load_quG HRQ _ rfl rfl rfl ?_ | (have HQZ2 := HQZ; refine store_qu HQZ2 _ _ rfl rfl rfl rfl (fun V1 HV1 HQV => ?_); clear HQZ))
          have hbV : Below wr.heap.size wr V1 := by rw [HV1.out]; exact below_cells (Nat.le_refl _) _ _ _ ((Below.refl _ _).alloc (Nat.le_refl _) _)
          have HGQ : Hid (wr.heap.size ≠ P ∧ (Value.slice xq kk yq).ownBlock ≠ some wr.heap.size) := Lib.hid ⟨by have := HGS.out.cells.lt; omega, fun e => by have := (HGS.out.rq.lt _ e).2; omega⟩
          replace HGS := Lib.hid ((HGS.out.below hbV).below (Below.refl _ _).drew)
          replace HX := Lib.hid ((HX.out.below hbV).below (Below.refl _ _).drew)
          replace HZ := Lib.hid ((HZ.out.below hbV).below (Below.refl _ _).drew)
          replace HQV := Lib.hid (HQV.out.below (Below.refl _ _).drew)
          clear hbV HV1 HQZ2 HRQ x2
          obtain ⟨GQ, hGQ⟩ : ∃ GQ, wr.heap.size = GQ := ⟨_, rfl⟩
          rw [hGQ] at HGQ HQV ⊢
          clear hGQ
          obtain ⟨S, hS⟩ : ∃ S : World → Prop, (fun V : World => V.cell? ⟨GQ, 0, none⟩ = some (.string nm) ∧ V.cell? ⟨GQ, 1, none⟩ = some (.int .i64 ty) ∧ V.cell? ⟨GQ, 2, none⟩ = some (.int .i64 cl)) = S := ⟨_, rfl⟩
          have E0 : Hid (∀ V, S V → V.cell? ⟨GQ, 0, none⟩ = some (.string nm)) := Lib.hid (fun V h => by rw [← hS] at h; exact h.1)
          have E1 : Hid (∀ V, S V → V.cell? ⟨GQ, 1, none⟩ = some (.int .i64 ty)) := Lib.hid (fun V h => by rw [← hS] at h; exact h.2.1)
          have E2 : Hid (∀ V, S V → V.cell? ⟨GQ, 2, none⟩ = some (.int .i64 cl)) := Lib.hid (fun V h => by rw [← hS] at h; exact h.2.2)
          have HSQ : Hid (∀ V, CellsAt V GQ (quL ⟨nm, ty, cl⟩) → S V) := Lib.hid (fun V h => by rw [← hS]; exact ⟨h.cell 0 _ rfl, h.cell 1 _ rfl, h.cell 2 _ rfl⟩)
          clear hS
          refine wp_region_noPanic ?_
          refine wp_region_held_drew (S := S) (by kernel_rfl) (HSQ.out _ HQV.out) (fun hHeld => ?_)
          obtain ⟨U, hU⟩ : ∃ U, V1.drew = U := ⟨_, rfl⟩
          rw [hU] at HX HZ HGS HQV hHeld ⊢
          clear hU
          refine wpAnyH_take (i := 0) (v := ?_) rfl (by kernel_rfl) (by kernel_rfl) (by kernel_rfl) (fun _ _ _ h => h) (Or.inl ⟨by rfl, ?_⟩) (by assumption) ?_
          rotate_left
          · (intro w hSw; go_simp; try (with_reducible rfl))
          try simp only [Act.put, List.getElem_toArray, List.getElem_cons_zero, List.setIfInBounds_toArray, List.set_cons_zero, List.set_cons_succ]
          refine wpAnyH_take (i := 2) (v := ?_) rfl (by kernel_rfl) (by kernel_rfl) (by kernel_rfl) (fun _ _ _ h => h) (Or.inl ⟨by rfl, ?_⟩) (by assumption) ?_
          rotate_left
          · (intro w hSw; go_simp; try (with_reducible rfl))
          try simp only [Act.put, List.getElem_toArray, List.getElem_cons_zero, List.getElem_cons_succ, List.setIfInBounds_toArray, List.set_cons_zero, List.set_cons_succ]
          refine wpAnyH_take (i := 3) (v := ?_) rfl (by kernel_rfl) (by kernel_rfl) (by kernel_rfl) (fun _ _ _ h => h) (Or.inl ⟨by rfl, ?_⟩) (by assumption) ?_
          rotate_left
          · (intro w hSw; have hc0 := E0.out w hSw; go_simp; try (with_reducible rfl))
          try simp only [Act.put, List.getElem_toArray, List.getElem_cons_zero, List.getElem_cons_succ, List.setIfInBounds_toArray, List.set_cons_zero, List.set_cons_succ]
          refine wpAnyH_take (i := 5) (v := ?_) rfl (by kernel_rfl) (by kernel_rfl) (by kernel_rfl) (fun _ _ _ h => h) (Or.inl ⟨by rfl, ?_⟩) (by assumption) ?_
          rotate_left
          · (intro w hSw; go_simp; try (with_reducible rfl))
          try simp only [Act.put, List.getElem_toArray, List.getElem_cons_zero, List.getElem_cons_succ, List.setIfInBounds_toArray, List.set_cons_zero, List.set_cons_succ]
          refine wpAnyH_take (i := 6) (v := ?_) rfl (by kernel_rfl) (by kernel_rfl) (by kernel_rfl) (fun _ _ _ h => h) (Or.inl ⟨by rfl, ?_⟩) (by assumption) ?_
          rotate_left
          · (intro w hSw; have hc0 := E1.out w hSw; go_simp; try (with_reducible rfl))
          try simp only [Act.put, List.getElem_toArray, List.getElem_cons_zero, List.getElem_cons_succ, List.setIfInBounds_toArray, List.set_cons_zero, List.set_cons_succ]
          refine wpAnyH_take (i := 7) (v := ?_) rfl (by kernel_rfl) (by kernel_rfl) (by kernel_rfl) (fun _ _ _ h => h) (Or.inl ⟨by rfl, ?_⟩) (by assumption) ?_
          rotate_left
          · (intro w hSw; go_simp; try (with_reducible rfl))
          try simp only [Act.put, List.getElem_toArray, List.getElem_cons_zero, List.getElem_cons_succ, List.setIfInBounds_toArray, List.set_cons_zero, List.set_cons_succ]
          refine wpAnyH_take (i := 8) (v := ?_) rfl (by kernel_rfl) (by kernel_rfl) (by kernel_rfl) (fun _ _ _ h => h) (Or.inl ⟨by rfl, ?_⟩) (by assumption) ?_
          rotate_left
          · (intro w hSw; go_simp; try (with_reducible rfl))
          try simp only [Act.put, List.getElem_toArray, List.getElem_cons_zero, List.getElem_cons_succ, List.setIfInBounds_toArray, List.set_cons_zero, List.set_cons_succ]
          refine wpAnyH_take (i := 9) (v := ?_) rfl (by kernel_rfl) (by kernel_rfl) (by kernel_rfl) (fun _ _ _ h => h) (Or.inl ⟨by rfl, ?_⟩) (by assumption) ?_
          rotate_left
          · (intro w hSw; have hc0 := E2.out w hSw; go_simp; try (with_reducible rfl))
          try simp only [Act.put, List.getElem_toArray, List.getElem_cons_zero, List.getElem_cons_succ, List.setIfInBounds_toArray, List.set_cons_zero, List.set_cons_succ]
          refine wpAnyH_take (i := 10) (v := ?_) rfl (by kernel_rfl) (by kernel_rfl) (by kernel_rfl) (fun _ _ _ h => h) (Or.inl ⟨by rfl, ?_⟩) (by assumption) ?_
          rotate_left
          · (intro w hSw; go_simp; try (with_reducible rfl))
          try simp only [Act.put, List.getElem_toArray, List.getElem_cons_zero, List.getElem_cons_succ, List.setIfInBounds_toArray, List.set_cons_zero, List.set_cons_succ]
    
          refine wpAnyH_ready (rs := [1, 4]) (by kernel_rfl) (by simp) ?_
          refine AllReadyH.cons rfl (fun K hK => ?_) (AllReadyH.cons rfl (fun K hK => ?_) AllReadyH.nil)
          · have hcp : U.cell? ⟨P, 2, none⟩ = some (.slice xq kk yq) := HGS.out.cells.cell 2 _ rfl
            go_wp2_with fail
            refine hK.out _ _ (HSQ.out _ HQV.out) (fun hHeldl => ?_)
            clear hK K hcp
            try simp only [Act.put, List.getElem_toArray, List.getElem_cons_zero, List.getElem_cons_succ, List.setIfInBounds_toArray, List.set_cons_zero, List.set_cons_succ]
            refine wpAnyH_ready (rs := [4]) (by kernel_rfl) (by simp) ?_
            refine AllReadyH.cons rfl (fun K hK => ?_) AllReadyH.nil
            go_simp
            refine (HGN _).out.mono ?_
            rintro e wg ⟨rfl, hb⟩
            replace HGS := Lib.hid (HGS.out.below hb)
            replace HX := Lib.hid (HX.out.below hb)
            replace HZ := Lib.hid (HZ.out.below hb)
            replace HQV := Lib.hid (HQV.out.below hb)
            clear hb
            go_wp2_with fail
            refine hK.out _ _ (HSQ.out _ HQV.out) (fun hHeldg => ?_)
            clear hK K
            try simp only [Act.put, List.getElem_toArray, List.getElem_cons_zero, List.getElem_cons_succ, List.setIfInBounds_toArray, List.set_cons_zero, List.set_cons_succ]
            refine wpAnyH_take (i := 11) (v := ?_) rfl (by kernel_rfl) (by kernel_rfl) (by kernel_rfl) (fun _ _ _ h => h) (Or.inl ⟨by rfl, ?_⟩) (by assumption) ?_
            rotate_left
            · (intro w hSw; go_simp; try (with_reducible rfl))
            try simp only [Act.put, List.getElem_toArray, List.getElem_cons_zero, List.getElem_cons_succ, List.setIfInBounds_toArray, List.set_cons_zero, List.set_cons_succ]
            refine wpAnyH_ready (rs := [12]) (by kernel_rfl) (by simp) ?_
            refine ready_one rfl rfl (fun K hK => ?_)
            refine wp_build_quS (q := ⟨gn, (t9 : Nat), (c9 : Nat)⟩) _ rfl rfl ?_
            have hbl : Below wg.heap.size wg (wg.alloc (.cells (quL ⟨gn, (t9 : Nat), (c9 : Nat)⟩).toArray 51)) := (Below.refl _ _).alloc (Nat.le_refl _) _
            have HRG : Hid ((wg.alloc (.cells (quL ⟨gn, (t9 : Nat), (c9 : Nat)⟩).toArray 51)).rangeAt wg.heap.size 0 (flatQ [⟨gn, (t9 : Nat), (c9 : Nat)⟩])) := Lib.hid (by have := built_new (w := wg) (cs := quL ⟨gn, (t9 : Nat), (c9 : Nat)⟩) 51; simpa [flatQ] using this)
            replace HGS := Lib.hid (HGS.out.below hbl)
            replace HX := Lib.hid (HX.out.below hbl)
            replace HZ := Lib.hid (HZ.out.below hbl)
            replace HQV := Lib.hid (HQV.out.below hbl)
            clear hbl
            obtain ⟨Wb, hWb⟩ : ∃ Wb, wg.alloc (.cells (quL ⟨gn, (t9 : Nat), (c9 : Nat)⟩).toArray 51) = Wb := ⟨_, rfl⟩
            rw [hWb] at HGS HX HZ HQV HRG ⊢
            clear hWb
            refine hK.out _ _ (HSQ.out _ HQV.out) (fun hHeldb => ?_)
            clear hK K
            try simp only [Act.put, List.getElem_toArray, List.getElem_cons_zero, List.getElem_cons_succ, List.setIfInBounds_toArray, List.set_cons_zero, List.set_cons_succ]
            refine wpAnyH_ready (rs := [13]) (by kernel_rfl) (by simp) ?_
            refine ready_one rfl rfl (fun K hK => ?_)
            have HE := Lib.hid HGS.out.rq
            have HBS : Hid (w.heap.size + 2 ≤ Wb.heap.size) := Lib.hid (by have h1 := HGS.out.le; have h2 := HGS.out.cells.lt; omega)
            refine wp_append_qus HE _ _ rfl rfl [⟨gn, (t9 : Nat), (c9 : Nat)⟩] rfl HONE HRG HLE HBS (fun vq2 w5 HO HGW HF => ?_)
            have hgq : GQ ≠ P := HGQ.out.1
            have hk5 : w5.heap[GQ]? = Wb.heap[GQ]? := HGW.out.block GQ HQV.out.lt (fun e => HGQ.out.2 e.symm)
            have HQ5 : Hid (CellsAt w5 GQ (quL ⟨nm, ty, cl⟩)) := Lib.hid (CellsAt.keep HQV.out hk5 HGW.out.size)
            refine hK.out _ _ (HSQ.out _ HQ5.out) (fun hHeld5 => ?_)
            clear hK K
            try simp only [Act.put, List.getElem_toArray, List.getElem_cons_zero, List.getElem_cons_succ, List.setIfInBounds_toArray, List.set_cons_zero, List.set_cons_succ]
            refine wpAnyH_take (i := 14) (v := ?_) rfl (by kernel_rfl) (by kernel_rfl) (by kernel_rfl) (fun _ _ _ h => h) (Or.inl ⟨by rfl, ?_⟩) (by assumption) ?_
            rotate_left
            · (intro w hSw; go_simp; try (with_reducible rfl))
            try simp only [Act.put, List.getElem_toArray, List.getElem_cons_zero, List.getElem_cons_succ, List.setIfInBounds_toArray, List.set_cons_zero, List.set_cons_succ]
            have HMR := HGS.out.more (Q' := (qs.take (k + 1)).map goodQ) (by rw [HNX.out]; exact HO.out) HGW.out HF.out
            obtain ⟨HM1, ⟨u5, hc5⟩, hf5⟩ := HMR
            have HM2 := Lib.hid HM1
            have HQ6 : Hid (CellsAt (w5.setCell ⟨P, 2, none⟩ vq2) GQ (quL ⟨nm, ty, cl⟩)) := Lib.hid (HQ5.out.other (fun e => hgq e.symm) _ _)
            have hx5 : w5.heap[G]? = Wb.heap[G]? := HGW.out.block G HX.out.lt (fun e => by have := (HGS.out.rq.lt _ e.symm).1; have := HG.out; omega)
            have hz5 : w5.heap[G + 1]? = Wb.heap[G + 1]? := HGW.out.block (G + 1) HZ.out.lt (fun e => by have := (HGS.out.rq.lt _ e.symm).1; have := HG.out; omega)
            have HX6 : Hid (MBox (w5.setCell ⟨P, 2, none⟩ vq2) G (.int .i64 id) (.int .i64 fl) (.slice (some ⟨g, o, none⟩) NQ cq) (.slice a1 n1 c1) (.slice a2 n2 c2) (.slice a3 n3 c3)) := Lib.hid (MBox.keep HX.out ((heap_setCell_other _ _ _ _ (by show G ≠ P; have := HGS.out.le; have := HG.out; omega)).trans hx5))
            have HZ6 : Hid (CellsAt (w5.setCell ⟨P, 2, none⟩ vq2) (G + 1) zM) := Lib.hid (CellsAt.other (CellsAt.keep HZ.out hz5 HGW.out.size) (by have := HGS.out.le; have := HG.out; omega) _ _)
            obtain ⟨xn, yn, hvn⟩ := own_slice (show w5.ownsRow _ _ _ vq2 _ _ from HO.out)
            obtain ⟨ln, hln⟩ : ∃ ln, ((qs.take k).map goodQ ++ [(⟨gn, (t9 : Nat), (c9 : Nat)⟩ : Qu)]).length = ln := ⟨_, rfl⟩
            rw [hln] at hvn
            clear hln
            subst hvn
            refine wpAnyH_ready (rs := [15]) (by kernel_rfl) (by simp) ?_
            refine ready_one rfl rfl (fun K hK => ?_)
            go_wp2_with fail
            refine hK.out _ _ (HSQ.out _ HQ6.out) (fun hHeld6 => ?_)
            clear hK K hc5 hf5 HM1
            try simp only [Act.put, List.getElem_toArray, List.getElem_cons_zero, List.getElem_cons_succ]
            refine wpAnyH_done (by kernel_rfl) ?_ _
            refine NoPanic.normal ?_
            go_wp2_with fail
            go_roundw
            case rel => exact ⟨k + 1, _, by omega, by omega, by go_num, HM2, HX6, HZ6⟩
            case measure => simp [intOf]; omega
          · go_simp
            refine (HGN _).out.mono ?_
            rintro e wh ⟨rfl, hb⟩
            replace HGS := Lib.hid (HGS.out.below hb)
            replace HX := Lib.hid (HX.out.below hb)
            replace HZ := Lib.hid (HZ.out.below hb)
            replace HQV := Lib.hid (HQV.out.below hb)
            clear hb
            go_wp2_with fail
            refine hK.out _ _ (HSQ.out _ HQV.out) (fun hHeldh => ?_)
            clear hK K
            try simp only [Act.put, List.getElem_toArray, List.getElem_cons_zero, List.getElem_cons_succ, List.setIfInBounds_toArray, List.set_cons_zero, List.set_cons_succ]
            refine wpAnyH_take (i := 11) (v := ?_) rfl (by kernel_rfl) (by kernel_rfl) (by kernel_rfl) (fun _ _ _ h => h) (Or.inl ⟨by rfl, ?_⟩) (by assumption) ?_
            rotate_left
            · (intro w hSw; go_simp; try (with_reducible rfl))
            try simp only [Act.put, List.getElem_toArray, List.getElem_cons_zero, List.getElem_cons_succ, List.setIfInBounds_toArray, List.set_cons_zero, List.set_cons_succ]
            refine wpAnyH_ready (rs := [1, 12]) (by kernel_rfl) (by simp) ?_
            refine AllReadyH.cons rfl (fun K hK => ?_) (ready_one rfl rfl (fun K hK => ?_))
            · have hcp : wh.cell? ⟨P, 2, none⟩ = some (.slice xq kk yq) := HGS.out.cells.cell 2 _ rfl
              go_wp2_with fail
              refine hK.out _ _ (HSQ.out _ HQV.out) (fun hHeldm => ?_)
              clear hK K hcp
              try simp only [Act.put, List.getElem_toArray, List.getElem_cons_zero, List.getElem_cons_succ, List.setIfInBounds_toArray, List.set_cons_zero, List.set_cons_succ]
              refine wpAnyH_ready (rs := [12]) (by kernel_rfl) (by simp) ?_
              refine ready_one rfl rfl (fun K hK => ?_)
              refine wp_build_quS (q := ⟨gn, (t9 : Nat), (c9 : Nat)⟩) _ rfl rfl ?_
              have hbl : Below wh.heap.size wh (wh.alloc (.cells (quL ⟨gn, (t9 : Nat), (c9 : Nat)⟩).toArray 51)) := (Below.refl _ _).alloc (Nat.le_refl _) _
              have HRG : Hid ((wh.alloc (.cells (quL ⟨gn, (t9 : Nat), (c9 : Nat)⟩).toArray 51)).rangeAt wh.heap.size 0 (flatQ [⟨gn, (t9 : Nat), (c9 : Nat)⟩])) := Lib.hid (by have := built_new (w := wh) (cs := quL ⟨gn, (t9 : Nat), (c9 : Nat)⟩) 51; simpa [flatQ] using this)
              replace HGS := Lib.hid (HGS.out.below hbl)
              replace HX := Lib.hid (HX.out.below hbl)
              replace HZ := Lib.hid (HZ.out.below hbl)
              replace HQV := Lib.hid (HQV.out.below hbl)
              clear hbl
              obtain ⟨Wb, hWb⟩ : ∃ Wb, wh.alloc (.cells (quL ⟨gn, (t9 : Nat), (c9 : Nat)⟩).toArray 51) = Wb := ⟨_, rfl⟩
              rw [hWb] at HGS HX HZ HQV HRG ⊢
              clear hWb
              refine hK.out _ _ (HSQ.out _ HQV.out) (fun hHeldb => ?_)
              clear hK K
              try simp only [Act.put, List.getElem_toArray, List.getElem_cons_zero, List.getElem_cons_succ, List.setIfInBounds_toArray, List.set_cons_zero, List.set_cons_succ]
              refine wpAnyH_ready (rs := [13]) (by kernel_rfl) (by simp) ?_
              refine ready_one rfl rfl (fun K hK => ?_)
              have HE := Lib.hid HGS.out.rq
              have HBS : Hid (w.heap.size + 2 ≤ Wb.heap.size) := Lib.hid (by have h1 := HGS.out.le; have h2 := HGS.out.cells.lt; omega)
              refine wp_append_qus HE _ _ rfl rfl [⟨gn, (t9 : Nat), (c9 : Nat)⟩] rfl HONE HRG HLE HBS (fun vq2 w5 HO HGW HF => ?_)
              have hgq : GQ ≠ P := HGQ.out.1
              have hk5 : w5.heap[GQ]? = Wb.heap[GQ]? := HGW.out.block GQ HQV.out.lt (fun e => HGQ.out.2 e.symm)
              have HQ5 : Hid (CellsAt w5 GQ (quL ⟨nm, ty, cl⟩)) := Lib.hid (CellsAt.keep HQV.out hk5 HGW.out.size)
              refine hK.out _ _ (HSQ.out _ HQ5.out) (fun hHeld5 => ?_)
              clear hK K
              try simp only [Act.put, List.getElem_toArray, List.getElem_cons_zero, List.getElem_cons_succ, List.setIfInBounds_toArray, List.set_cons_zero, List.set_cons_succ]
              refine wpAnyH_take (i := 14) (v := ?_) rfl (by kernel_rfl) (by kernel_rfl) (by kernel_rfl) (fun _ _ _ h => h) (Or.inl ⟨by rfl, ?_⟩) (by assumption) ?_
              rotate_left
              · (intro w hSw; go_simp; try (with_reducible rfl))
              try simp only [Act.put, List.getElem_toArray, List.getElem_cons_zero, List.getElem_cons_succ, List.setIfInBounds_toArray, List.set_cons_zero, List.set_cons_succ]
              have HMR := HGS.out.more (Q' := (qs.take (k + 1)).map goodQ) (by rw [HNX.out]; exact HO.out) HGW.out HF.out
              obtain ⟨HM1, ⟨u5, hc5⟩, hf5⟩ := HMR
              have HM2 := Lib.hid HM1
              have HQ6 : Hid (CellsAt (w5.setCell ⟨P, 2, none⟩ vq2) GQ (quL ⟨nm, ty, cl⟩)) := Lib.hid (HQ5.out.other (fun e => hgq e.symm) _ _)
              have hx5 : w5.heap[G]? = Wb.heap[G]? := HGW.out.block G HX.out.lt (fun e => by have := (HGS.out.rq.lt _ e.symm).1; have := HG.out; omega)
              have hz5 : w5.heap[G + 1]? = Wb.heap[G + 1]? := HGW.out.block (G + 1) HZ.out.lt (fun e => by have := (HGS.out.rq.lt _ e.symm).1; have := HG.out; omega)
              have HX6 : Hid (MBox (w5.setCell ⟨P, 2, none⟩ vq2) G (.int .i64 id) (.int .i64 fl) (.slice (some ⟨g, o, none⟩) NQ cq) (.slice a1 n1 c1) (.slice a2 n2 c2) (.slice a3 n3 c3)) := Lib.hid (MBox.keep HX.out ((heap_setCell_other _ _ _ _ (by show G ≠ P; have := HGS.out.le; have := HG.out; omega)).trans hx5))
              have HZ6 : Hid (CellsAt (w5.setCell ⟨P, 2, none⟩ vq2) (G + 1) zM) := Lib.hid (CellsAt.other (CellsAt.keep HZ.out hz5 HGW.out.size) (by have := HGS.out.le; have := HG.out; omega) _ _)
              obtain ⟨xn, yn, hvn⟩ := own_slice (show w5.ownsRow _ _ _ vq2 _ _ from HO.out)
              obtain ⟨ln, hln⟩ : ∃ ln, ((qs.take k).map goodQ ++ [(⟨gn, (t9 : Nat), (c9 : Nat)⟩ : Qu)]).length = ln := ⟨_, rfl⟩
              rw [hln] at hvn
              clear hln
              subst hvn
              refine wpAnyH_ready (rs := [15]) (by kernel_rfl) (by simp) ?_
              refine ready_one rfl rfl (fun K hK => ?_)
              go_wp2_with fail
              refine hK.out _ _ (HSQ.out _ HQ6.out) (fun hHeld6 => ?_)
              clear hK K hc5 hf5 HM1
              try simp only [Act.put, List.getElem_toArray, List.getElem_cons_zero, List.getElem_cons_succ]
              refine wpAnyH_done (by kernel_rfl) ?_ _
              refine NoPanic.normal ?_
              go_wp2_with fail
              go_roundw
              case rel => exact ⟨k + 1, _, by omega, by omega, by go_num, HM2, HX6, HZ6⟩
              case measure => simp [intOf]; omega
            · refine wp_build_quS (q := ⟨gn, (t9 : Nat), (c9 : Nat)⟩) _ rfl rfl ?_
              have hbl : Below wh.heap.size wh (wh.alloc (.cells (quL ⟨gn, (t9 : Nat), (c9 : Nat)⟩).toArray 51)) := (Below.refl _ _).alloc (Nat.le_refl _) _
              have HRG : Hid ((wh.alloc (.cells (quL ⟨gn, (t9 : Nat), (c9 : Nat)⟩).toArray 51)).rangeAt wh.heap.size 0 (flatQ [⟨gn, (t9 : Nat), (c9 : Nat)⟩])) := Lib.hid (by have := built_new (w := wh) (cs := quL ⟨gn, (t9 : Nat), (c9 : Nat)⟩) 51; simpa [flatQ] using this)
              replace HGS := Lib.hid (HGS.out.below hbl)
              replace HX := Lib.hid (HX.out.below hbl)
              replace HZ := Lib.hid (HZ.out.below hbl)
              replace HQV := Lib.hid (HQV.out.below hbl)
              clear hbl
              obtain ⟨Wb, hWb⟩ : ∃ Wb, wh.alloc (.cells (quL ⟨gn, (t9 : Nat), (c9 : Nat)⟩).toArray 51) = Wb := ⟨_, rfl⟩
              rw [hWb] at HGS HX HZ HQV HRG ⊢
              clear hWb
              refine hK.out _ _ (HSQ.out _ HQV.out) (fun hHeldb => ?_)
              clear hK K
              try simp only [Act.put, List.getElem_toArray, List.getElem_cons_zero, List.getElem_cons_succ, List.setIfInBounds_toArray, List.set_cons_zero, List.set_cons_succ]
              refine wpAnyH_ready (rs := [1]) (by kernel_rfl) (by simp) ?_
              refine ready_one rfl rfl (fun K hK => ?_)
              have hcp : Wb.cell? ⟨P, 2, none⟩ = some (.slice xq kk yq) := HGS.out.cells.cell 2 _ rfl
              go_wp2_with fail
              refine hK.out _ _ (HSQ.out _ HQV.out) (fun hHeldn => ?_)
              clear hK K hcp
              try simp only [Act.put, List.getElem_toArray, List.getElem_cons_zero, List.getElem_cons_succ, List.setIfInBounds_toArray, List.set_cons_zero, List.set_cons_succ]
              refine wpAnyH_ready (rs := [13]) (by kernel_rfl) (by simp) ?_
              refine ready_one rfl rfl (fun K hK => ?_)
              have HE := Lib.hid HGS.out.rq
              have HBS : Hid (w.heap.size + 2 ≤ Wb.heap.size) := Lib.hid (by have h1 := HGS.out.le; have h2 := HGS.out.cells.lt; omega)
              refine wp_append_qus HE _ _ rfl rfl [⟨gn, (t9 : Nat), (c9 : Nat)⟩] rfl HONE HRG HLE HBS (fun vq2 w5 HO HGW HF => ?_)
              have hgq : GQ ≠ P := HGQ.out.1
              have hk5 : w5.heap[GQ]? = Wb.heap[GQ]? := HGW.out.block GQ HQV.out.lt (fun e => HGQ.out.2 e.symm)
              have HQ5 : Hid (CellsAt w5 GQ (quL ⟨nm, ty, cl⟩)) := Lib.hid (CellsAt.keep HQV.out hk5 HGW.out.size)
              refine hK.out _ _ (HSQ.out _ HQ5.out) (fun hHeld5 => ?_)
              clear hK K
              try simp only [Act.put, List.getElem_toArray, List.getElem_cons_zero, List.getElem_cons_succ, List.setIfInBounds_toArray, List.set_cons_zero, List.set_cons_succ]
              refine wpAnyH_take (i := 14) (v := ?_) rfl (by kernel_rfl) (by kernel_rfl) (by kernel_rfl) (fun _ _ _ h => h) (Or.inl ⟨by rfl, ?_⟩) (by assumption) ?_
              rotate_left
              · (intro w hSw; go_simp; try (with_reducible rfl))
              try simp only [Act.put, List.getElem_toArray, List.getElem_cons_zero, List.getElem_cons_succ, List.setIfInBounds_toArray, List.set_cons_zero, List.set_cons_succ]
              have HMR := HGS.out.more (Q' := (qs.take (k + 1)).map goodQ) (by rw [HNX.out]; exact HO.out) HGW.out HF.out
              obtain ⟨HM1, ⟨u5, hc5⟩, hf5⟩ := HMR
              have HM2 := Lib.hid HM1
              have HQ6 : Hid (CellsAt (w5.setCell ⟨P, 2, none⟩ vq2) GQ (quL ⟨nm, ty, cl⟩)) := Lib.hid (HQ5.out.other (fun e => hgq e.symm) _ _)
              have hx5 : w5.heap[G]? = Wb.heap[G]? := HGW.out.block G HX.out.lt (fun e => by have := (HGS.out.rq.lt _ e.symm).1; have := HG.out; omega)
              have hz5 : w5.heap[G + 1]? = Wb.heap[G + 1]? := HGW.out.block (G + 1) HZ.out.lt (fun e => by have := (HGS.out.rq.lt _ e.symm).1; have := HG.out; omega)
              have HX6 : Hid (MBox (w5.setCell ⟨P, 2, none⟩ vq2) G (.int .i64 id) (.int .i64 fl) (.slice (some ⟨g, o, none⟩) NQ cq) (.slice a1 n1 c1) (.slice a2 n2 c2) (.slice a3 n3 c3)) := Lib.hid (MBox.keep HX.out ((heap_setCell_other _ _ _ _ (by show G ≠ P; have := HGS.out.le; have := HG.out; omega)).trans hx5))
              have HZ6 : Hid (CellsAt (w5.setCell ⟨P, 2, none⟩ vq2) (G + 1) zM) := Lib.hid (CellsAt.other (CellsAt.keep HZ.out hz5 HGW.out.size) (by have := HGS.out.le; have := HG.out; omega) _ _)
              obtain ⟨xn, yn, hvn⟩ := own_slice (show w5.ownsRow _ _ _ vq2 _ _ from HO.out)
              obtain ⟨ln, hln⟩ : ∃ ln, ((qs.take k).map goodQ ++ [(⟨gn, (t9 : Nat), (c9 : Nat)⟩ : Qu)]).length = ln := ⟨_, rfl⟩
              rw [hln] at hvn
              clear hln
              subst hvn
              refine wpAnyH_ready (rs := [15]) (by kernel_rfl) (by simp) ?_
              refine ready_one rfl rfl (fun K hK => ?_)
              go_wp2_with fail
              refine hK.out _ _ (HSQ.out _ HQ6.out) (fun hHeld6 => ?_)
              clear hK K hc5 hf5 HM1
              try simp only [Act.put, List.getElem_toArray, List.getElem_cons_zero, List.getElem_cons_succ]
              refine wpAnyH_done (by kernel_rfl) ?_ _
              refine NoPanic.normal ?_
              go_wp2_with fail
              go_roundw
              case rel => exact ⟨k + 1, _, by omega, by omega, by go_num, HM2, HX6, HZ6⟩
              case measure => simp [intOf]; omega
        · obtain rfl : k = 3 := by omega
          have he : decide (((3 : Nat) : Int) < 3) = false := by simp
          have HEQ : Hid ((qs.take 3).map goodQ = (qs.take 3).map goodQ) := Lib.hid (rfl)
          rw [HEQ.out] at HGS
          have hone : [Value.int .i64 (i9 : Nat), .int .i64 (f9 : Nat), vq, v1, v2, v3].all (fun u => u.oneCell') = true := by
            have h0 := own_oneCell HGS.out.rq
            have h1 := own_oneCell HGS.out.r1.1
            have h2 := own_oneCell HGS.out.r2.1
            have h3 := own_oneCell HGS.out.r3.1
            simp only [List.all_cons, List.all_nil, h0, h1, h2, h3]
            rfl
          have HPC := Lib.hid HGS.out.cells
          go_wp2_with (first | refine load_msg HPC rfl _ rfl rfl rfl ?_ | (have HZZ := HZ; refine store_msg HZZ rfl _ _ rfl rfl rfl rfl rfl hone (fun V HV HVC => ?_); clear HZ))
          have hGb : G + 1 < w.heap.size + 2 := by have := HG.out; omega
          obtain ⟨bq, dq, e0, m0⟩ := RowQ.qus (show RowQ V _ vq _ by rw [HV.out]; exact row_apart HGS.out.rq hGb) HQF.out
          obtain ⟨b1, d1, e1, m1⟩ := RowR.recs (show RowR V _ v1 _ by rw [HV.out]; exact ⟨row_apart HGS.out.r1.1 hGb, HGS.out.r1.2⟩) HF.out.1
          obtain ⟨b2, d2, e2, m2⟩ := RowR.recs (show RowR V _ v2 _ by rw [HV.out]; exact ⟨row_apart HGS.out.r2.1 hGb, HGS.out.r2.2⟩) HF.out.2.1
          obtain ⟨b3, d3, e3, m3⟩ := RowR.recs (show RowR V _ v3 _ by rw [HV.out]; exact ⟨row_apart HGS.out.r3.1 hGb, HGS.out.r3.2⟩) HF.out.2.2
          have HBV : Below w.heap.size w V := by rw [HV.out]; exact below_cells (by have := HG.out; omega) _ _ _ HGS.out.bel
          have hr1V : RowR V w.heap.size v1 (goodRs D1) := by rw [HV.out]; exact ⟨own_lower8 (row_apart HGS.out.r1.1 hGb) (by omega), HGS.out.r1.2⟩
          have hdq : ∀ g, v1.ownBlock = some g → vq.ownBlock ≠ some g := fun g h1 h2 => own_types HGS.out.rq HGS.out.r1.1 (by decide) g h2 h1
          have hd2 := HD12.out
          have hd3 := HD13.out
          refine bodyPost_ret (v := msgV GM bq b1 b2 b3 dq d1 d2 d3) ?_ rfl ⟨bq, b1, b2, b3, dq, d1, d2, d3, rfl, ?_, HBV, ?_, ?_⟩
          · rw [HGM.out]
            unfold msgV
            simp only
            rw [← e0, ← e1, ← e2, ← e3]
            exact results_msg Try.results10 rfl HVC.out rfl
          · rw [HGM.out]
            exact ⟨m0, m1, m2, m3⟩
          · rw [HGM.out]
            simp only
            rw [← e1]
            exact hr1V
          · rw [HGM.out]
            simp only
            rw [← e1]
            intro g hg
            rw [e0] at hdq
            rw [e2] at hd2
            rw [e3] at hd3
            exact ⟨fun x hx h => hd2 g hg (by rw [hx, ← h]; rfl), fun x hx h => hd3 g hg (by rw [hx, ← h]; rfl), fun x hx h => hdq g hg (by rw [hx, ← h]; rfl)⟩
      · obtain rfl : k = NQ := by omega
        have hd : decide ((k : Int) < (k : Int)) = false := by simp
        have HEQ : Hid ((qs.take k).map goodQ = (qs.take 3).map goodQ) := Lib.hid (by rw [List.take_of_length_le (by rw [HNQ.out]; exact Nat.le_refl _), List.take_of_length_le (by rw [HNQ.out]; exact hk3)])
        rw [HEQ.out] at HGS
        have hone : [Value.int .i64 (i9 : Nat), .int .i64 (f9 : Nat), vq, v1, v2, v3].all (fun u => u.oneCell') = true := by
          have h0 := own_oneCell HGS.out.rq
          have h1 := own_oneCell HGS.out.r1.1
          have h2 := own_oneCell HGS.out.r2.1
          have h3 := own_oneCell HGS.out.r3.1
          simp only [List.all_cons, List.all_nil, h0, h1, h2, h3]
          rfl
        have HPC := Lib.hid HGS.out.cells
        go_wp2_with (first | refine load_msg HPC rfl _ rfl rfl rfl ?_ | (have HZZ := HZ; refine store_msg HZZ rfl _ _ rfl rfl rfl rfl rfl hone (fun V HV HVC => ?_); clear HZ))
        have hGb : G + 1 < w.heap.size + 2 := by have := HG.out; omega
        obtain ⟨bq, dq, e0, m0⟩ := RowQ.qus (show RowQ V _ vq _ by rw [HV.out]; exact row_apart HGS.out.rq hGb) HQF.out
        obtain ⟨b1, d1, e1, m1⟩ := RowR.recs (show RowR V _ v1 _ by rw [HV.out]; exact ⟨row_apart HGS.out.r1.1 hGb, HGS.out.r1.2⟩) HF.out.1
        obtain ⟨b2, d2, e2, m2⟩ := RowR.recs (show RowR V _ v2 _ by rw [HV.out]; exact ⟨row_apart HGS.out.r2.1 hGb, HGS.out.r2.2⟩) HF.out.2.1
        obtain ⟨b3, d3, e3, m3⟩ := RowR.recs (show RowR V _ v3 _ by rw [HV.out]; exact ⟨row_apart HGS.out.r3.1 hGb, HGS.out.r3.2⟩) HF.out.2.2
        have HBV : Below w.heap.size w V := by rw [HV.out]; exact below_cells (by have := HG.out; omega) _ _ _ HGS.out.bel
        have hr1V : RowR V w.heap.size v1 (goodRs D1) := by rw [HV.out]; exact ⟨own_lower8 (row_apart HGS.out.r1.1 hGb) (by omega), HGS.out.r1.2⟩
        have hdq : ∀ g, v1.ownBlock = some g → vq.ownBlock ≠ some g := fun g h1 h2 => own_types HGS.out.rq HGS.out.r1.1 (by decide) g h2 h1
        have hd2 := HD12.out
        have hd3 := HD13.out
        refine bodyPost_ret (v := msgV GM bq b1 b2 b3 dq d1 d2 d3) ?_ rfl ⟨bq, b1, b2, b3, dq, d1, d2, d3, rfl, ?_, HBV, ?_, ?_⟩
        · rw [HGM.out]
          unfold msgV
          simp only
          rw [← e0, ← e1, ← e2, ← e3]
          exact results_msg Try.results10 rfl HVC.out rfl
        · rw [HGM.out]
          exact ⟨m0, m1, m2, m3⟩
        · rw [HGM.out]
          simp only
          rw [← e1]
          exact hr1V
        · rw [HGM.out]
          simp only
          rw [← e1]
          intro g hg
          rw [e0] at hdq
          rw [e2] at hd2
          rw [e3] at hd3
          exact ⟨fun x hx h => hd2 g hg (by rw [hx, ← h]; rfl), fun x hx h => hd3 g hg (by rw [hx, ← h]; rfl), fun x hx h => hdq g hg (by rw [hx, ← h]; rfl)⟩
theorem goodMsg9_any (m : Msg) (aq a1 a2 a3 : Option Addr) (cq c1 c2 c3 : Nat) (w : World) (hM : MsgIn w m aq a1 a2 a3 cq c1 c2 c3) (hr : RoomG m) :
    Calls Try.prog 10 #[msgV m aq a1 a2 a3 cq c1 c2 c3] w fun e w' => ∃ bq b1 b2 b3 dq d1 d2 d3, e = .returned (msgV (goodM m) bq b1 b2 b3 dq d1 d2 d3) ∧ MsgIn w' (goodM m) bq b1 b2 b3 dq d1 d2 d3 ∧ Below w.heap.size w w' := by
  refine (goodMsg9R_any m aq a1 a2 a3 cq c1 c2 c3 w hM hr).mono ?_
  rintro e w' ⟨bq, b1, b2, b3, dq, d1, d2, d3, h1, h2, h3, _, _⟩
  exact ⟨bq, b1, b2, b3, dq, d1, d2, d3, h1, h2, h3⟩
end Go.Proofs.Yticdpidngmeebaa
