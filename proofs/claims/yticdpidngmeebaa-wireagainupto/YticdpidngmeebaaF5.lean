/- Texts that belong together, one behind the other: WxWr, LabCut, LabName, WxName, WirNum, WirAsked, WirW9, AddrBitsOwn, WirData. -/
import Derived.Test.YticdpidngmeebaaF4
import Derived.Test.YticdpidngmeebaaShelf
import Derived.Deep.RegionHeld3
import Derived.Deep.Cut
import Derived.Laws.BitsLemmas
import Derived.Lib.ConvBytes
/- The landed writer of wire, as it lies in memory: a writer of names at the front of a greater struct: the cells behind it are kept. Contracts of its Len, Raw, note, Name, made again with that. -/
namespace Go.Proofs.Yticdpidngmeebaa
open Go.RowKit Go.Maps
set_option linter.unusedVariables false
set_option maxRecDepth 20000

/-- A writer at block G, whose cells from the third one on are X. -/
structure WxAt (X : Nat → Option Value) (w : World) (G B : Nat) (vB : Value) (m : Option Nat) (l : List UInt8) (ns : List ByteArray) (ats : List Nat) : Prop extends WrAt w G B vB m l ns ats where
  cx : ∀ k, 2 ≤ k → w.cell? ⟨G, k, none⟩ = X k
  fx : ∀ k, 2 ≤ k → w.frozen? ⟨G, k, none⟩ = false
section
variable {X : Nat → Option Value} {w w' : World} {G B : Nat} {vB : Value} {m : Option Nat} {l : List UInt8} {ns : List ByteArray} {ats : List Nat}
theorem WxAt.kept (h : WxAt X w G B vB m l ns ats) (hk : ∀ k ∈ wblk G vB m, w'.heap[k]? = w.heap[k]?) : WxAt X w' G B vB m l ns ats := by
  have hG := hk G (mem_wblk.2 (.inl rfl))
  exact ⟨h.toWrAt.kept hk, fun k h2 => (World.cell?_of_block (a := ⟨G, k, none⟩) hG).trans (h.cx k h2), fun k h2 => (World.frozen?_of_block (a := ⟨G, k, none⟩) hG).trans (h.fx k h2)⟩
theorem WxAt.below (h : WxAt X w G B vB m l ns ats) (hb : Below w.heap.size w w') : WxAt X w' G B vB m l ns ats := h.kept (fun k hk => hb.block k (h.blk_lt k hk))
theorem WxAt.put0 (h : WxAt X w G B vB m l ns ats) {v' : Value} {l' : List UInt8} (hown : w'.ownsRow B 5 1 v' l'.length (bys l')) (hg : w.grownBy w' vB.ownBlock) (hf : Foot vB.ownBlock.toList v'.ownBlock.toList w w') :
    WxAt X (w'.setCell ⟨G, 0, none⟩ v') G B v' m l' ns ats ∧ Foot (wblk G vB m) (wblk G v' m) w (w'.setCell ⟨G, 0, none⟩ v') := by
  have R := h.toWrAt.put0 hown hg hf
  have hG : w'.heap[G]? = w.heap[G]? := hg.block G h.lt (fun e => h.nb e.symm)
  exact ⟨⟨R.1, fun k h2 => (World.cell?_setCell_other _ _ _ _ (by intro h; injection h; omega)).trans ((World.cell?_of_block (a := ⟨G, k, none⟩) hG).trans (h.cx k h2)), fun k h2 => by rw [World.frozen?_setCell]; exact (World.frozen?_of_block (a := ⟨G, k, none⟩) hG).trans (h.fx k h2)⟩, R.2⟩
theorem WxAt.noted {b : Nat} {x : ByteArray} {n : Nat} (h : WxAt X w G B vB (some b) l ns ats) (hm : MapAt w' B (some b) (ns ++ [x]) (ats ++ [n])) (hg : w.grownBy w' (some b)) :
    WxAt X w' G B vB (some b) l (ns ++ [x]) (ats ++ [n]) ∧ Foot (wblk G vB (some b)) (wblk G vB (some b)) w w' := by
  have R := h.toWrAt.noted hm hg
  have hG : w'.heap[G]? = w.heap[G]? := hg.block G h.lt (fun e => h.mG e.symm)
  exact ⟨⟨R.1, fun k h2 => (World.cell?_of_block (a := ⟨G, k, none⟩) hG).trans (h.cx k h2), fun k h2 => (World.frozen?_of_block (a := ⟨G, k, none⟩) hG).trans (h.fx k h2)⟩, R.2⟩
theorem WxAt.made (h : WxAt X w G B vB none l ns ats) (hB : B ≤ w.heap.size) :
    WxAt X ((w.alloc (.map #[] 0)).setCell ⟨G, 1, none⟩ (.map (some w.heap.size))) G B vB (some w.heap.size) l ns ats ∧ Foot (wblk G vB none) (wblk G vB (some w.heap.size)) w ((w.alloc (.map #[] 0)).setCell ⟨G, 1, none⟩ (.map (some w.heap.size))) := by
  have R := h.toWrAt.made hB
  have hb : Below w.heap.size w (w.alloc (.map #[] 0)) := (Below.refl _ _).alloc (Nat.le_refl _) _
  have hG : (w.alloc (.map #[] 0)).heap[G]? = w.heap[G]? := hb.block G h.lt
  exact ⟨⟨R.1, fun k h2 => (World.cell?_setCell_other _ _ _ _ (by intro h; injection h; omega)).trans ((World.cell?_of_block (a := ⟨G, k, none⟩) hG).trans (h.cx k h2)), fun k h2 => by rw [World.frozen?_setCell]; exact (World.frozen?_of_block (a := ⟨G, k, none⟩) hG).trans (h.fx k h2)⟩, R.2⟩
theorem wlenx_any (h : WxAt X w G B vB m l ns ats) :
    Calls Try.prog 58 #[.pointer (some ⟨G, 0, none⟩)] w fun e w' => e = .returned (.int .i64 (l.length : Int)) ∧ w' = w := wlen_any h.toWrAt
end
set_option maxRecDepth 100000 in
theorem rawx_any {X : Nat → Option Value} {w : World} {G B g c : Nat} {vB : Value} {m : Option Nat} {l : List UInt8} {ns : List ByteArray} {ats : List Nat} (x : List UInt8) (h : WxAt X w G B vB m l ns ats) (hx : ∀ j u, (bys x)[j]? = some u → w.cell? ⟨g, j, none⟩ = some u) (hn : l.length + x.length ≤ 1000000000) (hB : B ≤ w.heap.size) :
    Calls Try.prog 56 #[.pointer (some ⟨G, 0, none⟩), .slice (some ⟨g, 0, none⟩) x.length c] w fun e w' => e = .returned (.tuple #[]) ∧ ∃ vB', WxAt X w' G B vB' m (l ++ x) ns ats ∧ Foot (wblk G vB m) (wblk G vB' m) w w' := by
  obtain ⟨a, c0, rfl⟩ := own_slice h.rb
  have hc := h.c0
  have HW := Lib.hid h
  have HO := Lib.hid h.rb
  have HX := Lib.hid hx
  have HN : Hid (l.length + x.length ≤ 1000000000 ∧ B ≤ w.heap.size) := Lib.hid ⟨hn, hB⟩
  obtain ⟨N, hN⟩ : ∃ N, x.length = N := ⟨_, rfl⟩
  have HNN := Lib.hid hN
  rw [hN]
  clear h hx hn hB hN
  go_enter Try.func56, Try.ntmps56
  go_wp2_with (at_builtin; refine wpList_plain rfl (fun K hK => wp_append_bytes (m := x) HO HX HN _ _ rfl rfl (by rw [HNN.out]; rfl) (fun v2 w4 HOw HGw HFw => hK _ _ ?_)); obtain ⟨lz, hlz⟩ : ∃ lz, l ++ x = lz := ⟨_, rfl⟩; rw [hlz] at HOw; have HLZ := Lib.hid hlz; clear hlz; obtain ⟨a2, c2, hv2⟩ := own_slice HOw.out; subst hv2; have hG4 := HGw.out.block G HW.out.lt (fun e => HW.out.nb e.symm); have hcc := (World.cell?_of_block (a := ⟨G, 0, none⟩) hG4).trans HW.out.c0; have hcf := (World.frozen?_of_block (a := ⟨G, 0, none⟩) hG4).trans HW.out.f0; clear hG4)
  have R := HW.out.put0 HOw.out HGw.out HFw.out
  go_end0
  refine ⟨rfl, _, ?_, R.2⟩
  rw [HLZ.out]
  exact R.1
set_option maxRecDepth 100000 in
theorem rawin_any {X : Nat → Option Value} {w : World} {G B c : Nat} {ad : Option Addr} {vB : Value} {m : Option Nat} {l : List UInt8} {ns : List ByteArray} {ats : List Nat} (x : List UInt8) (h : WxAt X w G B vB m l ns ats) (hx : BytesIn2 w ad c x) (hn : l.length + x.length ≤ 1000000000) (hB : B ≤ w.heap.size) :
    Calls Try.prog 56 #[.pointer (some ⟨G, 0, none⟩), .slice ad x.length c] w fun e w' => e = .returned (.tuple #[]) ∧ ∃ vB', WxAt X w' G B vB' m (l ++ x) ns ats ∧ Foot (wblk G vB m) (wblk G vB' m) w w' := by
  obtain ⟨a, c0, rfl⟩ := own_slice h.rb
  have hc := h.c0
  have HW := Lib.hid h
  have HO := Lib.hid h.rb
  have HX := Lib.hid hx
  have HN : Hid (l.length + x.length ≤ 1000000000 ∧ B ≤ w.heap.size) := Lib.hid ⟨hn, hB⟩
  obtain ⟨N, hN⟩ : ∃ N, x.length = N := ⟨_, rfl⟩
  have HNN := Lib.hid hN
  rw [hN]
  clear h hx hn hB hN
  go_enter Try.func56, Try.ntmps56
  go_wp2_with (at_builtin; refine wpList_plain rfl (fun K hK => wp_append_in (m := x) HO HX HN _ _ rfl rfl (by rw [HNN.out]; rfl) (fun v2 w4 HOw HGw HFw => hK _ _ ?_)); obtain ⟨lz, hlz⟩ : ∃ lz, l ++ x = lz := ⟨_, rfl⟩; rw [hlz] at HOw; have HLZ := Lib.hid hlz; clear hlz; obtain ⟨a2, c2, hv2⟩ := own_slice HOw.out; subst hv2; have hG4 := HGw.out.block G HW.out.lt (fun e => HW.out.nb e.symm); have hcc := (World.cell?_of_block (a := ⟨G, 0, none⟩) hG4).trans HW.out.c0; have hcf := (World.frozen?_of_block (a := ⟨G, 0, none⟩) hG4).trans HW.out.f0; clear hG4)
  have R := HW.out.put0 HOw.out HGw.out HFw.out
  go_end0
  refine ⟨rfl, _, ?_, R.2⟩
  rw [HLZ.out]
  exact R.1
/-- What note leaves. -/
def NoteRetX (X : Nat → Option Value) (w : World) (G B : Nat) (vB : Value) (m : Option Nat) (l : List UInt8) (ns : List ByteArray) (ats : List Nat) (e : Ending) (w' : World) : Prop :=
  e = .returned (.tuple #[]) ∧ ∃ m', WxAt X w' G B vB m' l ns ats ∧ Foot (wblk G vB m) (wblk G vB m') w w'
set_option maxRecDepth 100000 in
set_option maxHeartbeats 2000000 in
theorem notex_any {X : Nat → Option Value} {w : World} {G B : Nat} {vB : Value} {m : Option Nat} {l : List UInt8} {ns : List ByteArray} {ats : List Nat} (x : ByteArray) (h : WxAt X w G B vB m l ns ats) (hx : x.size ≤ 2000000) (hl : l.length ≤ 2000000) (hns : ns.length ≤ 2000000) (hla : ats.length = ns.length) (hf : find8 ns ats x = none) (hB : B ≤ w.heap.size) :
    Calls Try.prog 78 #[.pointer (some ⟨G, 0, none⟩), .string x] w (NoteRetX X w G B vB m l (if l.length < 16384 then ns ++ [x] else ns) (if l.length < 16384 then ats ++ [l.length] else ats)) := by
  have HLEN := Lib.hid (wlenx_any h)
  have HH := Lib.hid h
  by_cases hbig : l.length < 16384
  · rw [if_pos hbig, if_pos hbig]
    have hd : decide ((16384 : Int) ≤ (l.length : Int)) = false := decide_eq_false (by omega)
    have hdn : decide (16384 ≤ l.length) = false := decide_eq_false (by omega)
    have hc1 := h.c1
    have hf1 := h.f1
    have HHF := Lib.hid hf
    have HLA := Lib.hid hla
    have qm : ∀ (w : World) (a : Option Nat), (binOp .eql 58 (.map a) (.map none)).run Try.prog w = .ok (.bool a.isNone) w := fun w a => by cases a <;> rfl
    have hmm := @run_makeMap Try.prog
    -- what is left: the store, from a world in which the map is there
    have FIN : ∀ (b : Nat) (V : World), Hid (WxAt X V G B vB (some b) l ns ats → Foot (wblk G vB m) (wblk G vB (some b)) w V → ∃ V', (Instr.mapUpdate 58 (.map (some b)) (.string x) (.int .i64 (l.length : Int))).run Try.prog V = .ok () V' ∧ V'.cell? ⟨G, 1, none⟩ = some (.map (some b)) ∧ NoteRetX X w G B vB m l (ns ++ [x]) (ats ++ [l.length]) (.returned (.tuple #[])) V') := fun b V => Lib.hid (fun hV hFo => by
      obtain ⟨V', hr, hm, hg⟩ := hV.mp.store x l.length hx hl hns HLA.out HHF.out
      have R := hV.noted hm hg
      exact ⟨V', hr, R.1.c1, rfl, _, R.1, hFo.trans R.2⟩)
    clear h hf hla
    go_enter Try.func78, Try.ntmps78
    go_wp2_with fail
    refine HLEN.out.mono ?_
    rintro e w1 ⟨rfl, rfl⟩
    cases m with
    | none =>
      have R := HH.out.made hB
      obtain ⟨V, hV⟩ : ∃ V, ((w1.alloc (.map #[] 0)).setCell ⟨G, 1, none⟩ (.map (some w1.heap.size))) = V := ⟨_, rfl⟩
      rw [hV] at R
      have HFI := Lib.hid ((FIN _ V.drew).out (R.1.below ((Below.refl _ _).drew)) (R.2.trans (Foot.ofBelow _ ((Below.refl _ _).drew))))
      have HLE2 := Lib.hid (wlenx_any (R.1.below ((Below.refl _ _).drew)))
      have hcd : V.drew.cell? ⟨G, 1, none⟩ = some (.map (some w1.heap.size)) := R.1.c1
      have hg1 := (bcell (W := w1) (w1 := w1.alloc (.map #[] 0)) ((Below.refl _ _).alloc (Nat.le_refl _) _)).1 G 1 HH.out.lt
      have hg2 := (bcell (W := w1) (w1 := w1.alloc (.map #[] 0)) ((Below.refl _ _).alloc (Nat.le_refl _) _)).2 G 1 HH.out.lt
      rw [hc1] at hg1
      rw [hf1] at hg2
      clear R FIN HLEN
      go_upto_region 3 with fail
      try rw [hV]
      generalize hgb : w1.heap.size = b at *
      obtain ⟨V', hrun, hcell', HNR⟩ := HFI.out
      have HN2 := Lib.hid HNR
      have HRUN := Lib.hid hrun
      clear HNR HFI hrun hV
      refine wp_region_noPanic ?_
      obtain ⟨S, hS⟩ : ∃ S : World → Prop, (fun W => W.cell? ⟨G, 1, none⟩ = some (.map (some b))) = S := ⟨_, rfl⟩
      have C1 : Hid (∀ w', S w' → w'.cell? ⟨G, 1, none⟩ = some (.map (some b))) := Lib.hid (fun w' h => by rw [← hS] at h; exact h)
      have HSS : Hid (S V.drew) := Lib.hid (by rw [← hS]; exact hcd)
      have HS2 : Hid (S V') := Lib.hid (by rw [← hS]; exact hcell')
      clear hS hcell'
      refine wp_region_held_drew (S := S) (by kernel_rfl) HSS.out (fun hHeld => ?_)
      generalize V.drew = U at *
      refine wpAnyH_take (i := 0) (v := ?_) rfl (by kernel_rfl) (by kernel_rfl) (by kernel_rfl) (fun _ _ _ h => h) (Or.inl ⟨by rfl, ?_⟩) (by assumption) ?_
      rotate_left
      · (intro w hSw; go_simp; try (with_reducible rfl))
      try simp only [Act.put, List.getElem_toArray, List.getElem_cons_zero, List.setIfInBounds_toArray, List.set_cons_zero, List.set_cons_succ]
      refine wpAnyH_take (i := 1) (v := ?_) rfl (by kernel_rfl) (by kernel_rfl) (by kernel_rfl) (fun _ _ _ h => h) (Or.inl ⟨by rfl, ?_⟩) (by assumption) ?_
      rotate_left
      · (intro w hSw; go_simp; try (with_reducible rfl))
      try simp only [Act.put, List.getElem_toArray, List.getElem_cons_zero, List.getElem_cons_succ, List.setIfInBounds_toArray, List.set_cons_zero, List.set_cons_succ]
      refine wpAnyH_take (i := 2) (v := ?_) rfl (by kernel_rfl) (by kernel_rfl) (by kernel_rfl) (fun _ _ _ h => h) (Or.inl ⟨by rfl, ?_⟩) (by assumption) ?_
      rotate_left
      · (intro w hSw; go_simp; try (with_reducible rfl))
      try simp only [Act.put, List.getElem_toArray, List.getElem_cons_zero, List.getElem_cons_succ, List.setIfInBounds_toArray, List.set_cons_zero, List.set_cons_succ]
      refine wpAnyH_take (i := 3) (v := ?_) rfl (by kernel_rfl) (by kernel_rfl) (by kernel_rfl) (fun _ _ _ h => h) (Or.inl ⟨by rfl, ?_⟩) (by assumption) ?_
      rotate_left
      · (intro w hSw; have hc0 := C1.out w hSw; go_simp; try (with_reducible rfl))
      try simp only [Act.put, List.getElem_toArray, List.getElem_cons_zero, List.getElem_cons_succ, List.setIfInBounds_toArray, List.set_cons_zero, List.set_cons_succ]
      refine wpAnyH_take (i := 4) (v := ?_) rfl (by kernel_rfl) (by kernel_rfl) (by kernel_rfl) (fun _ _ _ h => h) (Or.inl ⟨by rfl, ?_⟩) (by assumption) ?_
      rotate_left
      · (intro w hSw; go_simp; try (with_reducible rfl))
      try simp only [Act.put, List.getElem_toArray, List.getElem_cons_zero, List.getElem_cons_succ, List.setIfInBounds_toArray, List.set_cons_zero, List.set_cons_succ]
      refine wpAnyH_take (i := 5) (v := ?_) rfl (by kernel_rfl) (by kernel_rfl) (by kernel_rfl) (fun _ _ _ h => h) (Or.inl ⟨by rfl, ?_⟩) (by assumption) ?_
      rotate_left
      · (intro w hSw; go_simp; try (with_reducible rfl))
      try simp only [Act.put, List.getElem_toArray, List.getElem_cons_zero, List.getElem_cons_succ, List.setIfInBounds_toArray, List.set_cons_zero, List.set_cons_succ]
      refine wpAnyH_ready (rs := [6]) (by kernel_rfl) (by simp) ?_
      refine AllReadyH.cons rfl (fun K hK => ?_) AllReadyH.nil
      go_simp
      refine HLE2.out.mono ?_
      rintro e w2 ⟨rfl, rfl⟩
      go_wp2_with fail
      refine hK.out _ _ HSS.out (fun hHeld => ?_)
      clear hK K
      try simp only [Act.put, List.getElem_toArray, List.getElem_cons_zero, List.getElem_cons_succ, List.setIfInBounds_toArray, List.set_cons_zero, List.set_cons_succ]
      refine wpAnyH_ready (rs := [7]) (by kernel_rfl) (by simp) ?_
      refine ready_one rfl rfl (fun K hK => ?_)
      have hrun2 := HRUN.out
      go_wp2_with fail
      refine hK.out _ _ HS2.out (fun hHeldb => ?_)
      clear hK K
      refine wpAnyH_done (by kernel_rfl) ?_ _
      refine NoPanic.normal ?_
      clear hrun2 HRUN hcd HSS C1 HS2 hHeld hHeldb hg1 hg2 hc1
      go_wp2_with fail
      go_end0
      exact HN2.out
    | some b =>
      have HFI := Lib.hid ((FIN b w1.drew).out (HH.out.below ((Below.refl _ _).drew)) (Foot.ofBelow _ ((Below.refl _ _).drew)))
      have HLE2 := Lib.hid (wlenx_any (HH.out.below ((Below.refl w1.heap.size w1).drew)))
      have hcd : w1.drew.cell? ⟨G, 1, none⟩ = some (.map (some b)) := hc1
      clear FIN HLEN
      go_upto_region 3 with fail
      obtain ⟨V', hrun, hcell', HNR⟩ := HFI.out
      have HN2 := Lib.hid HNR
      have HRUN := Lib.hid hrun
      clear HNR HFI hrun
      refine wp_region_noPanic ?_
      obtain ⟨S, hS⟩ : ∃ S : World → Prop, (fun W => W.cell? ⟨G, 1, none⟩ = some (.map (some b))) = S := ⟨_, rfl⟩
      have C1 : Hid (∀ w', S w' → w'.cell? ⟨G, 1, none⟩ = some (.map (some b))) := Lib.hid (fun w' h => by rw [← hS] at h; exact h)
      have HSS : Hid (S w1.drew) := Lib.hid (by rw [← hS]; exact hcd)
      have HS2 : Hid (S V') := Lib.hid (by rw [← hS]; exact hcell')
      clear hS hcell'
      refine wp_region_held_drew (S := S) (by kernel_rfl) HSS.out (fun hHeld => ?_)
      generalize w1.drew = U at *
      refine wpAnyH_take (i := 0) (v := ?_) rfl (by kernel_rfl) (by kernel_rfl) (by kernel_rfl) (fun _ _ _ h => h) (Or.inl ⟨by rfl, ?_⟩) (by assumption) ?_
      rotate_left
      · (intro w hSw; go_simp; try (with_reducible rfl))
      try simp only [Act.put, List.getElem_toArray, List.getElem_cons_zero, List.setIfInBounds_toArray, List.set_cons_zero, List.set_cons_succ]
      refine wpAnyH_take (i := 1) (v := ?_) rfl (by kernel_rfl) (by kernel_rfl) (by kernel_rfl) (fun _ _ _ h => h) (Or.inl ⟨by rfl, ?_⟩) (by assumption) ?_
      rotate_left
      · (intro w hSw; go_simp; try (with_reducible rfl))
      try simp only [Act.put, List.getElem_toArray, List.getElem_cons_zero, List.getElem_cons_succ, List.setIfInBounds_toArray, List.set_cons_zero, List.set_cons_succ]
      refine wpAnyH_take (i := 2) (v := ?_) rfl (by kernel_rfl) (by kernel_rfl) (by kernel_rfl) (fun _ _ _ h => h) (Or.inl ⟨by rfl, ?_⟩) (by assumption) ?_
      rotate_left
      · (intro w hSw; go_simp; try (with_reducible rfl))
      try simp only [Act.put, List.getElem_toArray, List.getElem_cons_zero, List.getElem_cons_succ, List.setIfInBounds_toArray, List.set_cons_zero, List.set_cons_succ]
      refine wpAnyH_take (i := 3) (v := ?_) rfl (by kernel_rfl) (by kernel_rfl) (by kernel_rfl) (fun _ _ _ h => h) (Or.inl ⟨by rfl, ?_⟩) (by assumption) ?_
      rotate_left
      · (intro w hSw; have hc0 := C1.out w hSw; go_simp; try (with_reducible rfl))
      try simp only [Act.put, List.getElem_toArray, List.getElem_cons_zero, List.getElem_cons_succ, List.setIfInBounds_toArray, List.set_cons_zero, List.set_cons_succ]
      refine wpAnyH_take (i := 4) (v := ?_) rfl (by kernel_rfl) (by kernel_rfl) (by kernel_rfl) (fun _ _ _ h => h) (Or.inl ⟨by rfl, ?_⟩) (by assumption) ?_
      rotate_left
      · (intro w hSw; go_simp; try (with_reducible rfl))
      try simp only [Act.put, List.getElem_toArray, List.getElem_cons_zero, List.getElem_cons_succ, List.setIfInBounds_toArray, List.set_cons_zero, List.set_cons_succ]
      refine wpAnyH_take (i := 5) (v := ?_) rfl (by kernel_rfl) (by kernel_rfl) (by kernel_rfl) (fun _ _ _ h => h) (Or.inl ⟨by rfl, ?_⟩) (by assumption) ?_
      rotate_left
      · (intro w hSw; go_simp; try (with_reducible rfl))
      try simp only [Act.put, List.getElem_toArray, List.getElem_cons_zero, List.getElem_cons_succ, List.setIfInBounds_toArray, List.set_cons_zero, List.set_cons_succ]
      refine wpAnyH_ready (rs := [6]) (by kernel_rfl) (by simp) ?_
      refine AllReadyH.cons rfl (fun K hK => ?_) AllReadyH.nil
      go_simp
      refine HLE2.out.mono ?_
      rintro e w2 ⟨rfl, rfl⟩
      go_wp2_with fail
      refine hK.out _ _ HSS.out (fun hHeld => ?_)
      clear hK K
      try simp only [Act.put, List.getElem_toArray, List.getElem_cons_zero, List.getElem_cons_succ, List.setIfInBounds_toArray, List.set_cons_zero, List.set_cons_succ]
      refine wpAnyH_ready (rs := [7]) (by kernel_rfl) (by simp) ?_
      refine ready_one rfl rfl (fun K hK => ?_)
      have hrun2 := HRUN.out
      go_wp2_with fail
      refine hK.out _ _ HS2.out (fun hHeldb => ?_)
      clear hK K
      refine wpAnyH_done (by kernel_rfl) ?_ _
      refine NoPanic.normal ?_
      clear hrun2 HRUN hcd HSS C1 HS2 hHeld hHeldb hc1
      go_wp2_with fail
      go_end0
      exact HN2.out
  · rw [if_neg hbig, if_neg hbig]
    have hd : decide ((16384 : Int) ≤ (l.length : Int)) = true := decide_eq_true (by omega)
    have hdn : decide (16384 ≤ l.length) = true := decide_eq_true (by omega)
    clear h hf
    go_enter Try.func78, Try.ntmps78
    go_wp2_with fail
    refine HLEN.out.mono ?_
    rintro e w1 ⟨rfl, rfl⟩
    go_wp2_with fail
    go_end0
    exact ⟨rfl, m, HH.out, Foot.ofBelow _ (Below.refl _ _)⟩
end Go.Proofs.Yticdpidngmeebaa
/- Contracts of strings.Cut at a dot; of the landed cut, Parent, Under, labelOf. -/
namespace Go.Proofs.Yticdpidngmeebaa
open Go.RowKit
set_option linter.unusedVariables false
set_option maxRecDepth 20000

/-- What Cut hands back. -/
def CutRet (a b : ByteArray) (w : World) (e : Ending) (w' : World) : Prop := ∃ f, e = .returned (.tuple #[.string a, .string b, .bool f]) ∧ Below w.heap.size w w'
theorem extract_take (s : ByteArray) (i : Nat) : s.extract 0 i = ofL (s.data.toList.take i) := bytes_ext (by rw [data_extract, ofL_data, List.drop_zero, Nat.sub_zero])
theorem extract_drop (s : ByteArray) (i : Nat) : s.extract i s.size = ofL (s.data.toList.drop i) := bytes_ext (by
  rw [data_extract, ofL_data]
  exact List.take_of_length_le (by rw [List.length_drop, data_size]; omega))
set_option maxRecDepth 100000 in
set_option maxHeartbeats 2000000 in
theorem liteCut_any (s : ByteArray) (w : World) (hs : s.size ≤ 2000000) :
    Calls Try.prog 97 #[.string s, .string ⟨#[46]⟩] w (CutRet (firstB s) (parB s) w) := by
  have HI := Lib.hid (Try.stringslite_Index_one s 46 w)
  rcases index_dot s.data.toList with ⟨h1, _, h3, h4⟩ | ⟨i, h1, h2, h3, h4, _⟩
  · have EF : firstB s = s := by unfold firstB; rw [h3]; exact (eq_ofL rfl).symm
    have EP : parB s = ⟨#[]⟩ := by unfold parB; rw [h4]; rfl
    rw [EF, EP]
    rw [h1] at HI
    clear h1 h3 h4 EF EP
    go_enter Try.func97, Try.ntmps97
    go_wp2_with fail
    refine HI.out.mono ?_
    rintro e w1 ⟨rfl, rfl⟩
    go_wp2_with fail
    go_ret3
    exact ⟨false, rfl, Below.refl _ _⟩
  · rw [data_size] at h2
    have EF : Hid (firstB s = s.extract 0 i) := Lib.hid (by unfold firstB; rw [h3, extract_take])
    have EP : Hid (parB s = s.extract (i + 1) s.size) := Lib.hid (by unfold parB; rw [h4, extract_drop])
    rw [EF.out, EP.out]
    rw [h1] at HI
    clear h1 h3 h4
    have hd : decide ((0 : Int) ≤ (i : Int)) = true := decide_eq_true (by omega)
    have c1 : (0 : Int) ≤ (i : Int) := by omega
    have c2 : (i : Int) ≤ (s.size : Int) := by omega
    have c3 : (0 : Int) ≤ (i : Int) + 1 := by omega
    have c4 : (i : Int) + 1 ≤ (s.size : Int) := by omega
    have hw1 : IntKind.i64.wrap ((i : Int) + 1) = (i : Int) + 1 := by rw [IntKind.wrap_i64]; omega
    have ht : ((i : Int) + 1).toNat = i + 1 := by omega
    clear EF EP
    go_enter Try.func97, Try.ntmps97
    go_wp2_with fail
    refine HI.out.mono ?_
    rintro e w1 ⟨rfl, rfl⟩
    go_upto_region 3 with fail
    refine wp_region_noPanic ?_
    refine wp_region_held_drew (S := fun W => W = w1.drew) (by kernel_rfl) rfl (fun hHeld => ?_)
    refine wpAnyH_take (i := 0) (v := ?_) rfl (by kernel_rfl) (by kernel_rfl) (by kernel_rfl) (fun _ _ _ h => h) (Or.inl ⟨by rfl, ?_⟩) (by assumption) ?_
    rotate_left
    · (intro w hSw; go_simp; try (with_reducible rfl))
    try simp only [Act.put, List.getElem_toArray, List.getElem_cons_zero, List.setIfInBounds_toArray, List.set_cons_zero, List.set_cons_succ]
    refine wpAnyH_take (i := 1) (v := ?_) rfl (by kernel_rfl) (by kernel_rfl) (by kernel_rfl) (fun _ _ _ h => h) (Or.inl ⟨by rfl, ?_⟩) (by assumption) ?_
    rotate_left
    · (intro w hSw; go_simp; try (with_reducible rfl))
    try simp only [Act.put, List.getElem_toArray, List.getElem_cons_zero, List.getElem_cons_succ, List.setIfInBounds_toArray, List.set_cons_zero, List.set_cons_succ]
    refine wpAnyH_take (i := 2) (v := ?_) rfl (by kernel_rfl) (by kernel_rfl) (by kernel_rfl) (fun _ _ _ h => h) (Or.inl ⟨by rfl, ?_⟩) (by assumption) ?_
    rotate_left
    · (intro w hSw; go_simp; try (with_reducible rfl))
    try simp only [Act.put, List.getElem_toArray, List.getElem_cons_zero, List.getElem_cons_succ, List.setIfInBounds_toArray, List.set_cons_zero, List.set_cons_succ]
    refine wpAnyH_take (i := 3) (v := ?_) rfl (by kernel_rfl) (by kernel_rfl) (by kernel_rfl) (fun _ _ _ h => h) (Or.inl ⟨by rfl, ?_⟩) (by assumption) ?_
    rotate_left
    · (intro w hSw; go_simp; try (with_reducible rfl))
    try simp only [Act.put, List.getElem_toArray, List.getElem_cons_zero, List.getElem_cons_succ, List.setIfInBounds_toArray, List.set_cons_zero, List.set_cons_succ]
    refine wpAnyH_take (i := 4) (v := ?_) rfl (by kernel_rfl) (by kernel_rfl) (by kernel_rfl) (fun _ _ _ h => h) (Or.inl ⟨by rfl, ?_⟩) (by assumption) ?_
    rotate_left
    · (intro w hSw; go_simp; try (with_reducible rfl))
    try simp only [Act.put, List.getElem_toArray, List.getElem_cons_zero, List.getElem_cons_succ, List.setIfInBounds_toArray, List.set_cons_zero, List.set_cons_succ]
    refine wpAnyH_take (i := 5) (v := ?_) rfl (by kernel_rfl) (by kernel_rfl) (by kernel_rfl) (fun _ _ _ h => h) (Or.inl ⟨by rfl, ?_⟩) (by assumption) ?_
    rotate_left
    · (intro w hSw; go_simp; try (with_reducible rfl))
    try simp only [Act.put, List.getElem_toArray, List.getElem_cons_zero, List.getElem_cons_succ, List.setIfInBounds_toArray, List.set_cons_zero, List.set_cons_succ]
    refine wpAnyH_take (i := 6) (v := ?_) rfl (by kernel_rfl) (by kernel_rfl) (by kernel_rfl) (fun _ _ _ h => h) (Or.inl ⟨by rfl, ?_⟩) (by assumption) ?_
    rotate_left
    · (intro w hSw; go_simp; try (with_reducible rfl))
    try simp only [Act.put, List.getElem_toArray, List.getElem_cons_zero, List.getElem_cons_succ, List.setIfInBounds_toArray, List.set_cons_zero, List.set_cons_succ]
    refine wpAnyH_take (i := 7) (v := ?_) rfl (by kernel_rfl) (by kernel_rfl) (by kernel_rfl) (fun _ _ _ h => h) (Or.inl ⟨by rfl, ?_⟩) (by assumption) ?_
    rotate_left
    · (intro w hSw; go_simp; try (with_reducible rfl))
    try simp only [Act.put, List.getElem_toArray, List.getElem_cons_zero, List.getElem_cons_succ, List.setIfInBounds_toArray, List.set_cons_zero, List.set_cons_succ]
    refine wpAnyH_take (i := 8) (v := ?_) rfl (by kernel_rfl) (by kernel_rfl) (by kernel_rfl) (fun _ _ _ h => h) (Or.inl ⟨by rfl, ?_⟩) (by assumption) ?_
    rotate_left
    · (intro w hSw; go_simp; try (with_reducible rfl))
    try simp only [Act.put, List.getElem_toArray, List.getElem_cons_zero, List.getElem_cons_succ, List.setIfInBounds_toArray, List.set_cons_zero, List.set_cons_succ]
    refine wpAnyH_take (i := 9) (v := ?_) rfl (by kernel_rfl) (by kernel_rfl) (by kernel_rfl) (fun _ _ _ h => h) (Or.inl ⟨by rfl, ?_⟩) (by assumption) ?_
    rotate_left
    · (intro w hSw; go_simp; try (with_reducible rfl))
    try simp only [Act.put, List.getElem_toArray, List.getElem_cons_zero, List.getElem_cons_succ, List.setIfInBounds_toArray, List.set_cons_zero, List.set_cons_succ]
    refine wpAnyH_take (i := 10) (v := ?_) rfl (by kernel_rfl) (by kernel_rfl) (by kernel_rfl) (fun _ _ _ h => h) (Or.inl ⟨by rfl, ?_⟩) (by assumption) ?_
    rotate_left
    · (intro w hSw; go_simp; try (with_reducible rfl))
    try simp only [Act.put, List.getElem_toArray, List.getElem_cons_zero, List.getElem_cons_succ, List.setIfInBounds_toArray, List.set_cons_zero, List.set_cons_succ]
    refine wpAnyH_take (i := 11) (v := ?_) rfl (by kernel_rfl) (by kernel_rfl) (by kernel_rfl) (fun _ _ _ h => h) (Or.inl ⟨by rfl, ?_⟩) (by assumption) ?_
    rotate_left
    · (intro w hSw; go_simp; try (with_reducible rfl))
    try simp only [Act.put, List.getElem_toArray, List.getElem_cons_zero, List.getElem_cons_succ, List.setIfInBounds_toArray, List.set_cons_zero, List.set_cons_succ]
    refine wpAnyH_done (by kernel_rfl) ?_ _
    refine NoPanic.normal ?_
    go_wp2_with fail
    go_ret3
    exact ⟨true, rfl, (Below.refl _ _).drew⟩
set_option maxRecDepth 100000 in
theorem strCut_any (s : ByteArray) (w : World) (hs : s.size ≤ 2000000) :
    Calls Try.prog 93 #[.string s, .string ⟨#[46]⟩] w (CutRet (firstB s) (parB s) w) := by
  have HC := Lib.hid (liteCut_any s w hs)
  generalize firstB s = a at *
  generalize parB s = b at *
  go_enter Try.func93, Try.ntmps93
  go_wp2_with fail
  refine HC.out.mono ?_
  rintro e w1 ⟨f, rfl, hb⟩
  have HB := Lib.hid hb
  clear hb HC
  go_wp2_with fail
  go_ret3
  exact ⟨f, rfl, HB.out⟩
set_option maxRecDepth 100000 in
theorem cut8_any (s : ByteArray) (w : World) (hs : s.size ≤ 2000000) :
    Calls Try.prog 79 #[.string s] w fun e w' => e = .returned (.tuple #[.string (firstB s), .string (parB s)]) ∧ Below w.heap.size w w' := by
  have HC := Lib.hid (strCut_any s w hs)
  generalize firstB s = a at *
  generalize parB s = b at *
  go_enter Try.func79, Try.ntmps79
  go_wp2_with fail
  refine HC.out.mono ?_
  rintro e w1 ⟨f, rfl, hb⟩
  have HB := Lib.hid hb
  clear hb HC
  go_wp2_with fail
  go_ret2
  exact ⟨rfl, HB.out⟩
def strSz : Value → Nat
  | .string s => s.size
  | _ => 0
end Go.Proofs.Yticdpidngmeebaa
/- Contracts of the landed writer's Name, and of Bytes. -/
namespace Go.Proofs.Yticdpidngmeebaa
open Go.RowKit Go.Maps
set_option linter.unusedVariables false
set_option maxRecDepth 20000

/-- What Name leaves. -/
def WNameRet (w : World) (G B : Nat) (F0 : List Nat) (b : Bool) (R : List UInt8 × List ByteArray × List Nat) (e : Ending) (w' : World) : Prop :=
  e = .returned (.bool b) ∧ ∃ vB m, WrAt w' G B vB m R.1 R.2.1 R.2.2 ∧ Foot F0 (wblk G vB m) w w'
/-- A label's bytes as a conversion lays them. -/
theorem conv_below (w : World) (s : ByteArray) : Below w.heap.size w (Lib.bytesWorld w 5 s) := ⟨rfl, rfl, rfl, by rw [Lib.bytesWorld_size]; omega, fun k hk => Lib.bytesWorld_at_old w _ s k hk⟩
theorem conv_cells (w : World) (s : ByteArray) : ∀ j u, (bys s.data.toList)[j]? = some u → (Lib.bytesWorld w 5 s).cell? ⟨w.heap.size, j, none⟩ = some u := by
  intro j u hu
  have hj : j < s.size := by
    have := (List.getElem?_eq_some_iff.1 hu).1
    rw [bys_length, data_size] at this
    exact this
  rw [Lib.bytesWorld_cell w _ s j hj]
  have hj2 : j < s.data.toList.length := by rw [data_size]; exact hj
  unfold bys at hu
  rw [List.getElem?_map, List.getElem?_eq_getElem hj2] at hu
  rw [List.getD_eq_getElem?_getD, List.getElem?_eq_getElem hj2]
  exact hu
theorem bys_sz {p : ByteArray} (h : p.size ≤ 63) : bys [UInt8.ofNat p.size] = [.int .u8 (p.size : Int)] := by
  rw [bys_one]
  congr 2
  omega
end Go.Proofs.Yticdpidngmeebaa
/- Contract of Name of the landed writer of wire: as LabName, the cells behind kept. -/
namespace Go.Proofs.Yticdpidngmeebaa
open Go.RowKit Go.Maps
set_option linter.unusedVariables false
set_option maxRecDepth 20000

/-- What Name leaves. -/
def WNameRetX (X : Nat → Option Value) (w : World) (G B : Nat) (F0 : List Nat) (b : Bool) (R : List UInt8 × List ByteArray × List Nat) (e : Ending) (w' : World) : Prop :=
  e = .returned (.bool b) ∧ ∃ vB m, WxAt X w' G B vB m R.1 R.2.1 R.2.2 ∧ Foot F0 (wblk G vB m) w w'
set_option maxRecDepth 100000 in
set_option maxHeartbeats 4000000 in
theorem namex_any {X : Nat → Option Value} {w : World} {G B : Nat} {vB0 : Value} {m0 : Option Nat} {l0 : List UInt8} {ns0 : List ByteArray} {ats0 : List Nat} (s : ByteArray) (h : WxAt X w G B vB0 m0 l0 ns0 ats0) (hs : s.size ≤ 2000000) (hl : l0.length ≤ 100000) (hns : ns0.length ≤ 100000) (hla : ats0.length = ns0.length) (hat : ∀ a ∈ ats0, a < 16384) (hB : B ≤ w.heap.size) :
    Calls Try.prog 57 #[.pointer (some ⟨G, 0, none⟩), .string s] w (WNameRetX X w G B (wblk G vB0 m0) (mayN s) (if mayN s = true then nm8 s (labelsB s) ((labelsB s).length + 1) 0 l0 ns0 ats0 else (l0, ns0, ats0))) := by
  have HMA := Lib.hid (may_any s w hs)
  have HH := Lib.hid h
  cases hmay : mayN s with
  | false =>
    rw [hmay] at HMA
    rw [if_neg (by decide)]
    clear h hat hmay
    go_enter Try.func57, Try.ntmps57
    go_wp2_with fail
    refine HMA.out.mono ?_
    rintro e w1 ⟨rfl, hb⟩
    have HB1 := Lib.hid hb
    clear hb HMA
    go_wp2_with fail
    go_ret
    exact ⟨rfl, _, _, HH.out.below HB1.out, Foot.ofBelow _ HB1.out⟩
  | true =>
    rw [hmay] at HMA
    rw [if_pos rfl]
    have HFU := Lib.hid (may_full hmay)
    have HSM := Lib.hid (may_small hmay)
    have HLB := Lib.hid (may_label hmay)
    have hs253 := may_small hmay
    obtain ⟨N, hN⟩ : ∃ N, (labelsB s).length = N := ⟨_, rfl⟩
    have HN := Lib.hid hN
    have hNs : N ≤ s.size + 1 := by rw [← hN]; exact labels_len s
    obtain ⟨R, hR⟩ : ∃ R, nm8 s (labelsB s) ((labelsB s).length + 1) 0 l0 ns0 ats0 = R := ⟨_, rfl⟩
    have HR := Lib.hid hR
    rw [hR]
    rw [hN] at HR
    have HLA := Lib.hid hla
    have HAT := Lib.hid hat
    have HHB := HH
    clear h hla hat hmay hR hN
    go_enter Try.func57, Try.ntmps57
    go_wp2_with fail
    refine HMA.out.mono ?_
    rintro e w1 ⟨rfl, hb⟩
    have HW1 := Lib.hid (HH.out.below hb)
    have HF1 := Lib.hid (Foot.ofBelow (wblk G vB0 m0) hb)
    have hsz1 := hb.size
    clear hb HMA HH HHB
    have HR0 := Lib.hid (rest_zero s)
    go_wp2_with fail
    go_loopw [5] (fun v wr => ∃ (i f : Nat) (l : List UInt8) (ns : List ByteArray) (ats : List Nat) (vB : Value) (m : Option Nat), i ≤ N ∧ N + 1 = i + f ∧ v = .string (restB s i) ∧ l.length ≤ 100000 + i * 1000 ∧ ns.length ≤ 100000 + i ∧ Hid (ats.length = ns.length) ∧ Hid (∀ a ∈ ats, a < 16384) ∧ Hid (nm8 s (labelsB s) f i l ns ats = R) ∧ Hid (WxAt X wr G B vB m l ns ats) ∧ Hid (Foot (wblk G vB0 m0) (wblk G vB m) w wr)) (fun v _ => strSz v)
    case atStart => exact ⟨0, N + 1, l0, ns0, ats0, vB0, m0, Nat.zero_le _, by omega, by rw [HR0.out], by omega, by omega, HLA, HAT, HR, HW1, HF1⟩
    case round =>
      clear HW1 HF1 HR0 HR HLA HAT
      obtain ⟨i, f0, l, ns, ats, vB, m, hi, hif, rfl, hll, hnn, HLA, HAT, HR, HW, HF⟩ := hrel
      obtain ⟨f, rfl⟩ : ∃ f, f0 = f + 1 := ⟨f0 - 1, by omega⟩
      have hBw : B ≤ wr.heap.size := by have := HF.out.size; omega
      have hrl := rest_le s i
      have HRP := Lib.hid (rest_pos HFU.out i)
      by_cases hiN : i < N
      · have hrp : 0 < (restB s i).size := HRP.out.2 (by rw [HN.out]; exact hiN)
        have he := isEmpty_false (restB s i) hrp
        have HFI := Lib.hid (label_first HFU.out i (by rw [HN.out]; exact hiN))
        have hflab := HLB.out (firstB (restB s i)) (by
          rw [← HFI.out]
          have h : i < (labelsB s).length := by rw [HN.out]; exact hiN
          rw [List.getD_eq_getElem?_getD, List.getElem?_eq_getElem h]
          exact List.getElem_mem h)
        have hplt := par_lt (restB s i) hrp
        have hfl1 := hflab.1
        have hfl2 := hflab.2
        unfold nm8 at HR
        rw [HN.out, if_neg (by omega), HFI.out] at HR
        have hlook := HW.out.mp.look (restB s i) (by omega)
        have hc1 := HW.out.c1
        have HMEM := Lib.hid (fun n => fun (h : find8 ns ats (restB s i) = some n) => HAT.out n (find8_mem ns ats (restB s i) n h))
        have HNO := Lib.hid (fun (h : find8 ns ats (restB s i) = none) => notex_any (restB s i) HW.out (by omega) (by omega) (by omega) HLA.out h hBw)
        have HCU := fun W => Lib.hid (cut8_any (restB s i) W (by omega))
        have HRN := Lib.hid (rest_par i s)
        generalize firstB (restB s i) = p at *
        generalize parB (restB s i) = r2 at *
        cases hfind : find8 ns ats (restB s i) with
        | some n =>
          rw [hfind] at hlook HR
          have hn := HMEM.out n hfind
          obtain ⟨mm, hm2, hmm, hbm⟩ := ptr_two n hn
          simp only at HR
          rw [hmm] at HR
          have HBM := Lib.hid hbm
          have HM2 := Lib.hid hm2
          have ER := HR.out.symm
          subst ER
          have hlk : (Instr.lookup 58 (.map m) (.string (restB s i)) true).run Try.prog wr = .ok (.tuple #[.int .i64 (n : Int), .bool true]) wr := hlook
          clear HMEM hmm hbm hm2 HNO HCU hlook hfind HRN HFI HR
          generalize restB s i = r at *
          have hsh : (n : Int) / 256 < 64 := by omega
          have hw1 : IntKind.u8.wrap ((n : Int) / 256) = (n : Int) / 256 := by rw [IntKind.wrap_u8]; omega
          have hor : bits .or .u8 192 ((n : Int) / 256) = 192 + (n : Int) / 256 := bits_join .u8 8 (by decide) (fun n h0 h1 => by rw [IntKind.wrap_u8]; omega) 6 192 ((n : Int) / 256) (by omega) (by omega) (by omega) (by omega) (by omega) (by omega)
          have HSx := Lib.hid (HW.out.below (w' := wr.alloc (.cells #[.int .u8 (192 + (n : Int) / 256), .int .u8 ((n : Int) % 256)] 5)) ((Below.refl _ _).alloc (Nat.le_refl _) _))
          have HC1 : Hid (∀ j u, (bys mm)[j]? = some u → (wr.alloc (.cells #[.int .u8 (192 + (n : Int) / 256), .int .u8 ((n : Int) % 256)] 5)).cell? ⟨wr.heap.size, j, none⟩ = some u) := Lib.hid (fun j u hu => cells_new8 wr [.int .u8 (192 + (n : Int) / 256), .int .u8 ((n : Int) % 256)] 5 j u (by rw [← HBM.out]; exact hu))
          have HRA := Lib.hid (rawx_any (c := 2) mm HSx.out HC1.out (by have := HM2.out; omega) (by simp; omega))
          rw [HM2.out] at HRA
          have HFx := Lib.hid (HF.out.trans (Foot.ofBelow (wblk G vB m) (w' := wr.alloc (.cells #[.int .u8 (192 + (n : Int) / 256), .int .u8 ((n : Int) % 256)] 5)) ((Below.refl _ _).alloc (Nat.le_refl _) _)))
          go_wp2_with fail
          refine HRA.out.mono ?_
          rintro e w2 ⟨rfl, vB', hW2, hF2⟩
          have HW2 := Lib.hid hW2
          have HF2 := Lib.hid (HFx.out.trans hF2)
          clear hW2 hF2 HRA HFx HSx HC1 hc1 hlk
          go_wp2_with fail
          go_ret
          exact ⟨rfl, _, _, HW2.out, HF2.out⟩
        | none =>
          rw [hfind] at hlook HR
          have HNT := Lib.hid (HNO.out hfind)
          simp only at HR
          have hlk : (Instr.lookup 58 (.map m) (.string (restB s i)) true).run Try.prog wr = .ok (.tuple #[.int .i64 0, .bool false]) wr := hlook
          clear HMEM HNO hlook hfind HFI
          obtain ⟨ns2, hns2⟩ : ∃ ns2, (if l.length < 16384 then ns ++ [restB s i] else ns) = ns2 := ⟨_, rfl⟩
          obtain ⟨ats2, hats2⟩ : ∃ ats2, (if l.length < 16384 then ats ++ [l.length] else ats) = ats2 := ⟨_, rfl⟩
          have hthree : ats2.length = ns2.length ∧ ns2.length ≤ 100000 + (i + 1) ∧ ∀ a ∈ ats2, a < 16384 := by
            have h1 := HLA.out
            by_cases hb : l.length < 16384
            · rw [if_pos hb] at hns2 hats2
              rw [← hns2, ← hats2]
              refine ⟨by simp [h1], by simp; omega, fun a ha => ?_⟩
              rcases List.mem_append.1 ha with ha | ha
              · exact HAT.out a ha
              · rw [List.mem_singleton.1 ha]; exact hb
            · rw [if_neg hb] at hns2 hats2
              rw [← hns2, ← hats2]
              exact ⟨h1, by omega, HAT.out⟩
          have HLA2 := Lib.hid hthree.1
          have hnn2 := hthree.2.1
          have HAT2 := Lib.hid hthree.2.2
          clear hthree
          rw [hns2, hats2] at HNT HR
          clear hns2 hats2 HLA HAT
          generalize restB s i = r at *
          go_wp2_with fail
          refine HNT.out.mono ?_
          rintro e w2 ⟨rfl, m2, hW2, hF2⟩
          have HW2 := Lib.hid hW2
          have HF2 := Lib.hid (HF.out.trans hF2)
          have hsz2 := hF2.size
          clear hW2 hF2 HNT hc1 hlk HW HF
          go_wp2_with fail
          refine (HCU _).out.mono ?_
          rintro e w3 ⟨rfl, hb3⟩
          have HW3 := Lib.hid (HW2.out.below hb3)
          have HF3 := Lib.hid (HF2.out.trans (Foot.ofBelow _ hb3))
          have hsz3 := hb3.size
          clear hb3 HCU HW2 HF2
          have HSx := Lib.hid (HW3.out.below (w' := w3.alloc (.cells #[.int .u8 (p.size : Int)] 5)) ((Below.refl _ _).alloc (Nat.le_refl _) _))
          have HC1 : Hid (∀ j u, (bys [UInt8.ofNat p.size])[j]? = some u → (w3.alloc (.cells #[.int .u8 (p.size : Int)] 5)).cell? ⟨w3.heap.size, j, none⟩ = some u) := Lib.hid (fun j u hu => cells_new8 w3 [.int .u8 (p.size : Int)] 5 j u (by rw [← bys_sz hflab.2]; exact hu))
          have HRA := Lib.hid (rawx_any (c := 1) [UInt8.ofNat p.size] HSx.out HC1.out (by simp; omega) (by simp; omega))
          have HFx := Lib.hid (HF3.out.trans (Foot.ofBelow (wblk G vB m2) (w' := w3.alloc (.cells #[.int .u8 (p.size : Int)] 5)) ((Below.refl _ _).alloc (Nat.le_refl _) _)))
          obtain ⟨lz, hlz⟩ : ∃ lz, l ++ [UInt8.ofNat p.size] = lz := ⟨_, rfl⟩
          rw [hlz] at HRA
          have HLZ := Lib.hid hlz
          have hlzl : lz.length = l.length + 1 := by rw [← hlz]; simp
          clear hlz
          go_wp2_with fail
          refine HRA.out.mono ?_
          rintro e w4 ⟨rfl, vB4, hW4, hF4⟩
          have HW4 := Lib.hid hW4
          have HF4 := Lib.hid (HFx.out.trans hF4)
          have hsz4 := hF4.size
          simp at hsz4
          clear hW4 hF4 HRA HFx HSx HC1 HF3 HW3
          have hconv := Lib.run_convert_string_bytes (P := Try.prog) w4 9 27 5 p Try.underlying9 Try.underlying27 Try.underlying5
          have HCB := Lib.hid (conv_below w4 p)
          have HCC := Lib.hid (conv_cells w4 p)
          generalize Lib.bytesWorld w4 5 p = W5 at *
          generalize grownCap w4 p.size 0 5 = cap5 at *
          have HSy := Lib.hid (HW4.out.below HCB.out)
          have HRB := Lib.hid (rawx_any (c := cap5) p.data.toList HSy.out HCC.out (by rw [data_size]; omega) (by have := HCB.out.size; omega))
          rw [data_size] at HRB
          have HFy := Lib.hid (HF4.out.trans (Foot.ofBelow (wblk G vB4 m2) HCB.out))
          clear HCC HSy HCB HF4 HW4
          go_wp2_with fail
          refine HRB.out.mono ?_
          rintro e w6 ⟨rfl, vB6, hW6, hF6⟩
          have HW6 := Lib.hid hW6
          have HF6 := Lib.hid (HFy.out.trans hF6)
          clear hW6 hF6 HRB HFy hconv
          obtain ⟨ly, hly⟩ : ∃ ly, lz ++ p.data.toList = ly := ⟨_, rfl⟩
          rw [hly] at HW6
          have hlyl : ly.length ≤ 100000 + (i + 1) * 1000 := by
            rw [← hly, List.length_append, data_size]
            omega
          have HRf : Hid (nm8 s (labelsB s) f (i + 1) ly ns2 ats2 = R) := Lib.hid (by rw [← hly, ← HLZ.out, List.append_assoc]; exact HR.out)
          clear HR hly HLZ
          go_wp2_with fail
          go_roundw
          case rel => exact ⟨i + 1, f, ly, ns2, ats2, vB6, m2, by omega, by omega, by rw [HRN.out], hlyl, hnn2, HLA2, HAT2, HRf, HW6, HF6⟩
          case measure => simp [strSz]; omega
      · obtain rfl : i = N := by omega
        have hr0 : (restB s i).size = 0 := by
          have := HRP.out
          rw [HN.out] at this
          omega
        have he := isEmpty_true (restB s i) hr0
        unfold nm8 at HR
        rw [HN.out, if_pos (Nat.le_refl _)] at HR
        have ER := HR.out.symm
        subst ER
        generalize restB s i = r at *
        have HSx := Lib.hid (HW.out.below (w' := wr.alloc (.cells #[.int .u8 0] 5)) ((Below.refl _ _).alloc (Nat.le_refl _) _))
        have HC1 : Hid (∀ j u, (bys [0])[j]? = some u → (wr.alloc (.cells #[.int .u8 0] 5)).cell? ⟨wr.heap.size, j, none⟩ = some u) := Lib.hid (fun j u hu => cells_new8 wr [.int .u8 0] 5 j u hu)
        have HRA := Lib.hid (rawx_any (c := 1) [0] HSx.out HC1.out (by simp; omega) (by simp; omega))
        have HFx := Lib.hid (HF.out.trans (Foot.ofBelow (wblk G vB m) (w' := wr.alloc (.cells #[.int .u8 0] 5)) ((Below.refl _ _).alloc (Nat.le_refl _) _)))
        clear HR HRP
        go_wp2_with fail
        refine HRA.out.mono ?_
        rintro e w2 ⟨rfl, vB', hW2, hF2⟩
        have HW2 := Lib.hid hW2
        have HF2 := Lib.hid (HFx.out.trans hF2)
        clear hW2 hF2 HRA HFx HSx HC1
        go_wp2_with fail
        go_ret
        exact ⟨rfl, _, _, HW2.out, HF2.out⟩
end Go.Proofs.Yticdpidngmeebaa
/- Contracts of the landed writer of wire: full, numbers. -/
namespace Go.Proofs.Yticdpidngmeebaa
open Go.RowKit Go.Maps
set_option linter.unusedVariables false
set_option maxRecDepth 20000

theorem full_any {w : World} {G B : Nat} {vB : Value} {m : Option Nat} {l : List UInt8} {ns : List ByteArray} {ats : List Nat} (h : WrAt w G B vB m l ns ats) :
    Calls Try.prog 31 #[.pointer (some ⟨G, 0, none⟩)] w fun e w' => e = .returned (.bool (decide (1232 < l.length))) ∧ w' = w := by
  have HL := Lib.hid (wlen_any h)
  generalize l.length = N at *
  clear h
  by_cases h1 : 1232 < N
  · have hd : decide ((1232 : Int) < (N : Int)) = true := decide_eq_true (by omega)
    have hdn : decide (1232 < N) = true := decide_eq_true h1
    rw [hdn]
    go_enter Try.func31, Try.ntmps31
    go_wp2_with fail
    refine HL.out.mono ?_
    rintro e w1 ⟨rfl, rfl⟩
    go_wp2_with fail
    go_ret
    exact ⟨rfl, rfl⟩
  · have hd : decide ((1232 : Int) < (N : Int)) = false := decide_eq_false (by omega)
    have hdn : decide (1232 < N) = false := decide_eq_false h1
    rw [hdn]
    go_enter Try.func31, Try.ntmps31
    go_wp2_with fail
    refine HL.out.mono ?_
    rintro e w1 ⟨rfl, rfl⟩
    go_wp2_with fail
    go_ret
    exact ⟨rfl, rfl⟩
def flat2 (l : List Nat) : List UInt8 := l.flatMap twoL
theorem flat2_len : ∀ l : List Nat, (flat2 l).length = 2 * l.length
  | [] => rfl
  | n :: l => by
    have := flat2_len l
    unfold flat2 at this ⊢
    rw [List.flatMap_cons, List.length_append, this, List.length_cons]
    show 2 + _ = _
    omega
theorem bys_2of (n : Nat) : bys (twoL n) = [.int .u8 ((n : Int) / 256 % 256), .int .u8 ((n : Int) % 256)] := by
  have h1 : ((n / 256 % 2 ^ 8 : Nat) : Int) = (n : Int) / 256 % 256 := by omega
  have h2 : ((n % 256 % 2 ^ 8 : Nat) : Int) = (n : Int) % 256 := by omega
  unfold bys twoL
  simp only [List.map_cons, List.map_nil, UInt8.toNat_ofNat', h1, h2]
def nats9 (l : List Nat) : List Value := l.map fun (z : Nat) => Value.int .i64 (z : Int)
set_option maxRecDepth 100000 in
set_option maxHeartbeats 2000000 in
theorem numbers_any {X : Nat → Option Value} {w : World} {G B g c : Nat} {vB : Value} {m : Option Nat} {l0 : List UInt8} {ns : List ByteArray} {ats : List Nat} (l : List Nat) (h : WxAt X w G B vB m l0 ns ats) (hc : w.rangeAt g 0 (nats9 l)) (hg : g < w.heap.size) (hng : g ∉ wblk G vB m) (hl : l.length ≤ 1000) (hz : ∀ n ∈ l, n ≤ 2147483647) (hl0 : l0.length ≤ 1000000) (hB : B ≤ w.heap.size) :
    Calls Try.prog 28 #[.pointer (some ⟨G, 0, none⟩), .slice (some ⟨g, 0, none⟩) l.length c] w fun e w' => e = .returned (.tuple #[]) ∧ ∃ vB', WxAt X w' G B vB' m (l0 ++ flat2 l) ns ats ∧ Foot (wblk G vB m) (wblk G vB' m) w w' := by
  obtain ⟨N, hN⟩ : ∃ N, l.length = N := ⟨_, rfl⟩
  have HN := Lib.hid hN
  have HC := Lib.hid hc
  have HG := Lib.hid hg
  have HNG := Lib.hid hng
  have HZ := Lib.hid hz
  have HH := Lib.hid h
  have HLEN := Lib.hid (flat2_len)
  rw [hN] at hl ⊢
  clear hN hc hg hng hz h
  go_enter Try.func28, Try.ntmps28
  go_wp2_with fail
  go_loopw [8] (fun i wr => ∃ (k : Nat) (vB' : Value), k ≤ N ∧ i = .int .i64 (k : Int) ∧ Hid (WxAt X wr G B vB' m (l0 ++ flat2 (l.take k)) ns ats) ∧ Hid (Foot (wblk G vB m) (wblk G vB' m) w wr)) (fun i _ => N - (intOf i).toNat)
  case atStart => exact ⟨0, vB, Nat.zero_le _, rfl, Lib.hid (by simpa [flat2] using HH.out), Lib.hid (Foot.ofBelow _ (Below.refl _ _))⟩
  case round =>
    obtain ⟨k, vB', hk, rfl, HX, HF⟩ := hrel
    by_cases hkN : k < N
    · have hd : decide ((k : Int) < (N : Int)) = true := decide_eq_true (by omega)
      have hdn : decide (k < N) = true := decide_eq_true hkN
      have hkD : k < l.length := by rw [HN.out]; exact hkN
      have hcell := range_foot HF.out HC.out HG.out HNG.out k (.int .i64 (l[k] : Int)) (by unfold nats9; rw [List.getElem?_map, List.getElem?_eq_getElem hkD]; rfl)
      rw [Nat.zero_add] at hcell
      have hzk := HZ.out l[k] (List.getElem_mem hkD)
      have hBw : B ≤ wr.heap.size := Nat.le_trans hB HF.out.size
      have HTK : Hid (l.take (k + 1) = l.take k ++ [l[k]]) := Lib.hid (by rw [List.take_add_one, List.getElem?_eq_getElem hkD]; rfl)
      have hlt : (l0 ++ flat2 (l.take k)).length ≤ 1010000 := by rw [List.length_append, flat2_len, List.length_take]; omega
      generalize l[k] = n at *
      have hb1 : (0 : Int) ≤ (k : Int) := by omega
      have hb2 : (k : Int) < (N : Int) := by omega
      have HBY := Lib.hid (bys_2of n)
      have HSx := Lib.hid (HX.out.below (w' := wr.alloc (.cells #[.int .u8 ((n : Int) / 256 % 256), .int .u8 ((n : Int) % 256)] 5)) ((Below.refl _ _).alloc (Nat.le_refl _) _))
      have HC1 : Hid (∀ j u, (bys (twoL n))[j]? = some u → (wr.alloc (.cells #[.int .u8 ((n : Int) / 256 % 256), .int .u8 ((n : Int) % 256)] 5)).cell? ⟨wr.heap.size, j, none⟩ = some u) := Lib.hid (fun j u hu => cells_new8 wr [.int .u8 ((n : Int) / 256 % 256), .int .u8 ((n : Int) % 256)] 5 j u (by rw [← HBY.out]; exact hu))
      have HRA := Lib.hid (rawx_any (c := 2) (twoL n) HSx.out HC1.out (by have : (twoL n).length = 2 := rfl; omega) (by simp; omega))
      have hl2 : (twoL n).length = 2 := rfl
      rw [hl2] at HRA
      have HFx := Lib.hid (HF.out.trans (Foot.ofBelow (wblk G vB' m) (w' := wr.alloc (.cells #[.int .u8 ((n : Int) / 256 % 256), .int .u8 ((n : Int) % 256)] 5)) ((Below.refl _ _).alloc (Nat.le_refl _) _)))
      obtain ⟨lz, hlz⟩ : ∃ lz, l0 ++ flat2 (l.take k) ++ twoL n = lz := ⟨_, rfl⟩
      rw [hlz] at HRA
      have HLZ : Hid (lz = l0 ++ flat2 (l.take (k + 1))) := Lib.hid (by rw [← hlz, HTK.out]; simp [flat2])
      clear hlz HTK hlt HBY HX HF hl2
      go_wp2_with fail
      refine HRA.out.mono ?_
      rintro e w2 ⟨rfl, vB2, hW2, hF2⟩
      have HW2 := Lib.hid hW2
      have HF2 := Lib.hid (HFx.out.trans hF2)
      clear hW2 hF2 HRA HFx HSx HC1 hcell hzk
      go_wp2_with fail
      go_roundw
      case rel => exact ⟨k + 1, vB2, by omega, by go_num, by rw [← HLZ.out]; exact HW2, HF2⟩
      case measure => simp [intOf]; omega
    · obtain rfl : k = N := by omega
      have hd : decide ((k : Int) < (k : Int)) = false := by simp
      have HEQ : Hid (l.take k = l) := Lib.hid (List.take_of_length_le (by rw [HN.out]; exact Nat.le_refl _))
      go_wp2_with fail
      go_end0
      refine ⟨rfl, vB', ?_, HF.out⟩
      have := HX.out
      rw [HEQ.out] at this
      exact this
end Go.Proofs.Yticdpidngmeebaa
/- Contract of the landed writer's asked: what was asked, written as long as there is room. -/
namespace Go.Proofs.Yticdpidngmeebaa
open Go.RowKit Go.Maps
set_option linter.unusedVariables false
set_option maxRecDepth 20000

theorem gd_full {α : Type} (f : Wst → α → Wst) : ∀ (D : List α) (t : Wst), 1232 < t.1.length → D.foldl (gd f) t = t
  | [], _, _ => rfl
  | x :: D, t, h => by
    show D.foldl (gd f) (gd f t x) = t
    rw [show gd f t x = t by unfold gd; rw [if_pos h]]
    exact gd_full f D t h
theorem fold_at {α : Type} (f : Wst → α → Wst) (D : List α) (t : Wst) (k : Nat) (hk : k < D.length) : (D.take (k + 1)).foldl f t = f ((D.take k).foldl f t) D[k] := by
  rw [List.take_add_one, List.getElem?_eq_getElem hk, List.foldl_append]
  rfl
theorem fold_rest {α : Type} (f : Wst → α → Wst) (D : List α) (t : Wst) (k : Nat) : D.foldl f t = (D.drop k).foldl f ((D.take k).foldl f t) := by
  rw [← List.foldl_append, List.take_append_drop]
/-- What writing leaves. -/
def WrRet (X : Nat → Option Value) (w : World) (G B : Nat) (F0 : List Nat) (t : Wst) (e : Ending) (w' : World) : Prop :=
  e = .returned (.tuple #[]) ∧ ∃ vB m, WxAt X w' G B vB m t.1 t.2.1 t.2.2 ∧ Foot F0 (wblk G vB m) w w'
set_option maxRecDepth 100000 in
set_option maxHeartbeats 4000000 in
theorem asked_any {X : Nat → Option Value} {w w0 : World} {G B : Nat} {vB : Value} {m : Option Nat} {u : Wst} (a : Option Addr) (cap : Nat) (D : List Qu) (h : WxAt X w G B vB m u.1 u.2.1 u.2.2) (hok : Wok 90000 u) (hQ : QusAt w0 a cap D) (hB0 : w0.heap.size = B) (hbw : Below B w0 w) (hm : ∀ q ∈ D, mayQ9 q = true) (hl : D.length ≤ 1000000) :
    Calls Try.prog 29 #[.pointer (some ⟨G, 0, none⟩), .slice a D.length cap] w (WrRet X w G B (wblk G vB m) (D.foldl (gd qW) u)) := by
  obtain ⟨N, hN⟩ : ∃ N, D.length = N := ⟨_, rfl⟩
  have HN := Lib.hid hN
  have HQ := Lib.hid hQ
  have HM := Lib.hid hm
  have HB0 := Lib.hid hB0
  have HBW := Lib.hid hbw
  have HH := Lib.hid h
  have HOK := Lib.hid hok
  rw [hN] at hl ⊢
  clear hN hQ hm hB0 hbw h hok
  go_enter Try.func29, Try.ntmps29
  go_wp2_with fail
  go_loopw [8] (fun i wr => ∃ (k : Nat) (vB' : Value) (m' : Option Nat) (t : Wst), k ≤ N ∧ i = .int .i64 (k : Int) ∧ Hid (t = (D.take k).foldl (gd qW) u) ∧ Hid (Wok 90000 t) ∧ Hid (WxAt X wr G B vB' m' t.1 t.2.1 t.2.2) ∧ Hid (Foot (wblk G vB m) (wblk G vB' m') w wr)) (fun i _ => N - (intOf i).toNat)
  case atStart => exact ⟨0, vB, m, u, Nat.zero_le _, rfl, Lib.hid rfl, HOK, HH, Lib.hid (Foot.ofBelow _ (Below.refl _ _))⟩
  case round =>
    obtain ⟨k, vB', m', t, hk, rfl, HT, HOT, HX, HF⟩ := hrel
    have HBR : Hid (Below B w0 wr) := Lib.hid (HBW.out.trans (HF.out.below HH.out.blk_ge (by have := HBW.out.size; have := HB0.out; omega)))
    by_cases hkN : k < N
    · have hd : decide ((k : Int) < (N : Int)) = true := decide_eq_true (by omega)
      have hdn : decide (k < N) = true := decide_eq_true hkN
      have hkD : k < D.length := by rw [HN.out]; exact hkN
      have hBw : B ≤ wr.heap.size := by have := HBR.out.size; have := HB0.out; omega
      obtain ⟨g, o, ha, hg, z0, z1, z2⟩ := (HQ.out.below (by rw [HB0.out]; exact HBR.out)).at k hkD
      subst ha
      have hmq := HM.out _ (List.getElem_mem hkD)
      have HTK := Lib.hid (fold_at (gd qW) D u k hkD)
      have HTR := Lib.hid (fold_rest (gd qW) D u k)
      rw [← HT.out] at HTK HTR
      generalize D[k] = q at *
      have HMQ := Lib.hid hmq
      obtain ⟨nm, ty, cl⟩ := q
      have hq2 := mayQ9_name hmq
      simp only [wordN, decide_eq_true_eq] at hq2
      obtain ⟨hmn, hty, hcl⟩ := hq2
      obtain ⟨tn, rfl⟩ : ∃ n : Nat, ty = (n : Int) := ⟨ty.toNat, by omega⟩
      obtain ⟨cn, rfl⟩ : ∃ n : Nat, cl = (n : Int) := ⟨cl.toNat, by omega⟩
      simp only at z0 z1 z2
      have hb1 : (0 : Int) ≤ (k : Int) := by omega
      have hb2 : (k : Int) < (N : Int) := by omega
      have HVB : Hid (Below wr.heap.size wr (wr.alloc (.cells #[.string nm, .int .i64 (tn : Int), .int .i64 (cn : Int)] 51))) := Lib.hid ((Below.refl _ _).alloc (Nat.le_refl _) _)
      have HVC : Hid ((wr.alloc (.cells #[.string nm, .int .i64 (tn : Int), .int .i64 (cn : Int)] 51)).rangeAt wr.heap.size 0 (quL ⟨nm, (tn : Int), (cn : Int)⟩)) := Lib.hid (built_new 51)
      have HLV : Hid (wr.heap.size < (wr.alloc (.cells #[.string nm, .int .i64 (tn : Int), .int .i64 (cn : Int)] 51)).heap.size) := Lib.hid (by simp)
      have HPN : Hid (wr.heap.size ∉ wblk G vB' m') := Lib.hid (fun e => by have := HX.out.blk_lt _ e; omega)
      have HMN := Lib.hid hmn
      have HW : Hid (tn ≤ 65535 ∧ cn ≤ 65535) := Lib.hid ⟨by omega, by omega⟩
      clear hmq hg hmn hty hcl
      go_upto_region 3 with fail
      replace HX := Lib.hid (HX.out.below HVB.out)
      replace HF := Lib.hid (HF.out.trans (Foot.ofBelow (wblk G vB' m') HVB.out))
      have hBV : B ≤ (wr.alloc (.cells #[.string nm, .int .i64 (tn : Int), .int .i64 (cn : Int)] 51)).heap.size := by have := HVB.out.size; omega
      obtain ⟨V, hV⟩ : ∃ V, wr.alloc (.cells #[.string nm, .int .i64 (tn : Int), .int .i64 (cn : Int)] 51) = V := ⟨_, rfl⟩
      rw [hV] at HX HF HVC HLV hBV
      try rw [hV]
      generalize wr.heap.size = P at *
      clear HVB hV z0 z1 z2
      go_wp2_with fail
      refine (full_any HX.out.toWrAt).mono ?_
      rintro e w1 ⟨rfl, hw1⟩
      rw [hw1]
      clear hw1 w1
      by_cases hfu : 1232 < t.1.length
      · have hdf : decide (1232 < t.1.length) = true := decide_eq_true hfu
        rw [hdf]
        have HEQ : Hid (D.foldl (gd qW) u = t) := Lib.hid (by rw [HTR.out]; exact gd_full _ _ _ hfu)
        clear HTR HTK HT hdf
        go_wp2_with fail
        go_end0
        rw [HEQ.out]
        exact ⟨rfl, _, _, HX.out, HF.out⟩
      · have hdf : decide (1232 < t.1.length) = false := decide_eq_false hfu
        rw [hdf]
        have HOQ : Hid (Wok 90000 (gd qW t ⟨nm, (tn : Int), (cn : Int)⟩)) := Lib.hid (HOT.out.gq HMQ.out)
        have HGE : Hid (gd qW t ⟨nm, (tn : Int), (cn : Int)⟩ = qW t ⟨nm, (tn : Int), (cn : Int)⟩) := Lib.hid (by unfold gd; rw [if_neg hfu])
        rw [HGE.out] at HOQ HTK
        have HNT := Lib.hid (nmT_is HMN.out t.1.length t.2.1 t.2.2)
        have hlt1 : t.1.length ≤ 1232 := by omega
        have HNM : Hid (Calls Try.prog 57 #[.pointer (some ⟨G, 0, none⟩), .string nm] V.drew (WNameRetX X V.drew G B (wblk G vB' m') true (t.1 ++ (nmT nm t.1.length t.2.1 t.2.2).1, (nmT nm t.1.length t.2.1 t.2.2).2.1, (nmT nm t.1.length t.2.1 t.2.2).2.2))) := Lib.hid (by
          have := namex_any nm (HX.out.below ((Below.refl V.heap.size V).drew)) (by have := may_small HMN.out; omega) (by omega) (by have := HOT.out.lns; omega) HOT.out.two HOT.out.low hBV
          rw [HMN.out, if_pos rfl, HNT.out.eq _ rfl] at this
          exact this)
        have HFD := Lib.hid (HF.out.trans (Foot.ofBelow (wblk G vB' m') ((Below.refl V.heap.size V).drew)))
        have HPL : Hid (P < V.drew.heap.size) := HLV
        have HPC : Hid (V.drew.rangeAt P 0 (quL ⟨nm, (tn : Int), (cn : Int)⟩)) := HVC
        clear HT HTR hdf hfu HMN HX HF HLV HVC
        go_upto_region 4 with fail
        refine wp_region_noPanic ?_
        obtain ⟨S, hS⟩ : ∃ S : World → Prop, (fun W => W.rangeAt P 0 (quL ⟨nm, (tn : Int), (cn : Int)⟩)) = S := ⟨_, rfl⟩
        have C1 : Hid (∀ w', S w' → w'.cell? ⟨P, 0, none⟩ = some (.string nm)) := Lib.hid (fun w' h => by rw [← hS] at h; exact h 0 _ rfl)
        have HSS : Hid (S V.drew) := Lib.hid (by rw [← hS]; exact HPC.out)
        have HSI : Hid (∀ w', w'.rangeAt P 0 (quL ⟨nm, (tn : Int), (cn : Int)⟩) → S w') := Lib.hid (fun w' h => by rw [← hS]; exact h)
        clear hS
        refine wp_region_held_drew (S := S) (by kernel_rfl) HSS.out (fun hHeld => ?_)
        generalize V.drew = U at *
        refine wpAnyH_take (i := 0) (v := ?_) rfl (by kernel_rfl) (by kernel_rfl) (by kernel_rfl) (fun _ _ _ h => h) (Or.inl ⟨by rfl, ?_⟩) (by assumption) ?_
        rotate_left
        · (intro w hSw; go_simp; try (with_reducible rfl))
        try simp only [Act.put, List.getElem_toArray, List.getElem_cons_zero, List.setIfInBounds_toArray, List.set_cons_zero, List.set_cons_succ]
        refine wpAnyH_take (i := 1) (v := ?_) rfl (by kernel_rfl) (by kernel_rfl) (by kernel_rfl) (fun _ _ _ h => h) (Or.inl ⟨by rfl, ?_⟩) (by assumption) ?_
        rotate_left
        · (intro w hSw; go_simp; try (with_reducible rfl))
        try simp only [Act.put, List.getElem_toArray, List.getElem_cons_zero, List.getElem_cons_succ, List.setIfInBounds_toArray, List.set_cons_zero, List.set_cons_succ]
        refine wpAnyH_take (i := 2) (v := ?_) rfl (by kernel_rfl) (by kernel_rfl) (by kernel_rfl) (fun _ _ _ h => h) (Or.inl ⟨by rfl, ?_⟩) (by assumption) ?_
        rotate_left
        · (intro w hSw; go_simp; try (with_reducible rfl))
        try simp only [Act.put, List.getElem_toArray, List.getElem_cons_zero, List.getElem_cons_succ, List.setIfInBounds_toArray, List.set_cons_zero, List.set_cons_succ]
        refine wpAnyH_take (i := 3) (v := ?_) rfl (by kernel_rfl) (by kernel_rfl) (by kernel_rfl) (fun _ _ _ h => h) (Or.inl ⟨by rfl, ?_⟩) (by assumption) ?_
        rotate_left
        · (intro w hSw; go_simp; try (with_reducible rfl))
        try simp only [Act.put, List.getElem_toArray, List.getElem_cons_zero, List.getElem_cons_succ, List.setIfInBounds_toArray, List.set_cons_zero, List.set_cons_succ]
        refine wpAnyH_take (i := 4) (v := ?_) rfl (by kernel_rfl) (by kernel_rfl) (by kernel_rfl) (fun _ _ _ h => h) (Or.inl ⟨by rfl, ?_⟩) (by assumption) ?_
        rotate_left
        · (intro w hSw; have hc0 := C1.out w hSw; go_simp; try (with_reducible rfl))
        try simp only [Act.put, List.getElem_toArray, List.getElem_cons_zero, List.getElem_cons_succ, List.setIfInBounds_toArray, List.set_cons_zero, List.set_cons_succ]
        refine wpAnyH_ready (rs := [5]) (by kernel_rfl) (by simp) ?_
        refine AllReadyH.cons rfl (fun K hK => ?_) AllReadyH.nil
        go_simp
        refine HNM.out.mono ?_
        rintro e w2 ⟨rfl, vB2, m2, hW2, hF2⟩
        have HW2 := Lib.hid hW2
        have HF2 := Lib.hid (HFD.out.trans hF2)
        have HP2 := Lib.hid (range_foot hF2 HPC.out HPL.out HPN.out)
        have hs2 := hF2.size
        have hBw2 : B ≤ w2.heap.size := by have := HPL.out; omega
        clear hW2 hF2 HNM HFD
        go_wp2_with fail
        refine hK.out _ _ (HSI.out _ HP2.out) (fun hHeldb => ?_)
        clear hK K
        try simp only [Act.put, List.getElem_toArray, List.getElem_cons_zero, List.getElem_cons_succ, List.setIfInBounds_toArray, List.set_cons_zero, List.set_cons_succ]
        refine wpAnyH_done (by kernel_rfl) ?_ _
        refine NoPanic.normal ?_
        clear hHeld hHeldb HSS C1 HSI HPC HPL
        have y1 := HP2.out 1 _ rfl
        have y2 := HP2.out 2 _ rfl
        simp only [Nat.zero_add] at y1 y2
        have HVB : Hid (Below w2.heap.size w2 (w2.alloc (.cells #[.int .i64 (tn : Int), .int .i64 (cn : Int)] 3))) := Lib.hid ((Below.refl _ _).alloc (Nat.le_refl _) _)
        have HNU := Lib.hid (numbers_any (c := 2) (g := w2.heap.size) [tn, cn] (HW2.out.below HVB.out) (built_new (cs := nats9 [tn, cn]) 3) (by simp) (fun e => by have := HW2.out.blk_lt _ e; omega) (by simp) (by have := HW.out; intro n hn; simp at hn; omega) (by have := HOQ.out.len; simp only [qW, List.length_append] at this ⊢; omega) (by simp; omega))
        have HF3 := Lib.hid (HF2.out.trans (Foot.ofBelow (wblk G vB2 m2) HVB.out))
        have HEN : Hid ((t.1 ++ (nmT nm t.1.length t.2.1 t.2.2).1 ++ flat2 [tn, cn], (nmT nm t.1.length t.2.1 t.2.2).2.1, (nmT nm t.1.length t.2.1 t.2.2).2.2) = qW t ⟨nm, (tn : Int), (cn : Int)⟩) := Lib.hid (by simp [qW, flat2])
        clear HVB HF2 HP2 HW2
        go_wp2_with fail
        refine HNU.out.mono ?_
        rintro e w3 ⟨rfl, vB3, hW3, hF4⟩
        have HW3 : Hid (WxAt X w3 G B vB3 m2 (qW t ⟨nm, (tn : Int), (cn : Int)⟩).1 (qW t ⟨nm, (tn : Int), (cn : Int)⟩).2.1 (qW t ⟨nm, (tn : Int), (cn : Int)⟩).2.2) := Lib.hid (by rw [← HEN.out]; exact hW3)
        have HF5 := Lib.hid (HF3.out.trans hF4)
        clear hW3 hF4 HNU HF3 y1 y2 HEN
        go_wp2_with fail
        go_roundw
        case rel => exact ⟨k + 1, vB3, m2, _, by omega, by go_num, Lib.hid HTK.out.symm, HOQ, HW3, HF5⟩
        case measure => simp [intOf]; omega
    · obtain rfl : k = N := by omega
      have hd : decide ((k : Int) < (k : Int)) = false := by simp
      have HEQ : Hid (D.foldl (gd qW) u = t) := Lib.hid (by rw [HT.out, List.take_of_length_le (by rw [HN.out]; exact Nat.le_refl _)])
      go_wp2_with fail
      go_end0
      rw [HEQ.out]
      exact ⟨rfl, _, _, HX.out, HF.out⟩
end Go.Proofs.Yticdpidngmeebaa
/- The landed writer of wire with its sizes, as it lies in memory. -/
namespace Go.Proofs.Yticdpidngmeebaa
open Go.RowKit Go.Maps
set_option linter.unusedVariables false
set_option maxRecDepth 20000

def szL (z : Nat × Nat) : List Value := [.int .i64 (z.1 : Int), .int .i64 (z.2 : Int)]
def flatZ (zs : List (Nat × Nat)) : List Value := zs.flatMap szL
theorem infoZ : (Try.prog.info? 105).map (fun i => (i.zero, i.size, i.bytes)) = some (some (.agg #[.int .i64 0, .int .i64 0]), 2, 16) := by kernel_rfl
/-- A size behind a row of sizes of one's own. -/
theorem wp_append_sz {op : Oper} {a : Act} {w : World} {K : Act → World → Prop} {Q : Exit → Act → World → Prop} {B G c : Nat} {v : Value} {zs : List (Nat × Nat)} {z : Nat × Nat} (hown : Hid (w.ownsRow B 105 2 v zs.length (flatZ zs))) (hm : Hid (w.rangeAt G 0 (szL z))) (hn : Hid (zs.length ≤ 2000000 ∧ B ≤ w.heap.size)) (sl x : Operand)
    (ho : op.op = .call { callee := .builtin .append, args := #[sl, x], argTypes := #[61, 61] }) (hs : a.eval sl = v) (hx : a.eval x = .slice (some ⟨G, 0, none⟩) 1 c)
    (h : ∀ v' w', Hid (w'.ownsRow B 105 2 v' (zs ++ [z]).length (flatZ (zs ++ [z]))) → Hid (w.grownBy w' v.ownBlock) → Hid (Foot v.ownBlock.toList v'.ownBlock.toList w w') → K (a.put op.dst v') w') : op.wp Try.prog a w K Q := by
  obtain ⟨i0, hi0, hz0, hz1, hz2⟩ := info_parts infoZ
  obtain ⟨hn1, hn2⟩ := hn.out
  obtain ⟨v', w', hr, h2, h3, _, h5⟩ := run_append_own_at (P := Try.prog) w B 61 op.type 105 i0 _ 2 16 Try.underlying61 hi0 hz0 hz1 hz2 rfl (by decide) v zs.length (flatZ zs) hown.out ⟨G, 0, none⟩ 1 c (szL z) rfl (fun j u hu => by
      have := hm.out j u hu
      rw [add_none]
      rwa [Nat.zero_add] at this) (fun u hu => by simp [szL] at hu; rcases hu with rfl | rfl <;> rfl) (by unfold maxLen; omega) (by omega) hn2
  unfold Oper.wp execOp
  simp only [ho, resolve, invoke, builtin, Sem.run_bind, Sem.run_pure, Result.andThen_ok, List.map_toArray, List.map_cons, List.map_nil, hs, hx, hr]
  refine h v' w' (Lib.hid ?_) (Lib.hid h3) (Lib.hid (Foot.ofGrown h3 (h5.imp id (fun e g hg => by rw [e] at hg; cases hg; exact Nat.le_refl _))))
  simpa [flatZ] using h2
def x9 (vS : Value) : Nat → Option Value := fun k => if k = 2 then some vS else none
structure W9 (w : World) (G B : Nat) (vB : Value) (m : Option Nat) (vS : Value) (u : Wst) (zs : List (Nat × Nat)) : Prop where
  wx : WxAt (x9 vS) w G B vB m u.1 u.2.1 u.2.2
  rs : w.ownsRow B 105 2 vS zs.length (flatZ zs)
  ng : vS.ownBlock ≠ some G
def w9blk (G : Nat) (vB : Value) (m : Option Nat) (vS : Value) : List Nat := wblk G vB m ++ vS.ownBlock.toList
theorem mem_w9blk {G k : Nat} {vB vS : Value} {m : Option Nat} : k ∈ w9blk G vB m vS ↔ k ∈ wblk G vB m ∨ vS.ownBlock = some k := by simp [w9blk]
theorem Foot.plus {F F' : List Nat} {w w' : World} (h : Foot F F' w w') (K : List Nat) : Foot (F ++ K) (F' ++ K) w w' :=
  ⟨h.os, h.tape, h.output, h.size, fun k hk hn => h.keep k hk (fun e => hn (List.mem_append.2 (.inl e))), fun k hk => by
    rcases List.mem_append.1 hk with e | e
    · exact (h.new k e).imp (fun e => List.mem_append.2 (.inl e)) id
    · exact .inl (List.mem_append.2 (.inr e))⟩
section
variable {w w' : World} {G B : Nat} {vB vS : Value} {m : Option Nat} {u : Wst} {zs : List (Nat × Nat)}
theorem W9.away (h : W9 w G B vB m vS u zs) (k : Nat) (hk : vS.ownBlock = some k) : k ∉ wblk G vB m := by
  intro e
  rcases mem_wblk.1 e with rfl | e | e
  · exact h.ng hk
  · exact own_types h.rs h.wx.rb (by decide) k hk e
  · subst e
    obtain ⟨es, cl, hb⟩ := h.wx.mp.block
    rcases h.rs.2 with ⟨rfl, _⟩ | ⟨g, cap, cur, rfl, _, e3, _⟩
    · cases hk
    · cases hk
      rw [e3] at hb
      cases hb
theorem W9.blk_ge (h : W9 w G B vB m vS u zs) : ∀ k ∈ w9blk G vB m vS, B ≤ k := fun k hk => by
  rcases mem_w9blk.1 hk with e | e
  · exact h.wx.blk_ge k e
  · exact (h.rs.lt k e).1
theorem W9.below (h : W9 w G B vB m vS u zs) (hb : Below w.heap.size w w') : W9 w' G B vB m vS u zs := ⟨h.wx.below hb, own_below8 h.rs hb, h.ng⟩
theorem W9.wrote (h : W9 w G B vB m vS u zs) {vB' : Value} {m' : Option Nat} {u' : Wst} (hx : WxAt (x9 vS) w' G B vB' m' u'.1 u'.2.1 u'.2.2) (hf : Foot (wblk G vB m) (wblk G vB' m') w w') : W9 w' G B vB' m' vS u' zs ∧ Foot (w9blk G vB m vS) (w9blk G vB' m' vS) w w' :=
  ⟨⟨hx, own_kept h.rs (fun k hk => hf.keep k (h.rs.lt k hk).2 (h.away k hk)), h.ng⟩, hf.plus _⟩
/-- A size noted, the field stored. -/
theorem W9.sized (h : W9 w G B vB m vS u zs) {v' : Value} {zs' : List (Nat × Nat)} (hown : w'.ownsRow B 105 2 v' zs'.length (flatZ zs')) (hg : w.grownBy w' vS.ownBlock) (hf : Foot vS.ownBlock.toList v'.ownBlock.toList w w') :
    W9 (w'.setCell ⟨G, 2, none⟩ v') G B vB m v' u zs' ∧ Foot (w9blk G vB m vS) (w9blk G vB m v') w (w'.setCell ⟨G, 2, none⟩ v') := by
  have hnew : ∀ k, v'.ownBlock = some k → vS.ownBlock = some k ∨ w.heap.size ≤ k := fun k hk => (hf.new k (by rw [hk]; simp)).imp (fun e => by simpa using e) id
  have hset : ∀ k, k ≠ G → (w'.setCell ⟨G, 2, none⟩ v').heap[k]? = w'.heap[k]? := fun k hk => Below.heap_setCell w' ⟨G, 2, none⟩ v' k hk
  have hssz : (w'.setCell ⟨G, 2, none⟩ v').heap.size = w'.heap.size := by simp [World.setCell]
  have hG : w'.heap[G]? = w.heap[G]? := hg.block G h.wx.lt (fun e => h.ng e.symm)
  have hl := h.wx.lt
  have hnG : v'.ownBlock ≠ some G := fun e => by
    rcases hnew G e with e | e
    · exact h.ng e
    · omega
  have hk : ∀ k ∈ wblk G vB m, w'.heap[k]? = w.heap[k]? := fun k hk => hg.block k (h.wx.blk_lt k hk) (fun e => h.away k e.symm hk)
  have Y := h.wx.kept hk
  refine ⟨⟨⟨⟨(World.cell?_setCell_other _ _ _ _ (by intro h; injection h; omega)).trans Y.c0, (World.cell?_setCell_other _ _ _ _ (by intro h; injection h; omega)).trans Y.c1, by rw [World.frozen?_setCell]; exact Y.f0, by rw [World.frozen?_setCell]; exact Y.f1, own_kept Y.rb (fun k hk => hset k (fun e => Y.nb (by rw [← e]; exact hk))), Y.mp.kept (fun b hb => hset b (fun e => Y.mG (by rw [hb, e]))), Y.nb, Y.gb⟩, fun k h2 => ?_, fun k h2 => by rw [World.frozen?_setCell]; exact Y.fx k h2⟩, own_kept hown (fun k hk => hset k (fun e => hnG (by rw [← e]; exact hk))), hnG⟩, ?_⟩
  · by_cases e : k = 2
    · subst e
      exact World.cell?_setCell_same _ _ _ (Y.cx 2 (Nat.le_refl _))
    · refine (World.cell?_setCell_other _ _ _ _ (by intro h; injection h; omega)).trans ((Y.cx k h2).trans ?_)
      unfold x9
      rw [if_neg e, if_neg e]
  · refine ⟨hg.os, hg.tape, hg.output, by rw [hssz]; exact hg.size, fun k hk hn => ?_, fun k hk => ?_⟩
    · rw [hset k (fun e => hn (mem_w9blk.2 (.inl (mem_wblk.2 (.inl e)))))]
      exact hg.block k hk (fun e => hn (mem_w9blk.2 (.inr e.symm)))
    · rcases mem_w9blk.1 hk with e | e
      · exact .inl (mem_w9blk.2 (.inl e))
      · exact (hnew k e).imp (fun e => mem_w9blk.2 (.inr e)) id
/-- A new writer. -/
theorem w9_new (w : World) (B : Nat) (hB : B ≤ w.heap.size) : W9 (w.alloc (.cells #[.slice none 0 0, .map none, .slice none 0 0] 63)) w.heap.size B (.slice none 0 0) none (.slice none 0 0) ([], [], []) [] := by
  refine ⟨⟨⟨?_, ?_, ?_, ?_, World.ownsRow_nil _ _ _ _, ⟨rfl, rfl⟩, by simp [Value.ownBlock], hB⟩, fun k h2 => ?_, fun k h2 => World.frozen?_alloc_new _ _ _ _⟩, World.ownsRow_nil _ _ _ _, by simp [Value.ownBlock]⟩
  · rw [World.cell?_alloc_new]; rfl
  · rw [World.cell?_alloc_new]; rfl
  · exact World.frozen?_alloc_new _ _ _ _
  · exact World.frozen?_alloc_new _ _ _ _
  · rw [World.cell?_alloc_new]
    unfold x9
    by_cases e : k = 2
    · rw [if_pos e, e]; rfl
    · rw [if_neg e]
      exact Array.getElem?_eq_none (by simp; omega)
end
theorem twoL_mod (n : Nat) : twoL (n % 65536) = twoL n := by
  unfold twoL
  congr 1
  · apply UInt8.toNat_inj.1
    simp only [UInt8.toNat_ofNat']
    omega
  · congr 1
    apply UInt8.toNat_inj.1
    simp only [UInt8.toNat_ofNat']
    omega
end Go.Proofs.Yticdpidngmeebaa
/- Contract of addr.Bits. -/
namespace Go.Proofs.Yticdpidngmeebaa
open Go.RowKit
set_option linter.unusedVariables false
set_option maxRecDepth 20000

set_option maxRecDepth 100000 in
set_option maxHeartbeats 1000000 in
theorem addrBits_any (f : Int) (bs : List Nat) (w : World) (h16 : bs.length = 16) :
    Calls Try.prog 80 #[addrV f bs] w fun e w' => e = .returned (.int .i64 ((bitsN f : Nat) : Int)) ∧ Below w.heap.size w w' := by
  obtain ⟨cs, ecs, HA, HB⟩ := addr_boxed f bs w h16
  rw [ecs]
  clear ecs h16
  go_enter Try.func80, Try.ntmps80
  go_upto_region 1 with fail
  generalize (w.alloc (.cells cs 40)) = W at *
  have hfam := HA.out.fam
  by_cases h4 : f = 4
  · subst h4
    go_wp2_with fail
    go_ret
    exact ⟨rfl, HB.out⟩
  · by_cases h6 : f = 6
    · subst h6
      go_wp2_with fail
      go_ret
      exact ⟨rfl, HB.out⟩
    · have HE : Hid (bitsN f = 0) := Lib.hid (by unfold bitsN; rw [if_neg h4, if_neg h6])
      have g4 : (f == 4) = false := by simp [h4]
      have g6 : (f == 6) = false := by simp [h6]
      go_wp2_with fail
      go_ret
      exact ⟨by rw [HE.out]; rfl, HB.out⟩
end Go.Proofs.Yticdpidngmeebaa
/- Contract of the landed writer's data: a record's data, behind what was written (walks/WirData.py prints this text). -/
namespace Go.Proofs.Yticdpidngmeebaa
open Go.RowKit Go.Maps
set_option linter.unusedVariables false
set_option maxRecDepth 20000

theorem RecIn.kept {w w' : World} {G o : Nat} {r : Rec} (h : RecIn w G o r) (hk : w'.heap[G]? = w.heap[G]?) : RecIn w' G o r :=
  ⟨(World.cell?_of_block (a := ⟨G, o, none⟩) hk).trans h.name, (World.cell?_of_block (a := ⟨G, o + 1, none⟩) hk).trans h.ty, (World.cell?_of_block (a := ⟨G, o + 2, none⟩) hk).trans h.cl, (World.cell?_of_block (a := ⟨G, o + 3, none⟩) hk).trans h.ttl, fun j u hu => (World.cell?_of_block (a := ⟨G, o + 4 + j, none⟩) hk).trans (h.addr j u hu), (World.cell?_of_block (a := ⟨G, o + 21, none⟩) hk).trans h.tg, (World.cell?_of_block (a := ⟨G, o + 22, none⟩) hk).trans h.da⟩
theorem RecIn.lt {w : World} {G o : Nat} {r : Rec} (h : RecIn w G o r) : G < w.heap.size := World.block_lt_of_cell? w ⟨G, o, none⟩ h.name
theorem yields_addrS {ops : Array Oper} {S : World → Prop} {op : Oper} {a : Act} {G o : Nat} {f : Int} {bs : List Nat} (h16 : Hid (bs.length = 16)) (hS : Hid (∀ w, S w → w.rangeAt G o (addrL f bs))) (hw : Region.wanted op (yielded ops a.tmps) = true) (x : Operand) (ho : op.op = .load 40 x) (hx : a.eval x = .pointer (some ⟨G, o, none⟩)) : YieldsIf Try.prog ops S op (addrV f bs) a :=
  yieldsIf_load_mid hw 40 x ho G o hx (addrL f bs) _ (fun w h => hS.out w h) Try.underlying40 rfl (by rw [addr_size, addrL_len f bs h16.out])
/-- An address's first bytes, as they lie. -/
theorem addr_bytes {w : World} {P : Nat} {f : Int} {b : List Nat} (h : w.rangeAt P 4 (addrL f b)) (h16 : b.length = 16) (hlt : ∀ x ∈ b, x < 256) (k : Nat) (hk : k ≤ 16) : BytesIn2 w (some ⟨P, 5, none⟩) 16 (byB (b.take k)) := by
  have hl : (byB (b.take k)).length = k := by rw [byB_len, List.length_take]; omega
  refine ⟨⟨by omega, by unfold maxLen; omega, .inr ⟨_, rfl, fun i hi => ?_⟩⟩, fun e => by cases e⟩
  rw [hl] at hi
  have hib : i < b.length := by omega
  have := h (1 + i) (.int .u8 ((b[i] : Nat) : Int)) (by
    unfold addrL
    rw [Nat.add_comm, List.getElem?_cons_succ, List.getElem?_map, List.getElem?_eq_getElem hib]
    rfl)
  have e2 : ((byB (b.take k))[i]'(by rw [hl]; exact hi)).toNat = b[i] := by
    simp only [byB, List.getElem_map, List.getElem_take, UInt8.toNat_ofNat']
    exact Nat.mod_eq_of_lt (hlt _ (List.getElem_mem hib))
  rw [e2]
  have hadd : (⟨P, 5, none⟩ : Addr).add i = ⟨P, 5 + i, none⟩ := by unfold Addr.add; split <;> simp_all
  rw [hadd, show 5 + i = 4 + (1 + i) by omega]
  exact this
set_option maxRecDepth 100000 in
set_option maxHeartbeats 4000000 in
theorem data_any {X : Nat → Option Value} {w : World} {G B : Nat} {vB : Value} {m : Option Nat} {u : Wst} (r : Rec) (h : WxAt X w G B vB m u.1 u.2.1 u.2.2) (hok : Wok 90000 u) (hm : mayR r = true) (hfit : Fit r) (hB : B ≤ w.heap.size) :
    Calls Try.prog 59 #[.pointer (some ⟨G, 0, none⟩), recV r] w (WrRet X w G B (wblk G vB m) (u.1 ++ (daT r u.1.length u.2.1 u.2.2).1, (daT r u.1.length u.2.1 u.2.2).2)) := by
  have MR := mayRec hm
  have h16 := hfit.1
  have hlt := hfit.2.1
  obtain ⟨cs, ecs, HR, HB⟩ := rec_boxed r w h16
  rw [ecs]
  have HX := Lib.hid (h.below HB.out)
  have HPN : Hid (w.heap.size ∉ wblk G vB m) := Lib.hid (fun e => by have := h.blk_lt _ e; omega)
  have HF := Lib.hid (Foot.ofBelow (wblk G vB m) HB.out)
  have HOK := Lib.hid hok
  have HMR := Lib.hid MR
  have H16 := Lib.hid h16
  have HLT := Lib.hid hlt
  have hBW : B ≤ (w.alloc (.cells cs 42)).heap.size := Nat.le_trans hB HB.out.size
  have HDT : Hid (daT r u.1.length u.2.1 u.2.2 = if r.ty = 1 then (byB (r.b.take 4), u.2.1, u.2.2) else if r.ty = 28 then (byB r.b, u.2.1, u.2.2) else if r.ty = 5 then nmT r.tg u.1.length u.2.1 u.2.2 else (r.da.data.toList, u.2.1, u.2.2)) := Lib.hid rfl
  generalize daT r u.1.length u.2.1 u.2.2 = dt at *
  clear h hok hm hfit MR h16 hlt HB ecs
  go_enter Try.func59, Try.ntmps59
  go_upto_region 1 with fail
  obtain ⟨W, hW⟩ : ∃ W, w.alloc (.cells cs 42) = W := ⟨_, rfl⟩
  rw [hW] at HR HX HF hBW
  try rw [hW]
  obtain ⟨P, hP⟩ : ∃ P, w.heap.size = P := ⟨_, rfl⟩
  rw [hP] at HR HPN
  try rw [hP]
  clear hW hP
  have c1 := HR.out.ty
  simp only [Nat.zero_add] at c1
  by_cases t1 : r.ty = 1
  · have tbt1 : (r.ty == 1) = true := by rw [t1]; rfl
    have HMB := Lib.hid HMR.out.body
    unfold bodyR at HMB
    rw [if_pos t1] at HMB
    simp only [Bool.and_eq_true, decide_eq_true_eq] at HMB
    have hff : r.f = 4 := HMB.out.1.1.2
    have HBI := fun V => Lib.hid (addrBits_any r.f r.b V H16.out)
    rw [hff] at HBI
    have HFF := Lib.hid hff
    clear hff HMB
    have hbn : ((bitsN 4 : Nat) : Int) = 32 := rfl
    rw [hbn] at HBI
    clear hbn
    go_upto_region 5 with fail
    refine wp_region_noPanic ?_
    obtain ⟨S, hS⟩ : ∃ S : World → Prop, (fun V => RecIn V P 0 r) = S := ⟨_, rfl⟩
    have HSR : Hid (∀ w', S w' → RecIn w' P 0 r) := Lib.hid (fun w' h => by rw [← hS] at h; exact h)
    have HSS : Hid (S W.drew) := Lib.hid (by rw [← hS]; exact HR.out.below ((Below.refl _ _).drew))
    have HSI : Hid (∀ w', RecIn w' P 0 r → S w') := Lib.hid (fun w' h => by rw [← hS]; exact h)
    clear hS
    refine wp_region_held_drew (S := S) (by kernel_rfl) HSS.out (fun hHeld => ?_)
    replace HX := Lib.hid (HX.out.below ((Below.refl W.heap.size W).drew))
    replace HF := Lib.hid (HF.out.trans (Foot.ofBelow (wblk G vB m) ((Below.refl W.heap.size W).drew)))
    replace hBW : B ≤ W.drew.heap.size := hBW
    replace HR := Lib.hid (HR.out.below ((Below.refl W.heap.size W).drew))
    generalize W.drew = U at *
    have CA : Hid (∀ w', S w' → w'.rangeAt P 4 (addrL 4 r.b)) := Lib.hid (fun w' h => by have := (HSR.out w' h).addr; rw [HFF.out, Nat.zero_add] at this; exact this)
    refine wpAnyH_take (i := 0) (v := ?_) rfl (by kernel_rfl) (by kernel_rfl) (by kernel_rfl) (fun _ _ _ h => h) (Or.inl ⟨by rfl, ?_⟩) (by assumption) ?_
    rotate_left
    · (intro w hSw; go_simp; try (with_reducible rfl))
    try simp only [Act.put, List.getElem_toArray, List.getElem_cons_zero, List.setIfInBounds_toArray, List.set_cons_zero, List.set_cons_succ]
    refine wpAnyH_take (i := 1) (v := ?_) rfl (by kernel_rfl) (by kernel_rfl) (by kernel_rfl) (fun _ _ _ h => h) (Or.inl ⟨by rfl, ?_⟩) (by assumption) ?_
    rotate_left
    · (intro w hSw; go_simp; try (with_reducible rfl))
    try simp only [Act.put, List.getElem_toArray, List.getElem_cons_zero, List.getElem_cons_succ, List.setIfInBounds_toArray, List.set_cons_zero, List.set_cons_succ]
    refine wpAnyH_take (i := 2) (v := ?_) rfl (by kernel_rfl) (by kernel_rfl) (by kernel_rfl) (fun _ _ _ h => h) (Or.inl ⟨by rfl, ?_⟩) (by assumption) ?_
    rotate_left
    · (intro w hSw; go_simp; try (with_reducible rfl))
    try simp only [Act.put, List.getElem_toArray, List.getElem_cons_zero, List.getElem_cons_succ, List.setIfInBounds_toArray, List.set_cons_zero, List.set_cons_succ]
    refine wpAnyH_take (i := 3) (v := ?_) rfl (by kernel_rfl) (by kernel_rfl) (by kernel_rfl) (fun _ _ _ h => h) (Or.inl ⟨by rfl, ?_⟩) (by assumption) ?_
    rotate_left
    · (intro w hSw; go_simp; try (with_reducible rfl))
    try simp only [Act.put, List.getElem_toArray, List.getElem_cons_zero, List.getElem_cons_succ, List.setIfInBounds_toArray, List.set_cons_zero, List.set_cons_succ]
    refine wpAnyH_take (i := 4) (v := ?_) rfl (by kernel_rfl) (by kernel_rfl) (by kernel_rfl) (fun _ _ _ h => h) (Or.inl ⟨by rfl, ?_⟩) (by assumption) ?_
    rotate_left
    · (intro w hSw; go_simp; try (with_reducible rfl))
    try simp only [Act.put, List.getElem_toArray, List.getElem_cons_zero, List.getElem_cons_succ, List.setIfInBounds_toArray, List.set_cons_zero, List.set_cons_succ]
    refine wpAnyH_take (i := 5) (v := ?_) rfl (by kernel_rfl) (by kernel_rfl) (by kernel_rfl) (fun _ _ _ h => h) (Or.inl ⟨by rfl, ?_⟩) (by assumption) ?_
    rotate_left
    · (intro w hSw; go_simp; try (with_reducible rfl))
    try simp only [Act.put, List.getElem_toArray, List.getElem_cons_zero, List.getElem_cons_succ, List.setIfInBounds_toArray, List.set_cons_zero, List.set_cons_succ]
    refine wpAnyH_take (i := 6) rfl (by kernel_rfl) (by kernel_rfl) (by kernel_rfl) (fun _ _ _ h => h) (yields_addrS H16 CA (by rfl) _ rfl rfl) (by assumption) ?_
    try simp only [Act.put, List.getElem_toArray, List.getElem_cons_zero, List.getElem_cons_succ, List.setIfInBounds_toArray, List.set_cons_zero, List.set_cons_succ]
    refine wpAnyH_ready (rs := [7]) (by kernel_rfl) (by simp) ?_
    refine AllReadyH.cons rfl (fun K hK => ?_) AllReadyH.nil
    go_simp
    refine (HBI _).out.mono ?_
    rintro e w2 ⟨rfl, hb2⟩
    replace HX := Lib.hid (HX.out.below hb2)
    replace HF := Lib.hid (HF.out.trans (Foot.ofBelow (wblk G vB m) hb2))
    replace hBW := Nat.le_trans hBW hb2.size
    replace HR := Lib.hid (HR.out.below hb2)
    clear hb2 HBI
    go_wp2_with fail
    refine hK.out _ _ (HSI.out _ HR.out) (fun hHeldb => ?_)
    clear hK K
    try simp only [Act.put, List.getElem_toArray, List.getElem_cons_zero, List.getElem_cons_succ, List.setIfInBounds_toArray, List.set_cons_zero, List.set_cons_succ]
    refine wpAnyH_take (i := 8) (v := ?_) rfl (by kernel_rfl) (by kernel_rfl) (by kernel_rfl) (fun _ _ _ h => h) (Or.inl ⟨by rfl, ?_⟩) (by assumption) ?_
    rotate_left
    · (intro w hSw; go_simp; try (with_reducible rfl))
    try simp only [Act.put, List.getElem_toArray, List.getElem_cons_zero, List.getElem_cons_succ, List.setIfInBounds_toArray, List.set_cons_zero, List.set_cons_succ]
    have CSL : Hid (∀ w', S w' → (Instr.sliceAt 38 (.pointer (some ⟨P, 5, none⟩)) none (some (.int .i64 (IntKind.i64.wrap 4))) none).run Try.prog w' = .ok (.slice (some ⟨P, 5, none⟩) 4 16) w') := Lib.hid (fun w' _ => by kernel_rfl)
    refine wpAnyH_take (i := 9) (v := ?_) rfl (by kernel_rfl) (by kernel_rfl) (by kernel_rfl) (fun _ _ _ h => h) (Or.inl ⟨by rfl, ?_⟩) (by assumption) ?_
    rotate_left
    · (intro w hSw; have hc0 := CSL.out w hSw; go_simp; try (with_reducible rfl))
    try simp only [Act.put, List.getElem_toArray, List.getElem_cons_zero, List.getElem_cons_succ, List.setIfInBounds_toArray, List.set_cons_zero, List.set_cons_succ]
    have HBY := Lib.hid (addr_bytes (CA.out _ (HSI.out _ HR.out)) H16.out HLT.out 4 (by omega))
    have HBL : Hid ((byB (r.b.take 4)).length = 4) := Lib.hid (by rw [byB_len, List.length_take, H16.out]; rfl)
    have HRA := Lib.hid (rawin_any (byB (r.b.take 4)) HX.out HBY.out (by have := HBL.out; have := HOK.out.len; omega) hBW)
    rw [HBL.out] at HRA
    have HDD : Hid (dt = (byB (r.b.take 4), u.2.1, u.2.2)) := Lib.hid (by rw [HDT.out, if_pos t1])
    clear HDT
    refine wpAnyH_ready (rs := [10]) (by kernel_rfl) (by simp) ?_
    refine AllReadyH.cons rfl (fun K hK => ?_) AllReadyH.nil
    go_simp
    refine HRA.out.mono ?_
    rintro e w3 ⟨rfl, vB3, hW3, hF3⟩
    have HW3 := Lib.hid hW3
    have HF3 := Lib.hid (HF.out.trans hF3)
    have HS3 := Lib.hid (HSI.out w3 (HR.out.kept (hF3.keep P HR.out.lt HPN.out)))
    clear hW3 hF3
    go_wp2_with fail
    refine hK.out _ _ HS3.out (fun hHeldc => ?_)
    clear hK K
    try simp only [Act.put, List.getElem_toArray, List.getElem_cons_zero, List.getElem_cons_succ, List.setIfInBounds_toArray, List.set_cons_zero, List.set_cons_succ]
    refine wpAnyH_done (by kernel_rfl) ?_ _
    refine NoPanic.normal ?_
    go_wp2_with fail
    go_end0
    rw [HDD.out]
    exact ⟨rfl, _, _, HW3.out, HF3.out⟩
  · have tbt1 : (r.ty == 1) = false := by rw [beq_eq_false_iff_ne]; exact t1
    by_cases t2 : r.ty = 28
    · have tbt2 : (r.ty == 28) = true := by rw [t2]; rfl
      have HMB := Lib.hid HMR.out.body
      unfold bodyR at HMB
      rw [if_neg t1, if_pos t2] at HMB
      simp only [Bool.and_eq_true, decide_eq_true_eq] at HMB
      have hff : r.f = 6 := HMB.out.1.1.2
      have HBI := fun V => Lib.hid (addrBits_any r.f r.b V H16.out)
      rw [hff] at HBI
      have HFF := Lib.hid hff
      clear hff HMB
      have hbn : ((bitsN 6 : Nat) : Int) = 128 := rfl
      rw [hbn] at HBI
      clear hbn
      go_upto_region 5 with fail
      refine wp_region_noPanic ?_
      obtain ⟨S, hS⟩ : ∃ S : World → Prop, (fun V => RecIn V P 0 r) = S := ⟨_, rfl⟩
      have HSR : Hid (∀ w', S w' → RecIn w' P 0 r) := Lib.hid (fun w' h => by rw [← hS] at h; exact h)
      have HSS : Hid (S W.drew) := Lib.hid (by rw [← hS]; exact HR.out.below ((Below.refl _ _).drew))
      have HSI : Hid (∀ w', RecIn w' P 0 r → S w') := Lib.hid (fun w' h => by rw [← hS]; exact h)
      clear hS
      refine wp_region_held_drew (S := S) (by kernel_rfl) HSS.out (fun hHeld => ?_)
      replace HX := Lib.hid (HX.out.below ((Below.refl W.heap.size W).drew))
      replace HF := Lib.hid (HF.out.trans (Foot.ofBelow (wblk G vB m) ((Below.refl W.heap.size W).drew)))
      replace hBW : B ≤ W.drew.heap.size := hBW
      replace HR := Lib.hid (HR.out.below ((Below.refl W.heap.size W).drew))
      generalize W.drew = U at *
      have CA : Hid (∀ w', S w' → w'.rangeAt P 4 (addrL 6 r.b)) := Lib.hid (fun w' h => by have := (HSR.out w' h).addr; rw [HFF.out, Nat.zero_add] at this; exact this)
      refine wpAnyH_take (i := 0) (v := ?_) rfl (by kernel_rfl) (by kernel_rfl) (by kernel_rfl) (fun _ _ _ h => h) (Or.inl ⟨by rfl, ?_⟩) (by assumption) ?_
      rotate_left
      · (intro w hSw; go_simp; try (with_reducible rfl))
      try simp only [Act.put, List.getElem_toArray, List.getElem_cons_zero, List.setIfInBounds_toArray, List.set_cons_zero, List.set_cons_succ]
      refine wpAnyH_take (i := 1) (v := ?_) rfl (by kernel_rfl) (by kernel_rfl) (by kernel_rfl) (fun _ _ _ h => h) (Or.inl ⟨by rfl, ?_⟩) (by assumption) ?_
      rotate_left
      · (intro w hSw; go_simp; try (with_reducible rfl))
      try simp only [Act.put, List.getElem_toArray, List.getElem_cons_zero, List.getElem_cons_succ, List.setIfInBounds_toArray, List.set_cons_zero, List.set_cons_succ]
      refine wpAnyH_take (i := 2) (v := ?_) rfl (by kernel_rfl) (by kernel_rfl) (by kernel_rfl) (fun _ _ _ h => h) (Or.inl ⟨by rfl, ?_⟩) (by assumption) ?_
      rotate_left
      · (intro w hSw; go_simp; try (with_reducible rfl))
      try simp only [Act.put, List.getElem_toArray, List.getElem_cons_zero, List.getElem_cons_succ, List.setIfInBounds_toArray, List.set_cons_zero, List.set_cons_succ]
      refine wpAnyH_take (i := 3) (v := ?_) rfl (by kernel_rfl) (by kernel_rfl) (by kernel_rfl) (fun _ _ _ h => h) (Or.inl ⟨by rfl, ?_⟩) (by assumption) ?_
      rotate_left
      · (intro w hSw; go_simp; try (with_reducible rfl))
      try simp only [Act.put, List.getElem_toArray, List.getElem_cons_zero, List.getElem_cons_succ, List.setIfInBounds_toArray, List.set_cons_zero, List.set_cons_succ]
      refine wpAnyH_take (i := 4) (v := ?_) rfl (by kernel_rfl) (by kernel_rfl) (by kernel_rfl) (fun _ _ _ h => h) (Or.inl ⟨by rfl, ?_⟩) (by assumption) ?_
      rotate_left
      · (intro w hSw; go_simp; try (with_reducible rfl))
      try simp only [Act.put, List.getElem_toArray, List.getElem_cons_zero, List.getElem_cons_succ, List.setIfInBounds_toArray, List.set_cons_zero, List.set_cons_succ]
      refine wpAnyH_take (i := 5) (v := ?_) rfl (by kernel_rfl) (by kernel_rfl) (by kernel_rfl) (fun _ _ _ h => h) (Or.inl ⟨by rfl, ?_⟩) (by assumption) ?_
      rotate_left
      · (intro w hSw; go_simp; try (with_reducible rfl))
      try simp only [Act.put, List.getElem_toArray, List.getElem_cons_zero, List.getElem_cons_succ, List.setIfInBounds_toArray, List.set_cons_zero, List.set_cons_succ]
      refine wpAnyH_take (i := 6) rfl (by kernel_rfl) (by kernel_rfl) (by kernel_rfl) (fun _ _ _ h => h) (yields_addrS H16 CA (by rfl) _ rfl rfl) (by assumption) ?_
      try simp only [Act.put, List.getElem_toArray, List.getElem_cons_zero, List.getElem_cons_succ, List.setIfInBounds_toArray, List.set_cons_zero, List.set_cons_succ]
      refine wpAnyH_ready (rs := [7]) (by kernel_rfl) (by simp) ?_
      refine AllReadyH.cons rfl (fun K hK => ?_) AllReadyH.nil
      go_simp
      refine (HBI _).out.mono ?_
      rintro e w2 ⟨rfl, hb2⟩
      replace HX := Lib.hid (HX.out.below hb2)
      replace HF := Lib.hid (HF.out.trans (Foot.ofBelow (wblk G vB m) hb2))
      replace hBW := Nat.le_trans hBW hb2.size
      replace HR := Lib.hid (HR.out.below hb2)
      clear hb2 HBI
      go_wp2_with fail
      refine hK.out _ _ (HSI.out _ HR.out) (fun hHeldb => ?_)
      clear hK K
      try simp only [Act.put, List.getElem_toArray, List.getElem_cons_zero, List.getElem_cons_succ, List.setIfInBounds_toArray, List.set_cons_zero, List.set_cons_succ]
      refine wpAnyH_take (i := 8) (v := ?_) rfl (by kernel_rfl) (by kernel_rfl) (by kernel_rfl) (fun _ _ _ h => h) (Or.inl ⟨by rfl, ?_⟩) (by assumption) ?_
      rotate_left
      · (intro w hSw; go_simp; try (with_reducible rfl))
      try simp only [Act.put, List.getElem_toArray, List.getElem_cons_zero, List.getElem_cons_succ, List.setIfInBounds_toArray, List.set_cons_zero, List.set_cons_succ]
      have CSL : Hid (∀ w', S w' → (Instr.sliceAt 38 (.pointer (some ⟨P, 5, none⟩)) none (some (.int .i64 (IntKind.i64.wrap 16))) none).run Try.prog w' = .ok (.slice (some ⟨P, 5, none⟩) 16 16) w') := Lib.hid (fun w' _ => by kernel_rfl)
      refine wpAnyH_take (i := 9) (v := ?_) rfl (by kernel_rfl) (by kernel_rfl) (by kernel_rfl) (fun _ _ _ h => h) (Or.inl ⟨by rfl, ?_⟩) (by assumption) ?_
      rotate_left
      · (intro w hSw; have hc0 := CSL.out w hSw; go_simp; try (with_reducible rfl))
      try simp only [Act.put, List.getElem_toArray, List.getElem_cons_zero, List.getElem_cons_succ, List.setIfInBounds_toArray, List.set_cons_zero, List.set_cons_succ]
      have HBY := Lib.hid (addr_bytes (CA.out _ (HSI.out _ HR.out)) H16.out HLT.out 16 (by omega))
      have HBL : Hid ((byB (r.b.take 16)).length = 16) := Lib.hid (by rw [byB_len, List.length_take, H16.out]; rfl)
      have HRA := Lib.hid (rawin_any (byB (r.b.take 16)) HX.out HBY.out (by have := HBL.out; have := HOK.out.len; omega) hBW)
      rw [HBL.out] at HRA
      have HDD : Hid (dt = (byB (r.b.take 16), u.2.1, u.2.2)) := Lib.hid (by rw [HDT.out, if_neg t1, if_pos t2, List.take_of_length_le (by rw [H16.out]; exact Nat.le_refl _)])
      clear HDT
      refine wpAnyH_ready (rs := [10]) (by kernel_rfl) (by simp) ?_
      refine AllReadyH.cons rfl (fun K hK => ?_) AllReadyH.nil
      go_simp
      refine HRA.out.mono ?_
      rintro e w3 ⟨rfl, vB3, hW3, hF3⟩
      have HW3 := Lib.hid hW3
      have HF3 := Lib.hid (HF.out.trans hF3)
      have HS3 := Lib.hid (HSI.out w3 (HR.out.kept (hF3.keep P HR.out.lt HPN.out)))
      clear hW3 hF3
      go_wp2_with fail
      refine hK.out _ _ HS3.out (fun hHeldc => ?_)
      clear hK K
      try simp only [Act.put, List.getElem_toArray, List.getElem_cons_zero, List.getElem_cons_succ, List.setIfInBounds_toArray, List.set_cons_zero, List.set_cons_succ]
      refine wpAnyH_done (by kernel_rfl) ?_ _
      refine NoPanic.normal ?_
      go_wp2_with fail
      go_end0
      rw [HDD.out]
      exact ⟨rfl, _, _, HW3.out, HF3.out⟩
    · have tbt2 : (r.ty == 28) = false := by rw [beq_eq_false_iff_ne]; exact t2
      by_cases t3 : r.ty = 5
      · have tbt3 : (r.ty == 5) = true := by rw [t3]; rfl
        have HMN := Lib.hid (HMR.out.tg t3)
        have HNT := Lib.hid (nmT_is HMN.out u.1.length u.2.1 u.2.2)
        have HDD : Hid (dt = nmT r.tg u.1.length u.2.1 u.2.2) := Lib.hid (by rw [HDT.out, if_neg t1, if_neg t2, if_pos t3])
        clear HDT t3
        go_upto_region 7 with fail
        refine wp_region_noPanic ?_
        obtain ⟨S, hS⟩ : ∃ S : World → Prop, (fun V => RecIn V P 0 r) = S := ⟨_, rfl⟩
        have HSR : Hid (∀ w', S w' → RecIn w' P 0 r) := Lib.hid (fun w' h => by rw [← hS] at h; exact h)
        have HSS : Hid (S W.drew) := Lib.hid (by rw [← hS]; exact HR.out.below ((Below.refl _ _).drew))
        have HSI : Hid (∀ w', RecIn w' P 0 r → S w') := Lib.hid (fun w' h => by rw [← hS]; exact h)
        clear hS
        refine wp_region_held_drew (S := S) (by kernel_rfl) HSS.out (fun hHeld => ?_)
        replace HX := Lib.hid (HX.out.below ((Below.refl W.heap.size W).drew))
        replace HF := Lib.hid (HF.out.trans (Foot.ofBelow (wblk G vB m) ((Below.refl W.heap.size W).drew)))
        replace hBW : B ≤ W.drew.heap.size := hBW
        replace HR := Lib.hid (HR.out.below ((Below.refl W.heap.size W).drew))
        generalize W.drew = U at *
        have C1 : Hid (∀ w', S w' → w'.cell? ⟨P, 21, none⟩ = some (.string r.tg)) := Lib.hid (fun w' h => by have := (HSR.out w' h).tg; rwa [Nat.zero_add] at this)
        refine wpAnyH_take (i := 0) (v := ?_) rfl (by kernel_rfl) (by kernel_rfl) (by kernel_rfl) (fun _ _ _ h => h) (Or.inl ⟨by rfl, ?_⟩) (by assumption) ?_
        rotate_left
        · (intro w hSw; go_simp; try (with_reducible rfl))
        try simp only [Act.put, List.getElem_toArray, List.getElem_cons_zero, List.setIfInBounds_toArray, List.set_cons_zero, List.set_cons_succ]
        refine wpAnyH_take (i := 1) (v := ?_) rfl (by kernel_rfl) (by kernel_rfl) (by kernel_rfl) (fun _ _ _ h => h) (Or.inl ⟨by rfl, ?_⟩) (by assumption) ?_
        rotate_left
        · (intro w hSw; go_simp; try (with_reducible rfl))
        try simp only [Act.put, List.getElem_toArray, List.getElem_cons_zero, List.getElem_cons_succ, List.setIfInBounds_toArray, List.set_cons_zero, List.set_cons_succ]
        refine wpAnyH_take (i := 2) (v := ?_) rfl (by kernel_rfl) (by kernel_rfl) (by kernel_rfl) (fun _ _ _ h => h) (Or.inl ⟨by rfl, ?_⟩) (by assumption) ?_
        rotate_left
        · (intro w hSw; go_simp; try (with_reducible rfl))
        try simp only [Act.put, List.getElem_toArray, List.getElem_cons_zero, List.getElem_cons_succ, List.setIfInBounds_toArray, List.set_cons_zero, List.set_cons_succ]
        refine wpAnyH_take (i := 3) (v := ?_) rfl (by kernel_rfl) (by kernel_rfl) (by kernel_rfl) (fun _ _ _ h => h) (Or.inl ⟨by rfl, ?_⟩) (by assumption) ?_
        rotate_left
        · (intro w hSw; go_simp; try (with_reducible rfl))
        try simp only [Act.put, List.getElem_toArray, List.getElem_cons_zero, List.getElem_cons_succ, List.setIfInBounds_toArray, List.set_cons_zero, List.set_cons_succ]
        refine wpAnyH_take (i := 4) (v := ?_) rfl (by kernel_rfl) (by kernel_rfl) (by kernel_rfl) (fun _ _ _ h => h) (Or.inl ⟨by rfl, ?_⟩) (by assumption) ?_
        rotate_left
        · (intro w hSw; have hc0 := C1.out w hSw; go_simp; try (with_reducible rfl))
        try simp only [Act.put, List.getElem_toArray, List.getElem_cons_zero, List.getElem_cons_succ, List.setIfInBounds_toArray, List.set_cons_zero, List.set_cons_succ]
        have HNM : Hid (Calls Try.prog 57 #[.pointer (some ⟨G, 0, none⟩), .string r.tg] U (WNameRetX X U G B (wblk G vB m) true (u.1 ++ (nmT r.tg u.1.length u.2.1 u.2.2).1, (nmT r.tg u.1.length u.2.1 u.2.2).2.1, (nmT r.tg u.1.length u.2.1 u.2.2).2.2))) := Lib.hid (by
          have := namex_any r.tg HX.out (by have := may_small HMN.out; omega) (by have := HOK.out.len; omega) (by have := HOK.out.lns; have := HOK.out.len; omega) HOK.out.two HOK.out.low hBW
          rw [HMN.out, if_pos rfl, HNT.out.eq _ rfl] at this
          exact this)
        refine wpAnyH_ready (rs := [5]) (by kernel_rfl) (by simp) ?_
        refine AllReadyH.cons rfl (fun K hK => ?_) AllReadyH.nil
        go_simp
        refine HNM.out.mono ?_
        rintro e w3 ⟨rfl, vB3, m3, hW3, hF3⟩
        have HW3 := Lib.hid hW3
        have HF3 := Lib.hid (HF.out.trans hF3)
        have HS3 := Lib.hid (HSI.out w3 (HR.out.kept (hF3.keep P HR.out.lt HPN.out)))
        clear hW3 hF3 HNM
        go_wp2_with fail
        refine hK.out _ _ HS3.out (fun hHeldc => ?_)
        clear hK K
        try simp only [Act.put, List.getElem_toArray, List.getElem_cons_zero, List.getElem_cons_succ, List.setIfInBounds_toArray, List.set_cons_zero, List.set_cons_succ]
        refine wpAnyH_done (by kernel_rfl) ?_ _
        refine NoPanic.normal ?_
        go_wp2_with fail
        go_end0
        rw [HDD.out]
        exact ⟨rfl, _, _, HW3.out, HF3.out⟩
      · have tbt3 : (r.ty == 5) = false := by rw [beq_eq_false_iff_ne]; exact t3
        have HDD : Hid (dt = (r.da.data.toList, u.2.1, u.2.2)) := Lib.hid (by rw [HDT.out, if_neg t1, if_neg t2, if_neg t3])
        clear HDT
        go_upto_region 2 with fail
        refine wp_region_noPanic ?_
        obtain ⟨S, hS⟩ : ∃ S : World → Prop, (fun V => RecIn V P 0 r) = S := ⟨_, rfl⟩
        have HSR : Hid (∀ w', S w' → RecIn w' P 0 r) := Lib.hid (fun w' h => by rw [← hS] at h; exact h)
        have HSS : Hid (S W.drew) := Lib.hid (by rw [← hS]; exact HR.out.below ((Below.refl _ _).drew))
        have HSI : Hid (∀ w', RecIn w' P 0 r → S w') := Lib.hid (fun w' h => by rw [← hS]; exact h)
        clear hS
        refine wp_region_held_drew (S := S) (by kernel_rfl) HSS.out (fun hHeld => ?_)
        replace HX := Lib.hid (HX.out.below ((Below.refl W.heap.size W).drew))
        replace HF := Lib.hid (HF.out.trans (Foot.ofBelow (wblk G vB m) ((Below.refl W.heap.size W).drew)))
        replace hBW : B ≤ W.drew.heap.size := hBW
        replace HR := Lib.hid (HR.out.below ((Below.refl W.heap.size W).drew))
        generalize W.drew = U at *
        have C1 : Hid (∀ w', S w' → w'.cell? ⟨P, 22, none⟩ = some (.string r.da)) := Lib.hid (fun w' h => by have := (HSR.out w' h).da; rwa [Nat.zero_add] at this)
        refine wpAnyH_take (i := 0) (v := ?_) rfl (by kernel_rfl) (by kernel_rfl) (by kernel_rfl) (fun _ _ _ h => h) (Or.inl ⟨by rfl, ?_⟩) (by assumption) ?_
        rotate_left
        · (intro w hSw; go_simp; try (with_reducible rfl))
        try simp only [Act.put, List.getElem_toArray, List.getElem_cons_zero, List.setIfInBounds_toArray, List.set_cons_zero, List.set_cons_succ]
        refine wpAnyH_take (i := 1) (v := ?_) rfl (by kernel_rfl) (by kernel_rfl) (by kernel_rfl) (fun _ _ _ h => h) (Or.inl ⟨by rfl, ?_⟩) (by assumption) ?_
        rotate_left
        · (intro w hSw; go_simp; try (with_reducible rfl))
        try simp only [Act.put, List.getElem_toArray, List.getElem_cons_zero, List.getElem_cons_succ, List.setIfInBounds_toArray, List.set_cons_zero, List.set_cons_succ]
        refine wpAnyH_take (i := 2) (v := ?_) rfl (by kernel_rfl) (by kernel_rfl) (by kernel_rfl) (fun _ _ _ h => h) (Or.inl ⟨by rfl, ?_⟩) (by assumption) ?_
        rotate_left
        · (intro w hSw; go_simp; try (with_reducible rfl))
        try simp only [Act.put, List.getElem_toArray, List.getElem_cons_zero, List.getElem_cons_succ, List.setIfInBounds_toArray, List.set_cons_zero, List.set_cons_succ]
        refine wpAnyH_take (i := 3) (v := ?_) rfl (by kernel_rfl) (by kernel_rfl) (by kernel_rfl) (fun _ _ _ h => h) (Or.inl ⟨by rfl, ?_⟩) (by assumption) ?_
        rotate_left
        · (intro w hSw; go_simp; try (with_reducible rfl))
        try simp only [Act.put, List.getElem_toArray, List.getElem_cons_zero, List.getElem_cons_succ, List.setIfInBounds_toArray, List.set_cons_zero, List.set_cons_succ]
        refine wpAnyH_take (i := 4) (v := ?_) rfl (by kernel_rfl) (by kernel_rfl) (by kernel_rfl) (fun _ _ _ h => h) (Or.inl ⟨by rfl, ?_⟩) (by assumption) ?_
        rotate_left
        · (intro w hSw; have hc0 := C1.out w hSw; go_simp; try (with_reducible rfl))
        try simp only [Act.put, List.getElem_toArray, List.getElem_cons_zero, List.getElem_cons_succ, List.setIfInBounds_toArray, List.set_cons_zero, List.set_cons_succ]
        have hconv := Lib.run_convert_string_bytes (P := Try.prog) U 9 27 5 r.da Try.underlying9 Try.underlying27 Try.underlying5
        have HCB := Lib.hid (conv_below U r.da)
        have HCC := Lib.hid (conv_cells U r.da)
        refine wpAnyH_ready (rs := [5]) (by kernel_rfl) (by simp) ?_
        refine ready_one rfl rfl (fun K hK => ?_)
        generalize Lib.bytesWorld U 5 r.da = W5 at *
        generalize grownCap U r.da.size 0 5 = cap5 at *
        go_wp2_with fail
        replace HX := Lib.hid (HX.out.below HCB.out)
        replace HF := Lib.hid (HF.out.trans (Foot.ofBelow (wblk G vB m) HCB.out))
        replace hBW := Nat.le_trans hBW HCB.out.size
        replace HR := Lib.hid (HR.out.below HCB.out)
        refine hK.out _ _ (HSI.out _ HR.out) (fun hHeldb => ?_)
        clear hK K hconv
        try simp only [Act.put, List.getElem_toArray, List.getElem_cons_zero, List.getElem_cons_succ, List.setIfInBounds_toArray, List.set_cons_zero, List.set_cons_succ]
        have HRA := Lib.hid (rawx_any (c := cap5) r.da.data.toList HX.out HCC.out (by have := HMR.out.da; have := HOK.out.len; rw [data_size]; omega) hBW)
        rw [data_size] at HRA
        refine wpAnyH_ready (rs := [6]) (by kernel_rfl) (by simp) ?_
        refine AllReadyH.cons rfl (fun K hK => ?_) AllReadyH.nil
        go_simp
        refine HRA.out.mono ?_
        rintro e w3 ⟨rfl, vB3, hW3, hF3⟩
        have HW3 := Lib.hid hW3
        have HF3 := Lib.hid (HF.out.trans hF3)
        have HS3 := Lib.hid (HSI.out w3 (HR.out.kept (hF3.keep P HR.out.lt HPN.out)))
        clear hW3 hF3
        go_wp2_with fail
        refine hK.out _ _ HS3.out (fun hHeldc => ?_)
        clear hK K
        try simp only [Act.put, List.getElem_toArray, List.getElem_cons_zero, List.getElem_cons_succ, List.setIfInBounds_toArray, List.set_cons_zero, List.set_cons_succ]
        refine wpAnyH_done (by kernel_rfl) ?_ _
        refine NoPanic.normal ?_
        go_wp2_with fail
        go_end0
        rw [HDD.out]
        exact ⟨rfl, _, _, HW3.out, HF3.out⟩
end Go.Proofs.Yticdpidngmeebaa
