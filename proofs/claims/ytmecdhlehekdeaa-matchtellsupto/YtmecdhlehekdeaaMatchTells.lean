/- The law MatchTells, where what it reads is of bulk at most 1048576: what an answer tells is the reference's, whatever the query, the records (the first 20) and the lowest bits. Condition: bulk at most 1048576. -/
import Derived.Test.YtmecdhlehekdeaaB6
import Derived.Test.YtmecdhlehekdeaaRows
import Derived.ProofKit
import Derived.Deep.Cut
import Derived.Deep.RegionHeld3
import Derived.OpenShut
import Derived.ShutString
import Derived.ChangeOld
import Derived.Below
import Derived.JoinedCond
namespace Go.Proofs.Ytmecdhlehekdeaa.matchTells
open Go.ChangeShapes Go.WideShapes Go.ChangeAt Go.RowKit
open Go.ChangeMaps (open_string shut_string)
set_option linter.unusedVariables false
set_option maxRecDepth 20000

theorem own : ownKnob Try.prog.godebug = none := by kernel_rfl

theorem recs_setM {w : World} {a : Option Addr} {cap : Nat} {D : List Rec} (h : RecsAt w a cap D) {G : Nat} (hG : ∀ x, a = some x → D.length = 0 ∨ x.block < G) (o : Nat) (u : Value) : RecsAt (w.setCell ⟨G, o, none⟩ u) a cap D := by
  obtain ⟨h1, h2, h3, h4⟩ := h
  refine ⟨h1, h2, h3, ?_⟩
  rcases h4 with h4 | ⟨g, o2, e, hg, hr⟩
  · exact .inl h4
  · rcases hG _ e with h5 | h5
    · exact .inl h5
    · refine .inr ⟨g, o2, e, by simpa using hg, fun j v hv => ?_⟩
      rw [World.cell?_setCell_other _ _ _ _ (by intro h6; injection h6 with h7 _ _; have h8 : g < G := h5; omega)]
      exact hr j v hv
set_option maxRecDepth 100000 in
set_option maxHeartbeats 4000000 in
theorem walk (q : Qry) (a : Option Addr) (len cap : Nat) (D : List Rec) (z : Int) (w : World) (hq : QryGot q 1048576) (hD : RecsIn w a len cap D 1048576) (w2 : (Lit.int .i64 z).wf = true) :
    Calls Try.prog 4 #[qryV q, .slice a len cap, .int .i64 z] w fun e w' => e = .returned (.bool true) ∧ Below w.heap.size w w' := by
  have HAS := fun W => Lib.hid (as11_any q W)
  have HFW := fun W (h : Below w.heap.size w W) => Lib.hid (few11_any a cap D 20 W (hD.at0.below h) (by decide))
  simp only [hD.len] at HFW
  have HA := Lib.hid (hD.at0.take 20)
  have HALL := Lib.hid ((all2_of hD).take 20)
  have HLE : Hid ((D.take 20).length ≤ 20) := Lib.hid (by rw [List.length_take]; omega)
  have HLV := fun W => Lib.hid (lives11_any W)
  have HAR := fun W => Lib.hid (around_any z 16 W w2 (by decide) (by decide))
  have HK16 := aroundN_lt z 16 (by decide)
  generalize aroundN z 16 = k at *
  generalize D.take 20 = L at *
  have hnm : q.nm.size ≤ 2000000 := Nat.le_trans hq.nm (by decide)
  have HFO := fun W (h : Below w.heap.size w W) => Lib.hid (refForge11_any q a cap L W (HA.out.below h))
  have HTE := fun (fl : Int) (g : Nat) W (h : RecsAt W a cap L) => Lib.hid (tell_any q ⟨q.id, fl, [⟨q.nm, q.ty, 1⟩], L, [], []⟩ (some ⟨g, 0, none⟩) a none none 1 cap 0 0 W h HALL.out hnm (by have := HLE.out; show L.length ≤ 900; omega))
  have HTR := fun (fl : Int) (g : Nat) W (h : RecsAt W a cap L) => Lib.hid (refTell11_any q ⟨q.id, fl, [⟨q.nm, q.ty, 1⟩], L, [], []⟩ (some ⟨g, 0, none⟩) a none none 1 cap 0 0 W h HALL.out hnm (by have := HLE.out; show L.length ≤ 900; omega))
  have HMV : Hid (∀ fl g, msgV ⟨q.id, fl, [⟨q.nm, q.ty, 1⟩], L, [], []⟩ (some ⟨g, 0, none⟩) a none none 1 cap 0 0 = .agg #[.int .i64 q.id, .int .i64 fl, .slice (some ⟨g, 0, none⟩) 1 1, .slice a L.length cap, .slice none 0 0, .slice none 0 0]) := Lib.hid (fun _ _ => rfl)
  have HFV : Hid (∀ g, msgV (forgeM q L) (some ⟨g, 0, none⟩) a none none 1 cap 0 0 = .agg #[.int .i64 q.id, .int .i64 33152, .slice (some ⟨g, 0, none⟩) 1 1, .slice a L.length cap, .slice none 0 0, .slice none 0 0]) := Lib.hid (fun _ => rfl)
  simp only [HMV.out] at HTE HTR
  have HSA := fun (x : Tld) v1 v2 B1 B2 W h1 h2 => Lib.hid (same11_any x v1 v2 B1 B2 W h1 h2)
  obtain ⟨n, hn⟩ : ∃ n, L.length = n := ⟨_, rfl⟩
  simp only [hn] at HFW HFO HTE HTR HFV
  clear hq hD w2 hn HMV hnm
  obtain ⟨id, nm, ty, sv⟩ := q
  unfold qryV at *
  simp only at HAS HFO HTE HTR HFV ⊢
  obtain ⟨W0, hW0⟩ : ∃ W0, w.alloc (.cells #[.int .i64 id, .string nm, .int .i64 ty, .int .i64 sv] 23) = W0 := ⟨_, rfl⟩
  have HB0 : Hid (Below w.heap.size w W0) := Lib.hid (by rw [← hW0]; exact (Below.refl _ _).alloc (Nat.le_refl _) _)
  have HQ : Hid (CellsAt W0 w.heap.size [.int .i64 id, .string nm, .int .i64 ty, .int .i64 sv]) := Lib.hid (by rw [← hW0]; exact CellsAt.new w 23 [.int .i64 id, .string nm, .int .i64 ty, .int .i64 sv])
  go_enter Try.func4, Try.ntmps4
  go_upto_region 1 with fail
  try rw [hW0]
  clear hW0
  have q0 := HQ.out.cell 0 _ rfl
  have q1 := HQ.out.cell 1 _ rfl
  have q2 := HQ.out.cell 2 _ rfl
  have q3 := HQ.out.cell 3 _ rfl
  go_wp2_with fail
  refine (HAS _).out.mono ?_
  rintro e w1 ⟨rfl, hb1⟩
  have HB1 := Lib.hid (chain HB0.out hb1)
  have HQ1 := Lib.hid (HQ.out.below hb1)
  clear hb1 q0 q1 q2 q3 HQ HB0
  go_wp2_with fail
  refine (HFW w1 HB1.out).out.mono ?_
  rintro e wq ⟨rfl, hwq⟩
  obtain rfl : w1 = wq := hwq.symm
  clear hwq HFW
  go_wp2_with fail
  refine (HFO w1 HB1.out).out.mono ?_
  rintro e w2 ⟨g, rfl, hg1, _, hr2, hb2⟩
  rw [HFV.out]
  have HB2 := Lib.hid (chain HB1.out hb2)
  have HQ2 := Lib.hid (HQ1.out.below hb2)
  have HR2 := Lib.hid hr2
  clear hb2 hr2 hg1 HFO HQ1 HB1
  go_upto_region 2 with fail
  obtain ⟨W3, hW3⟩ : ∃ W3, w2.alloc (.cells #[.int .i64 id, .int .i64 33152, .slice (some ⟨g, 0, none⟩) 1 1, .slice a n cap, .slice none 0 0, .slice none 0 0] 27) = W3 := ⟨_, rfl⟩
  have hb3 : Below w2.heap.size w2 W3.drew := by rw [← hW3]; exact ((Below.refl _ _).alloc (Nat.le_refl _) _).drew
  have HM3 : Hid (CellsAt W3.drew w2.heap.size [.int .i64 id, .int .i64 33152, .slice (some ⟨g, 0, none⟩) 1 1, .slice a n cap, .slice none 0 0, .slice none 0 0]) := Lib.hid (by
    rw [← hW3]; exact (CellsAt.new w2 27 [.int .i64 id, .int .i64 33152, .slice (some ⟨g, 0, none⟩) 1 1, .slice a n cap, .slice none 0 0, .slice none 0 0]).below (Below.refl _ _).drew)
  have HQ3 := Lib.hid (HQ2.out.below hb3)
  have HR3 := Lib.hid (HR2.out.below hb3)
  have HB3 := Lib.hid (chain HB2.out hb3)
  have HLT : Hid (w.heap.size < w2.heap.size) := Lib.hid HQ2.out.lt
  have HRL : Hid (∀ x, a = some x → L.length = 0 ∨ x.block < w2.heap.size) := Lib.hid (fun x hx => by
    rcases HR2.out.2.2.2 with e | ⟨g2, o2, e, h2, _⟩
    · exact .inl e
    · rw [e] at hx; cases hx; exact .inr h2)
  try rw [hW3]
  clear hW3 hb3 HQ2 HR2
  obtain ⟨P, hP⟩ : ∃ P, w2.heap.size = P := ⟨_, rfl⟩
  have HPS : Hid (w2.heap.size = P) := Lib.hid hP
  have HPB : Hid (w.heap.size ≤ P) := Lib.hid (by rw [← hP]; exact HB2.out.size)
  rw [hP] at HM3 HLT HRL
  try rw [hP]
  clear hP HB2
  go_cut [] from 13 (fun wx => Hid (CellsAt wx P [.int .i64 id, .int .i64 (33152 + (k : Int)), .slice (some ⟨g, 0, none⟩) 1 1, .slice a n cap, .slice none 0 0, .slice none 0 0]) ∧ Hid (CellsAt wx w.heap.size [.int .i64 id, .string nm, .int .i64 ty, .int .i64 sv]) ∧ Hid (RecsAt wx a cap L) ∧ Hid (Below w.heap.size w wx))
  case first =>
    have hwr : IntKind.i64.wrap (33152 + (k : Int)) = 33152 + (k : Int) := by rw [IntKind.wrap_i64]; omega
    have FIN : Hid (∀ U, U = W3.drew.setCell ⟨P, 1, none⟩ (.int .i64 (33152 + (k : Int))) → Hid (CellsAt U P [.int .i64 id, .int .i64 (33152 + (k : Int)), .slice (some ⟨g, 0, none⟩) 1 1, .slice a n cap, .slice none 0 0, .slice none 0 0]) ∧ Hid (CellsAt U w.heap.size [.int .i64 id, .string nm, .int .i64 ty, .int .i64 sv]) ∧ Hid (RecsAt U a cap L) ∧ Hid (Below w.heap.size w U)) := Lib.hid (fun U hU => by
      refine ⟨Lib.hid (by rw [hU]; exact HM3.out.set 1 _ (by simp)), Lib.hid (by rw [hU]; exact HQ3.out.other (by have := HLT.out; omega) _ _), Lib.hid ?_, Lib.hid (by rw [hU]; exact HB3.out.setCell HPB.out _)⟩
      rw [hU]
      exact recs_setM HR3.out (fun x hx => HRL.out x hx) _ _)
    refine wp_region_noPanic ?_
    refine wp_region_held_drew (S := fun _ => True) (by kernel_rfl) trivial (fun hHeld => ?_)
    generalize W3.drew = V at *
    have c1 := HM3.out.cell 1 _ rfl
    have f1 := HM3.out.live 1 (by simp)
    refine wpAnyH_take (i := 0) (v := ?_) rfl (by kernel_rfl) (by kernel_rfl) (by kernel_rfl) (fun _ _ _ h => h) (Or.inl ⟨by rfl, ?_⟩) (by assumption) ?_
    rotate_left
    · (intro w hSw; go_simp; try (with_reducible rfl))
    try simp only [Act.put, List.getElem_toArray, List.getElem_cons_zero, List.setIfInBounds_toArray, List.set_cons_zero, List.set_cons_succ]
    refine wpAnyH_take (i := 2) (v := ?_) rfl (by kernel_rfl) (by kernel_rfl) (by kernel_rfl) (fun _ _ _ h => h) (Or.inl ⟨by rfl, ?_⟩) (by assumption) ?_
    rotate_left
    · (intro w hSw; go_simp; try (with_reducible rfl))
    try simp only [Act.put, List.getElem_toArray, List.getElem_cons_zero, List.getElem_cons_succ, List.setIfInBounds_toArray, List.set_cons_zero, List.set_cons_succ]
    refine wpAnyH_ready (rs := [1, 3]) (by kernel_rfl) (by simp) ?_
    refine AllReadyH.cons rfl (fun K hK => ?_) (ready_one rfl rfl (fun K hK => ?_))
    · rw [if_pos (by rfl)]
      go_wp2_with fail
      refine hK.out _ _ trivial (fun hHeld1 => ?_)
      clear hK K
      try simp only [Act.put, List.getElem_toArray, List.getElem_cons_zero, List.getElem_cons_succ, List.setIfInBounds_toArray, List.set_cons_zero, List.set_cons_succ]
      refine wpAnyH_ready (rs := [3]) (by kernel_rfl) (by simp) ?_
      refine ready_one rfl rfl (fun K hK => ?_)
      go_simp
      refine (HAR _).out.mono ?_
      rintro e wq ⟨rfl, hwq⟩
      obtain rfl : V = wq := hwq
      go_wp2_with fail
      refine hK.out _ _ trivial (fun hHeld2 => ?_)
      clear hK K
      try simp only [Act.put, List.getElem_toArray, List.getElem_cons_zero, List.getElem_cons_succ, List.setIfInBounds_toArray, List.set_cons_zero, List.set_cons_succ]
      refine wpAnyH_take (i := 4) (v := ?_) rfl (by kernel_rfl) (by kernel_rfl) (by kernel_rfl) (fun _ _ _ h => h) (Or.inl ⟨by rfl, ?_⟩) (by assumption) ?_
      rotate_left
      · (intro w hSw; go_simp; try (with_reducible rfl))
      try simp only [Act.put, List.getElem_toArray, List.getElem_cons_zero, List.getElem_cons_succ, List.setIfInBounds_toArray, List.set_cons_zero, List.set_cons_succ]
      refine wpAnyH_take (i := 5) (v := ?_) rfl (by kernel_rfl) (by kernel_rfl) (by kernel_rfl) (fun _ _ _ h => h) (Or.inl ⟨by rfl, ?_⟩) (by assumption) ?_
      rotate_left
      · (intro w hSw; go_simp; try (with_reducible rfl))
      try simp only [Act.put, List.getElem_toArray, List.getElem_cons_zero, List.getElem_cons_succ, List.setIfInBounds_toArray, List.set_cons_zero, List.set_cons_succ]
      refine wpAnyH_ready (rs := [6]) (by kernel_rfl) (by simp) ?_
      refine ready_one rfl rfl (fun K hK => ?_)
      go_wp2_with fail
      refine hK.out _ _ trivial (fun hHeld3 => ?_)
      clear hK K
      try simp only [Act.put, List.getElem_toArray, List.getElem_cons_zero, List.getElem_cons_succ, List.setIfInBounds_toArray, List.set_cons_zero, List.set_cons_succ]
      refine wpAnyH_done (by kernel_rfl) ?_ _
      refine NoPanic.normal ?_
      clear hHeld hHeld1 hHeld2 hHeld3
      go_wp2_with fail
      go_meet
      case rel => exact FIN.out _ rfl
    · go_simp
      refine (HAR _).out.mono ?_
      rintro e wq ⟨rfl, hwq⟩
      obtain rfl : V = wq := hwq
      go_wp2_with fail
      refine hK.out _ _ trivial (fun hHeld1 => ?_)
      clear hK K
      try simp only [Act.put, List.getElem_toArray, List.getElem_cons_zero, List.getElem_cons_succ, List.setIfInBounds_toArray, List.set_cons_zero, List.set_cons_succ]
      refine wpAnyH_ready (rs := [1]) (by kernel_rfl) (by simp) ?_
      refine ready_one rfl rfl (fun K hK => ?_)
      go_wp2_with fail
      refine hK.out _ _ trivial (fun hHeld2 => ?_)
      clear hK K
      try simp only [Act.put, List.getElem_toArray, List.getElem_cons_zero, List.getElem_cons_succ, List.setIfInBounds_toArray, List.set_cons_zero, List.set_cons_succ]
      refine wpAnyH_take (i := 4) (v := ?_) rfl (by kernel_rfl) (by kernel_rfl) (by kernel_rfl) (fun _ _ _ h => h) (Or.inl ⟨by rfl, ?_⟩) (by assumption) ?_
      rotate_left
      · (intro w hSw; go_simp; try (with_reducible rfl))
      try simp only [Act.put, List.getElem_toArray, List.getElem_cons_zero, List.getElem_cons_succ, List.setIfInBounds_toArray, List.set_cons_zero, List.set_cons_succ]
      refine wpAnyH_take (i := 5) (v := ?_) rfl (by kernel_rfl) (by kernel_rfl) (by kernel_rfl) (fun _ _ _ h => h) (Or.inl ⟨by rfl, ?_⟩) (by assumption) ?_
      rotate_left
      · (intro w hSw; go_simp; try (with_reducible rfl))
      try simp only [Act.put, List.getElem_toArray, List.getElem_cons_zero, List.getElem_cons_succ, List.setIfInBounds_toArray, List.set_cons_zero, List.set_cons_succ]
      refine wpAnyH_ready (rs := [6]) (by kernel_rfl) (by simp) ?_
      refine ready_one rfl rfl (fun K hK => ?_)
      go_wp2_with fail
      refine hK.out _ _ trivial (fun hHeld3 => ?_)
      clear hK K
      try simp only [Act.put, List.getElem_toArray, List.getElem_cons_zero, List.getElem_cons_succ, List.setIfInBounds_toArray, List.set_cons_zero, List.set_cons_succ]
      refine wpAnyH_done (by kernel_rfl) ?_ _
      refine NoPanic.normal ?_
      clear hHeld hHeld1 hHeld2 hHeld3
      go_wp2_with fail
      go_meet
      case rel => exact FIN.out _ rfl
  case rest =>
    obtain ⟨HM4, HQ4, HR4, HB4⟩ := hcut
    clear HM3 HQ3 HR3 HB3 HAR HRL HPS HPB
    have HTF := HTE (33152 + (k : Int)) g
    have HTG := HTR (33152 + (k : Int)) g
    clear HTE HTR
    generalize tellP (33152 + (k : Int)) nm ty L = X at *
    generalize 33152 + (k : Int) = fl at *
    obtain ⟨S, hS⟩ : ∃ S : World → Prop, (fun U => U.rangeAt w.heap.size 0 [.int .i64 id, .string nm, .int .i64 ty, .int .i64 sv] ∧ U.rangeAt P 0 [.int .i64 id, .int .i64 fl, .slice (some ⟨g, 0, none⟩) 1 1, .slice a n cap, .slice none 0 0, .slice none 0 0]) = S := ⟨_, rfl⟩
    have C1 : Hid (∀ w', S w' → w'.rangeAt w.heap.size 0 [.int .i64 id, .string nm, .int .i64 ty, .int .i64 sv]) := Lib.hid (fun w' h => by rw [← hS] at h; exact h.1)
    have C2 : Hid (∀ w', S w' → w'.rangeAt P 0 [.int .i64 id, .int .i64 fl, .slice (some ⟨g, 0, none⟩) 1 1, .slice a n cap, .slice none 0 0, .slice none 0 0]) := Lib.hid (fun w' h => by rw [← hS] at h; exact h.2)
    have HSI : Hid (∀ U, Below wc.drew.heap.size wc.drew U → S U) := Lib.hid (fun U h => by
      have h1 := (Below.refl wc.heap.size wc).drew
      rw [← hS]; exact ⟨((HQ4.out.below h1).below h).range, ((HM4.out.below h1).below h).range⟩)
    have HR5 := Lib.hid (HR4.out.below (Below.refl _ _).drew)
    have HB5 : Hid (Below w.heap.size w wc.drew) := Lib.hid HB4.out.drew
    have hsQ : (Try.prog.info? 23).map (·.size) = some ([Value.int .i64 id, .string nm, .int .i64 ty, .int .i64 sv] : List Value).length := by kernel_rfl
    have hsM : (Try.prog.info? 27).map (·.size) = some ([Value.int .i64 id, .int .i64 fl, .slice (some ⟨g, 0, none⟩) 1 1, .slice a n cap, .slice none 0 0, .slice none 0 0] : List Value).length := by kernel_rfl
    clear hS HM4 HQ4 HR4 HB4
    go_upto_region 3 with fail
    refine wp_region_noPanic ?_
    refine wp_region_held_drew (S := S) (by kernel_rfl) (HSI.out _ (Below.refl _ _)) (fun hHeld => ?_)
    generalize wc.drew = V at *
    refine wpAnyH_take (i := 0) rfl (by kernel_rfl) (by kernel_rfl) (by kernel_rfl) (fun _ _ _ h => h) (yields_row C1 Try.underlying23 rfl hsQ (by rfl) _ rfl rfl) (by assumption) ?_
    try simp only [Act.put, List.getElem_toArray, List.getElem_cons_zero, List.setIfInBounds_toArray, List.set_cons_zero, List.set_cons_succ]
    refine wpAnyH_take (i := 1) rfl (by kernel_rfl) (by kernel_rfl) (by kernel_rfl) (fun _ _ _ h => h) (yields_row C2 Try.underlying27 rfl hsM (by rfl) _ rfl rfl) (by assumption) ?_
    try simp only [Act.put, List.getElem_toArray, List.getElem_cons_zero, List.getElem_cons_succ, List.setIfInBounds_toArray, List.set_cons_zero, List.set_cons_succ]
    refine wpAnyH_take (i := 3) rfl (by kernel_rfl) (by kernel_rfl) (by kernel_rfl) (fun _ _ _ h => h) (yields_row C1 Try.underlying23 rfl hsQ (by rfl) _ rfl rfl) (by assumption) ?_
    try simp only [Act.put, List.getElem_toArray, List.getElem_cons_zero, List.getElem_cons_succ, List.setIfInBounds_toArray, List.set_cons_zero, List.set_cons_succ]
    refine wpAnyH_take (i := 5) rfl (by kernel_rfl) (by kernel_rfl) (by kernel_rfl) (fun _ _ _ h => h) (yields_row C2 Try.underlying27 rfl hsM (by rfl) _ rfl rfl) (by assumption) ?_
    try simp only [Act.put, List.getElem_toArray, List.getElem_cons_zero, List.getElem_cons_succ, List.setIfInBounds_toArray, List.set_cons_zero, List.set_cons_succ]
    clear hsQ hsM C1 C2
    refine wpAnyH_ready (rs := [2]) (by kernel_rfl) (by simp) ?_
    refine ready_one rfl rfl (fun K hK => ?_)
    go_simp
    refine (HTF V HR5.out).out.mono ?_
    rintro e w5 ⟨v5, rfl, hr5, hb5⟩
    have HG5 := Lib.hid hb5
    have HX5 := Lib.hid hr5
    clear hb5 hr5 HTF
    go_wp2_with fail
    refine hK.out _ _ (HSI.out _ HG5.out) (fun hHeld5 => ?_)
    clear hK K
    try simp only [Act.put, List.getElem_toArray, List.getElem_cons_zero, List.getElem_cons_succ, List.setIfInBounds_toArray, List.set_cons_zero, List.set_cons_succ]
    refine wpAnyH_ready (rs := [4]) (by kernel_rfl) (by simp) ?_
    refine ready_one rfl rfl (fun K hK => ?_)
    go_simp
    refine (HAS w5).out.mono ?_
    rintro e w6 ⟨rfl, hb6⟩
    have HG6 := Lib.hid (chain HG5.out hb6)
    have HX6 := Lib.hid (HX5.out.below hb6)
    clear hb6 HX5 HG5 HAS
    go_wp2_with fail
    refine hK.out _ _ (HSI.out _ HG6.out) (fun hHeld6 => ?_)
    clear hK K
    try simp only [Act.put, List.getElem_toArray, List.getElem_cons_zero, List.getElem_cons_succ, List.setIfInBounds_toArray, List.set_cons_zero, List.set_cons_succ]
    refine wpAnyH_ready (rs := [6]) (by kernel_rfl) (by simp) ?_
    refine ready_one rfl rfl (fun K hK => ?_)
    go_simp
    refine (HTG w6 (HR5.out.below HG6.out)).out.mono ?_
    rintro e w7 ⟨v7, rfl, hr7, hb7⟩
    have HG7 := Lib.hid (chain HG6.out hb7)
    have HX7 := Lib.hid (HX6.out.below hb7)
    have HY7 := Lib.hid hr7
    clear hb7 hr7 HX6 HG6 HTG
    go_wp2_with fail
    refine hK.out _ _ (HSI.out _ HG7.out) (fun hHeld7 => ?_)
    clear hK K
    try simp only [Act.put, List.getElem_toArray, List.getElem_cons_zero, List.getElem_cons_succ, List.setIfInBounds_toArray, List.set_cons_zero, List.set_cons_succ]
    refine wpAnyH_ready (rs := [7]) (by kernel_rfl) (by simp) ?_
    refine ready_one rfl rfl (fun K hK => ?_)
    go_simp
    refine (HSA X v5 v7 _ _ w7 HX7.out HY7.out).out.mono ?_
    rintro e w8 ⟨rfl, hb8⟩
    have HG8 := Lib.hid (chain HG7.out hb8)
    clear hb8 HX7 HY7 HG7 HSA
    go_wp2_with fail
    refine hK.out _ _ (HSI.out _ HG8.out) (fun hHeld8 => ?_)
    clear hK K
    try simp only [Act.put, List.getElem_toArray, List.getElem_cons_zero, List.getElem_cons_succ, List.setIfInBounds_toArray, List.set_cons_zero, List.set_cons_succ]
    refine wpAnyH_take (i := 8) (v := ?_) rfl (by kernel_rfl) (by kernel_rfl) (by kernel_rfl) (fun _ _ _ h => h) (Or.inl ⟨by rfl, ?_⟩) (by assumption) ?_
    rotate_left
    · (intro w hSw; go_simp; try (with_reducible rfl))
    try simp only [Act.put, List.getElem_toArray, List.getElem_cons_zero, List.getElem_cons_succ, List.setIfInBounds_toArray, List.set_cons_zero, List.set_cons_succ]
    refine wpAnyH_ready (rs := [9]) (by kernel_rfl) (by simp) ?_
    refine ready_one rfl rfl (fun K hK => ?_)
    go_simp
    refine (HLV w8).out.mono ?_
    rintro e w9 ⟨rfl, hb9⟩
    have HG9 := Lib.hid (chain HG8.out hb9)
    clear hb9 HG8 HLV
    go_wp2_with fail
    refine hK.out _ _ (HSI.out _ HG9.out) (fun hHeld9 => ?_)
    clear hK K
    try simp only [Act.put, List.getElem_toArray, List.getElem_cons_zero, List.getElem_cons_succ, List.setIfInBounds_toArray, List.set_cons_zero, List.set_cons_succ]
    refine wpAnyH_take (i := 10) (v := ?_) rfl (by kernel_rfl) (by kernel_rfl) (by kernel_rfl) (fun _ _ _ h => h) (Or.inl ⟨by rfl, ?_⟩) (by assumption) ?_
    rotate_left
    · (intro w hSw; go_simp; try (with_reducible rfl))
    try simp only [Act.put, List.getElem_toArray, List.getElem_cons_zero, List.getElem_cons_succ, List.setIfInBounds_toArray, List.set_cons_zero, List.set_cons_succ]
    refine wpAnyH_take (i := 11) (v := ?_) rfl (by kernel_rfl) (by kernel_rfl) (by kernel_rfl) (fun _ _ _ h => h) (Or.inl ⟨by rfl, ?_⟩) (by assumption) ?_
    rotate_left
    · (intro w hSw; go_simp; try (with_reducible rfl))
    try simp only [Act.put, List.getElem_toArray, List.getElem_cons_zero, List.getElem_cons_succ, List.setIfInBounds_toArray, List.set_cons_zero, List.set_cons_succ]
    refine wpAnyH_done (by kernel_rfl) ?_ _
    refine NoPanic.normal ?_
    clear hHeld hHeld5 hHeld6 hHeld7 hHeld8 hHeld9 HSI
    go_wp2_with fail
    go_ret
    exact ⟨rfl, chain HB5.out HG9.out⟩

theorem contract (H : Type) (enc : TypeId × Value → H) (W : World) (base : Nat) (args : Array Value) (ds gs : List (DataW H)) (before : List MemPlace)
    (hval0 : ∀ (j : Nat) t v, Try.f4.params[j]? = some t → args[j]? = some v → Value.okWide Try.prog W .any base t v)
    (hW : DataW.Whole enc Try.prog Try.f4.params.toList Rows.matchTellsSpec.vars false W args.toList ds gs before) (hk : Rows.uptoSmall H (ds ++ gs) = true) :
    Calls Try.prog 4 args W fun e W' => ∃ v, e = .returned v ∧ Rows.matchTellsSpec.post enc Try.prog Try.f4 false true false false W args v W' := by
  have hkb : ∀ d ∈ ds, Rows.uptoBulk d ≤ 1048576 := fun d hd => Nat.le_trans (bulk_mem (List.mem_append_left _ hd)) (of_decide_eq_true hk)
  clear hk
  have hval : ∀ (j : Nat) t v, Try.f4.params[j]? = some t → args[j]? = some v → Value.okWide Try.prog W .any base t v := hval0
  have hW' := hW
  obtain ⟨p, q, hA0, hV, rfl, hfz, hnd⟩ := hW
  have hA : DataW.TrodAll enc Try.prog W 0 (fun _ => true) true Try.f4.params.toList args.toList ds p := hA0
  rw [Try.params4] at hA hval
  obtain ⟨v0, vs0, d0, ds0, p0, q0, hargs, rfl, rfl, h0, r0⟩ := trodAll_cons hA
  obtain ⟨v1, vs1, d1, ds1, p1, q1, rfl, rfl, rfl, h1, r1⟩ := trodAll_cons r0
  obtain ⟨v2, vs2, d2, ds2, p2, q2, rfl, rfl, rfl, h2, r2⟩ := trodAll_cons r1
  obtain ⟨rfl, rfl, rfl⟩ := trodAll_nil r2
  obtain rfl : args = #[v0, v1, v2] := by cases args; simp_all
  obtain ⟨rfl, rfl⟩ := trodVars_none hV
  have k0 := h0
  have lt0 : ∀ x ∈ p0, x.block < W.heap.size := by obtain ⟨m, hm⟩ := k0; exact DataW.trod_lt m _ _ _ hm
  obtain ⟨q0, rfl, w0⟩ := open_qry (hval 0 23 v0 rfl rfl) h0
  replace w0 := w0.wider (hkb d0 (by simp))
  obtain ⟨a1, len1, cap1, rfl⟩ := okWide_slice Try.underlying25 (hval 1 25 v1 rfl rfl)
  have k1 := h1
  have lt1 : ∀ x ∈ p1, x.block < W.heap.size := by obtain ⟨m, hm⟩ := k1; exact DataW.trod_lt m _ _ _ hm
  obtain ⟨z1, w1⟩ : ∃ D, RecsIn W a1 len1 cap1 D (Rows.uptoBulk d1) := by
    obtain ⟨fuel, hf⟩ := h1
    obtain ⟨xa, xl, xc, D, hcs, hw⟩ := open_recs hf
    simp [Value.cells] at hcs
    obtain ⟨rfl, rfl, rfl⟩ := hcs
    exact ⟨D, hw⟩
  replace w1 := w1.wider2 (hkb d1 (by simp))
  obtain ⟨a2, rfl, rfl, rfl, w2⟩ := open_int Try.underlying3 (hval 2 3 v2 rfl rfl) h2
  clear hA0 hval0
  refine (walk q0 a1 len1 cap1 z1 a2 W w0 w1 w2).mono fun e W' ⟨he, bel⟩ => ?_
  subst he
  exact ⟨_, rfl, _, _, _, [], _, [], hW', trodAll_mk1 (shut_bool Try.underlying4 _), (trodAll_cons_mk (Below.trod laidOut (by kernel_rfl) (of_decide_eq_true (by kernel_rfl)) k0 bel lt0) (trodAll_cons_mk (Below.trod laidOut (by kernel_rfl) (of_decide_eq_true (by kernel_rfl)) k1 bel lt1) (trodAll_cons_mk (shut_int Try.underlying3 w2) trodAll_mk0))), rfl, bel.frame _, fun h => by cases h⟩

set_option maxRecDepth 100000 in
theorem lifted (os : Os) (started : os.Started) (H : Type) (enc : TypeId × Value → H) (F : Stop.Interp) :
    ReturnsInHanded {} Try.checked os 4 .any ((Rows.OpenSpec.upto Rows.matchTellsSpec).pre6 enc Try.prog Try.f4 Rows.matchTellsUptoRow.domain false) (((Rows.OpenSpec.upto Rows.matchTellsSpec).at F).post enc Try.prog Try.f4 false true false false) := by
  refine returnsInHanded_of_cond (C := Try.checked) (s := Rows.OpenSpec.upto Rows.matchTellsSpec) (k := Rows.uptoSmall) rfl own started (by kernel_rfl) Try.func4
    (OpenSpec.witness (enc := enc) (C := Try.checked) (s := Rows.OpenSpec.upto Rows.matchTellsSpec) (k := Rows.uptoSmall) rfl false ⟨#[], #[.agg #[.int .i64 0, .string ByteArray.empty, .int .i64 0, .int .i64 0], .slice none 0 0, .int .i64 0], []⟩ 8 (by kernel_rfl) (by kernel_rfl) (by kernel_rfl)
      (x := ([.agg [.lit (.int .i64 0), .lit (.string []), .lit (.int .i64 0), .lit (.int .i64 0)], .nil, .lit (.int .i64 0)], [], [])) (by kernel_rfl) rfl (by kernel_rfl)) ?_
  intro W base args ds gs before hval hW _ hk _
  exact contract H enc W base args ds gs before hval hW hk

theorem proved : Rows.MatchTellsUptoSaid :=
  OpenClaim.holds_of_cond 4 Try.f4 rfl rfl rfl rfl rfl rfl rfl ⟨rfl, rfl, rfl, rfl, rfl⟩ rfl rfl rfl rfl rfl (by kernel_rfl) Try.func4 (by kernel_rfl)
    (of_decide_eq_true (by kernel_rfl)) (by unfold Func.isWrapper; first | (rw [if_pos (by decide +kernel)]; kernel_rfl) | (rw [if_neg (by decide +kernel)]; exact ⟨rfl, rfl⟩))
    (fun os started H enc _ F => lifted os started H enc F)
#print axioms proved
end Go.Proofs.Ytmecdhlehekdeaa.matchTells
