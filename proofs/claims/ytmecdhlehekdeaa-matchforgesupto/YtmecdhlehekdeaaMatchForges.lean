/- The law MatchForges, where what it reads is of bulk at most 1048576: what Forge makes is the reference's message, and answers the query from its server alone, whatever the query, the records (the first 10) and the server. Condition: bulk at most 1048576. -/
import Derived.Test.YtmecdhlehekdeaaB6
import Derived.Test.YtmecdhlehekdeaaRows
import Derived.ProofKit
import Derived.Deep.Cut
import Derived.Deep.RegionHeld3
import Derived.OpenShut
import Derived.ShutString
import Derived.ChangeOld
import Derived.Below
import Derived.JoinedCond
namespace Go.Proofs.Ytmecdhlehekdeaa.matchForges
open Go.ChangeShapes Go.WideShapes Go.ChangeAt Go.RowKit
open Go.ChangeMaps (open_string shut_string)
set_option linter.unusedVariables false
set_option maxRecDepth 20000

theorem own : ownKnob Try.prog.godebug = none := by kernel_rfl

theorem flag_33152 : flagOk 33152 = true := by kernel_rfl
theorem like_self (s : ByteArray) : likeB s s = true := by rw [likeB_iff]
theorem ans_forge (q : Qry) (s : Int) (L : List Rec) : ansP q s (forgeM q L) = decide (q.sv = s) := by
  unfold ansP forgeM
  simp only [flag_33152, ansQ, like_self, decide_true, Bool.and_true]
set_option maxRecDepth 100000 in
set_option maxHeartbeats 4000000 in
theorem walk (q : Qry) (a : Option Addr) (len cap : Nat) (D : List Rec) (z : Int) (w : World) (hq : QryGot q 1048576) (hD : RecsIn w a len cap D 1048576) (w2 : (Lit.int .i64 z).wf = true) :
    Calls Try.prog 7 #[qryV q, .slice a len cap, .int .i64 z] w fun e w' => e = .returned (.bool true) ∧ Below w.heap.size w w' := by
  have HFW := fun W (h : Below w.heap.size w W) => Lib.hid (few11_any a cap D 10 W (hD.at0.below h) (by decide))
  simp only [hD.len] at HFW
  have HA := Lib.hid (hD.at0.take 10)
  have HLE : Hid ((D.take 10).length ≤ 10) := Lib.hid (by rw [List.length_take]; omega)
  have HLV := fun W => Lib.hid (lives11_any W)
  generalize D.take 10 = L at *
  have hnm : q.nm.size ≤ 2000000 := Nat.le_trans hq.nm (by decide)
  have HAS := fun W => Lib.hid (pack_as q W)
  have HFM : ∀ W, Below w.heap.size w W → Hid (Calls Try.prog 24 #[qryV q, .slice a L.length cap] W fun e w' => Below W.heap.size W w' ∧ ∃ aq a1 c1, e = .returned (msgV (forgeM q L) aq a1 none none 1 c1 0 0) ∧ MsgIn w' (forgeM q L) aq a1 none none 1 c1 0 0) := fun W (h : Below w.heap.size w W) => Lib.hid (forge_any q a cap L W (HA.out.below h) (by have := HLE.out; omega) hq.ty hq.nx)
  have HFO := fun W (h : RecsAt W a cap L) => Lib.hid (refForge11_any q a cap L W h)
  have HSM := fun aq a1 c1 bq W (h : MsgIn W (forgeM q L) aq a1 none none 1 c1 0 0) (k : MsgIn W (forgeM q L) bq a none none 1 cap 0 0) => Lib.hid (refSame9_any (forgeM q L) (forgeM q L) aq a1 none none 1 c1 0 0 bq a none none 1 cap 0 0 W h k ⟨by show 1 ≤ _; decide, by have := HLE.out; show L.length ≤ _; omega, Nat.zero_le _, Nat.zero_le _⟩ ⟨by show 1 ≤ _; decide, by have := HLE.out; show L.length ≤ _; omega, Nat.zero_le _, Nat.zero_le _⟩)
  have HAN := fun aq a1 c1 W (h : MsgIn W (forgeM q L) aq a1 none none 1 c1 0 0) => Lib.hid (answers11_any q z (forgeM q L) aq a1 none none 1 c1 0 0 W h.qs hnm (fun u hu => by rw [List.mem_singleton.1 hu]; exact hnm))
  simp only [ans_forge, decide_true] at HAN HSM
  have HFQ : Hid (FitQ ⟨q.nm, q.ty, 1⟩) := Lib.hid ⟨hq.ty, (by decide : (Lit.int .i64 1).wf = true), hq.nx⟩
  have HMV : Hid (∀ aq a1 c1, msgV (forgeM q L) aq a1 none none 1 c1 0 0 = .agg #[.int .i64 q.id, .int .i64 33152, .slice aq 1 1, .slice a1 L.length c1, .slice none 0 0, .slice none 0 0]) := Lib.hid (fun _ _ _ => rfl)
  have HQG : Hid (∀ w' g, RowQ w' g (.slice (some ⟨g, 0, none⟩) 1 1) [⟨q.nm, q.ty, 1⟩] → RecsAt w' a cap L → MsgIn w' (forgeM q L) (some ⟨g, 0, none⟩) a none none 1 cap 0 0) := Lib.hid (fun w' g h1 h2 => by
    obtain ⟨aq, cq, e, m⟩ := h1.qus (fun x hx => by rw [List.mem_singleton.1 hx]; exact HFQ.out)
    injection e with e1 e2 e3
    subst e1 e3
    exact ⟨m, h2, RecsAt.none0 _, RecsAt.none0 _⟩)
  simp only [HMV.out] at HSM HAN
  obtain ⟨n, hn⟩ : ∃ n, L.length = n := ⟨_, rfl⟩
  simp only [hn] at HFW HFM HFO HMV HSM HAN
  clear hq hD w2 hn hnm HFQ
  have HMI : Hid (∀ W W' m aq a1 c1, MsgIn W m aq a1 none none 1 c1 0 0 → Below W.heap.size W W' → MsgIn W' m aq a1 none none 1 c1 0 0) := Lib.hid (fun W W' m aq a1 c1 h hb => h.below hb)
  generalize hfm : forgeM q L = FM at *
  clear hfm
  obtain ⟨id, nm, ty, sv⟩ := q
  unfold qryV at *
  simp only at HAS HFM HFO HMV HSM HAN HQG ⊢
  obtain ⟨W0, hW0⟩ : ∃ W0, w.alloc (.cells #[.int .i64 id, .string nm, .int .i64 ty, .int .i64 sv] 23) = W0 := ⟨_, rfl⟩
  have HB0 : Hid (Below w.heap.size w W0) := Lib.hid (by rw [← hW0]; exact (Below.refl _ _).alloc (Nat.le_refl _) _)
  have HQ : Hid (CellsAt W0 w.heap.size [.int .i64 id, .string nm, .int .i64 ty, .int .i64 sv]) := Lib.hid (by rw [← hW0]; exact CellsAt.new w 23 [.int .i64 id, .string nm, .int .i64 ty, .int .i64 sv])
  go_enter Try.func7, Try.ntmps7
  go_upto_region 1 with fail
  try rw [hW0]
  clear hW0
  have q0 := HQ.out.cell 0 _ rfl
  have q1 := HQ.out.cell 1 _ rfl
  have q2 := HQ.out.cell 2 _ rfl
  have q3 := HQ.out.cell 3 _ rfl
  go_wp2_with fail
  refine (HFW W0 HB0.out).out.mono ?_
  rintro e wq ⟨rfl, hwq⟩
  obtain rfl : W0 = wq := hwq.symm
  clear hwq HFW
  go_wp2_with fail
  refine (HFM W0 HB0.out).out.mono ?_
  rintro e w1 ⟨hb1, aq, a1, c1, rfl, hm⟩
  rw [HMV.out]
  have HB1 := Lib.hid (chain HB0.out hb1)
  have HQ1 := Lib.hid (HQ.out.below hb1)
  have HM1 := Lib.hid hm
  clear hb1 hm q0 q1 q2 q3 HQ HB0 HFM
  go_upto_region 3 with fail
  obtain ⟨W3, hW3⟩ : ∃ W3, w1.alloc (.cells #[.int .i64 id, .int .i64 33152, .slice aq 1 1, .slice a1 n c1, .slice none 0 0, .slice none 0 0] 27) = W3 := ⟨_, rfl⟩
  have hb3 : Below w1.heap.size w1 W3.drew := by rw [← hW3]; exact ((Below.refl _ _).alloc (Nat.le_refl _) _).drew
  have HX3 : Hid (CellsAt W3.drew w1.heap.size [.int .i64 id, .int .i64 33152, .slice aq 1 1, .slice a1 n c1, .slice none 0 0, .slice none 0 0]) := Lib.hid (by
    rw [← hW3]; exact (CellsAt.new w1 27 [.int .i64 id, .int .i64 33152, .slice aq 1 1, .slice a1 n c1, .slice none 0 0, .slice none 0 0]).below (Below.refl _ _).drew)
  have HQ3 := Lib.hid (HQ1.out.below hb3)
  have HM3 := Lib.hid (HMI.out _ _ _ _ _ _ HM1.out hb3)
  have HB3 := Lib.hid (chain HB1.out hb3)
  try rw [hW3]
  clear hW3 hb3 HQ1 HM1 HB1
  obtain ⟨P, hP⟩ : ∃ P, w1.heap.size = P := ⟨_, rfl⟩
  rw [hP] at HX3
  try rw [hP]
  clear hP
  obtain ⟨S, hS⟩ : ∃ S : World → Prop, (fun U => U.rangeAt w.heap.size 0 [.int .i64 id, .string nm, .int .i64 ty, .int .i64 sv] ∧ U.rangeAt P 0 [.int .i64 id, .int .i64 33152, .slice aq 1 1, .slice a1 n c1, .slice none 0 0, .slice none 0 0]) = S := ⟨_, rfl⟩
  have C1 : Hid (∀ w', S w' → w'.rangeAt w.heap.size 0 [.int .i64 id, .string nm, .int .i64 ty, .int .i64 sv]) := Lib.hid (fun w' h => by rw [← hS] at h; exact h.1)
  have C2 : Hid (∀ w', S w' → w'.rangeAt P 0 [.int .i64 id, .int .i64 33152, .slice aq 1 1, .slice a1 n c1, .slice none 0 0, .slice none 0 0]) := Lib.hid (fun w' h => by rw [← hS] at h; exact h.2)
  have C3 : Hid (∀ w', S w' → w'.cell? ⟨w.heap.size, 3, none⟩ = some (.int .i64 sv)) := Lib.hid (fun w' h => by have := C1.out w' h 3 _ rfl; rwa [Nat.zero_add] at this)
  have HSI : Hid (∀ U, Below W3.drew.heap.size W3.drew U → S U) := Lib.hid (fun U h => by
    rw [← hS]; exact ⟨(HQ3.out.below h).range, (HX3.out.below h).range⟩)
  have hsQ : (Try.prog.info? 23).map (·.size) = some ([.int .i64 id, .string nm, .int .i64 ty, .int .i64 sv] : List Value).length := by kernel_rfl
  have hsM : (Try.prog.info? 27).map (·.size) = some ([.int .i64 id, .int .i64 33152, .slice aq 1 1, .slice a1 n c1, .slice none 0 0, .slice none 0 0] : List Value).length := by kernel_rfl
  clear hS HX3 HQ3
  obtain ⟨bs, hbs⟩ : ∃ b, decide (sv = z) = b := ⟨_, rfl⟩
  have hbs2 : decide (z = sv) = bs := by rw [← hbs]; exact decide_eq_decide.2 eq_comm
  have hbs3 : (z == sv) = bs := by rw [← hbs2]; rfl
  simp only [hbs] at HAN
  clear hbs
  refine wp_region_noPanic ?_
  refine wp_region_held_drew (S := S) (by kernel_rfl) (HSI.out _ (Below.refl _ _)) (fun hHeld => ?_)
  generalize W3.drew = V at *
  refine wpAnyH_take (i := 0) rfl (by kernel_rfl) (by kernel_rfl) (by kernel_rfl) (fun _ _ _ h => h) (yields_row C2 Try.underlying27 rfl hsM (by rfl) _ rfl rfl) (by assumption) ?_
  try simp only [Act.put, List.getElem_toArray, List.getElem_cons_zero, List.setIfInBounds_toArray, List.set_cons_zero, List.set_cons_succ]
  refine wpAnyH_take (i := 1) rfl (by kernel_rfl) (by kernel_rfl) (by kernel_rfl) (fun _ _ _ h => h) (yields_row C1 Try.underlying23 rfl hsQ (by rfl) _ rfl rfl) (by assumption) ?_
  try simp only [Act.put, List.getElem_toArray, List.getElem_cons_zero, List.getElem_cons_succ, List.setIfInBounds_toArray, List.set_cons_zero, List.set_cons_succ]
  refine wpAnyH_take (i := 3) (v := ?_) rfl (by kernel_rfl) (by kernel_rfl) (by kernel_rfl) (fun _ _ _ h => h) (Or.inl ⟨by rfl, ?_⟩) (by assumption) ?_
  rotate_left
  · (intro w hSw; go_simp; try (with_reducible rfl))
  try simp only [Act.put, List.getElem_toArray, List.getElem_cons_zero, List.getElem_cons_succ, List.setIfInBounds_toArray, List.set_cons_zero, List.set_cons_succ]
  refine wpAnyH_ready (rs := [2]) (by kernel_rfl) (by simp) ?_
  refine ready_one rfl rfl (fun K hK => ?_)
  go_simp
  refine (HAS V).out.mono ?_
  rintro e w4 ⟨rfl, hb4⟩
  have HG2 := Lib.hid hb4
  clear hb4 HAS
  go_wp2_with fail
  refine hK.out _ _ (HSI.out _ HG2.out) (fun hHeld2 => ?_)
  clear hK K
  try simp only [Act.put, List.getElem_toArray, List.getElem_cons_zero, List.getElem_cons_succ, List.setIfInBounds_toArray, List.set_cons_zero, List.set_cons_succ]
  refine wpAnyH_ready (rs := [4]) (by kernel_rfl) (by simp) ?_
  refine ready_one rfl rfl (fun K hK => ?_)
  go_simp
  refine (HFO w4 ((HA.out.below HB3.out).below HG2.out)).out.mono ?_
  rintro e w5 ⟨g, rfl, _, hrq, hr5, hb5⟩
  rw [HMV.out]
  have HG4 := Lib.hid (chain HG2.out hb5)
  have HN5 := Lib.hid (HQG.out w5 g hrq hr5)
  have HM5 := Lib.hid (HMI.out _ _ _ _ _ _ HM3.out HG4.out)
  clear hrq hr5 hb5 HFO HQG
  go_wp2_with fail
  refine hK.out _ _ (HSI.out _ HG4.out) (fun hHeld4 => ?_)
  clear hK K
  try simp only [Act.put, List.getElem_toArray, List.getElem_cons_zero, List.getElem_cons_succ, List.setIfInBounds_toArray, List.set_cons_zero, List.set_cons_succ]
  refine wpAnyH_ready (rs := [5]) (by kernel_rfl) (by simp) ?_
  refine ready_one rfl rfl (fun K hK => ?_)
  go_simp
  refine (HSM aq a1 c1 (some ⟨g, 0, none⟩) w5 HM5.out HN5.out).out.mono ?_
  rintro e w6 ⟨rfl, hb6⟩
  have HG5 := Lib.hid (chain HG4.out hb6)
  have HM6 := Lib.hid (HMI.out _ _ _ _ _ _ HM5.out hb6)
  clear hb6 HSM HN5
  go_wp2_with fail
  refine hK.out _ _ (HSI.out _ HG5.out) (fun hHeld5 => ?_)
  clear hK K
  try simp only [Act.put, List.getElem_toArray, List.getElem_cons_zero, List.getElem_cons_succ, List.setIfInBounds_toArray, List.set_cons_zero, List.set_cons_succ]
  refine wpAnyH_take (i := 6) (v := ?_) rfl (by kernel_rfl) (by kernel_rfl) (by kernel_rfl) (fun _ _ _ h => h) (Or.inl ⟨by rfl, ?_⟩) (by assumption) ?_
  rotate_left
  · (intro w hSw; go_simp; try (with_reducible rfl))
  try simp only [Act.put, List.getElem_toArray, List.getElem_cons_zero, List.getElem_cons_succ, List.setIfInBounds_toArray, List.set_cons_zero, List.set_cons_succ]
  refine wpAnyH_take (i := 7) rfl (by kernel_rfl) (by kernel_rfl) (by kernel_rfl) (fun _ _ _ h => h) (yields_row C1 Try.underlying23 rfl hsQ (by rfl) _ rfl rfl) (by assumption) ?_
  try simp only [Act.put, List.getElem_toArray, List.getElem_cons_zero, List.getElem_cons_succ, List.setIfInBounds_toArray, List.set_cons_zero, List.set_cons_succ]
  refine wpAnyH_take (i := 8) (v := ?_) rfl (by kernel_rfl) (by kernel_rfl) (by kernel_rfl) (fun _ _ _ h => h) (Or.inl ⟨by rfl, ?_⟩) (by assumption) ?_
  rotate_left
  · (intro w hSw; go_simp; try (with_reducible rfl))
  try simp only [Act.put, List.getElem_toArray, List.getElem_cons_zero, List.getElem_cons_succ, List.setIfInBounds_toArray, List.set_cons_zero, List.set_cons_succ]
  refine wpAnyH_take (i := 9) rfl (by kernel_rfl) (by kernel_rfl) (by kernel_rfl) (fun _ _ _ h => h) (yields_row C2 Try.underlying27 rfl hsM (by rfl) _ rfl rfl) (by assumption) ?_
  try simp only [Act.put, List.getElem_toArray, List.getElem_cons_zero, List.getElem_cons_succ, List.setIfInBounds_toArray, List.set_cons_zero, List.set_cons_succ]
  refine wpAnyH_take (i := 11) (v := ?_) rfl (by kernel_rfl) (by kernel_rfl) (by kernel_rfl) (fun _ _ _ h => h) (Or.inl ⟨by rfl, ?_⟩) (by assumption) ?_
  rotate_left
  · (intro w hSw; go_simp; try (with_reducible rfl))
  try simp only [Act.put, List.getElem_toArray, List.getElem_cons_zero, List.getElem_cons_succ, List.setIfInBounds_toArray, List.set_cons_zero, List.set_cons_succ]
  refine wpAnyH_take (i := 12) (v := ?_) rfl (by kernel_rfl) (by kernel_rfl) (by kernel_rfl) (fun _ _ _ h => h) (Or.inl ⟨by rfl, ?_⟩) (by assumption) ?_
  rotate_left
  · (intro w hSw; go_simp; try (with_reducible rfl))
  try simp only [Act.put, List.getElem_toArray, List.getElem_cons_zero, List.getElem_cons_succ, List.setIfInBounds_toArray, List.set_cons_zero, List.set_cons_succ]
  refine wpAnyH_take (i := 13) (v := ?_) rfl (by kernel_rfl) (by kernel_rfl) (by kernel_rfl) (fun _ _ _ h => h) (Or.inl ⟨by rfl, ?_⟩) (by assumption) ?_
  rotate_left
  · (intro w hSw; have hc0 := C3.out w hSw; go_simp; try (with_reducible rfl))
  try simp only [Act.put, List.getElem_toArray, List.getElem_cons_zero, List.getElem_cons_succ, List.setIfInBounds_toArray, List.set_cons_zero, List.set_cons_succ]
  refine wpAnyH_take (i := 14) (v := ?_) rfl (by kernel_rfl) (by kernel_rfl) (by kernel_rfl) (fun _ _ _ h => h) (Or.inl ⟨by rfl, ?_⟩) (by assumption) ?_
  rotate_left
  · (intro w hSw; go_simp; try (with_reducible rfl))
  try simp only [Act.put, List.getElem_toArray, List.getElem_cons_zero, List.getElem_cons_succ, List.setIfInBounds_toArray, List.set_cons_zero, List.set_cons_succ]
  refine wpAnyH_ready (rs := [10]) (by kernel_rfl) (by simp) ?_
  refine ready_one rfl rfl (fun K hK => ?_)
  go_simp
  refine (HAN aq a1 c1 w6 HM6.out).out.mono ?_
  rintro e w7 ⟨rfl, hb7⟩
  have HG10 := Lib.hid (chain HG5.out hb7)
  clear hb7 HAN
  go_wp2_with fail
  refine hK.out _ _ (HSI.out _ HG10.out) (fun hHeld10 => ?_)
  clear hK K
  try simp only [Act.put, List.getElem_toArray, List.getElem_cons_zero, List.getElem_cons_succ, List.setIfInBounds_toArray, List.set_cons_zero, List.set_cons_succ]
  refine wpAnyH_take (i := 15) (v := ?_) rfl (by kernel_rfl) (by kernel_rfl) (by kernel_rfl) (fun _ _ _ h => h) (Or.inl ⟨by rfl, ?_⟩) (by assumption) ?_
  rotate_left
  · (intro w hSw; go_simp; try (with_reducible rfl))
  try simp only [Act.put, List.getElem_toArray, List.getElem_cons_zero, List.getElem_cons_succ, List.setIfInBounds_toArray, List.set_cons_zero, List.set_cons_succ]
  refine wpAnyH_take (i := 16) (v := ?_) rfl (by kernel_rfl) (by kernel_rfl) (by kernel_rfl) (fun _ _ _ h => h) (Or.inl ⟨by rfl, ?_⟩) (by assumption) ?_
  rotate_left
  · (intro w hSw; go_simp; try (with_reducible rfl))
  try simp only [Act.put, List.getElem_toArray, List.getElem_cons_zero, List.getElem_cons_succ, List.setIfInBounds_toArray, List.set_cons_zero, List.set_cons_succ]
  refine wpAnyH_take (i := 17) (v := ?_) rfl (by kernel_rfl) (by kernel_rfl) (by kernel_rfl) (fun _ _ _ h => h) (Or.inl ⟨by rfl, ?_⟩) (by assumption) ?_
  rotate_left
  · (intro w hSw; go_simp; try (with_reducible rfl))
  try simp only [Act.put, List.getElem_toArray, List.getElem_cons_zero, List.getElem_cons_succ, List.setIfInBounds_toArray, List.set_cons_zero, List.set_cons_succ]
  refine wpAnyH_ready (rs := [18]) (by kernel_rfl) (by simp) ?_
  refine ready_one rfl rfl (fun K hK => ?_)
  go_simp
  refine (HLV w7).out.mono ?_
  rintro e w8 ⟨rfl, hb8⟩
  have HG18 := Lib.hid (chain HG10.out hb8)
  clear hb8 HLV
  go_wp2_with fail
  refine hK.out _ _ (HSI.out _ HG18.out) (fun hHeld18 => ?_)
  clear hK K
  try simp only [Act.put, List.getElem_toArray, List.getElem_cons_zero, List.getElem_cons_succ, List.setIfInBounds_toArray, List.set_cons_zero, List.set_cons_succ]
  refine wpAnyH_take (i := 19) (v := ?_) rfl (by kernel_rfl) (by kernel_rfl) (by kernel_rfl) (fun _ _ _ h => h) (Or.inl ⟨by rfl, ?_⟩) (by assumption) ?_
  rotate_left
  · (intro w hSw; go_simp; try (with_reducible rfl))
  try simp only [Act.put, List.getElem_toArray, List.getElem_cons_zero, List.getElem_cons_succ, List.setIfInBounds_toArray, List.set_cons_zero, List.set_cons_succ]
  refine wpAnyH_take (i := 20) (v := ?_) rfl (by kernel_rfl) (by kernel_rfl) (by kernel_rfl) (fun _ _ _ h => h) (Or.inl ⟨by rfl, ?_⟩) (by assumption) ?_
  rotate_left
  · (intro w hSw; go_simp; try (with_reducible rfl))
  try simp only [Act.put, List.getElem_toArray, List.getElem_cons_zero, List.getElem_cons_succ, List.setIfInBounds_toArray, List.set_cons_zero, List.set_cons_succ]
  refine wpAnyH_done (by kernel_rfl) ?_ _
  refine NoPanic.normal ?_
  clear hHeld hHeld2 hHeld4 hHeld5 hHeld10 hHeld18 C1 C2 C3 HSI
  go_wp2_with fail
  go_ret
  exact ⟨rfl, chain HB3.out HG18.out⟩

theorem contract (H : Type) (enc : TypeId × Value → H) (W : World) (base : Nat) (args : Array Value) (ds gs : List (DataW H)) (before : List MemPlace)
    (hval0 : ∀ (j : Nat) t v, Try.f7.params[j]? = some t → args[j]? = some v → Value.okWide Try.prog W .any base t v)
    (hW : DataW.Whole enc Try.prog Try.f7.params.toList Rows.matchForgesSpec.vars false W args.toList ds gs before) (hk : Rows.uptoSmall H (ds ++ gs) = true) :
    Calls Try.prog 7 args W fun e W' => ∃ v, e = .returned v ∧ Rows.matchForgesSpec.post enc Try.prog Try.f7 false true false false W args v W' := by
  have hkb : ∀ d ∈ ds, Rows.uptoBulk d ≤ 1048576 := fun d hd => Nat.le_trans (bulk_mem (List.mem_append_left _ hd)) (of_decide_eq_true hk)
  clear hk
  have hval : ∀ (j : Nat) t v, Try.f7.params[j]? = some t → args[j]? = some v → Value.okWide Try.prog W .any base t v := hval0
  have hW' := hW
  obtain ⟨p, q, hA0, hV, rfl, hfz, hnd⟩ := hW
  have hA : DataW.TrodAll enc Try.prog W 0 (fun _ => true) true Try.f7.params.toList args.toList ds p := hA0
  rw [Try.params7] at hA hval
  obtain ⟨v0, vs0, d0, ds0, p0, q0, hargs, rfl, rfl, h0, r0⟩ := trodAll_cons hA
  obtain ⟨v1, vs1, d1, ds1, p1, q1, rfl, rfl, rfl, h1, r1⟩ := trodAll_cons r0
  obtain ⟨v2, vs2, d2, ds2, p2, q2, rfl, rfl, rfl, h2, r2⟩ := trodAll_cons r1
  obtain ⟨rfl, rfl, rfl⟩ := trodAll_nil r2
  obtain rfl : args = #[v0, v1, v2] := by cases args; simp_all
  obtain ⟨rfl, rfl⟩ := trodVars_none hV
  have k0 := h0
  have lt0 : ∀ x ∈ p0, x.block < W.heap.size := by obtain ⟨m, hm⟩ := k0; exact DataW.trod_lt m _ _ _ hm
  obtain ⟨q0, rfl, w0⟩ := open_qry (hval 0 23 v0 rfl rfl) h0
  replace w0 := w0.wider (hkb d0 (by simp))
  obtain ⟨a1, len1, cap1, rfl⟩ := okWide_slice Try.underlying25 (hval 1 25 v1 rfl rfl)
  have k1 := h1
  have lt1 : ∀ x ∈ p1, x.block < W.heap.size := by obtain ⟨m, hm⟩ := k1; exact DataW.trod_lt m _ _ _ hm
  obtain ⟨z1, w1⟩ : ∃ D, RecsIn W a1 len1 cap1 D (Rows.uptoBulk d1) := by
    obtain ⟨fuel, hf⟩ := h1
    obtain ⟨xa, xl, xc, D, hcs, hw⟩ := open_recs hf
    simp [Value.cells] at hcs
    obtain ⟨rfl, rfl, rfl⟩ := hcs
    exact ⟨D, hw⟩
  replace w1 := w1.wider2 (hkb d1 (by simp))
  obtain ⟨a2, rfl, rfl, rfl, w2⟩ := open_int Try.underlying3 (hval 2 3 v2 rfl rfl) h2
  clear hA0 hval0
  refine (walk q0 a1 len1 cap1 z1 a2 W w0 w1 w2).mono fun e W' ⟨he, bel⟩ => ?_
  subst he
  exact ⟨_, rfl, _, _, _, [], _, [], hW', trodAll_mk1 (shut_bool Try.underlying4 _), (trodAll_cons_mk (Below.trod laidOut (by kernel_rfl) (of_decide_eq_true (by kernel_rfl)) k0 bel lt0) (trodAll_cons_mk (Below.trod laidOut (by kernel_rfl) (of_decide_eq_true (by kernel_rfl)) k1 bel lt1) (trodAll_cons_mk (shut_int Try.underlying3 w2) trodAll_mk0))), rfl, bel.frame _, fun h => by cases h⟩

set_option maxRecDepth 100000 in
theorem lifted (os : Os) (started : os.Started) (H : Type) (enc : TypeId × Value → H) (F : Stop.Interp) :
    ReturnsInHanded {} Try.checked os 7 .any ((Rows.OpenSpec.upto Rows.matchForgesSpec).pre6 enc Try.prog Try.f7 Rows.matchForgesUptoRow.domain false) (((Rows.OpenSpec.upto Rows.matchForgesSpec).at F).post enc Try.prog Try.f7 false true false false) := by
  refine returnsInHanded_of_cond (C := Try.checked) (s := Rows.OpenSpec.upto Rows.matchForgesSpec) (k := Rows.uptoSmall) rfl own started (by kernel_rfl) Try.func7
    (OpenSpec.witness (enc := enc) (C := Try.checked) (s := Rows.OpenSpec.upto Rows.matchForgesSpec) (k := Rows.uptoSmall) rfl false ⟨#[], #[.agg #[.int .i64 0, .string ByteArray.empty, .int .i64 0, .int .i64 0], .slice none 0 0, .int .i64 0], []⟩ 8 (by kernel_rfl) (by kernel_rfl) (by kernel_rfl)
      (x := ([.agg [.lit (.int .i64 0), .lit (.string []), .lit (.int .i64 0), .lit (.int .i64 0)], .nil, .lit (.int .i64 0)], [], [])) (by kernel_rfl) rfl (by kernel_rfl)) ?_
  intro W base args ds gs before hval hW _ hk _
  exact contract H enc W base args ds gs before hval hW hk

theorem proved : Rows.MatchForgesUptoSaid :=
  OpenClaim.holds_of_cond 7 Try.f7 rfl rfl rfl rfl rfl rfl rfl ⟨rfl, rfl, rfl, rfl, rfl⟩ rfl rfl rfl rfl rfl (by kernel_rfl) Try.func7 (by kernel_rfl)
    (of_decide_eq_true (by kernel_rfl)) (by unfold Func.isWrapper; first | (rw [if_pos (by decide +kernel)]; kernel_rfl) | (rw [if_neg (by decide +kernel)]; exact ⟨rfl, rfl⟩))
    (fun os started H enc _ F => lifted os started H enc F)
#print axioms proved
end Go.Proofs.Ytmecdhlehekdeaa.matchForges
