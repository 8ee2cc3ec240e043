/- Texts that belong together, one behind the other: CeSame, RangeFar, AdrRow, RefWireMay2, QuRow, CellsAt, MsgKit, MatMath, MatCount, AdOne, MatStep, RefMat2, MatCont, MinStep, MatRefCh. -/
import Derived.Test.YtedmkdjijhflnaaB2
import Derived.Deep.RegionHeld3
import Derived.Lib.SliceRun
import Derived.Shelf.Abstract
/- Contract of the reference's SameAddrs of layer 10. -/
namespace Go.Proofs.Ytedmkdjijhflnaa
open Go.RowKit
set_option linter.unusedVariables false
set_option maxRecDepth 20000

/-- An address as plain data: its family, its bytes. -/
def adL (r : Int × List Nat) : List Value := addrL r.1 r.2
/-- A slice of addresses, wherever it lies. -/
def AdsAt (w : World) (a : Option Addr) (cap : Nat) (D : List (Int × List Nat)) : Prop :=
  D.length ≤ cap ∧ cap ≤ maxLen ∧ (∀ r ∈ D, r.2.length = 16) ∧ (D.length = 0 ∨ ∃ g o, a = some ⟨g, o, none⟩ ∧ g < w.heap.size ∧ w.rangeAt g o (D.flatMap adL))
theorem AdsAt.below {w w' : World} {a : Option Addr} {cap : Nat} {D : List (Int × List Nat)} (h : AdsAt w a cap D) (hb : Below w.heap.size w w') : AdsAt w' a cap D := by
  obtain ⟨h1, h2, h3, h4⟩ := h
  refine ⟨h1, h2, h3, ?_⟩
  rcases h4 with h4 | ⟨g, o, e, hg, hr⟩
  · exact .inl h4
  · exact .inr ⟨g, o, e, Nat.lt_of_lt_of_le hg hb.size, fun j u hu => (hb.cell (p := ⟨g, o + j, none⟩) hg).trans (hr j u hu)⟩
theorem AdsAt.at {w : World} {a : Option Addr} {cap : Nat} {D : List (Int × List Nat)} (h : AdsAt w a cap D) (k : Nat) (hk : k < D.length) : ∃ g o, a = some ⟨g, o, none⟩ ∧ g < w.heap.size ∧ w.rangeAt g (o + k * 17) (adL D[k]) := by
  obtain ⟨h1, h2, h3, h4⟩ := h
  rcases h4 with h4 | ⟨g, o, e, hg, hr⟩
  · omega
  · exact ⟨g, o, e, hg, range_at hr (S := 17) (fun d hd => addrL_len d.1 d.2 (h3 d hd)) k hk⟩
theorem run_neq_ad (r s : Int × List Nat) (W : World) (hx : r.2.length = 16) (hy : s.2.length = 16) : (binOp .neq 42 (addrV r.1 r.2) (addrV s.1 s.2)).run Try.prog W = .ok (.bool (!decide (r = s))) W := by
  rw [run_neq_addr r.1 s.1 r.2 s.2 W hx hy]
  have e : decide (r.1 = s.1 ∧ r.2 = s.2) = decide (r = s) := decide_eq_decide.2 (Prod.ext_iff).symm
  rw [e]
theorem guard_ad (op : BinOp) (x y : Operand) (r s : Int × List Nat) (W : World) : (eqGuard op 42 x y (addrV r.1 r.2) (addrV s.1 s.2)).run Try.prog W = .ok () W := guard_addr _ _ _ _ _ _ _ _
theorem yields_ad {ops : Array Oper} {S : World → Prop} {op : Oper} {a : Act} {G o : Nat} {r : Int × List Nat} (h16 : Hid (r.2.length = 16)) (hS : Hid (∀ w, S w → w.rangeAt G o (adL r))) (hw : Region.wanted op (yielded ops a.tmps) = true) (x : Operand) (ho : op.op = .load 42 x) (hx : a.eval x = .pointer (some ⟨G, o, none⟩)) : YieldsIf Try.prog ops S op (addrV r.1 r.2) a :=
  yieldsIf_load_mid hw 42 x ho G o hx (addrL r.1 r.2) _ (fun w h => hS.out w h) Try.underlying42 rfl (by rw [addr_size, addrL_len _ _ h16.out])
set_option maxRecDepth 100000 in
set_option maxHeartbeats 1000000 in
theorem sameAdsC_any (a b : Option Addr) (c d : Nat) (D E : List (Int × List Nat)) (w : World) (hD : AdsAt w a c D) (hE : AdsAt w b d E) (hl : D.length ≤ 1000000) (hl2 : E.length ≤ 1000000) :
    Calls Try.prog 12 #[.slice a D.length c, .slice b E.length d] w fun e w' => e = .returned (.bool (decide (D = E))) ∧ Below w.heap.size w w' := by
  have HD := Lib.hid hD
  have HE := Lib.hid hE
  obtain ⟨R, hR⟩ : ∃ R, decide (D = E) = R := ⟨_, rfl⟩
  have HRR := Lib.hid hR
  rw [hR]
  obtain ⟨N, hN⟩ : ∃ N, D.length = N := ⟨_, rfl⟩
  obtain ⟨M, hM⟩ : ∃ M, E.length = M := ⟨_, rfl⟩
  have HN := Lib.hid hN
  have HM := Lib.hid hM
  rw [hN] at hl ⊢
  rw [hM] at hl2 ⊢
  clear hD hE hR hN hM
  by_cases hNM : N = M
  · subst hNM
    have hne : ((N : Int) != (N : Int)) = false := by simp
    go_enter Try.func12, Try.ntmps12
    go_wp2_with fail
    go_loopw [5] (fun i wr => ∃ k : Nat, k ≤ N ∧ i = .int .i64 (k : Int) ∧ Hid (∀ j (h : j < D.length) (h2 : j < E.length), j < k → D[j] = E[j]) ∧ Hid (Below w.heap.size w wr)) (fun i _ => N - (intOf i).toNat)
    case atStart => exact ⟨0, Nat.zero_le _, rfl, Lib.hid (fun j _ _ h => absurd h (by omega)), Lib.hid (Below.refl _ _)⟩
    case round =>
      obtain ⟨k, hk, rfl, HO, HB⟩ := hrel
      by_cases hkN : k < N
      · have hd : decide ((k : Int) < (N : Int)) = true := decide_eq_true (by omega)
        have hdn : decide (k < N) = true := decide_eq_true hkN
        have hkD : k < D.length := by rw [HN.out]; exact hkN
        have hkE : k < E.length := by rw [HM.out]; exact hkN
        have HBD := Lib.hid HB.out.drew
        obtain ⟨g, o, ha, hg, hrg⟩ := (HD.out.below HBD.out).at k hkD
        obtain ⟨g2, o2, hb, hg2, hrg2⟩ := (HE.out.below HBD.out).at k hkE
        subst ha
        subst hb
        have H16 := Lib.hid (HD.out.2.2.1 _ (List.getElem_mem hkD))
        have H17 := Lib.hid (HE.out.2.2.1 _ (List.getElem_mem hkE))
        have q := fun W => run_neq_ad D[k] E[k] W H16.out H17.out
        have HO2 : Hid (D[k] = E[k] → ∀ j (h : j < D.length) (h2 : j < E.length), j < k + 1 → D[j] = E[j]) := Lib.hid (fun e j h h2 hj => by
          by_cases h3 : j < k
          · exact HO.out j h h2 h3
          · obtain rfl : j = k := by omega
            exact e)
        have HF : Hid (D[k] ≠ E[k] → R = false) := Lib.hid (fun e => by
          rw [← HRR.out]
          refine decide_eq_false (fun h => e ?_)
          subst h
          rfl)
        have gd := guard_ad
        generalize D[k] = r at *
        generalize E[k] = s at *
        have hb1 : (0 : Int) ≤ (k : Int) := by omega
        have hb2 : (k : Int) < (N : Int) := by omega
        obtain ⟨S, hS⟩ : ∃ S : World → Prop, (fun W => W.rangeAt g (o + k * 17) (adL r) ∧ W.rangeAt g2 (o2 + k * 17) (adL s)) = S := ⟨_, rfl⟩
        have C1 : Hid (∀ w', S w' → w'.rangeAt g (o + k * 17) (adL r)) := Lib.hid (fun w' h => by rw [← hS] at h; exact h.1)
        have C2 : Hid (∀ w', S w' → w'.rangeAt g2 (o2 + k * 17) (adL s)) := Lib.hid (fun w' h => by rw [← hS] at h; exact h.2)
        have HSS : Hid (S wr.drew) := Lib.hid (by rw [← hS]; exact ⟨hrg, hrg2⟩)
        clear hS hrg hrg2 hg hg2
        by_cases hrs : r = s
        · have hq : (!decide (r = s)) = false := by rw [decide_eq_true hrs]; rfl
          rw [hq] at q
          have HO3 := Lib.hid (HO2.out hrs)
          clear HO2 HF HO hrs hq
          go_upto_region 6 with fail
          refine wp_region_noPanic ?_
          refine wp_region_held_drew (S := S) (by kernel_rfl) HSS.out (fun hHeld => ?_)
          refine wpAnyH_take (i := 0) (v := ?_) rfl (by kernel_rfl) (by kernel_rfl) (by kernel_rfl) (fun _ _ _ h => h) (Or.inl ⟨by rfl, ?_⟩) (by assumption) ?_
          rotate_left
          · (intro w hSw; go_simp; try (with_reducible rfl))
          try simp only [Act.put, List.getElem_toArray, List.getElem_cons_zero, List.setIfInBounds_toArray, List.set_cons_zero, List.set_cons_succ]
          refine wpAnyH_take (i := 1) (v := ?_) rfl (by kernel_rfl) (by kernel_rfl) (by kernel_rfl) (fun _ _ _ h => h) (Or.inl ⟨by rfl, ?_⟩) (by assumption) ?_
          rotate_left
          · (intro w hSw; go_simp; try (with_reducible rfl))
          try simp only [Act.put, List.getElem_toArray, List.getElem_cons_zero, List.getElem_cons_succ, List.setIfInBounds_toArray, List.set_cons_zero, List.set_cons_succ]
          refine wpAnyH_take (i := 2) (v := ?_) rfl (by kernel_rfl) (by kernel_rfl) (by kernel_rfl) (fun _ _ _ h => h) (Or.inl ⟨by rfl, ?_⟩) (by assumption) ?_
          rotate_left
          · (intro w hSw; go_simp; try (with_reducible rfl))
          try simp only [Act.put, List.getElem_toArray, List.getElem_cons_zero, List.getElem_cons_succ, List.setIfInBounds_toArray, List.set_cons_zero, List.set_cons_succ]
          refine wpAnyH_take (i := 3) rfl (by kernel_rfl) (by kernel_rfl) (by kernel_rfl) (fun _ _ _ h => h) (yields_ad H16 C1 (by rfl) _ rfl rfl) (by assumption) ?_
          try simp only [Act.put, List.getElem_toArray, List.getElem_cons_zero, List.getElem_cons_succ, List.setIfInBounds_toArray, List.set_cons_zero, List.set_cons_succ]
          refine wpAnyH_take (i := 4) (v := ?_) rfl (by kernel_rfl) (by kernel_rfl) (by kernel_rfl) (fun _ _ _ h => h) (Or.inl ⟨by rfl, ?_⟩) (by assumption) ?_
          rotate_left
          · (intro w hSw; go_simp; try (with_reducible rfl))
          try simp only [Act.put, List.getElem_toArray, List.getElem_cons_zero, List.getElem_cons_succ, List.setIfInBounds_toArray, List.set_cons_zero, List.set_cons_succ]
          refine wpAnyH_take (i := 5) (v := ?_) rfl (by kernel_rfl) (by kernel_rfl) (by kernel_rfl) (fun _ _ _ h => h) (Or.inl ⟨by rfl, ?_⟩) (by assumption) ?_
          rotate_left
          · (intro w hSw; go_simp; try (with_reducible rfl))
          try simp only [Act.put, List.getElem_toArray, List.getElem_cons_zero, List.getElem_cons_succ, List.setIfInBounds_toArray, List.set_cons_zero, List.set_cons_succ]
          refine wpAnyH_take (i := 6) (v := ?_) rfl (by kernel_rfl) (by kernel_rfl) (by kernel_rfl) (fun _ _ _ h => h) (Or.inl ⟨by rfl, ?_⟩) (by assumption) ?_
          rotate_left
          · (intro w hSw; go_simp; try (with_reducible rfl))
          try simp only [Act.put, List.getElem_toArray, List.getElem_cons_zero, List.getElem_cons_succ, List.setIfInBounds_toArray, List.set_cons_zero, List.set_cons_succ]
          refine wpAnyH_take (i := 7) rfl (by kernel_rfl) (by kernel_rfl) (by kernel_rfl) (fun _ _ _ h => h) (yields_ad H17 C2 (by rfl) _ rfl rfl) (by assumption) ?_
          try simp only [Act.put, List.getElem_toArray, List.getElem_cons_zero, List.getElem_cons_succ, List.setIfInBounds_toArray, List.set_cons_zero, List.set_cons_succ]
          refine wpAnyH_take (i := 8) (v := ?_) rfl (by kernel_rfl) (by kernel_rfl) (by kernel_rfl) (fun _ _ _ h => h) (Or.inl ⟨by rfl, ?_⟩) (by assumption) ?_
          rotate_left
          · (intro w hSw; go_simp; try (with_reducible rfl))
          try simp only [Act.put, List.getElem_toArray, List.getElem_cons_zero, List.getElem_cons_succ, List.setIfInBounds_toArray, List.set_cons_zero, List.set_cons_succ]
          refine wpAnyH_done (by kernel_rfl) ?_ _
          refine NoPanic.normal ?_
          clear q gd C1 C2 HSS hHeld
          go_wp2_with fail
          go_roundw
          case rel => exact ⟨k + 1, by omega, by go_num, HO3, HBD⟩
          case measure => simp [intOf]; omega
        · have hq : (!decide (r = s)) = true := by rw [decide_eq_false hrs]; rfl
          rw [hq] at q
          have ER := HF.out hrs
          subst ER
          clear HO2 HF HO hrs hq
          go_upto_region 6 with fail
          refine wp_region_noPanic ?_
          refine wp_region_held_drew (S := S) (by kernel_rfl) HSS.out (fun hHeld => ?_)
          refine wpAnyH_take (i := 0) (v := ?_) rfl (by kernel_rfl) (by kernel_rfl) (by kernel_rfl) (fun _ _ _ h => h) (Or.inl ⟨by rfl, ?_⟩) (by assumption) ?_
          rotate_left
          · (intro w hSw; go_simp; try (with_reducible rfl))
          try simp only [Act.put, List.getElem_toArray, List.getElem_cons_zero, List.setIfInBounds_toArray, List.set_cons_zero, List.set_cons_succ]
          refine wpAnyH_take (i := 1) (v := ?_) rfl (by kernel_rfl) (by kernel_rfl) (by kernel_rfl) (fun _ _ _ h => h) (Or.inl ⟨by rfl, ?_⟩) (by assumption) ?_
          rotate_left
          · (intro w hSw; go_simp; try (with_reducible rfl))
          try simp only [Act.put, List.getElem_toArray, List.getElem_cons_zero, List.getElem_cons_succ, List.setIfInBounds_toArray, List.set_cons_zero, List.set_cons_succ]
          refine wpAnyH_take (i := 2) (v := ?_) rfl (by kernel_rfl) (by kernel_rfl) (by kernel_rfl) (fun _ _ _ h => h) (Or.inl ⟨by rfl, ?_⟩) (by assumption) ?_
          rotate_left
          · (intro w hSw; go_simp; try (with_reducible rfl))
          try simp only [Act.put, List.getElem_toArray, List.getElem_cons_zero, List.getElem_cons_succ, List.setIfInBounds_toArray, List.set_cons_zero, List.set_cons_succ]
          refine wpAnyH_take (i := 3) rfl (by kernel_rfl) (by kernel_rfl) (by kernel_rfl) (fun _ _ _ h => h) (yields_ad H16 C1 (by rfl) _ rfl rfl) (by assumption) ?_
          try simp only [Act.put, List.getElem_toArray, List.getElem_cons_zero, List.getElem_cons_succ, List.setIfInBounds_toArray, List.set_cons_zero, List.set_cons_succ]
          refine wpAnyH_take (i := 4) (v := ?_) rfl (by kernel_rfl) (by kernel_rfl) (by kernel_rfl) (fun _ _ _ h => h) (Or.inl ⟨by rfl, ?_⟩) (by assumption) ?_
          rotate_left
          · (intro w hSw; go_simp; try (with_reducible rfl))
          try simp only [Act.put, List.getElem_toArray, List.getElem_cons_zero, List.getElem_cons_succ, List.setIfInBounds_toArray, List.set_cons_zero, List.set_cons_succ]
          refine wpAnyH_take (i := 5) (v := ?_) rfl (by kernel_rfl) (by kernel_rfl) (by kernel_rfl) (fun _ _ _ h => h) (Or.inl ⟨by rfl, ?_⟩) (by assumption) ?_
          rotate_left
          · (intro w hSw; go_simp; try (with_reducible rfl))
          try simp only [Act.put, List.getElem_toArray, List.getElem_cons_zero, List.getElem_cons_succ, List.setIfInBounds_toArray, List.set_cons_zero, List.set_cons_succ]
          refine wpAnyH_take (i := 6) (v := ?_) rfl (by kernel_rfl) (by kernel_rfl) (by kernel_rfl) (fun _ _ _ h => h) (Or.inl ⟨by rfl, ?_⟩) (by assumption) ?_
          rotate_left
          · (intro w hSw; go_simp; try (with_reducible rfl))
          try simp only [Act.put, List.getElem_toArray, List.getElem_cons_zero, List.getElem_cons_succ, List.setIfInBounds_toArray, List.set_cons_zero, List.set_cons_succ]
          refine wpAnyH_take (i := 7) rfl (by kernel_rfl) (by kernel_rfl) (by kernel_rfl) (fun _ _ _ h => h) (yields_ad H17 C2 (by rfl) _ rfl rfl) (by assumption) ?_
          try simp only [Act.put, List.getElem_toArray, List.getElem_cons_zero, List.getElem_cons_succ, List.setIfInBounds_toArray, List.set_cons_zero, List.set_cons_succ]
          refine wpAnyH_take (i := 8) (v := ?_) rfl (by kernel_rfl) (by kernel_rfl) (by kernel_rfl) (fun _ _ _ h => h) (Or.inl ⟨by rfl, ?_⟩) (by assumption) ?_
          rotate_left
          · (intro w hSw; go_simp; try (with_reducible rfl))
          try simp only [Act.put, List.getElem_toArray, List.getElem_cons_zero, List.getElem_cons_succ, List.setIfInBounds_toArray, List.set_cons_zero, List.set_cons_succ]
          refine wpAnyH_done (by kernel_rfl) ?_ _
          refine NoPanic.normal ?_
          clear q gd C1 C2 HSS hHeld
          go_wp2_with fail
          go_ret
          exact ⟨rfl, HBD.out⟩
      · obtain rfl : k = N := by omega
        have hd : decide ((k : Int) < (k : Int)) = false := by simp
        have ER : R = true := by
          rw [← HRR.out]
          refine decide_eq_true (List.ext_getElem (by rw [HN.out, HM.out]) (fun j h1 h2 => HO.out j h1 h2 (by rw [← HN.out]; exact h1)))
        subst ER
        clear HO
        go_wp2_with fail
        go_ret
        exact ⟨rfl, HB.out⟩
  · have hne : ((N : Int) != (M : Int)) = true := by rw [bne_iff_ne]; omega
    have ER : R = false := by
      rw [← HRR.out]
      refine decide_eq_false (fun h => hNM ?_)
      rw [← HN.out, ← HM.out, h]
    subst ER
    go_enter Try.func12, Try.ntmps12
    go_wp2_with fail
    go_ret
    exact ⟨rfl, Below.refl _ _⟩
end Go.Proofs.Ytedmkdjijhflnaa
/- A row that lies somewhere, in a later world. -/
namespace Go.Proofs.Ytedmkdjijhflnaa
open Go.RowKit
set_option linter.unusedVariables false
set_option maxRecDepth 20000

theorem range_farC {w w' : World} {G o : Nat} {cs : List Value} {row : Option Nat} (h : w.rangeAt G o cs) (hg : w.grownBy w' row) (hlt : G < w.heap.size) (hne : some G ≠ row) : w'.rangeAt G o cs := fun j u hu => by rw [hg.cell_far ⟨G, o + j, none⟩ hlt hne]; exact h j u hu
theorem range_belowC {w w' : World} {G B o : Nat} {cs : List Value} (h : w.rangeAt G o cs) (hb : Below B w w') (hG : G < B) : w'.rangeAt G o cs := fun j u hu => by rw [hb.cell (p := ⟨G, o + j, none⟩) hG]; exact h j u hu
end Go.Proofs.Ytedmkdjijhflnaa
/- Rows of addresses of one's own (api.Addr: 17 cells), and slices.Clone of addresses. -/
namespace Go.Proofs.Ytedmkdjijhflnaa
open Go.RowKit
set_option linter.unusedVariables false
set_option maxRecDepth 20000

abbrev Ad := Int × List Nat
def flatA (D : List Ad) : List Value := D.flatMap adL
def H16 (D : List Ad) : Prop := ∀ r ∈ D, r.2.length = 16
theorem flatA_len (D : List Ad) (h : H16 D) : (flatA D).length = D.length * 17 := flatMap_len adL 17 D (fun d hd => addrL_len d.1 d.2 (h d hd))
theorem flatA_append (xs ys : List Ad) : flatA (xs ++ ys) = flatA xs ++ flatA ys := by simp [flatA]
theorem flatA_one (D : List Ad) : ∀ u ∈ flatA D, u.oneCell' = true := by
  intro u hu
  obtain ⟨e, he, h2⟩ := List.mem_flatMap.1 hu
  unfold adL addrL at h2
  rcases List.mem_cons.1 h2 with rfl | h2
  · rfl
  · obtain ⟨x, _, rfl⟩ := List.mem_map.1 h2
    rfl
abbrev zAd : Array Value := #[.int .i64 0, .int .u8 0, .int .u8 0, .int .u8 0, .int .u8 0, .int .u8 0, .int .u8 0, .int .u8 0, .int .u8 0, .int .u8 0, .int .u8 0, .int .u8 0, .int .u8 0, .int .u8 0, .int .u8 0, .int .u8 0, .int .u8 0]
theorem infoA : (Try.prog.info? 42).map (fun i => (i.zero, i.size, i.bytes)) = some (some (.agg zAd), 17, 24) := by kernel_rfl
/-- A row of addresses of one's own. -/
def RowA (w : World) (base : Nat) (v : Value) (D : List Ad) : Prop := w.ownsRow base 42 17 v D.length (flatA D) ∧ H16 D ∧ D.length ≤ 1000
theorem RowA.nil (w : World) (base : Nat) : RowA w base (.slice none 0 0) [] := ⟨World.ownsRow_nil _ _ _ _, (fun r h => by cases h), by decide⟩
theorem RowA.kept2 {w w' : World} {B : Nat} {v : Value} {D : List Ad} (h : RowA w B v D) (hk : ∀ g, v.ownBlock = some g → w'.heap[g]? = w.heap[g]?) : RowA w' B v D := by
  obtain ⟨⟨h1, h2⟩, h3⟩ := h
  refine ⟨⟨h1, ?_⟩, h3⟩
  rcases h2 with h2 | ⟨g, cap, cur, e1, e2, e3, e4⟩
  · exact .inl h2
  · exact .inr ⟨g, cap, cur, e1, e2, (hk g (by rw [e1]; rfl)).trans e3, e4⟩
theorem RowA.lt {w : World} {B : Nat} {v : Value} {D : List Ad} (h : RowA w B v D) : ∀ g, v.ownBlock = some g → B ≤ g ∧ g < w.heap.size := fun g hg => h.1.lt g hg
theorem RowA.below {w w' : World} {base : Nat} {v : Value} {D : List Ad} (h : RowA w base v D) (hb : Below w.heap.size w w') : RowA w' base v D := h.kept2 (fun g hg => hb.block g (h.lt g hg).2)
theorem RowA.mono {w : World} {base base' : Nat} {v : Value} {D : List Ad} (h : RowA w base v D) (hb : base' ≤ base) : RowA w base' v D := by
  obtain ⟨⟨h1, h2⟩, h3⟩ := h
  refine ⟨⟨h1, ?_⟩, h3⟩
  rcases h2 with h2 | ⟨g, cap, cur, e1, e2, e3⟩
  · exact .inl h2
  · exact .inr ⟨g, cap, cur, e1, by omega, e3⟩
theorem RowA.form {w : World} {base : Nat} {v : Value} {es : List Ad} (h : RowA w base v es) : (v = .slice none 0 0 ∧ es = []) ∨ ∃ g cap, v = .slice (some ⟨g, 0, none⟩) es.length cap ∧ base ≤ g ∧ g < w.heap.size ∧ es.length ≤ cap ∧ cap ≤ maxLen ∧ w.rangeAt g 0 (flatA es) := by
  obtain ⟨hr, h16, hle⟩ := h
  obtain ⟨h1, h2⟩ := hr
  rcases h2 with ⟨e1, e2⟩ | ⟨g, cap, cur, e1, e2, e3, e4, e5, e6, e7⟩
  · exact .inl ⟨e1, List.eq_nil_of_length_eq_zero e2⟩
  · refine .inr ⟨g, cap, e1, e2, ?_, e4, e5, fun j u hu => ?_⟩
    · apply Classical.byContradiction
      intro h
      rw [Array.getElem?_eq_none (by omega)] at e3
      cases e3
    · rw [Nat.zero_add, cell_of_row w g j cur _ _ e3, ← Array.getElem?_toList]
      rw [← e7, List.getElem?_take] at hu
      split at hu
      · exact hu
      · cases hu
/-- A slice of addresses that came in, or of one's own. -/
def AdsIn (w : World) (a : Option Addr) (cap : Nat) (D : List Ad) : Prop := AdsAt w a cap D ∧ True
theorem AdsIn.below {w w' : World} {a : Option Addr} {cap : Nat} {D : List Ad} (h : AdsIn w a cap D) (hb : Below w.heap.size w w') : AdsIn w' a cap D := ⟨h.1.below hb, h.2⟩
theorem AdsIn.nil (w : World) : AdsIn w none 0 [] := ⟨⟨by simp, by unfold maxLen; omega, (fun r h => by cases h), .inl rfl⟩, trivial⟩
theorem RowA.ads {w : World} {base : Nat} {v : Value} {D : List Ad} (h : RowA w base v D) : ∃ a c, v = .slice a D.length c ∧ AdsIn w a c D := by
  rcases h.form with ⟨rfl, rfl⟩ | ⟨g, cap, rfl, h1, h2, h3, h4, h5⟩
  · exact ⟨none, 0, rfl, AdsIn.nil w⟩
  · exact ⟨_, _, rfl, ⟨h3, h4, h.2.1, .inr ⟨g, 0, rfl, h2, h5⟩⟩, trivial⟩
theorem append_ads {ops : Array Oper} {rest : List Oper} {op : Oper} {a : Act} {w : World} {Q : Exit → Act → World → Prop} {base : Nat} {v : Value} {es : List Ad} (hE : Hid (RowA w base v es)) (s x : Operand) (hgd : op.guard = none) (ho : op.op = .call { callee := .builtin .append, args := #[s, x], argTypes := #[27, 27] })
    (hs : a.eval s = v) {G o m c : Nat} (ys : List Ad) (hx : a.eval x = .slice (some ⟨G, o, none⟩) m c) (hm : Hid (m = ys.length)) (hr : Hid (w.rangeAt G o (flatA ys))) (hy : Hid (H16 ys)) (hle : Hid (es.length + ys.length ≤ 1000)) (hbase : Hid (base ≤ w.heap.size))
    (h : ∀ v' w', Hid (RowA w' base v' (es ++ ys)) → Hid (w.grownBy w' v.ownBlock) → wpList Try.prog ops Q rest (a.put op.dst v') w') : wpList Try.prog ops Q (op :: rest) a w := by
  obtain ⟨i0, hi0, hz0, hz1, hz2⟩ := info_parts infoA
  have hml := hm.out
  have hll := hle.out
  refine wpList_append_own_at w hgd s x 27 ho base 42 i0 _ 17 24 Try.underlying27 hi0 hz0 hz1 hz2 rfl (by decide) v es.length (flatA es) hs hE.out.1 ⟨G, o, none⟩ m c (flatA ys) hx (by rw [flatA_len ys hy.out, hml]) (fun j u hu => ?_) (flatA_one ys) (by unfold maxLen; omega) (by omega) hbase.out (fun v' w' h1 h2 _ h4 => ?_)
  · have := hr.out j u hu
    have hadd : (⟨G, o, none⟩ : Addr).add j = ⟨G, o + j, none⟩ := by unfold Addr.add; split <;> simp_all
    rw [hadd]
    exact this
  · refine h v' w' (Lib.hid ⟨?_, ?_, ?_⟩) (Lib.hid h2)
    · rw [List.length_append, flatA_append, ← hml]; exact h1
    · intro e he
      rcases List.mem_append.1 he with he | he
      · exact hE.out.2.1 e he
      · exact hy.out e he
    · rw [List.length_append]; exact hll
theorem append_adsZ {ops : Array Oper} {rest : List Oper} {op : Oper} {a : Act} {w : World} {Q : Exit → Act → World → Prop} {base : Nat} {v : Value} {es : List Ad} (hE : Hid (RowA w base v es)) (s x : Operand) (hgd : op.guard = none) (ho : op.op = .call { callee := .builtin .append, args := #[s, x], argTypes := #[27, 27] })
    (hs : a.eval s = v) {ad : Addr} {c : Nat} (hx : a.eval x = .slice (some ad) 0 c) (hbase : Hid (base ≤ w.heap.size))
    (h : ∀ v' w', Hid (RowA w' base v' es) → Hid (w.grownBy w' v.ownBlock) → wpList Try.prog ops Q rest (a.put op.dst v') w') : wpList Try.prog ops Q (op :: rest) a w := by
  obtain ⟨i0, hi0, hz0, hz1, hz2⟩ := info_parts infoA
  have hll := hE.out.2.2
  refine wpList_append_own_at w hgd s x 27 ho base 42 i0 _ 17 24 Try.underlying27 hi0 hz0 hz1 hz2 rfl (by decide) v es.length (flatA es) hs hE.out.1 ad 0 c [] hx rfl (fun j u hu => by cases hu) (fun u hu => by cases hu) (by unfold maxLen; omega) (by omega) hbase.out (fun v' w' h1 h2 _ h4 => ?_)
  refine h v' w' (Lib.hid ⟨?_, hE.out.2⟩) (Lib.hid h2)
  simpa using h1
theorem run_buildA0 (w : World) : (Instr.buildSlice 27 0 #[]).run Try.prog w = .ok (.slice (some ⟨w.heap.size, 0, none⟩) 0 0) (w.alloc (.cells #[] 42)) := by
  have hu : (underlying 27).run Try.prog w = .ok _ w := run_underlying Try.underlying27 w
  have hnr : ∀ cs : Array Value, (newRow 42 cs).run Try.prog w = .ok ⟨w.heap.size, 0, none⟩ (w.alloc (.cells cs 42)) := fun cs => by simp [newRow]
  unfold Instr.buildSlice
  simp [Sem.run_bind, hu, hnr, Instr.fill]
  rw [show Array.map (fun _ => (default : Value)) (Array.range 0) = #[] from Array.eq_empty_of_size_eq_zero (by simp)]
theorem build_stepA0 {ops : Array Oper} {rest : List Oper} {op : Oper} {a : Act} {w : World} {Q : Exit → Act → World → Prop} (hg : op.guard = none) (ho : op.op = .buildSlice 27 0 #[])
    (h : ∀ W, Hid (W = w.alloc (.cells #[] 42)) → wpList Try.prog ops Q rest (a.put op.dst (.slice (some ⟨w.heap.size, 0, none⟩) 0 0)) W) : wpList Try.prog ops Q (op :: rest) a w := by
  refine wpList_plain hg fun K hK => ?_
  unfold Oper.wp execOp
  simp only [ho, List.map_toArray, List.map_nil, Sem.run_bind, run_buildA0 w, Result.andThen_ok]
  exact hK _ _ (h _ (Lib.hid rfl))
theorem rowA_empty (w : World) : RowA (w.alloc (.cells #[] 42)) w.heap.size (.slice (some ⟨w.heap.size, 0, none⟩) 0 0) [] :=
  ⟨⟨rfl, .inr ⟨w.heap.size, 0, #[], rfl, Nat.le_refl _, by show (w.heap.push _)[w.heap.size]? = _; simp, Nat.le_refl _, Nat.zero_le _, rfl, rfl⟩⟩, (fun e he => by cases he), by decide⟩
set_option maxRecDepth 100000 in
theorem cloneA_any (a : Option Addr) (c : Nat) (L : List Ad) (w : World) (hA : AdsIn w a c L) (hl : L.length ≤ 1000) :
    Calls Try.prog 43 #[.slice a L.length c] w fun e w' => ∃ v', e = .returned v' ∧ RowA w' w.heap.size v' L ∧ Below w.heap.size w w' := by
  have q : ∀ (w : World) (a : Option Addr) (n c n' c' : Nat), (binOp .eql 27 (.slice a n c) (.slice none n' c')).run Try.prog w = .ok (.bool a.isNone) w := fun w a n c n' c' => Lib.run_eql_slice_nil w _ _ a n c n' c' Try.underlying27
  obtain ⟨⟨h1, h2, h3, h4⟩, hf⟩ := hA
  cases a with
  | none =>
    have : L = [] := by
      rcases h4 with h4 | ⟨g, o, e, _⟩
      · exact List.eq_nil_of_length_eq_zero h4
      · cases e
    subst this
    go_enter Try.func43, Try.ntmps43
    go_wp2_with fail
    go_ret
    exact ⟨_, rfl, RowA.nil _ _, Below.refl _ _⟩
  | some ad =>
    by_cases hz : L = []
    · subst hz
      go_enter Try.func43, Try.ntmps43
      go_wp2_with (first
        | (refine build_stepA0 rfl rfl (fun W HW => ?_); have HE : Hid (RowA W w.heap.size (.slice (some ⟨w.heap.size, 0, none⟩) 0 0) []) := Lib.hid (by rw [HW.out]; exact rowA_empty w); have HB : Hid (Below w.heap.size w W) := Lib.hid (by rw [HW.out]; exact (Below.refl _ _).alloc (Nat.le_refl _) _); have HS : Hid (w.heap.size ≤ W.heap.size) := Lib.hid HB.out.size)
        | (refine append_adsZ HE _ _ rfl rfl rfl rfl HS (fun v' w' H1 H2 => ?_)))
      go_ret
      refine ⟨v', rfl, H1.out, ?_⟩
      exact HB.out.grown H2.out HS.out (fun k hk => by cases hk; exact Nat.le_refl _)
    obtain ⟨g, o, e, hg, hr⟩ : ∃ g o, some ad = some ⟨g, o, none⟩ ∧ g < w.heap.size ∧ w.rangeAt g o (L.flatMap adL) := by
      rcases h4 with h4 | h4
      · exact absurd (List.eq_nil_of_length_eq_zero h4) hz
      · exact h4
    obtain rfl : ad = ⟨g, o, none⟩ := by injection e
    have HRG : Hid (∀ W, Below w.heap.size w W → W.rangeAt g o (flatA L)) := Lib.hid (fun W hb => range_belowC hr hb hg)
    have HY := Lib.hid (show H16 L from h3)
    have HLE : Hid (([] : List Ad).length + L.length ≤ 1000) := Lib.hid (by rw [List.length_nil]; omega)
    clear h1 h2 h3 h4 hz e hg hr
    obtain ⟨N, hN⟩ : ∃ N, L.length = N := ⟨_, rfl⟩
    have HM : Hid (N = L.length) := Lib.hid hN.symm
    rw [hN]
    clear hN hl
    go_enter Try.func43, Try.ntmps43
    go_wp2_with (first
      | (refine build_stepA0 rfl rfl (fun W HW => ?_); have HE : Hid (RowA W w.heap.size (.slice (some ⟨w.heap.size, 0, none⟩) 0 0) []) := Lib.hid (by rw [HW.out]; exact rowA_empty w); have HB : Hid (Below w.heap.size w W) := Lib.hid (by rw [HW.out]; exact (Below.refl _ _).alloc (Nat.le_refl _) _); have HR1 := Lib.hid (HRG.out W HB.out); have HS : Hid (w.heap.size ≤ W.heap.size) := Lib.hid HB.out.size)
      | (refine append_ads HE _ _ rfl rfl rfl L rfl HM HR1 HY HLE HS (fun v' w' H1 H2 => ?_)))
    go_ret
    refine ⟨v', rfl, H1.out, ?_⟩
    exact HB.out.grown H2.out HS.out (fun k hk => by cases hk; exact Nat.le_refl _)
end Go.Proofs.Ytedmkdjijhflnaa
/- Contract of the reference's May of layer 9. -/
namespace Go.Proofs.Ytedmkdjijhflnaa
open Go.RowKit
set_option linter.unusedVariables false
set_option maxRecDepth 20000

/-- A boxed message. -/
structure MBox (w : World) (G : Nat) (v0 v1 v2 v3 v4 v5 : Value) : Prop where
  c0 : w.cell? ⟨G, 0, none⟩ = some v0
  c1 : w.cell? ⟨G, 1, none⟩ = some v1
  c2 : w.cell? ⟨G, 2, none⟩ = some v2
  c3 : w.cell? ⟨G, 3, none⟩ = some v3
  c4 : w.cell? ⟨G, 4, none⟩ = some v4
  c5 : w.cell? ⟨G, 5, none⟩ = some v5
theorem MBox.below {w w' : World} {G : Nat} {v0 v1 v2 v3 v4 v5 : Value} (h : MBox w G v0 v1 v2 v3 v4 v5) (hb : Below w.heap.size w w') : MBox w' G v0 v1 v2 v3 v4 v5 := by
  have hlt : G < w.heap.size := World.block_lt_of_cell? w ⟨G, 0, none⟩ h.c0
  exact ⟨(hb.cell (p := ⟨G, 0, none⟩) hlt).trans h.c0, (hb.cell (p := ⟨G, 1, none⟩) hlt).trans h.c1, (hb.cell (p := ⟨G, 2, none⟩) hlt).trans h.c2, (hb.cell (p := ⟨G, 3, none⟩) hlt).trans h.c3, (hb.cell (p := ⟨G, 4, none⟩) hlt).trans h.c4, (hb.cell (p := ⟨G, 5, none⟩) hlt).trans h.c5⟩
theorem MBox.new (w : World) (t : TypeId) (v0 v1 v2 v3 v4 v5 : Value) : MBox (w.alloc (.cells #[v0, v1, v2, v3, v4, v5] t)) w.heap.size v0 v1 v2 v3 v4 v5 := by
  refine ⟨?_, ?_, ?_, ?_, ?_, ?_⟩ <;> (rw [World.cell?_alloc_new]; rfl)
def RoomM (m : Msg) : Prop := (∀ q ∈ m.qs, q.name.size ≤ 1900000) ∧ (∀ r ∈ m.an, Room r) ∧ (∀ r ∈ m.au, Room r) ∧ (∀ r ∈ m.mo, Room r) ∧ m.qs.length ≤ 1000000 ∧ m.an.length ≤ 1000000 ∧ m.au.length ≤ 1000000 ∧ m.mo.length ≤ 1000000
end Go.Proofs.Ytedmkdjijhflnaa
/- Questions appended to a row of one's own. -/
namespace Go.Proofs.Ytedmkdjijhflnaa
open Go.RowKit
set_option linter.unusedVariables false
set_option maxRecDepth 20000

def flatQ (D : List Qu) : List Value := D.flatMap quL
theorem flatQ_len : ∀ (D : List Qu), (flatQ D).length = D.length * 3
  | [] => rfl
  | e :: es => by
    have h2 := flatQ_len es
    show (quL e ++ flatQ es).length = _
    rw [List.length_append, h2, List.length_cons]
    show 3 + es.length * 3 = _
    omega
theorem flatQ_append (xs ys : List Qu) : flatQ (xs ++ ys) = flatQ xs ++ flatQ ys := by simp [flatQ]
theorem flatQ_one (D : List Qu) : ∀ u ∈ flatQ D, u.oneCell' = true := by
  intro u hu
  obtain ⟨e, he, h2⟩ := List.mem_flatMap.1 hu
  unfold quL at h2
  simp at h2
  rcases h2 with rfl | rfl | rfl <;> rfl
abbrev zQ : Array Value := #[.string ⟨#[]⟩, .int .i64 0, .int .i64 0]
theorem infoQ : (Try.prog.info? 68).map (fun i => (i.zero, i.size, i.bytes)) = some (some (.agg zQ), 3, 32) := by kernel_rfl
/-- A row of questions of one's own. -/
def RowQ (w : World) (base : Nat) (v : Value) (D : List Qu) : Prop := w.ownsRow base 68 3 v D.length (flatQ D)
theorem RowQ.nil (w : World) (base : Nat) : RowQ w base (.slice none 0 0) [] := World.ownsRow_nil _ _ _ _
theorem RowQ.below {w w' : World} {base : Nat} {v : Value} {D : List Qu} (h : RowQ w base v D) (hb : Below w.heap.size w w') : RowQ w' base v D := own_below8 h hb
/-- Questions that lie somewhere are appended. -/
theorem append_qus {ops : Array Oper} {rest : List Oper} {op : Oper} {a : Act} {w : World} {Q : Exit → Act → World → Prop} {base : Nat} {v : Value} {D : List Qu} (hE : Hid (RowQ w base v D)) (s x : Operand) (hgd : op.guard = none) (ho : op.op = .call { callee := .builtin .append, args := #[s, x], argTypes := #[31, 31] })
    (hs : a.eval s = v) {G o m c : Nat} (ys : List Qu) (hx : a.eval x = .slice (some ⟨G, o, none⟩) m c) (hm : Hid (m = ys.length)) (hr : Hid (w.rangeAt G o (flatQ ys))) (hle : Hid (D.length + ys.length ≤ 100000)) (hbase : Hid (base ≤ w.heap.size))
    (h : ∀ v' w', Hid (RowQ w' base v' (D ++ ys)) → Hid (w.grownBy w' v.ownBlock) → Hid (v'.ownBlock = v.ownBlock ∨ v'.ownBlock = some w.heap.size) → wpList Try.prog ops Q rest (a.put op.dst v') w') : wpList Try.prog ops Q (op :: rest) a w := by
  obtain ⟨i0, hi0, hz0, hz1, hz2⟩ := info_parts infoQ
  have hml := hm.out
  have hll := hle.out
  refine wpList_append_own_at w hgd s x 31 ho base 68 i0 _ 3 32 Try.underlying31 hi0 hz0 hz1 hz2 rfl (by decide) v D.length (flatQ D) hs hE.out ⟨G, o, none⟩ m c (flatQ ys) hx (by rw [flatQ_len ys, hml]) (fun j u hu => ?_) (flatQ_one ys) (by unfold maxLen; omega) (by omega) hbase.out (fun v' w' h1 h2 _ h4 => ?_)
  · have := hr.out j u hu
    have hadd : (⟨G, o, none⟩ : Addr).add j = ⟨G, o + j, none⟩ := by unfold Addr.add; split <;> simp_all
    rw [hadd]
    exact this
  · refine h v' w' (Lib.hid ?_) (Lib.hid h2) (Lib.hid h4)
    unfold RowQ
    rw [List.length_append, flatQ_append, ← hml]; exact h1
theorem fillQ (q : Qu) : Instr.fill (fun i => some (i * 3, 3)) ((Array.range (1 * 3)).map fun j => zQ[j % zQ.size]!) [(0, quV q)] = some (quL q).toArray := by
  obtain ⟨nm, ty, cl⟩ := q
  kernel_rfl
theorem run_buildQ (q : Qu) (w : World) : (Instr.buildSlice 31 1 #[(0, quV q)]).run Try.prog w = .ok (.slice (some ⟨w.heap.size, 0, none⟩) 1 1) (w.alloc (.cells (quL q).toArray 68)) := by
  obtain ⟨i0, hi0, hz0, hz1, hz2⟩ := info_parts infoQ
  have hf := fillQ q
  obtain ⟨Z, hZ⟩ : ∃ Z : Array Value, zQ = Z := ⟨_, rfl⟩
  rw [hZ] at hf hz0
  have hsz : (sizeOf 68).run Try.prog w = .ok 3 w := by simp [sizeOf, typeInfo, hi0, hz1]
  have hzv : (zeroValue 68).run Try.prog w = .ok (.agg Z) w := by simp [zeroValue, typeInfo, hi0, hz0]
  have hnr : ∀ cs : Array Value, (newRow 68 cs).run Try.prog w = .ok ⟨w.heap.size, 0, none⟩ (w.alloc (.cells cs 68)) := fun cs => by simp [newRow]
  have hu : (underlying 31).run Try.prog w = .ok _ w := run_underlying Try.underlying31 w
  have hfc : Instr.fill (fun i => some (i * 3, 3)) ((Array.range (1 * 3)).map fun j => (Value.agg Z).cells[j % (Value.agg Z).cells.size]!) (#[(0, quV q)] : Array (Nat × Value)).toList = some (quL q).toArray := hf
  unfold Instr.buildSlice
  simp only [Sem.run_bind, hu, Result.andThen_ok, hsz, if_neg (show ¬ (1 * 3 > 2 ^ 24) by decide), Sem.run_pure, if_neg (show ¬ (1 * 3 = 0) by decide), hzv, hfc, hnr]
theorem build_quS {ops : Array Oper} {rest : List Oper} {op : Oper} {a : Act} {w : World} {Q : Exit → Act → World → Prop} {q : Qu} (hg : op.guard = none) (x : Operand) (ho : op.op = .buildSlice 31 1 #[(0, x)])
    (hx : a.eval x = quV q) (h : ∀ W, Hid (W = w.alloc (.cells (quL q).toArray 68)) → wpList Try.prog ops Q rest (a.put op.dst (.slice (some ⟨w.heap.size, 0, none⟩) 1 1)) W) : wpList Try.prog ops Q (op :: rest) a w := by
  refine wpList_plain hg fun K hK => ?_
  unfold Oper.wp execOp
  simp only [ho, List.map_toArray, List.map_cons, List.map_nil, hx, Sem.run_bind, run_buildQ q w, Result.andThen_ok]
  exact hK _ _ (h _ (Lib.hid rfl))
theorem build_qu3 {ops : Array Oper} {rest : List Oper} {op : Oper} {a : Act} {w : World} {Q : Exit → Act → World → Prop} {nm : ByteArray} {ty cl : Int} (hg : op.guard = none) (x0 x1 x2 : Operand) (ho : op.op = .build 68 #[(0, x0), (1, x1), (2, x2)])
    (h0 : a.eval x0 = .string nm) (h1 : a.eval x1 = .int .i64 ty) (h2 : a.eval x2 = .int .i64 cl) (h : wpList Try.prog ops Q rest (a.put op.dst (quV ⟨nm, ty, cl⟩)) w) : wpList Try.prog ops Q (op :: rest) a w := by
  have e0 : Try.prog.built 68 [(0, .string nm), (1, .int .i64 ty), (2, .int .i64 cl)] = some (quL ⟨nm, ty, cl⟩).toArray := rfl
  have e : Try.prog.built 68 ((#[(0, x0), (1, x1), (2, x2)] : Array (Nat × Operand)).map fun (i, x) => (i, a.eval x)).toList = some (quL ⟨nm, ty, cl⟩).toArray := by
    simp only [List.map_toArray, List.map_cons, List.map_nil]
    rw [h0, h1, h2]; exact e0
  refine wpList_build hg 68 _ ho (by rw [e]; rfl) ?_
  rw [e]
  exact h
end Go.Proofs.Ytedmkdjijhflnaa
/- Cells of one's own at the head of a block: stored, loaded, given back (a struct of a few cells). -/
namespace Go.Proofs.Ytedmkdjijhflnaa
open Go.RowKit
set_option linter.unusedVariables false
set_option maxRecDepth 20000

/-- Cells that lie at the head of block G, and may be written. -/
structure CellsAt (w : World) (G : Nat) (vs : List Value) : Prop where
  lt : G < w.heap.size
  range : w.rangeAt G 0 vs
  there : w.there G 0 vs.length
section
variable {w w' : World} {G : Nat} {vs : List Value}
theorem CellsAt.below (h : CellsAt w G vs) (hb : Below w.heap.size w w') : CellsAt w' G vs :=
  ⟨Nat.lt_of_lt_of_le h.lt hb.size, fun j u hu => by rw [hb.cell (p := ⟨G, 0 + j, none⟩) h.lt]; exact h.range j u hu, fun j hj => by
    rw [hb.cell (p := ⟨G, 0 + j, none⟩) h.lt, hb.frozen (p := ⟨G, 0 + j, none⟩) h.lt]
    exact h.there j hj⟩
theorem CellsAt.cell (h : CellsAt w G vs) (k : Nat) (v : Value) (hv : vs[k]? = some v) : w.cell? ⟨G, k, none⟩ = some v := by
  have := h.range k v hv
  rwa [Nat.zero_add] at this
theorem CellsAt.live (h : CellsAt w G vs) (k : Nat) (hk : k < vs.length) : w.frozen? ⟨G, k, none⟩ = false := by
  have := (h.there k hk).2
  rwa [Nat.zero_add] at this
theorem CellsAt.stored (h : CellsAt w G vs) (us : List Value) (hl : us.length = vs.length) : CellsAt (w.setCells G 0 us) G us := by
  have ht : w.there G 0 us.length := by rw [hl]; exact h.there
  exact ⟨by rw [size_setCells]; exact h.lt, World.rangeAt_setCells_same w G 0 _ ht, World.there_setCells (by rw [hl]; exact h.there) G 0 _⟩
theorem CellsAt.new (w : World) (t : TypeId) (vs : List Value) : CellsAt (w.alloc (.cells vs.toArray t)) w.heap.size vs := by
  have e : ∀ j, vs.toArray[j]? = vs[j]? := fun j => by rw [List.getElem?_toArray]
  refine ⟨by simp, fun j u hu => ?_, fun j hj => ⟨?_, World.frozen?_alloc_new _ _ _ _⟩⟩
  · rw [World.cell?_alloc_new, Nat.zero_add, e]; exact hu
  · rw [World.cell?_alloc_new, Nat.zero_add, e, List.getElem?_eq_getElem hj]; rfl
theorem CellsAt.set (h : CellsAt w G vs) (k : Nat) (v : Value) (hk : k < vs.length) : CellsAt (w.setCell ⟨G, k, none⟩ v) G (vs.set k v) := by
  obtain ⟨u0, hu0⟩ : ∃ u, vs[k]? = some u := ⟨_, List.getElem?_eq_getElem hk⟩
  refine ⟨by simpa using h.lt, fun j u hu => ?_, fun j hj => ⟨?_, ?_⟩⟩
  · rw [Nat.zero_add]
    by_cases e : j = k
    · subst e
      rw [List.getElem?_set_self hk] at hu
      cases hu
      exact World.cell?_setCell_same _ _ _ (h.cell j u0 hu0)
    · rw [List.getElem?_set_ne (fun e2 => e e2.symm)] at hu
      rw [World.cell?_setCell_other _ _ _ _ (by intro h2; injection h2 with _ h3 _; omega)]
      exact h.cell j u hu
  · rw [Nat.zero_add]
    rw [List.length_set] at hj
    by_cases e : j = k
    · subst e
      rw [World.cell?_setCell_same _ _ _ (h.cell j u0 hu0)]
      rfl
    · rw [World.cell?_setCell_other _ _ _ _ (by intro h2; injection h2 with _ h3 _; omega)]
      have := (h.there j hj).1
      rwa [Nat.zero_add] at this
  · rw [World.frozen?_setCell]
    rw [List.length_set] at hj
    exact (h.there j hj).2
theorem CellsAt.other (h : CellsAt w G vs) {G' : Nat} (hG : G' ≠ G) (k : Nat) (v : Value) : CellsAt (w.setCell ⟨G', k, none⟩ v) G vs := by
  have hn : ∀ j, (⟨G', k, none⟩ : Addr) ≠ ⟨G, j, none⟩ := fun j h2 => by injection h2 with h3 _ _; exact hG h3
  refine ⟨by simpa using h.lt, fun j u hu => ?_, fun j hj => ⟨?_, ?_⟩⟩
  · rw [World.cell?_setCell_other _ _ _ _ (hn _)]; exact h.range j u hu
  · rw [World.cell?_setCell_other _ _ _ _ (hn _)]; exact (h.there j hj).1
  · rw [World.frozen?_setCell]; exact (h.there j hj).2
theorem CellsAt.apart (h : CellsAt w G vs) {G' o : Nat} (hG : G ≠ G') (us : List Value) : CellsAt (w.setCells G' o us) G vs :=
  ⟨by rw [size_setCells]; exact h.lt, World.rangeAt_setCells_apart h.range G' o us (.inl hG), World.there_setCells h.there G' o us⟩
end
theorem CellsAt.held {w : World} {G : Nat} {vs : List Value} {L : List (Nat × Nat × List Value)} {W : World} (h : CellsAt w G vs) (hL : HeldR L W w) : HeldR ((G, 0, vs) :: L) W w := hL.cons h.range h.lt
end Go.Proofs.Ytedmkdjijhflnaa
/- Messages in memory: stored whole, loaded whole, given back. -/
namespace Go.Proofs.Ytedmkdjijhflnaa
open Go.RowKit
set_option linter.unusedVariables false
set_option maxRecDepth 20000

section
variable {w w' : World} {G : Nat} {vs : List Value}
theorem CellsAt.mbox {v0 v1 v2 v3 v4 v5 : Value} (h : CellsAt w G [v0, v1, v2, v3, v4, v5]) : MBox w G v0 v1 v2 v3 v4 v5 := ⟨h.cell 0 _ rfl, h.cell 1 _ rfl, h.cell 2 _ rfl, h.cell 3 _ rfl, h.cell 4 _ rfl, h.cell 5 _ rfl⟩
end
theorem msg_size : (Try.prog.info? 33).map (·.size) = some 6 := by kernel_rfl
/-- A message of zeros. -/
abbrev zM : List Value := [.int .i64 0, .int .i64 0, .slice none 0 0, .slice none 0 0, .slice none 0 0, .slice none 0 0]
theorem loadVar_msg {w : World} {G : Nat} {vs : List Value} (h : CellsAt w G vs) (hl : vs.length = 6) : (loadVar 33 ⟨G, 0, none⟩).run Try.prog w = .ok (.agg vs.toArray) w :=
  run_loadVar_mid w G 0 33 vs _ h.range Try.underlying33 rfl (by rw [msg_size, hl])
theorem results_msg {fn : Func} {a : Tmp} {tmps : Array Value} {W : World} {R : Nat} {vs : List Value} (h : fn.results = #[.cell a 33]) (ha : tmps.getD a undef = .pointer (some ⟨R, 0, none⟩)) (hA : CellsAt W R vs) (hl : vs.length = 6) : (results fn tmps).run Try.prog W = .ok (.agg vs.toArray) W := by
  rw [Array.getD_eq_getD_getElem?] at ha
  simp [results, h, ha, asAddr, loadVar_msg hA hl]
theorem results_msg2 {fn : Func} {a t : Tmp} {tmps : Array Value} {W : World} {R : Nat} {vs : List Value} (h : fn.results = #[.cell a 33, .tmp t]) (ha : tmps.getD a undef = .pointer (some ⟨R, 0, none⟩)) (hA : CellsAt W R vs) (hl : vs.length = 6) : (results fn tmps).run Try.prog W = .ok (.tuple #[.agg vs.toArray, tmps.getD t undef]) W := by
  rw [Array.getD_eq_getD_getElem?] at ha
  simp [results, h, ha, asAddr, loadVar_msg hA hl]
/-- A message, stored whole. -/
theorem store_msg {ops : Array Oper} {rest : List Oper} {op : Oper} {a : Act} {w : World} {Q : Exit → Act → World → Prop} {G : Nat} {us vs : List Value} (hA : Hid (CellsAt w G us)) (hu : us.length = 6) (x y : Operand) (hgd : op.guard = none) (ho : op.op = .store 33 x y)
    (hx : a.eval x = .pointer (some ⟨G, 0, none⟩)) (hy : a.eval y = .agg vs.toArray) (hl : vs.length = 6) (h1 : vs.all (fun u => u.oneCell') = true) (h : ∀ W, Hid (W = w.setCells G 0 vs) → Hid (CellsAt W G vs) → wpList Try.prog ops Q rest (a.put op.dst undef) W) : wpList Try.prog ops Q (op :: rest) a w :=
  wpList_store_mid hgd 33 x y ho G 0 vs.toArray hx hy (by rw [List.size_toArray, hl, ← hu]; exact hA.out.there) (by rw [msg_size, List.size_toArray, hl]) (all_oneCell_toArray (List.all_eq_true.1 h1)) (h _ (Lib.hid rfl) (Lib.hid (hA.out.stored vs (hl.trans hu.symm))))
theorem load_msg {ops : Array Oper} {rest : List Oper} {op : Oper} {a : Act} {w : World} {Q : Exit → Act → World → Prop} {G : Nat} {vs : List Value} (hA : Hid (CellsAt w G vs)) (hl : vs.length = 6) (x : Operand) (hw : Region.wanted op (yielded ops a.tmps) = true) (ho : op.op = .load 33 x)
    (hx : a.eval x = .pointer (some ⟨G, 0, none⟩)) (h : wpList Try.prog ops Q rest (a.put op.dst (.agg vs.toArray)) w) : wpList Try.prog ops Q (op :: rest) a w :=
  wpList_load_row hw 33 x ho G 0 hx vs _ hA.out.range Try.underlying33 rfl (by rw [msg_size, hl]) h
/-- A row of one's own, where it lies. -/
theorem own_range {w : World} {base : Nat} {t : TypeId} {z : Nat} {v : Value} {n : Nat} {xs : List Value} (h : w.ownsRow base t z v n xs) : ∃ ad c, v = .slice ad n c ∧ n ≤ c ∧ c ≤ maxLen ∧ (n = 0 ∨ ∃ g, ad = some ⟨g, 0, none⟩ ∧ g < w.heap.size ∧ w.rangeAt g 0 xs) := by
  rcases h.2 with ⟨rfl, e⟩ | ⟨g, cap, cur, rfl, hg, hc, h1, h2, _⟩
  · exact ⟨none, 0, by rw [e], by omega, Nat.zero_le _, .inl e⟩
  · refine ⟨_, _, rfl, h1, h2, .inr ⟨g, rfl, (Array.getElem?_eq_some_iff.1 hc).1, fun j u hu => ?_⟩⟩
    have := h.cells (g := g) rfl j u hu
    have hadd : (⟨g, 0, none⟩ : Addr).add j = ⟨g, 0 + j, none⟩ := by unfold Addr.add; split <;> simp_all
    rw [hadd] at this
    exact this
theorem RowR.recs {w : World} {base : Nat} {v : Value} {D : List Rec} (h : RowR w base v D) (hf : ∀ r ∈ D, Fit r) : ∃ ad c, v = .slice ad D.length c ∧ RecsAt w ad c D := by
  obtain ⟨ad, c, e, h1, h2, h3⟩ := own_range h.1
  refine ⟨ad, c, e, h1, h2, hf, ?_⟩
  rcases h3 with h3 | ⟨g, e, hg, hr⟩
  · exact .inl h3
  · exact .inr ⟨g, 0, e, hg, hr⟩
theorem RowQ.qus {w : World} {base : Nat} {v : Value} {D : List Qu} (h : RowQ w base v D) (hf : ∀ r ∈ D, FitQ r) : ∃ ad c, v = .slice ad D.length c ∧ QusAt w ad c D := by
  obtain ⟨ad, c, e, h1, h2, h3⟩ := own_range h
  refine ⟨ad, c, e, h1, h2, hf, ?_⟩
  rcases h3 with h3 | ⟨g, e, hg, hr⟩
  · exact .inl h3
  · exact .inr ⟨g, 0, e, hg, hr⟩
theorem RecsAt.none0 (w : World) : RecsAt w none 0 [] := ⟨Nat.le_refl _, Nat.zero_le _, (fun r (hr : r ∈ []) => absurd hr (by simp)), Or.inl rfl⟩
theorem QusAt.none0 (w : World) : QusAt w none 0 [] := ⟨Nat.le_refl _, Nat.zero_le _, (fun r (hr : r ∈ []) => absurd hr (by simp)), Or.inl rfl⟩
theorem QusAt.new1 {w : World} {q : Qu} (hf : FitQ q) (t : TypeId) : QusAt (w.alloc (.cells (quL q).toArray t)) (some ⟨w.heap.size, 0, none⟩) 1 [q] :=
  ⟨Nat.le_refl _, by decide, (fun x hx => by rw [List.mem_singleton.1 hx]; exact hf), Or.inr ⟨_, 0, rfl, by simp, by
    have := built_new (w := w) (cs := quL q) t
    simpa using this⟩⟩
theorem append_qusA {ops : Array Oper} {rest : List Oper} {op : Oper} {a : Act} {w : World} {Q : Exit → Act → World → Prop} {base : Nat} {v : Value} {D : List Qu} (hE : Hid (RowQ w base v D)) (s x : Operand) (hgd : op.guard = none) (ho : op.op = .call { callee := .builtin .append, args := #[s, x], argTypes := #[31, 31] })
    (hs : a.eval s = v) {m c : Nat} {y : Addr} (ys : List Qu) (hx : a.eval x = .slice (some y) m c) (hm : Hid (m = ys.length)) (hr : Hid (∀ j u, (flatQ ys)[j]? = some u → w.cell? (y.add j) = some u)) (hle : Hid (D.length + ys.length ≤ 100000)) (hbase : Hid (base ≤ w.heap.size))
    (h : ∀ v' w', Hid (RowQ w' base v' (D ++ ys)) → Hid (w.grownBy w' v.ownBlock) → Hid (v'.ownBlock = v.ownBlock ∨ v'.ownBlock = some w.heap.size) → wpList Try.prog ops Q rest (a.put op.dst v') w') : wpList Try.prog ops Q (op :: rest) a w := by
  obtain ⟨i0, hi0, hz0, hz1, hz2⟩ := info_parts infoQ
  have hml := hm.out
  have hll := hle.out
  refine wpList_append_own_at w hgd s x 31 ho base 68 i0 _ 3 32 Try.underlying31 hi0 hz0 hz1 hz2 rfl (by decide) v D.length (flatQ D) hs hE.out y m c (flatQ ys) hx (by rw [flatQ_len ys, hml]) (fun j u hu => ?_) (flatQ_one ys) (by unfold maxLen; omega) (by omega) hbase.out (fun v' w' h1 h2 _ h4 => ?_)
  · exact hr.out j u hu
  · refine h v' w' (Lib.hid ?_) (Lib.hid h2) (Lib.hid h4)
    unfold RowQ
    rw [List.length_append, flatQ_append, ← hml]; exact h1
theorem append_recsA {ops : Array Oper} {rest : List Oper} {op : Oper} {a : Act} {w : World} {Q : Exit → Act → World → Prop} {base : Nat} {v : Value} {D : List Rec} (hE : Hid (RowR w base v D)) (s x : Operand) (hgd : op.guard = none) (ho : op.op = .call { callee := .builtin .append, args := #[s, x], argTypes := #[24, 24] })
    (hs : a.eval s = v) {m c : Nat} {y : Addr} (ys : List Rec) (hx : a.eval x = .slice (some y) m c) (hm : Hid (m = ys.length)) (hr : Hid (∀ j u, (flatR ys)[j]? = some u → w.cell? (y.add j) = some u)) (hy : Hid (All16 ys)) (hle : Hid (D.length + ys.length ≤ 100000)) (hbase : Hid (base ≤ w.heap.size))
    (h : ∀ v' w', Hid (RowR w' base v' (D ++ ys)) → Hid (w.grownBy w' v.ownBlock) → Hid (v'.ownBlock = v.ownBlock ∨ v'.ownBlock = some w.heap.size) → wpList Try.prog ops Q rest (a.put op.dst v') w') : wpList Try.prog ops Q (op :: rest) a w := by
  obtain ⟨i0, hi0, hz0, hz1, hz2⟩ := info_parts infoR
  have hml := hm.out
  have hll := hle.out
  refine wpList_append_own_at w hgd s x 24 ho base 44 i0 _ 23 96 Try.underlying24 hi0 hz0 hz1 hz2 rfl (by decide) v D.length (flatR D) hs hE.out.1 y m c (flatR ys) hx (by rw [flatR_len ys hy.out, hml]) (fun j u hu => ?_) (flatR_one ys) (by unfold maxLen; omega) (by omega) hbase.out (fun v' w' h1 h2 _ h4 => ?_)
  · exact hr.out j u hu
  · refine h v' w' (Lib.hid ⟨?_, ?_⟩) (Lib.hid h2) (Lib.hid h4)
    · rw [List.length_append, flatR_append, ← hml]; exact h1
    · intro e he
      rcases List.mem_append.1 he with he | he
      · exact hE.out.2 e he
      · exact hy.out e he
/-- Rows that came in, cell by cell; they are none's, or nothing lies in them. -/
theorem QusAt.row {w : World} {a : Option Addr} {cap : Nat} {D : List Qu} (h : QusAt w a cap D) : (a = none ∧ D = []) ∨ ∃ y, a = some y ∧ ∀ j u, (flatQ D)[j]? = some u → w.cell? (y.add j) = some u := by
  obtain ⟨h1, h2, h3, h4⟩ := h
  rcases h4 with h4 | ⟨g, o, e, hg, hr⟩
  · have := List.eq_nil_of_length_eq_zero h4
    subst this
    cases a with
    | none => exact .inl ⟨rfl, rfl⟩
    | some y => exact .inr ⟨y, rfl, fun j u hu => by simp [flatQ] at hu⟩
  · refine .inr ⟨_, e, fun j u hu => ?_⟩
    have hadd : (⟨g, o, none⟩ : Addr).add j = ⟨g, o + j, none⟩ := by unfold Addr.add; split <;> simp_all
    rw [hadd]
    exact hr j u hu
theorem RecsAt.row {w : World} {a : Option Addr} {cap : Nat} {D : List Rec} (h : RecsAt w a cap D) : (a = none ∧ D = []) ∨ ∃ y, a = some y ∧ ∀ j u, (flatR D)[j]? = some u → w.cell? (y.add j) = some u := by
  obtain ⟨h1, h2, h3, h4⟩ := h
  rcases h4 with h4 | ⟨g, o, e, hg, hr⟩
  · have := List.eq_nil_of_length_eq_zero h4
    subst this
    cases a with
    | none => exact .inl ⟨rfl, rfl⟩
    | some y => exact .inr ⟨y, rfl, fun j u hu => by simp [flatR] at hu⟩
  · refine .inr ⟨_, e, fun j u hu => ?_⟩
    have hadd : (⟨g, o, none⟩ : Addr).add j = ⟨g, o + j, none⟩ := by unfold Addr.add; split <;> simp_all
    rw [hadd]
    exact hr j u hu
theorem QusAt.apart {w : World} {a : Option Addr} {cap : Nat} {D : List Qu} (h : QusAt w a cap D) {G : Nat} (hG : ∀ x, a = some x → x.block ≠ G) (o : Nat) (us : List Value) : QusAt (w.setCells G o us) a cap D := by
  obtain ⟨h1, h2, h3, h4⟩ := h
  refine ⟨h1, h2, h3, ?_⟩
  rcases h4 with h4 | ⟨g, o2, e, hg, hr⟩
  · exact .inl h4
  · exact .inr ⟨g, o2, e, by rw [size_setCells]; exact hg, World.rangeAt_setCells_apart hr G o us (.inl (hG _ e))⟩
theorem RecsAt.apart {w : World} {a : Option Addr} {cap : Nat} {D : List Rec} (h : RecsAt w a cap D) {G : Nat} (hG : ∀ x, a = some x → x.block ≠ G) (o : Nat) (us : List Value) : RecsAt (w.setCells G o us) a cap D := by
  obtain ⟨h1, h2, h3, h4⟩ := h
  refine ⟨h1, h2, h3, ?_⟩
  rcases h4 with h4 | ⟨g, o2, e, hg, hr⟩
  · exact .inl h4
  · exact .inr ⟨g, o2, e, by rw [size_setCells]; exact hg, World.rangeAt_setCells_apart hr G o us (.inl (hG _ e))⟩
theorem run_build0Q (w : World) : (Instr.buildSlice 31 0 #[]).run Try.prog w = .ok (.slice (some ⟨w.heap.size, 0, none⟩) 0 0) (w.alloc (.cells #[] 68)) := by
  have hu : (underlying 31).run Try.prog w = .ok _ w := run_underlying Try.underlying31 w
  have hnr : ∀ cs : Array Value, (newRow 68 cs).run Try.prog w = .ok ⟨w.heap.size, 0, none⟩ (w.alloc (.cells cs 68)) := fun cs => by simp [newRow]
  unfold Instr.buildSlice
  simp [Sem.run_bind, hu, hnr, Instr.fill]
  rw [show Array.map (fun _ => (default : Value)) (Array.range 0) = #[] from Array.eq_empty_of_size_eq_zero (by simp)]
theorem build_step0Q {ops : Array Oper} {rest : List Oper} {op : Oper} {a : Act} {w : World} {Q : Exit → Act → World → Prop} (hg : op.guard = none) (ho : op.op = .buildSlice 31 0 #[])
    (h : ∀ W, Hid (W = w.alloc (.cells #[] 68)) → wpList Try.prog ops Q rest (a.put op.dst (.slice (some ⟨w.heap.size, 0, none⟩) 0 0)) W) : wpList Try.prog ops Q (op :: rest) a w := by
  refine wpList_plain hg fun K hK => ?_
  unfold Oper.wp execOp
  simp only [ho, List.map_toArray, List.map_nil, Sem.run_bind, run_build0Q w, Result.andThen_ok]
  exact hK _ _ (h _ (Lib.hid rfl))
theorem own_emptyQ (w : World) : (w.alloc (.cells #[] 68)).ownsRow w.heap.size 68 3 (.slice (some ⟨w.heap.size, 0, none⟩) 0 0) 0 [] :=
  ⟨rfl, .inr ⟨w.heap.size, 0, #[], rfl, Nat.le_refl _, by show (w.heap.push _)[w.heap.size]? = _; simp, Nat.le_refl _, Nat.zero_le _, rfl, rfl⟩⟩
theorem run_build0R (w : World) : (Instr.buildSlice 24 0 #[]).run Try.prog w = .ok (.slice (some ⟨w.heap.size, 0, none⟩) 0 0) (w.alloc (.cells #[] 44)) := by
  have hu : (underlying 24).run Try.prog w = .ok _ w := run_underlying Try.underlying24 w
  have hnr : ∀ cs : Array Value, (newRow 44 cs).run Try.prog w = .ok ⟨w.heap.size, 0, none⟩ (w.alloc (.cells cs 44)) := fun cs => by simp [newRow]
  unfold Instr.buildSlice
  simp [Sem.run_bind, hu, hnr, Instr.fill]
  rw [show Array.map (fun _ => (default : Value)) (Array.range 0) = #[] from Array.eq_empty_of_size_eq_zero (by simp)]
theorem build_step0R {ops : Array Oper} {rest : List Oper} {op : Oper} {a : Act} {w : World} {Q : Exit → Act → World → Prop} (hg : op.guard = none) (ho : op.op = .buildSlice 24 0 #[])
    (h : ∀ W, Hid (W = w.alloc (.cells #[] 44)) → wpList Try.prog ops Q rest (a.put op.dst (.slice (some ⟨w.heap.size, 0, none⟩) 0 0)) W) : wpList Try.prog ops Q (op :: rest) a w := by
  refine wpList_plain hg fun K hK => ?_
  unfold Oper.wp execOp
  simp only [ho, List.map_toArray, List.map_nil, Sem.run_bind, run_build0R w, Result.andThen_ok]
  exact hK _ _ (h _ (Lib.hid rfl))
theorem own_emptyR (w : World) : (w.alloc (.cells #[] 44)).ownsRow w.heap.size 44 23 (.slice (some ⟨w.heap.size, 0, none⟩) 0 0) 0 [] :=
  ⟨rfl, .inr ⟨w.heap.size, 0, #[], rfl, Nat.le_refl _, by show (w.heap.push _)[w.heap.size]? = _; simp, Nat.le_refl _, Nat.zero_le _, rfl, rfl⟩⟩
theorem setCells_block (b : Nat) : ∀ (vs : List Value) (o : Nat) (w : World) (k : Nat), k ≠ b → (w.setCells b o vs).heap[k]? = w.heap[k]?
  | [], _, _, _, _ => rfl
  | v :: r, o, w, k, h => by rw [World.setCells, setCells_block b r _ _ k h, heap_setCell_other _ _ _ _ h]
/-- A row of one's own is left by a store elsewhere. -/
theorem row_apart {w : World} {b G o : Nat} {t : TypeId} {z n : Nat} {v : Value} {xs us : List Value} (h : w.ownsRow b t z v n xs) (hb : G < b) : (w.setCells G o us).ownsRow b t z v n xs := by
  refine own_kept h (fun g hg => ?_)
  have := (h.lt g hg).1
  exact setCells_block _ _ _ _ _ (by omega)
theorem wp_store_msg {op : Oper} {a : Act} {w : World} {K : Act → World → Prop} {Q : Exit → Act → World → Prop} {G : Nat} {us vs : List Value} (hA : Hid (CellsAt w G us)) (hu : us.length = 6) (x y : Operand) (ho : op.op = .store 33 x y)
    (hx : a.eval x = .pointer (some ⟨G, 0, none⟩)) (hy : a.eval y = .agg vs.toArray) (hl : vs.length = 6) (h1 : vs.all (fun u => u.oneCell') = true) (h : ∀ W, Hid (W = w.setCells G 0 vs) → Hid (CellsAt W G vs) → K (a.put op.dst undef) W) : op.wp Try.prog a w K Q :=
  wp_store_mid 33 x y ho G 0 vs.toArray hx hy (by rw [List.size_toArray, hl, ← hu]; exact hA.out.there) (by rw [msg_size, List.size_toArray, hl]) (all_oneCell_toArray (List.all_eq_true.1 h1)) (h _ (Lib.hid rfl) (Lib.hid (hA.out.stored vs (hl.trans hu.symm))))
theorem MBox.apart {w : World} {G R o : Nat} {v0 v1 v2 v3 v4 v5 : Value} (h : MBox w G v0 v1 v2 v3 v4 v5) (hn : G ≠ R) (us : List Value) : MBox (w.setCells R o us) G v0 v1 v2 v3 v4 v5 := by
  have e : ∀ k, (w.setCells R o us).cell? ⟨G, k, none⟩ = w.cell? ⟨G, k, none⟩ := fun k => World.cell?_of_block (a := ⟨G, k, none⟩) (setCells_block _ _ _ _ _ hn)
  exact ⟨(e 0).trans h.c0, (e 1).trans h.c1, (e 2).trans h.c2, (e 3).trans h.c3, (e 4).trans h.c4, (e 5).trans h.c5⟩
theorem own_oneCell {w : World} {b : Nat} {t : TypeId} {z n : Nat} {v : Value} {xs : List Value} (h : w.ownsRow b t z v n xs) : v.oneCell' = true := by
  rcases h.2 with ⟨rfl, _⟩ | ⟨g, cap, cur, rfl, _⟩ <;> rfl
theorem RecsAt.take {w : World} {a : Option Addr} {cap : Nat} {D : List Rec} (h : RecsAt w a cap D) (k : Nat) : RecsAt w a cap (D.take k) := by
  obtain ⟨h1, h2, h3, h4⟩ := h
  refine ⟨by rw [List.length_take]; omega, h2, fun r hr => h3 r (List.mem_of_mem_take hr), ?_⟩
  rcases h4 with h4 | ⟨g, o, e, hg, hr⟩
  · exact .inl (by rw [List.length_take]; omega)
  · refine .inr ⟨g, o, e, hg, fun j u hu => hr j u ?_⟩
    have e : flatR D = flatR (D.take k) ++ flatR (D.drop k) := by rw [← flatR_append, List.take_append_drop]
    rw [e, List.getElem?_append_left (by have := (List.getElem?_eq_some_iff.1 hu).1; exact this)]
    exact hu
theorem QusAt.take {w : World} {a : Option Addr} {cap : Nat} {D : List Qu} (h : QusAt w a cap D) (k : Nat) : QusAt w a cap (D.take k) := by
  obtain ⟨h1, h2, h3, h4⟩ := h
  refine ⟨by rw [List.length_take]; omega, h2, fun r hr => h3 r (List.mem_of_mem_take hr), ?_⟩
  rcases h4 with h4 | ⟨g, o, e, hg, hr⟩
  · exact .inl (by rw [List.length_take]; omega)
  · refine .inr ⟨g, o, e, hg, fun j u hu => hr j u ?_⟩
    have e : flatQ D = flatQ (D.take k) ++ flatQ (D.drop k) := by rw [← flatQ_append, List.take_append_drop]
    show (flatQ D)[j]? = some u
    rw [e, List.getElem?_append_left (by have := (List.getElem?_eq_some_iff.1 hu).1; exact this)]
    exact hu
/-- A message's value, as six cells of which nothing more is seen. -/
theorem msg_row (m : Msg) (aq a1 a2 a3 : Option Addr) (cq c1 c2 c3 : Nat) : ∃ vs : List Value, msgV m aq a1 a2 a3 cq c1 c2 c3 = .agg vs.toArray ∧ vs.length = 6 ∧ vs.all (fun u => u.oneCell') = true := ⟨_, rfl, rfl, rfl⟩
theorem yields_msg {ops : Array Oper} {op : Oper} {a : Act} {L : List (Nat × Nat × List Value)} {W : World} {G : Nat} {vs : List Value} (hm : Hid ((G, 0, vs) ∈ L ∧ vs.length = 6)) (hw : Region.wanted op (yielded ops a.tmps) = true) (x : Operand) (ho : op.op = .load 33 x)
    (hx : a.eval x = .pointer (some ⟨G, 0, none⟩)) : YieldsIf Try.prog ops (HeldR L W) op (.agg vs.toArray) a :=
  yieldsIf_load_mid hw 33 x ho G 0 hx _ _ (fun _ h => h.get hm.out.1) Try.underlying33 rfl (by rw [msg_size, hm.out.2])
end Go.Proofs.Ytedmkdjijhflnaa
/- Layer 11 as plain functions: a chain, what an answer tells, what answers. -/
namespace Go.Proofs.Ytedmkdjijhflnaa
open Go.RowKit
set_option linter.unusedVariables false
set_option maxRecDepth 20000

/-- Texts that are not too long for a walk. -/
def All2 (D : List Rec) : Prop := ∀ r ∈ D, r.name.size ≤ 2000000 ∧ r.tg.size ≤ 2000000
theorem All2.name {D : List Rec} (h : All2 D) : ∀ r ∈ D, r.name.size ≤ 2000000 := fun r hr => (h r hr).1
/-- The CNAME by which a chain goes on. -/
def nextR (D : List Rec) (nm : ByteArray) : Option Rec := D.find? (isRec nm 5)
/-- A chain of at most so many steps more, from a name on. -/
def chainP (D : List Rec) : Nat → ByteArray → Int → List ByteArray × Int × Bool
  | 0, nm, t => ([nm], t, (nextR D nm).isNone)
  | n + 1, nm, t => match nextR D nm with
    | none => ([nm], t, true)
    | some r => (nm :: (chainP D n r.tg (min t r.ttl)).1, (chainP D n r.tg (min t r.ttl)).2)
theorem chain_none {D : List Rec} {nm : ByteArray} (h : nextR D nm = none) (n : Nat) (t : Int) : chainP D n nm t = ([nm], t, true) := by
  cases n with
  | zero => simp [chainP, h]
  | succ n => simp [chainP, h]
theorem chain_zero {D : List Rec} {nm : ByteArray} {r : Rec} (h : nextR D nm = some r) (t : Int) : chainP D 0 nm t = ([nm], t, false) := by simp [chainP, h]
theorem chain_succ {D : List Rec} {nm : ByteArray} {r : Rec} (h : nextR D nm = some r) (n : Nat) (t : Int) : chainP D (n + 1) nm t = (nm :: (chainP D n r.tg (min t r.ttl)).1, (chainP D n r.tg (min t r.ttl)).2) := by simp [chainP, h]
theorem chain_pos (D : List Rec) (n : Nat) (nm : ByteArray) (t : Int) : ∃ l, (chainP D n nm t).1 = nm :: l ∧ l.length ≤ n := by
  induction n generalizing nm t with
  | zero => exact ⟨[], rfl, Nat.le_refl _⟩
  | succ n ih =>
    cases h : nextR D nm with
    | none => exact ⟨[], by rw [chain_none h], Nat.zero_le _⟩
    | some r =>
      obtain ⟨l, e, hl⟩ := ih r.tg (min t r.ttl)
      exact ⟨_, by rw [chain_succ h], by rw [e]; simp; omega⟩
theorem chain_ttl (D : List Rec) (n : Nat) (nm : ByteArray) (t : Int) : (chainP D n nm t).2.1 ≤ t := by
  induction n generalizing nm t with
  | zero => exact Int.le_refl _
  | succ n ih =>
    cases h : nextR D nm with
    | none => rw [chain_none h]; exact Int.le_refl _
    | some r =>
      rw [chain_succ h]
      exact Int.le_trans (ih _ _) (Int.min_le_left _ _)
theorem next_mem {D : List Rec} {nm : ByteArray} {r : Rec} (h : nextR D nm = some r) : r ∈ D ∧ isRec nm 5 r = true := ⟨List.mem_of_find?_eq_some h, List.find?_some h⟩
theorem chain_small {D : List Rec} (hD : All2 D) (n : Nat) {nm : ByteArray} (hnm : nm.size ≤ 2000000) (t : Int) : ∀ p ∈ (chainP D n nm t).1, p.size ≤ 2000000 := by
  induction n generalizing nm t with
  | zero => intro p hp; simp [chainP] at hp; rw [hp]; exact hnm
  | succ n ih =>
    cases h : nextR D nm with
    | none => rw [chain_none h]; intro p hp; simp at hp; rw [hp]; exact hnm
    | some r =>
      rw [chain_succ h]
      intro p hp
      rcases List.mem_cons.1 hp with rfl | hp
      · exact hnm
      · exact ih (hD r (next_mem h).1).2 _ p hp
/-- A chain's last name. -/
def lastB (l : List ByteArray) : ByteArray := l.getLastD ⟨#[]⟩
theorem lastB_app (l : List ByteArray) (x : ByteArray) : lastB (l ++ [x]) = x := by simp [lastB]
/-- Where the first record of a name and a type is, told by 'of'. -/
theorem ofR_split (D : List Rec) (nm : ByteArray) (kd : Int) : ∀ (m k : Nat), k + m = D.length →
    (∃ (j : Nat) (hj : j < D.length), k ≤ j ∧ ofR D nm kd m k = (j : Int) ∧ isRec nm kd D[j] = true ∧ (D.drop k).filter (isRec nm kd) = D[j] :: (D.drop (j + 1)).filter (isRec nm kd)) ∨ (ofR D nm kd m k = -1 ∧ (D.drop k).filter (isRec nm kd) = [])
  | 0, k, h => .inr ⟨rfl, by rw [List.drop_eq_nil_of_le (by omega)]; rfl⟩
  | m + 1, k, h => by
    have hk : k < D.length := by omega
    cases hr : isRec nm kd D[k] with
    | true => exact .inl ⟨k, hk, Nat.le_refl _, ofR_yes hk hr, hr, by rw [List.drop_eq_getElem_cons hk, List.filter_cons_of_pos hr]⟩
    | false =>
      have e : (D.drop k).filter (isRec nm kd) = (D.drop (k + 1)).filter (isRec nm kd) := by rw [List.drop_eq_getElem_cons hk, List.filter_cons_of_neg (by simp [hr])]
      rw [ofR_no hk hr, e]
      rcases ofR_split D nm kd m (k + 1) (by omega) with ⟨j, hj, h1, h2, h3, h4⟩ | h
      · exact .inl ⟨j, hj, by omega, h2, h3, h4⟩
      · exact .inr h
theorem ofR_ge (D : List Rec) (nm : ByteArray) (kd : Int) : ∀ (m k : Nat), ofR D nm kd m k < 0 ∨ (k : Int) ≤ ofR D nm kd m k
  | 0, k => .inl (show (-1 : Int) < 0 by decide)
  | m + 1, k => by
    unfold ofR
    split
    · split
      · exact .inr (Int.le_refl _)
      · rcases ofR_ge D nm kd m (k + 1) with h | h
        · exact .inl h
        · exact .inr (by omega)
    · exact .inl (by decide)
theorem find_filter (D : List Rec) (p : Rec → Bool) : D.find? p = (D.filter p).head? := by rw [List.head?_filter]
theorem ofR_next (D : List Rec) (nm : ByteArray) : (∃ (j : Nat) (r : Rec), j < D.length ∧ D[j]? = some r ∧ ofR D nm 5 (D.length - 0) 0 = (j : Int) ∧ nextR D nm = some r) ∨ (ofR D nm 5 (D.length - 0) 0 = -1 ∧ nextR D nm = none) := by
  unfold nextR
  rw [find_filter]
  rcases ofR_split D nm 5 (D.length - 0) 0 (by omega) with ⟨j, hj, _, h2, _, h4⟩ | ⟨h1, h2⟩
  · rw [List.drop_zero] at h4
    exact .inl ⟨j, D[j], hj, List.getElem?_eq_getElem hj, h2, by rw [h4]; rfl⟩
  · rw [List.drop_zero] at h2
    exact .inr ⟨h1, by rw [h2]; rfl⟩
/-- One record more of those that count. -/
def tellStep (x : Int × List Ad) (r : Rec) : Int × List Ad := (min x.1 r.ttl, if (r.f, r.b) ∈ x.2 then x.2 else x.2 ++ [(r.f, r.b)])
def tellAll (x : Int × List Ad) (D : List Rec) : Int × List Ad := D.foldl tellStep x
theorem tell_cons (x : Int × List Ad) (r : Rec) (D : List Rec) : tellAll x (r :: D) = tellAll (tellStep x r) D := rfl
theorem tell_len (D : List Rec) : ∀ x : Int × List Ad, (tellAll x D).2.length ≤ x.2.length + D.length := by
  induction D with
  | nil => intro x; exact Nat.le_refl _
  | cons r D ih =>
    intro x
    rw [tell_cons]
    have := ih (tellStep x r)
    have h2 : (tellStep x r).2.length ≤ x.2.length + 1 := by
      unfold tellStep
      by_cases h : (r.f, r.b) ∈ x.2
      · simp [h]
      · simp [h]
    rw [List.length_cons]
    omega
theorem tell_min (D : List Rec) : ∀ (s t : Int) (l : List Ad), tellAll (min s t, l) D = (min s (tellAll (t, l) D).1, (tellAll (t, l) D).2) := by
  induction D with
  | nil => intro s t l; rfl
  | cons r D ih =>
    intro s t l
    rw [tell_cons, tell_cons]
    show tellAll (min (min s t) r.ttl, _) D = _
    rw [show min (min s t) r.ttl = min s (min t r.ttl) by omega, ih]
    rfl
/-- What an answer tells. -/
structure Tld where
  e : Int
  ad : List Ad
  ttl : Int
  nx : ByteArray
  st : Nat
def errT (e : Int) : Tld := ⟨e, [], 0, ⟨#[]⟩, 0⟩
def endT (names : List ByteArray) (x : Int × List Ad) : Tld :=
  if x.2 = [] then (if names.length = 1 then errT 8 else ⟨0, [], x.1, lastB names, names.length - 1⟩) else ⟨0, x.2, x.1, ⟨#[]⟩, names.length - 1⟩
def tellP (fl : Int) (nm : ByteArray) (kd : Int) (D : List Rec) : Tld :=
  if bitS fl 0 4 = 3 then errT 8 else if bitS fl 0 4 ≠ 0 then errT 7 else
    let c := chainP D 8 nm 604800
    if c.2.2 = true then endT c.1 (tellAll (c.2.1, []) (D.filter (isRec (lastB c.1) kd))) else errT 3
/-- A query. -/
structure Qry where
  id : Int
  nm : ByteArray
  ty : Int
  sv : Int
def qryL (q : Qry) : List Value := [.int .i64 q.id, .string q.nm, .int .i64 q.ty, .int .i64 q.sv]
def qryV (q : Qry) : Value := .agg #[.int .i64 q.id, .string q.nm, .int .i64 q.ty, .int .i64 q.sv]
def flagOk (fl : Int) : Bool := decide (bitS fl 15 1 = 1) && (decide (bitS fl 11 4 = 0) && decide (bitS fl 9 1 = 0))
def ansQ (q : Qry) (a : Qu) : Bool := likeB a.name q.nm && (decide (a.ty = q.ty) && decide (a.cl = 1))
def ansP (q : Qry) (sv : Int) (m : Msg) : Bool := decide (q.sv = sv) && (decide (q.id = m.id) && (flagOk m.fl && (match m.qs with
  | [a] => ansQ q a
  | _ => false)))
theorem ansP_1 {q : Qry} {sv : Int} {m : Msg} (h : q.sv ≠ sv) : ansP q sv m = false := by simp [ansP, h]
theorem ansP_2 {q : Qry} {sv : Int} {m : Msg} (h : q.id ≠ m.id) : ansP q sv m = false := by simp [ansP, h]
theorem ansP_3 {q : Qry} {sv : Int} {m : Msg} (h : m.qs.length ≠ 1) : ansP q sv m = false := by
  unfold ansP
  split
  · rename_i a e; rw [e] at h; exact absurd rfl h
  · simp
theorem ansP_4 {q : Qry} {sv : Int} {m : Msg} (h : flagOk m.fl = false) : ansP q sv m = false := by simp [ansP, h]
theorem ansP_5 {q : Qry} {sv : Int} {m : Msg} {a : Qu} (h1 : q.sv = sv) (h2 : q.id = m.id) (h3 : m.qs = [a]) (h4 : flagOk m.fl = true) : ansP q sv m = ansQ q a := by simp [ansP, h1, h2, h3, h4]
end Go.Proofs.Ytedmkdjijhflnaa
/- The landed match: counting, and what it tells. -/
namespace Go.Proofs.Ytedmkdjijhflnaa
open Go.RowKit
set_option linter.unusedVariables false
set_option maxRecDepth 20000
set_option linter.unusedSimpArgs false

theorem filter_at {α : Type} (p : α → Bool) : ∀ (D : List α) (k : Nat) (hk : k < D.length), p D[k] = true → ∃ h : ((D.take k).filter p).length < (D.filter p).length, (D.filter p)[((D.take k).filter p).length] = D[k]
  | x :: D, 0, _, hp => by
    have : p x = true := hp
    simp [List.filter_cons, this]
  | x :: D, k + 1, hk, hp => by
    obtain ⟨h, e⟩ := filter_at p D k (by simpa using hk) (by simpa using hp)
    cases hx : p x with
    | true =>
      simp only [List.take_succ_cons, List.filter_cons, hx, if_true, List.length_cons, List.getElem_cons_succ]
      exact ⟨by omega, e⟩
    | false =>
      simp only [List.take_succ_cons, List.filter_cons, hx, Bool.false_eq_true, if_false, List.getElem_cons_succ]
      exact ⟨h, e⟩
theorem filter_next {α : Type} (p : α → Bool) (D : List α) (k : Nat) (hk : k < D.length) : ((D.take (k + 1)).filter p).length = ((D.take k).filter p).length + (if p D[k] then 1 else 0) := by
  rw [List.take_succ_eq_append_getElem hk, List.filter_append, List.length_append]
  congr 1
  cases h : p D[k] <;> simp [h]
/-- What the iterator reads. -/
structure CountAt (w : World) (Bl Bk Bn : Nat) (a : Option Addr) (c : Nat) (D : List Rec) (nm : ByteArray) (kd : Int) : Prop where
  l : w.cell? ⟨Bl, 0, none⟩ = some (.slice a D.length c)
  k : w.cell? ⟨Bk, 0, none⟩ = some (.int .i64 kd)
  n : w.cell? ⟨Bn, 0, none⟩ = some (.string nm)
  r : RecsAt w a c D
theorem CountAt.keep {n : Nat} {M : List Nat} {w w' : World} {Bl Bk Bn : Nat} {a : Option Addr} {c : Nat} {D : List Rec} {nm : ByteArray} {kd : Int} (h : CountAt w Bl Bk Bn a c D nm kd) (hk : Keep n M w w') (h1 : Bl < n ∧ Bl ∉ M) (h2 : Bk < n ∧ Bk ∉ M) (h3 : Bn < n ∧ Bn ∉ M) (h4 : D.length = 0 ∨ ∀ x, a = some x → x.block < n ∧ x.block ∉ M) : CountAt w' Bl Bk Bn a c D nm kd := by
  refine ⟨(hk.cell h1.1 h1.2).trans h.l, (hk.cell h2.1 h2.2).trans h.k, (hk.cell h3.1 h3.2).trans h.n, h.r.1, h.r.2.1, h.r.2.2.1, ?_⟩
  rcases h.r.2.2.2 with e | ⟨g, o, e, hg, hr⟩
  · exact .inl e
  · rcases h4 with h4 | h4
    · exact .inl h4
    · exact .inr ⟨g, o, e, Nat.lt_of_lt_of_le hg hk.size, fun j u hu => (hk.cell (h4 _ e).1 (h4 _ e).2).trans (hr j u hu)⟩
theorem below_newR {w W : World} {r : Rec} (h : Hid (W = (w.alloc (.cells zC 44)).setCells w.heap.size 0 (recL r))) : Below w.heap.size w W := by
  rw [h.out]
  exact below_cells (Nat.le_refl _) _ _ _ ((Below.refl _ _).alloc (Nat.le_refl _) _)
set_option maxRecDepth 100000 in
set_option maxHeartbeats 4000000 in
theorem count_tells (Bl Bk Bn : Nat) (a : Option Addr) (c : Nat) (D : List Rec) (nm : ByteArray) (kd : Int) (M : List Nat) (w : World) (hC : CountAt w Bl Bk Bn a c D nm kd) (h1 : Bl ∉ M) (h2 : Bk ∉ M) (h3 : Bn ∉ M) (h4 : D.length = 0 ∨ ∀ x, a = some x → x.block ∉ M) (hD : All2 D) (hnm : nm.size ≤ 2000000) (hl : D.length ≤ 900) :
    TellsG Try.prog 46 #[.pointer (some ⟨Bl, 0, none⟩), .pointer (some ⟨Bk, 0, none⟩), .pointer (some ⟨Bn, 0, none⟩)] (D.filter (isRec nm kd)) recV M w := by
  intro l J X W hb hJ hX hY h0
  have HBL : Hid (Bl < w.heap.size ∧ Bk < w.heap.size ∧ Bn < w.heap.size) := Lib.hid ⟨World.block_lt_of_cell? w ⟨Bl, 0, none⟩ hC.l, World.block_lt_of_cell? w ⟨Bk, 0, none⟩ hC.k, World.block_lt_of_cell? w ⟨Bn, 0, none⟩ hC.n⟩
  have HRB : Hid (D.length = 0 ∨ ∀ x, a = some x → x.block < w.heap.size ∧ x.block ∉ M) := Lib.hid (by
    rcases hC.r.2.2.2 with e | ⟨g, o, e, hg, _⟩
    · exact .inl e
    · rcases h4 with h4 | h4
      · exact .inl h4
      · exact .inr fun x hx => ⟨by rw [e] at hx; cases hx; exact hg, h4 x hx⟩)
  have HKP : Hid (∀ V V', CountAt V Bl Bk Bn a c D nm kd → Keep w.heap.size M V V' → CountAt V' Bl Bk Bn a c D nm kd) := Lib.hid (fun V V' hV hk => hV.keep hk ⟨HBL.out.1, h1⟩ ⟨HBL.out.2.1, h2⟩ ⟨HBL.out.2.2, h3⟩ HRB.out)
  have HC : Hid (CountAt W Bl Bk Bn a c D nm kd) := Lib.hid (HKP.out _ _ hC (Keep.ofBelow M hb (Nat.le_refl _)))
  have HWZ : Hid (w.heap.size ≤ W.heap.size) := Lib.hid hb.size
  have HJ := Lib.hid hJ
  have HY := Lib.hid hY
  have H0 := Lib.hid h0
  have HD := Lib.hid hD
  have HNM := Lib.hid hnm
  obtain ⟨N, hN⟩ : ∃ N, D.length = N := ⟨_, rfl⟩
  have HN := Lib.hid hN
  have hcl := HC.out.l
  rw [hN] at hl hcl
  clear hC h1 h2 h3 h4 hJ hY h0 hb hD hnm hN hX
  refine callsIn_of_wp Try.func46 rfl trivial (wpIn_wide.2 ?_)
  simp only [Try.ntmps46, List.size_toArray, List.length_cons, List.length_nil, Nat.reduceAdd, Nat.reduceSub, Array.replicate_succ, Array.replicate_zero, List.push_toArray, List.append_toArray, List.nil_append, List.cons_append]
  go_wp2_with fail
  clear hcl
  go_loopw [6, 9] (fun _ i wr => ∃ k : Nat, k ≤ N ∧ i = .int .i64 (k : Int) ∧ Hid (J ((D.take k).filter (isRec nm kd)).length wr) ∧ Hid (CountAt wr Bl Bk Bn a c D nm kd) ∧ Hid (w.heap.size ≤ wr.heap.size)) (fun _ i _ => N - (intOf i).toNat)
  case atStart => exact ⟨0, Nat.zero_le _, rfl, H0, HC, HWZ⟩
  case round =>
    clear H0 HC HWZ
    obtain ⟨k, hk, rfl, HJk, HC, HWZ⟩ := hrel
    by_cases hkN : k < N
    · have hd : decide ((k : Int) < (N : Int)) = true := decide_eq_true (by omega)
      have hdn : decide (k < N) = true := decide_eq_true hkN
      have hkD : k < D.length := by rw [HN.out]; exact hkN
      obtain ⟨g, o, rfl, hg, hr⟩ := HC.out.r.at k hkD
      have HFN := Lib.hid (filter_next (isRec nm kd) D k hkD)
      have HFA := Lib.hid (filter_at (isRec nm kd) D k hkD)
      have HH := HD.out _ (List.getElem_mem hkD)
      have H16 := Lib.hid (HC.out.r.2.2.1 _ (List.getElem_mem hkD)).1
      have hi1 := isRec_no1 (nm := nm) (kd := kd) (r := D[k])
      have hi2 := isRec_no2 (nm := nm) (kd := kd) (r := D[k])
      have hi3 := isRec_is (nm := nm) (kd := kd) (r := D[k])
      have HYK : Hid (isRec nm kd D[k] = true → ∀ W1, J ((D.take k).filter (isRec nm kd)).length W1 → YieldAt Fence.wide 0 Try.prog l #[recV D[k]] W1 fun e W' => (e = .returned (.bool true) ∧ J (((D.take k).filter (isRec nm kd)).length + 1) W' ∧ Keep w.heap.size M W1 W') ∨ (e = .returned (.bool false) ∧ X W')) := Lib.hid (fun hi W1 h => by
        obtain ⟨hlt, e⟩ := HFA.out hi
        have := HY.out _ hlt W1 h
        rw [e] at this
        exact this)
      have HRR := Lib.hid hr
      obtain ⟨cnt, hcnt⟩ : ∃ cnt, ((D.take k).filter (isRec nm kd)).length = cnt := ⟨_, rfl⟩
      rw [hcnt] at HJk HFN HYK
      clear HFA HY hcnt hr
      generalize D[k] = r at *
      have hb1 : (0 : Int) ≤ (k : Int) := by omega
      have hb2 : (k : Int) < (N : Int) := by omega
      have HZ := Lib.hid (rec_zeroed wr)
      go_upto_region 3 with (first | refine load_rec H16 HRR _ rfl rfl rfl ?_ | refine store_rec HZ _ _ H16 rfl rfl rfl rfl (fun W1 HW1 HE1 => ?_))
      have hb5 := below_newR HW1
      have HC1 := Lib.hid (HKP.out wr W1 HC.out (Keep.ofBelow M hb5 HWZ.out))
      have HJ1 := Lib.hid (HJ.out cnt _ _ HJk.out hb5)
      have HW2 : Hid (w.heap.size ≤ W1.heap.size) := Lib.hid (Nat.le_trans HWZ.out hb5.size)
      have HP := Lib.hid HE1.out.parts
      obtain ⟨R, hR⟩ : ∃ R, wr.heap.size = R := ⟨_, rfl⟩
      rw [hR] at HE1 HP
      try rw [hR]
      clear hb5 HZ HRR HC HJk HWZ hg HW1 hR
      have r0 : W1.cell? ⟨R, 0, none⟩ = some (.string r.name) := HP.out.name
      have r1 : W1.cell? ⟨R, 1, none⟩ = some (.int .i64 r.ty) := HP.out.ty
      have r2 : W1.cell? ⟨R, 2, none⟩ = some (.int .i64 r.cl) := HP.out.cl
      have ck := HC1.out.k
      have cn := HC1.out.n
      by_cases ht : r.ty = kd
      · have hq1 : decide (r.ty = kd) = true := decide_eq_true ht
        have hq1b : (r.ty == kd) = true := by simp [ht]
        by_cases hc : r.cl = 1
        · have hq2 : decide (r.cl = 1) = true := decide_eq_true hc
          have hq2b : (r.cl == 1) = true := by simp [hc]
          have hii := hi3 ht hc
          have HLK := fun V => Lib.hid (like_any r.name nm V HH.1 HNM.out)
          rw [← hii] at HLK
          clear hi1 hi2 hi3 hii ht hc
          cases hir : isRec nm kd r with
          | false =>
            have HFN2 : Hid (((D.take (k + 1)).filter (isRec nm kd)).length = cnt) := Lib.hid (by have := HFN.out; rw [hir] at this; simpa using this)
            rw [hir] at HLK
            clear hir HYK HFN
            go_wp2_with fail
            refine (HLK _).out.mono ?_
            rintro e w2 ⟨rfl, qq, hq2⟩
            have hb : Below W1.heap.size W1 w2 := by rw [hq2]; exact belowN (Below.refl _ _) _
            have HC2 := Lib.hid (HKP.out _ _ HC1.out (Keep.ofBelow M hb HW2.out))
            have HJ2 := Lib.hid (HJ.out cnt _ _ HJ1.out hb)
            have HW3 : Hid (w.heap.size ≤ w2.heap.size) := Lib.hid (Nat.le_trans HW2.out hb.size)
            clear hb hq2 HC1 HJ1 HW2 HLK r0 r1 r2 ck cn HP HE1
            go_wp2_with fail
            go_roundw
            case rel => exact ⟨k + 1, by omega, by go_num, Lib.hid (by rw [HFN2.out]; exact HJ2.out), HC2, HW3⟩
            case measure => simp [intOf]; omega
          | true =>
            have HFN2 : Hid (((D.take (k + 1)).filter (isRec nm kd)).length = cnt + 1) := Lib.hid (by have := HFN.out; rw [hir] at this; simpa using this)
            have HYK2 := Lib.hid (HYK.out hir)
            rw [hir] at HLK
            clear hir HYK HFN
            refine region_split 18 rfl ?_
            simp only [List.take_succ_cons, List.take_zero, List.drop_succ_cons, List.drop_zero]
            go_wp2_with (refine load_recAt HE1 _ rfl rfl rfl ?_)
            refine (HLK _).out.mono ?_
            rintro e w2 ⟨rfl, qq, hq2⟩
            have hb : Below W1.heap.size W1 w2 := by rw [hq2]; exact belowN (Below.refl _ _) _
            have HC2 := Lib.hid (HKP.out _ _ HC1.out (Keep.ofBelow M hb HW2.out))
            have HJ2 := Lib.hid (HJ.out cnt _ _ HJ1.out hb)
            have HW3 : Hid (w.heap.size ≤ w2.heap.size) := Lib.hid (Nat.le_trans HW2.out hb.size)
            have HE2 := Lib.hid (HE1.out.below hb)
            clear hb hq2 HC1 HJ1 HW2 HLK r0 r1 r2 ck cn HP HE1
            go_wp2_with (refine load_recAt HE2 _ rfl rfl rfl ?_)
            try simp only [true_and]
            refine restIn ?_
            refine yield_step (HYK2.out _ HJ2.out) rfl _ _ rfl rfl rfl ?_
            rintro e w3 (⟨rfl, hj3, hk3⟩ | ⟨rfl, hx⟩)
            · have HJ3 := Lib.hid hj3
              have HC3 := Lib.hid (HKP.out _ _ HC2.out hk3)
              have HW4 : Hid (w.heap.size ≤ w3.heap.size) := Lib.hid (Nat.le_trans HW3.out hk3.size)
              clear hj3 hk3 HC2 HJ2 HW3 HE2 HYK2
              refine ⟨_, rfl, ?_⟩
              refine wide_step (v := .bool false) rfl rfl ?_
              refine wide_step (v := .bool false) rfl rfl ?_
              refine wpListIn_nil ?_
              go_wp2_with fail
              go_roundw
              case rel => exact ⟨k + 1, by omega, by go_num, Lib.hid (by rw [HFN2.out]; exact HJ3.out), HC3, HW4⟩
              case measure => simp [intOf]; omega
            · have HX := Lib.hid hx
              clear hx HC2 HJ2 HW3 HE2 HYK2
              refine ⟨_, rfl, ?_⟩
              refine wide_step (v := .bool true) rfl rfl ?_
              refine wide_step (v := .bool true) rfl rfl ?_
              refine wpListIn_nil ?_
              go_wp2_with fail
              first
                | exact bodyPost_ret (results_none rfl _ _) rfl ⟨⟨_, rfl⟩, .inr HX.out⟩
                | exact bodyPost_ret (results_none rfl _ _ _) rfl ⟨⟨_, rfl⟩, .inr HX.out⟩
                | trace_state
        · have hq2 : decide (r.cl = 1) = false := decide_eq_false hc
          have hq2b : (r.cl == 1) = false := by simpa using hc
          have hii := hi2 hc
          have HFN2 : Hid (((D.take (k + 1)).filter (isRec nm kd)).length = cnt) := Lib.hid (by have := HFN.out; rw [hii] at this; simpa using this)
          clear hi1 hi2 hi3 hii ht hc HYK HFN
          go_wp2_with fail
          go_roundw
          case rel => exact ⟨k + 1, by omega, by go_num, Lib.hid (by rw [HFN2.out]; exact HJ1.out), HC1, HW2⟩
          case measure => simp [intOf]; omega
      · have hq1 : decide (r.ty = kd) = false := decide_eq_false ht
        have hq1b : (r.ty == kd) = false := by simpa using ht
        have hii := hi1 ht
        have HFN2 : Hid (((D.take (k + 1)).filter (isRec nm kd)).length = cnt) := Lib.hid (by have := HFN.out; rw [hii] at this; simpa using this)
        clear hi1 hi2 hi3 hii ht HYK HFN
        go_wp2_with fail
        go_roundw
        case rel => exact ⟨k + 1, by omega, by go_num, Lib.hid (by rw [HFN2.out]; exact HJ1.out), HC1, HW2⟩
        case measure => simp [intOf]; omega
    · obtain rfl : k = N := by omega
      have hd : decide ((k : Int) < (k : Int)) = false := by simp
      have HJN : Hid (J (D.filter (isRec nm kd)).length wr) := Lib.hid (by have := HJk.out; rwa [List.take_of_length_le (by rw [HN.out]; exact Nat.le_refl _)] at this)
      go_wp2_with fail
      go_end0
      exact ⟨⟨_, rfl⟩, .inl HJN.out⟩
end Go.Proofs.Ytedmkdjijhflnaa
/- A row of one address; an address loaded (parted from CeNo). -/
namespace Go.Proofs.Ytedmkdjijhflnaa
open Go.RowKit
set_option linter.unusedVariables false
set_option maxRecDepth 20000

/-- A row of one address. -/
theorem fillA16 (f : Int) (b0 b1 b2 b3 b4 b5 b6 b7 b8 b9 b10 b11 b12 b13 b14 b15 : Nat) : Instr.fill (fun i => some (i * 17, 17)) ((Array.range (1 * 17)).map fun j => zAd[j % zAd.size]!) [(0, addrV f [b0, b1, b2, b3, b4, b5, b6, b7, b8, b9, b10, b11, b12, b13, b14, b15])] = some (adL (f, [b0, b1, b2, b3, b4, b5, b6, b7, b8, b9, b10, b11, b12, b13, b14, b15])).toArray := by kernel_rfl
theorem fillA1 (r : Ad) (h : r.2.length = 16) : Instr.fill (fun i => some (i * 17, 17)) ((Array.range (1 * 17)).map fun j => zAd[j % zAd.size]!) [(0, addrV r.1 r.2)] = some (adL r).toArray := by
  obtain ⟨f, bs⟩ := r
  match bs, h with
  | [b0, b1, b2, b3, b4, b5, b6, b7, b8, b9, b10, b11, b12, b13, b14, b15], _ => exact fillA16 f b0 b1 b2 b3 b4 b5 b6 b7 b8 b9 b10 b11 b12 b13 b14 b15
theorem run_buildA1 (r : Ad) (h16 : r.2.length = 16) (w : World) : (Instr.buildSlice 27 1 #[(0, addrV r.1 r.2)]).run Try.prog w = .ok (.slice (some ⟨w.heap.size, 0, none⟩) 1 1) (w.alloc (.cells (adL r).toArray 42)) := by
  obtain ⟨i0, hi0, hz0, hz1, hz2⟩ := info_parts infoA
  have hf := fillA1 r h16
  obtain ⟨Z, hZ⟩ : ∃ Z : Array Value, zAd = Z := ⟨_, rfl⟩
  rw [hZ] at hf hz0
  have hsz : (sizeOf 42).run Try.prog w = .ok 17 w := by simp [sizeOf, typeInfo, hi0, hz1]
  have hzv : (zeroValue 42).run Try.prog w = .ok (.agg Z) w := by simp [zeroValue, typeInfo, hi0, hz0]
  have hnr : ∀ cs : Array Value, (newRow 42 cs).run Try.prog w = .ok ⟨w.heap.size, 0, none⟩ (w.alloc (.cells cs 42)) := fun cs => by simp [newRow]
  have hu : (underlying 27).run Try.prog w = .ok _ w := run_underlying Try.underlying27 w
  have hfc : Instr.fill (fun i => some (i * 17, 17)) ((Array.range (1 * 17)).map fun j => (Value.agg Z).cells[j % (Value.agg Z).cells.size]!) (#[(0, addrV r.1 r.2)] : Array (Nat × Value)).toList = some (adL r).toArray := hf
  unfold Instr.buildSlice
  simp only [Sem.run_bind, hu, Result.andThen_ok, hsz, if_neg (show ¬ (1 * 17 > 2 ^ 24) by decide), Sem.run_pure, if_neg (show ¬ (1 * 17 = 0) by decide), hzv, hfc, hnr]
/-- An address that lies somewhere. -/
theorem load_ad {ops : Array Oper} {rest : List Oper} {op : Oper} {a : Act} {w : World} {Q : Exit → Act → World → Prop} {G o : Nat} {r : Ad} (h16 : Hid (r.2.length = 16)) (hA : Hid (w.rangeAt G o (adL r))) (x : Operand) (hw : Region.wanted op (yielded ops a.tmps) = true) (ho : op.op = .load 42 x)
    (hx : a.eval x = .pointer (some ⟨G, o, none⟩)) (h : wpList Try.prog ops Q rest (a.put op.dst (addrV r.1 r.2)) w) : wpList Try.prog ops Q (op :: rest) a w :=
  wpList_load_row hw 42 x ho G o hx (addrL r.1 r.2) _ hA.out Try.underlying42 rfl (by rw [addr_size, addrL_len r.1 r.2 h16.out]) h
theorem build_adM {ops : Array Oper} {rest : List Oper} {op : Oper} {a : Act} {w : World} {Q : Exit → Act → World → Prop} {r : Ad} (h16 : Hid (r.2.length = 16)) (hg : op.guard = none) (x : Operand) (ho : op.op = .buildSlice 27 1 #[(0, x)])
    (hx : a.eval x = addrV r.1 r.2) (h : ∀ W, Hid (W = w.alloc (.cells (adL r).toArray 42)) → wpList Try.prog ops Q rest (a.put op.dst (.slice (some ⟨w.heap.size, 0, none⟩) 1 1)) W) : wpList Try.prog ops Q (op :: rest) a w := by
  refine wpList_plain hg fun K hK => ?_
  unfold Oper.wp execOp
  simp only [ho, List.map_toArray, List.map_cons, List.map_nil, hx, Sem.run_bind, run_buildA1 r h16.out w, Result.andThen_ok]
  exact hK _ _ (h _ (Lib.hid rfl))
/-- A new row of one address, where it lies. -/
theorem ad_range (w : World) (r : Ad) : (w.alloc (.cells (adL r).toArray 42)).rangeAt w.heap.size 0 (flatA [r]) := by
  have := (CellsAt.new w 42 (adL r)).range
  rw [show flatA [r] = adL r from List.append_nil _]
  exact this
/-- A result that lies in cells; a struct stored whole. -/
theorem results_of {w : World} {fn : Func} {a : Tmp} {tmps : Array Value} {R : Nat} {t : TypeId} {d : TypeDesc} {vs : List Value} (h : fn.results = #[.cell a t]) (ha : tmps.getD a undef = .pointer (some ⟨R, 0, none⟩)) (hA : CellsAt w R vs) (hu : Try.prog.underlying t = some d) (hd : d.isRow = true) (hl : (Try.prog.info? t).map (·.size) = some vs.length) : (results fn tmps).run Try.prog w = .ok (.agg vs.toArray) w := by
  rw [Array.getD_eq_getD_getElem?] at ha
  have := run_loadVar_mid w R 0 t vs _ hA.range hu hd hl
  simp [results, h, ha, asAddr, this]
theorem store_of {ops : Array Oper} {rest : List Oper} {op : Oper} {a : Act} {w : World} {Q : Exit → Act → World → Prop} {G : Nat} {us vs : List Value} {t : TypeId} {n : Nat} (hA : Hid (CellsAt w G us)) (hu : us.length = n) (hi : (Try.prog.info? t).map (·.size) = some n) (x y : Operand) (hgd : op.guard = none) (ho : op.op = .store t x y)
    (hx : a.eval x = .pointer (some ⟨G, 0, none⟩)) (hy : a.eval y = .agg vs.toArray) (hl : vs.length = n) (h1 : vs.all (fun u => u.oneCell') = true) (h : ∀ W, Hid (W = w.setCells G 0 vs) → Hid (CellsAt W G vs) → wpList Try.prog ops Q rest (a.put op.dst undef) W) : wpList Try.prog ops Q (op :: rest) a w :=
  wpList_store_mid hgd t x y ho G 0 vs.toArray hx hy (by rw [List.size_toArray, hl, ← hu]; exact hA.out.there) (by rw [hi, List.size_toArray, hl]) (all_oneCell_toArray (List.all_eq_true.1 h1)) (h _ (Lib.hid rfl) (Lib.hid (hA.out.stored vs (hl.trans hu.symm))))
theorem heap_setCell_otherM (w : World) (G o : Nat) (v : Value) (k : Nat) (h : k ≠ G) : (w.setCell ⟨G, o, none⟩ v).heap[k]? = w.heap[k]? := by
  simp [World.setCell, Array.getElem?_modify, Ne.symm h]
theorem heap_setCells_other (G : Nat) : ∀ (vs : List Value) (o : Nat) (w : World) (k : Nat), k ≠ G → (w.setCells G o vs).heap[k]? = w.heap[k]?
  | [], _, _, _, _ => rfl
  | v :: r, o, w, k, h => by rw [World.setCells, heap_setCells_other G r _ _ k h, heap_setCell_otherM _ _ _ _ _ h]
end Go.Proofs.Ytedmkdjijhflnaa
/- The landed match: step. -/
namespace Go.Proofs.Ytedmkdjijhflnaa
open Go.RowKit
set_option linter.unusedVariables false
set_option maxRecDepth 20000
set_option linter.unusedSimpArgs false

theorem blk_one (w : World) (o : Obj) (o2 : Obj) : ((w.alloc o).alloc o2).heap[w.heap.size + 1]? = some o2 := by
  have := World.alloc_heap_new (w.alloc o) o2
  rwa [World.size_alloc] at this
theorem func_nil0 (w : World) (d k : Nat) (c : Array Value) : (Op.equalIn (d + 1) 90 (.func (.func k) #[] c) .nilFunc).run Try.prog w = .ok false w := by
  simp [Op.equalIn, run_underlying Try.underlying90]
theorem func_nil (w : World) (k : Nat) (c : Array Value) : (binOp .eql 90 (.func (.func k) #[] c) .nilFunc).run Try.prog w = .ok (.bool false) w := by
  have := func_nil0 w 9999 k c
  simp only [binOp, Op.equal, Sem.run_bind]
  rw [show Op.maxDepth = 9999 + 1 from rfl, this]
  rfl
set_option maxRecDepth 100000 in
theorem counting_any (nm : ByteArray) (kd : Int) (a : Option Addr) (c : Nat) (D : List Rec) (w : World) (hA : RecsAt w a c D) :
    Calls Try.prog 36 #[.string nm, .int .i64 kd, .slice a D.length c] w fun e w' => e = .returned (.func (.func 46) #[] #[.pointer (some ⟨w.heap.size + 2, 0, none⟩), .pointer (some ⟨w.heap.size + 1, 0, none⟩), .pointer (some ⟨w.heap.size, 0, none⟩)]) ∧ CountAt w' (w.heap.size + 2) (w.heap.size + 1) w.heap.size a c D nm kd ∧ Below w.heap.size w w' ∧ w'.heap.size = w.heap.size + 3 := by
  have HB : Hid (Below w.heap.size w (((w.alloc (.cells #[.string nm] 9)).alloc (.cells #[.int .i64 kd] 3)).alloc (.cells #[.slice a D.length c] 24))) := Lib.hid ((((Below.refl _ _).alloc (Nat.le_refl _) _).alloc (by simp) _).alloc (by simp; omega) _)
  have HC : Hid (CountAt (((w.alloc (.cells #[.string nm] 9)).alloc (.cells #[.int .i64 kd] 3)).alloc (.cells #[.slice a D.length c] 24)) (w.heap.size + 2) (w.heap.size + 1) w.heap.size a c D nm kd) := Lib.hid (by
    refine ⟨?_, ?_, ?_, hA.below HB.out⟩
    · have := (CellsAt.new ((w.alloc (.cells #[.string nm] 9)).alloc (.cells #[.int .i64 kd] 3)) 24 [.slice a D.length c]).cell 0 _ rfl
      simpa using this
    · have := ((CellsAt.new (w.alloc (.cells #[.string nm] 9)) 3 [.int .i64 kd]).below ((Below.refl _ _).alloc (Nat.le_refl _) (.cells #[.slice a D.length c] 24))).cell 0 _ rfl
      simpa using this
    · exact ((CellsAt.new w 9 [.string nm]).below (((Below.refl _ _).alloc (Nat.le_refl _) _).alloc (by simp) _)).cell 0 _ rfl)
  clear hA
  generalize D.length = n at *
  go_enter Try.func36, Try.ntmps36
  go_wp2_with fail
  go_ret
  exact ⟨rfl, HC.out, HB.out, by simp⟩
theorem RecAt.upto {w w' : World} {G n : Nat} {r : Rec} (h : RecAt w G r) (hb : Below n w w') (hG : G < n) : RecAt w' G r :=
  ⟨h.len, Nat.lt_of_lt_of_le h.lt hb.size, fun j u hu => by rw [World.cell?_of_block (w := w) (a := ⟨G, 0 + j, none⟩) (hb.block G hG)]; exact h.range j u hu, fun j hj => by
    rw [World.cell?_of_block (w := w) (a := ⟨G, 0 + j, none⟩) (hb.block G hG), World.frozen?_of_block (w := w) (a := ⟨G, 0 + j, none⟩) (hb.block G hG)]; exact h.there j hj⟩
theorem CellsAt.upto {w w' : World} {G n : Nat} {vs : List Value} (h : CellsAt w G vs) (hb : Below n w w') (hG : G < n) : CellsAt w' G vs :=
  ⟨Nat.lt_of_lt_of_le h.lt hb.size, fun j u hu => by rw [World.cell?_of_block (w := w) (a := ⟨G, 0 + j, none⟩) (hb.block G hG)]; exact h.range j u hu, fun j hj => by
    rw [World.cell?_of_block (w := w) (a := ⟨G, 0 + j, none⟩) (hb.block G hG), World.frozen?_of_block (w := w) (a := ⟨G, 0 + j, none⟩) (hb.block G hG)]; exact h.there j hj⟩
def stepV : Option Rec → Value
  | some r => .tuple #[recV r, .bool true]
  | none => .tuple #[recV zR, .bool false]
theorem results_recB {fn : Func} {a b : Tmp} {tmps : Array Value} {W : World} {R Rb : Nat} {r : Rec} {t : Bool} (h : fn.results = #[.cell a 44, .cell b 4]) (ha : tmps.getD a undef = .pointer (some ⟨R, 0, none⟩)) (hb : tmps.getD b undef = .pointer (some ⟨Rb, 0, none⟩))
    (hA : RecAt W R r) (hc : W.cell? ⟨Rb, 0, none⟩ = some (.bool t)) : (results fn tmps).run Try.prog W = .ok (.tuple #[recV r, .bool t]) W := by
  have hl : (loadVar 4 ⟨Rb, 0, none⟩).run Try.prog W = .ok (.bool t) W := by
    simp [go_sem, hc]
  rw [Array.getD_eq_getD_getElem?] at ha hb
  simp [results, h, ha, hb, asAddr, loadVar_rec hA, hl]
set_option maxRecDepth 100000 in
set_option maxHeartbeats 4000000 in
theorem step_any (nm : ByteArray) (a : Option Addr) (c : Nat) (D : List Rec) (w : World) (hA : RecsAt w a c D) (hD : All2 D) (hnm : nm.size ≤ 2000000) (hl : D.length ≤ 900) :
    Calls Try.prog 35 #[.string nm, .slice a D.length c] w fun e w' => e = .returned (stepV (nextR D nm)) ∧ Below w.heap.size w w' := by
  obtain ⟨W0, hW0⟩ : ∃ W0, (w.alloc (.cells zC 44)).alloc (.cells #[.bool false] 4) = W0 := ⟨_, rfl⟩
  have HB0 : Hid (Below w.heap.size w W0) := Lib.hid (by rw [← hW0]; exact ((Below.refl _ _).alloc (Nat.le_refl _) _).alloc (by simp) _)
  have HS0 : Hid (W0.heap.size = w.heap.size + 2) := Lib.hid (by rw [← hW0]; simp)
  have HR0 : Hid (RecAt W0 w.heap.size zR) := Lib.hid (by rw [← hW0]; exact (rec_zeroed w).below ((Below.refl _ _).alloc (Nat.le_refl _) _))
  have HC0 : Hid (CellsAt W0 (w.heap.size + 1) [.bool false]) := Lib.hid (by
    have := CellsAt.new (w.alloc (.cells zC 44)) 4 [.bool false]
    rw [← hW0]; simpa using this)
  have HCN := Lib.hid (counting_any nm 5 a c D W0 (hA.below HB0.out))
  have HFL : Hid (All2 D ∧ nm.size ≤ 2000000 ∧ D.length ≤ 900 ∧ ∀ r ∈ D, r.b.length = 16) := Lib.hid ⟨hD, hnm, hl, fun r hr => (hA.2.2.1 r hr).1⟩
  have HNX : Hid (nextR D nm = (D.filter (isRec nm 5)).head?) := Lib.hid (find_filter D _)
  have HTG := fun V M h1 h2 h3 h4 => fun (hC : CountAt V (W0.heap.size + 2) (W0.heap.size + 1) W0.heap.size a c D nm 5) => Lib.hid (count_tells _ _ _ a c D nm 5 M V hC h1 h2 h3 h4 hD hnm hl)
  clear hA hD hnm hl
  obtain ⟨N, hN⟩ : ∃ N, D.length = N := ⟨_, rfl⟩
  rw [hN] at HCN ⊢
  clear hN
  refine (callsIn_wide (n := 0)).1 (callsIn_of_wp_marks Try.func35 rfl trivial (wpIn_wide.2 ?_) rfl)
  simp only [Try.ntmps35, List.size_toArray, List.length_cons, List.length_nil, Nat.reduceAdd, Nat.reduceSub, Array.replicate_succ, Array.replicate_zero, List.push_toArray, List.append_toArray, List.nil_append, List.cons_append]
  go_upto_region 1 with fail
  try rw [hW0]
  clear hW0
  go_wp2_with fail
  refine HCN.out.mono ?_
  rintro e w1 ⟨rfl, hc1, hb1, hs1⟩
  have qf := func_nil
  have HC1 := Lib.hid hc1
  have HB1 := Lib.hid hb1
  have HS1 : Hid (w1.heap.size = w.heap.size + 5) := Lib.hid (by rw [hs1, HS0.out])
  have HT1 := HTG w1 [] (by simp) (by simp) (by simp) (.inr (by simp)) hc1
  have HR1 := Lib.hid (HR0.out.below hb1)
  have HX1 := Lib.hid (HC0.out.below hb1)
  have HBW := Lib.hid (chain HB0.out hb1)
  clear hc1 hb1 hs1 HCN HTG
  have FIN : Hid (∀ (W' : World) (tm : Array Value) (r : Rec) (t : Bool), tm.getD 4 undef = .pointer (some ⟨w.heap.size, 0, none⟩) → tm.getD 5 undef = .pointer (some ⟨w.heap.size + 1, 0, none⟩) → RecAt W' w.heap.size r → CellsAt W' (w.heap.size + 1) [.bool t] → W'.heap[w1.heap.size]? = some (.deferred (some [])) → Below w.heap.size w W' → Value.tuple #[recV r, .bool t] = stepV (nextR D nm) →
      bodyPostM Fence.wide 0 Try.prog Try.f35 (fun e w' => e = .returned (stepV (nextR D nm)) ∧ Below w.heap.size w w') .ret { tmps := tm, defers := [{ target := .collected w1.heap.size, args := #[] }] } W') := Lib.hid (fun W' tm r t h4 h5 hE hC hD hB hr => by
    have hS := HS1.out
    refine ⟨by simp, .inl ⟨_, _, rfl, run_takeDeferred hD, ?_⟩⟩
    have hb : Below w1.heap.size W' (W'.putObj w1.heap.size (.deferred none)) := below_put _ (Nat.le_refl _)
    have hk : Keep w1.heap.size [] W' (W'.putObj w1.heap.size (.deferred none)) := Keep.ofBelow [] hb (Nat.le_refl _)
    refine ⟨_, results_recB (R := w.heap.size) (Rb := w.heap.size + 1) rfl h4 h5 ?_ ?_, by rw [hr], hB.trans (hb.mono (by omega))⟩
    · exact ⟨hE.len, Nat.lt_of_lt_of_le hE.lt hb.size, fun j u hu => (hk.cell (by omega) (by simp)).trans (hE.range j u hu), fun j hj => by
        rw [hk.cell (by omega) (by simp), World.frozen?_of_block (w := W') (a := ⟨w.heap.size, 0 + j, none⟩) (hb.block _ (by show w.heap.size < _; omega))]; exact hE.there j hj⟩
    · rw [hk.cell (by omega) (by simp)]; exact hC.cell 0 _ rfl)
  go_wp2_with fail
  refine range_first (gf := 46) (lb := #[.pointer (some ⟨W0.heap.size + 2, 0, none⟩), .pointer (some ⟨W0.heap.size + 1, 0, none⟩), .pointer (some ⟨W0.heap.size, 0, none⟩)]) rfl (enters_of Try.func46 (by kernel_rfl) rfl) (D.filter (isRec nm 5)) recV w1 [] HT1.out (Below.refl _ _) [w.heap.size, w.heap.size + 1] (by have := HS1.out; simp; omega)
    (fun W => ∃ r, nextR D nm = some r ∧ RecAt W w.heap.size r ∧ CellsAt W (w.heap.size + 1) [.bool true] ∧ Below w.heap.size w W)
    (fun A B ⟨r, h1, h2, h3, h4⟩ hb => ⟨r, h1, h2.upto hb (by have := HS1.out; omega), h3.upto hb (by have := HS1.out; omega), h4.trans (hb.mono (by have := HS1.out; omega))⟩)
    ?round ?done ?stop
  case round =>
    intro hk W hlW hbW
    obtain ⟨x, hx⟩ : ∃ x, (D.filter (isRec nm 5))[0] = x := ⟨_, rfl⟩
    have HNX2 : Hid (nextR D nm = some x) := Lib.hid (by rw [HNX.out, List.head?_eq_getElem?, List.getElem?_eq_getElem hk, hx])
    have H16 : Hid (x.b.length = 16) := Lib.hid (HFL.out.2.2.2 x (next_mem HNX2.out).1)
    rw [hx]
    have HZ := Lib.hid (rec_zeroed W)
    have HLW := Lib.hid hlW
    clear hk hx hlW hbW qf
    refine round_region rfl (fun ⟨_, _, h⟩ => h) ?_
    simp only [List.setIfInBounds_toArray, List.set_cons_succ, List.set_cons_zero]
    go_wp2_with (refine store_rec HZ _ _ H16 rfl rfl rfl rfl (fun W3 HW3 HE3 => ?_))
    refine ⟨below_newR HW3, fun w₂ hf2 hbw2 => ?_⟩
    have HB3 := Lib.hid (below_newR HW3)
    have HX3 : Hid (RecAt w₂ W.heap.size x) := Lib.hid ⟨H16.out, Nat.lt_of_lt_of_le HE3.out.lt hf2.size, range_foot hf2 HE3.out.range HE3.out.lt (by have := HLW.out; simp; omega), fun j hj => by
      rw [World.cell?_of_block (w := W3) (a := ⟨W.heap.size, 0 + j, none⟩) (hf2.keep _ HE3.out.lt (by have := HLW.out; simp; omega)), World.frozen?_of_block (w := W3) (a := ⟨W.heap.size, 0 + j, none⟩) (hf2.keep _ HE3.out.lt (by have := HLW.out; simp; omega))]; exact HE3.out.there j hj⟩
    have HB2 := Lib.hid hbw2
    have HR2 : Hid (RecAt w₂ w.heap.size zR) := Lib.hid (HR1.out.upto hbw2 (by have := HS1.out; omega))
    have HX2 : Hid (CellsAt w₂ (w.heap.size + 1) [.bool false]) := Lib.hid (HX1.out.upto hbw2 (by have := HS1.out; omega))
    have HG : Hid (∀ V U, V = w₂.setCells w.heap.size 0 (recL x) → RecAt V w.heap.size x → U = V.setCell ⟨w.heap.size + 1, 0, none⟩ (.bool true) → CellsAt V (w.heap.size + 1) [.bool false] → Keep (w1.heap.size + 2) [w.heap.size, w.heap.size + 1] w₂ U ∧ ∃ r, nextR D nm = some r ∧ RecAt U w.heap.size r ∧ CellsAt U (w.heap.size + 1) [.bool true] ∧ Below w.heap.size w U) := Lib.hid (fun V U hV hE hU hc => by
      have hs := HS1.out
      have b1 : Below w.heap.size w₂ V := by rw [hV]; exact below_cells (Nat.le_refl _) _ _ _ (Below.refl _ _)
      have b2 : Below w.heap.size V U := by rw [hU]; exact (Below.refl _ _).setCell (by show w.heap.size ≤ w.heap.size + 1; omega) _
      refine ⟨⟨(b1.trans b2).os, (b1.trans b2).tape, (b1.trans b2).output, (b1.trans b2).size, fun j _ hn => ?_⟩, x, HNX2.out, ?_, ?_, ?_⟩
      · simp at hn
        rw [hU, heap_setCell_otherM _ _ _ _ _ hn.2, hV, heap_setCells_other _ _ _ _ _ hn.1]
      · rw [hU]; exact hE.other (by omega) _ _
      · rw [hU]; exact hc.set 0 _ (by simp)
      · exact (HBW.out.trans (HB2.out.mono (by omega))).trans (b1.trans b2))
    clear HZ HW3 HE3 hf2 hbw2 HB3
    refine wpIn_block (wpIn_seq ?_)
    refine round_region rfl (fun ⟨_, _, h⟩ => by cases h.1) ?_
    go_wp2_with (first | refine load_recAt HX3 _ rfl rfl rfl ?_ | (refine store_rec HR2 _ _ H16 rfl rfl rfl rfl (fun V HV HEV => ?_); have HXV : Hid (CellsAt V (w.heap.size + 1) [.bool false]) := Lib.hid (by rw [HV.out]; exact HX2.out.apart (by omega) _); have hcb2 := HXV.out.cell 0 _ rfl; have hfb2 := HXV.out.live 0 (by simp)))
    refine wpIn_ret ?_
    obtain ⟨h1, h2⟩ := HG.out V _ HV.out HEV.out rfl HXV.out
    exact ⟨rfl, h1, h2⟩
  case done =>
    intro W hx hb hD
    have HNX2 : Hid (nextR D nm = none) := Lib.hid (by rw [HNX.out, hx]; rfl)
    have HB2 := Lib.hid hb
    have HDF := Lib.hid hD
    have HR2 : Hid (RecAt W w.heap.size zR) := Lib.hid (HR1.out.upto hb (by have := HS1.out; omega))
    have HX2 : Hid (CellsAt W (w.heap.size + 1) [.bool false]) := Lib.hid (HX1.out.upto hb (by have := HS1.out; omega))
    have L16 : Hid (zR.b.length = 16) := Lib.hid rfl
    clear hx hb hD qf
    go_wp2_with (first | refine build_rec0 rfl rfl ?_ | (refine store_rec HR2 _ _ L16 rfl rfl rfl rfl (fun V HV HEV => ?_); have HXV : Hid (CellsAt V (w.heap.size + 1) [.bool false]) := Lib.hid (by rw [HV.out]; exact HX2.out.apart (by omega) _); have hcb2 := HXV.out.cell 0 _ rfl; have hfb2 := HXV.out.live 0 (by simp)))
    have hs := HS1.out
    refine FIN.out _ _ zR false rfl rfl (HEV.out.other (by omega) _ _) (HXV.out.set 0 _ (by simp)) ?_ ?_ (by rw [HNX2.out]; rfl)
    · rw [heap_setCell_otherM _ _ _ _ _ (by omega), HV.out, heap_setCells_other _ _ _ _ _ (by omega)]; exact HDF.out
    · refine (HBW.out.trans (HB2.out.mono (by omega))).trans ?_
      refine Below.setCell ?_ (by show w.heap.size ≤ w.heap.size + 1; omega) _
      rw [HV.out]
      exact below_cells (Nat.le_refl _) _ _ _ (Below.refl _ _)
  case stop =>
    rintro W ⟨r, h1, h2, h3, h4⟩ hD
    exact FIN.out W _ r true rfl rfl h2 h3 hD h4 (by rw [h1]; rfl)
end Go.Proofs.Ytedmkdjijhflnaa
/- The reference's layer 11: is an address among others? -/
namespace Go.Proofs.Ytedmkdjijhflnaa
open Go.RowKit
set_option linter.unusedVariables false
set_option maxRecDepth 20000

theorem hasA_step {D : List (Int × List Nat)} {r : Int × List Nat} {k : Nat} (hk : k < D.length) (h : ∀ j (hj : j < D.length), j < k → D[j] ≠ r) (hn : D[k] ≠ r) : ∀ j (hj : j < D.length), j < k + 1 → D[j] ≠ r := fun j hj h2 => by
  by_cases e : j < k
  · exact h j hj e
  · obtain rfl : j = k := by omega
    exact hn
end Go.Proofs.Ytedmkdjijhflnaa
/- slices.Index and slices.Contains at addresses. -/
namespace Go.Proofs.Ytedmkdjijhflnaa
open Go.RowKit
set_option linter.unusedVariables false
set_option maxRecDepth 20000

set_option maxRecDepth 100000 in
set_option maxHeartbeats 1000000 in
theorem index_any (a : Option Addr) (c : Nat) (D : List (Int × List Nat)) (r : Int × List Nat) (w : World) (hD : AdsAt w a c D) (h16 : r.2.length = 16) :
    Calls Try.prog 48 #[.slice a D.length c, addrV r.1 r.2] w fun e w' => (∃ i : Int, e = .returned (.int .i64 i) ∧ decide (0 ≤ i) = decide (r ∈ D)) ∧ Below w.heap.size w w' := by
  obtain ⟨cs, ecs, HBX⟩ := addr_boxed r.1 r.2 w h16
  have HA := HBX.1
  have H16 := Lib.hid h16
  have hmx : D.length ≤ maxLen := Nat.le_trans hD.1 hD.2.1
  unfold maxLen at hmx
  have hb0 : Below w.heap.size w (w.alloc (.cells cs 42)) := (Below.refl _ _).alloc (Nat.le_refl _) _
  have HD := Lib.hid (hD.below hb0)
  have HB0 := Lib.hid hb0
  obtain ⟨R, hR⟩ : ∃ R, decide (r ∈ D) = R := ⟨_, rfl⟩
  have HRR := Lib.hid hR
  rw [hR]
  obtain ⟨N, hN⟩ : ∃ N, D.length = N := ⟨_, rfl⟩
  have HN := Lib.hid hN
  rw [hN] at hmx ⊢
  obtain ⟨W, hW⟩ : ∃ W, w.alloc (.cells cs 42) = W := ⟨_, rfl⟩
  rw [hW] at HA HD HB0
  have HLT : True := trivial
  rw [ecs]
  clear ecs hD hR hN hb0 HBX h16
  go_enter Try.func48, Try.ntmps48
  go_upto_region 1 with fail
  try rw [hW]
  clear hW
  go_wp2_with fail
  go_loopw [5, 8] (fun _ i wr => ∃ k : Nat, k ≤ N ∧ i = .int .i64 (k : Int) ∧ Hid (∀ j (hj : j < D.length), j < k → D[j] ≠ r) ∧ Hid (Below W.heap.size W wr)) (fun _ i _ => N - (intOf i).toNat)
  case atStart => exact ⟨0, Nat.zero_le _, rfl, Lib.hid (fun j _ h => absurd h (by omega)), Lib.hid (Below.refl _ _)⟩
  case round =>
    obtain ⟨k, hk, rfl, HO, HB⟩ := hrel
    by_cases hkN : k < N
    · have hd : decide ((k : Int) < (N : Int)) = true := decide_eq_true (by omega)
      have hdn : decide (k < N) = true := decide_eq_true hkN
      have hkD : k < D.length := by rw [HN.out]; exact hkN
      have HBD := Lib.hid HB.out.drew
      obtain ⟨g, o, ha, hg, hrg⟩ := (HD.out.below HBD.out).at k hkD
      subst ha
      have hrb := (HA.out.below HBD.out).range
      have H17 := Lib.hid (HD.out.2.2.1 _ (List.getElem_mem hkD))
      have q := fun W => run_eq_addr r.1 D[k].1 r.2 D[k].2 W H16.out H17.out
      have hde : decide (r.1 = D[k].1 ∧ r.2 = D[k].2) = decide (D[k] = r) := by
        congr 1
        exact propext ⟨fun h => (Prod.ext h.1 h.2).symm, fun h => by rw [h]; exact ⟨rfl, rfl⟩⟩
      rw [hde] at q
      have HO2 : Hid (D[k] ≠ r → ∀ j (hj : j < D.length), j < k + 1 → D[j] ≠ r) := Lib.hid (hasA_step hkD HO.out)
      have HF : Hid (D[k] = r → R = true) := Lib.hid (fun e => by rw [← HRR.out]; exact decide_eq_true (by rw [← e]; exact List.getElem_mem hkD))
      have gd := guard_ad
      generalize D[k] = s at *
      have hb1 : (0 : Int) ≤ (k : Int) := by omega
      have hb2 : (k : Int) < (N : Int) := by omega
      obtain ⟨S, hS⟩ : ∃ S : World → Prop, (fun V => V.rangeAt g (o + k * 17) (adL s) ∧ V.rangeAt w.heap.size 0 (adL r)) = S := ⟨_, rfl⟩
      have C1 : Hid (∀ w', S w' → w'.rangeAt g (o + k * 17) (adL s)) := Lib.hid (fun w' h => by rw [← hS] at h; exact h.1)
      have C2 : Hid (∀ w', S w' → w'.rangeAt w.heap.size 0 (adL r)) := Lib.hid (fun w' h => by rw [← hS] at h; exact h.2)
      have HSS : Hid (S wr.drew) := Lib.hid (by rw [← hS]; exact ⟨hrg, hrb⟩)
      clear hS hrg hrb hg hde
      by_cases hrs : s = r
      · rw [decide_eq_true hrs] at q
        have ER := HF.out hrs
        subst ER
        clear HO2 HF HO hrs
        go_upto_region 4 with fail
        refine wp_region_noPanic ?_
        refine wp_region_held_drew (S := S) (by kernel_rfl) HSS.out (fun hHeld => ?_)
        refine wpAnyH_take (i := 0) rfl (by kernel_rfl) (by kernel_rfl) (by kernel_rfl) (fun _ _ _ h => h) (yields_ad H16 C2 (by rfl) _ rfl rfl) (by assumption) ?_
        try simp only [Act.put, List.getElem_toArray, List.getElem_cons_zero, List.setIfInBounds_toArray, List.set_cons_zero, List.set_cons_succ]
        refine wpAnyH_take (i := 1) (v := ?_) rfl (by kernel_rfl) (by kernel_rfl) (by kernel_rfl) (fun _ _ _ h => h) (Or.inl ⟨by rfl, ?_⟩) (by assumption) ?_
        rotate_left
        · (intro w hSw; go_simp; try (with_reducible rfl))
        try simp only [Act.put, List.getElem_toArray, List.getElem_cons_zero, List.getElem_cons_succ, List.setIfInBounds_toArray, List.set_cons_zero, List.set_cons_succ]
        refine wpAnyH_take (i := 2) (v := ?_) rfl (by kernel_rfl) (by kernel_rfl) (by kernel_rfl) (fun _ _ _ h => h) (Or.inl ⟨by rfl, ?_⟩) (by assumption) ?_
        rotate_left
        · (intro w hSw; go_simp; try (with_reducible rfl))
        try simp only [Act.put, List.getElem_toArray, List.getElem_cons_zero, List.getElem_cons_succ, List.setIfInBounds_toArray, List.set_cons_zero, List.set_cons_succ]
        refine wpAnyH_take (i := 3) (v := ?_) rfl (by kernel_rfl) (by kernel_rfl) (by kernel_rfl) (fun _ _ _ h => h) (Or.inl ⟨by rfl, ?_⟩) (by assumption) ?_
        rotate_left
        · (intro w hSw; go_simp; try (with_reducible rfl))
        try simp only [Act.put, List.getElem_toArray, List.getElem_cons_zero, List.getElem_cons_succ, List.setIfInBounds_toArray, List.set_cons_zero, List.set_cons_succ]
        refine wpAnyH_take (i := 4) rfl (by kernel_rfl) (by kernel_rfl) (by kernel_rfl) (fun _ _ _ h => h) (yields_ad H17 C1 (by rfl) _ rfl rfl) (by assumption) ?_
        try simp only [Act.put, List.getElem_toArray, List.getElem_cons_zero, List.getElem_cons_succ, List.setIfInBounds_toArray, List.set_cons_zero, List.set_cons_succ]
        refine wpAnyH_take (i := 5) (v := ?_) rfl (by kernel_rfl) (by kernel_rfl) (by kernel_rfl) (fun _ _ _ h => h) (Or.inl ⟨by rfl, ?_⟩) (by assumption) ?_
        rotate_left
        · (intro w hSw; go_simp; try (with_reducible rfl))
        try simp only [Act.put, List.getElem_toArray, List.getElem_cons_zero, List.getElem_cons_succ, List.setIfInBounds_toArray, List.set_cons_zero, List.set_cons_succ]
        refine wpAnyH_done (by kernel_rfl) ?_ _
        refine NoPanic.normal ?_
        clear q gd C1 C2 HSS hHeld
        go_wp2_with fail
        go_ret
        exact ⟨⟨_, rfl, decide_eq_true hb1⟩, chain HB0.out HBD.out⟩
      · rw [decide_eq_false hrs] at q
        have HO3 := Lib.hid (HO2.out hrs)
        clear HO2 HF HO hrs
        go_upto_region 4 with fail
        refine wp_region_noPanic ?_
        refine wp_region_held_drew (S := S) (by kernel_rfl) HSS.out (fun hHeld => ?_)
        refine wpAnyH_take (i := 0) rfl (by kernel_rfl) (by kernel_rfl) (by kernel_rfl) (fun _ _ _ h => h) (yields_ad H16 C2 (by rfl) _ rfl rfl) (by assumption) ?_
        try simp only [Act.put, List.getElem_toArray, List.getElem_cons_zero, List.setIfInBounds_toArray, List.set_cons_zero, List.set_cons_succ]
        refine wpAnyH_take (i := 1) (v := ?_) rfl (by kernel_rfl) (by kernel_rfl) (by kernel_rfl) (fun _ _ _ h => h) (Or.inl ⟨by rfl, ?_⟩) (by assumption) ?_
        rotate_left
        · (intro w hSw; go_simp; try (with_reducible rfl))
        try simp only [Act.put, List.getElem_toArray, List.getElem_cons_zero, List.getElem_cons_succ, List.setIfInBounds_toArray, List.set_cons_zero, List.set_cons_succ]
        refine wpAnyH_take (i := 2) (v := ?_) rfl (by kernel_rfl) (by kernel_rfl) (by kernel_rfl) (fun _ _ _ h => h) (Or.inl ⟨by rfl, ?_⟩) (by assumption) ?_
        rotate_left
        · (intro w hSw; go_simp; try (with_reducible rfl))
        try simp only [Act.put, List.getElem_toArray, List.getElem_cons_zero, List.getElem_cons_succ, List.setIfInBounds_toArray, List.set_cons_zero, List.set_cons_succ]
        refine wpAnyH_take (i := 3) (v := ?_) rfl (by kernel_rfl) (by kernel_rfl) (by kernel_rfl) (fun _ _ _ h => h) (Or.inl ⟨by rfl, ?_⟩) (by assumption) ?_
        rotate_left
        · (intro w hSw; go_simp; try (with_reducible rfl))
        try simp only [Act.put, List.getElem_toArray, List.getElem_cons_zero, List.getElem_cons_succ, List.setIfInBounds_toArray, List.set_cons_zero, List.set_cons_succ]
        refine wpAnyH_take (i := 4) rfl (by kernel_rfl) (by kernel_rfl) (by kernel_rfl) (fun _ _ _ h => h) (yields_ad H17 C1 (by rfl) _ rfl rfl) (by assumption) ?_
        try simp only [Act.put, List.getElem_toArray, List.getElem_cons_zero, List.getElem_cons_succ, List.setIfInBounds_toArray, List.set_cons_zero, List.set_cons_succ]
        refine wpAnyH_take (i := 5) (v := ?_) rfl (by kernel_rfl) (by kernel_rfl) (by kernel_rfl) (fun _ _ _ h => h) (Or.inl ⟨by rfl, ?_⟩) (by assumption) ?_
        rotate_left
        · (intro w hSw; go_simp; try (with_reducible rfl))
        try simp only [Act.put, List.getElem_toArray, List.getElem_cons_zero, List.getElem_cons_succ, List.setIfInBounds_toArray, List.set_cons_zero, List.set_cons_succ]
        refine wpAnyH_done (by kernel_rfl) ?_ _
        refine NoPanic.normal ?_
        clear q gd C1 C2 HSS hHeld
        go_wp2_with fail
        go_roundw
        case rel => exact ⟨k + 1, by omega, by go_num, HO3, HBD⟩
        case measure => simp [intOf]; omega
    · obtain rfl : k = N := by omega
      have hd : decide ((k : Int) < (k : Int)) = false := by simp
      have ER : R = false := by
        rw [← HRR.out]
        refine decide_eq_false (fun h => ?_)
        obtain ⟨j, hj, e⟩ := List.getElem_of_mem h
        exact HO.out j hj (by rw [← HN.out]; exact hj) e
      subst ER
      go_wp2_with fail
      go_ret
      exact ⟨⟨_, rfl, by decide⟩, chain HB0.out HB.out⟩
set_option maxRecDepth 100000 in
theorem contains_any (a : Option Addr) (c : Nat) (D : List (Int × List Nat)) (r : Int × List Nat) (w : World) (hD : AdsAt w a c D) (h16 : r.2.length = 16) :
    Calls Try.prog 37 #[.slice a D.length c, addrV r.1 r.2] w fun e w' => e = .returned (.bool (decide (r ∈ D))) ∧ Below w.heap.size w w' := by
  obtain ⟨cs, ecs, HBX⟩ := addr_boxed r.1 r.2 w h16
  have hb0 : Below w.heap.size w (w.alloc (.cells cs 42)) := (Below.refl _ _).alloc (Nat.le_refl _) _
  have HI := Lib.hid (index_any a c D r _ (hD.below hb0) h16)
  have HA := HBX.1
  have HB0 := Lib.hid hb0
  obtain ⟨R, hR⟩ : ∃ R, decide (r ∈ D) = R := ⟨_, rfl⟩
  rw [hR] at HI ⊢
  obtain ⟨N, hN⟩ : ∃ N, D.length = N := ⟨_, rfl⟩
  rw [hN] at HI ⊢
  have HE : Hid (addrV r.1 r.2 = .agg cs) := Lib.hid ecs
  rw [ecs]
  clear ecs hR hN hb0 HBX h16 hD
  go_enter Try.func37, Try.ntmps37
  go_upto_region 1 with fail
  generalize w.alloc (.cells cs 42) = W at *
  rw [HE.out] at HI
  have HE2 := HE.out
  go_wp2_with (first | (refine load_addr_g HA _ rfl rfl rfl ?_; rw [HE2]) | refine load_addr_g HA _ rfl rfl rfl ?_)
  refine HI.out.mono ?_
  rintro e w1 ⟨⟨i, rfl, hi⟩, hb⟩
  have HB := Lib.hid (chain HB0.out hb)
  clear hb HI
  subst hi
  go_wp2_with fail
  go_ret
  exact ⟨rfl, HB.out⟩
end Go.Proofs.Ytedmkdjijhflnaa
/- The builtin min at two integers, as one step. -/
namespace Go.Proofs.Ytedmkdjijhflnaa
open Go.RowKit
set_option linter.unusedVariables false
set_option maxRecDepth 20000

theorem run_min (w : World) (t : TypeId) (m n : Int) (ats : Array TypeId) : (Builtin.min_ ats t #[Value.int .i64 m, Value.int .i64 n]).run Try.prog w = .ok (.int .i64 (min m n)) w := by
  by_cases h : n < m
  · rw [show min m n = n by omega]
    simp [Builtin.min_, Builtin.min2, go_sem, h]
  · rw [show min m n = m by omega]
    simp [Builtin.min_, Builtin.min2, go_sem, h]
theorem min_step {ops : Array Oper} {rest : List Oper} {op : Oper} {a : Act} {w : World} {Q : Exit → Act → World → Prop} (hg : op.guard = none) (x y : Operand) {ats : Array TypeId} (ho : op.op = .call { callee := .builtin .min, args := #[x, y], argTypes := ats }) {m n : Int} (hx : a.eval x = .int .i64 m) (hy : a.eval y = .int .i64 n)
    (h : wpList Try.prog ops Q rest (a.put op.dst (.int .i64 (min m n))) w) : wpList Try.prog ops Q (op :: rest) a w := by
  refine wpList_plain hg fun K hK => ?_
  unfold Oper.wp execOp
  simp only [ho, resolve, invoke, builtin, Sem.run_bind, Sem.run_pure, Result.andThen_ok, List.map_toArray, List.map_cons, List.map_nil, hx, hy, run_min]
  exact hK _ _ h
theorem yields_min {ops : Array Oper} {S : World → Prop} {op : Oper} {a : Act} {ats : Array TypeId} (hw : Region.wanted op (yielded ops a.tmps) = true) (x y : Operand) (ho : op.op = .call { callee := .builtin .min, args := #[x, y], argTypes := ats }) {m n : Int} (hx : a.eval x = .int .i64 m) (hy : a.eval y = .int .i64 n) : YieldsIf Try.prog ops S op (.int .i64 (min m n)) a := by
  refine .inl ⟨hw, fun w _ => ?_⟩
  unfold execOp
  simp only [ho, resolve, invoke, builtin, Sem.run_bind, Sem.run_pure, Result.andThen_ok, List.map_toArray, List.map_cons, List.map_nil, hx, hy, run_min]
end Go.Proofs.Ytedmkdjijhflnaa
/- The reference's layer 11: a chain. -/
namespace Go.Proofs.Ytedmkdjijhflnaa
open Go.RowKit
set_option linter.unusedVariables false
set_option maxRecDepth 20000

/-- A row of texts of one's own. -/
def RowT (w : World) (base : Nat) (v : Value) (l : List ByteArray) : Prop := w.ownsRow base 9 1 v l.length (l.map Value.string)
theorem RowT.below {w w' : World} {base : Nat} {v : Value} {l : List ByteArray} (h : RowT w base v l) (hb : Below w.heap.size w w') : RowT w' base v l := own_below8 h hb
/-- A row that is not empty, and its last text. -/
theorem RowT.last {w : World} {base : Nat} {v : Value} {l : List ByteArray} {x : ByteArray} (h : RowT w base v (l ++ [x])) : ∃ g c, v = .slice (some ⟨g, 0, none⟩) (l.length + 1) c ∧ g < w.heap.size ∧ w.cell? ⟨g, l.length, none⟩ = some (.string x) := by
  obtain ⟨g, c, e, h1, h2⟩ := h.form (by simp)
  subst e
  have hl : (l ++ [x]).length = l.length + 1 := by simp
  have hc := own_cells (l := l ++ [x]) h l.length (by simp)
  rw [hl]
  exact ⟨g, c, rfl, h2, by rw [hc]; simp⟩
theorem RowT.one (w : World) (x : ByteArray) : RowT (w.alloc (.cells #[.string x] 9)) w.heap.size (.slice (some ⟨w.heap.size, 0, none⟩) 1 1) [x] :=
  ⟨rfl, .inr ⟨w.heap.size, 1, #[.string x], rfl, Nat.le_refl _, by show (w.heap.push _)[w.heap.size]? = _; simp, Nat.le_refl _, by decide, rfl, rfl⟩⟩
/-- What a chain hands back. -/
def ChainRet (w : World) (x : List ByteArray × Int × Bool) (e : Ending) (w' : World) : Prop :=
  ∃ v, e = .returned (.tuple #[v, .int .i64 x.2.1, .bool x.2.2]) ∧ RowT w' w.heap.size v x.1 ∧ Below w.heap.size w w'
set_option maxRecDepth 100000 in
set_option maxHeartbeats 2000000 in
theorem refChain11_any (a : Option Addr) (c : Nat) (D : List Rec) (nm : ByteArray) (most : Int) (w : World) (hA : RecsAt w a c D) (hD : All2 D) (hnm : nm.size ≤ 2000000) (hm : most ≤ 1000) :
    Calls Try.prog 10 #[.string nm, .slice a D.length c, .int .i64 most] w (ChainRet w (chainP D most.toNat nm 604800)) := by
  obtain ⟨i0, hi0, hz0, hz1, hz2⟩ := info_parts Try.infoString
  have HA := Lib.hid hA
  have HD := Lib.hid hD
  have HOF := fun (x : ByteArray) (W : World) (hx : x.size ≤ 2000000) (hb : Below w.heap.size w W) => Lib.hid (refOf11_any a c D x 5 0 W (hA.below hb) (Nat.zero_le _) hD.name hx)
  have hmx : D.length ≤ maxLen := Nat.le_trans hA.1 hA.2.1
  unfold maxLen at hmx
  obtain ⟨N, hN⟩ : ∃ N, D.length = N := ⟨_, rfl⟩
  have HN := Lib.hid hN
  have HNX := fun x => Lib.hid (ofR_next D x)
  rw [hN] at hmx HOF HNX ⊢
  obtain ⟨R, hR⟩ : ∃ R, chainP D most.toNat nm 604800 = R := ⟨_, rfl⟩
  have HR : Hid (RowT (w.alloc (.cells #[.string nm] 9)) w.heap.size (.slice (some ⟨w.heap.size, 0, none⟩) 1 1) [nm] ∧ Below w.heap.size w (w.alloc (.cells #[.string nm] 9))) := Lib.hid ⟨RowT.one _ _, (Below.refl _ _).alloc (Nat.le_refl _) _⟩
  have HRR := Lib.hid hR
  have HNM := Lib.hid hnm
  rw [hR]
  clear hR hA hN hD hnm
  go_enter Try.func10, Try.ntmps10
  go_wp2_with fail
  go_loopw [9, 10, 11] (fun v t i wr => ∃ (n : Nat) (pre : List ByteArray) (last : ByteArray) (T : Int), t = .int .i64 T ∧ n ≤ most.toNat ∧ Hid (pre.length + n = most.toNat ∧ last.size ≤ 2000000 ∧ (pre ++ (chainP D n last T).1, (chainP D n last T).2) = R) ∧ Hid (RowT wr w.heap.size v (pre ++ [last]) ∧ Below w.heap.size w wr)) (fun v _ _ _ => 2000 - (match v with | .slice _ n _ => n | _ => 0))
  case atStart => exact ⟨most.toNat, [], nm, 604800, rfl, Nat.le_refl _, Lib.hid ⟨by simp, HNM.out, by simpa using HRR.out⟩, HR⟩
  case round =>
    clear HR HRR
    obtain ⟨n, pre, last, T, rfl, hn, HI, HW⟩ := hrel
    obtain ⟨g, cap, rfl, hg, hlc⟩ := HW.out.1.last
    obtain ⟨L, hL⟩ : ∃ L, pre.length = L := ⟨_, rfl⟩
    have HL := Lib.hid hL
    have hLn : L + n = most.toNat := by rw [← hL]; exact HI.out.1
    have hLm : L ≤ 1000 := by omega
    rw [hL] at hlc ⊢
    have HO := HOF last wr HI.out.2.1 HW.out.2
    clear hL
    have hi1 : (0 : Int) ≤ (L : Int) := by omega
    have hi2 : (L : Int) < (L : Int) + 1 := by omega
    rcases (HNX last).out with ⟨j, r, hj, hjr, ej, enx⟩ | ⟨ej, enx⟩
    · have HE : Hid (n = 0 → (pre ++ [last], T, false) = R) := Lib.hid (fun e => by have := HI.out.2.2; rw [e, chain_zero enx] at this; exact this)
      have HS : Hid (∀ m, n = m + 1 → ((pre ++ [last]) ++ (chainP D m r.tg (min T r.ttl)).1, (chainP D m r.tg (min T r.ttl)).2) = R) := Lib.hid (fun m e => by have := HI.out.2.2; rw [e, chain_succ enx] at this; rw [← this]; simp)
      have HT : Hid (r.tg.size ≤ 2000000) := Lib.hid (HD.out r (next_mem enx).1).2
      rw [ej] at HO
      have hjN : j < N := hj
      have HJ : Hid (j < D.length) := Lib.hid (by rw [HN.out]; exact hj)
      have HJR := Lib.hid hjr
      have hneg : decide ((j : Int) < 0) = false := decide_eq_false (by omega)
      clear ej enx HNX HOF hj hjr
      go_wp2_with fail
      refine HO.out.mono ?_
      rintro e w1 ⟨rfl, hb⟩
      have HW1 : Hid (RowT w1 w.heap.size (.slice (some ⟨g, 0, none⟩) (L + 1) cap) (pre ++ [last]) ∧ Below w.heap.size w w1) := Lib.hid (by
        have h1 := HW.out.1.below hb
        rw [HL.out] at h1
        exact ⟨h1, chain HW.out.2 hb⟩)
      clear hb HO HW hlc
      by_cases hn0 : n = 0
      · have HE2 := Lib.hid (HE.out hn0)
        have hd : decide (most ≤ (L : Int)) = true := decide_eq_true (by omega)
        go_wp2_with fail
        go_ret3
        rw [← HE2.out]
        exact ⟨_, rfl, HW1.out.1, HW1.out.2⟩
      · obtain ⟨m, hm1⟩ : ∃ m, n = m + 1 := ⟨n - 1, by omega⟩
        have HS2 := Lib.hid (HS.out m hm1)
        have hd : decide (most ≤ (L : Int)) = false := decide_eq_false (by omega)
        obtain ⟨g2, o2, rfl, hg2, hr2⟩ := (HA.out.below HW1.out.2).at j HJ.out
        have hrr : D[j]'HJ.out = r := by have := HJR.out; rw [List.getElem?_eq_getElem HJ.out] at this; exact Option.some.inj this
        rw [hrr] at hr2
        have HP2 := Lib.hid (rec_parts hr2 (HA.out.2.2.1 r (List.mem_of_getElem? HJR.out)).1)
        have htg : w1.cell? ⟨g2, o2 + j * 23 + 21, none⟩ = some (.string r.tg) := HP2.out.tg
        have HOW := HW1.out.1
        unfold RowT at HOW
        have hll : (pre ++ [last]).length = L + 1 := by rw [List.length_append, HL.out]; rfl
        rw [hll] at HOW
        have hbs : w.heap.size ≤ w1.heap.size := HW1.out.2.size
        have hj1 : (0 : Int) ≤ (j : Int) := by omega
        have hj2 : (j : Int) < (N : Int) := by omega
        clear hr2 hrr hll
        go_wp2_with (at_builtin; refine wpList_append_own _ rfl (.tmp 33) (.tmp 39) 37 rfl w.heap.size 9 i0 _ 1 16 Try.underlying37 hi0 hz0 hz1 hz2 rfl (by decide) _ _ _ rfl (HOW.alloc _) ⟨w1.heap.size, 0, none⟩ 1 1 [.string r.tg] rfl rfl ?c1 ?c2 ?c3 ?c4 ?c5 ?_)
        case c1 => exact cell_one_new _ _ _
        case c2 => intro u hu; simp at hu; subst hu; rfl
        case c3 => unfold maxLen; omega
        case c4 => omega
        case c5 => simp; omega
        intro v' w2 hown' hgrow _
        have HB2 : Hid (Below w.heap.size w1 w2) := Lib.hid (((Below.refl _ _).alloc hbs _).grown hgrow (by simp; omega) (fun k hk => (HOW.lt k hk).1))
        have HW2 : Hid (RowT w2 w.heap.size v' ((pre ++ [last]) ++ [r.tg]) ∧ Below w.heap.size w w2) := Lib.hid ⟨by unfold RowT; simp only [List.length_append, List.length_cons, List.length_nil, List.map_append, List.map_cons, List.map_nil]; rw [HL.out]; simpa using hown', HW1.out.2.trans HB2.out⟩
        obtain ⟨g3, o3, e3, hg3, hr3⟩ := (HA.out.below HW2.out.2).at j HJ.out
        obtain ⟨rfl, rfl⟩ : g2 = g3 ∧ o2 = o3 := by injection e3 with h; injection h with h1 h2; exact ⟨h1, h2⟩
        have hrr : D[j]'HJ.out = r := by have := HJR.out; rw [List.getElem?_eq_getElem HJ.out] at this; exact Option.some.inj this
        rw [hrr] at hr3
        have httl : w2.cell? ⟨g2, o2 + j * 23 + 3, none⟩ = some (.int .i64 r.ttl) := (rec_parts hr3 (HA.out.2.2.1 r (List.mem_of_getElem? HJR.out)).1).ttl
        obtain ⟨g4, c4, rfl, _, _⟩ := HW2.out.1.last
        have hll : (pre ++ [last]).length = L + 1 := by rw [List.length_append, HL.out]; rfl
        rw [hll] at HW2 ⊢
        obtain ⟨mt, hmt⟩ : ∃ mt, min T r.ttl = mt := ⟨_, rfl⟩
        have HMT := Lib.hid hmt
        rw [hmt] at HS2
        clear hr3 hrr hgrow hown' htg e3 HOW HE HS hg3 hg2 HP2
        go_wp2_with fail
        go_roundw
        case rel => exact ⟨m, pre ++ [last], r.tg, mt, by first | rfl | (rw [← HMT.out]; go_num), by omega, Lib.hid ⟨by rw [hll]; omega, HT.out, HS2.out⟩, HW2⟩
        case measure => simp; omega
    · have HE : Hid ((pre ++ [last], T, true) = R) := Lib.hid (by have := HI.out.2.2; rw [chain_none enx] at this; exact this)
      rw [ej] at HO
      clear ej enx HNX HOF
      go_wp2_with fail
      refine HO.out.mono ?_
      rintro e w1 ⟨rfl, hb⟩
      have HW1 : Hid (RowT w1 w.heap.size (.slice (some ⟨g, 0, none⟩) (L + 1) cap) (pre ++ [last]) ∧ Below w.heap.size w w1) := Lib.hid (by
        have h1 := HW.out.1.below hb
        rw [HL.out] at h1
        exact ⟨h1, chain HW.out.2 hb⟩)
      clear hb HO HW hlc
      go_wp2_with fail
      go_ret3
      rw [← HE.out]
      exact ⟨_, rfl, HW1.out.1, HW1.out.2⟩
end Go.Proofs.Ytedmkdjijhflnaa
