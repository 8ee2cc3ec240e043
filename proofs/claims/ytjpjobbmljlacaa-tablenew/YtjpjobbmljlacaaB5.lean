/- Texts that belong together, one behind the other: TabSearch, CidrMasksMath, TabMath, TabFindMath, RangeKit, RangeLaw, TabBlk, TabDel, TabIns. -/
import Derived.Test.YtjpjobbmljlacaaB4
import Derived.RangeFuncCalls
import Derived.RangeFuncSeq
import Derived.RangeFuncIn
import Derived.OrdersIn
import Derived.TacticsIn
import Derived.Deep.RegionHeld3
import Derived.Lib.AppendZerosOnto
import Derived.Lib.Overlaps
import Derived.Laws.Externs
import Derived.Laws.IdiomCopy
/- Contract of slices.BinarySearchFunc over entries, by whatever comparison. -/
namespace Go.Proofs.Ytjpjobbmljlacaa
open Go.RowKit
set_option linter.unusedVariables false
set_option maxRecDepth 20000

/-- How many halvings lead to none. -/
def bl (n : Nat) : Nat := if h : n = 0 then 0 else bl (n / 2) + 1
termination_by n
theorem bl_zero : bl 0 = 0 := by unfold bl; rfl
theorem bl_pos {n : Nat} (h : 0 < n) : bl n = bl (n / 2) + 1 := by rw [bl, dif_neg (by omega)]
theorem bl_mono : ∀ n m : Nat, m ≤ n → bl m ≤ bl n := by
  intro n
  induction n using Nat.strongRecOn with
  | ind n ih =>
    intro m h
    by_cases h0 : m = 0
    · rw [h0, bl_zero]; omega
    · rw [bl_pos (n := m) (by omega), bl_pos (n := n) (by omega)]
      have := ih (n / 2) (by omega) (m / 2) (by omega)
      omega
theorem bl_half {n x : Nat} (h : 0 < n) (hx : x ≤ n / 2) : bl x + 1 ≤ bl n := by
  have := bl_mono (n / 2) x hx
  rw [bl_pos h]; omega
theorem bl_small {n : Nat} (h : n ≤ 1000) : bl n ≤ 10 := by
  have h2 := bl_mono 1000 n h
  have e : bl 1000 = 10 := by
    rw [bl_pos (by decide), bl_pos (by decide), bl_pos (by decide), bl_pos (by decide), bl_pos (by decide), bl_pos (by decide), bl_pos (by decide), bl_pos (by decide), bl_pos (by decide), bl_pos (by decide)]
    show bl 0 + 1 + 1 + 1 + 1 + 1 + 1 + 1 + 1 + 1 + 1 = 10
    rw [bl_zero]
  omega
/-- Ranges that lie there. -/
def HeldL (L : List (Nat × Nat × List Value)) (w : World) : Prop := ∀ x ∈ L, w.rangeAt x.1 x.2.1 x.2.2
theorem HeldL.drew {L : List (Nat × Nat × List Value)} {w : World} (h : HeldL L w) : HeldL L w.drew := h
theorem HeldL.get {L : List (Nat × Nat × List Value)} {w : World} {b o : Nat} {cs : List Value} (h : HeldL L w) (hm : (b, o, cs) ∈ L) : w.rangeAt b o cs := h _ hm
/-- A range within what is held. -/
def InL (L : List (Nat × Nat × List Value)) (G o : Nat) (cs : List Value) : Prop := ∀ w, HeldL L w → w.rangeAt G o cs
theorem yields_ent_l {ops : Array Oper} {op : Oper} {a : Act} {L : List (Nat × Nat × List Value)} {G o : Nat} {f : Int} {bs : List Nat} {n v : Int} (hl : Hid (bs.length = 16)) (hm : Hid (InL L G o (entL f bs n v))) (hw : Region.wanted op (yielded ops a.tmps) = true) (x : Operand) (ho : op.op = .load 42 x)
    (hx : a.eval x = .pointer (some ⟨G, o, none⟩)) : YieldsIf Try.prog ops (HeldL L) op (entV f bs n v) a :=
  yieldsIf_load_mid hw 42 x ho G o hx (entL f bs n v) _ (fun w h => hm.out w h) Try.underlying42 rfl (by rw [entT_size, entL_len f bs n v hl.out])
theorem yields_pref_l {ops : Array Oper} {op : Oper} {a : Act} {L : List (Nat × Nat × List Value)} {G o : Nat} {f : Int} {bs : List Nat} {n : Int} (hl : Hid (bs.length = 16)) (hm : Hid (InL L G o (prefL f bs n))) (hw : Region.wanted op (yielded ops a.tmps) = true) (x : Operand) (ho : op.op = .load 32 x)
    (hx : a.eval x = .pointer (some ⟨G, o, none⟩)) : YieldsIf Try.prog ops (HeldL L) op (prefV f bs n) a :=
  yieldsIf_load_mid hw 32 x ho G o hx (prefL f bs n) _ (fun w h => hm.out w h) Try.underlying32 rfl (by rw [pref_size, prefL_len f bs n hl.out])
/-- A comparison of the entries es with a prefix: what it answers, and what it counts. -/
def Cmps (q : Nat) (pre : Array Value) (f : Int) (bs : List Nat) (n : Int) (es : List Ent) (M : List Nat) (Inv : Nat → World → Prop) : Prop :=
  ∀ c W e, c ≤ 100 → e ∈ es → Inv c W → Calls Try.prog q (pre ++ #[entV e.f e.b (e.n : Int) e.v, prefV f bs n]) W fun x w' => x = .returned (.int .i64 (cmpE e f bs n)) ∧ Inv (c + 1) w' ∧ Foot M M W w'
/-- Where a prefix stands, or would stand, and whether it is there. -/
structure Place (es : List Ent) (f : Int) (bs : List Nat) (n : Int) (i : Nat) (b : Bool) : Prop where
  le : i ≤ es.length
  lo : ∀ t (h : t < es.length), t < i → cmpE es[t] f bs n < 0
  hi : ∀ t (h : t < es.length), i ≤ t → 0 ≤ cmpE es[t] f bs n
  is : b = true → ∃ h : i < es.length, cmpE es[i] f bs n = 0
  no : b = false → ∀ h : i < es.length, cmpE es[i] f bs n ≠ 0
/-- Entries in their row. -/
def SortedE (es : List Ent) : Prop := ∀ i j (hi : i < es.length) (hj : j < es.length), i < j → cmpP es[i].f es[i].b (es[i].n : Int) es[j].f es[j].b (es[j].n : Int) < 0
theorem mono_neg {es : List Ent} (hs : SortedE es) (hg : AllGood es) {f : Int} {bs : List Nat} {n : Int} (h16 : bs.length = 16) {a b : Nat} (ha : a < es.length) (hb : b < es.length) (hab : a ≤ b) (h : cmpE es[b] f bs n < 0) : cmpE es[a] f bs n < 0 := by
  rcases Nat.lt_or_eq_of_le hab with hlt | rfl
  · have h1 := hs a b ha hb hlt
    have l1 := (hg _ (List.getElem_mem ha)).1.len
    have l2 := (hg _ (List.getElem_mem hb)).1.len
    unfold cmpE at h ⊢
    have h2 := cmpP_trans _ _ _ _ _ _ _ _ _ l1 l2 h16 (Int.le_of_lt h1) (Int.le_of_lt h)
    rcases Int.lt_or_eq_of_le h2 with h3 | h3
    · exact h3
    · exfalso
      obtain ⟨e1, e2, e3⟩ := (cmpP_zero _ _ _ _ _ _ l1 h16).1 h3
      rw [← e1, ← e2, ← e3] at h
      have h4 := cmpP_neg es[a].f es[a].b (es[a].n : Int) es[b].f es[b].b (es[b].n : Int)
      omega
  · exact h
set_option maxRecDepth 100000 in
set_option maxHeartbeats 4000000 in
theorem search_any (q : Nat) (pre : Array Value) (eq : ∀ args w, (callFunc q args).run Try.prog w = .ok (.enter q args) w) (f : Int) (bs : List Nat) (n : Int) (g cap : Nat) (es : List Ent) (M : List Nat) (Inv : Nat → World → Prop) (w : World)
    (hr : w.rangeAt g 0 (flatE es)) (hgl : g < w.heap.size) (hgM : g ∉ M) (hM : ∀ k ∈ M, k < w.heap.size) (hle : es.length ≤ 1000) (hgood : AllGood es) (hsort : SortedE es) (h16 : bs.length = 16)
    (hcmp : Cmps q pre f bs n es M Inv) (hinv : ∀ c W W', Inv c W → Below W.heap.size W W' → Inv c W') (h0 : Inv 0 w) :
    Calls Try.prog 46 #[.slice (some ⟨g, 0, none⟩) es.length cap, prefV f bs n, .func (.func q) pre #[]] w fun e w' =>
      ∃ (i : Nat) (b : Bool) (c : Nat), e = .returned (.tuple #[.int .i64 (i : Int), .bool b]) ∧ Place es f bs n i b ∧ Inv c w' ∧ c ≤ bl es.length + 1 ∧ Foot M M w w' := by
  have H16 := Lib.hid h16
  have HG := Lib.hid hgood
  have HSO := Lib.hid hsort
  have HCM := Lib.hid hcmp
  have HIN := Lib.hid hinv
  have HMO : Hid (∀ (a b : Nat) (ha : a < es.length) (hb : b < es.length), a ≤ b → cmpE es[b] f bs n < 0 → cmpE es[a] f bs n < 0) := Lib.hid (fun a b ha hb hab h => mono_neg hsort hgood h16 ha hb hab h)
  obtain ⟨cs, ecs, HP, HB⟩ := pref_boxed f bs n w h16
  rw [ecs]
  have HV0 := Lib.hid (hinv 0 _ _ h0 HB.out)
  have HR := Lib.hid (range_belowB hr HB.out hgl)
  have HGL := Lib.hid hgl
  have HGM := Lib.hid hgM
  have HML := Lib.hid hM
  have HF0 := Lib.hid (Foot.ofBelow M HB.out)
  have HBM : Hid (w.heap.size ∉ M) := Lib.hid (fun e => by have := hM _ e; omega)
  obtain ⟨N, hN⟩ : ∃ N, es.length = N := ⟨_, rfl⟩
  rw [hN] at hle ⊢
  have HN := Lib.hid hN
  have hbl := Lib.hid (bl_small hle)
  clear ecs h16 hgood hsort hcmp hinv h0 hr hgl hgM hM HB hN
  go_enter Try.func46, Try.ntmps46
  go_upto_region 1 with fail
  have HWZ : Hid (w.heap.size < (w.alloc (.cells cs 32)).heap.size) := Lib.hid HP.out.addr.lt
  generalize (w.alloc (.cells cs 32)) = W at *
  go_wp2_with fail
  go_loopw [9, 10] (fun s9 s10 wr => ∃ lo hi c : Nat, s9 = .int .i64 (lo : Int) ∧ s10 = .int .i64 (hi : Int) ∧ lo ≤ hi ∧ hi ≤ N ∧ Hid (c + bl (hi - lo) ≤ bl N) ∧ Hid (Inv c wr) ∧ Hid (wr.rangeAt g 0 (flatE es)) ∧ Hid (PrefAt wr w.heap.size f bs n) ∧ Hid (Foot M M w wr) ∧
    Hid ((∀ t (h : t < es.length), t < lo → cmpE es[t] f bs n < 0) ∧ (∀ t (h : t < es.length), hi ≤ t → 0 ≤ cmpE es[t] f bs n))) (fun s9 s10 _ => (intOf s10).toNat - (intOf s9).toNat)
  case atStart => exact ⟨0, N, 0, rfl, rfl, Nat.zero_le _, Nat.le_refl _, Lib.hid (by rw [Nat.zero_add, Nat.sub_zero]; exact Nat.le_refl _), HV0, HR, HP, HF0, Lib.hid ⟨fun t _ h => absurd h (Nat.not_lt_zero _), fun t h h2 => absurd h (by rw [HN.out]; omega)⟩⟩
  case round =>
    clear HV0 HR HP HF0
    obtain ⟨lo, hi, c, rfl, rfl, hlh, hin, HCC, HV, HR, HP, HF, HI⟩ := hrel
    have HGW : Hid (g < wr.heap.size) := Lib.hid (Nat.lt_of_lt_of_le HGL.out HF.out.size)
    have HBW : Hid (w.heap.size < wr.heap.size) := Lib.hid HP.out.addr.lt
    obtain ⟨L, hL⟩ : ∃ L, [(g, 0, flatE es), (w.heap.size, 0, prefL f bs n)] = L := ⟨_, rfl⟩
    have HK : Hid (HeldL L wr) := Lib.hid (by rw [← hL]; intro x hx; rcases List.mem_cons.1 hx with rfl | hx; exact HR.out; rw [List.mem_singleton.1 hx]; exact HP.out.range)
    have MP : Hid (InL L w.heap.size 0 (prefL f bs n)) := Lib.hid (fun W h => h.get (by rw [← hL]; simp))
    have ME : Hid (∀ k (hk : k < es.length), InL L g (k * 19) (entL es[k].f es[k].b (es[k].n : Int) es[k].v)) := Lib.hid (fun k hk W h => range_ent (h.get (by rw [← hL]; simp)) HG.out k hk)
    have HKN : Hid (∀ W', Foot M M wr W' → HeldL L W') := Lib.hid (fun W' hf => by
      rw [← hL]
      intro x hx
      rcases List.mem_cons.1 hx with rfl | hx
      · exact range_foot hf HR.out HGW.out HGM.out
      · rw [List.mem_singleton.1 hx]; exact range_foot hf HP.out.range HBW.out HBM.out)
    have HKP : Hid (∀ W', Foot M M wr W' → PrefAt W' w.heap.size f bs n) := Lib.hid (fun W' hf => HP.out.foot hf HBM.out)
    have HKR : Hid (∀ W', Foot M M wr W' → W'.rangeAt g 0 (flatE es)) := Lib.hid (fun W' hf => range_foot hf HR.out HGW.out HGM.out)
    clear hL
    by_cases hlt : lo < hi
    · obtain ⟨h, hh⟩ : ∃ h, (lo + hi) / 2 = h := ⟨_, rfl⟩
      have hhN : h < es.length := by have := HN.out; omega
      have hd : decide ((lo : Int) < (hi : Int)) = true := by simp; omega
      have HCE := Lib.hid (HCM.out c wr.drew es[h] (by have := HCC.out; have := hbl.out; omega) (List.getElem_mem hhN) (HIN.out c _ _ HV.out (Below.refl _ _).drew))
      have L16 : Hid (es[h].b.length = 16) := Lib.hid (HG.out _ (List.getElem_mem hhN)).1.len
      have MEh := Lib.hid (ME.out h hhN)
      obtain ⟨y, hy⟩ : ∃ y, es[h] = y := ⟨_, rfl⟩
      rw [hy] at HCE L16 MEh
      have HY : Hid (es[h] = y) := Lib.hid hy
      clear hy HV HR HP HCM HIN ME
      obtain ⟨cv, hcv⟩ : ∃ cv, cmpE y f bs n = cv := ⟨_, rfl⟩
      rw [hcv] at HCE
      have HCV : Hid (cmpE y f bs n = cv) := Lib.hid hcv
      clear hcv
      have hsum : IntKind.i64.wrap ((lo : Int) + (hi : Int)) = ((lo + hi : Nat) : Int) := by rw [IntKind.wrap_i64]; omega
      have HH := Lib.hid hh
      go_upto_region 5 with fail
      rw [show ((lo : Int) + (hi : Int)) / 2 = ((h : Nat) : Int) by omega]
      have hhn : h < N := by omega
      have hb1 : (0 : Int) ≤ (h : Int) := by omega
      have hb2 : (h : Int) < (N : Int) := by omega
      have HD := Lib.hid HK.out.drew
      clear HK
      refine wp_region_noPanic ?_
      refine wp_region_held_drew (S := HeldL L) (by kernel_rfl) HD.out (fun hHeld => ?_)
      clear HD
      refine wpAnyH_take (i := 0) (v := ?_) rfl (by kernel_rfl) (by kernel_rfl) (by kernel_rfl) (fun _ _ _ h => h) (Or.inl ⟨by rfl, ?_⟩) (by assumption) ?_
      rotate_left
      · (intro w hSw; go_simp; try (with_reducible rfl))
      try simp only [Act.put, List.getElem_toArray, List.getElem_cons_zero, List.setIfInBounds_toArray, List.set_cons_zero, List.set_cons_succ]
      refine wpAnyH_take (i := 1) (v := ?_) rfl (by kernel_rfl) (by kernel_rfl) (by kernel_rfl) (fun _ _ _ h => h) (Or.inl ⟨by rfl, ?_⟩) (by assumption) ?_
      rotate_left
      · (intro w hSw; go_simp; try (with_reducible rfl))
      try simp only [Act.put, List.getElem_toArray, List.getElem_cons_zero, List.getElem_cons_succ, List.setIfInBounds_toArray, List.set_cons_zero, List.set_cons_succ]
      refine wpAnyH_take (i := 2) (v := ?_) rfl (by kernel_rfl) (by kernel_rfl) (by kernel_rfl) (fun _ _ _ h => h) (Or.inl ⟨by rfl, ?_⟩) (by assumption) ?_
      rotate_left
      · (intro w hSw; go_simp; try (with_reducible rfl))
      try simp only [Act.put, List.getElem_toArray, List.getElem_cons_zero, List.getElem_cons_succ, List.setIfInBounds_toArray, List.set_cons_zero, List.set_cons_succ]
      refine wpAnyH_take (i := 3) (v := ?_) rfl (by kernel_rfl) (by kernel_rfl) (by kernel_rfl) (fun _ _ _ h => h) (Or.inl ⟨by rfl, ?_⟩) (by assumption) ?_
      rotate_left
      · (intro w hSw; go_simp; try (with_reducible rfl))
      try simp only [Act.put, List.getElem_toArray, List.getElem_cons_zero, List.getElem_cons_succ, List.setIfInBounds_toArray, List.set_cons_zero, List.set_cons_succ]
      refine wpAnyH_take (i := 4) rfl (by kernel_rfl) (by kernel_rfl) (by kernel_rfl) (fun _ _ _ h => h) (yields_ent_l L16 MEh (by rfl) _ rfl rfl) (by assumption) ?_
      try simp only [Act.put, List.getElem_toArray, List.getElem_cons_zero, List.getElem_cons_succ, List.setIfInBounds_toArray, List.set_cons_zero, List.set_cons_succ]
      refine wpAnyH_take (i := 5) rfl (by kernel_rfl) (by kernel_rfl) (by kernel_rfl) (fun _ _ _ h => h) (yields_pref_l H16 MP (by rfl) _ rfl rfl) (by assumption) ?_
      try simp only [Act.put, List.getElem_toArray, List.getElem_cons_zero, List.getElem_cons_succ, List.setIfInBounds_toArray, List.set_cons_zero, List.set_cons_succ]
      refine wpAnyH_ready (rs := [6]) (by kernel_rfl) (by simp) ?_
      refine AllReadyH.cons rfl (fun K hK => ?_) AllReadyH.nil
      go_simp
      refine HCE.out.mono ?_
      rintro e w6 ⟨rfl, hv6, hf6⟩
      have hf7 : Foot M M wr w6 := (Foot.ofBelow M (Below.refl _ _).drew).trans hf6
      have HV6 := Lib.hid hv6
      have HF6 := Lib.hid hf7
      have hS6 := HKN.out w6 hf7
      have HP6 := Lib.hid (HKP.out w6 hf7)
      have HR6 := Lib.hid (HKR.out w6 hf7)
      clear hf6 hf7 hv6 HCE
      go_wp2_with fail
      refine hK.out _ _ hS6 (fun hHeld6 => ?_)
      clear hK K
      try simp only [Act.put, List.getElem_toArray, List.getElem_cons_zero, List.getElem_cons_succ, List.setIfInBounds_toArray, List.set_cons_zero, List.set_cons_succ]
      by_cases hneg : cv < 0
      · have hdn : decide (cv < 0) = true := by simp [hneg]
        refine wpAnyH_take (i := 7) (v := ?_) rfl (by kernel_rfl) (by kernel_rfl) (by kernel_rfl) (fun _ _ _ h => h) (Or.inl ⟨by rfl, ?_⟩) (by assumption) ?_
        rotate_left
        · (intro w hSw; go_simp; try (with_reducible rfl))
        try simp only [Act.put, List.getElem_toArray, List.getElem_cons_zero, List.getElem_cons_succ, List.setIfInBounds_toArray, List.set_cons_zero, List.set_cons_succ]
        refine wpAnyH_done (by kernel_rfl) ?_ _
        refine NoPanic.normal ?_
        go_wp2_with fail
        go_roundw
        case rel => exact ⟨h + 1, hi, c + 1, by go_num, rfl, by omega, hin, Lib.hid (by have h1 := HCC.out; have h2 := bl_half (n := hi - lo) (x := hi - (h + 1)) (by omega) (by omega); omega), HV6, HR6, HP6, Lib.hid (HF.out.trans HF6.out), Lib.hid ⟨fun t ht htl => HMO.out t h ht hhN (by omega) (by rw [HY.out, HCV.out]; exact hneg), HI.out.2⟩⟩
        case measure => simp [intOf]; omega
      · have hdn : decide (cv < 0) = false := by simp; omega
        refine wpAnyH_take (i := 7) (v := ?_) rfl (by kernel_rfl) (by kernel_rfl) (by kernel_rfl) (fun _ _ _ h => h) (Or.inl ⟨by rfl, ?_⟩) (by assumption) ?_
        rotate_left
        · (intro w hSw; go_simp; try (with_reducible rfl))
        try simp only [Act.put, List.getElem_toArray, List.getElem_cons_zero, List.getElem_cons_succ, List.setIfInBounds_toArray, List.set_cons_zero, List.set_cons_succ]
        refine wpAnyH_done (by kernel_rfl) ?_ _
        refine NoPanic.normal ?_
        go_wp2_with fail
        go_roundw
        case rel => exact ⟨lo, h, c + 1, rfl, rfl, by omega, by omega, Lib.hid (by have h1 := HCC.out; have h2 := bl_half (n := hi - lo) (x := h - lo) (by omega) (by omega); omega), HV6, HR6, HP6, Lib.hid (HF.out.trans HF6.out), Lib.hid ⟨HI.out.1, fun t ht htl => Int.not_lt.1 fun hc => hneg (by have := HMO.out h t hhN ht htl hc; rw [HY.out, HCV.out] at this; exact this)⟩⟩
        case measure => simp [intOf]; omega
    · obtain rfl : hi = lo := by omega
      clear HBW HGW
      have hd : decide ((hi : Int) < (hi : Int)) = false := by simp
      by_cases hn : hi < N
      · have hhN : hi < es.length := by have := HN.out; omega
        have hdN : decide ((hi : Int) < (N : Int)) = true := by simp; omega
        have HCE := Lib.hid (HCM.out c wr.drew es[hi] (by have := HCC.out; have := hbl.out; omega) (List.getElem_mem hhN) (HIN.out c _ _ HV.out (Below.refl _ _).drew))
        have L16 : Hid (es[hi].b.length = 16) := Lib.hid (HG.out _ (List.getElem_mem hhN)).1.len
        have MEh := Lib.hid (ME.out hi hhN)
        obtain ⟨y, hy⟩ : ∃ y, es[hi] = y := ⟨_, rfl⟩
        rw [hy] at HCE L16 MEh
        have HY : Hid (es[hi] = y) := Lib.hid hy
        clear hy HV HR HP HCM HIN ME
        obtain ⟨cv, hcv⟩ : ∃ cv, cmpE y f bs n = cv := ⟨_, rfl⟩
        rw [hcv] at HCE
        have HCV : Hid (cmpE y f bs n = cv) := Lib.hid hcv
        clear hcv
        have HD := Lib.hid HK.out.drew
        clear HK
        go_upto_region 8 with fail
        have hb1 : (0 : Int) ≤ (hi : Int) := by omega
        have hb2 : (hi : Int) < (N : Int) := by omega
        refine wp_region_noPanic ?_
        refine wp_region_held_drew (S := HeldL L) (by kernel_rfl) HD.out (fun hHeld => ?_)
        clear HD
        refine wpAnyH_take (i := 0) (v := ?_) rfl (by kernel_rfl) (by kernel_rfl) (by kernel_rfl) (fun _ _ _ h => h) (Or.inl ⟨by rfl, ?_⟩) (by assumption) ?_
        rotate_left
        · (intro w hSw; go_simp; try (with_reducible rfl))
        try simp only [Act.put, List.getElem_toArray, List.getElem_cons_zero, List.setIfInBounds_toArray, List.set_cons_zero, List.set_cons_succ]
        refine wpAnyH_take (i := 1) (v := ?_) rfl (by kernel_rfl) (by kernel_rfl) (by kernel_rfl) (fun _ _ _ h => h) (Or.inl ⟨by rfl, ?_⟩) (by assumption) ?_
        rotate_left
        · (intro w hSw; go_simp; try (with_reducible rfl))
        try simp only [Act.put, List.getElem_toArray, List.getElem_cons_zero, List.getElem_cons_succ, List.setIfInBounds_toArray, List.set_cons_zero, List.set_cons_succ]
        refine wpAnyH_take (i := 2) (v := ?_) rfl (by kernel_rfl) (by kernel_rfl) (by kernel_rfl) (fun _ _ _ h => h) (Or.inl ⟨by rfl, ?_⟩) (by assumption) ?_
        rotate_left
        · (intro w hSw; go_simp; try (with_reducible rfl))
        try simp only [Act.put, List.getElem_toArray, List.getElem_cons_zero, List.getElem_cons_succ, List.setIfInBounds_toArray, List.set_cons_zero, List.set_cons_succ]
        refine wpAnyH_take (i := 3) (v := ?_) rfl (by kernel_rfl) (by kernel_rfl) (by kernel_rfl) (fun _ _ _ h => h) (Or.inl ⟨by rfl, ?_⟩) (by assumption) ?_
        rotate_left
        · (intro w hSw; go_simp; try (with_reducible rfl))
        try simp only [Act.put, List.getElem_toArray, List.getElem_cons_zero, List.getElem_cons_succ, List.setIfInBounds_toArray, List.set_cons_zero, List.set_cons_succ]
        refine wpAnyH_take (i := 4) (v := ?_) rfl (by kernel_rfl) (by kernel_rfl) (by kernel_rfl) (fun _ _ _ h => h) (Or.inl ⟨by rfl, ?_⟩) (by assumption) ?_
        rotate_left
        · (intro w hSw; go_simp; try (with_reducible rfl))
        try simp only [Act.put, List.getElem_toArray, List.getElem_cons_zero, List.getElem_cons_succ, List.setIfInBounds_toArray, List.set_cons_zero, List.set_cons_succ]
        refine wpAnyH_take (i := 5) (v := ?_) rfl (by kernel_rfl) (by kernel_rfl) (by kernel_rfl) (fun _ _ _ h => h) (Or.inl ⟨by rfl, ?_⟩) (by assumption) ?_
        rotate_left
        · (intro w hSw; go_simp; try (with_reducible rfl))
        try simp only [Act.put, List.getElem_toArray, List.getElem_cons_zero, List.getElem_cons_succ, List.setIfInBounds_toArray, List.set_cons_zero, List.set_cons_succ]
        refine wpAnyH_take (i := 6) (v := ?_) rfl (by kernel_rfl) (by kernel_rfl) (by kernel_rfl) (fun _ _ _ h => h) (Or.inl ⟨by rfl, ?_⟩) (by assumption) ?_
        rotate_left
        · (intro w hSw; go_simp; try (with_reducible rfl))
        try simp only [Act.put, List.getElem_toArray, List.getElem_cons_zero, List.getElem_cons_succ, List.setIfInBounds_toArray, List.set_cons_zero, List.set_cons_succ]
        refine wpAnyH_take (i := 7) (v := ?_) rfl (by kernel_rfl) (by kernel_rfl) (by kernel_rfl) (fun _ _ _ h => h) (Or.inl ⟨by rfl, ?_⟩) (by assumption) ?_
        rotate_left
        · (intro w hSw; go_simp; try (with_reducible rfl))
        try simp only [Act.put, List.getElem_toArray, List.getElem_cons_zero, List.getElem_cons_succ, List.setIfInBounds_toArray, List.set_cons_zero, List.set_cons_succ]
        refine wpAnyH_take (i := 8) (v := ?_) rfl (by kernel_rfl) (by kernel_rfl) (by kernel_rfl) (fun _ _ _ h => h) (Or.inl ⟨by rfl, ?_⟩) (by assumption) ?_
        rotate_left
        · (intro w hSw; go_simp; try (with_reducible rfl))
        try simp only [Act.put, List.getElem_toArray, List.getElem_cons_zero, List.getElem_cons_succ, List.setIfInBounds_toArray, List.set_cons_zero, List.set_cons_succ]
        refine wpAnyH_take (i := 9) rfl (by kernel_rfl) (by kernel_rfl) (by kernel_rfl) (fun _ _ _ h => h) (yields_ent_l L16 MEh (by rfl) _ rfl rfl) (by assumption) ?_
        try simp only [Act.put, List.getElem_toArray, List.getElem_cons_zero, List.getElem_cons_succ, List.setIfInBounds_toArray, List.set_cons_zero, List.set_cons_succ]
        refine wpAnyH_take (i := 10) rfl (by kernel_rfl) (by kernel_rfl) (by kernel_rfl) (fun _ _ _ h => h) (yields_pref_l H16 MP (by rfl) _ rfl rfl) (by assumption) ?_
        try simp only [Act.put, List.getElem_toArray, List.getElem_cons_zero, List.getElem_cons_succ, List.setIfInBounds_toArray, List.set_cons_zero, List.set_cons_succ]
        refine wpAnyH_ready (rs := [11]) (by kernel_rfl) (by simp) ?_
        refine AllReadyH.cons rfl (fun K hK => ?_) AllReadyH.nil
        go_simp
        refine HCE.out.mono ?_
        rintro e w6 ⟨rfl, hv6, hf6⟩
        have hf7 : Foot M M wr w6 := (Foot.ofBelow M (Below.refl _ _).drew).trans hf6
        have HV6 := Lib.hid hv6
        have HF6 := Lib.hid hf7
        have hS6 := HKN.out w6 hf7
        clear hf6 hf7 hv6 HCE
        go_wp2_with fail
        refine hK.out _ _ hS6 (fun hHeld6 => ?_)
        clear hK K
        try simp only [Act.put, List.getElem_toArray, List.getElem_cons_zero, List.getElem_cons_succ, List.setIfInBounds_toArray, List.set_cons_zero, List.set_cons_succ]
        obtain ⟨b, hb⟩ : ∃ b, (cv == 0) = b := ⟨_, rfl⟩
        refine wpAnyH_take (i := 12) (v := ?_) rfl (by kernel_rfl) (by kernel_rfl) (by kernel_rfl) (fun _ _ _ h => h) (Or.inl ⟨by rfl, ?_⟩) (by assumption) ?_
        rotate_left
        · (intro w hSw; go_simp; try (with_reducible rfl))
        try simp only [Act.put, List.getElem_toArray, List.getElem_cons_zero, List.getElem_cons_succ, List.setIfInBounds_toArray, List.set_cons_zero, List.set_cons_succ]
        refine wpAnyH_take (i := 13) (v := ?_) rfl (by kernel_rfl) (by kernel_rfl) (by kernel_rfl) (fun _ _ _ h => h) (Or.inl ⟨by rfl, ?_⟩) (by assumption) ?_
        rotate_left
        · (intro w hSw; go_simp; try (with_reducible rfl))
        try simp only [Act.put, List.getElem_toArray, List.getElem_cons_zero, List.getElem_cons_succ, List.setIfInBounds_toArray, List.set_cons_zero, List.set_cons_succ]
        refine wpAnyH_take (i := 14) (v := ?_) rfl (by kernel_rfl) (by kernel_rfl) (by kernel_rfl) (fun _ _ _ h => h) (Or.inl ⟨by rfl, ?_⟩) (by assumption) ?_
        rotate_left
        · (intro w hSw; go_simp; try (with_reducible rfl))
        try simp only [Act.put, List.getElem_toArray, List.getElem_cons_zero, List.getElem_cons_succ, List.setIfInBounds_toArray, List.set_cons_zero, List.set_cons_succ]
        refine wpAnyH_take (i := 15) (v := ?_) rfl (by kernel_rfl) (by kernel_rfl) (by kernel_rfl) (fun _ _ _ h => h) (Or.inl ⟨by rfl, ?_⟩) (by assumption) ?_
        rotate_left
        · (intro w hSw; go_simp; try (with_reducible rfl))
        try simp only [Act.put, List.getElem_toArray, List.getElem_cons_zero, List.getElem_cons_succ, List.setIfInBounds_toArray, List.set_cons_zero, List.set_cons_succ]
        refine wpAnyH_done (by kernel_rfl) ?_ _
        refine NoPanic.normal ?_
        go_wp2_with fail
        go_ret2
        refine ⟨hi, b, c + 1, rfl, ⟨by omega, HI.out.1, HI.out.2, fun e => ⟨hhN, ?_⟩, fun e h => ?_⟩, HV6.out, ?_, HF.out.trans HF6.out⟩
        · rw [HY.out, HCV.out]; rw [e] at hb; simpa using hb
        · rw [HY.out, HCV.out]; rw [e] at hb; simpa using hb
        · have := HCC.out; omega
      · have hdN : decide ((hi : Int) < (N : Int)) = false := by simp; omega
        have HD := Lib.hid HK.out.drew
        have HVD := Lib.hid (HIN.out c _ _ HV.out (Below.refl _ _).drew)
        clear HK HV HR HP HCM HIN ME
        go_upto_region 8 with fail
        refine wp_region_noPanic ?_
        refine wp_region_held_drew (S := HeldL L) (by kernel_rfl) HD.out (fun hHeld => ?_)
        clear HD
        refine wpAnyH_take (i := 0) (v := ?_) rfl (by kernel_rfl) (by kernel_rfl) (by kernel_rfl) (fun _ _ _ h => h) (Or.inl ⟨by rfl, ?_⟩) (by assumption) ?_
        rotate_left
        · (intro w hSw; go_simp; try (with_reducible rfl))
        try simp only [Act.put, List.getElem_toArray, List.getElem_cons_zero, List.setIfInBounds_toArray, List.set_cons_zero, List.set_cons_succ]
        refine wpAnyH_take (i := 1) (v := ?_) rfl (by kernel_rfl) (by kernel_rfl) (by kernel_rfl) (fun _ _ _ h => h) (Or.inl ⟨by rfl, ?_⟩) (by assumption) ?_
        rotate_left
        · (intro w hSw; go_simp; try (with_reducible rfl))
        try simp only [Act.put, List.getElem_toArray, List.getElem_cons_zero, List.getElem_cons_succ, List.setIfInBounds_toArray, List.set_cons_zero, List.set_cons_succ]
        refine wpAnyH_take (i := 2) (v := ?_) rfl (by kernel_rfl) (by kernel_rfl) (by kernel_rfl) (fun _ _ _ h => h) (Or.inl ⟨by rfl, ?_⟩) (by assumption) ?_
        rotate_left
        · (intro w hSw; go_simp; try (with_reducible rfl))
        try simp only [Act.put, List.getElem_toArray, List.getElem_cons_zero, List.getElem_cons_succ, List.setIfInBounds_toArray, List.set_cons_zero, List.set_cons_succ]
        refine wpAnyH_take (i := 3) (v := ?_) rfl (by kernel_rfl) (by kernel_rfl) (by kernel_rfl) (fun _ _ _ h => h) (Or.inl ⟨by rfl, ?_⟩) (by assumption) ?_
        rotate_left
        · (intro w hSw; go_simp; try (with_reducible rfl))
        try simp only [Act.put, List.getElem_toArray, List.getElem_cons_zero, List.getElem_cons_succ, List.setIfInBounds_toArray, List.set_cons_zero, List.set_cons_succ]
        refine wpAnyH_take (i := 4) (v := ?_) rfl (by kernel_rfl) (by kernel_rfl) (by kernel_rfl) (fun _ _ _ h => h) (Or.inl ⟨by rfl, ?_⟩) (by assumption) ?_
        rotate_left
        · (intro w hSw; go_simp; try (with_reducible rfl))
        try simp only [Act.put, List.getElem_toArray, List.getElem_cons_zero, List.getElem_cons_succ, List.setIfInBounds_toArray, List.set_cons_zero, List.set_cons_succ]
        refine wpAnyH_take (i := 5) (v := undef) rfl (by kernel_rfl) (by kernel_rfl) (by kernel_rfl) (fun _ _ _ h => h) (Or.inr ⟨by rfl, rfl⟩) (by assumption) ?_
        try simp only [Act.put, List.getElem_toArray, List.getElem_cons_zero, List.getElem_cons_succ, List.setIfInBounds_toArray, List.set_cons_zero, List.set_cons_succ]
        refine wpAnyH_take (i := 6) (v := undef) rfl (by kernel_rfl) (by kernel_rfl) (by kernel_rfl) (fun _ _ _ h => h) (Or.inr ⟨by rfl, rfl⟩) (by assumption) ?_
        try simp only [Act.put, List.getElem_toArray, List.getElem_cons_zero, List.getElem_cons_succ, List.setIfInBounds_toArray, List.set_cons_zero, List.set_cons_succ]
        refine wpAnyH_take (i := 7) (v := undef) rfl (by kernel_rfl) (by kernel_rfl) (by kernel_rfl) (fun _ _ _ h => h) (Or.inr ⟨by rfl, rfl⟩) (by assumption) ?_
        try simp only [Act.put, List.getElem_toArray, List.getElem_cons_zero, List.getElem_cons_succ, List.setIfInBounds_toArray, List.set_cons_zero, List.set_cons_succ]
        refine wpAnyH_take (i := 8) (v := undef) rfl (by kernel_rfl) (by kernel_rfl) (by kernel_rfl) (fun _ _ _ h => h) (Or.inr ⟨by rfl, rfl⟩) (by assumption) ?_
        try simp only [Act.put, List.getElem_toArray, List.getElem_cons_zero, List.getElem_cons_succ, List.setIfInBounds_toArray, List.set_cons_zero, List.set_cons_succ]
        refine wpAnyH_take (i := 9) (v := undef) rfl (by kernel_rfl) (by kernel_rfl) (by kernel_rfl) (fun _ _ _ h => h) (Or.inr ⟨by rfl, rfl⟩) (by assumption) ?_
        try simp only [Act.put, List.getElem_toArray, List.getElem_cons_zero, List.getElem_cons_succ, List.setIfInBounds_toArray, List.set_cons_zero, List.set_cons_succ]
        refine wpAnyH_take (i := 10) (v := undef) rfl (by kernel_rfl) (by kernel_rfl) (by kernel_rfl) (fun _ _ _ h => h) (Or.inr ⟨by rfl, rfl⟩) (by assumption) ?_
        try simp only [Act.put, List.getElem_toArray, List.getElem_cons_zero, List.getElem_cons_succ, List.setIfInBounds_toArray, List.set_cons_zero, List.set_cons_succ]
        refine wpAnyH_take (i := 11) (v := undef) rfl (by kernel_rfl) (by kernel_rfl) (by kernel_rfl) (fun _ _ _ h => h) (Or.inr ⟨by rfl, rfl⟩) (by assumption) ?_
        try simp only [Act.put, List.getElem_toArray, List.getElem_cons_zero, List.getElem_cons_succ, List.setIfInBounds_toArray, List.set_cons_zero, List.set_cons_succ]
        refine wpAnyH_take (i := 12) (v := undef) rfl (by kernel_rfl) (by kernel_rfl) (by kernel_rfl) (fun _ _ _ h => h) (Or.inr ⟨by rfl, rfl⟩) (by assumption) ?_
        try simp only [Act.put, List.getElem_toArray, List.getElem_cons_zero, List.getElem_cons_succ, List.setIfInBounds_toArray, List.set_cons_zero, List.set_cons_succ]
        refine wpAnyH_take (i := 13) (v := ?_) rfl (by kernel_rfl) (by kernel_rfl) (by kernel_rfl) (fun _ _ _ h => h) (Or.inl ⟨by rfl, ?_⟩) (by assumption) ?_
        rotate_left
        · (intro w hSw; go_simp; try (with_reducible rfl))
        try simp only [Act.put, List.getElem_toArray, List.getElem_cons_zero, List.getElem_cons_succ, List.setIfInBounds_toArray, List.set_cons_zero, List.set_cons_succ]
        refine wpAnyH_take (i := 14) (v := ?_) rfl (by kernel_rfl) (by kernel_rfl) (by kernel_rfl) (fun _ _ _ h => h) (Or.inl ⟨by rfl, ?_⟩) (by assumption) ?_
        rotate_left
        · (intro w hSw; go_simp; try (with_reducible rfl))
        try simp only [Act.put, List.getElem_toArray, List.getElem_cons_zero, List.getElem_cons_succ, List.setIfInBounds_toArray, List.set_cons_zero, List.set_cons_succ]
        refine wpAnyH_take (i := 15) (v := ?_) rfl (by kernel_rfl) (by kernel_rfl) (by kernel_rfl) (fun _ _ _ h => h) (Or.inl ⟨by rfl, ?_⟩) (by assumption) ?_
        rotate_left
        · (intro w hSw; go_simp; try (with_reducible rfl))
        try simp only [Act.put, List.getElem_toArray, List.getElem_cons_zero, List.getElem_cons_succ, List.setIfInBounds_toArray, List.set_cons_zero, List.set_cons_succ]
        refine wpAnyH_done (by kernel_rfl) ?_ _
        refine NoPanic.normal ?_
        go_wp2_with fail
        go_ret2
        refine ⟨hi, false, c, rfl, ⟨by have := HN.out; omega, HI.out.1, HI.out.2, (fun e => by cases e), fun _ h => absurd h (by have := HN.out; omega)⟩, HVD.out, ?_, HF.out.trans (Foot.ofBelow M (Below.refl _ _).drew)⟩
        have := HCC.out; omega
theorem place_nil (f : Int) (bs : List Nat) (n : Int) : Place [] f bs n 0 false := ⟨Nat.le_refl _, fun t h => absurd h (by simp), fun t h => absurd h (by simp), (fun e => by cases e), fun _ h => absurd h (by simp)⟩
set_option maxRecDepth 100000 in
set_option maxHeartbeats 2000000 in
theorem search_nil (fv : Value) (f : Int) (bs : List Nat) (n : Int) (w : World) (h16 : bs.length = 16) :
    Calls Try.prog 46 #[.slice none 0 0, prefV f bs n, fv] w fun e w' =>
      e = .returned (.tuple #[.int .i64 0, .bool false]) ∧ Below w.heap.size w w' := by
  obtain ⟨cs, ecs, HP, HB⟩ := pref_boxed f bs n w h16
  rw [ecs]
  clear ecs h16
  go_enter Try.func46, Try.ntmps46
  go_upto_region 1 with fail
  generalize (w.alloc (.cells cs 32)) = W at *
  go_wp2_with fail
  go_loop [9, 10] (fun i j => i = .int .i64 0 ∧ j = .int .i64 0) (fun _ _ => 0)
  case atStart => exact ⟨rfl, rfl⟩
  case round =>
    obtain ⟨rfl, rfl⟩ := hrel
    have HD : Hid (HeldL [] W.drew) := Lib.hid (fun x hx => by cases hx)
    go_upto_region 8 with fail
    refine wp_region_noPanic ?_
    refine wp_region_held_drew (S := HeldL []) (by kernel_rfl) HD.out (fun hHeld => ?_)
    clear HD
    refine wpAnyH_take (i := 0) (v := ?_) rfl (by kernel_rfl) (by kernel_rfl) (by kernel_rfl) (fun _ _ _ h => h) (Or.inl ⟨by rfl, ?_⟩) (by assumption) ?_
    rotate_left
    · (intro w hSw; go_simp; try (with_reducible rfl))
    try simp only [Act.put, List.getElem_toArray, List.getElem_cons_zero, List.setIfInBounds_toArray, List.set_cons_zero, List.set_cons_succ]
    refine wpAnyH_take (i := 1) (v := ?_) rfl (by kernel_rfl) (by kernel_rfl) (by kernel_rfl) (fun _ _ _ h => h) (Or.inl ⟨by rfl, ?_⟩) (by assumption) ?_
    rotate_left
    · (intro w hSw; go_simp; try (with_reducible rfl))
    try simp only [Act.put, List.getElem_toArray, List.getElem_cons_zero, List.getElem_cons_succ, List.setIfInBounds_toArray, List.set_cons_zero, List.set_cons_succ]
    refine wpAnyH_take (i := 2) (v := ?_) rfl (by kernel_rfl) (by kernel_rfl) (by kernel_rfl) (fun _ _ _ h => h) (Or.inl ⟨by rfl, ?_⟩) (by assumption) ?_
    rotate_left
    · (intro w hSw; go_simp; try (with_reducible rfl))
    try simp only [Act.put, List.getElem_toArray, List.getElem_cons_zero, List.getElem_cons_succ, List.setIfInBounds_toArray, List.set_cons_zero, List.set_cons_succ]
    refine wpAnyH_take (i := 3) (v := ?_) rfl (by kernel_rfl) (by kernel_rfl) (by kernel_rfl) (fun _ _ _ h => h) (Or.inl ⟨by rfl, ?_⟩) (by assumption) ?_
    rotate_left
    · (intro w hSw; go_simp; try (with_reducible rfl))
    try simp only [Act.put, List.getElem_toArray, List.getElem_cons_zero, List.getElem_cons_succ, List.setIfInBounds_toArray, List.set_cons_zero, List.set_cons_succ]
    refine wpAnyH_take (i := 4) (v := ?_) rfl (by kernel_rfl) (by kernel_rfl) (by kernel_rfl) (fun _ _ _ h => h) (Or.inl ⟨by rfl, ?_⟩) (by assumption) ?_
    rotate_left
    · (intro w hSw; go_simp; try (with_reducible rfl))
    try simp only [Act.put, List.getElem_toArray, List.getElem_cons_zero, List.getElem_cons_succ, List.setIfInBounds_toArray, List.set_cons_zero, List.set_cons_succ]
    refine wpAnyH_take (i := 5) (v := undef) rfl (by kernel_rfl) (by kernel_rfl) (by kernel_rfl) (fun _ _ _ h => h) (Or.inr ⟨by rfl, rfl⟩) (by assumption) ?_
    try simp only [Act.put, List.getElem_toArray, List.getElem_cons_zero, List.getElem_cons_succ, List.setIfInBounds_toArray, List.set_cons_zero, List.set_cons_succ]
    refine wpAnyH_take (i := 6) (v := undef) rfl (by kernel_rfl) (by kernel_rfl) (by kernel_rfl) (fun _ _ _ h => h) (Or.inr ⟨by rfl, rfl⟩) (by assumption) ?_
    try simp only [Act.put, List.getElem_toArray, List.getElem_cons_zero, List.getElem_cons_succ, List.setIfInBounds_toArray, List.set_cons_zero, List.set_cons_succ]
    refine wpAnyH_take (i := 7) (v := undef) rfl (by kernel_rfl) (by kernel_rfl) (by kernel_rfl) (fun _ _ _ h => h) (Or.inr ⟨by rfl, rfl⟩) (by assumption) ?_
    try simp only [Act.put, List.getElem_toArray, List.getElem_cons_zero, List.getElem_cons_succ, List.setIfInBounds_toArray, List.set_cons_zero, List.set_cons_succ]
    refine wpAnyH_take (i := 8) (v := undef) rfl (by kernel_rfl) (by kernel_rfl) (by kernel_rfl) (fun _ _ _ h => h) (Or.inr ⟨by rfl, rfl⟩) (by assumption) ?_
    try simp only [Act.put, List.getElem_toArray, List.getElem_cons_zero, List.getElem_cons_succ, List.setIfInBounds_toArray, List.set_cons_zero, List.set_cons_succ]
    refine wpAnyH_take (i := 9) (v := undef) rfl (by kernel_rfl) (by kernel_rfl) (by kernel_rfl) (fun _ _ _ h => h) (Or.inr ⟨by rfl, rfl⟩) (by assumption) ?_
    try simp only [Act.put, List.getElem_toArray, List.getElem_cons_zero, List.getElem_cons_succ, List.setIfInBounds_toArray, List.set_cons_zero, List.set_cons_succ]
    refine wpAnyH_take (i := 10) (v := undef) rfl (by kernel_rfl) (by kernel_rfl) (by kernel_rfl) (fun _ _ _ h => h) (Or.inr ⟨by rfl, rfl⟩) (by assumption) ?_
    try simp only [Act.put, List.getElem_toArray, List.getElem_cons_zero, List.getElem_cons_succ, List.setIfInBounds_toArray, List.set_cons_zero, List.set_cons_succ]
    refine wpAnyH_take (i := 11) (v := undef) rfl (by kernel_rfl) (by kernel_rfl) (by kernel_rfl) (fun _ _ _ h => h) (Or.inr ⟨by rfl, rfl⟩) (by assumption) ?_
    try simp only [Act.put, List.getElem_toArray, List.getElem_cons_zero, List.getElem_cons_succ, List.setIfInBounds_toArray, List.set_cons_zero, List.set_cons_succ]
    refine wpAnyH_take (i := 12) (v := undef) rfl (by kernel_rfl) (by kernel_rfl) (by kernel_rfl) (fun _ _ _ h => h) (Or.inr ⟨by rfl, rfl⟩) (by assumption) ?_
    try simp only [Act.put, List.getElem_toArray, List.getElem_cons_zero, List.getElem_cons_succ, List.setIfInBounds_toArray, List.set_cons_zero, List.set_cons_succ]
    refine wpAnyH_take (i := 13) (v := ?_) rfl (by kernel_rfl) (by kernel_rfl) (by kernel_rfl) (fun _ _ _ h => h) (Or.inl ⟨by rfl, ?_⟩) (by assumption) ?_
    rotate_left
    · (intro w hSw; go_simp; try (with_reducible rfl))
    try simp only [Act.put, List.getElem_toArray, List.getElem_cons_zero, List.getElem_cons_succ, List.setIfInBounds_toArray, List.set_cons_zero, List.set_cons_succ]
    refine wpAnyH_take (i := 14) (v := ?_) rfl (by kernel_rfl) (by kernel_rfl) (by kernel_rfl) (fun _ _ _ h => h) (Or.inl ⟨by rfl, ?_⟩) (by assumption) ?_
    rotate_left
    · (intro w hSw; go_simp; try (with_reducible rfl))
    try simp only [Act.put, List.getElem_toArray, List.getElem_cons_zero, List.getElem_cons_succ, List.setIfInBounds_toArray, List.set_cons_zero, List.set_cons_succ]
    refine wpAnyH_take (i := 15) (v := ?_) rfl (by kernel_rfl) (by kernel_rfl) (by kernel_rfl) (fun _ _ _ h => h) (Or.inl ⟨by rfl, ?_⟩) (by assumption) ?_
    rotate_left
    · (intro w hSw; go_simp; try (with_reducible rfl))
    try simp only [Act.put, List.getElem_toArray, List.getElem_cons_zero, List.getElem_cons_succ, List.setIfInBounds_toArray, List.set_cons_zero, List.set_cons_succ]
    refine wpAnyH_done (by kernel_rfl) ?_ _
    refine NoPanic.normal ?_
    go_wp2_with fail
    go_ret2
    exact ⟨rfl, chain HB.out (Below.refl _ _).drew⟩
end Go.Proofs.Ytjpjobbmljlacaa
/- Plain facts on the prefixes of one address. -/
namespace Go.Proofs.Ytjpjobbmljlacaa
open Go.RowKit
set_option linter.unusedVariables false
set_option maxRecDepth 20000

section
variable {f g : Int} {bs us : List Nat}
theorem GoodA.mask (h : GoodA f bs) (m : Nat) (hm : m ≤ bitsN f) : GoodP f (withL (bitsN f) bs m 0) m := by
  have := mask_is (bs := bs) (m : Int) h.pos
  rw [maskN_nat f m hm] at this
  exact this
theorem GoodA.all (h : GoodA f bs) (b : Nat) (hb : b ≤ 1) : withL (bitsN f) bs (bitsN f) b = bs :=
  bits_ext (withL_len _ _ _ _) h.len (withL_lt _ _ _ _ hb) h.lt (fun i hi => by
    rw [bitA_with _ _ _ _ _ hb hi]
    unfold withF
    by_cases h1 : i < bitsN f
    · rw [if_pos h1, if_neg (by omega)]
    · rw [if_neg h1, h.zero i hi (by omega)])
theorem GoodA.whole (h : GoodA f bs) : GoodP f bs (bitsN f) := ⟨h.pos, h.len, h.lt, Nat.le_refl _, h.zero⟩
theorem mask_has (h : GoodA f bs) (m : Nat) (hm : m ≤ bitsN f) : hasR f (withL (bitsN f) bs m 0) (m : Int) f bs = true := by
  have hN := bitsN_le f
  refine (hasR_iff (h.mask m hm) h.len).2 ⟨rfl, fun i hi => ?_⟩
  rw [bitA_with _ _ _ _ _ (by decide) (by omega), withF_at (by omega) hi]
theorem mask_within (h : GoodA f bs) (m n : Nat) (hm : m ≤ bitsN f) (hn : n ≤ bitsN f) : withinR f (withL (bitsN f) bs m 0) (m : Int) f (withL (bitsN f) bs n 0) (n : Int) = decide (n ≤ m) := by
  have hN := bitsN_le f
  rw [Bool.eq_iff_iff, withinR_iff (h.mask m hm) (h.mask n hn), decide_eq_true_iff]
  refine ⟨fun e => e.1, fun e => ⟨e, rfl, fun i hi => ?_⟩⟩
  rw [bitA_with _ _ _ _ _ (by decide) (by omega), bitA_with _ _ _ _ _ (by decide) (by omega), withF_at (by omega) hi, withF_at (by omega) (by omega)]
theorem whole_has (h : GoodA f bs) (hu : GoodA g us) : hasR f bs ((bitsN f : Nat) : Int) g us = decide (f = g ∧ bs = us) := by
  rw [Bool.eq_iff_iff, hasR_iff h.whole hu.len, decide_eq_true_iff]
  constructor
  · rintro ⟨rfl, e⟩
    exact ⟨rfl, bits_ext h.len hu.len h.lt hu.lt (fun i hi => by
      by_cases h1 : i < bitsN f
      · exact e i h1
      · rw [h.zero i hi (by omega), hu.zero i hi (by omega)])⟩
  · rintro ⟨rfl, rfl⟩
    exact ⟨rfl, fun _ _ => rfl⟩
theorem whole_last (h : GoodA f bs) : lastL bs (bitsN f) (bitsN f) = bs := by
  rw [h.whole.last, h.all 1 (by decide)]
end
end Go.Proofs.Ytjpjobbmljlacaa
/- Plain facts on entries in their row: what is set, dropped and got, by the place that is found. -/
namespace Go.Proofs.Ytjpjobbmljlacaa
open Go.RowKit
set_option linter.unusedVariables false
set_option maxRecDepth 20000

theorem cmpE_zero {e : Ent} {f : Int} {bs : List Nat} {n : Int} (hl : e.b.length = 16) (h16 : bs.length = 16) : cmpE e f bs n = 0 ↔ isEnt f bs n e = true := by
  unfold cmpE isEnt
  rw [cmpP_zero _ _ _ _ _ _ hl h16, decide_eq_true_iff]
section
variable {es : List Ent} {f : Int} {bs : List Nat} {n : Int} {i : Nat}
theorem Place.only {b : Bool} (hp : Place es f bs n i b) (hg : AllGood es) (hs : SortedE es) (h16 : bs.length = 16) {t : Nat} (ht : t < es.length) (h : isEnt f bs n es[t] = true) : t = i ∧ b = true := by
  have hl : es[t].b.length = 16 := (hg _ (List.getElem_mem ht)).1.len
  have h0 := (cmpE_zero (n := n) hl h16).2 h
  have hi : i ≤ t := by
    apply Classical.byContradiction
    intro h2
    have := hp.lo t ht (by omega)
    omega
  have hti : t = i := by
    rcases Nat.lt_or_eq_of_le hi with hlt | e
    · exfalso
      have h1 := hp.hi i (by omega) (Nat.le_refl _)
      have h2 := hs i t (by omega) ht hlt
      obtain ⟨e1, e2, e3⟩ := (cmpP_zero _ _ _ _ _ _ hl h16).1 h0
      unfold cmpE at h1
      rw [← e1, ← e2, ← e3] at h1
      omega
    · exact e.symm
  refine ⟨hti, ?_⟩
  subst hti
  cases b with
  | true => rfl
  | false => exact absurd h0 (hp.no rfl ht)
theorem Place.isAt (hp : Place es f bs n i true) (hg : AllGood es) (h16 : bs.length = 16) : ∃ h : i < es.length, isEnt f bs n es[i] = true := by
  obtain ⟨h, h0⟩ := hp.is rfl
  exact ⟨h, (cmpE_zero (hg _ (List.getElem_mem h)).1.len h16).1 h0⟩
theorem Place.none (hp : Place es f bs n i false) (hg : AllGood es) (hs : SortedE es) (h16 : bs.length = 16) : ∀ e ∈ es, isEnt f bs n e = false := by
  intro e he
  obtain ⟨t, ht, rfl⟩ := List.getElem_of_mem he
  cases h : isEnt f bs n es[t] with
  | false => rfl
  | true => have := (hp.only hg hs h16 ht h).2; cases this
theorem filter_keep {l : List Ent} (h : ∀ e ∈ l, isEnt f bs n e = false) : l.filter (fun e => !isEnt f bs n e) = l := List.filter_eq_self.2 (fun e he => by rw [h e he]; rfl)
theorem split_at {l : List Ent} {i : Nat} (h : i < l.length) : l = l.take i ++ l[i] :: l.drop (i + 1) := by rw [← List.drop_eq_getElem_cons h, List.take_append_drop]
theorem drop_none (hp : Place es f bs n i false) (hg : AllGood es) (hs : SortedE es) (h16 : bs.length = 16) : dropE es f bs n = es := filter_keep (hp.none hg hs h16)
theorem drop_at (hp : Place es f bs n i true) (hg : AllGood es) (hs : SortedE es) (h16 : bs.length = 16) : dropE es f bs n = es.take i ++ es.drop (i + 1) := by
  obtain ⟨h, h0⟩ := hp.isAt hg h16
  unfold dropE
  conv => lhs; rw [split_at h]
  rw [List.filter_append, List.filter_cons, if_neg (by rw [h0]; decide), filter_keep (l := es.take i), filter_keep (l := es.drop (i + 1))]
  · intro e he
    obtain ⟨t, ht, rfl⟩ := List.getElem_of_mem he
    rw [List.length_drop] at ht
    rw [List.getElem_drop]
    cases hh : isEnt f bs n es[i + 1 + t] with
    | false => rfl
    | true => have := (hp.only hg hs h16 (by omega) hh).1; omega
  · intro e he
    obtain ⟨t, ht, rfl⟩ := List.getElem_of_mem he
    rw [List.length_take] at ht
    rw [List.getElem_take]
    cases hh : isEnt f bs n es[t] with
    | false => rfl
    | true => have := (hp.only hg hs h16 (by omega) hh).1; omega
theorem get_none (hp : Place es f bs n i false) (hg : AllGood es) (hs : SortedE es) (h16 : bs.length = 16) : getE es f bs n = Option.none := by
  unfold getE
  rw [List.find?_eq_none.2 (fun e he => by rw [hp.none hg hs h16 e he]; decide)]
  rfl
theorem get_at (hp : Place es f bs n i true) (hg : AllGood es) (hs : SortedE es) (h16 : bs.length = 16) (h : i < es.length) : getE es f bs n = some es[i].v := by
  obtain ⟨_, h0⟩ := hp.isAt hg h16
  unfold getE
  have : es.find? (isEnt f bs n) = some es[i] := by
    rw [List.find?_eq_some_iff_getElem]
    refine ⟨h0, i, h, rfl, fun j hj => ?_⟩
    cases hh : isEnt f bs n es[j] with
    | false => rfl
    | true => have := (hp.only hg hs h16 (by omega) hh).1; omega
  rw [this]
  rfl
/-- A row whose first are all smaller and whose last are all greater: one's place. -/
theorem pos_at (rest : List Ent) (j : Nat) (hj : j ≤ rest.length) (lo : ∀ t (h : t < rest.length), t < j → 0 ≤ cmpP f bs n rest[t].f rest[t].b (rest[t].n : Int)) (hi : ∀ t (h : t < rest.length), j ≤ t → cmpP f bs n rest[t].f rest[t].b (rest[t].n : Int) < 0) :
    ∀ k, j ≤ k → k ≤ rest.length → posE rest f bs n k = j
  | 0, h1, h2 => by rw [posE]; omega
  | k + 1, h1, h2 => by
    rw [posE, List.getElem?_eq_getElem (by omega)]
    show (if cmpP f bs n rest[k].f rest[k].b (rest[k].n : Int) < 0 then posE rest f bs n k else k + 1) = j
    by_cases hk : j ≤ k
    · rw [if_pos (hi k (by omega) hk)]
      exact pos_at rest j hj lo hi k hk (by omega)
    · rw [if_neg (by have := lo k (by omega) (by omega); omega)]
      omega
theorem neg_lt {e : Ent} (h : cmpE e f bs n < 0) : 0 ≤ cmpP f bs n e.f e.b (e.n : Int) := by
  have := cmpP_neg e.f e.b (e.n : Int) f bs n
  unfold cmpE at h
  omega
theorem neg_gt {e : Ent} (h : 0 ≤ cmpE e f bs n) (h0 : cmpE e f bs n ≠ 0) : cmpP f bs n e.f e.b (e.n : Int) < 0 := by
  have := cmpP_neg e.f e.b (e.n : Int) f bs n
  unfold cmpE at h h0
  omega
theorem set_none (x : Int) (hp : Place es f bs n i false) (hg : AllGood es) (hs : SortedE es) (h16 : bs.length = 16) (hlt : ∀ y ∈ bs, y < 256) (hm : mayP f bs n = true) : setE es f bs n x = es.take i ++ [⟨f, bs, n.toNat, x⟩] ++ es.drop i := by
  have hn := (mayP_good h16 hlt hm).2
  unfold setE
  rw [if_pos hm, drop_none hp hg hs h16]
  unfold insE
  have e : posE es f bs ((n.toNat : Nat) : Int) es.length = i := by
    rw [← hn]
    refine pos_at es i hp.le (fun t h ht => neg_lt (hp.lo t h ht)) (fun t h ht => neg_gt (hp.hi t h ht) (fun h0 => ?_)) es.length hp.le (Nat.le_refl _)
    have := hp.none hg hs h16 es[t] (List.getElem_mem h)
    rw [(cmpE_zero (hg _ (List.getElem_mem h)).1.len h16).1 h0] at this
    cases this
  show es.take (posE es f bs ((n.toNat : Nat) : Int) es.length) ++ _ ++ es.drop (posE es f bs ((n.toNat : Nat) : Int) es.length) = _
  rw [e]
theorem set_at (x : Int) (hp : Place es f bs n i true) (hg : AllGood es) (hs : SortedE es) (h16 : bs.length = 16) (hlt : ∀ y ∈ bs, y < 256) (hm : mayP f bs n = true) : setE es f bs n x = es.take i ++ [⟨f, bs, n.toNat, x⟩] ++ es.drop (i + 1) := by
  have hn := (mayP_good h16 hlt hm).2
  obtain ⟨hil, h0⟩ := hp.isAt hg h16
  unfold setE
  rw [if_pos hm, drop_at hp hg hs h16]
  unfold insE
  have hl : (es.take i).length = i := by rw [List.length_take]; omega
  have e : posE (es.take i ++ es.drop (i + 1)) f bs ((n.toNat : Nat) : Int) (es.take i ++ es.drop (i + 1)).length = i := by
    rw [← hn]
    have hle : i ≤ (es.take i ++ es.drop (i + 1)).length := by rw [List.length_append, hl]; omega
    refine pos_at _ i hle (fun t h ht => ?_) (fun t h ht => ?_) _ hle (Nat.le_refl _)
    · rw [List.getElem_append_left (by omega)]
      rw [List.getElem_take]
      exact neg_lt (hp.lo t (by omega) ht)
    · rw [List.length_append, hl, List.length_drop] at h
      have e2 : (es.take i ++ es.drop (i + 1))[t]'(by rw [List.length_append, hl, List.length_drop]; exact h) = es[t + 1]'(by omega) := by
        rw [List.getElem_append_right (by omega), List.getElem_drop]
        congr 1
        omega
      rw [e2]
      refine neg_gt (hp.hi (t + 1) (by omega) (by omega)) (fun h1 => ?_)
      have := (hp.only hg hs h16 (by omega) ((cmpE_zero (hg _ (List.getElem_mem (by omega))).1.len h16).1 h1)).1
      omega
  show (es.take i ++ es.drop (i + 1)).take (posE (es.take i ++ es.drop (i + 1)) f bs ((n.toNat : Nat) : Int) (es.take i ++ es.drop (i + 1)).length) ++ _ ++ (es.take i ++ es.drop (i + 1)).drop (posE (es.take i ++ es.drop (i + 1)) f bs ((n.toNat : Nat) : Int) (es.take i ++ es.drop (i + 1)).length) = _
  rw [e, List.take_left' hl, List.drop_left' hl]
end
theorem sorted_iff (es : List Ent) : SortedE es ↔ es.Pairwise (fun a b => cmpP a.f a.b (a.n : Int) b.f b.b (b.n : Int) < 0) := by
  rw [List.pairwise_iff_getElem]
  exact Iff.rfl
theorem sorted_nil : SortedE [] := fun i j hi => absurd hi (by simp)
theorem sorted_drop {es : List Ent} (hs : SortedE es) (f : Int) (bs : List Nat) (n : Int) : SortedE (dropE es f bs n) := (sorted_iff _).2 (((sorted_iff _).1 hs).filter _)
theorem sorted_take {es : List Ent} (hs : SortedE es) (k : Nat) : SortedE (es.take k) := (sorted_iff _).2 (((sorted_iff _).1 hs).sublist (List.take_sublist _ _))
theorem good_take {es : List Ent} (hg : AllGood es) (k : Nat) : AllGood (es.take k) := fun e he => hg e (List.mem_of_mem_take he)
theorem sorted_ins {es : List Ent} {f : Int} {bs : List Nat} {n : Int} {i j : Nat} (x : Int) (hs : SortedE es) (hij : i ≤ j) (lo : ∀ t (h : t < es.length), t < i → cmpE es[t] f bs n < 0) (hi : ∀ t (h : t < es.length), j ≤ t → cmpP f bs n es[t].f es[t].b (es[t].n : Int) < 0) (hn : n = ((n.toNat : Nat) : Int)) :
    SortedE (es.take i ++ [⟨f, bs, n.toNat, x⟩] ++ es.drop j) := by
  have hp := (sorted_iff _).1 hs
  rw [sorted_iff, List.append_assoc, List.pairwise_append]
  refine ⟨hp.sublist (List.take_sublist _ _), ?_, ?_⟩
  · rw [List.singleton_append, List.pairwise_cons]
    refine ⟨fun e he => ?_, hp.sublist (List.drop_sublist _ _)⟩
    obtain ⟨t, ht, rfl⟩ := List.getElem_of_mem he
    rw [List.length_drop] at ht
    rw [List.getElem_drop]
    have := hi (j + t) (by omega) (by omega)
    show cmpP f bs ((n.toNat : Nat) : Int) _ _ _ < 0
    rw [← hn]; exact this
  · intro a ha b hb
    obtain ⟨s, hs', rfl⟩ := List.getElem_of_mem ha
    rw [List.length_take] at hs'
    rw [List.getElem_take]
    rcases List.mem_append.1 hb with hb | hb
    · rw [List.mem_singleton.1 hb]
      have := lo s (by omega) (by omega)
      show cmpP _ _ _ f bs ((n.toNat : Nat) : Int) < 0
      rw [← hn]; exact this
    · obtain ⟨t, ht, rfl⟩ := List.getElem_of_mem hb
      rw [List.length_drop] at ht
      rw [List.getElem_drop]
      exact hs s (j + t) (by omega) (by omega) (by omega)
theorem sorted_set {es : List Ent} {f : Int} {bs : List Nat} {n : Int} {i : Nat} {b : Bool} (x : Int) (hp : Place es f bs n i b) (hg : AllGood es) (hs : SortedE es) (h16 : bs.length = 16) (hlt : ∀ y ∈ bs, y < 256) : SortedE (setE es f bs n x) := by
  by_cases hm : mayP f bs n = true
  · have hn := (mayP_good h16 hlt hm).2
    cases b with
    | false =>
      rw [set_none x hp hg hs h16 hlt hm]
      refine sorted_ins x hs (Nat.le_refl _) hp.lo (fun t h ht => neg_gt (hp.hi t h ht) (fun h0 => ?_)) hn
      have := hp.none hg hs h16 es[t] (List.getElem_mem h)
      rw [(cmpE_zero (hg _ (List.getElem_mem h)).1.len h16).1 h0] at this
      cases this
    | true =>
      rw [set_at x hp hg hs h16 hlt hm]
      refine sorted_ins x hs (Nat.le_succ _) hp.lo (fun t h ht => neg_gt (hp.hi t h (by omega)) (fun h0 => ?_)) hn
      have := (hp.only hg hs h16 h ((cmpE_zero (hg _ (List.getElem_mem h)).1.len h16).1 h0)).1
      omega
  · unfold setE
    rw [if_neg hm]
    exact hs
end Go.Proofs.Ytjpjobbmljlacaa
/- Plain facts: an address's prefixes, longest first, looked for by halves. -/
namespace Go.Proofs.Ytjpjobbmljlacaa
open Go.RowKit
set_option linter.unusedVariables false
set_option maxRecDepth 20000

section
variable {es : List Ent} {f : Int} {us : List Nat}
theorem has_mask {e : Ent} (hg : GoodP e.f e.b e.n) (hu : us.length = 16) : hasB e.f e.b e.n f us = true ↔ (e.n ≤ bitsN f ∧ isEnt f (withL (bitsN f) us e.n 0) (e.n : Int) e = true) := by
  rw [← has_same hg hu]
  unfold hasR isEnt
  rw [decide_eq_true_iff, decide_eq_true_iff]
  have hm : maskN f (e.n : Int) = min e.n (bitsN f) := by unfold maskN; simp
  constructor
  · rintro ⟨h1, h2, h3⟩
    rw [hm] at h2 h3
    have hle : e.n ≤ bitsN f := by omega
    rw [Nat.min_eq_left hle] at h2
    exact ⟨hle, h1, h2, rfl⟩
  · rintro ⟨hle, h1, h2, _⟩
    rw [hm, Nat.min_eq_left hle]
    exact ⟨h1, h2, rfl⟩
theorem mask_lt {b c : Nat} (h : b < c) (hc : c ≤ bitsN f) : cmpP f (withL (bitsN f) us b 0) (b : Int) f (withL (bitsN f) us c 0) (c : Int) < 0 := by
  have hN := bitsN_le f
  have h1 : cmpL (withL (bitsN f) us b 0) (withL (bitsN f) us c 0) ≤ 0 := cmpL_bits (withL_len _ _ _ _) (withL_len _ _ _ _) (withL_lt _ _ _ _ (by decide)) (withL_lt _ _ _ _ (by decide)) (fun i hi => by
    rw [bitA_with _ _ _ _ _ (by decide) hi, bitA_with _ _ _ _ _ (by decide) hi]
    unfold withF
    split
    · split
      · omega
      · rw [if_neg (by omega)]; exact Nat.le_refl _
    · exact Nat.le_refl _)
  unfold cmpP cmpA
  rw [if_pos rfl]
  split
  · unfold sgn3; rw [if_pos (by omega)]; decide
  · omega
theorem ent_mask {b : Nat} {e : Ent} (hg : GoodP e.f e.b e.n) (hu : us.length = 16) (hb : b ≤ bitsN f) (h : isEnt f (withL (bitsN f) us b 0) (b : Int) e = true) : e.n = b ∧ hasB e.f e.b e.n f us = true := by
  have h2 := h
  unfold isEnt at h2
  obtain ⟨e1, e2, e3⟩ := of_decide_eq_true h2
  have hn : e.n = b := by omega
  refine ⟨hn, (has_mask hg hu).2 ⟨by omega, ?_⟩⟩
  rw [hn]; exact h
theorem find_none (hg : AllGood es) (hu : us.length = 16) (h : ∀ e ∈ es, ∀ b, b ≤ bitsN f → isEnt f (withL (bitsN f) us b 0) (b : Int) e = false) : findE es f us = none := by
  cases hf : findE es f us with
  | none => rfl
  | some e =>
    obtain ⟨h1, h2, _⟩ := (findE_best es f us).2 e hf
    obtain ⟨h3, h4⟩ := (has_mask (hg e h1).1 hu).1 h2
    rw [h e h1 e.n h3] at h4
    cases h4
theorem same_ent (hs : SortedE es) (hg : AllGood es) {i j : Nat} (hi : i < es.length) (hj : j < es.length) (h1 : es[i].f = es[j].f) (h2 : es[i].b = es[j].b) (h3 : es[i].n = es[j].n) : i = j := by
  have zero : cmpP es[i].f es[i].b (es[i].n : Int) es[j].f es[j].b (es[j].n : Int) = 0 := (cmpP_zero _ _ _ _ _ _ (hg _ (List.getElem_mem hi)).1.len (hg _ (List.getElem_mem hj)).1.len).2 ⟨h1, h2, by rw [h3]⟩
  rcases Nat.lt_trichotomy i j with h | h | h
  · have := hs i j hi hj h; omega
  · exact h
  · have := hs j i hj hi h
    have h4 := cmpP_neg es[i].f es[i].b (es[i].n : Int) es[j].f es[j].b (es[j].n : Int)
    omega
theorem find_at (hg : AllGood es) (hs : SortedE es) (hu : us.length = 16) {i c : Nat} (hi : i < es.length) (hc : c ≤ bitsN f) (h : isEnt f (withL (bitsN f) us c 0) (c : Int) es[i] = true)
    (hB : ∀ e ∈ es, ∀ b, c < b → b ≤ bitsN f → isEnt f (withL (bitsN f) us b 0) (b : Int) e = false) : findE es f us = some es[i] := by
  obtain ⟨hn, hh⟩ := ent_mask (hg _ (List.getElem_mem hi)).1 hu hc h
  have best := findE_best es f us
  cases hf : findE es f us with
  | none => rw [best.1 hf _ (List.getElem_mem hi)] at hh; cases hh
  | some e =>
    obtain ⟨h1, h2, h3⟩ := best.2 e hf
    have h4 := h3 _ (List.getElem_mem hi) hh
    obtain ⟨h5, h6⟩ := (has_mask (hg e h1).1 hu).1 h2
    have hen : e.n = c := by
      rcases Nat.lt_or_ge c e.n with hlt | hge
      · rw [hB e h1 e.n hlt h5] at h6; cases h6
      · omega
    rw [hen] at h6
    unfold isEnt at h h6
    obtain ⟨a1, a2, a3⟩ := of_decide_eq_true h
    obtain ⟨b1, b2, b3⟩ := of_decide_eq_true h6
    obtain ⟨j, hj, rfl⟩ := List.getElem_of_mem h1
    have := same_ent hs hg hj hi (by rw [a1, b1]) (by rw [a2, b2]) (by omega)
    subst this
    rfl
/-- What is known when the prefixes of b and more bits have been looked for, in the first m entries at last. -/
def Looked (es : List Ent) (f : Int) (us : List Nat) (m b : Nat) : Prop :=
  m ≤ es.length ∧ (∀ j (h : j < es.length), m ≤ j → ∀ c, c < b → c ≤ bitsN f → isEnt f (withL (bitsN f) us c 0) (c : Int) es[j] = false) ∧ (∀ e ∈ es, ∀ c, b ≤ c → c ≤ bitsN f → isEnt f (withL (bitsN f) us c 0) (c : Int) e = false)
theorem looked_all : Looked es f us es.length (bitsN f + 1) := ⟨Nat.le_refl _, fun j h h2 => absurd h2 (by omega), fun e _ c h h2 => absurd h (by omega)⟩
theorem looked_end (hg : AllGood es) (hu : us.length = 16) {m : Nat} (h : Looked es f us m 0) : findE es f us = none := find_none hg hu (fun e he b hb => h.2.2 e he b (Nat.zero_le _) hb)
theorem looked_yes (hg : AllGood es) (hs : SortedE es) (hu : us.length = 16) {m c i : Nat} (h : Looked es f us m (c + 1)) (hc : c ≤ bitsN f) (hp : Place (es.take m) f (withL (bitsN f) us c 0) (c : Int) i true) : ∃ hi : i < es.length, i < m ∧ findE es f us = some es[i] := by
  obtain ⟨hi, h0⟩ := hp.isAt (good_take hg m) (withL_len _ _ _ _)
  rw [List.length_take] at hi
  rw [List.getElem_take] at h0
  exact ⟨by omega, by omega, find_at hg hs hu (by omega) hc h0 (fun e he b hb hb2 => h.2.2 e he b (by omega) hb2)⟩
theorem looked_no (hg : AllGood es) (hs : SortedE es) (hu : us.length = 16) {m c i : Nat} (h : Looked es f us m (c + 1)) (hc : c ≤ bitsN f) (hp : Place (es.take m) f (withL (bitsN f) us c 0) (c : Int) i false) : i ≤ m ∧ Looked es f us i c := by
  have hlm : (es.take m).length = m := by rw [List.length_take]; have := h.1; omega
  have hle := hp.le
  rw [hlm] at hle
  have hno := hp.none (good_take hg m) (sorted_take hs m) (withL_len _ _ _ _)
  have hcc : ∀ j (hj : j < es.length), isEnt f (withL (bitsN f) us c 0) (c : Int) es[j] = false := fun j hj => by
    by_cases hjm : j < m
    · have := hno ((es.take m)[j]'(by omega)) (List.getElem_mem _)
      rw [List.getElem_take] at this
      exact this
    · exact h.2.1 j hj (by omega) c (by omega) hc
  refine ⟨hle, by have := h.1; omega, fun j hj hij b hb hb2 => ?_, fun e he b hb hb2 => ?_⟩
  · by_cases hjm : j < m
    · have h1 := hp.hi j (by omega) hij
      rw [List.getElem_take] at h1
      cases hh : isEnt f (withL (bitsN f) us b 0) (b : Int) es[j] with
      | false => rfl
      | true =>
        exfalso
        unfold isEnt at hh
        obtain ⟨e1, e2, e3⟩ := of_decide_eq_true hh
        unfold cmpE at h1
        rw [e1, e2, e3] at h1
        have := mask_lt (us := us) hb hc
        omega
    · exact h.2.1 j hj (by omega) b (by omega) hb2
  · rcases Nat.lt_or_eq_of_le hb with hlt | rfl
    · exact h.2.2 e he b hlt hb2
    · obtain ⟨j, hj, rfl⟩ := List.getElem_of_mem he
      exact hcc j hj
end
end Go.Proofs.Ytjpjobbmljlacaa
/- A range over a function, walked with the plain laws: regions of a round; a range whose rounds all go on; one whose first round returns. -/
namespace Go.Proofs.Ytjpjobbmljlacaa
open Go.RowKit
set_option linter.unusedVariables false
set_option maxRecDepth 20000

section
variable {P : Program} {ops : Array Oper} {Q : Exit → Act → World → Prop} {n r : Nat}
theorem rows_in {row : String} {args : Array Value} {w : World} {R : Value → World → Prop} (h : Rows P row args w R) : RowsIn (Fence.wide.inRound r) n P row args w R := fun c cs _ => by
  obtain ⟨v, w', hr, hs⟩ := h c cs
  exact ⟨v, w', hr, stepsIn_wide.2 hs⟩
theorem depth_no : (Fence.wide.inRound r).depth.isSome = true → 1 ≤ n := fun h => by cases h
/-- An operation of a round. -/
theorem op_in {o : Oper} {a : Act} {w : World} {K : Act → World → Prop} (hd : ∀ c, o.op ≠ .defer c) (hq : ¬ LetsOut Q) (h : o.wp P a w K Q ∨ (o.asks P a w ∧ LetsOut Q)) : o.wpIn (Fence.wide.inRound r) n P a w K Q := by
  rcases h with h | ⟨_, h⟩
  · refine ⟨fun _ _ => trivial, ?_⟩
    rw [show o.semAt (Fence.wide.inRound r).round a.eval = execOp a.eval o from Oper.semAt_some r _ _ hd]
    unfold Oper.wp at h
    generalize (execOp a.eval o).run P w = x at *
    cases x with
    | ok y w' =>
      cases y <;> simp only [Oper.upon, Oper.uponIn] at h ⊢ <;> first
        | exact h
        | exact ⟨depth_no, CallsIn.inRound r (callsIn_wide.2 h)⟩
        | exact ⟨depth_no, rows_in h⟩
        | exact h.elim
    | halt y w' => cases y <;> simp only [Oper.upon, Oper.uponIn] at h ⊢ <;> first | exact h | exact h.elim
  · exact absurd h hq
theorem list_in (hq : ¬ LetsOut Q) : ∀ (l : List Oper) (a : Act) (w : World), (∀ o ∈ l, ∀ c, o.op ≠ .defer c) → wpList P ops Q l a w → wpListIn (Fence.wide.inRound r) n P ops Q l a w
  | [], _, _, _, h => h
  | o :: l, a, w, hd, h => by
    unfold wpListIn
    unfold wpList at h
    split
    · rename_i hw
      rw [if_pos hw] at h
      exact Oper.wpIn_mono (fun a w h => list_in hq l a w (fun o ho => hd o (List.mem_cons_of_mem _ ho)) h) (op_in (hd o (by simp)) hq h)
    · rename_i hw
      rw [if_neg hw] at h
      exact ⟨fun _ _ => trivial, list_in hq l _ w (fun o ho => hd o (List.mem_cons_of_mem _ ho)) h⟩
theorem any_in {md : Region.Mode} (hq : ¬ LetsOut Q) (hd : ∀ (i : Nat) (o : Oper), ops[i]? = some o → ∀ c, o.op ≠ .defer c) : ∀ (fuel : Nat) (listed : Array Bool) (a : Act) (w : World), wpAny P md ops Q fuel listed a w → wpAnyIn (Fence.wide.inRound r) n P md ops Q fuel listed a w
  | 0, _, _, _, h => h
  | fuel + 1, listed, a, w, h => by
    refine ⟨h.1, fun i hi => ?_⟩
    have h2 := h.2 i hi
    unfold wpOp at h2
    unfold wpOpIn
    cases ho : ops[i]? with
    | none => rw [ho] at h2; exact any_in hq hd fuel _ a w h2
    | some o =>
      rw [ho] at h2
      simp only at h2 ⊢
      split
      · rename_i hw
        rw [if_pos hw] at h2
        exact Oper.wpIn_mono (fun a w h => any_in hq hd fuel _ a w h) (op_in (hd i o ho) hq h2)
      · rename_i hw
        rw [if_neg hw] at h2
        exact ⟨fun _ _ => trivial, any_in hq hd fuel _ _ w h2⟩
/-- Operations none of which defers. -/
def noDefer (l : List Oper) : Bool := l.all fun o => match o.op with
  | .defer _ => false
  | _ => true
theorem noDefer_spec {l : List Oper} (h : noDefer l = true) : ∀ o ∈ l, ∀ c, o.op ≠ .defer c := fun o ho c e => by
  have := List.all_eq_true.1 h o ho
  rw [e] at this
  cases this
/-- A plain region of a round. -/
theorem round_region {id : Nat} {l : List Oper} {a : Act} {w : World} (hd : noDefer l = true) (hq : ¬ LetsOut Q) (h : wpList P l.toArray Q l a w) : (Code.region id l.toArray false).wpIn (Fence.wide.inRound r) n P Q a w :=
  wpIn_region_lit (list_in hq l a w (noDefer_spec hd) h)
/-- A region of a round that draws its order. -/
theorem round_drawn {id : Nat} {l : List Oper} {a : Act} {w : World} {S : World → Prop} (hm : P.follows .mixedOrders = true) (hd : noDefer l = true) (hq : ¬ LetsOut Q) (hS : S w.drew)
    (h : S w.drew → wpAnyH P .any l.toArray Q S l.toArray.size (Array.replicate l.toArray.size false) a w.drew) : (Code.region id l.toArray true).wpIn (Fence.wide.inRound r) n P Q a w := by
  refine wpIn_region_draw fun t => ?_
  have h1 := any_in (r := r) (n := n) hq (fun i o ho => noDefer_spec hd o (by
    have := Array.mem_of_getElem? ho
    simpa using this)) _ _ _ _ (wpAny_of_held _ _ _ _ (h hS))
  have h2 := wpAnyIn_sound _ t _ _ _ h1
  unfold Region.schedule
  rw [hm]
  exact h2
end
end Go.Proofs.Ytjpjobbmljlacaa
/- A range over a function: the law where each round goes on, and the law where the first round returns. -/
namespace Go.Proofs.Ytjpjobbmljlacaa
open Go.RowKit
set_option linter.unusedVariables false
set_option maxRecDepth 20000

section
variable {P : Program} {α : Type}
theorem foot_put (W : World) (l : Nat) (o : Obj) : Foot [l] [l] W (W.putObj l o) :=
  ⟨rfl, rfl, rfl, by simp, fun k _ hn => World.putObj_heap_other (fun e => hn (by simp [e])), fun k hk => .inl hk⟩
theorem below_put {W : World} {l n : Nat} (o : Obj) (h : n ≤ l) : Below n W (W.putObj l o) :=
  ⟨rfl, rfl, rfl, by simp, fun k hk => World.putObj_heap_other (by omega)⟩
/-- A call of yield, as an operation of a plain function's walk. -/
theorem yield_step {ops : Array Oper} {rest : List Oper} {o : Oper} {a : Act} {w : World} {Q : Exit → Act → World → Prop} {l : Nat} {v : Value} {ts : Array TypeId} {R : Ending → World → Prop} (hY : YieldAt Fence.wide 0 P l #[v] w R)
    (hw : Region.wanted o (yielded ops a.tmps) = true) (x y : Operand) (ho : o.op = .call { callee := .value x, args := #[y], argTypes := ts })
    (hx : a.eval x = .func (.yield l) #[] #[]) (hy : a.eval y = v) (h : ∀ e w', R e w' → ∃ u, e = .returned u ∧ wpListIn Fence.wide 0 P ops Q rest (a.put o.dst u) w') : wpListIn Fence.wide 0 P ops Q (o :: rest) a w := by
  obtain ⟨fn, tmps, assign, body, hr, hR⟩ := hY
  unfold wpListIn
  rw [if_pos hw]
  refine ⟨fun _ _ => trivial, ?_⟩
  have e : (o.semAt Fence.wide.round a.eval).run P w = .ok (.round l fn tmps assign body) w := by
    show (execOp a.eval o).run P w = _
    unfold execOp
    simp only [ho, resolve, List.map_toArray, List.map_cons, List.map_nil, hx, hy, Sem.run_bind]
    simp [Deferred.ofValue, invoke, hr]
  rw [e, Oper.uponIn_round]
  refine ⟨(fun h => by cases h), hR.mono fun e w' he => ?_⟩
  obtain ⟨u, rfl, hu⟩ := h e w' he
  exact hu
/-- An operation of a plain function's walk, by its plain law. -/
theorem wide_step {ops : Array Oper} {rest : List Oper} {o : Oper} {a : Act} {w : World} {Q : Exit → Act → World → Prop} {v : Value} (hw : Region.wanted o (yielded ops a.tmps) = true) (hr : (execOp a.eval o).run P w = .ok (.value v) w)
    (h : wpListIn Fence.wide 0 P ops Q rest (a.put o.dst v) w) : wpListIn Fence.wide 0 P ops Q (o :: rest) a w := by
  unfold wpListIn
  rw [if_pos hw]
  refine ⟨fun _ _ => trivial, ?_⟩
  rw [show (o.semAt Fence.wide.round a.eval).run P w = .ok (.value v) w from hr, Oper.uponIn_value]
  exact h
/-- What an iterator tells, one by one, where each round goes on and turns but the blocks M. -/
def Tells (P : Program) (gf : Nat) (lb : Array Value) (xs : List α) (enc : α → Value) (M : List Nat) (w : World) : Prop :=
  ∀ (l : Nat) (J : Nat → World → Prop) (W : World), Below w.heap.size w W → (∀ k A B, J k A → Below A.heap.size A B → J k B) →
    (∀ k (hk : k < xs.length) W1, J k W1 → YieldAt Fence.wide 0 P l #[enc xs[k]] W1 fun e W' => e = .returned (.bool true) ∧ J (k + 1) W' ∧ Foot M M W1 W') → J 0 W →
    CallsIn Fence.wide 0 P gf (#[.func (.yield l) #[] #[]] ++ lb) W fun e W' => (∃ v, e = .returned v) ∧ J xs.length W'
/-- The record of a loop. -/
def recOf (fn : FuncId) (a : Act) (ps : Array Tmp) (assign body : Code) (D : Nat) (st : LoopState) (pe : Option Code) : Loop := { state := st, pending := pe, fn, tmps := a.tmps, params := ps, assign, body, defers := D }
theorem zip_one (p : Tmp) (v : Value) (t : Array Value) : (#[p].zip #[v]).foldl (fun tmps (t, a) => tmps.setIfInBounds t a) t = t.setIfInBounds p v := by simp
theorem enter_law {g : Operand} {ps : Array Tmp} {assign body : Code} {Q : Exit → Act → World → Prop} {a : Act} {w : World} {gf : Nat} {lb : Array Value} (hg : a.eval g = .func (.func gf) #[] lb) (eg : ∀ args w, (callFunc gf args).run P w = .ok (.enter gf args) w)
    (h : ∀ fn W1, Below w.heap.size w W1 → W1.heap[w.heap.size + 1]? = some (.loop (recOf fn a ps assign body w.heap.size .ready none)) → W1.heap[w.heap.size]? = some (.deferred (some [])) →
      CallsIn Fence.wide 0 P gf (#[.func (.yield (w.heap.size + 1)) #[] #[]] ++ lb) W1 (rangePost Fence.wide 0 P (w.heap.size + 1) Q { a with defers := [{ target := .collected w.heap.size, args := #[] }] ++ a.defers })) :
    (Code.rangeFunc g ps assign body).wp P Q a w := by
  refine (wpIn_wide (n := 0)).1 (wpIn_rangeFunc fun fn _ => ?_)
  obtain ⟨W1, hW1⟩ : ∃ W1, (w.alloc (.deferred (some []))).alloc (.loop (recOf fn a ps assign body w.heap.size .ready none)) = W1 := ⟨_, rfl⟩
  have hL1 : W1.heap[w.heap.size + 1]? = some (.loop (recOf fn a ps assign body w.heap.size .ready none)) := by
    rw [← hW1]; have := World.alloc_heap_new (w.alloc (.deferred (some []))) (.loop (recOf fn a ps assign body w.heap.size .ready none)); rwa [World.size_alloc] at this
  have hK1 : W1.heap[w.heap.size]? = some (.deferred (some [])) := by
    rw [← hW1]; exact (Below.heap_alloc _ _ _ (by simp)).trans (World.alloc_heap_new w _)
  have hb1 : Below w.heap.size w W1 := by
    rw [← hW1]; exact ((Below.refl _ w).alloc (Nat.le_refl _) _).alloc (by simp) _
  have e1 : (Instr.enterLoop fn a.tmps ps assign body none).run P w = .ok (w.heap.size + 1, [{ target := .collected w.heap.size, args := #[] }]) W1 := by
    rw [← hW1]; exact run_enterLoop_outer _ _ _ _ _
  have e2 : (resolve a.eval (rangeCall g (w.heap.size + 1)) 0).run P W1 = .ok { target := .fn (.func gf) lb, args := #[.func (.yield (w.heap.size + 1)) #[] #[]] } W1 := by
    simp only [resolve, hg]
    simp [go_sem]
  have e3 : (invoke (.fn (.func gf) lb) #[.func (.yield (w.heap.size + 1)) #[] #[]]).run P W1 = .ok (.enter gf (#[.func (.yield (w.heap.size + 1)) #[] #[]] ++ lb)) W1 := by
    simp only [invoke]
    exact eg _ _
  have e4 := h fn W1 hb1 hL1 hK1
  clear hL1 hK1 hb1 hW1 h eg hg
  exact ⟨_, _, W1, _, W1, gf, _, W1, e1, e2, fun _ _ => trivial, e3, (fun h => by cases h), e4⟩
/-- The law where each round goes on. -/
theorem range_each {g : Operand} {p : Tmp} {assign body : Code} {Q : Exit → Act → World → Prop} {a : Act} {w : World} {gf : Nat} {lb : Array Value} (hg : a.eval g = .func (.func gf) #[] lb) (eg : ∀ args w, (callFunc gf args).run P w = .ok (.enter gf args) w)
    (xs : List α) (enc : α → Value) (M : List Nat) (hM : ∀ k ∈ M, k < w.heap.size) (w0 : World) (hseq : Tells P gf lb xs enc M w0) (hb0 : Below w0.heap.size w0 w)
    (I : Nat → World → Prop) (hI : ∀ k A B, I k A → Below w.heap.size A B → I k B) (h0 : I 0 w)
    (hround : ∀ l k (hk : k < xs.length) W, w.heap.size < l → l < W.heap.size → I k W →
      assign.wpIn (Fence.wide.inRound l) 0 P (Exit.then (fun a₁ w₁ => Below W.heap.size W w₁ ∧ ∀ w₂, Foot [l] [l] w₁ w₂ → body.wpIn (Fence.wide.inRound l) 0 P (fun e _ W3 => e = .normal ∧ Foot M M w₂ W3 ∧ I (k + 1) W3) a₁ w₂) (fun _ _ _ => False))
        { tmps := a.tmps.setIfInBounds p (enc xs[k]), defers := [] } W)
    (hdone : ∀ W, I xs.length W → W.heap[w.heap.size]? = some (.deferred (some [])) → Q .normal { a with defers := [{ target := .collected w.heap.size, args := #[] }] ++ a.defers } W) :
    (Code.rangeFunc g #[p] assign body).wp P Q a w := by
  refine enter_law hg eg fun fn W1 hb1 hL1 hK1 => ?_
  obtain ⟨l, hl⟩ : ∃ l, w.heap.size + 1 = l := ⟨_, rfl⟩
  rw [hl] at hL1 ⊢
  obtain ⟨rec, hrec⟩ : ∃ rec, recOf fn a #[p] assign body w.heap.size = rec := ⟨_, rfl⟩
  rw [hrec] at hL1
  refine (hseq l (fun k W => I k W ∧ W.heap[l]? = some (.loop (rec .ready none)) ∧ W.heap[w.heap.size]? = some (.deferred (some []))) W1 (hb0.trans (hb1.mono hb0.size)) ?_ ?_ ⟨hI 0 _ _ h0 hb1, hL1, hK1⟩).mono ?_
  · rintro k A B ⟨h1, h2, h3⟩ hb
    have hlA : l < A.heap.size := (Array.getElem?_eq_some_iff.1 h2).1
    exact ⟨hI k A B h1 (hb.mono (by omega)), (hb.block l hlA).trans h2, (hb.block w.heap.size (by omega)).trans h3⟩
  · rintro k hk W ⟨h1, h2, h3⟩
    have hlW : l < W.heap.size := (Array.getElem?_eq_some_iff.1 h2).1
    have hy := run_yield (P := P) (args := #[enc xs[k]]) h2 (by rw [← hrec]; simp [recOf])
    refine ⟨_, _, _, _, hy, roundIn_of_wpIn trivial ?_⟩
    rw [← hrec]
    show assign.wpIn _ _ _ _ { tmps := (#[p].zip #[_]).foldl _ a.tmps, defers := [] } W
    rw [zip_one]
    refine wpIn_mono (hround l k hk W (by omega) hlW h1) ?_
    rintro e a₁ w₁ he
    cases e with
    | normal =>
      obtain ⟨hb, hbody⟩ := he
      have hl1 : w₁.heap[l]? = some (.loop (rec .ready none)) := (hb.block l hlW).trans h2
      have hk1 : w₁.heap[w.heap.size]? = some (.deferred (some [])) := (hb.block _ (by omega)).trans h3
      have hll : l < w₁.heap.size := (Array.getElem?_eq_some_iff.1 hl1).1
      refine ⟨_, run_beginRound hl1 (by rw [← hrec]; rfl), ?_⟩
      refine wpIn_mono (hbody _ (foot_put w₁ l _)) ?_
      rintro e a₂ W3 ⟨rfl, hf, hi3⟩
      have hlM : l ∉ M := fun e => by have := hM l e; omega
      have hDM : w.heap.size ∉ M := fun e => by have := hM _ e; omega
      have hl3 := (hf.keep l (by simpa using hll) hlM).trans (World.putObj_heap_same hll)
      have hr3 := run_endRound (P := P) (none : Option Code) hl3
      refine ⟨_, _, hr3, rfl, ⟨hI _ _ _ hi3 (below_put _ (by omega)), ?_, ?_⟩, ?_⟩
      · rw [World.putObj_heap_same (Array.getElem?_eq_some_iff.1 hl3).1, ← hrec]; rfl
      · rw [World.putObj_heap_other (by omega), hf.keep _ (by simp; omega) hDM, World.putObj_heap_other (by omega)]; exact hk1
      · refine ⟨?_, ?_, ?_, ?_, fun j hj hn => ?_, fun j hj => .inl hj⟩
        · exact hf.os.trans hb.os
        · exact hf.tape.trans hb.tape
        · exact hf.output.trans hb.output
        · have := hf.size; have := hb.size; simp at *; omega
        · by_cases e : j = l
          · subst e
            rw [World.putObj_heap_same (Array.getElem?_eq_some_iff.1 hl3).1, h2, ← hrec]; rfl
          · rw [World.putObj_heap_other e, hf.keep j (by have := hb.size; simp; omega) hn, World.putObj_heap_other e]
            exact hb.block j hj
    | exit id => exact he.elim
    | goto t => exact he.elim
    | ret => exact he.elim
    | panic c => exact he.elim
    | outgrown => exact he.elim
  · rintro e W2 ⟨⟨v, rfl⟩, hi, h2, h3⟩
    refine ⟨none, _, by have := run_endLoop (P := P) h2 (by rw [← hrec]; simp [recOf]); rw [← hrec] at this; exact this, hdone _ (hI _ _ _ hi (below_put _ (by omega))) ((World.putObj_heap_other (by omega)).trans h3)⟩
/-- What an iterator tells whose first round says 'no more'; it turns the block G alone. -/
def TellsOne (P : Program) (gf : Nat) (lb : Array Value) (best : Option α) (enc : α → Value) (G : Nat) (Inv : World → Prop) (w : World) : Prop :=
  ∀ (l : Nat) (Jx : World → Prop) (W : World), Below w.heap.size w W →
    (∀ x W1, best = some x → Inv W1 → Foot [G] [G] W W1 → YieldAt Fence.wide 0 P l #[enc x] W1 fun e W' => e = .returned (.bool false) ∧ Jx W') →
    CallsIn Fence.wide 0 P gf (#[.func (.yield l) #[] #[]] ++ lb) W fun e W' => (∃ v, e = .returned v) ∧ ((best = none ∧ Inv W' ∧ Foot [G] [G] W W') ∨ (∃ x, best = some x ∧ Jx W'))
/-- The law where the first round returns. -/
theorem range_one {g : Operand} {p : Tmp} {assign body : Code} {Q : Exit → Act → World → Prop} {a : Act} {w : World} {gf : Nat} {lb : Array Value} (hg : a.eval g = .func (.func gf) #[] lb) (eg : ∀ args w, (callFunc gf args).run P w = .ok (.enter gf args) w)
    (best : Option α) (enc : α → Value) (G : Nat) (hG : G < w.heap.size) (Inv : World → Prop) (w0 : World) (hseq : TellsOne P gf lb best enc G Inv w0) (hb0 : Below w0.heap.size w0 w)
    (M : List Nat) (hM : ∀ k ∈ M, k < w.heap.size) (J : World → Prop) (hJ : ∀ A B, J A → Below w.heap.size A B → J B) (hInv : ∀ A B, Inv A → Below w.heap.size A B → Inv B)
    (hround : ∀ l x W, best = some x → w.heap.size < l → l < W.heap.size → Inv W → (∀ j, j < w.heap.size → j ≠ G → W.heap[j]? = w.heap[j]?) → W.os = w.os → W.tape = w.tape → W.output = w.output →
      assign.wpIn (Fence.wide.inRound l) 0 P (Exit.then (fun a₁ w₁ => Below W.heap.size W w₁ ∧ ∀ w₂, Foot [l] [l] w₁ w₂ → body.wpIn (Fence.wide.inRound l) 0 P (fun e _ W3 => e = .ret ∧ Foot M M w₂ W3 ∧ J W3) a₁ w₂) (fun _ _ _ => False))
        { tmps := a.tmps.setIfInBounds p (enc x), defers := [] } W)
    (hdone : ∀ W, best = none → Inv W → (∀ j, j < w.heap.size → j ≠ G → W.heap[j]? = w.heap[j]?) → w.heap.size ≤ W.heap.size → W.os = w.os → W.tape = w.tape → W.output = w.output → W.heap[w.heap.size]? = some (.deferred (some [])) → Q .normal { a with defers := [{ target := .collected w.heap.size, args := #[] }] ++ a.defers } W)
    (hstop : ∀ x W, best = some x → J W → W.heap[w.heap.size]? = some (.deferred (some [])) → Q .ret { a with defers := [{ target := .collected w.heap.size, args := #[] }] ++ a.defers } W) :
    (Code.rangeFunc g #[p] assign body).wp P Q a w := by
  refine enter_law hg eg fun fn W1 hb1 hL1 hK1 => ?_
  obtain ⟨l, hl⟩ : ∃ l, w.heap.size + 1 = l := ⟨_, rfl⟩
  rw [hl] at hL1 ⊢
  obtain ⟨rec, hrec⟩ : ∃ rec, recOf fn a #[p] assign body w.heap.size = rec := ⟨_, rfl⟩
  rw [hrec] at hL1
  have hlW1 : l < W1.heap.size := (Array.getElem?_eq_some_iff.1 hL1).1
  refine (hseq l (fun W => J W ∧ W.heap[l]? = some (.loop (rec .done (some .ret))) ∧ W.heap[w.heap.size]? = some (.deferred (some []))) W1 (hb0.trans (hb1.mono hb0.size)) ?_).mono ?_
  · rintro x W hx hinv hfW
    have h2 := (hfW.keep l hlW1 (by simp; omega)).trans hL1
    have h3 := (hfW.keep _ (by omega) (by simp; omega)).trans hK1
    have hlW : l < W.heap.size := (Array.getElem?_eq_some_iff.1 h2).1
    have hy := run_yield (P := P) (args := #[enc x]) h2 (by rw [← hrec]; simp [recOf])
    refine ⟨_, _, _, _, hy, roundIn_of_wpIn trivial ?_⟩
    rw [← hrec]
    show assign.wpIn _ _ _ _ { tmps := (#[p].zip #[_]).foldl _ a.tmps, defers := [] } W
    rw [zip_one]
    refine wpIn_mono (hround l x W hx (by omega) hlW hinv (fun j hj hn => (hfW.keep j (by omega) (by simpa using hn)).trans (hb1.block j hj)) (hfW.os.trans hb1.os) (hfW.tape.trans hb1.tape) (hfW.output.trans hb1.output)) ?_
    rintro e a₁ w₁ he
    cases e with
    | normal =>
      obtain ⟨hb, hbody⟩ := he
      have hl1 : w₁.heap[l]? = some (.loop (rec .ready none)) := (hb.block l hlW).trans h2
      have hk1 : w₁.heap[w.heap.size]? = some (.deferred (some [])) := (hb.block _ (by omega)).trans h3
      have hll : l < w₁.heap.size := (Array.getElem?_eq_some_iff.1 hl1).1
      refine ⟨_, run_beginRound hl1 (by rw [← hrec]; rfl), ?_⟩
      refine wpIn_mono (hbody _ (foot_put w₁ l _)) ?_
      rintro e a₂ W3 ⟨rfl, hf, hi3⟩
      have hlM : l ∉ M := fun e => by have := hM l e; omega
      have hDM : w.heap.size ∉ M := fun e => by have := hM _ e; omega
      have hl3 := (hf.keep l (by simpa using hll) hlM).trans (World.putObj_heap_same hll)
      have hr3 := run_endRound (P := P) (some Code.ret) hl3
      refine ⟨_, _, hr3, rfl, hJ _ _ hi3 (below_put _ (by omega)), ?_, ?_⟩
      · rw [World.putObj_heap_same (Array.getElem?_eq_some_iff.1 hl3).1, ← hrec]; rfl
      · rw [World.putObj_heap_other (by omega), hf.keep _ (by simp; omega) hDM, World.putObj_heap_other (by omega)]; exact hk1
    | exit id => exact he.elim
    | goto t => exact he.elim
    | ret => exact he.elim
    | panic c => exact he.elim
    | outgrown => exact he.elim
  · rintro e W2 ⟨⟨v, rfl⟩, ⟨hb, hinv, hf⟩ | ⟨x, hx, hj, h2, h3⟩⟩
    · have h2 := (hf.keep l hlW1 (by simp; omega)).trans hL1
      have h3 := (hf.keep _ (by omega) (by simp; omega)).trans hK1
      have hsz := hf.size
      refine ⟨none, _, by have := run_endLoop (P := P) h2 (by rw [← hrec]; simp [recOf]); rw [← hrec] at this; exact this, hdone _ hb (hInv _ _ hinv (below_put _ (by omega))) (fun j hj hn => ?_) (by simp; omega) (hf.os.trans hb1.os) (hf.tape.trans hb1.tape) (hf.output.trans hb1.output) ((World.putObj_heap_other (by omega)).trans h3)⟩
      rw [World.putObj_heap_other (by omega)]
      exact (hf.keep j (by omega) (by simpa using hn)).trans (hb1.block j hj)
    · exact ⟨some .ret, _, by have := run_endLoop (P := P) h2 (by rw [← hrec]; simp [recOf]); rw [← hrec] at this; exact this, wpIn_ret (hstop x _ hx (hJ _ _ hj (below_put _ (by omega))) ((World.putObj_heap_other (by omega)).trans h3))⟩
end
end Go.Proofs.Ytjpjobbmljlacaa
/- A row's block, cell by cell: copies of entries, cleared entries. -/
namespace Go.Proofs.Ytjpjobbmljlacaa
open Go.RowKit
set_option linter.unusedVariables false
set_option maxRecDepth 20000

/-- A block of c cells of entries. -/
def Blk (w : World) (g c : Nat) : Prop := ∃ cur : Array Value, w.heap[g]? = some (.cells cur 42 (0, 0)) ∧ cur.size = c
section
variable {w w' : World} {g c : Nat}
theorem Blk.lt (h : Blk w g c) : g < w.heap.size := by
  obtain ⟨cur, h1, _⟩ := h
  exact (Array.getElem?_eq_some_iff.1 h1).1
theorem Blk.same (h : Blk w g c) (e : w'.heap[g]? = w.heap[g]?) : Blk w' g c := by
  obtain ⟨cur, h1, h2⟩ := h
  exact ⟨cur, e.trans h1, h2⟩
theorem Blk.there (h : Blk w g c) (o n : Nat) (hn : o + n ≤ c) : w.there g o n := fun j hj => by
  obtain ⟨cur, h1, h2⟩ := h
  refine ⟨?_, ?_⟩
  · rw [cell_of_row w g (o + j) cur _ _ h1, Array.getElem?_eq_getElem (by omega)]; rfl
  · simp [World.frozen?, h1]
theorem Blk.setCell (h : Blk w g c) (b o : Nat) (v : Value) : Blk (w.setCell ⟨b, o, none⟩ v) g c := by
  obtain ⟨cur, h1, h2⟩ := h
  by_cases e : g = b
  · subst e
    obtain ⟨hlt, hk⟩ := Array.getElem?_eq_some_iff.1 h1
    refine ⟨cur.setIfInBounds o v, ?_, by simp [h2]⟩
    show (w.heap.modify g _)[g]? = _
    rw [Array.getElem?_eq_getElem (by rw [Array.size_modify]; exact hlt), Array.getElem_modify_self, hk]
    rfl
  · exact ⟨cur, (Below.heap_setCell w ⟨b, o, none⟩ v g e).trans h1, h2⟩
theorem Blk.setCells (b : Nat) : ∀ (vs : List Value) (o : Nat) (w : World), Blk w g c → Blk (w.setCells b o vs) g c
  | [], _, _, h => h
  | v :: r, o, w, h => Blk.setCells b r (o + 1) _ (h.setCell b o v)
end
theorem range_append {w : World} {b o : Nat} {xs ys : List Value} (h1 : w.rangeAt b o xs) (h2 : w.rangeAt b (o + xs.length) ys) : w.rangeAt b o (xs ++ ys) := fun j u hu => by
  by_cases hj : j < xs.length
  · exact h1 j u (by rwa [List.getElem?_append_left hj] at hu)
  · rw [List.getElem?_append_right (by omega)] at hu
    have := h2 (j - xs.length) u hu
    rw [show o + xs.length + (j - xs.length) = o + j by omega] at this
    exact this
theorem rowT_of {w : World} {g cap : Nat} {es : List Ent} (hb : Blk w g (cap * 19)) (hl : es.length ≤ cap) (hm : cap ≤ maxLen) (hr : w.rangeAt g 0 (flatE es)) (hg : AllGood es) (hle : es.length ≤ 1000) : RowT w 0 (.slice (some ⟨g, 0, none⟩) es.length cap) es := by
  obtain ⟨cur, h1, h2⟩ := hb
  have hf := flatE_len es hg
  refine ⟨⟨hf, .inr ⟨g, cap, cur, rfl, Nat.zero_le _, h1, hl, hm, h2, ?_⟩⟩, hg, hle⟩
  apply List.ext_getElem?
  intro j
  by_cases hj : j < es.length * 19
  · rw [List.getElem?_take, if_pos hj, Array.getElem?_toList]
    have h3 : j < (flatE es).length := by omega
    have := hr j _ (List.getElem?_eq_getElem h3)
    rw [Nat.zero_add, cell_of_row w g j cur _ _ h1] at this
    rw [this, List.getElem?_eq_getElem h3]
  · rw [List.getElem?_take, if_neg hj, List.getElem?_eq_none (by omega)]
theorem RowT.blk {w : World} {base : Nat} {v : Value} {es : List Ent} (h : RowT w base v es) : (v = .slice none 0 0 ∧ es = []) ∨ ∃ g cap, v = .slice (some ⟨g, 0, none⟩) es.length cap ∧ base ≤ g ∧ Blk w g (cap * 19) ∧ es.length ≤ cap ∧ cap ≤ maxLen ∧ w.rangeAt g 0 (flatE es) := by
  rcases h.form with h1 | ⟨g, cap, e1, e2, e3, e4, e5, e6⟩
  · exact .inl h1
  · refine .inr ⟨g, cap, e1, e2, ?_, e4, e5, e6⟩
    rcases h.1.2 with ⟨h2, _⟩ | ⟨g', cap', cur, f1, _, f3, _, _, f6, _⟩
    · rw [e1] at h2; cases h2
    · rw [e1] at f1
      cases f1
      exact ⟨cur, f3, f6⟩
/-- Entries copied. -/
theorem copyT (w : World) (ty : TypeId) (b o dLen dCap : Nat) (a : Addr) (sLen sCap n : Nat) (cs : List Value) (hn : n = Nat.min sLen dLen) (hl : cs.length = n * 19)
    (hsrc : ∀ j v, cs[j]? = some v → w.cell? (a.add j) = some v) (ht : w.there b o (n * 19)) (h1 : ∀ v ∈ cs, v.oneCell' = true) :
    (Builtin.copy_ #[57, 57] ty #[.slice (some ⟨b, o, none⟩) dLen dCap, .slice (some a) sLen sCap]).run Try.prog w = .ok (goInt n) (w.setCells b o cs) := by
  have hl2 := run_loadCells_list (P := Try.prog) w a cs hsrc
  have hst := run_storeCells_cells (P := Try.prog) b o cs 0 w (fun j hj => by simpa using (ht j (by omega)).1) (fun j hj => by simpa using (ht j (by omega)).2) h1
  rw [hl] at hl2
  cases hq : Try.prog.info? 42 with
  | none => have := entT_size; rw [hq] at this; cases this
  | some i =>
    have hi : i.size = 19 := by have := entT_size; rw [hq] at this; simpa using this
    simp [Builtin.copy_, run_underlying Try.underlying57, Builtin.lenOf, Builtin.firstCells, sizeOf, typeInfo, hq, hi, ← hn, hl2, hst]
/-- An operation that copies, whose run is known. -/
theorem wp_copyT (w : World) {o : Oper} {a : Act} {K : Act → World → Prop} {Q : Exit → Act → World → Prop} (d s : Operand)
    (ho : o.op = .call { callee := .builtin .copy, args := #[d, s], argTypes := #[57, 57] }) (v u : Value) (hd : a.eval d = v) (hs : a.eval s = u) {v' : Value} {w' : World}
    (hr : (Builtin.copy_ #[57, 57] o.type #[v, u]).run Try.prog w = .ok v' w') (h : K (a.put o.dst v') w') : o.wp Try.prog a w K Q := by
  unfold Oper.wp execOp
  simp only [ho, resolve, invoke, builtin, Sem.run_bind, Sem.run_pure, Result.andThen_ok, List.map_toArray, List.map_cons, List.map_nil, hd, hs, hr]
  exact h
theorem copy_stepT (w : World) {ops : Array Oper} {rest : List Oper} {o : Oper} {a : Act} {Q : Exit → Act → World → Prop} (hgd : o.guard = none) (d s : Operand)
    (ho : o.op = .call { callee := .builtin .copy, args := #[d, s], argTypes := #[57, 57] }) (v u : Value) (hd : a.eval d = v) (hs : a.eval s = u) {v' : Value} {w' : World}
    (hr : (Builtin.copy_ #[57, 57] o.type #[v, u]).run Try.prog w = .ok v' w') (h : wpList Try.prog ops Q rest (a.put o.dst v') w') : wpList Try.prog ops Q (o :: rest) a w :=
  wpList_plain hgd fun _ hK => wp_copyT w d s ho v u hd hs hr (hK _ _ h)
/-- Entries appended in place, where there is room. -/
theorem appendT_room (w : World) (ty : TypeId) (b sLen sCap : Nat) (a : Addr) (n c : Nat) (cs : List Value) (hroom : sLen + n ≤ sCap) (hl : cs.length = n * 19)
    (hsrc : ∀ j v, cs[j]? = some v → w.cell? (a.add j) = some v) (ht : w.there b (sLen * 19) (n * 19)) (h1 : ∀ v ∈ cs, v.oneCell' = true) :
    (Builtin.append_ #[57, 57] ty #[.slice (some ⟨b, 0, none⟩) sLen sCap, .slice (some a) n c]).run Try.prog w = .ok (.slice (some ⟨b, 0, none⟩) (sLen + n) sCap) (w.setCells b (sLen * 19) cs) := by
  have hl2 := run_loadCells_list (P := Try.prog) w a cs hsrc
  have hst := run_storeCells_cells (P := Try.prog) b (sLen * 19) cs 0 w (fun j hj => by simpa using (ht j (by omega)).1) (fun j hj => by simpa using (ht j (by omega)).2) h1
  rw [hl] at hl2
  have hadd : (⟨b, 0, none⟩ : Addr).add (sLen * 19) = ⟨b, sLen * 19, none⟩ := by rw [Addr.add_mid, Nat.zero_add]
  cases hq : Try.prog.info? 42 with
  | none => have := entT_size; rw [hq] at this; cases this
  | some i =>
    have hi : i.size = 19 := by have := entT_size; rw [hq] at this; simpa using this
    simp [Builtin.append_, run_underlying Try.underlying57, Builtin.lenOf, Builtin.firstCells, sizeOf, typeInfo, hq, hi, hl2, hst, hroom, hadd]
/-- Entries cleared. -/
theorem clearT (w : World) (b o n c : Nat) (hn : n ≠ 0) (ht : w.there b o (n * 19)) :
    ∃ cs : List Value, cs.length = n * 19 ∧ ∀ ty, (Builtin.clear_ #[57] ty #[.slice (some ⟨b, o, none⟩) n c]).run Try.prog w = .ok (.tuple #[]) (w.setCells b o cs) := by
  obtain ⟨i0, hi0, hz0, hz1, hz2⟩ := info_parts infoT
  obtain ⟨cs, hcs⟩ : ∃ cs, (Builtin.zeroCells (Value.agg zE).cells n).toList = cs := ⟨_, rfl⟩
  have hlen : cs.length = n * 19 := by rw [← hcs]; simp [Builtin.zeroCells, Value.cells]
  have hone : ∀ v ∈ cs, v.oneCell' = true := by
    intro v hv
    rw [← hcs] at hv
    simp only [Builtin.zeroCells, Value.cells, Array.toList_map, List.mem_map] at hv
    obtain ⟨j, _, rfl⟩ := hv
    have : ∀ k : Fin 19, (zE[k.val]!).oneCell' = true := by decide
    exact this ⟨j % 19, Nat.mod_lt _ (by decide)⟩
  refine ⟨cs, hlen, fun ty => ?_⟩
  have hst := run_storeCells_cells (P := Try.prog) b o cs 0 w (fun j hj => by simpa using (ht j (by omega)).1) (fun j hj => by simpa using (ht j (by omega)).2) hone
  obtain ⟨m, rfl⟩ : ∃ m, n = m + 1 := ⟨n - 1, by omega⟩
  simp [Builtin.clear_, run_underlying Try.underlying57, zeroValue, typeInfo, hi0, hz0, hcs, hst]
theorem clear_stepT (w : World) {ops : Array Oper} {rest : List Oper} {o : Oper} {a : Act} {Q : Exit → Act → World → Prop} (hgd : o.guard = none) (x : Operand)
    (ho : o.op = .call { callee := .builtin .clear, args := #[x], argTypes := #[57] }) (v : Value) (hx : a.eval x = v) {v' : Value} {w' : World}
    (hr : (Builtin.clear_ #[57] o.type #[v]).run Try.prog w = .ok v' w') (h : wpList Try.prog ops Q rest (a.put o.dst v') w') : wpList Try.prog ops Q (o :: rest) a w :=
  wpList_plain hgd fun _ hK => by
    unfold Oper.wp execOp
    simp only [ho, resolve, invoke, builtin, Sem.run_bind, Sem.run_pure, Result.andThen_ok, List.map_toArray, List.map_cons, List.map_nil, hx, hr]
    exact hK _ _ h
end Go.Proofs.Ytjpjobbmljlacaa
/- Contract of slices.Delete of one entry. -/
namespace Go.Proofs.Ytjpjobbmljlacaa
open Go.RowKit
set_option linter.unusedVariables false
set_option maxRecDepth 20000

/-- The block of a row. -/
def blkL (v : Value) : List Nat := v.ownBlock.toList
set_option maxRecDepth 100000 in
set_option maxHeartbeats 500000 in
theorem delete_any (g cap : Nat) (es : List Ent) (i : Nat) (w : World) (hb : Blk w g (cap * 19)) (hc : es.length ≤ cap) (hm : cap ≤ maxLen) (hr : w.rangeAt g 0 (flatE es)) (hg : AllGood es) (hle : es.length ≤ 1000) (hi : i < es.length) :
    Calls Try.prog 43 #[.slice (some ⟨g, 0, none⟩) es.length cap, .int .i64 (i : Int), .int .i64 ((i : Int) + 1)] w fun e w' =>
      e = .returned (.slice (some ⟨g, 0, none⟩) (es.length - 1) cap) ∧ RowT w' 0 (.slice (some ⟨g, 0, none⟩) (es.length - 1) cap) (es.take i ++ es.drop (i + 1)) ∧ Foot [g] [g] w w' := by
  have hlen : (es.take i ++ es.drop (i + 1)).length = es.length - 1 := by rw [List.length_append, List.length_take, List.length_drop]; omega
  have hgd : AllGood (es.drop (i + 1)) := fun e he => hg e (List.mem_of_mem_drop he)
  have hgt : AllGood (es.take i) := fun e he => hg e (List.mem_of_mem_take he)
  have hfl : (flatE (es.drop (i + 1))).length = (es.length - (i + 1)) * 19 := by rw [flatE_len _ hgd, List.length_drop]
  have hft : (flatE (es.take i)).length = i * 19 := by rw [flatE_len _ hgt, List.length_take, Nat.min_eq_left (by omega)]
  have HFIN : Hid (∀ cs : List Value, cs.length = 1 * 19 → RowT ((w.drew.setCells g (i * 19) (flatE (es.drop (i + 1)))).setCells g ((es.length - 1) * 19) cs) 0 (.slice (some ⟨g, 0, none⟩) (es.length - 1) cap) (es.take i ++ es.drop (i + 1))) := Lib.hid (fun cs hcs => by
    have hbD : Blk w.drew g (cap * 19) := hb
    have := rowT_of (w := (w.drew.setCells g (i * 19) (flatE (es.drop (i + 1)))).setCells g ((es.length - 1) * 19) cs) (g := g) (cap := cap) (es := es.take i ++ es.drop (i + 1)) (Blk.setCells g _ _ _ (Blk.setCells g _ _ _ hbD)) (by omega) hm ?_ (fun e he => by
      rcases List.mem_append.1 he with he | he
      · exact hgt e he
      · exact hgd e he) (by omega)
    · rw [hlen] at this; exact this
    · have h1 : w.drew.rangeAt g 0 (flatE (es.take i)) := cell_take hr i
      have h2 := World.rangeAt_setCells_same w.drew g (i * 19) (flatE (es.drop (i + 1))) (hbD.there _ _ (by rw [hfl]; omega))
      have h3 := World.rangeAt_setCells_apart h1 g (i * 19) (flatE (es.drop (i + 1))) (.inr (.inl (by rw [hft]; omega)))
      rw [flatE_append]
      refine World.rangeAt_setCells_apart (range_append h3 (by rw [hft, Nat.zero_add]; exact h2)) _ _ _ (.inr (.inl (by rw [List.length_append, hft, hfl]; omega))))
  have HFT : Hid (∀ cs : List Value, Foot [g] [g] w ((w.drew.setCells g (i * 19) (flatE (es.drop (i + 1)))).setCells g ((es.length - 1) * 19) cs)) := Lib.hid (fun cs => ((Foot.ofBelow [g] (Below.refl _ _).drew).trans (foot_cells g _ _)).trans (foot_cells g _ _))
  have HAP : ∀ c, Hid ((Builtin.append_ #[57, 57] 57 #[.slice (some ⟨g, 0, none⟩) i cap, .slice (some ⟨g, (i + 1) * 19, none⟩) (es.length - (i + 1)) c]).run Try.prog w.drew = .ok (.slice (some ⟨g, 0, none⟩) (es.length - 1) cap) (w.drew.setCells g (i * 19) (flatE (es.drop (i + 1))))) := fun c => Lib.hid (by
    have := appendT_room w.drew 57 g i cap ⟨g, (i + 1) * 19, none⟩ (es.length - (i + 1)) c (flatE (es.drop (i + 1))) (by omega) hfl (fun j v hj => by rw [Addr.add_mid]; exact cell_drop hr hg (i + 1) (by omega) j v hj) (Blk.there (w := w.drew) hb _ _ (by omega)) (flatE_one _ hgd)
    rw [show i + (es.length - (i + 1)) = es.length - 1 by omega] at this
    exact this)
  have HAP2 : ∀ a c, Hid (es.length = i + 1 → (Builtin.append_ #[57, 57] 57 #[.slice (some ⟨g, 0, none⟩) i cap, .slice (some a) (es.length - (i + 1)) c]).run Try.prog w.drew = .ok (.slice (some ⟨g, 0, none⟩) (es.length - 1) cap) (w.drew.setCells g (i * 19) (flatE (es.drop (i + 1))))) := fun a c => Lib.hid (fun e => by
    have hd0 : es.drop (i + 1) = [] := List.drop_eq_nil_of_le (by omega)
    have := appendT_room w.drew 57 g i cap a (es.length - (i + 1)) c (flatE (es.drop (i + 1))) (by omega) hfl (fun j v hj => by rw [hd0] at hj; cases hj) (fun j hj => absurd hj (by omega)) (flatE_one _ hgd)
    rw [show i + (es.length - (i + 1)) = es.length - 1 by omega] at this
    exact this)
  have HCL := clearT (w.drew.setCells g (i * 19) (flatE (es.drop (i + 1)))) g ((es.length - 1) * 19) (es.length - (es.length - 1)) (cap - (es.length - 1)) (by omega) (Blk.there (Blk.setCells g _ _ _ (show Blk w.drew g (cap * 19) from hb)) _ _ (by omega))
  generalize flatE (es.drop (i + 1)) = ds at *
  generalize (es.take i ++ es.drop (i + 1)) = R at *
  clear hr hg hgd hgt hft hlen hb
  generalize es.length = N at *
  generalize hK : N - 1 = K at *
  generalize hD : N - (i + 1) = D at *
  have hmx : maxLen ≤ 9223372036854775807 := by unfold maxLen; omega
  have hne : ((i : Int) == (i : Int) + 1) = false := by simp; omega
  have hb0 : (0 : Int) ≤ (i : Int) + 1 := by omega
  have hb1 : (i : Int) + 1 ≤ (N : Int) := by omega
  have hb2 : (i : Int) ≤ (i : Int) + 1 := by omega
  have hb3 : (N : Int) ≤ (cap : Int) := by omega
  have hb4 : (i : Int) ≤ (cap : Int) := by omega
  have hbt : ((i : Int) + 1).toNat = i + 1 := by omega
  have hb5 : (K : Int) ≤ (N : Int) := by omega
  have hb6 : ¬ (cap = i) := by omega
  have hb7 : ¬ (cap = K) := by omega
  go_enter Try.func43, Try.ntmps43
  go_upto_region 5 with fail
  obtain ⟨cs, hcs, HCR⟩ := HCL
  have HCR2 := Lib.hid HCR
  have HFIN2 := Lib.hid (HFIN.out cs (by omega))
  have HFT2 := Lib.hid (HFT.out cs)
  clear HFIN HFT HCR
  by_cases hcp : cap = i + 1
  · subst hcp
    refine wp_region_noPanic ?_
    refine wp_region_held_drew (S := fun _ => True) (by kernel_rfl) trivial (fun hHeld => ?_)
    refine wpAnyH_take (i := 0) (v := ?_) rfl (by kernel_rfl) (by kernel_rfl) (by kernel_rfl) (fun _ _ _ h => h) (Or.inl ⟨by rfl, ?_⟩) (by assumption) ?_
    rotate_left
    · (intro w hSw; go_simp; try (with_reducible rfl))
    try simp only [Act.put, List.getElem_toArray, List.getElem_cons_zero, List.setIfInBounds_toArray, List.set_cons_zero, List.set_cons_succ]
    refine wpAnyH_take (i := 1) (v := ?_) rfl (by kernel_rfl) (by kernel_rfl) (by kernel_rfl) (fun _ _ _ h => h) (Or.inl ⟨by rfl, ?_⟩) (by assumption) ?_
    rotate_left
    · (intro w hSw; go_simp; try (with_reducible rfl))
    try simp only [Act.put, List.getElem_toArray, List.getElem_cons_zero, List.getElem_cons_succ, List.setIfInBounds_toArray, List.set_cons_zero, List.set_cons_succ]
    refine wpAnyH_take (i := 2) (v := ?_) rfl (by kernel_rfl) (by kernel_rfl) (by kernel_rfl) (fun _ _ _ h => h) (Or.inl ⟨by rfl, ?_⟩) (by assumption) ?_
    rotate_left
    · (intro w hSw; go_simp; try (with_reducible rfl))
    try simp only [Act.put, List.getElem_toArray, List.getElem_cons_zero, List.getElem_cons_succ, List.setIfInBounds_toArray, List.set_cons_zero, List.set_cons_succ]
    refine wpAnyH_take (i := 3) (v := ?_) rfl (by kernel_rfl) (by kernel_rfl) (by kernel_rfl) (fun _ _ _ h => h) (Or.inl ⟨by rfl, ?_⟩) (by assumption) ?_
    rotate_left
    · (intro w hSw; go_simp; try (with_reducible rfl))
    try simp only [Act.put, List.getElem_toArray, List.getElem_cons_zero, List.getElem_cons_succ, List.setIfInBounds_toArray, List.set_cons_zero, List.set_cons_succ]
    refine wpAnyH_take (i := 4) (v := ?_) rfl (by kernel_rfl) (by kernel_rfl) (by kernel_rfl) (fun _ _ _ h => h) (Or.inl ⟨by rfl, ?_⟩) (by assumption) ?_
    rotate_left
    · (intro w hSw; go_simp; try (with_reducible rfl))
    try simp only [Act.put, List.getElem_toArray, List.getElem_cons_zero, List.getElem_cons_succ, List.setIfInBounds_toArray, List.set_cons_zero, List.set_cons_succ]
    refine wpAnyH_take (i := 5) (v := ?_) rfl (by kernel_rfl) (by kernel_rfl) (by kernel_rfl) (fun _ _ _ h => h) (Or.inl ⟨by rfl, ?_⟩) (by assumption) ?_
    rotate_left
    · (intro w hSw; go_simp; try (with_reducible rfl))
    try simp only [Act.put, List.getElem_toArray, List.getElem_cons_zero, List.getElem_cons_succ, List.setIfInBounds_toArray, List.set_cons_zero, List.set_cons_succ]
    refine wpAnyH_ready (rs := [6]) (by kernel_rfl) (by simp) ?_
    refine AllReadyH.one rfl rfl (fun K2 hK2 => ?_)
    have hap := (HAP2 ⟨g, 0, none⟩ 0).out (by omega)
    refine Lib.wp_append_run _ _ _ _ _ rfl _ _ rfl rfl _ _ hap ?_
    refine hK2.out _ _ trivial (fun _ => ?_)
    clear hK2 K2
    try simp only [Act.put, List.getElem_toArray, List.getElem_cons_zero, List.getElem_cons_succ, List.setIfInBounds_toArray, List.set_cons_zero, List.set_cons_succ]
    refine wpAnyH_take (i := 7) (v := ?_) rfl (by kernel_rfl) (by kernel_rfl) (by kernel_rfl) (fun _ _ _ h => h) (Or.inl ⟨by rfl, ?_⟩) (by assumption) ?_
    rotate_left
    · (intro w hSw; go_simp; try (with_reducible rfl))
    try simp only [Act.put, List.getElem_toArray, List.getElem_cons_zero, List.getElem_cons_succ, List.setIfInBounds_toArray, List.set_cons_zero]
    refine wpAnyH_done (by kernel_rfl) ?_ _
    refine NoPanic.normal ?_
    have hb8 : ¬ ((K : Int) < 0) := by omega
    clear HAP HAP2
    generalize w.drew.setCells g (i * 19) ds = V at *
    go_wp2_with (refine clear_stepT _ rfl _ rfl _ rfl (HCR2.out _) ?_)
    go_ret
    exact ⟨rfl, HFIN2.out, HFT2.out⟩
  · refine wp_region_noPanic ?_
    refine wp_region_held_drew (S := fun _ => True) (by kernel_rfl) trivial (fun hHeld => ?_)
    refine wpAnyH_take (i := 0) (v := ?_) rfl (by kernel_rfl) (by kernel_rfl) (by kernel_rfl) (fun _ _ _ h => h) (Or.inl ⟨by rfl, ?_⟩) (by assumption) ?_
    rotate_left
    · (intro w hSw; go_simp; try (with_reducible rfl))
    try simp only [Act.put, List.getElem_toArray, List.getElem_cons_zero, List.setIfInBounds_toArray, List.set_cons_zero, List.set_cons_succ]
    refine wpAnyH_take (i := 1) (v := ?_) rfl (by kernel_rfl) (by kernel_rfl) (by kernel_rfl) (fun _ _ _ h => h) (Or.inl ⟨by rfl, ?_⟩) (by assumption) ?_
    rotate_left
    · (intro w hSw; go_simp; try (with_reducible rfl))
    try simp only [Act.put, List.getElem_toArray, List.getElem_cons_zero, List.getElem_cons_succ, List.setIfInBounds_toArray, List.set_cons_zero, List.set_cons_succ]
    refine wpAnyH_take (i := 2) (v := ?_) rfl (by kernel_rfl) (by kernel_rfl) (by kernel_rfl) (fun _ _ _ h => h) (Or.inl ⟨by rfl, ?_⟩) (by assumption) ?_
    rotate_left
    · (intro w hSw; go_simp; try (with_reducible rfl))
    try simp only [Act.put, List.getElem_toArray, List.getElem_cons_zero, List.getElem_cons_succ, List.setIfInBounds_toArray, List.set_cons_zero, List.set_cons_succ]
    refine wpAnyH_take (i := 3) (v := ?_) rfl (by kernel_rfl) (by kernel_rfl) (by kernel_rfl) (fun _ _ _ h => h) (Or.inl ⟨by rfl, ?_⟩) (by assumption) ?_
    rotate_left
    · (intro w hSw; go_simp; try (with_reducible rfl))
    try simp only [Act.put, List.getElem_toArray, List.getElem_cons_zero, List.getElem_cons_succ, List.setIfInBounds_toArray, List.set_cons_zero, List.set_cons_succ]
    refine wpAnyH_take (i := 4) (v := ?_) rfl (by kernel_rfl) (by kernel_rfl) (by kernel_rfl) (fun _ _ _ h => h) (Or.inl ⟨by rfl, ?_⟩) (by assumption) ?_
    rotate_left
    · (intro w hSw; go_simp; try (with_reducible rfl))
    try simp only [Act.put, List.getElem_toArray, List.getElem_cons_zero, List.getElem_cons_succ, List.setIfInBounds_toArray, List.set_cons_zero, List.set_cons_succ]
    refine wpAnyH_take (i := 5) (v := ?_) rfl (by kernel_rfl) (by kernel_rfl) (by kernel_rfl) (fun _ _ _ h => h) (Or.inl ⟨by rfl, ?_⟩) (by assumption) ?_
    rotate_left
    · (intro w hSw; go_simp; try (with_reducible rfl))
    try simp only [Act.put, List.getElem_toArray, List.getElem_cons_zero, List.getElem_cons_succ, List.setIfInBounds_toArray, List.set_cons_zero, List.set_cons_succ]
    refine wpAnyH_ready (rs := [6]) (by kernel_rfl) (by simp) ?_
    refine AllReadyH.one rfl rfl (fun K2 hK2 => ?_)
    refine Lib.wp_append_run _ _ _ _ _ rfl _ _ rfl rfl _ _ (HAP _).out ?_
    refine hK2.out _ _ trivial (fun _ => ?_)
    clear hK2 K2
    try simp only [Act.put, List.getElem_toArray, List.getElem_cons_zero, List.getElem_cons_succ, List.setIfInBounds_toArray, List.set_cons_zero, List.set_cons_succ]
    refine wpAnyH_take (i := 7) (v := ?_) rfl (by kernel_rfl) (by kernel_rfl) (by kernel_rfl) (fun _ _ _ h => h) (Or.inl ⟨by rfl, ?_⟩) (by assumption) ?_
    rotate_left
    · (intro w hSw; go_simp; try (with_reducible rfl))
    try simp only [Act.put, List.getElem_toArray, List.getElem_cons_zero, List.getElem_cons_succ, List.setIfInBounds_toArray, List.set_cons_zero]
    refine wpAnyH_done (by kernel_rfl) ?_ _
    refine NoPanic.normal ?_
    have hb8 : ¬ ((K : Int) < 0) := by omega
    clear HAP HAP2
    generalize w.drew.setCells g (i * 19) ds = V at *
    go_wp2_with (refine clear_stepT _ rfl _ rfl _ rfl (HCR2.out _) ?_)
    go_ret
    exact ⟨rfl, HFIN2.out, HFT2.out⟩
end Go.Proofs.Ytjpjobbmljlacaa
/- Contract of slices.Insert of one entry. -/
namespace Go.Proofs.Ytjpjobbmljlacaa
open Go.RowKit
set_option linter.unusedVariables false
set_option maxRecDepth 20000

theorem flatE_single (e : Ent) : flatE [e] = e.L := by simp [flatE]
theorem good_single {e : Ent} (h : e.Good) : AllGood [e] := fun x hx => by rw [List.mem_singleton.1 hx]; exact h
/-- What an insertion leaves. -/
def InsE (v : Value) (es : List Ent) (w : World) (e : Ending) (w' : World) : Prop := ∃ v', e = .returned v' ∧ RowT w' 0 v' es ∧ Foot (blkL v) (blkL v') w w'
set_option maxRecDepth 100000 in
set_option maxHeartbeats 1000000 in
theorem insert_end (v : Value) (es : List Ent) (e : Ent) (vb vc : Nat) (w : World) (hR : RowT w 0 v es) (he : e.Good) (hle : es.length ≤ 999) (hv : w.rangeAt vb 0 e.L) :
    Calls Try.prog 42 #[v, .int .i64 (es.length : Int), .slice (some ⟨vb, 0, none⟩) 1 vc] w (InsE v (es ++ [e]) w) := by
  have HR := Lib.hid hR
  have HM : Hid (1 = [e].length) := Lib.hid rfl
  have HV : Hid (w.rangeAt vb 0 (flatE [e])) := Lib.hid (by rw [flatE_single]; exact hv)
  have HY := Lib.hid (good_single he)
  have HL : Hid (es.length + [e].length ≤ 1000) := Lib.hid (by simp; omega)
  have HB : Hid (0 ≤ w.heap.size) := Lib.hid (Nat.zero_le _)
  have HFO : Hid (∀ v' w', w.grownBy w' v.ownBlock → (v'.ownBlock = v.ownBlock ∨ v'.ownBlock = some w.heap.size) → Foot (blkL v) (blkL v') w w') := Lib.hid (fun v' w' hg ho => ⟨hg.os, hg.tape, hg.output, hg.size, fun k hk hn => hg.block k hk (fun e => hn (by unfold blkL; rw [← e]; simp)), fun k hk => by
    unfold blkL at hk ⊢
    rcases ho with e | e
    · rw [e] at hk; exact .inl hk
    · rw [e] at hk; simp at hk; exact .inr (by omega)⟩)
  rcases hR.form with ⟨rfl, rfl⟩ | ⟨g, cap, rfl, _, hg, hc, hmx, hrg⟩
  · clear hR hv he
    go_enter Try.func42, Try.ntmps42
    go_wp2_with (refine append_entsT HR _ _ rfl rfl rfl [e] rfl HM HV HY HL HB (fun v' w' H1 H2 H3 => ?_))
    go_ret
    exact ⟨v', rfl, H1.out, HFO.out _ _ H2.out H3.out⟩
  · clear hR hv he hrg
    have hm : maxLen ≤ 9223372036854775807 := by unfold maxLen; omega
    obtain ⟨N, hN⟩ : ∃ N, es.length = N := ⟨_, rfl⟩
    rw [hN] at HR HL HFO hc hle ⊢
    have HR2 : Hid (RowT w 0 (.slice (some ⟨g, 0, none⟩) N cap) es) := HR
    have hd : ((N : Int) == (N : Int)) = true := by simp
    have HN := Lib.hid hN
    clear hN HR
    have HL2 : Hid (es.length + [e].length ≤ 1000) := Lib.hid (by rw [HN.out]; exact HL.out)
    by_cases hcp : cap = N
    · subst hcp
      go_enter Try.func42, Try.ntmps42
      go_wp2_with (refine append_entsT HR2 _ _ rfl rfl rfl [e] rfl HM HV HY HL2 HB (fun v' w' H1 H2 H3 => ?_))
      go_ret
      exact ⟨v', rfl, H1.out, HFO.out _ _ H2.out H3.out⟩
    · go_enter Try.func42, Try.ntmps42
      go_wp2_with (refine append_entsT HR2 _ _ rfl rfl rfl [e] rfl HM HV HY HL2 HB (fun v' w' H1 H2 H3 => ?_))
      go_ret
      exact ⟨v', rfl, H1.out, HFO.out _ _ H2.out H3.out⟩
theorem sizeT (w : World) : (Go.sizeOf 42).run Try.prog w = .ok 19 w := by
  obtain ⟨i0, hi0, hz0, hz1, hz2⟩ := info_parts infoT
  simp [Go.sizeOf, typeInfo, hi0, hz1]
/-- A fresh argument does not overlap a row. -/
theorem overlaps_no (w : World) (g vb vc o lb cb c1 c2 : Nat) (hne : vb ≠ g) (hv : Blk w vb c1) (hg : Blk w g c2) (h2 : c2 ≠ 0) :
    (callFunc 53 #[.slice (some ⟨vb, 0, none⟩) 1 vc, .slice (some ⟨g, o, none⟩) lb cb]).run Try.prog w = .ok (.value (.bool false)) w := by
  obtain ⟨cur1, a1, a2⟩ := hv
  obtain ⟨cur2, b1, b2⟩ := hg
  rw [run_callFunc_extern Try.func53 (by kernel_rfl) (by kernel_rfl) (by kernel_rfl) (e := Extern.SlicesOverlaps.overlaps #[57, 57] #[4]) (by kernel_rfl),
    Lib.run_overlaps_apart w 57 4 42 Try.underlying57 19 sizeT ⟨vb, 0, none⟩ ⟨g, o, none⟩ 1 vc lb cb hne 42 42 cur1.size cur2.size (by simp [World.shape?, a1]) (by simp [World.shape?, b1]) (by omega) (by simp [World.frozen?, a1]) (by simp [World.frozen?, a1])]
  rfl
set_option maxRecDepth 100000 in
set_option maxHeartbeats 1000000 in
theorem insert_shift (g cap : Nat) (es : List Ent) (i : Nat) (e : Ent) (vb vc : Nat) (w : World) (hb : Blk w g (cap * 19)) (hc : es.length + 1 ≤ cap) (hm : cap ≤ maxLen) (hr : w.rangeAt g 0 (flatE es)) (hg : AllGood es) (hle : es.length ≤ 999) (hi : i < es.length) (he : e.Good) (hv : w.rangeAt vb 0 e.L) (hvb : Blk w vb 19) (hne : vb ≠ g) :
    Calls Try.prog 42 #[.slice (some ⟨g, 0, none⟩) es.length cap, .int .i64 (i : Int), .slice (some ⟨vb, 0, none⟩) 1 vc] w (InsE (.slice (some ⟨g, 0, none⟩) es.length cap) (es.take i ++ [e] ++ es.drop i) w) := by
  have hlen : (es.take i ++ [e] ++ es.drop i).length = es.length + 1 := by simp; omega
  have hgd : AllGood (es.drop i) := fun e he => hg e (List.mem_of_mem_drop he)
  have hgt : AllGood (es.take i) := fun e he => hg e (List.mem_of_mem_take he)
  have hfl : (flatE (es.drop i)).length = (es.length - i) * 19 := by rw [flatE_len _ hgd, List.length_drop]
  have hft : (flatE (es.take i)).length = i * 19 := by rw [flatE_len _ hgt, List.length_take, Nat.min_eq_left (by omega)]
  have heL : e.L.length = 19 := Ent.L_len e he.1.len
  have heO : ∀ u ∈ e.L, u.oneCell' = true := by have := flatE_one [e] (good_single he); rw [flatE_single] at this; exact this
  have hbD : Blk w.drew g (cap * 19) := hb
  have HFIN : Hid (RowT ((w.drew.setCells g ((i + 1) * 19) (flatE (es.drop i))).setCells g (i * 19) e.L) 0 (.slice (some ⟨g, 0, none⟩) (es.length + 1) cap) (es.take i ++ [e] ++ es.drop i)) := Lib.hid (by
    have := rowT_of (w := (w.drew.setCells g ((i + 1) * 19) (flatE (es.drop i))).setCells g (i * 19) e.L) (g := g) (cap := cap) (es := es.take i ++ [e] ++ es.drop i) (Blk.setCells g _ _ _ (Blk.setCells g _ _ _ hbD)) (by omega) hm ?_ (fun x hx => by
      rcases List.mem_append.1 hx with hx | hx
      · rcases List.mem_append.1 hx with hx | hx
        · exact hgt x hx
        · rw [List.mem_singleton.1 hx]; exact he
      · exact hgd x hx) (by omega)
    · rw [hlen] at this; exact this
    · have h1 : w.drew.rangeAt g 0 (flatE (es.take i)) := cell_take hr i
      have h2 := World.rangeAt_setCells_same w.drew g ((i + 1) * 19) (flatE (es.drop i)) (hbD.there _ _ (by rw [hfl]; omega))
      have h3 := World.rangeAt_setCells_apart h1 g ((i + 1) * 19) (flatE (es.drop i)) (.inr (.inl (by rw [hft]; omega)))
      have h4 := World.rangeAt_setCells_apart h3 g (i * 19) e.L (.inr (.inl (by rw [hft]; omega)))
      have h5 := World.rangeAt_setCells_apart h2 g (i * 19) e.L (.inr (.inr (by rw [heL]; omega)))
      have h6 := World.rangeAt_setCells_same (w.drew.setCells g ((i + 1) * 19) (flatE (es.drop i))) g (i * 19) e.L (Blk.there (Blk.setCells g _ _ _ hbD) _ _ (by rw [heL]; omega))
      rw [flatE_append, flatE_append, flatE_single]
      refine range_append (range_append h4 (by rw [hft, Nat.zero_add]; exact h6)) ?_
      rw [List.length_append, hft, heL, show 0 + (i * 19 + 19) = (i + 1) * 19 by omega]
      exact h5)
  have HFT : Hid (Foot [g] [g] w ((w.drew.setCells g ((i + 1) * 19) (flatE (es.drop i))).setCells g (i * 19) e.L)) := Lib.hid (((Foot.ofBelow [g] (Below.refl _ _).drew).trans (foot_cells g _ _)).trans (foot_cells g _ _))
  have HC1 : ∀ ty dl dc sl sc, Hid (es.length - i = Nat.min sl dl → (Builtin.copy_ #[57, 57] ty #[.slice (some ⟨g, (i + 1) * 19, none⟩) dl dc, .slice (some ⟨g, i * 19, none⟩) sl sc]).run Try.prog w.drew = .ok (goInt ((es.length - i : Nat) : Int)) (w.drew.setCells g ((i + 1) * 19) (flatE (es.drop i)))) := fun ty dl dc sl sc => Lib.hid (fun hmin =>
    copyT w.drew ty g ((i + 1) * 19) dl dc ⟨g, i * 19, none⟩ sl sc (es.length - i) (flatE (es.drop i)) hmin hfl (fun j v hj => by rw [Addr.add_mid]; exact cell_drop hr hg i (by omega) j v hj) (hbD.there _ _ (by omega)) (flatE_one _ hgd))
  have HC2 : ∀ ty dl dc, Hid (1 = Nat.min 1 dl → (Builtin.copy_ #[57, 57] ty #[.slice (some ⟨g, i * 19, none⟩) dl dc, .slice (some ⟨vb, 0, none⟩) 1 vc]).run Try.prog (w.drew.setCells g ((i + 1) * 19) (flatE (es.drop i))) = .ok (goInt ((1 : Nat) : Int)) ((w.drew.setCells g ((i + 1) * 19) (flatE (es.drop i))).setCells g (i * 19) e.L)) := fun ty dl dc => Lib.hid (fun hmin =>
    copyT _ ty g (i * 19) dl dc ⟨vb, 0, none⟩ 1 vc 1 e.L hmin (by rw [heL]) (fun j v hj => by rw [Addr.add_mid]; exact World.rangeAt_setCells_apart (w := w.drew) hv g _ _ (.inl hne) j v hj) (Blk.there (Blk.setCells g _ _ _ hbD) _ _ (by omega)) heO)
  have hov : ∀ lb cb, (callFunc 53 #[.slice (some ⟨vb, 0, none⟩) 1 vc, .slice (some ⟨g, (i + 1) * 19, none⟩) lb cb]).run Try.prog w = .ok (.value (.bool false)) w := fun lb cb => overlaps_no w g vb vc _ lb cb _ _ hne hvb hb (by omega)
  generalize flatE (es.drop i) = ds at *
  generalize (es.take i ++ [e] ++ es.drop i) = R at *
  generalize e.L = el at *
  clear hr hg hgd hgt hft hlen hb hbD hv hvb he
  generalize es.length = N at *
  have hmx : maxLen ≤ 9223372036854775807 := by unfold maxLen; omega
  have hd1 : ((i : Int) == (N : Int)) = false := by simp; omega
  have hd2 : decide ((cap : Int) < (N : Int) + 1) = false := by simp; omega
  have hb1 : (i : Int) ≤ (N : Int) := by omega
  have hb2 : (N : Int) + 1 ≤ (cap : Int) := by omega
  have hb3 : (i : Int) + 1 ≤ (N : Int) + 1 := by omega
  have hb4 : (0 : Int) ≤ (i : Int) + 1 := by omega
  have hb5 : (0 : Int) ≤ (N : Int) + 1 := by omega
  have hb6 : (i : Int) ≤ (N : Int) + 1 := by omega
  have ht1 : ((i : Int) + 1).toNat = i + 1 := by omega
  have ht2 : ((N : Int) + 1).toNat = N + 1 := by omega
  have hw1 : IntKind.i64.wrap ((i : Int) + 1) = (i : Int) + 1 := by rw [IntKind.wrap_i64]; omega
  have hw2 : IntKind.i64.wrap ((N : Int) + 1) = (N : Int) + 1 := by rw [IntKind.wrap_i64]; omega
  have hc1 : ¬ (cap = i) := by omega
  have hc2 : ¬ (cap = i + 1) := by omega
  go_enter Try.func42, Try.ntmps42
  go_upto_region 15 with (simp only [hov])
  refine wp_region_noPanic ?_
  refine wp_region_held_drew (S := fun _ => True) (by kernel_rfl) trivial (fun hHeld => ?_)
  refine wpAnyH_take (i := 0) (v := ?_) rfl (by kernel_rfl) (by kernel_rfl) (by kernel_rfl) (fun _ _ _ h => h) (Or.inl ⟨by rfl, ?_⟩) (by assumption) ?_
  rotate_left
  · (intro w hSw; go_simp; try (with_reducible rfl))
  try simp only [Act.put, List.getElem_toArray, List.getElem_cons_zero, List.setIfInBounds_toArray, List.set_cons_zero, List.set_cons_succ]
  refine wpAnyH_take (i := 1) (v := ?_) rfl (by kernel_rfl) (by kernel_rfl) (by kernel_rfl) (fun _ _ _ h => h) (Or.inl ⟨by rfl, ?_⟩) (by assumption) ?_
  rotate_left
  · (intro w hSw; go_simp; try (with_reducible rfl))
  try simp only [Act.put, List.getElem_toArray, List.getElem_cons_zero, List.getElem_cons_succ, List.setIfInBounds_toArray, List.set_cons_zero, List.set_cons_succ]
  refine wpAnyH_take (i := 2) (v := ?_) rfl (by kernel_rfl) (by kernel_rfl) (by kernel_rfl) (fun _ _ _ h => h) (Or.inl ⟨by rfl, ?_⟩) (by assumption) ?_
  rotate_left
  · (intro w hSw; go_simp; try (with_reducible rfl))
  try simp only [Act.put, List.getElem_toArray, List.getElem_cons_zero, List.getElem_cons_succ, List.setIfInBounds_toArray, List.set_cons_zero, List.set_cons_succ]
  refine wpAnyH_take (i := 3) (v := ?_) rfl (by kernel_rfl) (by kernel_rfl) (by kernel_rfl) (fun _ _ _ h => h) (Or.inl ⟨by rfl, ?_⟩) (by assumption) ?_
  rotate_left
  · (intro w hSw; go_simp; try (with_reducible rfl))
  try simp only [Act.put, List.getElem_toArray, List.getElem_cons_zero, List.getElem_cons_succ, List.setIfInBounds_toArray, List.set_cons_zero, List.set_cons_succ]
  refine wpAnyH_take (i := 4) (v := ?_) rfl (by kernel_rfl) (by kernel_rfl) (by kernel_rfl) (fun _ _ _ h => h) (Or.inl ⟨by rfl, ?_⟩) (by assumption) ?_
  rotate_left
  · (intro w hSw; go_simp; try (with_reducible rfl))
  try simp only [Act.put, List.getElem_toArray, List.getElem_cons_zero, List.getElem_cons_succ, List.setIfInBounds_toArray, List.set_cons_zero, List.set_cons_succ]
  refine wpAnyH_take (i := 5) (v := ?_) rfl (by kernel_rfl) (by kernel_rfl) (by kernel_rfl) (fun _ _ _ h => h) (Or.inl ⟨by rfl, ?_⟩) (by assumption) ?_
  rotate_left
  · (intro w hSw; go_simp; try (with_reducible rfl))
  try simp only [Act.put, List.getElem_toArray, List.getElem_cons_zero, List.getElem_cons_succ, List.setIfInBounds_toArray, List.set_cons_zero, List.set_cons_succ]
  refine wpAnyH_take (i := 6) (v := ?_) rfl (by kernel_rfl) (by kernel_rfl) (by kernel_rfl) (fun _ _ _ h => h) (Or.inl ⟨by rfl, ?_⟩) (by assumption) ?_
  rotate_left
  · (intro w hSw; go_simp; try (with_reducible rfl))
  try simp only [Act.put, List.getElem_toArray, List.getElem_cons_zero, List.getElem_cons_succ, List.setIfInBounds_toArray, List.set_cons_zero, List.set_cons_succ]
  refine wpAnyH_take (i := 7) (v := ?_) rfl (by kernel_rfl) (by kernel_rfl) (by kernel_rfl) (fun _ _ _ h => h) (Or.inl ⟨by rfl, ?_⟩) (by assumption) ?_
  rotate_left
  · (intro w hSw; go_simp; try (with_reducible rfl))
  try simp only [Act.put, List.getElem_toArray, List.getElem_cons_zero, List.getElem_cons_succ, List.setIfInBounds_toArray, List.set_cons_zero, List.set_cons_succ]
  refine wpAnyH_ready (rs := [8]) (by kernel_rfl) (by simp) ?_
  refine AllReadyH.one rfl rfl (fun K2 hK2 => ?_)
  refine wp_copyT _ _ _ rfl _ _ rfl rfl ((HC1 _ _ _ _ _).out (by simp only [Nat.min_def]; split <;> omega)) ?_
  refine hK2.out _ _ trivial (fun _ => ?_)
  clear hK2 K2 HC1 hov
  try simp only [Act.put, List.getElem_toArray, List.getElem_cons_zero, List.getElem_cons_succ, List.setIfInBounds_toArray, List.set_cons_zero, List.set_cons_succ]
  refine wpAnyH_done (by kernel_rfl) ?_ _
  refine NoPanic.normal ?_
  generalize w.drew.setCells g ((i + 1) * 19) ds = V at *
  go_wp2_with (refine copy_stepT _ rfl _ _ rfl _ _ rfl rfl ((HC2 _ _ _).out (by simp only [Nat.min_def]; split <;> omega)) ?_)
  go_ret
  exact ⟨_, rfl, HFIN.out, HFT.out⟩
end Go.Proofs.Ytjpjobbmljlacaa
