/- Texts that belong together, one behind the other: HeadMath, RdTrip, Digits. -/
import Derived.Test.YticdpidngmeebaaF11
import Derived.OpenShut
/- Messages that are made good may be; the first twelve bytes of what is written: plain facts. -/
namespace Go.Proofs.Yticdpidngmeebaa
open Go.RowKit
set_option linter.unusedVariables false
set_option maxRecDepth 20000

theorem word_mask (x : Int) : wordN ((maskN x 65535 : Nat) : Int) = true := by
  have h := (mask_is x 65535 (by decide)).2
  exact decide_eq_true ⟨by omega, by omega⟩
theorem headR_good {nm : ByteArray} {ty : Int} {c t : Int} {f : Int} {b : List Nat} {tg da : ByteArray} (hn : mayN nm = true) (ht : wordN ty = true) (hc : wordN c = true) (h0 : 0 ≤ t) (h1 : t ≤ 2147483647) (hd : da.size ≤ 65535) : headR ⟨nm, ty, c, t, f, b, tg, da⟩ = true := by
  unfold headR
  simp only [hn, ht, hc, decide_eq_true h0, decide_eq_true h1, decide_eq_true hd, Bool.and_self]
theorem goodR_may {r : Rec} (hf : Fit r) : mayR (goodR r) = true := by
  have HGD := good_is r.f r.b hf.1 hf.2.1
  have hn := good_may r.name
  have ht := good_may r.tg
  have hc := word_mask r.cl
  have hm := (mask_is r.ttl 2147483647 (by decide)).2
  have h0 : (0 : Int) ≤ ((maskN r.ttl 2147483647 : Nat) : Int) := by omega
  have h1 : ((maskN r.ttl 2147483647 : Nat) : Int) ≤ 2147483647 := by omega
  have hfw := few_size r.da 20
  have h4 : mayB 4 (b4 (fourB (goodB r.f r.b))) = true := GoodA.may (.four _ (fourB_le' _ HGD.lt))
  have h6 : mapF (goodF r.f) = 6 ∧ mayB 6 (mapB (goodF r.f) (goodB r.f r.b)) = true := by
    have hl : (mapB (goodF r.f) (goodB r.f r.b)).length = 16 := by
      unfold mapB
      split
      · rw [byL_len]; rfl
      · exact HGD.len
    refine ⟨?_, may6 _ hl⟩
    unfold mapF goodF
    split <;> split <;> simp_all
  unfold goodR mayR
  split
  · rw [headR_good hn (by decide) hc h0 h1 (Nat.zero_le _)]
    unfold bodyR
    simp only [h4]
    rfl
  · split
    · rw [headR_good hn (by decide) hc h0 h1 (Nat.zero_le _)]
      unfold bodyR
      simp only [h6.1, h6.2]
      rfl
    · split
      · rw [headR_good hn (by decide) hc h0 h1 (Nat.zero_le _)]
        unfold bodyR
        simp only [ht]
        rfl
      · rw [headR_good hn (by decide) hc h0 h1 (by omega)]
        unfold bodyR
        rfl
theorem goodM_may {m : Msg} (h1 : ∀ r ∈ m.an, Fit r) (h2 : ∀ r ∈ m.au, Fit r) (h3 : ∀ r ∈ m.mo, Fit r) : mayM (goodM m) = true := by
  have ha : ∀ {D : List Rec}, (∀ r ∈ D, Fit r) → (goodRs D).all mayR = true := fun {D} h => by
    rw [List.all_eq_true]
    intro r hr
    obtain ⟨x, hx, rfl⟩ := List.mem_map.1 hr
    exact goodR_may (h x (List.mem_of_mem_take hx))
  have hq : (((m.qs.take 3).map goodQ).all mayQ9) = true := by
    rw [List.all_eq_true]
    intro q hq
    obtain ⟨x, hx, rfl⟩ := List.mem_map.1 hq
    unfold mayQ9 goodQ
    simp only [good_may, word_mask, Bool.and_self]
  unfold mayM goodM
  simp only [ha h1, ha h2, ha h3, hq, word_mask, Bool.and_self]
theorem goodR_room (r : Rec) : Room (goodR r) := by
  have h1 := goodN_small r.name
  have h2 := goodN_small r.tg
  unfold goodR Room
  split
  · exact ⟨by simp only; omega, Nat.zero_le _⟩
  · split
    · exact ⟨by simp only; omega, Nat.zero_le _⟩
    · split
      · exact ⟨by simp only; omega, by simp only; omega⟩
      · exact ⟨by simp only; omega, Nat.zero_le _⟩
theorem goodM_room (m : Msg) : RoomM (goodM m) ∧ Len4 (goodM m) := by
  have hq : ((m.qs.take 3).map goodQ).length ≤ 3 := by rw [List.length_map, List.length_take]; omega
  have l1 := goodRs_len m.an
  have l2 := goodRs_len m.au
  have l3 := goodRs_len m.mo
  have hr : ∀ (D : List Rec), ∀ r ∈ goodRs D, Room r := fun D r hr => by
    obtain ⟨x, _, rfl⟩ := List.mem_map.1 hr
    exact goodR_room x
  refine ⟨⟨fun q hq => ?_, hr _, hr _, hr _, ?_, ?_, ?_, ?_⟩, ⟨?_, ?_, ?_, ?_⟩⟩
  · obtain ⟨x, _, rfl⟩ := List.mem_map.1 hq
    have := goodN_small x.name
    show (goodN x.name).size ≤ 1900000
    omega
  all_goals (unfold goodM; simp only; omega)
theorem qs_pre : ∀ (Q : List Qu) (t : Wst), ∃ x, (Q.foldl qW t).1 = t.1 ++ x
  | [], t => ⟨[], by simp⟩
  | q :: Q, t => by
    obtain ⟨x, hx⟩ := qs_pre Q (qW t q)
    exact ⟨(nmT q.name t.1.length t.2.1 t.2.2).1 ++ (twoL q.ty.toNat ++ twoL q.cl.toNat) ++ x, by rw [List.foldl_cons, hx]; simp only [qW, List.append_assoc]⟩
theorem rs_pre : ∀ (D : List Rec) (t : Wst), ∃ x, (D.foldl rW t).1 = t.1 ++ x
  | [], t => ⟨[], by simp⟩
  | r :: D, t => by
    obtain ⟨x, hx⟩ := rs_pre D (rW t r)
    exact ⟨(nmT r.name t.1.length t.2.1 t.2.2).1 ++ numsR r ++ twoL (daR t r).1.length ++ (daR t r).1 ++ x, by rw [List.foldl_cons, hx]; simp only [rW, List.append_assoc]⟩
theorem wB_pre (m : Msg) : ∃ x, wB m = hdB m ++ x := by
  obtain ⟨x0, h0⟩ := qs_pre m.qs (hdB m, [], [])
  obtain ⟨x1, h1⟩ := rs_pre m.an (m.qs.foldl qW (hdB m, [], []))
  obtain ⟨x2, h2⟩ := rs_pre m.au (m.an.foldl rW (m.qs.foldl qW (hdB m, [], [])))
  obtain ⟨x3, h3⟩ := rs_pre m.mo (m.au.foldl rW (m.an.foldl rW (m.qs.foldl qW (hdB m, [], []))))
  refine ⟨x0 ++ x1 ++ x2 ++ x3, ?_⟩
  unfold wB wM
  rw [h3, h2, h1, h0]
  simp only [List.append_assoc]
def wants (m : Msg) : List Nat := [m.id.toNat, m.fl.toNat, m.qs.length, m.an.length, m.au.length, m.mo.length]
theorem hd_len (m : Msg) : (hdB m).length = 12 := rfl
end Go.Proofs.Yticdpidngmeebaa
/- What is written of a message is read as it was. Plain facts. -/
namespace Go.Proofs.Yticdpidngmeebaa
open Go.RowKit
set_option linter.unusedVariables false
set_option maxRecDepth 20000
set_option linter.unusedSimpArgs false

theorem nm8_spe (s : ByteArray) (hm : mayN s = true) (P0 : Nat) : ∀ (f i : Nat) (l : List UInt8) (ns : List ByteArray) (ats : List Nat), (labelsB s).length + 1 = i + f → i ≤ (labelsB s).length → ats.length = ns.length → (∀ a ∈ ats, a < 16384) → P0 ≤ l.length →
    (∀ x n, x.size ≤ (restB s i).size → find8 ns ats x = some n → n < P0 ∧ ∃ nx, Sp l n n (labelsB x) nx) →
    ∃ tl, (nm8 s (labelsB s) f i l ns ats).1 = l ++ tl ∧ tl.length ≤ ((labelsB s).length - i) * 64 + 2 ∧ (nm8 s (labelsB s) f i l ns ats).2.1.length ≤ ns.length + ((labelsB s).length - i) ∧ Sp (l ++ tl) P0 l.length ((labelsB s).drop i) (l.length + tl.length) ∧
      (∀ x, (restB s i).size < x.size → find8 (nm8 s (labelsB s) f i l ns ats).2.1 (nm8 s (labelsB s) f i l ns ats).2.2 x = find8 ns ats x) ∧
      (∀ x n, x.size ≤ (restB s i).size → find8 (nm8 s (labelsB s) f i l ns ats).2.1 (nm8 s (labelsB s) f i l ns ats).2.2 x = some n → ∃ nx, Sp (l ++ tl) n n (labelsB x) nx) ∧
      (nm8 s (labelsB s) f i l ns ats).2.2.length = (nm8 s (labelsB s) f i l ns ats).2.1.length ∧ (∀ a ∈ (nm8 s (labelsB s) f i l ns ats).2.2, a < 16384)
  | 0, i, l, ns, ats, h, hi, _, _, _, _ => by omega
  | f + 1, i, l, ns, ats, h, hi, hla, hat, hP, hG => by
    unfold nm8
    by_cases hl : (labelsB s).length ≤ i
    · rw [if_pos hl]
      refine ⟨[0], rfl, by simp, by simp, ?_, fun x _ => rfl, fun x n hx hf => ?_, hla, hat⟩
      · rw [List.drop_eq_nil_iff.2 hl]
        refine .zero (by simp) ?_
        rw [List.getD_eq_getElem?_getD, List.getElem?_append_right (Nat.le_refl _), Nat.sub_self]
        rfl
      · obtain ⟨_, nx, hs⟩ := hG x n hx hf
        exact ⟨nx, hs.more _⟩
    · rw [if_neg hl]
      have hil : i < (labelsB s).length := by omega
      have hdrop : (labelsB s).drop i = labelsB (restB s i) := (labels_rest i (may_full hm)).symm
      cases hf : find8 ns ats (restB s i) with
      | some n =>
        have hn := hat n (find8_mem ns ats _ n hf)
        obtain ⟨hnP, nx, hs⟩ := hG (restB s i) n (Nat.le_refl _) hf
        obtain ⟨f1, f2, f3⟩ := ptr_facts l [] n hn
        rw [List.append_nil] at f1 f2 f3
        refine ⟨_, rfl, by simp, by simp, ?_, fun x _ => rfl, fun x k hx hf => ?_, hla, hat⟩
        · rw [hdrop]
          exact .ptr f1 f2 (by rw [f3]; exact hnP) (by rw [f3]; exact hs.more _)
        · obtain ⟨_, nx, hs⟩ := hG x k hx hf
          exact ⟨nx, hs.more _⟩
      | none =>
        simp only
        have hrp : 0 < (restB s i).size := (rest_pos (may_full hm) i).2 hil
        have hlt : (restB s (i + 1)).size < (restB s i).size := by rw [rest_par]; exact par_lt _ hrp
        obtain ⟨p, hp⟩ : ∃ p, (labelsB s).getD i ⟨#[]⟩ = p := ⟨_, rfl⟩
        have hpm : p ∈ labelsB s := by
          rw [← hp, List.getD_eq_getElem?_getD, List.getElem?_eq_getElem hil]
          exact List.getElem_mem hil
        have hpl := may_label hm p hpm
        have hcons : (labelsB s).drop i = p :: (labelsB s).drop (i + 1) := by
          rw [List.drop_eq_getElem_cons hil]
          congr 1
          rw [← hp, List.getD_eq_getElem?_getD, List.getElem?_eq_getElem hil]
          rfl
        rw [hp]
        have hlab : (labL p).length = 1 + p.size := by unfold labL; rw [List.length_cons, data_size]; omega
        obtain ⟨ns2, hns2⟩ : ∃ ns2, (if l.length < 16384 then ns ++ [restB s i] else ns) = ns2 := ⟨_, rfl⟩
        obtain ⟨ats2, hats2⟩ : ∃ ats2, (if l.length < 16384 then ats ++ [l.length] else ats) = ats2 := ⟨_, rfl⟩
        rw [hns2, hats2]
        -- what is found behind the note
        have hfind : ats2.length = ns2.length ∧ (∀ a ∈ ats2, a < 16384) ∧ ns2.length ≤ ns.length + 1 ∧ ∀ x, find8 ns2 ats2 x = match find8 ns ats x with | some k => some k | none => if restB s i = x ∧ l.length < 16384 then some l.length else none := by
          by_cases hb : l.length < 16384
          · rw [if_pos hb] at hns2 hats2
            rw [← hns2, ← hats2]
            refine ⟨by simp [hla], fun a ha => ?_, by simp, fun x => ?_⟩
            · rcases List.mem_append.1 ha with ha | ha
              · exact hat a ha
              · rw [List.mem_singleton.1 ha]; exact hb
            · rw [find8_snoc ns ats _ _ x hla]
              cases find8 ns ats x with
              | some k => rfl
              | none => simp [hb]
          · rw [if_neg hb] at hns2 hats2
            rw [← hns2, ← hats2]
            refine ⟨hla, hat, by omega, fun x => ?_⟩
            cases find8 ns ats x with
            | some k => rfl
            | none => simp [hb]
        obtain ⟨hla2, hat2, hnn2, hf2⟩ := hfind
        have hll : (l ++ labL p).length = l.length + 1 + p.size := by rw [List.length_append, hlab]; omega
        obtain ⟨tl, t1, t2, t3, t4, t5, t6, t7, t8⟩ := nm8_spe s hm P0 f (i + 1) (l ++ labL p) ns2 ats2 (by omega) (by omega) hla2 hat2 (by omega) (fun x n hx hfx => by
          rw [hf2 x] at hfx
          cases hfo : find8 ns ats x with
          | some k =>
            rw [hfo] at hfx
            have : k = n := by simpa using hfx
            subst this
            obtain ⟨g1, g2, g3⟩ := hG x k (by omega) hfo
            exact ⟨g1, g2, g3.more _⟩
          | none =>
            rw [hfo] at hfx
            simp only at hfx
            by_cases hrx : restB s i = x ∧ l.length < 16384
            · rw [← hrx.1] at hx; omega
            · rw [if_neg hrx] at hfx; cases hfx)
        have hspell : Sp (l ++ (labL p ++ tl)) P0 l.length ((labelsB s).drop i) (l.length + (labL p ++ tl).length) := by
          obtain ⟨f1, f2, f3, f4⟩ := lab_facts l tl p hpl.2
          rw [hll] at t4
          rw [hcons, show l.length + (labL p ++ tl).length = l.length + 1 + p.size + tl.length by rw [List.length_append, hlab]; omega, ← List.append_assoc]
          exact .lab f1 f2 (by omega) hpl.2 f3 f4 (labels_free s p hpm) t4
        have hmul : ((labelsB s).length - i) * 64 = ((labelsB s).length - (i + 1)) * 64 + 64 := by
          have : (labelsB s).length - i = (labelsB s).length - (i + 1) + 1 := by omega
          rw [this, Nat.succ_mul]
        refine ⟨labL p ++ tl, by rw [t1, List.append_assoc], by rw [List.length_append, hlab, hmul]; omega, by omega, hspell, fun x hx => ?_, fun x n hx hfx => ?_, t7, t8⟩
        · rw [t5 x (by omega), hf2 x]
          cases find8 ns ats x with
          | some k => rfl
          | none =>
            simp only
            rw [if_neg (fun e => by rw [e.1] at hx; omega)]
        · by_cases hsm : x.size ≤ (restB s (i + 1)).size
          · obtain ⟨nx2, h2⟩ := t6 x n hsm hfx
            rw [List.append_assoc] at h2
            exact ⟨nx2, h2⟩
          · rw [t5 x (by omega), hf2 x] at hfx
            cases hfo : find8 ns ats x with
            | some k =>
              rw [hfo] at hfx
              have : k = n := by simpa using hfx
              subst this
              obtain ⟨_, g2, g3⟩ := hG x k hx hfo
              exact ⟨g2, g3.more _⟩
            | none =>
              rw [hfo] at hfx
              simp only at hfx
              by_cases hrx : restB s i = x ∧ l.length < 16384
              · rw [if_pos hrx] at hfx
                have : l.length = n := by simpa using hfx
                subst this
                rw [← hrx.1, ← hdrop]
                exact ⟨_, hspell.wider hP⟩
              · rw [if_neg hrx] at hfx; cases hfx
/-- A name that is written is read, and ends where it was written; what was written spells its names still. -/
theorem nm_trip {l : List UInt8} {ns : List ByteArray} {ats : List Nat} (hI : WInv l ns ats) {s : ByteArray} (hm : mayN s = true) {bs x : List UInt8} (hb : bs = l ++ (nmT s l.length ns ats).1 ++ x) :
    naO bs (some l.length) = some (s, l.length + (nmT s l.length ns ats).1.length) ∧ WInv (l ++ (nmT s l.length ns ats).1) (nmT s l.length ns ats).2.1 (nmT s l.length ns ats).2.2 := by
  have hE := (nmT_is hm l.length ns ats).eq l rfl
  obtain ⟨tl, t1, t2, t3, t4, t5, t6, t7, t8⟩ := nm8_spe s hm l.length ((labelsB s).length + 1) 0 l ns ats (by omega) (Nat.zero_le _) hI.1 hI.2.1 (Nat.le_refl _) (fun x n _ hf => by
    obtain ⟨nx, hs⟩ := hI.2.2 x n hf
    exact ⟨hs.lt, nx, hs⟩)
  rw [hE] at t1 t5 t6 t7 t8
  simp only at t1 t5 t6 t7 t8
  have htl : (nmT s l.length ns ats).1 = tl := List.append_cancel_left t1
  rw [htl] at hb ⊢
  refine ⟨?_, t7, t8, fun y n hf => ?_⟩
  · rw [List.drop_zero] at t4
    have hsz : sizeL (labelsB s) ≤ 255 := (of_decide_eq_true hm : MayL _).2
    have hr := sp_readB (t4.more x) hsz
    rw [← hb, join_labels] at hr
    show (if (readB bs (l.length + 1) l.length [] none).2.2 = 0 then _ else none) = _
    rw [hr]
    rfl
  · by_cases hx : y.size ≤ (restB s 0).size
    · exact t6 y n hx hf
    · rw [t5 y (by omega)] at hf
      obtain ⟨nx, hs⟩ := hI.2.2 y n hf
      exact ⟨nx, hs.more _⟩
theorem tk_trip {bs l y x : List UInt8} {a n : Nat} (hb : bs = l ++ y ++ x) (ha : a = l.length) (hn : n = y.length) : tkO bs (some a) n = some (y, a + n) := by
  subst hb ha hn
  show (if (l ++ y ++ x).length - l.length < y.length then none else some (((l ++ y ++ x).drop l.length).take y.length, l.length + y.length)) = _
  rw [if_neg (by rw [List.length_append, List.length_append]; omega), List.append_assoc, List.drop_left, List.take_left]
theorem val_two (n : Nat) (hn : n ≤ 65535) : valB (twoL n) = n := by
  show (0 * 256 + (UInt8.ofNat (n / 256)).toNat) * 256 + (UInt8.ofNat (n % 256)).toNat = n
  rw [UInt8.toNat_ofNat', UInt8.toNat_ofNat', Nat.mod_eq_of_lt (by omega), Nat.mod_eq_of_lt (by omega)]
  omega
theorem nu_trip {bs l x : List UInt8} {a n : Nat} (hb : bs = l ++ twoL n ++ x) (ha : a = l.length) (hn : n ≤ 65535) : nuO bs (some a) 2 = some (n, a + 2) := by
  unfold nuO
  rw [tk_trip (n := 2) hb ha rfl]
  show some (valB (twoL n), a + 2) = _
  rw [val_two n hn]
theorem nu4_trip {bs l x : List UInt8} {a n : Nat} (hb : bs = l ++ (twoL (n / 65536) ++ twoL (n % 65536)) ++ x) (ha : a = l.length) (hn : n ≤ 4294967295) : nuO bs (some a) 4 = some (n, a + 4) := by
  unfold nuO
  rw [tk_trip (n := 4) hb ha rfl]
  show some (valB (twoL (n / 65536) ++ twoL (n % 65536)), a + 4) = _
  have e : valB (twoL (n / 65536) ++ twoL (n % 65536)) = n := by
    show (((0 * 256 + (UInt8.ofNat (n / 65536 / 256)).toNat) * 256 + (UInt8.ofNat (n / 65536 % 256)).toNat) * 256 + (UInt8.ofNat (n % 65536 / 256)).toNat) * 256 + (UInt8.ofNat (n % 65536 % 256)).toNat = n
    rw [UInt8.toNat_ofNat', UInt8.toNat_ofNat', UInt8.toNat_ofNat', UInt8.toNat_ofNat']
    omega
  rw [e]
theorem word_is {n : Int} (h : wordN n = true) : 0 ≤ n ∧ n ≤ 65535 := of_decide_eq_true h
def WI (t : Wst) : Prop := WInv t.1 t.2.1 t.2.2
theorem qu_trip {t : Wst} (hI : WI t) {q : Qu} (hm : mayQ9 q = true) {bs x : List UInt8} (hb : bs = (qW t q).1 ++ x) : quO bs (some t.1.length) = some (q, (qW t q).1.length) ∧ WI (qW t q) := by
  obtain ⟨m1, m2, m3⟩ := mayQ9_name hm
  obtain ⟨n1, n2⟩ := word_is m2
  obtain ⟨n3, n4⟩ := word_is m3
  have hb1 : bs = t.1 ++ (nmT q.name t.1.length t.2.1 t.2.2).1 ++ (twoL q.ty.toNat ++ twoL q.cl.toNat ++ x) := by rw [hb]; unfold qW; simp only [List.append_assoc]
  obtain ⟨h1, h2⟩ := nm_trip hI m1 hb1
  have hL : (qW t q).1.length = t.1.length + (nmT q.name t.1.length t.2.1 t.2.2).1.length + 2 + 2 := by
    unfold qW
    simp only [List.length_append, twoL]
    rfl
  refine ⟨?_, ?_⟩
  · unfold quO
    rw [h1]
    simp only [Option.bind_some]
    rw [nu_trip (l := t.1 ++ (nmT q.name t.1.length t.2.1 t.2.2).1) (n := q.ty.toNat) (x := twoL q.cl.toNat ++ x) (by rw [hb1]; simp only [List.append_assoc]) (by rw [List.length_append]) (by omega)]
    simp only [Option.bind_some]
    rw [nu_trip (l := t.1 ++ (nmT q.name t.1.length t.2.1 t.2.2).1 ++ twoL q.ty.toNat) (n := q.cl.toNat) (x := x) (by rw [hb1]; simp only [List.append_assoc]) (by rw [List.length_append, List.length_append]; rfl) (by omega)]
    rw [hL]
    obtain ⟨nm, ty, cl⟩ := q
    simp only [Option.map_some]
    have e1 : ((ty.toNat : Nat) : Int) = ty := by simp only at n1; omega
    have e2 : ((cl.toNat : Nat) : Int) = cl := by simp only at n3; omega
    rw [e1, e2]
  · show WInv (t.1 ++ (nmT q.name t.1.length t.2.1 t.2.2).1 ++ (twoL q.ty.toNat ++ twoL q.cl.toNat)) _ _
    exact h2.more _
theorem daR_len {t : Wst} {r : Rec} (hm : mayR r = true) (h16 : r.b.length = 16) : (daR t r).1.length ≤ 65535 := by
  have M := mayRec hm
  unfold daR daT
  by_cases h1 : r.ty = 1
  · rw [if_pos h1]
    show (byB (r.b.take 4)).length ≤ _
    rw [byB_len, List.length_take]; omega
  · rw [if_neg h1]
    by_cases h2 : r.ty = 28
    · rw [if_pos h2]
      show (byB r.b).length ≤ _
      rw [byB_len]; omega
    · rw [if_neg h2]
      by_cases h3 : r.ty = 5
      · rw [if_pos h3]
        exact Nat.le_trans (nmT_is (M.tg h3) _ _ _).len (by omega)
      · rw [if_neg h3]
        show r.da.data.toList.length ≤ _
        rw [data_size]
        exact M.da
theorem by_back {b : List Nat} (h : ∀ x ∈ b, x < 256) : (byB b).map UInt8.toNat = b := by
  unfold byB
  rw [List.map_map]
  conv => rhs; rw [← List.map_id b]
  apply List.map_congr_left
  intro x hx
  show (UInt8.ofNat x).toNat = x
  rw [UInt8.toNat_ofNat', Nat.mod_eq_of_lt (h x hx)]
theorem putB_16 {b : List Nat} (h16 : b.length = 16) (hlt : ∀ x ∈ b, x < 256) : putB (List.replicate 16 0) (byB b) = b := by
  unfold putB
  have hl : (byB b).length = 16 := by rw [byB_len]; exact h16
  rw [List.take_of_length_le (by omega), by_back hlt, hl]
  simp
theorem putB_4 {b : List Nat} (h16 : b.length = 16) (hlt : ∀ x ∈ b, x < 256) (hm : mayB 4 b = true) : putB (List.replicate 16 0) (byB (b.take 4)) = b := by
  unfold putB
  have hl : (byB (b.take 4)).length = 4 := by rw [byB_len, List.length_take]; omega
  rw [List.take_of_length_le (by omega), by_back (fun x hx => hlt x (List.mem_of_mem_take hx)), hl]
  obtain ⟨y0, y1, y2, y3, y4, y5, y6, y7, y8, y9, y10, y11, y12, y13, y14, y15, rfl⟩ := list16 b h16
  simp [mayB, zeroTo, fromN] at hm
  simp
  omega
theorem text_back (da : ByteArray) : (⟨da.data.toList.toArray⟩ : ByteArray) = da := by cases da; simp
theorem re_trip {t : Wst} (hI : WI t) {r : Rec} (hm : mayR r = true) (hf : Fit r) {bs x : List UInt8} (hb : bs = (rW t r).1 ++ x) : reO bs (some t.1.length) = some (r, (rW t r).1.length) ∧ WI (rW t r) := by
  have M := mayRec hm
  have hdl := daR_len (t := t) hm hf.1
  obtain ⟨d, hd⟩ : ∃ d, daR t r = d := ⟨_, rfl⟩
  obtain ⟨u, hu⟩ : ∃ u, nmT r.name t.1.length t.2.1 t.2.2 = u := ⟨_, rfl⟩
  rw [hd] at hdl
  have hR : rW t r = (t.1 ++ u.1 ++ numsR r ++ twoL d.1.length ++ d.1, d.2) := by unfold rW; rw [hd, hu]
  have hat : atR t r = (t.1 ++ u.1 ++ numsR r ++ twoL d.1.length).length := by unfold atR; rw [hu]; simp only [List.length_append, numsR_len]; rfl
  rw [hR] at hb ⊢
  simp only at hb ⊢
  have hb1 : bs = t.1 ++ u.1 ++ (numsR r ++ twoL d.1.length ++ d.1 ++ x) := by rw [hb]; simp only [List.append_assoc]
  have h1 := nm_trip hI M.name (bs := bs) (x := numsR r ++ twoL d.1.length ++ d.1 ++ x) (by rw [hu]; exact hb1)
  rw [hu] at h1
  obtain ⟨h1, hI1⟩ := h1
  have hI5 : WInv (t.1 ++ u.1 ++ numsR r ++ twoL d.1.length) u.2.1 u.2.2 := (hI1.more _).more _
  obtain ⟨nm, ty, cl, ttl, f, b, tg, da⟩ := r
  have m1 := M.ty
  have m2 := M.cl
  have m3 := M.ttl
  have mb := M.body
  simp only at m1 m2 m3 h1 hu
  obtain ⟨ty, rfl⟩ : ∃ n : Nat, ty = (n : Int) := ⟨ty.toNat, by omega⟩
  obtain ⟨cl, rfl⟩ : ∃ n : Nat, cl = (n : Int) := ⟨cl.toNat, by omega⟩
  obtain ⟨ttl, rfl⟩ : ∃ n : Nat, ttl = (n : Int) := ⟨ttl.toNat, by omega⟩
  have hN : numsR ⟨nm, (ty : Int), (cl : Int), (ttl : Int), f, b, tg, da⟩ = twoL ty ++ twoL cl ++ twoL (ttl / 65536) ++ twoL (ttl % 65536) := rfl
  rw [hN] at hb hb1 hat hI5 ⊢
  obtain ⟨l1, hl1⟩ : ∃ l1, t.1 ++ u.1 = l1 := ⟨_, rfl⟩
  have hl1l : t.1.length + u.1.length = l1.length := by rw [← hl1, List.length_append]
  rw [hl1l] at h1
  rw [hl1] at hb hb1 hat hI5 ⊢
  have s2 := nu_trip (bs := bs) (l := l1) (n := ty) (x := twoL cl ++ twoL (ttl / 65536) ++ twoL (ttl % 65536) ++ twoL d.1.length ++ d.1 ++ x) (by rw [hb]; simp only [List.append_assoc]) rfl (by omega)
  have s3 := nu_trip (bs := bs) (l := l1 ++ twoL ty) (n := cl) (a := l1.length + 2) (x := twoL (ttl / 65536) ++ twoL (ttl % 65536) ++ twoL d.1.length ++ d.1 ++ x) (by rw [hb]; simp only [List.append_assoc]) (by rw [List.length_append]; rfl) (by omega)
  have s4 := nu4_trip (bs := bs) (l := l1 ++ twoL ty ++ twoL cl) (n := ttl) (a := l1.length + 2 + 2) (x := twoL d.1.length ++ d.1 ++ x) (by rw [hb]; simp only [List.append_assoc]) (by rw [List.length_append, List.length_append]; rfl) (by omega)
  have s5 := nu_trip (bs := bs) (l := l1 ++ twoL ty ++ twoL cl ++ (twoL (ttl / 65536) ++ twoL (ttl % 65536))) (n := d.1.length) (a := l1.length + 2 + 2 + 4) (x := d.1 ++ x) (by rw [hb]; simp only [List.append_assoc]) (by simp only [List.length_append]; rfl) hdl
  have hlen5 : (l1 ++ (twoL ty ++ twoL cl ++ twoL (ttl / 65536) ++ twoL (ttl % 65536)) ++ twoL d.1.length).length = l1.length + 2 + 2 + 4 + 2 := by simp only [List.length_append]; rfl
  have s6 : tkO bs (some (l1.length + 2 + 2 + 4 + 2)) d.1.length = some (d.1, l1.length + 2 + 2 + 4 + 2 + d.1.length) := tk_trip (l := l1 ++ (twoL ty ++ twoL cl ++ twoL (ttl / 65536) ++ twoL (ttl % 65536)) ++ twoL d.1.length) hb hlen5.symm rfl
  have hh : hdO nm ty cl ttl = ⟨nm, (ty : Int), (cl : Int), (ttl : Int), 0, List.replicate 16 0, ⟨#[]⟩, ⟨#[]⟩⟩ := by unfold hdO ttlO; rw [if_neg (by omega)]
  have hE : (l1 ++ (twoL ty ++ twoL cl ++ twoL (ttl / 65536) ++ twoL (ttl % 65536)) ++ twoL d.1.length ++ d.1).length = l1.length + 2 + 2 + 4 + 2 + d.1.length := by rw [List.length_append, hlen5]
  unfold reO
  rw [h1]
  simp only [Option.bind_some]
  rw [s2]
  simp only [Option.bind_some]
  rw [s3]
  simp only [Option.bind_some]
  rw [s4]
  simp only [Option.bind_some]
  rw [s5]
  simp only [Option.bind_some]
  rw [hh, hE]
  unfold bodyR at mb
  simp only at mb
  have hty0 : (⟨nm, (ty : Int), (cl : Int), (ttl : Int), 0, List.replicate 16 0, ⟨#[]⟩, ⟨#[]⟩⟩ : Rec).ty = (ty : Int) := rfl
  unfold daO
  rw [hty0]
  unfold daR at hd
  rw [hu] at hd
  unfold daT at hd
  simp only at hd
  by_cases e1 : (ty : Int) = 1
  · rw [if_pos e1] at mb hd
    rw [if_pos e1]
    simp only [Bool.and_eq_true, decide_eq_true_eq] at mb
    obtain ⟨⟨⟨mb1, mb2⟩, mb3⟩, mb4⟩ := mb
    have hd1 : d.1 = byB (b.take 4) := by rw [← hd]
    have hd2 : d.2 = u.2 := by rw [← hd]
    have hdn : d.1.length = 4 := by rw [hd1, byB_len, List.length_take, show b.length = 16 from hf.1]; rfl
    rw [mb2] at mb1
    refine ⟨?_, ?_⟩
    · unfold adO
      rw [if_pos hdn, s6]
      simp only [Option.map_some]
      rw [hd1, putB_4 hf.1 hf.2.1 mb1, mb2, empty_of mb3, empty_of mb4]
    · show WInv _ d.2.1 d.2.2
      rw [hd2]
      exact hI5.more _
  · rw [if_neg e1] at mb hd
    rw [if_neg e1]
    by_cases e2 : (ty : Int) = 28
    · rw [if_pos e2] at mb hd
      rw [if_pos e2]
      simp only [Bool.and_eq_true, decide_eq_true_eq] at mb
      obtain ⟨⟨⟨mb1, mb2⟩, mb3⟩, mb4⟩ := mb
      have hd1 : d.1 = byB b := by rw [← hd]
      have hd2 : d.2 = u.2 := by rw [← hd]
      have hdn : d.1.length = 16 := by rw [hd1, byB_len]; exact hf.1
      refine ⟨?_, ?_⟩
      · unfold adO
        rw [if_pos hdn, s6]
        simp only [Option.map_some]
        rw [hd1, putB_16 hf.1 hf.2.1, mb2, empty_of mb3, empty_of mb4]
      · show WInv _ d.2.1 d.2.2
        rw [hd2]
        exact hI5.more _
    · rw [if_neg e2] at mb hd
      rw [if_neg e2]
      by_cases e3 : (ty : Int) = 5
      · rw [if_pos e3] at mb hd
        rw [if_pos e3]
        simp only [Bool.and_eq_true, decide_eq_true_eq] at mb
        obtain ⟨⟨mb1, mb2, mb3⟩, mb4⟩ := mb
        have ha9 : atR t ⟨nm, (ty : Int), (cl : Int), (ttl : Int), f, b, tg, da⟩ = (l1 ++ (twoL ty ++ twoL cl ++ twoL (ttl / 65536) ++ twoL (ttl % 65536)) ++ twoL d.1.length).length := hat
        rw [ha9] at hd
        have h9 := nm_trip hI5 mb1 (bs := bs) (x := x) (by rw [hd]; exact hb)
        rw [hd, hlen5] at h9
        refine ⟨?_, h9.2⟩
        unfold cnO
        simp only [Option.bind_some]
        rw [h9.1]
        simp only [Option.bind_some]
        rw [if_pos trivial, mb2, mb3, empty_of mb4]
        rfl
      · rw [if_neg e3] at mb hd
        rw [if_neg e3]
        simp only [Bool.and_eq_true, decide_eq_true_eq] at mb
        obtain ⟨⟨mb2, mb3⟩, mb4⟩ := mb
        have hd1 : d.1 = da.data.toList := by rw [← hd]
        have hd2 : d.2 = u.2 := by rw [← hd]
        refine ⟨?_, ?_⟩
        · unfold otO
          rw [s6]
          simp only [Option.map_some]
          rw [hd1, text_back, mb2, mb3, empty_of mb4]
          rfl
        · show WInv _ d.2.1 d.2.2
          rw [hd2]
          exact hI5.more _
theorem qs_trip : ∀ (D : List Qu) (t : Wst), WI t → (∀ q ∈ D, mayQ9 q = true) → ∀ bs x : List UInt8, bs = (D.foldl qW t).1 ++ x → sqO (quO bs) D.length (some t.1.length) = some (D, (D.foldl qW t).1.length) ∧ WI (D.foldl qW t)
  | [], t, hI, _, bs, x, hb => ⟨rfl, hI⟩
  | q :: D, t, hI, hm, bs, x, hb => by
    obtain ⟨y, hy⟩ := qs_pre D (qW t q)
    rw [List.foldl_cons] at hb ⊢
    obtain ⟨h1, h2⟩ := qu_trip hI (hm q (List.mem_cons_self ..)) (bs := bs) (x := y ++ x) (by rw [hb, hy, List.append_assoc])
    obtain ⟨h3, h4⟩ := qs_trip D (qW t q) h2 (fun z hz => hm z (List.mem_cons_of_mem _ hz)) bs x hb
    refine ⟨?_, h4⟩
    show (quO bs (some t.1.length)).bind (fun p => (sqO (quO bs) D.length (some p.2)).map fun t => (p.1 :: t.1, t.2)) = _
    rw [h1]
    simp only [Option.bind_some]
    rw [h3]
    rfl
theorem rs_trip : ∀ (D : List Rec) (t : Wst), WI t → (∀ r ∈ D, mayR r = true) → (∀ r ∈ D, Fit r) → ∀ bs x : List UInt8, bs = (D.foldl rW t).1 ++ x → sqO (reO bs) D.length (some t.1.length) = some (D, (D.foldl rW t).1.length) ∧ WI (D.foldl rW t)
  | [], t, hI, _, _, bs, x, hb => ⟨rfl, hI⟩
  | r :: D, t, hI, hm, hf, bs, x, hb => by
    obtain ⟨y, hy⟩ := rs_pre D (rW t r)
    rw [List.foldl_cons] at hb ⊢
    obtain ⟨h1, h2⟩ := re_trip hI (hm r (List.mem_cons_self ..)) (hf r (List.mem_cons_self ..)) (bs := bs) (x := y ++ x) (by rw [hb, hy, List.append_assoc])
    obtain ⟨h3, h4⟩ := rs_trip D (rW t r) h2 (fun z hz => hm z (List.mem_cons_of_mem _ hz)) (fun z hz => hf z (List.mem_cons_of_mem _ hz)) bs x hb
    refine ⟨?_, h4⟩
    show (reO bs (some t.1.length)).bind (fun p => (sqO (reO bs) D.length (some p.2)).map fun t => (p.1 :: t.1, t.2)) = _
    rw [h1]
    simp only [Option.bind_some]
    rw [h3]
    rfl
theorem hd_trip (a b c d e f : Nat) (ha : a ≤ 65535) (hb : b ≤ 65535) (hc : c ≤ 65535) (hd : d ≤ 65535) (he : e ≤ 65535) (hf : f ≤ 65535) (bs x : List UInt8) (h : bs = twoL a ++ twoL b ++ twoL c ++ twoL d ++ twoL e ++ twoL f ++ x) :
    sqO (fun o => nuO bs o 2) 6 (some 0) = some ([a, b, c, d, e, f], 12) := by
  have s1 := nu_trip (bs := bs) (l := []) (n := a) (a := 0) (x := twoL b ++ twoL c ++ twoL d ++ twoL e ++ twoL f ++ x) (by rw [h]; simp only [List.append_assoc, List.nil_append]) rfl ha
  have s2 := nu_trip (bs := bs) (l := twoL a) (n := b) (a := 2) (x := twoL c ++ twoL d ++ twoL e ++ twoL f ++ x) (by rw [h]; simp only [List.append_assoc]) rfl hb
  have s3 := nu_trip (bs := bs) (l := twoL a ++ twoL b) (n := c) (a := 4) (x := twoL d ++ twoL e ++ twoL f ++ x) (by rw [h]; simp only [List.append_assoc]) rfl hc
  have s4 := nu_trip (bs := bs) (l := twoL a ++ twoL b ++ twoL c) (n := d) (a := 6) (x := twoL e ++ twoL f ++ x) (by rw [h]; simp only [List.append_assoc]) rfl hd
  have s5 := nu_trip (bs := bs) (l := twoL a ++ twoL b ++ twoL c ++ twoL d) (n := e) (a := 8) (x := twoL f ++ x) (by rw [h]; simp only [List.append_assoc]) rfl he
  have s6 := nu_trip (bs := bs) (l := twoL a ++ twoL b ++ twoL c ++ twoL d ++ twoL e) (n := f) (a := 10) (x := x) (by rw [h]) rfl hf
  simp [sqO, s1, s2, s3, s4, s5, s6]
/-- What is written of a message that may be is read as it was. -/
theorem mgP_wB {m : Msg} (hm : mayM m = true) (hl : m.qs.length ≤ 65535 ∧ m.an.length ≤ 65535 ∧ m.au.length ≤ 65535 ∧ m.mo.length ≤ 65535) (h1 : ∀ r ∈ m.an, Fit r) (h2 : ∀ r ∈ m.au, Fit r) (h3 : ∀ r ∈ m.mo, Fit r) : mgP (wB m) = some m := by
  have hp : (∀ q ∈ m.qs, mayQ9 q = true) ∧ (0 ≤ m.id ∧ m.id ≤ 65535) ∧ (0 ≤ m.fl ∧ m.fl ≤ 65535) ∧ (∀ r ∈ m.an, mayR r = true) ∧ (∀ r ∈ m.au, mayR r = true) ∧ ∀ r ∈ m.mo, mayR r = true := by
    unfold mayM at hm
    simp only [Bool.and_eq_true, List.all_eq_true, wordN, decide_eq_true_eq] at hm
    obtain ⟨⟨⟨⟨⟨h1, h2⟩, h3⟩, h4⟩, h5⟩, h6⟩ := hm
    exact ⟨h1, h2, h3, h4, h5, h6⟩
  obtain ⟨p1, p2, p3, p4, p5, p6⟩ := hp
  obtain ⟨bs, hbs⟩ : ∃ bs, wB m = bs := ⟨_, rfl⟩
  have hB : bs = (wM m).1 ++ [] := by rw [← hbs, List.append_nil]; rfl
  rw [hbs]
  obtain ⟨x0, e0⟩ := qs_pre m.qs (hdB m, [], [])
  obtain ⟨x1, e1⟩ := rs_pre m.an (m.qs.foldl qW (hdB m, [], []))
  obtain ⟨x2, e2⟩ := rs_pre m.au (m.an.foldl rW (m.qs.foldl qW (hdB m, [], [])))
  obtain ⟨x3, e3⟩ := rs_pre m.mo (m.au.foldl rW (m.an.foldl rW (m.qs.foldl qW (hdB m, [], []))))
  have hI0 : WI (hdB m, [], []) := by
    have := WInv.nil.more (hdB m)
    rwa [List.nil_append] at this
  have b3 : bs = (m.mo.foldl rW (m.au.foldl rW (m.an.foldl rW (m.qs.foldl qW (hdB m, [], []))))).1 ++ [] := hB
  have b2 : bs = (m.au.foldl rW (m.an.foldl rW (m.qs.foldl qW (hdB m, [], [])))).1 ++ x3 := by rw [b3, e3, List.append_nil]
  have b1 : bs = (m.an.foldl rW (m.qs.foldl qW (hdB m, [], []))).1 ++ (x2 ++ x3) := by rw [b2, e2, List.append_assoc]
  have b0 : bs = (m.qs.foldl qW (hdB m, [], [])).1 ++ (x1 ++ (x2 ++ x3)) := by rw [b1, e1, List.append_assoc]
  have bh : bs = hdB m ++ (x0 ++ (x1 ++ (x2 ++ x3))) := by rw [b0, e0, List.append_assoc]
  have s0 := hd_trip m.id.toNat m.fl.toNat m.qs.length m.an.length m.au.length m.mo.length (by omega) (by omega) hl.1 hl.2.1 hl.2.2.1 hl.2.2.2 bs _ bh
  obtain ⟨s1, hI1⟩ := qs_trip m.qs (hdB m, [], []) hI0 p1 bs _ b0
  obtain ⟨s2, hI2⟩ := rs_trip m.an _ hI1 p4 h1 bs _ b1
  obtain ⟨s3, hI3⟩ := rs_trip m.au _ hI2 p5 h2 bs _ b2
  obtain ⟨s4, hI4⟩ := rs_trip m.mo _ hI3 p6 h3 bs _ b3
  have hhl : ((hdB m, ([] : List ByteArray), ([] : List Nat)) : Wst).1.length = 12 := rfl
  rw [hhl] at s1
  unfold mgP
  rw [s0]
  simp only [Option.bind_some, List.getD_cons_zero, List.getD_cons_succ]
  rw [s1]
  simp only [Option.bind_some]
  rw [s2]
  simp only [Option.bind_some]
  rw [s3]
  simp only [Option.bind_some]
  rw [s4]
  simp only [Option.bind_some]
  rw [if_pos (by rw [b3, List.append_nil])]
  have i1 : ((m.id.toNat : Nat) : Int) = m.id := by omega
  have i2 : ((m.fl.toNat : Nat) : Int) = m.fl := by omega
  rw [i1, i2]
end Go.Proofs.Yticdpidngmeebaa
/- The digits of a number in a base, as the statement TextBases lays them, are read as the number; and the contract of the reference's Around. -/
namespace Go.Proofs.Yticdpidngmeebaa
open Go.RowKit
set_option linter.unusedVariables false
set_option maxRecDepth 20000

def hexd (d : Nat) : UInt8 := if d < 10 then UInt8.ofNat (48 + d) else UInt8.ofNat (87 + d)
/-- The sixteen digits. -/
def hexs : ByteArray := { data := #[48, 49, 50, 51, 52, 53, 54, 55, 56, 57, 97, 98, 99, 100, 101, 102] }
/-- The lowest i digits of n. -/
def dstr (n b : Nat) : Nat → ByteArray
  | 0 => { data := #[] }
  | i + 1 => hexs.extract (n / b ^ i % b) (n / b ^ i % b + 1) ++ dstr n b i
/-- A number, from 0 on, modulo q. -/
def aroundN (n : Int) (q : Nat) : Nat := (if n < 0 then -(n + 1) else n).toNat % q
theorem aroundN_lt (n : Int) (q : Nat) (h : 0 < q) : aroundN n q < q := Nat.mod_lt _ h

set_option maxHeartbeats 400000 in
theorem around_any (n : Int) (q : Nat) (w : World) (hn : (Lit.int .i64 n).wf = true) (hq : 0 < q) (hq2 : q ≤ 4611686018427387904) :
    Calls Try.prog 21 #[.int .i64 n, .int .i64 (q : Int)] w fun e w' => e = .returned (.int .i64 ((aroundN n q : Nat) : Int)) ∧ w = w' := by
  have hb := bounds_i64 hn
  by_cases h : n < 0
  · obtain ⟨m, hm⟩ : ∃ m : Nat, -(n + 1) = (m : Int) := ⟨(-(n + 1)).toNat, by omega⟩
    have e : aroundN n q = m % q := by unfold aroundN; rw [if_pos h, hm]; rfl
    rw [e]
    go_enter Try.func21, Try.ntmps21
    go_wp2
    go_ret
    exact ⟨by first | rfl | simp, rfl⟩
  · obtain ⟨m, rfl⟩ : ∃ m : Nat, n = (m : Int) := ⟨n.toNat, by omega⟩
    have e : aroundN m q = m % q := by unfold aroundN; rw [if_neg h]; rfl
    rw [e]
    go_enter Try.func21, Try.ntmps21
    go_wp2
    go_ret
    exact ⟨by first | rfl | simp, rfl⟩
end Go.Proofs.Yticdpidngmeebaa
