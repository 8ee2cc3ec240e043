/- Texts that belong together, one behind the other: WirSpec, AddrHeld, Numbers, RefNums, Reads, Strict, RefStrict, RefSix, RefSixParse, RefAddrOf, RefAddrMap, RefAddrGood, RefAddrCompare, AddrCompare, AddrGood, Parts, Loose, DecParts, RefPrints, WirAddr, LabOwn, WirMay, WirRecs, WirMayM. -/
import Derived.Test.YticdpidngmeebaaE3
import Derived.OpenShut
import Derived.Lib.ItoaLen
import Derived.Deep.RegionWith
import Derived.Deep.Cut
import Derived.Lib.BytesEntry
import Derived.Lib.Bytealg
import Derived.Deep.QuietTactic
import Derived.BigQuiet
/- What a message's bytes are, as plain functions; how bytes with sizes put in later become them. -/
namespace Go.Proofs.Yticdpidngmeebaa
open Go.RowKit
set_option linter.unusedVariables false
set_option maxRecDepth 20000

/-- What a name adds behind so many bytes. -/
theorem nm8_facts (s : ByteArray) (L : List ByteArray) (hL : ∀ p ∈ L, p.size ≤ 63) : ∀ (f i n : Nat) (ns : List ByteArray) (ats : List Nat), ∃ tl ns' ats', (∀ l : List UInt8, l.length = n → nm8 s L f i l ns ats = (l ++ tl, ns', ats')) ∧ tl.length ≤ (L.length - i) * 64 + 2 ∧ ns'.length ≤ ns.length + (L.length - i) ∧ (ats.length = ns.length → ats'.length = ns'.length) ∧ ((∀ a ∈ ats, a < 16384) → ∀ a ∈ ats', a < 16384) ∧ (∀ p ∈ ns', p ∈ ns ∨ p.size ≤ s.size) ∧ ns'.length ≤ ns.length + tl.length
  | 0, i, n, ns, ats => ⟨[], ns, ats, fun l _ => by simp [nm8], by simp, by omega, id, id, fun p hp => .inl hp, by simp⟩
  | f + 1, i, n, ns, ats => by
    by_cases hi : L.length ≤ i
    · exact ⟨[0], ns, ats, fun l _ => by rw [nm8, if_pos hi], by simp, by omega, id, id, fun p hp => .inl hp, by simp⟩
    · cases hf : find8 ns ats (restB s i) with
      | some k => exact ⟨[UInt8.ofNat (192 + k / 256), UInt8.ofNat (k % 256)], ns, ats, fun l _ => by rw [nm8, if_neg hi, hf], by simp, by omega, id, id, fun p hp => .inl hp, by simp⟩
      | none =>
        have hlab : (labL (L.getD i ⟨#[]⟩)).length ≤ 64 := by
          have : L.getD i ⟨#[]⟩ ∈ L := by
            rw [List.getD_eq_getElem?_getD, List.getElem?_eq_getElem (by omega)]
            exact List.getElem_mem _
          have := hL _ this
          generalize L.getD i ⟨#[]⟩ = q at *
          have := data_size q
          unfold labL
          simp only [List.length_cons]
          omega
        obtain ⟨tl, ns', ats', h1, h2, h3, h4, h5, h6, h7⟩ := nm8_facts s L hL f (i + 1) (n + (labL (L.getD i ⟨#[]⟩)).length) (if n < 16384 then ns ++ [restB s i] else ns) (if n < 16384 then ats ++ [n] else ats)
        refine ⟨labL (L.getD i ⟨#[]⟩) ++ tl, ns', ats', fun l hl => ?_, ?_, ?_, fun e => h4 ?_, fun e => h5 ?_, fun p hp => ?_, ?_⟩
        · rw [nm8, if_neg hi, hf]
          simp only [hl]
          rw [h1 _ (by rw [List.length_append, hl]), List.append_assoc]
        · rw [List.length_append]; omega
        · by_cases hn : n < 16384
          · rw [if_pos hn] at h3; simp at h3; omega
          · rw [if_neg hn] at h3; omega
        · by_cases hn : n < 16384
          · rw [if_pos hn, if_pos hn]; simp [e]
          · rw [if_neg hn, if_neg hn]; exact e
        · by_cases hn : n < 16384
          · rw [if_pos hn]
            intro a ha
            rcases List.mem_append.1 ha with ha | ha
            · exact e a ha
            · rw [List.mem_singleton.1 ha]; exact hn
          · rw [if_neg hn]; exact e
        · rcases h6 p hp with h | h
          · by_cases hn : n < 16384
            · rw [if_pos hn] at h
              rcases List.mem_append.1 h with h | h
              · exact .inl h
              · rw [List.mem_singleton.1 h]; exact .inr (rest_le s i)
            · rw [if_neg hn] at h; exact .inl h
          · exact .inr h
        · have hlb : 1 ≤ (labL (L.getD i ⟨#[]⟩)).length := by unfold labL; simp
          rw [List.length_append]
          by_cases hn : n < 16384
          · rw [if_pos hn] at h7; simp only [List.length_append, List.length_cons, List.length_nil] at h7; omega
          · rw [if_neg hn] at h7; omega
/-- What was written: bytes, names, places. -/
abbrev Wst := List UInt8 × List ByteArray × List Nat
def nmT (s : ByteArray) (n : Nat) (ns : List ByteArray) (ats : List Nat) : Wst :=
  ((nm8 s (labelsB s) ((labelsB s).length + 1) 0 (List.replicate n 0) ns ats).1.drop n, (nm8 s (labelsB s) ((labelsB s).length + 1) 0 (List.replicate n 0) ns ats).2)
structure NmT (s : ByteArray) (n : Nat) (ns : List ByteArray) (ats : List Nat) : Prop where
  eq : ∀ l : List UInt8, l.length = n → nm8 s (labelsB s) ((labelsB s).length + 1) 0 l ns ats = (l ++ (nmT s n ns ats).1, (nmT s n ns ats).2.1, (nmT s n ns ats).2.2)
  len : (nmT s n ns ats).1.length ≤ 16300
  lns : (nmT s n ns ats).2.1.length ≤ ns.length + 254
  two : ats.length = ns.length → (nmT s n ns ats).2.2.length = (nmT s n ns ats).2.1.length
  low : (∀ a ∈ ats, a < 16384) → ∀ a ∈ (nmT s n ns ats).2.2, a < 16384
  lnt : (nmT s n ns ats).2.1.length ≤ ns.length + (nmT s n ns ats).1.length
  sm : (∀ p ∈ ns, p.size ≤ 253) → ∀ p ∈ (nmT s n ns ats).2.1, p.size ≤ 253
theorem nmT_is {s : ByteArray} (hm : mayN s = true) (n : Nat) (ns : List ByteArray) (ats : List Nat) : NmT s n ns ats := by
  have hs := may_small hm
  have hl := labels_len s
  obtain ⟨tl, ns', ats', h1, h2, h3, h4, h5, h6, h7⟩ := nm8_facts s (labelsB s) (fun p hp => (may_label hm p hp).2) ((labelsB s).length + 1) 0 n ns ats
  have hT : nmT s n ns ats = (tl, ns', ats') := by
    unfold nmT
    rw [h1 (List.replicate n 0) (by simp)]
    simp
  refine ⟨fun l e => by rw [hT, h1 l e], ?_, ?_, ?_, ?_, ?_, ?_⟩ <;> rw [hT]
  · show tl.length ≤ 16300
    omega
  · show ns'.length ≤ _
    omega
  · exact h4
  · exact h5
  · exact h7
  · intro e p hp
    rcases h6 p hp with h | h
    · exact e p h
    · omega
/-- An address's bytes. -/
def byB (b : List Nat) : List UInt8 := b.map UInt8.ofNat
def daT (r : Rec) (n : Nat) (ns : List ByteArray) (ats : List Nat) : Wst :=
  if r.ty = 1 then (byB (r.b.take 4), ns, ats) else if r.ty = 28 then (byB r.b, ns, ats) else if r.ty = 5 then nmT r.tg n ns ats else (r.da.data.toList, ns, ats)
def numsR (r : Rec) : List UInt8 := twoL r.ty.toNat ++ twoL r.cl.toNat ++ twoL (r.ttl.toNat / 65536) ++ twoL (r.ttl.toNat % 65536)
theorem numsR_len (r : Rec) : (numsR r).length = 8 := rfl
def qW (t : Wst) (q : Qu) : Wst :=
  (t.1 ++ (nmT q.name t.1.length t.2.1 t.2.2).1 ++ (twoL q.ty.toNat ++ twoL q.cl.toNat), (nmT q.name t.1.length t.2.1 t.2.2).2)
/-- Where a record's data begins. -/
def atR (t : Wst) (r : Rec) : Nat := t.1.length + (nmT r.name t.1.length t.2.1 t.2.2).1.length + 10
def daR (t : Wst) (r : Rec) : Wst := daT r (atR t r) (nmT r.name t.1.length t.2.1 t.2.2).2.1 (nmT r.name t.1.length t.2.1 t.2.2).2.2
def rW (t : Wst) (r : Rec) : Wst :=
  (t.1 ++ (nmT r.name t.1.length t.2.1 t.2.2).1 ++ numsR r ++ twoL (daR t r).1.length ++ (daR t r).1, (daR t r).2)
def hdB (m : Msg) : List UInt8 := twoL m.id.toNat ++ twoL m.fl.toNat ++ twoL m.qs.length ++ twoL m.an.length ++ twoL m.au.length ++ twoL m.mo.length
def wM (m : Msg) : Wst := m.mo.foldl rW (m.au.foldl rW (m.an.foldl rW (m.qs.foldl qW (hdB m, [], []))))
def wB (m : Msg) : List UInt8 := (wM m).1
theorem qW_len (t : Wst) (q : Qu) : t.1.length ≤ (qW t q).1.length := by simp only [qW, List.length_append]; omega
theorem rW_len (t : Wst) (r : Rec) : t.1.length ≤ (rW t r).1.length := by simp only [rW, List.length_append]; omega
/-- As long as there is room. -/
def gd {α : Type} (f : Wst → α → Wst) (t : Wst) (x : α) : Wst := if 1232 < t.1.length then t else f t x
def Rg (t t' : Wst) : Prop := t = t' ∨ (1232 < t.1.length ∧ 1232 < t'.1.length)
theorem rg_step {α : Type} {f : Wst → α → Wst} (hf : ∀ t x, t.1.length ≤ (f t x).1.length) {t t' : Wst} (h : Rg t t') (x : α) : Rg (gd f t x) (f t' x) := by
  unfold gd
  rcases h with rfl | ⟨h1, h2⟩
  · by_cases hl : 1232 < t.1.length
    · rw [if_pos hl]; exact .inr ⟨hl, Nat.lt_of_lt_of_le hl (hf t x)⟩
    · rw [if_neg hl]; exact .inl rfl
  · rw [if_pos h1]; exact .inr ⟨h1, Nat.lt_of_lt_of_le h2 (hf t' x)⟩
theorem rg_fold {α : Type} {f : Wst → α → Wst} (hf : ∀ t x, t.1.length ≤ (f t x).1.length) : ∀ (D : List α) {t t' : Wst}, Rg t t' → Rg (D.foldl (gd f) t) (D.foldl f t')
  | [], _, _, h => h
  | x :: D, _, _, h => rg_fold hf D (rg_step hf h x)
def gM (m : Msg) : Wst := m.mo.foldl (gd rW) (m.au.foldl (gd rW) (m.an.foldl (gd rW) (m.qs.foldl (gd qW) (hdB m, [], []))))
theorem gM_is (m : Msg) : Rg (gM m) (wM m) := rg_fold rW_len _ (rg_fold rW_len _ (rg_fold rW_len _ (rg_fold qW_len _ (.inl rfl))))
theorem gM_full (m : Msg) : 1232 < (gM m).1.length ↔ 1232 < (wB m).length := by
  rcases gM_is m with e | ⟨h1, h2⟩
  · rw [e]; exact Iff.rfl
  · exact ⟨fun _ => h2, fun _ => h1⟩
theorem gM_fits (m : Msg) (h : (wB m).length ≤ 1232) : gM m = wM m := by
  rcases gM_is m with e | ⟨h1, h2⟩
  · exact e
  · exact absurd h2 (by unfold wB at h; omega)
/-- Two bytes put in later. -/
def patch (l : List UInt8) (at0 n : Nat) : List UInt8 := (l.set at0 (UInt8.ofNat (n / 256))).set (at0 + 1) (UInt8.ofNat (n % 256))
def patchAll (l : List UInt8) (zs : List (Nat × Nat)) : List UInt8 := zs.foldl (fun l z => patch l z.1 z.2) l
theorem patch_len (l : List UInt8) (a n : Nat) : (patch l a n).length = l.length := by simp [patch]
theorem patchAll_len : ∀ (zs : List (Nat × Nat)) (l : List UInt8), (patchAll l zs).length = l.length
  | [], _ => rfl
  | z :: zs, l => by
    show (patchAll (patch l z.1 z.2) zs).length = _
    rw [patchAll_len zs, patch_len]
theorem patch_more (l x : List UInt8) (a n : Nat) (h : a + 2 ≤ l.length) : patch (l ++ x) a n = patch l a n ++ x := by
  unfold patch
  rw [List.set_append_left _ _ (by omega), List.set_append_left _ _ (by simp; omega)]
theorem patchAll_more (x : List UInt8) : ∀ (zs : List (Nat × Nat)) (l : List UInt8), (∀ z ∈ zs, z.1 + 2 ≤ l.length) → patchAll (l ++ x) zs = patchAll l zs ++ x
  | [], _, _ => rfl
  | z :: zs, l, h => by
    show patchAll (patch (l ++ x) z.1 z.2) zs = patchAll (patch l z.1 z.2) zs ++ x
    rw [patch_more l x z.1 z.2 (h z (List.mem_cons_self ..)), patchAll_more x zs _ (fun y hy => by rw [patch_len]; exact h y (List.mem_cons_of_mem _ hy))]
theorem patch_mid (l x : List UInt8) (n : Nat) : patch (l ++ [0, 0] ++ x) l.length n = l ++ twoL n ++ x := by
  unfold patch twoL
  rw [List.append_assoc, List.set_append_right _ _ (Nat.le_refl _), List.set_append_right _ _ (Nat.le_succ _)]
  simp
/-- Bytes whose sizes are put in later, beside those that they become. -/
structure PR (u : Wst) (zs : List (Nat × Nat)) (t : Wst) : Prop where
  len : u.1.length = t.1.length
  two : u.2 = t.2
  eq : patchAll u.1 zs = t.1
  at0 : ∀ z ∈ zs, z.1 + 2 ≤ u.1.length
  low : ∀ z ∈ zs, z.2 ≤ 65535
/-- A record's bytes with noughts where its size will stand. -/
def rU (u : Wst) (r : Rec) : Wst := (u.1 ++ (nmT r.name u.1.length u.2.1 u.2.2).1 ++ numsR r ++ [0, 0] ++ (daR u r).1, (daR u r).2)
theorem PR.r {u t : Wst} {zs : List (Nat × Nat)} (h : PR u zs t) (r : Rec) (hd : (daR u r).1.length ≤ 65535) : PR (rU u r) (zs ++ [(atR u r - 2, (daR u r).1.length)]) (rW t r) := by
  have e1 : daR u r = daR t r := by unfold daR atR; rw [h.len, h.two]
  have e2 : nmT r.name u.1.length u.2.1 u.2.2 = nmT r.name t.1.length t.2.1 t.2.2 := by rw [h.len, h.two]
  have e3 : atR u r = u.1.length + (nmT r.name u.1.length u.2.1 u.2.2).1.length + 10 := rfl
  rw [e3]
  unfold rU rW
  rw [e1] at hd ⊢
  rw [e2]
  generalize (nmT r.name t.1.length t.2.1 t.2.2).1 = x at *
  generalize daR t r = d at *
  refine ⟨by simp only [List.length_append, h.len]; rfl, rfl, ?_, fun z hz => ?_, fun z hz => ?_⟩
  · unfold patchAll
    rw [List.foldl_append]
    show patch (patchAll (u.1 ++ x ++ numsR r ++ [0, 0] ++ d.1) zs) _ _ = _
    rw [List.append_assoc, List.append_assoc, List.append_assoc, patchAll_more _ zs u.1 h.at0, h.eq]
    have := patch_mid (t.1 ++ x ++ numsR r) d.1 d.1.length
    rw [show (t.1 ++ x ++ numsR r).length = u.1.length + x.length + 10 - 2 by simp only [List.length_append, h.len, numsR_len]; omega] at this
    simpa [List.append_assoc] using this
  · simp only [List.length_append, numsR_len]
    rcases List.mem_append.1 hz with hz | hz
    · have := h.at0 z hz
      omega
    · rw [List.mem_singleton.1 hz]
      show u.1.length + x.length + 10 - 2 + 2 ≤ _
      simp only [List.length_cons, List.length_nil]
      omega
  · rcases List.mem_append.1 hz with hz | hz
    · exact h.low z hz
    · rw [List.mem_singleton.1 hz]; exact hd
/-- What was written is of a size that a writer bears. -/
structure Wok (K : Nat) (t : Wst) : Prop where
  len : t.1.length ≤ K
  lns : t.2.1.length ≤ t.1.length
  two : t.2.2.length = t.2.1.length
  low : ∀ a ∈ t.2.2, a < 16384
  sm : ∀ p ∈ t.2.1, p.size ≤ 253
theorem Wok.wider {K K' : Nat} {t : Wst} (h : Wok K t) (hk : K ≤ K') : Wok K' t := ⟨Nat.le_trans h.len hk, h.lns, h.two, h.low, h.sm⟩
theorem Wok.nm {K : Nat} {t : Wst} (h : Wok K t) {s : ByteArray} (hm : mayN s = true) : Wok (K + 16300) (t.1 ++ (nmT s t.1.length t.2.1 t.2.2).1, (nmT s t.1.length t.2.1 t.2.2).2) := by
  have N := nmT_is hm t.1.length t.2.1 t.2.2
  have h1 := h.len
  have h2 := h.lns
  have h3 := N.len
  have h4 := N.lnt
  exact ⟨by rw [List.length_append]; omega, by rw [List.length_append]; exact Nat.le_trans h4 (by omega), N.two h.two, N.low h.low, N.sm h.sm⟩
theorem Wok.put {K : Nat} {t : Wst} (h : Wok K t) (x : List UInt8) : Wok (K + x.length) (t.1 ++ x, t.2) := by
  have h1 := h.len
  have h2 := h.lns
  exact ⟨by rw [List.length_append]; omega, by rw [List.length_append]; exact Nat.le_trans h2 (by omega), h.two, h.low, h.sm⟩
theorem mayQ9_name {q : Qu} (h : mayQ9 q = true) : mayN q.name = true ∧ wordN q.ty = true ∧ wordN q.cl = true := by
  unfold mayQ9 at h
  simp only [Bool.and_eq_true] at h
  exact ⟨h.1.1, h.1.2, h.2⟩
theorem Wok.q {K : Nat} {t : Wst} (h : Wok K t) {q : Qu} (hm : mayQ9 q = true) : Wok (K + 16304) (qW t q) := (h.nm (mayQ9_name hm).1).put (twoL q.ty.toNat ++ twoL q.cl.toNat)
structure MayRec (r : Rec) : Prop where
  name : mayN r.name = true
  ty : 0 ≤ r.ty ∧ r.ty ≤ 65535
  cl : 0 ≤ r.cl ∧ r.cl ≤ 65535
  ttl : 0 ≤ r.ttl ∧ r.ttl ≤ 2147483647
  tg : r.ty = 5 → mayN r.tg = true
  da : r.da.size ≤ 65535
  body : bodyR r = true
theorem mayRec {r : Rec} (h : mayR r = true) : MayRec r := by
  unfold mayR headR at h
  simp only [Bool.and_eq_true, decide_eq_true_eq, wordN] at h
  obtain ⟨⟨⟨⟨⟨⟨h1, h2⟩, h3⟩, h4⟩, h5⟩, h6⟩, h7⟩ := h
  refine ⟨h1, h2, h3, ⟨h4, h5⟩, fun e => ?_, h6, h7⟩
  unfold bodyR at h7
  rw [if_neg (by omega), if_neg (by omega), if_pos e] at h7
  simp only [Bool.and_eq_true] at h7
  exact h7.1.1
theorem byB_len (b : List Nat) : (byB b).length = b.length := by simp [byB]
theorem Wok.da {K : Nat} {t : Wst} (h : Wok K t) {r : Rec} (hm : mayR r = true) (h16 : r.b.length = 16) : Wok (K + 65535) (t.1 ++ (daT r t.1.length t.2.1 t.2.2).1, (daT r t.1.length t.2.1 t.2.2).2) ∧ (daT r t.1.length t.2.1 t.2.2).1.length ≤ 65535 := by
  have M := mayRec hm
  unfold daT
  by_cases h1 : r.ty = 1
  · rw [if_pos h1]
    refine ⟨(h.put (byB (r.b.take 4))).wider ?_, ?_⟩
    · rw [byB_len, List.length_take]; omega
    · show (byB (r.b.take 4)).length ≤ _
      rw [byB_len, List.length_take]; omega
  · rw [if_neg h1]
    by_cases h2 : r.ty = 28
    · rw [if_pos h2]
      refine ⟨(h.put (byB r.b)).wider ?_, ?_⟩
      · rw [byB_len]; omega
      · show (byB r.b).length ≤ _
        rw [byB_len]; omega
    · rw [if_neg h2]
      by_cases h3 : r.ty = 5
      · rw [if_pos h3]
        exact ⟨(h.nm (M.tg h3)).wider (by omega), Nat.le_trans (nmT_is (M.tg h3) _ _ _).len (by omega)⟩
      · rw [if_neg h3]
        have := M.da
        refine ⟨(h.put r.da.data.toList).wider (by rw [data_size]; omega), ?_⟩
        show r.da.data.toList.length ≤ _
        rw [data_size]
        omega
/-- A record's head: its name, its numbers, two bytes for its size. -/
def hR (t : Wst) (r : Rec) (x : List UInt8) : Wst := (t.1 ++ (nmT r.name t.1.length t.2.1 t.2.2).1 ++ numsR r ++ x, (nmT r.name t.1.length t.2.1 t.2.2).2)
theorem hR_len (t : Wst) (r : Rec) (x : List UInt8) (hx : x.length = 2) : (hR t r x).1.length = atR t r := by
  simp only [hR, atR, List.length_append, numsR_len, hx]
theorem daR_hR (t : Wst) (r : Rec) (x : List UInt8) (hx : x.length = 2) : daR t r = daT r (hR t r x).1.length (hR t r x).2.1 (hR t r x).2.2 := by rw [hR_len t r x hx]; rfl
theorem Wok.head {K : Nat} {t : Wst} (h : Wok K t) {r : Rec} (hm : mayR r = true) (x : List UInt8) (hx : x.length = 2) : Wok (K + 16310) (hR t r x) := by
  have := ((h.nm (mayRec hm).name).put (numsR r)).put x
  rw [numsR_len, hx] at this
  exact this
theorem Wok.r {K : Nat} {t : Wst} (h : Wok K t) {r : Rec} (hm : mayR r = true) (h16 : r.b.length = 16) : Wok (K + 81845) (rW t r) ∧ Wok (K + 81845) (rU t r) ∧ (daR t r).1.length ≤ 65535 := by
  have h1 := (h.head hm (twoL (daR t r).1.length) rfl).da hm h16
  have h2 := (h.head hm [0, 0] rfl).da hm h16
  rw [← daR_hR t r _ rfl] at h1 h2
  exact ⟨h1.1, h2.1, h1.2⟩
theorem Wok.gq {t : Wst} (h : Wok 90000 t) {q : Qu} (hm : mayQ9 q = true) : Wok 90000 (gd qW t q) := by
  unfold gd
  by_cases hl : 1232 < t.1.length
  · rw [if_pos hl]; exact h
  · rw [if_neg hl]
    exact (Wok.q (K := 1232) ⟨by omega, h.lns, h.two, h.low, h.sm⟩ hm).wider (by omega)
end Go.Proofs.Yticdpidngmeebaa
/- Addresses that a walk holds; loads of them, guarded or not, and of their bytes alone; sixteen bytes stored whole. -/
namespace Go.Proofs.Yticdpidngmeebaa
open Go.RowKit
set_option linter.unusedVariables false
set_option maxRecDepth 20000

theorem HeldR.addr {L : List (Nat × Nat × List Value)} {W w : World} {G : Nat} {f : Int} {bs : List Nat} (h : HeldR L W w) (hA : AddrAt w G f bs) : HeldR ((G, 0, addrL f bs) :: L) W w := h.cons hA.range hA.lt
/-- An address of the list. -/
def InA (L : List (Nat × Nat × List Value)) (G : Nat) (f : Int) (bs : List Nat) : Prop := (G, 0, addrL f bs) ∈ L ∧ bs.length = 16
theorem yields_addr {ops : Array Oper} {op : Oper} {a : Act} {L : List (Nat × Nat × List Value)} {W : World} {G : Nat} {f : Int} {bs : List Nat} (hm : Hid (InA L G f bs)) (hw : Region.wanted op (yielded ops a.tmps) = true) (x : Operand) (ho : op.op = .load 40 x)
    (hx : a.eval x = .pointer (some ⟨G, 0, none⟩)) : YieldsIf Try.prog ops (HeldR L W) op (addrV f bs) a :=
  yieldsIf_load_mid hw 40 x ho G 0 hx (addrL f bs) _ (fun _ h => h.get hm.out.1) Try.underlying40 rfl (by rw [addr_size, addrL_len f bs hm.out.2])
/-- An address, loaded whole, guarded or not. -/
theorem load_addr_g {ops : Array Oper} {rest : List Oper} {op : Oper} {a : Act} {w : World} {Q : Exit → Act → World → Prop} {G : Nat} {f : Int} {bs : List Nat} (hA : Hid (AddrAt w G f bs)) (x : Operand) (hw : Region.wanted op (yielded ops a.tmps) = true) (ho : op.op = .load 40 x)
    (hx : a.eval x = .pointer (some ⟨G, 0, none⟩)) (h : wpList Try.prog ops Q rest (a.put op.dst (addrV f bs)) w) : wpList Try.prog ops Q (op :: rest) a w :=
  wpList_load_row hw 40 x ho G 0 hx (addrL f bs) _ hA.out.range Try.underlying40 rfl (by rw [addr_size, addrL_len f bs hA.out.len]) h
/-- Sixteen bytes that lie somewhere. -/
structure B16 (w : World) (G o : Nat) (bs : List Nat) : Prop where
  len : bs.length = 16
  lt : G < w.heap.size
  range : w.rangeAt G o (bs.map fun n => Value.int .u8 ((n : Nat) : Int))
  there : w.there G o 16
/-- The cells of sixteen zeros. -/
abbrev z16 : Array Value := #[.int .u8 0, .int .u8 0, .int .u8 0, .int .u8 0, .int .u8 0, .int .u8 0, .int .u8 0, .int .u8 0, .int .u8 0, .int .u8 0, .int .u8 0, .int .u8 0, .int .u8 0, .int .u8 0, .int .u8 0, .int .u8 0]
/-- Sixteen bytes of the list. -/
def InB (L : List (Nat × Nat × List Value)) (G o : Nat) (bs : List Nat) : Prop := (G, o, bs.map fun n => Value.int .u8 ((n : Nat) : Int)) ∈ L ∧ bs.length = 16
end Go.Proofs.Yticdpidngmeebaa
/- Contracts of text.digit and text.Number: the number of a text's digits. -/
namespace Go.Proofs.Yticdpidngmeebaa
open Go.RowKit
set_option linter.unusedVariables false
set_option maxRecDepth 20000

/-- A digit's number; 16: it is none. -/
def digC (c : Nat) : Nat := if 48 ≤ c ∧ c ≤ 57 then c - 48 else if 97 ≤ c ∧ c ≤ 102 then c - 87 else if 65 ≤ c ∧ c ≤ 70 then c - 55 else 16
/-- The byte at a place, or 0. -/
def byteOf (s : ByteArray) (k : Nat) : Nat := (s.data.toList.getD k 0).toNat
def most : Nat := 1099511627776
/-- The number of the first k digits, if there is one. -/
def numTo (s : ByteArray) (b : Nat) : Nat → Option Nat
  | 0 => some 0
  | k + 1 => match numTo s b k with
    | none => none
    | some n => if b ≤ digC (byteOf s k) then none else if most < n * b + digC (byteOf s k) then none else some (n * b + digC (byteOf s k))
def numB (s : ByteArray) (b : Nat) : Option Nat := if s.size = 0 then none else numTo s b s.size
/-- What Number answers. -/
def numRet (o : Option Nat) : Value := .tuple #[.int .i64 ((o.getD 0 : Nat) : Int), .bool o.isSome]

end Go.Proofs.Yticdpidngmeebaa
/- Contracts of the reference's digit, Number and Decimal: a number's decimal digits, and how they are read back. -/
namespace Go.Proofs.Yticdpidngmeebaa
open Go.RowKit
set_option linter.unusedVariables false
set_option maxRecDepth 20000

/-- A digit's number as the reference tells it; -1: it is none. -/
def digI (c : Nat) : Int := if digC c < 16 then (digC c : Int) else -1

end Go.Proofs.Yticdpidngmeebaa
/- Contracts of four's readers of digits (a closure over the base), and of the reference's: a part's number, 2^32 at most. -/
namespace Go.Proofs.Yticdpidngmeebaa
open Go.RowKit
set_option linter.unusedVariables false
set_option maxRecDepth 20000

/-- The number of the first k digits, 2^32 at most, if all are digits. -/
def readTo (s : ByteArray) (b : Nat) : Nat → Option Nat
  | 0 => some 0
  | k + 1 => match readTo s b k with
    | none => none
    | some n => if b ≤ digC (byteOf s k) then none else some (min (n * b + digC (byteOf s k)) 4294967296)
def readF (s : ByteArray) (b : Nat) : Option Nat := readTo s b s.size
/-- As the reference tells it; -1: there is none. -/
def optI : Option Nat → Int
  | none => -1
  | some n => n
end Go.Proofs.Yticdpidngmeebaa
/- Contracts of four.Of and four.Strict: the address of four bytes, and of a strict text. -/
namespace Go.Proofs.Yticdpidngmeebaa
open Go.RowKit
set_option linter.unusedVariables false
set_option maxRecDepth 20000

def arr4 (a b c d : Nat) : Value := .agg #[.int .u8 (a : Int), .int .u8 (b : Int), .int .u8 (c : Int), .int .u8 (d : Int)]
theorem or_low (X c : Nat) (hX : X < 16777216) (hc : c < 256) : bits .or .u32 ((X : Int) * 256) (c : Int) = ((X * 256 + c : Nat) : Int) := by
  rw [bits_join .u32 32 (by decide) (fun n h0 h1 => by rw [IntKind.wrap_u32]; omega) 8 ((X : Int) * 256) c (by omega) (by omega) (by omega) (by omega) (by omega) (by omega)]
  omega
/-- The first k of four bytes, as a number. -/
def ofTo (a b c d : Nat) : Nat → Nat
  | 0 => 0
  | 1 => a
  | 2 => a * 256 + b
  | 3 => (a * 256 + b) * 256 + c
  | _ => ((a * 256 + b) * 256 + c) * 256 + d
set_option maxRecDepth 100000 in
set_option maxHeartbeats 1000000 in
theorem of_any (a b c d : Nat) (w : World) (ha : a < 256) (hb : b < 256) (hc : c < 256) (hd : d < 256) :
    Calls Try.prog 99 #[arr4 a b c d] w fun e w' => e = .returned (.int .u32 (((a * 256 + b) * 256 + c) * 256 + d : Nat)) ∧ Below w.heap.size w w' := by
  unfold arr4
  have i0 : ∀ w : World, (Instr.index 143 (.agg #[.int .u8 (a : Int), .int .u8 (b : Int), .int .u8 (c : Int), .int .u8 (d : Int)]) (.int .i64 0)).run Try.prog w = .ok (.int .u8 (a : Int)) w := fun _ => by kernel_rfl
  have i1 : ∀ w : World, (Instr.index 143 (.agg #[.int .u8 (a : Int), .int .u8 (b : Int), .int .u8 (c : Int), .int .u8 (d : Int)]) (.int .i64 1)).run Try.prog w = .ok (.int .u8 (b : Int)) w := fun _ => by kernel_rfl
  have i2 : ∀ w : World, (Instr.index 143 (.agg #[.int .u8 (a : Int), .int .u8 (b : Int), .int .u8 (c : Int), .int .u8 (d : Int)]) (.int .i64 2)).run Try.prog w = .ok (.int .u8 (c : Int)) w := fun _ => by kernel_rfl
  have i3 : ∀ w : World, (Instr.index 143 (.agg #[.int .u8 (a : Int), .int .u8 (b : Int), .int .u8 (c : Int), .int .u8 (d : Int)]) (.int .i64 3)).run Try.prog w = .ok (.int .u8 (d : Int)) w := fun _ => by kernel_rfl
  go_enter Try.func99, Try.ntmps99
  go_wp2
  go_loop [3, 7] (fun t i => ∃ k X : Nat, k ≤ 4 ∧ i = .int .i64 k ∧ t = .int .u32 (X : Int) ∧ X < 256 ^ k ∧ Hid (X = ofTo a b c d k)) (fun _ i => 4 - (intOf i).toNat)
  case atStart => exact ⟨0, 0, Nat.zero_le _, rfl, rfl, by decide, Lib.hid rfl⟩
  case round =>
    obtain ⟨k, X, hk, rfl, rfl, hX, HX⟩ := hrel
    have hk5 : k = 0 ∨ k = 1 ∨ k = 2 ∨ k = 3 ∨ k = 4 := by omega
    rcases hk5 with rfl | rfl | rfl | rfl | rfl
    · have hXb : X < 16777216 := Nat.lt_of_lt_of_le hX (by decide)
      go_wp2
      exact ⟨⟨1, X * 256 + a, by omega, rfl, by rw [or_low X a hXb ha], by simp at hX ⊢; omega, Lib.hid (by rw [HX.out]; simp [ofTo])⟩, by decide⟩
    · have hXb : X < 16777216 := Nat.lt_of_lt_of_le hX (by decide)
      go_wp2
      exact ⟨⟨2, X * 256 + b, by omega, rfl, by rw [or_low X b hXb hb], by simp at hX ⊢; omega, Lib.hid (by rw [HX.out]; simp [ofTo])⟩, by decide⟩
    · have hXb : X < 16777216 := Nat.lt_of_lt_of_le hX (by decide)
      go_wp2
      exact ⟨⟨3, X * 256 + c, by omega, rfl, by rw [or_low X c hXb hc], by simp at hX ⊢; omega, Lib.hid (by rw [HX.out]; simp [ofTo])⟩, by decide⟩
    · have hXb : X < 16777216 := Nat.lt_of_lt_of_le hX (by decide)
      go_wp2
      exact ⟨⟨4, X * 256 + d, by omega, rfl, by rw [or_low X d hXb hd], by simp at hX ⊢; omega, Lib.hid (by rw [HX.out]; simp [ofTo])⟩, by decide⟩
    · go_wp2
      go_ret
      exact ⟨by have := HX.out; rw [this]; rfl, (Below.refl _ _).alloc (Nat.le_refl _) _⟩

/-- A part of a strict text. -/
def octet (p : ByteArray) : Option Nat :=
  match numB p 10 with
  | none => none
  | some n => if 255 < n then none else if 1 < p.size ∧ byteOf p 0 = 48 then none else some n
/-- The number of the first k parts. -/
def octTo (l : List ByteArray) : Nat → Option Nat
  | 0 => some 0
  | k + 1 => match octTo l k with
    | none => none
    | some m => match octet (l.getD k ⟨#[]⟩) with
      | none => none
      | some n => some (m * 256 + n)
/-- A strict text's address. -/
def strictB (s : ByteArray) : Option Nat := if (pieces s 46).length = 4 then octTo (pieces s 46) 4 else none
def strictRet (o : Option Nat) : Value := .tuple #[.int .u32 ((o.getD 0 : Nat) : Int), .bool o.isSome]
end Go.Proofs.Yticdpidngmeebaa
/- The contract of the reference's Strict. -/
namespace Go.Proofs.Yticdpidngmeebaa
open Go.RowKit
set_option linter.unusedVariables false
set_option maxRecDepth 20000

end Go.Proofs.Yticdpidngmeebaa
/- Contracts of the reference's readers of layer 3: hex, gap, Groups. -/
namespace Go.Proofs.Yticdpidngmeebaa
open Go.RowKit
set_option linter.unusedVariables false
set_option maxRecDepth 20000

/-- A group's number. -/
def hexG (p : ByteArray) : Option Nat := if 4 < p.size then none else numB p 16
/-- Where two colons stand first, among the first k places. -/
def gapTo (s : ByteArray) : Nat → Option Nat
  | 0 => none
  | k + 1 => match gapTo s k with
    | some i => some i
    | none => if byteOf s k = 58 ∧ byteOf s (k + 1) = 58 then some k else none
def gapB (s : ByteArray) : Option Nat := gapTo s (s.size - 1)
/-- A row of one's own, over a lower base. -/
theorem own_lower {w : World} {B B' : Nat} {t : TypeId} {z : Nat} {v : Value} {n : Nat} {xs : List Value} (h : w.ownsRow B t z v n xs) (hB : B' ≤ B) : w.ownsRow B' t z v n xs := by
  obtain ⟨h1, h2⟩ := h
  refine ⟨h1, ?_⟩
  rcases h2 with h2 | ⟨g, cap, cur, e, hb, rest⟩
  · exact .inl h2
  · exact .inr ⟨g, cap, cur, e, by omega, rest⟩
/-- Numbers, as cells. -/
def ints (l : List Nat) : List Value := l.map fun n => Value.int .i64 ((n : Nat) : Int)
/-- The groups of the first k pieces. -/
def grTo (l : List ByteArray) (dot : Bool) : Nat → Option (List Nat)
  | 0 => some []
  | k + 1 => match grTo l dot k with
    | none => none
    | some out => match hexG (l.getD k ⟨#[]⟩) with
      | some v => some (out ++ [v])
      | none => match strictB (l.getD k ⟨#[]⟩) with
        | none => none
        | some v => if dot = true ∧ ¬ k + 1 < l.length then some (out ++ [v / 65536, v % 65536]) else none
def groupsB (s : ByteArray) (dot : Bool) : Option (List Nat) := if s.size = 0 then some [] else grTo (pieces s 58) dot (pieces s 58).length
/-- What Groups hands back: a row of its own. -/
def GrRet (w : World) (o : Option (List Nat)) (e : Ending) (w' : World) : Prop :=
  ∃ v, e = .returned (.tuple #[v, .bool o.isSome]) ∧ w'.ownsRow w.heap.size 3 1 v (o.getD []).length (ints (o.getD [])) ∧ Below w.heap.size w w'
end Go.Proofs.Yticdpidngmeebaa
/- The contract of the reference's Parse of layer 3. -/
namespace Go.Proofs.Yticdpidngmeebaa
open Go.RowKit
set_option linter.unusedVariables false
set_option maxRecDepth 20000

/-- An array of eight groups lies at B. -/
structure Arr8 (w : World) (B : Nat) (gs : List Nat) : Prop where
  len : gs.length = 8
  lt : B < w.heap.size
  cells : ∀ j, j < 8 → w.cell? ⟨B, j, none⟩ = some (.int .u16 ((gs.getD j 0 : Nat) : Int))
  live : ∀ j, j < 8 → w.frozen? ⟨B, j, none⟩ = false
theorem Arr8.below {w w' : World} {B : Nat} {gs : List Nat} (h : Arr8 w B gs) (hb : Below w.heap.size w w') : Arr8 w' B gs :=
  ⟨h.len, Nat.lt_of_lt_of_le h.lt hb.size, fun j hj => by rw [hb.cell (p := ⟨B, j, none⟩) h.lt]; exact h.cells j hj, fun j hj => by rw [hb.frozen (p := ⟨B, j, none⟩) h.lt]; exact h.live j hj⟩
theorem Arr8.other {w : World} {B B' k : Nat} {gs : List Nat} (h : Arr8 w B gs) (hB : B' ≠ B) (u : Value) : Arr8 (w.setCell ⟨B', k, none⟩ u) B gs := by
  refine ⟨h.len, by simpa using h.lt, ?_, ?_⟩
  · intro j hj
    rw [World.cell?_setCell_other _ _ _ _ (by intro h2; injection h2 with h3 _ _; exact hB h3)]
    exact h.cells j hj
  · intro j hj
    rw [World.frozen?_setCell]
    exact h.live j hj
/-- Eight groups, stored one by one. -/
def store8 (W : World) (R : Nat) (y0 y1 y2 y3 y4 y5 y6 y7 : Nat) : World := ((((((((W.setCell ⟨R, 0, none⟩ (.int .u16 ((y0 : Nat) : Int))).setCell ⟨R, 1, none⟩ (.int .u16 ((y1 : Nat) : Int))).setCell ⟨R, 2, none⟩ (.int .u16 ((y2 : Nat) : Int))).setCell ⟨R, 3, none⟩ (.int .u16 ((y3 : Nat) : Int))).setCell ⟨R, 4, none⟩ (.int .u16 ((y4 : Nat) : Int))).setCell ⟨R, 5, none⟩ (.int .u16 ((y5 : Nat) : Int))).setCell ⟨R, 6, none⟩ (.int .u16 ((y6 : Nat) : Int))).setCell ⟨R, 7, none⟩ (.int .u16 ((y7 : Nat) : Int)))
/-- A row of numbers, as a walk reads it; it may be nil. -/
structure IntRow (w : World) (B : Nat) (b : Option Addr) (n c : Nat) (l : List Nat) : Prop where
  len : l.length = n
  cap : n ≤ c
  capm : c ≤ maxLen
  lies : n = 0 ∨ ∃ h, b = some ⟨h, 0, none⟩ ∧ B ≤ h ∧ h < w.heap.size ∧ ∀ j, j < n → w.cell? ⟨h, j, none⟩ = some (.int .i64 ((l.getD j 0 : Nat) : Int))
/-- The groups ahead of two colons, zeros, the groups behind. -/
def mergeB (oa ob : Option (List Nat)) : Option (List Nat) :=
  match oa, ob with
  | some a, some b => if 7 < a.length + b.length then none else some (a ++ List.replicate (8 - a.length - b.length) 0 ++ b)
  | _, _ => none
def parseB (s : ByteArray) : Option (List Nat) :=
  match gapB s with
  | none => match groupsB s true with
    | none => none
    | some l => if l.length = 8 then some l else none
  | some k => mergeB (groupsB (s.extract 0 k) false) (groupsB (s.extract (k + 2) s.size) true)
def arr8 (l : List Nat) : Value := .agg (l.map fun n => Value.int .u16 ((n : Nat) : Int)).toArray
def parseRet (o : Option (List Nat)) : Value := .tuple #[arr8 (o.getD [0, 0, 0, 0, 0, 0, 0, 0]), .bool o.isSome]

end Go.Proofs.Yticdpidngmeebaa
/- Contracts of the reference's Of4 and Of6 of layer 4. -/
namespace Go.Proofs.Yticdpidngmeebaa
open Go.RowKit
set_option linter.unusedVariables false
set_option maxRecDepth 20000

/-- Eight groups in a block (where the dump holds 92). -/
theorem Arr8.of8 (w : World) (t : TypeId) (x0 x1 x2 x3 x4 x5 x6 x7 : Nat) : Arr8 (w.alloc (.cells #[.int .u16 (x0 : Int), .int .u16 (x1 : Int), .int .u16 (x2 : Int), .int .u16 (x3 : Int), .int .u16 (x4 : Int), .int .u16 (x5 : Int), .int .u16 (x6 : Int), .int .u16 (x7 : Int)] t)) w.heap.size [x0, x1, x2, x3, x4, x5, x6, x7] := by
  refine ⟨rfl, by simp, ?_, fun j _ => World.frozen?_alloc_new _ _ _ _⟩
  intro j hj
  have : j = 0 ∨ j = 1 ∨ j = 2 ∨ j = 3 ∨ j = 4 ∨ j = 5 ∨ j = 6 ∨ j = 7 := by omega
  rcases this with rfl | rfl | rfl | rfl | rfl | rfl | rfl | rfl <;> simp [World.cell?_alloc_new]

/-- What Of4 has laid behind k rounds. -/
def lo4 (n : Nat) : Nat → List Nat
  | 0 => List.replicate 16 0
  | k + 1 => (lo4 n k).set (3 - k) (n / 256 ^ k % 256)
def b4 (n : Nat) : List Nat := lo4 n 4
theorem b4_eq (n : Nat) : b4 n = [n / 16777216 % 256, n / 65536 % 256, n / 256 % 256, n % 256, 0, 0, 0, 0, 0, 0, 0, 0, 0, 0, 0, 0] := by
  simp [b4, lo4]
theorem b4_len (n : Nat) : (b4 n).length = 16 := by rw [b4_eq]; rfl
theorem zero_addr (f : Int) : (#[.int .i64 f, .int .u8 0, .int .u8 0, .int .u8 0, .int .u8 0, .int .u8 0, .int .u8 0, .int .u8 0, .int .u8 0, .int .u8 0, .int .u8 0, .int .u8 0, .int .u8 0, .int .u8 0, .int .u8 0, .int .u8 0, .int .u8 0] : Array Value).toList = Value.int .i64 f :: (List.replicate 16 0).map fun n => Value.int .u8 ((n : Nat) : Int) := rfl
set_option maxRecDepth 100000 in
set_option maxHeartbeats 2000000 in
theorem refOf4_any (n : Nat) (w : World) (hn : n ≤ 4294967295) :
    Calls Try.prog 75 #[.int .u32 (n : Int)] w fun e w' => e = .returned (addrV 4 (b4 n)) ∧ Below w.heap.size w w' := by
  have hR := AddrAt.of w 40 #[.int .i64 0, .int .u8 0, .int .u8 0, .int .u8 0, .int .u8 0, .int .u8 0, .int .u8 0, .int .u8 0, .int .u8 0, .int .u8 0, .int .u8 0, .int .u8 0, .int .u8 0, .int .u8 0, .int .u8 0, .int .u8 0, .int .u8 0] 0 (List.replicate 16 0) rfl (zero_addr 0)
  have hP := AddrAt.of (w.alloc (.cells #[.int .i64 0, .int .u8 0, .int .u8 0, .int .u8 0, .int .u8 0, .int .u8 0, .int .u8 0, .int .u8 0, .int .u8 0, .int .u8 0, .int .u8 0, .int .u8 0, .int .u8 0, .int .u8 0, .int .u8 0, .int .u8 0, .int .u8 0] 40)) 40 #[.int .i64 4, .int .u8 0, .int .u8 0, .int .u8 0, .int .u8 0, .int .u8 0, .int .u8 0, .int .u8 0, .int .u8 0, .int .u8 0, .int .u8 0, .int .u8 0, .int .u8 0, .int .u8 0, .int .u8 0, .int .u8 0, .int .u8 0] 4 (List.replicate 16 0) rfl (zero_addr 4)
  have b1 : Below w.heap.size w (w.alloc (.cells #[.int .i64 0, .int .u8 0, .int .u8 0, .int .u8 0, .int .u8 0, .int .u8 0, .int .u8 0, .int .u8 0, .int .u8 0, .int .u8 0, .int .u8 0, .int .u8 0, .int .u8 0, .int .u8 0, .int .u8 0, .int .u8 0, .int .u8 0] 40)) := (Below.refl _ _).alloc (Nat.le_refl _) _
  have b2 := b1.alloc b1.size (.cells #[.int .i64 4, .int .u8 0, .int .u8 0, .int .u8 0, .int .u8 0, .int .u8 0, .int .u8 0, .int .u8 0, .int .u8 0, .int .u8 0, .int .u8 0, .int .u8 0, .int .u8 0, .int .u8 0, .int .u8 0, .int .u8 0, .int .u8 0] 40)
  have hR2 := hR.below ((Below.refl _ _).alloc (Nat.le_refl _) (.cells #[.int .i64 4, .int .u8 0, .int .u8 0, .int .u8 0, .int .u8 0, .int .u8 0, .int .u8 0, .int .u8 0, .int .u8 0, .int .u8 0, .int .u8 0, .int .u8 0, .int .u8 0, .int .u8 0, .int .u8 0, .int .u8 0, .int .u8 0] 40))
  have e1 : (w.alloc (.cells #[.int .i64 0, .int .u8 0, .int .u8 0, .int .u8 0, .int .u8 0, .int .u8 0, .int .u8 0, .int .u8 0, .int .u8 0, .int .u8 0, .int .u8 0, .int .u8 0, .int .u8 0, .int .u8 0, .int .u8 0, .int .u8 0, .int .u8 0] 40)).heap.size = w.heap.size + 1 := by simp
  rw [e1] at hP
  clear hR b1
  go_enter Try.func75, Try.ntmps75
  go_wp2_with fail
  generalize ((w.alloc (.cells #[.int .i64 0, .int .u8 0, .int .u8 0, .int .u8 0, .int .u8 0, .int .u8 0, .int .u8 0, .int .u8 0, .int .u8 0, .int .u8 0, .int .u8 0, .int .u8 0, .int .u8 0, .int .u8 0, .int .u8 0, .int .u8 0, .int .u8 0] 40)).alloc (.cells #[.int .i64 4, .int .u8 0, .int .u8 0, .int .u8 0, .int .u8 0, .int .u8 0, .int .u8 0, .int .u8 0, .int .u8 0, .int .u8 0, .int .u8 0, .int .u8 0, .int .u8 0, .int .u8 0, .int .u8 0, .int .u8 0, .int .u8 0] 40)) = W at *
  clear e1
  have HR := Lib.hid hR2
  have HP := Lib.hid hP
  clear hR2 hP
  go_loopw [0, 4] (fun t i wr => ∃ (k X : Nat) (l : List Nat), k ≤ 4 ∧ i = .int .i64 ((3 : Int) - (k : Int)) ∧ t = .int .u32 (X : Int) ∧ X ≤ 4294967295 ∧ Hid (X = n / 256 ^ k) ∧ Hid (AddrAt wr w.heap.size 0 (List.replicate 16 0)) ∧ Hid (AddrAt wr (w.heap.size + 1) 4 l) ∧ Hid (l = lo4 n k) ∧ Below w.heap.size w wr) (fun _ i _ => ((intOf i) + 1).toNat)
  case atStart => exact ⟨0, n, _, by decide, rfl, rfl, hn, Lib.hid (by simp), HR, HP, Lib.hid rfl, b2⟩
  case round =>
    obtain ⟨k, X, l, hk, rfl, rfl, hX, HX, HR2, HP2, HL, hbel⟩ := hrel
    by_cases hk4 : k < 4
    · obtain ⟨j, hj, ej⟩ : ∃ j : Nat, 3 - k = j ∧ (3 : Int) - (k : Int) = (j : Int) := ⟨_, rfl, by omega⟩
      have hp0 := HP2.out.cells j (by omega)
      have hl0 := HP2.out.live (1 + j) (by omega)
      obtain ⟨m, hm, em⟩ : ∃ m : Nat, X % 256 = m ∧ (X : Int) % 256 = (m : Int) := ⟨_, rfl, by omega⟩
      have wm : IntKind.u8.wrap (m : Int) = (m : Int) := by rw [IntKind.wrap_u8]; omega
      have hj16 : (j : Int) < 16 := by omega
      have HS := Lib.hid (HP2.out.set (i := j) (by omega) m)
      have HE : Hid (l.set j m = lo4 n (k + 1)) := Lib.hid (by rw [HL.out, lo4, hj, ← hm, HX.out])
      have HX2 : Hid (X / 256 = n / 256 ^ (k + 1)) := Lib.hid (by rw [HX.out, Nat.pow_succ, Nat.div_div_eq_div_mul])
      have hjk : j + k = 3 := by omega
      generalize l.getD j 0 = o0 at hp0
      clear hj hm
      go_wp2_with fail
      go_roundw
      case rel => exact ⟨k + 1, X / 256, l.set j m, by omega, by congr 1; omega, by first | rfl | (congr 1; omega), by omega, HX2, Lib.hid (HR2.out.other (by omega) _), HS, HE, hbel.setCell (p := ⟨w.heap.size + 1, 1 + j, none⟩) (by show w.heap.size ≤ w.heap.size + 1; omega) _⟩
      case measure => simp [intOf]; omega
    · obtain rfl : k = 4 := by omega
      have hll : l = b4 n := HL.out
      subst hll
      have HLN : Hid ((b4 n).length = 16) := Lib.hid HP2.out.len
      go_wp2_with (first | refine load_addr HP2 _ rfl rfl rfl ?_ | (refine store_addr HR2 _ _ HLN rfl rfl rfl rfl (fun W HW HA => ?_)))
      refine bodyPost_ret (v := addrV 4 (b4 n)) (results_addr Try.results75 rfl HA.out) rfl ⟨rfl, by rw [HW.out]; exact below_cells (by omega) _ _ _ hbel⟩

set_option maxRecDepth 100000 in
set_option maxHeartbeats 2000000 in
theorem refOf6_any (gs : List Nat) (w : World) (h8 : gs.length = 8) (hlt : ∀ x ∈ gs, x < 65536) :
    Calls Try.prog 92 #[arr8 gs] w fun e w' => e = .returned (addrV 6 (byL gs)) ∧ Below w.heap.size w w' := by
  obtain ⟨x0, x1, x2, x3, x4, x5, x6, x7, hgs⟩ := list8 gs h8
  have ha : arr8 gs = .agg #[.int .u16 (x0 : Int), .int .u16 (x1 : Int), .int .u16 (x2 : Int), .int .u16 (x3 : Int), .int .u16 (x4 : Int), .int .u16 (x5 : Int), .int .u16 (x6 : Int), .int .u16 (x7 : Int)] := by rw [hgs]; rfl
  have hA := Arr8.of8 w 140 x0 x1 x2 x3 x4 x5 x6 x7
  rw [← hgs] at hA
  have b1 : Below w.heap.size w (w.alloc (.cells #[.int .u16 (x0 : Int), .int .u16 (x1 : Int), .int .u16 (x2 : Int), .int .u16 (x3 : Int), .int .u16 (x4 : Int), .int .u16 (x5 : Int), .int .u16 (x6 : Int), .int .u16 (x7 : Int)] 140)) := (Below.refl _ _).alloc (Nat.le_refl _) _
  have b2 := b1.alloc b1.size (.cells #[.int .i64 0, .int .u8 0, .int .u8 0, .int .u8 0, .int .u8 0, .int .u8 0, .int .u8 0, .int .u8 0, .int .u8 0, .int .u8 0, .int .u8 0, .int .u8 0, .int .u8 0, .int .u8 0, .int .u8 0, .int .u8 0, .int .u8 0] 40)
  have b3 := b2.alloc b2.size (.cells #[.int .i64 6, .int .u8 0, .int .u8 0, .int .u8 0, .int .u8 0, .int .u8 0, .int .u8 0, .int .u8 0, .int .u8 0, .int .u8 0, .int .u8 0, .int .u8 0, .int .u8 0, .int .u8 0, .int .u8 0, .int .u8 0, .int .u8 0] 40)
  have hR := AddrAt.of (w.alloc (.cells #[.int .u16 (x0 : Int), .int .u16 (x1 : Int), .int .u16 (x2 : Int), .int .u16 (x3 : Int), .int .u16 (x4 : Int), .int .u16 (x5 : Int), .int .u16 (x6 : Int), .int .u16 (x7 : Int)] 140)) 40 #[.int .i64 0, .int .u8 0, .int .u8 0, .int .u8 0, .int .u8 0, .int .u8 0, .int .u8 0, .int .u8 0, .int .u8 0, .int .u8 0, .int .u8 0, .int .u8 0, .int .u8 0, .int .u8 0, .int .u8 0, .int .u8 0, .int .u8 0] 0 (List.replicate 16 0) rfl (zero_addr 0)
  have hP := AddrAt.of ((w.alloc (.cells #[.int .u16 (x0 : Int), .int .u16 (x1 : Int), .int .u16 (x2 : Int), .int .u16 (x3 : Int), .int .u16 (x4 : Int), .int .u16 (x5 : Int), .int .u16 (x6 : Int), .int .u16 (x7 : Int)] 140)).alloc (.cells #[.int .i64 0, .int .u8 0, .int .u8 0, .int .u8 0, .int .u8 0, .int .u8 0, .int .u8 0, .int .u8 0, .int .u8 0, .int .u8 0, .int .u8 0, .int .u8 0, .int .u8 0, .int .u8 0, .int .u8 0, .int .u8 0, .int .u8 0] 40)) 40 #[.int .i64 6, .int .u8 0, .int .u8 0, .int .u8 0, .int .u8 0, .int .u8 0, .int .u8 0, .int .u8 0, .int .u8 0, .int .u8 0, .int .u8 0, .int .u8 0, .int .u8 0, .int .u8 0, .int .u8 0, .int .u8 0, .int .u8 0] 6 (List.replicate 16 0) rfl (zero_addr 6)
  have hA2 := (hA.below ((Below.refl _ _).alloc (Nat.le_refl _) (.cells #[.int .i64 0, .int .u8 0, .int .u8 0, .int .u8 0, .int .u8 0, .int .u8 0, .int .u8 0, .int .u8 0, .int .u8 0, .int .u8 0, .int .u8 0, .int .u8 0, .int .u8 0, .int .u8 0, .int .u8 0, .int .u8 0, .int .u8 0] 40))).below ((Below.refl _ _).alloc (Nat.le_refl _) (.cells #[.int .i64 6, .int .u8 0, .int .u8 0, .int .u8 0, .int .u8 0, .int .u8 0, .int .u8 0, .int .u8 0, .int .u8 0, .int .u8 0, .int .u8 0, .int .u8 0, .int .u8 0, .int .u8 0, .int .u8 0, .int .u8 0, .int .u8 0] 40))
  have hR2 := hR.below ((Below.refl _ _).alloc (Nat.le_refl _) (.cells #[.int .i64 6, .int .u8 0, .int .u8 0, .int .u8 0, .int .u8 0, .int .u8 0, .int .u8 0, .int .u8 0, .int .u8 0, .int .u8 0, .int .u8 0, .int .u8 0, .int .u8 0, .int .u8 0, .int .u8 0, .int .u8 0, .int .u8 0] 40))
  have e1 : (w.alloc (.cells #[.int .u16 (x0 : Int), .int .u16 (x1 : Int), .int .u16 (x2 : Int), .int .u16 (x3 : Int), .int .u16 (x4 : Int), .int .u16 (x5 : Int), .int .u16 (x6 : Int), .int .u16 (x7 : Int)] 140)).heap.size = w.heap.size + 1 := by simp
  have e2 : ((w.alloc (.cells #[.int .u16 (x0 : Int), .int .u16 (x1 : Int), .int .u16 (x2 : Int), .int .u16 (x3 : Int), .int .u16 (x4 : Int), .int .u16 (x5 : Int), .int .u16 (x6 : Int), .int .u16 (x7 : Int)] 140)).alloc (.cells #[.int .i64 0, .int .u8 0, .int .u8 0, .int .u8 0, .int .u8 0, .int .u8 0, .int .u8 0, .int .u8 0, .int .u8 0, .int .u8 0, .int .u8 0, .int .u8 0, .int .u8 0, .int .u8 0, .int .u8 0, .int .u8 0, .int .u8 0] 40)).heap.size = w.heap.size + 1 + 1 := by simp
  rw [e1] at hR2
  rw [e2] at hP
  rw [ha]
  have H8 := Lib.hid h8
  have HLT := Lib.hid hlt
  clear ha hgs h8 hlt hA hR b1 b2
  go_enter Try.func92, Try.ntmps92
  go_wp2_with fail
  generalize (((w.alloc (.cells #[.int .u16 (x0 : Int), .int .u16 (x1 : Int), .int .u16 (x2 : Int), .int .u16 (x3 : Int), .int .u16 (x4 : Int), .int .u16 (x5 : Int), .int .u16 (x6 : Int), .int .u16 (x7 : Int)] 140)).alloc (.cells #[.int .i64 0, .int .u8 0, .int .u8 0, .int .u8 0, .int .u8 0, .int .u8 0, .int .u8 0, .int .u8 0, .int .u8 0, .int .u8 0, .int .u8 0, .int .u8 0, .int .u8 0, .int .u8 0, .int .u8 0, .int .u8 0, .int .u8 0] 40)).alloc (.cells #[.int .i64 6, .int .u8 0, .int .u8 0, .int .u8 0, .int .u8 0, .int .u8 0, .int .u8 0, .int .u8 0, .int .u8 0, .int .u8 0, .int .u8 0, .int .u8 0, .int .u8 0, .int .u8 0, .int .u8 0, .int .u8 0, .int .u8 0] 40)) = W at *
  clear e1 e2
  have HA := Lib.hid hA2
  have HR := Lib.hid hR2
  have HP := Lib.hid hP
  clear hA2 hR2 hP
  go_loopw [4] (fun i wr => ∃ (k : Nat) (l : List Nat), k ≤ 8 ∧ i = .int .i64 k ∧ Hid (Arr8 wr w.heap.size gs) ∧ Hid (AddrAt wr (w.heap.size + 1) 0 (List.replicate 16 0)) ∧ Hid (AddrAt wr (w.heap.size + 1 + 1) 6 l) ∧ Hid (l = byL (gs.take k) ++ List.replicate (16 - 2 * k) 0) ∧ Below w.heap.size w wr) (fun i _ => 8 - (intOf i).toNat)
  case atStart => exact ⟨0, _, by decide, rfl, HA, HR, HP, Lib.hid rfl, b3⟩
  case round =>
    obtain ⟨k, l, hk, rfl, HA2, HR2, HP2, HL, hbel⟩ := hrel
    by_cases hk8 : k < 8
    · have hcell := HA2.out.cells k hk8
      have hx : gs.getD k 0 < 65536 := by
        rw [List.getD_eq_getElem?_getD, List.getElem?_eq_getElem (by rw [H8.out]; exact hk8)]
        exact HLT.out _ (List.getElem_mem _)
      have et : gs.take (k + 1) = gs.take k ++ [gs.getD k 0] := by
        rw [List.take_add_one, List.getD_eq_getElem?_getD, List.getElem?_eq_getElem (by rw [H8.out]; exact hk8)]; rfl
      obtain ⟨x, ex⟩ : ∃ x, gs.getD k 0 = x := ⟨_, rfl⟩
      rw [ex] at hcell hx et
      obtain ⟨c, hc, ec⟩ : ∃ c : Nat, 2 * k = c ∧ (2 : Int) * (k : Int) = (c : Int) := ⟨_, rfl, by omega⟩
      obtain ⟨hi, hhi, ehi⟩ : ∃ hi : Nat, x / 256 = hi ∧ (x : Int) / 256 = (hi : Int) := ⟨_, rfl, by omega⟩
      obtain ⟨lo, hlo, elo⟩ : ∃ lo : Nat, x % 256 = lo ∧ (x : Int) % 256 = (lo : Int) := ⟨_, rfl, by omega⟩
      have whi : IntKind.u8.wrap (hi : Int) = (hi : Int) := by rw [IntKind.wrap_u8]; omega
      have wlo : IntKind.u8.wrap (lo : Int) = (lo : Int) := by rw [IntKind.wrap_u8]; omega
      have hc15 : c + 1 < 16 := by omega
      have c1 : (c : Int) < 16 := by omega
      have c2 : (c : Int) + 1 < 16 := by omega
      have k1 : (k : Int) < 8 := by omega
      have hp0 := HP2.out.cells c (by omega)
      have hl0 := HP2.out.live (1 + c) (by omega)
      have hcell2 := (HA2.out.other (B' := w.heap.size + 1 + 1) (k := 1 + c) (by omega) (.int .u8 (hi : Int))).cells k hk8
      rw [ex] at hcell2
      have HP3 := Lib.hid (HP2.out.set (i := c) (by omega) hi)
      have hp1 := HP3.out.cells (c + 1) (by omega)
      have hl1 := HP3.out.live (1 + (c + 1)) (by omega)
      have HS := Lib.hid (HP3.out.set (i := c + 1) (by omega) lo)
      have HE : Hid (((l.set c hi).set (c + 1) lo) = byL (gs.take (k + 1)) ++ List.replicate (16 - 2 * (k + 1)) 0) := Lib.hid (by
        rw [HL.out, et, byL_snoc, ← hc, ← hhi, ← hlo]
        exact set_two _ k _ _ hk8 (by rw [byL_len, List.length_take, H8.out]; omega))
      generalize l.getD c 0 = o0 at hp0
      generalize (l.set c hi).getD (c + 1) 0 = o1 at hp1
      clear ex et hc hhi hlo
      go_wp2_with fail
      go_roundw
      case rel => exact ⟨k + 1, (l.set c hi).set (c + 1) lo, by omega, by go_num, Lib.hid ((HA2.out.other (by omega) _).other (by omega) _), Lib.hid ((HR2.out.other (by omega) _).other (by omega) _), HS, HE, (hbel.setCell (p := ⟨w.heap.size + 1 + 1, 1 + c, none⟩) (by show w.heap.size ≤ w.heap.size + 1 + 1; omega) _).setCell (p := ⟨w.heap.size + 1 + 1, 1 + (c + 1), none⟩) (by show w.heap.size ≤ w.heap.size + 1 + 1; omega) _⟩
      case measure => simp [intOf]; omega
    · obtain rfl : k = 8 := by omega
      have hll : l = byL gs := by rw [HL.out, List.take_of_length_le (by rw [H8.out]; exact Nat.le_refl _)]; simp
      subst hll
      have HLN : Hid ((byL gs).length = 16) := Lib.hid HP2.out.len
      go_wp2_with (first | refine load_addr HP2 _ rfl rfl rfl ?_ | (refine store_addr HR2 _ _ HLN rfl rfl rfl rfl (fun W HW HA => ?_)))
      refine bodyPost_ret (v := addrV 6 (byL gs)) (results_addr Try.results92 rfl HA.out) rfl ⟨rfl, by rw [HW.out]; exact below_cells (by omega) _ _ _ hbel⟩
end Go.Proofs.Yticdpidngmeebaa
/- Contracts of the reference's Map, Unmap, Good of layer 4. -/
namespace Go.Proofs.Yticdpidngmeebaa
open Go.RowKit
set_option linter.unusedVariables false
set_option maxRecDepth 20000

/-- The groups of a mapped one. -/
def map8 (n : Nat) : List Nat := [0, 0, 0, 0, 0, 65535, n / 65536, n % 65536]
theorem map8_lt (n : Nat) (h : n ≤ 4294967295) : ∀ x ∈ map8 n, x < 65536 := by
  intro x hx
  simp [map8] at hx
  omega
def mapF (f : Int) : Int := if f = 4 then 6 else f
def mapB (f : Int) (bs : List Nat) : List Nat := if f = 4 then byL (map8 (fourB bs)) else bs
theorem fourB_le (bs : List Nat) (h : ∀ x ∈ bs, x < 256) : fourB bs ≤ 4294967295 := Nat.le_of_lt_succ (fourTo_lt bs h 4)
set_option maxRecDepth 100000 in
set_option maxHeartbeats 1000000 in
theorem refMap_any (f : Int) (bs : List Nat) (w : World) (h16 : bs.length = 16) (hlt : ∀ x ∈ bs, x < 256) :
    Calls Try.prog 77 #[addrV f bs] w fun e w' => e = .returned (addrV (mapF f) (mapB f bs)) ∧ Below w.heap.size w w' := by
  have HLT := Lib.hid hlt
  have H16 := Lib.hid h16
  obtain ⟨y0, y1, y2, y3, y4, y5, y6, y7, y8, y9, y10, y11, y12, y13, y14, y15, hbs⟩ := list16 bs h16
  have ha : addrV f bs = .agg #[.int .i64 f, .int .u8 (y0 : Int), .int .u8 (y1 : Int), .int .u8 (y2 : Int), .int .u8 (y3 : Int), .int .u8 (y4 : Int), .int .u8 (y5 : Int), .int .u8 (y6 : Int), .int .u8 (y7 : Int), .int .u8 (y8 : Int), .int .u8 (y9 : Int), .int .u8 (y10 : Int), .int .u8 (y11 : Int), .int .u8 (y12 : Int), .int .u8 (y13 : Int), .int .u8 (y14 : Int), .int .u8 (y15 : Int)] := by rw [hbs]; rfl
  have HBS := Lib.hid hbs
  by_cases h4 : f = 4
  · subst h4
    rw [show mapF 4 = 6 from rfl, show mapB 4 bs = byL (map8 (fourB bs)) from rfl, ha]
    obtain ⟨n, hn⟩ : ∃ n, fourB bs = n := ⟨_, rfl⟩
    have hn2 := fourB_le bs hlt
    rw [hn] at hn2
    rw [hn]
    have HF := fun W => Lib.hid (refFour_any 4 bs W h16 hlt)
    have HO := fun W => Lib.hid (refOf6_any (map8 n) W rfl (map8_lt n hn2))
    rw [hn] at HF
    have hA := AddrAt.new w 40 4 y0 y1 y2 y3 y4 y5 y6 y7 y8 y9 y10 y11 y12 y13 y14 y15
    rw [← hbs] at hA
    have HP2 := Lib.hid (hA.below ((Below.refl _ _).alloc (Nat.le_refl _) (.cells #[.int .i64 0, .int .u8 0, .int .u8 0, .int .u8 0, .int .u8 0, .int .u8 0, .int .u8 0, .int .u8 0, .int .u8 0, .int .u8 0, .int .u8 0, .int .u8 0, .int .u8 0, .int .u8 0, .int .u8 0, .int .u8 0, .int .u8 0] 40)))
    have hR := AddrAt.of (w.alloc (.cells #[.int .i64 4, .int .u8 (y0 : Int), .int .u8 (y1 : Int), .int .u8 (y2 : Int), .int .u8 (y3 : Int), .int .u8 (y4 : Int), .int .u8 (y5 : Int), .int .u8 (y6 : Int), .int .u8 (y7 : Int), .int .u8 (y8 : Int), .int .u8 (y9 : Int), .int .u8 (y10 : Int), .int .u8 (y11 : Int), .int .u8 (y12 : Int), .int .u8 (y13 : Int), .int .u8 (y14 : Int), .int .u8 (y15 : Int)] 40)) 40 #[.int .i64 0, .int .u8 0, .int .u8 0, .int .u8 0, .int .u8 0, .int .u8 0, .int .u8 0, .int .u8 0, .int .u8 0, .int .u8 0, .int .u8 0, .int .u8 0, .int .u8 0, .int .u8 0, .int .u8 0, .int .u8 0, .int .u8 0] 0 (List.replicate 16 0) rfl (zero_addr 0)
    have b1 : Below w.heap.size w (w.alloc (.cells #[.int .i64 4, .int .u8 (y0 : Int), .int .u8 (y1 : Int), .int .u8 (y2 : Int), .int .u8 (y3 : Int), .int .u8 (y4 : Int), .int .u8 (y5 : Int), .int .u8 (y6 : Int), .int .u8 (y7 : Int), .int .u8 (y8 : Int), .int .u8 (y9 : Int), .int .u8 (y10 : Int), .int .u8 (y11 : Int), .int .u8 (y12 : Int), .int .u8 (y13 : Int), .int .u8 (y14 : Int), .int .u8 (y15 : Int)] 40)) := (Below.refl _ _).alloc (Nat.le_refl _) _
    have b2 := b1.alloc b1.size (.cells #[.int .i64 0, .int .u8 0, .int .u8 0, .int .u8 0, .int .u8 0, .int .u8 0, .int .u8 0, .int .u8 0, .int .u8 0, .int .u8 0, .int .u8 0, .int .u8 0, .int .u8 0, .int .u8 0, .int .u8 0, .int .u8 0, .int .u8 0] 40)
    have e1 : (w.alloc (.cells #[.int .i64 4, .int .u8 (y0 : Int), .int .u8 (y1 : Int), .int .u8 (y2 : Int), .int .u8 (y3 : Int), .int .u8 (y4 : Int), .int .u8 (y5 : Int), .int .u8 (y6 : Int), .int .u8 (y7 : Int), .int .u8 (y8 : Int), .int .u8 (y9 : Int), .int .u8 (y10 : Int), .int .u8 (y11 : Int), .int .u8 (y12 : Int), .int .u8 (y13 : Int), .int .u8 (y14 : Int), .int .u8 (y15 : Int)] 40)).heap.size = w.heap.size + 1 := by simp
    rw [e1] at hR
    have q1 : ((n / 65536 : Nat) : Int) = (n : Int) / 65536 := by omega
    have q2 : ((n % 65536 : Nat) : Int) = (n : Int) % 65536 := by omega
    have q3 : IntKind.u16.wrap ((n : Int) / 65536) = (n : Int) / 65536 := by rw [IntKind.wrap_u16]; omega
    have q4 : IntKind.u16.wrap ((n : Int) % 65536) = (n : Int) % 65536 := by rw [IntKind.wrap_u16]; omega
    have HQ := Lib.hid (show arr8 (map8 n) = .agg #[.int .u16 0, .int .u16 0, .int .u16 0, .int .u16 0, .int .u16 0, .int .u16 65535, .int .u16 ((n : Int) / 65536), .int .u16 ((n : Int) % 65536)] by rw [← q1, ← q2]; rfl)
    rw [HQ.out] at HO
    have HR := Lib.hid hR
    have HB := Lib.hid b2
    clear hn ha hbs h16 hlt hA hR b1 b2 q1 q2
    go_enter Try.func77, Try.ntmps77
    go_wp2_with (refine load_addr HP2 _ rfl rfl rfl ?_)
    generalize ((w.alloc (.cells #[.int .i64 4, .int .u8 (y0 : Int), .int .u8 (y1 : Int), .int .u8 (y2 : Int), .int .u8 (y3 : Int), .int .u8 (y4 : Int), .int .u8 (y5 : Int), .int .u8 (y6 : Int), .int .u8 (y7 : Int), .int .u8 (y8 : Int), .int .u8 (y9 : Int), .int .u8 (y10 : Int), .int .u8 (y11 : Int), .int .u8 (y12 : Int), .int .u8 (y13 : Int), .int .u8 (y14 : Int), .int .u8 (y15 : Int)] 40)).alloc (.cells #[.int .i64 0, .int .u8 0, .int .u8 0, .int .u8 0, .int .u8 0, .int .u8 0, .int .u8 0, .int .u8 0, .int .u8 0, .int .u8 0, .int .u8 0, .int .u8 0, .int .u8 0, .int .u8 0, .int .u8 0, .int .u8 0, .int .u8 0] 40)) = W at *
    clear e1
    refine (HF W).out.mono ?_
    rintro e w1 ⟨rfl, hb1⟩
    go_wp2_with fail
    refine (HO w1).out.mono ?_
    rintro e w2 ⟨rfl, hb2⟩
    have HR2 := Lib.hid ((HR.out.below hb1).below hb2)
    have hbel := chain (chain HB.out hb1) hb2
    have HLN : Hid ((byL (map8 n)).length = 16) := Lib.hid (by rw [byL_len]; rfl)
    clear HR HB hb1 hb2
    go_wp2_with (refine store_addr HR2 _ _ HLN rfl rfl rfl rfl (fun W HW HA => ?_))
    refine bodyPost_ret (v := addrV 6 (byL (map8 n))) (results_addr Try.results77 rfl HA.out) rfl ⟨rfl, by rw [HW.out]; exact below_cells (by omega) _ _ _ hbel⟩
  · rw [show mapF f = f from if_neg h4, show mapB f bs = bs from if_neg h4]
    have hA := AddrAt.new w 40 f y0 y1 y2 y3 y4 y5 y6 y7 y8 y9 y10 y11 y12 y13 y14 y15
    rw [← hbs] at hA
    have hR := AddrAt.of (w.alloc (.cells #[.int .i64 f, .int .u8 (y0 : Int), .int .u8 (y1 : Int), .int .u8 (y2 : Int), .int .u8 (y3 : Int), .int .u8 (y4 : Int), .int .u8 (y5 : Int), .int .u8 (y6 : Int), .int .u8 (y7 : Int), .int .u8 (y8 : Int), .int .u8 (y9 : Int), .int .u8 (y10 : Int), .int .u8 (y11 : Int), .int .u8 (y12 : Int), .int .u8 (y13 : Int), .int .u8 (y14 : Int), .int .u8 (y15 : Int)] 40)) 40 #[.int .i64 0, .int .u8 0, .int .u8 0, .int .u8 0, .int .u8 0, .int .u8 0, .int .u8 0, .int .u8 0, .int .u8 0, .int .u8 0, .int .u8 0, .int .u8 0, .int .u8 0, .int .u8 0, .int .u8 0, .int .u8 0, .int .u8 0] 0 (List.replicate 16 0) rfl (zero_addr 0)
    have b1 : Below w.heap.size w (w.alloc (.cells #[.int .i64 f, .int .u8 (y0 : Int), .int .u8 (y1 : Int), .int .u8 (y2 : Int), .int .u8 (y3 : Int), .int .u8 (y4 : Int), .int .u8 (y5 : Int), .int .u8 (y6 : Int), .int .u8 (y7 : Int), .int .u8 (y8 : Int), .int .u8 (y9 : Int), .int .u8 (y10 : Int), .int .u8 (y11 : Int), .int .u8 (y12 : Int), .int .u8 (y13 : Int), .int .u8 (y14 : Int), .int .u8 (y15 : Int)] 40)) := (Below.refl _ _).alloc (Nat.le_refl _) _
    have HB := Lib.hid (b1.alloc b1.size (.cells #[.int .i64 0, .int .u8 0, .int .u8 0, .int .u8 0, .int .u8 0, .int .u8 0, .int .u8 0, .int .u8 0, .int .u8 0, .int .u8 0, .int .u8 0, .int .u8 0, .int .u8 0, .int .u8 0, .int .u8 0, .int .u8 0, .int .u8 0] 40))
    have e1 : (w.alloc (.cells #[.int .i64 f, .int .u8 (y0 : Int), .int .u8 (y1 : Int), .int .u8 (y2 : Int), .int .u8 (y3 : Int), .int .u8 (y4 : Int), .int .u8 (y5 : Int), .int .u8 (y6 : Int), .int .u8 (y7 : Int), .int .u8 (y8 : Int), .int .u8 (y9 : Int), .int .u8 (y10 : Int), .int .u8 (y11 : Int), .int .u8 (y12 : Int), .int .u8 (y13 : Int), .int .u8 (y14 : Int), .int .u8 (y15 : Int)] 40)).heap.size = w.heap.size + 1 := by simp
    rw [e1] at hR
    have HP2 := Lib.hid (hA.below ((Below.refl _ _).alloc (Nat.le_refl _) (.cells #[.int .i64 0, .int .u8 0, .int .u8 0, .int .u8 0, .int .u8 0, .int .u8 0, .int .u8 0, .int .u8 0, .int .u8 0, .int .u8 0, .int .u8 0, .int .u8 0, .int .u8 0, .int .u8 0, .int .u8 0, .int .u8 0, .int .u8 0] 40)))
    have HR2 := Lib.hid hR
    have hfam := (hA.below ((Below.refl _ _).alloc (Nat.le_refl _) (.cells #[.int .i64 0, .int .u8 0, .int .u8 0, .int .u8 0, .int .u8 0, .int .u8 0, .int .u8 0, .int .u8 0, .int .u8 0, .int .u8 0, .int .u8 0, .int .u8 0, .int .u8 0, .int .u8 0, .int .u8 0, .int .u8 0, .int .u8 0] 40))).fam
    rw [show addrV f bs = .agg #[.int .i64 f, .int .u8 (y0 : Int), .int .u8 (y1 : Int), .int .u8 (y2 : Int), .int .u8 (y3 : Int), .int .u8 (y4 : Int), .int .u8 (y5 : Int), .int .u8 (y6 : Int), .int .u8 (y7 : Int), .int .u8 (y8 : Int), .int .u8 (y9 : Int), .int .u8 (y10 : Int), .int .u8 (y11 : Int), .int .u8 (y12 : Int), .int .u8 (y13 : Int), .int .u8 (y14 : Int), .int .u8 (y15 : Int)] from ha]
    go_enter Try.func77, Try.ntmps77
    clear hR hA b1 ha hbs h16 hlt hfam
    go_upto_if 6 with fail
    generalize ((w.alloc (.cells #[.int .i64 f, .int .u8 (y0 : Int), .int .u8 (y1 : Int), .int .u8 (y2 : Int), .int .u8 (y3 : Int), .int .u8 (y4 : Int), .int .u8 (y5 : Int), .int .u8 (y6 : Int), .int .u8 (y7 : Int), .int .u8 (y8 : Int), .int .u8 (y9 : Int), .int .u8 (y10 : Int), .int .u8 (y11 : Int), .int .u8 (y12 : Int), .int .u8 (y13 : Int), .int .u8 (y14 : Int), .int .u8 (y15 : Int)] 40)).alloc (.cells #[.int .i64 0, .int .u8 0, .int .u8 0, .int .u8 0, .int .u8 0, .int .u8 0, .int .u8 0, .int .u8 0, .int .u8 0, .int .u8 0, .int .u8 0, .int .u8 0, .int .u8 0, .int .u8 0, .int .u8 0, .int .u8 0, .int .u8 0] 40)) = W at *
    clear e1
    go_wp2_with (first | refine load_addr HP2 _ rfl rfl rfl ?_ | (refine store_addr HR2 _ _ H16 rfl rfl rfl rfl (fun W HW HA => ?_)))
    refine bodyPost_ret (v := addrV f bs) (results_addr Try.results77 rfl HA.out) rfl ⟨?_, by rw [HW.out]; exact below_cells (by omega) _ _ _ HB.out⟩
    rw [HBS.out]; rfl
end Go.Proofs.Yticdpidngmeebaa
/- Contract of the reference's Good of layer 4. -/
namespace Go.Proofs.Yticdpidngmeebaa
open Go.RowKit
set_option linter.unusedVariables false
set_option maxRecDepth 20000

def goodF (f : Int) : Int := if f.tmod 2 = 0 then 4 else 6
def goodB (f : Int) (bs : List Nat) : List Nat := if f.tmod 2 = 0 then b4 (fourB bs) else bs
theorem tmod_two (f : Int) : f.tmod 2 = 0 ∨ f.tmod 2 = 1 ∨ f.tmod 2 = -1 := by have := Int.tmod_two_eq f; omega
set_option maxRecDepth 100000 in
set_option maxHeartbeats 1000000 in
theorem refGood_any (f : Int) (bs : List Nat) (w : World) (h16 : bs.length = 16) (hlt : ∀ x ∈ bs, x < 256) :
    Calls Try.prog 74 #[addrV f bs] w fun e w' => e = .returned (addrV (goodF f) (goodB f bs)) ∧ Below w.heap.size w w' := by
  have H16 := Lib.hid h16
  have HF := fun W => Lib.hid (refFour_any f bs W h16 hlt)
  have HO := fun W => Lib.hid (refOf4_any (fourB bs) W (fourB_le bs hlt))
  obtain ⟨y0, y1, y2, y3, y4, y5, y6, y7, y8, y9, y10, y11, y12, y13, y14, y15, hbs⟩ := list16 bs h16
  have ha : addrV f bs = .agg #[.int .i64 f, .int .u8 (y0 : Int), .int .u8 (y1 : Int), .int .u8 (y2 : Int), .int .u8 (y3 : Int), .int .u8 (y4 : Int), .int .u8 (y5 : Int), .int .u8 (y6 : Int), .int .u8 (y7 : Int), .int .u8 (y8 : Int), .int .u8 (y9 : Int), .int .u8 (y10 : Int), .int .u8 (y11 : Int), .int .u8 (y12 : Int), .int .u8 (y13 : Int), .int .u8 (y14 : Int), .int .u8 (y15 : Int)] := by rw [hbs]; rfl
  have hA := AddrAt.new w 40 f y0 y1 y2 y3 y4 y5 y6 y7 y8 y9 y10 y11 y12 y13 y14 y15
  rw [← hbs] at hA
  have hR := AddrAt.of (w.alloc (.cells #[.int .i64 f, .int .u8 (y0 : Int), .int .u8 (y1 : Int), .int .u8 (y2 : Int), .int .u8 (y3 : Int), .int .u8 (y4 : Int), .int .u8 (y5 : Int), .int .u8 (y6 : Int), .int .u8 (y7 : Int), .int .u8 (y8 : Int), .int .u8 (y9 : Int), .int .u8 (y10 : Int), .int .u8 (y11 : Int), .int .u8 (y12 : Int), .int .u8 (y13 : Int), .int .u8 (y14 : Int), .int .u8 (y15 : Int)] 40)) 40 #[.int .i64 0, .int .u8 0, .int .u8 0, .int .u8 0, .int .u8 0, .int .u8 0, .int .u8 0, .int .u8 0, .int .u8 0, .int .u8 0, .int .u8 0, .int .u8 0, .int .u8 0, .int .u8 0, .int .u8 0, .int .u8 0, .int .u8 0] 0 (List.replicate 16 0) rfl (zero_addr 0)
  have b1 : Below w.heap.size w (w.alloc (.cells #[.int .i64 f, .int .u8 (y0 : Int), .int .u8 (y1 : Int), .int .u8 (y2 : Int), .int .u8 (y3 : Int), .int .u8 (y4 : Int), .int .u8 (y5 : Int), .int .u8 (y6 : Int), .int .u8 (y7 : Int), .int .u8 (y8 : Int), .int .u8 (y9 : Int), .int .u8 (y10 : Int), .int .u8 (y11 : Int), .int .u8 (y12 : Int), .int .u8 (y13 : Int), .int .u8 (y14 : Int), .int .u8 (y15 : Int)] 40)) := (Below.refl _ _).alloc (Nat.le_refl _) _
  have HB := Lib.hid (b1.alloc b1.size (.cells #[.int .i64 0, .int .u8 0, .int .u8 0, .int .u8 0, .int .u8 0, .int .u8 0, .int .u8 0, .int .u8 0, .int .u8 0, .int .u8 0, .int .u8 0, .int .u8 0, .int .u8 0, .int .u8 0, .int .u8 0, .int .u8 0, .int .u8 0] 40))
  have e1 : (w.alloc (.cells #[.int .i64 f, .int .u8 (y0 : Int), .int .u8 (y1 : Int), .int .u8 (y2 : Int), .int .u8 (y3 : Int), .int .u8 (y4 : Int), .int .u8 (y5 : Int), .int .u8 (y6 : Int), .int .u8 (y7 : Int), .int .u8 (y8 : Int), .int .u8 (y9 : Int), .int .u8 (y10 : Int), .int .u8 (y11 : Int), .int .u8 (y12 : Int), .int .u8 (y13 : Int), .int .u8 (y14 : Int), .int .u8 (y15 : Int)] 40)).heap.size = w.heap.size + 1 := by simp
  rw [e1] at hR
  have HP2 := Lib.hid (hA.below ((Below.refl _ _).alloc (Nat.le_refl _) (.cells #[.int .i64 0, .int .u8 0, .int .u8 0, .int .u8 0, .int .u8 0, .int .u8 0, .int .u8 0, .int .u8 0, .int .u8 0, .int .u8 0, .int .u8 0, .int .u8 0, .int .u8 0, .int .u8 0, .int .u8 0, .int .u8 0, .int .u8 0] 40)))
  have HR2 := Lib.hid hR
  rw [ha]
  clear hR hA b1 ha hbs h16 hlt e1
  by_cases h2 : f.tmod 2 = 0
  · rw [show goodF f = 4 from if_pos h2, show goodB f bs = b4 (fourB bs) from if_pos h2]
    go_enter Try.func74, Try.ntmps74
    go_upto_if 6 with fail
    generalize ((w.alloc (.cells #[.int .i64 f, .int .u8 (y0 : Int), .int .u8 (y1 : Int), .int .u8 (y2 : Int), .int .u8 (y3 : Int), .int .u8 (y4 : Int), .int .u8 (y5 : Int), .int .u8 (y6 : Int), .int .u8 (y7 : Int), .int .u8 (y8 : Int), .int .u8 (y9 : Int), .int .u8 (y10 : Int), .int .u8 (y11 : Int), .int .u8 (y12 : Int), .int .u8 (y13 : Int), .int .u8 (y14 : Int), .int .u8 (y15 : Int)] 40)).alloc (.cells #[.int .i64 0, .int .u8 0, .int .u8 0, .int .u8 0, .int .u8 0, .int .u8 0, .int .u8 0, .int .u8 0, .int .u8 0, .int .u8 0, .int .u8 0, .int .u8 0, .int .u8 0, .int .u8 0, .int .u8 0, .int .u8 0, .int .u8 0] 40)) = W at *
    go_wp2_with (refine load_addr HP2 _ rfl rfl rfl ?_)
    refine (HF W).out.mono ?_
    rintro e w1 ⟨rfl, hb1⟩
    go_wp2_with fail
    refine (HO w1).out.mono ?_
    rintro e w2 ⟨rfl, hb2⟩
    have HR3 := Lib.hid ((HR2.out.below hb1).below hb2)
    have hbel := chain (chain HB.out hb1) hb2
    have HLN := Lib.hid (b4_len (fourB bs))
    clear HR2 HB hb1 hb2 HP2
    go_wp2_with (refine store_addr HR3 _ _ HLN rfl rfl rfl rfl (fun W HW HA => ?_))
    refine bodyPost_ret (v := addrV 4 (b4 (fourB bs))) (results_addr Try.results74 rfl HA.out) rfl ⟨rfl, by rw [HW.out]; exact below_cells (by omega) _ _ _ hbel⟩
  · rw [show goodF f = 6 from if_neg h2, show goodB f bs = bs from if_neg h2]
    have h3 : f.tmod 2 = 1 ∨ f.tmod 2 = -1 := (tmod_two f).resolve_left h2
    clear h2 HF HO
    rcases h3 with h3 | h3
    · go_enter Try.func74, Try.ntmps74
      go_upto_if 6 with fail
      generalize ((w.alloc (.cells #[.int .i64 f, .int .u8 (y0 : Int), .int .u8 (y1 : Int), .int .u8 (y2 : Int), .int .u8 (y3 : Int), .int .u8 (y4 : Int), .int .u8 (y5 : Int), .int .u8 (y6 : Int), .int .u8 (y7 : Int), .int .u8 (y8 : Int), .int .u8 (y9 : Int), .int .u8 (y10 : Int), .int .u8 (y11 : Int), .int .u8 (y12 : Int), .int .u8 (y13 : Int), .int .u8 (y14 : Int), .int .u8 (y15 : Int)] 40)).alloc (.cells #[.int .i64 0, .int .u8 0, .int .u8 0, .int .u8 0, .int .u8 0, .int .u8 0, .int .u8 0, .int .u8 0, .int .u8 0, .int .u8 0, .int .u8 0, .int .u8 0, .int .u8 0, .int .u8 0, .int .u8 0, .int .u8 0, .int .u8 0] 40)) = W at *
      have hfam := HP2.out.fam
      have hl0 := HP2.out.live 0 (by decide)
      have HP3 := Lib.hid (HP2.out.setFam 6)
      have HR3 := Lib.hid (HR2.out.other (G' := w.heap.size) (i := 0) (by omega) (.int .i64 6))
      have hbel := HB.out.setCell (p := ⟨w.heap.size, 0, none⟩) (Nat.le_refl _) (.int .i64 6)
      go_wp2_with (first | refine load_addr HP3 _ rfl rfl rfl ?_ | (refine store_addr HR3 _ _ H16 rfl rfl rfl rfl (fun W HW HA => ?_)))
      refine bodyPost_ret (v := addrV 6 bs) (results_addr Try.results74 rfl HA.out) rfl ⟨rfl, by rw [HW.out]; exact below_cells (by omega) _ _ _ hbel⟩
    · go_enter Try.func74, Try.ntmps74
      go_upto_if 6 with fail
      generalize ((w.alloc (.cells #[.int .i64 f, .int .u8 (y0 : Int), .int .u8 (y1 : Int), .int .u8 (y2 : Int), .int .u8 (y3 : Int), .int .u8 (y4 : Int), .int .u8 (y5 : Int), .int .u8 (y6 : Int), .int .u8 (y7 : Int), .int .u8 (y8 : Int), .int .u8 (y9 : Int), .int .u8 (y10 : Int), .int .u8 (y11 : Int), .int .u8 (y12 : Int), .int .u8 (y13 : Int), .int .u8 (y14 : Int), .int .u8 (y15 : Int)] 40)).alloc (.cells #[.int .i64 0, .int .u8 0, .int .u8 0, .int .u8 0, .int .u8 0, .int .u8 0, .int .u8 0, .int .u8 0, .int .u8 0, .int .u8 0, .int .u8 0, .int .u8 0, .int .u8 0, .int .u8 0, .int .u8 0, .int .u8 0, .int .u8 0] 40)) = W at *
      have hfam := HP2.out.fam
      have hl0 := HP2.out.live 0 (by decide)
      have HP3 := Lib.hid (HP2.out.setFam 6)
      have HR3 := Lib.hid (HR2.out.other (G' := w.heap.size) (i := 0) (by omega) (.int .i64 6))
      have hbel := HB.out.setCell (p := ⟨w.heap.size, 0, none⟩) (Nat.le_refl _) (.int .i64 6)
      go_wp2_with (first | refine load_addr HP3 _ rfl rfl rfl ?_ | (refine store_addr HR3 _ _ H16 rfl rfl rfl rfl (fun W HW HA => ?_)))
      refine bodyPost_ret (v := addrV 6 bs) (results_addr Try.results74 rfl HA.out) rfl ⟨rfl, by rw [HW.out]; exact below_cells (by omega) _ _ _ hbel⟩
end Go.Proofs.Yticdpidngmeebaa
/- Contract of the reference's Compare of layer 4. -/
namespace Go.Proofs.Yticdpidngmeebaa
open Go.RowKit
set_option linter.unusedVariables false
set_option maxRecDepth 20000

/-- Which of two rows of bytes comes first. -/
def cmpL : List Nat → List Nat → Int
  | x :: xs, y :: ys => if x < y then -1 else if y < x then 1 else cmpL xs ys
  | _, _ => 0
/-- The row of addresses. -/
def cmpA (f : Int) (xs : List Nat) (g : Int) (ys : List Nat) : Int := if f = g then cmpL xs ys else if f < g then -1 else 1
end Go.Proofs.Yticdpidngmeebaa
/- Contracts of cmp.Compare at ints, bytes.Compare at two rows of sixteen bytes, addr.Compare. -/
namespace Go.Proofs.Yticdpidngmeebaa
open Go.RowKit
set_option linter.unusedVariables false
set_option maxRecDepth 20000

/-- Which of two numbers comes first. -/
def sgn3 (x y : Int) : Int := if x < y then -1 else if y < x then 1 else 0
end Go.Proofs.Yticdpidngmeebaa
/- Plain facts on addresses that may be, and on their row. -/
namespace Go.Proofs.Yticdpidngmeebaa
open Go.RowKit
set_option linter.unusedVariables false
set_option maxRecDepth 20000

theorem fourB_eq (bs : List Nat) : ((bs.getD 0 0 * 256 + bs.getD 1 0) * 256 + bs.getD 2 0) * 256 + bs.getD 3 0 = fourB bs := by
  simp [fourB, fourTo]
theorem fourB_le' (bs : List Nat) (h : ∀ x ∈ bs, x < 256) : fourB bs ≤ 4294967295 := by
  have := fourTo_lt bs h 4
  have e : (256 : Nat) ^ 4 = 4294967296 := by decide
  unfold fourB
  omega
theorem may4 (bs : List Nat) (h16 : bs.length = 16) (hlt : ∀ x ∈ bs, x < 256) : decide ((4 : Int) = 4 ∧ bs = b4 (fourB bs)) = mayB 4 bs := by
  obtain ⟨y0, y1, y2, y3, y4, y5, y6, y7, y8, y9, y10, y11, y12, y13, y14, y15, rfl⟩ := list16 bs h16
  simp at hlt
  rw [b4_eq, ← fourB_eq]
  have e : mayB 4 [y0, y1, y2, y3, y4, y5, y6, y7, y8, y9, y10, y11, y12, y13, y14, y15] = decide (y4 = 0 ∧ y5 = 0 ∧ y6 = 0 ∧ y7 = 0 ∧ y8 = 0 ∧ y9 = 0 ∧ y10 = 0 ∧ y11 = 0 ∧ y12 = 0 ∧ y13 = 0 ∧ y14 = 0 ∧ y15 = 0) := by
    rw [Bool.eq_iff_iff]
    simp [mayB, zeroTo, fromN]
  rw [e]
  refine decide_eq_decide.2 ?_
  simp
  omega
theorem may6 (bs : List Nat) (h16 : bs.length = 16) : mayB 6 bs = true := by
  unfold mayB
  rw [show fromN 6 = 16 from rfl, zeroTo_end bs h16]
  rfl
theorem mayElse (f : Int) (bs : List Nat) (h16 : bs.length = 16) (h4 : f ≠ 4) (h6 : f ≠ 6) : decide (f = 0 ∧ bs = List.replicate 16 0) = mayB f bs := by
  by_cases h0 : f = 0
  · subst h0
    obtain ⟨y0, y1, y2, y3, y4, y5, y6, y7, y8, y9, y10, y11, y12, y13, y14, y15, rfl⟩ := list16 bs h16
    rw [Bool.eq_iff_iff]
    simp [mayB, zeroTo, fromN]
  · rw [decide_eq_false (fun h => h0 h.1)]
    unfold mayB
    simp [h0, h4, h6]
theorem fourB_b4 (n : Nat) (hn : n ≤ 4294967295) : fourB (b4 n) = n := by
  rw [b4_eq, ← fourB_eq]
  simp
  omega
theorem b4_lt (n : Nat) : ∀ x ∈ b4 n, x < 256 := by
  rw [b4_eq]
  simp
  omega
/-- An address that may be, and is none of none. -/
inductive GoodA : Int → List Nat → Prop
  | four (n : Nat) (hn : n ≤ 4294967295) : GoodA 4 (b4 n)
  | six (bs : List Nat) (h16 : bs.length = 16) (hlt : ∀ x ∈ bs, x < 256) : GoodA 6 bs
theorem good_is (f : Int) (bs : List Nat) (h16 : bs.length = 16) (hlt : ∀ x ∈ bs, x < 256) : GoodA (goodF f) (goodB f bs) := by
  unfold goodF goodB
  by_cases h : f.tmod 2 = 0
  · rw [if_pos h, if_pos h]; exact .four _ (fourB_le' bs hlt)
  · rw [if_neg h, if_neg h]; exact .six bs h16 hlt
theorem GoodA.len {f : Int} {bs : List Nat} (h : GoodA f bs) : bs.length = 16 := by cases h <;> first | exact b4_len _ | assumption
theorem GoodA.lt {f : Int} {bs : List Nat} (h : GoodA f bs) : ∀ x ∈ bs, x < 256 := by cases h <;> first | exact b4_lt _ | assumption
theorem GoodA.may {f : Int} {bs : List Nat} (h : GoodA f bs) : mayB f bs = true := by
  cases h with
  | four n hn => rw [← may4 _ (b4_len n) (b4_lt n), fourB_b4 n hn, decide_eq_true ⟨rfl, rfl⟩]
  | six _ h16 hlt => exact may6 _ h16
end Go.Proofs.Yticdpidngmeebaa
/- Contracts of four.howRead, number, endsInNumber, and of the reference's Part: a part's number. -/
namespace Go.Proofs.Yticdpidngmeebaa
open Go.RowKit
set_option linter.unusedVariables false
set_option maxRecDepth 20000

/-- A part's number. -/
def partB (p : ByteArray) : Option Nat :=
  if p.size = 0 then none else
  if 1 < p.size ∧ byteOf p 0 = 48 ∧ (byteOf p 1 = 120 ∨ byteOf p 1 = 88) then readF (p.extract 2 p.size) 16 else
  if 1 < p.size ∧ byteOf p 0 = 48 then readF (p.extract 1 p.size) 8 else readF p 10
/-- Whether a text whose last part this is ends in a number. -/
def endsB (p : ByteArray) : Bool := decide (0 < p.size) && ((readF p 10).isSome || (partB p).isSome)

end Go.Proofs.Yticdpidngmeebaa
/- Contracts of four.looseParts, join, Loose: the address of a loose text. -/
namespace Go.Proofs.Yticdpidngmeebaa
open Go.RowKit
set_option linter.unusedVariables false
set_option maxRecDepth 20000

/-- The parts of a loose text. -/
def lparts (s : ByteArray) : List ByteArray :=
  if 1 < (pieces s 46).length ∧ ((pieces s 46).getD ((pieces s 46).length - 1) ⟨#[]⟩).size = 0 then (pieces s 46).take ((pieces s 46).length - 1) else pieces s 46
/-- The number of the first k parts, each one byte. -/
def outTo (l : List ByteArray) : Nat → Option Nat
  | 0 => some 0
  | k + 1 => match outTo l k with
    | none => none
    | some m => match partB (l.getD k ⟨#[]⟩) with
      | none => none
      | some n => if 255 < n then none else some (m * 256 + n)
/-- How many numbers a last part may have, behind k others. -/
def roomB (k : Nat) : Nat := 256 ^ (4 - k)
/-- The parts' address. -/
def joinP (l : List ByteArray) : Option Nat :=
  if 4 < l.length then none else
  match outTo l (l.length - 1) with
  | none => none
  | some m => match partB (l.getD (l.length - 1) ⟨#[]⟩) with
    | none => none
    | some n => if roomB (l.length - 1) ≤ n then none else some (m * roomB (l.length - 1) + n)
def joinRet (o : Option Nat) : Value := .tuple #[.int .u32 ((o.getD 0 : Nat) : Int), .bool o.isSome]
/-- A loose text's address and kind. -/
def looseB (s : ByteArray) : Nat × Nat :=
  if endsB ((lparts s).getD ((lparts s).length - 1) ⟨#[]⟩) then
    match joinP (lparts s) with
    | none => (0, 1)
    | some a => (a, 2)
  else (0, 0)
def looseRet (r : Nat × Nat) : Value := .tuple #[.int .u32 ((r.1 : Nat) : Int), .int .i64 ((r.2 : Nat) : Int)]
end Go.Proofs.Yticdpidngmeebaa
/- What numbers' digits are as parts of loose and of strict texts; plain facts, and four.Loose's contract at texts put together of such. -/
namespace Go.Proofs.Yticdpidngmeebaa
open Go.RowKit
set_option linter.unusedVariables false
set_option maxRecDepth 20000

/-- Digits read one by one, 2^32 at most. -/
def readL (b : Nat) : Nat → List UInt8 → Option Nat
  | n, [] => some n
  | n, c :: l => if b ≤ digC c.toNat then none else readL b (min (n * b + digC c.toNat) 4294967296) l
abbrev dec (u : Nat) : List UInt8 := Lib.decDigits u
end Go.Proofs.Yticdpidngmeebaa
/- An address of 32 bits, its text, and the contract of the reference's Print. -/
namespace Go.Proofs.Yticdpidngmeebaa
open Go.RowKit
set_option linter.unusedVariables false
set_option maxRecDepth 20000

/-- The number of four bytes. -/
def num4 (a b c d : Nat) : Nat := ((a * 256 + b) * 256 + c) * 256 + d
def prR (a b c d : Nat) : Nat → List UInt8
  | 0 => []
  | 1 => dec d
  | 2 => dec c ++ 46 :: dec d
  | 3 => dec b ++ 46 :: (dec c ++ 46 :: dec d)
  | _ => dec a ++ 46 :: (dec b ++ 46 :: (dec c ++ 46 :: dec d))
def text4 (a b c d : Nat) : ByteArray := ofL (dec a ++ 46 :: (dec b ++ 46 :: (dec c ++ 46 :: dec d)))
end Go.Proofs.Yticdpidngmeebaa
/- Contracts of the landed addr.Four, Of4, May and four.Bytes, for a seat that prints nothing (the texts of AddrFour, AddrMay, Prints). -/
namespace Go.Proofs.Yticdpidngmeebaa
open Go.RowKit
set_option linter.unusedVariables false
set_option maxRecDepth 20000

set_option maxRecDepth 100000 in
set_option maxHeartbeats 1000000 in
theorem bytes_any (a b c d n : Nat) (w : World) (ha : a < 256) (hb : b < 256) (hc : c < 256) (hd : d < 256) (hn : n = num4 a b c d) :
    Calls Try.prog 98 #[.int .u32 (n : Int)] w fun e w' => e = .returned (arr4 a b c d) ∧ Below w.heap.size w w' := by
  unfold num4 at hn
  have hle : n ≤ 4294967295 := by omega
  have e1 : (n : Int) / 16777216 = (a : Int) := by omega
  have e2 : (n : Int) / 65536 % 256 = (b : Int) := by omega
  have e3 : (n : Int) / 256 % 256 = (c : Int) := by omega
  have e4 : (n : Int) % 256 = (d : Int) := by omega
  clear hn
  go_enter Try.func98, Try.ntmps98
  go_wp2
  refine bodyPost_ret (v := arr4 a b c d) (by simp [results, Try.results98, go_sem, arr4, e2, e3, e4]) rfl ⟨rfl, ?_⟩
  exact (Below.refl _ _).alloc (Nat.le_refl _) _
set_option maxRecDepth 100000 in
set_option maxHeartbeats 1000000 in
theorem addrFour_any (f : Int) (bs : List Nat) (w : World) (h16 : bs.length = 16) (hlt : ∀ x ∈ bs, x < 256) :
    Calls Try.prog 95 #[addrV f bs] w fun e w' => e = .returned (.int .u32 ((fourB bs : Nat) : Int)) ∧ Below w.heap.size w w' := by
  obtain ⟨cs, ecs, HA, HB⟩ := addr_boxed f bs w h16
  rw [ecs]
  have HO := fun W => Lib.hid (of_any (bs.getD 0 0) (bs.getD 1 0) (bs.getD 2 0) (bs.getD 3 0) W (byte_lt hlt 0) (byte_lt hlt 1) (byte_lt hlt 2) (byte_lt hlt 3))
  rw [fourB_eq] at HO
  generalize fourB bs = n at *
  clear ecs h16 hlt
  go_enter Try.func95, Try.ntmps95
  go_upto_region 1 with fail
  generalize (w.alloc (.cells cs 40)) = W at *
  have c0 : W.cell? ⟨w.heap.size, 1, none⟩ = some (.int .u8 ((bs.getD 0 0 : Nat) : Int)) := HA.out.cells 0 (by decide)
  have c1 : W.cell? ⟨w.heap.size, 2, none⟩ = some (.int .u8 ((bs.getD 1 0 : Nat) : Int)) := HA.out.cells 1 (by decide)
  have c2 : W.cell? ⟨w.heap.size, 3, none⟩ = some (.int .u8 ((bs.getD 2 0 : Nat) : Int)) := HA.out.cells 2 (by decide)
  have c3 : W.cell? ⟨w.heap.size, 4, none⟩ = some (.int .u8 ((bs.getD 3 0 : Nat) : Int)) := HA.out.cells 3 (by decide)
  generalize bs.getD 0 0 = a at *
  generalize bs.getD 1 0 = b at *
  generalize bs.getD 2 0 = c at *
  generalize bs.getD 3 0 = d at *
  unfold arr4 at HO
  go_wp2_with fail
  refine (HO W).out.mono ?_
  rintro e w1 ⟨rfl, hb1⟩
  go_wp2_with fail
  go_ret
  exact ⟨rfl, chain HB.out hb1⟩

set_option maxRecDepth 100000 in
set_option maxHeartbeats 1000000 in
theorem addrOf4_any (n : Nat) (w : World) (hn : n ≤ 4294967295) :
    Calls Try.prog 94 #[.int .u32 (n : Int)] w fun e w' => e = .returned (addrV 4 (b4 n)) ∧ Below w.heap.size w w' := by
  have HE := Lib.hid (b4_eq n)
  have HBy := fun W => Lib.hid (bytes_any (n / 16777216 % 256) (n / 65536 % 256) (n / 256 % 256) (n % 256) n W (by omega) (by omega) (by omega) (by omega) (by unfold num4; omega))
  have HZ := Lib.hid (addr_zeroed w)
  have HB : Hid (Below w.heap.size w (w.alloc (.cells zA 40))) := Lib.hid ((Below.refl _ _).alloc (Nat.le_refl _) _)
  generalize n / 16777216 % 256 = a at *
  generalize n / 65536 % 256 = b at *
  generalize n / 256 % 256 = c at *
  generalize n % 256 = d at *
  unfold arr4 at HBy
  go_enter Try.func94, Try.ntmps94
  go_upto_region 1 with fail
  generalize (w.alloc (.cells zA 40)) = W at *
  go_wp2_with fail
  refine (HBy W).out.mono ?_
  rintro e w1 ⟨rfl, hb1⟩
  have HZ1 := Lib.hid ((HZ.out.below hb1).alloc (.cells #[.int .u8 (a : Int), .int .u8 (b : Int), .int .u8 (c : Int), .int .u8 (d : Int)] 143))
  have HB1 := Lib.hid (chain (chain HB.out hb1) ((Below.refl w1.heap.size w1).alloc (Nat.le_refl _) (.cells #[.int .u8 (a : Int), .int .u8 (b : Int), .int .u8 (c : Int), .int .u8 (d : Int)] 143)))
  clear HZ HB hb1 HBy
  have HLN : Hid ([a, b, c, d, 0, 0, 0, 0, 0, 0, 0, 0, 0, 0, 0, 0].length = 16) := Lib.hid rfl
  go_wp2_with (refine store_addr HZ1 _ _ HLN rfl rfl rfl rfl (fun W HW HA => ?_))
  refine bodyPost_ret (v := addrV 4 [a, b, c, d, 0, 0, 0, 0, 0, 0, 0, 0, 0, 0, 0, 0]) (results_addr Try.results94 rfl HA.out) rfl ⟨by rw [HE.out], by rw [HW.out]; exact below_cells (Nat.le_refl _) _ _ _ HB1.out⟩
set_option maxRecDepth 100000 in
set_option maxHeartbeats 1000000 in
theorem addrMay_any (f : Int) (bs : List Nat) (w : World) (h16 : bs.length = 16) (hlt : ∀ x ∈ bs, x < 256) :
    Calls Try.prog 83 #[addrV f bs] w fun e w' => e = .returned (.bool (mayB f bs)) ∧ Below w.heap.size w w' := by
  obtain ⟨cs, ecs, HA, HB⟩ := addr_boxed f bs w h16
  rw [ecs]
  have HLT := Lib.hid hlt
  clear ecs hlt
  have H16 := Lib.hid h16
  clear h16
  go_enter Try.func83, Try.ntmps83
  go_upto_region 1 with fail
  generalize (w.alloc (.cells cs 40)) = W at *
  have hfam := HA.out.fam
  by_cases h4 : f = 4
  · subst h4
    have HE := Lib.hid (may4 bs H16.out HLT.out)
    have gd := guard_addr
    have q1 := fun W => run_eq_addr 4 4 bs (b4 (fourB bs)) W H16.out (b4_len _)
    rw [HE.out] at q1
    obtain ⟨L, hL⟩ : ∃ L, [(w.heap.size, 0, addrL 4 bs)] = L := ⟨_, rfl⟩
    have HK := Lib.hid (show HeldR L w W by rw [← hL]; exact (HeldR.nil HB.out).addr HA.out)
    have M1 := Lib.hid (show InA L w.heap.size 4 bs from ⟨by rw [← hL]; simp, H16.out⟩)
    have HF : ∀ w', HeldR L w w' → Hid (Calls Try.prog 95 #[addrV 4 bs] w' fun e w'' => e = .returned (.int .u32 ((fourB bs : Nat) : Int)) ∧ Below w'.heap.size w' w'') := fun w' _ => Lib.hid (addrFour_any 4 bs w' H16.out HLT.out)
    have HO : ∀ w', HeldR L w w' → Hid (Calls Try.prog 94 #[.int .u32 ((fourB bs : Nat) : Int)] w' fun e w'' => e = .returned (addrV 4 (b4 (fourB bs))) ∧ Below w'.heap.size w' w'') := fun w' _ => Lib.hid (addrOf4_any (fourB bs) w' (fourB_le' bs HLT.out))
    clear hL
    generalize b4 (fourB bs) = ys at *
    generalize fourB bs = n at *
    go_wp2_with fail
    refine wp_region_noPanic ?_
    refine wp_region_held_drew (S := HeldR L w) (by kernel_rfl) HK.out.drew (fun hHeld => ?_)
    refine wpAnyH_take (i := 0) rfl (by kernel_rfl) (by kernel_rfl) (by kernel_rfl) (fun _ _ _ h => h) (yields_addr M1 (by rfl) _ rfl rfl) (by assumption) ?_
    try simp only [Act.put, List.getElem_toArray, List.getElem_cons_zero, List.setIfInBounds_toArray, List.set_cons_zero, List.set_cons_succ]
    refine wpAnyH_take (i := 1) rfl (by kernel_rfl) (by kernel_rfl) (by kernel_rfl) (fun _ _ _ h => h) (yields_addr M1 (by rfl) _ rfl rfl) (by assumption) ?_
    try simp only [Act.put, List.getElem_toArray, List.getElem_cons_zero, List.getElem_cons_succ, List.setIfInBounds_toArray, List.set_cons_zero, List.set_cons_succ]
    refine wpAnyH_ready (rs := [2]) (by kernel_rfl) (by simp) ?_
    refine AllReadyH.cons rfl (fun K hK => ?_) AllReadyH.nil
    go_simp
    refine (Calls.heldR (HF _ (by assumption)).out (by assumption)).mono ?_
    rintro e wr2 ⟨rfl, hS2⟩
    go_wp2_with fail
    refine hK.out _ _ hS2 (fun hHeld => ?_)
    clear hK K
    try simp only [Act.put, List.getElem_toArray, List.getElem_cons_zero, List.getElem_cons_succ, List.setIfInBounds_toArray, List.set_cons_zero, List.set_cons_succ]
    refine wpAnyH_ready (rs := [3]) (by kernel_rfl) (by simp) ?_
    refine AllReadyH.cons rfl (fun K hK => ?_) AllReadyH.nil
    go_simp
    refine (Calls.heldR (HO _ (by assumption)).out (by assumption)).mono ?_
    rintro e wr3 ⟨rfl, hS3⟩
    go_wp2_with fail
    refine hK.out _ _ hS3 (fun hHeld => ?_)
    clear hK K
    try simp only [Act.put, List.getElem_toArray, List.getElem_cons_zero, List.getElem_cons_succ, List.setIfInBounds_toArray, List.set_cons_zero, List.set_cons_succ]
    refine wpAnyH_take (i := 4) (v := ?_) rfl (by kernel_rfl) (by kernel_rfl) (by kernel_rfl) (fun _ _ _ h => h) (Or.inl ⟨by rfl, ?_⟩) (by assumption) ?_
    rotate_left
    · (intro w hSw; go_simp; try (with_reducible rfl))
    try simp only [Act.put, List.getElem_toArray, List.getElem_cons_zero, List.getElem_cons_succ, List.setIfInBounds_toArray, List.set_cons_zero, List.set_cons_succ]
    refine wpAnyH_take (i := 5) (v := ?_) rfl (by kernel_rfl) (by kernel_rfl) (by kernel_rfl) (fun _ _ _ h => h) (Or.inl ⟨by rfl, ?_⟩) (by assumption) ?_
    rotate_left
    · (intro w hSw; go_simp; try (with_reducible rfl))
    try simp only [Act.put, List.getElem_toArray, List.getElem_cons_zero, List.getElem_cons_succ, List.setIfInBounds_toArray, List.set_cons_zero, List.set_cons_succ]
    refine wpAnyH_done (by kernel_rfl) ?_ _
    refine NoPanic.normal ?_
    go_wp2_with fail
    go_ret
    exact ⟨rfl, hHeld.bel⟩
  · by_cases h6 : f = 6
    · subst h6
      have HE := Lib.hid (may6 bs H16.out)
      go_wp2_with fail
      go_ret
      exact ⟨by rw [HE.out]; rfl, HB.out⟩
    · have g4 : (f == 4) = false := by simp [h4]
      have g6 : (f == 6) = false := by simp [h6]
      have HE := Lib.hid (mayElse f bs H16.out h4 h6)
      have gd := guard_zero
      have q1 := fun W => run_zero_addr f bs W H16.out
      rw [HE.out] at q1
      go_wp2_with (refine load_addr_g HA _ rfl rfl rfl ?_)
      go_ret
      exact ⟨rfl, HB.out⟩
end Go.Proofs.Yticdpidngmeebaa
/- Contracts of the landed label: Labels, May; placeOf; few of the laws. -/
namespace Go.Proofs.Yticdpidngmeebaa
open Go.RowKit
set_option linter.unusedVariables false
set_option maxRecDepth 20000

set_option maxRecDepth 100000 in
theorem labels_any (s : ByteArray) (w : World) (hs : s.size ≤ 2000000) :
    Calls Try.prog 63 #[.string s] w fun e w' => ∃ a c, e = .returned (.slice a (labelsB s).length c) ∧ RowS w' a c (labelsB s) ∧ Below w.heap.size w w' := by
  by_cases h0 : s.size = 0
  · have he := isEmpty_true s h0
    have HE : Hid (labelsB s = []) := Lib.hid (by unfold labelsB; rw [if_pos h0])
    rw [HE.out]
    clear hs h0
    go_enter Try.func63, Try.ntmps63
    go_wp2_with fail
    go_ret
    exact ⟨none, 0, rfl, .inl ⟨rfl, rfl, rfl⟩, Below.refl _ _⟩
  · have he := isEmpty_false s (by omega)
    have HE : Hid (labelsB s = pieces s 46) := Lib.hid (by unfold labelsB; rw [if_neg h0])
    have HSP := Lib.hid (split_row s 46 w hs)
    rw [HE.out]
    generalize pieces s 46 = l at *
    clear hs h0 HE
    go_enter Try.func63, Try.ntmps63
    go_wp2_with fail
    refine HSP.out.mono ?_
    rintro e w1 ⟨g, c, rfl, hg, hr, hb⟩
    have HR := Lib.hid hr
    have HB := Lib.hid hb
    clear hr hb hg HSP
    go_wp2_with fail
    go_ret
    exact ⟨_, _, rfl, .inr ⟨g, rfl, HR.out⟩, HB.out⟩
set_option maxRecDepth 100000 in
set_option maxHeartbeats 2000000 in
theorem may_any (s : ByteArray) (w : World) (hs : s.size ≤ 2000000) :
    Calls Try.prog 38 #[.string s] w fun e w' => e = .returned (.bool (mayN s)) ∧ Below w.heap.size w w' := by
  have HM := Lib.hid (may_is s)
  have HLA := Lib.hid (labels_any s w hs)
  have hsm : ∀ p ∈ labelsB s, p.size ≤ 2000000 := fun p hp => Nat.le_trans (labels_small s p hp) (by omega)
  have hln := labels_len s
  generalize mayN s = m at *
  generalize labelsB s = l at *
  by_cases h253 : 253 < s.size
  · have hd0 : decide (253 < (s.size : Int)) = true := decide_eq_true (by omega)
    have hd0n : decide (253 < s.size) = true := decide_eq_true h253
    have EM : m = false := by rw [HM.out]; exact decide_eq_false (fun h => by omega)
    subst EM
    clear HLA hsm HM
    go_enter Try.func38, Try.ntmps38
    go_wp2_with fail
    go_ret
    exact ⟨rfl, Below.refl _ _⟩
  · have hd0 : decide (253 < (s.size : Int)) = false := decide_eq_false (by omega)
    have hd0n : decide (253 < s.size) = false := decide_eq_false h253
    have HM2 : Hid (m = decide (∀ k, k < l.length → 1 ≤ (l.getD k ⟨#[]⟩).size ∧ (l.getD k ⟨#[]⟩).size ≤ 63)) := Lib.hid (by
      rw [HM.out]
      exact decide_eq_decide.2 ⟨fun h => h.2, fun h => ⟨by omega, h⟩⟩)
    have HSM := Lib.hid hsm
    clear hsm HM
    obtain ⟨N, hN⟩ : ∃ N, l.length = N := ⟨_, rfl⟩
    have HN := Lib.hid hN
    rw [hN] at hln HLA HM2
    clear hN
    go_enter Try.func38, Try.ntmps38
    go_wp2_with fail
    refine HLA.out.mono ?_
    rintro e w1 ⟨a, c, rfl, hr, hb⟩
    have HR := Lib.hid hr
    have HB := Lib.hid hb
    clear hr hb HLA
    go_wp2_with fail
    go_loop [11] (fun i => ∃ k : Nat, k ≤ N ∧ i = .int .i64 (k : Int) ∧ Hid (∀ j, j < k → 1 ≤ (l.getD j ⟨#[]⟩).size ∧ (l.getD j ⟨#[]⟩).size ≤ 63)) (fun i => N - (intOf i).toNat)
    case atStart => exact ⟨0, Nat.zero_le _, rfl, Lib.hid (fun j hj => absurd hj (by omega))⟩
    case round =>
      obtain ⟨k, hk, rfl, HO⟩ := hrel
      by_cases hkN : k < N
      · have hd : decide ((k : Int) < (N : Int)) = true := decide_eq_true (by omega)
        have hdn : decide (k < N) = true := decide_eq_true (by omega)
        rcases HR.out with ⟨_, _, h0⟩ | ⟨g, rfl, h⟩
        · have := HN.out; rw [h0] at this; simp at this; omega
        have hc := h.cells k (by rw [HN.out]; exact hkN)
        have hz := getD_small HSM.out k
        have HO2 : Hid (1 ≤ (l.getD k ⟨#[]⟩).size ∧ (l.getD k ⟨#[]⟩).size ≤ 63 → ∀ j, j < k + 1 → 1 ≤ (l.getD j ⟨#[]⟩).size ∧ (l.getD j ⟨#[]⟩).size ≤ 63) := Lib.hid (fun hp j hj => by
          by_cases h : j < k
          · exact HO.out j h
          · obtain rfl : j = k := by omega
            exact hp)
        have HF : Hid (¬ (1 ≤ (l.getD k ⟨#[]⟩).size ∧ (l.getD k ⟨#[]⟩).size ≤ 63) → m = false) := Lib.hid (fun hp => by
          rw [HM2.out]
          exact decide_eq_false (fun h => hp (h k hkN)))
        generalize l.getD k ⟨#[]⟩ = p at *
        have hb1 : (0 : Int) ≤ (k : Int) := by omega
        have hb2 : (k : Int) < (N : Int) := by omega
        clear h
        by_cases h1 : p.size < 1
        · have hd1 : decide ((p.size : Int) < 1) = true := decide_eq_true (by omega)
          have hd1n : decide (p.size < 1) = true := decide_eq_true (by omega)
          have ES := HF.out (fun h => absurd h.1 (by omega))
          subst ES
          clear HO2 HF HM2
          go_wp2_with fail
          go_ret
          exact ⟨rfl, HB.out⟩
        · have hd1 : decide ((p.size : Int) < 1) = false := decide_eq_false (by omega)
          have hd1n : decide (p.size < 1) = false := decide_eq_false (by omega)
          by_cases h2 : 63 < p.size
          · have hd2 : decide (63 < (p.size : Int)) = true := decide_eq_true (by omega)
            have hd2n : decide (63 < p.size) = true := decide_eq_true (by omega)
            have ES := HF.out (fun h => absurd h.2 (by omega))
            subst ES
            clear HO2 HF HM2
            go_wp2_with fail
            go_ret
            exact ⟨rfl, HB.out⟩
          · have hd2 : decide (63 < (p.size : Int)) = false := decide_eq_false (by omega)
            have hd2n : decide (63 < p.size) = false := decide_eq_false (by omega)
            have HO3 := Lib.hid (HO2.out (by omega))
            clear HO2 HF HO
            go_wp2_with fail
            go_round
            case rel => exact ⟨k + 1, by omega, by go_num, HO3⟩
            case measure => simp [intOf]; omega
      · obtain rfl : k = N := by omega
        have hd : decide ((k : Int) < (k : Int)) = false := by simp
        have EM : m = true := by rw [HM2.out]; exact decide_eq_true HO.out
        subst EM
        clear HM2
        go_wp2_with fail
        go_ret
        exact ⟨rfl, HB.out⟩
end Go.Proofs.Yticdpidngmeebaa
/- Contracts of the landed wire's mayNumbers, mayData, mayRecords (walks/WirMay.py prints this text). -/
namespace Go.Proofs.Yticdpidngmeebaa
open Go.RowKit
set_option linter.unusedVariables false
set_option maxRecDepth 20000

def ints9 (l : List Int) : List Value := l.map fun z => Value.int .i64 z
theorem mayNums_any (l : List Int) (g c : Nat) (w : World) (hc : ∀ j u, (ints9 l)[j]? = some u → w.cell? ⟨g, j, none⟩ = some u) (hl : l.length ≤ 1000) :
    Calls Try.prog 37 #[.slice (some ⟨g, 0, none⟩) l.length c] w fun e w' => e = .returned (.bool (l.all wordN)) ∧ w' = w := by
  obtain ⟨R, hR⟩ : ∃ R, l.all wordN = R := ⟨_, rfl⟩
  have HAL := Lib.hid hR
  rw [hR]
  obtain ⟨N, hN⟩ : ∃ N, l.length = N := ⟨_, rfl⟩
  have HN := Lib.hid hN
  have HC := Lib.hid hc
  rw [hN] at hl ⊢
  clear hR hN hc
  go_enter Try.func37, Try.ntmps37
  go_wp2_with fail
  go_loop [7] (fun i => ∃ k : Nat, k ≤ N ∧ i = .int .i64 (k : Int) ∧ Hid (∀ j (h : j < l.length), j < k → wordN l[j] = true)) (fun i => N - (intOf i).toNat)
  case atStart => exact ⟨0, Nat.zero_le _, rfl, Lib.hid (fun j _ h => absurd h (by omega))⟩
  case round =>
    obtain ⟨k, hk, rfl, HO⟩ := hrel
    by_cases hkN : k < N
    · have hd : decide ((k : Int) < (N : Int)) = true := decide_eq_true (by omega)
      have hdn : decide (k < N) = true := decide_eq_true hkN
      have hkD : k < l.length := by rw [HN.out]; exact hkN
      have hcell := HC.out k (.int .i64 l[k]) (by unfold ints9; rw [List.getElem?_map, List.getElem?_eq_getElem hkD]; rfl)
      have HO2 : Hid (wordN l[k] = true → ∀ j (h : j < l.length), j < k + 1 → wordN l[j] = true) := Lib.hid (fun e j h hj => by
        by_cases h2 : j < k
        · exact HO.out j h h2
        · obtain rfl : j = k := by omega
          exact e)
      have HF : Hid (wordN l[k] = false → R = false) := Lib.hid (fun e => by
        rw [← HAL.out, List.all_eq_false]
        exact ⟨l[k], List.getElem_mem hkD, by rw [e]; decide⟩)
      generalize l[k] = z at *
      have hb1 : (0 : Int) ≤ (k : Int) := by omega
      have hb2 : (k : Int) < (N : Int) := by omega
      clear HO
      by_cases h0 : z < 0
      · have hd0 : decide (z < 0) = true := decide_eq_true h0
        have ER := HF.out (decide_eq_false (by omega))
        subst ER
        clear HO2 HF
        go_wp2_with fail
        go_ret
        exact ⟨rfl, rfl⟩
      · have hd0 : decide (z < 0) = false := decide_eq_false h0
        by_cases h1 : 65535 < z
        · have hd1 : decide (65535 < z) = true := decide_eq_true h1
          have ER := HF.out (decide_eq_false (by omega))
          subst ER
          clear HO2 HF
          go_wp2_with fail
          go_ret
          exact ⟨rfl, rfl⟩
        · have hd1 : decide (65535 < z) = false := decide_eq_false h1
          have HO3 := Lib.hid (HO2.out (decide_eq_true (by omega)))
          clear HO2 HF
          go_wp2_with fail
          go_round
          case rel => exact ⟨k + 1, by omega, by go_num, HO3⟩
          case measure => simp [intOf]; omega
    · obtain rfl : k = N := by omega
      have hd : decide ((k : Int) < (k : Int)) = false := by simp
      have ER : R = true := by
        rw [← HAL.out, List.all_eq_true]
        intro r hr
        obtain ⟨j, hj, rfl⟩ := List.getElem_of_mem hr
        exact HO.out j hj (by rw [← HN.out]; exact hj)
      subst ER
      clear HO
      go_wp2_with fail
      go_ret
      exact ⟨rfl, rfl⟩
theorem mayNums2 (a b : Int) (w : World) : Calls Try.prog 37 #[.slice (some ⟨w.heap.size, 0, none⟩) 2 2] (w.alloc (.cells #[.int .i64 a, .int .i64 b] 3)) fun e w' => e = .returned (.bool (wordN a && wordN b)) ∧ w' = w.alloc (.cells #[.int .i64 a, .int .i64 b] 3) := by
  have := mayNums_any [a, b] w.heap.size 2 (w.alloc (.cells #[.int .i64 a, .int .i64 b] 3)) (fun j u hu => cells_new8 w [.int .i64 a, .int .i64 b] 3 j u hu) (by simp)
  simpa using this
/-- What mayData asks. -/
def mayD (r : Rec) : Bool :=
  if r.ty = 1 then decide (r.f = 4) && mayB r.f r.b && decide (r.tg.size = 0) && decide (r.da.size = 0)
  else if r.ty = 28 then decide (r.f = 6) && mayB r.f r.b && decide (r.tg.size = 0) && decide (r.da.size = 0)
  else if r.ty = 5 then decide (r.f = 0 ∧ r.b = zB) && mayN r.tg && decide (r.da.size = 0)
  else decide (r.f = 0 ∧ r.b = zB) && decide (r.tg.size = 0) && decide (r.da.size ≤ 65535)
theorem mayR_is (r : Rec) : mayR r = (mayN r.name && (wordN r.ty && wordN r.cl) && decide (0 ≤ r.ttl) && decide (r.ttl ≤ 2147483647) && mayD r) := by
  unfold mayR headR bodyR mayD
  generalize mayN r.name = a
  generalize mayN r.tg = b
  generalize mayB r.f r.b = c
  generalize wordN r.ty = d
  generalize wordN r.cl = e
  by_cases h1 : r.ty = 1
  · simp only [if_pos h1]
    by_cases h4 : r.da.size = 0
    · have : decide (r.da.size ≤ 65535) = true := decide_eq_true (by omega)
      rw [this]
      cases a <;> cases c <;> cases d <;> cases e <;> simp
    · simp [h4]
  · simp only [if_neg h1]
    by_cases h2 : r.ty = 28
    · simp only [if_pos h2]
      by_cases h4 : r.da.size = 0
      · have : decide (r.da.size ≤ 65535) = true := decide_eq_true (by omega)
        rw [this]
        cases a <;> cases c <;> cases d <;> cases e <;> simp
      · simp [h4]
    · simp only [if_neg h2]
      by_cases h3 : r.ty = 5
      · simp only [if_pos h3]
        by_cases h4 : r.da.size = 0
        · have : decide (r.da.size ≤ 65535) = true := decide_eq_true (by omega)
          rw [this]
          cases a <;> cases b <;> cases d <;> cases e <;> simp
        · simp [h4]
      · simp only [if_neg h3]
        generalize decide (r.da.size ≤ 65535) = g
        cases a <;> cases g <;> cases d <;> cases e <;> simp
set_option maxRecDepth 100000 in
set_option maxHeartbeats 4000000 in
theorem mayData_any (r : Rec) (w : World) (hf : Fit r) (ht : r.tg.size ≤ 1900000) :
    Calls Try.prog 64 #[recV r] w fun e w' => e = .returned (.bool (mayD r)) ∧ Below w.heap.size w w' := by
  have h16 := hf.1
  have hlt := hf.2.1
  have hd : r.da.size ≤ maxLen := hf.2.2.2.2.2.2.2.2
  have HBR : Hid (mayD r = if r.ty = 1 then decide (r.f = 4) && mayB r.f r.b && decide (r.tg.size = 0) && decide (r.da.size = 0) else if r.ty = 28 then decide (r.f = 6) && mayB r.f r.b && decide (r.tg.size = 0) && decide (r.da.size = 0) else if r.ty = 5 then decide (r.f = 0 ∧ r.b = zB) && mayN r.tg && decide (r.da.size = 0) else decide (r.f = 0 ∧ r.b = zB) && decide (r.tg.size = 0) && decide (r.da.size ≤ 65535)) := Lib.hid rfl
  obtain ⟨cs, ecs, HR, HB⟩ := rec_boxed r w h16
  rw [ecs]
  have HMT := fun W => Lib.hid (may_any r.tg W (by omega))
  have HMA := fun W => Lib.hid (addrMay_any r.f r.b W h16 hlt)
  have H16 := Lib.hid h16
  have gd := guard_zero
  have q := fun W => run_zero_addr r.f r.b W h16
  have hdm : r.da.size ≤ 9223372036854775807 := by unfold maxLen at hd; omega
  generalize mayD r = R at *
  obtain ⟨nm, ty, cl, ttl, f, b, tg, da⟩ := r
  simp only at HBR HMT HMA H16 q hdm
  have hzz : decide (f = 0 ∧ b = List.replicate 16 0) = decide (f = 0 ∧ b = zB) := rfl
  rw [hzz] at q
  generalize mayN tg = m2 at *
  generalize mayB f b = m3 at *
  generalize decide (f = 0 ∧ b = zB) = z3 at *
  clear ecs h16 hf ht hd hzz hlt
  go_enter Try.func64, Try.ntmps64
  go_upto_region 1 with fail
  generalize w.alloc (.cells cs 42) = W at *
  obtain ⟨G, hG⟩ : ∃ G, w.heap.size = G := ⟨_, rfl⟩
  try rw [hG] at HR
  try rw [hG]
  have c1 := HR.out.ty
  have c4 := HR.out.fam
  have c5 := HR.out.tg
  have c6 := HR.out.da
  have HRA := Lib.hid HR.out.addr
  simp only [Nat.zero_add] at c1 c4 c5 c6 HRA
  by_cases t1 : ty = 1
  · have tbt1 : (ty == 1) = true := by rw [t1]; rfl
    rw [if_pos t1] at HBR
    clear t1
    by_cases h2 : f = 4
    · have hd2 : decide (f = 4) = true := decide_eq_true h2
      rw [hd2] at HBR
      have he2 : (f == 4) = true := by rw [h2]; rfl
      clear h2
      go_wp2_with (refine load_addr_o H16 HRA _ rfl rfl rfl ?_)
      refine (HMA _).out.mono ?_
      rintro e w1 ⟨rfl, hb1⟩
      replace HR := Lib.hid (HR.out.below hb1)
      replace HB := Lib.hid (chain HB.out hb1)
      clear hb1 c1 c4 c5 c6 HRA
      have c1 := HR.out.ty
      have c4 := HR.out.fam
      have c5 := HR.out.tg
      have c6 := HR.out.da
      have HRA := Lib.hid HR.out.addr
      simp only [Nat.zero_add] at c1 c4 c5 c6 HRA
      cases m3 with
      | false =>
        have ER : R = false := by rw [HBR.out]; simp
        subst ER
        clear HBR
        go_wp2_with (refine load_addr_o H16 HRA _ rfl rfl rfl ?_)
        go_ret
        exact ⟨rfl, HB.out⟩
      | true =>
        by_cases h3 : tg.size = 0
        · have hdh3 : decide (tg.size = 0) = true := decide_eq_true h3
          rw [hdh3] at HBR
          have heh3 := isEmpty_true tg h3
          by_cases h4 : da.size = 0
          · have hdh4 : decide (da.size = 0) = true := decide_eq_true h4
            rw [hdh4] at HBR
            have heh4 := isEmpty_true da h4
            have ER : R = true := by rw [HBR.out]; rfl
            subst ER
            clear HBR
            go_wp2_with (refine load_addr_o H16 HRA _ rfl rfl rfl ?_)
            go_ret
            exact ⟨rfl, HB.out⟩
          · have hdh4 : decide (da.size = 0) = false := decide_eq_false h4
            rw [hdh4] at HBR
            have heh4 := isEmpty_false da (by omega)
            have ER : R = false := by rw [HBR.out]; simp
            subst ER
            clear HBR
            go_wp2_with (refine load_addr_o H16 HRA _ rfl rfl rfl ?_)
            go_ret
            exact ⟨rfl, HB.out⟩
        · have hdh3 : decide (tg.size = 0) = false := decide_eq_false h3
          rw [hdh3] at HBR
          have heh3 := isEmpty_false tg (by omega)
          have ER : R = false := by rw [HBR.out]; simp
          subst ER
          clear HBR
          go_wp2_with (refine load_addr_o H16 HRA _ rfl rfl rfl ?_)
          go_ret
          exact ⟨rfl, HB.out⟩
    · have hd2 : decide (f = 4) = false := decide_eq_false h2
      rw [hd2] at HBR
      have he2 : (f == 4) = false := by rw [beq_eq_false_iff_ne]; exact h2
      have ER : R = false := by rw [HBR.out]; simp
      subst ER
      clear HBR
      go_wp2_with (refine load_addr_o H16 HRA _ rfl rfl rfl ?_)
      go_ret
      exact ⟨rfl, HB.out⟩
  · have tbt1 : (ty == 1) = false := by rw [beq_eq_false_iff_ne]; exact t1
    rw [if_neg t1] at HBR
    clear t1
    by_cases t2 : ty = 28
    · have tbt2 : (ty == 28) = true := by rw [t2]; rfl
      rw [if_pos t2] at HBR
      clear t2
      by_cases h2 : f = 6
      · have hd2 : decide (f = 6) = true := decide_eq_true h2
        rw [hd2] at HBR
        have he2 : (f == 6) = true := by rw [h2]; rfl
        clear h2
        go_wp2_with (refine load_addr_o H16 HRA _ rfl rfl rfl ?_)
        refine (HMA _).out.mono ?_
        rintro e w1 ⟨rfl, hb1⟩
        replace HR := Lib.hid (HR.out.below hb1)
        replace HB := Lib.hid (chain HB.out hb1)
        clear hb1 c1 c4 c5 c6 HRA
        have c1 := HR.out.ty
        have c4 := HR.out.fam
        have c5 := HR.out.tg
        have c6 := HR.out.da
        have HRA := Lib.hid HR.out.addr
        simp only [Nat.zero_add] at c1 c4 c5 c6 HRA
        cases m3 with
        | false =>
          have ER : R = false := by rw [HBR.out]; simp
          subst ER
          clear HBR
          go_wp2_with (refine load_addr_o H16 HRA _ rfl rfl rfl ?_)
          go_ret
          exact ⟨rfl, HB.out⟩
        | true =>
          by_cases h3 : tg.size = 0
          · have hdh3 : decide (tg.size = 0) = true := decide_eq_true h3
            rw [hdh3] at HBR
            have heh3 := isEmpty_true tg h3
            by_cases h4 : da.size = 0
            · have hdh4 : decide (da.size = 0) = true := decide_eq_true h4
              rw [hdh4] at HBR
              have heh4 := isEmpty_true da h4
              have ER : R = true := by rw [HBR.out]; rfl
              subst ER
              clear HBR
              go_wp2_with (refine load_addr_o H16 HRA _ rfl rfl rfl ?_)
              go_ret
              exact ⟨rfl, HB.out⟩
            · have hdh4 : decide (da.size = 0) = false := decide_eq_false h4
              rw [hdh4] at HBR
              have heh4 := isEmpty_false da (by omega)
              have ER : R = false := by rw [HBR.out]; simp
              subst ER
              clear HBR
              go_wp2_with (refine load_addr_o H16 HRA _ rfl rfl rfl ?_)
              go_ret
              exact ⟨rfl, HB.out⟩
          · have hdh3 : decide (tg.size = 0) = false := decide_eq_false h3
            rw [hdh3] at HBR
            have heh3 := isEmpty_false tg (by omega)
            have ER : R = false := by rw [HBR.out]; simp
            subst ER
            clear HBR
            go_wp2_with (refine load_addr_o H16 HRA _ rfl rfl rfl ?_)
            go_ret
            exact ⟨rfl, HB.out⟩
      · have hd2 : decide (f = 6) = false := decide_eq_false h2
        rw [hd2] at HBR
        have he2 : (f == 6) = false := by rw [beq_eq_false_iff_ne]; exact h2
        have ER : R = false := by rw [HBR.out]; simp
        subst ER
        clear HBR
        go_wp2_with (refine load_addr_o H16 HRA _ rfl rfl rfl ?_)
        go_ret
        exact ⟨rfl, HB.out⟩
    · have tbt2 : (ty == 28) = false := by rw [beq_eq_false_iff_ne]; exact t2
      rw [if_neg t2] at HBR
      clear t2
      by_cases t3 : ty = 5
      · have tbt3 : (ty == 5) = true := by rw [t3]; rfl
        rw [if_pos t3] at HBR
        clear t3
        cases z3 with
        | false =>
          have ER : R = false := by rw [HBR.out]; simp
          subst ER
          clear HBR
          go_wp2_with (refine load_addr_o H16 HRA _ rfl rfl rfl ?_)
          go_ret
          exact ⟨rfl, HB.out⟩
        | true =>
          go_wp2_with (refine load_addr_o H16 HRA _ rfl rfl rfl ?_)
          refine (HMT _).out.mono ?_
          rintro e w1 ⟨rfl, hb1⟩
          replace HR := Lib.hid (HR.out.below hb1)
          replace HB := Lib.hid (chain HB.out hb1)
          clear hb1 c1 c4 c5 c6 HRA
          have c1 := HR.out.ty
          have c4 := HR.out.fam
          have c5 := HR.out.tg
          have c6 := HR.out.da
          have HRA := Lib.hid HR.out.addr
          simp only [Nat.zero_add] at c1 c4 c5 c6 HRA
          cases m2 with
          | false =>
            have ER : R = false := by rw [HBR.out]; simp
            subst ER
            clear HBR
            go_wp2_with (refine load_addr_o H16 HRA _ rfl rfl rfl ?_)
            go_ret
            exact ⟨rfl, HB.out⟩
          | true =>
            by_cases h4 : da.size = 0
            · have hdh4 : decide (da.size = 0) = true := decide_eq_true h4
              rw [hdh4] at HBR
              have heh4 := isEmpty_true da h4
              have ER : R = true := by rw [HBR.out]; rfl
              subst ER
              clear HBR
              go_wp2_with (refine load_addr_o H16 HRA _ rfl rfl rfl ?_)
              go_ret
              exact ⟨rfl, HB.out⟩
            · have hdh4 : decide (da.size = 0) = false := decide_eq_false h4
              rw [hdh4] at HBR
              have heh4 := isEmpty_false da (by omega)
              have ER : R = false := by rw [HBR.out]; simp
              subst ER
              clear HBR
              go_wp2_with (refine load_addr_o H16 HRA _ rfl rfl rfl ?_)
              go_ret
              exact ⟨rfl, HB.out⟩
      · have tbt3 : (ty == 5) = false := by rw [beq_eq_false_iff_ne]; exact t3
        rw [if_neg t3] at HBR
        clear t3
        cases z3 with
        | false =>
          have ER : R = false := by rw [HBR.out]; simp
          subst ER
          clear HBR
          go_wp2_with (refine load_addr_o H16 HRA _ rfl rfl rfl ?_)
          go_ret
          exact ⟨rfl, HB.out⟩
        | true =>
          by_cases h3 : tg.size = 0
          · have hdh3 : decide (tg.size = 0) = true := decide_eq_true h3
            rw [hdh3] at HBR
            have heh3 := isEmpty_true tg h3
            by_cases h5 : da.size ≤ 65535
            · have hd5 : decide (da.size ≤ 65535) = true := decide_eq_true h5
              rw [hd5] at HBR
              have he5 : decide ((da.size : Int) ≤ 65535) = true := decide_eq_true (by omega)
              have ER : R = true := by rw [HBR.out]; rfl
              subst ER
              clear HBR
              go_wp2_with (refine load_addr_o H16 HRA _ rfl rfl rfl ?_)
              go_ret
              exact ⟨rfl, HB.out⟩
            · have hd5 : decide (da.size ≤ 65535) = false := decide_eq_false h5
              rw [hd5] at HBR
              have he5 : decide ((da.size : Int) ≤ 65535) = false := decide_eq_false (by omega)
              have ER : R = false := by rw [HBR.out]; simp
              subst ER
              clear HBR
              go_wp2_with (refine load_addr_o H16 HRA _ rfl rfl rfl ?_)
              go_ret
              exact ⟨rfl, HB.out⟩
          · have hdh3 : decide (tg.size = 0) = false := decide_eq_false h3
            rw [hdh3] at HBR
            have heh3 := isEmpty_false tg (by omega)
            have ER : R = false := by rw [HBR.out]; simp
            subst ER
            clear HBR
            go_wp2_with (refine load_addr_o H16 HRA _ rfl rfl rfl ?_)
            go_ret
            exact ⟨rfl, HB.out⟩
end Go.Proofs.Yticdpidngmeebaa
/- Contract of the landed wire's mayRecords. -/
namespace Go.Proofs.Yticdpidngmeebaa
open Go.RowKit
set_option linter.unusedVariables false
set_option maxRecDepth 20000

set_option maxRecDepth 100000 in
set_option maxHeartbeats 4000000 in
theorem mayRecords_any (a : Option Addr) (cap : Nat) (D : List Rec) (w : World) (hD : RecsAt w a cap D) (hr : ∀ r ∈ D, Room r) (hl : D.length ≤ 1000000) :
    Calls Try.prog 39 #[.slice a D.length cap] w fun e w' => e = .returned (.bool (D.all mayR)) ∧ Below w.heap.size w w' := by
  have HD := Lib.hid hD
  have HRM := Lib.hid hr
  obtain ⟨R, hR⟩ : ∃ R, D.all mayR = R := ⟨_, rfl⟩
  have HAL := Lib.hid hR
  rw [hR]
  obtain ⟨N, hN⟩ : ∃ N, D.length = N := ⟨_, rfl⟩
  have HN := Lib.hid hN
  rw [hN] at hl ⊢
  clear hD hr hR hN
  go_enter Try.func39, Try.ntmps39
  go_wp2_with fail
  go_loopw [7] (fun i wr => ∃ k : Nat, k ≤ N ∧ i = .int .i64 (k : Int) ∧ Hid (∀ j (h : j < D.length), j < k → mayR D[j] = true) ∧ Hid (Below w.heap.size w wr)) (fun i _ => N - (intOf i).toNat)
  case atStart => exact ⟨0, Nat.zero_le _, rfl, Lib.hid (fun j _ h => absurd h (by omega)), Lib.hid (Below.refl _ _)⟩
  case round =>
    obtain ⟨k, hk, rfl, HO, HB⟩ := hrel
    by_cases hkN : k < N
    · have hd : decide ((k : Int) < (N : Int)) = true := decide_eq_true (by omega)
      have hdn : decide (k < N) = true := decide_eq_true hkN
      have hkD : k < D.length := by rw [HN.out]; exact hkN
      obtain ⟨g, o, ha, hg, hrg⟩ := (HD.out.below HB.out).at k hkD
      subst ha
      have HRG := Lib.hid hrg
      have hfit := HD.out.2.2.1 _ (List.getElem_mem hkD)
      have hroom := HRM.out _ (List.getElem_mem hkD)
      have H16 := Lib.hid hfit.1
      have HMN := fun W => Lib.hid (may_any (D[k]).name W (by have := hroom.1; omega))
      have HDA := fun W => Lib.hid (mayData_any D[k] W hfit hroom.2)
      have HNU := fun W => Lib.hid (mayNums2 (D[k]).ty (D[k]).cl W)
      have HIS := Lib.hid (mayR_is D[k])
      have HO2 : Hid (mayR D[k] = true → ∀ j (h : j < D.length), j < k + 1 → mayR D[j] = true) := Lib.hid (fun e j h hj => by
        by_cases h2 : j < k
        · exact HO.out j h h2
        · obtain rfl : j = k := by omega
          exact e)
      have HF : Hid (mayR D[k] = false → R = false) := Lib.hid (fun e => by
        rw [← HAL.out, List.all_eq_false]
        exact ⟨D[k], List.getElem_mem hkD, by rw [e]; decide⟩)
      generalize D[k] = r at *
      generalize mayR r = mr at *
      generalize mayD r = md at *
      generalize mayN r.name = m1 at *
      generalize (wordN r.ty && wordN r.cl) = m2 at *
      have hb1 : (0 : Int) ≤ (k : Int) := by omega
      have hb2 : (k : Int) < (N : Int) := by omega
      have HZ := Lib.hid (rec_zeroed wr)
      have HZB : Hid (Below wr.heap.size wr (wr.alloc (.cells zC 42))) := Lib.hid ((Below.refl _ _).alloc (Nat.le_refl _) _)
      have HLW : Hid (w.heap.size ≤ wr.heap.size) := Lib.hid HB.out.size
      clear hrg hfit hroom hg HO
      go_upto_region 4 with (first | refine load_rec H16 HRG _ rfl rfl rfl ?_ | refine store_rec HZ _ _ H16 rfl rfl rfl rfl (fun W HW HX => ?_))
      have HB2 : Hid (Below w.heap.size w W) := Lib.hid (by rw [HW.out]; exact below_cells HLW.out _ _ _ (chain HB.out HZB.out))
      generalize wr.heap.size = P at *
      clear HW HZ HZB HB HRG HLW
      have c0 := HX.out.parts.name
      go_wp2_with fail
      refine (HMN _).out.mono ?_
      rintro e w2 ⟨rfl, hbx⟩
      replace HX := Lib.hid (HX.out.below hbx)
      replace HB2 := Lib.hid (chain HB2.out hbx)
      clear hbx HMN c0
      have c1 := HX.out.parts.ty
      have c2 := HX.out.parts.cl
      simp only [Nat.zero_add] at c1 c2
      cases m1 with
      | false =>
        have ER := HF.out (by rw [HIS.out]; rfl)
        subst ER
        clear HO2 HF HIS
        go_wp2_with fail
        go_ret
        exact ⟨rfl, HB2.out⟩
      | true =>
        go_wp2_with fail
        refine (HNU _).out.mono ?_
        rintro e w3 ⟨rfl, hw3⟩
        have hbx : Below w2.heap.size w2 w3 := by rw [hw3]; exact (Below.refl _ _).alloc (Nat.le_refl _) _
        replace HX := Lib.hid (HX.out.below hbx)
        replace HB2 := Lib.hid (chain HB2.out hbx)
        clear hw3 hbx HNU c1 c2
        have c3 := HX.out.parts.ttl
        simp only [Nat.zero_add] at c3
        cases m2 with
        | false =>
          have ER := HF.out (by rw [HIS.out]; rfl)
          subst ER
          clear HO2 HF HIS
          go_wp2_with fail
          go_ret
          exact ⟨rfl, HB2.out⟩
        | true =>
          by_cases h0 : r.ttl < 0
          · have hd0 : decide (r.ttl < 0) = true := decide_eq_true h0
            have ER := HF.out (by rw [HIS.out, decide_eq_false (show ¬ 0 ≤ r.ttl by omega)]; rfl)
            subst ER
            clear HO2 HF HIS
            go_wp2_with fail
            go_ret
            exact ⟨rfl, HB2.out⟩
          · have hd0 : decide (r.ttl < 0) = false := decide_eq_false h0
            have he0 : decide (0 ≤ r.ttl) = true := decide_eq_true (by omega)
            rw [he0] at HIS
            by_cases h1 : 2147483647 < r.ttl
            · have hd1 : decide (2147483647 < r.ttl) = true := decide_eq_true h1
              have ER := HF.out (by rw [HIS.out, decide_eq_false (show ¬ r.ttl ≤ 2147483647 by omega)]; rfl)
              subst ER
              clear HO2 HF HIS
              go_wp2_with fail
              go_ret
              exact ⟨rfl, HB2.out⟩
            · have hd1 : decide (2147483647 < r.ttl) = false := decide_eq_false h1
              have he1 : decide (r.ttl ≤ 2147483647) = true := decide_eq_true (by omega)
              rw [he1] at HIS
              clear he0 he1
              go_wp2_with (refine load_recAt HX _ rfl rfl rfl ?_)
              refine (HDA _).out.mono ?_
              rintro e w4 ⟨rfl, hbx⟩
              replace HB2 := Lib.hid (chain HB2.out hbx)
              clear hbx HDA HX c3 hd0 hd1 h0 h1
              cases md with
              | false =>
                have ER := HF.out (by rw [HIS.out]; rfl)
                subst ER
                clear HO2 HF HIS
                go_wp2_with fail
                go_ret
                exact ⟨rfl, HB2.out⟩
              | true =>
                have HO3 := Lib.hid (HO2.out (by rw [HIS.out]; rfl))
                clear HO2 HF HIS
                go_wp2_with fail
                go_roundw
                case rel => exact ⟨k + 1, by omega, by go_num, HO3, HB2⟩
                case measure => simp [intOf]; omega
    · obtain rfl : k = N := by omega
      have hd : decide ((k : Int) < (k : Int)) = false := by simp
      have ER : R = true := by
        rw [← HAL.out, List.all_eq_true]
        intro r hr
        obtain ⟨j, hj, rfl⟩ := List.getElem_of_mem hr
        exact HO.out j hj (by rw [← HN.out]; exact hj)
      subst ER
      clear HO
      go_wp2_with fail
      go_ret
      exact ⟨rfl, HB.out⟩
end Go.Proofs.Yticdpidngmeebaa
/- Contract of the landed wire's May. -/
namespace Go.Proofs.Yticdpidngmeebaa
open Go.RowKit
set_option linter.unusedVariables false
set_option maxRecDepth 20000

set_option maxRecDepth 100000 in
set_option maxHeartbeats 4000000 in
theorem may9_any (m : Msg) (aq a1 a2 a3 : Option Addr) (cq c1 c2 c3 : Nat) (w : World) (hM : MsgIn w m aq a1 a2 a3 cq c1 c2 c3) (hr : RoomM m) :
    Calls Try.prog 13 #[msgV m aq a1 a2 a3 cq c1 c2 c3] w fun e w' => e = .returned (.bool (mayM m)) ∧ Below w.heap.size w w' := by
  unfold msgV
  obtain ⟨hr1, hr2, hr3, hr4, hl1, hl2, hl3, hl4⟩ := hr
  have HMI := Lib.hid hM
  have HQR := Lib.hid hr1
  have HA1 := fun W (h : MsgIn W m aq a1 a2 a3 cq c1 c2 c3) => Lib.hid (mayRecords_any a1 c1 m.an W h.an hr2 hl2)
  have HA2 := fun W (h : MsgIn W m aq a1 a2 a3 cq c1 c2 c3) => Lib.hid (mayRecords_any a2 c2 m.au W h.au hr3 hl3)
  have HA3 := fun W (h : MsgIn W m aq a1 a2 a3 cq c1 c2 c3) => Lib.hid (mayRecords_any a3 c3 m.mo W h.mo hr4 hl4)
  have HNU := fun a b W => Lib.hid (mayNums2 a b W)
  obtain ⟨R, hR⟩ : ∃ R, mayM m = R := ⟨_, rfl⟩
  have HRM : Hid (R = (m.qs.all mayQ9 && wordN m.id && wordN m.fl && m.an.all mayR && m.au.all mayR && m.mo.all mayR)) := Lib.hid hR.symm
  rw [hR]
  obtain ⟨W, hW⟩ : ∃ W, w.alloc (.cells #[.int .i64 m.id, .int .i64 m.fl, .slice aq m.qs.length cq, .slice a1 m.an.length c1, .slice a2 m.au.length c2, .slice a3 m.mo.length c3] 25) = W := ⟨_, rfl⟩
  have HB0 : Hid (Below w.heap.size w W) := Lib.hid (by rw [← hW]; exact (Below.refl _ _).alloc (Nat.le_refl _) _)
  have HBX : Hid (MBox W w.heap.size (.int .i64 m.id) (.int .i64 m.fl) (.slice aq m.qs.length cq) (.slice a1 m.an.length c1) (.slice a2 m.au.length c2) (.slice a3 m.mo.length c3)) := Lib.hid (by rw [← hW]; exact MBox.new w _ _ _ _ _ _ _)
  obtain ⟨N, hN⟩ : ∃ N, m.qs.length = N := ⟨_, rfl⟩
  have HN := Lib.hid hN
  rw [hN] at hl1 HBX hW ⊢
  generalize m.an.all mayR = r1 at *
  generalize m.au.all mayR = r2 at *
  generalize m.mo.all mayR = r3 at *
  generalize m.an.length = n1 at *
  generalize m.au.length = n2 at *
  generalize m.mo.length = n3 at *
  clear hM hr1 hr2 hr3 hr4 hR hN
  go_enter Try.func13, Try.ntmps13
  go_upto_region 1 with fail
  try rw [hW]
  clear hW
  obtain ⟨G, hG⟩ : ∃ G, w.heap.size = G := ⟨_, rfl⟩
  rw [hG] at HBX
  try rw [hG]
  have x0 := HBX.out.c0
  have x1 := HBX.out.c1
  go_wp2_with fail
  refine (HNU _ _ _).out.mono ?_
  rintro e w1 ⟨rfl, hw1⟩
  have hbx : Below W.heap.size W w1 := by rw [hw1]; exact (Below.refl _ _).alloc (Nat.le_refl _) _
  replace HB0 := Lib.hid (chain HB0.out hbx)
  replace HBX := Lib.hid (HBX.out.below hbx)
  clear hw1 hbx x0 x1
  cases hw1 : (wordN m.id && wordN m.fl) with
  | false =>
    have ER : R = false := by
      rw [HRM.out]
      revert hw1
      generalize wordN m.id = u
      generalize wordN m.fl = v
      generalize m.qs.all mayQ9 = x
      cases u <;> cases v <;> cases x <;> simp
    subst ER
    clear HRM
    go_wp2_with fail
    go_ret
    exact ⟨rfl, HB0.out⟩
  | true =>
  have HRM2 : Hid (R = (m.qs.all mayQ9 && r1 && r2 && r3)) := Lib.hid (by
    rw [HRM.out]
    revert hw1
    generalize wordN m.id = u
    generalize wordN m.fl = v
    generalize m.qs.all mayQ9 = x
    cases u <;> cases v <;> cases x <;> simp)
  clear HRM hw1
  have x2 := HBX.out.c2
  go_wp2_with fail
  clear x2
  go_loopw [15] (fun i wr => ∃ k : Nat, k ≤ N ∧ i = .int .i64 (k : Int) ∧ Hid (∀ j (h : j < m.qs.length), j < k → mayQ9 m.qs[j] = true) ∧ Hid (MBox wr G (.int .i64 m.id) (.int .i64 m.fl) (.slice aq N cq) (.slice a1 n1 c1) (.slice a2 n2 c2) (.slice a3 n3 c3)) ∧ Hid (Below w.heap.size w wr)) (fun i _ => N - (intOf i).toNat)
  case atStart => exact ⟨0, Nat.zero_le _, rfl, Lib.hid (fun j _ h => absurd h (by omega)), HBX, HB0⟩
  case round =>
    clear HBX HB0
    obtain ⟨k, hk, rfl, HO, HX, HB⟩ := hrel
    by_cases hkN : k < N
    · have hd : decide ((k : Int) < (N : Int)) = true := decide_eq_true (by omega)
      have hdn : decide (k < N) = true := decide_eq_true hkN
      have hkD : k < m.qs.length := by rw [HN.out]; exact hkN
      have hroom := HQR.out _ (List.getElem_mem hkD)
      have HMN := fun W => Lib.hid (may_any (m.qs[k]).name W (by omega))
      obtain ⟨g, o, ha, hg, z0, z1, z2⟩ := (HMI.out.qs.below HB.out).at k hkD
      subst ha
      have HO2 : Hid (mayQ9 m.qs[k] = true → ∀ j (h : j < m.qs.length), j < k + 1 → mayQ9 m.qs[j] = true) := Lib.hid (fun e j h hj => by
        by_cases h2 : j < k
        · exact HO.out j h h2
        · obtain rfl : j = k := by omega
          exact e)
      have HF : Hid (mayQ9 m.qs[k] = false → R = false) := Lib.hid (fun e => by
        rw [HRM2.out]
        have : m.qs.all mayQ9 = false := by
          rw [List.all_eq_false]
          exact ⟨m.qs[k], List.getElem_mem hkD, by rw [e]; decide⟩
        rw [this]
        rfl)
      generalize m.qs[k] = q at *
      obtain ⟨nm, ty, cl⟩ := q
      simp only at HMN z0 z1 z2
      have HQE : Hid (mayQ9 ⟨nm, ty, cl⟩ = (mayN nm && (wordN ty && wordN cl))) := Lib.hid (Bool.and_assoc _ _ _)
      generalize mayQ9 ⟨nm, ty, cl⟩ = mq at *
      generalize mayN nm = m1 at *
      have hb1 : (0 : Int) ≤ (k : Int) := by omega
      have hb2 : (k : Int) < (N : Int) := by omega
      have HVB : Hid (Below wr.heap.size wr (wr.alloc (.cells #[.string nm, .int .i64 ty, .int .i64 cl] 51))) := Lib.hid ((Below.refl _ _).alloc (Nat.le_refl _) _)
      have HVC : Hid ((wr.alloc (.cells #[.string nm, .int .i64 ty, .int .i64 cl] 51)).rangeAt wr.heap.size 0 (quL ⟨nm, ty, cl⟩)) := Lib.hid (built_new 51)
      clear hroom hg HO
      go_upto_region 6 with fail
      replace HX := Lib.hid (HX.out.below HVB.out)
      replace HB := Lib.hid (chain HB.out HVB.out)
      have HLV : Hid (wr.heap.size < (wr.alloc (.cells #[.string nm, .int .i64 ty, .int .i64 cl] 51)).heap.size) := Lib.hid (by simp)
      obtain ⟨V, hV⟩ : ∃ V, wr.alloc (.cells #[.string nm, .int .i64 ty, .int .i64 cl] 51) = V := ⟨_, rfl⟩
      rw [hV] at HX HB HVC HLV
      try rw [hV]
      generalize wr.heap.size = P at *
      clear HVB hV z0 z1 z2
      have y0 := HVC.out 0 _ rfl
      go_wp2_with fail
      refine (HMN _).out.mono ?_
      rintro e w2 ⟨rfl, hbx⟩
      replace HB := Lib.hid (chain HB.out hbx)
      replace HX := Lib.hid (HX.out.below hbx)
      have y1 := (hbx.cell (p := ⟨P, 1, none⟩) HLV.out).trans (HVC.out 1 _ rfl)
      have y2 := (hbx.cell (p := ⟨P, 2, none⟩) HLV.out).trans (HVC.out 2 _ rfl)
      clear hbx HMN y0 HVC HLV
      cases m1 with
      | false =>
        have ER := HF.out HQE.out
        subst ER
        clear HF HO2 HQE
        go_wp2_with fail
        go_ret
        exact ⟨rfl, HB.out⟩
      | true =>
        go_wp2_with fail
        refine (HNU _ _ _).out.mono ?_
        rintro e w3 ⟨rfl, hw3⟩
        have hbx : Below w2.heap.size w2 w3 := by rw [hw3]; exact (Below.refl _ _).alloc (Nat.le_refl _) _
        replace HX := Lib.hid (HX.out.below hbx)
        replace HB := Lib.hid (chain HB.out hbx)
        clear hw3 hbx y1 y2
        cases hww : (wordN ty && wordN cl) with
        | false =>
          rw [hww] at HQE
          have ER := HF.out HQE.out
          subst ER
          clear HF HO2 HQE
          go_wp2_with fail
          go_ret
          exact ⟨rfl, HB.out⟩
        | true =>
          rw [hww] at HQE
          have HO3 := Lib.hid (HO2.out HQE.out)
          clear HF HO2 HQE hww
          go_wp2_with fail
          go_roundw
          case rel => exact ⟨k + 1, by omega, by go_num, HO3, HX, HB⟩
          case measure => simp [intOf]; omega
    · obtain rfl : k = N := by omega
      have hd : decide ((k : Int) < (k : Int)) = false := by simp
      have HAL : Hid (m.qs.all mayQ9 = true) := Lib.hid (by
        rw [List.all_eq_true]
        intro r hr
        obtain ⟨j, hj, rfl⟩ := List.getElem_of_mem hr
        exact HO.out j hj (by rw [← HN.out]; exact hj))
      have ER := HRM2.out
      rw [HAL.out] at ER
      subst ER
      have x3 := HX.out.c3
      clear HO HAL HRM2
      go_wp2_with fail
      refine (HA1 _ (HMI.out.below HB.out)).out.mono ?_
      rintro e w2 ⟨rfl, hbx⟩
      replace HB := Lib.hid (chain HB.out hbx)
      replace HX := Lib.hid (HX.out.below hbx)
      clear hbx HA1 x3
      have x4 := HX.out.c4
      cases r1 with
      | false =>
        go_wp2_with fail
        go_ret
        exact ⟨rfl, HB.out⟩
      | true =>
        go_wp2_with fail
        refine (HA2 _ (HMI.out.below HB.out)).out.mono ?_
        rintro e w3 ⟨rfl, hbx⟩
        replace HB := Lib.hid (chain HB.out hbx)
        replace HX := Lib.hid (HX.out.below hbx)
        clear hbx HA2 x4
        have x5 := HX.out.c5
        cases r2 with
        | false =>
          go_wp2_with fail
          go_ret
          exact ⟨rfl, HB.out⟩
        | true =>
          go_wp2_with fail
          refine (HA3 _ (HMI.out.below HB.out)).out.mono ?_
          rintro e w4 ⟨rfl, hbx⟩
          replace HB := Lib.hid (chain HB.out hbx)
          clear hbx HA3 x5 HX
          cases r3 with
          | false =>
            go_wp2_with fail
            go_ret
            exact ⟨rfl, HB.out⟩
          | true =>
            go_wp2_with fail
            go_ret
            exact ⟨rfl, HB.out⟩
end Go.Proofs.Yticdpidngmeebaa
