/- Texts that belong together, one behind the other: SmallMath, LabGood, Digits. -/
import Derived.Test.YticdpidngmeebaaB8
import Derived.OpenShut
/- How long the bytes are of a name that is asked, and answered by records of its own: plain facts. -/
namespace Go.Proofs.Yticdpidngmeebaa
open Go.RowKit
set_option linter.unusedVariables false
set_option maxRecDepth 20000

theorem nm8_firstL (l : List UInt8) (s : ByteArray) (hf : Full s) : ∀ (f i : Nat) (ns : List ByteArray) (ats : List Nat), (labelsB s).length + 1 = i + f → i ≤ (labelsB s).length → (∀ n ∈ ns, (restB s i).size < n.size) → (nm8 s (labelsB s) f i (l ++ bytesTo (labelsB s) i) ns ats).1 = l ++ bytesL (labelsB s)
  | 0, i, ns, ats, h, hi, _ => by omega
  | f + 1, i, ns, ats, h, hi, hn => by
    unfold nm8
    by_cases hl : (labelsB s).length ≤ i
    · rw [if_pos hl]
      have : i = (labelsB s).length := by omega
      rw [this, List.append_assoc]
      rfl
    · rw [if_neg hl, find8_longer ns ats _ hn]
      have hr : (restB s (i + 1)).size < (restB s i).size := by
        have h1 := (rest_pos hf i).2 (by omega)
        rw [rest_par]
        exact par_lt _ h1
      simp only
      rw [List.append_assoc]
      refine nm8_firstL l s hf f (i + 1) _ _ (by omega) (by omega) (fun n hm => ?_)
      split at hm
      · rcases List.mem_append.1 hm with hm | hm
        · have := hn n hm; omega
        · rw [List.mem_singleton.1 hm]; exact hr
      · have := hn n hm; omega
/-- The first time a name is written whole. -/
theorem small_first {s : ByteArray} (hm : mayN s = true) (n : Nat) (hn : n < 16384) : (nmT s n [] []).1 = bytesL (labelsB s) ∧ (0 < s.size → find8 (nmT s n [] []).2.1 (nmT s n [] []).2.2 s = some n) := by
  have hf := may_full hm
  have h1 := nm8_firstL (List.replicate n 0) s hf ((labelsB s).length + 1) 0 [] [] (by omega) (Nat.zero_le _) (fun x hx => by cases hx)
  rw [show bytesTo (labelsB s) 0 = [] from rfl, List.append_nil] at h1
  refine ⟨by unfold nmT; rw [h1]; simp, fun hs => ?_⟩
  have hL : 0 < (labelsB s).length := by
    have h2 := (rest_pos hf 0).1 (by rw [rest_zero]; exact hs)
    exact h2
  unfold nmT
  simp only
  unfold nm8
  rw [if_neg (by omega)]
  simp only [find8, List.length_replicate, if_pos hn, List.nil_append]
  have hr : (restB s 1).size < s.size := by
    have e : restB s 1 = parB (restB s 0) := rest_par 0 s
    rw [e, rest_zero]
    exact par_lt _ hs
  obtain ⟨_, _, _, _, _, h5, _⟩ := nm8_sp s hm (n + 1) (labelsB s).length 1 (List.replicate n 0 ++ labL ((labelsB s).getD 0 ⟨#[]⟩)) [restB s 0] [n] (by omega) (by omega) rfl (by simpa using hn) (by simp [labL]) (fun x k hx hk => by
    rw [rest_zero] at hk
    unfold find8 at hk
    by_cases e : s = x
    · subst e; omega
    · rw [if_neg e] at hk; simp [find8] at hk)
  have := h5 s hr
  rw [this, rest_zero]
  unfold find8
  rw [if_pos rfl]
theorem small_next {s : ByteArray} {n k : Nat} {ns : List ByteArray} {ats : List Nat} (hm : mayN s = true) (hs : 0 < s.size) (h : find8 ns ats s = some k) : (nmT s n ns ats).1.length = 2 ∧ (nmT s n ns ats).2 = (ns, ats) := by
  have hL : 0 < (labelsB s).length := (rest_pos (may_full hm) 0).1 (by rw [rest_zero]; exact hs)
  unfold nmT nm8
  rw [if_neg (by omega), rest_zero, h]
  simp
theorem small_none {s : ByteArray} {n : Nat} {ns : List ByteArray} {ats : List Nat} (hs : s.size = 0) : (nmT s n ns ats).1.length = 1 ∧ (nmT s n ns ats).2 = (ns, ats) := by
  unfold nmT nm8
  rw [labels_empty hs, if_pos (by simp)]
  simp
/-- A record of a name's own, of an address of noughts. -/
def ownR (s : ByteArray) : Rec := ⟨s, 1, 1, 0, 4, List.replicate 16 0, ⟨#[]⟩, ⟨#[]⟩⟩
theorem ownR_may {s : ByteArray} (hm : mayN s = true) : mayR (ownR s) = true := by
  have hb : mayB 4 (List.replicate 16 0) = true := by kernel_rfl
  unfold mayR headR bodyR ownR
  rw [if_pos rfl]
  simp only [hm, hb]
  rfl
theorem ownR_step {s : ByteArray} {t : Wst} {one : Nat} (h : (nmT s t.1.length t.2.1 t.2.2).1.length = one ∧ (nmT s t.1.length t.2.1 t.2.2).2 = t.2) : (rW t (ownR s)).1.length = t.1.length + (one + 14) ∧ (rW t (ownR s)).2 = t.2 := by
  have hd : daR t (ownR s) = (byB ((ownR s).b.take 4), (nmT (ownR s).name t.1.length t.2.1 t.2.2).2) := by unfold daR daT; rw [if_pos (show (ownR s).ty = 1 from rfl)]
  have h4 : (byB ((ownR s).b.take 4)).length = 4 := rfl
  unfold rW
  rw [hd]
  refine ⟨?_, h.2⟩
  simp only [List.length_append, numsR_len, h4]
  rw [show (ownR s).name = s from rfl, h.1]
  show t.1.length + one + 8 + 2 + 4 = _
  omega
theorem ownR_fold {s : ByteArray} {one : Nat} : ∀ (n : Nat) (t : Wst), (∀ l : List UInt8, (nmT s l.length t.2.1 t.2.2).1.length = one ∧ (nmT s l.length t.2.1 t.2.2).2 = t.2) → ((List.replicate n (ownR s)).foldl rW t).1.length = t.1.length + n * (one + 14)
  | 0, t, _ => by simp
  | n + 1, t, h => by
    have h1 := ownR_step (h t.1)
    rw [List.replicate_succ, List.foldl_cons, ownR_fold n (rW t (ownR s)) (by rw [h1.2]; exact h), h1.1, Nat.succ_mul]
    omega
/-- What is asked by a name, and answered by so many records of it. -/
def smallM (s : ByteArray) (n : Nat) : Msg := ansM (askM 1 s 1) (List.replicate n (ownR s))
theorem smallM_may {s : ByteArray} (hm : mayN s = true) (n : Nat) : mayM (smallM s n) = true := by
  have h1 : ((smallM s n).an.all mayR) = true := by
    rw [List.all_eq_true]
    intro r hr
    rw [(List.mem_replicate.1 hr).2]
    exact ownR_may hm
  have h2 : ((smallM s n).qs.all mayQ9) = true := by
    show ([(⟨s, 1, 1⟩ : Qu)].all mayQ9) = true
    simp only [List.all_cons, List.all_nil, mayQ9, hm]
    rfl
  unfold mayM
  rw [h1, h2]
  rfl
theorem smallM_len {s : ByteArray} (hm : mayN s = true) (n : Nat) : (wB (smallM s n)).length = 12 + (bytesL (labelsB s)).length + 4 + n * ((if s.size = 0 then 1 else 2) + 14) := by
  have h0 := small_first hm 12 (by decide)
  have e0 : (hdB (smallM s n)).length = 12 := rfl
  show ((List.replicate n (ownR s)).foldl rW (qW (hdB (smallM s n), [], []) ⟨s, 1, 1⟩)).1.length = _
  have e1 : (qW (hdB (smallM s n), [], []) ⟨s, 1, 1⟩).1.length = 12 + (bytesL (labelsB s)).length + 4 := by
    unfold qW
    simp only [List.length_append, e0, h0.1]
    rfl
  have e2 : (qW (hdB (smallM s n), [], []) ⟨s, 1, 1⟩).2 = (nmT s 12 [] []).2 := rfl
  by_cases hs : s.size = 0
  · rw [if_pos hs, ownR_fold (one := 1) n _ (fun l => small_none hs), e1]
  · rw [if_neg hs, ownR_fold (one := 2) n _ (fun l => by rw [e2]; exact small_next hm (by omega) (h0.2 (by omega))), e1]
end Go.Proofs.Yticdpidngmeebaa
/- A name made good may be. Plain facts. -/
namespace Go.Proofs.Yticdpidngmeebaa
open Go.RowKit
set_option linter.unusedVariables false
set_option maxRecDepth 20000

theorem goodTo_pos (l : List ByteArray) : ∀ k, ∀ p ∈ goodTo l k, 0 < p.size
  | 0 => by simp [goodTo]
  | k + 1 => by
    have h := goodTo_pos l k
    unfold goodTo
    split
    · exact h
    · split
      · exact h
      · intro p hp
        rcases List.mem_append.1 hp with hp | hp
        · exact h p hp
        · rw [List.mem_singleton.1 hp]; omega
theorem few_free {p : ByteArray} (h : NoDot p) (n : Nat) : NoDot (few p n) := by
  unfold few
  split
  · intro c hc
    rw [data_extract, List.drop_zero] at hc
    exact h c (List.mem_of_mem_take hc)
  · exact h
theorem goodTo_free {l : List ByteArray} (hl : ∀ p ∈ l, NoDot p) : ∀ k, ∀ p ∈ goodTo l k, NoDot p
  | 0 => by simp [goodTo]
  | k + 1 => by
    have h := goodTo_free hl k
    unfold goodTo
    split
    · exact h
    · split
      · exact h
      · intro p hp
        rcases List.mem_append.1 hp with hp | hp
        · exact h p hp
        · rw [List.mem_singleton.1 hp]
          refine few_free ?_ 12
          rw [List.getD_eq_getElem?_getD]
          cases hq : l[k]? with
          | none => intro c hc; exact absurd hc (by simp)
          | some q => exact hl q (List.mem_of_getElem? hq)
theorem good_may (s : ByteArray) : mayN (goodN s) = true := by
  have h1 := goodTo_pos (labelsB s) (labelsB s).length
  have h2 := goodTo_free (labels_free s) (labelsB s).length
  have h3 := goodTo_small (labelsB s) (labelsB s).length
  have e : labelsB (goodN s) = goodTo (labelsB s) (labelsB s).length := labels_join _ h1 h2
  refine may_of (Nat.le_trans (goodN_small s) (by decide)) (fun p hp => ?_)
  rw [e] at hp
  exact ⟨h1 p hp, Nat.le_trans (h3 p hp) (by decide)⟩
end Go.Proofs.Yticdpidngmeebaa
/- The digits of a number in a base, as the statement TextBases lays them, are read as the number; and the contract of the reference's Around. -/
namespace Go.Proofs.Yticdpidngmeebaa
open Go.RowKit
set_option linter.unusedVariables false
set_option maxRecDepth 20000

def hexd (d : Nat) : UInt8 := if d < 10 then UInt8.ofNat (48 + d) else UInt8.ofNat (87 + d)
theorem digC_hexd (d : Nat) (h : d < 16) : digC (hexd d).toNat = d := by
  unfold hexd
  by_cases h1 : d < 10
  · rw [if_pos h1, UInt8.toNat_ofNat', Nat.mod_eq_of_lt (by omega)]
    unfold digC
    rw [if_pos (by omega)]
    omega
  · rw [if_neg h1, UInt8.toNat_ofNat', Nat.mod_eq_of_lt (by omega)]
    unfold digC
    rw [if_neg (by omega), if_pos (by omega)]
    omega
/-- The sixteen digits. -/
def hexs : ByteArray := { data := #[48, 49, 50, 51, 52, 53, 54, 55, 56, 57, 97, 98, 99, 100, 101, 102] }
theorem hexs_at (d : Nat) (h : d < 16) : hexs.extract d (d + 1) = { data := #[hexd d] } := by
  have hd : d = 0 ∨ d = 1 ∨ d = 2 ∨ d = 3 ∨ d = 4 ∨ d = 5 ∨ d = 6 ∨ d = 7 ∨ d = 8 ∨ d = 9 ∨ d = 10 ∨ d = 11 ∨ d = 12 ∨ d = 13 ∨ d = 14 ∨ d = 15 := by omega
  rcases hd with rfl | rfl | rfl | rfl | rfl | rfl | rfl | rfl | rfl | rfl | rfl | rfl | rfl | rfl | rfl | rfl <;> decide
/-- The lowest i digits of n. -/
def dstr (n b : Nat) : Nat → ByteArray
  | 0 => { data := #[] }
  | i + 1 => hexs.extract (n / b ^ i % b) (n / b ^ i % b + 1) ++ dstr n b i
theorem dstr_list (n b : Nat) (hb0 : 0 < b) (hb : b ≤ 16) (i : Nat) : (dstr n b (i + 1)).data.toList = hexd (n / b ^ i % b) :: (dstr n b i).data.toList := by
  have := Nat.mod_lt (n / b ^ i) hb0
  rw [dstr, hexs_at _ (by omega), data_append]
  rfl
theorem dstr_size (n b : Nat) (hb0 : 0 < b) (hb : b ≤ 16) : ∀ i, (dstr n b i).size = i
  | 0 => rfl
  | i + 1 => by
    have h := congrArg List.length (dstr_list n b hb0 hb i)
    have ih := dstr_size n b hb0 hb i
    simp at h
    omega
theorem dstr_byte (n b : Nat) (hb0 : 0 < b) (hb : b ≤ 16) : ∀ i k, k < i → byteOf (dstr n b i) k = (hexd (n / b ^ (i - 1 - k) % b)).toNat
  | 0, k, h => by omega
  | i + 1, 0, h => by
    unfold byteOf
    rw [dstr_list n b hb0 hb i]
    simp
  | i + 1, k + 1, h => by
    have ih := dstr_byte n b hb0 hb i k (by omega)
    unfold byteOf at ih ⊢
    rw [dstr_list n b hb0 hb i, show i + 1 - 1 - (k + 1) = i - 1 - k by omega, ← ih]
    rfl
theorem dstr_numTo (n b : Nat) (hb0 : 2 ≤ b) (hb : b ≤ 16) (hn : n ≤ most) (hlt : n < b ^ 14) : ∀ k, k ≤ 14 → numTo (dstr n b 14) b k = some (n / b ^ (14 - k))
  | 0, _ => by rw [numTo, Nat.sub_zero, Nat.div_eq_of_lt hlt]
  | k + 1, h => by
    rw [numTo, dstr_numTo n b hb0 hb hn hlt k (by omega), dstr_byte n b (by omega) hb 14 k (by omega), show 14 - 1 - k = 13 - k by omega, show 14 - (k + 1) = 13 - k by omega]
    have hm : n / b ^ (13 - k) % b < b := Nat.mod_lt _ (by omega)
    rw [digC_hexd _ (by omega)]
    have e : n / b ^ (14 - k) * b + n / b ^ (13 - k) % b = n / b ^ (13 - k) := by
      rw [show 14 - k = (13 - k) + 1 by omega, Nat.pow_succ, ← Nat.div_div_eq_div_mul, Nat.mul_comm]
      exact Nat.div_add_mod _ _
    have hle : n / b ^ (13 - k) ≤ n := Nat.div_le_self _ _
    simp only [e]
    rw [if_neg (by omega), if_neg (by omega)]
theorem dstr_num (n b : Nat) (hb0 : 2 ≤ b) (hb : b ≤ 16) (hn : n ≤ most) (hlt : n < b ^ 14) : numB (dstr n b 14) b = some n := by
  unfold numB
  rw [dstr_size n b (by omega) hb, if_neg (by omega), dstr_numTo n b hb0 hb hn hlt 14 (Nat.le_refl _)]
  simp
theorem num_bad (s : ByteArray) (b j : Nat) (hj : j < s.size) (h : b ≤ digC (byteOf s j)) : numB s b = none := by
  apply numB_dead hj
  rw [numTo]
  cases numTo s b j with
  | none => rfl
  | some n => simp only [if_pos h]
theorem num_behind (s X : ByteArray) (b : Nat) (hb : b ≤ 16) (hX : X.data.toList = [103]) : numB (s ++ X) b = none := by
  apply num_bad _ _ s.size
  · rw [ByteArray.size_append]
    have : X.data.toList.length = 1 := by rw [hX]; rfl
    simp at this
    omega
  · have e : byteOf (s ++ X) s.size = 103 := by
      unfold byteOf
      rw [data_append, hX, List.getD_eq_getElem?_getD, List.getElem?_append_right (by simp)]
      simp
    rw [e]
    have : digC 103 = 16 := by decide
    omega
theorem num_ahead (s X : ByteArray) (b : Nat) (hb : b ≤ 16) (hX : X.data.toList = [45]) : numB (X ++ s) b = none := by
  apply num_bad _ _ 0
  · rw [ByteArray.size_append]
    have : X.data.toList.length = 1 := by rw [hX]; rfl
    simp at this
    omega
  · have e : byteOf (X ++ s) 0 = 45 := by
      unfold byteOf
      rw [data_append, hX]
      rfl
    rw [e]
    have : digC 45 = 16 := by decide
    omega

theorem numRet_some (n : Nat) : numRet (some n) = .tuple #[.int .i64 (n : Int), .bool true] := rfl
theorem numRet_none : numRet none = .tuple #[.int .i64 0, .bool false] := rfl

/-- A number, from 0 on, modulo q. -/
def aroundN (n : Int) (q : Nat) : Nat := (if n < 0 then -(n + 1) else n).toNat % q
theorem aroundN_lt (n : Int) (q : Nat) (h : 0 < q) : aroundN n q < q := Nat.mod_lt _ h

set_option maxHeartbeats 400000 in
theorem around_any (n : Int) (q : Nat) (w : World) (hn : (Lit.int .i64 n).wf = true) (hq : 0 < q) (hq2 : q ≤ 4611686018427387904) :
    Calls Try.prog 21 #[.int .i64 n, .int .i64 (q : Int)] w fun e w' => e = .returned (.int .i64 ((aroundN n q : Nat) : Int)) ∧ w = w' := by
  have hb := bounds_i64 hn
  by_cases h : n < 0
  · obtain ⟨m, hm⟩ : ∃ m : Nat, -(n + 1) = (m : Int) := ⟨(-(n + 1)).toNat, by omega⟩
    have e : aroundN n q = m % q := by unfold aroundN; rw [if_pos h, hm]; rfl
    rw [e]
    go_enter Try.func21, Try.ntmps21
    go_wp2
    go_ret
    exact ⟨by first | rfl | simp, rfl⟩
  · obtain ⟨m, rfl⟩ : ∃ m : Nat, n = (m : Int) := ⟨n.toNat, by omega⟩
    have e : aroundN m q = m % q := by unfold aroundN; rw [if_neg h]; rfl
    rw [e]
    go_enter Try.func21, Try.ntmps21
    go_wp2
    go_ret
    exact ⟨by first | rfl | simp, rfl⟩
end Go.Proofs.Yticdpidngmeebaa
