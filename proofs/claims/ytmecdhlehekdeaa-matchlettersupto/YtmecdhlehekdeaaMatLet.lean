/- Plain facts for MatchLetters and MatchOthers: names in great letters change nothing; records of other names change nothing. -/
import Derived.Test.YtmecdhlehekdeaaB6
namespace Go.Proofs.Ytmecdhlehekdeaa
open Go.RowKit
set_option linter.unusedVariables false
set_option maxRecDepth 20000

/-- A byte as a great letter. -/
def upU (c : UInt8) : UInt8 := if 97 ≤ c ∧ c ≤ 122 then c - 32 else c
theorem lowU_up (c : UInt8) : lowU (upU c) = lowU c := by
  unfold upU
  split
  · rename_i h
    have h1 : 97 ≤ c.toNat := h.1
    have h2 : c.toNat ≤ 122 := h.2
    have h3 : (c - 32).toNat = c.toNat - 32 := UInt8.toNat_sub_of_le c 32 (UInt8.le_iff_toNat_le.2 (by show 32 ≤ c.toNat; omega))
    apply UInt8.toNat_inj.1
    rw [lowU_toNat, lowU_toNat, h3]
    unfold lowC
    rw [if_pos (by omega), if_neg (by omega)]
    omega
  · rfl
def upB (s : ByteArray) : ByteArray := ⟨(s.data.toList.map upU).toArray⟩
theorem upB_list (s : ByteArray) : (upB s).data.toList = s.data.toList.map upU := by simp [upB]
theorem upB_size (s : ByteArray) : (upB s).size = s.size := by
  have : (upB s).data.toList.length = s.data.toList.length := by rw [upB_list]; simp
  simpa using this
theorem likeB_up (s x : ByteArray) : likeB (upB s) x = likeB s x := by
  rw [Bool.eq_iff_iff, likeB_iff, likeB_iff, upB_list, List.map_map]
  have : (lowU ∘ upU) = lowU := by funext c; exact lowU_up c
  rw [this]
def upR (r : Rec) : Rec := { r with name := upB r.name }
theorem isRec_up (nm : ByteArray) (kd : Int) (r : Rec) : isRec nm kd (upR r) = isRec nm kd r := by
  unfold isRec upR
  simp only [likeB_up]
theorem next_up (D : List Rec) (nm : ByteArray) : nextR (D.map upR) nm = (nextR D nm).map upR := by
  unfold nextR
  induction D with
  | nil => rfl
  | cons r D ih =>
    rw [List.map_cons, List.find?_cons, List.find?_cons, isRec_up]
    cases isRec nm 5 r with
    | true => rfl
    | false => exact ih
theorem chain_up (D : List Rec) : ∀ (n : Nat) (nm : ByteArray) (t : Int), chainP (D.map upR) n nm t = chainP D n nm t
  | 0, nm, t => by simp [chainP, next_up]
  | n + 1, nm, t => by
    cases h : nextR D nm with
    | none => rw [chain_none h, chain_none (by rw [next_up, h]; rfl)]
    | some r =>
      rw [chain_succ h, chain_succ (r := upR r) (by rw [next_up, h]; rfl)]
      show (nm :: (chainP (D.map upR) n r.tg (min t r.ttl)).1, (chainP (D.map upR) n r.tg (min t r.ttl)).2) = _
      rw [chain_up D n]
theorem filter_up (D : List Rec) (nm : ByteArray) (kd : Int) : (D.map upR).filter (isRec nm kd) = (D.filter (isRec nm kd)).map upR := by
  induction D with
  | nil => rfl
  | cons r D ih =>
    rw [List.map_cons]
    cases h : isRec nm kd r with
    | true => rw [List.filter_cons_of_pos (by rw [isRec_up]; exact h), List.filter_cons_of_pos h, ih]; rfl
    | false => rw [List.filter_cons_of_neg (by rw [isRec_up, h]; decide), List.filter_cons_of_neg (by rw [h]; decide), ih]
theorem tellAll_up (D : List Rec) : ∀ x : Int × List Ad, tellAll x (D.map upR) = tellAll x D := by
  induction D with
  | nil => intro x; rfl
  | cons r D ih => intro x; rw [List.map_cons, tell_cons, tell_cons]; exact ih _
theorem tellP_up (fl : Int) (nm : ByteArray) (kd : Int) (D : List Rec) : tellP fl nm kd (D.map upR) = tellP fl nm kd D := by
  unfold tellP
  simp only [chain_up, filter_up, tellAll_up]
/-- Records that are none of a chain's. -/
theorem isRec_far {nm : ByteArray} {kd : Int} {r : Rec} (h : nm.size < r.name.size) : isRec nm kd r = false := by
  unfold isRec
  rw [likeB_size (by omega)]
  simp
theorem next_far {A M B : List Rec} {nm : ByteArray} (h : ∀ r ∈ M, nm.size < r.name.size) : nextR (A ++ M ++ B) nm = nextR (A ++ B) nm := by
  unfold nextR
  have hM : M.find? (isRec nm 5) = none := List.find?_eq_none.2 (fun r hr => by rw [isRec_far (h r hr)]; decide)
  rw [List.find?_append, List.find?_append, List.find?_append, hM]
  simp
theorem chain_far {A M B : List Rec} : ∀ (n : Nat) {nm : ByteArray} {t : Int}, (∀ p ∈ (chainP (A ++ B) n nm t).1, ∀ r ∈ M, p.size < r.name.size) → chainP (A ++ M ++ B) n nm t = chainP (A ++ B) n nm t
  | 0, nm, t, h => by
    have := next_far (A := A) (B := B) (M := M) (nm := nm) (fun r hr => h nm (by simp [chainP]) r hr)
    show ([nm], t, (nextR (A ++ M ++ B) nm).isNone) = ([nm], t, (nextR (A ++ B) nm).isNone)
    rw [this]
  | n + 1, nm, t, h => by
    have hn := next_far (A := A) (B := B) (M := M) (nm := nm) (fun r hr => by
      obtain ⟨l, e, _⟩ := chain_pos (A ++ B) (n + 1) nm t
      exact h nm (by rw [e]; exact List.mem_cons_self) r hr)
    cases hx : nextR (A ++ B) nm with
    | none => rw [chain_none hx, chain_none (by rw [hn, hx])]
    | some r =>
      rw [chain_succ hx, chain_succ (r := r) (by rw [hn, hx])]
      rw [chain_far n (fun p hp => h p (by rw [chain_succ hx]; exact List.mem_cons_of_mem _ hp))]
theorem filter_far {A M B : List Rec} {nm : ByteArray} {kd : Int} (h : ∀ r ∈ M, nm.size < r.name.size) : (A ++ M ++ B).filter (isRec nm kd) = (A ++ B).filter (isRec nm kd) := by
  have hM : M.filter (isRec nm kd) = [] := List.filter_eq_nil_iff.2 (fun r hr => by rw [isRec_far (h r hr)]; decide)
  rw [List.filter_append, List.filter_append, List.filter_append, hM]
  simp
/-- A shorter chain's names are among a longer one's. -/
theorem chain_le (D : List Rec) : ∀ (n m : Nat) (nm : ByteArray) (t : Int), n ≤ m → ∀ p ∈ (chainP D n nm t).1, p ∈ (chainP D m nm t).1
  | 0, m, nm, t, _ => fun p hp => by
    obtain ⟨l, e, _⟩ := chain_pos D m nm t
    rw [e]
    simp [chainP] at hp
    rw [hp]; exact List.mem_cons_self
  | n + 1, 0, nm, t, h => by omega
  | n + 1, m + 1, nm, t, h => fun p hp => by
    cases hx : nextR D nm with
    | none => rw [chain_none hx] at hp ⊢; exact hp
    | some r =>
      rw [chain_succ hx] at hp ⊢
      rcases List.mem_cons.1 hp with rfl | hp
      · exact List.mem_cons_self
      · exact List.mem_cons_of_mem _ (chain_le D n m r.tg (min t r.ttl) (by omega) p hp)
theorem lastB_mem {l : List ByteArray} (h : l ≠ []) : lastB l ∈ l := by
  unfold lastB
  rw [List.getLastD_eq_getLast?, List.getLast?_eq_some_getLast h]
  exact List.getLast_mem h
theorem chain_ttlfree (D : List Rec) : ∀ (n : Nat) (nm : ByteArray) (t s : Int), (chainP D n nm t).1 = (chainP D n nm s).1
  | 0, nm, t, s => by simp [chainP]
  | n + 1, nm, t, s => by
    cases hx : nextR D nm with
    | none => rw [chain_none hx, chain_none hx]
    | some r => rw [chain_succ hx, chain_succ hx, chain_ttlfree D n r.tg (min t r.ttl) (min s r.ttl)]
/-- Records whose names are longer than all of the chain change nothing. -/
theorem tellP_far {A M B : List Rec} {fl : Int} {nm : ByteArray} {kd s : Int} {k : Nat} (hk : 8 ≤ k) (h : ∀ p ∈ (chainP (A ++ B) k nm s).1, ∀ r ∈ M, p.size < r.name.size) : tellP fl nm kd (A ++ M ++ B) = tellP fl nm kd (A ++ B) := by
  have h8 : ∀ p ∈ (chainP (A ++ B) 8 nm 604800).1, ∀ r ∈ M, p.size < r.name.size := fun p hp => h p (by
    rw [chain_ttlfree (A ++ B) k nm s 604800]; exact chain_le (A ++ B) 8 k nm 604800 hk p hp)
  obtain ⟨l, e, _⟩ := chain_pos (A ++ B) 8 nm 604800
  have hl := h8 _ (lastB_mem (l := (chainP (A ++ B) 8 nm 604800).1) (by rw [e]; simp))
  unfold tellP
  simp only [chain_far 8 h8, filter_far hl]
end Go.Proofs.Ytmecdhlehekdeaa
