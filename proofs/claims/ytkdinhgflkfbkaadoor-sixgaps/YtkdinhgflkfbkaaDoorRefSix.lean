/- Contracts of the reference's readers of layer 3: hex, gap, Groups. -/
import Derived.Test.YtkdinhgflkfbkaaDoorReads
import Derived.Test.YtkdinhgflkfbkaaDoorRefStrict
namespace Go.Proofs.YtkdinhgflkfbkaaDoor
open Go.RowKit
set_option linter.unusedVariables false

theorem optI_some {o : Option Nat} {v : Nat} (h : o = some v) : optI o = (v : Int) := by rw [h]; rfl
theorem optI_none {o : Option Nat} (h : o = none) : optI o = -1 := by rw [h]; rfl
/-- A group's number. -/
def hexG (p : ByteArray) : Option Nat := if 4 < p.size then none else numB p 16
theorem numTo_pow (s : ByteArray) : ∀ k n, numTo s 16 k = some n → n < 16 ^ k
  | 0, n, h => by simp [numTo] at h; omega
  | k + 1, n, h => by
    rw [numTo] at h
    cases hk : numTo s 16 k with
    | none => rw [hk] at h; cases h
    | some m =>
      have := numTo_pow s k m hk
      rw [hk] at h
      simp only at h
      split at h
      · cases h
      · split at h
        · cases h
        · have := Option.some.inj h
          rw [Nat.pow_succ]
          omega
theorem hexG_lt (p : ByteArray) (n : Nat) (h : hexG p = some n) : n < 65536 := by
  unfold hexG at h
  split at h
  · cases h
  · unfold numB at h
    split at h
    · cases h
    · exact Nat.lt_of_lt_of_le (numTo_pow p _ n h) (Nat.le_trans (Nat.pow_le_pow_right (by decide) (by omega : p.size ≤ 4)) (by decide))

set_option maxHeartbeats 1000000 in
theorem refHex_any (p : ByteArray) (w : World) (hs : p.size ≤ 1000000) :
    Calls Tryd.prog 41 #[.string p] w fun e w' => e = .returned (.int .i64 (optI (hexG p))) ∧ w = w' := by
  have HG : Hid (hexG p = if 4 < p.size then none else numB p 16) := Lib.hid rfl
  go_enter Tryd.func41, Tryd.ntmps41
  go_wp2_with fail
  refine (refNumber_16 p _ hs).mono ?_
  rintro e w' ⟨rfl, rfl⟩
  cases hq : numB p 16 with
  | none =>
    have HD : Hid (hexG p = none) := Lib.hid (by rw [HG.out, hq]; split <;> rfl)
    clear hq
    unfold numRet
    go_wp2_with fail
    go_ret
    exact ⟨int_ret (by rw [HD.out]; rfl), rfl⟩
  | some n =>
    by_cases h4 : 4 < p.size
    · have HD : Hid (hexG p = none) := Lib.hid (by rw [HG.out, if_pos h4])
      clear hq
      unfold numRet
      go_wp2_with fail
      go_ret
      exact ⟨int_ret (by rw [HD.out]; rfl), rfl⟩
    · have HD : Hid (hexG p = some n) := Lib.hid (by rw [HG.out, if_neg h4, hq])
      clear hq
      unfold numRet
      go_wp2_with fail
      go_ret
      exact ⟨int_ret (by rw [HD.out]; rfl), rfl⟩

/-- Where two colons stand first, among the first k places. -/
def gapTo (s : ByteArray) : Nat → Option Nat
  | 0 => none
  | k + 1 => match gapTo s k with
    | some i => some i
    | none => if byteOf s k = 58 ∧ byteOf s (k + 1) = 58 then some k else none
def gapB (s : ByteArray) : Option Nat := gapTo s (s.size - 1)
theorem gapTo_some (s : ByteArray) (k i : Nat) (h : gapTo s k = some i) : ∀ m, gapTo s (k + m) = some i
  | 0 => h
  | m + 1 => by rw [← Nat.add_assoc, gapTo, gapTo_some s k i h m]
theorem gapTo_found {s : ByteArray} {k n i : Nat} (hk : k ≤ n) (h : gapTo s k = some i) : gapTo s n = some i := by
  have := gapTo_some s k i h (n - k)
  rwa [show k + (n - k) = n by omega] at this
theorem gapTo_lt (s : ByteArray) : ∀ k i, gapTo s k = some i → i < k
  | 0, i, h => by cases h
  | k + 1, i, h => by
    rw [gapTo] at h
    cases hk : gapTo s k with
    | some j =>
      rw [hk] at h
      have := Option.some.inj h
      have := gapTo_lt s k j hk
      omega
    | none =>
      rw [hk] at h
      simp only at h
      split at h
      · have := Option.some.inj h; omega
      · cases h

set_option maxHeartbeats 1000000 in
theorem refGap_any (s : ByteArray) (w : World) (hs : s.size ≤ 1000000) :
    Calls Tryd.prog 26 #[.string s] w fun e w' => e = .returned (.int .i64 (optI (gapB s))) ∧ w = w' := by
  go_enter Tryd.func26, Tryd.ntmps26
  go_wp2
  go_loop [3] (fun i => ∃ k : Nat, k ≤ s.size ∧ i = .int .i64 k ∧ (k = 0 ∨ k + 1 ≤ s.size) ∧ Hid (gapTo s k = none)) (fun i => s.size - (intOf i).toNat)
  case atStart => exact ⟨0, Nat.zero_le _, rfl, .inl rfl, Lib.hid rfl⟩
  case round =>
    obtain ⟨k, hk, rfl, hk0, HK⟩ := hrel
    have HK0 := Lib.hid hk0
    clear hk0
    by_cases hlt : k + 1 < s.size
    · have hli : (k : Int) + 1 < (s.size : Int) := by omega
      have b0 := byteOf_eq s k (by omega)
      have b1 := byteOf_eq s (k + 1) hlt
      by_cases h0 : (s[k]).toNat = 58
      · by_cases h1 : (s[k + 1]).toNat = 58
        · have HD : Hid (gapB s = some k) := Lib.hid (by
            unfold gapB
            apply gapTo_found (k := k + 1) (by omega)
            rw [gapTo, HK.out, b0, b1]
            simp only [h0, h1, and_self, if_true])
          clear b0 b1
          go_wp2
          go_ret
          exact ⟨int_ret (by rw [HD.out]; rfl), rfl⟩
        · have HD : Hid (gapTo s (k + 1) = none) := Lib.hid (by
            rw [gapTo, HK.out, b0, b1]
            simp only [if_neg (show ¬ ((s[k]).toNat = 58 ∧ (s[k + 1]).toNat = 58) from fun h => h1 h.2)])
          have h1b : (((s[k + 1]).toNat : Int) == 58) = false := by simp; omega
          clear b0 b1
          go_wp2
          go_round
          case rel => exact ⟨k + 1, by omega, by go_num, .inr (by omega), HD⟩
          case measure => simp [intOf]; omega
      · have HD : Hid (gapTo s (k + 1) = none) := Lib.hid (by
          rw [gapTo, HK.out, b0, b1]
          simp only [if_neg (show ¬ ((s[k]).toNat = 58 ∧ (s[k + 1]).toNat = 58) from fun h => h0 h.1)])
        have h1b : (((s[k]).toNat : Int) == 58) = false := by simp; omega
        clear b0 b1
        go_wp2
        go_round
        case rel => exact ⟨k + 1, by omega, by go_num, .inr (by omega), HD⟩
        case measure => simp [intOf]; omega
    · have hli : ¬ (k : Int) + 1 < (s.size : Int) := by omega
      have HD : Hid (gapB s = none) := Lib.hid (by
        unfold gapB
        rw [show s.size - 1 = k by have := HK0.out; omega]
        exact HK.out)
      go_wp2
      go_ret
      exact ⟨int_ret (by rw [HD.out]; rfl), rfl⟩

/-- A row of one's own, over a lower base. -/
theorem own_lower {w : World} {B B' : Nat} {t : TypeId} {z : Nat} {v : Value} {n : Nat} {xs : List Value} (h : w.ownsRow B t z v n xs) (hB : B' ≤ B) : w.ownsRow B' t z v n xs := by
  obtain ⟨h1, h2⟩ := h
  refine ⟨h1, ?_⟩
  rcases h2 with h2 | ⟨g, cap, cur, e, hb, rest⟩
  · exact .inl h2
  · exact .inr ⟨g, cap, cur, e, by omega, rest⟩
/-- A row of one's own, behind a call that turned nothing of what was there. -/
theorem own_below {w w' : World} {B : Nat} {t : TypeId} {z : Nat} {v : Value} {n : Nat} {xs : List Value} (h : w.ownsRow B t z v n xs) (hb : Below w.heap.size w w') : w'.ownsRow B t z v n xs := by
  obtain ⟨h1, h2⟩ := h
  refine ⟨h1, ?_⟩
  rcases h2 with h2 | ⟨g, cap, cur, e, hB, hg, rest⟩
  · exact .inl h2
  · refine .inr ⟨g, cap, cur, e, hB, ?_, rest⟩
    rw [hb.block g (by
      rcases Nat.lt_or_ge g w.heap.size with h | h
      · exact h
      · rw [Array.getElem?_eq_none h] at hg; cases hg)]
    exact hg
theorem cells_new (w : World) (l : List Value) (t : TypeId) : ∀ j u, l[j]? = some u → (w.alloc (.cells l.toArray t)).cell? ((⟨w.heap.size, 0, none⟩ : Addr).add j) = some u := by
  intro j u h
  rw [add_none]
  simp [World.cell?_alloc_new, h]
/-- Numbers, as cells. -/
def ints (l : List Nat) : List Value := l.map fun n => Value.int .i64 ((n : Nat) : Int)
theorem ints_length (l : List Nat) : (ints l).length = l.length := by simp [ints]
theorem ints_append (l m : List Nat) : ints (l ++ m) = ints l ++ ints m := by simp [ints]
theorem Tryd.infoInt : (Tryd.prog.info? 3).map (fun i => (i.zero, i.size, i.bytes)) = some (some (.int .i64 0), 1, 8) := by kernel_rfl
/-- More numbers behind a row of numbers of one's own. -/
theorem own_ints {w0 wr w1 : World} {v v' : Value} {l m : List Nat} {o : Obj} (hown' : w1.ownsRow w0.heap.size 3 1 v' (l.length + m.length) (ints l ++ ints m))
    (hg : (wr.alloc o).grownBy w1 v.ownBlock) (hown : wr.ownsRow w0.heap.size 3 1 v l.length (ints l)) (hb : Below w0.heap.size w0 wr) :
    w1.ownsRow w0.heap.size 3 1 v' (l ++ m).length (ints (l ++ m)) ∧ Below w0.heap.size w0 w1 := by
  refine ⟨by rw [ints_append]; simpa using hown', ?_⟩
  refine (hb.alloc hb.size o).grown hg (by have := hb.size; simp; omega) ?_
  intro k hk
  exact (hown.lt k hk).1

/-- The groups of the first k pieces. -/
def grTo (l : List ByteArray) (dot : Bool) : Nat → Option (List Nat)
  | 0 => some []
  | k + 1 => match grTo l dot k with
    | none => none
    | some out => match hexG (l.getD k ⟨#[]⟩) with
      | some v => some (out ++ [v])
      | none => match strictB (l.getD k ⟨#[]⟩) with
        | none => none
        | some v => if dot = true ∧ ¬ k + 1 < l.length then some (out ++ [v / 65536, v % 65536]) else none
def groupsB (s : ByteArray) (dot : Bool) : Option (List Nat) := if s.size = 0 then some [] else grTo (pieces s 58) dot (pieces s 58).length
theorem grTo_none (l : List ByteArray) (dot : Bool) (k : Nat) (h : grTo l dot k = none) : ∀ m, grTo l dot (k + m) = none
  | 0 => h
  | m + 1 => by rw [← Nat.add_assoc, grTo, grTo_none l dot k h m]
theorem grTo_dead {l : List ByteArray} {dot : Bool} {k n : Nat} (hk : k ≤ n) (h : grTo l dot k = none) : grTo l dot n = none := by
  have := grTo_none l dot k h (n - k)
  rwa [show k + (n - k) = n by omega] at this
theorem grTo_hex {l : List ByteArray} {dot : Bool} {k v : Nat} {out : List Nat} (h : grTo l dot k = some out) (hv : hexG (l.getD k ⟨#[]⟩) = some v) : grTo l dot (k + 1) = some (out ++ [v]) := by
  rw [grTo, h]; simp only [hv]
theorem grTo_strict {l : List ByteArray} {dot : Bool} {k v : Nat} {out : List Nat} (h : grTo l dot k = some out) (hx : hexG (l.getD k ⟨#[]⟩) = none) (hv : strictB (l.getD k ⟨#[]⟩) = some v) :
    grTo l dot (k + 1) = if dot = true ∧ ¬ k + 1 < l.length then some (out ++ [v / 65536, v % 65536]) else none := by
  rw [grTo, h]; simp only [hx, hv]
theorem grTo_stop {l : List ByteArray} {dot : Bool} {k : Nat} {out : List Nat} (h : grTo l dot k = some out) (hx : hexG (l.getD k ⟨#[]⟩) = none) (hv : strictB (l.getD k ⟨#[]⟩) = none) : grTo l dot (k + 1) = none := by
  rw [grTo, h]; simp only [hx, hv]
theorem grTo_lt (l : List ByteArray) (dot : Bool) : ∀ k out, grTo l dot k = some out → ∀ x ∈ out, x < 65536
  | 0, out, h => by
    have := Option.some.inj h
    subst this
    simp
  | k + 1, out, h => by
    cases hk : grTo l dot k with
    | none => rw [grTo, hk] at h; cases h
    | some o =>
      have ih := grTo_lt l dot k o hk
      cases hx : hexG (l.getD k ⟨#[]⟩) with
      | some v =>
        rw [grTo_hex hk hx] at h
        have := Option.some.inj h
        subst this
        intro x hm
        rcases List.mem_append.1 hm with hm | hm
        · exact ih x hm
        · rw [List.mem_singleton] at hm; rw [hm]; exact hexG_lt _ _ hx
      | none =>
        cases hv : strictB (l.getD k ⟨#[]⟩) with
        | none => rw [grTo_stop hk hx hv] at h; cases h
        | some v =>
          rw [grTo_strict hk hx hv] at h
          have hvl := strictB_lt _ _ hv
          split at h
          · have := Option.some.inj h
            subst this
            intro x hm
            rcases List.mem_append.1 hm with hm | hm
            · exact ih x hm
            · simp at hm
              omega
          · cases h
theorem groupsB_lt (s : ByteArray) (dot : Bool) (out : List Nat) (h : groupsB s dot = some out) : ∀ x ∈ out, x < 65536 := by
  unfold groupsB at h
  split at h
  · have := Option.some.inj h
    subst this
    simp
  · exact grTo_lt _ _ _ _ h
/-- What Groups hands back: a row of its own. -/
def GrRet (w : World) (o : Option (List Nat)) (e : Ending) (w' : World) : Prop :=
  ∃ v, e = .returned (.tuple #[v, .bool o.isSome]) ∧ w'.ownsRow w.heap.size 3 1 v (o.getD []).length (ints (o.getD [])) ∧ Below w.heap.size w w'
theorem gr_none {w w' : World} {o : Option (List Nat)} (h : o = none) (hb : Below w.heap.size w w') : GrRet w o (.returned (.tuple #[.slice none 0 0, .bool false])) w' := by
  subst h
  exact ⟨_, rfl, World.ownsRow_nil _ _ _ _, hb⟩
theorem gr_some {w w' : World} {o : Option (List Nat)} {l : List Nat} {v : Value} (h : o = some l) (ho : w'.ownsRow w.heap.size 3 1 v l.length (ints l)) (hb : Below w.heap.size w w') : GrRet w o (.returned (.tuple #[v, .bool true])) w' := by
  subst h
  exact ⟨_, rfl, ho, hb⟩

set_option maxRecDepth 100000 in
set_option maxHeartbeats 4000000 in
theorem refGroups_any (s : ByteArray) (dot : Bool) (w : World) (hs : s.size ≤ 100000) :
    Calls Tryd.prog 27 #[.string s, .bool dot] w (GrRet w (groupsB s dot)) := by
  by_cases h0 : s.size = 0
  · have HD : Hid (groupsB s dot = some []) := Lib.hid (by unfold groupsB; rw [if_pos h0])
    have he := isEmpty_true s h0
    go_enter Tryd.func27, Tryd.ntmps27
    go_wp2_with fail
    go_ret2
    exact gr_some HD.out (World.ownsRow_nil _ _ _ _) (Below.refl _ _)
  · have HG : Hid (groupsB s dot = grTo (pieces s 58) dot (pieces s 58).length) := Lib.hid (by unfold groupsB; rw [if_neg h0])
    have he := isEmpty_false s (by omega)
    have hpl := pieces_len s 58
    have HSM : Hid (∀ k, ((pieces s 58).getD k ⟨#[]⟩).size ≤ 1000000) := Lib.hid (fun k => Nat.le_trans (getD_small (pieces_small s 58) k) (by omega))
    obtain ⟨i0, hi0, hz0, hz1, hz2⟩ := info_parts Tryd.infoInt
    go_enter Tryd.func27, Tryd.ntmps27
    go_wp2_with fail
    refine (refSplit_row s 58 _ (by omega)).mono ?_
    rintro e w1 ⟨g, c, rfl, hg, hr, hb⟩
    have hc1 := hr.cap
    have hc2 := hr.capm
    unfold maxLen at hc2
    have HR := Lib.hid hr
    clear hr
    generalize hL : pieces s 58 = l at *
    clear hL
    obtain ⟨n, hn⟩ : ∃ n, l.length = n := ⟨_, rfl⟩
    rw [hn] at HG HR hpl hc1
    rw [hn]
    have HN := Lib.hid hn
    clear hn
    go_wp2_with fail
    go_loopw [6, 8] (fun v i wr => ∃ (k : Nat) (out : List Nat), k ≤ n ∧ i = .int .i64 k ∧ out.length ≤ 2 * k ∧ wr.ownsRow w1.heap.size 3 1 v out.length (ints out) ∧ Hid (grTo l dot k = some out) ∧ Below w1.heap.size w1 wr) (fun _ i _ => n - (intOf i).toNat)
    case atStart => exact ⟨0, [], Nat.zero_le _, rfl, by simp, World.ownsRow_nil _ _ _ _, Lib.hid rfl, Below.refl _ _⟩
    case round =>
      obtain ⟨k, out, hk, rfl, hol, hown, HK, hbel⟩ := hrel
      by_cases hlt : k < n
      · have hcell := (HR.out.below hbel).cells k hlt
        have hsm := HSM.out k
        obtain ⟨p, hp⟩ : ∃ p, l.getD k ⟨#[]⟩ = p := ⟨_, rfl⟩
        rw [hp] at hcell hsm
        have HP := Lib.hid hp
        clear hp
        cases hx : hexG p with
        | some x =>
          have hxl := hexG_lt _ _ hx
          have HX := Lib.hid (optI_some hx)
          have HT := Lib.hid (grTo_hex HK.out (by rw [HP.out]; exact hx))
          clear hx
          go_wp2_with fail
          refine (refHex_any p _ hsm).mono ?_
          rintro e w2 ⟨rfl, rfl⟩
          rw [HX.out]
          go_wp2_with (at_builtin; refine wpList_append_own _ rfl (.tmp 30) (.tmp 32) 51 rfl w1.heap.size 3 i0 _ 1 8 Tryd.underlying51 hi0 hz0 hz1 hz2 rfl (by decide) _ _ _ rfl (hown.alloc _) ⟨wr.heap.size, 0, none⟩ 1 1 [.int .i64 (x : Int)] rfl rfl ?c1 ?c2 ?c3 ?c4 ?c5 ?_)
          case c1 => exact cell_one_new _ _ _
          case c2 => intro u hu; simp at hu; subst hu; rfl
          case c3 => unfold maxLen; omega
          case c4 => have := hbel.size; omega
          case c5 => have := hbel.size; simp; omega
          intro v' w3 hown' hgrow _
          have R := own_ints (m := [x]) hown' hgrow hown hbel
          clear hown' hgrow hown hbel
          go_wp2_with fail
          go_roundw
          case rel => exact ⟨k + 1, out ++ [x], by omega, by go_num, by simp; omega, R.1, HT, R.2⟩
          case measure => simp [intOf]; omega
        | none =>
          have HX := Lib.hid (optI_none hx)
          have HXN := Lib.hid hx
          clear hx
          go_wp2_with fail
          refine (refHex_any p _ hsm).mono ?_
          rintro e w2 ⟨rfl, rfl⟩
          rw [HX.out]
          go_wp2_with fail
          refine (refStrict_any p _ hsm).mono ?_
          rintro e w2 ⟨rfl, hb2⟩
          cases hv : strictB p with
          | none =>
            have HD := Lib.hid (grTo_stop HK.out (by rw [HP.out]; exact HXN.out) (by rw [HP.out]; exact hv))
            clear hv
            unfold strictRet
            go_wp2_with fail
            go_ret2
            exact gr_none (by rw [HG.out]; exact grTo_dead (k := k + 1) hlt HD.out) (chain hb (chain hbel hb2))
          | some x =>
            have hxl : x ≤ 4294967295 := by have := strictB_lt _ _ hv; omega
            have HD := Lib.hid (grTo_strict HK.out (by rw [HP.out]; exact HXN.out) (by rw [HP.out]; exact hv))
            clear hv
            unfold strictRet
            cases dot with
            | false =>
              have HD2 : Hid (grTo l false (k + 1) = none) := Lib.hid (by rw [HD.out, if_neg (by simp)])
              go_wp2_with fail
              go_ret2
              exact gr_none (by rw [HG.out]; exact grTo_dead (k := k + 1) hlt HD2.out) (chain hb (chain hbel hb2))
            | true =>
              by_cases hlast : k + 1 < n
              · have HD2 : Hid (grTo l true (k + 1) = none) := Lib.hid (by rw [HD.out, if_neg (by rw [HN.out]; intro h; exact h.2 hlast)])
                have hli : (k : Int) + 1 < (n : Int) := by omega
                go_wp2_with fail
                go_ret2
                exact gr_none (by rw [HG.out]; exact grTo_dead (k := k + 1) hlt HD2.out) (chain hb (chain hbel hb2))
              · have HT : Hid (grTo l true (k + 1) = some (out ++ [x / 65536, x % 65536])) := Lib.hid (by rw [HD.out, if_pos ⟨rfl, by rw [HN.out]; exact hlast⟩])
                have hli : ¬ (k : Int) + 1 < (n : Int) := by omega
                obtain ⟨y, hy, ey⟩ : ∃ y : Nat, x / 65536 = y ∧ (x : Int) / 65536 = (y : Int) := ⟨_, rfl, by omega⟩
                obtain ⟨z, hz, ez⟩ : ∃ z : Nat, x % 65536 = z ∧ (x : Int) % 65536 = (z : Int) := ⟨_, rfl, by omega⟩
                rw [hy, hz] at HT
                have hown2 := own_below hown hb2
                have hbel2 := chain hbel hb2
                clear hy hz hown
                go_wp2_with (at_builtin; refine wpList_append_own _ rfl (.tmp 55) (.tmp 62) 51 rfl w1.heap.size 3 i0 _ 1 8 Tryd.underlying51 hi0 hz0 hz1 hz2 rfl (by decide) _ _ _ rfl (hown2.alloc _) ⟨w2.heap.size, 0, none⟩ 2 2 [.int .i64 (y : Int), .int .i64 (z : Int)] rfl rfl ?c1 ?c2 ?c3 ?c4 ?c5 ?_)
                case c1 => exact cells_new _ [_, _] _
                case c2 => intro u hu; simp at hu; rcases hu with rfl | rfl <;> rfl
                case c3 => unfold maxLen; omega
                case c4 => have := hbel2.size; omega
                case c5 => have := hbel2.size; simp; omega
                intro v' w3 hown' hgrow _
                have R := own_ints (m := [y, z]) hown' hgrow hown2 hbel2
                clear hown' hgrow hown2 hbel2
                go_wp2_with fail
                go_roundw
                case rel => exact ⟨k + 1, out ++ [y, z], by omega, by go_num, by simp; omega, R.1, HT, R.2⟩
                case measure => simp [intOf]; omega
      · obtain rfl : k = n := by omega
        go_wp2_with fail
        go_ret2
        exact gr_some (by rw [HG.out]; exact HK.out) (own_lower hown hb.size) (chain hb hbel)
end Go.Proofs.YtkdinhgflkfbkaaDoor
