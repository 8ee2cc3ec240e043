/- Texts that belong together, one behind the other: RefSix, RefSixParse, Bytes16, AddrHeld, Cuts, Parts, Loose, DecParts, RefPrints, RefAddr. -/
import Derived.Test.YtickghbjhiegnaaDoorB1
import Derived.RegionTactic
import Derived.BigRegion
/- Contracts of the reference's readers of layer 3: hex, gap, Groups. -/
namespace Go.Proofs.YtickghbjhiegnaaDoor
open Go.RowKit
set_option linter.unusedVariables false
set_option maxRecDepth 20000

theorem optI_some {o : Option Nat} {v : Nat} (h : o = some v) : optI o = (v : Int) := by rw [h]; rfl
theorem optI_none {o : Option Nat} (h : o = none) : optI o = -1 := by rw [h]; rfl
/-- A group's number. -/
def hexG (p : ByteArray) : Option Nat := if 4 < p.size then none else numB p 16
theorem numTo_pow (s : ByteArray) : ∀ k n, numTo s 16 k = some n → n < 16 ^ k
  | 0, n, h => by simp [numTo] at h; omega
  | k + 1, n, h => by
    rw [numTo] at h
    cases hk : numTo s 16 k with
    | none => rw [hk] at h; cases h
    | some m =>
      have := numTo_pow s k m hk
      rw [hk] at h
      simp only at h
      split at h
      · cases h
      · split at h
        · cases h
        · have := Option.some.inj h
          rw [Nat.pow_succ]
          omega
theorem hexG_lt (p : ByteArray) (n : Nat) (h : hexG p = some n) : n < 65536 := by
  unfold hexG at h
  split at h
  · cases h
  · unfold numB at h
    split at h
    · cases h
    · exact Nat.lt_of_lt_of_le (numTo_pow p _ n h) (Nat.le_trans (Nat.pow_le_pow_right (by decide) (by omega : p.size ≤ 4)) (by decide))

set_option maxHeartbeats 1000000 in
theorem refHex_any (p : ByteArray) (w : World) (hs : p.size ≤ 1000000) :
    Calls Tryd.prog 75 #[.string p] w fun e w' => e = .returned (.int .i64 (optI (hexG p))) ∧ w = w' := by
  have HG : Hid (hexG p = if 4 < p.size then none else numB p 16) := Lib.hid rfl
  go_enter Tryd.func75, Tryd.ntmps75
  go_wp2_with fail
  refine (refNumber_16 p _ hs).mono ?_
  rintro e w' ⟨rfl, rfl⟩
  cases hq : numB p 16 with
  | none =>
    have HD : Hid (hexG p = none) := Lib.hid (by rw [HG.out, hq]; split <;> rfl)
    clear hq
    unfold numRet
    go_wp2_with fail
    go_ret
    exact ⟨int_ret (by rw [HD.out]; rfl), rfl⟩
  | some n =>
    by_cases h4 : 4 < p.size
    · have HD : Hid (hexG p = none) := Lib.hid (by rw [HG.out, if_pos h4])
      clear hq
      unfold numRet
      go_wp2_with fail
      go_ret
      exact ⟨int_ret (by rw [HD.out]; rfl), rfl⟩
    · have HD : Hid (hexG p = some n) := Lib.hid (by rw [HG.out, if_neg h4, hq])
      clear hq
      unfold numRet
      go_wp2_with fail
      go_ret
      exact ⟨int_ret (by rw [HD.out]; rfl), rfl⟩

/-- Where two colons stand first, among the first k places. -/
def gapTo (s : ByteArray) : Nat → Option Nat
  | 0 => none
  | k + 1 => match gapTo s k with
    | some i => some i
    | none => if byteOf s k = 58 ∧ byteOf s (k + 1) = 58 then some k else none
def gapB (s : ByteArray) : Option Nat := gapTo s (s.size - 1)
theorem gapTo_some (s : ByteArray) (k i : Nat) (h : gapTo s k = some i) : ∀ m, gapTo s (k + m) = some i
  | 0 => h
  | m + 1 => by rw [← Nat.add_assoc, gapTo, gapTo_some s k i h m]
theorem gapTo_found {s : ByteArray} {k n i : Nat} (hk : k ≤ n) (h : gapTo s k = some i) : gapTo s n = some i := by
  have := gapTo_some s k i h (n - k)
  rwa [show k + (n - k) = n by omega] at this
theorem gapTo_lt (s : ByteArray) : ∀ k i, gapTo s k = some i → i < k
  | 0, i, h => by cases h
  | k + 1, i, h => by
    rw [gapTo] at h
    cases hk : gapTo s k with
    | some j =>
      rw [hk] at h
      have := Option.some.inj h
      have := gapTo_lt s k j hk
      omega
    | none =>
      rw [hk] at h
      simp only at h
      split at h
      · have := Option.some.inj h; omega
      · cases h

set_option maxHeartbeats 1000000 in
theorem refGap_any (s : ByteArray) (w : World) (hs : s.size ≤ 1000000) :
    Calls Tryd.prog 58 #[.string s] w fun e w' => e = .returned (.int .i64 (optI (gapB s))) ∧ w = w' := by
  go_enter Tryd.func58, Tryd.ntmps58
  go_wp2
  go_loop [3] (fun i => ∃ k : Nat, k ≤ s.size ∧ i = .int .i64 k ∧ (k = 0 ∨ k + 1 ≤ s.size) ∧ Hid (gapTo s k = none)) (fun i => s.size - (intOf i).toNat)
  case atStart => exact ⟨0, Nat.zero_le _, rfl, .inl rfl, Lib.hid rfl⟩
  case round =>
    obtain ⟨k, hk, rfl, hk0, HK⟩ := hrel
    have HK0 := Lib.hid hk0
    clear hk0
    by_cases hlt : k + 1 < s.size
    · have hli : (k : Int) + 1 < (s.size : Int) := by omega
      have b0 := byteOf_eq s k (by omega)
      have b1 := byteOf_eq s (k + 1) hlt
      by_cases h0 : (s[k]).toNat = 58
      · by_cases h1 : (s[k + 1]).toNat = 58
        · have HD : Hid (gapB s = some k) := Lib.hid (by
            unfold gapB
            apply gapTo_found (k := k + 1) (by omega)
            rw [gapTo, HK.out, b0, b1]
            simp only [h0, h1, and_self, if_true])
          clear b0 b1
          go_wp2
          go_ret
          exact ⟨int_ret (by rw [HD.out]; rfl), rfl⟩
        · have HD : Hid (gapTo s (k + 1) = none) := Lib.hid (by
            rw [gapTo, HK.out, b0, b1]
            simp only [if_neg (show ¬ ((s[k]).toNat = 58 ∧ (s[k + 1]).toNat = 58) from fun h => h1 h.2)])
          have h1b : (((s[k + 1]).toNat : Int) == 58) = false := by simp; omega
          clear b0 b1
          go_wp2
          go_round
          case rel => exact ⟨k + 1, by omega, by go_num, .inr (by omega), HD⟩
          case measure => simp [intOf]; omega
      · have HD : Hid (gapTo s (k + 1) = none) := Lib.hid (by
          rw [gapTo, HK.out, b0, b1]
          simp only [if_neg (show ¬ ((s[k]).toNat = 58 ∧ (s[k + 1]).toNat = 58) from fun h => h0 h.1)])
        have h1b : (((s[k]).toNat : Int) == 58) = false := by simp; omega
        clear b0 b1
        go_wp2
        go_round
        case rel => exact ⟨k + 1, by omega, by go_num, .inr (by omega), HD⟩
        case measure => simp [intOf]; omega
    · have hli : ¬ (k : Int) + 1 < (s.size : Int) := by omega
      have HD : Hid (gapB s = none) := Lib.hid (by
        unfold gapB
        rw [show s.size - 1 = k by have := HK0.out; omega]
        exact HK.out)
      go_wp2
      go_ret
      exact ⟨int_ret (by rw [HD.out]; rfl), rfl⟩

/-- A row of one's own, over a lower base. -/
theorem own_lower {w : World} {B B' : Nat} {t : TypeId} {z : Nat} {v : Value} {n : Nat} {xs : List Value} (h : w.ownsRow B t z v n xs) (hB : B' ≤ B) : w.ownsRow B' t z v n xs := by
  obtain ⟨h1, h2⟩ := h
  refine ⟨h1, ?_⟩
  rcases h2 with h2 | ⟨g, cap, cur, e, hb, rest⟩
  · exact .inl h2
  · exact .inr ⟨g, cap, cur, e, by omega, rest⟩
/-- A row of one's own, behind a call that turned nothing of what was there. -/
theorem own_below {w w' : World} {B : Nat} {t : TypeId} {z : Nat} {v : Value} {n : Nat} {xs : List Value} (h : w.ownsRow B t z v n xs) (hb : Below w.heap.size w w') : w'.ownsRow B t z v n xs := by
  obtain ⟨h1, h2⟩ := h
  refine ⟨h1, ?_⟩
  rcases h2 with h2 | ⟨g, cap, cur, e, hB, hg, rest⟩
  · exact .inl h2
  · refine .inr ⟨g, cap, cur, e, hB, ?_, rest⟩
    rw [hb.block g (by
      rcases Nat.lt_or_ge g w.heap.size with h | h
      · exact h
      · rw [Array.getElem?_eq_none h] at hg; cases hg)]
    exact hg
theorem cells_new (w : World) (l : List Value) (t : TypeId) : ∀ j u, l[j]? = some u → (w.alloc (.cells l.toArray t)).cell? ((⟨w.heap.size, 0, none⟩ : Addr).add j) = some u := by
  intro j u h
  rw [add_none]
  simp [World.cell?_alloc_new, h]
/-- Numbers, as cells. -/
def ints (l : List Nat) : List Value := l.map fun n => Value.int .i64 ((n : Nat) : Int)
theorem ints_length (l : List Nat) : (ints l).length = l.length := by simp [ints]
theorem ints_append (l m : List Nat) : ints (l ++ m) = ints l ++ ints m := by simp [ints]
theorem Tryd.infoInt : (Tryd.prog.info? 3).map (fun i => (i.zero, i.size, i.bytes)) = some (some (.int .i64 0), 1, 8) := by kernel_rfl
/-- More numbers behind a row of numbers of one's own. -/
theorem own_ints {w0 wr w1 : World} {v v' : Value} {l m : List Nat} {o : Obj} (hown' : w1.ownsRow w0.heap.size 3 1 v' (l.length + m.length) (ints l ++ ints m))
    (hg : (wr.alloc o).grownBy w1 v.ownBlock) (hown : wr.ownsRow w0.heap.size 3 1 v l.length (ints l)) (hb : Below w0.heap.size w0 wr) :
    w1.ownsRow w0.heap.size 3 1 v' (l ++ m).length (ints (l ++ m)) ∧ Below w0.heap.size w0 w1 := by
  refine ⟨by rw [ints_append]; simpa using hown', ?_⟩
  refine (hb.alloc hb.size o).grown hg (by have := hb.size; simp; omega) ?_
  intro k hk
  exact (hown.lt k hk).1

/-- The groups of the first k pieces. -/
def grTo (l : List ByteArray) (dot : Bool) : Nat → Option (List Nat)
  | 0 => some []
  | k + 1 => match grTo l dot k with
    | none => none
    | some out => match hexG (l.getD k ⟨#[]⟩) with
      | some v => some (out ++ [v])
      | none => match strictB (l.getD k ⟨#[]⟩) with
        | none => none
        | some v => if dot = true ∧ ¬ k + 1 < l.length then some (out ++ [v / 65536, v % 65536]) else none
def groupsB (s : ByteArray) (dot : Bool) : Option (List Nat) := if s.size = 0 then some [] else grTo (pieces s 58) dot (pieces s 58).length
theorem grTo_none (l : List ByteArray) (dot : Bool) (k : Nat) (h : grTo l dot k = none) : ∀ m, grTo l dot (k + m) = none
  | 0 => h
  | m + 1 => by rw [← Nat.add_assoc, grTo, grTo_none l dot k h m]
theorem grTo_dead {l : List ByteArray} {dot : Bool} {k n : Nat} (hk : k ≤ n) (h : grTo l dot k = none) : grTo l dot n = none := by
  have := grTo_none l dot k h (n - k)
  rwa [show k + (n - k) = n by omega] at this
theorem grTo_hex {l : List ByteArray} {dot : Bool} {k v : Nat} {out : List Nat} (h : grTo l dot k = some out) (hv : hexG (l.getD k ⟨#[]⟩) = some v) : grTo l dot (k + 1) = some (out ++ [v]) := by
  rw [grTo, h]; simp only [hv]
theorem grTo_strict {l : List ByteArray} {dot : Bool} {k v : Nat} {out : List Nat} (h : grTo l dot k = some out) (hx : hexG (l.getD k ⟨#[]⟩) = none) (hv : strictB (l.getD k ⟨#[]⟩) = some v) :
    grTo l dot (k + 1) = if dot = true ∧ ¬ k + 1 < l.length then some (out ++ [v / 65536, v % 65536]) else none := by
  rw [grTo, h]; simp only [hx, hv]
theorem grTo_stop {l : List ByteArray} {dot : Bool} {k : Nat} {out : List Nat} (h : grTo l dot k = some out) (hx : hexG (l.getD k ⟨#[]⟩) = none) (hv : strictB (l.getD k ⟨#[]⟩) = none) : grTo l dot (k + 1) = none := by
  rw [grTo, h]; simp only [hx, hv]
theorem grTo_lt (l : List ByteArray) (dot : Bool) : ∀ k out, grTo l dot k = some out → ∀ x ∈ out, x < 65536
  | 0, out, h => by
    have := Option.some.inj h
    subst this
    simp
  | k + 1, out, h => by
    cases hk : grTo l dot k with
    | none => rw [grTo, hk] at h; cases h
    | some o =>
      have ih := grTo_lt l dot k o hk
      cases hx : hexG (l.getD k ⟨#[]⟩) with
      | some v =>
        rw [grTo_hex hk hx] at h
        have := Option.some.inj h
        subst this
        intro x hm
        rcases List.mem_append.1 hm with hm | hm
        · exact ih x hm
        · rw [List.mem_singleton] at hm; rw [hm]; exact hexG_lt _ _ hx
      | none =>
        cases hv : strictB (l.getD k ⟨#[]⟩) with
        | none => rw [grTo_stop hk hx hv] at h; cases h
        | some v =>
          rw [grTo_strict hk hx hv] at h
          have hvl := strictB_lt _ _ hv
          split at h
          · have := Option.some.inj h
            subst this
            intro x hm
            rcases List.mem_append.1 hm with hm | hm
            · exact ih x hm
            · simp at hm
              omega
          · cases h
theorem groupsB_lt (s : ByteArray) (dot : Bool) (out : List Nat) (h : groupsB s dot = some out) : ∀ x ∈ out, x < 65536 := by
  unfold groupsB at h
  split at h
  · have := Option.some.inj h
    subst this
    simp
  · exact grTo_lt _ _ _ _ h
/-- What Groups hands back: a row of its own. -/
def GrRet (w : World) (o : Option (List Nat)) (e : Ending) (w' : World) : Prop :=
  ∃ v, e = .returned (.tuple #[v, .bool o.isSome]) ∧ w'.ownsRow w.heap.size 3 1 v (o.getD []).length (ints (o.getD [])) ∧ Below w.heap.size w w'
theorem gr_none {w w' : World} {o : Option (List Nat)} (h : o = none) (hb : Below w.heap.size w w') : GrRet w o (.returned (.tuple #[.slice none 0 0, .bool false])) w' := by
  subst h
  exact ⟨_, rfl, World.ownsRow_nil _ _ _ _, hb⟩
theorem gr_some {w w' : World} {o : Option (List Nat)} {l : List Nat} {v : Value} (h : o = some l) (ho : w'.ownsRow w.heap.size 3 1 v l.length (ints l)) (hb : Below w.heap.size w w') : GrRet w o (.returned (.tuple #[v, .bool true])) w' := by
  subst h
  exact ⟨_, rfl, ho, hb⟩

set_option maxRecDepth 100000 in
set_option maxHeartbeats 4000000 in
theorem refGroups_any (s : ByteArray) (dot : Bool) (w : World) (hs : s.size ≤ 100000) :
    Calls Tryd.prog 59 #[.string s, .bool dot] w (GrRet w (groupsB s dot)) := by
  by_cases h0 : s.size = 0
  · have HD : Hid (groupsB s dot = some []) := Lib.hid (by unfold groupsB; rw [if_pos h0])
    have he := isEmpty_true s h0
    go_enter Tryd.func59, Tryd.ntmps59
    go_wp2_with fail
    go_ret2
    exact gr_some HD.out (World.ownsRow_nil _ _ _ _) (Below.refl _ _)
  · have HG : Hid (groupsB s dot = grTo (pieces s 58) dot (pieces s 58).length) := Lib.hid (by unfold groupsB; rw [if_neg h0])
    have he := isEmpty_false s (by omega)
    have hpl := pieces_len s 58
    have HSM : Hid (∀ k, ((pieces s 58).getD k ⟨#[]⟩).size ≤ 1000000) := Lib.hid (fun k => Nat.le_trans (getD_small (pieces_small s 58) k) (by omega))
    obtain ⟨i0, hi0, hz0, hz1, hz2⟩ := info_parts Tryd.infoInt
    go_enter Tryd.func59, Tryd.ntmps59
    go_wp2_with fail
    refine (refSplit_row s 58 _ (by omega)).mono ?_
    rintro e w1 ⟨g, c, rfl, hg, hr, hb⟩
    have hc1 := hr.cap
    have hc2 := hr.capm
    unfold maxLen at hc2
    have HR := Lib.hid hr
    clear hr
    generalize hL : pieces s 58 = l at *
    clear hL
    obtain ⟨n, hn⟩ : ∃ n, l.length = n := ⟨_, rfl⟩
    rw [hn] at HG HR hpl hc1
    rw [hn]
    have HN := Lib.hid hn
    clear hn
    go_wp2_with fail
    go_loopw [6, 8] (fun v i wr => ∃ (k : Nat) (out : List Nat), k ≤ n ∧ i = .int .i64 k ∧ out.length ≤ 2 * k ∧ wr.ownsRow w1.heap.size 3 1 v out.length (ints out) ∧ Hid (grTo l dot k = some out) ∧ Below w1.heap.size w1 wr) (fun _ i _ => n - (intOf i).toNat)
    case atStart => exact ⟨0, [], Nat.zero_le _, rfl, by simp, World.ownsRow_nil _ _ _ _, Lib.hid rfl, Below.refl _ _⟩
    case round =>
      obtain ⟨k, out, hk, rfl, hol, hown, HK, hbel⟩ := hrel
      by_cases hlt : k < n
      · have hcell := (HR.out.below hbel).cells k hlt
        have hsm := HSM.out k
        obtain ⟨p, hp⟩ : ∃ p, l.getD k ⟨#[]⟩ = p := ⟨_, rfl⟩
        rw [hp] at hcell hsm
        have HP := Lib.hid hp
        clear hp
        cases hx : hexG p with
        | some x =>
          have hxl := hexG_lt _ _ hx
          have HX := Lib.hid (optI_some hx)
          have HT := Lib.hid (grTo_hex HK.out (by rw [HP.out]; exact hx))
          clear hx
          go_wp2_with fail
          refine (refHex_any p _ hsm).mono ?_
          rintro e w2 ⟨rfl, rfl⟩
          rw [HX.out]
          go_wp2_with (at_builtin; refine wpList_append_own _ rfl (.tmp 30) (.tmp 32) 74 rfl w1.heap.size 3 i0 _ 1 8 Tryd.underlying74 hi0 hz0 hz1 hz2 rfl (by decide) _ _ _ rfl (hown.alloc _) ⟨wr.heap.size, 0, none⟩ 1 1 [.int .i64 (x : Int)] rfl rfl ?c1 ?c2 ?c3 ?c4 ?c5 ?_)
          case c1 => exact cell_one_new _ _ _
          case c2 => intro u hu; simp at hu; subst hu; rfl
          case c3 => unfold maxLen; omega
          case c4 => have := hbel.size; omega
          case c5 => have := hbel.size; simp; omega
          intro v' w3 hown' hgrow _
          have R := own_ints (m := [x]) hown' hgrow hown hbel
          clear hown' hgrow hown hbel
          go_wp2_with fail
          go_roundw
          case rel => exact ⟨k + 1, out ++ [x], by omega, by go_num, by simp; omega, R.1, HT, R.2⟩
          case measure => simp [intOf]; omega
        | none =>
          have HX := Lib.hid (optI_none hx)
          have HXN := Lib.hid hx
          clear hx
          go_wp2_with fail
          refine (refHex_any p _ hsm).mono ?_
          rintro e w2 ⟨rfl, rfl⟩
          rw [HX.out]
          go_wp2_with fail
          refine (refStrict_any p _ hsm).mono ?_
          rintro e w2 ⟨rfl, hb2⟩
          cases hv : strictB p with
          | none =>
            have HD := Lib.hid (grTo_stop HK.out (by rw [HP.out]; exact HXN.out) (by rw [HP.out]; exact hv))
            clear hv
            unfold strictRet
            go_wp2_with fail
            go_ret2
            exact gr_none (by rw [HG.out]; exact grTo_dead (k := k + 1) hlt HD.out) (chain hb (chain hbel hb2))
          | some x =>
            have hxl : x ≤ 4294967295 := by have := strictB_lt _ _ hv; omega
            have HD := Lib.hid (grTo_strict HK.out (by rw [HP.out]; exact HXN.out) (by rw [HP.out]; exact hv))
            clear hv
            unfold strictRet
            cases dot with
            | false =>
              have HD2 : Hid (grTo l false (k + 1) = none) := Lib.hid (by rw [HD.out, if_neg (by simp)])
              go_wp2_with fail
              go_ret2
              exact gr_none (by rw [HG.out]; exact grTo_dead (k := k + 1) hlt HD2.out) (chain hb (chain hbel hb2))
            | true =>
              by_cases hlast : k + 1 < n
              · have HD2 : Hid (grTo l true (k + 1) = none) := Lib.hid (by rw [HD.out, if_neg (by rw [HN.out]; intro h; exact h.2 hlast)])
                have hli : (k : Int) + 1 < (n : Int) := by omega
                go_wp2_with fail
                go_ret2
                exact gr_none (by rw [HG.out]; exact grTo_dead (k := k + 1) hlt HD2.out) (chain hb (chain hbel hb2))
              · have HT : Hid (grTo l true (k + 1) = some (out ++ [x / 65536, x % 65536])) := Lib.hid (by rw [HD.out, if_pos ⟨rfl, by rw [HN.out]; exact hlast⟩])
                have hli : ¬ (k : Int) + 1 < (n : Int) := by omega
                obtain ⟨y, hy, ey⟩ : ∃ y : Nat, x / 65536 = y ∧ (x : Int) / 65536 = (y : Int) := ⟨_, rfl, by omega⟩
                obtain ⟨z, hz, ez⟩ : ∃ z : Nat, x % 65536 = z ∧ (x : Int) % 65536 = (z : Int) := ⟨_, rfl, by omega⟩
                rw [hy, hz] at HT
                have hown2 := own_below hown hb2
                have hbel2 := chain hbel hb2
                clear hy hz hown
                go_wp2_with (at_builtin; refine wpList_append_own _ rfl (.tmp 55) (.tmp 62) 74 rfl w1.heap.size 3 i0 _ 1 8 Tryd.underlying74 hi0 hz0 hz1 hz2 rfl (by decide) _ _ _ rfl (hown2.alloc _) ⟨w2.heap.size, 0, none⟩ 2 2 [.int .i64 (y : Int), .int .i64 (z : Int)] rfl rfl ?c1 ?c2 ?c3 ?c4 ?c5 ?_)
                case c1 => exact cells_new _ [_, _] _
                case c2 => intro u hu; simp at hu; rcases hu with rfl | rfl <;> rfl
                case c3 => unfold maxLen; omega
                case c4 => have := hbel2.size; omega
                case c5 => have := hbel2.size; simp; omega
                intro v' w3 hown' hgrow _
                have R := own_ints (m := [y, z]) hown' hgrow hown2 hbel2
                clear hown' hgrow hown2 hbel2
                go_wp2_with fail
                go_roundw
                case rel => exact ⟨k + 1, out ++ [y, z], by omega, by go_num, by simp; omega, R.1, HT, R.2⟩
                case measure => simp [intOf]; omega
      · obtain rfl : k = n := by omega
        go_wp2_with fail
        go_ret2
        exact gr_some (by rw [HG.out]; exact HK.out) (own_lower hown hb.size) (chain hb hbel)
end Go.Proofs.YtickghbjhiegnaaDoor
/- The contract of the reference's Parse of layer 3. -/
namespace Go.Proofs.YtickghbjhiegnaaDoor
open Go.RowKit
set_option linter.unusedVariables false
set_option maxRecDepth 20000

/-- An array of eight groups lies at B. -/
structure Arr8 (w : World) (B : Nat) (gs : List Nat) : Prop where
  len : gs.length = 8
  lt : B < w.heap.size
  cells : ∀ j, j < 8 → w.cell? ⟨B, j, none⟩ = some (.int .u16 ((gs.getD j 0 : Nat) : Int))
  live : ∀ j, j < 8 → w.frozen? ⟨B, j, none⟩ = false
theorem Arr8.below {w w' : World} {B : Nat} {gs : List Nat} (h : Arr8 w B gs) (hb : Below w.heap.size w w') : Arr8 w' B gs :=
  ⟨h.len, Nat.lt_of_lt_of_le h.lt hb.size, fun j hj => by rw [hb.cell (p := ⟨B, j, none⟩) h.lt]; exact h.cells j hj, fun j hj => by rw [hb.frozen (p := ⟨B, j, none⟩) h.lt]; exact h.live j hj⟩
theorem Arr8.all {w : World} {B : Nat} {x0 x1 x2 x3 x4 x5 x6 x7 : Nat} (h : Arr8 w B [x0, x1, x2, x3, x4, x5, x6, x7]) :
    w.cell? ⟨B, 0, none⟩ = some (.int .u16 (x0 : Int)) ∧ w.cell? ⟨B, 1, none⟩ = some (.int .u16 (x1 : Int)) ∧ w.cell? ⟨B, 2, none⟩ = some (.int .u16 (x2 : Int)) ∧ w.cell? ⟨B, 3, none⟩ = some (.int .u16 (x3 : Int)) ∧ w.cell? ⟨B, 4, none⟩ = some (.int .u16 (x4 : Int)) ∧ w.cell? ⟨B, 5, none⟩ = some (.int .u16 (x5 : Int)) ∧ w.cell? ⟨B, 6, none⟩ = some (.int .u16 (x6 : Int)) ∧ w.cell? ⟨B, 7, none⟩ = some (.int .u16 (x7 : Int)) :=
  ⟨h.cells 0 (by decide), h.cells 1 (by decide), h.cells 2 (by decide), h.cells 3 (by decide), h.cells 4 (by decide), h.cells 5 (by decide), h.cells 6 (by decide), h.cells 7 (by decide)⟩
theorem Arr8.lives {w : World} {B : Nat} {gs : List Nat} (h : Arr8 w B gs) :
    w.frozen? ⟨B, 0, none⟩ = false ∧ w.frozen? ⟨B, 1, none⟩ = false ∧ w.frozen? ⟨B, 2, none⟩ = false ∧ w.frozen? ⟨B, 3, none⟩ = false ∧ w.frozen? ⟨B, 4, none⟩ = false ∧ w.frozen? ⟨B, 5, none⟩ = false ∧ w.frozen? ⟨B, 6, none⟩ = false ∧ w.frozen? ⟨B, 7, none⟩ = false :=
  ⟨h.live 0 (by decide), h.live 1 (by decide), h.live 2 (by decide), h.live 3 (by decide), h.live 4 (by decide), h.live 5 (by decide), h.live 6 (by decide), h.live 7 (by decide)⟩
theorem Arr8.zero (w : World) (t : TypeId) : Arr8 (w.alloc (.cells #[.int .u16 0, .int .u16 0, .int .u16 0, .int .u16 0, .int .u16 0, .int .u16 0, .int .u16 0, .int .u16 0] t)) w.heap.size [0, 0, 0, 0, 0, 0, 0, 0] := by
  refine ⟨rfl, by simp, ?_, ?_⟩
  · intro j hj
    have : j = 0 ∨ j = 1 ∨ j = 2 ∨ j = 3 ∨ j = 4 ∨ j = 5 ∨ j = 6 ∨ j = 7 := by omega
    rcases this with rfl | rfl | rfl | rfl | rfl | rfl | rfl | rfl <;> simp [World.cell?_alloc_new]
  · intro j hj
    exact World.frozen?_alloc_new _ _ _ _
theorem Arr8.set {w : World} {B k : Nat} {gs : List Nat} (h : Arr8 w B gs) (hk : k < 8) (v : Nat) : Arr8 (w.setCell ⟨B, k, none⟩ (.int .u16 ((v : Nat) : Int))) B (gs.set k v) := by
  refine ⟨by simp [h.len], by simpa using h.lt, ?_, ?_⟩
  · intro j hj
    by_cases e : j = k
    · subst e
      rw [World.cell?_setCell_same _ _ _ (h.cells j hj), List.getD_eq_getElem?_getD, List.getElem?_set_self (by rw [h.len]; exact hj)]
      rfl
    · rw [World.cell?_setCell_other _ _ _ _ (by intro h2; injection h2 with _ h3 _; exact e h3.symm), h.cells j hj, List.getD_eq_getElem?_getD, List.getD_eq_getElem?_getD, List.getElem?_set_ne (by omega)]
  · intro j hj
    rw [World.frozen?_setCell]
    exact h.live j hj
theorem Arr8.other {w : World} {B B' k : Nat} {gs : List Nat} (h : Arr8 w B gs) (hB : B' ≠ B) (u : Value) : Arr8 (w.setCell ⟨B', k, none⟩ u) B gs := by
  refine ⟨h.len, by simpa using h.lt, ?_, ?_⟩
  · intro j hj
    rw [World.cell?_setCell_other _ _ _ _ (by intro h2; injection h2 with h3 _ _; exact hB h3)]
    exact h.cells j hj
  · intro j hj
    rw [World.frozen?_setCell]
    exact h.live j hj
/-- Eight groups, stored one by one. -/
def store8 (W : World) (R : Nat) (y0 y1 y2 y3 y4 y5 y6 y7 : Nat) : World := ((((((((W.setCell ⟨R, 0, none⟩ (.int .u16 ((y0 : Nat) : Int))).setCell ⟨R, 1, none⟩ (.int .u16 ((y1 : Nat) : Int))).setCell ⟨R, 2, none⟩ (.int .u16 ((y2 : Nat) : Int))).setCell ⟨R, 3, none⟩ (.int .u16 ((y3 : Nat) : Int))).setCell ⟨R, 4, none⟩ (.int .u16 ((y4 : Nat) : Int))).setCell ⟨R, 5, none⟩ (.int .u16 ((y5 : Nat) : Int))).setCell ⟨R, 6, none⟩ (.int .u16 ((y6 : Nat) : Int))).setCell ⟨R, 7, none⟩ (.int .u16 ((y7 : Nat) : Int)))
theorem list8 {α : Type} (l : List α) (h : l.length = 8) : ∃ a b c d e f g i, l = [a, b, c, d, e, f, g, i] := by
  match l, h with
  | [a, b, c, d, e, f, g, i], _ => exact ⟨a, b, c, d, e, f, g, i, rfl⟩
theorem store8_arr {W : World} {R : Nat} {gs : List Nat} (y0 y1 y2 y3 y4 y5 y6 y7 : Nat) (h : Arr8 W R gs) : Arr8 (store8 W R y0 y1 y2 y3 y4 y5 y6 y7) R [y0, y1, y2, y3, y4, y5, y6, y7] := by
  obtain ⟨a, b, c, d, e, f, g, i, rfl⟩ := list8 gs h.len
  exact (((((((h.set (k := 0) (by decide) y0).set (k := 1) (by decide) y1).set (k := 2) (by decide) y2).set (k := 3) (by decide) y3).set (k := 4) (by decide) y4).set (k := 5) (by decide) y5).set (k := 6) (by decide) y6).set (k := 7) (by decide) y7
theorem store8_below {w W : World} {R : Nat} (y0 y1 y2 y3 y4 y5 y6 y7 : Nat) (h : Below w.heap.size w W) (hR : w.heap.size ≤ R) : Below w.heap.size w (store8 W R y0 y1 y2 y3 y4 y5 y6 y7) :=
  (((((((h.setCell (p := ⟨R, 0, none⟩) hR _).setCell (p := ⟨R, 1, none⟩) hR _).setCell (p := ⟨R, 2, none⟩) hR _).setCell (p := ⟨R, 3, none⟩) hR _).setCell (p := ⟨R, 4, none⟩) hR _).setCell (p := ⟨R, 5, none⟩) hR _).setCell (p := ⟨R, 6, none⟩) hR _).setCell (p := ⟨R, 7, none⟩) hR _
/-- A row of numbers, as a walk reads it; it may be nil. -/
structure IntRow (w : World) (B : Nat) (b : Option Addr) (n c : Nat) (l : List Nat) : Prop where
  len : l.length = n
  cap : n ≤ c
  capm : c ≤ maxLen
  lies : n = 0 ∨ ∃ h, b = some ⟨h, 0, none⟩ ∧ B ≤ h ∧ h < w.heap.size ∧ ∀ j, j < n → w.cell? ⟨h, j, none⟩ = some (.int .i64 ((l.getD j 0 : Nat) : Int))
theorem IntRow.of_own {w : World} {B : Nat} {v : Value} {l : List Nat} (h : w.ownsRow B 3 1 v l.length (ints l)) : ∃ b c, v = .slice b l.length c ∧ IntRow w B b l.length c l := by
  have hh := h
  rcases h.2 with ⟨rfl, h0⟩ | ⟨g, cap, cur, rfl, hB, hg, h1, h2, _⟩
  · exact ⟨none, 0, by rw [h0], rfl, by omega, Nat.zero_le _, .inl h0⟩
  · refine ⟨some ⟨g, 0, none⟩, cap, rfl, rfl, h1, h2, .inr ⟨g, rfl, hB, ?_, ?_⟩⟩
    · rcases Nat.lt_or_ge g w.heap.size with h | h
      · exact h
      · rw [Array.getElem?_eq_none h] at hg; cases hg
    · intro j hj
      rw [hh.cellAt j (by omega)]
      simp [ints, hj]
theorem IntRow.below {w w' : World} {B n c : Nat} {b : Option Addr} {l : List Nat} (h : IntRow w B b n c l) (hb : Below w.heap.size w w') : IntRow w' B b n c l :=
  ⟨h.len, h.cap, h.capm, h.lies.imp id fun ⟨g, e, hB, hg, hc⟩ => ⟨g, e, hB, Nat.lt_of_lt_of_le hg hb.size, fun j hj => by rw [hb.cell (p := ⟨g, j, none⟩) hg]; exact hc j hj⟩⟩
theorem IntRow.other {w : World} {B B' k n c : Nat} {b : Option Addr} {l : List Nat} (h : IntRow w B b n c l) (hB' : B' < B) (u : Value) : IntRow (w.setCell ⟨B', k, none⟩ u) B b n c l :=
  ⟨h.len, h.cap, h.capm, h.lies.imp id fun ⟨g, e, hB, hg, hc⟩ => ⟨g, e, hB, by simpa using hg, fun j hj => by
    rw [World.cell?_setCell_other _ _ _ _ (by intro h2; injection h2 with h3 _ _; omega)]
    exact hc j hj⟩⟩
theorem groupsB_len (s : ByteArray) (dot : Bool) : ((groupsB s dot).getD []).length ≤ 2 * (s.size + 1) := by
  have key : ∀ (l : List ByteArray) k out, grTo l dot k = some out → out.length ≤ 2 * k := by
    intro l k
    induction k with
    | zero => intro out h; have := Option.some.inj h; subst this; simp
    | succ k ih =>
      intro out h
      cases hk : grTo l dot k with
      | none => rw [grTo, hk] at h; cases h
      | some o =>
        have := ih o hk
        cases hx : hexG (l.getD k ⟨#[]⟩) with
        | some v =>
          rw [grTo_hex hk hx] at h
          have := Option.some.inj h
          subst this
          simp
          omega
        | none =>
          cases hv : strictB (l.getD k ⟨#[]⟩) with
          | none => rw [grTo_stop hk hx hv] at h; cases h
          | some v =>
            rw [grTo_strict hk hx hv] at h
            split at h
            · have := Option.some.inj h
              subst this
              simp
              omega
            · cases h
  unfold groupsB
  split
  · simp
  · cases h : grTo (pieces s 58) dot (pieces s 58).length with
    | none => simp
    | some out =>
      have h1 := key _ _ _ h
      have h2 := pieces_len s 58
      show out.length ≤ _
      omega
theorem set_behind (a b : List Nat) (na nb m q : Nat) (ha : a.length = na) (hb : b.length = nb) (h7 : na + nb ≤ 7) (hm : m < nb) (hq : 8 - nb + m = q) :
    ((a ++ List.replicate (8 - na - nb) 0) ++ (b.take m ++ List.replicate (nb - m) 0)).set q (b.getD m 0) = (a ++ List.replicate (8 - na - nb) 0) ++ (b.take (m + 1) ++ List.replicate (nb - (m + 1)) 0) := by
  have e : b.take (m + 1) = b.take m ++ [b.getD m 0] := by rw [List.take_add_one, List.getD_eq_getElem?_getD, List.getElem?_eq_getElem (by omega)]; rfl
  have hl : (b.take m).length = m := by simp; omega
  have hp : (a ++ List.replicate (8 - na - nb) 0).length = 8 - nb := by simp; omega
  rw [List.set_append_right _ _ (by rw [hp]; omega), hp, show q - (8 - nb) = m by omega, List.set_append_right _ _ (by omega), hl, Nat.sub_self, show nb - m = (nb - (m + 1)) + 1 by omega, List.replicate_succ, List.set_cons_zero, e]
  simp
theorem set_next (a : List Nat) (k : Nat) (hk : k < a.length) (h8 : k < 8) : (a.take k ++ List.replicate (8 - k) 0).set k (a.getD k 0) = a.take (k + 1) ++ List.replicate (8 - (k + 1)) 0 := by
  have hl : (a.take k).length = k := by simp; omega
  have e : a.take (k + 1) = a.take k ++ [a.getD k 0] := by rw [List.take_add_one, List.getD_eq_getElem?_getD, List.getElem?_eq_getElem hk]; rfl
  rw [e, List.set_append_right _ _ (by omega), hl, Nat.sub_self, show 8 - k = (8 - (k + 1)) + 1 by omega, List.replicate_succ, List.set_cons_zero, List.append_assoc]
  rfl
/-- The groups ahead of two colons, zeros, the groups behind. -/
def mergeB (oa ob : Option (List Nat)) : Option (List Nat) :=
  match oa, ob with
  | some a, some b => if 7 < a.length + b.length then none else some (a ++ List.replicate (8 - a.length - b.length) 0 ++ b)
  | _, _ => none
def parseB (s : ByteArray) : Option (List Nat) :=
  match gapB s with
  | none => match groupsB s true with
    | none => none
    | some l => if l.length = 8 then some l else none
  | some k => mergeB (groupsB (s.extract 0 k) false) (groupsB (s.extract (k + 2) s.size) true)
def arr8 (l : List Nat) : Value := .agg (l.map fun n => Value.int .u16 ((n : Nat) : Int)).toArray
def parseRet (o : Option (List Nat)) : Value := .tuple #[arr8 (o.getD [0, 0, 0, 0, 0, 0, 0, 0]), .bool o.isSome]

set_option maxRecDepth 100000 in
set_option maxHeartbeats 4000000 in
theorem refParse_any (s : ByteArray) (w : World) (hs : s.size ≤ 100000) :
    Calls Tryd.prog 37 #[.string s] w fun e w' => e = .returned (parseRet (parseB s)) ∧ Below w.heap.size w w' := by
  have hz0 := Arr8.zero w 33
  have hz1 := Arr8.zero (w.alloc (.cells #[.int .u16 0, .int .u16 0, .int .u16 0, .int .u16 0, .int .u16 0, .int .u16 0, .int .u16 0, .int .u16 0] 33)) 33
  have hb0 : Below w.heap.size w (w.alloc (.cells #[.int .u16 0, .int .u16 0, .int .u16 0, .int .u16 0, .int .u16 0, .int .u16 0, .int .u16 0, .int .u16 0] 33)) := (Below.refl _ _).alloc (Nat.le_refl _) _
  have hb1 := hb0.alloc hb0.size (.cells #[.int .u16 0, .int .u16 0, .int .u16 0, .int .u16 0, .int .u16 0, .int .u16 0, .int .u16 0, .int .u16 0] 33)
  have hz2 := hz0.below ((Below.refl _ _).alloc (Nat.le_refl _) (.cells #[.int .u16 0, .int .u16 0, .int .u16 0, .int .u16 0, .int .u16 0, .int .u16 0, .int .u16 0, .int .u16 0] 33))
  rw [show (w.alloc (.cells #[.int .u16 0, .int .u16 0, .int .u16 0, .int .u16 0, .int .u16 0, .int .u16 0, .int .u16 0, .int .u16 0] 33)).heap.size = w.heap.size + 1 by simp] at hz1
  go_enter Tryd.func37, Tryd.ntmps37
  go_wp2_with fail
  generalize (w.alloc (.cells #[.int .u16 0, .int .u16 0, .int .u16 0, .int .u16 0, .int .u16 0, .int .u16 0, .int .u16 0, .int .u16 0] 33)).alloc (.cells #[.int .u16 0, .int .u16 0, .int .u16 0, .int .u16 0, .int .u16 0, .int .u16 0, .int .u16 0, .int .u16 0] 33) = w0 at *
  clear hz0
  have HZ1 := Lib.hid hz1
  have HZ2 := Lib.hid hz2
  clear hz1 hz2 hb0
  refine (refGap_any s _ (by omega)).mono ?_
  rintro e w1 ⟨rfl, rfl⟩
  cases hg : gapB s with
  | none =>
    rw [show optI none = -1 from rfl]
    have HGp := Lib.hid hg
    clear hg
    go_wp2_with fail
    refine (refGroups_any s true _ hs).mono ?_
    rintro e w2 ⟨v, rfl, hown, hb⟩
    have hlt0 := HZ1.out.lt
    cases hq : groupsB s true with
    | none =>
      have HD : Hid (parseB s = none) := Lib.hid (by unfold parseB; rw [HGp.out]; simp only [hq])
      clear hq hown
      obtain ⟨c0, c1, c2, c3, c4, c5, c6, c7⟩ := (HZ1.out.below hb).all
      obtain ⟨r0, r1, r2, r3, r4, r5, r6, r7⟩ := (HZ2.out.below hb).all
      obtain ⟨f0, f1, f2, f3, f4, f5, f6, f7⟩ := (HZ2.out.below hb).lives
      have E1 := store8_arr 0 0 0 0 0 0 0 0 (HZ2.out.below hb)
      have E2 := store8_below 0 0 0 0 0 0 0 0 (chain hb1 hb) (Nat.le_refl w.heap.size)
      have E1 := Lib.hid E1
      have E2 := Lib.hid E2
      go_wp2_with fail
      change bodyPost _ _ _ _ _ (store8 w2 w.heap.size 0 0 0 0 0 0 0 0)
      generalize store8 w2 w.heap.size 0 0 0 0 0 0 0 0 = W at *
      clear c0 c1 c2 c3 c4 c5 c6 c7 r0 r1 r2 r3 r4 r5 r6 r7 f0 f1 f2 f3 f4 f5 f6 f7
      obtain ⟨r0, r1, r2, r3, r4, r5, r6, r7⟩ := E1.out.all
      refine bodyPost_ret (v := parseRet none) (by simp [results, Tryd.results37, go_sem, r0, r1, r2, r3, r4, r5, r6, r7, parseRet, arr8]) rfl ⟨by rw [HD.out], E2.out⟩
    | some l =>
      have hlt := groupsB_lt _ _ _ hq
      have HLT := Lib.hid hlt
      rw [hq] at hown
      change w2.ownsRow w0.heap.size 3 1 v l.length (ints l) at hown
      obtain ⟨b, c, rfl, hrow⟩ := IntRow.of_own hown
      have hc1 := hrow.cap
      have hc2 := hrow.capm
      unfold maxLen at hc2
      have HRow := Lib.hid hrow
      clear hown hrow hlt
      by_cases h8 : l.length = 8
      · have HD : Hid (parseB s = some l) := Lib.hid (by unfold parseB; rw [HGp.out]; simp only [hq, if_pos h8])
        clear hq
        have HL8 := Lib.hid h8
        rw [h8] at HRow hc1
        rw [h8, show (some l).isSome = true from rfl]
        clear h8
        go_wp2_with fail
        go_loopw [8] (fun i wr => ∃ (k : Nat) (gs : List Nat), k ≤ 8 ∧ i = .int .i64 k ∧ Hid (Arr8 wr (w.heap.size + 1) gs) ∧ Hid (Arr8 wr w.heap.size [0, 0, 0, 0, 0, 0, 0, 0]) ∧ Hid (IntRow wr w0.heap.size b 8 c l) ∧ Below w.heap.size w wr ∧ Hid (gs = l.take k ++ List.replicate (8 - k) 0)) (fun i _ => 8 - (intOf i).toNat)
        case atStart => exact ⟨0, [0, 0, 0, 0, 0, 0, 0, 0], by decide, rfl, Lib.hid (HZ1.out.below hb), Lib.hid (HZ2.out.below hb), HRow, chain hb1 hb, Lib.hid (by simp)⟩
        case round =>
          obtain ⟨k, gs, hk, rfl, HA, HB, HRw, hbel, HGs⟩ := hrel
          by_cases hk8 : k < 8
          · obtain ⟨h, rfl, hB, hh, hcell⟩ : ∃ h, b = some ⟨h, 0, none⟩ ∧ w0.heap.size ≤ h ∧ h < wr.heap.size ∧ wr.cell? ⟨h, k, none⟩ = some (.int .i64 ((l.getD k 0 : Nat) : Int)) := by
              rcases HRw.out.lies with h0 | ⟨h, e, hB, hh, hc⟩
              · omega
              · exact ⟨h, e, hB, hh, hc k hk8⟩
            have hx : l.getD k 0 < 65536 := by
              rw [List.getD_eq_getElem?_getD, List.getElem?_eq_getElem (by rw [HL8.out]; exact hk8)]
              exact HLT.out _ (List.getElem_mem _)
            obtain ⟨x, ex⟩ : ∃ x, l.getD k 0 = x := ⟨_, rfl⟩
            rw [ex] at hcell hx
            have HEx := Lib.hid ex
            clear ex
            have hw16 : IntKind.u16.wrap (x : Int) = (x : Int) := by rw [IntKind.wrap_u16]; omega
            have hgc := HA.out.cells k hk8
            have hgl := HA.out.live k hk8
            go_wp2_with fail
            go_roundw
            case rel => exact ⟨k + 1, gs.set k x, by omega, by go_num, Lib.hid (HA.out.set hk8 x), Lib.hid (HB.out.other (by omega) _), Lib.hid (HRw.out.other hlt0 _), hbel.setCell (p := ⟨w.heap.size + 1, k, none⟩) (by show w.heap.size ≤ w.heap.size + 1; omega) _, Lib.hid (by rw [HGs.out, ← HEx.out]; exact set_next l k (by rw [HL8.out]; exact hk8) hk8)⟩
            case measure => simp [intOf]; omega
          · obtain rfl : k = 8 := by omega
            have hgs : gs = l := by rw [HGs.out, List.take_of_length_le (by rw [HL8.out]; exact Nat.le_refl _)]; simp
            subst hgs
            have hA := HA.out
            obtain ⟨x0, x1, x2, x3, x4, x5, x6, x7, rfl⟩ := list8 gs HL8.out
            obtain ⟨c0, c1, c2, c3, c4, c5, c6, c7⟩ := hA.all
            obtain ⟨r0, r1, r2, r3, r4, r5, r6, r7⟩ := (HB.out).all
            obtain ⟨f0, f1, f2, f3, f4, f5, f6, f7⟩ := (HB.out).lives
            have E1 := Lib.hid (store8_arr x0 x1 x2 x3 x4 x5 x6 x7 (HB.out))
            have E2 := Lib.hid (store8_below x0 x1 x2 x3 x4 x5 x6 x7 (hbel) (Nat.le_refl w.heap.size))
            clear hA
            go_wp2_with fail
            change bodyPost _ _ _ _ _ (store8 wr w.heap.size x0 x1 x2 x3 x4 x5 x6 x7)
            generalize store8 wr w.heap.size x0 x1 x2 x3 x4 x5 x6 x7 = W at *
            clear c0 c1 c2 c3 c4 c5 c6 c7 r0 r1 r2 r3 r4 r5 r6 r7 f0 f1 f2 f3 f4 f5 f6 f7
            obtain ⟨r0, r1, r2, r3, r4, r5, r6, r7⟩ := E1.out.all
            refine bodyPost_ret (v := parseRet (some [x0, x1, x2, x3, x4, x5, x6, x7])) (by simp [results, Tryd.results37, go_sem, r0, r1, r2, r3, r4, r5, r6, r7, parseRet, arr8]) rfl ⟨by rw [HD.out], E2.out⟩
      · have HD : Hid (parseB s = none) := Lib.hid (by unfold parseB; rw [HGp.out]; simp only [hq, if_neg h8])
        clear hq
        rw [show (some l).isSome = true from rfl]
        have hl8 : ((l.length : Int) != 8) = true := by simp; omega
        obtain ⟨c0, c1, c2, c3, c4, c5, c6, c7⟩ := (HZ1.out.below hb).all
        obtain ⟨r0, r1, r2, r3, r4, r5, r6, r7⟩ := (HZ2.out.below hb).all
        obtain ⟨f0, f1, f2, f3, f4, f5, f6, f7⟩ := (HZ2.out.below hb).lives
        have E1 := store8_arr 0 0 0 0 0 0 0 0 (HZ2.out.below hb)
        have E2 := store8_below 0 0 0 0 0 0 0 0 (chain hb1 hb) (Nat.le_refl w.heap.size)
        have E1 := Lib.hid E1
        have E2 := Lib.hid E2
        go_wp2_with fail
        change bodyPost _ _ _ _ _ (store8 w2 w.heap.size 0 0 0 0 0 0 0 0)
        generalize store8 w2 w.heap.size 0 0 0 0 0 0 0 0 = W at *
        clear c0 c1 c2 c3 c4 c5 c6 c7 r0 r1 r2 r3 r4 r5 r6 r7 f0 f1 f2 f3 f4 f5 f6 f7
        obtain ⟨r0, r1, r2, r3, r4, r5, r6, r7⟩ := E1.out.all
        refine bodyPost_ret (v := parseRet none) (by simp [results, Tryd.results37, go_sem, r0, r1, r2, r3, r4, r5, r6, r7, parseRet, arr8]) rfl ⟨by rw [HD.out], E2.out⟩
  | some k =>
    have hk2 : k + 2 ≤ s.size := by have := gapTo_lt s _ _ hg; omega
    have HGp := Lib.hid hg
    clear hg
    rw [show optI (some k) = (k : Int) from rfl]
    have hki : (k : Int) + 2 ≤ (s.size : Int) := by omega
    go_wp2_with fail
    refine (refGroups_any _ false _ (by simp; omega)).mono ?_
    rintro e w2 ⟨va, rfl, howna, hb⟩
    obtain ⟨oa, hoa⟩ : ∃ oa, groupsB (s.extract 0 k) false = oa := ⟨_, rfl⟩
    rw [hoa] at howna ⊢
    obtain ⟨ba, ca, rfl, rowa⟩ := IntRow.of_own howna
    have hla : (oa.getD []).length ≤ 200002 := by
      have := groupsB_len (s.extract 0 k) false
      rw [hoa] at this
      have hz : (s.extract 0 k).size ≤ 100000 := by simp; omega
      omega
    have hca := rowa.cap
    have HRa := Lib.hid rowa
    have HOa := Lib.hid hoa
    clear howna rowa hoa
    go_wp2_with fail
    refine (refGroups_any _ true _ (by simp; omega)).mono ?_
    rintro e w3 ⟨vb, rfl, hownb, hb3⟩
    obtain ⟨ob, hob⟩ : ∃ ob, groupsB (s.extract (k + 2) s.size) true = ob := ⟨_, rfl⟩
    rw [hob] at hownb ⊢
    obtain ⟨bb, cb, rfl, rowb⟩ := IntRow.of_own hownb
    have hlb : (ob.getD []).length ≤ 200002 := by
      have := groupsB_len (s.extract (k + 2) s.size) true
      rw [hob] at this
      have hz : (s.extract (k + 2) s.size).size ≤ 100000 := by simp; omega
      omega
    have hcb := rowb.cap
    have HRb := Lib.hid rowb
    have HOb := Lib.hid hob
    have HRa3 := Lib.hid (HRa.out.below hb3)
    have hlt0 := HZ1.out.lt
    have hw02 := hb.size
    clear hownb rowb hob HRa
    have hb03 := chain hb hb3
    have HP : Hid (parseB s = mergeB oa ob) := Lib.hid (by unfold parseB; rw [HGp.out]; simp only []; rw [HOa.out, HOb.out])
    cases oa with
    | none =>
      have HD : Hid (parseB s = none) := Lib.hid (by rw [HP.out]; rfl)
      rw [show (none : Option (List Nat)).isSome = false from rfl]
      obtain ⟨c0, c1, c2, c3, c4, c5, c6, c7⟩ := (HZ1.out.below hb03).all
      obtain ⟨r0, r1, r2, r3, r4, r5, r6, r7⟩ := (HZ2.out.below hb03).all
      obtain ⟨f0, f1, f2, f3, f4, f5, f6, f7⟩ := (HZ2.out.below hb03).lives
      have E1 := store8_arr 0 0 0 0 0 0 0 0 (HZ2.out.below hb03)
      have E2 := store8_below 0 0 0 0 0 0 0 0 (chain hb1 hb03) (Nat.le_refl w.heap.size)
      have E1 := Lib.hid E1
      have E2 := Lib.hid E2
      go_wp2_with fail
      change bodyPost _ _ _ _ _ (store8 w3 w.heap.size 0 0 0 0 0 0 0 0)
      generalize store8 w3 w.heap.size 0 0 0 0 0 0 0 0 = W at *
      clear c0 c1 c2 c3 c4 c5 c6 c7 r0 r1 r2 r3 r4 r5 r6 r7 f0 f1 f2 f3 f4 f5 f6 f7
      obtain ⟨r0, r1, r2, r3, r4, r5, r6, r7⟩ := E1.out.all
      refine bodyPost_ret (v := parseRet none) (by simp [results, Tryd.results37, go_sem, r0, r1, r2, r3, r4, r5, r6, r7, parseRet, arr8]) rfl ⟨by rw [HD.out], E2.out⟩
    | some la =>
      cases ob with
      | none =>
        have HD : Hid (parseB s = none) := Lib.hid (by rw [HP.out]; rfl)
        rw [show (none : Option (List Nat)).isSome = false from rfl, show (some la).isSome = true from rfl]
        obtain ⟨c0, c1, c2, c3, c4, c5, c6, c7⟩ := (HZ1.out.below hb03).all
        obtain ⟨r0, r1, r2, r3, r4, r5, r6, r7⟩ := (HZ2.out.below hb03).all
        obtain ⟨f0, f1, f2, f3, f4, f5, f6, f7⟩ := (HZ2.out.below hb03).lives
        have E1 := store8_arr 0 0 0 0 0 0 0 0 (HZ2.out.below hb03)
        have E2 := store8_below 0 0 0 0 0 0 0 0 (chain hb1 hb03) (Nat.le_refl w.heap.size)
        have E1 := Lib.hid E1
        have E2 := Lib.hid E2
        go_wp2_with fail
        change bodyPost _ _ _ _ _ (store8 w3 w.heap.size 0 0 0 0 0 0 0 0)
        generalize store8 w3 w.heap.size 0 0 0 0 0 0 0 0 = W at *
        clear c0 c1 c2 c3 c4 c5 c6 c7 r0 r1 r2 r3 r4 r5 r6 r7 f0 f1 f2 f3 f4 f5 f6 f7
        obtain ⟨r0, r1, r2, r3, r4, r5, r6, r7⟩ := E1.out.all
        refine bodyPost_ret (v := parseRet none) (by simp [results, Tryd.results37, go_sem, r0, r1, r2, r3, r4, r5, r6, r7, parseRet, arr8]) rfl ⟨by rw [HD.out], E2.out⟩
      | some lb =>
        have HLa := Lib.hid (groupsB_lt _ _ _ HOa.out)
        have HLb := Lib.hid (groupsB_lt _ _ _ HOb.out)
        change la.length ≤ 200002 at hla
        change lb.length ≤ 200002 at hlb
        change la.length ≤ ca at hca
        change lb.length ≤ cb at hcb
        change Hid (IntRow w3 w0.heap.size ba la.length ca la) at HRa3
        change Hid (IntRow w3 w2.heap.size bb lb.length cb lb) at HRb
        rw [show (some la).isSome = true from rfl, show (some lb).isSome = true from rfl, show (some la).getD [] = la from rfl, show (some lb).getD [] = lb from rfl]
        by_cases h7 : 7 < la.length + lb.length
        · have HD : Hid (parseB s = none) := Lib.hid (by rw [HP.out]; show (if 7 < la.length + lb.length then none else _) = _; rw [if_pos h7])
          have h7i : (7 : Int) < (la.length : Int) + (lb.length : Int) := by omega
          obtain ⟨c0, c1, c2, c3, c4, c5, c6, c7⟩ := (HZ1.out.below hb03).all
          obtain ⟨r0, r1, r2, r3, r4, r5, r6, r7⟩ := (HZ2.out.below hb03).all
          obtain ⟨f0, f1, f2, f3, f4, f5, f6, f7⟩ := (HZ2.out.below hb03).lives
          have E1 := store8_arr 0 0 0 0 0 0 0 0 (HZ2.out.below hb03)
          have E2 := store8_below 0 0 0 0 0 0 0 0 (chain hb1 hb03) (Nat.le_refl w.heap.size)
          have E1 := Lib.hid E1
          have E2 := Lib.hid E2
          go_wp2_with fail
          change bodyPost _ _ _ _ _ (store8 w3 w.heap.size 0 0 0 0 0 0 0 0)
          generalize store8 w3 w.heap.size 0 0 0 0 0 0 0 0 = W at *
          clear c0 c1 c2 c3 c4 c5 c6 c7 r0 r1 r2 r3 r4 r5 r6 r7 f0 f1 f2 f3 f4 f5 f6 f7
          obtain ⟨r0, r1, r2, r3, r4, r5, r6, r7⟩ := E1.out.all
          refine bodyPost_ret (v := parseRet none) (by simp [results, Tryd.results37, go_sem, r0, r1, r2, r3, r4, r5, r6, r7, parseRet, arr8]) rfl ⟨by rw [HD.out], E2.out⟩
        · have HD : Hid (parseB s = some (la ++ List.replicate (8 - la.length - lb.length) 0 ++ lb)) := Lib.hid (by rw [HP.out]; show (if 7 < la.length + lb.length then none else _) = _; rw [if_neg h7])
          have h7i : ¬ (7 : Int) < (la.length : Int) + (lb.length : Int) := by omega
          obtain ⟨na, hna⟩ : ∃ n, la.length = n := ⟨_, rfl⟩
          obtain ⟨nb, hnb⟩ : ∃ n, lb.length = n := ⟨_, rfl⟩
          rw [hna, hnb] at HD h7 h7i
          rw [hna] at HRa3 hca
          rw [hnb] at HRb hcb
          rw [hna, hnb]
          have HNa := Lib.hid hna
          have HNb := Lib.hid hnb
          clear hla hlb hna hnb
          go_wp2_with fail
          go_loopw [13] (fun i wr => ∃ (k : Nat) (gs : List Nat), k ≤ na ∧ i = .int .i64 k ∧ Hid (Arr8 wr (w.heap.size + 1) gs) ∧ Hid (Arr8 wr w.heap.size [0, 0, 0, 0, 0, 0, 0, 0]) ∧ Hid (IntRow wr w0.heap.size ba na ca la) ∧ Hid (IntRow wr w2.heap.size bb nb cb lb) ∧ Below w.heap.size w wr ∧ Hid (gs = la.take k ++ List.replicate (8 - k) 0)) (fun i _ => na - (intOf i).toNat)
          case atStart => exact ⟨0, [0, 0, 0, 0, 0, 0, 0, 0], Nat.zero_le _, rfl, Lib.hid (HZ1.out.below hb03), Lib.hid (HZ2.out.below hb03), HRa3, HRb, chain hb1 hb03, Lib.hid (by simp)⟩
          case round =>
            obtain ⟨j, gs, hj, rfl, HA, HB, HRw, HRv, hbel, HGs⟩ := hrel
            by_cases hjn : j < na
            · obtain ⟨h, rfl, hB, hh, hcell⟩ : ∃ h, ba = some ⟨h, 0, none⟩ ∧ w0.heap.size ≤ h ∧ h < wr.heap.size ∧ wr.cell? ⟨h, j, none⟩ = some (.int .i64 ((la.getD j 0 : Nat) : Int)) := by
                rcases HRw.out.lies with h0 | ⟨h, e, hB, hh, hc⟩
                · omega
                · exact ⟨h, e, hB, hh, hc j hjn⟩
              have hx : la.getD j 0 < 65536 := by
                rw [List.getD_eq_getElem?_getD, List.getElem?_eq_getElem (by rw [HNa.out]; exact hjn)]
                exact HLa.out _ (List.getElem_mem _)
              obtain ⟨x, ex⟩ : ∃ x, la.getD j 0 = x := ⟨_, rfl⟩
              rw [ex] at hcell hx
              have HEx := Lib.hid ex
              clear ex
              have hw16 : IntKind.u16.wrap (x : Int) = (x : Int) := by rw [IntKind.wrap_u16]; omega
              have hj8 : j < 8 := by omega
              have hgc := HA.out.cells j hj8
              have hgl := HA.out.live j hj8
              go_wp2_with fail
              go_roundw
              case rel => exact ⟨j + 1, gs.set j x, by omega, by go_num, Lib.hid (HA.out.set hj8 x), Lib.hid (HB.out.other (by omega) _), Lib.hid (HRw.out.other hlt0 _), Lib.hid (HRv.out.other (by omega) _), hbel.setCell (p := ⟨w.heap.size + 1, j, none⟩) (by show w.heap.size ≤ w.heap.size + 1; omega) _, Lib.hid (by rw [HGs.out, ← HEx.out]; exact set_next la j (by rw [HNa.out]; exact hjn) hj8)⟩
              case measure => simp [intOf]; omega
            · obtain rfl : j = na := by omega
              have HGl : Hid (gs = la ++ List.replicate (8 - j) 0) := Lib.hid (by rw [HGs.out, List.take_of_length_le (by rw [HNa.out]; exact Nat.le_refl _)])
              go_wp2_with fail
              go_loopw [14] (fun i wr => ∃ (m : Nat) (gs : List Nat), m ≤ nb ∧ i = .int .i64 m ∧ Hid (Arr8 wr (w.heap.size + 1) gs) ∧ Hid (Arr8 wr w.heap.size [0, 0, 0, 0, 0, 0, 0, 0]) ∧ Hid (IntRow wr w2.heap.size bb nb cb lb) ∧ Below w.heap.size w wr ∧ Hid (gs = (la ++ List.replicate (8 - j - nb) 0) ++ (lb.take m ++ List.replicate (nb - m) 0))) (fun i _ => nb - (intOf i).toNat)
              case atStart => exact ⟨0, gs, Nat.zero_le _, rfl, HA, HB, HRv, hbel, Lib.hid (by rw [HGl.out, List.take_zero, List.nil_append, Nat.sub_zero, List.append_assoc, List.replicate_append_replicate, show 8 - j - nb + nb = 8 - j by omega])⟩
              case round =>
                clear HA HB HRv HRw hbel HGs HGl
                obtain ⟨m, gs, hm, rfl, HA, HB, HRv, hbel, HGs⟩ := hrel
                by_cases hmn : m < nb
                · obtain ⟨h, rfl, hB, hh, hcell⟩ : ∃ h, bb = some ⟨h, 0, none⟩ ∧ w2.heap.size ≤ h ∧ h < wr.heap.size ∧ wr.cell? ⟨h, m, none⟩ = some (.int .i64 ((lb.getD m 0 : Nat) : Int)) := by
                    rcases HRv.out.lies with h0 | ⟨h, e, hB, hh, hc⟩
                    · omega
                    · exact ⟨h, e, hB, hh, hc m hmn⟩
                  have hx : lb.getD m 0 < 65536 := by
                    rw [List.getD_eq_getElem?_getD, List.getElem?_eq_getElem (by rw [HNb.out]; exact hmn)]
                    exact HLb.out _ (List.getElem_mem _)
                  obtain ⟨x, ex⟩ : ∃ x, lb.getD m 0 = x := ⟨_, rfl⟩
                  rw [ex] at hcell hx
                  have HEx := Lib.hid ex
                  clear ex
                  have hw16 : IntKind.u16.wrap (x : Int) = (x : Int) := by rw [IntKind.wrap_u16]; omega
                  obtain ⟨q, hq, eq⟩ : ∃ q : Nat, 8 - nb + m = q ∧ (8 : Int) - (nb : Int) + (m : Int) = (q : Int) := ⟨_, rfl, by omega⟩
                  have hq8 : q < 8 := by omega
                  have hgc := HA.out.cells q hq8
                  have hgl := HA.out.live q hq8
                  have HQ := Lib.hid hq
                  clear hq
                  go_wp2_with fail
                  go_roundw
                  case rel => exact ⟨m + 1, gs.set q x, by omega, by go_num, Lib.hid (HA.out.set hq8 x), Lib.hid (HB.out.other (by omega) _), Lib.hid (HRv.out.other (by omega) _), hbel.setCell (p := ⟨w.heap.size + 1, q, none⟩) (by show w.heap.size ≤ w.heap.size + 1; omega) _, Lib.hid (by rw [HGs.out, ← HEx.out]; exact set_behind la lb j nb m q HNa.out HNb.out (by omega) hmn HQ.out)⟩
                  case measure => simp [intOf]; omega
                · obtain rfl : m = nb := by omega
                  have hgs : gs = la ++ List.replicate (8 - j - m) 0 ++ lb := by rw [HGs.out, List.take_of_length_le (by rw [HNb.out]; exact Nat.le_refl _)]; simp
                  have hA := HA.out
                  obtain ⟨x0, x1, x2, x3, x4, x5, x6, x7, e8⟩ := list8 gs HA.out.len
                  rw [hgs] at e8
                  rw [e8] at HD
                  rw [hgs, e8] at hA
                  clear HGs hgs e8
                  obtain ⟨c0, c1, c2, c3, c4, c5, c6, c7⟩ := hA.all
                  obtain ⟨r0, r1, r2, r3, r4, r5, r6, r7⟩ := (HB.out).all
                  obtain ⟨f0, f1, f2, f3, f4, f5, f6, f7⟩ := (HB.out).lives
                  have E1 := Lib.hid (store8_arr x0 x1 x2 x3 x4 x5 x6 x7 (HB.out))
                  have E2 := Lib.hid (store8_below x0 x1 x2 x3 x4 x5 x6 x7 (hbel) (Nat.le_refl w.heap.size))
                  clear hA
                  go_wp2_with fail
                  change bodyPost _ _ _ _ _ (store8 wr w.heap.size x0 x1 x2 x3 x4 x5 x6 x7)
                  generalize store8 wr w.heap.size x0 x1 x2 x3 x4 x5 x6 x7 = W at *
                  clear c0 c1 c2 c3 c4 c5 c6 c7 r0 r1 r2 r3 r4 r5 r6 r7 f0 f1 f2 f3 f4 f5 f6 f7
                  obtain ⟨r0, r1, r2, r3, r4, r5, r6, r7⟩ := E1.out.all
                  refine bodyPost_ret (v := parseRet (some [x0, x1, x2, x3, x4, x5, x6, x7])) (by simp [results, Tryd.results37, go_sem, r0, r1, r2, r3, r4, r5, r6, r7, parseRet, arr8]) rfl ⟨by rw [HD.out], E2.out⟩
end Go.Proofs.YtickghbjhiegnaaDoor
/- Groups and their bytes; plain facts. -/
namespace Go.Proofs.YtickghbjhiegnaaDoor
open Go.RowKit
set_option linter.unusedVariables false
set_option maxRecDepth 20000

/-- The bytes of groups, the higher one first. -/
def byL (gs : List Nat) : List Nat := gs.flatMap fun x => [x / 256, x % 256]
def arr16 (l : List Nat) : Value := .agg (l.map fun n => Value.int .u8 ((n : Nat) : Int)).toArray
theorem byL_snoc (l : List Nat) (x : Nat) : byL (l ++ [x]) = byL l ++ [x / 256, x % 256] := by simp [byL]
theorem byL_len : ∀ l : List Nat, (byL l).length = 2 * l.length
  | [] => rfl
  | x :: r => by
    have ih := byL_len r
    show ([x / 256, x % 256] ++ byL r).length = _
    rw [List.length_append, ih, List.length_cons]
    simp
    omega
/-- Two bytes laid behind those of the first k groups. -/
theorem set_two (l : List Nat) (k a b : Nat) (hk : k < 8) (hl : l.length = 2 * k) : ((l ++ List.replicate (16 - 2 * k) 0).set (2 * k) a).set (2 * k + 1) b = (l ++ [a, b]) ++ List.replicate (16 - 2 * (k + 1)) 0 := by
  rw [show 16 - 2 * k = (16 - 2 * (k + 1)) + 1 + 1 by omega, List.replicate_succ, List.replicate_succ, List.set_append_right _ _ (by omega), hl, Nat.sub_self, List.set_cons_zero, List.set_append_right _ _ (by omega), hl, show 2 * k + 1 - 2 * k = 0 + 1 by omega, List.set_cons_succ, List.set_cons_zero]
  simp
/-- The groups of bytes. -/
def grL (bs : List Nat) : Nat → List Nat
  | 0 => []
  | k + 1 => grL bs k ++ [bs.getD (2 * k) 0 * 256 + bs.getD (2 * k + 1) 0]
theorem grL_len (bs : List Nat) : ∀ k, (grL bs k).length = k
  | 0 => rfl
  | k + 1 => by rw [grL, List.length_append, grL_len bs k]; rfl
theorem grL_byL (gs : List Nat) (h8 : gs.length = 8) : grL (byL gs) 8 = gs := by
  obtain ⟨x0, x1, x2, x3, x4, x5, x6, x7, rfl⟩ := list8 gs h8
  simp [grL, byL]
  omega
theorem byL_grL (bs : List Nat) (h : bs.length = 16) (hlt : ∀ x ∈ bs, x < 256) : byL (grL bs 8) = bs := by
  obtain ⟨y0, y1, y2, y3, y4, y5, y6, y7, y8, y9, y10, y11, y12, y13, y14, y15, rfl⟩ := list16 bs h
  simp at hlt
  simp [grL, byL]
  omega
theorem grL_lt (bs : List Nat) (hlt : ∀ x ∈ bs, x < 256) : ∀ k, ∀ x ∈ grL bs k, x < 65536
  | 0, x, h => by simp [grL] at h
  | k + 1, x, h => by
    rw [grL] at h
    rcases List.mem_append.1 h with h | h
    · exact grL_lt bs hlt k x h
    · have g : ∀ j, bs.getD j 0 < 256 := by
        intro j
        rw [List.getD_eq_getElem?_getD]
        cases hj : bs[j]? with
        | none => exact Nat.zero_lt_succ _
        | some v => exact hlt v (List.mem_of_getElem? hj)
      have h1 := g (2 * k)
      have h2 := g (2 * k + 1)
      rw [List.mem_singleton] at h
      omega
theorem byL_lt (gs : List Nat) (hlt : ∀ x ∈ gs, x < 65536) : ∀ x ∈ byL gs, x < 256 := by
  intro x hx
  obtain ⟨y, hy, h⟩ := List.mem_flatMap.1 hx
  have := hlt y hy
  simp at h
  omega
theorem set_one (l : List Nat) (k a : Nat) (hk : k < 8) (hl : l.length = k) : (l ++ List.replicate (8 - k) 0).set k a = (l ++ [a]) ++ List.replicate (8 - (k + 1)) 0 := by
  rw [show 8 - k = (8 - (k + 1)) + 1 by omega, List.replicate_succ, List.set_append_right _ _ (by omega), hl, Nat.sub_self, List.set_cons_zero]
  simp
end Go.Proofs.YtickghbjhiegnaaDoor
/- Addresses that a walk holds; loads of them, guarded or not, and of their bytes alone; sixteen bytes stored whole. -/
namespace Go.Proofs.YtickghbjhiegnaaDoor
open Go.RowKit
set_option linter.unusedVariables false
set_option maxRecDepth 20000

theorem HeldR.addr {L : List (Nat × Nat × List Value)} {W w : World} {G : Nat} {f : Int} {bs : List Nat} (h : HeldR L W w) (hA : AddrAt w G f bs) : HeldR ((G, 0, addrL f bs) :: L) W w := h.cons hA.range hA.lt
/-- An address of the list. -/
def InA (L : List (Nat × Nat × List Value)) (G : Nat) (f : Int) (bs : List Nat) : Prop := (G, 0, addrL f bs) ∈ L ∧ bs.length = 16
theorem yields_addr {ops : Array Oper} {op : Oper} {a : Act} {L : List (Nat × Nat × List Value)} {W : World} {G : Nat} {f : Int} {bs : List Nat} (hm : Hid (InA L G f bs)) (hw : Region.wanted op (yielded ops a.tmps) = true) (x : Operand) (ho : op.op = .load 25 x)
    (hx : a.eval x = .pointer (some ⟨G, 0, none⟩)) : YieldsIf Tryd.prog ops (HeldR L W) op (addrV f bs) a :=
  yieldsIf_load_mid hw 25 x ho G 0 hx (addrL f bs) _ (fun _ h => h.get hm.out.1) Tryd.underlying25 rfl (by rw [addr_size, addrL_len f bs hm.out.2])
theorem famR {L : List (Nat × Nat × List Value)} {G : Nat} {f : Int} {bs : List Nat} (h : InA L G f bs) (W : World) : CellR L W G 0 (.int .i64 f) := fun w hw => hw.cell h.1 0 _ rfl
/-- An address, loaded whole, guarded or not. -/
theorem load_addr_g {ops : Array Oper} {rest : List Oper} {op : Oper} {a : Act} {w : World} {Q : Exit → Act → World → Prop} {G : Nat} {f : Int} {bs : List Nat} (hA : Hid (AddrAt w G f bs)) (x : Operand) (hw : Region.wanted op (yielded ops a.tmps) = true) (ho : op.op = .load 25 x)
    (hx : a.eval x = .pointer (some ⟨G, 0, none⟩)) (h : wpList Tryd.prog ops Q rest (a.put op.dst (addrV f bs)) w) : wpList Tryd.prog ops Q (op :: rest) a w :=
  wpList_load_row hw 25 x ho G 0 hx (addrL f bs) _ hA.out.range Tryd.underlying25 rfl (by rw [addr_size, addrL_len f bs hA.out.len]) h
theorem drewN_below (w : World) (q : Nat) : Below w.heap.size w (w.drewN q) := ⟨rfl, rfl, rfl, Nat.le_refl _, fun _ _ => rfl⟩
theorem arr16_size : (Tryd.prog.info? 23).map (·.size) = some 16 := by kernel_rfl
/-- Sixteen bytes that lie somewhere. -/
structure B16 (w : World) (G o : Nat) (bs : List Nat) : Prop where
  len : bs.length = 16
  lt : G < w.heap.size
  range : w.rangeAt G o (bs.map fun n => Value.int .u8 ((n : Nat) : Int))
  there : w.there G o 16
theorem AddrAt.b16 {w : World} {G : Nat} {f : Int} {bs : List Nat} (h : AddrAt w G f bs) : B16 w G 1 bs := by
  refine ⟨h.len, h.lt, ?_, fun j hj => ?_⟩
  · intro j v hv
    have := h.range (j + 1) v (by rw [addrL, List.getElem?_cons_succ]; exact hv)
    rw [Nat.zero_add, Nat.add_comm] at this
    exact this
  · have := h.there (1 + j) (by omega)
    rw [Nat.zero_add] at this
    exact this
theorem B16.below {w w' : World} {G o : Nat} {bs : List Nat} (h : B16 w G o bs) (hb : Below w.heap.size w w') : B16 w' G o bs :=
  ⟨h.len, Nat.lt_of_lt_of_le h.lt hb.size, fun j v hv => by rw [hb.cell (p := ⟨G, o + j, none⟩) h.lt]; exact h.range j v hv, fun j hj => by
    rw [hb.cell (p := ⟨G, o + j, none⟩) h.lt, hb.frozen (p := ⟨G, o + j, none⟩) h.lt]
    exact h.there j hj⟩
/-- Sixteen bytes, loaded whole, guarded or not. -/
theorem load_b16 {ops : Array Oper} {rest : List Oper} {op : Oper} {a : Act} {w : World} {Q : Exit → Act → World → Prop} {G o : Nat} {bs : List Nat} (hA : Hid (B16 w G o bs)) (x : Operand) (hw : Region.wanted op (yielded ops a.tmps) = true) (ho : op.op = .load 23 x)
    (hx : a.eval x = .pointer (some ⟨G, o, none⟩)) (h : wpList Tryd.prog ops Q rest (a.put op.dst (arr16 bs)) w) : wpList Tryd.prog ops Q (op :: rest) a w :=
  wpList_load_row hw 23 x ho G o hx _ _ hA.out.range Tryd.underlying23 rfl (by rw [arr16_size, List.length_map, hA.out.len]) h
/-- Sixteen bytes, stored whole. -/
theorem store_b16 {ops : Array Oper} {rest : List Oper} {op : Oper} {a : Act} {w : World} {Q : Exit → Act → World → Prop} {G o : Nat} {bs0 : List Nat} (hA : Hid (B16 w G o bs0)) (x y : Operand) {bs : List Nat} (hl : Hid (bs.length = 16)) (hgd : op.guard = none) (ho : op.op = .store 23 x y)
    (hx : a.eval x = .pointer (some ⟨G, o, none⟩)) (hy : a.eval y = arr16 bs) (h : ∀ W, Hid (W = w.setCells G o (bs.map fun n => Value.int .u8 ((n : Nat) : Int))) → Hid (B16 W G o bs) → wpList Tryd.prog ops Q rest (a.put op.dst undef) W) : wpList Tryd.prog ops Q (op :: rest) a w := by
  have e1 : (bs.map fun n => Value.int .u8 ((n : Nat) : Int)).length = 16 := by rw [List.length_map, hl.out]
  refine wpList_store_mid hgd 23 x y ho G o (bs.map fun n => Value.int .u8 ((n : Nat) : Int)).toArray hx hy (by rw [List.size_toArray, e1]; exact hA.out.there) (by rw [arr16_size, List.size_toArray, e1]) (all_oneCell_toArray (fun v hv => by obtain ⟨n, _, rfl⟩ := List.mem_map.1 hv; rfl)) (h _ (Lib.hid rfl) (Lib.hid ⟨hl.out, by rw [size_setCells]; exact hA.out.lt, World.rangeAt_setCells_same _ _ _ _ (by rw [e1]; exact hA.out.there), World.there_setCells hA.out.there _ _ _⟩))
/-- Sixteen bytes, given back out of their cells. -/
theorem results_b16 {fn : Func} {a : Tmp} {tmps : Array Value} {W : World} {R : Nat} {bs : List Nat} (h : fn.results = #[.cell a 23]) (ha : tmps.getD a undef = .pointer (some ⟨R, 0, none⟩)) (hA : B16 W R 0 bs) : (results fn tmps).run Tryd.prog W = .ok (arr16 bs) W := by
  have hl : (loadVar 23 ⟨R, 0, none⟩).run Tryd.prog W = .ok (arr16 bs) W :=
    run_loadVar_mid W R 0 23 _ _ hA.range Tryd.underlying23 rfl (by rw [arr16_size, List.length_map, hA.len])
  rw [Array.getD_eq_getD_getElem?] at ha
  simp [results, h, ha, asAddr, hl]
/-- The cells of sixteen zeros. -/
abbrev z16 : Array Value := #[.int .u8 0, .int .u8 0, .int .u8 0, .int .u8 0, .int .u8 0, .int .u8 0, .int .u8 0, .int .u8 0, .int .u8 0, .int .u8 0, .int .u8 0, .int .u8 0, .int .u8 0, .int .u8 0, .int .u8 0, .int .u8 0]
theorem b16_new (w : World) (t : TypeId) (cs : Array Value) (bs : List Nat) (hl : bs.length = 16) (h : cs.toList = bs.map fun n => Value.int .u8 ((n : Nat) : Int)) : B16 (w.alloc (.cells cs t)) w.heap.size 0 bs := by
  have e : ∀ j, cs[j]? = (bs.map fun n => Value.int .u8 ((n : Nat) : Int))[j]? := fun j => by rw [← h, Array.getElem?_toList]
  refine ⟨hl, by simp, fun j v hv => ?_, fun j hj => ⟨?_, World.frozen?_alloc_new _ _ _ _⟩⟩
  · rw [World.cell?_alloc_new, Nat.zero_add, e]; exact hv
  · rw [World.cell?_alloc_new, Nat.zero_add, e, List.getElem?_map, List.getElem?_eq_getElem (by omega)]; rfl
/-- Sixteen bytes of the list. -/
def InB (L : List (Nat × Nat × List Value)) (G o : Nat) (bs : List Nat) : Prop := (G, o, bs.map fun n => Value.int .u8 ((n : Nat) : Int)) ∈ L ∧ bs.length = 16
theorem yields_b16 {ops : Array Oper} {op : Oper} {a : Act} {L : List (Nat × Nat × List Value)} {W : World} {G o : Nat} {bs : List Nat} (hm : Hid (InB L G o bs)) (hw : Region.wanted op (yielded ops a.tmps) = true) (x : Operand) (ho : op.op = .load 23 x)
    (hx : a.eval x = .pointer (some ⟨G, o, none⟩)) : YieldsIf Tryd.prog ops (HeldR L W) op (arr16 bs) a :=
  yieldsIf_load_mid hw 23 x ho G o hx _ _ (fun _ h => h.get hm.out.1) Tryd.underlying23 rfl (by rw [arr16_size, List.length_map, hm.out.2])
end Go.Proofs.YtickghbjhiegnaaDoor
/- The pieces of a text, read off its bytes: what a text is cut into, whatever it was put together of. -/
namespace Go.Proofs.YtickghbjhiegnaaDoor
open Go.RowKit
set_option linter.unusedVariables false
set_option maxRecDepth 20000

/-- Bytes, as a text. -/
def ofL (l : List UInt8) : ByteArray := ⟨l.toArray⟩
theorem ofL_data (l : List UInt8) : (ofL l).data.toList = l := by simp [ofL]
theorem ofL_size (l : List UInt8) : (ofL l).size = l.length := by simp [ofL, ByteArray.size]
theorem ofL_append (l m : List UInt8) : ofL l ++ ofL m = ofL (l ++ m) := bytes_ext (by rw [data_append, ofL_data, ofL_data, ofL_data])
theorem eq_ofL {s : ByteArray} {l : List UInt8} (h : s.data.toList = l) : s = ofL l := bytes_ext (by rw [h, ofL_data])

def cutL (sep : Nat) : List UInt8 → List (List UInt8)
  | [] => [[]]
  | c :: l => if c.toNat = sep then [] :: cutL sep l else
    match cutL sep l with
    | [] => [[c]]
    | x :: r => (c :: x) :: r
theorem cutL_none (sep : Nat) : ∀ l : List UInt8, (∀ c ∈ l, c.toNat ≠ sep) → cutL sep l = [l]
  | [], _ => rfl
  | c :: l, h => by
    rw [cutL, if_neg (h c (by simp)), cutL_none sep l (fun x hx => h x (by simp [hx]))]
theorem cutL_first (sep : Nat) (c : UInt8) (hc : c.toNat = sep) (r : List UInt8) : ∀ l : List UInt8, (∀ c ∈ l, c.toNat ≠ sep) → cutL sep (l ++ c :: r) = l :: cutL sep r
  | [], _ => by rw [List.nil_append, cutL, if_pos hc]
  | x :: l, h => by
    rw [List.cons_append, cutL, if_neg (h x (by simp)), cutL_first sep c hc r l (fun x hx => h x (by simp [hx]))]

theorem sp_cut (s : ByteArray) (sep : Nat) : ∀ k, k ≤ s.size →
    cutL sep s.data.toList = (sp s sep k).1.map (fun p => p.data.toList) ++ cutL sep (s.data.toList.drop (sp s sep k).2) ∧ ∀ j (hj : j < s.size), (sp s sep k).2 ≤ j → j < k → (s[j]).toNat ≠ sep
  | 0, _ => ⟨by simp [sp], fun j _ _ h => by omega⟩
  | k + 1, hk => by
    obtain ⟨h1, h2⟩ := sp_cut s sep k (by omega)
    have hle := sp_le s sep k
    have hkl : k < s.data.toList.length := by simp; omega
    by_cases hit : (s[k]).toNat = sep
    · rw [sp_hit s sep k (by omega) hit]
      refine ⟨?_, fun j _ h3 h4 => by simp at h3; omega⟩
      rw [h1]
      have e : s.data.toList.drop (sp s sep k).2 = (s.extract (sp s sep k).2 k).data.toList ++ s[k] :: s.data.toList.drop (k + 1) := by
        rw [data_extract]
        have e1 : s.data.toList.drop k = s[k] :: s.data.toList.drop (k + 1) := by
          rw [List.drop_eq_getElem_cons hkl]; rfl
        rw [← e1]
        have e2 : s.data.toList.drop k = (s.data.toList.drop (sp s sep k).2).drop (k - (sp s sep k).2) := by
          rw [List.drop_drop]; congr 1; omega
        rw [e2, List.take_append_drop]
      rw [e, cutL_first sep _ hit _ _ ?_]
      · simp
      · intro c hc
        rw [data_extract] at hc
        obtain ⟨i, hi, rfl⟩ := List.getElem_of_mem hc
        have hi2 : i < k - (sp s sep k).2 := by simp at hi; omega
        have := h2 ((sp s sep k).2 + i) (by omega) (by omega) (by omega)
        rw [getElem_data] at this
        simpa using this
    · rw [sp_miss s sep k (by omega) hit]
      refine ⟨h1, fun j hj h3 h4 => ?_⟩
      by_cases hjk : j = k
      · subst hjk; exact hit
      · exact h2 j hj h3 (by omega)
theorem pieces_cut (s : ByteArray) (sep : Nat) : pieces s sep = (cutL sep s.data.toList).map ofL := by
  obtain ⟨h1, h2⟩ := sp_cut s sep s.size (Nat.le_refl _)
  have hle := sp_le s sep s.size
  have e : (s.extract (sp s sep s.size).2 s.size).data.toList = s.data.toList.drop (sp s sep s.size).2 := by
    rw [data_extract]
    apply List.take_of_length_le
    simp
  have h3 : cutL sep (s.data.toList.drop (sp s sep s.size).2) = [s.data.toList.drop (sp s sep s.size).2] := by
    apply cutL_none
    intro c hc
    obtain ⟨i, hi, rfl⟩ := List.getElem_of_mem hc
    have hi2 : (sp s sep s.size).2 + i < s.size := by simp at hi; omega
    have := h2 ((sp s sep s.size).2 + i) hi2 (by omega) hi2
    rw [getElem_data] at this
    simpa using this
  rw [h1, h3, List.map_append, List.map_map]
  unfold pieces
  have e2 : (ofL ∘ fun p : ByteArray => p.data.toList) = id := by
    funext p
    simp [ofL]
  rw [e2, List.map_id]
  congr 1
  simp only [List.map_cons, List.map_nil]
  rw [← e, ← eq_ofL rfl]
theorem pieces_ofL (l : List UInt8) (sep : Nat) : pieces (ofL l) sep = (cutL sep l).map ofL := by rw [pieces_cut, ofL_data]
end Go.Proofs.YtickghbjhiegnaaDoor
/- Contracts of four.howRead, number, endsInNumber, and of the reference's Part: a part's number. -/
namespace Go.Proofs.YtickghbjhiegnaaDoor
open Go.RowKit
set_option linter.unusedVariables false
set_option maxRecDepth 20000

/-- A part's number. -/
def partB (p : ByteArray) : Option Nat :=
  if p.size = 0 then none else
  if 1 < p.size ∧ byteOf p 0 = 48 ∧ (byteOf p 1 = 120 ∨ byteOf p 1 = 88) then readB (p.extract 2 p.size) 16 else
  if 1 < p.size ∧ byteOf p 0 = 48 then readB (p.extract 1 p.size) 8 else readB p 10
theorem partB_le (p : ByteArray) (n : Nat) (h : partB p = some n) : n ≤ 4294967296 := by
  unfold partB at h
  split at h
  · cases h
  · split at h
    · exact readB_le _ _ _ h
    · split at h
      · exact readB_le _ _ _ h
      · exact readB_le _ _ _ h

theorem how_end (w : World) (b : Int) : (w.alloc (.cells #[.int .i64 b] 3)).cell? ⟨w.heap.size, 0, none⟩ = some (.int .i64 b) ∧ Below w.heap.size w (w.alloc (.cells #[.int .i64 b] 3)) :=
  ⟨by simp [World.cell?_alloc_new], (Below.refl _ _).alloc (Nat.le_refl _) _⟩

theorem two_bytes (p : ByteArray) (h : 1 < p.size) (a b : UInt8) : p.extract 0 2 = { data := #[a, b] } ↔ byteOf p 0 = a.toNat ∧ byteOf p 1 = b.toNat := by
  have e : (p.extract 0 2).data.toList = [p[0], p[1]] := by
    rw [data_extract, List.drop_zero]
    have h0 : 1 < p.data.toList.length := by simpa using h
    match hl : p.data.toList, h0 with
    | x :: y :: l, _ =>
      have e0 : p[0] = x := by rw [getElem_data]; simp [hl]
      have e1 : p[1] = y := by rw [getElem_data]; simp [hl]
      rw [e0, e1]; rfl
  rw [byteOf_eq p 0 (by omega), byteOf_eq p 1 h]
  constructor
  · intro h2
    rw [h2] at e
    simp at e
    rw [← e.1, ← e.2]
    exact ⟨rfl, rfl⟩
  · rintro ⟨h1, h2⟩
    apply bytes_ext
    rw [e]
    have a1 : p[0] = a := UInt8.toNat_inj.1 h1
    have a2 : p[1] = b := UInt8.toNat_inj.1 h2
    rw [a1, a2]

/-- Whether a text whose last part this is ends in a number. -/
def endsB (p : ByteArray) : Bool := decide (0 < p.size) && ((readB p 10).isSome || (partB p).isSome)

end Go.Proofs.YtickghbjhiegnaaDoor
/- Contracts of four.looseParts, join, Loose: the address of a loose text. -/
namespace Go.Proofs.YtickghbjhiegnaaDoor
open Go.RowKit
set_option linter.unusedVariables false
set_option maxRecDepth 20000

/-- The parts of a loose text. -/
def lparts (s : ByteArray) : List ByteArray :=
  if 1 < (pieces s 46).length ∧ ((pieces s 46).getD ((pieces s 46).length - 1) ⟨#[]⟩).size = 0 then (pieces s 46).take ((pieces s 46).length - 1) else pieces s 46
theorem lparts_pos (s : ByteArray) : 0 < (lparts s).length := by
  unfold lparts
  split
  · simp; omega
  · exact pieces_pos s 46
theorem lparts_small (s : ByteArray) : ∀ p ∈ lparts s, p.size ≤ s.size := by
  unfold lparts
  split
  · intro p hp; exact pieces_small s 46 p (List.mem_of_mem_take hp)
  · exact pieces_small s 46
theorem lparts_len (s : ByteArray) : (lparts s).length ≤ s.size + 1 := by
  have := pieces_len s 46
  unfold lparts
  split
  · simp; omega
  · exact this

/-- The number of the first k parts, each one byte. -/
def outTo (l : List ByteArray) : Nat → Option Nat
  | 0 => some 0
  | k + 1 => match outTo l k with
    | none => none
    | some m => match partB (l.getD k ⟨#[]⟩) with
      | none => none
      | some n => if 255 < n then none else some (m * 256 + n)
theorem outTo_lt (l : List ByteArray) : ∀ k m, outTo l k = some m → m < 256 ^ k
  | 0, m, h => by simp [outTo] at h; omega
  | k + 1, m, h => by
    rw [outTo] at h
    cases hk : outTo l k with
    | none => rw [hk] at h; cases h
    | some j =>
      have := outTo_lt l k j hk
      rw [hk] at h
      simp only at h
      split at h
      · cases h
      · split at h
        · cases h
        · have := Option.some.inj h
          rw [Nat.pow_succ]
          omega
theorem outTo_none (l : List ByteArray) (k : Nat) (h : outTo l k = none) : ∀ m, outTo l (k + m) = none
  | 0 => h
  | m + 1 => by rw [← Nat.add_assoc, outTo, outTo_none l k h m]
theorem outTo_dead {l : List ByteArray} {k n : Nat} (hk : k ≤ n) (h : outTo l k = none) : outTo l n = none := by
  have := outTo_none l k h (n - k)
  rwa [show k + (n - k) = n by omega] at this
/-- How many numbers a last part may have, behind k others. -/
def roomB (k : Nat) : Nat := 256 ^ (4 - k)
/-- The parts' address. -/
def joinP (l : List ByteArray) : Option Nat :=
  if 4 < l.length then none else
  match outTo l (l.length - 1) with
  | none => none
  | some m => match partB (l.getD (l.length - 1) ⟨#[]⟩) with
    | none => none
    | some n => if roomB (l.length - 1) ≤ n then none else some (m * roomB (l.length - 1) + n)
theorem room_lt (k m n : Nat) (hk : k ≤ 3) (hm : m < 256 ^ k) (hn : n < roomB k) : m * roomB k + n < 4294967296 := by
  unfold roomB at *
  have hp : k = 0 ∨ k = 1 ∨ k = 2 ∨ k = 3 := by omega
  rcases hp with rfl | rfl | rfl | rfl
  all_goals
    simp at *
    omega
theorem joinP_lt (l : List ByteArray) (a : Nat) (h : joinP l = some a) : a < 4294967296 := by
  unfold joinP at h
  split at h
  · cases h
  · split at h
    · cases h
    · rename_i hl _ m hm
      have hm := outTo_lt l _ m hm
      split at h
      · cases h
      · split at h
        · cases h
        · rename_i n _ hn
          have h := Option.some.inj h
          rw [← h]
          exact room_lt _ _ _ (by omega) hm (by omega)
theorem joinP_dead {l : List ByteArray} {k : Nat} (hk : k ≤ l.length - 1) (h : outTo l k = none) : joinP l = none := by
  unfold joinP
  split
  · rfl
  · rw [outTo_dead hk h]
def joinRet (o : Option Nat) : Value := .tuple #[.int .u32 ((o.getD 0 : Nat) : Int), .bool o.isSome]
theorem join_ret {o p : Option Nat} (h : o = p) : Ending.returned (joinRet o) = .returned (joinRet p) := by rw [h]

theorem join_some {l : List ByteArray} {a : Nat} {v : Int} (h : joinP l = some a) (hv : v = a) : Ending.returned (.tuple #[.int .u32 v, .bool true]) = .returned (joinRet (joinP l)) := by
  rw [h, hv]; rfl

/-- A loose text's address and kind. -/
def looseB (s : ByteArray) : Nat × Nat :=
  if endsB ((lparts s).getD ((lparts s).length - 1) ⟨#[]⟩) then
    match joinP (lparts s) with
    | none => (0, 1)
    | some a => (a, 2)
  else (0, 0)
def looseRet (r : Nat × Nat) : Value := .tuple #[.int .u32 ((r.1 : Nat) : Int), .int .i64 ((r.2 : Nat) : Int)]
theorem loose_ret {o p : Nat × Nat} (h : o = p) : Ending.returned (looseRet o) = .returned (looseRet p) := by rw [h]
theorem looseB_name {s : ByteArray} (h : endsB ((lparts s).getD ((lparts s).length - 1) ⟨#[]⟩) = false) : looseB s = (0, 0) := by
  unfold looseB; rw [h]; rfl
theorem looseB_bad {s : ByteArray} (h : endsB ((lparts s).getD ((lparts s).length - 1) ⟨#[]⟩) = true) (hj : joinP (lparts s) = none) : looseB s = (0, 1) := by
  unfold looseB; rw [h, hj]; rfl
theorem looseB_good {s : ByteArray} {a : Nat} (h : endsB ((lparts s).getD ((lparts s).length - 1) ⟨#[]⟩) = true) (hj : joinP (lparts s) = some a) : looseB s = (a, 2) := by
  unfold looseB; rw [h, hj]; rfl

theorem loose_example : looseB { data := #[48, 120, 55, 102, 46, 49] } = (2130706433, 2) := by kernel_rfl

end Go.Proofs.YtickghbjhiegnaaDoor
/- What numbers' digits are as parts of loose and of strict texts; plain facts, and four.Loose's contract at texts put together of such. -/
namespace Go.Proofs.YtickghbjhiegnaaDoor
open Go.RowKit
set_option linter.unusedVariables false
set_option maxRecDepth 20000

/-- Digits read one by one, 2^32 at most. -/
def readL (b : Nat) : Nat → List UInt8 → Option Nat
  | n, [] => some n
  | n, c :: l => if b ≤ digC c.toNat then none else readL b (min (n * b + digC c.toNat) 4294967296) l
theorem readL_append (b : Nat) (m : List UInt8) : ∀ (l : List UInt8) (n : Nat), readL b n (l ++ m) = match readL b n l with
    | none => none
    | some x => readL b x m
  | [], n => rfl
  | c :: l, n => by
    rw [List.cons_append, readL, readL]
    split
    · rfl
    · exact readL_append b m l _
theorem readTo_list (s : ByteArray) (b : Nat) : ∀ k, k ≤ s.size → readTo s b k = readL b 0 (s.data.toList.take k)
  | 0, _ => rfl
  | k + 1, h => by
    have hk : k < s.data.toList.length := by simp; omega
    rw [List.take_add_one, List.getElem?_eq_getElem hk, readL_append, ← readTo_list s b k (by omega), readTo]
    cases readTo s b k with
    | none => rfl
    | some n =>
      have e : byteOf s k = (s.data.toList[k]).toNat := by rw [byteOf_eq s k (by omega)]; rfl
      simp only [e, Option.toList, readL]
theorem readB_list (s : ByteArray) (b : Nat) : readB s b = readL b 0 s.data.toList := by
  unfold readB
  rw [readTo_list s b _ (Nat.le_refl _), List.take_of_length_le (by simp)]
theorem readB_ofL (l : List UInt8) (b : Nat) : readB (ofL l) b = readL b 0 l := by rw [readB_list, ofL_data]

theorem dec_mem (u : Nat) : ∀ c ∈ Lib.decDigits u, 48 ≤ c.toNat ∧ c.toNat ≤ 57 := by
  have one : ∀ d, d < 10 → 48 ≤ (UInt8.ofNat (48 + d)).toNat ∧ (UInt8.ofNat (48 + d)).toNat ≤ 57 := by
    intro d hd
    rw [UInt8.toNat_ofNat', Nat.mod_eq_of_lt (by omega)]
    omega
  induction u using Nat.strongRecOn with
  | _ u ih =>
    rw [Lib.decDigits]
    split
    · intro c hc
      simp at hc
      subst hc
      rw [show (48 : UInt8) + UInt8.ofNat u = UInt8.ofNat (48 + u) by simp]
      exact one u (by omega)
    · intro c hc
      rcases List.mem_append.1 hc with h | h
      · exact ih (u / 10) (by omega) c h
      · rw [List.mem_singleton] at h
        rw [h]
        exact one _ (by omega)
theorem dec_dot (u : Nat) : ∀ c ∈ Lib.decDigits u, c.toNat ≠ 46 := fun c hc => by have := dec_mem u c hc; omega
theorem dec_head (u : Nat) (h : 0 < u) : ∃ c l, Lib.decDigits u = c :: l ∧ c.toNat ≠ 48 := by
  induction u using Nat.strongRecOn with
  | _ u ih =>
    rw [Lib.decDigits]
    split
    · exact ⟨_, [], rfl, by rw [UInt8.toNat_ofNat', Nat.mod_eq_of_lt (by omega)]; omega⟩
    · obtain ⟨c, l, e, hc⟩ := ih (u / 10) (by omega) (by omega)
      exact ⟨c, l ++ [UInt8.ofNat (48 + u % 10)], by rw [e]; rfl, hc⟩
theorem dec_read (u : Nat) : readL 10 0 (Lib.decDigits u) = some (min u 4294967296) := by
  induction u using Nat.strongRecOn with
  | _ u ih =>
    rw [Lib.decDigits]
    split
    · rename_i h
      rw [readL, digC_dec u h, if_neg (by omega), readL]
      simp
    · rw [readL_append, ih (u / 10) (by omega)]
      simp only [readL]
      rw [digC_dec _ (by omega), if_neg (by omega)]
      congr 1
      omega

theorem byteOf_ofL (l : List UInt8) (k : Nat) : byteOf (ofL l) k = (l.getD k 0).toNat := by unfold byteOf; rw [ofL_data]
theorem partB_plain (l : List UInt8) (h0 : l ≠ []) (h : ¬ (1 < l.length ∧ (l.getD 0 0).toNat = 48)) : partB (ofL l) = readL 10 0 l := by
  have h1 : ¬ l.length = 0 := by intro h; exact h0 (List.eq_nil_of_length_eq_zero h)
  unfold partB
  rw [ofL_size, byteOf_ofL, if_neg h1, if_neg (by intro h2; exact h ⟨h2.1, h2.2.1⟩), if_neg h, readB_ofL]
theorem dec_nil (u : Nat) : Lib.decDigits u ≠ [] := by
  intro h
  have := dec_pos u
  rw [h] at this
  simp at this
theorem dec_lead (u : Nat) : ¬ (1 < (Lib.decDigits u).length ∧ ((Lib.decDigits u).getD 0 0).toNat = 48) := by
  rintro ⟨h1, h2⟩
  by_cases hu : u = 0
  · subst hu
    rw [Lib.decDigits] at h1
    simp at h1
  · obtain ⟨c, l, e, hc⟩ := dec_head u (by omega)
    rw [e] at h2
    exact hc (by simpa using h2)
theorem partB_dec (u : Nat) : partB (ofL (Lib.decDigits u)) = some (min u 4294967296) := by
  rw [partB_plain _ (dec_nil u) (dec_lead u), dec_read]
theorem partB_small (u : Nat) (h : u ≤ 4294967296) : partB (ofL (Lib.decDigits u)) = some u := by
  rw [partB_dec, Nat.min_eq_left h]
theorem octet_dec (u : Nat) (h : u < 256) : octet (ofL (Lib.decDigits u)) = some u := by
  have e : numB (ofL (Lib.decDigits u)) 10 = some u := by
    have := itoa_num (u : Int)
    rw [show Lib.itoa (u : Int) = Lib.decDigits u by unfold Lib.itoa; rw [if_neg (by omega)]; rfl, if_pos (by omega)] at this
    simp at this
    exact this
  unfold octet
  rw [e, ofL_size, byteOf_ofL]
  simp only [if_neg (show ¬ 255 < u by omega), if_neg (dec_lead u)]
theorem partB_hex (l : List UInt8) : partB (ofL (48 :: 120 :: l)) = readL 16 0 l := by
  unfold partB
  rw [if_neg (by rw [ofL_size]; simp), if_pos (by rw [ofL_size, byteOf_ofL, byteOf_ofL]; simp), readB_list, data_extract, ofL_data, ofL_size]
  simp
theorem partB_oct (c : UInt8) (l : List UInt8) (h1 : c.toNat ≠ 120) (h2 : c.toNat ≠ 88) : partB (ofL (48 :: c :: l)) = readL 8 0 (c :: l) := by
  unfold partB
  rw [if_neg (by rw [ofL_size]; simp), if_neg (by rw [ofL_size, byteOf_ofL, byteOf_ofL]; simp [h1, h2]), if_pos (by rw [ofL_size, byteOf_ofL]; simp), readB_list, data_extract, ofL_data, ofL_size]
  simp

/-- A part that ends in the letter a has no number, if it begins with a decimal number's digits. -/
theorem readL_bad (b : Nat) (hb : b ≤ 10) (l : List UInt8) (n : Nat) : readL b n (l ++ [97]) = none := by
  rw [readL_append]
  cases readL b n l with
  | none => rfl
  | some x =>
    have : digC (97 : UInt8).toNat = 10 := by decide
    simp only [readL, this, if_pos hb]
theorem partB_bad (u : Nat) : partB (ofL (Lib.decDigits u ++ [97])) = none ∧ readB (ofL (Lib.decDigits u ++ [97])) 10 = none := by
  refine ⟨?_, by rw [readB_ofL]; exact readL_bad 10 (by decide) _ _⟩
  by_cases hl : ((Lib.decDigits u ++ [97]).getD 0 0).toNat = 48
  · by_cases hu : u = 0
    · subst hu
      rw [show Lib.decDigits 0 ++ [97] = [48, 97] by rw [Lib.decDigits]; rfl, partB_oct _ _ (by decide) (by decide)]
      decide
    · obtain ⟨c, l, e, hc⟩ := dec_head u (by omega)
      rw [e] at hl
      exact absurd (by simpa using hl) hc
  · rw [partB_plain _ (by simp) (by intro h; exact hl h.2)]
    exact readL_bad 10 (by decide) _ _

theorem joinP1 (p : ByteArray) (v : Nat) (hp : partB p = some v) : joinP [p] = if 4294967296 ≤ v then none else some v := by
  unfold joinP
  simp [outTo, hp, roomB]
theorem joinP2 (p q : ByteArray) (a v : Nat) (hp : partB p = some a) (ha : a ≤ 255) (hq : partB q = some v) : joinP [p, q] = if 16777216 ≤ v then none else some (a * 16777216 + v) := by
  unfold joinP
  simp [outTo, hp, hq, roomB, show ¬ 255 < a by omega]
theorem joinP3 (p q r : ByteArray) (a b v : Nat) (hp : partB p = some a) (ha : a ≤ 255) (hq : partB q = some b) (hb : b ≤ 255) (hr : partB r = some v) : joinP [p, q, r] = if 65536 ≤ v then none else some ((a * 256 + b) * 65536 + v) := by
  unfold joinP
  simp [outTo, hp, hq, hr, roomB, show ¬ 255 < a by omega, show ¬ 255 < b by omega]
theorem joinP4 (p q r t : ByteArray) (a b c v : Nat) (hp : partB p = some a) (ha : a ≤ 255) (hq : partB q = some b) (hb : b ≤ 255) (hr : partB r = some c) (hc : c ≤ 255) (ht : partB t = some v) : joinP [p, q, r, t] = if 256 ≤ v then none else some (((a * 256 + b) * 256 + c) * 256 + v) := by
  unfold joinP
  simp [outTo, hp, hq, hr, ht, roomB, show ¬ 255 < a by omega, show ¬ 255 < b by omega, show ¬ 255 < c by omega]

theorem lparts_of {s : ByteArray} {l : List ByteArray} (h : pieces s 46 = l) (h2 : (l.getD (l.length - 1) ⟨#[]⟩).size ≠ 0) : lparts s = l := by
  unfold lparts
  rw [h, if_neg (by intro h3; exact h2 h3.2)]
theorem ofL_ne (l : List UInt8) (h : l ≠ []) : (ofL l).size ≠ 0 := by
  rw [ofL_size]; intro h2; exact h (List.eq_nil_of_length_eq_zero h2)
theorem lparts1 (A : List UInt8) (hA : ∀ c ∈ A, c.toNat ≠ 46) (h0 : A ≠ []) : lparts (ofL A) = [ofL A] :=
  lparts_of (by rw [pieces_ofL, cutL_none 46 A hA]; rfl) (by simpa using ofL_ne A h0)
theorem lparts2 (A B : List UInt8) (hA : ∀ c ∈ A, c.toNat ≠ 46) (hB : ∀ c ∈ B, c.toNat ≠ 46) (h0 : B ≠ []) : lparts (ofL (A ++ 46 :: B)) = [ofL A, ofL B] :=
  lparts_of (by rw [pieces_ofL, cutL_first 46 46 rfl B A hA, cutL_none 46 B hB]; rfl) (by simpa using ofL_ne B h0)
theorem lparts3 (A B C : List UInt8) (hA : ∀ c ∈ A, c.toNat ≠ 46) (hB : ∀ c ∈ B, c.toNat ≠ 46) (hC : ∀ c ∈ C, c.toNat ≠ 46) (h0 : C ≠ []) : lparts (ofL (A ++ 46 :: (B ++ 46 :: C))) = [ofL A, ofL B, ofL C] :=
  lparts_of (by rw [pieces_ofL, cutL_first 46 46 rfl _ A hA, cutL_first 46 46 rfl _ B hB, cutL_none 46 C hC]; rfl) (by simpa using ofL_ne C h0)
theorem cut4 (A B C D : List UInt8) (hA : ∀ c ∈ A, c.toNat ≠ 46) (hB : ∀ c ∈ B, c.toNat ≠ 46) (hC : ∀ c ∈ C, c.toNat ≠ 46) (hD : ∀ c ∈ D, c.toNat ≠ 46) : pieces (ofL (A ++ 46 :: (B ++ 46 :: (C ++ 46 :: D)))) 46 = [ofL A, ofL B, ofL C, ofL D] := by
  rw [pieces_ofL, cutL_first 46 46 rfl _ A hA, cutL_first 46 46 rfl _ B hB, cutL_first 46 46 rfl _ C hC, cutL_none 46 D hD]; rfl
theorem lparts4 (A B C D : List UInt8) (hA : ∀ c ∈ A, c.toNat ≠ 46) (hB : ∀ c ∈ B, c.toNat ≠ 46) (hC : ∀ c ∈ C, c.toNat ≠ 46) (hD : ∀ c ∈ D, c.toNat ≠ 46) (h0 : D ≠ []) : lparts (ofL (A ++ 46 :: (B ++ 46 :: (C ++ 46 :: D)))) = [ofL A, ofL B, ofL C, ofL D] :=
  lparts_of (cut4 A B C D hA hB hC hD) (by simpa using ofL_ne D h0)
theorem lparts4dot (A B C D : List UInt8) (hA : ∀ c ∈ A, c.toNat ≠ 46) (hB : ∀ c ∈ B, c.toNat ≠ 46) (hC : ∀ c ∈ C, c.toNat ≠ 46) (hD : ∀ c ∈ D, c.toNat ≠ 46) : lparts (ofL (A ++ 46 :: (B ++ 46 :: (C ++ 46 :: (D ++ 46 :: []))))) = [ofL A, ofL B, ofL C, ofL D] := by
  have h : pieces (ofL (A ++ 46 :: (B ++ 46 :: (C ++ 46 :: (D ++ 46 :: []))))) 46 = [ofL A, ofL B, ofL C, ofL D, ofL []] := by
    rw [pieces_ofL, cutL_first 46 46 rfl _ A hA, cutL_first 46 46 rfl _ B hB, cutL_first 46 46 rfl _ C hC, cutL_first 46 46 rfl _ D hD, cutL_none 46 [] (by simp)]; rfl
  unfold lparts
  rw [h, if_pos (by simp [ofL]; rfl)]
  rfl

theorem ends_of {x : ByteArray} {v : Nat} (h : partB x = some v) : endsB x = true := by
  have h0 : 0 < x.size := by
    rcases Nat.eq_zero_or_pos x.size with h0 | h0
    · unfold partB at h; rw [if_pos h0] at h; cases h
    · exact h0
  unfold endsB
  rw [h]
  simp [h0]
theorem looseB_parts {s : ByteArray} {l : List ByteArray} {v : Nat} (hl : lparts s = l) (he : partB (l.getD (l.length - 1) ⟨#[]⟩) = some v) : looseB s = match joinP l with
    | none => (0, 1)
    | some a => (a, 2) := by
  unfold looseB
  rw [hl, ends_of he]
  rfl
theorem looseB_no {s : ByteArray} {l : List ByteArray} (hl : lparts s = l) (he : partB (l.getD (l.length - 1) ⟨#[]⟩) = none) (hr : readB (l.getD (l.length - 1) ⟨#[]⟩) 10 = none) : looseB s = (0, 0) := by
  apply looseB_name
  rw [hl]
  unfold endsB
  rw [he, hr]
  simp

abbrev dec (u : Nat) : List UInt8 := Lib.decDigits u
theorem loose1 (v : Nat) : looseB (ofL (dec v)) = if 4294967296 ≤ v then (0, 1) else (v, 2) := by
  rw [looseB_parts (lparts1 _ (dec_dot v) (dec_nil v)) (by simpa using partB_dec v), joinP1 _ _ (partB_dec v)]
  by_cases h : 4294967296 ≤ v
  · rw [if_pos (by omega), if_pos h]
  · rw [if_neg (by omega), if_neg h, Nat.min_eq_left (by omega)]
theorem loose2 (x v : Nat) (hx : x < 256) (hv : v < 16777216) : looseB (ofL (dec x ++ 46 :: dec v)) = (x * 16777216 + v, 2) := by
  rw [looseB_parts (lparts2 _ _ (dec_dot x) (dec_dot v) (dec_nil v)) (by simpa using partB_dec v), joinP2 _ _ x v (partB_small x (by omega)) (by omega) (partB_small v (by omega)), if_neg (by omega)]
theorem loose2bad (x v : Nat) (hx : x < 256) (hv : 16777216 ≤ v) : looseB (ofL (dec x ++ 46 :: dec v)) = (0, 1) := by
  rw [looseB_parts (lparts2 _ _ (dec_dot x) (dec_dot v) (dec_nil v)) (by simpa using partB_dec v), joinP2 _ _ x _ (partB_small x (by omega)) (by omega) (partB_dec v), if_pos (by omega)]
theorem loose2no (x y : Nat) : looseB (ofL (dec x ++ 46 :: (dec y ++ [97]))) = (0, 0) :=
  looseB_no (lparts2 _ _ (dec_dot x) (fun c hc => by
    rcases List.mem_append.1 hc with h | h
    · exact dec_dot y c h
    · rw [List.mem_singleton] at h; rw [h]; decide) (by simp)) (by simpa using (partB_bad y).1) (by simpa using (partB_bad y).2)
theorem loose3 (x y v : Nat) (hx : x < 256) (hy : y < 256) (hv : v < 65536) : looseB (ofL (dec x ++ 46 :: (dec y ++ 46 :: dec v))) = ((x * 256 + y) * 65536 + v, 2) := by
  rw [looseB_parts (lparts3 _ _ _ (dec_dot x) (dec_dot y) (dec_dot v) (dec_nil v)) (by simpa using partB_dec v), joinP3 _ _ _ x y v (partB_small x (by omega)) (by omega) (partB_small y (by omega)) (by omega) (partB_small v (by omega)), if_neg (by omega)]
theorem loose4 (a b c d : Nat) (ha : a < 256) (hb : b < 256) (hc : c < 256) (hd : d < 256) : looseB (ofL (dec a ++ 46 :: (dec b ++ 46 :: (dec c ++ 46 :: dec d)))) = (((a * 256 + b) * 256 + c) * 256 + d, 2) := by
  rw [looseB_parts (lparts4 _ _ _ _ (dec_dot a) (dec_dot b) (dec_dot c) (dec_dot d) (dec_nil d)) (by simpa using partB_dec d), joinP4 _ _ _ _ a b c d (partB_small a (by omega)) (by omega) (partB_small b (by omega)) (by omega) (partB_small c (by omega)) (by omega) (partB_small d (by omega)), if_neg (by omega)]
theorem loose4dot (a b c d : Nat) (ha : a < 256) (hb : b < 256) (hc : c < 256) (hd : d < 256) : looseB (ofL (dec a ++ 46 :: (dec b ++ 46 :: (dec c ++ 46 :: (dec d ++ 46 :: []))))) = (((a * 256 + b) * 256 + c) * 256 + d, 2) := by
  rw [looseB_parts (lparts4dot _ _ _ _ (dec_dot a) (dec_dot b) (dec_dot c) (dec_dot d)) (by simpa using partB_dec d), joinP4 _ _ _ _ a b c d (partB_small a (by omega)) (by omega) (partB_small b (by omega)) (by omega) (partB_small c (by omega)) (by omega) (partB_small d (by omega)), if_neg (by omega)]
theorem strict4 (a b c d : Nat) (ha : a < 256) (hb : b < 256) (hc : c < 256) (hd : d < 256) : strictB (ofL (dec a ++ 46 :: (dec b ++ 46 :: (dec c ++ 46 :: dec d)))) = some (((a * 256 + b) * 256 + c) * 256 + d) := by
  unfold strictB
  rw [cut4 _ _ _ _ (dec_dot a) (dec_dot b) (dec_dot c) (dec_dot d)]
  simp [octTo, octet_dec a ha, octet_dec b hb, octet_dec c hc, octet_dec d hd]

theorem strict_list (s : ByteArray) (l : List UInt8) (r : Option Nat) (w : World) (hl : s.data.toList = l) (hn : l.length ≤ 1000) (hr : strictB (ofL l) = r) :
    Calls Tryd.prog 34 #[.string s] w fun e w' => e = .returned (strictRet r) ∧ Below w.heap.size w w' := by
  have hs := eq_ofL hl
  subst hs
  have := strict_any (ofL l) w (by rw [ofL_size]; omega)
  rw [hr] at this
  exact this
end Go.Proofs.YtickghbjhiegnaaDoor
/- An address of 32 bits, its text, and the contract of the reference's Print. -/
namespace Go.Proofs.YtickghbjhiegnaaDoor
open Go.RowKit
set_option linter.unusedVariables false
set_option maxRecDepth 20000

/-- The number of four bytes. -/
def num4 (a b c d : Nat) : Nat := ((a * 256 + b) * 256 + c) * 256 + d
theorem num4_ex (n : Nat) (h : n ≤ 4294967295) : ∃ a b c d : Nat, a < 256 ∧ b < 256 ∧ c < 256 ∧ d < 256 ∧ n = num4 a b c d :=
  ⟨n / 16777216, n / 65536 % 256, n / 256 % 256, n % 256, by omega, by omega, by omega, by omega, by unfold num4; omega⟩
theorem num4_inj {a b c d a' b' c' d' : Nat} (ha : a < 256) (hb : b < 256) (hc : c < 256) (hd : d < 256) (ha' : a' < 256) (hb' : b' < 256) (hc' : c' < 256) (hd' : d' < 256) (h : num4 a b c d = num4 a' b' c' d') : a = a' ∧ b = b' ∧ c = c' ∧ d = d' := by
  unfold num4 at h
  omega

def prR (a b c d : Nat) : Nat → List UInt8
  | 0 => []
  | 1 => dec d
  | 2 => dec c ++ 46 :: dec d
  | 3 => dec b ++ 46 :: (dec c ++ 46 :: dec d)
  | _ => dec a ++ 46 :: (dec b ++ 46 :: (dec c ++ 46 :: dec d))
def text4 (a b c d : Nat) : ByteArray := ofL (dec a ++ 46 :: (dec b ++ 46 :: (dec c ++ 46 :: dec d)))
theorem dec_small (u : Nat) (h : u < 256) : (dec u).length ≤ 21 := dec_length u (by omega)
theorem str_ret {s t : ByteArray} (h : s.data.toList = t.data.toList) : Ending.returned (.string s) = .returned (.string t) := by rw [bytes_ext h]

theorem refDecimal_ofL (u : Nat) (w : World) (h : u ≤ 9223372036854775807) :
    Calls Tryd.prog 64 #[.int .i64 (u : Int)] w fun e w' => e = .returned (.string (ofL (dec u))) ∧ Below w.heap.size w w' := refDecimal_nat u w h

set_option maxRecDepth 100000 in
set_option maxHeartbeats 4000000 in
theorem refPrint_any (a b c d n : Nat) (w : World) (ha : a < 256) (hb : b < 256) (hc : c < 256) (hd : d < 256) (hn : n = num4 a b c d) :
    Calls Tryd.prog 41 #[.int .u32 (n : Int)] w fun e w' => e = .returned (.string (text4 a b c d)) ∧ Below w.heap.size w w' := by
  have HN := Lib.hid hn
  have hle : n ≤ 4294967295 := by unfold num4 at hn; omega
  clear hn
  go_enter Tryd.func41, Tryd.ntmps41
  go_wp2_with fail
  go_loopw [0, 3, 4] (fun m s i wr => ∃ (k N : Nat) (S : ByteArray), k ≤ 4 ∧ i = .int .i64 k ∧ m = .int .u32 (N : Int) ∧ N ≤ 4294967295 ∧ s = .string S ∧ S.size ≤ 22 * k ∧ Hid (N = n / 256 ^ k) ∧ Hid (S.data.toList = prR a b c d k) ∧ Below w.heap.size w wr) (fun _ _ i _ => 4 - (intOf i).toNat)
  case atStart => exact ⟨0, n, _, by decide, rfl, rfl, hle, rfl, by decide, Lib.hid (by simp), Lib.hid rfl, Below.refl _ _⟩
  case round =>
    obtain ⟨k, N, S, hk, rfl, rfl, hNl, rfl, hS, HK, HS, hbel⟩ := hrel
    have hk5 : k = 0 ∨ k = 1 ∨ k = 2 ∨ k = 3 ∨ k = 4 := by omega
    rcases hk5 with rfl | rfl | rfl | rfl | rfl
    · have hl := dec_small d hd
      have hlz := ofL_size (dec d)
      have er : (N : Int) % 256 = (d : Int) := by
        have h1 := HK.out
        have h2 := HN.out
        unfold num4 at h2
        simp at h1
        omega
      go_wp2_with fail
      refine (refDecimal_ofL d _ (by omega)).mono ?_
      rintro e w2 ⟨rfl, hb2⟩
      generalize hD : ofL (dec d) = D at *
      have HD := Lib.hid hD
      clear hD
      have hDz : D.size ≤ 21 := by omega
      go_wp2_with fail
      go_roundw
      case rel => exact ⟨1, N / 256, _, by decide, rfl, by go_num, by omega, rfl, by simp [ByteArray.size_append] <;> (try show _ + (1 + _) ≤ _) <;> omega, Lib.hid (by have h1 := HK.out; simp at h1 ⊢; omega), Lib.hid (by rw [← HD.out]; simp only [data_append, ofL_data, HS.out]; simp [prR]), chain hbel hb2⟩
      case measure => simp [intOf]
    · have hl := dec_small c hc
      have hlz := ofL_size (dec c)
      have er : (N : Int) % 256 = (c : Int) := by
        have h1 := HK.out
        have h2 := HN.out
        unfold num4 at h2
        simp at h1
        omega
      go_wp2_with fail
      refine (refDecimal_ofL c _ (by omega)).mono ?_
      rintro e w2 ⟨rfl, hb2⟩
      generalize hD : ofL (dec c) = D at *
      have HD := Lib.hid hD
      clear hD
      have hDz : D.size ≤ 21 := by omega
      go_wp2_with fail
      go_roundw
      case rel => exact ⟨2, N / 256, _, by decide, rfl, by go_num, by omega, rfl, by simp [ByteArray.size_append] <;> (try show _ + (1 + _) ≤ _) <;> omega, Lib.hid (by have h1 := HK.out; simp at h1 ⊢; omega), Lib.hid (by rw [← HD.out]; simp only [data_append, ofL_data, HS.out]; simp [prR]), chain hbel hb2⟩
      case measure => simp [intOf]
    · have hl := dec_small b hb
      have hlz := ofL_size (dec b)
      have er : (N : Int) % 256 = (b : Int) := by
        have h1 := HK.out
        have h2 := HN.out
        unfold num4 at h2
        simp at h1
        omega
      go_wp2_with fail
      refine (refDecimal_ofL b _ (by omega)).mono ?_
      rintro e w2 ⟨rfl, hb2⟩
      generalize hD : ofL (dec b) = D at *
      have HD := Lib.hid hD
      clear hD
      have hDz : D.size ≤ 21 := by omega
      go_wp2_with fail
      go_roundw
      case rel => exact ⟨3, N / 256, _, by decide, rfl, by go_num, by omega, rfl, by simp [ByteArray.size_append] <;> (try show _ + (1 + _) ≤ _) <;> omega, Lib.hid (by have h1 := HK.out; simp at h1 ⊢; omega), Lib.hid (by rw [← HD.out]; simp only [data_append, ofL_data, HS.out]; simp [prR]), chain hbel hb2⟩
      case measure => simp [intOf]
    · have hl := dec_small a ha
      have hlz := ofL_size (dec a)
      have er : (N : Int) % 256 = (a : Int) := by
        have h1 := HK.out
        have h2 := HN.out
        unfold num4 at h2
        simp at h1
        omega
      go_wp2_with fail
      refine (refDecimal_ofL a _ (by omega)).mono ?_
      rintro e w2 ⟨rfl, hb2⟩
      generalize hD : ofL (dec a) = D at *
      have HD := Lib.hid hD
      clear hD
      have hDz : D.size ≤ 21 := by omega
      go_wp2_with fail
      go_roundw
      case rel => exact ⟨4, N / 256, _, by decide, rfl, by go_num, by omega, rfl, by simp [ByteArray.size_append] <;> (try show _ + (1 + _) ≤ _) <;> omega, Lib.hid (by have h1 := HK.out; simp at h1 ⊢; omega), Lib.hid (by rw [← HD.out]; simp only [data_append, ofL_data, HS.out]; simp [prR]), chain hbel hb2⟩
      case measure => simp [intOf]
    · go_wp2_with fail
      go_ret
      exact ⟨str_ret (by rw [HS.out]; unfold text4; rw [ofL_data]; rfl), hbel⟩
theorem text4_data (a b c d : Nat) : (text4 a b c d).data.toList = dec a ++ 46 :: (dec b ++ 46 :: (dec c ++ 46 :: dec d)) := ofL_data _
theorem text4_size (a b c d : Nat) (ha : a < 256) (hb : b < 256) (hc : c < 256) (hd : d < 256) : (text4 a b c d).size ≤ 90 := by
  have h1 := dec_small a ha
  have h2 := dec_small b hb
  have h3 := dec_small c hc
  have h4 := dec_small d hd
  unfold text4
  rw [ofL_size]
  simp only [dec] at *
  simp
  omega
theorem text4_strict (a b c d n : Nat) (ha : a < 256) (hb : b < 256) (hc : c < 256) (hd : d < 256) (hn : n = num4 a b c d) : strictB (text4 a b c d) = some n := by
  rw [hn]; exact strict4 a b c d ha hb hc hd
theorem text4_loose (a b c d n : Nat) (ha : a < 256) (hb : b < 256) (hc : c < 256) (hd : d < 256) (hn : n = num4 a b c d) : looseB (text4 a b c d) = (n, 2) := by
  rw [hn]; exact loose4 a b c d ha hb hc hd
theorem text4_dot (a b c d n : Nat) (X : ByteArray) (hX : X.data.toList = [46]) (ha : a < 256) (hb : b < 256) (hc : c < 256) (hd : d < 256) (hn : n = num4 a b c d) : looseB (text4 a b c d ++ X) = (n, 2) := by
  have e : text4 a b c d ++ X = ofL (dec a ++ 46 :: (dec b ++ 46 :: (dec c ++ 46 :: (dec d ++ 46 :: [])))) := eq_ofL (by
    rw [data_append, text4_data, hX]
    simp)
  rw [e, hn]
  exact loose4dot a b c d ha hb hc hd
end Go.Proofs.YtickghbjhiegnaaDoor
/- Contracts of the reference's Four, Groups, Of4, Of6 of layer 4. -/
namespace Go.Proofs.YtickghbjhiegnaaDoor
open Go.RowKit
set_option linter.unusedVariables false
set_option maxRecDepth 20000

theorem byte_lt {bs : List Nat} (h : ∀ x ∈ bs, x < 256) (j : Nat) : bs.getD j 0 < 256 := by
  rw [List.getD_eq_getElem?_getD]
  cases hj : bs[j]? with
  | none => exact Nat.zero_lt_succ _
  | some v => exact h v (List.mem_of_getElem? hj)
/-- The number of the first k bytes. -/
def fourTo (bs : List Nat) : Nat → Nat
  | 0 => 0
  | k + 1 => fourTo bs k * 256 + bs.getD k 0
def fourB (bs : List Nat) : Nat := fourTo bs 4
theorem fourTo_lt (bs : List Nat) (h : ∀ x ∈ bs, x < 256) : ∀ k, fourTo bs k < 256 ^ k
  | 0 => Nat.zero_lt_one
  | k + 1 => by
    have h1 := fourTo_lt bs h k
    have h2 := byte_lt h k
    rw [fourTo, Nat.pow_succ]
    omega
set_option maxRecDepth 100000 in
set_option maxHeartbeats 1000000 in
theorem refFour_any (f : Int) (bs : List Nat) (w : World) (h16 : bs.length = 16) (hlt : ∀ x ∈ bs, x < 256) :
    Calls Tryd.prog 23 #[addrV f bs] w fun e w' => e = .returned (.int .u32 ((fourB bs : Nat) : Int)) ∧ Below w.heap.size w w' := by
  have HLT := Lib.hid hlt
  obtain ⟨y0, y1, y2, y3, y4, y5, y6, y7, y8, y9, y10, y11, y12, y13, y14, y15, hbs⟩ := list16 bs h16
  have hA := AddrAt.new w 25 f y0 y1 y2 y3 y4 y5 y6 y7 y8 y9 y10 y11 y12 y13 y14 y15
  have b0 : Below w.heap.size w (w.alloc (.cells #[.int .i64 f, .int .u8 (y0 : Int), .int .u8 (y1 : Int), .int .u8 (y2 : Int), .int .u8 (y3 : Int), .int .u8 (y4 : Int), .int .u8 (y5 : Int), .int .u8 (y6 : Int), .int .u8 (y7 : Int), .int .u8 (y8 : Int), .int .u8 (y9 : Int), .int .u8 (y10 : Int), .int .u8 (y11 : Int), .int .u8 (y12 : Int), .int .u8 (y13 : Int), .int .u8 (y14 : Int), .int .u8 (y15 : Int)] 25)) := (Below.refl _ _).alloc (Nat.le_refl _) _
  have ha : addrV f bs = .agg #[.int .i64 f, .int .u8 (y0 : Int), .int .u8 (y1 : Int), .int .u8 (y2 : Int), .int .u8 (y3 : Int), .int .u8 (y4 : Int), .int .u8 (y5 : Int), .int .u8 (y6 : Int), .int .u8 (y7 : Int), .int .u8 (y8 : Int), .int .u8 (y9 : Int), .int .u8 (y10 : Int), .int .u8 (y11 : Int), .int .u8 (y12 : Int), .int .u8 (y13 : Int), .int .u8 (y14 : Int), .int .u8 (y15 : Int)] := by rw [hbs]; rfl
  rw [← hbs] at hA
  rw [ha]
  clear ha hbs hlt h16
  go_enter Tryd.func23, Tryd.ntmps23
  go_wp2_with fail
  generalize (w.alloc (.cells #[.int .i64 f, .int .u8 (y0 : Int), .int .u8 (y1 : Int), .int .u8 (y2 : Int), .int .u8 (y3 : Int), .int .u8 (y4 : Int), .int .u8 (y5 : Int), .int .u8 (y6 : Int), .int .u8 (y7 : Int), .int .u8 (y8 : Int), .int .u8 (y9 : Int), .int .u8 (y10 : Int), .int .u8 (y11 : Int), .int .u8 (y12 : Int), .int .u8 (y13 : Int), .int .u8 (y14 : Int), .int .u8 (y15 : Int)] 25)) = W at *
  have HA := Lib.hid hA
  clear hA
  go_loop [3, 4] (fun t i => ∃ k X : Nat, k ≤ 4 ∧ i = .int .i64 k ∧ t = .int .u32 (X : Int) ∧ X < 256 ^ k ∧ Hid (X = fourTo bs k)) (fun _ i => 4 - (intOf i).toNat)
  case atStart => exact ⟨0, 0, by decide, rfl, rfl, by decide, Lib.hid rfl⟩
  case round =>
    obtain ⟨k, X, hk, rfl, rfl, hX, HX⟩ := hrel
    by_cases hk4 : k < 4
    · have hcell := HA.out.cells k (by omega)
      have hy := byte_lt HLT.out k
      obtain ⟨y, ey⟩ : ∃ y, bs.getD k 0 = y := ⟨_, rfl⟩
      rw [ey] at hcell hy
      have HY := Lib.hid ey
      clear ey
      have hXb : X ≤ 16777215 := by
        have : X < 256 ^ 3 := Nat.lt_of_lt_of_le hX (Nat.pow_le_pow_right (by decide) (by omega))
        omega
      have q1 : IntKind.u32.wrap ((X : Int) * 256) = (X : Int) * 256 := by rw [IntKind.wrap_u32]; omega
      obtain ⟨Z, hZ, eZ⟩ : ∃ Z : Nat, X * 256 + y = Z ∧ (X : Int) * 256 + (y : Int) = (Z : Int) := ⟨_, rfl, by omega⟩
      have q2 : IntKind.u32.wrap (Z : Int) = (Z : Int) := by rw [IntKind.wrap_u32]; omega
      have hk16 : (k : Int) < 16 := by omega
      have hZ2 : Z < 256 ^ (k + 1) := by rw [Nat.pow_succ]; omega
      have HZ : Hid (Z = fourTo bs (k + 1)) := Lib.hid (by rw [fourTo, ← HX.out, HY.out, hZ])
      clear hZ hX
      go_wp2_with fail
      go_round
      case rel => exact ⟨k + 1, Z, by omega, by go_num, by go_num, hZ2, HZ⟩
      case measure => simp [intOf]; omega
    · obtain rfl : k = 4 := by omega
      go_wp2_with fail
      go_ret
      exact ⟨by rw [HX.out]; rfl, b0⟩

set_option maxRecDepth 100000 in
set_option maxHeartbeats 2000000 in
theorem refGroups4_any (f : Int) (bs : List Nat) (w : World) (h16 : bs.length = 16) (hlt : ∀ x ∈ bs, x < 256) :
    Calls Tryd.prog 43 #[addrV f bs] w fun e w' => e = .returned (arr8 (grL bs 8)) ∧ Below w.heap.size w w' := by
  obtain ⟨y0, y1, y2, y3, y4, y5, y6, y7, y8, y9, y10, y11, y12, y13, y14, y15, hbs⟩ := list16 bs h16
  have ha : addrV f bs = .agg #[.int .i64 f, .int .u8 (y0 : Int), .int .u8 (y1 : Int), .int .u8 (y2 : Int), .int .u8 (y3 : Int), .int .u8 (y4 : Int), .int .u8 (y5 : Int), .int .u8 (y6 : Int), .int .u8 (y7 : Int), .int .u8 (y8 : Int), .int .u8 (y9 : Int), .int .u8 (y10 : Int), .int .u8 (y11 : Int), .int .u8 (y12 : Int), .int .u8 (y13 : Int), .int .u8 (y14 : Int), .int .u8 (y15 : Int)] := by rw [hbs]; rfl
  have hB := AddrAt.new w 25 f y0 y1 y2 y3 y4 y5 y6 y7 y8 y9 y10 y11 y12 y13 y14 y15
  rw [← hbs] at hB
  have b1 : Below w.heap.size w (w.alloc (.cells #[.int .i64 f, .int .u8 (y0 : Int), .int .u8 (y1 : Int), .int .u8 (y2 : Int), .int .u8 (y3 : Int), .int .u8 (y4 : Int), .int .u8 (y5 : Int), .int .u8 (y6 : Int), .int .u8 (y7 : Int), .int .u8 (y8 : Int), .int .u8 (y9 : Int), .int .u8 (y10 : Int), .int .u8 (y11 : Int), .int .u8 (y12 : Int), .int .u8 (y13 : Int), .int .u8 (y14 : Int), .int .u8 (y15 : Int)] 25)) := (Below.refl _ _).alloc (Nat.le_refl _) _
  have b2 := b1.alloc b1.size (.cells #[.int .u16 0, .int .u16 0, .int .u16 0, .int .u16 0, .int .u16 0, .int .u16 0, .int .u16 0, .int .u16 0] 33)
  have b3 := b2.alloc b2.size (.cells #[.int .u16 0, .int .u16 0, .int .u16 0, .int .u16 0, .int .u16 0, .int .u16 0, .int .u16 0, .int .u16 0] 33)
  have hR := Arr8.zero (w.alloc (.cells #[.int .i64 f, .int .u8 (y0 : Int), .int .u8 (y1 : Int), .int .u8 (y2 : Int), .int .u8 (y3 : Int), .int .u8 (y4 : Int), .int .u8 (y5 : Int), .int .u8 (y6 : Int), .int .u8 (y7 : Int), .int .u8 (y8 : Int), .int .u8 (y9 : Int), .int .u8 (y10 : Int), .int .u8 (y11 : Int), .int .u8 (y12 : Int), .int .u8 (y13 : Int), .int .u8 (y14 : Int), .int .u8 (y15 : Int)] 25)) 33
  have hP := Arr8.zero ((w.alloc (.cells #[.int .i64 f, .int .u8 (y0 : Int), .int .u8 (y1 : Int), .int .u8 (y2 : Int), .int .u8 (y3 : Int), .int .u8 (y4 : Int), .int .u8 (y5 : Int), .int .u8 (y6 : Int), .int .u8 (y7 : Int), .int .u8 (y8 : Int), .int .u8 (y9 : Int), .int .u8 (y10 : Int), .int .u8 (y11 : Int), .int .u8 (y12 : Int), .int .u8 (y13 : Int), .int .u8 (y14 : Int), .int .u8 (y15 : Int)] 25)).alloc (.cells #[.int .u16 0, .int .u16 0, .int .u16 0, .int .u16 0, .int .u16 0, .int .u16 0, .int .u16 0, .int .u16 0] 33)) 33
  have hB2 := (hB.below ((Below.refl _ _).alloc (Nat.le_refl _) (.cells #[.int .u16 0, .int .u16 0, .int .u16 0, .int .u16 0, .int .u16 0, .int .u16 0, .int .u16 0, .int .u16 0] 33))).below ((Below.refl _ _).alloc (Nat.le_refl _) (.cells #[.int .u16 0, .int .u16 0, .int .u16 0, .int .u16 0, .int .u16 0, .int .u16 0, .int .u16 0, .int .u16 0] 33))
  have hR2 := hR.below ((Below.refl _ _).alloc (Nat.le_refl _) (.cells #[.int .u16 0, .int .u16 0, .int .u16 0, .int .u16 0, .int .u16 0, .int .u16 0, .int .u16 0, .int .u16 0] 33))
  have e1 : (w.alloc (.cells #[.int .i64 f, .int .u8 (y0 : Int), .int .u8 (y1 : Int), .int .u8 (y2 : Int), .int .u8 (y3 : Int), .int .u8 (y4 : Int), .int .u8 (y5 : Int), .int .u8 (y6 : Int), .int .u8 (y7 : Int), .int .u8 (y8 : Int), .int .u8 (y9 : Int), .int .u8 (y10 : Int), .int .u8 (y11 : Int), .int .u8 (y12 : Int), .int .u8 (y13 : Int), .int .u8 (y14 : Int), .int .u8 (y15 : Int)] 25)).heap.size = w.heap.size + 1 := by simp
  have e2 : ((w.alloc (.cells #[.int .i64 f, .int .u8 (y0 : Int), .int .u8 (y1 : Int), .int .u8 (y2 : Int), .int .u8 (y3 : Int), .int .u8 (y4 : Int), .int .u8 (y5 : Int), .int .u8 (y6 : Int), .int .u8 (y7 : Int), .int .u8 (y8 : Int), .int .u8 (y9 : Int), .int .u8 (y10 : Int), .int .u8 (y11 : Int), .int .u8 (y12 : Int), .int .u8 (y13 : Int), .int .u8 (y14 : Int), .int .u8 (y15 : Int)] 25)).alloc (.cells #[.int .u16 0, .int .u16 0, .int .u16 0, .int .u16 0, .int .u16 0, .int .u16 0, .int .u16 0, .int .u16 0] 33)).heap.size = w.heap.size + 1 + 1 := by simp
  rw [e1] at hR2
  rw [e2] at hP
  rw [ha]
  have HLT := Lib.hid hlt
  clear ha hbs h16 hlt hB hR b1 b2
  go_enter Tryd.func43, Tryd.ntmps43
  go_wp2_with fail
  generalize (((w.alloc (.cells #[.int .i64 f, .int .u8 (y0 : Int), .int .u8 (y1 : Int), .int .u8 (y2 : Int), .int .u8 (y3 : Int), .int .u8 (y4 : Int), .int .u8 (y5 : Int), .int .u8 (y6 : Int), .int .u8 (y7 : Int), .int .u8 (y8 : Int), .int .u8 (y9 : Int), .int .u8 (y10 : Int), .int .u8 (y11 : Int), .int .u8 (y12 : Int), .int .u8 (y13 : Int), .int .u8 (y14 : Int), .int .u8 (y15 : Int)] 25)).alloc (.cells #[.int .u16 0, .int .u16 0, .int .u16 0, .int .u16 0, .int .u16 0, .int .u16 0, .int .u16 0, .int .u16 0] 33)).alloc (.cells #[.int .u16 0, .int .u16 0, .int .u16 0, .int .u16 0, .int .u16 0, .int .u16 0, .int .u16 0, .int .u16 0] 33)) = W at *
  clear e1 e2
  have HB := Lib.hid hB2
  have HR := Lib.hid hR2
  have HP := Lib.hid hP
  clear hB2 hR2 hP
  go_loopw [4] (fun i wr => ∃ (k : Nat) (l : List Nat), k ≤ 8 ∧ i = .int .i64 k ∧ Hid (AddrAt wr w.heap.size f bs) ∧ Hid (Arr8 wr (w.heap.size + 1) [0, 0, 0, 0, 0, 0, 0, 0]) ∧ Hid (Arr8 wr (w.heap.size + 1 + 1) l) ∧ Hid (l = grL bs k ++ List.replicate (8 - k) 0) ∧ Below w.heap.size w wr) (fun i _ => 8 - (intOf i).toNat)
  case atStart => exact ⟨0, _, by decide, rfl, HB, HR, HP, Lib.hid rfl, b3⟩
  case round =>
    obtain ⟨k, l, hk, rfl, HB2, HR2, HP2, HL, hbel⟩ := hrel
    by_cases hk8 : k < 8
    · obtain ⟨c, hc, ec⟩ : ∃ c : Nat, 2 * k = c ∧ (2 : Int) * (k : Int) = (c : Int) := ⟨_, rfl, by omega⟩
      have hc0 := HB2.out.cells c (by omega)
      have hc1 := HB2.out.cells (c + 1) (by omega)
      have hh := byte_lt HLT.out c
      have hl := byte_lt HLT.out (c + 1)
      obtain ⟨x, ex⟩ : ∃ x, bs.getD c 0 = x := ⟨_, rfl⟩
      obtain ⟨y, ey⟩ : ∃ y, bs.getD (c + 1) 0 = y := ⟨_, rfl⟩
      rw [ex] at hc0 hh
      rw [ey] at hc1 hl
      have hc15 : c + 1 < 16 := by omega
      have k1 : (k : Int) < 8 := by omega
      have c1 : (c : Int) < 16 := by omega
      have c2 : (c : Int) + 1 < 16 := by omega
      have q1 : IntKind.u16.wrap ((x : Int) * 256) = (x : Int) * 256 := by rw [IntKind.wrap_u16]; omega
      obtain ⟨v, hv, ev⟩ : ∃ v : Nat, x * 256 + y = v ∧ (x : Int) * 256 + (y : Int) = (v : Int) := ⟨_, rfl, by omega⟩
      have q2 : IntKind.u16.wrap (v : Int) = (v : Int) := by rw [IntKind.wrap_u16]; omega
      have hp0 := HP2.out.cells k hk8
      have hl0 := HP2.out.live k hk8
      have HS := Lib.hid (HP2.out.set hk8 v)
      have HE : Hid (l.set k v = grL bs (k + 1) ++ List.replicate (8 - (k + 1)) 0) := Lib.hid (by
        rw [HL.out, grL, hc, ex, ey, hv]
        exact set_one _ k _ hk8 (grL_len bs k))
      generalize l.getD k 0 = o0 at hp0
      clear ex ey hc hv
      go_wp2_with fail
      go_region
      go_wp2_with fail
      go_roundw
      case rel => exact ⟨k + 1, l.set k v, by omega, by go_num, Lib.hid ((HB2.out.other (by omega) _).below (Below.refl _ _).drew), Lib.hid ((HR2.out.other (by omega) _).below (Below.refl _ _).drew), Lib.hid (HS.out.below (Below.refl _ _).drew), HE, (hbel.setCell (p := ⟨w.heap.size + 1 + 1, k, none⟩) (by show w.heap.size ≤ w.heap.size + 1 + 1; omega) _).drew⟩
      case measure => simp [intOf]; omega
    · obtain rfl : k = 8 := by omega
      have hll : l = grL bs 8 := by rw [HL.out]; simp
      subst hll
      have hP8 := HP2.out
      obtain ⟨x0, x1, x2, x3, x4, x5, x6, x7, hx⟩ := list8 (grL bs 8) hP8.len
      rw [hx] at hP8
      have HX := Lib.hid hx
      obtain ⟨c0, c1, c2, c3, c4, c5, c6, c7⟩ := hP8.all
      obtain ⟨r0, r1, r2, r3, r4, r5, r6, r7⟩ := HR2.out.all
      obtain ⟨f0, f1, f2, f3, f4, f5, f6, f7⟩ := HR2.out.lives
      have E1 := Lib.hid (store8_arr x0 x1 x2 x3 x4 x5 x6 x7 HR2.out)
      have E2 := Lib.hid (store8_below x0 x1 x2 x3 x4 x5 x6 x7 hbel (show w.heap.size ≤ w.heap.size + 1 by omega))
      clear hP8 hx
      go_wp2_with fail
      change bodyPost _ _ _ _ _ (store8 wr (w.heap.size + 1) x0 x1 x2 x3 x4 x5 x6 x7)
      generalize store8 wr (w.heap.size + 1) x0 x1 x2 x3 x4 x5 x6 x7 = W at *
      clear c0 c1 c2 c3 c4 c5 c6 c7 r0 r1 r2 r3 r4 r5 r6 r7 f0 f1 f2 f3 f4 f5 f6 f7
      obtain ⟨r0, r1, r2, r3, r4, r5, r6, r7⟩ := E1.out.all
      refine bodyPost_ret (v := arr8 [x0, x1, x2, x3, x4, x5, x6, x7]) (by simp [results, Tryd.results43, go_sem, r0, r1, r2, r3, r4, r5, r6, r7, arr8]) rfl ⟨by rw [HX.out], E2.out⟩
end Go.Proofs.YtickghbjhiegnaaDoor
