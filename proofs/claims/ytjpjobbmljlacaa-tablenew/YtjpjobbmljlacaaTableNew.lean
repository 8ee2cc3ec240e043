/- A table that is made of entries is what setting them one by one leaves. -/
import Derived.Test.YtjpjobbmljlacaaB7
import Derived.Test.YtjpjobbmljlacaaRows
import Derived.ProofKit
import Derived.OpenShut
import Derived.ShutString
import Derived.ChangeOld
import Derived.Below
namespace Go.Proofs.Ytjpjobbmljlacaa.tableNew
open Go.ChangeShapes Go.WideShapes Go.ChangeAt Go.RowKit
open Go.ChangeMaps (open_string shut_string)
set_option linter.unusedVariables false
set_option maxRecDepth 20000

theorem own : ownKnob Try.prog.godebug = none := by kernel_rfl

def rawOf (d : DeedD) : Raw := ⟨deedF d, deedB d, deedN d, d.v⟩
def rawsOf (D : List DeedD) (k : Nat) : List Raw := (D.take k).map rawOf
def allE (D : List DeedD) (k : Nat) : List Ent := (D.take k).foldl (fun es d => setE es (deedF d) (deedB d) (deedN d) d.v) []
theorem raws_len (D : List DeedD) (k : Nat) : (rawsOf D k).length ≤ k := by simp only [rawsOf, List.length_map, List.length_take]; omega
theorem raws_succ (D : List DeedD) (k : Nat) (hk : k < D.length) : rawsOf D (k + 1) = rawsOf D k ++ [rawOf D[k]] := by
  unfold rawsOf
  rw [List.take_succ_eq_append_getElem hk, List.map_append]
  rfl
theorem allE_succ (D : List DeedD) (k : Nat) (hk : k < D.length) : allE D (k + 1) = setE (allE D k) (rawOf D[k]).f (rawOf D[k]).b (rawOf D[k]).n (rawOf D[k]).v := foldl_take (fun (es : List Ent) (d : DeedD) => setE es (deedF d) (deedB d) (deedN d) d.v) [] D k hk
theorem newE_raws (D : List DeedD) (k : Nat) : newE (rawsOf D k) (rawsOf D k).length = allE D k := by
  unfold newE allE
  rw [List.take_length]
  unfold rawsOf
  rw [List.foldl_map]
  rfl
theorem allE_len (D : List DeedD) (k : Nat) : (allE D k).length ≤ k := by
  rw [← newE_raws]; exact Nat.le_trans (newE_len _ _) (raws_len D k)
theorem raw_ok (d : DeedD) (h : d.Ok) : (rawOf d).Ok := by
  obtain ⟨_, h1, h2, h3, h4⟩ := h
  have hg := goodP_is d.f d.b d.n
  have hb := bitsN_le (goodF d.f)
  unfold rawOf deedF deedB deedN
  cases d.raw with
  | true => exact ⟨h1, h2, h3, h4⟩
  | false => exact ⟨hg.len, hg.lt, wf_small (by have := hg.le; omega), h4⟩
theorem raws_ok (D : List DeedD) (k : Nat) (h : ∀ d ∈ D, d.Ok) : AllOk (rawsOf D k) := fun r hr => by
  obtain ⟨d, hd, rfl⟩ := List.mem_map.1 hr
  exact raw_ok d (h d (List.mem_of_mem_take hd))
/-- A row of raw entries of one's own. -/
def RowX (w : World) (base : Nat) (v : Value) (rs : List Raw) : Prop := w.ownsRow base 42 19 v rs.length (flatR rs)
theorem rowX_keep {w w' : World} {base : Nat} {v : Value} {rs : List Raw} (h : RowX w base v rs) (hb : ∀ g, v.ownBlock = some g → w'.heap[g]? = w.heap[g]?) : RowX w' base v rs := by
  obtain ⟨h1, h2⟩ := h
  refine ⟨h1, ?_⟩
  rcases h2 with h2 | ⟨g, cap, cur, e1, e2, e3, e4⟩
  · exact .inl h2
  · refine .inr ⟨g, cap, cur, e1, e2, ?_, e4⟩
    rw [hb g (by rw [e1]; rfl)]
    exact e3
theorem rowX_below {w w' : World} {base : Nat} {v : Value} {rs : List Raw} (h : RowX w base v rs) (hb : Below w.heap.size w w') : RowX w' base v rs := rowX_keep h (fun g hg => hb.block g (World.ownsRow.lt h g hg).2)
theorem rowX_form {w : World} {base : Nat} {v : Value} {rs : List Raw} (h : RowX w base v rs) : (v = .slice none 0 0 ∧ rs = []) ∨ ∃ g cap, v = .slice (some ⟨g, 0, none⟩) rs.length cap ∧ g < w.heap.size ∧ w.rangeAt g 0 (flatR rs) := by
  obtain ⟨h1, h2⟩ := h
  rcases h2 with ⟨e1, e2⟩ | ⟨g, cap, cur, e1, e2, e3, e4, e5, e6, e7⟩
  · exact .inl ⟨e1, List.eq_nil_of_length_eq_zero e2⟩
  · refine .inr ⟨g, cap, e1, ?_, fun j u hu => ?_⟩
    · apply Classical.byContradiction
      intro h
      rw [Array.getElem?_eq_none (by omega)] at e3
      cases e3
    · rw [Nat.zero_add, cell_of_row w g j cur _ _ e3, ← Array.getElem?_toList]
      rw [← e7, List.getElem?_take] at hu
      split at hu
      · exact hu
      · cases hu
theorem new_raw (v : Value) (rs : List Raw) (w : World) (base : Nat) (h : RowX w base v rs) (hok : AllOk rs) (hle : rs.length ≤ 900) :
    Calls Try.prog 9 #[v] w fun e w' => ∃ G F, e = .returned (.pointer (some ⟨G, 0, none⟩)) ∧ TabAt w' G (newE rs rs.length) 0 F ∧ (∀ k ∈ F, w.heap.size ≤ k) ∧ Below w.heap.size w w' := by
  rcases rowX_form h with ⟨rfl, rfl⟩ | ⟨g, cap, rfl, hg, hr⟩
  · exact new_nil w
  · exact new_some g cap rs w hr hg hok hle
theorem flatR_append (xs ys : List Raw) : flatR (xs ++ ys) = flatR xs ++ flatR ys := by simp [flatR]
theorem flatR_single (r : Raw) : flatR [r] = r.L := by simp [flatR]
/-- One raw entry appended. -/
theorem wp_append_raw {op : Oper} {a : Act} {w : World} {K : Act → World → Prop} {Q : Exit → Act → World → Prop} {base : Nat} {v : Value} {rs : List Raw} (hX : Hid (RowX w base v rs)) (r : Raw) (hr : Hid r.Ok) (s x : Operand) (ho : op.op = .call { callee := .builtin .append, args := #[s, x], argTypes := #[57, 57] })
    (hs : a.eval s = v) {G c : Nat} (hx : a.eval x = .slice (some ⟨G, 0, none⟩) 1 c) (hrg : Hid (w.rangeAt G 0 r.L)) (hle : Hid (rs.length ≤ 900)) (hbase : Hid (base ≤ w.heap.size))
    (h : ∀ v' w', Hid (RowX w' base v' (rs ++ [r])) → Hid (w.grownBy w' v.ownBlock) → Hid (v'.ownBlock = v.ownBlock ∨ v'.ownBlock = some w.heap.size) → K (a.put op.dst v') w') : op.wp Try.prog a w K Q := by
  obtain ⟨i0, hi0, hz0, hz1, hz2⟩ := info_parts infoT
  have hll := hle.out
  have hone : ∀ u ∈ r.L, u.oneCell' = true := fun u hu => by
    have := entL_one r.f r.b r.n r.v
    rw [Array.all_eq_true_iff_forall_mem] at this
    exact this u (by simpa [Raw.L] using hu)
  obtain ⟨v', w', e1, e2, e3, _, e5⟩ := run_append_own_at (P := Try.prog) w base 57 op.type 42 i0 _ 19 40 Try.underlying57 hi0 hz0 hz1 hz2 rfl (by decide) v rs.length (flatR rs) hX.out ⟨G, 0, none⟩ 1 c r.L (by rw [Raw.L_len r hr.out]) (fun j u hu => by rw [Addr.add_mid]; exact hrg.out j u hu) hone (by unfold maxLen; omega) (by omega) hbase.out
  unfold Oper.wp execOp
  simp only [ho, resolve, invoke, builtin, Sem.run_bind, Sem.run_pure, Result.andThen_ok, List.map_toArray, List.map_cons, List.map_nil, hs, hx, e1]
  refine h v' w' (Lib.hid ?_) (Lib.hid e3) (Lib.hid e5)
  unfold RowX
  rw [List.length_append, flatR_append, flatR_single]
  exact e2
set_option maxRecDepth 100000 in
set_option maxHeartbeats 2000000 in
theorem walk (a : Option Addr) (len cap : Nat) (D : List DeedD) (w : World) (hD : DeedsAt w a len cap D) :
    Calls Try.prog 7 #[.slice a len cap] w fun e w' => e = .returned (.bool true) ∧ Below w.heap.size w w' := by
  obtain ⟨hc1, hc2, hl, hok, hrow⟩ := hD
  have hm : maxLen ≤ 9223372036854775807 := by unfold maxLen; omega
  have hlen : len ≤ 9223372036854775807 := by omega
  have HOK := Lib.hid hok
  have HLV := fun W => Lib.hid (lives_any W)
  rcases hrow with rfl | ⟨g, o, rfl, hr, hg⟩
  · obtain rfl : D = [] := List.eq_nil_of_length_eq_zero hl
    go_enter Try.func7, Try.ntmps7
    go_wp2_with fail
    go_loop [3, 4, 5] (fun s r i => i = .int .i64 0 ∧ r = .slice none 0 0 ∧ s = .slice none 0 0) (fun _ _ _ => 0)
    case atStart => exact ⟨rfl, rfl, rfl⟩
    case round =>
      obtain ⟨rfl, rfl, rfl⟩ := hrel
      go_wp2_with fail
      refine (new_nil _).mono ?_
      rintro e w1 ⟨G, F, rfl, hT, hF, hb⟩
      have HB0 := Lib.hid hb
      have HLK := Lib.hid (like_v G (.slice none 0 0) [] 0 F w1 hT (RowE.nil _ _))
      clear hT hF hb
      go_wp2_with fail
      refine HLK.out.mono ?_
      rintro e w3 ⟨rfl, hb3⟩
      have HB3 := Lib.hid (chain HB0.out hb3)
      clear HLK HB0 hb3
      go_wp2_with fail
      refine (HLV _).out.mono ?_
      rintro e w2 ⟨rfl, hb2⟩
      have HB2 := Lib.hid (chain HB3.out hb2)
      clear hb2 HB3 HLV
      go_wp2_with fail
      go_ret
      exact ⟨rfl, HB2.out⟩
  · have HRW := Lib.hid hr
    have HGL := Lib.hid hg
    have HLN := Lib.hid hl
    have HOL : Hid (∀ d ∈ D, d.L.length = 21) := Lib.hid (fun d hd => DeedD.L_len d (hok d hd).2.1)
    clear hok hr hg
    go_enter Try.func7, Try.ntmps7
    go_wp2_with fail
    go_loopw [3, 4, 5] (fun s1 r1 i wr => ∃ (k : Nat) (s r : Value), k ≤ len ∧ k ≤ 30 ∧ s = s1 ∧ r = r1 ∧ i = .int .i64 (k : Int) ∧ Hid (RowX wr w.heap.size s (rawsOf D k)) ∧ Hid (RowE wr 0 r (allE D k)) ∧ Hid (∀ g, r.ownBlock = some g → s.ownBlock ≠ some g) ∧ Hid (Below w.heap.size w wr)) (fun _ _ i _ => 30 - (intOf i).toNat)
    case atStart => exact ⟨0, _, _, Nat.zero_le _, Nat.zero_le _, rfl, rfl, rfl, Lib.hid (World.ownsRow_nil _ _ _ _), Lib.hid (RowE.nil _ _), Lib.hid (fun g hg => by cases hg), Lib.hid (Below.refl _ _)⟩
    case round =>
      obtain ⟨k, s, r, hk, hk30, rfl, rfl, rfl, HX, HR, HN, HB⟩ := hrel
      have HOKR := Lib.hid (raws_ok D k HOK.out)
      have HRL := raws_len D k
      by_cases hkl : k < len
      · have hd : decide ((k : Int) < (len : Int)) = true := by simp; omega
        have hdn : decide (k < len) = true := by simp; omega
        by_cases hk4 : k < 30
        · have hd2 : decide ((k : Int) < 30) = true := by simp; omega
          have hd2n : decide (k < 30) = true := by simp; omega
          have hkD : k < D.length := by rw [HLN.out]; exact hkl
          obtain ⟨dk, hdk⟩ : ∃ dk, D[k] = dk := ⟨_, rfl⟩
          have HDK : Hid dk.Ok := Lib.hid (by rw [← hdk]; exact HOK.out _ (List.getElem_mem hkD))
          have H16 := Lib.hid HDK.out.2.1
          have HRD : Hid (wr.rangeAt g (o + k * 21) dk.L) := Lib.hid (by have := range_at (range_belowB HRW.out HB.out HGL.out) HOL.out k hkD; rw [hdk] at this; exact this)
          have HRS : Hid (rawsOf D (k + 1) = rawsOf D k ++ [rawOf dk]) := Lib.hid (by rw [raws_succ D k hkD, hdk])
          have HES : Hid (allE D (k + 1) = setE (allE D k) (rawOf dk).f (rawOf dk).b (rawOf dk).n (rawOf dk).v) := Lib.hid (by rw [allE_succ D k hkD, hdk])
          have hki : (k : Int) < (len : Int) := by omega
          have hk0 : (0 : Int) ≤ (k : Int) := by omega
          have HAL := allE_len D k
          have HRK := Lib.hid (raw_ok dk HDK.out)
          clear hdk hkD
          have HPD := Lib.hid (deed_pref HRD.out H16.out)
          have HZ := Lib.hid (pref_zeroed wr)
          have HGW : Hid (g < wr.heap.size) := Lib.hid (Nat.lt_of_lt_of_le HGL.out HB.out.size)
          have HSB : Hid (∀ j, s.ownBlock = some j → w.heap.size ≤ j ∧ j < wr.heap.size) := Lib.hid (fun j hj => World.ownsRow.lt HX.out j hj)
          have HRB : Hid (∀ j, r.ownBlock = some j → j < wr.heap.size) := Lib.hid (fun j hj => (HR.out.blockLt j hj).2)
          have HWW : Hid (w.heap.size ≤ wr.heap.size) := Lib.hid HB.out.size
          go_upto_region 7 with (first | refine load_pref_o H16 HPD _ rfl rfl rfl ?_ | refine store_pref HZ _ _ H16 rfl rfl rfl rfl (fun W1 HW1 HP1 => ?_))
          have HN1 := Lib.hid (below_newP HW1)
          have HB1 := Lib.hid (chain HB.out HN1.out)
          have HX1 := Lib.hid (rowX_below HX.out HN1.out)
          have HR1 := Lib.hid (HR.out.below HN1.out)
          have HD1 := Lib.hid (range_belowB HRD.out HN1.out HGW.out)
          have hrc := deed_raw HD1.out H16.out
          clear HB HX HR HRD HPD HZ HW1 HN1
          generalize wr.heap.size = BP at *
          clear wr
          cases hraw : dk.raw with
          | true =>
            rw [hraw] at hrc
            have HRO : Hid (rawOf dk = ⟨dk.f, dk.b, dk.n, dk.v⟩) := Lib.hid (by unfold rawOf deedF deedB deedN; rw [hraw]; rfl)
            go_upto_region 9 with fail
            rw [HRO.out] at HRS HES HRK
            have P16 : Hid ((dk.b : List Nat).length = 16) := Lib.hid HRK.out.1
            have HSET := fun W (h : RowE W 0 r (allE D k)) => Lib.hid (refSet_any r (allE D k) dk.f dk.b dk.n dk.v W 0 h HRK.out.1 HRK.out.2.1 HRK.out.2.2.2 (by omega))
            obtain ⟨c, hc⟩ : ∃ c : Int, (if mayP dk.f dk.b dk.n = true then (0 : Int) else 1) = c := ⟨_, rfl⟩
            rw [hc] at HSET
            clear hc
            have hvc := deed_val HD1.out H16.out
            have HPLx : Hid (BP < W1.heap.size) := Lib.hid HP1.out.addr.lt
            obtain ⟨L, hL⟩ : ∃ L, [(BP, 0, prefL dk.f dk.b dk.n), (g, o + k * 21 + 19, [Value.int .i64 dk.v])] = L := ⟨_, rfl⟩
            have one : ∀ {w : World} {b q : Nat} {u : Value}, w.cell? ⟨b, q, none⟩ = some u → w.rangeAt b q [u] := fun {w b q u} h j x hx => by
              cases j with
              | zero => rw [Nat.add_zero, h]; exact hx
              | succ j => simp at hx
            have HK : Hid (HeldL L W1.drew) := Lib.hid (by
              rw [← hL]; intro x hx
              simp only [List.mem_cons, List.not_mem_nil, or_false] at hx
              rcases hx with rfl | rfl
              · exact HP1.out.range
              · exact one hvc)
            have HKF : Hid (∀ W' F F', Foot F F' W1 W' → (∀ j ∈ F, j ≠ BP ∧ j ≠ g) → HeldL L W') := Lib.hid (fun W' F F' hf hF => by
              have h1 := HGW.out
              have h2 := HPLx.out
              have hKo := HK.out
              rw [← hL] at hKo ⊢
              intro x hx
              have hxx := hx
              simp only [List.mem_cons, List.not_mem_nil, or_false] at hx
              rcases hx with rfl | rfl
              · exact range_foot hf (hKo _ hxx) (by show BP < _; omega) (fun e => (hF _ e).1 rfl)
              · exact range_foot hf (hKo _ hxx) (by show g < _; omega) (fun e => (hF _ e).2 rfl))
            have M1 : Hid (InL L BP 0 (prefL dk.f dk.b dk.n)) := Lib.hid (fun W' h => h.get (by rw [← hL]; simp))
            have C1 : Hid (∀ w', HeldL L w' → w'.cell? ⟨g, o + k * 21 + 19, none⟩ = some (.int .i64 dk.v)) := Lib.hid (fun w' h => h.get (b := g) (o := o + k * 21 + 19) (cs := [Value.int .i64 dk.v]) (by rw [← hL]; simp) 0 _ rfl)
            clear hL one hvc
            refine wp_region_noPanic ?_
            refine wp_region_held_drew (S := HeldL L) (by kernel_rfl) HK.out (fun hHeld => ?_)
            refine wpAnyH_take (i := 0) (v := ?_) rfl (by kernel_rfl) (by kernel_rfl) (by kernel_rfl) (fun _ _ _ h => h) (Or.inl ⟨by rfl, ?_⟩) (by assumption) ?_
            rotate_left
            · (intro w hSw; go_simp; try (with_reducible rfl))
            try simp only [Act.put, List.getElem_toArray, List.getElem_cons_zero, List.setIfInBounds_toArray, List.set_cons_zero, List.set_cons_succ]
            refine wpAnyH_take (i := 1) rfl (by kernel_rfl) (by kernel_rfl) (by kernel_rfl) (fun _ _ _ h => h) (yields_pref_l P16 M1 (by rfl) _ rfl rfl) (by assumption) ?_
            try simp only [Act.put, List.getElem_toArray, List.getElem_cons_zero, List.getElem_cons_succ, List.setIfInBounds_toArray, List.set_cons_zero, List.set_cons_succ]
            refine wpAnyH_take (i := 2) (v := ?_) rfl (by kernel_rfl) (by kernel_rfl) (by kernel_rfl) (fun _ _ _ h => h) (Or.inl ⟨by rfl, ?_⟩) (by assumption) ?_
            rotate_left
            · (intro w hSw; go_simp; try (with_reducible rfl))
            try simp only [Act.put, List.getElem_toArray, List.getElem_cons_zero, List.getElem_cons_succ, List.setIfInBounds_toArray, List.set_cons_zero, List.set_cons_succ]
            refine wpAnyH_take (i := 3) (v := ?_) rfl (by kernel_rfl) (by kernel_rfl) (by kernel_rfl) (fun _ _ _ h => h) (Or.inl ⟨by rfl, ?_⟩) (by assumption) ?_
            rotate_left
            · (intro w hSw; go_simp; try (with_reducible rfl))
            try simp only [Act.put, List.getElem_toArray, List.getElem_cons_zero, List.getElem_cons_succ, List.setIfInBounds_toArray, List.set_cons_zero, List.set_cons_succ]
            refine wpAnyH_take (i := 4) (v := ?_) rfl (by kernel_rfl) (by kernel_rfl) (by kernel_rfl) (fun _ _ _ h => h) (Or.inl ⟨by rfl, ?_⟩) (by assumption) ?_
            rotate_left
            · (intro w hSw; go_simp; try (with_reducible rfl))
            try simp only [Act.put, List.getElem_toArray, List.getElem_cons_zero, List.getElem_cons_succ, List.setIfInBounds_toArray, List.set_cons_zero, List.set_cons_succ]
            refine wpAnyH_take (i := 5) (v := ?_) rfl (by kernel_rfl) (by kernel_rfl) (by kernel_rfl) (fun _ _ _ h => h) (Or.inl ⟨by rfl, ?_⟩) (by assumption) ?_
            rotate_left
            · (intro w hSw; go_simp; try (with_reducible rfl))
            try simp only [Act.put, List.getElem_toArray, List.getElem_cons_zero, List.getElem_cons_succ, List.setIfInBounds_toArray, List.set_cons_zero, List.set_cons_succ]
            refine wpAnyH_take (i := 6) (v := ?_) rfl (by kernel_rfl) (by kernel_rfl) (by kernel_rfl) (fun _ _ _ h => h) (Or.inl ⟨by rfl, ?_⟩) (by assumption) ?_
            rotate_left
            · (intro w hSw; have hc0 := C1.out w hSw; go_simp; try (with_reducible rfl))
            try simp only [Act.put, List.getElem_toArray, List.getElem_cons_zero, List.getElem_cons_succ, List.setIfInBounds_toArray, List.set_cons_zero, List.set_cons_succ]
            refine wpAnyH_take (i := 7) rfl (by kernel_rfl) (by kernel_rfl) (by kernel_rfl) (fun _ _ _ h => h) (yields_build_entT P16 (by rfl) _ _ rfl rfl rfl) (by assumption) ?_
            try simp only [Act.put, List.getElem_toArray, List.getElem_cons_zero, List.getElem_cons_succ, List.setIfInBounds_toArray, List.set_cons_zero, List.set_cons_succ]
            refine wpAnyH_ready (rs := [8]) (by kernel_rfl) (by simp) ?_
            refine AllReadyH.one rfl rfl (fun K hK => ?_)
            refine wp_build_entST P16 _ rfl rfl (fun V1 HV1 => ?_)
            have HL1 : Hid (Below W1.heap.size W1 V1) := Lib.hid (by rw [HV1.out]; exact (Below.refl _ _).drew.alloc (Nat.le_refl _) _)
            have HY1 : Hid (V1.rangeAt W1.heap.size 0 (Raw.L ⟨dk.f, dk.b, dk.n, dk.v⟩)) := Lib.hid (by rw [HV1.out]; exact buildS_new (w := W1.drew) _)
            have HX5 := Lib.hid (rowX_below HX1.out HL1.out)
            have HR5 := Lib.hid (HR1.out.below HL1.out)
            have HB5 := Lib.hid (chain HB1.out HL1.out)
            have HS5 := Lib.hid (HKF.out V1 [] [] (Foot.ofBelow _ HL1.out) (fun j hj => by cases hj))
            have HZ5 : Hid (V1.heap.size = W1.heap.size + 1) := Lib.hid (by rw [HV1.out]; show (W1.heap.push _).size = _; simp)
            refine hK.out _ _ HS5.out (fun hHeld1 => ?_)
            clear hK K HV1
            try simp only [Act.put, List.getElem_toArray, List.getElem_cons_zero, List.getElem_cons_succ, List.setIfInBounds_toArray, List.set_cons_zero, List.set_cons_succ]
            refine wpAnyH_ready (rs := [9]) (by kernel_rfl) (by simp) ?_
            refine AllReadyH.one rfl rfl (fun K hK => ?_)
            have HLE : Hid ((rawsOf D k).length ≤ 900) := Lib.hid (by omega)
            have HBS : Hid (w.heap.size ≤ V1.heap.size) := Lib.hid HB5.out.size
            refine wp_append_raw HX5 ⟨dk.f, dk.b, dk.n, dk.v⟩ HRK _ _ rfl rfl rfl HY1 HLE HBS (fun v6 V6 HX6 HG6 HO6 => ?_)
            have hg6 := HG6.out
            have HF6 : Hid (Foot (blkL s) (blkL v6) V1 V6) := Lib.hid ⟨hg6.os, hg6.tape, hg6.output, hg6.size, fun j hj hn => hg6.block j hj (fun e => hn (mem_blkL.2 e.symm)), fun j hj => by
              rcases HO6.out with e | e
              · exact .inl (mem_blkL.2 (by rw [← e]; exact mem_blkL.1 hj))
              · have h := mem_blkL.1 hj
                rw [e] at h
                exact .inr (by cases h; exact Nat.le_refl _)⟩
            clear hg6 HG6
            rw [← HRS.out] at HX6
            have HFA : Hid (Foot (blkL s) (blkL v6) W1 V6) := Lib.hid ((Foot.ofBelow _ HL1.out).trans HF6.out)
            have HSO : Hid (∀ j ∈ blkL s, j ≠ BP ∧ j ≠ g) := Lib.hid (fun j hj => by have h1 := HSB.out j (mem_blkL.1 hj); have h2 := HGL.out; exact ⟨by omega, by omega⟩)
            have HS6 := Lib.hid (HKF.out V6 _ _ HFA.out HSO.out)
            have HR6 := Lib.hid (HR5.out.foot HF6.out (fun j hj e => HN.out j hj (mem_blkL.1 e)))
            have HB6 := Lib.hid (HB5.out.trans (HF6.out.below (B := w.heap.size) (fun j hj => (HSB.out j (mem_blkL.1 hj)).1) HB5.out.size))
            have HN6 : Hid (∀ j, r.ownBlock = some j → v6.ownBlock ≠ some j) := Lib.hid (fun j hj e => by
              have h1 := HRB.out j hj
              have h2 := HPLx.out
              have h3 := HZ5.out
              rcases HO6.out with e2 | e2
              · exact HN.out j hj (e2 ▸ e)
              · rw [e2] at e; injection e with e; omega)
            have HV6 : Hid (∀ j, v6.ownBlock = some j → j < V6.heap.size) := Lib.hid (fun j hj => (World.ownsRow.lt HX6.out j hj).2)
            refine hK.out _ _ HS6.out (fun hHeld2 => ?_)
            clear hK K hHeld hHeld1 hHeld2 HX5 HR5 HB5 HS5 HY1 HF6 HK HP1 HX1 HR1 HD1 HB1 HO6
            try simp only [Act.put, List.getElem_toArray, List.getElem_cons_zero, List.getElem_cons_succ, List.setIfInBounds_toArray, List.set_cons_zero, List.set_cons_succ]
            refine wpAnyH_take (i := 10) (v := ?_) rfl (by kernel_rfl) (by kernel_rfl) (by kernel_rfl) (fun _ _ _ h => h) (Or.inl ⟨by rfl, ?_⟩) (by assumption) ?_
            rotate_left
            · (intro w hSw; go_simp; try (with_reducible rfl))
            try simp only [Act.put, List.getElem_toArray, List.getElem_cons_zero, List.getElem_cons_succ, List.setIfInBounds_toArray, List.set_cons_zero, List.set_cons_succ]
            refine wpAnyH_done (by kernel_rfl) ?_ _
            refine NoPanic.normal ?_
            go_upto_region 10 with fail
            have HS7 : Hid (HeldL L V6.drew) := Lib.hid HS6.out
            have HSE := HSET V6.drew (HR6.out.below (Below.refl _ _).drew)
            refine wp_region_noPanic ?_
            refine wp_region_held_drew (S := HeldL L) (by kernel_rfl) HS7.out (fun hHeld => ?_)
            refine wpAnyH_take (i := 0) (v := ?_) rfl (by kernel_rfl) (by kernel_rfl) (by kernel_rfl) (fun _ _ _ h => h) (Or.inl ⟨by rfl, ?_⟩) (by assumption) ?_
            rotate_left
            · (intro w hSw; go_simp; try (with_reducible rfl))
            try simp only [Act.put, List.getElem_toArray, List.getElem_cons_zero, List.setIfInBounds_toArray, List.set_cons_zero, List.set_cons_succ]
            refine wpAnyH_take (i := 1) rfl (by kernel_rfl) (by kernel_rfl) (by kernel_rfl) (fun _ _ _ h => h) (yields_pref_l P16 M1 (by rfl) _ rfl rfl) (by assumption) ?_
            try simp only [Act.put, List.getElem_toArray, List.getElem_cons_zero, List.getElem_cons_succ, List.setIfInBounds_toArray, List.set_cons_zero, List.set_cons_succ]
            refine wpAnyH_take (i := 2) (v := ?_) rfl (by kernel_rfl) (by kernel_rfl) (by kernel_rfl) (fun _ _ _ h => h) (Or.inl ⟨by rfl, ?_⟩) (by assumption) ?_
            rotate_left
            · (intro w hSw; go_simp; try (with_reducible rfl))
            try simp only [Act.put, List.getElem_toArray, List.getElem_cons_zero, List.getElem_cons_succ, List.setIfInBounds_toArray, List.set_cons_zero, List.set_cons_succ]
            refine wpAnyH_take (i := 3) (v := ?_) rfl (by kernel_rfl) (by kernel_rfl) (by kernel_rfl) (fun _ _ _ h => h) (Or.inl ⟨by rfl, ?_⟩) (by assumption) ?_
            rotate_left
            · (intro w hSw; go_simp; try (with_reducible rfl))
            try simp only [Act.put, List.getElem_toArray, List.getElem_cons_zero, List.getElem_cons_succ, List.setIfInBounds_toArray, List.set_cons_zero, List.set_cons_succ]
            refine wpAnyH_take (i := 4) (v := ?_) rfl (by kernel_rfl) (by kernel_rfl) (by kernel_rfl) (fun _ _ _ h => h) (Or.inl ⟨by rfl, ?_⟩) (by assumption) ?_
            rotate_left
            · (intro w hSw; go_simp; try (with_reducible rfl))
            try simp only [Act.put, List.getElem_toArray, List.getElem_cons_zero, List.getElem_cons_succ, List.setIfInBounds_toArray, List.set_cons_zero, List.set_cons_succ]
            refine wpAnyH_take (i := 5) (v := ?_) rfl (by kernel_rfl) (by kernel_rfl) (by kernel_rfl) (fun _ _ _ h => h) (Or.inl ⟨by rfl, ?_⟩) (by assumption) ?_
            rotate_left
            · (intro w hSw; go_simp; try (with_reducible rfl))
            try simp only [Act.put, List.getElem_toArray, List.getElem_cons_zero, List.getElem_cons_succ, List.setIfInBounds_toArray, List.set_cons_zero, List.set_cons_succ]
            refine wpAnyH_take (i := 6) (v := ?_) rfl (by kernel_rfl) (by kernel_rfl) (by kernel_rfl) (fun _ _ _ h => h) (Or.inl ⟨by rfl, ?_⟩) (by assumption) ?_
            rotate_left
            · (intro w hSw; have hc0 := C1.out w hSw; go_simp; try (with_reducible rfl))
            try simp only [Act.put, List.getElem_toArray, List.getElem_cons_zero, List.getElem_cons_succ, List.setIfInBounds_toArray, List.set_cons_zero, List.set_cons_succ]
            refine wpAnyH_ready (rs := [7]) (by kernel_rfl) (by simp) ?_
            refine AllReadyH.cons rfl (fun K hK => ?_) AllReadyH.nil
            go_simp
            refine HSE.out.mono ?_
            rintro e V8 ⟨r8, rfl, hr8, hor, hb8⟩
            have HR8 : Hid (RowE V8 0 r8 (allE D (k + 1))) := Lib.hid (by rw [HES.out]; exact hr8)
            have HL8 : Hid (Below V6.heap.size V6 V8) := Lib.hid (chain ((Below.refl V6.heap.size V6).drew) hb8)
            have HX8 := Lib.hid (rowX_below HX6.out HL8.out)
            have HB8 := Lib.hid (chain HB6.out HL8.out)
            have HN8 : Hid (∀ j, r8.ownBlock = some j → v6.ownBlock ≠ some j) := Lib.hid (fun j hj e => by
              rcases hor with e2 | e2
              · exact HN6.out j (e2 ▸ hj) e
              · have h1 := (e2.blockLt j hj).1
                have h2 := HV6.out j e
                have h3 : V6.drew.heap.size = V6.heap.size := rfl
                omega)
            have HS8 := Lib.hid (HKF.out V8 _ _ (HFA.out.trans (Foot.ofBelow _ HL8.out)) HSO.out)
            clear hr8 hor hb8 HSE HSET HR6 HX6 HB6 HN6 HL8
            go_wp2_with fail
            refine hK.out _ _ HS8.out (fun hHeld8 => ?_)
            clear hK K
            try simp only [Act.put, List.getElem_toArray, List.getElem_cons_zero, List.getElem_cons_succ, List.setIfInBounds_toArray, List.set_cons_zero, List.set_cons_succ]
            refine wpAnyH_take (i := 8) (v := ?_) rfl (by kernel_rfl) (by kernel_rfl) (by kernel_rfl) (fun _ _ _ h => h) (Or.inl ⟨by rfl, ?_⟩) (by assumption) ?_
            rotate_left
            · (intro w hSw; go_simp; try (with_reducible rfl))
            try simp only [Act.put, List.getElem_toArray, List.getElem_cons_zero, List.getElem_cons_succ, List.setIfInBounds_toArray, List.set_cons_zero, List.set_cons_succ]
            refine wpAnyH_take (i := 9) (v := ?_) rfl (by kernel_rfl) (by kernel_rfl) (by kernel_rfl) (fun _ _ _ h => h) (Or.inl ⟨by rfl, ?_⟩) (by assumption) ?_
            rotate_left
            · (intro w hSw; go_simp; try (with_reducible rfl))
            try simp only [Act.put, List.getElem_toArray, List.getElem_cons_zero, List.getElem_cons_succ, List.setIfInBounds_toArray, List.set_cons_zero, List.set_cons_succ]
            refine wpAnyH_take (i := 10) (v := ?_) rfl (by kernel_rfl) (by kernel_rfl) (by kernel_rfl) (fun _ _ _ h => h) (Or.inl ⟨by rfl, ?_⟩) (by assumption) ?_
            rotate_left
            · (intro w hSw; go_simp; try (with_reducible rfl))
            try simp only [Act.put, List.getElem_toArray, List.getElem_cons_zero, List.getElem_cons_succ, List.setIfInBounds_toArray, List.set_cons_zero, List.set_cons_succ]
            refine wpAnyH_take (i := 11) (v := ?_) rfl (by kernel_rfl) (by kernel_rfl) (by kernel_rfl) (fun _ _ _ h => h) (Or.inl ⟨by rfl, ?_⟩) (by assumption) ?_
            rotate_left
            · (intro w hSw; go_simp; try (with_reducible rfl))
            try simp only [Act.put, List.getElem_toArray, List.getElem_cons_zero, List.getElem_cons_succ, List.setIfInBounds_toArray, List.set_cons_zero, List.set_cons_succ]
            refine wpAnyH_take (i := 12) (v := ?_) rfl (by kernel_rfl) (by kernel_rfl) (by kernel_rfl) (fun _ _ _ h => h) (Or.inl ⟨by rfl, ?_⟩) (by assumption) ?_
            rotate_left
            · (intro w hSw; go_simp; try (with_reducible rfl))
            try simp only [Act.put, List.getElem_toArray, List.getElem_cons_zero, List.getElem_cons_succ, List.setIfInBounds_toArray, List.set_cons_zero, List.set_cons_succ]
            refine wpAnyH_done (by kernel_rfl) ?_ _
            refine NoPanic.normal ?_
            clear hHeld hHeld8 HS6 HS7 HS8 M1 C1
            go_wp2_with fail
            go_roundw
            case rel => exact ⟨k + 1, _, _, by omega, by omega, rfl, rfl, by go_num, HX8, HR8, HN8, HB8⟩
            case measure => simp [intOf]; omega
          | false =>
            rw [hraw] at hrc
            have HRO : Hid (rawOf dk = ⟨goodF dk.f, goodP dk.f dk.b dk.n, (goodN dk.f dk.n : Int), dk.v⟩) := Lib.hid (by unfold rawOf deedF deedB deedN; rw [hraw]; rfl)
            have HGC := fun W => Lib.hid (refGoodP_any dk.f dk.b dk.n W HDK.out.2.1 HDK.out.2.2.1 HDK.out.2.2.2.1)
            have G16 := Lib.hid (goodP_is dk.f dk.b dk.n).len
            generalize goodF dk.f = gf at *
            generalize goodP dk.f dk.b dk.n = gb at *
            generalize (goodN dk.f dk.n : Int) = gn at *
            go_wp2_with (refine load_pref_g HP1 _ rfl rfl rfl ?_)
            refine (HGC _).out.mono ?_
            rintro e W2 ⟨rfl, hb2⟩
            have HP2 := Lib.hid (HP1.out.below hb2)
            have HX2 := Lib.hid (rowX_below HX1.out hb2)
            have HR2 := Lib.hid (HR1.out.below hb2)
            have HPL : Hid (BP < W1.heap.size) := Lib.hid HP1.out.addr.lt
            have HGW2 : Hid (g < BP) := HGW
            have HD2 := Lib.hid (range_belowB HD1.out hb2 (by have := HGW.out; have := HPL.out; omega))
            have HB2 := Lib.hid (chain HB1.out hb2)
            have HPL2 : Hid (BP < W2.heap.size) := Lib.hid HP2.out.addr.lt
            clear hb2 HGC hrc HP1 HX1 HR1 HD1 HB1
            go_upto_region 9 with (refine store_pref HP2 _ _ G16 rfl rfl rfl rfl (fun V HV HPV => ?_))
            have hfv : Foot [BP] [BP] W2 V := by rw [HV.out]; exact foot_cells BP 0 _
            have HX3 := Lib.hid (rowX_keep HX2.out (fun j hj => hfv.keep j (by have := HSB.out j hj; have := HPL2.out; omega) (fun e => by have := HSB.out j hj; simp at e; omega)))
            have HR3 := Lib.hid (HR2.out.foot hfv (fun j hj e => by have := HRB.out j hj; simp at e; omega))
            have HD3 := Lib.hid (range_foot hfv HD2.out (by have := HGW.out; have := HPL2.out; omega) (fun e => by have := HGW.out; simp at e; omega))
            have HB3 := Lib.hid (HB2.out.trans (hfv.below (B := w.heap.size) (by have := HWW.out; simp; omega) HB2.out.size))
            clear HP2 HX2 HR2 HD2 HB2 hfv HV HGW2
            rw [HRO.out] at HRS HES HRK
            have P16 : Hid ((gb : List Nat).length = 16) := Lib.hid HRK.out.1
            have HSET := fun W (h : RowE W 0 r (allE D k)) => Lib.hid (refSet_any r (allE D k) gf gb gn dk.v W 0 h HRK.out.1 HRK.out.2.1 HRK.out.2.2.2 (by omega))
            obtain ⟨c, hc⟩ : ∃ c : Int, (if mayP gf gb gn = true then (0 : Int) else 1) = c := ⟨_, rfl⟩
            rw [hc] at HSET
            clear hc
            have hvc := deed_val HD3.out H16.out
            have HPLx : Hid (BP < V.heap.size) := Lib.hid HPV.out.addr.lt
            obtain ⟨L, hL⟩ : ∃ L, [(BP, 0, prefL gf gb gn), (g, o + k * 21 + 19, [Value.int .i64 dk.v])] = L := ⟨_, rfl⟩
            have one : ∀ {w : World} {b q : Nat} {u : Value}, w.cell? ⟨b, q, none⟩ = some u → w.rangeAt b q [u] := fun {w b q u} h j x hx => by
              cases j with
              | zero => rw [Nat.add_zero, h]; exact hx
              | succ j => simp at hx
            have HK : Hid (HeldL L V.drew) := Lib.hid (by
              rw [← hL]; intro x hx
              simp only [List.mem_cons, List.not_mem_nil, or_false] at hx
              rcases hx with rfl | rfl
              · exact HPV.out.range
              · exact one hvc)
            have HKF : Hid (∀ W' F F', Foot F F' V W' → (∀ j ∈ F, j ≠ BP ∧ j ≠ g) → HeldL L W') := Lib.hid (fun W' F F' hf hF => by
              have h1 := HGW.out
              have h2 := HPLx.out
              have hKo := HK.out
              rw [← hL] at hKo ⊢
              intro x hx
              have hxx := hx
              simp only [List.mem_cons, List.not_mem_nil, or_false] at hx
              rcases hx with rfl | rfl
              · exact range_foot hf (hKo _ hxx) (by show BP < _; omega) (fun e => (hF _ e).1 rfl)
              · exact range_foot hf (hKo _ hxx) (by show g < _; omega) (fun e => (hF _ e).2 rfl))
            have M1 : Hid (InL L BP 0 (prefL gf gb gn)) := Lib.hid (fun W' h => h.get (by rw [← hL]; simp))
            have C1 : Hid (∀ w', HeldL L w' → w'.cell? ⟨g, o + k * 21 + 19, none⟩ = some (.int .i64 dk.v)) := Lib.hid (fun w' h => h.get (b := g) (o := o + k * 21 + 19) (cs := [Value.int .i64 dk.v]) (by rw [← hL]; simp) 0 _ rfl)
            clear hL one hvc
            refine wp_region_noPanic ?_
            refine wp_region_held_drew (S := HeldL L) (by kernel_rfl) HK.out (fun hHeld => ?_)
            refine wpAnyH_take (i := 0) (v := ?_) rfl (by kernel_rfl) (by kernel_rfl) (by kernel_rfl) (fun _ _ _ h => h) (Or.inl ⟨by rfl, ?_⟩) (by assumption) ?_
            rotate_left
            · (intro w hSw; go_simp; try (with_reducible rfl))
            try simp only [Act.put, List.getElem_toArray, List.getElem_cons_zero, List.setIfInBounds_toArray, List.set_cons_zero, List.set_cons_succ]
            refine wpAnyH_take (i := 1) rfl (by kernel_rfl) (by kernel_rfl) (by kernel_rfl) (fun _ _ _ h => h) (yields_pref_l P16 M1 (by rfl) _ rfl rfl) (by assumption) ?_
            try simp only [Act.put, List.getElem_toArray, List.getElem_cons_zero, List.getElem_cons_succ, List.setIfInBounds_toArray, List.set_cons_zero, List.set_cons_succ]
            refine wpAnyH_take (i := 2) (v := ?_) rfl (by kernel_rfl) (by kernel_rfl) (by kernel_rfl) (fun _ _ _ h => h) (Or.inl ⟨by rfl, ?_⟩) (by assumption) ?_
            rotate_left
            · (intro w hSw; go_simp; try (with_reducible rfl))
            try simp only [Act.put, List.getElem_toArray, List.getElem_cons_zero, List.getElem_cons_succ, List.setIfInBounds_toArray, List.set_cons_zero, List.set_cons_succ]
            refine wpAnyH_take (i := 3) (v := ?_) rfl (by kernel_rfl) (by kernel_rfl) (by kernel_rfl) (fun _ _ _ h => h) (Or.inl ⟨by rfl, ?_⟩) (by assumption) ?_
            rotate_left
            · (intro w hSw; go_simp; try (with_reducible rfl))
            try simp only [Act.put, List.getElem_toArray, List.getElem_cons_zero, List.getElem_cons_succ, List.setIfInBounds_toArray, List.set_cons_zero, List.set_cons_succ]
            refine wpAnyH_take (i := 4) (v := ?_) rfl (by kernel_rfl) (by kernel_rfl) (by kernel_rfl) (fun _ _ _ h => h) (Or.inl ⟨by rfl, ?_⟩) (by assumption) ?_
            rotate_left
            · (intro w hSw; go_simp; try (with_reducible rfl))
            try simp only [Act.put, List.getElem_toArray, List.getElem_cons_zero, List.getElem_cons_succ, List.setIfInBounds_toArray, List.set_cons_zero, List.set_cons_succ]
            refine wpAnyH_take (i := 5) (v := ?_) rfl (by kernel_rfl) (by kernel_rfl) (by kernel_rfl) (fun _ _ _ h => h) (Or.inl ⟨by rfl, ?_⟩) (by assumption) ?_
            rotate_left
            · (intro w hSw; go_simp; try (with_reducible rfl))
            try simp only [Act.put, List.getElem_toArray, List.getElem_cons_zero, List.getElem_cons_succ, List.setIfInBounds_toArray, List.set_cons_zero, List.set_cons_succ]
            refine wpAnyH_take (i := 6) (v := ?_) rfl (by kernel_rfl) (by kernel_rfl) (by kernel_rfl) (fun _ _ _ h => h) (Or.inl ⟨by rfl, ?_⟩) (by assumption) ?_
            rotate_left
            · (intro w hSw; have hc0 := C1.out w hSw; go_simp; try (with_reducible rfl))
            try simp only [Act.put, List.getElem_toArray, List.getElem_cons_zero, List.getElem_cons_succ, List.setIfInBounds_toArray, List.set_cons_zero, List.set_cons_succ]
            refine wpAnyH_take (i := 7) rfl (by kernel_rfl) (by kernel_rfl) (by kernel_rfl) (fun _ _ _ h => h) (yields_build_entT P16 (by rfl) _ _ rfl rfl rfl) (by assumption) ?_
            try simp only [Act.put, List.getElem_toArray, List.getElem_cons_zero, List.getElem_cons_succ, List.setIfInBounds_toArray, List.set_cons_zero, List.set_cons_succ]
            refine wpAnyH_ready (rs := [8]) (by kernel_rfl) (by simp) ?_
            refine AllReadyH.one rfl rfl (fun K hK => ?_)
            refine wp_build_entST P16 _ rfl rfl (fun V1 HV1 => ?_)
            have HL1 : Hid (Below V.heap.size V V1) := Lib.hid (by rw [HV1.out]; exact (Below.refl _ _).drew.alloc (Nat.le_refl _) _)
            have HY1 : Hid (V1.rangeAt V.heap.size 0 (Raw.L ⟨gf, gb, gn, dk.v⟩)) := Lib.hid (by rw [HV1.out]; exact buildS_new (w := V.drew) _)
            have HX5 := Lib.hid (rowX_below HX3.out HL1.out)
            have HR5 := Lib.hid (HR3.out.below HL1.out)
            have HB5 := Lib.hid (chain HB3.out HL1.out)
            have HS5 := Lib.hid (HKF.out V1 [] [] (Foot.ofBelow _ HL1.out) (fun j hj => by cases hj))
            have HZ5 : Hid (V1.heap.size = V.heap.size + 1) := Lib.hid (by rw [HV1.out]; show (V.heap.push _).size = _; simp)
            refine hK.out _ _ HS5.out (fun hHeld1 => ?_)
            clear hK K HV1
            try simp only [Act.put, List.getElem_toArray, List.getElem_cons_zero, List.getElem_cons_succ, List.setIfInBounds_toArray, List.set_cons_zero, List.set_cons_succ]
            refine wpAnyH_ready (rs := [9]) (by kernel_rfl) (by simp) ?_
            refine AllReadyH.one rfl rfl (fun K hK => ?_)
            have HLE : Hid ((rawsOf D k).length ≤ 900) := Lib.hid (by omega)
            have HBS : Hid (w.heap.size ≤ V1.heap.size) := Lib.hid HB5.out.size
            refine wp_append_raw HX5 ⟨gf, gb, gn, dk.v⟩ HRK _ _ rfl rfl rfl HY1 HLE HBS (fun v6 V6 HX6 HG6 HO6 => ?_)
            have hg6 := HG6.out
            have HF6 : Hid (Foot (blkL s) (blkL v6) V1 V6) := Lib.hid ⟨hg6.os, hg6.tape, hg6.output, hg6.size, fun j hj hn => hg6.block j hj (fun e => hn (mem_blkL.2 e.symm)), fun j hj => by
              rcases HO6.out with e | e
              · exact .inl (mem_blkL.2 (by rw [← e]; exact mem_blkL.1 hj))
              · have h := mem_blkL.1 hj
                rw [e] at h
                exact .inr (by cases h; exact Nat.le_refl _)⟩
            clear hg6 HG6
            rw [← HRS.out] at HX6
            have HFA : Hid (Foot (blkL s) (blkL v6) V V6) := Lib.hid ((Foot.ofBelow _ HL1.out).trans HF6.out)
            have HSO : Hid (∀ j ∈ blkL s, j ≠ BP ∧ j ≠ g) := Lib.hid (fun j hj => by have h1 := HSB.out j (mem_blkL.1 hj); have h2 := HGL.out; exact ⟨by omega, by omega⟩)
            have HS6 := Lib.hid (HKF.out V6 _ _ HFA.out HSO.out)
            have HR6 := Lib.hid (HR5.out.foot HF6.out (fun j hj e => HN.out j hj (mem_blkL.1 e)))
            have HB6 := Lib.hid (HB5.out.trans (HF6.out.below (B := w.heap.size) (fun j hj => (HSB.out j (mem_blkL.1 hj)).1) HB5.out.size))
            have HN6 : Hid (∀ j, r.ownBlock = some j → v6.ownBlock ≠ some j) := Lib.hid (fun j hj e => by
              have h1 := HRB.out j hj
              have h2 := HPLx.out
              have h3 := HZ5.out
              rcases HO6.out with e2 | e2
              · exact HN.out j hj (e2 ▸ e)
              · rw [e2] at e; injection e with e; omega)
            have HV6 : Hid (∀ j, v6.ownBlock = some j → j < V6.heap.size) := Lib.hid (fun j hj => (World.ownsRow.lt HX6.out j hj).2)
            refine hK.out _ _ HS6.out (fun hHeld2 => ?_)
            clear hK K hHeld hHeld1 hHeld2 HX5 HR5 HB5 HS5 HY1 HF6 HK HPV HX3 HR3 HD3 HB3 HO6
            try simp only [Act.put, List.getElem_toArray, List.getElem_cons_zero, List.getElem_cons_succ, List.setIfInBounds_toArray, List.set_cons_zero, List.set_cons_succ]
            refine wpAnyH_take (i := 10) (v := ?_) rfl (by kernel_rfl) (by kernel_rfl) (by kernel_rfl) (fun _ _ _ h => h) (Or.inl ⟨by rfl, ?_⟩) (by assumption) ?_
            rotate_left
            · (intro w hSw; go_simp; try (with_reducible rfl))
            try simp only [Act.put, List.getElem_toArray, List.getElem_cons_zero, List.getElem_cons_succ, List.setIfInBounds_toArray, List.set_cons_zero, List.set_cons_succ]
            refine wpAnyH_done (by kernel_rfl) ?_ _
            refine NoPanic.normal ?_
            go_upto_region 10 with fail
            have HS7 : Hid (HeldL L V6.drew) := Lib.hid HS6.out
            have HSE := HSET V6.drew (HR6.out.below (Below.refl _ _).drew)
            refine wp_region_noPanic ?_
            refine wp_region_held_drew (S := HeldL L) (by kernel_rfl) HS7.out (fun hHeld => ?_)
            refine wpAnyH_take (i := 0) (v := ?_) rfl (by kernel_rfl) (by kernel_rfl) (by kernel_rfl) (fun _ _ _ h => h) (Or.inl ⟨by rfl, ?_⟩) (by assumption) ?_
            rotate_left
            · (intro w hSw; go_simp; try (with_reducible rfl))
            try simp only [Act.put, List.getElem_toArray, List.getElem_cons_zero, List.setIfInBounds_toArray, List.set_cons_zero, List.set_cons_succ]
            refine wpAnyH_take (i := 1) rfl (by kernel_rfl) (by kernel_rfl) (by kernel_rfl) (fun _ _ _ h => h) (yields_pref_l P16 M1 (by rfl) _ rfl rfl) (by assumption) ?_
            try simp only [Act.put, List.getElem_toArray, List.getElem_cons_zero, List.getElem_cons_succ, List.setIfInBounds_toArray, List.set_cons_zero, List.set_cons_succ]
            refine wpAnyH_take (i := 2) (v := ?_) rfl (by kernel_rfl) (by kernel_rfl) (by kernel_rfl) (fun _ _ _ h => h) (Or.inl ⟨by rfl, ?_⟩) (by assumption) ?_
            rotate_left
            · (intro w hSw; go_simp; try (with_reducible rfl))
            try simp only [Act.put, List.getElem_toArray, List.getElem_cons_zero, List.getElem_cons_succ, List.setIfInBounds_toArray, List.set_cons_zero, List.set_cons_succ]
            refine wpAnyH_take (i := 3) (v := ?_) rfl (by kernel_rfl) (by kernel_rfl) (by kernel_rfl) (fun _ _ _ h => h) (Or.inl ⟨by rfl, ?_⟩) (by assumption) ?_
            rotate_left
            · (intro w hSw; go_simp; try (with_reducible rfl))
            try simp only [Act.put, List.getElem_toArray, List.getElem_cons_zero, List.getElem_cons_succ, List.setIfInBounds_toArray, List.set_cons_zero, List.set_cons_succ]
            refine wpAnyH_take (i := 4) (v := ?_) rfl (by kernel_rfl) (by kernel_rfl) (by kernel_rfl) (fun _ _ _ h => h) (Or.inl ⟨by rfl, ?_⟩) (by assumption) ?_
            rotate_left
            · (intro w hSw; go_simp; try (with_reducible rfl))
            try simp only [Act.put, List.getElem_toArray, List.getElem_cons_zero, List.getElem_cons_succ, List.setIfInBounds_toArray, List.set_cons_zero, List.set_cons_succ]
            refine wpAnyH_take (i := 5) (v := ?_) rfl (by kernel_rfl) (by kernel_rfl) (by kernel_rfl) (fun _ _ _ h => h) (Or.inl ⟨by rfl, ?_⟩) (by assumption) ?_
            rotate_left
            · (intro w hSw; go_simp; try (with_reducible rfl))
            try simp only [Act.put, List.getElem_toArray, List.getElem_cons_zero, List.getElem_cons_succ, List.setIfInBounds_toArray, List.set_cons_zero, List.set_cons_succ]
            refine wpAnyH_take (i := 6) (v := ?_) rfl (by kernel_rfl) (by kernel_rfl) (by kernel_rfl) (fun _ _ _ h => h) (Or.inl ⟨by rfl, ?_⟩) (by assumption) ?_
            rotate_left
            · (intro w hSw; have hc0 := C1.out w hSw; go_simp; try (with_reducible rfl))
            try simp only [Act.put, List.getElem_toArray, List.getElem_cons_zero, List.getElem_cons_succ, List.setIfInBounds_toArray, List.set_cons_zero, List.set_cons_succ]
            refine wpAnyH_ready (rs := [7]) (by kernel_rfl) (by simp) ?_
            refine AllReadyH.cons rfl (fun K hK => ?_) AllReadyH.nil
            go_simp
            refine HSE.out.mono ?_
            rintro e V8 ⟨r8, rfl, hr8, hor, hb8⟩
            have HR8 : Hid (RowE V8 0 r8 (allE D (k + 1))) := Lib.hid (by rw [HES.out]; exact hr8)
            have HL8 : Hid (Below V6.heap.size V6 V8) := Lib.hid (chain ((Below.refl V6.heap.size V6).drew) hb8)
            have HX8 := Lib.hid (rowX_below HX6.out HL8.out)
            have HB8 := Lib.hid (chain HB6.out HL8.out)
            have HN8 : Hid (∀ j, r8.ownBlock = some j → v6.ownBlock ≠ some j) := Lib.hid (fun j hj e => by
              rcases hor with e2 | e2
              · exact HN6.out j (e2 ▸ hj) e
              · have h1 := (e2.blockLt j hj).1
                have h2 := HV6.out j e
                have h3 : V6.drew.heap.size = V6.heap.size := rfl
                omega)
            have HS8 := Lib.hid (HKF.out V8 _ _ (HFA.out.trans (Foot.ofBelow _ HL8.out)) HSO.out)
            clear hr8 hor hb8 HSE HSET HR6 HX6 HB6 HN6 HL8
            go_wp2_with fail
            refine hK.out _ _ HS8.out (fun hHeld8 => ?_)
            clear hK K
            try simp only [Act.put, List.getElem_toArray, List.getElem_cons_zero, List.getElem_cons_succ, List.setIfInBounds_toArray, List.set_cons_zero, List.set_cons_succ]
            refine wpAnyH_take (i := 8) (v := ?_) rfl (by kernel_rfl) (by kernel_rfl) (by kernel_rfl) (fun _ _ _ h => h) (Or.inl ⟨by rfl, ?_⟩) (by assumption) ?_
            rotate_left
            · (intro w hSw; go_simp; try (with_reducible rfl))
            try simp only [Act.put, List.getElem_toArray, List.getElem_cons_zero, List.getElem_cons_succ, List.setIfInBounds_toArray, List.set_cons_zero, List.set_cons_succ]
            refine wpAnyH_take (i := 9) (v := ?_) rfl (by kernel_rfl) (by kernel_rfl) (by kernel_rfl) (fun _ _ _ h => h) (Or.inl ⟨by rfl, ?_⟩) (by assumption) ?_
            rotate_left
            · (intro w hSw; go_simp; try (with_reducible rfl))
            try simp only [Act.put, List.getElem_toArray, List.getElem_cons_zero, List.getElem_cons_succ, List.setIfInBounds_toArray, List.set_cons_zero, List.set_cons_succ]
            refine wpAnyH_take (i := 10) (v := ?_) rfl (by kernel_rfl) (by kernel_rfl) (by kernel_rfl) (fun _ _ _ h => h) (Or.inl ⟨by rfl, ?_⟩) (by assumption) ?_
            rotate_left
            · (intro w hSw; go_simp; try (with_reducible rfl))
            try simp only [Act.put, List.getElem_toArray, List.getElem_cons_zero, List.getElem_cons_succ, List.setIfInBounds_toArray, List.set_cons_zero, List.set_cons_succ]
            refine wpAnyH_take (i := 11) (v := ?_) rfl (by kernel_rfl) (by kernel_rfl) (by kernel_rfl) (fun _ _ _ h => h) (Or.inl ⟨by rfl, ?_⟩) (by assumption) ?_
            rotate_left
            · (intro w hSw; go_simp; try (with_reducible rfl))
            try simp only [Act.put, List.getElem_toArray, List.getElem_cons_zero, List.getElem_cons_succ, List.setIfInBounds_toArray, List.set_cons_zero, List.set_cons_succ]
            refine wpAnyH_take (i := 12) (v := ?_) rfl (by kernel_rfl) (by kernel_rfl) (by kernel_rfl) (fun _ _ _ h => h) (Or.inl ⟨by rfl, ?_⟩) (by assumption) ?_
            rotate_left
            · (intro w hSw; go_simp; try (with_reducible rfl))
            try simp only [Act.put, List.getElem_toArray, List.getElem_cons_zero, List.getElem_cons_succ, List.setIfInBounds_toArray, List.set_cons_zero, List.set_cons_succ]
            refine wpAnyH_done (by kernel_rfl) ?_ _
            refine NoPanic.normal ?_
            clear hHeld hHeld8 HS6 HS7 HS8 M1 C1
            go_wp2_with fail
            go_roundw
            case rel => exact ⟨k + 1, _, _, by omega, by omega, rfl, rfl, by go_num, HX8, HR8, HN8, HB8⟩
            case measure => simp [intOf]; omega
        · obtain rfl : k = 30 := by omega
          have HNW := Lib.hid (new_raw s _ wr w.heap.size HX.out HOKR.out (by omega))
          rw [newE_raws] at HNW
          go_wp2_with fail
          refine HNW.out.mono ?_
          rintro e w1 ⟨G, F, rfl, hT, hF, hb⟩
          have HB1 := Lib.hid (chain HB.out hb)
          have HLK := Lib.hid (like_v G r _ 0 F w1 hT (HR.out.below hb))
          clear hT hF hb HNW HB HX HR HN
          go_wp2_with fail
          refine HLK.out.mono ?_
          rintro e w3 ⟨rfl, hb3⟩
          have HB3 := Lib.hid (chain HB1.out hb3)
          clear HLK HB1 hb3
          go_wp2_with fail
          refine (HLV _).out.mono ?_
          rintro e w2 ⟨rfl, hb2⟩
          have HB2 := Lib.hid (chain HB3.out hb2)
          clear hb2 HB3 HLV
          go_wp2_with fail
          go_ret
          exact ⟨rfl, HB2.out⟩
      · obtain rfl : k = len := by omega
        have hd : decide ((k : Int) < (k : Int)) = false := by simp
        have HNW := Lib.hid (new_raw s _ wr w.heap.size HX.out HOKR.out (by omega))
        rw [newE_raws] at HNW
        go_wp2_with fail
        refine HNW.out.mono ?_
        rintro e w1 ⟨G, F, rfl, hT, hF, hb⟩
        have HB1 := Lib.hid (chain HB.out hb)
        have HLK := Lib.hid (like_v G r _ 0 F w1 hT (HR.out.below hb))
        clear hT hF hb HNW HB HX HR HN
        go_wp2_with fail
        refine HLK.out.mono ?_
        rintro e w3 ⟨rfl, hb3⟩
        have HB3 := Lib.hid (chain HB1.out hb3)
        clear HLK HB1 hb3
        go_wp2_with fail
        refine (HLV _).out.mono ?_
        rintro e w2 ⟨rfl, hb2⟩
        have HB2 := Lib.hid (chain HB3.out hb2)
        clear hb2 HB3 HLV
        go_wp2_with fail
        go_ret
        exact ⟨rfl, HB2.out⟩

set_option maxRecDepth 100000 in
theorem lifted (os : Os) (started : os.Started) (H : Type) (enc : TypeId × Value → H) :
    ReturnsInHanded {} Try.checked os 7 .any (Rows.tableNewSpec.pre6 enc Try.prog Try.f7 Rows.tableNewRow.domain false) (Rows.tableNewSpec.post enc Try.prog Try.f7 false true false false) := by
  refine returnsInHanded_of_change (C := Try.checked) own started (by kernel_rfl) Try.func7
    (ChangeSpec.witness6 (enc := enc) (C := Try.checked) false ⟨#[], #[.slice none 0 0], []⟩ 8 (by kernel_rfl) (by kernel_rfl) (by kernel_rfl) (by kernel_rfl)) ?_
  intro W base args ds gs before hval0 hW hcnd _
  have hval : ∀ (j : Nat) t v, Try.f7.params[j]? = some t → args[j]? = some v → Value.okWide Try.prog W .any base t v := hval0
  have hW' := hW
  obtain ⟨p, q, hA0, hV, rfl, hfz, hnd⟩ := hW
  have hA : DataW.TrodAll enc Try.prog W 0 (fun _ => true) true Try.f7.params.toList args.toList ds p := hA0
  rw [Try.params7] at hA hval
  obtain ⟨v0, vs0, d0, ds0, p0, q0, hargs, rfl, rfl, h0, r0⟩ := trodAll_cons hA
  obtain ⟨rfl, rfl, rfl⟩ := trodAll_nil r0
  obtain rfl : args = #[v0] := by cases args; simp_all
  obtain ⟨rfl, rfl⟩ := trodVars_none hV
  obtain ⟨a0, len0, cap0, rfl⟩ := okWide_slice Try.underlying22 (hval 0 22 v0 rfl rfl)
  have k0 := h0
  have lt0 : ∀ x ∈ p0, x.block < W.heap.size := by obtain ⟨m, hm⟩ := k0; exact DataW.trod_lt m _ _ _ hm
  obtain ⟨z0, w0⟩ := open_deeds h0
  clear hA0 hval0
  refine (walk a0 len0 cap0 z0 W w0).mono fun e W' ⟨he, bel⟩ => ?_
  subst he
  exact ⟨_, rfl, _, _, _, [], _, [], hW', trodAll_mk1 (shut_bool Try.underlying4 _), (trodAll_cons_mk (Below.trod laidOut (by kernel_rfl) (of_decide_eq_true (by kernel_rfl)) k0 bel lt0) trodAll_mk0), rfl, bel.frame _, fun h => by cases h⟩

theorem over : Rows.tableNewRow.holds Try.pinned (OpenSpec.ofChange Rows.tableNewSpec) :=
  OpenClaim.holds_of_wide 7 Try.f7 rfl rfl rfl rfl rfl rfl rfl ⟨rfl, rfl, rfl, rfl, rfl⟩ rfl rfl rfl rfl rfl (by kernel_rfl) Try.func7 (by kernel_rfl)
    (of_decide_eq_true (by kernel_rfl)) (by unfold Func.isWrapper; first | (rw [if_pos (by decide +kernel)]; kernel_rfl) | (rw [if_neg (by decide +kernel)]; exact ⟨rfl, rfl⟩))
    (fun os started H enc _ => lifted os started H enc)


theorem proved : Rows.TableNewSaid := over
#print axioms proved
end Go.Proofs.Ytjpjobbmljlacaa.tableNew
