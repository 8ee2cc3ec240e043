/- Texts that belong together, one behind the other: CePut. -/
import Derived.Test.YtjmmedpkcedngaaB4
import Derived.Deep.CutRange
/- Contract of the reference's Put of layer 10. -/
namespace Go.Proofs.Ytjmmedpkcedngaa
open Go.RowKit
set_option linter.unusedVariables false
set_option maxRecDepth 20000

/-- What is left ahead of the insertion, and whom it lets go. -/
def preC (room : Int) (es : List Ce) (x : ByteArray) (t now : Int) : List Ce × Option Ce :=
  match findC es x t with
  | some i => (cutC es i, none)
  | none => if (es.length : Int) = room then
      (if ((sweepC es now).length : Int) = room then (cutC (sweepC es now) (bestC (sweepC es now) (sweepC es now).length), (sweepC es now)[bestC (sweepC es now) (sweepC es now).length]?) else (sweepC es now, none))
    else (es, none)
theorem putC_pre (room : Int) (es : List Ce) (own : Ce) (now : Int) : putC room es own now = (insC own (preC room es own.s own.t now).1, (preC room es own.s own.t now).2) := by
  unfold putC preC
  cases findC es own.s own.t with
  | some i => rfl
  | none =>
    simp only
    split
    · split <;> rfl
    · rfl
/-- No block of these holds the row. -/
def FarV (v : Value) (Ps : List Nat) : Prop := ∀ g, v.ownBlock = some g → g ∉ Ps
theorem RowC.setF {w : World} {B G o : Nat} {v u : Value} {D : List Ce} {Ps : List Nat} (h : RowC w B v D) (hf : FarV v Ps) (hG : G ∈ Ps) : RowC (w.setCell ⟨G, o, none⟩ u) B v D := h.kept2 (fun g hg => heap_setC _ _ _ _ _ (fun e => hf g hg (e ▸ hG)))
theorem RowC.setsF {w : World} {B G o : Nat} {v : Value} {us : List Value} {D : List Ce} {Ps : List Nat} (h : RowC w B v D) (hf : FarV v Ps) (hG : G ∈ Ps) : RowC (w.setCells G o us) B v D := h.kept2 (fun g hg => heap_setCs _ _ _ _ _ (fun e => hf g hg (e ▸ hG)))
theorem FarV.new {w : World} {B : Nat} {v : Value} {D : List Ce} {Ps : List Nat} (h : RowC w B v D) (hP : ∀ p ∈ Ps, p < B) : FarV v Ps := fun g hg hm => by have := (h.1.lt g hg).1; have := hP g hm; omega
theorem RowC.slice3 {w : World} {base : Nat} {v : Value} {D : List Ce} (h : RowC w base v D) : ∃ ad n c, v = .slice ad n c := by
  obtain ⟨ad, c, rfl⟩ := h.slice
  exact ⟨_, _, _, rfl⟩
abbrev zCc : List Value := [.int .i64 0, .slice none 0 0]
abbrev zCe : List Value := [.string ⟨#[]⟩, .int .i64 0, .slice none 0 0, .int .i64 0]
theorem preC_len (room : Int) (es : List Ce) (x : ByteArray) (t now : Int) : (preC room es x t now).1.length ≤ es.length := by
  have hl := sweepC_len es now
  have hc : ∀ (l : List Ce) i, (cutC l i).length ≤ l.length := fun l i => by unfold cutC; rw [List.length_append, List.length_take, List.length_drop]; omega
  unfold preC
  cases findC es x t with
  | some i => exact hc es i
  | none =>
    simp only
    split
    · split
      · exact Nat.le_trans (hc _ _) hl
      · exact hl
    · exact Nat.le_refl _
/-- Does the entry go ahead of the one that stands at k - 1? -/
def stepC (p : ByteArray × Int) (l : List Ce) : Nat → Bool
  | 0 => false
  | k + 1 => match l[k]? with
    | some e => ltK p (keyC e)
    | none => false
theorem stepC_succ (p : ByteArray × Int) (l : List Ce) (k : Nat) (hk : k < l.length) : stepC p l (k + 1) = ltK p (keyC l[k]) := by
  simp only [stepC, List.getElem?_eq_getElem hk]
theorem stepC_yes {p : ByteArray × Int} {l : List Ce} {k : Nat} (hk : k < l.length) (h : stepC p l (k + 1) = true) : placeC p l (k + 1) = placeC p l k := by
  rw [stepC_succ p l k hk] at h
  exact placeC_yes hk h
theorem stepC_no {p : ByteArray × Int} {l : List Ce} {k : Nat} (hk : k < l.length) (h : stepC p l (k + 1) = false) : placeC p l (k + 1) = k + 1 := by
  rw [stepC_succ p l k hk] at h
  exact placeC_no hk h
set_option maxRecDepth 100000 in
set_option maxHeartbeats 8000000 in
theorem refPutC_any (room : Int) (v : Value) (es : List Ce) (s : ByteArray) (t ttl now : Int) (a : Option Addr) (n c : Nat) (w : World) (base : Nat) (hE : RowC w base v es) (hs : s.size ≤ 2000000) (httl : 1 ≤ ttl) (hn0 : 0 ≤ now) (hn1 : now ≤ 2199023255552) (hle : es.length ≤ 100) (hroom : 1 ≤ room) :
    Calls Try.prog 23 #[ccV room v, .string s, .int .i64 t, .slice a n c, .int .i64 ttl, .int .i64 now] w fun e w' => ∃ v', e = .returned (.tuple #[ccV room v', ceV ((putC room es ⟨lowB s, t, a, n, c, now + min ttl 604800⟩ now).2.getD noCe), .bool (putC room es ⟨lowB s, t, a, n, c, now + min ttl 604800⟩ now).2.isSome]) ∧ RowC w' 0 v' (putC room es ⟨lowB s, t, a, n, c, now + min ttl 604800⟩ now).1 ∧ Below w.heap.size w w' := by
  have HLO := fun W => Lib.hid (refLower_any s W hs)
  have HFI := Lib.hid (fun W (hb : Below w.heap.size w W) => refFindC_any room v es s t W base (hE.below hb) hs)
  have hvl := hE.1.lt
  obtain ⟨x, hxx⟩ : ∃ x, lowB s = x := ⟨_, rfl⟩
  rw [hxx] at HLO HFI ⊢
  rw [putC_pre]
  obtain ⟨M, hM⟩ : ∃ M, preC room es x t now = M := ⟨_, rfl⟩
  simp only [hM]
  have HMM := Lib.hid hM
  have HE0 := Lib.hid hE
  obtain ⟨ad0, c0, rfl⟩ := hE.slice
  obtain ⟨u, hu⟩ : ∃ u, now + min ttl 604800 = u := ⟨_, rfl⟩
  have hw : IntKind.i64.wrap (now + min ttl 604800) = u := by rw [IntKind.wrap_i64]; omega
  rw [hu]
  clear hu
  obtain ⟨P6, hP6⟩ : ∃ P6, w.heap.size = P6 := ⟨_, rfl⟩
  obtain ⟨W0, hW0⟩ : ∃ W0, ((w.alloc (.cells #[.int .i64 room, .slice ad0 es.length c0] 27)).alloc (.cells #[.int .i64 0, .slice none 0 0] 27)).alloc (.cells #[.string ⟨#[]⟩, .int .i64 0, .slice none 0 0, .int .i64 0] 41) = W0 := ⟨_, rfl⟩
  have hb1 : Below w.heap.size w (w.alloc (.cells #[.int .i64 room, .slice ad0 es.length c0] 27)) := (Below.refl _ _).alloc (Nat.le_refl _) _
  have HB0 : Hid (Below w.heap.size w W0) := Lib.hid (by rw [← hW0]; exact (hb1.alloc (by simp) _).alloc (by simp; omega) _)
  have HC0 : Hid (CellsAt W0 P6 [.int .i64 room, .slice ad0 es.length c0]) := Lib.hid (by
    rw [← hW0, ← hP6]
    exact (CellsAt.new w 27 [.int .i64 room, .slice ad0 es.length c0]).below (((Below.refl _ _).alloc (Nat.le_refl _) _).alloc (by simp) _))
  have HY0 : Hid (CellsAt W0 (P6 + 1) zCc) := Lib.hid (by
    rw [← hW0, ← hP6]
    have := (CellsAt.new (w.alloc (.cells #[.int .i64 room, .slice ad0 es.length c0] 27)) 27 zCc).below ((Below.refl _ _).alloc (Nat.le_refl _) (.cells #[.string ⟨#[]⟩, .int .i64 0, .slice none 0 0, .int .i64 0] 41))
    simpa using this)
  have HZ0 : Hid (CellsAt W0 (P6 + 2) zCe) := Lib.hid (by
    rw [← hW0, ← hP6]
    have := CellsAt.new ((w.alloc (.cells #[.int .i64 room, .slice ad0 es.length c0] 27)).alloc (.cells #[.int .i64 0, .slice none 0 0] 27)) 41 zCe
    simpa using this)
  have HSZ0 : Hid (W0.heap.size = P6 + 3) := Lib.hid (by rw [← hW0, ← hP6]; simp)
  have hd : decide (ttl < 1) = false := decide_eq_false (by omega)
  have HVL : Hid (∀ g, (Value.slice ad0 es.length c0).ownBlock = some g → g < P6) := Lib.hid (fun g hg => by rw [← hP6]; exact (hvl g hg).2)
  clear hE hM hvl hb1 hxx
  rw [hP6] at HB0 HFI ⊢
  go_enter Try.func23, Try.ntmps23
  go_upto_region 1 with fail
  first | rw [hW0] | skip
  clear hW0
  go_wp2_with fail
  refine (HLO _).out.mono ?_
  rintro e w1 ⟨rfl, hb1⟩
  have HB1 := Lib.hid (chain (by rw [hP6]; exact HB0.out) hb1)
  have HC1 := Lib.hid (HC0.out.below hb1)
  have HY1 := Lib.hid (HY0.out.below hb1)
  have HZ1 := Lib.hid (HZ0.out.below hb1)
  have HS1 : Hid (P6 + 3 ≤ w1.heap.size) := Lib.hid (by rw [← HSZ0.out]; exact hb1.size)
  clear hb1 HB0 HC0 HY0 HZ0 HSZ0 HLO
  have hba : Below w1.heap.size w1 (w1.alloc (.cells #[.string ⟨#[]⟩, .int .i64 0, .slice none 0 0, .int .i64 0] 41)) := (Below.refl _ _).alloc (Nat.le_refl _) _
  have HO2 : Hid (CellsAt (w1.alloc (.cells #[.string ⟨#[]⟩, .int .i64 0, .slice none 0 0, .int .i64 0] 41)) w1.heap.size zCe) := Lib.hid (CellsAt.new w1 41 zCe)
  have HC2 := Lib.hid (HC1.out.below hba)
  have HY2 := Lib.hid (HY1.out.below hba)
  have HZ2 := Lib.hid (HZ1.out.below hba)
  have HB2 := Lib.hid (chain HB1.out hba)
  clear hba HC1 HY1 HZ1
  go_upto_region 4 with (first | refine build_ce4 rfl _ _ _ _ rfl rfl rfl rfl rfl ?_ | (refine store_ce HO2 rfl _ _ rfl rfl rfl rfl rfl rfl (fun W3 HW3 HO3 => ?_)))
  have HO3 : Hid (CellsAt W3 w1.heap.size (ceL ⟨x, t, a, n, c, u⟩)) := HO3
  have HC3 : Hid (CellsAt W3 P6 [.int .i64 room, .slice ad0 es.length c0]) := Lib.hid (by rw [HW3.out]; exact HC2.out.apart (by have := HS1.out; omega) _)
  have HY3 : Hid (CellsAt W3 (P6 + 1) zCc) := Lib.hid (by rw [HW3.out]; exact HY2.out.apart (by have := HS1.out; omega) _)
  have HZ3 : Hid (CellsAt W3 (P6 + 2) zCe) := Lib.hid (by rw [HW3.out]; exact HZ2.out.apart (by have := HS1.out; omega) _)
  have HB3 : Hid (Below P6 w W3) := Lib.hid (by rw [HW3.out, ← hP6]; exact below_cells HB1.out.size _ _ _ HB2.out)
  obtain ⟨P15, hP15⟩ : ∃ P15, w1.heap.size = P15 := ⟨_, rfl⟩
  rw [hP15] at HO3 HS1
  rw [hP15]
  have HSZ3 := Lib.hid HO3.out.lt
  clear HW3 HC2 HY2 HZ2 HB2 HO2 HB1 hP15
  obtain ⟨fi, hfi⟩ : ∃ fi, findI es x t = fi := ⟨_, rfl⟩
  have HFV := Lib.hid hfi
  have HFI3 := Lib.hid (HFI.out W3 HB3.out)
  rw [hfi] at HFI3
  clear HFI hfi
  go_wp2_with (first | refine load_cc HC3 rfl _ rfl rfl rfl ?_)
  refine HFI3.out.mono ?_
  rintro e w4 ⟨rfl, hb4⟩
  have HC4 := Lib.hid (HC3.out.below hb4)
  have HY4 := Lib.hid (HY3.out.below hb4)
  have HZ4 := Lib.hid (HZ3.out.below hb4)
  have HO4 := Lib.hid (HO3.out.below hb4)
  have HB4 : Hid (Below P6 w w4) := Lib.hid (by have := chain (by rw [hP6]; exact HB3.out) hb4; rw [hP6] at this; exact this)
  have HSZ4 : Hid (P15 < w4.heap.size) := Lib.hid (Nat.lt_of_lt_of_le HSZ3.out hb4.size)
  clear hb4 HC3 HY3 HZ3 HO3 HB3 HSZ3 HFI3
  have hba : Below w4.heap.size w4 (w4.alloc (.cells #[.string ⟨#[]⟩, .int .i64 0, .slice none 0 0, .int .i64 0] 41)) := (Below.refl _ _).alloc (Nat.le_refl _) _
  obtain ⟨W5, hW5⟩ : ∃ W5, w4.alloc (.cells #[.string ⟨#[]⟩, .int .i64 0, .slice none 0 0, .int .i64 0] 41) = W5 := ⟨_, rfl⟩
  have HG5 : Hid (CellsAt W5 w4.heap.size zCe) := Lib.hid (by rw [← hW5]; exact CellsAt.new w4 41 zCe)
  rw [hW5] at hba
  have HC5 := Lib.hid (HC4.out.below hba)
  have HY5 := Lib.hid (HY4.out.below hba)
  have HZ5 := Lib.hid (HZ4.out.below hba)
  have HO5 := Lib.hid (HO4.out.below hba)
  have HB5 : Hid (Below P6 w W5) := Lib.hid (by have := chain (by rw [hP6]; exact HB4.out) hba; rw [hP6] at this; exact this)
  obtain ⟨P17, hP17⟩ : ∃ P17, w4.heap.size = P17 := ⟨_, rfl⟩
  rw [hP17] at HG5 HSZ4
  have HL5 : Hid (P17 < W5.heap.size) := Lib.hid HG5.out.lt
  clear hba HC4 HY4 HZ4 HO4 HB4
  have HE5 : Hid (RowC W5 base (.slice ad0 es.length c0) es) := Lib.hid (HE0.out.below (by rw [hP6]; exact HB5.out))
  clear HE0
  go_upto_if 43 with fail
  go_cut [18, 19, 20, 21, 22] from 44 (fun s18 s19 s20 s21 s22 wc => ∃ v2, s18 = .bool M.2.isSome ∧ Hid (CellsAt wc P6 [.int .i64 room, v2]) ∧ Hid (RowC wc 0 v2 M.1) ∧ Hid (FarV v2 [P6, P6 + 1, P6 + 2, P15, P17]) ∧ Hid (CellsAt wc P15 (ceL ⟨x, t, a, n, c, u⟩)) ∧ Hid (CellsAt wc P17 (ceL (M.2.getD noCe))) ∧ Hid (CellsAt wc (P6 + 1) zCc) ∧ Hid (CellsAt wc (P6 + 2) zCe) ∧ Hid (Below P6 w wc) ∧ Hid (P17 < wc.heap.size))
  case first =>
    have HPS : Hid (∀ p ∈ [P6, P6 + 1, P6 + 2, P15, P17], p ≤ P17) := Lib.hid (fun p hp => by
      have h1 := HSZ4.out
      have h2 := HS1.out
      simp at hp
      omega)
    have h1 := HC5.out.cell 1 _ rfl
    cases hf : findC es x t with
    | some i =>
      obtain ⟨hi, hk⟩ := findC_lt _ _ _ _ hf
      have hfi : fi = (i : Int) := by rw [← HFV.out]; unfold findI; rw [hf]
      have HMV : Hid (M = (cutC es i, none)) := Lib.hid (by rw [← HMM.out]; unfold preC; rw [hf])
      subst hfi
      have HCU := Lib.hid (refCut_any (.slice ad0 es.length c0) es i W5 base HE5.out hi)
      have hd43 : decide ((0 : Int) ≤ (i : Int)) = true := decide_eq_true (by omega)
      clear hf hk
      go_wp2_with fail
      refine HCU.out.mono ?_
      rintro e w6 ⟨v6, rfl, hr6, hb6⟩
      obtain ⟨ad6, c6, rfl⟩ := hr6.slice
      have HC6 := Lib.hid (HC5.out.below hb6)
      have HR6 := Lib.hid hr6
      have HF6 : Hid (FarV (.slice ad6 (cutC es i).length c6) [P6, P6 + 1, P6 + 2, P15, P17]) := Lib.hid (FarV.new hr6 (fun p hp => Nat.lt_of_le_of_lt (HPS.out p hp) HL5.out))
      have HY6 := Lib.hid (HY5.out.below hb6)
      have HZ6 := Lib.hid (HZ5.out.below hb6)
      have HO6 := Lib.hid (HO5.out.below hb6)
      have HG6 := Lib.hid (HG5.out.below hb6)
      have HB6 : Hid (Below P6 w w6) := Lib.hid (by have := chain (by rw [hP6]; exact HB5.out) hb6; rw [hP6] at this; exact this)
      have HL6 := Lib.hid (Nat.lt_of_lt_of_le HL5.out hb6.size)
      have h6 := HC6.out.cell 1 _ rfl
      have hf6 := HC6.out.live 1 (by simp)
      clear hr6 hb6 HCU h1
      go_wp2_with fail
      go_meet
      case rel => exact ⟨.slice ad6 (cutC es i).length c6, by rw [HMV.out]; rfl, Lib.hid (HC6.out.set 1 _ (by simp)), Lib.hid (by rw [HMV.out]; exact (HR6.out.setF HF6.out (by simp)).mono (Nat.zero_le _)), HF6, Lib.hid (HO6.out.other (by have := HS1.out; omega) _ _), Lib.hid (by rw [HMV.out]; exact HG6.out.other (by have := HS1.out; have := HSZ4.out; omega) _ _), Lib.hid (HY6.out.other (by omega) _ _), Lib.hid (HZ6.out.other (by omega) _ _), Lib.hid (HB6.out.setCell (Nat.le_refl _) _), Lib.hid (by simpa using HL6.out)⟩
    | none =>
      have hfi : fi = -1 := by rw [← HFV.out]; unfold findI; rw [hf]
      have HMN := Lib.hid (show M = if (es.length : Int) = room then (if ((sweepC es now).length : Int) = room then (cutC (sweepC es now) (bestC (sweepC es now) (sweepC es now).length), (sweepC es now)[bestC (sweepC es now) (sweepC es now).length]?) else (sweepC es now, none)) else (es, none) from by rw [← HMM.out]; unfold preC; rw [hf])
      subst hfi
      have h0 := HC5.out.cell 0 _ rfl
      have HFV5 : Hid (FarV (.slice ad0 es.length c0) [P6, P6 + 1, P6 + 2, P15, P17]) := Lib.hid (fun g hg hm => by
        have h1 := HVL.out g hg
        have h2 := HS1.out
        have h3 := HSZ4.out
        simp at hm
        omega)
      clear hf
      by_cases hlr : (es.length : Int) = room
      · have hq : ((es.length : Int) == room) = true := by simp [hlr]
        have hq2 : decide ((es.length : Int) = room) = true := decide_eq_true hlr
        have HMN2 := HMN.out
        rw [if_pos hlr] at HMN2
        have HSWP := Lib.hid (refSweepC_any room (.slice ad0 es.length c0) es now W5 base HE5.out)
        have hsl := sweepC_len es now
        obtain ⟨l, hl⟩ : ∃ l, sweepC es now = l := ⟨_, rfl⟩
        rw [hl] at HMN2 HSWP hsl
        have HM3 := Lib.hid HMN2
        clear HMN HMN2 hl hlr
        go_upto_if 54 with fail
        go_wp2_with (first | refine load_cc HC5 rfl _ rfl rfl rfl ?_)
        refine HSWP.out.mono ?_
        rintro e w6 ⟨v6, rfl, hr6, hb6⟩
        obtain ⟨ad6, c6, rfl⟩ := hr6.slice
        have HC6 := Lib.hid (HC5.out.below hb6)
        have HR6 := Lib.hid hr6
        have HF6 : Hid (FarV (.slice ad6 l.length c6) [P6, P6 + 1, P6 + 2, P15, P17]) := Lib.hid (FarV.new hr6 (fun p hp => Nat.lt_of_le_of_lt (HPS.out p hp) HL5.out))
        have HY6 := Lib.hid (HY5.out.below hb6)
        have HZ6 := Lib.hid (HZ5.out.below hb6)
        have HO6 := Lib.hid (HO5.out.below hb6)
        have HG6 := Lib.hid (HG5.out.below hb6)
        have HB6 : Hid (Below P6 w w6) := Lib.hid (by have := chain (by rw [hP6]; exact HB5.out) hb6; rw [hP6] at this; exact this)
        have HL6 := Lib.hid (Nat.lt_of_lt_of_le HL5.out hb6.size)
        clear hr6 hb6 HSWP h1 h0 HC5 HY5 HZ5 HO5 HG5 HB5 HL5 HE5
        have hba : Below w6.heap.size w6 (w6.alloc (.cells #[.int .i64 0, .slice none 0 0] 27)) := (Below.refl _ _).alloc (Nat.le_refl _) _
        have HX7 : Hid (CellsAt (w6.alloc (.cells #[.int .i64 0, .slice none 0 0] 27)) w6.heap.size zCc) := Lib.hid (CellsAt.new w6 27 zCc)
        have HC7 := Lib.hid (HC6.out.below hba)
        have HR7 := Lib.hid (HR6.out.below hba)
        have HF7 : Hid (∀ g, (Value.slice ad6 l.length c6).ownBlock = some g → g < w6.heap.size) := Lib.hid (fun g hg => (HR6.out.1.lt g hg).2)
        have HY7 := Lib.hid (HY6.out.below hba)
        have HZ7 := Lib.hid (HZ6.out.below hba)
        have HO7 := Lib.hid (HO6.out.below hba)
        have HG7 := Lib.hid (HG6.out.below hba)
        have HB7 : Hid (Below P6 w (w6.alloc (.cells #[.int .i64 0, .slice none 0 0] 27))) := Lib.hid (by have := chain (by rw [hP6]; exact HB6.out) hba; rw [hP6] at this; exact this)
        have HS6 : Hid (P6 + 3 ≤ w6.heap.size) := Lib.hid (by have := HL6.out; have := HSZ4.out; have := HS1.out; omega)
        clear hba HC6 HR6 HY6 HZ6 HO6 HG6 HB6
        go_upto_region 11 with (first | (refine store_cc HX7 rfl _ _ rfl rfl rfl rfl rfl rfl (fun W8 HW8 HX8 => ?_)))
        have HC8 : Hid (CellsAt W8 P6 [.int .i64 room, .slice ad0 es.length c0]) := Lib.hid (by rw [HW8.out]; exact HC7.out.apart (by have := HS6.out; omega) _)
        have HR8 : Hid (RowC W8 0 (.slice ad6 l.length c6) l) := Lib.hid (by rw [HW8.out]; exact (HR7.out.setsF (Ps := [w6.heap.size]) (fun g hg hm => by have := HF7.out g hg; simp at hm; omega) (by simp)).mono (Nat.zero_le _))
        have HY8 : Hid (CellsAt W8 (P6 + 1) zCc) := Lib.hid (by rw [HW8.out]; exact HY7.out.apart (by have := HS6.out; omega) _)
        have HZ8 : Hid (CellsAt W8 (P6 + 2) zCe) := Lib.hid (by rw [HW8.out]; exact HZ7.out.apart (by have := HS6.out; omega) _)
        have HO8 : Hid (CellsAt W8 P15 (ceL ⟨x, t, a, n, c, u⟩)) := Lib.hid (by rw [HW8.out]; exact HO7.out.apart (by have := HL6.out; have := HSZ4.out; omega) _)
        have HG8 : Hid (CellsAt W8 P17 zCe) := Lib.hid (by rw [HW8.out]; exact HG7.out.apart (by have := HL6.out; omega) _)
        have HB8 : Hid (Below P6 w W8) := Lib.hid (by rw [HW8.out]; exact below_cells (by have := HS6.out; omega) _ _ _ HB7.out)
        have HL8 : Hid (P17 < W8.heap.size) := Lib.hid HG8.out.lt
        generalize w6.heap.size = P19 at *
        clear HW8 HC7 HR7 HY7 HZ7 HO7 HG7 HB7 HX7 HF7
        go_upto_if 67 with (first | refine load_cc HX8 rfl _ rfl rfl rfl ?_ | (refine store_cc HC8 rfl _ _ rfl rfl rfl rfl rfl rfl (fun W9 HW9 HC9 => ?_); have h9a := HC9.out.cell 0 _ rfl; have h9b := HC9.out.cell 1 _ rfl))
        have HR9 : Hid (RowC W9 0 (.slice ad6 l.length c6) l) := Lib.hid (by rw [HW9.out]; exact HR8.out.setsF HF6.out (by simp))
        have HY9 : Hid (CellsAt W9 (P6 + 1) zCc) := Lib.hid (by rw [HW9.out]; exact HY8.out.apart (by omega) _)
        have HZ9 : Hid (CellsAt W9 (P6 + 2) zCe) := Lib.hid (by rw [HW9.out]; exact HZ8.out.apart (by omega) _)
        have HO9 : Hid (CellsAt W9 P15 (ceL ⟨x, t, a, n, c, u⟩)) := Lib.hid (by rw [HW9.out]; exact HO8.out.apart (by have := HS1.out; omega) _)
        have HG9 : Hid (CellsAt W9 P17 zCe) := Lib.hid (by rw [HW9.out]; exact HG8.out.apart (by have := HS1.out; have := HSZ4.out; omega) _)
        have HB9 : Hid (Below P6 w W9) := Lib.hid (by rw [HW9.out]; exact below_cells (Nat.le_refl _) _ _ _ HB8.out)
        have HL9 : Hid (P17 < W9.heap.size) := Lib.hid HG9.out.lt
        clear HW9 HR8 HY8 HZ8 HO8 HG8 HB8 HC8 HX8 HL8 HFV5
        by_cases hl2 : (l.length : Int) = room
        · have hq3 : ((l.length : Int) == room) = true := by simp [hl2]
          have hq4 : decide ((l.length : Int) = room) = true := decide_eq_true hl2
          have HM4 : Hid (M = (cutC l (bestC l l.length), l[bestC l l.length]?)) := Lib.hid (by have := HM3.out; rw [if_pos hl2] at this; exact this)
          have hln : 1 ≤ l.length := by omega
          clear hl2
          rcases HR9.out.form with ⟨_, e⟩ | ⟨g, cap, hv, _, hgl, hcap, hcm, hrg⟩
          · rw [e] at hln; simp at hln
          obtain ⟨rfl, rfl⟩ : ad6 = some ⟨g, 0, none⟩ ∧ c6 = cap := by injection hv with h1 h2 h3; exact ⟨h1, h3⟩
          have HNX := Lib.hid (bestC_next l)
          have HB1 := Lib.hid (bestC_one l)
          have HBE : Hid (∀ k, k ≤ l.length → bestC l k < l.length) := Lib.hid (fun k hk => by
            cases k with
            | zero => exact hln
            | succ k => have := bestC_lt l k; omega)
          have HUA : Hid (∀ W k, Below W9.heap.size W9 W → k < l.length → W.cell? ⟨g, k * 4 + 3, none⟩ = some (.int .i64 (uAt l k))) := Lib.hid (fun W k hb hk => by
            have := range_ce (range_belowC hrg hb hgl) k hk 3 _ rfl
            rw [uAt_eq hk]
            simpa using this)
          have HKE : Hid (∀ W k (hk : k < l.length), Below W9.heap.size W9 W → W.rangeAt g (k * 4) (ceL l[k])) := Lib.hid (fun W k hk hb => by
            have := range_ce (range_belowC hrg hb hgl) k hk
            simpa using this)
          have HCU : Hid (∀ W k, RowC W 0 (.slice (some ⟨g, 0, none⟩) l.length c6) l → k < l.length → Calls Try.prog 35 #[.slice (some ⟨g, 0, none⟩) l.length c6, .int .i64 (k : Int)] W fun e w' => ∃ v', e = .returned v' ∧ RowC w' W.heap.size v' (cutC l k) ∧ Below W.heap.size W w') := Lib.hid (fun W k hb hk => refCut_any _ l k W 0 hb hk)
          obtain ⟨eb, heb⟩ : ∃ eb, l[bestC l l.length]? = some eb := ⟨_, List.getElem?_eq_getElem (HBE.out _ (Nat.le_refl _))⟩
          have HEB : Hid (∀ h : bestC l l.length < l.length, l[bestC l l.length] = eb) := Lib.hid (fun h => by rw [List.getElem?_eq_getElem h] at heb; injection heb)
          rw [heb] at HM4
          have HKB : Hid (∀ W, Below W9.heap.size W9 W → W.rangeAt g (bestC l l.length * 4) (ceL eb)) := Lib.hid (fun W hb => by rw [← HEB.out (HBE.out _ (Nat.le_refl _))]; exact HKE.out W _ _ hb)
          clear hv hgl hcap hcm hrg heb HEB HKE HMM
          obtain ⟨uu, huu⟩ : ∃ uu, uAt l = uu := ⟨_, rfl⟩
          obtain ⟨bb, hbb⟩ : ∃ bb, bestC l = bb := ⟨_, rfl⟩
          obtain ⟨cc, hcc⟩ : ∃ cc, cutC l = cc := ⟨_, rfl⟩
          obtain ⟨N, hN⟩ : ∃ N, l.length = N := ⟨_, rfl⟩
          rw [huu, hbb] at HNX
          rw [huu] at HUA
          rw [hN] at HR9 HUA HCU hln hq3 hq4 h9b HC9 HF6 HBE HKB HM4 hsl ⊢
          rw [hbb] at HBE HB1 HKB HM4
          rw [hcc] at HCU HM4
          clear huu hbb hcc hN
          go_wp2_with fail
          go_loopw [21, 22] (fun ib ik wr => ∃ k : Nat, 1 ≤ k ∧ k ≤ N ∧ ik = .int .i64 (k : Int) ∧ ib = .int .i64 ((bb k : Nat) : Int) ∧ Hid (Below W9.heap.size W9 wr)) (fun _ ik _ => N - (intOf ik).toNat)
          case atStart => exact ⟨1, Nat.le_refl _, hln, rfl, by rw [HB1.out]; rfl, Lib.hid (Below.refl _ _)⟩
          case round =>
            obtain ⟨k, hk1, hk, rfl, rfl, HBW⟩ := hrel
            have hcs : wr.cell? ⟨P6, 1, none⟩ = some (.slice (some ⟨g, 0, none⟩) N c6) := (HC9.out.below HBW.out).cell 1 _ rfl
            have hbk := HBE.out k hk
            have HNXK := Lib.hid (HNX.out k)
            by_cases hkn : k < N
            · have hdk : decide ((k : Int) < (N : Int)) = true := decide_eq_true (by omega)
              have hdn : decide (k < N) = true := decide_eq_true hkn
              have hb1 : (0 : Int) ≤ (k : Int) := by omega
              have hb2 : (k : Int) < (N : Int) := by omega
              have HBK := Lib.hid hbk
              obtain ⟨bk, hbke⟩ : ∃ bk, bb k = bk := ⟨_, rfl⟩
              rw [hbke] at HNXK hbk HBK ⊢
              have hb3 : (0 : Int) ≤ (bk : Int) := by omega
              have hb4 : (bk : Int) < (N : Int) := by omega
              obtain ⟨S, hS⟩ : ∃ S : World → Prop, (fun W => Below W9.heap.size W9 W) = S := ⟨_, rfl⟩
              have HSO : Hid (∀ W, S W → Below W9.heap.size W9 W) := Lib.hid (fun W h => by rw [← hS] at h; exact h)
              have HS0 : Hid (S wr.drew) := Lib.hid (by rw [← hS]; exact HBW.out.drew)
              have MC : Hid (∀ W, S W → W.cell? ⟨P6, 1, none⟩ = some (.slice (some ⟨g, 0, none⟩) N c6)) := Lib.hid (fun W h => (HC9.out.below (HSO.out W h)).cell 1 _ rfl)
              have MK : Hid (∀ W, S W → W.cell? ⟨g, k * 4 + 3, none⟩ = some (.int .i64 (uu k))) := Lib.hid (fun W h => HUA.out W k (HSO.out W h) hkn)
              have MB : Hid (∀ W, S W → W.cell? ⟨g, bk * 4 + 3, none⟩ = some (.int .i64 (uu bk))) := Lib.hid (fun W h => HUA.out W bk (HSO.out W h) HBK.out)
              clear hS HBW hbke
              go_upto_region 17 with fail
              refine wp_region_noPanic ?_
              refine wp_region_held_drew (S := S) (by kernel_rfl) HS0.out (fun hHeld => ?_)
              refine wpAnyH_take (i := 0) (v := ?_) rfl (by kernel_rfl) (by kernel_rfl) (by kernel_rfl) (fun _ _ _ h => h) (Or.inl ⟨by rfl, ?_⟩) (by assumption) ?_
              rotate_left
              · (intro w hSw; go_simp; try (with_reducible rfl))
              try simp only [Act.put, List.getElem_toArray, List.getElem_cons_zero, List.setIfInBounds_toArray, List.set_cons_zero, List.set_cons_succ]
              refine wpAnyH_take (i := 1) (v := ?_) rfl (by kernel_rfl) (by kernel_rfl) (by kernel_rfl) (fun _ _ _ h => h) (Or.inl ⟨by rfl, ?_⟩) (by assumption) ?_
              rotate_left
              · (intro w hSw; have hc0 := MC.out w hSw; go_simp; try (with_reducible rfl))
              try simp only [Act.put, List.getElem_toArray, List.getElem_cons_zero, List.getElem_cons_succ, List.setIfInBounds_toArray, List.set_cons_zero, List.set_cons_succ]
              refine wpAnyH_take (i := 2) (v := ?_) rfl (by kernel_rfl) (by kernel_rfl) (by kernel_rfl) (fun _ _ _ h => h) (Or.inl ⟨by rfl, ?_⟩) (by assumption) ?_
              rotate_left
              · (intro w hSw; go_simp; try (with_reducible rfl))
              try simp only [Act.put, List.getElem_toArray, List.getElem_cons_zero, List.getElem_cons_succ, List.setIfInBounds_toArray, List.set_cons_zero, List.set_cons_succ]
              refine wpAnyH_take (i := 3) (v := ?_) rfl (by kernel_rfl) (by kernel_rfl) (by kernel_rfl) (fun _ _ _ h => h) (Or.inl ⟨by rfl, ?_⟩) (by assumption) ?_
              rotate_left
              · (intro w hSw; go_simp; try (with_reducible rfl))
              try simp only [Act.put, List.getElem_toArray, List.getElem_cons_zero, List.getElem_cons_succ, List.setIfInBounds_toArray, List.set_cons_zero, List.set_cons_succ]
              refine wpAnyH_take (i := 4) (v := ?_) rfl (by kernel_rfl) (by kernel_rfl) (by kernel_rfl) (fun _ _ _ h => h) (Or.inl ⟨by rfl, ?_⟩) (by assumption) ?_
              rotate_left
              · (intro w hSw; go_simp; try (with_reducible rfl))
              try simp only [Act.put, List.getElem_toArray, List.getElem_cons_zero, List.getElem_cons_succ, List.setIfInBounds_toArray, List.set_cons_zero, List.set_cons_succ]
              refine wpAnyH_take (i := 5) (v := ?_) rfl (by kernel_rfl) (by kernel_rfl) (by kernel_rfl) (fun _ _ _ h => h) (Or.inl ⟨by rfl, ?_⟩) (by assumption) ?_
              rotate_left
              · (intro w hSw; have hc0 := MK.out w hSw; go_simp; try (with_reducible rfl))
              try simp only [Act.put, List.getElem_toArray, List.getElem_cons_zero, List.getElem_cons_succ, List.setIfInBounds_toArray, List.set_cons_zero, List.set_cons_succ]
              refine wpAnyH_take (i := 6) (v := ?_) rfl (by kernel_rfl) (by kernel_rfl) (by kernel_rfl) (fun _ _ _ h => h) (Or.inl ⟨by rfl, ?_⟩) (by assumption) ?_
              rotate_left
              · (intro w hSw; go_simp; try (with_reducible rfl))
              try simp only [Act.put, List.getElem_toArray, List.getElem_cons_zero, List.getElem_cons_succ, List.setIfInBounds_toArray, List.set_cons_zero, List.set_cons_succ]
              refine wpAnyH_take (i := 7) (v := ?_) rfl (by kernel_rfl) (by kernel_rfl) (by kernel_rfl) (fun _ _ _ h => h) (Or.inl ⟨by rfl, ?_⟩) (by assumption) ?_
              rotate_left
              · (intro w hSw; have hc0 := MC.out w hSw; go_simp; try (with_reducible rfl))
              try simp only [Act.put, List.getElem_toArray, List.getElem_cons_zero, List.getElem_cons_succ, List.setIfInBounds_toArray, List.set_cons_zero, List.set_cons_succ]
              refine wpAnyH_take (i := 8) (v := ?_) rfl (by kernel_rfl) (by kernel_rfl) (by kernel_rfl) (fun _ _ _ h => h) (Or.inl ⟨by rfl, ?_⟩) (by assumption) ?_
              rotate_left
              · (intro w hSw; go_simp; try (with_reducible rfl))
              try simp only [Act.put, List.getElem_toArray, List.getElem_cons_zero, List.getElem_cons_succ, List.setIfInBounds_toArray, List.set_cons_zero, List.set_cons_succ]
              refine wpAnyH_take (i := 9) (v := ?_) rfl (by kernel_rfl) (by kernel_rfl) (by kernel_rfl) (fun _ _ _ h => h) (Or.inl ⟨by rfl, ?_⟩) (by assumption) ?_
              rotate_left
              · (intro w hSw; go_simp; try (with_reducible rfl))
              try simp only [Act.put, List.getElem_toArray, List.getElem_cons_zero, List.getElem_cons_succ, List.setIfInBounds_toArray, List.set_cons_zero, List.set_cons_succ]
              refine wpAnyH_take (i := 10) (v := ?_) rfl (by kernel_rfl) (by kernel_rfl) (by kernel_rfl) (fun _ _ _ h => h) (Or.inl ⟨by rfl, ?_⟩) (by assumption) ?_
              rotate_left
              · (intro w hSw; go_simp; try (with_reducible rfl))
              try simp only [Act.put, List.getElem_toArray, List.getElem_cons_zero, List.getElem_cons_succ, List.setIfInBounds_toArray, List.set_cons_zero, List.set_cons_succ]
              refine wpAnyH_take (i := 11) (v := ?_) rfl (by kernel_rfl) (by kernel_rfl) (by kernel_rfl) (fun _ _ _ h => h) (Or.inl ⟨by rfl, ?_⟩) (by assumption) ?_
              rotate_left
              · (intro w hSw; have hc0 := MB.out w hSw; go_simp; try (with_reducible rfl))
              try simp only [Act.put, List.getElem_toArray, List.getElem_cons_zero, List.getElem_cons_succ, List.setIfInBounds_toArray, List.set_cons_zero, List.set_cons_succ]
              refine wpAnyH_take (i := 12) (v := ?_) rfl (by kernel_rfl) (by kernel_rfl) (by kernel_rfl) (fun _ _ _ h => h) (Or.inl ⟨by rfl, ?_⟩) (by assumption) ?_
              rotate_left
              · (intro w hSw; go_simp; try (with_reducible rfl))
              try simp only [Act.put, List.getElem_toArray, List.getElem_cons_zero, List.getElem_cons_succ, List.setIfInBounds_toArray, List.set_cons_zero, List.set_cons_succ]
              refine wpAnyH_done (by kernel_rfl) ?_ _
              refine NoPanic.normal ?_
              have HB17 := Lib.hid (HSO.out _ hHeld)
              clear MC MK MB HS0 HSO
              by_cases hu2 : uu k < uu bk
              · have hdu : decide (uu k < uu bk) = true := decide_eq_true hu2
                have HN2 : Hid (bb (k + 1) = k) := Lib.hid (by have := HNXK.out; rw [if_pos hu2] at this; exact this)
                go_wp2_with fail
                go_roundw
                case rel => exact ⟨k + 1, by omega, by omega, by go_num, by rw [HN2.out], HB17⟩
                case measure => simp [intOf]; omega
              · have hdu : decide (uu k < uu bk) = false := decide_eq_false hu2
                have HN2 : Hid (bb (k + 1) = bk) := Lib.hid (by have := HNXK.out; rw [if_neg hu2] at this; exact this)
                go_wp2_with fail
                go_roundw
                case rel => exact ⟨k + 1, by omega, by omega, by go_num, by rw [HN2.out], HB17⟩
                case measure => simp [intOf]; omega
            · obtain rfl : N = k := by omega
              have hdk : decide ((N : Int) < (N : Int)) = false := by simp
              have HKBW := Lib.hid (HKB.out wr HBW.out)
              have HBK := Lib.hid hbk
              obtain ⟨bk, hbke⟩ : ∃ bk, bb N = bk := ⟨_, rfl⟩
              rw [hbke] at HKBW hbk HBK HM4 ⊢
              have hb3 : (0 : Int) ≤ (bk : Int) := by omega
              have hb4 : (bk : Int) < (N : Int) := by omega
              have HGW := Lib.hid (HG9.out.below HBW.out)
              have HCW := Lib.hid (HC9.out.below HBW.out)
              have HRW := Lib.hid (HR9.out.below HBW.out)
              have HYW := Lib.hid (HY9.out.below HBW.out)
              have HZW := Lib.hid (HZ9.out.below HBW.out)
              have HOW := Lib.hid (HO9.out.below HBW.out)
              have HBB2 : Hid (Below P6 w wr) := Lib.hid (HB9.out.trans (HBW.out.mono (by have := HL9.out; have := HS1.out; have := HSZ4.out; omega)))
              clear HKB HC9 HR9 HY9 HZ9 HO9 HG9 HB9 HUA HNXK HNX HBE HB1 hbke
              go_upto_region 21 with (first | refine load_ceo HKBW _ rfl rfl rfl ?_ | (refine store_ce HGW rfl _ _ rfl rfl rfl rfl rfl rfl (fun W20 HW20 HG20 => ?_)))
              have HC20 : Hid (CellsAt W20 P6 [.int .i64 room, .slice (some ⟨g, 0, none⟩) N c6]) := Lib.hid (by rw [HW20.out]; exact HCW.out.apart (by have := HS1.out; have := HSZ4.out; omega) _)
              have HR20 : Hid (RowC W20 0 (.slice (some ⟨g, 0, none⟩) N c6) l) := Lib.hid (by rw [HW20.out]; exact HRW.out.setsF HF6.out (by simp))
              have HY20 : Hid (CellsAt W20 (P6 + 1) zCc) := Lib.hid (by rw [HW20.out]; exact HYW.out.apart (by have := HS1.out; have := HSZ4.out; omega) _)
              have HZ20 : Hid (CellsAt W20 (P6 + 2) zCe) := Lib.hid (by rw [HW20.out]; exact HZW.out.apart (by have := HS1.out; have := HSZ4.out; omega) _)
              have HO20 : Hid (CellsAt W20 P15 (ceL ⟨x, t, a, n, c, u⟩)) := Lib.hid (by rw [HW20.out]; exact HOW.out.apart (by have := HSZ4.out; omega) _)
              have HB20 : Hid (Below P6 w W20) := Lib.hid (by rw [HW20.out]; exact below_cells (by have := HS1.out; have := HSZ4.out; omega) _ _ _ HBB2.out)
              have HL20 : Hid (P17 < W20.heap.size) := Lib.hid HG20.out.lt
              have HCU20 := Lib.hid (HCU.out W20 bk HR20.out HBK.out)
              have h20 := HC20.out.cell 1 _ rfl
              clear HW20 HCW HRW HYW HZW HOW HBB2 HGW HKBW HCU hcs
              go_wp2_with fail
              refine HCU20.out.mono ?_
              rintro e w21 ⟨v21, rfl, hr21, hb21⟩
              obtain ⟨a21, c21, rfl⟩ := hr21.slice
              have HC21 := Lib.hid (HC20.out.below hb21)
              have HR21 := Lib.hid hr21
              have HF21 : Hid (FarV (.slice a21 (cc bk).length c21) [P6, P6 + 1, P6 + 2, P15, P17]) := Lib.hid (FarV.new hr21 (fun p hp => Nat.lt_of_le_of_lt (HPS.out p hp) HL20.out))
              have HY21 := Lib.hid (HY20.out.below hb21)
              have HZ21 := Lib.hid (HZ20.out.below hb21)
              have HO21 := Lib.hid (HO20.out.below hb21)
              have HG21 := Lib.hid (HG20.out.below hb21)
              have HB21 : Hid (Below P6 w w21) := Lib.hid (HB20.out.trans (hb21.mono (by have := HL20.out; have := HS1.out; have := HSZ4.out; omega)))
              have HL21 := Lib.hid (Nat.lt_of_lt_of_le HL20.out hb21.size)
              have h21 := HC21.out.cell 1 _ rfl
              have hf21 := HC21.out.live 1 (by simp)
              clear hr21 hb21 HCU20 HC20 HR20 HY20 HZ20 HO20 HG20 HB20 h20 HF6
              go_wp2_with fail
              go_meet
              case rel => exact ⟨.slice a21 (cc bk).length c21, by rw [HM4.out]; rfl, Lib.hid (HC21.out.set 1 _ (by simp)), Lib.hid (by rw [HM4.out]; exact (HR21.out.setF HF21.out (by simp)).mono (Nat.zero_le _)), HF21, Lib.hid (HO21.out.other (by have := HS1.out; omega) _ _), Lib.hid (by rw [HM4.out]; exact HG21.out.other (by have := HS1.out; have := HSZ4.out; omega) _ _), Lib.hid (HY21.out.other (by omega) _ _), Lib.hid (HZ21.out.other (by omega) _ _), Lib.hid (HB21.out.setCell (Nat.le_refl _) _), Lib.hid (by simpa using HL21.out)⟩
        · have hq3 : ((l.length : Int) == room) = false := by simp [hl2]
          have hq4 : decide ((l.length : Int) = room) = false := decide_eq_false hl2
          have HM4 : Hid (M = (l, none)) := Lib.hid (by have := HM3.out; rw [if_neg hl2] at this; exact this)
          clear HM3
          go_wp2_with fail
          go_meet
          case rel => exact ⟨.slice ad6 l.length c6, by rw [HM4.out]; rfl, HC9, Lib.hid (by rw [HM4.out]; exact HR9.out), HF6, HO9, Lib.hid (by rw [HM4.out]; exact HG9.out), HY9, HZ9, HB9, HL9⟩
      · have hq : ((es.length : Int) == room) = false := by simp [hlr]
        have hq2 : decide ((es.length : Int) = room) = false := decide_eq_false hlr
        have HM3 : Hid (M = (es, none)) := Lib.hid (by have := HMN.out; rw [if_neg hlr] at this; exact this)
        clear HMN
        go_upto_if 54 with fail
        go_wp2_with fail
        go_meet
        case rel => exact ⟨.slice ad0 es.length c0, by rw [HM3.out]; rfl, HC5, Lib.hid (by rw [HM3.out]; exact HE5.out.mono (Nat.zero_le _)), HFV5, HO5, Lib.hid (by rw [HM3.out]; exact HG5.out), HY5, HZ5, HB5, HL5⟩
  case rest =>
    have hml := preC_len room es x t now
    rw [HMM.out] at hml
    obtain ⟨v2, rfl, HC, HR, HF, HO, HG, HY, HZ, HB, HL⟩ := hcut
    obtain ⟨l, g⟩ := M
    simp only at hml HR HG ⊢
    clear HC5 HY5 HZ5 HO5 HB5 HG5 HL5 HE5 hW5 HO3 HFV HVL HMM hd hw hP17
    obtain ⟨ad2, c2, rfl⟩ := HR.out.slice
    obtain ⟨N, hN⟩ : ∃ N, l.length = N := ⟨_, rfl⟩
    have HN := Lib.hid hN
    have HPL : Hid (insC ⟨x, t, a, n, c, u⟩ l = l.take (placeC (x, t) l N) ++ ⟨x, t, a, n, c, u⟩ :: l.drop (placeC (x, t) l N)) := Lib.hid (by rw [← hN]; rfl)
    have hc1 := HC.out.cell 1 _ rfl
    rw [hN] at hc1 HC HR HF hml
    clear hN
    go_wp2_with fail
    go_loopw [23] (fun i wr => ∃ k : Nat, k ≤ N ∧ i = .int .i64 (k : Int) ∧ Hid (placeC (x, t) l N = placeC (x, t) l k) ∧ Hid (Below wc.heap.size wc wr)) (fun i _ => (intOf i).toNat)
    case atStart => exact ⟨N, Nat.le_refl _, rfl, Lib.hid rfl, Lib.hid (Below.refl _ _)⟩
    case round =>
      obtain ⟨k, hk, rfl, HQ, HW⟩ := hrel
      clear hc1
      go_upto_region 23 with fail
      go_cut [139] from 102 to 141 (fun s139 wx => s139 = .bool (stepC (x, t) l k) ∧ Hid (Below wc.heap.size wc wx))
      case first =>
        obtain ⟨S, hS⟩ : ∃ S : World → Prop, (fun W => Below wc.heap.size wc W) = S := ⟨_, rfl⟩
        have HSO : Hid (∀ W, S W → Below wc.heap.size wc W) := Lib.hid (fun W h => by rw [← hS] at h; exact h)
        have HS0 : Hid (S wr.drew) := Lib.hid (by rw [← hS]; exact HW.out.drew)
        clear hS
        cases k with
        | zero =>
          refine wp_region_noPanic ?_
          refine wp_region_held_drew (S := S) (by kernel_rfl) HS0.out (fun hHeld => ?_)
          refine wpAnyH_take (i := 0) (v := ?_) rfl (by kernel_rfl) (by kernel_rfl) (by kernel_rfl) (fun _ _ _ h => h) (Or.inl ⟨by rfl, ?_⟩) (by assumption) ?_
          rotate_left
          · (intro w hSw; go_simp; try (with_reducible rfl))
          try simp only [Act.put, List.getElem_toArray, List.getElem_cons_zero, List.setIfInBounds_toArray, List.set_cons_zero, List.set_cons_succ]
          refine wpAnyH_take (i := 1) (v := ?_) rfl (by kernel_rfl) (by kernel_rfl) (by kernel_rfl) (fun _ _ _ h => h) (Or.inl ⟨by rfl, ?_⟩) (by assumption) ?_
          rotate_left
          · (intro w hSw; go_simp; try (with_reducible rfl))
          try simp only [Act.put, List.getElem_toArray, List.getElem_cons_zero, List.getElem_cons_succ, List.setIfInBounds_toArray, List.set_cons_zero, List.set_cons_succ]
          refine wpAnyH_take (i := 2) (v := ?_) rfl (by kernel_rfl) (by kernel_rfl) (by kernel_rfl) (fun _ _ _ h => h) (Or.inl ⟨by rfl, ?_⟩) (by assumption) ?_
          rotate_left
          · (intro w hSw; go_simp; try (with_reducible rfl))
          try simp only [Act.put, List.getElem_toArray, List.getElem_cons_zero, List.getElem_cons_succ, List.setIfInBounds_toArray, List.set_cons_zero, List.set_cons_succ]
          refine wpAnyH_take (i := 3) (v := undef) rfl (by kernel_rfl) (by kernel_rfl) (by kernel_rfl) (fun _ _ _ h => h) (Or.inr ⟨by rfl, rfl⟩) (by assumption) ?_
          try simp only [Act.put, List.getElem_toArray, List.getElem_cons_zero, List.getElem_cons_succ, List.setIfInBounds_toArray, List.set_cons_zero, List.set_cons_succ]
          refine wpAnyH_take (i := 4) (v := undef) rfl (by kernel_rfl) (by kernel_rfl) (by kernel_rfl) (fun _ _ _ h => h) (Or.inr ⟨by rfl, rfl⟩) (by assumption) ?_
          try simp only [Act.put, List.getElem_toArray, List.getElem_cons_zero, List.getElem_cons_succ, List.setIfInBounds_toArray, List.set_cons_zero, List.set_cons_succ]
          refine wpAnyH_take (i := 5) (v := undef) rfl (by kernel_rfl) (by kernel_rfl) (by kernel_rfl) (fun _ _ _ h => h) (Or.inr ⟨by rfl, rfl⟩) (by assumption) ?_
          try simp only [Act.put, List.getElem_toArray, List.getElem_cons_zero, List.getElem_cons_succ, List.setIfInBounds_toArray, List.set_cons_zero, List.set_cons_succ]
          refine wpAnyH_take (i := 6) (v := undef) rfl (by kernel_rfl) (by kernel_rfl) (by kernel_rfl) (fun _ _ _ h => h) (Or.inr ⟨by rfl, rfl⟩) (by assumption) ?_
          try simp only [Act.put, List.getElem_toArray, List.getElem_cons_zero, List.getElem_cons_succ, List.setIfInBounds_toArray, List.set_cons_zero, List.set_cons_succ]
          refine wpAnyH_take (i := 7) (v := undef) rfl (by kernel_rfl) (by kernel_rfl) (by kernel_rfl) (fun _ _ _ h => h) (Or.inr ⟨by rfl, rfl⟩) (by assumption) ?_
          try simp only [Act.put, List.getElem_toArray, List.getElem_cons_zero, List.getElem_cons_succ, List.setIfInBounds_toArray, List.set_cons_zero, List.set_cons_succ]
          refine wpAnyH_take (i := 8) (v := undef) rfl (by kernel_rfl) (by kernel_rfl) (by kernel_rfl) (fun _ _ _ h => h) (Or.inr ⟨by rfl, rfl⟩) (by assumption) ?_
          try simp only [Act.put, List.getElem_toArray, List.getElem_cons_zero, List.getElem_cons_succ, List.setIfInBounds_toArray, List.set_cons_zero, List.set_cons_succ]
          refine wpAnyH_take (i := 9) (v := undef) rfl (by kernel_rfl) (by kernel_rfl) (by kernel_rfl) (fun _ _ _ h => h) (Or.inr ⟨by rfl, rfl⟩) (by assumption) ?_
          try simp only [Act.put, List.getElem_toArray, List.getElem_cons_zero, List.getElem_cons_succ, List.setIfInBounds_toArray, List.set_cons_zero, List.set_cons_succ]
          refine wpAnyH_take (i := 10) (v := undef) rfl (by kernel_rfl) (by kernel_rfl) (by kernel_rfl) (fun _ _ _ h => h) (Or.inr ⟨by rfl, rfl⟩) (by assumption) ?_
          try simp only [Act.put, List.getElem_toArray, List.getElem_cons_zero, List.getElem_cons_succ, List.setIfInBounds_toArray, List.set_cons_zero, List.set_cons_succ]
          refine wpAnyH_take (i := 11) (v := undef) rfl (by kernel_rfl) (by kernel_rfl) (by kernel_rfl) (fun _ _ _ h => h) (Or.inr ⟨by rfl, rfl⟩) (by assumption) ?_
          try simp only [Act.put, List.getElem_toArray, List.getElem_cons_zero, List.getElem_cons_succ, List.setIfInBounds_toArray, List.set_cons_zero, List.set_cons_succ]
          refine wpAnyH_take (i := 12) (v := undef) rfl (by kernel_rfl) (by kernel_rfl) (by kernel_rfl) (fun _ _ _ h => h) (Or.inr ⟨by rfl, rfl⟩) (by assumption) ?_
          try simp only [Act.put, List.getElem_toArray, List.getElem_cons_zero, List.getElem_cons_succ, List.setIfInBounds_toArray, List.set_cons_zero, List.set_cons_succ]
          refine wpAnyH_take (i := 13) (v := undef) rfl (by kernel_rfl) (by kernel_rfl) (by kernel_rfl) (fun _ _ _ h => h) (Or.inr ⟨by rfl, rfl⟩) (by assumption) ?_
          try simp only [Act.put, List.getElem_toArray, List.getElem_cons_zero, List.getElem_cons_succ, List.setIfInBounds_toArray, List.set_cons_zero, List.set_cons_succ]
          refine wpAnyH_take (i := 14) (v := undef) rfl (by kernel_rfl) (by kernel_rfl) (by kernel_rfl) (fun _ _ _ h => h) (Or.inr ⟨by rfl, rfl⟩) (by assumption) ?_
          try simp only [Act.put, List.getElem_toArray, List.getElem_cons_zero, List.getElem_cons_succ, List.setIfInBounds_toArray, List.set_cons_zero, List.set_cons_succ]
          refine wpAnyH_take (i := 15) (v := undef) rfl (by kernel_rfl) (by kernel_rfl) (by kernel_rfl) (fun _ _ _ h => h) (Or.inr ⟨by rfl, rfl⟩) (by assumption) ?_
          try simp only [Act.put, List.getElem_toArray, List.getElem_cons_zero, List.getElem_cons_succ, List.setIfInBounds_toArray, List.set_cons_zero, List.set_cons_succ]
          refine wpAnyH_take (i := 16) (v := undef) rfl (by kernel_rfl) (by kernel_rfl) (by kernel_rfl) (fun _ _ _ h => h) (Or.inr ⟨by rfl, rfl⟩) (by assumption) ?_
          try simp only [Act.put, List.getElem_toArray, List.getElem_cons_zero, List.getElem_cons_succ, List.setIfInBounds_toArray, List.set_cons_zero, List.set_cons_succ]
          refine wpAnyH_take (i := 17) (v := undef) rfl (by kernel_rfl) (by kernel_rfl) (by kernel_rfl) (fun _ _ _ h => h) (Or.inr ⟨by rfl, rfl⟩) (by assumption) ?_
          try simp only [Act.put, List.getElem_toArray, List.getElem_cons_zero, List.getElem_cons_succ, List.setIfInBounds_toArray, List.set_cons_zero, List.set_cons_succ]
          refine wpAnyH_take (i := 18) (v := undef) rfl (by kernel_rfl) (by kernel_rfl) (by kernel_rfl) (fun _ _ _ h => h) (Or.inr ⟨by rfl, rfl⟩) (by assumption) ?_
          try simp only [Act.put, List.getElem_toArray, List.getElem_cons_zero, List.getElem_cons_succ, List.setIfInBounds_toArray, List.set_cons_zero, List.set_cons_succ]
          refine wpAnyH_take (i := 19) (v := undef) rfl (by kernel_rfl) (by kernel_rfl) (by kernel_rfl) (fun _ _ _ h => h) (Or.inr ⟨by rfl, rfl⟩) (by assumption) ?_
          try simp only [Act.put, List.getElem_toArray, List.getElem_cons_zero, List.getElem_cons_succ, List.setIfInBounds_toArray, List.set_cons_zero, List.set_cons_succ]
          refine wpAnyH_take (i := 20) (v := undef) rfl (by kernel_rfl) (by kernel_rfl) (by kernel_rfl) (fun _ _ _ h => h) (Or.inr ⟨by rfl, rfl⟩) (by assumption) ?_
          try simp only [Act.put, List.getElem_toArray, List.getElem_cons_zero, List.getElem_cons_succ, List.setIfInBounds_toArray, List.set_cons_zero, List.set_cons_succ]
          refine wpAnyH_take (i := 21) (v := undef) rfl (by kernel_rfl) (by kernel_rfl) (by kernel_rfl) (fun _ _ _ h => h) (Or.inr ⟨by rfl, rfl⟩) (by assumption) ?_
          try simp only [Act.put, List.getElem_toArray, List.getElem_cons_zero, List.getElem_cons_succ, List.setIfInBounds_toArray, List.set_cons_zero, List.set_cons_succ]
          refine wpAnyH_take (i := 22) (v := undef) rfl (by kernel_rfl) (by kernel_rfl) (by kernel_rfl) (fun _ _ _ h => h) (Or.inr ⟨by rfl, rfl⟩) (by assumption) ?_
          try simp only [Act.put, List.getElem_toArray, List.getElem_cons_zero, List.getElem_cons_succ, List.setIfInBounds_toArray, List.set_cons_zero, List.set_cons_succ]
          refine wpAnyH_take (i := 23) (v := undef) rfl (by kernel_rfl) (by kernel_rfl) (by kernel_rfl) (fun _ _ _ h => h) (Or.inr ⟨by rfl, rfl⟩) (by assumption) ?_
          try simp only [Act.put, List.getElem_toArray, List.getElem_cons_zero, List.getElem_cons_succ, List.setIfInBounds_toArray, List.set_cons_zero, List.set_cons_succ]
          refine wpAnyH_take (i := 24) (v := undef) rfl (by kernel_rfl) (by kernel_rfl) (by kernel_rfl) (fun _ _ _ h => h) (Or.inr ⟨by rfl, rfl⟩) (by assumption) ?_
          try simp only [Act.put, List.getElem_toArray, List.getElem_cons_zero, List.getElem_cons_succ, List.setIfInBounds_toArray, List.set_cons_zero, List.set_cons_succ]
          refine wpAnyH_take (i := 25) (v := undef) rfl (by kernel_rfl) (by kernel_rfl) (by kernel_rfl) (fun _ _ _ h => h) (Or.inr ⟨by rfl, rfl⟩) (by assumption) ?_
          try simp only [Act.put, List.getElem_toArray, List.getElem_cons_zero, List.getElem_cons_succ, List.setIfInBounds_toArray, List.set_cons_zero, List.set_cons_succ]
          refine wpAnyH_take (i := 26) (v := undef) rfl (by kernel_rfl) (by kernel_rfl) (by kernel_rfl) (fun _ _ _ h => h) (Or.inr ⟨by rfl, rfl⟩) (by assumption) ?_
          try simp only [Act.put, List.getElem_toArray, List.getElem_cons_zero, List.getElem_cons_succ, List.setIfInBounds_toArray, List.set_cons_zero, List.set_cons_succ]
          refine wpAnyH_take (i := 27) (v := undef) rfl (by kernel_rfl) (by kernel_rfl) (by kernel_rfl) (fun _ _ _ h => h) (Or.inr ⟨by rfl, rfl⟩) (by assumption) ?_
          try simp only [Act.put, List.getElem_toArray, List.getElem_cons_zero, List.getElem_cons_succ, List.setIfInBounds_toArray, List.set_cons_zero, List.set_cons_succ]
          refine wpAnyH_take (i := 28) (v := undef) rfl (by kernel_rfl) (by kernel_rfl) (by kernel_rfl) (fun _ _ _ h => h) (Or.inr ⟨by rfl, rfl⟩) (by assumption) ?_
          try simp only [Act.put, List.getElem_toArray, List.getElem_cons_zero, List.getElem_cons_succ, List.setIfInBounds_toArray, List.set_cons_zero, List.set_cons_succ]
          refine wpAnyH_take (i := 29) (v := undef) rfl (by kernel_rfl) (by kernel_rfl) (by kernel_rfl) (fun _ _ _ h => h) (Or.inr ⟨by rfl, rfl⟩) (by assumption) ?_
          try simp only [Act.put, List.getElem_toArray, List.getElem_cons_zero, List.getElem_cons_succ, List.setIfInBounds_toArray, List.set_cons_zero, List.set_cons_succ]
          refine wpAnyH_take (i := 30) (v := undef) rfl (by kernel_rfl) (by kernel_rfl) (by kernel_rfl) (fun _ _ _ h => h) (Or.inr ⟨by rfl, rfl⟩) (by assumption) ?_
          try simp only [Act.put, List.getElem_toArray, List.getElem_cons_zero, List.getElem_cons_succ, List.setIfInBounds_toArray, List.set_cons_zero, List.set_cons_succ]
          refine wpAnyH_take (i := 31) (v := undef) rfl (by kernel_rfl) (by kernel_rfl) (by kernel_rfl) (fun _ _ _ h => h) (Or.inr ⟨by rfl, rfl⟩) (by assumption) ?_
          try simp only [Act.put, List.getElem_toArray, List.getElem_cons_zero, List.getElem_cons_succ, List.setIfInBounds_toArray, List.set_cons_zero, List.set_cons_succ]
          refine wpAnyH_take (i := 32) (v := undef) rfl (by kernel_rfl) (by kernel_rfl) (by kernel_rfl) (fun _ _ _ h => h) (Or.inr ⟨by rfl, rfl⟩) (by assumption) ?_
          try simp only [Act.put, List.getElem_toArray, List.getElem_cons_zero, List.getElem_cons_succ, List.setIfInBounds_toArray, List.set_cons_zero, List.set_cons_succ]
          refine wpAnyH_take (i := 33) (v := undef) rfl (by kernel_rfl) (by kernel_rfl) (by kernel_rfl) (fun _ _ _ h => h) (Or.inr ⟨by rfl, rfl⟩) (by assumption) ?_
          try simp only [Act.put, List.getElem_toArray, List.getElem_cons_zero, List.getElem_cons_succ, List.setIfInBounds_toArray, List.set_cons_zero, List.set_cons_succ]
          refine wpAnyH_take (i := 34) (v := undef) rfl (by kernel_rfl) (by kernel_rfl) (by kernel_rfl) (fun _ _ _ h => h) (Or.inr ⟨by rfl, rfl⟩) (by assumption) ?_
          try simp only [Act.put, List.getElem_toArray, List.getElem_cons_zero, List.getElem_cons_succ, List.setIfInBounds_toArray, List.set_cons_zero, List.set_cons_succ]
          refine wpAnyH_take (i := 35) (v := undef) rfl (by kernel_rfl) (by kernel_rfl) (by kernel_rfl) (fun _ _ _ h => h) (Or.inr ⟨by rfl, rfl⟩) (by assumption) ?_
          try simp only [Act.put, List.getElem_toArray, List.getElem_cons_zero, List.getElem_cons_succ, List.setIfInBounds_toArray, List.set_cons_zero, List.set_cons_succ]
          refine wpAnyH_take (i := 36) (v := undef) rfl (by kernel_rfl) (by kernel_rfl) (by kernel_rfl) (fun _ _ _ h => h) (Or.inr ⟨by rfl, rfl⟩) (by assumption) ?_
          try simp only [Act.put, List.getElem_toArray, List.getElem_cons_zero, List.getElem_cons_succ, List.setIfInBounds_toArray, List.set_cons_zero, List.set_cons_succ]
          refine wpAnyH_take (i := 37) (v := ?_) rfl (by kernel_rfl) (by kernel_rfl) (by kernel_rfl) (fun _ _ _ h => h) (Or.inl ⟨by rfl, ?_⟩) (by assumption) ?_
          rotate_left
          · (intro w hSw; go_simp; try (with_reducible rfl))
          try simp only [Act.put, List.getElem_toArray, List.getElem_cons_zero, List.getElem_cons_succ, List.setIfInBounds_toArray, List.set_cons_zero, List.set_cons_succ]
          refine wpAnyH_done (by kernel_rfl) ?_ _
          refine NoPanic.normal ?_
          go_wp2_with fail
          go_meet
          case rel => exact ⟨rfl, Lib.hid (HSO.out _ hHeld)⟩
        | succ j =>
          have hjl : j < l.length := by rw [HN.out]; omega
          rcases HR.out.form with ⟨_, e⟩ | ⟨g0, cap, hv, _, hgl, hcap, hcm, hrg⟩
          · rw [e] at hjl; simp at hjl
          rw [HN.out] at hv
          obtain ⟨rfl, rfl⟩ : ad2 = some ⟨g0, 0, none⟩ ∧ c2 = cap := by injection hv with h1 h2 h3; exact ⟨h1, h3⟩
          obtain ⟨en, hen⟩ : ∃ en, l[j] = en := ⟨_, rfl⟩
          have HST : Hid (stepC (x, t) l (j + 1) = ltK (x, t) (keyC en)) := Lib.hid (by rw [stepC_succ _ _ _ hjl, hen])
          have HRE : Hid (∀ W, Below wc.heap.size wc W → W.rangeAt g0 (j * 4) (ceL en)) := Lib.hid (fun W hb => by
            have := range_ce (range_belowC hrg hb hgl) j hjl
            rw [hen] at this
            simpa using this)
          have MC : Hid (∀ W, S W → W.cell? ⟨P6, 1, none⟩ = some (.slice (some ⟨g0, 0, none⟩) N c2)) := Lib.hid (fun W h => (HC.out.below (HSO.out W h)).cell 1 _ rfl)
          have MO0 : Hid (∀ W, S W → W.cell? ⟨P15, 0, none⟩ = some (.string x)) := Lib.hid (fun W h => (HO.out.below (HSO.out W h)).cell 0 _ rfl)
          have MO1 : Hid (∀ W, S W → W.cell? ⟨P15, 1, none⟩ = some (.int .i64 t)) := Lib.hid (fun W h => (HO.out.below (HSO.out W h)).cell 1 _ rfl)
          have ME0 : Hid (∀ W, S W → W.cell? ⟨g0, j * 4, none⟩ = some (.string en.s)) := Lib.hid (fun W h => by have := HRE.out W (HSO.out W h) 0 _ rfl; simpa using this)
          have ME1 : Hid (∀ W, S W → W.cell? ⟨g0, j * 4 + 1, none⟩ = some (.int .i64 en.t)) := Lib.hid (fun W h => by have := HRE.out W (HSO.out W h) 1 _ rfl; simpa using this)
          have HLT : Hid (stepC (x, t) l (j + 1) = (ltB x en.s || (decide (x = en.s) && decide (t < en.t)))) := Lib.hid (by rw [HST.out]; rfl)
          obtain ⟨es0, et0, _, _, _, _⟩ := en
          simp only at MC ME0 ME1 HLT
          have hje : (((j + 1 : Nat)) : Int) = (j : Int) + 1 := by omega
          rw [hje]
          have hd1 : decide ((0 : Int) < (j : Int) + 1) = true := decide_eq_true (by omega)
          have hp1 : (0 : Int) < (j : Int) + 1 := by omega
          have hw1 : IntKind.i64.wrap ((j : Int) + 1 - 1) = (j : Int) := by rw [IntKind.wrap_i64]; omega
          have hw2 : IntKind.i64.wrap (j : Int) = (j : Int) := by rw [IntKind.wrap_i64]; omega
          have hb1 : (0 : Int) ≤ (j : Int) := by omega
          have hb2 : (j : Int) < (N : Int) := by omega
          have HTL := Lib.hid (@toList_eq x es0)
          clear hje HRE HST hv hgl hcap hcm hrg hen HW
          cases hlt : ltB x es0 with
          | true =>
            have hq : Op.bytesLess x.toList es0.toList = true := hlt
            refine wp_region_noPanic ?_
            refine wp_region_held_drew (S := S) (by kernel_rfl) HS0.out (fun hHeld => ?_)
            refine wpAnyH_take (i := 0) (v := ?_) rfl (by kernel_rfl) (by kernel_rfl) (by kernel_rfl) (fun _ _ _ h => h) (Or.inl ⟨by rfl, ?_⟩) (by assumption) ?_
            rotate_left
            · (intro w hSw; go_simp; try (with_reducible rfl))
            try simp only [Act.put, List.getElem_toArray, List.getElem_cons_zero, List.setIfInBounds_toArray, List.set_cons_zero, List.set_cons_succ]
            refine wpAnyH_take (i := 1) (v := ?_) rfl (by kernel_rfl) (by kernel_rfl) (by kernel_rfl) (fun _ _ _ h => h) (Or.inl ⟨by rfl, ?_⟩) (by assumption) ?_
            rotate_left
            · (intro w hSw; go_simp; try (with_reducible rfl))
            try simp only [Act.put, List.getElem_toArray, List.getElem_cons_zero, List.getElem_cons_succ, List.setIfInBounds_toArray, List.set_cons_zero, List.set_cons_succ]
            refine wpAnyH_take (i := 2) (v := ?_) rfl (by kernel_rfl) (by kernel_rfl) (by kernel_rfl) (fun _ _ _ h => h) (Or.inl ⟨by rfl, ?_⟩) (by assumption) ?_
            rotate_left
            · (intro w hSw; go_simp; try (with_reducible rfl))
            try simp only [Act.put, List.getElem_toArray, List.getElem_cons_zero, List.getElem_cons_succ, List.setIfInBounds_toArray, List.set_cons_zero, List.set_cons_succ]
            refine wpAnyH_take (i := 3) (v := ?_) rfl (by kernel_rfl) (by kernel_rfl) (by kernel_rfl) (fun _ _ _ h => h) (Or.inl ⟨by rfl, ?_⟩) (by assumption) ?_
            rotate_left
            · (intro w hSw; go_simp; try (with_reducible rfl))
            try simp only [Act.put, List.getElem_toArray, List.getElem_cons_zero, List.getElem_cons_succ, List.setIfInBounds_toArray, List.set_cons_zero, List.set_cons_succ]
            refine wpAnyH_take (i := 4) (v := ?_) rfl (by kernel_rfl) (by kernel_rfl) (by kernel_rfl) (fun _ _ _ h => h) (Or.inl ⟨by rfl, ?_⟩) (by assumption) ?_
            rotate_left
            · (intro w hSw; have hc0 := MO0.out w hSw; go_simp; try (with_reducible rfl))
            try simp only [Act.put, List.getElem_toArray, List.getElem_cons_zero, List.getElem_cons_succ, List.setIfInBounds_toArray, List.set_cons_zero, List.set_cons_succ]
            refine wpAnyH_take (i := 5) (v := ?_) rfl (by kernel_rfl) (by kernel_rfl) (by kernel_rfl) (fun _ _ _ h => h) (Or.inl ⟨by rfl, ?_⟩) (by assumption) ?_
            rotate_left
            · (intro w hSw; go_simp; try (with_reducible rfl))
            try simp only [Act.put, List.getElem_toArray, List.getElem_cons_zero, List.getElem_cons_succ, List.setIfInBounds_toArray, List.set_cons_zero, List.set_cons_succ]
            refine wpAnyH_take (i := 6) (v := ?_) rfl (by kernel_rfl) (by kernel_rfl) (by kernel_rfl) (fun _ _ _ h => h) (Or.inl ⟨by rfl, ?_⟩) (by assumption) ?_
            rotate_left
            · (intro w hSw; have hc0 := MC.out w hSw; go_simp; try (with_reducible rfl))
            try simp only [Act.put, List.getElem_toArray, List.getElem_cons_zero, List.getElem_cons_succ, List.setIfInBounds_toArray, List.set_cons_zero, List.set_cons_succ]
            refine wpAnyH_take (i := 7) (v := ?_) rfl (by kernel_rfl) (by kernel_rfl) (by kernel_rfl) (fun _ _ _ h => h) (Or.inl ⟨by rfl, ?_⟩) (by assumption) ?_
            rotate_left
            · (intro w hSw; go_simp; try (with_reducible rfl))
            try simp only [Act.put, List.getElem_toArray, List.getElem_cons_zero, List.getElem_cons_succ, List.setIfInBounds_toArray, List.set_cons_zero, List.set_cons_succ]
            refine wpAnyH_take (i := 8) (v := ?_) rfl (by kernel_rfl) (by kernel_rfl) (by kernel_rfl) (fun _ _ _ h => h) (Or.inl ⟨by rfl, ?_⟩) (by assumption) ?_
            rotate_left
            · (intro w hSw; go_simp; try (with_reducible rfl))
            try simp only [Act.put, List.getElem_toArray, List.getElem_cons_zero, List.getElem_cons_succ, List.setIfInBounds_toArray, List.set_cons_zero, List.set_cons_succ]
            refine wpAnyH_take (i := 9) (v := ?_) rfl (by kernel_rfl) (by kernel_rfl) (by kernel_rfl) (fun _ _ _ h => h) (Or.inl ⟨by rfl, ?_⟩) (by assumption) ?_
            rotate_left
            · (intro w hSw; go_simp; try (with_reducible rfl))
            try simp only [Act.put, List.getElem_toArray, List.getElem_cons_zero, List.getElem_cons_succ, List.setIfInBounds_toArray, List.set_cons_zero, List.set_cons_succ]
            refine wpAnyH_take (i := 10) (v := ?_) rfl (by kernel_rfl) (by kernel_rfl) (by kernel_rfl) (fun _ _ _ h => h) (Or.inl ⟨by rfl, ?_⟩) (by assumption) ?_
            rotate_left
            · (intro w hSw; go_simp; try (with_reducible rfl))
            try simp only [Act.put, List.getElem_toArray, List.getElem_cons_zero, List.getElem_cons_succ, List.setIfInBounds_toArray, List.set_cons_zero, List.set_cons_succ]
            refine wpAnyH_take (i := 11) (v := ?_) rfl (by kernel_rfl) (by kernel_rfl) (by kernel_rfl) (fun _ _ _ h => h) (Or.inl ⟨by rfl, ?_⟩) (by assumption) ?_
            rotate_left
            · (intro w hSw; have hc0 := ME0.out w hSw; go_simp; try (with_reducible rfl))
            try simp only [Act.put, List.getElem_toArray, List.getElem_cons_zero, List.getElem_cons_succ, List.setIfInBounds_toArray, List.set_cons_zero, List.set_cons_succ]
            refine wpAnyH_take (i := 12) (v := ?_) rfl (by kernel_rfl) (by kernel_rfl) (by kernel_rfl) (fun _ _ _ h => h) (Or.inl ⟨by rfl, ?_⟩) (by assumption) ?_
            rotate_left
            · (intro w hSw; go_simp; try (with_reducible rfl))
            try simp only [Act.put, List.getElem_toArray, List.getElem_cons_zero, List.getElem_cons_succ, List.setIfInBounds_toArray, List.set_cons_zero, List.set_cons_succ]
            refine wpAnyH_take (i := 13) (v := ?_) rfl (by kernel_rfl) (by kernel_rfl) (by kernel_rfl) (fun _ _ _ h => h) (Or.inl ⟨by rfl, ?_⟩) (by assumption) ?_
            rotate_left
            · (intro w hSw; go_simp; try (with_reducible rfl))
            try simp only [Act.put, List.getElem_toArray, List.getElem_cons_zero, List.getElem_cons_succ, List.setIfInBounds_toArray, List.set_cons_zero, List.set_cons_succ]
            refine wpAnyH_take (i := 14) (v := undef) rfl (by kernel_rfl) (by kernel_rfl) (by kernel_rfl) (fun _ _ _ h => h) (Or.inr ⟨by rfl, rfl⟩) (by assumption) ?_
            try simp only [Act.put, List.getElem_toArray, List.getElem_cons_zero, List.getElem_cons_succ, List.setIfInBounds_toArray, List.set_cons_zero, List.set_cons_succ]
            refine wpAnyH_take (i := 15) (v := undef) rfl (by kernel_rfl) (by kernel_rfl) (by kernel_rfl) (fun _ _ _ h => h) (Or.inr ⟨by rfl, rfl⟩) (by assumption) ?_
            try simp only [Act.put, List.getElem_toArray, List.getElem_cons_zero, List.getElem_cons_succ, List.setIfInBounds_toArray, List.set_cons_zero, List.set_cons_succ]
            refine wpAnyH_take (i := 16) (v := undef) rfl (by kernel_rfl) (by kernel_rfl) (by kernel_rfl) (fun _ _ _ h => h) (Or.inr ⟨by rfl, rfl⟩) (by assumption) ?_
            try simp only [Act.put, List.getElem_toArray, List.getElem_cons_zero, List.getElem_cons_succ, List.setIfInBounds_toArray, List.set_cons_zero, List.set_cons_succ]
            refine wpAnyH_take (i := 17) (v := undef) rfl (by kernel_rfl) (by kernel_rfl) (by kernel_rfl) (fun _ _ _ h => h) (Or.inr ⟨by rfl, rfl⟩) (by assumption) ?_
            try simp only [Act.put, List.getElem_toArray, List.getElem_cons_zero, List.getElem_cons_succ, List.setIfInBounds_toArray, List.set_cons_zero, List.set_cons_succ]
            refine wpAnyH_take (i := 18) (v := undef) rfl (by kernel_rfl) (by kernel_rfl) (by kernel_rfl) (fun _ _ _ h => h) (Or.inr ⟨by rfl, rfl⟩) (by assumption) ?_
            try simp only [Act.put, List.getElem_toArray, List.getElem_cons_zero, List.getElem_cons_succ, List.setIfInBounds_toArray, List.set_cons_zero, List.set_cons_succ]
            refine wpAnyH_take (i := 19) (v := undef) rfl (by kernel_rfl) (by kernel_rfl) (by kernel_rfl) (fun _ _ _ h => h) (Or.inr ⟨by rfl, rfl⟩) (by assumption) ?_
            try simp only [Act.put, List.getElem_toArray, List.getElem_cons_zero, List.getElem_cons_succ, List.setIfInBounds_toArray, List.set_cons_zero, List.set_cons_succ]
            refine wpAnyH_take (i := 20) (v := undef) rfl (by kernel_rfl) (by kernel_rfl) (by kernel_rfl) (fun _ _ _ h => h) (Or.inr ⟨by rfl, rfl⟩) (by assumption) ?_
            try simp only [Act.put, List.getElem_toArray, List.getElem_cons_zero, List.getElem_cons_succ, List.setIfInBounds_toArray, List.set_cons_zero, List.set_cons_succ]
            refine wpAnyH_take (i := 21) (v := undef) rfl (by kernel_rfl) (by kernel_rfl) (by kernel_rfl) (fun _ _ _ h => h) (Or.inr ⟨by rfl, rfl⟩) (by assumption) ?_
            try simp only [Act.put, List.getElem_toArray, List.getElem_cons_zero, List.getElem_cons_succ, List.setIfInBounds_toArray, List.set_cons_zero, List.set_cons_succ]
            refine wpAnyH_take (i := 22) (v := undef) rfl (by kernel_rfl) (by kernel_rfl) (by kernel_rfl) (fun _ _ _ h => h) (Or.inr ⟨by rfl, rfl⟩) (by assumption) ?_
            try simp only [Act.put, List.getElem_toArray, List.getElem_cons_zero, List.getElem_cons_succ, List.setIfInBounds_toArray, List.set_cons_zero, List.set_cons_succ]
            refine wpAnyH_take (i := 23) (v := undef) rfl (by kernel_rfl) (by kernel_rfl) (by kernel_rfl) (fun _ _ _ h => h) (Or.inr ⟨by rfl, rfl⟩) (by assumption) ?_
            try simp only [Act.put, List.getElem_toArray, List.getElem_cons_zero, List.getElem_cons_succ, List.setIfInBounds_toArray, List.set_cons_zero, List.set_cons_succ]
            refine wpAnyH_take (i := 24) (v := undef) rfl (by kernel_rfl) (by kernel_rfl) (by kernel_rfl) (fun _ _ _ h => h) (Or.inr ⟨by rfl, rfl⟩) (by assumption) ?_
            try simp only [Act.put, List.getElem_toArray, List.getElem_cons_zero, List.getElem_cons_succ, List.setIfInBounds_toArray, List.set_cons_zero, List.set_cons_succ]
            refine wpAnyH_take (i := 25) (v := undef) rfl (by kernel_rfl) (by kernel_rfl) (by kernel_rfl) (fun _ _ _ h => h) (Or.inr ⟨by rfl, rfl⟩) (by assumption) ?_
            try simp only [Act.put, List.getElem_toArray, List.getElem_cons_zero, List.getElem_cons_succ, List.setIfInBounds_toArray, List.set_cons_zero, List.set_cons_succ]
            refine wpAnyH_take (i := 26) (v := undef) rfl (by kernel_rfl) (by kernel_rfl) (by kernel_rfl) (fun _ _ _ h => h) (Or.inr ⟨by rfl, rfl⟩) (by assumption) ?_
            try simp only [Act.put, List.getElem_toArray, List.getElem_cons_zero, List.getElem_cons_succ, List.setIfInBounds_toArray, List.set_cons_zero, List.set_cons_succ]
            refine wpAnyH_take (i := 27) (v := undef) rfl (by kernel_rfl) (by kernel_rfl) (by kernel_rfl) (fun _ _ _ h => h) (Or.inr ⟨by rfl, rfl⟩) (by assumption) ?_
            try simp only [Act.put, List.getElem_toArray, List.getElem_cons_zero, List.getElem_cons_succ, List.setIfInBounds_toArray, List.set_cons_zero, List.set_cons_succ]
            refine wpAnyH_take (i := 28) (v := undef) rfl (by kernel_rfl) (by kernel_rfl) (by kernel_rfl) (fun _ _ _ h => h) (Or.inr ⟨by rfl, rfl⟩) (by assumption) ?_
            try simp only [Act.put, List.getElem_toArray, List.getElem_cons_zero, List.getElem_cons_succ, List.setIfInBounds_toArray, List.set_cons_zero, List.set_cons_succ]
            refine wpAnyH_take (i := 29) (v := undef) rfl (by kernel_rfl) (by kernel_rfl) (by kernel_rfl) (fun _ _ _ h => h) (Or.inr ⟨by rfl, rfl⟩) (by assumption) ?_
            try simp only [Act.put, List.getElem_toArray, List.getElem_cons_zero, List.getElem_cons_succ, List.setIfInBounds_toArray, List.set_cons_zero, List.set_cons_succ]
            refine wpAnyH_take (i := 30) (v := undef) rfl (by kernel_rfl) (by kernel_rfl) (by kernel_rfl) (fun _ _ _ h => h) (Or.inr ⟨by rfl, rfl⟩) (by assumption) ?_
            try simp only [Act.put, List.getElem_toArray, List.getElem_cons_zero, List.getElem_cons_succ, List.setIfInBounds_toArray, List.set_cons_zero, List.set_cons_succ]
            refine wpAnyH_take (i := 31) (v := undef) rfl (by kernel_rfl) (by kernel_rfl) (by kernel_rfl) (fun _ _ _ h => h) (Or.inr ⟨by rfl, rfl⟩) (by assumption) ?_
            try simp only [Act.put, List.getElem_toArray, List.getElem_cons_zero, List.getElem_cons_succ, List.setIfInBounds_toArray, List.set_cons_zero, List.set_cons_succ]
            refine wpAnyH_take (i := 32) (v := undef) rfl (by kernel_rfl) (by kernel_rfl) (by kernel_rfl) (fun _ _ _ h => h) (Or.inr ⟨by rfl, rfl⟩) (by assumption) ?_
            try simp only [Act.put, List.getElem_toArray, List.getElem_cons_zero, List.getElem_cons_succ, List.setIfInBounds_toArray, List.set_cons_zero, List.set_cons_succ]
            refine wpAnyH_take (i := 33) (v := undef) rfl (by kernel_rfl) (by kernel_rfl) (by kernel_rfl) (fun _ _ _ h => h) (Or.inr ⟨by rfl, rfl⟩) (by assumption) ?_
            try simp only [Act.put, List.getElem_toArray, List.getElem_cons_zero, List.getElem_cons_succ, List.setIfInBounds_toArray, List.set_cons_zero, List.set_cons_succ]
            refine wpAnyH_take (i := 34) (v := undef) rfl (by kernel_rfl) (by kernel_rfl) (by kernel_rfl) (fun _ _ _ h => h) (Or.inr ⟨by rfl, rfl⟩) (by assumption) ?_
            try simp only [Act.put, List.getElem_toArray, List.getElem_cons_zero, List.getElem_cons_succ, List.setIfInBounds_toArray, List.set_cons_zero, List.set_cons_succ]
            refine wpAnyH_take (i := 35) (v := undef) rfl (by kernel_rfl) (by kernel_rfl) (by kernel_rfl) (fun _ _ _ h => h) (Or.inr ⟨by rfl, rfl⟩) (by assumption) ?_
            try simp only [Act.put, List.getElem_toArray, List.getElem_cons_zero, List.getElem_cons_succ, List.setIfInBounds_toArray, List.set_cons_zero, List.set_cons_succ]
            refine wpAnyH_take (i := 36) (v := ?_) rfl (by kernel_rfl) (by kernel_rfl) (by kernel_rfl) (fun _ _ _ h => h) (Or.inl ⟨by rfl, ?_⟩) (by assumption) ?_
            rotate_left
            · (intro w hSw; go_simp; try (with_reducible rfl))
            try simp only [Act.put, List.getElem_toArray, List.getElem_cons_zero, List.getElem_cons_succ, List.setIfInBounds_toArray, List.set_cons_zero, List.set_cons_succ]
            refine wpAnyH_take (i := 37) (v := ?_) rfl (by kernel_rfl) (by kernel_rfl) (by kernel_rfl) (fun _ _ _ h => h) (Or.inl ⟨by rfl, ?_⟩) (by assumption) ?_
            rotate_left
            · (intro w hSw; go_simp; try (with_reducible rfl))
            try simp only [Act.put, List.getElem_toArray, List.getElem_cons_zero, List.getElem_cons_succ, List.setIfInBounds_toArray, List.set_cons_zero, List.set_cons_succ]
            refine wpAnyH_done (by kernel_rfl) ?_ _
            refine NoPanic.normal ?_
            go_wp2_with fail
            go_meet
            case rel => exact ⟨by rw [HLT.out, hlt]; rfl, Lib.hid (HSO.out _ hHeld)⟩
          | false =>
            have hq : Op.bytesLess x.toList es0.toList = false := hlt
            by_cases he : x = es0
            · have hqe : (x.toList == es0.toList) = true := HTL.out.2 he
              have hqd : decide (x = es0) = true := decide_eq_true he
              have HQD := Lib.hid hqd
              clear he hqd
              by_cases hte : t < et0
              · have hdt : decide (t < et0) = true := decide_eq_true hte
                refine wp_region_noPanic ?_
                refine wp_region_held_drew (S := S) (by kernel_rfl) HS0.out (fun hHeld => ?_)
                refine wpAnyH_take (i := 0) (v := ?_) rfl (by kernel_rfl) (by kernel_rfl) (by kernel_rfl) (fun _ _ _ h => h) (Or.inl ⟨by rfl, ?_⟩) (by assumption) ?_
                rotate_left
                · (intro w hSw; go_simp; try (with_reducible rfl))
                try simp only [Act.put, List.getElem_toArray, List.getElem_cons_zero, List.setIfInBounds_toArray, List.set_cons_zero, List.set_cons_succ]
                refine wpAnyH_take (i := 1) (v := ?_) rfl (by kernel_rfl) (by kernel_rfl) (by kernel_rfl) (fun _ _ _ h => h) (Or.inl ⟨by rfl, ?_⟩) (by assumption) ?_
                rotate_left
                · (intro w hSw; go_simp; try (with_reducible rfl))
                try simp only [Act.put, List.getElem_toArray, List.getElem_cons_zero, List.getElem_cons_succ, List.setIfInBounds_toArray, List.set_cons_zero, List.set_cons_succ]
                refine wpAnyH_take (i := 2) (v := ?_) rfl (by kernel_rfl) (by kernel_rfl) (by kernel_rfl) (fun _ _ _ h => h) (Or.inl ⟨by rfl, ?_⟩) (by assumption) ?_
                rotate_left
                · (intro w hSw; go_simp; try (with_reducible rfl))
                try simp only [Act.put, List.getElem_toArray, List.getElem_cons_zero, List.getElem_cons_succ, List.setIfInBounds_toArray, List.set_cons_zero, List.set_cons_succ]
                refine wpAnyH_take (i := 3) (v := ?_) rfl (by kernel_rfl) (by kernel_rfl) (by kernel_rfl) (fun _ _ _ h => h) (Or.inl ⟨by rfl, ?_⟩) (by assumption) ?_
                rotate_left
                · (intro w hSw; go_simp; try (with_reducible rfl))
                try simp only [Act.put, List.getElem_toArray, List.getElem_cons_zero, List.getElem_cons_succ, List.setIfInBounds_toArray, List.set_cons_zero, List.set_cons_succ]
                refine wpAnyH_take (i := 4) (v := ?_) rfl (by kernel_rfl) (by kernel_rfl) (by kernel_rfl) (fun _ _ _ h => h) (Or.inl ⟨by rfl, ?_⟩) (by assumption) ?_
                rotate_left
                · (intro w hSw; have hc0 := MO0.out w hSw; go_simp; try (with_reducible rfl))
                try simp only [Act.put, List.getElem_toArray, List.getElem_cons_zero, List.getElem_cons_succ, List.setIfInBounds_toArray, List.set_cons_zero, List.set_cons_succ]
                refine wpAnyH_take (i := 5) (v := ?_) rfl (by kernel_rfl) (by kernel_rfl) (by kernel_rfl) (fun _ _ _ h => h) (Or.inl ⟨by rfl, ?_⟩) (by assumption) ?_
                rotate_left
                · (intro w hSw; go_simp; try (with_reducible rfl))
                try simp only [Act.put, List.getElem_toArray, List.getElem_cons_zero, List.getElem_cons_succ, List.setIfInBounds_toArray, List.set_cons_zero, List.set_cons_succ]
                refine wpAnyH_take (i := 6) (v := ?_) rfl (by kernel_rfl) (by kernel_rfl) (by kernel_rfl) (fun _ _ _ h => h) (Or.inl ⟨by rfl, ?_⟩) (by assumption) ?_
                rotate_left
                · (intro w hSw; have hc0 := MC.out w hSw; go_simp; try (with_reducible rfl))
                try simp only [Act.put, List.getElem_toArray, List.getElem_cons_zero, List.getElem_cons_succ, List.setIfInBounds_toArray, List.set_cons_zero, List.set_cons_succ]
                refine wpAnyH_take (i := 7) (v := ?_) rfl (by kernel_rfl) (by kernel_rfl) (by kernel_rfl) (fun _ _ _ h => h) (Or.inl ⟨by rfl, ?_⟩) (by assumption) ?_
                rotate_left
                · (intro w hSw; go_simp; try (with_reducible rfl))
                try simp only [Act.put, List.getElem_toArray, List.getElem_cons_zero, List.getElem_cons_succ, List.setIfInBounds_toArray, List.set_cons_zero, List.set_cons_succ]
                refine wpAnyH_take (i := 8) (v := ?_) rfl (by kernel_rfl) (by kernel_rfl) (by kernel_rfl) (fun _ _ _ h => h) (Or.inl ⟨by rfl, ?_⟩) (by assumption) ?_
                rotate_left
                · (intro w hSw; go_simp; try (with_reducible rfl))
                try simp only [Act.put, List.getElem_toArray, List.getElem_cons_zero, List.getElem_cons_succ, List.setIfInBounds_toArray, List.set_cons_zero, List.set_cons_succ]
                refine wpAnyH_take (i := 9) (v := ?_) rfl (by kernel_rfl) (by kernel_rfl) (by kernel_rfl) (fun _ _ _ h => h) (Or.inl ⟨by rfl, ?_⟩) (by assumption) ?_
                rotate_left
                · (intro w hSw; go_simp; try (with_reducible rfl))
                try simp only [Act.put, List.getElem_toArray, List.getElem_cons_zero, List.getElem_cons_succ, List.setIfInBounds_toArray, List.set_cons_zero, List.set_cons_succ]
                refine wpAnyH_take (i := 10) (v := ?_) rfl (by kernel_rfl) (by kernel_rfl) (by kernel_rfl) (fun _ _ _ h => h) (Or.inl ⟨by rfl, ?_⟩) (by assumption) ?_
                rotate_left
                · (intro w hSw; go_simp; try (with_reducible rfl))
                try simp only [Act.put, List.getElem_toArray, List.getElem_cons_zero, List.getElem_cons_succ, List.setIfInBounds_toArray, List.set_cons_zero, List.set_cons_succ]
                refine wpAnyH_take (i := 11) (v := ?_) rfl (by kernel_rfl) (by kernel_rfl) (by kernel_rfl) (fun _ _ _ h => h) (Or.inl ⟨by rfl, ?_⟩) (by assumption) ?_
                rotate_left
                · (intro w hSw; have hc0 := ME0.out w hSw; go_simp; try (with_reducible rfl))
                try simp only [Act.put, List.getElem_toArray, List.getElem_cons_zero, List.getElem_cons_succ, List.setIfInBounds_toArray, List.set_cons_zero, List.set_cons_succ]
                refine wpAnyH_take (i := 12) (v := ?_) rfl (by kernel_rfl) (by kernel_rfl) (by kernel_rfl) (fun _ _ _ h => h) (Or.inl ⟨by rfl, ?_⟩) (by assumption) ?_
                rotate_left
                · (intro w hSw; go_simp; try (with_reducible rfl))
                try simp only [Act.put, List.getElem_toArray, List.getElem_cons_zero, List.getElem_cons_succ, List.setIfInBounds_toArray, List.set_cons_zero, List.set_cons_succ]
                refine wpAnyH_take (i := 13) (v := ?_) rfl (by kernel_rfl) (by kernel_rfl) (by kernel_rfl) (fun _ _ _ h => h) (Or.inl ⟨by rfl, ?_⟩) (by assumption) ?_
                rotate_left
                · (intro w hSw; go_simp; try (with_reducible rfl))
                try simp only [Act.put, List.getElem_toArray, List.getElem_cons_zero, List.getElem_cons_succ, List.setIfInBounds_toArray, List.set_cons_zero, List.set_cons_succ]
                refine wpAnyH_take (i := 14) (v := ?_) rfl (by kernel_rfl) (by kernel_rfl) (by kernel_rfl) (fun _ _ _ h => h) (Or.inl ⟨by rfl, ?_⟩) (by assumption) ?_
                rotate_left
                · (intro w hSw; go_simp; try (with_reducible rfl))
                try simp only [Act.put, List.getElem_toArray, List.getElem_cons_zero, List.getElem_cons_succ, List.setIfInBounds_toArray, List.set_cons_zero, List.set_cons_succ]
                refine wpAnyH_take (i := 15) (v := ?_) rfl (by kernel_rfl) (by kernel_rfl) (by kernel_rfl) (fun _ _ _ h => h) (Or.inl ⟨by rfl, ?_⟩) (by assumption) ?_
                rotate_left
                · (intro w hSw; have hc0 := MO0.out w hSw; go_simp; try (with_reducible rfl))
                try simp only [Act.put, List.getElem_toArray, List.getElem_cons_zero, List.getElem_cons_succ, List.setIfInBounds_toArray, List.set_cons_zero, List.set_cons_succ]
                refine wpAnyH_take (i := 16) (v := ?_) rfl (by kernel_rfl) (by kernel_rfl) (by kernel_rfl) (fun _ _ _ h => h) (Or.inl ⟨by rfl, ?_⟩) (by assumption) ?_
                rotate_left
                · (intro w hSw; go_simp; try (with_reducible rfl))
                try simp only [Act.put, List.getElem_toArray, List.getElem_cons_zero, List.getElem_cons_succ, List.setIfInBounds_toArray, List.set_cons_zero, List.set_cons_succ]
                refine wpAnyH_take (i := 17) (v := ?_) rfl (by kernel_rfl) (by kernel_rfl) (by kernel_rfl) (fun _ _ _ h => h) (Or.inl ⟨by rfl, ?_⟩) (by assumption) ?_
                rotate_left
                · (intro w hSw; have hc0 := MC.out w hSw; go_simp; try (with_reducible rfl))
                try simp only [Act.put, List.getElem_toArray, List.getElem_cons_zero, List.getElem_cons_succ, List.setIfInBounds_toArray, List.set_cons_zero, List.set_cons_succ]
                refine wpAnyH_take (i := 18) (v := ?_) rfl (by kernel_rfl) (by kernel_rfl) (by kernel_rfl) (fun _ _ _ h => h) (Or.inl ⟨by rfl, ?_⟩) (by assumption) ?_
                rotate_left
                · (intro w hSw; go_simp; try (with_reducible rfl))
                try simp only [Act.put, List.getElem_toArray, List.getElem_cons_zero, List.getElem_cons_succ, List.setIfInBounds_toArray, List.set_cons_zero, List.set_cons_succ]
                refine wpAnyH_take (i := 19) (v := ?_) rfl (by kernel_rfl) (by kernel_rfl) (by kernel_rfl) (fun _ _ _ h => h) (Or.inl ⟨by rfl, ?_⟩) (by assumption) ?_
                rotate_left
                · (intro w hSw; go_simp; try (with_reducible rfl))
                try simp only [Act.put, List.getElem_toArray, List.getElem_cons_zero, List.getElem_cons_succ, List.setIfInBounds_toArray, List.set_cons_zero, List.set_cons_succ]
                refine wpAnyH_take (i := 20) (v := ?_) rfl (by kernel_rfl) (by kernel_rfl) (by kernel_rfl) (fun _ _ _ h => h) (Or.inl ⟨by rfl, ?_⟩) (by assumption) ?_
                rotate_left
                · (intro w hSw; go_simp; try (with_reducible rfl))
                try simp only [Act.put, List.getElem_toArray, List.getElem_cons_zero, List.getElem_cons_succ, List.setIfInBounds_toArray, List.set_cons_zero, List.set_cons_succ]
                refine wpAnyH_take (i := 21) (v := ?_) rfl (by kernel_rfl) (by kernel_rfl) (by kernel_rfl) (fun _ _ _ h => h) (Or.inl ⟨by rfl, ?_⟩) (by assumption) ?_
                rotate_left
                · (intro w hSw; go_simp; try (with_reducible rfl))
                try simp only [Act.put, List.getElem_toArray, List.getElem_cons_zero, List.getElem_cons_succ, List.setIfInBounds_toArray, List.set_cons_zero, List.set_cons_succ]
                refine wpAnyH_take (i := 22) (v := ?_) rfl (by kernel_rfl) (by kernel_rfl) (by kernel_rfl) (fun _ _ _ h => h) (Or.inl ⟨by rfl, ?_⟩) (by assumption) ?_
                rotate_left
                · (intro w hSw; have hc0 := ME0.out w hSw; go_simp; try (with_reducible rfl))
                try simp only [Act.put, List.getElem_toArray, List.getElem_cons_zero, List.getElem_cons_succ, List.setIfInBounds_toArray, List.set_cons_zero, List.set_cons_succ]
                refine wpAnyH_take (i := 23) (v := ?_) rfl (by kernel_rfl) (by kernel_rfl) (by kernel_rfl) (fun _ _ _ h => h) (Or.inl ⟨by rfl, ?_⟩) (by assumption) ?_
                rotate_left
                · (intro w hSw; go_simp; try (with_reducible rfl))
                try simp only [Act.put, List.getElem_toArray, List.getElem_cons_zero, List.getElem_cons_succ, List.setIfInBounds_toArray, List.set_cons_zero, List.set_cons_succ]
                refine wpAnyH_take (i := 24) (v := ?_) rfl (by kernel_rfl) (by kernel_rfl) (by kernel_rfl) (fun _ _ _ h => h) (Or.inl ⟨by rfl, ?_⟩) (by assumption) ?_
                rotate_left
                · (intro w hSw; go_simp; try (with_reducible rfl))
                try simp only [Act.put, List.getElem_toArray, List.getElem_cons_zero, List.getElem_cons_succ, List.setIfInBounds_toArray, List.set_cons_zero, List.set_cons_succ]
                refine wpAnyH_take (i := 25) (v := ?_) rfl (by kernel_rfl) (by kernel_rfl) (by kernel_rfl) (fun _ _ _ h => h) (Or.inl ⟨by rfl, ?_⟩) (by assumption) ?_
                rotate_left
                · (intro w hSw; go_simp; try (with_reducible rfl))
                try simp only [Act.put, List.getElem_toArray, List.getElem_cons_zero, List.getElem_cons_succ, List.setIfInBounds_toArray, List.set_cons_zero, List.set_cons_succ]
                refine wpAnyH_take (i := 26) (v := ?_) rfl (by kernel_rfl) (by kernel_rfl) (by kernel_rfl) (fun _ _ _ h => h) (Or.inl ⟨by rfl, ?_⟩) (by assumption) ?_
                rotate_left
                · (intro w hSw; have hc0 := MO1.out w hSw; go_simp; try (with_reducible rfl))
                try simp only [Act.put, List.getElem_toArray, List.getElem_cons_zero, List.getElem_cons_succ, List.setIfInBounds_toArray, List.set_cons_zero, List.set_cons_succ]
                refine wpAnyH_take (i := 27) (v := ?_) rfl (by kernel_rfl) (by kernel_rfl) (by kernel_rfl) (fun _ _ _ h => h) (Or.inl ⟨by rfl, ?_⟩) (by assumption) ?_
                rotate_left
                · (intro w hSw; go_simp; try (with_reducible rfl))
                try simp only [Act.put, List.getElem_toArray, List.getElem_cons_zero, List.getElem_cons_succ, List.setIfInBounds_toArray, List.set_cons_zero, List.set_cons_succ]
                refine wpAnyH_take (i := 28) (v := ?_) rfl (by kernel_rfl) (by kernel_rfl) (by kernel_rfl) (fun _ _ _ h => h) (Or.inl ⟨by rfl, ?_⟩) (by assumption) ?_
                rotate_left
                · (intro w hSw; have hc0 := MC.out w hSw; go_simp; try (with_reducible rfl))
                try simp only [Act.put, List.getElem_toArray, List.getElem_cons_zero, List.getElem_cons_succ, List.setIfInBounds_toArray, List.set_cons_zero, List.set_cons_succ]
                refine wpAnyH_take (i := 29) (v := ?_) rfl (by kernel_rfl) (by kernel_rfl) (by kernel_rfl) (fun _ _ _ h => h) (Or.inl ⟨by rfl, ?_⟩) (by assumption) ?_
                rotate_left
                · (intro w hSw; go_simp; try (with_reducible rfl))
                try simp only [Act.put, List.getElem_toArray, List.getElem_cons_zero, List.getElem_cons_succ, List.setIfInBounds_toArray, List.set_cons_zero, List.set_cons_succ]
                refine wpAnyH_take (i := 30) (v := ?_) rfl (by kernel_rfl) (by kernel_rfl) (by kernel_rfl) (fun _ _ _ h => h) (Or.inl ⟨by rfl, ?_⟩) (by assumption) ?_
                rotate_left
                · (intro w hSw; go_simp; try (with_reducible rfl))
                try simp only [Act.put, List.getElem_toArray, List.getElem_cons_zero, List.getElem_cons_succ, List.setIfInBounds_toArray, List.set_cons_zero, List.set_cons_succ]
                refine wpAnyH_take (i := 31) (v := ?_) rfl (by kernel_rfl) (by kernel_rfl) (by kernel_rfl) (fun _ _ _ h => h) (Or.inl ⟨by rfl, ?_⟩) (by assumption) ?_
                rotate_left
                · (intro w hSw; go_simp; try (with_reducible rfl))
                try simp only [Act.put, List.getElem_toArray, List.getElem_cons_zero, List.getElem_cons_succ, List.setIfInBounds_toArray, List.set_cons_zero, List.set_cons_succ]
                refine wpAnyH_take (i := 32) (v := ?_) rfl (by kernel_rfl) (by kernel_rfl) (by kernel_rfl) (fun _ _ _ h => h) (Or.inl ⟨by rfl, ?_⟩) (by assumption) ?_
                rotate_left
                · (intro w hSw; go_simp; try (with_reducible rfl))
                try simp only [Act.put, List.getElem_toArray, List.getElem_cons_zero, List.getElem_cons_succ, List.setIfInBounds_toArray, List.set_cons_zero, List.set_cons_succ]
                refine wpAnyH_take (i := 33) (v := ?_) rfl (by kernel_rfl) (by kernel_rfl) (by kernel_rfl) (fun _ _ _ h => h) (Or.inl ⟨by rfl, ?_⟩) (by assumption) ?_
                rotate_left
                · (intro w hSw; have hc0 := ME1.out w hSw; go_simp; try (with_reducible rfl))
                try simp only [Act.put, List.getElem_toArray, List.getElem_cons_zero, List.getElem_cons_succ, List.setIfInBounds_toArray, List.set_cons_zero, List.set_cons_succ]
                refine wpAnyH_take (i := 34) (v := ?_) rfl (by kernel_rfl) (by kernel_rfl) (by kernel_rfl) (fun _ _ _ h => h) (Or.inl ⟨by rfl, ?_⟩) (by assumption) ?_
                rotate_left
                · (intro w hSw; go_simp; try (with_reducible rfl))
                try simp only [Act.put, List.getElem_toArray, List.getElem_cons_zero, List.getElem_cons_succ, List.setIfInBounds_toArray, List.set_cons_zero, List.set_cons_succ]
                refine wpAnyH_take (i := 35) (v := ?_) rfl (by kernel_rfl) (by kernel_rfl) (by kernel_rfl) (fun _ _ _ h => h) (Or.inl ⟨by rfl, ?_⟩) (by assumption) ?_
                rotate_left
                · (intro w hSw; go_simp; try (with_reducible rfl))
                try simp only [Act.put, List.getElem_toArray, List.getElem_cons_zero, List.getElem_cons_succ, List.setIfInBounds_toArray, List.set_cons_zero, List.set_cons_succ]
                refine wpAnyH_take (i := 36) (v := ?_) rfl (by kernel_rfl) (by kernel_rfl) (by kernel_rfl) (fun _ _ _ h => h) (Or.inl ⟨by rfl, ?_⟩) (by assumption) ?_
                rotate_left
                · (intro w hSw; go_simp; try (with_reducible rfl))
                try simp only [Act.put, List.getElem_toArray, List.getElem_cons_zero, List.getElem_cons_succ, List.setIfInBounds_toArray, List.set_cons_zero, List.set_cons_succ]
                refine wpAnyH_take (i := 37) (v := ?_) rfl (by kernel_rfl) (by kernel_rfl) (by kernel_rfl) (fun _ _ _ h => h) (Or.inl ⟨by rfl, ?_⟩) (by assumption) ?_
                rotate_left
                · (intro w hSw; go_simp; try (with_reducible rfl))
                try simp only [Act.put, List.getElem_toArray, List.getElem_cons_zero, List.getElem_cons_succ, List.setIfInBounds_toArray, List.set_cons_zero, List.set_cons_succ]
                refine wpAnyH_done (by kernel_rfl) ?_ _
                refine NoPanic.normal ?_
                go_wp2_with fail
                go_meet
                case rel => exact ⟨by rw [HLT.out, hlt, HQD.out, hdt]; rfl, Lib.hid (HSO.out _ hHeld)⟩
              · have hdt : decide (t < et0) = false := decide_eq_false hte
                refine wp_region_noPanic ?_
                refine wp_region_held_drew (S := S) (by kernel_rfl) HS0.out (fun hHeld => ?_)
                refine wpAnyH_take (i := 0) (v := ?_) rfl (by kernel_rfl) (by kernel_rfl) (by kernel_rfl) (fun _ _ _ h => h) (Or.inl ⟨by rfl, ?_⟩) (by assumption) ?_
                rotate_left
                · (intro w hSw; go_simp; try (with_reducible rfl))
                try simp only [Act.put, List.getElem_toArray, List.getElem_cons_zero, List.setIfInBounds_toArray, List.set_cons_zero, List.set_cons_succ]
                refine wpAnyH_take (i := 1) (v := ?_) rfl (by kernel_rfl) (by kernel_rfl) (by kernel_rfl) (fun _ _ _ h => h) (Or.inl ⟨by rfl, ?_⟩) (by assumption) ?_
                rotate_left
                · (intro w hSw; go_simp; try (with_reducible rfl))
                try simp only [Act.put, List.getElem_toArray, List.getElem_cons_zero, List.getElem_cons_succ, List.setIfInBounds_toArray, List.set_cons_zero, List.set_cons_succ]
                refine wpAnyH_take (i := 2) (v := ?_) rfl (by kernel_rfl) (by kernel_rfl) (by kernel_rfl) (fun _ _ _ h => h) (Or.inl ⟨by rfl, ?_⟩) (by assumption) ?_
                rotate_left
                · (intro w hSw; go_simp; try (with_reducible rfl))
                try simp only [Act.put, List.getElem_toArray, List.getElem_cons_zero, List.getElem_cons_succ, List.setIfInBounds_toArray, List.set_cons_zero, List.set_cons_succ]
                refine wpAnyH_take (i := 3) (v := ?_) rfl (by kernel_rfl) (by kernel_rfl) (by kernel_rfl) (fun _ _ _ h => h) (Or.inl ⟨by rfl, ?_⟩) (by assumption) ?_
                rotate_left
                · (intro w hSw; go_simp; try (with_reducible rfl))
                try simp only [Act.put, List.getElem_toArray, List.getElem_cons_zero, List.getElem_cons_succ, List.setIfInBounds_toArray, List.set_cons_zero, List.set_cons_succ]
                refine wpAnyH_take (i := 4) (v := ?_) rfl (by kernel_rfl) (by kernel_rfl) (by kernel_rfl) (fun _ _ _ h => h) (Or.inl ⟨by rfl, ?_⟩) (by assumption) ?_
                rotate_left
                · (intro w hSw; have hc0 := MO0.out w hSw; go_simp; try (with_reducible rfl))
                try simp only [Act.put, List.getElem_toArray, List.getElem_cons_zero, List.getElem_cons_succ, List.setIfInBounds_toArray, List.set_cons_zero, List.set_cons_succ]
                refine wpAnyH_take (i := 5) (v := ?_) rfl (by kernel_rfl) (by kernel_rfl) (by kernel_rfl) (fun _ _ _ h => h) (Or.inl ⟨by rfl, ?_⟩) (by assumption) ?_
                rotate_left
                · (intro w hSw; go_simp; try (with_reducible rfl))
                try simp only [Act.put, List.getElem_toArray, List.getElem_cons_zero, List.getElem_cons_succ, List.setIfInBounds_toArray, List.set_cons_zero, List.set_cons_succ]
                refine wpAnyH_take (i := 6) (v := ?_) rfl (by kernel_rfl) (by kernel_rfl) (by kernel_rfl) (fun _ _ _ h => h) (Or.inl ⟨by rfl, ?_⟩) (by assumption) ?_
                rotate_left
                · (intro w hSw; have hc0 := MC.out w hSw; go_simp; try (with_reducible rfl))
                try simp only [Act.put, List.getElem_toArray, List.getElem_cons_zero, List.getElem_cons_succ, List.setIfInBounds_toArray, List.set_cons_zero, List.set_cons_succ]
                refine wpAnyH_take (i := 7) (v := ?_) rfl (by kernel_rfl) (by kernel_rfl) (by kernel_rfl) (fun _ _ _ h => h) (Or.inl ⟨by rfl, ?_⟩) (by assumption) ?_
                rotate_left
                · (intro w hSw; go_simp; try (with_reducible rfl))
                try simp only [Act.put, List.getElem_toArray, List.getElem_cons_zero, List.getElem_cons_succ, List.setIfInBounds_toArray, List.set_cons_zero, List.set_cons_succ]
                refine wpAnyH_take (i := 8) (v := ?_) rfl (by kernel_rfl) (by kernel_rfl) (by kernel_rfl) (fun _ _ _ h => h) (Or.inl ⟨by rfl, ?_⟩) (by assumption) ?_
                rotate_left
                · (intro w hSw; go_simp; try (with_reducible rfl))
                try simp only [Act.put, List.getElem_toArray, List.getElem_cons_zero, List.getElem_cons_succ, List.setIfInBounds_toArray, List.set_cons_zero, List.set_cons_succ]
                refine wpAnyH_take (i := 9) (v := ?_) rfl (by kernel_rfl) (by kernel_rfl) (by kernel_rfl) (fun _ _ _ h => h) (Or.inl ⟨by rfl, ?_⟩) (by assumption) ?_
                rotate_left
                · (intro w hSw; go_simp; try (with_reducible rfl))
                try simp only [Act.put, List.getElem_toArray, List.getElem_cons_zero, List.getElem_cons_succ, List.setIfInBounds_toArray, List.set_cons_zero, List.set_cons_succ]
                refine wpAnyH_take (i := 10) (v := ?_) rfl (by kernel_rfl) (by kernel_rfl) (by kernel_rfl) (fun _ _ _ h => h) (Or.inl ⟨by rfl, ?_⟩) (by assumption) ?_
                rotate_left
                · (intro w hSw; go_simp; try (with_reducible rfl))
                try simp only [Act.put, List.getElem_toArray, List.getElem_cons_zero, List.getElem_cons_succ, List.setIfInBounds_toArray, List.set_cons_zero, List.set_cons_succ]
                refine wpAnyH_take (i := 11) (v := ?_) rfl (by kernel_rfl) (by kernel_rfl) (by kernel_rfl) (fun _ _ _ h => h) (Or.inl ⟨by rfl, ?_⟩) (by assumption) ?_
                rotate_left
                · (intro w hSw; have hc0 := ME0.out w hSw; go_simp; try (with_reducible rfl))
                try simp only [Act.put, List.getElem_toArray, List.getElem_cons_zero, List.getElem_cons_succ, List.setIfInBounds_toArray, List.set_cons_zero, List.set_cons_succ]
                refine wpAnyH_take (i := 12) (v := ?_) rfl (by kernel_rfl) (by kernel_rfl) (by kernel_rfl) (fun _ _ _ h => h) (Or.inl ⟨by rfl, ?_⟩) (by assumption) ?_
                rotate_left
                · (intro w hSw; go_simp; try (with_reducible rfl))
                try simp only [Act.put, List.getElem_toArray, List.getElem_cons_zero, List.getElem_cons_succ, List.setIfInBounds_toArray, List.set_cons_zero, List.set_cons_succ]
                refine wpAnyH_take (i := 13) (v := ?_) rfl (by kernel_rfl) (by kernel_rfl) (by kernel_rfl) (fun _ _ _ h => h) (Or.inl ⟨by rfl, ?_⟩) (by assumption) ?_
                rotate_left
                · (intro w hSw; go_simp; try (with_reducible rfl))
                try simp only [Act.put, List.getElem_toArray, List.getElem_cons_zero, List.getElem_cons_succ, List.setIfInBounds_toArray, List.set_cons_zero, List.set_cons_succ]
                refine wpAnyH_take (i := 14) (v := ?_) rfl (by kernel_rfl) (by kernel_rfl) (by kernel_rfl) (fun _ _ _ h => h) (Or.inl ⟨by rfl, ?_⟩) (by assumption) ?_
                rotate_left
                · (intro w hSw; go_simp; try (with_reducible rfl))
                try simp only [Act.put, List.getElem_toArray, List.getElem_cons_zero, List.getElem_cons_succ, List.setIfInBounds_toArray, List.set_cons_zero, List.set_cons_succ]
                refine wpAnyH_take (i := 15) (v := ?_) rfl (by kernel_rfl) (by kernel_rfl) (by kernel_rfl) (fun _ _ _ h => h) (Or.inl ⟨by rfl, ?_⟩) (by assumption) ?_
                rotate_left
                · (intro w hSw; have hc0 := MO0.out w hSw; go_simp; try (with_reducible rfl))
                try simp only [Act.put, List.getElem_toArray, List.getElem_cons_zero, List.getElem_cons_succ, List.setIfInBounds_toArray, List.set_cons_zero, List.set_cons_succ]
                refine wpAnyH_take (i := 16) (v := ?_) rfl (by kernel_rfl) (by kernel_rfl) (by kernel_rfl) (fun _ _ _ h => h) (Or.inl ⟨by rfl, ?_⟩) (by assumption) ?_
                rotate_left
                · (intro w hSw; go_simp; try (with_reducible rfl))
                try simp only [Act.put, List.getElem_toArray, List.getElem_cons_zero, List.getElem_cons_succ, List.setIfInBounds_toArray, List.set_cons_zero, List.set_cons_succ]
                refine wpAnyH_take (i := 17) (v := ?_) rfl (by kernel_rfl) (by kernel_rfl) (by kernel_rfl) (fun _ _ _ h => h) (Or.inl ⟨by rfl, ?_⟩) (by assumption) ?_
                rotate_left
                · (intro w hSw; have hc0 := MC.out w hSw; go_simp; try (with_reducible rfl))
                try simp only [Act.put, List.getElem_toArray, List.getElem_cons_zero, List.getElem_cons_succ, List.setIfInBounds_toArray, List.set_cons_zero, List.set_cons_succ]
                refine wpAnyH_take (i := 18) (v := ?_) rfl (by kernel_rfl) (by kernel_rfl) (by kernel_rfl) (fun _ _ _ h => h) (Or.inl ⟨by rfl, ?_⟩) (by assumption) ?_
                rotate_left
                · (intro w hSw; go_simp; try (with_reducible rfl))
                try simp only [Act.put, List.getElem_toArray, List.getElem_cons_zero, List.getElem_cons_succ, List.setIfInBounds_toArray, List.set_cons_zero, List.set_cons_succ]
                refine wpAnyH_take (i := 19) (v := ?_) rfl (by kernel_rfl) (by kernel_rfl) (by kernel_rfl) (fun _ _ _ h => h) (Or.inl ⟨by rfl, ?_⟩) (by assumption) ?_
                rotate_left
                · (intro w hSw; go_simp; try (with_reducible rfl))
                try simp only [Act.put, List.getElem_toArray, List.getElem_cons_zero, List.getElem_cons_succ, List.setIfInBounds_toArray, List.set_cons_zero, List.set_cons_succ]
                refine wpAnyH_take (i := 20) (v := ?_) rfl (by kernel_rfl) (by kernel_rfl) (by kernel_rfl) (fun _ _ _ h => h) (Or.inl ⟨by rfl, ?_⟩) (by assumption) ?_
                rotate_left
                · (intro w hSw; go_simp; try (with_reducible rfl))
                try simp only [Act.put, List.getElem_toArray, List.getElem_cons_zero, List.getElem_cons_succ, List.setIfInBounds_toArray, List.set_cons_zero, List.set_cons_succ]
                refine wpAnyH_take (i := 21) (v := ?_) rfl (by kernel_rfl) (by kernel_rfl) (by kernel_rfl) (fun _ _ _ h => h) (Or.inl ⟨by rfl, ?_⟩) (by assumption) ?_
                rotate_left
                · (intro w hSw; go_simp; try (with_reducible rfl))
                try simp only [Act.put, List.getElem_toArray, List.getElem_cons_zero, List.getElem_cons_succ, List.setIfInBounds_toArray, List.set_cons_zero, List.set_cons_succ]
                refine wpAnyH_take (i := 22) (v := ?_) rfl (by kernel_rfl) (by kernel_rfl) (by kernel_rfl) (fun _ _ _ h => h) (Or.inl ⟨by rfl, ?_⟩) (by assumption) ?_
                rotate_left
                · (intro w hSw; have hc0 := ME0.out w hSw; go_simp; try (with_reducible rfl))
                try simp only [Act.put, List.getElem_toArray, List.getElem_cons_zero, List.getElem_cons_succ, List.setIfInBounds_toArray, List.set_cons_zero, List.set_cons_succ]
                refine wpAnyH_take (i := 23) (v := ?_) rfl (by kernel_rfl) (by kernel_rfl) (by kernel_rfl) (fun _ _ _ h => h) (Or.inl ⟨by rfl, ?_⟩) (by assumption) ?_
                rotate_left
                · (intro w hSw; go_simp; try (with_reducible rfl))
                try simp only [Act.put, List.getElem_toArray, List.getElem_cons_zero, List.getElem_cons_succ, List.setIfInBounds_toArray, List.set_cons_zero, List.set_cons_succ]
                refine wpAnyH_take (i := 24) (v := ?_) rfl (by kernel_rfl) (by kernel_rfl) (by kernel_rfl) (fun _ _ _ h => h) (Or.inl ⟨by rfl, ?_⟩) (by assumption) ?_
                rotate_left
                · (intro w hSw; go_simp; try (with_reducible rfl))
                try simp only [Act.put, List.getElem_toArray, List.getElem_cons_zero, List.getElem_cons_succ, List.setIfInBounds_toArray, List.set_cons_zero, List.set_cons_succ]
                refine wpAnyH_take (i := 25) (v := ?_) rfl (by kernel_rfl) (by kernel_rfl) (by kernel_rfl) (fun _ _ _ h => h) (Or.inl ⟨by rfl, ?_⟩) (by assumption) ?_
                rotate_left
                · (intro w hSw; go_simp; try (with_reducible rfl))
                try simp only [Act.put, List.getElem_toArray, List.getElem_cons_zero, List.getElem_cons_succ, List.setIfInBounds_toArray, List.set_cons_zero, List.set_cons_succ]
                refine wpAnyH_take (i := 26) (v := ?_) rfl (by kernel_rfl) (by kernel_rfl) (by kernel_rfl) (fun _ _ _ h => h) (Or.inl ⟨by rfl, ?_⟩) (by assumption) ?_
                rotate_left
                · (intro w hSw; have hc0 := MO1.out w hSw; go_simp; try (with_reducible rfl))
                try simp only [Act.put, List.getElem_toArray, List.getElem_cons_zero, List.getElem_cons_succ, List.setIfInBounds_toArray, List.set_cons_zero, List.set_cons_succ]
                refine wpAnyH_take (i := 27) (v := ?_) rfl (by kernel_rfl) (by kernel_rfl) (by kernel_rfl) (fun _ _ _ h => h) (Or.inl ⟨by rfl, ?_⟩) (by assumption) ?_
                rotate_left
                · (intro w hSw; go_simp; try (with_reducible rfl))
                try simp only [Act.put, List.getElem_toArray, List.getElem_cons_zero, List.getElem_cons_succ, List.setIfInBounds_toArray, List.set_cons_zero, List.set_cons_succ]
                refine wpAnyH_take (i := 28) (v := ?_) rfl (by kernel_rfl) (by kernel_rfl) (by kernel_rfl) (fun _ _ _ h => h) (Or.inl ⟨by rfl, ?_⟩) (by assumption) ?_
                rotate_left
                · (intro w hSw; have hc0 := MC.out w hSw; go_simp; try (with_reducible rfl))
                try simp only [Act.put, List.getElem_toArray, List.getElem_cons_zero, List.getElem_cons_succ, List.setIfInBounds_toArray, List.set_cons_zero, List.set_cons_succ]
                refine wpAnyH_take (i := 29) (v := ?_) rfl (by kernel_rfl) (by kernel_rfl) (by kernel_rfl) (fun _ _ _ h => h) (Or.inl ⟨by rfl, ?_⟩) (by assumption) ?_
                rotate_left
                · (intro w hSw; go_simp; try (with_reducible rfl))
                try simp only [Act.put, List.getElem_toArray, List.getElem_cons_zero, List.getElem_cons_succ, List.setIfInBounds_toArray, List.set_cons_zero, List.set_cons_succ]
                refine wpAnyH_take (i := 30) (v := ?_) rfl (by kernel_rfl) (by kernel_rfl) (by kernel_rfl) (fun _ _ _ h => h) (Or.inl ⟨by rfl, ?_⟩) (by assumption) ?_
                rotate_left
                · (intro w hSw; go_simp; try (with_reducible rfl))
                try simp only [Act.put, List.getElem_toArray, List.getElem_cons_zero, List.getElem_cons_succ, List.setIfInBounds_toArray, List.set_cons_zero, List.set_cons_succ]
                refine wpAnyH_take (i := 31) (v := ?_) rfl (by kernel_rfl) (by kernel_rfl) (by kernel_rfl) (fun _ _ _ h => h) (Or.inl ⟨by rfl, ?_⟩) (by assumption) ?_
                rotate_left
                · (intro w hSw; go_simp; try (with_reducible rfl))
                try simp only [Act.put, List.getElem_toArray, List.getElem_cons_zero, List.getElem_cons_succ, List.setIfInBounds_toArray, List.set_cons_zero, List.set_cons_succ]
                refine wpAnyH_take (i := 32) (v := ?_) rfl (by kernel_rfl) (by kernel_rfl) (by kernel_rfl) (fun _ _ _ h => h) (Or.inl ⟨by rfl, ?_⟩) (by assumption) ?_
                rotate_left
                · (intro w hSw; go_simp; try (with_reducible rfl))
                try simp only [Act.put, List.getElem_toArray, List.getElem_cons_zero, List.getElem_cons_succ, List.setIfInBounds_toArray, List.set_cons_zero, List.set_cons_succ]
                refine wpAnyH_take (i := 33) (v := ?_) rfl (by kernel_rfl) (by kernel_rfl) (by kernel_rfl) (fun _ _ _ h => h) (Or.inl ⟨by rfl, ?_⟩) (by assumption) ?_
                rotate_left
                · (intro w hSw; have hc0 := ME1.out w hSw; go_simp; try (with_reducible rfl))
                try simp only [Act.put, List.getElem_toArray, List.getElem_cons_zero, List.getElem_cons_succ, List.setIfInBounds_toArray, List.set_cons_zero, List.set_cons_succ]
                refine wpAnyH_take (i := 34) (v := ?_) rfl (by kernel_rfl) (by kernel_rfl) (by kernel_rfl) (fun _ _ _ h => h) (Or.inl ⟨by rfl, ?_⟩) (by assumption) ?_
                rotate_left
                · (intro w hSw; go_simp; try (with_reducible rfl))
                try simp only [Act.put, List.getElem_toArray, List.getElem_cons_zero, List.getElem_cons_succ, List.setIfInBounds_toArray, List.set_cons_zero, List.set_cons_succ]
                refine wpAnyH_take (i := 35) (v := ?_) rfl (by kernel_rfl) (by kernel_rfl) (by kernel_rfl) (fun _ _ _ h => h) (Or.inl ⟨by rfl, ?_⟩) (by assumption) ?_
                rotate_left
                · (intro w hSw; go_simp; try (with_reducible rfl))
                try simp only [Act.put, List.getElem_toArray, List.getElem_cons_zero, List.getElem_cons_succ, List.setIfInBounds_toArray, List.set_cons_zero, List.set_cons_succ]
                refine wpAnyH_take (i := 36) (v := ?_) rfl (by kernel_rfl) (by kernel_rfl) (by kernel_rfl) (fun _ _ _ h => h) (Or.inl ⟨by rfl, ?_⟩) (by assumption) ?_
                rotate_left
                · (intro w hSw; go_simp; try (with_reducible rfl))
                try simp only [Act.put, List.getElem_toArray, List.getElem_cons_zero, List.getElem_cons_succ, List.setIfInBounds_toArray, List.set_cons_zero, List.set_cons_succ]
                refine wpAnyH_take (i := 37) (v := ?_) rfl (by kernel_rfl) (by kernel_rfl) (by kernel_rfl) (fun _ _ _ h => h) (Or.inl ⟨by rfl, ?_⟩) (by assumption) ?_
                rotate_left
                · (intro w hSw; go_simp; try (with_reducible rfl))
                try simp only [Act.put, List.getElem_toArray, List.getElem_cons_zero, List.getElem_cons_succ, List.setIfInBounds_toArray, List.set_cons_zero, List.set_cons_succ]
                refine wpAnyH_done (by kernel_rfl) ?_ _
                refine NoPanic.normal ?_
                go_wp2_with fail
                go_meet
                case rel => exact ⟨by rw [HLT.out, hlt, HQD.out, hdt]; rfl, Lib.hid (HSO.out _ hHeld)⟩
            · have hqe : (x.toList == es0.toList) = false := by
                cases hc : (x.toList == es0.toList)
                · rfl
                · exact absurd (HTL.out.1 hc) he
              have hqd : decide (x = es0) = false := decide_eq_false he
              refine wp_region_noPanic ?_
              refine wp_region_held_drew (S := S) (by kernel_rfl) HS0.out (fun hHeld => ?_)
              refine wpAnyH_take (i := 0) (v := ?_) rfl (by kernel_rfl) (by kernel_rfl) (by kernel_rfl) (fun _ _ _ h => h) (Or.inl ⟨by rfl, ?_⟩) (by assumption) ?_
              rotate_left
              · (intro w hSw; go_simp; try (with_reducible rfl))
              try simp only [Act.put, List.getElem_toArray, List.getElem_cons_zero, List.setIfInBounds_toArray, List.set_cons_zero, List.set_cons_succ]
              refine wpAnyH_take (i := 1) (v := ?_) rfl (by kernel_rfl) (by kernel_rfl) (by kernel_rfl) (fun _ _ _ h => h) (Or.inl ⟨by rfl, ?_⟩) (by assumption) ?_
              rotate_left
              · (intro w hSw; go_simp; try (with_reducible rfl))
              try simp only [Act.put, List.getElem_toArray, List.getElem_cons_zero, List.getElem_cons_succ, List.setIfInBounds_toArray, List.set_cons_zero, List.set_cons_succ]
              refine wpAnyH_take (i := 2) (v := ?_) rfl (by kernel_rfl) (by kernel_rfl) (by kernel_rfl) (fun _ _ _ h => h) (Or.inl ⟨by rfl, ?_⟩) (by assumption) ?_
              rotate_left
              · (intro w hSw; go_simp; try (with_reducible rfl))
              try simp only [Act.put, List.getElem_toArray, List.getElem_cons_zero, List.getElem_cons_succ, List.setIfInBounds_toArray, List.set_cons_zero, List.set_cons_succ]
              refine wpAnyH_take (i := 3) (v := ?_) rfl (by kernel_rfl) (by kernel_rfl) (by kernel_rfl) (fun _ _ _ h => h) (Or.inl ⟨by rfl, ?_⟩) (by assumption) ?_
              rotate_left
              · (intro w hSw; go_simp; try (with_reducible rfl))
              try simp only [Act.put, List.getElem_toArray, List.getElem_cons_zero, List.getElem_cons_succ, List.setIfInBounds_toArray, List.set_cons_zero, List.set_cons_succ]
              refine wpAnyH_take (i := 4) (v := ?_) rfl (by kernel_rfl) (by kernel_rfl) (by kernel_rfl) (fun _ _ _ h => h) (Or.inl ⟨by rfl, ?_⟩) (by assumption) ?_
              rotate_left
              · (intro w hSw; have hc0 := MO0.out w hSw; go_simp; try (with_reducible rfl))
              try simp only [Act.put, List.getElem_toArray, List.getElem_cons_zero, List.getElem_cons_succ, List.setIfInBounds_toArray, List.set_cons_zero, List.set_cons_succ]
              refine wpAnyH_take (i := 5) (v := ?_) rfl (by kernel_rfl) (by kernel_rfl) (by kernel_rfl) (fun _ _ _ h => h) (Or.inl ⟨by rfl, ?_⟩) (by assumption) ?_
              rotate_left
              · (intro w hSw; go_simp; try (with_reducible rfl))
              try simp only [Act.put, List.getElem_toArray, List.getElem_cons_zero, List.getElem_cons_succ, List.setIfInBounds_toArray, List.set_cons_zero, List.set_cons_succ]
              refine wpAnyH_take (i := 6) (v := ?_) rfl (by kernel_rfl) (by kernel_rfl) (by kernel_rfl) (fun _ _ _ h => h) (Or.inl ⟨by rfl, ?_⟩) (by assumption) ?_
              rotate_left
              · (intro w hSw; have hc0 := MC.out w hSw; go_simp; try (with_reducible rfl))
              try simp only [Act.put, List.getElem_toArray, List.getElem_cons_zero, List.getElem_cons_succ, List.setIfInBounds_toArray, List.set_cons_zero, List.set_cons_succ]
              refine wpAnyH_take (i := 7) (v := ?_) rfl (by kernel_rfl) (by kernel_rfl) (by kernel_rfl) (fun _ _ _ h => h) (Or.inl ⟨by rfl, ?_⟩) (by assumption) ?_
              rotate_left
              · (intro w hSw; go_simp; try (with_reducible rfl))
              try simp only [Act.put, List.getElem_toArray, List.getElem_cons_zero, List.getElem_cons_succ, List.setIfInBounds_toArray, List.set_cons_zero, List.set_cons_succ]
              refine wpAnyH_take (i := 8) (v := ?_) rfl (by kernel_rfl) (by kernel_rfl) (by kernel_rfl) (fun _ _ _ h => h) (Or.inl ⟨by rfl, ?_⟩) (by assumption) ?_
              rotate_left
              · (intro w hSw; go_simp; try (with_reducible rfl))
              try simp only [Act.put, List.getElem_toArray, List.getElem_cons_zero, List.getElem_cons_succ, List.setIfInBounds_toArray, List.set_cons_zero, List.set_cons_succ]
              refine wpAnyH_take (i := 9) (v := ?_) rfl (by kernel_rfl) (by kernel_rfl) (by kernel_rfl) (fun _ _ _ h => h) (Or.inl ⟨by rfl, ?_⟩) (by assumption) ?_
              rotate_left
              · (intro w hSw; go_simp; try (with_reducible rfl))
              try simp only [Act.put, List.getElem_toArray, List.getElem_cons_zero, List.getElem_cons_succ, List.setIfInBounds_toArray, List.set_cons_zero, List.set_cons_succ]
              refine wpAnyH_take (i := 10) (v := ?_) rfl (by kernel_rfl) (by kernel_rfl) (by kernel_rfl) (fun _ _ _ h => h) (Or.inl ⟨by rfl, ?_⟩) (by assumption) ?_
              rotate_left
              · (intro w hSw; go_simp; try (with_reducible rfl))
              try simp only [Act.put, List.getElem_toArray, List.getElem_cons_zero, List.getElem_cons_succ, List.setIfInBounds_toArray, List.set_cons_zero, List.set_cons_succ]
              refine wpAnyH_take (i := 11) (v := ?_) rfl (by kernel_rfl) (by kernel_rfl) (by kernel_rfl) (fun _ _ _ h => h) (Or.inl ⟨by rfl, ?_⟩) (by assumption) ?_
              rotate_left
              · (intro w hSw; have hc0 := ME0.out w hSw; go_simp; try (with_reducible rfl))
              try simp only [Act.put, List.getElem_toArray, List.getElem_cons_zero, List.getElem_cons_succ, List.setIfInBounds_toArray, List.set_cons_zero, List.set_cons_succ]
              refine wpAnyH_take (i := 12) (v := ?_) rfl (by kernel_rfl) (by kernel_rfl) (by kernel_rfl) (fun _ _ _ h => h) (Or.inl ⟨by rfl, ?_⟩) (by assumption) ?_
              rotate_left
              · (intro w hSw; go_simp; try (with_reducible rfl))
              try simp only [Act.put, List.getElem_toArray, List.getElem_cons_zero, List.getElem_cons_succ, List.setIfInBounds_toArray, List.set_cons_zero, List.set_cons_succ]
              refine wpAnyH_take (i := 13) (v := ?_) rfl (by kernel_rfl) (by kernel_rfl) (by kernel_rfl) (fun _ _ _ h => h) (Or.inl ⟨by rfl, ?_⟩) (by assumption) ?_
              rotate_left
              · (intro w hSw; go_simp; try (with_reducible rfl))
              try simp only [Act.put, List.getElem_toArray, List.getElem_cons_zero, List.getElem_cons_succ, List.setIfInBounds_toArray, List.set_cons_zero, List.set_cons_succ]
              refine wpAnyH_take (i := 14) (v := ?_) rfl (by kernel_rfl) (by kernel_rfl) (by kernel_rfl) (fun _ _ _ h => h) (Or.inl ⟨by rfl, ?_⟩) (by assumption) ?_
              rotate_left
              · (intro w hSw; go_simp; try (with_reducible rfl))
              try simp only [Act.put, List.getElem_toArray, List.getElem_cons_zero, List.getElem_cons_succ, List.setIfInBounds_toArray, List.set_cons_zero, List.set_cons_succ]
              refine wpAnyH_take (i := 15) (v := ?_) rfl (by kernel_rfl) (by kernel_rfl) (by kernel_rfl) (fun _ _ _ h => h) (Or.inl ⟨by rfl, ?_⟩) (by assumption) ?_
              rotate_left
              · (intro w hSw; have hc0 := MO0.out w hSw; go_simp; try (with_reducible rfl))
              try simp only [Act.put, List.getElem_toArray, List.getElem_cons_zero, List.getElem_cons_succ, List.setIfInBounds_toArray, List.set_cons_zero, List.set_cons_succ]
              refine wpAnyH_take (i := 16) (v := ?_) rfl (by kernel_rfl) (by kernel_rfl) (by kernel_rfl) (fun _ _ _ h => h) (Or.inl ⟨by rfl, ?_⟩) (by assumption) ?_
              rotate_left
              · (intro w hSw; go_simp; try (with_reducible rfl))
              try simp only [Act.put, List.getElem_toArray, List.getElem_cons_zero, List.getElem_cons_succ, List.setIfInBounds_toArray, List.set_cons_zero, List.set_cons_succ]
              refine wpAnyH_take (i := 17) (v := ?_) rfl (by kernel_rfl) (by kernel_rfl) (by kernel_rfl) (fun _ _ _ h => h) (Or.inl ⟨by rfl, ?_⟩) (by assumption) ?_
              rotate_left
              · (intro w hSw; have hc0 := MC.out w hSw; go_simp; try (with_reducible rfl))
              try simp only [Act.put, List.getElem_toArray, List.getElem_cons_zero, List.getElem_cons_succ, List.setIfInBounds_toArray, List.set_cons_zero, List.set_cons_succ]
              refine wpAnyH_take (i := 18) (v := ?_) rfl (by kernel_rfl) (by kernel_rfl) (by kernel_rfl) (fun _ _ _ h => h) (Or.inl ⟨by rfl, ?_⟩) (by assumption) ?_
              rotate_left
              · (intro w hSw; go_simp; try (with_reducible rfl))
              try simp only [Act.put, List.getElem_toArray, List.getElem_cons_zero, List.getElem_cons_succ, List.setIfInBounds_toArray, List.set_cons_zero, List.set_cons_succ]
              refine wpAnyH_take (i := 19) (v := ?_) rfl (by kernel_rfl) (by kernel_rfl) (by kernel_rfl) (fun _ _ _ h => h) (Or.inl ⟨by rfl, ?_⟩) (by assumption) ?_
              rotate_left
              · (intro w hSw; go_simp; try (with_reducible rfl))
              try simp only [Act.put, List.getElem_toArray, List.getElem_cons_zero, List.getElem_cons_succ, List.setIfInBounds_toArray, List.set_cons_zero, List.set_cons_succ]
              refine wpAnyH_take (i := 20) (v := ?_) rfl (by kernel_rfl) (by kernel_rfl) (by kernel_rfl) (fun _ _ _ h => h) (Or.inl ⟨by rfl, ?_⟩) (by assumption) ?_
              rotate_left
              · (intro w hSw; go_simp; try (with_reducible rfl))
              try simp only [Act.put, List.getElem_toArray, List.getElem_cons_zero, List.getElem_cons_succ, List.setIfInBounds_toArray, List.set_cons_zero, List.set_cons_succ]
              refine wpAnyH_take (i := 21) (v := ?_) rfl (by kernel_rfl) (by kernel_rfl) (by kernel_rfl) (fun _ _ _ h => h) (Or.inl ⟨by rfl, ?_⟩) (by assumption) ?_
              rotate_left
              · (intro w hSw; go_simp; try (with_reducible rfl))
              try simp only [Act.put, List.getElem_toArray, List.getElem_cons_zero, List.getElem_cons_succ, List.setIfInBounds_toArray, List.set_cons_zero, List.set_cons_succ]
              refine wpAnyH_take (i := 22) (v := ?_) rfl (by kernel_rfl) (by kernel_rfl) (by kernel_rfl) (fun _ _ _ h => h) (Or.inl ⟨by rfl, ?_⟩) (by assumption) ?_
              rotate_left
              · (intro w hSw; have hc0 := ME0.out w hSw; go_simp; try (with_reducible rfl))
              try simp only [Act.put, List.getElem_toArray, List.getElem_cons_zero, List.getElem_cons_succ, List.setIfInBounds_toArray, List.set_cons_zero, List.set_cons_succ]
              refine wpAnyH_take (i := 23) (v := ?_) rfl (by kernel_rfl) (by kernel_rfl) (by kernel_rfl) (fun _ _ _ h => h) (Or.inl ⟨by rfl, ?_⟩) (by assumption) ?_
              rotate_left
              · (intro w hSw; go_simp; try (with_reducible rfl))
              try simp only [Act.put, List.getElem_toArray, List.getElem_cons_zero, List.getElem_cons_succ, List.setIfInBounds_toArray, List.set_cons_zero, List.set_cons_succ]
              refine wpAnyH_take (i := 24) (v := ?_) rfl (by kernel_rfl) (by kernel_rfl) (by kernel_rfl) (fun _ _ _ h => h) (Or.inl ⟨by rfl, ?_⟩) (by assumption) ?_
              rotate_left
              · (intro w hSw; go_simp; try (with_reducible rfl))
              try simp only [Act.put, List.getElem_toArray, List.getElem_cons_zero, List.getElem_cons_succ, List.setIfInBounds_toArray, List.set_cons_zero, List.set_cons_succ]
              refine wpAnyH_take (i := 25) (v := undef) rfl (by kernel_rfl) (by kernel_rfl) (by kernel_rfl) (fun _ _ _ h => h) (Or.inr ⟨by rfl, rfl⟩) (by assumption) ?_
              try simp only [Act.put, List.getElem_toArray, List.getElem_cons_zero, List.getElem_cons_succ, List.setIfInBounds_toArray, List.set_cons_zero, List.set_cons_succ]
              refine wpAnyH_take (i := 26) (v := undef) rfl (by kernel_rfl) (by kernel_rfl) (by kernel_rfl) (fun _ _ _ h => h) (Or.inr ⟨by rfl, rfl⟩) (by assumption) ?_
              try simp only [Act.put, List.getElem_toArray, List.getElem_cons_zero, List.getElem_cons_succ, List.setIfInBounds_toArray, List.set_cons_zero, List.set_cons_succ]
              refine wpAnyH_take (i := 27) (v := undef) rfl (by kernel_rfl) (by kernel_rfl) (by kernel_rfl) (fun _ _ _ h => h) (Or.inr ⟨by rfl, rfl⟩) (by assumption) ?_
              try simp only [Act.put, List.getElem_toArray, List.getElem_cons_zero, List.getElem_cons_succ, List.setIfInBounds_toArray, List.set_cons_zero, List.set_cons_succ]
              refine wpAnyH_take (i := 28) (v := undef) rfl (by kernel_rfl) (by kernel_rfl) (by kernel_rfl) (fun _ _ _ h => h) (Or.inr ⟨by rfl, rfl⟩) (by assumption) ?_
              try simp only [Act.put, List.getElem_toArray, List.getElem_cons_zero, List.getElem_cons_succ, List.setIfInBounds_toArray, List.set_cons_zero, List.set_cons_succ]
              refine wpAnyH_take (i := 29) (v := undef) rfl (by kernel_rfl) (by kernel_rfl) (by kernel_rfl) (fun _ _ _ h => h) (Or.inr ⟨by rfl, rfl⟩) (by assumption) ?_
              try simp only [Act.put, List.getElem_toArray, List.getElem_cons_zero, List.getElem_cons_succ, List.setIfInBounds_toArray, List.set_cons_zero, List.set_cons_succ]
              refine wpAnyH_take (i := 30) (v := undef) rfl (by kernel_rfl) (by kernel_rfl) (by kernel_rfl) (fun _ _ _ h => h) (Or.inr ⟨by rfl, rfl⟩) (by assumption) ?_
              try simp only [Act.put, List.getElem_toArray, List.getElem_cons_zero, List.getElem_cons_succ, List.setIfInBounds_toArray, List.set_cons_zero, List.set_cons_succ]
              refine wpAnyH_take (i := 31) (v := undef) rfl (by kernel_rfl) (by kernel_rfl) (by kernel_rfl) (fun _ _ _ h => h) (Or.inr ⟨by rfl, rfl⟩) (by assumption) ?_
              try simp only [Act.put, List.getElem_toArray, List.getElem_cons_zero, List.getElem_cons_succ, List.setIfInBounds_toArray, List.set_cons_zero, List.set_cons_succ]
              refine wpAnyH_take (i := 32) (v := undef) rfl (by kernel_rfl) (by kernel_rfl) (by kernel_rfl) (fun _ _ _ h => h) (Or.inr ⟨by rfl, rfl⟩) (by assumption) ?_
              try simp only [Act.put, List.getElem_toArray, List.getElem_cons_zero, List.getElem_cons_succ, List.setIfInBounds_toArray, List.set_cons_zero, List.set_cons_succ]
              refine wpAnyH_take (i := 33) (v := undef) rfl (by kernel_rfl) (by kernel_rfl) (by kernel_rfl) (fun _ _ _ h => h) (Or.inr ⟨by rfl, rfl⟩) (by assumption) ?_
              try simp only [Act.put, List.getElem_toArray, List.getElem_cons_zero, List.getElem_cons_succ, List.setIfInBounds_toArray, List.set_cons_zero, List.set_cons_succ]
              refine wpAnyH_take (i := 34) (v := undef) rfl (by kernel_rfl) (by kernel_rfl) (by kernel_rfl) (fun _ _ _ h => h) (Or.inr ⟨by rfl, rfl⟩) (by assumption) ?_
              try simp only [Act.put, List.getElem_toArray, List.getElem_cons_zero, List.getElem_cons_succ, List.setIfInBounds_toArray, List.set_cons_zero, List.set_cons_succ]
              refine wpAnyH_take (i := 35) (v := ?_) rfl (by kernel_rfl) (by kernel_rfl) (by kernel_rfl) (fun _ _ _ h => h) (Or.inl ⟨by rfl, ?_⟩) (by assumption) ?_
              rotate_left
              · (intro w hSw; go_simp; try (with_reducible rfl))
              try simp only [Act.put, List.getElem_toArray, List.getElem_cons_zero, List.getElem_cons_succ, List.setIfInBounds_toArray, List.set_cons_zero, List.set_cons_succ]
              refine wpAnyH_take (i := 36) (v := ?_) rfl (by kernel_rfl) (by kernel_rfl) (by kernel_rfl) (fun _ _ _ h => h) (Or.inl ⟨by rfl, ?_⟩) (by assumption) ?_
              rotate_left
              · (intro w hSw; go_simp; try (with_reducible rfl))
              try simp only [Act.put, List.getElem_toArray, List.getElem_cons_zero, List.getElem_cons_succ, List.setIfInBounds_toArray, List.set_cons_zero, List.set_cons_succ]
              refine wpAnyH_take (i := 37) (v := ?_) rfl (by kernel_rfl) (by kernel_rfl) (by kernel_rfl) (fun _ _ _ h => h) (Or.inl ⟨by rfl, ?_⟩) (by assumption) ?_
              rotate_left
              · (intro w hSw; go_simp; try (with_reducible rfl))
              try simp only [Act.put, List.getElem_toArray, List.getElem_cons_zero, List.getElem_cons_succ, List.setIfInBounds_toArray, List.set_cons_zero, List.set_cons_succ]
              refine wpAnyH_done (by kernel_rfl) ?_ _
              refine NoPanic.normal ?_
              go_wp2_with fail
              go_meet
              case rel => exact ⟨by rw [HLT.out, hlt, hqd]; rfl, Lib.hid (HSO.out _ hHeld)⟩
      case rest =>
        obtain ⟨rfl, HW2⟩ := hcut
        obtain ⟨bq, hbq⟩ : ∃ bq, stepC (x, t) l k = bq := ⟨_, rfl⟩
        rw [hbq]
        have HBQ := Lib.hid hbq
        clear hbq HW
        cases bq with
        | true =>
          cases k with
          | zero => have := HBQ.out; simp [stepC] at this
          | succ j =>
            have hjl : j < l.length := by rw [HN.out]; omega
            have HQ2 : Hid (placeC (x, t) l N = placeC (x, t) l j) := Lib.hid (by rw [HQ.out]; exact stepC_yes hjl HBQ.out)
            clear HQ HBQ hjl
            go_wp2_with fail
            go_roundw
            case rel => exact ⟨j, by omega, by first | rfl | go_num | (simp; omega), HQ2, HW2⟩
            case measure => first | (simp [intOf]; done) | (simp [intOf]; omega)
        | false =>
          have HK : Hid (placeC (x, t) l N = k) := Lib.hid (by
            rw [HQ.out]
            cases k with
            | zero => rfl
            | succ j => exact stepC_no (by have := HN.out; omega) HBQ.out)
          have HCx := Lib.hid (HC.out.below HW2.out)
          have HRx := Lib.hid (HR.out.below HW2.out)
          have HOx := Lib.hid (HO.out.below HW2.out)
          have HGx := Lib.hid (HG.out.below HW2.out)
          have HYx := Lib.hid (HY.out.below HW2.out)
          have HZx := Lib.hid (HZ.out.below HW2.out)
          have HLx := Lib.hid (Nat.lt_of_lt_of_le HL.out HW2.out.size)
          have HBx : Hid (Below P6 w wc) := Lib.hid (HB.out.trans (HW2.out.mono (by have := HL.out; have := HS1.out; have := HSZ4.out; omega)))
          have HLTS : Hid (P6 < wc.heap.size ∧ P6 + 1 < wc.heap.size ∧ P6 + 2 < wc.heap.size ∧ P17 < wc.heap.size) := Lib.hid (by have := HLx.out; have := HS1.out; have := HSZ4.out; omega)
          have HLO : Hid (P15 < wc.heap.size) := Lib.hid (by have := HLx.out; have := HSZ4.out; omega)
          have hx1 := HCx.out.cell 1 _ rfl
          have HN0 := Lib.hid (RowC.nil wc wc.heap.size)
          clear HQ HBQ HC HR HO HG HY HZ HB HL HW2
          rcases HRx.out.form with ⟨hv, rfl⟩ | ⟨g0, cap, hv, _, hgl, hcap, hcm, hrg⟩
          · have hN0 : N = 0 := by rw [← HN.out]; rfl
            subst hN0
            obtain ⟨rfl, rfl⟩ : ad2 = none ∧ c2 = 0 := by injection hv with h1 h2 h3; exact ⟨h1, h3⟩
            obtain rfl : k = 0 := by omega
            have HR7L : Hid (([] : List Ce).length + [(⟨x, t, a, n, c, u⟩ : Ce)].length ≤ 1000) := Lib.hid (by simp)
            have HM7 : Hid (1 = [(⟨x, t, a, n, c, u⟩ : Ce)].length) := Lib.hid rfl
            go_upto_region 28 with (first
              | (at_builtin; refine append_noneC HN0 _ _ rfl rfl rfl rfl ?_)
              | refine load_ce HOx rfl _ rfl rfl rfl ?_
              | (refine build_ceS (q := ⟨x, t, a, n, c, u⟩) rfl _ rfl rfl (fun W7 HW7 => ?_); have HB7 : Hid (Below wc.heap.size wc W7) := Lib.hid (by rw [HW7.out]; exact (Below.refl _ _).alloc (Nat.le_refl _) _); have HO7 := Lib.hid (HN0.out.below HB7.out); have HR7 : Hid (W7.rangeAt wc.heap.size 0 (flatC [⟨x, t, a, n, c, u⟩])) := Lib.hid (by rw [HW7.out]; exact ceS_new _); have HS7 : Hid (wc.heap.size ≤ W7.heap.size) := Lib.hid HB7.out.size)
              | (at_builtin; refine append_ces HO7 _ _ rfl rfl rfl [⟨x, t, a, n, c, u⟩] rfl HM7 HR7 HR7L HS7 (fun v10 w10 HO10 HG10' HA10 => ?_)))
            obtain ⟨a10, DL, c10, rfl⟩ := HO10.out.slice3
            have HB10 : Hid (Below wc.heap.size wc w10) := Lib.hid (HB7.out.grown HG10'.out HS7.out (fun j hj => (HO7.out.1.lt j hj).1))
            have HC10 := Lib.hid (HCx.out.belowB HB10.out HLTS.out.1)
            have HY10 := Lib.hid (HYx.out.belowB HB10.out HLTS.out.2.1)
            have HZ10 := Lib.hid (HZx.out.belowB HB10.out HLTS.out.2.2.1)
            have HG10 := Lib.hid (HGx.out.belowB HB10.out HLTS.out.2.2.2)
            have h10 := HC10.out.cell 1 _ rfl
            have hf10 := HC10.out.live 1 (by simp)
            clear HB7 HO7 HR7 HS7 HW7 HG10' HA10 HN0 HM7 HR7L hx1
            go_upto_region 29 with (first | (at_builtin; refine append_noneC HO10 _ _ rfl rfl rfl rfl ?_))
            have HFIN : Hid ([] ++ [⟨x, t, a, n, c, u⟩] = insC ⟨x, t, a, n, c, u⟩ []) := Lib.hid (by rw [HPL.out, HK.out]; simp)
            have HRF0 := HO10.out
            rw [HFIN.out] at HRF0
            have HRF := Lib.hid HRF0
            clear HRF0 HO10 HFIN
            have HCs : Hid (CellsAt (w10.setCell ⟨P6, 1, none⟩ (.slice a10 DL c10)) P6 [.int .i64 room, .slice a10 DL c10]) := Lib.hid (HC10.out.set 1 _ (by simp))
            have HRs : Hid (RowC (w10.setCell ⟨P6, 1, none⟩ (.slice a10 DL c10)) wc.heap.size (.slice a10 DL c10) (insC ⟨x, t, a, n, c, u⟩ [])) := Lib.hid (HRF.out.set HLTS.out.1)
            have HYs : Hid (CellsAt (w10.setCell ⟨P6, 1, none⟩ (.slice a10 DL c10)) (P6 + 1) zCc) := Lib.hid (HY10.out.other (by omega) _ _)
            have HZs : Hid (CellsAt (w10.setCell ⟨P6, 1, none⟩ (.slice a10 DL c10)) (P6 + 2) zCe) := Lib.hid (HZ10.out.other (by omega) _ _)
            have HGs : Hid (CellsAt (w10.setCell ⟨P6, 1, none⟩ (.slice a10 DL c10)) P17 (ceL (g.getD noCe))) := Lib.hid (HG10.out.other (by have := HS1.out; have := HSZ4.out; omega) _ _)
            have HBs : Hid (Below P6 w (w10.setCell ⟨P6, 1, none⟩ (.slice a10 DL c10))) := Lib.hid ((HBx.out.trans (HB10.out.mono (by have := HLTS.out.1; omega))).setCell (Nat.le_refl _) _)
            generalize w10.setCell ⟨P6, 1, none⟩ (.slice a10 DL c10) = W11 at *
            clear HC10 HY10 HZ10 HG10 HB10 h10 hf10
            obtain ⟨ge, hge⟩ : ∃ ge, g.getD noCe = ge := ⟨_, rfl⟩
            rw [hge] at HGs
            have HGE := Lib.hid hge
            clear hge
            obtain ⟨S, hS⟩ : ∃ S : World → Prop, (fun W => W.rangeAt P6 0 [.int .i64 room, .slice a10 DL c10] ∧ W.rangeAt P17 0 (ceL ge)) = S := ⟨_, rfl⟩
            have HS0 : Hid (S W11.drew) := Lib.hid (by rw [← hS]; exact ⟨HCs.out.range, HGs.out.range⟩)
            have M1 : Hid (∀ W, S W → W.rangeAt P6 0 [.int .i64 room, .slice a10 DL c10]) := Lib.hid (fun W h => by rw [← hS] at h; exact h.1)
            have M2 : Hid (∀ W, S W → W.rangeAt P17 0 (ceL ge)) := Lib.hid (fun W h => by rw [← hS] at h; exact h.2)
            have HSS : Hid (∀ W B vs, S W → B ≠ P6 → B ≠ P17 → S (W.setCells B 0 vs)) := Lib.hid (fun W B vs h h1 h2 => by rw [← hS] at h ⊢; exact ⟨World.rangeAt_setCells_apart h.1 B 0 vs (.inl (fun e => h1 e.symm)), World.rangeAt_setCells_apart h.2 B 0 vs (.inl (fun e => h2 e.symm))⟩)
            clear hS
            refine wp_region_noPanic ?_
            refine wp_region_held_drew (S := S) (by kernel_rfl) HS0.out (fun hHeld => ?_)
            refine wpAnyH_take (i := 0) rfl (by kernel_rfl) (by kernel_rfl) (by kernel_rfl) (fun _ _ _ h => h) (yieldsIf_load_mid (by rfl) 27 _ rfl P6 0 rfl [.int .i64 room,.slice a10 DL c10] _ M1.out Try.underlying27 rfl (by rw [cc_size]; rfl)) (by assumption) ?_
            try simp only [Act.put, List.getElem_toArray, List.getElem_cons_zero, List.setIfInBounds_toArray, List.set_cons_zero, List.set_cons_succ]
            refine wpAnyH_take (i := 1) rfl (by kernel_rfl) (by kernel_rfl) (by kernel_rfl) (fun _ _ _ h => h) (yieldsIf_load_mid (by rfl) 41 _ rfl P17 0 rfl (ceL ge) _ M2.out Try.underlying41 rfl (by rw [ce_size]; rfl)) (by assumption) ?_
            try simp only [Act.put, List.getElem_toArray, List.getElem_cons_zero, List.getElem_cons_succ, List.setIfInBounds_toArray, List.set_cons_zero, List.set_cons_succ]
            refine wpAnyH_take (i := 2) (v := ?_) rfl (by kernel_rfl) (by kernel_rfl) (by kernel_rfl) (fun _ _ _ h => h) (Or.inl ⟨by rfl, ?_⟩) (by assumption) ?_
            rotate_left
            · (intro w hSw; go_simp; try (with_reducible rfl))
            try simp only [Act.put, List.getElem_toArray, List.getElem_cons_zero, List.getElem_cons_succ, List.setIfInBounds_toArray, List.set_cons_zero, List.set_cons_succ]
            have HYd : Hid (CellsAt W11.drew (P6 + 1) zCc) := Lib.hid (HYs.out.below (Below.refl _ _).drew)
            refine wpAnyH_ready (rs := [3]) (by kernel_rfl) (by simp) ?_
            refine AllReadyH.one rfl rfl (fun K hK => ?_)
            refine wp_store_cc HYd rfl _ _ rfl rfl (vs := [.int .i64 room, .slice a10 DL c10]) rfl rfl rfl (fun V HV HVC => ?_)
            have HZv : Hid (CellsAt V (P6 + 2) zCe) := Lib.hid (by rw [HV.out]; exact (HZs.out.below (Below.refl _ _).drew).apart (by omega) _)
            have HRv : Hid (RowC V wc.heap.size (.slice a10 DL c10) (insC ⟨x, t, a, n, c, u⟩ [])) := Lib.hid (by rw [HV.out]; exact (HRs.out.below (Below.refl _ _).drew).sets HLTS.out.2.1)
            have HBv : Hid (Below P6 w V) := Lib.hid (by rw [HV.out]; exact below_cells (Nat.le_succ _) _ _ _ HBs.out.drew)
            have HSv : Hid (S V) := Lib.hid (by rw [HV.out]; exact HSS.out _ _ _ hHeld (by omega) (by have := HS1.out; have := HSZ4.out; omega))
            refine hK.out _ _ HSv.out (fun hHeld => ?_)
            clear hK K
            try simp only [Act.put]
            refine wpAnyH_ready (rs := [4]) (by kernel_rfl) (by simp) ?_
            refine AllReadyH.one rfl rfl (fun K hK => ?_)
            refine wp_store_ce HZv rfl _ _ rfl rfl (vs := ceL ge) rfl rfl rfl (fun U HU HUC => ?_)
            have HCu : Hid (CellsAt U (P6 + 1) [.int .i64 room, .slice a10 DL c10]) := Lib.hid (by rw [HU.out]; exact HVC.out.apart (by omega) _)
            have HRu : Hid (RowC U wc.heap.size (.slice a10 DL c10) (insC ⟨x, t, a, n, c, u⟩ [])) := Lib.hid (by rw [HU.out]; exact HRv.out.sets HLTS.out.2.2.1)
            have HBu : Hid (Below P6 w U) := Lib.hid (by rw [HU.out]; exact below_cells (by omega) _ _ _ HBv.out)
            have HSu : Hid (S U) := Lib.hid (by rw [HU.out]; exact HSS.out _ _ _ hHeld (by omega) (by have := HS1.out; have := HSZ4.out; omega))
            refine hK.out _ _ HSu.out (fun hHeld => ?_)
            clear hK K
            try simp only [Act.put]
            refine wpAnyH_take (i := 5) (v := ?_) rfl (by kernel_rfl) (by kernel_rfl) (by kernel_rfl) (fun _ _ _ h => h) (Or.inl ⟨by rfl, ?_⟩) (by assumption) ?_
            rotate_left
            · (intro w hSw; go_simp; try (with_reducible rfl))
            try simp only [Act.put, List.getElem_toArray, List.getElem_cons_zero, List.getElem_cons_succ, List.setIfInBounds_toArray, List.set_cons_zero, List.set_cons_succ]
            refine wpAnyH_done (by kernel_rfl) ?_ _
            refine NoPanic.normal ?_
            go_wp2_with fail
            refine bodyPost_ret (results_put Try.results23 rfl rfl HCu.out rfl HUC.out rfl) rfl ⟨.slice a10 DL c10, ?_, HRu.out.mono (Nat.zero_le _), HBu.out⟩
            rw [HGE.out]
            rfl

          · rw [HN.out] at hv hcap
            obtain ⟨rfl, rfl⟩ : ad2 = some ⟨g0, 0, none⟩ ∧ c2 = cap := by injection hv with h1 h2 h3; exact ⟨h1, h3⟩
            have HM1 : Hid (k = (l.take k).length) := Lib.hid (by rw [List.length_take, HN.out]; omega)
            have HR1 := Lib.hid (ce_take hrg k (by rw [HN.out]; omega))
            have HL1 : Hid (([] : List Ce).length + (l.take k).length ≤ 1000) := Lib.hid (by rw [List.length_take, HN.out]; simp; omega)
            have HS1' : Hid (wc.heap.size ≤ wc.heap.size) := Lib.hid (Nat.le_refl _)
            have HRG := Lib.hid hrg
            have HGL := Lib.hid hgl
            have hki : (k : Int) ≤ (N : Int) := by omega
            have hkc : (k : Int) ≤ (c2 : Int) := by omega
            have HL7 : Hid (([] ++ l.take k).length + [(⟨x, t, a, n, c, u⟩ : Ce)].length ≤ 1000) := Lib.hid (by rw [List.nil_append, List.length_take, HN.out]; simp; omega)
            have HM7 : Hid (1 = [(⟨x, t, a, n, c, u⟩ : Ce)].length) := Lib.hid rfl
            have HL9 : Hid (([] ++ l.take k ++ [(⟨x, t, a, n, c, u⟩ : Ce)]).length + (l.drop k).length ≤ 1000) := Lib.hid (by rw [List.nil_append, List.length_append, List.length_take, List.length_drop, HN.out]; simp; omega)
            have HM9 : Hid (N - k = (l.drop k).length) := Lib.hid (by rw [List.length_drop, HN.out])
            clear hv hrg hgl
            go_upto_region 28 with (first
              | (at_builtin; refine append_ces HN0 _ _ rfl rfl rfl (l.take k) rfl HM1 HR1 HL1 HS1' (fun v6 w6 HO6 HG6 HA6 => ?_); have HB6 : Hid (Below wc.heap.size wc w6) := Lib.hid (below_noneC HG6.out); have HOW6 := Lib.hid (HOx.out.below HB6.out); have HS6 : Hid (wc.heap.size ≤ w6.heap.size) := Lib.hid HB6.out.size)
              | refine load_ce HOW6 rfl _ rfl rfl rfl ?_
              | (refine build_ceS (q := ⟨x, t, a, n, c, u⟩) rfl _ rfl rfl (fun W7 HW7 => ?_); have HB7 : Hid (Below w6.heap.size w6 W7) := Lib.hid (by rw [HW7.out]; exact (Below.refl _ _).alloc (Nat.le_refl _) _); have HO7 := Lib.hid (HO6.out.below HB7.out); have HR7 : Hid (W7.rangeAt w6.heap.size 0 (flatC [⟨x, t, a, n, c, u⟩])) := Lib.hid (by rw [HW7.out]; exact ceS_new _); have HS7 := Lib.hid (Nat.le_trans HS6.out HB7.out.size))
              | (at_builtin; refine append_ces HO7 _ _ rfl rfl rfl [⟨x, t, a, n, c, u⟩] rfl HM7 HR7 HL7 HS7 (fun v8 w8 HO8 HG8 HA8 => ?_)))
            have HB8 : Hid (Below wc.heap.size wc w8) := Lib.hid ((HB6.out.trans (HB7.out.mono HS6.out)).grown HG8.out HS7.out (fun j hj => (HO7.out.1.lt j hj).1))
            have HS8 : Hid (wc.heap.size ≤ w8.heap.size) := Lib.hid HB8.out.size
            have h8 := (HCx.out.belowB HB8.out HLTS.out.1).cell 1 _ rfl
            clear HN0 HM1 HR1 HL1 HS1' HG6 HA6 HOW6 HB6 HO6 HS6 HB7 HO7 HR7 HS7 HW7 HG8 HA8 HM7 HL7
            by_cases hcc : c2 = k
            · have HR9 : Hid (w8.rangeAt g0 0 (flatC (l.drop k))) := Lib.hid (by rw [List.drop_eq_nil_of_le (by rw [HN.out]; omega)]; intro j u hu; cases hu)
              have HM9z : Hid (0 = (l.drop k).length) := Lib.hid (by rw [List.length_drop, HN.out]; omega)
              subst hcc
              go_upto_region 29 with (at_builtin; first | (refine append_ces HO8 _ _ rfl rfl rfl (l.drop c2) rfl HM9 HR9 HL9 HS8 (fun v10 w10 HO10 HG10' HA10 => ?_); obtain ⟨a10, DL, c10, rfl⟩ := HO10.out.slice3; have HB10 : Hid (Below wc.heap.size wc w10) := Lib.hid (HB8.out.grown HG10'.out HS8.out (fun j hj => (HO8.out.1.lt j hj).1)); have HC10 := Lib.hid (HCx.out.belowB HB10.out HLTS.out.1); have HY10 := Lib.hid (HYx.out.belowB HB10.out HLTS.out.2.1); have HZ10 := Lib.hid (HZx.out.belowB HB10.out HLTS.out.2.2.1); have HG10 := Lib.hid (HGx.out.belowB HB10.out HLTS.out.2.2.2); have h10 := HC10.out.cell 1 _ rfl; have hf10 := HC10.out.live 1 (by simp)) | (refine append_ces HO8 _ _ rfl rfl rfl (l.drop c2) rfl HM9z HR9 HL9 HS8 (fun v10 w10 HO10 HG10' HA10 => ?_); obtain ⟨a10, DL, c10, rfl⟩ := HO10.out.slice3; have HB10 : Hid (Below wc.heap.size wc w10) := Lib.hid (HB8.out.grown HG10'.out HS8.out (fun j hj => (HO8.out.1.lt j hj).1)); have HC10 := Lib.hid (HCx.out.belowB HB10.out HLTS.out.1); have HY10 := Lib.hid (HYx.out.belowB HB10.out HLTS.out.2.1); have HZ10 := Lib.hid (HZx.out.belowB HB10.out HLTS.out.2.2.1); have HG10 := Lib.hid (HGx.out.belowB HB10.out HLTS.out.2.2.2); have h10 := HC10.out.cell 1 _ rfl; have hf10 := HC10.out.live 1 (by simp)))
              have HFIN : Hid ([] ++ l.take c2 ++ [⟨x, t, a, n, c, u⟩] ++ l.drop c2 = insC ⟨x, t, a, n, c, u⟩ l) := Lib.hid (by rw [HPL.out, HK.out]; simp)
              have HRF0 := HO10.out
              rw [HFIN.out] at HRF0
              have HRF := Lib.hid HRF0
              clear HRF0 HO10 HFIN
              have HCs : Hid (CellsAt (w10.setCell ⟨P6, 1, none⟩ (.slice a10 DL c10)) P6 [.int .i64 room, .slice a10 DL c10]) := Lib.hid (HC10.out.set 1 _ (by simp))
              have HRs : Hid (RowC (w10.setCell ⟨P6, 1, none⟩ (.slice a10 DL c10)) wc.heap.size (.slice a10 DL c10) (insC ⟨x, t, a, n, c, u⟩ l)) := Lib.hid (HRF.out.set HLTS.out.1)
              have HYs : Hid (CellsAt (w10.setCell ⟨P6, 1, none⟩ (.slice a10 DL c10)) (P6 + 1) zCc) := Lib.hid (HY10.out.other (by omega) _ _)
              have HZs : Hid (CellsAt (w10.setCell ⟨P6, 1, none⟩ (.slice a10 DL c10)) (P6 + 2) zCe) := Lib.hid (HZ10.out.other (by omega) _ _)
              have HGs : Hid (CellsAt (w10.setCell ⟨P6, 1, none⟩ (.slice a10 DL c10)) P17 (ceL (g.getD noCe))) := Lib.hid (HG10.out.other (by have := HS1.out; have := HSZ4.out; omega) _ _)
              have HBs : Hid (Below P6 w (w10.setCell ⟨P6, 1, none⟩ (.slice a10 DL c10))) := Lib.hid ((HBx.out.trans (HB10.out.mono (by have := HLTS.out.1; omega))).setCell (Nat.le_refl _) _)
              generalize w10.setCell ⟨P6, 1, none⟩ (.slice a10 DL c10) = W11 at *
              clear HC10 HY10 HZ10 HG10 HB10 h10 hf10
              obtain ⟨ge, hge⟩ : ∃ ge, g.getD noCe = ge := ⟨_, rfl⟩
              rw [hge] at HGs
              have HGE := Lib.hid hge
              clear hge
              obtain ⟨S, hS⟩ : ∃ S : World → Prop, (fun W => W.rangeAt P6 0 [.int .i64 room, .slice a10 DL c10] ∧ W.rangeAt P17 0 (ceL ge)) = S := ⟨_, rfl⟩
              have HS0 : Hid (S W11.drew) := Lib.hid (by rw [← hS]; exact ⟨HCs.out.range, HGs.out.range⟩)
              have M1 : Hid (∀ W, S W → W.rangeAt P6 0 [.int .i64 room, .slice a10 DL c10]) := Lib.hid (fun W h => by rw [← hS] at h; exact h.1)
              have M2 : Hid (∀ W, S W → W.rangeAt P17 0 (ceL ge)) := Lib.hid (fun W h => by rw [← hS] at h; exact h.2)
              have HSS : Hid (∀ W B vs, S W → B ≠ P6 → B ≠ P17 → S (W.setCells B 0 vs)) := Lib.hid (fun W B vs h h1 h2 => by rw [← hS] at h ⊢; exact ⟨World.rangeAt_setCells_apart h.1 B 0 vs (.inl (fun e => h1 e.symm)), World.rangeAt_setCells_apart h.2 B 0 vs (.inl (fun e => h2 e.symm))⟩)
              clear hS
              refine wp_region_noPanic ?_
              refine wp_region_held_drew (S := S) (by kernel_rfl) HS0.out (fun hHeld => ?_)
              refine wpAnyH_take (i := 0) rfl (by kernel_rfl) (by kernel_rfl) (by kernel_rfl) (fun _ _ _ h => h) (yieldsIf_load_mid (by rfl) 27 _ rfl P6 0 rfl [.int .i64 room,.slice a10 DL c10] _ M1.out Try.underlying27 rfl (by rw [cc_size]; rfl)) (by assumption) ?_
              try simp only [Act.put, List.getElem_toArray, List.getElem_cons_zero, List.setIfInBounds_toArray, List.set_cons_zero, List.set_cons_succ]
              refine wpAnyH_take (i := 1) rfl (by kernel_rfl) (by kernel_rfl) (by kernel_rfl) (fun _ _ _ h => h) (yieldsIf_load_mid (by rfl) 41 _ rfl P17 0 rfl (ceL ge) _ M2.out Try.underlying41 rfl (by rw [ce_size]; rfl)) (by assumption) ?_
              try simp only [Act.put, List.getElem_toArray, List.getElem_cons_zero, List.getElem_cons_succ, List.setIfInBounds_toArray, List.set_cons_zero, List.set_cons_succ]
              refine wpAnyH_take (i := 2) (v := ?_) rfl (by kernel_rfl) (by kernel_rfl) (by kernel_rfl) (fun _ _ _ h => h) (Or.inl ⟨by rfl, ?_⟩) (by assumption) ?_
              rotate_left
              · (intro w hSw; go_simp; try (with_reducible rfl))
              try simp only [Act.put, List.getElem_toArray, List.getElem_cons_zero, List.getElem_cons_succ, List.setIfInBounds_toArray, List.set_cons_zero, List.set_cons_succ]
              have HYd : Hid (CellsAt W11.drew (P6 + 1) zCc) := Lib.hid (HYs.out.below (Below.refl _ _).drew)
              refine wpAnyH_ready (rs := [3]) (by kernel_rfl) (by simp) ?_
              refine AllReadyH.one rfl rfl (fun K hK => ?_)
              refine wp_store_cc HYd rfl _ _ rfl rfl (vs := [.int .i64 room, .slice a10 DL c10]) rfl rfl rfl (fun V HV HVC => ?_)
              have HZv : Hid (CellsAt V (P6 + 2) zCe) := Lib.hid (by rw [HV.out]; exact (HZs.out.below (Below.refl _ _).drew).apart (by omega) _)
              have HRv : Hid (RowC V wc.heap.size (.slice a10 DL c10) (insC ⟨x, t, a, n, c, u⟩ l)) := Lib.hid (by rw [HV.out]; exact (HRs.out.below (Below.refl _ _).drew).sets HLTS.out.2.1)
              have HBv : Hid (Below P6 w V) := Lib.hid (by rw [HV.out]; exact below_cells (Nat.le_succ _) _ _ _ HBs.out.drew)
              have HSv : Hid (S V) := Lib.hid (by rw [HV.out]; exact HSS.out _ _ _ hHeld (by omega) (by have := HS1.out; have := HSZ4.out; omega))
              refine hK.out _ _ HSv.out (fun hHeld => ?_)
              clear hK K
              try simp only [Act.put]
              refine wpAnyH_ready (rs := [4]) (by kernel_rfl) (by simp) ?_
              refine AllReadyH.one rfl rfl (fun K hK => ?_)
              refine wp_store_ce HZv rfl _ _ rfl rfl (vs := ceL ge) rfl rfl rfl (fun U HU HUC => ?_)
              have HCu : Hid (CellsAt U (P6 + 1) [.int .i64 room, .slice a10 DL c10]) := Lib.hid (by rw [HU.out]; exact HVC.out.apart (by omega) _)
              have HRu : Hid (RowC U wc.heap.size (.slice a10 DL c10) (insC ⟨x, t, a, n, c, u⟩ l)) := Lib.hid (by rw [HU.out]; exact HRv.out.sets HLTS.out.2.2.1)
              have HBu : Hid (Below P6 w U) := Lib.hid (by rw [HU.out]; exact below_cells (by omega) _ _ _ HBv.out)
              have HSu : Hid (S U) := Lib.hid (by rw [HU.out]; exact HSS.out _ _ _ hHeld (by omega) (by have := HS1.out; have := HSZ4.out; omega))
              refine hK.out _ _ HSu.out (fun hHeld => ?_)
              clear hK K
              try simp only [Act.put]
              refine wpAnyH_take (i := 5) (v := ?_) rfl (by kernel_rfl) (by kernel_rfl) (by kernel_rfl) (fun _ _ _ h => h) (Or.inl ⟨by rfl, ?_⟩) (by assumption) ?_
              rotate_left
              · (intro w hSw; go_simp; try (with_reducible rfl))
              try simp only [Act.put, List.getElem_toArray, List.getElem_cons_zero, List.getElem_cons_succ, List.setIfInBounds_toArray, List.set_cons_zero, List.set_cons_succ]
              refine wpAnyH_done (by kernel_rfl) ?_ _
              refine NoPanic.normal ?_
              go_wp2_with fail
              refine bodyPost_ret (results_put Try.results23 rfl rfl HCu.out rfl HUC.out rfl) rfl ⟨.slice a10 DL c10, ?_, HRu.out.mono (Nat.zero_le _), HBu.out⟩
              rw [HGE.out]
              rfl

            · have HR9 := Lib.hid (range_belowC (ce_drop HRG.out k (by rw [HN.out]; omega)) HB8.out HGL.out)
              go_upto_region 29 with (at_builtin; first | (refine append_ces HO8 _ _ rfl rfl rfl (l.drop k) rfl HM9 HR9 HL9 HS8 (fun v10 w10 HO10 HG10' HA10 => ?_); obtain ⟨a10, DL, c10, rfl⟩ := HO10.out.slice3; have HB10 : Hid (Below wc.heap.size wc w10) := Lib.hid (HB8.out.grown HG10'.out HS8.out (fun j hj => (HO8.out.1.lt j hj).1)); have HC10 := Lib.hid (HCx.out.belowB HB10.out HLTS.out.1); have HY10 := Lib.hid (HYx.out.belowB HB10.out HLTS.out.2.1); have HZ10 := Lib.hid (HZx.out.belowB HB10.out HLTS.out.2.2.1); have HG10 := Lib.hid (HGx.out.belowB HB10.out HLTS.out.2.2.2); have h10 := HC10.out.cell 1 _ rfl; have hf10 := HC10.out.live 1 (by simp)))
              have HFIN : Hid ([] ++ l.take k ++ [⟨x, t, a, n, c, u⟩] ++ l.drop k = insC ⟨x, t, a, n, c, u⟩ l) := Lib.hid (by rw [HPL.out, HK.out]; simp)
              have HRF0 := HO10.out
              rw [HFIN.out] at HRF0
              have HRF := Lib.hid HRF0
              clear HRF0 HO10 HFIN
              have HCs : Hid (CellsAt (w10.setCell ⟨P6, 1, none⟩ (.slice a10 DL c10)) P6 [.int .i64 room, .slice a10 DL c10]) := Lib.hid (HC10.out.set 1 _ (by simp))
              have HRs : Hid (RowC (w10.setCell ⟨P6, 1, none⟩ (.slice a10 DL c10)) wc.heap.size (.slice a10 DL c10) (insC ⟨x, t, a, n, c, u⟩ l)) := Lib.hid (HRF.out.set HLTS.out.1)
              have HYs : Hid (CellsAt (w10.setCell ⟨P6, 1, none⟩ (.slice a10 DL c10)) (P6 + 1) zCc) := Lib.hid (HY10.out.other (by omega) _ _)
              have HZs : Hid (CellsAt (w10.setCell ⟨P6, 1, none⟩ (.slice a10 DL c10)) (P6 + 2) zCe) := Lib.hid (HZ10.out.other (by omega) _ _)
              have HGs : Hid (CellsAt (w10.setCell ⟨P6, 1, none⟩ (.slice a10 DL c10)) P17 (ceL (g.getD noCe))) := Lib.hid (HG10.out.other (by have := HS1.out; have := HSZ4.out; omega) _ _)
              have HBs : Hid (Below P6 w (w10.setCell ⟨P6, 1, none⟩ (.slice a10 DL c10))) := Lib.hid ((HBx.out.trans (HB10.out.mono (by have := HLTS.out.1; omega))).setCell (Nat.le_refl _) _)
              generalize w10.setCell ⟨P6, 1, none⟩ (.slice a10 DL c10) = W11 at *
              clear HC10 HY10 HZ10 HG10 HB10 h10 hf10
              obtain ⟨ge, hge⟩ : ∃ ge, g.getD noCe = ge := ⟨_, rfl⟩
              rw [hge] at HGs
              have HGE := Lib.hid hge
              clear hge
              obtain ⟨S, hS⟩ : ∃ S : World → Prop, (fun W => W.rangeAt P6 0 [.int .i64 room, .slice a10 DL c10] ∧ W.rangeAt P17 0 (ceL ge)) = S := ⟨_, rfl⟩
              have HS0 : Hid (S W11.drew) := Lib.hid (by rw [← hS]; exact ⟨HCs.out.range, HGs.out.range⟩)
              have M1 : Hid (∀ W, S W → W.rangeAt P6 0 [.int .i64 room, .slice a10 DL c10]) := Lib.hid (fun W h => by rw [← hS] at h; exact h.1)
              have M2 : Hid (∀ W, S W → W.rangeAt P17 0 (ceL ge)) := Lib.hid (fun W h => by rw [← hS] at h; exact h.2)
              have HSS : Hid (∀ W B vs, S W → B ≠ P6 → B ≠ P17 → S (W.setCells B 0 vs)) := Lib.hid (fun W B vs h h1 h2 => by rw [← hS] at h ⊢; exact ⟨World.rangeAt_setCells_apart h.1 B 0 vs (.inl (fun e => h1 e.symm)), World.rangeAt_setCells_apart h.2 B 0 vs (.inl (fun e => h2 e.symm))⟩)
              clear hS
              refine wp_region_noPanic ?_
              refine wp_region_held_drew (S := S) (by kernel_rfl) HS0.out (fun hHeld => ?_)
              refine wpAnyH_take (i := 0) rfl (by kernel_rfl) (by kernel_rfl) (by kernel_rfl) (fun _ _ _ h => h) (yieldsIf_load_mid (by rfl) 27 _ rfl P6 0 rfl [.int .i64 room,.slice a10 DL c10] _ M1.out Try.underlying27 rfl (by rw [cc_size]; rfl)) (by assumption) ?_
              try simp only [Act.put, List.getElem_toArray, List.getElem_cons_zero, List.setIfInBounds_toArray, List.set_cons_zero, List.set_cons_succ]
              refine wpAnyH_take (i := 1) rfl (by kernel_rfl) (by kernel_rfl) (by kernel_rfl) (fun _ _ _ h => h) (yieldsIf_load_mid (by rfl) 41 _ rfl P17 0 rfl (ceL ge) _ M2.out Try.underlying41 rfl (by rw [ce_size]; rfl)) (by assumption) ?_
              try simp only [Act.put, List.getElem_toArray, List.getElem_cons_zero, List.getElem_cons_succ, List.setIfInBounds_toArray, List.set_cons_zero, List.set_cons_succ]
              refine wpAnyH_take (i := 2) (v := ?_) rfl (by kernel_rfl) (by kernel_rfl) (by kernel_rfl) (fun _ _ _ h => h) (Or.inl ⟨by rfl, ?_⟩) (by assumption) ?_
              rotate_left
              · (intro w hSw; go_simp; try (with_reducible rfl))
              try simp only [Act.put, List.getElem_toArray, List.getElem_cons_zero, List.getElem_cons_succ, List.setIfInBounds_toArray, List.set_cons_zero, List.set_cons_succ]
              have HYd : Hid (CellsAt W11.drew (P6 + 1) zCc) := Lib.hid (HYs.out.below (Below.refl _ _).drew)
              refine wpAnyH_ready (rs := [3]) (by kernel_rfl) (by simp) ?_
              refine AllReadyH.one rfl rfl (fun K hK => ?_)
              refine wp_store_cc HYd rfl _ _ rfl rfl (vs := [.int .i64 room, .slice a10 DL c10]) rfl rfl rfl (fun V HV HVC => ?_)
              have HZv : Hid (CellsAt V (P6 + 2) zCe) := Lib.hid (by rw [HV.out]; exact (HZs.out.below (Below.refl _ _).drew).apart (by omega) _)
              have HRv : Hid (RowC V wc.heap.size (.slice a10 DL c10) (insC ⟨x, t, a, n, c, u⟩ l)) := Lib.hid (by rw [HV.out]; exact (HRs.out.below (Below.refl _ _).drew).sets HLTS.out.2.1)
              have HBv : Hid (Below P6 w V) := Lib.hid (by rw [HV.out]; exact below_cells (Nat.le_succ _) _ _ _ HBs.out.drew)
              have HSv : Hid (S V) := Lib.hid (by rw [HV.out]; exact HSS.out _ _ _ hHeld (by omega) (by have := HS1.out; have := HSZ4.out; omega))
              refine hK.out _ _ HSv.out (fun hHeld => ?_)
              clear hK K
              try simp only [Act.put]
              refine wpAnyH_ready (rs := [4]) (by kernel_rfl) (by simp) ?_
              refine AllReadyH.one rfl rfl (fun K hK => ?_)
              refine wp_store_ce HZv rfl _ _ rfl rfl (vs := ceL ge) rfl rfl rfl (fun U HU HUC => ?_)
              have HCu : Hid (CellsAt U (P6 + 1) [.int .i64 room, .slice a10 DL c10]) := Lib.hid (by rw [HU.out]; exact HVC.out.apart (by omega) _)
              have HRu : Hid (RowC U wc.heap.size (.slice a10 DL c10) (insC ⟨x, t, a, n, c, u⟩ l)) := Lib.hid (by rw [HU.out]; exact HRv.out.sets HLTS.out.2.2.1)
              have HBu : Hid (Below P6 w U) := Lib.hid (by rw [HU.out]; exact below_cells (by omega) _ _ _ HBv.out)
              have HSu : Hid (S U) := Lib.hid (by rw [HU.out]; exact HSS.out _ _ _ hHeld (by omega) (by have := HS1.out; have := HSZ4.out; omega))
              refine hK.out _ _ HSu.out (fun hHeld => ?_)
              clear hK K
              try simp only [Act.put]
              refine wpAnyH_take (i := 5) (v := ?_) rfl (by kernel_rfl) (by kernel_rfl) (by kernel_rfl) (fun _ _ _ h => h) (Or.inl ⟨by rfl, ?_⟩) (by assumption) ?_
              rotate_left
              · (intro w hSw; go_simp; try (with_reducible rfl))
              try simp only [Act.put, List.getElem_toArray, List.getElem_cons_zero, List.getElem_cons_succ, List.setIfInBounds_toArray, List.set_cons_zero, List.set_cons_succ]
              refine wpAnyH_done (by kernel_rfl) ?_ _
              refine NoPanic.normal ?_
              go_wp2_with fail
              refine bodyPost_ret (results_put Try.results23 rfl rfl HCu.out rfl HUC.out rfl) rfl ⟨.slice a10 DL c10, ?_, HRu.out.mono (Nat.zero_le _), HBu.out⟩
              rw [HGE.out]
              rfl

end Go.Proofs.Ytjmmedpkcedngaa
