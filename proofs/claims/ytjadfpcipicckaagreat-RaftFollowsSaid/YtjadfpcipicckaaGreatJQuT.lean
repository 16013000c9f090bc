/-
  Several texts in one: Slices of numbers that lie in blocks of numbers. Conditions: as each theorem states. Layer 9, in the program: Change. Conditions: the lists can be read.
-/
import Derived.Test.YtjadfpcipicckaaGreatJQuM
import Derived.Deep.RegionHeld3
import Derived.Deep.RegionWith
import Derived.Deep.CutRange
import Derived.Deep.CutBlock
namespace Go.Proofs.YtjadfpcipicckaaGreat.Qu
open Go.RowKit Go.Proofs.YtjadfpcipicckaaGreat.Fld
set_option linter.unusedVariables false

theorem ty_ne {w : World} {B B' : Nat} {cs cs' : Array Value} {ty ty' : TypeId} (h : Blk w B cs ty) (h' : Blk w B' cs' ty') (ht : ty ≠ ty') : B ≠ B' := by
  rintro rfl
  unfold Blk at h h'
  rw [h] at h'
  cases h'
  exact ht rfl
/-- a slice of numbers that lies in a block of numbers -/
def RdT (w : World) (A : Option Addr) (n : Nat) (l : List Int) : Prop := RdI w A n l ∧ ∀ a, A = some a → ∃ cs, Blk w a.block cs 3
theorem RdT.nil (w : World) : RdT w none 0 [] := ⟨RdI.nil _ _, fun a h => by cases h⟩
theorem RdT.below {w w' : World} {A : Option Addr} {n : Nat} {l : List Int} (h : RdT w A n l) (hb : Below w.heap.size w w') : RdT w' A n l :=
  ⟨h.1.below hb, fun a ha => by obtain ⟨cs, hk⟩ := h.2 a ha; exact ⟨cs, hk.below hb⟩⟩
theorem RdT.far {W : World} {A : Option Addr} {n : Nat} {l : List Int} (h : RdT W A n l) {R : Nat} {cs : Array Value} (hb : Blk W R cs 26) (i : Nat) (hi : ∀ c, cs[i]? ≠ some (.int .i64 c)) (v : Value) : RdT (W.setCell ⟨R, i, none⟩ v) A n l :=
  ⟨h.1.far hb i hi v, fun a ha => by obtain ⟨cs, hk⟩ := h.2 a ha; exact ⟨cs, hk.far ⟨R, i, none⟩ (ty_ne hb hk (by decide)) v⟩⟩
theorem RdT.two {W : World} {A : Option Addr} {n : Nat} {l : List Int} (h : RdT W A n l) {R : Nat} {A0 A1 : Option Addr} {n0 n1 c0 c1 : Nat} (hb : Blk W R #[.slice A0 n0 c0, .slice A1 n1 c1] 26) (B0 B1 : Option Addr) (m0 m1 d0 d1 : Nat) : RdT ((W.setCell ⟨R, 0, none⟩ (.slice B0 m0 d0)).setCell ⟨R, 1, none⟩ (.slice B1 m1 d1)) A n l := by
  have k1 : Blk (W.setCell ⟨R, 0, none⟩ (.slice B0 m0 d0)) R #[.slice B0 m0 d0, .slice A1 n1 c1] 26 := by
    have := hb.set 0 (.slice B0 m0 d0) (by simp)
    simpa using this
  exact (h.far hb 0 (by intro c h; cases h) _).far k1 1 (by intro c h; cases h) _
def Slt (w : World) (A : Option Addr) (n cap : Nat) (l : List Int) : Prop := RdT w A n l ∧ (A = none → cap = 0) ∧ n ≤ cap ∧ cap ≤ maxLen
theorem Slt.below {w w' : World} {A : Option Addr} {n cap : Nat} {l : List Int} (h : Slt w A n cap l) (hb : Below w.heap.size w w') : Slt w' A n cap l := ⟨h.1.below hb, h.2⟩
theorem OwnI.typed {w0 w : World} {A : Option Addr} {n cap : Nat} {l : List Int} (h : OwnI w0 w (.slice A n cap) l) : ∀ a, A = some a → ∃ cs, Blk w a.block cs 3 := by
  obtain ⟨h0, h1, h2⟩ := h
  intro a ha
  rcases h2 with ⟨e, _⟩ | ⟨g, cap', cur, e, hg, hh, _⟩
  · injection e with e1; rw [e1] at ha; cases ha
  · injection e with e1; rw [e1] at ha; injection ha with ha; rw [← ha]; exact ⟨cur, hh⟩
theorem OwnI.slt {w0 w : World} {v : Value} {l : List Int} (h : OwnI w0 w v l) (hk : l.length ≤ 1000000) : ∃ A cap, v = .slice A l.length cap ∧ Slt w A l.length cap l := by
  obtain ⟨A, cap, e, h1, h2, h3, h4, _⟩ := h.form hk
  subst e
  exact ⟨A, cap, rfl, ⟨h1, h.typed⟩, h2, h3, h4⟩
theorem Slt.set2 {W : World} {A : Option Addr} {n cap : Nat} {l : List Int} (h : Slt W A n cap l) {R : Nat} {A0 A1 : Option Addr} {n0 n1 c0 c1 : Nat} (hb : Blk W R #[.slice A0 n0 c0, .slice A1 n1 c1] 26) (B0 B1 : Option Addr) (m0 m1 d0 d1 : Nat) : Slt ((W.setCell ⟨R, 0, none⟩ (.slice B0 m0 d0)).setCell ⟨R, 1, none⟩ (.slice B1 m1 d1)) A n cap l := ⟨h.1.two hb B0 B1 m0 m1 d0 d1, h.2⟩
theorem meet5t {w2 W : World} {H n1 n2 : Nat} {A1 A2 : Option Addr} {d1 d2 : Nat} {l1 l2 : List Int} (hk : Blk W H #[.slice none 0 0, .slice none 0 0] 26) (h1 : Slt W A1 n1 d1 l1) (h2 : Slt W A2 n2 d2 l2) (hb : Below w2.heap.size w2 W) (hH : w2.heap.size ≤ H) :
    ∃ H' A1' d1' A2' d2', (Value.pointer (some ⟨H, 0, none⟩)) = .pointer (some ⟨H', 0, none⟩) ∧ Blk ((W.setCell ⟨H, 0, none⟩ (.slice A1 n1 d1)).setCell ⟨H, 1, none⟩ (.slice A2 n2 d2)) H' #[.slice A1' n1 d1', .slice A2' n2 d2'] 26 ∧ Slt ((W.setCell ⟨H, 0, none⟩ (.slice A1 n1 d1)).setCell ⟨H, 1, none⟩ (.slice A2 n2 d2)) A1' n1 d1' l1 ∧ Slt ((W.setCell ⟨H, 0, none⟩ (.slice A1 n1 d1)).setCell ⟨H, 1, none⟩ (.slice A2 n2 d2)) A2' n2 d2' l2 ∧ Below w2.heap.size w2 ((W.setCell ⟨H, 0, none⟩ (.slice A1 n1 d1)).setCell ⟨H, 1, none⟩ (.slice A2 n2 d2)) ∧ w2.heap.size ≤ H' :=
  ⟨H, A1, d1, A2, d2, rfl, two_set hk _ _, h1.set2 hk _ _ _ _ _ _, h2.set2 hk _ _ _ _ _ _, below_set (below_set hb _ hH _) _ hH _, hH⟩
def ChIt (w : World) (r : List Int × List Int × Int) (e : Ending) (w' : World) : Prop := ∃ VA vc LA lc, e = .returned (.tuple #[.agg #[.slice VA r.1.length vc, .slice LA r.2.1.length lc], .int .i64 r.2.2]) ∧ RdT w' VA r.1.length r.1 ∧ RdT w' LA r.2.1.length r.2.1 ∧ Below w.heap.size w w'
theorem ch_endt {w W : World} {R : Nat} (hk : Blk W R #[.slice none 0 0, .slice none 0 0] 26) (hb : Below w.heap.size w W) (hR : w.heap.size ≤ R) {A1 A2 : Option Addr} {n1 n2 d1 d2 : Nat} {l1 l2 : List Int} (h1 : RdT W A1 n1 l1) (h2 : RdT W A2 n2 l2) (er : Int) {r : List Int × List Int × Int} (hr : r = (l1, l2, er)) :
    ChIt w r (.returned (.tuple #[.agg #[.slice A1 n1 d1, .slice A2 n2 d2], .int .i64 er])) ((W.setCell ⟨R, 0, none⟩ (.slice A1 n1 d1)).setCell ⟨R, 1, none⟩ (.slice A2 n2 d2)) := by
  subst hr
  have e1 := h1.1.1
  have e2 := h2.1.1
  subst e1 e2
  exact ⟨A1, d1, A2, d2, rfl, h1.two hk _ _ _ _ _ _, h2.two hk _ _ _ _ _ _, below_set (below_set hb _ hR _) _ hR _⟩
theorem ch_end1t {w W : World} {R H : Nat} (hk : Blk W R #[.slice none 0 0, .slice none 0 0] 26) (hb : Below w.heap.size w W) (hR : w.heap.size ≤ R) {B1 B2 : Option Addr} {m1 m2 b1 b2 : Nat} (hh : Blk W H #[.slice B1 m1 b1, .slice B2 m2 b2] 26) (hne : H ≠ R) (hH : w.heap.size ≤ H) (i : Nat) (hi : i < 2) (s : Value) {A1 A2 : Option Addr} {n1 n2 d1 d2 : Nat} {l1 l2 : List Int} (h1 : RdT W A1 n1 l1) (h2 : RdT W A2 n2 l2) (er : Int) {r : List Int × List Int × Int} (hr : r = (l1, l2, er)) :
    ChIt w r (.returned (.tuple #[.agg #[.slice A1 n1 d1, .slice A2 n2 d2], .int .i64 er])) (((W.setCell ⟨H, i, none⟩ s).setCell ⟨R, 0, none⟩ (.slice A1 n1 d1)).setCell ⟨R, 1, none⟩ (.slice A2 n2 d2)) :=
  have hx : ∀ c, (#[Value.slice B1 m1 b1, Value.slice B2 m2 b2])[i]? ≠ some (.int .i64 c) := by
    intro c h
    have : i = 0 ∨ i = 1 := by omega
    rcases this with rfl | rfl <;> cases h
  ch_endt (hk.far _ hne s) (below_set hb _ hH _) hR (h1.far hh i hx s) (h2.far hh i hx s) er hr
end Go.Proofs.YtjadfpcipicckaaGreat.Qu

namespace Go.Proofs.YtjadfpcipicckaaGreat.Qu
open Go.RowKit Go.Proofs.YtjadfpcipicckaaGreat.Fld
set_option linter.unusedVariables false

set_option maxRecDepth 100000 in
set_option maxHeartbeats 6400000 in
theorem change_t (VA : Option Addr) (vn vc : Nat) (vs : List Int) (LA : Option Addr) (ln lc : Nat) (ls : List Int) (kind x : Int) (w : World) (hv : RdI w VA vn vs) (hl : RdI w LA ln ls) :
    Calls Tryz.prog 24 #[grpV VA vn vc LA ln lc, .int .i64 kind, .int .i64 x] w (ChIt w (chG vs ls kind x)) := by
  have hb0 := alloc_below w (.cells #[.slice VA vn vc, .slice LA ln lc] 26)
  have hb1 : Below w.heap.size w ((w.alloc (.cells #[.slice VA vn vc, .slice LA ln lc] 26)).alloc (.cells #[.slice none 0 0, .slice none 0 0] 26)) := hb0.trans ((alloc_below _ _).mono hb0.size)
  have hk0 := (Blk.new w #[.slice VA vn vc, .slice LA ln lc] 26).past (.cells #[.slice none 0 0, .slice none 0 0] 26)
  have hk1 := Blk.new (w.alloc (.cells #[.slice VA vn vc, .slice LA ln lc] 26)) #[.slice none 0 0, .slice none 0 0] 26
  rw [show (w.alloc (.cells #[.slice VA vn vc, .slice LA ln lc] 26)).heap.size = w.heap.size + 1 by simp] at hk1
  have HR := Lib.hid (right_any VA vn vc vs LA ln lc ls _ (RdI.below hv hb1) (RdI.below hl hb1))
  have HB1 := Lib.hid hb1
  have HK0 := Lib.hid hk0
  have HK1 := Lib.hid hk1
  have HVR := Lib.hid hv
  have HLR := Lib.hid hl
  have HVL := Lib.hid hv.1
  have HLL := Lib.hid hl.1
  have HCG := Lib.hid (@chG_bad vs ls kind x)
  unfold grpV at HR ⊢
  have c0 := hk0.cell 0 (.slice VA vn vc) rfl
  have c1 := hk0.cell 1 (.slice LA ln lc) rfl
  clear hv hl hb0 hb1 hk0 hk1
  go_enter Tryz.func24, Tryz.ntmps24
  go_wp2_with fail
  refine HR.out.mono ?_
  clear HR c0 c1
  rintro e w1 ⟨rfl, hb⟩
  have HK0 := Lib.hid (HK0.out.below hb)
  have HK1 := Lib.hid (HK1.out.below hb)
  have HB1 := Lib.hid (HB1.out.trans (hb.mono HB1.out.size))
  clear hb
  have c0 := HK0.out.cell 0 (.slice VA vn vc) rfl
  have c1 := HK0.out.cell 1 (.slice LA ln lc) rfl
  have r0 := HK1.out.cell 0 (.slice none 0 0) rfl
  have r1 := HK1.out.cell 1 (.slice none 0 0) rfl
  have f0 := HK1.out.free 0
  have f1 := HK1.out.free 1
  have HEND := Lib.hid (fun (t0 : List Int × List Int × Int) (W : World) (KR : Blk W (w.heap.size + 1) #[.slice none 0 0, .slice none 0 0] 26) (hBW : Below w.heap.size w W) (er : Int) (hc : t0 = ([], [], er)) => show ChIt w t0 (.returned (.tuple #[.agg #[.slice none 0 0, .slice none 0 0], .int .i64 er])) ((W.setCell ⟨w.heap.size + 1, 0, none⟩ (.slice none 0 0)).setCell ⟨w.heap.size + 1, 1, none⟩ (.slice none 0 0)) from ⟨none, 0, none, 0, by rw [hc]; rfl, by rw [hc]; exact RdT.nil _, by rw [hc]; exact RdT.nil _, below_set (below_set hBW _ (by simp) _) _ (by simp) _⟩)
  by_cases hbad : ¬ (grpOk vs ls = true ∧ 1 ≤ kind ∧ kind ≤ 3 ∧ 1 ≤ x ∧ x ≤ 15)
  · have HCB := Lib.hid (HCG.out hbad)
    clear HCG
    have hcase : grpOk vs ls = false ∨ grpOk vs ls = true ∧ (kind < 1 ∨ ¬ kind < 1 ∧ (3 < kind ∨ ¬ 3 < kind ∧ (x < 1 ∨ ¬ x < 1 ∧ 15 < x))) := by
      cases hg : grpOk vs ls with
      | false => exact .inl rfl
      | true =>
        refine .inr ⟨rfl, ?_⟩
        have : ¬ (1 ≤ kind ∧ kind ≤ 3 ∧ 1 ≤ x ∧ x ≤ 15) := fun h => hbad ⟨hg, h⟩
        omega
    clear hbad
    generalize grpOk vs ls = gb at *
    rcases hcase with rfl | ⟨rfl, h1 | ⟨h1, h2 | ⟨h2, h3 | ⟨h3, h4⟩⟩⟩⟩
    all_goals
      go_wp2
      refine bodyPost_ret (v := .tuple #[.agg #[.slice none 0 0, .slice none 0 0], .int .i64 1]) ?_ ?_ ?_
      · exact results_two Tryz.results24 _ _ (w.heap.size + 1) 26 #[.slice none 0 0, .slice none 0 0] (0, 0) _ rfl (two_set HK1.out _ _) Tryz.underlying26 rfl (by kernel_rfl)
      · rfl
      · exact HEND.out _ _ HK1.out HB1.out 1 HCB.out
  simp only [Decidable.not_not] at hbad
  obtain ⟨hg, h1, h2, h3, h4⟩ := hbad
  have hl1 := (ok_len hg).1
  have hl2 := (ok_len hg).2
  have HOK := Lib.hid ((grpOk_iff vs ls).1 hg)
  rw [hg]
  have HG := Lib.hid hg
  rw [HVL.out] at hl1
  rw [HLL.out] at hl2
  clear hg HCG
  have g1 : ¬ kind < 1 := by omega
  have g2 : ¬ 3 < kind := by omega
  have g3 : ¬ x < 1 := by omega
  have g4 : ¬ 15 < x := by omega
  have HMY := Lib.hid (fun W (hW : Below w.heap.size w W) => may_any VA vn vc vs LA ln lc ls kind x W (HVR.out.below hW) (HLR.out.below hW))
  have HWV := Lib.hid (fun W (hW : Below w.heap.size w W) => without_any VA vn vc vs x W (HVR.out.below hW) (by omega))
  have HWL := Lib.hid (fun W (hW : Below w.heap.size w W) => without_any LA ln lc ls x W (HLR.out.below hW) (by omega))
  unfold grpV at HMY
  go_wp2_with fail
  refine (HMY.out w1 HB1.out).mono ?_
  rintro e w2 ⟨rfl, hb⟩
  have HK0 := Lib.hid (HK0.out.below hb)
  have HK1 := Lib.hid (HK1.out.below hb)
  have HB1 := Lib.hid (HB1.out.trans (hb.mono HB1.out.size))
  clear hb c0 c1 r0 r1 f0 f1 HMY
  have c0 := HK0.out.cell 0 (.slice VA vn vc) rfl
  have c1 := HK0.out.cell 1 (.slice LA ln lc) rfl
  have r0 := HK1.out.cell 0 (.slice none 0 0) rfl
  have r1 := HK1.out.cell 1 (.slice none 0 0) rfl
  have f0 := HK1.out.free 0
  have f1 := HK1.out.free 1
  cases hm : mayG (hasI vs x) (hasI ls x) vn kind with
  | false =>
    have HCB := Lib.hid (show chG vs ls kind x = ([], [], 7) by
      have hk : kind = 1 ∨ kind = 2 ∨ kind = 3 := by omega
      have hd := HOK.out.2.2.2
      have h0 := HOK.out.1
      unfold mayG at hm
      rcases hk with rfl | rfl | rfl
      · rw [chG_1 HG.out h3 h4]
        rw [if_pos rfl] at hm
        cases hq1 : hasI vs x <;> cases hq2 : hasI ls x <;> simp [hq1, hq2] at hm ⊢
      · rw [chG_2 HG.out h3 h4]
        rw [if_neg (by omega), if_pos rfl] at hm
        rw [hm]
        simp
      · rw [chG_3 HG.out h3 h4]
        rw [if_neg (by omega), if_neg (by omega)] at hm
        have hvn : 0 < vs.length := List.length_pos_iff.2 h0
        rw [HVL.out] at hvn ⊢
        cases hq1 : hasI vs x <;> cases hq2 : hasI ls x <;> simp [hq1, hq2] at hm ⊢
        omega)
    go_wp2
    refine bodyPost_ret (v := .tuple #[.agg #[.slice none 0 0, .slice none 0 0], .int .i64 7]) ?_ ?_ ?_
    · exact results_two Tryz.results24 _ _ (w.heap.size + 1) 26 #[.slice none 0 0, .slice none 0 0] (0, 0) _ rfl (two_set HK1.out _ _) Tryz.underlying26 rfl (by kernel_rfl)
    · rfl
    · exact HEND.out _ _ HK1.out HB1.out 7 HCB.out
  | true =>
    obtain ⟨n1, hn1⟩ : ∃ n1, (remN vs x).length = n1 := ⟨_, rfl⟩
    obtain ⟨n2, hn2⟩ : ∃ n2, (remN ls x).length = n2 := ⟨_, rfl⟩
    have hn1' : n1 ≤ 15 := by rw [← hn1]; exact Nat.le_trans (remN_len _ _) (by rw [HVL.out]; exact hl1)
    have hn2' : n2 ≤ 15 := by rw [← hn2]; exact Nat.le_trans (remN_len _ _) (by rw [HLL.out]; exact hl2)
    have HN1 := Lib.hid hn1
    have HN2 := Lib.hid hn2
    clear hn1 hn2
    have HSV := Lib.hid (fun (W0 W : World) (v : Value) (h : OwnI W0 W v (remN vs x)) => show ∃ A c, v = .slice A n1 c ∧ Slt W A n1 c (remN vs x) by have := h.slt (by rw [HN1.out]; omega); rwa [HN1.out] at this)
    have HSL := Lib.hid (fun (W0 W : World) (v : Value) (h : OwnI W0 W v (remN ls x)) => show ∃ A c, v = .slice A n2 c ∧ Slt W A n2 c (remN ls x) by have := h.slt (by rw [HN2.out]; omega); rwa [HN2.out] at this)
    have HBN := Lib.hid (Below.refl w2.heap.size w2)
    have HCC := Lib.hid (fun W (hW : Below w2.heap.size w2 W) => And.intro ((HK0.out.below hW).cell 0 (.slice VA vn vc) rfl) ((HK0.out.below hW).cell 1 (.slice LA ln lc) rfl))
    have HBT := Lib.hid (fun W (hW : Below w2.heap.size w2 W) => HB1.out.trans (hW.mono HB1.out.size))
    have HRL := Lib.hid (show w.heap.size + 1 < w2.heap.size from HK1.out.lt)
    clear r0 r1 f0 f1
    go_upto_region 5 with fail
    go_cut [8] from 35 to 59 (fun h wx => ∃ H A1 d1 A2 d2, h = .pointer (some ⟨H, 0, none⟩) ∧ Blk wx H #[.slice A1 n1 d1, .slice A2 n2 d2] 26 ∧ Slt wx A1 n1 d1 (remN vs x) ∧ Slt wx A2 n2 d2 (remN ls x) ∧ Below w2.heap.size w2 wx ∧ w2.heap.size ≤ H)
    case first =>
      go_region_held3 (fun w' => w'.cell? ⟨w.heap.size, 0, none⟩ = some (.slice VA vn vc) ∧ w'.cell? ⟨w.heap.size, 1, none⟩ = some (.slice LA ln lc)) (first | exact ⟨by assumption, by assumption⟩ | exact ⟨keep2 (by assumption) (by have a := KH.out.2; have b := HRL.out; (simp <;> omega)), keep2 (by assumption) (by have a := KH.out.2; have b := HRL.out; (simp <;> omega))⟩ | exact ⟨keep2 (((alloc_below _ _).cell (lt_of_cell (by assumption))).trans (by assumption)) (by have a := HBN.out.size; have b := HRL.out; (simp <;> omega)), keep2 (((alloc_below _ _).cell (lt_of_cell (by assumption))).trans (by assumption)) (by have a := HBN.out.size; have b := HRL.out; (simp <;> omega))⟩ | go_keep) (first
        | (go_at_call_of 58 (Value.slice VA vn vc); refine (HWV.out _ (HBT.out _ (by first | exact HBN.out | exact HBN.out.drew | exact HBN.out.alloc HBN.out.size _ | exact HBN.out.drew.alloc HBN.out.size _))).mono ?_; rintro e w5 ⟨v5, rfl, hO⟩; obtain ⟨A1, d1, hv5, hs5⟩ := HSV.out _ _ _ hO; subst hv5; have HS1 := Lib.hid hs5; clear c0 c1; (try clear k0 k1 kf0 kf1); (try (have HS2 := Lib.hid (HS2.out.below ((show Below _ _ _ from by first | exact Below.refl _ _ | exact (Below.refl _ _).drew | exact alloc_below _ _ | exact (alloc_below _ _).drew).trans (hO.1.mono (by first | exact Nat.le_refl _ | simp)))))); (first | (have KH := Lib.hid (And.intro (KH.out.1.below ((show Below _ _ _ from by first | exact Below.refl _ _ | exact (Below.refl _ _).drew | exact alloc_below _ _ | exact (alloc_below _ _).drew).trans (hO.1.mono (by first | exact Nat.le_refl _ | simp)))) KH.out.2)) | (have KH := Lib.hid (And.intro (show Blk _ w2.heap.size #[.slice none 0 0, .slice none 0 0] 26 from Blk.below (Blk.new w2.drew #[.slice none 0 0, .slice none 0 0] 26) hO.1) (show w2.heap.size ≤ w2.heap.size from Nat.le_refl _))) | (have KH := Lib.hid (And.intro (Blk.below (Blk.new _ #[.slice none 0 0, .slice none 0 0] 26) hO.1) (show w2.heap.size ≤ _ by exact HBN.out.size))) | skip); (try (have k0 := KH.out.1.cell 0 (.slice none 0 0) rfl; have k1 := KH.out.1.cell 1 (.slice none 0 0) rfl; have kf0 := KH.out.1.free 0; have kf1 := KH.out.1.free 1)); have HBN := Lib.hid ((show Below w2.heap.size w2 _ from by first | exact HBN.out | exact HBN.out.drew | exact HBN.out.alloc HBN.out.size _ | exact HBN.out.drew.alloc HBN.out.size _).trans (hO.1.mono (by have := HBN.out.size; first | exact this | (simp; done) | (simp; omega)))); obtain ⟨c0, c1⟩ := HCC.out _ HBN.out; clear hO)
        | (go_at_call_of 58 (Value.slice LA ln lc); refine (HWL.out _ (HBT.out _ (by first | exact HBN.out | exact HBN.out.drew | exact HBN.out.alloc HBN.out.size _ | exact HBN.out.drew.alloc HBN.out.size _))).mono ?_; rintro e w6 ⟨v6, rfl, hO⟩; obtain ⟨A2, d2, hv6, hs6⟩ := HSL.out _ _ _ hO; subst hv6; have HS2 := Lib.hid hs6; clear c0 c1; (try clear k0 k1 kf0 kf1); (try (have HS1 := Lib.hid (HS1.out.below ((show Below _ _ _ from by first | exact Below.refl _ _ | exact (Below.refl _ _).drew | exact alloc_below _ _ | exact (alloc_below _ _).drew).trans (hO.1.mono (by first | exact Nat.le_refl _ | simp)))))); (first | (have KH := Lib.hid (And.intro (KH.out.1.below ((show Below _ _ _ from by first | exact Below.refl _ _ | exact (Below.refl _ _).drew | exact alloc_below _ _ | exact (alloc_below _ _).drew).trans (hO.1.mono (by first | exact Nat.le_refl _ | simp)))) KH.out.2)) | (have KH := Lib.hid (And.intro (show Blk _ w2.heap.size #[.slice none 0 0, .slice none 0 0] 26 from Blk.below (Blk.new w2.drew #[.slice none 0 0, .slice none 0 0] 26) hO.1) (show w2.heap.size ≤ w2.heap.size from Nat.le_refl _))) | (have KH := Lib.hid (And.intro (Blk.below (Blk.new _ #[.slice none 0 0, .slice none 0 0] 26) hO.1) (show w2.heap.size ≤ _ by exact HBN.out.size))) | skip); (try (have k0 := KH.out.1.cell 0 (.slice none 0 0) rfl; have k1 := KH.out.1.cell 1 (.slice none 0 0) rfl; have kf0 := KH.out.1.free 0; have kf1 := KH.out.1.free 1)); have HBN := Lib.hid ((show Below w2.heap.size w2 _ from by first | exact HBN.out | exact HBN.out.drew | exact HBN.out.alloc HBN.out.size _ | exact HBN.out.drew.alloc HBN.out.size _).trans (hO.1.mono (by have := HBN.out.size; first | exact this | (simp; done) | (simp; omega)))); obtain ⟨c0, c1⟩ := HCC.out _ HBN.out; clear hO))
      all_goals
        go_wp2_with fail
        go_meet
        first
          | exact meet5t KH.out.1 HS1.out HS2.out HBN.out KH.out.2
          | exact ⟨_, A1, d1, A2, d2, rfl, Blk.new _ _ _, HS1.out.below (alloc_below _ _), HS2.out.below (alloc_below _ _), HBN.out.alloc HBN.out.size _, HBN.out.size⟩
    case rest =>
      obtain ⟨H, A1, d1, A2, d2, rfl, hk, hs1, hs2, hb, hH⟩ := hcut
      have HK1 := Lib.hid (HK1.out.below hb)
      have HBW := Lib.hid (HBT.out wc hb)
      have hR : w.heap.size + 1 < w2.heap.size := HRL.out
      have e1 : ¬ (w.heap.size + 1 = H) := by omega
      have e2 : ¬ (H = w.heap.size + 1) := by omega
      have HH := Lib.hid (show w.heap.size ≤ H by omega)
      have HKH := Lib.hid hk
      have HS1 := Lib.hid hs1
      have HS2 := Lib.hid hs2
      clear c0 c1 hk hs1 hs2 hb hH HWV HWL HSV HSL HCC HBT HRL
      have k0 := HKH.out.cell 0 (.slice A1 n1 d1) rfl
      have k1 := HKH.out.cell 1 (.slice A2 n2 d2) rfl
      have kf0 := HKH.out.free 0
      have kf1 := HKH.out.free 1
      have r0 := HK1.out.cell 0 (.slice none 0 0) rfl
      have r1 := HK1.out.cell 1 (.slice none 0 0) rfl
      have f0 := HK1.out.free 0
      have f1 := HK1.out.free 1
      have hk : kind = 1 ∨ kind = 2 ∨ kind = 3 := by omega
      rcases hk with rfl | rfl | rfl
      · have hbb : hasI vs x = false ∧ hasI ls x = false := by
          unfold mayG at hm
          rw [if_pos rfl] at hm
          simpa using hm
        have HRES := Lib.hid (show chG vs ls 1 x = (remN vs x, insN (remN ls x) x, 0) by rw [chG_1 HG.out h3 h4, hbb.1, hbb.2, if_neg (by simp), ins_rem hbb.2])
        have HWI := Lib.hid (with_any A2 n2 d2 (remN ls x) x wc HS2.out.1.1 (by omega) (remN_pair HOK.out.2.2.1) HS2.out.2.1 HS2.out.2.2.1 HS2.out.2.2.2)
        have hil : (insN (remN ls x) x).length = n2 + 1 := by rw [insN_len, HN2.out]
        have HIL := Lib.hid hil
        clear hm hbb hil
        go_wp2_with fail
        refine HWI.out.mono ?_
        rintro e w7 ⟨v7, rfl, hO⟩
        obtain ⟨A7, d7, hv7, hs7⟩ := hO.slt (by rw [HIL.out]; omega)
        rw [HIL.out] at hv7 hs7
        subst hv7
        have HS7 := Lib.hid hs7.1
        have HS1 := Lib.hid (HS1.out.below hO.1)
        have HS2 := Lib.hid (HS2.out.below hO.1)
        have HKH := Lib.hid (HKH.out.below hO.1)
        have HK1 := Lib.hid (HK1.out.below hO.1)
        have HBW := Lib.hid (HBW.out.trans (hO.1.mono HBW.out.size))
        clear hO hs7 HWI k0 k1 kf0 kf1 r0 r1 f0 f1
        have k0 := HKH.out.cell 0 (.slice A1 n1 d1) rfl
        have k1 := HKH.out.cell 1 (.slice A2 n2 d2) rfl
        have kf0 := HKH.out.free 0
        have kf1 := HKH.out.free 1
        have r0 := HK1.out.cell 0 (.slice none 0 0) rfl
        have r1 := HK1.out.cell 1 (.slice none 0 0) rfl
        have f0 := HK1.out.free 0
        have f1 := HK1.out.free 1
        go_wp2
        refine bodyPost_ret (v := .tuple #[.agg #[.slice A1 n1 d1, .slice A7 (n2 + 1) d7], .int .i64 0]) ?_ ?_ ?_
        · exact results_two Tryz.results24 _ _ (w.heap.size + 1) 26 #[.slice A1 n1 d1, .slice A7 (n2 + 1) d7] (0, 0) _ rfl (two_set (HK1.out.far _ (by exact e2) _) _ _) Tryz.underlying26 rfl (by kernel_rfl)
        · rfl
        · exact ch_end1t HK1.out HBW.out (by omega) HKH.out e2 HH.out 1 (by omega) _ HS1.out.1 HS7.out 0 HRES.out
      · have hbb : hasI ls x = true := by
          unfold mayG at hm
          rw [if_neg (by omega), if_pos rfl] at hm
          exact hm
        have hvv : hasI vs x = false := by
          cases hq : hasI vs x with
          | false => rfl
          | true => exact absurd ((has_iff _ _).1 hbb) (HOK.out.2.2.2 x ((has_iff _ _).1 hq))
        have HRES := Lib.hid (show chG vs ls 2 x = (insN (remN vs x) x, remN ls x, 0) by rw [chG_2 HG.out h3 h4, hbb, if_pos rfl, ins_rem hvv])
        have HWI := Lib.hid (with_any A1 n1 d1 (remN vs x) x wc HS1.out.1.1 (by omega) (remN_pair HOK.out.2.1) HS1.out.2.1 HS1.out.2.2.1 HS1.out.2.2.2)
        have hil : (insN (remN vs x) x).length = n1 + 1 := by rw [insN_len, HN1.out]
        have HIL := Lib.hid hil
        clear hm hbb hvv hil
        go_wp2_with fail
        refine HWI.out.mono ?_
        rintro e w7 ⟨v7, rfl, hO⟩
        obtain ⟨A7, d7, hv7, hs7⟩ := hO.slt (by rw [HIL.out]; omega)
        rw [HIL.out] at hv7 hs7
        subst hv7
        have HS7 := Lib.hid hs7.1
        have HS1 := Lib.hid (HS1.out.below hO.1)
        have HS2 := Lib.hid (HS2.out.below hO.1)
        have HKH := Lib.hid (HKH.out.below hO.1)
        have HK1 := Lib.hid (HK1.out.below hO.1)
        have HBW := Lib.hid (HBW.out.trans (hO.1.mono HBW.out.size))
        clear hO hs7 HWI k0 k1 kf0 kf1 r0 r1 f0 f1
        have k0 := HKH.out.cell 0 (.slice A1 n1 d1) rfl
        have k1 := HKH.out.cell 1 (.slice A2 n2 d2) rfl
        have kf0 := HKH.out.free 0
        have kf1 := HKH.out.free 1
        have r0 := HK1.out.cell 0 (.slice none 0 0) rfl
        have r1 := HK1.out.cell 1 (.slice none 0 0) rfl
        have f0 := HK1.out.free 0
        have f1 := HK1.out.free 1
        go_wp2
        refine bodyPost_ret (v := .tuple #[.agg #[.slice A7 (n1 + 1) d7, .slice A2 n2 d2], .int .i64 0]) ?_ ?_ ?_
        · exact results_two Tryz.results24 _ _ (w.heap.size + 1) 26 #[.slice A7 (n1 + 1) d7, .slice A2 n2 d2] (0, 0) _ rfl (two_set (HK1.out.far _ (by exact e2) _) _ _) Tryz.underlying26 rfl (by kernel_rfl)
        · rfl
        · exact ch_end1t HK1.out HBW.out (by omega) HKH.out e2 HH.out 0 (by omega) _ HS7.out HS2.out.1 0 HRES.out
      · have HRES := Lib.hid (show chG vs ls 3 x = (remN vs x, remN ls x, 0) by
          unfold mayG at hm
          rw [if_neg (by omega), if_neg (by omega)] at hm
          rw [chG_3 HG.out h3 h4, if_neg]
          intro hq
          have hd := HOK.out.2.2.2
          rw [HVL.out] at hq
          cases q1 : hasI vs x <;> cases q2 : hasI ls x <;> simp [q1, q2] at hm hq
          · omega
          · exact hd x ((has_iff _ _).1 q1) ((has_iff _ _).1 q2))
        clear hm
        go_wp2
        refine bodyPost_ret (v := .tuple #[.agg #[.slice A1 n1 d1, .slice A2 n2 d2], .int .i64 0]) ?_ ?_ ?_
        · exact results_two Tryz.results24 _ _ (w.heap.size + 1) 26 #[.slice A1 n1 d1, .slice A2 n2 d2] (0, 0) _ rfl (two_set HK1.out _ _) Tryz.underlying26 rfl (by kernel_rfl)
        · rfl
        · exact ch_endt HK1.out HBW.out (by omega) HS1.out.1 HS2.out.1 0 HRES.out
end Go.Proofs.YtjadfpcipicckaaGreat.Qu
