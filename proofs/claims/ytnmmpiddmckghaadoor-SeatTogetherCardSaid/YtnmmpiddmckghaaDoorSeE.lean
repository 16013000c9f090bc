/-
  Layer 13: Beside of the program. Conditions: the groups can be read.
-/
import Derived.Test.YtnmmpiddmckghaaDoorSeD
namespace Go.Proofs.YtnmmpiddmckghaaDoor.Se
open Go.RowKit Go.Proofs.YtnmmpiddmckghaaDoor.Qu Go.Proofs.YtnmmpiddmckghaaDoor.Fld
set_option linter.unusedVariables false

/-- a slice that the call made: new, of such numbers -/
def NewI (w : World) (l : List Int) (e : Ending) (w' : World) : Prop := ∃ v, e = .returned v ∧ OwnI w w' v l
set_option maxRecDepth 100000 in
set_option maxHeartbeats 3200000 in
theorem beside_any (r : Int) (A : Option Addr) (n c : Nat) (gs : List Int) (x : Int) (w : World) (hr : RdI w A n gs) :
    Calls Tryd.prog 11 #[layV r A n c, .int .i64 x] w (NewI w (besL r gs x)) := by
  have hb := alloc_below w (layO r A n c)
  have HB := Lib.hid hb
  have HK := Lib.hid (layO_blk w r A n c)
  have hr' := RdI.below hr hb
  have HH := Lib.hid (has_any r A n c gs x (w.alloc (layO r A n c)) hr')
  have HR := Lib.hid hr'
  have hgl := hr'.1
  have HQ := Lib.hid (show besL r gs x = if inS r gs x = true then (if fst gs x < x then [x - 1] else []) ++ (if x + 1 < bhd gs x then [x + 1] else []) else [] by unfold besL inS; simp)
  have HIN := Lib.hid (show inS r gs x = true → 0 ≤ x ∧ x < cntS r gs by unfold inS; simp)
  have hcb := (cnt_bd r gs).2
  unfold layO at *
  generalize besL r gs x = L at *
  clear hr hb hr'
  have c0 := HK.out.cell 0 (.int .i64 r) rfl
  have c1 := HK.out.cell 1 (.slice A n c) rfl
  cases hin : inS r gs x with
  | false =>
    have HF := Lib.hid (show L = [] by rw [HQ.out, hin]; rfl)
    rw [hin] at HH
    unfold layV at *
    clear HQ HIN hin
    go_enter Tryd.func11, Tryd.ntmps11
    go_wp2_with fail
    refine HH.out.mono ?_
    rintro e w1 ⟨rfl, hb1⟩
    have HB1 := Lib.hid (HB.out.trans (hb1.mono HB.out.size))
    clear hb1
    go_wp2
    go_ret
    exact ⟨_, rfl, by rw [HF.out]; exact OwnI.nil _ _ HB1.out⟩
  | true =>
    rw [hin] at HH
    obtain ⟨hx0, hx1⟩ := HIN.out hin
    obtain ⟨hl, _⟩ := lay_cnt hx0 hx1
    obtain ⟨k1, k2, k3, k4, k5, k6, k7⟩ := lay_of hl
    have HF := Lib.hid (show L = (if fst gs x < x then [x - 1] else []) ++ (if x + 1 < bhd gs x then [x + 1] else []) by rw [HQ.out, hin]; rfl)
    have HG := Lib.hid (fun (w2 : World) (h2 : RdI w2 A n gs) => group_any r A n c gs x w2 h2 k5 (by omega) k7 hx0 (by omega))
    obtain ⟨f1, f2, f3, f4, f5⟩ := fst_bd k5 k7 hx0
    have hx9 : x ≤ 600 := by omega
    have f9 := bhd_cnt hx0 hx1
    have f10 : bhd gs x ≤ 600 := by omega
    clear HQ HIN hin hx1 hl k5 f4 f5 f9
    generalize fst gs x = F at *
    generalize bhd gs x = B at *
    unfold layV at *
    go_enter Tryd.func11, Tryd.ntmps11
    go_wp2_with fail
    refine HH.out.mono ?_
    rintro e w1 ⟨rfl, hb1⟩
    have HB1 := Lib.hid (HB.out.trans (hb1.mono HB.out.size))
    have K1 := HK.out.below hb1
    have HR1 := Lib.hid (RdI.below HR.out hb1)
    clear hb1 c0 c1 HK HR HH
    have c0 := K1.cell 0 (.int .i64 r) rfl
    have c1 := K1.cell 1 (.slice A n c) rfl
    go_wp2_with fail
    refine (HG.out _ HR1.out).mono ?_
    rintro e w2 ⟨rfl, hb2⟩
    have HB2 := Lib.hid (HB1.out.trans (hb2.mono HB1.out.size))
    clear hb2 c0 c1 K1 HG HR1 HB1 HB
    have HO := Lib.hid (OwnI.nil w w2 HB2.out)
    by_cases h1 : F < x
    · by_cases h2 : x + 1 < B
      · have HF1 := Lib.hid (show L = [] ++ [x - 1] ++ [x + 1] by rw [HF.out, if_pos h1, if_pos h2]; rfl)
        clear HF
        go_wp2_with (at_builtin; first | (refine wpList_append_ints rfl _ _ rfl w _ [] rfl (HO.out.below (alloc_below w2 _)) _ 1 1 [x - 1] rfl (fun h => by cases h) (rdI_one w2 (x - 1)) (by simp) ?_; intro v3 w3 hO3 _; have HO3 := Lib.hid hO3; clear hO3) | (refine wpList_append_ints rfl _ _ rfl w v3 ([] ++ [x - 1]) rfl (HO3.out.below (alloc_below w3 _)) _ 1 1 [x + 1] rfl (fun h => by cases h) (rdI_one w3 (x + 1)) (by simp) ?_; intro v4 w4 hO4 _; have HO4 := Lib.hid hO4; clear hO4))
        go_ret
        exact ⟨_, rfl, by rw [HF1.out]; exact HO4.out⟩
      · have HF1 := Lib.hid (show L = [] ++ [x - 1] by rw [HF.out, if_pos h1, if_neg h2]; rfl)
        clear HF
        go_wp2_with (at_builtin; refine wpList_append_ints rfl _ _ rfl w _ [] rfl (HO.out.below (alloc_below w2 _)) _ 1 1 [x - 1] rfl (fun h => by cases h) (rdI_one w2 (x - 1)) (by simp) ?_; intro v3 w3 hO3 _; have HO3 := Lib.hid hO3; clear hO3)
        go_ret
        exact ⟨_, rfl, by rw [HF1.out]; exact HO3.out⟩
    · by_cases h2 : x + 1 < B
      · have HF1 := Lib.hid (show L = [] ++ [x + 1] by rw [HF.out, if_neg h1, if_pos h2])
        clear HF
        go_wp2_with (at_builtin; refine wpList_append_ints rfl _ _ rfl w _ [] rfl (HO.out.below (alloc_below w2 _)) _ 1 1 [x + 1] rfl (fun h => by cases h) (rdI_one w2 (x + 1)) (by simp) ?_; intro v3 w3 hO3 _; have HO3 := Lib.hid hO3; clear hO3)
        go_ret
        exact ⟨_, rfl, by rw [HF1.out]; exact HO3.out⟩
      · have HF1 := Lib.hid (show L = [] by rw [HF.out, if_neg h1, if_neg h2]; rfl)
        clear HF
        go_wp2
        go_ret
        exact ⟨_, rfl, by rw [HF1.out]; exact HO.out⟩
end Go.Proofs.YtnmmpiddmckghaaDoor.Se
