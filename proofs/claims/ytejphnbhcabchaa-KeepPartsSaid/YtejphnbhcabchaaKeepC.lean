/-
  Layer 7: hard states, saved: save and SaveHard. Conditions: the disk lies in memory as it was made.
-/
import Derived.Test.YtejphnbhcabchaaKeepB
namespace Go.Proofs.Ytejphnbhcabchaa.Kp
open Go.RowKit Go.Proofs.Ytejphnbhcabchaa.Dk Go.Proofs.Ytejphnbhcabchaa.Fld
set_option linter.unusedVariables false

theorem hardC_len (m n : Nat) (hm : m ≤ 1099511627776) (hn : n ≤ 15) : (hardC m n).length ≤ 18 := by
  have h1 := digs_len8 m (by omega)
  have h2 := digs_len8 n (by omega)
  unfold hardC
  rw [List.length_append, code_len, code_len]
  omega
/-- what SaveHard answers, and makes of the disk -/
def stHard (a b : Int) (t : St) : Int × St := if hardOk a b then stWrite hardN (Rc.recd (hardC a.toNat b.toNat)) t else (1, t)
set_option maxRecDepth 100000 in
set_option maxHeartbeats 1600000 in
theorem save_any (g b : Nat) (m : List Ent) (t : St) (p q : Int) (w : World) (h : Im w g b m t) (hm : t.fs.length ≤ 900000) :
    Calls Try.prog 16 #[.pointer (some ⟨g, 0, none⟩), .string ⟨#[104, 97, 114, 100]⟩, hardV p q, .func (.func 17) #[] #[]] w (Did w g b m (stHard p q t)) := by
  have HB := Lib.hid (alloc_below w (.cells #[.int .i64 p, .int .i64 q] 46))
  have HE := Lib.hid (encodeHard_any p q (w.alloc (.cells #[.int .i64 p, .int .i64 q] 46)))
  have HI := Lib.hid h
  unfold stHard
  cases hok : hardOk p q with
  | false =>
    rw [hok] at HE
    unfold hardV at HE ⊢
    clear h
    go_enter Try.func16, Try.ntmps16
    go_wp2_with fail
    refine HE.out.mono ?_
    rintro e w1 ⟨rfl, hb1⟩
    have HB1 := Lib.hid (HB.out.trans (hb1.mono HB.out.size))
    clear hb1
    go_wp2
    go_ret
    exact ⟨rfl, m, HI.out.below HB1.out, LeftM.below HB1.out⟩
  | true =>
    rw [hok] at HE
    unfold hardV at HE ⊢
    have HLN := Lib.hid (show (hardC p.toNat q.toNat).length ≤ 18 by
      obtain ⟨m', n', rfl, rfl, hm, hn⟩ := hard_nat hok
      exact hardC_len _ _ (by omega) (by omega))
    clear hok h
    rw [if_pos rfl]
    generalize hardC p.toNat q.toNat = zs at *
    go_enter Try.func16, Try.ntmps16
    go_wp2_with fail
    refine HE.out.mono ?_
    rintro e w1 ⟨v1, rfl, hO1⟩
    obtain ⟨A1, c1, rfl, hs1, _⟩ := hO1.sl _ rfl
    have HB1 := Lib.hid (HB.out.trans (hO1.1.mono HB.out.size))
    have HP := Lib.hid (Rc.put_ok A1 _ c1 zs w1 hs1.1 hs1.2.2.2.1 (by have := HLN.out; omega))
    clear hs1 hO1 HE
    go_wp2_with fail
    refine HP.out.mono ?_
    rintro e w2 ⟨v2, rfl, hO2⟩
    obtain ⟨A2, c2, rfl, hs2, hf2⟩ := hO2.sl _ rfl
    have HI2 := Lib.hid (HI.out.below (HB1.out.trans (hO2.1.mono HB1.out.size)))
    have HL2 := Lib.hid (LeftM.below (g := g) (b := b) (m := m) (HB1.out.trans (hO2.1.mono HB1.out.size)))
    have HAP := Lib.hid (apart_new (HI.out.below HB1.out) hs2.1 hf2)
    have HW := Lib.hid (write_any g b m t hardN A2 _ c2 _ w2 HI2.out (by decide) hm HAP.out hs2.2.2.2.1 (by rw [Rc.recd_len]; have := HLN.out; omega))
    clear hs2 hO2 hf2 HP HAP
    go_wp2_with fail
    refine HW.out.mono ?_
    rintro e w3 ⟨rfl, m3, hI3, hL3⟩
    have HD := Lib.hid (show Dk.Left w g b m (stWrite hardN (Rc.recd zs) t).2 w3 from ⟨m3, hI3, HL2.out.trans hL3⟩)
    clear hI3 hL3 HW
    generalize stWrite hardN (Rc.recd zs) t = R at *
    go_wp2
    go_ret
    exact ⟨rfl, HD.out⟩
set_option maxRecDepth 100000 in
theorem saveHard_any (g b : Nat) (m : List Ent) (t : St) (p q : Int) (w : World) (h : Im w g b m t) (hm : t.fs.length ≤ 900000) :
    Calls Try.prog 13 #[.pointer (some ⟨g, 0, none⟩), hardV p q] w (Did w g b m (stHard p q t)) := by
  have HB := alloc_below w (.cells #[.int .i64 p, .int .i64 q] 46)
  have HS := Lib.hid (save_any g b m t p q _ (h.below HB) hm)
  have HL := Lib.hid (LeftM.below (g := g) (b := b) (m := m) HB)
  unfold hardV at HS ⊢
  clear h HB
  generalize stHard p q t = R at *
  go_enter Try.func13, Try.ntmps13
  go_wp2_with fail
  refine HS.out.mono ?_
  rintro e w3 ⟨rfl, m3, hI3, hL3⟩
  have HD := Lib.hid (show Dk.Left w g b m R.2 w3 from ⟨m3, hI3, HL.out.trans hL3⟩)
  clear hI3 hL3
  go_wp2
  go_ret
  exact ⟨rfl, HD.out⟩
end Go.Proofs.Ytejphnbhcabchaa.Kp
