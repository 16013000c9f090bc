/-
  That the law KeepApart answers true and leaves all memory that was there as it was. Conditions: the arguments can be read.
-/
import Derived.Test.YtejphnbhcabchaaGreatSnapRt
import Derived.Test.YtejphnbhcabchaaGreatKeepOne
import Derived.Test.YtejphnbhcabchaaGreatKeepAw
namespace Go.Proofs.YtejphnbhcabchaaGreat.Kp
open Go.RowKit Go.Proofs.YtejphnbhcabchaaGreat.Dk Go.Proofs.YtejphnbhcabchaaGreat.Fld
set_option linter.unusedVariables false

set_option maxRecDepth 100000 in
set_option maxHeartbeats 1600000 in
theorem saveS_bad (g b : Nat) (m : List Ent) (t : St) (i t' : Int) (VA : Option Addr) (vn vc : Nat) (vs : List Int) (LA : Option Addr) (ln lc : Nat) (ls : List Int) (DA : Option Addr) (dn dc : Nat) (ds : List Int) (w : World) (h : Im w g b m t) (hv : RdI w VA vn vs) (hl : RdI w LA ln ls) (hd : Rd w DA dn ds) (hD : DA = none → dc = 0) (hok : snapOk i t' vs ls dn = false) :
    Calls Tryz.prog 41 #[.pointer (some ⟨g, 0, none⟩), .string ⟨#[115, 110, 97, 112]⟩, snapV i t' (.slice VA vn vc) (.slice LA ln lc) (.slice DA dn dc), .func (.func 31) #[] #[]] w (Did w g b m (1, t)) := by
  have HB := Lib.hid (alloc_below w (.cells #[.int .i64 i, .int .i64 t', .slice VA vn vc, .slice LA ln lc, .slice DA dn dc] 38))
  have HE := Lib.hid (encode_any i t' VA vn vc vs LA ln lc ls DA dn dc ds _ (RdI.below hv HB.out) (RdI.below hl HB.out) (hd.below HB.out) hD)
  have HI := Lib.hid h
  rw [hok] at HE
  unfold snapV at HE ⊢
  clear h hv hl hd hD hok
  go_enter Tryz.func41, Tryz.ntmps41
  go_wp2_with fail
  refine HE.out.mono ?_
  rintro e w1 ⟨rfl, hb1⟩
  have HB1 := Lib.hid (HB.out.trans (hb1.mono HB.out.size))
  clear hb1
  go_wp2
  go_ret
  exact ⟨rfl, m, HI.out.below HB1.out, LeftM.below HB1.out⟩
set_option maxRecDepth 100000 in
theorem saveSnap_bad (g b : Nat) (m : List Ent) (t : St) (i t' : Int) (VA : Option Addr) (vn vc : Nat) (vs : List Int) (LA : Option Addr) (ln lc : Nat) (ls : List Int) (DA : Option Addr) (dn dc : Nat) (ds : List Int) (w : World) (h : Im w g b m t) (hv : RdI w VA vn vs) (hl : RdI w LA ln ls) (hd : Rd w DA dn ds) (hD : DA = none → dc = 0) (hok : snapOk i t' vs ls dn = false) :
    Calls Tryz.prog 13 #[.pointer (some ⟨g, 0, none⟩), snapV i t' (.slice VA vn vc) (.slice LA ln lc) (.slice DA dn dc)] w (Did w g b m (1, t)) := by
  have HB := alloc_below w (.cells #[.int .i64 i, .int .i64 t', .slice VA vn vc, .slice LA ln lc, .slice DA dn dc] 38)
  have HS := Lib.hid (saveS_bad g b m t i t' VA vn vc vs LA ln lc ls DA dn dc ds _ (h.below HB) (RdI.below hv HB) (RdI.below hl HB) (hd.below HB) hD hok)
  have HL := Lib.hid (LeftM.below (g := g) (b := b) (m := m) HB)
  unfold snapV at HS ⊢
  clear h HB hv hl hd hD hok
  go_enter Tryz.func13, Tryz.ntmps13
  go_wp2_with fail
  refine HS.out.mono ?_
  rintro e w3 ⟨rfl, m3, hI3, hL3⟩
  have HD := Lib.hid (show Dk.Left w g b m t w3 from ⟨m3, hI3, HL.out.trans hL3⟩)
  clear hI3 hL3
  go_wp2
  go_ret
  exact ⟨rfl, HD.out⟩
/-- SaveSnap, whatever it is asked to save, on a disk that is calm and has room -/
theorem saveSnap_calm (g b : Nat) (m : List Ent) (t : St) (i t' : Int) (VA : Option Addr) (vn vc : Nat) (vs : List Int) (LA : Option Addr) (ln lc : Nat) (ls : List Int) (DA : Option Addr) (dn dc : Nat) (ds : List Int) (w : World) (h : Im w g b m t) (hv : RdI w VA vn vs) (hl : RdI w LA ln ls) (hd : Rd w DA dn ds) (hD : DA = none → dc = 0) (hC : Clm t) (hr : total t.fs + 60508 ≤ t.room) (hm : t.fs.length ≤ 900000) :
    Calls Tryz.prog 13 #[.pointer (some ⟨g, 0, none⟩), snapV i t' (.slice VA vn vc) (.slice LA ln lc) (.slice DA dn dc)] w fun e w' =>
      (e = .returned (.int .i64 1) ∧ Dk.Left w g b m t w' ∧ snapOk i t' vs ls dn = false) ∨
      (∃ (x : Sp) (u : St), e = .returned (.int .i64 0) ∧ Dk.Left w g b m u w' ∧ x.ok = true ∧ Wrote snapN (Rc.recd x.code) t u ∧ total u.fs ≤ total t.fs + 60508 ∧ u.fs.length ≤ t.fs.length + 3 ∧ i = x.i ∧ t' = x.t ∧ vs = ints x.vs ∧ ls = ints x.ls ∧ ds = x.ds) := by
  cases hok : snapOk i t' vs ls dn with
  | false =>
    refine (saveSnap_bad g b m t i t' VA vn vc vs LA ln lc ls DA dn dc ds w h hv hl hd hD hok).mono ?_
    rintro e w' ⟨he, hL⟩
    exact .inl ⟨he, hL, rfl⟩
  | true =>
    obtain ⟨a, c, v, l, rfl, rfl, rfl, rfl, h1, h2, h3, h4, h5, h6, h7⟩ := snap_nat hok
    have hvn : v.length = vn := by rw [← ints_len]; exact hv.1
    have hln : l.length = ln := by rw [← ints_len]; exact hl.1
    have hdn : ds.length = dn := hd.1
    have hxo : (⟨a, c, v, l, ds⟩ : Sp).ok = true := by unfold Sp.ok; simp only; rw [hdn]; exact hok
    subst hvn hln hdn
    have hS := saveSnap_any g b m t ⟨a, c, v, l, ds⟩ VA LA DA vc lc dc w h ⟨hv, hl, hd, hD⟩ hm
    obtain ⟨u, e1, hW, hT⟩ := snap_writes h.good hC hxo hd.2.2.1 hr
    have hlen : u.fs.length ≤ t.fs.length + 3 := by
      have h8 := write_le snapN (Rc.recd (⟨a, c, v, l, ds⟩ : Sp).code) t
      have e2 : stSnap ⟨a, c, v, l, ds⟩ t = stWrite snapN (Rc.recd (⟨a, c, v, l, ds⟩ : Sp).code) t := by unfold stSnap; rw [if_pos hxo]
      rw [← e2, e1] at h8
      exact h8
    rw [e1] at hS
    refine hS.mono ?_
    rintro e w' ⟨he, hL⟩
    exact .inr ⟨⟨a, c, v, l, ds⟩, u, he, hL, hxo, hW, hT, hlen, rfl, rfl, rfl, rfl, rfl⟩
/-- SaveHard likewise -/
theorem saveHard_calm (g b : Nat) (m : List Ent) (t : St) (p q : Int) (w : World) (h : Im w g b m t) (hC : Clm t) (hr : total t.fs + 26 ≤ t.room) (hm : t.fs.length ≤ 900000) :
    Calls Tryz.prog 11 #[.pointer (some ⟨g, 0, none⟩), hardV p q] w fun e w' =>
      (e = .returned (.int .i64 1) ∧ Dk.Left w g b m t w') ∨
      (∃ u : St, e = .returned (.int .i64 0) ∧ Dk.Left w g b m u w' ∧ hardOk p q = true ∧ Wrote hardN (Rc.recd (hardC p.toNat q.toNat)) t u ∧ total u.fs ≤ total t.fs + 26 ∧ u.fs.length ≤ t.fs.length + 3) := by
  have hS := saveHard_any g b m t p q w h hm
  cases hok : hardOk p q with
  | false =>
    rw [show stHard p q t = (1, t) by unfold stHard; rw [hok]; rfl] at hS
    refine hS.mono ?_
    rintro e w' ⟨he, hL⟩
    exact .inl ⟨he, hL⟩
  | true =>
    obtain ⟨u, e1, hW, hT⟩ := hard_writes h.good hC hok hr
    have hlen : u.fs.length ≤ t.fs.length + 3 := by
      have h8 := write_le hardN (Rc.recd (hardC p.toNat q.toNat)) t
      have e2 : stHard p q t = stWrite hardN (Rc.recd (hardC p.toNat q.toNat)) t := by unfold stHard; rw [if_pos hok]
      rw [← e2, e1] at h8
      exact h8
    rw [e1] at hS
    refine hS.mono ?_
    rintro e w' ⟨he, hL⟩
    exact .inr ⟨u, he, hL, rfl, hW, hT, hlen⟩
end Go.Proofs.YtejphnbhcabchaaGreat.Kp
