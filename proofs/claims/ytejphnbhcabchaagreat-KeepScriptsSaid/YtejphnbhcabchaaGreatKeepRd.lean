/-
  Layer 7: the document's own read, over the document's own disk: the content of a file's one record. Conditions: the disk lies in memory as it was made.
-/
import Derived.Test.YtejphnbhcabchaaGreatKeepRw
import Derived.Test.YtejphnbhcabchaaGreatKeepE
import Derived.Test.YtejphnbhcabchaaGreatKeepRs
namespace Go.Proofs.YtejphnbhcabchaaGreat.Kp
open Go.RowKit Go.Proofs.YtejphnbhcabchaaGreat.Dk Go.Proofs.YtejphnbhcabchaaGreat.Fld
set_option linter.unusedVariables false

/-- what read tells: the content, whether there is a file, what was amiss -/
def rdB (r : Int × List Int) : List Int × Bool × Int :=
  if r.1 = 2 then ([], false, 0) else if r.1 ≠ 0 then ([], false, r.1) else match single r.2 with | some c => (c, true, 0) | none => ([], true, 6)
def ReadB (w : World) (q : List Int × Bool × Int) (e : Ending) (w' : World) : Prop := ∃ A n c, e = .returned (.tuple #[.slice A n c, .bool q.2.1, .int .i64 q.2.2]) ∧ Rd w' A n q.1 ∧ (A = none → c = 0) ∧ n ≤ c ∧ n ≤ 16777216 ∧ Below w.heap.size w w'
set_option maxRecDepth 100000 in
set_option maxHeartbeats 3200000 in
theorem rread_b (r : Nat) (lv : Value) (m : List Ent) (t : St) (s : ByteArray) (w : World) (h : Rf w r lv m t) (hm : t.fs.length ≤ 1000000) (hs : s.size ≤ maxLen) :
    Calls Tryz.prog 52 #[.pointer (some ⟨r, 0, none⟩), .string s] w (ReadB w (rdB (stRead s.data.toList t))) := by
  have HR := Lib.hid (rread_any r lv m t s w h hm hs)
  clear h
  generalize stRead s.data.toList t = q at *
  obtain ⟨c, zs⟩ := q
  have HF := Lib.hid (show rdB (c, zs) = if c = 2 then ([], false, 0) else if c ≠ 0 then ([], false, c) else match single zs with | some c => (c, true, 0) | none => ([], true, 6) from rfl)
  generalize rdB (c, zs) = Q at *
  go_enter Tryz.func52, Tryz.ntmps52
  go_wp2_with fail
  refine HR.out.mono ?_
  clear HR
  rintro e w1 ⟨A, n, cap, rfl, hs1, hn1, hb1⟩
  simp only at hs1 ⊢
  have HB1 := Lib.hid hb1
  have HL := Lib.hid hs1.1.1
  have HBY := Lib.hid hs1.1.2.2.1
  have HS := Lib.hid (Rc.refscan_cap A n cap zs w1 (Rc.Sl.of hs1) (by omega))
  clear hs1 hb1
  by_cases h2 : c = 2
  · subst h2
    rw [if_pos rfl] at HF
    go_wp2
    go_ret3
    exact ⟨none, 0, 0, by rw [HF.out]; rfl, by rw [HF.out]; exact Rd.nil _, fun _ => rfl, by omega, by omega, HB1.out⟩
  rw [if_neg h2] at HF
  by_cases h0 : c = 0
  · subst h0
    rw [if_neg (by simp)] at HF
    go_wp2_with fail
    refine HS.out.mono ?_
    clear HS
    rintro e w2 ⟨ts, v, rfl, hsc, hrows, hb2⟩
    have hu := hsc.used.2
    have hge := Rc.recs_ge ts
    rw [HL.out] at hu
    have HSC := Lib.hid hsc
    have HRL := Lib.hid hrows
    obtain ⟨B, c1, hvB, _, _, _⟩ := Rc.rows_rdl hrows.1 (by unfold maxLen; omega)
    subst hvB
    have HB2 := Lib.hid (HB1.out.trans (hb2.mono HB1.out.size))
    clear hsc hrows hb2
    by_cases h1 : ts.length = 1
    · by_cases h3 : (Rc.recs ts).length = n
      · have HX := Lib.hid (single_some HSC.out h1 (by rw [HL.out]; exact h3))
        have HLEN := Lib.hid (single_len HX.out)
        obtain ⟨g', cap', A', n', c', hvg, hcell, hrd, hA', hnc'⟩ := Rc.cap_at HRL.out 0 (by omega)
        injection hvg with hvg _ _
        subst hvg
        have HRD := Lib.hid hrd
        have HA := Lib.hid (And.intro hA' hnc')
        have HN' := Lib.hid (show n' ≤ 16777216 by have h7 := hrd.1; have h8 := HLEN.out; have h9 := HL.out; omega)
        clear hrd hA' hnc' HRL
        have i1 : ((ts.length : Int) != 1) = false := by simp; omega
        have i2 : (((Rc.recs ts).length : Int) != (n : Int)) = false := by simp; omega
        rw [HX.out] at HF
        simp only at HF
        rw [h1] at *
        generalize (Rc.recs ts).length = u at *
        go_wp2
        go_ret3
        exact ⟨A', n', c', by rw [HF.out]; rfl, by rw [HF.out]; exact HRD.out, HA.out.1, HA.out.2, HN'.out, HB2.out⟩
      · have HX := Lib.hid (single_none HBY.out HSC.out (.inr (by rw [HL.out]; exact h3)))
        rw [HX.out] at HF
        simp only at HF
        have i1 : ((ts.length : Int) != 1) = false := by simp; omega
        have i2 : (((Rc.recs ts).length : Int) != (n : Int)) = true := by simp; omega
        rw [h1] at *
        generalize (Rc.recs ts).length = u at *
        go_wp2
        go_ret3
        exact ⟨none, 0, 0, by rw [HF.out]; rfl, by rw [HF.out]; exact Rd.nil _, fun _ => rfl, by omega, by omega, HB2.out⟩
    · have HX := Lib.hid (single_none HBY.out HSC.out (.inl h1))
      rw [HX.out] at HF
      simp only at HF
      have i1 : ((ts.length : Int) != 1) = true := by simp; omega
      generalize (Rc.recs ts).length = u at *
      generalize ts.length = k at *
      go_wp2
      go_ret3
      exact ⟨none, 0, 0, by rw [HF.out]; rfl, by rw [HF.out]; exact Rd.nil _, fun _ => rfl, by omega, by omega, HB2.out⟩
  · rw [if_pos h0] at HF
    go_wp2
    go_ret3
    exact ⟨none, 0, 0, by rw [HF.out]; rfl, by rw [HF.out]; exact Rd.nil _, fun _ => rfl, by omega, by omega, HB1.out⟩
end Go.Proofs.YtejphnbhcabchaaGreat.Kp
