/-
  Layer 8: alike: both logs stand the same. Conditions: both lie in memory that they do not share, in one state of at most 100000 entries.
-/
import Derived.Test.YtafjgaapefhggaaRlgS
import Derived.Test.YtafjgaapefhggaaRlgP
import Derived.Test.YtafjgaapefhggaaRlgO
namespace Go.Proofs.Ytafjgaapefhggaa.Rg
open Go.RowKit Go.Proofs.Ytafjgaapefhggaa.Fld
set_option linter.unusedVariables false

theorem getE_all {s : St} (h : s.es.length ≤ 100000) : getE s (s.base + 1) 100000 = s.es := by
  unfold getE
  split
  · next hc =>
    unfold St.last at hc
    have : s.es.length = 0 := by omega
    rw [List.eq_nil_of_length_eq_zero this]
  · rw [show (s.base + 1 - s.base - 1).toNat = 0 by omega, List.drop_zero, List.take_of_length_le (by simpa using h)]
theorem data_le {s : St} (h : s.Ok) {xs : List EA} (he : ens xs = s.es) : ∀ x ∈ xs, x.e.data.length ≤ 140737488351232 := fun x hx => by
  have := (okE_iff _).1 (okL_mem h.ok (e := x.e) (by rw [← he]; unfold ens; exact List.mem_map_of_mem hx))
  omega
set_option maxRecDepth 100000 in
set_option maxHeartbeats 3200000 in
theorem alike_any (W0 : World) (g : Nat) (v : Value) (s : St) (xs : List EA) (r : Nat) (rv : Value) (rs : List EA) (w : World) (h : Pr W0 w g v s xs r rv s rs) (hxs : xs.length ≤ 100000) : Calls Try.prog 11 #[.pointer (some ⟨g, 0, none⟩), .pointer (some ⟨r, 0, none⟩)] w fun e w' => e = .returned (.bool true) ∧ Below w.heap.size w w' := by
  obtain ⟨A, cap, rfl, hLo, hxc, hcm, hnil, _⟩ := h.im.slice
  obtain ⟨RA, rcap, rfl, hLr, hrc, hrm, hrnil, _⟩ := h.rm.slice
  have HP := Lib.hid h
  have HL := Lib.hid hLo
  have HR := Lib.hid hLr
  have HOK := Lib.hid h.im.ok
  have h0 := h.im.ok.b0
  have hbl := h.im.ok.bl
  have hsb : s.base ≤ 1099511627776 := by unfold St.last at hbl; omega
  have HN := Lib.hid h.im.n
  have HES := Lib.hid h.im.es
  have HESR := Lib.hid h.rm.es
  have HF := Lib.hid (fun W (hW : Still w W) => first_any g s.base s.bt s.com s.app (.slice A xs.length cap) W (hLo.lb.still hW) h0 hsb)
  have HC := Lib.hid (fun W (hW : Still w W) => committed_any g s.base s.bt s.com s.app (.slice A xs.length cap) W (hLo.lb.still hW))
  have HA := Lib.hid (fun W (hW : Still w W) => applied_any g s.base s.bt s.com s.app (.slice A xs.length cap) W (hLo.lb.still hW))
  obtain ⟨c0, c1, c2, c3, c4⟩ := hLr.lb.cells
  have ew : IntKind.i64.wrap (s.base + 1) = s.base + 1 := by
    simp only [IntKind.wrap, IntKind.bits, IntKind.signed]
    simp
    omega
  clear h hLo hLr
  go_enter Try.func11, Try.ntmps11
  go_wp2_with fail
  go_quiet ((first
    | (go_at_call 24; exact quiet_eq ⟨_, rfl⟩ (HF.out _ (still_drewN _ _)))
    | (go_at_call 26; exact quiet_dr ⟨_, rfl⟩ (HL.out.still (still_drewN _ _)).last_dr)
    | (go_at_call 31; exact quiet_dr ⟨_, rfl⟩ (HR.out.still (still_drewN _ _)).last_dr)
    | (go_at_call 23; exact quiet_eq ⟨_, rfl⟩ (HC.out _ (still_drewN _ _)))
    | (go_at_call 25; exact quiet_eq ⟨_, rfl⟩ (HA.out _ (still_drewN _ _)))))
  clear ew
  have HS1 := Lib.hid (still_drewN w nq)
  generalize w.drewN nq = w1 at *
  go_wp2_with fail
  refine (HF.out _ HS1.out).mono ?_
  rintro e w2 ⟨rfl, rfl⟩
  have hz : w1.heap.size = w.heap.size := by rw [HS1.out.1]
  have HGE := Lib.hid ((HL.out.still HS1.out).get_any hxc (by omega) (data_le HOK.out HES.out) (s.base + 1) 100000)
  rw [getE_all (by rw [HN.out]; exact hxs)] at HGE
  go_wp2_with fail
  refine HGE.out.mono ?_
  rintro e w3 ⟨v3, ys, rfl, hye, hyr, hyd, hyb⟩
  obtain ⟨YA, yc, rfl, _⟩ := row_slice hyr
  have HYE := Lib.hid hye
  have HYR := Lib.hid hyr
  have HYD := Lib.hid hyd
  have HYB := Lib.hid hyb
  have HB3 := Lib.hid (show Below w.heap.size w w3 from (below_still HS1.out (Nat.le_refl _)).trans (by rw [hz] at hyb; exact hyb))
  clear hye hyr hyd hyb hz
  obtain ⟨d0, d1, d2, d3, d4⟩ := (HR.out.below HB3.out).lb.cells
  have HSA := Lib.hid (same_yes YA ys.length yc ys RA rs.length rcap rs w3 (row_rdE HYR.out HYD.out.dat) (HR.out.below HB3.out).rd (by rw [HYE.out, HESR.out]))
  go_wp2_with fail
  refine HSA.out.mono ?_
  rintro e w4 ⟨rfl, hs4⟩
  have HB4 := Lib.hid (HB3.out.trans (below_still hs4 HB3.out.size))
  clear hs4
  obtain ⟨e0, e1, e2, e3, e4⟩ := (HR.out.below HB4.out).lb.cells
  have HTE := Lib.hid ((HL.out.below HB4.out).term_dr s.base)
  have htb : termB s s.base = true := by rw [termB_iff]; unfold St.last; omega
  have htv : termV s s.base = s.bt := by unfold termV entT; rw [if_pos htb, if_pos (by omega)]
  rw [htb, htv] at HTE
  clear htb htv
  go_wp2_with fail
  refine HTE.out.mono ?_
  rintro e w5 ⟨rfl, hw5⟩
  have HS5 := Lib.hid (show Still w4 w5 by obtain ⟨z, rfl⟩ := hw5; exact still_drewN _ _)
  clear hw5
  have HB5 := Lib.hid (HB4.out.trans (below_still HS5.out HB4.out.size))
  obtain ⟨f0, f1, f2, f3, f4⟩ := (HR.out.below HB5.out).lb.cells
  go_wp2
  go_ret
  exact ⟨by simp, HB5.out⟩
end Go.Proofs.Ytafjgaapefhggaa.Rg
