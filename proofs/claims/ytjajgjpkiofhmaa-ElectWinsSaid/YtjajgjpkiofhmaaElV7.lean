/-
  Layer 10, the laws' world: play, where a ballot comes. Conditions: as the theorem states.
-/
import Derived.Test.YtjajgjpkiofhmaaElV6
import Derived.StillTailTactics
namespace Go.Proofs.Ytjajgjpkiofhmaa.El
open Go.RowKit Go.Proofs.Ytjajgjpkiofhmaa.Qu Go.Proofs.Ytjajgjpkiofhmaa.Fld
set_option linter.unusedVariables false

theorem Wm.balc {w0 : World} {vs : List Int} {w : World} {u : Wl} {d : Wd} (h : Wm w0 vs w u d) : ∃ A c, u.sv = .slice A d.sent.length c ∧ RdB w A d.sent.length d.sent := by
  obtain ⟨A, c, hv, _⟩ := row_slice h.rs
  have hr := h.rs
  rw [hv] at hr
  exact ⟨A, c, hv, rowB_read hr⟩
set_option maxRecDepth 100000 in
set_option maxHeartbeats 6400000 in
theorem play_come (w0 : World) (u : Wl) (d : Wd) (who n draw : Int) (m B : Nat) (w : World) (h : Wm w0 (ids m) w u d) (hm : d.ns.length = m) (h1 : 1 ≤ m) (hm15 : m ≤ 15) (hl : d.logs.length = d.ns.length) (hsn : d.sent.length ≤ 900000) (hld : d.leads.length ≤ 100000) (hnok : ∀ i, i < m → NOk m B i (nd d i)) (hB : B ≤ 1000000)  : Calls Try.prog 25 #[.pointer (some ⟨u.g, 0, none⟩), .agg #[.int .i64 1, .int .i64 who, .int .i64 n, .int .i64 draw]] w fun e' w' => e' = .returned (.tuple #[]) ∧ ∃ u', u'.g = u.g ∧ Wm w0 (ids m) w' u' (play d ⟨1, who, n, draw⟩) := by
  have hal := alloc_below w (.cells (evA ⟨1, who, n, draw⟩) 64)
  have hm1 := h.below hal
  have HM := Lib.hid hm1
  have hke := Blk.new w (evA ⟨1, who, n, draw⟩) 64
  have HKE := Lib.hid hke
  have HXG := Lib.hid (show w.heap.size ≠ u.g by have := Blk.lt h.blk; omega)
  have HXS := Lib.hid (fun k hk => show w.heap.size ∉ Sk u k from fun hmm => absurd (h.loSk k hk _ hmm).2 (Nat.lt_irrefl _))
  have HNK := Lib.hid hnok
  have HLL := Lib.hid hl
  obtain ⟨hk1, hk2, hk3, hk4⟩ := kOf_is who m h1
  have hkl := kOf_lt who m h1
  obtain ⟨r, hr⟩ : ∃ r, who.tmod m = r := ⟨_, rfl⟩
  obtain ⟨k, hk⟩ : ∃ k, kOf who m = k := ⟨_, rfl⟩
  rw [hr] at hk1 hk2 hk3 hk4
  rw [hk] at hk1 hk2 hkl
  have HP := Lib.hid (show play d ⟨1, who, n, draw⟩ = if 0 ≤ n ∧ n < d.sent.length then come d (d.sent.getD n.toNat ⟨0, 0, 0, 0, 0, 0, false⟩) else d by unfold play; rw [hm, hk]; rw [if_neg (by show ¬ (1 : Int) = 0; omega), if_pos rfl])
  have HK := Lib.hid (show k < d.ns.length by omega)
  obtain ⟨_, _, _, _, _, _, _, -, -, -, hnm, -, hc0⟩ := hm1.cel k HK.out hl
  obtain ⟨c2, _⟩ := hc0 _ (Dk.Fr.refl _ _)
  have b0 := hke.cell 0 (.int .i64 1) rfl
  have b1 := hke.cell 1 (.int .i64 who) rfl
  have HNM := Lib.hid hm
  rw [hm] at c2
  unfold evA at *
  clear h hal hm1 hke hc0 hnok hl hm hnm
  go_enter Try.func25, Try.ntmps25
  go_upto_region 1 with fail
  generalize hwx : (w.alloc (.cells #[.int .i64 1, .int .i64 who, .int .i64 n, .int .i64 draw] 64)) = wq at *
  generalize hX : w.heap.size = X at *
  have HWX := Lib.hid (And.intro hwx hX)
  clear hwx hX
  go_cut [4] from 7 to 14 (fun c wx => c = .int .i64 r ∧ Below wq.heap.size wq wx)
  case first =>
    go_quiet (fail)
    go_wp2_with fail
    go_meet
    exact ⟨rfl, below_dr _ _⟩
  case rest =>
    obtain ⟨rfl, hbw⟩ := hcut
    obtain ⟨wa, rfl⟩ : ∃ wa, wa = wc := ⟨_, rfl⟩
    have HMA := Lib.hid (HM.out.below hbw)
    have HKA := Lib.hid (HKE.out.below hbw)
    clear hbw c2 b0 b1
    obtain ⟨nb, no, nc, lb, lo, lc, -, hno, hnb, -, hnm, ⟨hnn, hln⟩, hc⟩ := HMA.out.cel k HK.out HLL.out
    have hxg := HXG.out
    have HXA := Lib.hid (show X ∉ Sk u k from HXS.out k HK.out)
    have HNB := Lib.hid hnb
    have HNO := Lib.hid hno
    have HC := Lib.hid hc
    obtain ⟨c2, c3, c4, cn, cl, cm⟩ := hc wa (Dk.Fr.refl _ _)
    rw [HNM.out] at c2 c3 hnm
    clear hc hnb hno
    unfold maxLen at hnm
    refine (by assumption : ∀ (a : Act) (w : World), Code.wp Try.prog _ _ a w → _) _ _ ?_
    refine wp_seq_k (fun _ _ => ?_)
    go_cut [4] from 15 to 23 (fun c wx => c = .int .i64 (k : Int) ∧ wx = wa)
    case first =>
      by_cases hr0 : r < 0
      · have q0 : decide (r < 0) = true := decide_eq_true hr0
        have hk1 := hk1 hr0
        go_wp2_with fail
        go_meet
        first | exact ⟨rfl, rfl⟩ | exact ⟨by rw [hk1], rfl⟩
      · have q0 : decide (r < 0) = false := decide_eq_false hr0
        have hk2 : r = (k : Int) := hk2 (by omega)
        go_wp2_with fail
        go_meet
        first | exact ⟨rfl, rfl⟩ | exact ⟨by rw [hk2], rfl⟩
    case rest =>
      obtain ⟨rfl, rfl⟩ := hcut
      have b0 := HKA.out.cell 0 (.int .i64 1) rfl
      have b2 := HKA.out.cell 2 (.int .i64 n) rfl
      have b3 := HKA.out.cell 3 (.int .i64 draw) rfl
      have k0 : (0 : Int) ≤ (k : Int) := by omega
      have k1 : (k : Int) < (m : Int) := by omega
      clear hk1 hk2 hk3 hk4
      have HDN := Lib.hid (show ∀ W, Below wc.heap.size wc W → Wm w0 (ids m) W u d from fun W hW => HMA.out.below hW)
      obtain ⟨SA, sc, hsv, hrb⟩ := HMA.out.balc
      rw [hsv] at c4
      have HSV := Lib.hid hsv
      have HRB := Lib.hid hrb
      clear hsv hrb
      by_cases n0 : 0 ≤ n
      · by_cases n1 : n < (d.sent.length : Int)
        · have q3 : decide (0 ≤ n) = true := decide_eq_true n0
          have q4 : decide (n < (d.sent.length : Int)) = true := decide_eq_true n1
          have HR := Lib.hid (show play d ⟨1, who, n, draw⟩ = come d (d.sent.getD n.toNat ⟨0, 0, 0, 0, 0, 0, false⟩) by rw [HP.out, if_pos ⟨n0, n1⟩])
          obtain ⟨j, rfl⟩ : ∃ j : Nat, n = (j : Int) := ⟨n.toNat, by omega⟩
          have hj : j < d.sent.length := by omega
          rw [Int.toNat_natCast] at HR
          go_upto_region 8 with fail
          go_quiet (fail)
          generalize hwd : wc.drewN nq = wd at *
          have HBD := Lib.hid (show Below wc.heap.size wc wd by rw [← hwd]; exact below_dr _ _)
          clear c2 c3 c4 cn cl cm b0 b2 b3 hwd
          have HMD := Lib.hid (HDN.out wd HBD.out)
          have HMD2 := Lib.hid (HMD.out.below (below_d1 wd))
          obtain ⟨b, off, rfl, x0, x1, x2, x3, x4, x5, x6⟩ := ((HRB.out.below HBD.out).below (below_d1 wd)).elem j hj
          have c4 := HMD2.out.cells.2.2.2.2.1
          rw [HSV.out] at c4
          have b2 := ((HKA.out.below HBD.out).below (below_d1 wd)).cell 2 (.int .i64 (j : Int)) rfl
          have HCO := Lib.hid (fun W (hW : Wm w0 (ids m) W u d) => come_any w0 (ids m) u d (d.sent.getD j El.b0) W hW HLL.out (by have := HK.out; omega) (by omega) (fun i hi => by have h3 := (HNK.out i (by have := HNM.out; omega)).vs; rw [h3, ids_len]; exact hm15))
          unfold Bal.val at HCO
          change play d ⟨1, who, (j : Int), draw⟩ = come d (d.sent.getD j El.b0) at HR
          have HRR := Lib.hid HR
          generalize d.sent.getD j El.b0 = y at *
          have j0 : (0 : Int) ≤ (j : Int) := by omega
          have j1 : (j : Int) < (d.sent.length : Int) := by omega
          clear HR n0 n1
          go_upto_region 9 with fail
          go_still_tail 9, (by kernel_rfl)
          change wpList _ _ _ _ _ wd.drew
          generalize wd.drew = we at *
          go_wp2_with fail
          refine (HCO.out _ (by exact HMD2.out)).mono ?_
          rintro e w4 ⟨rfl, u', hg', hw'⟩
          have HW4 := Lib.hid hw'
          have HG4 := Lib.hid hg'
          clear hw' hg'
          go_wp2_with fail
          first | go_end0 | ((try simp only [Exit.inBlock, Exit.then]); refine bodyPost_ret (results_none rfl _ _ _) rfl ?_)
          exact ⟨rfl, u', HG4.out, by rw [HRR.out]; exact HW4.out⟩
        · have q3 : decide (0 ≤ n) = true := decide_eq_true n0
          have q4 : decide (n < (d.sent.length : Int)) = false := decide_eq_false n1
          have HR := Lib.hid (show play d ⟨1, who, n, draw⟩ = d by rw [HP.out, if_neg (by rintro ⟨_, h⟩; exact n1 h)])
          clear n1 n0
          go_upto_region 8 with fail
          go_quiet (fail)
          go_wp2_with fail
          first | go_end0 | ((try simp only [Exit.inBlock, Exit.then]); refine bodyPost_ret (results_none rfl _ _ _) rfl ?_)
          exact ⟨rfl, u, rfl, by rw [HR.out]; exact HDN.out _ (below_dr _ _)⟩
      · have q3 : decide (0 ≤ n) = false := decide_eq_false n0
        have HR := Lib.hid (show play d ⟨1, who, n, draw⟩ = d by rw [HP.out, if_neg (by rintro ⟨h, _⟩; exact n0 h)])
        clear n0
        go_upto_region 8 with fail
        go_quiet (fail)
        go_wp2_with fail
        first | go_end0 | ((try simp only [Exit.inBlock, Exit.then]); refine bodyPost_ret (results_none rfl _ _ _) rfl ?_)
        exact ⟨rfl, u, rfl, by rw [HR.out]; exact HDN.out _ (below_dr _ _)⟩
end Go.Proofs.Ytjajgjpkiofhmaa.El
