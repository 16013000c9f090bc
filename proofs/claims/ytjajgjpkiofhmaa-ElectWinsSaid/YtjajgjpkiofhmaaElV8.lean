/-
  Layer 10, the laws' world: play, where a leader is heard of, where a node is begun anew, where nothing happens. Conditions: as each theorem states.
-/
import Derived.Test.YtjajgjpkiofhmaaElV7
namespace Go.Proofs.Ytjajgjpkiofhmaa.El
open Go.RowKit Go.Proofs.Ytjajgjpkiofhmaa.Qu Go.Proofs.Ytjajgjpkiofhmaa.Fld
set_option linter.unusedVariables false

set_option maxRecDepth 100000 in
set_option maxHeartbeats 6400000 in
theorem play_heard (w0 : World) (u : Wl) (d : Wd) (who n draw : Int) (m B : Nat) (w : World) (h : Wm w0 (ids m) w u d) (hm : d.ns.length = m) (h1 : 1 ≤ m) (hm15 : m ≤ 15) (hl : d.logs.length = d.ns.length) (hsn : d.sent.length ≤ 900000) (hld : d.leads.length ≤ 100000) (hnok : ∀ i, i < m → NOk m B i (nd d i)) (hB : B ≤ 1000000)  : Calls Try.prog 25 #[.pointer (some ⟨u.g, 0, none⟩), .agg #[.int .i64 3, .int .i64 who, .int .i64 n, .int .i64 draw]] w fun e' w' => e' = .returned (.tuple #[]) ∧ ∃ u', u'.g = u.g ∧ Wm w0 (ids m) w' u' (play d ⟨3, who, n, draw⟩) := by
  have hal := alloc_below w (.cells (evA ⟨3, who, n, draw⟩) 64)
  have hm1 := h.below hal
  have HM := Lib.hid hm1
  have hke := Blk.new w (evA ⟨3, who, n, draw⟩) 64
  have HKE := Lib.hid hke
  have HXG := Lib.hid (show w.heap.size ≠ u.g by have := Blk.lt h.blk; omega)
  have HXS := Lib.hid (fun k hk => show w.heap.size ∉ Sk u k from fun hmm => absurd (h.loSk k hk _ hmm).2 (Nat.lt_irrefl _))
  have HNK := Lib.hid hnok
  have HLL := Lib.hid hl
  obtain ⟨hk1, hk2, hk3, hk4⟩ := kOf_is who m h1
  have hkl := kOf_lt who m h1
  obtain ⟨r, hr⟩ : ∃ r, who.tmod m = r := ⟨_, rfl⟩
  obtain ⟨k, hk⟩ : ∃ k, kOf who m = k := ⟨_, rfl⟩
  rw [hr] at hk1 hk2 hk3 hk4
  rw [hk] at hk1 hk2 hkl
  have HP := Lib.hid (show play d ⟨3, who, n, draw⟩ = if 0 ≤ n ∧ n < d.leads.length then { d with ns := d.ns.set k (heard (nd d k) (d.leads.getD n.toNat (0, 0)).2 (d.leads.getD n.toNat (0, 0)).1) } else d by unfold play; rw [hm, hk]; rw [if_neg (by show ¬ (3 : Int) = 0; omega), if_neg (by show ¬ (3 : Int) = 1; omega), if_neg (by show ¬ (3 : Int) = 2; omega), if_pos rfl])
  have HK := Lib.hid (show k < d.ns.length by omega)
  obtain ⟨_, _, _, _, _, _, _, -, -, -, hnm, -, hc0⟩ := hm1.cel k HK.out hl
  obtain ⟨c2, _⟩ := hc0 _ (Dk.Fr.refl _ _)
  have b0 := hke.cell 0 (.int .i64 3) rfl
  have b1 := hke.cell 1 (.int .i64 who) rfl
  have HNM := Lib.hid hm
  rw [hm] at c2
  unfold evA at *
  clear h hal hm1 hke hc0 hnok hl hm hnm
  go_enter Try.func25, Try.ntmps25
  go_upto_region 1 with fail
  generalize hwx : (w.alloc (.cells #[.int .i64 3, .int .i64 who, .int .i64 n, .int .i64 draw] 64)) = wq at *
  generalize hX : w.heap.size = X at *
  have HWX := Lib.hid (And.intro hwx hX)
  clear hwx hX
  go_cut [4] from 7 to 14 (fun c wx => c = .int .i64 r ∧ Below wq.heap.size wq wx)
  case first =>
    go_quiet (fail)
    go_wp2_with fail
    go_meet
    exact ⟨rfl, below_dr _ _⟩
  case rest =>
    obtain ⟨rfl, hbw⟩ := hcut
    obtain ⟨wa, rfl⟩ : ∃ wa, wa = wc := ⟨_, rfl⟩
    have HMA := Lib.hid (HM.out.below hbw)
    have HKA := Lib.hid (HKE.out.below hbw)
    clear hbw c2 b0 b1
    obtain ⟨nb, no, nc, lb, lo, lc, -, hno, hnb, -, hnm, ⟨hnn, hln⟩, hc⟩ := HMA.out.cel k HK.out HLL.out
    have hxg := HXG.out
    have HXA := Lib.hid (show X ∉ Sk u k from HXS.out k HK.out)
    have HNB := Lib.hid hnb
    have HNO := Lib.hid hno
    have HC := Lib.hid hc
    obtain ⟨c2, c3, c4, cn, cl, cm⟩ := hc wa (Dk.Fr.refl _ _)
    rw [HNM.out] at c2 c3 hnm
    clear hc hnb hno
    unfold maxLen at hnm
    refine (by assumption : ∀ (a : Act) (w : World), Code.wp Try.prog _ _ a w → _) _ _ ?_
    refine wp_seq_k (fun _ _ => ?_)
    go_cut [4] from 15 to 23 (fun c wx => c = .int .i64 (k : Int) ∧ wx = wa)
    case first =>
      by_cases hr0 : r < 0
      · have q0 : decide (r < 0) = true := decide_eq_true hr0
        have hk1 := hk1 hr0
        go_wp2_with fail
        go_meet
        first | exact ⟨rfl, rfl⟩ | exact ⟨by rw [hk1], rfl⟩
      · have q0 : decide (r < 0) = false := decide_eq_false hr0
        have hk2 : r = (k : Int) := hk2 (by omega)
        go_wp2_with fail
        go_meet
        first | exact ⟨rfl, rfl⟩ | exact ⟨by rw [hk2], rfl⟩
    case rest =>
      obtain ⟨rfl, rfl⟩ := hcut
      have b0 := HKA.out.cell 0 (.int .i64 3) rfl
      have b2 := HKA.out.cell 2 (.int .i64 n) rfl
      have b3 := HKA.out.cell 3 (.int .i64 draw) rfl
      have k0 : (0 : Int) ≤ (k : Int) := by omega
      have k1 : (k : Int) < (m : Int) := by omega
      clear hk1 hk2 hk3 hk4
      have HDN := Lib.hid (show ∀ W, Below wc.heap.size wc W → Wm w0 (ids m) W u d from fun W hW => HMA.out.below hW)
      obtain ⟨DA, dc, hdv, hdm, hdc⟩ := HMA.out.ledc
      have c5 := HMA.out.cells.2.2.2.2.2
      rw [hdv] at c5
      have HDV := Lib.hid hdv
      have HDC := Lib.hid hdc
      clear hdv hdc
      unfold maxLen at hdm
      by_cases n0 : 0 ≤ n
      · by_cases n1 : n < (d.leads.length : Int)
        · have q3 : decide (0 ≤ n) = true := decide_eq_true n0
          have q4 : decide (n < (d.leads.length : Int)) = true := decide_eq_true n1
          have HR := Lib.hid (show play d ⟨3, who, n, draw⟩ = { d with ns := d.ns.set k (heard (nd d k) (d.leads.getD n.toNat (0, 0)).2 (d.leads.getD n.toNat (0, 0)).1) } by rw [HP.out, if_pos ⟨n0, n1⟩])
          obtain ⟨j, rfl⟩ : ∃ j : Nat, n = (j : Int) := ⟨n.toNat, by omega⟩
          have hj : j < d.leads.length := by omega
          rw [Int.toNat_natCast] at HR
          go_upto_region 15 with fail
          go_quiet (fail)
          generalize hwd : wc.drewN nq = wd at *
          have HBD := Lib.hid (show Below wc.heap.size wc wd by rw [← hwd]; exact below_dr _ _)
          clear c2 c3 c4 c5 cn cl cm b0 b2 b3 hwd
          have HB2 := Lib.hid (HBD.out.trans ((below_d1 wd).mono HBD.out.size))
          have HMD2 := Lib.hid (HMA.out.below HB2.out)
          obtain ⟨b, off, rfl, x0, x1⟩ := HDC.out j hj
          have x0 := (HB2.out.cell (lt_of_cell x0)).trans x0
          have x1 := (HB2.out.cell (lt_of_cell x1)).trans x1
          have c5 := HMD2.out.cells.2.2.2.2.2
          rw [HDV.out] at c5
          obtain ⟨c2, c3, c4, cn, cl, cm⟩ := HC.out wd.drew (Dk.Fr.below HB2.out)
          rw [HNM.out] at c2
          clear c3 c4 cl cm
          have b2 := (HKA.out.below HB2.out).cell 2 (.int .i64 (j : Int)) rfl
          generalize d.leads.getD j (0, 0) = y at *
          have HIM := Lib.hid (HMD2.out.im k HK.out)
          have HHE := Lib.hid (heard_any (u.p k) (nd d k) y.2 y.1 wd.drew HIM.out)
          have HRR := Lib.hid HR.out
          have j0 : (0 : Int) ≤ (j : Int) := by omega
          have j1 : (j : Int) < (d.leads.length : Int) := by omega
          clear HR n0 n1
          go_upto_region 16 with fail
          go_still_tail 25, (by kernel_rfl)
          change wpList _ _ _ _ _ wd.drew
          generalize wd.drew = we at *
          go_wp2_with fail
          refine (HHE.out).mono ?_
          rintro e w4 ⟨rfl, hA⟩
          have HW4 := Lib.hid (HMD2.out.did k HK.out hA)
          clear hA
          go_wp2_with fail
          first | go_end0 | ((try simp only [Exit.inBlock, Exit.then]); refine bodyPost_ret (results_none rfl _ _ _) rfl ?_)
          exact ⟨rfl, u, rfl, by rw [HRR.out]; exact HW4.out⟩
        · have q3 : decide (0 ≤ n) = true := decide_eq_true n0
          have q4 : decide (n < (d.leads.length : Int)) = false := decide_eq_false n1
          have HR := Lib.hid (show play d ⟨3, who, n, draw⟩ = d by rw [HP.out, if_neg (by rintro ⟨_, h⟩; exact n1 h)])
          clear n1 n0
          go_upto_region 15 with fail
          go_quiet (fail)
          go_wp2_with fail
          first | go_end0 | ((try simp only [Exit.inBlock, Exit.then]); refine bodyPost_ret (results_none rfl _ _ _) rfl ?_)
          exact ⟨rfl, u, rfl, by rw [HR.out]; exact HDN.out _ (below_dr _ _)⟩
      · have q3 : decide (0 ≤ n) = false := decide_eq_false n0
        have HR := Lib.hid (show play d ⟨3, who, n, draw⟩ = d by rw [HP.out, if_neg (by rintro ⟨h, _⟩; exact n0 h)])
        clear n0
        go_upto_region 15 with fail
        go_quiet (fail)
        go_wp2_with fail
        first | go_end0 | ((try simp only [Exit.inBlock, Exit.then]); refine bodyPost_ret (results_none rfl _ _ _) rfl ?_)
        exact ⟨rfl, u, rfl, by rw [HR.out]; exact HDN.out _ (below_dr _ _)⟩
set_option maxRecDepth 100000 in
set_option maxHeartbeats 6400000 in
theorem play_new (w0 : World) (u : Wl) (d : Wd) (who n draw : Int) (m B : Nat) (w : World) (h : Wm w0 (ids m) w u d) (hm : d.ns.length = m) (h1 : 1 ≤ m) (hm15 : m ≤ 15) (hl : d.logs.length = d.ns.length) (hsn : d.sent.length ≤ 900000) (hld : d.leads.length ≤ 100000) (hnok : ∀ i, i < m → NOk m B i (nd d i)) (hB : B ≤ 1000000)  : Calls Try.prog 25 #[.pointer (some ⟨u.g, 0, none⟩), .agg #[.int .i64 2, .int .i64 who, .int .i64 n, .int .i64 draw]] w fun e' w' => e' = .returned (.tuple #[]) ∧ ∃ u', u'.g = u.g ∧ Wm w0 (ids m) w' u' (play d ⟨2, who, n, draw⟩) := by
  have hal := alloc_below w (.cells (evA ⟨2, who, n, draw⟩) 64)
  have hm1 := h.below hal
  have HM := Lib.hid hm1
  have hke := Blk.new w (evA ⟨2, who, n, draw⟩) 64
  have HKE := Lib.hid hke
  have HXG := Lib.hid (show w.heap.size ≠ u.g by have := Blk.lt h.blk; omega)
  have HXS := Lib.hid (fun k hk => show w.heap.size ∉ Sk u k from fun hmm => absurd (h.loSk k hk _ hmm).2 (Nat.lt_irrefl _))
  have HNK := Lib.hid hnok
  have HLL := Lib.hid hl
  obtain ⟨hk1, hk2, hk3, hk4⟩ := kOf_is who m h1
  have hkl := kOf_lt who m h1
  obtain ⟨r, hr⟩ : ∃ r, who.tmod m = r := ⟨_, rfl⟩
  obtain ⟨k, hk⟩ : ∃ k, kOf who m = k := ⟨_, rfl⟩
  rw [hr] at hk1 hk2 hk3 hk4
  rw [hk] at hk1 hk2 hkl
  have HP := Lib.hid (show play d ⟨2, who, n, draw⟩ = { d with ns := d.ns.set k (st0 ((k : Int) + 1) (nd d k).term (nd d k).vote (ids m) [] 3) } by unfold play; rw [hm, hk]; rw [if_neg (by show ¬ (2 : Int) = 0; omega), if_neg (by show ¬ (2 : Int) = 1; omega), if_pos rfl])
  have HK := Lib.hid (show k < d.ns.length by omega)
  obtain ⟨_, _, _, _, _, _, _, -, -, -, hnm, -, hc0⟩ := hm1.cel k HK.out hl
  obtain ⟨c2, _⟩ := hc0 _ (Dk.Fr.refl _ _)
  have b0 := hke.cell 0 (.int .i64 2) rfl
  have b1 := hke.cell 1 (.int .i64 who) rfl
  have HNM := Lib.hid hm
  rw [hm] at c2
  unfold evA at *
  clear h hal hm1 hke hc0 hnok hl hm hnm
  go_enter Try.func25, Try.ntmps25
  go_upto_region 1 with fail
  generalize hwx : (w.alloc (.cells #[.int .i64 2, .int .i64 who, .int .i64 n, .int .i64 draw] 64)) = wq at *
  generalize hX : w.heap.size = X at *
  have HWX := Lib.hid (And.intro hwx hX)
  clear hwx hX
  go_cut [4] from 7 to 14 (fun c wx => c = .int .i64 r ∧ Below wq.heap.size wq wx)
  case first =>
    go_quiet (fail)
    go_wp2_with fail
    go_meet
    exact ⟨rfl, below_dr _ _⟩
  case rest =>
    obtain ⟨rfl, hbw⟩ := hcut
    obtain ⟨wa, rfl⟩ : ∃ wa, wa = wc := ⟨_, rfl⟩
    have HMA := Lib.hid (HM.out.below hbw)
    have HKA := Lib.hid (HKE.out.below hbw)
    clear hbw c2 b0 b1
    obtain ⟨nb, no, nc, lb, lo, lc, -, hno, hnb, -, hnm, ⟨hnn, hln⟩, hc⟩ := HMA.out.cel k HK.out HLL.out
    have hxg := HXG.out
    have HXA := Lib.hid (show X ∉ Sk u k from HXS.out k HK.out)
    have HNB := Lib.hid hnb
    have HNO := Lib.hid hno
    have HC := Lib.hid hc
    obtain ⟨c2, c3, c4, cn, cl, cm⟩ := hc wa (Dk.Fr.refl _ _)
    rw [HNM.out] at c2 c3 hnm
    clear hc hnb hno
    unfold maxLen at hnm
    refine (by assumption : ∀ (a : Act) (w : World), Code.wp Try.prog _ _ a w → _) _ _ ?_
    refine wp_seq_k (fun _ _ => ?_)
    go_cut [4] from 15 to 23 (fun c wx => c = .int .i64 (k : Int) ∧ wx = wa)
    case first =>
      by_cases hr0 : r < 0
      · have q0 : decide (r < 0) = true := decide_eq_true hr0
        have hk1 := hk1 hr0
        go_wp2_with fail
        go_meet
        first | exact ⟨rfl, rfl⟩ | exact ⟨by rw [hk1], rfl⟩
      · have q0 : decide (r < 0) = false := decide_eq_false hr0
        have hk2 : r = (k : Int) := hk2 (by omega)
        go_wp2_with fail
        go_meet
        first | exact ⟨rfl, rfl⟩ | exact ⟨by rw [hk2], rfl⟩
    case rest =>
      obtain ⟨rfl, rfl⟩ := hcut
      have b0 := HKA.out.cell 0 (.int .i64 2) rfl
      have b2 := HKA.out.cell 2 (.int .i64 n) rfl
      have b3 := HKA.out.cell 3 (.int .i64 draw) rfl
      have k0 : (0 : Int) ≤ (k : Int) := by omega
      have k1 : (k : Int) < (m : Int) := by omega
      clear hk1 hk2 hk3 hk4
      obtain ⟨g0, g1, _⟩ := HMA.out.cells
      have hrv := HMA.out.rv
      obtain ⟨VA, vc, hvv, _⟩ := row_slice hrv
      rw [hvv, ids_len] at g0 hrv
      have HRI := Lib.hid (rowI_read hrv)
      have HVV := Lib.hid hvv
      clear hrv hvv
      have HNE := Lib.hid (anew_nok (HNK.out k hkl) h1 hm15 hkl)
      have HHA := Lib.hid (fun W (hW : Below wc.heap.size wc W) => hard_any (u.p k) (nd d k) W ((HMA.out.im k HK.out).below hW))
      have HN := Lib.hid (fun W (hW : Below wc.heap.size wc W) => new_ok ((k : Int) + 1) (nd d k).term (nd d k).vote 3 VA vc (ids m) none 0 [] W (by rw [ids_len]; exact HRI.out.below hW) (RdI.nil _ _) HNE.out.2)
      unfold grpV at HN
      rw [ids_len] at HN
      generalize hT : (nd d k).term = T at *
      generalize hV : (nd d k).vote = V at *
      have HCC := Lib.hid (show ∀ W, Below wc.heap.size wc W → W.cell? ⟨u.g, 2, none⟩ = some (.slice (some ⟨nb, no, none⟩) m nc) ∧ W.cell? ⟨nb, no + k, none⟩ = some (.pointer (some ⟨(u.p k).g, 0, none⟩)) ∧ W.cell? ⟨u.g, 0, none⟩ = some (.slice VA m vc) ∧ W.cell? ⟨u.g, 1, none⟩ = some (.slice none 0 0) ∧ W.frozen? ⟨nb, no + k, none⟩ = false from fun W hW => by
        have hm' := HMA.out.below hW
        obtain ⟨p2, _, _, pn, _, _⟩ := HC.out W (Dk.Fr.below hW)
        rw [HNM.out] at p2
        have p0 := hm'.cells.1
        rw [HVV.out, ids_len] at p0
        have hrow := hm'.rn
        refine ⟨p2, pn, p0, hm'.cells.2.1, ?_⟩
        obtain ⟨A', c', hnv', _⟩ := row_slice hrow
        rw [hnv'] at hrow
        have hob := HNB.out
        rw [hnv'] at hob
        cases A' with
        | none => cases hob
        | some a' =>
          obtain ⟨ab, ao, asp⟩ := a'
          obtain ⟨_, _, he, hf, _⟩ := row_slice hrow
          cases he
          obtain ⟨h1', h2'⟩ := hf _ rfl
          simp only at h1' h2'
          subst h1' h2'
          have : ab = nb := by simpa [Value.ownBlock] using hob
          subst this
          have hz := row_cells hrow k _ (ptrs_at u k (by rw [hm'.pl]; exact HK.out))
          rw [HNO.out, Nat.zero_add]
          exact hz.2)
      have j1 : IntKind.i64.wrap ((k : Int) + 1) = (k : Int) + 1 := IntWalk.i64_in _ (by omega)
      clear c3 c4 cl cm b2 b3 hT hV
      go_upto_region 11 with fail
      go_region_held3 (fun w' => w'.cell? ⟨u.g, 2, none⟩ = some (.slice (some ⟨nb, no, none⟩) m nc) ∧ w'.cell? ⟨nb, no + k, none⟩ = some (.pointer (some ⟨(u.p k).g, 0, none⟩)) ∧ w'.cell? ⟨u.g, 0, none⟩ = some (.slice VA m vc) ∧ w'.cell? ⟨u.g, 1, none⟩ = some (.slice none 0 0)) (first | exact ⟨by assumption, by assumption, by assumption, by assumption⟩ | go_keep) (first
        | (go_at_call 21; refine (HHA.out _ (by first | exact Below.refl _ _ | exact below_d1 _)).mono ?_; rintro e w1 ⟨rfl, hb1⟩; have HB1 := Lib.hid (show Below wc.heap.size wc w1 by first | exact hb1 | exact (below_d1 _).trans hb1); obtain ⟨p2, pn, p0, p1, _⟩ := HCC.out w1 HB1.out; clear hb1)
        | (go_at_call 10; refine (HN.out _ (by first | exact HB1.out | exact HB1.out.drew)).mono ?_; rintro e w2 ⟨p, rfl, hm2⟩; have HM2 := Lib.hid hm2; have HB2 := Lib.hid (show Below wc.heap.size wc w2 by first | exact HB1.out.trans (hm2.bel.mono HB1.out.size) | exact HB1.out.drew.trans (hm2.bel.mono HB1.out.size)); obtain ⟨o2, on, o0, o1, of⟩ := HCC.out w2 HB2.out; clear hm2))
      all_goals
        go_wp2_with fail
        first | go_end0 | ((try simp only [Exit.inBlock, Exit.then]); refine bodyPost_ret (results_none rfl _ _ _) rfl ?_)
        have h9 := Wm.anew (HMA.out.below HB1.out) k HK.out HM2.out HNB.out
        exact ⟨rfl, _, (rfl : ({ u with ps := u.ps.set k p } : Wl).g = u.g), by rw [HP.out, HNO.out, Nat.zero_add]; exact h9⟩
set_option maxRecDepth 100000 in
set_option maxHeartbeats 6400000 in
theorem play_none (w0 : World) (u : Wl) (d : Wd) (who n draw : Int) (m B : Nat) (w : World) (h : Wm w0 (ids m) w u d) (hm : d.ns.length = m) (h1 : 1 ≤ m) (hm15 : m ≤ 15) (hl : d.logs.length = d.ns.length) (hsn : d.sent.length ≤ 900000) (hld : d.leads.length ≤ 100000) (hnok : ∀ i, i < m → NOk m B i (nd d i)) (hB : B ≤ 1000000) (dv : Int) (hdn : dv ≠ 0 ∧ dv ≠ 1 ∧ dv ≠ 2 ∧ dv ≠ 3) : Calls Try.prog 25 #[.pointer (some ⟨u.g, 0, none⟩), .agg #[.int .i64 dv, .int .i64 who, .int .i64 n, .int .i64 draw]] w fun e' w' => e' = .returned (.tuple #[]) ∧ ∃ u', u'.g = u.g ∧ Wm w0 (ids m) w' u' (play d ⟨dv, who, n, draw⟩) := by
  have hal := alloc_below w (.cells (evA ⟨dv, who, n, draw⟩) 64)
  have hm1 := h.below hal
  have HM := Lib.hid hm1
  have hke := Blk.new w (evA ⟨dv, who, n, draw⟩) 64
  have HKE := Lib.hid hke
  have HXG := Lib.hid (show w.heap.size ≠ u.g by have := Blk.lt h.blk; omega)
  have HXS := Lib.hid (fun k hk => show w.heap.size ∉ Sk u k from fun hmm => absurd (h.loSk k hk _ hmm).2 (Nat.lt_irrefl _))
  have HNK := Lib.hid hnok
  have HLL := Lib.hid hl
  obtain ⟨hk1, hk2, hk3, hk4⟩ := kOf_is who m h1
  have hkl := kOf_lt who m h1
  obtain ⟨r, hr⟩ : ∃ r, who.tmod m = r := ⟨_, rfl⟩
  obtain ⟨k, hk⟩ : ∃ k, kOf who m = k := ⟨_, rfl⟩
  rw [hr] at hk1 hk2 hk3 hk4
  rw [hk] at hk1 hk2 hkl
  have HP := Lib.hid (show play d ⟨dv, who, n, draw⟩ = d by unfold play; rw [hm, hk]; rw [if_neg hdn.1, if_neg hdn.2.1, if_neg hdn.2.2.1, if_neg hdn.2.2.2])
  have HK := Lib.hid (show k < d.ns.length by omega)
  obtain ⟨_, _, _, _, _, _, _, -, -, -, hnm, -, hc0⟩ := hm1.cel k HK.out hl
  obtain ⟨c2, _⟩ := hc0 _ (Dk.Fr.refl _ _)
  have b0 := hke.cell 0 (.int .i64 dv) rfl
  have b1 := hke.cell 1 (.int .i64 who) rfl
  have HNM := Lib.hid hm
  rw [hm] at c2
  unfold evA at *
  clear h hal hm1 hke hc0 hnok hl hm hnm
  go_enter Try.func25, Try.ntmps25
  go_upto_region 1 with fail
  generalize hwx : (w.alloc (.cells #[.int .i64 dv, .int .i64 who, .int .i64 n, .int .i64 draw] 64)) = wq at *
  generalize hX : w.heap.size = X at *
  have HWX := Lib.hid (And.intro hwx hX)
  clear hwx hX
  go_cut [4] from 7 to 14 (fun c wx => c = .int .i64 r ∧ Below wq.heap.size wq wx)
  case first =>
    go_quiet (fail)
    go_wp2_with fail
    go_meet
    exact ⟨rfl, below_dr _ _⟩
  case rest =>
    obtain ⟨rfl, hbw⟩ := hcut
    obtain ⟨wa, rfl⟩ : ∃ wa, wa = wc := ⟨_, rfl⟩
    have HMA := Lib.hid (HM.out.below hbw)
    have HKA := Lib.hid (HKE.out.below hbw)
    clear hbw c2 b0 b1
    obtain ⟨nb, no, nc, lb, lo, lc, -, hno, hnb, -, hnm, ⟨hnn, hln⟩, hc⟩ := HMA.out.cel k HK.out HLL.out
    have hxg := HXG.out
    have HXA := Lib.hid (show X ∉ Sk u k from HXS.out k HK.out)
    have HNB := Lib.hid hnb
    have HNO := Lib.hid hno
    have HC := Lib.hid hc
    obtain ⟨c2, c3, c4, cn, cl, cm⟩ := hc wa (Dk.Fr.refl _ _)
    rw [HNM.out] at c2 c3 hnm
    clear hc hnb hno
    unfold maxLen at hnm
    refine (by assumption : ∀ (a : Act) (w : World), Code.wp Try.prog _ _ a w → _) _ _ ?_
    refine wp_seq_k (fun _ _ => ?_)
    go_cut [4] from 15 to 23 (fun c wx => c = .int .i64 (k : Int) ∧ wx = wa)
    case first =>
      by_cases hr0 : r < 0
      · have q0 : decide (r < 0) = true := decide_eq_true hr0
        have hk1 := hk1 hr0
        go_wp2_with fail
        go_meet
        first | exact ⟨rfl, rfl⟩ | exact ⟨by rw [hk1], rfl⟩
      · have q0 : decide (r < 0) = false := decide_eq_false hr0
        have hk2 : r = (k : Int) := hk2 (by omega)
        go_wp2_with fail
        go_meet
        first | exact ⟨rfl, rfl⟩ | exact ⟨by rw [hk2], rfl⟩
    case rest =>
      obtain ⟨rfl, rfl⟩ := hcut
      have b0 := HKA.out.cell 0 (.int .i64 dv) rfl
      have b2 := HKA.out.cell 2 (.int .i64 n) rfl
      have b3 := HKA.out.cell 3 (.int .i64 draw) rfl
      have k0 : (0 : Int) ≤ (k : Int) := by omega
      have k1 : (k : Int) < (m : Int) := by omega
      clear hk1 hk2 hk3 hk4
      have q0 : (dv == 0) = false := by simpa using hdn.1
      have q1 : (dv == 1) = false := by simpa using hdn.2.1
      have q2 : (dv == 2) = false := by simpa using hdn.2.2.1
      have q3 : (dv == 3) = false := by simpa using hdn.2.2.2
      go_wp2_with fail
      first | go_end0 | ((try simp only [Exit.inBlock, Exit.then]); refine bodyPost_ret (results_none rfl _ _ _) rfl ?_)
      exact ⟨rfl, u, rfl, by rw [HP.out]; exact HMA.out⟩
theorem play_any (w0 : World) (u : Wl) (d : Wd) (e : Ev) (m B : Nat) (w : World) (h : Wm w0 (ids m) w u d) (hm : d.ns.length = m) (h1 : 1 ≤ m) (hm15 : m ≤ 15) (hl : d.logs.length = d.ns.length) (hsn : d.sent.length ≤ 900000) (hld : d.leads.length ≤ 100000) (hnok : ∀ i, i < m → NOk m B i (nd d i)) (hB : B ≤ 1000000) : Calls Try.prog 25 #[.pointer (some ⟨u.g, 0, none⟩), .agg #[.int .i64 e.d, .int .i64 e.who, .int .i64 e.n, .int .i64 e.draw]] w fun e' w' => e' = .returned (.tuple #[]) ∧ ∃ u', u'.g = u.g ∧ Wm w0 (ids m) w' u' (play d e) := by
  obtain ⟨dv, who, n, draw⟩ := e
  by_cases e0 : dv = 0
  · subst e0; exact play_tick w0 u d who n draw m B w h hm h1 hm15 hl hsn hld hnok hB
  by_cases e1 : dv = 1
  · subst e1; exact play_come w0 u d who n draw m B w h hm h1 hm15 hl hsn hld hnok hB
  by_cases e2 : dv = 2
  · subst e2; exact play_new w0 u d who n draw m B w h hm h1 hm15 hl hsn hld hnok hB
  by_cases e3 : dv = 3
  · subst e3; exact play_heard w0 u d who n draw m B w h hm h1 hm15 hl hsn hld hnok hB
  exact play_none w0 u d who n draw m B w h hm h1 hm15 hl hsn hld hnok hB dv ⟨e0, e1, e2, e3⟩
end Go.Proofs.Ytjajgjpkiofhmaa.El
