/-
  Layer 8: Back in the program: sort.Search over terms. Conditions: the log lies in memory as it was made.
-/
import Derived.Test.YtafjgaapefhggaaRlgC
namespace Go.Proofs.Ytafjgaapefhggaa.Rg
open Go.RowKit Go.Proofs.Ytafjgaapefhggaa.Fld
set_option linter.unusedVariables false

set_option maxRecDepth 100000 in
set_option maxHeartbeats 1600000 in
theorem search_any (n : Nat) (p : Nat → Bool) (c1 c2 c3 : Value) (w : World) (hn : n ≤ 1099511627776) (hmono : ∀ a b, a ≤ b → b < n → p a = true → p b = true)
    (hf : ∀ (k : Nat) (W : World), k < n → Still w W → Calls Try.prog 60 #[.int .i64 (k : Int), c1, c2, c3] W fun e w' => e = .returned (.bool (p k)) ∧ ∃ m, w' = W.drewN m) :
    Calls Try.prog 59 #[.int .i64 (n : Int), .func (.func 60) #[] #[c1, c2, c3]] w fun e w' => ∃ u : Nat, e = .returned (.int .i64 (u : Int)) ∧ Still w w' ∧ u ≤ n ∧ (∀ k, k < u → p k = false) ∧ ∀ k, u ≤ k → k < n → p k = true := by
  have HF := Lib.hid hf
  have HM := Lib.hid hmono
  clear hf hmono
  go_enter Try.func59, Try.ntmps59
  go_wp2
  go_loopw [5, 6] (fun iv jv wr => ∃ i j : Nat, i ≤ j ∧ j ≤ n ∧ iv = .int .i64 i ∧ jv = .int .i64 j ∧ (∀ k, k < i → p k = false) ∧ (∀ k, j ≤ k → k < n → p k = true) ∧ Still w wr) (fun iv jv _ => (intOf jv - intOf iv).toNat)
  case atStart => exact ⟨0, n, Nat.zero_le _, Nat.le_refl _, rfl, rfl, (fun k hk => by omega), (fun k h1 h2 => by omega), Still.refl _⟩
  case round =>
    obtain ⟨i, j, hij, hjn, rfl, rfl, hlo, hhi, hst⟩ := hrel
    have HLO := Lib.hid hlo
    have HHI := Lib.hid hhi
    have HST := Lib.hid hst
    clear hlo hhi hst
    by_cases hlt : i < j
    · have k1 : (i : Int) < (j : Int) := by omega
      go_wp2_with fail
      obtain ⟨h, hh⟩ : ∃ h : Nat, h = (i + j) / 2 := ⟨_, rfl⟩
      have e : ((i : Int) + (j : Int)) / 2 = (h : Int) := by omega
      rw [e]
      have h1 : i ≤ h := by omega
      have h2 : h < j := by omega
      clear e hh
      refine (HF.out h wr (by omega) HST.out).mono ?_
      rintro e w1 ⟨rfl, hw⟩
      have HS1 := Lib.hid (HST.out.trans (show Still wr w1 by obtain ⟨m, rfl⟩ := hw; exact still_drewN _ _))
      clear hw
      cases hp : p h with
      | true =>
        have HP := Lib.hid hp
        clear hp
        go_wp2
        go_roundw
        case rel => exact ⟨i, h, h1, by omega, rfl, rfl, HLO.out, (fun k k1 k2 => HM.out h k k1 k2 HP.out), HS1.out⟩
        case measure => simp [intOf]; omega
      | false =>
        have HP := Lib.hid hp
        clear hp
        go_wp2
        go_roundw
        case rel => exact ⟨h + 1, j, by omega, hjn, by go_num, rfl, (fun k k1 => by
          cases hk : p k with
          | false => rfl
          | true =>
            have := HM.out k h (by omega) (by omega) hk
            rw [HP.out] at this
            cases this), HHI.out, HS1.out⟩
        case measure => simp [intOf]; omega
    · obtain rfl : i = j := by omega
      go_wp2
      go_ret
      exact ⟨i, rfl, HST.out, hjn, HLO.out, HHI.out⟩
/-- what Back tells: as many places behind the base, of most M -/
def BackU (s : St) (M : Nat) (t : Int) (u : Nat) : Prop := u ≤ M ∧ (∀ k, k < u → entT s (k + 1) ≤ t) ∧ ∀ k, u ≤ k → k < M → t < entT s (k + 1)
def backM (s : St) (i : Int) : Nat := (min i s.last - s.base).toNat
theorem backM_le (s : St) (i : Int) : backM s i ≤ s.es.length := by
  unfold backM St.last
  omega
theorem BackU.one {s : St} {M : Nat} {t : Int} {u u' : Nat} (h : BackU s M t u) (h' : BackU s M t u') : u = u' := by
  obtain ⟨a1, a2, a3⟩ := h
  obtain ⟨b1, b2, b3⟩ := h'
  rcases Nat.lt_trichotomy u u' with hl | hl | hl
  · have := a3 u (Nat.le_refl _) (by omega)
    have := b2 u hl
    omega
  · exact hl
  · have := b3 u' (Nat.le_refl _) (by omega)
    have := a2 u' hl
    omega
set_option maxRecDepth 100000 in
set_option maxHeartbeats 1600000 in
theorem up1_any (g P3 P4 P6 : Nat) (s : St) (A : Option Addr) (n cap : Nat) (ys : List EA) (t : Int) (k : Nat) (w : World) (h : Lo w g s A n cap ys) (hk : k < n) (h4 : Blk w P4 #[.pointer (some ⟨g, 0, none⟩)] 22) (h6 : Blk w P6 #[.int .i64 t] 3) (h3 : Blk w P3 #[.func (.func 14) #[] #[]] 78) :
    Calls Try.prog 60 #[.int .i64 (k : Int), .pointer (some ⟨P3, 0, none⟩), .pointer (some ⟨P4, 0, none⟩), .pointer (some ⟨P6, 0, none⟩)] w fun e w' => e = .returned (.bool (decide (t < entT s (k + 1)))) ∧ ∃ m, w' = w.drewN m := by
  have c4 := h4.cell 0 _ rfl
  have c3 := h3.cell 0 _ rfl
  have c6 := h6.cell 0 _ rfl
  have H4 := Lib.hid h4
  have H3 := Lib.hid h3
  have H6 := Lib.hid h6
  have HL := Lib.hid h
  have hb0 := h.b0
  have hb1 := h.b1
  have HT := Lib.hid (show termV s (s.base + 1 + (k : Int)) = entT s (k + 1) by
    unfold termV
    rw [if_pos (by rw [termB_iff]; unfold St.last; rw [h.n]; omega), show (s.base + 1 + (k : Int) - s.base).toNat = k + 1 by omega])
  have HF := Lib.hid (fun W (hW : Still w W) => first_any g s.base s.bt s.com s.app (.slice A n cap) W (h.lb.still hW) h.b0 (by omega))
  have HTD := Lib.hid (show ∀ W, Still w W → Calls Try.prog 14 #[.pointer (some ⟨g, 0, none⟩), .int .i64 (s.base + 1 + (k : Int))] W fun e w' => e = .returned (.tuple #[.int .i64 (entT s (k + 1)), .bool (termB s (s.base + 1 + (k : Int)))]) ∧ ∃ m, w' = W.drewN m from fun W hW => by
    have := (h.still hW).term_dr (s.base + 1 + (k : Int))
    rw [HT.out] at this
    exact this)
  have ew : IntKind.i64.wrap (s.base + 1 + (k : Int)) = s.base + 1 + (k : Int) := by
    simp only [IntKind.wrap, IntKind.bits, IntKind.signed]
    simp
    omega
  have HTW := Lib.hid (show ∀ W, Still w W → Calls Try.prog 14 #[.pointer (some ⟨g, 0, none⟩), .int .i64 (IntKind.i64.wrap (s.base + 1 + (k : Int)))] W fun e w' => e = .returned (.tuple #[.int .i64 (entT s (k + 1)), .bool (termB s (s.base + 1 + (k : Int)))]) ∧ ∃ m, w' = W.drewN m from fun W hW => by
    rw [ew]
    exact HTD.out W hW)
  clear h h4 h3 h6 HTW hb0 hb1
  generalize entT s (k + 1) = T at *
  generalize termB s (s.base + 1 + (k : Int)) = TB at *
  go_enter Try.func60, Try.ntmps60
  go_wp2_with fail
  refine wp_region_quiet_lit (by kernel_rfl) (by kernel_rfl) ?_
  repeat (go_big_quiet_step ((go_at_call 24; exact quiet_eq ⟨_, rfl⟩ (HF.out _ (still_drewN _ _)))))
  refine wpQuiet_step (fun K hK => ?_)
  go_simp
  refine Exists.intro (.tuple #[.int .i64 T, .bool TB]) ⟨fun a => ?_, hK _ ?_⟩
  · exact quiet_dr ⟨_, rfl⟩ (HTD.out _ (still_drewN _ _))
  clear hK K ew
  repeat (go_big_quiet_step (fail))
  refine wpQuiet_nil ?_
  intro _ hw'
  obtain ⟨nq, hw''⟩ := hw'
  subst hw''
  have HS := Lib.hid (still_drewN w nq)
  have d6 := (H6.out.still HS.out).cell 0 (.int .i64 t) rfl
  go_wp2
  go_ret
  exact ⟨rfl, _, rfl⟩
theorem entB_mono {s : St} (h : s.Ok) (t : Int) (a b : Nat) (hab : a ≤ b) (hb : b < s.es.length) (ha : decide (t < entT s (a + 1)) = true) : decide (t < entT s (b + 1)) = true := by
  have := entT_mono h (a + 1) (b + 1) (by omega) (by omega)
  simp only [decide_eq_true_eq] at ha ⊢
  omega
theorem wrap64_in (z : Int) (h0 : -9223372036854775808 ≤ z) (h1 : z ≤ 9223372036854775807) : wrap64 z = z := by
  unfold wrap64
  omega
set_option maxRecDepth 100000 in
set_option maxHeartbeats 1600000 in
theorem upTo_any (g : Nat) (s : St) (A : Option Addr) (n cap : Nat) (ys : List EA) (i t : Int) (w : World) (h : Lo w g s A n cap ys) (ok : s.Ok) (hi : i ≤ s.last) (hi2 : -9223372036854775808 ≤ i) :
    Calls Try.prog 44 #[.pointer (some ⟨g, 0, none⟩), .int .i64 i, .int .i64 t, .func (.func 14) #[] #[]] w fun e w' => ∃ u : Nat, e = .returned (.int .i64 (s.base + u)) ∧ BackU s (i - s.base).toNat t u ∧ Below w.heap.size w w' := by
  have hmf : ∀ (fn : Fn) (first cap : Array Value) (w : World), (Instr.makeFunc fn first cap).run Try.prog w = .ok (.func fn first cap) w := fun _ _ _ _ => rfl
  obtain ⟨w1, hw1⟩ : ∃ w1, w.alloc (.cells #[.pointer (some ⟨g, 0, none⟩)] 22) = w1 := ⟨_, rfl⟩
  obtain ⟨w2, hw2⟩ : ∃ w2, w1.alloc (.cells #[.int .i64 t] 3) = w2 := ⟨_, rfl⟩
  obtain ⟨w3, hw3⟩ : ∃ w3, w2.alloc (.cells #[.func (.func 14) #[] #[]] 78) = w3 := ⟨_, rfl⟩
  have z1 : w1.heap.size = w.heap.size + 1 := by rw [← hw1]; simp
  have z2 : w2.heap.size = w.heap.size + 2 := by rw [← hw2]; simp [z1]
  have hb3 : Below w.heap.size w w3 := by
    rw [← hw3, ← hw2, ← hw1]
    exact (((Below.refl _ _).alloc (Nat.le_refl _) _).alloc (by simp) _).alloc (by simp; omega) _
  have h4 : Blk w3 w.heap.size #[.pointer (some ⟨g, 0, none⟩)] 22 := by
    rw [← hw3, ← hw2, ← hw1]
    exact ((Blk.new w _ _).past _).past _
  have h6 : Blk w3 (w.heap.size + 1) #[.int .i64 t] 3 := by
    rw [← hw3, ← hw2, ← z1]
    exact (Blk.new w1 _ _).past _
  have h3 : Blk w3 (w.heap.size + 2) #[.func (.func 14) #[] #[]] 78 := by
    rw [← hw3, ← z2]
    exact Blk.new w2 _ _
  have hlo3 := h.below hb3
  have hlen := h.n
  have HB := Lib.hid hb3
  have H4 := Lib.hid h4
  have H6 := Lib.hid h6
  have H3 := Lib.hid h3
  have HL := Lib.hid hlo3
  have hb0 := h.b0
  have hb1 := h.b1
  have HW := Lib.hid (And.intro hw1 (And.intro hw2 hw3))
  obtain ⟨M, hM⟩ : ∃ M : Nat, M = (i - s.base).toNat := ⟨_, rfl⟩
  have hMn : M ≤ n := by unfold St.last at hi; omega
  have HSE := Lib.hid (fun W (hW : Still w3 W) => search_any M (fun k => decide (t < entT s (k + 1))) (.pointer (some ⟨w.heap.size + 2, 0, none⟩)) (.pointer (some ⟨w.heap.size, 0, none⟩)) (.pointer (some ⟨w.heap.size + 1, 0, none⟩)) W (by omega) (fun a b hab hbM hp => entB_mono ok t a b hab (by omega) hp) (fun k W' hk hW' => up1_any g (w.heap.size + 2) w.heap.size (w.heap.size + 1) s A n cap ys t k W' (hlo3.still (hW.trans hW')) (by omega) (h4.still (hW.trans hW')) (h6.still (hW.trans hW')) (h3.still (hW.trans hW'))))
  have c4 : w3.cell? ⟨w.heap.size, 0, none⟩ = some (.pointer (some ⟨g, 0, none⟩)) := h4.cell 0 _ rfl
  obtain ⟨d0, d1, d2, d3, d4⟩ := hlo3.lb.cells
  rw [← hM]
  have HMM := Lib.hid hM
  have HBU := Lib.hid (show ∀ u, u ≤ M → (∀ k, k < u → decide (t < entT s (k + 1)) = false) → (∀ k, u ≤ k → k < M → decide (t < entT s (k + 1)) = true) → BackU s M t u from fun u h1 h2 h3 => ⟨h1, fun k hk => by have := h2 k hk; simp only [decide_eq_false_iff_not] at this; omega, fun k hk hk2 => by have := h3 k hk hk2; simpa using this⟩)
  have w0 : wrap64 0 = 0 := wrap64_in 0 (by omega) (by omega)
  have EW := Lib.hid (show ∀ u : Nat, u ≤ M → IntKind.i64.wrap (s.base + (u : Int)) = s.base + (u : Int) from fun u hu => by
    simp only [IntKind.wrap, IntKind.bits, IntKind.signed]
    simp
    omega)
  clear h4 h6 h3 hlo3 h hw1 hw2 hw3 hM
  by_cases hib : i < s.base
  · have hM0 : M = 0 := by rw [HMM.out]; omega
    have HS0 := Lib.hid (show ∀ W, Still w3 W → Calls Try.prog 59 #[.int .i64 0, .func (.func 60) #[] #[.pointer (some ⟨w.heap.size + 2, 0, none⟩), .pointer (some ⟨w.heap.size, 0, none⟩), .pointer (some ⟨w.heap.size + 1, 0, none⟩)]] W fun e w' => ∃ u : Nat, e = .returned (.int .i64 (u : Int)) ∧ Still W w' ∧ u ≤ M ∧ (∀ k, k < u → decide (t < entT s (k + 1)) = false) ∧ ∀ k, u ≤ k → k < M → decide (t < entT s (k + 1)) = true from fun W hW => by
      have := HSE.out W hW
      have e0 : ((M : Nat) : Int) = 0 := by omega
      rw [e0] at this
      exact this)
    clear hM0
    clear HSE
    go_enter Try.func44, Try.ntmps44
    go_wp2_with fail
    rw [HW.out.1, HW.out.2.1, HW.out.2.2]
    go_quiet (fail)
    have HS3 := Lib.hid (still_drewN w3 nq)
    generalize w3.drewN nq = w4 at *
    have e4 : w4.cell? ⟨w.heap.size, 0, none⟩ = some (.pointer (some ⟨g, 0, none⟩)) := (H4.out.still HS3.out).cell 0 _ rfl
    obtain ⟨e0, e1, e2, e3, _⟩ := (HL.out.still HS3.out).lb.cells
    go_wp2_with fail
    go_region_held3 (fun w' => w'.cell? ⟨w.heap.size, 0, none⟩ = some (.pointer (some ⟨g, 0, none⟩)) ∧ w'.cell? ⟨g, 0, none⟩ = some (.int .i64 s.base)) (first | exact ⟨by assumption, by assumption⟩ | go_keep) ((go_at_call 59; refine (HS0.out _ (by exact HS3.out.drew)).mono ?_; rintro e w5 ⟨u, rfl, hst, hu1, hu2, hu3⟩; have HS5 := Lib.hid (HS3.out.trans (show Still w4 w5 from hst)); have HU := Lib.hid (HBU.out u hu1 hu2 hu3); have f4 : w5.cell? ⟨w.heap.size, 0, none⟩ = some (.pointer (some ⟨g, 0, none⟩)) := (H4.out.still HS5.out).cell 0 _ rfl; have g0 := (HL.out.still HS5.out).lb.cells.1; have eu := EW.out u hu1; clear hst hu2 hu3))
    all_goals
      go_wp2
      go_ret
      exact ⟨u, rfl, HU.out, HB.out.trans (below_still HS5.out HB.out.size)⟩
  · have hMi : i - s.base = (M : Int) := by rw [HMM.out]; omega
    have HS0 := Lib.hid (show ∀ W, Still w3 W → Calls Try.prog 59 #[.int .i64 (i - s.base), .func (.func 60) #[] #[.pointer (some ⟨w.heap.size + 2, 0, none⟩), .pointer (some ⟨w.heap.size, 0, none⟩), .pointer (some ⟨w.heap.size + 1, 0, none⟩)]] W fun e w' => ∃ u : Nat, e = .returned (.int .i64 (u : Int)) ∧ Still W w' ∧ u ≤ M ∧ (∀ k, k < u → decide (t < entT s (k + 1)) = false) ∧ ∀ k, u ≤ k → k < M → decide (t < entT s (k + 1)) = true from fun W hW => by
      rw [hMi]
      exact HSE.out W hW)
    have hi3 : i ≤ 1099511627776 := by omega
    clear HSE hMi
    go_enter Try.func44, Try.ntmps44
    go_wp2_with fail
    rw [HW.out.1, HW.out.2.1, HW.out.2.2]
    go_quiet (fail)
    have HS3 := Lib.hid (still_drewN w3 nq)
    generalize w3.drewN nq = w4 at *
    have e4 : w4.cell? ⟨w.heap.size, 0, none⟩ = some (.pointer (some ⟨g, 0, none⟩)) := (H4.out.still HS3.out).cell 0 _ rfl
    obtain ⟨e0, e1, e2, e3, _⟩ := (HL.out.still HS3.out).lb.cells
    go_wp2_with fail
    go_region_held3 (fun w' => w'.cell? ⟨w.heap.size, 0, none⟩ = some (.pointer (some ⟨g, 0, none⟩)) ∧ w'.cell? ⟨g, 0, none⟩ = some (.int .i64 s.base)) (first | exact ⟨by assumption, by assumption⟩ | go_keep) ((go_at_call 59; refine (HS0.out _ (by exact HS3.out.drew)).mono ?_; rintro e w5 ⟨u, rfl, hst, hu1, hu2, hu3⟩; have HS5 := Lib.hid (HS3.out.trans (show Still w4 w5 from hst)); have HU := Lib.hid (HBU.out u hu1 hu2 hu3); have f4 : w5.cell? ⟨w.heap.size, 0, none⟩ = some (.pointer (some ⟨g, 0, none⟩)) := (H4.out.still HS5.out).cell 0 _ rfl; have g0 := (HL.out.still HS5.out).lb.cells.1; have eu := EW.out u hu1; clear hst hu2 hu3))
    all_goals
      go_wp2
      go_ret
      exact ⟨u, rfl, HU.out, HB.out.trans (below_still HS5.out HB.out.size)⟩
set_option maxRecDepth 100000 in
theorem back_any (g : Nat) (s : St) (A : Option Addr) (n cap : Nat) (ys : List EA) (i t : Int) (w : World) (h : Lo w g s A n cap ys) (ok : s.Ok) (hi : -9223372036854775808 ≤ i) :
    Calls Try.prog 19 #[.pointer (some ⟨g, 0, none⟩), .int .i64 i, .int .i64 t] w fun e w' => ∃ u : Nat, e = .returned (.int .i64 (s.base + u)) ∧ BackU s (backM s i) t u ∧ Below w.heap.size w w' := by
  have HL := Lib.hid h
  have hb0 := ok.b0
  have hsl : 0 ≤ s.last := by unfold St.last; omega
  have HU := Lib.hid (fun W (hW : Still w W) => upTo_any g s A n cap ys (min i s.last) t W (h.still hW) ok (Int.min_le_right _ _) (by omega))
  have HBM := Lib.hid (show (min i s.last - s.base).toNat = backM s i from rfl)
  clear h
  by_cases hil : i ≤ s.last
  · have hmn : min i s.last = i := by omega
    rw [hmn] at HU HBM
    clear hmn
    go_enter Try.func19, Try.ntmps19
    go_wp2_with fail
    refine HL.out.last_dr.mono ?_
    rintro e w1 ⟨rfl, hw⟩
    have HS1 := Lib.hid (show Still w w1 by obtain ⟨k, rfl⟩ := hw; exact still_drewN _ _)
    clear hw
    go_wp2_with fail
    refine (HU.out _ HS1.out).mono ?_
    rintro e w2 ⟨u, rfl, hu, hb⟩
    have HUU := Lib.hid hu
    have HB := Lib.hid hb
    clear hu hb
    go_wp2
    go_ret
    exact ⟨u, rfl, by rw [← HBM.out]; exact HUU.out, (below_still HS1.out (Nat.le_refl _)).trans (HB.out.mono (by rw [HS1.out.1]; exact Nat.le_refl _))⟩
  · have hmn : min i s.last = s.last := by omega
    rw [hmn] at HU HBM
    clear hmn
    go_enter Try.func19, Try.ntmps19
    go_wp2_with fail
    refine HL.out.last_dr.mono ?_
    rintro e w1 ⟨rfl, hw⟩
    have HS1 := Lib.hid (show Still w w1 by obtain ⟨k, rfl⟩ := hw; exact still_drewN _ _)
    clear hw
    go_wp2_with fail
    refine (HU.out _ HS1.out).mono ?_
    rintro e w2 ⟨u, rfl, hu, hb⟩
    have HUU := Lib.hid hu
    have HB := Lib.hid hb
    clear hu hb
    go_wp2
    go_ret
    exact ⟨u, rfl, by rw [← HBM.out]; exact HUU.out, (below_still HS1.out (Nat.le_refl _)).trans (HB.out.mono (by rw [HS1.out.1]; exact Nat.le_refl _))⟩
end Go.Proofs.Ytafjgaapefhggaa.Rg
