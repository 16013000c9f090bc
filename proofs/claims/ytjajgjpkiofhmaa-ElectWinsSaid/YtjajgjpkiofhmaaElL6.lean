/-
  Layer 10, the law ElectWins: its walk. Conditions: the list can be read.
-/
import Derived.Test.YtjajgjpkiofhmaaElL5
import Derived.Test.YtjajgjpkiofhmaaElWiE
import Derived.Test.YtjajgjpkiofhmaaQuR
namespace Go.Proofs.Ytjajgjpkiofhmaa.El
open Go.RowKit Go.Proofs.Ytjajgjpkiofhmaa.Qu Go.Proofs.Ytjajgjpkiofhmaa.Fld
set_option linter.unusedVariables false

def plN (w : Wd) (k : Nat) : Nat → Wd
  | 0 => w
  | j + 1 => play (plN w k j) (evK k)
theorem come_len (d : Wd) (b : Bal) (hv : ∀ i, i < d.ns.length → (nd d i).vs.length ≤ 15) : (come d b).sent.length ≤ d.sent.length + 16 := by
  unfold come
  split
  · rename_i h
    show (d.sent ++ _).length ≤ _
    rw [List.length_append]
    have h1 := take_len (nd d (b.to - 1).toNat) b (lg d (b.to - 1).toNat).1 (lg d (b.to - 1).toNat).2
    have h2 := hv (b.to - 1).toNat (by omega)
    omega
  · omega
theorem come_leads (d : Wd) (b : Bal) : (come d b).leads = d.leads := by
  unfold come doN
  split <;> rfl
theorem play_len (d : Wd) (k : Nat) (h : k < d.ns.length) (hv : ∀ i, i < d.ns.length → (nd d i).vs.length ≤ 15) : (play d (evK k)).sent.length ≤ d.sent.length + 15 := by
  rw [play0 d k h]
  show (d.sent ++ _).length ≤ _
  rw [List.length_append]
  have h1 := tick_len (nd d k) 0 (lg d k).1 (lg d k).2
  have h2 := hv k h
  omega
theorem WInv.vs15 {m : Nat} {V : Vt} {B : Nat} {w : Wd} (h : WInv m V B w) (hm : m ≤ 15) : ∀ i, i < w.ns.length → (nd w i).vs.length ≤ 15 := fun i hi => by
  rw [(h.nok i (by rw [← h.nl]; exact hi)).vs, ids_len]; exact hm
theorem Wm.logc {w0 : World} {vs : List Int} {w : World} {u : Wl} {d : Wd} (h : Wm w0 vs w u d) : ∃ A c, u.lv = .slice A d.logs.length c ∧ ∀ j, j < d.logs.length → ∃ b off, A = some ⟨b, off, none⟩ ∧ w.cell? ⟨b, off + j * 2, none⟩ = some (.int .i64 (d.logs.getD j (0, 0)).1) ∧ w.cell? ⟨b, off + j * 2 + 1, none⟩ = some (.int .i64 (d.logs.getD j (0, 0)).2) := by
  obtain ⟨A, c, hv, h0, hm, hc⟩ := row_form h.rl
  refine ⟨A, c, hv, fun j hj => ?_⟩
  cases A with
  | none => have := (h0 rfl).2; omega
  | some a =>
    obtain ⟨b, off, rfl, _, _, hcell⟩ := hc a rfl
    obtain ⟨r1, r2⟩ := rowP_at d.logs j hj
    have e2 := hcell _ _ r2
    rw [← Nat.add_assoc] at e2
    exact ⟨b, off, rfl, hcell _ _ r1, e2⟩
theorem iter_end {w : Wd} {j : Nat} (hj : j ≤ 1000) (h : (iter w j).sent.length ≤ j ∨ j = 1000) : iter w 1000 = iter w j := by
  rcases h with h | h
  · have := iter_stop w j h (1000 - j)
    rwa [show j + (1000 - j) = 1000 by omega] at this
  · rw [h]
theorem Yv_iff (L : List (Int × Int)) (k i : Nat) (a b : Int × Int) (ha : L.getD i (0, 0) = a) (hb : L.getD k (0, 0) = b) : Yv L k ((i : Int) + 1) = (decide (a.2 < b.2) || ((b.2 == a.2) && decide (a.1 ≤ b.1))) := by
  unfold Yv newer
  rw [show ((i : Int) + 1 - 1).toNat = i by omega, ha, hb]
  rw [Bool.eq_iff_iff]
  simp
  omega
theorem come_logs (d : Wd) (b : Bal) : (come d b).logs = d.logs := by
  unfold come doN
  split <;> rfl
theorem iter_logs (w : Wd) : ∀ j, (iter w j).logs = w.logs
  | 0 => rfl
  | j + 1 => by
    show (if _ then come (iter w j) _ else iter w j).logs = _
    split
    · rw [come_logs, iter_logs w j]
    · exact iter_logs w j
set_option maxRecDepth 100000 in
set_option maxHeartbeats 6400000 in
theorem wins_walk (many who : Int) (LA : Option Addr) (ln lc : Nat) (ls : List (Int × Int)) (w : World) (hl : RdP w LA ln ls) :
    Calls Try.prog 6 #[.int .i64 many, .int .i64 who, .slice LA ln lc] w fun e w' => e = .returned (.bool true) ∧ Below w.heap.size w w' := by
  have HAW := Lib.hid (awake_any w)
  have HL := Lib.hid hl
  clear hl
  by_cases m1 : many < 1
  · have q1 : decide (many < 1) = true := decide_eq_true m1
    clear m1
    go_enter Try.func6, Try.ntmps6
    go_wp2_with fail
    refine (HAW.out).mono ?_
    rintro e w1 ⟨rfl, hb1⟩
    have HB1 := Lib.hid hb1
    clear hb1
    go_wp2
    go_ret
    exact ⟨rfl, HB1.out⟩
  have q1 : decide (many < 1) = false := decide_eq_false m1
  by_cases m7 : 7 < many
  · have q2 : decide (7 < many) = true := decide_eq_true m7
    clear m1 m7
    go_enter Try.func6, Try.ntmps6
    go_wp2_with fail
    refine (HAW.out).mono ?_
    rintro e w1 ⟨rfl, hb1⟩
    have HB1 := Lib.hid hb1
    clear hb1
    go_wp2
    go_ret
    exact ⟨rfl, HB1.out⟩
  have q2 : decide (7 < many) = false := decide_eq_false m7
  by_cases wh0 : who < 0
  · have q3 : decide (who < 0) = true := decide_eq_true wh0
    clear m1 m7 wh0
    go_enter Try.func6, Try.ntmps6
    go_wp2_with fail
    refine (HAW.out).mono ?_
    rintro e w1 ⟨rfl, hb1⟩
    have HB1 := Lib.hid hb1
    clear hb1
    go_wp2
    go_ret
    exact ⟨rfl, HB1.out⟩
  have q3 : decide (who < 0) = false := decide_eq_false wh0
  obtain ⟨m, rfl⟩ : ∃ m : Nat, many = (m : Int) := ⟨many.toNat, by omega⟩
  have hm1 : 1 ≤ m := by omega
  have hm7 : m ≤ 7 := by omega
  obtain ⟨k, hk⟩ : ∃ k : Nat, who.tmod (m : Int) = (k : Int) := ⟨(who.tmod (m : Int)).toNat, by have := Int.tmod_nonneg (m : Int) (show 0 ≤ who by omega); omega⟩
  have hkm : k < m := by have := Int.tmod_lt_of_pos who (show (0 : Int) < m by omega); omega
  have HKK := Lib.hid hk
  clear m1 m7 wh0
  go_enter Try.func6, Try.ntmps6
  go_wp2_with fail
  refine (HAW.out).mono ?_
  rintro e w1 ⟨rfl, hb1⟩
  have HB1 := Lib.hid hb1
  have HWD := Lib.hid (world_any m hm1 (by omega) LA ln lc ls w1 (HL.out.below hb1))
  clear hb1
  go_wp2_with fail
  refine (HWD.out).mono ?_
  rintro e w2 ⟨u, rfl, hW⟩
  have HW := Lib.hid hW
  clear hW
  generalize hg : u.g = g at *
  go_wp2_with fail
  go_loopw [10] (fun i wr => ∃ (j : Nat) (u1 : Wl) (V : Vt), j ≤ 3 ∧ i = .int .i64 (j : Int) ∧ u1.g = g ∧ Wm w1 (ids m) wr u1 (plN (El.w0 m ls) k j) ∧ WInv m V j (plN (El.w0 m ls) k j) ∧ (plN (El.w0 m ls) k j).sent.length ≤ 15 * j ∧ (plN (El.w0 m ls) k j).leads.length ≤ 0) (fun i _ => 3 - (intOf i).toNat)
  case atStart => exact ⟨0, u, _, by omega, rfl, hg, HW.out, w0_inv m ls hm1 (by omega), Nat.zero_le _, Nat.le_refl _⟩
  case round =>
    obtain ⟨j, u1, V, hj, rfl, hug, hW, hI, hsl, hld⟩ := hrel
    by_cases hj3 : j < 3
    · have q4 : decide ((j : Int) < 3) = true := by simp; omega
      have hpl := play_any w1 u1 (plN (El.w0 m ls) k j) (evK k) m j wr hW hI.nl hm1 (by omega) (by rw [hI.ll, hI.nl]) (by omega) (by omega) hI.nok (by omega)
      rw [hug] at hpl
      have HPL := Lib.hid hpl
      obtain ⟨V', hI'⟩ := play_inv hI hm1 (by omega) (evK k)
      have HI' := Lib.hid hI'
      have HS' := Lib.hid (show (plN (El.w0 m ls) k (j + 1)).sent.length ≤ 15 * (j + 1) by
        have := play_len (plN (El.w0 m ls) k j) k (by rw [hI.nl]; exact hkm) (hI.vs15 (by omega))
        show (play _ _).sent.length ≤ _
        omega)
      have HD' := Lib.hid (show (plN (El.w0 m ls) k (j + 1)).leads.length ≤ 0 by show (play _ _).leads.length ≤ 0; rw [play_leads]; exact hld)
      clear hW hI hI' hpl hsl hld
      unfold evK at HPL
      go_wp2_with fail
      refine HPL.out.mono ?_
      rintro e w3 ⟨rfl, u3, hg3, hW3⟩
      have HW3 := Lib.hid hW3
      have HG3 := Lib.hid hg3
      clear hW3 hg3
      go_wp2_with fail
      go_roundw
      case rel => exact ⟨j + 1, u3, V', by omega, by go_num, HG3.out, HW3.out, HI'.out, HS'.out, HD'.out⟩
      case measure => simp [intOf]; omega
    · have hj3' : j = 3 := by omega
      have q4 : decide ((j : Int) < 3) = false := by simp; omega
      have HW3 := Lib.hid (show Wm w1 (ids m) wr u1 (play3 (El.w0 m ls) k) by rw [hj3'] at hW; exact hW)
      have HI3 := Lib.hid (show WInv m V 3 (play3 (El.w0 m ls) k) by rw [hj3'] at hI; exact hI)
      have HS3 := Lib.hid (show (play3 (El.w0 m ls) k).sent.length ≤ 45 by rw [hj3'] at hsl; exact hsl)
      have HJ3 := Lib.hid hj3'
      clear hW hI hsl hld hj3'
      generalize hd3 : play3 (El.w0 m ls) k = d3 at *
      have HD3 := Lib.hid hd3
      clear hd3
      go_wp2_with fail
      go_loopw [11] (fun i wr => ∃ (j : Nat) (u1 : Wl) (V : Vt), j ≤ 1000 ∧ i = .int .i64 (j : Int) ∧ u1.g = g ∧ Wm w1 (ids m) wr u1 (iter d3 j) ∧ WInv m V 3 (iter d3 j) ∧ (iter d3 j).sent.length ≤ 45 + 16 * j) (fun i _ => 1000 - (intOf i).toNat)
      case atStart => exact ⟨0, u1, V, by omega, rfl, hug, HW3.out, HI3.out, HS3.out⟩
      case round =>
        obtain ⟨j, u2, V2, hj, rfl, hug2, hW, hI, hsl⟩ := hrel
        obtain ⟨SA, sc, hsv, hrb⟩ := hW.balc
        have c4 := hW.cells.2.2.2.2.1
        rw [hsv, hug2] at c4
        clear hsv
        by_cases hgo : j < (iter d3 j).sent.length ∧ j < 1000
        · obtain ⟨hj1, hj2⟩ := hgo
          have q5 : decide ((j : Int) < ((iter d3 j).sent.length : Int)) = true := by simp; omega
          have q6 : decide ((j : Int) < 1000) = true := by simp; omega
          have HST := Lib.hid (iter_step d3 j hj1)
          obtain ⟨b, off, rfl, x0, x1, x2, x3, x4, x5, x6⟩ := hrb.elem j hj1
          have hmem : (iter d3 j).sent.getD j El.b0 ∈ (iter d3 j).sent := by rw [List.getD_eq_getElem?_getD, List.getElem?_eq_getElem hj1]; exact List.getElem_mem _
          have HSTX := Lib.hid (show iter d3 (j + 1) = come (iter d3 j) ((iter d3 j).sent.getD j El.b0) from HST.out)
          clear HST
          generalize (iter d3 j).sent.getD j El.b0 = y at *
          have hco := come_any w1 (ids m) u2 (iter d3 j) y wr hW (by rw [hI.ll, hI.nl]) (by rw [hI.nl]; omega) (by omega) (hI.vs15 (by omega))
          rw [hug2] at hco
          unfold Bal.val at hco
          have HCO := Lib.hid hco
          obtain ⟨V', hI'⟩ := come_inv hI y hmem
          have HI' := Lib.hid hI'
          have HLL := Lib.hid (come_len (iter d3 j) y (hI.vs15 (by omega)))
          have HSL := Lib.hid hsl
          clear hW hI hco hI' hmem hrb hsl
          generalize hsl : (iter d3 j).sent.length = sl at *
          have k0 : (0 : Int) ≤ (j : Int) := by omega
          have k1 : (j : Int) < (sl : Int) := by omega
          go_wp2_with fail
          refine HCO.out.mono ?_
          rintro e w3 ⟨rfl, u3, hg3, hW3⟩
          have HW4 := Lib.hid hW3
          have HG4 := Lib.hid hg3
          clear hW3 hg3
          go_wp2_with fail
          go_roundw
          case rel => exact ⟨j + 1, u3, V', by omega, by go_num, HG4.out, by rw [HSTX.out]; exact HW4.out, by rw [HSTX.out]; exact HI'.out, by rw [HSTX.out]; have := HLL.out; have := HSL.out; omega⟩
          case measure => simp [intOf]; omega
        · have HEND := Lib.hid (show iter d3 1000 = iter d3 j from iter_end hj (by omega))
          clear hrb
          by_cases hA : j < (iter d3 j).sent.length
          · have hj9 : j = 1000 := by omega
            have q5 : decide ((j : Int) < ((iter d3 j).sent.length : Int)) = true := by simp; omega
            have q6 : decide ((j : Int) < 1000) = false := by simp; omega
            have HWF := Lib.hid hW
            have HIF := Lib.hid hI
            have HLG := Lib.hid (show (iter d3 j).logs = lgs m ls by rw [iter_logs, ← HD3.out]; exact (play3_is hkm ls).2.1)
            have HLM := Lib.hid (show (iter d3 j).logs.length = m from hI.ll)
            have HNM := Lib.hid (show (iter d3 j).ns.length = m from hI.nl)
            obtain ⟨LB, lbc, hlv, hlb⟩ := hW.logc
            rw [HLM.out] at hlv hlb
            rw [HLG.out] at hlb
            have HLV := Lib.hid hlv
            have HLB := Lib.hid hlb
            have HR := Lib.hid (show (nd (iter d3 j) k).role = 3 ↔ m / 2 < votesTo m ls k m by rw [← HEND.out, ← HD3.out]; exact wins_right hkm (by omega) ls)
            clear hW hI hsl hlv hlb hgo hj9
            generalize iter d3 j = dF at *
            go_wp2_with fail
            obtain ⟨wo, rfl⟩ : ∃ wo, wo = wr := ⟨_, rfl⟩
            go_loopw [12, 13] (fun vt iv wr => ∃ q : Nat, q ≤ m ∧ iv = .int .i64 (q : Int) ∧ vt = .int .i64 (votesTo m ls k q : Int) ∧ Below wo.heap.size wo wr) (fun _ iv _ => m - (intOf iv).toNat)
            case atStart => exact ⟨0, by omega, rfl, rfl, Below.refl _ _⟩
            case round =>
              obtain ⟨q, hq, rfl, rfl, hbq⟩ := hrel
              have HBQ := Lib.hid hbq
              have hvb : votesTo m ls k q ≤ q := by unfold votesTo; have := List.countP_le_length (p := Yv (lgs m ls) k) (l := ids q); rwa [ids_len] at this
              by_cases hqm : q < m
              · have k9 : decide ((q : Int) < (m : Int)) = true := by simp; omega
                obtain ⟨b, off, rfl, x0, x1⟩ := HLB.out q hqm
                obtain ⟨b', off', he', y0, y1⟩ := HLB.out k hkm
                cases he'
                have HYV := Lib.hid (Yv_iff (lgs m ls) k q _ _ rfl rfl)
                generalize (lgs m ls).getD q (0, 0) = a at *
                generalize (lgs m ls).getD k (0, 0) = bb at *
                have HCX := Lib.hid (show ∀ W, Below wo.heap.size wo W → W.cell? ⟨g, 3, none⟩ = some (.slice (some ⟨b, off, none⟩) m lbc) ∧ W.cell? ⟨b, off + q * 2, none⟩ = some (.int .i64 a.1) ∧ W.cell? ⟨b, off + q * 2 + 1, none⟩ = some (.int .i64 a.2) ∧ W.cell? ⟨b, off + k * 2, none⟩ = some (.int .i64 bb.1) ∧ W.cell? ⟨b, off + k * 2 + 1, none⟩ = some (.int .i64 bb.2) from fun W hW => by
                  have h3 := (HWF.out.below hW).cells.2.2.2.1
                  rw [HLV.out, hug2] at h3
                  exact ⟨h3, (hW.cell (lt_of_cell x0)).trans x0, (hW.cell (lt_of_cell x1)).trans x1, (hW.cell (lt_of_cell y0)).trans y0, (hW.cell (lt_of_cell y1)).trans y1⟩)
                clear x0 x1 y0 y1
                have hA := alloc_below wr (.cells #[.int .i64 a.1, .int .i64 a.2] 38)
                have hB := alloc_below (wr.alloc (.cells #[.int .i64 a.1, .int .i64 a.2] 38)) (.cells #[.int .i64 bb.1, .int .i64 bb.2] 38)
                have hb1' := hbq.trans (hA.mono hbq.size)
                have hb2' := hb1'.trans (hB.mono hb1'.size)
                have HB2 := Lib.hid hb2'
                have hsz : (wr.alloc (.cells #[.int .i64 a.1, .int .i64 a.2] 38)).heap.size = wr.heap.size + 1 := by simp
                have hka := (Blk.new wr #[.int .i64 a.1, .int .i64 a.2] 38).past (.cells #[.int .i64 bb.1, .int .i64 bb.2] 38)
                have hkb := Blk.new (wr.alloc (.cells #[.int .i64 a.1, .int .i64 a.2] 38)) #[.int .i64 bb.1, .int .i64 bb.2] 38
                rw [hsz] at hkb
                have z0 := hka.cell 0 (.int .i64 a.1) rfl
                have z1 := hka.cell 1 (.int .i64 a.2) rfl
                have v0 := hkb.cell 0 (.int .i64 bb.1) rfl
                have v1 := hkb.cell 1 (.int .i64 bb.2) rfl
                obtain ⟨f3, fx0, fx1, _, _⟩ := HCX.out wr hbq
                obtain ⟨g3, _, _, gy0, gy1⟩ := HCX.out _ hb1'
                have k0 : (0 : Int) ≤ (q : Int) := by omega
                have k1 : (q : Int) < (m : Int) := by omega
                have k2 : (0 : Int) ≤ (k : Int) := by omega
                have k3 : (k : Int) < (m : Int) := by omega
                clear hA hB hb1' hb2' hka hkb hbq hsz
                by_cases r0 : a.2 < bb.2
                · have p0 : decide (a.2 < bb.2) = true := decide_eq_true r0
                  have HV2 := Lib.hid (show (decide (a.2 < bb.2) || ((bb.2 == a.2) && decide (a.1 ≤ bb.1))) = true by simp [r0])
                  clear r0
                  go_wp2_with fail
                  go_roundw
                  case rel =>
                    refine ⟨q + 1, by omega, by go_num, ?_, HB2.out⟩
                    rw [votes_succ, HYV.out, HV2.out, if_pos rfl]
                    go_num
                  case measure => simp [intOf]; omega
                by_cases r1 : bb.2 = a.2
                · by_cases r2 : a.1 ≤ bb.1
                  · have p0 : decide (a.2 < bb.2) = false := decide_eq_false r0
                    have p1 : (bb.2 == a.2) = true := by simpa using r1
                    have p2 : decide (a.1 ≤ bb.1) = true := decide_eq_true r2
                    have HV2 := Lib.hid (show (decide (a.2 < bb.2) || ((bb.2 == a.2) && decide (a.1 ≤ bb.1))) = true by rw [p0, p1, p2]; rfl)
                    clear r0 r1 r2
                    go_wp2_with fail
                    go_roundw
                    case rel =>
                      refine ⟨q + 1, by omega, by go_num, ?_, HB2.out⟩
                      rw [votes_succ, HYV.out, HV2.out, if_pos rfl]
                      go_num
                    case measure => simp [intOf]; omega
                  · have p0 : decide (a.2 < bb.2) = false := decide_eq_false r0
                    have p1 : (bb.2 == a.2) = true := by simpa using r1
                    have p2 : decide (a.1 ≤ bb.1) = false := decide_eq_false r2
                    have HV2 := Lib.hid (show (decide (a.2 < bb.2) || ((bb.2 == a.2) && decide (a.1 ≤ bb.1))) = false by rw [p0, p1, p2]; rfl)
                    clear r0 r1 r2
                    go_wp2_with fail
                    go_roundw
                    case rel =>
                      refine ⟨q + 1, by omega, by go_num, ?_, HB2.out⟩
                      rw [votes_succ, HYV.out, HV2.out, if_neg (by decide), Nat.add_zero]
                    case measure => simp [intOf]; omega
                · have p0 : decide (a.2 < bb.2) = false := decide_eq_false r0
                  have p1 : (bb.2 == a.2) = false := by simpa using r1
                  have HV2 := Lib.hid (show (decide (a.2 < bb.2) || ((bb.2 == a.2) && decide (a.1 ≤ bb.1))) = false by rw [p0, p1]; rfl)
                  clear r0 r1
                  go_wp2_with fail
                  go_roundw
                  case rel =>
                    refine ⟨q + 1, by omega, by go_num, ?_, HB2.out⟩
                    rw [votes_succ, HYV.out, HV2.out, if_neg (by decide), Nat.add_zero]
                  case measure => simp [intOf]; omega
              · obtain rfl : q = m := by omega
                have k9 : decide ((q : Int) < (q : Int)) = false := by simp
                have HWR := Lib.hid (HWF.out.below HBQ.out)
                obtain ⟨NA, nvc, hnv, hnc⟩ := HWR.out.nodc
                rw [HNM.out] at hnv hnc
                obtain ⟨nb, no, rfl, cn⟩ := hnc k hkm
                obtain ⟨c0, c1, c2, _⟩ := HWR.out.cells
                rw [hnv, hug2] at c2
                have hrv := HWR.out.rv
                obtain ⟨VA, vc, hvv, _⟩ := row_slice hrv
                rw [hvv, ids_len] at c0 hrv
                rw [hug2] at c0 c1
                have HRG := Lib.hid (rightGroup_any VA q vc (ids q) none 0 0 [] wr (rowI_read hrv) (RdI.nil _ _))
                rw [ids_grp q hm1 (by omega)] at HRG
                unfold grpV at HRG
                have HRO := Lib.hid (role_any (u2.p k) (nd dF k) wr (HWR.out.im k (by rw [HNM.out]; exact hkm)))
                have HBW := Lib.hid (show Below w.heap.size w wr from HB1.out.trans (HWR.out.bel.mono HB1.out.size))
                have k0 : (0 : Int) ≤ (k : Int) := by omega
                have k1 : (k : Int) < (q : Int) := by omega
                clear hrv hvv hnc hnv hbq HKK HLV HLB
                generalize votesTo q ls k q = vt at *
                by_cases hr3 : (nd dF k).role = 3
                · have hvt := HR.out.1 hr3
                  rw [hr3] at HRO
                  have p5 : decide ((q : Int) / 2 < (vt : Int)) = true := by simp; omega
                  go_wp2_with fail
                  refine HRO.out.mono ?_
                  rintro e w4 ⟨rfl, rfl⟩
                  go_wp2_with fail
                  refine HRG.out.mono ?_
                  rintro e w5 ⟨rfl, hb5⟩
                  have HB5 := Lib.hid (HBW.out.trans (hb5.mono HBW.out.size))
                  clear hb5
                  go_wp2_with fail
                  go_ret
                  exact ⟨rfl, HB5.out⟩
                · have hvt := mt HR.out.2 hr3
                  have p4 : ((nd dF k).role == 3) = false := by simpa using hr3
                  have p5 : decide ((q : Int) / 2 < (vt : Int)) = false := by simp; omega
                  clear hr3
                  go_wp2_with fail
                  refine HRO.out.mono ?_
                  rintro e w4 ⟨rfl, rfl⟩
                  go_wp2_with fail
                  refine HRG.out.mono ?_
                  rintro e w5 ⟨rfl, hb5⟩
                  have HB5 := Lib.hid (HBW.out.trans (hb5.mono HBW.out.size))
                  clear hb5
                  go_wp2_with fail
                  go_ret
                  exact ⟨rfl, HB5.out⟩
          · have q5 : decide ((j : Int) < ((iter d3 j).sent.length : Int)) = false := by simp; omega
            have HWF := Lib.hid hW
            have HIF := Lib.hid hI
            have HLG := Lib.hid (show (iter d3 j).logs = lgs m ls by rw [iter_logs, ← HD3.out]; exact (play3_is hkm ls).2.1)
            have HLM := Lib.hid (show (iter d3 j).logs.length = m from hI.ll)
            have HNM := Lib.hid (show (iter d3 j).ns.length = m from hI.nl)
            obtain ⟨LB, lbc, hlv, hlb⟩ := hW.logc
            rw [HLM.out] at hlv hlb
            rw [HLG.out] at hlb
            have HLV := Lib.hid hlv
            have HLB := Lib.hid hlb
            have HR := Lib.hid (show (nd (iter d3 j) k).role = 3 ↔ m / 2 < votesTo m ls k m by rw [← HEND.out, ← HD3.out]; exact wins_right hkm (by omega) ls)
            clear hW hI hsl hlv hlb hgo
            generalize iter d3 j = dF at *
            go_wp2_with fail
            obtain ⟨wo, rfl⟩ : ∃ wo, wo = wr := ⟨_, rfl⟩
            go_loopw [12, 13] (fun vt iv wr => ∃ q : Nat, q ≤ m ∧ iv = .int .i64 (q : Int) ∧ vt = .int .i64 (votesTo m ls k q : Int) ∧ Below wo.heap.size wo wr) (fun _ iv _ => m - (intOf iv).toNat)
            case atStart => exact ⟨0, by omega, rfl, rfl, Below.refl _ _⟩
            case round =>
              obtain ⟨q, hq, rfl, rfl, hbq⟩ := hrel
              have HBQ := Lib.hid hbq
              have hvb : votesTo m ls k q ≤ q := by unfold votesTo; have := List.countP_le_length (p := Yv (lgs m ls) k) (l := ids q); rwa [ids_len] at this
              by_cases hqm : q < m
              · have k9 : decide ((q : Int) < (m : Int)) = true := by simp; omega
                obtain ⟨b, off, rfl, x0, x1⟩ := HLB.out q hqm
                obtain ⟨b', off', he', y0, y1⟩ := HLB.out k hkm
                cases he'
                have HYV := Lib.hid (Yv_iff (lgs m ls) k q _ _ rfl rfl)
                generalize (lgs m ls).getD q (0, 0) = a at *
                generalize (lgs m ls).getD k (0, 0) = bb at *
                have HCX := Lib.hid (show ∀ W, Below wo.heap.size wo W → W.cell? ⟨g, 3, none⟩ = some (.slice (some ⟨b, off, none⟩) m lbc) ∧ W.cell? ⟨b, off + q * 2, none⟩ = some (.int .i64 a.1) ∧ W.cell? ⟨b, off + q * 2 + 1, none⟩ = some (.int .i64 a.2) ∧ W.cell? ⟨b, off + k * 2, none⟩ = some (.int .i64 bb.1) ∧ W.cell? ⟨b, off + k * 2 + 1, none⟩ = some (.int .i64 bb.2) from fun W hW => by
                  have h3 := (HWF.out.below hW).cells.2.2.2.1
                  rw [HLV.out, hug2] at h3
                  exact ⟨h3, (hW.cell (lt_of_cell x0)).trans x0, (hW.cell (lt_of_cell x1)).trans x1, (hW.cell (lt_of_cell y0)).trans y0, (hW.cell (lt_of_cell y1)).trans y1⟩)
                clear x0 x1 y0 y1
                have hA := alloc_below wr (.cells #[.int .i64 a.1, .int .i64 a.2] 38)
                have hB := alloc_below (wr.alloc (.cells #[.int .i64 a.1, .int .i64 a.2] 38)) (.cells #[.int .i64 bb.1, .int .i64 bb.2] 38)
                have hb1' := hbq.trans (hA.mono hbq.size)
                have hb2' := hb1'.trans (hB.mono hb1'.size)
                have HB2 := Lib.hid hb2'
                have hsz : (wr.alloc (.cells #[.int .i64 a.1, .int .i64 a.2] 38)).heap.size = wr.heap.size + 1 := by simp
                have hka := (Blk.new wr #[.int .i64 a.1, .int .i64 a.2] 38).past (.cells #[.int .i64 bb.1, .int .i64 bb.2] 38)
                have hkb := Blk.new (wr.alloc (.cells #[.int .i64 a.1, .int .i64 a.2] 38)) #[.int .i64 bb.1, .int .i64 bb.2] 38
                rw [hsz] at hkb
                have z0 := hka.cell 0 (.int .i64 a.1) rfl
                have z1 := hka.cell 1 (.int .i64 a.2) rfl
                have v0 := hkb.cell 0 (.int .i64 bb.1) rfl
                have v1 := hkb.cell 1 (.int .i64 bb.2) rfl
                obtain ⟨f3, fx0, fx1, _, _⟩ := HCX.out wr hbq
                obtain ⟨g3, _, _, gy0, gy1⟩ := HCX.out _ hb1'
                have k0 : (0 : Int) ≤ (q : Int) := by omega
                have k1 : (q : Int) < (m : Int) := by omega
                have k2 : (0 : Int) ≤ (k : Int) := by omega
                have k3 : (k : Int) < (m : Int) := by omega
                clear hA hB hb1' hb2' hka hkb hbq hsz
                by_cases r0 : a.2 < bb.2
                · have p0 : decide (a.2 < bb.2) = true := decide_eq_true r0
                  have HV2 := Lib.hid (show (decide (a.2 < bb.2) || ((bb.2 == a.2) && decide (a.1 ≤ bb.1))) = true by simp [r0])
                  clear r0
                  go_wp2_with fail
                  go_roundw
                  case rel =>
                    refine ⟨q + 1, by omega, by go_num, ?_, HB2.out⟩
                    rw [votes_succ, HYV.out, HV2.out, if_pos rfl]
                    go_num
                  case measure => simp [intOf]; omega
                by_cases r1 : bb.2 = a.2
                · by_cases r2 : a.1 ≤ bb.1
                  · have p0 : decide (a.2 < bb.2) = false := decide_eq_false r0
                    have p1 : (bb.2 == a.2) = true := by simpa using r1
                    have p2 : decide (a.1 ≤ bb.1) = true := decide_eq_true r2
                    have HV2 := Lib.hid (show (decide (a.2 < bb.2) || ((bb.2 == a.2) && decide (a.1 ≤ bb.1))) = true by rw [p0, p1, p2]; rfl)
                    clear r0 r1 r2
                    go_wp2_with fail
                    go_roundw
                    case rel =>
                      refine ⟨q + 1, by omega, by go_num, ?_, HB2.out⟩
                      rw [votes_succ, HYV.out, HV2.out, if_pos rfl]
                      go_num
                    case measure => simp [intOf]; omega
                  · have p0 : decide (a.2 < bb.2) = false := decide_eq_false r0
                    have p1 : (bb.2 == a.2) = true := by simpa using r1
                    have p2 : decide (a.1 ≤ bb.1) = false := decide_eq_false r2
                    have HV2 := Lib.hid (show (decide (a.2 < bb.2) || ((bb.2 == a.2) && decide (a.1 ≤ bb.1))) = false by rw [p0, p1, p2]; rfl)
                    clear r0 r1 r2
                    go_wp2_with fail
                    go_roundw
                    case rel =>
                      refine ⟨q + 1, by omega, by go_num, ?_, HB2.out⟩
                      rw [votes_succ, HYV.out, HV2.out, if_neg (by decide), Nat.add_zero]
                    case measure => simp [intOf]; omega
                · have p0 : decide (a.2 < bb.2) = false := decide_eq_false r0
                  have p1 : (bb.2 == a.2) = false := by simpa using r1
                  have HV2 := Lib.hid (show (decide (a.2 < bb.2) || ((bb.2 == a.2) && decide (a.1 ≤ bb.1))) = false by rw [p0, p1]; rfl)
                  clear r0 r1
                  go_wp2_with fail
                  go_roundw
                  case rel =>
                    refine ⟨q + 1, by omega, by go_num, ?_, HB2.out⟩
                    rw [votes_succ, HYV.out, HV2.out, if_neg (by decide), Nat.add_zero]
                  case measure => simp [intOf]; omega
              · obtain rfl : q = m := by omega
                have k9 : decide ((q : Int) < (q : Int)) = false := by simp
                have HWR := Lib.hid (HWF.out.below HBQ.out)
                obtain ⟨NA, nvc, hnv, hnc⟩ := HWR.out.nodc
                rw [HNM.out] at hnv hnc
                obtain ⟨nb, no, rfl, cn⟩ := hnc k hkm
                obtain ⟨c0, c1, c2, _⟩ := HWR.out.cells
                rw [hnv, hug2] at c2
                have hrv := HWR.out.rv
                obtain ⟨VA, vc, hvv, _⟩ := row_slice hrv
                rw [hvv, ids_len] at c0 hrv
                rw [hug2] at c0 c1
                have HRG := Lib.hid (rightGroup_any VA q vc (ids q) none 0 0 [] wr (rowI_read hrv) (RdI.nil _ _))
                rw [ids_grp q hm1 (by omega)] at HRG
                unfold grpV at HRG
                have HRO := Lib.hid (role_any (u2.p k) (nd dF k) wr (HWR.out.im k (by rw [HNM.out]; exact hkm)))
                have HBW := Lib.hid (show Below w.heap.size w wr from HB1.out.trans (HWR.out.bel.mono HB1.out.size))
                have k0 : (0 : Int) ≤ (k : Int) := by omega
                have k1 : (k : Int) < (q : Int) := by omega
                clear hrv hvv hnc hnv hbq HKK HLV HLB
                generalize votesTo q ls k q = vt at *
                by_cases hr3 : (nd dF k).role = 3
                · have hvt := HR.out.1 hr3
                  rw [hr3] at HRO
                  have p5 : decide ((q : Int) / 2 < (vt : Int)) = true := by simp; omega
                  go_wp2_with fail
                  refine HRO.out.mono ?_
                  rintro e w4 ⟨rfl, rfl⟩
                  go_wp2_with fail
                  refine HRG.out.mono ?_
                  rintro e w5 ⟨rfl, hb5⟩
                  have HB5 := Lib.hid (HBW.out.trans (hb5.mono HBW.out.size))
                  clear hb5
                  go_wp2_with fail
                  go_ret
                  exact ⟨rfl, HB5.out⟩
                · have hvt := mt HR.out.2 hr3
                  have p4 : ((nd dF k).role == 3) = false := by simpa using hr3
                  have p5 : decide ((q : Int) / 2 < (vt : Int)) = false := by simp; omega
                  clear hr3
                  go_wp2_with fail
                  refine HRO.out.mono ?_
                  rintro e w4 ⟨rfl, rfl⟩
                  go_wp2_with fail
                  refine HRG.out.mono ?_
                  rintro e w5 ⟨rfl, hb5⟩
                  have HB5 := Lib.hid (HBW.out.trans (hb5.mono HBW.out.size))
                  clear hb5
                  go_wp2_with fail
                  go_ret
                  exact ⟨rfl, HB5.out⟩
end Go.Proofs.Ytjajgjpkiofhmaa.El
