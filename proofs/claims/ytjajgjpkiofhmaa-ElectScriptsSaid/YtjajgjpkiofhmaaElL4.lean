/-
  Layer 10, the law ElectScripts: its walk. Conditions: the lists can be read.
-/
import Derived.Test.YtjajgjpkiofhmaaElAw
import Derived.Test.YtjajgjpkiofhmaaElR7
import Derived.Test.YtjajgjpkiofhmaaElSame
import Derived.Test.YtjajgjpkiofhmaaElK5
import Derived.Deep.CutRange
import Derived.Deep.CutBlock
namespace Go.Proofs.Ytjajgjpkiofhmaa.El
open Go.RowKit Go.Proofs.Ytjajgjpkiofhmaa.Qu Go.Proofs.Ytjajgjpkiofhmaa.Fld
set_option linter.unusedVariables false

def joinS (s : St) (vs ls : List Int) : St := if grpOk vs ls then { s with vs := vs, ls := ls } else s
/-- what a step makes of a node -/
def scrDo (s : St) (a : Stp) : St := if a.d = 0 then (tick s a.draw a.l0 a.l1).1 else if a.d = 1 then (take s a.b a.l0 a.l1).1 else if a.d = 2 then heard s a.b.frm a.b.term else if a.d = 3 then joinS s a.vs a.ls else s
theorem scrDo_wait (s : St) (h : 0 ≤ s.wait) (a : Stp) : (scrDo s a).wait ≤ s.wait + 1 := by
  unfold scrDo
  split
  · exact (tick_same s h _ _ _).2.2.2.2
  split
  · have := (take_same s h a.b a.l0 a.l1).2.2.2.2; omega
  split
  · have := (heard_same s h a.b.frm a.b.term).2.2.2.2; omega
  split
  · unfold joinS
    split
    · show s.wait ≤ s.wait + 1; omega
    · omega
  · omega
theorem rdI_lt {w : World} {A : Option Addr} {n : Nat} {l : List Int} (h : RdI w A n l) : ∀ a, A = some a → 0 < n → a.block < w.heap.size := by
  intro a ha hn
  obtain ⟨b, off, e, hc⟩ := h.2.2 hn
  rw [ha] at e
  cases e
  exact lt_of_cell (hc 0 hn)
theorem two_new {w wr : World} {p : Pl} {q : Ql} {s r : St} {N : Nat} (h : Pr w wr p q s r N) : wr.heap.size ∉ p.ft ∧ wr.heap.size ∉ q.foot :=
  ⟨fun hm => by have := (h.new _ (Pl.ft_all hm)).2; omega, fun hm => by have := (h.rm.rb.flt _ hm).2; omega⟩
set_option maxRecDepth 100000 in
set_option maxHeartbeats 6400000 in
theorem scripts_walk (id t v : Int) (VA : Option Addr) (vc : Nat) (vs : List Int) (LA : Option Addr) (lc : Nat) (ls : List Int) (pat : Int) (DA : Option Addr) (dn dc : Nat) (ds : List Stp) (w : World) (hv : RdI w VA vs.length vs) (hl : RdI w LA ls.length ls) (hd : RdSt w DA dn ds) :
    Calls Try.prog 3 #[.agg #[.int .i64 id, .int .i64 t, .int .i64 v, .slice VA vs.length vc, .slice LA ls.length lc, .int .i64 pat], .slice DA dn dc] w fun e w' => e = .returned (.bool true) ∧ Below w.heap.size w w' := by
  have hal := alloc_below w (.cells (whoC id t v VA vs.length vc LA ls.length lc pat) 28)
  have hk := Blk.new w (whoC id t v VA vs.length vc LA ls.length lc pat) 28
  have HAL := Lib.hid hal
  have HD := Lib.hid (fun W (hW : Below w.heap.size w W) k hk => hd.at13 hW k hk)
  have HDL := Lib.hid hd.1
  have HDA := Lib.hid hd.2.2.2
  have hdm := hd.2.1
  unfold maxLen at hdm
  have HAW := Lib.hid (fun W => awake_any W)
  have HKC := Lib.hid (fun W (hW : Below (w.alloc (.cells (whoC id t v VA vs.length vc LA ls.length lc pat) 28)).heap.size (w.alloc (.cells (whoC id t v VA vs.length vc LA ls.length lc pat) 28)) W) => show W.cell? ⟨w.heap.size, 0, none⟩ = some (.int .i64 id) ∧ W.cell? ⟨w.heap.size, 1, none⟩ = some (.int .i64 t) ∧ W.cell? ⟨w.heap.size, 2, none⟩ = some (.int .i64 v) ∧ W.cell? ⟨w.heap.size, 3, none⟩ = some (.slice VA vs.length vc) ∧ W.cell? ⟨w.heap.size, 4, none⟩ = some (.slice LA ls.length lc) ∧ W.cell? ⟨w.heap.size, 5, none⟩ = some (.int .i64 pat) from
    ⟨(hk.below hW).cell 0 _ rfl, (hk.below hW).cell 1 _ rfl, (hk.below hW).cell 2 _ rfl, (hk.below hW).cell 3 _ rfl, (hk.below hW).cell 4 _ rfl, (hk.below hW).cell 5 _ rfl⟩)
  unfold whoC at HAL HKC
  cases hn : newOk id t v vs ls pat with
  | false =>
    have HN := Lib.hid (fun W (hW : Below w.heap.size w W) => new_bad id t v pat VA vc vs LA lc ls W (hv.below hW) (hl.below hW) hn)
    have HRN := Lib.hid (fun W (hW : Below w.heap.size w W) => rnew_bad (lo := 0) id t v pat VA vc vs LA lc ls W (hv.below hW) (hl.below hW) hn)
    unfold grpV at HN HRN
    clear hal hk hn hv hl hd
    go_enter Try.func3, Try.ntmps3
    go_wp2_with fail
    refine (HAW.out _).mono ?_
    rintro e w1 ⟨rfl, hb1⟩
    have HB1 := Lib.hid (HAL.out.trans (hb1.mono HAL.out.size))
    have HX1 := Lib.hid hb1
    obtain ⟨k0, k1, k2, k3, k4, k5⟩ := HKC.out w1 hb1
    clear hb1
    go_wp2_with fail
    refine (HN.out _ (by exact HB1.out)).mono ?_
    rintro e w2 ⟨rfl, hb2⟩
    have HB2 := Lib.hid (HB1.out.trans (hb2.mono HB1.out.size))
    obtain ⟨k0, k1, k2, k3, k4, k5⟩ := HKC.out w2 (HX1.out.trans (hb2.mono HX1.out.size))
    clear hb2
    go_wp2_with fail
    refine (HRN.out _ (by exact HB2.out)).mono ?_
    rintro e w3 ⟨rfl, hb3⟩
    have HB3 := Lib.hid (HB2.out.trans (hb3.mono HB2.out.size))
    clear hb3 k0 k1 k2 k3 k4 k5
    go_wp2_with fail
    go_loopw [10] (fun i wr => i = .int .i64 0 ∧ wr = w3) (fun i _ => 0)
    case atStart => exact ⟨rfl, rfl⟩
    case round =>
      obtain ⟨rfl, rfl⟩ := hrel
      by_cases hlt : 0 < dn
      · have q1 : decide ((0 : Int) < (dn : Int)) = true := by simp; omega
        go_wp2
        go_ret
        exact ⟨rfl, HB3.out⟩
      · have q1 : decide ((0 : Int) < (dn : Int)) = false := by simp; omega
        go_wp2
        go_ret
        exact ⟨rfl, HB3.out⟩
  | true =>
    have HN := Lib.hid (fun W (hW : Below w.heap.size w W) => new_ok id t v pat VA vc vs LA lc ls W (hv.below hW) (hl.below hW) hn)
    have HRN := Lib.hid (fun W (hW : Below w.heap.size w W) => rnew_ok (lo := w.heap.size) id t v pat VA vc vs LA lc ls W (hv.below hW) (hl.below hW) hn hW.size (rdI_lt hv) (rdI_lt hl) 1)
    unfold grpV at HN HRN
    clear hal hk hn hv hl hd
    go_enter Try.func3, Try.ntmps3
    go_wp2_with fail
    refine (HAW.out _).mono ?_
    rintro e w1 ⟨rfl, hb1⟩
    have HB1 := Lib.hid (HAL.out.trans (hb1.mono HAL.out.size))
    have HX1 := Lib.hid hb1
    obtain ⟨k0, k1, k2, k3, k4, k5⟩ := HKC.out w1 hb1
    clear hb1
    go_wp2_with fail
    refine (HN.out _ (by exact HB1.out)).mono ?_
    rintro e w2 ⟨p, rfl, hm⟩
    have HM := Lib.hid hm
    have HB2 := Lib.hid (HB1.out.trans (hm.bel.mono HB1.out.size))
    obtain ⟨k0, k1, k2, k3, k4, k5⟩ := HKC.out w2 (HX1.out.trans (hm.bel.mono HX1.out.size))
    clear hm
    go_wp2_with fail
    refine (HRN.out _ (by exact HB2.out)).mono ?_
    rintro e w3 ⟨q, rfl, hk⟩
    have HP := Lib.hid (Pr.start HB1.out HM.out hk)
    clear hk k0 k1 k2 k3 k4 k5
    go_wp2_with fail
    go_loopw [10] (fun i wr => ∃ (k : Nat) (p' : Pl) (q' : Ql) (s : St), k ≤ dn ∧ k ≤ 200 ∧ i = .int .i64 (k : Int) ∧ p'.g = p.g ∧ q'.g = q.g ∧ Pr w wr p' q' s s (k + 1) ∧ s.wait ≤ (k : Int)) (fun i _ => dn - (intOf i).toNat)
    case atStart => exact ⟨0, p, q, _, Nat.zero_le _, by omega, rfl, rfl, rfl, HP.out, Int.le_refl _⟩
    case round =>
      obtain ⟨k, p', q', s, hk, hk2, rfl, hg1, hg2, hP, hws⟩ := hrel
      have HPk := Lib.hid hP
      have HG1 := Lib.hid hg1
      have HG2 := Lib.hid hg2
      have HWS := Lib.hid hws
      clear hP hg1 hg2 hws
      by_cases hlt : k < dn
      · by_cases hl1 : k < 200
        · have q1 : decide ((k : Int) < 200) = true := by simp; omega
          have hlk : k < ds.length := by rw [HDL.out]; exact hlt
          obtain ⟨bb, off, rfl, hcell⟩ := HD.out wr HPk.out.bel k hlk
          have HSO := Lib.hid (HDA.out _ (List.getElem_mem hlk))
          generalize ds[k] = a at *
          have x0 := hcell 0 (.int .i64 a.d) (by omega) rfl
          rw [Nat.add_zero] at x0
          have x1 := hcell 1 (.int .i64 a.draw) (by omega) rfl
          have x2 := hcell 2 (.int .i64 a.l0) (by omega) rfl
          have x3 := hcell 3 (.int .i64 a.l1) (by omega) rfl
          have x4 := hcell 4 (.int .i64 a.b.kind) (by omega) rfl
          have x5 := hcell 5 (.int .i64 a.b.frm) (by omega) rfl
          have x6 := hcell 6 (.int .i64 a.b.to) (by omega) rfl
          have x7 := hcell 7 (.int .i64 a.b.term) (by omega) rfl
          have x8 := hcell 8 (.int .i64 a.b.idx) (by omega) rfl
          have x9 := hcell 9 (.int .i64 a.b.lt) (by omega) rfl
          have x10 := hcell 10 (.bool a.b.yes) (by omega) rfl
          have x11 := hcell 11 (.slice a.VA a.vs.length a.vc) (by omega) rfl
          have x12 := hcell 12 (.slice a.LA a.ls.length a.lc) (by omega) rfl
          clear hcell
          have hbB := alloc_below wr (.cells (stpC a) 42)
          have HKB := Lib.hid (Blk.new wr (stpC a) 42)
          have HPB := Lib.hid (HPk.out.below hbB)
          have HNB := Lib.hid (two_new HPk.out)
          have HSW := Lib.hid (scrDo_wait s HPk.out.im.ok.w0 a)
          have hws := HWS.out
          unfold stpC at HKB HPB
          clear hbB
          go_upto_block 2 with fail
          clear x0 x1 x2 x3 x4 x5 x6 x7 x8 x9 x10 x11 x12
          generalize (wr.alloc (.cells #[.int .i64 a.d, .int .i64 a.draw, .int .i64 a.l0, .int .i64 a.l1, .int .i64 a.b.kind, .int .i64 a.b.frm, .int .i64 a.b.to, .int .i64 a.b.term, .int .i64 a.b.idx, .int .i64 a.b.lt, .bool a.b.yes, .slice a.VA a.vs.length a.vc, .slice a.LA a.ls.length a.lc] 42)) = wb at *
          generalize hX : wr.heap.size = X at *
          have HXW := Lib.hid hX
          clear hX
          have y0 := HKB.out.cell 0 (.int .i64 a.d) rfl
          have y1 := HKB.out.cell 1 (.int .i64 a.draw) rfl
          have y2 := HKB.out.cell 2 (.int .i64 a.l0) rfl
          have y3 := HKB.out.cell 3 (.int .i64 a.l1) rfl
          have y4 := HKB.out.cell 4 (.int .i64 a.b.kind) rfl
          have y5 := HKB.out.cell 5 (.int .i64 a.b.frm) rfl
          have y6 := HKB.out.cell 6 (.int .i64 a.b.to) rfl
          have y7 := HKB.out.cell 7 (.int .i64 a.b.term) rfl
          have y8 := HKB.out.cell 8 (.int .i64 a.b.idx) rfl
          have y9 := HKB.out.cell 9 (.int .i64 a.b.lt) rfl
          have y10 := HKB.out.cell 10 (.bool a.b.yes) rfl
          have y11 := HKB.out.cell 11 (.slice a.VA a.vs.length a.vc) rfl
          have y12 := HKB.out.cell 12 (.slice a.LA a.ls.length a.lc) rfl
          go_cut [12, 13, 14, 15, 16, 17, 18] from 58 to 162 (fun _ _ _ _ _ _ _ wx => ∃ p1 q1, p1.g = p.g ∧ q1.g = q.g ∧ Pr w wx p1 q1 (scrDo s a) (scrDo s a) (k + 2))
          case first =>
            by_cases d0 : a.d = 0
            · have q2 : (a.d == 0) = true := by simp [d0]
              have HE := Lib.hid (show scrDo s a = (tick s a.draw a.l0 a.l1).1 by unfold scrDo; rw [if_pos d0])
              have HT := Lib.hid (tick_any p' s a.draw a.l0 a.l1 wb HPB.out.im (by omega))
              have HRF := Lib.hid (fun W (hW : Rm w.heap.size (k + 1) W q' s) => rtick_any q' s a.draw a.l0 a.l1 W hW (by omega) (by omega))
              rw [HG1.out] at HT
              rw [HG2.out] at HRF
              clear d0
              go_wp2_with fail
              refine HT.out.mono ?_
              rintro e w4 ⟨v4, rfl, hA⟩
              have HA := Lib.hid hA
              have HP4 := Lib.hid (HPB.out.left1 hA.did)
              have hk4 := blk_fr HKB.out hA.did.fr HNB.out.1
              clear y0 y1 y2 y3 y4 y5 y6 y7 y8 y9 y10 y11 y12
              have y0 := hk4.cell 0 (.int .i64 a.d) rfl
              have y1 := hk4.cell 1 (.int .i64 a.draw) rfl
              have y2 := hk4.cell 2 (.int .i64 a.l0) rfl
              have y3 := hk4.cell 3 (.int .i64 a.l1) rfl
              have y4 := hk4.cell 4 (.int .i64 a.b.kind) rfl
              have y5 := hk4.cell 5 (.int .i64 a.b.frm) rfl
              have y6 := hk4.cell 6 (.int .i64 a.b.to) rfl
              have y7 := hk4.cell 7 (.int .i64 a.b.term) rfl
              have y8 := hk4.cell 8 (.int .i64 a.b.idx) rfl
              have y9 := hk4.cell 9 (.int .i64 a.b.lt) rfl
              have y10 := hk4.cell 10 (.bool a.b.yes) rfl
              have y11 := hk4.cell 11 (.slice a.VA a.vs.length a.vc) rfl
              have y12 := hk4.cell 12 (.slice a.LA a.ls.length a.lc) rfl
              clear hA hk4
              go_wp2_with fail
              refine (HRF.out _ (by exact HP4.out.rm)).mono ?_
              rintro e w5 ⟨v5, q5, rfl, hB⟩
              obtain ⟨A, n, c, A', c', e1, e2, r1, r2⟩ := two_rows HP4.out HA.out.out (fun i hi => (HPB.out.rm.rb.flt i hi).2) hB
              subst e1 e2
              have HSM := Lib.hid (ballots_same A n c _ A' c' w5 r1 r2)
              have hp5 := HP4.out.right hB.did
              rw [← HE.out] at hp5
              have HP5 := Lib.hid hp5
              have HGB := Lib.hid (hB.g.trans HG2.out)
              clear hp5 r1 r2 hB y0 y1 y2 y3 y4 y5 y6 y7 y8 y9 y10 y11 y12
              go_wp2_with fail
              refine HSM.out.mono ?_
              rintro e w6 ⟨rfl, hb6⟩
              have HP6 := Lib.hid (HP5.out.below hb6)
              clear hb6
              go_wp2_with fail
              go_meet
              exact ⟨p', q5, HG1.out, HGB.out, HP6.out.mono (by omega)⟩
            have q2 : (a.d == 0) = false := by simpa using d0
            by_cases d1 : a.d = 1
            · have q3 : (a.d == 1) = true := by simp [d1]
              have HE := Lib.hid (show scrDo s a = (take s a.b a.l0 a.l1).1 by unfold scrDo; rw [if_neg d0, if_pos d1])
              have HT := Lib.hid (take_any p' s a.b a.l0 a.l1 wb HPB.out.im)
              have HRF := Lib.hid (fun W (hW : Rm w.heap.size (k + 1) W q' s) => rtake_any q' s a.b a.l0 a.l1 W hW (by omega) (by omega))
              unfold Bal.val at HT HRF
              rw [HG1.out] at HT
              rw [HG2.out] at HRF
              clear d0 d1
              go_wp2_with fail
              refine HT.out.mono ?_
              rintro e w4 ⟨v4, rfl, hA⟩
              have HA := Lib.hid hA
              have HP4 := Lib.hid (HPB.out.left1 hA.did)
              have hk4 := blk_fr HKB.out hA.did.fr HNB.out.1
              clear y0 y1 y2 y3 y4 y5 y6 y7 y8 y9 y10 y11 y12
              have y0 := hk4.cell 0 (.int .i64 a.d) rfl
              have y1 := hk4.cell 1 (.int .i64 a.draw) rfl
              have y2 := hk4.cell 2 (.int .i64 a.l0) rfl
              have y3 := hk4.cell 3 (.int .i64 a.l1) rfl
              have y4 := hk4.cell 4 (.int .i64 a.b.kind) rfl
              have y5 := hk4.cell 5 (.int .i64 a.b.frm) rfl
              have y6 := hk4.cell 6 (.int .i64 a.b.to) rfl
              have y7 := hk4.cell 7 (.int .i64 a.b.term) rfl
              have y8 := hk4.cell 8 (.int .i64 a.b.idx) rfl
              have y9 := hk4.cell 9 (.int .i64 a.b.lt) rfl
              have y10 := hk4.cell 10 (.bool a.b.yes) rfl
              have y11 := hk4.cell 11 (.slice a.VA a.vs.length a.vc) rfl
              have y12 := hk4.cell 12 (.slice a.LA a.ls.length a.lc) rfl
              clear hA hk4
              go_wp2_with fail
              refine (HRF.out _ (by exact HP4.out.rm)).mono ?_
              rintro e w5 ⟨v5, q5, rfl, hB⟩
              obtain ⟨A, n, c, A', c', e1, e2, r1, r2⟩ := two_rows HP4.out HA.out.out (fun i hi => (HPB.out.rm.rb.flt i hi).2) hB
              subst e1 e2
              have HSM := Lib.hid (ballots_same A n c _ A' c' w5 r1 r2)
              have hp5 := HP4.out.right hB.did
              rw [← HE.out] at hp5
              have HP5 := Lib.hid hp5
              have HGB := Lib.hid (hB.g.trans HG2.out)
              clear hp5 r1 r2 hB y0 y1 y2 y3 y4 y5 y6 y7 y8 y9 y10 y11 y12
              go_wp2_with fail
              refine HSM.out.mono ?_
              rintro e w6 ⟨rfl, hb6⟩
              have HP6 := Lib.hid (HP5.out.below hb6)
              clear hb6
              go_wp2_with fail
              go_meet
              exact ⟨p', q5, HG1.out, HGB.out, HP6.out.mono (by omega)⟩
            have q3 : (a.d == 1) = false := by simpa using d1
            by_cases d2 : a.d = 2
            · have q4 : (a.d == 2) = true := by simp [d2]
              have HE := Lib.hid (show scrDo s a = heard s a.b.frm a.b.term by unfold scrDo; rw [if_neg d0, if_neg d1, if_pos d2])
              have HT := Lib.hid (heard_any p' s a.b.frm a.b.term wb HPB.out.im)
              have HRF := Lib.hid (fun W (hW : Rm w.heap.size (k + 1) W q' s) => rheard_any q' s a.b.frm a.b.term W hW)
              rw [HG1.out] at HT
              rw [HG2.out] at HRF
              generalize hears s a.b.frm a.b.term = hr at HT HRF
              clear d0 d1 d2
              go_wp2_with fail
              refine HT.out.mono ?_
              rintro e w4 ⟨rfl, hA⟩
              have HP4 := Lib.hid (HPB.out.left1 hA)
              have hk4 := blk_fr HKB.out hA.fr HNB.out.1
              clear y0 y1 y2 y3 y4 y5 y6 y7 y8 y9 y10 y11 y12
              have y0 := hk4.cell 0 (.int .i64 a.d) rfl
              have y1 := hk4.cell 1 (.int .i64 a.draw) rfl
              have y2 := hk4.cell 2 (.int .i64 a.l0) rfl
              have y3 := hk4.cell 3 (.int .i64 a.l1) rfl
              have y4 := hk4.cell 4 (.int .i64 a.b.kind) rfl
              have y5 := hk4.cell 5 (.int .i64 a.b.frm) rfl
              have y6 := hk4.cell 6 (.int .i64 a.b.to) rfl
              have y7 := hk4.cell 7 (.int .i64 a.b.term) rfl
              have y8 := hk4.cell 8 (.int .i64 a.b.idx) rfl
              have y9 := hk4.cell 9 (.int .i64 a.b.lt) rfl
              have y10 := hk4.cell 10 (.bool a.b.yes) rfl
              have y11 := hk4.cell 11 (.slice a.VA a.vs.length a.vc) rfl
              have y12 := hk4.cell 12 (.slice a.LA a.ls.length a.lc) rfl
              clear hA hk4
              go_wp2_with fail
              refine (HRF.out _ (by exact HP4.out.rm)).mono ?_
              rintro e w5 ⟨rfl, q5, hB, hg5⟩
              have hp5 := HP4.out.right hB
              rw [← HE.out] at hp5
              have HP5 := Lib.hid hp5
              have HGB := Lib.hid hg5
              clear hp5 hB hg5 y0 y1 y2 y3 y4 y5 y6 y7 y8 y9 y10 y11 y12
              cases hr
              all_goals
                go_wp2_with fail
                go_meet
                exact ⟨p', q5, HG1.out, HGB.out, HP5.out.mono (by omega)⟩
            have q4 : (a.d == 2) = false := by simpa using d2
            by_cases d3 : a.d = 3
            · have q5 : (a.d == 3) = true := by simp [d3]
              have HE := Lib.hid (show scrDo s a = joinS s a.vs a.ls by unfold scrDo; rw [if_neg d0, if_neg d1, if_neg d2, if_pos d3])
              clear d0 d1 d2 d3
              cases hg : grpOk a.vs a.ls with
              | true =>
                have HJ := Lib.hid (show scrDo s a = { s with vs := a.vs, ls := a.ls } by rw [HE.out]; unfold joinS; rw [if_pos hg])
                have HT := Lib.hid (joined_ok p' s a.VA a.vc a.vs a.LA a.lc a.ls wb HPB.out.im (HSO.out.vs.below HPB.out.bel) (HSO.out.ls.below HPB.out.bel) hg)
                have HRF := Lib.hid (fun W (hW : Rm w.heap.size (k + 1) W q' s) (hb : Below w.heap.size w W) => rjoin_ok q' s a.VA a.vc a.vs a.LA a.lc a.ls W hW (HSO.out.vs.below hb) (HSO.out.ls.below hb) hg (rdI_lt HSO.out.vs) (rdI_lt HSO.out.ls))
                unfold grpV at HT HRF
                rw [HG1.out] at HT
                rw [HG2.out] at HRF
                clear hg
                go_wp2_with fail
                refine HT.out.mono ?_
                rintro e w4 ⟨p4, rfl, hga, hgb, hA, hall, hlt4⟩
                have hft : p4.ft = p'.ft := by unfold Pl.ft; rw [hgb, hga, HG1.out]
                have HP4 := Lib.hid (HPB.out.left hA hft hall hlt4)
                have hk4 := blk_fr HKB.out hA.fr (by rw [hft]; exact HNB.out.1)
                have HGA := Lib.hid (show p4.g = p.g by rw [hga])
                clear y0 y1 y2 y3 y4 y5 y6 y7 y8 y9 y10 y11 y12
                have y0 := hk4.cell 0 (.int .i64 a.d) rfl
                have y1 := hk4.cell 1 (.int .i64 a.draw) rfl
                have y2 := hk4.cell 2 (.int .i64 a.l0) rfl
                have y3 := hk4.cell 3 (.int .i64 a.l1) rfl
                have y4 := hk4.cell 4 (.int .i64 a.b.kind) rfl
                have y5 := hk4.cell 5 (.int .i64 a.b.frm) rfl
                have y6 := hk4.cell 6 (.int .i64 a.b.to) rfl
                have y7 := hk4.cell 7 (.int .i64 a.b.term) rfl
                have y8 := hk4.cell 8 (.int .i64 a.b.idx) rfl
                have y9 := hk4.cell 9 (.int .i64 a.b.lt) rfl
                have y10 := hk4.cell 10 (.bool a.b.yes) rfl
                have y11 := hk4.cell 11 (.slice a.VA a.vs.length a.vc) rfl
                have y12 := hk4.cell 12 (.slice a.LA a.ls.length a.lc) rfl
                clear hA hk4 hft hga hgb hall hlt4
                go_wp2_with fail
                refine (HRF.out _ (by exact HP4.out.rm) (by exact HP4.out.bel)).mono ?_
                rintro e w5 ⟨rfl, hB⟩
                have hp5 := HP4.out.right hB
                rw [← HJ.out] at hp5
                have HP5 := Lib.hid hp5
                clear hp5 hB y0 y1 y2 y3 y4 y5 y6 y7 y8 y9 y10 y11 y12
                go_wp2_with fail
                go_meet
                exact ⟨p4, { g := q.g, VA := a.VA, vc := a.vc, LA := a.LA, lc := a.lc, yv := q'.yv, nv := q'.nv, yl := q'.yl, nl := q'.nl }, HGA.out, rfl, HP5.out.mono (by omega)⟩
              | false =>
                have HJ := Lib.hid (show scrDo s a = s by rw [HE.out]; unfold joinS; rw [if_neg (by rw [hg]; simp)])
                have HT := Lib.hid (joined_bad p' s a.VA a.vc a.vs a.LA a.lc a.ls wb HPB.out.im (HSO.out.vs.below HPB.out.bel) (HSO.out.ls.below HPB.out.bel) hg)
                have HRF := Lib.hid (fun W (hW : Rm w.heap.size (k + 1) W q' s) (hb : Below w.heap.size w W) => rjoin_bad q' s a.VA a.vc a.vs a.LA a.lc a.ls W hW (HSO.out.vs.below hb) (HSO.out.ls.below hb) hg)
                unfold grpV at HT HRF
                rw [HG1.out] at HT
                rw [HG2.out] at HRF
                clear hg
                go_wp2_with fail
                refine HT.out.mono ?_
                rintro e w4 ⟨rfl, hb4⟩
                have HP4 := Lib.hid (HPB.out.below hb4)
                have hk4 := HKB.out.below hb4
                clear y0 y1 y2 y3 y4 y5 y6 y7 y8 y9 y10 y11 y12
                have y0 := hk4.cell 0 (.int .i64 a.d) rfl
                have y1 := hk4.cell 1 (.int .i64 a.draw) rfl
                have y2 := hk4.cell 2 (.int .i64 a.l0) rfl
                have y3 := hk4.cell 3 (.int .i64 a.l1) rfl
                have y4 := hk4.cell 4 (.int .i64 a.b.kind) rfl
                have y5 := hk4.cell 5 (.int .i64 a.b.frm) rfl
                have y6 := hk4.cell 6 (.int .i64 a.b.to) rfl
                have y7 := hk4.cell 7 (.int .i64 a.b.term) rfl
                have y8 := hk4.cell 8 (.int .i64 a.b.idx) rfl
                have y9 := hk4.cell 9 (.int .i64 a.b.lt) rfl
                have y10 := hk4.cell 10 (.bool a.b.yes) rfl
                have y11 := hk4.cell 11 (.slice a.VA a.vs.length a.vc) rfl
                have y12 := hk4.cell 12 (.slice a.LA a.ls.length a.lc) rfl
                clear hb4 hk4
                go_wp2_with fail
                refine (HRF.out _ (by exact HP4.out.rm) (by exact HP4.out.bel)).mono ?_
                rintro e w5 ⟨rfl, hb5⟩
                have hp5 := HP4.out.below hb5
                rw [← HJ.out] at hp5
                have HP5 := Lib.hid hp5
                clear hp5 hb5 y0 y1 y2 y3 y4 y5 y6 y7 y8 y9 y10 y11 y12
                go_wp2_with fail
                go_meet
                exact ⟨p', q', HG1.out, HG2.out, HP5.out.mono (by omega)⟩
            · have q5 : (a.d == 3) = false := by simpa using d3
              have HE := Lib.hid (show scrDo s a = s by unfold scrDo; rw [if_neg d0, if_neg d1, if_neg d2, if_neg d3])
              have hp5 := HPB.out
              rw [← HE.out] at hp5
              have HP5 := Lib.hid hp5
              clear hp5 d0 d1 d2 d3
              go_wp2_with fail
              go_meet
              exact ⟨p', q', HG1.out, HG2.out, HP5.out.mono (by omega)⟩
          case rest =>
            obtain ⟨p1, q1', hga, hgb, hp⟩ := hcut
            obtain ⟨w4, rfl⟩ : ∃ w4, w4 = wc := ⟨_, rfl⟩
            have HP4 := Lib.hid hp
            have HGA := Lib.hid hga
            have HGB := Lib.hid hgb
            clear hp hga hgb y0 y1 y2 y3 y4 y5 y6 y7 y8 y9 y10 y11 y12
            have hsw := HSW.out
            generalize scrDo s a = s' at *
            obtain ⟨_, c1, c2, _, _, _, c6, c7, _⟩ := HP4.out.rm.rb.cells
            rw [HGB.out] at c1 c2 c6 c7
            have HH := Lib.hid (fun W (hW : Below w4.heap.size w4 W) => hard_any p1 s' W (HP4.out.im.below hW))
            have HR := Lib.hid (fun W (hW : Below w4.heap.size w4 W) => role_any p1 s' W (HP4.out.im.below hW))
            have HL := Lib.hid (fun W (hW : Below w4.heap.size w4 W) => leader_any p1 s' W (HP4.out.im.below hW))
            rw [HGA.out] at HH HR HL
            have u1 : (s'.term == s'.term) = true := by simp
            have u2 : (s'.vote == s'.vote) = true := by simp
            have u3 : (s'.role == s'.role) = true := by simp
            have u4 : (s'.lead == s'.lead) = true := by simp
            go_upto_region 30 with fail
            go_cut [187] from 163 to 186 (fun c wx => c = .bool false ∧ Below w4.heap.size w4 wx)
            case first =>
              go_region_held3 (fun w' => w'.cell? ⟨q.g, 1, none⟩ = some (.int .i64 s'.term) ∧ w'.cell? ⟨q.g, 2, none⟩ = some (.int .i64 s'.vote) ∧ w'.cell? ⟨q.g, 6, none⟩ = some (.int .i64 s'.role) ∧ w'.cell? ⟨q.g, 7, none⟩ = some (.int .i64 s'.lead)) (first | exact ⟨by assumption, by assumption, by assumption, by assumption⟩ | go_keep) (first
                | (go_at_call 21; refine (HH.out _ (by exact below_d1 w4)).mono ?_; rintro e w5 ⟨rfl, hb5⟩; have HB5 := Lib.hid ((below_d1 w4).trans hb5); have z1 := (hb5.cell (lt_of_cell (show World.cell? _ _ = some _ from c1))).trans c1; have z2 := (hb5.cell (lt_of_cell (show World.cell? _ _ = some _ from c2))).trans c2; have z6 := (hb5.cell (lt_of_cell (show World.cell? _ _ = some _ from c6))).trans c6; have z7 := (hb5.cell (lt_of_cell (show World.cell? _ _ = some _ from c7))).trans c7; clear hb5)
                | (go_at_call 22; refine (HR.out _ (by exact HB5.out)).mono ?_; rintro e w6 ⟨rfl, rfl⟩)
                | (go_at_call 23; refine (HL.out _ (by exact HB5.out)).mono ?_; rintro e w6 ⟨rfl, rfl⟩))
              all_goals
                go_wp2_with fail
                go_meet
                exact ⟨rfl, HB5.out⟩
            case rest =>
              obtain ⟨rfl, hbw⟩ := hcut
              have HP5 := Lib.hid (HP4.out.below hbw)
              clear hbw c1 c2 c6 c7
              go_wp2_with fail
              go_roundw
              case rel =>
                exact ⟨k + 1, p1, q1', s', by omega, by omega, by go_num, HGA.out, HGB.out, HP5.out, by omega⟩
              case measure => simp [intOf]; omega
        · have q1 : decide ((k : Int) < 200) = false := by simp; omega
          go_wp2
          go_ret
          exact ⟨rfl, HPk.out.bel⟩
      · obtain rfl : k = dn := by omega
        go_wp2
        go_ret
        exact ⟨rfl, HPk.out.bel⟩
end Go.Proofs.Ytjajgjpkiofhmaa.El
