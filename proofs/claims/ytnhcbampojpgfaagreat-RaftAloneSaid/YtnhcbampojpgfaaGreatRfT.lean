/-
  Layer 12, that the law RaftAlone answers true. Conditions: the texts can be read.
-/
import Derived.Test.YtnhcbampojpgfaaGreatRfEnd
import Derived.Deep.QuietTactic
import Derived.BigQuiet
namespace Go.Proofs.YtnhcbampojpgfaaGreat.Rf
open Go.RowKit Go.Shelf Go.Proofs.YtnhcbampojpgfaaGreat.Fld
open Go.Proofs.YtnhcbampojpgfaaGreat.Qu (RdI)
set_option linter.unusedVariables false

theorem com_quiet {lo : Nat} {w : World} {b : PB} {s : AS} {c : Int} (h : Al lo w b s) (hcm : s.g.com = c) (k : Nat) : Calls Tryz.prog 15 #[.pointer (some ⟨b.nb, 0, none⟩)] (w.drewN k) fun e w' => e = .returned (.int .i64 c) ∧ ∃ m, w' = w.drewN m :=
  (committed_any (h.below (Qu.below_dr w k))).mono fun _ _ ⟨he, hw⟩ => ⟨by rw [he, hcm], k, hw.symm⟩
theorem aft_below {lo : Nat} {W w w' : World} {b b' : PB} {s' : AS} (hb : Below W.heap.size W w) (h : Aft lo w w' b b' s') (hl : ∀ i ∈ b.foot, lo ≤ i) (hW : W.heap.size ≤ lo) : Below W.heap.size W w' :=
  Dk.Fr.to_below hb h.fr (fun i hi => Nat.le_trans hW (hl i hi))
theorem read_row {lo : Nat} {w w' : World} {b : PB} {s : AS} {x y : Int} (h : Al lo w b s) (hrd : s.rd = [(x, y)]) (hf : Dk.Fr [b.nb] w w') : ∃ g rc, b.rv = .slice (some ⟨g, 0, none⟩) 1 rc ∧ w'.cell? ⟨g, 0, none⟩ = some (.int .i64 x) ∧ w'.cell? ⟨g, 1, none⟩ = some (.int .i64 y) := by
  have hrow := h.rv
  rw [hrd] at hrow
  have hne := Rg.row_ne hrow h.blk (by decide)
  rcases hrow.2 with ⟨_, h0⟩ | ⟨g, cap, cur, e, hg, hh, hnc, hcm, hcs, hcu⟩
  · simp at h0
  · have hgn : g ≠ b.nb := fun e' => hne (by rw [e]; simp [Value.ownBlock, e'])
    have hk : ∀ j v, (rowP [(x, y)])[j]? = some v → w'.cell? ⟨g, j, none⟩ = some v := by
      intro j v hv
      have hj : j < 2 := by
        rcases Nat.lt_or_ge j 2 with h' | h'
        · exact h'
        · rw [List.getElem?_eq_none (by simpa [rowP] using h')] at hv; cases hv
      have hc : w.cell? ⟨g, j, none⟩ = some v := by
        rw [cell_of_row w g j cur _ (0, 0) hh, ← hv, ← hcu, List.getElem?_take, if_pos (by simpa using hj), Array.getElem?_toList]
      exact (World.cell?_of_block (w := w) (hf.block g (lt_of_cell hc) (by simpa using hgn))).trans hc
    exact ⟨g, cap, e, hk 0 _ rfl, hk 1 _ rfl⟩
theorem ent_row {lo : Nat} {w : World} {v : Value} {ys : List Rg.EA} {e : Rg.En} (hrow : w.ownsRow lo 68 4 v ys.length (Rg.rowE ys)) (hd : Rg.DatO lo w ys) (he : Rg.ens ys = [e]) : ∃ g c A xc, v = .slice (some ⟨g, 0, none⟩) 1 c ∧ w.cell? ⟨g, 1, none⟩ = some (.int .i64 e.term) ∧ w.cell? ⟨g, 3, none⟩ = some (.slice A e.data.length xc) ∧ Fld.Rd w A e.data.length e.data := by
  obtain ⟨A, c, hv, ha, _⟩ := Rg.row_slice hrow
  have hl : ys.length = 1 := by have := congrArg List.length he; simpa [Rg.ens_len] using this
  match ys, hl with
  | [x], _ =>
    have hx : x.e = e := by simpa [Rg.ens] using he
    subst hx
    subst hv
    have hr := Rg.row_rdE hrow hd.dat
    obtain ⟨b, off, rfl, q0, q1, q2, q3⟩ := hr.elem 0 (by simp)
    obtain rfl : off = 0 := (ha _ rfl).2
    exact ⟨b, c, x.A, x.cap, rfl, q1, q3, (hd.dat x (by simp)).1⟩
set_option maxRecDepth 100000 in
set_option maxHeartbeats 1600000 in
theorem alone_walk (LA : Option Addr) (n cap : Nat) (ls : List (List Int)) (term : Int) (w : World) (hr : Fld.RdL w LA n ls) (hnc : n ≤ cap) : Calls Tryz.prog 5 #[.slice LA n cap, .int .i64 term] w fun e w' => e = .returned (.bool true) ∧ Below w.heap.size w w' := by
  have HAW := Lib.hid (awake_any w)
  have HR := Lib.hid hr
  have hnm := hr.2.1
  unfold maxLen at hnm
  clear hr hnc
  by_cases ht0 : term < 0
  · go_enter Tryz.func5, Tryz.ntmps5
    go_wp2_with fail
    refine HAW.out.mono ?_
    rintro e w1 ⟨rfl, hb1⟩
    have HB1 := Lib.hid hb1
    clear hb1
    go_wp2
    go_ret
    exact ⟨rfl, HB1.out⟩
  by_cases ht1 : 549755813888 < term
  · go_enter Tryz.func5, Tryz.ntmps5
    go_wp2_with fail
    refine HAW.out.mono ?_
    rintro e w1 ⟨rfl, hb1⟩
    have HB1 := Lib.hid hb1
    clear hb1
    go_wp2
    go_ret
    exact ⟨rfl, HB1.out⟩
  have HN := Lib.hid (fun W => new_one term (by omega) (by omega) W)
  have HTK := Lib.hid (fun (W : World) (lo : Nat) (b : PB) (h : Al lo W b (new0 1 term 0 0 0 1 1 (Rg.ens []))) hx => tick_one term (by omega) (by unfold El.MX; omega) h hx)
  unfold snV at HN
  go_enter Tryz.func5, Tryz.ntmps5
  go_wp2_with fail
  refine HAW.out.mono ?_
  rintro e w1 ⟨rfl, hb1⟩
  have HB1 := Lib.hid hb1
  clear hb1
  go_wp2_with fail
  refine (HN.out w1).mono ?_
  rintro e w2 ⟨b, rfl, hA, hb, hpm, hrv, hxs⟩
  have HLO := Lib.hid (show w.heap.size ≤ (w1.alloc (.cells #[.int .i64 1] 3)).heap.size by have := HB1.out.size; simp; omega)
  generalize (w1.alloc (.cells #[.int .i64 1] 3)).heap.size = lo at *
  have HA := Lib.hid hA
  have HB2 := Lib.hid (show Below w.heap.size w w2 from (HB1.out.alloc HB1.out.size _).trans (hb.mono HLO.out))
  have HT := Lib.hid (HTK.out w2 lo b hA hxs)
  clear hA hb hpm hrv hxs
  go_wp2_with fail
  refine HT.out.mono ?_
  rintro e w3 ⟨rfl, b3, s3, hA3, hr3⟩
  have HB3 := Lib.hid (aft_below HB2.out hA3 HA.out.lo HLO.out)
  have HA3 := Lib.hid hA3.im
  have HR3 := Lib.hid hr3
  have HNB := Lib.hid hA3.nb
  clear hA3 hr3
  go_wp2_with fail
  go_loopw [8] (fun i wr => ∃ (k : Nat) (bk : PB) (sk : AS), k ≤ 50 ∧ k ≤ n ∧ i = .int .i64 k ∧ Al lo wr bk sk ∧ Rnd term (k + 1) bk sk ∧ bk.nb = b.nb ∧ Below w.heap.size w wr) (fun i _ => 50 - (intOf i).toNat)
  case atStart => exact ⟨0, b3, s3, by omega, by omega, rfl, HA3.out, HR3.out, HNB.out, HB3.out⟩
  case round =>
    obtain ⟨k, bk, sk, hk, hkn, rfl, hAk, hRk, hnb, hbk⟩ := hrel
    have HAk := Lib.hid hAk
    have HRk := Lib.hid hRk
    have HBk := Lib.hid hbk
    have HNk := Lib.hid hnb
    clear hAk hRk hbk hnb
    have k0 : (0 : Int) ≤ (k : Int) := by omega
    by_cases hlt : k < n ∧ k < 50
    · have j1 : (k : Int) < (n : Int) := by omega
      have j2 : (k : Int) < 50 := by omega
      obtain ⟨bb, off, rfl, hc⟩ := HR.out.2.2 (by omega)
      obtain ⟨DA, dn, dc, hcell0, hrd, hdz⟩ := hc k hlt.1
      have hcell := (HBk.out.cell (lt_of_cell hcell0)).trans hcell0
      have HC0 := Lib.hid hcell0
      have HR0 := Lib.hid hrd
      have HRD := Lib.hid (hrd.below HBk.out)
      have HDZ := Lib.hid hdz
      have hdm := hrd.2.1
      unfold maxLen at hdm
      generalize ls.getD k [] = data at *
      clear hc hrd hdz hcell0
      by_cases hd : (4096 : Int) < (dn : Int)
      · go_wp2
        go_ret
        exact ⟨rfl, HBk.out⟩
      · have hdn := HRD.out.1
        have hpr := propose_any data DA dn dc hdn HAk.out (by rw [HRk.out.e]; rfl) HRk.out.pm (rnd_add HRk.out (by omega) data (by omega)) HRD.out HDZ.out
        rw [HNk.out, HRk.out.last, show (((k + 1 : Nat) : Int) + 1) = (k : Int) + 2 by omega] at hpr
        have HPR := Lib.hid hpr
        clear hpr
        go_wp2_with fail
        refine HPR.out.mono ?_
        rintro e w4 ⟨rfl, p4, v4, xs4, hA4', hl4⟩
        obtain ⟨b4, hA4, hR4, hn4⟩ : ∃ b4 : PB, Aft lo wr w4 bk b4 (putS sk 1 data) ∧ Rnd term (k + 1 + 1) b4 (putS sk 1 data) ∧ b4.nb = b.nb := ⟨_, hA4', rnd_put HRk.out data hl4 rfl, rfl⟩
        have HGE := Lib.hid (show Rg.getE (putS sk 1 data).g ((k : Int) + 2) 1 = [entN sk 1 data] by
          have := get_put (s := sk) (data := data) (by rw [HRk.out.base]; omega)
          rw [HRk.out.last, show (((k + 1 : Nat) : Int) + 1) = (k : Int) + 2 by omega] at this
          exact this)
        have HB4 := Lib.hid (aft_below HBk.out hA4 HAk.out.lo HLO.out)
        have HA4 := Lib.hid hA4.im
        have HR4 := Lib.hid hR4
        have HN4 := Lib.hid hn4
        have HET := Lib.hid (show (entN sk 1 data).term = term + 1 by show sk.e.term = _; rw [HRk.out.e]; rfl)
        clear hA4 hA4' hR4 hl4 hn4 hcell HPR
        generalize putS sk 1 data = s4 at *
        generalize hent : entN sk 1 data = ent at *
        have HED := Lib.hid (show ent.data = data by rw [← hent]; rfl)
        clear hent
        have hrd := read_any (k : Int) HA4.out (by rw [HR4.out.rd]; simp) (by rw [HR4.out.e]; rfl) (rnd_settled HR4.out)
        rw [HN4.out, HR4.out.rd, HR4.out.com, show (((k + 1 + 1 : Nat) : Int)) = (k : Int) + 2 by omega] at hrd
        have HRE := Lib.hid hrd
        clear hrd
        go_wp2_with fail
        refine HRE.out.mono ?_
        rintro e w5 ⟨rfl, v5, hA5'⟩
        obtain ⟨b5, hA5, hR5, hn5, hp5⟩ : ∃ b5 : PB, Aft lo w4 w5 b4 b5 { s4 with rd := [((k : Int), (k : Int) + 2)] } ∧ Rnd term (k + 1 + 1) { b5 with rv := .slice none 0 0 } { s4 with hT := s4.e.term, hV := s4.e.vote, frm := 0, rd := [] } ∧ b5.nb = b.nb ∧ b5.pm = b4.pm := ⟨_, hA5', ⟨HR4.out.e, HR4.out.base, HR4.out.last, HR4.out.com, HR4.out.lt, HR4.out.xs, rfl, HR4.out.pm⟩, rfl, rfl⟩
        have HB5 := Lib.hid (aft_below HB4.out hA5 HA4.out.lo HLO.out)
        have HA5 := Lib.hid hA5.im
        have HR5 := Lib.hid hR5
        have HN5 := Lib.hid hn5
        clear hA5 hA5' hR5 hn5 hp5 v5
        have hou := out_any HA5.out
        rw [HN5.out] at hou
        have HOU := Lib.hid hou
        clear hou
        go_wp2_with fail
        refine HOU.out.mono ?_
        rintro e w6 ⟨⟨hn, tt, tv, rfl⟩, hA6, hf6⟩
        obtain ⟨rg, rc, hrv, y0, y1⟩ := read_row HA5.out rfl hf6
        have HB6 := Lib.hid (aft_below HB5.out hA6 HA5.out.lo HLO.out)
        have HA6 := Lib.hid hA6.im
        unfold outV
        rw [hrv]
        generalize s4.frm = fr4 at *
        clear hA6 hf6 hrv
        have hb7 := Rg.alloc_below' w6 (.cells #[.bool hn, .int .i64 tt, .int .i64 tv, .bool false, .int .i64 0, .int .i64 0, .slice none 0 0, .slice none 0 0, .slice none 0 0, .int .i64 fr4, .slice none 0 0, .slice (some ⟨rg, 0, none⟩) 1 rc] 54)
        have z11 := (Rg.Blk.new w6 #[.bool hn, .int .i64 tt, .int .i64 tv, .bool false, .int .i64 0, .int .i64 0, .slice none 0 0, .slice none 0 0, .slice none 0 0, .int .i64 fr4, .slice none 0 0, .slice (some ⟨rg, 0, none⟩) 1 rc] 54).cell 11 (.slice (some ⟨rg, 0, none⟩) 1 rc) rfl
        have y1' := (hb7.cell (p := ⟨rg, 1, none⟩) (lt_of_cell y1)).trans y1
        have HA7 := Lib.hid (HA6.out.below hb7)
        have HB7 := Lib.hid (HB6.out.trans (hb7.mono HB6.out.size))
        have hgt := get_any ((k : Int) + 2) 1 HA7.out
        rw [HN5.out] at hgt
        have HGT := Lib.hid hgt
        clear y0 y1 hb7 hgt
        go_wp2_with fail
        refine HGT.out.mono ?_
        rintro e w8 ⟨v8, ys, rfl, hens, hrow, hdat, hb8⟩
        have hens' : Rg.ens ys = [ent] := hens.trans HGE.out
        obtain ⟨xg, xc, XA, xcc, hv8, x1, x3, hxd⟩ := ent_row hrow hdat hens'
        subst hv8
        rw [HET.out] at x1
        rw [HED.out, hdn] at x3 hxd
        have y1 := (hb8.cell (p := ⟨rg, 1, none⟩) (lt_of_cell y1')).trans y1'
        have z11 := (hb8.cell (p := ⟨w6.heap.size, 11, none⟩) (lt_of_cell z11)).trans z11
        have HA8 := Lib.hid (HA7.out.below hb8)
        have HB8 := Lib.hid (HB7.out.trans (hb8.mono HB7.out.size))
        have hcell8 := (HB8.out.cell (lt_of_cell HC0.out)).trans HC0.out
        have hrd8 := HR0.out.below HB8.out
        clear hens hens' hrow hdat hb8 y1'
        have HCQ := Lib.hid (fun j => com_quiet (c := (k : Int) + 2) HA8.out (by show s4.g.com = _; rw [show s4.g.com = _ from HR5.out.com]; omega) j)
        rw [HN5.out] at HCQ
        have c1 := fun j => conv_str (hxd.drewN j) xcc
        have c2 := fun j => conv_str (hrd8.drewN j) dc
        have t1 := str_same data
        have t2 : IntKind.i64.wrap ((k : Int) + 2) = (k : Int) + 2 := IntWalk.i64_in _ (by omega)
        have t3 : ((k : Int) + 2 != (k : Int) + 2) = false := bne_self_eq_false _
        have t4 : (term + 1 != term + 1) = false := bne_self_eq_false _
        have t5 : IntKind.i64.wrap (term + 1) = term + 1 := IntWalk.i64_in _ (by omega)
        have t6 : ((str data).toList != (str data).toList) = false := bne_self_eq_false _
        generalize w6.heap.size = rb at *
        go_upto_region 17 with fail
        go_quiet ((go_at_call 15; exact HCQ.out _))
        go_wp2
        go_roundw
        case rel => exact ⟨k + 1, { b5 with rv := .slice none 0 0 }, { s4 with hT := s4.e.term, hV := s4.e.vote, frm := 0, rd := [] }, by omega, by omega, by go_num, HA8.out.below (Qu.below_dr _ nq), HR5.out, HN5.out, HB8.out.trans ((Qu.below_dr _ nq).mono HB8.out.size)⟩
        case measure => simp [intOf]; omega
    · have HRO := Lib.hid (El.role_any bk.p sk.e wr HAk.out.el)
      rw [show sk.e.role = 3 by rw [HRk.out.e]; rfl] at HRO
      have hc0 := HAk.out.c0
      rw [HNk.out] at hc0
      by_cases h1 : k < n
      · have j1 : (k : Int) < (n : Int) := by omega
        have j2 : ¬ (k : Int) < 50 := by omega
        go_wp2_with fail
        refine HRO.out.mono ?_
        rintro e w4 ⟨rfl, rfl⟩
        go_wp2
        go_ret
        exact ⟨rfl, HBk.out⟩
      · have j1 : ¬ (k : Int) < (n : Int) := by omega
        go_wp2_with fail
        refine HRO.out.mono ?_
        rintro e w4 ⟨rfl, rfl⟩
        go_wp2
        go_ret
        exact ⟨rfl, HBk.out⟩
end Go.Proofs.YtnhcbampojpgfaaGreat.Rf
