/-
  Layer 12, a node that is alone: regroup. Conditions: the node lies in memory; as Leader it has a map of peers.
-/
import Derived.Test.YtnhcbampojpgfaaGreatRfB
namespace Go.Proofs.YtnhcbampojpgfaaGreat.Rf
open Go.RowKit Go.Shelf Go.Proofs.YtnhcbampojpgfaaGreat.Fld
open Go.Proofs.YtnhcbampojpgfaaGreat.Qu (RdI)
set_option linter.unusedVariables false

/-- a cell of the node's block that holds what it held -/
theorem Al.keep {lo : Nat} {w : World} {b : PB} {s : AS} (h : Al lo w b s) (i : Nat) (v : Value) (hv : (ndR b s)[i]? = some v) (hi : i < 27) : Aft lo w (w.setCell ⟨b.nb, i, none⟩ v) b b s := by
  refine h.set i v ?_ hi rfl rfl h.rv (fun _ h => h) (fun _ h => h)
  apply Array.ext_getElem?
  intro j
  rw [Array.getElem?_setIfInBounds]
  split
  · rename_i e
    subst e
    rw [if_pos (by show i < 27; exact hi), hv]
  · rfl
theorem es_eq {s : AS} (hv : s.e.vs = [s.e.id]) (hl : s.e.ls = []) : { s with e := { s.e with vs := [s.e.id], ls := [] } } = s := by
  obtain ⟨e, g, win, sI, sT, hT, hV, frm, rd⟩ := s
  obtain ⟨id, pat, term, vote, vs, ls, role, lead, wait, lim, am⟩ := e
  simp only at hv hl
  subst hv hl
  rfl
/-- its log gives entries, none of which is a change -/
theorem Al.get {lo : Nat} {w : World} {b : PB} {s : AS} (h : Al lo w b s) (f m : Int) (W : World) (hW : Below w.heap.size w W) : Calls Tryz.prog 40 #[.pointer (some ⟨b.g, 0, none⟩), .int .i64 f, .int .i64 m] W (Rg.GetIs W (Rg.getE s.g f m)) := by
  have hh := h.below hW
  obtain ⟨A, cap, _, hl, hc, _⟩ := hh.lg.slice
  refine hl.get_any hc hh.few (fun x hx => ?_) f m
  have := Rg.okL_mem hh.lg.ok.ok (e := x.e) (by rw [← hh.lg.es]; exact List.mem_map_of_mem hx)
  rw [Rg.okE_iff] at this
  omega
theorem getE_mem {s : Rg.St} {f m : Int} {x : Rg.En} (h : x ∈ Rg.getE s f m) : x ∈ s.es := by
  unfold Rg.getE at h
  split at h
  · cases h
  · exact List.mem_of_mem_drop (List.mem_of_mem_take h)
theorem Al.join {lo : Nat} {w : World} {b : PB} {s : AS} (h : Al lo w b s) (W : World) (hW : Below w.heap.size w W) : Calls Tryz.prog 103 #[.pointer (some ⟨b.p.g, 0, none⟩), grp1 b] W fun e w' => e = .returned (.int .i64 0) ∧ ∃ p', p'.g = b.p.g ∧ Aft lo W w' b { b with p := p' } s := by
  have hh := h.below hW
  have hg : Qu.grpOk [s.e.id] [] = true := by have := hh.el.ok.grp; rw [h.vs, h.ls] at this; exact this
  refine (El.joined_ok b.p s.e b.SV b.svc [s.e.id] b.SL b.slc [] W hh.el hh.sv (Qu.RdI.nil _ _) hg).mono ?_
  rintro e w' ⟨p', rfl, h1, h2, h3, h4, h5⟩
  refine ⟨rfl, p', h1, ?_⟩
  have := hh.elect h3 h1 h2 h4 h5 h.vs.symm h.ls.symm rfl
  rw [es_eq h.vs h.ls] at this
  exact this
set_option maxRecDepth 100000 in
set_option maxHeartbeats 3200000 in
theorem regroup_any {lo : Nat} {w : World} {b : PB} {s : AS} (frm : Int) (h : Al lo w b s) (hr : s.e.role = 3 → ∃ m, b.pm = some m) : Calls Tryz.prog 46 #[.pointer (some ⟨b.nb, 0, none⟩), .int .i64 frm] w fun e w' => e = .returned (.tuple #[]) ∧ ∃ p', Aft lo w w' b { b with p := p' } s := by
  have hb0 := Rg.alloc_below' w (.cells #[.int .i64 frm] 3)
  have hk0 := Rg.Blk.new w #[.int .i64 frm] 3
  have h0 := h.below hb0
  have HA0 := Lib.hid (Aft.same h hb0)
  have HK0 := Lib.hid hk0
  have HS := Lib.hid h
  have HR := Lib.hid hr
  have hset := h0.keep 9 (.slice none 0 0) rfl (by omega)
  have HSET := Lib.hid hset
  have c9 := h0.c9
  have f9 := h0.free 9
  have hne : w.heap.size ≠ b.nb := by have := h.blk.lt; omega
  have HK1 := Lib.hid (show Rg.Blk ((w.alloc (.cells #[.int .i64 frm] 3)).setCell ⟨b.nb, 9, none⟩ (.slice none 0 0)) w.heap.size #[.int .i64 frm] 3 from Qu.Blk.far hk0 _ (Ne.symm hne) _)
  clear h hb0 hk0 h0 hr hset
  go_enter Tryz.func46, Tryz.ntmps46
  go_wp2_with fail
  refine (delete0 _ _).mono ?_
  rintro e w1 ⟨rfl, rfl⟩
  go_wp2_with fail
  have HA2 := Lib.hid (HA0.out.then HSET.out)
  generalize (w.alloc (.cells #[.int .i64 frm] 3)).setCell ⟨b.nb, 9, none⟩ (.slice none 0 0) = w2 at *
  have HS2 := Lib.hid HA2.out.im
  have d3 := HS2.out.c3
  have d0 := HK1.out.cell 0 (.int .i64 frm) rfl
  have HL := Lib.hid (fun W (hW : Below w2.heap.size w2 W) => HS2.out.last W hW)
  have HGT := Lib.hid (fun W (hW : Below w2.heap.size w2 W) => HS2.out.get frm s.g.last W hW)
  have HB0 := Lib.hid (Below.refl w2.heap.size w2).drew
  clear c9 f9 hne
  go_region_held3 (fun w' => w'.cell? ⟨b.nb, 3, none⟩ = some (.pointer (some ⟨b.g, 0, none⟩)) ∧ w'.cell? ⟨w.heap.size, 0, none⟩ = some (.int .i64 frm)) (first | exact ⟨by assumption, by assumption⟩ | go_keep) (first
    | (go_at_call 39; refine (HL.out _ (by exact HB0.out)).mono ?_; rintro e w' ⟨rfl, m, rfl⟩; have k3 : (w2.drewN (1 + m)).cell? ⟨b.nb, 3, none⟩ = _ := d3; have k0 : (w2.drewN (1 + m)).cell? ⟨w.heap.size, 0, none⟩ = _ := d0; have HBm := Lib.hid (Qu.below_dr w2 (1 + m)))
    | (go_at_call 40; refine (HGT.out _ (by exact HBm.out)).mono ?_; rintro e w3 ⟨v, ys, rfl, he, hrow, hd, hb⟩; obtain ⟨A, cap, hv, _⟩ := Rg.row_slice hrow; subst hv; have k3 := (hb.cell (p := ⟨b.nb, 3, none⟩) (lt_of_cell k3)).trans k3; have k0 := (hb.cell (p := ⟨w.heap.size, 0, none⟩) (lt_of_cell k0)).trans k0; have HB3 := Lib.hid (HBm.out.trans (hb.mono HBm.out.size)); have HE := Lib.hid he; have HROW := Lib.hid hrow; have HD := Lib.hid hd; clear he hrow hd hb))
  have HS3 := Lib.hid (HS2.out.below HB3.out)
  have HRE := Lib.hid (Rg.row_rdE HROW.out HD.out.dat)
  have HKI := Lib.hid (show ∀ k, k < ys.length → ((ys.getD k Rg.ea0).e.kind == 2) = false by
    intro k hk
    have hm : (ys.getD k Rg.ea0).e ∈ Rg.ens ys := by
      rw [← Rg.ens_at ys k hk, List.getD_eq_getElem?_getD, List.getElem?_eq_getElem (by rw [Rg.ens_len]; exact hk)]
      exact List.getElem_mem _
    rw [HE.out] at hm
    have := HS.out.kind _ (getE_mem hm)
    simpa using this)
  have hmx := HRE.out.most
  unfold maxLen at hmx
  have hAB := fun (W : World) (hW : Below w3.heap.size w3 W) => HRE.out.below hW
  have HRB := Lib.hid hAB
  clear k3 k0 hAB
  generalize hyn : ys.length = yn at *
  go_wp2
  go_loopw [27] (fun i wr => ∃ k : Nat, k ≤ yn ∧ i = .int .i64 k ∧ Below w3.heap.size w3 wr) (fun i _ => yn - (intOf i).toNat)
  case atStart => exact ⟨0, Nat.zero_le _, rfl, Below.refl _ _⟩
  case round =>
    obtain ⟨k, hk, rfl, hb⟩ := hrel
    have HB := Lib.hid hb
    clear hb
    by_cases hlt : k < yn
    · obtain ⟨bk, off, rfl, q0, q1, q2, q3⟩ := (HRB.out wr HB.out).elem k hlt
      have hki := HKI.out k hlt
      generalize ys.getD k Rg.ea0 = x at *
      obtain ⟨⟨idx, term, kind, data⟩, XA, xc⟩ := x
      simp only at q0 q1 q2 q3 hki
      generalize data.length = D at *
      have k0 : (0 : Int) ≤ (k : Int) := by omega
      have k1 : (k : Int) < (yn : Int) := by omega
      have HB2 := Lib.hid (fun ob => HB.out.alloc HB.out.size ob)
      go_wp2
      go_roundw
      case rel => exact ⟨k + 1, by omega, by go_num, HB2.out _⟩
      case measure => simp [intOf]; omega
    · obtain rfl : k = yn := by omega
      have HSr := Lib.hid (HS3.out.below HB.out)
      have HAr := Lib.hid ((HA2.out.to HB3.out).to HB.out)
      have HGR := Lib.hid (fun W (hW : Below wr.heap.size wr W) => HSr.out.group W hW)
      have HJ := Lib.hid (fun W (hW : Below wr.heap.size wr W) => HSr.out.join W hW)
      have e0 := HSr.out.c0
      have HBd := Lib.hid (Below.refl wr.heap.size wr).drew
      go_wp2_with fail
      go_region_held3 (fun w' => w'.cell? ⟨b.nb, 0, none⟩ = some (.pointer (some ⟨b.p.g, 0, none⟩))) (first | exact (by assumption) | go_keep) (first
        | (go_at_call 55; refine (HGR.out _ (by exact HBd.out)).mono ?_; rintro e w4 ⟨rfl, hb4⟩; have e0 := (hb4.cell (p := ⟨b.nb, 0, none⟩) (lt_of_cell e0)).trans (show World.cell? wr.drew _ = _ from e0); have HB4 := Lib.hid (HBd.out.trans hb4); clear hb4)
        | (go_at_call 103; refine (HJ.out _ (by exact HB4.out)).mono ?_; rintro e w5 ⟨rfl, p', hpg, hp'⟩; have HA5 := Lib.hid ((HAr.out.to HB4.out).then hp'); have e0 : w5.cell? ⟨b.nb, 0, none⟩ = some (.pointer (some ⟨b.p.g, 0, none⟩)) := by rw [← hpg]; exact hp'.im.c0
           have HPG := Lib.hid hpg; clear hp' hpg))
      have HRO := Lib.hid (show Calls Tryz.prog 12 #[.pointer (some ⟨b.p.g, 0, none⟩)] w5 fun e w' => e = .returned (.int .i64 s.e.role) ∧ w5 = w' by rw [← HPG.out]; exact El.role_any p' s.e w5 HA5.out.im.el)
      go_wp2_with fail
      refine HRO.out.mono ?_
      rintro e w' ⟨rfl, rfl⟩
      by_cases h3 : s.e.role = 3
      · obtain ⟨mm, hmm⟩ := HR.out h3
        have HME := Lib.hid (meet_any HA5.out.im (m := mm) hmm)
        have q3 : (s.e.role == 3) = true := by simp [h3]
        clear h3
        go_wp2_with fail
        refine HME.out.mono ?_
        rintro e w6 ⟨rfl, hA6⟩
        have HA6 := Lib.hid (HA5.out.then hA6)
        clear hA6
        go_wp2
        go_end0
        exact ⟨rfl, p', HA6.out⟩
      · have q3 : (s.e.role == 3) = false := by simp [h3]
        clear h3
        go_wp2
        go_end0
        exact ⟨rfl, p', HA5.out⟩
end Go.Proofs.YtnhcbampojpgfaaGreat.Rf
