/-
  Several texts in one: Layer 12, a node that is alone: regroup. Conditions: the node lies in memory; as Leader it has a map of peers. Layer 12, a node that is alone: wrote, sendBeats, sendAll, add. Conditions: the node lies in memory; as Leader it has a map of peers.
-/
import Derived.Test.YtjadfpcipicckaaGreatJRfA
import Derived.Deep.RegionLaw
namespace Go.Proofs.YtjadfpcipicckaaGreat.Rf
open Go.RowKit Go.Shelf Go.Proofs.YtjadfpcipicckaaGreat.Fld
open Go.Proofs.YtjadfpcipicckaaGreat.Qu (RdI)
set_option linter.unusedVariables false

/-- a cell of the node's block that holds what it held -/
theorem Al.keep {lo : Nat} {w : World} {b : PB} {s : AS} (h : Al lo w b s) (i : Nat) (v : Value) (hv : (ndR b s)[i]? = some v) (hi : i < 27) : Aft lo w (w.setCell ⟨b.nb, i, none⟩ v) b b s := by
  refine h.set i v ?_ hi rfl rfl h.rv (fun _ h => h) (fun _ h => h)
  apply Array.ext_getElem?
  intro j
  rw [Array.getElem?_setIfInBounds]
  split
  · rename_i e
    subst e
    rw [if_pos (by show i < 27; exact hi), hv]
  · rfl
theorem es_eq {s : AS} (hv : s.e.vs = [s.e.id]) (hl : s.e.ls = []) : { s with e := { s.e with vs := [s.e.id], ls := [] } } = s := by
  obtain ⟨e, g, win, sI, sT, hT, hV, frm, rd⟩ := s
  obtain ⟨id, pat, term, vote, vs, ls, role, lead, wait, lim, am⟩ := e
  simp only at hv hl
  subst hv hl
  rfl
/-- its log gives entries, none of which is a change -/
theorem Al.get {lo : Nat} {w : World} {b : PB} {s : AS} (h : Al lo w b s) (f m : Int) (W : World) (hW : Below w.heap.size w W) : Calls Tryz.prog 50 #[.pointer (some ⟨b.g, 0, none⟩), .int .i64 f, .int .i64 m] W (Rg.GetIs W (Rg.getE s.g f m)) := by
  have hh := h.below hW
  obtain ⟨A, cap, _, hl, hc, _⟩ := hh.lg.slice
  refine hl.get_any hc hh.few (fun x hx => ?_) f m
  have := Rg.okL_mem hh.lg.ok.ok (e := x.e) (by rw [← hh.lg.es]; exact List.mem_map_of_mem hx)
  rw [Rg.okE_iff] at this
  omega
theorem getE_mem {s : Rg.St} {f m : Int} {x : Rg.En} (h : x ∈ Rg.getE s f m) : x ∈ s.es := by
  unfold Rg.getE at h
  split at h
  · cases h
  · exact List.mem_of_mem_drop (List.mem_of_mem_take h)
theorem Al.join {lo : Nat} {w : World} {b : PB} {s : AS} (h : Al lo w b s) (W : World) (hW : Below w.heap.size w W) : Calls Tryz.prog 52 #[.pointer (some ⟨b.p.g, 0, none⟩), grp1 b] W fun e w' => e = .returned (.int .i64 0) ∧ ∃ p', p'.g = b.p.g ∧ Aft lo W w' b { b with p := p' } s := by
  have hh := h.below hW
  have hg : Qu.grpOk [s.e.id] [] = true := by have := hh.el.ok.grp; rw [h.vs, h.ls] at this; exact this
  refine (El.joined_ok b.p s.e b.SV b.svc [s.e.id] b.SL b.slc [] W hh.el hh.sv (Qu.RdI.nil _ _) hg).mono ?_
  rintro e w' ⟨p', rfl, h1, h2, h3, h4, h5⟩
  refine ⟨rfl, p', h1, ?_⟩
  have := hh.elect h3 h1 h2 h4 h5 h.vs.symm h.ls.symm rfl
  rw [es_eq h.vs h.ls] at this
  exact this
set_option maxRecDepth 100000 in
set_option maxHeartbeats 3200000 in
theorem regroup_any {lo : Nat} {w : World} {b : PB} {s : AS} (frm : Int) (h : Al lo w b s) (hr : s.e.role = 3 → ∃ m, b.pm = some m) : Calls Tryz.prog 20 #[.pointer (some ⟨b.nb, 0, none⟩), .int .i64 frm] w fun e w' => e = .returned (.tuple #[]) ∧ ∃ p', Aft lo w w' b { b with p := p' } s := by
  have hb0 := Rg.alloc_below' w (.cells #[.int .i64 frm] 3)
  have hk0 := Rg.Blk.new w #[.int .i64 frm] 3
  have h0 := h.below hb0
  have HA0 := Lib.hid (Aft.same h hb0)
  have HK0 := Lib.hid hk0
  have HS := Lib.hid h
  have HR := Lib.hid hr
  have hset := h0.keep 9 (.slice none 0 0) rfl (by omega)
  have HSET := Lib.hid hset
  have c9 := h0.c9
  have f9 := h0.free 9
  have hne : w.heap.size ≠ b.nb := by have := h.blk.lt; omega
  have HK1 := Lib.hid (show Rg.Blk ((w.alloc (.cells #[.int .i64 frm] 3)).setCell ⟨b.nb, 9, none⟩ (.slice none 0 0)) w.heap.size #[.int .i64 frm] 3 from Qu.Blk.far hk0 _ (Ne.symm hne) _)
  clear h hb0 hk0 h0 hr hset
  go_enter Tryz.func20, Tryz.ntmps20
  go_wp2_with fail
  refine (delete0 _ _).mono ?_
  rintro e w1 ⟨rfl, rfl⟩
  go_wp2_with fail
  have HA2 := Lib.hid (HA0.out.then HSET.out)
  generalize (w.alloc (.cells #[.int .i64 frm] 3)).setCell ⟨b.nb, 9, none⟩ (.slice none 0 0) = w2 at *
  have HS2 := Lib.hid HA2.out.im
  have d3 := HS2.out.c3
  have d0 := HK1.out.cell 0 (.int .i64 frm) rfl
  have HL := Lib.hid (fun W (hW : Below w2.heap.size w2 W) => HS2.out.last W hW)
  have HGT := Lib.hid (fun W (hW : Below w2.heap.size w2 W) => HS2.out.get frm s.g.last W hW)
  have HB0 := Lib.hid (Below.refl w2.heap.size w2).drew
  clear c9 f9 hne
  go_region_held3 (fun w' => w'.cell? ⟨b.nb, 3, none⟩ = some (.pointer (some ⟨b.g, 0, none⟩)) ∧ w'.cell? ⟨w.heap.size, 0, none⟩ = some (.int .i64 frm)) (first | exact ⟨by assumption, by assumption⟩ | go_keep) (first
    | (go_at_call 22; refine (HL.out _ (by exact HB0.out)).mono ?_; rintro e w' ⟨rfl, m, rfl⟩; have k3 : (w2.drewN (1 + m)).cell? ⟨b.nb, 3, none⟩ = _ := d3; have k0 : (w2.drewN (1 + m)).cell? ⟨w.heap.size, 0, none⟩ = _ := d0; have HBm := Lib.hid (Qu.below_dr w2 (1 + m)))
    | (go_at_call 50; refine (HGT.out _ (by exact HBm.out)).mono ?_; rintro e w3 ⟨v, ys, rfl, he, hrow, hd, hb⟩; obtain ⟨A, cap, hv, _⟩ := Rg.row_slice hrow; subst hv; have k3 := (hb.cell (p := ⟨b.nb, 3, none⟩) (lt_of_cell k3)).trans k3; have k0 := (hb.cell (p := ⟨w.heap.size, 0, none⟩) (lt_of_cell k0)).trans k0; have HB3 := Lib.hid (HBm.out.trans (hb.mono HBm.out.size)); have HE := Lib.hid he; have HROW := Lib.hid hrow; have HD := Lib.hid hd; clear he hrow hd hb))
  have HS3 := Lib.hid (HS2.out.below HB3.out)
  have HRE := Lib.hid (Rg.row_rdE HROW.out HD.out.dat)
  have HKI := Lib.hid (show ∀ k, k < ys.length → ((ys.getD k Rg.ea0).e.kind == 2) = false by
    intro k hk
    have hm : (ys.getD k Rg.ea0).e ∈ Rg.ens ys := by
      rw [← Rg.ens_at ys k hk, List.getD_eq_getElem?_getD, List.getElem?_eq_getElem (by rw [Rg.ens_len]; exact hk)]
      exact List.getElem_mem _
    rw [HE.out] at hm
    have := HS.out.kind _ (getE_mem hm)
    simpa using this)
  have hmx := HRE.out.most
  unfold maxLen at hmx
  have hAB := fun (W : World) (hW : Below w3.heap.size w3 W) => HRE.out.below hW
  have HRB := Lib.hid hAB
  clear k3 k0 hAB
  generalize hyn : ys.length = yn at *
  go_wp2
  go_loopw [27] (fun i wr => ∃ k : Nat, k ≤ yn ∧ i = .int .i64 k ∧ Below w3.heap.size w3 wr) (fun i _ => yn - (intOf i).toNat)
  case atStart => exact ⟨0, Nat.zero_le _, rfl, Below.refl _ _⟩
  case round =>
    obtain ⟨k, hk, rfl, hb⟩ := hrel
    have HB := Lib.hid hb
    clear hb
    by_cases hlt : k < yn
    · obtain ⟨bk, off, rfl, q0, q1, q2, q3⟩ := (HRB.out wr HB.out).elem k hlt
      have hki := HKI.out k hlt
      generalize ys.getD k Rg.ea0 = x at *
      obtain ⟨⟨idx, term, kind, data⟩, XA, xc⟩ := x
      simp only at q0 q1 q2 q3 hki
      generalize data.length = D at *
      have k0 : (0 : Int) ≤ (k : Int) := by omega
      have k1 : (k : Int) < (yn : Int) := by omega
      have HB2 := Lib.hid (fun ob => HB.out.alloc HB.out.size ob)
      go_wp2
      go_roundw
      case rel => exact ⟨k + 1, by omega, by go_num, HB2.out _⟩
      case measure => simp [intOf]; omega
    · obtain rfl : k = yn := by omega
      have HSr := Lib.hid (HS3.out.below HB.out)
      have HAr := Lib.hid ((HA2.out.to HB3.out).to HB.out)
      have HGR := Lib.hid (fun W (hW : Below wr.heap.size wr W) => HSr.out.group W hW)
      have HJ := Lib.hid (fun W (hW : Below wr.heap.size wr W) => HSr.out.join W hW)
      have e0 := HSr.out.c0
      have HBd := Lib.hid (Below.refl wr.heap.size wr).drew
      go_wp2_with fail
      go_region_held3 (fun w' => w'.cell? ⟨b.nb, 0, none⟩ = some (.pointer (some ⟨b.p.g, 0, none⟩))) (first | exact (by assumption) | go_keep) (first
        | (go_at_call 25; refine (HGR.out _ (by exact HBd.out)).mono ?_; rintro e w4 ⟨rfl, hb4⟩; have e0 := (hb4.cell (p := ⟨b.nb, 0, none⟩) (lt_of_cell e0)).trans (show World.cell? wr.drew _ = _ from e0); have HB4 := Lib.hid (HBd.out.trans hb4); clear hb4)
        | (go_at_call 52; refine (HJ.out _ (by exact HB4.out)).mono ?_; rintro e w5 ⟨rfl, p', hpg, hp'⟩; have HA5 := Lib.hid ((HAr.out.to HB4.out).then hp'); have e0 : w5.cell? ⟨b.nb, 0, none⟩ = some (.pointer (some ⟨b.p.g, 0, none⟩)) := by rw [← hpg]; exact hp'.im.c0
           have HPG := Lib.hid hpg; clear hp' hpg))
      have HRO := Lib.hid (show Calls Tryz.prog 13 #[.pointer (some ⟨b.p.g, 0, none⟩)] w5 fun e w' => e = .returned (.int .i64 s.e.role) ∧ w5 = w' by rw [← HPG.out]; exact El.role_any p' s.e w5 HA5.out.im.el)
      go_wp2_with fail
      refine HRO.out.mono ?_
      rintro e w' ⟨rfl, rfl⟩
      by_cases h3 : s.e.role = 3
      · obtain ⟨mm, hmm⟩ := HR.out h3
        have HME := Lib.hid (meet_any HA5.out.im (m := mm) hmm)
        have q3 : (s.e.role == 3) = true := by simp [h3]
        clear h3
        go_wp2_with fail
        refine HME.out.mono ?_
        rintro e w6 ⟨rfl, hA6⟩
        have HA6 := Lib.hid (HA5.out.then hA6)
        clear hA6
        go_wp2
        go_end0
        exact ⟨rfl, p', HA6.out⟩
      · have q3 : (s.e.role == 3) = false := by simp [h3]
        clear h3
        go_wp2
        go_end0
        exact ⟨rfl, p', HA5.out⟩
end Go.Proofs.YtjadfpcipicckaaGreat.Rf

namespace Go.Proofs.YtjadfpcipicckaaGreat.Rf
open Go.RowKit Go.Shelf Go.Proofs.YtjadfpcipicckaaGreat.Fld
open Go.Proofs.YtjadfpcipicckaaGreat.Qu (RdI)
set_option linter.unusedVariables false

def frmN (f i : Int) : Int := if f = 0 ∨ i < f then i else f
theorem ndR_frm (b : PB) (s : AS) (i : Int) : (ndR b s).setIfInBounds 21 (.int .i64 i) = ndR b { s with frm := i } := rfl
theorem Al.setFrm {lo : Nat} {w : World} {b : PB} {s : AS} (h : Al lo w b s) (i : Int) : Aft lo w (w.setCell ⟨b.nb, 21, none⟩ (.int .i64 i)) b b { s with frm := i } :=
  h.set 21 _ (ndR_frm b s i) (by omega) rfl rfl h.rv (fun _ h => h) (fun _ h => h)
theorem as_frm (s : AS) : ({ s with frm := s.frm } : AS) = s := rfl
set_option maxHeartbeats 1600000 in
theorem wrote_any {lo : Nat} {w : World} {b : PB} {s : AS} (i : Int) (h : Al lo w b s) (hr : s.e.role = 3 → ∃ m, b.pm = some m) (hi : i ≠ 0) : Calls Tryz.prog 91 #[.pointer (some ⟨b.nb, 0, none⟩), .int .i64 i] w fun e w' => e = .returned (.tuple #[]) ∧ ∃ p', Aft lo w w' b { b with p := p' } { s with frm := frmN s.frm i } := by
  have q0 : (i == 0) = false := by simpa using hi
  have c21 := h.c21
  have f21 := h.free 21
  have HS := Lib.hid h
  have HR := Lib.hid hr
  by_cases hc : s.frm = 0 ∨ i < s.frm
  · have hf : frmN s.frm i = i := by unfold frmN; rw [if_pos hc]
    rw [hf]
    have HA1 := Lib.hid (h.setFrm i)
    have HRG := Lib.hid (regroup_any (b := b) (s := { s with frm := i }) i HA1.out.im hr)
    rcases hc with hc | hc
    · have q1 : (s.frm == 0) = true := by simpa using hc
      clear hc h hr hi hf
      generalize s.frm = f at *
      go_enter Tryz.func91, Tryz.ntmps91
      go_wp2_with fail
      refine HRG.out.mono ?_
      rintro e w1 ⟨rfl, p', hA⟩
      have HA2 := Lib.hid (HA1.out.then hA)
      clear hA
      go_wp2
      go_end0
      exact ⟨rfl, p', HA2.out⟩
    · by_cases h0 : s.frm = 0
      · have q1 : (s.frm == 0) = true := by simpa using h0
        clear hc h hr hi hf h0
        generalize s.frm = f at *
        go_enter Tryz.func91, Tryz.ntmps91
        go_wp2_with fail
        refine HRG.out.mono ?_
        rintro e w1 ⟨rfl, p', hA⟩
        have HA2 := Lib.hid (HA1.out.then hA)
        clear hA
        go_wp2
        go_end0
        exact ⟨rfl, p', HA2.out⟩
      · have q1 : (s.frm == 0) = false := by simpa using h0
        clear h hr hi hf h0
        generalize s.frm = f at *
        go_enter Tryz.func91, Tryz.ntmps91
        go_wp2_with fail
        refine HRG.out.mono ?_
        rintro e w1 ⟨rfl, p', hA⟩
        have HA2 := Lib.hid (HA1.out.then hA)
        clear hA
        go_wp2
        go_end0
        exact ⟨rfl, p', HA2.out⟩
  · have hf : frmN s.frm i = s.frm := by unfold frmN; rw [if_neg hc]
    rw [hf]
    change Calls _ _ _ _ (fun e w' => e = .returned (.tuple #[]) ∧ ∃ p', Aft lo w w' b { b with p := p' } s)
    have HRG := Lib.hid (regroup_any i h hr)
    have q1 : (s.frm == 0) = false := by simp; omega
    have q2 : ¬ i < s.frm := by omega
    clear hc h hr hi hf
    generalize s.frm = f at *
    go_enter Tryz.func91, Tryz.ntmps91
    go_wp2_with fail
    refine HRG.out.mono ?_
    rintro e w1 ⟨rfl, p', hA⟩
    have HA2 := Lib.hid hA
    clear hA
    go_wp2
    go_end0
    exact ⟨rfl, p', HA2.out⟩
set_option maxHeartbeats 800000 in
theorem beats_any {lo : Nat} {w : World} {b : PB} {s : AS} (h : Al lo w b s) : Calls Tryz.prog 67 #[.pointer (some ⟨b.nb, 0, none⟩)] w fun e w' => e = .returned (.tuple #[]) ∧ Below w.heap.size w w' := by
  have HM := Lib.hid (h.members w (Below.refl _ _))
  clear h
  go_enter Tryz.func67, Tryz.ntmps67
  go_wp2_with fail
  refine HM.out.mono ?_
  rintro e w1 ⟨rfl, hb⟩
  have HB := Lib.hid hb
  clear hb
  go_wp2
  go_loopw [7] (fun i wr => i = .int .i64 0 ∧ w1 = wr) (fun _ _ => 0)
  case atStart => exact ⟨rfl, rfl⟩
  case round =>
    obtain ⟨rfl, rfl⟩ := hrel
    go_wp2
    go_end0
    exact ⟨rfl, HB.out⟩
set_option maxHeartbeats 800000 in
theorem all_any {lo : Nat} {w : World} {b : PB} {s : AS} (h : Al lo w b s) : Calls Tryz.prog 56 #[.pointer (some ⟨b.nb, 0, none⟩)] w fun e w' => e = .returned (.tuple #[]) ∧ Below w.heap.size w w' := by
  have HM := Lib.hid (h.members w (Below.refl _ _))
  clear h
  go_enter Tryz.func56, Tryz.ntmps56
  go_wp2_with fail
  refine HM.out.mono ?_
  rintro e w1 ⟨rfl, hb⟩
  have HB := Lib.hid hb
  clear hb
  go_wp2
  go_loopw [7] (fun i wr => i = .int .i64 0 ∧ w1 = wr) (fun _ _ => 0)
  case atStart => exact ⟨rfl, rfl⟩
  case round =>
    obtain ⟨rfl, rfl⟩ := hrel
    go_wp2
    go_end0
    exact ⟨rfl, HB.out⟩
/-- the entry that is put behind the last one -/
def entN (s : AS) (kind : Int) (data : List Int) : Rg.En := ⟨s.g.last + 1, s.e.term, kind, data⟩
/-- what add asks: there is room, and the elector's term is not below the log's -/
structure AddOk (s : AS) (kind : Int) (data : List Int) (n : Nat) : Prop where
  top : s.g.last < 1099511627776
  term : s.g.lt ≤ s.e.term
  kind0 : 0 ≤ kind
  kind7 : kind ≤ 7
  kind2 : kind ≠ 2
  data : data.length ≤ 4096
  few : n + 1 ≤ 1000000
def addS (s : AS) (kind : Int) (data : List Int) : AS := { s with g := { s.g with es := s.g.es ++ [entN s kind data] }, frm := frmN s.frm (s.g.last + 1) }
theorem add_ok {lo : Nat} {w : World} {b : PB} {s : AS} {kind : Int} {data : List Int} (h : Al lo w b s) (ho : AddOk s kind data b.xs.length) : Rg.okL [entN s kind data] = true ∧ Rg.fol [entN s kind data] s.g.last s.g.lt = true := by
  have hh := (El.okHard_iff _ _).1 h.el.ok.hard
  have hb := h.lg.ok.b0
  have hl : 0 ≤ s.g.last := by unfold Rg.St.last; omega
  have ht2 : s.e.term ≤ 1099511627776 := hh.1.2
  constructor
  · show (Rg.okE (entN s kind data) && true) = true
    rw [Bool.and_true, Rg.okE_iff]
    have := ho.top; have := ho.kind0; have := ho.kind7; have := ho.data; have := hh.1.1
    refine ⟨?_, ?_, ?_, ?_, ?_, ?_, ?_⟩ <;> simp only [entN] <;> omega
  · have := ho.term
    simp [Rg.fol, entN, this]
theorem ents_one (W : World) (A : Option Addr) (cap : Nat) (e : Rg.En) (hd : Fld.Rd W A e.data.length e.data) (hA : A = none → cap = 0) :
    Rg.RdE (W.alloc (.cells #[.int .i64 e.idx, .int .i64 e.term, .int .i64 e.kind, .slice A e.data.length cap] 67)) (some ⟨W.heap.size, 0, none⟩) 1 [⟨e, A, cap⟩] := by
  have hk := Rg.Blk.new W #[.int .i64 e.idx, .int .i64 e.term, .int .i64 e.kind, .slice A e.data.length cap] 67
  refine ⟨rfl, by unfold maxLen; omega, fun _ => ⟨_, 0, rfl, fun j v hj => ?_⟩, fun x hx => ?_⟩
  · rw [Nat.zero_add]
    refine hk.cell j v ?_
    simpa [Rg.rowE, Rg.EA.cells] using hj
  · simp only [List.mem_singleton] at hx
    subst hx
    exact ⟨hd.below (Rg.alloc_below' _ _), hA⟩
end Go.Proofs.YtjadfpcipicckaaGreat.Rf
