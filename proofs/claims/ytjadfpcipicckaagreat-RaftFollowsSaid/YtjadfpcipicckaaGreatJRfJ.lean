/-
  Several texts in one: Layer 12, a node that is alone: put, Propose. Conditions: the node lies in memory, leads; its log has room. Layer 12, a node that is alone becomes leader: lead, vote, Tick. Conditions: the node lies in memory; its tick makes it lead.
-/
import Derived.Test.YtjadfpcipicckaaGreatJRfH
namespace Go.Proofs.YtjadfpcipicckaaGreat.Rf
open Go.RowKit Go.Shelf Go.Proofs.YtjadfpcipicckaaGreat.Fld
open Go.Proofs.YtjadfpcipicckaaGreat.Qu (RdI)
set_option linter.unusedVariables false

theorem lt_add (s : AS) (kind : Int) (data : List Int) : (addS s kind data).g.lt = s.e.term := by
  unfold addS Rg.St.lt
  rw [Rg.lastT_eq]
  rw [if_neg (by simp)]
  simp [entN, List.getD_eq_getElem?_getD]
theorem last_add (s : AS) (kind : Int) (data : List Int) : (addS s kind data).g.last = s.g.last + 1 := by
  unfold addS Rg.St.last
  simp
  omega
/-- an entry is put behind, and is committed at once -/
def putS (s : AS) (kind : Int) (data : List Int) : AS := { addS s kind data with g := { (addS s kind data).g with com := s.g.last + 1 } }
theorem putS_eq (s : AS) (kind : Int) (data : List Int) : ({ addS s kind data with g := { (addS s kind data).g with com := (addS s kind data).g.last } } : AS) = putS s kind data := by
  rw [last_add]; rfl
theorem com_put {lo : Nat} {w : World} {b : PB} {s : AS} (h : Al lo w b s) (kind : Int) (data : List Int) : (addS s kind data).g.com < (addS s kind data).g.last := by
  rw [last_add]
  have := h.lg.ok.cl
  show s.g.com < s.g.last + 1
  omega
set_option maxHeartbeats 1600000 in
theorem put_any {lo : Nat} {w : World} {b : PB} {s : AS} (kind : Int) (data : List Int) (DA : Option Addr) (dn dc : Nat) (hdn : data.length = dn) (h : Al lo w b s) (hr : s.e.role = 3 → ∃ m, b.pm = some m) (ho : AddOk s kind data b.xs.length) (hd : Fld.Rd w DA dn data) (hA : DA = none → dc = 0) :
    Calls Tryz.prog 23 #[.pointer (some ⟨b.nb, 0, none⟩), .int .i64 kind, .slice DA dn dc] w fun e w' => e = .returned (.tuple #[.int .i64 (s.g.last + 1), .int .i64 0]) ∧ ∃ p' v' xs', Aft lo w w' b { b with p := p', v := v', xs := xs' } (putS s kind data) ∧ xs'.length = b.xs.length + 1 := by
  have HAD := Lib.hid (add_any kind data DA dn dc hdn h hr ho hd hA)
  have HC := Lib.hid (com_put h kind data)
  have HL := Lib.hid (lt_add s kind data)
  have HP := Lib.hid (putS_eq s kind data)
  have HLL := Lib.hid (show (putS s kind data).g.last = s.g.last + 1 from last_add s kind data)
  clear h hr ho hd hA
  go_enter Tryz.func23, Tryz.ntmps23
  go_wp2_with fail
  refine HAD.out.mono ?_
  rintro e w1 ⟨rfl, p', v', xs', hA1, hl⟩
  have HA1 := Lib.hid hA1
  have HXL := Lib.hid hl
  have HAV := Lib.hid (advance_any hA1.im HC.out HL.out)
  rw [HP.out] at HAV
  clear hA1 hl
  go_wp2_with fail
  refine HAV.out.mono ?_
  rintro e w2 ⟨rfl, hA2⟩
  have HA2 := Lib.hid (HA1.out.then hA2)
  have HAL := Lib.hid (all_any hA2.im)
  clear hA2
  go_wp2_with fail
  refine HAL.out.mono ?_
  rintro e w3 ⟨rfl, hb3⟩
  have HA3 := Lib.hid (HA2.out.to hb3)
  have c3 := HA3.out.im.c3
  have HLA := Lib.hid (HA3.out.im.last w3 (Below.refl _ _))
  rw [HLL.out] at HLA
  clear hb3
  go_wp2_with fail
  refine HLA.out.mono ?_
  rintro e w' ⟨rfl, m, rfl⟩
  have HA4 := Lib.hid (HA3.out.to (Qu.below_dr w3 m))
  go_wp2
  go_ret2
  exact ⟨rfl, p', v', xs', HA4.out, HXL.out⟩
set_option maxHeartbeats 800000 in
theorem propose_any {lo : Nat} {w : World} {b : PB} {s : AS} (data : List Int) (DA : Option Addr) (dn dc : Nat) (hdn : data.length = dn) (h : Al lo w b s) (h3 : s.e.role = 3) (hr : ∃ m, b.pm = some m) (ho : AddOk s 1 data b.xs.length) (hd : Fld.Rd w DA dn data) (hA : DA = none → dc = 0) :
    Calls Tryz.prog 8 #[.pointer (some ⟨b.nb, 0, none⟩), .slice DA dn dc] w fun e w' => e = .returned (.tuple #[.int .i64 (s.g.last + 1), .int .i64 0]) ∧ ∃ p' v' xs', Aft lo w w' b { b with p := p', v := v', xs := xs' } (putS s 1 data) ∧ xs'.length = b.xs.length + 1 := by
  have c0 := h.c0
  have HRO := Lib.hid (El.role_any b.p s.e w h.el)
  rw [h3] at HRO
  have HPU := Lib.hid (put_any 1 data DA dn dc hdn h (fun _ => hr) ho hd hA)
  have hl : ¬ (4096 : Int) < (dn : Int) := by have := ho.data; omega
  clear h h3 hr ho hd hA
  go_enter Tryz.func8, Tryz.ntmps8
  go_wp2_with fail
  refine HRO.out.mono ?_
  rintro e w' ⟨rfl, rfl⟩
  go_wp2_with fail
  refine HPU.out.mono ?_
  rintro e w1 ⟨rfl, hx⟩
  have HX := Lib.hid hx
  clear hx
  go_wp2
  go_ret2
  exact ⟨rfl, HX.out⟩
end Go.Proofs.YtjadfpcipicckaaGreat.Rf

namespace Go.Proofs.YtjadfpcipicckaaGreat.Rf
open Go.RowKit Go.Shelf Go.Proofs.YtjadfpcipicckaaGreat.Fld
open Go.Proofs.YtjadfpcipicckaaGreat.Qu (RdI)
set_option linter.unusedVariables false

theorem ndR_pm (b : PB) (s : AS) (m : Nat) : (ndR b s).setIfInBounds 24 (.map (some m)) = ndR { b with pm := some m } s := rfl
theorem ndR_pm0 (b : PB) (s : AS) : (ndR b s).setIfInBounds 24 (.map none) = ndR { b with pm := none } s := rfl
/-- it gets a map of peers -/
theorem Al.leads {lo : Nat} {w : World} {b : PB} {s : AS} (h : Al lo w b s) : Aft lo w ((w.alloc (.map #[] 0)).setCell ⟨b.nb, 24, none⟩ (.map (some w.heap.size))) b { b with pm := some w.heap.size } s := by
  have hal := Rg.alloc_below' w (.map #[] 0)
  have h1 := h.below hal
  obtain ⟨n1, n2, n3, n4, n5, n6⟩ := h1.nb_ne
  have hf1 : Dk.Fr [b.nb] (w.alloc (.map #[] 0)) ((w.alloc (.map #[] 0)).setCell ⟨b.nb, 24, none⟩ (.map (some w.heap.size))) := (Dk.Fr.refl _ _).setCell _ (.inl (by simp)) _
  have hf : Dk.Fr [b.nb] w ((w.alloc (.map #[] 0)).setCell ⟨b.nb, 24, none⟩ (.map (some w.heap.size))) := (Dk.Fr.below hal).same hf1
  have hlt := h.foot_lt
  have hlo0 : lo ≤ w.heap.size := Nat.le_trans (h.lo b.nb (mem_foot.2 (by simp))) (Nat.le_of_lt h.blk.lt)
  have hfo : ∀ i, i ∈ ({ b with pm := some w.heap.size } : PB).foot → i ∈ b.foot ∨ w.heap.size ≤ i := by
    intro i hi
    rcases mem_foot.1 hi with h1 | h1 | h1 | h1 | h1 | h1 | h1
    · exact .inl (mem_foot.2 (by simp [show i = b.nb from h1]))
    · exact .inl (mem_foot.2 (by simp [show i = b.p.g from h1]))
    · exact .inl (mem_foot.2 (by simp [show i = b.p.b from h1]))
    · exact .inl (mem_foot.2 (by simp [show i = b.g from h1]))
    · exact .inl (mem_foot.2 (by simp [show b.v.ownBlock = some i from h1]))
    · exact .inl (mem_foot.2 (by simp [show b.rv.ownBlock = some i from h1]))
    · have : w.heap.size = i := by simpa using h1
      exact .inr (by omega)
  have nin : ∀ i, i ≠ b.nb → i ∉ [b.nb] := fun i h1 hm => h1 (by simpa using hm)
  have hbn : w.heap.size ≠ b.nb := by have := h.blk.lt; omega
  refine ⟨⟨?_, h1.el.fr hf1 (fun i hi => nin _ ?_), h1.lg.fr hf1 (fun i hi => nin _ ?_) (not8_nb h1), El.rdI_fr h1.sv hf1 (fun a ha => nin _ (fun e => h1.ro _ (mem_ro.2 (.inr (.inr ⟨a, ha, rfl⟩))) (mem_foot.2 (.inl e)))), Rg.row_of h1.rv (fun i hi => hf1.block i (h1.foot_lt i (mem_foot.2 (by simp [hi]))) (nin _ (fun e => n5 (by rw [← e]; exact hi)))), ?_, ?_, ?_, ?_, h1.vs, h1.ls, fun i hi => Nat.lt_of_lt_of_le (h1.rl i hi) hf1.size, h1.kind, h1.win, h1.sI, h1.slz, h1.few⟩, hf.mono (fun i hi => mem_foot.2 (.inl (by simpa using hi))), hfo, fun i hi => .inl hi, rfl⟩
  · rw [← ndR_pm]
    exact Rg.Blk.set h1.blk 24 _ (by show 24 < 27; omega)
  · simp only [El.Pl.all, List.mem_cons, List.mem_append, Option.mem_toList, Option.map_eq_some_iff] at hi
    rcases hi with (rfl | rfl | ⟨a, ha, rfl⟩) | ⟨a, ha, rfl⟩
    · exact Ne.symm n1
    · exact Ne.symm n2
    · exact fun e => h1.ro _ (mem_ro.2 (.inl ⟨a, ha, rfl⟩)) (mem_foot.2 (.inl e))
    · exact fun e => h1.ro _ (mem_ro.2 (.inr (.inl ⟨a, ha, rfl⟩))) (mem_foot.2 (.inl e))
  · simp only [List.mem_cons, Option.mem_toList] at hi
    rcases hi with rfl | hi
    · exact Ne.symm n3
    · exact fun e => n4 (by rw [← e]; exact hi)
  · intro m hm
    obtain rfl : w.heap.size = m := by simpa using hm
    exact (EmptyM.new w).of (Below.heap_setCell _ _ _ _ hbn)
  · intro e
    have : w.heap.size = b.p.b := by simpa using e
    have := h.el.map.lt
    omega
  · intro i hi
    rcases hfo i hi with h2 | h2
    · exact h.lo i h2
    · omega
  · intro i hi hm
    have hi' : i ∈ b.ro := hi
    rcases hfo i hm with h2 | h2
    · exact h.ro i hi' h2
    · have := h.rl i hi'; omega
set_option maxHeartbeats 1600000 in
theorem lead_any {lo : Nat} {w : World} {b : PB} {s : AS} (h : Al lo w b s) (ho : AddOk s 0 [] b.xs.length) : Calls Tryz.prog 74 #[.pointer (some ⟨b.nb, 0, none⟩)] w fun e w' => e = .returned (.tuple #[]) ∧ ∃ p' v' xs' m, Aft lo w w' b { b with p := p', v := v', xs := xs', pm := some m } (putS s 0 []) ∧ xs'.length = b.xs.length + 1 := by
  have hmm := @run_makeMap Tryz.prog
  have hA1 := h.leads
  have hA2 := hA1.im.keep 25 (.slice none 0 0) rfl (by omega)
  have hA3 := hA2.im.keep 26 (.int .i64 0) rfl (by omega)
  have HA3 := Lib.hid ((hA1.then hA2).then hA3)
  have hal := Rg.alloc_below' w (.map #[] 0)
  have d24 := (h.below hal).c24
  have d25 := (h.below hal).c25
  have d26 := (h.below hal).c26
  have f24 := (h.below hal).free 24
  have f25 := (h.below hal).free 25
  have f26 := (h.below hal).free 26
  have HC := Lib.hid (com_put h 0 [])
  have HL := Lib.hid (lt_add s 0 [])
  have HP := Lib.hid (putS_eq s 0 [])
  have HO := Lib.hid ho
  clear h hA1 hA2 hA3 hal ho
  go_enter Tryz.func74, Tryz.ntmps74
  go_wp2_with fail
  generalize (((w.alloc (.map #[] 0)).setCell ⟨b.nb, 24, none⟩ (.map (some w.heap.size))).setCell ⟨b.nb, 25, none⟩ (.slice none 0 0)).setCell ⟨b.nb, 26, none⟩ (.int .i64 0) = w3 at *
  have HME := Lib.hid (meet_any HA3.out.im rfl)
  clear d24 d25 d26 f24 f25 f26
  refine HME.out.mono ?_
  rintro e w4 ⟨rfl, hA4⟩
  have HA4 := Lib.hid (HA3.out.then hA4)
  have HAD := Lib.hid (add_any 0 [] none 0 0 rfl hA4.im (fun _ => ⟨_, rfl⟩) HO.out (Fld.Rd.nil _) (fun _ => rfl))
  clear hA4
  go_wp2_with fail
  refine HAD.out.mono ?_
  rintro e w5 ⟨rfl, p', v', xs', hA5, hl⟩
  have HA5 := Lib.hid (HA4.out.then hA5)
  have HXL := Lib.hid hl
  have HAV := Lib.hid (advance_any hA5.im HC.out HL.out)
  rw [HP.out] at HAV
  clear hA5 hl
  go_wp2_with fail
  refine HAV.out.mono ?_
  rintro e w6 ⟨rfl, hA6⟩
  have HA6 := Lib.hid (HA5.out.then hA6)
  have HAL := Lib.hid (all_any hA6.im)
  clear hA6
  go_wp2_with fail
  refine HAL.out.mono ?_
  rintro e w7 ⟨rfl, hb7⟩
  have HA7 := Lib.hid (HA6.out.to hb7)
  clear hb7
  go_wp2
  go_end0
  exact ⟨rfl, p', v', xs', _, HA7.out, HXL.out⟩
/-- the closure of Tick: the elector's own tick -/
theorem tick1_any {lo : Nat} {w : World} {b : PB} {s : AS} (draw last lt : Int) (N D : Nat) (h : Al lo w b s) (hw : s.e.wait ≤ 1000000000) (kN : w.cell? ⟨N, 0, none⟩ = some (.pointer (some ⟨b.nb, 0, none⟩))) (kD : w.cell? ⟨D, 0, none⟩ = some (.int .i64 draw)) (hN : N ∉ b.p.ft) (hD : D ∉ b.p.ft) :
    Calls Tryz.prog 34 #[.int .i64 last, .int .i64 lt, .pointer (some ⟨N, 0, none⟩), .pointer (some ⟨D, 0, none⟩)] w fun e w' => ∃ v, e = .returned v ∧ El.Ans w w' b.p (El.tick s.e draw last lt).1 v (El.tick s.e draw last lt).2 := by
  have c0 := h.c0
  have HT := Lib.hid (fun W (hW : Below w.heap.size w W) => El.tick_any b.p s.e draw last lt W (h.el.below hW) hw)
  have HBd := Lib.hid (Below.refl w.heap.size w).drew
  have HF := Lib.hid (fun v w' (hh : El.Ans w.drew w' b.p (El.tick s.e draw last lt).1 v (El.tick s.e draw last lt).2) => show El.Ans w w' b.p (El.tick s.e draw last lt).1 v (El.tick s.e draw last lt).2 from ⟨El.Did.past HBd.out hh.did, hh.out⟩)
  have hnb : b.nb ∉ b.p.ft := by
    have := h.nb_ne
    simp only [El.Pl.ft, List.mem_cons, List.not_mem_nil, or_false]
    exact fun e => e.elim this.1 this.2.1
  have HQ := Lib.hid (fun (w' : World) (i : Nat) (v : Value) (hi : w.cell? ⟨i, 0, none⟩ = some v) (hn : i ∉ b.p.ft) (hf : Dk.Fr b.p.ft w.drew w') => show w'.cell? ⟨i, 0, none⟩ = some v from (World.cell?_of_block (w := w.drew) (hf.block i (lt_of_cell hi) hn)).trans hi)
  clear h hw
  go_enter Tryz.func34, Tryz.ntmps34
  go_wp2_with fail
  go_region_held3 (fun w' => w'.cell? ⟨N, 0, none⟩ = some (.pointer (some ⟨b.nb, 0, none⟩)) ∧ w'.cell? ⟨D, 0, none⟩ = some (.int .i64 draw) ∧ w'.cell? ⟨b.nb, 0, none⟩ = some (.pointer (some ⟨b.p.g, 0, none⟩))) (first | exact ⟨by assumption, by assumption, by assumption⟩ | exact trivial | go_keep) (first
    | (go_at_call 35; refine (HT.out _ (by exact HBd.out)).mono ?_; rintro e w' ⟨v, rfl, hA⟩; have y1 := HQ.out w' N _ kN hN hA.did.fr; have y2 := HQ.out w' D _ kD hD hA.did.fr; have y3 := HQ.out w' b.nb _ c0 hnb hA.did.fr; have HA := Lib.hid hA; clear hA))
  all_goals
    go_wp2
    go_ret
    exact ⟨_, rfl, HF.out _ _ HA.out⟩
set_option maxRecDepth 100000 in
set_option maxHeartbeats 1600000 in
/-- a vote that makes it lead -/
theorem vote_leads {lo : Nat} {w : World} {b : PB} {s : AS} (draw : Int) (N D : Nat) (e' : El.St) (h : Al lo w b s) (hw : s.e.wait ≤ 1000000000) (kN : w.cell? ⟨N, 0, none⟩ = some (.pointer (some ⟨b.nb, 0, none⟩))) (kD : w.cell? ⟨D, 0, none⟩ = some (.int .i64 draw)) (hN : N ∉ b.p.ft) (hD : D ∉ b.p.ft)
    (hr : s.e.role ≠ 3) (ht : El.tick s.e draw s.g.last s.g.lt = (e', [])) (h3 : e'.role = 3) (hv : e'.vs = s.e.vs) (hl : e'.ls = s.e.ls) (hi : e'.id = s.e.id) (ho : AddOk { s with e := e' } 0 [] b.xs.length) :
    Calls Tryz.prog 33 #[.pointer (some ⟨b.nb, 0, none⟩), .func (.func 34) #[] #[.pointer (some ⟨N, 0, none⟩), .pointer (some ⟨D, 0, none⟩)]] w fun e w' => e = .returned (.tuple #[]) ∧ ∃ p' v' xs' m, Aft lo w w' b { b with p := p', v := v', xs := xs', pm := some m } (putS { s with e := e' } 0 []) ∧ xs'.length = b.xs.length + 1 := by
  have c0 := h.c0
  have c3 := h.c3
  have HS := Lib.hid h
  have HRO := Lib.hid (El.role_any b.p s.e w h.el)
  have HL := Lib.hid (fun W (hW : Below w.heap.size w W) => h.last W hW)
  have HT := Lib.hid (fun W (hW : Below w.heap.size w W) => h.term s.g.last W hW)
  rw [term_last h.lg.ok] at HT
  have HT1 := Lib.hid (fun W (hW : Below w.heap.size w W) => tick1_any draw s.g.last s.g.lt N D (h.below hW) hw ((hW.cell (p := ⟨N, 0, none⟩) (lt_of_cell kN)).trans kN) ((hW.cell (p := ⟨D, 0, none⟩) (lt_of_cell kD)).trans kD) hN hD)
  rw [ht] at HT1
  have HBd := Lib.hid (Below.refl w.heap.size w).drew
  have q3 : (s.e.role == 3) = false := by simpa using hr
  have q3' : (s.e.role != 3) = true := by simpa using hr
  have HV := Lib.hid (And.intro hv (And.intro hl hi))
  have HO := Lib.hid ho
  have H3 := Lib.hid h3
  clear h hw kN kD hN hD hr ht h3 hv hl hi ho
  generalize hrole : s.e.role = ro at *
  clear hrole
  go_enter Tryz.func33, Tryz.ntmps33
  go_wp2_with fail
  refine HRO.out.mono ?_
  rintro e w' ⟨rfl, rfl⟩
  go_wp2_with fail
  go_region_held3 (fun w' => w'.cell? ⟨b.nb, 3, none⟩ = some (.pointer (some ⟨b.g, 0, none⟩))) (first | exact (by assumption) | go_keep) (first
    | (go_at_call 22; refine (HL.out _ (by exact HBd.out)).mono ?_; rintro e w' ⟨rfl, k, rfl⟩; have c3 : (w.drewN (1 + k)).cell? ⟨b.nb, 3, none⟩ = _ := c3; have HB1 := Lib.hid (Qu.below_dr w (1 + k)))
    | (go_at_call 61; refine (HT.out _ (by exact HB1.out)).mono ?_; rintro e w' ⟨rfl, k2, rfl⟩; have c3 : (w.drewN (1 + k + k2)).cell? ⟨b.nb, 3, none⟩ = _ := c3; have HB2 := Lib.hid (Qu.below_dr w (1 + k + k2))))
  have c0 : (w.drewN (1 + k + k2)).cell? ⟨b.nb, 0, none⟩ = _ := c0
  generalize w.drewN (1 + k + k2) = w1 at *
  generalize Rg.termB s.g s.g.last = tb at *
  go_wp2_with fail
  refine (HL.out w1 HB2.out).mono ?_
  rintro e w' ⟨rfl, k3, rfl⟩
  have HB3 := Lib.hid (HB2.out.trans ((Qu.below_dr w1 k3).mono HB2.out.size))
  have HS3 := Lib.hid (HS.out.below HB3.out)
  generalize w1.drewN k3 = w3 at *
  clear c3 c0
  go_wp2_with fail
  refine (HT1.out w3 HB3.out).mono ?_
  rintro e w4 ⟨v, rfl, hA⟩
  obtain ⟨A4, c4, hv4, _⟩ := Rg.row_slice hA.out
  simp only [List.length_nil] at hv4
  subst hv4
  have HA4 := Lib.hid (Aft.past HS.out HB3.out (HS3.out.elec hA.did HV.out.1 HV.out.2.1 HV.out.2.2))
  clear hA
  have c0 := HA4.out.im.c0
  have HR4 := Lib.hid (El.role_any b.p e' w4 HA4.out.im.el)
  rw [H3.out] at HR4
  have HLD := Lib.hid (lead_any HA4.out.im HO.out)
  go_wp2
  go_loopw [36] (fun i wr => i = .int .i64 0 ∧ w4 = wr) (fun _ _ => 0)
  case atStart => exact ⟨rfl, rfl⟩
  case round =>
    obtain ⟨rfl, rfl⟩ := hrel
    go_wp2_with fail
    refine HR4.out.mono ?_
    rintro e w' ⟨rfl, rfl⟩
    go_wp2_with fail
    refine HLD.out.mono ?_
    rintro e w5 ⟨rfl, p', v', xs', m, hA5, hl5⟩
    have HA5 := Lib.hid (HA4.out.then hA5)
    have HL5 := Lib.hid hl5
    clear hA5 hl5
    go_wp2
    go_end0
    exact ⟨rfl, p', v', xs', m, HA5.out, HL5.out⟩
set_option maxHeartbeats 800000 in
/-- a tick that makes it lead -/
theorem tick_leads {lo : Nat} {w : World} {b : PB} {s : AS} (draw : Int) (e' : El.St) (h : Al lo w b s) (hw : s.e.wait ≤ 1000000000)
    (hr : s.e.role ≠ 3) (ht : El.tick s.e draw s.g.last s.g.lt = (e', [])) (h3 : e'.role = 3) (hv : e'.vs = s.e.vs) (hl : e'.ls = s.e.ls) (hi : e'.id = s.e.id) (ho : AddOk { s with e := e' } 0 [] b.xs.length) :
    Calls Tryz.prog 12 #[.pointer (some ⟨b.nb, 0, none⟩), .int .i64 draw] w fun e w' => e = .returned (.tuple #[]) ∧ ∃ p' v' xs' m, Aft lo w w' b { b with p := p', v := v', xs := xs', pm := some m } (putS { s with e := e' } 0 []) ∧ xs'.length = b.xs.length + 1 := by
  have hb1 := Rg.alloc_below' w (.cells #[.pointer (some ⟨b.nb, 0, none⟩)] 36)
  have hb2 := hb1.alloc hb1.size (.cells #[.int .i64 draw] 3)
  have kN := ((Rg.Blk.new w #[.pointer (some ⟨b.nb, 0, none⟩)] 36).past (.cells #[.int .i64 draw] 3)).cell 0 (.pointer (some ⟨b.nb, 0, none⟩)) rfl
  have kD := (Rg.Blk.new (w.alloc (.cells #[.pointer (some ⟨b.nb, 0, none⟩)] 36)) #[.int .i64 draw] 3).cell 0 (.int .i64 draw) rfl
  rw [World.size_alloc] at kD
  have hft : ∀ i ∈ b.p.ft, i < w.heap.size := El.Im.lt h.el
  have HB := Lib.hid hb2
  have hh := h.below hb2
  have HV := Lib.hid (vote_leads draw w.heap.size (w.heap.size + 1) e' hh hw kN kD (fun hm => by have := hft _ hm; omega) (fun hm => by have := hft _ hm; omega) hr ht h3 hv hl hi ho)
  have HRO := Lib.hid (El.role_any b.p s.e _ hh.el)
  have c0 := hh.c0
  have q3 : (s.e.role == 3) = false := by simpa using hr
  have HS := Lib.hid h
  clear h hw hr ht h3 hv hl hi ho hb1 hb2 hh hft
  generalize hrole : s.e.role = ro at *
  clear hrole
  go_enter Tryz.func12, Tryz.ntmps12
  go_wp2_with fail
  refine HRO.out.mono ?_
  rintro e w' ⟨rfl, rfl⟩
  go_wp2_with fail
  refine HV.out.mono ?_
  rintro e w1 ⟨rfl, p', v', xs', m, hA, hl⟩
  have HA := Lib.hid (Aft.past HS.out HB.out hA)
  have HL := Lib.hid hl
  clear hA hl
  go_wp2
  go_end0
  exact ⟨rfl, p', v', xs', m, HA.out, HL.out⟩
end Go.Proofs.YtjadfpcipicckaaGreat.Rf
