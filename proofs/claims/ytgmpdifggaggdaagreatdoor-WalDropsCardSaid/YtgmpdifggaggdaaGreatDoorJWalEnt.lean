/-
  Several texts in one: Layer 6: the record of an entry, as the program makes it. Conditions: the entry is one that may be; its bytes can be read. Layer 6: what the program reads of a record's content, second part: readEntry. Conditions: the reader is one (Rdr). Layer 6: what the program reads of a record's content, third part: decode. Conditions: the content can be read. Layer 6: what the program reads of a record's content, last part: decode. Conditions: the content can be read.
-/
import Derived.Test.YtgmpdifggaggdaaGreatDoorWalRec
import Derived.Deep.RegionHeld3
import Derived.Test.YtgmpdifggaggdaaGreatDoorFieldDocT
import Derived.Test.YtgmpdifggaggdaaGreatDoorWalDec
import Derived.Laws.ResultCell
namespace Go.Proofs.YtgmpdifggaggdaaGreatDoor.Wl
open Go.RowKit Go.Proofs.YtgmpdifggaggdaaGreatDoor.Fld
set_option linter.unusedVariables false

/-- the value of an entry -/
def entV (e : E) (A : Option Addr) (cap : Nat) : Value := .agg #[.int .i64 (e.idx : Int), .int .i64 (e.term : Int), .int .i64 (e.kind : Int), .slice A e.data.length cap]
def EntAt (w : World) (B : Nat) (i t k : Int) (A : Option Addr) (n cap : Nat) : Prop := w.heap[B]? = some (.cells #[.int .i64 i, .int .i64 t, .int .i64 k, .slice A n cap] 49 (0, 0))
theorem EntAt.cells {w : World} {B : Nat} {i t k : Int} {A : Option Addr} {n cap : Nat} (h : EntAt w B i t k A n cap) : w.cell? ⟨B, 0, none⟩ = some (.int .i64 i) ∧ w.cell? ⟨B, 1, none⟩ = some (.int .i64 t) ∧ w.cell? ⟨B, 2, none⟩ = some (.int .i64 k) ∧ w.cell? ⟨B, 3, none⟩ = some (.slice A n cap) :=
  ⟨by rw [cell_of_row w B 0 _ _ (0, 0) h]; rfl, by rw [cell_of_row w B 1 _ _ (0, 0) h]; rfl, by rw [cell_of_row w B 2 _ _ (0, 0) h]; rfl, by rw [cell_of_row w B 3 _ _ (0, 0) h]; rfl⟩
theorem EntAt.lt {w : World} {B : Nat} {i t k : Int} {A : Option Addr} {n cap : Nat} (h : EntAt w B i t k A n cap) : B < w.heap.size := lt_of_cell h.cells.1
theorem EntAt.below {w w' : World} {B : Nat} {i t k : Int} {A : Option Addr} {n cap : Nat} (h : EntAt w B i t k A n cap) (hb : Below w.heap.size w w') : EntAt w' B i t k A n cap := (hb.block B h.lt).trans h
theorem own_rd {w0 w : World} {A : Option Addr} {n cap : Nat} {zs : List Int} (h : Own w0 w (.slice A n cap) zs) : Rd w A n zs := by
  obtain ⟨A', c', hv, hs, _⟩ := h.sl zs.length rfl
  cases hv
  exact hs.1
set_option maxRecDepth 100000 in
set_option maxHeartbeats 1600000 in
theorem entryRecord_any (e : E) (A : Option Addr) (cap : Nat) (w : World) (he : e.Ok) (hr : Rd w A e.data.length e.data) (hA : A = none → cap = 0) : Calls Tryz.prog 52 #[entV e A cap] w (Made w (Rc.recd (chC (.entry e)))) := by
  obtain ⟨idx, term, kind, data⟩ := e
  obtain ⟨h1, h2, h3, h4, h5, h6⟩ := he
  simp only at h1 h2 h3 h4 h5 h6 hr
  unfold MI at h2 h3
  obtain ⟨n, hn⟩ : ∃ n, data.length = n := ⟨_, rfl⟩
  have HLN := Lib.hid hn
  unfold entV
  simp only
  rw [hn] at hr h5 ⊢
  have HB := Lib.hid (alloc_below' w (.cells #[.int .i64 (idx : Int), .int .i64 (term : Int), .int .i64 (kind : Int), .slice A n cap] 49))
  have HE := Lib.hid (show EntAt (w.alloc (.cells #[.int .i64 (idx : Int), .int .i64 (term : Int), .int .i64 (kind : Int), .slice A n cap] 49)) w.heap.size idx term kind A n cap from heap_alloc_new w _)
  have HRD := Lib.hid (hr.below HB.out)
  have HA := Lib.hid hA
  have HD := Lib.hid (digs_len8 n (by omega))
  have HCH := Lib.hid (show chC (.entry ⟨idx, term, kind, data⟩) = enc [1, idx, term, kind] ++ textC data from rfl)
  have HL := Lib.hid (enc_len [1, idx, term, kind] (by simp; omega))
  clear hr hA h6 hn
  go_enter Tryz.func52, Tryz.ntmps52
  go_wp2_with fail
  generalize w.alloc (.cells #[.int .i64 (idx : Int), .int .i64 (term : Int), .int .i64 (kind : Int), .slice A n cap] 49) = wa at *
  obtain ⟨s0, s1, s2, s3⟩ := HE.out.cells
  have HN := Lib.hid (show Calls Tryz.prog 79 #[.slice (some ⟨wa.heap.size, 0, none⟩) 4 4] (wa.alloc (.cells #[.int .i64 1, .int .i64 (idx : Int), .int .i64 (term : Int), .int .i64 (kind : Int)] 3)).drew (fun e w1 => ∃ v1, e = .returned v1 ∧ Own wa w1 v1 (enc [1, idx, term, kind])) from
    (numbers_any _ 4 4 [1, idx, term, kind] (wa.alloc (.cells #[.int .i64 1, .int .i64 (idx : Int), .int .i64 (term : Int), .int .i64 (kind : Int)] 3)).drew (rdI_built wa [1, idx, term, kind] (by simp) 3) rfl (by omega) (by simp; omega)).mono (by
      rintro e w1 ⟨v1, rfl, hO1⟩
      exact ⟨v1, rfl, hO1.since ((alloc_below' wa _).drew)⟩))
  have HPOS := Lib.hid (show 0 < (textC data).length by rw [textC_len]; omega)
  go_region_held3 (fun w' => w'.cell? ⟨w.heap.size, 0, none⟩ = some (.int .i64 (idx : Int)) ∧ w'.cell? ⟨w.heap.size, 1, none⟩ = some (.int .i64 (term : Int)) ∧ w'.cell? ⟨w.heap.size, 2, none⟩ = some (.int .i64 (kind : Int)) ∧ w'.cell? ⟨w.heap.size, 3, none⟩ = some (.slice A n cap)) (first | exact ⟨by assumption, by assumption, by assumption, by assumption⟩ | exact (HE.out.below (alloc_below' _ _)).cells | exact HE1.out.cells | exact HE2.out.cells | exact HE3.out.cells | exact HE4.out.cells | go_keep) (first
    | (go_at_call 79; refine HN.out.mono ?_; rintro e w1 ⟨v1, rfl, hO1⟩; have HO1 := Lib.hid hO1; have HE1 := Lib.hid (HE.out.below hO1.1); obtain ⟨r0, r1, r2, r3⟩ := HE1.out.cells; clear hO1)
    | (go_at_call 80; refine (text_any A n cap data _ (HRD.out.below HO1.out.1) HA.out (by omega)).mono ?_; rintro e w2 ⟨v2, rfl, hO2⟩; obtain ⟨g2, c2, hv2, _⟩ := hO2.addr _ rfl HPOS.out; subst hv2; have hs2 := own_rd hO2; have HO2 := Lib.hid (HO1.out.below hO2.1); have HS2 := Lib.hid hs2; have HE2 := Lib.hid (HE1.out.below hO2.1); obtain ⟨q0, q1, q2, q3⟩ := HE2.out.cells; clear hs2 hO2)
    | (refine step_append_rd rfl _ _ rfl wa v1 (enc [1, idx, term, kind]) rfl HO2.out ⟨g2, 0, none⟩ _ c2 (textC data) rfl HS2.out (by have := HD.out; have := HL.out; have := textC_len data; rw [HLN.out] at this; simp at *; omega) ?_; intro v3 w3 hO3 _; rw [← HCH.out] at hO3; obtain ⟨A3, c3, hv3, hs3, _⟩ := hO3.sl _ rfl; subst hv3; have HO3 := Lib.hid hO3; have HS3 := Lib.hid hs3; have HE3 := Lib.hid (HE.out.below hO3.1); obtain ⟨p0, p1, p2, p3⟩ := HE3.out.cells; clear hO3 hs3)
    | (go_at_call 78; refine (put_any A3 _ c3 _ _ HS3.out.1 HS3.out.2.2.2.1 (by have := HD.out; have := HL.out; have := textC_len data; rw [HLN.out] at this; rw [HCH.out, List.length_append]; simp at *; omega)).mono ?_; rintro e w4 ⟨v4, rfl, hO4⟩; have HO4 := Lib.hid (hO4.since HO3.out.1); have HE4 := Lib.hid (HE3.out.below hO4.1); obtain ⟨p0, p1, p2, p3⟩ := HE4.out.cells; clear hO4)
    )
  go_wp2
  go_ret
  exact ⟨_, rfl, HO4.out.since HB.out⟩
end Go.Proofs.YtgmpdifggaggdaaGreatDoor.Wl

namespace Go.Proofs.YtgmpdifggaggdaaGreatDoor.Wl
open Go.RowKit Go.Proofs.YtgmpdifggaggdaaGreatDoor.Fld
set_option linter.unusedVariables false

def stE (q : List Int × Bool) : E × (List Int × Bool) :=
  (⟨(stI q 1 MI).1, (stI (stI q 1 MI).2 0 MI).1, (stI (stI (stI q 1 MI).2 0 MI).2 0 7).1, (stT (stI (stI (stI q 1 MI).2 0 MI).2 0 7).2 4096).1⟩, (stT (stI (stI (stI q 1 MI).2 0 MI).2 0 7).2 4096).2)
def EntIs (g : Nat) (w : World) (q : List Int × Bool) (e : Ending) (w' : World) : Prop := ∃ A cap, e = .returned (entV (stE q).1 A cap) ∧ Rd w' A (stE q).1.data.length (stE q).1.data ∧ (A = none → cap = 0) ∧ Chg g w w' ∧ Rdr w' g (stE q).2.1 (stE q).2.2
theorem Rdr.past {w : World} {g : Nat} {zs : List Int} {bad : Bool} (h : Rdr w g zs bad) (o : Obj) : Rdr (w.alloc o) g zs bad := h.below (alloc_below' w o)
theorem Rdr.far {w : World} {g : Nat} {zs : List Int} {bad : Bool} (h : Rdr w g zs bad) {B : Nat} {cs : Array Value} {ty : TypeId} (hb : Blk w B cs ty) (hg : B ≠ g) (i : Nat) (hi : ∀ c, cs[i]? ≠ some (.int .u8 c)) (v : Value) : Rdr (w.setCell ⟨B, i, none⟩ v) g zs bad := by
  obtain ⟨A, n, cap, h1, h2, h3⟩ := h
  refine ⟨A, n, cap, h1.other _ hg v, ⟨h2.1.of_same fun a c hc => ?_, h2.2⟩, h3⟩
  have hne : a ≠ ⟨B, i, none⟩ := by
    rintro rfl
    have := hb.cell i
    rw [cell_of_row w B i _ _ (0, 0) hb] at hc
    exact hi c hc
  exact World.cell?_setCell_other w _ _ _ (Ne.symm hne)
theorem Rd.far {w : World} {A : Option Addr} {n : Nat} {zs : List Int} (h : Rd w A n zs) {B : Nat} {cs : Array Value} {ty : TypeId} (hb : Blk w B cs ty) (i : Nat) (hi : ∀ c, cs[i]? ≠ some (.int .u8 c)) (v : Value) : Rd (w.setCell ⟨B, i, none⟩ v) A n zs := by
  refine h.of_same fun a c hc => ?_
  have hne : a ≠ ⟨B, i, none⟩ := by
    rintro rfl
    rw [cell_of_row w B i _ _ (0, 0) hb] at hc
    exact hi c hc
  exact World.cell?_setCell_other w _ _ _ (Ne.symm hne)
theorem Sl.far {w : World} {A : Option Addr} {n cap : Nat} {zs : List Int} (h : Sl w A n cap zs) {B : Nat} {cs : Array Value} {ty : TypeId} (hb : Blk w B cs ty) (i : Nat) (hi : ∀ c, cs[i]? ≠ some (.int .u8 c)) (v : Value) : Sl (w.setCell ⟨B, i, none⟩ v) A n cap zs := ⟨Rd.far h.1 hb i hi v, h.2⟩
/-- a block of the call's own, and the result's, behind one more reading -/
structure Twos (g : Nat) (w W : World) (q : List Int × Bool) (R C : Nat) (rs cs : Array Value) (tr tc : TypeId) : Prop where
  rd : Rdr W g q.1 q.2
  res : Blk W R rs tr
  own : Blk W C cs tc
  chg : Chg g w W
  r : w.heap.size ≤ R
  c : w.heap.size ≤ C
  ne : R ≠ C ∧ R ≠ g ∧ C ≠ g
theorem Twos.call {g : Nat} {w W W' : World} {q q' : List Int × Bool} {R C : Nat} {rs cs : Array Value} {tr tc : TypeId} (h : Twos g w W q R C rs cs tr tc) (hc : Chg g W W') (hr : Rdr W' g q'.1 q'.2) : Twos g w W' q' R C rs cs tr tc :=
  ⟨hr, h.res.chg hc h.ne.2.1, h.own.chg hc h.ne.2.2, h.chg.trans hc, h.r, h.c, h.ne⟩
theorem Twos.store {g : Nat} {w W : World} {q : List Int × Bool} {R C : Nat} {rs cs : Array Value} {tr tc : TypeId} (h : Twos g w W q R C rs cs tr tc) (i : Nat) (hi : i < cs.size) (hn : ∀ c, cs[i]? ≠ some (.int .u8 c)) (v : Value) : Twos g w (W.setCell ⟨C, i, none⟩ v) q R C rs (cs.setIfInBounds i v) tr tc :=
  ⟨Rdr.far h.rd h.own h.ne.2.2 i hn v, h.res.far _ (Ne.symm h.ne.1) v, h.own.set i v hi, h.chg.setCell _ (.inr h.c) v, h.r, h.c, h.ne⟩
theorem Twos.storeR {g : Nat} {w W : World} {q : List Int × Bool} {R C : Nat} {rs cs : Array Value} {tr tc : TypeId} (h : Twos g w W q R C rs cs tr tc) (i : Nat) (hi : i < rs.size) (hn : ∀ c, rs[i]? ≠ some (.int .u8 c)) (v : Value) : Twos g w (W.setCell ⟨R, i, none⟩ v) q R C (rs.setIfInBounds i v) cs tr tc :=
  ⟨Rdr.far h.rd h.res h.ne.2.1 i hn v, h.res.set i v hi, h.own.far _ h.ne.1 v, h.chg.setCell _ (.inr h.r) v, h.r, h.c, h.ne⟩
theorem mi_eq : (MI : Int) = 1099511627776 := by decide
set_option maxRecDepth 100000 in
set_option maxHeartbeats 3200000 in
theorem readEntry_any (g : Nat) (q : List Int × Bool) (w : World) (h : Rdr w g q.1 q.2) : Calls Tryz.prog 120 #[.pointer (some ⟨g, 0, none⟩)] w (EntIs g w q) := by
  have T0 := Lib.hid (show Twos g w ((w.alloc (.cells #[.int .i64 0, .int .i64 0, .int .i64 0, .slice none 0 0] 49)).alloc (.cells #[.int .i64 0, .int .i64 0, .int .i64 0, .slice none 0 0] 49)) q w.heap.size (w.heap.size + 1) #[.int .i64 0, .int .i64 0, .int .i64 0, .slice none 0 0] #[.int .i64 0, .int .i64 0, .int .i64 0, .slice none 0 0] 49 49 from
    ⟨Rdr.past (Rdr.past h _) _, (Blk.new w _ _).past _, by have := Blk.new (w.alloc (.cells #[.int .i64 0, .int .i64 0, .int .i64 0, .slice none 0 0] 49)) #[.int .i64 0, .int .i64 0, .int .i64 0, .slice none 0 0] 49; simpa using this, ((Chg.refl g w).alloc _).alloc _, Nat.le_refl _, by omega, by omega, by have := h.lt; omega, by have := h.lt; omega⟩)
  have HQ := Lib.hid (show stE q = (⟨(stI q 1 MI).1, (stI (stI q 1 MI).2 0 MI).1, (stI (stI (stI q 1 MI).2 0 MI).2 0 7).1, (stT (stI (stI (stI q 1 MI).2 0 MI).2 0 7).2 4096).1⟩, (stT (stI (stI (stI q 1 MI).2 0 MI).2 0 7).2 4096).2) from rfl)
  clear h
  go_enter Tryz.func120, Tryz.ntmps120
  go_wp2_with fail
  generalize (w.alloc (.cells #[.int .i64 0, .int .i64 0, .int .i64 0, .slice none 0 0] 49)).alloc (.cells #[.int .i64 0, .int .i64 0, .int .i64 0, .slice none 0 0] 49) = w0 at *
  refine (readInt_any g q w0 1 MI (by decide) T0.out.rd).mono ?_
  generalize stI q 1 MI = a1 at *
  obtain ⟨i, q1⟩ := a1
  rintro e w1 ⟨rfl, hc, hr⟩
  have T1 := Lib.hid (T0.out.call hc hr)
  clear hc hr
  have c0 := T1.out.own.cell 0 _ rfl
  have f0 := T1.out.own.free 0
  go_wp2_with fail
  have T1b := Lib.hid (T1.out.store 0 (by simp) (by intro c h; cases h) (.int .i64 (i : Int)))
  generalize w1.setCell ⟨w.heap.size + 1, 0, none⟩ (.int .i64 (i : Int)) = w1b at *
  refine (readInt_any g q1 w1b 0 MI (by decide) T1b.out.rd).mono ?_
  generalize stI q1 0 MI = a2 at *
  obtain ⟨u, q2⟩ := a2
  rintro e w2 ⟨rfl, hc, hr⟩
  have T2 := Lib.hid (T1b.out.call hc hr)
  clear hc hr c0 f0
  have c0 := T2.out.own.cell 1 _ rfl
  have f0 := T2.out.own.free 1
  go_wp2_with fail
  have T2b := Lib.hid (T2.out.store 1 (by simp) (by intro c h; cases h) (.int .i64 (u : Int)))
  generalize w2.setCell ⟨w.heap.size + 1, 1, none⟩ (.int .i64 (u : Int)) = w2b at *
  refine (readInt_any g q2 w2b 0 7 (by decide) T2b.out.rd).mono ?_
  generalize stI q2 0 7 = a3 at *
  obtain ⟨k, q3⟩ := a3
  rintro e w3 ⟨rfl, hc, hr⟩
  have T3 := Lib.hid (T2b.out.call hc hr)
  clear hc hr c0 f0
  have c0 := T3.out.own.cell 2 _ rfl
  have f0 := T3.out.own.free 2
  go_wp2_with fail
  have T3b := Lib.hid (T3.out.store 2 (by simp) (by intro c h; cases h) (.int .i64 (k : Int)))
  generalize w3.setCell ⟨w.heap.size + 1, 2, none⟩ (.int .i64 (k : Int)) = w3b at *
  refine (rtext_any g q3 w3b 4096 T3b.out.rd).mono ?_
  generalize stT q3 4096 = a4 at *
  obtain ⟨d, q4⟩ := a4
  rintro e w4 ⟨A, n, cap, rfl, hsl, hc, hr⟩
  have HN := Lib.hid (show d.length = n from hsl.1.1)
  have T4 := Lib.hid (T3b.out.call hc hr)
  have HS := Lib.hid hsl
  clear hc hr c0 f0 hsl
  have T4b := Lib.hid (T4.out.store 3 (by simp) (by intro c h; cases h) (.slice A n cap))
  have HS2 := Lib.hid (Sl.far HS.out T4.out.own 3 (by intro c h; cases h) (.slice A n cap))
  have c0 := T4.out.own.cell 3 _ rfl
  have f0 := T4.out.own.free 3
  obtain ⟨wz, hz⟩ : ∃ wz, w4.setCell ⟨w.heap.size + 1, 3, none⟩ (.slice A n cap) = wz := ⟨_, rfl⟩
  rw [hz] at T4b HS2
  have d0 := T4b.out.own.cell 0 _ rfl
  have d1 := T4b.out.own.cell 1 _ rfl
  have d2 := T4b.out.own.cell 2 _ rfl
  have d3 := T4b.out.own.cell 3 _ rfl
  have r0 := T4b.out.res.cell 0 _ rfl
  have r1 := T4b.out.res.cell 1 _ rfl
  have r2 := T4b.out.res.cell 2 _ rfl
  have r3 := T4b.out.res.cell 3 _ rfl
  have g0 := T4b.out.res.free 0
  have g1 := T4b.out.res.free 1
  have g2 := T4b.out.res.free 2
  have g3 := T4b.out.res.free 3
  have S0 := Lib.hid (T4b.out.storeR 0 (by simp) (by intro c h; cases h) (.int .i64 (i : Int)))
  have S1 := Lib.hid (S0.out.storeR 1 (by simp) (by intro c h; cases h) (.int .i64 (u : Int)))
  have S2 := Lib.hid (S1.out.storeR 2 (by simp) (by intro c h; cases h) (.int .i64 (k : Int)))
  have S3 := Lib.hid (S2.out.storeR 3 (by simp) (by intro c h; cases h) (.slice A n cap))
  have R0 := Lib.hid (Sl.far HS2.out T4b.out.res 0 (by intro c h; cases h) (.int .i64 (i : Int)))
  have R1 := Lib.hid (Sl.far R0.out S0.out.res 1 (by intro c h; cases h) (.int .i64 (u : Int)))
  have R2 := Lib.hid (Sl.far R1.out S1.out.res 2 (by intro c h; cases h) (.int .i64 (k : Int)))
  have R3 := Lib.hid (Sl.far R2.out S2.out.res 3 (by intro c h; cases h) (.slice A n cap))
  go_wp2
  refine bodyPost_ret (v := .agg #[.int .i64 (i : Int), .int .i64 (u : Int), .int .i64 (k : Int), .slice A n cap]) ?_ ?_ ?_
  · exact results_cell_row Tryz.results120 _ _ w.heap.size 49 #[.int .i64 (i : Int), .int .i64 (u : Int), .int .i64 (k : Int), .slice A n cap] (0, 0) _ rfl S3.out.res Tryz.underlying49 rfl (by kernel_rfl)
  · rfl
  unfold EntIs
  rw [HQ.out]
  refine ⟨A, cap, ?_, ?_, ?_, S3.out.chg, S3.out.rd⟩
  · unfold entV
    simp only
    rw [HN.out]
  · simp only
    rw [HN.out]
    exact R3.out.1
  · exact R3.out.2.2.2.1
end Go.Proofs.YtgmpdifggaggdaaGreatDoor.Wl

namespace Go.Proofs.YtgmpdifggaggdaaGreatDoor.Wl
open Go.RowKit Go.Proofs.YtgmpdifggaggdaaGreatDoor.Fld
set_option linter.unusedVariables false

theorem stI_some {r r' : List Int} {l h n : Nat} (hr : rI r l h = some (n, r')) : stI (r, false) l h = (n, (r', false)) := by unfold stI; simp only [Bool.false_eq_true, if_false]; rw [hr]
theorem stI_none {r : List Int} {l h : Nat} (hr : rI r l h = none) : stI (r, false) l h = (0, (r, true)) := by unfold stI; simp only [Bool.false_eq_true, if_false]; rw [hr]
theorem stI_bad (r : List Int) (l h : Nat) : stI (r, true) l h = (0, (r, true)) := by unfold stI; simp
theorem stT_some {r r' t : List Int} {m : Nat} (hr : rT r m = some (t, r')) : stT (r, false) m = (t, (r', false)) := by unfold stT; simp only [Bool.false_eq_true, if_false]; rw [hr]
theorem stT_none {r : List Int} {m : Nat} (hr : rT r m = none) : stT (r, false) m = ([], (r, true)) := by unfold stT; simp only [Bool.false_eq_true, if_false]; rw [hr]
theorem stT_bad (r : List Int) (m : Nat) : stT (r, true) m = ([], (r, true)) := by unfold stT; simp
theorem whole_bad (r : List Int) : wholeB r true = false := rfl
theorem whole_ok (r : List Int) : wholeB r false = decide (r = []) := rfl
def finH (q : List Int × Bool) : Ch × (List Int × Bool) := (.head (stI q 1 99999999).1 (stI (stI q 1 99999999).2 1 (MI + 1)).1, (stI (stI q 1 99999999).2 1 (MI + 1)).2)
def finE (q : List Int × Bool) : Ch × (List Int × Bool) := (.entry (stE q).1, (stE q).2)
def finI (k : Nat) (q : List Int × Bool) : Ch × (List Int × Bool) := (if k = 2 then .cut (stI q 1 (MI + 1)).1 else .reset (stI q 1 (MI + 1)).1, (stI q 1 (MI + 1)).2)
theorem finH_eq (r : List Int) : (if wholeB (finH (r, false)).2.1 (finH (r, false)).2.2 then some (finH (r, false)).1 else none) = decH r := by
  unfold decH finH
  cases h1 : rI r 1 99999999 with
  | none => rw [stI_none h1]; simp only; rw [stI_bad]; rfl
  | some a =>
    obtain ⟨n, r1⟩ := a
    rw [stI_some h1]
    simp only
    cases h2 : rI r1 1 (MI + 1) with
    | none => rw [stI_none h2]; rfl
    | some b =>
      obtain ⟨i, r2⟩ := b
      rw [stI_some h2]
      simp only [whole_ok, decide_eq_true_eq]
theorem finE_eq (r : List Int) : (if wholeB (finE (r, false)).2.1 (finE (r, false)).2.2 then some (finE (r, false)).1 else none) = decE r := by
  unfold decE finE stE
  cases h1 : rI r 1 MI with
  | none => rw [stI_none h1]; simp only [stI_bad, stT_bad]; rfl
  | some a =>
    obtain ⟨i, r1⟩ := a
    rw [stI_some h1]
    simp only
    cases h2 : rI r1 0 MI with
    | none => rw [stI_none h2]; simp only [stI_bad, stT_bad]; rfl
    | some b =>
      obtain ⟨t, r2⟩ := b
      rw [stI_some h2]
      simp only
      cases h3 : rI r2 0 7 with
      | none => rw [stI_none h3]; simp only [stT_bad]; rfl
      | some c =>
        obtain ⟨k, r3⟩ := c
        rw [stI_some h3]
        simp only
        cases h4 : rT r3 4096 with
        | none => rw [stT_none h4]; rfl
        | some d =>
          obtain ⟨d, r4⟩ := d
          rw [stT_some h4]
          simp only [whole_ok, decide_eq_true_eq]
theorem finI_eq (k : Nat) (r : List Int) : (if wholeB (finI k (r, false)).2.1 (finI k (r, false)).2.2 then some (finI k (r, false)).1 else none) = decI k r := by
  unfold decI finI
  cases h1 : rI r 1 (MI + 1) with
  | none => rw [stI_none h1]; rfl
  | some a =>
    obtain ⟨i, r1⟩ := a
    rw [stI_some h1]
    simp only [whole_ok, decide_eq_true_eq]
/-- what is read of a content, whatever it is -/
def fin (k : Nat) (q : List Int × Bool) : Ch × (List Int × Bool) := if k = 0 then finH q else if k = 1 then finE q else finI k q
theorem fin_eq (b : List Int) : (if wholeB (fin (stI (b, false) 0 3).1 (stI (b, false) 0 3).2).2.1 (fin (stI (b, false) 0 3).1 (stI (b, false) 0 3).2).2.2 then some (fin (stI (b, false) 0 3).1 (stI (b, false) 0 3).2).1 else none) = dec b := by
  unfold dec
  cases h1 : rI b 0 3 with
  | none =>
    rw [stI_none h1]
    unfold fin
    rw [if_pos rfl]
    unfold finH
    simp only [stI_bad]
    rfl
  | some a =>
    obtain ⟨k, r⟩ := a
    rw [stI_some h1]
    simp only
    unfold fin
    split
    · exact finH_eq r
    · split
      · exact finE_eq r
      · exact finI_eq k r
def dataOf : Ch → List Int
  | .entry e => e.data
  | _ => []
/-- a change's value -/
def chV (c : Ch) (A : Option Addr) (cap : Nat) : Value :=
  match c with
  | .head n i => .agg #[.int .i64 0, .int .i64 (n : Int), .int .i64 (i : Int), .int .i64 0, .int .i64 0, .int .i64 0, .slice none 0 0]
  | .entry e => .agg #[.int .i64 1, .int .i64 0, .int .i64 0, .int .i64 (e.idx : Int), .int .i64 (e.term : Int), .int .i64 (e.kind : Int), .slice A e.data.length cap]
  | .cut i => .agg #[.int .i64 2, .int .i64 0, .int .i64 (i : Int), .int .i64 0, .int .i64 0, .int .i64 0, .slice none 0 0]
  | .reset i => .agg #[.int .i64 3, .int .i64 0, .int .i64 (i : Int), .int .i64 0, .int .i64 0, .int .i64 0, .slice none 0 0]
def DecIs (w : World) (b : List Int) (e : Ending) (w' : World) : Prop :=
  ∃ v A cap, e = .returned (.tuple #[v, .bool (dec b).isSome]) ∧ (dec b = none → v = .agg #[.int .i64 0, .int .i64 0, .int .i64 0, .int .i64 0, .int .i64 0, .int .i64 0, .slice none 0 0]) ∧ (∀ c, dec b = some c → v = chV c A cap ∧ Rd w' A (dataOf c).length (dataOf c) ∧ (A = none → cap = 0)) ∧ Below w.heap.size w w'
end Go.Proofs.YtgmpdifggaggdaaGreatDoor.Wl

namespace Go.Proofs.YtgmpdifggaggdaaGreatDoor.Wl
open Go.RowKit Go.Proofs.YtgmpdifggaggdaaGreatDoor.Fld
set_option linter.unusedVariables false

theorem results_two {P : Program} {fn : Func} {p u : Tmp} {ty : TypeId} (h : fn.results = #[.cell p ty, .tmp u]) (tmps : Array Value) (w : World) (g : Nat) (t : TypeId) (cs : Array Value) (fr : Nat × Nat) (d : TypeDesc)
    (hp : tmps.getD p undef = .pointer (some ⟨g, 0, none⟩)) (hg : w.heap[g]? = some (.cells cs t fr))
    (hu : P.underlying ty = some d) (hd : (match d with | .struct _ | .array _ _ => true | _ => false) = true) (hi : (P.info? ty).map (·.size) = some cs.size) :
    (results fn tmps).run P w = .ok (.tuple #[.agg cs, tmps.getD u undef]) w := by
  rw [results_cell_tmp h, hp]
  simp [asAddr, run_loadVar_row w g t ty cs fr d hg hu hd hi, Result.andThen]
theorem Twos.below {g : Nat} {w W : World} {q : List Int × Bool} {R C : Nat} {rs cs : Array Value} {tr tc : TypeId} (h : Twos g w W q R C rs cs tr tc) (hg : w.heap.size ≤ g) : Below w.heap.size w W :=
  ⟨h.chg.os, h.chg.tape, h.chg.output, h.chg.size, fun k hk => h.chg.block k hk (by omega)⟩
theorem and_far {w : World} {A : Option Addr} {n cap : Nat} {zs : List Int} (h : Rd w A n zs ∧ (A = none → cap = 0)) {B : Nat} {cs : Array Value} {ty : TypeId} (hb : Blk w B cs ty) (i : Nat) (hi : ∀ c, cs[i]? ≠ some (.int .u8 c)) (v : Value) : Rd (w.setCell ⟨B, i, none⟩ v) A n zs ∧ (A = none → cap = 0) := ⟨Rd.far h.1 hb i hi v, h.2⟩
theorem decIs_no {b : List Int} {c : Ch} {w w' : World} (h : (if false = true then some c else none) = dec b) (hb : Below w.heap.size w w') : DecIs w b (.returned (.tuple #[.agg #[.int .i64 0, .int .i64 0, .int .i64 0, .int .i64 0, .int .i64 0, .int .i64 0, .slice none 0 0], .bool false])) w' := by
  have h : dec b = none := h.symm
  exact ⟨_, none, 0, by rw [h]; rfl, fun _ => rfl, fun c hc => by (rw [h] at hc; cases hc), hb⟩
theorem decIs_yes {b : List Int} {c : Ch} {w w' : World} {v : Value} (h : (if true = true then some c else none) = dec b) (A : Option Addr) (cap : Nat) (hv : v = chV c A cap) (hr : Rd w' A (dataOf c).length (dataOf c)) (hA : A = none → cap = 0) (hb : Below w.heap.size w w') : DecIs w b (.returned (.tuple #[v, .bool true])) w' := by
  have h : dec b = some c := h.symm
  refine ⟨v, A, cap, by rw [h]; rfl, fun hc => by (rw [h] at hc; cases hc), fun c' hc => ?_, hb⟩
  rw [h] at hc
  cases hc
  exact ⟨hv, hr, hA⟩
set_option maxRecDepth 100000 in
set_option maxHeartbeats 6400000 in
theorem decode_any (A : Option Addr) (n cap : Nat) (b : List Int) (w : World) (hr : Rd w A n b) (hA : A = none → cap = 0) (hn : n ≤ 1000000) : Calls Tryz.prog 86 #[.slice A n cap] w (DecIs w b) := by
  have HR := Lib.hid (hr.below (alloc_below' w (.cells #[.int .i64 0, .int .i64 0, .int .i64 0, .int .i64 0, .int .i64 0, .int .i64 0, .slice none 0 0] 124)))
  have HR0 := Lib.hid (Blk.new w #[.int .i64 0, .int .i64 0, .int .i64 0, .int .i64 0, .int .i64 0, .int .i64 0, .slice none 0 0] 124)
  have HB0 := Lib.hid (alloc_below' w (.cells #[.int .i64 0, .int .i64 0, .int .i64 0, .int .i64 0, .int .i64 0, .int .i64 0, .slice none 0 0] 124))
  have HFIN := Lib.hid (fin_eq b)
  have hk3 := stI_high (b, false) 0 3
  clear hr
  go_enter Tryz.func86, Tryz.ntmps86
  go_wp2_with fail
  refine (new_any A n cap b _ HR.out hA (by omega)).mono ?_
  rintro e w1 ⟨g, rfl, hg, hrd, hb⟩
  have HG := Lib.hid (show w.heap.size ≤ g by have := HB0.out.size; omega)
  have HNE := Lib.hid (show w.heap.size ≠ g by have := HR0.out.lt; omega)
  have HR1 := Lib.hid (HR0.out.below hb)
  have HC1 := Lib.hid (show Chg g w w1 from Chg.below (HB0.out.trans (hb.mono HB0.out.size)))
  have HRD := Lib.hid hrd
  clear hg hrd hb HR HR0 hA
  go_wp2_with fail
  refine (readInt_any g (b, false) w1 0 3 (by decide) HRD.out).mono ?_
  generalize stI (b, false) 0 3 = a1 at *
  obtain ⟨k, q1⟩ := a1
  rintro e w2 ⟨rfl, hc, hr⟩
  have HR2 := Lib.hid (HR1.out.chg hc HNE.out)
  have HC2 := Lib.hid (HC1.out.trans hc)
  have HRD2 := Lib.hid hr
  have HGL := Lib.hid (show g < w2.heap.size from hr.lt)
  clear hc hr HRD HR1 HC1
  have T1 := Lib.hid (show ∀ cs : Array Value, Twos g w (w2.alloc (.cells cs 124)) q1 w.heap.size w2.heap.size #[.int .i64 0, .int .i64 0, .int .i64 0, .int .i64 0, .int .i64 0, .int .i64 0, .slice none 0 0] cs 124 124 from fun cs =>
    ⟨Rdr.past HRD2.out _, HR2.out.past _, Blk.new w2 _ _, HC2.out.alloc _, Nat.le_refl _, HC2.out.size, by have := HR2.out.lt; omega, HNE.out, by have := HGL.out; omega⟩)
  clear HR2 HC2 HRD2
  obtain rfl | rfl | rfl | rfl : k = 0 ∨ k = 1 ∨ k = 2 ∨ k = 3 := by simp only at hk3; omega
  · have T2 := Lib.hid (T1.out #[.int .i64 0, .int .i64 0, .int .i64 0, .int .i64 0, .int .i64 0, .int .i64 0, .slice none 0 0])
    go_wp2_with fail
    generalize w2.alloc (.cells #[.int .i64 0, .int .i64 0, .int .i64 0, .int .i64 0, .int .i64 0, .int .i64 0, .slice none 0 0] 124) = wc at *
    refine (readInt_any g q1 wc 1 99999999 (by decide) T2.out.rd).mono ?_
    have HFIN2 := Lib.hid (show (if wholeB (finH q1).2.1 (finH q1).2.2 then some (finH q1).1 else none) = dec b from HFIN.out)
    clear HFIN
    unfold finH at HFIN2
    generalize stI q1 1 99999999 = a2 at *
    obtain ⟨m, q2⟩ := a2
    rintro e w3 ⟨rfl, hc, hr⟩
    have T3 := Lib.hid (T2.out.call hc hr)
    clear hc hr
    have c0 := T3.out.own.cell 1 _ rfl
    have f0 := T3.out.own.free 1
    go_wp2_with fail
    have T4 := Lib.hid (T3.out.store 1 (by simp) (by intro c h; cases h) (.int .i64 (m : Int)))
    generalize w3.setCell ⟨w2.heap.size, 1, none⟩ (.int .i64 (m : Int)) = w4 at *
    refine (readInt_any g q2 w4 1 (MI + 1) (by decide) T4.out.rd).mono ?_
    generalize stI q2 1 (MI + 1) = a3 at *
    obtain ⟨i, q3⟩ := a3
    rintro e w5 ⟨rfl, hc, hr⟩
    have T5 := Lib.hid (T4.out.call hc hr)
    clear hc hr c0 f0
    have c0 := T5.out.own.cell 2 _ rfl
    have f0 := T5.out.own.free 2
    have T6 := Lib.hid (T5.out.store 2 (by simp) (by intro c h; cases h) (.int .i64 (i : Int)))
    obtain ⟨w6, hz⟩ : ∃ w6, w5.setCell ⟨w2.heap.size, 2, none⟩ (.int .i64 (i : Int)) = w6 := ⟨_, rfl⟩
    rw [hz] at T6
    have HFIN := Lib.hid HFIN2.out
    simp only at HFIN
    clear HFIN2
    have HWH := Lib.hid (whole_any g q3.1 q3.2 w6 T6.out.rd)
    have r0 := T6.out.res.cell 0 _ rfl
    have z0 := T6.out.res.free 0
    have d0 := T6.out.own.cell 0 _ rfl
    have r1 := T6.out.res.cell 1 _ rfl
    have z1 := T6.out.res.free 1
    have d1 := T6.out.own.cell 1 _ rfl
    have r2 := T6.out.res.cell 2 _ rfl
    have z2 := T6.out.res.free 2
    have d2 := T6.out.own.cell 2 _ rfl
    have r3 := T6.out.res.cell 3 _ rfl
    have z3 := T6.out.res.free 3
    have d3 := T6.out.own.cell 3 _ rfl
    have r4 := T6.out.res.cell 4 _ rfl
    have z4 := T6.out.res.free 4
    have d4 := T6.out.own.cell 4 _ rfl
    have r5 := T6.out.res.cell 5 _ rfl
    have z5 := T6.out.res.free 5
    have d5 := T6.out.own.cell 5 _ rfl
    have r6 := T6.out.res.cell 6 _ rfl
    have z6 := T6.out.res.free 6
    have d6 := T6.out.own.cell 6 _ rfl
    cases hwb : wholeB q3.1 q3.2
    · rw [hwb] at HWH HFIN
      have S0 := Lib.hid (T6.out.storeR 0 (by simp) (by intro c h; cases h) (.int .i64 0))
      have S1 := Lib.hid (S0.out.storeR 1 (by simp) (by intro c h; cases h) (.int .i64 0))
      have S2 := Lib.hid (S1.out.storeR 2 (by simp) (by intro c h; cases h) (.int .i64 0))
      have S3 := Lib.hid (S2.out.storeR 3 (by simp) (by intro c h; cases h) (.int .i64 0))
      have S4 := Lib.hid (S3.out.storeR 4 (by simp) (by intro c h; cases h) (.int .i64 0))
      have S5 := Lib.hid (S4.out.storeR 5 (by simp) (by intro c h; cases h) (.int .i64 0))
      have S6 := Lib.hid (S5.out.storeR 6 (by simp) (by intro c h; cases h) (.slice none 0 0))
      go_wp2_with (go_at_call 121; refine HWH.out.mono ?_; rintro e w' ⟨rfl, rfl⟩)
      refine bodyPost_ret (v := .tuple #[.agg #[.int .i64 0, .int .i64 0, .int .i64 0, .int .i64 0, .int .i64 0, .int .i64 0, .slice none 0 0], .bool false]) ?_ ?_ ?_
      · exact results_two Tryz.results86 _ _ w.heap.size 124 #[.int .i64 0, .int .i64 0, .int .i64 0, .int .i64 0, .int .i64 0, .int .i64 0, .slice none 0 0] (0, 0) _ rfl S6.out.res Tryz.underlying124 rfl (by kernel_rfl)
      · rfl
      · exact decIs_no HFIN.out (S6.out.below HG.out)
    · rw [hwb] at HWH HFIN
      have S0 := Lib.hid (T6.out.storeR 0 (by simp) (by intro c h; cases h) (.int .i64 0))
      have S1 := Lib.hid (S0.out.storeR 1 (by simp) (by intro c h; cases h) (.int .i64 (m : Int)))
      have S2 := Lib.hid (S1.out.storeR 2 (by simp) (by intro c h; cases h) (.int .i64 (i : Int)))
      have S3 := Lib.hid (S2.out.storeR 3 (by simp) (by intro c h; cases h) (.int .i64 0))
      have S4 := Lib.hid (S3.out.storeR 4 (by simp) (by intro c h; cases h) (.int .i64 0))
      have S5 := Lib.hid (S4.out.storeR 5 (by simp) (by intro c h; cases h) (.int .i64 0))
      have S6 := Lib.hid (S5.out.storeR 6 (by simp) (by intro c h; cases h) (.slice none 0 0))
      go_wp2_with (go_at_call 121; refine HWH.out.mono ?_; rintro e w' ⟨rfl, rfl⟩)
      refine bodyPost_ret (v := .tuple #[.agg #[.int .i64 0, .int .i64 (m : Int), .int .i64 (i : Int), .int .i64 0, .int .i64 0, .int .i64 0, .slice none 0 0], .bool true]) ?_ ?_ ?_
      · exact results_two Tryz.results86 _ _ w.heap.size 124 #[.int .i64 0, .int .i64 (m : Int), .int .i64 (i : Int), .int .i64 0, .int .i64 0, .int .i64 0, .slice none 0 0] (0, 0) _ rfl S6.out.res Tryz.underlying124 rfl (by kernel_rfl)
      · rfl
      · exact decIs_yes HFIN.out none 0 rfl (Rd.nil _) (fun _ => rfl) (S6.out.below HG.out)
  · have T2 := Lib.hid (T1.out #[.int .i64 1, .int .i64 0, .int .i64 0, .int .i64 0, .int .i64 0, .int .i64 0, .slice none 0 0])
    go_wp2_with fail
    generalize w2.alloc (.cells #[.int .i64 1, .int .i64 0, .int .i64 0, .int .i64 0, .int .i64 0, .int .i64 0, .slice none 0 0] 124) = wc at *
    refine (readEntry_any g q1 wc T2.out.rd).mono ?_
    have HFIN2 := Lib.hid (show (if wholeB (finE q1).2.1 (finE q1).2.2 then some (finE q1).1 else none) = dec b from HFIN.out)
    clear HFIN
    unfold finE at HFIN2
    unfold EntIs
    generalize stE q1 = a2 at *
    obtain ⟨⟨ei, et, ek, d⟩, q2⟩ := a2
    rintro e w3 ⟨A2, cap2, rfl, hrd, hA2, hc, hr⟩
    obtain ⟨dl, hdl⟩ : ∃ dl, d.length = dl := ⟨_, rfl⟩
    have HN := Lib.hid hdl
    unfold entV
    simp only at hrd ⊢
    rw [hdl] at hrd ⊢
    have T3 := Lib.hid (T2.out.call hc hr)
    have HSL := Lib.hid (show Rd w3 A2 dl d ∧ (A2 = none → cap2 = 0) from ⟨hrd, hA2⟩)
    clear hc hr hrd hA2 hdl
    have c0 := T3.out.own.cell 3 _ rfl
    have f0 := T3.out.own.free 3
    have c1 := T3.out.own.cell 4 _ rfl
    have f1 := T3.out.own.free 4
    have c2 := T3.out.own.cell 5 _ rfl
    have f2 := T3.out.own.free 5
    have c3 := T3.out.own.cell 6 _ rfl
    have f3 := T3.out.own.free 6
    have T4 := Lib.hid (T3.out.store 3 (by simp) (by intro c h; cases h) (.int .i64 (ei : Int)))
    have P0 := Lib.hid (show Rd _ A2 dl d ∧ (A2 = none → cap2 = 0) from ⟨Rd.far HSL.out.1 T3.out.own 3 (by intro c h; cases h) (.int .i64 (ei : Int)), HSL.out.2⟩)
    have T5 := Lib.hid (T4.out.store 4 (by simp) (by intro c h; cases h) (.int .i64 (et : Int)))
    have P1 := Lib.hid (show Rd _ A2 dl d ∧ (A2 = none → cap2 = 0) from ⟨Rd.far P0.out.1 T4.out.own 4 (by intro c h; cases h) (.int .i64 (et : Int)), P0.out.2⟩)
    have T6 := Lib.hid (T5.out.store 5 (by simp) (by intro c h; cases h) (.int .i64 (ek : Int)))
    have P2 := Lib.hid (show Rd _ A2 dl d ∧ (A2 = none → cap2 = 0) from ⟨Rd.far P1.out.1 T5.out.own 5 (by intro c h; cases h) (.int .i64 (ek : Int)), P1.out.2⟩)
    have T7 := Lib.hid (T6.out.store 6 (by simp) (by intro c h; cases h) (.slice A2 dl cap2))
    have P3 := Lib.hid (show Rd _ A2 dl d ∧ (A2 = none → cap2 = 0) from ⟨Rd.far P2.out.1 T6.out.own 6 (by intro c h; cases h) (.slice A2 dl cap2), P2.out.2⟩)
    obtain ⟨w6, hz⟩ : ∃ w6, (((w3.setCell ⟨w2.heap.size, 3, none⟩ (.int .i64 (ei : Int))).setCell ⟨w2.heap.size, 4, none⟩ (.int .i64 (et : Int))).setCell ⟨w2.heap.size, 5, none⟩ (.int .i64 (ek : Int))).setCell ⟨w2.heap.size, 6, none⟩ (.slice A2 dl cap2) = w6 := ⟨_, rfl⟩
    rw [hz] at T7 P3
    have HFIN := Lib.hid HFIN2.out
    simp only at HFIN
    clear HFIN2
    have HWH := Lib.hid (whole_any g q2.1 q2.2 w6 T7.out.rd)
    have r0 := T7.out.res.cell 0 _ rfl
    have z0 := T7.out.res.free 0
    have d0 := T7.out.own.cell 0 _ rfl
    have r1 := T7.out.res.cell 1 _ rfl
    have z1 := T7.out.res.free 1
    have d1 := T7.out.own.cell 1 _ rfl
    have r2 := T7.out.res.cell 2 _ rfl
    have z2 := T7.out.res.free 2
    have d2 := T7.out.own.cell 2 _ rfl
    have r3 := T7.out.res.cell 3 _ rfl
    have z3 := T7.out.res.free 3
    have d3 := T7.out.own.cell 3 _ rfl
    have r4 := T7.out.res.cell 4 _ rfl
    have z4 := T7.out.res.free 4
    have d4 := T7.out.own.cell 4 _ rfl
    have r5 := T7.out.res.cell 5 _ rfl
    have z5 := T7.out.res.free 5
    have d5 := T7.out.own.cell 5 _ rfl
    have r6 := T7.out.res.cell 6 _ rfl
    have z6 := T7.out.res.free 6
    have d6 := T7.out.own.cell 6 _ rfl
    cases hwb : wholeB q2.1 q2.2
    · rw [hwb] at HWH HFIN
      have S0 := Lib.hid (T7.out.storeR 0 (by simp) (by intro c h; cases h) (.int .i64 0))
      have S1 := Lib.hid (S0.out.storeR 1 (by simp) (by intro c h; cases h) (.int .i64 0))
      have S2 := Lib.hid (S1.out.storeR 2 (by simp) (by intro c h; cases h) (.int .i64 0))
      have S3 := Lib.hid (S2.out.storeR 3 (by simp) (by intro c h; cases h) (.int .i64 0))
      have S4 := Lib.hid (S3.out.storeR 4 (by simp) (by intro c h; cases h) (.int .i64 0))
      have S5 := Lib.hid (S4.out.storeR 5 (by simp) (by intro c h; cases h) (.int .i64 0))
      have S6 := Lib.hid (S5.out.storeR 6 (by simp) (by intro c h; cases h) (.slice none 0 0))
      go_wp2_with (go_at_call 121; refine HWH.out.mono ?_; rintro e w' ⟨rfl, rfl⟩)
      refine bodyPost_ret (v := .tuple #[.agg #[.int .i64 0, .int .i64 0, .int .i64 0, .int .i64 0, .int .i64 0, .int .i64 0, .slice none 0 0], .bool false]) ?_ ?_ ?_
      · exact results_two Tryz.results86 _ _ w.heap.size 124 #[.int .i64 0, .int .i64 0, .int .i64 0, .int .i64 0, .int .i64 0, .int .i64 0, .slice none 0 0] (0, 0) _ rfl S6.out.res Tryz.underlying124 rfl (by kernel_rfl)
      · rfl
      · exact decIs_no HFIN.out (S6.out.below HG.out)
    · rw [hwb] at HWH HFIN
      have S0 := Lib.hid (T7.out.storeR 0 (by simp) (by intro c h; cases h) (.int .i64 1))
      have Q0 := Lib.hid (and_far P3.out T7.out.res 0 (by intro c h; cases h) (.int .i64 1))
      have S1 := Lib.hid (S0.out.storeR 1 (by simp) (by intro c h; cases h) (.int .i64 0))
      have Q1 := Lib.hid (and_far Q0.out S0.out.res 1 (by intro c h; cases h) (.int .i64 0))
      have S2 := Lib.hid (S1.out.storeR 2 (by simp) (by intro c h; cases h) (.int .i64 0))
      have Q2 := Lib.hid (and_far Q1.out S1.out.res 2 (by intro c h; cases h) (.int .i64 0))
      have S3 := Lib.hid (S2.out.storeR 3 (by simp) (by intro c h; cases h) (.int .i64 (ei : Int)))
      have Q3 := Lib.hid (and_far Q2.out S2.out.res 3 (by intro c h; cases h) (.int .i64 (ei : Int)))
      have S4 := Lib.hid (S3.out.storeR 4 (by simp) (by intro c h; cases h) (.int .i64 (et : Int)))
      have Q4 := Lib.hid (and_far Q3.out S3.out.res 4 (by intro c h; cases h) (.int .i64 (et : Int)))
      have S5 := Lib.hid (S4.out.storeR 5 (by simp) (by intro c h; cases h) (.int .i64 (ek : Int)))
      have Q5 := Lib.hid (and_far Q4.out S4.out.res 5 (by intro c h; cases h) (.int .i64 (ek : Int)))
      have S6 := Lib.hid (S5.out.storeR 6 (by simp) (by intro c h; cases h) (.slice A2 dl cap2))
      have Q6 := Lib.hid (and_far Q5.out S5.out.res 6 (by intro c h; cases h) (.slice A2 dl cap2))
      go_wp2_with (go_at_call 121; refine HWH.out.mono ?_; rintro e w' ⟨rfl, rfl⟩)
      refine bodyPost_ret (v := .tuple #[.agg #[.int .i64 1, .int .i64 0, .int .i64 0, .int .i64 (ei : Int), .int .i64 (et : Int), .int .i64 (ek : Int), .slice A2 dl cap2], .bool true]) ?_ ?_ ?_
      · exact results_two Tryz.results86 _ _ w.heap.size 124 #[.int .i64 1, .int .i64 0, .int .i64 0, .int .i64 (ei : Int), .int .i64 (et : Int), .int .i64 (ek : Int), .slice A2 dl cap2] (0, 0) _ rfl S6.out.res Tryz.underlying124 rfl (by kernel_rfl)
      · rfl
      · exact decIs_yes HFIN.out A2 cap2 (by unfold chV; simp only; rw [HN.out]) (by show Rd _ _ d.length d; rw [HN.out]; exact Q6.out.1) Q6.out.2 (S6.out.below HG.out)
  · have T2 := Lib.hid (T1.out #[.int .i64 2, .int .i64 0, .int .i64 0, .int .i64 0, .int .i64 0, .int .i64 0, .slice none 0 0])
    go_wp2_with fail
    generalize w2.alloc (.cells #[.int .i64 2, .int .i64 0, .int .i64 0, .int .i64 0, .int .i64 0, .int .i64 0, .slice none 0 0] 124) = wc at *
    refine (readInt_any g q1 wc 1 (MI + 1) (by decide) T2.out.rd).mono ?_
    have HFIN2 := Lib.hid (show (if wholeB (finI 2 q1).2.1 (finI 2 q1).2.2 then some (finI 2 q1).1 else none) = dec b from HFIN.out)
    clear HFIN
    unfold finI at HFIN2
    generalize stI q1 1 (MI + 1) = a2 at *
    obtain ⟨i, q2⟩ := a2
    rintro e w5 ⟨rfl, hc, hr⟩
    have T5 := Lib.hid (T2.out.call hc hr)
    clear hc hr
    have c0 := T5.out.own.cell 2 _ rfl
    have f0 := T5.out.own.free 2
    have T6 := Lib.hid (T5.out.store 2 (by simp) (by intro c h; cases h) (.int .i64 (i : Int)))
    obtain ⟨w6, hz⟩ : ∃ w6, w5.setCell ⟨w2.heap.size, 2, none⟩ (.int .i64 (i : Int)) = w6 := ⟨_, rfl⟩
    rw [hz] at T6
    have HFIN := Lib.hid (show (if wholeB q2.1 q2.2 then some (Ch.cut i) else none) = dec b from HFIN2.out)
    clear HFIN2
    have HWH := Lib.hid (whole_any g q2.1 q2.2 w6 T6.out.rd)
    have r0 := T6.out.res.cell 0 _ rfl
    have z0 := T6.out.res.free 0
    have d0 := T6.out.own.cell 0 _ rfl
    have r1 := T6.out.res.cell 1 _ rfl
    have z1 := T6.out.res.free 1
    have d1 := T6.out.own.cell 1 _ rfl
    have r2 := T6.out.res.cell 2 _ rfl
    have z2 := T6.out.res.free 2
    have d2 := T6.out.own.cell 2 _ rfl
    have r3 := T6.out.res.cell 3 _ rfl
    have z3 := T6.out.res.free 3
    have d3 := T6.out.own.cell 3 _ rfl
    have r4 := T6.out.res.cell 4 _ rfl
    have z4 := T6.out.res.free 4
    have d4 := T6.out.own.cell 4 _ rfl
    have r5 := T6.out.res.cell 5 _ rfl
    have z5 := T6.out.res.free 5
    have d5 := T6.out.own.cell 5 _ rfl
    have r6 := T6.out.res.cell 6 _ rfl
    have z6 := T6.out.res.free 6
    have d6 := T6.out.own.cell 6 _ rfl
    cases hwb : wholeB q2.1 q2.2
    · rw [hwb] at HWH HFIN
      have S0 := Lib.hid (T6.out.storeR 0 (by simp) (by intro c h; cases h) (.int .i64 0))
      have S1 := Lib.hid (S0.out.storeR 1 (by simp) (by intro c h; cases h) (.int .i64 0))
      have S2 := Lib.hid (S1.out.storeR 2 (by simp) (by intro c h; cases h) (.int .i64 0))
      have S3 := Lib.hid (S2.out.storeR 3 (by simp) (by intro c h; cases h) (.int .i64 0))
      have S4 := Lib.hid (S3.out.storeR 4 (by simp) (by intro c h; cases h) (.int .i64 0))
      have S5 := Lib.hid (S4.out.storeR 5 (by simp) (by intro c h; cases h) (.int .i64 0))
      have S6 := Lib.hid (S5.out.storeR 6 (by simp) (by intro c h; cases h) (.slice none 0 0))
      go_wp2_with (go_at_call 121; refine HWH.out.mono ?_; rintro e w' ⟨rfl, rfl⟩)
      refine bodyPost_ret (v := .tuple #[.agg #[.int .i64 0, .int .i64 0, .int .i64 0, .int .i64 0, .int .i64 0, .int .i64 0, .slice none 0 0], .bool false]) ?_ ?_ ?_
      · exact results_two Tryz.results86 _ _ w.heap.size 124 #[.int .i64 0, .int .i64 0, .int .i64 0, .int .i64 0, .int .i64 0, .int .i64 0, .slice none 0 0] (0, 0) _ rfl S6.out.res Tryz.underlying124 rfl (by kernel_rfl)
      · rfl
      · exact decIs_no HFIN.out (S6.out.below HG.out)
    · rw [hwb] at HWH HFIN
      have S0 := Lib.hid (T6.out.storeR 0 (by simp) (by intro c h; cases h) (.int .i64 2))
      have S1 := Lib.hid (S0.out.storeR 1 (by simp) (by intro c h; cases h) (.int .i64 0))
      have S2 := Lib.hid (S1.out.storeR 2 (by simp) (by intro c h; cases h) (.int .i64 (i : Int)))
      have S3 := Lib.hid (S2.out.storeR 3 (by simp) (by intro c h; cases h) (.int .i64 0))
      have S4 := Lib.hid (S3.out.storeR 4 (by simp) (by intro c h; cases h) (.int .i64 0))
      have S5 := Lib.hid (S4.out.storeR 5 (by simp) (by intro c h; cases h) (.int .i64 0))
      have S6 := Lib.hid (S5.out.storeR 6 (by simp) (by intro c h; cases h) (.slice none 0 0))
      go_wp2_with (go_at_call 121; refine HWH.out.mono ?_; rintro e w' ⟨rfl, rfl⟩)
      refine bodyPost_ret (v := .tuple #[.agg #[.int .i64 2, .int .i64 0, .int .i64 (i : Int), .int .i64 0, .int .i64 0, .int .i64 0, .slice none 0 0], .bool true]) ?_ ?_ ?_
      · exact results_two Tryz.results86 _ _ w.heap.size 124 #[.int .i64 2, .int .i64 0, .int .i64 (i : Int), .int .i64 0, .int .i64 0, .int .i64 0, .slice none 0 0] (0, 0) _ rfl S6.out.res Tryz.underlying124 rfl (by kernel_rfl)
      · rfl
      · exact decIs_yes HFIN.out none 0 rfl (Rd.nil _) (fun _ => rfl) (S6.out.below HG.out)
  · have T2 := Lib.hid (T1.out #[.int .i64 3, .int .i64 0, .int .i64 0, .int .i64 0, .int .i64 0, .int .i64 0, .slice none 0 0])
    go_wp2_with fail
    generalize w2.alloc (.cells #[.int .i64 3, .int .i64 0, .int .i64 0, .int .i64 0, .int .i64 0, .int .i64 0, .slice none 0 0] 124) = wc at *
    refine (readInt_any g q1 wc 1 (MI + 1) (by decide) T2.out.rd).mono ?_
    have HFIN2 := Lib.hid (show (if wholeB (finI 3 q1).2.1 (finI 3 q1).2.2 then some (finI 3 q1).1 else none) = dec b from HFIN.out)
    clear HFIN
    unfold finI at HFIN2
    generalize stI q1 1 (MI + 1) = a2 at *
    obtain ⟨i, q2⟩ := a2
    rintro e w5 ⟨rfl, hc, hr⟩
    have T5 := Lib.hid (T2.out.call hc hr)
    clear hc hr
    have c0 := T5.out.own.cell 2 _ rfl
    have f0 := T5.out.own.free 2
    have T6 := Lib.hid (T5.out.store 2 (by simp) (by intro c h; cases h) (.int .i64 (i : Int)))
    obtain ⟨w6, hz⟩ : ∃ w6, w5.setCell ⟨w2.heap.size, 2, none⟩ (.int .i64 (i : Int)) = w6 := ⟨_, rfl⟩
    rw [hz] at T6
    have HFIN := Lib.hid (show (if wholeB q2.1 q2.2 then some (Ch.reset i) else none) = dec b from HFIN2.out)
    clear HFIN2
    have HWH := Lib.hid (whole_any g q2.1 q2.2 w6 T6.out.rd)
    have r0 := T6.out.res.cell 0 _ rfl
    have z0 := T6.out.res.free 0
    have d0 := T6.out.own.cell 0 _ rfl
    have r1 := T6.out.res.cell 1 _ rfl
    have z1 := T6.out.res.free 1
    have d1 := T6.out.own.cell 1 _ rfl
    have r2 := T6.out.res.cell 2 _ rfl
    have z2 := T6.out.res.free 2
    have d2 := T6.out.own.cell 2 _ rfl
    have r3 := T6.out.res.cell 3 _ rfl
    have z3 := T6.out.res.free 3
    have d3 := T6.out.own.cell 3 _ rfl
    have r4 := T6.out.res.cell 4 _ rfl
    have z4 := T6.out.res.free 4
    have d4 := T6.out.own.cell 4 _ rfl
    have r5 := T6.out.res.cell 5 _ rfl
    have z5 := T6.out.res.free 5
    have d5 := T6.out.own.cell 5 _ rfl
    have r6 := T6.out.res.cell 6 _ rfl
    have z6 := T6.out.res.free 6
    have d6 := T6.out.own.cell 6 _ rfl
    cases hwb : wholeB q2.1 q2.2
    · rw [hwb] at HWH HFIN
      have S0 := Lib.hid (T6.out.storeR 0 (by simp) (by intro c h; cases h) (.int .i64 0))
      have S1 := Lib.hid (S0.out.storeR 1 (by simp) (by intro c h; cases h) (.int .i64 0))
      have S2 := Lib.hid (S1.out.storeR 2 (by simp) (by intro c h; cases h) (.int .i64 0))
      have S3 := Lib.hid (S2.out.storeR 3 (by simp) (by intro c h; cases h) (.int .i64 0))
      have S4 := Lib.hid (S3.out.storeR 4 (by simp) (by intro c h; cases h) (.int .i64 0))
      have S5 := Lib.hid (S4.out.storeR 5 (by simp) (by intro c h; cases h) (.int .i64 0))
      have S6 := Lib.hid (S5.out.storeR 6 (by simp) (by intro c h; cases h) (.slice none 0 0))
      go_wp2_with (go_at_call 121; refine HWH.out.mono ?_; rintro e w' ⟨rfl, rfl⟩)
      refine bodyPost_ret (v := .tuple #[.agg #[.int .i64 0, .int .i64 0, .int .i64 0, .int .i64 0, .int .i64 0, .int .i64 0, .slice none 0 0], .bool false]) ?_ ?_ ?_
      · exact results_two Tryz.results86 _ _ w.heap.size 124 #[.int .i64 0, .int .i64 0, .int .i64 0, .int .i64 0, .int .i64 0, .int .i64 0, .slice none 0 0] (0, 0) _ rfl S6.out.res Tryz.underlying124 rfl (by kernel_rfl)
      · rfl
      · exact decIs_no HFIN.out (S6.out.below HG.out)
    · rw [hwb] at HWH HFIN
      have S0 := Lib.hid (T6.out.storeR 0 (by simp) (by intro c h; cases h) (.int .i64 3))
      have S1 := Lib.hid (S0.out.storeR 1 (by simp) (by intro c h; cases h) (.int .i64 0))
      have S2 := Lib.hid (S1.out.storeR 2 (by simp) (by intro c h; cases h) (.int .i64 (i : Int)))
      have S3 := Lib.hid (S2.out.storeR 3 (by simp) (by intro c h; cases h) (.int .i64 0))
      have S4 := Lib.hid (S3.out.storeR 4 (by simp) (by intro c h; cases h) (.int .i64 0))
      have S5 := Lib.hid (S4.out.storeR 5 (by simp) (by intro c h; cases h) (.int .i64 0))
      have S6 := Lib.hid (S5.out.storeR 6 (by simp) (by intro c h; cases h) (.slice none 0 0))
      go_wp2_with (go_at_call 121; refine HWH.out.mono ?_; rintro e w' ⟨rfl, rfl⟩)
      refine bodyPost_ret (v := .tuple #[.agg #[.int .i64 3, .int .i64 0, .int .i64 (i : Int), .int .i64 0, .int .i64 0, .int .i64 0, .slice none 0 0], .bool true]) ?_ ?_ ?_
      · exact results_two Tryz.results86 _ _ w.heap.size 124 #[.int .i64 3, .int .i64 0, .int .i64 (i : Int), .int .i64 0, .int .i64 0, .int .i64 0, .slice none 0 0] (0, 0) _ rfl S6.out.res Tryz.underlying124 rfl (by kernel_rfl)
      · rfl
      · exact decIs_yes HFIN.out none 0 rfl (Rd.nil _) (fun _ => rfl) (S6.out.below HG.out)
end Go.Proofs.YtgmpdifggaggdaaGreatDoor.Wl
