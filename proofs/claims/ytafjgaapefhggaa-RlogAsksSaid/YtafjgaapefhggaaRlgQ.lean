/-
  Layer 8: the document's own Get. Conditions: the log lies in memory as it was made.
-/
import Derived.Test.YtafjgaapefhggaaRlgL
namespace Go.Proofs.Ytafjgaapefhggaa.Rg
open Go.RowKit Go.Proofs.Ytafjgaapefhggaa.Fld
set_option linter.unusedVariables false

/-- entries that were told by the document's log -/
def GetR (W0 w : World) (l : List En) (e : Ending) (w' : World) : Prop := ∃ v ys, e = .returned v ∧ ens ys = l ∧ w'.ownsRow w.heap.size 46 4 v ys.length (rowE ys) ∧ Dat W0 ys ∧ Below w.heap.size w w'
theorem take_one {xs : List EA} (k j : Nat) (h : k + j < xs.length) : (xs.drop k).take (j + 1) = (xs.drop k).take j ++ [xs.getD (k + j) ea0] := by
  rw [List.take_add_one, List.getElem?_drop, List.getElem?_eq_getElem h, List.getD_eq_getElem?_getD, List.getElem?_eq_getElem h]; rfl
theorem rdE_box (w : World) (x : EA) (hd : Dat w [x]) : RdE (w.alloc (.cells #[.int .i64 x.e.idx, .int .i64 x.e.term, .int .i64 x.e.kind, .slice x.A x.e.data.length x.cap] 46)) (some ⟨w.heap.size, 0, none⟩) 1 [x] := by
  refine ⟨rfl, by unfold maxLen; omega, fun _ => ⟨w.heap.size, 0, rfl, fun j v hj => ?_⟩, hd.below (alloc_below' w _)⟩
  rw [World.cell?_alloc_mark, Nat.zero_add]
  simpa [rowE, EA.cells] using hj
theorem get_end {s : St} {n : Nat} {xs : List EA} (hes : ens xs = s.es) (hn : xs.length = n) (f m : Int) (j : Nat) (hf0 : f ≤ s.base → j = 0) (hj1 : (j : Int) ≤ m ∨ j = 0) (hj2 : f + j ≤ s.last + 1 ∨ j = 0) (hend : f ≤ s.base ∨ s.last < f + j ∨ m ≤ j) : ens ((xs.drop (f - s.base - 1).toNat).take j) = getE s f m := by
  have hl : s.es.length = n := by rw [← hes, ens_len, hn]
  unfold getE
  rw [ens_take, ens_drop, hes]
  split
  · next hc =>
    have : j = 0 := by
      rcases hc with h | h | h
      · exact hf0 (by omega)
      · omega
      · omega
    rw [this, List.take_zero]
  · next hc =>
    apply List.ext_getElem?
    intro i
    rw [List.getElem?_take, List.getElem?_take]
    by_cases hi : i < j
    · rw [if_pos hi, if_pos (by omega)]
    · rw [if_neg hi]
      split
      · next hi2 =>
        rw [List.getElem?_eq_none]
        rw [List.length_drop, hl]
        unfold St.last at *
        omega
      · rfl
set_option maxRecDepth 100000 in
set_option maxHeartbeats 3200000 in
theorem Lr.get_any {W0 w : World} {g : Nat} {s : St} {A : Option Addr} {n cap : Nat} {xs : List EA} (h : Lr w g s A n cap xs) (hd : Dat W0 xs) (hb0 : Below W0.heap.size W0 w) (hn : n ≤ 1000000) (f m : Int) (hf : -9223372036854775808 ≤ f) :
    Calls Try.prog 18 #[.pointer (some ⟨g, 0, none⟩), .int .i64 f, .int .i64 m] w (GetR W0 w (getE s f m)) := by
  have HL := Lib.hid h
  have HD := Lib.hid hd
  have HB0 := Lib.hid hb0
  have hsl : s.last = s.base + n := by unfold St.last; rw [h.n]
  have HSL := Lib.hid hsl
  have h0 := h.b0
  have h1 := h.b1
  have HEN := Lib.hid (fun j a b c d => get_end h.es h.rd.len f m j a b c d)
  have HLX := Lib.hid h.rd.len
  clear h hd hb0 hsl
  go_enter Try.func18, Try.ntmps18
  go_wp2
  go_loopw [7, 8] (fun ov iv wr => ∃ j : Nat, iv = .int .i64 (f + j) ∧ wr.ownsRow w.heap.size 46 4 ov j (rowE ((xs.drop (f - s.base - 1).toNat).take j)) ∧ (f ≤ s.base → j = 0) ∧ ((j : Int) ≤ m ∨ j = 0) ∧ (f + j ≤ s.last + 1 ∨ j = 0) ∧ Below w.heap.size w wr) (fun _ iv _ => (s.last + 1 - intOf iv).toNat)
  case atStart => exact ⟨0, by simp, row_nil _ _ _ _, fun _ => rfl, .inr rfl, .inr rfl, Below.refl _ _⟩
  case round =>
    obtain ⟨j, rfl, hrow, hj0, hj1, hj2, hbel⟩ := hrel
    obtain ⟨OA, oc, rfl, _⟩ := row_slice hrow
    have HROW := Lib.hid hrow
    have HJ0 := Lib.hid hj0
    have HJ1 := Lib.hid hj1
    have HJ2 := Lib.hid hj2
    have HBEL := Lib.hid hbel
    have HLr := Lib.hid (HL.out.below hbel)
    clear hrow hj0 hj1 hj2 hbel
    obtain ⟨c0, c1, c2, c3, c4⟩ := HLr.out.lb.cells
    have HEND := Lib.hid (show (f ≤ s.base ∨ s.last < f + j ∨ m ≤ j) → ∀ W, Below wr.heap.size wr W → GetR W0 w (getE s f m) (.returned (.slice OA j oc)) W from fun hc W hW => ⟨_, _, rfl, HEN.out j HJ0.out HJ1.out HJ2.out hc, (by
      have hl : ((xs.drop (f - s.base - 1).toNat).take j).length = j := by have := HROW.out.1; rw [rowE_len] at this; omega
      rw [hl]
      exact row_of HROW.out (fun i hi => hW.block i (row_lo HROW.out i hi).2)), (HD.out.drop _).take _, HBEL.out.trans (hW.mono HBEL.out.size)⟩)
    by_cases h2 : f ≤ s.base
    · have HQ := Lib.hid (HEND.out (.inl h2))
      have k1 : ¬ s.base < f := by omega
      go_wp2
      go_ret
      exact HQ.out _ (Below.refl _ _)
    have k1 : s.base < f := by omega
    by_cases h3 : s.last < f + j
    · have HQ := Lib.hid (HEND.out (.inr (.inl h3)))
      go_wp2_with fail
      refine HLr.out.last_dr.mono ?_
      rintro e w2 ⟨rfl, z, rfl⟩
      go_wp2
      go_ret
      exact HQ.out _ (below_still (still_drewN _ _) (Nat.le_refl _))
    by_cases h4 : m ≤ j
    · have HQ := Lib.hid (HEND.out (.inr (.inr h4)))
      go_wp2_with fail
      refine HLr.out.last_dr.mono ?_
      rintro e w2 ⟨rfl, z, rfl⟩
      go_wp2
      go_ret
      exact HQ.out _ (below_still (still_drewN _ _) (Nat.le_refl _))
    obtain ⟨k, hk⟩ : ∃ k : Nat, (f - s.base - 1).toNat = k := ⟨_, rfl⟩
    rw [hk] at HROW
    have HK := Lib.hid hk
    have hkn : k + j < n := by have := HSL.out; omega
    obtain ⟨b, off, rfl, q0, q1, q2, q3⟩ := HLr.out.rd.elem (k + j) hkn
    have HBLT := Lib.hid (show b < w.heap.size by
      obtain ⟨b', off', he, z0, _⟩ := HL.out.rd.elem (k + j) hkn
      cases he
      exact lt_of_cell z0)
    have HX := Lib.hid (take_one (xs := xs) k j (by have := HLX.out; omega))
    have HDX := Lib.hid (show Dat W0 [xs.getD (k + j) ea0] from fun x hx => by
      simp only [List.mem_singleton] at hx
      subst hx
      exact HD.out _ (HLr.out.rd.mem (k + j) hkn))
    have ew : IntKind.i64.wrap (IntKind.i64.wrap (f + (j : Int) - 1) - s.base) = (k : Int) + (j : Int) := by
      have := HSL.out
      rw [wrap_in (f + (j : Int) - 1) (by omega) (by omega), wrap_in _ (by omega) (by omega)]
      omega
    have EW := Lib.hid ew
    have hbd : f + (j : Int) ≤ 1099511627776 := by have := HSL.out; omega
    have et : ((k : Int) + (j : Int)).toNat = k + j := by omega
    have g0 : (0 : Int) ≤ (k : Int) + (j : Int) := by omega
    have g1 : (k : Int) + (j : Int) < (n : Int) := by omega
    clear hk ew
    generalize xs.getD (k + j) ea0 = x at *
    go_wp2_with fail
    refine HLr.out.last_dr.mono ?_
    rintro e w2 ⟨rfl, hw2⟩
    have HS2 := Lib.hid (show Still wr w2 by obtain ⟨z, rfl⟩ := hw2; exact still_drewN _ _)
    clear hw2
    have p0 := (HS2.out.cell _).trans q0
    have p1 := (HS2.out.cell _).trans q1
    have p2 := (HS2.out.cell _).trans q2
    have p3 := (HS2.out.cell _).trans q3
    have d0 := (HS2.out.cell _).trans c0
    have d2 := (HS2.out.cell _).trans c2
    clear q0 q1 q2 q3 c0 c1 c2 c3 c4
    have HB2 := Lib.hid (HBEL.out.trans (below_still HS2.out HBEL.out.size))
    have HR2 := Lib.hid (row_of HROW.out (w' := w2) (fun i hi => by rw [HS2.out.1]))
    go_wp2_with fail
    have ew := EW.out
    have HAL := Lib.hid (show ∀ ob, (w2.alloc ob).cell? ⟨g, 2, none⟩ = some (.slice (some ⟨b, off, none⟩) n cap) ∧ (w2.alloc ob).cell? ⟨g, 0, none⟩ = some (.int .i64 s.base) ∧ (w2.alloc ob).cell? ⟨b, off + (k + j) * 4, none⟩ = some (.int .i64 x.e.idx) ∧ (w2.alloc ob).cell? ⟨b, off + (k + j) * 4 + 1, none⟩ = some (.int .i64 x.e.term) ∧ (w2.alloc ob).cell? ⟨b, off + (k + j) * 4 + 2, none⟩ = some (.int .i64 x.e.kind) ∧ (w2.alloc ob).cell? ⟨b, off + (k + j) * 4 + 3, none⟩ = some (.slice x.A x.e.data.length x.cap) from fun ob =>
      have hh := fun {p : Addr} {u : Value} (h : w2.cell? p = some u) => ((alloc_below' w2 ob).cell (lt_of_cell h)).trans h
      ⟨hh d2, hh d0, hh p0, hh p1, hh p2, hh p3⟩)
    have HOW := Lib.hid (show g < w.heap.size ∧ b < w.heap.size from ⟨Blk.lt HL.out.lb, HBLT.out⟩)
    have HKG := Lib.hid (show ∀ w8, (w2.alloc (.cells #[.int .i64 x.e.idx, .int .i64 x.e.term, .int .i64 x.e.kind, .slice x.A x.e.data.length x.cap] 46)).drew.grownBy w8 (Value.slice OA j oc).ownBlock → w8.cell? ⟨g, 2, none⟩ = some (.slice (some ⟨b, off, none⟩) n cap) ∧ w8.cell? ⟨g, 0, none⟩ = some (.int .i64 s.base) ∧ w8.cell? ⟨b, off + (k + j) * 4, none⟩ = some (.int .i64 x.e.idx) ∧ w8.cell? ⟨b, off + (k + j) * 4 + 1, none⟩ = some (.int .i64 x.e.term) ∧ w8.cell? ⟨b, off + (k + j) * 4 + 2, none⟩ = some (.int .i64 x.e.kind) ∧ w8.cell? ⟨b, off + (k + j) * 4 + 3, none⟩ = some (.slice x.A x.e.data.length x.cap) from fun w8 hg => by
      obtain ⟨t2, t0, s0, s1, s2, s3⟩ := HAL.out (.cells #[.int .i64 x.e.idx, .int .i64 x.e.term, .int .i64 x.e.kind, .slice x.A x.e.data.length x.cap] 46)
      have hh : ∀ {B o : Nat} {u : Value}, B < w.heap.size → (w2.alloc (.cells #[.int .i64 x.e.idx, .int .i64 x.e.term, .int .i64 x.e.kind, .slice x.A x.e.data.length x.cap] 46)).cell? ⟨B, o, none⟩ = some u → w8.cell? ⟨B, o, none⟩ = some u := fun {B o u} hB hc =>
        (World.cell?_of_block (w := (w2.alloc (.cells #[.int .i64 x.e.idx, .int .i64 x.e.term, .int .i64 x.e.kind, .slice x.A x.e.data.length x.cap] 46)).drew) (hg.block B (lt_of_cell hc) (fun he => by have := (row_lo HROW.out B he.symm).1; omega))).trans hc
      exact ⟨hh HOW.out.1 t2, hh HOW.out.1 t0, hh HOW.out.2 s0, hh HOW.out.2 s1, hh HOW.out.2 s2, hh HOW.out.2 s3⟩)
    have HBX := Lib.hid (alloc_below' w2 (.cells #[.int .i64 x.e.idx, .int .i64 x.e.term, .int .i64 x.e.kind, .slice x.A x.e.data.length x.cap] 46))
    have HSX := Lib.hid (rdE_box w2 x (HDX.out.below (HB0.out.trans (HB2.out.mono HB0.out.size))))
    have HRX := Lib.hid (show (w2.alloc (.cells #[.int .i64 x.e.idx, .int .i64 x.e.term, .int .i64 x.e.kind, .slice x.A x.e.data.length x.cap] 46)).drew.ownsRow w.heap.size 46 4 (.slice OA j oc) j (rowE ((xs.drop k).take j)) from row_of HR2.out (fun i hi => Below.heap_alloc _ _ _ (row_lo HR2.out i hi).2))
    have HSD := Lib.hid (show RdE (w2.alloc (.cells #[.int .i64 x.e.idx, .int .i64 x.e.term, .int .i64 x.e.kind, .slice x.A x.e.data.length x.cap] 46)).drew (some ⟨w2.heap.size, 0, none⟩) 1 [x] from HSX.out.still (Still.refl _).drew)
    have hj : j ≤ 1000000 := by omega
    have hlo2 : w.heap.size ≤ (w2.alloc (.cells #[.int .i64 x.e.idx, .int .i64 x.e.term, .int .i64 x.e.kind, .slice x.A x.e.data.length x.cap] 46)).drew.heap.size := by have := HB2.out.size; show w.heap.size ≤ (w2.alloc _).heap.size; simp; omega
    go_region_held3 (fun w' => w'.cell? ⟨g, 2, none⟩ = some (.slice (some ⟨b, off, none⟩) n cap) ∧ w'.cell? ⟨g, 0, none⟩ = some (.int .i64 s.base) ∧ w'.cell? ⟨b, off + (k + j) * 4, none⟩ = some (.int .i64 x.e.idx) ∧ w'.cell? ⟨b, off + (k + j) * 4 + 1, none⟩ = some (.int .i64 x.e.term) ∧ w'.cell? ⟨b, off + (k + j) * 4 + 2, none⟩ = some (.int .i64 x.e.kind) ∧ w'.cell? ⟨b, off + (k + j) * 4 + 3, none⟩ = some (.slice x.A x.e.data.length x.cap)) (first | exact ⟨by assumption, by assumption, by assumption, by assumption, by assumption, by assumption⟩ | exact HAL.out _ | exact HGR.out | go_keep) ((refine step_append_rowE rfl _ _ rfl w.heap.size (.slice OA j oc) j (rowE ((xs.drop k).take j)) rfl HRX.out (some ⟨w2.heap.size, 0, none⟩) 1 1 [x] rfl HSD.out (fun h => by cases h) (by omega) hlo2 ?_; intro v8 w8 hr8 hg8 ha8; have HR8 := Lib.hid hr8; have HG8 := Lib.hid hg8; have HGR := Lib.hid (HKG.out w8 hg8); clear hr8 hg8 ha8))
    clear ew et
    go_wp2
    go_roundw
    case rel =>
      refine ⟨j + 1, by go_num, ?_, (fun h => by omega), .inl (by omega), .inl (by have := HSL.out; omega), ?_⟩
      · rw [HK.out, HX.out, rowE_append]
        exact HR8.out
      · exact ((HB2.out.trans (HBX.out.mono HB2.out.size)).drew).grown HG8.out ((HB2.out.trans (HBX.out.mono HB2.out.size)).drew).size (fun i hi => (row_lo HROW.out i hi).1)
    case measure => simp [intOf]; have := HSL.out; omega
end Go.Proofs.Ytafjgaapefhggaa.Rg
