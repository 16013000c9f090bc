/-
  Several texts in one: Layer 6: what a scan of the disk needs: the files of its segments, and slices of records that stay while a content grows. Conditions: as each theorem states. Layer 6: scan in the program: the recoverable content of a disk that is on. Conditions: the disk lies in memory as it was made; the library's tables are as they were. Layer 6: scan in the program, whole: it answers the recoverable content of a disk that is on. Conditions: the disk lies in memory as it was made; the library's tables are as they were. Layer 6: load in the program: the recoverable content of the disk is the Wal's. Conditions: the Wal and its disk lie in memory (WmX), the disk is on. Layer 6: what the parts of an opening leave, as mathematics: the power, how many files and segments. No condition but those that each theorem states.
-/
import Derived.Test.YtgmpdifggaggdaaGreatDoorJWalCre
import Derived.Test.YtgmpdifggaggdaaGreatDoorJWalName
import Derived.Test.YtgmpdifggaggdaaGreatDoorJWalAccO
import Derived.Test.YtgmpdifggaggdaaGreatDoorRecSame
import Derived.Test.YtgmpdifggaggdaaGreatDoorJDiskSn
import Derived.BigQuiet
import Derived.WalkMore
import Derived.Test.YtgmpdifggaggdaaGreatDoorJWalRst
namespace Go.Proofs.YtgmpdifggaggdaaGreatDoor.Wl
open Go.RowKit Go.Proofs.YtgmpdifggaggdaaGreatDoor.Fld
set_option linter.unusedVariables false

/-- a segment's file -/
theorem seg_file {t : Dk.St} (hG : Dk.Good t) (ho : t.off = false) (k : Nat) (hk : k < (segsOf t.fs).length) : 1 ≤ ((segsOf t.fs)[k]).1 ∧ ((segsOf t.fs)[k]).1 ≤ 99999999 ∧ Dk.stRead (segN ((segsOf t.fs)[k]).1) t = (0, ((segsOf t.fs)[k]).2) := by
  have hmem := List.getElem_mem hk
  generalize (segsOf t.fs)[k] = p at *
  unfold segsOf at hmem
  rw [List.mem_filterMap] at hmem
  obtain ⟨f, hf, he⟩ := hmem
  split at he
  · rename_i hp
    cases he
    obtain ⟨h1, h2⟩ := numOf_pos hp
    refine ⟨hp, h2, ?_⟩
    simp only
    have hg := Dk.get_mem hG.up hf
    rw [← h1]
    unfold Dk.stRead Dk.fget
    rw [ho, hg, h1, okN_segN]
    rfl
  · cases he
def tot (l : List (Nat × List Int)) : Nat := (l.map fun p => p.2.length).sum
theorem tot_drop (l : List (Nat × List Int)) (k : Nat) (h : k < l.length) : tot (l.drop k) = (l[k]).2.length + tot (l.drop (k + 1)) := by
  unfold tot
  rw [List.drop_eq_getElem_cons h, List.map_cons, List.sum_cons]
theorem tot_le (fs : List Dk.Fil) : tot (segsOf fs) ≤ Dk.total fs := by
  unfold tot segsOf Dk.total
  induction fs with
  | nil => simp
  | cons f r ih =>
    rw [List.filterMap_cons]
    split
    · simp only [List.map_cons, List.sum_cons] at *
      omega
    · rename_i q hq
      split at hq
      · cases hq
        simp only [List.map_cons, List.sum_cons] at *
        omega
      · cases hq
/-- a slice of records whose blocks are none of S -/
def ApL (S : List Nat) (w : World) (B : Option Addr) (m : Nat) (ls : List (List Int)) : Prop := ls.length = m ∧ ∀ i, i < m → ∃ b off A n cap, B = some ⟨b, off, none⟩ ∧ w.cell? ⟨b, off + i, none⟩ = some (.slice A n cap) ∧ Rd w A n (ls.getD i []) ∧ (A = none → cap = 0) ∧ b ∉ S ∧ (0 < n → ∀ a, A = some a → a.block ∉ S)
theorem ApL.left {S S' : List Nat} {w w' : World} {B : Option Addr} {m : Nat} {ls : List (List Int)} (h : ApL S w B m ls) (hf : Dk.Fr S w w') (hs : ∀ j ∈ S', j ∈ S ∨ w.heap.size ≤ j) : ApL S' w' B m ls := by
  refine ⟨h.1, fun i hi => ?_⟩
  obtain ⟨b, off, A, n, cap, e, hc, hr, hA, hb, hn⟩ := h.2 i hi
  have hlt := lt_of_cell hc
  refine ⟨b, off, A, n, cap, e, hf.cell hc hb, ?_, hA, fun hm => ?_, fun h0 a ha hm => ?_⟩
  · obtain ⟨h1, h2, h3, h4⟩ := hr
    refine ⟨h1, h2, h3, fun h0 => ?_⟩
    obtain ⟨b2, off2, e2, hc2⟩ := h4 h0
    exact ⟨b2, off2, e2, fun j hj => hf.cell (hc2 j hj) (show b2 ∉ S from hn h0 _ e2)⟩
  · rcases hs b hm with h1 | h1
    · exact hb h1
    · simp only at hlt; omega
  · rcases hs _ hm with h1 | h1
    · exact hn h0 a ha h1
    · obtain ⟨b2, off2, e2, hc2⟩ := hr.2.2.2 h0
      rw [ha] at e2
      injection e2 with e2
      have := lt_of_cell (hc2 0 h0)
      rw [e2] at h1
      simp only at h1 this
      omega
/-- what Scan told lies in new memory -/
theorem apl_rows {w wr : World} {v : Value} {ts : List (List Int)} (h : Rc.Rows w wr v ts) {S : List Nat} (hS : ∀ i ∈ S, i < w.heap.size) : ∃ B cap, v = .slice B ts.length cap ∧ ApL S wr B ts.length ts := by
  obtain ⟨vs, ⟨h1, h2⟩, he⟩ := h
  rcases h2 with ⟨rfl, h0⟩ | ⟨g, cap, cur, rfl, hg, hh, hnc, hcm, hcs, hcu⟩
  · exact ⟨none, 0, by rw [h0], rfl, fun i hi => by omega⟩
  · refine ⟨_, cap, rfl, rfl, fun i hi => ?_⟩
    obtain ⟨A, n, c, e1, e2, e3, e4⟩ := he i hi
    refine ⟨g, 0, A, n, c, rfl, ?_, e2, e3, fun hm => ?_, fun h0 a ha hm => ?_⟩
    · rw [Nat.zero_add, cell_of_row wr g i cur _ (0, 0) hh, ← e1, ← hcu, List.getElem?_take, if_pos (by omega), Array.getElem?_toList]
    · have := hS g hm; omega
    · have h5 := (e4 a ha).1.2; have h6 := hS _ hm; omega
theorem rdI_left {S : List Nat} {w w' : World} {A : Option Addr} {n : Nat} {l : List Int} (h : Dk.RdI w A n l) (hf : Dk.Fr S w w') (hn : 0 < n → ∀ a, A = some a → a.block ∉ S) : Dk.RdI w' A n l := by
  obtain ⟨h1, h2, h3⟩ := h
  refine ⟨h1, h2, fun h0 => ?_⟩
  obtain ⟨b, off, e, hc⟩ := h3 h0
  exact ⟨b, off, e, fun i hi => hf.cell (hc i hi) (show b ∉ S from hn h0 _ e)⟩
theorem rdI_lt {w : World} {A : Option Addr} {n : Nat} {l : List Int} (h : Dk.RdI w A n l) (h0 : 0 < n) : ∀ a, A = some a → a.block < w.heap.size := by
  intro a ha
  obtain ⟨b, off, e, hc⟩ := h.2.2 h0
  rw [ha] at e
  injection e with e
  have := lt_of_cell (hc 0 h0)
  rw [e]
  exact this
/-- a content as it is answered -/
structure CtV (lo : Nat) (w : World) (ve vs : Value) (xs : List EA) (c : Ct) : Prop where
  es : c.lg.es = xs.map EA.e
  rE : w.ownsRow lo 49 4 ve xs.length (rowE xs)
  rS : w.ownsRow lo 69 3 vs c.segs.length (rowS c.segs)
  dat : ∀ x ∈ xs, DatAt lo w x
  ok : c.Ok
end Go.Proofs.YtgmpdifggaggdaaGreatDoor.Wl

namespace Go.Proofs.YtgmpdifggaggdaaGreatDoor.Wl
open Go.RowKit Go.Proofs.YtgmpdifggaggdaaGreatDoor.Fld
set_option linter.unusedVariables false

def ScanIs (w : World) (c : Ct) (e : Ending) (w' : World) : Prop := ∃ ve vs xs, e = .returned (.tuple #[.agg #[.int .i64 (c.lg.base : Int), ve, vs], .int .i64 0]) ∧ CtV w.heap.size w' ve vs xs c ∧ Below w.heap.size w w'
/-- between two segments -/
def ScO (w0 : World) (lo B : Nat) (T : TypeId) (l : List (Nat × List Int)) (RES : Ct) (NA : Option Addr) (n : Nat) (nums : List Int) (i : Value) (wr : World) : Prop :=
  ∃ (k : Nat) (c : Ct) (FT : List Nat) (N : Nat), k ≤ n ∧ i = .int .i64 (k : Int) ∧ ContS lo B 0 T FT wr c ∧ Below lo w0 wr ∧ scanS c (l.drop k) = RES ∧ Bd c N ∧ N + tot (l.drop k) ≤ 16777216 ∧ Dk.RdI wr NA n nums ∧ (0 < n → ∀ a, NA = some a → a.block ∉ FT)
/-- between two records -/
def ScI (w0 : World) (lo B : Nat) (T : TypeId) (num : Nat) (ts : List (List Int)) (Q : Ct × Bool) (NA : Option Addr) (n : Nat) (nums : List Int) (RB : Option Addr) (m M0 : Nat) (i : Value) (wr : World) : Prop :=
  ∃ (j : Nat) (c : Ct) (FT : List Nat) (M : Nat), j ≤ m ∧ i = .int .i64 (j : Int) ∧ ContS lo B 0 T FT wr c ∧ Below lo w0 wr ∧ scanR num (decide (j = 0)) c (ts.drop j) = Q ∧ Bd c M ∧ M + (Rc.recs (ts.drop j)).length ≤ M0 ∧ (0 < j → c.segs ≠ []) ∧ Dk.RdI wr NA n nums ∧ (0 < n → ∀ a, NA = some a → a.block ∉ FT) ∧ ApL FT wr RB m ts
theorem recs_drop (ts : List (List Int)) (j : Nat) (h : j < ts.length) : (Rc.recs (ts.drop j)).length = 8 + (ts.getD j []).length + (Rc.recs (ts.drop (j + 1))).length := by
  rw [List.drop_eq_getElem_cons h, Rc.recs, List.length_append, Rc.recd_len, List.getD_eq_getElem?_getD, List.getElem?_eq_getElem h]
  rfl
theorem drop_getD (ts : List (List Int)) (j : Nat) (h : j < ts.length) : ts.drop j = ts.getD j [] :: ts.drop (j + 1) := by
  rw [List.drop_eq_getElem_cons h, List.getD_eq_getElem?_getD, List.getElem?_eq_getElem h]
  rfl
def Z3 : Array Value := #[.int .i64 0, .slice none 0 0, .slice none 0 0]
set_option maxRecDepth 100000 in
theorem cont0 (w : World) : ContS (w.heap.size + 1) (w.heap.size + 1) 0 59 [w.heap.size + 1] ((w.alloc (.cells Z3 59)).alloc (.cells Z3 59)) ct0 := by
  refine ⟨Nat.le_refl _, Z3, .slice none 0 0, .slice none 0 0, [], ⟨?_, rfl, rfl, rfl, rfl, World.ownsRow_nil _ _ _ _, World.ownsRow_nil _ _ _ _, fun x hx => by simp at hx, ct0_ok, by decide, by decide, by decide⟩, rfl⟩
  have := Blk.new (w.alloc (.cells Z3 59)) Z3 59
  simpa using this
end Go.Proofs.YtgmpdifggaggdaaGreatDoor.Wl

namespace Go.Proofs.YtgmpdifggaggdaaGreatDoor.Wl
open Go.RowKit Go.Proofs.YtgmpdifggaggdaaGreatDoor.Fld
set_option linter.unusedVariables false

def ScanT (w : World) (c : Ct) (e : Ending) (w' : World) : Prop := ∃ ve vs xs, e = .returned (.tuple #[.agg #[.int .i64 (c.lg.base : Int), ve, vs], .int .i64 0]) ∧ CtV (w.heap.size + 1) w' ve vs xs c ∧ Below w.heap.size w w'
theorem blk3 {w : World} {R : Nat} {x y z : Value} {T : TypeId} (h : Blk w R #[x, y, z] T) (a b c : Value) : Blk (((w.setCell ⟨R, 0, none⟩ a).setCell ⟨R, 1, none⟩ b).setCell ⟨R, 2, none⟩ c) R #[a, b, c] T :=
  ((h.set 0 a (by simp)).set 1 b (by simp)).set 2 c (by simp)
theorem fin_ok {w w0 wr : World} {B : Nat} {T : TypeId} {cs : Array Value} {ve vs : Value} {xs : List EA} {c : Ct} (h : Cont (w.heap.size + 1) B 0 cs T wr ve vs xs c) (h0 : Below w.heap.size w w0) (hb : Below (w.heap.size + 1) w0 wr) (a b d : Value) :
    ScanT w c (.returned (.tuple #[.agg #[.int .i64 (c.lg.base : Int), ve, vs], .int .i64 0])) (((wr.setCell ⟨w.heap.size, 0, none⟩ a).setCell ⟨w.heap.size, 1, none⟩ b).setCell ⟨w.heap.size, 2, none⟩ d) := by
  have hk : ∀ i, w.heap.size + 1 ≤ i → (((wr.setCell ⟨w.heap.size, 0, none⟩ a).setCell ⟨w.heap.size, 1, none⟩ b).setCell ⟨w.heap.size, 2, none⟩ d).heap[i]? = wr.heap[i]? := by
    intro i hi
    rw [Below.heap_setCell _ _ _ _ (by simp only; omega), Below.heap_setCell _ _ _ _ (by simp only; omega), Below.heap_setCell _ _ _ _ (by simp only; omega)]
  refine ⟨ve, vs, xs, rfl, ⟨h.es, row_of h.rE (fun i hi => hk i (row_lo h.rE i hi).1), row_of h.rS (fun i hi => hk i (row_lo h.rS i hi).1), fun x hx => (h.dat x hx).of (fun i hi => hk i (row_lo (h.dat x hx).2 i hi).1), h.ok⟩, ?_⟩
  have hb' : Below w.heap.size w wr := h0.trans (hb.mono (by omega))
  exact ((hb'.setCell (p := ⟨w.heap.size, 0, none⟩) (Nat.le_refl _) a).setCell (p := ⟨w.heap.size, 1, none⟩) (Nat.le_refl _) b).setCell (p := ⟨w.heap.size, 2, none⟩) (Nat.le_refl _) d
set_option maxRecDepth 100000 in
set_option maxHeartbeats 6400000 in
theorem scan_any (g b : Nat) (m : List Dk.Ent) (t : Dk.St) (w : World) (h : Dk.Im w g b m t) (hB : Base w) (ho : t.off = false) (hm : t.fs.length ≤ 900000) :
    Calls Tryz.prog 37 #[.pointer (some ⟨g, 0, none⟩)] w (ScanT w (scanD t.fs)) := by
  have hb1 := alloc_below' w (.cells Z3 59)
  have hb2 := hb1.alloc hb1.size (.cells Z3 59)
  have HB0 := Lib.hid hb2
  have HI0 := Lib.hid (h.below hb2)
  have HBS0 := Lib.hid (hB.below hb2)
  have HLOW := Lib.hid (fun (wr : World) (hb : Below (w.heap.size + 1) ((w.alloc (.cells Z3 59)).alloc (.cells Z3 59)) wr) => And.intro ((h.below hb2).of_blocks fun i hi => hb.block i (by have := h.lt i hi; omega)) ((hB.below hb2).of_blocks (hb.block _ (by have := hB.lt.1; omega)) (hb.block _ (by have := hB.lt.2; omega))))
  have HC0 := Lib.hid (cont0 w)
  have HKR := Lib.hid ((Blk.new w Z3 59).past (.cells Z3 59))
  have HG := Lib.hid h.good
  have HSF := Lib.hid (fun k hk => seg_file h.good ho k hk)
  have HTOT := Lib.hid (show tot (segsOf t.fs) ≤ 16777216 from Nat.le_trans (tot_le t.fs) (Nat.le_trans h.good.3 h.good.2))
  have HSZ := Lib.hid (show ((w.alloc (.cells Z3 59)).alloc (.cells Z3 59)).heap.size = w.heap.size + 2 by simp)
  have HRES := Lib.hid (show scanS ct0 (segsOf t.fs) = scanD t.fs from rfl)
  have HNL := Lib.hid (show (numsN t.fs).length = (segsOf t.fs).length by simp [numsN])
  have HNK := Lib.hid (fun (k : Nat) (hk : k < (segsOf t.fs).length) => show (ints (numsN t.fs)).getD k 0 = (((segsOf t.fs)[k]).1 : Int) by rw [ints_at _ k (by simpa [numsN] using hk)]; simp [numsN, hk])
  have HNM := Lib.hid (show (numsN t.fs).length ≤ 900000 from Nat.le_trans (numsN_len _) hm)
  clear h hB hb1 hb2
  unfold Z3 at HB0 HI0 HBS0 HC0 HKR HSZ HLOW
  generalize scanD t.fs = RES at *
  go_enter Tryz.func37, Tryz.ntmps37
  go_wp2_with fail
  go_step3
  go_wp2_with fail
  go_step3
  go_wp2_with fail
  generalize (w.alloc (.cells #[.int .i64 0, .slice none 0 0, .slice none 0 0] 59)).alloc (.cells #[.int .i64 0, .slice none 0 0, .slice none 0 0] 59) = w0 at *
  refine (segnums_any g b m t w0 HI0.out HBS0.out hm).mono ?_
  rintro e w1 ⟨NA, nc, rfl, hnum, hnA, hnc, hfr, hb⟩
  obtain ⟨n, hn⟩ : ∃ n, (numsN t.fs).length = n := ⟨_, rfl⟩
  have HNN := Lib.hid hn
  rw [hn] at hnum HNL HNM ⊢
  have HS0 := Lib.hid (show ScO w0 (w.heap.size + 1) (w.heap.size + 1) 59 (segsOf t.fs) RES NA n (ints (numsN t.fs)) (.int .i64 0) w1 from ⟨0, ct0, _, 0, Nat.zero_le _, rfl, HC0.out.below hb, hb.mono (by rw [HSZ.out]; omega), by rw [List.drop_zero]; exact HRES.out, Bd.zero, by rw [List.drop_zero, Nat.zero_add]; exact HTOT.out, hnum, fun _ a ha hm => by
    have h5 := hfr a ha
    rw [HSZ.out] at h5
    simp only [List.mem_singleton] at hm
    omega⟩)
  have hnm := HNM.out
  clear hnum hnA hnc hfr hb hn
  generalize segsOf t.fs = segs at *
  generalize ints (numsN t.fs) = nums at *
  go_wp2_with fail
  go_loopw [16] (fun i wr => ScO w0 (w.heap.size + 1) (w.heap.size + 1) 59 segs RES NA n nums i wr) (fun i _ => n - (intOf i).toNat)
  case atStart => exact HS0.out
  case round =>
    obtain ⟨k, c, FT, N, hk, rfl, hC, hBL, hsc, hbd, hto, hnums, hnft⟩ := hrel
    have HC := Lib.hid hC
    have HBL := Lib.hid hBL
    have HSC := Lib.hid hsc
    have HBD := Lib.hid hbd
    have HTO := Lib.hid hto
    have HNUM := Lib.hid hnums
    have HNFT := Lib.hid hnft
    clear hC hBL hsc hbd hto hnums hnft
    by_cases hlt : k < n
    · have hks : k < segs.length := by rw [← HNL.out]; exact hlt
      obtain ⟨nb, off, hadr, hcell⟩ := HNUM.out.2.2 (by omega)
      subst hadr
      have hc := hcell k hlt
      rw [HNK.out k hks] at hc
      clear hcell
      obtain ⟨s1, s2, s3⟩ := HSF.out k hks
      have HTD := Lib.hid (tot_drop segs k hks)
      have HSD := Lib.hid (List.drop_eq_getElem_cons hks)
      generalize segs[k] = p at *
      obtain ⟨num, zs⟩ := p
      simp only at hc s1 s2 s3 HTD
      have HRD := Lib.hid s3
      clear s3
      have i1 : (k : Int) < (n : Int) := by omega
      have HLW := HLOW.out wr HBL.out
      have HIw := Lib.hid HLW.1
      have HBw := Lib.hid HLW.2
      clear HLW
      go_wp2_with fail
      refine (nameOf_any num s2 wr HBw.out).mono ?_
      rintro e w2 ⟨rfl, hb2⟩
      have HI2 := Lib.hid (HIw.out.below hb2)
      have HBL2 := Lib.hid (HBL.out.trans (hb2.mono (by have := HBL.out.size; rw [HSZ.out] at this; omega)))
      have HC2 := Lib.hid (HC.out.below hb2)
      have HNUM2 := Lib.hid (rdI_left HNUM.out (Dk.Fr.below (S := []) hb2) (fun _ _ _ => by simp))
      clear hb2
      have H1 := Lib.hid (Dk.read_any g b m t (str (segN num)) w2 HI2.out)
      rw [str_data, HRD.out] at H1
      go_wp2_with fail
      refine H1.out.mono ?_
      clear H1
      rintro e w3 ⟨A, n3, cap, rfl, hs, hn3, hb3⟩
      simp only at hs ⊢
      have HZL := Lib.hid hs.1.1
      have HBL3 := Lib.hid (HBL2.out.trans (hb3.mono (by have := HBL2.out.size; rw [HSZ.out] at this; omega)))
      have HC3 := Lib.hid (HC2.out.below hb3)
      have HNUM3 := Lib.hid (rdI_left HNUM2.out (Dk.Fr.below (S := []) hb3) (fun _ _ _ => by simp))
      have H1 := Lib.hid (Rc.scan_any A n3 cap zs w3 (Rc.Sl.of hs) (by omega))
      clear hs hb3
      go_wp2_with fail
      refine H1.out.mono ?_
      clear H1
      rintro e w4 ⟨ts, v, rfl, hsct, hrows, hb4⟩
      have HBL4 := Lib.hid (HBL3.out.trans (hb4.mono (by have := HBL3.out.size; rw [HSZ.out] at this; omega)))
      have HC4 := Lib.hid (HC3.out.below hb4)
      have HNUM4 := Lib.hid (rdI_left HNUM3.out (Dk.Fr.below (S := []) hb4) (fun _ _ _ => by simp))
      obtain ⟨RB, rc, hvr, hap⟩ := apl_rows hrows HC3.out.lt
      subst hvr
      have HSMALL := Lib.hid (show ∀ x ∈ ts, x.length ≤ 65536 by obtain ⟨_, _, h5, _⟩ := hsct; exact h5)
      have HUSED := Lib.hid (show (Rc.recs ts).length ≤ zs.length by obtain ⟨r0, h5, _⟩ := hsct; rw [h5, List.length_append]; omega)
      have HREC := Lib.hid (recsOf_eq hsct)
      have hu := HUSED.out
      have hge := Rc.recs_ge ts
      obtain ⟨Q, hQ⟩ : ∃ Q, scanR num true c ts = Q := ⟨_, rfl⟩
      have HQ := Lib.hid hQ
      have HRS := Lib.hid (show scanS c (segs.drop k) = if goesOn zs ts Q.2 then scanS Q.1 (segs.drop (k + 1)) else Q.1 by rw [HSD.out, scanS, HREC.out, hQ])
      have HS1 := Lib.hid (show ScI w0 (w.heap.size + 1) (w.heap.size + 1) 59 num ts Q (some ⟨nb, off, none⟩) n nums RB ts.length (N + zs.length) (.int .i64 0) w4 from ⟨0, c, FT, N, Nat.zero_le _, rfl, HC4.out, HBL4.out, by rw [List.drop_zero]; exact hQ, HBD.out, by rw [List.drop_zero]; omega, fun h => by omega, HNUM4.out, HNFT.out, hap⟩)
      clear hsct hrows hb4 hap hQ hc
      obtain ⟨M, hM⟩ : ∃ M, ts.length = M := ⟨_, rfl⟩
      have HM := Lib.hid hM
      have HM0 := Lib.hid (show N + zs.length ≤ 16777216 by have := HTO.out; rw [HTD.out] at this; omega)
      have hm0 := HM0.out
      rw [HZL.out] at hu hm0
      rw [hM] at HS1 hge ⊢
      clear hM
      obtain ⟨U, hU⟩ : ∃ U, (Rc.recs ts).length = U := ⟨_, rfl⟩
      have HU := Lib.hid hU
      rw [hU] at hu hge ⊢
      clear hU
      go_wp2_with fail
      go_loopw [38] (fun i wx => ScI w0 (w.heap.size + 1) (w.heap.size + 1) 59 num ts Q (some ⟨nb, off, none⟩) n nums RB M (N + zs.length) i wx) (fun i _ => M - (intOf i).toNat)
      case atStart => exact HS1.out
      case round =>
        obtain ⟨j, c5, F5, N5, hj, rfl, hC, hB5, hsr, hbd, hlen, hsg, hnu, hnf, hap⟩ := hrel
        have HC5 := Lib.hid hC
        have HBL5 := Lib.hid hB5
        have HSR := Lib.hid hsr
        have HBD5 := Lib.hid hbd
        have HLE5 := Lib.hid hlen
        have HSG := Lib.hid hsg
        have HNU5 := Lib.hid hnu
        have HNF5 := Lib.hid hnf
        have HAP5 := Lib.hid hap
        clear hC hB5 hsr hbd hlen hsg hnu hnf hap
        by_cases hjm : j < M
        · obtain ⟨bk, bo, AR, nr, cr, eRB, hcell, hrd, hA, hbk, hAk⟩ := HAP5.out.2 j hjm
          subst eRB
          have HDR := Lib.hid (drop_getD ts j (by rw [HM.out]; exact hjm))
          have HRL := Lib.hid (recs_drop ts j (by rw [HM.out]; exact hjm))
          have hXm : ts.getD j [] ∈ ts := by
            rw [List.getD_eq_getElem?_getD, List.getElem?_eq_getElem (by rw [HM.out]; exact hjm)]
            exact List.getElem_mem _
          have hXl := HSMALL.out _ hXm
          obtain ⟨X, hX⟩ : ∃ X, ts.getD j [] = X := ⟨_, rfl⟩
          rw [hX] at HDR HRL hrd hXl
          clear hXm hX
          have hnr := hrd.1
          have HX := Lib.hid hrd
          clear hrd
          have i2 : (j : Int) < (M : Int) := by omega
          have hbd5 := HBD5.out
          have hle5 := HLE5.out
          have hm0 := HM0.out
          rw [HRL.out] at hle5
          go_wp2_with fail
          rw [show (((j : Nat) : Int) == 0) = decide (j = 0) by by_cases h : j = 0 <;> simp [h]]
          refine (accept_any num (decide (j = 0)) AR nr cr X _ HC5.out (by have := HBL5.out.size; rw [HSZ.out] at this; omega) HX.out hA (by omega) (fun h => HSG.out (by simp at h; omega)) (by have := hbd5.1; omega) (by have := hbd5.2.1; omega) (fun s hs => by have := hbd5.2.2 s hs; omega)).mono ?_
          rintro e w5 hacc
          cases hq : acc num (decide (j = 0)) c5 X with
          | none =>
            rw [hq] at hacc
            obtain ⟨rfl, hC6, hb6⟩ := hacc
            have HC6 := Lib.hid hC6
            have HBL6 := Lib.hid (HBL5.out.trans (hb6.mono (by have := HBL5.out.size; rw [HSZ.out] at this; omega)))
            have HREQ := Lib.hid (show RES = c5 by
              have h9 := HSR.out
              rw [HDR.out, scanR_none hq] at h9
              rw [← HSC.out, HRS.out, ← h9]
              simp [goesOn])
            clear hC6 hb6
            obtain ⟨_, cs, ve, vs, xs, hct, _⟩ := HC6.out
            obtain ⟨EA1, ec1, hve, _⟩ := row_slice hct.rE
            obtain ⟨SA1, sc1, hvs, _⟩ := row_slice hct.rS
            have x0 := hct.blk.cell 0 _ hct.c0
            have x1 := hct.blk.cell 1 _ hct.c1
            have x2 := hct.blk.cell 2 _ hct.c2
            have HCT := Lib.hid hct
            have KR := Lib.hid (show Blk _ w.heap.size #[.int .i64 0, .slice none 0 0, .slice none 0 0] 59 from (HBL6.out.block w.heap.size (Nat.lt_succ_self _)).trans HKR.out)
            have g0 := KR.out.free 0
            have g1 := KR.out.free 1
            have g2 := KR.out.free 2
            have y0 := KR.out.cell 0 _ rfl
            have y1 := KR.out.cell 1 _ rfl
            have y2 := KR.out.cell 2 _ rfl
            clear hct
            subst hve hvs
            go_wp2
            refine bodyPost_ret (v := .tuple #[.agg #[.int .i64 (c5.lg.base : Int), .slice EA1 xs.length ec1, .slice SA1 c5.segs.length sc1], .int .i64 0]) ?_ ?_ ?_
            · exact results_two Tryz.results37 _ _ w.heap.size 59 #[.int .i64 (c5.lg.base : Int), .slice EA1 xs.length ec1, .slice SA1 c5.segs.length sc1] (0, 0) _ rfl (blk3 KR.out _ _ _) Tryz.underlying59 rfl (by kernel_rfl)
            · rfl
            · rw [HREQ.out]
              exact fin_ok HCT.out HB0.out HBL6.out _ _ _
          | some c6 =>
            rw [hq] at hacc
            obtain ⟨rfl, S6, hC6, hfr, hS6⟩ := hacc
            have hge5 := HC5.out.ge
            have hb6 : Below (w.heap.size + 1) w0 w5 := HBL5.out.trans ⟨hfr.os, hfr.tape, hfr.output, hfr.size, fun q hq5 => hfr.block q (by have h7 := HBL5.out.size; rw [HSZ.out] at h7; omega) (fun hm => by have h8 := hge5 q hm; omega)⟩
            have HS6 := Lib.hid (show ScI w0 (w.heap.size + 1) (w.heap.size + 1) 59 num ts Q (some ⟨nb, off, none⟩) n nums (some ⟨bk, bo, none⟩) M (N + zs.length) (.int .i64 ((j + 1 : Nat) : Int)) w5 from ⟨j + 1, c6, S6, N5 + (8 + X.length), by omega, rfl, hC6, hb6, by
                have h9 := HSR.out
                rw [HDR.out, scanR_some hq] at h9
                rw [show decide (j + 1 = 0) = false from decide_eq_false (by omega)]
                exact h9, acc_bd hbd5 hq, by omega, fun _ => acc_segs hq (fun h => HSG.out (by simp at h; omega)), rdI_left HNU5.out hfr HNF5.out, fun h0 a ha hm => (hS6 _ hm).elim (fun h1 => HNF5.out h0 a ha h1) (fun h1 => by have h2 := rdI_lt HNU5.out h0 a ha; omega), HAP5.out.left hfr hS6⟩)
            clear hC6 hfr hS6 hb6 hge5
            go_wp2_with fail
            go_roundw
            case rel => exact HS6.out
            case measure => simp [intOf]; omega
        · obtain rfl : j = M := by omega
          have HQ5 := Lib.hid (show Q = (c5, true) by
            rw [← HSR.out, List.drop_of_length_le (by rw [HM.out]; exact Nat.le_refl _), scanR])
          by_cases hM0 : j = 0
          · have HREQ := Lib.hid (show RES = c5 by
              rw [← HSC.out, HRS.out, HQ5.out]
              have : ts = [] := List.eq_nil_of_length_eq_zero (by rw [HM.out]; exact hM0)
              rw [this]
              rfl)
            obtain ⟨_, cs, ve, vs, xs, hct, _⟩ := HC5.out
            obtain ⟨EA1, ec1, hve, _⟩ := row_slice hct.rE
            obtain ⟨SA1, sc1, hvs, _⟩ := row_slice hct.rS
            have x0 := hct.blk.cell 0 _ hct.c0
            have x1 := hct.blk.cell 1 _ hct.c1
            have x2 := hct.blk.cell 2 _ hct.c2
            have HCT := Lib.hid hct
            have KR := Lib.hid (show Blk _ w.heap.size #[.int .i64 0, .slice none 0 0, .slice none 0 0] 59 from (HBL5.out.block w.heap.size (Nat.lt_succ_self _)).trans HKR.out)
            have g0 := KR.out.free 0
            have g1 := KR.out.free 1
            have g2 := KR.out.free 2
            have y0 := KR.out.cell 0 _ rfl
            have y1 := KR.out.cell 1 _ rfl
            have y2 := KR.out.cell 2 _ rfl
            clear hct
            subst hve hvs
            go_wp2
            refine bodyPost_ret (v := .tuple #[.agg #[.int .i64 (c5.lg.base : Int), .slice EA1 xs.length ec1, .slice SA1 c5.segs.length sc1], .int .i64 0]) ?_ ?_ ?_
            · exact results_two Tryz.results37 _ _ w.heap.size 59 #[.int .i64 (c5.lg.base : Int), .slice EA1 xs.length ec1, .slice SA1 c5.segs.length sc1] (0, 0) _ rfl (blk3 KR.out _ _ _) Tryz.underlying59 rfl (by kernel_rfl)
            · rfl
            · rw [HREQ.out]
              exact fin_ok HCT.out HB0.out HBL5.out _ _ _
          · by_cases hUn : U < n3
            · have HREQ := Lib.hid (show RES = c5 by
                rw [← HSC.out, HRS.out, HQ5.out]
                simp only
                rw [show goesOn zs ts true = false by
                  unfold goesOn
                  rw [HU.out, HZL.out, decide_eq_false (by omega)]
                  simp]
                rfl)
              obtain ⟨_, cs, ve, vs, xs, hct, _⟩ := HC5.out
              obtain ⟨EA1, ec1, hve, _⟩ := row_slice hct.rE
              obtain ⟨SA1, sc1, hvs, _⟩ := row_slice hct.rS
              have x0 := hct.blk.cell 0 _ hct.c0
              have x1 := hct.blk.cell 1 _ hct.c1
              have x2 := hct.blk.cell 2 _ hct.c2
              have HCT := Lib.hid hct
              have KR := Lib.hid (show Blk _ w.heap.size #[.int .i64 0, .slice none 0 0, .slice none 0 0] 59 from (HBL5.out.block w.heap.size (Nat.lt_succ_self _)).trans HKR.out)
              have g0 := KR.out.free 0
              have g1 := KR.out.free 1
              have g2 := KR.out.free 2
              have y0 := KR.out.cell 0 _ rfl
              have y1 := KR.out.cell 1 _ rfl
              have y2 := KR.out.cell 2 _ rfl
              clear hct
              subst hve hvs
              go_wp2
              refine bodyPost_ret (v := .tuple #[.agg #[.int .i64 (c5.lg.base : Int), .slice EA1 xs.length ec1, .slice SA1 c5.segs.length sc1], .int .i64 0]) ?_ ?_ ?_
              · exact results_two Tryz.results37 _ _ w.heap.size 59 #[.int .i64 (c5.lg.base : Int), .slice EA1 xs.length ec1, .slice SA1 c5.segs.length sc1] (0, 0) _ rfl (blk3 KR.out _ _ _) Tryz.underlying59 rfl (by kernel_rfl)
              · rfl
              · rw [HREQ.out]
                exact fin_ok HCT.out HB0.out HBL5.out _ _ _
            · have HREQ := Lib.hid (show scanS c5 (segs.drop (k + 1)) = RES by
                rw [← HSC.out, HRS.out, HQ5.out]
                simp only
                rw [show goesOn zs ts true = true by
                  unfold goesOn
                  rw [HU.out, HZL.out]
                  have h1 : ts ≠ [] := fun h => by have := HM.out; rw [h] at this; simp at this; omega
                  simp [h1]
                  omega]
                rfl)
              have HS7 := Lib.hid (show ScO w0 (w.heap.size + 1) (w.heap.size + 1) 59 segs RES (some ⟨nb, off, none⟩) n nums (.int .i64 ((k + 1 : Nat) : Int)) _ from ⟨k + 1, c5, F5, N + zs.length, by omega, rfl, HC5.out, HBL5.out, HREQ.out, HBD5.out.more (by have := HLE5.out; omega), by have := HTO.out; rw [HTD.out] at this; omega, HNU5.out, HNF5.out⟩)
              go_wp2
              go_roundw
              case rel => exact HS7.out
              case measure => simp [intOf]; omega
    · obtain rfl : k = n := by omega
      have HREQ := Lib.hid (show RES = c by
        rw [← HSC.out, List.drop_of_length_le (by rw [← HNL.out]; exact Nat.le_refl _), scanS])
      obtain ⟨_, cs, ve, vs, xs, hct, _⟩ := HC.out
      obtain ⟨EA1, ec1, hve, _⟩ := row_slice hct.rE
      obtain ⟨SA1, sc1, hvs, _⟩ := row_slice hct.rS
      have x0 := hct.blk.cell 0 _ hct.c0
      have x1 := hct.blk.cell 1 _ hct.c1
      have x2 := hct.blk.cell 2 _ hct.c2
      have HCT := Lib.hid hct
      have KR := Lib.hid (show Blk wr w.heap.size #[.int .i64 0, .slice none 0 0, .slice none 0 0] 59 from (HBL.out.block w.heap.size (Nat.lt_succ_self _)).trans HKR.out)
      have g0 := KR.out.free 0
      have g1 := KR.out.free 1
      have g2 := KR.out.free 2
      have y0 := KR.out.cell 0 _ rfl
      have y1 := KR.out.cell 1 _ rfl
      have y2 := KR.out.cell 2 _ rfl
      clear hct
      subst hve hvs
      go_wp2
      refine bodyPost_ret (v := .tuple #[.agg #[.int .i64 (c.lg.base : Int), .slice EA1 xs.length ec1, .slice SA1 c.segs.length sc1], .int .i64 0]) ?_ ?_ ?_
      · exact results_two Tryz.results37 _ _ w.heap.size 59 #[.int .i64 (c.lg.base : Int), .slice EA1 xs.length ec1, .slice SA1 c.segs.length sc1] (0, 0) _ rfl (blk3 KR.out _ _ _) Tryz.underlying59 rfl (by kernel_rfl)
      · rfl
      · rw [HREQ.out]
        exact fin_ok HCT.out HB0.out HBL.out _ _ _
end Go.Proofs.YtgmpdifggaggdaaGreatDoor.Wl

namespace Go.Proofs.YtgmpdifggaggdaaGreatDoor.Wl
open Go.RowKit Go.Proofs.YtgmpdifggaggdaaGreatDoor.Fld
set_option linter.unusedVariables false

theorem StpI.loaded {lo W g b lim : Nat} {m : List Dk.Ent} {ve vs ve' vs' : Value} {xs xs' : List EA} {w w1 : World} {c c' : Ct} {t : Dk.St} (h : WmX lo W g b lim m ve vs xs w c t) (hct : CtV (w.heap.size + 1) w1 ve' vs' xs' c') (hb : Below w.heap.size w w1) (r : Int) :
    StpI lo W g b lim (WFt W g b m ve vs) w (r, c', t) (.returned (.int .i64 r)) (((w1.setCell ⟨W, 3, none⟩ (.int .i64 (c'.lg.base : Int))).setCell ⟨W, 4, none⟩ ve').setCell ⟨W, 5, none⟩ vs') := by
  have hX := h.below hb
  have hsz := h.size
  have hW := h.ct.blk.lt
  have hblk : Blk _ W (wcs g lim c' ve' vs') 61 := ((hX.ct.blk.set 3 (.int .i64 (c'.lg.base : Int)) (by simp [wcs])).set 4 ve' (by simp [wcs])).set 5 vs' (by simp [wcs])
  have hk : ∀ i, i ≠ W → (((w1.setCell ⟨W, 3, none⟩ (.int .i64 (c'.lg.base : Int))).setCell ⟨W, 4, none⟩ ve').setCell ⟨W, 5, none⟩ vs').heap[i]? = w1.heap[i]? := by
    intro i hi
    rw [Below.heap_setCell _ _ _ _ (by simp only; omega), Below.heap_setCell _ _ _ _ (by simp only; omega), Below.heap_setCell _ _ _ _ (by simp only; omega)]
  have hfr : Dk.Fr (WFt W g b m ve vs) w (((w1.setCell ⟨W, 3, none⟩ (.int .i64 (c'.lg.base : Int))).setCell ⟨W, 4, none⟩ ve').setCell ⟨W, 5, none⟩ vs') :=
    (((Dk.Fr.below hb).setCell ⟨W, 3, none⟩ (.inl (by simp [WFt, CtF])) _).setCell ⟨W, 4, none⟩ (.inl (by simp [WFt, CtF])) _).setCell ⟨W, 5, none⟩ (.inl (by simp [WFt, CtF])) _
  have hge : ∀ i, InFoot W ve' vs' xs' i → i = W ∨ w.heap.size + 1 ≤ i := by
    rintro i (rfl | hi | hi | ⟨x, hx, hi⟩)
    · exact .inl rfl
    · exact .inr (row_lo hct.rE i hi).1
    · exact .inr (row_lo hct.rS i hi).1
    · exact .inr (row_lo (hct.dat x hx).2 i hi).1
  have hsub : ∀ i ∈ WFt W g b m ve' vs', i ∈ WFt W g b m ve vs ∨ w.heap.size ≤ i := by
    intro i hi
    unfold WFt CtF at hi ⊢
    simp only [List.mem_cons, List.mem_append, Option.mem_toList] at hi ⊢
    rcases hi with h1 | h1 | h1 | h1 | h1 | h1
    · exact .inl (.inl h1)
    · exact .inl (.inr (.inl h1))
    · exact .inl (.inr (.inr (.inl h1)))
    · exact .inl (.inr (.inr (.inr (.inl h1))))
    · have := (row_lo hct.rE i h1).1; exact .inr (by omega)
    · have := (row_lo hct.rS i h1).1; exact .inr (by omega)
  refine ⟨rfl, _, ⟨m, ve', vs', xs', ⟨?_, ⟨hblk, rfl, rfl, rfl, hct.es, ?_, ?_, ?_, hct.ok, h.ct.t1, h.ct.t2, h.ct.t3⟩, ?_, ?_, ?_, h.glo, h.lim1, h.lim2⟩, rfl⟩, hfr, hsub⟩
  · exact hX.im.of_blocks fun i hi => hk i (by rintro rfl; exact h.apart _ (.inl rfl) hi)
  · exact row_of (row_lower hct.rE (by omega)) (fun i hi => hk i (by have := (row_lo hct.rE i hi).1; omega))
  · exact row_of (row_lower hct.rS (by omega)) (fun i hi => hk i (by have := (row_lo hct.rS i hi).1; omega))
  · exact fun x hx => ⟨(hct.dat x hx).1, row_of (row_lower (hct.dat x hx).2 (by omega)) (fun i hi => hk i (by have := (row_lo (hct.dat x hx).2 i hi).1; omega))⟩
  · intro i hi hm
    rcases hge i hi with rfl | h1
    · exact h.apart _ (.inl rfl) hm
    · have := h.im.lt i hm; omega
  · exact h.base_fr hfr h.low
  · intro i hi
    rcases hsub i hi with h1 | h1
    · exact h.low i h1
    · omega
set_option maxRecDepth 100000 in
set_option maxHeartbeats 3200000 in
theorem load_any {lo W g b lim : Nat} {m : List Dk.Ent} {ve vs : Value} {xs : List EA} {w : World} {c : Ct} {t : Dk.St} (h : WmX lo W g b lim m ve vs xs w c t) (ho : t.off = false) (hm : t.fs.length ≤ 900000) :
    Calls Tryz.prog 17 #[.pointer (some ⟨W, 0, none⟩)] w (StpI lo W g b lim (WFt W g b m ve vs) w (spLoad c t)) := by
  have HX := Lib.hid h
  have HS := Lib.hid (scan_any g b m t w h.im h.base ho hm)
  have c0 := h.ct.blk.cell 0 (.pointer (some ⟨g, 0, none⟩)) rfl
  have HR := Lib.hid (show spLoad c t = (0, scanD t.fs, t) from rfl)
  clear h
  generalize spLoad c t = R at *
  generalize scanD t.fs = c9 at *
  go_enter Tryz.func17, Tryz.ntmps17
  go_wp2_with fail
  refine HS.out.mono ?_
  clear HS
  rintro e w1 ⟨ve', vs', xs', rfl, hct, hb⟩
  have HF := Lib.hid (StpI.loaded HX.out hct hb 0)
  obtain ⟨EA1, ec1, hve, _⟩ := row_slice hct.rE
  obtain ⟨SA1, sc1, hvs, _⟩ := row_slice hct.rS
  have hX := (HX.out.below hb).ct.blk
  have g3 := hX.free 3
  have g4 := hX.free 4
  have g5 := hX.free 5
  have y3 : w1.cell? ⟨W, 3, none⟩ = some (.int .i64 (c.lg.base : Int)) := hX.cell 3 _ rfl
  have y4 : w1.cell? ⟨W, 4, none⟩ = some ve := hX.cell 4 _ rfl
  have y5 : w1.cell? ⟨W, 5, none⟩ = some vs := hX.cell 5 _ rfl
  clear hX hct hb
  subst hve hvs
  go_wp2
  go_ret
  rw [HR.out]
  exact HF.out
end Go.Proofs.YtgmpdifggaggdaaGreatDoor.Wl

namespace Go.Proofs.YtgmpdifggaggdaaGreatDoor.Wl
open Go.RowKit Go.Proofs.YtgmpdifggaggdaaGreatDoor.Fld
set_option linter.unusedVariables false

theorem doing_off (ok : Bool) (t : Dk.St) (f : Dk.St → Int × Dk.St) (hf : ∀ u, (f u).2.off = u.off) (h : (Dk.doing ok t f).1 = 0) : (Dk.doing ok t f).2.off = false := by
  unfold Dk.doing at h ⊢
  cases ok with
  | false => simp at h
  | true =>
    simp only [if_true] at h ⊢
    by_cases hc : (Dk.chg t).1 = 0
    · rw [if_pos hc, hf]
      unfold Dk.chg at hc ⊢
      split at hc
      · cases hc
      · rename_i ho
        rw [if_neg ho]
        split at hc
        · cases hc
        · rename_i ha
          rw [if_neg ha]
          split at hc
          · cases hc
          · rename_i hb
            rw [if_neg hb]
            simpa using ho
    · rw [if_neg hc] at h
      exact absurd h hc
theorem unl_off (x : Dk.Nm) (t : Dk.St) (h : (Dk.stUnlink x t).1 = 0) : (Dk.stUnlink x t).2.off = false := doing_off _ _ _ (fun u => by unfold Dk.unl1; split <;> rfl) h
theorem unl_le (x : Dk.Nm) (t : Dk.St) : (Dk.stUnlink x t).2.fs.length ≤ t.fs.length := by
  unfold Dk.stUnlink Dk.doing
  have h2 := (Dk.chg_same t).2
  split
  · split
    · unfold Dk.unl1
      split
      · show (Dk.fdel x (Dk.chg t).2.fs).length ≤ _
        rw [h2]; exact Dk.fdel_len _ _
      · rw [h2]; exact Nat.le_refl _
    · rw [h2]; exact Nat.le_refl _
  · exact Nat.le_refl _
/-- how many segments there are -/
def segL (fs : List Dk.Fil) : Nat := (segsOf fs).length
theorem numsN_segL (fs : List Dk.Fil) : (numsN fs).length = segL fs := by unfold numsN segL; rw [List.length_map]
theorem segL_perm {a b : List Dk.Fil} (h : a.Perm b) : segL a = segL b := (h.filterMap _).length_eq
theorem segL_cons (f : Dk.Fil) (fs : List Dk.Fil) : segL (f :: fs) = (if 0 < numOf f.1 then 1 else 0) + segL fs := by
  unfold segL segsOf
  rw [List.filterMap_cons]
  by_cases h : 0 < numOf f.1
  · simp [h]; omega
  · simp [h]
theorem segL_del0 (x : Dk.Nm) (hx : numOf x = 0) : ∀ fs : List Dk.Fil, segL (Dk.fdel x fs) = segL fs
  | [] => rfl
  | f :: fs => by
    have ih := segL_del0 x hx fs
    unfold Dk.fdel Dk.del at ih ⊢
    rw [List.filter_cons]
    by_cases h : f.1 = x
    · rw [if_neg (by simp [h]), segL_cons, h, hx, if_neg (by omega), ih]; omega
    · rw [if_pos (by simp [h]), segL_cons, segL_cons, ih]
theorem segL_put (f : Dk.Fil) (fs : List Dk.Fil) : segL (Dk.fput f fs) = (if 0 < numOf f.1 then 1 else 0) + segL (Dk.fdel f.1 fs) := by
  have h : (Dk.fput f fs).Perm (f :: Dk.fdel f.1 fs) := Dk.ins_perm (key := Prod.fst) f (Dk.fdel f.1 fs)
  rw [segL_perm h, segL_cons]
theorem segL_put0 (f : Dk.Fil) (fs : List Dk.Fil) (h : numOf f.1 = 0) : segL (Dk.fput f fs) = segL fs := by
  rw [segL_put, if_neg (by omega), segL_del0 _ h]; omega
theorem segL_del {fs : List Dk.Fil} (hu : Dk.Up Prod.fst fs) (x : Dk.Nm) : segL fs ≤ segL (Dk.fdel x fs) + (if 0 < numOf x then 1 else 0) := by
  cases hg : Dk.fget x fs with
  | none => rw [Dk.total_del_none hg]; exact Nat.le_add_right _ _
  | some f =>
    obtain ⟨h1, h2⟩ := Dk.get_some hg
    have h3 := segL_perm (Dk.perm_at hu h1)
    rw [segL_cons] at h3
    have h4 : Dk.del Prod.fst f.1 fs = Dk.fdel x fs := by unfold Dk.fdel; rw [h2]
    rw [h4, h2] at h3
    omega
theorem num_fresh : numOf freshN = 0 := by decide
theorem app_seg (ys : List Int) (t : Dk.St) : segL (Dk.stAppend freshN ys t).2.fs = segL t.fs ∧ (Dk.Up Prod.fst t.fs → Dk.Up Prod.fst (Dk.stAppend freshN ys t).2.fs) := by
  unfold Dk.stAppend Dk.doing
  have h2 := (Dk.chg_same t).2
  split
  · split
    · unfold Dk.app1
      split
      · rw [h2]; exact ⟨rfl, id⟩
      · show segL (match Dk.fget freshN (Dk.chg t).2.fs with | some f => Dk.fput (freshN, f.2.1 ++ ys, f.2.2) (Dk.chg t).2.fs | none => Dk.fput (freshN, ys, 0) (Dk.chg t).2.fs) = _ ∧ (_ → Dk.Up Prod.fst (match Dk.fget freshN (Dk.chg t).2.fs with | some f => Dk.fput (freshN, f.2.1 ++ ys, f.2.2) (Dk.chg t).2.fs | none => Dk.fput (freshN, ys, 0) (Dk.chg t).2.fs))
        rw [h2]
        split
        · exact ⟨segL_put0 _ _ num_fresh, fun h => Dk.Up.put h _⟩
        · exact ⟨segL_put0 _ _ num_fresh, fun h => Dk.Up.put h _⟩
    · rw [h2]; exact ⟨rfl, id⟩
  · exact ⟨rfl, id⟩
theorem sync_seg (t : Dk.St) : segL (Dk.stSync freshN t).2.fs = segL t.fs ∧ (Dk.Up Prod.fst t.fs → Dk.Up Prod.fst (Dk.stSync freshN t).2.fs) := by
  unfold Dk.stSync Dk.doing
  have h2 := (Dk.chg_same t).2
  split
  · split
    · unfold Dk.sync1
      split
      · rename_i f hf
        show segL (Dk.fput (freshN, f.2.1, f.2.1.length) (Dk.chg t).2.fs) = _ ∧ (_ → Dk.Up Prod.fst (Dk.fput (freshN, f.2.1, f.2.1.length) (Dk.chg t).2.fs))
        rw [h2]
        exact ⟨segL_put0 _ _ num_fresh, fun h => Dk.Up.put h _⟩
      · rw [h2]; exact ⟨rfl, id⟩
    · rw [h2]; exact ⟨rfl, id⟩
  · exact ⟨rfl, id⟩
theorem ren_seg (y : Dk.Nm) (t : Dk.St) (hu : Dk.Up Prod.fst t.fs) : segL t.fs ≤ segL (Dk.stRename freshN y t).2.fs := by
  unfold Dk.stRename Dk.doing
  have h2 := (Dk.chg_same t).2
  split
  · split
    · unfold Dk.ren1
      cases hf : Dk.fget freshN (Dk.chg t).2.fs with
      | none => simp only; rw [h2]; exact Nat.le_refl _
      | some f =>
        simp only
        split
        · rw [h2]; exact Nat.le_refl _
        · show _ ≤ segL (Dk.fdel freshN (Dk.fput (y, f.2.1, f.2.2) (Dk.fdel y (Dk.chg t).2.fs)))
          rw [h2, segL_del0 _ num_fresh, segL_put]
          have h3 := segL_del hu y
          have h4 := segL_del (Dk.Up.del hu y) y
          show _ ≤ (if 0 < numOf y then 1 else 0) + segL (Dk.fdel y (Dk.fdel y t.fs))
          have h5 : Dk.fdel y (Dk.fdel y t.fs) = Dk.fdel y t.fs := by
            unfold Dk.fdel Dk.del
            rw [List.filter_filter]
            congr 1
            funext e
            simp
          rw [h5]
          omega
    · rw [h2]; exact Nat.le_refl _
  · exact Nat.le_refl _
theorem scanD_segL (fs : List Dk.Fil) : (scanD fs).segs.length ≤ segL fs := by
  obtain ⟨k, h1, h2⟩ := scanD_nums fs
  have h3 := congrArg List.length h2
  rw [List.length_map, List.length_take, numsN_segL] at h3
  omega
theorem spRun_dok {f : Dk.St → Int × Dk.St} {r : List Sp} {c : Ct} {t : Dk.St} (h : (f t).1 = 0) : spRun (spDisk f :: r) c t = spRun r c (f t).2 := spRun_ok (s := spDisk f) h
theorem spRun_dno {f : Dk.St → Int × Dk.St} {r : List Sp} {c : Ct} {t : Dk.St} (h : (f t).1 ≠ 0) : spRun (spDisk f :: r) c t = ((f t).1, c, (f t).2) := spRun_no (s := spDisk f) h
theorem short_seg {c : Ct} {t : Dk.St} (hu : Dk.Up Prod.fst t.fs) : (spShorten c t).2.1 = c ∧ segL t.fs ≤ segL (spShorten c t).2.2.fs ∧ (spShorten c t).2.2.fs.length ≤ t.fs.length + 3 := by
  unfold spShorten
  split
  · exact ⟨rfl, Nat.le_refl _, by show t.fs.length ≤ _; omega⟩
  · rename_i s hs
    split
    · exact ⟨rfl, Nat.le_refl _, by show t.fs.length ≤ _; omega⟩
    · generalize (Dk.stRead (segN s.num) t).2.take s.size = ys
      obtain ⟨a1, a2⟩ := app_seg ys t
      have a3 := Dk.app_len freshN ys t
      obtain ⟨b1, b2⟩ := sync_seg (Dk.stAppend freshN ys t).2
      have b3 := Dk.sync_len freshN (Dk.stAppend freshN ys t).2
      have c1 := ren_seg (segN s.num) (Dk.stSync freshN (Dk.stAppend freshN ys t).2).2 (b2 (a2 hu))
      have c3 := Dk.ren_len freshN (segN s.num) (Dk.stSync freshN (Dk.stAppend freshN ys t).2).2
      by_cases h1 : (Dk.stAppend freshN ys t).1 = 0
      · rw [spRun_dok h1]
        by_cases h2 : (Dk.stSync freshN (Dk.stAppend freshN ys t).2).1 = 0
        · rw [spRun_dok h2]
          show (spRun [spDisk (Dk.stRename freshN (segN s.num))] c (Dk.stSync freshN (Dk.stAppend freshN ys t).2).2).2.1 = c ∧ segL t.fs ≤ segL (spRun [spDisk (Dk.stRename freshN (segN s.num))] c (Dk.stSync freshN (Dk.stAppend freshN ys t).2).2).2.2.fs ∧ (spRun [spDisk (Dk.stRename freshN (segN s.num))] c (Dk.stSync freshN (Dk.stAppend freshN ys t).2).2).2.2.fs.length ≤ _
          rw [spRun_one]
          refine ⟨rfl, ?_, ?_⟩
          · show _ ≤ segL (Dk.stRename freshN (segN s.num) (Dk.stSync freshN (Dk.stAppend freshN ys t).2).2).2.fs
            omega
          · show (Dk.stRename freshN (segN s.num) (Dk.stSync freshN (Dk.stAppend freshN ys t).2).2).2.fs.length ≤ _
            omega
        · rw [spRun_dno h2]
          refine ⟨rfl, ?_, ?_⟩
          · show _ ≤ segL (Dk.stSync freshN (Dk.stAppend freshN ys t).2).2.fs
            omega
          · show (Dk.stSync freshN (Dk.stAppend freshN ys t).2).2.fs.length ≤ _
            omega
      · rw [spRun_dno h1]
        refine ⟨rfl, ?_, ?_⟩
        · show _ ≤ segL (Dk.stAppend freshN ys t).2.fs
          omega
        · show (Dk.stAppend freshN ys t).2.fs.length ≤ _
          omega
theorem rest_seg (c : Ct) : ∀ (l : List Nat) (t : Dk.St), (spRun (l.map fun n => spDisk (Dk.stUnlink (segN n))) c t).2.1 = c ∧ (spRun (l.map fun n => spDisk (Dk.stUnlink (segN n))) c t).2.2.fs.length ≤ t.fs.length
  | [], t => ⟨rfl, Nat.le_refl _⟩
  | n :: l, t => by
    rw [List.map_cons]
    have h1 := unl_le (segN n) t
    by_cases h : (Dk.stUnlink (segN n) t).1 = 0
    · rw [spRun_dok h]
      have ih := rest_seg c l (Dk.stUnlink (segN n) t).2
      exact ⟨ih.1, Nat.le_trans ih.2 h1⟩
    · rw [spRun_dno h]
      exact ⟨rfl, h1⟩
theorem sum_mem : ∀ (l : List Nat) (x : Nat), x ∈ l → x ≤ l.sum
  | [], x, h => by cases h
  | y :: l, x, h => by
    rw [List.sum_cons]
    rcases List.mem_cons.1 h with rfl | h
    · omega
    · have := sum_mem l x h; omega
theorem last_size {t : Dk.St} (hG : Dk.Good t) (ho : t.off = false) (s : Sg) (h : (scanD t.fs).segs.getLast? = some s) : s.size ≤ 1099511627776 ∧ ((Dk.stRead (segN s.num) t).1 = 0 → s.size ≤ (Dk.stRead (segN s.num) t).2.length) := by
  obtain ⟨p, hp, hn, hs⟩ := scanD_last t.fs s h
  obtain ⟨k, hk, hpk⟩ := List.getElem_of_mem hp
  obtain ⟨_, _, hr⟩ := seg_file hG ho k hk
  rw [hpk, hn] at hr
  rw [hr]
  have htot : p.2.length ≤ tot (segsOf t.fs) := by
    unfold tot
    exact sum_mem _ _ (List.mem_map.2 ⟨p, hp, rfl⟩)
  have h2 := tot_le t.fs
  have h3 := hG.fits
  have h4 := hG.room2
  exact ⟨by omega, fun _ => hs⟩
end Go.Proofs.YtgmpdifggaggdaaGreatDoor.Wl
