/-
  Several texts in one: What the reader's method Text answers, and what becomes of the reader. Conditions: the reader lies in memory as it was made (Rdr). Layer 6: what the program reads of a record's content: readInt, readEntry, decode. Conditions: the reader is one (Rdr); the content can be read. What the document's own Add and Sum answer, and that the laws CrcSums and CrcAdds answer true and leave all memory that was there as it was. Conditions: the slices' cells can be read (Rd). What the functions encode, decode, checksum and Put of package record, and the document's own four and Put, answer for whatever they are called with: a number's four bytes, the record of the bytes. Conditions: the slice's cells can be read. What the document's own reader's next answers: the number that stands next, whether it is below 0, and how many bytes its code has. Conditions: the reader lies in memory as it was made (Three), its bytes can be read. What the document's own reader's next answers where a whole code stands next, and where it begins with a zero byte. Conditions: the reader lies in memory as it was made (Three), its bytes can be read.
-/
import Derived.Test.YtnppomiggajhnaaGreatDoorJFieldCut
import Derived.Test.YtnppomiggajhnaaGreatDoorJCrcMath
import Derived.Test.YtnppomiggajhnaaGreatDoorJFieldBase
import Derived.Below
import Derived.Lib.SlBytesConst
import Derived.Deep.QuietTactic
import Derived.BigQuiet
namespace Go.Proofs.YtnppomiggajhnaaGreatDoor.Fld
open Go.RowKit

theorem nb_sl (A : Option Addr) (n cap : Nat) : NoByte (.slice A n cap) := fun _ h => by cases h
/-- a text that was read, in memory that the call made, and the reader behind it -/
def GotT (g : Nat) (w : World) (t zs : List Int) (bad : Bool) (e : Ending) (w' : World) : Prop := ∃ A n cap, e = .returned (.slice A n cap) ∧ Sl w' A n cap t ∧ Chg g w w' ∧ Rdr w' g zs bad

set_option maxHeartbeats 800000 in
theorem rtext_ok (g : Nat) (zs : List Int) (w : World) (hr : Rdr w g zs false) (t r : List Int) (h : cutText zs = some (t, r)) (most : Int) (hm : (t.length : Int) ≤ most) :
    Calls Tryz.prog 217 #[.pointer (some ⟨g, 0, none⟩), .int .i64 most] w (GotT g w t r false) := by
  obtain ⟨A, n, cap, ht, hs, hn⟩ := hr
  have hmf : ∀ (fn : Fn) (first cap : Array Value) (w : World), (Instr.makeFunc fn first cap).run Tryz.prog w = .ok (.func fn first cap) w := fun _ _ _ _ => rfl
  have hgl := ht.lt
  have HLN := Lib.hid (cutText_len zs t r h)
  rw [hs.1.1] at HLN
  have HF := Lib.hid (Fr.start ht (.slice none 0 0) (nb_sl _ _ _) 210 61)
  have HS := Lib.hid (hs.chg HF.out.2.2.2.2.1 ht)
  have HC := Lib.hid h
  clear ht hs h
  go_enter_defers Tryz.func217, Tryz.ntmps217
  go_wp2_with fail
  refine (unread_ok g A n cap _ HF.out.2.2.2.1).mono ?_
  rintro e w' ⟨rfl, rfl⟩
  go_wp2_with fail
  refine (cutT_ok A n cap zs _ HS.out t r HC.out).mono ?_
  rintro e W ⟨a, n1, cap1, a2, n2, cap2, rfl, hs1, hs2, hst⟩
  have hf := HF.out.still hst
  have c0 := hf.2.1
  have c1 := hf.cellM.1
  have c2 := hf.cellM.2
  have c3 := hf.2.2.2.1.cells.1
  have c4 := hf.2.2.2.1.cells.2.2.1
  have hcm := hs1.1.2.1
  unfold maxLen at hcm
  have hmi : (n1 : Int) ≤ most := by have := hs1.1.1; omega
  have hf1 := hf.setM (.slice (some a) n1 cap1) (nb_sl _ _ _)
  have HF2 := Lib.hid (hf1.set0 (some a2) n2 cap2)
  have HS1 := Lib.hid (hf1.slG (hf.slM hs1 (.slice (some a) n1 cap1)) 0 (.slice (some a2) n2 cap2))
  have HS2 := Lib.hid (hf1.slG (hf.slM hs2 (.slice (some a) n1 cap1)) 0 (.slice (some a2) n2 cap2))
  have HN1 := Lib.hid (show n1 ≤ 140737488355328 by have := hs1.1.1; have := HLN.out; omega)
  have HN2 := Lib.hid (show n2 ≤ 140737488355328 by have := hs2.1.1; have := HLN.out; omega)
  clear HF HS hst hf1 hs1 hs2 hf
  have d1 : ¬ g = w.heap.size := by omega
  have d2 : ¬ g = w.heap.size + 1 := by omega
  have d3 : ¬ w.heap.size = g := by omega
  have d4 : ¬ w.heap.size + 1 = g := by omega
  go_wp2_with (go_at_call 236; refine (demand_ok _).mono ?_; rintro e w' ⟨rfl, rfl⟩)
  clear c0 c1 c2 c3 c4
  generalize (W.setCell _ _).setCell _ _ = W5 at HF2 HS1 HS2 ⊢
  refine (clone_any (some a) n1 cap1 t _ HS1.out.1 HS1.out.2.2.2.1 HN1.out).mono ?_
  rintro e W6 ⟨v, rfl, hO⟩
  obtain ⟨A6, c6, hv6, hs6, _⟩ := hO.sl n1 HS1.out.1.1
  subst hv6
  have hf6 := HF2.out.below hO.1
  have c1 := hf6.cellM.1
  have c2 := hf6.cellM.2
  have HF7 := Lib.hid (hf6.setM (.slice A6 n1 c6) (nb_sl _ _ _))
  have HS7 := Lib.hid (hf6.slM (HS2.out.below hO.1) (.slice A6 n1 c6))
  have HT7 := Lib.hid (hf6.slM hs6 (.slice A6 n1 c6))
  clear hf6 hO hs6 HF2 HS1 HS2
  go_wp2
  clear c1 c2
  generalize W6.setCell _ _ = W7 at HF7 HS7 HT7 ⊢
  have c1 := HF7.out.cellM.1
  refine leaves_cons (f := 237) (args := #[.pointer (some ⟨w.heap.size + 1, 0, none⟩), .pointer (some ⟨w.heap.size, 0, none⟩)]) (by simp) (by simp [go_sem]) ?_
  refine (catchT_idle _ _ _).mono ?_
  rintro e u' w'' ⟨rfl, rfl, rfl⟩
  simp [Leaves, settle, results, Tryz.results217, go_sem, c1]
  exact ⟨A6, n1, c6, rfl, HT7.out, (HF7.out.done HS7.out HN2.out (.slice A6 n1 c6)).2⟩

/-- the door, where the method panicked -/
theorem doorT {w W : World} {g : Nat} {x : Value} {A : Option Addr} {n cap : Nat} {bad : Bool} (hf : Fr w W g x A n cap bad) {zs : List Int} (hs : Sl W A n cap zs) (hn : n ≤ 140737488355328) (ts : Array Value) (h4 : ts[4]? = some (.pointer (some ⟨w.heap.size + 1, 0, none⟩))) :
    bodyPostD Tryz.prog Tryz.f217 (Got g w (.slice none 0 0) zs true) (Exit.panic errP) { tmps := ts, defers := [{ target := Target.fn (Fn.func 237) #[.pointer (some ⟨w.heap.size + 1, 0, none⟩), .pointer (some ⟨w.heap.size, 0, none⟩)], args := #[] }] } W := by
  have hgl := hf.1
  have hf1 := hf.setM (.slice none 0 0) (nb_sl _ _ _)
  have hf2 := hf1.set1 true
  have hs2 := hf1.slG (hf.slM hs (.slice none 0 0)) 1 (.bool true)
  have c1 := hf2.cellM.1
  refine leaves_cons (f := 237) (args := #[.pointer (some ⟨w.heap.size + 1, 0, none⟩), .pointer (some ⟨w.heap.size, 0, none⟩)]) (by simp) (by simp [go_sem]) ?_
  refine (catchT_panic ⟨w.heap.size + 1, 0, none⟩ ⟨w.heap.size, 0, none⟩ g x bad W hf.cellM.1 hf.cellM.2 hf.2.1 hf.2.2.2.1.cells.2.1 hf.2.2.2.1.cells.2.2.2 (by simp; omega) [] 29 (.int .i64 6)).mono ?_
  rintro e u' w'' ⟨rfl, rfl, rfl⟩
  generalize (W.setCell _ _).setCell _ _ = W4 at hf2 hs2 c1 ⊢
  simp [Leaves, settle, results, Tryz.results217, go_sem, Array.getD_eq_getD_getElem?, h4, c1]
  exact hf2.done hs2 hn _

set_option maxHeartbeats 800000 in
theorem rtext_bad (g : Nat) (zs : List Int) (w : World) (bad : Bool) (hr : Rdr w g zs bad) (most : Int) (h : bad = true ∨ cutText zs = none ∨ ∃ t r, cutText zs = some (t, r) ∧ most < (t.length : Int)) :
    Calls Tryz.prog 217 #[.pointer (some ⟨g, 0, none⟩), .int .i64 most] w (Got g w (.slice none 0 0) zs true) := by
  obtain ⟨A, n, cap, ht, hs, hn⟩ := hr
  have hmf : ∀ (fn : Fn) (first cap : Array Value) (w : World), (Instr.makeFunc fn first cap).run Tryz.prog w = .ok (.func fn first cap) w := fun _ _ _ _ => rfl
  have hgl := ht.lt
  have HF := Lib.hid (Fr.start ht (.slice none 0 0) (nb_sl _ _ _) 210 61)
  have HS := Lib.hid (hs.chg HF.out.2.2.2.2.1 ht)
  have HH := Lib.hid h
  clear ht hs h
  cases bad with
  | true =>
    go_enter_defers Tryz.func217, Tryz.ntmps217
    go_wp2_with fail
    refine (unread_bad g A n cap _ HF.out.2.2.2.1).mono ?_
    rintro e w' ⟨rfl, rfl⟩
    exact doorT HF.out HS.out hn _ rfl
  | false =>
    cases hc : cutText zs with
    | none =>
      have HC := Lib.hid hc
      clear hc
      go_enter_defers Tryz.func217, Tryz.ntmps217
      go_wp2_with fail
      refine (unread_ok g A n cap _ HF.out.2.2.2.1).mono ?_
      rintro e w' ⟨rfl, rfl⟩
      go_wp2_with fail
      refine (cutT_bad A n cap zs _ HS.out HC.out).mono ?_
      rintro e W ⟨rfl, hst⟩
      exact doorT (HF.out.still hst) (Still.sl HS.out hst) hn _ rfl
    | some q =>
      obtain ⟨t, r⟩ := q
      have hv : most < (t.length : Int) := by
        rcases HH.out with h | h | ⟨v', r', h, h'⟩
        · cases h
        · rw [hc] at h; cases h
        · rw [hc] at h; cases h; exact h'
      have HC := Lib.hid hc
      clear hc HH
      go_enter_defers Tryz.func217, Tryz.ntmps217
      go_wp2_with fail
      refine (unread_ok g A n cap _ HF.out.2.2.2.1).mono ?_
      rintro e w' ⟨rfl, rfl⟩
      go_wp2_with fail
      refine (cutT_ok A n cap zs _ HS.out t r HC.out).mono ?_
      rintro e W ⟨a, n1, cap1, a2, n2, cap2, rfl, hs1, _, hst⟩
      have hcm := hs1.1.2.1
      unfold maxLen at hcm
      have hl1 := hs1.1.1
      rw [hl1] at hv
      have hf := HF.out.still hst
      have c0 := hf.2.1
      have c1 := hf.cellM.1
      have c2 := hf.cellM.2
      have HF1 := Lib.hid (hf.setM (.slice (some a) n1 cap1) (nb_sl _ _ _))
      have HS1 := Lib.hid (hf.slM (Still.sl HS.out hst) (.slice (some a) n1 cap1))
      clear HF HS hst hf
      have hmi : decide ((n1 : Int) ≤ most) = false := by simp; omega
      clear hl1 hs1
      go_wp2_with (go_at_call 236; refine (demand_bad _).mono ?_; rintro e w' ⟨rfl, rfl⟩)
      exact doorT HF1.out HS1.out hn _ rfl
end Go.Proofs.YtnppomiggajhnaaGreatDoor.Fld

namespace Go.Proofs.YtnppomiggajhnaaGreatDoor.Wl
open Go.RowKit Go.Proofs.YtnppomiggajhnaaGreatDoor.Fld
set_option linter.unusedVariables false

/-- a block's cells -/
def Blk (w : World) (B : Nat) (cs : Array Value) (ty : TypeId) : Prop := w.heap[B]? = some (.cells cs ty (0, 0))
theorem Blk.cell {w : World} {B : Nat} {cs : Array Value} {ty : TypeId} (h : Blk w B cs ty) (i : Nat) (v : Value) (hv : cs[i]? = some v) : w.cell? ⟨B, i, none⟩ = some v := by rw [cell_of_row w B i _ _ (0, 0) h]; exact hv
theorem Blk.free {w : World} {B : Nat} {cs : Array Value} {ty : TypeId} (h : Blk w B cs ty) (i : Nat) : w.frozen? ⟨B, i, none⟩ = false := frozen_of_row w B i _ _ h
theorem Blk.lt {w : World} {B : Nat} {cs : Array Value} {ty : TypeId} (h : Blk w B cs ty) : B < w.heap.size := by
  rcases Nat.lt_or_ge B w.heap.size with h' | h'
  · exact h'
  · unfold Blk at h; rw [Array.getElem?_eq_none h'] at h; cases h
theorem Blk.of {w w' : World} {B : Nat} {cs : Array Value} {ty : TypeId} (h : Blk w B cs ty) (hb : w'.heap[B]? = w.heap[B]?) : Blk w' B cs ty := hb.trans h
theorem Blk.chg {w w' : World} {B g : Nat} {cs : Array Value} {ty : TypeId} (h : Blk w B cs ty) (hc : Chg g w w') (hg : B ≠ g) : Blk w' B cs ty := h.of (hc.block B h.lt hg)
theorem Blk.below {w w' : World} {B : Nat} {cs : Array Value} {ty : TypeId} (h : Blk w B cs ty) (hb : Below w.heap.size w w') : Blk w' B cs ty := h.of (hb.block B h.lt)
theorem Blk.new (w : World) (cs : Array Value) (ty : TypeId) : Blk (w.alloc (.cells cs ty)) w.heap.size cs ty := heap_alloc_new w _
theorem Blk.past {w : World} {B : Nat} {cs : Array Value} {ty : TypeId} (h : Blk w B cs ty) (o : Obj) : Blk (w.alloc o) B cs ty := h.of (Below.heap_alloc _ _ _ h.lt)
theorem Blk.set {w : World} {B : Nat} {cs : Array Value} {ty : TypeId} (h : Blk w B cs ty) (i : Nat) (v : Value) (hi : i < cs.size) : Blk (w.setCell ⟨B, i, none⟩ v) B (cs.setIfInBounds i v) ty := heap_setCell_same w B i _ _ _ h
theorem Blk.far {w : World} {B : Nat} {cs : Array Value} {ty : TypeId} (h : Blk w B cs ty) (p : Addr) (hp : p.block ≠ B) (v : Value) : Blk (w.setCell p v) B cs ty := h.of (Below.heap_setCell _ _ _ _ (Ne.symm hp))

/-- a reader reads a number -/
def stI (q : List Int × Bool) (low high : Nat) : Nat × (List Int × Bool) := if q.2 then (0, q) else match rI q.1 low high with | some (n, r) => (n, (r, false)) | none => (0, (q.1, true))
def stT (q : List Int × Bool) (most : Nat) : List Int × (List Int × Bool) := if q.2 then ([], q) else match rT q.1 most with | some (t, r) => (t, (r, false)) | none => ([], (q.1, true))
theorem rint_any (g : Nat) (q : List Int × Bool) (w : World) (low high : Nat) (h : Rdr w g q.1 q.2) : Calls Tryz.prog 216 #[.pointer (some ⟨g, 0, none⟩), .int .i64 (low : Int), .int .i64 (high : Int)] w (Got g w (.int .i64 ((stI q low high).1 : Int)) (stI q low high).2.1 (stI q low high).2.2) := by
  obtain ⟨zs, bad⟩ := q
  unfold stI
  cases bad with
  | true => exact rint_bad g zs w true h _ _ (.inl rfl)
  | false =>
    simp only [Bool.false_eq_true, if_false]
    cases hc : cutInt zs with
    | none =>
      have : rI zs low high = none := by unfold rI; rw [hc]
      rw [this]
      exact rint_bad g zs w false h _ _ (.inr (.inl hc))
    | some vr =>
      obtain ⟨v, r⟩ := vr
      by_cases hb : (low : Int) ≤ v ∧ v ≤ (high : Int)
      · have : rI zs low high = some (v.toNat, r) := by unfold rI; rw [hc]; simp only; rw [if_pos hb]
        rw [this]
        simp only
        rw [Int.toNat_of_nonneg (by omega)]
        exact rint_ok g zs w h v r hc _ _ hb.1 hb.2
      · have : rI zs low high = none := by unfold rI; rw [hc]; simp only; rw [if_neg hb]
        rw [this]
        exact rint_bad g zs w false h _ _ (.inr (.inr ⟨v, r, hc, by omega⟩))
theorem rtext_any (g : Nat) (q : List Int × Bool) (w : World) (most : Nat) (h : Rdr w g q.1 q.2) : Calls Tryz.prog 217 #[.pointer (some ⟨g, 0, none⟩), .int .i64 (most : Int)] w (GotT g w (stT q most).1 (stT q most).2.1 (stT q most).2.2) := by
  obtain ⟨zs, bad⟩ := q
  have hbad : ∀ (e : Ending) (w' : World), Got g w (.slice none 0 0) zs true e w' → GotT g w [] zs true e w' := fun e w' h => ⟨none, 0, 0, h.1, Sl.nil w', h.2⟩
  unfold stT
  cases bad with
  | true => exact (rtext_bad g zs w true h _ (.inl rfl)).mono hbad
  | false =>
    simp only [Bool.false_eq_true, if_false]
    cases hc : cutText zs with
    | none =>
      have : rT zs most = none := by unfold rT; rw [hc]
      rw [this]
      exact (rtext_bad g zs w false h _ (.inr (.inl hc))).mono hbad
    | some vr =>
      obtain ⟨t, r⟩ := vr
      by_cases hb : t.length ≤ most
      · have : rT zs most = some (t, r) := by unfold rT; rw [hc]; simp only; rw [if_pos hb]
        rw [this]
        exact rtext_ok g zs w h t r hc _ (by omega)
      · have : rT zs most = none := by unfold rT; rw [hc]; simp only; rw [if_neg hb]
        rw [this]
        exact (rtext_bad g zs w false h _ (.inr (.inr ⟨t, r, hc, by omega⟩))).mono hbad
theorem stI_high (q : List Int × Bool) (low high : Nat) : (stI q low high).1 ≤ high := by
  unfold stI
  split
  · simp
  · split
    · exact (rI_ok (by assumption)).2
    · simp
set_option maxRecDepth 100000 in
theorem readInt_any (g : Nat) (q : List Int × Bool) (w : World) (low high : Nat) (hh : high ≤ 9223372036854775807) (h : Rdr w g q.1 q.2) : Calls Tryz.prog 193 #[.pointer (some ⟨g, 0, none⟩), .int .i64 (low : Int), .int .i64 (high : Int)] w (Got g w (.int .i64 ((stI q low high).1 : Int)) (stI q low high).2.1 (stI q low high).2.2) := by
  have HR := Lib.hid (rint_any g q w low high h)
  have hv := stI_high q low high
  clear h
  obtain ⟨v, hv2⟩ : ∃ v, (stI q low high).1 = v := ⟨_, rfl⟩
  rw [hv2] at HR hv ⊢
  have hv : v ≤ 9223372036854775807 := by omega
  go_enter Tryz.func193, Tryz.ntmps193
  go_wp2_with (go_at_call 216; refine HR.out.mono ?_; rintro e w' ⟨rfl, hc, hr⟩; have HC := Lib.hid hc; have HRR := Lib.hid hr; clear hc hr)
  go_ret
  exact ⟨rfl, HC.out, HRR.out⟩
end Go.Proofs.YtnppomiggajhnaaGreatDoor.Wl

namespace Go.Proofs.YtnppomiggajhnaaGreatDoor.Crc
open Go.RowKit

set_option maxHeartbeats 800000 in
theorem refadd_any (s : BitVec 32) (A : Option Addr) (n cap : Nat) (zs : List Int) (w : World) (h : Rd w A n zs) :
    Calls Tryz.prog 206 #[.int .u32 (uv s), .slice A n cap] w fun e w' => e = .returned (.int .u32 (uv (addS s zs))) ∧ w = w' := by
  obtain ⟨hlen, hm, hby, hcell⟩ := h
  unfold maxLen at hm
  have HL := Lib.hid hlen
  have HB := Lib.hid hby
  have HC := Lib.hid hcell
  clear hlen hby hcell
  have b0 := uv_nonneg s
  have b1 := uv_le s
  have hx := xor_uv_ones s
  go_enter Tryz.func206, Tryz.ntmps206
  go_wp2
  go_loop [5, 6] (fun r i => ∃ k : Nat, k ≤ n ∧ i = .int .i64 k ∧ r = .int .u32 (uv (feed (s ^^^ ones) (zs.take k)))) (fun _ i => n - (intOf i).toNat)
  case atStart => exact ⟨0, by omega, rfl, rfl⟩
  case round =>
    obtain ⟨k, hk, rfl, rfl⟩ := hrel
    clear hx
    by_cases hlt : k < n
    · obtain ⟨b, off, rfl, hc⟩ := HC.out (by omega)
      have hck := hc k hlt
      clear hc
      have hb := HB.out (zs.getD k 0) (by rw [List.getD_eq_getElem?_getD, List.getElem?_eq_getElem (by rw [HL.out]; exact hlt)]; simp)
      have HF := Lib.hid (feed_take (s ^^^ ones) zs k (by rw [HL.out]; exact hlt))
      generalize zs.getD k 0 = c at *
      generalize hr : feed (s ^^^ ones) (zs.take k) = r at *
      clear hr
      have hx := xor_uv_byte r c hb.1 hb.2
      have b2 := uv_nonneg r
      have b3 := uv_le r
      go_wp2
      go_loop [5, 7] (fun r' i => ∃ j : Nat, j ≤ 8 ∧ i = .int .i64 j ∧ r' = .int .u32 (uv (stps j (r ^^^ bv c)))) (fun _ i => 8 - (intOf i).toNat)
      case atStart => exact ⟨0, by omega, rfl, rfl⟩
      case round =>
        obtain ⟨j, hj, rfl, rfl⟩ := hrel
        clear hx
        by_cases hlj : j < 8
        · go_wp2_with (go_at_call 230; refine (refstep_any _ _).mono ?_; rintro e w' ⟨rfl, rfl⟩)
          go_round
          case rel => exact ⟨j + 1, by omega, by go_num, int32 (stps_last j _).symm⟩
          case measure => simp [intOf]; omega
        · obtain rfl : j = 8 := by omega
          go_wp2
          go_round
          case rel => exact ⟨k + 1, by omega, by go_num, int32 HF.out.symm⟩
          case measure => simp [intOf]; omega
    · obtain rfl : n = k := by omega
      have hx := xor_uv_ones (feed (s ^^^ ones) (zs.take n))
      go_wp2
      go_ret
      exact ⟨by rw [← HL.out, List.take_length]; rfl, rfl⟩

theorem refsum_any (A : Option Addr) (n cap : Nat) (zs : List Int) (w : World) (h : Rd w A n zs) :
    Calls Tryz.prog 175 #[.slice A n cap] w fun e w' => e = .returned (.int .u32 (uv (sumS zs))) ∧ w = w' := by
  have H := Lib.hid (refadd_any 0#32 A n cap zs w h)
  clear h
  go_enter Tryz.func175, Tryz.ntmps175
  go_wp2_with fail
  refine H.out.mono ?_
  rintro e w' ⟨rfl, rfl⟩
  go_wp2
  go_ret
  exact ⟨rfl, rfl⟩

/-! ### slices that came in, and what new blocks do to them -/
theorem lt_of_cell {w : World} {a : Addr} {v : Value} (h : w.cell? a = some v) : a.block < w.heap.size := by
  rcases Nat.lt_or_ge a.block w.heap.size with h' | h'
  · exact h'
  · simp [World.cell?, Array.getElem?_eq_none h'] at h
theorem Rd.nil (w : World) : Rd w none 0 [] := ⟨rfl, by unfold maxLen; omega, fun c hc => by simp at hc, fun h => by omega⟩
theorem Rd.below {w w' : World} {A : Option Addr} {n : Nat} {zs : List Int} (h : Rd w A n zs) (hb : Below w.heap.size w w') : Rd w' A n zs := by
  obtain ⟨h1, h2, h3, h4⟩ := h
  refine ⟨h1, h2, h3, fun hn => ?_⟩
  obtain ⟨b, off, rfl, hc⟩ := h4 hn
  exact ⟨b, off, rfl, fun i hi => (hb.cell (p := ⟨b, off + i, none⟩) (lt_of_cell (hc i hi))).trans (hc i hi)⟩
theorem Rd.of_cells {w : World} {x : Addr} {len cap : Nat} {zs : List Int} (hl : len ≤ cap) (hm : cap ≤ maxLen) (hz : zs.length = cap)
    (hcell : ∀ i, i < zs.length → w.cell? (x.add i) = some (.int .u8 (zs.getD i 0))) (hwz : ∀ n ∈ zs, (Lit.int .u8 n).wf = true) : Rd w (some x) len (zs.take len) := by
  refine ⟨by rw [List.length_take]; omega, by omega, fun c hc => ?_, fun hn => ?_⟩
  · have := hwz c (List.mem_of_mem_take hc)
    simp [Lit.wf, IntKind.min, IntKind.max, IntKind.bits, IntKind.signed] at this
    omega
  · obtain ⟨b, off, spot⟩ := x
    have h0 := hcell 0 (by omega)
    have hspot : spot = none := by simpa [Addr.add] using World.cell?_spot h0
    subst hspot
    refine ⟨b, off, rfl, fun i hi => ?_⟩
    have := hcell i (by omega)
    rw [List.getD_eq_getElem?_getD, List.getElem?_take, if_pos hi, ← List.getD_eq_getElem?_getD, ← this]
    congr 1
    unfold Addr.add
    split <;> simp_all
def nine : List Int := [49, 50, 51, 52, 53, 54, 55, 56, 57]
theorem nine_sum : uv (sumS nine) = 3808858755 := by decide +kernel
def nineBlk : Obj := .cells #[.int .u8 49, .int .u8 50, .int .u8 51, .int .u8 52, .int .u8 53, .int .u8 54, .int .u8 55, .int .u8 56, .int .u8 57] 5 (9, 10)
theorem Rd.nine (w : World) : Rd (w.alloc nineBlk) (some ⟨w.heap.size, 0, none⟩) 9 nine := by
  refine ⟨rfl, by unfold maxLen; omega, by intro c hc; simp [Crc.nine] at hc; omega, fun _ => ⟨_, _, rfl, fun i hi => ?_⟩⟩
  unfold nineBlk
  rw [World.cell?_alloc_mark, Nat.zero_add]
  rcases (show i = 0 ∨ i = 1 ∨ i = 2 ∨ i = 3 ∨ i = 4 ∨ i = 5 ∨ i = 6 ∨ i = 7 ∨ i = 8 from by omega) with rfl | rfl | rfl | rfl | rfl | rfl | rfl | rfl | rfl <;> rfl


theorem one_sum : (uv (addS 0#32 [1]) != 0) = true := by decide +kernel
def oneBlk : Obj := .cells #[.int .u8 1] 5
theorem Rd.one (w : World) : Rd (w.alloc oneBlk) (some ⟨w.heap.size, 0, none⟩) 1 [1] := by
  refine ⟨rfl, by unfold maxLen; omega, by intro c hc; simp at hc; omega, fun _ => ⟨_, _, rfl, fun i hi => ?_⟩⟩
  unfold oneBlk
  rw [World.cell?_alloc_mark, Nat.zero_add]
  obtain rfl : i = 0 := by omega
  rfl


theorem u32_of_wf {n : Int} (h : (Lit.int .u32 n).wf = true) : ∃ x : BitVec 32, n = uv x := by
  simp [Lit.wf, IntKind.min, IntKind.max, IntKind.bits, IntKind.signed] at h
  exact ⟨bv n, (uv_bv n (by omega) (by omega)).symm⟩
theorem i64_of_wf {n : Int} (h : (Lit.int .i64 n).wf = true) : -9223372036854775808 ≤ n ∧ n ≤ 9223372036854775807 := by
  simp [Lit.wf, IntKind.min, IntKind.max, IntKind.bits, IntKind.signed] at h
  omega
end Go.Proofs.YtnppomiggajhnaaGreatDoor.Crc

namespace Go.Proofs.YtnppomiggajhnaaGreatDoor.Rc
open Go.RowKit
open Fld (Bytes val Rd Sl Own wpList_append_rd)

def Made (w : World) (zs : List Int) (e : Ending) (w' : World) : Prop := ∃ v, e = .returned v ∧ Own w w' v zs
theorem rd_crc {w : World} {A : Option Addr} {n : Nat} {zs : List Int} (h : Rd w A n zs) : Crc.Rd w A n zs := h
theorem own_four (w : World) (a b c d : Int) (ha : 0 ≤ a ∧ a ≤ 255) (hb : 0 ≤ b ∧ b ≤ 255) (hc : 0 ≤ c ∧ c ≤ 255) (hd : 0 ≤ d ∧ d ≤ 255) :
    Own w (w.alloc (.cells #[.int .u8 a, .int .u8 b, .int .u8 c, .int .u8 d] 5)) (.slice (some ⟨w.heap.size, 0, none⟩) 4 4) [a, b, c, d] :=
  ⟨(Below.refl _ _).alloc (Nat.le_refl _) _, Fld.bytes_cons ha.1 ha.2 (Fld.bytes_cons hb.1 hb.2 (Fld.bytes_cons hc.1 hc.2 (Fld.bytes_cons hd.1 hd.2 Fld.bytes_nil))), rfl, .inr ⟨w.heap.size, 4, _, rfl, Nat.le_refl _, heap_alloc_new w _, Nat.le_refl _, by unfold maxLen; omega, rfl, rfl⟩⟩

theorem four_ints (n : Nat) (hn : n < 4294967296) : four n = [(n : Int) / 16777216, (n : Int) / 65536 % 256, (n : Int) / 256 % 256, (n : Int) % 256] := by
  unfold four
  simp only [List.cons.injEq, and_true]
  refine ⟨by omega, by omega, by omega, by omega⟩
set_option maxHeartbeats 400000 in
theorem encode_any (n : Nat) (hn : n < 4294967296) (w : World) : Calls Tryz.prog 177 #[.int .u32 (n : Int)] w (Made w (four n)) := by
  have h0 : (0 : Int) ≤ (n : Int) := by omega
  have h1 : (n : Int) ≤ 4294967295 := by omega
  go_enter Tryz.func177, Tryz.ntmps177
  go_wp2
  go_ret
  exact ⟨_, rfl, by rw [four_ints n hn]; exact own_four w _ _ _ _ (by omega) (by omega) (by omega) (by omega)⟩
set_option maxHeartbeats 400000 in
theorem four_any (n : Nat) (hn : n < 4294967296) (w : World) : Calls Tryz.prog 174 #[.int .u32 (n : Int)] w (Made w (four n)) := by
  have h0 : (0 : Int) ≤ (n : Int) := by omega
  have h1 : (n : Int) ≤ 4294967295 := by omega
  go_enter Tryz.func174, Tryz.ntmps174
  go_wp2
  go_ret
  exact ⟨_, rfl, by rw [four_ints n hn]; exact own_four w _ _ _ _ (by omega) (by omega) (by omega) (by omega)⟩

theorem or_step (a c : Nat) (ha : a < 16777216) (hc : c < 256) : bits .or .u32 ((a : Int) * 256) (c : Int) = ((a * 256 + c : Nat) : Int) := by
  have e : (a : Int) * 256 = ((a * 256 : Nat) : Int) := by omega
  rw [e, u32_or_nat _ _ (by omega) (by omega)]
  congr 1
  rw [show a * 256 = a <<< 8 by rw [Nat.shiftLeft_eq]]
  exact (Nat.shiftLeft_add_eq_or_of_lt (by omega : c < 2 ^ 8) a).symm
set_option maxHeartbeats 400000 in
theorem decode_any (A : Option Addr) (cap : Nat) (zs : List Int) (w : World) (h : Rd w A 4 zs) :
    Calls Tryz.prog 215 #[.slice A 4 cap] w fun e w' => e = .returned (.int .u32 ((val zs : Nat) : Int)) ∧ w = w' := by
  obtain ⟨hlen, hm, hby, hcell⟩ := h
  clear hm
  have HL := Lib.hid hlen
  have HB := Lib.hid hby
  have HC := Lib.hid hcell
  clear hlen hby hcell
  go_enter Tryz.func215, Tryz.ntmps215
  go_wp2
  go_loop [3, 8] (fun r i => ∃ k : Nat, k ≤ 4 ∧ i = .int .i64 k ∧ r = .int .u32 ((val (zs.take k) : Nat) : Int)) (fun _ i => 4 - (intOf i).toNat)
  case atStart => exact ⟨0, by omega, rfl, rfl⟩
  case round =>
    obtain ⟨k, hk, rfl, rfl⟩ := hrel
    by_cases hlt : k < 4
    · obtain ⟨b, off, rfl, hc⟩ := HC.out (by omega)
      have hck := hc k hlt
      clear hc
      have hb := Fld.getD_byte HB.out k (by rw [HL.out]; exact hlt)
      have hv := Fld.val_lt k (zs.take k) (by rw [List.length_take, HL.out]; omega) (Fld.bytes_take HB.out k)
      have hv2 : val (zs.take k) < 16777216 := by
        have : (256 : Nat) ^ k ≤ 256 ^ 3 := Nat.pow_le_pow_right (by omega) (by omega)
        have e : (256 : Nat) ^ 3 = 16777216 := by decide
        omega
      have HF := Lib.hid (show val (zs.take (k + 1)) = val (zs.take k) * 256 + (zs.getD k 0).toNat by
        rw [List.take_succ_eq_append_getElem (by rw [HL.out]; exact hlt), Fld.val_snoc, List.getD_eq_getElem?_getD, List.getElem?_eq_getElem (by rw [HL.out]; exact hlt)]
        rfl)
      clear hv
      generalize val (zs.take k) = a at *
      generalize zs.getD k 0 = c at *
      obtain ⟨c', rfl⟩ : ∃ c' : Nat, c = (c' : Int) := ⟨c.toNat, by omega⟩
      have HO := Lib.hid (or_step a c' hv2 (by omega))
      go_wp2
      go_round
      case rel => exact ⟨k + 1, by omega, by go_num, by rw [HF.out, Int.toNat_natCast, ← HO.out]⟩
      case measure => simp [intOf]; omega
    · obtain rfl : k = 4 := by omega
      go_wp2
      go_ret
      exact ⟨by rw [← HL.out, List.take_length]; rfl, rfl⟩

set_option maxHeartbeats 400000 in
theorem checksum_any (A B : Option Addr) (m n c d : Nat) (xs ys : List Int) (w : World) (hx : Rd w A m xs) (hy : Rd w B n ys) :
    Calls Tryz.prog 178 #[.slice A m c, .slice B n d] w fun e w' => e = .returned (.int .u32 (((Crc.sumS (xs ++ ys)).toNat : Nat) : Int)) ∧ w = w' := by
  have HX := Lib.hid (Crc.sum_any A m c xs w (rd_crc hx))
  have HY := Lib.hid (Crc.add_any (Crc.sumS xs) B n d ys w (rd_crc hy))
  clear hx hy
  go_enter Tryz.func178, Tryz.ntmps178
  go_wp2_with fail
  refine HX.out.mono ?_
  rintro e w' ⟨rfl, rfl⟩
  go_wp2_with fail
  refine HY.out.mono ?_
  rintro e w' ⟨rfl, rfl⟩
  go_wp2
  go_ret
  exact ⟨by rw [Crc.sumS_append]; rfl, rfl⟩

/-- make([]byte, 0, n) -/
theorem wpList_make_cap {w : World} {ops : Array Oper} {rest : List Oper} {o : Oper} {a : Act} {Q : Exit → Act → World → Prop} (hg : o.guard = none) (l c : Operand) (hop : o.op = Op.makeSlice 61 l c)
    (w0 : World) (hb : Below w0.heap.size w0 w) (L : Int) (n : Nat) (hl : a.eval l = .int .i64 0) (hc : a.eval c = .int .i64 L) (hL : L = (n : Int)) (hn : n ≤ 100000)
    (hK : ∀ w', Own w0 w' (.slice (some ⟨w.heap.size, 0, none⟩) 0 n) [] → Below w.heap.size w w' → wpList Tryz.prog ops Q rest (a.put o.dst (.slice (some ⟨w.heap.size, 0, none⟩) 0 n)) w') : wpList Tryz.prog ops Q (o :: rest) a w := by
  obtain ⟨i, hi, hz, hsz, hby⟩ := Fld.byte_info
  subst hL
  refine wpList_plain hg fun K hK' => ?_
  obtain ⟨w', hrun, hrow, hgr⟩ := run_make_own (P := Tryz.prog) w w0.heap.size 61 5 i _ 1 Tryz.underlying61 hi hz hsz .i64 .i64 n (by rw [hby]; omega) (by unfold maxLen; omega) hb.size
  unfold Oper.wp
  simp [execOp, hop, hl, hc, hrun, Result.andThen]
  refine hK' _ _ (hK w' ⟨hb.grown hgr hb.size (fun k h => by cases h), Fld.bytes_nil, hrow⟩ ((Below.refl _ _).grown hgr (Nat.le_refl _) (fun k h => by cases h)))

/-- the record that was put, of the call's own -/
def Put2 (w : World) (zs : List Int) (e : Ending) (w' : World) : Prop := ∃ v, e = .returned (.tuple #[v, .int .i64 0]) ∧ Own w w' v zs
theorem recd_own (t : List Int) (n : Nat) (hn : t.length = n) : four n ++ (four (sumN t) ++ t) = recd t := by rw [recd, hn]
set_option maxHeartbeats 800000 in
theorem put_ok (A : Option Addr) (n cap : Nat) (t : List Int) (w : World) (hr : Rd w A n t) (hA : A = none → cap = 0) (hn : n ≤ 65536) :
    Calls Tryz.prog 153 #[.slice A n cap] w (Put2 w (recd t)) := by
  have HR := Lib.hid hr
  have HA := Lib.hid hA
  have HT := Lib.hid hr.1
  have HRO := Lib.hid (recd_own t n hr.1)
  have HSN := Lib.hid (show (Crc.sumS (four n ++ t)).toNat = sumN t by rw [sumN, hr.1])
  clear hr hA
  have hni : (n : Int) ≤ 65536 := by omega
  have HE := fun W => Lib.hid (encode_any n (by omega) W)
  have HE2 := fun W => Lib.hid (encode_any (sumN t) (sumN_lt t) W)
  go_enter Tryz.func153, Tryz.ntmps153
  go_wp2_with fail
  refine (HE _).out.mono ?_
  rintro e w1 ⟨v1, rfl, hO1⟩
  obtain ⟨A1, c1, hv, hs1, _⟩ := hO1.sl 4 rfl
  subst hv
  have HS1 := Lib.hid hs1
  have HB1 := Lib.hid hO1.1
  have HR1 := Lib.hid (HR.out.below hO1.1)
  clear hs1 hO1 HE HR
  go_wp2_with (refine wpList_make_cap rfl _ _ rfl w1 (Below.refl _ _) (8 + (n : Int)) (8 + n) rfl rfl (by omega) (by omega) ?_)
  intro w2 hO2 _
  have HS2 := Lib.hid (HS1.out.below hO2.1)
  have HO2 := Lib.hid hO2
  clear hO2
  generalize w1.heap.size = g2 at *
  go_wp2_with (refine wpList_append_rd rfl _ _ rfl w1 (.slice (some ⟨g2, 0, none⟩) 0 (8 + n)) [] rfl HO2.out A1 4 c1 (four n) rfl HS2.out.2.2.2.1 HS2.out.1 (by simp) ?_)
  intro v3 w3 hO3 _ _
  try rw [List.nil_append] at hO3
  have HO3 := Lib.hid hO3
  have HS3 := Lib.hid (HS1.out.below hO3.1)
  have HR3 := Lib.hid (HR1.out.below hO3.1)
  clear hO3 HO2 HS2
  go_wp2_with fail
  refine (checksum_any A1 A 4 n c1 cap (four n) t _ HS3.out.1 HR3.out).mono ?_
  rintro e w3' ⟨rfl, rfl⟩
  rw [HSN.out]
  go_wp2_with fail
  refine (HE2 _).out.mono ?_
  rintro e w4 ⟨v4, rfl, hO4⟩
  obtain ⟨A4, c4, hv, hs4, _⟩ := hO4.sl 4 rfl
  subst hv
  have HS4 := Lib.hid hs4
  have HO4 := Lib.hid (HO3.out.below hO4.1)
  clear hs4 hO4
  go_wp2_with (refine wpList_append_rd rfl _ _ rfl w1 v3 (four n) rfl HO4.out A4 4 c4 (four (sumN t)) rfl HS4.out.2.2.2.1 HS4.out.1 (by simp [four]) ?_)
  intro v5 w5 hO5 _ _
  have HO5 := Lib.hid hO5
  have HR5 := Lib.hid (HR1.out.below hO5.1)
  clear hO5
  go_wp2_with (refine wpList_append_rd rfl _ _ rfl w1 v5 (four n ++ four (sumN t)) rfl HO5.out A n cap t rfl HA.out HR5.out (by simp [four]; omega) ?_)
  intro v6 w6 hO6 _ _
  rw [HRO.out] at hO6
  have HO6 := Lib.hid (hO6.since HB1.out)
  clear hO6
  go_wp2
  go_ret2
  exact ⟨_, rfl, HO6.out⟩
set_option maxHeartbeats 800000 in
theorem put_big (A : Option Addr) (n cap : Nat) (w : World) (hn : 65536 < n) (hm : n ≤ maxLen) :
    Calls Tryz.prog 153 #[.slice A n cap] w fun e w' => e = .returned (.tuple #[.slice none 0 0, .int .i64 3]) ∧ w = w' := by
  unfold maxLen at hm
  have hni : (65536 : Int) < (n : Int) := by omega
  go_enter Tryz.func153, Tryz.ntmps153
  go_wp2
  go_ret2
  exact ⟨rfl, rfl⟩
set_option maxHeartbeats 800000 in
theorem refput_big (A : Option Addr) (n cap : Nat) (w : World) (hn : 65536 < n) (hm : n ≤ maxLen) :
    Calls Tryz.prog 146 #[.slice A n cap] w fun e w' => e = .returned (.tuple #[.slice none 0 0, .int .i64 3]) ∧ w = w' := by
  unfold maxLen at hm
  have hni : (65536 : Int) < (n : Int) := by omega
  go_enter Tryz.func146, Tryz.ntmps146
  go_wp2
  go_ret2
  exact ⟨rfl, rfl⟩
theorem uv_nat (s : BitVec 32) : Crc.uv s = ((s.toNat : Nat) : Int) := rfl
set_option maxHeartbeats 800000 in
theorem refput_ok (A : Option Addr) (n cap : Nat) (t : List Int) (w : World) (hr : Rd w A n t) (hA : A = none → cap = 0) (hn : n ≤ 65536) :
    Calls Tryz.prog 146 #[.slice A n cap] w (Put2 w (recd t)) := by
  have HR := Lib.hid hr
  have HA := Lib.hid hA
  have HT := Lib.hid hr.1
  have HRO := Lib.hid (recd_own t n hr.1)
  have HSN := Lib.hid (show Crc.uv (Crc.sumS (four n ++ t)) = ((sumN t : Nat) : Int) by rw [sumN, hr.1]; rfl)
  clear hr hA
  have hni : (n : Int) ≤ 65536 := by omega
  have HE := fun W => Lib.hid (four_any n (by omega) W)
  have HE2 := fun W => Lib.hid (four_any (sumN t) (sumN_lt t) W)
  go_enter Tryz.func146, Tryz.ntmps146
  go_wp2_with fail
  refine (HE _).out.mono ?_
  rintro e w1 ⟨v1, rfl, hO1⟩
  obtain ⟨A1, c1, hv, hs1, _⟩ := hO1.sl 4 rfl
  subst hv
  have HS1 := Lib.hid hs1
  have HB1 := Lib.hid hO1.1
  have HR1 := Lib.hid (HR.out.below hO1.1)
  clear hs1 hO1 HE HR
  have HO2 := Lib.hid (Own.made w1 w1 (Below.refl _ _))
  have HS2 := Lib.hid (HS1.out.below HO2.out.1)
  unfold Fld.noneBlk at HO2 HS2
  go_wp2_with (first | (refine wpList_append_rd rfl _ _ rfl w1 (.slice (some ⟨w1.heap.size, 0, none⟩) 0 0) [] rfl HO2.out A1 4 c1 (four n) rfl HS2.out.2.2.2.1 HS2.out.1 (by simp) ?_))
  intro v3 w3 hO3 _ _
  try rw [List.nil_append] at hO3
  have HO3 := Lib.hid hO3
  have HS3 := Lib.hid (HS1.out.below hO3.1)
  have HR3 := Lib.hid (HR1.out.below hO3.1)
  clear hO3 HO2 HS2
  go_wp2_with (refine wpList_append_rd rfl _ _ rfl w1 v3 (four n) rfl HO3.out A n cap t rfl HA.out HR3.out (by simp [four]; omega) ?_)
  intro v4 w4 hO4 _ _
  obtain ⟨A4, c4, hv, hs4, _⟩ := hO4.sl (4 + n) (by rw [List.length_append, four_len, HT.out])
  subst hv
  have HS4 := Lib.hid hs4
  have HB4 := Lib.hid hO4.1
  clear hs4 hO4
  go_wp2_with fail
  refine (Crc.refsum_any A4 (4 + n) c4 (four n ++ t) _ (rd_crc HS4.out.1)).mono ?_
  rintro e w4' ⟨rfl, rfl⟩
  rw [HSN.out]
  have HO5 := Lib.hid (Own.made w1 w4 HB4.out)
  have HS5 := Lib.hid (HS1.out.below HO5.out.1)
  unfold Fld.noneBlk at HO5 HS5
  go_wp2_with (refine wpList_append_rd rfl _ _ rfl w1 (.slice (some ⟨w4.heap.size, 0, none⟩) 0 0) [] rfl HO5.out A1 4 c1 (four n) rfl HS5.out.2.2.2.1 HS5.out.1 (by simp) ?_)
  intro v6 w6 hO6 _ _
  try rw [List.nil_append] at hO6
  have HO6 := Lib.hid hO6
  clear hO6 HO5 HS5
  go_wp2_with fail
  refine (HE2 _).out.mono ?_
  rintro e w7 ⟨v7, rfl, hO7⟩
  obtain ⟨A7, c7, hv, hs7, _⟩ := hO7.sl 4 rfl
  subst hv
  have HS7 := Lib.hid hs7
  have HO7 := Lib.hid (HO6.out.below hO7.1)
  clear hs7 hO7
  go_wp2_with (refine wpList_append_rd rfl _ _ rfl w1 v6 (four n) rfl HO7.out A7 4 c7 (four (sumN t)) rfl HS7.out.2.2.2.1 HS7.out.1 (by simp [four]) ?_)
  intro v8 w8 hO8 _ _
  have HO8 := Lib.hid hO8
  have HR8 := Lib.hid (HR1.out.below hO8.1)
  clear hO8
  go_wp2_with (refine wpList_append_rd rfl _ _ rfl w1 v8 (four n ++ four (sumN t)) rfl HO8.out A n cap t rfl HA.out HR8.out (by simp [four]; omega) ?_)
  intro v9 w9 hO9 _ _
  rw [HRO.out] at hO9
  have HO9 := Lib.hid (hO9.since HB1.out)
  clear hO9
  go_wp2
  go_ret2
  exact ⟨_, rfl, HO9.out⟩

end Go.Proofs.YtnppomiggajhnaaGreatDoor.Rc

namespace Go.Proofs.YtnppomiggajhnaaGreatDoor.Fld
open Go.RowKit

/-- block h holds the document's reader: its bytes, how many it has read, whether something was amiss -/
def Three (w : World) (h : Nat) (A : Option Addr) (n cap k : Nat) (bad : Bool) : Prop := w.heap[h]? = some (.cells #[.slice A n cap, .int .i64 (k : Int), .bool bad] 192 (0, 0))
theorem Three.cells {w : World} {h : Nat} {A : Option Addr} {n cap k : Nat} {bad : Bool} (t : Three w h A n cap k bad) :
    w.cell? ⟨h, 0, none⟩ = some (.slice A n cap) ∧ w.cell? ⟨h, 1, none⟩ = some (.int .i64 (k : Int)) ∧ w.cell? ⟨h, 2, none⟩ = some (.bool bad) ∧ w.frozen? ⟨h, 1, none⟩ = false ∧ w.frozen? ⟨h, 2, none⟩ = false :=
  ⟨by rw [cell_of_row w h 0 _ _ (0, 0) t]; rfl, by rw [cell_of_row w h 1 _ _ (0, 0) t]; rfl, by rw [cell_of_row w h 2 _ _ (0, 0) t]; rfl, frozen_of_row w h 1 _ _ t, frozen_of_row w h 2 _ _ t⟩
def NextIs (w : World) (v : Int) (neg : Bool) (k : Int) (e : Ending) (w' : World) : Prop := e = .returned (.tuple #[.int .u64 v, .bool neg, .int .i64 k]) ∧ Still w w'

set_option maxRecDepth 100000 in
set_option maxHeartbeats 1600000 in
theorem next_bad (h : Nat) (A : Option Addr) (n cap k : Nat) (w : World) (t : Three w h A n cap k true) : Calls Tryz.prog 205 #[.pointer (some ⟨h, 0, none⟩)] w (NextIs w 0 false 0) := by
  obtain ⟨t0, t1, t2, _, _⟩ := t.cells
  clear t
  go_enter Tryz.func205, Tryz.ntmps205
  go_wp2_with fail
  go_quiet (fail)
  go_wp2
  go_ret3
  exact ⟨rfl, Still.drewN (Still.refl _) _⟩
set_option maxRecDepth 100000 in
set_option maxHeartbeats 1600000 in
theorem next_end (h : Nat) (A : Option Addr) (n cap k : Nat) (w : World) (t : Three w h A n cap k false) (hk : n ≤ k) : Calls Tryz.prog 205 #[.pointer (some ⟨h, 0, none⟩)] w (NextIs w 0 false 0) := by
  obtain ⟨t0, t1, t2, _, _⟩ := t.cells
  clear t
  have d1 : (n : Int) ≤ (k : Int) := by omega
  go_enter Tryz.func205, Tryz.ntmps205
  go_wp2_with fail
  go_quiet (fail)
  go_wp2
  go_ret3
  exact ⟨rfl, Still.drewN (Still.refl _) _⟩




set_option maxRecDepth 100000 in
set_option maxHeartbeats 1600000 in
theorem next_pos_big (h b off n cap p c : Nat) (w : World) (t : Three w h (some ⟨b, off, none⟩) n cap p false) (hp : p < n) (c0 : w.cell? ⟨b, off + p, none⟩ = some (.int .u8 (c : Int))) (hc : c < 16) (h8 : 8 < c) :
    Calls Tryz.prog 205 #[.pointer (some ⟨h, 0, none⟩)] w (NextIs w 0 false 0) := by
  obtain ⟨t0, t1, t2, _, _⟩ := t.cells
  clear t
  have hwc : IntKind.i64.wrap (c : Int) = (c : Int) := IntWalk.i64_in _ (by omega)
  have d2 : decide ((16 : Int) ≤ (c : Int)) = false := by simp; omega
  have d1 : decide (n ≤ p) = false := by simp; omega
  have i1 : (p : Int) < (n : Int) := by omega
  have i0 : (0 : Int) ≤ (p : Int) := by omega
  have d3 : (8 : Int) < (c : Int) := by omega
  go_enter Tryz.func205, Tryz.ntmps205
  go_wp2_with fail
  go_quiet (fail)
  go_wp2_with fail
  go_quiet (fail)
  go_wp2_with fail
  go_quiet (fail)
  go_wp2
  go_ret3
  exact ⟨rfl, Still.drewN (Still.refl _) _⟩

set_option maxRecDepth 100000 in
set_option maxHeartbeats 1600000 in
theorem next_pos_short (h b off n cap p c : Nat) (w : World) (t : Three w h (some ⟨b, off, none⟩) n cap p false) (hp : p < n) (hm : n ≤ 140737488351232) (c0 : w.cell? ⟨b, off + p, none⟩ = some (.int .u8 (c : Int))) (hc : c < 16) (h8 : c ≤ 8) (hs : n < p + 1 + c) :
    Calls Tryz.prog 205 #[.pointer (some ⟨h, 0, none⟩)] w (NextIs w 0 false 0) := by
  obtain ⟨t0, t1, t2, _, _⟩ := t.cells
  clear t
  have hwc : IntKind.i64.wrap (c : Int) = (c : Int) := IntWalk.i64_in _ (by omega)
  have d2 : decide ((16 : Int) ≤ (c : Int)) = false := by simp; omega
  have d1 : decide (n ≤ p) = false := by simp; omega
  have i1 : (p : Int) < (n : Int) := by omega
  have i0 : (0 : Int) ≤ (p : Int) := by omega
  have d3 : decide ((8 : Int) < (c : Int)) = false := by simp; omega
  have d4 : (n : Int) < (p : Int) + 1 + (c : Int) := by omega
  have w1 : IntKind.i64.wrap ((p : Int) + 1) = (p : Int) + 1 := IntWalk.i64_in _ (by omega)
  have w2 : IntKind.i64.wrap ((p : Int) + 1 + (c : Int)) = (p : Int) + 1 + (c : Int) := IntWalk.i64_in _ (by omega)
  go_enter Tryz.func205, Tryz.ntmps205
  go_wp2_with fail
  go_quiet (fail)
  go_wp2_with fail
  go_quiet (fail)
  go_wp2_with fail
  go_quiet (fail)
  go_wp2
  go_ret3
  exact ⟨rfl, Still.drewN (Still.refl _) _⟩

set_option maxRecDepth 100000 in
set_option maxHeartbeats 1600000 in
theorem next_neg_big (h b off n cap p c : Nat) (w : World) (t : Three w h (some ⟨b, off, none⟩) n cap p false) (hp : p < n) (c0 : w.cell? ⟨b, off + p, none⟩ = some (.int .u8 ((c : Int) + 16))) (hc : c ≤ 239) (h8 : 8 < c) :
    Calls Tryz.prog 205 #[.pointer (some ⟨h, 0, none⟩)] w (NextIs w 0 false 0) := by
  obtain ⟨t0, t1, t2, _, _⟩ := t.cells
  clear t
  have hwc : IntKind.i64.wrap ((c : Int) + 16) = (c : Int) + 16 := IntWalk.i64_in _ (by omega)
  have d2 : (16 : Int) ≤ (c : Int) + 16 := by omega
  have d1 : decide (n ≤ p) = false := by simp; omega
  have i1 : (p : Int) < (n : Int) := by omega
  have i0 : (0 : Int) ≤ (p : Int) := by omega
  have d3 : (8 : Int) < (c : Int) := by omega
  go_enter Tryz.func205, Tryz.ntmps205
  go_wp2_with fail
  go_quiet (fail)
  go_wp2_with fail
  go_quiet (fail)
  go_wp2_with fail
  go_quiet (fail)
  go_wp2
  go_ret3
  exact ⟨rfl, Still.drewN (Still.refl _) _⟩

set_option maxRecDepth 100000 in
set_option maxHeartbeats 1600000 in
theorem next_neg_short (h b off n cap p c : Nat) (w : World) (t : Three w h (some ⟨b, off, none⟩) n cap p false) (hp : p < n) (hm : n ≤ 140737488351232) (c0 : w.cell? ⟨b, off + p, none⟩ = some (.int .u8 ((c : Int) + 16))) (hc : c ≤ 239) (h8 : c ≤ 8) (hs : n < p + 1 + c) :
    Calls Tryz.prog 205 #[.pointer (some ⟨h, 0, none⟩)] w (NextIs w 0 false 0) := by
  obtain ⟨t0, t1, t2, _, _⟩ := t.cells
  clear t
  have hwc : IntKind.i64.wrap ((c : Int) + 16) = (c : Int) + 16 := IntWalk.i64_in _ (by omega)
  have d2 : (16 : Int) ≤ (c : Int) + 16 := by omega
  have d1 : decide (n ≤ p) = false := by simp; omega
  have i1 : (p : Int) < (n : Int) := by omega
  have i0 : (0 : Int) ≤ (p : Int) := by omega
  have d3 : decide ((8 : Int) < (c : Int)) = false := by simp; omega
  have d4 : (n : Int) < (p : Int) + 1 + (c : Int) := by omega
  have w1 : IntKind.i64.wrap ((p : Int) + 1) = (p : Int) + 1 := IntWalk.i64_in _ (by omega)
  have w2 : IntKind.i64.wrap ((p : Int) + 1 + (c : Int)) = (p : Int) + 1 + (c : Int) := IntWalk.i64_in _ (by omega)
  go_enter Tryz.func205, Tryz.ntmps205
  go_wp2_with fail
  go_quiet (fail)
  go_wp2_with fail
  go_quiet (fail)
  go_wp2_with fail
  go_quiet (fail)
  go_wp2
  go_ret3
  exact ⟨rfl, Still.drewN (Still.refl _) _⟩

set_option maxRecDepth 100000 in
set_option maxHeartbeats 1600000 in
theorem next_neg_zero (h b off n cap p c : Nat) (w : World) (t : Three w h (some ⟨b, off, none⟩) n cap p false) (hp : p < n) (hm : n ≤ 140737488351232) (c0 : w.cell? ⟨b, off + p, none⟩ = some (.int .u8 ((c : Int) + 16))) (hc : c = 0) :
    Calls Tryz.prog 205 #[.pointer (some ⟨h, 0, none⟩)] w (NextIs w 0 false 0) := by
  obtain ⟨t0, t1, t2, _, _⟩ := t.cells
  clear t
  have hwc : IntKind.i64.wrap ((c : Int) + 16) = (c : Int) + 16 := IntWalk.i64_in _ (by omega)
  have d2 : (16 : Int) ≤ (c : Int) + 16 := by omega
  have d1 : decide (n ≤ p) = false := by simp; omega
  have i1 : (p : Int) < (n : Int) := by omega
  have i0 : (0 : Int) ≤ (p : Int) := by omega
  subst hc
  have d3 : decide ((8 : Int) < 0) = false := by decide
  have d4 : decide ((n : Int) < (p : Int) + 1) = false := by simp; omega
  have w1 : IntKind.i64.wrap ((p : Int) + 1) = (p : Int) + 1 := IntWalk.i64_in _ (by omega)
  go_enter Tryz.func205, Tryz.ntmps205
  go_wp2_with fail
  go_quiet (fail)
  go_wp2_with fail
  go_quiet (fail)
  go_wp2_with fail
  go_quiet (fail)
  go_wp2
  go_ret3
  exact ⟨rfl, Still.drewN (Still.refl _) _⟩
end Go.Proofs.YtnppomiggajhnaaGreatDoor.Fld

namespace Go.Proofs.YtnppomiggajhnaaGreatDoor.Fld
open Go.RowKit
theorem mul_wrap (v : Nat) (h : v < 72057594037927936) : IntKind.u64.wrap ((v : Int) * 256) = (v : Int) * 256 := by
  rw [IntKind.wrap_u64]; omega
theorem sum_wrap (v : Nat) (c : Int) (h : v < 72057594037927936) (h0 : 0 ≤ c) (h1 : c ≤ 255) : IntKind.u64.wrap ((v : Int) * 256 + c) = (v : Int) * 256 + c := by
  rw [IntKind.wrap_u64]; omega

set_option maxRecDepth 100000 in
set_option maxHeartbeats 1600000 in
theorem next_pos_lead (h b off n cap p c : Nat) (w : World) (t : Three w h (some ⟨b, off, none⟩) n cap p false) (hp : p < n) (hm : n ≤ 140737488351232) (c0 : w.cell? ⟨b, off + p, none⟩ = some (.int .u8 (c : Int))) (h8 : c ≤ 8) (hl : p + 1 + c ≤ n) (hcp : 0 < c) (c1 : w.cell? ⟨b, off + (p + 1), none⟩ = some (.int .u8 0)) :
    Calls Tryz.prog 205 #[.pointer (some ⟨h, 0, none⟩)] w (NextIs w 0 false 0) := by
  obtain ⟨t0, t1, t2, _, _⟩ := t.cells
  clear t
  have hwc : IntKind.i64.wrap (c : Int) = (c : Int) := IntWalk.i64_in _ (by omega)
  have d2 : decide ((16 : Int) ≤ (c : Int)) = false := by simp; omega
  have d1 : decide (n ≤ p) = false := by simp; omega
  have i1 : (p : Int) < (n : Int) := by omega
  have i0 : (0 : Int) ≤ (p : Int) := by omega
  have d3 : decide ((8 : Int) < (c : Int)) = false := by simp; omega
  have d4 : decide ((n : Int) < (p : Int) + 1 + (c : Int)) = false := by simp; omega
  have w1 : IntKind.i64.wrap ((p : Int) + 1) = (p : Int) + 1 := IntWalk.i64_in _ (by omega)
  have w2 : IntKind.i64.wrap ((p : Int) + 1 + (c : Int)) = (p : Int) + 1 + (c : Int) := IntWalk.i64_in _ (by omega)
  have d5 : ((c : Int) == 0) = false := by simp; omega
  have d6 : (0 : Int) < (c : Int) := by omega
  have i2 : (p : Int) + 1 < (n : Int) := by omega
  have i3 : (0 : Int) ≤ (p : Int) + 1 := by omega
  have i4 : ((p : Int) + 1).toNat = p + 1 := by omega
  go_enter Tryz.func205, Tryz.ntmps205
  go_wp2_with fail
  go_quiet (fail)
  go_wp2_with fail
  go_quiet (fail)
  go_wp2_with fail
  go_quiet (fail)
  go_wp2
  go_ret3
  exact ⟨rfl, Still.drewN (Still.refl _) _⟩

/-- the round of next -/
def NR (w : World) (r : List Int) (c : Nat) (v i : Value) (wr : World) : Prop := ∃ j : Nat, j ≤ c ∧ i = .int .i64 (j : Int) ∧ v = .int .u64 ((val (r.take j) : Nat) : Int) ∧ Still w wr

set_option maxRecDepth 100000 in
set_option maxHeartbeats 1600000 in
theorem next_pos_zero (h b off n cap p c : Nat) (r : List Int) (w : World) (t : Three w h (some ⟨b, off, none⟩) n cap p false) (hp : p < n) (hm : n ≤ 140737488351232) (c0 : w.cell? ⟨b, off + p, none⟩ = some (.int .u8 (c : Int))) (h8 : c ≤ 8) (hl : p + 1 + c ≤ n) (hlr : r.length = n - (p + 1)) (hby : Bytes r) (hcs : ∀ j, j < c → w.cell? ⟨b, off + (p + 1 + j), none⟩ = some (.int .u8 (r.getD j 0))) (hz : c = 0) :
    Calls Tryz.prog 205 #[.pointer (some ⟨h, 0, none⟩)] w (NextIs w (val (r.take c) : Nat) false ((c : Int) + 1)) := by
  obtain ⟨t0, t1, t2, _, _⟩ := t.cells
  clear t
  have hwc : IntKind.i64.wrap (c : Int) = (c : Int) := IntWalk.i64_in _ (by omega)
  have d2 : decide ((16 : Int) ≤ (c : Int)) = false := by simp; omega
  have d1 : decide (n ≤ p) = false := by simp; omega
  have i1 : (p : Int) < (n : Int) := by omega
  have i0 : (0 : Int) ≤ (p : Int) := by omega
  have HC := Lib.hid hcs
  have HBY := Lib.hid hby
  have HLR := Lib.hid hlr
  clear hcs hby hlr
  have HZ := Lib.hid hz
  have d3 : decide ((8 : Int) < (c : Int)) = false := by simp; omega
  have d4 : decide ((n : Int) < (p : Int) + 1 + (c : Int)) = false := by simp; omega
  have w1 : IntKind.i64.wrap ((p : Int) + 1) = (p : Int) + 1 := IntWalk.i64_in _ (by omega)
  have w2 : IntKind.i64.wrap ((p : Int) + 1 + (c : Int)) = (p : Int) + 1 + (c : Int) := IntWalk.i64_in _ (by omega)
  have d5 : decide ((0 : Int) < (c : Int)) = false := by simp; omega
  have d6 : ((c : Int) == 0) = true := by simp; omega
  have d7 : decide (0 < c) = false := by simp; omega
  clear hz
  go_enter Tryz.func205, Tryz.ntmps205
  go_wp2_with fail
  go_quiet (fail)
  go_wp2_with fail
  go_quiet (fail)
  go_wp2_with fail
  go_quiet (fail)
  clear d7 d5 d6 d1 d2 d3 d4 w1 w2 i0 i1 c0
  go_wp2_with fail
  go_loopw [7, 8] (fun v i wr => NR w r c v i wr) (fun _ i _ => c - (intOf i).toNat)
  case atStart => exact ⟨0, by omega, rfl, rfl, Still.drewN (Still.refl _) _⟩
  case round =>
    obtain ⟨j, hj, rfl, rfl, hst⟩ := hrel
    have s0 := (hst.cell _).trans t0
    have s1 := (hst.cell _).trans t1
    have HST := Lib.hid hst
    clear hst
    by_cases hlt : j < c
    · have hcj := HC.out j hlt
      have hby := getD_byte HBY.out j (by rw [HLR.out]; omega)
      have HVT := Lib.hid (val_take r j (by rw [HLR.out]; omega))
      have hvl : val (r.take j) < 72057594037927936 := by
        have g1 := val_lt j (r.take j) (by rw [List.length_take, HLR.out]; omega) (bytes_take HBY.out j)
        have g2 : (256 : Nat) ^ j ≤ 256 ^ 7 := Nat.pow_le_pow_right (by omega) (by omega)
        have g3 : (256 : Nat) ^ 7 = 72057594037927936 := by decide
        omega
      generalize r.getD j 0 = d at hcj hby HVT
      generalize val (r.take j) = v at HVT hvl
      have s2 := (HST.out.cell _).trans hcj
      clear hcj
      have i1 : (p : Int) + 1 + (j : Int) < (n : Int) := by omega
      have i2 : (0 : Int) ≤ (p : Int) + 1 + (j : Int) := by omega
      have i3 : ((p : Int) + 1 + (j : Int)).toNat = p + 1 + j := by omega
      have w1 : IntKind.i64.wrap ((p : Int) + 1) = (p : Int) + 1 := IntWalk.i64_in _ (by omega)
      have w2 : IntKind.i64.wrap ((p : Int) + 1 + (j : Int)) = (p : Int) + 1 + (j : Int) := IntWalk.i64_in _ (by omega)
      have HEQ := Lib.hid (show (v : Int) * 256 + d = ((val (r.take (j + 1)) : Nat) : Int) by rw [HVT.out]; omega)
      have w3 := mul_wrap v hvl
      have w4 := sum_wrap v d hvl hby.1 hby.2
      have w5 : IntKind.u64.wrap d = d := by rw [IntKind.wrap_u64]; omega
      go_wp2_with fail
      go_quiet (fail)
      clear w1 w2 w3 w4 w5 i1 i2 i3
      go_wp2
      go_roundw
      case rel => exact ⟨j + 1, by omega, by go_num, congrArg (Value.int .u64) HEQ.out, Still.drewN HST.out _⟩
      case measure => simp [intOf]; omega
    · obtain rfl : j = c := by omega
      go_wp2
      go_ret3
      exact ⟨rfl, HST.out⟩

set_option maxRecDepth 100000 in
set_option maxHeartbeats 1600000 in
theorem next_pos_ok (h b off n cap p c : Nat) (r : List Int) (w : World) (t : Three w h (some ⟨b, off, none⟩) n cap p false) (hp : p < n) (hm : n ≤ 140737488351232) (c0 : w.cell? ⟨b, off + p, none⟩ = some (.int .u8 (c : Int))) (h8 : c ≤ 8) (hl : p + 1 + c ≤ n) (hlr : r.length = n - (p + 1)) (hby : Bytes r) (hcs : ∀ j, j < c → w.cell? ⟨b, off + (p + 1 + j), none⟩ = some (.int .u8 (r.getD j 0))) (hcp : 0 < c) (d : Int) (c1 : w.cell? ⟨b, off + (p + 1), none⟩ = some (.int .u8 d)) (hd : (d == 0) = false) :
    Calls Tryz.prog 205 #[.pointer (some ⟨h, 0, none⟩)] w (NextIs w (val (r.take c) : Nat) false ((c : Int) + 1)) := by
  obtain ⟨t0, t1, t2, _, _⟩ := t.cells
  clear t
  have hwc : IntKind.i64.wrap (c : Int) = (c : Int) := IntWalk.i64_in _ (by omega)
  have d2 : decide ((16 : Int) ≤ (c : Int)) = false := by simp; omega
  have d1 : decide (n ≤ p) = false := by simp; omega
  have i1 : (p : Int) < (n : Int) := by omega
  have i0 : (0 : Int) ≤ (p : Int) := by omega
  have HC := Lib.hid hcs
  have HBY := Lib.hid hby
  have HLR := Lib.hid hlr
  clear hcs hby hlr
  have d3 : decide ((8 : Int) < (c : Int)) = false := by simp; omega
  have d4 : decide ((n : Int) < (p : Int) + 1 + (c : Int)) = false := by simp; omega
  have w1 : IntKind.i64.wrap ((p : Int) + 1) = (p : Int) + 1 := IntWalk.i64_in _ (by omega)
  have w2 : IntKind.i64.wrap ((p : Int) + 1 + (c : Int)) = (p : Int) + 1 + (c : Int) := IntWalk.i64_in _ (by omega)
  have d5 : ((c : Int) == 0) = false := by simp; omega
  have d6 : (0 : Int) < (c : Int) := by omega
  have i2 : (p : Int) + 1 < (n : Int) := by omega
  have i3 : (0 : Int) ≤ (p : Int) + 1 := by omega
  have i4 : ((p : Int) + 1).toNat = p + 1 := by omega
  go_enter Tryz.func205, Tryz.ntmps205
  go_wp2_with fail
  go_quiet (fail)
  go_wp2_with fail
  go_quiet (fail)
  go_wp2_with fail
  go_quiet (fail)
  clear d5 d6 i2 i3 i4 c1 hd d1 d2 d3 d4 w1 w2 i0 i1 c0
  go_wp2_with fail
  go_loopw [7, 8] (fun v i wr => NR w r c v i wr) (fun _ i _ => c - (intOf i).toNat)
  case atStart => exact ⟨0, by omega, rfl, rfl, Still.drewN (Still.refl _) _⟩
  case round =>
    obtain ⟨j, hj, rfl, rfl, hst⟩ := hrel
    have s0 := (hst.cell _).trans t0
    have s1 := (hst.cell _).trans t1
    have HST := Lib.hid hst
    clear hst
    by_cases hlt : j < c
    · have hcj := HC.out j hlt
      have hby := getD_byte HBY.out j (by rw [HLR.out]; omega)
      have HVT := Lib.hid (val_take r j (by rw [HLR.out]; omega))
      have hvl : val (r.take j) < 72057594037927936 := by
        have g1 := val_lt j (r.take j) (by rw [List.length_take, HLR.out]; omega) (bytes_take HBY.out j)
        have g2 : (256 : Nat) ^ j ≤ 256 ^ 7 := Nat.pow_le_pow_right (by omega) (by omega)
        have g3 : (256 : Nat) ^ 7 = 72057594037927936 := by decide
        omega
      generalize r.getD j 0 = d2 at hcj hby HVT
      generalize val (r.take j) = v at HVT hvl
      have s2 := (HST.out.cell _).trans hcj
      clear hcj
      have i1 : (p : Int) + 1 + (j : Int) < (n : Int) := by omega
      have i2 : (0 : Int) ≤ (p : Int) + 1 + (j : Int) := by omega
      have i3 : ((p : Int) + 1 + (j : Int)).toNat = p + 1 + j := by omega
      have w1 : IntKind.i64.wrap ((p : Int) + 1) = (p : Int) + 1 := IntWalk.i64_in _ (by omega)
      have w2 : IntKind.i64.wrap ((p : Int) + 1 + (j : Int)) = (p : Int) + 1 + (j : Int) := IntWalk.i64_in _ (by omega)
      have HEQ := Lib.hid (show (v : Int) * 256 + d2 = ((val (r.take (j + 1)) : Nat) : Int) by rw [HVT.out]; omega)
      have w3 := mul_wrap v hvl
      have w4 := sum_wrap v d2 hvl hby.1 hby.2
      have w5 : IntKind.u64.wrap d2 = d2 := by rw [IntKind.wrap_u64]; omega
      go_wp2_with fail
      go_quiet (fail)
      clear w1 w2 w3 w4 w5 i1 i2 i3
      go_wp2
      go_roundw
      case rel => exact ⟨j + 1, by omega, by go_num, congrArg (Value.int .u64) HEQ.out, Still.drewN HST.out _⟩
      case measure => simp [intOf]; omega
    · obtain rfl : j = c := by omega
      go_wp2
      go_ret3
      exact ⟨rfl, HST.out⟩

set_option maxRecDepth 100000 in
set_option maxHeartbeats 1600000 in
theorem next_neg_lead (h b off n cap p c : Nat) (w : World) (t : Three w h (some ⟨b, off, none⟩) n cap p false) (hp : p < n) (hm : n ≤ 140737488351232) (c0 : w.cell? ⟨b, off + p, none⟩ = some (.int .u8 ((c : Int) + 16))) (h8 : c ≤ 8) (hl : p + 1 + c ≤ n) (hcp : 0 < c) (c1 : w.cell? ⟨b, off + (p + 1), none⟩ = some (.int .u8 0)) :
    Calls Tryz.prog 205 #[.pointer (some ⟨h, 0, none⟩)] w (NextIs w 0 false 0) := by
  obtain ⟨t0, t1, t2, _, _⟩ := t.cells
  clear t
  have hwc : IntKind.i64.wrap ((c : Int) + 16) = (c : Int) + 16 := IntWalk.i64_in _ (by omega)
  have d2 : (16 : Int) ≤ (c : Int) + 16 := by omega
  have d1 : decide (n ≤ p) = false := by simp; omega
  have i1 : (p : Int) < (n : Int) := by omega
  have i0 : (0 : Int) ≤ (p : Int) := by omega
  have d3 : decide ((8 : Int) < (c : Int)) = false := by simp; omega
  have d4 : decide ((n : Int) < (p : Int) + 1 + (c : Int)) = false := by simp; omega
  have w1 : IntKind.i64.wrap ((p : Int) + 1) = (p : Int) + 1 := IntWalk.i64_in _ (by omega)
  have w2 : IntKind.i64.wrap ((p : Int) + 1 + (c : Int)) = (p : Int) + 1 + (c : Int) := IntWalk.i64_in _ (by omega)
  have d5 : ((c : Int) == 0) = false := by simp; omega
  have d6 : (0 : Int) < (c : Int) := by omega
  have i2 : (p : Int) + 1 < (n : Int) := by omega
  have i3 : (0 : Int) ≤ (p : Int) + 1 := by omega
  have i4 : ((p : Int) + 1).toNat = p + 1 := by omega
  go_enter Tryz.func205, Tryz.ntmps205
  go_wp2_with fail
  go_quiet (fail)
  go_wp2_with fail
  go_quiet (fail)
  go_wp2_with fail
  go_quiet (fail)
  go_wp2
  go_ret3
  exact ⟨rfl, Still.drewN (Still.refl _) _⟩

set_option maxRecDepth 100000 in
set_option maxHeartbeats 1600000 in
theorem next_neg_ok (h b off n cap p c : Nat) (r : List Int) (w : World) (t : Three w h (some ⟨b, off, none⟩) n cap p false) (hp : p < n) (hm : n ≤ 140737488351232) (c0 : w.cell? ⟨b, off + p, none⟩ = some (.int .u8 ((c : Int) + 16))) (h8 : c ≤ 8) (hl : p + 1 + c ≤ n) (hlr : r.length = n - (p + 1)) (hby : Bytes r) (hcs : ∀ j, j < c → w.cell? ⟨b, off + (p + 1 + j), none⟩ = some (.int .u8 (r.getD j 0))) (hcp : 0 < c) (d : Int) (c1 : w.cell? ⟨b, off + (p + 1), none⟩ = some (.int .u8 d)) (hd : (d == 0) = false) :
    Calls Tryz.prog 205 #[.pointer (some ⟨h, 0, none⟩)] w (NextIs w (val (r.take c) : Nat) true ((c : Int) + 1)) := by
  obtain ⟨t0, t1, t2, _, _⟩ := t.cells
  clear t
  have hwc : IntKind.i64.wrap ((c : Int) + 16) = (c : Int) + 16 := IntWalk.i64_in _ (by omega)
  have d2 : (16 : Int) ≤ (c : Int) + 16 := by omega
  have d1 : decide (n ≤ p) = false := by simp; omega
  have i1 : (p : Int) < (n : Int) := by omega
  have i0 : (0 : Int) ≤ (p : Int) := by omega
  have HC := Lib.hid hcs
  have HBY := Lib.hid hby
  have HLR := Lib.hid hlr
  clear hcs hby hlr
  have d3 : decide ((8 : Int) < (c : Int)) = false := by simp; omega
  have d4 : decide ((n : Int) < (p : Int) + 1 + (c : Int)) = false := by simp; omega
  have w1 : IntKind.i64.wrap ((p : Int) + 1) = (p : Int) + 1 := IntWalk.i64_in _ (by omega)
  have w2 : IntKind.i64.wrap ((p : Int) + 1 + (c : Int)) = (p : Int) + 1 + (c : Int) := IntWalk.i64_in _ (by omega)
  have d5 : ((c : Int) == 0) = false := by simp; omega
  have d6 : (0 : Int) < (c : Int) := by omega
  have i2 : (p : Int) + 1 < (n : Int) := by omega
  have i3 : (0 : Int) ≤ (p : Int) + 1 := by omega
  have i4 : ((p : Int) + 1).toNat = p + 1 := by omega
  go_enter Tryz.func205, Tryz.ntmps205
  go_wp2_with fail
  go_quiet (fail)
  go_wp2_with fail
  go_quiet (fail)
  go_wp2_with fail
  go_quiet (fail)
  clear d5 d6 i2 i3 i4 c1 hd d1 d2 d3 d4 w1 w2 i0 i1 c0
  go_wp2_with fail
  go_loopw [7, 8] (fun v i wr => NR w r c v i wr) (fun _ i _ => c - (intOf i).toNat)
  case atStart => exact ⟨0, by omega, rfl, rfl, Still.drewN (Still.refl _) _⟩
  case round =>
    obtain ⟨j, hj, rfl, rfl, hst⟩ := hrel
    have s0 := (hst.cell _).trans t0
    have s1 := (hst.cell _).trans t1
    have HST := Lib.hid hst
    clear hst
    by_cases hlt : j < c
    · have hcj := HC.out j hlt
      have hby := getD_byte HBY.out j (by rw [HLR.out]; omega)
      have HVT := Lib.hid (val_take r j (by rw [HLR.out]; omega))
      have hvl : val (r.take j) < 72057594037927936 := by
        have g1 := val_lt j (r.take j) (by rw [List.length_take, HLR.out]; omega) (bytes_take HBY.out j)
        have g2 : (256 : Nat) ^ j ≤ 256 ^ 7 := Nat.pow_le_pow_right (by omega) (by omega)
        have g3 : (256 : Nat) ^ 7 = 72057594037927936 := by decide
        omega
      generalize r.getD j 0 = d2 at hcj hby HVT
      generalize val (r.take j) = v at HVT hvl
      have s2 := (HST.out.cell _).trans hcj
      clear hcj
      have i1 : (p : Int) + 1 + (j : Int) < (n : Int) := by omega
      have i2 : (0 : Int) ≤ (p : Int) + 1 + (j : Int) := by omega
      have i3 : ((p : Int) + 1 + (j : Int)).toNat = p + 1 + j := by omega
      have w1 : IntKind.i64.wrap ((p : Int) + 1) = (p : Int) + 1 := IntWalk.i64_in _ (by omega)
      have w2 : IntKind.i64.wrap ((p : Int) + 1 + (j : Int)) = (p : Int) + 1 + (j : Int) := IntWalk.i64_in _ (by omega)
      have HEQ := Lib.hid (show (v : Int) * 256 + d2 = ((val (r.take (j + 1)) : Nat) : Int) by rw [HVT.out]; omega)
      have w3 := mul_wrap v hvl
      have w4 := sum_wrap v d2 hvl hby.1 hby.2
      have w5 : IntKind.u64.wrap d2 = d2 := by rw [IntKind.wrap_u64]; omega
      go_wp2_with fail
      go_quiet (fail)
      clear w1 w2 w3 w4 w5 i1 i2 i3
      go_wp2
      go_roundw
      case rel => exact ⟨j + 1, by omega, by go_num, congrArg (Value.int .u64) HEQ.out, Still.drewN HST.out _⟩
      case measure => simp [intOf]; omega
    · obtain rfl : j = c := by omega
      go_wp2
      go_ret3
      exact ⟨rfl, HST.out⟩
end Go.Proofs.YtnppomiggajhnaaGreatDoor.Fld
