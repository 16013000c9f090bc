/-
  Several texts in one: Inside a method of the reader: its variables in memory (Fr), and what becomes of them. Conditions: as each theorem states. What the reader's method Number answers, and what becomes of the reader. Conditions: the reader lies in memory as it was made (Rdr).
-/
import Derived.Test.YtjadfpcipicckaaGreatJFieldCatch
namespace Go.Proofs.YtjadfpcipicckaaGreat.Fld
open Go.RowKit

/-- what was read, and the reader behind it -/
def Got (g : Nat) (w : World) (v : Value) (zs : List Int) (bad : Bool) (e : Ending) (w' : World) : Prop := e = .returned v ∧ Chg g w w' ∧ Rdr w' g zs bad
def NoByte (x : Value) : Prop := ∀ c, x ≠ .int .u8 c
/-- inside a method that began at w: its variable of the reader, its result's, the reader -/
def Fr (w W : World) (g : Nat) (x : Value) (A : Option Addr) (n cap : Nat) (bad : Bool) : Prop :=
  g < w.heap.size ∧ W.cell? ⟨w.heap.size, 0, none⟩ = some (.pointer (some ⟨g, 0, none⟩)) ∧ (∃ t, W.heap[w.heap.size + 1]? = some (.cells #[x] t (0, 0))) ∧ Two W g A n cap bad ∧ Chg g w W ∧ NoByte x
theorem Fr.cellM {w W : World} {g : Nat} {x : Value} {A : Option Addr} {n cap : Nat} {bad : Bool} (h : Fr w W g x A n cap bad) : W.cell? ⟨w.heap.size + 1, 0, none⟩ = some x ∧ W.frozen? ⟨w.heap.size + 1, 0, none⟩ = false := by
  obtain ⟨_, _, ⟨t, ht⟩, _⟩ := h
  exact ⟨by rw [cell_of_row W _ 0 _ _ (0, 0) ht]; rfl, frozen_of_row W _ 0 _ _ ht⟩
theorem Fr.start {w : World} {g : Nat} {A : Option Addr} {n cap : Nat} {bad : Bool} (h : Two w g A n cap bad) (x : Value) (hx : NoByte x) (t1 t2 : TypeId) : Fr w ((w.alloc (.cells #[.pointer (some ⟨g, 0, none⟩)] t1)).alloc (.cells #[x] t2)) g x A n cap bad := by
  have hb : Below w.heap.size w ((w.alloc (.cells #[.pointer (some ⟨g, 0, none⟩)] t1)).alloc (.cells #[x] t2)) := ((Below.refl _ _).alloc (Nat.le_refl _) _).alloc (by simp) _
  refine ⟨h.lt, by go_simp, ⟨t2, ?_⟩, h.below hb, Chg.below hb, hx⟩
  have := heap_alloc_new (w.alloc (.cells #[.pointer (some ⟨g, 0, none⟩)] t1)) (.cells #[x] t2)
  simpa using this
theorem Fr.still {w W W' : World} {g : Nat} {x : Value} {A : Option Addr} {n cap : Nat} {bad : Bool} (h : Fr w W g x A n cap bad) (hs : Still W W') : Fr w W' g x A n cap bad := by
  obtain ⟨h0, h1, ⟨t, h2⟩, h4, h5, h6⟩ := h
  exact ⟨h0, (hs.cell _).trans h1, ⟨t, by rw [hs.1]; exact h2⟩, h4.still hs, h5.still hs, h6⟩
theorem cell_other {w : World} {p q : Addr} {u : Value} (h : q.block ≠ p.block) : (w.setCell p u).cell? q = w.cell? q := World.cell?_of_block (w := w) (Below.heap_setCell w p u q.block h)
theorem Fr.setM {w W : World} {g : Nat} {x : Value} {A : Option Addr} {n cap : Nat} {bad : Bool} (h : Fr w W g x A n cap bad) (y : Value) (hy : NoByte y) : Fr w (W.setCell ⟨w.heap.size + 1, 0, none⟩ y) g y A n cap bad := by
  obtain ⟨h0, h1, ⟨t, h2⟩, h4, h5, _⟩ := h
  exact ⟨h0, (cell_other (by simp)).trans h1, ⟨t, heap_setCell_same W _ 0 _ _ _ h2⟩, h4.other _ (by simp; omega) _, h5.setCell _ (.inr (by simp)) _, hy⟩
theorem Fr.set0 {w W : World} {g : Nat} {x : Value} {A : Option Addr} {n cap : Nat} {bad : Bool} (h : Fr w W g x A n cap bad) (A' : Option Addr) (n' cap' : Nat) : Fr w (W.setCell ⟨g, 0, none⟩ (.slice A' n' cap')) g x A' n' cap' bad := by
  obtain ⟨h0, h1, ⟨t, h2⟩, h4, h5, h6⟩ := h
  exact ⟨h0, (cell_other (by simp; omega)).trans h1, ⟨t, (Below.heap_setCell _ _ _ _ (by simp; omega)).trans h2⟩, h4.set0 _ _ _, h5.setCell _ (.inl rfl) _, h6⟩
theorem Fr.set1 {w W : World} {g : Nat} {x : Value} {A : Option Addr} {n cap : Nat} {bad : Bool} (h : Fr w W g x A n cap bad) (bad' : Bool) : Fr w (W.setCell ⟨g, 1, none⟩ (.bool bad')) g x A n cap bad' := by
  obtain ⟨h0, h1, ⟨t, h2⟩, h4, h5, h6⟩ := h
  exact ⟨h0, (cell_other (by simp; omega)).trans h1, ⟨t, (Below.heap_setCell _ _ _ _ (by simp; omega)).trans h2⟩, h4.set1 _, h5.setCell _ (.inl rfl) _, h6⟩
theorem Fr.below {w W W' : World} {g : Nat} {x : Value} {A : Option Addr} {n cap : Nat} {bad : Bool} (h : Fr w W g x A n cap bad) (hb : Below W.heap.size W W') : Fr w W' g x A n cap bad := by
  obtain ⟨h0, h1, ⟨t, h2⟩, h4, h5, h6⟩ := h
  have lt : w.heap.size + 1 < W.heap.size := by
    rcases Nat.lt_or_ge (w.heap.size + 1) W.heap.size with h' | h'
    · exact h'
    · rw [Array.getElem?_eq_none h'] at h2; cases h2
  exact ⟨h0, (hb.cell (lt_of_cell h1)).trans h1, ⟨t, (hb.block _ lt).trans h2⟩, h4.below hb, h5.trans (Chg.below hb), h6⟩
/-- bytes don't lie in the method's variables, nor in the reader -/
theorem Fr.slM {w W : World} {g : Nat} {x : Value} {A : Option Addr} {n cap : Nat} {bad : Bool} (h : Fr w W g x A n cap bad) {A' : Option Addr} {n' cap' : Nat} {zs : List Int} (hs : Sl W A' n' cap' zs) (y : Value) : Sl (W.setCell ⟨w.heap.size + 1, 0, none⟩ y) A' n' cap' zs := by
  refine ⟨hs.1.of_same fun a c ha => cell_other ?_, hs.2⟩
  intro hab
  simp only at hab
  obtain ⟨_, _, ⟨t, ht⟩, _, _, hx⟩ := h
  unfold World.cell? at ha
  rw [hab, ht] at ha
  obtain ⟨b, off, sp⟩ := a
  rcases off with _ | off
  · cases sp
    · simp at ha; exact hx c ha
    · simp at ha
  · cases sp <;> simp at ha
theorem Fr.slG {w W : World} {g : Nat} {x : Value} {A : Option Addr} {n cap : Nat} {bad : Bool} (h : Fr w W g x A n cap bad) {A' : Option Addr} {n' cap' : Nat} {zs : List Int} (hs : Sl W A' n' cap' zs) (o : Nat) (y : Value) : Sl (W.setCell ⟨g, o, none⟩ y) A' n' cap' zs :=
  hs.chg ((Chg.refl g W).setCell _ (.inl rfl) _) h.2.2.2.1
theorem Fr.done {w W : World} {g : Nat} {x : Value} {A : Option Addr} {n cap : Nat} {bad : Bool} (h : Fr w W g x A n cap bad) {zs : List Int} (hs : Sl W A n cap zs) (hn : n ≤ 140737488355328) (v : Value) : Got g w v zs bad (.returned v) W := ⟨rfl, h.2.2.2.2.1, A, n, cap, h.2.2.2.1, hs, hn⟩
theorem cutNum_len (zs : List Int) (v : Nat) (r : List Int) (h : cutNum zs = some (v, r)) : r.length ≤ zs.length := by
  cases zs with
  | nil => simp [cutNum] at h
  | cons c rr =>
    rw [cutNum] at h
    split at h
    · simp only [Option.some.injEq, Prod.mk.injEq] at h
      rw [← h.2, List.length_drop, List.length_cons]; omega
    · cases h
theorem cutInt_len (zs : List Int) (v : Int) (r : List Int) (h : cutInt zs = some (v, r)) : r.length ≤ zs.length := by
  cases zs with
  | nil => simp [cutInt] at h
  | cons c rr =>
    rw [cutInt] at h
    split at h
    · split at h
      · simp only [Option.some.injEq, Prod.mk.injEq] at h
        rw [← h.2, List.length_drop, List.length_cons]; omega
      · cases h
    · split at h
      · simp only [Option.some.injEq, Prod.mk.injEq] at h
        rw [← h.2, List.length_drop, List.length_cons]; omega
      · cases h
theorem cutText_len (zs t r : List Int) (h : cutText zs = some (t, r)) : r.length ≤ zs.length ∧ t.length ≤ zs.length := by
  unfold cutText at h
  cases hc : cutNum zs with
  | none => rw [hc] at h; cases h
  | some q =>
    obtain ⟨m, rr⟩ := q
    have h0 := cutNum_len zs m rr hc
    rw [hc] at h
    simp only at h
    split at h
    · simp only [Option.some.injEq, Prod.mk.injEq] at h
      rw [← h.1, ← h.2, List.length_drop, List.length_take]; omega
    · cases h
end Go.Proofs.YtjadfpcipicckaaGreat.Fld

namespace Go.Proofs.YtjadfpcipicckaaGreat.Fld
open Go.RowKit

theorem nb_u64 (x : Int) : NoByte (.int .u64 x) := fun _ h => by cases h
set_option maxHeartbeats 800000 in
theorem num_ok (g : Nat) (zs : List Int) (w : World) (hr : Rdr w g zs false) (v : Nat) (r : List Int) (h : cutNum zs = some (v, r)) (most : Int) (hm : (v : Int) ≤ most) :
    Calls Tryz.prog 85 #[.pointer (some ⟨g, 0, none⟩), .int .u64 most] w (Got g w (.int .u64 (v : Int)) r false) := by
  obtain ⟨A, n, cap, ht, hs, hn⟩ := hr
  have hmf : ∀ (fn : Fn) (first cap : Array Value) (w : World), (Instr.makeFunc fn first cap).run Tryz.prog w = .ok (.func fn first cap) w := fun _ _ _ _ => rfl
  have hgl := ht.lt
  have HLN := Lib.hid (cutNum_len zs v r h)
  rw [hs.1.1] at HLN
  have HF := Lib.hid (Fr.start ht (.int .u64 0) (nb_u64 0) 136 117)
  have HS := Lib.hid (hs.chg HF.out.2.2.2.2.1 ht)
  have HC := Lib.hid h
  clear ht hs h
  go_enter_defers Tryz.func85, Tryz.ntmps85
  go_wp2_with fail
  refine (unread_ok g A n cap _ HF.out.2.2.2.1).mono ?_
  rintro e w' ⟨rfl, rfl⟩
  go_wp2_with fail
  refine (cutN_ok A n cap zs _ HS.out v r HC.out).mono ?_
  rintro e W ⟨a, n1, cap1, rfl, hs1, hst⟩
  have hf := HF.out.still hst
  have c0 := hf.2.1
  have c1 := hf.cellM.1
  have c2 := hf.cellM.2
  have c3 := hf.2.2.2.1.cells.1
  have c4 := hf.2.2.2.1.cells.2.2.1
  have hf1 := hf.setM (.int .u64 (v : Int)) (nb_u64 _)
  have hf2 := hf1.set0 (some a) n1 cap1
  have HF1 := Lib.hid (hf2.setM (.int .u64 (v : Int)) (nb_u64 _))
  have HS1 := Lib.hid (hf2.slM (hf1.slG (hf.slM hs1 (.int .u64 (v : Int))) 0 (.slice (some a) n1 cap1)) (.int .u64 (v : Int)))
  have HN1 := Lib.hid (show n1 ≤ 140737488355328 by have := hs1.1.1; have := HLN.out; omega)
  clear HF HS hst hf1 hf2 hs1 hf
  have d1 : ¬ g = w.heap.size := by omega
  have d2 : ¬ g = w.heap.size + 1 := by omega
  have d3 : ¬ w.heap.size = g := by omega
  have d4 : ¬ w.heap.size + 1 = g := by omega
  go_wp2_with (go_at_call 114; refine (demand_ok _).mono ?_; rintro e w' ⟨rfl, rfl⟩)
  clear c0 c1 c2 c3 c4
  generalize ((W.setCell _ _).setCell _ _).setCell _ _ = W4 at HF1 HS1 ⊢
  have c1 := HF1.out.cellM.1
  refine leaves_cons (f := 111) (args := #[.pointer (some ⟨w.heap.size + 1, 0, none⟩), .pointer (some ⟨w.heap.size, 0, none⟩)]) (by simp) (by simp [go_sem]) ?_
  refine (catchN_idle _ _ _).mono ?_
  rintro e u' w'' ⟨rfl, rfl, rfl⟩
  simp [Leaves, settle, results, Tryz.results85, go_sem, c1]
  exact HF1.out.done HS1.out HN1.out _

/-- the door, where the method panicked -/
theorem doorN {w W : World} {g : Nat} {x : Value} {A : Option Addr} {n cap : Nat} {bad : Bool} (hf : Fr w W g x A n cap bad) {zs : List Int} (hs : Sl W A n cap zs) (hn : n ≤ 140737488355328) (ts : Array Value) (h4 : ts[4]? = some (.pointer (some ⟨w.heap.size + 1, 0, none⟩))) :
    bodyPostD Tryz.prog Tryz.f85 (Got g w (.int .u64 0) zs true) (Exit.panic errP) { tmps := ts, defers := [{ target := Target.fn (Fn.func 111) #[.pointer (some ⟨w.heap.size + 1, 0, none⟩), .pointer (some ⟨w.heap.size, 0, none⟩)], args := #[] }] } W := by
  have hgl := hf.1
  have hf1 := hf.setM (.int .u64 0) (nb_u64 _)
  have hf2 := hf1.set1 true
  have hs2 := hf1.slG (hf.slM hs (.int .u64 0)) 1 (.bool true)
  have c1 := hf2.cellM.1
  refine leaves_cons (f := 111) (args := #[.pointer (some ⟨w.heap.size + 1, 0, none⟩), .pointer (some ⟨w.heap.size, 0, none⟩)]) (by simp) (by simp [go_sem]) ?_
  refine (catchN_panic ⟨w.heap.size + 1, 0, none⟩ ⟨w.heap.size, 0, none⟩ g x bad W hf.cellM.1 hf.cellM.2 hf.2.1 hf.2.2.2.1.cells.2.1 hf.2.2.2.1.cells.2.2.2 (by simp; omega) [] 37 (.int .i64 6)).mono ?_
  rintro e u' w'' ⟨rfl, rfl, rfl⟩
  generalize (W.setCell _ _).setCell _ _ = W4 at hf2 hs2 c1 ⊢
  simp [Leaves, settle, results, Tryz.results85, go_sem, Array.getD_eq_getD_getElem?, h4, c1]
  exact hf2.done hs2 hn _

set_option maxHeartbeats 800000 in
theorem num_bad (g : Nat) (zs : List Int) (w : World) (bad : Bool) (hr : Rdr w g zs bad) (most : Int) (h : bad = true ∨ cutNum zs = none ∨ ∃ v r, cutNum zs = some (v, r) ∧ most < (v : Int)) :
    Calls Tryz.prog 85 #[.pointer (some ⟨g, 0, none⟩), .int .u64 most] w (Got g w (.int .u64 0) zs true) := by
  obtain ⟨A, n, cap, ht, hs, hn⟩ := hr
  have hmf : ∀ (fn : Fn) (first cap : Array Value) (w : World), (Instr.makeFunc fn first cap).run Tryz.prog w = .ok (.func fn first cap) w := fun _ _ _ _ => rfl
  have hgl := ht.lt
  have HF := Lib.hid (Fr.start ht (.int .u64 0) (nb_u64 0) 136 117)
  have HS := Lib.hid (hs.chg HF.out.2.2.2.2.1 ht)
  have HH := Lib.hid h
  clear ht hs h
  cases bad with
  | true =>
    go_enter_defers Tryz.func85, Tryz.ntmps85
    go_wp2_with fail
    refine (unread_bad g A n cap _ HF.out.2.2.2.1).mono ?_
    rintro e w' ⟨rfl, rfl⟩
    exact doorN HF.out HS.out hn _ rfl
  | false =>
    cases hc : cutNum zs with
    | none =>
      have HC := Lib.hid hc
      clear hc
      go_enter_defers Tryz.func85, Tryz.ntmps85
      go_wp2_with fail
      refine (unread_ok g A n cap _ HF.out.2.2.2.1).mono ?_
      rintro e w' ⟨rfl, rfl⟩
      go_wp2_with fail
      refine (cutN_bad A n cap zs _ HS.out HC.out).mono ?_
      rintro e W ⟨rfl, hst⟩
      exact doorN (HF.out.still hst) (Still.sl HS.out hst) hn _ rfl
    | some q =>
      obtain ⟨v, r⟩ := q
      have hv : most < (v : Int) := by
        rcases HH.out with h | h | ⟨v', r', h, h'⟩
        · cases h
        · rw [hc] at h; cases h
        · rw [hc] at h; cases h; exact h'
      have HC := Lib.hid hc
      clear hc HH
      go_enter_defers Tryz.func85, Tryz.ntmps85
      go_wp2_with fail
      refine (unread_ok g A n cap _ HF.out.2.2.2.1).mono ?_
      rintro e w' ⟨rfl, rfl⟩
      go_wp2_with fail
      refine (cutN_ok A n cap zs _ HS.out v r HC.out).mono ?_
      rintro e W ⟨a, n1, cap1, rfl, hs1, hst⟩
      have hf := HF.out.still hst
      have c0 := hf.2.1
      have c1 := hf.cellM.1
      have c2 := hf.cellM.2
      have HF1 := Lib.hid (hf.setM (.int .u64 (v : Int)) (nb_u64 _))
      have HS1 := Lib.hid (hf.slM (Still.sl HS.out hst) (.int .u64 (v : Int)))
      clear HF HS hst hf
      have hmi : decide ((v : Int) ≤ most) = false := by simp; omega
      go_wp2_with (go_at_call 114; refine (demand_bad _).mono ?_; rintro e w' ⟨rfl, rfl⟩)
      exact doorN HF1.out HS1.out hn _ rfl
end Go.Proofs.YtjadfpcipicckaaGreat.Fld
