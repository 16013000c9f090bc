/-
  What the reader's method Text answers, and what becomes of the reader. Conditions: the reader lies in memory as it was made (Rdr).
-/
import Derived.Test.YtejphnbhcabchaaGreatFieldFr
namespace Go.Proofs.YtejphnbhcabchaaGreat.Fld
open Go.RowKit

theorem nb_sl (A : Option Addr) (n cap : Nat) : NoByte (.slice A n cap) := fun _ h => by cases h
/-- a text that was read, in memory that the call made, and the reader behind it -/
def GotT (g : Nat) (w : World) (t zs : List Int) (bad : Bool) (e : Ending) (w' : World) : Prop := ∃ A n cap, e = .returned (.slice A n cap) ∧ Sl w' A n cap t ∧ Chg g w w' ∧ Rdr w' g zs bad

set_option maxHeartbeats 800000 in
theorem rtext_ok (g : Nat) (zs : List Int) (w : World) (hr : Rdr w g zs false) (t r : List Int) (h : cutText zs = some (t, r)) (most : Int) (hm : (t.length : Int) ≤ most) :
    Calls Tryz.prog 68 #[.pointer (some ⟨g, 0, none⟩), .int .i64 most] w (GotT g w t r false) := by
  obtain ⟨A, n, cap, ht, hs, hn⟩ := hr
  have hmf : ∀ (fn : Fn) (first cap : Array Value) (w : World), (Instr.makeFunc fn first cap).run Tryz.prog w = .ok (.func fn first cap) w := fun _ _ _ _ => rfl
  have hgl := ht.lt
  have HLN := Lib.hid (cutText_len zs t r h)
  rw [hs.1.1] at HLN
  have HF := Lib.hid (Fr.start ht (.slice none 0 0) (nb_sl _ _ _) 107 36)
  have HS := Lib.hid (hs.chg HF.out.2.2.2.2.1 ht)
  have HC := Lib.hid h
  clear ht hs h
  go_enter_defers Tryz.func68, Tryz.ntmps68
  go_wp2_with fail
  refine (unread_ok g A n cap _ HF.out.2.2.2.1).mono ?_
  rintro e w' ⟨rfl, rfl⟩
  go_wp2_with fail
  refine (cutT_ok A n cap zs _ HS.out t r HC.out).mono ?_
  rintro e W ⟨a, n1, cap1, a2, n2, cap2, rfl, hs1, hs2, hst⟩
  have hf := HF.out.still hst
  have c0 := hf.2.1
  have c1 := hf.cellM.1
  have c2 := hf.cellM.2
  have c3 := hf.2.2.2.1.cells.1
  have c4 := hf.2.2.2.1.cells.2.2.1
  have hcm := hs1.1.2.1
  unfold maxLen at hcm
  have hmi : (n1 : Int) ≤ most := by have := hs1.1.1; omega
  have hf1 := hf.setM (.slice (some a) n1 cap1) (nb_sl _ _ _)
  have HF2 := Lib.hid (hf1.set0 (some a2) n2 cap2)
  have HS1 := Lib.hid (hf1.slG (hf.slM hs1 (.slice (some a) n1 cap1)) 0 (.slice (some a2) n2 cap2))
  have HS2 := Lib.hid (hf1.slG (hf.slM hs2 (.slice (some a) n1 cap1)) 0 (.slice (some a2) n2 cap2))
  have HN1 := Lib.hid (show n1 ≤ 140737488355328 by have := hs1.1.1; have := HLN.out; omega)
  have HN2 := Lib.hid (show n2 ≤ 140737488355328 by have := hs2.1.1; have := HLN.out; omega)
  clear HF HS hst hf1 hs1 hs2 hf
  have d1 : ¬ g = w.heap.size := by omega
  have d2 : ¬ g = w.heap.size + 1 := by omega
  have d3 : ¬ w.heap.size = g := by omega
  have d4 : ¬ w.heap.size + 1 = g := by omega
  go_wp2_with (go_at_call 101; refine (demand_ok _).mono ?_; rintro e w' ⟨rfl, rfl⟩)
  clear c0 c1 c2 c3 c4
  generalize (W.setCell _ _).setCell _ _ = W5 at HF2 HS1 HS2 ⊢
  refine (clone_any (some a) n1 cap1 t _ HS1.out.1 HS1.out.2.2.2.1 HN1.out).mono ?_
  rintro e W6 ⟨v, rfl, hO⟩
  obtain ⟨A6, c6, hv6, hs6, _⟩ := hO.sl n1 HS1.out.1.1
  subst hv6
  have hf6 := HF2.out.below hO.1
  have c1 := hf6.cellM.1
  have c2 := hf6.cellM.2
  have HF7 := Lib.hid (hf6.setM (.slice A6 n1 c6) (nb_sl _ _ _))
  have HS7 := Lib.hid (hf6.slM (HS2.out.below hO.1) (.slice A6 n1 c6))
  have HT7 := Lib.hid (hf6.slM hs6 (.slice A6 n1 c6))
  clear hf6 hO hs6 HF2 HS1 HS2
  go_wp2
  clear c1 c2
  generalize W6.setCell _ _ = W7 at HF7 HS7 HT7 ⊢
  have c1 := HF7.out.cellM.1
  refine leaves_cons (f := 98) (args := #[.pointer (some ⟨w.heap.size + 1, 0, none⟩), .pointer (some ⟨w.heap.size, 0, none⟩)]) (by simp) (by simp [go_sem]) ?_
  refine (catchT_idle _ _ _).mono ?_
  rintro e u' w'' ⟨rfl, rfl, rfl⟩
  simp [Leaves, settle, results, Tryz.results68, go_sem, c1]
  exact ⟨A6, n1, c6, rfl, HT7.out, (HF7.out.done HS7.out HN2.out (.slice A6 n1 c6)).2⟩

/-- the door, where the method panicked -/
theorem doorT {w W : World} {g : Nat} {x : Value} {A : Option Addr} {n cap : Nat} {bad : Bool} (hf : Fr w W g x A n cap bad) {zs : List Int} (hs : Sl W A n cap zs) (hn : n ≤ 140737488355328) (ts : Array Value) (h4 : ts[4]? = some (.pointer (some ⟨w.heap.size + 1, 0, none⟩))) :
    bodyPostD Tryz.prog Tryz.f68 (Got g w (.slice none 0 0) zs true) (Exit.panic errP) { tmps := ts, defers := [{ target := Target.fn (Fn.func 98) #[.pointer (some ⟨w.heap.size + 1, 0, none⟩), .pointer (some ⟨w.heap.size, 0, none⟩)], args := #[] }] } W := by
  have hgl := hf.1
  have hf1 := hf.setM (.slice none 0 0) (nb_sl _ _ _)
  have hf2 := hf1.set1 true
  have hs2 := hf1.slG (hf.slM hs (.slice none 0 0)) 1 (.bool true)
  have c1 := hf2.cellM.1
  refine leaves_cons (f := 98) (args := #[.pointer (some ⟨w.heap.size + 1, 0, none⟩), .pointer (some ⟨w.heap.size, 0, none⟩)]) (by simp) (by simp [go_sem]) ?_
  refine (catchT_panic ⟨w.heap.size + 1, 0, none⟩ ⟨w.heap.size, 0, none⟩ g x bad W hf.cellM.1 hf.cellM.2 hf.2.1 hf.2.2.2.1.cells.2.1 hf.2.2.2.1.cells.2.2.2 (by simp; omega) [] 25 (.int .i64 6)).mono ?_
  rintro e u' w'' ⟨rfl, rfl, rfl⟩
  generalize (W.setCell _ _).setCell _ _ = W4 at hf2 hs2 c1 ⊢
  simp [Leaves, settle, results, Tryz.results68, go_sem, Array.getD_eq_getD_getElem?, h4, c1]
  exact hf2.done hs2 hn _

set_option maxHeartbeats 800000 in
theorem rtext_bad (g : Nat) (zs : List Int) (w : World) (bad : Bool) (hr : Rdr w g zs bad) (most : Int) (h : bad = true ∨ cutText zs = none ∨ ∃ t r, cutText zs = some (t, r) ∧ most < (t.length : Int)) :
    Calls Tryz.prog 68 #[.pointer (some ⟨g, 0, none⟩), .int .i64 most] w (Got g w (.slice none 0 0) zs true) := by
  obtain ⟨A, n, cap, ht, hs, hn⟩ := hr
  have hmf : ∀ (fn : Fn) (first cap : Array Value) (w : World), (Instr.makeFunc fn first cap).run Tryz.prog w = .ok (.func fn first cap) w := fun _ _ _ _ => rfl
  have hgl := ht.lt
  have HF := Lib.hid (Fr.start ht (.slice none 0 0) (nb_sl _ _ _) 107 36)
  have HS := Lib.hid (hs.chg HF.out.2.2.2.2.1 ht)
  have HH := Lib.hid h
  clear ht hs h
  cases bad with
  | true =>
    go_enter_defers Tryz.func68, Tryz.ntmps68
    go_wp2_with fail
    refine (unread_bad g A n cap _ HF.out.2.2.2.1).mono ?_
    rintro e w' ⟨rfl, rfl⟩
    exact doorT HF.out HS.out hn _ rfl
  | false =>
    cases hc : cutText zs with
    | none =>
      have HC := Lib.hid hc
      clear hc
      go_enter_defers Tryz.func68, Tryz.ntmps68
      go_wp2_with fail
      refine (unread_ok g A n cap _ HF.out.2.2.2.1).mono ?_
      rintro e w' ⟨rfl, rfl⟩
      go_wp2_with fail
      refine (cutT_bad A n cap zs _ HS.out HC.out).mono ?_
      rintro e W ⟨rfl, hst⟩
      exact doorT (HF.out.still hst) (Still.sl HS.out hst) hn _ rfl
    | some q =>
      obtain ⟨t, r⟩ := q
      have hv : most < (t.length : Int) := by
        rcases HH.out with h | h | ⟨v', r', h, h'⟩
        · cases h
        · rw [hc] at h; cases h
        · rw [hc] at h; cases h; exact h'
      have HC := Lib.hid hc
      clear hc HH
      go_enter_defers Tryz.func68, Tryz.ntmps68
      go_wp2_with fail
      refine (unread_ok g A n cap _ HF.out.2.2.2.1).mono ?_
      rintro e w' ⟨rfl, rfl⟩
      go_wp2_with fail
      refine (cutT_ok A n cap zs _ HS.out t r HC.out).mono ?_
      rintro e W ⟨a, n1, cap1, a2, n2, cap2, rfl, hs1, _, hst⟩
      have hcm := hs1.1.2.1
      unfold maxLen at hcm
      have hl1 := hs1.1.1
      rw [hl1] at hv
      have hf := HF.out.still hst
      have c0 := hf.2.1
      have c1 := hf.cellM.1
      have c2 := hf.cellM.2
      have HF1 := Lib.hid (hf.setM (.slice (some a) n1 cap1) (nb_sl _ _ _))
      have HS1 := Lib.hid (hf.slM (Still.sl HS.out hst) (.slice (some a) n1 cap1))
      clear HF HS hst hf
      have hmi : decide ((n1 : Int) ≤ most) = false := by simp; omega
      clear hl1 hs1
      go_wp2_with (go_at_call 101; refine (demand_bad _).mono ?_; rintro e w' ⟨rfl, rfl⟩)
      exact doorT HF1.out HS1.out hn _ rfl
end Go.Proofs.YtejphnbhcabchaaGreat.Fld
