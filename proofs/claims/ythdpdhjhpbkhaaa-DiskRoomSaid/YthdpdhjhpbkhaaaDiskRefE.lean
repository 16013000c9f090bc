/-
  The document's own disk: Crash, where there is no file. Conditions: it lies in memory as it was made (Rf).
-/
import Derived.Test.YthdpdhjhpbkhaaaDiskRefM
namespace Go.Proofs.Ythdpdhjhpbkhaaa.Dk
open Go.RowKit Go.Proofs.Ythdpdhjhpbkhaaa.Fld

theorem Rf.restart {w : World} {r : Nat} {lv : Value} {m : List Ent} {t : St} (h : Rf w r lv m t) :
    Rf (((w.setCell ⟨r, 4, none⟩ (.bool false)).setCell ⟨r, 2, none⟩ (.int .i64 (-1))).setCell ⟨r, 3, none⟩ (.int .i64 (-1))) r lv m { t with off := false, fail := none, arm := none } ∧
    Fr [r] w (((w.setCell ⟨r, 4, none⟩ (.bool false)).setCell ⟨r, 2, none⟩ (.int .i64 (-1))).setCell ⟨r, 3, none⟩ (.int .i64 (-1))) := by
  have hf : Fr [r] w (((w.setCell ⟨r, 4, none⟩ (.bool false)).setCell ⟨r, 2, none⟩ (.int .i64 (-1))).setCell ⟨r, 3, none⟩ (.int .i64 (-1))) := (((Fr.refl [r] w).setCell _ (.inl (by simp)) _).setCell _ (.inl (by simp)) _).setCell _ (.inl (by simp)) _
  obtain ⟨A, n, cap, hlv, hd⟩ := h.dsr
  exact ⟨h.scheds ⟨A, n, cap, hlv, ((hd.set4 false).set2 (-1)).set3 (-1)⟩ hf rfl rfl (fun k hk => by cases hk) (fun k hk => by cases hk), hf⟩
set_option maxRecDepth 100000 in
set_option maxHeartbeats 3200000 in
theorem rcrash_none (r : Nat) (lv : Value) (t : St) (A : Option Addr) (n cap : Nat) (ks : List Int) (w : World) (h : Rf w r lv [] t) :
    Calls Try.prog 33 #[.pointer (some ⟨r, 0, none⟩), .slice A n cap] w fun e w' => e = .returned (.tuple #[]) ∧ RLeft w r lv [] (stCrash ks t) w' := by
  have hs : ({ t with off := false, fail := none, arm := none } : St) = stCrash ks t := by
    have hfs : t.fs = [] := h.fs
    obtain ⟨room, fs, off, fail, arm⟩ := t
    simp only at hfs
    subst hfs
    rfl
  have hr := h.restart
  rw [hs] at hr
  have HR := Lib.hid hr
  obtain ⟨LA, lcap, hlv, hd, _⟩ := h.form
  obtain ⟨c0, c1, c2, c3, c4⟩ := hd.cells
  have f2 := hd.free 2
  have f3 := hd.free 3
  have f4 := hd.free 4
  simp only [List.length_nil] at c1
  clear h hs hr hd hlv
  go_enter Try.func33, Try.ntmps33
  go_wp2
  go_loop [4] (fun i => i = .int .i64 0) (fun _ => 0)
  case atStart => rfl
  case round =>
    subst hrel
    go_wp2
    go_end0
    exact ⟨rfl, lv, [], HR.out.1, HR.out.2.mono (by simp), fun _ hi => .inl hi⟩
end Go.Proofs.Ythdpdhjhpbkhaaa.Dk
