/-
  The document's own disk: an Append for which there is no room, or which is not made. Conditions: it lies in memory as it was made (Rf).
-/
import Derived.Test.YthdpdhjhpbkhaaaDiskRefU
namespace Go.Proofs.Ythdpdhjhpbkhaaa.Dk
open Go.RowKit Go.Proofs.Ythdpdhjhpbkhaaa.Fld

theorem rsize_quiet (r : Nat) (lv : Value) (m : List Ent) (t : St) (w : World) (n : Nat) (h : Rf w r lv m t) (hm : t.fs.length ≤ 1000000) : Calls Try.prog 35 #[.pointer (some ⟨r, 0, none⟩)] (w.drewN n) fun e w'' => e = .returned (.int .i64 (total t.fs : Nat)) ∧ ∃ k, w'' = w.drewN k :=
  (rsize_any r lv m t (w.drewN n) (h.of_blocks fun i _ => by rw [(Still.drewN (Still.refl w) n).1]) hm).mono fun _ _ ⟨he, hw⟩ => ⟨he, n, hw.symm⟩
theorem RLeft.still {w w' : World} {r : Nat} {lv : Value} {m : List Ent} {t : St} (h : Rf w r lv m t) (hs : Still w w') : RLeft w r lv m t w' :=
  ⟨lv, m, h.of_blocks fun i _ => by rw [hs.1], ⟨hs.2.1, hs.2.2.1, hs.2.2.2, by rw [hs.1]; exact Nat.le_refl _, fun k _ _ => by rw [hs.1]⟩, fun _ hi => .inl hi⟩
set_option maxRecDepth 100000 in
set_option maxHeartbeats 3200000 in
theorem rapp_not (r : Nat) (lv : Value) (m : List Ent) (t : St) (s : ByteArray) (A : Option Addr) (n cap : Nat) (ys : List Int) (w : World) (h : Rf w r lv m t) (hm : t.fs.length ≤ 1000000) (hs : s.size ≤ maxLen) (hn : n ≤ 140737488355328) (hys : ys.length = n)
    (hnot : okN s.data.toList = false ∨ (chg t).1 ≠ 0 ∨ t.room < total t.fs + n) :
    Calls Try.prog 24 #[.pointer (some ⟨r, 0, none⟩), .string s, .slice A n cap] w (RDid w r lv m (stAppend s.data.toList ys t)) := by
  have HC := Lib.hid (change_rf r lv m t s s w h hs hs)
  unfold stAppend doing
  simp only [Bool.and_self] at HC
  have hok : (okN s.data.toList = false ∧ chgN (okN s.data.toList) t = (1, t)) ∨ (okN s.data.toList = true ∧ chgN (okN s.data.toList) t = chg t) := by
    cases okN s.data.toList
    · exact .inl ⟨rfl, rfl⟩
    · exact .inr ⟨rfl, rfl⟩
  rcases hok with ⟨hk, he⟩ | ⟨hk, he⟩
  · rw [he] at HC
    rw [hk, if_neg (by simp)]
    clear he h hnot
    go_enter Try.func24, Try.ntmps24
    go_wp2_with (go_at_call 45; refine HC.out.mono ?_; rintro e w1 ⟨rfl, hR, hF⟩; have HR := Lib.hid hR; have HF := Lib.hid hF; clear hR hF)
    go_ret
    exact ⟨rfl, (RLeft.same HR.out).after HF.out⟩
  · rw [he] at HC
    rw [hk, if_pos rfl]
    have HSM := Lib.hid (chg_same t)
    by_cases h0 : (chg t).1 = 0
    · have hfull : (chg t).2.room < total (chg t).2.fs + n := by
        rw [HSM.out.1, HSM.out.2]
        rcases hnot with h1 | h1 | h1
        · rw [hk] at h1; cases h1
        · exact absurd h0 h1
        · exact h1
      have hroom : total (chg t).2.fs ≤ 16777216 := by rw [HSM.out.2]; exact Nat.le_trans h.good.fits h.good.room2
      rw [if_pos h0]
      rw [h0] at HC
      have hfs : (chg t).2.fs.length ≤ 1000000 := by rw [HSM.out.2]; exact hm
      have happ : app1 s.data.toList ys (chg t).2 = (3, (chg t).2) := by
        unfold app1
        rw [if_pos (by omega)]
      rw [happ]
      clear he h hnot happ
      generalize (chg t).2 = t1 at *
      have HQ := Lib.hid (fun w1 (hR : Rf w1 r lv m t1) k => rsize_quiet r lv m t1 w1 k hR hfs)
      clear HSM h0
      go_enter Try.func24, Try.ntmps24
      go_wp2_with (go_at_call 45; refine HC.out.mono ?_; rintro e w1 ⟨rfl, hR, hF⟩; have HR := Lib.hid hR; have HF := Lib.hid hF; clear hR hF)
      obtain ⟨LA, lcap, hlv, hd, _⟩ := HR.out.form
      obtain ⟨c0, c1, c2, c3, c4⟩ := hd.cells
      have HQ1 := Lib.hid (HQ.out w1 HR.out)
      clear hd hlv HQ
      generalize total t1.fs = T at *
      generalize t1.room = R at *
      have hw : IntKind.i64.wrap ((T : Int) + (n : Int)) = (T : Int) + (n : Int) := IntWalk.i64_in _ (by omega)
      have hdc : decide ((R : Int) < (T : Int) + (n : Int)) = true := decide_eq_true (by omega)
      go_quiet ((go_at_call 35; exact HQ1.out _))
      go_wp2
      go_ret
      exact ⟨rfl, (RLeft.still HR.out (Still.drewN (Still.refl _) _)).after HF.out⟩
    · rw [if_neg h0]
      have j : ((chg t).1 == 0) = false := by simpa using h0
      rw [show chg t = ((chg t).1, (chg t).2) from rfl]
      clear he h hnot HSM
      generalize (chg t).2 = t1 at *
      generalize (chg t).1 = c at *
      go_enter Try.func24, Try.ntmps24
      go_wp2_with (go_at_call 45; refine HC.out.mono ?_; rintro e w1 ⟨rfl, hR, hF⟩; have HR := Lib.hid hR; have HF := Lib.hid hF; clear hR hF)
      go_ret
      exact ⟨rfl, (RLeft.same HR.out).after HF.out⟩
end Go.Proofs.Ythdpdhjhpbkhaaa.Dk
