/-
  The document's own disk: change, Fail, Arm. Conditions: it lies in memory as it was made (Rf).
-/
import Derived.Test.YthdpdhjhpbkhaaaDiskRef
namespace Go.Proofs.Ythdpdhjhpbkhaaa.Dk
open Go.RowKit Go.Proofs.Ythdpdhjhpbkhaaa.Fld

def chgN (ok : Bool) (t : St) : Int × St := if ok then chg t else (1, t)
set_option maxRecDepth 100000 in
set_option maxHeartbeats 3200000 in
theorem change_any (r : Nat) (lv : Value) (t : St) (s u : ByteArray) (w : World) (h : DsrT w r lv t) (hf : ∀ k, t.fail = some k → k ≤ 9223372036854775807) (ha : ∀ k, t.arm = some k → k ≤ 9223372036854775807) (hs : s.size ≤ maxLen) (hu : u.size ≤ maxLen) :
    Calls Try.prog 45 #[.pointer (some ⟨r, 0, none⟩), .string s, .string u] w fun e w' => e = .returned (.int .i64 (chgN (okN s.data.toList && okN u.data.toList) t).1) ∧ DsrT w' r lv (chgN (okN s.data.toList && okN u.data.toList) t).2 ∧ Fr [r] w w' := by
  have HS := Lib.hid (isname_any s w hs)
  have HU := Lib.hid (isname_any u w hu)
  obtain ⟨A, n, cap, hlv, hd⟩ := h
  have HLV := Lib.hid hlv
  have HD := Lib.hid hd
  obtain ⟨c0, c1, c2, c3, c4⟩ := hd.cells
  have f2 := hd.free 2
  have f3 := hd.free 3
  have f4 := hd.free 4
  clear hd hlv
  generalize okN s.data.toList = o1 at *
  generalize okN u.data.toList = o2 at *
  obtain ⟨room, fs, off, fail, arm⟩ := t
  simp only at c0 c1 c2 c3 c4 hf ha HD
  cases o1
  · go_enter Try.func45, Try.ntmps45
    go_wp2_with fail
    refine HS.out.mono ?_
    rintro e w' ⟨rfl, rfl⟩
    go_wp2_with fail
    refine HU.out.mono ?_
    rintro e w' ⟨rfl, rfl⟩
    go_wp2
    go_ret
    exact ⟨rfl, ⟨A, n, cap, HLV.out, HD.out⟩, Fr.refl _ _⟩
  cases o2
  · go_enter Try.func45, Try.ntmps45
    go_wp2_with fail
    refine HS.out.mono ?_
    rintro e w' ⟨rfl, rfl⟩
    go_wp2_with fail
    refine HU.out.mono ?_
    rintro e w' ⟨rfl, rfl⟩
    go_wp2
    go_ret
    exact ⟨rfl, ⟨A, n, cap, HLV.out, HD.out⟩, Fr.refl _ _⟩
  cases off
  · rcases arm with _ | _ | a
    · rcases fail with _ | _ | k
      · go_enter Try.func45, Try.ntmps45
        go_wp2_with fail
        refine HS.out.mono ?_
        rintro e w' ⟨rfl, rfl⟩
        go_wp2_with fail
        refine HU.out.mono ?_
        rintro e w' ⟨rfl, rfl⟩
        go_wp2
        go_ret
        exact ⟨rfl, ⟨A, n, cap, HLV.out, HD.out⟩, Fr.refl _ _⟩
      · go_enter Try.func45, Try.ntmps45
        go_wp2_with fail
        refine HS.out.mono ?_
        rintro e w' ⟨rfl, rfl⟩
        go_wp2_with fail
        refine HU.out.mono ?_
        rintro e w' ⟨rfl, rfl⟩
        go_wp2
        go_ret
        exact ⟨rfl, ⟨A, n, cap, HLV.out, HD.out.set2 (-1)⟩, Fr.setCell (Fr.refl _ _) _ (.inl (by simp)) _⟩
      · have hk := hf _ rfl
        have j1 : ((k + 1 : Nat) : Int) = (k : Int) + 1 := by omega
        simp only [sched, j1] at c2
        have j2 : (((k : Int) + 1) == 0) = false := by simp; omega
        have j3 : (0 : Int) < (k : Int) + 1 := by omega
        go_enter Try.func45, Try.ntmps45
        go_wp2_with fail
        refine HS.out.mono ?_
        rintro e w' ⟨rfl, rfl⟩
        go_wp2_with fail
        refine HU.out.mono ?_
        rintro e w' ⟨rfl, rfl⟩
        go_wp2
        go_ret
        exact ⟨rfl, ⟨A, n, cap, HLV.out, HD.out.set2 _⟩, Fr.setCell (Fr.refl _ _) _ (.inl (by simp)) _⟩
    · go_enter Try.func45, Try.ntmps45
      go_wp2_with fail
      refine HS.out.mono ?_
      rintro e w' ⟨rfl, rfl⟩
      go_wp2_with fail
      refine HU.out.mono ?_
      rintro e w' ⟨rfl, rfl⟩
      go_wp2
      go_ret
      exact ⟨rfl, ⟨A, n, cap, HLV.out, (HD.out.set3 (-1)).set4 true⟩, Fr.setCell (Fr.setCell (Fr.refl _ _) _ (.inl (by simp)) _) _ (.inl (by simp)) _⟩
    · have hka := ha _ rfl
      have j1 : ((a + 1 : Nat) : Int) = (a : Int) + 1 := by omega
      simp only [sched, j1] at c3
      have j2 : (((a : Int) + 1) == 0) = false := by simp; omega
      have j3 : (0 : Int) < (a : Int) + 1 := by omega
      rcases fail with _ | _ | k
      · go_enter Try.func45, Try.ntmps45
        go_wp2_with fail
        refine HS.out.mono ?_
        rintro e w' ⟨rfl, rfl⟩
        go_wp2_with fail
        refine HU.out.mono ?_
        rintro e w' ⟨rfl, rfl⟩
        go_wp2
        go_ret
        exact ⟨rfl, ⟨A, n, cap, HLV.out, HD.out.set3 _⟩, Fr.setCell (Fr.refl _ _) _ (.inl (by simp)) _⟩
      · go_enter Try.func45, Try.ntmps45
        go_wp2_with fail
        refine HS.out.mono ?_
        rintro e w' ⟨rfl, rfl⟩
        go_wp2_with fail
        refine HU.out.mono ?_
        rintro e w' ⟨rfl, rfl⟩
        go_wp2
        go_ret
        exact ⟨rfl, ⟨A, n, cap, HLV.out, (HD.out.set3 _).set2 (-1)⟩, Fr.setCell (Fr.setCell (Fr.refl _ _) _ (.inl (by simp)) _) _ (.inl (by simp)) _⟩
      · have hk := hf _ rfl
        have j4 : ((k + 1 : Nat) : Int) = (k : Int) + 1 := by omega
        simp only [sched, j4] at c2
        have j5 : (((k : Int) + 1) == 0) = false := by simp; omega
        have j6 : (0 : Int) < (k : Int) + 1 := by omega
        go_enter Try.func45, Try.ntmps45
        go_wp2_with fail
        refine HS.out.mono ?_
        rintro e w' ⟨rfl, rfl⟩
        go_wp2_with fail
        refine HU.out.mono ?_
        rintro e w' ⟨rfl, rfl⟩
        go_wp2
        go_ret
        exact ⟨rfl, ⟨A, n, cap, HLV.out, (HD.out.set3 _).set2 _⟩, Fr.setCell (Fr.setCell (Fr.refl _ _) _ (.inl (by simp)) _) _ (.inl (by simp)) _⟩
  · go_enter Try.func45, Try.ntmps45
    go_wp2_with fail
    refine HS.out.mono ?_
    rintro e w' ⟨rfl, rfl⟩
    go_wp2_with fail
    refine HU.out.mono ?_
    rintro e w' ⟨rfl, rfl⟩
    go_wp2
    go_ret
    exact ⟨rfl, ⟨A, n, cap, HLV.out, HD.out⟩, Fr.refl _ _⟩
end Go.Proofs.Ythdpdhjhpbkhaaa.Dk
