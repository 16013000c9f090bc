/-
  Several texts in one: Layer 8: Commit, Apply, Compact, Reset, Get, Newer in the program. Conditions: the log lies in memory as it was made. Layer 8: Get in the program. Conditions: the log lies in memory as it was made.
-/
import Derived.Test.YtjadfpcipicckaaGreatJElN2
import Derived.Test.YtjadfpcipicckaaGreatJRlgD
import Derived.Test.YtjadfpcipicckaaGreatJElRow
namespace Go.Proofs.YtjadfpcipicckaaGreat.Rg
open Go.RowKit Go.Proofs.YtjadfpcipicckaaGreat.Fld
set_option linter.unusedVariables false

theorem wrap_in (z : Int) (h0 : -9223372036854775808 ≤ z) (h1 : z ≤ 9223372036854775807) : IntKind.i64.wrap z = z := by
  simp only [IntKind.wrap, IntKind.bits, IntKind.signed]
  simp
  omega
/-- a call that changes the log's places alone -/
def SetIs (lo : Nat) (w : World) (g : Nat) (v : Value) (xs : List EA) (c : Int) (s' : St) (e : Ending) (w' : World) : Prop := e = .returned (.int .i64 c) ∧ Done lo w w' g v s' v xs
theorem Im.set {lo : Nat} {w : World} {g : Nat} {s : St} {v : Value} {xs : List EA} (h : Im lo w g s v xs) (j : Nat) (u : Value) (s' : St) (hlb : Lb (w.setCell ⟨g, j, none⟩ u) g s'.base s'.bt v s'.com s'.app) (he : s'.es = s.es) (ok : s'.Ok) : Done lo w (w.setCell ⟨g, j, none⟩ u) g v s' v xs :=
  ⟨Im.stored h.blk hlb ((Dk.Fr.refl _ _).setCell _ (.inl (by simp)) _) h.row h.dat (by rw [he]; exact h.es) h.lo ok, (Dk.Fr.refl _ _).setCell _ (.inl (by simp)) _, fun i hi => .inl hi⟩
set_option maxRecDepth 100000 in
theorem commit_any (lo g : Nat) (s : St) (v : Value) (xs : List EA) (i : Int) (w : World) (h : Im lo w g s v xs) : Calls Tryz.prog 94 #[.pointer (some ⟨g, 0, none⟩), .int .i64 i] w (SetIs lo w g v xs (comC s i) (stCom s i)) := by
  obtain ⟨A, cap, rfl, hLo, _⟩ := h.slice
  have HIM := Lib.hid h
  have HLO := Lib.hid hLo
  have HOK := Lib.hid (stCom_ok h.ok i)
  obtain ⟨c0, c1, c2, c3, c4⟩ := h.blk.cells
  clear h hLo
  by_cases h1 : s.com ≤ i
  · by_cases h2 : i ≤ s.last
    · have HC := Lib.hid (show comC s i = 0 by unfold comC; rw [if_pos ⟨h1, h2⟩])
      have HS := Lib.hid (show stCom s i = { s with com := i } by unfold stCom; rw [if_pos ⟨h1, h2⟩])
      rw [HC.out]
      rw [HS.out] at HOK ⊢
      have k1 : ¬ i < s.com := by omega
      have k2 : ¬ s.last < i := by omega
      go_enter Tryz.func94, Tryz.ntmps94
      go_wp2_with fail
      refine HLO.out.last_dr.mono ?_
      rintro e w1 ⟨rfl, hw⟩
      have HS1 := Lib.hid (show Still w w1 by obtain ⟨k, rfl⟩ := hw; exact still_drewN _ _)
      clear hw
      have HI1 := Lib.hid (HIM.out.still HS1.out)
      have d3 := HI1.out.blk.cells.2.2.2.1
      have f3 := Blk.free HI1.out.blk 3
      go_wp2
      go_ret
      exact ⟨rfl, Done.to HIM.out (below_still HS1.out (Nat.le_refl _)) (HI1.out.set 3 _ { s with com := i } (Blk.set HI1.out.blk 3 (.int .i64 i) (by show 3 < 5; omega)) rfl HOK.out)⟩
    · have HC := Lib.hid (show comC s i = 7 by unfold comC; rw [if_neg (fun h => h2 h.2)])
      have HS := Lib.hid (show stCom s i = s by unfold stCom; rw [if_neg (fun h => h2 h.2)])
      rw [HC.out, HS.out]
      have k1 : ¬ i < s.com := by omega
      have k2 : s.last < i := by omega
      go_enter Tryz.func94, Tryz.ntmps94
      go_wp2_with fail
      refine HLO.out.last_dr.mono ?_
      rintro e w1 ⟨rfl, k, rfl⟩
      go_wp2
      go_ret
      exact ⟨rfl, Done.same HIM.out (below_still (still_drewN _ _) (Nat.le_refl _))⟩
  · have HC := Lib.hid (show comC s i = 7 by unfold comC; rw [if_neg (fun h => h1 h.1)])
    have HS := Lib.hid (show stCom s i = s by unfold stCom; rw [if_neg (fun h => h1 h.1)])
    rw [HC.out, HS.out]
    have k1 : i < s.com := by omega
    go_enter Tryz.func94, Tryz.ntmps94
    go_wp2
    go_ret
    exact ⟨rfl, Done.same HIM.out (Below.refl _ _)⟩
/-- a call that changes the log -/
def ChgIs (lo : Nat) (w : World) (g : Nat) (v : Value) (c : Int) (s' : St) (e : Ending) (w' : World) : Prop := ∃ v' xs', e = .returned (.int .i64 c) ∧ Done lo w w' g v s' v' xs'
def newB (s : St) (i t : Int) : Bool := decide (s.lt < t) || (t == s.lt && decide (s.last ≤ i))
end Go.Proofs.YtjadfpcipicckaaGreat.Rg

namespace Go.Proofs.YtjadfpcipicckaaGreat.Rg
open Go.RowKit Go.Proofs.YtjadfpcipicckaaGreat.Fld
set_option linter.unusedVariables false

/-- entries that were told, in new memory -/
def GetIs (w : World) (l : List En) (e : Ending) (w' : World) : Prop := ∃ v ys, e = .returned v ∧ ens ys = l ∧ w'.ownsRow w.heap.size 67 4 v ys.length (rowE ys) ∧ DatO w.heap.size w' ys ∧ Below w.heap.size w w'
theorem RdE.cutP {w : World} {A : Option Addr} {n : Nat} {xs : List EA} (h : RdE w A n xs) (k : Nat) (hk : k ≤ n) : RdE w A k (xs.take k) := by
  refine ⟨by rw [List.length_take, h.len]; omega, by have := h.most; omega, fun hp => ?_, h.dat.take k⟩
  obtain ⟨b, off, hA, hc⟩ := h.at' (by omega)
  refine ⟨b, off, hA, fun j v hj => hc j v ?_⟩
  rw [rowE_take, List.getElem?_take] at hj
  split at hj
  · exact hj
  · cases hj
theorem getE_no {s : St} {f m : Int} (h : f < s.base + 1 ∨ s.last < f ∨ m < 1) : getE s f m = [] := by unfold getE; rw [if_pos h]
set_option maxRecDepth 100000 in
set_option maxHeartbeats 3200000 in
theorem Lo.get_any {w : World} {g : Nat} {s : St} {A : Option Addr} {n cap : Nat} {xs : List EA} (h : Lo w g s A n cap xs) (hcap : n ≤ cap) (hn : n ≤ 1000000) (hd : ∀ x ∈ xs, x.e.data.length ≤ 140737488351232) (f m : Int) :
    Calls Tryz.prog 50 #[.pointer (some ⟨g, 0, none⟩), .int .i64 f, .int .i64 m] w (GetIs w (getE s f m)) := by
  have HL := Lib.hid h
  have hb0 := h.b0
  have hb1 := h.b1
  have hsl : s.last = s.base + n := by unfold St.last; rw [h.n]
  have HSL := Lib.hid hsl
  have HF := Lib.hid (first_any g s.base s.bt s.com s.app (.slice A n cap) w h.lb h.b0 (by omega))
  have HLA := Lib.hid h.last_dr
  have HD := Lib.hid hd
  have hNB : ∀ w', Below w.heap.size w w' → GetIs w [] (.returned (.slice none 0 0)) w' := fun w' hb => ⟨_, [], rfl, rfl, row_nil _ _ _ _, DatO.nil _ _, hb⟩
  have HNB := Lib.hid hNB
  clear h hd hNB
  by_cases h1 : f < s.base + 1
  · rw [getE_no (.inl h1)]
    go_enter Tryz.func50, Tryz.ntmps50
    go_wp2_with fail
    refine HF.out.mono ?_
    rintro e w1 ⟨rfl, rfl⟩
    go_wp2
    go_ret
    exact HNB.out _ (Below.refl _ _)
  by_cases h2 : s.last < f
  · rw [getE_no (.inr (.inl h2))]
    go_enter Tryz.func50, Tryz.ntmps50
    go_wp2_with fail
    refine HF.out.mono ?_
    rintro e w1 ⟨rfl, rfl⟩
    go_wp2_with fail
    refine HLA.out.mono ?_
    rintro e w1 ⟨rfl, j, rfl⟩
    go_wp2
    go_ret
    exact HNB.out _ (below_still (still_drewN _ _) (Nat.le_refl _))
  by_cases h3 : m < 1
  · rw [getE_no (.inr (.inr h3))]
    go_enter Tryz.func50, Tryz.ntmps50
    go_wp2_with fail
    refine HF.out.mono ?_
    rintro e w1 ⟨rfl, rfl⟩
    go_wp2_with fail
    refine HLA.out.mono ?_
    rintro e w1 ⟨rfl, j, rfl⟩
    go_wp2
    go_ret
    exact HNB.out _ (below_still (still_drewN _ _) (Nat.le_refl _))
  obtain ⟨k, hk⟩ : ∃ k : Nat, f = s.base + 1 + k := ⟨(f - s.base - 1).toNat, by omega⟩
  have hkn : k < n := by omega
  obtain ⟨N, hN⟩ : ∃ N : Nat, n = k + N := ⟨n - k, by omega⟩
  obtain ⟨q, hq⟩ : ∃ q : Nat, (q : Int) = min m (N : Int) := ⟨(min m (N : Int)).toNat, by omega⟩
  have hqN : q ≤ N := by omega
  have hge : getE s f m = ens ((xs.drop k).take q) := by
    unfold getE
    rw [if_neg (by omega), ens_take, ens_drop, HL.out.es, show (f - s.base - 1).toNat = k by omega]
    apply List.ext_getElem?
    intro j
    rw [List.getElem?_take, List.getElem?_take]
    by_cases hj : j < q
    · rw [if_pos (by omega), if_pos hj]
    · rw [if_neg hj]
      split
      · rw [List.getElem?_eq_none]
        rw [List.length_drop, HL.out.n]
        omega
      · rfl
  rw [hge]
  clear hge
  have ek : f - s.base - 1 = (k : Int) := by omega
  have hf2 : f ≤ 1099511627776 := by omega
  have HP := Lib.hid (show ∀ W, Still w W → Calls Tryz.prog 83 #[.pointer (some ⟨g, 0, none⟩), .int .i64 f] W fun e w' => e = .returned (.int .i64 (k : Int)) ∧ W = w' from fun W hW => by
    have := place_any g s.base s.bt s.com s.app (.slice A n cap) f W (HL.out.lb.still hW) (by omega) (by omega) (by omega) hf2
    rw [ek] at this
    exact this)
  obtain ⟨b, off, hA, _⟩ := HL.out.rd.at' (by omega)
  subst hA
  have HR := Lib.hid (show ∀ W, Still w W → RdE W (some ⟨b, off + k * 4, none⟩) q ((xs.drop k).take q) from fun W hW => by
    have := (HL.out.still hW).rd.tail k (by omega) cap hcap
    rw [if_neg (by omega)] at this
    exact this.cutP q (by omega))
  have HQ := Lib.hid hq
  have HDT := Lib.hid (show ∀ x ∈ (xs.drop k).take q, x.e.data.length ≤ 140737488351232 from fun x hx => HD.out x (List.mem_of_mem_drop (List.mem_of_mem_take hx)))
  subst hN
  have g0 : (0 : Int) ≤ (k : Int) := by omega
  have g1 : (k : Int) ≤ (k : Int) + (N : Int) := by omega
  have g2 : (k : Int) ≤ (cap : Int) := by omega
  have g3 : ¬ cap = k := by omega
  have g4 : (k : Int) + (N : Int) ≤ (cap : Int) := by omega
  have g5 : (0 : Int) ≤ (q : Int) := by omega
  have g6 : (q : Int) ≤ ((cap - k : Nat) : Int) := by omega
  have g7 : (q : Int) ≤ (cap : Int) - (k : Int) := by omega
  clear hq hk ek hsl
  by_cases hmN : m ≤ (N : Int)
  · have hmq : m = (q : Int) := by have := HQ.out; omega
    subst hmq
    go_enter Tryz.func50, Tryz.ntmps50
    go_wp2_with fail
    refine HF.out.mono ?_
    rintro e w1 ⟨rfl, rfl⟩
    go_wp2_with fail
    refine HLA.out.mono ?_
    rintro e w1 ⟨rfl, hw⟩
    have HS1 := Lib.hid (show Still w w1 by obtain ⟨j, rfl⟩ := hw; exact still_drewN _ _)
    clear hw
    obtain ⟨c0, c1, c2, c3, c4⟩ := (HL.out.still HS1.out).lb.cells
    go_wp2_with fail
    go_quiet ((go_at_call 83; exact quiet_eq ⟨_, rfl⟩ (HP.out _ (HS1.out.drewN _))))
    have HS2 := Lib.hid (HS1.out.trans (still_drewN w1 nq))
    generalize w1.drewN nq = w2 at *
    have HCP := Lib.hid (copied_any (some ⟨b, off + k * 4, none⟩) q (cap - k) ((xs.drop k).take q) w2 (HR.out _ HS2.out) (fun h => by cases h) (by omega) HDT.out)
    go_wp2_with fail
    refine HCP.out.mono ?_
    rintro e w3 ⟨v3, ys, rfl, hye, hyr, hyd, hyb⟩
    have HYE := Lib.hid hye
    have HYR := Lib.hid hyr
    have HYD := Lib.hid hyd
    have HYB := Lib.hid hyb
    clear hye hyr hyd hyb
    go_wp2
    go_ret
    have hyl : ys.length = q := by have := HYR.out.1; rw [rowE_len] at this; omega
    have hz : w2.heap.size = w.heap.size := by rw [HS2.out.1]
    exact ⟨v3, ys, rfl, HYE.out, by rw [hyl, ← hz]; exact HYR.out, by rw [← hz]; exact HYD.out, (below_still HS2.out (Nat.le_refl _)).trans (by have := HYB.out; rwa [hz] at this)⟩
  · have hmq : q = N := by have := HQ.out; omega
    subst hmq
    go_enter Tryz.func50, Tryz.ntmps50
    go_wp2_with fail
    refine HF.out.mono ?_
    rintro e w1 ⟨rfl, rfl⟩
    go_wp2_with fail
    refine HLA.out.mono ?_
    rintro e w1 ⟨rfl, hw⟩
    have HS1 := Lib.hid (show Still w w1 by obtain ⟨j, rfl⟩ := hw; exact still_drewN _ _)
    clear hw
    obtain ⟨c0, c1, c2, c3, c4⟩ := (HL.out.still HS1.out).lb.cells
    go_wp2_with fail
    go_quiet ((go_at_call 83; exact quiet_eq ⟨_, rfl⟩ (HP.out _ (HS1.out.drewN _))))
    have HS2 := Lib.hid (HS1.out.trans (still_drewN w1 nq))
    generalize w1.drewN nq = w2 at *
    have HCP := Lib.hid (copied_any (some ⟨b, off + k * 4, none⟩) q (cap - k) ((xs.drop k).take q) w2 (HR.out _ HS2.out) (fun h => by cases h) (by omega) HDT.out)
    go_wp2_with fail
    refine HCP.out.mono ?_
    rintro e w3 ⟨v3, ys, rfl, hye, hyr, hyd, hyb⟩
    have HYE := Lib.hid hye
    have HYR := Lib.hid hyr
    have HYD := Lib.hid hyd
    have HYB := Lib.hid hyb
    clear hye hyr hyd hyb
    go_wp2
    go_ret
    have hyl : ys.length = q := by have := HYR.out.1; rw [rowE_len] at this; omega
    have hz : w2.heap.size = w.heap.size := by rw [HS2.out.1]
    exact ⟨v3, ys, rfl, HYE.out, by rw [hyl, ← hz]; exact HYR.out, by rw [← hz]; exact HYD.out, (below_still HS2.out (Nat.le_refl _)).trans (by have := HYB.out; rwa [hz] at this)⟩
end Go.Proofs.YtjadfpcipicckaaGreat.Rg
