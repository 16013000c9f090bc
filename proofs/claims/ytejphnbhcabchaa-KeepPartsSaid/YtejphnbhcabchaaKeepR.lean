/-
  Layer 7: the document's own parts of bytes and its own Whole in memory (Rh): what Part, Put and Done answer, and leave. Conditions: the slices can be read; the Whole was made behind a world.
-/
import Derived.Test.YtejphnbhcabchaaKeepX
namespace Go.Proofs.Ytejphnbhcabchaa.Kp
open Go.RowKit Go.Proofs.Ytejphnbhcabchaa.Fld
set_option linter.unusedVariables false

/-- a Whole in memory: block G, its bytes' slice v, made behind w0 -/
structure Rh (w0 W : World) (G : Nat) (v : Value) (t : WhS) : Prop where
  blk : Blk W G #[v, .int .i64 t.tot, .bool t.bg] 31
  own : Own w0 W v t.zs
  ge : w0.heap.size ≤ G
theorem Rh.lt {w0 W : World} {G : Nat} {v : Value} {t : WhS} (h : Rh w0 W G v t) : G < W.heap.size := h.blk.lt
/-- a call that touches nothing of a Whole leaves it -/
theorem Rh.fr {w0 W W' : World} {G : Nat} {v : Value} {t : WhS} (h : Rh w0 W G v t) {S : List Nat} (hf : Dk.Fr S W W') (hG : G ∉ S) (hv : ∀ i, v.ownBlock = some i → i ∉ S) (hS : ∀ i ∈ S, w0.heap.size ≤ i) : Rh w0 W' G v t := by
  refine ⟨h.blk.of (hf.block G h.lt hG), ?_, h.ge⟩
  obtain ⟨hb, hby, hlen, ho⟩ := h.own
  refine ⟨hf.to_below hb hS, hby, hlen, ?_⟩
  rcases ho with ho | ⟨g, cap, cur, rfl, hg, hh, h4, h5, h6, h7⟩
  · exact .inl ho
  · have lt : g < W.heap.size := by
      rcases Nat.lt_or_ge g W.heap.size with h | h
      · exact h
      · rw [Array.getElem?_eq_none h] at hh; cases hh
    exact .inr ⟨g, cap, cur, rfl, hg, (hf.block g lt (hv g rfl)).trans hh, h4, h5, h6, h7⟩
theorem Rh.below {w0 W W' : World} {G : Nat} {v : Value} {t : WhS} (h : Rh w0 W G v t) (hb : Below W.heap.size W W') : Rh w0 W' G v t := h.fr (S := []) (Dk.Fr.below hb) (by simp) (by simp) (by simp)
/-- what Put leaves -/
def RPutIs (w0 W : World) (G : Nat) (v : Value) (r : Int × WhS) (e : Ending) (W' : World) : Prop :=
  e = .returned (.int .i64 r.1) ∧ ∃ v', Rh w0 W' G v' r.2 ∧ Dk.Fr (G :: v.ownBlock.toList) W W' ∧ ∀ i, v'.ownBlock = some i → v.ownBlock = some i ∨ W.heap.size ≤ i
theorem RPutIs.same {w0 W : World} {G : Nat} {v : Value} {t : WhS} (h : Rh w0 W G v t) (c : Int) : RPutIs w0 W G v (c, t) (.returned (.int .i64 c)) W := ⟨rfl, v, h, Dk.Fr.refl _ _, fun _ hi => .inl hi⟩
set_option maxRecDepth 100000 in
set_option maxHeartbeats 3200000 in
theorem rput_any (w0 W : World) (G : Nat) (v : Value) (t : WhS) (p tot : Int) (A : Option Addr) (n cap : Nat) (b : List Int) (h : Rh w0 W G v t) (hr : Rd W A n b) (hA : A = none → cap = 0) (hn : n ≤ 140737488355328) :
    Calls Try.prog 9 #[.pointer (some ⟨G, 0, none⟩), .int .i64 p, .int .i64 tot, .slice A n cap] W (RPutIs w0 W G v (stPut p tot b t)) := by
  have HH := Lib.hid h
  have HL := Lib.hid hr.1
  have HR := Lib.hid hr
  have HA := Lib.hid hA
  have HST := Lib.hid (show stPut p tot b t = if tot < 0 ∨ 65536 < tot ∨ p < 0 ∨ tot < p ∨ tot - p < (b.length : Int) then (1, t) else if p = 0 then (0, ⟨true, tot, b⟩) else if t.bg = false ∨ p ≠ (t.zs.length : Int) ∨ tot ≠ t.tot then (7, t) else (0, ⟨t.bg, t.tot, t.zs ++ b⟩) from rfl)
  rw [hr.1] at HST
  have c0 := h.blk.cell 2 _ rfl
  have c1 := h.blk.cell 1 _ rfl
  have c2 := h.blk.cell 0 _ rfl
  have f0 := h.blk.free 0
  have f1 := h.blk.free 1
  have f2 := h.blk.free 2
  generalize stPut p tot b t = R at *
  clear h hr hA
  have badr : ∀ hb : tot < 0 ∨ 65536 < tot ∨ p < 0 ∨ tot < p ∨ tot - p < (n : Int), RPutIs w0 W G v R (.returned (.int .i64 1)) W := fun hb => by
    rw [HST.out, if_pos hb]
    exact RPutIs.same HH.out 1
  have HBAD := Lib.hid badr
  clear badr
  by_cases h1 : tot < 0
  · go_enter Try.func9, Try.ntmps9
    go_wp2
    go_ret
    exact HBAD.out (.inl h1)
  by_cases h2 : 65536 < tot
  · go_enter Try.func9, Try.ntmps9
    go_wp2
    go_ret
    exact HBAD.out (.inr (.inl h2))
  by_cases h3 : p < 0
  · go_enter Try.func9, Try.ntmps9
    go_wp2
    go_ret
    exact HBAD.out (.inr (.inr (.inl h3)))
  by_cases h4 : tot < p
  · go_enter Try.func9, Try.ntmps9
    go_wp2
    go_ret
    exact HBAD.out (.inr (.inr (.inr (.inl h4))))
  by_cases h5 : tot - p < (n : Int)
  · go_enter Try.func9, Try.ntmps9
    go_wp2
    go_ret
    exact HBAD.out (.inr (.inr (.inr (.inr h5))))
  have HST2 := Lib.hid (HST.out.trans (if_neg (by omega)))
  clear HBAD HST
  by_cases h6 : p = 0
  · subst h6
    have HST3 := Lib.hid (HST2.out.trans (if_pos rfl))
    have HO0 := Lib.hid (Own.made W W (Below.refl _ _))
    unfold noneBlk at HO0
    have HR0 := Lib.hid (HR.out.below HO0.out.1)
    clear HST2
    go_enter Try.func9, Try.ntmps9
    go_wp2_with (at_builtin; refine wpList_append_rd rfl _ _ rfl W (.slice (some ⟨W.heap.size, 0, none⟩) 0 0) [] rfl HO0.out A n cap b rfl HA.out HR0.out (by simp; omega) ?_; intro v1 w1 hO hg1 _; rw [List.nil_append] at hO; obtain ⟨A1, cc1, hv1e, _, _⟩ := hO.sl n HL.out; have hB := hO.1; have hlt := HH.out.lt; have hblk := HH.out.blk.below hB; have hv1 : ∀ i, v1.ownBlock = some i → i ≠ G := (fun i hi => by have := (own_block hO hi).1; omega); have hO2 := own_far (own_far (own_far (hO.since HH.out.own.1) HH.out.ge hv1 0 v1) HH.out.ge hv1 1 (.int .i64 tot)) HH.out.ge hv1 2 (.bool true); have hK := ((hblk.set 0 v1 (by simp)).set 1 (.int .i64 tot) (by simp)).set 2 (.bool true) (by simp); have HF := Lib.hid (show RPutIs w0 W G v R (.returned (.int .i64 0)) (((w1.setCell ⟨G, 0, none⟩ v1).setCell ⟨G, 1, none⟩ (.int .i64 tot)).setCell ⟨G, 2, none⟩ (.bool true)) from by
      rw [HST3.out]
      exact ⟨rfl, v1, ⟨hK, hO2, HH.out.ge⟩, (((Dk.Fr.below hB).setCell _ (.inl (by simp)) _).setCell _ (.inl (by simp)) _).setCell _ (.inl (by simp)) _, fun i hi => .inr (own_block hO hi).1⟩); have k0 := hblk.cell 0 _ rfl; have k1 := hblk.cell 1 _ rfl; have k2 := hblk.cell 2 _ rfl; have e0 := hblk.free 0; have e1 := hblk.free 1; have e2 := hblk.free 2; subst hv1e; clear hO hB hblk hv1 hO2 hK c0 c1 c2 f0 f1 f2 hg1)
    go_ret
    exact HF.out
  have HST3 := Lib.hid (HST2.out.trans (if_neg h6))
  clear HST2
  have HORD := Lib.hid (show (t.bg = false ∨ p ≠ (t.zs.length : Int) ∨ tot ≠ t.tot) → RPutIs w0 W G v R (.returned (.int .i64 7)) W from fun hb => by
    rw [HST3.out, if_pos hb]
    exact RPutIs.same HH.out 7)
  obtain ⟨V, vc, hv, hsv, _⟩ := HH.out.own.sl _ rfl
  have HV := Lib.hid hv
  have hlz : t.zs.length ≤ 140737488355328 ∨ ¬ t.zs.length ≤ 140737488355328 := by omega
  rw [hv] at c2
  clear hsv hv
  cases hbg : t.bg with
  | false =>
    rw [hbg] at c0
    go_enter Try.func9, Try.ntmps9
    go_wp2
    go_ret
    exact HORD.out (.inl hbg)
  | true =>
    rw [hbg] at c0
    have HBG := Lib.hid hbg
    clear hbg
    by_cases h7 : p = (t.zs.length : Int)
    · by_cases h8 : tot = t.tot
      · have HST4 := Lib.hid (HST3.out.trans (if_neg (by rw [HBG.out]; simp; exact ⟨h7, h8⟩)))
        have HLZ := Lib.hid (show t.zs.length + n ≤ 140737488355328 by omega)
        have HX := Lib.hid h7
        have HY := Lib.hid h8
        have HOWN := Lib.hid (show Own w0 W (.slice V t.zs.length vc) t.zs by rw [← HV.out]; exact HH.out.own)
        rw [← h8] at c1
        have q7 : (p != (t.zs.length : Int)) = false := by simpa using h7
        rw [← h7] at q7
        obtain ⟨N, hN⟩ : ∃ N, t.zs.length = N := ⟨_, rfl⟩
        rw [hN] at c2 HOWN h7
        subst h7
        have q8 : (tot != tot) = false := by simp
        clear h8 HORD HST3
        have HW0 := Lib.hid HH.out.own.1
        go_enter Try.func9, Try.ntmps9
        go_wp2_with (at_builtin; refine wpList_append_rd rfl _ _ rfl w0 (.slice V N vc) t.zs rfl HOWN.out A n cap b rfl HA.out HR.out HLZ.out ?_; intro v2 w2 hO2 hg2 hat2; obtain ⟨A2, cc2, hv2e, _, _⟩ := hO2.sl (N + n) (by rw [List.length_append, hN, HL.out]); have HO2 := Lib.hid hO2; have HG2 := Lib.hid hg2; have HAT2 := Lib.hid hat2; have hne : ∀ i, (Value.slice V N vc).ownBlock = some i → i ≠ G := own_ne HOWN.out HH.out.blk (by decide); have hblk2 := HH.out.blk.of (hg2.block G HH.out.lt (fun h => hne G h.symm rfl)); have HK2 := Lib.hid hblk2; have HNE := Lib.hid hne; have k2 := hblk2.cell 0 _ rfl; have e2 := hblk2.free 0; rw [HV.out] at k2; subst hv2e; clear hO2 hg2 hat2 hne hblk2)
        have HF := Lib.hid (show RPutIs w0 W G v R (.returned (.int .i64 0)) (w2.setCell ⟨G, 0, none⟩ (.slice A2 (N + n) cc2)) by
          rw [HST4.out]
          have hv2 : ∀ i, (Value.slice A2 (N + n) cc2).ownBlock = some i → i ≠ G := own_ne HO2.out HK2.out (by decide)
          refine ⟨rfl, _, ⟨HK2.out.set 0 _ (by simp), own_far HO2.out HH.out.ge hv2 0 _, HH.out.ge⟩, ?_, ?_⟩
          · refine Dk.Fr.setCell ?_ _ (.inl (by simp)) _
            exact (Dk.Fr.refl _ _).grown HG2.out (fun i hi => .inl (by rw [HV.out, hN, hi]; simp))
          · intro i hi
            rw [HV.out, hN]
            rcases HAT2.out with h | h
            · exact .inl (h.symm.trans hi)
            · rw [h] at hi
              injection hi with hi
              exact .inr (by omega))
        go_ret
        exact HF.out
      · have q7 : (p != (t.zs.length : Int)) = false := by simpa using h7
        have q8 : (tot != t.tot) = true := by simpa using h8
        have HX := Lib.hid h7
        rw [← h7] at q7 
        obtain ⟨N, hN⟩ : ∃ N, t.zs.length = N := ⟨_, rfl⟩
        rw [hN] at c2 h7
        subst h7
        have HO2 := Lib.hid (HORD.out (.inr (.inr h8)))
        go_enter Try.func9, Try.ntmps9
        go_wp2
        go_ret
        exact HO2.out
    · have q7 : (p != (t.zs.length : Int)) = true := by simpa using h7
      have HO2 := Lib.hid (HORD.out (.inr (.inl h7)))
      clear HORD HST3
      go_enter Try.func9, Try.ntmps9
      go_wp2
      go_ret
      exact HO2.out
set_option maxRecDepth 100000 in
set_option maxHeartbeats 3200000 in
theorem rdone_any (w0 W : World) (G : Nat) (v : Value) (t : WhS) (h : Rh w0 W G v t) (hl : t.zs.length ≤ 140737488355328) :
    Calls Try.prog 11 #[.pointer (some ⟨G, 0, none⟩)] W (DoneIs W t) := by
  have HH := Lib.hid h
  have c0 := h.blk.cell 2 _ rfl
  have c1 := h.blk.cell 1 _ rfl
  have c2 := h.blk.cell 0 _ rfl
  obtain ⟨V, vc, hv, hsv, _⟩ := h.own.sl _ rfl
  rw [hv] at c2
  have HS := Lib.hid hsv
  clear h hsv hv
  cases hbg : t.bg with
  | false =>
    have HD := Lib.hid (show isDone t = false by unfold isDone; rw [hbg]; rfl)
    rw [hbg] at c0
    go_enter Try.func11, Try.ntmps11
    go_wp2_with fail
    go_quiet (fail)
    go_wp2
    go_ret2
    exact ⟨.slice none 0 0, by rw [HD.out]; rfl, by rw [HD.out]; exact Own.nil _ _ (below_draw W nq)⟩
  | true =>
    rw [hbg] at c0
    by_cases h7 : (t.zs.length : Int) = t.tot
    · have HD := Lib.hid (show isDone t = true by unfold isDone; rw [hbg, decide_eq_true h7]; rfl)
      have q7 : ((t.zs.length : Int) != t.tot) = false := by simpa using h7
      clear h7 hbg
      go_enter Try.func11, Try.ntmps11
      go_wp2_with fail
      go_quiet (fail)
      have d2 : (W.drewN nq).cell? ⟨G, 0, none⟩ = some (.slice V t.zs.length vc) := by simpa using c2
      have HR0 := Lib.hid (HS.out.1.drewN nq)
      have HB0 := Lib.hid (below_draw W nq)
      clear c0 c1 c2
      generalize W.drewN nq = wq at *
      have HO0 := Lib.hid (Own.made wq wq (Below.refl _ _))
      unfold noneBlk at HO0
      have HR1 := Lib.hid (HR0.out.below HO0.out.1)
      have d3 : (wq.alloc (.cells #[] 5)).cell? ⟨G, 0, none⟩ = some (.slice V t.zs.length vc) := (HO0.out.1.cell (lt_of_cell d2)).trans d2
      go_wp2_with (at_builtin; refine wpList_append_rd rfl _ _ rfl wq (.slice (some ⟨wq.heap.size, 0, none⟩) 0 0) [] rfl HO0.out V _ vc t.zs rfl HS.out.2.2.2.1 HR1.out (by simp; omega) ?_; intro v1 w1 hO hg1 _; rw [List.nil_append] at hO; have HO := Lib.hid (hO.since HB0.out); clear hO hg1)
      go_ret2
      exact ⟨v1, by rw [HD.out]; rfl, by rw [HD.out]; exact HO.out⟩
    · have HD := Lib.hid (show isDone t = false by unfold isDone; rw [hbg, decide_eq_false h7]; rfl)
      have q7 : ((t.zs.length : Int) != t.tot) = true := by simpa using h7
      clear h7 hbg
      go_enter Try.func11, Try.ntmps11
      go_wp2_with fail
      go_quiet (fail)
      go_wp2
      go_ret2
      exact ⟨.slice none 0 0, by rw [HD.out]; rfl, by rw [HD.out]; exact Own.nil _ _ (below_draw W nq)⟩

theorem mid_none (W : World) : (Instr.slice 22 (.slice none 0 0) (some (.int .i64 0)) (some (.int .i64 0)) none).run Try.prog W = .ok (.slice none 0 0) W := by
  go_simp
theorem mid_zero (a : Addr) (cap : Nat) (hm : cap ≤ 9223372036854775807) (W : World) : (Instr.slice 22 (.slice (some a) 0 cap) (some (.int .i64 0)) (some (.int .i64 0)) none).run Try.prog W = .ok (.slice (some a) 0 cap) W := by
  have h0 : (0 : Int) ≤ (cap : Int) := by omega
  go_simp
theorem mid_run (b off n f u cap : Nat) (hf : f ≤ u) (hu : u ≤ n) (hn : n ≤ cap) (hm : cap ≤ 9223372036854775807) (W : World) : (Instr.slice 22 (.slice (some ⟨b, off, none⟩) n cap) (some (.int .i64 (f : Int))) (some (.int .i64 (u : Int))) none).run Try.prog W = .ok (.slice (some (past ⟨b, off, none⟩ cap f)) (u - f) (cap - f)) W := by
  unfold past
  by_cases h : cap = f
  · obtain rfl : n = f := by omega
    obtain rfl : u = n := by omega
    subst h
    rw [if_pos rfl]
    have h1 : (0 : Int) ≤ (cap : Int) := by omega
    go_simp
  · rw [if_neg h]
    have h1 : (0 : Int) ≤ (f : Int) := by omega
    have h2 : (f : Int) ≤ (u : Int) := by omega
    have h3 : (u : Int) ≤ (cap : Int) := by omega
    go_simp
/-- 's[f:u]', wherever s lies -/
theorem mid_any {w : World} {A : Option Addr} {n cap : Nat} {zs : List Int} (hr : Rd w A n zs) (hA : A = none → cap = 0) (hn : n ≤ cap) (hm : cap ≤ 9223372036854775807) (f u : Nat) (hf : f ≤ u) (hu : u ≤ n) :
    ∃ A' cap', (∀ W, (Instr.slice 22 (.slice A n cap) (some (.int .i64 (f : Int))) (some (.int .i64 (u : Int))) none).run Try.prog W = .ok (.slice A' (u - f) cap') W) ∧ Rd w A' (u - f) ((zs.drop f).take (u - f)) ∧ (A' = none → cap' = 0) := by
  rcases Nat.eq_zero_or_pos n with h0 | h0
  · subst h0
    obtain rfl : u = 0 := by omega
    obtain rfl : f = 0 := by omega
    obtain rfl : zs = [] := List.eq_nil_of_length_eq_zero hr.1
    cases A with
    | none =>
      obtain rfl := hA rfl
      exact ⟨none, 0, mid_none, Rd.nil w, fun _ => rfl⟩
    | some a => exact ⟨some a, cap, mid_zero a cap hm, Rd.zero w _, fun h => by cases h⟩
  · obtain ⟨b, off, rfl, _⟩ := hr.2.2.2 h0
    refine ⟨_, _, mid_run b off n f u cap hf hu hn hm, ?_, fun h => by cases h⟩
    have := (Sl.tail (cap := cap) ⟨hr, hn, by unfold maxLen; omega, hA, fun a ha => by injection ha with ha; rw [← ha]⟩ f (by omega)).1
    exact this.cut (u - f) (by omega)
set_option maxRecDepth 100000 in
set_option maxHeartbeats 3200000 in
theorem rpart_any (A : Option Addr) (n cap : Nat) (zs : List Int) (p s : Int) (w : World) (hr : Rd w A n zs) (hA : A = none → cap = 0) (hn : n ≤ cap) (hm : cap ≤ 140737488355328) (hp : p ≤ 9223372036854775807) :
    Calls Try.prog 7 #[.slice A n cap, .int .i64 p, .int .i64 s] w (PartIs w (stPart zs p s)) := by
  have HL := Lib.hid hr.1
  have HNIL := Lib.hid (show PartIs w (1, []) (.returned (.tuple #[.slice none 0 0, .int .i64 1])) w from ⟨_, rfl, Own.nil w w (Below.refl _ _)⟩)
  by_cases h1 : 65536 < (n : Int)
  · rw [stPart_bad (.inl (by rw [HL.out]; exact h1))]
    clear hr hA
    go_enter Try.func7, Try.ntmps7
    go_wp2
    go_ret2
    exact HNIL.out
  by_cases h2 : p < 0
  · rw [stPart_bad (.inr (.inl h2))]
    clear hr hA
    go_enter Try.func7, Try.ntmps7
    go_wp2
    go_ret2
    exact HNIL.out
  by_cases h3 : (n : Int) < p
  · rw [stPart_bad (.inr (.inr (.inl (by rw [HL.out]; exact h3))))]
    clear hr hA
    go_enter Try.func7, Try.ntmps7
    go_wp2
    go_ret2
    exact HNIL.out
  by_cases h4 : s < 1
  · rw [stPart_bad (.inr (.inr (.inr h4)))]
    clear hr hA
    go_enter Try.func7, Try.ntmps7
    go_wp2
    go_ret2
    exact HNIL.out
  obtain ⟨f, rfl⟩ : ∃ f : Nat, p = (f : Int) := ⟨p.toNat, by omega⟩
  obtain ⟨u, hu, hule, hueq⟩ := min_cast s (n - f) (by omega)
  obtain ⟨A', cap', hrun, hr', hA'⟩ := mid_any hr hA hn (by omega) f (f + u) (by omega) (by omega)
  rw [Nat.add_sub_cancel_left] at hrun hr'
  have HE := Lib.hid (show stPart zs (f : Int) s = (0, (zs.drop f).take u) by
    unfold stPart
    rw [if_neg (by rw [HL.out]; omega), Int.toNat_natCast, hueq]
    congr 1
    have : (zs.drop f).length = n - f := by rw [List.length_drop, HL.out]
    rw [← this, List.take_eq_take_min, List.take_eq_take_min (i := min _ _), Nat.min_assoc, Nat.min_self])
  rw [HE.out]
  have hmin : ∀ W : World, (Builtin.min_ #[3, 3] 3 #[.int .i64 s, .int .i64 ((n : Int) - (f : Int))]).run Try.prog W = .ok (.int .i64 (u : Int)) W := by
    intro W
    rw [min_run, show (n : Int) - (f : Int) = ((n - f : Nat) : Int) by omega, hu]
  have HO0 := Lib.hid (Own.made w w (Below.refl _ _))
  unfold noneBlk at HO0
  have HR0 := Lib.hid (hr'.below HO0.out.1)
  have HA' := Lib.hid hA'
  have hfu : ((f : Int) + (u : Int)) = ((f + u : Nat) : Int) := by omega
  rw [← hfu] at hrun
  have hub : (u : Int) ≤ 65536 := by omega
  have hfb : (f : Int) ≤ 65536 := by omega
  clear hueq hu hr hA hr' hA' hfu
  go_enter Try.func7, Try.ntmps7
  go_wp2_with (at_builtin; refine wpList_append_rd rfl _ _ rfl w (.slice (some ⟨w.heap.size, 0, none⟩) 0 0) [] rfl HO0.out A' u cap' ((zs.drop f).take u) rfl HA'.out HR0.out (by simp; omega) ?_; intro v1 w1 hO hg1 _; rw [List.nil_append] at hO; have HO := Lib.hid hO; clear hO hg1)
  go_ret2
  exact ⟨v1, rfl, HO.out⟩
end Go.Proofs.Ytejphnbhcabchaa.Kp
