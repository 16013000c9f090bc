/-
  Layer 7: parts of bytes (Part), and a Whole in memory (Wh): what Put and Done answer, and leave. Conditions: the slices can be read; the Whole was made behind a world.
-/
import Derived.Test.YtejphnbhcabchaaKeepBlk
import Derived.Test.YtejphnbhcabchaaDiskBase
namespace Go.Proofs.Ytejphnbhcabchaa.Kp
open Go.RowKit Go.Proofs.Ytejphnbhcabchaa.Fld
set_option linter.unusedVariables false

theorem run_none (W : World) : (Instr.slice 22 (.slice none 0 0) (some (.int .i64 0)) none none).run Try.prog W = .ok (.slice none 0 0) W := by go_simp
theorem run_zero (a : Addr) (cap : Nat) (hm : cap ≤ 9223372036854775807) (W : World) : (Instr.slice 22 (.slice (some a) 0 cap) (some (.int .i64 0)) none none).run Try.prog W = .ok (.slice (some a) 0 cap) W := by
  have h0 : (0 : Int) ≤ (cap : Int) := by omega
  go_simp
theorem run_upto (A : Option Addr) (n cap u : Nat) (hA : A = none → cap = 0) (hu : u ≤ cap) (W : World) : (Instr.slice 22 (.slice A n cap) none (some (.int .i64 (u : Int))) none).run Try.prog W = .ok (.slice A u cap) W := by
  cases A with
  | some a =>
    have h1 : (0 : Int) ≤ (u : Int) := by omega
    have h3 : (u : Int) ≤ (cap : Int) := by omega
    go_simp
  | none =>
    obtain rfl := hA rfl
    obtain rfl : u = 0 := by omega
    go_simp
theorem run_from (b off n cap f : Nat) (hf : f ≤ n) (hn : n ≤ cap) (hm : cap ≤ 9223372036854775807) (W : World) : (Instr.slice 22 (.slice (some ⟨b, off, none⟩) n cap) (some (.int .i64 (f : Int))) none none).run Try.prog W = .ok (.slice (some (past ⟨b, off, none⟩ cap f)) (n - f) (cap - f)) W := by
  unfold past
  by_cases h : cap = f
  · obtain rfl : n = f := by omega
    subst h
    rw [if_pos rfl]
    have h1 : (0 : Int) ≤ (cap : Int) := by omega
    go_simp
  · rw [if_neg h]
    have h1 : (0 : Int) ≤ (f : Int) := by omega
    have h2 : (f : Int) ≤ (n : Int) := by omega
    have h3 : (n : Int) ≤ (cap : Int) := by omega
    go_simp
/-- 's[f:]', wherever s lies -/
theorem tail_any {w : World} {A : Option Addr} {n cap : Nat} {zs : List Int} (hr : Rd w A n zs) (hA : A = none → cap = 0) (hn : n ≤ cap) (hm : cap ≤ 9223372036854775807) (f : Nat) (hf : f ≤ n) :
    ∃ A' cap', (∀ W, (Instr.slice 22 (.slice A n cap) (some (.int .i64 (f : Int))) none none).run Try.prog W = .ok (.slice A' (n - f) cap') W) ∧ Rd w A' (n - f) (zs.drop f) ∧ (A' = none → cap' = 0) ∧ n - f ≤ cap' := by
  rcases Nat.eq_zero_or_pos n with h0 | h0
  · subst h0
    obtain rfl : f = 0 := by omega
    obtain rfl : zs = [] := List.eq_nil_of_length_eq_zero hr.1
    cases A with
    | none =>
      obtain rfl := hA rfl
      exact ⟨none, 0, run_none, Rd.nil w, fun _ => rfl, by omega⟩
    | some a => exact ⟨some a, cap, run_zero a cap hm, Rd.zero w _, (fun h => by cases h), by omega⟩
  · obtain ⟨b, off, rfl, _⟩ := hr.2.2.2 h0
    refine ⟨_, _, run_from b off n cap f hf hn hm, ?_, (fun h => by cases h), by omega⟩
    exact (Sl.tail (cap := cap) ⟨hr, hn, by unfold maxLen; omega, hA, fun a ha => by injection ha with ha; rw [← ha]⟩ f hf).1
theorem min_run (s k : Int) (W : World) : (Builtin.min_ #[3, 3] 3 #[.int .i64 s, .int .i64 k]).run Try.prog W = .ok (.int .i64 (min s k)) W := by
  simp only [go_sem]
def stPart (zs : List Int) (p s : Int) : Int × List Int := if 65536 < (zs.length : Int) ∨ p < 0 ∨ (zs.length : Int) < p ∨ s < 1 then (1, []) else (0, (zs.drop p.toNat).take s.toNat)
def PartIs (w : World) (r : Int × List Int) (e : Ending) (w' : World) : Prop := ∃ v, e = .returned (.tuple #[v, .int .i64 r.1]) ∧ Own w w' v r.2
theorem stPart_bad {zs : List Int} {p s : Int} (h : 65536 < (zs.length : Int) ∨ p < 0 ∨ (zs.length : Int) < p ∨ s < 1) : stPart zs p s = (1, []) := by unfold stPart; rw [if_pos h]
theorem min_cast (s : Int) (k : Nat) (hs : 1 ≤ s) : ∃ u : Nat, min s (k : Int) = (u : Int) ∧ u ≤ k ∧ u = min s.toNat k := ⟨min s.toNat k, by omega, by omega, rfl⟩
set_option maxRecDepth 100000 in
set_option maxHeartbeats 3200000 in
theorem part_any (A : Option Addr) (n cap : Nat) (zs : List Int) (p s : Int) (w : World) (hr : Rd w A n zs) (hA : A = none → cap = 0) (hn : n ≤ cap) (hm : cap ≤ 140737488355328) (hp : p ≤ 9223372036854775807) :
    Calls Try.prog 6 #[.slice A n cap, .int .i64 p, .int .i64 s] w (PartIs w (stPart zs p s)) := by
  have HL := Lib.hid hr.1
  have HNIL := Lib.hid (show PartIs w (1, []) (.returned (.tuple #[.slice none 0 0, .int .i64 1])) w from ⟨_, rfl, Own.nil w w (Below.refl _ _)⟩)
  by_cases h1 : 65536 < (n : Int)
  · rw [stPart_bad (.inl (by rw [HL.out]; exact h1))]
    clear hr hA
    go_enter Try.func6, Try.ntmps6
    go_wp2
    go_ret2
    exact HNIL.out
  by_cases h2 : p < 0
  · rw [stPart_bad (.inr (.inl h2))]
    clear hr hA
    go_enter Try.func6, Try.ntmps6
    go_wp2
    go_ret2
    exact HNIL.out
  by_cases h3 : (n : Int) < p
  · rw [stPart_bad (.inr (.inr (.inl (by rw [HL.out]; exact h3))))]
    clear hr hA
    go_enter Try.func6, Try.ntmps6
    go_wp2
    go_ret2
    exact HNIL.out
  by_cases h4 : s < 1
  · rw [stPart_bad (.inr (.inr (.inr h4)))]
    clear hr hA
    go_enter Try.func6, Try.ntmps6
    go_wp2
    go_ret2
    exact HNIL.out
  obtain ⟨f, rfl⟩ : ∃ f : Nat, p = (f : Int) := ⟨p.toNat, by omega⟩
  obtain ⟨A', cap', hrun, hr', hA', hc'⟩ := tail_any hr hA hn (by omega) f (by omega)
  obtain ⟨u, hu, hule, hueq⟩ := min_cast s (n - f) (by omega)
  have hrun2 := run_upto A' (n - f) cap' u hA' (by omega)
  have HC := Lib.hid (fun W (hb : Below w.heap.size w W) => clone_any A' u cap' ((zs.drop f).take u) W ((hr'.cut u hule).below hb) hA' (by omega))
  have HE := Lib.hid (show stPart zs (f : Int) s = (0, (zs.drop f).take u) by
    unfold stPart
    rw [if_neg (by rw [HL.out]; omega), Int.toNat_natCast, hueq]
    congr 1
    have : (zs.drop f).length = n - f := by rw [List.length_drop, HL.out]
    rw [← this, List.take_eq_take_min, List.take_eq_take_min (i := min _ _), Nat.min_assoc, Nat.min_self])
  rw [HE.out]
  have hk : ((n - f : Nat) : Int) = ((n - f : Nat) : Int) := rfl
  clear hr hA hr' hA'
  have hmin : ∀ W : World, (Builtin.min_ #[3, 3] 3 #[.int .i64 s, .int .i64 ((n - f : Nat) : Int)]).run Try.prog W = .ok (.int .i64 (u : Int)) W := by
    intro W
    rw [min_run, hu]
  clear hueq hu hk
  go_enter Try.func6, Try.ntmps6
  go_wp2_with fail
  refine (HC.out _ (Below.refl _ _)).mono ?_
  rintro e w1 ⟨v1, rfl, hO⟩
  have HO := Lib.hid hO
  clear hO
  go_wp2
  go_ret2
  exact ⟨_, rfl, HO.out⟩

/-- a Whole: whether it has begun, of how many bytes, which ones -/
structure WhS where
  bg : Bool
  tot : Int
  zs : List Int
def stPut (p tot : Int) (b : List Int) (t : WhS) : Int × WhS :=
  if tot < 0 ∨ 65536 < tot ∨ p < 0 ∨ tot < p ∨ tot - p < (b.length : Int) then (1, t)
  else if p = 0 then (0, ⟨true, tot, b⟩)
  else if t.bg = false ∨ p ≠ (t.zs.length : Int) ∨ tot ≠ t.tot then (7, t)
  else (0, ⟨t.bg, t.tot, t.zs ++ b⟩)
def isDone (t : WhS) : Bool := t.bg && decide ((t.zs.length : Int) = t.tot)
theorem stPut_bad {p tot : Int} {b : List Int} {t : WhS} (h : tot < 0 ∨ 65536 < tot ∨ p < 0 ∨ tot < p ∨ tot - p < (b.length : Int)) : stPut p tot b t = (1, t) := by unfold stPut; rw [if_pos h]
/-- a Whole in memory: block G, its bytes' slice v, made behind w0 -/
structure Wh (w0 W : World) (G : Nat) (v : Value) (t : WhS) : Prop where
  blk : Blk W G #[.bool t.bg, .int .i64 t.tot, v] 28
  own : Own w0 W v t.zs
  ge : w0.heap.size ≤ G
theorem own_far {w0 W : World} {v : Value} {zs : List Int} (h : Own w0 W v zs) {G : Nat} (hG : w0.heap.size ≤ G) (hv : ∀ i, v.ownBlock = some i → i ≠ G) (k : Nat) (x : Value) : Own w0 (W.setCell ⟨G, k, none⟩ x) v zs := by
  obtain ⟨hb, hby, hlen, h⟩ := h
  refine ⟨hb.setCell (p := ⟨G, k, none⟩) hG x, hby, hlen, ?_⟩
  rcases h with h | ⟨g, cap, cur, rfl, hg, hh, h4, h5, h6, h7⟩
  · exact .inl h
  · exact .inr ⟨g, cap, cur, rfl, hg, (Below.heap_setCell _ _ _ _ (hv g rfl)).trans hh, h4, h5, h6, h7⟩
theorem own_block {w0 W : World} {v : Value} {zs : List Int} (h : Own w0 W v zs) {i : Nat} (hi : v.ownBlock = some i) : w0.heap.size ≤ i ∧ ∃ cur, W.heap[i]? = some (.cells cur 5 (0, 0)) := by
  rcases h.2.2.2 with ⟨rfl, _⟩ | ⟨g, cap, cur, rfl, hg, hh, _⟩
  · simp [Value.ownBlock] at hi
  · simp [Value.ownBlock] at hi
    subst hi
    exact ⟨hg, cur, hh⟩
theorem own_ne {w0 W : World} {v : Value} {zs : List Int} (h : Own w0 W v zs) {G : Nat} {cs : Array Value} {ty : TypeId} (hb : Blk W G cs ty) (hty : ty ≠ 5) : ∀ i, v.ownBlock = some i → i ≠ G := by
  rintro i hi rfl
  obtain ⟨_, cur, hh⟩ := own_block h hi
  unfold Blk at hb
  rw [hh] at hb
  injection hb with hb
  injection hb with _ e2 _
  exact hty e2.symm
theorem Wh.lt {w0 W : World} {G : Nat} {v : Value} {t : WhS} (h : Wh w0 W G v t) : G < W.heap.size := h.blk.lt
/-- a call that touches nothing of a Whole leaves it -/
theorem Wh.fr {w0 W W' : World} {G : Nat} {v : Value} {t : WhS} (h : Wh w0 W G v t) {S : List Nat} (hf : Dk.Fr S W W') (hG : G ∉ S) (hv : ∀ i, v.ownBlock = some i → i ∉ S) (hS : ∀ i ∈ S, w0.heap.size ≤ i) : Wh w0 W' G v t := by
  refine ⟨h.blk.of (hf.block G h.lt hG), ?_, h.ge⟩
  obtain ⟨hb, hby, hlen, ho⟩ := h.own
  refine ⟨hf.to_below hb hS, hby, hlen, ?_⟩
  rcases ho with ho | ⟨g, cap, cur, rfl, hg, hh, h4, h5, h6, h7⟩
  · exact .inl ho
  · have lt : g < W.heap.size := by
      rcases Nat.lt_or_ge g W.heap.size with h | h
      · exact h
      · rw [Array.getElem?_eq_none h] at hh; cases hh
    exact .inr ⟨g, cap, cur, rfl, hg, (hf.block g lt (hv g rfl)).trans hh, h4, h5, h6, h7⟩
theorem Wh.below {w0 W W' : World} {G : Nat} {v : Value} {t : WhS} (h : Wh w0 W G v t) (hb : Below W.heap.size W W') : Wh w0 W' G v t := h.fr (S := []) (Dk.Fr.below hb) (by simp) (by simp) (by simp)
/-- what Put leaves -/
def PutIs (w0 W : World) (G : Nat) (v : Value) (r : Int × WhS) (e : Ending) (W' : World) : Prop :=
  e = .returned (.int .i64 r.1) ∧ ∃ v', Wh w0 W' G v' r.2 ∧ Dk.Fr (G :: v.ownBlock.toList) W W' ∧ ∀ i, v'.ownBlock = some i → v.ownBlock = some i ∨ W.heap.size ≤ i
theorem PutIs.same {w0 W : World} {G : Nat} {v : Value} {t : WhS} (h : Wh w0 W G v t) (c : Int) : PutIs w0 W G v (c, t) (.returned (.int .i64 c)) W := ⟨rfl, v, h, Dk.Fr.refl _ _, fun _ hi => .inl hi⟩
set_option maxRecDepth 100000 in
set_option maxHeartbeats 3200000 in
theorem put_any (w0 W : World) (G : Nat) (v : Value) (t : WhS) (p tot : Int) (A : Option Addr) (n cap : Nat) (b : List Int) (h : Wh w0 W G v t) (hr : Rd W A n b) (hA : A = none → cap = 0) (hn : n ≤ 140737488355328) :
    Calls Try.prog 8 #[.pointer (some ⟨G, 0, none⟩), .int .i64 p, .int .i64 tot, .slice A n cap] W (PutIs w0 W G v (stPut p tot b t)) := by
  have HH := Lib.hid h
  have HL := Lib.hid hr.1
  have HR := Lib.hid hr
  have HA := Lib.hid hA
  have HST := Lib.hid (show stPut p tot b t = if tot < 0 ∨ 65536 < tot ∨ p < 0 ∨ tot < p ∨ tot - p < (b.length : Int) then (1, t) else if p = 0 then (0, ⟨true, tot, b⟩) else if t.bg = false ∨ p ≠ (t.zs.length : Int) ∨ tot ≠ t.tot then (7, t) else (0, ⟨t.bg, t.tot, t.zs ++ b⟩) from rfl)
  rw [hr.1] at HST
  have c0 := h.blk.cell 0 _ rfl
  have c1 := h.blk.cell 1 _ rfl
  have c2 := h.blk.cell 2 _ rfl
  have f0 := h.blk.free 0
  have f1 := h.blk.free 1
  have f2 := h.blk.free 2
  generalize stPut p tot b t = R at *
  clear h hr hA
  have badr : ∀ hb : tot < 0 ∨ 65536 < tot ∨ p < 0 ∨ tot < p ∨ tot - p < (n : Int), PutIs w0 W G v R (.returned (.int .i64 1)) W := fun hb => by
    rw [HST.out, if_pos hb]
    exact PutIs.same HH.out 1
  have HBAD := Lib.hid badr
  clear badr
  by_cases h1 : tot < 0
  · go_enter Try.func8, Try.ntmps8
    go_wp2
    go_ret
    exact HBAD.out (.inl h1)
  by_cases h2 : 65536 < tot
  · go_enter Try.func8, Try.ntmps8
    go_wp2
    go_ret
    exact HBAD.out (.inr (.inl h2))
  by_cases h3 : p < 0
  · go_enter Try.func8, Try.ntmps8
    go_wp2
    go_ret
    exact HBAD.out (.inr (.inr (.inl h3)))
  by_cases h4 : tot < p
  · go_enter Try.func8, Try.ntmps8
    go_wp2
    go_ret
    exact HBAD.out (.inr (.inr (.inr (.inl h4))))
  by_cases h5 : tot - p < (n : Int)
  · go_enter Try.func8, Try.ntmps8
    go_wp2
    go_ret
    exact HBAD.out (.inr (.inr (.inr (.inr h5))))
  have HST2 := Lib.hid (HST.out.trans (if_neg (by omega)))
  clear HBAD HST
  by_cases h6 : p = 0
  · subst h6
    have HST3 := Lib.hid (HST2.out.trans (if_pos rfl))
    have HC := Lib.hid (clone_any A n cap b W HR.out HA.out hn)
    clear HST2
    go_enter Try.func8, Try.ntmps8
    go_wp2_with fail
    refine HC.out.mono ?_
    rintro e w1 ⟨v1, rfl, hO⟩
    obtain ⟨A1, cc1, hv1e, _, _⟩ := hO.sl n HL.out
    have hB := hO.1
    have hlt := HH.out.lt
    have hblk := HH.out.blk.below hB
    have hv1 : ∀ i, v1.ownBlock = some i → i ≠ G := fun i hi => by have := (own_block hO hi).1; omega
    have hO2 := own_far (own_far (own_far (hO.since HH.out.own.1) HH.out.ge hv1 0 (.bool true)) HH.out.ge hv1 1 (.int .i64 tot)) HH.out.ge hv1 2 v1
    have hK := ((hblk.set 0 (.bool true) (by simp)).set 1 (.int .i64 tot) (by simp)).set 2 v1 (by simp)
    have HF := Lib.hid (show PutIs w0 W G v R (.returned (.int .i64 0)) (((w1.setCell ⟨G, 0, none⟩ (.bool true)).setCell ⟨G, 1, none⟩ (.int .i64 tot)).setCell ⟨G, 2, none⟩ v1) by
      rw [HST3.out]
      refine ⟨rfl, v1, ⟨hK, hO2, HH.out.ge⟩, (((Dk.Fr.below hB).setCell _ (.inl (by simp)) _).setCell _ (.inl (by simp)) _).setCell _ (.inl (by simp)) _, fun i hi => .inr (own_block hO hi).1⟩)
    have k0 := hblk.cell 0 _ rfl
    have k1 := hblk.cell 1 _ rfl
    have k2 := hblk.cell 2 _ rfl
    have e0 := hblk.free 0
    have e1 := hblk.free 1
    have e2 := hblk.free 2
    clear hO hB hblk hv1 hO2 hK HC c0 c1 c2 f0 f1 f2
    subst hv1e
    go_wp2
    go_ret
    exact HF.out
  have HST3 := Lib.hid (HST2.out.trans (if_neg h6))
  clear HST2
  have HORD := Lib.hid (show (t.bg = false ∨ p ≠ (t.zs.length : Int) ∨ tot ≠ t.tot) → PutIs w0 W G v R (.returned (.int .i64 7)) W from fun hb => by
    rw [HST3.out, if_pos hb]
    exact PutIs.same HH.out 7)
  obtain ⟨V, vc, hv, hsv, _⟩ := HH.out.own.sl _ rfl
  have HV := Lib.hid hv
  have hlz : t.zs.length ≤ 140737488355328 ∨ ¬ t.zs.length ≤ 140737488355328 := by omega
  rw [hv] at c2
  clear hsv hv
  cases hbg : t.bg with
  | false =>
    rw [hbg] at c0
    go_enter Try.func8, Try.ntmps8
    go_wp2
    go_ret
    exact HORD.out (.inl hbg)
  | true =>
    rw [hbg] at c0
    have HBG := Lib.hid hbg
    clear hbg
    by_cases h7 : p = (t.zs.length : Int)
    · by_cases h8 : tot = t.tot
      · have HST4 := Lib.hid (HST3.out.trans (if_neg (by rw [HBG.out]; simp; exact ⟨h7, h8⟩)))
        have HLZ := Lib.hid (show t.zs.length + n ≤ 140737488355328 by omega)
        have HX := Lib.hid h7
        have HY := Lib.hid h8
        have HOWN := Lib.hid (show Own w0 W (.slice V t.zs.length vc) t.zs by rw [← HV.out]; exact HH.out.own)
        rw [← h8] at c1
        have q7 : (p != (t.zs.length : Int)) = false := by simpa using h7
        rw [← h7] at q7
        obtain ⟨N, hN⟩ : ∃ N, t.zs.length = N := ⟨_, rfl⟩
        rw [hN] at c2 HOWN h7
        subst h7
        have q8 : (tot != tot) = false := by simp
        clear h8 HORD HST3
        have HW0 := Lib.hid HH.out.own.1
        go_enter Try.func8, Try.ntmps8
        go_wp2_with (at_builtin; refine wpList_append_rd rfl _ _ rfl w0 (.slice V N vc) t.zs rfl HOWN.out A n cap b rfl HA.out HR.out HLZ.out ?_; intro v2 w2 hO2 hg2 hat2; obtain ⟨A2, cc2, hv2e, _, _⟩ := hO2.sl (N + n) (by rw [List.length_append, hN, HL.out]); have HO2 := Lib.hid hO2; have HG2 := Lib.hid hg2; have HAT2 := Lib.hid hat2; have hne : ∀ i, (Value.slice V N vc).ownBlock = some i → i ≠ G := own_ne HOWN.out HH.out.blk (by decide); have hblk2 := HH.out.blk.of (hg2.block G HH.out.lt (fun h => hne G h.symm rfl)); have HK2 := Lib.hid hblk2; have HNE := Lib.hid hne; have k2 := hblk2.cell 2 _ rfl; have e2 := hblk2.free 2; rw [HV.out] at k2; subst hv2e; clear hO2 hg2 hat2 hne hblk2)
        have HF := Lib.hid (show PutIs w0 W G v R (.returned (.int .i64 0)) (w2.setCell ⟨G, 2, none⟩ (.slice A2 (N + n) cc2)) by
          rw [HST4.out]
          have hv2 : ∀ i, (Value.slice A2 (N + n) cc2).ownBlock = some i → i ≠ G := own_ne HO2.out HK2.out (by decide)
          refine ⟨rfl, _, ⟨HK2.out.set 2 _ (by simp), own_far HO2.out HH.out.ge hv2 2 _, HH.out.ge⟩, ?_, ?_⟩
          · refine Dk.Fr.setCell ?_ _ (.inl (by simp)) _
            exact (Dk.Fr.refl _ _).grown HG2.out (fun i hi => .inl (by rw [HV.out, hN, hi]; simp))
          · intro i hi
            rw [HV.out, hN]
            rcases HAT2.out with h | h
            · exact .inl (h.symm.trans hi)
            · rw [h] at hi
              injection hi with hi
              exact .inr (by omega))
        go_ret
        exact HF.out
      · have q7 : (p != (t.zs.length : Int)) = false := by simpa using h7
        have q8 : (tot != t.tot) = true := by simpa using h8
        have HX := Lib.hid h7
        rw [← h7] at q7 
        obtain ⟨N, hN⟩ : ∃ N, t.zs.length = N := ⟨_, rfl⟩
        rw [hN] at c2 h7
        subst h7
        have HO2 := Lib.hid (HORD.out (.inr (.inr h8)))
        go_enter Try.func8, Try.ntmps8
        go_wp2
        go_ret
        exact HO2.out
    · have q7 : (p != (t.zs.length : Int)) = true := by simpa using h7
      have HO2 := Lib.hid (HORD.out (.inr (.inl h7)))
      clear HORD HST3
      go_enter Try.func8, Try.ntmps8
      go_wp2
      go_ret
      exact HO2.out
end Go.Proofs.Ytejphnbhcabchaa.Kp
