/-
  Several texts in one: Layer 6: log.cut in the program, where entries are cut. Conditions: the log's entries are a row of the program's own. Layer 6: content.accept in the program, first part: what it refuses, and a HEAD. Conditions: the content lies in memory (Cont), the record's content can be read. Layer 6: content.accept in the program, second part: records in a wrong place, a HEAD. Conditions: the content lies in memory (Cont), the record's content can be read. Layer 6: how a content in memory goes on behind each change. Conditions: as each theorem states. Layer 6: content.accept in the program, third part: a HEAD that is taken. Conditions: the content lies in memory (Cont), the record's content can be read.
-/
import Derived.Test.YtgmpdifggaggdaaGreatDoorJWalLogB
import Derived.Deep.RegionWith
import Derived.Deep.RegionLaw
namespace Go.Proofs.YtgmpdifggaggdaaGreatDoor.Wl
open Go.RowKit Go.Proofs.YtgmpdifggaggdaaGreatDoor.Fld
set_option linter.unusedVariables false

theorem fr_still {S : List Nat} {w w' : World} (h : Still w w') : Dk.Fr S w w' := ⟨h.2.1, h.2.2.1, h.2.2.2, by rw [h.1]; exact Nat.le_refl _, fun k _ _ => by rw [h.1]⟩
theorem wrap_in (z : Int) (h0 : -9223372036854775808 ≤ z) (h1 : z ≤ 9223372036854775807) : IntKind.i64.wrap z = z := by
  simp only [IntKind.wrap, IntKind.bits, IntKind.signed]
  simp
  omega
theorem wrap_two (i base k : Nat) (h : i = base + 1 + k) (hi : i ≤ 4611686018427387904) : IntKind.i64.wrap (IntKind.i64.wrap ((i : Int) - (base : Int)) - 1) = (k : Int) := by
  rw [wrap_in ((i : Int) - (base : Int)) (by omega) (by omega), wrap_in _ (by omega) (by omega)]
  omega
set_option maxRecDepth 100000 in
set_option maxHeartbeats 6400000 in
theorem cut_mid (B o : Nat) (cs : Array Value) (ty : TypeId) (base i n cap g lo : Nat) (xs : List Value) (w : World) (hB : Blk w B cs ty) (h0 : cs[o]? = some (.int .i64 (base : Int))) (h1 : cs[o + 1]? = some (.slice (some ⟨g, 0, none⟩) n cap)) (hty : 49 ≠ ty) (hrow : w.ownsRow lo 49 4 (.slice (some ⟨g, 0, none⟩) n cap) n xs) (hb : base + n ≤ 4611686018427387904) (hc : base < i) (hc2 : i ≤ base + n) :
    Calls Tryz.prog 89 #[.pointer (some ⟨B, o, none⟩), .int .i64 (i : Int)] w fun e w' => e = .returned (.tuple #[]) ∧ Blk w' B (cs.setIfInBounds (o + 1) (.slice (some ⟨g, 0, none⟩) (i - 1 - base) cap)) ty ∧ w'.ownsRow lo 49 4 (.slice (some ⟨g, 0, none⟩) (i - 1 - base) cap) (i - 1 - base) (xs.take ((i - 1 - base) * 4)) ∧ Dk.Fr [B, g] w w' := by
  have HL := Lib.hid (last_any B o cs ty base n cap _ w hB h0 h1 hb)
  have c0 := hB.cell _ _ h0
  have c1 := hB.cell _ _ h1
  have hgB : g ≠ B := fun h => row_ne hrow hB hty (by rw [← h]; rfl)
  obtain ⟨k, hk⟩ : ∃ k, i - 1 - base = k := ⟨_, rfl⟩
  have hki : i = base + 1 + k := by omega
  rw [hk]
  have ek : IntKind.i64.wrap (IntKind.i64.wrap ((i : Int) - (base : Int)) - 1) = (k : Int) := wrap_two i base k (by omega) (by omega)
  have HD := Lib.hid (show ∀ wq : World, wq.heap = w.heap → Calls Tryz.prog 122 #[.slice (some ⟨g, 0, none⟩) n cap, .int .i64 (IntKind.i64.wrap (IntKind.i64.wrap ((i : Int) - (base : Int)) - 1)), .int .i64 (n : Int)] wq fun e w' => e = .returned (.slice (some ⟨g, 0, none⟩) k cap) ∧ w'.ownsRow lo 49 4 (.slice (some ⟨g, 0, none⟩) k cap) k (xs.take (k * 4)) ∧ Dk.Fr [g] wq w' from fun wq hq => by rw [ek]; exact delE_any g n cap k lo xs wq (row_of hrow (fun i _ => by rw [hq])) (by omega))
  have HB := Lib.hid hB
  have HLT := Lib.hid hB.lt
  have j1 : ¬ (i : Int) ≤ (base : Int) := by omega
  have j2 : (i : Int) ≤ ((base + n : Nat) : Int) := by omega
  have e2 : wrap64 ((i : Int) - (base : Int)) = (i : Int) - (base : Int) := by unfold wrap64; omega
  have e3 : wrap64 ((i : Int) - (base : Int) - 1) = (k : Int) := by unfold wrap64; omega
  clear hB h0 hrow hk hki ek e2 e3
  have H1 := Lib.hid h1
  clear h1
  go_enter Tryz.func89, Tryz.ntmps89
  go_wp2_with (go_at_call 24; refine HL.out.mono ?_; rintro e w1 ⟨rfl, h⟩; have HH := Lib.hid h; clear h)
  have c0' := (HB.out.still HH.out).cell o _ (by rw [← c0, cell_of_row w B o _ _ (0, 0) HB.out])
  have c1' := (HB.out.still HH.out).cell _ _ H1.out
  have HK := Lib.hid (show ∀ W : World, W.heap[B]? = w1.heap[B]? → W.cell? ⟨B, o, none⟩ = some (.int .i64 (base : Int)) from fun W hW => ((HB.out.still HH.out).of hW).cell o _ (by rw [← c0, cell_of_row w B o _ _ (0, 0) HB.out]))
  go_region_with (first
    | (go_at_call 122; refine (HD.out _ (by exact HH.out.1)).mono ?_; rintro e w2 ⟨rfl, hr2, hf2⟩; have hB2 := (HB.out.still HH.out).of (hf2.block B (HB.out.still HH.out).lt (by simpa using hgB.symm)); have HR2 := Lib.hid hr2; have HF2 := Lib.hid hf2; have HB2 := Lib.hid hB2; have cz := hB2.cell _ _ H1.out; have fz := hB2.free (o + 1); clear hr2 hf2 hB2)
    )
  all_goals
    go_wp2
    go_end0
    have hf : Dk.Fr [B, g] w w2 := (show Dk.Fr [B, g] w w1 from fr_still HH.out).same ⟨HF2.out.os, HF2.out.tape, HF2.out.output, HF2.out.size, fun k hk hn => HF2.out.block k hk (by simp at hn ⊢; exact hn.2)⟩
    refine ⟨rfl, HB2.out.set (o + 1) _ (lt_of_at H1.out), row_of HR2.out (fun i hi => Below.heap_setCell _ _ _ _ (fun h => hgB (by cases hi; exact h))), hf.setCell _ (.inl (by simp)) _⟩
end Go.Proofs.YtgmpdifggaggdaaGreatDoor.Wl

namespace Go.Proofs.YtgmpdifggaggdaaGreatDoor.Wl
open Go.RowKit Go.Proofs.YtgmpdifggaggdaaGreatDoor.Fld
set_option linter.unusedVariables false

theorem fr_low {S : List Nat} {lo : Nat} {w w' : World} (hf : Dk.Fr S w w') (hlo : lo ≤ w.heap.size) (hS : ∀ i ∈ S, lo ≤ i) : Below lo w w' :=
  ⟨hf.os, hf.tape, hf.output, hf.size, fun k hk => hf.block k (by omega) (fun hm => by have := hS k hm; omega)⟩
/-- a content with whatever cells -/
def ContX (lo B o : Nat) (ty : TypeId) (w : World) (c : Ct) : Prop := lo ≤ B ∧ ∃ cs ve vs xs, Cont lo B o cs ty w ve vs xs c
theorem ContX.below {lo B o : Nat} {ty : TypeId} {w w' : World} {c : Ct} (h : ContX lo B o ty w c) (hb : Below w.heap.size w w') : ContX lo B o ty w' c := by
  obtain ⟨h1, cs, ve, vs, xs, h2⟩ := h
  exact ⟨h1, cs, ve, vs, xs, h2.below hb⟩
/-- the blocks of a content that may be written -/
def CtF (B : Nat) (ve vs : Value) : List Nat := B :: (ve.ownBlock.toList ++ vs.ownBlock.toList)
/-- a content in memory, and which of its blocks may be written -/
def ContS (lo B o : Nat) (ty : TypeId) (FT : List Nat) (w : World) (c : Ct) : Prop := lo ≤ B ∧ ∃ cs ve vs xs, Cont lo B o cs ty w ve vs xs c ∧ FT = CtF B ve vs
theorem ContS.x {lo B o : Nat} {ty : TypeId} {FT : List Nat} {w : World} {c : Ct} (h : ContS lo B o ty FT w c) : ContX lo B o ty w c := by
  obtain ⟨h1, cs, ve, vs, xs, h2, _⟩ := h
  exact ⟨h1, cs, ve, vs, xs, h2⟩
theorem ContS.below {lo B o : Nat} {ty : TypeId} {FT : List Nat} {w w' : World} {c : Ct} (h : ContS lo B o ty FT w c) (hb : Below w.heap.size w w') : ContS lo B o ty FT w' c := by
  obtain ⟨h1, cs, ve, vs, xs, h2, h3⟩ := h
  exact ⟨h1, cs, ve, vs, xs, h2.below hb, h3⟩
theorem ContS.lt {lo B o : Nat} {ty : TypeId} {FT : List Nat} {w : World} {c : Ct} (h : ContS lo B o ty FT w c) : ∀ i ∈ FT, i < w.heap.size := by
  obtain ⟨h1, cs, ve, vs, xs, h2, rfl⟩ := h
  intro i hi
  simp only [CtF, List.mem_cons, List.mem_append, Option.mem_toList] at hi
  rcases hi with rfl | hi | hi
  · exact h2.lt _ (.inl rfl)
  · exact h2.lt _ (.inr (.inl hi))
  · exact h2.lt _ (.inr (.inr (.inl hi)))
theorem ContS.ge {lo B o : Nat} {ty : TypeId} {FT : List Nat} {w : World} {c : Ct} (h : ContS lo B o ty FT w c) : ∀ i ∈ FT, lo ≤ i := by
  obtain ⟨h1, cs, ve, vs, xs, h2, rfl⟩ := h
  intro i hi
  simp only [CtF, List.mem_cons, List.mem_append, Option.mem_toList] at hi
  rcases hi with rfl | hi | hi
  · exact h1
  · exact (row_lo h2.rE i hi).1
  · exact (row_lo h2.rS i hi).1
theorem ctf_B {B : Nat} {ve vs : Value} : ∀ j ∈ [B], j ∈ CtF B ve vs := by
  intro j hj
  simp only [List.mem_singleton] at hj
  simp [CtF, hj]
theorem ctf_e {B : Nat} {ve vs : Value} : ∀ j ∈ B :: ve.ownBlock.toList, j ∈ CtF B ve vs := by
  intro j hj
  simp only [CtF, List.mem_cons, List.mem_append] at hj ⊢
  rcases hj with hj | hj
  · exact .inl hj
  · exact .inr (.inl hj)
theorem ctf_s {B : Nat} {ve vs : Value} : ∀ j ∈ B :: vs.ownBlock.toList, j ∈ CtF B ve vs := by
  intro j hj
  simp only [CtF, List.mem_cons, List.mem_append] at hj ⊢
  rcases hj with hj | hj
  · exact .inl hj
  · exact .inr (.inr hj)
/-- blocks that a content has now: those of before, or new ones -/
theorem ctf_sub {B N : Nat} {ve vs ve' vs' : Value} (he : ∀ i, ve'.ownBlock = some i → ve.ownBlock = some i ∨ N ≤ i) (hs : ∀ i, vs'.ownBlock = some i → vs.ownBlock = some i ∨ N ≤ i) : ∀ j ∈ CtF B ve' vs', j ∈ CtF B ve vs ∨ N ≤ j := by
  intro j hj
  simp only [CtF, List.mem_cons, List.mem_append, Option.mem_toList] at hj ⊢
  rcases hj with hj | hj | hj
  · exact .inl (.inl hj)
  · rcases he j hj with h | h
    · exact .inl (.inr (.inl h))
    · exact .inr h
  · rcases hs j hj with h | h
    · exact .inl (.inr (.inr h))
    · exact .inr h
theorem own_new {v v' : Value} {M N : Nat} (h : v'.ownBlock = v.ownBlock ∨ ∃ j, v'.ownBlock = some j ∧ M ≤ j) (hN : N ≤ M) : ∀ i, v'.ownBlock = some i → v.ownBlock = some i ∨ N ≤ i := by
  intro i hi
  rcases h with h | ⟨j, hj, hm⟩
  · exact .inl (by rw [← h]; exact hi)
  · rw [hj] at hi
    cases hi
    exact .inr (by omega)
theorem seg_set {w : World} {lo m cap q : Nat} {l : List Sg} {s : Sg} (h : w.ownsRow lo 69 3 (.slice (some ⟨q, 0, none⟩) m cap) m (rowS (l ++ [s]))) (hm : m = l.length + 1) (z : Nat) :
    (w.setCell ⟨q, (m - 1) * 3 + 2, none⟩ (.int .i64 (z : Int))).ownsRow lo 69 3 (.slice (some ⟨q, 0, none⟩) m cap) m (rowS (l ++ [⟨s.num, s.next, z⟩])) := by
  obtain ⟨h1, hv | ⟨g, cp, cur, hv, hg, hb, hn, hc, hcs, hcu⟩⟩ := h
  · cases hv.1
  · simp only [Value.slice.injEq, Option.some.injEq, Addr.mk.injEq] at hv
    obtain ⟨⟨rfl, _, _⟩, _, rfl⟩ := hv
    refine ⟨by rw [rowS_len]; simp; omega, .inr ⟨q, cap, _, rfl, hg, Blk.set (show Blk w q cur 69 from hb) ((m - 1) * 3 + 2) (.int .i64 (z : Int)) (by omega), hn, hc, by simpa using hcs, ?_⟩⟩
    have e : rowS (l ++ [⟨s.num, s.next, z⟩]) = (rowS (l ++ [s])).set ((m - 1) * 3 + 2) (.int .i64 (z : Int)) := by
      rw [rowS_append, rowS_append, List.set_append_right _ _ (by rw [rowS_len]; omega), rowS_len]
      congr 1
      rw [show (m - 1) * 3 + 2 - l.length * 3 = 2 by omega]
      rfl
    rw [e, ← hcu, Array.toList_setIfInBounds, List.take_set]
set_option maxRecDepth 100000 in
set_option maxHeartbeats 3200000 in
theorem acc_no {lo B o : Nat} {ty : TypeId} {c : Ct} (num : Nat) (first : Bool) (A : Option Addr) (n cap : Nat) (b : List Int) (w : World) (h : ContX lo B o ty w c) (hr : Rd w A n b) (hA : A = none → cap = 0) (hn : n ≤ 65536) (hd : dec b = none) :
    Calls Tryz.prog 66 #[.pointer (some ⟨B, o, none⟩), .int .i64 (num : Int), .bool first, .slice A n cap] w fun e w' => e = .returned (.bool false) ∧ Below w.heap.size w w' := by
  have HD := Lib.hid (decode_any A n cap b w hr hA (by omega))
  clear h hr hA
  go_enter Tryz.func66, Tryz.ntmps66
  go_wp2_with fail
  refine HD.out.mono ?_
  rintro e w1 ⟨v, A2, cap2, rfl, h0, _, hb⟩
  have hv := h0 hd
  subst hv
  rw [hd]
  have HB := Lib.hid (hb.trans ((alloc_below' w1 (.cells #[.int .i64 0, .int .i64 0, .int .i64 0, .int .i64 0, .int .i64 0, .int .i64 0, .slice none 0 0] 124)).mono hb.size))
  clear h0 hb
  simp only [Option.isSome_none]
  go_wp2
  go_ret
  exact ⟨rfl, HB.out⟩
end Go.Proofs.YtgmpdifggaggdaaGreatDoor.Wl

namespace Go.Proofs.YtgmpdifggaggdaaGreatDoor.Wl
open Go.RowKit Go.Proofs.YtgmpdifggaggdaaGreatDoor.Fld
set_option linter.unusedVariables false


def isHead : Ch → Bool
  | .head _ _ => true
  | _ => false
set_option maxRecDepth 100000 in
set_option maxHeartbeats 6400000 in
theorem acc_mis (B o : Nat) (num : Nat) (first : Bool) (A : Option Addr) (n cap : Nat) (b : List Int) (w : World) (ch : Ch) (hr : Rd w A n b) (hA : A = none → cap = 0) (hn : n ≤ 65536) (hd : dec b = some ch) (hm : first ≠ isHead ch) :
    Calls Tryz.prog 66 #[.pointer (some ⟨B, o, none⟩), .int .i64 (num : Int), .bool first, .slice A n cap] w fun e w' => e = .returned (.bool false) ∧ Below w.heap.size w w' := by
  have HD := Lib.hid (decode_any A n cap b w hr hA (by omega))
  clear hr hA
  go_enter Tryz.func66, Tryz.ntmps66
  go_wp2_with fail
  refine HD.out.mono ?_
  rintro e w1 ⟨v, A2, cap2, rfl, _, h0, hb⟩
  have hv := (h0 ch hd).1
  subst hv
  rw [hd]
  simp only [Option.isSome_some]
  have HB := Lib.hid (show ∀ cs, Below w.heap.size w (w1.alloc (.cells cs 124)) from fun cs => hb.trans ((alloc_below' w1 _).mono hb.size))
  clear h0 hb hd
  cases ch with
  | head n' i =>
    obtain rfl : first = false := by cases first <;> simp [isHead] at hm ⊢
    unfold chV
    go_wp2
    go_ret
    exact ⟨rfl, HB.out _⟩
  | entry e =>
    obtain rfl : first = true := by cases first <;> simp [isHead] at hm ⊢
    obtain ⟨ei, et, ek, d⟩ := e
    unfold chV
    simp only
    generalize d.length = dl
    go_wp2
    go_ret
    exact ⟨rfl, HB.out _⟩
  | cut i =>
    obtain rfl : first = true := by cases first <;> simp [isHead] at hm ⊢
    unfold chV
    go_wp2
    go_ret
    exact ⟨rfl, HB.out _⟩
  | reset i =>
    obtain rfl : first = true := by cases first <;> simp [isHead] at hm ⊢
    unfold chV
    go_wp2
    go_ret
    exact ⟨rfl, HB.out _⟩
set_option maxRecDepth 100000 in
set_option maxHeartbeats 6400000 in
theorem acc_head {lo B o : Nat} {ty : TypeId} {c : Ct} (num : Nat) (A : Option Addr) (n cap : Nat) (b : List Int) (w : World) (n' i : Nat) (h : ContX lo B o ty w c) (hlo : lo ≤ w.heap.size) (hr : Rd w A n b) (hA : A = none → cap = 0) (hn : n ≤ 65536) (hd : dec b = some (.head n' i)) (hf : n' ≠ num ∨ ¬ follows c n' i) (hx : c.lg.es.length ≤ 2000000) (hl : c.segs.length ≤ 2000000) :
    Calls Tryz.prog 66 #[.pointer (some ⟨B, o, none⟩), .int .i64 (num : Int), .bool true, .slice A n cap] w fun e w' => e = .returned (.bool false) ∧ Below w.heap.size w w' := by
  have HD := Lib.hid (decode_any A n cap b w hr hA (by omega))
  have hok := dec_ok hr.2.2.1 hd
  clear hr hA
  go_enter Tryz.func66, Tryz.ntmps66
  go_wp2_with fail
  refine HD.out.mono ?_
  rintro e w1 ⟨v, A2, cap2, rfl, _, h0, hb⟩
  have hv := (h0 _ hd).1
  subst hv
  rw [hd]
  simp only [Option.isSome_some]
  have HB := Lib.hid (show ∀ cs, Below w.heap.size w (w1.alloc (.cells cs 124)) from fun cs => hb.trans ((alloc_below' w1 _).mono hb.size))
  have HC := Lib.hid ((h.below hb).below (alloc_below' w1 (.cells (headC n' i) 124)))
  clear h0 hb hd h
  unfold chV
  obtain ⟨k1, k2, k3, k4⟩ := hok
  unfold MI at k4
  by_cases hne : n' = num
  · have hfo : ¬ follows c n' i := by rcases hf with hf | hf; exact absurd hne hf; exact hf
    subst hne
    have hsg : c.segs ≠ [] := by
      intro hs
      apply hfo
      unfold follows
      rw [hs]
      trivial
    obtain ⟨l, s, hls⟩ := snoc_of c.segs hsg
    obtain ⟨_, cs, ve, vs, xs, hct⟩ := HC.out
    have hxl : xs.length = c.lg.es.length := by rw [hct.es]; simp
    have hfa := follows_some hct n' i (by omega) (by omega) l s hls (by rw [hls] at hl; simp at hl; omega) (by omega)
    rw [decide_eq_false (fun hh => hfo (by unfold follows; rw [hls, List.getLast?_concat]; exact hh))] at hfa
    have HFA := Lib.hid hfa
    clear hfa hct hfo hls hsg hf
    unfold headC at HFA
    go_wp2_with fail
    refine HFA.out.mono ?_
    rintro e w2 ⟨rfl, hb2⟩
    have HB2 := Lib.hid ((HB.out _).trans (hb2.mono (HB.out _).size))
    clear hb2
    go_wp2
    go_ret
    exact ⟨rfl, HB2.out⟩
  · have j1 : ¬ (n' : Int) = (num : Int) := by omega
    clear hf
    go_wp2
    go_ret
    exact ⟨rfl, HB.out _⟩
end Go.Proofs.YtgmpdifggaggdaaGreatDoor.Wl

namespace Go.Proofs.YtgmpdifggaggdaaGreatDoor.Wl
open Go.RowKit Go.Proofs.YtgmpdifggaggdaaGreatDoor.Fld
set_option linter.unusedVariables false

section
variable {lo B o : Nat} {cs : Array Value} {ty : TypeId} {w : World} {ve vs : Value} {xs : List EA} {c : Ct}
theorem Cont.seg_form (h : Cont lo B o cs ty w ve vs xs c) {l : List Sg} {s : Sg} (hs : c.segs = l ++ [s]) : ∃ q cp, vs = .slice (some ⟨q, 0, none⟩) (l.length + 1) cp := by
  have hr := h.rS
  rw [hs] at hr
  have hlen : (l ++ [s]).length = l.length + 1 := by simp
  rw [hlen] at hr
  rcases hr.2 with ⟨_, h0⟩ | ⟨q, cap, cur, hv, _⟩
  · omega
  · exact ⟨q, cap, hv⟩
theorem row_free {base size n q : Nat} {ety : TypeId} {v : Value} {ys : List Value} (h : w.ownsRow base ety size v n ys) (hq : v.ownBlock = some q) (k : Nat) : w.frozen? ⟨q, k, none⟩ = false := by
  rcases h.2 with ⟨rfl, _⟩ | ⟨g, cap, cur, rfl, _, hg, _⟩
  · cases hq
  · cases hq
    exact frozen_of_row w _ _ _ _ hg
/-- the content is told by other rows now -/
theorem Cont.turn (h : Cont lo B o cs ty w ve vs xs c) {w' : World} {cs' : Array Value} {vs' : Value} {segs' : List Sg} (hf : Dk.Fr (B :: vs.ownBlock.toList) w w') (hb : Blk w' B cs' ty) (k0 : cs'[o]? = cs[o]?) (k1 : cs'[o + 1]? = cs[o + 1]?) (k2 : cs'[o + 2]? = some vs') (hr : w'.ownsRow lo 69 3 vs' segs'.length (rowS segs')) (hok : (Ct.mk c.lg segs').Ok) : Cont lo B o cs' ty w' ve vs' xs ⟨c.lg, segs'⟩ := by
  have hne : ∀ i, (∃ sz n ys et, et ≠ 69 ∧ et ≠ ty ∧ ∃ v, w.ownsRow lo et sz v n ys ∧ v.ownBlock = some i) → w'.heap[i]? = w.heap[i]? := by
    rintro i ⟨sz, n, ys, et, h1, h2, v, hrow, hv⟩
    refine hf.block i (row_lo hrow i hv).2 ?_
    intro hm
    rcases List.mem_cons.1 hm with rfl | hm
    · exact row_ne hrow h.blk h2 hv
    · rw [Option.mem_toList] at hm
      exact rows_ne hrow h.rS h1 i hv hm
  exact ⟨hb, k0.trans h.c0, k1.trans h.c1, k2, h.es, row_of h.rE (fun i hi => hne i ⟨_, _, _, _, by decide, h.t1, _, h.rE, hi⟩), hr, fun x hx => (h.dat x hx).of (fun i hi => hne i ⟨_, _, _, _, by decide, h.t3, _, (h.dat x hx).2, hi⟩), hok, h.t1, h.t2, h.t3⟩
/-- the content has a log without entries now -/
theorem Cont.empty (h : Cont lo B o cs ty w ve vs xs c) {w' : World} {cs' : Array Value} {vs' : Value} {segs' : List Sg} {i : Nat} (hb : Blk w' B cs' ty) (k0 : cs'[o]? = some (.int .i64 ((i - 1 : Nat) : Int))) (k1 : cs'[o + 1]? = some (.slice none 0 0)) (k2 : cs'[o + 2]? = some vs') (hr : w'.ownsRow lo 69 3 vs' segs'.length (rowS segs')) (hok : (Ct.mk (Lg.restart i) segs').Ok) : Cont lo B o cs' ty w' (.slice none 0 0) vs' [] ⟨Lg.restart i, segs'⟩ :=
  ⟨hb, k0, k1, k2, rfl, ⟨rfl, .inl ⟨rfl, rfl⟩⟩, hr, (fun x hx => by simp at hx), hok, h.t1, h.t2, h.t3⟩
theorem Cont.sized (h : Cont lo B o cs ty w ve vs xs c) {l : List Sg} {s : Sg} (hs : c.segs = l ++ [s]) {q cp m : Nat} (hv : vs = .slice (some ⟨q, 0, none⟩) m cp) (hm : m = l.length + 1) (k : Nat) : Cont lo B o cs ty (w.setCell ⟨q, (m - 1) * 3 + 2, none⟩ (.int .i64 ((s.size + k : Nat) : Int))) ve vs xs ⟨c.lg, addSz k c.segs⟩ := by
  have hq : vs.ownBlock = some q := by rw [hv]; rfl
  have hqB : q ≠ B := fun he => row_ne h.rS h.blk h.t2 (by rw [hq, he])
  have hr := h.rS
  rw [hs, hv] at hr
  have hlen : (l ++ [s]).length = m := by simp; omega
  rw [hlen] at hr
  refine h.turn (cs' := cs) (vs' := vs) ((Dk.Fr.refl _ w).setCell _ (.inl (by rw [hq]; simp)) _) (h.blk.far _ hqB _) rfl rfl h.c2 ?_ (h.ok.sized h.ok.1 k)
  rw [hs, addSz_snoc]
  have := seg_set hr hm (s.size + k)
  rw [hv]
  have e2 : (l ++ [(⟨s.num, s.next, s.size + k⟩ : Sg)]).length = m := by simp; omega
  rw [e2]
  exact this
end
end Go.Proofs.YtgmpdifggaggdaaGreatDoor.Wl

namespace Go.Proofs.YtgmpdifggaggdaaGreatDoor.Wl
open Go.RowKit Go.Proofs.YtgmpdifggaggdaaGreatDoor.Fld
set_option linter.unusedVariables false

theorem head_ok {c : Ct} (h : c.Ok) {n' i : Nat} (k : (Ch.head n' i).Ok) {lg : Lg} (hl : lg.Ok) : (Ct.mk lg (c.segs ++ [⟨n', i, 0⟩])).Ok := by
  refine ⟨hl, fun s hs => ?_⟩
  rcases List.mem_append.1 hs with hs | hs
  · exact h.2 s hs
  · simp at hs; subst hs; exact k
theorem sum_8 (n : Nat) (h : n ≤ 65536) : wrap64 (8 + (n : Int)) = 8 + (n : Int) := by unfold wrap64; omega
theorem sum_sz (SZ n : Nat) (h0 : SZ ≤ 1099511627776) (h : n ≤ 65536) : wrap64 ((SZ : Int) + (8 + (n : Int))) = (SZ : Int) + (8 + (n : Int)) := by unfold wrap64; omega
def Accd (lo B o : Nat) (ty : TypeId) (FT : List Nat) (w : World) (c' : Ct) (e : Ending) (w' : World) : Prop := e = .returned (.bool true) ∧ ∃ S', ContS lo B o ty S' w' c' ∧ Dk.Fr FT w w' ∧ ∀ j ∈ S', j ∈ FT ∨ w.heap.size ≤ j
set_option maxRecDepth 100000 in
set_option maxHeartbeats 6400000 in
theorem acc_head_more {lo B o : Nat} {ty : TypeId} {FT : List Nat} {c : Ct} (num : Nat) (A : Option Addr) (n cap : Nat) (b : List Int) (w : World) (i : Nat) (h : ContS lo B o ty FT w c) (hlo : lo ≤ w.heap.size) (hr : Rd w A n b) (hA : A = none → cap = 0) (hn : n ≤ 65536) (hd : dec b = some (.head num i)) (hfo : follows c num i) (hsg : c.segs ≠ []) (hx : c.lg.es.length ≤ 2000000) (hl : c.segs.length ≤ 2000000) :
    Calls Tryz.prog 66 #[.pointer (some ⟨B, o, none⟩), .int .i64 (num : Int), .bool true, .slice A n cap] w (Accd lo B o ty FT w ⟨c.lg, c.segs ++ [⟨num, i, 8 + n⟩]⟩) := by
  have HD := Lib.hid (decode_any A n cap b w hr hA (by omega))
  have hok := dec_ok hr.2.2.1 hd
  clear hr hA
  have hloB := h.1
  unfold Accd
  go_enter Tryz.func66, Tryz.ntmps66
  go_wp2_with fail
  refine HD.out.mono ?_
  rintro e w1 ⟨v, A2, cap2, rfl, _, h0, hb⟩
  have hv := (h0 _ hd).1
  subst hv
  rw [hd]
  simp only [Option.isSome_some]
  have HB := Lib.hid (hb.trans ((alloc_below' w1 (.cells (headC num i) 124)).mono hb.size))
  have HC := Lib.hid ((h.below hb).below (alloc_below' w1 (.cells (headC num i) 124)))
  have HH := Lib.hid (Blk.new w1 (headC num i) 124)
  clear h0 hb hd h
  unfold chV
  have HOK := Lib.hid hok
  obtain ⟨k1, k2, k3, k4⟩ := hok
  unfold MI at k4
  obtain ⟨l, s, hls⟩ := snoc_of c.segs hsg
  obtain ⟨_, cs, ve, vs, xs, hct, hFT⟩ := HC.out
  subst hFT
  have hxl : xs.length = c.lg.es.length := by rw [hct.es]; simp
  have hfa := follows_some hct num i (by omega) (by omega) l s hls (by rw [hls] at hl; simp at hl; omega) (by omega)
  rw [decide_eq_true (show num = s.num + 1 ∧ i = c.lg.last + 1 by unfold follows at hfo; rw [hls, List.getLast?_concat] at hfo; exact hfo)] at hfa
  have HFA := Lib.hid hfa
  have HCT := Lib.hid hct
  have HSP := Lib.hid (show 0 < c.segs.length by rw [hls]; simp)
  clear hfa hct hfo hxl hls hsg
  unfold headC at HFA
  go_wp2_with fail
  refine HFA.out.mono ?_
  rintro e w2 ⟨rfl, hb2⟩
  have HCT2 := Lib.hid (HCT.out.below hb2)
  have HB2 := Lib.hid (show Below w.heap.size w w2 from HB.out.trans (hb2.mono HB.out.size))
  have HH2 := Lib.hid (HH.out.below hb2)
  clear hb2
  unfold headC at HH2
  have d0 := HH2.out.cell 0 _ rfl
  have d1 := HH2.out.cell 1 _ rfl
  have d2 := HH2.out.cell 2 _ rfl
  have d3 := HH2.out.cell 3 _ rfl
  have d4 := HH2.out.cell 4 _ rfl
  have d5 := HH2.out.cell 5 _ rfl
  have d6 := HH2.out.cell 6 _ rfl
  have HBG := Lib.hid (begin_more B o cs ty lo c.segs.length vs (rowS c.segs) num i w2 HCT2.out.blk HCT2.out.c2 HCT2.out.t2 HCT2.out.rS HSP.out hl (by have := HB2.out.size; omega))
  unfold headC at HBG
  go_wp2_with fail
  refine HBG.out.mono ?_
  rintro e w3 ⟨rfl, vs3, hb3, hr3, hf3, hnb⟩
  have HC3 := Lib.hid (HCT2.out.turn (segs' := c.segs ++ [⟨num, i, 0⟩]) hf3 hb3 (Array.getElem?_setIfInBounds_ne (by omega)) (Array.getElem?_setIfInBounds_ne (by omega)) (Array.getElem?_setIfInBounds_self_of_lt (lt_of_at' HCT2.out.c2)) (by
    have e1 : (c.segs ++ [(⟨num, i, 0⟩ : Sg)]).length = c.segs.length + 1 := by simp
    rw [e1, rowS_append]
    exact hr3) (head_ok HCT2.out.ok HOK.out HCT2.out.ok.1))
  have HBL := Lib.hid (show Dk.Fr (CtF B ve vs) w w3 from (Dk.Fr.below HB2.out).trans hf3 (fun j hj => .inl (ctf_s j hj)))
  have HSUB := Lib.hid (show ∀ j ∈ CtF B ve vs3, j ∈ CtF B ve vs ∨ w.heap.size ≤ j from ctf_sub (fun _ h => .inl h) (own_new hnb HB2.out.size))
  clear HBG hb3 hr3 hf3 hnb d0 d1 d2 d3 d4 d5 d6
  obtain ⟨c3, hc3⟩ : ∃ c3 : Ct, Ct.mk c.lg (c.segs ++ [⟨num, i, 0⟩]) = c3 := ⟨_, rfl⟩
  rw [hc3] at HC3
  obtain ⟨L, hL⟩ : ∃ L, c.segs = L := ⟨_, rfl⟩
  obtain ⟨S, hS⟩ : ∃ S : Sg, (⟨num, i, 0⟩ : Sg) = S := ⟨_, rfl⟩
  obtain ⟨SZ, hSZ0⟩ : ∃ SZ : Nat, S.size = SZ := ⟨_, rfl⟩
  have hz0 : SZ ≤ 1099511627776 := by rw [← hSZ0, ← hS]; simp
  have HS3 := Lib.hid (show c3.segs = L ++ [S] by rw [← hc3, hL, hS])
  have HSZ0 := Lib.hid hSZ0
  have hres : (Ct.mk c3.lg (addSz (8 + n) c3.segs)) = ⟨c.lg, c.segs ++ [⟨num, i, 8 + n⟩]⟩ := by
    rw [HS3.out, addSz_snoc, hL, ← hS, ← hc3]
    simp
  have HRES := Lib.hid hres
  have hLl : L.length ≤ 2000000 := by rw [← hL]; exact hl
  clear hres hc3 hL hS hSZ0
  obtain ⟨q, cp, hvq⟩ := HC3.out.seg_form HS3.out
  have HRS := Lib.hid HC3.out.rS
  obtain ⟨m, hm⟩ : ∃ m, L.length + 1 = m := ⟨_, rfl⟩
  rw [hm] at hvq
  obtain ⟨pp, hpp⟩ : ∃ pp, (m - 1) * 3 = pp := ⟨_, rfl⟩
  have HLS := Lib.hid (lastSeg_any B o q m cp _ ty w3 HC3.out.blk (by rw [HC3.out.c2, hvq]) (by omega) (by omega))
  rw [hpp] at HLS
  have HQ := Lib.hid (show vs3.ownBlock = some q by rw [hvq]; rfl)
  have HRW := Lib.hid (show w3.ownsRow lo 69 3 (.slice (some ⟨q, 0, none⟩) m cp) m (rowS (L ++ [S])) from by
    have := HC3.out.rS
    rw [HS3.out, hvq] at this
    have hlen : (L ++ [S]).length = m := by simp; omega
    rwa [hlen] at this)
  have HSZ := Lib.hid ((HC3.out.sized HS3.out hvq hm.symm (8 + n)))
  have HM := Lib.hid hm
  have HQL := Lib.hid (show lo ≤ q from (row_lo HC3.out.rS q HQ.out).1)
  have HFIN := Lib.hid (show ∀ w4 : World, Still w3 w4 → ∃ S', ContS lo B o ty S' (w4.setCell ⟨q, pp + 2, none⟩ (.int .i64 (((SZ : Nat) : Int) + (8 + (n : Int))))) ⟨c3.lg, addSz (8 + n) c3.segs⟩ ∧ Dk.Fr (CtF B ve vs) w (w4.setCell ⟨q, pp + 2, none⟩ (.int .i64 (((SZ : Nat) : Int) + (8 + (n : Int))))) ∧ ∀ j ∈ S', j ∈ CtF B ve vs ∨ w.heap.size ≤ j from fun w4 hst => by
    rw [← hpp]
    have hc4 := HC3.out.of (w' := w4) (fun i _ => by rw [hst.1])
    have h4 := hc4.sized HS3.out hvq hm.symm (8 + n)
    have ez : ((S.size + (8 + n) : Nat) : Int) = ((SZ : Nat) : Int) + (8 + (n : Int)) := by rw [HSZ0.out]; omega
    rw [ez] at h4
    exact ⟨_, ⟨hloB, _, _, _, _, h4, rfl⟩, (HBL.out.same (fr_still hst)).setCell _ (HSUB.out q (by simp [CtF, HQ.out])) _, HSUB.out⟩)
  have s2 := Lib.hid (show ∀ w4 : World, Still w3 w4 → w4.cell? ⟨q, pp + 2, none⟩ = some (.int .i64 ((SZ : Nat) : Int)) from fun w4 hst => by
    rw [← hpp]
    have := seg_cell (row_of HRW.out (w' := w4) (fun i _ => by rw [hst.1])) hm.symm 2 _ rfl
    rw [HSZ0.out] at this
    exact this)
  have f2 := Lib.hid (show ∀ w4 : World, Still w3 w4 → w4.frozen? ⟨q, pp + 2, none⟩ = false from fun w4 hst => by rw [← hpp]; exact row_free (row_of HRW.out (w' := w4) (fun i _ => by rw [hst.1])) rfl _)
  clear hm hvq hpp
  go_wp2_with (go_at_call 38; refine HLS.out.mono ?_; rintro e w4 ⟨rfl, hst⟩; have y1 := s2.out w4 hst; have y2 := f2.out w4 hst; have HST := Lib.hid hst; clear hst)
  go_ret
  exact ⟨rfl, by rw [← HRES.out]; exact HFIN.out _ HST.out⟩
end Go.Proofs.YtgmpdifggaggdaaGreatDoor.Wl
