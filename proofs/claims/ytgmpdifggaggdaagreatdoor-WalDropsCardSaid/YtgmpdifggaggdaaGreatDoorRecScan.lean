/-
  What the function Scan of package record answers for whatever bytes: the contents that stand in Sc, each in memory of the call's own, and how many bytes their records have. Conditions: the slice's cells can be read; it has no more than 2^40 bytes.
-/
import Derived.Test.YtgmpdifggaggdaaGreatDoorRecIter
import Derived.Lib.LazyBuf
namespace Go.Proofs.YtgmpdifggaggdaaGreatDoor.Rc
open Go.RowKit Go.Shelf
open Fld (Bytes val Rd past)
set_option linter.unusedVariables false
attribute [local go_sem] Oper.semAt_some

set_option maxHeartbeats 400000 in
theorem clone_some (w0 : World) (a : Addr) (n cap : Nat) (t : List Int) (hr : Rd w0 (some a) n t) (hn : n ≤ 65536) (w : World) (hb : Below w0.heap.size w0 w) :
    Calls Tryz.prog 60 #[.slice (some a) n cap] w (Made w t) := by
  have HO := Lib.hid (Fld.Own.made w w (Below.refl _ _))
  have HR := Lib.hid ((hr.below hb).below HO.out.1)
  clear hr hb
  unfold Fld.noneBlk at HO HR
  have q := fun (w : World) (a : Option Addr) (l c : Nat) => run_eql_slice_nil (P := Tryz.prog) w 45 5 a l c Tryz.underlying45
  go_enter Tryz.func60, Tryz.ntmps60
  go_wp2_with (refine Fld.wpList_append_rd rfl _ _ rfl w (.slice (some ⟨w.heap.size, 0, none⟩) 0 0) [] rfl HO.out (some a) n cap t rfl (fun h => by cases h) HR.out (by simp; omega) ?_)
  intro v1 w1 hO1 _ _
  have HO1 := Lib.hid hO1
  clear hO1
  go_wp2
  go_ret
  exact ⟨_, rfl, HO1.out⟩

/-- v is a slice of slices of the bytes ts, all of them in memory that was made behind w -/
def Rows (w wr : World) (v : Value) (ts : List (List Int)) : Prop :=
  ∃ vs, wr.ownsRow w.heap.size 45 1 v ts.length vs ∧ ∀ i, i < ts.length → ∃ A n c, vs[i]? = some (.slice A n c) ∧ Rd wr A n (ts.getD i []) ∧ (A = none → c = 0) ∧ ∀ a, A = some a → (a.block < wr.heap.size ∧ w.heap.size ≤ a.block) ∧ v.ownBlock ≠ some a.block
theorem Rows.nil (w wr : World) : Rows w wr (.slice none 0 0) [] := ⟨[], World.ownsRow_nil _ _ _ _, fun i hi => by simp at hi⟩
/-- blocks that hold cells are as they were -/
theorem rd_kept {W W' : World} {row : Option Nat} {A : Option Addr} {n : Nat} {zs : List Int} (h : Rd W A n zs) (hg : W.grownBy W' row) (hr : ∀ r, row = some r → ∃ o : Obj, W.heap[r]? = some o ∧ o.isCells = false) : Rd W' A n zs :=
  h.of_same fun a c hc => (cell_kept hc hg hr).trans hc.symm
theorem Rows.kept {w W W' : World} {row : Option Nat} {v : Value} {ts : List (List Int)} (h : Rows w W v ts) (hg : W.grownBy W' row) (hr : ∀ r, row = some r → ∃ o : Obj, W.heap[r]? = some o ∧ o.isCells = false) : Rows w W' v ts := by
  obtain ⟨vs, hrow, he⟩ := h
  refine ⟨vs, hrow.kept hg ?_, fun i hi => ?_⟩
  · rcases hrow.2 with ⟨rfl, _⟩ | ⟨g, cap, cur, rfl, _, hgb, _⟩
    · exact .inl rfl
    · refine .inr fun e' => ?_
      obtain ⟨o, ho, hc⟩ := hr g (by simpa [Value.ownBlock] using e'.symm)
      rw [hgb] at ho; cases ho; cases hc
  · obtain ⟨A, n, c, h1, h2, h3, h4⟩ := he i hi
    exact ⟨A, n, c, h1, rd_kept h2 hg hr, h3, fun a ha => ⟨⟨Nat.lt_of_lt_of_le (h4 a ha).1.1 hg.size, (h4 a ha).1.2⟩, (h4 a ha).2⟩⟩
/-- what a loop over the iterator keeps between two rounds -/
def ScI (w : World) (pre : List (Piece w)) (W : World) : Prop :=
  (∃ v, Boxed W w.heap.size 104 v ∧ Rows w W v (Txts pre)) ∧ Boxed W (w.heap.size + 1) 3 (.int .i64 (((recs (Txts pre)).length : Nat) : Int)) ∧ Below w.heap.size w W
theorem boxed_kept {W W' : World} {row : Option Nat} {B : Nat} {t : TypeId} {v : Value} (h : Boxed W B t v) (hg : W.grownBy W' row) (hr : ∀ r, row = some r → ∃ o : Obj, W.heap[r]? = some o ∧ o.isCells = false) : Boxed W' B t v :=
  h.kept hg (fun e' => by obtain ⟨o, ho, hc⟩ := hr B e'.symm; rw [show W.heap[B]? = _ from h] at ho; cases ho; cases hc)
theorem scI_own (w : World) (B : Nat) (hB : w.heap.size ≤ B) : OwnFrom B (ScI w) := by
  rintro s X Y row ⟨⟨v, hv, hr⟩, hu, hb⟩ hg hrow
  exact ⟨⟨v, boxed_kept hv hg (fun r e => (hrow r e).2), hr.kept hg (fun r e => (hrow r e).2)⟩, boxed_kept hu hg (fun r e => (hrow r e).2), hb.grown hg hb.size (fun k e => Nat.le_trans hB (hrow k e).1)⟩

def Scanned (w : World) (zs : List Int) (e : Ending) (w' : World) : Prop := ∃ ts v, e = .returned (.tuple #[v, .int .i64 (((recs ts).length : Nat) : Int)]) ∧ Sc zs ts ∧ Rows w w' v ts ∧ Below w.heap.size w w'
theorem slice_info : ∃ i, Tryz.prog.info? 45 = some i ∧ i.zero = some (.slice none 0 0) ∧ i.size = 1 ∧ i.bytes = 24 := by
  have h : (Tryz.prog.info? 45).map (fun i => (i.zero, i.size, i.bytes)) = some (some (.slice none 0 0), 1, 24) := by kernel_rfl
  cases hq : Tryz.prog.info? 45 with
  | none => simp [hq] at h
  | some i => simp [hq] at h; exact ⟨i, rfl, h⟩

theorem not_u8_box {W : World} {B : Nat} {t : TypeId} {y : Value} (hb : Boxed W B t y) (hy : ∀ c, y ≠ .int .u8 c) {a : Addr} {c : Int} (h : W.cell? a = some (.int .u8 c)) : a.block ≠ B := by
  rintro rfl
  have hb' : W.heap[a.block]? = some (.cells #[y] t (0, 0)) := hb
  have hs := World.cell?_spot h
  obtain ⟨b, off, sp⟩ := a
  simp only at hs
  subst hs
  rw [cell_of_row W b off #[y] t (0, 0) hb'] at h
  rcases Nat.eq_zero_or_pos off with rfl | ho
  · simp at h; exact hy c h
  · rw [Array.getElem?_eq_none (by simp; omega)] at h; cases h
theorem rd_box {W : World} {B : Nat} {t : TypeId} {y : Value} (hb : Boxed W B t y) (hy : ∀ c, y ≠ .int .u8 c) (z : Value) {A : Option Addr} {n : Nat} {zs : List Int} (h : Rd W A n zs) : Rd (W.setCell ⟨B, 0, none⟩ z) A n zs :=
  h.of_same fun a c hc => World.cell?_of_block (w := W) (Below.heap_setCell _ _ _ _ (not_u8_box hb hy hc))
theorem Rows.box {w W : World} {B : Nat} {t : TypeId} {y v : Value} {ts : List (List Int)} (h : Rows w W v ts) (hb : Boxed W B t y) (ht : t ≠ 45) (hy : ∀ c, y ≠ .int .u8 c) (z : Value) : Rows w (W.setCell ⟨B, 0, none⟩ z) v ts := by
  obtain ⟨vs, hrow, he⟩ := h
  refine ⟨vs, hrow.kept (grownBy_setCell' W B z) (.inr (hb.not_row ht hrow).symm), fun i hi => ?_⟩
  obtain ⟨A, n, c, h1, h2, h3, h4⟩ := he i hi
  exact ⟨A, n, c, h1, rd_box hb hy z h2, h3, fun a ha => ⟨⟨Nat.lt_of_lt_of_le (h4 a ha).1.1 (grownBy_setCell' W B z).size, (h4 a ha).1.2⟩, (h4 a ha).2⟩⟩
/-- one more content -/
theorem Rows.more {w W w2 w3 : World} {v v' : Value} {ts : List (List Int)} {vs : List Value} {UA : Option Addr} {xn uc : Nat} {xt : List Int} {tmp : Obj}
    (hrow : W.ownsRow w.heap.size 45 1 v ts.length vs)
    (he : ∀ i, i < ts.length → ∃ A n c, vs[i]? = some (.slice A n c) ∧ Rd W A n (ts.getD i []) ∧ (A = none → c = 0) ∧ ∀ a, A = some a → (a.block < W.heap.size ∧ w.heap.size ≤ a.block) ∧ v.ownBlock ≠ some a.block)
    (hO : Fld.Own W.drew w2 (.slice UA xn uc) xt) (hxl : xt.length = xn)
    (hrow' : w3.ownsRow w.heap.size 45 1 v' (ts.length + 1) (vs ++ [.slice UA xn uc])) (hg : (w2.alloc tmp).grownBy w3 v.ownBlock)
    (hat : v'.ownBlock = v.ownBlock ∨ v'.ownBlock = some (w2.alloc tmp).heap.size) (hW : w.heap.size ≤ W.heap.size) : Rows w w3 v' (ts ++ [xt]) := by
  have hvl : vs.length = ts.length := by have := hrow.1; omega
  have hbW : Below W.heap.size W w2 := ⟨hO.1.os, hO.1.tape, hO.1.output, hO.1.size, hO.1.block⟩
  have hlt : ∀ r, v.ownBlock = some r → r < W.heap.size := by
    intro r hr
    rcases hrow.2 with ⟨rfl, _⟩ | ⟨g, cap, cur, rfl, _, hgb, _⟩
    · simp [Value.ownBlock] at hr
    · simp [Value.ownBlock] at hr
      rw [← hr]; exact (Array.getElem?_eq_some_iff.1 hgb).1
  refine ⟨_, by rw [List.length_append]; exact hrow', fun i hi => ?_⟩
  rw [List.length_append, List.length_singleton] at hi
  by_cases hi2 : i < ts.length
  · obtain ⟨A, n, c, h1, h2, h3, h4⟩ := he i hi2
    refine ⟨A, n, c, by rw [List.getElem?_append_left (by omega)]; exact h1, ?_, h3, fun a ha => ⟨⟨?_, (h4 a ha).1.2⟩, ?_⟩⟩
    · rw [List.getD_eq_getElem?_getD, List.getElem?_append_left hi2, ← List.getD_eq_getElem?_getD]
      refine Fld.Rd.grown ((h2.below hbW).below ((Below.refl _ _).alloc (Nat.le_refl _) tmp)) hg (fun a ha => (h4 a ha).2)
    · have := (h4 a ha).1.1; have := hbW.size; have := hg.size; rw [World.size_alloc] at this; omega
    · rcases hat with hat | hat
      · rw [hat]; exact (h4 a ha).2
      · rw [hat, World.size_alloc]; intro e; injection e with e; have := (h4 a ha).1.1; have := hbW.size; omega
  · obtain rfl : i = ts.length := by omega
    obtain ⟨A', c', hv, hs, hbl⟩ := hO.sl xn hxl
    injection hv with e1 e2 e3
    subst e1 e3
    have hne : ∀ a, UA = some a → v.ownBlock ≠ some a.block := by
      intro a ha e
      have h1 := hlt _ e
      have h2 := hbl a ha
      have : W.drew.heap.size = W.heap.size := rfl
      omega
    have hin : ∀ a, UA = some a → a.block < w2.heap.size := by
      intro a ha
      subst ha
      rcases hO.2.2.2 with ⟨h, _⟩ | ⟨g, cap, cur, h, _, hgb, _⟩
      · cases h
      · injection h with e1 e2 e3
        injection e1 with e1
        subst e1
        exact (Array.getElem?_eq_some_iff.1 hgb).1
    refine ⟨UA, xn, uc, by rw [List.getElem?_append_right (by omega), hvl]; simp, ?_, hs.2.2.2.1, fun a ha => ⟨⟨?_, Nat.le_trans hW (hbl a ha)⟩, ?_⟩⟩
    · rw [List.getD_eq_getElem?_getD, List.getElem?_append_right (by omega)]
      simp only [Nat.sub_self, List.getElem?_cons_zero, Option.getD_some]
      exact Fld.Rd.grown (hs.1.below ((Below.refl _ _).alloc (Nat.le_refl _) tmp)) hg (fun a ha => hne a ha)
    · have := hin a ha; have := hg.size; rw [World.size_alloc] at this; omega
    · rcases hat with hat | hat
      · rw [hat]; exact hne a ha
      · rw [hat, World.size_alloc]; intro e; injection e with e; have := hin a ha; omega
theorem box_moves {W w2 w3 : World} {tmp : Obj} {row : Option Nat} {B : Nat} {t : TypeId} {y : Value} (hb : Boxed W B t y) (hO : Below W.drew.heap.size W.drew w2) (hg : (w2.alloc tmp).grownBy w3 row) (hne : some B ≠ row) : Boxed w3 B t y :=
  (Boxed.alloc (show Boxed w2 B t y from (hO.block B hb.lt).trans hb) tmp).kept hg hne
theorem row_moves {W w2 : World} {tmp : Obj} {base k : Nat} {v : Value} {vs : List Value} (h : W.ownsRow base 45 1 v k vs) (hO : Below W.drew.heap.size W.drew w2) : (w2.alloc tmp).ownsRow base 45 1 v k vs := by
  refine World.ownsRow.alloc ?_ tmp
  obtain ⟨h1, h2⟩ := h
  refine ⟨h1, ?_⟩
  rcases h2 with h2 | ⟨g, cap, cur, e, h3, h4, h5⟩
  · exact .inl h2
  · exact .inr ⟨g, cap, cur, e, h3, (hO.block g (Array.getElem?_eq_some_iff.1 h4).1).trans h4, h5⟩
theorem others_move {W w2 w3 : World} {tmp : Obj} {base k : Nat} {v : Value} {vs : List Value} (h : W.ownsRow base 45 1 v k vs) (hO : Below W.drew.heap.size W.drew w2) (hg : (w2.alloc tmp).grownBy w3 v.ownBlock) : KeepsOthers W w3 := by
  have h1 : KeepsOthers W w2 := ⟨hO.size, fun k o hk _ => (hO.block k (Array.getElem?_eq_some_iff.1 hk).1).trans hk⟩
  refine (h1.trans (KeepsOthers.alloc w2 tmp)).trans (KeepsOthers.of_grownBy hg fun j o ej hj => ?_)
  rcases (row_moves (tmp := tmp) h hO).2 with ⟨rfl, _⟩ | ⟨g, cap, cur, rfl, _, hgb, _⟩
  · simp [Value.ownBlock] at ej
  · obtain rfl : g = j := by simpa [Value.ownBlock] using ej
    rw [hgb] at hj; cases hj; rfl
theorem below_move {B : Nat} {W w2 w3 : World} {tmp : Obj} {k : Nat} {v : Value} {vs : List Value} (h : W.ownsRow B 45 1 v k vs) (hB : B ≤ W.heap.size) (hO : Below W.drew.heap.size W.drew w2) (hg : (w2.alloc tmp).grownBy w3 v.ownBlock) : Below B W w3 := by
  have h0 : Below W.heap.size W w2 := ⟨hO.os, hO.tape, hO.output, hO.size, hO.block⟩
  have hs := h0.size
  refine ((h0.mono hB).alloc (by omega) tmp).grown hg (by rw [World.size_alloc]; omega) fun j ej => ?_
  rcases h.2 with ⟨rfl, _⟩ | ⟨g, cap, cur, rfl, hb, _, _⟩
  · simp [Value.ownBlock] at ej
  · obtain rfl : g = j := by simpa [Value.ownBlock] using ej
    exact hb
theorem recs_few {w : World} (pre : List (Piece w)) : (recs (Txts pre)).length ≤ pre.length * 65544 := by
  induction pre with
  | nil => simp [Txts, recs]
  | cons x r ih =>
    have h1 := x.few
    have h2 := x.rd.1
    have e : Txts (x :: r) = x.t :: Txts r := rfl
    rw [e, recs, List.length_append, recd_len, List.length_cons]
    omega
/-- append of one slice to a row of slices, at a step of a region that draws, inside a round -/
theorem stepIn_append {F : Fence} {n : Nat} {w : World} {ops : Array Oper} {o : Oper} {a : Act} {K : Act → World → Prop} {Q : Exit → Act → World → Prop} {E : Prop} (hgd : o.guard = none) (s x : Operand)
    (ho : o.op = .call { callee := .builtin .append, args := #[s, x], argTypes := #[104, 104] })
    (base : Nat) (v : Value) (k : Nat) (vs : List Value) (u : Value) (hs : a.eval s = v) (hown : w.ownsRow base 45 1 v k vs) (g : Nat) (hx : a.eval x = .slice (some ⟨g, 0, none⟩) 1 1) (hc : w.cell? ⟨g, 0, none⟩ = some u) (hu : u.oneCell' = true)
    (hk : k + 1 ≤ 1099511627776) (hb : base ≤ w.heap.size)
    (h : ∀ v' w', w'.ownsRow base 45 1 v' (k + 1) (vs ++ [u]) → w.grownBy w' v.ownBlock → (v'.ownBlock = v.ownBlock ∨ v'.ownBlock = some w.heap.size) → K (a.put o.dst v') w') :
    if Region.wanted o (yielded ops a.tmps) = true then Oper.wpIn F n Tryz.prog o a w K Q else E := by
  have hw : Region.wanted o (yielded ops a.tmps) = true := by simp [Region.wanted, hgd]
  rw [if_pos hw]
  obtain ⟨i, hi, hz, hsz, hby⟩ := slice_info
  obtain ⟨v', w', hrun, hrow', hg, _, hat⟩ := run_append_own_at (P := Tryz.prog) w base 104 o.type 45 i _ 1 24 Tryz.underlying104 hi hz hsz hby rfl (by omega) v k vs hown ⟨g, 0, none⟩ 1 1 [u] rfl (by
    intro j z hz
    rcases j with _ | j
    · simp at hz; subst hz; exact hc
    · simp at hz) (by intro z hz; simp at hz; subst hz; exact hu) (by unfold maxLen; omega) (by omega) hb
  unfold Oper.wpIn
  refine ⟨?_, ?_⟩
  · simp [Oper.about, ho, resolve, Target.leads, Sem.run_pure]
  · rw [Oper.semAt_plain F _ _ (by rw [ho]; intro c hc'; cases hc')]
    simp [execOp, ho, resolve, invoke, builtin, hs, hx, hrun, Result.andThen]
    exact h v' w' hrow' hg hat

set_option maxRecDepth 100000 in
set_option maxHeartbeats 2000000 in
theorem scan_any (A : Option Addr) (n cap : Nat) (zs : List Int) (w : World) (hs : Sl w A n cap zs) (hn : n ≤ 1099511627776) :
    Calls Tryz.prog 65 #[.slice A n cap] w (Scanned w zs) := by
  refine (callsIn_wide (n := 4)).1 ?_
  refine callsIn_of_wp_marks Tryz.func65 rfl trivial ?_ rfl
  simp only [Tryz.ntmps65, List.size_toArray, List.length_cons, List.length_nil, Nat.reduceAdd, Nat.reduceSub, Array.replicate_succ, Array.replicate_zero, List.push_toArray, List.append_toArray, List.nil_append, List.cons_append]
  have HS := Lib.hid hs
  clear hs
  gi_wp2_with fail
  refine ⟨trivial, ?_⟩
  refine (records_in _ A n cap _).mono ?_
  rintro e w' ⟨rfl, rfl⟩
  have bO := (Boxed.new w 104 (.slice none 0 0))
  have bU := (Boxed.new (w.alloc (.cells #[.slice none 0 0] 104)) 3 (.int .i64 0))
  have bN := Boxed.new ((w.alloc (.cells #[.slice none 0 0] 104)).alloc (.cells #[.int .i64 0] 3)) 45 (.slice A n cap)
  rw [World.size_alloc] at bU
  rw [World.size_alloc, World.size_alloc] at bN
  have hB0 : Below w.heap.size w (((w.alloc (.cells #[.slice none 0 0] 104)).alloc (.cells #[.int .i64 0] 3)).alloc (.cells #[.slice A n cap] 45)) := (((Below.refl _ w).alloc (Nat.le_refl _) _).alloc (by simp) _).alloc (by simp; omega) _
  have HI0 := Lib.hid (show ScI w [] (((w.alloc (.cells #[.slice none 0 0] 104)).alloc (.cells #[.int .i64 0] 3)).alloc (.cells #[.slice A n cap] 45)) from ⟨⟨_, (bO.alloc _).alloc _, Rows.nil _ _⟩, bU.alloc _, hB0⟩)
  have HIT := Lib.hid (iter_stops 3 (by omega) (w.heap.size + 1 + 1) w _ A n cap zs HS.out hB0 bN.cell)
  have HB0 := Lib.hid hB0
  clear bO bU bN hB0
  gi_wp2_with fail
  refine wpIn_rangeFunc_ownG rfl (by omega) (gf := 116) (lb := #[.pointer (some ⟨w.heap.size + 1 + 1, 0, none⟩)]) rfl trivial (enters_of Tryz.func116 (by kernel_rfl) rfl)
    HIT.out belowK_t (belowK_b (by simp; omega)) (Below.refl _ _) (fun _ => rfl)
    (ScI w) (fun _ _ _ => False) (scI_own w _ (by simp; omega)) (fun _ _ _ _ _ hs _ _ => hs) HI0.out
    (fun x => { tmps := #[.slice A n cap, undef, .slice none 0 0, .int .i64 0, .pointer (some ⟨w.heap.size, 0, none⟩), .pointer (some ⟨w.heap.size + 1, 0, none⟩), x.enc, .slice A n cap, .func (.func 116) #[] #[.pointer (some ⟨w.heap.size + 1 + 1, 0, none⟩)], x.enc, undef, undef, undef, undef, undef, undef, undef, undef, undef, undef, undef, undef], defers := [] }) ?assign ?body ?done ?stop
  case assign =>
    intro l x W K hK
    gi_wp2
    exact hK
  case body =>
    rintro l pre x W ⟨⟨v, hv, hrow⟩, hu, hb⟩ hlt
    have hd : 1 ≤ 4 - 1 - 1 := by omega
    have hmx : Tryz.prog.follows .mixedOrders = true := by kernel_rfl
    have hc := hv.cell
    have HV := Lib.hid hv
    have HROW := Lib.hid hrow
    have HU := Lib.hid hu
    have HB := Lib.hid hb
    clear hv hrow hu hb
    obtain ⟨xa, xn, xc, xt, xr, xf⟩ := x
    have XL := Lib.hid xr.1
    unfold Piece.enc
    dsimp only
    gi_wp2_with fail
    obtain ⟨vs, hvs, hve⟩ := HROW.out
    have HVS := Lib.hid hvs
    have HVE := Lib.hid hve
    clear hvs hve
    have HK := Lib.hid (show (Txts pre).length + 1 ≤ 1099511627776 by simp [Txts]; omega)
    refine wpIn_region_any (by assumption) ?_
    try (change wpAnyIn _ _ _ _ _ _ _ _ _ (World.drew _))
    repeat' (first
      | refine wpAnyIn_done (by decide +kernel) ?_ _
      | refine wpAnyIn_ready (rs := [0, 1]) (by decide +kernel) (by simp) (AllReadyIn.cons rfl (fun K hK => ?_) (AllReadyIn.cons rfl (fun K hK => ?_) AllReadyIn.nil))
      | refine wpAnyIn_ready (rs := [0, 2]) (by decide +kernel) (by simp) (AllReadyIn.cons rfl (fun K hK => ?_) (AllReadyIn.cons rfl (fun K hK => ?_) AllReadyIn.nil))
      | refine wpAnyIn_ready (rs := [0, 3]) (by decide +kernel) (by simp) (AllReadyIn.cons rfl (fun K hK => ?_) (AllReadyIn.cons rfl (fun K hK => ?_) AllReadyIn.nil))
      | refine wpAnyIn_ready (rs := [0]) (by decide +kernel) (by simp) (AllReadyIn.cons rfl (fun K hK => ?_) AllReadyIn.nil)
      | refine wpAnyIn_ready (rs := [1]) (by decide +kernel) (by simp) (AllReadyIn.cons rfl (fun K hK => ?_) AllReadyIn.nil)
      | refine wpAnyIn_ready (rs := [2]) (by decide +kernel) (by simp) (AllReadyIn.cons rfl (fun K hK => ?_) AllReadyIn.nil)
      | refine wpAnyIn_ready (rs := [3]) (by decide +kernel) (by simp) (AllReadyIn.cons rfl (fun K hK => ?_) AllReadyIn.nil)
      | refine wpAnyIn_ready (rs := [4]) (by decide +kernel) (by simp) (AllReadyIn.cons rfl (fun K hK => ?_) AllReadyIn.nil)
      | refine wpAnyIn_ready (rs := [5]) (by decide +kernel) (by simp) (AllReadyIn.cons rfl (fun K hK => ?_) AllReadyIn.nil)
      | (go_simp; refine ⟨trivial, ?_⟩; gi_at_call 60; refine (CallsIn.inRound l (callsIn_wide.2 (clone_some w xa xn xc xt xr xf _ HB.out.drew))).mono ?_; rintro e w2 ⟨u, rfl, hO⟩; obtain ⟨UA, uc, hu, hus, hub⟩ := hO.sl xn XL.out; subst hu; have HO := Lib.hid hO; have hc2 := (HO.out.1.cell (p := ⟨w.heap.size, 0, none⟩) HV.out.lt).trans hc; have hc3 := fun o => (Boxed.cell ((show Boxed w2 w.heap.size 104 v from (HO.out.1.block _ HV.out.lt).trans HV.out).alloc o)); clear hO hus hub; dsimp only; refine hK _ _ ?_; clear hK K)
      | (go_simp; refine hK _ _ ?_; clear hK K))
    all_goals
      refine stepIn_append rfl (.tmp 10) (.tmp 13) rfl w.heap.size v (Txts pre).length vs (.slice UA xn uc) rfl (row_moves HVS.out HO.out.1) w2.heap.size rfl (by simp) rfl HK.out (by have h1 := HB.out.size; have h2 := HO.out.1.size; have h3 : W.drew.heap.size = W.heap.size := rfl; rw [World.size_alloc]; omega) ?_
      intro v3 w3 hrow3 hg3 hat3
      obtain ⟨g3, c3, rfl⟩ := ownsRow_succ hrow3
      have HM := Lib.hid (Rows.more HVS.out HVE.out HO.out XL.out hrow3 hg3 hat3 HB.out.size)
      have HV3 := Lib.hid (box_moves HV.out HO.out.1 hg3 (HV.out.not_row (by decide) HVS.out))
      have HU3 := Lib.hid (box_moves HU.out HO.out.1 hg3 (HU.out.not_row (by decide) HVS.out))
      have HKO := Lib.hid (others_move HVS.out HO.out.1 hg3)
      have HBM := Lib.hid (below_move HVS.out HB.out.size HO.out.1 hg3)
      clear hrow3 hg3 hat3 hc2 hc3 hc
      have hc := HV3.out.cell
      have hf := HV3.out.frozen
      refine hK _ _ ?_
      clear hK K
      refine wpAnyIn_ready (rs := [5]) (by kernel_rfl) (by simp) (AllReadyIn.cons rfl (fun K hK => ?_) AllReadyIn.nil)
      go_simp
      refine hK _ _ ?_
      clear hK K
      refine wpAnyIn_done (by kernel_rfl) ?_ _
      have HV4 := Lib.hid (HV3.out.set (.slice (some ⟨g3, 0, none⟩) ((Txts pre).length + 1) c3))
      have HU4 := Lib.hid (Boxed.other HU3.out (show w.heap.size + 1 ≠ w.heap.size by omega) (.slice (some ⟨g3, 0, none⟩) ((Txts pre).length + 1) c3))
      have HM4 := Lib.hid (HM.out.box HV3.out (by decide) (by intro c e; have := HVS.out.2; rcases this with ⟨h, _⟩ | ⟨_, _, _, h, _⟩ <;> rw [h] at e <;> cases e) (.slice (some ⟨g3, 0, none⟩) ((Txts pre).length + 1) c3))
      have HKO4 := Lib.hid (HKO.out.trans (KeepsOthers.setCell w3 ⟨w.heap.size, 0, none⟩ (.slice (some ⟨g3, 0, none⟩) ((Txts pre).length + 1) c3)))
      have HBM4 := Lib.hid (HBM.out.setCell (p := ⟨w.heap.size, 0, none⟩) (Nat.le_refl _) (.slice (some ⟨g3, 0, none⟩) ((Txts pre).length + 1) c3))
      clear hc hf HV3 HU3 HM HKO HBM
      generalize w3.setCell _ _ = w4 at *
      have hc4 := HU4.out.cell
      have hf4 := HU4.out.frozen
      have HL := Lib.hid (recs_snoc (Txts pre) xt)
      have HL2 := Lib.hid (recd_len xt)
      have hrb : (recs (Txts pre)).length ≤ 72066390130950144 := by have := recs_few pre; omega
      generalize hR : (recs (Txts pre)).length = R at *
      have HR := Lib.hid hR
      clear hR
      gi_wp2_with fail
      have HU5 := HU4.out.set (.int .i64 ((R : Int) + (8 + (xn : Int))))
      have e5 : (R : Int) + (8 + (xn : Int)) = (((recs (Txts (pre ++ [⟨xa, xn, xc, xt, xr, xf⟩]))).length : Nat) : Int) := by
        rw [txts_snoc, HL.out, List.length_append, HL2.out, HR.out, XL.out]; omega
      refine ⟨(HKO4.out.trans (KeepsOthers.setCell _ _ _)).from _, HBM4.out.setCell (p := ⟨w.heap.size + 1, 0, none⟩) (by show w.heap.size ≤ w.heap.size + 1; omega) _, ⟨_, Boxed.other HV4.out (show w.heap.size ≠ w.heap.size + 1 by omega) _, ?_⟩, ?_, (HB.out.trans HBM4.out).setCell (p := ⟨w.heap.size + 1, 0, none⟩) (by show w.heap.size ≤ w.heap.size + 1; omega) _⟩
      · rw [txts_snoc]; exact HM4.out.box HU4.out (by decide) (by intro c e; cases e) _
      · rw [← e5]; exact HU5
  case done =>
    rintro D xs W hD hS ⟨⟨v, hv, hrow⟩, hu, hb⟩ hK
    have hmx : Tryz.prog.follows .mixedOrders = true := by kernel_rfl
    have hc := hv.cell
    have hc2 := hu.cell
    have HV := Lib.hid hv
    have HROW := Lib.hid hrow
    have HU := Lib.hid hu
    have HB := Lib.hid hb
    have HSS := Lib.hid hS
    clear hv hrow hu hb hS
    gi_wp2_with fail
    refine wpIn_region_any (by assumption) ?_
    try (change wpAnyIn _ _ _ _ _ _ _ _ _ (World.drew _))
    repeat' (first
      | refine wpAnyIn_done (by decide +kernel) ?_ _
      | refine wpAnyIn_ready (rs := [0, 1]) (by decide +kernel) (by simp) (AllReadyIn.cons rfl (fun K hK => ?_) (AllReadyIn.cons rfl (fun K hK => ?_) AllReadyIn.nil))
      | refine wpAnyIn_ready (rs := [1, 2]) (by decide +kernel) (by simp) (AllReadyIn.cons rfl (fun K hK => ?_) (AllReadyIn.cons rfl (fun K hK => ?_) AllReadyIn.nil))
      | refine wpAnyIn_ready (rs := [0, 2]) (by decide +kernel) (by simp) (AllReadyIn.cons rfl (fun K hK => ?_) (AllReadyIn.cons rfl (fun K hK => ?_) AllReadyIn.nil))
      | refine wpAnyIn_ready (rs := [0, 3]) (by decide +kernel) (by simp) (AllReadyIn.cons rfl (fun K hK => ?_) (AllReadyIn.cons rfl (fun K hK => ?_) AllReadyIn.nil))
      | refine wpAnyIn_ready (rs := [2, 3]) (by decide +kernel) (by simp) (AllReadyIn.cons rfl (fun K hK => ?_) (AllReadyIn.cons rfl (fun K hK => ?_) AllReadyIn.nil))
      | refine wpAnyIn_ready (rs := [1, 3]) (by decide +kernel) (by simp) (AllReadyIn.cons rfl (fun K hK => ?_) (AllReadyIn.cons rfl (fun K hK => ?_) AllReadyIn.nil))
      | refine wpAnyIn_ready (rs := [0]) (by decide +kernel) (by simp) (AllReadyIn.cons rfl (fun K hK => ?_) AllReadyIn.nil)
      | refine wpAnyIn_ready (rs := [1]) (by decide +kernel) (by simp) (AllReadyIn.cons rfl (fun K hK => ?_) AllReadyIn.nil)
      | refine wpAnyIn_ready (rs := [2]) (by decide +kernel) (by simp) (AllReadyIn.cons rfl (fun K hK => ?_) AllReadyIn.nil)
      | refine wpAnyIn_ready (rs := [3]) (by decide +kernel) (by simp) (AllReadyIn.cons rfl (fun K hK => ?_) AllReadyIn.nil)
      | (go_simp; refine hK _ _ ?_; clear hK K))
    all_goals
      gi_wp2_with fail
      have hK2 : W.drew.heap[D]? = some (.deferred (some [])) := hK
      refine ⟨by simp, .inl ⟨_, _, rfl, run_takeDeferred hK2, ?_⟩⟩
      exact ⟨_, results_tmp2 rfl _ _ _, Txts xs, v, rfl, HSS.out, (HROW.out.kept (W' := W.drew) (row := none) ⟨rfl, rfl, rfl, Nat.le_refl _, fun _ _ _ => rfl⟩ (fun r e => by cases e)).kept (grownBy_putObj' W.drew D (.deferred none)) (fun r e => by cases e; exact ⟨_, hK2, rfl⟩), HB.out.drew.trans (belowK_b (w := w) (Nat.le_refl _) W.drew D _ _ (by simp at hD; omega) hK2 rfl rfl)⟩
  case stop =>
    rintro D c pre W _ _ h _
    exact h.elim
end Go.Proofs.YtgmpdifggaggdaaGreatDoor.Rc
