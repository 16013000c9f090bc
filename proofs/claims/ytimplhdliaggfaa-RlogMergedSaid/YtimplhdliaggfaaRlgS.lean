/-
  Layer 8: both logs in memory that they do not share, and what a step makes of their state. Conditions: as each theorem states.
-/
import Derived.Test.YtimplhdliaggfaaRlgL
import Derived.Test.YtimplhdliaggfaaRlgG
namespace Go.Proofs.Ytimplhdliaggfaa.Rg
open Go.RowKit Go.Proofs.Ytimplhdliaggfaa.Fld
set_option linter.unusedVariables false

/-- both logs -/
structure Pr (W0 w : World) (g : Nat) (v : Value) (s : St) (xs : List EA) (r : Nat) (rv : Value) (s' : St) (rs : List EA) : Prop where
  im : Im W0.heap.size w g s v xs
  rm : Rm W0 w r s' rv rs
  ap : ∀ i ∈ g :: v.ownBlock.toList, i ∉ r :: rv.ownBlock.toList
theorem Pr.prog {W0 w w' : World} {g : Nat} {v v' : Value} {s s1 s' : St} {xs xs' : List EA} {r : Nat} {rv : Value} {rs : List EA} (h : Pr W0 w g v s xs r rv s' rs) (d : Done W0.heap.size w w' g v s1 v' xs') : Pr W0 w' g v' s1 xs' r rv s' rs := by
  refine ⟨d.im, h.rm.fr d.fr (fun i hi hm => h.ap i hm hi) (fun i hi => (h.im.foot i hi).1), fun i hi hm => ?_⟩
  simp only [List.mem_cons, Option.mem_toList] at hi
  rcases hi with rfl | hi
  · exact h.ap i (by simp) hm
  · rcases d.at' i hi with h1 | h1
    · exact h.ap i (mem_foot h1) hm
    · have := (h.rm.foot i hm).2
      omega
theorem Pr.ref {W0 w w' : World} {g : Nat} {v : Value} {s s1 s' : St} {xs : List EA} {r : Nat} {rv rv' : Value} {rs rs' : List EA} (h : Pr W0 w g v s xs r rv s' rs) (d : DoneR W0 w w' r rv s1 rv' rs') : Pr W0 w' g v s xs r rv' s1 rs' := by
  refine ⟨h.im.fr d.fr (fun i hi => h.ap i hi) h.rm.not8, d.im, fun i hi hm => ?_⟩
  simp only [List.mem_cons, Option.mem_toList] at hm
  rcases hm with rfl | hm
  · exact h.ap i hi (by simp)
  · rcases d.at' i hm with h1 | h1
    · exact h.ap i hi (mem_foot h1)
    · have := (h.im.foot i hi).2
      omega
theorem Pr.below {W0 w w' : World} {g : Nat} {v : Value} {s s' : St} {xs : List EA} {r : Nat} {rv : Value} {rs : List EA} (h : Pr W0 w g v s xs r rv s' rs) (hb : Below w.heap.size w w') : Pr W0 w' g v s xs r rv s' rs := ⟨h.im.below hb, h.rm.below hb, h.ap⟩
theorem Pr.new {W0 w1 w2 : World} {g : Nat} {s s' : St} {r : Nat} (h : Im W0.heap.size w1 g s (.slice none 0 0) []) (hr : Rm W0 w2 r s' (.slice none 0 0) []) (hb : Below w1.heap.size w1 w2) (hg : w1.heap.size ≤ r) : Pr W0 w2 g (.slice none 0 0) s [] r (.slice none 0 0) s' [] := by
  refine ⟨h.below hb, hr, fun i hi hm => ?_⟩
  have h1 := Blk.lt h.blk
  simp [Value.ownBlock] at hi hm
  omega

/-- a step, and where its entries lie -/
structure Stp where
  d : Int
  i : Int
  t : Int
  A : Option Addr
  n : Nat
  c : Nat
  ls : List EA
def Stp.cells (x : Stp) : List Value := [.int .i64 x.d, .int .i64 x.i, .int .i64 x.t, .slice x.A x.n x.c]
def stpV (x : Stp) : Value := .agg #[.int .i64 x.d, .int .i64 x.i, .int .i64 x.t, .slice x.A x.n x.c]
structure Stp.Ok (x : Stp) (w : World) : Prop where
  rd : RdE w x.A x.n x.ls
  nc : x.n ≤ x.c
  cm : x.c ≤ maxLen
  nil : x.A = none → x.c = 0
  lo : -9223372036854775808 ≤ x.i
  hi : x.i ≤ 9223372036854775807
theorem Stp.Ok.below {x : Stp} {w w' : World} (h : x.Ok w) (hb : Below w.heap.size w w') : x.Ok w' := ⟨h.rd.below hb, h.nc, h.cm, h.nil, h.lo, h.hi⟩
def stp0 : Stp := ⟨9, 0, 0, none, 0, 0, []⟩
def stDo (x : Stp) (s : St) : St :=
  if x.d = 0 then stAdd s (ens x.ls) else if x.d = 1 then (mrg s x.i x.t (ens x.ls)).2.2 else if x.d = 2 then stCom s x.i else if x.d = 3 then stApp s x.i else if x.d = 4 then stCpt s x.i else if x.d = 5 then stRst s x.i x.t else s
theorem stDo_ok {x : Stp} {s : St} (h : s.Ok) : (stDo x s).Ok := by
  unfold stDo
  split
  · exact stAdd_ok h _
  split
  · exact mrg_ok h _ _ _
  split
  · exact stCom_ok h _
  split
  · exact stApp_ok h _
  split
  · exact stCpt_ok h _
  split
  · exact stRst_ok h _ _
  · exact h
theorem mis_len (s : St) : ∀ l : List En, (mis s l).length ≤ l.length
  | [] => Nat.le_refl _
  | e :: r => by
    simp only [mis]
    split
    · have := mis_len s r
      simp only [List.length_cons]
      omega
    · exact Nat.le_refl _
theorem mrgA_len (s : St) (i t : Int) (l : List En) : (mrgA s i t l).2.2.es.length ≤ s.es.length + l.length := by
  unfold mrgA
  split
  · have hl := mis_len s l
    cases hm : mis s l with
    | nil => simp [mrgL]
    | cons e r =>
      rw [hm] at hl
      simp only [mrgL]
      split
      · simp
      · simp only [repl, List.length_append, List.length_take]
        omega
  · simp
theorem mrg_len (s : St) (i t : Int) (l : List En) : (mrg s i t l).2.2.es.length ≤ s.es.length + l.length := by
  unfold mrg
  split
  · split
    · have hl := skp_len s.base l
      cases hs : skp s.base l with
      | nil => simp [mrgB]
      | cons e r =>
        rw [hs] at hl
        simp only [mrgB]
        split
        · simp
        · have := mrgA_len s s.base s.bt (e :: r)
          omega
    · exact mrgA_len s i t l
  · simp
theorem stDo_len (x : Stp) (s : St) : (stDo x s).es.length ≤ s.es.length + x.ls.length := by
  unfold stDo
  split
  · unfold stAdd
    split
    · simp only [List.length_append, ens_len]; omega
    · omega
  split
  · have := mrg_len s x.i x.t (ens x.ls)
    rw [ens_len] at this
    exact this
  split
  · unfold stCom; split <;> simp
  split
  · unfold stApp; split <;> simp
  split
  · unfold stCpt; split <;> simp [List.length_drop]; omega
  split
  · unfold stRst; split <;> simp [st0]
  · omega
end Go.Proofs.Ytimplhdliaggfaa.Rg
