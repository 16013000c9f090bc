/-
  Layer 12 in memory: a node of raft that is alone in its group: its block, its elector, its log, its map of peers (without any), the reads that are done. Conditions: as each theorem states.
-/
import Derived.Test.YtjadfpcipicckaaGreatJElN2
import Derived.Test.YtjadfpcipicckaaGreatJRlgH
namespace Go.Proofs.YtjadfpcipicckaaGreat.Rf
open Go.RowKit Go.Proofs.YtjadfpcipicckaaGreat.Fld
open Go.Proofs.YtjadfpcipicckaaGreat.Qu (Blk RdI)
set_option linter.unusedVariables false

/-- a node that is alone: its elector's and its log's state, its snapshot's place, its hard state as it was told last, from which Index on entries are new, the reads that are done -/
structure AS where
  e : El.St
  g : Rg.St
  win : Int
  sI : Int
  sT : Int
  hT : Int
  hV : Int
  frm : Int
  rd : List (Int × Int)
/-- where it lies -/
structure PB where
  nb : Nat
  p : El.Pl
  g : Nat
  v : Value
  xs : List Rg.EA
  SV : Option Addr
  svc : Nat
  SL : Option Addr
  slc : Nat
  SD : Option Addr
  sdn : Nat
  sdc : Nat
  rv : Value
  pm : Option Nat
def ndR (b : PB) (s : AS) : Array Value := #[.pointer (some ⟨b.p.g, 0, none⟩), .int .i64 s.e.id, .int .i64 s.win, .pointer (some ⟨b.g, 0, none⟩), .int .i64 s.sI, .int .i64 s.sT, .slice b.SV 1 b.svc, .slice b.SL 0 b.slc, .slice b.SD b.sdn b.sdc, .slice none 0 0, .int .i64 s.hT, .int .i64 s.hV, .bool false, .int .i64 0, .int .i64 0, .bool false, .int .i64 0, .int .i64 0, .slice none 0 0, .slice none 0 0, .slice none 0 0, .int .i64 s.frm, .slice none 0 0, b.rv, .map b.pm, .slice none 0 0, .int .i64 0]
def rowP (l : List (Int × Int)) : List Value := l.flatMap fun x => [.int .i64 x.1, .int .i64 x.2]
theorem rowP_append (a b : List (Int × Int)) : rowP (a ++ b) = rowP a ++ rowP b := by simp [rowP]
def noR : Value → Option (DataW Value × List MemPlace) := fun _ => none
/-- an empty map of peers -/
def EmptyM (w : World) (m : Nat) : Prop := w.ownsMap Tryz.prog 3 noR m 0 (.map [])
theorem EmptyM.of {w w' : World} {m : Nat} (h : EmptyM w m) (hb : w'.heap[m]? = w.heap[m]?) : EmptyM w' m := by
  obtain ⟨es, clock, h1, h2⟩ := h
  exact ⟨es, clock, hb.trans h1, h2⟩
theorem EmptyM.lt {w : World} {m : Nat} (h : EmptyM w m) : m < w.heap.size := World.ownsMap.lt h
theorem EmptyM.new (w : World) : EmptyM (w.alloc (.map #[] 0)) w.heap.size := World.ownsMap_made w _ _ _
theorem EmptyM.obj {w : World} {m : Nat} (h : EmptyM w m) : ∃ es clock, w.heap[m]? = some (.map es clock) := by
  obtain ⟨es, clock, h1, _⟩ := h
  exact ⟨es, clock, h1⟩
theorem map_obj {w : World} {b : Nat} {am : Int → Int} (h : El.MapA w b am) : ∃ es clock, w.heap[b]? = some (.map es clock) := by
  obtain ⟨D, ⟨es, clock, h1, _⟩, _⟩ := h
  exact ⟨es, clock, h1⟩
theorem blk_not_map {w : World} {B b : Nat} {cs : Array Value} {ty : TypeId} (h : Blk w B cs ty) {es : Array MapEntry} {clock : Nat} (hm : w.heap[b]? = some (.map es clock)) : B ≠ b := by
  rintro rfl
  unfold Blk at h
  rw [hm] at h
  cases h
theorem row_not_map {w : World} {base size n b : Nat} {ety : TypeId} {v : Value} {xs : List Value} (h : w.ownsRow base ety size v n xs) {es : Array MapEntry} {clock : Nat} (hm : w.heap[b]? = some (.map es clock)) : v.ownBlock ≠ some b := by
  rcases h.2 with ⟨rfl, _⟩ | ⟨g, cap, cur, rfl, _, hg, _⟩
  · simp [Value.ownBlock]
  · intro e
    simp [Value.ownBlock] at e
    subst e
    rw [hm] at hg
    cases hg
/-- the blocks that its calls may change -/
def PB.foot (b : PB) : List Nat := b.nb :: b.p.g :: b.p.b :: b.g :: (b.v.ownBlock.toList ++ (b.rv.ownBlock.toList ++ b.pm.toList))
/-- those that it only reads -/
def PB.ro (b : PB) : List Nat := (b.p.VA.map Addr.block).toList ++ ((b.p.LA.map Addr.block).toList ++ (b.SV.map Addr.block).toList)
structure Al (lo : Nat) (w : World) (b : PB) (s : AS) : Prop where
  blk : Blk w b.nb (ndR b s) 60
  el : El.Im w b.p s.e
  lg : Rg.Im lo w b.g s.g b.v b.xs
  sv : RdI w b.SV 1 [s.e.id]
  rv : w.ownsRow lo 82 2 b.rv s.rd.length (rowP s.rd)
  pm : ∀ m, b.pm = some m → EmptyM w m
  pmb : b.pm ≠ some b.p.b
  lo : ∀ i ∈ b.foot, lo ≤ i
  ro : ∀ i ∈ b.ro, i ∉ b.foot
  vs : s.e.vs = [s.e.id]
  ls : s.e.ls = []
  rl : ∀ i ∈ b.ro, i < w.heap.size
  kind : ∀ x ∈ s.g.es, x.kind ≠ 2
  win : 1 ≤ s.win ∧ s.win ≤ 64
  sI : s.sI = s.g.base
  slz : b.SL = none → b.slc = 0
  few : b.xs.length ≤ 1000000
/-- what a call leaves of it -/
structure Aft (lo : Nat) (w w' : World) (b b' : PB) (s' : AS) : Prop where
  im : Al lo w' b' s'
  fr : Dk.Fr b.foot w w'
  at' : ∀ i ∈ b'.foot, i ∈ b.foot ∨ w.heap.size ≤ i
  ra : ∀ i ∈ b'.ro, i ∈ b.ro ∨ w.heap.size ≤ i
  nb : b'.nb = b.nb
theorem mem_foot {b : PB} {i : Nat} : i ∈ b.foot ↔ i = b.nb ∨ i = b.p.g ∨ i = b.p.b ∨ i = b.g ∨ b.v.ownBlock = some i ∨ b.rv.ownBlock = some i ∨ b.pm = some i := by
  simp [PB.foot, eq_comm]
theorem mem_ro {b : PB} {i : Nat} : i ∈ b.ro ↔ (∃ a, b.p.VA = some a ∧ a.block = i) ∨ (∃ a, b.p.LA = some a ∧ a.block = i) ∨ (∃ a, b.SV = some a ∧ a.block = i) := by
  simp [PB.ro]
theorem rdI_lt {w : World} {A : Option Addr} {n : Nat} {l : List Int} (h : RdI w A n l) (hn : 0 < n) : ∃ a, A = some a ∧ a.block < w.heap.size := by
  obtain ⟨b, off, rfl, hc⟩ := h.2.2 hn
  exact ⟨_, rfl, Fld.lt_of_cell (hc 0 hn)⟩
theorem Al.foot_lt {lo : Nat} {w : World} {b : PB} {s : AS} (h : Al lo w b s) : ∀ i ∈ b.foot, i < w.heap.size := by
  intro i hi
  rcases mem_foot.1 hi with rfl | rfl | rfl | rfl | h1 | h1 | h1
  · exact h.blk.lt
  · exact Qu.Blk.lt h.el.blk
  · exact h.el.map.lt
  · exact Rg.Blk.lt h.lg.blk
  · exact (Rg.row_lo h.lg.row i h1).2
  · exact (Rg.row_lo h.rv i h1).2
  · exact (h.pm i h1).lt
theorem Aft.then {lo : Nat} {w w1 w' : World} {b b1 b' : PB} {s1 s' : AS} (h : Aft lo w w1 b b1 s1) (k : Aft lo w1 w' b1 b' s') : Aft lo w w' b b' s' := by
  have hs := h.fr.size
  refine ⟨k.im, h.fr.trans k.fr h.at', fun i hi => ?_, fun i hi => ?_, k.nb.trans h.nb⟩
  · rcases k.at' i hi with h1 | h1
    · exact h.at' i h1
    · exact .inr (by omega)
  · rcases k.ra i hi with h1 | h1
    · exact h.ra i h1
    · exact .inr (by omega)
/-- nothing but what is not the node's has changed -/
theorem Al.out {lo : Nat} {w w' : World} {b : PB} {s : AS} {S : List Nat} (h : Al lo w b s) (hf : Dk.Fr S w w') (h1 : ∀ i ∈ b.foot, i ∉ S) (h2 : ∀ i ∈ b.ro, i ∉ S) (h8 : Rg.Not8 w S) : Al lo w' b s := by
  have hb : ∀ i ∈ b.foot, w'.heap[i]? = w.heap[i]? := fun i hi => hf.block i (h.foot_lt i hi) (h1 i hi)
  refine ⟨(hb _ (mem_foot.2 (.inl rfl))).trans h.blk, h.el.fr hf (fun i hi => ?_), h.lg.fr hf (fun i hi => ?_) h8, El.rdI_fr h.sv hf (fun a ha => h2 _ (mem_ro.2 (.inr (.inr ⟨a, ha, rfl⟩)))), Rg.row_of h.rv (fun i hi => hb i (mem_foot.2 (by simp [hi]))), fun m hm => (h.pm m hm).of (hb m (mem_foot.2 (by simp [hm]))), h.pmb, h.lo, h.ro, h.vs, h.ls, fun i hi => Nat.lt_of_lt_of_le (h.rl i hi) hf.size, h.kind, h.win, h.sI, h.slz, h.few⟩
  · simp only [El.Pl.all, List.mem_cons, List.mem_append, Option.mem_toList, Option.map_eq_some_iff] at hi
    rcases hi with (rfl | rfl | ⟨a, ha, rfl⟩) | ⟨a, ha, rfl⟩
    · exact h1 _ (mem_foot.2 (by simp))
    · exact h1 _ (mem_foot.2 (by simp))
    · exact h2 _ (mem_ro.2 (.inl ⟨a, ha, rfl⟩))
    · exact h2 _ (mem_ro.2 (.inr (.inl ⟨a, ha, rfl⟩)))
  · simp only [List.mem_cons, Option.mem_toList] at hi
    rcases hi with rfl | hi
    · exact h1 _ (mem_foot.2 (by simp))
    · exact h1 _ (mem_foot.2 (by simp [hi]))
theorem Al.below {lo : Nat} {w w' : World} {b : PB} {s : AS} (h : Al lo w b s) (hb : Below w.heap.size w w') : Al lo w' b s :=
  h.out (S := []) (Dk.Fr.below hb) (fun i _ hi => by cases hi) (fun i _ hi => by cases hi) (fun i hi => by cases hi)
theorem Aft.same {lo : Nat} {w w' : World} {b : PB} {s : AS} (h : Al lo w b s) (hb : Below w.heap.size w w') : Aft lo w w' b b s := ⟨h.below hb, Dk.Fr.below hb, fun i hi => .inl hi, fun i hi => .inl hi, rfl⟩
theorem Aft.to {lo : Nat} {w w1 w' : World} {b b' : PB} {s' : AS} (h : Aft lo w w1 b b' s') (hb : Below w1.heap.size w1 w') : Aft lo w w' b b' s' := h.then (Aft.same h.im hb)
theorem Aft.past {lo : Nat} {w w1 w' : World} {b b' : PB} {s s' : AS} (h : Al lo w b s) (hb : Below w.heap.size w w1) (k : Aft lo w1 w' b b' s') : Aft lo w w' b b' s' := (Aft.same h hb).then k
/-- the parts are apart -/
theorem Al.nb_ne {lo : Nat} {w : World} {b : PB} {s : AS} (h : Al lo w b s) : b.nb ≠ b.p.g ∧ b.nb ≠ b.p.b ∧ b.nb ≠ b.g ∧ b.v.ownBlock ≠ some b.nb ∧ b.rv.ownBlock ≠ some b.nb ∧ b.pm ≠ some b.nb := by
  obtain ⟨es, clock, hm⟩ := map_obj h.el.map
  refine ⟨Rg.Blk.ne h.blk h.el.blk (by decide), blk_not_map h.blk hm, Rg.Blk.ne h.blk h.lg.blk (by decide), Rg.row_ne h.lg.row h.blk (by decide), Rg.row_ne h.rv h.blk (by decide), fun e => ?_⟩
  obtain ⟨es', clock', hm'⟩ := (h.pm _ e).obj
  exact blk_not_map h.blk hm' rfl
theorem Al.el_ne {lo : Nat} {w : World} {b : PB} {s : AS} (h : Al lo w b s) : b.p.g ≠ b.g ∧ b.v.ownBlock ≠ some b.p.g ∧ b.rv.ownBlock ≠ some b.p.g ∧ b.pm ≠ some b.p.g ∧ b.g ≠ b.p.b ∧ b.v.ownBlock ≠ some b.p.b ∧ b.rv.ownBlock ≠ some b.p.b := by
  obtain ⟨es, clock, hm⟩ := map_obj h.el.map
  refine ⟨Rg.Blk.ne h.el.blk h.lg.blk (by decide), Rg.row_ne h.lg.row h.el.blk (by decide), Rg.row_ne h.rv h.el.blk (by decide), fun e => ?_, blk_not_map h.lg.blk hm, row_not_map h.lg.row hm, row_not_map h.rv hm⟩
  obtain ⟨es', clock', hm'⟩ := (h.pm _ e).obj
  exact blk_not_map h.el.blk hm' rfl
theorem Al.lg_ne {lo : Nat} {w : World} {b : PB} {s : AS} (h : Al lo w b s) : b.v.ownBlock ≠ some b.g ∧ b.rv.ownBlock ≠ some b.g ∧ b.pm ≠ some b.g ∧ (∀ i, b.v.ownBlock = some i → b.rv.ownBlock ≠ some i) ∧ (∀ i, b.v.ownBlock = some i → b.pm ≠ some i) ∧ (∀ i, b.rv.ownBlock = some i → b.pm ≠ some i) := by
  refine ⟨Rg.row_ne h.lg.row h.lg.blk (by decide), Rg.row_ne h.rv h.lg.blk (by decide), fun e => ?_, Rg.rows_ne h.lg.row h.rv (by decide), fun i hi e => ?_, fun i hi e => ?_⟩
  · obtain ⟨es', clock', hm'⟩ := (h.pm _ e).obj
    exact blk_not_map h.lg.blk hm' rfl
  · obtain ⟨es', clock', hm'⟩ := (h.pm _ e).obj
    exact row_not_map h.lg.row hm' hi
  · obtain ⟨es', clock', hm'⟩ := (h.pm _ e).obj
    exact row_not_map h.rv hm' hi
theorem not8_el {lo : Nat} {w : World} {b : PB} {s : AS} (h : Al lo w b s) : Rg.Not8 w [b.p.g, b.p.b] := by
  intro i hi cs hb
  simp only [List.mem_cons, List.not_mem_nil, or_false] at hi
  rcases hi with rfl | rfl
  · exact Rg.Blk.ne h.el.blk hb (by decide) rfl
  · obtain ⟨es, clock, hm⟩ := map_obj h.el.map
    exact blk_not_map hb hm rfl
/-- the elector has changed -/
theorem Al.elect {lo : Nat} {w w' : World} {b : PB} {s : AS} {p' : El.Pl} {e' : El.St} (h : Al lo w b s) (k : El.Did w w' p' e') (hg : p'.g = b.p.g) (hb : p'.b = b.p.b)
    (ha : ∀ i ∈ p'.all, i ∈ b.p.all ∨ w.heap.size ≤ i) (hl : ∀ i ∈ p'.all, i < w'.heap.size) (hv : e'.vs = s.e.vs) (hls : e'.ls = s.e.ls) (hid : e'.id = s.e.id) : Aft lo w w' b { b with p := p' } { s with e := e' } := by
  have hf : Dk.Fr [b.p.g, b.p.b] w w' := by have := k.fr; unfold El.Pl.ft at this; rw [hg, hb] at this; exact this
  obtain ⟨n1, n2, n3, n4, n5, n6⟩ := h.nb_ne
  obtain ⟨m1, m2, m3, m4, m5, m6, m7⟩ := h.el_ne
  have nin : ∀ i, i ≠ b.p.g → i ≠ b.p.b → i ∉ [b.p.g, b.p.b] := fun i h1 h2 hm => by
    simp only [List.mem_cons, List.not_mem_nil, or_false] at hm
    exact hm.elim h1 h2
  have hfo : ∀ i, i ∈ ({ b with p := p' } : PB).foot ↔ i ∈ b.foot := fun i => by rw [mem_foot, mem_foot]; simp only [hg, hb]
  have sz := hf.size
  have hro : ∀ a, (p'.VA = some a ∨ p'.LA = some a) → a.block ≠ b.p.g → a.block ≠ b.p.b → (a.block ∈ b.ro ∨ w.heap.size ≤ a.block) ∧ a.block < w'.heap.size := by
    intro a hpa q1 q2
    have hin : a.block ∈ p'.all := by
      simp only [El.Pl.all, List.mem_cons, List.mem_append, Option.mem_toList, Option.map_eq_some_iff]
      rcases hpa with hpa | hpa
      · exact .inl (.inr (.inr ⟨a, hpa, rfl⟩))
      · exact .inr ⟨a, hpa, rfl⟩
    refine ⟨?_, hl _ hin⟩
    rcases ha _ hin with hi | hi
    · simp only [El.Pl.all, List.mem_cons, List.mem_append, Option.mem_toList, Option.map_eq_some_iff] at hi
      rcases hi with (hi | hi | ⟨a', ha', hi⟩) | ⟨a', ha', hi⟩
      · exact absurd hi q1
      · exact absurd hi q2
      · exact .inl (mem_ro.2 (.inl ⟨a', ha', hi⟩))
      · exact .inl (mem_ro.2 (.inr (.inl ⟨a', ha', hi⟩)))
    · exact .inr hi
  have hroo : ∀ i ∈ ({ b with p := p' } : PB).ro, (i ∈ b.ro ∨ w.heap.size ≤ i) ∧ i < w'.heap.size := by
    intro i hi
    rcases mem_ro.1 hi with ⟨a, ha', rfl⟩ | ⟨a, ha', rfl⟩ | ⟨a, ha', rfl⟩
    · have := k.im.va a ha'
      exact hro a (.inl ha') (by rw [← hg]; exact this.1) (by rw [← hb]; exact this.2)
    · have := k.im.la a ha'
      exact hro a (.inr ha') (by rw [← hg]; exact this.1) (by rw [← hb]; exact this.2)
    · have hm : a.block ∈ b.ro := mem_ro.2 (.inr (.inr ⟨a, ha', rfl⟩))
      exact ⟨.inl hm, Nat.lt_of_lt_of_le (h.rl _ hm) sz⟩
  have hlt : ∀ i ∈ b.foot, i < w.heap.size := h.foot_lt
  refine ⟨⟨?_, k.im, ?_, ?_, ?_, ?_, ?_, ?_, ?_, ?_, ?_, ?_, h.kind, h.win, h.sI, h.slz, h.few⟩, hf.mono (fun i hi => ?_), fun i hi => .inl ((hfo i).1 hi), fun i hi => (hroo i hi).1, rfl⟩
  · have : ndR { b with p := p' } { s with e := e' } = ndR b s := by simp only [ndR, hg, hid]
    rw [this]
    exact (hf.block _ h.blk.lt (nin _ n1 n2)).trans h.blk
  · refine h.lg.fr hf (fun i hi => ?_) (not8_el h)
    simp only [List.mem_cons, Option.mem_toList] at hi
    rcases hi with rfl | hi
    · exact nin _ (Ne.symm m1) m5
    · exact nin _ (fun e => m2 (by rw [← e]; exact hi)) (fun e => m6 (by rw [← e]; exact hi))
  · have := El.rdI_fr h.sv hf (fun a ha' hm => h.ro a.block (mem_ro.2 (.inr (.inr ⟨a, ha', rfl⟩))) (mem_foot.2 (by
      simp only [List.mem_cons, List.not_mem_nil, or_false] at hm
      rcases hm with hm | hm
      · exact .inr (.inl hm)
      · exact .inr (.inr (.inl hm)))))
    rw [hid]; exact this
  · exact Rg.row_of h.rv (fun i hi => hf.block i (hlt i (mem_foot.2 (by simp [hi]))) (nin _ (fun e => m3 (by rw [← e]; exact hi)) (fun e => m7 (by rw [← e]; exact hi))))
  · exact fun m hm => (h.pm m hm).of (hf.block m (hlt m (mem_foot.2 (by simp [show b.pm = some m from hm]))) (nin _ (fun e => m4 (by rw [← e]; exact hm)) (fun e => h.pmb (by rw [← e]; exact hm))))
  · show b.pm ≠ some p'.b
    rw [hb]; exact h.pmb
  · exact fun i hi => h.lo i ((hfo i).1 hi)
  · intro i hi hm
    rcases (hroo i hi).1 with h1 | h1
    · exact h.ro i h1 ((hfo i).1 hm)
    · have := hlt i ((hfo i).1 hm); omega
  · show e'.vs = [e'.id]
    rw [hv, hid]; exact h.vs
  · show e'.ls = []
    rw [hls]; exact h.ls
  · exact fun i hi => (hroo i hi).2
  · simp only [List.mem_cons, List.not_mem_nil, or_false] at hi
    rcases hi with rfl | rfl
    · exact mem_foot.2 (by simp)
    · exact mem_foot.2 (by simp)
/-- .. by a call that makes it nothing new -/
theorem Al.elec {lo : Nat} {w w' : World} {b : PB} {s : AS} {e' : El.St} (h : Al lo w b s) (k : El.Did w w' b.p e') (hv : e'.vs = s.e.vs) (hls : e'.ls = s.e.ls) (hid : e'.id = s.e.id) : Aft lo w w' b b { s with e := e' } :=
  h.elect k rfl rfl (fun i hi => .inl hi) (fun i hi => by
    have sz := k.fr.size
    simp only [El.Pl.all, List.mem_cons, List.mem_append, Option.mem_toList, Option.map_eq_some_iff] at hi
    rcases hi with (rfl | rfl | ⟨a, ha, rfl⟩) | ⟨a, ha, rfl⟩
    · have := h.foot_lt b.p.g (mem_foot.2 (by simp)); omega
    · have := h.foot_lt b.p.b (mem_foot.2 (by simp)); omega
    · have := h.rl _ (mem_ro.2 (.inl ⟨a, ha, rfl⟩)); omega
    · have := h.rl _ (mem_ro.2 (.inr (.inl ⟨a, ha, rfl⟩))); omega) hv hls hid
/-- the log has changed -/
theorem Al.log {lo : Nat} {w w' : World} {b : PB} {s : AS} {g' : Rg.St} {v' : Value} {xs' : List Rg.EA} (h : Al lo w b s) (k : Rg.Done lo w w' b.g b.v g' v' xs') (hk : ∀ x ∈ g'.es, x.kind ≠ 2) (hbs : g'.base = s.g.base) (hfw : xs'.length ≤ 1000000) : Aft lo w w' b { b with v := v', xs := xs' } { s with g := g' } := by
  obtain ⟨n1, n2, n3, n4, n5, n6⟩ := h.nb_ne
  obtain ⟨m1, m2, m3, m4, m5, m6, m7⟩ := h.el_ne
  obtain ⟨l1, l2, l3, l4, l5, l6⟩ := h.lg_ne
  have hf := k.fr
  have sz := hf.size
  have hlt := h.foot_lt
  have nin : ∀ i, i ≠ b.g → b.v.ownBlock ≠ some i → i ∉ b.g :: b.v.ownBlock.toList := fun i h1 h2 hm => by
    simp only [List.mem_cons, Option.mem_toList] at hm
    exact hm.elim h1 h2
  have hfo : ∀ i, i ∈ ({ b with v := v', xs := xs' } : PB).foot → i ∈ b.foot ∨ w.heap.size ≤ i := by
    intro i hi
    rcases mem_foot.1 hi with h1 | h1 | h1 | h1 | h1 | h1 | h1
    · exact .inl (mem_foot.2 (by simp [show i = b.nb from h1]))
    · exact .inl (mem_foot.2 (by simp [show i = b.p.g from h1]))
    · exact .inl (mem_foot.2 (by simp [show i = b.p.b from h1]))
    · exact .inl (mem_foot.2 (by simp [show i = b.g from h1]))
    · rcases k.at' i h1 with h2 | h2
      · exact .inl (mem_foot.2 (by simp [h2]))
      · exact .inr h2
    · exact .inl (mem_foot.2 (by simp [show b.rv.ownBlock = some i from h1]))
    · exact .inl (mem_foot.2 (by simp [show b.pm = some i from h1]))
  have hlo0 : lo ≤ w.heap.size := Nat.le_trans (h.lo b.nb (mem_foot.2 (by simp))) (Nat.le_of_lt h.blk.lt)
  have nro : ∀ i ∈ b.ro, i ∉ b.g :: b.v.ownBlock.toList := fun i hi hm => h.ro i hi (mem_foot.2 (by
    simp only [List.mem_cons, Option.mem_toList] at hm
    rcases hm with hm | hm
    · simp [hm]
    · simp [hm]))
  refine ⟨⟨?_, ?_, k.im, ?_, ?_, ?_, h.pmb, ?_, ?_, h.vs, h.ls, ?_, hk, h.win, by rw [show ({ s with g := g' } : AS).g.base = g'.base from rfl, hbs]; exact h.sI, h.slz, hfw⟩, hf.mono (fun i hi => ?_), hfo, fun i hi => .inl hi, rfl⟩
  · exact (hf.block _ h.blk.lt (nin _ n3 n4)).trans h.blk
  · refine h.el.fr hf (fun i hi => ?_)
    simp only [El.Pl.all, List.mem_cons, List.mem_append, Option.mem_toList, Option.map_eq_some_iff] at hi
    rcases hi with (rfl | rfl | ⟨a, ha, rfl⟩) | ⟨a, ha, rfl⟩
    · exact nin _ m1 m2
    · exact nin _ (Ne.symm m5) m6
    · exact nro _ (mem_ro.2 (.inl ⟨a, ha, rfl⟩))
    · exact nro _ (mem_ro.2 (.inr (.inl ⟨a, ha, rfl⟩)))
  · exact El.rdI_fr h.sv hf (fun a ha => nro _ (mem_ro.2 (.inr (.inr ⟨a, ha, rfl⟩))))
  · exact Rg.row_of h.rv (fun i hi => hf.block i (hlt i (mem_foot.2 (by simp [hi]))) (nin _ (fun e => l2 (by rw [← e]; exact hi)) (fun e => l4 i e hi)))
  · exact fun m hm => (h.pm m hm).of (hf.block m (hlt m (mem_foot.2 (by simp [show b.pm = some m from hm]))) (nin _ (fun e => l3 (by rw [← e]; exact hm)) (fun e => l5 m e hm)))
  · intro i hi
    rcases hfo i hi with h1 | h1
    · exact h.lo i h1
    · omega
  · intro i hi hm
    have hi' : i ∈ b.ro := hi
    rcases hfo i hm with h1 | h1
    · exact h.ro i hi' h1
    · have := h.rl i hi'; omega
  · exact fun i hi => Nat.lt_of_lt_of_le (h.rl i hi) sz
  · simp only [List.mem_cons, Option.mem_toList] at hi
    rcases hi with rfl | hi
    · exact mem_foot.2 (by simp)
    · exact mem_foot.2 (by simp [hi])
theorem not8_nb {lo : Nat} {w : World} {b : PB} {s : AS} (h : Al lo w b s) : Rg.Not8 w [b.nb] := by
  intro i hi cs hb
  simp only [List.mem_singleton] at hi
  subst hi
  exact Rg.Blk.ne h.blk hb (by decide) rfl
/-- a cell of the node's own block was written -/
theorem Al.set {lo : Nat} {w : World} {b b' : PB} {s s' : AS} (h : Al lo w b s) (i : Nat) (v : Value) (hc : (ndR b s).setIfInBounds i v = ndR b' s') (hi : i < 27)
    (hb : b' = { b with rv := b'.rv, pm := b'.pm }) (hs : s' = { s with hT := s'.hT, hV := s'.hV, frm := s'.frm, rd := s'.rd })
    (hrv : w.ownsRow lo 82 2 b'.rv s'.rd.length (rowP s'.rd)) (hro : ∀ i, b'.rv.ownBlock = some i → b.rv.ownBlock = some i)
    (hn : ∀ m, b'.pm = some m → b.pm = some m) : Aft lo w (w.setCell ⟨b.nb, i, none⟩ v) b b' s' := by
  obtain ⟨n1, n2, n3, n4, n5, n6⟩ := h.nb_ne
  have hf : Dk.Fr [b.nb] w (w.setCell ⟨b.nb, i, none⟩ v) := (Dk.Fr.refl _ _).setCell _ (.inl (by simp)) _
  have hlt := h.foot_lt
  have hfo : ∀ i, i ∈ b'.foot → i ∈ b.foot := by
    intro i hi
    rw [hb] at hi
    rcases mem_foot.1 hi with h1 | h1 | h1 | h1 | h1 | h1 | h1
    · exact mem_foot.2 (by simp [show i = b.nb from h1])
    · exact mem_foot.2 (by simp [show i = b.p.g from h1])
    · exact mem_foot.2 (by simp [show i = b.p.b from h1])
    · exact mem_foot.2 (by simp [show i = b.g from h1])
    · exact mem_foot.2 (by simp [show b.v.ownBlock = some i from h1])
    · exact mem_foot.2 (by simp [hro i h1])
    · exact mem_foot.2 (by simp [hn i h1])
  have er : b'.ro = b.ro := by rw [hb]; rfl
  have ep : b'.p = b.p := by rw [hb]
  have eg : b'.g = b.g := by rw [hb]
  have ev : b'.v = b.v := by rw [hb]
  have ex : b'.xs = b.xs := by rw [hb]
  have eS : b'.SV = b.SV := by rw [hb]
  have en : b'.nb = b.nb := by rw [hb]
  have se : s'.e = s.e := by rw [hs]
  have sg : s'.g = s.g := by rw [hs]
  have nin : ∀ i, i ≠ b.nb → i ∉ [b.nb] := fun i h1 hm => h1 (by simpa using hm)
  refine ⟨⟨?_, ?_, ?_, ?_, ?_, ?_, ?_, ?_, ?_, by rw [se]; exact h.vs, by rw [se]; exact h.ls, ?_, by rw [sg]; exact h.kind, by rw [hs]; exact h.win, by rw [sg, show s'.sI = s.sI by rw [hs]]; exact h.sI, by rw [hb]; exact h.slz, by rw [ex]; exact h.few⟩, hf.mono (fun i hi => mem_foot.2 (.inl (by simpa using hi))), fun i hi => .inl (hfo i hi), fun i hi => .inl (by rw [← er]; exact hi), en⟩
  · rw [en, ← hc]
    exact Qu.Blk.set h.blk i v (by show i < 27; exact hi)
  · rw [ep, se]
    refine h.el.fr hf (fun i hi => nin _ ?_)
    simp only [El.Pl.all, List.mem_cons, List.mem_append, Option.mem_toList, Option.map_eq_some_iff] at hi
    rcases hi with (rfl | rfl | ⟨a, ha, rfl⟩) | ⟨a, ha, rfl⟩
    · exact Ne.symm n1
    · exact Ne.symm n2
    · exact fun e => h.ro _ (mem_ro.2 (.inl ⟨a, ha, rfl⟩)) (mem_foot.2 (.inl e))
    · exact fun e => h.ro _ (mem_ro.2 (.inr (.inl ⟨a, ha, rfl⟩))) (mem_foot.2 (.inl e))
  · rw [eg, sg, ev, ex]
    refine h.lg.fr hf (fun i hi => nin _ ?_) (not8_nb h)
    simp only [List.mem_cons, Option.mem_toList] at hi
    rcases hi with rfl | hi
    · exact Ne.symm n3
    · exact fun e => n4 (by rw [← e]; exact hi)
  · rw [eS, se]
    exact El.rdI_fr h.sv hf (fun a ha => nin _ (fun e => h.ro _ (mem_ro.2 (.inr (.inr ⟨a, ha, rfl⟩))) (mem_foot.2 (.inl e))))
  · exact Rg.row_of hrv (fun i hi => hf.block i (hlt i (mem_foot.2 (by simp [hro i hi]))) (nin _ (fun e => n5 (by rw [← e]; exact hro i hi))))
  · exact fun m hm => (h.pm m (hn m hm)).of (hf.block m (h.pm m (hn m hm)).lt (nin _ (fun e => n6 (by rw [← e]; exact hn m hm))))
  · rw [ep]
    exact fun e => h.pmb (hn _ e)
  · exact fun i hi => h.lo i (hfo i hi)
  · rw [er]
    exact fun i hi hm => h.ro i hi (hfo i hm)
  · rw [er]
    exact fun i hi => Nat.lt_of_lt_of_le (h.rl i hi) hf.size
/-- the map of peers was gone through -/
theorem Al.mapped {lo m : Nat} {w w' : World} {b : PB} {s : AS} (h : Al lo w b s) (hm : b.pm = some m) (hg : w.grownBy w' (some m)) (he : EmptyM w' m) : Aft lo w w' b b s := by
  obtain ⟨n1, n2, n3, n4, n5, n6⟩ := h.nb_ne
  obtain ⟨m1, m2, m3, m4, m5, m6, m7⟩ := h.el_ne
  obtain ⟨l1, l2, l3, l4, l5, l6⟩ := h.lg_ne
  have hf : Dk.Fr [m] w w' := (Dk.Fr.refl _ _).grown hg (fun i hi => .inl (by cases hi; simp))
  have hlt := h.foot_lt
  have nin : ∀ i, i ≠ m → i ∉ [m] := fun i h1 hh => h1 (by simpa using hh)
  have hro : ∀ i ∈ b.ro, i ∉ [m] := fun i hi => nin i (fun e => h.ro i hi (mem_foot.2 (by simp [e, hm])))
  have h8 : Rg.Not8 w [m] := by
    intro i hi cs hb
    simp only [List.mem_singleton] at hi
    subst hi
    obtain ⟨es, clock, ho⟩ := (h.pm _ hm).obj
    exact blk_not_map hb ho rfl
  refine ⟨⟨(hf.block _ h.blk.lt (nin _ (fun e => n6 (by rw [e]; exact hm)))).trans h.blk, h.el.fr hf (fun i hi => ?_), h.lg.fr hf (fun i hi => ?_) h8, El.rdI_fr h.sv hf (fun a ha => hro _ (mem_ro.2 (.inr (.inr ⟨a, ha, rfl⟩)))), Rg.row_of h.rv (fun i hi => hf.block i (hlt i (mem_foot.2 (by simp [hi]))) (nin _ (fun e => l6 i hi (by rw [hm, e])))), fun m' hm' => by rw [hm] at hm'; cases hm'; exact he, h.pmb, h.lo, h.ro, h.vs, h.ls, fun i hi => Nat.lt_of_lt_of_le (h.rl i hi) hf.size, h.kind, h.win, h.sI, h.slz, h.few⟩, hf.mono (fun i hi => mem_foot.2 (by simp at hi; simp [hi, hm])), fun i hi => .inl hi, fun i hi => .inl hi, rfl⟩
  · simp only [El.Pl.all, List.mem_cons, List.mem_append, Option.mem_toList, Option.map_eq_some_iff] at hi
    rcases hi with (rfl | rfl | ⟨a, ha, rfl⟩) | ⟨a, ha, rfl⟩
    · exact nin _ (fun e => m4 (by rw [e]; exact hm))
    · exact nin _ (fun e => h.pmb (by rw [e]; exact hm))
    · exact hro _ (mem_ro.2 (.inl ⟨a, ha, rfl⟩))
    · exact hro _ (mem_ro.2 (.inr (.inl ⟨a, ha, rfl⟩)))
  · simp only [List.mem_cons, Option.mem_toList] at hi
    rcases hi with rfl | hi
    · exact nin _ (fun e => l3 (by rw [e]; exact hm))
    · exact nin _ (fun e => l5 _ hi (by rw [e]; exact hm))
end Go.Proofs.YtjadfpcipicckaaGreat.Rf
