/-
  Layer 10, the mathematics of ElectOnce: what nodes, ballots and leaders of terms there are; whoever leads has most votes of its term, and nobody gives two. No condition.
-/
import Derived.Test.YtjajgjpkiofhmaaElMath
namespace Go.Proofs.Ytjajgjpkiofhmaa.El
open Go.Proofs.Ytjajgjpkiofhmaa.Qu
set_option linter.unusedVariables false

/-- who gave its vote of a term to whom -/
abbrev Vt := Int → Int → Int → Prop
def NInv (V : Vt) (s : St) : Prop := (s.role = 2 ∨ s.role = 3 → ∀ x, s.am x = 1 → V x s.term s.id) ∧ (s.role = 3 → wonA s.vs s.am = true)
def addV (V : Vt) (s : St) : Vt := fun v t c => V v t c ∨ (v = s.id ∧ t = s.term ∧ c = s.vote ∧ c ≠ 0)
theorem NInv.low {V : Vt} {s : St} (h : s.role ≠ 2) (h3 : s.role ≠ 3) : NInv V s := ⟨fun h' => by omega, fun h' => absurd h' h3⟩
theorem NInv.mono {V V' : Vt} {s : St} (h : NInv V s) (hv : ∀ v t c, V v t c → V' v t c) : NInv V' s := ⟨fun hr x hx => hv _ _ _ (h.1 hr x hx), h.2⟩
theorem NInv.add {V : Vt} {s s' : St} (h : NInv V s') : NInv (addV V s) s' := h.mono fun _ _ _ h => .inl h
/-- the ballots that say yes are votes -/
def YInv (s' : St) (out : List Bal) : Prop := ∀ b ∈ out, b.kind = 4 → b.yes = true → b.frm = s'.id ∧ b.term = s'.term ∧ b.to = s'.vote ∧ s'.vote ≠ 0
theorem YInv.nil (s : St) : YInv s [] := fun b hb => by cases hb
theorem askAll_y (s s' : St) (kind term last lt : Int) : YInv s' (askAll s kind term last lt) := by
  intro b hb _ hy
  unfold askAll at hb
  obtain ⟨v, _, rfl⟩ := List.mem_map.1 hb
  cases hy
theorem run_inv {V : Vt} {s : St} (h : s.Ok) (last lt : Int) : NInv (addV V (run s last lt).1) (run s last lt).1 ∧ YInv (run s last lt).1 (run s last lt).2 := by
  have hi := (okNode_iff _).1 h.id1
  have key : ∀ x, onlyA s.id x = 1 → x = s.id := by
    intro x hx
    unfold onlyA at hx
    by_cases e : x = s.id
    · exact e
    · rw [if_neg e] at hx; cases hx
  unfold run
  split
  · exact ⟨NInv.low (by simp) (by simp), YInv.nil _⟩
  split
  · rename_i hw
    refine ⟨⟨fun _ x hx => .inr ⟨key x hx, rfl, rfl, ?_⟩, fun _ => hw⟩, YInv.nil _⟩
    show s.id ≠ 0
    omega
  · refine ⟨⟨fun _ x hx => .inr ⟨key x hx, rfl, rfl, ?_⟩, fun (h3 : (2 : Int) = 3) => by omega⟩, askAll_y _ _ _ _ _ _⟩
    show s.id ≠ 0
    omega
theorem tick_inv {V : Vt} {s : St} (h : s.Ok) (hn : NInv V s) (draw last lt : Int) : NInv (addV V (tick s draw last lt).1) (tick s draw last lt).1 ∧ YInv (tick s draw last lt).1 (tick s draw last lt).2 := by
  unfold tick
  split
  · exact ⟨hn.add, YInv.nil _⟩
  split
  · refine ⟨?_, YInv.nil _⟩
    exact NInv.add (s' := { s with wait := s.wait + 1 }) ⟨hn.1, hn.2⟩
  · unfold hope
    split
    · have hd := draw_in draw s.pat h.pat1
      have hp := h.pat1
      refine run_inv (hoped_ok (s := { s with wait := 0, lim := s.pat + (max draw 0).tmod s.pat }) ⟨h.id1, h.hard, h.grp, h.pat1, Int.le_refl _, ?_, h.role, h.lead, h.am⟩) _ _
      show 1 ≤ s.pat + (max draw 0).tmod s.pat ∧ s.pat + (max draw 0).tmod s.pat ≤ 2000
      omega
    · exact ⟨NInv.low (by simp [hoped]) (by simp [hoped]), askAll_y _ _ _ _ _ _⟩
theorem down_inv {V : Vt} (s : St) (t : Int) : NInv V (down s t) := NInv.low (by simp [down]) (by simp [down])
theorem dn_inv {V : Vt} {s : St} (hn : NInv V s) (b : Bal) : NInv V (dn s b) := by
  unfold dn
  split
  · exact down_inv _ _
  · exact hn
theorem take_inv {V : Vt} {s : St} (h : s.Ok) (hn : NInv V s) (b : Bal) (hb : b.kind = 4 → b.yes = true → V b.frm b.term b.to) (last lt : Int) : NInv (addV V (take s b last lt).1) (take s b last lt).1 ∧ YInv (take s b last lt).1 (take s b last lt).2 := by
  unfold take
  cases ht : takes s b with
  | false => rw [if_pos rfl]; exact ⟨hn.add, YInv.nil _⟩
  | true =>
    obtain ⟨hto, ⟨hf, hne⟩, hT⟩ := (takes_iff s b).1 ht
    rw [if_neg (by simp)]
    split
    · refine ⟨hn.add, ?_⟩
      intro x hx hk
      simp only [List.mem_singleton] at hx
      subst hx
      exact absurd hk (by simp [preB])
    split
    · unfold preSay
      split
      · exact ⟨down_inv _ _, YInv.nil _⟩
      split
      · exact ⟨hn.add, YInv.nil _⟩
      rename_i hr
      have hr1 : s.role = 1 := by
        by_cases e : s.role = 1
        · exact e
        · exact absurd (.inl e) hr
      split
      · exact run_inv (recS_ok h hf) _ _
      split
      · exact ⟨NInv.low (by simp) (by simp), YInv.nil _⟩
      · exact ⟨NInv.low (by show s.role ≠ 2; omega) (by show s.role ≠ 3; omega), YInv.nil _⟩
    split
    · unfold askS
      split
      · have hd := dn_inv hn b
        refine ⟨⟨fun hr x hx => ?_, fun hr => ?_⟩, ?_⟩
        · have hr' : (dn s b).role = 2 ∨ (dn s b).role = 3 := by
            have : (if (dn s b).role = 1 then 0 else (dn s b).role) = 2 ∨ (if (dn s b).role = 1 then 0 else (dn s b).role) = 3 := hr
            split at this <;> omega
          exact .inl (hd.1 hr' x hx)
        · have : (if (dn s b).role = 1 then 0 else (dn s b).role) = 3 := hr
          exact hd.2 (by split at this <;> omega)
        · intro x hx hk hy
          simp only [List.mem_singleton] at hx
          subst hx
          have := (okNode_iff _).1 hf
          exact ⟨(dn_same s b).1.symm, rfl, rfl, by show b.frm ≠ 0; omega⟩
      · refine ⟨(dn_inv hn b).add, ?_⟩
        intro x hx hk hy
        simp only [List.mem_singleton] at hx
        subst hx
        cases hy
    split
    · rename_i hk
      refine ⟨?_, YInv.nil _⟩
      unfold sayS
      split
      · exact down_inv _ _
      split
      · exact hn.add
      rename_i hr
      have hr2 : s.role = 2 := by
        by_cases e : s.role = 2
        · exact e
        · exact absurd (.inl e) hr
      have hbt : b.term = s.term := by
        by_cases e : b.term = s.term
        · exact e
        · exact absurd (.inr e) hr
      have hrec : ∀ x, recA s.am b x = 1 → V x s.term s.id := by
        intro x hx
        unfold recA at hx
        by_cases h0 : s.am b.frm = 0
        · rw [if_pos h0] at hx
          unfold setA at hx
          by_cases e : x = b.frm
          · rw [if_pos e] at hx
            cases hy : b.yes with
            | true => rw [e, ← hbt, ← hto]; exact hb hk hy
            | false => rw [hy] at hx; cases hx
          · rw [if_neg e] at hx; exact hn.1 (.inl hr2) x hx
        · rw [if_neg h0] at hx; exact hn.1 (.inl hr2) x hx
      split
      · rename_i hw
        exact ⟨fun _ x hx => .inl (hrec x hx), fun _ => hw⟩
      split
      · exact NInv.low (by simp) (by simp)
      · exact ⟨fun _ x hx => .inl (hrec x hx), fun (e : s.role = 3) => by omega⟩
    · exact ⟨hn.add, YInv.nil _⟩
theorem heard_inv {V : Vt} {s : St} (hn : NInv V s) (frm t : Int) : NInv V (heard s frm t) := by
  unfold heard
  split
  · exact NInv.low (by simp) (by simp)
  · exact hn

/-! ### nodes of one group -/
def ids (m : Nat) : List Int := (List.range m).map fun (i : Nat) => ((i : Int) + 1)
theorem ids_len (m : Nat) : (ids m).length = m := by simp [ids]
theorem ids_succ (m : Nat) : ids (m + 1) = ids m ++ [(m : Int) + 1] := by simp [ids, List.range_succ]
theorem ids_at (m i : Nat) (h : i < m) : (ids m).getD i 0 = (i : Int) + 1 := by simp [ids, h]
theorem mem_ids (m : Nat) (x : Int) : x ∈ ids m ↔ 1 ≤ x ∧ x ≤ m := by
  unfold ids
  simp only [List.mem_map, List.mem_range]
  constructor
  · rintro ⟨i, hi, rfl⟩; omega
  · intro h; exact ⟨(x - 1).toNat, by omega, by omega⟩
theorem ids_up (m : Nat) (h : m ≤ 15) : upN 0 (ids m) = true := by
  refine upN_of _ _ (fun x hx => ?_) ?_
  · have := (mem_ids m x).1 hx; omega
  · unfold ids
    rw [List.pairwise_map]
    exact List.pairwise_lt_range.imp fun {a b} h => by omega
theorem ids_grp (m : Nat) (h : 1 ≤ m) (h15 : m ≤ 15) : grpOk (ids m) [] = true := by
  refine (grpOk_iff _ _).2 ⟨fun e => ?_, ids_up m h15, rfl, fun x _ hx => by cases hx⟩
  have := congrArg List.length e
  rw [ids_len] at this
  simp at this
  omega
structure Wd where
  ns : List St
  logs : List (Int × Int)
  sent : List Bal
  leads : List (Int × Int)
def s00 : St := ⟨0, 0, 0, 0, [], [], 0, 0, 0, 0, noneA⟩
def nd (w : Wd) (k : Nat) : St := w.ns.getD k s00
def lg (w : Wd) (k : Nat) : Int × Int := w.logs.getD k (0, 0)
/-- node k does something: its state, and what it sends -/
def doN (w : Wd) (k : Nat) (r : St × List Bal) : Wd := { w with ns := w.ns.set k r.1, sent := w.sent ++ r.2 }
def come (w : Wd) (b : Bal) : Wd := if 1 ≤ b.to ∧ b.to ≤ w.ns.length then doN w (b.to - 1).toNat (take (nd w (b.to - 1).toNat) b (lg w (b.to - 1).toNat).1 (lg w (b.to - 1).toNat).2) else w
def kOf (who : Int) (m : Nat) : Nat := (if who.tmod m < 0 then who.tmod m + m else who.tmod m).toNat
theorem kOf_lt (who : Int) (m : Nat) (h : 1 ≤ m) : kOf who m < m := by
  unfold kOf
  have h1 := Int.tmod_lt_of_pos who (show (0 : Int) < m by omega)
  have h2 : -(m : Int) < who.tmod m := by
    rcases Int.le_total 0 who with h0 | h0
    · have := Int.tmod_nonneg m h0; omega
    · have h3 := Int.tmod_lt_of_pos (-who) (show (0 : Int) < m by omega)
      rw [Int.neg_tmod] at h3
      omega
  split <;> omega
structure Ev where
  d : Int
  who : Int
  n : Int
  draw : Int
def play (w : Wd) (e : Ev) : Wd :=
  if e.d = 0 then doN w (kOf e.who w.ns.length) (tick (nd w (kOf e.who w.ns.length)) e.draw (lg w (kOf e.who w.ns.length)).1 (lg w (kOf e.who w.ns.length)).2)
  else if e.d = 1 then (if 0 ≤ e.n ∧ e.n < w.sent.length then come w (w.sent.getD e.n.toNat ⟨0, 0, 0, 0, 0, 0, false⟩) else w)
  else if e.d = 2 then { w with ns := w.ns.set (kOf e.who w.ns.length) (st0 ((kOf e.who w.ns.length : Int) + 1) (nd w (kOf e.who w.ns.length)).term (nd w (kOf e.who w.ns.length)).vote (ids w.ns.length) [] 3) }
  else if e.d = 3 then (if 0 ≤ e.n ∧ e.n < w.leads.length then { w with ns := w.ns.set (kOf e.who w.ns.length) (heard (nd w (kOf e.who w.ns.length)) (w.leads.getD e.n.toNat (0, 0)).2 (w.leads.getD e.n.toNat (0, 0)).1) } else w)
  else w
/-- a node of the group of m -/
structure NOk (m : Nat) (B : Nat) (i : Nat) (s : St) : Prop where
  ok : s.Ok
  id : s.id = (i : Int) + 1
  vs : s.vs = ids m
  ls : s.ls = []
  pat : s.pat = 3
  wait : s.wait ≤ B
/-- most nodes gave their votes of the term to this one -/
def Most (m : Nat) (V : Vt) (t c : Int) : Prop := ∃ p : Int → Bool, (∀ x, p x = true → V x t c) ∧ need (ids m) ≤ (ids m).countP p
structure WInv (m : Nat) (V : Vt) (B : Nat) (w : Wd) : Prop where
  nl : w.ns.length = m
  ll : w.logs.length = m
  nok : ∀ i, i < m → NOk m B i (nd w i)
  fn : ∀ v t c c', V v t c → V v t c' → c = c'
  cur : ∀ v t c, V v t c → ∀ i, i < m → (nd w i).id = v → t ≤ (nd w i).term ∧ (t = (nd w i).term → (nd w i).vote = c ∧ c ≠ 0)
  yes : ∀ b ∈ w.sent, b.kind = 4 → b.yes = true → V b.frm b.term b.to
  cand : ∀ i, i < m → NInv V (nd w i)
  led : ∀ x ∈ w.leads, Most m V x.1 x.2
theorem nd_set (ns : List St) (logs : List (Int × Int)) (sent : List Bal) (leads : List (Int × Int)) (k : Nat) (s : St) (i : Nat) (hk : k < ns.length) : nd ⟨ns.set k s, logs, sent, leads⟩ i = if i = k then s else nd ⟨ns, logs, sent, leads⟩ i := by
  unfold nd
  simp only [List.getD_eq_getElem?_getD, List.getElem?_set]
  by_cases h : k = i
  · subst h; simp [hk]
  · rw [if_neg h, if_neg (fun e => h e.symm)]
theorem Most.add {m : Nat} {V : Vt} {t c : Int} (h : Most m V t c) (s : St) : Most m (addV V s) t c := by
  obtain ⟨p, h1, h2⟩ := h
  exact ⟨p, fun x hx => .inl (h1 x hx), h2⟩
/-- node k goes over to s', and sends -/
theorem WInv.step {m : Nat} {V : Vt} {B B' : Nat} {w : Wd} (h : WInv m V B w) (k : Nat) (hk : k < m) (s' : St) (out : List Bal) (hB : B ≤ B') (hst : Stays (nd w k) s') (hs : NOk m B' k s') (hi : NInv (addV V s') s') (hy : YInv s' out) :
    WInv m (addV V s') B' { w with ns := w.ns.set k s', sent := w.sent ++ out } := by
  have hset : ∀ i, nd { w with ns := w.ns.set k s', sent := w.sent ++ out } i = if i = k then s' else nd w i := by
    intro i
    have := nd_set w.ns w.logs (w.sent ++ out) w.leads k s' i (by rw [h.nl]; exact hk)
    rw [this]
    rfl
  have hold : ∀ v t c, V v t c → v = s'.id → t ≤ s'.term ∧ (t = s'.term → s'.vote = c ∧ c ≠ 0) := by
    intro v t c hv he
    have hid : (nd w k).id = v := by rw [(h.nok k hk).id, he, hs.id]
    obtain ⟨h1, h2⟩ := h.cur v t c hv k hk hid
    refine ⟨Int.le_trans h1 hst.1, fun e => ?_⟩
    have e2 : s'.term = (nd w k).term := by have := hst.1; omega
    obtain ⟨h3, h4⟩ := h2 (by omega)
    exact ⟨by rw [hst.2 e2 (by rw [h3]; exact h4), h3], h4⟩
  refine ⟨by simp [h.nl], h.ll, fun i hi' => ?_, ?_, ?_, ?_, fun i hi' => ?_, fun x hx => (h.led x hx).add s'⟩
  · rw [hset i]
    split
    · rename_i e; rw [e]; exact hs
    · have := h.nok i hi'
      exact ⟨this.ok, this.id, this.vs, this.ls, this.pat, by have := this.wait; omega⟩
  · rintro v t c c' (h1 | ⟨h1, h2, h3, h4⟩) (h5 | ⟨h5, h6, h7, h8⟩)
    · exact h.fn v t c c' h1 h5
    · rw [h7]; exact (((hold v t c h1 h5).2 h6).1).symm
    · rw [h3]; exact ((hold v t c' h5 h1).2 h2).1
    · rw [h3, h7]
  · rintro v t c hv i hi' hid
    rw [hset i] at hid ⊢
    by_cases e : i = k
    · rw [if_pos e] at hid ⊢
      rcases hv with hv | ⟨h1, h2, h3, h4⟩
      · exact hold v t c hv hid.symm
      · exact ⟨by omega, fun _ => ⟨h3.symm, h4⟩⟩
    · rw [if_neg e] at hid ⊢
      rcases hv with hv | ⟨h1, h2, h3, h4⟩
      · exact h.cur v t c hv i hi' hid
      · have h5 := (h.nok i hi').id
        have h6 := hs.id
        omega
  · intro b hb hk4 hby
    rcases List.mem_append.1 hb with hb | hb
    · exact .inl (h.yes b hb hk4 hby)
    · obtain ⟨h1, h2, h3, h4⟩ := hy b hb hk4 hby
      exact .inr ⟨h1, h2, h3, by rw [h3]; exact h4⟩
  · rw [hset i]
    split
    · exact hi
    · exact (h.cand i hi').add
theorem take_nok {m B k : Nat} {s : St} (h : NOk m B k s) (b : Bal) (last lt : Int) : NOk m B k (take s b last lt).1 := by
  obtain ⟨h1, h2, h3, h4, h5⟩ := take_same s h.ok.w0 b last lt
  exact ⟨take_ok h.ok b last lt, by rw [h1]; exact h.id, by rw [h2]; exact h.vs, by rw [h3]; exact h.ls, by rw [h4]; exact h.pat, Int.le_trans h5 h.wait⟩
theorem tick_nok {m B k : Nat} {s : St} (h : NOk m B k s) (draw last lt : Int) : NOk m (B + 1) k (tick s draw last lt).1 := by
  obtain ⟨h1, h2, h3, h4, h5⟩ := tick_same s h.ok.w0 draw last lt
  exact ⟨tick_ok h.ok draw last lt, by rw [h1]; exact h.id, by rw [h2]; exact h.vs, by rw [h3]; exact h.ls, by rw [h4]; exact h.pat, by have := h.wait; omega⟩
theorem heard_nok {m B k : Nat} {s : St} (h : NOk m B k s) (frm t : Int) : NOk m B k (heard s frm t) := by
  obtain ⟨h1, h2, h3, h4, h5⟩ := heard_same s h.ok.w0 frm t
  exact ⟨heard_ok h.ok frm t, by rw [h1]; exact h.id, by rw [h2]; exact h.vs, by rw [h3]; exact h.ls, by rw [h4]; exact h.pat, Int.le_trans h5 h.wait⟩
theorem NOk.mono {m B B' k : Nat} {s : St} (h : NOk m B k s) (hB : B ≤ B') : NOk m B' k s := ⟨h.ok, h.id, h.vs, h.ls, h.pat, by have := h.wait; omega⟩
theorem anew_nok {m B k : Nat} {s : St} (h : NOk m B k s) (h1 : 1 ≤ m) (hm : m ≤ 15) (hk : k < m) : NOk m B k (st0 ((k : Int) + 1) s.term s.vote (ids m) [] 3) ∧ newOk ((k : Int) + 1) s.term s.vote (ids m) [] 3 = true := by
  have hn : newOk ((k : Int) + 1) s.term s.vote (ids m) [] 3 = true := by
    simp only [newOk, Bool.and_eq_true, decide_eq_true_eq]
    exact ⟨(okNode_iff _).2 (by omega), h.ok.hard, ids_grp m h1 hm, by omega, by omega⟩
  exact ⟨⟨st0_ok hn, rfl, rfl, rfl, rfl, by show (0 : Int) ≤ B; omega⟩, hn⟩
theorem WInv.same {m : Nat} {V : Vt} {B B' : Nat} {w : Wd} (h : WInv m V B w) (hB : B ≤ B') : WInv m V B' w := ⟨h.nl, h.ll, fun i hi => (h.nok i hi).mono hB, h.fn, h.cur, h.yes, h.cand, h.led⟩
theorem come_inv {m : Nat} {V : Vt} {B : Nat} {w : Wd} (h : WInv m V B w) (b : Bal) (hb : b ∈ w.sent) : ∃ V', WInv m V' B (come w b) := by
  unfold come
  split
  · rename_i hto
    rw [h.nl] at hto
    have hk : (b.to - 1).toNat < m := by omega
    obtain ⟨h1, h2⟩ := take_inv (h.nok _ hk).ok (h.cand _ hk) b (fun hk4 hy => h.yes b hb hk4 hy) (lg w (b.to - 1).toNat).1 (lg w (b.to - 1).toNat).2
    exact ⟨_, h.step _ hk _ _ (Nat.le_refl _) (take_stays _ _ _ _) (take_nok (h.nok _ hk) _ _ _) h1 h2⟩
  · exact ⟨V, h⟩
theorem play_inv {m : Nat} {V : Vt} {B : Nat} {w : Wd} (h : WInv m V B w) (h1 : 1 ≤ m) (hm : m ≤ 15) (e : Ev) : ∃ V', WInv m V' (B + 1) (play w e) := by
  have hk := kOf_lt e.who m h1
  unfold play
  rw [h.nl]
  generalize kOf e.who m = k at *
  split
  · obtain ⟨h2, h3⟩ := tick_inv (h.nok _ hk).ok (h.cand _ hk) e.draw (lg w k).1 (lg w k).2
    exact ⟨_, h.step _ hk _ _ (Nat.le_succ _) (tick_stays _ _ _ _) (tick_nok (h.nok _ hk) _ _ _) h2 h3⟩
  split
  · split
    · rename_i hn
      obtain ⟨V', h'⟩ := come_inv h (w.sent.getD e.n.toNat ⟨0, 0, 0, 0, 0, 0, false⟩) (by
        rw [List.getD_eq_getElem?_getD, List.getElem?_eq_getElem (by omega)]; exact List.getElem_mem _)
      exact ⟨V', h'.same (Nat.le_succ _)⟩
    · exact ⟨V, h.same (Nat.le_succ _)⟩
  split
  · obtain ⟨h2, _⟩ := anew_nok (h.nok _ hk) h1 hm hk
    have := h.step k hk (st0 ((k : Int) + 1) (nd w k).term (nd w k).vote (ids m) [] 3) [] (Nat.le_succ _) ⟨Int.le_refl _, fun _ _ => rfl⟩ (h2.mono (Nat.le_succ _)) (NInv.low (by simp [st0]) (by simp [st0])) (YInv.nil _)
    rw [List.append_nil] at this
    exact ⟨_, this⟩
  split
  · split
    · have := h.step k hk _ [] (Nat.le_succ _) (heard_stays _ (w.leads.getD e.n.toNat (0, 0)).2 (w.leads.getD e.n.toNat (0, 0)).1) ((heard_nok (h.nok _ hk) _ _).mono (Nat.le_succ _)) (heard_inv (h.cand _ hk) _ _).add (YInv.nil _)
      rw [List.append_nil] at this
      exact ⟨_, this⟩
    · exact ⟨V, h.same (Nat.le_succ _)⟩
  · exact ⟨V, h.same (Nat.le_succ _)⟩
/-- two of one term are one -/
theorem most_one {m : Nat} {V : Vt} (hf : ∀ v t c c', V v t c → V v t c' → c = c') {t c c' : Int} (h : Most m V t c) (h' : Most m V t c') : c = c' := by
  obtain ⟨p, h1, h2⟩ := h
  obtain ⟨q, h3, h4⟩ := h'
  obtain ⟨x, _, hp, hq⟩ := meet (ids m) p q (by unfold need at h2 h4; rw [ids_len] at *; omega)
  exact hf x t c c' (h1 x hp) (h3 x hq)
theorem lead_most {m : Nat} {V : Vt} {B : Nat} {w : Wd} (h : WInv m V B w) (i : Nat) (hi : i < m) (hr : (nd w i).role = 3) : Most m V (nd w i).term ((i : Int) + 1) := by
  obtain ⟨h1, h2⟩ := h.cand i hi
  have hw := h2 hr
  rw [(h.nok i hi).vs] at hw
  unfold wonA at hw
  simp only [decide_eq_true_eq] at hw
  refine ⟨fun x => (nd w i).am x == 1, fun x hx => ?_, hw⟩
  have := h1 (.inr hr) x (by simpa using hx)
  rwa [(h.nok i hi).id] at this
/-- the leaders of terms, one more -/
def addL (L : List (Int × Int)) (x : Int × Int) : List (Int × Int) := if x ∈ L then L else L ++ [x]
def noteTo (w : Wd) : Nat → List (Int × Int)
  | 0 => w.leads
  | i + 1 => if (nd w i).role = 3 then addL (noteTo w i) ((nd w i).term, (i : Int) + 1) else noteTo w i
theorem note_most {m : Nat} {V : Vt} {B : Nat} {w : Wd} (h : WInv m V B w) : ∀ i, i ≤ m → ∀ x ∈ noteTo w i, Most m V x.1 x.2
  | 0, _ => h.led
  | i + 1, hi => by
    intro x hx
    unfold noteTo at hx
    split at hx
    · rename_i hr
      unfold addL at hx
      split at hx
      · exact note_most h i (by omega) x hx
      · rcases List.mem_append.1 hx with hx | hx
        · exact note_most h i (by omega) x hx
        · rw [List.mem_singleton] at hx
          rw [hx]
          exact lead_most h i (by omega) hr
    · exact note_most h i (by omega) x hx
theorem note_fine {m : Nat} {V : Vt} {B : Nat} {w : Wd} (h : WInv m V B w) (i : Nat) (hi : i < m) (hr : (nd w i).role = 3) (x : Int × Int) (hx : x ∈ noteTo w i) (ht : x.1 = (nd w i).term) : x.2 = (i : Int) + 1 := by
  have h1 := note_most h i (by omega) x hx
  rw [ht] at h1
  exact most_one h.fn h1 (lead_most h i hi hr)
theorem noted {m : Nat} {V : Vt} {B : Nat} {w : Wd} (h : WInv m V B w) : WInv m V B { w with leads := noteTo w m } := ⟨h.nl, h.ll, h.nok, h.fn, h.cur, h.yes, h.cand, note_most h m (Nat.le_refl _)⟩
/-- the world at its beginning -/
def logAt (logs : List (Int × Int)) (i : Nat) : Int × Int := if i < logs.length then logs.getD i (0, 0) else (0, 0)
def w0 (m : Nat) (logs : List (Int × Int)) : Wd := ⟨(List.range m).map fun (i : Nat) => st0 ((i : Int) + 1) 0 0 (ids m) [] 3, (List.range m).map (logAt logs), [], []⟩
theorem w0_nd (m : Nat) (logs : List (Int × Int)) (i : Nat) (h : i < m) : nd (w0 m logs) i = st0 ((i : Int) + 1) 0 0 (ids m) [] 3 := by simp [nd, w0, h]
theorem new_ok0 (m i : Nat) (h1 : 1 ≤ m) (hm : m ≤ 15) (hi : i < m) : newOk ((i : Int) + 1) 0 0 (ids m) [] 3 = true := by
  simp only [newOk, Bool.and_eq_true, decide_eq_true_eq]
  exact ⟨(okNode_iff _).2 (by omega), by simp [okHard, okTerm], ids_grp m h1 hm, by omega, by omega⟩
theorem w0_inv (m : Nat) (logs : List (Int × Int)) (h1 : 1 ≤ m) (hm : m ≤ 15) : WInv m (fun _ _ _ => False) 0 (w0 m logs) := by
  refine ⟨by simp [w0], by simp [w0], fun i hi => ?_, fun _ _ _ _ h => h.elim, fun _ _ _ h => h.elim, fun b hb => (by cases hb), fun i hi => ?_, fun x hx => (by cases hx)⟩
  · rw [w0_nd m logs i hi]
    exact ⟨st0_ok (new_ok0 m i h1 hm hi), rfl, rfl, rfl, rfl, Int.le_refl _⟩
  · rw [w0_nd m logs i hi]
    exact NInv.low (by simp [st0]) (by simp [st0])
end Go.Proofs.Ytjajgjpkiofhmaa.El
