/-
  Several texts in one: Layer 10, the mathematics: the state of a node, what each call makes of it, and that no call lowers its term or changes a vote. No condition. Layer 4 in memory: which blocks a call may have changed (Fr), the disk's block (Dsk), the map of its files. Conditions: as each theorem states.
-/
import Derived.Test.YtjadfpcipicckaaGreatJFieldBase
import Derived.Maps.OwnSet
namespace Go.Proofs.YtjadfpcipicckaaGreat.El
open Go.Proofs.YtjadfpcipicckaaGreat.Qu
set_option linter.unusedVariables false

abbrev MX : Int := 1099511627776
@[ext] structure Bal where
  kind : Int
  frm : Int
  to : Int
  term : Int
  idx : Int
  lt : Int
  yes : Bool
  deriving DecidableEq
@[ext] structure St where
  id : Int
  pat : Int
  term : Int
  vote : Int
  vs : List Int
  ls : List Int
  role : Int
  lead : Int
  wait : Int
  lim : Int
  am : Int → Int
def noneA : Int → Int := fun _ => 0
def onlyA (k : Int) : Int → Int := fun x => if x = k then 1 else 0
def setA (am : Int → Int) (k v : Int) : Int → Int := fun x => if x = k then v else am x
def wonA (vs : List Int) (am : Int → Int) : Bool := decide (need vs ≤ vs.countP fun x => am x == 1)
def lostA (vs : List Int) (am : Int → Int) : Bool := decide (vs.length - (vs.countP fun x => am x == 2) < need vs)
/-- numbers of nodes -/
def okNode (n : Int) : Bool := decide (1 ≤ n) && decide (n ≤ 15)
def okTerm (n : Int) : Bool := decide (0 ≤ n) && decide (n ≤ MX)
def okHard (t v : Int) : Bool := okTerm t && (decide (v = 0) || okNode v)
/-- the node's own log is newer than a ballot's -/
def newer (last lt : Int) (b : Bal) : Bool := decide (b.lt < lt) || (decide (lt = b.lt) && decide (b.idx < last))
def other (s : St) (n : Int) : Bool := okNode n && decide (n ≠ s.id)
def newOk (id t v : Int) (vs ls : List Int) (pat : Int) : Bool := okNode id && (okHard t v && (grpOk vs ls && (decide (1 ≤ pat) && decide (pat ≤ 1000))))
def st0 (id t v : Int) (vs ls : List Int) (pat : Int) : St := ⟨id, pat, t, v, vs, ls, 0, 0, 0, pat, noneA⟩
def askB (s : St) (kind term last lt : Int) (v : Int) : Bal := ⟨kind, s.id, v, term, last, lt, false⟩
def askAll (s : St) (kind term last lt : Int) : List Bal := (s.vs.filter fun v => decide (v ≠ s.id)).map (askB s kind term last lt)
def down (s : St) (t : Int) : St := { s with term := t, vote := 0, role := 0, lead := 0, am := noneA }
def leadS (s : St) : St := { s with role := 3, lead := s.id }
/-- run's state behind its own vote -/
def stood (s : St) : St := { s with term := s.term + 1, vote := s.id, role := 2, am := onlyA s.id }
def run (s : St) (last lt : Int) : St × List Bal :=
  if s.term = MX then ({ s with role := 0 }, [])
  else if wonA s.vs (onlyA s.id) then (leadS (stood s), [])
  else (stood s, askAll s 3 (s.term + 1) last lt)
def hoped (s : St) : St := { s with role := 1, lead := 0, am := onlyA s.id }
def hope (s : St) (last lt : Int) : St × List Bal :=
  if wonA s.vs (onlyA s.id) then run (hoped s) last lt else (hoped s, askAll s 1 (s.term + 1) last lt)
def tick (s : St) (draw last lt : Int) : St × List Bal :=
  if s.role = 3 then (s, [])
  else if s.wait + 1 < s.lim ∨ hasI s.vs s.id = false then ({ s with wait := s.wait + 1 }, [])
  else hope { s with wait := 0, lim := s.pat + (max draw 0).tmod s.pat } last lt
def recA (am : Int → Int) (b : Bal) : Int → Int := if am b.frm = 0 then setA am b.frm (if b.yes then 1 else 2) else am
def preY (s : St) (b : Bal) (last lt : Int) : Bool := (decide (s.lead = 0) || decide (s.pat ≤ s.wait)) && (decide (s.term < b.term) && !newer last lt b)
def preB (s : St) (b : Bal) (last lt : Int) : Bal := ⟨2, s.id, b.frm, if preY s b last lt then b.term else s.term, 0, 0, preY s b last lt⟩
def recS (s : St) (b : Bal) : St := { s with am := recA s.am b }
def preSay (s : St) (b : Bal) (last lt : Int) : St × List Bal :=
  if b.yes = false ∧ s.term < b.term then (down s b.term, [])
  else if s.role ≠ 1 ∨ (b.yes = true ∧ b.term ≠ s.term + 1) then (s, [])
  else if wonA s.vs (recA s.am b) then run (recS s b) last lt
  else if lostA s.vs (recA s.am b) then ({ recS s b with role := 0 }, [])
  else (recS s b, [])
def dn (s : St) (b : Bal) : St := if s.term < b.term then down s b.term else s
def askY (s : St) (b : Bal) (last lt : Int) : Bool := (decide (s.vote = 0) || decide (s.vote = b.frm)) && (decide (b.term = s.term) && !newer last lt b)
def grant (s : St) (b : Bal) : St := { s with vote := b.frm, wait := 0, role := if s.role = 1 then 0 else s.role }
def askS (s : St) (b : Bal) (last lt : Int) : St × List Bal :=
  if askY (dn s b) b last lt then (grant (dn s b) b, [⟨4, s.id, b.frm, (dn s b).term, 0, 0, true⟩])
  else (dn s b, [⟨4, s.id, b.frm, (dn s b).term, 0, 0, false⟩])
def sayS (s : St) (b : Bal) : St :=
  if s.term < b.term then down s b.term
  else if s.role ≠ 2 ∨ b.term ≠ s.term then s
  else if wonA s.vs (recA s.am b) then leadS (recS s b)
  else if lostA s.vs (recA s.am b) then { recS s b with role := 0 }
  else recS s b
def takes (s : St) (b : Bal) : Bool := decide (b.to = s.id) && (other s b.frm && okTerm b.term)
def take (s : St) (b : Bal) (last lt : Int) : St × List Bal :=
  if takes s b = false then (s, [])
  else if b.kind = 1 then (s, [preB s b last lt])
  else if b.kind = 2 then preSay s b last lt
  else if b.kind = 3 then askS s b last lt
  else if b.kind = 4 then (sayS s b, [])
  else (s, [])
def hears (s : St) (frm t : Int) : Bool := other s frm && (decide (s.term ≤ t) && (decide (t ≤ MX) && !(decide (t = s.term) && decide (s.role = 3))))
def heard (s : St) (frm t : Int) : St :=
  if hears s frm t then { (if s.term < t then down s t else s) with role := 0, lead := frm, wait := 0 } else s

structure St.Ok (s : St) : Prop where
  id1 : okNode s.id = true
  hard : okHard s.term s.vote = true
  grp : grpOk s.vs s.ls = true
  pat1 : 1 ≤ s.pat ∧ s.pat ≤ 1000
  w0 : 0 ≤ s.wait
  lm : 1 ≤ s.lim ∧ s.lim ≤ 2000
  role : 0 ≤ s.role ∧ s.role ≤ 3
  lead : 0 ≤ s.lead ∧ s.lead ≤ 15
  am : ∀ k, s.am k = 0 ∨ (okNode k = true ∧ (s.am k = 1 ∨ s.am k = 2))
theorem okNode_iff (n : Int) : okNode n = true ↔ 1 ≤ n ∧ n ≤ 15 := by simp [okNode]
theorem okTerm_iff (n : Int) : okTerm n = true ↔ 0 ≤ n ∧ n ≤ MX := by simp [okTerm]
theorem okHard_iff (t v : Int) : okHard t v = true ↔ (0 ≤ t ∧ t ≤ MX) ∧ (v = 0 ∨ (1 ≤ v ∧ v ≤ 15)) := by simp [okHard, okTerm_iff, okNode_iff]
theorem st0_ok {id t v : Int} {vs ls : List Int} {pat : Int} (h : newOk id t v vs ls pat = true) : (st0 id t v vs ls pat).Ok := by
  simp only [newOk, Bool.and_eq_true, decide_eq_true_eq] at h
  obtain ⟨h1, h2, h3, h4, h5⟩ := h
  exact ⟨h1, h2, h3, ⟨h4, h5⟩, Int.le_refl _, ⟨h4, by show pat ≤ 2000; omega⟩, by simp [st0], by simp [st0], fun k => .inl rfl⟩
theorem onlyA_ok {k : Int} (h : okNode k = true) (x : Int) : onlyA k x = 0 ∨ (okNode x = true ∧ (onlyA k x = 1 ∨ onlyA k x = 2)) := by
  unfold onlyA
  by_cases hx : x = k
  · rw [if_pos hx]; rw [hx]; exact .inr ⟨h, .inl rfl⟩
  · rw [if_neg hx]; exact .inl rfl
theorem recA_ok {s : St} (h : s.Ok) {b : Bal} (hb : okNode b.frm = true) (x : Int) : recA s.am b x = 0 ∨ (okNode x = true ∧ (recA s.am b x = 1 ∨ recA s.am b x = 2)) := by
  unfold recA
  by_cases h0 : s.am b.frm = 0
  · rw [if_pos h0]
    unfold setA
    by_cases hx : x = b.frm
    · rw [if_pos hx, hx]
      refine .inr ⟨hb, ?_⟩
      cases b.yes <;> simp
    · rw [if_neg hx]; exact h.am x
  · rw [if_neg h0]; exact h.am x
theorem down_ok {s : St} (h : s.Ok) {t : Int} (ht : okTerm t = true) : (down s t).Ok :=
  ⟨h.id1, by simp [down, okHard, ht], h.grp, h.pat1, h.w0, h.lm, by simp [down], by simp [down], fun k => .inl rfl⟩
theorem leadS_ok {s : St} (h : s.Ok) : (leadS s).Ok := by
  have := (okNode_iff _).1 h.id1
  exact ⟨h.id1, h.hard, h.grp, h.pat1, h.w0, h.lm, by simp [leadS], by simp [leadS]; omega, h.am⟩
theorem role_ok {s : St} (h : s.Ok) {r : Int} (hr : 0 ≤ r ∧ r ≤ 3) : ({ s with role := r } : St).Ok := ⟨h.id1, h.hard, h.grp, h.pat1, h.w0, h.lm, hr, h.lead, h.am⟩
theorem stood_ok {s : St} (h : s.Ok) (ht : s.term ≠ MX) : (stood s).Ok := by
  have hh := (okHard_iff _ _).1 h.hard
  have hi := (okNode_iff _).1 h.id1
  refine ⟨h.id1, (okHard_iff _ _).2 ?_, h.grp, h.pat1, h.w0, h.lm, by simp [stood], h.lead, onlyA_ok h.id1⟩
  show (0 ≤ s.term + 1 ∧ s.term + 1 ≤ MX) ∧ (s.id = 0 ∨ _)
  have := hh.1.2
  exact ⟨by omega, .inr hi⟩
theorem run_ok {s : St} (h : s.Ok) (last lt : Int) : (run s last lt).1.Ok := by
  unfold run
  by_cases ht : s.term = MX
  · rw [if_pos ht]; exact role_ok h (by omega)
  · rw [if_neg ht]
    split
    · exact leadS_ok (stood_ok h ht)
    · exact stood_ok h ht
theorem hoped_ok {s : St} (h : s.Ok) : (hoped s).Ok := ⟨h.id1, h.hard, h.grp, h.pat1, h.w0, h.lm, by simp [hoped], by simp [hoped], onlyA_ok h.id1⟩
theorem hope_ok {s : St} (h : s.Ok) (last lt : Int) : (hope s last lt).1.Ok := by
  unfold hope
  split
  · exact run_ok (hoped_ok h) _ _
  · exact hoped_ok h
theorem draw_in (d p : Int) (h : 1 ≤ p ∧ p ≤ 1000) : 0 ≤ (max d 0).tmod p ∧ (max d 0).tmod p < 1000 := by
  have h0 : (0 : Int) ≤ max d 0 := by omega
  rw [Int.tmod_eq_emod_of_nonneg h0]
  have h1 := Int.emod_nonneg (max d 0) (show p ≠ 0 by omega)
  have h2 := Int.emod_lt_of_pos (max d 0) (show 0 < p by omega)
  omega
theorem tick_ok {s : St} (h : s.Ok) (draw last lt : Int) : (tick s draw last lt).1.Ok := by
  unfold tick
  have hw := h.w0
  have hd := draw_in draw s.pat h.pat1
  have hp := h.pat1
  split
  · exact h
  split
  · exact ⟨h.id1, h.hard, h.grp, h.pat1, by show 0 ≤ s.wait + 1; omega, h.lm, h.role, h.lead, h.am⟩
  · refine hope_ok (s := { s with wait := 0, lim := s.pat + (max draw 0).tmod s.pat }) ⟨h.id1, h.hard, h.grp, h.pat1, Int.le_refl _, ?_, h.role, h.lead, h.am⟩ _ _
    show 1 ≤ s.pat + (max draw 0).tmod s.pat ∧ s.pat + (max draw 0).tmod s.pat ≤ 2000
    omega
theorem recS_ok {s : St} (h : s.Ok) {b : Bal} (hb : okNode b.frm = true) : (recS s b).Ok := ⟨h.id1, h.hard, h.grp, h.pat1, h.w0, h.lm, h.role, h.lead, recA_ok h hb⟩
theorem preSay_ok {s : St} (h : s.Ok) {b : Bal} (hb : okNode b.frm = true) (ht : okTerm b.term = true) (last lt : Int) : (preSay s b last lt).1.Ok := by
  unfold preSay
  split
  · exact down_ok h ht
  split
  · exact h
  split
  · exact run_ok (recS_ok h hb) _ _
  split
  · exact role_ok (recS_ok h hb) (by omega)
  · exact recS_ok h hb
theorem dn_ok {s : St} (h : s.Ok) {b : Bal} (ht : okTerm b.term = true) : (dn s b).Ok := by
  unfold dn
  split
  · exact down_ok h ht
  · exact h
theorem grant_ok {s : St} (h : s.Ok) {b : Bal} (hb : okNode b.frm = true) : (grant s b).Ok := by
  have hh := (okHard_iff _ _).1 h.hard
  have hr := h.role
  refine ⟨h.id1, (okHard_iff _ _).2 ⟨hh.1, .inr ((okNode_iff _).1 hb)⟩, h.grp, h.pat1, Int.le_refl _, h.lm, ?_, h.lead, h.am⟩
  show 0 ≤ (if s.role = 1 then 0 else s.role) ∧ (if s.role = 1 then 0 else s.role) ≤ 3
  split <;> omega
theorem askS_ok {s : St} (h : s.Ok) {b : Bal} (hb : okNode b.frm = true) (ht : okTerm b.term = true) (last lt : Int) : (askS s b last lt).1.Ok := by
  unfold askS
  split
  · exact grant_ok (dn_ok h ht) hb
  · exact dn_ok h ht
theorem sayS_ok {s : St} (h : s.Ok) {b : Bal} (hb : okNode b.frm = true) (ht : okTerm b.term = true) : (sayS s b).Ok := by
  unfold sayS
  split
  · exact down_ok h ht
  split
  · exact h
  split
  · exact leadS_ok (recS_ok h hb)
  split
  · exact role_ok (recS_ok h hb) (by omega)
  · exact recS_ok h hb
theorem takes_iff (s : St) (b : Bal) : takes s b = true ↔ b.to = s.id ∧ (okNode b.frm = true ∧ b.frm ≠ s.id) ∧ okTerm b.term = true := by simp [takes, other]
theorem take_ok {s : St} (h : s.Ok) (b : Bal) (last lt : Int) : (take s b last lt).1.Ok := by
  unfold take
  cases ht : takes s b with
  | false => exact h
  | true =>
    obtain ⟨_, ⟨hf, _⟩, hT⟩ := (takes_iff s b).1 ht
    rw [if_neg (by simp)]
    split
    · exact h
    split
    · exact preSay_ok h hf hT _ _
    split
    · exact askS_ok h hf hT _ _
    split
    · exact sayS_ok h hf hT
    · exact h
theorem heard_ok {s : St} (h : s.Ok) (frm t : Int) : (heard s frm t).Ok := by
  unfold heard
  cases hh : hears s frm t with
  | false => exact h
  | true =>
    rw [if_pos rfl]
    simp only [hears, other, Bool.and_eq_true, decide_eq_true_eq] at hh
    obtain ⟨⟨h1, h2⟩, h3, h4, _⟩ := hh
    have hb := (okHard_iff _ _).1 h.hard
    have hf := (okNode_iff _).1 h1
    have key : (if s.term < t then down s t else s).Ok := by
      split
      · exact down_ok h ((okTerm_iff _).2 ⟨by omega, h4⟩)
      · exact h
    exact ⟨key.id1, key.hard, key.grp, key.pat1, Int.le_refl _, key.lm, by simp, by simp; omega, key.am⟩
/-- the group may change -/
theorem join_ok {s : St} (h : s.Ok) {vs ls : List Int} (hg : grpOk vs ls = true) : ({ s with vs := vs, ls := ls } : St).Ok := ⟨h.id1, h.hard, hg, h.pat1, h.w0, h.lm, h.role, h.lead, h.am⟩

/-! ### the term never falls; a vote that was given stays in its term -/
def Stays (s s' : St) : Prop := s.term ≤ s'.term ∧ (s'.term = s.term → s.vote ≠ 0 → s'.vote = s.vote)
theorem Stays.refl (s : St) : Stays s s := ⟨Int.le_refl _, fun _ _ => rfl⟩
theorem down_stays {s : St} {t : Int} (h : s.term < t) : Stays s (down s t) := ⟨by show s.term ≤ t; omega, fun (e : t = s.term) => by omega⟩
theorem run_stays (s : St) (last lt : Int) : Stays s (run s last lt).1 := by
  unfold run
  split
  · exact ⟨Int.le_refl _, fun _ _ => rfl⟩
  split
  · exact ⟨by show s.term ≤ s.term + 1; omega, fun (e : s.term + 1 = s.term) => by omega⟩
  · exact ⟨by show s.term ≤ s.term + 1; omega, fun (e : s.term + 1 = s.term) => by omega⟩
theorem tick_stays (s : St) (draw last lt : Int) : Stays s (tick s draw last lt).1 := by
  unfold tick
  split
  · exact Stays.refl s
  split
  · exact ⟨Int.le_refl _, fun _ _ => rfl⟩
  · unfold hope
    split
    · exact run_stays _ _ _
    · exact ⟨Int.le_refl _, fun _ _ => rfl⟩
theorem dn_stays (s : St) (b : Bal) : Stays s (dn s b) := by
  unfold dn
  split
  · exact down_stays (by assumption)
  · exact Stays.refl s
theorem take_stays (s : St) (b : Bal) (last lt : Int) : Stays s (take s b last lt).1 := by
  unfold take
  split
  · exact Stays.refl s
  split
  · exact Stays.refl s
  split
  · unfold preSay
    split
    · rename_i h; exact down_stays h.2
    split
    · exact Stays.refl s
    split
    · exact run_stays (recS s b) _ _
    split
    · exact ⟨Int.le_refl _, fun _ _ => rfl⟩
    · exact ⟨Int.le_refl _, fun _ _ => rfl⟩
  split
  · unfold askS
    split
    · rename_i hy
      have hd := dn_stays s b
      simp only [askY, Bool.and_eq_true, Bool.or_eq_true, decide_eq_true_eq] at hy
      refine ⟨hd.1, fun e hv => ?_⟩
      have := hd.2 e hv
      show b.frm = s.vote
      rcases hy.1 with h | h
      · rw [this] at h; exact absurd h hv
      · rw [← h, this]
    · exact dn_stays s b
  split
  · unfold sayS
    split
    · exact down_stays (by assumption)
    split
    · exact Stays.refl s
    split
    · exact ⟨Int.le_refl _, fun _ _ => rfl⟩
    split
    · exact ⟨Int.le_refl _, fun _ _ => rfl⟩
    · exact ⟨Int.le_refl _, fun _ _ => rfl⟩
  · exact Stays.refl s
theorem heard_stays (s : St) (frm t : Int) : Stays s (heard s frm t) := by
  unfold heard
  split
  · by_cases h : s.term < t
    · rw [if_pos h]
      exact ⟨by show s.term ≤ t; omega, fun (e : t = s.term) => by omega⟩
    · rw [if_neg h]; exact ⟨Int.le_refl _, fun _ _ => rfl⟩
  · exact Stays.refl s
/-- what a call leaves as it is: the node's number, its group, its patience; it waits no longer than a tick more -/
theorem run_same (s : St) (last lt : Int) : (run s last lt).1.id = s.id ∧ (run s last lt).1.vs = s.vs ∧ (run s last lt).1.ls = s.ls ∧ (run s last lt).1.pat = s.pat ∧ (run s last lt).1.wait = s.wait := by
  unfold run
  split
  · exact ⟨rfl, rfl, rfl, rfl, rfl⟩
  split <;> exact ⟨rfl, rfl, rfl, rfl, rfl⟩
theorem tick_same (s : St) (h : 0 ≤ s.wait) (draw last lt : Int) : (tick s draw last lt).1.id = s.id ∧ (tick s draw last lt).1.vs = s.vs ∧ (tick s draw last lt).1.ls = s.ls ∧ (tick s draw last lt).1.pat = s.pat ∧ (tick s draw last lt).1.wait ≤ s.wait + 1 := by
  unfold tick
  split
  · exact ⟨rfl, rfl, rfl, rfl, by show s.wait ≤ s.wait + 1; omega⟩
  split
  · exact ⟨rfl, rfl, rfl, rfl, Int.le_refl _⟩
  · unfold hope
    split
    · obtain ⟨h1, h2, h3, h4, h5⟩ := run_same (hoped { s with wait := 0, lim := s.pat + (max draw 0).tmod s.pat }) last lt
      exact ⟨h1, h2, h3, h4, by rw [h5]; show (0 : Int) ≤ _; omega⟩
    · exact ⟨rfl, rfl, rfl, rfl, by show (0 : Int) ≤ _; omega⟩
theorem dn_same (s : St) (b : Bal) : (dn s b).id = s.id ∧ (dn s b).vs = s.vs ∧ (dn s b).ls = s.ls ∧ (dn s b).pat = s.pat ∧ (dn s b).wait = s.wait := by
  unfold dn; split <;> exact ⟨rfl, rfl, rfl, rfl, rfl⟩
theorem take_same (s : St) (h : 0 ≤ s.wait) (b : Bal) (last lt : Int) : (take s b last lt).1.id = s.id ∧ (take s b last lt).1.vs = s.vs ∧ (take s b last lt).1.ls = s.ls ∧ (take s b last lt).1.pat = s.pat ∧ (take s b last lt).1.wait ≤ s.wait := by
  unfold take
  split
  · exact ⟨rfl, rfl, rfl, rfl, Int.le_refl _⟩
  split
  · exact ⟨rfl, rfl, rfl, rfl, Int.le_refl _⟩
  split
  · unfold preSay
    split
    · exact ⟨rfl, rfl, rfl, rfl, Int.le_refl _⟩
    split
    · exact ⟨rfl, rfl, rfl, rfl, Int.le_refl _⟩
    split
    · obtain ⟨h1, h2, h3, h4, h5⟩ := run_same (recS s b) last lt
      exact ⟨h1, h2, h3, h4, by rw [h5]; exact Int.le_refl _⟩
    split <;> exact ⟨rfl, rfl, rfl, rfl, Int.le_refl _⟩
  split
  · obtain ⟨h1, h2, h3, h4, h5⟩ := dn_same s b
    unfold askS
    split
    · exact ⟨h1, h2, h3, h4, h⟩
    · exact ⟨h1, h2, h3, h4, by rw [h5]; exact Int.le_refl _⟩
  split
  · unfold sayS
    split
    · exact ⟨rfl, rfl, rfl, rfl, Int.le_refl _⟩
    split
    · exact ⟨rfl, rfl, rfl, rfl, Int.le_refl _⟩
    split
    · exact ⟨rfl, rfl, rfl, rfl, Int.le_refl _⟩
    split <;> exact ⟨rfl, rfl, rfl, rfl, Int.le_refl _⟩
  · exact ⟨rfl, rfl, rfl, rfl, Int.le_refl _⟩
theorem heard_same (s : St) (h : 0 ≤ s.wait) (frm t : Int) : (heard s frm t).id = s.id ∧ (heard s frm t).vs = s.vs ∧ (heard s frm t).ls = s.ls ∧ (heard s frm t).pat = s.pat ∧ (heard s frm t).wait ≤ s.wait := by
  unfold heard
  split
  · split <;> exact ⟨rfl, rfl, rfl, rfl, h⟩
  · exact ⟨rfl, rfl, rfl, rfl, Int.le_refl _⟩

/-! ### lists of those who said so -/
def saidL (am : Int → Int) (a : Int) : List Int := ((List.range 15).map fun (i : Nat) => ((i : Int) + 1)).filter fun k => am k == a
def saidTo (am : Int → Int) (a : Int) (n : Nat) : List Int := ((List.range n).map fun (i : Nat) => ((i : Int) + 1)).filter fun k => am k == a
theorem saidTo_succ (am : Int → Int) (a : Int) (n : Nat) : saidTo am a (n + 1) = saidTo am a n ++ (if am ((n : Int) + 1) == a then [(n : Int) + 1] else []) := by
  unfold saidTo
  rw [List.range_succ, List.map_append, List.filter_append]
  congr 1
  simp only [List.map_cons, List.map_nil, List.filter_cons, List.filter_nil]
theorem saidTo_len (am : Int → Int) (a : Int) (n : Nat) : (saidTo am a n).length ≤ n := by
  unfold saidTo
  refine Nat.le_trans (List.length_filter_le _ _) ?_
  simp
theorem mem_said (am : Int → Int) (a x : Int) : x ∈ saidL am a ↔ (1 ≤ x ∧ x ≤ 15) ∧ am x = a := by
  unfold saidL
  simp only [List.mem_filter, List.mem_map, List.mem_range, beq_iff_eq]
  constructor
  · rintro ⟨⟨i, hi, rfl⟩, h⟩; exact ⟨by omega, h⟩
  · rintro ⟨h, h2⟩; exact ⟨⟨(x - 1).toNat, by omega, by omega⟩, h2⟩
theorem cnt_said {vs ls : List Int} (hg : grpOk vs ls = true) (am : Int → Int) (a : Int) : cnt vs (saidL am a) = vs.countP fun x => am x == a := by
  unfold cnt
  obtain ⟨_, hu, _, _⟩ := (grpOk_iff vs ls).1 hg
  have := (upN_all vs 0 hu).1
  refine List.countP_congr fun x hx => ?_
  rw [has_iff, mem_said, beq_iff_eq]
  have := this x hx
  exact ⟨fun h => h.2, fun h => ⟨by omega, h⟩⟩
theorem wins_said {vs ls : List Int} (hg : grpOk vs ls = true) (am : Int → Int) : winsG vs ls (saidL am 1) = wonA vs am := by
  unfold winsG wonA
  rw [cnt_said hg, hg]
  rfl
theorem lost_said {vs ls : List Int} (hg : grpOk vs ls = true) (am : Int → Int) : lostG vs ls (saidL am 2) = lostA vs am := by
  unfold lostG lostA
  rw [cnt_said hg, hg]
  rfl
end Go.Proofs.YtjadfpcipicckaaGreat.El

namespace Go.Proofs.YtjadfpcipicckaaGreat.Dk
open Go.RowKit Go.Proofs.YtjadfpcipicckaaGreat.Fld

/-- of the blocks that were there, those on the list alone may have changed -/
structure Fr (S : List Nat) (w w' : World) : Prop where
  os : w'.os = w.os
  tape : w'.tape = w.tape
  output : w'.output = w.output
  size : w.heap.size ≤ w'.heap.size
  block : ∀ k, k < w.heap.size → k ∉ S → w'.heap[k]? = w.heap[k]?
theorem Fr.refl (S : List Nat) (w : World) : Fr S w w := ⟨rfl, rfl, rfl, Nat.le_refl _, fun _ _ _ => rfl⟩
theorem Fr.trans {S S' : List Nat} {a b c : World} (h : Fr S a b) (k : Fr S' b c) (hs : ∀ i ∈ S', i ∈ S ∨ a.heap.size ≤ i) : Fr S a c :=
  ⟨k.os.trans h.os, k.tape.trans h.tape, k.output.trans h.output, Nat.le_trans h.size k.size, fun i hi hg => (k.block i (Nat.lt_of_lt_of_le hi h.size) (fun hm => by rcases hs i hm with h | h; exact hg h; omega)).trans (h.block i hi hg)⟩
theorem Fr.same {S : List Nat} {a b c : World} (h : Fr S a b) (k : Fr S b c) : Fr S a c := h.trans k fun _ hi => .inl hi
theorem Fr.mono {S S' : List Nat} {a b : World} (h : Fr S a b) (hs : ∀ i ∈ S, i ∈ S') : Fr S' a b := ⟨h.os, h.tape, h.output, h.size, fun k hk hn => h.block k hk (fun hm => hn (hs k hm))⟩
theorem Fr.alloc {S : List Nat} {a w : World} (h : Fr S a w) (o : Obj) : Fr S a (w.alloc o) :=
  h.same ⟨rfl, rfl, rfl, by simp, fun k hk _ => Below.heap_alloc _ _ _ hk⟩
theorem Fr.setCell {S : List Nat} {a w : World} (h : Fr S a w) (p : Addr) (hp : p.block ∈ S ∨ a.heap.size ≤ p.block) (u : Value) : Fr S a (w.setCell p u) := by
  refine ⟨h.os, h.tape, h.output, by simpa [World.setCell] using h.size, fun k hk hg => ?_⟩
  rw [Below.heap_setCell _ _ _ _ (by rintro rfl; rcases hp with hp | hp; exact hg hp; omega)]
  exact h.block k hk hg
theorem Fr.below {S : List Nat} {w w' : World} (h : Below w.heap.size w w') : Fr S w w' := ⟨h.os, h.tape, h.output, h.size, fun k hk _ => h.block k hk⟩
theorem Fr.to_below {S : List Nat} {w0 w w' : World} (h : Below w0.heap.size w0 w) (hc : Fr S w w') (hg : ∀ i ∈ S, w0.heap.size ≤ i) : Below w0.heap.size w0 w' :=
  h.trans ⟨hc.os, hc.tape, hc.output, hc.size, fun k hk => hc.block k (by have := h.size; omega) (fun hm => by have := hg k hm; omega)⟩
theorem Fr.drew {S : List Nat} {a w : World} (h : Fr S a w) : Fr S a w.drew := ⟨h.os, h.tape, h.output, h.size, h.block⟩
theorem Fr.grown {S : List Nat} {a w w' : World} {row : Option Nat} (h : Fr S a w) (hg : w.grownBy w' row) (hr : ∀ i, row = some i → i ∈ S ∨ a.heap.size ≤ i) : Fr S a w' :=
  ⟨hg.os.trans h.os, hg.tape.trans h.tape, hg.output.trans h.output, Nat.le_trans h.size hg.size, fun k hk hn => (hg.block k (Nat.lt_of_lt_of_le hk h.size) (by rintro rfl; rcases hr k rfl with h | h; exact hn h; omega)).trans (h.block k hk hn)⟩
theorem Fr.turned {S : List Nat} {a w w' : World} {b : Nat} (h : Fr S a w) (hg : w.mapTurned w' b) (hr : b ∈ S ∨ a.heap.size ≤ b) : Fr S a w' := h.grown hg.grown (fun i hi => by cases hi; exact hr)

def goodRoom (room : Int) : Bool := decide (1 ≤ room) && decide (room ≤ 16777216)

end Go.Proofs.YtjadfpcipicckaaGreat.Dk
