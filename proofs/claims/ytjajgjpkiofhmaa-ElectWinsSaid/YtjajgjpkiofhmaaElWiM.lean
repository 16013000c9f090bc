/-
  Layer 10, the mathematics of ElectWins: where one node ticks and all ballots come in the order in which they were sent, it leads just if most have logs that are not newer. No condition.
-/
import Derived.Test.YtjajgjpkiofhmaaElOnM
namespace Go.Proofs.Ytjajgjpkiofhmaa.El
open Go.Proofs.Ytjajgjpkiofhmaa.Qu
set_option linter.unusedVariables false

theorem countP_out : ∀ (l : List Int) (x : Int) (p : Int → Bool), l.Nodup → x ∈ l → p x = true → l.countP p = (l.filter fun v => decide (v ≠ x)).countP p + 1
  | [], x, p, _, h, _ => by cases h
  | y :: r, x, p, hn, h, hp => by
    obtain ⟨h1, h2⟩ := List.nodup_cons.1 hn
    by_cases e : y = x
    · subst e
      have hr : (r.filter fun v => decide (v ≠ y)) = r := by
        rw [List.filter_eq_self]
        intro z hz
        simp only [decide_eq_true_eq]
        rintro rfl
        exact h1 hz
      rw [List.countP_cons, if_pos hp, List.filter_cons, if_neg (by simp), hr]
    · have hx : x ∈ r := by
        rcases List.mem_cons.1 h with e' | h'
        · exact absurd e'.symm e
        · exact h'
      have ih := countP_out r x p h2 hx hp
      rw [List.filter_cons, if_pos (by simpa using e), List.countP_cons, List.countP_cons, ih]
      omega
theorem countP_setA : ∀ (l : List Int) (x : Int) (am : Int → Int) (v a : Int), l.Nodup → x ∈ l → am x = 0 → a ≠ 0 → (l.countP fun y => setA am x v y == a) = (l.countP fun y => am y == a) + (if v = a then 1 else 0)
  | [], x, am, v, a, _, h, _, _ => by cases h
  | y :: r, x, am, v, a, hn, h, h0, ha => by
    obtain ⟨h1, h2⟩ := List.nodup_cons.1 hn
    by_cases e : y = x
    · subst e
      have hr : (r.countP fun z => setA am y v z == a) = r.countP fun z => am z == a := by
        refine List.countP_congr fun z hz => ?_
        unfold setA
        rw [if_neg (by rintro rfl; exact h1 hz)]
      rw [List.countP_cons, List.countP_cons, hr]
      unfold setA
      rw [if_pos rfl, h0]
      by_cases hv : v = a
      · simp [hv, Ne.symm ha]
      · simp [hv, Ne.symm ha]
    · have hx : x ∈ r := by
        rcases List.mem_cons.1 h with e' | h'
        · exact absurd e'.symm e
        · exact h'
      have ih := countP_setA r x am v a h2 hx h0 ha
      rw [List.countP_cons, List.countP_cons, ih]
      have : setA am x v y = am y := by unfold setA; rw [if_neg e]
      rw [this]
      omega
theorem ids_nodup (m : Nat) : (ids m).Nodup := by
  unfold ids
  exact List.pairwise_map.2 (List.nodup_range.imp fun {a b} h e => h (by have : (a : Int) + 1 = (b : Int) + 1 := e; omega))
def oth (m k : Nat) : List Int := (ids m).filter fun v => decide (v ≠ (k : Int) + 1)
theorem mem_oth (m k : Nat) (v : Int) : v ∈ oth m k ↔ (1 ≤ v ∧ v ≤ m) ∧ v ≠ (k : Int) + 1 := by
  unfold oth
  rw [List.mem_filter, mem_ids]
  simp
theorem oth_nodup (m k : Nat) : (oth m k).Nodup := (ids_nodup m).filter _
theorem oth_count (m k : Nat) (hk : k < m) (p : Int → Bool) (hp : p ((k : Int) + 1) = true) : (ids m).countP p = (oth m k).countP p + 1 := countP_out _ _ p (ids_nodup m) ((mem_ids m _).2 (by omega)) hp
theorem oth_len (m k : Nat) (hk : k < m) : (oth m k).length + 1 = m := by
  have := oth_count m k hk (fun _ => true) rfl
  simp [ids_len] at this
  omega
/-- the answers behind the first j of them -/
def amB (k : Nat) (Y : Int → Bool) (l : List Int) : Int → Int := l.foldl (fun am v => setA am v (if Y v then 1 else 2)) (onlyA ((k : Int) + 1))
theorem amB_snoc (k : Nat) (Y : Int → Bool) (l : List Int) (v : Int) : amB k Y (l ++ [v]) = setA (amB k Y l) v (if Y v then 1 else 2) := by simp [amB, List.foldl_append]
theorem fold_zero (Y : Int → Bool) (x : Int) : ∀ (l : List Int) (am : Int → Int), x ∉ l → l.foldl (fun am v => setA am v (if Y v then 1 else 2)) am x = am x
  | [], am, _ => rfl
  | y :: r, am, h => by
    rw [List.foldl_cons, fold_zero Y x r _ (fun hm => h (List.mem_cons_of_mem _ hm))]
    unfold setA
    rw [if_neg (by rintro rfl; exact h (by simp))]
theorem amB_zero (k : Nat) (Y : Int → Bool) (l : List Int) (x : Int) (h : x ∉ l) (hx : x ≠ (k : Int) + 1) : amB k Y l x = 0 := by
  unfold amB
  rw [fold_zero Y x l _ h]
  unfold onlyA
  rw [if_neg hx]
theorem only_count (m k : Nat) (hk : k < m) : ((ids m).countP fun x => onlyA ((k : Int) + 1) x == 1) = 1 ∧ ((ids m).countP fun x => onlyA ((k : Int) + 1) x == 2) = 0 := by
  constructor
  · rw [oth_count m k hk _ (by simp [onlyA])]
    have : ((oth m k).countP fun x => onlyA ((k : Int) + 1) x == 1) = 0 := by
      rw [List.countP_eq_zero]
      intro v hv
      have := ((mem_oth m k v).1 hv).2
      simp [onlyA, this]
    omega
  · rw [List.countP_eq_zero]
    intro v hv
    unfold onlyA
    split <;> simp
theorem amB_count (m k : Nat) (hk : k < m) (Y : Int → Bool) : ∀ j, j ≤ (oth m k).length →
    ((ids m).countP fun x => amB k Y ((oth m k).take j) x == 1) = 1 + ((oth m k).take j).countP Y ∧ ((ids m).countP fun x => amB k Y ((oth m k).take j) x == 2) = ((oth m k).take j).countP fun v => !Y v
  | 0, _ => by
    obtain ⟨h1, h2⟩ := only_count m k hk
    exact ⟨h1, h2⟩
  | j + 1, hj => by
    obtain ⟨h1, h2⟩ := amB_count m k hk Y j (by omega)
    have hl : j < (oth m k).length := by omega
    have hv : (oth m k).getD j 0 ∈ oth m k := by rw [List.getD_eq_getElem?_getD, List.getElem?_eq_getElem hl]; exact List.getElem_mem _
    have hm := (mem_oth m k _).1 hv
    have hnot : (oth m k).getD j 0 ∉ (oth m k).take j := by
      intro hX
      have hnd := oth_nodup m k
      rw [← List.take_append_drop j (oth m k)] at hnd
      refine (List.nodup_append.1 hnd).2.2 _ hX ((oth m k).getD j 0) ?_ rfl
      rw [List.drop_eq_getElem_cons hl, List.getD_eq_getElem?_getD, List.getElem?_eq_getElem hl]
      exact List.mem_cons_self
    rw [take_succ _ j hl, amB_snoc, List.countP_append, List.countP_append, List.countP_singleton, List.countP_singleton]
    have h0 := amB_zero k Y _ _ hnot hm.2
    have hin : (oth m k).getD j 0 ∈ ids m := (mem_ids m _).2 hm.1
    rw [countP_setA _ _ _ _ 1 (ids_nodup m) hin h0 (by omega), countP_setA _ _ _ _ 2 (ids_nodup m) hin h0 (by omega), h1, h2]
    cases Y ((oth m k).getD j 0) <;> simp <;> omega

/-! ### the ballots, one behind the other -/
def b00 : Bal := ⟨0, 0, 0, 0, 0, 0, false⟩
def iter (w : Wd) : Nat → Wd
  | 0 => w
  | i + 1 => if i < (iter w i).sent.length then come (iter w i) ((iter w i).sent.getD i b00) else iter w i
structure Stg (m k : Nat) (logs : List (Int × Int)) (w : Wd) (s : St) (sent : List Bal) : Prop where
  nl : w.ns.length = m
  lg : w.logs = logs
  nk : nd w k = s
  sent : w.sent = sent
def fresh (m : Nat) (v : Int) : St := st0 v 0 0 (ids m) [] 3
def Fsh (m : Nat) (w : Wd) (l : List Int) : Prop := ∀ v ∈ l, nd w (v - 1).toNat = fresh m v
def Yv (logs : List (Int × Int)) (k : Nat) (v : Int) : Bool := !newer (logs.getD (v - 1).toNat (0, 0)).1 (logs.getD (v - 1).toNat (0, 0)).2 ⟨0, 0, 0, 0, (logs.getD k (0, 0)).1, (logs.getD k (0, 0)).2, false⟩
theorem come_nd {w : Wd} {b : Bal} {j : Nat} (h : b.to = (j : Int) + 1) (hj : j < w.ns.length) :
    nd (come w b) j = (take (nd w j) b (lg w j).1 (lg w j).2).1 ∧ (∀ i, i ≠ j → nd (come w b) i = nd w i) ∧ (come w b).ns.length = w.ns.length ∧ (come w b).logs = w.logs ∧ (come w b).sent = w.sent ++ (take (nd w j) b (lg w j).1 (lg w j).2).2 := by
  unfold come
  rw [if_pos (by omega), show (b.to - 1).toNat = j by omega]
  have key := nd_set w.ns w.logs (w.sent ++ (take (nd w j) b (lg w j).1 (lg w j).2).2) w.leads j (take (nd w j) b (lg w j).1 (lg w j).2).1
  refine ⟨?_, fun i hi => ?_, by simp [doN], rfl, rfl⟩
  · have := key j hj; rw [if_pos rfl] at this; exact this
  · have := key i hj; rw [if_neg hi] at this; exact this
/-- the states of the one that ticks -/
def hopR (m k : Nat) (r : Int) (am : Int → Int) : St := ⟨(k : Int) + 1, 3, 0, 0, ids m, [], r, 0, 0, 3, am⟩
abbrev hop (m k : Nat) : St := hopR m k 1 (onlyA ((k : Int) + 1))
def sto (m k : Nat) (am : Int → Int) : St := ⟨(k : Int) + 1, 3, 1, (k : Int) + 1, ids m, [], 2, 0, 0, 3, am⟩
theorem iter_step (w : Wd) (i : Nat) (h : i < (iter w i).sent.length) : iter w (i + 1) = come (iter w i) ((iter w i).sent.getD i b00) := by
  show (if _ then _ else _) = _
  rw [if_pos h]
def preOf (k : Nat) (logs : List (Int × Int)) (v : Int) : Bal := ⟨1, (k : Int) + 1, v, 1, (logs.getD k (0, 0)).1, (logs.getD k (0, 0)).2, false⟩
def preR (k : Nat) (Y : Int → Bool) (v : Int) : Bal := ⟨2, v, (k : Int) + 1, if Y v then 1 else 0, 0, 0, Y v⟩
def askOf (k : Nat) (logs : List (Int × Int)) (v : Int) : Bal := ⟨3, (k : Int) + 1, v, 1, (logs.getD k (0, 0)).1, (logs.getD k (0, 0)).2, false⟩
def sayR (k : Nat) (Y : Int → Bool) (v : Int) : Bal := ⟨4, v, (k : Int) + 1, 1, 0, 0, Y v⟩
theorem getD_map {α β : Type} (l : List α) (f : α → β) (i : Nat) (a : α) (b : β) (h : i < l.length) : (l.map f).getD i b = f (l.getD i a) := by simp [h]
theorem getD_left {α : Type} (l r : List α) (i : Nat) (a : α) (h : i < l.length) : (l ++ r).getD i a = l.getD i a := by simp [List.getElem?_append_left h]
theorem getD_right {α : Type} (l r : List α) (i n : Nat) (a : α) (h : l.length = n) : (l ++ r).getD (n + i) a = r.getD i a := by
  subst h
  simp [List.getElem?_append_right]
theorem getD_mem (l : List Int) (j : Nat) (h : j < l.length) : l.getD j 0 ∈ l := by rw [List.getD_eq_getElem?_getD, List.getElem?_eq_getElem h]; exact List.getElem_mem _
theorem getD_mem_drop (l : List Int) (j : Nat) (h : j < l.length) : l.getD j 0 ∈ l.drop j := by
  rw [List.drop_eq_getElem_cons h, List.getD_eq_getElem?_getD, List.getElem?_eq_getElem h]
  exact List.mem_cons_self
theorem at_oth {m k : Nat} (hk : k < m) (hm : m ≤ 15) (j : Nat) (hj : j < (oth m k).length) : ∃ i : Nat, i < m ∧ i ≠ k ∧ (oth m k).getD j 0 = (i : Int) + 1 := by
  have := (mem_oth m k _).1 (getD_mem _ j hj)
  exact ⟨((oth m k).getD j 0 - 1).toNat, by omega, by omega, by omega⟩
theorem drop_ne {m k : Nat} (hk : k < m) (hm : m ≤ 15) (j : Nat) (hj : j < (oth m k).length) : ∀ v ∈ (oth m k).drop (j + 1), v ≠ (oth m k).getD j 0 := by
  intro v hv e
  have hnd := oth_nodup m k
  rw [← List.take_append_drop j (oth m k), List.drop_eq_getElem_cons hj] at hnd
  have h2 := (List.nodup_cons.1 (List.nodup_append.1 hnd).2.1).1
  rw [e, List.getD_eq_getElem?_getD, List.getElem?_eq_getElem hj] at hv
  exact h2 hv
theorem not_take {m k : Nat} (j : Nat) (hl : j < (oth m k).length) : (oth m k).getD j 0 ∉ (oth m k).take j := by
  intro hX
  have hnd := oth_nodup m k
  rw [← List.take_append_drop j (oth m k)] at hnd
  exact (List.nodup_append.1 hnd).2.2 _ hX _ (getD_mem_drop _ j hl) rfl
theorem drop_ok {m k : Nat} (hk : k < m) (hm : m ≤ 15) (j : Nat) : ∀ v ∈ (oth m k).drop j, ∃ i : Nat, i < m ∧ i ≠ k ∧ v = (i : Int) + 1 := by
  intro v hv
  have := (mem_oth m k v).1 (List.mem_of_mem_drop hv)
  exact ⟨(v - 1).toNat, by omega, by omega, by omega⟩
section
variable {m k : Nat} (hk : k < m) (hm : m ≤ 15) (logs : List (Int × Int))
include hk hm
/-- phase 1: the questions ahead of the vote -/
theorem phaseA (w : Wd) (hS : Stg m k logs w (hop m k) ((oth m k).map (preOf k logs))) (hF : Fsh m w (oth m k)) : ∀ j, j ≤ (oth m k).length →
    Stg m k logs (iter w j) (hop m k) ((oth m k).map (preOf k logs) ++ ((oth m k).take j).map (preR k (Yv logs k))) ∧ Fsh m (iter w j) (oth m k)
  | 0, _ => by
    refine ⟨⟨hS.nl, hS.lg, hS.nk, ?_⟩, hF⟩
    show w.sent = _
    rw [hS.sent]
    simp
  | j + 1, hj => by
    obtain ⟨h, hf⟩ := phaseA w hS hF j (by omega)
    have hl : j < (oth m k).length := by omega
    obtain ⟨i, hi, hik, hv⟩ := at_oth hk hm j hl
    have hmem : (oth m k).getD j 0 ∈ oth m k := by rw [List.getD_eq_getElem?_getD, List.getElem?_eq_getElem hl]; exact List.getElem_mem _
    rw [iter_step w j (by rw [h.sent]; simp; omega), h.sent, getD_left _ _ _ _ (by simpa using hl), getD_map _ _ _ 0 _ hl]
    have hto : (preOf k logs ((oth m k).getD j 0)).to = (i : Int) + 1 := hv
    obtain ⟨h1, h2, h3, h4, h5⟩ := come_nd hto (by rw [h.nl]; exact hi)
    have hfr : nd (iter w j) i = fresh m ((oth m k).getD j 0) := by
      have := hf _ hmem
      rwa [hv, show ((i : Int) + 1 - 1).toNat = i by omega, ← hv] at this
    have hlg : lg (iter w j) i = logs.getD ((oth m k).getD j 0 - 1).toNat (0, 0) := by
      unfold lg
      rw [h.lg, hv, show ((i : Int) + 1 - 1).toNat = i by omega]
    have hok : okNode ((k : Int) + 1) = true := (okNode_iff _).2 (by omega)
    have htk : take (fresh m ((oth m k).getD j 0)) (preOf k logs ((oth m k).getD j 0)) (logs.getD ((oth m k).getD j 0 - 1).toNat (0, 0)).1 (logs.getD ((oth m k).getD j 0 - 1).toNat (0, 0)).2 = (fresh m ((oth m k).getD j 0), [preR k (Yv logs k) ((oth m k).getD j 0)]) := by
      unfold take
      rw [if_neg, if_pos (show (preOf k logs ((oth m k).getD j 0)).kind = 1 from rfl)]
      · have hy : preY (fresh m ((oth m k).getD j 0)) (preOf k logs ((oth m k).getD j 0)) (logs.getD ((oth m k).getD j 0 - 1).toNat (0, 0)).1 (logs.getD ((oth m k).getD j 0 - 1).toNat (0, 0)).2 = Yv logs k ((oth m k).getD j 0) := by
          simp [preY, fresh, st0, preOf, Yv, newer]
        unfold preB
        rw [hy]
        rfl
      · rw [Bool.not_eq_false, takes_iff]
        refine ⟨rfl, ⟨hok, ?_⟩, by show okTerm 1 = true; decide⟩
        show (k : Int) + 1 ≠ (oth m k).getD j 0
        rw [hv]; omega
    rw [hfr, hlg, htk] at h1 h5
    refine ⟨⟨by rw [h3]; exact h.nl, by rw [h4]; exact h.lg, by rw [h2 k (Ne.symm hik)]; exact h.nk, ?_⟩, fun v hv2 => ?_⟩
    · rw [h5, h.sent, take_succ _ j hl, List.map_append, List.append_assoc]
      rfl
    · by_cases e : (v - 1).toNat = i
      · have : v = (oth m k).getD j 0 := by
          have := (mem_oth m k v).1 hv2
          omega
        rw [e, h1, this]
      · rw [h2 _ e]; exact hf v hv2
/-- phase 2: the answers to them, where most say yes -/
theorem phaseB (w : Wd) (h2 : 2 ≤ m) (sent : List Bal) (hsl : sent.length = (oth m k).length) (hy : need (ids m) ≤ 1 + (oth m k).countP (Yv logs k))
    (n : Nat) (hS : Stg m k logs (iter w n) (hop m k) (sent ++ (oth m k).map (preR k (Yv logs k)))) (hn : n = (oth m k).length) (hF : Fsh m (iter w n) (oth m k)) : ∀ j, j ≤ (oth m k).length →
    (if 1 + ((oth m k).take j).countP (Yv logs k) < need (ids m)
      then Stg m k logs (iter w (n + j)) (hopR m k 1 (amB k (Yv logs k) ((oth m k).take j))) (sent ++ (oth m k).map (preR k (Yv logs k)))
      else Stg m k logs (iter w (n + j)) (sto m k (onlyA ((k : Int) + 1))) (sent ++ (oth m k).map (preR k (Yv logs k)) ++ (oth m k).map (askOf k logs))) ∧ Fsh m (iter w (n + j)) (oth m k)
  | 0, _ => by
    refine ⟨?_, hF⟩
    rw [if_pos (by unfold need; rw [ids_len]; simp; omega)]
    exact hS
  | j + 1, hj => by
    obtain ⟨h, hf⟩ := phaseB w h2 sent hsl hy n hS hn hF j (by omega)
    have hl : j < (oth m k).length := by omega
    obtain ⟨i, hi, hik, hv⟩ := at_oth hk hm j hl
    have hcount := amB_count m k hk (Yv logs k) (j + 1) hj
    have hcc : ((oth m k).take (j + 1)).countP (Yv logs k) = ((oth m k).take j).countP (Yv logs k) + (if Yv logs k ((oth m k).getD j 0) then 1 else 0) := cntP_take _ _ j hl
    have hnot : (oth m k).getD j 0 ∉ (oth m k).take j := not_take j hl
    have hz : amB k (Yv logs k) ((oth m k).take j) ((oth m k).getD j 0) = 0 := amB_zero _ _ _ _ hnot (by rw [hv]; omega)
    have hrec : recA (amB k (Yv logs k) ((oth m k).take j)) (preR k (Yv logs k) ((oth m k).getD j 0)) = amB k (Yv logs k) ((oth m k).take (j + 1)) := by
      unfold recA
      rw [if_pos (show amB k (Yv logs k) ((oth m k).take j) (preR k (Yv logs k) ((oth m k).getD j 0)).frm = 0 from hz), take_succ _ j hl, amB_snoc]
      rfl
    have hto : (preR k (Yv logs k) ((oth m k).getD j 0)).to = (k : Int) + 1 := rfl
    have hok : okNode ((oth m k).getD j 0) = true := (okNode_iff _).2 (by omega)
    have hnew : ∀ s : St, s.id = (k : Int) + 1 → takes s (preR k (Yv logs k) ((oth m k).getD j 0)) = true := by
      intro s hs
      rw [takes_iff]
      refine ⟨hs.symm, ⟨hok, ?_⟩, ?_⟩
      · rw [hs]; show (oth m k).getD j 0 ≠ (k : Int) + 1; rw [hv]; omega
      · show okTerm (if Yv logs k ((oth m k).getD j 0) then 1 else 0) = true
        split <;> decide
    by_cases hc : 1 + ((oth m k).take j).countP (Yv logs k) < need (ids m)
    · rw [if_pos hc] at h
      have hit : iter w (n + (j + 1)) = come (iter w (n + j)) (preR k (Yv logs k) ((oth m k).getD j 0)) := by
        have := iter_step w (n + j) (by rw [h.sent]; simp; omega)
        rw [h.sent, hn, getD_right _ _ _ _ _ hsl, getD_map _ _ _ 0 _ hl, ← hn] at this
        exact this
      rw [hit]
      obtain ⟨e1, e2, e3, e4, e5⟩ := come_nd hto (by rw [h.nl]; exact hk)
      have hfs : Fsh m (come (iter w (n + j)) (preR k (Yv logs k) ((oth m k).getD j 0))) (oth m k) := fun v hv2 => by
        have := (mem_oth m k v).1 hv2
        rw [e2 _ (by omega)]; exact hf v hv2
      have htk : take (hopR m k 1 (amB k (Yv logs k) ((oth m k).take j))) (preR k (Yv logs k) ((oth m k).getD j 0)) (lg (iter w (n + j)) k).1 (lg (iter w (n + j)) k).2 =
          if 1 + ((oth m k).take (j + 1)).countP (Yv logs k) < need (ids m) then (hopR m k 1 (amB k (Yv logs k) ((oth m k).take (j + 1))), []) else (sto m k (onlyA ((k : Int) + 1)), (oth m k).map (askOf k logs)) := by
        unfold take
        rw [if_neg (by rw [hnew _ rfl]; simp), if_neg (show ¬ (preR k (Yv logs k) ((oth m k).getD j 0)).kind = 1 by show ¬ (2 : Int) = 1; omega), if_pos (show (preR k (Yv logs k) ((oth m k).getD j 0)).kind = 2 from rfl)]
        unfold preSay
        rw [if_neg, if_neg, show recA (hopR m k 1 (amB k (Yv logs k) ((oth m k).take j))).am (preR k (Yv logs k) ((oth m k).getD j 0)) = _ from hrec]
        · by_cases hw : 1 + ((oth m k).take (j + 1)).countP (Yv logs k) < need (ids m)
          · rw [if_pos hw, if_neg, if_neg]
            · show (({ hopR m k 1 (amB k (Yv logs k) ((oth m k).take j)) with am := recA (amB k (Yv logs k) ((oth m k).take j)) (preR k (Yv logs k) ((oth m k).getD j 0)) } : St), ([] : List Bal)) = _
              rw [hrec]; rfl
            · unfold lostA
              simp only [decide_eq_true_eq]
              have h3 : ((ids m).countP fun x => amB k (Yv logs k) ((oth m k).take (j + 1)) x == 2) = _ := hcount.2
              show ¬ (ids m).length - ((ids m).countP fun x => amB k (Yv logs k) ((oth m k).take (j + 1)) x == 2) < need (ids m)
              rw [h3]
              have h4 : ((oth m k).take (j + 1)).countP (fun v => !Yv logs k v) ≤ (oth m k).countP fun v => !Yv logs k v := (List.take_sublist _ _).countP_le
              have h5 : (oth m k).length = (oth m k).countP (Yv logs k) + (oth m k).countP fun v => !Yv logs k v := by
                have := List.length_eq_countP_add_countP (l := oth m k) (Yv logs k)
                simpa using this
              have h6 := oth_len m k hk
              rw [ids_len]
              omega
            · unfold wonA
              simp only [decide_eq_true_eq]
              show ¬ need (ids m) ≤ ((ids m).countP fun x => amB k (Yv logs k) ((oth m k).take (j + 1)) x == 1)
              rw [hcount.1]
              omega
          · rw [if_neg hw, if_pos]
            · unfold run
              rw [if_neg (by show (0 : Int) ≠ MX; decide), if_neg]
              · have hlk : lg (iter w (n + j)) k = logs.getD k (0, 0) := by unfold lg; rw [h.lg]
                rw [hlk]
                rfl
              · unfold wonA
                simp only [decide_eq_true_eq]
                have := (only_count m k hk).1
                show ¬ need (ids m) ≤ ((ids m).countP fun x => onlyA ((k : Int) + 1) x == 1)
                rw [this]
                unfold need
                rw [ids_len]
                omega
            · unfold wonA
              simp only [decide_eq_true_eq]
              show need (ids m) ≤ ((ids m).countP fun x => amB k (Yv logs k) ((oth m k).take (j + 1)) x == 1)
              rw [hcount.1]
              omega
        · rintro (h0 | ⟨h0, h1⟩)
          · exact h0 rfl
          · refine h1 ?_
            show (if Yv logs k ((oth m k).getD j 0) then 1 else 0) = (0 : Int) + 1
            have h0' : Yv logs k ((oth m k).getD j 0) = true := h0
            rw [if_pos h0']; rfl
        · rintro ⟨h0, h1⟩
          have h0' : Yv logs k ((oth m k).getD j 0) = false := h0
          have : (0 : Int) < (if Yv logs k ((oth m k).getD j 0) then 1 else 0) := h1
          rw [if_neg (by rw [h0']; simp)] at this
          omega
      rw [h.nk, htk] at e1 e5
      refine ⟨?_, hfs⟩
      by_cases hw : 1 + ((oth m k).take (j + 1)).countP (Yv logs k) < need (ids m)
      · rw [if_pos hw] at e1 e5 ⊢
        exact ⟨by rw [e3]; exact h.nl, by rw [e4]; exact h.lg, e1, by rw [e5, h.sent, List.append_nil]⟩
      · rw [if_neg hw] at e1 e5 ⊢
        exact ⟨by rw [e3]; exact h.nl, by rw [e4]; exact h.lg, e1, by rw [e5, h.sent]⟩
    · rw [if_neg hc] at h
      rw [if_neg (by split at hcc <;> omega)]
      have hit : iter w (n + (j + 1)) = come (iter w (n + j)) (preR k (Yv logs k) ((oth m k).getD j 0)) := by
        have := iter_step w (n + j) (by rw [h.sent]; simp; omega)
        rw [h.sent, hn, List.append_assoc, getD_right _ _ _ _ _ hsl, getD_left _ _ _ _ (by simpa using hl), getD_map _ _ _ 0 _ hl, ← hn] at this
        exact this
      rw [hit]
      obtain ⟨e1, e2, e3, e4, e5⟩ := come_nd hto (by rw [h.nl]; exact hk)
      have htk : take (sto m k (onlyA ((k : Int) + 1))) (preR k (Yv logs k) ((oth m k).getD j 0)) (lg (iter w (n + j)) k).1 (lg (iter w (n + j)) k).2 = (sto m k (onlyA ((k : Int) + 1)), []) := by
        unfold take
        rw [if_neg (by rw [hnew _ rfl]; simp), if_neg (show ¬ (preR k (Yv logs k) ((oth m k).getD j 0)).kind = 1 by show ¬ (2 : Int) = 1; omega), if_pos (show (preR k (Yv logs k) ((oth m k).getD j 0)).kind = 2 from rfl)]
        unfold preSay
        rw [if_neg, if_pos (.inl (by show (2 : Int) ≠ 1; omega))]
        rintro ⟨h0, h1⟩
        have : (0 : Int) + 1 < (if Yv logs k ((oth m k).getD j 0) then 1 else 0) := h1
        split at this <;> omega
      rw [h.nk, htk] at e1 e5
      refine ⟨⟨by rw [e3]; exact h.nl, by rw [e4]; exact h.lg, e1, by rw [e5, h.sent, List.append_nil, List.append_assoc]⟩, fun v hv2 => ?_⟩
      have := (mem_oth m k v).1 hv2
      rw [e2 _ (by omega)]; exact hf v hv2
/-- phase 2, where fewer than most say yes: it never leads -/
theorem phaseL (w : Wd) (h2 : 2 ≤ m) (sent : List Bal) (hsl : sent.length = (oth m k).length) (hy : 1 + (oth m k).countP (Yv logs k) < need (ids m))
    (n : Nat) (hS : Stg m k logs (iter w n) (hop m k) (sent ++ (oth m k).map (preR k (Yv logs k)))) (hn : n = (oth m k).length) : ∀ j, j ≤ (oth m k).length →
    ∃ am r, (r = 0 ∨ r = 1 ∧ am = amB k (Yv logs k) ((oth m k).take j)) ∧ Stg m k logs (iter w (n + j)) (hopR m k r am) (sent ++ (oth m k).map (preR k (Yv logs k)))
  | 0, _ => ⟨onlyA ((k : Int) + 1), 1, .inr ⟨rfl, rfl⟩, hS⟩
  | j + 1, hj => by
    obtain ⟨am, r, hr, h⟩ := phaseL w h2 sent hsl hy n hS hn j (by omega)
    have hl : j < (oth m k).length := by omega
    obtain ⟨i, hi, hik, hv⟩ := at_oth hk hm j hl
    have hcount := amB_count m k hk (Yv logs k) (j + 1) hj
    have hnot : (oth m k).getD j 0 ∉ (oth m k).take j := not_take j hl
    have hto : (preR k (Yv logs k) ((oth m k).getD j 0)).to = (k : Int) + 1 := rfl
    have hok : okNode ((oth m k).getD j 0) = true := (okNode_iff _).2 (by omega)
    have hnew : ∀ s : St, s.id = (k : Int) + 1 → takes s (preR k (Yv logs k) ((oth m k).getD j 0)) = true := by
      intro s hs
      rw [takes_iff]
      refine ⟨hs.symm, ⟨hok, ?_⟩, ?_⟩
      · rw [hs]; show (oth m k).getD j 0 ≠ (k : Int) + 1; rw [hv]; omega
      · show okTerm (if Yv logs k ((oth m k).getD j 0) then 1 else 0) = true
        split <;> decide
    have hit : iter w (n + (j + 1)) = come (iter w (n + j)) (preR k (Yv logs k) ((oth m k).getD j 0)) := by
      have := iter_step w (n + j) (by rw [h.sent]; simp; omega)
      rw [h.sent, hn, getD_right _ _ _ _ _ hsl, getD_map _ _ _ 0 _ hl, ← hn] at this
      exact this
    rw [hit]
    obtain ⟨e1, e2, e3, e4, e5⟩ := come_nd hto (by rw [h.nl]; exact hk)
    rw [h.nk] at e1 e5
    have hno : ¬ ((preR k (Yv logs k) ((oth m k).getD j 0)).yes = false ∧ (hopR m k r am).term < (preR k (Yv logs k) ((oth m k).getD j 0)).term) := by
      rintro ⟨h0, h1⟩
      have h0' : Yv logs k ((oth m k).getD j 0) = false := h0
      have : (0 : Int) < (if Yv logs k ((oth m k).getD j 0) then 1 else 0) := h1
      rw [if_neg (by rw [h0']; simp)] at this
      omega
    have hyes : ¬ ((preR k (Yv logs k) ((oth m k).getD j 0)).yes = true ∧ (preR k (Yv logs k) ((oth m k).getD j 0)).term ≠ (hopR m k r am).term + 1) := by
      rintro ⟨h0, h1⟩
      refine h1 ?_
      show (if Yv logs k ((oth m k).getD j 0) then 1 else 0) = (0 : Int) + 1
      have h0' : Yv logs k ((oth m k).getD j 0) = true := h0
      rw [if_pos h0']; rfl
    have htk : ∃ am' r', (r' = 0 ∨ r' = 1 ∧ am' = amB k (Yv logs k) ((oth m k).take (j + 1))) ∧ take (hopR m k r am) (preR k (Yv logs k) ((oth m k).getD j 0)) (lg (iter w (n + j)) k).1 (lg (iter w (n + j)) k).2 = (hopR m k r' am', []) := by
      unfold take
      rw [if_neg (by rw [hnew _ rfl]; simp), if_neg (show ¬ (preR k (Yv logs k) ((oth m k).getD j 0)).kind = 1 by show ¬ (2 : Int) = 1; omega), if_pos (show (preR k (Yv logs k) ((oth m k).getD j 0)).kind = 2 from rfl)]
      unfold preSay
      rw [if_neg hno]
      rcases hr with rfl | ⟨rfl, rfl⟩
      · rw [if_pos (.inl (by show (0 : Int) ≠ 1; omega))]
        exact ⟨am, 0, .inl rfl, rfl⟩
      · have hz : amB k (Yv logs k) ((oth m k).take j) ((oth m k).getD j 0) = 0 := amB_zero _ _ _ _ hnot (by rw [hv]; omega)
        have hrec : recA (amB k (Yv logs k) ((oth m k).take j)) (preR k (Yv logs k) ((oth m k).getD j 0)) = amB k (Yv logs k) ((oth m k).take (j + 1)) := by
          unfold recA
          rw [if_pos (show amB k (Yv logs k) ((oth m k).take j) (preR k (Yv logs k) ((oth m k).getD j 0)).frm = 0 from hz), take_succ _ j hl, amB_snoc]
          rfl
        rw [if_neg (by rintro (h0 | h0); exact h0 rfl; exact hyes h0), show recA (hopR m k 1 (amB k (Yv logs k) ((oth m k).take j))).am (preR k (Yv logs k) ((oth m k).getD j 0)) = _ from hrec, if_neg]
        · split
          · exact ⟨_, 0, .inl rfl, rfl⟩
          · refine ⟨_, 1, .inr ⟨rfl, rfl⟩, ?_⟩
            show (({ hopR m k 1 (amB k (Yv logs k) ((oth m k).take j)) with am := recA (amB k (Yv logs k) ((oth m k).take j)) (preR k (Yv logs k) ((oth m k).getD j 0)) } : St), ([] : List Bal)) = _
            rw [hrec]; rfl
        · unfold wonA
          simp only [decide_eq_true_eq]
          show ¬ need (ids m) ≤ ((ids m).countP fun x => amB k (Yv logs k) ((oth m k).take (j + 1)) x == 1)
          rw [hcount.1]
          have h4 : ((oth m k).take (j + 1)).countP (Yv logs k) ≤ (oth m k).countP (Yv logs k) := (List.take_sublist _ _).countP_le
          omega
    obtain ⟨am', r', hr', htk⟩ := htk
    rw [htk] at e1 e5
    exact ⟨am', r', hr', by rw [e3]; exact h.nl, by rw [e4]; exact h.lg, e1, by rw [e5, h.sent, List.append_nil]⟩
/-- phase 3: the votes -/
theorem phaseC (w : Wd) (sent : List Bal) (n : Nat) (hsl : sent.length = n) (hS : Stg m k logs (iter w n) (sto m k (onlyA ((k : Int) + 1))) (sent ++ (oth m k).map (askOf k logs))) (hF : Fsh m (iter w n) (oth m k)) : ∀ j, j ≤ (oth m k).length →
    Stg m k logs (iter w (n + j)) (sto m k (onlyA ((k : Int) + 1))) (sent ++ (oth m k).map (askOf k logs) ++ ((oth m k).take j).map (sayR k (Yv logs k))) ∧ Fsh m (iter w (n + j)) ((oth m k).drop j)
  | 0, _ => by
    refine ⟨?_, hF⟩
    rw [List.take_zero, List.map_nil, List.append_nil]
    exact hS
  | j + 1, hj => by
    obtain ⟨h, hf⟩ := phaseC w sent n hsl hS hF j (by omega)
    have hl : j < (oth m k).length := by omega
    obtain ⟨i, hi, hik, hv⟩ := at_oth hk hm j hl
    have hmem : (oth m k).getD j 0 ∈ (oth m k).drop j := getD_mem_drop _ j hl
    have hit : iter w (n + (j + 1)) = come (iter w (n + j)) (askOf k logs ((oth m k).getD j 0)) := by
      have := iter_step w (n + j) (by rw [h.sent]; simp; omega)
      rw [h.sent, List.append_assoc, getD_right _ _ _ _ _ hsl, getD_left _ _ _ _ (by simpa using hl), getD_map _ _ _ 0 _ hl] at this
      exact this
    rw [hit]
    have hto : (askOf k logs ((oth m k).getD j 0)).to = (i : Int) + 1 := hv
    obtain ⟨h1, h2, h3, h4, h5⟩ := come_nd hto (by rw [h.nl]; exact hi)
    have hfr : nd (iter w (n + j)) i = fresh m ((oth m k).getD j 0) := by
      have := hf _ hmem
      rwa [hv, show ((i : Int) + 1 - 1).toNat = i by omega, ← hv] at this
    have hlg : lg (iter w (n + j)) i = logs.getD ((oth m k).getD j 0 - 1).toNat (0, 0) := by
      unfold lg
      rw [h.lg, hv, show ((i : Int) + 1 - 1).toNat = i by omega]
    have hok : okNode ((k : Int) + 1) = true := (okNode_iff _).2 (by omega)
    have htk : (take (fresh m ((oth m k).getD j 0)) (askOf k logs ((oth m k).getD j 0)) (logs.getD ((oth m k).getD j 0 - 1).toNat (0, 0)).1 (logs.getD ((oth m k).getD j 0 - 1).toNat (0, 0)).2).2 = [sayR k (Yv logs k) ((oth m k).getD j 0)] := by
      unfold take
      rw [if_neg, if_neg (show ¬ (askOf k logs ((oth m k).getD j 0)).kind = 1 by show ¬ (3 : Int) = 1; omega), if_neg (show ¬ (askOf k logs ((oth m k).getD j 0)).kind = 2 by show ¬ (3 : Int) = 2; omega), if_pos (show (askOf k logs ((oth m k).getD j 0)).kind = 3 from rfl)]
      · have hd : dn (fresh m ((oth m k).getD j 0)) (askOf k logs ((oth m k).getD j 0)) = down (fresh m ((oth m k).getD j 0)) 1 := by
          unfold dn
          rw [if_pos (by show (0 : Int) < 1; omega)]
          rfl
        have hy : askY (down (fresh m ((oth m k).getD j 0)) 1) (askOf k logs ((oth m k).getD j 0)) (logs.getD ((oth m k).getD j 0 - 1).toNat (0, 0)).1 (logs.getD ((oth m k).getD j 0 - 1).toNat (0, 0)).2 = Yv logs k ((oth m k).getD j 0) := by
          simp [askY, fresh, st0, askOf, Yv, newer, down]
        unfold askS
        rw [hd, hy]
        cases hyy : Yv logs k ((oth m k).getD j 0) with
        | true => simp only [sayR, hyy]; rfl
        | false => simp only [sayR, hyy]; rfl
      · rw [Bool.not_eq_false, takes_iff]
        refine ⟨rfl, ⟨hok, ?_⟩, by show okTerm 1 = true; decide⟩
        show (k : Int) + 1 ≠ (oth m k).getD j 0
        rw [hv]; omega
    rw [hfr, hlg, htk] at h5
    refine ⟨⟨by rw [h3]; exact h.nl, by rw [h4]; exact h.lg, by rw [h2 k (Ne.symm hik)]; exact h.nk, ?_⟩, fun v hv2 => ?_⟩
    · rw [h5, h.sent, take_succ _ j hl, List.map_append, List.append_assoc, List.append_assoc, List.append_assoc]
      rfl
    · have hne := drop_ne hk hm j hl v hv2
      obtain ⟨i', hi', hik', hv'⟩ := drop_ok hk hm (j + 1) v hv2
      rw [h2 _ (by omega)]
      exact hf v (by rw [List.drop_eq_getElem_cons hl]; exact List.mem_cons_of_mem _ hv2)
/-- phase 4: the votes come -/
theorem phaseD (w : Wd) (sent : List Bal) (hy : need (ids m) ≤ 1 + (oth m k).countP (Yv logs k)) (h2m : 2 ≤ m)
    (n : Nat) (hsl : sent.length = n) (hS : Stg m k logs (iter w n) (sto m k (onlyA ((k : Int) + 1))) (sent ++ (oth m k).map (sayR k (Yv logs k)))) : ∀ j, j ≤ (oth m k).length →
    ∃ s, Stg m k logs (iter w (n + j)) s (sent ++ (oth m k).map (sayR k (Yv logs k))) ∧ s.term = 1 ∧ s.id = (k : Int) + 1 ∧ (if 1 + ((oth m k).take j).countP (Yv logs k) < need (ids m) then s = sto m k (amB k (Yv logs k) ((oth m k).take j)) else s.role = 3)
  | 0, _ => by
    refine ⟨sto m k (onlyA ((k : Int) + 1)), hS, rfl, rfl, ?_⟩
    rw [if_pos (by unfold need; rw [ids_len]; simp; omega)]
    rfl
  | j + 1, hj => by
    obtain ⟨s, h, hst, hsi, hs⟩ := phaseD w sent hy h2m n hsl hS j (by omega)
    have hl : j < (oth m k).length := by omega
    obtain ⟨i, hi, hik, hv⟩ := at_oth hk hm j hl
    have hcount := amB_count m k hk (Yv logs k) (j + 1) hj
    have hcc : ((oth m k).take (j + 1)).countP (Yv logs k) = ((oth m k).take j).countP (Yv logs k) + (if Yv logs k ((oth m k).getD j 0) then 1 else 0) := cntP_take _ _ j hl
    have hnot : (oth m k).getD j 0 ∉ (oth m k).take j := not_take j hl
    have hz : amB k (Yv logs k) ((oth m k).take j) ((oth m k).getD j 0) = 0 := amB_zero _ _ _ _ hnot (by rw [hv]; omega)
    have hrec : recA (amB k (Yv logs k) ((oth m k).take j)) (sayR k (Yv logs k) ((oth m k).getD j 0)) = amB k (Yv logs k) ((oth m k).take (j + 1)) := by
      unfold recA
      rw [if_pos (show amB k (Yv logs k) ((oth m k).take j) (sayR k (Yv logs k) ((oth m k).getD j 0)).frm = 0 from hz), take_succ _ j hl, amB_snoc]
      rfl
    have hto : (sayR k (Yv logs k) ((oth m k).getD j 0)).to = (k : Int) + 1 := rfl
    have hok : okNode ((oth m k).getD j 0) = true := (okNode_iff _).2 (by omega)
    have hnew : takes s (sayR k (Yv logs k) ((oth m k).getD j 0)) = true := by
      rw [takes_iff]
      refine ⟨hsi.symm, ⟨hok, ?_⟩, by show okTerm 1 = true; decide⟩
      rw [hsi]; show (oth m k).getD j 0 ≠ (k : Int) + 1; rw [hv]; omega
    have hit : iter w (n + (j + 1)) = come (iter w (n + j)) (sayR k (Yv logs k) ((oth m k).getD j 0)) := by
      have := iter_step w (n + j) (by rw [h.sent]; simp; omega)
      rw [h.sent, getD_right _ _ _ _ _ hsl, getD_map _ _ _ 0 _ hl] at this
      exact this
    rw [hit]
    obtain ⟨e1, e2, e3, e4, e5⟩ := come_nd hto (by rw [h.nl]; exact hk)
    rw [h.nk] at e1 e5
    have htk : take s (sayR k (Yv logs k) ((oth m k).getD j 0)) (lg (iter w (n + j)) k).1 (lg (iter w (n + j)) k).2 = (sayS s (sayR k (Yv logs k) ((oth m k).getD j 0)), []) := by
      unfold take
      rw [if_neg (by rw [hnew]; simp), if_neg (show ¬ (sayR k (Yv logs k) ((oth m k).getD j 0)).kind = 1 by show ¬ (4 : Int) = 1; omega), if_neg (show ¬ (sayR k (Yv logs k) ((oth m k).getD j 0)).kind = 2 by show ¬ (4 : Int) = 2; omega), if_neg (show ¬ (sayR k (Yv logs k) ((oth m k).getD j 0)).kind = 3 by show ¬ (4 : Int) = 3; omega), if_pos (show (sayR k (Yv logs k) ((oth m k).getD j 0)).kind = 4 from rfl)]
    rw [htk] at e1 e5
    refine ⟨sayS s (sayR k (Yv logs k) ((oth m k).getD j 0)), ⟨by rw [e3]; exact h.nl, by rw [e4]; exact h.lg, e1, by rw [e5, h.sent, List.append_nil]⟩, ?_⟩
    have hnd : ¬ s.term < (sayR k (Yv logs k) ((oth m k).getD j 0)).term := by rw [hst]; show ¬ (1 : Int) < 1; omega
    by_cases hc : 1 + ((oth m k).take j).countP (Yv logs k) < need (ids m)
    · rw [if_pos hc] at hs
      subst hs
      unfold sayS
      rw [if_neg hnd, if_neg (by rintro (h0 | h0); exact h0 rfl; exact h0 rfl), show recA (sto m k (amB k (Yv logs k) ((oth m k).take j))).am (sayR k (Yv logs k) ((oth m k).getD j 0)) = _ from hrec]
      by_cases hw : 1 + ((oth m k).take (j + 1)).countP (Yv logs k) < need (ids m)
      · rw [if_neg, if_neg, if_pos hw]
        · refine ⟨rfl, rfl, ?_⟩
          show ({ sto m k (amB k (Yv logs k) ((oth m k).take j)) with am := recA (amB k (Yv logs k) ((oth m k).take j)) (sayR k (Yv logs k) ((oth m k).getD j 0)) } : St) = _
          rw [hrec]; rfl
        · unfold lostA
          simp only [decide_eq_true_eq]
          have h3 : ((ids m).countP fun x => amB k (Yv logs k) ((oth m k).take (j + 1)) x == 2) = _ := hcount.2
          show ¬ (ids m).length - ((ids m).countP fun x => amB k (Yv logs k) ((oth m k).take (j + 1)) x == 2) < need (ids m)
          rw [h3]
          have h4 : ((oth m k).take (j + 1)).countP (fun v => !Yv logs k v) ≤ (oth m k).countP fun v => !Yv logs k v := (List.take_sublist _ _).countP_le
          have h5 : (oth m k).length = (oth m k).countP (Yv logs k) + (oth m k).countP fun v => !Yv logs k v := by
            have := List.length_eq_countP_add_countP (l := oth m k) (Yv logs k)
            simpa using this
          have h6 := oth_len m k hk
          rw [ids_len]
          omega
        · unfold wonA
          simp only [decide_eq_true_eq]
          show ¬ need (ids m) ≤ ((ids m).countP fun x => amB k (Yv logs k) ((oth m k).take (j + 1)) x == 1)
          rw [hcount.1]
          omega
      · rw [if_pos, if_neg hw]
        · exact ⟨rfl, rfl, rfl⟩
        · unfold wonA
          simp only [decide_eq_true_eq]
          show need (ids m) ≤ ((ids m).countP fun x => amB k (Yv logs k) ((oth m k).take (j + 1)) x == 1)
          rw [hcount.1]
          omega
    · rw [if_neg hc] at hs
      rw [if_neg (by split at hcc <;> omega)]
      unfold sayS
      rw [if_neg hnd, if_pos (.inl (by rw [hs]; omega))]
      exact ⟨hst, hsi, hs⟩
end
end Go.Proofs.Ytjajgjpkiofhmaa.El
