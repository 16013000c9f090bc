/-
  Several texts in one: The plain mathematics of layer 4: a disk as a list of files by rising names, what each call makes of it, and the same list as a map's datum. No condition but those that each theorem states. What holds of a disk holds of it behind each call: names rise, sizes fit, what is synced is there. No condition but those that each theorem states. The plain mathematics of layer 6, first part: names of segments and their numbers. No condition but those that each theorem states. The plain mathematics of layer 2: the digits of a number in base 256, the codes of numbers, whole numbers and texts, what a reader cuts off, and that each undoes the other. No condition but those that each theorem states. What math/bits.Len64 answers for whatever it is called with: how many bits the number has. Condition: the argument is a uint64.
-/
import Derived.Maps.OwnSet
import Derived.Sort.KeysCollected
import Derived.Lib.ItoaNum
import Derived.Lib.ParseIntB
import Derived.Lib.Repeat
import Derived.Lib.Strings
import Derived.Lib.BitFns
import Derived.Test.YtnppomiggajhnaaGreatDoorProg
import Derived.Lib.Slices
import Derived.Lib.Small
import Derived.Lib.Walk
namespace Go.Proofs.YtnppomiggajhnaaGreatDoor.Dk

abbrev Nm := List UInt8
abbrev Fil := Nm × List Int × Nat
/-- an entry of the map: the name, the slice, its bytes, how many of them are synced -/
structure Ent where
  nm : Nm
  v : Value
  zs : List Int
  s : Nat
def Ent.fil (e : Ent) : Fil := (e.nm, e.zs, e.s)
def Ent.val (e : Ent) : Value := .agg #[e.v, .int .i64 (e.s : Int)]
/-- the disk -/
structure St where
  room : Nat
  fs : List Fil
  off : Bool
  fail : Option Nat
  arm : Option Nat

def okC (c : UInt8) : Bool := (decide (97 ≤ c.toNat) && decide (c.toNat ≤ 122)) || (decide (48 ≤ c.toNat) && decide (c.toNat ≤ 57)) || decide (c.toNat = 46) || decide (c.toNat = 45)
def okN (x : Nm) : Bool := decide (1 ≤ x.length) && decide (x.length ≤ 64) && x.all okC

def total (fs : List Fil) : Nat := (fs.map fun f => f.2.1.length).sum

/-! ### lists by rising names, of whatever is named -/
section
variable {α : Type} (key : α → Nm)
def ins (e : α) : List α → List α
  | [] => [e]
  | y :: r => if bytesBefore (key e) (key y) then e :: y :: r else y :: ins e r
def del (x : Nm) (l : List α) : List α := l.filter fun e => !(key e == x)
def put (e : α) (l : List α) : List α := ins key e (del key (key e) l)
def get (x : Nm) (l : List α) : Option α := l.find? fun e => key e == x
def Up (l : List α) : Prop := l.Pairwise fun a b => bytesBefore (key a) (key b) = true
variable {key}
theorem before_ne {a b : Nm} (h : bytesBefore a b = true) : a ≠ b := by rintro rfl; rw [WideAt.bytes_irrefl] at h; cases h
theorem before_asym {a b : Nm} (h : bytesBefore a b = true) : bytesBefore b a = false := by
  cases h' : bytesBefore b a
  · rfl
  · have := WideShapes.bytes_trans _ _ _ h h'; rw [WideAt.bytes_irrefl] at this; cases this
theorem mem_ins {e : α} : ∀ {l : List α} {a : α}, a ∈ ins key e l ↔ a = e ∨ a ∈ l
  | [], a => by simp [ins]
  | y :: r, a => by
    unfold ins
    split
    · simp
    · simp only [List.mem_cons, mem_ins (l := r)]
      constructor
      · rintro (h | h | h)
        · exact .inr (.inl h)
        · exact .inl h
        · exact .inr (.inr h)
      · rintro (h | h | h)
        · exact .inr (.inl h)
        · exact .inl h
        · exact .inr (.inr h)
theorem ins_perm (e : α) : ∀ l : List α, (ins key e l).Perm (e :: l)
  | [] => List.Perm.refl _
  | y :: r => by
    unfold ins
    split
    · exact List.Perm.refl _
    · exact ((ins_perm e r).cons y).trans (List.Perm.swap _ _ _)
theorem Up.ins {e : α} : ∀ {l : List α}, Up key l → (∀ a ∈ l, key a ≠ key e) → Up key (ins key e l)
  | [], _, _ => by simp [Dk.ins, Up]
  | y :: r, h, hne => by
    have h' := h
    obtain ⟨h1, h2⟩ := List.pairwise_cons.1 h
    unfold Dk.ins
    split
    · rename_i hb
      refine List.pairwise_cons.2 ⟨fun a ha => ?_, h'⟩
      rcases List.mem_cons.1 ha with rfl | ha
      · exact hb
      · exact WideShapes.bytes_trans _ _ _ hb (h1 a ha)
    · rename_i hb
      refine List.pairwise_cons.2 ⟨fun a ha => ?_, Up.ins h2 (fun a ha => hne a (by simp [ha]))⟩
      rcases mem_ins.1 ha with rfl | ha
      · rcases WideAt.bytes_total _ _ (hne y (by simp)) with h | h
        · exact h
        · exact absurd h hb
      · exact h1 a ha
theorem Up.del {l : List α} (h : Up key l) (x : Nm) : Up key (del key x l) := h.filter _
theorem mem_del {l : List α} {x : Nm} {a : α} : a ∈ del key x l ↔ a ∈ l ∧ key a ≠ x := by simp [del]
theorem Up.put {l : List α} (h : Up key l) (e : α) : Up key (put key e l) := (h.del _).ins fun _ ha => (mem_del.1 ha).2
theorem mem_put {l : List α} {e a : α} : a ∈ put key e l ↔ a = e ∨ (a ∈ l ∧ key a ≠ key e) := by rw [put, mem_ins, mem_del]
theorem Up.inj {l : List α} (h : Up key l) {a b : α} (ha : a ∈ l) (hb : b ∈ l) (he : key a = key b) : a = b := by
  induction l with
  | nil => simp at ha
  | cons y r ih =>
    obtain ⟨h1, h2⟩ := List.pairwise_cons.1 h
    rcases List.mem_cons.1 ha with ea | ha' <;> rcases List.mem_cons.1 hb with eb | hb'
    · rw [ea, eb]
    · subst ea; exact absurd he (before_ne (h1 b hb'))
    · subst eb; exact absurd he.symm (before_ne (h1 a ha'))
    · exact ih h2 ha' hb'
theorem get_some {l : List α} {x : Nm} {e : α} (h : get key x l = some e) : e ∈ l ∧ key e = x := by
  have h1 := List.mem_of_find?_eq_some h
  have h2 := List.find?_some h
  exact ⟨h1, by simpa using h2⟩
theorem get_none {l : List α} {x : Nm} (h : get key x l = none) : ∀ a ∈ l, key a ≠ x := by
  intro a ha
  have := List.find?_eq_none.1 h a ha
  simpa using this
theorem get_mem {l : List α} (h : Up key l) {e : α} (he : e ∈ l) : get key (key e) l = some e := by
  cases hg : get key (key e) l with
  | none => exact absurd rfl (get_none hg e he)
  | some e' => obtain ⟨h1, h2⟩ := get_some hg; rw [h.inj h1 he h2]
theorem del_none {l : List α} {x : Nm} (h : get key x l = none) : del key x l = l := by
  unfold del
  rw [List.filter_eq_self]
  intro a ha
  simpa using get_none h a ha
theorem filter_ins (p : α → Bool) (e : α) (hp : p e = true) : ∀ {l : List α}, Up key l → (ins key e l).filter p = ins key e (l.filter p)
  | [], _ => by simp [ins, hp]
  | y :: r, h => by
    obtain ⟨h1, h2⟩ := List.pairwise_cons.1 h
    unfold ins
    by_cases hb : bytesBefore (key e) (key y) = true
    · rw [if_pos hb, List.filter_cons_of_pos hp]
      cases hf : (y :: r).filter p with
      | nil => rfl
      | cons z q =>
        have hz : z ∈ y :: r := (List.mem_filter.1 (show z ∈ (y :: r).filter p by rw [hf]; simp)).1
        have : bytesBefore (key e) (key z) = true := by
          rcases List.mem_cons.1 hz with rfl | hz
          · exact hb
          · exact WideShapes.bytes_trans _ _ _ hb (h1 z hz)
        show _ = ins key e (z :: q)
        rw [ins, if_pos this]
    · rw [if_neg hb]
      by_cases hy : p y = true
      · rw [List.filter_cons_of_pos hy, List.filter_cons_of_pos hy, filter_ins p e hp h2]
        show _ = ins key e (y :: List.filter p r)
        rw [ins, if_neg hb]
      · rw [List.filter_cons_of_neg hy, List.filter_cons_of_neg hy, filter_ins p e hp h2]
        cases List.filter p r <;> rfl
/-- a file that is there is put in its own place -/
theorem put_at {l : List α} (h : Up key l) (e : α) (i : Nat) (hi : i < l.length) (hk : key l[i] = key e) : put key e l = l.set i e := by
  induction l generalizing i with
  | nil => simp at hi
  | cons y r ih =>
    obtain ⟨h1, h2⟩ := List.pairwise_cons.1 h
    cases i with
    | zero =>
      simp only [List.getElem_cons_zero] at hk
      have hd : del key (key e) (y :: r) = r := by
        unfold del
        rw [List.filter_cons_of_neg (by simp [hk]), List.filter_eq_self]
        intro a ha
        have := before_ne (h1 a ha)
        simp [← hk]
        exact fun h => this h.symm
      rw [put, hd, List.set_cons_zero]
      cases r with
      | nil => rfl
      | cons z q => rw [ins, if_pos (by rw [← hk]; exact h1 z (by simp))]
    | succ i =>
      simp only [List.getElem_cons_succ] at hk
      have hb : bytesBefore (key y) (key e) = true := by rw [← hk]; exact h1 _ (List.getElem_mem _)
      have hd : del key (key e) (y :: r) = y :: del key (key e) r := by
        unfold del
        rw [List.filter_cons_of_pos (by simpa using before_ne hb)]
      rw [put, hd, ins, if_neg (by rw [before_asym hb]; simp), List.set_cons_succ]
      have := ih h2 i (by simpa using hi) hk
      rw [put] at this
      rw [this]
end

/-! ### one list's names are the other's -/
section
variable {α β : Type} {k1 : α → Nm} {k2 : β → Nm} (f : α → β) (hf : ∀ a, k2 (f a) = k1 a)
include hf
theorem map_ins (e : α) : ∀ l : List α, (ins k1 e l).map f = ins k2 (f e) (l.map f)
  | [] => rfl
  | y :: r => by
    unfold ins
    simp only [List.map_cons, hf]
    split
    · simp
    · simp [map_ins e r]
theorem map_del (x : Nm) (l : List α) : (del k1 x l).map f = del k2 x (l.map f) := by
  unfold del
  rw [List.filter_map]
  congr 1
  apply List.filter_congr
  intro a _
  simp [hf]
theorem map_put (e : α) (l : List α) : (put k1 e l).map f = put k2 (f e) (l.map f) := by
  rw [put, put, map_ins f hf, map_del f hf, hf]
theorem map_get (x : Nm) (l : List α) : (get k1 x l).map f = get k2 x (l.map f) := by
  unfold get
  rw [List.find?_map]
  congr 2
  funext a
  simp [hf]
theorem map_up {l : List α} : Up k2 (l.map f) ↔ Up k1 l := by
  unfold Up
  rw [List.pairwise_map]
  simp [hf]
end

/-! ### the map's datum -/
def one (e : Ent) : Lit × DataW Value := (.string e.nm, .held e.val)
def dOf (m : List Ent) : DataW Value := .map (m.map one)
def R1 (v : Value) : Option (DataW Value × List MemPlace) := some (.held v, [])
theorem same_str (a b : Nm) : (Lit.string a).sameKey (.string b) = (a == b) := rfl
theorem dOf_has (m : List Ent) (x : Nm) : Maps.has (dOf m) (.string x) = (get Ent.nm x m).isSome := by
  unfold dOf get
  rw [Maps.has_eq]
  induction m with
  | nil => rfl
  | cons e r ih =>
    simp only [List.map_cons, List.any_cons, List.find?_cons, one, same_str] at ih ⊢
    cases h : (e.nm == x) <;> simp [ih]
theorem dOf_at (m : List Ent) (x : Nm) (z : Value) : (dOf m).atKey (.string x) (.held z) = .held (((get Ent.nm x m).map Ent.val).getD z) := by
  unfold dOf DataW.atKey get
  simp only [List.find?_map]
  have : ((fun p : Lit × DataW Value => p.1.sameKey (.string x)) ∘ one) = fun e : Ent => e.nm == x := rfl
  rw [this]
  cases List.find? (fun e : Ent => e.nm == x) m <;> rfl
theorem dOf_ins (e : Ent) : ∀ m : List Ent, DataW.insert (one e) (m.map one) = (ins Ent.nm e m).map one
  | [] => rfl
  | y :: r => by
    unfold ins
    simp only [List.map_cons]
    unfold DataW.insert
    have : (one e).1.before (one y).1 = bytesBefore e.nm y.nm := rfl
    rw [this]
    split
    · simp
    · simp [dOf_ins e r]
theorem dOf_del (m : List Ent) (x : Nm) : (dOf m).del (.string x) = dOf (del Ent.nm x m) := by
  show DataW.map ((m.map one).filter fun p => !p.1.sameKey (.string x)) = _
  unfold dOf del
  rw [List.filter_map]
  rfl
theorem dOf_put (m : List Ent) (e : Ent) : (dOf m).put (.string e.nm) (.held e.val) = dOf (put Ent.nm e m) := by
  show DataW.map (DataW.insert (one e) ((m.map one).filter _)) = _
  have h : ((m.map one).filter fun p => !p.1.sameKey (.string e.nm)) = (del Ent.nm e.nm m).map one := by
    unfold del
    rw [List.filter_map]
    rfl
  rw [h, dOf_ins]
  rfl
theorem dOf_size (m : List Ent) : Maps.size (dOf m) = m.length := by simp [dOf, Maps.size]
theorem dOf_keys (m : List Ent) : strKeys (dOf m) = m.map Ent.nm := by
  simp only [dOf, strKeys, List.map_map]
  rfl
theorem le_of_before : ∀ {a b : Nm}, bytesBefore a b = true → a ≤ b
  | [], b, _ => List.nil_le _
  | _ :: _, [], h => by simp [bytesBefore] at h
  | x :: r, y :: s, h => by
    simp only [bytesBefore, Bool.or_eq_true, Bool.and_eq_true, decide_eq_true_eq, beq_iff_eq] at h
    rcases h with h | ⟨rfl, h⟩
    · exact List.le_of_lt (List.Lex.rel h)
    · exact List.cons_le_cons_iff.2 (.inr ⟨rfl, le_of_before h⟩)
theorem sorted_keys {m : List Ent} (h : Up Ent.nm m) : (m.map Ent.nm).mergeSort (fun x y => decide (x ≤ y)) = m.map Ent.nm := by
  apply List.mergeSort_of_pairwise
  rw [List.pairwise_map]
  exact h.imp fun hb => by simpa using le_of_before hb

/-! ### what a disk does -/
def chg (t : St) : Int × St :=
  if t.off then (5, t)
  else if t.arm = some 0 then (5, { t with arm := none, off := true })
  else if t.fail = some 0 then (4, { t with arm := t.arm.map (· - 1), fail := none })
  else (0, { t with arm := t.arm.map (· - 1), fail := t.fail.map (· - 1) })
def doing (ok : Bool) (t : St) (f : St → Int × St) : Int × St :=
  if ok then (if (chg t).1 = 0 then f (chg t).2 else chg t) else (1, t)
def fget (x : Nm) (fs : List Fil) : Option Fil := get Prod.fst x fs
def fput (f : Fil) (fs : List Fil) : List Fil := put Prod.fst f fs
def fdel (x : Nm) (fs : List Fil) : List Fil := del Prod.fst x fs
def app1 (x : Nm) (b : List Int) (t : St) : Int × St :=
  if t.room < total t.fs + b.length then (3, t)
  else (0, { t with fs := match fget x t.fs with | some f => fput (x, f.2.1 ++ b, f.2.2) t.fs | none => fput (x, b, 0) t.fs })
def sync1 (x : Nm) (t : St) : Int × St :=
  match fget x t.fs with
  | some f => (0, { t with fs := fput (x, f.2.1, f.2.1.length) t.fs })
  | none => (2, t)
def ren1 (x y : Nm) (t : St) : Int × St :=
  match fget x t.fs with
  | some f => if x = y then (0, t) else (0, { t with fs := fdel x (fput (y, f.2.1, f.2.2) (fdel y t.fs)) })
  | none => (2, t)
def unl1 (x : Nm) (t : St) : Int × St :=
  match fget x t.fs with
  | some _ => (0, { t with fs := fdel x t.fs })
  | none => (2, t)
def stAppend (x : Nm) (b : List Int) (t : St) : Int × St := doing (okN x) t (app1 x b)
def stSync (x : Nm) (t : St) : Int × St := doing (okN x) t (sync1 x)
def stRename (x y : Nm) (t : St) : Int × St := doing (okN x && okN y) t (ren1 x y)
def stUnlink (x : Nm) (t : St) : Int × St := doing (okN x) t (unl1 x)
def stRead (x : Nm) (t : St) : Int × List Int :=
  if t.off then (5, []) else if okN x then (match fget x t.fs with | some f => (0, f.2.1) | none => (2, [])) else (1, [])
def stFail (n : Int) (t : St) : Int × St := if n < 0 then (1, t) else (0, { t with fail := some n.toNat })
def stArm (n : Int) (t : St) : Int × St := if n < 0 then (1, t) else (0, { t with arm := some n.toNat })
/-- how many bytes of a file stay -/
def stays (k : Int) (f : Fil) : Nat := f.2.2 + (min (max k 0) ((f.2.1.length - f.2.2 : Nat) : Int)).toNat
def crash1 (k : Int) (f : Fil) : Fil := (f.1, f.2.1.take (stays k f), stays k f)
def crashTo (i : Nat) (ks : List Int) (fs : List Fil) : List Fil := fs.mapIdx fun j f => if j < i then crash1 (ks.getD j 0) f else f
def stCrash (ks : List Int) (t : St) : St := { t with fs := crashTo t.fs.length ks t.fs, off := false, fail := none, arm := none }

/-- what holds of every disk -/
structure Good (t : St) : Prop where
  room1 : 1 ≤ t.room
  room2 : t.room ≤ 16777216
  fits : total t.fs ≤ t.room
  up : Up Prod.fst t.fs
  name : ∀ f ∈ t.fs, okN f.1 = true
  synced : ∀ f ∈ t.fs, f.2.2 ≤ f.2.1.length
  byte : ∀ f ∈ t.fs, ∀ c ∈ f.2.1, 0 ≤ c ∧ c ≤ 255
end Go.Proofs.YtnppomiggajhnaaGreatDoor.Dk

namespace Go.Proofs.YtnppomiggajhnaaGreatDoor.Dk

theorem total_cons (f : Fil) (fs : List Fil) : total (f :: fs) = f.2.1.length + total fs := by simp [total]
theorem total_perm {a b : List Fil} (h : a.Perm b) : total a = total b := by
  unfold total
  exact (h.map _).sum_nat
theorem perm_at {α : Type} {key : α → Nm} {l : List α} (h : Up key l) {e : α} (he : e ∈ l) : l.Perm (e :: del key (key e) l) := by
  induction l with
  | nil => simp at he
  | cons y r ih =>
    obtain ⟨h1, h2⟩ := List.pairwise_cons.1 h
    by_cases hy : key y = key e
    · obtain rfl : y = e := h.inj (by simp) he hy
      have : del key (key y) (y :: r) = r := by
        unfold del
        rw [List.filter_cons_of_neg (by simp), List.filter_eq_self]
        intro a ha
        have := before_ne (h1 a ha)
        simp
        exact fun h => this h.symm
      rw [this]
    · have hd : del key (key e) (y :: r) = y :: del key (key e) r := by
        unfold del
        rw [List.filter_cons_of_pos (by simpa using hy)]
      rw [hd]
      rcases List.mem_cons.1 he with rfl | he
      · exact absurd rfl hy
      · exact ((ih h2 he).cons y).trans (List.Perm.swap _ _ _)
theorem total_put (f : Fil) (fs : List Fil) : total (fput f fs) = f.2.1.length + total (fdel f.1 fs) := by
  rw [← total_cons]
  exact total_perm (ins_perm _ _)
theorem total_del {fs : List Fil} (h : Up Prod.fst fs) {x : Nm} {f : Fil} (hg : fget x fs = some f) : total fs = f.2.1.length + total (fdel x fs) := by
  obtain ⟨h1, h2⟩ := get_some hg
  rw [← total_cons]
  have := total_perm (perm_at h h1)
  rw [h2] at this
  exact this
theorem total_del_none {fs : List Fil} {x : Nm} (hg : fget x fs = none) : fdel x fs = fs := del_none hg
theorem total_del_le (fs : List Fil) (x : Nm) : total (fdel x fs) ≤ total fs := by
  unfold fdel del
  induction fs with
  | nil => simp
  | cons y r ih =>
    rw [List.filter_cons]
    split
    · rw [total_cons, total_cons]; omega
    · rw [total_cons]; omega
theorem mem_fput {f a : Fil} {fs : List Fil} : a ∈ fput f fs ↔ a = f ∨ (a ∈ fs ∧ a.1 ≠ f.1) := mem_put
theorem mem_fdel {a : Fil} {x : Nm} {fs : List Fil} : a ∈ fdel x fs ↔ a ∈ fs ∧ a.1 ≠ x := mem_del

theorem Good.chg {t : St} (h : Good t) : Good (chg t).2 := by
  unfold Dk.chg
  split
  · exact h
  · split
    · exact ⟨h.1, h.2, h.3, h.4, h.5, h.6, h.7⟩
    · split
      · exact ⟨h.1, h.2, h.3, h.4, h.5, h.6, h.7⟩
      · exact ⟨h.1, h.2, h.3, h.4, h.5, h.6, h.7⟩
theorem chg_same (t : St) : (Dk.chg t).2.room = t.room ∧ (Dk.chg t).2.fs = t.fs := by
  unfold Dk.chg
  split
  · exact ⟨rfl, rfl⟩
  · split
    · exact ⟨rfl, rfl⟩
    · split <;> exact ⟨rfl, rfl⟩
theorem Good.put {t : St} (h : Good t) (f : Fil) (hn : okN f.1 = true) (hs : f.2.2 ≤ f.2.1.length) (hb : ∀ c ∈ f.2.1, 0 ≤ c ∧ c ≤ 255) (ht : total (fput f t.fs) ≤ t.room) : Good { t with fs := fput f t.fs } := by
  refine ⟨h.1, h.2, ht, h.up.put f, ?_, ?_, ?_⟩
  · intro a ha
    rcases mem_fput.1 ha with rfl | ⟨ha, _⟩
    · exact hn
    · exact h.name a ha
  · intro a ha
    rcases mem_fput.1 ha with rfl | ⟨ha, _⟩
    · exact hs
    · exact h.synced a ha
  · intro a ha
    rcases mem_fput.1 ha with rfl | ⟨ha, _⟩
    · exact hb
    · exact h.byte a ha
theorem Good.del {t : St} (h : Good t) (x : Nm) : Good { t with fs := fdel x t.fs } := by
  refine ⟨h.1, h.2, Nat.le_trans (total_del_le _ _) h.3, h.up.del x, ?_, ?_, ?_⟩
  · intro a ha
    exact h.name a (mem_fdel.1 ha).1
  · intro a ha
    exact h.synced a (mem_fdel.1 ha).1
  · intro a ha
    exact h.byte a (mem_fdel.1 ha).1
/-- the files behind an Append that is made -/
def appFs (x : Nm) (b : List Int) (fs : List Fil) : List Fil := match fget x fs with | some f => fput (x, f.2.1 ++ b, f.2.2) fs | none => fput (x, b, 0) fs
theorem total_app {t : St} (h : Good t) (x : Nm) (b : List Int) : total (appFs x b t.fs) = total t.fs + b.length := by
  unfold appFs
  cases hg : fget x t.fs with
  | none => simp only; rw [total_put, total_del_none hg]; simp only; omega
  | some f =>
    simp only
    rw [total_put, total_del h.up hg]
    simp only [List.length_append]
    omega
theorem Good.app {t : St} (h : Good t) (x : Nm) (b : List Int) (hx : okN x = true) (hb : ∀ c ∈ b, 0 ≤ c ∧ c ≤ 255) (hr : total t.fs + b.length ≤ t.room) : Good { t with fs := appFs x b t.fs } := by
  have ht := total_app h x b
  unfold appFs at ht ⊢
  cases hg : fget x t.fs with
  | none =>
    rw [hg] at ht
    simp only at ht ⊢
    exact h.put (x, b, 0) hx (by simp) hb (by omega)
  | some f =>
    rw [hg] at ht
    simp only at ht ⊢
    obtain ⟨h1, h2⟩ := get_some hg
    refine h.put (x, f.2.1 ++ b, f.2.2) hx ?_ ?_ (by omega)
    · have := h.synced f h1
      simp
      omega
    · intro c hc
      rcases List.mem_append.1 hc with hc | hc
      · exact h.byte f h1 c hc
      · exact hb c hc
theorem Good.sync {t : St} (h : Good t) {x : Nm} {f : Fil} (hg : fget x t.fs = some f) : Good { t with fs := fput (x, f.2.1, f.2.1.length) t.fs } := by
  obtain ⟨h1, h2⟩ := get_some hg
  refine h.put (x, f.2.1, f.2.1.length) (by rw [← h2]; exact h.name f h1) (Nat.le_refl _) (h.byte f h1) ?_
  rw [total_put]
  have := total_del h.up hg
  have := h.3
  simp only
  omega
theorem total_sync {t : St} (h : Good t) {x : Nm} {f : Fil} (hg : fget x t.fs = some f) (k : Nat) : total (fput (x, f.2.1, k) t.fs) = total t.fs := by
  rw [total_put]
  have := total_del h.up hg
  simp only
  omega
/-- the files behind a Rename that is made -/
theorem total_ren {t : St} (h : Good t) {x y : Nm} {f : Fil} (hg : fget x t.fs = some f) (hxy : x ≠ y) : total (fdel x (fput (y, f.2.1, f.2.2) (fdel y t.fs))) = total (fdel y t.fs) := by
  have h1 : fget x (fput (y, f.2.1, f.2.2) (fdel y t.fs)) = some f := by
    have hu : Up Prod.fst (fput (y, f.2.1, f.2.2) (fdel y t.fs)) := (h.up.del y).put _
    obtain ⟨h1, h2⟩ := get_some hg
    have hm : f ∈ fput (y, f.2.1, f.2.2) (fdel y t.fs) := mem_fput.2 (.inr ⟨mem_fdel.2 ⟨h1, by rw [h2]; exact hxy⟩, by rw [h2]; exact hxy⟩)
    have := get_mem hu hm
    rw [h2] at this
    exact this
  have h2 : total (fput (y, f.2.1, f.2.2) (fdel y t.fs)) = f.2.1.length + total (fdel x (fput (y, f.2.1, f.2.2) (fdel y t.fs))) := total_del ((h.up.del y).put (y, f.2.1, f.2.2)) h1
  have h3 := total_put (y, f.2.1, f.2.2) (fdel y t.fs)
  have h4 : fdel y (fdel y t.fs) = fdel y t.fs := by
    unfold fdel del
    rw [List.filter_filter]
    congr 1
    funext a
    simp
  simp only [h4] at h3
  rw [h3] at h2
  omega
theorem Good.ren {t : St} (h : Good t) {x y : Nm} {f : Fil} (hg : fget x t.fs = some f) (hxy : x ≠ y) (hy : okN y = true) : Good { t with fs := fdel x (fput (y, f.2.1, f.2.2) (fdel y t.fs)) } := by
  have ht := total_ren h hg hxy
  have hl := total_del_le t.fs y
  have h3 := h.3
  obtain ⟨h1, h2⟩ := get_some hg
  refine ⟨h.1, h.2, ?_, ((h.up.del y).put _).del x, ?_, ?_, ?_⟩
  · simp only; omega
  · intro a ha
    rcases mem_fput.1 (mem_fdel.1 ha).1 with rfl | ⟨ha, _⟩
    · exact hy
    · exact h.name a (mem_fdel.1 ha).1
  · intro a ha
    rcases mem_fput.1 (mem_fdel.1 ha).1 with rfl | ⟨ha, _⟩
    · exact h.synced f h1
    · exact h.synced a (mem_fdel.1 ha).1
  · intro a ha
    rcases mem_fput.1 (mem_fdel.1 ha).1 with rfl | ⟨ha, _⟩
    · exact h.byte f h1
    · exact h.byte a (mem_fdel.1 ha).1
end Go.Proofs.YtnppomiggajhnaaGreatDoor.Dk

namespace Go.Proofs.YtnppomiggajhnaaGreatDoor.Wl
abbrev Nm := Dk.Nm

/-! ### digits -/
def dg (n : Nat) : UInt8 := UInt8.ofNat (48 + n % 10)
def isDig (c : UInt8) : Bool := decide (48 ≤ c.toNat) && decide (c.toNat ≤ 57)
def dval (l : List UInt8) : Nat := l.foldl (fun a c => a * 10 + (c.toNat - 48)) 0
/-- so many digits of a number -/
def dk : Nat → Nat → List UInt8
  | 0, _ => []
  | k + 1, n => dk k (n / 10) ++ [dg n]
theorem dk_len : ∀ k n, (dk k n).length = k
  | 0, _ => rfl
  | k + 1, n => by rw [dk, List.length_append, dk_len k]; rfl
theorem dg_nat (n : Nat) : (dg n).toNat = 48 + n % 10 := by
  unfold dg
  rw [UInt8.toNat_ofNat']
  omega
theorem dg_dig (n : Nat) : isDig (dg n) = true := by
  unfold isDig
  rw [dg_nat]
  simp
  omega
theorem dk_dig : ∀ k n, (dk k n).all isDig = true
  | 0, _ => rfl
  | k + 1, n => by rw [dk, List.all_append, dk_dig k]; simp [dg_dig]
theorem dval_snoc (l : List UInt8) (c : UInt8) : dval (l ++ [c]) = dval l * 10 + (c.toNat - 48) := by simp [dval]
theorem dval_dk : ∀ k n, n < 10 ^ k → dval (dk k n) = n
  | 0, n, h => by simp at h; subst h; rfl
  | k + 1, n, h => by
    rw [dk, dval_snoc, dval_dk k (n / 10) (by rw [Nat.pow_succ] at h; omega), dg_nat]
    omega
theorem dval_lt : ∀ (k : Nat) (l : List UInt8), l.length = k → l.all isDig = true → dval l < 10 ^ k ∧ dk k (dval l) = l
  | 0, l, h, _ => by
    obtain rfl := List.eq_nil_of_length_eq_zero h
    exact ⟨by simp [dval], rfl⟩
  | k + 1, l, h, hd => by
    obtain ⟨x, c, rfl⟩ : ∃ x c, l = x ++ [c] := ⟨l.dropLast, l.getLast (by rintro rfl; simp at h), (List.dropLast_concat_getLast _).symm⟩
    rw [List.all_append, Bool.and_eq_true] at hd
    obtain ⟨h1, h2⟩ := dval_lt k x (by simpa using h) hd.1
    have h3 : isDig c = true := by simpa using hd.2
    unfold isDig at h3
    simp only [Bool.and_eq_true, decide_eq_true_eq] at h3
    rw [dval_snoc, dk]
    refine ⟨by rw [Nat.pow_succ]; omega, ?_⟩
    rw [show (dval x * 10 + (c.toNat - 48)) / 10 = dval x by omega, h2]
    congr 2
    apply UInt8.toNat_inj.1
    rw [dg_nat]
    omega
theorem dk_split (j : Nat) : ∀ k n, dk (k + j) n = dk k (n / 10 ^ j) ++ dk j n := by
  induction j with
  | zero => intro k n; simp [dk]
  | succ j ih =>
    intro k n
    rw [show k + (j + 1) = (k + j) + 1 by omega, dk, ih, dk, List.append_assoc]
    congr 2
    rw [Nat.div_div_eq_div_mul, Nat.pow_succ, Nat.mul_comm]
/-- noughts ahead of a numeral -/
theorem padded : ∀ k n, n < 10 ^ k → 1 ≤ k → (Lib.decDigits n).length ≤ k ∧ List.replicate (k - (Lib.decDigits n).length) 48 ++ Lib.decDigits n = dk k n
  | 0, n, _, h => by omega
  | k + 1, n, h, _ => by
    by_cases hn : n < 10
    · rw [Lib.decDigits_one hn]
      refine ⟨by simp, ?_⟩
      have hz : ∀ k, dk k 0 = List.replicate k 48 := by
        intro k
        induction k with
        | zero => rfl
        | succ k ih =>
          rw [dk, Nat.zero_div, ih, List.replicate_succ']
          rfl
      rw [dk, show n / 10 = 0 by omega, hz]
      simp only [List.length_cons, List.length_nil]
      congr 2
      unfold dg
      rw [Nat.mod_eq_of_lt hn]
    · have hk : 1 ≤ k := by
        rcases Nat.eq_zero_or_pos k with rfl | h'
        · simp at h; omega
        · exact h'
      obtain ⟨h1, h2⟩ := padded k (n / 10) (by rw [Nat.pow_succ] at h; omega) hk
      have he : Lib.decDigits n = Lib.decDigits (n / 10) ++ [dg n] := by
        rw [Lib.decDigits, dif_neg hn]; rfl
      rw [he, List.length_append]
      refine ⟨by simpa using h1, ?_⟩
      rw [dk, ← h2, ← List.append_assoc]
      congr 3
      simp
theorem before_snoc : ∀ (x y : List UInt8) (c d : UInt8), x.length = y.length → bytesBefore (x ++ [c]) (y ++ [d]) = (bytesBefore x y || (x == y && decide (c < d)))
  | [], [], c, d, _ => by simp [bytesBefore]
  | [], _ :: _, _, _, h => by simp at h
  | _ :: _, [], _, _, h => by simp at h
  | a :: x, b :: y, c, d, h => by
    simp only [List.cons_append, bytesBefore]
    rw [before_snoc x y c d (by simpa using h)]
    by_cases h1 : a < b
    · simp [h1]
    · by_cases h2 : a = b
      · subst h2
        simp [h1]
      · simp [h1]
        cases (a == b) <;> simp
theorem dk_before : ∀ k a b, a < b → b < 10 ^ k → bytesBefore (dk k a) (dk k b) = true
  | 0, a, b, h, hb => by simp at hb; omega
  | k + 1, a, b, h, hb => by
    rw [dk, dk, before_snoc _ _ _ _ (by rw [dk_len, dk_len])]
    rw [Nat.pow_succ] at hb
    by_cases hq : a / 10 < b / 10
    · rw [dk_before k (a / 10) (b / 10) hq (by omega)]; rfl
    · have he : a / 10 = b / 10 := by omega
      rw [he]
      have : dg a < dg b := by
        rw [UInt8.lt_iff_toNat_lt, dg_nat, dg_nat]
        omega
      simp [this]

/-! ### names -/
def pre : List UInt8 := [119, 97, 108, 45]
def fresh : List UInt8 := [119, 97, 108, 46, 110, 101, 119]
def segN (n : Nat) : Nm := pre ++ dk 8 n
def shape (x : Nm) : Bool := decide (x.length = 12) && (x.take 4 == pre) && (x.drop 4).all isDig
/-- the number of the segment of that name; 0: it is none's -/
def numOf (x : Nm) : Nat := if shape x then dval (x.drop 4) else 0
theorem segN_len (n : Nat) : (segN n).length = 12 := by rw [segN, List.length_append, dk_len]; rfl
theorem numOf_segN (n : Nat) (h : n ≤ 99999999) : numOf (segN n) = n := by
  have h1 : (segN n).take 4 = pre := by rw [segN]; simp [pre]
  have h2 : (segN n).drop 4 = dk 8 n := by rw [segN]; simp [pre]
  unfold numOf shape
  rw [segN_len, h1, h2, dk_dig, dval_dk 8 n (by simpa using by omega)]
  simp
theorem numOf_pos {x : Nm} (h : 0 < numOf x) : x = segN (numOf x) ∧ numOf x ≤ 99999999 := by
  unfold numOf at h ⊢
  cases hs : shape x with
  | false => rw [hs] at h; simp at h
  | true =>
    rw [if_pos rfl]
    unfold shape at hs
    simp only [Bool.and_eq_true, decide_eq_true_eq, beq_iff_eq] at hs
    obtain ⟨⟨h1, h2⟩, h3⟩ := hs
    obtain ⟨h4, h5⟩ := dval_lt 8 (x.drop 4) (by rw [List.length_drop]; omega) h3
    refine ⟨?_, by simpa using by omega⟩
    rw [segN, h5, ← h2, List.take_append_drop]
theorem segN_inj {a b : Nat} (ha : a ≤ 99999999) (hb : b ≤ 99999999) (h : segN a = segN b) : a = b := by
  have := congrArg numOf h
  rwa [numOf_segN a ha, numOf_segN b hb] at this
theorem before_app (p : List UInt8) : ∀ x y, bytesBefore (p ++ x) (p ++ y) = bytesBefore x y := by
  induction p with
  | nil => intro x y; rfl
  | cons c p ih => intro x y; simp [bytesBefore, ih]
theorem segN_before {a b : Nat} (h : a < b) (hb : b ≤ 99999999) : bytesBefore (segN a) (segN b) = true := by
  rw [segN, segN, before_app]
  exact dk_before 8 a b h (by simpa using by omega)
theorem okC_dig {c : UInt8} (h : isDig c = true) : Dk.okC c = true := by
  unfold isDig at h
  unfold Dk.okC
  rw [h]
  simp
theorem okN_segN (n : Nat) : Dk.okN (segN n) = true := by
  unfold Dk.okN
  rw [segN_len]
  have : (segN n).all Dk.okC = true := by
    rw [segN, List.all_append, Bool.and_eq_true]
    refine ⟨by decide, ?_⟩
    rw [List.all_eq_true]
    intro c hc
    exact okC_dig (List.all_eq_true.1 (dk_dig 8 n) c hc)
  rw [this]
  rfl
theorem okN_fresh : Dk.okN fresh = true := by decide
theorem numOf_fresh : numOf fresh = 0 := by decide
theorem segN_ne_fresh (n : Nat) : segN n ≠ fresh := by
  intro h
  have := congrArg List.length h
  rw [segN_len] at this
  exact absurd this (by decide)
end Go.Proofs.YtnppomiggajhnaaGreatDoor.Wl

namespace Go.Proofs.YtnppomiggajhnaaGreatDoor.Fld

def Bytes (zs : List Int) : Prop := ∀ c ∈ zs, 0 ≤ c ∧ c ≤ 255
theorem bytes_nil : Bytes [] := fun c hc => by simp at hc
theorem bytes_append {xs ys : List Int} (hx : Bytes xs) (hy : Bytes ys) : Bytes (xs ++ ys) := by
  intro c hc
  rw [List.mem_append] at hc
  rcases hc with h | h
  · exact hx c h
  · exact hy c h
theorem bytes_cons {c : Int} {ys : List Int} (h0 : 0 ≤ c) (h1 : c ≤ 255) (hy : Bytes ys) : Bytes (c :: ys) := by
  intro d hd
  rcases List.mem_cons.1 hd with rfl | h
  · exact ⟨h0, h1⟩
  · exact hy d h
theorem bytes_drop {xs : List Int} (h : Bytes xs) (k : Nat) : Bytes (xs.drop k) := fun c hc => h c (List.mem_of_mem_drop hc)
theorem bytes_take {xs : List Int} (h : Bytes xs) (k : Nat) : Bytes (xs.take k) := fun c hc => h c (List.mem_of_mem_take hc)
theorem bytes_zeros (k : Nat) : Bytes (List.replicate k 0) := fun c hc => by
  have := List.eq_of_mem_replicate hc
  omega

/-- the digits of n in base 256, the greatest first -/
def digs (n : Nat) : List Int := if n = 0 then [] else digs (n / 256) ++ [((n % 256 : Nat) : Int)]
termination_by n
decreasing_by omega
theorem digs_zero : digs 0 = [] := by rw [digs]; simp
theorem digs_pos (n : Nat) (h : 0 < n) : digs n = digs (n / 256) ++ [((n % 256 : Nat) : Int)] := by
  conv => lhs; rw [digs]
  rw [if_neg (by omega)]
theorem digs_bytes (n : Nat) : Bytes (digs n) := by
  induction n using Nat.strongRecOn with
  | ind n ih =>
    rcases Nat.eq_zero_or_pos n with rfl | h
    · rw [digs_zero]; exact bytes_nil
    · rw [digs_pos n h]
      exact bytes_append (ih _ (by omega)) (bytes_cons (by omega) (by omega) bytes_nil)
theorem digs_len (n : Nat) (h : 0 < n) : (digs n).length = (digs (n / 256)).length + 1 := by rw [digs_pos n h]; simp
theorem digs_len_le : ∀ (k n : Nat), n < 256 ^ k → (digs n).length ≤ k
  | 0, n, h => by
    have : n = 0 := by simpa using h
    rw [this, digs_zero]; simp
  | k + 1, n, h => by
    rcases Nat.eq_zero_or_pos n with rfl | hp
    · rw [digs_zero]; simp
    · have := digs_len_le k (n / 256) (by rw [Nat.pow_succ] at h; omega)
      rw [digs_len n hp]; omega
theorem digs_len8 (n : Nat) (h : n < 18446744073709551616) : (digs n).length ≤ 8 := digs_len_le 8 n (by simpa using h)
theorem digs_len_pos (n : Nat) (h : 0 < (digs n).length) : 0 < n := by
  rcases Nat.eq_zero_or_pos n with rfl | hp
  · rw [digs_zero] at h; simp at h
  · exact hp

/-- the number whose digits are l -/
def val (l : List Int) : Nat := l.foldl (fun a c => a * 256 + c.toNat) 0
theorem val_nil : val [] = 0 := rfl
theorem val_snoc (l : List Int) (c : Int) : val (l ++ [c]) = val l * 256 + c.toNat := by simp [val]
theorem val_digs (n : Nat) : val (digs n) = n := by
  induction n using Nat.strongRecOn with
  | ind n ih =>
    rcases Nat.eq_zero_or_pos n with rfl | h
    · rw [digs_zero]; rfl
    · rw [digs_pos n h, val_snoc, ih _ (by omega)]
      omega
theorem val_lt : ∀ (k : Nat) (l : List Int), l.length = k → Bytes l → val l < 256 ^ k
  | 0, l, h, _ => by
    have : l = [] := List.eq_nil_of_length_eq_zero h
    rw [this]; simp [val]
  | k + 1, l, h, hb => by
    obtain ⟨l', c, rfl⟩ : ∃ l' c, l = l' ++ [c] := ⟨l.dropLast, l.getLast (by intro e; rw [e] at h; simp at h), (List.dropLast_concat_getLast _).symm⟩
    have h1 := val_lt k l' (by simpa using h) (fun d hd => hb d (by simp [hd]))
    have h2 := hb c (by simp)
    rw [val_snoc, Nat.pow_succ]
    omega
theorem digs_val : ∀ (k : Nat) (l : List Int), l.length = k → Bytes l → (k = 0 ∨ l.getD 0 0 ≠ 0) → digs (val l) = l
  | 0, l, h, _, _ => by
    have : l = [] := List.eq_nil_of_length_eq_zero h
    rw [this, val_nil, digs_zero]
  | k + 1, l, h, hb, hz => by
    obtain ⟨l', c, rfl⟩ : ∃ l' c, l = l' ++ [c] := ⟨l.dropLast, l.getLast (by intro e; rw [e] at h; simp at h), (List.dropLast_concat_getLast _).symm⟩
    have hl : l'.length = k := by simpa using h
    have hb' : Bytes l' := fun d hd => hb d (by simp [hd])
    have hc := hb c (by simp)
    have hz' : l'.getD 0 0 ≠ 0 ∨ k = 0 := by
      rcases Nat.eq_zero_or_pos k with h0 | h0
      · exact .inr h0
      · left
        rcases hz with hz | hz
        · omega
        · rw [List.getD_eq_getElem?_getD, List.getElem?_append_left (by omega), ← List.getD_eq_getElem?_getD] at hz
          exact hz
    have ih := digs_val k l' hl hb' hz'.symm
    have hpos : 0 < val (l' ++ [c]) := by
      rw [val_snoc]
      rcases Nat.eq_zero_or_pos k with h0 | h0
      · have : l' = [] := List.eq_nil_of_length_eq_zero (by omega)
        subst this
        rcases hz with hz | hz
        · omega
        · simp at hz
          omega
      · have : 0 < val l' := digs_len_pos _ (by rw [ih]; omega)
        omega
    rw [digs_pos _ hpos, val_snoc]
    have e1 : (val l' * 256 + c.toNat) / 256 = val l' := by omega
    have e2 : (((val l' * 256 + c.toNat) % 256 : Nat) : Int) = c := by omega
    rw [e1, e2, ih]

theorem size_eq (n : Nat) (h : n < 18446744073709551616) : (Lib.bitLen n + 7) / 8 = (digs n).length ∧ Lib.bitLen n ≤ 64 := by
  induction n using Nat.strongRecOn with
  | ind n ih =>
    rcases Nat.lt_or_ge n 256 with h1 | h1
    · have h2 := Lib.bitLen_le8 ⟨n, h1⟩
      simp only at h2
      rcases Nat.eq_zero_or_pos n with rfl | hp
      · rw [digs_zero]; decide
      · rw [digs_len n hp, show n / 256 = 0 by omega, digs_zero]
        have h3 := Lib.bitLen_half n (by omega) (by omega)
        simp only [List.length_nil]
        omega
    · have h2 := Lib.bitLen_shift 8 n (by omega) (by omega)
      rw [show (2 : Nat) ^ 8 = 256 from rfl] at h2
      have h3 := ih (n / 256) (by omega) (by omega)
      rw [digs_len n (by omega)]
      refine ⟨by omega, ?_⟩
      have h4 := digs_len_le 7 (n / 256) (by omega)
      omega

/-- the code of a number -/
def code (n : Nat) : List Int := ((digs n).length : Int) :: digs n
theorem code_len (n : Nat) : (code n).length = (digs n).length + 1 := by simp [code]
theorem code_bytes (n : Nat) (h : n < 18446744073709551616) : Bytes (code n) := by
  have := digs_len8 n h
  exact bytes_cons (by omega) (by omega) (digs_bytes n)
theorem code_inj (a b : Nat) (h : code a = code b) : a = b := by
  injection h with _ h
  rw [← val_digs a, h, val_digs]
/-- the code of a whole number -/
def intC (x : Int) : List Int := if 0 ≤ x then code x.toNat else (((digs (-x).toNat).length : Int) + 16) :: digs (-x).toNat
theorem intC_pos (x : Int) (h : 0 ≤ x) : intC x = code x.toNat := by rw [intC, if_pos h]
theorem intC_neg (x : Int) (h : x < 0) : intC x = (((digs (-x).toNat).length : Int) + 16) :: digs (-x).toNat := by rw [intC, if_neg (by omega)]
theorem intC_set (x : Int) (h : x < 0) : intC x = (code (-x).toNat).set 0 (((digs (-x).toNat).length : Int) + 16) := by rw [intC_neg x h]; rfl
theorem intC_len (x : Int) : (intC x).length = (digs x.natAbs).length + 1 := by
  rcases Int.lt_or_le x 0 with h | h
  · rw [intC_neg x h]; simp [show (-x).toNat = x.natAbs by omega]
  · rw [intC_pos x h, code_len, show x.toNat = x.natAbs by omega]
theorem intC_bytes (x : Int) (h0 : -9223372036854775808 ≤ x) (h1 : x ≤ 9223372036854775807) : Bytes (intC x) := by
  rcases Int.lt_or_le x 0 with h | h
  · rw [intC_neg x h]
    have := digs_len8 (-x).toNat (by omega)
    exact bytes_cons (by omega) (by omega) (digs_bytes _)
  · rw [intC_pos x h]; exact code_bytes _ (by omega)
/-- the code of a text -/
def textC (b : List Int) : List Int := code b.length ++ b
theorem textC_len (b : List Int) : (textC b).length = (digs b.length).length + 1 + b.length := by rw [textC, List.length_append, code_len]

/-! ### what a reader cuts off -/
def okD (r : List Int) (k : Nat) : Prop := k ≤ 8 ∧ k ≤ r.length ∧ (k = 0 ∨ r.getD 0 0 ≠ 0)
instance (r : List Int) (k : Nat) : Decidable (okD r k) := by unfold okD; infer_instance
def cutNum : List Int → Option (Nat × List Int)
  | [] => none
  | c :: r => if okD r c.toNat then some (val (r.take c.toNat), r.drop c.toNat) else none
def cutInt : List Int → Option (Int × List Int)
  | [] => none
  | c :: r =>
    if c ≤ 8 then if okD r c.toNat ∧ val (r.take c.toNat) ≤ 9223372036854775807 then some ((val (r.take c.toNat) : Int), r.drop c.toNat) else none
    else if 16 < c ∧ okD r (c - 16).toNat ∧ val (r.take (c - 16).toNat) ≤ 9223372036854775808 then some (-(val (r.take (c - 16).toNat) : Int), r.drop (c - 16).toNat) else none
def cutText (zs : List Int) : Option (List Int × List Int) :=
  match cutNum zs with
  | none => none
  | some (n, r) => if n ≤ r.length then some (r.take n, r.drop n) else none

theorem getD_append_left (l t : List Int) (h : 0 < l.length) : (l ++ t).getD 0 0 = l.getD 0 0 := by
  rw [List.getD_eq_getElem?_getD, List.getElem?_append_left h, ← List.getD_eq_getElem?_getD]
theorem digs_head (n : Nat) : (digs n).length = 0 ∨ (digs n).getD 0 0 ≠ 0 := by
  induction n using Nat.strongRecOn with
  | ind n ih =>
    rcases Nat.eq_zero_or_pos n with rfl | h
    · left; rw [digs_zero]; rfl
    · right
      rw [digs_pos n h]
      rcases Nat.eq_zero_or_pos (digs (n / 256)).length with h0 | h0
      · have hn : n / 256 = 0 := by
          rw [← val_digs (n / 256), List.eq_nil_of_length_eq_zero h0]; rfl
        rw [List.eq_nil_of_length_eq_zero h0]
        simp
        omega
      · rw [getD_append_left _ _ h0]
        rcases ih (n / 256) (by omega) with h1 | h1
        · omega
        · exact h1
theorem okD_digs (n : Nat) (h : n < 18446744073709551616) (t : List Int) : okD (digs n ++ t) (digs n).length := by
  refine ⟨digs_len8 n h, by simp, ?_⟩
  rcases digs_head n with h0 | h0
  · exact .inl h0
  · rcases Nat.eq_zero_or_pos (digs n).length with h1 | h1
    · exact .inl h1
    · right; rw [getD_append_left _ _ h1]; exact h0
theorem cutNum_code (n : Nat) (h : n < 18446744073709551616) (t : List Int) : cutNum (code n ++ t) = some (n, t) := by
  show cutNum (((digs n).length : Int) :: (digs n ++ t)) = _
  rw [cutNum]
  simp only [Int.toNat_natCast]
  rw [if_pos (okD_digs n h t), List.take_left, List.drop_left, val_digs]
theorem cutInt_code (x : Int) (h0 : -9223372036854775808 ≤ x) (h1 : x ≤ 9223372036854775807) (t : List Int) : cutInt (intC x ++ t) = some (x, t) := by
  rcases Int.lt_or_le x 0 with h | h
  · rw [intC_neg x h]
    show cutInt ((((digs (-x).toNat).length : Int) + 16) :: (digs (-x).toNat ++ t)) = _
    have hp : 0 < (digs (-x).toNat).length := by
      rcases Nat.eq_zero_or_pos (digs (-x).toNat).length with h2 | h2
      · have := val_digs (-x).toNat
        rw [List.eq_nil_of_length_eq_zero h2, val_nil] at this
        omega
      · exact h2
    rw [cutInt]
    have e : (((digs (-x).toNat).length : Int) + 16 - 16).toNat = (digs (-x).toNat).length := by omega
    rw [if_neg (by omega), e, List.take_left, List.drop_left, val_digs, if_pos ⟨by omega, okD_digs _ (by omega) t, by omega⟩]
    rw [show -(((-x).toNat : Nat) : Int) = x by omega]
  · rw [intC_pos x h]
    show cutInt (((digs x.toNat).length : Int) :: (digs x.toNat ++ t)) = _
    have := digs_len8 x.toNat (by omega)
    rw [cutInt]
    simp only [Int.toNat_natCast]
    rw [if_pos (by omega), List.take_left, List.drop_left, val_digs, if_pos ⟨okD_digs _ (by omega) t, by omega⟩]
    rw [show ((x.toNat : Nat) : Int) = x by omega]
theorem cutText_code (b : List Int) (h : b.length < 18446744073709551616) (t : List Int) : cutText (textC b ++ t) = some (b, t) := by
  rw [cutText, textC, List.append_assoc, cutNum_code _ h]
  simp

theorem digs_cut (r : List Int) (k : Nat) (hb : Bytes r) (h : okD r k) : digs (val (r.take k)) = r.take k ∧ val (r.take k) < 18446744073709551616 := by
  obtain ⟨h8, hl, hz⟩ := h
  have hlen : (r.take k).length = k := by rw [List.length_take]; omega
  refine ⟨digs_val k _ hlen (bytes_take hb k) ?_, ?_⟩
  · rcases Nat.eq_zero_or_pos k with h0 | h0
    · exact .inl h0
    · right
      rcases hz with hz | hz
      · omega
      · rw [List.getD_eq_getElem?_getD, List.getElem?_take, if_pos h0, ← List.getD_eq_getElem?_getD]; exact hz
  · have h1 := val_lt k _ hlen (bytes_take hb k)
    have h2 : (256 : Nat) ^ k ≤ 256 ^ 8 := Nat.pow_le_pow_right (by omega) h8
    have h3 : (256 : Nat) ^ 8 = 18446744073709551616 := by decide
    omega
theorem cutInt_back (zs : List Int) (hb : Bytes zs) (x : Int) (t : List Int) (h : cutInt zs = some (x, t)) :
    zs = intC x ++ t ∧ -9223372036854775808 ≤ x ∧ x ≤ 9223372036854775807 := by
  cases zs with
  | nil => simp [cutInt] at h
  | cons c r =>
    have hc := hb c (by simp)
    have hr : Bytes r := fun d hd => hb d (by simp [hd])
    rw [cutInt] at h
    split at h
    · rename_i hc8
      split at h
      · rename_i hok
        obtain ⟨ho, hv⟩ := hok
        obtain ⟨h1, h2⟩ := digs_cut r _ hr ho
        simp only [Option.some.injEq, Prod.mk.injEq] at h
        obtain ⟨rfl, rfl⟩ := h
        refine ⟨?_, by omega, by omega⟩
        rw [intC_pos _ (by omega), Int.toNat_natCast, code, h1]
        have hl : (r.take c.toNat).length = c.toNat := by rw [List.length_take]; have := ho.2.1; omega
        rw [hl, List.cons_append, List.take_append_drop, show ((c.toNat : Nat) : Int) = c by omega]
      · cases h
    · split at h
      · rename_i hok
        obtain ⟨h16, ho, hv⟩ := hok
        obtain ⟨h1, h2⟩ := digs_cut r _ hr ho
        simp only [Option.some.injEq, Prod.mk.injEq] at h
        obtain ⟨rfl, rfl⟩ := h
        have hl : (r.take (c - 16).toNat).length = (c - 16).toNat := by rw [List.length_take]; have := ho.2.1; omega
        have hp : 0 < val (r.take (c - 16).toNat) := digs_len_pos _ (by rw [h1, hl]; omega)
        refine ⟨?_, by omega, by omega⟩
        rw [intC_neg _ (by omega), show (- -((val (r.take (c - 16).toNat) : Nat) : Int)).toNat = val (r.take (c - 16).toNat) by omega, h1, hl, List.cons_append, List.take_append_drop, show (((c - 16).toNat : Nat) : Int) + 16 = c by omega]
      · cases h

/-! ### codes are told apart -/
theorem intC_inj (a b : Int) (ha0 : -9223372036854775808 ≤ a) (ha1 : a ≤ 9223372036854775807) (hb0 : -9223372036854775808 ≤ b) (hb1 : b ≤ 9223372036854775807) (h : intC a = intC b) : a = b := by
  have h1 := cutInt_code a ha0 ha1 []
  have h2 := cutInt_code b hb0 hb1 []
  rw [h, h2] at h1
  simpa using h1.symm
theorem intC_head (x : Int) (h0 : -9223372036854775808 ≤ x) (h1 : x ≤ 9223372036854775807) : ∃ c r, intC x = c :: r ∧ r.length = (c % 16).toNat := by
  rcases Int.lt_or_le x 0 with h | h
  · have := digs_len8 (-x).toNat (by omega)
    exact ⟨_, _, intC_neg x h, by omega⟩
  · have := digs_len8 x.toNat (by omega)
    exact ⟨_, _, intC_pos x h, by omega⟩
theorem intC_apart (a b : Int) (ha0 : -9223372036854775808 ≤ a) (ha1 : a ≤ 9223372036854775807) (hb0 : -9223372036854775808 ≤ b) (hb1 : b ≤ 9223372036854775807)
    (n : Nat) (hn : n = min (intC a).length (intC b).length) : ((intC a).take n = (intC b).take n) ↔ a = b := by
  constructor
  · intro h
    apply intC_inj a b ha0 ha1 hb0 hb1
    obtain ⟨c, r, ea, la⟩ := intC_head a ha0 ha1
    obtain ⟨d, s, eb, lb⟩ := intC_head b hb0 hb1
    rw [ea, eb] at hn h ⊢
    simp only [List.length_cons] at hn
    obtain ⟨m, rfl⟩ : ∃ m, n = m + 1 := ⟨n - 1, by omega⟩
    simp only [List.take_succ_cons, List.cons.injEq] at h
    obtain ⟨rfl, h⟩ := h
    rw [List.take_of_length_le (by omega), List.take_of_length_le (by omega)] at h
    rw [h]
  · rintro rfl; rfl

/-! ### the order of codes -/
def lex : List Int → List Int → Bool
  | _, [] => false
  | [], _ :: _ => true
  | a :: x, b :: y => decide (a < b) || (decide (a = b) && lex x y)
theorem foldl_val (l : List Int) : ∀ a : Nat, l.foldl (fun a c => a * 256 + c.toNat) a = a * 256 ^ l.length + val l := by
  induction l with
  | nil => intro a; simp [val]
  | cons c r ih =>
    intro a
    simp only [List.foldl_cons, List.length_cons, val]
    rw [ih, ih (0 * 256 + c.toNat), Nat.pow_succ, Nat.add_mul, Nat.zero_mul, Nat.zero_add]
    have e : a * 256 * 256 ^ r.length = a * (256 ^ r.length * 256) := by rw [Nat.mul_assoc, Nat.mul_comm 256]
    omega
theorem val_cons (c : Int) (r : List Int) : val (c :: r) = c.toNat * 256 ^ r.length + val r := by
  show (c :: r).foldl _ 0 = _
  rw [List.foldl_cons, foldl_val]
  simp
theorem lex_val : ∀ (xs ys : List Int), xs.length = ys.length → Bytes xs → Bytes ys → lex xs ys = decide (val xs < val ys)
  | [], [], _, _, _ => rfl
  | [], _ :: _, h, _, _ => by simp at h
  | _ :: _, [], h, _, _ => by simp at h
  | a :: r, b :: s, h, hx, hy => by
    have hl : r.length = s.length := by simpa using h
    have ih := lex_val r s hl (fun c hc => hx c (by simp [hc])) (fun c hc => hy c (by simp [hc]))
    have h1 := val_lt r.length r rfl (fun c hc => hx c (by simp [hc]))
    have h2 := val_lt s.length s rfl (fun c hc => hy c (by simp [hc]))
    have ha := hx a (by simp)
    have hb := hy b (by simp)
    rw [lex, ih, val_cons, val_cons, ← hl]
    rw [← hl] at h2
    generalize 256 ^ r.length = p at h1 h2 ⊢
    generalize val r = u at h1 ⊢
    generalize val s = v at h2 ⊢
    obtain ⟨a', rfl⟩ : ∃ a' : Nat, a = (a' : Int) := ⟨a.toNat, by omega⟩
    obtain ⟨b', rfl⟩ : ∃ b' : Nat, b = (b' : Int) := ⟨b.toNat, by omega⟩
    simp only [Int.toNat_natCast]
    rcases Nat.lt_trichotomy a' b' with hlt | heq | hgt
    · have e1 : decide ((a' : Int) < (b' : Int)) = true := by simp; omega
      have e2 : (a' + 1) * p ≤ b' * p := Nat.mul_le_mul_right _ hlt
      rw [Nat.add_mul] at e2
      have e3 : a' * p + u < b' * p + v := by omega
      rw [e1, decide_eq_true e3]; rfl
    · subst heq
      simp
    · have e1 : decide ((a' : Int) < (b' : Int)) = false := by simp; omega
      have e0 : decide ((a' : Int) = (b' : Int)) = false := by simp; omega
      have e2 : (b' + 1) * p ≤ a' * p := Nat.mul_le_mul_right _ hgt
      rw [Nat.add_mul] at e2
      have e3 : ¬ a' * p + u < b' * p + v := by omega
      rw [e1, e0, decide_eq_false e3]; rfl
theorem digs_low : ∀ (k n : Nat), (digs n).length = k + 1 → 256 ^ k ≤ n
  | 0, n, h => by have := digs_len_pos n (by omega); rw [Nat.pow_zero]; omega
  | k + 1, n, h => by
    have hp := digs_len_pos n (by omega)
    have := digs_low k (n / 256) (by have := digs_len n hp; omega)
    rw [Nat.pow_succ]
    omega
theorem len_lt (a b : Nat) (h : (digs a).length < (digs b).length) : a < b := by
  obtain ⟨k, hk⟩ : ∃ k, (digs b).length = k + 1 := ⟨(digs b).length - 1, by omega⟩
  have h1 := digs_low k b hk
  have h2 := val_lt (digs a).length (digs a) rfl (digs_bytes a)
  rw [val_digs] at h2
  have h3 : (256 : Nat) ^ (digs a).length ≤ 256 ^ k := Nat.pow_le_pow_right (by omega) (by omega)
  omega
theorem lex_code (a b : Nat) : lex (code a) (code b) = decide (a < b) := by
  show (decide (((digs a).length : Int) < ((digs b).length : Int)) || (decide (((digs a).length : Int) = ((digs b).length : Int)) && lex (digs a) (digs b))) = _
  rcases Nat.lt_trichotomy (digs a).length (digs b).length with h | h | h
  · have h1 := len_lt a b h
    rw [decide_eq_true (show ((digs a).length : Int) < ((digs b).length : Int) by omega), decide_eq_true h1]; rfl
  · rw [lex_val _ _ h (digs_bytes a) (digs_bytes b), val_digs, val_digs, decide_eq_true (show ((digs a).length : Int) = ((digs b).length : Int) by omega), decide_eq_false (show ¬ ((digs a).length : Int) < ((digs b).length : Int) by omega)]; rfl
  · have h1 := len_lt b a h
    rw [decide_eq_false (show ¬ ((digs a).length : Int) < ((digs b).length : Int) by omega), decide_eq_false (show ¬ ((digs a).length : Int) = ((digs b).length : Int) by omega), decide_eq_false (show ¬ a < b by omega)]; rfl
end Go.Proofs.YtnppomiggajhnaaGreatDoor.Fld

namespace Go.Proofs.YtnppomiggajhnaaGreatDoor.Fld

theorem len_close (x y : Int) (k : Nat) (hk : k ≤ 56) (h0 : 0 ≤ y) (h1 : y ≤ 255) (e : y.toNat = x.toNat / 2 ^ k) (hp : 2 ^ k ≤ x.toNat) (hx : x.toNat < 2 ^ 64) :
    ((k : Int) + ((Lib.len8 y + 9223372036854775808) % 18446744073709551616 - 9223372036854775808) + 9223372036854775808) % 18446744073709551616 - 9223372036854775808 = (Lib.bitLen x.toNat : Int) := by
  rw [Lib.len8_int y h0 h1, Lib.bitLen_shift k x.toNat hp hx, ← e]
  have := Lib.bitLen_le8 ⟨y.toNat, by omega⟩
  simp only at this
  omega
theorem len_close0 (x : Int) (h0 : 0 ≤ x) (h1 : x < 256) : (Lib.len8 (x % 256) + 9223372036854775808) % 18446744073709551616 - 9223372036854775808 = (Lib.bitLen x.toNat : Int) := by
  rw [Lib.len8_int (x % 256) (by omega) (by omega), show x % 256 = x by omega]

set_option maxHeartbeats 4000000 in
set_option maxRecDepth 100000 in
theorem len64_int (x : Int) (w : World) (h0 : 0 ≤ x) (h1 : x ≤ 18446744073709551615) : Calls Tryz.prog 179 #[.int .u64 x] w fun e w' => e = .returned (.int .i64 (Lib.bitLen x.toNat)) ∧ w = w' := by
  go_enter Tryz.func179, Tryz.ntmps179
  go_wp2
  all_goals (go_ret; refine ⟨congrArg Ending.returned (congrArg (Value.int IntKind.i64) ?_), rfl⟩)
  · exact len_close x _ 56 (by omega) (by omega) (by omega) (by omega) (by omega) (by omega)
  · exact len_close x _ 48 (by omega) (by omega) (by omega) (by omega) (by omega) (by omega)
  · exact len_close x _ 40 (by omega) (by omega) (by omega) (by omega) (by omega) (by omega)
  · exact len_close x _ 32 (by omega) (by omega) (by omega) (by omega) (by omega) (by omega)
  · exact len_close x _ 24 (by omega) (by omega) (by omega) (by omega) (by omega) (by omega)
  · exact len_close x _ 16 (by omega) (by omega) (by omega) (by omega) (by omega) (by omega)
  · exact len_close x _ 8 (by omega) (by omega) (by omega) (by omega) (by omega) (by omega)
  · exact len_close0 x h0 (by omega)
end Go.Proofs.YtnppomiggajhnaaGreatDoor.Fld
