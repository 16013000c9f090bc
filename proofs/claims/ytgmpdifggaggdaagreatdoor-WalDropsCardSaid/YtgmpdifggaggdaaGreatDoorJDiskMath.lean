/-
  Several texts in one: The plain mathematics of layer 4: a disk as a list of files by rising names, what each call makes of it, and the same list as a map's datum. No condition but those that each theorem states. What holds of a disk holds of it behind each call: names rise, sizes fit, what is synced is there. No condition but those that each theorem states.
-/
import Derived.Maps.OwnSet
import Derived.Sort.KeysCollected
namespace Go.Proofs.YtgmpdifggaggdaaGreatDoor.Dk

abbrev Nm := List UInt8
abbrev Fil := Nm × List Int × Nat
/-- an entry of the map: the name, the slice, its bytes, how many of them are synced -/
structure Ent where
  nm : Nm
  v : Value
  zs : List Int
  s : Nat
def Ent.fil (e : Ent) : Fil := (e.nm, e.zs, e.s)
def Ent.val (e : Ent) : Value := .agg #[e.v, .int .i64 (e.s : Int)]
/-- the disk -/
structure St where
  room : Nat
  fs : List Fil
  off : Bool
  fail : Option Nat
  arm : Option Nat

def okC (c : UInt8) : Bool := (decide (97 ≤ c.toNat) && decide (c.toNat ≤ 122)) || (decide (48 ≤ c.toNat) && decide (c.toNat ≤ 57)) || decide (c.toNat = 46) || decide (c.toNat = 45)
def okN (x : Nm) : Bool := decide (1 ≤ x.length) && decide (x.length ≤ 64) && x.all okC

def total (fs : List Fil) : Nat := (fs.map fun f => f.2.1.length).sum

/-! ### lists by rising names, of whatever is named -/
section
variable {α : Type} (key : α → Nm)
def ins (e : α) : List α → List α
  | [] => [e]
  | y :: r => if bytesBefore (key e) (key y) then e :: y :: r else y :: ins e r
def del (x : Nm) (l : List α) : List α := l.filter fun e => !(key e == x)
def put (e : α) (l : List α) : List α := ins key e (del key (key e) l)
def get (x : Nm) (l : List α) : Option α := l.find? fun e => key e == x
def Up (l : List α) : Prop := l.Pairwise fun a b => bytesBefore (key a) (key b) = true
variable {key}
theorem before_ne {a b : Nm} (h : bytesBefore a b = true) : a ≠ b := by rintro rfl; rw [WideAt.bytes_irrefl] at h; cases h
theorem before_asym {a b : Nm} (h : bytesBefore a b = true) : bytesBefore b a = false := by
  cases h' : bytesBefore b a
  · rfl
  · have := WideShapes.bytes_trans _ _ _ h h'; rw [WideAt.bytes_irrefl] at this; cases this
theorem mem_ins {e : α} : ∀ {l : List α} {a : α}, a ∈ ins key e l ↔ a = e ∨ a ∈ l
  | [], a => by simp [ins]
  | y :: r, a => by
    unfold ins
    split
    · simp
    · simp only [List.mem_cons, mem_ins (l := r)]
      constructor
      · rintro (h | h | h)
        · exact .inr (.inl h)
        · exact .inl h
        · exact .inr (.inr h)
      · rintro (h | h | h)
        · exact .inr (.inl h)
        · exact .inl h
        · exact .inr (.inr h)
theorem ins_perm (e : α) : ∀ l : List α, (ins key e l).Perm (e :: l)
  | [] => List.Perm.refl _
  | y :: r => by
    unfold ins
    split
    · exact List.Perm.refl _
    · exact ((ins_perm e r).cons y).trans (List.Perm.swap _ _ _)
theorem Up.ins {e : α} : ∀ {l : List α}, Up key l → (∀ a ∈ l, key a ≠ key e) → Up key (ins key e l)
  | [], _, _ => by simp [Dk.ins, Up]
  | y :: r, h, hne => by
    have h' := h
    obtain ⟨h1, h2⟩ := List.pairwise_cons.1 h
    unfold Dk.ins
    split
    · rename_i hb
      refine List.pairwise_cons.2 ⟨fun a ha => ?_, h'⟩
      rcases List.mem_cons.1 ha with rfl | ha
      · exact hb
      · exact WideShapes.bytes_trans _ _ _ hb (h1 a ha)
    · rename_i hb
      refine List.pairwise_cons.2 ⟨fun a ha => ?_, Up.ins h2 (fun a ha => hne a (by simp [ha]))⟩
      rcases mem_ins.1 ha with rfl | ha
      · rcases WideAt.bytes_total _ _ (hne y (by simp)) with h | h
        · exact h
        · exact absurd h hb
      · exact h1 a ha
theorem Up.del {l : List α} (h : Up key l) (x : Nm) : Up key (del key x l) := h.filter _
theorem mem_del {l : List α} {x : Nm} {a : α} : a ∈ del key x l ↔ a ∈ l ∧ key a ≠ x := by simp [del]
theorem Up.put {l : List α} (h : Up key l) (e : α) : Up key (put key e l) := (h.del _).ins fun _ ha => (mem_del.1 ha).2
theorem mem_put {l : List α} {e a : α} : a ∈ put key e l ↔ a = e ∨ (a ∈ l ∧ key a ≠ key e) := by rw [put, mem_ins, mem_del]
theorem Up.inj {l : List α} (h : Up key l) {a b : α} (ha : a ∈ l) (hb : b ∈ l) (he : key a = key b) : a = b := by
  induction l with
  | nil => simp at ha
  | cons y r ih =>
    obtain ⟨h1, h2⟩ := List.pairwise_cons.1 h
    rcases List.mem_cons.1 ha with ea | ha' <;> rcases List.mem_cons.1 hb with eb | hb'
    · rw [ea, eb]
    · subst ea; exact absurd he (before_ne (h1 b hb'))
    · subst eb; exact absurd he.symm (before_ne (h1 a ha'))
    · exact ih h2 ha' hb'
theorem get_some {l : List α} {x : Nm} {e : α} (h : get key x l = some e) : e ∈ l ∧ key e = x := by
  have h1 := List.mem_of_find?_eq_some h
  have h2 := List.find?_some h
  exact ⟨h1, by simpa using h2⟩
theorem get_none {l : List α} {x : Nm} (h : get key x l = none) : ∀ a ∈ l, key a ≠ x := by
  intro a ha
  have := List.find?_eq_none.1 h a ha
  simpa using this
theorem get_mem {l : List α} (h : Up key l) {e : α} (he : e ∈ l) : get key (key e) l = some e := by
  cases hg : get key (key e) l with
  | none => exact absurd rfl (get_none hg e he)
  | some e' => obtain ⟨h1, h2⟩ := get_some hg; rw [h.inj h1 he h2]
theorem del_none {l : List α} {x : Nm} (h : get key x l = none) : del key x l = l := by
  unfold del
  rw [List.filter_eq_self]
  intro a ha
  simpa using get_none h a ha
theorem filter_ins (p : α → Bool) (e : α) (hp : p e = true) : ∀ {l : List α}, Up key l → (ins key e l).filter p = ins key e (l.filter p)
  | [], _ => by simp [ins, hp]
  | y :: r, h => by
    obtain ⟨h1, h2⟩ := List.pairwise_cons.1 h
    unfold ins
    by_cases hb : bytesBefore (key e) (key y) = true
    · rw [if_pos hb, List.filter_cons_of_pos hp]
      cases hf : (y :: r).filter p with
      | nil => rfl
      | cons z q =>
        have hz : z ∈ y :: r := (List.mem_filter.1 (show z ∈ (y :: r).filter p by rw [hf]; simp)).1
        have : bytesBefore (key e) (key z) = true := by
          rcases List.mem_cons.1 hz with rfl | hz
          · exact hb
          · exact WideShapes.bytes_trans _ _ _ hb (h1 z hz)
        show _ = ins key e (z :: q)
        rw [ins, if_pos this]
    · rw [if_neg hb]
      by_cases hy : p y = true
      · rw [List.filter_cons_of_pos hy, List.filter_cons_of_pos hy, filter_ins p e hp h2]
        show _ = ins key e (y :: List.filter p r)
        rw [ins, if_neg hb]
      · rw [List.filter_cons_of_neg hy, List.filter_cons_of_neg hy, filter_ins p e hp h2]
        cases List.filter p r <;> rfl
/-- a file that is there is put in its own place -/
theorem put_at {l : List α} (h : Up key l) (e : α) (i : Nat) (hi : i < l.length) (hk : key l[i] = key e) : put key e l = l.set i e := by
  induction l generalizing i with
  | nil => simp at hi
  | cons y r ih =>
    obtain ⟨h1, h2⟩ := List.pairwise_cons.1 h
    cases i with
    | zero =>
      simp only [List.getElem_cons_zero] at hk
      have hd : del key (key e) (y :: r) = r := by
        unfold del
        rw [List.filter_cons_of_neg (by simp [hk]), List.filter_eq_self]
        intro a ha
        have := before_ne (h1 a ha)
        simp [← hk]
        exact fun h => this h.symm
      rw [put, hd, List.set_cons_zero]
      cases r with
      | nil => rfl
      | cons z q => rw [ins, if_pos (by rw [← hk]; exact h1 z (by simp))]
    | succ i =>
      simp only [List.getElem_cons_succ] at hk
      have hb : bytesBefore (key y) (key e) = true := by rw [← hk]; exact h1 _ (List.getElem_mem _)
      have hd : del key (key e) (y :: r) = y :: del key (key e) r := by
        unfold del
        rw [List.filter_cons_of_pos (by simpa using before_ne hb)]
      rw [put, hd, ins, if_neg (by rw [before_asym hb]; simp), List.set_cons_succ]
      have := ih h2 i (by simpa using hi) hk
      rw [put] at this
      rw [this]
end

/-! ### one list's names are the other's -/
section
variable {α β : Type} {k1 : α → Nm} {k2 : β → Nm} (f : α → β) (hf : ∀ a, k2 (f a) = k1 a)
include hf
theorem map_ins (e : α) : ∀ l : List α, (ins k1 e l).map f = ins k2 (f e) (l.map f)
  | [] => rfl
  | y :: r => by
    unfold ins
    simp only [List.map_cons, hf]
    split
    · simp
    · simp [map_ins e r]
theorem map_del (x : Nm) (l : List α) : (del k1 x l).map f = del k2 x (l.map f) := by
  unfold del
  rw [List.filter_map]
  congr 1
  apply List.filter_congr
  intro a _
  simp [hf]
theorem map_put (e : α) (l : List α) : (put k1 e l).map f = put k2 (f e) (l.map f) := by
  rw [put, put, map_ins f hf, map_del f hf, hf]
theorem map_get (x : Nm) (l : List α) : (get k1 x l).map f = get k2 x (l.map f) := by
  unfold get
  rw [List.find?_map]
  congr 2
  funext a
  simp [hf]
theorem map_up {l : List α} : Up k2 (l.map f) ↔ Up k1 l := by
  unfold Up
  rw [List.pairwise_map]
  simp [hf]
end

/-! ### the map's datum -/
def one (e : Ent) : Lit × DataW Value := (.string e.nm, .held e.val)
def dOf (m : List Ent) : DataW Value := .map (m.map one)
def R1 (v : Value) : Option (DataW Value × List MemPlace) := some (.held v, [])
theorem same_str (a b : Nm) : (Lit.string a).sameKey (.string b) = (a == b) := rfl
theorem dOf_has (m : List Ent) (x : Nm) : Maps.has (dOf m) (.string x) = (get Ent.nm x m).isSome := by
  unfold dOf get
  rw [Maps.has_eq]
  induction m with
  | nil => rfl
  | cons e r ih =>
    simp only [List.map_cons, List.any_cons, List.find?_cons, one, same_str] at ih ⊢
    cases h : (e.nm == x) <;> simp [ih]
theorem dOf_at (m : List Ent) (x : Nm) (z : Value) : (dOf m).atKey (.string x) (.held z) = .held (((get Ent.nm x m).map Ent.val).getD z) := by
  unfold dOf DataW.atKey get
  simp only [List.find?_map]
  have : ((fun p : Lit × DataW Value => p.1.sameKey (.string x)) ∘ one) = fun e : Ent => e.nm == x := rfl
  rw [this]
  cases List.find? (fun e : Ent => e.nm == x) m <;> rfl
theorem dOf_ins (e : Ent) : ∀ m : List Ent, DataW.insert (one e) (m.map one) = (ins Ent.nm e m).map one
  | [] => rfl
  | y :: r => by
    unfold ins
    simp only [List.map_cons]
    unfold DataW.insert
    have : (one e).1.before (one y).1 = bytesBefore e.nm y.nm := rfl
    rw [this]
    split
    · simp
    · simp [dOf_ins e r]
theorem dOf_del (m : List Ent) (x : Nm) : (dOf m).del (.string x) = dOf (del Ent.nm x m) := by
  show DataW.map ((m.map one).filter fun p => !p.1.sameKey (.string x)) = _
  unfold dOf del
  rw [List.filter_map]
  rfl
theorem dOf_put (m : List Ent) (e : Ent) : (dOf m).put (.string e.nm) (.held e.val) = dOf (put Ent.nm e m) := by
  show DataW.map (DataW.insert (one e) ((m.map one).filter _)) = _
  have h : ((m.map one).filter fun p => !p.1.sameKey (.string e.nm)) = (del Ent.nm e.nm m).map one := by
    unfold del
    rw [List.filter_map]
    rfl
  rw [h, dOf_ins]
  rfl
theorem dOf_size (m : List Ent) : Maps.size (dOf m) = m.length := by simp [dOf, Maps.size]
theorem dOf_keys (m : List Ent) : strKeys (dOf m) = m.map Ent.nm := by
  simp only [dOf, strKeys, List.map_map]
  rfl
theorem le_of_before : ∀ {a b : Nm}, bytesBefore a b = true → a ≤ b
  | [], b, _ => List.nil_le _
  | _ :: _, [], h => by simp [bytesBefore] at h
  | x :: r, y :: s, h => by
    simp only [bytesBefore, Bool.or_eq_true, Bool.and_eq_true, decide_eq_true_eq, beq_iff_eq] at h
    rcases h with h | ⟨rfl, h⟩
    · exact List.le_of_lt (List.Lex.rel h)
    · exact List.cons_le_cons_iff.2 (.inr ⟨rfl, le_of_before h⟩)
theorem sorted_keys {m : List Ent} (h : Up Ent.nm m) : (m.map Ent.nm).mergeSort (fun x y => decide (x ≤ y)) = m.map Ent.nm := by
  apply List.mergeSort_of_pairwise
  rw [List.pairwise_map]
  exact h.imp fun hb => by simpa using le_of_before hb

/-! ### what a disk does -/
def chg (t : St) : Int × St :=
  if t.off then (5, t)
  else if t.arm = some 0 then (5, { t with arm := none, off := true })
  else if t.fail = some 0 then (4, { t with arm := t.arm.map (· - 1), fail := none })
  else (0, { t with arm := t.arm.map (· - 1), fail := t.fail.map (· - 1) })
def doing (ok : Bool) (t : St) (f : St → Int × St) : Int × St :=
  if ok then (if (chg t).1 = 0 then f (chg t).2 else chg t) else (1, t)
def fget (x : Nm) (fs : List Fil) : Option Fil := get Prod.fst x fs
def fput (f : Fil) (fs : List Fil) : List Fil := put Prod.fst f fs
def fdel (x : Nm) (fs : List Fil) : List Fil := del Prod.fst x fs
def app1 (x : Nm) (b : List Int) (t : St) : Int × St :=
  if t.room < total t.fs + b.length then (3, t)
  else (0, { t with fs := match fget x t.fs with | some f => fput (x, f.2.1 ++ b, f.2.2) t.fs | none => fput (x, b, 0) t.fs })
def sync1 (x : Nm) (t : St) : Int × St :=
  match fget x t.fs with
  | some f => (0, { t with fs := fput (x, f.2.1, f.2.1.length) t.fs })
  | none => (2, t)
def ren1 (x y : Nm) (t : St) : Int × St :=
  match fget x t.fs with
  | some f => if x = y then (0, t) else (0, { t with fs := fdel x (fput (y, f.2.1, f.2.2) (fdel y t.fs)) })
  | none => (2, t)
def unl1 (x : Nm) (t : St) : Int × St :=
  match fget x t.fs with
  | some _ => (0, { t with fs := fdel x t.fs })
  | none => (2, t)
def stAppend (x : Nm) (b : List Int) (t : St) : Int × St := doing (okN x) t (app1 x b)
def stSync (x : Nm) (t : St) : Int × St := doing (okN x) t (sync1 x)
def stRename (x y : Nm) (t : St) : Int × St := doing (okN x && okN y) t (ren1 x y)
def stUnlink (x : Nm) (t : St) : Int × St := doing (okN x) t (unl1 x)
def stRead (x : Nm) (t : St) : Int × List Int :=
  if t.off then (5, []) else if okN x then (match fget x t.fs with | some f => (0, f.2.1) | none => (2, [])) else (1, [])
def stFail (n : Int) (t : St) : Int × St := if n < 0 then (1, t) else (0, { t with fail := some n.toNat })
def stArm (n : Int) (t : St) : Int × St := if n < 0 then (1, t) else (0, { t with arm := some n.toNat })
/-- how many bytes of a file stay -/
def stays (k : Int) (f : Fil) : Nat := f.2.2 + (min (max k 0) ((f.2.1.length - f.2.2 : Nat) : Int)).toNat
def crash1 (k : Int) (f : Fil) : Fil := (f.1, f.2.1.take (stays k f), stays k f)
def crashTo (i : Nat) (ks : List Int) (fs : List Fil) : List Fil := fs.mapIdx fun j f => if j < i then crash1 (ks.getD j 0) f else f
def stCrash (ks : List Int) (t : St) : St := { t with fs := crashTo t.fs.length ks t.fs, off := false, fail := none, arm := none }

/-- what holds of every disk -/
structure Good (t : St) : Prop where
  room1 : 1 ≤ t.room
  room2 : t.room ≤ 16777216
  fits : total t.fs ≤ t.room
  up : Up Prod.fst t.fs
  name : ∀ f ∈ t.fs, okN f.1 = true
  synced : ∀ f ∈ t.fs, f.2.2 ≤ f.2.1.length
  byte : ∀ f ∈ t.fs, ∀ c ∈ f.2.1, 0 ≤ c ∧ c ≤ 255
end Go.Proofs.YtgmpdifggaggdaaGreatDoor.Dk

namespace Go.Proofs.YtgmpdifggaggdaaGreatDoor.Dk

theorem total_cons (f : Fil) (fs : List Fil) : total (f :: fs) = f.2.1.length + total fs := by simp [total]
theorem total_perm {a b : List Fil} (h : a.Perm b) : total a = total b := by
  unfold total
  exact (h.map _).sum_nat
theorem perm_at {α : Type} {key : α → Nm} {l : List α} (h : Up key l) {e : α} (he : e ∈ l) : l.Perm (e :: del key (key e) l) := by
  induction l with
  | nil => simp at he
  | cons y r ih =>
    obtain ⟨h1, h2⟩ := List.pairwise_cons.1 h
    by_cases hy : key y = key e
    · obtain rfl : y = e := h.inj (by simp) he hy
      have : del key (key y) (y :: r) = r := by
        unfold del
        rw [List.filter_cons_of_neg (by simp), List.filter_eq_self]
        intro a ha
        have := before_ne (h1 a ha)
        simp
        exact fun h => this h.symm
      rw [this]
    · have hd : del key (key e) (y :: r) = y :: del key (key e) r := by
        unfold del
        rw [List.filter_cons_of_pos (by simpa using hy)]
      rw [hd]
      rcases List.mem_cons.1 he with rfl | he
      · exact absurd rfl hy
      · exact ((ih h2 he).cons y).trans (List.Perm.swap _ _ _)
theorem total_put (f : Fil) (fs : List Fil) : total (fput f fs) = f.2.1.length + total (fdel f.1 fs) := by
  rw [← total_cons]
  exact total_perm (ins_perm _ _)
theorem total_del {fs : List Fil} (h : Up Prod.fst fs) {x : Nm} {f : Fil} (hg : fget x fs = some f) : total fs = f.2.1.length + total (fdel x fs) := by
  obtain ⟨h1, h2⟩ := get_some hg
  rw [← total_cons]
  have := total_perm (perm_at h h1)
  rw [h2] at this
  exact this
theorem total_del_none {fs : List Fil} {x : Nm} (hg : fget x fs = none) : fdel x fs = fs := del_none hg
theorem total_del_le (fs : List Fil) (x : Nm) : total (fdel x fs) ≤ total fs := by
  unfold fdel del
  induction fs with
  | nil => simp
  | cons y r ih =>
    rw [List.filter_cons]
    split
    · rw [total_cons, total_cons]; omega
    · rw [total_cons]; omega
theorem mem_fput {f a : Fil} {fs : List Fil} : a ∈ fput f fs ↔ a = f ∨ (a ∈ fs ∧ a.1 ≠ f.1) := mem_put
theorem mem_fdel {a : Fil} {x : Nm} {fs : List Fil} : a ∈ fdel x fs ↔ a ∈ fs ∧ a.1 ≠ x := mem_del

theorem Good.chg {t : St} (h : Good t) : Good (chg t).2 := by
  unfold Dk.chg
  split
  · exact h
  · split
    · exact ⟨h.1, h.2, h.3, h.4, h.5, h.6, h.7⟩
    · split
      · exact ⟨h.1, h.2, h.3, h.4, h.5, h.6, h.7⟩
      · exact ⟨h.1, h.2, h.3, h.4, h.5, h.6, h.7⟩
theorem chg_same (t : St) : (Dk.chg t).2.room = t.room ∧ (Dk.chg t).2.fs = t.fs := by
  unfold Dk.chg
  split
  · exact ⟨rfl, rfl⟩
  · split
    · exact ⟨rfl, rfl⟩
    · split <;> exact ⟨rfl, rfl⟩
theorem Good.put {t : St} (h : Good t) (f : Fil) (hn : okN f.1 = true) (hs : f.2.2 ≤ f.2.1.length) (hb : ∀ c ∈ f.2.1, 0 ≤ c ∧ c ≤ 255) (ht : total (fput f t.fs) ≤ t.room) : Good { t with fs := fput f t.fs } := by
  refine ⟨h.1, h.2, ht, h.up.put f, ?_, ?_, ?_⟩
  · intro a ha
    rcases mem_fput.1 ha with rfl | ⟨ha, _⟩
    · exact hn
    · exact h.name a ha
  · intro a ha
    rcases mem_fput.1 ha with rfl | ⟨ha, _⟩
    · exact hs
    · exact h.synced a ha
  · intro a ha
    rcases mem_fput.1 ha with rfl | ⟨ha, _⟩
    · exact hb
    · exact h.byte a ha
theorem Good.del {t : St} (h : Good t) (x : Nm) : Good { t with fs := fdel x t.fs } := by
  refine ⟨h.1, h.2, Nat.le_trans (total_del_le _ _) h.3, h.up.del x, ?_, ?_, ?_⟩
  · intro a ha
    exact h.name a (mem_fdel.1 ha).1
  · intro a ha
    exact h.synced a (mem_fdel.1 ha).1
  · intro a ha
    exact h.byte a (mem_fdel.1 ha).1
/-- the files behind an Append that is made -/
def appFs (x : Nm) (b : List Int) (fs : List Fil) : List Fil := match fget x fs with | some f => fput (x, f.2.1 ++ b, f.2.2) fs | none => fput (x, b, 0) fs
theorem total_app {t : St} (h : Good t) (x : Nm) (b : List Int) : total (appFs x b t.fs) = total t.fs + b.length := by
  unfold appFs
  cases hg : fget x t.fs with
  | none => simp only; rw [total_put, total_del_none hg]; simp only; omega
  | some f =>
    simp only
    rw [total_put, total_del h.up hg]
    simp only [List.length_append]
    omega
theorem Good.app {t : St} (h : Good t) (x : Nm) (b : List Int) (hx : okN x = true) (hb : ∀ c ∈ b, 0 ≤ c ∧ c ≤ 255) (hr : total t.fs + b.length ≤ t.room) : Good { t with fs := appFs x b t.fs } := by
  have ht := total_app h x b
  unfold appFs at ht ⊢
  cases hg : fget x t.fs with
  | none =>
    rw [hg] at ht
    simp only at ht ⊢
    exact h.put (x, b, 0) hx (by simp) hb (by omega)
  | some f =>
    rw [hg] at ht
    simp only at ht ⊢
    obtain ⟨h1, h2⟩ := get_some hg
    refine h.put (x, f.2.1 ++ b, f.2.2) hx ?_ ?_ (by omega)
    · have := h.synced f h1
      simp
      omega
    · intro c hc
      rcases List.mem_append.1 hc with hc | hc
      · exact h.byte f h1 c hc
      · exact hb c hc
theorem Good.sync {t : St} (h : Good t) {x : Nm} {f : Fil} (hg : fget x t.fs = some f) : Good { t with fs := fput (x, f.2.1, f.2.1.length) t.fs } := by
  obtain ⟨h1, h2⟩ := get_some hg
  refine h.put (x, f.2.1, f.2.1.length) (by rw [← h2]; exact h.name f h1) (Nat.le_refl _) (h.byte f h1) ?_
  rw [total_put]
  have := total_del h.up hg
  have := h.3
  simp only
  omega
theorem total_sync {t : St} (h : Good t) {x : Nm} {f : Fil} (hg : fget x t.fs = some f) (k : Nat) : total (fput (x, f.2.1, k) t.fs) = total t.fs := by
  rw [total_put]
  have := total_del h.up hg
  simp only
  omega
/-- the files behind a Rename that is made -/
theorem total_ren {t : St} (h : Good t) {x y : Nm} {f : Fil} (hg : fget x t.fs = some f) (hxy : x ≠ y) : total (fdel x (fput (y, f.2.1, f.2.2) (fdel y t.fs))) = total (fdel y t.fs) := by
  have h1 : fget x (fput (y, f.2.1, f.2.2) (fdel y t.fs)) = some f := by
    have hu : Up Prod.fst (fput (y, f.2.1, f.2.2) (fdel y t.fs)) := (h.up.del y).put _
    obtain ⟨h1, h2⟩ := get_some hg
    have hm : f ∈ fput (y, f.2.1, f.2.2) (fdel y t.fs) := mem_fput.2 (.inr ⟨mem_fdel.2 ⟨h1, by rw [h2]; exact hxy⟩, by rw [h2]; exact hxy⟩)
    have := get_mem hu hm
    rw [h2] at this
    exact this
  have h2 : total (fput (y, f.2.1, f.2.2) (fdel y t.fs)) = f.2.1.length + total (fdel x (fput (y, f.2.1, f.2.2) (fdel y t.fs))) := total_del ((h.up.del y).put (y, f.2.1, f.2.2)) h1
  have h3 := total_put (y, f.2.1, f.2.2) (fdel y t.fs)
  have h4 : fdel y (fdel y t.fs) = fdel y t.fs := by
    unfold fdel del
    rw [List.filter_filter]
    congr 1
    funext a
    simp
  simp only [h4] at h3
  rw [h3] at h2
  omega
theorem Good.ren {t : St} (h : Good t) {x y : Nm} {f : Fil} (hg : fget x t.fs = some f) (hxy : x ≠ y) (hy : okN y = true) : Good { t with fs := fdel x (fput (y, f.2.1, f.2.2) (fdel y t.fs)) } := by
  have ht := total_ren h hg hxy
  have hl := total_del_le t.fs y
  have h3 := h.3
  obtain ⟨h1, h2⟩ := get_some hg
  refine ⟨h.1, h.2, ?_, ((h.up.del y).put _).del x, ?_, ?_, ?_⟩
  · simp only; omega
  · intro a ha
    rcases mem_fput.1 (mem_fdel.1 ha).1 with rfl | ⟨ha, _⟩
    · exact hy
    · exact h.name a (mem_fdel.1 ha).1
  · intro a ha
    rcases mem_fput.1 (mem_fdel.1 ha).1 with rfl | ⟨ha, _⟩
    · exact h.synced f h1
    · exact h.synced a (mem_fdel.1 ha).1
  · intro a ha
    rcases mem_fput.1 (mem_fdel.1 ha).1 with rfl | ⟨ha, _⟩
    · exact h.byte f h1
    · exact h.byte a (mem_fdel.1 ha).1
end Go.Proofs.YtgmpdifggaggdaaGreatDoor.Dk
