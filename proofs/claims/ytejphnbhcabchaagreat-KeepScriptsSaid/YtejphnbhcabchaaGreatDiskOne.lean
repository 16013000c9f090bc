/-
  Several texts in one: Layer 4 in memory: which blocks a call may have changed (Fr), the disk's block (Dsk), the map of its files. Conditions: as each theorem states. The plain mathematics of layer 4: a disk as a list of files by rising names, what each call makes of it, and the same list as a map's datum. No condition but those that each theorem states. Which names the program, and the document, take for valid. Conditions: the names can be read in memory. Schedules of faults: fault, Fail, Arm, Off and Size of the program's disk. Conditions: the disk lies in memory as it was made. What holds of a disk holds of it behind each call: names rise, sizes fit, what is synced is there. No condition but those that each theorem states. The program's disk in memory (Im): its block, the map of its files, their bytes; what looking up, storing and deleting in that map do. Conditions: as each theorem states. Unlink of the program's disk, and how a file is let go of. Conditions: the disk lies in memory as it was made (Im). Read and Names of the program's disk, and bytes.Clone. Conditions: the disk lies in memory as it was made (Im). What a crash leaves of a file. Conditions: the file's bytes can be read. What a crash makes of the files, one by one. Conditions: the disk lies in memory as it was made (Im). Crash of the program's disk. Conditions: the disk lies in memory as it was made (Im), keep can be read and is none of its blocks. Append of the program's disk. Conditions: the disk lies in memory as it was made (Im), the bytes can be read. Append of the program's disk: the walks. Conditions: the disk lies in memory as it was made (Im), the bytes can be read. Append of the program's disk: the method. Conditions: the disk lies in memory as it was made (Im), the bytes can be read. Rename of the program's disk. Conditions: the disk lies in memory as it was made (Im). Sync and Unlink of the program's disk. Conditions: the disk lies in memory as it was made (Im). The program's disk, made behind a world (Sn): what each method answers, and leaves. Conditions: as each theorem states.
-/
import Derived.Test.YtejphnbhcabchaaGreatFieldBase
import Derived.Maps.OwnSet
import Derived.Sort.KeysCollected
import Derived.Great.BuildSlice
import Derived.Shelf.Abstract
import Derived.Test.YtejphnbhcabchaaGreatIter
import Derived.Lib.LazyBuf
import Derived.BigQuiet
import Derived.Deep.RegionWith
namespace Go.Proofs.YtejphnbhcabchaaGreat.Dk
open Go.RowKit Go.Proofs.YtejphnbhcabchaaGreat.Fld

/-- of the blocks that were there, those on the list alone may have changed -/
structure Fr (S : List Nat) (w w' : World) : Prop where
  os : w'.os = w.os
  tape : w'.tape = w.tape
  output : w'.output = w.output
  size : w.heap.size ≤ w'.heap.size
  block : ∀ k, k < w.heap.size → k ∉ S → w'.heap[k]? = w.heap[k]?
theorem Fr.refl (S : List Nat) (w : World) : Fr S w w := ⟨rfl, rfl, rfl, Nat.le_refl _, fun _ _ _ => rfl⟩
theorem Fr.trans {S S' : List Nat} {a b c : World} (h : Fr S a b) (k : Fr S' b c) (hs : ∀ i ∈ S', i ∈ S ∨ a.heap.size ≤ i) : Fr S a c :=
  ⟨k.os.trans h.os, k.tape.trans h.tape, k.output.trans h.output, Nat.le_trans h.size k.size, fun i hi hg => (k.block i (Nat.lt_of_lt_of_le hi h.size) (fun hm => by rcases hs i hm with h | h; exact hg h; omega)).trans (h.block i hi hg)⟩
theorem Fr.same {S : List Nat} {a b c : World} (h : Fr S a b) (k : Fr S b c) : Fr S a c := h.trans k fun _ hi => .inl hi
theorem Fr.mono {S S' : List Nat} {a b : World} (h : Fr S a b) (hs : ∀ i ∈ S, i ∈ S') : Fr S' a b := ⟨h.os, h.tape, h.output, h.size, fun k hk hn => h.block k hk (fun hm => hn (hs k hm))⟩
theorem Fr.alloc {S : List Nat} {a w : World} (h : Fr S a w) (o : Obj) : Fr S a (w.alloc o) :=
  h.same ⟨rfl, rfl, rfl, by simp, fun k hk _ => Below.heap_alloc _ _ _ hk⟩
theorem Fr.setCell {S : List Nat} {a w : World} (h : Fr S a w) (p : Addr) (hp : p.block ∈ S ∨ a.heap.size ≤ p.block) (u : Value) : Fr S a (w.setCell p u) := by
  refine ⟨h.os, h.tape, h.output, by simpa [World.setCell] using h.size, fun k hk hg => ?_⟩
  rw [Below.heap_setCell _ _ _ _ (by rintro rfl; rcases hp with hp | hp; exact hg hp; omega)]
  exact h.block k hk hg
theorem Fr.below {S : List Nat} {w w' : World} (h : Below w.heap.size w w') : Fr S w w' := ⟨h.os, h.tape, h.output, h.size, fun k hk _ => h.block k hk⟩
theorem Fr.to_below {S : List Nat} {w0 w w' : World} (h : Below w0.heap.size w0 w) (hc : Fr S w w') (hg : ∀ i ∈ S, w0.heap.size ≤ i) : Below w0.heap.size w0 w' :=
  h.trans ⟨hc.os, hc.tape, hc.output, hc.size, fun k hk => hc.block k (by have := h.size; omega) (fun hm => by have := hg k hm; omega)⟩
theorem Fr.drew {S : List Nat} {a w : World} (h : Fr S a w) : Fr S a w.drew := ⟨h.os, h.tape, h.output, h.size, h.block⟩
theorem Fr.grown {S : List Nat} {a w w' : World} {row : Option Nat} (h : Fr S a w) (hg : w.grownBy w' row) (hr : ∀ i, row = some i → i ∈ S ∨ a.heap.size ≤ i) : Fr S a w' :=
  ⟨hg.os.trans h.os, hg.tape.trans h.tape, hg.output.trans h.output, Nat.le_trans h.size hg.size, fun k hk hn => (hg.block k (Nat.lt_of_lt_of_le hk h.size) (by rintro rfl; rcases hr k rfl with h | h; exact hn h; omega)).trans (h.block k hk hn)⟩
theorem Fr.turned {S : List Nat} {a w w' : World} {b : Nat} (h : Fr S a w) (hg : w.mapTurned w' b) (hr : b ∈ S ∨ a.heap.size ≤ b) : Fr S a w' := h.grown hg.grown (fun i hi => by cases hi; exact hr)

/-- block g holds a disk's fields -/
def Dsk (w : World) (g : Nat) (room : Int) (b : Nat) (size : Int) (off fs : Bool) (fl : Int) (ag : Bool) (al : Int) : Prop :=
  w.heap[g]? = some (.cells #[.int .i64 room, .map (some b), .int .i64 size, .bool off, .bool fs, .int .i64 fl, .bool ag, .int .i64 al] 73 (0, 0))
/-- block r holds the fields of the document's own disk -/
def Dsr (w : World) (r : Nat) (room : Int) (A : Option Addr) (n cap : Nat) (fl al : Int) (down : Bool) : Prop :=
  w.heap[r]? = some (.cells #[.int .i64 room, .slice A n cap, .int .i64 fl, .int .i64 al, .bool down] 57 (0, 0))

def goodRoom (room : Int) : Bool := decide (1 ≤ room) && decide (room ≤ 16777216)

set_option maxHeartbeats 800000 in
theorem new_ok (room : Int) (w : World) (h1 : 1 ≤ room) (h2 : room ≤ 16777216) : Calls Tryz.prog 9 #[.int .i64 room] w fun e w' =>
    ∃ b g, e = .returned (.tuple #[.pointer (some ⟨g, 0, none⟩), .int .i64 0]) ∧ w.heap.size ≤ b ∧ w.heap.size ≤ g ∧ b ≠ g ∧ w'.heap[b]? = some (.map #[] 0) ∧ Dsk w' g room b 0 false false 0 false 0 ∧ Below w.heap.size w w' := by
  have hmm := @run_makeMap Tryz.prog
  have d1 : decide (room < 1) = false := by simp; omega
  have d2 : decide (16777216 < room) = false := by simp; omega
  go_enter Tryz.func9, Tryz.ntmps9
  go_wp2
  go_ret2
  exact ⟨w.heap.size, w.heap.size + 1, rfl, Nat.le_refl _, by omega, by omega, (Below.heap_alloc _ _ _ (by simp)).trans (heap_alloc_new w _), by have := heap_alloc_new (w.alloc (.map #[] 0)) (.cells #[.int .i64 room, .map (some w.heap.size), .int .i64 0, .bool false, .bool false, .int .i64 0, .bool false, .int .i64 0] 73); simpa [Dsk] using this, ((Below.refl _ w).alloc (Nat.le_refl _) _).alloc (by simp) _⟩
theorem new_bad (room : Int) (w : World) (h : room < 1 ∨ 16777216 < room) : Calls Tryz.prog 9 #[.int .i64 room] w fun e w' =>
    e = .returned (.tuple #[.pointer none, .int .i64 1]) ∧ w = w' := by
  rcases Int.lt_or_le room 1 with h1 | h1
  · have d1 : decide (room < 1) = true := by simp; omega
    go_enter Tryz.func9, Tryz.ntmps9
    go_wp2
    go_ret2
    exact ⟨rfl, rfl⟩
  · have d1 : decide (room < 1) = false := by simp; omega
    have d2 : decide (16777216 < room) = true := by simp; omega
    go_enter Tryz.func9, Tryz.ntmps9
    go_wp2
    go_ret2
    exact ⟨rfl, rfl⟩
theorem rnew_ok (room : Int) (w : World) (h1 : 1 ≤ room) (h2 : room ≤ 16777216) : Calls Tryz.prog 10 #[.int .i64 room] w fun e w' =>
    ∃ r, e = .returned (.tuple #[.pointer (some ⟨r, 0, none⟩), .int .i64 0]) ∧ w.heap.size ≤ r ∧ Dsr w' r room none 0 0 (-1) (-1) false ∧ Below w.heap.size w w' := by
  have d1 : decide (room < 1) = false := by simp; omega
  have d2 : decide (16777216 < room) = false := by simp; omega
  go_enter Tryz.func10, Tryz.ntmps10
  go_wp2
  go_ret2
  exact ⟨w.heap.size, rfl, Nat.le_refl _, heap_alloc_new w _, (Below.refl _ w).alloc (Nat.le_refl _) _⟩
theorem rnew_bad (room : Int) (w : World) (h : room < 1 ∨ 16777216 < room) : Calls Tryz.prog 10 #[.int .i64 room] w fun e w' =>
    e = .returned (.tuple #[.pointer none, .int .i64 1]) ∧ w = w' := by
  rcases Int.lt_or_le room 1 with h1 | h1
  · have d1 : decide (room < 1) = true := by simp; omega
    go_enter Tryz.func10, Tryz.ntmps10
    go_wp2
    go_ret2
    exact ⟨rfl, rfl⟩
  · have d1 : decide (room < 1) = false := by simp; omega
    have d2 : decide (16777216 < room) = true := by simp; omega
    go_enter Tryz.func10, Tryz.ntmps10
    go_wp2
    go_ret2
    exact ⟨rfl, rfl⟩

end Go.Proofs.YtejphnbhcabchaaGreat.Dk

namespace Go.Proofs.YtejphnbhcabchaaGreat.Dk

abbrev Nm := List UInt8
abbrev Fil := Nm × List Int × Nat
/-- an entry of the map: the name, the slice, its bytes, how many of them are synced -/
structure Ent where
  nm : Nm
  v : Value
  zs : List Int
  s : Nat
def Ent.fil (e : Ent) : Fil := (e.nm, e.zs, e.s)
def Ent.val (e : Ent) : Value := .agg #[e.v, .int .i64 (e.s : Int)]
/-- the disk -/
structure St where
  room : Nat
  fs : List Fil
  off : Bool
  fail : Option Nat
  arm : Option Nat

def okC (c : UInt8) : Bool := (decide (97 ≤ c.toNat) && decide (c.toNat ≤ 122)) || (decide (48 ≤ c.toNat) && decide (c.toNat ≤ 57)) || decide (c.toNat = 46) || decide (c.toNat = 45)
def okN (x : Nm) : Bool := decide (1 ≤ x.length) && decide (x.length ≤ 64) && x.all okC

def total (fs : List Fil) : Nat := (fs.map fun f => f.2.1.length).sum

/-! ### lists by rising names, of whatever is named -/
section
variable {α : Type} (key : α → Nm)
def ins (e : α) : List α → List α
  | [] => [e]
  | y :: r => if bytesBefore (key e) (key y) then e :: y :: r else y :: ins e r
def del (x : Nm) (l : List α) : List α := l.filter fun e => !(key e == x)
def put (e : α) (l : List α) : List α := ins key e (del key (key e) l)
def get (x : Nm) (l : List α) : Option α := l.find? fun e => key e == x
def Up (l : List α) : Prop := l.Pairwise fun a b => bytesBefore (key a) (key b) = true
variable {key}
theorem before_ne {a b : Nm} (h : bytesBefore a b = true) : a ≠ b := by rintro rfl; rw [WideAt.bytes_irrefl] at h; cases h
theorem before_asym {a b : Nm} (h : bytesBefore a b = true) : bytesBefore b a = false := by
  cases h' : bytesBefore b a
  · rfl
  · have := WideShapes.bytes_trans _ _ _ h h'; rw [WideAt.bytes_irrefl] at this; cases this
theorem mem_ins {e : α} : ∀ {l : List α} {a : α}, a ∈ ins key e l ↔ a = e ∨ a ∈ l
  | [], a => by simp [ins]
  | y :: r, a => by
    unfold ins
    split
    · simp
    · simp only [List.mem_cons, mem_ins (l := r)]
      constructor
      · rintro (h | h | h)
        · exact .inr (.inl h)
        · exact .inl h
        · exact .inr (.inr h)
      · rintro (h | h | h)
        · exact .inr (.inl h)
        · exact .inl h
        · exact .inr (.inr h)
theorem ins_perm (e : α) : ∀ l : List α, (ins key e l).Perm (e :: l)
  | [] => List.Perm.refl _
  | y :: r => by
    unfold ins
    split
    · exact List.Perm.refl _
    · exact ((ins_perm e r).cons y).trans (List.Perm.swap _ _ _)
theorem Up.ins {e : α} : ∀ {l : List α}, Up key l → (∀ a ∈ l, key a ≠ key e) → Up key (ins key e l)
  | [], _, _ => by simp [Dk.ins, Up]
  | y :: r, h, hne => by
    have h' := h
    obtain ⟨h1, h2⟩ := List.pairwise_cons.1 h
    unfold Dk.ins
    split
    · rename_i hb
      refine List.pairwise_cons.2 ⟨fun a ha => ?_, h'⟩
      rcases List.mem_cons.1 ha with rfl | ha
      · exact hb
      · exact WideShapes.bytes_trans _ _ _ hb (h1 a ha)
    · rename_i hb
      refine List.pairwise_cons.2 ⟨fun a ha => ?_, Up.ins h2 (fun a ha => hne a (by simp [ha]))⟩
      rcases mem_ins.1 ha with rfl | ha
      · rcases WideAt.bytes_total _ _ (hne y (by simp)) with h | h
        · exact h
        · exact absurd h hb
      · exact h1 a ha
theorem Up.del {l : List α} (h : Up key l) (x : Nm) : Up key (del key x l) := h.filter _
theorem mem_del {l : List α} {x : Nm} {a : α} : a ∈ del key x l ↔ a ∈ l ∧ key a ≠ x := by simp [del]
theorem Up.put {l : List α} (h : Up key l) (e : α) : Up key (put key e l) := (h.del _).ins fun _ ha => (mem_del.1 ha).2
theorem mem_put {l : List α} {e a : α} : a ∈ put key e l ↔ a = e ∨ (a ∈ l ∧ key a ≠ key e) := by rw [put, mem_ins, mem_del]
theorem Up.inj {l : List α} (h : Up key l) {a b : α} (ha : a ∈ l) (hb : b ∈ l) (he : key a = key b) : a = b := by
  induction l with
  | nil => simp at ha
  | cons y r ih =>
    obtain ⟨h1, h2⟩ := List.pairwise_cons.1 h
    rcases List.mem_cons.1 ha with ea | ha' <;> rcases List.mem_cons.1 hb with eb | hb'
    · rw [ea, eb]
    · subst ea; exact absurd he (before_ne (h1 b hb'))
    · subst eb; exact absurd he.symm (before_ne (h1 a ha'))
    · exact ih h2 ha' hb'
theorem get_some {l : List α} {x : Nm} {e : α} (h : get key x l = some e) : e ∈ l ∧ key e = x := by
  have h1 := List.mem_of_find?_eq_some h
  have h2 := List.find?_some h
  exact ⟨h1, by simpa using h2⟩
theorem get_none {l : List α} {x : Nm} (h : get key x l = none) : ∀ a ∈ l, key a ≠ x := by
  intro a ha
  have := List.find?_eq_none.1 h a ha
  simpa using this
theorem get_mem {l : List α} (h : Up key l) {e : α} (he : e ∈ l) : get key (key e) l = some e := by
  cases hg : get key (key e) l with
  | none => exact absurd rfl (get_none hg e he)
  | some e' => obtain ⟨h1, h2⟩ := get_some hg; rw [h.inj h1 he h2]
theorem del_none {l : List α} {x : Nm} (h : get key x l = none) : del key x l = l := by
  unfold del
  rw [List.filter_eq_self]
  intro a ha
  simpa using get_none h a ha
theorem filter_ins (p : α → Bool) (e : α) (hp : p e = true) : ∀ {l : List α}, Up key l → (ins key e l).filter p = ins key e (l.filter p)
  | [], _ => by simp [ins, hp]
  | y :: r, h => by
    obtain ⟨h1, h2⟩ := List.pairwise_cons.1 h
    unfold ins
    by_cases hb : bytesBefore (key e) (key y) = true
    · rw [if_pos hb, List.filter_cons_of_pos hp]
      cases hf : (y :: r).filter p with
      | nil => rfl
      | cons z q =>
        have hz : z ∈ y :: r := (List.mem_filter.1 (show z ∈ (y :: r).filter p by rw [hf]; simp)).1
        have : bytesBefore (key e) (key z) = true := by
          rcases List.mem_cons.1 hz with rfl | hz
          · exact hb
          · exact WideShapes.bytes_trans _ _ _ hb (h1 z hz)
        show _ = ins key e (z :: q)
        rw [ins, if_pos this]
    · rw [if_neg hb]
      by_cases hy : p y = true
      · rw [List.filter_cons_of_pos hy, List.filter_cons_of_pos hy, filter_ins p e hp h2]
        show _ = ins key e (y :: List.filter p r)
        rw [ins, if_neg hb]
      · rw [List.filter_cons_of_neg hy, List.filter_cons_of_neg hy, filter_ins p e hp h2]
        cases List.filter p r <;> rfl
/-- a file that is there is put in its own place -/
theorem put_at {l : List α} (h : Up key l) (e : α) (i : Nat) (hi : i < l.length) (hk : key l[i] = key e) : put key e l = l.set i e := by
  induction l generalizing i with
  | nil => simp at hi
  | cons y r ih =>
    obtain ⟨h1, h2⟩ := List.pairwise_cons.1 h
    cases i with
    | zero =>
      simp only [List.getElem_cons_zero] at hk
      have hd : del key (key e) (y :: r) = r := by
        unfold del
        rw [List.filter_cons_of_neg (by simp [hk]), List.filter_eq_self]
        intro a ha
        have := before_ne (h1 a ha)
        simp [← hk]
        exact fun h => this h.symm
      rw [put, hd, List.set_cons_zero]
      cases r with
      | nil => rfl
      | cons z q => rw [ins, if_pos (by rw [← hk]; exact h1 z (by simp))]
    | succ i =>
      simp only [List.getElem_cons_succ] at hk
      have hb : bytesBefore (key y) (key e) = true := by rw [← hk]; exact h1 _ (List.getElem_mem _)
      have hd : del key (key e) (y :: r) = y :: del key (key e) r := by
        unfold del
        rw [List.filter_cons_of_pos (by simpa using before_ne hb)]
      rw [put, hd, ins, if_neg (by rw [before_asym hb]; simp), List.set_cons_succ]
      have := ih h2 i (by simpa using hi) hk
      rw [put] at this
      rw [this]
end

/-! ### one list's names are the other's -/
section
variable {α β : Type} {k1 : α → Nm} {k2 : β → Nm} (f : α → β) (hf : ∀ a, k2 (f a) = k1 a)
include hf
theorem map_ins (e : α) : ∀ l : List α, (ins k1 e l).map f = ins k2 (f e) (l.map f)
  | [] => rfl
  | y :: r => by
    unfold ins
    simp only [List.map_cons, hf]
    split
    · simp
    · simp [map_ins e r]
theorem map_del (x : Nm) (l : List α) : (del k1 x l).map f = del k2 x (l.map f) := by
  unfold del
  rw [List.filter_map]
  congr 1
  apply List.filter_congr
  intro a _
  simp [hf]
theorem map_put (e : α) (l : List α) : (put k1 e l).map f = put k2 (f e) (l.map f) := by
  rw [put, put, map_ins f hf, map_del f hf, hf]
theorem map_get (x : Nm) (l : List α) : (get k1 x l).map f = get k2 x (l.map f) := by
  unfold get
  rw [List.find?_map]
  congr 2
  funext a
  simp [hf]
theorem map_up {l : List α} : Up k2 (l.map f) ↔ Up k1 l := by
  unfold Up
  rw [List.pairwise_map]
  simp [hf]
end

/-! ### the map's datum -/
def one (e : Ent) : Lit × DataW Value := (.string e.nm, .held e.val)
def dOf (m : List Ent) : DataW Value := .map (m.map one)
def R1 (v : Value) : Option (DataW Value × List MemPlace) := some (.held v, [])
theorem same_str (a b : Nm) : (Lit.string a).sameKey (.string b) = (a == b) := rfl
theorem dOf_has (m : List Ent) (x : Nm) : Maps.has (dOf m) (.string x) = (get Ent.nm x m).isSome := by
  unfold dOf get
  rw [Maps.has_eq]
  induction m with
  | nil => rfl
  | cons e r ih =>
    simp only [List.map_cons, List.any_cons, List.find?_cons, one, same_str] at ih ⊢
    cases h : (e.nm == x) <;> simp [ih]
theorem dOf_at (m : List Ent) (x : Nm) (z : Value) : (dOf m).atKey (.string x) (.held z) = .held (((get Ent.nm x m).map Ent.val).getD z) := by
  unfold dOf DataW.atKey get
  simp only [List.find?_map]
  have : ((fun p : Lit × DataW Value => p.1.sameKey (.string x)) ∘ one) = fun e : Ent => e.nm == x := rfl
  rw [this]
  cases List.find? (fun e : Ent => e.nm == x) m <;> rfl
theorem dOf_ins (e : Ent) : ∀ m : List Ent, DataW.insert (one e) (m.map one) = (ins Ent.nm e m).map one
  | [] => rfl
  | y :: r => by
    unfold ins
    simp only [List.map_cons]
    unfold DataW.insert
    have : (one e).1.before (one y).1 = bytesBefore e.nm y.nm := rfl
    rw [this]
    split
    · simp
    · simp [dOf_ins e r]
theorem dOf_del (m : List Ent) (x : Nm) : (dOf m).del (.string x) = dOf (del Ent.nm x m) := by
  show DataW.map ((m.map one).filter fun p => !p.1.sameKey (.string x)) = _
  unfold dOf del
  rw [List.filter_map]
  rfl
theorem dOf_put (m : List Ent) (e : Ent) : (dOf m).put (.string e.nm) (.held e.val) = dOf (put Ent.nm e m) := by
  show DataW.map (DataW.insert (one e) ((m.map one).filter _)) = _
  have h : ((m.map one).filter fun p => !p.1.sameKey (.string e.nm)) = (del Ent.nm e.nm m).map one := by
    unfold del
    rw [List.filter_map]
    rfl
  rw [h, dOf_ins]
  rfl
theorem dOf_size (m : List Ent) : Maps.size (dOf m) = m.length := by simp [dOf, Maps.size]
theorem dOf_keys (m : List Ent) : strKeys (dOf m) = m.map Ent.nm := by
  simp only [dOf, strKeys, List.map_map]
  rfl
theorem le_of_before : ∀ {a b : Nm}, bytesBefore a b = true → a ≤ b
  | [], b, _ => List.nil_le _
  | _ :: _, [], h => by simp [bytesBefore] at h
  | x :: r, y :: s, h => by
    simp only [bytesBefore, Bool.or_eq_true, Bool.and_eq_true, decide_eq_true_eq, beq_iff_eq] at h
    rcases h with h | ⟨rfl, h⟩
    · exact List.le_of_lt (List.Lex.rel h)
    · exact List.cons_le_cons_iff.2 (.inr ⟨rfl, le_of_before h⟩)
theorem sorted_keys {m : List Ent} (h : Up Ent.nm m) : (m.map Ent.nm).mergeSort (fun x y => decide (x ≤ y)) = m.map Ent.nm := by
  apply List.mergeSort_of_pairwise
  rw [List.pairwise_map]
  exact h.imp fun hb => by simpa using le_of_before hb

/-! ### what a disk does -/
def chg (t : St) : Int × St :=
  if t.off then (5, t)
  else if t.arm = some 0 then (5, { t with arm := none, off := true })
  else if t.fail = some 0 then (4, { t with arm := t.arm.map (· - 1), fail := none })
  else (0, { t with arm := t.arm.map (· - 1), fail := t.fail.map (· - 1) })
def doing (ok : Bool) (t : St) (f : St → Int × St) : Int × St :=
  if ok then (if (chg t).1 = 0 then f (chg t).2 else chg t) else (1, t)
def fget (x : Nm) (fs : List Fil) : Option Fil := get Prod.fst x fs
def fput (f : Fil) (fs : List Fil) : List Fil := put Prod.fst f fs
def fdel (x : Nm) (fs : List Fil) : List Fil := del Prod.fst x fs
def app1 (x : Nm) (b : List Int) (t : St) : Int × St :=
  if t.room < total t.fs + b.length then (3, t)
  else (0, { t with fs := match fget x t.fs with | some f => fput (x, f.2.1 ++ b, f.2.2) t.fs | none => fput (x, b, 0) t.fs })
def sync1 (x : Nm) (t : St) : Int × St :=
  match fget x t.fs with
  | some f => (0, { t with fs := fput (x, f.2.1, f.2.1.length) t.fs })
  | none => (2, t)
def ren1 (x y : Nm) (t : St) : Int × St :=
  match fget x t.fs with
  | some f => if x = y then (0, t) else (0, { t with fs := fdel x (fput (y, f.2.1, f.2.2) (fdel y t.fs)) })
  | none => (2, t)
def unl1 (x : Nm) (t : St) : Int × St :=
  match fget x t.fs with
  | some _ => (0, { t with fs := fdel x t.fs })
  | none => (2, t)
def stAppend (x : Nm) (b : List Int) (t : St) : Int × St := doing (okN x) t (app1 x b)
def stSync (x : Nm) (t : St) : Int × St := doing (okN x) t (sync1 x)
def stRename (x y : Nm) (t : St) : Int × St := doing (okN x && okN y) t (ren1 x y)
def stUnlink (x : Nm) (t : St) : Int × St := doing (okN x) t (unl1 x)
def stRead (x : Nm) (t : St) : Int × List Int :=
  if t.off then (5, []) else if okN x then (match fget x t.fs with | some f => (0, f.2.1) | none => (2, [])) else (1, [])
def stFail (n : Int) (t : St) : Int × St := if n < 0 then (1, t) else (0, { t with fail := some n.toNat })
def stArm (n : Int) (t : St) : Int × St := if n < 0 then (1, t) else (0, { t with arm := some n.toNat })
/-- how many bytes of a file stay -/
def stays (k : Int) (f : Fil) : Nat := f.2.2 + (min (max k 0) ((f.2.1.length - f.2.2 : Nat) : Int)).toNat
def crash1 (k : Int) (f : Fil) : Fil := (f.1, f.2.1.take (stays k f), stays k f)
def crashTo (i : Nat) (ks : List Int) (fs : List Fil) : List Fil := fs.mapIdx fun j f => if j < i then crash1 (ks.getD j 0) f else f
def stCrash (ks : List Int) (t : St) : St := { t with fs := crashTo t.fs.length ks t.fs, off := false, fail := none, arm := none }

/-- what holds of every disk -/
structure Good (t : St) : Prop where
  room1 : 1 ≤ t.room
  room2 : t.room ≤ 16777216
  fits : total t.fs ≤ t.room
  up : Up Prod.fst t.fs
  name : ∀ f ∈ t.fs, okN f.1 = true
  synced : ∀ f ∈ t.fs, f.2.2 ≤ f.2.1.length
  byte : ∀ f ∈ t.fs, ∀ c ∈ f.2.1, 0 ≤ c ∧ c ≤ 255
end Go.Proofs.YtejphnbhcabchaaGreat.Dk

namespace Go.Proofs.YtejphnbhcabchaaGreat.Dk
open Go.RowKit Go.Proofs.YtejphnbhcabchaaGreat.Fld

def okI (c : Int) : Bool := (decide (97 ≤ c) && decide (c ≤ 122)) || (decide (48 ≤ c) && decide (c ≤ 57)) || decide (c = 46) || decide (c = 45)
theorem okI_cast (c : UInt8) : okI (c.toNat : Int) = okC c := by
  unfold okI okC
  have e1 : (decide ((97 : Int) ≤ (c.toNat : Int))) = decide (97 ≤ c.toNat) := decide_eq_decide.2 (by omega)
  have e2 : (decide ((c.toNat : Int) ≤ 122)) = decide (c.toNat ≤ 122) := decide_eq_decide.2 (by omega)
  have e3 : (decide ((48 : Int) ≤ (c.toNat : Int))) = decide (48 ≤ c.toNat) := decide_eq_decide.2 (by omega)
  have e4 : (decide ((c.toNat : Int) ≤ 57)) = decide (c.toNat ≤ 57) := decide_eq_decide.2 (by omega)
  have e5 : (decide ((c.toNat : Int) = 46)) = decide (c.toNat = 46) := decide_eq_decide.2 (by omega)
  have e6 : (decide ((c.toNat : Int) = 45)) = decide (c.toNat = 45) := decide_eq_decide.2 (by omega)
  rw [e1, e2, e3, e4, e5, e6]
set_option maxHeartbeats 1600000 in
theorem sign_any (c : Int) (w : World) : Calls Tryz.prog 116 #[.int .u8 c] w fun e w' => e = .returned (.bool (okI c)) ∧ w = w' := by
  have e5 : (c == 46) = decide (c = 46) := rfl
  have e6 : (c == 45) = decide (c = 45) := rfl
  unfold okI
  cases d1 : decide (97 ≤ c) <;> cases d2 : decide (c ≤ 122) <;> cases d3 : decide (48 ≤ c) <;> cases d4 : decide (c ≤ 57) <;> cases d5 : decide (c = 46) <;> cases d6 : decide (c = 45) <;> (first | (exfalso; simp at d1 d2 d3 d4 d5 d6; omega) | skip)
  all_goals
    rw [d5] at e5
    rw [d6] at e6
    go_enter Tryz.func116, Tryz.ntmps116
    go_wp2
    go_ret
    exact ⟨rfl, rfl⟩

theorem all_take_succ (x : Nm) (k : Nat) (c : UInt8) (h : x[k]? = some c) : (x.take (k + 1)).all okC = ((x.take k).all okC && okC c) := by
  rw [List.take_add_one, h]
  simp
theorem all_false (x : Nm) (k : Nat) (c : UInt8) (h : x[k]? = some c) (hc : okC c = false) : okN x = false := by
  have : x.all okC = false := by
    rw [List.all_eq_false]
    exact ⟨c, List.mem_of_getElem? h, by simp [hc]⟩
  simp [okN, this]
theorem okN_eq (x : Nm) (h : x.all okC = true) : okN x = (decide (1 ≤ x.length) && decide (x.length ≤ 64)) := by simp [okN, h]
theorem len_data (s : ByteArray) : s.data.toList.length = s.size := by simp
theorem at_data (s : ByteArray) (k : Nat) (h : k < s.size) : s.data.toList[k]? = some s[k] := by
  rw [Array.getElem?_toList]
  exact Array.getElem?_eq_getElem h
set_option maxRecDepth 100000 in
set_option maxHeartbeats 3200000 in
theorem isname_any (s : ByteArray) (w : World) (hs : s.size ≤ maxLen) : Calls Tryz.prog 86 #[.string s] w fun e w' => e = .returned (.bool (okN s.data.toList)) ∧ w = w' := by
  unfold maxLen at hs
  obtain ⟨B, hB⟩ : ∃ B, okN s.data.toList = B := ⟨_, rfl⟩
  have HB := Lib.hid hB
  rw [hB]
  clear hB
  go_enter Tryz.func86, Tryz.ntmps86
  go_wp2
  go_loop [3] (fun i => ∃ k : Nat, k ≤ s.size ∧ i = .int .i64 k ∧ (s.data.toList.take k).all okC = true) (fun i => s.size - (intOf i).toNat)
  case atStart => exact ⟨0, Nat.zero_le _, rfl, rfl⟩
  case round =>
    obtain ⟨k, hk, rfl, hall⟩ := hrel
    have HA := Lib.hid hall
    clear hall
    by_cases hlt : k < s.size
    · have HD := Lib.hid (at_data s k hlt)
      obtain ⟨u, hu⟩ : ∃ u : UInt8, s[k] = u := ⟨_, rfl⟩
      have HC := Lib.hid (okI_cast u)
      rw [hu] at HD
      obtain ⟨c, hc⟩ : ∃ c : Int, (u.toNat : Int) = c := ⟨_, rfl⟩
      rw [hc] at HC
      have e5 : (c == 46) = decide (c = 46) := rfl
      have e6 : (c == 45) = decide (c = 45) := rfl
      unfold okI at HC
      cases d1 : decide (97 ≤ c) <;> cases d2 : decide (c ≤ 122) <;> cases d3 : decide (48 ≤ c) <;> cases d4 : decide (c ≤ 57) <;> cases d5 : decide (c = 46) <;> cases d6 : decide (c = 45) <;> (first | (exfalso; simp at d1 d2 d3 d4 d5 d6; omega) | skip)
      all_goals
        rw [d5] at e5
        rw [d6] at e6
        rw [d1, d2, d3, d4, d5, d6] at HC
        clear d5 d6
        go_wp2
        first
        | (go_roundw
           case rel => exact ⟨k + 1, by omega, by go_num, by rw [all_take_succ _ k u HD.out, HA.out, ← HC.out]; rfl⟩
           case measure => simp [intOf]; omega)
        | (go_ret; exact ⟨by rw [← HB.out, all_false _ k u HD.out HC.out.symm]; rfl, rfl⟩)
    · obtain rfl : k = s.size := by omega
      have h2 := HB.out
      rw [okN_eq _ (by have := HA.out; rwa [← len_data, List.take_length] at this), len_data] at h2
      have j1 : decide ((1 : Int) ≤ (s.size : Int)) = decide (1 ≤ s.size) := decide_eq_decide.2 (by omega)
      have j2 : decide ((s.size : Int) ≤ 64) = decide (s.size ≤ 64) := decide_eq_decide.2 (by omega)
      cases d1 : decide (1 ≤ s.size) <;> cases d2 : decide (s.size ≤ 64) <;> rw [d1, d2] at h2 <;> subst h2 <;> rw [d1] at j1 <;> rw [d2] at j2
      all_goals
        go_wp2
        go_ret
        exact ⟨rfl, rfl⟩

/-- a slice of strings -/
def RdS (w : World) (A : Option Addr) (n : Nat) (ss : List ByteArray) : Prop :=
  ss.length = n ∧ n ≤ 1000000000 ∧ (0 < n → ∃ b off, A = some ⟨b, off, none⟩ ∧ ∀ i, i < n → w.cell? ⟨b, off + i, none⟩ = some (.string (ss.getD i ⟨#[]⟩)))
def allN (ss : List ByteArray) : Bool := ss.all fun s => okN s.data.toList
theorem allN_succ (ss : List ByteArray) (k : Nat) (h : k < ss.length) : allN (ss.take (k + 1)) = (allN (ss.take k) && okN (ss.getD k ⟨#[]⟩).data.toList) := by
  unfold allN
  rw [List.getD_eq_getElem?_getD, List.getElem?_eq_getElem h, Option.getD_some, List.take_add_one, List.getElem?_eq_getElem h, List.all_append]
  simp
theorem allN_false (ss : List ByteArray) (k : Nat) (h : k < ss.length) (hf : okN (ss.getD k ⟨#[]⟩).data.toList = false) : allN ss = false := by
  unfold allN
  rw [List.all_eq_false]
  exact ⟨ss.getD k ⟨#[]⟩, by rw [List.getD_eq_getElem?_getD, List.getElem?_eq_getElem h]; simp, by rw [hf]; simp⟩
theorem short_false (x : Nm) (h : x.length < 1 ∨ 64 < x.length) : okN x = false := by
  unfold okN
  rcases h with h | h
  · rw [show decide (1 ≤ x.length) = false from decide_eq_false (by omega)]; rfl
  · rw [show decide (x.length ≤ 64) = false from decide_eq_false (by omega)]; simp
theorem okN_true (x : Nm) (h1 : 1 ≤ x.length) (h2 : x.length ≤ 64) (h : x.all okC = true) : okN x = true := by
  rw [okN_eq x h]; simp; omega
set_option maxRecDepth 100000 in
set_option maxHeartbeats 3200000 in
theorem valid_any (A : Option Addr) (n cap : Nat) (ss : List ByteArray) (w : World) (hr : RdS w A n ss) : Calls Tryz.prog 84 #[.slice A n cap] w fun e w' => e = .returned (.bool (allN ss)) ∧ w = w' := by
  obtain ⟨hl, hm, hc⟩ := hr
  obtain ⟨B, hB⟩ : ∃ B, allN ss = B := ⟨_, rfl⟩
  have HB := Lib.hid hB
  have HL := Lib.hid hl
  have HC := Lib.hid hc
  rw [hB]
  clear hB hl hc
  go_enter Tryz.func84, Tryz.ntmps84
  go_wp2
  go_loop [8] (fun i => ∃ k : Nat, k ≤ n ∧ i = .int .i64 k ∧ allN (ss.take k) = true) (fun i => n - (intOf i).toNat)
  case atStart => exact ⟨0, Nat.zero_le _, rfl, rfl⟩
  case round =>
    obtain ⟨k, hk, rfl, hall⟩ := hrel
    have HA := Lib.hid hall
    clear hall
    by_cases hlt : k < n
    · obtain ⟨b, off, rfl, hcell⟩ := HC.out (by omega)
      have hc := hcell k hlt
      clear hcell
      have HS := Lib.hid (allN_succ ss k (by rw [HL.out]; exact hlt))
      have HF := Lib.hid (allN_false ss k (by rw [HL.out]; exact hlt))
      generalize ss.getD k ⟨#[]⟩ = s at *
      by_cases h1 : s.size < 1
      · have j1 : decide ((s.size : Int) < 1) = true := by simp; omega
        go_wp2
        go_ret
        exact ⟨by rw [← HB.out, HF.out (short_false _ (.inl (by rw [len_data]; exact h1)))]; rfl, rfl⟩
      · have j1 : decide ((s.size : Int) < 1) = false := by simp; omega
        by_cases h2 : 64 < s.size
        · have j2 : decide (64 < (s.size : Int)) = true := by simp; omega
          go_wp2
          go_ret
          exact ⟨by rw [← HB.out, HF.out (short_false _ (.inr (by rw [len_data]; exact h2)))]; rfl, rfl⟩
        · have j2 : decide (64 < (s.size : Int)) = false := by simp; omega
          go_wp2
          go_loop [22] (fun i => ∃ j : Nat, j ≤ s.size ∧ i = .int .i64 j ∧ (s.data.toList.take j).all okC = true) (fun i => s.size - (intOf i).toNat)
          case atStart => exact ⟨0, Nat.zero_le _, rfl, rfl⟩
          case round =>
            obtain ⟨j, hj, rfl, hall2⟩ := hrel
            have HA2 := Lib.hid hall2
            clear hall2
            by_cases hlt2 : j < s.size
            · have HD := Lib.hid (at_data s j hlt2)
              obtain ⟨u, hu⟩ : ∃ u : UInt8, s[j] = u := ⟨_, rfl⟩
              have HO := Lib.hid (okI_cast u)
              rw [hu] at HD
              obtain ⟨c, hc⟩ : ∃ c : Int, (u.toNat : Int) = c := ⟨_, rfl⟩
              rw [hc] at HO
              have hsg := Lib.hid (sign_any c w)
              cases ho : okI c <;> rw [ho] at HO hsg
              · go_wp2_with (go_at_call 116; refine hsg.out.mono ?_; rintro e w' ⟨rfl, rfl⟩)
                go_ret
                exact ⟨by rw [← HB.out, HF.out (all_false _ j u HD.out HO.out.symm)]; rfl, rfl⟩
              · go_wp2_with (go_at_call 116; refine hsg.out.mono ?_; rintro e w' ⟨rfl, rfl⟩)
                go_roundw
                case rel => exact ⟨j + 1, by omega, by go_num, by rw [all_take_succ _ j u HD.out, HA2.out, ← HO.out]; rfl⟩
                case measure => simp [intOf]; omega
            · obtain rfl : j = s.size := by omega
              have HT := Lib.hid (okN_true s.data.toList (by rw [len_data]; omega) (by rw [len_data]; omega) (by have := HA2.out; rwa [← len_data, List.take_length] at this))
              go_wp2
              go_roundw
              case rel => exact ⟨k + 1, by omega, by go_num, by rw [HS.out, HA.out, HT.out]; rfl⟩
              case measure => simp [intOf]; omega
    · obtain rfl : k = n := by omega
      have HT := Lib.hid (show B = true by rw [← HB.out]; have := HA.out; rwa [← HL.out, List.take_length] at this)
      go_wp2
      go_ret
      exact ⟨by rw [HT.out]; rfl, rfl⟩
end Go.Proofs.YtejphnbhcabchaaGreat.Dk

namespace Go.Proofs.YtejphnbhcabchaaGreat.Dk
open Go.RowKit Go.Proofs.YtejphnbhcabchaaGreat.Fld

theorem Dsk.cells {w : World} {g : Nat} {room : Int} {b : Nat} {size : Int} {off fs : Bool} {fl : Int} {ag : Bool} {al : Int} (h : Dsk w g room b size off fs fl ag al) :
    w.cell? ⟨g, 0, none⟩ = some (.int .i64 room) ∧ w.cell? ⟨g, 1, none⟩ = some (.map (some b)) ∧ w.cell? ⟨g, 2, none⟩ = some (.int .i64 size) ∧ w.cell? ⟨g, 3, none⟩ = some (.bool off) ∧
    w.cell? ⟨g, 4, none⟩ = some (.bool fs) ∧ w.cell? ⟨g, 5, none⟩ = some (.int .i64 fl) ∧ w.cell? ⟨g, 6, none⟩ = some (.bool ag) ∧ w.cell? ⟨g, 7, none⟩ = some (.int .i64 al) :=
  ⟨by rw [cell_of_row w g 0 _ _ (0, 0) h]; rfl, by rw [cell_of_row w g 1 _ _ (0, 0) h]; rfl, by rw [cell_of_row w g 2 _ _ (0, 0) h]; rfl, by rw [cell_of_row w g 3 _ _ (0, 0) h]; rfl,
   by rw [cell_of_row w g 4 _ _ (0, 0) h]; rfl, by rw [cell_of_row w g 5 _ _ (0, 0) h]; rfl, by rw [cell_of_row w g 6 _ _ (0, 0) h]; rfl, by rw [cell_of_row w g 7 _ _ (0, 0) h]; rfl⟩
theorem Dsk.free {w : World} {g : Nat} {room : Int} {b : Nat} {size : Int} {off fs : Bool} {fl : Int} {ag : Bool} {al : Int} (h : Dsk w g room b size off fs fl ag al) (i : Nat) : w.frozen? ⟨g, i, none⟩ = false := frozen_of_row w g i _ _ h
theorem Dsk.lt {w : World} {g : Nat} {room : Int} {b : Nat} {size : Int} {off fs : Bool} {fl : Int} {ag : Bool} {al : Int} (h : Dsk w g room b size off fs fl ag al) : g < w.heap.size := by
  rcases Nat.lt_or_ge g w.heap.size with h' | h'
  · exact h'
  · unfold Dsk at h; rw [Array.getElem?_eq_none h'] at h; cases h
section
variable {w : World} {g : Nat} {room : Int} {b : Nat} {size : Int} {off fs : Bool} {fl : Int} {ag : Bool} {al : Int}
theorem Dsk.set2 (h : Dsk w g room b size off fs fl ag al) (x : Int) : Dsk (w.setCell ⟨g, 2, none⟩ (.int .i64 x)) g room b x off fs fl ag al := heap_setCell_same w g 2 _ _ _ h
theorem Dsk.set3 (h : Dsk w g room b size off fs fl ag al) (x : Bool) : Dsk (w.setCell ⟨g, 3, none⟩ (.bool x)) g room b size x fs fl ag al := heap_setCell_same w g 3 _ _ _ h
theorem Dsk.set4 (h : Dsk w g room b size off fs fl ag al) (x : Bool) : Dsk (w.setCell ⟨g, 4, none⟩ (.bool x)) g room b size off x fl ag al := heap_setCell_same w g 4 _ _ _ h
theorem Dsk.set5 (h : Dsk w g room b size off fs fl ag al) (x : Int) : Dsk (w.setCell ⟨g, 5, none⟩ (.int .i64 x)) g room b size off fs x ag al := heap_setCell_same w g 5 _ _ _ h
theorem Dsk.set6 (h : Dsk w g room b size off fs fl ag al) (x : Bool) : Dsk (w.setCell ⟨g, 6, none⟩ (.bool x)) g room b size off fs fl x al := heap_setCell_same w g 6 _ _ _ h
theorem Dsk.set7 (h : Dsk w g room b size off fs fl ag al) (x : Int) : Dsk (w.setCell ⟨g, 7, none⟩ (.int .i64 x)) g room b size off fs fl ag x := heap_setCell_same w g 7 _ _ _ h
theorem Dsk.of_block {w' : World} (h : Dsk w g room b size off fs fl ag al) (hb : w'.heap[g]? = w.heap[g]?) : Dsk w' g room b size off fs fl ag al := hb.trans h
end
/-- the disk's block, told by the state -/
def DskT (w : World) (g b : Nat) (t : St) : Prop := Dsk w g (t.room : Int) b (total t.fs : Nat) t.off t.fail.isSome ((t.fail.getD 0 : Nat) : Int) t.arm.isSome ((t.arm.getD 0 : Nat) : Int)

set_option maxRecDepth 100000 in
set_option maxHeartbeats 3200000 in
theorem fault_any (g b : Nat) (t : St) (w : World) (h : DskT w g b t) (hf : ∀ k, t.fail = some k → k ≤ 9223372036854775807) (ha : ∀ k, t.arm = some k → k ≤ 9223372036854775807) :
    Calls Tryz.prog 85 #[.pointer (some ⟨g, 0, none⟩)] w fun e w' => e = .returned (.int .i64 (chg t).1) ∧ DskT w' g b (chg t).2 ∧ Fr [g] w w' := by
  obtain ⟨room, fs, off, fail, arm⟩ := t
  unfold DskT at h
  simp only at h hf ha
  have HD := Lib.hid h
  obtain ⟨c0, c1, c2, c3, c4, c5, c6, c7⟩ := h.cells
  have f3 := h.free 3
  have f4 := h.free 4
  have f5 := h.free 5
  have f6 := h.free 6
  have f7 := h.free 7
  clear h
  cases off with
  | true =>
    go_enter Tryz.func85, Tryz.ntmps85
    go_wp2
    go_ret
    exact ⟨rfl, HD.out, Fr.refl _ _⟩
  | false =>
    rcases arm with _ | _ | a
    · rcases fail with _ | _ | k
      · go_enter Tryz.func85, Tryz.ntmps85
        go_wp2
        go_ret
        exact ⟨rfl, HD.out, Fr.refl _ _⟩
      · go_enter Tryz.func85, Tryz.ntmps85
        go_wp2
        go_ret
        exact ⟨rfl, (HD.out.set4 false).set5 0, ((Fr.refl _ _).setCell _ (.inl (by simp)) _).setCell _ (.inl (by simp)) _⟩
      · have hk := hf _ rfl
        have j1 : (0 : Int) < ((k + 1 : Nat) : Int) := by omega
        go_enter Tryz.func85, Tryz.ntmps85
        go_wp2
        go_ret
        exact ⟨rfl, HD.out.set5 _, ((Fr.refl _ _).setCell _ (.inl (by simp)) _)⟩
    · go_enter Tryz.func85, Tryz.ntmps85
      go_wp2
      go_ret
      exact ⟨rfl, ((HD.out.set6 false).set7 0).set3 true, (((Fr.refl _ _).setCell _ (.inl (by simp)) _).setCell _ (.inl (by simp)) _).setCell _ (.inl (by simp)) _⟩
    · have hka := ha _ rfl
      have j2 : (0 : Int) < ((a + 1 : Nat) : Int) := by omega
      rcases fail with _ | _ | k
      · go_enter Tryz.func85, Tryz.ntmps85
        go_wp2
        go_ret
        exact ⟨rfl, HD.out.set7 _, ((Fr.refl _ _).setCell _ (.inl (by simp)) _)⟩
      · go_enter Tryz.func85, Tryz.ntmps85
        go_wp2
        go_ret
        exact ⟨rfl, ((HD.out.set7 _).set4 false).set5 0, (((Fr.refl _ _).setCell _ (.inl (by simp)) _).setCell _ (.inl (by simp)) _).setCell _ (.inl (by simp)) _⟩
      · have hk := hf _ rfl
        have j1 : (0 : Int) < ((k + 1 : Nat) : Int) := by omega
        go_enter Tryz.func85, Tryz.ntmps85
        go_wp2
        go_ret
        exact ⟨rfl, (HD.out.set7 _).set5 _, ((Fr.refl _ _).setCell _ (.inl (by simp)) _).setCell _ (.inl (by simp)) _⟩
theorem fail_any (g b : Nat) (t : St) (n : Int) (w : World) (h : DskT w g b t) :
    Calls Tryz.prog 15 #[.pointer (some ⟨g, 0, none⟩), .int .i64 n] w fun e w' => e = .returned (.int .i64 (stFail n t).1) ∧ DskT w' g b (stFail n t).2 ∧ Fr [g] w w' := by
  have HD := Lib.hid h
  obtain ⟨c0, c1, c2, c3, c4, c5, c6, c7⟩ := Dsk.cells h
  have f4 := Dsk.free h 4
  have f5 := Dsk.free h 5
  clear h
  by_cases hn : n < 0
  · have e1 : stFail n t = (1, t) := by unfold stFail; rw [if_pos hn]
    rw [e1]
    clear e1
    go_enter Tryz.func15, Tryz.ntmps15
    go_wp2
    go_ret
    exact ⟨rfl, HD.out, Fr.refl _ _⟩
  · have e1 : stFail n t = (0, { t with fail := some n.toNat }) := by unfold stFail; rw [if_neg hn]
    rw [e1]
    have e : ((n.toNat : Nat) : Int) = n := by omega
    have HE := Lib.hid e
    clear e e1
    go_enter Tryz.func15, Tryz.ntmps15
    go_wp2
    go_ret
    refine ⟨rfl, ?_, ((Fr.refl _ _).setCell _ (.inl (by simp)) _).setCell _ (.inl (by simp)) _⟩
    have := (Dsk.set4 HD.out true).set5 n
    unfold DskT
    simp only [Option.isSome_some, Option.getD_some, HE.out]
    exact this
theorem arm_any (g b : Nat) (t : St) (n : Int) (w : World) (h : DskT w g b t) :
    Calls Tryz.prog 17 #[.pointer (some ⟨g, 0, none⟩), .int .i64 n] w fun e w' => e = .returned (.int .i64 (stArm n t).1) ∧ DskT w' g b (stArm n t).2 ∧ Fr [g] w w' := by
  have HD := Lib.hid h
  obtain ⟨c0, c1, c2, c3, c4, c5, c6, c7⟩ := Dsk.cells h
  have f4 := Dsk.free h 6
  have f5 := Dsk.free h 7
  clear h
  by_cases hn : n < 0
  · have e1 : stArm n t = (1, t) := by unfold stArm; rw [if_pos hn]
    rw [e1]
    clear e1
    go_enter Tryz.func17, Tryz.ntmps17
    go_wp2
    go_ret
    exact ⟨rfl, HD.out, Fr.refl _ _⟩
  · have e1 : stArm n t = (0, { t with arm := some n.toNat }) := by unfold stArm; rw [if_neg hn]
    rw [e1]
    have e : ((n.toNat : Nat) : Int) = n := by omega
    have HE := Lib.hid e
    clear e e1
    go_enter Tryz.func17, Tryz.ntmps17
    go_wp2
    go_ret
    refine ⟨rfl, ?_, ((Fr.refl _ _).setCell _ (.inl (by simp)) _).setCell _ (.inl (by simp)) _⟩
    have := (Dsk.set6 HD.out true).set7 n
    unfold DskT
    simp only [Option.isSome_some, Option.getD_some, HE.out]
    exact this
theorem off_any (g b : Nat) (t : St) (w : World) (h : DskT w g b t) : Calls Tryz.prog 28 #[.pointer (some ⟨g, 0, none⟩)] w fun e w' => e = .returned (.bool t.off) ∧ w = w' := by
  obtain ⟨c0, c1, c2, c3, c4, c5, c6, c7⟩ := Dsk.cells h
  clear h
  go_enter Tryz.func28, Tryz.ntmps28
  go_wp2
  go_ret
  exact ⟨rfl, rfl⟩
theorem size_any (g b : Nat) (t : St) (w : World) (h : DskT w g b t) : Calls Tryz.prog 29 #[.pointer (some ⟨g, 0, none⟩)] w fun e w' => e = .returned (.int .i64 (total t.fs : Nat)) ∧ w = w' := by
  obtain ⟨c0, c1, c2, c3, c4, c5, c6, c7⟩ := Dsk.cells h
  clear h
  go_enter Tryz.func29, Tryz.ntmps29
  go_wp2
  go_ret
  exact ⟨rfl, rfl⟩

/-- a modification that is not made: a name is wrong -/
theorem modify_name (g A n cap : Nat) (fn : Value) (ss : List ByteArray) (w : World) (hr : RdS w (some ⟨A, 0, none⟩) n ss) (hv : allN ss = false) :
    Calls Tryz.prog 45 #[.pointer (some ⟨g, 0, none⟩), fn, .slice (some ⟨A, 0, none⟩) n cap] w fun e w' => e = .returned (.int .i64 1) ∧ w = w' := by
  have HV := Lib.hid (valid_any _ n cap ss w hr)
  rw [hv] at HV
  clear hr hv
  go_enter Tryz.func45, Tryz.ntmps45
  go_wp2_with (go_at_call 84; refine HV.out.mono ?_; rintro e w' ⟨rfl, rfl⟩)
  go_ret
  exact ⟨rfl, rfl⟩
/-- .. a fault is ahead of it -/
theorem modify_fault (g b A n cap : Nat) (t : St) (fn : Value) (ss : List ByteArray) (w : World) (h : DskT w g b t) (hf : ∀ k, t.fail = some k → k ≤ 9223372036854775807) (ha : ∀ k, t.arm = some k → k ≤ 9223372036854775807) (hr : RdS w (some ⟨A, 0, none⟩) n ss) (hv : allN ss = true) (h0 : (chg t).1 ≠ 0) :
    Calls Tryz.prog 45 #[.pointer (some ⟨g, 0, none⟩), fn, .slice (some ⟨A, 0, none⟩) n cap] w fun e w' => e = .returned (.int .i64 (chg t).1) ∧ DskT w' g b (chg t).2 ∧ Fr [g] w w' := by
  have HV := Lib.hid (valid_any _ n cap ss w hr)
  rw [hv] at HV
  have HF := Lib.hid (fault_any g b t w h hf ha)
  generalize (chg t).2 = t' at *
  generalize (chg t).1 = c at *
  have j : (c == 0) = false := by simpa using h0
  clear h hr hv
  go_enter Tryz.func45, Tryz.ntmps45
  go_wp2_with (first | (go_at_call 84; refine HV.out.mono ?_; rintro e w' ⟨rfl, rfl⟩) | (go_at_call 85; refine HF.out.mono ?_; rintro e w' ⟨rfl, hD, hF⟩; have HD1 := Lib.hid hD; have HF1 := Lib.hid hF; clear hD hF))
  go_ret
  exact ⟨rfl, HD1.out, HF1.out⟩
/-- .. it is made -/
theorem modify_made (g b A n cap K : Nat) (caps : Array Value) (hen : ∀ w, (callFunc K caps).run Tryz.prog w = .ok (.enter K caps) w) (t : St) (ss : List ByteArray) (w : World) (h : DskT w g b t) (hf : ∀ k, t.fail = some k → k ≤ 9223372036854775807) (ha : ∀ k, t.arm = some k → k ≤ 9223372036854775807) (hr : RdS w (some ⟨A, 0, none⟩) n ss) (hv : allN ss = true) (h0 : (chg t).1 = 0)
    (Q : Int → World → Prop) (hc : ∀ w', DskT w' g b (chg t).2 → Fr [g] w w' → Calls Tryz.prog K caps w' fun e w2 => ∃ r, e = .returned (.int .i64 r) ∧ Q r w2) :
    Calls Tryz.prog 45 #[.pointer (some ⟨g, 0, none⟩), .func (.func K) #[] caps, .slice (some ⟨A, 0, none⟩) n cap] w fun e w2 => ∃ r, e = .returned (.int .i64 r) ∧ Q r w2 := by
  have HV := Lib.hid (valid_any _ n cap ss w hr)
  rw [hv] at HV
  have HF := Lib.hid (fault_any g b t w h hf ha)
  have HC := Lib.hid hc
  rw [h0] at HF
  clear h hr hv hc
  go_enter Tryz.func45, Tryz.ntmps45
  go_wp2_with (first | (go_at_call 84; refine HV.out.mono ?_; rintro e w' ⟨rfl, rfl⟩) | (go_at_call 85; refine HF.out.mono ?_; rintro e w1 ⟨rfl, hD, hF⟩; have HC1 := Lib.hid (HC.out w1 hD hF); clear hD hF))
  refine HC1.out.mono ?_
  rintro e w2 ⟨r, rfl, hQ⟩
  have HQ := Lib.hid hQ
  clear hQ
  go_wp2
  go_ret
  exact ⟨r, rfl, HQ.out⟩
end Go.Proofs.YtejphnbhcabchaaGreat.Dk

namespace Go.Proofs.YtejphnbhcabchaaGreat.Dk

theorem total_cons (f : Fil) (fs : List Fil) : total (f :: fs) = f.2.1.length + total fs := by simp [total]
theorem total_perm {a b : List Fil} (h : a.Perm b) : total a = total b := by
  unfold total
  exact (h.map _).sum_nat
theorem perm_at {α : Type} {key : α → Nm} {l : List α} (h : Up key l) {e : α} (he : e ∈ l) : l.Perm (e :: del key (key e) l) := by
  induction l with
  | nil => simp at he
  | cons y r ih =>
    obtain ⟨h1, h2⟩ := List.pairwise_cons.1 h
    by_cases hy : key y = key e
    · obtain rfl : y = e := h.inj (by simp) he hy
      have : del key (key y) (y :: r) = r := by
        unfold del
        rw [List.filter_cons_of_neg (by simp), List.filter_eq_self]
        intro a ha
        have := before_ne (h1 a ha)
        simp
        exact fun h => this h.symm
      rw [this]
    · have hd : del key (key e) (y :: r) = y :: del key (key e) r := by
        unfold del
        rw [List.filter_cons_of_pos (by simpa using hy)]
      rw [hd]
      rcases List.mem_cons.1 he with rfl | he
      · exact absurd rfl hy
      · exact ((ih h2 he).cons y).trans (List.Perm.swap _ _ _)
theorem total_put (f : Fil) (fs : List Fil) : total (fput f fs) = f.2.1.length + total (fdel f.1 fs) := by
  rw [← total_cons]
  exact total_perm (ins_perm _ _)
theorem total_del {fs : List Fil} (h : Up Prod.fst fs) {x : Nm} {f : Fil} (hg : fget x fs = some f) : total fs = f.2.1.length + total (fdel x fs) := by
  obtain ⟨h1, h2⟩ := get_some hg
  rw [← total_cons]
  have := total_perm (perm_at h h1)
  rw [h2] at this
  exact this
theorem total_del_none {fs : List Fil} {x : Nm} (hg : fget x fs = none) : fdel x fs = fs := del_none hg
theorem total_del_le (fs : List Fil) (x : Nm) : total (fdel x fs) ≤ total fs := by
  unfold fdel del
  induction fs with
  | nil => simp
  | cons y r ih =>
    rw [List.filter_cons]
    split
    · rw [total_cons, total_cons]; omega
    · rw [total_cons]; omega
theorem mem_fput {f a : Fil} {fs : List Fil} : a ∈ fput f fs ↔ a = f ∨ (a ∈ fs ∧ a.1 ≠ f.1) := mem_put
theorem mem_fdel {a : Fil} {x : Nm} {fs : List Fil} : a ∈ fdel x fs ↔ a ∈ fs ∧ a.1 ≠ x := mem_del

theorem Good.chg {t : St} (h : Good t) : Good (chg t).2 := by
  unfold Dk.chg
  split
  · exact h
  · split
    · exact ⟨h.1, h.2, h.3, h.4, h.5, h.6, h.7⟩
    · split
      · exact ⟨h.1, h.2, h.3, h.4, h.5, h.6, h.7⟩
      · exact ⟨h.1, h.2, h.3, h.4, h.5, h.6, h.7⟩
theorem chg_same (t : St) : (Dk.chg t).2.room = t.room ∧ (Dk.chg t).2.fs = t.fs := by
  unfold Dk.chg
  split
  · exact ⟨rfl, rfl⟩
  · split
    · exact ⟨rfl, rfl⟩
    · split <;> exact ⟨rfl, rfl⟩
theorem Good.put {t : St} (h : Good t) (f : Fil) (hn : okN f.1 = true) (hs : f.2.2 ≤ f.2.1.length) (hb : ∀ c ∈ f.2.1, 0 ≤ c ∧ c ≤ 255) (ht : total (fput f t.fs) ≤ t.room) : Good { t with fs := fput f t.fs } := by
  refine ⟨h.1, h.2, ht, h.up.put f, ?_, ?_, ?_⟩
  · intro a ha
    rcases mem_fput.1 ha with rfl | ⟨ha, _⟩
    · exact hn
    · exact h.name a ha
  · intro a ha
    rcases mem_fput.1 ha with rfl | ⟨ha, _⟩
    · exact hs
    · exact h.synced a ha
  · intro a ha
    rcases mem_fput.1 ha with rfl | ⟨ha, _⟩
    · exact hb
    · exact h.byte a ha
theorem Good.del {t : St} (h : Good t) (x : Nm) : Good { t with fs := fdel x t.fs } := by
  refine ⟨h.1, h.2, Nat.le_trans (total_del_le _ _) h.3, h.up.del x, ?_, ?_, ?_⟩
  · intro a ha
    exact h.name a (mem_fdel.1 ha).1
  · intro a ha
    exact h.synced a (mem_fdel.1 ha).1
  · intro a ha
    exact h.byte a (mem_fdel.1 ha).1
/-- the files behind an Append that is made -/
def appFs (x : Nm) (b : List Int) (fs : List Fil) : List Fil := match fget x fs with | some f => fput (x, f.2.1 ++ b, f.2.2) fs | none => fput (x, b, 0) fs
theorem total_app {t : St} (h : Good t) (x : Nm) (b : List Int) : total (appFs x b t.fs) = total t.fs + b.length := by
  unfold appFs
  cases hg : fget x t.fs with
  | none => simp only; rw [total_put, total_del_none hg]; simp only; omega
  | some f =>
    simp only
    rw [total_put, total_del h.up hg]
    simp only [List.length_append]
    omega
theorem Good.app {t : St} (h : Good t) (x : Nm) (b : List Int) (hx : okN x = true) (hb : ∀ c ∈ b, 0 ≤ c ∧ c ≤ 255) (hr : total t.fs + b.length ≤ t.room) : Good { t with fs := appFs x b t.fs } := by
  have ht := total_app h x b
  unfold appFs at ht ⊢
  cases hg : fget x t.fs with
  | none =>
    rw [hg] at ht
    simp only at ht ⊢
    exact h.put (x, b, 0) hx (by simp) hb (by omega)
  | some f =>
    rw [hg] at ht
    simp only at ht ⊢
    obtain ⟨h1, h2⟩ := get_some hg
    refine h.put (x, f.2.1 ++ b, f.2.2) hx ?_ ?_ (by omega)
    · have := h.synced f h1
      simp
      omega
    · intro c hc
      rcases List.mem_append.1 hc with hc | hc
      · exact h.byte f h1 c hc
      · exact hb c hc
theorem Good.sync {t : St} (h : Good t) {x : Nm} {f : Fil} (hg : fget x t.fs = some f) : Good { t with fs := fput (x, f.2.1, f.2.1.length) t.fs } := by
  obtain ⟨h1, h2⟩ := get_some hg
  refine h.put (x, f.2.1, f.2.1.length) (by rw [← h2]; exact h.name f h1) (Nat.le_refl _) (h.byte f h1) ?_
  rw [total_put]
  have := total_del h.up hg
  have := h.3
  simp only
  omega
theorem total_sync {t : St} (h : Good t) {x : Nm} {f : Fil} (hg : fget x t.fs = some f) (k : Nat) : total (fput (x, f.2.1, k) t.fs) = total t.fs := by
  rw [total_put]
  have := total_del h.up hg
  simp only
  omega
/-- the files behind a Rename that is made -/
theorem total_ren {t : St} (h : Good t) {x y : Nm} {f : Fil} (hg : fget x t.fs = some f) (hxy : x ≠ y) : total (fdel x (fput (y, f.2.1, f.2.2) (fdel y t.fs))) = total (fdel y t.fs) := by
  have h1 : fget x (fput (y, f.2.1, f.2.2) (fdel y t.fs)) = some f := by
    have hu : Up Prod.fst (fput (y, f.2.1, f.2.2) (fdel y t.fs)) := (h.up.del y).put _
    obtain ⟨h1, h2⟩ := get_some hg
    have hm : f ∈ fput (y, f.2.1, f.2.2) (fdel y t.fs) := mem_fput.2 (.inr ⟨mem_fdel.2 ⟨h1, by rw [h2]; exact hxy⟩, by rw [h2]; exact hxy⟩)
    have := get_mem hu hm
    rw [h2] at this
    exact this
  have h2 : total (fput (y, f.2.1, f.2.2) (fdel y t.fs)) = f.2.1.length + total (fdel x (fput (y, f.2.1, f.2.2) (fdel y t.fs))) := total_del ((h.up.del y).put (y, f.2.1, f.2.2)) h1
  have h3 := total_put (y, f.2.1, f.2.2) (fdel y t.fs)
  have h4 : fdel y (fdel y t.fs) = fdel y t.fs := by
    unfold fdel del
    rw [List.filter_filter]
    congr 1
    funext a
    simp
  simp only [h4] at h3
  rw [h3] at h2
  omega
theorem Good.ren {t : St} (h : Good t) {x y : Nm} {f : Fil} (hg : fget x t.fs = some f) (hxy : x ≠ y) (hy : okN y = true) : Good { t with fs := fdel x (fput (y, f.2.1, f.2.2) (fdel y t.fs)) } := by
  have ht := total_ren h hg hxy
  have hl := total_del_le t.fs y
  have h3 := h.3
  obtain ⟨h1, h2⟩ := get_some hg
  refine ⟨h.1, h.2, ?_, ((h.up.del y).put _).del x, ?_, ?_, ?_⟩
  · simp only; omega
  · intro a ha
    rcases mem_fput.1 (mem_fdel.1 ha).1 with rfl | ⟨ha, _⟩
    · exact hy
    · exact h.name a (mem_fdel.1 ha).1
  · intro a ha
    rcases mem_fput.1 (mem_fdel.1 ha).1 with rfl | ⟨ha, _⟩
    · exact h.synced f h1
    · exact h.synced a (mem_fdel.1 ha).1
  · intro a ha
    rcases mem_fput.1 (mem_fdel.1 ha).1 with rfl | ⟨ha, _⟩
    · exact h.byte f h1
    · exact h.byte a (mem_fdel.1 ha).1
end Go.Proofs.YtejphnbhcabchaaGreat.Dk

namespace Go.Proofs.YtejphnbhcabchaaGreat.Dk
open Go.RowKit Go.Proofs.YtejphnbhcabchaaGreat.Fld

def FileAt (w : World) (e : Ent) : Prop := Bytes e.zs ∧ w.ownsRow 0 5 1 e.v e.zs.length (by8 e.zs)
def blks (m : List Ent) : List Nat := m.filterMap fun e => e.v.ownBlock
structure Im (w : World) (g b : Nat) (m : List Ent) (t : St) : Prop where
  dsk : DskT w g b t
  own : w.ownsMap Tryz.prog 9 R1 b m.length (dOf m)
  fs : t.fs = m.map Ent.fil
  file : ∀ e ∈ m, FileAt w e
  nodup : (g :: b :: blks m).Nodup
  good : Good t
  fl : ∀ k, t.fail = some k → k ≤ 9223372036854775807
  al : ∀ k, t.arm = some k → k ≤ 9223372036854775807

theorem FileAt.lt {w : World} {e : Ent} (h : FileAt w e) {i : Nat} (hi : e.v.ownBlock = some i) : i < w.heap.size := by
  rcases h.2.2 with ⟨hv, _⟩ | ⟨q, cap, cur, hv, _, hb, _⟩
  · rw [hv] at hi; cases hi
  · rw [hv] at hi; cases hi; exact (Array.getElem?_eq_some_iff.1 hb).1
theorem FileAt.of_block {w w' : World} {e : Ent} (h : FileAt w e) (hb : ∀ i, e.v.ownBlock = some i → w'.heap[i]? = w.heap[i]?) : FileAt w' e := by
  obtain ⟨h1, h2, h3⟩ := h
  refine ⟨h1, h2, ?_⟩
  rcases h3 with h3 | ⟨q, cap, cur, hv, hg, hq, r⟩
  · exact .inl h3
  · exact .inr ⟨q, cap, cur, hv, hg, (hb q (by rw [hv]; rfl)).trans hq, r⟩
theorem own_of_block {w w' : World} {b n : Nat} {D : DataW Value} (h : w.ownsMap Tryz.prog 9 R1 b n D) (hb : w'.heap[b]? = w.heap[b]?) : w'.ownsMap Tryz.prog 9 R1 b n D := by
  obtain ⟨es, clock, h1, h2⟩ := h
  exact ⟨es, clock, hb.trans h1, h2⟩
theorem mem_blks {m : List Ent} {i : Nat} : i ∈ blks m ↔ ∃ e ∈ m, e.v.ownBlock = some i := by simp [blks]
theorem Im.lt {w : World} {g b : Nat} {m : List Ent} {t : St} (h : Im w g b m t) : ∀ i ∈ g :: b :: blks m, i < w.heap.size := by
  intro i hi
  simp only [List.mem_cons, mem_blks] at hi
  rcases hi with rfl | rfl | ⟨e, he, hv⟩
  · exact h.dsk.lt
  · exact h.own.lt
  · exact (h.file e he).lt hv
theorem Im.of_blocks {w w' : World} {g b : Nat} {m : List Ent} {t : St} (h : Im w g b m t) (hb : ∀ i ∈ g :: b :: blks m, w'.heap[i]? = w.heap[i]?) : Im w' g b m t :=
  ⟨Dsk.of_block h.dsk (hb g (by simp)), own_of_block h.own (hb b (by simp)), h.fs, fun e he => (h.file e he).of_block fun i hi => hb i (by simp only [List.mem_cons, mem_blks]; exact .inr (.inr ⟨e, he, hi⟩)), h.nodup, h.good, h.fl, h.al⟩
theorem Im.frame {S : List Nat} {w w' : World} {g b : Nat} {m : List Ent} {t : St} (h : Im w g b m t) (hf : Fr S w w') (hd : ∀ i ∈ S, i ∉ g :: b :: blks m) : Im w' g b m t :=
  h.of_blocks fun i hi => hf.block i (h.lt i hi) fun hs => hd i hs hi
theorem Im.below {w w' : World} {g b : Nat} {m : List Ent} {t : St} (h : Im w g b m t) (hb : Below w.heap.size w w') : Im w' g b m t := h.of_blocks fun i hi => hb.block i (h.lt i hi)

theorem keyed : Maps.Keyed Tryz.prog 9 := Maps.string_keyed Tryz.underlying9
def zeroF : Value := .agg #[.slice none 0 0, .int .i64 0]
theorem zeroF_run (w : World) : (zeroValue 82).run Tryz.prog w = .ok zeroF w := by kernel_rfl
def found (m : List Ent) (s : ByteArray) : Option Ent := get Ent.nm s.data.toList m
def foundV (m : List Ent) (s : ByteArray) : Value := ((found m s).map Ent.val).getD zeroF
theorem look2 {w : World} {b n : Nat} {m : List Ent} (h : w.ownsMap Tryz.prog 9 R1 b n (dOf m)) (s : ByteArray) (hs : s.size ≤ maxLen) :
    (Instr.lookup 69 (.map (some b)) (.string s) true).run Tryz.prog w = .ok (.tuple #[foundV m s, .bool (found m s).isSome]) w := by
  obtain ⟨v, ps, hrun, hv⟩ := h.look_ok keyed Tryz.underlying69 (zeroF_run w) (show R1 zeroF = some (.held zeroF, []) from rfl) (Go.WideMaps.keyOf_string_mk Tryz.underlying9 hs)
  rw [dOf_at, dOf_has] at *
  have : v = foundV m s := by
    unfold R1 at hv
    simp at hv
    exact hv.1
  rw [hrun, this]
  rfl
theorem look1 {w : World} {b n : Nat} {m : List Ent} (h : w.ownsMap Tryz.prog 9 R1 b n (dOf m)) (s : ByteArray) (hs : s.size ≤ maxLen) :
    (Instr.lookup 69 (.map (some b)) (.string s) false).run Tryz.prog w = .ok (foundV m s) w := by
  obtain ⟨v, ps, hrun, hv⟩ := h.lookup keyed Tryz.underlying69 (zeroF_run w) (show R1 zeroF = some (.held zeroF, []) from rfl) (Go.WideMaps.keyOf_string_mk Tryz.underlying9 hs)
  rw [dOf_at] at *
  have : v = foundV m s := by
    unfold R1 at hv
    simp at hv
    exact hv.1
  rw [hrun, this]
theorem tight {w : World} {b n : Nat} {m : List Ent} (h : w.ownsMap Tryz.prog 9 R1 b n (dOf m)) : w.ownsMap Tryz.prog 9 R1 b m.length (dOf m) := by
  obtain ⟨es, clock, h1, h2, h3, h4⟩ := h
  refine ⟨es, clock, h1, h2, ?_, h4⟩
  have := congrArg Maps.size h4
  rw [dOf_size] at this
  rw [this]
  simp [Maps.size, length_sorted]
theorem store1 {w : World} {b : Nat} {m : List Ent} (h : w.ownsMap Tryz.prog 9 R1 b m.length (dOf m)) (hm : m.length ≤ 1000000) (s : ByteArray) (hs : s.size ≤ maxLen) (e : Ent) (he : e.nm = s.data.toList) :
    ∃ w', (Instr.mapUpdate 69 (.map (some b)) (.string s) e.val).run Tryz.prog w = .ok () w' ∧ w'.ownsMap Tryz.prog 9 R1 b (put Ent.nm e m).length (dOf (put Ent.nm e m)) ∧ w.mapTurned w' b := by
  obtain ⟨w', h1, h2, h3⟩ := h.store keyed Tryz.underlying69 (by unfold maxLen; omega) (Go.WideMaps.keyOf_string_mk Tryz.underlying9 hs) (show R1 e.val = some (.held e.val, []) from rfl)
  rw [← he, dOf_put] at h2
  exact ⟨w', h1, tight h2, h3⟩
theorem drop1 {w : World} {b : Nat} {m : List Ent} (h : w.ownsMap Tryz.prog 9 R1 b m.length (dOf m)) (s : ByteArray) (hs : s.size ≤ maxLen) (ty : TypeId) :
    ∃ w', (Builtin.delete_ #[69, 9] ty #[.map (some b), .string s]).run Tryz.prog w = .ok (.tuple #[]) w' ∧ w'.ownsMap Tryz.prog 9 R1 b (del Ent.nm s.data.toList m).length (dOf (del Ent.nm s.data.toList m)) ∧ w.mapTurned w' b := by
  obtain ⟨w', h1, h2, h3⟩ := h.drop keyed Tryz.underlying69 (Go.WideMaps.keyOf_string_mk Tryz.underlying9 hs) ty
  rw [dOf_del] at h2
  exact ⟨w', h1, tight h2, h3⟩
theorem cell_past {w : World} {a : Addr} {v : Value} (h : w.cell? a = some v) (o : Obj) : (w.alloc o).cell? a = some v := (World.cell?_of_block (w := w) (Below.heap_alloc _ _ _ (lt_of_cell h))).trans h
theorem own_past {w : World} {b n : Nat} {D : DataW Value} (h : w.ownsMap Tryz.prog 9 R1 b n D) (o : Obj) : (w.alloc o).drew.ownsMap Tryz.prog 9 R1 b n D := (h.alloc o).drew

theorem blks_perm {a c : List Ent} (h : a.Perm c) : (blks a).Perm (blks c) := h.filterMap _
theorem blks_cons (e : Ent) (m : List Ent) : ∀ i, i ∈ blks (e :: m) ↔ e.v.ownBlock = some i ∨ i ∈ blks m := by
  intro i
  simp [mem_blks]
theorem blks_del {m : List Ent} {x : Nm} {i : Nat} (h : i ∈ blks (del Ent.nm x m)) : i ∈ blks m := by
  obtain ⟨e, he, hv⟩ := mem_blks.1 h
  exact mem_blks.2 ⟨e, (mem_del.1 he).1, hv⟩
theorem nodup_del {g b : Nat} {m : List Ent} (h : (g :: b :: blks m).Nodup) (x : Nm) : (g :: b :: blks (del Ent.nm x m)).Nodup := by
  refine h.sublist ?_
  exact ((List.filter_sublist.filterMap _).cons_cons b).cons_cons g
theorem nodup_put {g b : Nat} {m : List Ent} {e : Ent} (h : (g :: b :: blks m).Nodup) (hb : ∀ i, e.v.ownBlock = some i → i ∉ g :: b :: blks (del Ent.nm e.nm m)) : (g :: b :: blks (put Ent.nm e m)).Nodup := by
  have h1 := nodup_del h e.nm
  have hp : (blks (put Ent.nm e m)).Perm (blks (e :: del Ent.nm e.nm m)) := blks_perm (ins_perm _ _)
  rw [((hp.cons b).cons g).nodup_iff]
  cases hv : e.v.ownBlock with
  | none => simpa [blks, hv] using h1
  | some i =>
    have hi := hb i hv
    have hc : blks (e :: del Ent.nm e.nm m) = i :: blks (del Ent.nm e.nm m) := by simp [blks, hv]
    rw [hc]
    have : (i :: g :: b :: blks (del Ent.nm e.nm m)).Nodup := List.nodup_cons.2 ⟨hi, h1⟩
    refine (List.Perm.nodup_iff ?_).1 this
    exact ((List.Perm.swap g i _).trans ((List.Perm.swap b i _).cons g))
/-- the block of an entry is no other's -/
theorem apart {g b : Nat} {m : List Ent} {e : Ent} (h : (g :: b :: blks m).Nodup) (hu : Up Ent.nm m) (he : e ∈ m) {i : Nat} (hv : e.v.ownBlock = some i) : i ∉ g :: b :: blks (del Ent.nm e.nm m) := by
  have hp := ((blks_perm (perm_at hu he)).cons b).cons g
  rw [hp.nodup_iff] at h
  have hc : blks (e :: del Ent.nm e.nm m) = i :: blks (del Ent.nm e.nm m) := by simp [blks, hv]
  rw [hc] at h
  have h2 : (i :: g :: b :: blks (del Ent.nm e.nm m)).Nodup := by
    refine (List.Perm.nodup_iff ?_).2 h
    exact ((List.Perm.swap g i _).trans ((List.Perm.swap b i _).cons g))
  exact (List.nodup_cons.1 h2).1
theorem Im.up {w : World} {g b : Nat} {m : List Ent} {t : St} (h : Im w g b m t) : Up Ent.nm m := by
  have := h.good.up
  rw [h.fs] at this
  exact (map_up (k1 := Ent.nm) (k2 := Prod.fst) Ent.fil (fun _ => rfl)).1 this
theorem Im.get {w : World} {g b : Nat} {m : List Ent} {t : St} (h : Im w g b m t) (s : ByteArray) : fget s.data.toList t.fs = (found m s).map Ent.fil := by
  rw [h.fs]
  exact (map_get (k1 := Ent.nm) (k2 := Prod.fst) Ent.fil (fun _ => rfl) _ _).symm
theorem Im.len {w : World} {g b : Nat} {m : List Ent} {t : St} (h : Im w g b m t) : m.length = t.fs.length := by rw [h.fs]; simp
theorem Im.stored {w w' : World} {g b : Nat} {m : List Ent} {t t' : St} (h : Im w g b m t) (e : Ent) (hd : DskT w' g b t') (ho : w'.ownsMap Tryz.prog 9 R1 b (put Ent.nm e m).length (dOf (put Ent.nm e m)))
    (hfs : t'.fs = fput e.fil t.fs) (hgd : Good t') (hfe : FileAt w' e) (hfo : ∀ a ∈ m, a.nm ≠ e.nm → FileAt w' a) (hbl : ∀ i, e.v.ownBlock = some i → i ∉ g :: b :: blks (del Ent.nm e.nm m))
    (hfl : t'.fail = t.fail) (hal : t'.arm = t.arm) : Im w' g b (put Ent.nm e m) t' := by
  refine ⟨hd, ho, ?_, ?_, nodup_put h.nodup hbl, hgd, by rw [hfl]; exact h.fl, by rw [hal]; exact h.al⟩
  · rw [hfs, h.fs]
    exact (map_put (k1 := Ent.nm) (k2 := Prod.fst) Ent.fil (fun _ => rfl) _ _).symm
  · intro a ha
    rcases mem_put.1 ha with rfl | ⟨ha, hn⟩
    · exact hfe
    · exact hfo a ha hn
theorem Im.dropped {w w' : World} {g b : Nat} {m : List Ent} {t t' : St} (h : Im w g b m t) (x : Nm) (hd : DskT w' g b t') (ho : w'.ownsMap Tryz.prog 9 R1 b (del Ent.nm x m).length (dOf (del Ent.nm x m)))
    (hfs : t'.fs = fdel x t.fs) (hgd : Good t') (hfo : ∀ a ∈ m, FileAt w' a) (hfl : t'.fail = t.fail) (hal : t'.arm = t.arm) : Im w' g b (del Ent.nm x m) t' := by
  refine ⟨hd, ho, ?_, fun a ha => hfo a (mem_del.1 ha).1, nodup_del h.nodup x, hgd, by rw [hfl]; exact h.fl, by rw [hal]; exact h.al⟩
  rw [hfs, h.fs]
  exact (map_del (k1 := Ent.nm) (k2 := Prod.fst) Ent.fil (fun _ => rfl) _ _).symm

/-- what a call that may change the disk answers, and leaves -/
def Left (w : World) (g b : Nat) (m : List Ent) (t : St) (w' : World) : Prop := ∃ m', Im w' g b m' t ∧ Fr (g :: b :: blks m) w w' ∧ ∀ i ∈ blks m', i ∈ blks m ∨ w.heap.size ≤ i
def Did (w : World) (g b : Nat) (m : List Ent) (r : Int × St) (e : Ending) (w' : World) : Prop := e = .returned (.int .i64 r.1) ∧ Left w g b m r.2 w'
theorem Left.same {w : World} {g b : Nat} {m : List Ent} {t : St} (h : Im w g b m t) : Left w g b m t w := ⟨m, h, Fr.refl _ _, fun _ hi => .inl hi⟩
theorem Left.after {S : List Nat} {w w1 w' : World} {g b : Nat} {m : List Ent} {t : St} (hf : Fr S w w1) (hS : ∀ i ∈ S, i ∈ g :: b :: blks m) (h : Left w1 g b m t w') : Left w g b m t w' := by
  obtain ⟨m', h1, h2, h3⟩ := h
  refine ⟨m', h1, (hf.mono hS).same h2, fun i hi => ?_⟩
  rcases h3 i hi with h | h
  · exact .inl h
  · exact .inr (Nat.le_trans hf.size h)
theorem DskT.files {w : World} {g b : Nat} {t : St} (h : DskT w g b t) (fs : List Fil) (hf : total fs = total t.fs) : DskT w g b { t with fs := fs } := by
  unfold DskT at h ⊢
  simp only [hf]
  exact h
theorem Im.ne {w : World} {g b : Nat} {m : List Ent} {t : St} (h : Im w g b m t) : g ≠ b ∧ g ∉ blks m ∧ b ∉ blks m := by
  have := h.nodup
  simp only [List.nodup_cons, List.mem_cons, not_or] at this
  exact ⟨this.1.1, this.1.2, this.2.1⟩
theorem Im.chg {w w1 : World} {g b : Nat} {m : List Ent} {t : St} (h : Im w g b m t) (hd : DskT w1 g b (chg t).2) (hf : Fr [g] w w1) : Im w1 g b m (chg t).2 := by
  obtain ⟨n1, n2, n3⟩ := h.ne
  refine ⟨hd, own_of_block h.own (hf.block b h.own.lt (by simpa using Ne.symm n1)), by rw [(chg_same t).2]; exact h.fs, fun e he => (h.file e he).of_block fun i hi => hf.block i ((h.file e he).lt hi) (by
    intro hm
    simp only [List.mem_singleton] at hm
    exact n2 (mem_blks.2 ⟨e, he, by rw [← hm]; exact hi⟩)), h.nodup, h.good.chg, ?_, ?_⟩
  · have := h.fl
    unfold Dk.chg
    intro k
    split
    · exact this k
    · split
      · exact this k
      · split
        · intro h; cases h
        · intro hk
          simp only [Option.map_eq_some_iff] at hk
          obtain ⟨j, hj, rfl⟩ := hk
          have := this j hj
          omega
  · have := h.al
    unfold Dk.chg
    intro k
    split
    · exact this k
    · split
      · intro h; cases h
      · split <;>
        · intro hk
          simp only [Option.map_eq_some_iff] at hk
          obtain ⟨j, hj, rfl⟩ := hk
          have := this j hj
          omega
theorem modify_did (g b A n cap K : Nat) (caps : Array Value) (hen : ∀ w, (callFunc K caps).run Tryz.prog w = .ok (.enter K caps) w) (m : List Ent) (t : St) (ss : List ByteArray) (w : World) (h : Im w g b m t) (hr : RdS w (some ⟨A, 0, none⟩) n ss)
    (f : St → Int × St) (hc : ∀ w1, allN ss = true → Im w1 g b m (chg t).2 → Fr [g] w w1 → Calls Tryz.prog K caps w1 (Did w1 g b m (f (chg t).2))) :
    Calls Tryz.prog 45 #[.pointer (some ⟨g, 0, none⟩), .func (.func K) #[] caps, .slice (some ⟨A, 0, none⟩) n cap] w (Did w g b m (doing (allN ss) t f)) := by
  unfold doing
  cases hv : allN ss with
  | false =>
    refine (modify_name g A n cap _ ss w hr hv).mono ?_
    rintro e w' ⟨rfl, rfl⟩
    exact ⟨rfl, Left.same h⟩
  | true =>
    simp only [if_true]
    by_cases h0 : (chg t).1 = 0
    · rw [if_pos h0]
      refine (modify_made g b A n cap K caps hen t ss w h.dsk h.fl h.al hr hv h0 (fun r w' => r = (f (chg t).2).1 ∧ Left w g b m (f (chg t).2).2 w') ?_).mono ?_
      · intro w1 hd hf
        refine (hc w1 hv (h.chg hd hf) hf).mono ?_
        rintro e w2 ⟨rfl, hL⟩
        exact ⟨_, rfl, rfl, hL.after hf (by simp)⟩
      · rintro e w2 ⟨r, rfl, rfl, hL⟩
        exact ⟨rfl, hL⟩
    · rw [if_neg h0]
      refine (modify_fault g b A n cap t _ ss w h.dsk h.fl h.al hr hv h0).mono ?_
      rintro e w' ⟨rfl, hd, hf⟩
      exact ⟨rfl, m, h.chg hd hf, hf.mono (by simp), fun _ hi => .inl hi⟩
theorem rds_one (w : World) (s : ByteArray) : RdS (w.alloc (.cells #[.string s] 9)) (some ⟨w.heap.size, 0, none⟩) 1 [s] := by
  refine ⟨rfl, by omega, fun _ => ⟨_, _, rfl, fun i hi => ?_⟩⟩
  obtain rfl : i = 0 := by omega
  rw [World.cell?_alloc_mark]
  rfl
theorem rds_two (w : World) (s u : ByteArray) : RdS (w.alloc (.cells #[.string s, .string u] 9)) (some ⟨w.heap.size, 0, none⟩) 2 [s, u] := by
  refine ⟨rfl, by omega, fun _ => ⟨_, _, rfl, fun i hi => ?_⟩⟩
  rw [World.cell?_alloc_mark, Nat.zero_add]
  rcases (show i = 0 ∨ i = 1 from by omega) with rfl | rfl <;> rfl
theorem allN_one (s : ByteArray) : allN [s] = okN s.data.toList := by simp [allN]
theorem allN_two (s u : ByteArray) : allN [s, u] = (okN s.data.toList && okN u.data.toList) := by simp [allN]
theorem size_of_ok {s : ByteArray} (h : okN s.data.toList = true) : s.size ≤ maxLen := by
  unfold okN at h
  simp only [Bool.and_eq_true, decide_eq_true_eq, len_data] at h
  unfold maxLen
  omega
theorem new_cell (w : World) (v : Value) (ty : TypeId) : (w.alloc (.cells #[v] ty)).cell? ⟨w.heap.size, 0, none⟩ = some v := by
  rw [World.cell?_alloc_mark]
  rfl
theorem size_up (w : World) (o : Obj) : (w.alloc o).heap.size = w.heap.size + 1 := by simp
theorem below3 (w : World) (o1 o2 o3 : Obj) : Below w.heap.size w (((w.alloc o1).alloc o2).alloc o3) := (((Below.refl _ w).alloc (Nat.le_refl _) o1).alloc (by simp) o2).alloc (by simp; omega) o3
theorem below4 (w : World) (o1 o2 o3 o4 : Obj) : Below w.heap.size w ((((w.alloc o1).alloc o2).alloc o3).alloc o4) := (below3 w o1 o2 o3).alloc (by simp; omega) o4
/-- a cell of a block that a call has not touched -/
theorem Fr.cell {S : List Nat} {w w' : World} {a : Addr} {v : Value} (h : Fr S w w') (hc : w.cell? a = some v) (hS : a.block ∉ S) : w'.cell? a = some v :=
  (World.cell?_of_block (w := w) (h.block _ (lt_of_cell hc) hS)).trans hc
/-- a method of one name -/
theorem mod1 (K g b : Nat) (hen : ∀ caps w, (callFunc K caps).run Tryz.prog w = .ok (.enter K caps) w) (m : List Ent) (t : St) (s : ByteArray) (w : World) (h : Im w g b m t) (f : St → Int × St)
    (hc : ∀ bd bn w1, Im w1 g b m (chg t).2 → s.size ≤ maxLen → okN s.data.toList = true → w1.cell? ⟨bd, 0, none⟩ = some (.pointer (some ⟨g, 0, none⟩)) → w1.cell? ⟨bn, 0, none⟩ = some (.string s) → Calls Tryz.prog K #[.pointer (some ⟨bd, 0, none⟩), .pointer (some ⟨bn, 0, none⟩)] w1 (Did w1 g b m (f (chg t).2))) :
    Calls Tryz.prog 45 #[.pointer (some ⟨g, 0, none⟩), .func (.func K) #[] #[.pointer (some ⟨w.heap.size, 0, none⟩), .pointer (some ⟨w.heap.size + 1, 0, none⟩)], .slice (some ⟨w.heap.size + 1 + 1, 0, none⟩) 1 1]
      (((w.alloc (.cells #[.pointer (some ⟨g, 0, none⟩)] 24)).alloc (.cells #[.string s] 9)).alloc (.cells #[.string s] 9)) (Did w g b m (doing (okN s.data.toList) t f)) := by
  have hb := below3 w (.cells #[.pointer (some ⟨g, 0, none⟩)] 24) (.cells #[.string s] 9) (.cells #[.string s] 9)
  have hI := h.below hb
  have hr := rds_one ((w.alloc (.cells #[.pointer (some ⟨g, 0, none⟩)] 24)).alloc (.cells #[.string s] 9)) s
  rw [size_up, size_up] at hr
  have hd := cell_past (cell_past (new_cell w (.pointer (some ⟨g, 0, none⟩)) 24) (.cells #[.string s] 9)) (.cells #[.string s] 9)
  have hn := cell_past (new_cell (w.alloc (.cells #[.pointer (some ⟨g, 0, none⟩)] 24)) (.string s) 9) (.cells #[.string s] 9)
  rw [size_up] at hn
  have hg := h.dsk.lt
  generalize (((w.alloc (.cells #[.pointer (some ⟨g, 0, none⟩)] 24)).alloc (.cells #[.string s] 9)).alloc (.cells #[.string s] 9)) = W at *
  refine (modify_did g b _ 1 1 _ _ (hen _) m t [s] W hI hr f ?_).mono ?_
  · intro w1 hv hI1 hf
    rw [allN_one] at hv
    exact hc _ _ w1 hI1 (size_of_ok hv) hv (hf.cell hd (by simp; omega)) (hf.cell hn (by simp; omega))
  · rintro e w' ⟨rfl, hL⟩
    rw [allN_one] at *
    exact ⟨rfl, hL.after (Fr.below (S := []) hb) (by simp)⟩
/-- a method of two names -/
theorem mod2 (K g b : Nat) (hen : ∀ caps w, (callFunc K caps).run Tryz.prog w = .ok (.enter K caps) w) (m : List Ent) (t : St) (s u : ByteArray) (w : World) (h : Im w g b m t) (f : St → Int × St)
    (hc : ∀ bd bn bu w1, Im w1 g b m (chg t).2 → okN s.data.toList = true → okN u.data.toList = true → (bd ∉ g :: b :: blks m) → (bn ∉ g :: b :: blks m) → (bu ∉ g :: b :: blks m) → w1.cell? ⟨bd, 0, none⟩ = some (.pointer (some ⟨g, 0, none⟩)) → w1.cell? ⟨bn, 0, none⟩ = some (.string s) → w1.cell? ⟨bu, 0, none⟩ = some (.string u) →
      Calls Tryz.prog K #[.pointer (some ⟨bd, 0, none⟩), .pointer (some ⟨bn, 0, none⟩), .pointer (some ⟨bu, 0, none⟩)] w1 (Did w1 g b m (f (chg t).2))) :
    Calls Tryz.prog 45 #[.pointer (some ⟨g, 0, none⟩), .func (.func K) #[] #[.pointer (some ⟨w.heap.size, 0, none⟩), .pointer (some ⟨w.heap.size + 1, 0, none⟩), .pointer (some ⟨w.heap.size + 1 + 1, 0, none⟩)], .slice (some ⟨w.heap.size + 1 + 1 + 1, 0, none⟩) 2 2]
      ((((w.alloc (.cells #[.pointer (some ⟨g, 0, none⟩)] 24)).alloc (.cells #[.string s] 9)).alloc (.cells #[.string u] 9)).alloc (.cells #[.string s, .string u] 9)) (Did w g b m (doing (okN s.data.toList && okN u.data.toList) t f)) := by
  have hb := below4 w (.cells #[.pointer (some ⟨g, 0, none⟩)] 24) (.cells #[.string s] 9) (.cells #[.string u] 9) (.cells #[.string s, .string u] 9)
  have hI := h.below hb
  have hr := rds_two (((w.alloc (.cells #[.pointer (some ⟨g, 0, none⟩)] 24)).alloc (.cells #[.string s] 9)).alloc (.cells #[.string u] 9)) s u
  rw [size_up, size_up, size_up] at hr
  have hd := cell_past (cell_past (cell_past (new_cell w (.pointer (some ⟨g, 0, none⟩)) 24) (.cells #[.string s] 9)) (.cells #[.string u] 9)) (.cells #[.string s, .string u] 9)
  have hn := cell_past (cell_past (new_cell (w.alloc (.cells #[.pointer (some ⟨g, 0, none⟩)] 24)) (.string s) 9) (.cells #[.string u] 9)) (.cells #[.string s, .string u] 9)
  have hu := cell_past (new_cell ((w.alloc (.cells #[.pointer (some ⟨g, 0, none⟩)] 24)).alloc (.cells #[.string s] 9)) (.string u) 9) (.cells #[.string s, .string u] 9)
  rw [size_up] at hn
  rw [size_up, size_up] at hu
  have hlt := h.lt
  have hg := h.dsk.lt
  generalize ((((w.alloc (.cells #[.pointer (some ⟨g, 0, none⟩)] 24)).alloc (.cells #[.string s] 9)).alloc (.cells #[.string u] 9)).alloc (.cells #[.string s, .string u] 9)) = W at *
  refine (modify_did g b _ 2 2 _ _ (hen _) m t [s, u] W hI hr f ?_).mono ?_
  · intro w1 hv hI1 hf
    rw [allN_two, Bool.and_eq_true] at hv
    exact hc _ _ _ w1 hI1 hv.1 hv.2 (fun hi => by have := hlt _ hi; omega) (fun hi => by have := hlt _ hi; omega) (fun hi => by have := hlt _ hi; omega) (hf.cell hd (by simp; omega)) (hf.cell hn (by simp; omega)) (hf.cell hu (by simp; omega))
  · rintro e w' ⟨rfl, hL⟩
    rw [allN_two] at *
    exact ⟨rfl, hL.after (Fr.below (S := []) hb) (by simp)⟩
/-- Append -/
theorem mod3 (K g b : Nat) (hen : ∀ caps w, (callFunc K caps).run Tryz.prog w = .ok (.enter K caps) w) (m : List Ent) (t : St) (s : ByteArray) (bv : Value) (w : World) (h : Im w g b m t) (f : St → Int × St)
    (hc : ∀ bd bb bn W w1, Im w1 g b m (chg t).2 → Below w.heap.size w W → Fr [g] W w1 → okN s.data.toList = true → (bd ∉ g :: b :: blks m) → (bb ∉ g :: b :: blks m) → (bn ∉ g :: b :: blks m) → w1.cell? ⟨bd, 0, none⟩ = some (.pointer (some ⟨g, 0, none⟩)) → w1.cell? ⟨bb, 0, none⟩ = some bv → w1.cell? ⟨bn, 0, none⟩ = some (.string s) →
      Calls Tryz.prog K #[.pointer (some ⟨bd, 0, none⟩), .pointer (some ⟨bb, 0, none⟩), .pointer (some ⟨bn, 0, none⟩)] w1 (Did w1 g b m (f (chg t).2))) :
    Calls Tryz.prog 45 #[.pointer (some ⟨g, 0, none⟩), .func (.func K) #[] #[.pointer (some ⟨w.heap.size, 0, none⟩), .pointer (some ⟨w.heap.size + 1 + 1, 0, none⟩), .pointer (some ⟨w.heap.size + 1, 0, none⟩)], .slice (some ⟨w.heap.size + 1 + 1 + 1, 0, none⟩) 1 1]
      ((((w.alloc (.cells #[.pointer (some ⟨g, 0, none⟩)] 24)).alloc (.cells #[.string s] 9)).alloc (.cells #[bv] 36)).alloc (.cells #[.string s] 9)) (Did w g b m (doing (okN s.data.toList) t f)) := by
  have hb := below4 w (.cells #[.pointer (some ⟨g, 0, none⟩)] 24) (.cells #[.string s] 9) (.cells #[bv] 36) (.cells #[.string s] 9)
  have hI := h.below hb
  have hr := rds_one (((w.alloc (.cells #[.pointer (some ⟨g, 0, none⟩)] 24)).alloc (.cells #[.string s] 9)).alloc (.cells #[bv] 36)) s
  rw [size_up, size_up, size_up] at hr
  have hd := cell_past (cell_past (cell_past (new_cell w (.pointer (some ⟨g, 0, none⟩)) 24) (.cells #[.string s] 9)) (.cells #[bv] 36)) (.cells #[.string s] 9)
  have hn := cell_past (cell_past (new_cell (w.alloc (.cells #[.pointer (some ⟨g, 0, none⟩)] 24)) (.string s) 9) (.cells #[bv] 36)) (.cells #[.string s] 9)
  have hu := cell_past (new_cell ((w.alloc (.cells #[.pointer (some ⟨g, 0, none⟩)] 24)).alloc (.cells #[.string s] 9)) bv 36) (.cells #[.string s] 9)
  rw [size_up] at hn
  rw [size_up, size_up] at hu
  have hlt := h.lt
  have hg := h.dsk.lt
  generalize ((((w.alloc (.cells #[.pointer (some ⟨g, 0, none⟩)] 24)).alloc (.cells #[.string s] 9)).alloc (.cells #[bv] 36)).alloc (.cells #[.string s] 9)) = W at *
  refine (modify_did g b _ 1 1 _ _ (hen _) m t [s] W hI hr f ?_).mono ?_
  · intro w1 hv hI1 hf
    rw [allN_one] at hv
    exact hc _ _ _ W w1 hI1 hb hf hv (fun hi => by have := hlt _ hi; omega) (fun hi => by have := hlt _ hi; omega) (fun hi => by have := hlt _ hi; omega) (hf.cell hd (by simp; omega)) (hf.cell hu (by simp; omega)) (hf.cell hn (by simp; omega))
  · rintro e w' ⟨rfl, hL⟩
    rw [allN_one] at *
    exact ⟨rfl, hL.after (Fr.below (S := []) hb) (by simp)⟩
end Go.Proofs.YtejphnbhcabchaaGreat.Dk

namespace Go.Proofs.YtejphnbhcabchaaGreat.Dk
open Go.RowKit Go.Proofs.YtejphnbhcabchaaGreat.Fld

theorem field0 (A : Option Addr) (n cap : Nat) (k : Int) (w : World) : (Instr.field 82 (.agg #[.slice A n cap, .int .i64 k]) 0).run Tryz.prog w = .ok (.slice A n cap) w := by kernel_rfl
theorem FileAt.form {w : World} {e : Ent} (h : FileAt w e) : ∃ A cap, e.v = .slice A e.zs.length cap ∧ Sl w A e.zs.length cap e.zs := by
  obtain ⟨hby, hl, h⟩ := h
  rcases h with ⟨hv, h0⟩ | ⟨q, cap, cur, hv, _, hh, hnc, hcm, hcs, hcu⟩
  · refine ⟨none, 0, by rw [hv, h0], ?_⟩
    have : e.zs = [] := List.eq_nil_of_length_eq_zero h0
    rw [this]
    exact Sl.nil w
  · refine ⟨_, cap, hv, ⟨rfl, by omega, hby, fun hp => ⟨q, 0, rfl, fun i hi => ?_⟩⟩, hnc, hcm, (fun h => by cases h), (fun a ha => by injection ha with ha; subst ha; rfl)⟩
    rw [Nat.zero_add, cell_of_row w q i cur _ (0, 0) hh, ← by8_at e.zs i hi, ← hcu]
    rw [List.getElem?_take, if_pos (by omega), Array.getElem?_toList]
/-- what is looked up is a file, or the zero one -/
theorem Im.foundV {w : World} {g b : Nat} {m : List Ent} {t : St} (h : Im w g b m t) (s : ByteArray) :
    ∃ A n cap k, foundV m s = .agg #[.slice A n cap, .int .i64 k] ∧ total t.fs = n + total (fdel s.data.toList t.fs) := by
  unfold Dk.foundV
  cases hf : found m s with
  | none =>
    refine ⟨none, 0, 0, 0, rfl, ?_⟩
    rw [total_del_none (by rw [h.get, hf]; rfl)]
    omega
  | some e =>
    obtain ⟨he1, he2⟩ := get_some hf
    obtain ⟨A, cap, hv, _⟩ := (h.file e he1).form
    refine ⟨A, e.zs.length, cap, e.s, by rw [Option.map_some, Option.getD_some, Ent.val, hv], ?_⟩
    exact total_del (f := e.fil) h.good.up (by rw [h.get, hf]; rfl)
set_option maxRecDepth 100000 in
set_option maxHeartbeats 3200000 in
theorem remove_any (g b : Nat) (m : List Ent) (t : St) (s : ByteArray) (w : World) (h : Im w g b m t) (hs : s.size ≤ maxLen) :
    Calls Tryz.prog 130 #[.pointer (some ⟨g, 0, none⟩), .string s] w fun e w' => e = .returned (.tuple #[]) ∧ Im w' g b (del Ent.nm s.data.toList m) { t with fs := fdel s.data.toList t.fs } ∧ Fr [g, b] w w' := by
  have HI := Lib.hid h
  obtain ⟨A, n, cap, k, hfv, htot⟩ := h.foundV s
  have hfit := h.good.fits
  have hrm := h.good.room2
  obtain ⟨c0, c1, c2, c3, c4, c5, c6, c7⟩ := Dsk.cells h.dsk
  have f2 := Dsk.free h.dsk 2
  have hlk := look1 h.own.drew s hs
  rw [hfv] at hlk
  have HTT := Lib.hid htot
  obtain ⟨n1, n2, n3⟩ := h.ne
  have hset : Dsk ((w.setCell ⟨g, 2, none⟩ (.int .i64 ((total (fdel s.data.toList t.fs) : Nat) : Int))).drew) g _ b _ _ _ _ _ _ := Dsk.set2 (w := w) h.dsk _
  have hown1 : ((w.setCell ⟨g, 2, none⟩ (.int .i64 ((total (fdel s.data.toList t.fs) : Nat) : Int))).drew).ownsMap Tryz.prog 9 R1 b m.length (dOf m) := (h.own.setCell (a := ⟨g, 2, none⟩) (Ne.symm n1) _).drew
  obtain ⟨w2, hdl, hown2, hturn⟩ := drop1 hown1 s hs 0
  have hfr : Fr [g, b] w w2 := ((Fr.refl [g, b] w).setCell ⟨g, 2, none⟩ (.inl (by simp)) (.int .i64 ((total (fdel s.data.toList t.fs) : Nat) : Int))).drew.turned hturn (.inl (by simp))
  have HF := Lib.hid hfr
  have HIM := Lib.hid (show Im w2 g b (del Ent.nm s.data.toList m) { t with fs := fdel s.data.toList t.fs } from by
    refine h.dropped s.data.toList ?_ hown2 rfl (h.good.del _) ?_ rfl rfl
    · exact Dsk.of_block hset (hturn.grown.block g (by have := h.dsk.lt; simpa [World.setCell] using this) (by simpa using n1))
    · exact fun a ha => (h.file a ha).of_block fun i hi => hfr.block i ((h.file a ha).lt hi) (by
        have : i ∈ blks m := mem_blks.2 ⟨a, ha, hi⟩
        intro hm
        simp only [List.mem_cons, List.not_mem_nil, or_false] at hm
        rcases hm with rfl | rfl
        · exact n2 this
        · exact n3 this))
  generalize total (fdel s.data.toList t.fs) = T2 at *
  generalize total t.fs = T at *
  have e1 : (T : Int) - (n : Int) = (T2 : Int) := by omega
  clear htot
  have e2 : IntKind.i64.wrap (T2 : Int) = (T2 : Int) := IntWalk.i64_in _ (by omega)
  clear h hown1 hown2 hturn hset hfv hfr
  have hfd := field0 A n cap k
  go_enter Tryz.func130, Tryz.ntmps130
  go_wp2_with fail
  go_region
  go_wp2
  go_end0
  exact ⟨rfl, HIM.out, HF.out⟩

set_option maxRecDepth 100000 in
set_option maxHeartbeats 3200000 in
theorem unl1_did (g b bd bn : Nat) (m : List Ent) (t : St) (s : ByteArray) (w : World) (h : Im w g b m t) (hs : s.size ≤ maxLen) (hd : w.cell? ⟨bd, 0, none⟩ = some (.pointer (some ⟨g, 0, none⟩))) (hn : w.cell? ⟨bn, 0, none⟩ = some (.string s)) :
    Calls Tryz.prog 129 #[.pointer (some ⟨bd, 0, none⟩), .pointer (some ⟨bn, 0, none⟩)] w (Did w g b m (unl1 s.data.toList t)) := by
  have hun : unl1 s.data.toList t = if (found m s).isSome then (0, { t with fs := fdel s.data.toList t.fs }) else (2, t) := by
    unfold unl1
    rw [h.get]
    cases found m s <;> rfl
  rw [hun]
  clear hun
  have HI := Lib.hid h
  obtain ⟨A, n, cap, k, hfv, _⟩ := h.foundV s
  obtain ⟨c0, c1, c2, c3, c4, c5, c6, c7⟩ := Dsk.cells h.dsk
  have hlk := look2 h.own.drew s hs
  have hlo := fun o => look2 (own_past h.own o) s hs
  rw [hfv] at hlk
  simp only [hfv] at hlo
  have pd := fun o => cell_past hd o
  have pn := fun o => cell_past hn o
  have p1 := fun o => cell_past c1 o
  clear h hfv
  have hbw : ∀ o, Below w.heap.size w (w.alloc o).drew := fun o => ((Below.refl _ _).alloc (Nat.le_refl _) o).drew
  have HB := Lib.hid hbw
  clear hbw
  cases hf : (found m s).isSome with
  | false =>
    rw [hf] at hlk
    simp only [hf] at hlo
    rw [if_neg (by simp)]
    go_enter Tryz.func129, Tryz.ntmps129
    go_wp2_with fail
    go_region
    go_wp2
    go_ret
    exact ⟨rfl, m, HI.out.below (HB.out _), Fr.below (HB.out _), fun _ hi => .inl hi⟩
  | true =>
    rw [hf] at hlk
    simp only [hf] at hlo
    rw [if_pos rfl]
    have HR := Lib.hid (fun o => remove_any g b m t s _ (HI.out.below (HB.out o)) hs)
    go_enter Tryz.func129, Tryz.ntmps129
    go_wp2_with fail
    go_region
    go_wp2_with (go_at_call 130; refine (HR.out _).mono ?_; rintro e w' ⟨rfl, hI, hF⟩; have HI2 := Lib.hid hI; have HF2 := Lib.hid hF; clear hI hF)
    go_ret
    refine ⟨rfl, _, HI2.out, ((Fr.below (S := g :: b :: blks m) (HB.out _)).same (HF2.out.mono (by simp))), fun i hi => .inl (blks_del hi)⟩
theorem unl_enters (caps : Array Value) (w : World) : (callFunc 129 caps).run Tryz.prog w = .ok (.enter 129 caps) w := enters_of Tryz.func129 (by kernel_rfl) rfl caps w
set_option maxRecDepth 100000 in
set_option maxHeartbeats 3200000 in
theorem unl_did (g b : Nat) (m : List Ent) (t : St) (s : ByteArray) (w : World) (h : Im w g b m t) :
    Calls Tryz.prog 107 #[.pointer (some ⟨g, 0, none⟩), .string s] w (Did w g b m (stUnlink s.data.toList t)) := by
  have HM := Lib.hid (mod1 _ g b unl_enters m t s w h (unl1 s.data.toList) fun bd bn w1 hI hs _ hd hn => unl1_did g b bd bn m _ s w1 hI hs hd hn)
  clear h
  unfold stUnlink
  generalize doing (okN s.data.toList) t (unl1 s.data.toList) = r at *
  go_enter Tryz.func107, Tryz.ntmps107
  go_wp2_with (go_at_call 45; refine HM.out.mono ?_; rintro e w' ⟨rfl, hL⟩; have HL := Lib.hid hL; clear hL)
  go_ret
  exact ⟨rfl, HL.out⟩
end Go.Proofs.YtejphnbhcabchaaGreat.Dk

namespace Go.Proofs.YtejphnbhcabchaaGreat.Dk
open Go.RowKit Go.Proofs.YtejphnbhcabchaaGreat.Fld Go.Sort Go.Shelf Go.Maps

set_option maxHeartbeats 800000 in
theorem clone_any (A : Option Addr) (n cap : Nat) (zs : List Int) (w : World) (hr : Rd w A n zs) (hA : A = none → cap = 0) (hn : n ≤ 140737488355328) : Calls Tryz.prog 83 #[.slice A n cap] w fun e w' => ∃ v, e = .returned v ∧ Own w w' v zs := by
  have q := fun (w : World) (a : Option Addr) (l c : Nat) => run_eql_slice_nil (P := Tryz.prog) w 36 5 a l c Tryz.underlying36
  cases A with
  | none =>
    have hn0 : n = 0 := by
      rcases Nat.eq_zero_or_pos n with h0 | h0
      · exact h0
      · obtain ⟨b, off, he, _⟩ := hr.2.2.2 h0; cases he
    subst hn0
    obtain rfl : zs = [] := List.eq_nil_of_length_eq_zero hr.1
    obtain rfl := hA rfl
    clear hr hA
    go_enter Tryz.func83, Tryz.ntmps83
    go_wp2
    go_ret
    exact ⟨_, rfl, Own.nil w w (Below.refl _ _)⟩
  | some a =>
    have HR := Lib.hid hr
    have HA := Lib.hid hA
    have HO := Lib.hid (Own.made w w (Below.refl _ _))
    have HR1 := Lib.hid (HR.out.below HO.out.1)
    unfold noneBlk at HO HR1
    clear hr hA
    go_enter Tryz.func83, Tryz.ntmps83
    go_wp2_with (refine wpList_append_rd rfl _ _ rfl w _ [] rfl HO.out (some a) n cap zs rfl HA.out HR1.out (by simp; omega) ?_)
    intro v1 w1 hO1 _ _
    have HO2 := Lib.hid hO1
    clear hO1
    go_wp2
    go_ret
    exact ⟨_, rfl, HO2.out⟩

/-- what Read answers -/
def ReadIs (w : World) (r : Int × List Int) (e : Ending) (w' : World) : Prop := ∃ A n cap, e = .returned (.tuple #[.slice A n cap, .int .i64 r.1]) ∧ Sl w' A n cap r.2 ∧ n ≤ 16777216 ∧ Below w.heap.size w w'
set_option maxRecDepth 100000 in
set_option maxHeartbeats 3200000 in
theorem read_any (g b : Nat) (m : List Ent) (t : St) (s : ByteArray) (w : World) (h : Im w g b m t) : Calls Tryz.prog 87 #[.pointer (some ⟨g, 0, none⟩), .string s] w (ReadIs w (stRead s.data.toList t)) := by
  obtain ⟨c0, c1, c2, c3, c4, c5, c6, c7⟩ := Dsk.cells h.dsk
  have HI := Lib.hid h
  have hst : stRead s.data.toList t = if t.off then ((5 : Int), []) else if okN s.data.toList then (match found m s with | some e => ((0 : Int), e.zs) | none => (2, [])) else (1, []) := by
    unfold stRead
    rw [h.get]
    cases found m s <;> rfl
  rw [hst]
  clear h hst
  cases hoff : t.off with
  | true =>
    rw [hoff] at c3
    rw [if_pos rfl]
    go_enter Tryz.func87, Tryz.ntmps87
    go_wp2
    go_ret2
    exact ⟨none, 0, 0, rfl, Sl.nil w, by omega, Below.refl _ _⟩
  | false =>
    rw [hoff] at c3
    rw [if_neg (by simp)]
    have hb1 : Below w.heap.size w (w.alloc (.cells #[.string s] 9)) := (Below.refl _ _).alloc (Nat.le_refl _) _
    have HB1 := Lib.hid hb1
    have HV := Lib.hid (valid_any _ 1 1 [s] _ (rds_one w s))
    rw [allN_one] at HV
    cases hok : okN s.data.toList with
    | false =>
      rw [hok] at HV
      rw [if_neg (by simp)]
      clear hb1
      go_enter Tryz.func87, Tryz.ntmps87
      go_wp2_with (go_at_call 84; refine HV.out.mono ?_; rintro e w' ⟨rfl, rfl⟩)
      go_ret2
      exact ⟨none, 0, 0, rfl, Sl.nil _, by omega, HB1.out⟩
    | true =>
      rw [hok] at HV
      rw [if_pos rfl]
      have hs := size_of_ok hok
      have hlk := look2 (own_of_block HI.out.own (hb1.block b HI.out.own.lt)) s hs
      have p1 := cell_past c1 (.cells #[.string s] 9)
      clear hb1
      cases hf : found m s with
      | none =>
        have hfv : foundV m s = zeroF := by unfold foundV; rw [hf]; rfl
        rw [hfv, hf] at hlk
        unfold zeroF at hlk
        clear hfv
        have hb2 : ∀ o, Below w.heap.size w ((w.alloc (.cells #[.string s] 9)).alloc o) := fun o => HB1.out.alloc (by simp) o
        have HB2 := Lib.hid hb2
        clear hb2
        go_enter Tryz.func87, Tryz.ntmps87
        go_wp2_with (go_at_call 84; refine HV.out.mono ?_; rintro e w' ⟨rfl, rfl⟩)
        go_ret2
        exact ⟨none, 0, 0, rfl, Sl.nil _, by omega, HB2.out _⟩
      | some e =>
        have hfile := HI.out.file e (get_some hf).1
        obtain ⟨A, cap, hv, hsl⟩ := hfile.form
        have hfv : foundV m s = .agg #[.slice A e.zs.length cap, .int .i64 (e.s : Int)] := by unfold foundV; rw [hf, Option.map_some, Option.getD_some, Ent.val, hv]
        rw [hfv, hf] at hlk
        have hb2 : Below w.heap.size w ((w.alloc (.cells #[.string s] 9)).alloc (.cells #[.slice A e.zs.length cap, .int .i64 (e.s : Int)] 82)) := HB1.out.alloc (by simp) _
        have hl : e.zs.length ≤ 16777216 := by
          have h1 := total_del (f := e.fil) HI.out.good.up (x := s.data.toList) (by rw [HI.out.get, hf]; rfl)
          have h2 := HI.out.good.fits
          have h3 := HI.out.good.room2
          have h4 : e.fil.2.1.length = e.zs.length := rfl
          omega
        have HCL := Lib.hid (clone_any A e.zs.length cap e.zs _ (hsl.1.below hb2) hsl.2.2.2.1 (by omega))
        have HB2 := Lib.hid hb2
        clear hb2 hfv hsl hv hfile
        simp only
        generalize hn : e.zs.length = n at *
        have HN := Lib.hid hn
        clear hn
        go_enter Tryz.func87, Tryz.ntmps87
        go_wp2_with (first | (go_at_call 84; refine HV.out.mono ?_; rintro e w' ⟨rfl, rfl⟩) | (go_at_call 83; refine HCL.out.mono ?_; rintro e w' ⟨v, rfl, hO⟩; have HO := Lib.hid hO; clear hO))
        go_ret2
        obtain ⟨A2, cap2, hv2, hs2, _⟩ := HO.out.sl n HN.out
        subst hv2
        exact ⟨A2, n, cap2, rfl, hs2, hl, HB2.out.trans (HO.out.1.mono HB2.out.size)⟩

theorem rds_of_row {w : World} {base : Nat} {v : Value} {xs : List Nm} (hl : xs.length ≤ 1000000000) (h : w.ownsRow base 9 1 v xs.length (xs.map encStr)) : ∃ A cap, v = .slice A xs.length cap ∧ RdS w A xs.length (xs.map fun x => ⟨x.toArray⟩) ∧ xs.length ≤ cap ∧ (A = none → cap = 0) ∧ ∀ a, A = some a → base ≤ a.block ∧ a.block < w.heap.size := by
  obtain ⟨h1, h⟩ := h
  rcases h with ⟨rfl, h0⟩ | ⟨q, cap, cur, rfl, hg, hh, hnc, hcm, hcs, hcu⟩
  · refine ⟨none, 0, by rw [h0], ⟨by simp, hl, fun hp => by omega⟩, by omega, fun _ => rfl, fun a ha => by cases ha⟩
  · refine ⟨_, cap, rfl, ⟨by simp, hl, fun hp => ⟨q, 0, rfl, fun i hi => ?_⟩⟩, hnc, (fun h => by cases h), (fun a ha => by injection ha with ha; subst ha; exact ⟨hg, (Array.getElem?_eq_some_iff.1 hh).1⟩)⟩
    rw [Nat.zero_add, cell_of_row w q i cur _ (0, 0) hh]
    have : (cur.toList.take (xs.length * 1))[i]? = (xs.map encStr)[i]? := by rw [hcu]
    rw [List.getElem?_take, if_pos (by omega), Array.getElem?_toList] at this
    rw [this, List.getElem?_map, List.getD_eq_getElem?_getD, List.getElem?_map, List.getElem?_eq_getElem hi]
    rfl
/-- what Names answers -/
def NamesAre (w : World) (m : List Ent) (e : Ending) (w' : World) : Prop := ∃ A cap, e = .returned (.slice A m.length cap) ∧ RdS w' A m.length (m.map fun e => ⟨e.nm.toArray⟩) ∧ (∀ a, A = some a → w.heap.size ≤ a.block ∧ a.block < w'.heap.size) ∧ Below w.heap.size w w'
set_option maxHeartbeats 1000000 in
theorem names_any (g b : Nat) (m : List Ent) (t : St) (w : World) (h : Im w g b m t) (hm : t.fs.length ≤ 1000000) : Calls Tryz.prog 43 #[.pointer (some ⟨g, 0, none⟩)] w (NamesAre w m) := by
  have hml : m.length ≤ 1000000 := by rw [h.len]; exact hm
  obtain ⟨c0, c1, c2, c3, c4, c5, c6, c7⟩ := Dsk.cells h.dsk
  have hown := h.own
  have hup := h.up
  refine (callsIn_wide (n := 6)).1 ?_
  have hfK : Fence.wide.fn 82 := trivial
  have hfS : Fence.wide.fn 81 := trivial
  have HS := Lib.hid (Tryz.slices_Sorted_keys_81_82 b m.length (dOf m) R1 w hown (by rw [dOf_size]; unfold maxLen; omega) (by rw [dOf_size]; omega))
  clear h hown
  refine callsIn_of_wp Tryz.func43 rfl trivial ?_ rfl
  simp only [Tryz.ntmps43, List.size_toArray, List.length_cons, List.length_nil, Nat.reduceAdd, Nat.reduceSub, Array.replicate_succ, Array.replicate_zero, List.push_toArray, List.append_toArray, List.nil_append, List.cons_append]
  gi_wp2_with (first
    | (gi_at_call 82; refine (Tryz.maps_Keys_82 _ _).mono ?_; rintro e w' ⟨rfl, rfl⟩)
    | (gi_at_call 81; refine HS.out.mono ?_; rintro e w' ⟨v, ss, rfl, hS, hrow, hnil, hb⟩))
  go_ret
  have e1 : ss.mergeSort (fun x y => decide (x ≤ y)) = m.map Ent.nm := by
    rw [dOf_keys] at hS
    exact (mergeSort_of_perm hS).trans (sorted_keys hup)
  have e2 : ss.length = (m.map Ent.nm).length := by rw [← e1]; simp
  rw [e1, e2] at hrow
  obtain ⟨A, cap, hv, hr, _, _, hbl⟩ := rds_of_row (by simp; omega) hrow
  subst hv
  have hl : (m.map Ent.nm).length = m.length := by simp
  rw [hl] at hr
  have hbw : Below w.heap.size w (w.alloc (.cells #[.map (some b)] 69)) := (Below.refl _ w).alloc (Nat.le_refl _) _
  refine ⟨A, cap, by simp [hl], by rw [List.map_map] at hr; exact hr, fun a ha => ⟨Nat.le_trans hbw.size (hbl a ha).1, (hbl a ha).2⟩, hbw.trans (hb.mono hbw.size)⟩
end Go.Proofs.YtejphnbhcabchaaGreat.Dk

namespace Go.Proofs.YtejphnbhcabchaaGreat.Dk
open Go.RowKit Go.Proofs.YtejphnbhcabchaaGreat.Fld

def nstay (k : Int) (n s : Nat) : Nat := s + (min (max k 0) ((n - s : Nat) : Int)).toNat
theorem own_set {w0 w : World} {v : Value} {zs : List Int} (h : Own w0 w v zs) (p : Addr) (hp : w0.heap.size ≤ p.block) (hv : v.ownBlock ≠ some p.block) (u : Value) : Own w0 (w.setCell p u) v zs := by
  obtain ⟨hb, hby, hl, h⟩ := h
  refine ⟨hb.setCell hp _, hby, hl, ?_⟩
  rcases h with h | ⟨q, cap, cur, rfl, hg, hh, r⟩
  · exact .inl h
  · exact .inr ⟨q, cap, cur, rfl, hg, (Below.heap_setCell _ _ _ _ (by intro e; apply hv; rw [e]; rfl)).trans hh, r⟩
theorem own_ge {w0 w : World} {v : Value} {zs : List Int} (h : Own w0 w v zs) {i : Nat} (hi : v.ownBlock = some i) : w0.heap.size ≤ i := by
  rcases h.2.2.2 with ⟨rfl, _⟩ | ⟨q, cap, cur, rfl, hg, _⟩
  · cases hi
  · cases hi; exact hg
set_option maxRecDepth 100000 in
set_option maxHeartbeats 3200000 in
theorem survivor_any (A : Option Addr) (n cap s : Nat) (k : Int) (zs : List Int) (w : World) (hr : Sl w A n cap zs) (hs : s ≤ n) (hn : n ≤ 16777216) :
    Calls Tryz.prog 44 #[.agg #[.slice A n cap, .int .i64 (s : Int)], .int .i64 k] w fun e w' => ∃ v, e = .returned (.agg #[v, .int .i64 (nstay k n s : Nat)]) ∧ Own w w' v (zs.take (nstay k n s)) := by
  obtain ⟨E, hE⟩ : ∃ E, E = nstay k n s := ⟨_, rfl⟩
  have hEn : E ≤ n := by rw [hE]; unfold nstay; omega
  have hle := hr.2.1
  rw [← hE]
  have hsum : (s : Int) + min (max k 0) ((n : Int) - (s : Int)) = (E : Int) := by rw [hE]; unfold nstay; omega
  have hmin : IntKind.i64.wrap ((n : Int) - (s : Int)) = (n : Int) - (s : Int) := IntWalk.i64_in _ (by omega)
  have hb2 : Below w.heap.size w ((w.alloc (.cells #[.slice A n cap, .int .i64 (s : Int)] 82)).alloc (.cells #[.slice none 0 0, .int .i64 0] 82)) := ((Below.refl _ _).alloc (Nat.le_refl _) _).alloc (by simp) _
  have hC := clone_any A E cap (zs.take E) _ ((hr.1.cut E hEn).below hb2) hr.2.2.2.1 (by omega)
  have hN : ((w.alloc (.cells #[.slice A n cap, .int .i64 (s : Int)] 82)).alloc (.cells #[.slice none 0 0, .int .i64 0] 82)).heap[w.heap.size + 1]? = some (.cells #[.slice none 0 0, .int .i64 0] 82 (0, 0)) := by
    have := heap_alloc_new (w.alloc (.cells #[.slice A n cap, .int .i64 (s : Int)] 82)) (.cells #[.slice none 0 0, .int .i64 0] 82)
    rwa [size_up] at this
  have hsz : ((w.alloc (.cells #[.slice A n cap, .int .i64 (s : Int)] 82)).alloc (.cells #[.slice none 0 0, .int .i64 0] 82)).heap.size = w.heap.size + 1 + 1 := by rw [size_up, size_up]
  have HC := Lib.hid hC
  have HB := Lib.hid hb2
  have HN := Lib.hid hN
  have HSZ := Lib.hid hsz
  have HL := Lib.hid (show (zs.take E).length = E by rw [List.length_take, hr.1.1]; omega)
  clear hr hE hC hb2 hN hsz
  go_enter Tryz.func44, Tryz.ntmps44
  go_wp2_with (go_at_call 83; refine HC.out.mono ?_; rintro e w' ⟨v, rfl, hO⟩; have hN' := (hO.1.block (w.heap.size + 1) (by rw [HSZ.out]; omega)).trans HN.out; have k0 := cell_of_row w' (w.heap.size + 1) 0 _ _ (0, 0) hN'; have k1 := cell_of_row w' (w.heap.size + 1) 1 _ _ (0, 0) hN'; have z0 := frozen_of_row w' (w.heap.size + 1) 0 _ _ hN'; have z1 := frozen_of_row w' (w.heap.size + 1) 1 _ _ hN'; have HO := Lib.hid hO; obtain ⟨A2, c2, hv2, _, _⟩ := hO.form E HL.out; subst hv2; have HN2 := Lib.hid hN'; clear hO hN')
  have hG := heap_setCell_same _ (w.heap.size + 1) 1 _ _ (.int .i64 (E : Int)) (heap_setCell_same w' (w.heap.size + 1) 0 _ _ (.slice A2 E c2) HN2.out)
  refine bodyPost_ret (results_cell_row rfl _ _ (w.heap.size + 1) _ #[.slice A2 E c2, .int .i64 (E : Int)] (0, 0) _ rfl hG Tryz.underlying82 rfl (by kernel_rfl)) rfl ?_
  have hO2 : Own w w' (.slice A2 E c2) (zs.take E) := HO.out.since HB.out
  have hne : (Value.slice A2 E c2).ownBlock ≠ some (w.heap.size + 1) := fun h => by have := own_ge HO.out h; rw [HSZ.out] at this; omega
  exact ⟨_, rfl, own_set (own_set hO2 ⟨w.heap.size + 1, 0, none⟩ (by simp) hne _) ⟨w.heap.size + 1, 1, none⟩ (by simp) hne _⟩
end Go.Proofs.YtejphnbhcabchaaGreat.Dk

namespace Go.Proofs.YtejphnbhcabchaaGreat.Dk
open Go.RowKit Go.Proofs.YtejphnbhcabchaaGreat.Fld

theorem nstay_le {k : Int} {n s : Nat} (h : s ≤ n) : nstay k n s ≤ n := by unfold nstay; omega
theorem Good.crash1 {t : St} (h : Good t) {x : Nm} {f : Fil} (hg : fget x t.fs = some f) (E : Nat) (hE : E ≤ f.2.1.length) : Good { t with fs := fput (x, f.2.1.take E, E) t.fs } ∧ total (fput (x, f.2.1.take E, E) t.fs) + (f.2.1.length - E) = total t.fs := by
  obtain ⟨h1, h2⟩ := get_some hg
  have ht : total (fput (x, f.2.1.take E, E) t.fs) + (f.2.1.length - E) = total t.fs := by
    rw [total_put]
    have := total_del h.up hg
    simp only [List.length_take]
    omega
  refine ⟨h.put (x, f.2.1.take E, E) (by rw [← h2]; exact h.name f h1) (by simp; omega) (fun c hc => h.byte f h1 c (List.mem_of_mem_take hc)) ?_, ht⟩
  have := h.fits
  omega
/-- memory behind one round -/
theorem crash_mid {wr w' : World} {g b : Nat} {m : List Ent} {t : St} {s : ByteArray} {e : Ent} (h : Im wr g b m t) (hm : t.fs.length ≤ 1000000) (hs : s.size ≤ maxLen) (hf : found m s = some e) (E : Nat) (hE : E ≤ e.zs.length) (v : Value) (hO : Own wr w' v (e.zs.take E)) :
    ∃ (T2 : Nat) (W4 : World), T2 + (e.zs.length - E) = total t.fs ∧
      (Instr.mapUpdate 69 (.map (some b)) (.string s) (.agg #[v, .int .i64 (E : Int)])).run Tryz.prog (((w'.setCell ⟨g, 2, none⟩ (.int .i64 (T2 : Int))).alloc (.cells #[v, .int .i64 (E : Int)] 82)).drew.drew) = .ok () W4 ∧
      Left wr g b m { t with fs := fput (s.data.toList, e.zs.take E, E) t.fs } W4 ∧ Fr (g :: b :: []) wr W4 := by
  obtain ⟨n1, n2, n3⟩ := h.ne
  obtain ⟨he1, he2⟩ := get_some hf
  have hg : fget s.data.toList t.fs = some e.fil := by rw [h.get, hf]; rfl
  obtain ⟨hgood, htot⟩ := h.good.crash1 hg E hE
  have hI := h.below hO.1
  refine ⟨total (fput (s.data.toList, e.zs.take E, E) t.fs), ?_⟩
  obtain ⟨T2, hT2⟩ : ∃ T2, T2 = total (fput (s.data.toList, e.zs.take E, E) t.fs) := ⟨_, rfl⟩
  rw [← hT2]
  have hown3 : (((w'.setCell ⟨g, 2, none⟩ (.int .i64 (T2 : Int))).alloc (.cells #[v, .int .i64 (E : Int)] 82)).drew.drew).ownsMap Tryz.prog 9 R1 b m.length (dOf m) := (((hI.own.setCell (a := ⟨g, 2, none⟩) (Ne.symm n1) _).alloc _).drew).drew
  obtain ⟨W4, hup, hown4, hturn⟩ := store1 hown3 (by rw [h.len]; exact hm) s hs ⟨s.data.toList, v, e.zs.take E, E⟩ rfl
  have hsz : w'.heap.size ≤ (((w'.setCell ⟨g, 2, none⟩ (.int .i64 (T2 : Int))).alloc (.cells #[v, .int .i64 (E : Int)] 82)).drew.drew).heap.size := by
    show w'.heap.size ≤ ((w'.setCell ⟨g, 2, none⟩ (.int .i64 (T2 : Int))).alloc _).heap.size
    rw [size_up]
    simp [World.setCell]
  have late : ∀ i, i < w'.heap.size → i ≠ g → i ≠ b → W4.heap[i]? = w'.heap[i]? := by
    intro i hi h1 h2
    rw [hturn.grown.block i (by omega) (by simpa using h2)]
    show ((w'.setCell ⟨g, 2, none⟩ (.int .i64 (T2 : Int))).alloc _).heap[i]? = _
    rw [Below.heap_alloc _ _ _ (by simpa [World.setCell] using hi), Below.heap_setCell _ _ _ _ h1]
  have hD : Dsk W4 g (t.room : Int) b (T2 : Int) t.off t.fail.isSome ((t.fail.getD 0 : Nat) : Int) t.arm.isSome ((t.arm.getD 0 : Nat) : Int) := by
    refine Dsk.of_block (Dsk.set2 hI.dsk (T2 : Int)) ?_
    rw [hturn.grown.block g (by have := hI.dsk.lt; omega) (by simpa using n1)]
    show ((w'.setCell ⟨g, 2, none⟩ (.int .i64 (T2 : Int))).alloc _).heap[g]? = _
    exact Below.heap_alloc _ _ _ (by have := hI.dsk.lt; simpa [World.setCell] using this)
  have hfr : Fr [g, b] wr W4 := by
    refine ⟨?_, ?_, ?_, ?_, ?_⟩
    · exact hturn.grown.os.trans hO.1.os
    · exact hturn.grown.tape.trans hO.1.tape
    · exact hturn.grown.output.trans hO.1.output
    · exact Nat.le_trans hO.1.size (Nat.le_trans hsz hturn.grown.size)
    · intro k hk hn
      simp only [List.mem_cons, List.not_mem_nil, or_false, not_or] at hn
      rw [late k (Nat.lt_of_lt_of_le hk hO.1.size) hn.1 hn.2, hO.1.block k hk]
  have hvb : ∀ i, v.ownBlock = some i → wr.heap.size ≤ i ∧ i < w'.heap.size := by
    intro i hi
    refine ⟨own_ge hO hi, ?_⟩
    rcases hO.2.2.2 with ⟨hv, _⟩ | ⟨q, cap, cur, hv, _, hq, _⟩
    · rw [hv] at hi; cases hi
    · rw [hv] at hi; cases hi; exact (Array.getElem?_eq_some_iff.1 hq).1
  have hlt := h.lt
  refine ⟨W4, by rw [hT2]; exact htot, hup, ⟨_, h.stored ⟨s.data.toList, v, e.zs.take E, E⟩ ?_ hown4 rfl hgood ?_ ?_ ?_ rfl rfl, hfr.mono (by simp), ?_⟩, hfr⟩
  · unfold DskT
    simp only [← hT2]
    exact hD
  · refine (show FileAt w' ⟨s.data.toList, v, e.zs.take E, E⟩ from ⟨hO.2.1, hO.2.2.1, ?_⟩).of_block fun i hi => ?_
    · rcases hO.2.2.2 with h | ⟨q, cap, cur, hv, hg, r⟩
      · exact .inl h
      · exact .inr ⟨q, cap, cur, hv, Nat.zero_le _, r⟩
    · obtain ⟨h1, h2⟩ := hvb i hi
      exact late i h2 (by have := hlt g (by simp); omega) (by have := hlt b (by simp); omega)
  · intro a ha _
    refine (h.file a ha).of_block fun i hi => ?_
    have hib : i ∈ blks m := mem_blks.2 ⟨a, ha, hi⟩
    exact hfr.block i ((h.file a ha).lt hi) (by
      simp only [List.mem_cons, List.not_mem_nil, or_false, not_or]
      exact ⟨fun e => n2 (e ▸ hib), fun e => n3 (e ▸ hib)⟩)
  · intro i hi hm
    obtain ⟨h1, _⟩ := hvb i hi
    have : i < wr.heap.size := hlt i (by
      simp only [List.mem_cons] at hm ⊢
      rcases hm with hm | hm | hm
      · exact .inl hm
      · exact .inr (.inl hm)
      · exact .inr (.inr (blks_del hm)))
    omega
  · intro i hi
    obtain ⟨a, ha, hv⟩ := mem_blks.1 hi
    rcases mem_put.1 ha with rfl | ⟨ha, _⟩
    · exact .inr (hvb i hv).1
    · exact .inl (mem_blks.2 ⟨a, ha, hv⟩)

/-! ### the files, one by one -/
theorem crashTo_len (i : Nat) (ks : List Int) (fs : List Fil) : (crashTo i ks fs).length = fs.length := by simp [crashTo]
theorem crashTo_at (i : Nat) (ks : List Int) (fs : List Fil) (j : Nat) : (crashTo i ks fs)[j]? = (fs[j]?).map fun f => if j < i then crash1 (ks.getD j 0) f else f := by
  unfold crashTo
  rw [List.getElem?_mapIdx]
theorem crashTo_zero (ks : List Int) (fs : List Fil) : crashTo 0 ks fs = fs := by
  apply List.ext_getElem?
  intro j
  rw [crashTo_at]
  cases fs[j]? <;> simp
theorem crashTo_key (i : Nat) (ks : List Int) (fs : List Fil) (j : Nat) : (crashTo i ks fs)[j]?.map Prod.fst = fs[j]?.map Prod.fst := by
  rw [crashTo_at]
  cases fs[j]? with
  | none => rfl
  | some f =>
    simp only [Option.map_some]
    split <;> rfl
theorem crash_step (k : Nat) (ks : List Int) (fs : List Fil) (h : Up Prod.fst (crashTo k ks fs)) (f : Fil) (hf : fs[k]? = some f) : crashTo (k + 1) ks fs = fput (crash1 (ks.getD k 0) f) (crashTo k ks fs) := by
  have hk : k < fs.length := (List.getElem?_eq_some_iff.1 hf).1
  have hk2 : k < (crashTo k ks fs).length := by rw [crashTo_len]; exact hk
  have hat : (crashTo k ks fs)[k]? = some f := by rw [crashTo_at, hf]; simp
  have hat2 : (crashTo k ks fs)[k] = f := by rw [List.getElem?_eq_getElem hk2] at hat; exact Option.some.inj hat
  have := put_at h (crash1 (ks.getD k 0) f) k hk2 (by rw [hat2]; rfl)
  unfold fput
  rw [this]
  apply List.ext_getElem?
  intro j
  rw [crashTo_at, List.getElem?_set, crashTo_at]
  by_cases hj : k = j
  · subst hj
    rw [if_pos rfl, if_pos hk2, hf]
    simp
  · rw [if_neg hj]
    cases fs[j]? with
    | none => rfl
    | some f2 =>
      simp only [Option.map_some]
      congr 1
      by_cases h1 : j < k
      · rw [if_pos h1, if_pos (by omega)]
      · rw [if_neg h1, if_neg (by omega)]
/-- a slice of integers -/
def RdI (w : World) (A : Option Addr) (n : Nat) (ks : List Int) : Prop :=
  ks.length = n ∧ n ≤ maxLen ∧ (0 < n → ∃ b off, A = some ⟨b, off, none⟩ ∧ ∀ i, i < n → w.cell? ⟨b, off + i, none⟩ = some (.int .i64 (ks.getD i 0)))
theorem RdI.fr {S : List Nat} {w w' : World} {A : Option Addr} {n : Nat} {ks : List Int} (h : RdI w A n ks) (hf : Fr S w w') (hS : 0 < n → ∀ a, A = some a → a.block ∉ S) : RdI w' A n ks := by
  obtain ⟨h1, h2, h3⟩ := h
  refine ⟨h1, h2, fun hn => ?_⟩
  obtain ⟨b, off, rfl, hc⟩ := h3 hn
  exact ⟨b, off, rfl, fun i hi => hf.cell (hc i hi) (hS hn ⟨b, off, none⟩ rfl)⟩
theorem RdS.fr {S : List Nat} {w w' : World} {A : Option Addr} {n : Nat} {ks : List ByteArray} (h : RdS w A n ks) (hf : Fr S w w') (hS : ∀ a, A = some a → a.block ∉ S) : RdS w' A n ks := by
  obtain ⟨h1, h2, h3⟩ := h
  refine ⟨h1, h2, fun hn => ?_⟩
  obtain ⟨b, off, rfl, hc⟩ := h3 hn
  exact ⟨b, off, rfl, fun i hi => hf.cell (hc i hi) (hS ⟨b, off, none⟩ rfl)⟩
theorem Left.trans {w w1 w2 : World} {g b : Nat} {m m1 : List Ent} {t2 : St} (hf : Fr (g :: b :: blks m) w w1) (hb : ∀ i ∈ blks m1, i ∈ blks m ∨ w.heap.size ≤ i) (h2 : Left w1 g b m1 t2 w2) : Left w g b m t2 w2 := by
  obtain ⟨m2, hI, hf2, hb2⟩ := h2
  refine ⟨m2, hI, hf.trans hf2 ?_, ?_⟩
  · intro i hi
    simp only [List.mem_cons] at hi ⊢
    rcases hi with hi | hi | hi
    · exact .inl (.inl hi)
    · exact .inl (.inr (.inl hi))
    · rcases hb i hi with h | h
      · exact .inl (.inr (.inr h))
      · exact .inr h
  · intro i hi
    rcases hb2 i hi with h | h
    · exact hb i h
    · exact .inr (Nat.le_trans hf.size h)
theorem Im.restart {w : World} {g b : Nat} {m : List Ent} {t : St} (h : Im w g b m t) :
    Im (((((w.setCell ⟨g, 3, none⟩ (.bool false)).setCell ⟨g, 4, none⟩ (.bool false)).setCell ⟨g, 5, none⟩ (.int .i64 0)).setCell ⟨g, 6, none⟩ (.bool false)).setCell ⟨g, 7, none⟩ (.int .i64 0)) g b m { t with off := false, fail := none, arm := none } ∧
    Fr [g] w (((((w.setCell ⟨g, 3, none⟩ (.bool false)).setCell ⟨g, 4, none⟩ (.bool false)).setCell ⟨g, 5, none⟩ (.int .i64 0)).setCell ⟨g, 6, none⟩ (.bool false)).setCell ⟨g, 7, none⟩ (.int .i64 0)) := by
  have hf : Fr [g] w (((((w.setCell ⟨g, 3, none⟩ (.bool false)).setCell ⟨g, 4, none⟩ (.bool false)).setCell ⟨g, 5, none⟩ (.int .i64 0)).setCell ⟨g, 6, none⟩ (.bool false)).setCell ⟨g, 7, none⟩ (.int .i64 0)) :=
    (((((Fr.refl [g] w).setCell _ (.inl (by simp)) _).setCell _ (.inl (by simp)) _).setCell _ (.inl (by simp)) _).setCell _ (.inl (by simp)) _).setCell _ (.inl (by simp)) _
  obtain ⟨n1, n2, n3⟩ := h.ne
  refine ⟨⟨((((Dsk.set3 h.dsk false).set4 false).set5 0).set6 false).set7 0, own_of_block h.own (hf.block b h.own.lt (by simpa using Ne.symm n1)), h.fs, fun e he => (h.file e he).of_block fun i hi => hf.block i ((h.file e he).lt hi) (by
    intro hm
    simp only [List.mem_singleton] at hm
    exact n2 (mem_blks.2 ⟨e, he, by rw [← hm]; exact hi⟩)), h.nodup, ⟨h.good.1, h.good.2, h.good.3, h.good.4, h.good.5, h.good.6, h.good.7⟩, (fun k hk => by cases hk), (fun k hk => by cases hk)⟩, hf⟩
end Go.Proofs.YtejphnbhcabchaaGreat.Dk

namespace Go.Proofs.YtejphnbhcabchaaGreat.Dk
open Go.RowKit Go.Proofs.YtejphnbhcabchaaGreat.Fld

def CrR (w1 : World) (g b : Nat) (m : List Ent) (t : St) (ks : List Int) (i : Value) (wr : World) : Prop := ∃ k : Nat, k ≤ m.length ∧ i = .int .i64 (k : Int) ∧ Left w1 g b m { t with fs := crashTo k ks t.fs } wr
/-- the entry of a round -/
theorem crash_ent {wr w1 : World} {g b : Nat} {m m' : List Ent} {t : St} {ks : List Int} {k : Nat} (h : Im w1 g b m t) (h' : Im wr g b m' { t with fs := crashTo k ks t.fs }) (hk : k < m.length) :
    ∃ e f, found m' ((m.map fun e => (⟨e.nm.toArray⟩ : ByteArray)).getD k ⟨#[]⟩) = some e ∧ t.fs[k]? = some f ∧ e.fil = f ∧ ((m.map fun e => (⟨e.nm.toArray⟩ : ByteArray)).getD k ⟨#[]⟩).data.toList = f.1 := by
  have hkl : k < t.fs.length := by rw [← h.len]; exact hk
  obtain ⟨f, hf⟩ : ∃ f, t.fs[k]? = some f := ⟨_, List.getElem?_eq_getElem hkl⟩
  have hk' : k < m'.length := by rw [h'.len]; simp only [crashTo_len]; exact hkl
  have hef : (m'[k]).fil = f := by
    have h1 : (m'.map Ent.fil)[k]? = some f := by
      rw [← h'.fs]
      show (crashTo k ks t.fs)[k]? = _
      rw [crashTo_at, hf]
      simp
    rw [List.getElem?_map, List.getElem?_eq_getElem hk', Option.map_some] at h1
    exact Option.some.inj h1
  have hnm : ((m.map fun e => (⟨e.nm.toArray⟩ : ByteArray)).getD k ⟨#[]⟩).data.toList = f.1 := by
    have h1 : (m.map Ent.fil)[k]? = some f := by rw [← h.fs]; exact hf
    rw [List.getElem?_map, List.getElem?_eq_getElem hk, Option.map_some] at h1
    have h2 := Option.some.inj h1
    rw [List.getD_eq_getElem?_getD, List.getElem?_map, List.getElem?_eq_getElem hk, Option.map_some, Option.getD_some]
    rw [← h2]
    rfl
  refine ⟨m'[k], f, ?_, hf, hef, hnm⟩
  unfold found
  rw [hnm, ← hef]
  exact get_mem h'.up (List.getElem_mem hk')
theorem wrap64_in (x : Int) (h1 : -1000000000 ≤ x) (h2 : x ≤ 1000000000) : wrap64 x = x := by unfold wrap64; omega
set_option maxRecDepth 100000 in
set_option maxHeartbeats 3200000 in
theorem crash_any (g b : Nat) (m : List Ent) (t : St) (A : Option Addr) (n cap : Nat) (ks : List Int) (w : World) (h : Im w g b m t) (hm : t.fs.length ≤ 1000000) (hr : RdI w A n ks) (hA : 0 < n → ∀ a, A = some a → a.block ∉ g :: b :: blks m) :
    Calls Tryz.prog 19 #[.pointer (some ⟨g, 0, none⟩), .slice A n cap] w fun e w' => e = .returned (.tuple #[]) ∧ Left w g b m (stCrash ks t) w' := by
  have hml : m.length ≤ 1000000 := by rw [h.len]; exact hm
  have HI := Lib.hid h
  have HN := Lib.hid (names_any g b m t w h hm)
  have HR := Lib.hid hr
  have HA := Lib.hid hA
  have hnl := hr.2.1
  have HKL := Lib.hid hr.1
  unfold maxLen at hnl
  clear h hr hA
  go_enter Tryz.func19, Tryz.ntmps19
  go_wp2_with (go_at_call 43; refine HN.out.mono ?_; rintro e w1 ⟨NA, ncap, rfl, hRS, hNb, hB⟩; have HRS := Lib.hid hRS; have HNB := Lib.hid hNb; have HB := Lib.hid hB; clear hRS hNb hB)
  have HI1 := Lib.hid (HI.out.below HB.out)
  have HLT := Lib.hid HI.out.lt
  have HRK := Lib.hid (HR.out.fr (Fr.below (S := []) HB.out) (by simp))
  go_loopw [11] (fun i wr => CrR w1 g b m t ks i wr) (fun i _ => m.length - (intOf i).toNat)
  case atStart => exact ⟨0, Nat.zero_le _, rfl, by rw [crashTo_zero]; exact Left.same HI1.out⟩
  case round =>
    obtain ⟨k, hk, rfl, hL⟩ := hrel
    obtain ⟨m', hI', hF', hb'⟩ := hL
    by_cases hlt : k < m.length
    · obtain ⟨e, f, hfd, hfk, hef, hnm⟩ := crash_ent HI1.out hI' hlt
      have hRS := HRS.out.fr hF' (by
        intro a ha hmm
        have h1 := HNB.out a ha
        have h2 := HLT.out _ hmm
        omega)
      have hRK := HRK.out.fr hF' HA.out
      obtain ⟨nb, noff, rfl, hnc⟩ := hRS.2.2 (by omega)
      have hcn := hnc k hlt
      clear hnc
      generalize (m.map fun e => (⟨e.nm.toArray⟩ : ByteArray)).getD k ⟨#[]⟩ = s at *
      have hok : okN s.data.toList = true := by rw [hnm]; exact HI1.out.good.name f (List.mem_of_getElem? hfk)
      have hs := size_of_ok hok
      obtain ⟨EA, ecap, hev, hsl⟩ := (hI'.file e (get_some hfd).1).form
      have hes : e.s ≤ e.zs.length := by
        have := hI'.good.synced e.fil (by rw [hI'.fs]; exact List.mem_map.2 ⟨e, (get_some hfd).1, rfl⟩)
        exact this
      have hel : e.zs.length ≤ 16777216 := by
        have h1 := total_del (f := e.fil) hI'.good.up (x := s.data.toList) (by rw [hI'.get, hfd]; rfl)
        have h2 := hI'.good.fits
        have h3 := hI'.good.room2
        have h4 : e.fil.2.1.length = e.zs.length := rfl
        omega
      obtain ⟨c0, c1, c2, c3, c4, c5, c6, c7⟩ := Dsk.cells hI'.dsk
      have hfv : foundV m' s = .agg #[.slice EA e.zs.length ecap, .int .i64 (e.s : Int)] := by unfold foundV; rw [hfd, Option.map_some, Option.getD_some, Ent.val, hev]
      have hlk := look1 hI'.own s hs
      rw [hfv] at hlk
      obtain ⟨K, hK⟩ : ∃ K, K = ks.getD k 0 := ⟨_, rfl⟩
      obtain ⟨E, hE⟩ : ∃ E, E = nstay K e.zs.length e.s := ⟨_, rfl⟩
      have hEl : E ≤ e.zs.length := by rw [hE]; exact nstay_le hes
      have hsv := survivor_any EA e.zs.length ecap e.s K e.zs wr hsl hes hel
      rw [← hE] at hsv
      have hlen : (crashTo k ks t.fs).length ≤ 1000000 := by rw [crashTo_len]; exact hm
      have hTR : total (crashTo k ks t.fs) ≤ 16777216 := Nat.le_trans hI'.good.fits hI'.good.room2
      have hst : ({ ({ t with fs := crashTo k ks t.fs } : St) with fs := fput (s.data.toList, e.zs.take E, E) (crashTo k ks t.fs) } : St) = { t with fs := crashTo (k + 1) ks t.fs } := by
        have h1 := crash_step k ks t.fs hI'.good.up f hfk
        rw [h1, hnm, ← hef, ← hK, hE]
        rfl
      have HMID := Lib.hid (fun (w' : World) (v : Value) (hO : Own wr w' v (e.zs.take E)) => crash_mid (s := s) hI' hlen hs hfd E hEl v hO)
      have HLEFT := Lib.hid (fun (W4 : World) (hL : Left wr g b m' { t with fs := crashTo (k + 1) ks t.fs } W4) => Left.trans (w := w1) (m := m) hF' hb' hL)
      rw [hst] at HMID
      have HD := Lib.hid (fun (w' : World) (hB : Below wr.heap.size wr w') => hI'.below hB)
      have HTL := Lib.hid (show (e.zs.take E).length = E by rw [List.length_take]; omega)
      have HLK := Lib.hid (fun (w' : World) (hB : Below wr.heap.size wr w') (o : Obj) => (look1 (((hI'.below hB).own.alloc o).drew) s hs).trans (by rw [hfv]))
      have HSV := Lib.hid hsv
      clear hsv hst hI' hF' hb' hRS hsl hfv hev hef hfk hfd HRS HNB HI1 HRK HI HN
      have hRK2 := hRK.2.2
      have hcell : k < n → ∃ kb koff, A = some ⟨kb, koff, none⟩ ∧ wr.cell? ⟨kb, koff + k, none⟩ = some (.int .i64 K) := by
        intro hkn
        obtain ⟨kb, koff, h1, h2⟩ := hRK2 (by omega)
        exact ⟨kb, koff, h1, by rw [hK]; exact h2 k hkn⟩
      have hzero : ¬ k < n → K = 0 := by
        intro hkn
        rw [hK, List.getD_eq_getElem?_getD, List.getElem?_eq_none (by rw [hRK.1]; omega)]
        rfl
      clear hRK hRK2 hK HR HA HKL
      simp only at c0 c1 c2 c3 c4 c5 c6 c7
      generalize hT : total (crashTo k ks t.fs) = T at *
      have HTT := Lib.hid hT
      clear hT
      generalize hL : e.zs.length = L at *
      clear hL hE
      have hfld := field0 EA L ecap (e.s : Int)
      by_cases hkn : k < n
      · obtain ⟨kb, koff, rfl, hkc⟩ := hcell hkn
        clear hcell hzero
        go_wp2_with fail
        refine HSV.out.mono ?_
        rintro e2 w' ⟨v, rfl, hO⟩
        obtain ⟨T2, W4, hT2, hup, hLf, _⟩ := HMID.out w' v hO
        have HLf := Lib.hid (HLEFT.out W4 hLf)
        obtain ⟨A2, c2', hv2, _, _⟩ := hO.form E HTL.out
        subst hv2
        have hI2 := HD.out w' hO.1
        have hlk2 := HLK.out w' hO.1
        obtain ⟨d0, d1, d2, d3, d4, d5, d6, d7⟩ := Dsk.cells hI2.dsk
        have z2 := Dsk.free hI2.dsk 2
        have d2' : w'.cell? ⟨g, 2, none⟩ = some (.int .i64 (T : Int)) := by rw [← HTT.out]; exact d2
        clear d2
        have y2 := fun o => cell_past d2' o
        have y1 := fun o => cell_past d1 o
        have e1 : (T : Int) - ((L : Int) - (E : Int)) = (T2 : Int) := by omega
        have e2 : IntKind.i64.wrap ((L : Int) - (E : Int)) = (L : Int) - (E : Int) := IntWalk.i64_in _ (by omega)
        have e3 : IntKind.i64.wrap (T2 : Int) = (T2 : Int) := IntWalk.i64_in _ (by omega)
        have hgw := hI2.dsk.lt
        have e4 : wrap64 (T2 : Int) = (T2 : Int) := wrap64_in _ (by omega) (by omega)
        have e5 : wrap64 ((L : Int) - (E : Int)) = (L : Int) - (E : Int) := wrap64_in _ (by omega) (by omega)
        clear hO hI2 hLf hT2 HMID HLEFT HSV HD HLK
        go_wp2_with fail
        go_region
        go_wp2_with fail
        go_region
        go_wp2
        go_roundw
        case rel => exact ⟨k + 1, by omega, by go_num, HLf.out⟩
        case measure => simp [intOf]; omega
      · obtain rfl := hzero hkn
        clear hcell hzero
        go_wp2_with fail
        refine HSV.out.mono ?_
        rintro e2 w' ⟨v, rfl, hO⟩
        obtain ⟨T2, W4, hT2, hup, hLf, _⟩ := HMID.out w' v hO
        have HLf := Lib.hid (HLEFT.out W4 hLf)
        obtain ⟨A2, c2', hv2, _, _⟩ := hO.form E HTL.out
        subst hv2
        have hI2 := HD.out w' hO.1
        have hlk2 := HLK.out w' hO.1
        obtain ⟨d0, d1, d2, d3, d4, d5, d6, d7⟩ := Dsk.cells hI2.dsk
        have z2 := Dsk.free hI2.dsk 2
        have d2' : w'.cell? ⟨g, 2, none⟩ = some (.int .i64 (T : Int)) := by rw [← HTT.out]; exact d2
        clear d2
        have y2 := fun o => cell_past d2' o
        have y1 := fun o => cell_past d1 o
        have e1 : (T : Int) - ((L : Int) - (E : Int)) = (T2 : Int) := by omega
        have e2 : IntKind.i64.wrap ((L : Int) - (E : Int)) = (L : Int) - (E : Int) := IntWalk.i64_in _ (by omega)
        have e3 : IntKind.i64.wrap (T2 : Int) = (T2 : Int) := IntWalk.i64_in _ (by omega)
        have hgw := hI2.dsk.lt
        have e4 : wrap64 (T2 : Int) = (T2 : Int) := wrap64_in _ (by omega) (by omega)
        have e5 : wrap64 ((L : Int) - (E : Int)) = (L : Int) - (E : Int) := wrap64_in _ (by omega) (by omega)
        clear hO hI2 hLf hT2 HMID HLEFT HSV HD HLK
        go_wp2_with fail
        go_region
        go_wp2_with fail
        go_region
        go_wp2
        go_roundw
        case rel => exact ⟨k + 1, by omega, by go_num, HLf.out⟩
        case measure => simp [intOf]; omega
    · obtain rfl : k = m.length := by omega
      have hS : ({ ({ t with fs := crashTo m.length ks t.fs } : St) with off := false, fail := none, arm := none } : St) = stCrash ks t := by
        unfold stCrash
        rw [← HI1.out.len]
      obtain ⟨c0, c1, c2, c3, c4, c5, c6, c7⟩ := Dsk.cells hI'.dsk
      have z3 := Dsk.free hI'.dsk 3
      have z4 := Dsk.free hI'.dsk 4
      have z5 := Dsk.free hI'.dsk 5
      have z6 := Dsk.free hI'.dsk 6
      have z7 := Dsk.free hI'.dsk 7
      have hRS := hI'.restart
      rw [hS] at hRS
      have HF := Lib.hid (show Left w g b m (stCrash ks t) _ from Left.after (Fr.below (S := []) HB.out) (by simp) (Left.trans hF' hb' ⟨m', hRS.1, hRS.2.mono (by simp), fun i hi => .inl hi⟩))
      clear hI' hF' hb' hRS hS
      go_wp2
      go_end0
      exact ⟨rfl, HF.out⟩
end Go.Proofs.YtejphnbhcabchaaGreat.Dk

namespace Go.Proofs.YtejphnbhcabchaaGreat.Dk
open Go.RowKit Go.Proofs.YtejphnbhcabchaaGreat.Fld

/-- the file of that name, or the zero one -/
def here (m : List Ent) (s : ByteArray) : Ent := (found m s).getD ⟨s.data.toList, .slice none 0 0, [], 0⟩
theorem here_val (m : List Ent) (s : ByteArray) : foundV m s = (here m s).val := by
  unfold here foundV
  cases found m s <;> rfl
theorem here_nm (m : List Ent) (s : ByteArray) : (here m s).nm = s.data.toList := by
  unfold here
  cases hf : found m s with
  | none => rfl
  | some e => exact (get_some hf).2
theorem here_file {w : World} {g b : Nat} {m : List Ent} {t : St} (h : Im w g b m t) (s : ByteArray) : FileAt w (here m s) := by
  unfold here
  cases hf : found m s with
  | none => exact ⟨bytes_nil, rfl, .inl ⟨rfl, rfl⟩⟩
  | some e => exact h.file e (get_some hf).1
theorem here_block {g b : Nat} {m : List Ent} {s : ByteArray} {i : Nat} (hn : (g :: b :: blks m).Nodup) (hu : Up Ent.nm m) (hi : (here m s).v.ownBlock = some i) : i ∈ blks m ∧ i ∉ g :: b :: blks (del Ent.nm s.data.toList m) := by
  unfold here at hi
  cases hf : found m s with
  | none => rw [hf] at hi; cases hi
  | some e =>
    rw [hf] at hi
    obtain ⟨h1, h2⟩ := get_some hf
    have := apart hn hu h1 hi
    rw [h2] at this
    exact ⟨mem_blks.2 ⟨e, h1, hi⟩, this⟩
theorem here_app {w : World} {g b : Nat} {m : List Ent} {t : St} (h : Im w g b m t) (s : ByteArray) (ys : List Int) : appFs s.data.toList ys t.fs = fput (s.data.toList, (here m s).zs ++ ys, (here m s).s) t.fs := by
  unfold appFs here
  rw [h.get]
  cases found m s <;> rfl
theorem here_len {w : World} {g b : Nat} {m : List Ent} {t : St} (h : Im w g b m t) (s : ByteArray) : (here m s).zs.length ≤ total t.fs := by
  unfold here
  cases hf : found m s with
  | none => simp
  | some e =>
    have := total_del (f := e.fil) h.good.up (x := s.data.toList) (by rw [h.get, hf]; rfl)
    rw [this]
    exact Nat.le_add_right _ _
def bare (w : World) : World := { w with heap := #[] }
theorem FileAt.own {w : World} {e : Ent} (h : FileAt w e) : Own (bare w) w e.v e.zs := ⟨⟨rfl, rfl, rfl, Nat.zero_le _, fun k hk => absurd hk (by simp [bare])⟩, h.1, h.2⟩

theorem app_end {w W1 W2 W4 : World} {g b : Nat} {m : List Ent} {t : St} {s : ByteArray} (h : Im w g b m t) (ys : List Int) (hx : okN s.data.toList = true) (hys : Bytes ys) (hfit : total t.fs + ys.length ≤ t.room) (o : Obj) (hW1 : W1 = (w.alloc o).drew.drew)
    (v' : Value) (hO : Own (bare W1) W2 v' ((here m s).zs ++ ys)) (hg : W1.grownBy W2 (here m s).v.ownBlock) (hb : v'.ownBlock = (here m s).v.ownBlock ∨ v'.ownBlock = some W1.heap.size)
    (hturn : ((W2.setCell ⟨w.heap.size, 0, none⟩ v').drew).mapTurned W4 b)
    (ho : W4.ownsMap Tryz.prog 9 R1 b (put Ent.nm ⟨s.data.toList, v', (here m s).zs ++ ys, (here m s).s⟩ m).length (dOf (put Ent.nm ⟨s.data.toList, v', (here m s).zs ++ ys, (here m s).s⟩ m))) :
    Left w g b m { t with fs := appFs s.data.toList ys t.fs } ((W4.setCell ⟨g, 2, none⟩ (.int .i64 ((total t.fs + ys.length : Nat) : Int))).drew) := by
  obtain ⟨n1, n2, n3⟩ := h.ne
  have hlt := h.lt
  have hs1 : W1.heap.size = w.heap.size + 1 := by rw [hW1]; exact size_up w o
  have f1 : Fr (g :: b :: blks m) w W1 := by rw [hW1]; exact ((Fr.refl _ w).alloc o).drew.drew
  have hhb : ∀ i, (here m s).v.ownBlock = some i → i ∈ blks m ∧ i ∉ g :: b :: blks (del Ent.nm s.data.toList m) := fun i hi => here_block h.nodup h.up hi
  have f2 : Fr (g :: b :: blks m) w W2 := f1.grown hg (fun i hi => .inl (by simp [(hhb i hi).1]))
  have f3 : Fr (g :: b :: blks m) w (W2.setCell ⟨w.heap.size, 0, none⟩ v').drew := (f2.setCell ⟨w.heap.size, 0, none⟩ (.inr (Nat.le_refl _)) v').drew
  have f4 : Fr (g :: b :: blks m) w W4 := f3.turned hturn (.inl (by simp))
  have f5 : Fr (g :: b :: blks m) w (W4.setCell ⟨g, 2, none⟩ (.int .i64 ((total t.fs + ys.length : Nat) : Int))).drew := (f4.setCell ⟨g, 2, none⟩ (.inl (by simp)) _).drew
  have hs2 := hg.size
  -- a block that is none of these is as it was behind append
  have late : ∀ i, i < W2.heap.size → i ≠ g → i ≠ b → i ≠ w.heap.size → ((W4.setCell ⟨g, 2, none⟩ (.int .i64 ((total t.fs + ys.length : Nat) : Int))).drew).heap[i]? = W2.heap[i]? := by
    intro i hi h1 h2 h3
    show (W4.setCell ⟨g, 2, none⟩ _).heap[i]? = _
    rw [Below.heap_setCell _ _ _ _ h1, hturn.grown.block i (by show i < (W2.setCell ⟨w.heap.size, 0, none⟩ v').heap.size; simpa [World.setCell] using hi) (by simpa using h2)]
    show (W2.setCell ⟨w.heap.size, 0, none⟩ v').heap[i]? = _
    rw [Below.heap_setCell _ _ _ _ h3]
  have early : ∀ i, i < w.heap.size → (here m s).v.ownBlock ≠ some i → W2.heap[i]? = w.heap[i]? := by
    intro i hi hne
    rw [hg.block i (by omega) (Ne.symm hne), hW1]
    exact Below.heap_alloc _ _ _ hi
  have hdsk4 : W4.heap[g]? = w.heap[g]? := by
    rw [hturn.grown.block g (by show g < (W2.setCell ⟨w.heap.size, 0, none⟩ v').heap.size; have := h.dsk.lt; simp [World.setCell]; omega) (by simpa using n1)]
    show (W2.setCell ⟨w.heap.size, 0, none⟩ v').heap[g]? = _
    rw [Below.heap_setCell _ _ _ _ (by have := h.dsk.lt; simp; omega)]
    exact early g h.dsk.lt (fun hh => n2 (hhb g hh).1)
  have hown5 := (ho.setCell (a := ⟨g, 2, none⟩) (Ne.symm n1) (.int .i64 ((total t.fs + ys.length : Nat) : Int))).drew
  have hvb : ∀ i, v'.ownBlock = some i → i ∉ g :: b :: blks (del Ent.nm s.data.toList m) ∧ i < W2.heap.size ∧ i ≠ w.heap.size := by
    intro i hi
    have hi2 : i < W2.heap.size := by
      rcases hO.2.2.2 with ⟨hv, _⟩ | ⟨q, cap, cur, hv, _, hq, _⟩
      · rw [hv] at hi; cases hi
      · rw [hv] at hi; cases hi; exact (Array.getElem?_eq_some_iff.1 hq).1
    rcases hb with hb | hb
    · rw [hb] at hi
      refine ⟨(hhb i hi).2, hi2, ?_⟩
      have := hlt i (by simp [(hhb i hi).1])
      omega
    · rw [hb] at hi
      cases hi
      refine ⟨fun hm => ?_, hi2, by omega⟩
      have : W1.heap.size < w.heap.size := hlt _ (by
        simp only [List.mem_cons] at hm ⊢
        rcases hm with hm | hm | hm
        · exact .inl hm
        · exact .inr (.inl hm)
        · exact .inr (.inr (blks_del hm)))
      omega
  refine ⟨_, h.stored ⟨s.data.toList, v', (here m s).zs ++ ys, (here m s).s⟩ ?_ hown5 (here_app h s ys) (h.good.app _ _ hx hys hfit) ?_ ?_ (fun i hi => (hvb i hi).1) rfl rfl, f5, ?_⟩
  · have := Dsk.set2 (Dsk.of_block h.dsk hdsk4) ((total t.fs + ys.length : Nat) : Int)
    unfold DskT
    simp only [total_app h.good]
    exact this
  · refine (show FileAt W2 ⟨s.data.toList, v', (here m s).zs ++ ys, (here m s).s⟩ from ⟨hO.2.1, hO.2.2⟩).of_block fun i hi => ?_
    obtain ⟨h1, h2, h3⟩ := hvb i hi
    simp only [List.mem_cons, not_or] at h1
    exact late i h2 h1.1 h1.2.1 h3
  · intro a ha hn
    refine (h.file a ha).of_block fun i hi => ?_
    have hl := (h.file a ha).lt hi
    have hib : i ∈ blks m := mem_blks.2 ⟨a, ha, hi⟩
    rw [late i (by omega) (fun e => n2 (e ▸ hib)) (fun e => n3 (e ▸ hib)) (by omega)]
    refine early i hl fun hh => ?_
    exact (hhb i hh).2 (by simp only [List.mem_cons, mem_blks]; exact .inr (.inr ⟨a, mem_del.2 ⟨ha, hn⟩, hi⟩))
  · intro i hi
    obtain ⟨a, ha, hv⟩ := mem_blks.1 hi
    rcases mem_put.1 ha with rfl | ⟨ha, _⟩
    · rcases hb with hb | hb
      · rw [hb] at hv
        exact .inl (hhb i hv).1
      · rw [hb] at hv
        cases hv
        exact .inr (by omega)
    · exact .inl (mem_blks.2 ⟨a, ha, hv⟩)

theorem app_mid {w W1 w2 : World} {g b bd bb bn : Nat} {m : List Ent} {t : St} {s : ByteArray} {bv : Value} (h : Im w g b m t) (hm : t.fs.length ≤ 1000000) (hs : s.size ≤ maxLen)
    (od : bd ∉ g :: b :: blks m) (ob : bb ∉ g :: b :: blks m) (on : bn ∉ g :: b :: blks m)
    (hd : w.cell? ⟨bd, 0, none⟩ = some (.pointer (some ⟨g, 0, none⟩))) (hbb : w.cell? ⟨bb, 0, none⟩ = some bv) (hbn : w.cell? ⟨bn, 0, none⟩ = some (.string s))
    (v : Value) (k : Int) (hW1 : W1 = (w.alloc (.cells #[v, .int .i64 k] 82)).drew.drew) (hk : k = ((here m s).s : Int)) (hg : W1.grownBy w2 (here m s).v.ownBlock) (zs : List Int) (v1 : Value) :
    ∃ W4, (Instr.mapUpdate 69 (.map (some b)) (.string s) (.agg #[v1, .int .i64 k])).run Tryz.prog ((w2.setCell ⟨w.heap.size, 0, none⟩ v1).drew) = .ok () W4 ∧
      W4.ownsMap Tryz.prog 9 R1 b (put Ent.nm ⟨s.data.toList, v1, zs, (here m s).s⟩ m).length (dOf (put Ent.nm ⟨s.data.toList, v1, zs, (here m s).s⟩ m)) ∧ ((w2.setCell ⟨w.heap.size, 0, none⟩ v1).drew).mapTurned W4 b ∧
      w2.cell? ⟨w.heap.size, 0, none⟩ = some v ∧ w2.frozen? ⟨w.heap.size, 0, none⟩ = false ∧
      (w2.setCell ⟨w.heap.size, 0, none⟩ v1).cell? ⟨bd, 0, none⟩ = some (.pointer (some ⟨g, 0, none⟩)) ∧ (w2.setCell ⟨w.heap.size, 0, none⟩ v1).cell? ⟨bn, 0, none⟩ = some (.string s) ∧ (w2.setCell ⟨w.heap.size, 0, none⟩ v1).cell? ⟨g, 1, none⟩ = some (.map (some b)) ∧
      (w2.setCell ⟨w.heap.size, 0, none⟩ v1).cell? ⟨w.heap.size, 0, none⟩ = some v1 ∧ (w2.setCell ⟨w.heap.size, 0, none⟩ v1).cell? ⟨w.heap.size, 1, none⟩ = some (.int .i64 k) ∧
      W4.cell? ⟨bd, 0, none⟩ = some (.pointer (some ⟨g, 0, none⟩)) ∧ W4.cell? ⟨bb, 0, none⟩ = some bv ∧ W4.cell? ⟨g, 2, none⟩ = some (.int .i64 ((total t.fs : Nat) : Int)) ∧ W4.frozen? ⟨g, 2, none⟩ = false := by
  obtain ⟨n1, n2, n3⟩ := h.ne
  have hlt := h.lt
  have hs1 : W1.heap.size = w.heap.size + 1 := by rw [hW1]; exact size_up w _
  have hs2 := hg.size
  have hhb : ∀ i, (here m s).v.ownBlock = some i → i ∈ blks m ∧ i ∉ g :: b :: blks (del Ent.nm s.data.toList m) := fun i hi => here_block h.nodup h.up hi
  have early : ∀ i, i < w.heap.size → i ∉ blks m → w2.heap[i]? = w.heap[i]? := by
    intro i hi hne
    rw [hg.block i (by omega) (fun hh => hne (hhb i hh.symm).1), hW1]
    exact Below.heap_alloc _ _ _ hi
  have hN : w2.heap[w.heap.size]? = some (.cells #[v, .int .i64 k] 82 (0, 0)) := by
    rw [hg.block _ (by omega) (fun hh => by have := hlt _ (List.mem_cons_of_mem _ (List.mem_cons_of_mem _ (hhb _ hh.symm).1)); omega), hW1]
    exact heap_alloc_new w _
  have hN3 : (w2.setCell ⟨w.heap.size, 0, none⟩ v1).heap[w.heap.size]? = some (.cells #[v1, .int .i64 k] 82 (0, 0)) := heap_setCell_same w2 _ 0 _ _ _ hN
  have mid : ∀ i, i < w.heap.size → i ∉ blks m → (w2.setCell ⟨w.heap.size, 0, none⟩ v1).heap[i]? = w.heap[i]? := by
    intro i hi hne
    rw [Below.heap_setCell _ _ _ _ (by simp; omega)]
    exact early i hi hne
  have hown3 : ((w2.setCell ⟨w.heap.size, 0, none⟩ v1).drew).ownsMap Tryz.prog 9 R1 b m.length (dOf m) := own_of_block h.own (mid b h.own.lt n3)
  obtain ⟨W4, hup, hown4, hturn⟩ := store1 hown3 (by rw [h.len]; exact hm) s hs ⟨s.data.toList, v1, zs, (here m s).s⟩ rfl
  have late : ∀ i, i < w.heap.size → i ∉ blks m → i ≠ b → W4.heap[i]? = w.heap[i]? := by
    intro i hi hne hb
    rw [hturn.grown.block i (by show i < (w2.setCell ⟨w.heap.size, 0, none⟩ v1).heap.size; simp [World.setCell]; omega) (by simpa using hb)]
    exact mid i hi hne
  simp only [List.mem_cons, not_or] at od ob on
  have l1 := lt_of_cell hd
  have l2 := lt_of_cell hbb
  have l3 := lt_of_cell hbn
  have hD4 : Dsk W4 g _ b _ _ _ _ _ _ := Dsk.of_block h.dsk (late g h.dsk.lt n2 n1)
  have hD3 : Dsk (w2.setCell ⟨w.heap.size, 0, none⟩ v1) g _ b _ _ _ _ _ _ := Dsk.of_block h.dsk (mid g h.dsk.lt n2)
  refine ⟨W4, ?_, hown4, hturn, ?_, frozen_of_row w2 _ 0 _ _ hN, ?_, ?_, hD3.cells.2.1, ?_, ?_, ?_, ?_, hD4.cells.2.2.1, hD4.free 2⟩
  · rw [hk]; exact hup
  · rw [cell_of_row w2 _ 0 _ _ (0, 0) hN]; rfl
  · exact (World.cell?_of_block (w := w) (mid bd l1 od.2.2)).trans hd
  · exact (World.cell?_of_block (w := w) (mid bn l3 on.2.2)).trans hbn
  · rw [cell_of_row _ _ 0 _ _ (0, 0) hN3]; rfl
  · rw [cell_of_row _ _ 1 _ _ (0, 0) hN3]; rfl
  · exact (World.cell?_of_block (w := w) (late bd l1 od.2.2 od.2.1)).trans hd
  · exact (World.cell?_of_block (w := w) (late bb l2 ob.2.2 ob.2.1)).trans hbb
end Go.Proofs.YtejphnbhcabchaaGreat.Dk

namespace Go.Proofs.YtejphnbhcabchaaGreat.Dk
open Go.RowKit Go.Proofs.YtejphnbhcabchaaGreat.Fld

set_option maxRecDepth 100000 in
set_option maxHeartbeats 3200000 in
theorem app1_full (g b bd bb bn : Nat) (m : List Ent) (t : St) (A : Option Addr) (n cap : Nat) (w : World) (h : Im w g b m t) (hd : w.cell? ⟨bd, 0, none⟩ = some (.pointer (some ⟨g, 0, none⟩))) (hbb : w.cell? ⟨bb, 0, none⟩ = some (.slice A n cap)) (hn : n ≤ 140737488355328) (hfit : t.room < total t.fs + n) :
    Calls Tryz.prog 46 #[.pointer (some ⟨bd, 0, none⟩), .pointer (some ⟨bb, 0, none⟩), .pointer (some ⟨bn, 0, none⟩)] w (Did w g b m (3, t)) := by
  have HI := Lib.hid h
  obtain ⟨c0, c1, c2, c3, c4, c5, c6, c7⟩ := Dsk.cells h.dsk
  have h1 := h.good.fits
  have h2 := h.good.room2
  generalize total t.fs = T at *
  generalize t.room = R at *
  have hR : (R : Int) < (T : Int) + (n : Int) := by omega
  have hw : IntKind.i64.wrap ((T : Int) + (n : Int)) = (T : Int) + (n : Int) := IntWalk.i64_in _ (by omega)
  have hdc : decide ((R : Int) < (T : Int) + (n : Int)) = true := decide_eq_true hR
  clear h
  go_enter Tryz.func46, Tryz.ntmps46
  go_wp2_with fail
  go_region
  go_wp2
  go_ret
  exact ⟨rfl, m, HI.out.below (Below.refl _ _).drew, (Fr.refl _ _).drew, fun _ hi => .inl hi⟩

set_option maxRecDepth 100000 in
set_option maxHeartbeats 3200000 in
theorem app1_ok (g b bd bb bn : Nat) (m : List Ent) (t : St) (s : ByteArray) (A : Option Addr) (n cap : Nat) (ys : List Int) (w : World) (h : Im w g b m t) (hm : t.fs.length ≤ 1000000) (hx : okN s.data.toList = true)
    (od : bd ∉ g :: b :: blks m) (ob : bb ∉ g :: b :: blks m) (on : bn ∉ g :: b :: blks m)
    (hd : w.cell? ⟨bd, 0, none⟩ = some (.pointer (some ⟨g, 0, none⟩))) (hbb : w.cell? ⟨bb, 0, none⟩ = some (.slice A n cap)) (hbn : w.cell? ⟨bn, 0, none⟩ = some (.string s))
    (hr : Rd w A n ys) (hA : A = none → cap = 0) (hn : n ≤ 140737488355328) (hfit : total t.fs + n ≤ t.room) :
    Calls Tryz.prog 46 #[.pointer (some ⟨bd, 0, none⟩), .pointer (some ⟨bb, 0, none⟩), .pointer (some ⟨bn, 0, none⟩)] w (Did w g b m (0, { t with fs := appFs s.data.toList ys t.fs })) := by
  have hs := size_of_ok hx
  have HI := Lib.hid h
  obtain ⟨c0, c1, c2, c3, c4, c5, c6, c7⟩ := Dsk.cells h.dsk
  have f2 := Dsk.free h.dsk 2
  have h1 := h.good.fits
  have h2 := h.good.room2
  have hlt := h.lt
  have hgl := h.dsk.lt
  obtain ⟨n1, n2, n3⟩ := h.ne
  have hhl := here_len h s
  have hfl := here_file h s
  obtain ⟨VA, vc, hv, _⟩ := hfl.form
  have hys : ys.length = n := hr.1
  -- the look-up
  have hval : foundV m s = .agg #[.slice VA (here m s).zs.length vc, .int .i64 ((here m s).s : Int)] := by rw [here_val, Ent.val, hv]
  have hlk := look1 (h.own.drew).drew s hs
  have hlo := fun o => look1 ((h.own.alloc o).drew.drew) s hs
  rw [hval] at hlk
  simp only [hval] at hlo
  have pd := fun o => cell_past hd o
  have pn := fun o => cell_past hbn o
  have p1 := fun o => cell_past c1 o
  have pb := fun o => cell_past hbb o
  -- append
  obtain ⟨W1, hW1⟩ : ∃ W1, W1 = (w.alloc (.cells #[.slice VA (here m s).zs.length vc, .int .i64 ((here m s).s : Int)] 82)).drew.drew := ⟨_, rfl⟩
  have hbW : Below w.heap.size w W1 := by rw [hW1]; exact ((Below.refl _ _).alloc (Nat.le_refl _) _).drew.drew
  have hO1 : Own (bare W1) W1 (.slice VA (here m s).zs.length vc) (here m s).zs := by
    have := (hfl.of_block (w' := W1) (fun i hi => hbW.block i (hfl.lt hi))).own
    rw [hv] at this
    exact this
  have hr1 := hr.below hbW
  have hN : W1.heap[w.heap.size]? = some (.cells #[.slice VA (here m s).zs.length vc, .int .i64 ((here m s).s : Int)] 82 (0, 0)) := by rw [hW1]; exact heap_alloc_new w _
  have hhb : ∀ i, (Value.slice VA (here m s).zs.length vc).ownBlock = some i → i ∈ blks m := fun i hi => (here_block h.nodup h.up (s := s) (by rw [hv]; exact hi)).1
  obtain ⟨t', ht'⟩ : ∃ t' : St, t' = { t with fs := appFs s.data.toList ys t.fs } := ⟨_, rfl⟩
  rw [← ht']
  have HST := Lib.hid ht'
  clear ht'
  have HX := Lib.hid hx
  have HBY := Lib.hid hr.2.2.1
  have HYS := Lib.hid hys
  have HFIT := Lib.hid (show total t.fs + ys.length ≤ t.room by omega)
  have HMID := Lib.hid (fun (w2 : World) (hg : W1.grownBy w2 (here m s).v.ownBlock) (v1 : Value) => app_mid h hm hs od ob on hd hbb hbn _ _ hW1 rfl hg ((here m s).zs ++ ys) v1)
  have HEND := Lib.hid (fun (w2 W4 : World) (v1 : Value) (hO : Own (bare W1) w2 v1 ((here m s).zs ++ ys)) (hg : W1.grownBy w2 (here m s).v.ownBlock) (hb : v1.ownBlock = (here m s).v.ownBlock ∨ v1.ownBlock = some W1.heap.size) hturn ho => app_end (W4 := W4) h ys hx hr.2.2.1 (by omega) _ hW1 v1 hO hg hb hturn ho)
  rw [← HST.out] at HEND
  rw [hys] at HEND
  rw [hv] at HMID HEND
  have HO1 := Lib.hid hO1
  have HR1 := Lib.hid hr1
  have HA := Lib.hid hA
  have HKN := Lib.hid (show ((here m s).zs ++ ys).length = (here m s).zs.length + n by rw [List.length_append, hys])
  subst hW1
  clear h hO1 hr1 hA hv hN hhb hbW hlt hys hr hfl hval HST HI
  generalize hT : total t.fs = T at *
  clear hT
  generalize t.room = R at *
  generalize hst : put Ent.nm = pp at *
  clear hst
  generalize hzz : (here m s).zs = zz at *
  clear hzz
  generalize (here m s).s = sk at *
  have HZL := Lib.hid (show zz.length + n ≤ 140737488355328 by omega)
  generalize hk : zz.length = k at *
  have hw : IntKind.i64.wrap ((T : Int) + (n : Int)) = (T : Int) + (n : Int) := IntWalk.i64_in _ (by omega)
  have hdc : decide ((R : Int) < (T : Int) + (n : Int)) = false := decide_eq_false (by omega)
  have HK := Lib.hid hk
  clear hk
  go_enter Tryz.func46, Tryz.ntmps46
  go_wp2_with fail
  go_region
  go_wp2_with fail
  go_region
  go_wp2_with (at_builtin; refine wpList_append_rd rfl _ _ rfl (bare _) (.slice VA k vc) zz rfl HO1.out A n cap ys rfl HA.out HR1.out (by rw [HK.out]; exact HZL.out) ?_; intro v1 w2 hO hg hat; obtain ⟨A1, c1, hv1, _, _⟩ := hO.form (k + n) HKN.out; subst hv1; obtain ⟨W4, m1, m2, m3, m4, m5, m6, m7, m8, m9, m10, m11, m12, m13, m14⟩ := HMID.out w2 hg (.slice A1 (k + n) c1); have HE := Lib.hid (HEND.out w2 W4 _ hO hg hat m3 m2); clear hO hg hat m2 m3 HMID HEND HO1 HR1)
  go_region
  go_wp2_with fail
  go_region
  go_wp2
  go_ret
  exact ⟨rfl, HE.out⟩
end Go.Proofs.YtejphnbhcabchaaGreat.Dk

namespace Go.Proofs.YtejphnbhcabchaaGreat.Dk
open Go.RowKit Go.Proofs.YtejphnbhcabchaaGreat.Fld

/-- bytes don't lie in a disk's block -/
theorem not_dsk {w : World} {g : Nat} {room : Int} {b : Nat} {size : Int} {off fs : Bool} {fl : Int} {ag : Bool} {al : Int} (h : Dsk w g room b size off fs fl ag al) {a : Addr} {c : Int} (ha : w.cell? a = some (.int .u8 c)) : a.block ≠ g := by
  rintro rfl
  unfold World.cell? at ha
  rw [h] at ha
  obtain ⟨b, off, sp⟩ := a
  rcases off with _ | _ | _ | _ | _ | _ | _ | _ | off
  all_goals cases sp <;> simp at ha
theorem rd_fr {w w' : World} {g : Nat} {room : Int} {b : Nat} {size : Int} {off fs : Bool} {fl : Int} {ag : Bool} {al : Int} {A : Option Addr} {n : Nat} {zs : List Int} (h : Rd w A n zs) (hd : Dsk w g room b size off fs fl ag al) (hf : Fr [g] w w') : Rd w' A n zs :=
  h.of_same fun _ _ hc => World.cell?_of_block (w := w) (hf.block _ (lt_of_cell hc) (by simpa using not_dsk hd hc))
theorem app1_did (g b bd bb bn : Nat) (m : List Ent) (t : St) (s : ByteArray) (A : Option Addr) (n cap : Nat) (ys : List Int) (w : World) (h : Im w g b m t) (hm : t.fs.length ≤ 1000000) (hx : okN s.data.toList = true)
    (od : bd ∉ g :: b :: blks m) (ob : bb ∉ g :: b :: blks m) (on : bn ∉ g :: b :: blks m)
    (hd : w.cell? ⟨bd, 0, none⟩ = some (.pointer (some ⟨g, 0, none⟩))) (hbb : w.cell? ⟨bb, 0, none⟩ = some (.slice A n cap)) (hbn : w.cell? ⟨bn, 0, none⟩ = some (.string s))
    (hr : Rd w A n ys) (hA : A = none → cap = 0) (hn : n ≤ 140737488355328) :
    Calls Tryz.prog 46 #[.pointer (some ⟨bd, 0, none⟩), .pointer (some ⟨bb, 0, none⟩), .pointer (some ⟨bn, 0, none⟩)] w (Did w g b m (app1 s.data.toList ys t)) := by
  have hl := hr.1
  have e : app1 s.data.toList ys t = if t.room < total t.fs + ys.length then (3, t) else (0, { t with fs := appFs s.data.toList ys t.fs }) := rfl
  rw [e]
  split
  · exact app1_full g b bd bb bn m t A n cap w h hd hbb hn (by omega)
  · exact app1_ok g b bd bb bn m t s A n cap ys w h hm hx od ob on hd hbb hbn hr hA hn (by omega)
theorem app_enters (caps : Array Value) (w : World) : (callFunc 46 caps).run Tryz.prog w = .ok (.enter 46 caps) w := enters_of Tryz.func46 (by kernel_rfl) rfl caps w
set_option maxRecDepth 100000 in
set_option maxHeartbeats 3200000 in
theorem app_did (g b : Nat) (m : List Ent) (t : St) (s : ByteArray) (A : Option Addr) (n cap : Nat) (ys : List Int) (w : World) (h : Im w g b m t) (hm : t.fs.length ≤ 1000000) (hr : Rd w A n ys) (hA : A = none → cap = 0) (hn : n ≤ 140737488355328) :
    Calls Tryz.prog 21 #[.pointer (some ⟨g, 0, none⟩), .string s, .slice A n cap] w (Did w g b m (stAppend s.data.toList ys t)) := by
  have HM := Lib.hid (mod3 _ g b app_enters m t s (.slice A n cap) w h (app1 s.data.toList ys) fun bd bb bn W w1 hI hB hF hx od ob on hd hbb hbn => app1_did g b bd bb bn m _ s A n cap ys w1 hI (by rw [(chg_same t).2]; exact hm) hx od ob on hd hbb hbn (rd_fr (hr.below hB) (Dsk.of_block h.dsk (hB.block g h.dsk.lt)) hF) hA hn)
  clear h hr hA
  unfold stAppend
  generalize doing (okN s.data.toList) t (app1 s.data.toList ys) = r at *
  go_enter Tryz.func21, Tryz.ntmps21
  go_wp2_with (go_at_call 45; refine HM.out.mono ?_; rintro e w' ⟨rfl, hL⟩; have HL := Lib.hid hL; clear hL)
  go_ret
  exact ⟨rfl, HL.out⟩
end Go.Proofs.YtejphnbhcabchaaGreat.Dk

namespace Go.Proofs.YtejphnbhcabchaaGreat.Dk
open Go.RowKit Go.Proofs.YtejphnbhcabchaaGreat.Fld

theorem str_neq {s u : ByteArray} (h : s.data.toList ≠ u.data.toList) : (s.toList == u.toList) = false := by
  rw [ByteArray.toList_eq, ByteArray.toList_eq]
  simpa using h
theorem str_same' (s : ByteArray) : (s.toList == s.toList) = true := by simp
theorem nm_inj {s u : ByteArray} (h : s.data.toList = u.data.toList) : s = u := by
  cases s; cases u
  simp at h
  rw [h]
theorem ren_comm {m : List Ent} (hu : Up Ent.nm m) (x : Nm) (e : Ent) (hx : e.nm ≠ x) : del Ent.nm x (put Ent.nm e (del Ent.nm e.nm m)) = put Ent.nm e (del Ent.nm x (del Ent.nm e.nm m)) := by
  unfold put
  have h1 : del Ent.nm e.nm (del Ent.nm e.nm m) = del Ent.nm e.nm m := by
    unfold del
    rw [List.filter_filter]
    congr 1
    funext a
    simp
  have h2 : del Ent.nm e.nm (del Ent.nm x (del Ent.nm e.nm m)) = del Ent.nm x (del Ent.nm e.nm m) := by
    unfold del
    simp only [List.filter_filter]
    congr 1
    funext a
    cases (a.nm == e.nm) <;> cases (a.nm == x) <;> rfl
  rw [h1, h2]
  exact filter_ins _ e (by simpa using hx) (hu.del _)

/-- what is left behind a Rename onto another name -/
theorem ren_end {w W1 w2 w3 w4 : World} {g b : Nat} {m : List Ent} {t : St} {s u : ByteArray} {e : Ent} (h : Im w g b m t) (hf : found m s = some e) (hne : s.data.toList ≠ u.data.toList) (hu : okN u.data.toList = true) (hB : Below w.heap.size w W1)
    (hI : Im w2 g b (del Ent.nm u.data.toList m) { t with fs := fdel u.data.toList t.fs }) (hF : Fr [g, b] W1 w2) (ht3 : w2.drew.mapTurned w3 b) (ht4 : w3.drew.mapTurned w4 b)
    (ho : w4.ownsMap Tryz.prog 9 R1 b (del Ent.nm s.data.toList (put Ent.nm ⟨u.data.toList, e.v, e.zs, e.s⟩ (del Ent.nm u.data.toList m))).length (dOf (del Ent.nm s.data.toList (put Ent.nm ⟨u.data.toList, e.v, e.zs, e.s⟩ (del Ent.nm u.data.toList m))))) :
    Left w g b m { t with fs := fdel s.data.toList (fput (u.data.toList, e.zs, e.s) (fdel u.data.toList t.fs)) } w4 := by
  obtain ⟨n1, n2, n3⟩ := h.ne
  obtain ⟨he1, he2⟩ := get_some hf
  have hg : fget s.data.toList t.fs = some e.fil := by rw [h.get, hf]; rfl
  have f2 : Fr [b] w2 w4 := ((Fr.refl [b] w2).drew.turned ht3 (.inl (by simp))).drew.turned ht4 (.inl (by simp))
  have hall : ∀ i, i ∈ blks m → w4.heap[i]? = w.heap[i]? := by
    intro i hi
    have hl := h.lt i (by simp [hi])
    have hl1 : i < W1.heap.size := Nat.lt_of_lt_of_le hl hB.size
    have hib : i ≠ b := fun e => n3 (e ▸ hi)
    have hig : i ≠ g := fun e => n2 (e ▸ hi)
    rw [f2.block i (Nat.lt_of_lt_of_le hl1 hF.size) (by simpa using hib), hF.block i hl1 (by simp [hib, hig]), hB.block i hl]
  have hfile : ∀ a ∈ m, FileAt w4 a := fun a ha => (h.file a ha).of_block fun i hi => hall i (mem_blks.2 ⟨a, ha, hi⟩)
  have hcomm := ren_comm h.up s.data.toList ⟨u.data.toList, e.v, e.zs, e.s⟩ (Ne.symm hne)
  have hmem : ∀ a, a ∈ del Ent.nm s.data.toList (put Ent.nm ⟨u.data.toList, e.v, e.zs, e.s⟩ (del Ent.nm u.data.toList m)) → a = ⟨u.data.toList, e.v, e.zs, e.s⟩ ∨ a ∈ m := by
    intro a ha
    rcases mem_put.1 (mem_del.1 ha).1 with rfl | ⟨ha, _⟩
    · exact .inl rfl
    · exact .inr (mem_del.1 ha).1
  refine ⟨_, ⟨?_, ho, ?_, ?_, ?_, h.good.ren hg hne hu, h.fl, h.al⟩, ?_, ?_⟩
  · have h1 : DskT w4 g b { t with fs := fdel u.data.toList t.fs } := Dsk.of_block hI.dsk (f2.block g hI.dsk.lt (by simpa using n1))
    exact DskT.files (t := { t with fs := fdel u.data.toList t.fs }) h1 _ (total_ren (f := e.fil) h.good hg hne)
  · rw [map_del (k1 := Ent.nm) (k2 := Prod.fst) Ent.fil (fun _ => rfl), map_put (k1 := Ent.nm) (k2 := Prod.fst) Ent.fil (fun _ => rfl), map_del (k1 := Ent.nm) (k2 := Prod.fst) Ent.fil (fun _ => rfl), ← h.fs]
    rfl
  · intro a ha
    rcases hmem a ha with rfl | ha
    · exact hfile e he1
    · exact hfile a ha
  · rw [hcomm]
    refine nodup_put (nodup_del (nodup_del h.nodup _) _) ?_
    intro i hi hm
    have := apart h.nodup h.up he1 hi
    rw [he2] at this
    apply this
    simp only [List.mem_cons] at hm ⊢
    rcases hm with hm | hm | hm
    · exact .inl hm
    · exact .inr (.inl hm)
    · obtain ⟨a, ha, hv⟩ := mem_blks.1 (blks_del hm)
      exact .inr (.inr (mem_blks.2 ⟨a, mem_del.2 ⟨(mem_del.1 (mem_del.1 ha).1).1, (mem_del.1 ha).2⟩, hv⟩))
  · refine ((Fr.below (S := g :: b :: blks m) hB).same (hF.mono (by simp))).same (f2.mono (by simp))
  · intro i hi
    obtain ⟨a, ha, hv⟩ := mem_blks.1 hi
    rcases hmem a ha with rfl | ha
    · exact .inl (mem_blks.2 ⟨e, he1, hv⟩)
    · exact .inl (mem_blks.2 ⟨a, ha, hv⟩)
set_option maxRecDepth 100000 in
set_option maxHeartbeats 3200000 in
theorem ren_none (g b bd bn bu : Nat) (m : List Ent) (t : St) (s : ByteArray) (w : World) (h : Im w g b m t) (hs : s.size ≤ maxLen) (hd : w.cell? ⟨bd, 0, none⟩ = some (.pointer (some ⟨g, 0, none⟩))) (hn : w.cell? ⟨bn, 0, none⟩ = some (.string s)) (hf : found m s = none) :
    Calls Tryz.prog 132 #[.pointer (some ⟨bd, 0, none⟩), .pointer (some ⟨bn, 0, none⟩), .pointer (some ⟨bu, 0, none⟩)] w (Did w g b m (2, t)) := by
  have HI := Lib.hid h
  obtain ⟨c0, c1, c2, c3, c4, c5, c6, c7⟩ := Dsk.cells h.dsk
  have hlk := look2 h.own.drew s hs
  have hlo := fun o => look2 (own_past h.own o) s hs
  have hfv : foundV m s = zeroF := by unfold foundV; rw [hf]; rfl
  simp only [hfv, hf] at hlk hlo
  unfold zeroF at hlk hlo
  have pd := fun o => cell_past hd o
  have pn := fun o => cell_past hn o
  have p1 := fun o => cell_past c1 o
  clear h hfv
  go_enter Tryz.func132, Tryz.ntmps132
  go_wp2_with fail
  go_region
  go_wp2
  go_ret
  exact ⟨rfl, m, HI.out.below (((Below.refl _ _).alloc (Nat.le_refl _) _).drew), Fr.below (((Below.refl _ _).alloc (Nat.le_refl _) _).drew), fun _ hi => .inl hi⟩
set_option maxRecDepth 100000 in
set_option maxHeartbeats 3200000 in
theorem ren_self (g b bd bn bu : Nat) (m : List Ent) (t : St) (s : ByteArray) (e : Ent) (w : World) (h : Im w g b m t) (hs : s.size ≤ maxLen) (hd : w.cell? ⟨bd, 0, none⟩ = some (.pointer (some ⟨g, 0, none⟩))) (hn : w.cell? ⟨bn, 0, none⟩ = some (.string s)) (hu : w.cell? ⟨bu, 0, none⟩ = some (.string s)) (hf : found m s = some e) :
    Calls Tryz.prog 132 #[.pointer (some ⟨bd, 0, none⟩), .pointer (some ⟨bn, 0, none⟩), .pointer (some ⟨bu, 0, none⟩)] w (Did w g b m (0, t)) := by
  have HI := Lib.hid h
  obtain ⟨c0, c1, c2, c3, c4, c5, c6, c7⟩ := Dsk.cells h.dsk
  obtain ⟨A, cap, hv, _⟩ := (h.file e (get_some hf).1).form
  have hlk := look2 h.own.drew s hs
  have hlo := fun o => look2 (own_past h.own o) s hs
  have hfv : foundV m s = .agg #[.slice A e.zs.length cap, .int .i64 (e.s : Int)] := by unfold foundV; rw [hf, Option.map_some, Option.getD_some, Ent.val, hv]
  simp only [hfv, hf] at hlk hlo
  have pd := fun o => cell_past hd o
  have pn := fun o => cell_past hn o
  have pu := fun o => cell_past hu o
  have p1 := fun o => cell_past c1 o
  have hsm := str_same' s
  clear h hfv hv
  generalize e.zs.length = n at *
  go_enter Tryz.func132, Tryz.ntmps132
  go_wp2_with fail
  go_region
  go_wp2
  go_ret
  exact ⟨rfl, m, HI.out.below (((Below.refl _ _).alloc (Nat.le_refl _) _).drew), Fr.below (((Below.refl _ _).alloc (Nat.le_refl _) _).drew), fun _ hi => .inl hi⟩

theorem ren_mid {w W1 w2 : World} {g b bd bn bu : Nat} {m : List Ent} {t : St} {s u : ByteArray} {e : Ent} (h : Im w g b m t) (hm : t.fs.length ≤ 1000000) (hs : s.size ≤ maxLen) (hus : u.size ≤ maxLen) (hf : found m s = some e) (hne : s.data.toList ≠ u.data.toList) (hu : okN u.data.toList = true)
    (od : bd ∉ g :: b :: blks m) (on : bn ∉ g :: b :: blks m) (ou : bu ∉ g :: b :: blks m)
    (hd : w.cell? ⟨bd, 0, none⟩ = some (.pointer (some ⟨g, 0, none⟩))) (hbn : w.cell? ⟨bn, 0, none⟩ = some (.string s)) (hbu : w.cell? ⟨bu, 0, none⟩ = some (.string u))
    (v : Value) (k : Int) (hv : e.v = v) (hk : k = (e.s : Int)) (hW1 : W1 = (w.alloc (.cells #[v, .int .i64 k] 82)).drew) (hI : Im w2 g b (del Ent.nm u.data.toList m) { t with fs := fdel u.data.toList t.fs }) (hF : Fr [g, b] W1 w2) :
    ∃ w3 w4, (Instr.mapUpdate 69 (.map (some b)) (.string u) (.agg #[v, .int .i64 k])).run Tryz.prog w2.drew = .ok () w3 ∧
      (Builtin.delete_ #[69, 9] 0 #[.map (some b), .string s]).run Tryz.prog w3.drew = .ok (.tuple #[]) w4 ∧
      w2.cell? ⟨bd, 0, none⟩ = some (.pointer (some ⟨g, 0, none⟩)) ∧ w2.cell? ⟨bu, 0, none⟩ = some (.string u) ∧ w2.cell? ⟨g, 1, none⟩ = some (.map (some b)) ∧ w2.cell? ⟨w.heap.size, 0, none⟩ = some v ∧ w2.cell? ⟨w.heap.size, 1, none⟩ = some (.int .i64 k) ∧
      w3.cell? ⟨bd, 0, none⟩ = some (.pointer (some ⟨g, 0, none⟩)) ∧ w3.cell? ⟨bn, 0, none⟩ = some (.string s) ∧ w3.cell? ⟨g, 1, none⟩ = some (.map (some b)) ∧
      Left w g b m { t with fs := fdel s.data.toList (fput (u.data.toList, e.zs, e.s) (fdel u.data.toList t.fs)) } w4 := by
  obtain ⟨n1, n2, n3⟩ := h.ne
  have hB : Below w.heap.size w W1 := by rw [hW1]; exact ((Below.refl _ _).alloc (Nat.le_refl _) _).drew
  have hs1 : W1.heap.size = w.heap.size + 1 := by rw [hW1]; exact size_up w _
  have hlen : (del Ent.nm u.data.toList m).length ≤ 1000000 := Nat.le_trans (List.length_filter_le _ _) (by rw [h.len]; exact hm)
  obtain ⟨w3, hup, hown3, ht3⟩ := store1 hI.own.drew hlen u hus ⟨u.data.toList, v, e.zs, e.s⟩ rfl
  obtain ⟨w4, hdl, hown4, ht4⟩ := drop1 hown3.drew s hs 0
  have hL := ren_end h hf hne hu hB hI hF ht3 ht4 (by rw [hv]; exact hown4)
  simp only [List.mem_cons, not_or] at od on ou
  have hgl := h.dsk.lt
  have hbl := h.own.lt
  have two : ∀ i, i < w.heap.size → i ≠ g → i ≠ b → w2.heap[i]? = w.heap[i]? := by
    intro i hi h1 h2
    rw [hF.block i (by omega) (by simp [h1, h2]), hB.block i hi]
  have hN : w2.heap[w.heap.size]? = some (.cells #[v, .int .i64 k] 82 (0, 0)) := by
    rw [hF.block _ (by omega) (by simp; omega), hW1]
    exact heap_alloc_new w _
  have three : ∀ i, i < w2.heap.size → i ≠ b → w3.heap[i]? = w2.heap[i]? := by
    intro i hi h2
    exact ht3.grown.block i hi (by simpa using h2)
  have l1 := lt_of_cell hd
  have l2 := lt_of_cell hbn
  have l3 := lt_of_cell hbu
  have hsz := hF.size
  refine ⟨w3, w4, ?_, hdl, ?_, ?_, (Dsk.cells hI.dsk).2.1, ?_, ?_, ?_, ?_, ?_, hL⟩
  · rw [hk]; exact hup
  · exact (World.cell?_of_block (w := w) (two bd l1 od.1 od.2.1)).trans hd
  · exact (World.cell?_of_block (w := w) (two bu l3 ou.1 ou.2.1)).trans hbu
  · rw [cell_of_row _ _ 0 _ _ (0, 0) hN]; rfl
  · rw [cell_of_row _ _ 1 _ _ (0, 0) hN]; rfl
  · exact (World.cell?_of_block (w := w) ((three bd (by simp at l1; omega) od.2.1).trans (two bd l1 od.1 od.2.1))).trans hd
  · exact (World.cell?_of_block (w := w) ((three bn (by simp at l2; omega) on.2.1).trans (two bn l2 on.1 on.2.1))).trans hbn
  · exact (Dsk.cells (Dsk.of_block hI.dsk (three g hI.dsk.lt n1))).2.1
set_option maxRecDepth 100000 in
set_option maxHeartbeats 3200000 in
theorem ren_ok (g b bd bn bu : Nat) (m : List Ent) (t : St) (s u : ByteArray) (e : Ent) (w : World) (h : Im w g b m t) (hm : t.fs.length ≤ 1000000) (hs : okN s.data.toList = true) (hu : okN u.data.toList = true)
    (od : bd ∉ g :: b :: blks m) (on : bn ∉ g :: b :: blks m) (ou : bu ∉ g :: b :: blks m)
    (hd : w.cell? ⟨bd, 0, none⟩ = some (.pointer (some ⟨g, 0, none⟩))) (hbn : w.cell? ⟨bn, 0, none⟩ = some (.string s)) (hbu : w.cell? ⟨bu, 0, none⟩ = some (.string u)) (hf : found m s = some e) (hne : s.data.toList ≠ u.data.toList) :
    Calls Tryz.prog 132 #[.pointer (some ⟨bd, 0, none⟩), .pointer (some ⟨bn, 0, none⟩), .pointer (some ⟨bu, 0, none⟩)] w (Did w g b m (0, { t with fs := fdel s.data.toList (fput (u.data.toList, e.zs, e.s) (fdel u.data.toList t.fs)) })) := by
  have hss := size_of_ok hs
  have hus := size_of_ok hu
  obtain ⟨c0, c1, c2, c3, c4, c5, c6, c7⟩ := Dsk.cells h.dsk
  obtain ⟨A, cap, hv, _⟩ := (h.file e (get_some hf).1).form
  have hlk := look2 h.own.drew s hss
  have hlo := fun o => look2 (own_past h.own o) s hss
  have hfv : foundV m s = .agg #[.slice A e.zs.length cap, .int .i64 (e.s : Int)] := by unfold foundV; rw [hf, Option.map_some, Option.getD_some, Ent.val, hv]
  simp only [hfv, hf] at hlk hlo
  have pd := fun o => cell_past hd o
  have pn := fun o => cell_past hbn o
  have pu := fun o => cell_past hbu o
  have p1 := fun o => cell_past c1 o
  have hsn := str_neq hne
  have HMID := Lib.hid (fun w2 hI hF => ren_mid (w2 := w2) h hm hss hus hf hne hu od on ou hd hbn hbu _ _ hv rfl rfl hI hF)
  have hb : Below w.heap.size w (w.alloc (.cells #[.slice A e.zs.length cap, .int .i64 (e.s : Int)] 82)).drew := ((Below.refl _ _).alloc (Nat.le_refl _) _).drew
  have HR := Lib.hid (remove_any g b m t u _ (h.below hb) hus)
  clear h hfv hv hb
  generalize hst : ({ t with fs := fdel s.data.toList (fput (u.data.toList, e.zs, e.s) (fdel u.data.toList t.fs)) } : St) = t' at *
  clear hst
  generalize e.zs.length = n at *
  go_enter Tryz.func132, Tryz.ntmps132
  go_wp2_with fail
  go_region
  go_wp2_with (go_at_call 130; refine HR.out.mono ?_; rintro e w2 ⟨rfl, hI, hF⟩; obtain ⟨w3, w4, m1, m2, m3, m4, m5, m6, m7, m8, m9, m10, hL⟩ := HMID.out w2 hI hF; have HL := Lib.hid hL; clear hI hF hL HMID HR)
  go_region
  go_wp2_with fail
  go_region
  go_wp2
  go_ret
  exact ⟨rfl, HL.out⟩
theorem ren1_did (g b bd bn bu : Nat) (m : List Ent) (t : St) (s u : ByteArray) (w : World) (h : Im w g b m t) (hm : t.fs.length ≤ 1000000) (hs : okN s.data.toList = true) (hu : okN u.data.toList = true)
    (od : bd ∉ g :: b :: blks m) (on : bn ∉ g :: b :: blks m) (ou : bu ∉ g :: b :: blks m)
    (hd : w.cell? ⟨bd, 0, none⟩ = some (.pointer (some ⟨g, 0, none⟩))) (hbn : w.cell? ⟨bn, 0, none⟩ = some (.string s)) (hbu : w.cell? ⟨bu, 0, none⟩ = some (.string u)) :
    Calls Tryz.prog 132 #[.pointer (some ⟨bd, 0, none⟩), .pointer (some ⟨bn, 0, none⟩), .pointer (some ⟨bu, 0, none⟩)] w (Did w g b m (ren1 s.data.toList u.data.toList t)) := by
  unfold ren1
  rw [h.get]
  cases hf : found m s with
  | none => exact ren_none g b bd bn bu m t s w h (size_of_ok hs) hd hbn hf
  | some e =>
    simp only [Option.map_some]
    split
    · rename_i he
      have := nm_inj he
      subst this
      exact ren_self g b bd bn bu m t s e w h (size_of_ok hs) hd hbn hbu hf
    · rename_i hne
      exact ren_ok g b bd bn bu m t s u e w h hm hs hu od on ou hd hbn hbu hf hne
theorem ren_enters (caps : Array Value) (w : World) : (callFunc 132 caps).run Tryz.prog w = .ok (.enter 132 caps) w := enters_of Tryz.func132 (by kernel_rfl) rfl caps w
set_option maxRecDepth 100000 in
set_option maxHeartbeats 3200000 in
theorem ren_did (g b : Nat) (m : List Ent) (t : St) (s u : ByteArray) (w : World) (h : Im w g b m t) (hm : t.fs.length ≤ 1000000) :
    Calls Tryz.prog 109 #[.pointer (some ⟨g, 0, none⟩), .string s, .string u] w (Did w g b m (stRename s.data.toList u.data.toList t)) := by
  have HM := Lib.hid (mod2 _ g b ren_enters m t s u w h (ren1 s.data.toList u.data.toList) fun bd bn bu w1 hI hs hu od on ou hd hbn hbu => ren1_did g b bd bn bu m _ s u w1 hI (by rw [(chg_same t).2]; exact hm) hs hu od on ou hd hbn hbu)
  clear h
  unfold stRename
  generalize doing (okN s.data.toList && okN u.data.toList) t (ren1 s.data.toList u.data.toList) = r at *
  go_enter Tryz.func109, Tryz.ntmps109
  go_wp2_with (go_at_call 45; refine HM.out.mono ?_; rintro e w' ⟨rfl, hL⟩; have HL := Lib.hid hL; clear hL)
  go_ret
  exact ⟨rfl, HL.out⟩
end Go.Proofs.YtejphnbhcabchaaGreat.Dk

namespace Go.Proofs.YtejphnbhcabchaaGreat.Dk
open Go.RowKit Go.Proofs.YtejphnbhcabchaaGreat.Fld

set_option maxRecDepth 100000 in
set_option maxHeartbeats 3200000 in
theorem sync_none (g b bd bn : Nat) (m : List Ent) (t : St) (s : ByteArray) (w : World) (h : Im w g b m t) (hs : s.size ≤ maxLen) (hd : w.cell? ⟨bd, 0, none⟩ = some (.pointer (some ⟨g, 0, none⟩))) (hn : w.cell? ⟨bn, 0, none⟩ = some (.string s)) (hf : found m s = none) :
    Calls Tryz.prog 131 #[.pointer (some ⟨bd, 0, none⟩), .pointer (some ⟨bn, 0, none⟩)] w (Did w g b m (2, t)) := by
  have HI := Lib.hid h
  obtain ⟨c0, c1, c2, c3, c4, c5, c6, c7⟩ := Dsk.cells h.dsk
  have hlk := look2 h.own.drew s hs
  have hlo := fun o => look2 (own_past h.own o) s hs
  have hfv : foundV m s = zeroF := by unfold foundV; rw [hf]; rfl
  simp only [hfv, hf] at hlk hlo
  unfold zeroF at hlk hlo
  have pd := fun o => cell_past hd o
  have pn := fun o => cell_past hn o
  have p1 := fun o => cell_past c1 o
  clear h hfv
  go_enter Tryz.func131, Tryz.ntmps131
  go_wp2_with fail
  go_region
  go_wp2
  go_ret
  exact ⟨rfl, m, HI.out.below (((Below.refl _ _).alloc (Nat.le_refl _) _).drew), Fr.below (((Below.refl _ _).alloc (Nat.le_refl _) _).drew), fun _ hi => .inl hi⟩
theorem sync_end {w w3 : World} {g b : Nat} {m : List Ent} {t : St} {s : ByteArray} {e : Ent} (h : Im w g b m t) (hf : found m s = some e) (o : Obj) (hturn : ((w.alloc o).drew.drew).mapTurned w3 b)
    (ho : w3.ownsMap Tryz.prog 9 R1 b (put Ent.nm ⟨s.data.toList, e.v, e.zs, e.zs.length⟩ m).length (dOf (put Ent.nm ⟨s.data.toList, e.v, e.zs, e.zs.length⟩ m))) : Left w g b m { t with fs := fput (s.data.toList, e.zs, e.zs.length) t.fs } w3 := by
  obtain ⟨he1, he2⟩ := get_some hf
  have hg : fget s.data.toList t.fs = some e.fil := by rw [h.get, hf]; rfl
  have hfr : Fr [b] w w3 := (((Fr.refl [b] w).alloc o).drew.drew).turned hturn (.inl (by simp))
  obtain ⟨n1, n2, n3⟩ := h.ne
  have hblk : ∀ a ∈ m, FileAt w3 a := fun a ha => (h.file a ha).of_block fun i hi => hfr.block i ((h.file a ha).lt hi) (by
    intro hm
    simp only [List.mem_singleton] at hm
    exact n3 (mem_blks.2 ⟨a, ha, by rw [← hm]; exact hi⟩))
  refine ⟨_, h.stored ⟨s.data.toList, e.v, e.zs, e.zs.length⟩ ?_ ho rfl (h.good.sync hg) (hblk e he1) (fun a ha _ => hblk a ha) ?_ rfl rfl, hfr.mono (by simp), ?_⟩
  · refine DskT.files (t := t) ?_ _ (total_sync h.good hg _)
    exact Dsk.of_block h.dsk (hfr.block g h.dsk.lt (by simpa using n1))
  · intro i hi
    have := apart h.nodup h.up he1 hi
    rw [he2] at this
    exact this
  · intro i hi
    obtain ⟨a, ha, hv⟩ := mem_blks.1 hi
    rcases mem_put.1 ha with rfl | ⟨ha, _⟩
    · exact .inl (mem_blks.2 ⟨e, he1, hv⟩)
    · exact .inl (mem_blks.2 ⟨a, ha, hv⟩)
set_option maxRecDepth 100000 in
set_option maxHeartbeats 3200000 in
theorem sync_ok (g b bd bn : Nat) (m : List Ent) (t : St) (s : ByteArray) (e : Ent) (w : World) (h : Im w g b m t) (hm : t.fs.length ≤ 1000000) (hs : s.size ≤ maxLen) (hd : w.cell? ⟨bd, 0, none⟩ = some (.pointer (some ⟨g, 0, none⟩))) (hn : w.cell? ⟨bn, 0, none⟩ = some (.string s)) (hf : found m s = some e) :
    Calls Tryz.prog 131 #[.pointer (some ⟨bd, 0, none⟩), .pointer (some ⟨bn, 0, none⟩)] w (Did w g b m (0, { t with fs := fput (s.data.toList, e.zs, e.zs.length) t.fs })) := by
  have HI := Lib.hid h
  obtain ⟨he1, he2⟩ := get_some hf
  have hfile := h.file e he1
  obtain ⟨A, cap, hv⟩ : ∃ A cap, e.v = .slice A e.zs.length cap := by
    rcases hfile.2.2 with ⟨hv, h0⟩ | ⟨q, cap, cur, hv, _⟩
    · exact ⟨none, 0, by rw [hv, h0]⟩
    · exact ⟨_, cap, hv⟩
  obtain ⟨c0, c1, c2, c3, c4, c5, c6, c7⟩ := Dsk.cells h.dsk
  have hlk := look2 h.own.drew s hs
  have hlo := fun o => look2 (own_past h.own o) s hs
  have hfv : foundV m s = .agg #[.slice A e.zs.length cap, .int .i64 (e.s : Int)] := by unfold foundV; rw [hf, Option.map_some, Option.getD_some, Ent.val, hv]
  simp only [hfv, hf] at hlk hlo
  have pd := fun o => cell_past hd o
  have pn := fun o => cell_past hn o
  have p1 := fun o => cell_past c1 o
  obtain ⟨w3, hup, hown3, hturn⟩ := store1 (((h.own.alloc (.cells #[.slice A e.zs.length cap, .int .i64 (e.zs.length : Int)] 82)).drew).drew) (by rw [h.len]; exact hm) s hs ⟨s.data.toList, e.v, e.zs, e.zs.length⟩ rfl
  unfold Ent.val at hup
  simp only [hv] at hup
  have HL := Lib.hid (sync_end h hf _ hturn hown3)
  clear h hfv hown3 hturn hv hfile hf he1 he2 HI
  generalize hst : ({ t with fs := fput (s.data.toList, e.zs, e.zs.length) t.fs } : St) = t' at *
  clear hst
  generalize e.zs.length = n at *
  go_enter Tryz.func131, Tryz.ntmps131
  go_wp2_with fail
  go_region
  go_wp2_with fail
  go_region
  go_wp2
  go_ret
  exact ⟨rfl, HL.out⟩

theorem sync1_did (g b bd bn : Nat) (m : List Ent) (t : St) (s : ByteArray) (w : World) (h : Im w g b m t) (hm : t.fs.length ≤ 1000000) (hs : s.size ≤ maxLen) (hd : w.cell? ⟨bd, 0, none⟩ = some (.pointer (some ⟨g, 0, none⟩))) (hn : w.cell? ⟨bn, 0, none⟩ = some (.string s)) :
    Calls Tryz.prog 131 #[.pointer (some ⟨bd, 0, none⟩), .pointer (some ⟨bn, 0, none⟩)] w (Did w g b m (sync1 s.data.toList t)) := by
  unfold sync1
  rw [h.get]
  cases hf : found m s with
  | none => exact sync_none g b bd bn m t s w h hs hd hn hf
  | some e => exact sync_ok g b bd bn m t s e w h hm hs hd hn hf
theorem sync_enters (caps : Array Value) (w : World) : (callFunc 131 caps).run Tryz.prog w = .ok (.enter 131 caps) w := enters_of Tryz.func131 (by kernel_rfl) rfl caps w
set_option maxRecDepth 100000 in
set_option maxHeartbeats 3200000 in
theorem sync_did (g b : Nat) (m : List Ent) (t : St) (s : ByteArray) (w : World) (h : Im w g b m t) (hm : t.fs.length ≤ 1000000) :
    Calls Tryz.prog 108 #[.pointer (some ⟨g, 0, none⟩), .string s] w (Did w g b m (stSync s.data.toList t)) := by
  have HI := Lib.hid h
  clear h
  go_enter Tryz.func108, Tryz.ntmps108
  have HM := Lib.hid (mod1 _ g b sync_enters m t s w HI.out (sync1 s.data.toList) fun bd bn w1 hI hs _ hd hn => sync1_did g b bd bn m _ s w1 hI (by rw [(chg_same t).2]; exact hm) hs hd hn)
  unfold stSync
  generalize doing (okN s.data.toList) t (sync1 s.data.toList) = r at *
  go_wp2_with (go_at_call 45; refine HM.out.mono ?_; rintro e w' ⟨rfl, hL⟩; have HL := Lib.hid hL; clear hL)
  go_ret
  exact ⟨rfl, HL.out⟩
end Go.Proofs.YtejphnbhcabchaaGreat.Dk

namespace Go.Proofs.YtejphnbhcabchaaGreat.Dk
open Go.RowKit Go.Proofs.YtejphnbhcabchaaGreat.Fld

/-- a disk that was made behind w0; what was there at w0 is as it was -/
def Sn (w0 w : World) (g b : Nat) (m : List Ent) (t : St) : Prop := Im w g b m t ∧ Below w0.heap.size w0 w ∧ ∀ i ∈ g :: b :: blks m, w0.heap.size ≤ i
theorem Sn.left {w0 w w' : World} {g b : Nat} {m : List Ent} {t t' : St} (h : Sn w0 w g b m t) (hL : Left w g b m t' w') : ∃ m', Sn w0 w' g b m' t' := by
  obtain ⟨m', h1, h2, h3⟩ := hL
  refine ⟨m', h1, h2.to_below h.2.1 h.2.2, ?_⟩
  intro i hi
  simp only [List.mem_cons] at hi
  rcases hi with rfl | rfl | hi
  · exact h.2.2 _ (by simp)
  · exact h.2.2 _ (by simp)
  · rcases h3 i hi with h4 | h4
    · exact h.2.2 i (by simp [h4])
    · exact Nat.le_trans h.2.1.size h4
theorem Sn.below {w0 w w' : World} {g b : Nat} {m : List Ent} {t : St} (h : Sn w0 w g b m t) (hb : Below w.heap.size w w') : Sn w0 w' g b m t := ⟨h.1.below hb, h.2.1.trans (hb.mono h.2.1.size), h.2.2⟩
/-- the answer and the state behind it -/
def DidS (w0 : World) (g b : Nat) (r : Int × St) (e : Ending) (w' : World) : Prop := e = .returned (.int .i64 r.1) ∧ ∃ m', Sn w0 w' g b m' r.2
theorem app_sn {w0 w : World} {g b : Nat} {m : List Ent} {t : St} (h : Sn w0 w g b m t) (s : ByteArray) (A : Option Addr) (n cap : Nat) (ys : List Int) (hm : t.fs.length ≤ 1000000) (hr : Rd w A n ys) (hA : A = none → cap = 0) (hn : n ≤ 140737488355328) :
    Calls Tryz.prog 21 #[.pointer (some ⟨g, 0, none⟩), .string s, .slice A n cap] w (DidS w0 g b (stAppend s.data.toList ys t)) :=
  (app_did g b m t s A n cap ys w h.1 hm hr hA hn).mono fun _ _ ⟨he, hL⟩ => ⟨he, h.left hL⟩
theorem sync_sn {w0 w : World} {g b : Nat} {m : List Ent} {t : St} (h : Sn w0 w g b m t) (s : ByteArray) (hm : t.fs.length ≤ 1000000) :
    Calls Tryz.prog 108 #[.pointer (some ⟨g, 0, none⟩), .string s] w (DidS w0 g b (stSync s.data.toList t)) :=
  (sync_did g b m t s w h.1 hm).mono fun _ _ ⟨he, hL⟩ => ⟨he, h.left hL⟩
theorem unl_sn {w0 w : World} {g b : Nat} {m : List Ent} {t : St} (h : Sn w0 w g b m t) (s : ByteArray) :
    Calls Tryz.prog 107 #[.pointer (some ⟨g, 0, none⟩), .string s] w (DidS w0 g b (stUnlink s.data.toList t)) :=
  (unl_did g b m t s w h.1).mono fun _ _ ⟨he, hL⟩ => ⟨he, h.left hL⟩
theorem ren_sn {w0 w : World} {g b : Nat} {m : List Ent} {t : St} (h : Sn w0 w g b m t) (s u : ByteArray) (hm : t.fs.length ≤ 1000000) :
    Calls Tryz.prog 109 #[.pointer (some ⟨g, 0, none⟩), .string s, .string u] w (DidS w0 g b (stRename s.data.toList u.data.toList t)) :=
  (ren_did g b m t s u w h.1 hm).mono fun _ _ ⟨he, hL⟩ => ⟨he, h.left hL⟩
theorem Im.scheds {w w' : World} {g b : Nat} {m : List Ent} {t t' : St} (h : Im w g b m t) (hd : DskT w' g b t') (hf : Fr [g] w w') (hfs : t'.fs = t.fs) (hr : t'.room = t.room) (hfl : ∀ k, t'.fail = some k → k ≤ 9223372036854775807) (hal : ∀ k, t'.arm = some k → k ≤ 9223372036854775807) : Im w' g b m t' := by
  obtain ⟨n1, n2, n3⟩ := h.ne
  refine ⟨hd, own_of_block h.own (hf.block b h.own.lt (by simpa using Ne.symm n1)), by rw [hfs]; exact h.fs, fun e he => (h.file e he).of_block fun i hi => hf.block i ((h.file e he).lt hi) (by
    intro hm
    simp only [List.mem_singleton] at hm
    exact n2 (mem_blks.2 ⟨e, he, by rw [← hm]; exact hi⟩)), h.nodup, ?_, hfl, hal⟩
  refine ⟨by rw [hr]; exact h.good.1, by rw [hr]; exact h.good.2, by rw [hr, hfs]; exact h.good.3, by rw [hfs]; exact h.good.4, by rw [hfs]; exact h.good.5, by rw [hfs]; exact h.good.6, by rw [hfs]; exact h.good.7⟩
theorem fail_sn {w0 w : World} {g b : Nat} {m : List Ent} {t : St} (h : Sn w0 w g b m t) (n : Int) (hn : n ≤ 9223372036854775807) :
    Calls Tryz.prog 15 #[.pointer (some ⟨g, 0, none⟩), .int .i64 n] w (DidS w0 g b (stFail n t)) := by
  refine (fail_any g b t n w h.1.dsk).mono fun _ _ ⟨he, hd, hf⟩ => ⟨he, h.left ⟨m, h.1.scheds hd hf ?_ ?_ ?_ ?_, hf.mono (by simp), fun _ hi => .inl hi⟩⟩
  · unfold stFail; split <;> rfl
  · unfold stFail; split <;> rfl
  · intro k
    unfold stFail
    split
    · exact h.1.fl k
    · intro hk
      cases hk
      omega
  · intro k
    unfold stFail
    split
    · exact h.1.al k
    · exact h.1.al k
theorem arm_sn {w0 w : World} {g b : Nat} {m : List Ent} {t : St} (h : Sn w0 w g b m t) (n : Int) (hn : n ≤ 9223372036854775807) :
    Calls Tryz.prog 17 #[.pointer (some ⟨g, 0, none⟩), .int .i64 n] w (DidS w0 g b (stArm n t)) := by
  refine (arm_any g b t n w h.1.dsk).mono fun _ _ ⟨he, hd, hf⟩ => ⟨he, h.left ⟨m, h.1.scheds hd hf ?_ ?_ ?_ ?_, hf.mono (by simp), fun _ hi => .inl hi⟩⟩
  · unfold stArm; split <;> rfl
  · unfold stArm; split <;> rfl
  · intro k
    unfold stArm
    split
    · exact h.1.fl k
    · exact h.1.fl k
  · intro k
    unfold stArm
    split
    · exact h.1.al k
    · intro hk
      cases hk
      omega
theorem crash_sn {w0 w : World} {g b : Nat} {m : List Ent} {t : St} (h : Sn w0 w g b m t) (A : Option Addr) (n cap : Nat) (ks : List Int) (hm : t.fs.length ≤ 1000000) (hr : RdI w A n ks) (hA : 0 < n → ∀ a, A = some a → a.block ∉ g :: b :: blks m) :
    Calls Tryz.prog 19 #[.pointer (some ⟨g, 0, none⟩), .slice A n cap] w fun e w' => e = .returned (.tuple #[]) ∧ ∃ m', Sn w0 w' g b m' (stCrash ks t) :=
  (crash_any g b m t A n cap ks w h.1 hm hr hA).mono fun _ _ ⟨he, hL⟩ => ⟨he, h.left hL⟩
theorem read_sn {w0 w : World} {g b : Nat} {m : List Ent} {t : St} (h : Sn w0 w g b m t) (s : ByteArray) : Calls Tryz.prog 87 #[.pointer (some ⟨g, 0, none⟩), .string s] w (ReadIs w (stRead s.data.toList t)) := read_any g b m t s w h.1
def st0 (room : Nat) : St := ⟨room, [], false, none, none⟩
theorem good0 (room : Nat) (h1 : 1 ≤ room) (h2 : room ≤ 16777216) : Good (st0 room) := ⟨h1, h2, Nat.zero_le _, List.Pairwise.nil, by intro f hf; simp [st0] at hf, by intro f hf; simp [st0] at hf, by intro f hf; simp [st0] at hf⟩
theorem new_sn (room : Nat) (w : World) (h1 : 1 ≤ room) (h2 : room ≤ 16777216) : Calls Tryz.prog 9 #[.int .i64 (room : Int)] w fun e w' =>
    ∃ b g, e = .returned (.tuple #[.pointer (some ⟨g, 0, none⟩), .int .i64 0]) ∧ Sn w w' g b [] (st0 room) := by
  refine (new_ok (room : Int) w (by omega) (by omega)).mono ?_
  rintro e w' ⟨b, g, he, hb, hg, hne, hmap, hd, hB⟩
  refine ⟨b, g, he, ⟨hd, ?_, rfl, (fun e he => by simp at he), by simp [blks]; exact Ne.symm hne, good0 room h1 h2, (fun k hk => by cases hk), (fun k hk => by cases hk)⟩, hB, ?_⟩
  · exact ⟨#[], 0, hmap, ⟨by simp, Go.MapKept.stamped_empty 0, by simp⟩, by simp, rfl⟩
  · intro i hi
    simp [blks] at hi
    rcases hi with rfl | rfl
    · exact hg
    · exact hb
theorem rd_one (w : World) (c : Int) (h0 : 0 ≤ c) (h1 : c ≤ 255) : Rd (w.alloc (.cells #[.int .u8 c] 5)) (some ⟨w.heap.size, 0, none⟩) 1 [c] := by
  refine ⟨rfl, by unfold maxLen; omega, bytes_cons h0 h1 bytes_nil, fun _ => ⟨_, _, rfl, fun i hi => ?_⟩⟩
  rw [World.cell?_alloc_mark, Nat.zero_add]
  obtain rfl : i = 0 := by omega
  rfl
end Go.Proofs.YtejphnbhcabchaaGreat.Dk
