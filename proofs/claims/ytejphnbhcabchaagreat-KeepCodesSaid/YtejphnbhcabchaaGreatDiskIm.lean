/-
  The program's disk in memory (Im): its block, the map of its files, their bytes; what looking up, storing and deleting in that map do. Conditions: as each theorem states.
-/
import Derived.Test.YtejphnbhcabchaaGreatDiskFault
import Derived.Test.YtejphnbhcabchaaGreatDiskGood
import Derived.Great.BuildSlice
import Derived.Shelf.Abstract
namespace Go.Proofs.YtejphnbhcabchaaGreat.Dk
open Go.RowKit Go.Proofs.YtejphnbhcabchaaGreat.Fld

def FileAt (w : World) (e : Ent) : Prop := Bytes e.zs ∧ w.ownsRow 0 5 1 e.v e.zs.length (by8 e.zs)
def blks (m : List Ent) : List Nat := m.filterMap fun e => e.v.ownBlock
structure Im (w : World) (g b : Nat) (m : List Ent) (t : St) : Prop where
  dsk : DskT w g b t
  own : w.ownsMap Tryz.prog 9 R1 b m.length (dOf m)
  fs : t.fs = m.map Ent.fil
  file : ∀ e ∈ m, FileAt w e
  nodup : (g :: b :: blks m).Nodup
  good : Good t
  fl : ∀ k, t.fail = some k → k ≤ 9223372036854775807
  al : ∀ k, t.arm = some k → k ≤ 9223372036854775807

theorem FileAt.lt {w : World} {e : Ent} (h : FileAt w e) {i : Nat} (hi : e.v.ownBlock = some i) : i < w.heap.size := by
  rcases h.2.2 with ⟨hv, _⟩ | ⟨q, cap, cur, hv, _, hb, _⟩
  · rw [hv] at hi; cases hi
  · rw [hv] at hi; cases hi; exact (Array.getElem?_eq_some_iff.1 hb).1
theorem FileAt.of_block {w w' : World} {e : Ent} (h : FileAt w e) (hb : ∀ i, e.v.ownBlock = some i → w'.heap[i]? = w.heap[i]?) : FileAt w' e := by
  obtain ⟨h1, h2, h3⟩ := h
  refine ⟨h1, h2, ?_⟩
  rcases h3 with h3 | ⟨q, cap, cur, hv, hg, hq, r⟩
  · exact .inl h3
  · exact .inr ⟨q, cap, cur, hv, hg, (hb q (by rw [hv]; rfl)).trans hq, r⟩
theorem own_of_block {w w' : World} {b n : Nat} {D : DataW Value} (h : w.ownsMap Tryz.prog 9 R1 b n D) (hb : w'.heap[b]? = w.heap[b]?) : w'.ownsMap Tryz.prog 9 R1 b n D := by
  obtain ⟨es, clock, h1, h2⟩ := h
  exact ⟨es, clock, hb.trans h1, h2⟩
theorem mem_blks {m : List Ent} {i : Nat} : i ∈ blks m ↔ ∃ e ∈ m, e.v.ownBlock = some i := by simp [blks]
theorem Im.lt {w : World} {g b : Nat} {m : List Ent} {t : St} (h : Im w g b m t) : ∀ i ∈ g :: b :: blks m, i < w.heap.size := by
  intro i hi
  simp only [List.mem_cons, mem_blks] at hi
  rcases hi with rfl | rfl | ⟨e, he, hv⟩
  · exact h.dsk.lt
  · exact h.own.lt
  · exact (h.file e he).lt hv
theorem Im.of_blocks {w w' : World} {g b : Nat} {m : List Ent} {t : St} (h : Im w g b m t) (hb : ∀ i ∈ g :: b :: blks m, w'.heap[i]? = w.heap[i]?) : Im w' g b m t :=
  ⟨Dsk.of_block h.dsk (hb g (by simp)), own_of_block h.own (hb b (by simp)), h.fs, fun e he => (h.file e he).of_block fun i hi => hb i (by simp only [List.mem_cons, mem_blks]; exact .inr (.inr ⟨e, he, hi⟩)), h.nodup, h.good, h.fl, h.al⟩
theorem Im.frame {S : List Nat} {w w' : World} {g b : Nat} {m : List Ent} {t : St} (h : Im w g b m t) (hf : Fr S w w') (hd : ∀ i ∈ S, i ∉ g :: b :: blks m) : Im w' g b m t :=
  h.of_blocks fun i hi => hf.block i (h.lt i hi) fun hs => hd i hs hi
theorem Im.below {w w' : World} {g b : Nat} {m : List Ent} {t : St} (h : Im w g b m t) (hb : Below w.heap.size w w') : Im w' g b m t := h.of_blocks fun i hi => hb.block i (h.lt i hi)

theorem keyed : Maps.Keyed Tryz.prog 9 := Maps.string_keyed Tryz.underlying9
def zeroF : Value := .agg #[.slice none 0 0, .int .i64 0]
theorem zeroF_run (w : World) : (zeroValue 82).run Tryz.prog w = .ok zeroF w := by kernel_rfl
def found (m : List Ent) (s : ByteArray) : Option Ent := get Ent.nm s.data.toList m
def foundV (m : List Ent) (s : ByteArray) : Value := ((found m s).map Ent.val).getD zeroF
theorem look2 {w : World} {b n : Nat} {m : List Ent} (h : w.ownsMap Tryz.prog 9 R1 b n (dOf m)) (s : ByteArray) (hs : s.size ≤ maxLen) :
    (Instr.lookup 69 (.map (some b)) (.string s) true).run Tryz.prog w = .ok (.tuple #[foundV m s, .bool (found m s).isSome]) w := by
  obtain ⟨v, ps, hrun, hv⟩ := h.look_ok keyed Tryz.underlying69 (zeroF_run w) (show R1 zeroF = some (.held zeroF, []) from rfl) (Go.WideMaps.keyOf_string_mk Tryz.underlying9 hs)
  rw [dOf_at, dOf_has] at *
  have : v = foundV m s := by
    unfold R1 at hv
    simp at hv
    exact hv.1
  rw [hrun, this]
  rfl
theorem look1 {w : World} {b n : Nat} {m : List Ent} (h : w.ownsMap Tryz.prog 9 R1 b n (dOf m)) (s : ByteArray) (hs : s.size ≤ maxLen) :
    (Instr.lookup 69 (.map (some b)) (.string s) false).run Tryz.prog w = .ok (foundV m s) w := by
  obtain ⟨v, ps, hrun, hv⟩ := h.lookup keyed Tryz.underlying69 (zeroF_run w) (show R1 zeroF = some (.held zeroF, []) from rfl) (Go.WideMaps.keyOf_string_mk Tryz.underlying9 hs)
  rw [dOf_at] at *
  have : v = foundV m s := by
    unfold R1 at hv
    simp at hv
    exact hv.1
  rw [hrun, this]
theorem tight {w : World} {b n : Nat} {m : List Ent} (h : w.ownsMap Tryz.prog 9 R1 b n (dOf m)) : w.ownsMap Tryz.prog 9 R1 b m.length (dOf m) := by
  obtain ⟨es, clock, h1, h2, h3, h4⟩ := h
  refine ⟨es, clock, h1, h2, ?_, h4⟩
  have := congrArg Maps.size h4
  rw [dOf_size] at this
  rw [this]
  simp [Maps.size, length_sorted]
theorem store1 {w : World} {b : Nat} {m : List Ent} (h : w.ownsMap Tryz.prog 9 R1 b m.length (dOf m)) (hm : m.length ≤ 1000000) (s : ByteArray) (hs : s.size ≤ maxLen) (e : Ent) (he : e.nm = s.data.toList) :
    ∃ w', (Instr.mapUpdate 69 (.map (some b)) (.string s) e.val).run Tryz.prog w = .ok () w' ∧ w'.ownsMap Tryz.prog 9 R1 b (put Ent.nm e m).length (dOf (put Ent.nm e m)) ∧ w.mapTurned w' b := by
  obtain ⟨w', h1, h2, h3⟩ := h.store keyed Tryz.underlying69 (by unfold maxLen; omega) (Go.WideMaps.keyOf_string_mk Tryz.underlying9 hs) (show R1 e.val = some (.held e.val, []) from rfl)
  rw [← he, dOf_put] at h2
  exact ⟨w', h1, tight h2, h3⟩
theorem drop1 {w : World} {b : Nat} {m : List Ent} (h : w.ownsMap Tryz.prog 9 R1 b m.length (dOf m)) (s : ByteArray) (hs : s.size ≤ maxLen) (ty : TypeId) :
    ∃ w', (Builtin.delete_ #[69, 9] ty #[.map (some b), .string s]).run Tryz.prog w = .ok (.tuple #[]) w' ∧ w'.ownsMap Tryz.prog 9 R1 b (del Ent.nm s.data.toList m).length (dOf (del Ent.nm s.data.toList m)) ∧ w.mapTurned w' b := by
  obtain ⟨w', h1, h2, h3⟩ := h.drop keyed Tryz.underlying69 (Go.WideMaps.keyOf_string_mk Tryz.underlying9 hs) ty
  rw [dOf_del] at h2
  exact ⟨w', h1, tight h2, h3⟩
theorem cell_past {w : World} {a : Addr} {v : Value} (h : w.cell? a = some v) (o : Obj) : (w.alloc o).cell? a = some v := (World.cell?_of_block (w := w) (Below.heap_alloc _ _ _ (lt_of_cell h))).trans h
theorem own_past {w : World} {b n : Nat} {D : DataW Value} (h : w.ownsMap Tryz.prog 9 R1 b n D) (o : Obj) : (w.alloc o).drew.ownsMap Tryz.prog 9 R1 b n D := (h.alloc o).drew

theorem blks_perm {a c : List Ent} (h : a.Perm c) : (blks a).Perm (blks c) := h.filterMap _
theorem blks_cons (e : Ent) (m : List Ent) : ∀ i, i ∈ blks (e :: m) ↔ e.v.ownBlock = some i ∨ i ∈ blks m := by
  intro i
  simp [mem_blks]
theorem blks_del {m : List Ent} {x : Nm} {i : Nat} (h : i ∈ blks (del Ent.nm x m)) : i ∈ blks m := by
  obtain ⟨e, he, hv⟩ := mem_blks.1 h
  exact mem_blks.2 ⟨e, (mem_del.1 he).1, hv⟩
theorem nodup_del {g b : Nat} {m : List Ent} (h : (g :: b :: blks m).Nodup) (x : Nm) : (g :: b :: blks (del Ent.nm x m)).Nodup := by
  refine h.sublist ?_
  exact ((List.filter_sublist.filterMap _).cons_cons b).cons_cons g
theorem nodup_put {g b : Nat} {m : List Ent} {e : Ent} (h : (g :: b :: blks m).Nodup) (hb : ∀ i, e.v.ownBlock = some i → i ∉ g :: b :: blks (del Ent.nm e.nm m)) : (g :: b :: blks (put Ent.nm e m)).Nodup := by
  have h1 := nodup_del h e.nm
  have hp : (blks (put Ent.nm e m)).Perm (blks (e :: del Ent.nm e.nm m)) := blks_perm (ins_perm _ _)
  rw [((hp.cons b).cons g).nodup_iff]
  cases hv : e.v.ownBlock with
  | none => simpa [blks, hv] using h1
  | some i =>
    have hi := hb i hv
    have hc : blks (e :: del Ent.nm e.nm m) = i :: blks (del Ent.nm e.nm m) := by simp [blks, hv]
    rw [hc]
    have : (i :: g :: b :: blks (del Ent.nm e.nm m)).Nodup := List.nodup_cons.2 ⟨hi, h1⟩
    refine (List.Perm.nodup_iff ?_).1 this
    exact ((List.Perm.swap g i _).trans ((List.Perm.swap b i _).cons g))
/-- the block of an entry is no other's -/
theorem apart {g b : Nat} {m : List Ent} {e : Ent} (h : (g :: b :: blks m).Nodup) (hu : Up Ent.nm m) (he : e ∈ m) {i : Nat} (hv : e.v.ownBlock = some i) : i ∉ g :: b :: blks (del Ent.nm e.nm m) := by
  have hp := ((blks_perm (perm_at hu he)).cons b).cons g
  rw [hp.nodup_iff] at h
  have hc : blks (e :: del Ent.nm e.nm m) = i :: blks (del Ent.nm e.nm m) := by simp [blks, hv]
  rw [hc] at h
  have h2 : (i :: g :: b :: blks (del Ent.nm e.nm m)).Nodup := by
    refine (List.Perm.nodup_iff ?_).2 h
    exact ((List.Perm.swap g i _).trans ((List.Perm.swap b i _).cons g))
  exact (List.nodup_cons.1 h2).1
theorem Im.up {w : World} {g b : Nat} {m : List Ent} {t : St} (h : Im w g b m t) : Up Ent.nm m := by
  have := h.good.up
  rw [h.fs] at this
  exact (map_up (k1 := Ent.nm) (k2 := Prod.fst) Ent.fil (fun _ => rfl)).1 this
theorem Im.get {w : World} {g b : Nat} {m : List Ent} {t : St} (h : Im w g b m t) (s : ByteArray) : fget s.data.toList t.fs = (found m s).map Ent.fil := by
  rw [h.fs]
  exact (map_get (k1 := Ent.nm) (k2 := Prod.fst) Ent.fil (fun _ => rfl) _ _).symm
theorem Im.len {w : World} {g b : Nat} {m : List Ent} {t : St} (h : Im w g b m t) : m.length = t.fs.length := by rw [h.fs]; simp
theorem Im.stored {w w' : World} {g b : Nat} {m : List Ent} {t t' : St} (h : Im w g b m t) (e : Ent) (hd : DskT w' g b t') (ho : w'.ownsMap Tryz.prog 9 R1 b (put Ent.nm e m).length (dOf (put Ent.nm e m)))
    (hfs : t'.fs = fput e.fil t.fs) (hgd : Good t') (hfe : FileAt w' e) (hfo : ∀ a ∈ m, a.nm ≠ e.nm → FileAt w' a) (hbl : ∀ i, e.v.ownBlock = some i → i ∉ g :: b :: blks (del Ent.nm e.nm m))
    (hfl : t'.fail = t.fail) (hal : t'.arm = t.arm) : Im w' g b (put Ent.nm e m) t' := by
  refine ⟨hd, ho, ?_, ?_, nodup_put h.nodup hbl, hgd, by rw [hfl]; exact h.fl, by rw [hal]; exact h.al⟩
  · rw [hfs, h.fs]
    exact (map_put (k1 := Ent.nm) (k2 := Prod.fst) Ent.fil (fun _ => rfl) _ _).symm
  · intro a ha
    rcases mem_put.1 ha with rfl | ⟨ha, hn⟩
    · exact hfe
    · exact hfo a ha hn
theorem Im.dropped {w w' : World} {g b : Nat} {m : List Ent} {t t' : St} (h : Im w g b m t) (x : Nm) (hd : DskT w' g b t') (ho : w'.ownsMap Tryz.prog 9 R1 b (del Ent.nm x m).length (dOf (del Ent.nm x m)))
    (hfs : t'.fs = fdel x t.fs) (hgd : Good t') (hfo : ∀ a ∈ m, FileAt w' a) (hfl : t'.fail = t.fail) (hal : t'.arm = t.arm) : Im w' g b (del Ent.nm x m) t' := by
  refine ⟨hd, ho, ?_, fun a ha => hfo a (mem_del.1 ha).1, nodup_del h.nodup x, hgd, by rw [hfl]; exact h.fl, by rw [hal]; exact h.al⟩
  rw [hfs, h.fs]
  exact (map_del (k1 := Ent.nm) (k2 := Prod.fst) Ent.fil (fun _ => rfl) _ _).symm

/-- what a call that may change the disk answers, and leaves -/
def Left (w : World) (g b : Nat) (m : List Ent) (t : St) (w' : World) : Prop := ∃ m', Im w' g b m' t ∧ Fr (g :: b :: blks m) w w' ∧ ∀ i ∈ blks m', i ∈ blks m ∨ w.heap.size ≤ i
def Did (w : World) (g b : Nat) (m : List Ent) (r : Int × St) (e : Ending) (w' : World) : Prop := e = .returned (.int .i64 r.1) ∧ Left w g b m r.2 w'
theorem Left.same {w : World} {g b : Nat} {m : List Ent} {t : St} (h : Im w g b m t) : Left w g b m t w := ⟨m, h, Fr.refl _ _, fun _ hi => .inl hi⟩
theorem Left.after {S : List Nat} {w w1 w' : World} {g b : Nat} {m : List Ent} {t : St} (hf : Fr S w w1) (hS : ∀ i ∈ S, i ∈ g :: b :: blks m) (h : Left w1 g b m t w') : Left w g b m t w' := by
  obtain ⟨m', h1, h2, h3⟩ := h
  refine ⟨m', h1, (hf.mono hS).same h2, fun i hi => ?_⟩
  rcases h3 i hi with h | h
  · exact .inl h
  · exact .inr (Nat.le_trans hf.size h)
theorem DskT.files {w : World} {g b : Nat} {t : St} (h : DskT w g b t) (fs : List Fil) (hf : total fs = total t.fs) : DskT w g b { t with fs := fs } := by
  unfold DskT at h ⊢
  simp only [hf]
  exact h
theorem Im.ne {w : World} {g b : Nat} {m : List Ent} {t : St} (h : Im w g b m t) : g ≠ b ∧ g ∉ blks m ∧ b ∉ blks m := by
  have := h.nodup
  simp only [List.nodup_cons, List.mem_cons, not_or] at this
  exact ⟨this.1.1, this.1.2, this.2.1⟩
theorem Im.chg {w w1 : World} {g b : Nat} {m : List Ent} {t : St} (h : Im w g b m t) (hd : DskT w1 g b (chg t).2) (hf : Fr [g] w w1) : Im w1 g b m (chg t).2 := by
  obtain ⟨n1, n2, n3⟩ := h.ne
  refine ⟨hd, own_of_block h.own (hf.block b h.own.lt (by simpa using Ne.symm n1)), by rw [(chg_same t).2]; exact h.fs, fun e he => (h.file e he).of_block fun i hi => hf.block i ((h.file e he).lt hi) (by
    intro hm
    simp only [List.mem_singleton] at hm
    exact n2 (mem_blks.2 ⟨e, he, by rw [← hm]; exact hi⟩)), h.nodup, h.good.chg, ?_, ?_⟩
  · have := h.fl
    unfold Dk.chg
    intro k
    split
    · exact this k
    · split
      · exact this k
      · split
        · intro h; cases h
        · intro hk
          simp only [Option.map_eq_some_iff] at hk
          obtain ⟨j, hj, rfl⟩ := hk
          have := this j hj
          omega
  · have := h.al
    unfold Dk.chg
    intro k
    split
    · exact this k
    · split
      · intro h; cases h
      · split <;>
        · intro hk
          simp only [Option.map_eq_some_iff] at hk
          obtain ⟨j, hj, rfl⟩ := hk
          have := this j hj
          omega
theorem modify_did (g b A n cap K : Nat) (caps : Array Value) (hen : ∀ w, (callFunc K caps).run Tryz.prog w = .ok (.enter K caps) w) (m : List Ent) (t : St) (ss : List ByteArray) (w : World) (h : Im w g b m t) (hr : RdS w (some ⟨A, 0, none⟩) n ss)
    (f : St → Int × St) (hc : ∀ w1, allN ss = true → Im w1 g b m (chg t).2 → Fr [g] w w1 → Calls Tryz.prog K caps w1 (Did w1 g b m (f (chg t).2))) :
    Calls Tryz.prog 45 #[.pointer (some ⟨g, 0, none⟩), .func (.func K) #[] caps, .slice (some ⟨A, 0, none⟩) n cap] w (Did w g b m (doing (allN ss) t f)) := by
  unfold doing
  cases hv : allN ss with
  | false =>
    refine (modify_name g A n cap _ ss w hr hv).mono ?_
    rintro e w' ⟨rfl, rfl⟩
    exact ⟨rfl, Left.same h⟩
  | true =>
    simp only [if_true]
    by_cases h0 : (chg t).1 = 0
    · rw [if_pos h0]
      refine (modify_made g b A n cap K caps hen t ss w h.dsk h.fl h.al hr hv h0 (fun r w' => r = (f (chg t).2).1 ∧ Left w g b m (f (chg t).2).2 w') ?_).mono ?_
      · intro w1 hd hf
        refine (hc w1 hv (h.chg hd hf) hf).mono ?_
        rintro e w2 ⟨rfl, hL⟩
        exact ⟨_, rfl, rfl, hL.after hf (by simp)⟩
      · rintro e w2 ⟨r, rfl, rfl, hL⟩
        exact ⟨rfl, hL⟩
    · rw [if_neg h0]
      refine (modify_fault g b A n cap t _ ss w h.dsk h.fl h.al hr hv h0).mono ?_
      rintro e w' ⟨rfl, hd, hf⟩
      exact ⟨rfl, m, h.chg hd hf, hf.mono (by simp), fun _ hi => .inl hi⟩
theorem rds_one (w : World) (s : ByteArray) : RdS (w.alloc (.cells #[.string s] 9)) (some ⟨w.heap.size, 0, none⟩) 1 [s] := by
  refine ⟨rfl, by omega, fun _ => ⟨_, _, rfl, fun i hi => ?_⟩⟩
  obtain rfl : i = 0 := by omega
  rw [World.cell?_alloc_mark]
  rfl
theorem rds_two (w : World) (s u : ByteArray) : RdS (w.alloc (.cells #[.string s, .string u] 9)) (some ⟨w.heap.size, 0, none⟩) 2 [s, u] := by
  refine ⟨rfl, by omega, fun _ => ⟨_, _, rfl, fun i hi => ?_⟩⟩
  rw [World.cell?_alloc_mark, Nat.zero_add]
  rcases (show i = 0 ∨ i = 1 from by omega) with rfl | rfl <;> rfl
theorem allN_one (s : ByteArray) : allN [s] = okN s.data.toList := by simp [allN]
theorem allN_two (s u : ByteArray) : allN [s, u] = (okN s.data.toList && okN u.data.toList) := by simp [allN]
theorem size_of_ok {s : ByteArray} (h : okN s.data.toList = true) : s.size ≤ maxLen := by
  unfold okN at h
  simp only [Bool.and_eq_true, decide_eq_true_eq, len_data] at h
  unfold maxLen
  omega
theorem new_cell (w : World) (v : Value) (ty : TypeId) : (w.alloc (.cells #[v] ty)).cell? ⟨w.heap.size, 0, none⟩ = some v := by
  rw [World.cell?_alloc_mark]
  rfl
theorem size_up (w : World) (o : Obj) : (w.alloc o).heap.size = w.heap.size + 1 := by simp
theorem below3 (w : World) (o1 o2 o3 : Obj) : Below w.heap.size w (((w.alloc o1).alloc o2).alloc o3) := (((Below.refl _ w).alloc (Nat.le_refl _) o1).alloc (by simp) o2).alloc (by simp; omega) o3
theorem below4 (w : World) (o1 o2 o3 o4 : Obj) : Below w.heap.size w ((((w.alloc o1).alloc o2).alloc o3).alloc o4) := (below3 w o1 o2 o3).alloc (by simp; omega) o4
/-- a cell of a block that a call has not touched -/
theorem Fr.cell {S : List Nat} {w w' : World} {a : Addr} {v : Value} (h : Fr S w w') (hc : w.cell? a = some v) (hS : a.block ∉ S) : w'.cell? a = some v :=
  (World.cell?_of_block (w := w) (h.block _ (lt_of_cell hc) hS)).trans hc
/-- a method of one name -/
theorem mod1 (K g b : Nat) (hen : ∀ caps w, (callFunc K caps).run Tryz.prog w = .ok (.enter K caps) w) (m : List Ent) (t : St) (s : ByteArray) (w : World) (h : Im w g b m t) (f : St → Int × St)
    (hc : ∀ bd bn w1, Im w1 g b m (chg t).2 → s.size ≤ maxLen → okN s.data.toList = true → w1.cell? ⟨bd, 0, none⟩ = some (.pointer (some ⟨g, 0, none⟩)) → w1.cell? ⟨bn, 0, none⟩ = some (.string s) → Calls Tryz.prog K #[.pointer (some ⟨bd, 0, none⟩), .pointer (some ⟨bn, 0, none⟩)] w1 (Did w1 g b m (f (chg t).2))) :
    Calls Tryz.prog 45 #[.pointer (some ⟨g, 0, none⟩), .func (.func K) #[] #[.pointer (some ⟨w.heap.size, 0, none⟩), .pointer (some ⟨w.heap.size + 1, 0, none⟩)], .slice (some ⟨w.heap.size + 1 + 1, 0, none⟩) 1 1]
      (((w.alloc (.cells #[.pointer (some ⟨g, 0, none⟩)] 24)).alloc (.cells #[.string s] 9)).alloc (.cells #[.string s] 9)) (Did w g b m (doing (okN s.data.toList) t f)) := by
  have hb := below3 w (.cells #[.pointer (some ⟨g, 0, none⟩)] 24) (.cells #[.string s] 9) (.cells #[.string s] 9)
  have hI := h.below hb
  have hr := rds_one ((w.alloc (.cells #[.pointer (some ⟨g, 0, none⟩)] 24)).alloc (.cells #[.string s] 9)) s
  rw [size_up, size_up] at hr
  have hd := cell_past (cell_past (new_cell w (.pointer (some ⟨g, 0, none⟩)) 24) (.cells #[.string s] 9)) (.cells #[.string s] 9)
  have hn := cell_past (new_cell (w.alloc (.cells #[.pointer (some ⟨g, 0, none⟩)] 24)) (.string s) 9) (.cells #[.string s] 9)
  rw [size_up] at hn
  have hg := h.dsk.lt
  generalize (((w.alloc (.cells #[.pointer (some ⟨g, 0, none⟩)] 24)).alloc (.cells #[.string s] 9)).alloc (.cells #[.string s] 9)) = W at *
  refine (modify_did g b _ 1 1 _ _ (hen _) m t [s] W hI hr f ?_).mono ?_
  · intro w1 hv hI1 hf
    rw [allN_one] at hv
    exact hc _ _ w1 hI1 (size_of_ok hv) hv (hf.cell hd (by simp; omega)) (hf.cell hn (by simp; omega))
  · rintro e w' ⟨rfl, hL⟩
    rw [allN_one] at *
    exact ⟨rfl, hL.after (Fr.below (S := []) hb) (by simp)⟩
/-- a method of two names -/
theorem mod2 (K g b : Nat) (hen : ∀ caps w, (callFunc K caps).run Tryz.prog w = .ok (.enter K caps) w) (m : List Ent) (t : St) (s u : ByteArray) (w : World) (h : Im w g b m t) (f : St → Int × St)
    (hc : ∀ bd bn bu w1, Im w1 g b m (chg t).2 → okN s.data.toList = true → okN u.data.toList = true → (bd ∉ g :: b :: blks m) → (bn ∉ g :: b :: blks m) → (bu ∉ g :: b :: blks m) → w1.cell? ⟨bd, 0, none⟩ = some (.pointer (some ⟨g, 0, none⟩)) → w1.cell? ⟨bn, 0, none⟩ = some (.string s) → w1.cell? ⟨bu, 0, none⟩ = some (.string u) →
      Calls Tryz.prog K #[.pointer (some ⟨bd, 0, none⟩), .pointer (some ⟨bn, 0, none⟩), .pointer (some ⟨bu, 0, none⟩)] w1 (Did w1 g b m (f (chg t).2))) :
    Calls Tryz.prog 45 #[.pointer (some ⟨g, 0, none⟩), .func (.func K) #[] #[.pointer (some ⟨w.heap.size, 0, none⟩), .pointer (some ⟨w.heap.size + 1, 0, none⟩), .pointer (some ⟨w.heap.size + 1 + 1, 0, none⟩)], .slice (some ⟨w.heap.size + 1 + 1 + 1, 0, none⟩) 2 2]
      ((((w.alloc (.cells #[.pointer (some ⟨g, 0, none⟩)] 24)).alloc (.cells #[.string s] 9)).alloc (.cells #[.string u] 9)).alloc (.cells #[.string s, .string u] 9)) (Did w g b m (doing (okN s.data.toList && okN u.data.toList) t f)) := by
  have hb := below4 w (.cells #[.pointer (some ⟨g, 0, none⟩)] 24) (.cells #[.string s] 9) (.cells #[.string u] 9) (.cells #[.string s, .string u] 9)
  have hI := h.below hb
  have hr := rds_two (((w.alloc (.cells #[.pointer (some ⟨g, 0, none⟩)] 24)).alloc (.cells #[.string s] 9)).alloc (.cells #[.string u] 9)) s u
  rw [size_up, size_up, size_up] at hr
  have hd := cell_past (cell_past (cell_past (new_cell w (.pointer (some ⟨g, 0, none⟩)) 24) (.cells #[.string s] 9)) (.cells #[.string u] 9)) (.cells #[.string s, .string u] 9)
  have hn := cell_past (cell_past (new_cell (w.alloc (.cells #[.pointer (some ⟨g, 0, none⟩)] 24)) (.string s) 9) (.cells #[.string u] 9)) (.cells #[.string s, .string u] 9)
  have hu := cell_past (new_cell ((w.alloc (.cells #[.pointer (some ⟨g, 0, none⟩)] 24)).alloc (.cells #[.string s] 9)) (.string u) 9) (.cells #[.string s, .string u] 9)
  rw [size_up] at hn
  rw [size_up, size_up] at hu
  have hlt := h.lt
  have hg := h.dsk.lt
  generalize ((((w.alloc (.cells #[.pointer (some ⟨g, 0, none⟩)] 24)).alloc (.cells #[.string s] 9)).alloc (.cells #[.string u] 9)).alloc (.cells #[.string s, .string u] 9)) = W at *
  refine (modify_did g b _ 2 2 _ _ (hen _) m t [s, u] W hI hr f ?_).mono ?_
  · intro w1 hv hI1 hf
    rw [allN_two, Bool.and_eq_true] at hv
    exact hc _ _ _ w1 hI1 hv.1 hv.2 (fun hi => by have := hlt _ hi; omega) (fun hi => by have := hlt _ hi; omega) (fun hi => by have := hlt _ hi; omega) (hf.cell hd (by simp; omega)) (hf.cell hn (by simp; omega)) (hf.cell hu (by simp; omega))
  · rintro e w' ⟨rfl, hL⟩
    rw [allN_two] at *
    exact ⟨rfl, hL.after (Fr.below (S := []) hb) (by simp)⟩
/-- Append -/
theorem mod3 (K g b : Nat) (hen : ∀ caps w, (callFunc K caps).run Tryz.prog w = .ok (.enter K caps) w) (m : List Ent) (t : St) (s : ByteArray) (bv : Value) (w : World) (h : Im w g b m t) (f : St → Int × St)
    (hc : ∀ bd bb bn W w1, Im w1 g b m (chg t).2 → Below w.heap.size w W → Fr [g] W w1 → okN s.data.toList = true → (bd ∉ g :: b :: blks m) → (bb ∉ g :: b :: blks m) → (bn ∉ g :: b :: blks m) → w1.cell? ⟨bd, 0, none⟩ = some (.pointer (some ⟨g, 0, none⟩)) → w1.cell? ⟨bb, 0, none⟩ = some bv → w1.cell? ⟨bn, 0, none⟩ = some (.string s) →
      Calls Tryz.prog K #[.pointer (some ⟨bd, 0, none⟩), .pointer (some ⟨bb, 0, none⟩), .pointer (some ⟨bn, 0, none⟩)] w1 (Did w1 g b m (f (chg t).2))) :
    Calls Tryz.prog 45 #[.pointer (some ⟨g, 0, none⟩), .func (.func K) #[] #[.pointer (some ⟨w.heap.size, 0, none⟩), .pointer (some ⟨w.heap.size + 1 + 1, 0, none⟩), .pointer (some ⟨w.heap.size + 1, 0, none⟩)], .slice (some ⟨w.heap.size + 1 + 1 + 1, 0, none⟩) 1 1]
      ((((w.alloc (.cells #[.pointer (some ⟨g, 0, none⟩)] 24)).alloc (.cells #[.string s] 9)).alloc (.cells #[bv] 36)).alloc (.cells #[.string s] 9)) (Did w g b m (doing (okN s.data.toList) t f)) := by
  have hb := below4 w (.cells #[.pointer (some ⟨g, 0, none⟩)] 24) (.cells #[.string s] 9) (.cells #[bv] 36) (.cells #[.string s] 9)
  have hI := h.below hb
  have hr := rds_one (((w.alloc (.cells #[.pointer (some ⟨g, 0, none⟩)] 24)).alloc (.cells #[.string s] 9)).alloc (.cells #[bv] 36)) s
  rw [size_up, size_up, size_up] at hr
  have hd := cell_past (cell_past (cell_past (new_cell w (.pointer (some ⟨g, 0, none⟩)) 24) (.cells #[.string s] 9)) (.cells #[bv] 36)) (.cells #[.string s] 9)
  have hn := cell_past (cell_past (new_cell (w.alloc (.cells #[.pointer (some ⟨g, 0, none⟩)] 24)) (.string s) 9) (.cells #[bv] 36)) (.cells #[.string s] 9)
  have hu := cell_past (new_cell ((w.alloc (.cells #[.pointer (some ⟨g, 0, none⟩)] 24)).alloc (.cells #[.string s] 9)) bv 36) (.cells #[.string s] 9)
  rw [size_up] at hn
  rw [size_up, size_up] at hu
  have hlt := h.lt
  have hg := h.dsk.lt
  generalize ((((w.alloc (.cells #[.pointer (some ⟨g, 0, none⟩)] 24)).alloc (.cells #[.string s] 9)).alloc (.cells #[bv] 36)).alloc (.cells #[.string s] 9)) = W at *
  refine (modify_did g b _ 1 1 _ _ (hen _) m t [s] W hI hr f ?_).mono ?_
  · intro w1 hv hI1 hf
    rw [allN_one] at hv
    exact hc _ _ _ W w1 hI1 hb hf hv (fun hi => by have := hlt _ hi; omega) (fun hi => by have := hlt _ hi; omega) (fun hi => by have := hlt _ hi; omega) (hf.cell hd (by simp; omega)) (hf.cell hu (by simp; omega)) (hf.cell hn (by simp; omega))
  · rintro e w' ⟨rfl, hL⟩
    rw [allN_one] at *
    exact ⟨rfl, hL.after (Fr.below (S := []) hb) (by simp)⟩
end Go.Proofs.YtejphnbhcabchaaGreat.Dk
