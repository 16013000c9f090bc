/-
  Several texts in one: The program's disk, made behind a world (Sn): what each method answers, and leaves. Conditions: as each theorem states. Read of the program's disk, and that what it answers is the caller's own: later changes of the disk leave it as it is (Keep). Conditions: the disk lies in memory as it was made (Im, Sn). Layer 7: writing a file whole, in the program: slices.Contains of strings, write. Conditions: the disk lies in memory as it was made, and the bytes are no part of it. Layer 6: a Wal in memory, with its disk: what a call leaves of it. Conditions: as each theorem states. Layer 6: the closure of syncing in the program: the last segment's file is synced. Conditions: the Wal and its disk lie in memory (WmX), it has a segment, and the closure's variable holds the Wal. Layer 6: the closure of writing in the program: bytes are put behind the last segment's file. Conditions: the Wal and its disk lie in memory (WmX), it has a segment, the closure's variables hold the Wal and the bytes. Layer 6: writing and syncing in the program make their closures. No condition. Layer 6: run over steps that are known to do what parts of the mathematics say. Conditions: each step does so from wherever the ones ahead of it lead.
-/
import Derived.Test.YtnppomiggajhnaaGreatDoorJDiskRead
import Derived.Test.YtnppomiggajhnaaGreatDoorJFieldNext
import Derived.Test.YtnppomiggajhnaaGreatDoorJDiskRen
import Derived.Test.YtnppomiggajhnaaGreatDoorJCrcMath
import Derived.Laws.Concat
import Derived.Test.YtnppomiggajhnaaGreatDoorJWalLog
import Derived.Test.YtnppomiggajhnaaGreatDoorJWalAccR
import Derived.Deep.RegionHeld3
import Derived.StillTailTactics
import Derived.Test.YtnppomiggajhnaaGreatDoorJFieldBase
namespace Go.Proofs.YtnppomiggajhnaaGreatDoor.Dk
open Go.RowKit Go.Proofs.YtnppomiggajhnaaGreatDoor.Fld

/-- a disk that was made behind w0; what was there at w0 is as it was -/
def Sn (w0 w : World) (g b : Nat) (m : List Ent) (t : St) : Prop := Im w g b m t ∧ Below w0.heap.size w0 w ∧ ∀ i ∈ g :: b :: blks m, w0.heap.size ≤ i
theorem Sn.left {w0 w w' : World} {g b : Nat} {m : List Ent} {t t' : St} (h : Sn w0 w g b m t) (hL : Left w g b m t' w') : ∃ m', Sn w0 w' g b m' t' := by
  obtain ⟨m', h1, h2, h3⟩ := hL
  refine ⟨m', h1, h2.to_below h.2.1 h.2.2, ?_⟩
  intro i hi
  simp only [List.mem_cons] at hi
  rcases hi with rfl | rfl | hi
  · exact h.2.2 _ (by simp)
  · exact h.2.2 _ (by simp)
  · rcases h3 i hi with h4 | h4
    · exact h.2.2 i (by simp [h4])
    · exact Nat.le_trans h.2.1.size h4
theorem Sn.below {w0 w w' : World} {g b : Nat} {m : List Ent} {t : St} (h : Sn w0 w g b m t) (hb : Below w.heap.size w w') : Sn w0 w' g b m t := ⟨h.1.below hb, h.2.1.trans (hb.mono h.2.1.size), h.2.2⟩
/-- the answer and the state behind it -/
def DidS (w0 : World) (g b : Nat) (r : Int × St) (e : Ending) (w' : World) : Prop := e = .returned (.int .i64 r.1) ∧ ∃ m', Sn w0 w' g b m' r.2
theorem app_sn {w0 w : World} {g b : Nat} {m : List Ent} {t : St} (h : Sn w0 w g b m t) (s : ByteArray) (A : Option Addr) (n cap : Nat) (ys : List Int) (hm : t.fs.length ≤ 1000000) (hr : Rd w A n ys) (hA : A = none → cap = 0) (hn : n ≤ 140737488355328) :
    Calls Tryz.prog 35 #[.pointer (some ⟨g, 0, none⟩), .string s, .slice A n cap] w (DidS w0 g b (stAppend s.data.toList ys t)) :=
  (app_did g b m t s A n cap ys w h.1 hm hr hA hn).mono fun _ _ ⟨he, hL⟩ => ⟨he, h.left hL⟩
theorem sync_sn {w0 w : World} {g b : Nat} {m : List Ent} {t : St} (h : Sn w0 w g b m t) (s : ByteArray) (hm : t.fs.length ≤ 1000000) :
    Calls Tryz.prog 37 #[.pointer (some ⟨g, 0, none⟩), .string s] w (DidS w0 g b (stSync s.data.toList t)) :=
  (sync_did g b m t s w h.1 hm).mono fun _ _ ⟨he, hL⟩ => ⟨he, h.left hL⟩
theorem unl_sn {w0 w : World} {g b : Nat} {m : List Ent} {t : St} (h : Sn w0 w g b m t) (s : ByteArray) :
    Calls Tryz.prog 79 #[.pointer (some ⟨g, 0, none⟩), .string s] w (DidS w0 g b (stUnlink s.data.toList t)) :=
  (unl_did g b m t s w h.1).mono fun _ _ ⟨he, hL⟩ => ⟨he, h.left hL⟩
theorem ren_sn {w0 w : World} {g b : Nat} {m : List Ent} {t : St} (h : Sn w0 w g b m t) (s u : ByteArray) (hm : t.fs.length ≤ 1000000) :
    Calls Tryz.prog 98 #[.pointer (some ⟨g, 0, none⟩), .string s, .string u] w (DidS w0 g b (stRename s.data.toList u.data.toList t)) :=
  (ren_did g b m t s u w h.1 hm).mono fun _ _ ⟨he, hL⟩ => ⟨he, h.left hL⟩
theorem Im.scheds {w w' : World} {g b : Nat} {m : List Ent} {t t' : St} (h : Im w g b m t) (hd : DskT w' g b t') (hf : Fr [g] w w') (hfs : t'.fs = t.fs) (hr : t'.room = t.room) (hfl : ∀ k, t'.fail = some k → k ≤ 9223372036854775807) (hal : ∀ k, t'.arm = some k → k ≤ 9223372036854775807) : Im w' g b m t' := by
  obtain ⟨n1, n2, n3⟩ := h.ne
  refine ⟨hd, own_of_block h.own (hf.block b h.own.lt (by simpa using Ne.symm n1)), by rw [hfs]; exact h.fs, fun e he => (h.file e he).of_block fun i hi => hf.block i ((h.file e he).lt hi) (by
    intro hm
    simp only [List.mem_singleton] at hm
    exact n2 (mem_blks.2 ⟨e, he, by rw [← hm]; exact hi⟩)), h.nodup, ?_, hfl, hal⟩
  refine ⟨by rw [hr]; exact h.good.1, by rw [hr]; exact h.good.2, by rw [hr, hfs]; exact h.good.3, by rw [hfs]; exact h.good.4, by rw [hfs]; exact h.good.5, by rw [hfs]; exact h.good.6, by rw [hfs]; exact h.good.7⟩
theorem fail_sn {w0 w : World} {g b : Nat} {m : List Ent} {t : St} (h : Sn w0 w g b m t) (n : Int) (hn : n ≤ 9223372036854775807) :
    Calls Tryz.prog 11 #[.pointer (some ⟨g, 0, none⟩), .int .i64 n] w (DidS w0 g b (stFail n t)) := by
  refine (fail_any g b t n w h.1.dsk).mono fun _ _ ⟨he, hd, hf⟩ => ⟨he, h.left ⟨m, h.1.scheds hd hf ?_ ?_ ?_ ?_, hf.mono (by simp), fun _ hi => .inl hi⟩⟩
  · unfold stFail; split <;> rfl
  · unfold stFail; split <;> rfl
  · intro k
    unfold stFail
    split
    · exact h.1.fl k
    · intro hk
      cases hk
      omega
  · intro k
    unfold stFail
    split
    · exact h.1.al k
    · exact h.1.al k
theorem arm_sn {w0 w : World} {g b : Nat} {m : List Ent} {t : St} (h : Sn w0 w g b m t) (n : Int) (hn : n ≤ 9223372036854775807) :
    Calls Tryz.prog 25 #[.pointer (some ⟨g, 0, none⟩), .int .i64 n] w (DidS w0 g b (stArm n t)) := by
  refine (arm_any g b t n w h.1.dsk).mono fun _ _ ⟨he, hd, hf⟩ => ⟨he, h.left ⟨m, h.1.scheds hd hf ?_ ?_ ?_ ?_, hf.mono (by simp), fun _ hi => .inl hi⟩⟩
  · unfold stArm; split <;> rfl
  · unfold stArm; split <;> rfl
  · intro k
    unfold stArm
    split
    · exact h.1.fl k
    · exact h.1.fl k
  · intro k
    unfold stArm
    split
    · exact h.1.al k
    · intro hk
      cases hk
      omega
theorem crash_sn {w0 w : World} {g b : Nat} {m : List Ent} {t : St} (h : Sn w0 w g b m t) (A : Option Addr) (n cap : Nat) (ks : List Int) (hm : t.fs.length ≤ 1000000) (hr : RdI w A n ks) (hA : 0 < n → ∀ a, A = some a → a.block ∉ g :: b :: blks m) :
    Calls Tryz.prog 17 #[.pointer (some ⟨g, 0, none⟩), .slice A n cap] w fun e w' => e = .returned (.tuple #[]) ∧ ∃ m', Sn w0 w' g b m' (stCrash ks t) :=
  (crash_any g b m t A n cap ks w h.1 hm hr hA).mono fun _ _ ⟨he, hL⟩ => ⟨he, h.left hL⟩
theorem read_sn {w0 w : World} {g b : Nat} {m : List Ent} {t : St} (h : Sn w0 w g b m t) (s : ByteArray) : Calls Tryz.prog 49 #[.pointer (some ⟨g, 0, none⟩), .string s] w (ReadIs w (stRead s.data.toList t)) := read_any g b m t s w h.1
def st0 (room : Nat) : St := ⟨room, [], false, none, none⟩
theorem good0 (room : Nat) (h1 : 1 ≤ room) (h2 : room ≤ 16777216) : Good (st0 room) := ⟨h1, h2, Nat.zero_le _, List.Pairwise.nil, by intro f hf; simp [st0] at hf, by intro f hf; simp [st0] at hf, by intro f hf; simp [st0] at hf⟩
theorem new_sn (room : Nat) (w : World) (h1 : 1 ≤ room) (h2 : room ≤ 16777216) : Calls Tryz.prog 20 #[.int .i64 (room : Int)] w fun e w' =>
    ∃ b g, e = .returned (.tuple #[.pointer (some ⟨g, 0, none⟩), .int .i64 0]) ∧ Sn w w' g b [] (st0 room) := by
  refine (new_ok (room : Int) w (by omega) (by omega)).mono ?_
  rintro e w' ⟨b, g, he, hb, hg, hne, hmap, hd, hB⟩
  refine ⟨b, g, he, ⟨hd, ?_, rfl, (fun e he => by simp at he), by simp [blks]; exact Ne.symm hne, good0 room h1 h2, (fun k hk => by cases hk), (fun k hk => by cases hk)⟩, hB, ?_⟩
  · exact ⟨#[], 0, hmap, ⟨by simp, Go.MapKept.stamped_empty 0, by simp⟩, by simp, rfl⟩
  · intro i hi
    simp [blks] at hi
    rcases hi with rfl | rfl
    · exact hg
    · exact hb
theorem rd_one (w : World) (c : Int) (h0 : 0 ≤ c) (h1 : c ≤ 255) : Rd (w.alloc (.cells #[.int .u8 c] 5)) (some ⟨w.heap.size, 0, none⟩) 1 [c] := by
  refine ⟨rfl, by unfold maxLen; omega, bytes_cons h0 h1 bytes_nil, fun _ => ⟨_, _, rfl, fun i hi => ?_⟩⟩
  rw [World.cell?_alloc_mark, Nat.zero_add]
  obtain rfl : i = 0 := by omega
  rfl
end Go.Proofs.YtnppomiggajhnaaGreatDoor.Dk

namespace Go.Proofs.YtnppomiggajhnaaGreatDoor.Dk
open Go.RowKit Go.Proofs.YtnppomiggajhnaaGreatDoor.Fld Go.Sort Go.Shelf Go.Maps
set_option linter.unusedVariables false

def ReadNew (w : World) (r : Int × List Int) (e : Ending) (w' : World) : Prop := ∃ A n cap, e = .returned (.tuple #[.slice A n cap, .int .i64 r.1]) ∧ Sl w' A n cap r.2 ∧ n ≤ 16777216 ∧ (∀ a, A = some a → w.heap.size ≤ a.block) ∧ Below w.heap.size w w'
set_option maxRecDepth 100000 in
set_option maxHeartbeats 3200000 in
theorem read_fresh (g b : Nat) (m : List Ent) (t : St) (s : ByteArray) (w : World) (h : Im w g b m t) : Calls Tryz.prog 49 #[.pointer (some ⟨g, 0, none⟩), .string s] w (ReadNew w (stRead s.data.toList t)) := by
  obtain ⟨c0, c1, c2, c3, c4, c5, c6, c7⟩ := Dsk.cells h.dsk
  have HI := Lib.hid h
  have hst : stRead s.data.toList t = if t.off then ((5 : Int), []) else if okN s.data.toList then (match found m s with | some e => ((0 : Int), e.zs) | none => (2, [])) else (1, []) := by
    unfold stRead
    rw [h.get]
    cases found m s <;> rfl
  rw [hst]
  clear h hst
  cases hoff : t.off with
  | true =>
    rw [hoff] at c3
    rw [if_pos rfl]
    go_enter Tryz.func49, Tryz.ntmps49
    go_wp2
    go_ret2
    exact ⟨none, 0, 0, rfl, Sl.nil w, by omega, (fun a ha => by cases ha), Below.refl _ _⟩
  | false =>
    rw [hoff] at c3
    rw [if_neg (by simp)]
    have hb1 : Below w.heap.size w (w.alloc (.cells #[.string s] 9)) := (Below.refl _ _).alloc (Nat.le_refl _) _
    have HB1 := Lib.hid hb1
    have HV := Lib.hid (valid_any _ 1 1 [s] _ (rds_one w s))
    rw [allN_one] at HV
    cases hok : okN s.data.toList with
    | false =>
      rw [hok] at HV
      rw [if_neg (by simp)]
      clear hb1
      go_enter Tryz.func49, Tryz.ntmps49
      go_wp2_with (go_at_call 109; refine HV.out.mono ?_; rintro e w' ⟨rfl, rfl⟩)
      go_ret2
      exact ⟨none, 0, 0, rfl, Sl.nil _, by omega, (fun a ha => by cases ha), HB1.out⟩
    | true =>
      rw [hok] at HV
      rw [if_pos rfl]
      have hs := size_of_ok hok
      have hlk := look2 (own_of_block HI.out.own (hb1.block b HI.out.own.lt)) s hs
      have p1 := cell_past c1 (.cells #[.string s] 9)
      clear hb1
      cases hf : found m s with
      | none =>
        have hfv : foundV m s = zeroF := by unfold foundV; rw [hf]; rfl
        rw [hfv, hf] at hlk
        unfold zeroF at hlk
        clear hfv
        have hb2 : ∀ o, Below w.heap.size w ((w.alloc (.cells #[.string s] 9)).alloc o) := fun o => HB1.out.alloc (by simp) o
        have HB2 := Lib.hid hb2
        clear hb2
        go_enter Tryz.func49, Tryz.ntmps49
        go_wp2_with (go_at_call 109; refine HV.out.mono ?_; rintro e w' ⟨rfl, rfl⟩)
        go_ret2
        exact ⟨none, 0, 0, rfl, Sl.nil _, by omega, (fun a ha => by cases ha), HB2.out _⟩
      | some e =>
        have hfile := HI.out.file e (get_some hf).1
        obtain ⟨A, cap, hv, hsl⟩ := hfile.form
        have hfv : foundV m s = .agg #[.slice A e.zs.length cap, .int .i64 (e.s : Int)] := by unfold foundV; rw [hf, Option.map_some, Option.getD_some, Ent.val, hv]
        rw [hfv, hf] at hlk
        have hb2 : Below w.heap.size w ((w.alloc (.cells #[.string s] 9)).alloc (.cells #[.slice A e.zs.length cap, .int .i64 (e.s : Int)] 95)) := HB1.out.alloc (by simp) _
        have hl : e.zs.length ≤ 16777216 := by
          have h1 := total_del (f := e.fil) HI.out.good.up (x := s.data.toList) (by rw [HI.out.get, hf]; rfl)
          have h2 := HI.out.good.fits
          have h3 := HI.out.good.room2
          have h4 : e.fil.2.1.length = e.zs.length := rfl
          omega
        have HCL := Lib.hid (clone_any A e.zs.length cap e.zs _ (hsl.1.below hb2) hsl.2.2.2.1 (by omega))
        have HB2 := Lib.hid hb2
        clear hb2 hfv hsl hv hfile
        simp only
        generalize hn : e.zs.length = n at *
        have HN := Lib.hid hn
        clear hn
        go_enter Tryz.func49, Tryz.ntmps49
        go_wp2_with (first | (go_at_call 109; refine HV.out.mono ?_; rintro e w' ⟨rfl, rfl⟩) | (go_at_call 110; refine HCL.out.mono ?_; rintro e w' ⟨v, rfl, hO⟩; have HO := Lib.hid hO; clear hO))
        go_ret2
        obtain ⟨A2, cap2, hv2, hs2, hfr⟩ := HO.out.sl n HN.out
        subst hv2
        exact ⟨A2, n, cap2, rfl, hs2, hl, (fun a ha => Nat.le_trans HB2.out.size (hfr a ha)), HB2.out.trans (HO.out.1.mono HB2.out.size)⟩

/-- bytes that are no part of the disk -/
def Apart (w : World) (g b : Nat) (m : List Ent) (A : Option Addr) (n : Nat) (zs : List Int) : Prop := Rd w A n zs ∧ (0 < n → ∀ a, A = some a → a.block ∉ g :: b :: blks m)
def Keep (w : World) (g b : Nat) (m : List Ent) (w' : World) (m' : List Ent) : Prop := ∀ A n zs, Apart w g b m A n zs → Apart w' g b m' A n zs
theorem Keep.below {w w' : World} {g b : Nat} {m : List Ent} (hb : Below w.heap.size w w') : Keep w g b m w' m := fun A n zs h => ⟨h.1.below hb, h.2⟩
theorem Keep.trans {w w' w'' : World} {g b : Nat} {m m' m'' : List Ent} (h : Keep w g b m w' m') (k : Keep w' g b m' w'' m'') : Keep w g b m w'' m'' := fun A n zs hA => k A n zs (h A n zs hA)
theorem rd_off {S : List Nat} {w w' : World} {A : Option Addr} {n : Nat} {zs : List Int} (h : Rd w A n zs) (hf : Fr S w w') (hS : 0 < n → ∀ a, A = some a → a.block ∉ S) : Rd w' A n zs := by
  obtain ⟨h1, h2, h3, h4⟩ := h
  refine ⟨h1, h2, h3, fun hn => ?_⟩
  obtain ⟨b, off, e, hc⟩ := h4 hn
  refine ⟨b, off, e, fun i hi => ?_⟩
  exact hf.cell (hc i hi) (hS hn ⟨b, off, none⟩ e)
theorem Sn.keep {w0 w w' : World} {g b : Nat} {m : List Ent} {t t' : St} (h : Sn w0 w g b m t) (hL : Left w g b m t' w') : ∃ m', Sn w0 w' g b m' t' ∧ Keep w g b m w' m' := by
  obtain ⟨m', h1, h2, h3⟩ := hL
  refine ⟨m', ⟨h1, h2.to_below h.2.1 h.2.2, ?_⟩, ?_⟩
  · intro i hi
    simp only [List.mem_cons] at hi
    rcases hi with rfl | rfl | hi
    · exact h.2.2 _ (by simp)
    · exact h.2.2 _ (by simp)
    · rcases h3 i hi with h4 | h4
      · exact h.2.2 i (by simp [h4])
      · exact Nat.le_trans h.2.1.size h4
  · intro A n zs hA
    refine ⟨rd_off hA.1 h2 hA.2, fun hn a ha hm => ?_⟩
    have hno := hA.2 hn a ha
    simp only [List.mem_cons, not_or] at hno hm
    rcases hm with hm | hm | hm
    · exact hno.1 hm
    · exact hno.2.1 hm
    · rcases h3 _ hm with h4 | h4
      · exact hno.2.2 h4
      · obtain ⟨bb, off, e, hc⟩ := hA.1.2.2.2 hn
        rw [ha] at e
        injection e with e
        have := lt_of_cell (hc 0 hn)
        rw [e] at h4
        simp only at h4 this
        omega
theorem apart_new {w w' : World} {g b : Nat} {m : List Ent} {t : St} (h : Im w g b m t) {A : Option Addr} {n : Nat} {zs : List Int} (hr : Rd w' A n zs) (hf : ∀ a, A = some a → w.heap.size ≤ a.block) : Apart w' g b m A n zs :=
  ⟨hr, fun _ a ha hm => by have h1 := hf a ha; have h2 := h.lt _ hm; omega⟩
def DidK (w0 w : World) (g b : Nat) (m : List Ent) (r : Int × St) (e : Ending) (w' : World) : Prop := e = .returned (.int .i64 r.1) ∧ ∃ m', Sn w0 w' g b m' r.2 ∧ Keep w g b m w' m'
theorem app_kp {w0 w : World} {g b : Nat} {m : List Ent} {t : St} (h : Sn w0 w g b m t) (s : ByteArray) (A : Option Addr) (n cap : Nat) (ys : List Int) (hm : t.fs.length ≤ 1000000) (hr : Rd w A n ys) (hA : A = none → cap = 0) (hn : n ≤ 140737488355328) :
    Calls Tryz.prog 35 #[.pointer (some ⟨g, 0, none⟩), .string s, .slice A n cap] w (DidK w0 w g b m (stAppend s.data.toList ys t)) :=
  (app_did g b m t s A n cap ys w h.1 hm hr hA hn).mono fun _ _ ⟨he, hL⟩ => ⟨he, h.keep hL⟩
theorem crash_kp {w0 w : World} {g b : Nat} {m : List Ent} {t : St} (h : Sn w0 w g b m t) (A : Option Addr) (n cap : Nat) (ks : List Int) (hm : t.fs.length ≤ 1000000) (hr : RdI w A n ks) (hA : 0 < n → ∀ a, A = some a → a.block ∉ g :: b :: blks m) :
    Calls Tryz.prog 17 #[.pointer (some ⟨g, 0, none⟩), .slice A n cap] w fun e w' => e = .returned (.tuple #[]) ∧ ∃ m', Sn w0 w' g b m' (stCrash ks t) ∧ Keep w g b m w' m' :=
  (crash_any g b m t A n cap ks w h.1 hm hr hA).mono fun _ _ ⟨he, hL⟩ => ⟨he, h.keep hL⟩
end Go.Proofs.YtnppomiggajhnaaGreatDoor.Dk

namespace Go.Proofs.YtnppomiggajhnaaGreatDoor.Kp
open Go.RowKit Go.Proofs.YtnppomiggajhnaaGreatDoor.Dk Go.Proofs.YtnppomiggajhnaaGreatDoor.Fld
set_option linter.unusedVariables false

def hasS (ss : List ByteArray) (s : ByteArray) : Bool := ss.any fun x => s.toList == x.toList
theorem hasS_take (ss : List ByteArray) (s : ByteArray) (k : Nat) (h : k < ss.length) : hasS (ss.take (k + 1)) s = (hasS (ss.take k) s || (s.toList == (ss.getD k ⟨#[]⟩).toList)) := by
  unfold hasS
  rw [List.take_add_one, List.getElem?_eq_getElem h, List.any_append, List.getD_eq_getElem?_getD, List.getElem?_eq_getElem h]
  simp
theorem hasS_at (ss : List ByteArray) (s : ByteArray) (k : Nat) (h : k < ss.length) (hb : (s.toList == (ss.getD k ⟨#[]⟩).toList) = true) : hasS ss s = true := by
  unfold hasS
  rw [List.any_eq_true]
  refine ⟨ss[k], List.getElem_mem h, ?_⟩
  rw [List.getD_eq_getElem?_getD, List.getElem?_eq_getElem h] at hb
  exact hb
set_option maxRecDepth 100000 in
set_option maxHeartbeats 800000 in
theorem index_any (A : Option Addr) (n cap : Nat) (ss : List ByteArray) (s : ByteArray) (w : World) (hr : RdS w A n ss) : Calls Tryz.prog 133 #[.slice A n cap, .string s] w fun e w' => ∃ k : Int, e = .returned (.int .i64 k) ∧ w = w' ∧ decide (0 ≤ k) = hasS ss s := by
  obtain ⟨hl, hm, hc⟩ := hr
  have HL := Lib.hid hl
  have HC := Lib.hid hc
  clear hl hc
  go_enter Tryz.func133, Tryz.ntmps133
  go_wp2
  go_loop [8] (fun i => ∃ k : Nat, k ≤ n ∧ i = .int .i64 k ∧ hasS (ss.take k) s = false) (fun i => n - (intOf i).toNat)
  case atStart => exact ⟨0, Nat.zero_le _, rfl, rfl⟩
  case round =>
    obtain ⟨k, hk, rfl, hall⟩ := hrel
    have HA := Lib.hid hall
    clear hall
    by_cases hlt : k < n
    · obtain ⟨b, off, rfl, hcell⟩ := HC.out (by omega)
      have hc := hcell k hlt
      clear hcell
      have HT := Lib.hid (hasS_take ss s k (by rw [HL.out]; exact hlt))
      have HX := Lib.hid (hasS_at ss s k (by rw [HL.out]; exact hlt))
      generalize ss.getD k ⟨#[]⟩ = x at *
      cases hb : (s.toList == x.toList) with
      | true =>
        have HX2 := Lib.hid (HX.out hb)
        clear HX HT
        go_wp2
        go_ret
        exact ⟨_, rfl, rfl, by rw [HX2.out]; simp⟩
      | false =>
        have HT2 := Lib.hid (show hasS (ss.take (k + 1)) s = false by rw [HT.out, HA.out, hb]; rfl)
        clear HX HT
        go_wp2
        go_roundw
        case rel => exact ⟨k + 1, by omega, by go_num, HT2.out⟩
        case measure => simp [intOf]; omega
    · obtain rfl : k = n := by omega
      go_wp2
      go_ret
      exact ⟨_, rfl, rfl, by have := HA.out; rw [← HL.out, List.take_length] at this; rw [this]; rfl⟩
set_option maxRecDepth 100000 in
theorem contains_any (A : Option Addr) (n cap : Nat) (ss : List ByteArray) (s : ByteArray) (w : World) (hr : RdS w A n ss) : Calls Tryz.prog 92 #[.slice A n cap, .string s] w fun e w' => e = .returned (.bool (hasS ss s)) ∧ w = w' := by
  have HI := Lib.hid (index_any A n cap ss s w hr)
  clear hr
  go_enter Tryz.func92, Tryz.ntmps92
  go_wp2_with fail
  refine HI.out.mono ?_
  rintro e w' ⟨k, rfl, rfl, hk⟩
  have HK := Lib.hid hk
  clear hk
  go_wp2
  go_ret
  exact ⟨by rw [← HK.out]; rfl, rfl⟩
theorem hasS_names (m : List Ent) (x : Nm) : hasS (m.map fun e => ⟨e.nm.toArray⟩) ⟨x.toArray⟩ = (Dk.get Ent.nm x m).isSome := by
  have hl : ∀ y : Nm, (⟨y.toArray⟩ : ByteArray).toList = y := fun y => by rw [ByteArray.toList_eq]
  unfold hasS Dk.get
  induction m with
  | nil => rfl
  | cons e m ih =>
    rw [List.map_cons, List.any_cons, List.find?_cons, ih]
    simp only [hl]
    cases hb : (e.nm == x) with
    | true => rw [show (x == e.nm) = true by simp at hb ⊢; exact hb.symm]; rfl
    | false => rw [show (x == e.nm) = false by simp at hb ⊢; exact fun h => hb h.symm]; rfl
theorem has_new {w : World} {g b : Nat} {m : List Ent} {t : St} (h : Im w g b m t) (x : Nm) : (Dk.get Ent.nm x m).isSome = (fget x t.fs).isSome := by
  have := h.get ⟨x.toArray⟩
  simp only at this
  rw [this]
  unfold found
  simp
/-- what a call has left of a disk, and of the blocks that are none of its own -/
def LeftM (w : World) (g b : Nat) (m m' : List Ent) (w' : World) : Prop := Dk.Fr (g :: b :: blks m) w w' ∧ ∀ i ∈ blks m', i ∈ blks m ∨ w.heap.size ≤ i
theorem LeftM.refl (w : World) (g b : Nat) (m : List Ent) : LeftM w g b m m w := ⟨Dk.Fr.refl _ _, fun _ h => .inl h⟩
theorem LeftM.trans {w w1 w2 : World} {g b : Nat} {m m1 m2 : List Ent} (h : LeftM w g b m m1 w1) (k : LeftM w1 g b m1 m2 w2) : LeftM w g b m m2 w2 := by
  refine ⟨h.1.trans k.1 ?_, ?_⟩
  · intro i hi
    simp only [List.mem_cons] at hi ⊢
    rcases hi with rfl | rfl | hi
    · exact .inl (.inl rfl)
    · exact .inl (.inr (.inl rfl))
    · rcases h.2 i hi with h1 | h1
      · exact .inl (.inr (.inr h1))
      · exact .inr h1
  · intro i hi
    rcases k.2 i hi with h1 | h1
    · exact h.2 i h1
    · exact .inr (Nat.le_trans h.1.size h1)
theorem LeftM.below {w w1 : World} {g b : Nat} {m : List Ent} (hb : Below w.heap.size w w1) : LeftM w g b m m w1 := ⟨Dk.Fr.below hb, fun _ h => .inl h⟩
theorem Apart.left {w w' : World} {g b : Nat} {m m' : List Ent} {A : Option Addr} {n : Nat} {zs : List Int} (hA : Apart w g b m A n zs) (h : LeftM w g b m m' w') : Apart w' g b m' A n zs := by
  obtain ⟨h2, h3⟩ := h
  refine ⟨rd_off hA.1 h2 hA.2, fun hn a ha hm => ?_⟩
  have hno := hA.2 hn a ha
  simp only [List.mem_cons, not_or] at hno hm
  rcases hm with hm | hm | hm
  · exact hno.1 hm
  · exact hno.2.1 hm
  · rcases h3 _ hm with h4 | h4
    · exact hno.2.2 h4
    · obtain ⟨bb, off, e, hc⟩ := hA.1.2.2.2 hn
      rw [ha] at e
      injection e with e
      have := lt_of_cell (hc 0 hn)
      rw [e] at h4
      simp only at h4 this
      omega
theorem new_add (x : Nm) (hx : x.length ≤ 60) (W : World) : (Op.stringOp .add ⟨x.toArray⟩ ⟨#[46, 110, 101, 119]⟩).run Tryz.prog W = .ok (.string ⟨(x ++ newE).toArray⟩) W := run_string_add_lists W x newE (by omega) (by decide)
end Go.Proofs.YtnppomiggajhnaaGreatDoor.Kp

namespace Go.Proofs.YtnppomiggajhnaaGreatDoor.Wl
open Go.RowKit Go.Proofs.YtnppomiggajhnaaGreatDoor.Fld
set_option linter.unusedVariables false

def wcs (g lim : Nat) (c : Ct) (ve vs : Value) : Array Value := #[.pointer (some ⟨g, 0, none⟩), .int .i64 (lim : Int), .bool false, .int .i64 (c.lg.base : Int), ve, vs]
/-- the blocks that a Wal's calls may change -/
def WFt (W g b : Nat) (m : List Dk.Ent) (ve vs : Value) : List Nat := g :: b :: (Dk.blks m ++ CtF W ve vs)
structure WmX (lo W g b lim : Nat) (m : List Dk.Ent) (ve vs : Value) (xs : List EA) (w : World) (c : Ct) (t : Dk.St) : Prop where
  im : Dk.Im w g b m t
  ct : Cont lo W 3 (wcs g lim c ve vs) 88 w ve vs xs c
  apart : ∀ i, InFoot W ve vs xs i → i ∉ g :: b :: Dk.blks m
  base : Base w
  low : ∀ i ∈ WFt W g b m ve vs, lo ≤ i
  glo : 0 < lo ∧ 2 < lo
  lim1 : 32 ≤ lim
  lim2 : lim ≤ 65536
def WmS (lo W g b lim : Nat) (F : List Nat) (w : World) (c : Ct) (t : Dk.St) : Prop := ∃ m ve vs xs, WmX lo W g b lim m ve vs xs w c t ∧ F = WFt W g b m ve vs
/-- what a part of a method answers and leaves -/
def StpI (lo W g b lim : Nat) (F : List Nat) (w : World) (q : Int × Ct × Dk.St) (e : Ending) (w' : World) : Prop :=
  e = .returned (.int .i64 q.1) ∧ ∃ F', WmS lo W g b lim F' w' q.2.1 q.2.2 ∧ Dk.Fr F w w' ∧ ∀ i ∈ F', i ∈ F ∨ w.heap.size ≤ i
theorem WmX.size {lo W g b lim : Nat} {m : List Dk.Ent} {ve vs : Value} {xs : List EA} {w : World} {c : Ct} {t : Dk.St} (h : WmX lo W g b lim m ve vs xs w c t) : lo ≤ w.heap.size := by
  have h1 := h.low W (by simp [WFt, CtF])
  have h2 := h.ct.blk.lt
  omega
theorem WmX.below {lo W g b lim : Nat} {m : List Dk.Ent} {ve vs : Value} {xs : List EA} {w w' : World} {c : Ct} {t : Dk.St} (h : WmX lo W g b lim m ve vs xs w c t) (hb : Below w.heap.size w w') : WmX lo W g b lim m ve vs xs w' c t :=
  ⟨h.im.below hb, h.ct.below hb, h.apart, h.base.below hb, h.low, h.glo, h.lim1, h.lim2⟩
theorem WmX.base_fr {lo W g b lim : Nat} {m : List Dk.Ent} {ve vs : Value} {xs : List EA} {w w' : World} {c : Ct} {t : Dk.St} (h : WmX lo W g b lim m ve vs xs w c t) {S : List Nat} (hf : Dk.Fr S w w') (hS : ∀ i ∈ S, lo ≤ i) : Base w' := by
  have h1 := h.size
  have h2 := h.glo
  exact h.base.of_blocks (hf.block _ (by omega) (fun hm => by have := hS _ hm; omega)) (hf.block _ (by omega) (fun hm => by have := hS _ hm; omega))
/-- the disk has changed, the content has not -/
theorem WmX.after {lo W g b lim : Nat} {m m' : List Dk.Ent} {ve vs : Value} {xs : List EA} {w w' : World} {c : Ct} {t t' : Dk.St} (h : WmX lo W g b lim m ve vs xs w c t) (hI : Dk.Im w' g b m' t') (hL : Kp.LeftM w g b m m' w') :
    WmX lo W g b lim m' ve vs xs w' c t' ∧ Dk.Fr (WFt W g b m ve vs) w w' ∧ ∀ i ∈ WFt W g b m' ve vs, i ∈ WFt W g b m ve vs ∨ w.heap.size ≤ i := by
  have hsz := h.size
  have hsub : ∀ i ∈ WFt W g b m' ve vs, i ∈ WFt W g b m ve vs ∨ w.heap.size ≤ i := by
    intro i hi
    unfold WFt at hi ⊢
    simp only [List.mem_cons, List.mem_append] at hi ⊢
    rcases hi with h1 | h1 | h1 | h1
    · exact .inl (.inl h1)
    · exact .inl (.inr (.inl h1))
    · rcases hL.2 i h1 with h2 | h2
      · exact .inl (.inr (.inr (.inl h2)))
      · exact .inr h2
    · exact .inl (.inr (.inr (.inr h1)))
  have hlow : ∀ i ∈ WFt W g b m' ve vs, lo ≤ i := by
    intro i hi
    rcases hsub i hi with h1 | h1
    · exact h.low i h1
    · omega
  refine ⟨⟨hI, h.ct.of (fun i hi => hL.1.block i (h.ct.lt i hi) (h.apart i hi)), ?_, ?_, hlow, h.glo, h.lim1, h.lim2⟩, ?_, hsub⟩
  · intro i hi hm
    have h1 := h.apart i hi
    have h2 := h.ct.lt i hi
    simp only [List.mem_cons, not_or] at h1 hm
    rcases hm with hm | hm | hm
    · exact h1.1 hm
    · exact h1.2.1 hm
    · rcases hL.2 i hm with h3 | h3
      · exact h1.2.2 h3
      · omega
  · refine h.base_fr hL.1 fun i hi => h.low i ?_
    unfold WFt
    simp only [List.mem_cons, List.mem_append] at hi ⊢
    rcases hi with h1 | h1 | h1
    · exact .inl h1
    · exact .inr (.inl h1)
    · exact .inr (.inr (.inl h1))
  · refine hL.1.mono fun i hi => ?_
    unfold WFt
    simp only [List.mem_cons, List.mem_append] at hi ⊢
    rcases hi with h1 | h1 | h1
    · exact .inl h1
    · exact .inr (.inl h1)
    · exact .inr (.inr (.inl h1))
theorem StpI.same {lo W g b lim : Nat} {m : List Dk.Ent} {ve vs : Value} {xs : List EA} {w w' : World} {c : Ct} {t : Dk.St} (h : WmX lo W g b lim m ve vs xs w c t) (hb : Below w.heap.size w w') (r : Int) : StpI lo W g b lim (WFt W g b m ve vs) w (r, c, t) (.returned (.int .i64 r)) w' :=
  ⟨rfl, _, ⟨m, ve, vs, xs, h.below hb, rfl⟩, Dk.Fr.below hb, fun _ hi => .inl hi⟩
theorem StpI.disk {lo W g b lim : Nat} {m m' : List Dk.Ent} {ve vs : Value} {xs : List EA} {w w' : World} {c : Ct} {t t' : Dk.St} (h : WmX lo W g b lim m ve vs xs w c t) (hI : Dk.Im w' g b m' t') (hL : Kp.LeftM w g b m m' w') (r : Int) : StpI lo W g b lim (WFt W g b m ve vs) w (r, c, t') (.returned (.int .i64 r)) w' :=
  have h1 := h.after hI hL
  ⟨rfl, _, ⟨m', ve, vs, xs, h1.1, rfl⟩, h1.2.1, h1.2.2⟩
/-- behind a part that was carried out -/
theorem StpI.then {lo W g b lim : Nat} {F F1 : List Nat} {w w1 w2 : World} {q : Int × Ct × Dk.St} {e : Ending} (hf : Dk.Fr F w w1) (hs : ∀ i ∈ F1, i ∈ F ∨ w.heap.size ≤ i) (h : StpI lo W g b lim F1 w1 q e w2) : StpI lo W g b lim F w q e w2 := by
  obtain ⟨h1, F2, h2, h3, h4⟩ := h
  refine ⟨h1, F2, h2, hf.trans h3 hs, fun i hi => ?_⟩
  rcases h4 i hi with h5 | h5
  · exact hs i h5
  · exact .inr (Nat.le_trans hf.size h5)
end Go.Proofs.YtnppomiggajhnaaGreatDoor.Wl

namespace Go.Proofs.YtnppomiggajhnaaGreatDoor.Wl
open Go.RowKit Go.Proofs.YtnppomiggajhnaaGreatDoor.Fld
set_option linter.unusedVariables false

theorem still_below {w w' : World} (h : Still w w') : Below w.heap.size w w' := Dk.Fr.to_below (S := []) (Below.refl _ _) (fr_still h) (fun _ hi => by simp at hi)
theorem lastN_snoc {c : Ct} {L : List Sg} {S : Sg} (h : c.segs = L ++ [S]) : lastN c = S.num := by unfold lastN; rw [h, List.getLast?_append]; rfl
/-- the last segment in memory -/
theorem WmX.lastq {lo W g b lim : Nat} {m : List Dk.Ent} {ve vs : Value} {xs : List EA} {w : World} {c : Ct} {t : Dk.St} (h : WmX lo W g b lim m ve vs xs w c t) {L : List Sg} {S : Sg} (hs : c.segs = L ++ [S]) :
    ∃ q cp, vs = .slice (some ⟨q, 0, none⟩) (L.length + 1) cp ∧ ∀ k v, S.cells[k]? = some v → w.cell? ⟨q, L.length * 3 + k, none⟩ = some v := by
  obtain ⟨q, cp, hv⟩ := h.ct.seg_form hs
  refine ⟨q, cp, hv, fun k v hk => ?_⟩
  have h1 := h.ct.rS
  have hl : c.segs.length = L.length + 1 := by rw [hs]; simp
  rw [hl, hs, hv] at h1
  exact seg_cell h1 rfl k v hk
theorem WmX.W_off {lo W g b lim : Nat} {m : List Dk.Ent} {ve vs : Value} {xs : List EA} {w : World} {c : Ct} {t : Dk.St} (h : WmX lo W g b lim m ve vs xs w c t) : W ∉ g :: b :: Dk.blks m := h.apart W (.inl rfl)
theorem wft_disk {W g b : Nat} {m : List Dk.Ent} {ve vs : Value} : ∀ i ∈ g :: b :: Dk.blks m, i ∈ WFt W g b m ve vs := fun i hi => by
  unfold WFt
  simp only [List.mem_cons, List.mem_append] at hi ⊢
  rcases hi with h1 | h1 | h1
  · exact .inl h1
  · exact .inr (.inl h1)
  · exact .inr (.inr (.inl h1))
set_option maxRecDepth 100000 in
set_option maxHeartbeats 3200000 in
theorem sync1_any {lo W g b lim : Nat} {m : List Dk.Ent} {ve vs : Value} {xs : List EA} {w : World} {c : Ct} {t : Dk.St} (h : WmX lo W g b lim m ve vs xs w c t) {L : List Sg} {S : Sg} (hs : c.segs = L ++ [S]) (hl : L.length ≤ 900000) (hm : t.fs.length ≤ 900000) (bw : Nat) (hw : w.cell? ⟨bw, 0, none⟩ = some (.pointer (some ⟨W, 0, none⟩))) (hbF : bw ∉ WFt W g b m ve vs) :
    Calls Tryz.prog 124 #[.pointer (some ⟨bw, 0, none⟩)] w (StpI lo W g b lim (WFt W g b m ve vs) w (spSync c t)) := by
  have HX := Lib.hid h
  have c0 := h.ct.blk.cell 0 (.pointer (some ⟨g, 0, none⟩)) rfl
  have HR := Lib.hid (show spSync c t = spDisk (Dk.stSync (segN S.num)) c t by unfold spSync; rw [lastN_snoc hs])
  have hno := (h.ct.ok.2 S (by rw [hs]; simp)).2.1
  obtain ⟨q, cp, hv, hc⟩ := h.lastq hs
  have HLS := Lib.hid (fun (w' : World) (hb : Below w.heap.size w w') => show Calls Tryz.prog 94 #[.pointer (some ⟨W, 3, none⟩)] w' (fun e w2 => e = .returned (.pointer (some ⟨q, L.length * 3, none⟩)) ∧ Still w' w2) from (lastSeg_any W 3 q (L.length + 1) cp _ _ w' (h.below hb).ct.blk (show (wcs g lim c ve vs)[3 + 2]? = some (.slice (some ⟨q, 0, none⟩) (L.length + 1) cp) from by rw [← hv]; rfl) (by omega) (by omega)))
  have HCS := Lib.hid (show w.cell? ⟨q, L.length * 3, none⟩ = some (.int .i64 (S.num : Int)) ∧ w.cell? ⟨q, L.length * 3 + 1, none⟩ = some (.int .i64 (S.next : Int)) ∧ w.cell? ⟨q, L.length * 3 + 2, none⟩ = some (.int .i64 (S.size : Int)) from ⟨hc 0 _ rfl, hc 1 _ rfl, hc 2 _ rfl⟩)
  have HNM := Lib.hid (fun (w' : World) (hb : Below w.heap.size w w') => segname_any S.num (.int .i64 (S.next : Int)) (.int .i64 (S.size : Int)) hno w' (h.below hb).base)
  have HU := Lib.hid (fun (w' : World) (hb : Below w.heap.size w w') => show Calls Tryz.prog 37 #[.pointer (some ⟨g, 0, none⟩), .string (str (segN S.num))] w' (Dk.Did w' g b m (Dk.stSync (segN S.num) t)) from by
    have := Dk.sync_did g b m t (str (segN S.num)) w' (h.im.below hb) (by omega)
    rwa [str_data] at this)
  have HO1 := Lib.hid (show bw ∉ g :: b :: Dk.blks m from fun hm => hbF (wft_disk _ hm))
  have HO2 := Lib.hid h.W_off
  have HO3 := Lib.hid (show q ∉ g :: b :: Dk.blks m from h.apart q (.inr (.inr (.inl (by rw [hv]; rfl)))))
  obtain ⟨p, hp⟩ : ∃ p, L.length * 3 = p := ⟨_, rfl⟩
  rw [hp] at HLS HCS
  clear h hs hv hc hp hbF
  generalize spSync c t = R at *
  go_enter Tryz.func124, Tryz.ntmps124
  go_wp2_with fail
  have z2 := HCS.out.1
  have z3 := HCS.out.2.1
  have z4 := HCS.out.2.2
  go_region_held3 (fun w' => w'.cell? ⟨bw, 0, none⟩ = some (.pointer (some ⟨W, 0, none⟩)) ∧ w'.cell? ⟨W, 0, none⟩ = some (.pointer (some ⟨g, 0, none⟩)) ∧ w'.cell? ⟨q, p, none⟩ = some (.int .i64 (S.num : Int)) ∧ w'.cell? ⟨q, p + 1, none⟩ = some (.int .i64 (S.next : Int)) ∧ w'.cell? ⟨q, p + 2, none⟩ = some (.int .i64 (S.size : Int))) (first | exact ⟨by assumption, by assumption, by assumption, by assumption, by assumption⟩ | go_keep) (first
    | (go_at_call 94; refine (HLS.out _ (by first | exact Below.refl _ _ | exact (Below.refl _ _).drew)).mono ?_; rintro e w1 ⟨rfl, hst⟩; have HB1 := Lib.hid (show Below w.heap.size w w1 from (by first | exact still_below hst | exact (Below.refl _ _).drew.trans (still_below hst))); have x0 := (HB1.out.cell (lt_of_cell HCS.out.1)).trans HCS.out.1; have x1 := (HB1.out.cell (lt_of_cell HCS.out.2.1)).trans HCS.out.2.1; have x2 := (HB1.out.cell (lt_of_cell HCS.out.2.2)).trans HCS.out.2.2; have p0 := (HB1.out.cell (lt_of_cell hw)).trans hw; have p1 := (HB1.out.cell (lt_of_cell c0)).trans c0; clear hst)
    | (go_at_call 80; refine (HNM.out _ (by first | exact HB1.out | exact HB1.out.drew)).mono ?_; rintro e w2 ⟨rfl, hb2⟩; have HB2 := Lib.hid (show Below w.heap.size w w2 from (by first | exact HB1.out.trans (hb2.mono HB1.out.size) | exact HB1.out.drew.trans (hb2.mono HB1.out.size))); have q0 := (HB2.out.cell (lt_of_cell hw)).trans hw; have q1 := (HB2.out.cell (lt_of_cell c0)).trans c0; have q2 := (HB2.out.cell (lt_of_cell HCS.out.1)).trans HCS.out.1; have q3 := (HB2.out.cell (lt_of_cell HCS.out.2.1)).trans HCS.out.2.1; have q4 := (HB2.out.cell (lt_of_cell HCS.out.2.2)).trans HCS.out.2.2; clear hb2)
    | (go_at_call 37; refine (HU.out _ (by first | exact HB2.out | exact HB2.out.drew)).mono ?_; rintro e w3 ⟨rfl, m3, hL3⟩; have HLM := Lib.hid (show Kp.LeftM w g b m m3 w3 from (by first | exact (Kp.LeftM.below HB2.out).trans ⟨hL3.2.1, hL3.2.2⟩ | exact (Kp.LeftM.below HB2.out.drew).trans ⟨hL3.2.1, hL3.2.2⟩)); have HF := Lib.hid (StpI.disk HX.out hL3.1 HLM.out (Dk.stSync (segN S.num) t).1); have r0 := HLM.out.1.cell hw HO1.out; have r1 := HLM.out.1.cell c0 HO2.out; have r2 := HLM.out.1.cell HCS.out.1 HO3.out; have r3 := HLM.out.1.cell HCS.out.2.1 HO3.out; have r4 := HLM.out.1.cell HCS.out.2.2 HO3.out; clear hL3))
  go_wp2
  go_ret
  rw [HR.out]
  exact HF.out
end Go.Proofs.YtnppomiggajhnaaGreatDoor.Wl

namespace Go.Proofs.YtnppomiggajhnaaGreatDoor.Wl
open Go.RowKit Go.Proofs.YtnppomiggajhnaaGreatDoor.Fld
set_option linter.unusedVariables false

theorem WmX.sized {lo W g b lim : Nat} {m : List Dk.Ent} {ve vs : Value} {xs : List EA} {w : World} {c : Ct} {t : Dk.St} (h : WmX lo W g b lim m ve vs xs w c t) {L : List Sg} {S : Sg} (hs : c.segs = L ++ [S]) {q cp : Nat} (hv : vs = .slice (some ⟨q, 0, none⟩) (L.length + 1) cp) (k : Nat) :
    WmX lo W g b lim m ve vs xs (w.setCell ⟨q, L.length * 3 + 2, none⟩ (.int .i64 ((S.size + k : Nat) : Int))) ⟨c.lg, addSz k c.segs⟩ t ∧ Dk.Fr (WFt W g b m ve vs) w (w.setCell ⟨q, L.length * 3 + 2, none⟩ (.int .i64 ((S.size + k : Nat) : Int))) := by
  have h1 := h.ct.sized hs hv rfl k
  rw [Nat.add_sub_cancel] at h1
  have hq : vs.ownBlock = some q := by rw [hv]; rfl
  have hqd := h.apart q (.inr (.inr (.inl hq)))
  have hfr : Dk.Fr (WFt W g b m ve vs) w (w.setCell ⟨q, L.length * 3 + 2, none⟩ (.int .i64 ((S.size + k : Nat) : Int))) := (Dk.Fr.refl _ _).setCell ⟨q, L.length * 3 + 2, none⟩ (.inl (by simp [WFt, CtF, hq])) _
  refine ⟨⟨h.im.of_blocks fun i hi => ?_, h1, h.apart, h.base_fr hfr h.low, h.low, h.glo, h.lim1, h.lim2⟩, hfr⟩
  exact Below.heap_setCell _ _ _ _ (by simp only; rintro rfl; exact hqd hi)
set_option maxRecDepth 100000 in
set_option maxHeartbeats 3200000 in
theorem write1_any {lo W g b lim : Nat} {m : List Dk.Ent} {ve vs : Value} {xs : List EA} {w : World} {c : Ct} {t : Dk.St} (h : WmX lo W g b lim m ve vs xs w c t) {L : List Sg} {S : Sg} (hs : c.segs = L ++ [S]) (hl : L.length ≤ 900000) (hz : S.size ≤ 1099511627776) (hm : t.fs.length ≤ 900000) (bw bb : Nat) (hw : w.cell? ⟨bw, 0, none⟩ = some (.pointer (some ⟨W, 0, none⟩))) (A : Option Addr) (n cap : Nat) (ys : List Int) (hb : w.cell? ⟨bb, 0, none⟩ = some (.slice A n cap)) (hr : Rd w A n ys) (hA : A = none → cap = 0) (hn : n ≤ 65536) (hbF : bw ∉ WFt W g b m ve vs) (hbF2 : bb ∉ WFt W g b m ve vs) :
    Calls Tryz.prog 120 #[.pointer (some ⟨bw, 0, none⟩), .pointer (some ⟨bb, 0, none⟩)] w (StpI lo W g b lim (WFt W g b m ve vs) w (spWrite ys c t)) := by
  have HX := Lib.hid h
  have c0 := h.ct.blk.cell 0 (.pointer (some ⟨g, 0, none⟩)) rfl
  have HR := Lib.hid (show spWrite ys c t = ((Dk.stAppend (segN S.num) ys t).1, if (Dk.stAppend (segN S.num) ys t).1 = 0 then ⟨c.lg, addSz n c.segs⟩ else c, (Dk.stAppend (segN S.num) ys t).2) by unfold spWrite; rw [lastN_snoc hs, hr.1])
  have hno := (h.ct.ok.2 S (by rw [hs]; simp)).2.1
  obtain ⟨q, cp, hv, hc⟩ := h.lastq hs
  have HLS := Lib.hid (fun (w' : World) (hb : Below w.heap.size w w') => show Calls Tryz.prog 94 #[.pointer (some ⟨W, 3, none⟩)] w' (fun e w2 => e = .returned (.pointer (some ⟨q, L.length * 3, none⟩)) ∧ Still w' w2) from (lastSeg_any W 3 q (L.length + 1) cp _ _ w' (h.below hb).ct.blk (show (wcs g lim c ve vs)[3 + 2]? = some (.slice (some ⟨q, 0, none⟩) (L.length + 1) cp) from by rw [← hv]; rfl) (by omega) (by omega)))
  have HCS := Lib.hid (show w.cell? ⟨q, L.length * 3, none⟩ = some (.int .i64 (S.num : Int)) ∧ w.cell? ⟨q, L.length * 3 + 1, none⟩ = some (.int .i64 (S.next : Int)) ∧ w.cell? ⟨q, L.length * 3 + 2, none⟩ = some (.int .i64 (S.size : Int)) from ⟨hc 0 _ rfl, hc 1 _ rfl, hc 2 _ rfl⟩)
  have HNM := Lib.hid (fun (w' : World) (hb : Below w.heap.size w w') => segname_any S.num (.int .i64 (S.next : Int)) (.int .i64 (S.size : Int)) hno w' (h.below hb).base)
  have HU := Lib.hid (fun (w' : World) (hb : Below w.heap.size w w') => show Calls Tryz.prog 35 #[.pointer (some ⟨g, 0, none⟩), .string (str (segN S.num)), .slice A n cap] w' (Dk.Did w' g b m (Dk.stAppend (segN S.num) ys t)) from by
    have := Dk.app_did g b m t (str (segN S.num)) A n cap ys w' (h.im.below hb) (by omega) (hr.below hb) hA (by omega)
    rwa [str_data] at this)
  have HSZ := Lib.hid (fun (m' : List Dk.Ent) (w' : World) (t' : Dk.St) (h' : WmX lo W g b lim m' ve vs xs w' c t') => And.intro (h'.sized hs hv n) (show w'.frozen? ⟨q, L.length * 3 + 2, none⟩ = false from by
      have h1 := h'.ct.rS
      have hl : c.segs.length = L.length + 1 := by rw [hs]; simp
      rw [hl, hs, hv] at h1
      exact row_free h1 rfl _))
  have HO1 := Lib.hid (show bw ∉ g :: b :: Dk.blks m from fun hm => hbF (wft_disk _ hm))
  have HO2 := Lib.hid h.W_off
  have HO3 := Lib.hid (show q ∉ g :: b :: Dk.blks m from h.apart q (.inr (.inr (.inl (by rw [hv]; rfl)))))
  have HO4 := Lib.hid (show bb ∉ g :: b :: Dk.blks m from fun hm => hbF2 (wft_disk _ hm))
  obtain ⟨p, hp⟩ : ∃ p, L.length * 3 = p := ⟨_, rfl⟩
  rw [hp] at HLS HCS HSZ
  clear h hs hv hc hp hbF hbF2 hr
  generalize spWrite ys c t = R at *
  go_enter Tryz.func120, Tryz.ntmps120
  go_wp2_with (go_at_call 94; refine (HLS.out _ (by first | exact Below.refl _ _ | exact (Below.refl _ _).drew)).mono ?_; rintro e w1 ⟨rfl, hst⟩; have HB1 := Lib.hid (show Below w.heap.size w w1 from (by first | exact still_below hst | exact (Below.refl _ _).drew.trans (still_below hst))); have x0 := (HB1.out.cell (lt_of_cell HCS.out.1)).trans HCS.out.1; have x1 := (HB1.out.cell (lt_of_cell HCS.out.2.1)).trans HCS.out.2.1; have x2 := (HB1.out.cell (lt_of_cell HCS.out.2.2)).trans HCS.out.2.2; have p0 := (HB1.out.cell (lt_of_cell hw)).trans hw; have p1 := (HB1.out.cell (lt_of_cell c0)).trans c0; have p2 := (HB1.out.cell (lt_of_cell hb)).trans hb; clear hst)
  go_region_held3 (fun w' => w'.cell? ⟨bw, 0, none⟩ = some (.pointer (some ⟨W, 0, none⟩)) ∧ w'.cell? ⟨W, 0, none⟩ = some (.pointer (some ⟨g, 0, none⟩)) ∧ w'.cell? ⟨q, p, none⟩ = some (.int .i64 (S.num : Int)) ∧ w'.cell? ⟨q, p + 1, none⟩ = some (.int .i64 (S.next : Int)) ∧ w'.cell? ⟨q, p + 2, none⟩ = some (.int .i64 (S.size : Int)) ∧ w'.cell? ⟨bb, 0, none⟩ = some (.slice A n cap)) (first | exact ⟨by assumption, by assumption, by assumption, by assumption, by assumption, by assumption⟩ | go_keep) (first
    | (go_at_call 80; refine (HNM.out _ (by first | exact HB1.out | exact HB1.out.drew)).mono ?_; rintro e w2 ⟨rfl, hb2⟩; have HB2 := Lib.hid (show Below w.heap.size w w2 from (by first | exact HB1.out.trans (hb2.mono HB1.out.size) | exact HB1.out.drew.trans (hb2.mono HB1.out.size))); have q0 := (HB2.out.cell (lt_of_cell hw)).trans hw; have q1 := (HB2.out.cell (lt_of_cell c0)).trans c0; have q2 := (HB2.out.cell (lt_of_cell HCS.out.1)).trans HCS.out.1; have q3 := (HB2.out.cell (lt_of_cell HCS.out.2.1)).trans HCS.out.2.1; have q4 := (HB2.out.cell (lt_of_cell HCS.out.2.2)).trans HCS.out.2.2; have q5 := (HB2.out.cell (lt_of_cell hb)).trans hb; clear hb2)
    | (go_at_call 35; refine (HU.out _ (by first | exact HB2.out | exact HB2.out.drew)).mono ?_; rintro e w3 ⟨rfl, m3, hL3⟩; have HLM := Lib.hid (show Kp.LeftM w g b m m3 w3 from (by first | exact (Kp.LeftM.below HB2.out).trans ⟨hL3.2.1, hL3.2.2⟩ | exact (Kp.LeftM.below HB2.out.drew).trans ⟨hL3.2.1, hL3.2.2⟩)); have HI3 := Lib.hid hL3.1; have r0 := HLM.out.1.cell hw HO1.out; have r1 := HLM.out.1.cell c0 HO2.out; have r2 := HLM.out.1.cell HCS.out.1 HO3.out; have r3 := HLM.out.1.cell HCS.out.2.1 HO3.out; have r4 := HLM.out.1.cell HCS.out.2.2 HO3.out; have r5 := HLM.out.1.cell hb HO4.out; clear hL3))
  have HA3 := Lib.hid (HX.out.after HI3.out HLM.out)
  generalize Dk.stAppend (segN S.num) ys t = r9 at *
  obtain ⟨r, t3⟩ := r9
  try simp only at HI3 HR HA3 ⊢
  by_cases hr0 : r = 0
  · subst hr0
    rw [if_pos rfl] at HR
    have HZ4 := Lib.hid (HSZ.out m3 w3.drew t3 (HA3.out.1.below (Below.refl _ _).drew))
    have f2 := HZ4.out.2
    have s2 : w3.drew.cell? ⟨q, p + 2, none⟩ = some (.int .i64 (S.size : Int)) := r4
    have e0 : ((S.size + n : Nat) : Int) = (S.size : Int) + (n : Int) := by omega
    have e1 : IntKind.i64.wrap ((S.size : Int) + (n : Int)) = (S.size : Int) + (n : Int) := wrap_in _ (by omega) (by omega)
    rw [e0] at HZ4
    have HF := Lib.hid (show StpI lo W g b lim (WFt W g b m ve vs) w (0, ⟨c.lg, addSz n c.segs⟩, t3) (.returned (.int .i64 0)) _ from ⟨rfl, _, ⟨m3, ve, vs, xs, HZ4.out.1.1, rfl⟩, HA3.out.2.1.drew.trans HZ4.out.1.2 HA3.out.2.2, HA3.out.2.2⟩)
    clear e0
    go_wp2
    go_still_tail 9, (by kernel_rfl)
    change wpList _ _ _ _ _ w3.drew
    generalize w3.drew = w4 at *
    go_wp2
    go_ret
    rw [HR.out]
    exact HF.out
  · rw [if_neg hr0] at HR
    have HF := Lib.hid (StpI.disk HX.out HI3.out HLM.out r)
    have j1 : decide (r = 0) = false := decide_eq_false hr0
    go_wp2
    go_ret
    rw [HR.out]
    exact HF.out
end Go.Proofs.YtnppomiggajhnaaGreatDoor.Wl

namespace Go.Proofs.YtnppomiggajhnaaGreatDoor.Wl
open Go.RowKit Go.Proofs.YtnppomiggajhnaaGreatDoor.Fld
set_option linter.unusedVariables false

def writeFv (bw bb : Nat) : Fv := ⟨120, #[], #[.pointer (some ⟨bw, 0, none⟩), .pointer (some ⟨bb, 0, none⟩)]⟩
def syncFv (bw : Nat) : Fv := ⟨124, #[], #[.pointer (some ⟨bw, 0, none⟩)]⟩
theorem writeFv_in (bw bb : Nat) : (writeFv bw bb).In := fun a w => enters_of Tryz.func120 (by kernel_rfl) rfl a w
theorem syncFv_in (bw : Nat) : (syncFv bw).In := fun a w => enters_of Tryz.func124 (by kernel_rfl) rfl a w
set_option maxRecDepth 100000 in
theorem writing_any (W : Nat) (A : Option Addr) (n cap : Nat) (w : World) : Calls Tryz.prog 66 #[.pointer (some ⟨W, 0, none⟩), .slice A n cap] w fun e w' => ∃ bw bb, e = .returned (writeFv bw bb).val ∧ w'.cell? ⟨bw, 0, none⟩ = some (.pointer (some ⟨W, 0, none⟩)) ∧ w'.cell? ⟨bb, 0, none⟩ = some (.slice A n cap) ∧ w.heap.size ≤ bw ∧ w.heap.size ≤ bb ∧ Below w.heap.size w w' := by
  have h1 := Blk.new w #[.pointer (some ⟨W, 0, none⟩)] 31
  have h2 := Blk.new (w.alloc (.cells #[.pointer (some ⟨W, 0, none⟩)] 31)) #[.slice A n cap] 61
  have H1 := Lib.hid ((h1.past (.cells #[.slice A n cap] 61)).cell 0 _ rfl)
  have H2 := Lib.hid (show ((w.alloc (.cells #[.pointer (some ⟨W, 0, none⟩)] 31)).alloc (.cells #[.slice A n cap] 61)).cell? ⟨w.heap.size + 1, 0, none⟩ = some (.slice A n cap) by have h3 := h2.cell 0 _ rfl; rw [show (w.alloc (.cells #[.pointer (some ⟨W, 0, none⟩)] 31)).heap.size = w.heap.size + 1 by simp] at h3; exact h3)
  have HB := Lib.hid ((alloc_below' w (.cells #[.pointer (some ⟨W, 0, none⟩)] 31)).trans ((alloc_below' (w.alloc (.cells #[.pointer (some ⟨W, 0, none⟩)] 31)) (.cells #[.slice A n cap] 61)).mono (by simp)))
  have HZ := Lib.hid (Nat.le_succ w.heap.size)
  clear h1 h2
  go_enter Tryz.func66, Tryz.ntmps66
  go_wp2
  go_ret
  exact ⟨_, _, rfl, H1.out, H2.out, Nat.le_refl _, HZ.out, HB.out⟩
set_option maxRecDepth 100000 in
theorem syncing_any (W : Nat) (w : World) : Calls Tryz.prog 73 #[.pointer (some ⟨W, 0, none⟩)] w fun e w' => ∃ bw, e = .returned (syncFv bw).val ∧ w'.cell? ⟨bw, 0, none⟩ = some (.pointer (some ⟨W, 0, none⟩)) ∧ w.heap.size ≤ bw ∧ Below w.heap.size w w' := by
  have h1 := Blk.new w #[.pointer (some ⟨W, 0, none⟩)] 31
  have H1 := Lib.hid (h1.cell 0 _ rfl)
  have HB := Lib.hid (alloc_below' w (.cells #[.pointer (some ⟨W, 0, none⟩)] 31))
  clear h1
  go_enter Tryz.func73, Tryz.ntmps73
  go_wp2
  go_ret
  exact ⟨_, rfl, H1.out, Nat.le_refl _, HB.out⟩
end Go.Proofs.YtnppomiggajhnaaGreatDoor.Wl

namespace Go.Proofs.YtnppomiggajhnaaGreatDoor.Wl
open Go.RowKit Go.Proofs.YtnppomiggajhnaaGreatDoor.Fld
set_option linter.unusedVariables false

theorem RdF.fr {S : List Nat} {w w' : World} {A : Option Addr} {n : Nat} {fs : List Fv} (h : RdF w A n fs) (hf : Dk.Fr S w w') (hA : 0 < n → ∀ a, A = some a → a.block ∉ S) : RdF w' A n fs := by
  obtain ⟨h1, h2, h3⟩ := h
  refine ⟨h1, h2, fun h0 => ?_⟩
  obtain ⟨b, off, e, hc⟩ := h3 h0
  exact ⟨b, off, e, fun i f hi => hf.cell (hc i f hi) (show b ∉ S from hA h0 _ e)⟩
theorem run_sp {lo W g b lim : Nat} {F : List Nat} {w : World} (A : Option Addr) (n cap : Nat) (fs : List (Fv × Sp)) (c : Ct) (t : Dk.St) (hW : WmS lo W g b lim F w c t) (hl : fs.length = n) (hm : n ≤ maxLen)
    (hrd : RdF w A n (fs.map Prod.fst)) (hA : 0 < n → ∀ a, A = some a → a.block ∉ F) (hin : ∀ f ∈ fs, f.1.In) (Pre : Nat → Ct → Dk.St → Prop) (hp0 : Pre 0 c t)
    (hp : ∀ i f, fs[i]? = some f → ∀ c' t', Pre i c' t' → (f.2 c' t').1 = 0 → Pre (i + 1) (f.2 c' t').2.1 (f.2 c' t').2.2)
    (hs : ∀ i f, fs[i]? = some f → ∀ F' w' c' t', WmS lo W g b lim F' w' c' t' → Dk.Fr F w w' → (∀ j ∈ F', j ∈ F ∨ w.heap.size ≤ j) → Pre i c' t' → Calls Tryz.prog f.1.k f.1.args w' (StpI lo W g b lim F' w' (f.2 c' t'))) :
    Calls Tryz.prog 41 #[.slice A n cap] w (StpI lo W g b lim F w (spRun (fs.map Prod.snd) c t)) := by
  refine (run_any A n cap (fs.map Prod.fst) w (by simp [hl]) hm
    (fun i w' => ∃ F' c' t', WmS lo W g b lim F' w' c' t' ∧ Dk.Fr F w w' ∧ (∀ j ∈ F', j ∈ F ∨ w.heap.size ≤ j) ∧ Pre i c' t' ∧ spRun ((fs.drop i).map Prod.snd) c' t' = spRun (fs.map Prod.snd) c t)
    (fun r w' => StpI lo W g b lim F w (spRun (fs.map Prod.snd) c t) (.returned (.int .i64 r)) w')
    ⟨F, c, t, hW, Dk.Fr.refl _ _, fun j hj => .inl hj, hp0, by rw [List.drop_zero]⟩
    (fun i w1 h1 => ?_) (fun f hf => ?_) (fun i f w1 hf h1 => ?_)).mono ?_
  · obtain ⟨F', c', t', _, hfr, _⟩ := h1
    exact hrd.fr hfr hA
  · rw [List.mem_map] at hf
    obtain ⟨p, hp', rfl⟩ := hf
    exact hin p hp'
  · obtain ⟨F', c', t', hW', hfr, hsub, hpre, hrun⟩ := h1
    rw [List.getElem?_map, Option.map_eq_some_iff] at hf
    obtain ⟨p, hp', rfl⟩ := hf
    have hi : i < fs.length := by
      rcases Nat.lt_or_ge i fs.length with h | h
      · exact h
      · rw [List.getElem?_eq_none h] at hp'; cases hp'
    have hd : fs.drop i = p :: fs.drop (i + 1) := by
      rw [List.drop_eq_getElem_cons hi]
      rw [List.getElem?_eq_getElem hi] at hp'
      cases hp'
      rfl
    rw [hd, List.map_cons] at hrun
    refine (hs i p hp' F' w1 c' t' hW' hfr hsub hpre).mono ?_
    rintro e w2 ⟨rfl, F2, hW2, hfr2, hsub2⟩
    refine ⟨_, rfl, fun h0 => ⟨F2, _, _, hW2, hfr.trans hfr2 hsub, fun j hj => ?_, hp i p hp' c' t' hpre h0, by rw [← hrun, spRun_ok h0]⟩, fun h0 => ?_⟩
    · rcases hsub2 j hj with h | h
      · exact hsub j h
      · exact .inr (Nat.le_trans hfr.size h)
    · rw [← hrun, spRun_no h0]
      exact StpI.then hfr hsub ⟨rfl, F2, hW2, hfr2, hsub2⟩
  · rintro e w' ⟨r, rfl, h0, h1⟩
    by_cases hr : r = 0
    · obtain ⟨F', c', t', hW', hfr, hsub, _, hrun⟩ := h0 hr
      rw [List.drop_of_length_le (by omega), List.map_nil, spRun_nil] at hrun
      rw [← hrun, hr]
      exact ⟨rfl, F', hW', hfr, hsub⟩
    · exact h1 hr
end Go.Proofs.YtnppomiggajhnaaGreatDoor.Wl
