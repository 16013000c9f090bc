/-
  Several texts in one: The program's disk, made behind a world (Sn): what each method answers, and leaves. Conditions: as each theorem states. Read of the program's disk, and that what it answers is the caller's own: later changes of the disk leave it as it is (Keep). Conditions: the disk lies in memory as it was made (Im, Sn).
-/
import Derived.Test.YtgmpdifggaggdaaGreatDoorJDiskRead
import Derived.Test.YtgmpdifggaggdaaGreatDoorJDiskAppW
import Derived.Test.YtgmpdifggaggdaaGreatDoorJDiskApp
import Derived.Test.YtgmpdifggaggdaaGreatDoorJDiskName
namespace Go.Proofs.YtgmpdifggaggdaaGreatDoor.Dk
open Go.RowKit Go.Proofs.YtgmpdifggaggdaaGreatDoor.Fld

/-- a disk that was made behind w0; what was there at w0 is as it was -/
def Sn (w0 w : World) (g b : Nat) (m : List Ent) (t : St) : Prop := Im w g b m t ∧ Below w0.heap.size w0 w ∧ ∀ i ∈ g :: b :: blks m, w0.heap.size ≤ i
theorem Sn.left {w0 w w' : World} {g b : Nat} {m : List Ent} {t t' : St} (h : Sn w0 w g b m t) (hL : Left w g b m t' w') : ∃ m', Sn w0 w' g b m' t' := by
  obtain ⟨m', h1, h2, h3⟩ := hL
  refine ⟨m', h1, h2.to_below h.2.1 h.2.2, ?_⟩
  intro i hi
  simp only [List.mem_cons] at hi
  rcases hi with rfl | rfl | hi
  · exact h.2.2 _ (by simp)
  · exact h.2.2 _ (by simp)
  · rcases h3 i hi with h4 | h4
    · exact h.2.2 i (by simp [h4])
    · exact Nat.le_trans h.2.1.size h4
theorem Sn.below {w0 w w' : World} {g b : Nat} {m : List Ent} {t : St} (h : Sn w0 w g b m t) (hb : Below w.heap.size w w') : Sn w0 w' g b m t := ⟨h.1.below hb, h.2.1.trans (hb.mono h.2.1.size), h.2.2⟩
/-- the answer and the state behind it -/
def DidS (w0 : World) (g b : Nat) (r : Int × St) (e : Ending) (w' : World) : Prop := e = .returned (.int .i64 r.1) ∧ ∃ m', Sn w0 w' g b m' r.2
theorem app_sn {w0 w : World} {g b : Nat} {m : List Ent} {t : St} (h : Sn w0 w g b m t) (s : ByteArray) (A : Option Addr) (n cap : Nat) (ys : List Int) (hm : t.fs.length ≤ 1000000) (hr : Rd w A n ys) (hA : A = none → cap = 0) (hn : n ≤ 140737488355328) :
    Calls Tryz.prog 41 #[.pointer (some ⟨g, 0, none⟩), .string s, .slice A n cap] w (DidS w0 g b (stAppend s.data.toList ys t)) :=
  (app_did g b m t s A n cap ys w h.1 hm hr hA hn).mono fun _ _ ⟨he, hL⟩ => ⟨he, h.left hL⟩
theorem sync_sn {w0 w : World} {g b : Nat} {m : List Ent} {t : St} (h : Sn w0 w g b m t) (s : ByteArray) (hm : t.fs.length ≤ 1000000) :
    Calls Tryz.prog 43 #[.pointer (some ⟨g, 0, none⟩), .string s] w (DidS w0 g b (stSync s.data.toList t)) :=
  (sync_did g b m t s w h.1 hm).mono fun _ _ ⟨he, hL⟩ => ⟨he, h.left hL⟩
theorem unl_sn {w0 w : World} {g b : Nat} {m : List Ent} {t : St} (h : Sn w0 w g b m t) (s : ByteArray) :
    Calls Tryz.prog 28 #[.pointer (some ⟨g, 0, none⟩), .string s] w (DidS w0 g b (stUnlink s.data.toList t)) :=
  (unl_did g b m t s w h.1).mono fun _ _ ⟨he, hL⟩ => ⟨he, h.left hL⟩
theorem ren_sn {w0 w : World} {g b : Nat} {m : List Ent} {t : St} (h : Sn w0 w g b m t) (s u : ByteArray) (hm : t.fs.length ≤ 1000000) :
    Calls Tryz.prog 45 #[.pointer (some ⟨g, 0, none⟩), .string s, .string u] w (DidS w0 g b (stRename s.data.toList u.data.toList t)) :=
  (ren_did g b m t s u w h.1 hm).mono fun _ _ ⟨he, hL⟩ => ⟨he, h.left hL⟩
theorem Im.scheds {w w' : World} {g b : Nat} {m : List Ent} {t t' : St} (h : Im w g b m t) (hd : DskT w' g b t') (hf : Fr [g] w w') (hfs : t'.fs = t.fs) (hr : t'.room = t.room) (hfl : ∀ k, t'.fail = some k → k ≤ 9223372036854775807) (hal : ∀ k, t'.arm = some k → k ≤ 9223372036854775807) : Im w' g b m t' := by
  obtain ⟨n1, n2, n3⟩ := h.ne
  refine ⟨hd, own_of_block h.own (hf.block b h.own.lt (by simpa using Ne.symm n1)), by rw [hfs]; exact h.fs, fun e he => (h.file e he).of_block fun i hi => hf.block i ((h.file e he).lt hi) (by
    intro hm
    simp only [List.mem_singleton] at hm
    exact n2 (mem_blks.2 ⟨e, he, by rw [← hm]; exact hi⟩)), h.nodup, ?_, hfl, hal⟩
  refine ⟨by rw [hr]; exact h.good.1, by rw [hr]; exact h.good.2, by rw [hr, hfs]; exact h.good.3, by rw [hfs]; exact h.good.4, by rw [hfs]; exact h.good.5, by rw [hfs]; exact h.good.6, by rw [hfs]; exact h.good.7⟩
theorem read_sn {w0 w : World} {g b : Nat} {m : List Ent} {t : St} (h : Sn w0 w g b m t) (s : ByteArray) : Calls Tryz.prog 39 #[.pointer (some ⟨g, 0, none⟩), .string s] w (ReadIs w (stRead s.data.toList t)) := read_any g b m t s w h.1
def st0 (room : Nat) : St := ⟨room, [], false, none, none⟩
theorem good0 (room : Nat) (h1 : 1 ≤ room) (h2 : room ≤ 16777216) : Good (st0 room) := ⟨h1, h2, Nat.zero_le _, List.Pairwise.nil, by intro f hf; simp [st0] at hf, by intro f hf; simp [st0] at hf, by intro f hf; simp [st0] at hf⟩
theorem new_sn (room : Nat) (w : World) (h1 : 1 ≤ room) (h2 : room ≤ 16777216) : Calls Tryz.prog 6 #[.int .i64 (room : Int)] w fun e w' =>
    ∃ b g, e = .returned (.tuple #[.pointer (some ⟨g, 0, none⟩), .int .i64 0]) ∧ Sn w w' g b [] (st0 room) := by
  refine (new_ok (room : Int) w (by omega) (by omega)).mono ?_
  rintro e w' ⟨b, g, he, hb, hg, hne, hmap, hd, hB⟩
  refine ⟨b, g, he, ⟨hd, ?_, rfl, (fun e he => by simp at he), by simp [blks]; exact Ne.symm hne, good0 room h1 h2, (fun k hk => by cases hk), (fun k hk => by cases hk)⟩, hB, ?_⟩
  · exact ⟨#[], 0, hmap, ⟨by simp, Go.MapKept.stamped_empty 0, by simp⟩, by simp, rfl⟩
  · intro i hi
    simp [blks] at hi
    rcases hi with rfl | rfl
    · exact hg
    · exact hb
theorem rd_one (w : World) (c : Int) (h0 : 0 ≤ c) (h1 : c ≤ 255) : Rd (w.alloc (.cells #[.int .u8 c] 5)) (some ⟨w.heap.size, 0, none⟩) 1 [c] := by
  refine ⟨rfl, by unfold maxLen; omega, bytes_cons h0 h1 bytes_nil, fun _ => ⟨_, _, rfl, fun i hi => ?_⟩⟩
  rw [World.cell?_alloc_mark, Nat.zero_add]
  obtain rfl : i = 0 := by omega
  rfl
end Go.Proofs.YtgmpdifggaggdaaGreatDoor.Dk

namespace Go.Proofs.YtgmpdifggaggdaaGreatDoor.Dk
open Go.RowKit Go.Proofs.YtgmpdifggaggdaaGreatDoor.Fld Go.Sort Go.Shelf Go.Maps
set_option linter.unusedVariables false

def ReadNew (w : World) (r : Int × List Int) (e : Ending) (w' : World) : Prop := ∃ A n cap, e = .returned (.tuple #[.slice A n cap, .int .i64 r.1]) ∧ Sl w' A n cap r.2 ∧ n ≤ 16777216 ∧ (∀ a, A = some a → w.heap.size ≤ a.block) ∧ Below w.heap.size w w'
set_option maxRecDepth 100000 in
set_option maxHeartbeats 3200000 in
theorem read_fresh (g b : Nat) (m : List Ent) (t : St) (s : ByteArray) (w : World) (h : Im w g b m t) : Calls Tryz.prog 39 #[.pointer (some ⟨g, 0, none⟩), .string s] w (ReadNew w (stRead s.data.toList t)) := by
  obtain ⟨c0, c1, c2, c3, c4, c5, c6, c7⟩ := Dsk.cells h.dsk
  have HI := Lib.hid h
  have hst : stRead s.data.toList t = if t.off then ((5 : Int), []) else if okN s.data.toList then (match found m s with | some e => ((0 : Int), e.zs) | none => (2, [])) else (1, []) := by
    unfold stRead
    rw [h.get]
    cases found m s <;> rfl
  rw [hst]
  clear h hst
  cases hoff : t.off with
  | true =>
    rw [hoff] at c3
    rw [if_pos rfl]
    go_enter Tryz.func39, Tryz.ntmps39
    go_wp2
    go_ret2
    exact ⟨none, 0, 0, rfl, Sl.nil w, by omega, (fun a ha => by cases ha), Below.refl _ _⟩
  | false =>
    rw [hoff] at c3
    rw [if_neg (by simp)]
    have hb1 : Below w.heap.size w (w.alloc (.cells #[.string s] 9)) := (Below.refl _ _).alloc (Nat.le_refl _) _
    have HB1 := Lib.hid hb1
    have HV := Lib.hid (valid_any _ 1 1 [s] _ (rds_one w s))
    rw [allN_one] at HV
    cases hok : okN s.data.toList with
    | false =>
      rw [hok] at HV
      rw [if_neg (by simp)]
      clear hb1
      go_enter Tryz.func39, Tryz.ntmps39
      go_wp2_with (go_at_call 67; refine HV.out.mono ?_; rintro e w' ⟨rfl, rfl⟩)
      go_ret2
      exact ⟨none, 0, 0, rfl, Sl.nil _, by omega, (fun a ha => by cases ha), HB1.out⟩
    | true =>
      rw [hok] at HV
      rw [if_pos rfl]
      have hs := size_of_ok hok
      have hlk := look2 (own_of_block HI.out.own (hb1.block b HI.out.own.lt)) s hs
      have p1 := cell_past c1 (.cells #[.string s] 9)
      clear hb1
      cases hf : found m s with
      | none =>
        have hfv : foundV m s = zeroF := by unfold foundV; rw [hf]; rfl
        rw [hfv, hf] at hlk
        unfold zeroF at hlk
        clear hfv
        have hb2 : ∀ o, Below w.heap.size w ((w.alloc (.cells #[.string s] 9)).alloc o) := fun o => HB1.out.alloc (by simp) o
        have HB2 := Lib.hid hb2
        clear hb2
        go_enter Tryz.func39, Tryz.ntmps39
        go_wp2_with (go_at_call 67; refine HV.out.mono ?_; rintro e w' ⟨rfl, rfl⟩)
        go_ret2
        exact ⟨none, 0, 0, rfl, Sl.nil _, by omega, (fun a ha => by cases ha), HB2.out _⟩
      | some e =>
        have hfile := HI.out.file e (get_some hf).1
        obtain ⟨A, cap, hv, hsl⟩ := hfile.form
        have hfv : foundV m s = .agg #[.slice A e.zs.length cap, .int .i64 (e.s : Int)] := by unfold foundV; rw [hf, Option.map_some, Option.getD_some, Ent.val, hv]
        rw [hfv, hf] at hlk
        have hb2 : Below w.heap.size w ((w.alloc (.cells #[.string s] 9)).alloc (.cells #[.slice A e.zs.length cap, .int .i64 (e.s : Int)] 77)) := HB1.out.alloc (by simp) _
        have hl : e.zs.length ≤ 16777216 := by
          have h1 := total_del (f := e.fil) HI.out.good.up (x := s.data.toList) (by rw [HI.out.get, hf]; rfl)
          have h2 := HI.out.good.fits
          have h3 := HI.out.good.room2
          have h4 : e.fil.2.1.length = e.zs.length := rfl
          omega
        have HCL := Lib.hid (clone_any A e.zs.length cap e.zs _ (hsl.1.below hb2) hsl.2.2.2.1 (by omega))
        have HB2 := Lib.hid hb2
        clear hb2 hfv hsl hv hfile
        simp only
        generalize hn : e.zs.length = n at *
        have HN := Lib.hid hn
        clear hn
        go_enter Tryz.func39, Tryz.ntmps39
        go_wp2_with (first | (go_at_call 67; refine HV.out.mono ?_; rintro e w' ⟨rfl, rfl⟩) | (go_at_call 60; refine HCL.out.mono ?_; rintro e w' ⟨v, rfl, hO⟩; have HO := Lib.hid hO; clear hO))
        go_ret2
        obtain ⟨A2, cap2, hv2, hs2, hfr⟩ := HO.out.sl n HN.out
        subst hv2
        exact ⟨A2, n, cap2, rfl, hs2, hl, (fun a ha => Nat.le_trans HB2.out.size (hfr a ha)), HB2.out.trans (HO.out.1.mono HB2.out.size)⟩

/-- bytes that are no part of the disk -/
def Apart (w : World) (g b : Nat) (m : List Ent) (A : Option Addr) (n : Nat) (zs : List Int) : Prop := Rd w A n zs ∧ (0 < n → ∀ a, A = some a → a.block ∉ g :: b :: blks m)
def Keep (w : World) (g b : Nat) (m : List Ent) (w' : World) (m' : List Ent) : Prop := ∀ A n zs, Apart w g b m A n zs → Apart w' g b m' A n zs
theorem Keep.below {w w' : World} {g b : Nat} {m : List Ent} (hb : Below w.heap.size w w') : Keep w g b m w' m := fun A n zs h => ⟨h.1.below hb, h.2⟩
theorem Keep.trans {w w' w'' : World} {g b : Nat} {m m' m'' : List Ent} (h : Keep w g b m w' m') (k : Keep w' g b m' w'' m'') : Keep w g b m w'' m'' := fun A n zs hA => k A n zs (h A n zs hA)
theorem rd_off {S : List Nat} {w w' : World} {A : Option Addr} {n : Nat} {zs : List Int} (h : Rd w A n zs) (hf : Fr S w w') (hS : 0 < n → ∀ a, A = some a → a.block ∉ S) : Rd w' A n zs := by
  obtain ⟨h1, h2, h3, h4⟩ := h
  refine ⟨h1, h2, h3, fun hn => ?_⟩
  obtain ⟨b, off, e, hc⟩ := h4 hn
  refine ⟨b, off, e, fun i hi => ?_⟩
  exact hf.cell (hc i hi) (hS hn ⟨b, off, none⟩ e)
theorem Sn.keep {w0 w w' : World} {g b : Nat} {m : List Ent} {t t' : St} (h : Sn w0 w g b m t) (hL : Left w g b m t' w') : ∃ m', Sn w0 w' g b m' t' ∧ Keep w g b m w' m' := by
  obtain ⟨m', h1, h2, h3⟩ := hL
  refine ⟨m', ⟨h1, h2.to_below h.2.1 h.2.2, ?_⟩, ?_⟩
  · intro i hi
    simp only [List.mem_cons] at hi
    rcases hi with rfl | rfl | hi
    · exact h.2.2 _ (by simp)
    · exact h.2.2 _ (by simp)
    · rcases h3 i hi with h4 | h4
      · exact h.2.2 i (by simp [h4])
      · exact Nat.le_trans h.2.1.size h4
  · intro A n zs hA
    refine ⟨rd_off hA.1 h2 hA.2, fun hn a ha hm => ?_⟩
    have hno := hA.2 hn a ha
    simp only [List.mem_cons, not_or] at hno hm
    rcases hm with hm | hm | hm
    · exact hno.1 hm
    · exact hno.2.1 hm
    · rcases h3 _ hm with h4 | h4
      · exact hno.2.2 h4
      · obtain ⟨bb, off, e, hc⟩ := hA.1.2.2.2 hn
        rw [ha] at e
        injection e with e
        have := lt_of_cell (hc 0 hn)
        rw [e] at h4
        simp only at h4 this
        omega
theorem apart_new {w w' : World} {g b : Nat} {m : List Ent} {t : St} (h : Im w g b m t) {A : Option Addr} {n : Nat} {zs : List Int} (hr : Rd w' A n zs) (hf : ∀ a, A = some a → w.heap.size ≤ a.block) : Apart w' g b m A n zs :=
  ⟨hr, fun _ a ha hm => by have h1 := hf a ha; have h2 := h.lt _ hm; omega⟩
def DidK (w0 w : World) (g b : Nat) (m : List Ent) (r : Int × St) (e : Ending) (w' : World) : Prop := e = .returned (.int .i64 r.1) ∧ ∃ m', Sn w0 w' g b m' r.2 ∧ Keep w g b m w' m'
theorem app_kp {w0 w : World} {g b : Nat} {m : List Ent} {t : St} (h : Sn w0 w g b m t) (s : ByteArray) (A : Option Addr) (n cap : Nat) (ys : List Int) (hm : t.fs.length ≤ 1000000) (hr : Rd w A n ys) (hA : A = none → cap = 0) (hn : n ≤ 140737488355328) :
    Calls Tryz.prog 41 #[.pointer (some ⟨g, 0, none⟩), .string s, .slice A n cap] w (DidK w0 w g b m (stAppend s.data.toList ys t)) :=
  (app_did g b m t s A n cap ys w h.1 hm hr hA hn).mono fun _ _ ⟨he, hL⟩ => ⟨he, h.keep hL⟩
end Go.Proofs.YtgmpdifggaggdaaGreatDoor.Dk
