/-
  The program's disk, made behind a world (Sn): what each method answers, and leaves. Conditions: as each theorem states.
-/
import Derived.Test.YtejphnbhcabchaaGreatDiskCrash
import Derived.Test.YtejphnbhcabchaaGreatDiskAppM
import Derived.Test.YtejphnbhcabchaaGreatDiskRen
import Derived.Test.YtejphnbhcabchaaGreatDiskSync
namespace Go.Proofs.YtejphnbhcabchaaGreat.Dk
open Go.RowKit Go.Proofs.YtejphnbhcabchaaGreat.Fld

/-- a disk that was made behind w0; what was there at w0 is as it was -/
def Sn (w0 w : World) (g b : Nat) (m : List Ent) (t : St) : Prop := Im w g b m t ∧ Below w0.heap.size w0 w ∧ ∀ i ∈ g :: b :: blks m, w0.heap.size ≤ i
theorem Sn.left {w0 w w' : World} {g b : Nat} {m : List Ent} {t t' : St} (h : Sn w0 w g b m t) (hL : Left w g b m t' w') : ∃ m', Sn w0 w' g b m' t' := by
  obtain ⟨m', h1, h2, h3⟩ := hL
  refine ⟨m', h1, h2.to_below h.2.1 h.2.2, ?_⟩
  intro i hi
  simp only [List.mem_cons] at hi
  rcases hi with rfl | rfl | hi
  · exact h.2.2 _ (by simp)
  · exact h.2.2 _ (by simp)
  · rcases h3 i hi with h4 | h4
    · exact h.2.2 i (by simp [h4])
    · exact Nat.le_trans h.2.1.size h4
theorem Sn.below {w0 w w' : World} {g b : Nat} {m : List Ent} {t : St} (h : Sn w0 w g b m t) (hb : Below w.heap.size w w') : Sn w0 w' g b m t := ⟨h.1.below hb, h.2.1.trans (hb.mono h.2.1.size), h.2.2⟩
/-- the answer and the state behind it -/
def DidS (w0 : World) (g b : Nat) (r : Int × St) (e : Ending) (w' : World) : Prop := e = .returned (.int .i64 r.1) ∧ ∃ m', Sn w0 w' g b m' r.2
theorem app_sn {w0 w : World} {g b : Nat} {m : List Ent} {t : St} (h : Sn w0 w g b m t) (s : ByteArray) (A : Option Addr) (n cap : Nat) (ys : List Int) (hm : t.fs.length ≤ 1000000) (hr : Rd w A n ys) (hA : A = none → cap = 0) (hn : n ≤ 140737488355328) :
    Calls Tryz.prog 21 #[.pointer (some ⟨g, 0, none⟩), .string s, .slice A n cap] w (DidS w0 g b (stAppend s.data.toList ys t)) :=
  (app_did g b m t s A n cap ys w h.1 hm hr hA hn).mono fun _ _ ⟨he, hL⟩ => ⟨he, h.left hL⟩
theorem sync_sn {w0 w : World} {g b : Nat} {m : List Ent} {t : St} (h : Sn w0 w g b m t) (s : ByteArray) (hm : t.fs.length ≤ 1000000) :
    Calls Tryz.prog 108 #[.pointer (some ⟨g, 0, none⟩), .string s] w (DidS w0 g b (stSync s.data.toList t)) :=
  (sync_did g b m t s w h.1 hm).mono fun _ _ ⟨he, hL⟩ => ⟨he, h.left hL⟩
theorem unl_sn {w0 w : World} {g b : Nat} {m : List Ent} {t : St} (h : Sn w0 w g b m t) (s : ByteArray) :
    Calls Tryz.prog 107 #[.pointer (some ⟨g, 0, none⟩), .string s] w (DidS w0 g b (stUnlink s.data.toList t)) :=
  (unl_did g b m t s w h.1).mono fun _ _ ⟨he, hL⟩ => ⟨he, h.left hL⟩
theorem ren_sn {w0 w : World} {g b : Nat} {m : List Ent} {t : St} (h : Sn w0 w g b m t) (s u : ByteArray) (hm : t.fs.length ≤ 1000000) :
    Calls Tryz.prog 109 #[.pointer (some ⟨g, 0, none⟩), .string s, .string u] w (DidS w0 g b (stRename s.data.toList u.data.toList t)) :=
  (ren_did g b m t s u w h.1 hm).mono fun _ _ ⟨he, hL⟩ => ⟨he, h.left hL⟩
theorem Im.scheds {w w' : World} {g b : Nat} {m : List Ent} {t t' : St} (h : Im w g b m t) (hd : DskT w' g b t') (hf : Fr [g] w w') (hfs : t'.fs = t.fs) (hr : t'.room = t.room) (hfl : ∀ k, t'.fail = some k → k ≤ 9223372036854775807) (hal : ∀ k, t'.arm = some k → k ≤ 9223372036854775807) : Im w' g b m t' := by
  obtain ⟨n1, n2, n3⟩ := h.ne
  refine ⟨hd, own_of_block h.own (hf.block b h.own.lt (by simpa using Ne.symm n1)), by rw [hfs]; exact h.fs, fun e he => (h.file e he).of_block fun i hi => hf.block i ((h.file e he).lt hi) (by
    intro hm
    simp only [List.mem_singleton] at hm
    exact n2 (mem_blks.2 ⟨e, he, by rw [← hm]; exact hi⟩)), h.nodup, ?_, hfl, hal⟩
  refine ⟨by rw [hr]; exact h.good.1, by rw [hr]; exact h.good.2, by rw [hr, hfs]; exact h.good.3, by rw [hfs]; exact h.good.4, by rw [hfs]; exact h.good.5, by rw [hfs]; exact h.good.6, by rw [hfs]; exact h.good.7⟩
theorem fail_sn {w0 w : World} {g b : Nat} {m : List Ent} {t : St} (h : Sn w0 w g b m t) (n : Int) (hn : n ≤ 9223372036854775807) :
    Calls Tryz.prog 15 #[.pointer (some ⟨g, 0, none⟩), .int .i64 n] w (DidS w0 g b (stFail n t)) := by
  refine (fail_any g b t n w h.1.dsk).mono fun _ _ ⟨he, hd, hf⟩ => ⟨he, h.left ⟨m, h.1.scheds hd hf ?_ ?_ ?_ ?_, hf.mono (by simp), fun _ hi => .inl hi⟩⟩
  · unfold stFail; split <;> rfl
  · unfold stFail; split <;> rfl
  · intro k
    unfold stFail
    split
    · exact h.1.fl k
    · intro hk
      cases hk
      omega
  · intro k
    unfold stFail
    split
    · exact h.1.al k
    · exact h.1.al k
theorem arm_sn {w0 w : World} {g b : Nat} {m : List Ent} {t : St} (h : Sn w0 w g b m t) (n : Int) (hn : n ≤ 9223372036854775807) :
    Calls Tryz.prog 17 #[.pointer (some ⟨g, 0, none⟩), .int .i64 n] w (DidS w0 g b (stArm n t)) := by
  refine (arm_any g b t n w h.1.dsk).mono fun _ _ ⟨he, hd, hf⟩ => ⟨he, h.left ⟨m, h.1.scheds hd hf ?_ ?_ ?_ ?_, hf.mono (by simp), fun _ hi => .inl hi⟩⟩
  · unfold stArm; split <;> rfl
  · unfold stArm; split <;> rfl
  · intro k
    unfold stArm
    split
    · exact h.1.fl k
    · exact h.1.fl k
  · intro k
    unfold stArm
    split
    · exact h.1.al k
    · intro hk
      cases hk
      omega
theorem crash_sn {w0 w : World} {g b : Nat} {m : List Ent} {t : St} (h : Sn w0 w g b m t) (A : Option Addr) (n cap : Nat) (ks : List Int) (hm : t.fs.length ≤ 1000000) (hr : RdI w A n ks) (hA : 0 < n → ∀ a, A = some a → a.block ∉ g :: b :: blks m) :
    Calls Tryz.prog 19 #[.pointer (some ⟨g, 0, none⟩), .slice A n cap] w fun e w' => e = .returned (.tuple #[]) ∧ ∃ m', Sn w0 w' g b m' (stCrash ks t) :=
  (crash_any g b m t A n cap ks w h.1 hm hr hA).mono fun _ _ ⟨he, hL⟩ => ⟨he, h.left hL⟩
theorem read_sn {w0 w : World} {g b : Nat} {m : List Ent} {t : St} (h : Sn w0 w g b m t) (s : ByteArray) : Calls Tryz.prog 87 #[.pointer (some ⟨g, 0, none⟩), .string s] w (ReadIs w (stRead s.data.toList t)) := read_any g b m t s w h.1
def st0 (room : Nat) : St := ⟨room, [], false, none, none⟩
theorem good0 (room : Nat) (h1 : 1 ≤ room) (h2 : room ≤ 16777216) : Good (st0 room) := ⟨h1, h2, Nat.zero_le _, List.Pairwise.nil, by intro f hf; simp [st0] at hf, by intro f hf; simp [st0] at hf, by intro f hf; simp [st0] at hf⟩
theorem new_sn (room : Nat) (w : World) (h1 : 1 ≤ room) (h2 : room ≤ 16777216) : Calls Tryz.prog 9 #[.int .i64 (room : Int)] w fun e w' =>
    ∃ b g, e = .returned (.tuple #[.pointer (some ⟨g, 0, none⟩), .int .i64 0]) ∧ Sn w w' g b [] (st0 room) := by
  refine (new_ok (room : Int) w (by omega) (by omega)).mono ?_
  rintro e w' ⟨b, g, he, hb, hg, hne, hmap, hd, hB⟩
  refine ⟨b, g, he, ⟨hd, ?_, rfl, (fun e he => by simp at he), by simp [blks]; exact Ne.symm hne, good0 room h1 h2, (fun k hk => by cases hk), (fun k hk => by cases hk)⟩, hB, ?_⟩
  · exact ⟨#[], 0, hmap, ⟨by simp, Go.MapKept.stamped_empty 0, by simp⟩, by simp, rfl⟩
  · intro i hi
    simp [blks] at hi
    rcases hi with rfl | rfl
    · exact hg
    · exact hb
theorem rd_one (w : World) (c : Int) (h0 : 0 ≤ c) (h1 : c ≤ 255) : Rd (w.alloc (.cells #[.int .u8 c] 5)) (some ⟨w.heap.size, 0, none⟩) 1 [c] := by
  refine ⟨rfl, by unfold maxLen; omega, bytes_cons h0 h1 bytes_nil, fun _ => ⟨_, _, rfl, fun i hi => ?_⟩⟩
  rw [World.cell?_alloc_mark, Nat.zero_add]
  obtain rfl : i = 0 := by omega
  rfl
end Go.Proofs.YtejphnbhcabchaaGreat.Dk
