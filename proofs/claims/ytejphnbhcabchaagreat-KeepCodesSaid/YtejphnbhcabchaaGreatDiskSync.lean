/-
  Sync and Unlink of the program's disk. Conditions: the disk lies in memory as it was made (Im).
-/
import Derived.Test.YtejphnbhcabchaaGreatDiskIm
import Derived.Great.BuildSlice
import Derived.Shelf.Abstract
namespace Go.Proofs.YtejphnbhcabchaaGreat.Dk
open Go.RowKit Go.Proofs.YtejphnbhcabchaaGreat.Fld

set_option maxRecDepth 100000 in
set_option maxHeartbeats 3200000 in
theorem sync_none (g b bd bn : Nat) (m : List Ent) (t : St) (s : ByteArray) (w : World) (h : Im w g b m t) (hs : s.size ≤ maxLen) (hd : w.cell? ⟨bd, 0, none⟩ = some (.pointer (some ⟨g, 0, none⟩))) (hn : w.cell? ⟨bn, 0, none⟩ = some (.string s)) (hf : found m s = none) :
    Calls Tryz.prog 131 #[.pointer (some ⟨bd, 0, none⟩), .pointer (some ⟨bn, 0, none⟩)] w (Did w g b m (2, t)) := by
  have HI := Lib.hid h
  obtain ⟨c0, c1, c2, c3, c4, c5, c6, c7⟩ := Dsk.cells h.dsk
  have hlk := look2 h.own.drew s hs
  have hlo := fun o => look2 (own_past h.own o) s hs
  have hfv : foundV m s = zeroF := by unfold foundV; rw [hf]; rfl
  simp only [hfv, hf] at hlk hlo
  unfold zeroF at hlk hlo
  have pd := fun o => cell_past hd o
  have pn := fun o => cell_past hn o
  have p1 := fun o => cell_past c1 o
  clear h hfv
  go_enter Tryz.func131, Tryz.ntmps131
  go_wp2_with fail
  go_region
  go_wp2
  go_ret
  exact ⟨rfl, m, HI.out.below (((Below.refl _ _).alloc (Nat.le_refl _) _).drew), Fr.below (((Below.refl _ _).alloc (Nat.le_refl _) _).drew), fun _ hi => .inl hi⟩
theorem sync_end {w w3 : World} {g b : Nat} {m : List Ent} {t : St} {s : ByteArray} {e : Ent} (h : Im w g b m t) (hf : found m s = some e) (o : Obj) (hturn : ((w.alloc o).drew.drew).mapTurned w3 b)
    (ho : w3.ownsMap Tryz.prog 9 R1 b (put Ent.nm ⟨s.data.toList, e.v, e.zs, e.zs.length⟩ m).length (dOf (put Ent.nm ⟨s.data.toList, e.v, e.zs, e.zs.length⟩ m))) : Left w g b m { t with fs := fput (s.data.toList, e.zs, e.zs.length) t.fs } w3 := by
  obtain ⟨he1, he2⟩ := get_some hf
  have hg : fget s.data.toList t.fs = some e.fil := by rw [h.get, hf]; rfl
  have hfr : Fr [b] w w3 := (((Fr.refl [b] w).alloc o).drew.drew).turned hturn (.inl (by simp))
  obtain ⟨n1, n2, n3⟩ := h.ne
  have hblk : ∀ a ∈ m, FileAt w3 a := fun a ha => (h.file a ha).of_block fun i hi => hfr.block i ((h.file a ha).lt hi) (by
    intro hm
    simp only [List.mem_singleton] at hm
    exact n3 (mem_blks.2 ⟨a, ha, by rw [← hm]; exact hi⟩))
  refine ⟨_, h.stored ⟨s.data.toList, e.v, e.zs, e.zs.length⟩ ?_ ho rfl (h.good.sync hg) (hblk e he1) (fun a ha _ => hblk a ha) ?_ rfl rfl, hfr.mono (by simp), ?_⟩
  · refine DskT.files (t := t) ?_ _ (total_sync h.good hg _)
    exact Dsk.of_block h.dsk (hfr.block g h.dsk.lt (by simpa using n1))
  · intro i hi
    have := apart h.nodup h.up he1 hi
    rw [he2] at this
    exact this
  · intro i hi
    obtain ⟨a, ha, hv⟩ := mem_blks.1 hi
    rcases mem_put.1 ha with rfl | ⟨ha, _⟩
    · exact .inl (mem_blks.2 ⟨e, he1, hv⟩)
    · exact .inl (mem_blks.2 ⟨a, ha, hv⟩)
set_option maxRecDepth 100000 in
set_option maxHeartbeats 3200000 in
theorem sync_ok (g b bd bn : Nat) (m : List Ent) (t : St) (s : ByteArray) (e : Ent) (w : World) (h : Im w g b m t) (hm : t.fs.length ≤ 1000000) (hs : s.size ≤ maxLen) (hd : w.cell? ⟨bd, 0, none⟩ = some (.pointer (some ⟨g, 0, none⟩))) (hn : w.cell? ⟨bn, 0, none⟩ = some (.string s)) (hf : found m s = some e) :
    Calls Tryz.prog 131 #[.pointer (some ⟨bd, 0, none⟩), .pointer (some ⟨bn, 0, none⟩)] w (Did w g b m (0, { t with fs := fput (s.data.toList, e.zs, e.zs.length) t.fs })) := by
  have HI := Lib.hid h
  obtain ⟨he1, he2⟩ := get_some hf
  have hfile := h.file e he1
  obtain ⟨A, cap, hv⟩ : ∃ A cap, e.v = .slice A e.zs.length cap := by
    rcases hfile.2.2 with ⟨hv, h0⟩ | ⟨q, cap, cur, hv, _⟩
    · exact ⟨none, 0, by rw [hv, h0]⟩
    · exact ⟨_, cap, hv⟩
  obtain ⟨c0, c1, c2, c3, c4, c5, c6, c7⟩ := Dsk.cells h.dsk
  have hlk := look2 h.own.drew s hs
  have hlo := fun o => look2 (own_past h.own o) s hs
  have hfv : foundV m s = .agg #[.slice A e.zs.length cap, .int .i64 (e.s : Int)] := by unfold foundV; rw [hf, Option.map_some, Option.getD_some, Ent.val, hv]
  simp only [hfv, hf] at hlk hlo
  have pd := fun o => cell_past hd o
  have pn := fun o => cell_past hn o
  have p1 := fun o => cell_past c1 o
  obtain ⟨w3, hup, hown3, hturn⟩ := store1 (((h.own.alloc (.cells #[.slice A e.zs.length cap, .int .i64 (e.zs.length : Int)] 82)).drew).drew) (by rw [h.len]; exact hm) s hs ⟨s.data.toList, e.v, e.zs, e.zs.length⟩ rfl
  unfold Ent.val at hup
  simp only [hv] at hup
  have HL := Lib.hid (sync_end h hf _ hturn hown3)
  clear h hfv hown3 hturn hv hfile hf he1 he2 HI
  generalize hst : ({ t with fs := fput (s.data.toList, e.zs, e.zs.length) t.fs } : St) = t' at *
  clear hst
  generalize e.zs.length = n at *
  go_enter Tryz.func131, Tryz.ntmps131
  go_wp2_with fail
  go_region
  go_wp2_with fail
  go_region
  go_wp2
  go_ret
  exact ⟨rfl, HL.out⟩

theorem sync1_did (g b bd bn : Nat) (m : List Ent) (t : St) (s : ByteArray) (w : World) (h : Im w g b m t) (hm : t.fs.length ≤ 1000000) (hs : s.size ≤ maxLen) (hd : w.cell? ⟨bd, 0, none⟩ = some (.pointer (some ⟨g, 0, none⟩))) (hn : w.cell? ⟨bn, 0, none⟩ = some (.string s)) :
    Calls Tryz.prog 131 #[.pointer (some ⟨bd, 0, none⟩), .pointer (some ⟨bn, 0, none⟩)] w (Did w g b m (sync1 s.data.toList t)) := by
  unfold sync1
  rw [h.get]
  cases hf : found m s with
  | none => exact sync_none g b bd bn m t s w h hs hd hn hf
  | some e => exact sync_ok g b bd bn m t s e w h hm hs hd hn hf
theorem sync_enters (caps : Array Value) (w : World) : (callFunc 131 caps).run Tryz.prog w = .ok (.enter 131 caps) w := enters_of Tryz.func131 (by kernel_rfl) rfl caps w
set_option maxRecDepth 100000 in
set_option maxHeartbeats 3200000 in
theorem sync_did (g b : Nat) (m : List Ent) (t : St) (s : ByteArray) (w : World) (h : Im w g b m t) (hm : t.fs.length ≤ 1000000) :
    Calls Tryz.prog 108 #[.pointer (some ⟨g, 0, none⟩), .string s] w (Did w g b m (stSync s.data.toList t)) := by
  have HI := Lib.hid h
  clear h
  go_enter Tryz.func108, Tryz.ntmps108
  have HM := Lib.hid (mod1 _ g b sync_enters m t s w HI.out (sync1 s.data.toList) fun bd bn w1 hI hs _ hd hn => sync1_did g b bd bn m _ s w1 hI (by rw [(chg_same t).2]; exact hm) hs hd hn)
  unfold stSync
  generalize doing (okN s.data.toList) t (sync1 s.data.toList) = r at *
  go_wp2_with (go_at_call 45; refine HM.out.mono ?_; rintro e w' ⟨rfl, hL⟩; have HL := Lib.hid hL; clear hL)
  go_ret
  exact ⟨rfl, HL.out⟩
end Go.Proofs.YtejphnbhcabchaaGreat.Dk
