/-
  Several texts in one: The document's own disk in memory (Rf). Conditions: as each theorem states. The document's own disk: a file is gone, a file is put in its place. Conditions: it lies in memory as it was made (Rf). The document's own disk: a file is put in its place. Conditions: it lies in memory as it was made (Rf). The document's own disk: a file is put where there is none. Conditions: it lies in memory as it was made (Rf). The document's own disk: change, Fail, Arm. Conditions: it lies in memory as it was made (Rf). The document's own disk: what its methods leave (RLeft); Unlink, Fail, Arm. Conditions: it lies in memory as it was made (Rf). The document's own disk: Unlink and Sync. Conditions: it lies in memory as it was made (Rf). The document's own disk: an Append for which there is no room, or which is not made. Conditions: it lies in memory as it was made (Rf). The document's own disk: a cell of a file is written; Sync. Conditions: it lies in memory as it was made (Rf). The document's own disk: Rename. Conditions: it lies in memory as it was made (Rf). The document's own disk: an Append that is made. Conditions: it lies in memory as it was made (Rf). The document's own disk: Crash, where there is no file. Conditions: it lies in memory as it was made (Rf). The document's own disk: Crash. Conditions: it lies in memory as it was made (Rf); keep can be read, and lies elsewhere. The document's own disk: Read. Conditions: it lies in memory as it was made (Rf). The document's own disk: Names. Conditions: it lies in memory as it was made (Rf). The two disks side by side, in memory that they do not share (Pair): what the one's calls leave of the other. Conditions: as each theorem states.
-/
import Derived.Test.YtejphnbhcabchaaGreatDiskOne
import Derived.BigQuiet
import Derived.Deep.RegionLaw
import Derived.BigRegion
namespace Go.Proofs.YtejphnbhcabchaaGreat.Dk
open Go.RowKit Go.Proofs.YtejphnbhcabchaaGreat.Fld

def cells3 (e : Ent) : List Value := [.string ⟨e.nm.toArray⟩, e.v, .int .i64 (e.s : Int)]
def rowOf (m : List Ent) : List Value := m.flatMap cells3
def sched (o : Option Nat) : Int := match o with | none => -1 | some k => (k : Int)
def BytesAt (w : World) (e : Ent) : Prop := ∃ A cap, e.v = .slice A e.zs.length cap ∧ Sl w A e.zs.length cap e.zs
def DsrT (w : World) (r : Nat) (lv : Value) (t : St) : Prop := ∃ A n cap, lv = .slice A n cap ∧ Dsr w r (t.room : Int) A n cap (sched t.fail) (sched t.arm) t.off
structure Rf (w : World) (r : Nat) (lv : Value) (m : List Ent) (t : St) : Prop where
  dsr : DsrT w r lv t
  row : w.ownsRow 0 85 3 lv m.length (rowOf m)
  byt : ∀ e ∈ m, BytesAt w e
  fs : t.fs = m.map Ent.fil
  good : Good t
  ne : lv.ownBlock ≠ some r ∧ ∀ i ∈ blks m, i ≠ r ∧ lv.ownBlock ≠ some i
  fl : ∀ k, t.fail = some k → k ≤ 9223372036854775807
  al : ∀ k, t.arm = some k → k ≤ 9223372036854775807
  bl : ∀ i ∈ blks m, i < w.heap.size
def rfoot (r : Nat) (lv : Value) (m : List Ent) : List Nat := r :: (lv.ownBlock.toList ++ blks m)

theorem Dsr.cells {w : World} {r : Nat} {room : Int} {A : Option Addr} {n cap : Nat} {fl al : Int} {down : Bool} (h : Dsr w r room A n cap fl al down) :
    w.cell? ⟨r, 0, none⟩ = some (.int .i64 room) ∧ w.cell? ⟨r, 1, none⟩ = some (.slice A n cap) ∧ w.cell? ⟨r, 2, none⟩ = some (.int .i64 fl) ∧ w.cell? ⟨r, 3, none⟩ = some (.int .i64 al) ∧ w.cell? ⟨r, 4, none⟩ = some (.bool down) :=
  ⟨by rw [cell_of_row w r 0 _ _ (0, 0) h]; rfl, by rw [cell_of_row w r 1 _ _ (0, 0) h]; rfl, by rw [cell_of_row w r 2 _ _ (0, 0) h]; rfl, by rw [cell_of_row w r 3 _ _ (0, 0) h]; rfl, by rw [cell_of_row w r 4 _ _ (0, 0) h]; rfl⟩
theorem Dsr.free {w : World} {r : Nat} {room : Int} {A : Option Addr} {n cap : Nat} {fl al : Int} {down : Bool} (h : Dsr w r room A n cap fl al down) (i : Nat) : w.frozen? ⟨r, i, none⟩ = false := frozen_of_row w r i _ _ h
theorem Dsr.lt {w : World} {r : Nat} {room : Int} {A : Option Addr} {n cap : Nat} {fl al : Int} {down : Bool} (h : Dsr w r room A n cap fl al down) : r < w.heap.size := by
  rcases Nat.lt_or_ge r w.heap.size with h' | h'
  · exact h'
  · unfold Dsr at h; rw [Array.getElem?_eq_none h'] at h; cases h
section
variable {w : World} {r : Nat} {room : Int} {A : Option Addr} {n cap : Nat} {fl al : Int} {down : Bool}
theorem Dsr.set1 (h : Dsr w r room A n cap fl al down) (A' : Option Addr) (n' cap' : Nat) : Dsr (w.setCell ⟨r, 1, none⟩ (.slice A' n' cap')) r room A' n' cap' fl al down := heap_setCell_same w r 1 _ _ _ h
theorem Dsr.set2 (h : Dsr w r room A n cap fl al down) (x : Int) : Dsr (w.setCell ⟨r, 2, none⟩ (.int .i64 x)) r room A n cap x al down := heap_setCell_same w r 2 _ _ _ h
theorem Dsr.set3 (h : Dsr w r room A n cap fl al down) (x : Int) : Dsr (w.setCell ⟨r, 3, none⟩ (.int .i64 x)) r room A n cap fl x down := heap_setCell_same w r 3 _ _ _ h
theorem Dsr.set4 (h : Dsr w r room A n cap fl al down) (x : Bool) : Dsr (w.setCell ⟨r, 4, none⟩ (.bool x)) r room A n cap fl al x := heap_setCell_same w r 4 _ _ _ h
theorem Dsr.of_block {w' : World} (h : Dsr w r room A n cap fl al down) (hb : w'.heap[r]? = w.heap[r]?) : Dsr w' r room A n cap fl al down := hb.trans h
end
theorem DsrT.of_block {w w' : World} {r : Nat} {lv : Value} {t : St} (h : DsrT w r lv t) (hb : w'.heap[r]? = w.heap[r]?) : DsrT w' r lv t := by
  obtain ⟨A, n, cap, h1, h2⟩ := h
  exact ⟨A, n, cap, h1, h2.of_block hb⟩
theorem row_of_block {w w' : World} {lv : Value} {n : Nat} {xs : List Value} (h : w.ownsRow 0 85 3 lv n xs) (hb : ∀ i, lv.ownBlock = some i → w'.heap[i]? = w.heap[i]?) : w'.ownsRow 0 85 3 lv n xs := by
  obtain ⟨h1, h2⟩ := h
  refine ⟨h1, ?_⟩
  rcases h2 with h2 | ⟨q, cap, cur, hv, hg, hq, r⟩
  · exact .inl h2
  · exact .inr ⟨q, cap, cur, hv, hg, (hb q (by rw [hv]; rfl)).trans hq, r⟩
theorem BytesAt.of_block {w w' : World} {e : Ent} (h : BytesAt w e) (hb : ∀ i, e.v.ownBlock = some i → w'.heap[i]? = w.heap[i]?) : BytesAt w' e := by
  obtain ⟨A, cap, hv, hs⟩ := h
  refine ⟨A, cap, hv, ?_, hs.2⟩
  obtain ⟨h1, h2, h3, h4⟩ := hs.1
  refine ⟨h1, h2, h3, fun hn => ?_⟩
  obtain ⟨b, off, rfl, hc⟩ := h4 hn
  exact ⟨b, off, rfl, fun i hi => (World.cell?_of_block (w := w) (hb b (by rw [hv]; rfl))).trans (hc i hi)⟩
theorem Rf.lt {w : World} {r : Nat} {lv : Value} {m : List Ent} {t : St} (h : Rf w r lv m t) : r < w.heap.size ∧ ∀ i, lv.ownBlock = some i → i < w.heap.size := by
  obtain ⟨A, n, cap, _, hd⟩ := h.dsr
  refine ⟨hd.lt, fun i hi => ?_⟩
  rcases h.row.2 with ⟨hv, _⟩ | ⟨q, cap, cur, hv, _, hq, _⟩
  · rw [hv] at hi; cases hi
  · rw [hv] at hi; cases hi; exact (Array.getElem?_eq_some_iff.1 hq).1
theorem Rf.of_blocks {w w' : World} {r : Nat} {lv : Value} {m : List Ent} {t : St} (h : Rf w r lv m t) (hb : ∀ i ∈ rfoot r lv m, w'.heap[i]? = w.heap[i]?) : Rf w' r lv m t := by
  refine ⟨h.dsr.of_block (hb r (by simp [rfoot])), row_of_block h.row (fun i hi => hb i (by simp [rfoot, hi])), fun e he => (h.byt e he).of_block fun i hi => hb i ?_, h.fs, h.good, h.ne, h.fl, h.al, fun i hi => ?_⟩
  · have : i ∈ blks m := mem_blks.2 ⟨e, he, hi⟩
    simp [rfoot, this]
  · have h1 := h.bl i hi
    have h2 := hb i (by simp [rfoot, hi])
    rw [Array.getElem?_eq_getElem h1] at h2
    exact (Array.getElem?_eq_some_iff.1 h2).1
theorem rowOf_len (m : List Ent) : (rowOf m).length = m.length * 3 := by
  unfold rowOf
  induction m with
  | nil => rfl
  | cons e r ih => rw [List.flatMap_cons, List.length_append, ih]; simp [cells3]; omega
theorem rowOf_at (m : List Ent) (k j : Nat) (hk : k < m.length) (hj : j < 3) : (rowOf m)[k * 3 + j]? = (cells3 m[k])[j]? := by
  unfold rowOf
  induction m generalizing k with
  | nil => simp at hk
  | cons e r ih =>
    rw [List.flatMap_cons]
    cases k with
    | zero =>
      rw [List.getElem?_append_left (by simp [cells3]; omega)]
      simp
    | succ k =>
      rw [List.getElem?_append_right (by simp [cells3]; omega)]
      have : (k + 1) * 3 + j - (cells3 e).length = k * 3 + j := by simp [cells3]; omega
      rw [this, ih k (by simpa using hk)]
      rfl
/-- the cells of a file -/
theorem Rf.cell {w : World} {r : Nat} {lv : Value} {m : List Ent} {t : St} (h : Rf w r lv m t) (k : Nat) (hk : k < m.length) : ∃ q cap, lv = .slice (some ⟨q, 0, none⟩) m.length cap ∧ m.length ≤ cap ∧ cap ≤ maxLen ∧
    w.cell? ⟨q, k * 3, none⟩ = some (.string ⟨m[k].nm.toArray⟩) ∧ w.cell? ⟨q, k * 3 + 1, none⟩ = some m[k].v ∧ w.cell? ⟨q, k * 3 + 2, none⟩ = some (.int .i64 (m[k].s : Int)) ∧ (∀ i, w.frozen? ⟨q, i, none⟩ = false) := by
  rcases h.row.2 with ⟨_, h0⟩ | ⟨q, cap, cur, hv, _, hq, h1, h2, h3, h4⟩
  · omega
  · have hc : ∀ j, j < 3 → w.cell? ⟨q, k * 3 + j, none⟩ = (cells3 m[k])[j]? := by
      intro j hj
      rw [cell_of_row w q (k * 3 + j) cur _ (0, 0) hq, ← rowOf_at m k j hk hj, ← h4, List.getElem?_take, if_pos (by omega), Array.getElem?_toList]
    exact ⟨q, cap, hv, h1, h2, hc 0 (by omega), hc 1 (by omega), hc 2 (by omega), fun i => frozen_of_row w q i _ _ hq⟩
theorem Rf.up {w : World} {r : Nat} {lv : Value} {m : List Ent} {t : St} (h : Rf w r lv m t) : Up Ent.nm m := by
  have := h.good.up
  rw [h.fs] at this
  exact (map_up (k1 := Ent.nm) (k2 := Prod.fst) Ent.fil (fun _ => rfl)).1 this
theorem Rf.get {w : World} {r : Nat} {lv : Value} {m : List Ent} {t : St} (h : Rf w r lv m t) (s : ByteArray) : fget s.data.toList t.fs = (found m s).map Ent.fil := by
  rw [h.fs]
  exact (map_get (k1 := Ent.nm) (k2 := Prod.fst) Ent.fil (fun _ => rfl) _ _).symm
theorem Rf.len {w : World} {r : Nat} {lv : Value} {m : List Ent} {t : St} (h : Rf w r lv m t) : m.length = t.fs.length := by rw [h.fs]; simp
theorem Rf.form {w : World} {r : Nat} {lv : Value} {m : List Ent} {t : St} (h : Rf w r lv m t) : ∃ A cap, lv = .slice A m.length cap ∧ Dsr w r (t.room : Int) A m.length cap (sched t.fail) (sched t.arm) t.off ∧ m.length ≤ cap := by
  obtain ⟨A, n, cap, hv, hd⟩ := h.dsr
  rcases h.row.2 with ⟨hv2, h0⟩ | ⟨q, cap2, cur, hv2, _, _, h1, _⟩
  · rw [hv] at hv2
    cases hv2
    exact ⟨none, 0, by rw [h0]; exact hv, by rw [h0]; exact hd, by omega⟩
  · rw [hv] at hv2
    cases hv2
    exact ⟨_, _, hv, hd, h1⟩

/-- where a file stands -/
def plc (m : List Ent) (s : ByteArray) : Int := match m.findIdx? (fun e => e.nm == s.data.toList) with | some i => (i : Int) | none => -1
theorem plc_some {m : List Ent} {s : ByteArray} {k : Nat} (hk : k < m.length) (h : m[k].nm = s.data.toList) (hb : ∀ j (hj : j < m.length), j < k → m[j].nm ≠ s.data.toList) : plc m s = (k : Int) := by
  unfold plc
  have : m.findIdx? (fun e => e.nm == s.data.toList) = some k := by
    rw [List.findIdx?_eq_some_iff_getElem]
    exact ⟨hk, by simpa using h, fun j hj => by simpa using hb j (by omega) hj⟩
  rw [this]
theorem plc_none {m : List Ent} {s : ByteArray} (hb : ∀ j (hj : j < m.length), m[j].nm ≠ s.data.toList) : plc m s = -1 := by
  unfold plc
  have : m.findIdx? (fun e => e.nm == s.data.toList) = none := by
    rw [List.findIdx?_eq_none_iff]
    intro e he
    obtain ⟨j, hj, rfl⟩ := List.getElem_of_mem he
    simpa using hb j hj
  rw [this]
theorem str_nm (x : Nm) (s : ByteArray) : (x == s.toList) = (x == s.data.toList) := by
  rw [ByteArray.toList_eq]
set_option maxRecDepth 100000 in
set_option maxHeartbeats 3200000 in
theorem place_any (r : Nat) (lv : Value) (m : List Ent) (t : St) (s : ByteArray) (w : World) (h : Rf w r lv m t) (hm : t.fs.length ≤ 1000000) : Calls Tryz.prog 48 #[.pointer (some ⟨r, 0, none⟩), .string s] w fun e w' => e = .returned (.int .i64 (plc m s)) ∧ w = w' := by
  have hml : m.length ≤ 1000000 := by rw [h.len]; exact hm
  have HI := Lib.hid h
  obtain ⟨A, cap, hlv, hd, hcap⟩ := h.form
  obtain ⟨c0, c1, c2, c3, c4⟩ := hd.cells
  have HLV := Lib.hid hlv
  clear h hd hlv
  go_enter Tryz.func48, Tryz.ntmps48
  go_wp2
  go_loop [5] (fun i => ∃ k : Nat, k ≤ m.length ∧ i = .int .i64 k ∧ ∀ j (hj : j < m.length), j < k → m[j].nm ≠ s.data.toList) (fun i => m.length - (intOf i).toNat)
  case atStart => exact ⟨0, Nat.zero_le _, rfl, fun j hj h => by omega⟩
  case round =>
    obtain ⟨k, hk, rfl, hall⟩ := hrel
    have HA := Lib.hid hall
    clear hall
    by_cases hlt : k < m.length
    · obtain ⟨q, cap2, hv, _, _, k0, k1, k2, _⟩ := HI.out.cell k hlt
      obtain ⟨rfl, rfl⟩ : A = some ⟨q, 0, none⟩ ∧ cap = cap2 := by
        have := HLV.out.symm.trans hv
        injection this with e1 e2 e3
        exact ⟨e1, e3⟩
      have hcmp := str_nm m[k].nm s
      cases hb : (m[k].nm == s.data.toList) with
      | true =>
        rw [hb] at hcmp
        have HP := Lib.hid (plc_some hlt (by simpa using hb) (fun j hj h => HA.out j hj h))
        clear hb
        generalize m[k].nm = x at *
        go_wp2
        go_ret
        exact ⟨by rw [HP.out]; rfl, rfl⟩
      | false =>
        rw [hb] at hcmp
        have HNE := Lib.hid (show m[k].nm ≠ s.data.toList by simpa using hb)
        have HA2 := Lib.hid (show ∀ j (hj : j < m.length), j < k + 1 → m[j].nm ≠ s.data.toList from fun j hj h => by
          rcases Nat.lt_or_eq_of_le (Nat.le_of_lt_succ h) with h1 | h1
          · exact HA.out j hj h1
          · subst h1; exact HNE.out)
        clear hb
        generalize m[k].nm = x at *
        go_wp2
        go_roundw
        case rel => exact ⟨k + 1, by omega, by go_num, HA2.out⟩
        case measure => simp [intOf]; omega
    · obtain rfl : k = m.length := by omega
      have HP := Lib.hid (plc_none (m := m) (s := s) (fun j hj => HA.out j hj hj))
      go_wp2
      go_ret
      exact ⟨by rw [HP.out]; rfl, rfl⟩
def RS (m : List Ent) (n i : Value) : Prop := ∃ k : Nat, k ≤ m.length ∧ i = .int .i64 (k : Int) ∧ n = .int .i64 ((total ((m.take k).map Ent.fil) : Nat) : Int)
theorem total_take (m : List Ent) (k : Nat) (hk : k < m.length) : total ((m.take (k + 1)).map Ent.fil) = total ((m.take k).map Ent.fil) + m[k].zs.length := by
  have h1 : m.take (k + 1) = m.take k ++ [m[k]] := by rw [List.take_add_one, List.getElem?_eq_getElem hk]; rfl
  rw [h1, List.map_append]
  unfold total
  rw [List.map_append, List.sum_append]
  rfl
theorem total_take_le (m : List Ent) (k : Nat) : total ((m.take k).map Ent.fil) ≤ total (m.map Ent.fil) := by
  induction m generalizing k with
  | nil => simp
  | cons e r ih =>
    cases k with
    | zero => simp [total]
    | succ k =>
      simp only [List.take_succ_cons, List.map_cons, total_cons]
      have := ih k
      omega
set_option maxRecDepth 100000 in
set_option maxHeartbeats 3200000 in
theorem rsize_any (r : Nat) (lv : Value) (m : List Ent) (t : St) (w : World) (h : Rf w r lv m t) (hm : t.fs.length ≤ 1000000) : Calls Tryz.prog 30 #[.pointer (some ⟨r, 0, none⟩)] w fun e w' => e = .returned (.int .i64 (total t.fs : Nat)) ∧ w = w' := by
  have hml : m.length ≤ 1000000 := by rw [h.len]; exact hm
  have HI := Lib.hid h
  obtain ⟨A, cap, hlv, hd, hcap⟩ := h.form
  obtain ⟨c0, c1, c2, c3, c4⟩ := hd.cells
  have HLV := Lib.hid hlv
  have HTB := Lib.hid (fun k => Nat.le_trans (total_take_le m k) (show total (m.map Ent.fil) ≤ 16777216 by rw [← h.fs]; exact Nat.le_trans h.good.fits h.good.room2))
  rw [h.fs]
  clear h hd hlv
  go_enter Tryz.func30, Tryz.ntmps30
  go_wp2
  go_loop [3, 4] (fun n i => RS m n i) (fun _ i => m.length - (intOf i).toNat)
  case atStart => exact ⟨0, Nat.zero_le _, rfl, rfl⟩
  case round =>
    obtain ⟨k, hk, rfl, rfl⟩ := hrel
    by_cases hlt : k < m.length
    · obtain ⟨q, cap2, hv, _, _, k0, k1, k2, _⟩ := HI.out.cell k hlt
      obtain ⟨rfl, rfl⟩ : A = some ⟨q, 0, none⟩ ∧ cap = cap2 := by
        have := HLV.out.symm.trans hv
        injection this with e1 e2 e3
        exact ⟨e1, e3⟩
      obtain ⟨BA, bc, hbv, _⟩ := HI.out.byt m[k] (List.getElem_mem hlt)
      have ht := total_take m k hlt
      have hb2 := HTB.out (k + 1)
      rw [hbv] at k1
      rw [ht] at hb2
      have HTK := Lib.hid ht
      clear ht hbv hv
      generalize m[k].zs.length = L at *
      generalize total ((m.take k).map Ent.fil) = T at *
      have hw : IntKind.i64.wrap ((T : Int) + (L : Int)) = (T : Int) + (L : Int) := IntWalk.i64_in _ (by omega)
      go_wp2
      go_roundw
      case rel => exact ⟨k + 1, by omega, by go_num, by rw [HTK.out]; simp⟩
      case measure => simp [intOf]; omega
    · obtain rfl : k = m.length := by omega
      go_wp2
      go_ret
      exact ⟨rfl, rfl⟩
end Go.Proofs.YtejphnbhcabchaaGreat.Dk

namespace Go.Proofs.YtejphnbhcabchaaGreat.Dk
open Go.RowKit Go.Proofs.YtejphnbhcabchaaGreat.Fld

theorem file_info : ∃ i, Tryz.prog.info? 85 = some i ∧ i.zero = some (.agg #[.string ByteArray.empty, .slice none 0 0, .int .i64 0]) ∧ i.size = 3 ∧ i.bytes = 48 := by
  have h : (Tryz.prog.info? 85).map (fun i => (i.zero, i.size, i.bytes)) = some (some (.agg #[.string ByteArray.empty, .slice none 0 0, .int .i64 0]), 3, 48) := by kernel_rfl
  cases hq : Tryz.prog.info? 85 with
  | none => simp [hq] at h
  | some i => simp [hq] at h; exact ⟨i, rfl, h⟩
theorem rowOf_append (a c : List Ent) : rowOf (a ++ c) = rowOf a ++ rowOf c := by simp [rowOf]
/-- entries whose second cell is a slice -/
def Flat (m : List Ent) : Prop := ∀ e ∈ m, ∃ A n cap, e.v = .slice A n cap
theorem rowOf_one {m : List Ent} (h : Flat m) : ∀ u ∈ rowOf m, u.oneCell' = true := by
  intro u hu
  simp only [rowOf, List.mem_flatMap, cells3] at hu
  obtain ⟨e, he, hu⟩ := hu
  obtain ⟨A, n, cap, hv⟩ := h e he
  simp only [List.mem_cons, List.not_mem_nil, or_false] at hu
  rcases hu with rfl | rfl | rfl
  · rfl
  · rw [hv]; rfl
  · rfl
/-- files that can be read, from an address on -/
def RdF3 (w : World) (ad : Addr) (m : List Ent) : Prop := ∀ j u, (rowOf m)[j]? = some u → w.cell? (ad.add j) = some u
set_option maxRecDepth 100000 in
theorem wpList_append_files {w : World} {ops : Array Oper} {rest : List Oper} {o : Oper} {a : Act} {Q : Exit → Act → World → Prop} (hgd : o.guard = none) (s x : Operand)
    (ho : o.op = .call { callee := .builtin .append, args := #[s, x], argTypes := #[55, 55] })
    (base : Nat) (v : Value) (n1 : Nat) (m1 : List Ent) (hs : a.eval s = v) (hown : w.ownsRow base 85 3 v n1 (rowOf m1))
    (ad : Addr) (k c : Nat) (m2 : List Ent) (hx : a.eval x = .slice (some ad) k c) (hk : m2.length = k) (hr : RdF3 w ad m2) (hfl : Flat m2) (hb : n1 + k ≤ 2000000) (hbase : base ≤ w.heap.size)
    (h : ∀ v' w', w'.ownsRow base 85 3 v' (n1 + k) (rowOf (m1 ++ m2)) → w.grownBy w' v.ownBlock → (v'.ownBlock = v.ownBlock ∨ v'.ownBlock = some w.heap.size) → wpList Tryz.prog ops Q rest (a.put o.dst v') w') : wpList Tryz.prog ops Q (o :: rest) a w := by
  obtain ⟨i, hi, hz, hsz, hby⟩ := file_info
  subst hk
  refine wpList_append_own_at w hgd s x _ ho base 85 i _ 3 48 Tryz.underlying55 hi hz hsz hby rfl (by omega) v _ _ hs hown ad m2.length c (rowOf m2) hx (rowOf_len m2) hr (rowOf_one hfl) (by unfold maxLen; omega) (by omega) hbase ?_
  intro v' w' hrow hg _ hat
  refine h v' w' ?_ hg hat
  rw [rowOf_append]
  exact hrow
theorem row_form {w : World} {base : Nat} {v : Value} {n : Nat} {xs : List Value} (h : w.ownsRow base 85 3 v n xs) : ∃ A cap, v = .slice A n cap ∧ ∀ i, v.ownBlock = some i → base ≤ i ∧ i < w.heap.size := by
  rcases h.2 with ⟨rfl, rfl⟩ | ⟨q, cap, cur, rfl, hg, hq, _⟩
  · exact ⟨none, 0, rfl, fun i hi => by cases hi⟩
  · exact ⟨_, cap, rfl, fun i hi => by cases hi; exact ⟨hg, (Array.getElem?_eq_some_iff.1 hq).1⟩⟩
theorem row_zero {w : World} {base : Nat} {v : Value} {n : Nat} {xs : List Value} (h : w.ownsRow base 85 3 v n xs) : w.ownsRow 0 85 3 v n xs := by
  refine ⟨h.1, ?_⟩
  rcases h.2 with h | ⟨q, cap, cur, hv, _, r⟩
  · exact .inl h
  · exact .inr ⟨q, cap, cur, hv, Nat.zero_le _, r⟩
theorem row_made (w : World) : (w.alloc (.cells #[] 85)).ownsRow w.heap.size 85 3 (.slice (some ⟨w.heap.size, 0, none⟩) 0 0) 0 (rowOf []) := ⟨rfl, .inr ⟨w.heap.size, 0, #[], rfl, Nat.le_refl _, heap_alloc_new w _, Nat.le_refl _, by unfold maxLen; omega, rfl, rfl⟩⟩
theorem RdF3.of_block {w w' : World} {ad : Addr} {m : List Ent} (h : RdF3 w ad m) (hb : w'.heap[ad.block]? = w.heap[ad.block]?) : RdF3 w' ad m := by
  intro j u hu
  have := h j u hu
  refine (World.cell?_of_block (w := w) ?_).trans this
  have e : (ad.add j).block = ad.block := by unfold Addr.add; split <;> rfl
  rw [e]
  exact hb
/-- the slice is another one now -/
def Turned (w : World) (r : Nat) (room fl al : Int) (down : Bool) (m : List Ent) (w' : World) : Prop :=
  ∃ A n cap, Dsr w' r room A n cap fl al down ∧ w'.ownsRow 0 85 3 (.slice A n cap) m.length (rowOf m) ∧ (∀ i, (Value.slice A n cap).ownBlock = some i → w.heap.size ≤ i ∧ i < w'.heap.size) ∧ Fr [r] w w'
theorem turned_end {w w2 : World} {r : Nat} {room fl al : Int} {down : Bool} {A A' : Option Addr} {n n' cap cap' : Nat} {m : List Ent} (hf : Fr [] w w2) (hrl : r < w.heap.size) (hD : Dsr w2 r room A n cap fl al down)
    (hrow : w2.ownsRow w.heap.size 85 3 (.slice A' n' cap') n' (rowOf m)) (hb : ∀ i, (Value.slice A' n' cap').ownBlock = some i → w.heap.size ≤ i ∧ i < w2.heap.size) (hn : m.length = n') :
    Turned w r room fl al down m (w2.setCell ⟨r, 1, none⟩ (.slice A' n' cap')) := by
  refine ⟨A', n', cap', hD.set1 A' n' cap', ?_, fun i hi => ⟨(hb i hi).1, by have := (hb i hi).2; simpa [World.setCell] using this⟩, (hf.mono (by simp)).setCell _ (.inl (by simp)) _⟩
  rw [hn]
  exact row_of_block (row_zero hrow) fun i hi => Below.heap_setCell _ _ _ _ (by have := (hb i hi).1; simp; omega)
set_option maxRecDepth 100000 in
set_option maxHeartbeats 3200000 in
theorem out_any (r q k cap : Nat) (room fl al : Int) (down : Bool) (m : List Ent) (w : World) (h : Dsr w r room (some ⟨q, 0, none⟩) m.length cap fl al down) (hq : q < w.heap.size) (hk : k < m.length) (hc : m.length ≤ cap) (hm : m.length ≤ 1000000) (hfl : Flat m)
    (hr : ∀ j, j ≤ m.length → RdF3 w ⟨q, j * 3, none⟩ (m.drop j)) :
    Calls Tryz.prog 112 #[.pointer (some ⟨r, 0, none⟩), .int .i64 (k : Int)] w fun e w' => e = .returned (.tuple #[]) ∧ Turned w r room fl al down (m.take k ++ m.drop (k + 1)) w' := by
  obtain ⟨c0, c1, c2, c3, c4⟩ := h.cells
  have hrl := h.lt
  have p1 := fun o => cell_past c1 o
  have hr1 : RdF3 (w.alloc (.cells #[] 85)) ⟨q, 0, none⟩ (m.take k) := by
    intro j u hu
    refine cell_past ?_ _
    have := hr 0 (by omega) j u
    simp only [Nat.zero_mul, List.drop_zero] at this
    refine this ?_
    have e : rowOf m = rowOf (m.take k) ++ rowOf (m.drop k) := by rw [← rowOf_append, List.take_append_drop]
    rw [e, List.getElem?_append_left]
    · exact hu
    · exact (List.getElem?_eq_some_iff.1 hu).1
  have HR2 := Lib.hid (hr (k + 1) (by omega))
  have HH := Lib.hid h
  have HO := Lib.hid (row_made w)
  have HR1 := Lib.hid hr1
  have HF1 := Lib.hid (show Flat (m.take k) from fun e he => hfl e (List.mem_of_mem_take he))
  have HF2 := Lib.hid (show Flat (m.drop (k + 1)) from fun e he => hfl e (List.mem_of_mem_drop he))
  have HL1 := Lib.hid (show (m.take k).length = k by rw [List.length_take]; omega)
  have HL2 := Lib.hid (show (m.drop (k + 1)).length = m.length - (k + 1) by rw [List.length_drop])
  have HE1 := Lib.hid (show ([] : List Ent) ++ m.take k = m.take k from rfl)
  clear hr1 hr h
  have hb1 : k + (m.length - (k + 1)) ≤ 1000000 := by omega
  by_cases hce : cap = k + 1
  · have hdn : m.drop (k + 1) = [] := List.drop_eq_nil_of_le (by omega)
    have hz : m.length - (k + 1) = 0 := by omega
    subst hce
    have HR3 := Lib.hid (show ∀ w1 : World, w1.heap[q]? = w.heap[q]? → RdF3 w1 ⟨q, 0, none⟩ (m.drop (k + 1)) from fun w1 _ => by rw [hdn]; intro j u hu; simp [rowOf] at hu)
    clear hdn HR2
    have HR2 := Lib.hid HR3.out
    clear HR3
    rw [hz] at HL2
    generalize m.take k = m1 at *
    generalize m.drop (k + 1) = m2 at *
    go_enter Tryz.func112, Tryz.ntmps112
    go_wp2_with (first | (at_builtin; have _ := HROW1; refine wpList_append_files rfl _ _ rfl w.heap.size _ k m1 rfl HROW1.out ⟨q, 0, none⟩ _ _ m2 rfl HL2.out HRR.out HF2.out (by omega) (by have := HG1.out.size; simp at this; omega) ?_; intro v2 w2 hrow2 hg2 hat2; obtain ⟨A2, c2', hv2, hbl2⟩ := row_form hrow2; subst hv2; have hD2 := HD1.out.of_block (hg2.block r (by have := HG1.out.size; simp at this; omega) (by intro e; have := HB1.out r e.symm; omega)); have z1 := hD2.cells.2.1; have z2 := hD2.free 1; have HD2 := Lib.hid hD2; have HROW2 := Lib.hid hrow2; have HG2 := Lib.hid hg2; have HB2 := Lib.hid hbl2; clear hrow2 hg2 hat2 hbl2 hD2 HROW1) | (at_builtin; refine wpList_append_files rfl _ _ rfl w.heap.size (.slice (some ⟨w.heap.size, 0, none⟩) 0 0) 0 [] rfl HO.out ⟨q, 0, none⟩ k (k + 1) m1 rfl HL1.out HR1.out HF1.out (by omega) (by simp) ?_; intro v1 w1 hrow1 hg1 hat1; rw [HE1.out, Nat.zero_add] at hrow1; have hbk : ∀ i, i < w.heap.size → w1.heap[i]? = w.heap[i]? := (fun i hi => (hg1.block i (by simp; omega) (by simp [Value.ownBlock]; omega)).trans (Below.heap_alloc _ _ _ hi)); have hD1 := HH.out.of_block (hbk r hrl); have k1 := hD1.cells.2.1; have HD1 := Lib.hid hD1; have HROW1 := Lib.hid hrow1; have HG1 := Lib.hid hg1; obtain ⟨A1, c1', hv1, hbl1⟩ := row_form hrow1; subst hv1; have HB1 := Lib.hid (fun i hi => (hbl1 i hi).1); have HRR := Lib.hid (HR2.out w1 (hbk q hq)); clear hrow1 hg1 hat1 hD1 hbl1 HO hbk))
    go_end0
    have f1 : Fr [] w w1 := ((Fr.refl [] w).alloc _).grown HG1.out (fun i hi => by cases hi; exact .inr (Nat.le_refl _))
    have f2 : Fr [] w w2 := f1.grown HG2.out (fun i hi => .inr (HB1.out i hi))
    exact ⟨rfl, turned_end f2 hrl HD2.out HROW2.out HB2.out (by rw [List.length_append, HL1.out, HL2.out]; omega)⟩
  · have HR3 := Lib.hid (show ∀ w1 : World, w1.heap[q]? = w.heap[q]? → RdF3 w1 ⟨q, (k + 1) * 3, none⟩ (m.drop (k + 1)) from fun w1 hb => HR2.out.of_block hb)
    clear HR2
    have HR2 := Lib.hid HR3.out
    clear HR3
    generalize m.take k = m1 at *
    generalize m.drop (k + 1) = m2 at *
    go_enter Tryz.func112, Tryz.ntmps112
    go_wp2_with (first | (at_builtin; have _ := HROW1; refine wpList_append_files rfl _ _ rfl w.heap.size _ k m1 rfl HROW1.out ⟨q, (k + 1) * 3, none⟩ _ _ m2 rfl HL2.out HRR.out HF2.out (by omega) (by have := HG1.out.size; simp at this; omega) ?_; intro v2 w2 hrow2 hg2 hat2; obtain ⟨A2, c2', hv2, hbl2⟩ := row_form hrow2; subst hv2; have hD2 := HD1.out.of_block (hg2.block r (by have := HG1.out.size; simp at this; omega) (by intro e; have := HB1.out r e.symm; omega)); have z1 := hD2.cells.2.1; have z2 := hD2.free 1; have HD2 := Lib.hid hD2; have HROW2 := Lib.hid hrow2; have HG2 := Lib.hid hg2; have HB2 := Lib.hid hbl2; clear hrow2 hg2 hat2 hbl2 hD2 HROW1) | (at_builtin; refine wpList_append_files rfl _ _ rfl w.heap.size (.slice (some ⟨w.heap.size, 0, none⟩) 0 0) 0 [] rfl HO.out ⟨q, 0, none⟩ k cap m1 rfl HL1.out HR1.out HF1.out (by omega) (by simp) ?_; intro v1 w1 hrow1 hg1 hat1; rw [HE1.out, Nat.zero_add] at hrow1; have hbk : ∀ i, i < w.heap.size → w1.heap[i]? = w.heap[i]? := (fun i hi => (hg1.block i (by simp; omega) (by simp [Value.ownBlock]; omega)).trans (Below.heap_alloc _ _ _ hi)); have hD1 := HH.out.of_block (hbk r hrl); have k1 := hD1.cells.2.1; have HD1 := Lib.hid hD1; have HROW1 := Lib.hid hrow1; have HG1 := Lib.hid hg1; obtain ⟨A1, c1', hv1, hbl1⟩ := row_form hrow1; subst hv1; have HB1 := Lib.hid (fun i hi => (hbl1 i hi).1); have HRR := Lib.hid (HR2.out w1 (hbk q hq)); clear hrow1 hg1 hat1 hD1 hbl1 HO hbk))
    go_end0
    have f1 : Fr [] w w1 := ((Fr.refl [] w).alloc _).grown HG1.out (fun i hi => by cases hi; exact .inr (Nat.le_refl _))
    have f2 : Fr [] w w2 := f1.grown HG2.out (fun i hi => .inr (HB1.out i hi))
    exact ⟨rfl, turned_end f2 hrl HD2.out HROW2.out HB2.out (by rw [List.length_append, HL1.out, HL2.out])⟩
end Go.Proofs.YtejphnbhcabchaaGreat.Dk

namespace Go.Proofs.YtejphnbhcabchaaGreat.Dk
open Go.RowKit Go.Proofs.YtejphnbhcabchaaGreat.Fld

def Still (w w' : World) : Prop := w'.heap = w.heap ∧ w'.os = w.os ∧ w'.tape = w.tape ∧ w'.output = w.output
theorem Still.refl (w : World) : Still w w := ⟨rfl, rfl, rfl, rfl⟩
theorem Still.trans {a b c : World} (h : Still a b) (k : Still b c) : Still a c := ⟨k.1.trans h.1, k.2.1.trans h.2.1, k.2.2.1.trans h.2.2.1, k.2.2.2.trans h.2.2.2⟩
theorem Still.drew {a b : World} (h : Still a b) : Still a b.drew := h
theorem Still.drewN {a b : World} (h : Still a b) (n : Nat) : Still a (b.drewN n) := by
  exact h
theorem Still.cell {w w' : World} (h : Still w w') (a : Addr) : w'.cell? a = w.cell? a := by
  unfold World.cell?
  rw [h.1]
theorem less_before : ∀ a b : Nm, Op.bytesLess a b = bytesBefore a b
  | [], [] => rfl
  | _ :: _, [] => rfl
  | [], _ :: _ => rfl
  | a :: x, b :: y => by simp only [Op.bytesLess, bytesBefore, less_before x y]
/-- where a file belongs -/
theorem ins_at (e : Ent) : ∀ (m : List Ent) (k : Nat), k ≤ m.length → (∀ j (hj : j < m.length), j < k → bytesBefore m[j].nm e.nm = true) → (∀ hk : k < m.length, bytesBefore m[k].nm e.nm = false) → (∀ a ∈ m, a.nm ≠ e.nm) → ins Ent.nm e m = m.take k ++ (e :: m.drop k)
  | [], k, hk, _, _, _ => by simp at hk; subst hk; rfl
  | y :: r, 0, _, _, h2, h3 => by
    have h := h2 (by simp)
    simp only [List.getElem_cons_zero] at h
    have hb : bytesBefore e.nm y.nm = true := by
      rcases WideAt.bytes_total e.nm y.nm (fun h => h3 y (by simp) h.symm) with h4 | h4
      · exact h4
      · rw [h] at h4; cases h4
    rw [ins, if_pos hb]
    rfl
  | y :: r, k + 1, hk, h1, h2, h3 => by
    have h := h1 0 (by simp) (by omega)
    simp only [List.getElem_cons_zero] at h
    rw [ins, if_neg (by rw [before_asym h]; simp)]
    rw [ins_at e r k (by simpa using hk) (fun j hj hjk => by have := h1 (j + 1) (by simp; omega) (by omega); simpa using this) (fun hk2 => by have := h2 (by simp; omega); simpa using this) (fun a ha => h3 a (by simp [ha]))]
    rfl
def PutR (W : World) (m : List Ent) (x : Nm) (i : Value) (wr : World) : Prop := ∃ k : Nat, k ≤ m.length ∧ i = .int .i64 (k : Int) ∧ (∀ j (hj : j < m.length), j < k → bytesBefore m[j].nm x = true) ∧ Still W wr
theorem ent_row (W : World) (e : Ent) {EA : Option Addr} {en ecap : Nat} (hv : e.v = .slice EA en ecap) : RdF3 (W.alloc (.cells #[.string ⟨e.nm.toArray⟩, .slice EA en ecap, .int .i64 (e.s : Int)] 85)) ⟨W.heap.size, 0, none⟩ [e] := by
  intro j u hu
  have hN := heap_alloc_new W (.cells #[.string ⟨e.nm.toArray⟩, .slice EA en ecap, .int .i64 (e.s : Int)] 85)
  have ea : (⟨W.heap.size, 0, none⟩ : Addr).add j = ⟨W.heap.size, j, none⟩ := by simp [Addr.add]; omega
  rw [ea, cell_of_row _ _ j _ _ (0, 0) hN, ← hu]
  simp only [rowOf, List.flatMap_cons, List.flatMap_nil, List.append_nil, cells3, hv]
  rw [← Array.getElem?_toList]
theorem ent_next {w1 : World} {base n : Nat} {v : Value} {xs : List Value} (h : w1.ownsRow base 85 3 v n xs) (e : Ent) {EA : Option Addr} {en ecap : Nat} (_ : e.v = .slice EA en ecap) : (w1.alloc (.cells #[.string ⟨e.nm.toArray⟩, .slice EA en ecap, .int .i64 (e.s : Int)] 85)).ownsRow base 85 3 v n xs := by
  refine ⟨h.1, ?_⟩
  rcases h.2 with h | ⟨q, cap, cur, hv, hg, hq, r⟩
  · exact .inl h
  · exact .inr ⟨q, cap, cur, hv, hg, (Below.heap_alloc _ _ _ (Array.getElem?_eq_some_iff.1 hq).1).trans hq, r⟩
theorem turned_end0 {w w2 : World} {r : Nat} {room fl al : Int} {down : Bool} {A A' : Option Addr} {n n' cap cap' : Nat} {m : List Ent} (hf : Fr [] w w2) (hrl : r < w.heap.size) (hD : Dsr w2 r room A n cap fl al down)
    (hrow : w2.ownsRow 0 85 3 (.slice A' n' cap') n' (rowOf m)) (hb : ∀ i, (Value.slice A' n' cap').ownBlock = some i → w.heap.size ≤ i ∧ i < w2.heap.size) (hn : m.length = n') :
    Turned w r room fl al down m (w2.setCell ⟨r, 1, none⟩ (.slice A' n' cap')) := by
  refine ⟨A', n', cap', hD.set1 A' n' cap', ?_, fun i hi => ⟨(hb i hi).1, by have := (hb i hi).2; simpa [World.setCell] using this⟩, (hf.mono (by simp)).setCell _ (.inl (by simp)) _⟩
  rw [hn]
  exact row_of_block hrow fun i hi => Below.heap_setCell _ _ _ _ (by have := (hb i hi).1; simp; omega)
/-- what the end of put needs, of any world that is as the one behind the box -/
theorem put_facts {w W wq : World} {r q cap k : Nat} {room fl al : Int} {down : Bool} {m : List Ent} {cs : Array Value} (hst : Still W wq) (hb : Below w.heap.size w W) (hk : k ≤ m.length)
    (hD : Dsr W r room (some ⟨q, 0, none⟩) m.length cap fl al down) (hN : W.heap[w.heap.size]? = some (.cells cs 85 (0, 0))) (hr : ∀ j, j ≤ m.length → RdF3 W ⟨q, j * 3, none⟩ (m.drop j)) :
    Dsr wq r room (some ⟨q, 0, none⟩) m.length cap fl al down ∧ wq.heap[w.heap.size]? = some (.cells cs 85 (0, 0)) ∧ RdF3 (wq.alloc (.cells #[] 85)) ⟨q, 0, none⟩ (m.take k) ∧
    RdF3 wq ⟨q, k * 3, none⟩ (m.drop k) ∧ Fr [] w wq := by
  have hrd : ∀ j, j ≤ m.length → RdF3 wq ⟨q, j * 3, none⟩ (m.drop j) := fun j hj => (hr j hj).of_block (by rw [hst.1])
  refine ⟨hD.of_block (by rw [hst.1]), (by rw [hst.1]; exact hN), ?_, hrd k hk, ⟨hst.2.1.trans hb.os, hst.2.2.1.trans hb.tape, hst.2.2.2.trans hb.output, by rw [hst.1]; exact hb.size, fun i hi _ => by rw [hst.1]; exact hb.block i hi⟩⟩
  intro j u hu
  refine cell_past ?_ _
  have := hrd 0 (by omega) j u
  simp only [Nat.zero_mul, List.drop_zero] at this
  refine this ?_
  have e : rowOf m = rowOf (m.take k) ++ rowOf (m.drop k) := by rw [← rowOf_append, List.take_append_drop]
  rw [e, List.getElem?_append_left]
  · exact hu
  · exact (List.getElem?_eq_some_iff.1 hu).1
set_option maxRecDepth 100000 in
set_option maxHeartbeats 3200000 in
theorem put_some (r q cap : Nat) (room fl al : Int) (down : Bool) (m : List Ent) (e : Ent) (w : World) (h : Dsr w r room (some ⟨q, 0, none⟩) m.length cap fl al down) (hq : q < w.heap.size) (hc : m.length ≤ cap) (hm : m.length ≤ 1000000) (hfl : Flat m) (he : Flat [e]) (hne : ∀ a ∈ m, a.nm ≠ e.nm)
    (hr : ∀ j, j ≤ m.length → RdF3 w ⟨q, j * 3, none⟩ (m.drop j)) :
    Calls Tryz.prog 49 #[.pointer (some ⟨r, 0, none⟩), .agg #[.string ⟨e.nm.toArray⟩, e.v, .int .i64 (e.s : Int)]] w fun en w' => en = .returned (.tuple #[]) ∧ Turned w r room fl al down (ins Ent.nm e m) w' := by
  obtain ⟨EA, en, ecap, hev⟩ := he e (by simp)
  have hname : ∀ k (hk : k < m.length), w.cell? ⟨q, k * 3, none⟩ = some (.string ⟨m[k].nm.toArray⟩) := by
    intro k hk
    have := hr k (by omega) 0 (.string ⟨m[k].nm.toArray⟩) (by rw [List.drop_eq_getElem_cons hk]; rfl)
    simpa [Addr.add] using this
  rw [hev]
  have HEV := Lib.hid hev
  obtain ⟨W, hW⟩ : ∃ W, W = w.alloc (.cells #[.string ⟨e.nm.toArray⟩, .slice EA en ecap, .int .i64 (e.s : Int)] 85) := ⟨_, rfl⟩
  have hbW : Below w.heap.size w W := by rw [hW]; exact (Below.refl _ _).alloc (Nat.le_refl _) _
  have HD := Lib.hid (h.of_block (hbW.block r h.lt))
  have hN : W.heap[w.heap.size]? = some (.cells #[.string ⟨e.nm.toArray⟩, .slice EA en ecap, .int .i64 (e.s : Int)] 85 (0, 0)) := by rw [hW]; exact heap_alloc_new w _
  have HN := Lib.hid hN
  have HNM := Lib.hid (fun k hk => (World.cell?_of_block (w := w) (hbW.block q hq)).trans (hname k hk))
  have HRF := Lib.hid (fun j hj => (hr j hj).of_block (w' := W) (hbW.block q hq))
  have HBW := Lib.hid hbW
  have hrl := h.lt
  subst hW
  clear h hr hname hbW hN hev
  go_enter Tryz.func49, Tryz.ntmps49
  go_wp2
  go_loopw [4] (fun i wr => PutR (w.alloc (.cells #[.string ⟨e.nm.toArray⟩, .slice EA en ecap, .int .i64 (e.s : Int)] 85)) m e.nm i wr) (fun i _ => m.length - (intOf i).toNat)
  case atStart => exact ⟨0, Nat.zero_le _, rfl, fun j hj h => by omega, Still.refl _⟩
  case round =>
    obtain ⟨k, hk, rfl, hall, hst⟩ := hrel
    have hDr := HD.out.of_block (w' := wr) (by rw [hst.1])
    have hNr := (show wr.heap[w.heap.size]? = _ from by rw [hst.1]).trans HN.out
    have k0 := cell_of_row wr w.heap.size 0 _ _ (0, 0) hNr
    have k1 := cell_of_row wr w.heap.size 1 _ _ (0, 0) hNr
    have k2 := cell_of_row wr w.heap.size 2 _ _ (0, 0) hNr
    obtain ⟨c0, c1, c2, c3, c4⟩ := hDr.cells
    have HA := Lib.hid hall
    have HST := Lib.hid hst
    clear hall
    have hcase : (k < m.length ∧ cap ≠ k ∧ ∃ x, wr.cell? ⟨q, k * 3, none⟩ = some (.string ⟨x.toArray⟩) ∧ Op.bytesLess x e.nm = true ∧ ∀ j (hj : j < m.length), j < k + 1 → bytesBefore m[j].nm e.nm = true) ∨
        ((∀ hk : k < m.length, bytesBefore m[k].nm e.nm = false) ∧ ((k < m.length ∧ cap ≠ k ∧ ∃ x, wr.cell? ⟨q, k * 3, none⟩ = some (.string ⟨x.toArray⟩) ∧ Op.bytesLess x e.nm = false) ∨ (k = m.length ∧ cap = k) ∨ (k = m.length ∧ cap ≠ k))) := by
      by_cases hlt : k < m.length
      · have hnm : wr.cell? ⟨q, k * 3, none⟩ = some (.string ⟨m[k].nm.toArray⟩) := (Still.cell hst _).trans (HNM.out k hlt)
        cases hb : bytesBefore m[k].nm e.nm with
        | true =>
          refine .inl ⟨hlt, by omega, m[k].nm, hnm, by rw [less_before]; exact hb, fun j hj h => ?_⟩
          rcases Nat.lt_or_eq_of_le (Nat.le_of_lt_succ h) with h1 | h1
          · exact HA.out j hj h1
          · subst h1; exact hb
        | false => exact .inr ⟨fun _ => hb, .inl ⟨hlt, by omega, m[k].nm, hnm, by rw [less_before]; exact hb⟩⟩
      · have hkl : k = m.length := by omega
        by_cases hck : cap = k
        · exact .inr ⟨fun h => absurd h hlt, .inr (.inl ⟨hkl, hck⟩)⟩
        · exact .inr ⟨fun h => absurd h hlt, .inr (.inr ⟨hkl, hck⟩)⟩
    rcases hcase with ⟨hlt, hck, x, hnm, hls, hall2⟩ | ⟨hstop, hcase⟩
    · have HA2 := Lib.hid hall2
      have d1 : decide ((k : Int) < (m.length : Int)) = true := by simp; omega
      clear hst hDr hall2
      generalize e.nm = y at *
      go_wp2_with fail
      go_quiet (fail)
      go_wp2
      go_roundw
      case rel => exact ⟨k + 1, by omega, by go_num, HA2.out, Still.drewN HST.out _⟩
      case measure => simp [intOf]; omega
    · have HINS := Lib.hid (ins_at e m k hk HA.out hstop hne)
      have d0 : (k < m.length → decide ((k : Int) < (m.length : Int)) = true) ∧ (¬ k < m.length → decide ((k : Int) < (m.length : Int)) = false) := ⟨fun h => by simp; omega, fun h => by simp; omega⟩
      have HF1 := Lib.hid (show Flat (m.take k) from fun e he => hfl e (List.mem_of_mem_take he))
      have HF2 := Lib.hid (show Flat (m.drop k) from fun e he => hfl e (List.mem_of_mem_drop he))
      have HFE := Lib.hid he
      have HL1 := Lib.hid (show (m.take k).length = k by rw [List.length_take]; omega)
      have HL2 := Lib.hid (show (m.drop k).length = m.length - k by rw [List.length_drop])
      clear hst hDr hNr hstop
      rcases hcase with ⟨hlt, hck, x, hnm, hls⟩ | ⟨hkl, hck⟩ | ⟨hkl, hck⟩
      · have d1 := d0.1 hlt
        clear d0
        go_wp2_with fail
        go_quiet (fail)
        have hstq := Still.drewN HST.out nq
        generalize wr.drewN nq = wq at *
        obtain ⟨hDq, hNq, hr1, hr3, hfq⟩ := put_facts (k := k) hstq HBW.out hk HD.out HN.out HRF.out
        have hlw : w.heap.size < wq.heap.size := (Array.getElem?_eq_some_iff.1 hNq).1
        have HDQ := Lib.hid hDq
        have HNQ := Lib.hid hNq
        have HR1 := Lib.hid hr1
        have HFQ := Lib.hid hfq
        have HO := Lib.hid (row_made wq)
        have k1q := hDq.cells.2.1
        have p1 := fun o => cell_past k1q o
        clear hstq hDq hNq hr1 hfq c0 c1 c2 c3 c4 k0 k1 k2 k1q
        generalize m.take k = m1 at *
        generalize m.drop k = m2 at *
        go_wp2_with (first | (at_builtin; have _ := HROW2; refine wpList_append_files rfl _ _ rfl wq.heap.size _ (k + 1) (m1 ++ [e]) rfl HROW2.out ⟨q, k * 3, none⟩ _ _ m2 rfl HL2.out HRR3.out HF2.out (by omega) (by omega) ?_; intro v3 w3 hrow3 hg3 _; obtain ⟨A3, c3', hv3, hbl3⟩ := row_form hrow3; subst hv3; have hD3 := HD2.out.of_block (hg3.block r (by omega) (by intro e; have := HB2.out r e.symm; omega)); have z1 := hD3.cells.2.1; have z2 := hD3.free 1; have HD3 := Lib.hid hD3; have HROW3 := Lib.hid hrow3; have HB3 := Lib.hid hbl3; have HF3 := Lib.hid (HFR2.out.grown hg3 (fun i hi => .inr (by have := HB2.out i hi; omega))); clear hrow3 hg3 hbl3 hD3 HROW2) | (at_builtin; have _ := HROW1; refine wpList_append_files rfl _ _ rfl wq.heap.size _ k m1 rfl HROW1.out ⟨w1.heap.size, 0, none⟩ 1 1 [e] rfl rfl HRE.out HFE.out (by omega) (by simp; omega) ?_; intro v2 w2 hrow2 hg2 _; obtain ⟨A2, c2', hv2, hbl2⟩ := row_form hrow2; subst hv2; have hbk2 : ∀ i, i < wq.heap.size → w2.heap[i]? = w1.heap[i]? := (fun i hi => (hg2.block i (by simp; omega) (by intro e; have := HB1.out i e.symm; omega)).trans (Below.heap_alloc _ _ _ (by omega))); have hD2 := HD1.out.of_block (hbk2 r (by omega)); have y1 := hD2.cells.2.1; have HD2 := Lib.hid hD2; have HROW2 := Lib.hid hrow2; have HB2 := Lib.hid (fun i hi => (hbl2 i hi).1); have hs2 := hg2.size; simp at hs2; have HFR2 := Lib.hid ((HFR1.out.alloc _).grown hg2 (fun i hi => .inr (by have := HB1.out i hi; omega))); have HRR3 := Lib.hid (HRR.out.of_block (hbk2 q (by omega))); clear hrow2 hg2 hbl2 hD2 hbk2 HROW1) | (at_builtin; (refine wpList_append_files rfl _ _ rfl wq.heap.size (.slice (some ⟨wq.heap.size, 0, none⟩) 0 0) 0 [] rfl HO.out ⟨q, 0, none⟩ k cap m1 rfl HL1.out HR1.out HF1.out (by omega) (by simp) ?_; intro v1 w1 hrow1 hg1 _; rw [List.nil_append, Nat.zero_add] at hrow1; have hbk1 : ∀ i, i < wq.heap.size → w1.heap[i]? = wq.heap[i]? := (fun i hi => (hg1.block i (by simp; omega) (by simp [Value.ownBlock]; omega)).trans (Below.heap_alloc _ _ _ hi)); have hs1 := hg1.size; simp at hs1; have hD1 := HDQ.out.of_block (hbk1 r (by omega)); have x1 := hD1.cells.2.1; have xp := fun o => cell_past x1 o; have hN1 := (hbk1 w.heap.size hlw).trans HNQ.out; have b0 := cell_of_row w1 w.heap.size 0 _ _ (0, 0) hN1; have b1 := cell_of_row w1 w.heap.size 1 _ _ (0, 0) hN1; have b2 := cell_of_row w1 w.heap.size 2 _ _ (0, 0) hN1; have HD1 := Lib.hid hD1; obtain ⟨A1, c1', hv1, hbl1⟩ := row_form hrow1; subst hv1; have HROW1 := Lib.hid (ent_next hrow1 e HEV.out); have HRE := Lib.hid (ent_row w1 e HEV.out); have HB1 := Lib.hid (fun i hi => (hbl1 i hi).1); have HFR1 := Lib.hid ((HFQ.out.alloc _).grown hg1 (fun i hi => by cases hi; exact .inr (show w.heap.size ≤ wq.heap.size by omega))); have HRR := Lib.hid (hr3.of_block (hbk1 q (by omega))); clear hrow1 hg1 hbl1 hD1 hN1 hbk1 HO)))
        go_end0
        refine ⟨rfl, ?_⟩
        rw [HINS.out, show m1 ++ e :: m2 = m1 ++ [e] ++ m2 by simp]
        exact turned_end0 HF3.out hrl HD3.out (row_zero HROW3.out) (fun i hi => ⟨by have := (HB3.out i hi).1; omega, (HB3.out i hi).2⟩) (by rw [List.length_append, List.length_append, HL1.out, HL2.out]; rfl)
      · have d1 := d0.2 (by omega)
        have d2 : decide (k < m.length) = false := decide_eq_false (by omega)
        have HDN := Lib.hid (show m.drop k = [] from List.drop_eq_nil_of_le (by omega))
        clear d0 hkl
        go_wp2_with fail
        go_quiet (fail)
        have hstq := Still.drewN HST.out nq
        generalize wr.drewN nq = wq at *
        obtain ⟨hDq, hNq, hr1, hr3, hfq⟩ := put_facts (k := k) hstq HBW.out hk HD.out HN.out HRF.out
        replace hr3 : RdF3 wq ⟨q, 0, none⟩ (m.drop k) := by rw [HDN.out]; intro j u hu; simp [rowOf] at hu
        have hlw : w.heap.size < wq.heap.size := (Array.getElem?_eq_some_iff.1 hNq).1
        have HDQ := Lib.hid hDq
        have HNQ := Lib.hid hNq
        have HR1 := Lib.hid hr1
        have HFQ := Lib.hid hfq
        have HO := Lib.hid (row_made wq)
        have k1q := hDq.cells.2.1
        have p1 := fun o => cell_past k1q o
        clear hstq hDq hNq hr1 hfq c0 c1 c2 c3 c4 k0 k1 k2 k1q
        generalize m.take k = m1 at *
        generalize m.drop k = m2 at *
        go_wp2_with (first | (at_builtin; have _ := HROW2; refine wpList_append_files rfl _ _ rfl wq.heap.size _ (k + 1) (m1 ++ [e]) rfl HROW2.out ⟨q, 0, none⟩ _ _ m2 rfl HL2.out HRR3.out HF2.out (by omega) (by omega) ?_; intro v3 w3 hrow3 hg3 _; obtain ⟨A3, c3', hv3, hbl3⟩ := row_form hrow3; subst hv3; have hD3 := HD2.out.of_block (hg3.block r (by omega) (by intro e; have := HB2.out r e.symm; omega)); have z1 := hD3.cells.2.1; have z2 := hD3.free 1; have HD3 := Lib.hid hD3; have HROW3 := Lib.hid hrow3; have HB3 := Lib.hid hbl3; have HF3 := Lib.hid (HFR2.out.grown hg3 (fun i hi => .inr (by have := HB2.out i hi; omega))); clear hrow3 hg3 hbl3 hD3 HROW2) | (at_builtin; have _ := HROW1; refine wpList_append_files rfl _ _ rfl wq.heap.size _ k m1 rfl HROW1.out ⟨w1.heap.size, 0, none⟩ 1 1 [e] rfl rfl HRE.out HFE.out (by omega) (by simp; omega) ?_; intro v2 w2 hrow2 hg2 _; obtain ⟨A2, c2', hv2, hbl2⟩ := row_form hrow2; subst hv2; have hbk2 : ∀ i, i < wq.heap.size → w2.heap[i]? = w1.heap[i]? := (fun i hi => (hg2.block i (by simp; omega) (by intro e; have := HB1.out i e.symm; omega)).trans (Below.heap_alloc _ _ _ (by omega))); have hD2 := HD1.out.of_block (hbk2 r (by omega)); have y1 := hD2.cells.2.1; have HD2 := Lib.hid hD2; have HROW2 := Lib.hid hrow2; have HB2 := Lib.hid (fun i hi => (hbl2 i hi).1); have hs2 := hg2.size; simp at hs2; have HFR2 := Lib.hid ((HFR1.out.alloc _).grown hg2 (fun i hi => .inr (by have := HB1.out i hi; omega))); have HRR3 := Lib.hid (HRR.out.of_block (hbk2 q (by omega))); clear hrow2 hg2 hbl2 hD2 hbk2 HROW1) | (at_builtin; (refine wpList_append_files rfl _ _ rfl wq.heap.size (.slice (some ⟨wq.heap.size, 0, none⟩) 0 0) 0 [] rfl HO.out ⟨q, 0, none⟩ k _ m1 rfl HL1.out HR1.out HF1.out (by omega) (by simp) ?_; intro v1 w1 hrow1 hg1 _; rw [List.nil_append, Nat.zero_add] at hrow1; have hbk1 : ∀ i, i < wq.heap.size → w1.heap[i]? = wq.heap[i]? := (fun i hi => (hg1.block i (by simp; omega) (by simp [Value.ownBlock]; omega)).trans (Below.heap_alloc _ _ _ hi)); have hs1 := hg1.size; simp at hs1; have hD1 := HDQ.out.of_block (hbk1 r (by omega)); have x1 := hD1.cells.2.1; have xp := fun o => cell_past x1 o; have hN1 := (hbk1 w.heap.size hlw).trans HNQ.out; have b0 := cell_of_row w1 w.heap.size 0 _ _ (0, 0) hN1; have b1 := cell_of_row w1 w.heap.size 1 _ _ (0, 0) hN1; have b2 := cell_of_row w1 w.heap.size 2 _ _ (0, 0) hN1; have HD1 := Lib.hid hD1; obtain ⟨A1, c1', hv1, hbl1⟩ := row_form hrow1; subst hv1; have HROW1 := Lib.hid (ent_next hrow1 e HEV.out); have HRE := Lib.hid (ent_row w1 e HEV.out); have HB1 := Lib.hid (fun i hi => (hbl1 i hi).1); have HFR1 := Lib.hid ((HFQ.out.alloc _).grown hg1 (fun i hi => by cases hi; exact .inr (show w.heap.size ≤ wq.heap.size by omega))); have HRR := Lib.hid (hr3.of_block (hbk1 q (by omega))); clear hrow1 hg1 hbl1 hD1 hN1 hbk1 HO)))
        go_end0
        refine ⟨rfl, ?_⟩
        rw [HINS.out, show m1 ++ e :: m2 = m1 ++ [e] ++ m2 by simp]
        exact turned_end0 HF3.out hrl HD3.out (row_zero HROW3.out) (fun i hi => ⟨by have := (HB3.out i hi).1; omega, (HB3.out i hi).2⟩) (by rw [List.length_append, List.length_append, HL1.out, HL2.out]; rfl)
      · have d1 := d0.2 (by omega)
        have d2 : decide (k < m.length) = false := decide_eq_false (by omega)
        clear d0 hkl
        go_wp2_with fail
        go_quiet (fail)
        have hstq := Still.drewN HST.out nq
        generalize wr.drewN nq = wq at *
        obtain ⟨hDq, hNq, hr1, hr3, hfq⟩ := put_facts (k := k) hstq HBW.out hk HD.out HN.out HRF.out
        have hlw : w.heap.size < wq.heap.size := (Array.getElem?_eq_some_iff.1 hNq).1
        have HDQ := Lib.hid hDq
        have HNQ := Lib.hid hNq
        have HR1 := Lib.hid hr1
        have HFQ := Lib.hid hfq
        have HO := Lib.hid (row_made wq)
        have k1q := hDq.cells.2.1
        have p1 := fun o => cell_past k1q o
        clear hstq hDq hNq hr1 hfq c0 c1 c2 c3 c4 k0 k1 k2 k1q
        generalize m.take k = m1 at *
        generalize m.drop k = m2 at *
        go_wp2_with (first | (at_builtin; have _ := HROW2; refine wpList_append_files rfl _ _ rfl wq.heap.size _ (k + 1) (m1 ++ [e]) rfl HROW2.out ⟨q, k * 3, none⟩ _ _ m2 rfl HL2.out HRR3.out HF2.out (by omega) (by omega) ?_; intro v3 w3 hrow3 hg3 _; obtain ⟨A3, c3', hv3, hbl3⟩ := row_form hrow3; subst hv3; have hD3 := HD2.out.of_block (hg3.block r (by omega) (by intro e; have := HB2.out r e.symm; omega)); have z1 := hD3.cells.2.1; have z2 := hD3.free 1; have HD3 := Lib.hid hD3; have HROW3 := Lib.hid hrow3; have HB3 := Lib.hid hbl3; have HF3 := Lib.hid (HFR2.out.grown hg3 (fun i hi => .inr (by have := HB2.out i hi; omega))); clear hrow3 hg3 hbl3 hD3 HROW2) | (at_builtin; have _ := HROW1; refine wpList_append_files rfl _ _ rfl wq.heap.size _ k m1 rfl HROW1.out ⟨w1.heap.size, 0, none⟩ 1 1 [e] rfl rfl HRE.out HFE.out (by omega) (by simp; omega) ?_; intro v2 w2 hrow2 hg2 _; obtain ⟨A2, c2', hv2, hbl2⟩ := row_form hrow2; subst hv2; have hbk2 : ∀ i, i < wq.heap.size → w2.heap[i]? = w1.heap[i]? := (fun i hi => (hg2.block i (by simp; omega) (by intro e; have := HB1.out i e.symm; omega)).trans (Below.heap_alloc _ _ _ (by omega))); have hD2 := HD1.out.of_block (hbk2 r (by omega)); have y1 := hD2.cells.2.1; have HD2 := Lib.hid hD2; have HROW2 := Lib.hid hrow2; have HB2 := Lib.hid (fun i hi => (hbl2 i hi).1); have hs2 := hg2.size; simp at hs2; have HFR2 := Lib.hid ((HFR1.out.alloc _).grown hg2 (fun i hi => .inr (by have := HB1.out i hi; omega))); have HRR3 := Lib.hid (HRR.out.of_block (hbk2 q (by omega))); clear hrow2 hg2 hbl2 hD2 hbk2 HROW1) | (at_builtin; (refine wpList_append_files rfl _ _ rfl wq.heap.size (.slice (some ⟨wq.heap.size, 0, none⟩) 0 0) 0 [] rfl HO.out ⟨q, 0, none⟩ k cap m1 rfl HL1.out HR1.out HF1.out (by omega) (by simp) ?_; intro v1 w1 hrow1 hg1 _; rw [List.nil_append, Nat.zero_add] at hrow1; have hbk1 : ∀ i, i < wq.heap.size → w1.heap[i]? = wq.heap[i]? := (fun i hi => (hg1.block i (by simp; omega) (by simp [Value.ownBlock]; omega)).trans (Below.heap_alloc _ _ _ hi)); have hs1 := hg1.size; simp at hs1; have hD1 := HDQ.out.of_block (hbk1 r (by omega)); have x1 := hD1.cells.2.1; have xp := fun o => cell_past x1 o; have hN1 := (hbk1 w.heap.size hlw).trans HNQ.out; have b0 := cell_of_row w1 w.heap.size 0 _ _ (0, 0) hN1; have b1 := cell_of_row w1 w.heap.size 1 _ _ (0, 0) hN1; have b2 := cell_of_row w1 w.heap.size 2 _ _ (0, 0) hN1; have HD1 := Lib.hid hD1; obtain ⟨A1, c1', hv1, hbl1⟩ := row_form hrow1; subst hv1; have HROW1 := Lib.hid (ent_next hrow1 e HEV.out); have HRE := Lib.hid (ent_row w1 e HEV.out); have HB1 := Lib.hid (fun i hi => (hbl1 i hi).1); have HFR1 := Lib.hid ((HFQ.out.alloc _).grown hg1 (fun i hi => by cases hi; exact .inr (show w.heap.size ≤ wq.heap.size by omega))); have HRR := Lib.hid (hr3.of_block (hbk1 q (by omega))); clear hrow1 hg1 hbl1 hD1 hN1 hbk1 HO)))
        go_end0
        refine ⟨rfl, ?_⟩
        rw [HINS.out, show m1 ++ e :: m2 = m1 ++ [e] ++ m2 by simp]
        exact turned_end0 HF3.out hrl HD3.out (row_zero HROW3.out) (fun i hi => ⟨by have := (HB3.out i hi).1; omega, (HB3.out i hi).2⟩) (by rw [List.length_append, List.length_append, HL1.out, HL2.out]; rfl)
end Go.Proofs.YtejphnbhcabchaaGreat.Dk

namespace Go.Proofs.YtejphnbhcabchaaGreat.Dk
open Go.RowKit Go.Proofs.YtejphnbhcabchaaGreat.Fld

theorem wpList_append_nofile {w : World} {ops : Array Oper} {rest : List Oper} {o : Oper} {a : Act} {Q : Exit → Act → World → Prop} (hgd : o.guard = none) (s x : Operand)
    (ho : o.op = .call { callee := .builtin .append, args := #[s, x], argTypes := #[55, 55] })
    (base : Nat) (v : Value) (n1 : Nat) (xs : List Value) (hs : a.eval s = v) (hown : w.ownsRow base 85 3 v n1 xs) (hx : a.eval x = .slice none 0 0)
    (h : wpList Tryz.prog ops Q rest (a.put o.dst v) w) : wpList Tryz.prog ops Q (o :: rest) a w := by
  obtain ⟨i, hi, hz, hsz, hby⟩ := file_info
  exact wpList_append_own_none hgd s x _ ho base 85 i 3 Tryz.underlying55 hi v _ _ hs hown hx h
set_option maxRecDepth 100000 in
set_option maxHeartbeats 3200000 in
theorem put_nil (r : Nat) (room fl al : Int) (down : Bool) (e : Ent) (w : World) (h : Dsr w r room none 0 0 fl al down) (he : Flat [e]) :
    Calls Tryz.prog 49 #[.pointer (some ⟨r, 0, none⟩), .agg #[.string ⟨e.nm.toArray⟩, e.v, .int .i64 (e.s : Int)]] w fun en w' => en = .returned (.tuple #[]) ∧ Turned w r room fl al down [e] w' := by
  obtain ⟨EA, en, ecap, hev⟩ := he e (by simp)
  rw [hev]
  have HEV := Lib.hid hev
  have HFE := Lib.hid he
  have hrl := h.lt
  obtain ⟨c0, c1, c2, c3, c4⟩ := h.cells
  have p1 := fun o => cell_past c1 o
  have HD := Lib.hid h
  clear h hev
  go_enter Tryz.func49, Tryz.ntmps49
  go_wp2
  go_loopw [4] (fun i wr => i = .int .i64 0 ∧ Still (w.alloc (.cells #[.string ⟨e.nm.toArray⟩, .slice EA en ecap, .int .i64 (e.s : Int)] 85)) wr) (fun _ _ => 0)
  case atStart => exact ⟨rfl, Still.refl _⟩
  case round =>
    obtain ⟨rfl, hst⟩ := hrel
    have hb : Below w.heap.size w (w.alloc (.cells #[.string ⟨e.nm.toArray⟩, .slice EA en ecap, .int .i64 (e.s : Int)] 85)) := (Below.refl _ _).alloc (Nat.le_refl _) _
    have hDr := HD.out.of_block (w' := wr) (by rw [hst.1]; exact hb.block r hrl)
    have k1 := hDr.cells.2.1
    have HST := Lib.hid hst
    have HB := Lib.hid hb
    clear hst hDr hb c0 c1 c2 c3 c4 p1
    go_wp2_with fail
    go_quiet (fail)
    have hstq := Still.drewN HST.out nq
    generalize wr.drewN nq = wq at *
    have hDq := HD.out.of_block (w' := wq) (by rw [hstq.1]; exact HB.out.block r hrl)
    have hNq := (show wq.heap[w.heap.size]? = _ from by rw [hstq.1]).trans (heap_alloc_new w (.cells #[.string ⟨e.nm.toArray⟩, .slice EA en ecap, .int .i64 (e.s : Int)] 85))
    have hfq : Fr [] w wq := ⟨hstq.2.1.trans HB.out.os, hstq.2.2.1.trans HB.out.tape, hstq.2.2.2.trans HB.out.output, by rw [hstq.1]; exact HB.out.size, fun i hi _ => by rw [hstq.1]; exact HB.out.block i hi⟩
    have hlw : w.heap.size < wq.heap.size := (Array.getElem?_eq_some_iff.1 hNq).1
    have HDQ := Lib.hid hDq
    have HFQ := Lib.hid hfq
    have HO := Lib.hid (row_made wq)
    have kq := hDq.cells.2.1
    have p1 := fun o => cell_past kq o
    have b0 := fun o => cell_past (cell_of_row wq w.heap.size 0 _ _ (0, 0) hNq) o
    have b1 := fun o => cell_past (cell_of_row wq w.heap.size 1 _ _ (0, 0) hNq) o
    have b2 := fun o => cell_past (cell_of_row wq w.heap.size 2 _ _ (0, 0) hNq) o
    clear hstq hDq hNq hfq k1
    have hre := ent_row (wq.alloc (.cells #[] 85)) e HEV.out
    rw [size_up] at hre
    have HRE := Lib.hid hre
    have HO2 := Lib.hid (ent_next HO.out e HEV.out)
    clear hre
    go_wp2_with (first | (at_builtin; have _ := HROW2; refine wpList_append_nofile rfl _ _ rfl wq.heap.size _ 1 _ rfl HROW2.out rfl ?_; have HA3 := HROW2) | (at_builtin; have _ := HA1; refine wpList_append_files rfl _ _ rfl wq.heap.size (.slice (some ⟨wq.heap.size, 0, none⟩) 0 0) 0 [] rfl HO2.out ⟨wq.heap.size + 1, 0, none⟩ 1 1 [e] rfl rfl HRE.out HFE.out (by omega) (by simp; omega) ?_; intro v2 w2 hrow2 hg2 _; rw [List.nil_append, Nat.zero_add] at hrow2; obtain ⟨A2, c2', hv2, hbl2⟩ := row_form hrow2; subst hv2; have hs2 := hg2.size; simp at hs2; have hD2 := HDQ.out.of_block ((hg2.block r (by simp; omega) (by simp [Value.ownBlock]; omega)).trans ((Below.heap_alloc _ _ _ (by simp; omega)).trans (Below.heap_alloc _ _ _ (by omega)))); have y1 := hD2.cells.2.1; have z2 := hD2.free 1; have HD2 := Lib.hid hD2; have HROW2 := Lib.hid hrow2; have HB2 := Lib.hid hbl2; have HFR2 := Lib.hid (((HFQ.out.alloc _).alloc _).grown hg2 (fun i hi => by cases hi; exact .inr (show w.heap.size ≤ wq.heap.size by omega))); clear hrow2 hg2 hbl2 hD2) | (at_builtin; refine wpList_append_nofile rfl _ _ rfl wq.heap.size _ 0 _ rfl HO.out rfl ?_; have HA1 := HO))
    go_end0
    exact ⟨rfl, turned_end0 HFR2.out hrl HD2.out (row_zero HROW2.out) (fun i hi => ⟨by have := (HB2.out i hi).1; omega, (HB2.out i hi).2⟩) rfl⟩
end Go.Proofs.YtejphnbhcabchaaGreat.Dk

namespace Go.Proofs.YtejphnbhcabchaaGreat.Dk
open Go.RowKit Go.Proofs.YtejphnbhcabchaaGreat.Fld

def chgN (ok : Bool) (t : St) : Int × St := if ok then chg t else (1, t)
set_option maxRecDepth 100000 in
set_option maxHeartbeats 3200000 in
theorem change_any (r : Nat) (lv : Value) (t : St) (s u : ByteArray) (w : World) (h : DsrT w r lv t) (hf : ∀ k, t.fail = some k → k ≤ 9223372036854775807) (ha : ∀ k, t.arm = some k → k ≤ 9223372036854775807) (hs : s.size ≤ maxLen) (hu : u.size ≤ maxLen) :
    Calls Tryz.prog 47 #[.pointer (some ⟨r, 0, none⟩), .string s, .string u] w fun e w' => e = .returned (.int .i64 (chgN (okN s.data.toList && okN u.data.toList) t).1) ∧ DsrT w' r lv (chgN (okN s.data.toList && okN u.data.toList) t).2 ∧ Fr [r] w w' := by
  have HS := Lib.hid (isname_any s w hs)
  have HU := Lib.hid (isname_any u w hu)
  obtain ⟨A, n, cap, hlv, hd⟩ := h
  have HLV := Lib.hid hlv
  have HD := Lib.hid hd
  obtain ⟨c0, c1, c2, c3, c4⟩ := hd.cells
  have f2 := hd.free 2
  have f3 := hd.free 3
  have f4 := hd.free 4
  clear hd hlv
  generalize okN s.data.toList = o1 at *
  generalize okN u.data.toList = o2 at *
  obtain ⟨room, fs, off, fail, arm⟩ := t
  simp only at c0 c1 c2 c3 c4 hf ha HD
  cases o1
  · go_enter Tryz.func47, Tryz.ntmps47
    go_wp2_with fail
    refine HS.out.mono ?_
    rintro e w' ⟨rfl, rfl⟩
    go_wp2_with fail
    refine HU.out.mono ?_
    rintro e w' ⟨rfl, rfl⟩
    go_wp2
    go_ret
    exact ⟨rfl, ⟨A, n, cap, HLV.out, HD.out⟩, Fr.refl _ _⟩
  cases o2
  · go_enter Tryz.func47, Tryz.ntmps47
    go_wp2_with fail
    refine HS.out.mono ?_
    rintro e w' ⟨rfl, rfl⟩
    go_wp2_with fail
    refine HU.out.mono ?_
    rintro e w' ⟨rfl, rfl⟩
    go_wp2
    go_ret
    exact ⟨rfl, ⟨A, n, cap, HLV.out, HD.out⟩, Fr.refl _ _⟩
  cases off
  · rcases arm with _ | _ | a
    · rcases fail with _ | _ | k
      · go_enter Tryz.func47, Tryz.ntmps47
        go_wp2_with fail
        refine HS.out.mono ?_
        rintro e w' ⟨rfl, rfl⟩
        go_wp2_with fail
        refine HU.out.mono ?_
        rintro e w' ⟨rfl, rfl⟩
        go_wp2
        go_ret
        exact ⟨rfl, ⟨A, n, cap, HLV.out, HD.out⟩, Fr.refl _ _⟩
      · go_enter Tryz.func47, Tryz.ntmps47
        go_wp2_with fail
        refine HS.out.mono ?_
        rintro e w' ⟨rfl, rfl⟩
        go_wp2_with fail
        refine HU.out.mono ?_
        rintro e w' ⟨rfl, rfl⟩
        go_wp2
        go_ret
        exact ⟨rfl, ⟨A, n, cap, HLV.out, HD.out.set2 (-1)⟩, Fr.setCell (Fr.refl _ _) _ (.inl (by simp)) _⟩
      · have hk := hf _ rfl
        have j1 : ((k + 1 : Nat) : Int) = (k : Int) + 1 := by omega
        simp only [sched, j1] at c2
        have j2 : (((k : Int) + 1) == 0) = false := by simp; omega
        have j3 : (0 : Int) < (k : Int) + 1 := by omega
        go_enter Tryz.func47, Tryz.ntmps47
        go_wp2_with fail
        refine HS.out.mono ?_
        rintro e w' ⟨rfl, rfl⟩
        go_wp2_with fail
        refine HU.out.mono ?_
        rintro e w' ⟨rfl, rfl⟩
        go_wp2
        go_ret
        exact ⟨rfl, ⟨A, n, cap, HLV.out, HD.out.set2 _⟩, Fr.setCell (Fr.refl _ _) _ (.inl (by simp)) _⟩
    · go_enter Tryz.func47, Tryz.ntmps47
      go_wp2_with fail
      refine HS.out.mono ?_
      rintro e w' ⟨rfl, rfl⟩
      go_wp2_with fail
      refine HU.out.mono ?_
      rintro e w' ⟨rfl, rfl⟩
      go_wp2
      go_ret
      exact ⟨rfl, ⟨A, n, cap, HLV.out, (HD.out.set3 (-1)).set4 true⟩, Fr.setCell (Fr.setCell (Fr.refl _ _) _ (.inl (by simp)) _) _ (.inl (by simp)) _⟩
    · have hka := ha _ rfl
      have j1 : ((a + 1 : Nat) : Int) = (a : Int) + 1 := by omega
      simp only [sched, j1] at c3
      have j2 : (((a : Int) + 1) == 0) = false := by simp; omega
      have j3 : (0 : Int) < (a : Int) + 1 := by omega
      rcases fail with _ | _ | k
      · go_enter Tryz.func47, Tryz.ntmps47
        go_wp2_with fail
        refine HS.out.mono ?_
        rintro e w' ⟨rfl, rfl⟩
        go_wp2_with fail
        refine HU.out.mono ?_
        rintro e w' ⟨rfl, rfl⟩
        go_wp2
        go_ret
        exact ⟨rfl, ⟨A, n, cap, HLV.out, HD.out.set3 _⟩, Fr.setCell (Fr.refl _ _) _ (.inl (by simp)) _⟩
      · go_enter Tryz.func47, Tryz.ntmps47
        go_wp2_with fail
        refine HS.out.mono ?_
        rintro e w' ⟨rfl, rfl⟩
        go_wp2_with fail
        refine HU.out.mono ?_
        rintro e w' ⟨rfl, rfl⟩
        go_wp2
        go_ret
        exact ⟨rfl, ⟨A, n, cap, HLV.out, (HD.out.set3 _).set2 (-1)⟩, Fr.setCell (Fr.setCell (Fr.refl _ _) _ (.inl (by simp)) _) _ (.inl (by simp)) _⟩
      · have hk := hf _ rfl
        have j4 : ((k + 1 : Nat) : Int) = (k : Int) + 1 := by omega
        simp only [sched, j4] at c2
        have j5 : (((k : Int) + 1) == 0) = false := by simp; omega
        have j6 : (0 : Int) < (k : Int) + 1 := by omega
        go_enter Tryz.func47, Tryz.ntmps47
        go_wp2_with fail
        refine HS.out.mono ?_
        rintro e w' ⟨rfl, rfl⟩
        go_wp2_with fail
        refine HU.out.mono ?_
        rintro e w' ⟨rfl, rfl⟩
        go_wp2
        go_ret
        exact ⟨rfl, ⟨A, n, cap, HLV.out, (HD.out.set3 _).set2 _⟩, Fr.setCell (Fr.setCell (Fr.refl _ _) _ (.inl (by simp)) _) _ (.inl (by simp)) _⟩
  · go_enter Tryz.func47, Tryz.ntmps47
    go_wp2_with fail
    refine HS.out.mono ?_
    rintro e w' ⟨rfl, rfl⟩
    go_wp2_with fail
    refine HU.out.mono ?_
    rintro e w' ⟨rfl, rfl⟩
    go_wp2
    go_ret
    exact ⟨rfl, ⟨A, n, cap, HLV.out, HD.out⟩, Fr.refl _ _⟩
end Go.Proofs.YtejphnbhcabchaaGreat.Dk

namespace Go.Proofs.YtejphnbhcabchaaGreat.Dk
open Go.RowKit Go.Proofs.YtejphnbhcabchaaGreat.Fld

def RLeft (w : World) (r : Nat) (lv : Value) (m : List Ent) (t : St) (w' : World) : Prop := ∃ lv' m', Rf w' r lv' m' t ∧ Fr (r :: lv.ownBlock.toList) w w' ∧ ∀ i ∈ rfoot r lv' m', i ∈ rfoot r lv m ∨ w.heap.size ≤ i
def RDid (w : World) (r : Nat) (lv : Value) (m : List Ent) (q : Int × St) (e : Ending) (w' : World) : Prop := e = .returned (.int .i64 q.1) ∧ RLeft w r lv m q.2 w'
theorem RLeft.same {w : World} {r : Nat} {lv : Value} {m : List Ent} {t : St} (h : Rf w r lv m t) : RLeft w r lv m t w := ⟨lv, m, h, Fr.refl _ _, fun _ hi => .inl hi⟩
theorem RLeft.after {w w1 w' : World} {r : Nat} {lv : Value} {m : List Ent} {t : St} (hf : Fr [r] w w1) (h : RLeft w1 r lv m t w') : RLeft w r lv m t w' := by
  obtain ⟨lv', m', h1, h2, h3⟩ := h
  refine ⟨lv', m', h1, (hf.mono (by simp)).same h2, fun i hi => ?_⟩
  rcases h3 i hi with h | h
  · exact .inl h
  · exact .inr (Nat.le_trans hf.size h)
theorem Rf.flat {w : World} {r : Nat} {lv : Value} {m : List Ent} {t : St} (h : Rf w r lv m t) : Flat m := by
  intro e he
  obtain ⟨A, cap, hv, _⟩ := h.byt e he
  exact ⟨A, _, cap, hv⟩
/-- schedules may have changed -/
theorem Rf.scheds {w w' : World} {r : Nat} {lv : Value} {m : List Ent} {t t' : St} (h : Rf w r lv m t) (hd : DsrT w' r lv t') (hf : Fr [r] w w') (hfs : t'.fs = t.fs) (hr : t'.room = t.room) (hfl : ∀ k, t'.fail = some k → k ≤ 9223372036854775807) (hal : ∀ k, t'.arm = some k → k ≤ 9223372036854775807) : Rf w' r lv m t' := by
  obtain ⟨n1, n2⟩ := h.ne
  refine ⟨hd, row_of_block h.row (fun i hi => hf.block i (h.lt.2 i hi) (by simp; rintro rfl; exact n1 hi)), fun e he => ?_, by rw [hfs]; exact h.fs, ?_, h.ne, hfl, hal, fun i hi => Nat.lt_of_lt_of_le (h.bl i hi) hf.size⟩
  · obtain ⟨A, cap, hv, hs⟩ := h.byt e he
    refine ⟨A, cap, hv, ?_, hs.2⟩
    obtain ⟨h1, h2, h3, h4⟩ := hs.1
    refine ⟨h1, h2, h3, fun hn => ?_⟩
    obtain ⟨b, off, rfl, hc⟩ := h4 hn
    have hb : b ∈ blks m := mem_blks.2 ⟨e, he, by rw [hv]; rfl⟩
    exact ⟨b, off, rfl, fun i hi => hf.cell (hc i hi) (by simp; exact (n2 b hb).1)⟩
  · exact ⟨by rw [hr]; exact h.good.1, by rw [hr]; exact h.good.2, by rw [hr, hfs]; exact h.good.3, by rw [hfs]; exact h.good.4, by rw [hfs]; exact h.good.5, by rw [hfs]; exact h.good.6, by rw [hfs]; exact h.good.7⟩
theorem chg_fl {t : St} (h : ∀ k, t.fail = some k → k ≤ 9223372036854775807) : ∀ k, (chg t).2.fail = some k → k ≤ 9223372036854775807 := by
  unfold chg
  intro k
  split
  · exact h k
  · split
    · exact h k
    · split
      · intro h; cases h
      · intro hk
        simp only [Option.map_eq_some_iff] at hk
        obtain ⟨j, hj, rfl⟩ := hk
        have := h j hj
        omega
theorem chg_al {t : St} (h : ∀ k, t.arm = some k → k ≤ 9223372036854775807) : ∀ k, (chg t).2.arm = some k → k ≤ 9223372036854775807 := by
  unfold chg
  intro k
  split
  · exact h k
  · split
    · intro h; cases h
    · split <;>
      · intro hk
        simp only [Option.map_eq_some_iff] at hk
        obtain ⟨j, hj, rfl⟩ := hk
        have := h j hj
        omega
/-- change, as a whole -/
theorem change_rf (r : Nat) (lv : Value) (m : List Ent) (t : St) (s u : ByteArray) (w : World) (h : Rf w r lv m t) (hs : s.size ≤ maxLen) (hu : u.size ≤ maxLen) :
    Calls Tryz.prog 47 #[.pointer (some ⟨r, 0, none⟩), .string s, .string u] w fun e w' => e = .returned (.int .i64 (chgN (okN s.data.toList && okN u.data.toList) t).1) ∧ Rf w' r lv m (chgN (okN s.data.toList && okN u.data.toList) t).2 ∧ Fr [r] w w' := by
  refine (change_any r lv t s u w h.dsr h.fl h.al hs hu).mono ?_
  rintro e w' ⟨he, hd, hf⟩
  refine ⟨he, ?_, hf⟩
  unfold chgN at hd ⊢
  generalize (okN s.data.toList && okN u.data.toList) = ok at hd ⊢
  cases ok with
  | false => exact h.scheds hd hf rfl rfl h.fl h.al
  | true => exact h.scheds hd hf (chg_same t).2 (chg_same t).1 (chg_fl h.fl) (chg_al h.al)
/-- files, and the slice that holds them, are others now -/
theorem Rf.turned {w w' : World} {r : Nat} {lv : Value} {m m' : List Ent} {t t' : St} (h : Rf w r lv m t) (hT : Turned w r (t.room : Int) (sched t.fail) (sched t.arm) t.off m' w') (hfs : t'.fs = m'.map Ent.fil) (hg : Good t') (hr : t'.room = t.room) (hfl : t'.fail = t.fail) (hal : t'.arm = t.arm) (hof : t'.off = t.off)
    (hb : ∀ e ∈ m', BytesAt w e ∧ ∀ i, e.v.ownBlock = some i → i < w.heap.size ∧ i ≠ r) (hsub : ∀ i ∈ blks m', i ∈ blks m ∨ w.heap.size ≤ i) : RLeft w r lv m t' w' := by
  obtain ⟨A, n, cap, hD, hrow, hbl, hf⟩ := hT
  refine ⟨.slice A n cap, m', ⟨⟨A, n, cap, rfl, by rw [hr, hfl, hal, hof]; exact hD⟩, hrow, fun e he => (hb e he).1.of_block fun i hi => hf.block i ((hb e he).2 i hi).1 (by simpa using ((hb e he).2 i hi).2), hfs, hg, ⟨fun hh => by have := (hbl r hh).1; have := h.lt.1; omega, ?_⟩, by rw [hfl]; exact h.fl, by rw [hal]; exact h.al, fun i hi => by obtain ⟨e, he, hv⟩ := mem_blks.1 hi; exact Nat.lt_of_lt_of_le ((hb e he).2 i hv).1 hf.size⟩, hf.mono (by simp), ?_⟩
  · intro i hi
    obtain ⟨e, he, hv⟩ := mem_blks.1 hi
    have h2 := (hb e he).2 i hv
    exact ⟨h2.2, fun hh => by have := (hbl i hh).1; omega⟩
  · intro i hi
    simp only [rfoot, List.mem_cons, List.mem_append, Option.mem_toList] at hi ⊢
    rcases hi with hi | hi | hi
    · exact .inl (.inl hi)
    · exact .inr (hbl i hi).1
    · rcases hsub i hi with h1 | h1
      · exact .inl (.inr (.inr h1))
      · exact .inr h1
theorem rfail_any (r : Nat) (lv : Value) (m : List Ent) (t : St) (n : Int) (w : World) (h : Rf w r lv m t) (hn : n ≤ 9223372036854775807) :
    Calls Tryz.prog 16 #[.pointer (some ⟨r, 0, none⟩), .int .i64 n] w (RDid w r lv m (stFail n t)) := by
  have HI := Lib.hid h
  obtain ⟨A, n2, cap, hlv, hd⟩ := h.dsr
  have HD := Lib.hid hd
  have HLV := Lib.hid hlv
  obtain ⟨c0, c1, c2, c3, c4⟩ := hd.cells
  have f2 := hd.free 2
  clear h hd hlv
  by_cases hn0 : n < 0
  · have e1 : stFail n t = (1, t) := by unfold stFail; rw [if_pos hn0]
    rw [e1]
    clear e1
    go_enter Tryz.func16, Tryz.ntmps16
    go_wp2
    go_ret
    exact ⟨rfl, RLeft.same HI.out⟩
  · have e1 : stFail n t = (0, { t with fail := some n.toNat }) := by unfold stFail; rw [if_neg hn0]
    rw [e1]
    have HE := Lib.hid (show ((n.toNat : Nat) : Int) = n by omega)
    clear e1
    go_enter Tryz.func16, Tryz.ntmps16
    go_wp2
    go_ret
    have hf : Fr [r] w (w.setCell ⟨r, 2, none⟩ (.int .i64 n)) := (Fr.refl _ _).setCell _ (.inl (by simp)) _
    refine ⟨rfl, lv, m, HI.out.scheds ⟨A, n2, cap, HLV.out, ?_⟩ hf rfl rfl (fun k hk => by cases hk; omega) HI.out.al, hf.mono (by simp), fun _ hi => .inl hi⟩
    have := HD.out.set2 n
    simp only [sched, HE.out]
    exact this
theorem rarm_any (r : Nat) (lv : Value) (m : List Ent) (t : St) (n : Int) (w : World) (h : Rf w r lv m t) (hn : n ≤ 9223372036854775807) :
    Calls Tryz.prog 18 #[.pointer (some ⟨r, 0, none⟩), .int .i64 n] w (RDid w r lv m (stArm n t)) := by
  have HI := Lib.hid h
  obtain ⟨A, n2, cap, hlv, hd⟩ := h.dsr
  have HD := Lib.hid hd
  have HLV := Lib.hid hlv
  obtain ⟨c0, c1, c2, c3, c4⟩ := hd.cells
  have f3 := hd.free 3
  clear h hd hlv
  by_cases hn0 : n < 0
  · have e1 : stArm n t = (1, t) := by unfold stArm; rw [if_pos hn0]
    rw [e1]
    clear e1
    go_enter Tryz.func18, Tryz.ntmps18
    go_wp2
    go_ret
    exact ⟨rfl, RLeft.same HI.out⟩
  · have e1 : stArm n t = (0, { t with arm := some n.toNat }) := by unfold stArm; rw [if_neg hn0]
    rw [e1]
    have HE := Lib.hid (show ((n.toNat : Nat) : Int) = n by omega)
    clear e1
    go_enter Tryz.func18, Tryz.ntmps18
    go_wp2
    go_ret
    have hf : Fr [r] w (w.setCell ⟨r, 3, none⟩ (.int .i64 n)) := (Fr.refl _ _).setCell _ (.inl (by simp)) _
    refine ⟨rfl, lv, m, HI.out.scheds ⟨A, n2, cap, HLV.out, ?_⟩ hf rfl rfl HI.out.fl (fun k hk => by cases hk; omega), hf.mono (by simp), fun _ hi => .inl hi⟩
    have := HD.out.set3 n
    simp only [sched, HE.out]
    exact this

theorem rdF3_of {w : World} {r q cap : Nat} {m : List Ent} {t : St} (h : Rf w r (.slice (some ⟨q, 0, none⟩) m.length cap) m t) : ∀ j, j ≤ m.length → RdF3 w ⟨q, j * 3, none⟩ (m.drop j) := by
  intro j hj i u hu
  rcases h.row.2 with ⟨hv, _⟩ | ⟨q2, cap2, cur, hv, _, hq, h1, h2, h3, h4⟩
  · cases hv
  · cases hv
    have ea : (⟨q, j * 3, none⟩ : Addr).add i = ⟨q, j * 3 + i, none⟩ := by
      unfold Addr.add
      split
      · rename_i h0; rw [h0]; rfl
      · rfl
    have e : rowOf m = rowOf (m.take j) ++ rowOf (m.drop j) := by rw [← rowOf_append, List.take_append_drop]
    have hl : (rowOf (m.take j)).length = j * 3 := by rw [rowOf_len, List.length_take, Nat.min_eq_left hj]
    have hi : (rowOf m)[j * 3 + i]? = some u := by
      rw [e, List.getElem?_append_right (by omega), hl, Nat.add_sub_cancel_left]
      exact hu
    have hlt := (List.getElem?_eq_some_iff.1 hi).1
    rw [rowOf_len] at hlt
    rw [ea, cell_of_row w q (j * 3 + i) cur _ (0, 0) hq, ← hi, ← h4, List.getElem?_take, if_pos hlt, Array.getElem?_toList]
/-- out, as a whole -/
theorem out_rf (r : Nat) (lv : Value) (m : List Ent) (t : St) (k : Nat) (w : World) (h : Rf w r lv m t) (hm : t.fs.length ≤ 1000000) (hk : k < m.length) :
    Calls Tryz.prog 112 #[.pointer (some ⟨r, 0, none⟩), .int .i64 (k : Int)] w fun e w' => e = .returned (.tuple #[]) ∧ Turned w r (t.room : Int) (sched t.fail) (sched t.arm) t.off (m.take k ++ m.drop (k + 1)) w' := by
  obtain ⟨q, cap, hv, hc, hcm, _⟩ := h.cell k hk
  obtain ⟨A, cap2, hv2, hd, _⟩ := h.form
  rw [hv] at hv2
  cases hv2
  subst hv
  exact out_any r q k cap _ _ _ _ m w hd (h.lt.2 q rfl) hk hc (by rw [h.len]; exact hm) h.flat (rdF3_of h)
/-- put, as a whole -/
theorem put_rf (r : Nat) (lv : Value) (m : List Ent) (t : St) (e : Ent) (w : World) (h : Rf w r lv m t) (hm : t.fs.length ≤ 1000000) (he : Flat [e]) (hne : ∀ a ∈ m, a.nm ≠ e.nm) :
    Calls Tryz.prog 49 #[.pointer (some ⟨r, 0, none⟩), .agg #[.string ⟨e.nm.toArray⟩, e.v, .int .i64 (e.s : Int)]] w fun en w' => en = .returned (.tuple #[]) ∧ Turned w r (t.room : Int) (sched t.fail) (sched t.arm) t.off (ins Ent.nm e m) w' := by
  obtain ⟨A, cap2, hv2, hd, _⟩ := h.form
  rcases h.row.2 with ⟨hv, h0⟩ | ⟨q, cap, cur, hv, _, hq, hc, hcm, _⟩
  · rw [hv] at hv2
    have hm0 : m = [] := List.eq_nil_of_length_eq_zero h0
    subst hm0
    cases hv2
    exact put_nil r _ _ _ _ e w hd he
  · rw [hv] at hv2
    cases hv2
    subst hv
    exact put_some r q _ _ _ _ _ m e w hd (h.lt.2 q rfl) hc (by rw [h.len]; exact hm) h.flat he hne (rdF3_of h)
end Go.Proofs.YtejphnbhcabchaaGreat.Dk

namespace Go.Proofs.YtejphnbhcabchaaGreat.Dk
open Go.RowKit Go.Proofs.YtejphnbhcabchaaGreat.Fld

theorem plc_found {m : List Ent} {s : ByteArray} {e : Ent} (hu : Up Ent.nm m) (hf : found m s = some e) : ∃ k, ∃ hk : k < m.length, plc m s = (k : Int) ∧ m[k] = e := by
  obtain ⟨h1, h2⟩ := get_some hf
  obtain ⟨k, hk, he⟩ := List.getElem_of_mem h1
  refine ⟨k, hk, plc_some hk (by rw [he]; exact h2) ?_, he⟩
  intro j hj hjk hn
  have := hu.inj (List.getElem_mem hj) h1 (hn.trans h2.symm)
  have hlt := List.pairwise_iff_getElem.1 hu j k hj hk hjk
  rw [he, this] at hlt
  exact before_ne hlt rfl
theorem plc_lost {m : List Ent} {s : ByteArray} (hf : found m s = none) : plc m s = -1 := plc_none fun _ hj => get_none hf _ (List.getElem_mem hj)
theorem del_at {m : List Ent} (hu : Up Ent.nm m) (k : Nat) (hk : k < m.length) : del Ent.nm m[k].nm m = m.take k ++ m.drop (k + 1) := by
  have e : m = m.take k ++ (m[k] :: m.drop (k + 1)) := by rw [← List.drop_eq_getElem_cons hk, List.take_append_drop]
  obtain ⟨y, hy⟩ : ∃ y, m[k] = y := ⟨_, rfl⟩
  rw [hy] at e ⊢
  have hp : (m.take k ++ (y :: m.drop (k + 1))).Pairwise fun a b => bytesBefore (Ent.nm a) (Ent.nm b) = true := by rw [← e]; exact hu
  obtain ⟨_, h2, h3⟩ := List.pairwise_append.1 hp
  obtain ⟨h4, _⟩ := List.pairwise_cons.1 h2
  have h5 : del Ent.nm y.nm m = (m.take k ++ (y :: m.drop (k + 1))).filter fun e => !(Ent.nm e == y.nm) := by rw [← e]; rfl
  rw [h5, List.filter_append, List.filter_cons_of_neg (by simp)]
  congr 1
  · rw [List.filter_eq_self]
    intro a ha
    have := before_ne (h3 a ha y (by simp))
    simpa using this
  · rw [List.filter_eq_self]
    intro a ha
    have := before_ne (h4 a ha)
    simpa using fun h => this h.symm
theorem Rf.old {w : World} {r : Nat} {lv : Value} {m : List Ent} {t : St} (h : Rf w r lv m t) {e : Ent} (he : e ∈ m) : BytesAt w e ∧ ∀ i, e.v.ownBlock = some i → i < w.heap.size ∧ i ≠ r :=
  ⟨h.byt e he, fun i hi => ⟨h.bl i (mem_blks.2 ⟨e, he, hi⟩), (h.ne.2 i (mem_blks.2 ⟨e, he, hi⟩)).1⟩⟩
set_option maxRecDepth 100000 in
set_option maxHeartbeats 3200000 in
theorem runl_any (r : Nat) (lv : Value) (m : List Ent) (t : St) (s : ByteArray) (w : World) (h : Rf w r lv m t) (hm : t.fs.length ≤ 1000000) (hs : s.size ≤ maxLen) :
    Calls Tryz.prog 78 #[.pointer (some ⟨r, 0, none⟩), .string s] w (RDid w r lv m (stUnlink s.data.toList t)) := by
  have HC := Lib.hid (change_rf r lv m t s s w h hs hs)
  have HM := Lib.hid hm
  have HUP := Lib.hid h.up
  have HGET := Lib.hid (h.get s)
  unfold stUnlink doing
  simp only [Bool.and_self] at HC
  generalize okN s.data.toList = ok at *
  have hok : (ok = false ∧ chgN ok t = (1, t)) ∨ (ok = true ∧ chgN ok t = chg t) := by cases ok; exact .inl ⟨rfl, rfl⟩; exact .inr ⟨rfl, rfl⟩
  rcases hok with ⟨rfl, he⟩ | ⟨rfl, he⟩
  · rw [he] at HC
    rw [if_neg (by simp)]
    clear he h
    go_enter Tryz.func78, Tryz.ntmps78
    go_wp2_with (go_at_call 47; refine HC.out.mono ?_; rintro e w1 ⟨rfl, hR, hF⟩; have HR := Lib.hid hR; have HF := Lib.hid hF; clear hR hF)
    go_ret
    exact ⟨rfl, (RLeft.same HR.out).after HF.out⟩
  · rw [he] at HC
    rw [if_pos rfl]
    have HSM := Lib.hid (chg_same t)
    clear he h
    by_cases h0 : (chg t).1 = 0
    · rw [if_pos h0]
      rw [h0] at HC
      have HFS := Lib.hid (show (chg t).2.fs.length ≤ 1000000 by rw [HSM.out.2]; exact hm)
      generalize (chg t).2 = t1 at *
      unfold unl1
      cases hf : found m s with
      | none =>
        rw [show fget s.data.toList t1.fs = none by rw [HSM.out.2, HGET.out, hf]; rfl]
        simp only
        have HP := Lib.hid (plc_lost hf)
        have HPL := Lib.hid (fun w1 (hR : Rf w1 r lv m t1) => place_any r lv m t1 s w1 hR HFS.out)
        rw [HP.out] at HPL
        clear h0
        go_enter Tryz.func78, Tryz.ntmps78
        go_wp2_with (first | (go_at_call 47; refine HC.out.mono ?_; rintro e w1 ⟨rfl, hR, hF⟩; have HR := Lib.hid hR; have HF := Lib.hid hF; clear hR hF) | (go_at_call 48; refine (HPL.out _ HR.out).mono ?_; rintro e w2 ⟨rfl, rfl⟩))
        go_ret
        exact ⟨rfl, (RLeft.same HR.out).after HF.out⟩
      | some e =>
        rw [show fget s.data.toList t1.fs = some e.fil by rw [HSM.out.2, HGET.out, hf]; rfl]
        simp only
        obtain ⟨k, hk, hpl, hke⟩ := plc_found HUP.out hf
        have HPL := Lib.hid (fun w1 (hR : Rf w1 r lv m t1) => place_any r lv m t1 s w1 hR HFS.out)
        rw [hpl] at HPL
        have HOUT := Lib.hid (fun w1 (hR : Rf w1 r lv m t1) => out_rf r lv m t1 k w1 hR HFS.out hk)
        have HDEL := Lib.hid (show del Ent.nm s.data.toList m = m.take k ++ m.drop (k + 1) by rw [← (get_some hf).2, ← hke]; exact del_at HUP.out k hk)
        clear h0 hpl
        go_enter Tryz.func78, Tryz.ntmps78
        go_wp2_with (first | (go_at_call 47; refine HC.out.mono ?_; rintro e w1 ⟨rfl, hR, hF⟩; have HR := Lib.hid hR; have HF := Lib.hid hF; clear hR hF) | (go_at_call 48; refine (HPL.out _ HR.out).mono ?_; rintro e w2 ⟨rfl, rfl⟩) | (go_at_call 112; refine (HOUT.out _ HR.out).mono ?_; rintro e w3 ⟨rfl, hT⟩; have HT := Lib.hid hT; clear hT))
        go_ret
        refine ⟨rfl, RLeft.after HF.out (HR.out.turned HT.out ?_ (HR.out.good.del _) rfl rfl rfl rfl ?_ ?_)⟩
        · rw [← HDEL.out, map_del (k1 := Ent.nm) (k2 := Prod.fst) Ent.fil (fun _ => rfl), ← HR.out.fs]
          rfl
        · intro a ha
          rw [← HDEL.out] at ha
          exact HR.out.old (mem_del.1 ha).1
        · intro i hi
          rw [← HDEL.out] at hi
          exact .inl (blks_del hi)
    · rw [if_neg h0]
      have j : ((chg t).1 == 0) = false := by simpa using h0
      rw [show chg t = ((chg t).1, (chg t).2) from rfl]
      generalize (chg t).2 = t1 at *
      generalize (chg t).1 = c at *
      go_enter Tryz.func78, Tryz.ntmps78
      go_wp2_with (go_at_call 47; refine HC.out.mono ?_; rintro e w1 ⟨rfl, hR, hF⟩; have HR := Lib.hid hR; have HF := Lib.hid hF; clear hR hF)
      go_ret
      exact ⟨rfl, (RLeft.same HR.out).after HF.out⟩
end Go.Proofs.YtejphnbhcabchaaGreat.Dk

namespace Go.Proofs.YtejphnbhcabchaaGreat.Dk
open Go.RowKit Go.Proofs.YtejphnbhcabchaaGreat.Fld

theorem rsize_quiet (r : Nat) (lv : Value) (m : List Ent) (t : St) (w : World) (n : Nat) (h : Rf w r lv m t) (hm : t.fs.length ≤ 1000000) : Calls Tryz.prog 30 #[.pointer (some ⟨r, 0, none⟩)] (w.drewN n) fun e w'' => e = .returned (.int .i64 (total t.fs : Nat)) ∧ ∃ k, w'' = w.drewN k :=
  (rsize_any r lv m t (w.drewN n) (h.of_blocks fun i _ => by rw [(Still.drewN (Still.refl w) n).1]) hm).mono fun _ _ ⟨he, hw⟩ => ⟨he, n, hw.symm⟩
theorem RLeft.still {w w' : World} {r : Nat} {lv : Value} {m : List Ent} {t : St} (h : Rf w r lv m t) (hs : Still w w') : RLeft w r lv m t w' :=
  ⟨lv, m, h.of_blocks fun i _ => by rw [hs.1], ⟨hs.2.1, hs.2.2.1, hs.2.2.2, by rw [hs.1]; exact Nat.le_refl _, fun k _ _ => by rw [hs.1]⟩, fun _ hi => .inl hi⟩
set_option maxRecDepth 100000 in
set_option maxHeartbeats 3200000 in
theorem rapp_not (r : Nat) (lv : Value) (m : List Ent) (t : St) (s : ByteArray) (A : Option Addr) (n cap : Nat) (ys : List Int) (w : World) (h : Rf w r lv m t) (hm : t.fs.length ≤ 1000000) (hs : s.size ≤ maxLen) (hn : n ≤ 140737488355328) (hys : ys.length = n)
    (hnot : okN s.data.toList = false ∨ (chg t).1 ≠ 0 ∨ t.room < total t.fs + n) :
    Calls Tryz.prog 22 #[.pointer (some ⟨r, 0, none⟩), .string s, .slice A n cap] w (RDid w r lv m (stAppend s.data.toList ys t)) := by
  have HC := Lib.hid (change_rf r lv m t s s w h hs hs)
  unfold stAppend doing
  simp only [Bool.and_self] at HC
  have hok : (okN s.data.toList = false ∧ chgN (okN s.data.toList) t = (1, t)) ∨ (okN s.data.toList = true ∧ chgN (okN s.data.toList) t = chg t) := by
    cases okN s.data.toList
    · exact .inl ⟨rfl, rfl⟩
    · exact .inr ⟨rfl, rfl⟩
  rcases hok with ⟨hk, he⟩ | ⟨hk, he⟩
  · rw [he] at HC
    rw [hk, if_neg (by simp)]
    clear he h hnot
    go_enter Tryz.func22, Tryz.ntmps22
    go_wp2_with (go_at_call 47; refine HC.out.mono ?_; rintro e w1 ⟨rfl, hR, hF⟩; have HR := Lib.hid hR; have HF := Lib.hid hF; clear hR hF)
    go_ret
    exact ⟨rfl, (RLeft.same HR.out).after HF.out⟩
  · rw [he] at HC
    rw [hk, if_pos rfl]
    have HSM := Lib.hid (chg_same t)
    by_cases h0 : (chg t).1 = 0
    · have hfull : (chg t).2.room < total (chg t).2.fs + n := by
        rw [HSM.out.1, HSM.out.2]
        rcases hnot with h1 | h1 | h1
        · rw [hk] at h1; cases h1
        · exact absurd h0 h1
        · exact h1
      have hroom : total (chg t).2.fs ≤ 16777216 := by rw [HSM.out.2]; exact Nat.le_trans h.good.fits h.good.room2
      rw [if_pos h0]
      rw [h0] at HC
      have hfs : (chg t).2.fs.length ≤ 1000000 := by rw [HSM.out.2]; exact hm
      have happ : app1 s.data.toList ys (chg t).2 = (3, (chg t).2) := by
        unfold app1
        rw [if_pos (by omega)]
      rw [happ]
      clear he h hnot happ
      generalize (chg t).2 = t1 at *
      have HQ := Lib.hid (fun w1 (hR : Rf w1 r lv m t1) k => rsize_quiet r lv m t1 w1 k hR hfs)
      clear HSM h0
      go_enter Tryz.func22, Tryz.ntmps22
      go_wp2_with (go_at_call 47; refine HC.out.mono ?_; rintro e w1 ⟨rfl, hR, hF⟩; have HR := Lib.hid hR; have HF := Lib.hid hF; clear hR hF)
      obtain ⟨LA, lcap, hlv, hd, _⟩ := HR.out.form
      obtain ⟨c0, c1, c2, c3, c4⟩ := hd.cells
      have HQ1 := Lib.hid (HQ.out w1 HR.out)
      clear hd hlv HQ
      generalize total t1.fs = T at *
      generalize t1.room = R at *
      have hw : IntKind.i64.wrap ((T : Int) + (n : Int)) = (T : Int) + (n : Int) := IntWalk.i64_in _ (by omega)
      have hdc : decide ((R : Int) < (T : Int) + (n : Int)) = true := decide_eq_true (by omega)
      go_quiet ((go_at_call 30; exact HQ1.out _))
      go_wp2
      go_ret
      exact ⟨rfl, (RLeft.still HR.out (Still.drewN (Still.refl _) _)).after HF.out⟩
    · rw [if_neg h0]
      have j : ((chg t).1 == 0) = false := by simpa using h0
      rw [show chg t = ((chg t).1, (chg t).2) from rfl]
      clear he h hnot HSM
      generalize (chg t).2 = t1 at *
      generalize (chg t).1 = c at *
      go_enter Tryz.func22, Tryz.ntmps22
      go_wp2_with (go_at_call 47; refine HC.out.mono ?_; rintro e w1 ⟨rfl, hR, hF⟩; have HR := Lib.hid hR; have HF := Lib.hid hF; clear hR hF)
      go_ret
      exact ⟨rfl, (RLeft.same HR.out).after HF.out⟩
end Go.Proofs.YtejphnbhcabchaaGreat.Dk

namespace Go.Proofs.YtejphnbhcabchaaGreat.Dk
open Go.RowKit Go.Proofs.YtejphnbhcabchaaGreat.Fld

theorem rowOf_set (e : Ent) (j : Nat) (v : Value) (hj : j < 3) : ∀ (m : List Ent) (k : Nat) (hk : k < m.length), cells3 e = (cells3 m[k]).set j v → rowOf (m.set k e) = (rowOf m).set (k * 3 + j) v
  | [], k, hk, _ => by simp at hk
  | y :: r, 0, _, h => by
    simp only [List.getElem_cons_zero] at h
    simp only [List.set_cons_zero, rowOf, List.flatMap_cons]
    rw [h, Nat.zero_mul, Nat.zero_add, List.set_append_left _ _ (by simp [cells3]; omega)]
  | y :: r, k + 1, hk, h => by
    simp only [List.getElem_cons_succ] at h
    have ih := rowOf_set e j v hj r k (by simpa using hk) h
    simp only [List.set_cons_succ, rowOf, List.flatMap_cons] at ih ⊢
    rw [ih, List.set_append_right _ _ (by simp [cells3]; omega)]
    congr 2
    simp [cells3]
    omega
theorem row_set {w : World} {q cap : Nat} {m : List Ent} (e : Ent) (k j : Nat) (v : Value) (hj : j < 3) (hk : k < m.length) (hc : cells3 e = (cells3 m[k]).set j v) (h : w.ownsRow 0 85 3 (.slice (some ⟨q, 0, none⟩) m.length cap) m.length (rowOf m)) :
    (w.setCell ⟨q, k * 3 + j, none⟩ v).ownsRow 0 85 3 (.slice (some ⟨q, 0, none⟩) m.length cap) (m.set k e).length (rowOf (m.set k e)) := by
  rcases h.2 with ⟨hv, _⟩ | ⟨q2, cap2, cur, hv, hg, hq, h1, h2, h3, h4⟩
  · cases hv
  · cases hv
    rw [List.length_set]
    refine ⟨by rw [rowOf_len, List.length_set], .inr ⟨q, cap, _, rfl, hg, heap_setCell_same w q (k * 3 + j) cur _ v hq, h1, h2, by simpa using h3, ?_⟩⟩
    rw [rowOf_set e j v hj m k hk hc, ← h4, Array.toList_setIfInBounds, List.take_set]
/-- one file is another now, in the same place -/
theorem Rf.stored {w w' : World} {r q cap : Nat} {m : List Ent} {t t' : St} (h : Rf w r (.slice (some ⟨q, 0, none⟩) m.length cap) m t) (e : Ent) (k j : Nat) (v : Value) (hj : j < 3) (hk : k < m.length) (hc : cells3 e = (cells3 m[k]).set j v) (hn : e.nm = m[k].nm)
    (hw : w'.heap = (w.setCell ⟨q, k * 3 + j, none⟩ v).heap) (hos : w'.os = w.os) (htp : w'.tape = w.tape) (hout : w'.output = w.output) (hfs : t'.fs = fput e.fil t.fs) (hg : Good t') (hr : t'.room = t.room) (hfl : t'.fail = t.fail) (hal : t'.arm = t.arm) (hof : t'.off = t.off)
    (hb : BytesAt w e ∧ ∀ i, e.v.ownBlock = some i → i < w.heap.size ∧ i ≠ r ∧ i ≠ q) : Rf w' r (.slice (some ⟨q, 0, none⟩) m.length cap) (m.set k e) t' ∧ Fr [q] w w' := by
  obtain ⟨n1, n2⟩ := h.ne
  have hqr : r ≠ q := fun hh => n1 (by rw [hh]; rfl)
  have hother : ∀ i, i ≠ q → w'.heap[i]? = w.heap[i]? := fun i hi => by rw [hw]; exact Below.heap_setCell _ _ _ _ hi
  have hsz : w'.heap.size = w.heap.size := by rw [hw]; simp [World.setCell]
  have hall : ∀ a ∈ m.set k e, BytesAt w a ∧ ∀ i, a.v.ownBlock = some i → i < w.heap.size ∧ i ≠ r ∧ i ≠ q := by
    intro a ha
    rcases List.mem_or_eq_of_mem_set ha with ha | rfl
    · have h1 := h.old ha
      refine ⟨h1.1, fun i hi => ⟨(h1.2 i hi).1, (h1.2 i hi).2, fun hh => ?_⟩⟩
      exact (n2 i (mem_blks.2 ⟨a, ha, hi⟩)).2 (by rw [hh]; rfl)
    · exact hb
  refine ⟨⟨?_, ?_, fun a ha => (hall a ha).1.of_block fun i hi => hother i ((hall a ha).2 i hi).2.2, ?_, hg, ⟨n1, ?_⟩, by rw [hfl]; exact h.fl, by rw [hal]; exact h.al, ?_⟩, ⟨hos, htp, hout, by omega, fun i _ hi => hother i (by simpa using hi)⟩⟩
  · obtain ⟨A, n, cap2, hv, hd⟩ := h.dsr
    exact ⟨A, n, cap2, hv, by rw [hr, hfl, hal, hof]; exact hd.of_block (hother r hqr)⟩
  · have := row_set e k j v hj hk hc h.row
    obtain ⟨h1, h2⟩ := this
    refine ⟨h1, ?_⟩
    rcases h2 with h2 | ⟨q2, c2, cur, hv, hg2, hq2, r2⟩
    · exact .inl h2
    · exact .inr ⟨q2, c2, cur, hv, hg2, by rw [hw]; exact hq2, r2⟩
  · rw [hfs, h.fs, ← put_at h.up e k hk hn.symm]
    exact (map_put (k1 := Ent.nm) (k2 := Prod.fst) Ent.fil (fun _ => rfl) _ _).symm
  · intro i hi
    obtain ⟨a, ha, hv⟩ := mem_blks.1 hi
    have h2 := (hall a ha).2 i hv
    exact ⟨h2.2.1, fun hh => h2.2.2 (by cases hh; rfl)⟩
  · intro i hi
    obtain ⟨a, ha, hv⟩ := mem_blks.1 hi
    rw [hsz]
    exact ((hall a ha).2 i hv).1
theorem set_foot {r q cap n : Nat} {m : List Ent} {e : Ent} {k : Nat} {N : Nat} (hb : ∀ i, e.v.ownBlock = some i → i ∈ blks m ∨ N ≤ i) : ∀ i ∈ rfoot r (.slice (some ⟨q, 0, none⟩) n cap) (m.set k e), i ∈ rfoot r (.slice (some ⟨q, 0, none⟩) n cap) m ∨ N ≤ i := by
  intro i hi
  simp only [rfoot, List.mem_cons, List.mem_append] at hi ⊢
  rcases hi with hi | hi | hi
  · exact .inl (.inl hi)
  · exact .inl (.inr (.inl hi))
  · obtain ⟨a, ha, hv⟩ := mem_blks.1 hi
    rcases List.mem_or_eq_of_mem_set ha with ha | rfl
    · exact .inl (.inr (.inr (mem_blks.2 ⟨a, ha, hv⟩)))
    · rcases hb i hv with h | h
      · exact .inl (.inr (.inr h))
      · exact .inr h
/-- what Sync leaves -/
theorem rsync_end {w : World} {r q cap : Nat} {m : List Ent} {t : St} {s : ByteArray} {e : Ent} (h : Rf w r (.slice (some ⟨q, 0, none⟩) m.length cap) m t) (hf : found m s = some e) (k : Nat) (hk : k < m.length) (hke : m[k] = e) :
    RLeft w r (.slice (some ⟨q, 0, none⟩) m.length cap) m { t with fs := fput (s.data.toList, e.zs, e.zs.length) t.fs } ((w.setCell ⟨q, k * 3 + 2, none⟩ (.int .i64 (e.zs.length : Int))).drew) := by
  obtain ⟨he1, he2⟩ := get_some hf
  have hg : fget s.data.toList t.fs = some e.fil := by rw [h.get, hf]; rfl
  have ho := h.old he1
  have hq : ∀ i, e.v.ownBlock = some i → i ≠ q := fun i hi hh => (h.ne.2 i (mem_blks.2 ⟨e, he1, hi⟩)).2 (by rw [hh]; rfl)
  have h1 := h.stored (w' := (w.setCell ⟨q, k * 3 + 2, none⟩ (.int .i64 (e.zs.length : Int))).drew) (t' := { t with fs := fput (s.data.toList, e.zs, e.zs.length) t.fs }) ⟨s.data.toList, e.v, e.zs, e.zs.length⟩ k 2 (.int .i64 (e.zs.length : Int)) (by omega) hk (by rw [hke]; simp [cells3, he2]) (by rw [hke]; exact he2.symm) rfl rfl rfl rfl rfl (h.good.sync hg) rfl rfl rfl rfl ⟨ho.1, fun i hi => ⟨(ho.2 i hi).1, (ho.2 i hi).2, hq i hi⟩⟩
  exact ⟨_, _, h1.1, h1.2.mono (by simp [Value.ownBlock]), set_foot fun i hi => .inl (mem_blks.2 ⟨e, he1, hi⟩)⟩
set_option maxRecDepth 100000 in
set_option maxHeartbeats 3200000 in
theorem rsync_any (r : Nat) (lv : Value) (m : List Ent) (t : St) (s : ByteArray) (w : World) (h : Rf w r lv m t) (hm : t.fs.length ≤ 1000000) (hs : s.size ≤ maxLen) :
    Calls Tryz.prog 79 #[.pointer (some ⟨r, 0, none⟩), .string s] w (RDid w r lv m (stSync s.data.toList t)) := by
  have HC := Lib.hid (change_rf r lv m t s s w h hs hs)
  have HUP := Lib.hid h.up
  have HGET := Lib.hid (h.get s)
  have hml : m.length ≤ 1000000 := by rw [h.len]; exact hm
  unfold stSync doing
  simp only [Bool.and_self] at HC
  generalize okN s.data.toList = ok at *
  have hok : (ok = false ∧ chgN ok t = (1, t)) ∨ (ok = true ∧ chgN ok t = chg t) := by cases ok; exact .inl ⟨rfl, rfl⟩; exact .inr ⟨rfl, rfl⟩
  rcases hok with ⟨rfl, he⟩ | ⟨rfl, he⟩
  · rw [he] at HC
    rw [if_neg (by simp)]
    clear he h
    go_enter Tryz.func79, Tryz.ntmps79
    go_wp2_with (go_at_call 47; refine HC.out.mono ?_; rintro e w1 ⟨rfl, hR, hF⟩; have HR := Lib.hid hR; have HF := Lib.hid hF; clear hR hF)
    go_ret
    exact ⟨rfl, (RLeft.same HR.out).after HF.out⟩
  · rw [he] at HC
    rw [if_pos rfl]
    have HSM := Lib.hid (chg_same t)
    clear he h
    by_cases h0 : (chg t).1 = 0
    · rw [if_pos h0]
      rw [h0] at HC
      have HFS := Lib.hid (show (chg t).2.fs.length ≤ 1000000 by rw [HSM.out.2]; exact hm)
      generalize (chg t).2 = t1 at *
      have HPL := Lib.hid (fun w1 (hR : Rf w1 r lv m t1) => place_any r lv m t1 s w1 hR HFS.out)
      unfold sync1
      cases hf : found m s with
      | none =>
        rw [show fget s.data.toList t1.fs = none by rw [HSM.out.2, HGET.out, hf]; rfl]
        simp only
        rw [plc_lost hf] at HPL
        clear h0
        go_enter Tryz.func79, Tryz.ntmps79
        go_wp2_with (first | (go_at_call 47; refine HC.out.mono ?_; rintro e w1 ⟨rfl, hR, hF⟩; have HR := Lib.hid hR; have HF := Lib.hid hF; clear hR hF) | (go_at_call 48; refine (HPL.out _ HR.out).mono ?_; rintro e w2 ⟨rfl, rfl⟩))
        go_ret
        exact ⟨rfl, (RLeft.same HR.out).after HF.out⟩
      | some e =>
        rw [show fget s.data.toList t1.fs = some e.fil by rw [HSM.out.2, HGET.out, hf]; rfl]
        simp only
        obtain ⟨k, hk, hpl, hke⟩ := plc_found HUP.out hf
        rw [hpl] at HPL
        have HEND := Lib.hid (fun (w1 : World) (q cap : Nat) (hR : Rf w1 r (.slice (some ⟨q, 0, none⟩) m.length cap) m t1) => rsync_end hR hf k hk hke)
        clear h0 hpl
        generalize hst : ({ t1 with fs := fput (s.data.toList, e.fil.2.1, e.fil.2.1.length) t1.fs } : St) = t' at *
        go_enter Tryz.func79, Tryz.ntmps79
        go_wp2_with (first | (go_at_call 47; refine HC.out.mono ?_; rintro e w1 ⟨rfl, hR, hF⟩; have HR := Lib.hid hR; have HF := Lib.hid hF; clear hR hF) | (go_at_call 48; refine (HPL.out _ HR.out).mono ?_; rintro e w2 ⟨rfl, rfl⟩))
        obtain ⟨q, cap, hv, hc1, hc2, k0, k1, k2, kf⟩ := HR.out.cell k hk
        obtain ⟨A, cap2, hv2, hd, _⟩ := HR.out.form
        rw [hv] at hv2
        cases hv2
        subst hv
        obtain ⟨c0, c1, c2, c3, c4⟩ := hd.cells
        have z2 := kf (k * 3 + 2)
        obtain ⟨BA, bc, hbv, _⟩ := HR.out.byt m[k] (List.getElem_mem hk)
        rw [hbv, hke] at k1
        have HL := Lib.hid (HEND.out w1 q cap HR.out)
        clear kf hd hbv HEND
        go_region
        go_wp2
        go_ret
        subst hst
        exact ⟨rfl, HL.out.after HF.out⟩
    · rw [if_neg h0]
      have j : ((chg t).1 == 0) = false := by simpa using h0
      rw [show chg t = ((chg t).1, (chg t).2) from rfl]
      generalize (chg t).2 = t1 at *
      generalize (chg t).1 = c at *
      go_enter Tryz.func79, Tryz.ntmps79
      go_wp2_with (go_at_call 47; refine HC.out.mono ?_; rintro e w1 ⟨rfl, hR, hF⟩; have HR := Lib.hid hR; have HF := Lib.hid hF; clear hR hF)
      go_ret
      exact ⟨rfl, (RLeft.same HR.out).after HF.out⟩
end Go.Proofs.YtejphnbhcabchaaGreat.Dk

namespace Go.Proofs.YtejphnbhcabchaaGreat.Dk
open Go.RowKit Go.Proofs.YtejphnbhcabchaaGreat.Fld

/-- files, and the slice that holds them, are others now: told by the files -/
theorem Rf.turned2 {w w' : World} {r : Nat} {lv : Value} {m m' : List Ent} {t t' : St} (h : Rf w r lv m t) (hT : Turned w r (t.room : Int) (sched t.fail) (sched t.arm) t.off m' w') (hfs : t'.fs = m'.map Ent.fil) (hg : Good t') (hr : t'.room = t.room) (hfl : t'.fail = t.fail) (hal : t'.arm = t.arm) (hof : t'.off = t.off)
    (hb : ∀ e ∈ m', BytesAt w e ∧ ∀ i, e.v.ownBlock = some i → i < w.heap.size ∧ i ≠ r) : ∃ lv', Rf w' r lv' m' t' ∧ Fr [r] w w' ∧ ∀ i, lv'.ownBlock = some i → w.heap.size ≤ i := by
  obtain ⟨A, n, cap, hD, hrow, hbl, hf⟩ := hT
  refine ⟨.slice A n cap, ⟨⟨A, n, cap, rfl, by rw [hr, hfl, hal, hof]; exact hD⟩, hrow, fun e he => (hb e he).1.of_block fun i hi => hf.block i ((hb e he).2 i hi).1 (by simpa using ((hb e he).2 i hi).2), hfs, hg, ⟨fun hh => by have := (hbl r hh).1; have := h.lt.1; omega, ?_⟩, by rw [hfl]; exact h.fl, by rw [hal]; exact h.al, fun i hi => by obtain ⟨e, he, hv⟩ := mem_blks.1 hi; exact Nat.lt_of_lt_of_le ((hb e he).2 i hv).1 hf.size⟩, hf, fun i hi => (hbl i hi).1⟩
  intro i hi
  obtain ⟨e, he, hv⟩ := mem_blks.1 hi
  have h2 := (hb e he).2 i hv
  exact ⟨h2.2, fun hh => by have := (hbl i hh).1; omega⟩
/-- a file that is there is gone -/
theorem out_step (r : Nat) (lv : Value) (m : List Ent) (t : St) (s : ByteArray) (e : Ent) (w : World) (h : Rf w r lv m t) (hm : t.fs.length ≤ 1000000) (hf : found m s = some e) :
    Calls Tryz.prog 112 #[.pointer (some ⟨r, 0, none⟩), .int .i64 (plc m s)] w fun en w' => en = .returned (.tuple #[]) ∧ ∃ lv', Rf w' r lv' (del Ent.nm s.data.toList m) { t with fs := fdel s.data.toList t.fs } ∧ Fr [r] w w' ∧ ∀ i, lv'.ownBlock = some i → w.heap.size ≤ i := by
  obtain ⟨k, hk, hpl, hke⟩ := plc_found h.up hf
  have hd : del Ent.nm s.data.toList m = m.take k ++ m.drop (k + 1) := by rw [← (get_some hf).2, ← hke]; exact del_at h.up k hk
  rw [hpl]
  refine (out_rf r lv m t k w h hm hk).mono ?_
  rintro en w' ⟨rfl, hT⟩
  rw [← hd] at hT
  refine ⟨rfl, h.turned2 hT ?_ (h.good.del _) rfl rfl rfl rfl fun a ha => h.old (mem_del.1 ha).1⟩
  rw [map_del (k1 := Ent.nm) (k2 := Prod.fst) Ent.fil (fun _ => rfl), ← h.fs]
  rfl
theorem str_back (u : ByteArray) : (⟨u.data.toList.toArray⟩ : ByteArray) = u := by cases u; simp
theorem del_del (m : List Ent) (x y : Nm) : del Ent.nm x (del Ent.nm y m) = del Ent.nm y (del Ent.nm x m) := by
  unfold del
  simp only [List.filter_filter]
  congr 1
  funext a
  cases (a.nm == x) <;> cases (a.nm == y) <;> rfl
theorem ren_comm2 {m : List Ent} (hu : Up Ent.nm m) (x : Nm) (e : Ent) (hx : e.nm ≠ x) : ins Ent.nm e (del Ent.nm e.nm (del Ent.nm x m)) = del Ent.nm x (put Ent.nm e (del Ent.nm e.nm m)) := by
  unfold put
  have h1 : del Ent.nm e.nm (del Ent.nm e.nm m) = del Ent.nm e.nm m := by
    unfold del
    rw [List.filter_filter]
    congr 1
    funext a
    simp
  rw [h1, del_del]
  exact (filter_ins _ e (by simpa using hx) (hu.del _)).symm
/-- the last step of Rename -/
theorem ren_last {w w5 w6 : World} {r : Nat} {lv lv5 : Value} {m : List Ent} {t : St} {s u : ByteArray} {e : Ent} (h : Rf w r lv m t) (hf : found m s = some e) (hne : s.data.toList ≠ u.data.toList) (hu : okN u.data.toList = true)
    (h5 : Rf w5 r lv5 (del Ent.nm u.data.toList (del Ent.nm s.data.toList m)) { t with fs := fdel u.data.toList (fdel s.data.toList t.fs) }) (hfr : Fr [r] w w5)
    (hT : Turned w5 r (t.room : Int) (sched t.fail) (sched t.arm) t.off (ins Ent.nm ⟨u.data.toList, e.v, e.zs, e.s⟩ (del Ent.nm u.data.toList (del Ent.nm s.data.toList m))) w6) :
    RLeft w r lv m { t with fs := fdel s.data.toList (fput (u.data.toList, e.zs, e.s) (fdel u.data.toList t.fs)) } w6 := by
  obtain ⟨he1, he2⟩ := get_some hf
  have hg : fget s.data.toList t.fs = some e.fil := by rw [h.get, hf]; rfl
  have ho := h.old he1
  have hcomm := ren_comm2 h.up s.data.toList ⟨u.data.toList, e.v, e.zs, e.s⟩ (Ne.symm hne)
  have hmem : ∀ a ∈ ins Ent.nm ⟨u.data.toList, e.v, e.zs, e.s⟩ (del Ent.nm u.data.toList (del Ent.nm s.data.toList m)), (a.v = e.v ∧ a.zs = e.zs) ∨ a ∈ m := by
    intro a ha
    rcases mem_ins.1 ha with rfl | ha
    · exact .inl ⟨rfl, rfl⟩
    · exact .inr (mem_del.1 (mem_del.1 ha).1).1
  have hold : ∀ a ∈ ins Ent.nm ⟨u.data.toList, e.v, e.zs, e.s⟩ (del Ent.nm u.data.toList (del Ent.nm s.data.toList m)), BytesAt w5 a ∧ ∀ i, a.v.ownBlock = some i → i < w5.heap.size ∧ i ≠ r := by
    intro a ha
    have h1 : BytesAt w a ∧ ∀ i, a.v.ownBlock = some i → i < w.heap.size ∧ i ≠ r := by
      rcases hmem a ha with ⟨hv, hz⟩ | ha
      · unfold BytesAt
        rw [hv, hz]
        exact ho
      · exact h.old ha
    refine ⟨h1.1.of_block fun i hi => hfr.block i (h1.2 i hi).1 ?_, fun i hi => ⟨Nat.lt_of_lt_of_le (h1.2 i hi).1 hfr.size, (h1.2 i hi).2⟩⟩
    simpa using (h1.2 i hi).2
  have hfs6 : ({ t with fs := fdel s.data.toList (fput (u.data.toList, e.zs, e.s) (fdel u.data.toList t.fs)) } : St).fs = (ins Ent.nm ⟨u.data.toList, e.v, e.zs, e.s⟩ (del Ent.nm u.data.toList (del Ent.nm s.data.toList m))).map Ent.fil := by
    have h7 := congrArg (List.map Ent.fil) hcomm
    refine Eq.trans ?_ h7.symm
    rw [map_del (k1 := Ent.nm) (k2 := Prod.fst) Ent.fil (fun _ => rfl), map_put (k1 := Ent.nm) (k2 := Prod.fst) Ent.fil (fun _ => rfl), map_del (k1 := Ent.nm) (k2 := Prod.fst) Ent.fil (fun _ => rfl), ← h.fs]
    rfl
  obtain ⟨lv6, h6, hf6, hl6⟩ := h5.turned2 (t' := { t with fs := fdel s.data.toList (fput (u.data.toList, e.zs, e.s) (fdel u.data.toList t.fs)) }) hT hfs6 (h.good.ren hg hne hu) rfl rfl rfl rfl hold
  refine ⟨lv6, _, h6, (hfr.same hf6).mono (by simp), ?_⟩
  intro i hi
  simp only [rfoot, List.mem_cons, List.mem_append, Option.mem_toList] at hi ⊢
  rcases hi with hi | hi | hi
  · exact .inl (.inl hi)
  · exact .inr (Nat.le_trans hfr.size (hl6 i hi))
  · obtain ⟨a, ha, hv⟩ := mem_blks.1 hi
    rcases hmem a ha with ⟨h1, _⟩ | ha
    · exact .inl (.inr (.inr (mem_blks.2 ⟨e, he1, by rw [← h1]; exact hv⟩)))
    · exact .inl (.inr (.inr (mem_blks.2 ⟨a, ha, hv⟩)))
theorem fdel_len (fs : List Fil) (x : Nm) : (fdel x fs).length ≤ fs.length := List.length_filter_le _ _
set_option maxRecDepth 100000 in
set_option maxHeartbeats 3200000 in
/-- Rename, where there is such a file and the names are unlike, behind change -/
theorem rren_ok (r : Nat) (lv : Value) (m : List Ent) (t : St) (s u : ByteArray) (e : Ent) (w0 : World) (HC : Calls Tryz.prog 47 #[.pointer (some ⟨r, 0, none⟩), .string s, .string u] w0 fun en w' => en = .returned (.int .i64 0) ∧ Rf w' r lv m t ∧ Fr [r] w0 w') (hm : t.fs.length ≤ 1000000) (_hml : m.length ≤ 1000000)
    (hf : found m s = some e) (hne : s.data.toList ≠ u.data.toList) (hu : okN u.data.toList = true) (hup : Up Ent.nm m) :
    Calls Tryz.prog 80 #[.pointer (some ⟨r, 0, none⟩), .string s, .string u] w0 (RDid w0 r lv m (0, { t with fs := fdel s.data.toList (fput (u.data.toList, e.zs, e.s) (fdel u.data.toList t.fs)) })) := by
  have HC1 := Lib.hid HC
  obtain ⟨k, hk, hpl, hke⟩ := plc_found hup hf
  have HPL := Lib.hid (fun w1 (hR : Rf w1 r lv m t) => place_any r lv m t s w1 hR hm)
  have HOUT := Lib.hid (fun w1 lv (hR : Rf w1 r lv m t) => out_step r lv m t s e w1 hR hm hf)
  rw [hpl] at HPL HOUT
  have hsn := str_neq hne
  have HLAST := Lib.hid (fun w w5 w6 lv5 (h : Rf w r lv m t) h5 hfr hT => ren_last (w := w) (w5 := w5) (w6 := w6) (lv5 := lv5) h hf hne hu h5 hfr hT)
  generalize hst : ({ t with fs := fdel s.data.toList (fput (u.data.toList, e.zs, e.s) (fdel u.data.toList t.fs)) } : St) = t' at *
  clear HC hpl
  go_enter Tryz.func80, Tryz.ntmps80
  go_wp2_with fail
  refine HC1.out.mono ?_
  rintro en w1 ⟨rfl, hR, hF⟩
  have HR := Lib.hid hR
  have HF := Lib.hid hF
  clear hF
  go_wp2_with fail
  refine (HPL.out _ HR.out).mono ?_
  rintro en w2 ⟨rfl, rfl⟩
  obtain ⟨q, cap, hv, hc1, hc2, k0, k1, k2, kf⟩ := hR.cell k hk
  obtain ⟨A, cap2, hv2, hd, _⟩ := hR.form
  rw [hv] at hv2
  cases hv2
  obtain ⟨c0, c1, c2, c3, c4⟩ := hd.cells
  obtain ⟨BA, bc, hbv, _⟩ := hR.byt m[k] (List.getElem_mem hk)
  rw [hke] at hbv k0 k1 k2
  rw [hbv] at k1
  have hki : ¬ ((k : Int) < 0) := by omega
  clear hR kf hd
  have hb2 : Below w1.heap.size w1 (w1.alloc (.cells #[.string ⟨e.nm.toArray⟩, .slice BA e.zs.length bc, .int .i64 (e.s : Int)] 85)) := (Below.refl _ _).alloc (Nat.le_refl _) _
  have hR2 : Rf (w1.alloc (.cells #[.string ⟨e.nm.toArray⟩, .slice BA e.zs.length bc, .int .i64 (e.s : Int)] 85)) r lv m t := HR.out.of_blocks fun i hi => hb2.block i (by
    simp only [rfoot, List.mem_cons, List.mem_append, Option.mem_toList] at hi
    rcases hi with rfl | hi | hi
    · exact HR.out.lt.1
    · exact HR.out.lt.2 i hi
    · exact HR.out.bl i hi)
  have HR2 := Lib.hid hR2
  have HB2 := Lib.hid hb2
  have HBV := Lib.hid hbv
  have hrl := HR.out.lt.1
  clear hR2 hb2 hbv
  go_wp2_with fail
  refine (HOUT.out _ lv HR2.out).mono ?_
  rintro en w3 ⟨rfl, lv3, hR3, hF3, hl3⟩
  have hs3 := hF3.size
  rw [size_up] at hs3
  have hN3 := (hF3.block w1.heap.size (by rw [size_up]; omega) (by simp; omega)).trans (heap_alloc_new w1 _)
  have HR3 := Lib.hid hR3
  have HF3 := Lib.hid hF3
  have HL3 := Lib.hid (show ∀ i, lv3.ownBlock = some i → w1.heap.size < i from fun i hi => by have := hl3 i hi; rw [size_up] at this; omega)
  have HN3 := Lib.hid hN3
  have hm3 : (fdel s.data.toList t.fs).length ≤ 1000000 := Nat.le_trans (fdel_len _ _) hm
  have HPL2 := Lib.hid (place_any r lv3 (del Ent.nm s.data.toList m) _ u w3 hR3 hm3)
  -- what is left to do, from a world in which no file bears the name any more
  have hfin : ∀ (w4 : World) (lv4 : Value), Rf w4 r lv4 (del Ent.nm u.data.toList (del Ent.nm s.data.toList m)) { t with fs := fdel u.data.toList (fdel s.data.toList t.fs) } → Fr [r] w1 w4 → w4.heap[w1.heap.size]? = some (.cells #[.string ⟨e.nm.toArray⟩, .slice BA e.zs.length bc, .int .i64 (e.s : Int)] 85 (0, 0)) → (∀ i, lv4.ownBlock = some i → w1.heap.size < i) →
      Calls Tryz.prog 49 #[.pointer (some ⟨r, 0, none⟩), .agg #[.string u, .slice BA e.zs.length bc, .int .i64 (e.s : Int)]] (w4.setCell ⟨w1.heap.size, 0, none⟩ (.string u)) fun en w6 => en = .returned (.tuple #[]) ∧ RLeft w1 r lv m t' w6 := by
    intro w4 lv4 hR4 hF4 hN4 hl4
    have hF5 : Fr [r] w1 (w4.setCell ⟨w1.heap.size, 0, none⟩ (.string u)) := hF4.setCell _ (.inr (Nat.le_refl _)) _
    have hR5 : Rf (w4.setCell ⟨w1.heap.size, 0, none⟩ (.string u)) r lv4 (del Ent.nm u.data.toList (del Ent.nm s.data.toList m)) { t with fs := fdel u.data.toList (fdel s.data.toList t.fs) } := hR4.of_blocks fun i hi => Below.heap_setCell _ _ _ _ (by
      simp only [rfoot, List.mem_cons, List.mem_append, Option.mem_toList] at hi
      rcases hi with rfl | hi | hi
      · simp; omega
      · have := hl4 i hi; simp; omega
      · have := HR.out.bl i (blks_del (blks_del hi)); simp; omega)
    have h7 := put_rf r lv4 _ _ ⟨u.data.toList, e.v, e.zs, e.s⟩ _ hR5 (Nat.le_trans (fdel_len _ _) hm3) (fun a ha => by simp at ha; subst ha; exact ⟨BA, _, bc, HBV.out⟩) (fun a ha => (mem_del.1 ha).2)
    simp only [str_back, HBV.out] at h7
    refine h7.mono ?_
    rintro en w6 ⟨rfl, hT⟩
    refine ⟨rfl, HLAST.out w1 _ w6 lv4 HR.out hR5 hF5 ?_⟩
    simp only [HBV.out]
    exact hT
  have HFIN := Lib.hid hfin
  clear hfin hR3 hF3 hl3 hN3
  have hF13 : Fr [r] w1 w3 := (Fr.below (S := [r]) HB2.out).same HF3.out
  have HF13 := Lib.hid hF13
  clear hF13
  cases hf2 : found (del Ent.nm s.data.toList m) u with
  | none =>
    rw [plc_lost hf2] at HPL2
    have hdn := del_none hf2
    have HP := Lib.hid (HFIN.out w3 lv3 (by
      rw [hdn]
      have h8 := HR3.out
      have h9 : fdel u.data.toList (fdel s.data.toList t.fs) = fdel s.data.toList t.fs := by
        have := congrArg (List.map Ent.fil) hdn
        rw [map_del (k1 := Ent.nm) (k2 := Prod.fst) Ent.fil (fun _ => rfl), ← HR3.out.fs] at this
        exact this
      rw [h9]
      exact h8) HF13.out HN3.out HL3.out)
    have b0 := cell_of_row w3 w1.heap.size 0 _ _ (0, 0) HN3.out
    have b1 := cell_of_row w3 w1.heap.size 1 _ _ (0, 0) HN3.out
    have b2 := cell_of_row w3 w1.heap.size 2 _ _ (0, 0) HN3.out
    have z0 := frozen_of_row w3 w1.heap.size 0 _ _ HN3.out
    go_wp2_with (first | (go_at_call 48; refine HPL2.out.mono ?_; rintro en w4 ⟨rfl, rfl⟩) | (go_at_call 49; refine HP.out.mono ?_; rintro en w6 ⟨rfl, hL⟩; have HL := Lib.hid hL; clear hL))
    go_ret
    exact ⟨rfl, HL.out.after HF.out⟩
  | some e2 =>
    obtain ⟨k2', hk2', hpl2, _⟩ := plc_found HR3.out.up hf2
    have HOUT2 := Lib.hid (out_step r lv3 _ _ u e2 w3 HR3.out hm3 hf2)
    rw [hpl2] at HPL2 HOUT2
    go_wp2_with (first | (go_at_call 48; refine HPL2.out.mono ?_; rintro en w4 ⟨rfl, rfl⟩) | (go_at_call 112; refine HOUT2.out.mono ?_; rintro en w4 ⟨rfl, lv4, hR4, hF4, hl4⟩; have hN4 := (hF4.block w1.heap.size (by omega) (by simp; omega)).trans HN3.out; have b0 := cell_of_row w4 w1.heap.size 0 _ _ (0, 0) hN4; have b1 := cell_of_row w4 w1.heap.size 1 _ _ (0, 0) hN4; have b2 := cell_of_row w4 w1.heap.size 2 _ _ (0, 0) hN4; have z0 := frozen_of_row w4 w1.heap.size 0 _ _ hN4; have HP := Lib.hid (HFIN.out w4 lv4 hR4 (HF13.out.same hF4) hN4 (fun i hi => by have := hl4 i hi; omega)); clear hR4 hF4 hl4 hN4) | (go_at_call 49; refine HP.out.mono ?_; rintro en w6 ⟨rfl, hL⟩; have HL := Lib.hid hL; clear hL))
    go_ret
    exact ⟨rfl, HL.out.after HF.out⟩
set_option maxRecDepth 100000 in
set_option maxHeartbeats 3200000 in
theorem rren_any (r : Nat) (lv : Value) (m : List Ent) (t : St) (s u : ByteArray) (w : World) (h : Rf w r lv m t) (hm : t.fs.length ≤ 1000000) (hs : s.size ≤ maxLen) (hu : u.size ≤ maxLen) :
    Calls Tryz.prog 80 #[.pointer (some ⟨r, 0, none⟩), .string s, .string u] w (RDid w r lv m (stRename s.data.toList u.data.toList t)) := by
  have HC := Lib.hid (change_rf r lv m t s u w h hs hu)
  have HUP := Lib.hid h.up
  have HGET := Lib.hid (h.get s)
  have hml : m.length ≤ 1000000 := by rw [h.len]; exact hm
  unfold stRename doing
  have hok : ((okN s.data.toList && okN u.data.toList) = false ∧ chgN (okN s.data.toList && okN u.data.toList) t = (1, t)) ∨ ((okN s.data.toList && okN u.data.toList) = true ∧ chgN (okN s.data.toList && okN u.data.toList) t = chg t) := by
    cases (okN s.data.toList && okN u.data.toList)
    · exact .inl ⟨rfl, rfl⟩
    · exact .inr ⟨rfl, rfl⟩
  rcases hok with ⟨hk, he⟩ | ⟨hk, he⟩
  · rw [he] at HC
    rw [hk, if_neg (by simp)]
    clear he h
    go_enter Tryz.func80, Tryz.ntmps80
    go_wp2_with (go_at_call 47; refine HC.out.mono ?_; rintro e w1 ⟨rfl, hR, hF⟩; have HR := Lib.hid hR; have HF := Lib.hid hF; clear hR hF)
    go_ret
    exact ⟨rfl, (RLeft.same HR.out).after HF.out⟩
  · rw [he] at HC
    rw [hk, if_pos rfl]
    have HSM := Lib.hid (chg_same t)
    have hu2 : okN u.data.toList = true := by rw [Bool.and_eq_true] at hk; exact hk.2
    clear he h hk
    by_cases h0 : (chg t).1 = 0
    · rw [if_pos h0]
      rw [h0] at HC
      have hfs : (chg t).2.fs.length ≤ 1000000 := by rw [HSM.out.2]; exact hm
      generalize (chg t).2 = t1 at *
      have HPL := Lib.hid (fun w1 (hR : Rf w1 r lv m t1) => place_any r lv m t1 s w1 hR hfs)
      unfold ren1
      cases hf : found m s with
      | none =>
        rw [show fget s.data.toList t1.fs = none by rw [HSM.out.2, HGET.out, hf]; rfl]
        simp only
        rw [plc_lost hf] at HPL
        clear h0
        go_enter Tryz.func80, Tryz.ntmps80
        go_wp2_with (first | (go_at_call 47; refine HC.out.mono ?_; rintro e w1 ⟨rfl, hR, hF⟩; have HR := Lib.hid hR; have HF := Lib.hid hF; clear hR hF) | (go_at_call 48; refine (HPL.out _ HR.out).mono ?_; rintro e w2 ⟨rfl, rfl⟩))
        go_ret
        exact ⟨rfl, (RLeft.same HR.out).after HF.out⟩
      | some e =>
        rw [show fget s.data.toList t1.fs = some e.fil by rw [HSM.out.2, HGET.out, hf]; rfl]
        simp only
        by_cases hne : s.data.toList = u.data.toList
        · obtain rfl := nm_inj hne
          rw [if_pos rfl]
          obtain ⟨k, hk, hpl, hke⟩ := plc_found HUP.out hf
          rw [hpl] at HPL
          have hsm := str_same' s
          have hki : ¬ ((k : Int) < 0) := by omega
          clear h0 hpl
          go_enter Tryz.func80, Tryz.ntmps80
          go_wp2_with (first | (go_at_call 47; refine HC.out.mono ?_; rintro e w1 ⟨rfl, hR, hF⟩; have HR := Lib.hid hR; have HF := Lib.hid hF; clear hR hF) | (go_at_call 48; refine (HPL.out _ HR.out).mono ?_; rintro e w2 ⟨rfl, rfl⟩))
          go_ret
          exact ⟨rfl, (RLeft.same HR.out).after HF.out⟩
        · rw [if_neg hne]
          exact rren_ok r lv m t1 s u e w HC.out hfs hml hf hne hu2 HUP.out
    · rw [if_neg h0]
      have j : ((chg t).1 == 0) = false := by simpa using h0
      rw [show chg t = ((chg t).1, (chg t).2) from rfl]
      generalize (chg t).2 = t1 at *
      generalize (chg t).1 = c at *
      go_enter Tryz.func80, Tryz.ntmps80
      go_wp2_with (go_at_call 47; refine HC.out.mono ?_; rintro e w1 ⟨rfl, hR, hF⟩; have HR := Lib.hid hR; have HF := Lib.hid hF; clear hR hF)
      go_ret
      exact ⟨rfl, (RLeft.same HR.out).after HF.out⟩
end Go.Proofs.YtejphnbhcabchaaGreat.Dk

namespace Go.Proofs.YtejphnbhcabchaaGreat.Dk
open Go.RowKit Go.Proofs.YtejphnbhcabchaaGreat.Fld
set_option linter.unusedVariables false

set_option maxRecDepth 100000 in
/-- append of whatever bytes to bytes of the call's own, at a step of a region that draws its order -/
theorem step_append_any {w : World} {ops : Array Oper} {o : Oper} {a : Act} {K : Act → World → Prop} {Q : Exit → Act → World → Prop} {E : Prop} (hgd : o.guard = none) (s x : Operand)
    (ho : o.op = .call { callee := .builtin .append, args := #[s, x], argTypes := #[36, 36] })
    (w0 : World) (v : Value) (zs : List Int) (hs : a.eval s = v) (hown : Own w0 w v zs)
    (A : Option Addr) (n c : Nat) (ys : List Int) (hx : a.eval x = .slice A n c) (hA : A = none → c = 0) (hr : Rd w A n ys) (hb : zs.length + n ≤ 140737488355328)
    (h : ∀ v' w', Own w0 w' v' (zs ++ ys) → w.grownBy w' v.ownBlock → K (a.put o.dst v') w') : if Region.wanted o (yielded ops a.tmps) = true then Oper.wp Tryz.prog o a w K Q else E := by
  have hw : Region.wanted o (yielded ops a.tmps) = true := by simp [Region.wanted, hgd]
  rw [if_pos hw]
  obtain ⟨i, hi, hz, hsz, hby⟩ := byte_info
  obtain ⟨hb1, hby1, hrow⟩ := hown
  obtain ⟨hl, hm, hby2, hc⟩ := hr
  have hcat := bytes_append hby1 hby2
  rcases A with _ | ad
  · have hn : n = 0 := by
      rcases Nat.eq_zero_or_pos n with h0 | h0
      · exact h0
      · obtain ⟨b, off, he, _⟩ := hc h0; cases he
    subst hn
    obtain rfl : ys = [] := List.eq_nil_of_length_eq_zero hl
    obtain rfl := hA rfl
    have hrun := run_append_owned_none (P := Tryz.prog) (w := w) w0.heap.size 36 o.type 5 i 1 Tryz.underlying36 hi v _ _ hrow
    unfold Oper.wp execOp
    simp only [ho, resolve, invoke, builtin, Sem.run_bind, Sem.run_pure, Result.andThen_ok, List.map_toArray, List.map_cons, List.map_nil, hs, hx, hrun]
    exact h v w (by rw [List.append_nil]; exact ⟨hb1, hby1, hrow⟩) ⟨rfl, rfl, rfl, Nat.le_refl _, fun _ _ _ => rfl⟩
  · obtain ⟨v', w', hrun, hrow', hg, _, _⟩ := run_append_own_at (P := Tryz.prog) w w0.heap.size 36 o.type 5 i _ 1 1 Tryz.underlying36 hi hz hsz hby rfl (by omega) v _ _ hrow ad n c (by8 ys) (by rw [by8_length]; omega) (by
      intro j u hu
      have hj : j < ys.length := by
        rcases Nat.lt_or_ge j ys.length with hj | hj
        · exact hj
        · rw [List.getElem?_eq_none (by rw [by8_length]; exact hj)] at hu; cases hu
      rw [by8_at ys j hj] at hu
      obtain ⟨b, off, he, hcell⟩ := hc (by omega)
      injection he with he
      subst he
      have := hcell j (by omega)
      rw [← hu, ← this]
      congr 1
      unfold Addr.add
      split <;> simp_all) (by8_one ys) (by unfold maxLen; omega) (by omega) hb1.size
    unfold Oper.wp execOp
    simp only [ho, resolve, invoke, builtin, Sem.run_bind, Sem.run_pure, Result.andThen_ok, List.map_toArray, List.map_cons, List.map_nil, hs, hx, hrun]
    refine h v' w' ⟨hb1.grown hg hb1.size ?_, hcat, ?_⟩ hg
    · intro k hk
      rcases hrow.2 with ⟨rfl, _⟩ | ⟨g, cap, cur, rfl, hg, _⟩
      · simp [Value.ownBlock] at hk
      · simp [Value.ownBlock] at hk; omega
    · rw [List.length_append, hl, by8_append]; exact hrow'

/-- what a call leaves, in whatever blocks of its own -/
def RL2 (w : World) (r : Nat) (lv : Value) (m : List Ent) (t : St) (w' : World) : Prop := ∃ lv' m', Rf w' r lv' m' t ∧ Fr (rfoot r lv m) w w' ∧ ∀ i ∈ rfoot r lv' m', i ∈ rfoot r lv m ∨ w.heap.size ≤ i
def RDid2 (w : World) (r : Nat) (lv : Value) (m : List Ent) (q : Int × St) (e : Ending) (w' : World) : Prop := e = .returned (.int .i64 q.1) ∧ RL2 w r lv m q.2 w'
theorem foot_sub {r : Nat} {lv : Value} {m : List Ent} : ∀ i ∈ r :: lv.ownBlock.toList, i ∈ rfoot r lv m := by
  intro i hi
  simp only [rfoot, List.mem_cons, List.mem_append] at hi ⊢
  rcases hi with hi | hi
  · exact .inl hi
  · exact .inr (.inl hi)
theorem RLeft.two {w w' : World} {r : Nat} {lv : Value} {m : List Ent} {t : St} (h : RLeft w r lv m t w') : RL2 w r lv m t w' := by
  obtain ⟨lv', m', h1, h2, h3⟩ := h
  exact ⟨lv', m', h1, h2.mono foot_sub, h3⟩
theorem RDid.two {w w' : World} {r : Nat} {lv : Value} {m : List Ent} {q : Int × St} {e : Ending} (h : RDid w r lv m q e w') : RDid2 w r lv m q e w' := ⟨h.1, h.2.two⟩
theorem RL2.next {w w1 w' : World} {r : Nat} {lv lv1 : Value} {m m1 : List Ent} {t : St} (hf : Fr (rfoot r lv m) w w1) (hi : ∀ i ∈ rfoot r lv1 m1, i ∈ rfoot r lv m ∨ w.heap.size ≤ i) (h : RL2 w1 r lv1 m1 t w') : RL2 w r lv m t w' := by
  obtain ⟨lv', m', h1, h2, h3⟩ := h
  refine ⟨lv', m', h1, hf.trans h2 hi, fun i h => ?_⟩
  rcases h3 i h with h | h
  · exact hi i h
  · exact .inr (Nat.le_trans hf.size h)
/-- what an Append that is made leaves, from the two appends on -/
theorem rapp_end {w w3 : World} {r q cap : Nat} {m : List Ent} {t : St} {s : ByteArray} {e : Ent} {v2 : Value} {ys : List Int} (h : Rf w r (.slice (some ⟨q, 0, none⟩) m.length cap) m t) (hf : found m s = some e) (k : Nat) (hk : k < m.length) (hke : m[k] = e)
    (hO : Own w w3 v2 (e.zs ++ ys)) (hg : Good { t with fs := fput (s.data.toList, e.zs ++ ys, e.s) t.fs }) :
    RL2 w r (.slice (some ⟨q, 0, none⟩) m.length cap) m { t with fs := fput (s.data.toList, e.zs ++ ys, e.s) t.fs } (w3.setCell ⟨q, k * 3 + 1, none⟩ v2) := by
  obtain ⟨he1, he2⟩ := get_some hf
  have hR3 : Rf w3 r (.slice (some ⟨q, 0, none⟩) m.length cap) m t := h.of_blocks fun i hi => hO.1.block i (by
    simp only [rfoot, List.mem_cons, List.mem_append, Option.mem_toList] at hi
    rcases hi with rfl | hi | hi
    · exact h.lt.1
    · exact h.lt.2 i hi
    · exact h.bl i hi)
  obtain ⟨A2, c2, hv2, hs2, hb2⟩ := hO.sl _ rfl
  have hblk : ∀ i, v2.ownBlock = some i → i < w3.heap.size ∧ w.heap.size ≤ i := by
    intro i hi
    rcases hO.2.2.2 with ⟨hv, _⟩ | ⟨g, cap, cur, hv, hg, hgb, _⟩
    · rw [hv] at hi; cases hi
    · rw [hv] at hi; cases hi; exact ⟨(Array.getElem?_eq_some_iff.1 hgb).1, hg⟩
  have hql := h.lt.2 q rfl
  have h1 := hR3.stored (w' := w3.setCell ⟨q, k * 3 + 1, none⟩ v2) (t' := { t with fs := fput (s.data.toList, e.zs ++ ys, e.s) t.fs }) ⟨s.data.toList, v2, e.zs ++ ys, e.s⟩ k 1 v2 (by omega) hk (by rw [hke]; simp [cells3, he2]) (by rw [hke]; exact he2.symm) rfl rfl rfl rfl rfl hg rfl rfl rfl rfl
    ⟨⟨A2, c2, hv2, hs2⟩, fun i hi => ⟨(hblk i hi).1, by have := (hblk i hi).2; have := h.lt.1; omega, by have := (hblk i hi).2; omega⟩⟩
  refine ⟨_, _, h1.1, ?_, ?_⟩
  · exact (Fr.below (S := rfoot r (.slice (some ⟨q, 0, none⟩) m.length cap) m) hO.1).trans h1.2 (fun i hi => by simp at hi; subst hi; exact .inl (by simp [rfoot, Value.ownBlock]))
  · exact set_foot fun i hi => .inr (hblk i hi).2
theorem rd_frS {S : List Nat} {w w' : World} {A : Option Addr} {n : Nat} {zs : List Int} (h : Rd w A n zs) (hf : Fr S w w') (hA : 0 < n → ∀ a, A = some a → a.block ∉ S) : Rd w' A n zs := by
  obtain ⟨h1, h2, h3, h4⟩ := h
  refine ⟨h1, h2, h3, fun hn => ?_⟩
  obtain ⟨b, off, rfl, hc⟩ := h4 hn
  exact ⟨b, off, rfl, fun i hi => (World.cell?_of_block (w := w) (hf.block b (lt_of_cell (hc i hi)) (hA hn _ rfl))).trans (hc i hi)⟩
theorem del_ins_same {α : Type} (key : α → Nm) (e : α) (x : Nm) (hx : key e = x) : ∀ l : List α, del key x (ins key e l) = del key x l
  | [] => by simp [ins, del, hx]
  | y :: r => by
    unfold ins
    split
    · simp [del, hx]
    · have ih := del_ins_same key e x hx r
      unfold del at ih ⊢
      rw [List.filter_cons, List.filter_cons, ih]
theorem del_twice {α : Type} (key : α → Nm) (x : Nm) (l : List α) : del key x (del key x l) = del key x l := by
  unfold del; rw [List.filter_filter]; congr 1; funext a; simp
theorem fput_fput (x : Nm) (a b : List Int × Nat) (fs : List Fil) : fput (x, b) (fput (x, a) fs) = fput (x, b) fs := by
  unfold fput put
  simp only
  rw [del_ins_same Prod.fst (x, a) x rfl, del_twice]
theorem fget_fput (f : Fil) {fs : List Fil} (h : Up Prod.fst fs) : fget f.1 (fput f fs) = some f := get_mem (h.put f) (mem_fput.2 (.inl rfl))
def newE (s : ByteArray) : Ent := ⟨s.data.toList, .slice none 0 0, [], 0⟩
set_option maxRecDepth 100000 in
set_option maxHeartbeats 6400000 in
theorem rapp_made (r : Nat) (lv : Value) (m : List Ent) (t : St) (s : ByteArray) (A : Option Addr) (n cap : Nat) (ys : List Int) (w : World) (h : Rf w r lv m t) (hm : t.fs.length ≤ 900000) (hs : s.size ≤ maxLen) (hr : Rd w A n ys) (hA : A = none → cap = 0) (hAb : 0 < n → ∀ a, A = some a → a.block ∉ rfoot r lv m)
    (hok : okN s.data.toList = true) (hc0 : (chg t).1 = 0) (hfit : total t.fs + n ≤ t.room) :
    Calls Tryz.prog 22 #[.pointer (some ⟨r, 0, none⟩), .string s, .slice A n cap] w (RDid2 w r lv m (stAppend s.data.toList ys t)) := by
  have HC := Lib.hid (change_rf r lv m t s s w h hs hs)
  have HNL := Lib.hid hr.1
  have hroom : t.room ≤ 16777216 := h.good.room2
  unfold stAppend doing
  simp only [Bool.and_self] at HC
  rw [hok, show chgN true t = chg t from rfl, hc0] at HC
  rw [if_pos hok, if_pos hc0]
  have HSM := Lib.hid (chg_same t)
  have hfit1 : total (chg t).2.fs + n ≤ (chg t).2.room := by rw [HSM.out.1, HSM.out.2]; exact hfit
  have hfs : (chg t).2.fs.length ≤ 900000 := by rw [HSM.out.2]; exact hm
  have hrm : (chg t).2.room ≤ 16777216 := by rw [HSM.out.1]; exact hroom
  have HGET := Lib.hid (show fget s.data.toList (chg t).2.fs = (found m s).map Ent.fil by rw [HSM.out.2]; exact h.get s)
  have HUP := Lib.hid h.up
  have HRR := Lib.hid hr
  have HA := Lib.hid hA
  have HAB := Lib.hid hAb
  have HBY := Lib.hid hr.2.2.1
  have HRL := Lib.hid h.lt.1
  have happ : app1 s.data.toList ys (chg t).2 = (0, { (chg t).2 with fs := appFs s.data.toList ys (chg t).2.fs }) := by
    unfold app1 appFs
    rw [if_neg (by rw [hr.1]; omega)]
    all_goals rfl
  rw [happ]
  clear h hr hA hAb happ HSM hc0 hfit hm hroom
  generalize (chg t).2 = t1 at *
  have HQ := Lib.hid (fun w1 (hR : Rf w1 r lv m t1) k => rsize_quiet r lv m t1 w1 k hR (by omega))
  have HPL := Lib.hid (fun w1 lv m t1 (hR : Rf w1 r lv m t1) (hf : t1.fs.length ≤ 1000000) => place_any r lv m t1 s w1 hR hf)
  go_enter Tryz.func22, Tryz.ntmps22
  go_wp2_with (go_at_call 47; refine HC.out.mono ?_; rintro e w1 ⟨rfl, hR, hF⟩; have HR := Lib.hid hR; have HF := Lib.hid hF; clear hR hF)
  obtain ⟨LA, lcap, hlv, hd, _⟩ := HR.out.form
  obtain ⟨c0, c1, c2, c3, c4⟩ := hd.cells
  have HQ1 := Lib.hid (HQ.out w1 HR.out)
  have HG := Lib.hid HR.out.good
  clear hd hlv HQ
  have HFIT := Lib.hid hfit1
  have HFS := Lib.hid hfs
  generalize hT : total t1.fs = T at *
  generalize hRm : t1.room = R at *
  have hw : IntKind.i64.wrap ((T : Int) + (n : Int)) = (T : Int) + (n : Int) := IntWalk.i64_in _ (by omega)
  have hdc : decide ((R : Int) < (T : Int) + (n : Int)) = false := decide_eq_false (by omega)
  have HT := Lib.hid hT
  have HRM := Lib.hid hRm
  clear hT hRm
  go_quiet ((go_at_call 30; exact HQ1.out _))
  have HR2 := Lib.hid (show Rf (w1.drewN nq) r lv m t1 from HR.out.of_blocks fun i _ => by rw [(Still.drewN (Still.refl w1) nq).1])
  have HF2 := Lib.hid (show Fr [r] w (w1.drewN nq) from HF.out.same ⟨rfl, rfl, rfl, Nat.le_refl _, fun _ _ _ => rfl⟩)
  clear hw hdc c0 c1 c2 c3 c4 HQ1
  generalize w1.drewN nq = wq at *
  cases hfo : found m s with
  | some e =>
    obtain ⟨k, hk, hpl, hke⟩ := plc_found HUP.out hfo
    have HP1 := Lib.hid (HPL.out wq lv m t1 HR2.out (by omega))
    rw [hpl] at HP1
    obtain ⟨wA, hwA⟩ : ∃ wA, wA = wq := ⟨_, rfl⟩
    have HRA := Lib.hid (show Rf wA r lv m t1 by rw [hwA]; exact HR2.out)
    have HFA := Lib.hid (show Fr (rfoot r lv m) w wA by rw [hwA]; exact HF2.out.mono (by simp [rfoot]))
    have HIA := Lib.hid (show ∀ i ∈ rfoot r lv m, i ∈ rfoot r lv m ∨ w.heap.size ≤ i from fun _ hi => .inl hi)
    have HKE := Lib.hid hke
    have HFO := Lib.hid hfo
    have hzl : e.zs.length ≤ 16777216 := by
      have h1 := total_del (f := e.fil) HG.out.up (x := s.data.toList) (by rw [HGET.out, hfo]; rfl)
      have h2 := HT.out
      have h3 : e.fil.2.1.length = e.zs.length := rfl
      omega
    have HGF := Lib.hid (show Good { t1 with fs := fput (s.data.toList, e.zs ++ ys, e.s) t1.fs } by
      have h1 := HG.out.app s.data.toList ys hok HBY.out (by rw [HT.out, HRM.out, HNL.out]; exact HFIT.out)
      unfold appFs at h1
      rw [HGET.out, hfo] at h1
      exact h1)
    have HFIN := Lib.hid (show ({ t1 with fs := fput (s.data.toList, e.zs ++ ys, e.s) t1.fs } : St) = { t1 with fs := appFs s.data.toList ys t1.fs } by unfold appFs; rw [HGET.out, hfo]; rfl)
    have HRQ := Lib.hid (rd_frS HRR.out HFA.out HAB.out)
    have hml : m.length ≤ 900000 := by rw [HRA.out.len]; exact HFS.out
    clear hfo hke hpl
    go_wp2_with (go_at_call 48; refine HP1.out.mono ?_; rintro e w2 ⟨rfl, rfl⟩)
    subst hwA
    obtain ⟨q, qcap, hv, hc1, hc2, k0, k1, k2, kf⟩ := HRA.out.cell k hk
    obtain ⟨A5, cap5, hv5, hd, _⟩ := HRA.out.form
    rw [hv] at hv5
    cases hv5
    subst hv
    obtain ⟨c0, c1, c2, c3, c4⟩ := hd.cells
    have z1 := kf (k * 3 + 1)
    obtain ⟨BA, bc, hbv, hbs⟩ := HRA.out.byt m[k] (List.getElem_mem hk)
    rw [HKE.out] at hbv hbs
    rw [HKE.out, hbv] at k1
    have HBS := Lib.hid hbs
    clear kf hd hbv hbs
    generalize hzl' : e.zs.length = zl at *
    have HZL := Lib.hid hzl'
    clear hzl'
    have HO := Lib.hid (Own.made wA wA (Below.refl _ _)).drew
    have HB1 := Lib.hid (show Below wA.heap.size wA (wA.alloc (.cells #[] 5)).drew from HO.out.1)
    unfold noneBlk at HO
    have hba : Below wA.heap.size wA (wA.alloc (.cells #[] 5)) := (Below.refl _ _).alloc (Nat.le_refl _) _
    have d1 := (hba.cell (lt_of_cell c1)).trans c1
    have d2 := (hba.cell (lt_of_cell k1)).trans k1
    have lc1 := lt_of_cell c1
    have lk1 := lt_of_cell k1
    simp only at lc1 lk1
    have HSB := Lib.hid (HBS.out.below HB1.out)
    clear hba
    have i0 : (0 : Int) ≤ (k : Int) := by omega
    have i1 : (k : Int) < (m.length : Int) := by omega
    go_region_law ((first | (refine step_append_any rfl _ _ rfl wA (.slice (some ⟨wA.heap.size, 0, none⟩) 0 0) [] rfl HO.out BA zl bc e.zs rfl HSB.out.2.2.2.1 HSB.out.1 (by simp; omega) ?_; intro v1 w3 hO1 hg1; try rw [List.nil_append] at hO1; have HO1 := Lib.hid hO1; have HR3 := Lib.hid (HRQ.out.below hO1.1); have e1 := (hO1.1.cell (p := ⟨r, 1, none⟩) lc1).trans c1; have e2 := (hO1.1.cell (p := ⟨q, k * 3 + 1, none⟩) lk1).trans k1; clear hO1 hg1) | (refine step_append_any rfl _ _ rfl wA v1 e.zs rfl HO1.out A n cap ys rfl HA.out HR3.out (by rw [HZL.out]; omega) ?_; intro v2 w4 hO2 hg2; obtain ⟨XA, xc, hxv, _, _⟩ := hO2.sl (zl + n) (by rw [List.length_append, HZL.out, HNL.out]); subst hxv; have HO2 := Lib.hid hO2; have f1 := (hO2.1.cell (p := ⟨r, 1, none⟩) lc1).trans c1; have f2 := (hO2.1.cell (p := ⟨q, k * 3 + 1, none⟩) lk1).trans k1; have f3 := (hO2.1.frozen (p := ⟨q, k * 3 + 1, none⟩) lk1).trans z1; clear hO2 hg2)))
    all_goals
      go_wp2
      go_ret
      exact ⟨rfl, by rw [← HRM.out, ← HFIN.out]; exact RL2.next HFA.out HIA.out (rapp_end HRA.out HFO.out k hk HKE.out HO2.out HGF.out)⟩
  | none =>
    have hplm := plc_lost hfo
    have HP1 := Lib.hid (HPL.out wq lv m t1 HR2.out (by omega))
    rw [hplm] at HP1
    have HPUT := Lib.hid (put_rf r lv m t1 (newE s) wq HR2.out (by omega) (fun a ha => by simp at ha; subst ha; exact ⟨none, 0, 0, rfl⟩) (fun a ha => get_none hfo a ha))
    have HGN := Lib.hid (show fget s.data.toList t1.fs = none by rw [HGET.out, hfo]; rfl)
    have HG2 := Lib.hid (show Good { t1 with fs := fput (s.data.toList, [], 0) t1.fs } by
      have h1 := HG.out.app s.data.toList [] hok (fun c hc => by simp at hc) (by rw [HT.out, HRM.out]; simp; have := HFIT.out; omega)
      unfold appFs at h1
      rw [HGN.out] at h1
      exact h1)
    have HGF := Lib.hid (show Good { t1 with fs := fput (s.data.toList, ys, 0) t1.fs } by
      have h1 := HG.out.app s.data.toList ys hok HBY.out (by rw [HT.out, HRM.out, HNL.out]; exact HFIT.out)
      unfold appFs at h1
      rw [HGN.out] at h1
      exact h1)
    have HFI := Lib.hid (show ({ t1 with fs := fput (s.data.toList, ys, 0) t1.fs } : St) = { t1 with fs := appFs s.data.toList ys t1.fs } by unfold appFs; rw [HGN.out])
    have HTURN := Lib.hid (fun w2 (hT : Turned wq r (t1.room : Int) (sched t1.fail) (sched t1.arm) t1.off (ins Ent.nm (newE s) m) w2) => HR2.out.turned (t' := { t1 with fs := fput (s.data.toList, [], 0) t1.fs }) hT (by
      have h1 : fput (newE s).fil (m.map Ent.fil) = (put Ent.nm (newE s) m).map Ent.fil := (map_put (k1 := Ent.nm) (k2 := Prod.fst) Ent.fil (fun _ => rfl) _ _).symm
      have h2 : put Ent.nm (newE s) m = ins Ent.nm (newE s) m := by unfold put; rw [show (newE s).nm = s.data.toList from rfl, del_none hfo]
      rw [h2] at h1
      rw [HR2.out.fs]
      exact h1) HG2.out rfl rfl rfl rfl (fun a ha => by
        rcases mem_ins.1 ha with rfl | ha
        · exact ⟨⟨none, 0, rfl, Sl.nil wq⟩, fun i hi => by cases hi⟩
        · exact HR2.out.old ha) (fun i hi => by
        obtain ⟨a, ha, hv⟩ := mem_blks.1 hi
        rcases mem_ins.1 ha with rfl | ha
        · cases hv
        · exact .inl (mem_blks.2 ⟨a, ha, hv⟩)))
    have HSB0 := Lib.hid (show Value.string ⟨(newE s).nm.toArray⟩ = .string s by rw [show (newE s).nm = s.data.toList from rfl, str_back])
    rw [HSB0.out] at HPUT
    unfold newE at HPUT
    clear hfo hplm
    go_wp2_with (go_at_call 48; have _ := HP1; refine HP1.out.mono ?_; clear HP1; rintro e w2 ⟨rfl, rfl⟩)
    refine HPUT.out.mono ?_
    rintro en wA ⟨rfl, hT⟩
    obtain ⟨lvA, mA, hRA, hFr, hfoot⟩ := HTURN.out wA hT
    obtain ⟨e, hfo, hez, hes⟩ : ∃ e, found mA s = some e ∧ e.zs = [] ∧ e.s = 0 := by
      have h1 := hRA.get s
      have h2 : fget s.data.toList (fput (s.data.toList, [], 0) t1.fs) = some (s.data.toList, [], 0) := fget_fput (s.data.toList, [], 0) HG.out.up
      rw [h2] at h1
      cases hq : found mA s with
      | none => rw [hq] at h1; cases h1
      | some e =>
        rw [hq] at h1
        simp only [Option.map_some, Option.some.injEq, Ent.fil, Prod.mk.injEq] at h1
        exact ⟨e, rfl, h1.2.1.symm, h1.2.2.symm⟩
    have HRA := Lib.hid hRA
    have HFA := Lib.hid ((HF2.out.mono (S' := rfoot r lv m) (by simp [rfoot])).same (hFr.mono foot_sub))
    have HIA := Lib.hid (show ∀ i ∈ rfoot r lvA mA, i ∈ rfoot r lv m ∨ w.heap.size ≤ i from fun i hi => by
      rcases hfoot i hi with h | h
      · exact .inl h
      · exact .inr (Nat.le_trans HF2.out.size h))
    obtain ⟨k, hk, hpl, hke⟩ := plc_found hRA.up hfo
    have hlen : (fput (s.data.toList, ([] : List Int), 0) t1.fs).length ≤ 1000000 := by
      have h1 : (fput (s.data.toList, ([] : List Int), 0) t1.fs).length = (fdel s.data.toList t1.fs).length + 1 := by
        have := (ins_perm (key := Prod.fst) ((s.data.toList, ([] : List Int), 0) : Fil) (fdel s.data.toList t1.fs)).length_eq
        rw [List.length_cons] at this
        exact this
      have h2 := fdel_len t1.fs s.data.toList
      omega
    have HP2 := Lib.hid (HPL.out wA lvA mA _ hRA hlen)
    rw [hpl] at HP2
    have HKE := Lib.hid hke
    have HFO := Lib.hid hfo
    have hzl : e.zs.length ≤ 16777216 := by rw [hez]; simp
    have HFF := Lib.hid (show fput (s.data.toList, e.zs ++ ys, e.s) (fput (s.data.toList, [], 0) t1.fs) = fput (s.data.toList, ys, 0) t1.fs by
      rw [hez, hes, List.nil_append]
      exact fput_fput s.data.toList ([], 0) (ys, 0) t1.fs)
    have HGF' := HGF
    clear HGF
    have HGF := Lib.hid (show Good { ({ t1 with fs := fput (s.data.toList, [], 0) t1.fs } : St) with fs := fput (s.data.toList, e.zs ++ ys, e.s) ({ t1 with fs := fput (s.data.toList, [], 0) t1.fs } : St).fs } by
      simp only
      rw [HFF.out]
      exact HGF'.out)
    have HFIN := Lib.hid (show ({ ({ t1 with fs := fput (s.data.toList, [], 0) t1.fs } : St) with fs := fput (s.data.toList, e.zs ++ ys, e.s) ({ t1 with fs := fput (s.data.toList, [], 0) t1.fs } : St).fs } : St) = { t1 with fs := appFs s.data.toList ys t1.fs } by
      simp only
      rw [HFF.out]
      exact HFI.out)
    have HRQ := Lib.hid (rd_frS HRR.out HFA.out HAB.out)
    have hml : mA.length ≤ 1000000 := by rw [hRA.len]; exact hlen
    clear hfo hke hpl hRA hFr hfoot hez hes hT HPUT HTURN
    go_wp2_with (go_at_call 48; refine HP2.out.mono ?_; rintro e w2 ⟨rfl, rfl⟩)
    obtain ⟨q, qcap, hv, hc1, hc2, k0, k1, k2, kf⟩ := HRA.out.cell k hk
    obtain ⟨A5, cap5, hv5, hd, _⟩ := HRA.out.form
    rw [hv] at hv5
    cases hv5
    subst hv
    obtain ⟨c0, c1, c2, c3, c4⟩ := hd.cells
    have z1 := kf (k * 3 + 1)
    obtain ⟨BA, bc, hbv, hbs⟩ := HRA.out.byt mA[k] (List.getElem_mem hk)
    rw [HKE.out] at hbv hbs
    rw [HKE.out, hbv] at k1
    have HBS := Lib.hid hbs
    clear kf hd hbv hbs
    generalize hzl' : e.zs.length = zl at *
    have HZL := Lib.hid hzl'
    clear hzl'
    have HO := Lib.hid (Own.made wA wA (Below.refl _ _)).drew
    have HB1 := Lib.hid (show Below wA.heap.size wA (wA.alloc (.cells #[] 5)).drew from HO.out.1)
    unfold noneBlk at HO
    have hba : Below wA.heap.size wA (wA.alloc (.cells #[] 5)) := (Below.refl _ _).alloc (Nat.le_refl _) _
    have d1 := (hba.cell (lt_of_cell c1)).trans c1
    have d2 := (hba.cell (lt_of_cell k1)).trans k1
    have lc1 := lt_of_cell c1
    have lk1 := lt_of_cell k1
    simp only at lc1 lk1
    have HSB := Lib.hid (HBS.out.below HB1.out)
    clear hba
    have i0 : (0 : Int) ≤ (k : Int) := by omega
    have i1 : (k : Int) < (mA.length : Int) := by omega
    go_region_law ((first | (refine step_append_any rfl _ _ rfl wA (.slice (some ⟨wA.heap.size, 0, none⟩) 0 0) [] rfl HO.out BA zl bc e.zs rfl HSB.out.2.2.2.1 HSB.out.1 (by simp; omega) ?_; intro v1 w3 hO1 hg1; try rw [List.nil_append] at hO1; have HO1 := Lib.hid hO1; have HR3 := Lib.hid (HRQ.out.below hO1.1); have e1 := (hO1.1.cell (p := ⟨r, 1, none⟩) lc1).trans c1; have e2 := (hO1.1.cell (p := ⟨q, k * 3 + 1, none⟩) lk1).trans k1; clear hO1 hg1) | (refine step_append_any rfl _ _ rfl wA v1 e.zs rfl HO1.out A n cap ys rfl HA.out HR3.out (by rw [HZL.out]; omega) ?_; intro v2 w4 hO2 hg2; obtain ⟨XA, xc, hxv, _, _⟩ := hO2.sl (zl + n) (by rw [List.length_append, HZL.out, HNL.out]); subst hxv; have HO2 := Lib.hid hO2; have f1 := (hO2.1.cell (p := ⟨r, 1, none⟩) lc1).trans c1; have f2 := (hO2.1.cell (p := ⟨q, k * 3 + 1, none⟩) lk1).trans k1; have f3 := (hO2.1.frozen (p := ⟨q, k * 3 + 1, none⟩) lk1).trans z1; clear hO2 hg2)))
    all_goals
      go_wp2
      go_ret
      exact ⟨rfl, by rw [← HRM.out, ← HFIN.out]; exact RL2.next HFA.out HIA.out (rapp_end HRA.out HFO.out k hk HKE.out HO2.out HGF.out)⟩
end Go.Proofs.YtejphnbhcabchaaGreat.Dk

namespace Go.Proofs.YtejphnbhcabchaaGreat.Dk
open Go.RowKit Go.Proofs.YtejphnbhcabchaaGreat.Fld

theorem Rf.restart {w : World} {r : Nat} {lv : Value} {m : List Ent} {t : St} (h : Rf w r lv m t) :
    Rf (((w.setCell ⟨r, 4, none⟩ (.bool false)).setCell ⟨r, 2, none⟩ (.int .i64 (-1))).setCell ⟨r, 3, none⟩ (.int .i64 (-1))) r lv m { t with off := false, fail := none, arm := none } ∧
    Fr [r] w (((w.setCell ⟨r, 4, none⟩ (.bool false)).setCell ⟨r, 2, none⟩ (.int .i64 (-1))).setCell ⟨r, 3, none⟩ (.int .i64 (-1))) := by
  have hf : Fr [r] w (((w.setCell ⟨r, 4, none⟩ (.bool false)).setCell ⟨r, 2, none⟩ (.int .i64 (-1))).setCell ⟨r, 3, none⟩ (.int .i64 (-1))) := (((Fr.refl [r] w).setCell _ (.inl (by simp)) _).setCell _ (.inl (by simp)) _).setCell _ (.inl (by simp)) _
  obtain ⟨A, n, cap, hlv, hd⟩ := h.dsr
  exact ⟨h.scheds ⟨A, n, cap, hlv, ((hd.set4 false).set2 (-1)).set3 (-1)⟩ hf rfl rfl (fun k hk => by cases hk) (fun k hk => by cases hk), hf⟩
set_option maxRecDepth 100000 in
set_option maxHeartbeats 3200000 in
theorem rcrash_none (r : Nat) (lv : Value) (t : St) (A : Option Addr) (n cap : Nat) (ks : List Int) (w : World) (h : Rf w r lv [] t) :
    Calls Tryz.prog 20 #[.pointer (some ⟨r, 0, none⟩), .slice A n cap] w fun e w' => e = .returned (.tuple #[]) ∧ RLeft w r lv [] (stCrash ks t) w' := by
  have hs : ({ t with off := false, fail := none, arm := none } : St) = stCrash ks t := by
    have hfs : t.fs = [] := h.fs
    obtain ⟨room, fs, off, fail, arm⟩ := t
    simp only at hfs
    subst hfs
    rfl
  have hr := h.restart
  rw [hs] at hr
  have HR := Lib.hid hr
  obtain ⟨LA, lcap, hlv, hd, _⟩ := h.form
  obtain ⟨c0, c1, c2, c3, c4⟩ := hd.cells
  have f2 := hd.free 2
  have f3 := hd.free 3
  have f4 := hd.free 4
  simp only [List.length_nil] at c1
  clear h hs hr hd hlv
  go_enter Tryz.func20, Tryz.ntmps20
  go_wp2
  go_loop [4] (fun i => i = .int .i64 0) (fun _ => 0)
  case atStart => rfl
  case round =>
    subst hrel
    go_wp2
    go_end0
    exact ⟨rfl, lv, [], HR.out.1, HR.out.2.mono (by simp), fun _ hi => .inl hi⟩
end Go.Proofs.YtejphnbhcabchaaGreat.Dk

namespace Go.Proofs.YtejphnbhcabchaaGreat.Dk
open Go.RowKit Go.Proofs.YtejphnbhcabchaaGreat.Fld
set_option linter.unusedVariables false

/-- 's[:u]' -/
theorem run_toB (A : Option Addr) (n cap u : Nat) (hA : A = none → cap = 0) (hu : u ≤ cap) (W : World) : (Instr.slice 36 (.slice A n cap) none (some (.int .i64 (u : Int))) none).run Tryz.prog W = .ok (.slice A u cap) W := by
  cases A with
  | some a =>
    have h1 : (0 : Int) ≤ (u : Int) := by omega
    have h3 : (u : Int) ≤ (cap : Int) := by omega
    go_simp
  | none =>
    obtain rfl := hA rfl
    obtain rfl : u = 0 := by omega
    go_simp
/-- the first store of a round -/
theorem rcr_one {w : World} {r q cap : Nat} {m : List Ent} {t : St} {e : Ent} {BA : Option Addr} {bc : Nat} (h : Rf w r (.slice (some ⟨q, 0, none⟩) m.length cap) m t) (k : Nat) (hk : k < m.length) (hke : m[k] = e) (hbv : e.v = .slice BA e.zs.length bc) (E : Nat) (hE : E ≤ e.zs.length) (hsE : e.s ≤ E) :
    Rf (w.setCell ⟨q, k * 3 + 1, none⟩ (.slice BA E bc)).drew r (.slice (some ⟨q, 0, none⟩) m.length cap) (m.set k ⟨e.nm, .slice BA E bc, e.zs.take E, e.s⟩) { t with fs := fput (e.nm, e.zs.take E, e.s) t.fs } ∧ Fr [q] w (w.setCell ⟨q, k * 3 + 1, none⟩ (.slice BA E bc)).drew := by
  have hmem : e ∈ m := by rw [← hke]; exact List.getElem_mem hk
  have hbs : Sl w BA e.zs.length bc e.zs := by
    obtain ⟨A', c', hv', hs'⟩ := h.byt e hmem
    rw [hbv] at hv'
    injection hv' with e1 _ e3
    rw [e1, e3]; exact hs'
  have hfm : e.fil ∈ t.fs := by rw [h.fs]; exact List.mem_map_of_mem hmem
  have hg : fget e.nm t.fs = some e.fil := get_mem h.good.up hfm
  have hgood : Good { t with fs := fput (e.nm, e.zs.take E, e.s) t.fs } := by
    refine h.good.put (e.nm, e.zs.take E, e.s) (h.good.name e.fil hfm) ?_ ?_ ?_
    · simp only [List.length_take]; omega
    · intro c hc; exact h.good.byte e.fil hfm c (List.mem_of_mem_take hc)
    · rw [total_put]
      have h1 := total_del h.good.up hg
      have h2 := h.good.fits
      have h3 : e.fil.2.1.length = e.zs.length := rfl
      simp only [List.length_take]
      omega
  have ho := h.old hmem
  refine h.stored (w' := (w.setCell ⟨q, k * 3 + 1, none⟩ (.slice BA E bc)).drew) (t' := { t with fs := fput (e.nm, e.zs.take E, e.s) t.fs }) ⟨e.nm, .slice BA E bc, e.zs.take E, e.s⟩ k 1 (.slice BA E bc) (by omega) hk (by rw [hke]; simp [cells3]) (by rw [hke]) rfl rfl rfl rfl rfl hgood rfl rfl rfl rfl ⟨?_, ?_⟩
  · have hl : (e.zs.take E).length = E := by rw [List.length_take]; omega
    refine ⟨BA, bc, by simp only [hl], ?_⟩
    simp only [hl]
    exact ⟨hbs.1.cut E hE, by have := hbs.2.1; omega, hbs.2.2⟩
  · intro i hi
    have hi2 : e.v.ownBlock = some i := by rw [hbv]; cases BA <;> simp_all [Value.ownBlock]
    exact ⟨(ho.2 i hi2).1, (ho.2 i hi2).2, fun hh => (h.ne.2 i (mem_blks.2 ⟨e, hmem, hi2⟩)).2 (by rw [hh]; rfl)⟩
/-- the second one -/
theorem rcr_two {w : World} {r q cap : Nat} {m : List Ent} {t : St} {e : Ent} (h : Rf w r (.slice (some ⟨q, 0, none⟩) m.length cap) m t) (k : Nat) (hk : k < m.length) (hke : m[k] = e) :
    Rf (w.setCell ⟨q, k * 3 + 2, none⟩ (.int .i64 (e.zs.length : Int))).drew r (.slice (some ⟨q, 0, none⟩) m.length cap) (m.set k ⟨e.nm, e.v, e.zs, e.zs.length⟩) { t with fs := fput (e.nm, e.zs, e.zs.length) t.fs } ∧ Fr [q] w (w.setCell ⟨q, k * 3 + 2, none⟩ (.int .i64 (e.zs.length : Int))).drew := by
  have hmem : e ∈ m := by rw [← hke]; exact List.getElem_mem hk
  have hfm : e.fil ∈ t.fs := by rw [h.fs]; exact List.mem_map_of_mem hmem
  have hg : fget e.nm t.fs = some e.fil := get_mem h.good.up hfm
  have ho := h.old hmem
  exact h.stored (w' := (w.setCell ⟨q, k * 3 + 2, none⟩ (.int .i64 (e.zs.length : Int))).drew) (t' := { t with fs := fput (e.nm, e.zs, e.zs.length) t.fs }) ⟨e.nm, e.v, e.zs, e.zs.length⟩ k 2 (.int .i64 (e.zs.length : Int)) (by omega) hk (by rw [hke]; simp [cells3]) (by rw [hke]) rfl rfl rfl rfl rfl (h.good.sync hg) rfl rfl rfl rfl
    ⟨ho.1, fun i hi => ⟨(ho.2 i hi).1, (ho.2 i hi).2, fun hh => (h.ne.2 i (mem_blks.2 ⟨e, hmem, hi⟩)).2 (by rw [hh]; rfl)⟩⟩
def RcR (w : World) (r q cap M : Nat) (m : List Ent) (t : St) (ks : List Int) (i : Value) (wr : World) : Prop :=
  ∃ k : Nat, k ≤ M ∧ i = .int .i64 (k : Int) ∧ ∃ mi, mi.length = M ∧ Rf wr r (.slice (some ⟨q, 0, none⟩) mi.length cap) mi { t with fs := crashTo k ks t.fs } ∧ Fr [q] w wr ∧ ∀ j ∈ blks mi, j ∈ blks m
theorem crash_next {t : St} {k : Nat} {ks : List Int} {e : Ent} (hu : Up Prod.fst (crashTo k ks t.fs)) (hf : t.fs[k]? = some e.fil) (E : Nat) (hE : E = stays (ks.getD k 0) e.fil) (hEl : E ≤ e.zs.length) :
    fput (e.nm, e.zs.take E, (e.zs.take E).length) (fput (e.nm, e.zs.take E, e.s) (crashTo k ks t.fs)) = crashTo (k + 1) ks t.fs := by
  rw [crash_step k ks t.fs hu e.fil hf, List.length_take, Nat.min_eq_left hEl]
  rw [show crash1 (ks.getD k 0) e.fil = (e.nm, e.zs.take E, E) by rw [hE]; rfl]
  exact fput_fput e.nm (e.zs.take E, e.s) (e.zs.take E, E) (crashTo k ks t.fs)
theorem blks_set {m m0 : List Ent} {k : Nat} {e : Ent} (h : ∀ j ∈ blks m, j ∈ blks m0) (he : ∀ i, e.v.ownBlock = some i → i ∈ blks m) : ∀ j ∈ blks (m.set k e), j ∈ blks m0 := by
  intro j hj
  obtain ⟨a, ha, hv⟩ := mem_blks.1 hj
  rcases List.mem_or_eq_of_mem_set ha with ha | rfl
  · exact h j (mem_blks.2 ⟨a, ha, hv⟩)
  · exact h j (he j hv)
set_option maxRecDepth 100000 in
set_option maxHeartbeats 6400000 in
theorem rcrash_some (r q lcap : Nat) (m : List Ent) (t : St) (A : Option Addr) (n cap : Nat) (ks : List Int) (w : World) (h : Rf w r (.slice (some ⟨q, 0, none⟩) m.length lcap) m t) (hm : t.fs.length ≤ 1000000) (hk : RdI w A n ks) (hAb : 0 < n → ∀ a, A = some a → a.block ≠ q) :
    Calls Tryz.prog 20 #[.pointer (some ⟨r, 0, none⟩), .slice A n cap] w fun e w' => e = .returned (.tuple #[]) ∧ RL2 w r (.slice (some ⟨q, 0, none⟩) m.length lcap) m (stCrash ks t) w' := by
  have hml : m.length ≤ 1000000 := by rw [h.len]; exact hm
  have hnm := hk.2.1
  unfold maxLen at hnm
  have HFSL := Lib.hid h.len
  obtain ⟨M, hM⟩ : ∃ M, M = m.length := ⟨_, rfl⟩
  rw [← hM] at hml h HFSL
  have HM := Lib.hid hM
  have HK := Lib.hid hk
  have HAB := Lib.hid hAb
  have HT0 := Lib.hid (show RcR w r q lcap M m t ks (.int .i64 ((0 : Nat) : Int)) w from ⟨0, by omega, rfl, m, hM.symm, by rw [crashTo_zero, ← hM]; exact h, Fr.refl _ _, fun _ h => h⟩)
  clear h hk hAb hM
  go_enter Tryz.func20, Tryz.ntmps20
  go_wp2
  go_loopw [4] (fun i wr => RcR w r q lcap M m t ks i wr) (fun i _ => M - (intOf i).toNat)
  case atStart => exact HT0.out
  case round =>
    obtain ⟨k, hk, rfl, mi, hmi, hR, hF, hsub⟩ := hrel
    have HR := Lib.hid hR
    have HF := Lib.hid hF
    have HSUB := Lib.hid hsub
    have HMI := Lib.hid hmi
    obtain ⟨A5, cap5, hv5, hd, _⟩ := hR.form
    cases hv5
    obtain ⟨c0, c1, c2, c3, c4⟩ := hd.cells
    rw [hmi] at c1
    have HD := Lib.hid hd
    clear hR hF hsub hd hmi HT0
    by_cases hlt : k < M
    · have hkm : k < mi.length := by rw [HMI.out]; exact hlt
      obtain ⟨q2, cap2, hv2, hc1, hc2, k0, k1, k2, kf⟩ := HR.out.cell k hkm
      cases hv2
      obtain ⟨e, hke⟩ : ∃ e, e = mi[k] := ⟨_, rfl⟩
      obtain ⟨BA, bc, hbv, hbs⟩ := HR.out.byt mi[k] (List.getElem_mem hkm)
      rw [← hke] at hbv hbs k0 k1 k2
      rw [hbv] at k1
      have HKE := Lib.hid hke.symm
      have HBV := Lib.hid hbv
      have HBS := Lib.hid hbs
      have hmem : e ∈ mi := by rw [hke]; exact List.getElem_mem hkm
      have hfm : e.fil ∈ crashTo k ks t.fs := by
        have h1 : crashTo k ks t.fs = mi.map Ent.fil := HR.out.fs
        rw [h1]; exact List.mem_map_of_mem hmem
      have hsy : e.s ≤ e.zs.length := HR.out.good.synced e.fil hfm
      have htf : t.fs[k]? = some e.fil := by
        have h1 : crashTo k ks t.fs = mi.map Ent.fil := HR.out.fs
        have h2 := crashTo_at k ks t.fs k
        rw [h1, List.getElem?_map, List.getElem?_eq_getElem hkm, ← hke] at h2
        cases hq : t.fs[k]? with
        | none => rw [hq] at h2; simp at h2
        | some f => rw [hq] at h2; simp at h2; rw [h2]
      obtain ⟨E, hE⟩ : ∃ E, E = stays (ks.getD k 0) e.fil := ⟨_, rfl⟩
      have hEl : E ≤ e.zs.length := by
        rw [hE]; unfold stays
        have h3 : e.fil.2.1.length = e.zs.length := rfl
        have h4 : e.fil.2.2 = e.s := rfl
        rw [h3, h4]; omega
      have hsE : e.s ≤ E := by rw [hE]; unfold stays; have h4 : e.fil.2.2 = e.s := rfl; rw [h4]; omega
      have HE := Lib.hid hE
      have hz16 : e.zs.length ≤ 16777216 := by
        have h1 := total_del (f := e.fil) HR.out.good.up (x := e.nm) (get_mem HR.out.good.up hfm)
        have h2 := HR.out.good.fits
        have h5 := HR.out.good.room2
        have h3 : e.fil.2.1.length = e.zs.length := rfl
        simp only at h1 h2 h5
        omega
      have hnn : (E : Int) = (e.s : Int) + max 0 (min (ks.getD k 0) ((e.zs.length : Int) - (e.s : Int))) := by
        rw [hE]; unfold stays
        have h3 : e.fil.2.1.length = e.zs.length := rfl
        have h4 : e.fil.2.2 = e.s := rfl
        rw [h3, h4]; omega
      have HNX := Lib.hid (crash_next (e := e) HR.out.good.up htf E hE hEl)
      have HONE := Lib.hid (fun (W : World) (hR : Rf W r (.slice (some ⟨q, 0, none⟩) mi.length lcap) mi { t with fs := crashTo k ks t.fs }) => rcr_one hR k hkm HKE.out hbv E hEl hsE)
      have HTL := Lib.hid (show (e.zs.take E).length = E by rw [List.length_take]; omega)
      have HFI := Lib.hid (show ∀ i, (Value.slice BA E bc).ownBlock = some i → i ∈ blks mi by
        intro i hi
        have hi2 : e.v.ownBlock = some i := by rw [hbv]; cases BA <;> simp_all [Value.ownBlock]
        exact mem_blks.2 ⟨e, hmem, hi2⟩)
      have z1 := kf (k * 3 + 1)
      have z2 := kf (k * 3 + 2)
      have hrq : r ≠ q := fun hh => HR.out.ne.1 (by rw [hh]; rfl)
      clear kf hbv hbs hke hmem hfm htf hE
      have i0 : (0 : Int) ≤ (k : Int) := by omega
      have i1 : (k : Int) < (M : Int) := by omega
      obtain ⟨Z, hZ⟩ : ∃ Z : Int, Z = max 0 (min (ks.getD k 0) ((e.zs.length : Int) - (e.s : Int))) := ⟨_, rfl⟩
      rw [← hZ] at hnn
      have HZ := Lib.hid hZ
      clear hZ
      generalize hL : e.zs.length = L at *
      generalize hS : e.s = S at *
      have HL := Lib.hid hL
      have HSS := Lib.hid hS
      clear hL hS
      have w1 : IntKind.i64.wrap ((L : Int) - (S : Int)) = (L : Int) - (S : Int) := IntWalk.i64_in _ (by omega)
      by_cases hkn : k < n
      · obtain ⟨kb, ko, rfl, hkc⟩ := (HK.out.fr HF.out (fun h a ha => by simpa using HAB.out h a ha)).2.2 (by omega)
        have hkk := hkc k hkn
        clear hkc
        have j1 : (k : Int) < (n : Int) := by omega
        generalize ks.getD k 0 = KK at *
        go_wp2_with fail
        go_quiet (fail)
        rw [← HZ.out]
        have HRQ := Lib.hid (show Rf (wr.drewN nq) r (.slice (some ⟨q, 0, none⟩) mi.length lcap) mi { t with fs := crashTo k ks t.fs } from HR.out.of_blocks fun i _ => by rw [(Still.drewN (Still.refl wr) nq).1])
        have HFQ := Lib.hid (show Fr [q] w (wr.drewN nq) from HF.out.same ⟨rfl, rfl, rfl, Nat.le_refl _, fun _ _ _ => rfl⟩)
        clear c0 c1 c2 c3 c4 k0 k1 k2 z1 z2 hkk w1
        generalize wr.drewN nq = wq at *
        have g1 : (0 : Int) ≤ (S : Int) + Z := by omega
        have g2 : (S : Int) + Z ≤ (bc : Int) := by have := HBS.out.2.1; omega
        have g3 : ((S : Int) + Z).toNat = E := by omega
        clear hnn
        have kq1 := HRQ.out.cell k hkm
        obtain ⟨q9, cap9, hv9, _, _, _, y1, y2, yf⟩ := kq1
        cases hv9
        rw [HKE.out] at y1 y2
        rw [HBV.out] at y1
        rw [HSS.out] at y2
        have yz := yf (k * 3 + 1)
        obtain ⟨A8, cap8, hv8, hd8, _⟩ := HRQ.out.form
        cases hv8
        have x1 := hd8.cells.2.1
        rw [HMI.out] at x1
        have r1 := run_toB BA L bc E (HBS.out.2.2.2.1) (by have := HBS.out.2.1; omega)
        have HO1 := Lib.hid (HONE.out wq HRQ.out)
        clear hd8 yf
        go_wp2_with fail
        go_region
        clear r1 x1 y1 y2 yz
        generalize (wq.setCell _ _).drew = w6 at HO1 ⊢
        have HR6 := Lib.hid (show Rf w6 r (.slice (some ⟨q, 0, none⟩) (mi.set k ⟨e.nm, .slice BA E bc, e.zs.take E, e.s⟩).length lcap) (mi.set k ⟨e.nm, .slice BA E bc, e.zs.take E, e.s⟩) { t with fs := fput (e.nm, e.zs.take E, e.s) (crashTo k ks t.fs) } by rw [List.length_set]; rw [HSS.out]; exact HO1.out.1)
        have HF6 := Lib.hid HO1.out.2
        have HSE := Lib.hid (show (mi.set k ⟨e.nm, .slice BA E bc, e.zs.take E, e.s⟩)[k]'(by rw [List.length_set]; exact hkm) = ⟨e.nm, .slice BA E bc, e.zs.take E, e.s⟩ by simp)
        have HTWO := Lib.hid (rcr_two HR6.out k (by rw [List.length_set]; exact hkm) HSE.out)
        obtain ⟨q10, cap10, hv10, _, _, _, y1, y2, yf⟩ := HR6.out.cell k (by rw [List.length_set]; exact hkm)
        cases hv10
        rw [HSE.out] at y1 y2
        have yz := yf (k * 3 + 2)
        obtain ⟨A11, cap11, hv11, hd11, _⟩ := HR6.out.form
        cases hv11
        have x1 := hd11.cells.2.1
        rw [List.length_set, HMI.out] at x1
        simp only at y1 y2
        simp only [HTL.out] at HTWO
        clear hd11 yf HO1
        go_wp2_with fail
        go_region
        clear x1 y1 y2 yz
        generalize (w6.setCell _ _).drew = w7 at HTWO ⊢
        go_wp2
        go_roundw
        case rel =>
          refine ⟨k + 1, by omega, by go_num, (mi.set k ⟨e.nm, .slice BA E bc, e.zs.take E, e.s⟩).set k ⟨e.nm, .slice BA E bc, e.zs.take E, E⟩, ?_, ?_, ?_, ?_⟩
          · rw [List.length_set, List.length_set]; exact HMI.out
          · have h1 := HTWO.out.1
            have h2 : fput (e.nm, e.zs.take E, E) (fput (e.nm, e.zs.take E, e.s) (crashTo k ks t.fs)) = crashTo (k + 1) ks t.fs := by
              have h3 := HNX.out
              rw [HTL.out] at h3
              rw [HSS.out]
              exact h3
            simp only [List.length_set] at h1 ⊢
            rw [h2] at h1
            exact h1
          · exact (HFQ.out.same HF6.out).same HTWO.out.2
          · exact blks_set (blks_set HSUB.out HFI.out) (fun i hi => mem_blks.2 ⟨⟨e.nm, .slice BA E bc, e.zs.take E, e.s⟩, List.mem_iff_getElem.2 ⟨k, by rw [List.length_set]; exact hkm, HSE.out⟩, hi⟩)
        case measure => simp [intOf]; omega
      · have hK0 : ks.getD k 0 = 0 := by rw [List.getD_eq_getElem?_getD, List.getElem?_eq_none (by rw [HK.out.1]; omega)]; rfl
        have hZ0 : Z = 0 := by rw [HZ.out, hK0]; omega
        have hES : E = S := by omega
        subst hES
        have j1 : ¬ (k : Int) < (n : Int) := by omega
        obtain ⟨wq, hwq⟩ : ∃ wq, wq = wr := ⟨_, rfl⟩
        have HRQ := Lib.hid (show Rf wq r (.slice (some ⟨q, 0, none⟩) mi.length lcap) mi { t with fs := crashTo k ks t.fs } by rw [hwq]; exact HR.out)
        have HFQ := Lib.hid (show Fr [q] w wq by rw [hwq]; exact HF.out)
        clear hK0 hZ0 HZ w1 hnn
        go_wp2_with fail
        clear c0 c1 c2 c3 c4 k0 k1 k2 z1 z2
        subst hwq
        have w2 : IntKind.i64.wrap (E : Int) = (E : Int) := IntWalk.i64_in _ (by omega)
        have kq1 := HRQ.out.cell k hkm
        obtain ⟨q9, cap9, hv9, _, _, _, y1, y2, yf⟩ := kq1
        cases hv9
        rw [HKE.out] at y1 y2
        rw [HBV.out] at y1
        rw [HSS.out] at y2
        have yz := yf (k * 3 + 1)
        obtain ⟨A8, cap8, hv8, hd8, _⟩ := HRQ.out.form
        cases hv8
        have x1 := hd8.cells.2.1
        rw [HMI.out] at x1
        have r1 := run_toB BA L bc E (HBS.out.2.2.2.1) (by have := HBS.out.2.1; omega)
        have HO1 := Lib.hid (HONE.out wq HRQ.out)
        clear hd8 yf
        go_wp2_with fail
        go_region
        clear r1 x1 y1 y2 yz
        generalize (wq.setCell _ _).drew = w6 at HO1 ⊢
        have HR6 := Lib.hid (show Rf w6 r (.slice (some ⟨q, 0, none⟩) (mi.set k ⟨e.nm, .slice BA E bc, e.zs.take E, e.s⟩).length lcap) (mi.set k ⟨e.nm, .slice BA E bc, e.zs.take E, e.s⟩) { t with fs := fput (e.nm, e.zs.take E, e.s) (crashTo k ks t.fs) } by rw [List.length_set]; rw [HSS.out]; exact HO1.out.1)
        have HF6 := Lib.hid HO1.out.2
        have HSE := Lib.hid (show (mi.set k ⟨e.nm, .slice BA E bc, e.zs.take E, e.s⟩)[k]'(by rw [List.length_set]; exact hkm) = ⟨e.nm, .slice BA E bc, e.zs.take E, e.s⟩ by simp)
        have HTWO := Lib.hid (rcr_two HR6.out k (by rw [List.length_set]; exact hkm) HSE.out)
        obtain ⟨q10, cap10, hv10, _, _, _, y1, y2, yf⟩ := HR6.out.cell k (by rw [List.length_set]; exact hkm)
        cases hv10
        rw [HSE.out] at y1 y2
        have yz := yf (k * 3 + 2)
        obtain ⟨A11, cap11, hv11, hd11, _⟩ := HR6.out.form
        cases hv11
        have x1 := hd11.cells.2.1
        rw [List.length_set, HMI.out] at x1
        simp only at y1 y2
        simp only [HTL.out] at HTWO
        clear hd11 yf HO1
        go_wp2_with fail
        go_region
        clear x1 y1 y2 yz
        generalize (w6.setCell _ _).drew = w7 at HTWO ⊢
        go_wp2
        go_roundw
        case rel =>
          refine ⟨k + 1, by omega, by go_num, (mi.set k ⟨e.nm, .slice BA E bc, e.zs.take E, e.s⟩).set k ⟨e.nm, .slice BA E bc, e.zs.take E, E⟩, ?_, ?_, ?_, ?_⟩
          · rw [List.length_set, List.length_set]; exact HMI.out
          · have h1 := HTWO.out.1
            have h2 : fput (e.nm, e.zs.take E, E) (fput (e.nm, e.zs.take E, e.s) (crashTo k ks t.fs)) = crashTo (k + 1) ks t.fs := by
              have h3 := HNX.out
              rw [HTL.out] at h3
              rw [HSS.out]
              exact h3
            simp only [List.length_set] at h1 ⊢
            rw [h2] at h1
            exact h1
          · exact (HFQ.out.same HF6.out).same HTWO.out.2
          · exact blks_set (blks_set HSUB.out HFI.out) (fun i hi => mem_blks.2 ⟨⟨e.nm, .slice BA E bc, e.zs.take E, e.s⟩, List.mem_iff_getElem.2 ⟨k, by rw [List.length_set]; exact hkm, HSE.out⟩, hi⟩)
        case measure => simp [intOf]; omega
    · obtain rfl : k = M := by omega
      have f2 := HD.out.free 2
      have f3 := HD.out.free 3
      have f4 := HD.out.free 4
      have hr := HR.out.restart
      have HRS := Lib.hid hr
      clear hr
      go_wp2
      go_end0
      refine ⟨rfl, .slice (some ⟨q, 0, none⟩) mi.length lcap, mi, ?_, ?_, ?_⟩
      · have h1 := HRS.out.1
        have h2 : ({ ({ t with fs := crashTo k ks t.fs } : St) with off := false, fail := none, arm := none } : St) = stCrash ks t := by unfold stCrash; rw [← HFSL.out]
        rw [h2] at h1
        exact h1
      · have h1 : Fr (rfoot r (.slice (some ⟨q, 0, none⟩) m.length lcap) m) w wr := HF.out.mono (by simp [rfoot, Value.ownBlock])
        exact h1.same (HRS.out.2.mono (by simp [rfoot]))
      · intro i hi
        refine .inl ?_
        simp only [rfoot, List.mem_cons, List.mem_append] at hi ⊢
        rcases hi with hi | hi | hi
        · exact .inl hi
        · exact .inr (.inl hi)
        · exact .inr (.inr (HSUB.out i hi))
/-- Crash, whatever the files -/
theorem rcrash_any (r : Nat) (lv : Value) (m : List Ent) (t : St) (A : Option Addr) (n cap : Nat) (ks : List Int) (w : World) (h : Rf w r lv m t) (hm : t.fs.length ≤ 1000000) (hk : RdI w A n ks) (hAb : 0 < n → ∀ a, A = some a → a.block ∉ rfoot r lv m) :
    Calls Tryz.prog 20 #[.pointer (some ⟨r, 0, none⟩), .slice A n cap] w fun e w' => e = .returned (.tuple #[]) ∧ RL2 w r lv m (stCrash ks t) w' := by
  rcases h.row.2 with ⟨rfl, h0⟩ | ⟨q, lcap, cur, rfl, _, _, _⟩
  · obtain rfl : m = [] := List.eq_nil_of_length_eq_zero h0
    exact (rcrash_none r (.slice none 0 0) t A n cap ks w h).mono fun e w' hh => ⟨hh.1, hh.2.two⟩
  · exact rcrash_some r q lcap m t A n cap ks w h hm hk (fun hn a ha hq => hAb hn a ha (by rw [hq]; simp [rfoot, Value.ownBlock]))
end Go.Proofs.YtejphnbhcabchaaGreat.Dk

namespace Go.Proofs.YtejphnbhcabchaaGreat.Dk
open Go.RowKit Go.Proofs.YtejphnbhcabchaaGreat.Fld

set_option maxRecDepth 100000 in
set_option maxHeartbeats 3200000 in
theorem rread_any (r : Nat) (lv : Value) (m : List Ent) (t : St) (s : ByteArray) (w : World) (h : Rf w r lv m t) (hm : t.fs.length ≤ 1000000) (hs : s.size ≤ maxLen) : Calls Tryz.prog 89 #[.pointer (some ⟨r, 0, none⟩), .string s] w (ReadIs w (stRead s.data.toList t)) := by
  have HN := Lib.hid (isname_any s w hs)
  have HP := Lib.hid (place_any r lv m t s w h hm)
  have hml : m.length ≤ 1000000 := by rw [h.len]; exact hm
  have HI := Lib.hid h
  obtain ⟨A, cap, hlv, hd, hcap⟩ := h.form
  obtain ⟨c0, c1, c2, c3, c4⟩ := hd.cells
  have hst : stRead s.data.toList t = if t.off then ((5 : Int), []) else if okN s.data.toList then (match found m s with | some e => ((0 : Int), e.zs) | none => (2, [])) else (1, []) := by
    unfold stRead
    rw [h.get]
    cases found m s <;> rfl
  rw [hst]
  have HUP := Lib.hid h.up
  clear h hst hd
  cases hoff : t.off with
  | true =>
    rw [hoff] at c4
    rw [if_pos rfl]
    generalize okN s.data.toList = ok at *
    go_enter Tryz.func89, Tryz.ntmps89
    go_wp2_with (go_at_call 86; refine HN.out.mono ?_; rintro e w' ⟨rfl, rfl⟩)
    go_ret2
    exact ⟨none, 0, 0, rfl, Sl.nil w, by omega, Below.refl _ _⟩
  | false =>
    rw [hoff] at c4
    rw [if_neg (by simp)]
    cases hok : okN s.data.toList with
    | false =>
      rw [hok] at HN
      rw [if_neg (by simp)]
      go_enter Tryz.func89, Tryz.ntmps89
      go_wp2_with (go_at_call 86; refine HN.out.mono ?_; rintro e w' ⟨rfl, rfl⟩)
      go_ret2
      exact ⟨none, 0, 0, rfl, Sl.nil _, by omega, Below.refl _ _⟩
    | true =>
      rw [hok] at HN
      rw [if_pos rfl]
      cases hf : found m s with
      | none =>
        rw [plc_lost hf] at HP
        simp only
        go_enter Tryz.func89, Tryz.ntmps89
        go_wp2_with (first | (go_at_call 86; refine HN.out.mono ?_; rintro e w' ⟨rfl, rfl⟩) | (go_at_call 48; refine HP.out.mono ?_; rintro e w' ⟨rfl, rfl⟩))
        go_ret2
        exact ⟨none, 0, 0, rfl, Sl.nil _, by omega, Below.refl _ _⟩
      | some e =>
        obtain ⟨k, hk, hpl, hke⟩ := plc_found HUP.out hf
        rw [hpl] at HP
        simp only
        obtain ⟨q, cap2, hv, hc1, hc2, k0, k1, k2, _⟩ := HI.out.cell k hk
        rw [hv] at hlv
        cases hlv
        obtain ⟨BA, bc, hbv, hsl⟩ := HI.out.byt m[k] (List.getElem_mem hk)
        rw [hke] at hbv hsl
        rw [hke, hbv] at k1
        have hl : e.zs.length ≤ 16777216 := by
          have h1 := total_del (f := e.fil) HI.out.good.up (x := s.data.toList) (by rw [HI.out.get, hf]; rfl)
          have h2 := HI.out.good.fits
          have h3 := HI.out.good.room2
          have h4 : e.fil.2.1.length = e.zs.length := rfl
          omega
        have p1 := fun o => cell_past c1 o
        have q1 := fun o => cell_past k1 o
        have HO := Lib.hid (Own.made w w (Below.refl _ _))
        have HR := Lib.hid (hsl.1.below HO.out.1)
        have HA := Lib.hid hsl.2.2.2.1
        unfold noneBlk at HO HR
        clear hsl hbv hpl hv
        generalize hn : e.zs.length = n at *
        have HL := Lib.hid hn
        clear hn
        go_enter Tryz.func89, Tryz.ntmps89
        go_wp2_with (first | (go_at_call 86; refine HN.out.mono ?_; rintro e w' ⟨rfl, rfl⟩) | (go_at_call 48; refine HP.out.mono ?_; rintro e w' ⟨rfl, rfl⟩) | (at_builtin; refine wpList_append_rd rfl _ _ rfl w _ [] rfl HO.out BA n bc e.zs rfl HA.out HR.out (by simp; omega) ?_; intro v2 w2 hO2 _ _; rw [List.nil_append] at hO2; have HO2 := Lib.hid hO2; clear hO2))
        go_ret2
        obtain ⟨A2, cap2, hv2, hs2, _⟩ := HO2.out.sl n HL.out
        subst hv2
        exact ⟨A2, n, cap2, rfl, hs2, hl, HO2.out.1⟩
end Go.Proofs.YtejphnbhcabchaaGreat.Dk

namespace Go.Proofs.YtejphnbhcabchaaGreat.Dk
open Go.RowKit Go.Proofs.YtejphnbhcabchaaGreat.Fld

theorem string_info : ∃ i, Tryz.prog.info? 9 = some i ∧ i.zero = some (.string ByteArray.empty) ∧ i.size = 1 ∧ i.bytes = 16 := by
  have h : (Tryz.prog.info? 9).map (fun i => (i.zero, i.size, i.bytes)) = some (some (.string ByteArray.empty), 1, 16) := by kernel_rfl
  cases hq : Tryz.prog.info? 9 with
  | none => simp [hq] at h
  | some i => simp [hq] at h; exact ⟨i, rfl, h⟩
set_option maxRecDepth 100000 in
theorem wpList_append_name {w : World} {ops : Array Oper} {rest : List Oper} {o : Oper} {a : Act} {Q : Exit → Act → World → Prop} (hgd : o.guard = none) (s x : Operand)
    (ho : o.op = .call { callee := .builtin .append, args := #[s, x], argTypes := #[79, 79] })
    (base : Nat) (v : Value) (n1 : Nat) (xs : List Nm) (hs : a.eval s = v) (hown : w.ownsRow base 9 1 v n1 (xs.map encStr))
    (ad : Addr) (y : Nm) (hx : a.eval x = .slice (some ad) 1 1) (hr : w.cell? ad = some (encStr y)) (hsp : ad.spot = none) (hb : n1 + 1 ≤ 2000000) (hbase : base ≤ w.heap.size)
    (h : ∀ v' w', w'.ownsRow base 9 1 v' (n1 + 1) ((xs ++ [y]).map encStr) → w.grownBy w' v.ownBlock → (v'.ownBlock = v.ownBlock ∨ v'.ownBlock = some w.heap.size) → wpList Tryz.prog ops Q rest (a.put o.dst v') w') : wpList Tryz.prog ops Q (o :: rest) a w := by
  obtain ⟨i, hi, hz, hsz, hby⟩ := string_info
  refine wpList_append_own_at w hgd s x _ ho base 9 i _ 1 16 Tryz.underlying79 hi hz hsz hby rfl (by omega) v _ _ hs hown ad 1 1 [encStr y] hx rfl ?_ (by intro u hu; simp at hu; subst hu; rfl) (by unfold maxLen; omega) (by omega) hbase ?_
  · intro j u hu
    rcases j with _ | j
    · simp at hu
      subst hu
      have : ad.add 0 = ad := by
        obtain ⟨b, off, sp⟩ := ad
        simp [Addr.add]
      rw [this]
      exact hr
    · simp at hu
  · intro v' w' hrow hg _ hat
    refine h v' w' ?_ hg hat
    rw [List.map_append]
    exact hrow
def NmR (w : World) (m : List Ent) (v i : Value) (wr : World) : Prop := ∃ k : Nat, k ≤ m.length ∧ i = .int .i64 (k : Int) ∧ wr.ownsRow w.heap.size 9 1 v k (((m.take k).map Ent.nm).map encStr) ∧ Below w.heap.size w wr
theorem srow_form {w : World} {base : Nat} {v : Value} {n : Nat} {xs : List Value} (h : w.ownsRow base 9 1 v n xs) : ∃ A cap, v = .slice A n cap ∧ ∀ i, v.ownBlock = some i → base ≤ i ∧ i < w.heap.size := by
  rcases h.2 with ⟨rfl, rfl⟩ | ⟨q, cap, cur, rfl, hg, hq, _⟩
  · exact ⟨none, 0, rfl, fun i hi => by cases hi⟩
  · exact ⟨_, cap, rfl, fun i hi => by cases hi; exact ⟨hg, (Array.getElem?_eq_some_iff.1 hq).1⟩⟩
theorem srow_alloc {w1 : World} {base n : Nat} {v : Value} {xs : List Value} (h : w1.ownsRow base 9 1 v n xs) (o : Obj) : (w1.alloc o).ownsRow base 9 1 v n xs := by
  refine ⟨h.1, ?_⟩
  rcases h.2 with h | ⟨q, cap, cur, hv, hg, hq, r⟩
  · exact .inl h
  · exact .inr ⟨q, cap, cur, hv, hg, (Below.heap_alloc _ _ _ (Array.getElem?_eq_some_iff.1 hq).1).trans hq, r⟩
set_option maxRecDepth 100000 in
set_option maxHeartbeats 3200000 in
theorem rnames_any (r : Nat) (lv : Value) (m : List Ent) (t : St) (w : World) (h : Rf w r lv m t) (hm : t.fs.length ≤ 1000000) : Calls Tryz.prog 77 #[.pointer (some ⟨r, 0, none⟩)] w (NamesAre w m) := by
  have hml : m.length ≤ 1000000 := by rw [h.len]; exact hm
  have HI := Lib.hid h
  obtain ⟨A, cap, hlv, hd, hcap⟩ := h.form
  have HLV := Lib.hid hlv
  clear h hd hlv
  go_enter Tryz.func77, Tryz.ntmps77
  go_wp2
  go_loopw [3, 4] (fun v i wr => NmR w m v i wr) (fun _ i _ => m.length - (intOf i).toNat)
  case atStart => exact ⟨0, Nat.zero_le _, rfl, ⟨rfl, .inl ⟨rfl, rfl⟩⟩, Below.refl _ _⟩
  case round =>
    obtain ⟨k, hk, rfl, hrow, hb⟩ := hrel
    have hIr := HI.out.of_blocks (w' := wr) fun i hi => hb.block i (by
      simp only [rfoot, List.mem_cons, List.mem_append, Option.mem_toList] at hi
      rcases hi with rfl | hi | hi
      · exact HI.out.lt.1
      · exact HI.out.lt.2 i hi
      · exact HI.out.bl i hi)
    obtain ⟨A', cap', hlv', hd', _⟩ := hIr.form
    rw [HLV.out] at hlv'
    obtain ⟨rfl, rfl⟩ : A = A' ∧ cap = cap' := by
      injection hlv' with e1 e2 e3
      exact ⟨e1, e3⟩
    obtain ⟨c0, c1, c2, c3, c4⟩ := hd'.cells
    obtain ⟨VA, vc, hvv, hvb⟩ := srow_form hrow
    by_cases hlt : k < m.length
    · obtain ⟨q, cap2, hv, _, _, k0, k1, k2, _⟩ := hIr.cell k hlt
      rw [HLV.out] at hv
      obtain ⟨rfl, rfl⟩ : A = some ⟨q, 0, none⟩ ∧ cap = cap2 := by
        injection hv with e1 e2 e3
        exact ⟨e1, e3⟩
      have HROW := Lib.hid (srow_alloc hrow (.cells #[.string ⟨m[k].nm.toArray⟩] 9))
      have HB := Lib.hid hb
      have HVB := Lib.hid hvb
      have HC := Lib.hid (new_cell wr (encStr m[k].nm) 9)
      have HT := Lib.hid (show ((m.take k).map Ent.nm) ++ [m[k].nm] = (m.take (k + 1)).map Ent.nm by rw [show m.take (k + 1) = m.take k ++ [m[k]] by rw [List.take_add_one, List.getElem?_eq_getElem hlt]; rfl, List.map_append]; rfl)
      have hsz := hb.size
      subst hvv
      clear hrow hb hvb hIr hd' hv hlv'
      go_wp2_with (at_builtin; refine wpList_append_name rfl _ _ rfl w.heap.size (.slice VA k vc) k ((m.take k).map Ent.nm) rfl HROW.out ⟨wr.heap.size, 0, none⟩ m[k].nm rfl HC.out rfl (by omega) (by simp; omega) ?_; intro v2 w2 hrow2 hg2 _; rw [HT.out] at hrow2; have HROW2 := Lib.hid hrow2; have HB2 := Lib.hid (((HB.out.alloc (by omega) _)).grown hg2 (by simp; omega) (fun i hi => (HVB.out i hi).1)); clear hrow2 hg2)
      go_roundw
      case rel => exact ⟨k + 1, by omega, by go_num, HROW2.out, HB2.out⟩
      case measure => simp [intOf]; omega
    · obtain rfl : k = m.length := by omega
      have hfin : ∃ A cap, VA = A ∧ vc = cap ∧ RdS wr A m.length (m.map fun e => ⟨e.nm.toArray⟩) ∧ ∀ a, A = some a → w.heap.size ≤ a.block ∧ a.block < wr.heap.size := by
        rw [List.take_length] at hrow
        have hrow2 : wr.ownsRow w.heap.size 9 1 (.slice VA m.length vc) (m.map Ent.nm).length ((m.map Ent.nm).map encStr) := by rw [List.length_map, ← hvv]; exact hrow
        obtain ⟨A2, c2', hv2, hr2, _, _, hbl2⟩ := rds_of_row (by simp; omega) hrow2
        injection hv2 with e1 e2 e3
        rw [List.length_map] at hr2
        refine ⟨A2, c2', e1, e3, ?_, hbl2⟩
        rw [List.map_map] at hr2
        exact hr2
      obtain ⟨A2, c2', rfl, rfl, hr2, hbl2⟩ := hfin
      have HRD := Lib.hid hr2
      have HBL := Lib.hid hbl2
      have HB := Lib.hid hb
      subst hvv
      clear hrow hb hvb hIr hd' hlv' hr2 hbl2
      go_wp2
      go_ret
      exact ⟨_, _, rfl, HRD.out, HBL.out, HB.out⟩
end Go.Proofs.YtejphnbhcabchaaGreat.Dk

namespace Go.Proofs.YtejphnbhcabchaaGreat.Dk
open Go.RowKit Go.Proofs.YtejphnbhcabchaaGreat.Fld

theorem Rf.foot_lt {w : World} {r : Nat} {lv : Value} {m : List Ent} {t : St} (h : Rf w r lv m t) : ∀ i ∈ rfoot r lv m, i < w.heap.size := by
  intro i hi
  simp only [rfoot, List.mem_cons, List.mem_append, Option.mem_toList] at hi
  rcases hi with rfl | hi | hi
  · exact h.lt.1
  · exact h.lt.2 i hi
  · exact h.bl i hi
structure Pair (w0 w : World) (g b : Nat) (m : List Ent) (t : St) (r : Nat) (lv : Value) (mr : List Ent) (tr : St) : Prop where
  sn : Sn w0 w g b m t
  rf : Rf w r lv mr tr
  new : ∀ i ∈ rfoot r lv mr, w0.heap.size ≤ i
  apart : ∀ i ∈ g :: b :: blks m, i ∉ rfoot r lv mr
theorem Pair.below {w0 w w' : World} {g b : Nat} {m : List Ent} {t : St} {r : Nat} {lv : Value} {mr : List Ent} {tr : St} (h : Pair w0 w g b m t r lv mr tr) (hb : Below w.heap.size w w') : Pair w0 w' g b m t r lv mr tr :=
  ⟨h.sn.below hb, h.rf.of_blocks fun i hi => hb.block i (h.rf.foot_lt i hi), h.new, h.apart⟩
/-- the program's disk did something -/
theorem Pair.left {w0 w w' : World} {g b : Nat} {m : List Ent} {t t' : St} {r : Nat} {lv : Value} {mr : List Ent} {tr : St} (h : Pair w0 w g b m t r lv mr tr) (hL : Left w g b m t' w') : ∃ m', Pair w0 w' g b m' t' r lv mr tr := by
  obtain ⟨m', h1, h2, h3⟩ := hL
  refine ⟨m', ⟨⟨h1, h2.to_below h.sn.2.1 h.sn.2.2, ?_⟩, h.rf.of_blocks fun i hi => h2.block i (h.rf.foot_lt i hi) (fun hm => h.apart i hm hi), h.new, ?_⟩⟩
  · intro i hi
    simp only [List.mem_cons] at hi
    rcases hi with rfl | rfl | hi
    · exact h.sn.2.2 _ (by simp)
    · exact h.sn.2.2 _ (by simp)
    · rcases h3 i hi with h4 | h4
      · exact h.sn.2.2 i (by simp [h4])
      · exact Nat.le_trans h.sn.2.1.size h4
  · intro i hi hr
    simp only [List.mem_cons] at hi
    rcases hi with rfl | rfl | hi
    · exact h.apart _ (by simp) hr
    · exact h.apart _ (by simp) hr
    · rcases h3 i hi with h4 | h4
      · exact h.apart i (by simp [h4]) hr
      · have := h.rf.foot_lt i hr; omega
/-- the document's own disk did something -/
theorem Pair.rleft {w0 w w' : World} {g b : Nat} {m : List Ent} {t : St} {r : Nat} {lv : Value} {mr : List Ent} {tr tr' : St} (h : Pair w0 w g b m t r lv mr tr) (hL : RLeft w r lv mr tr' w') : ∃ lv' mr', Pair w0 w' g b m t r lv' mr' tr' := by
  obtain ⟨lv', mr', h1, h2, h3⟩ := hL
  have hsub : ∀ i ∈ r :: lv.ownBlock.toList, i ∈ rfoot r lv mr := by
    intro i hi
    simp only [rfoot, List.mem_cons, List.mem_append] at hi ⊢
    rcases hi with hi | hi
    · exact .inl hi
    · exact .inr (.inl hi)
  refine ⟨lv', mr', ⟨⟨h.sn.1.frame h2 (fun i hi hm => h.apart i hm (hsub i hi)), h2.to_below h.sn.2.1 (fun i hi => h.new i (hsub i hi)), h.sn.2.2⟩, h1, ?_, ?_⟩⟩
  · intro i hi
    rcases h3 i hi with h4 | h4
    · exact h.new i h4
    · exact Nat.le_trans h.sn.2.1.size h4
  · intro i hi hr
    rcases h3 i hr with h4 | h4
    · exact h.apart i hi h4
    · have := h.sn.1.lt i hi; omega
/-- bytes that were there ahead of both are as they were -/
theorem Pair.rd {w0 w : World} {g b : Nat} {m : List Ent} {t : St} {r : Nat} {lv : Value} {mr : List Ent} {tr : St} (h : Pair w0 w g b m t r lv mr tr) {A : Option Addr} {n : Nat} {zs : List Int} (hr : Rd w0 A n zs) : Rd w A n zs := hr.below h.sn.2.1
/-- a new one -/
theorem rnew_rf (room : Nat) (w : World) (h1 : 1 ≤ room) (h2 : room ≤ 16777216) : Calls Tryz.prog 10 #[.int .i64 (room : Int)] w fun e w' =>
    ∃ r, e = .returned (.tuple #[.pointer (some ⟨r, 0, none⟩), .int .i64 0]) ∧ w.heap.size ≤ r ∧ Rf w' r (.slice none 0 0) [] (st0 room) ∧ Below w.heap.size w w' := by
  refine (rnew_ok (room : Int) w (by omega) (by omega)).mono ?_
  rintro e w' ⟨r, he, hr, hd, hB⟩
  exact ⟨r, he, hr, ⟨⟨none, 0, 0, rfl, hd⟩, ⟨rfl, .inl ⟨rfl, rfl⟩⟩, (fun e he => by simp at he), rfl, good0 room h1 h2, ⟨(fun h => by cases h), (fun i hi => by simp [blks] at hi)⟩, (fun k hk => by cases hk), (fun k hk => by cases hk), (fun i hi => by simp [blks] at hi)⟩, hB⟩
/-- both, side by side -/
theorem Pair.start {w0 w w' : World} {g b : Nat} {m : List Ent} {t : St} {r : Nat} {tr : St} (h : Sn w0 w g b m t) (hr : w.heap.size ≤ r) (hR : Rf w' r (.slice none 0 0) [] tr) (hB : Below w.heap.size w w') : Pair w0 w' g b m t r (.slice none 0 0) [] tr := by
  refine ⟨h.below hB, hR, ?_, ?_⟩
  · intro i hi
    simp [rfoot, Value.ownBlock, blks] at hi
    have := h.2.1.size
    omega
  · intro i hi hm
    simp [rfoot, Value.ownBlock, blks] at hm
    have := h.1.lt i hi
    omega
end Go.Proofs.YtejphnbhcabchaaGreat.Dk
