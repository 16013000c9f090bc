/-
  The document's own disk in memory (Rf). Conditions: as each theorem states.
-/
import Derived.Test.YthdpdhjhpbkhaaaDiskSn
namespace Go.Proofs.Ythdpdhjhpbkhaaa.Dk
open Go.RowKit Go.Proofs.Ythdpdhjhpbkhaaa.Fld

def cells3 (e : Ent) : List Value := [.string ⟨e.nm.toArray⟩, e.v, .int .i64 (e.s : Int)]
def rowOf (m : List Ent) : List Value := m.flatMap cells3
def sched (o : Option Nat) : Int := match o with | none => -1 | some k => (k : Int)
def BytesAt (w : World) (e : Ent) : Prop := ∃ A cap, e.v = .slice A e.zs.length cap ∧ Sl w A e.zs.length cap e.zs
def DsrT (w : World) (r : Nat) (lv : Value) (t : St) : Prop := ∃ A n cap, lv = .slice A n cap ∧ Dsr w r (t.room : Int) A n cap (sched t.fail) (sched t.arm) t.off
structure Rf (w : World) (r : Nat) (lv : Value) (m : List Ent) (t : St) : Prop where
  dsr : DsrT w r lv t
  row : w.ownsRow 0 75 3 lv m.length (rowOf m)
  byt : ∀ e ∈ m, BytesAt w e
  fs : t.fs = m.map Ent.fil
  good : Good t
  ne : lv.ownBlock ≠ some r ∧ ∀ i ∈ blks m, i ≠ r ∧ lv.ownBlock ≠ some i
  fl : ∀ k, t.fail = some k → k ≤ 9223372036854775807
  al : ∀ k, t.arm = some k → k ≤ 9223372036854775807
  bl : ∀ i ∈ blks m, i < w.heap.size
def rfoot (r : Nat) (lv : Value) (m : List Ent) : List Nat := r :: (lv.ownBlock.toList ++ blks m)

theorem Dsr.cells {w : World} {r : Nat} {room : Int} {A : Option Addr} {n cap : Nat} {fl al : Int} {down : Bool} (h : Dsr w r room A n cap fl al down) :
    w.cell? ⟨r, 0, none⟩ = some (.int .i64 room) ∧ w.cell? ⟨r, 1, none⟩ = some (.slice A n cap) ∧ w.cell? ⟨r, 2, none⟩ = some (.int .i64 fl) ∧ w.cell? ⟨r, 3, none⟩ = some (.int .i64 al) ∧ w.cell? ⟨r, 4, none⟩ = some (.bool down) :=
  ⟨by rw [cell_of_row w r 0 _ _ (0, 0) h]; rfl, by rw [cell_of_row w r 1 _ _ (0, 0) h]; rfl, by rw [cell_of_row w r 2 _ _ (0, 0) h]; rfl, by rw [cell_of_row w r 3 _ _ (0, 0) h]; rfl, by rw [cell_of_row w r 4 _ _ (0, 0) h]; rfl⟩
theorem Dsr.free {w : World} {r : Nat} {room : Int} {A : Option Addr} {n cap : Nat} {fl al : Int} {down : Bool} (h : Dsr w r room A n cap fl al down) (i : Nat) : w.frozen? ⟨r, i, none⟩ = false := frozen_of_row w r i _ _ h
theorem Dsr.lt {w : World} {r : Nat} {room : Int} {A : Option Addr} {n cap : Nat} {fl al : Int} {down : Bool} (h : Dsr w r room A n cap fl al down) : r < w.heap.size := by
  rcases Nat.lt_or_ge r w.heap.size with h' | h'
  · exact h'
  · unfold Dsr at h; rw [Array.getElem?_eq_none h'] at h; cases h
section
variable {w : World} {r : Nat} {room : Int} {A : Option Addr} {n cap : Nat} {fl al : Int} {down : Bool}
theorem Dsr.set1 (h : Dsr w r room A n cap fl al down) (A' : Option Addr) (n' cap' : Nat) : Dsr (w.setCell ⟨r, 1, none⟩ (.slice A' n' cap')) r room A' n' cap' fl al down := heap_setCell_same w r 1 _ _ _ h
theorem Dsr.set2 (h : Dsr w r room A n cap fl al down) (x : Int) : Dsr (w.setCell ⟨r, 2, none⟩ (.int .i64 x)) r room A n cap x al down := heap_setCell_same w r 2 _ _ _ h
theorem Dsr.set3 (h : Dsr w r room A n cap fl al down) (x : Int) : Dsr (w.setCell ⟨r, 3, none⟩ (.int .i64 x)) r room A n cap fl x down := heap_setCell_same w r 3 _ _ _ h
theorem Dsr.set4 (h : Dsr w r room A n cap fl al down) (x : Bool) : Dsr (w.setCell ⟨r, 4, none⟩ (.bool x)) r room A n cap fl al x := heap_setCell_same w r 4 _ _ _ h
theorem Dsr.of_block {w' : World} (h : Dsr w r room A n cap fl al down) (hb : w'.heap[r]? = w.heap[r]?) : Dsr w' r room A n cap fl al down := hb.trans h
end
theorem DsrT.of_block {w w' : World} {r : Nat} {lv : Value} {t : St} (h : DsrT w r lv t) (hb : w'.heap[r]? = w.heap[r]?) : DsrT w' r lv t := by
  obtain ⟨A, n, cap, h1, h2⟩ := h
  exact ⟨A, n, cap, h1, h2.of_block hb⟩
theorem row_of_block {w w' : World} {lv : Value} {n : Nat} {xs : List Value} (h : w.ownsRow 0 75 3 lv n xs) (hb : ∀ i, lv.ownBlock = some i → w'.heap[i]? = w.heap[i]?) : w'.ownsRow 0 75 3 lv n xs := by
  obtain ⟨h1, h2⟩ := h
  refine ⟨h1, ?_⟩
  rcases h2 with h2 | ⟨q, cap, cur, hv, hg, hq, r⟩
  · exact .inl h2
  · exact .inr ⟨q, cap, cur, hv, hg, (hb q (by rw [hv]; rfl)).trans hq, r⟩
theorem BytesAt.of_block {w w' : World} {e : Ent} (h : BytesAt w e) (hb : ∀ i, e.v.ownBlock = some i → w'.heap[i]? = w.heap[i]?) : BytesAt w' e := by
  obtain ⟨A, cap, hv, hs⟩ := h
  refine ⟨A, cap, hv, ?_, hs.2⟩
  obtain ⟨h1, h2, h3, h4⟩ := hs.1
  refine ⟨h1, h2, h3, fun hn => ?_⟩
  obtain ⟨b, off, rfl, hc⟩ := h4 hn
  exact ⟨b, off, rfl, fun i hi => (World.cell?_of_block (w := w) (hb b (by rw [hv]; rfl))).trans (hc i hi)⟩
theorem Rf.lt {w : World} {r : Nat} {lv : Value} {m : List Ent} {t : St} (h : Rf w r lv m t) : r < w.heap.size ∧ ∀ i, lv.ownBlock = some i → i < w.heap.size := by
  obtain ⟨A, n, cap, _, hd⟩ := h.dsr
  refine ⟨hd.lt, fun i hi => ?_⟩
  rcases h.row.2 with ⟨hv, _⟩ | ⟨q, cap, cur, hv, _, hq, _⟩
  · rw [hv] at hi; cases hi
  · rw [hv] at hi; cases hi; exact (Array.getElem?_eq_some_iff.1 hq).1
theorem Rf.of_blocks {w w' : World} {r : Nat} {lv : Value} {m : List Ent} {t : St} (h : Rf w r lv m t) (hb : ∀ i ∈ rfoot r lv m, w'.heap[i]? = w.heap[i]?) : Rf w' r lv m t := by
  refine ⟨h.dsr.of_block (hb r (by simp [rfoot])), row_of_block h.row (fun i hi => hb i (by simp [rfoot, hi])), fun e he => (h.byt e he).of_block fun i hi => hb i ?_, h.fs, h.good, h.ne, h.fl, h.al, fun i hi => ?_⟩
  · have : i ∈ blks m := mem_blks.2 ⟨e, he, hi⟩
    simp [rfoot, this]
  · have h1 := h.bl i hi
    have h2 := hb i (by simp [rfoot, hi])
    rw [Array.getElem?_eq_getElem h1] at h2
    exact (Array.getElem?_eq_some_iff.1 h2).1
theorem rowOf_len (m : List Ent) : (rowOf m).length = m.length * 3 := by
  unfold rowOf
  induction m with
  | nil => rfl
  | cons e r ih => rw [List.flatMap_cons, List.length_append, ih]; simp [cells3]; omega
theorem rowOf_at (m : List Ent) (k j : Nat) (hk : k < m.length) (hj : j < 3) : (rowOf m)[k * 3 + j]? = (cells3 m[k])[j]? := by
  unfold rowOf
  induction m generalizing k with
  | nil => simp at hk
  | cons e r ih =>
    rw [List.flatMap_cons]
    cases k with
    | zero =>
      rw [List.getElem?_append_left (by simp [cells3]; omega)]
      simp
    | succ k =>
      rw [List.getElem?_append_right (by simp [cells3]; omega)]
      have : (k + 1) * 3 + j - (cells3 e).length = k * 3 + j := by simp [cells3]; omega
      rw [this, ih k (by simpa using hk)]
      rfl
/-- the cells of a file -/
theorem Rf.cell {w : World} {r : Nat} {lv : Value} {m : List Ent} {t : St} (h : Rf w r lv m t) (k : Nat) (hk : k < m.length) : ∃ q cap, lv = .slice (some ⟨q, 0, none⟩) m.length cap ∧ m.length ≤ cap ∧ cap ≤ maxLen ∧
    w.cell? ⟨q, k * 3, none⟩ = some (.string ⟨m[k].nm.toArray⟩) ∧ w.cell? ⟨q, k * 3 + 1, none⟩ = some m[k].v ∧ w.cell? ⟨q, k * 3 + 2, none⟩ = some (.int .i64 (m[k].s : Int)) ∧ (∀ i, w.frozen? ⟨q, i, none⟩ = false) := by
  rcases h.row.2 with ⟨_, h0⟩ | ⟨q, cap, cur, hv, _, hq, h1, h2, h3, h4⟩
  · omega
  · have hc : ∀ j, j < 3 → w.cell? ⟨q, k * 3 + j, none⟩ = (cells3 m[k])[j]? := by
      intro j hj
      rw [cell_of_row w q (k * 3 + j) cur _ (0, 0) hq, ← rowOf_at m k j hk hj, ← h4, List.getElem?_take, if_pos (by omega), Array.getElem?_toList]
    exact ⟨q, cap, hv, h1, h2, hc 0 (by omega), hc 1 (by omega), hc 2 (by omega), fun i => frozen_of_row w q i _ _ hq⟩
theorem Rf.up {w : World} {r : Nat} {lv : Value} {m : List Ent} {t : St} (h : Rf w r lv m t) : Up Ent.nm m := by
  have := h.good.up
  rw [h.fs] at this
  exact (map_up (k1 := Ent.nm) (k2 := Prod.fst) Ent.fil (fun _ => rfl)).1 this
theorem Rf.get {w : World} {r : Nat} {lv : Value} {m : List Ent} {t : St} (h : Rf w r lv m t) (s : ByteArray) : fget s.data.toList t.fs = (found m s).map Ent.fil := by
  rw [h.fs]
  exact (map_get (k1 := Ent.nm) (k2 := Prod.fst) Ent.fil (fun _ => rfl) _ _).symm
theorem Rf.len {w : World} {r : Nat} {lv : Value} {m : List Ent} {t : St} (h : Rf w r lv m t) : m.length = t.fs.length := by rw [h.fs]; simp
theorem Rf.form {w : World} {r : Nat} {lv : Value} {m : List Ent} {t : St} (h : Rf w r lv m t) : ∃ A cap, lv = .slice A m.length cap ∧ Dsr w r (t.room : Int) A m.length cap (sched t.fail) (sched t.arm) t.off ∧ m.length ≤ cap := by
  obtain ⟨A, n, cap, hv, hd⟩ := h.dsr
  rcases h.row.2 with ⟨hv2, h0⟩ | ⟨q, cap2, cur, hv2, _, _, h1, _⟩
  · rw [hv] at hv2
    cases hv2
    exact ⟨none, 0, by rw [h0]; exact hv, by rw [h0]; exact hd, by omega⟩
  · rw [hv] at hv2
    cases hv2
    exact ⟨_, _, hv, hd, h1⟩

/-- where a file stands -/
def plc (m : List Ent) (s : ByteArray) : Int := match m.findIdx? (fun e => e.nm == s.data.toList) with | some i => (i : Int) | none => -1
theorem plc_some {m : List Ent} {s : ByteArray} {k : Nat} (hk : k < m.length) (h : m[k].nm = s.data.toList) (hb : ∀ j (hj : j < m.length), j < k → m[j].nm ≠ s.data.toList) : plc m s = (k : Int) := by
  unfold plc
  have : m.findIdx? (fun e => e.nm == s.data.toList) = some k := by
    rw [List.findIdx?_eq_some_iff_getElem]
    exact ⟨hk, by simpa using h, fun j hj => by simpa using hb j (by omega) hj⟩
  rw [this]
theorem plc_none {m : List Ent} {s : ByteArray} (hb : ∀ j (hj : j < m.length), m[j].nm ≠ s.data.toList) : plc m s = -1 := by
  unfold plc
  have : m.findIdx? (fun e => e.nm == s.data.toList) = none := by
    rw [List.findIdx?_eq_none_iff]
    intro e he
    obtain ⟨j, hj, rfl⟩ := List.getElem_of_mem he
    simpa using hb j hj
  rw [this]
theorem str_nm (x : Nm) (s : ByteArray) : (x == s.toList) = (x == s.data.toList) := by
  rw [ByteArray.toList_eq]
set_option maxRecDepth 100000 in
set_option maxHeartbeats 3200000 in
theorem place_any (r : Nat) (lv : Value) (m : List Ent) (t : St) (s : ByteArray) (w : World) (h : Rf w r lv m t) (hm : t.fs.length ≤ 1000000) : Calls Try.prog 46 #[.pointer (some ⟨r, 0, none⟩), .string s] w fun e w' => e = .returned (.int .i64 (plc m s)) ∧ w = w' := by
  have hml : m.length ≤ 1000000 := by rw [h.len]; exact hm
  have HI := Lib.hid h
  obtain ⟨A, cap, hlv, hd, hcap⟩ := h.form
  obtain ⟨c0, c1, c2, c3, c4⟩ := hd.cells
  have HLV := Lib.hid hlv
  clear h hd hlv
  go_enter Try.func46, Try.ntmps46
  go_wp2
  go_loop [5] (fun i => ∃ k : Nat, k ≤ m.length ∧ i = .int .i64 k ∧ ∀ j (hj : j < m.length), j < k → m[j].nm ≠ s.data.toList) (fun i => m.length - (intOf i).toNat)
  case atStart => exact ⟨0, Nat.zero_le _, rfl, fun j hj h => by omega⟩
  case round =>
    obtain ⟨k, hk, rfl, hall⟩ := hrel
    have HA := Lib.hid hall
    clear hall
    by_cases hlt : k < m.length
    · obtain ⟨q, cap2, hv, _, _, k0, k1, k2, _⟩ := HI.out.cell k hlt
      obtain ⟨rfl, rfl⟩ : A = some ⟨q, 0, none⟩ ∧ cap = cap2 := by
        have := HLV.out.symm.trans hv
        injection this with e1 e2 e3
        exact ⟨e1, e3⟩
      have hcmp := str_nm m[k].nm s
      cases hb : (m[k].nm == s.data.toList) with
      | true =>
        rw [hb] at hcmp
        have HP := Lib.hid (plc_some hlt (by simpa using hb) (fun j hj h => HA.out j hj h))
        clear hb
        generalize m[k].nm = x at *
        go_wp2
        go_ret
        exact ⟨by rw [HP.out]; rfl, rfl⟩
      | false =>
        rw [hb] at hcmp
        have HNE := Lib.hid (show m[k].nm ≠ s.data.toList by simpa using hb)
        have HA2 := Lib.hid (show ∀ j (hj : j < m.length), j < k + 1 → m[j].nm ≠ s.data.toList from fun j hj h => by
          rcases Nat.lt_or_eq_of_le (Nat.le_of_lt_succ h) with h1 | h1
          · exact HA.out j hj h1
          · subst h1; exact HNE.out)
        clear hb
        generalize m[k].nm = x at *
        go_wp2
        go_roundw
        case rel => exact ⟨k + 1, by omega, by go_num, HA2.out⟩
        case measure => simp [intOf]; omega
    · obtain rfl : k = m.length := by omega
      have HP := Lib.hid (plc_none (m := m) (s := s) (fun j hj => HA.out j hj hj))
      go_wp2
      go_ret
      exact ⟨by rw [HP.out]; rfl, rfl⟩
def RS (m : List Ent) (n i : Value) : Prop := ∃ k : Nat, k ≤ m.length ∧ i = .int .i64 (k : Int) ∧ n = .int .i64 ((total ((m.take k).map Ent.fil) : Nat) : Int)
theorem total_take (m : List Ent) (k : Nat) (hk : k < m.length) : total ((m.take (k + 1)).map Ent.fil) = total ((m.take k).map Ent.fil) + m[k].zs.length := by
  have h1 : m.take (k + 1) = m.take k ++ [m[k]] := by rw [List.take_add_one, List.getElem?_eq_getElem hk]; rfl
  rw [h1, List.map_append]
  unfold total
  rw [List.map_append, List.sum_append]
  rfl
theorem total_take_le (m : List Ent) (k : Nat) : total ((m.take k).map Ent.fil) ≤ total (m.map Ent.fil) := by
  induction m generalizing k with
  | nil => simp
  | cons e r ih =>
    cases k with
    | zero => simp [total]
    | succ k =>
      simp only [List.take_succ_cons, List.map_cons, total_cons]
      have := ih k
      omega
set_option maxRecDepth 100000 in
set_option maxHeartbeats 3200000 in
theorem rsize_any (r : Nat) (lv : Value) (m : List Ent) (t : St) (w : World) (h : Rf w r lv m t) (hm : t.fs.length ≤ 1000000) : Calls Try.prog 35 #[.pointer (some ⟨r, 0, none⟩)] w fun e w' => e = .returned (.int .i64 (total t.fs : Nat)) ∧ w = w' := by
  have hml : m.length ≤ 1000000 := by rw [h.len]; exact hm
  have HI := Lib.hid h
  obtain ⟨A, cap, hlv, hd, hcap⟩ := h.form
  obtain ⟨c0, c1, c2, c3, c4⟩ := hd.cells
  have HLV := Lib.hid hlv
  have HTB := Lib.hid (fun k => Nat.le_trans (total_take_le m k) (show total (m.map Ent.fil) ≤ 16777216 by rw [← h.fs]; exact Nat.le_trans h.good.fits h.good.room2))
  rw [h.fs]
  clear h hd hlv
  go_enter Try.func35, Try.ntmps35
  go_wp2
  go_loop [3, 4] (fun n i => RS m n i) (fun _ i => m.length - (intOf i).toNat)
  case atStart => exact ⟨0, Nat.zero_le _, rfl, rfl⟩
  case round =>
    obtain ⟨k, hk, rfl, rfl⟩ := hrel
    by_cases hlt : k < m.length
    · obtain ⟨q, cap2, hv, _, _, k0, k1, k2, _⟩ := HI.out.cell k hlt
      obtain ⟨rfl, rfl⟩ : A = some ⟨q, 0, none⟩ ∧ cap = cap2 := by
        have := HLV.out.symm.trans hv
        injection this with e1 e2 e3
        exact ⟨e1, e3⟩
      obtain ⟨BA, bc, hbv, _⟩ := HI.out.byt m[k] (List.getElem_mem hlt)
      have ht := total_take m k hlt
      have hb2 := HTB.out (k + 1)
      rw [hbv] at k1
      rw [ht] at hb2
      have HTK := Lib.hid ht
      clear ht hbv hv
      generalize m[k].zs.length = L at *
      generalize total ((m.take k).map Ent.fil) = T at *
      have hw : IntKind.i64.wrap ((T : Int) + (L : Int)) = (T : Int) + (L : Int) := IntWalk.i64_in _ (by omega)
      go_wp2
      go_roundw
      case rel => exact ⟨k + 1, by omega, by go_num, by rw [HTK.out]; simp⟩
      case measure => simp [intOf]; omega
    · obtain rfl : k = m.length := by omega
      go_wp2
      go_ret
      exact ⟨rfl, rfl⟩
end Go.Proofs.Ythdpdhjhpbkhaaa.Dk
