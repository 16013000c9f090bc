/-
  The document's own disk: Names. Conditions: it lies in memory as it was made (Rf).
-/
import Derived.Test.YthdpdhjhpbkhaaaDiskRefU
namespace Go.Proofs.Ythdpdhjhpbkhaaa.Dk
open Go.RowKit Go.Proofs.Ythdpdhjhpbkhaaa.Fld

theorem string_info : ∃ i, Try.prog.info? 9 = some i ∧ i.zero = some (.string ByteArray.empty) ∧ i.size = 1 ∧ i.bytes = 16 := by
  have h : (Try.prog.info? 9).map (fun i => (i.zero, i.size, i.bytes)) = some (some (.string ByteArray.empty), 1, 16) := by kernel_rfl
  cases hq : Try.prog.info? 9 with
  | none => simp [hq] at h
  | some i => simp [hq] at h; exact ⟨i, rfl, h⟩
set_option maxRecDepth 100000 in
theorem wpList_append_name {w : World} {ops : Array Oper} {rest : List Oper} {o : Oper} {a : Act} {Q : Exit → Act → World → Prop} (hgd : o.guard = none) (s x : Operand)
    (ho : o.op = .call { callee := .builtin .append, args := #[s, x], argTypes := #[49, 49] })
    (base : Nat) (v : Value) (n1 : Nat) (xs : List Nm) (hs : a.eval s = v) (hown : w.ownsRow base 9 1 v n1 (xs.map encStr))
    (ad : Addr) (y : Nm) (hx : a.eval x = .slice (some ad) 1 1) (hr : w.cell? ad = some (encStr y)) (hsp : ad.spot = none) (hb : n1 + 1 ≤ 2000000) (hbase : base ≤ w.heap.size)
    (h : ∀ v' w', w'.ownsRow base 9 1 v' (n1 + 1) ((xs ++ [y]).map encStr) → w.grownBy w' v.ownBlock → (v'.ownBlock = v.ownBlock ∨ v'.ownBlock = some w.heap.size) → wpList Try.prog ops Q rest (a.put o.dst v') w') : wpList Try.prog ops Q (o :: rest) a w := by
  obtain ⟨i, hi, hz, hsz, hby⟩ := string_info
  refine wpList_append_own_at w hgd s x _ ho base 9 i _ 1 16 Try.underlying49 hi hz hsz hby rfl (by omega) v _ _ hs hown ad 1 1 [encStr y] hx rfl ?_ (by intro u hu; simp at hu; subst hu; rfl) (by unfold maxLen; omega) (by omega) hbase ?_
  · intro j u hu
    rcases j with _ | j
    · simp at hu
      subst hu
      have : ad.add 0 = ad := by
        obtain ⟨b, off, sp⟩ := ad
        simp [Addr.add]
      rw [this]
      exact hr
    · simp at hu
  · intro v' w' hrow hg _ hat
    refine h v' w' ?_ hg hat
    rw [List.map_append]
    exact hrow
def NmR (w : World) (m : List Ent) (v i : Value) (wr : World) : Prop := ∃ k : Nat, k ≤ m.length ∧ i = .int .i64 (k : Int) ∧ wr.ownsRow w.heap.size 9 1 v k (((m.take k).map Ent.nm).map encStr) ∧ Below w.heap.size w wr
theorem srow_form {w : World} {base : Nat} {v : Value} {n : Nat} {xs : List Value} (h : w.ownsRow base 9 1 v n xs) : ∃ A cap, v = .slice A n cap ∧ ∀ i, v.ownBlock = some i → base ≤ i ∧ i < w.heap.size := by
  rcases h.2 with ⟨rfl, rfl⟩ | ⟨q, cap, cur, rfl, hg, hq, _⟩
  · exact ⟨none, 0, rfl, fun i hi => by cases hi⟩
  · exact ⟨_, cap, rfl, fun i hi => by cases hi; exact ⟨hg, (Array.getElem?_eq_some_iff.1 hq).1⟩⟩
theorem srow_alloc {w1 : World} {base n : Nat} {v : Value} {xs : List Value} (h : w1.ownsRow base 9 1 v n xs) (o : Obj) : (w1.alloc o).ownsRow base 9 1 v n xs := by
  refine ⟨h.1, ?_⟩
  rcases h.2 with h | ⟨q, cap, cur, hv, hg, hq, r⟩
  · exact .inl h
  · exact .inr ⟨q, cap, cur, hv, hg, (Below.heap_alloc _ _ _ (Array.getElem?_eq_some_iff.1 hq).1).trans hq, r⟩
set_option maxRecDepth 100000 in
set_option maxHeartbeats 3200000 in
theorem rnames_any (r : Nat) (lv : Value) (m : List Ent) (t : St) (w : World) (h : Rf w r lv m t) (hm : t.fs.length ≤ 1000000) : Calls Try.prog 34 #[.pointer (some ⟨r, 0, none⟩)] w (NamesAre w m) := by
  have hml : m.length ≤ 1000000 := by rw [h.len]; exact hm
  have HI := Lib.hid h
  obtain ⟨A, cap, hlv, hd, hcap⟩ := h.form
  have HLV := Lib.hid hlv
  clear h hd hlv
  go_enter Try.func34, Try.ntmps34
  go_wp2
  go_loopw [3, 4] (fun v i wr => NmR w m v i wr) (fun _ i _ => m.length - (intOf i).toNat)
  case atStart => exact ⟨0, Nat.zero_le _, rfl, ⟨rfl, .inl ⟨rfl, rfl⟩⟩, Below.refl _ _⟩
  case round =>
    obtain ⟨k, hk, rfl, hrow, hb⟩ := hrel
    have hIr := HI.out.of_blocks (w' := wr) fun i hi => hb.block i (by
      simp only [rfoot, List.mem_cons, List.mem_append, Option.mem_toList] at hi
      rcases hi with rfl | hi | hi
      · exact HI.out.lt.1
      · exact HI.out.lt.2 i hi
      · exact HI.out.bl i hi)
    obtain ⟨A', cap', hlv', hd', _⟩ := hIr.form
    rw [HLV.out] at hlv'
    obtain ⟨rfl, rfl⟩ : A = A' ∧ cap = cap' := by
      injection hlv' with e1 e2 e3
      exact ⟨e1, e3⟩
    obtain ⟨c0, c1, c2, c3, c4⟩ := hd'.cells
    obtain ⟨VA, vc, hvv, hvb⟩ := srow_form hrow
    by_cases hlt : k < m.length
    · obtain ⟨q, cap2, hv, _, _, k0, k1, k2, _⟩ := hIr.cell k hlt
      rw [HLV.out] at hv
      obtain ⟨rfl, rfl⟩ : A = some ⟨q, 0, none⟩ ∧ cap = cap2 := by
        injection hv with e1 e2 e3
        exact ⟨e1, e3⟩
      have HROW := Lib.hid (srow_alloc hrow (.cells #[.string ⟨m[k].nm.toArray⟩] 9))
      have HB := Lib.hid hb
      have HVB := Lib.hid hvb
      have HC := Lib.hid (new_cell wr (encStr m[k].nm) 9)
      have HT := Lib.hid (show ((m.take k).map Ent.nm) ++ [m[k].nm] = (m.take (k + 1)).map Ent.nm by rw [show m.take (k + 1) = m.take k ++ [m[k]] by rw [List.take_add_one, List.getElem?_eq_getElem hlt]; rfl, List.map_append]; rfl)
      have hsz := hb.size
      subst hvv
      clear hrow hb hvb hIr hd' hv hlv'
      go_wp2_with (at_builtin; refine wpList_append_name rfl _ _ rfl w.heap.size (.slice VA k vc) k ((m.take k).map Ent.nm) rfl HROW.out ⟨wr.heap.size, 0, none⟩ m[k].nm rfl HC.out rfl (by omega) (by simp; omega) ?_; intro v2 w2 hrow2 hg2 _; rw [HT.out] at hrow2; have HROW2 := Lib.hid hrow2; have HB2 := Lib.hid (((HB.out.alloc (by omega) _)).grown hg2 (by simp; omega) (fun i hi => (HVB.out i hi).1)); clear hrow2 hg2)
      go_roundw
      case rel => exact ⟨k + 1, by omega, by go_num, HROW2.out, HB2.out⟩
      case measure => simp [intOf]; omega
    · obtain rfl : k = m.length := by omega
      have hfin : ∃ A cap, VA = A ∧ vc = cap ∧ RdS wr A m.length (m.map fun e => ⟨e.nm.toArray⟩) ∧ ∀ a, A = some a → w.heap.size ≤ a.block ∧ a.block < wr.heap.size := by
        rw [List.take_length] at hrow
        have hrow2 : wr.ownsRow w.heap.size 9 1 (.slice VA m.length vc) (m.map Ent.nm).length ((m.map Ent.nm).map encStr) := by rw [List.length_map, ← hvv]; exact hrow
        obtain ⟨A2, c2', hv2, hr2, _, _, hbl2⟩ := rds_of_row (by simp; omega) hrow2
        injection hv2 with e1 e2 e3
        rw [List.length_map] at hr2
        refine ⟨A2, c2', e1, e3, ?_, hbl2⟩
        rw [List.map_map] at hr2
        exact hr2
      obtain ⟨A2, c2', rfl, rfl, hr2, hbl2⟩ := hfin
      have HRD := Lib.hid hr2
      have HBL := Lib.hid hbl2
      have HB := Lib.hid hb
      subst hvv
      clear hrow hb hvb hIr hd' hlv' hr2 hbl2
      go_wp2
      go_ret
      exact ⟨_, _, rfl, HRD.out, HBL.out, HB.out⟩
end Go.Proofs.Ythdpdhjhpbkhaaa.Dk
