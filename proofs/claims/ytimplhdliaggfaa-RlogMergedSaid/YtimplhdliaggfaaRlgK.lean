/-
  Layer 8: the document's own log: New, Right, right, follow, Add, Commit, Apply, Reset, Compact. Conditions: the log lies in memory as it was made; what comes in lies in older memory.
-/
import Derived.Test.YtimplhdliaggfaaRlgJ
namespace Go.Proofs.Ytimplhdliaggfaa.Rg
open Go.RowKit Go.Proofs.Ytimplhdliaggfaa.Fld
set_option linter.unusedVariables false

/-- the document's own log in memory; its entries' bytes are those that came in -/
structure Rm (W0 w : World) (g : Nat) (s : St) (v : Value) (xs : List EA) : Prop where
  blk : Rb w g s.base s.bt v s.com s.app
  row : w.ownsRow W0.heap.size 36 4 v xs.length (rowE xs)
  dat : Dat W0 xs
  es : ens xs = s.es
  lo : W0.heap.size ≤ g
  ok : s.Ok
  old : Below W0.heap.size W0 w
theorem Rm.n {W0 w : World} {g : Nat} {s : St} {v : Value} {xs : List EA} (h : Rm W0 w g s v xs) : s.es.length = xs.length := by rw [← h.es, ens_len]
theorem Rm.slice {W0 w : World} {g : Nat} {s : St} {v : Value} {xs : List EA} (h : Rm W0 w g s v xs) : ∃ A cap, v = .slice A xs.length cap ∧ Lr w g s A xs.length cap xs ∧ xs.length ≤ cap ∧ cap ≤ maxLen ∧ (A = none → cap = 0) ∧ (∀ a, A = some a → a.spot = none ∧ a.off = 0) := by
  obtain ⟨A, cap, rfl, h1, h2, h3, h4⟩ := row_slice h.row
  refine ⟨A, cap, rfl, ⟨h.blk, row_rdE h.row (h.dat.below h.old), h.es, h.ok.b0, ?_⟩, h2, h3, fun h => (h4 h).1, h1⟩
  have := h.ok.bl
  unfold St.last at this
  rw [h.n] at this
  exact this
theorem Rm.foot {W0 w : World} {g : Nat} {s : St} {v : Value} {xs : List EA} (h : Rm W0 w g s v xs) : ∀ i ∈ g :: v.ownBlock.toList, W0.heap.size ≤ i ∧ i < w.heap.size := by
  intro i hi
  simp only [List.mem_cons, Option.mem_toList] at hi
  rcases hi with rfl | hi
  · exact ⟨h.lo, Blk.lt h.blk⟩
  · exact row_lo h.row i hi
theorem Rm.not8 {W0 w : World} {g : Nat} {s : St} {v : Value} {xs : List EA} (h : Rm W0 w g s v xs) : Not8 w (g :: v.ownBlock.toList) := by
  intro i hi cs hb
  simp only [List.mem_cons, Option.mem_toList] at hi
  rcases hi with rfl | hi
  · exact Blk.ne h.blk hb (by decide) rfl
  · exact row_ne h.row hb (by decide) hi
theorem Rm.fr {W0 w w' : World} {g : Nat} {s : St} {v : Value} {xs : List EA} {S : List Nat} (h : Rm W0 w g s v xs) (hf : Dk.Fr S w w') (hg : ∀ i ∈ g :: v.ownBlock.toList, i ∉ S) (hs : ∀ i ∈ S, W0.heap.size ≤ i) : Rm W0 w' g s v xs :=
  ⟨Blk.of h.blk (hf.block g (Blk.lt h.blk) (hg g (by simp))), row_of h.row (fun i hi => hf.block i (row_lo h.row i hi).2 (hg i (mem_foot hi))), h.dat, h.es, h.lo, h.ok, Dk.Fr.to_below h.old hf hs⟩
theorem Rm.below {W0 w w' : World} {g : Nat} {s : St} {v : Value} {xs : List EA} (h : Rm W0 w g s v xs) (hb : Below w.heap.size w w') : Rm W0 w' g s v xs :=
  h.fr (S := []) (Dk.Fr.below hb) (fun i _ h => by simp at h) (fun i hi => by simp at hi)
theorem Rm.still {W0 w w' : World} {g : Nat} {s : St} {v : Value} {xs : List EA} (h : Rm W0 w g s v xs) (hs : Still w w') : Rm W0 w' g s v xs := h.below (below_still hs (Nat.le_refl _))
theorem Rm.stored {W0 w w' : World} {g : Nat} {s' : St} {v' : Value} {zs : List EA} {base bt com app : Int} {v : Value} (hb : Rb w g base bt v com app) (hw : Rb w' g s'.base s'.bt v' s'.com s'.app) (hf : Dk.Fr [g] w w') (hr : w.ownsRow W0.heap.size 36 4 v' zs.length (rowE zs)) (hd : Dat W0 zs) (he : ens zs = s'.es) (hlo : W0.heap.size ≤ g) (ok : s'.Ok) (old : Below W0.heap.size W0 w) : Rm W0 w' g s' v' zs := by
  refine ⟨hw, row_of hr (fun i hi => hf.block i (row_lo hr i hi).2 (fun hm => ?_)), hd, he, hlo, ok, Dk.Fr.to_below old hf (fun i hi => by simp only [List.mem_singleton] at hi; subst hi; exact hlo)⟩
  simp only [List.mem_singleton] at hm
  subst hm
  exact row_ne hr hb (by decide) hi
/-- what a call leaves of the document's own log -/
structure DoneR (W0 w w' : World) (g : Nat) (v : Value) (s' : St) (v' : Value) (xs' : List EA) : Prop where
  im : Rm W0 w' g s' v' xs'
  fr : Dk.Fr (g :: v.ownBlock.toList) w w'
  at' : ∀ i, v'.ownBlock = some i → v.ownBlock = some i ∨ w.heap.size ≤ i
theorem DoneR.same {W0 w w' : World} {g : Nat} {s : St} {v : Value} {xs : List EA} (h : Rm W0 w g s v xs) (hb : Below w.heap.size w w') : DoneR W0 w w' g v s v xs := ⟨h.below hb, Dk.Fr.below hb, fun i hi => .inl hi⟩
theorem DoneR.to {W0 w w1 w' : World} {g : Nat} {s : St} {v v' : Value} {s' : St} {xs xs' : List EA} (h : Rm W0 w g s v xs) (hb : Below w.heap.size w w1) (k : DoneR W0 w1 w' g v s' v' xs') : DoneR W0 w w' g v s' v' xs' := by
  refine ⟨k.im, (Dk.Fr.below hb).same k.fr, fun i hi => ?_⟩
  rcases k.at' i hi with h1 | h1
  · exact .inl h1
  · have := hb.size; exact .inr (by omega)
/-- entries were appended to a row of the log, and the row stored in the log -/
theorem appendedR {W0 w5 w6 : World} {g m : Nat} {s' : St} {v0 vr v6 : Value} {xs ys : List EA} (hb : Rb w5 g s'.base s'.bt v0 s'.com s'.app) (hr : w5.ownsRow W0.heap.size 36 4 vr xs.length (rowE xs)) (hd : Dat W0 (xs ++ ys)) (hg : w5.grownBy w6 vr.ownBlock) (hr6 : w6.ownsRow W0.heap.size 36 4 v6 (xs.length + m) (rowE xs ++ rowE ys)) (hm : ys.length = m) (he : ens xs ++ ens ys = s'.es) (hlo : W0.heap.size ≤ g) (ok : s'.Ok) (old : Below W0.heap.size W0 w5) :
    Rm W0 (w6.setCell ⟨g, 2, none⟩ v6) g s' v6 (xs ++ ys) := by
  have hf : Dk.Fr vr.ownBlock.toList w5 w6 := (Dk.Fr.refl _ _).grown hg (fun i hi => .inl (by simp [hi]))
  have hb6 : Rb w6 g s'.base s'.bt v0 s'.com s'.app := Blk.of hb (hf.block g (Blk.lt hb) (fun hm => by
    simp only [Option.mem_toList] at hm
    exact row_ne hr hb (by decide) hm))
  refine Rm.stored hb6 (Blk.set hb6 2 v6 (by show 2 < 5; omega)) ((Dk.Fr.refl _ _).setCell _ (.inl (by simp)) _) ?_ hd (by rw [ens_append]; exact he) hlo ok (Dk.Fr.to_below old hf (fun i hi => by simp only [Option.mem_toList] at hi; exact (row_lo hr i hi).1))
  rw [List.length_append, rowE_append, hm]
  exact hr6
theorem rb_grown {w5 w6 : World} {lo g : Nat} {base bt com app : Int} {v0 vr : Value} {n : Nat} {xs : List Value} (hb : Rb w5 g base bt v0 com app) (hr : w5.ownsRow lo 36 4 vr n xs) (hg : w5.grownBy w6 vr.ownBlock) : Rb w6 g base bt v0 com app :=
  Blk.of hb (hg.block g (Blk.lt hb) (fun h => row_ne hr hb (by decide) h.symm))

theorem okN_iff (n : Int) : okN n = true ↔ 0 ≤ n ∧ n ≤ 1099511627776 := by simp [okN]
theorem rnew_ok (W0 : World) (b t : Int) (w : World) (hb0 : Below W0.heap.size W0 w) (hb : okN b = true) (ht : okN t = true) : Calls Try.prog 17 #[.int .i64 b, .int .i64 t] w fun e w' => ∃ g, e = .returned (.tuple #[.pointer (some ⟨g, 0, none⟩), .int .i64 0]) ∧ w.heap.size ≤ g ∧ Rm W0 w' g (st0 b t) (.slice none 0 0) [] ∧ Below w.heap.size w w' := by
  have HE := Lib.hid (Blk.new w (lgC b t (.slice none 0 0) b b) 64)
  have HB := Lib.hid (alloc_below' w (.cells (lgC b t (.slice none 0 0) b b) 64))
  have HO := Lib.hid (st0_ok hb ht)
  obtain ⟨b1, b2⟩ := (okN_iff b).1 hb
  obtain ⟨t1, t2⟩ := (okN_iff t).1 ht
  have HB0 := Lib.hid hb0
  have k1 : ¬ b < 0 := by omega
  have k2 : ¬ 1099511627776 < b := by omega
  have k3 : ¬ t < 0 := by omega
  have k4 : ¬ 1099511627776 < t := by omega
  clear hb ht hb0
  go_enter Try.func17, Try.ntmps17
  go_wp2
  go_ret2
  exact ⟨w.heap.size, rfl, Nat.le_refl _, ⟨HE.out, row_nil _ _ _ _, (fun x hx => by simp at hx), rfl, HB0.out.size, HO.out, HB0.out.alloc HB0.out.size _⟩, HB.out⟩
theorem rnew_bad (b t : Int) (w : World) (h : okN b = false ∨ okN t = false) : Calls Try.prog 17 #[.int .i64 b, .int .i64 t] w fun e w' => e = .returned (.tuple #[.pointer none, .int .i64 1]) ∧ w = w' := by
  have hh : ¬ (0 ≤ b ∧ b ≤ 1099511627776) ∨ ¬ (0 ≤ t ∧ t ≤ 1099511627776) := by
    rcases h with h | h
    · exact .inl (fun hh => by rw [(okN_iff b).2 hh] at h; cases h)
    · exact .inr (fun hh => by rw [(okN_iff t).2 hh] at h; cases h)
  clear h
  by_cases k1 : b < 0
  · clear hh
    go_enter Try.func17, Try.ntmps17
    go_wp2
    go_ret2
    exact ⟨rfl, rfl⟩
  by_cases k2 : 1099511627776 < b
  · clear hh
    go_enter Try.func17, Try.ntmps17
    go_wp2
    go_ret2
    exact ⟨rfl, rfl⟩
  by_cases k3 : t < 0
  · clear hh
    go_enter Try.func17, Try.ntmps17
    go_wp2
    go_ret2
    exact ⟨rfl, rfl⟩
  have k4 : 1099511627776 < t := by omega
  clear hh
  go_enter Try.func17, Try.ntmps17
  go_wp2
  go_ret2
  exact ⟨rfl, rfl⟩
set_option maxRecDepth 100000 in
set_option maxHeartbeats 3200000 in
theorem right_any (x : EA) (w : World) : Calls Try.prog 49 #[x.val] w fun e w' => e = .returned (.bool (okE x.e)) ∧ Below w.heap.size w w' := by
  obtain ⟨⟨idx, term, kind, data⟩, XA, xc⟩ := x
  unfold EA.val
  have he : okE ⟨idx, term, kind, data⟩ = (decide (1 ≤ idx) && decide (idx ≤ 1099511627776) && decide (0 ≤ term) && decide (term ≤ 1099511627776) && decide (0 ≤ kind) && decide (kind ≤ 7) && decide (data.length ≤ 4096)) := rfl
  simp only
  rw [he]
  clear he
  generalize data.length = D at *
  have HB := Lib.hid (alloc_below' w (.cells #[.int .i64 idx, .int .i64 term, .int .i64 kind, .slice XA D xc] 36))
  by_cases h1 : 1 ≤ idx
  rotate_left
  · rw [decide_eq_false h1]
    go_enter Try.func49, Try.ntmps49
    go_wp2
    go_ret
    exact ⟨by simp, HB.out⟩
  by_cases h2 : idx ≤ 1099511627776
  rotate_left
  · rw [decide_eq_true h1, decide_eq_false h2]
    go_enter Try.func49, Try.ntmps49
    go_wp2
    go_ret
    exact ⟨by simp, HB.out⟩
  by_cases h3 : 0 ≤ term
  rotate_left
  · rw [decide_eq_true h1, decide_eq_true h2, decide_eq_false h3]
    go_enter Try.func49, Try.ntmps49
    go_wp2
    go_ret
    exact ⟨by simp, HB.out⟩
  by_cases h4 : term ≤ 1099511627776
  rotate_left
  · rw [decide_eq_true h1, decide_eq_true h2, decide_eq_true h3, decide_eq_false h4]
    go_enter Try.func49, Try.ntmps49
    go_wp2
    go_ret
    exact ⟨by simp, HB.out⟩
  by_cases h5 : 0 ≤ kind
  rotate_left
  · rw [decide_eq_true h1, decide_eq_true h2, decide_eq_true h3, decide_eq_true h4, decide_eq_false h5]
    go_enter Try.func49, Try.ntmps49
    go_wp2
    go_ret
    exact ⟨by simp, HB.out⟩
  by_cases h6 : kind ≤ 7
  rotate_left
  · rw [decide_eq_true h1, decide_eq_true h2, decide_eq_true h3, decide_eq_true h4, decide_eq_true h5, decide_eq_false h6]
    go_enter Try.func49, Try.ntmps49
    go_wp2
    go_ret
    exact ⟨by simp, HB.out⟩
  rw [decide_eq_true h1, decide_eq_true h2, decide_eq_true h3, decide_eq_true h4, decide_eq_true h5, decide_eq_true h6]
  go_enter Try.func49, Try.ntmps49
  go_wp2
  go_ret
  exact ⟨by simp; omega, HB.out⟩
set_option maxRecDepth 100000 in
set_option maxHeartbeats 3200000 in
theorem rright_any (A : Option Addr) (n cap : Nat) (xs : List EA) (w : World) (hr : RdE w A n xs) : Calls Try.prog 41 #[.slice A n cap] w fun e w' => e = .returned (.bool (okL (ens xs))) ∧ Below w.heap.size w w' := by
  have HR := Lib.hid hr
  have HL := Lib.hid hr.len
  have hm := hr.most
  unfold maxLen at hm
  clear hr
  go_enter Try.func41, Try.ntmps41
  go_wp2
  go_loopw [3] (fun i wr => ∃ k : Nat, k ≤ n ∧ i = .int .i64 k ∧ okL ((ens xs).take k) = true ∧ Below w.heap.size w wr) (fun i _ => n - (intOf i).toNat)
  case atStart => exact ⟨0, Nat.zero_le _, rfl, rfl, Below.refl _ _⟩
  case round =>
    obtain ⟨k, hk, rfl, hok, hbel⟩ := hrel
    have HOK := Lib.hid hok
    have HBEL := Lib.hid hbel
    clear hok hbel
    by_cases hlt : k < n
    · obtain ⟨b, off, rfl, q0, q1, q2, q3⟩ := (HR.out.below HBEL.out).elem k hlt
      have hkx : k < (ens xs).length := by rw [ens_len]; have := HL.out; omega
      obtain ⟨ha, hb⟩ := okL_at k hkx
      have hb2 := hb HOK.out
      rw [ens_at _ _ (by have := HL.out; omega)] at ha hb2
      have HA := Lib.hid ha
      have HT := Lib.hid hb2
      clear ha hb hb2
      have HRI := Lib.hid (right_any (xs.getD k ea0) wr)
      unfold EA.val at HRI
      generalize xs.getD k ea0 = x at *
      have k0 : (0 : Int) ≤ (k : Int) := by omega
      have k1 : (k : Int) < (n : Int) := by omega
      cases hx : okE x.e with
      | false =>
        rw [hx] at HRI
        have HF := Lib.hid (HA.out hx)
        clear hx
        go_wp2_with fail
        refine HRI.out.mono ?_
        rintro e w1 ⟨rfl, hb1⟩
        have HB1 := Lib.hid hb1
        clear hb1
        go_wp2
        go_ret
        exact ⟨ret_bool HF.out.symm, HBEL.out.trans (HB1.out.mono HBEL.out.size)⟩
      | true =>
        rw [hx] at HRI
        have HF := Lib.hid (HT.out hx)
        clear hx
        go_wp2_with fail
        refine HRI.out.mono ?_
        rintro e w1 ⟨rfl, hb1⟩
        have HB1 := Lib.hid hb1
        clear hb1
        go_wp2
        go_roundw
        case rel => exact ⟨k + 1, by omega, by go_num, HF.out, HBEL.out.trans (HB1.out.mono HBEL.out.size)⟩
        case measure => simp [intOf]; omega
    · obtain rfl : k = n := by omega
      have hf : okL (ens xs) = true := by have := HOK.out; rwa [← HL.out, ← ens_len, List.take_length] at this
      have HFF := Lib.hid hf
      clear hf
      go_wp2
      go_ret
      exact ⟨ret_bool HFF.out.symm, HBEL.out⟩
set_option maxRecDepth 100000 in
set_option maxHeartbeats 3200000 in
theorem rfollow_any (A : Option Addr) (n cap : Nat) (xs : List EA) (i t : Int) (w : World) (hr : RdE w A n xs) (ho : okL (ens xs) = true) (hn : n ≤ 1000000000) : Calls Try.prog 42 #[.slice A n cap, .int .i64 i, .int .i64 t] w fun e w' => e = .returned (.bool (fol (ens xs) i t)) ∧ w = w' := by
  have HR := Lib.hid hr
  have HL := Lib.hid hr.len
  have HO := Lib.hid ho
  clear hr ho
  go_enter Try.func42, Try.ntmps42
  go_wp2
  go_loop [2, 7] (fun tv c => ∃ k : Nat, k ≤ n ∧ c = .int .i64 k ∧ tv = .int .i64 (lastT t ((ens xs).take k)) ∧ fol ((ens xs).take k) i t = true) (fun _ c => n - (intOf c).toNat)
  case atStart => exact ⟨0, Nat.zero_le _, rfl, rfl, rfl⟩
  case round =>
    obtain ⟨k, hk, rfl, rfl, hfo⟩ := hrel
    have HFO := Lib.hid hfo
    clear hfo
    by_cases hlt : k < n
    · obtain ⟨b, off, rfl, q0, q1, q2, q3⟩ := HR.out.elem k hlt
      have hkx : k < (ens xs).length := by rw [ens_len]; have := HL.out; omega
      obtain ⟨ha, hb⟩ := fol_step k hkx HFO.out
      have hoe := (okE_iff _).1 (okL_mem HO.out (e := (ens xs).getD k en0) (by rw [List.getD_eq_getElem?_getD, List.getElem?_eq_getElem hkx]; exact List.getElem_mem _))
      rw [ens_at _ _ (by have := HL.out; omega)] at ha hb hoe
      have HA := Lib.hid ha
      have HF := Lib.hid hb
      clear ha hb
      generalize lastT t ((ens xs).take k) = T at *
      generalize xs.getD k ea0 = x at *
      obtain ⟨⟨idx, term, kind, data⟩, XA, xc⟩ := x
      simp only at q0 q1 q2 q3 HA HF hoe
      generalize data.length = D at *
      have k0 : (0 : Int) ≤ (k : Int) := by omega
      have k1 : (k : Int) < (n : Int) := by omega
      have i0 := hoe.1
      have i1 := hoe.2.1
      clear hoe
      by_cases h1 : idx - 1 - (k : Int) = i
      rotate_left
      · have b1 : (idx - 1 - (k : Int) == i) = false := by rw [beq_eq_false_iff_ne]; exact h1
        have b2 : (idx - 1 - (k : Int) != i) = true := by rw [bne, b1]; rfl
        have HFF := Lib.hid (show fol (ens xs) i t = false from HF.out (.inl (by omega)))
        clear h1
        go_wp2
        go_ret
        exact ⟨ret_bool HFF.out.symm, rfl⟩
      have b1 : (idx - 1 - (k : Int) == i) = true := by rw [beq_iff_eq]; exact h1
      have b2 : (idx - 1 - (k : Int) != i) = false := by rw [bne, b1]; rfl
      have H1 := Lib.hid (show idx = i + k + 1 by omega)
      clear h1
      by_cases h2 : term < T
      · have HFF := Lib.hid (show fol (ens xs) i t = false from HF.out (.inr h2))
        go_wp2
        go_ret
        exact ⟨ret_bool HFF.out.symm, rfl⟩
      · have ht := Lib.hid (HA.out H1.out (by omega))
        go_wp2
        go_roundw
        case rel => exact ⟨k + 1, by omega, by go_num, by rw [ht.out.2], ht.out.1⟩
        case measure => simp [intOf]; omega
    · obtain rfl : k = n := by omega
      have HFF := Lib.hid (show fol (ens xs) i t = true by have := HFO.out; rwa [← HL.out, ← ens_len, List.take_length] at this)
      go_wp2
      go_ret
      exact ⟨ret_bool HFF.out.symm, rfl⟩
end Go.Proofs.Ytimplhdliaggfaa.Rg
