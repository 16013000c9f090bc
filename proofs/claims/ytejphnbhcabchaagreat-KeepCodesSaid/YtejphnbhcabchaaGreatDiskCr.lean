/-
  What a crash makes of the files, one by one. Conditions: the disk lies in memory as it was made (Im).
-/
import Derived.Test.YtejphnbhcabchaaGreatDiskSurv
namespace Go.Proofs.YtejphnbhcabchaaGreat.Dk
open Go.RowKit Go.Proofs.YtejphnbhcabchaaGreat.Fld

theorem nstay_le {k : Int} {n s : Nat} (h : s ≤ n) : nstay k n s ≤ n := by unfold nstay; omega
theorem Good.crash1 {t : St} (h : Good t) {x : Nm} {f : Fil} (hg : fget x t.fs = some f) (E : Nat) (hE : E ≤ f.2.1.length) : Good { t with fs := fput (x, f.2.1.take E, E) t.fs } ∧ total (fput (x, f.2.1.take E, E) t.fs) + (f.2.1.length - E) = total t.fs := by
  obtain ⟨h1, h2⟩ := get_some hg
  have ht : total (fput (x, f.2.1.take E, E) t.fs) + (f.2.1.length - E) = total t.fs := by
    rw [total_put]
    have := total_del h.up hg
    simp only [List.length_take]
    omega
  refine ⟨h.put (x, f.2.1.take E, E) (by rw [← h2]; exact h.name f h1) (by simp; omega) (fun c hc => h.byte f h1 c (List.mem_of_mem_take hc)) ?_, ht⟩
  have := h.fits
  omega
/-- memory behind one round -/
theorem crash_mid {wr w' : World} {g b : Nat} {m : List Ent} {t : St} {s : ByteArray} {e : Ent} (h : Im wr g b m t) (hm : t.fs.length ≤ 1000000) (hs : s.size ≤ maxLen) (hf : found m s = some e) (E : Nat) (hE : E ≤ e.zs.length) (v : Value) (hO : Own wr w' v (e.zs.take E)) :
    ∃ (T2 : Nat) (W4 : World), T2 + (e.zs.length - E) = total t.fs ∧
      (Instr.mapUpdate 69 (.map (some b)) (.string s) (.agg #[v, .int .i64 (E : Int)])).run Tryz.prog (((w'.setCell ⟨g, 2, none⟩ (.int .i64 (T2 : Int))).alloc (.cells #[v, .int .i64 (E : Int)] 82)).drew.drew) = .ok () W4 ∧
      Left wr g b m { t with fs := fput (s.data.toList, e.zs.take E, E) t.fs } W4 ∧ Fr (g :: b :: []) wr W4 := by
  obtain ⟨n1, n2, n3⟩ := h.ne
  obtain ⟨he1, he2⟩ := get_some hf
  have hg : fget s.data.toList t.fs = some e.fil := by rw [h.get, hf]; rfl
  obtain ⟨hgood, htot⟩ := h.good.crash1 hg E hE
  have hI := h.below hO.1
  refine ⟨total (fput (s.data.toList, e.zs.take E, E) t.fs), ?_⟩
  obtain ⟨T2, hT2⟩ : ∃ T2, T2 = total (fput (s.data.toList, e.zs.take E, E) t.fs) := ⟨_, rfl⟩
  rw [← hT2]
  have hown3 : (((w'.setCell ⟨g, 2, none⟩ (.int .i64 (T2 : Int))).alloc (.cells #[v, .int .i64 (E : Int)] 82)).drew.drew).ownsMap Tryz.prog 9 R1 b m.length (dOf m) := (((hI.own.setCell (a := ⟨g, 2, none⟩) (Ne.symm n1) _).alloc _).drew).drew
  obtain ⟨W4, hup, hown4, hturn⟩ := store1 hown3 (by rw [h.len]; exact hm) s hs ⟨s.data.toList, v, e.zs.take E, E⟩ rfl
  have hsz : w'.heap.size ≤ (((w'.setCell ⟨g, 2, none⟩ (.int .i64 (T2 : Int))).alloc (.cells #[v, .int .i64 (E : Int)] 82)).drew.drew).heap.size := by
    show w'.heap.size ≤ ((w'.setCell ⟨g, 2, none⟩ (.int .i64 (T2 : Int))).alloc _).heap.size
    rw [size_up]
    simp [World.setCell]
  have late : ∀ i, i < w'.heap.size → i ≠ g → i ≠ b → W4.heap[i]? = w'.heap[i]? := by
    intro i hi h1 h2
    rw [hturn.grown.block i (by omega) (by simpa using h2)]
    show ((w'.setCell ⟨g, 2, none⟩ (.int .i64 (T2 : Int))).alloc _).heap[i]? = _
    rw [Below.heap_alloc _ _ _ (by simpa [World.setCell] using hi), Below.heap_setCell _ _ _ _ h1]
  have hD : Dsk W4 g (t.room : Int) b (T2 : Int) t.off t.fail.isSome ((t.fail.getD 0 : Nat) : Int) t.arm.isSome ((t.arm.getD 0 : Nat) : Int) := by
    refine Dsk.of_block (Dsk.set2 hI.dsk (T2 : Int)) ?_
    rw [hturn.grown.block g (by have := hI.dsk.lt; omega) (by simpa using n1)]
    show ((w'.setCell ⟨g, 2, none⟩ (.int .i64 (T2 : Int))).alloc _).heap[g]? = _
    exact Below.heap_alloc _ _ _ (by have := hI.dsk.lt; simpa [World.setCell] using this)
  have hfr : Fr [g, b] wr W4 := by
    refine ⟨?_, ?_, ?_, ?_, ?_⟩
    · exact hturn.grown.os.trans hO.1.os
    · exact hturn.grown.tape.trans hO.1.tape
    · exact hturn.grown.output.trans hO.1.output
    · exact Nat.le_trans hO.1.size (Nat.le_trans hsz hturn.grown.size)
    · intro k hk hn
      simp only [List.mem_cons, List.not_mem_nil, or_false, not_or] at hn
      rw [late k (Nat.lt_of_lt_of_le hk hO.1.size) hn.1 hn.2, hO.1.block k hk]
  have hvb : ∀ i, v.ownBlock = some i → wr.heap.size ≤ i ∧ i < w'.heap.size := by
    intro i hi
    refine ⟨own_ge hO hi, ?_⟩
    rcases hO.2.2.2 with ⟨hv, _⟩ | ⟨q, cap, cur, hv, _, hq, _⟩
    · rw [hv] at hi; cases hi
    · rw [hv] at hi; cases hi; exact (Array.getElem?_eq_some_iff.1 hq).1
  have hlt := h.lt
  refine ⟨W4, by rw [hT2]; exact htot, hup, ⟨_, h.stored ⟨s.data.toList, v, e.zs.take E, E⟩ ?_ hown4 rfl hgood ?_ ?_ ?_ rfl rfl, hfr.mono (by simp), ?_⟩, hfr⟩
  · unfold DskT
    simp only [← hT2]
    exact hD
  · refine (show FileAt w' ⟨s.data.toList, v, e.zs.take E, E⟩ from ⟨hO.2.1, hO.2.2.1, ?_⟩).of_block fun i hi => ?_
    · rcases hO.2.2.2 with h | ⟨q, cap, cur, hv, hg, r⟩
      · exact .inl h
      · exact .inr ⟨q, cap, cur, hv, Nat.zero_le _, r⟩
    · obtain ⟨h1, h2⟩ := hvb i hi
      exact late i h2 (by have := hlt g (by simp); omega) (by have := hlt b (by simp); omega)
  · intro a ha _
    refine (h.file a ha).of_block fun i hi => ?_
    have hib : i ∈ blks m := mem_blks.2 ⟨a, ha, hi⟩
    exact hfr.block i ((h.file a ha).lt hi) (by
      simp only [List.mem_cons, List.not_mem_nil, or_false, not_or]
      exact ⟨fun e => n2 (e ▸ hib), fun e => n3 (e ▸ hib)⟩)
  · intro i hi hm
    obtain ⟨h1, _⟩ := hvb i hi
    have : i < wr.heap.size := hlt i (by
      simp only [List.mem_cons] at hm ⊢
      rcases hm with hm | hm | hm
      · exact .inl hm
      · exact .inr (.inl hm)
      · exact .inr (.inr (blks_del hm)))
    omega
  · intro i hi
    obtain ⟨a, ha, hv⟩ := mem_blks.1 hi
    rcases mem_put.1 ha with rfl | ⟨ha, _⟩
    · exact .inr (hvb i hv).1
    · exact .inl (mem_blks.2 ⟨a, ha, hv⟩)

/-! ### the files, one by one -/
theorem crashTo_len (i : Nat) (ks : List Int) (fs : List Fil) : (crashTo i ks fs).length = fs.length := by simp [crashTo]
theorem crashTo_at (i : Nat) (ks : List Int) (fs : List Fil) (j : Nat) : (crashTo i ks fs)[j]? = (fs[j]?).map fun f => if j < i then crash1 (ks.getD j 0) f else f := by
  unfold crashTo
  rw [List.getElem?_mapIdx]
theorem crashTo_zero (ks : List Int) (fs : List Fil) : crashTo 0 ks fs = fs := by
  apply List.ext_getElem?
  intro j
  rw [crashTo_at]
  cases fs[j]? <;> simp
theorem crashTo_key (i : Nat) (ks : List Int) (fs : List Fil) (j : Nat) : (crashTo i ks fs)[j]?.map Prod.fst = fs[j]?.map Prod.fst := by
  rw [crashTo_at]
  cases fs[j]? with
  | none => rfl
  | some f =>
    simp only [Option.map_some]
    split <;> rfl
theorem crash_step (k : Nat) (ks : List Int) (fs : List Fil) (h : Up Prod.fst (crashTo k ks fs)) (f : Fil) (hf : fs[k]? = some f) : crashTo (k + 1) ks fs = fput (crash1 (ks.getD k 0) f) (crashTo k ks fs) := by
  have hk : k < fs.length := (List.getElem?_eq_some_iff.1 hf).1
  have hk2 : k < (crashTo k ks fs).length := by rw [crashTo_len]; exact hk
  have hat : (crashTo k ks fs)[k]? = some f := by rw [crashTo_at, hf]; simp
  have hat2 : (crashTo k ks fs)[k] = f := by rw [List.getElem?_eq_getElem hk2] at hat; exact Option.some.inj hat
  have := put_at h (crash1 (ks.getD k 0) f) k hk2 (by rw [hat2]; rfl)
  unfold fput
  rw [this]
  apply List.ext_getElem?
  intro j
  rw [crashTo_at, List.getElem?_set, crashTo_at]
  by_cases hj : k = j
  · subst hj
    rw [if_pos rfl, if_pos hk2, hf]
    simp
  · rw [if_neg hj]
    cases fs[j]? with
    | none => rfl
    | some f2 =>
      simp only [Option.map_some]
      congr 1
      by_cases h1 : j < k
      · rw [if_pos h1, if_pos (by omega)]
      · rw [if_neg h1, if_neg (by omega)]
/-- a slice of integers -/
def RdI (w : World) (A : Option Addr) (n : Nat) (ks : List Int) : Prop :=
  ks.length = n ∧ n ≤ maxLen ∧ (0 < n → ∃ b off, A = some ⟨b, off, none⟩ ∧ ∀ i, i < n → w.cell? ⟨b, off + i, none⟩ = some (.int .i64 (ks.getD i 0)))
theorem RdI.fr {S : List Nat} {w w' : World} {A : Option Addr} {n : Nat} {ks : List Int} (h : RdI w A n ks) (hf : Fr S w w') (hS : 0 < n → ∀ a, A = some a → a.block ∉ S) : RdI w' A n ks := by
  obtain ⟨h1, h2, h3⟩ := h
  refine ⟨h1, h2, fun hn => ?_⟩
  obtain ⟨b, off, rfl, hc⟩ := h3 hn
  exact ⟨b, off, rfl, fun i hi => hf.cell (hc i hi) (hS hn ⟨b, off, none⟩ rfl)⟩
theorem RdS.fr {S : List Nat} {w w' : World} {A : Option Addr} {n : Nat} {ks : List ByteArray} (h : RdS w A n ks) (hf : Fr S w w') (hS : ∀ a, A = some a → a.block ∉ S) : RdS w' A n ks := by
  obtain ⟨h1, h2, h3⟩ := h
  refine ⟨h1, h2, fun hn => ?_⟩
  obtain ⟨b, off, rfl, hc⟩ := h3 hn
  exact ⟨b, off, rfl, fun i hi => hf.cell (hc i hi) (hS ⟨b, off, none⟩ rfl)⟩
theorem Left.trans {w w1 w2 : World} {g b : Nat} {m m1 : List Ent} {t2 : St} (hf : Fr (g :: b :: blks m) w w1) (hb : ∀ i ∈ blks m1, i ∈ blks m ∨ w.heap.size ≤ i) (h2 : Left w1 g b m1 t2 w2) : Left w g b m t2 w2 := by
  obtain ⟨m2, hI, hf2, hb2⟩ := h2
  refine ⟨m2, hI, hf.trans hf2 ?_, ?_⟩
  · intro i hi
    simp only [List.mem_cons] at hi ⊢
    rcases hi with hi | hi | hi
    · exact .inl (.inl hi)
    · exact .inl (.inr (.inl hi))
    · rcases hb i hi with h | h
      · exact .inl (.inr (.inr h))
      · exact .inr h
  · intro i hi
    rcases hb2 i hi with h | h
    · exact hb i h
    · exact .inr (Nat.le_trans hf.size h)
theorem Im.restart {w : World} {g b : Nat} {m : List Ent} {t : St} (h : Im w g b m t) :
    Im (((((w.setCell ⟨g, 3, none⟩ (.bool false)).setCell ⟨g, 4, none⟩ (.bool false)).setCell ⟨g, 5, none⟩ (.int .i64 0)).setCell ⟨g, 6, none⟩ (.bool false)).setCell ⟨g, 7, none⟩ (.int .i64 0)) g b m { t with off := false, fail := none, arm := none } ∧
    Fr [g] w (((((w.setCell ⟨g, 3, none⟩ (.bool false)).setCell ⟨g, 4, none⟩ (.bool false)).setCell ⟨g, 5, none⟩ (.int .i64 0)).setCell ⟨g, 6, none⟩ (.bool false)).setCell ⟨g, 7, none⟩ (.int .i64 0)) := by
  have hf : Fr [g] w (((((w.setCell ⟨g, 3, none⟩ (.bool false)).setCell ⟨g, 4, none⟩ (.bool false)).setCell ⟨g, 5, none⟩ (.int .i64 0)).setCell ⟨g, 6, none⟩ (.bool false)).setCell ⟨g, 7, none⟩ (.int .i64 0)) :=
    (((((Fr.refl [g] w).setCell _ (.inl (by simp)) _).setCell _ (.inl (by simp)) _).setCell _ (.inl (by simp)) _).setCell _ (.inl (by simp)) _).setCell _ (.inl (by simp)) _
  obtain ⟨n1, n2, n3⟩ := h.ne
  refine ⟨⟨((((Dsk.set3 h.dsk false).set4 false).set5 0).set6 false).set7 0, own_of_block h.own (hf.block b h.own.lt (by simpa using Ne.symm n1)), h.fs, fun e he => (h.file e he).of_block fun i hi => hf.block i ((h.file e he).lt hi) (by
    intro hm
    simp only [List.mem_singleton] at hm
    exact n2 (mem_blks.2 ⟨e, he, by rw [← hm]; exact hi⟩)), h.nodup, ⟨h.good.1, h.good.2, h.good.3, h.good.4, h.good.5, h.good.6, h.good.7⟩, (fun k hk => by cases hk), (fun k hk => by cases hk)⟩, hf⟩
end Go.Proofs.YtejphnbhcabchaaGreat.Dk
