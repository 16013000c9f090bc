/-
  Several texts in one: Layer 6: the closure of Cut, that takes the last entries away. Conditions: the Wal and its disk lie in memory (WmX); the Index is one of the log's. Layer 6: what an entry more makes of the segments and the log: the mathematics. Conditions: as each theorem states. Layer 6: the closures of Append by run. Conditions: the Wal and its disk lie in memory (WmX); the entries are valid and the next ones. Layer 6: Append in the program. Conditions: the Wal and its disk lie in memory (WmX), the entries can be read. Layer 6: Cut in the program. Conditions: the Wal and its disk lie in memory (WmX), or it is broken (WmB).
-/
import Derived.Test.YtgmpdifggaggdaaGreatDoorJWalAd2
import Derived.Test.YtgmpdifggaggdaaGreatDoorJWalVal
import Derived.Test.YtgmpdifggaggdaaGreatDoorJWalRst
namespace Go.Proofs.YtgmpdifggaggdaaGreatDoor.Wl
open Go.RowKit Go.Proofs.YtgmpdifggaggdaaGreatDoor.Fld
set_option linter.unusedVariables false

/-- the last entries are gone -/
theorem WmX.cutE {lo W g b lim : Nat} {m : List Dk.Ent} {ve vs : Value} {xs : List EA} {w w' : World} {c : Ct} {t : Dk.St} (h : WmX lo W g b lim m ve vs xs w c t) {g0 cap k : Nat} (hve : ve = .slice (some ⟨g0, 0, none⟩) xs.length cap) (hb : Blk w' W ((wcs g lim c ve vs).setIfInBounds (3 + 1) (.slice (some ⟨g0, 0, none⟩) k cap)) 61)
    (hr : w'.ownsRow lo 49 4 (.slice (some ⟨g0, 0, none⟩) k cap) k ((rowE xs).take (k * 4))) (hf : Dk.Fr [W, g0] w w') (hk : k ≤ xs.length) (hok : (Lg.mk c.lg.base (c.lg.es.take k)).Ok) :
    WmX lo W g b lim m (.slice (some ⟨g0, 0, none⟩) k cap) vs (xs.take k) w' ⟨⟨c.lg.base, c.lg.es.take k⟩, c.segs⟩ t ∧ Dk.Fr (WFt W g b m ve vs) w w' ∧ ∀ j ∈ WFt W g b m (.slice (some ⟨g0, 0, none⟩) k cap) vs, j ∈ WFt W g b m ve vs ∨ w.heap.size ≤ j := by
  have hg : ve.ownBlock = some g0 := by rw [hve]; rfl
  have hsub : ∀ j ∈ WFt W g b m (.slice (some ⟨g0, 0, none⟩) k cap) vs, j ∈ WFt W g b m ve vs := by
    intro j hj
    unfold WFt CtF at hj ⊢
    rw [show (Value.slice (some ⟨g0, 0, none⟩) k cap).ownBlock = some g0 from rfl] at hj
    rw [hg]
    exact hj
  have hin : ∀ j ∈ [W, g0], j ∈ WFt W g b m ve vs := by
    intro j hj
    simp only [List.mem_cons, List.not_mem_nil, or_false] at hj
    unfold WFt CtF
    rw [hg]
    rcases hj with rfl | rfl <;> simp
  have hfrW : Dk.Fr (WFt W g b m ve vs) w w' := hf.mono hin
  have hout : ∀ i ∈ g :: b :: Dk.blks m, i ∉ [W, g0] := fun i hi hm => by
    simp only [List.mem_cons, List.not_mem_nil, or_false] at hm
    rcases hm with rfl | rfl
    · exact h.W_off hi
    · exact h.apart _ (.inr (.inl hg)) hi
  refine ⟨⟨h.im.of_blocks fun j hj => hf.block j (h.im.lt j hj) (hout j hj), ?_, ?_, h.base_fr hfrW h.low, fun j hj => h.low j (hsub j hj), h.glo, h.lim1, h.lim2⟩, hfrW, fun j hj => .inl (hsub j hj)⟩
  · exact h.ct.cutm (lg' := ⟨c.lg.base, c.lg.es.take k⟩) hve hb hr hf hk rfl hok
  · rintro j (h1 | h1 | h1 | ⟨x, hx, h1⟩)
    · exact h.apart j (.inl h1)
    · rw [show (Value.slice (some ⟨g0, 0, none⟩) k cap).ownBlock = some g0 from rfl] at h1
      exact h.apart j (.inr (.inl (by rw [hg]; exact h1)))
    · exact h.apart j (.inr (.inr (.inl h1)))
    · exact h.apart j (.inr (.inr (.inr ⟨x, List.mem_of_mem_take hx, h1⟩)))
end Go.Proofs.YtgmpdifggaggdaaGreatDoor.Wl

namespace Go.Proofs.YtgmpdifggaggdaaGreatDoor.Wl
open Go.RowKit Go.Proofs.YtgmpdifggaggdaaGreatDoor.Fld
set_option linter.unusedVariables false

theorem spCreate_sz (n : Nat) (c : Ct) (t : Dk.St) (hn : n ≤ 99999999) (hl : c.lg.last ≤ MI) (h : (spCreate n c t).1 = 0) : (spCreate n c t).2.1.lg = c.lg ∧ (∃ S', (spCreate n c t).2.1.segs = c.segs ++ [S'] ∧ S'.size ≤ 65536 ∧ S'.num = n) ∧ (spCreate n c t).2.2.fs.length ≤ t.fs.length + 2 := by
  have hb := head_len n (c.lg.last + 1) (by omega) (by unfold MI at hl; omega)
  unfold spCreate at h ⊢
  generalize Rc.recd (chC (.head n (c.lg.last + 1))) = B at hb h ⊢
  obtain ⟨c1, hc1⟩ : ∃ c1 : Ct, (⟨c.lg, c.segs ++ [⟨n, c.lg.last + 1, 0⟩]⟩ : Ct) = c1 := ⟨_, rfl⟩
  rw [hc1] at h ⊢
  have ha := Dk.app_len (segN (lastN c1)) B t
  by_cases h0 : (spWrite B c1 t).1 = 0
  · rw [spRun_ok h0, spRun_one] at h ⊢
    have e1 : (spWrite B c1 t).2.1 = ⟨c1.lg, addSz B.length c1.segs⟩ := if_pos h0
    have hs := Dk.sync_len (segN (lastN (spWrite B c1 t).2.1)) (spWrite B c1 t).2.2
    have e2 : (spWrite B c1 t).2.2.fs.length ≤ t.fs.length + 1 := ha
    refine ⟨?_, ⟨⟨n, c.lg.last + 1, 0 + B.length⟩, ?_, by show 0 + B.length ≤ _; omega, rfl⟩, ?_⟩
    · show (spWrite B c1 t).2.1.lg = _
      rw [e1, ← hc1]
    · show (spWrite B c1 t).2.1.segs = _
      rw [e1, ← hc1]
      exact addSz_snoc _ _ _
    · show (Dk.stSync (segN (lastN (spWrite B c1 t).2.1)) (spWrite B c1 t).2.2).2.fs.length ≤ _
      omega
  · rw [spRun_no h0] at h
    exact absurd h h0
theorem spRoom_sz (lim : Nat) {c : Ct} (t : Dk.St) {L : List Sg} {S : Sg} (hs : c.segs = L ++ [S]) (hn : S.num ≤ 99999999) (hl : c.lg.last ≤ MI) (h : (spRoom lim c t).1 = 0) :
    (spRoom lim c t).2.1.lg = c.lg ∧ (∃ L' S', (spRoom lim c t).2.1.segs = L' ++ [S'] ∧ L'.length ≤ L.length + 1 ∧ S'.size ≤ S.size + 65536 ∧ S'.num ≤ 99999999) ∧ (spRoom lim c t).2.2.fs.length ≤ t.fs.length + 3 := by
  have HRO : spRoom lim c t = if S.size < lim ∨ S.num = 99999999 then (0, c, t) else spRun [spSync, spCreate (S.num + 1)] c t := by unfold spRoom; rw [hs, List.getLast?_append]; rfl
  rw [HRO] at h ⊢
  split at h
  · rename_i h1
    rw [if_pos h1]
    exact ⟨rfl, ⟨L, S, hs, by omega, by omega, hn⟩, by show t.fs.length ≤ _; omega⟩
  · rename_i h1
    rw [if_neg h1]
    have hy := Dk.sync_len (segN (lastN c)) t
    by_cases h0 : (spSync c t).1 = 0
    · rw [spRun_ok h0, spRun_one] at h ⊢
      have e1 : (spSync c t).2.1 = c := rfl
      have e2 : (spSync c t).2.2.fs.length ≤ t.fs.length + 1 := hy
      rw [e1] at h ⊢
      obtain ⟨q1, ⟨S', q2, q3, q5⟩, q4⟩ := spCreate_sz (S.num + 1) c (spSync c t).2.2 (by omega) hl h
      exact ⟨q1, ⟨c.segs, S', q2, by rw [hs]; simp, by omega, by omega⟩, by omega⟩
    · rw [spRun_no h0] at h
      exact absurd h h0
/-- an entry that was put in -/
theorem spAdd_sz (lim : Nat) (e : E) (he : e.Ok) {c : Ct} (t : Dk.St) {L : List Sg} {S : Sg} (hs : c.segs = L ++ [S]) (hn : S.num ≤ 99999999) (hl : c.lg.last ≤ MI) (h : (spAdd lim e c t).1 = 0) :
    (spAdd lim e c t).2.1.lg = c.lg.add e ∧ (∃ L' S', (spAdd lim e c t).2.1.segs = L' ++ [S'] ∧ L'.length ≤ L.length + 1 ∧ S'.size ≤ S.size + 131072 ∧ S'.num ≤ 99999999) ∧ (spAdd lim e c t).2.2.fs.length ≤ t.fs.length + 4 := by
  have hb := entry_len e he
  unfold spAdd at h ⊢
  generalize Rc.recd (chC (.entry e)) = B at hb h ⊢
  by_cases h0 : (spRoom lim c t).1 = 0
  · obtain ⟨r1, ⟨L', S', r2, r3, r4, r6⟩, r5⟩ := spRoom_sz lim t hs hn hl h0
    rw [spRun_ok h0] at h ⊢
    generalize (spRoom lim c t).2.1 = c1 at *
    generalize (spRoom lim c t).2.2 = t1 at *
    have ha := Dk.app_len (segN (lastN c1)) B t1
    by_cases h1 : (spWrite B c1 t1).1 = 0
    · rw [spRun_ok h1, spRun_one] at h ⊢
      have e1 : (spWrite B c1 t1).2.1 = ⟨c1.lg, addSz B.length c1.segs⟩ := if_pos h1
      refine ⟨?_, ⟨L', ⟨S'.num, S'.next, S'.size + B.length⟩, ?_, r3, by show S'.size + B.length ≤ _; omega, r6⟩, ?_⟩
      · show (spWrite B c1 t1).2.1.lg.add e = _
        rw [e1, r1]
      · show (spWrite B c1 t1).2.1.segs = _
        rw [e1, r2]
        exact addSz_snoc _ _ _
      · show (Dk.stAppend (segN (lastN c1)) B t1).2.fs.length ≤ _
        omega
    · rw [spRun_no h1] at h
      exact absurd h h1
  · rw [spRun_no h0] at h
    exact absurd h h0
/-- entries, one behind the other -/
noncomputable def spApp (lim : Nat) (es : List E) : Sp := spRun (es.map (spAdd lim))
def Seq (l : Nat) : List E → Prop
  | [] => True
  | e :: r => e.idx = l + 1 ∧ Seq (l + 1) r
theorem Seq.at {es : List E} : ∀ {l : Nat}, Seq l es → ∀ (i : Nat) (e : E), es[i]? = some e → e.idx = l + i + 1 := by
  induction es with
  | nil => intro l _ i e h; simp at h
  | cons x es ih =>
    intro l h i e hi
    cases i with
    | zero => simp at hi; subst hi; rw [h.1]
    | succ i =>
      have := ih h.2 i e (by simpa using hi)
      omega
def addAll (l : Lg) (es : List E) : Lg := ⟨l.base, l.es ++ es⟩
theorem addAll_nil (l : Lg) : addAll l [] = l := by simp [addAll]
theorem addAll_snoc (l : Lg) (es : List E) (e : E) : (addAll l es).add e = addAll l (es ++ [e]) := by simp [addAll, Lg.add]
theorem addAll_last (l : Lg) (es : List E) : (addAll l es).last = l.last + es.length := by simp [addAll, Lg.last]; omega
end Go.Proofs.YtgmpdifggaggdaaGreatDoor.Wl

namespace Go.Proofs.YtgmpdifggaggdaaGreatDoor.Wl
open Go.RowKit Go.Proofs.YtgmpdifggaggdaaGreatDoor.Fld
set_option linter.unusedVariables false

def apnFv (bw be : Nat) : Fv := ⟨22, #[], #[.pointer (some ⟨bw, 0, none⟩), .pointer (some ⟨be, 0, none⟩)]⟩
theorem apnFv_in (bw be : Nat) : (apnFv bw be).In := fun a w => enters_of Tryz.func22 (by kernel_rfl) rfl a w
set_option maxRecDepth 100000 in
set_option maxHeartbeats 1600000 in
theorem append1_any {lo W g b lim : Nat} {m : List Dk.Ent} {ve vs : Value} {xs : List EA} {w : World} {c : Ct} {t : Dk.St} (h : WmX lo W g b lim m ve vs xs w c t) {L : List Sg} {S : Sg} (hs : c.segs = L ++ [S]) (hl : L.length ≤ 880000) (hz : S.size ≤ 1099511627776) (hm : t.fs.length ≤ 870000) (hes : c.lg.es.length ≤ 2000000) (x : XE) (hx : okX x = true) (hi : x.e.idx = c.lg.last + 1)
    (bw be : Nat) (hw : w.cell? ⟨bw, 0, none⟩ = some (.pointer (some ⟨W, 0, none⟩))) (k0 : w.cell? ⟨be, 0, none⟩ = some (.int .i64 x.i)) (k1 : w.cell? ⟨be, 1, none⟩ = some (.int .i64 x.t)) (k2 : w.cell? ⟨be, 2, none⟩ = some (.int .i64 x.k)) (k3 : w.cell? ⟨be, 3, none⟩ = some (.slice x.A x.d.length x.cap)) (ha : x.At w) (hAF : 0 < x.d.length → ∀ a, x.A = some a → a.block ∉ WFt W g b m ve vs) :
    Calls Tryz.prog 22 #[.pointer (some ⟨bw, 0, none⟩), .pointer (some ⟨be, 0, none⟩)] w (StpI lo W g b lim (WFt W g b m ve vs) w (spAdd lim x.e c t)) := by
  have hadd := wadd_any h hs hl hz hm hes x.e (XE.e_ok hx ha.1.2.2.1) hi x.A x.cap ha.1 ha.2 hAF
  rw [← XE.val_e hx] at hadd
  unfold XE.val at hadd
  have HADD := Lib.hid hadd
  clear h hs hx hi ha hAF hadd
  go_enter Tryz.func22, Tryz.ntmps22
  go_wp2_with fail
  refine HADD.out.mono ?_
  rintro e w1 ⟨rfl, hQ⟩
  have HQ := Lib.hid hQ
  clear hQ
  go_wp2_with fail
  go_ret
  exact ⟨rfl, HQ.out⟩
/-- the steps of Append -/
def apnFs (lim bw : Nat) (bs : List Nat) (l : List XE) : List (Fv × Sp) := (bs.zip l).map fun p => (apnFv bw p.1, spAdd lim p.2.e)
theorem take_succ_e {α : Type} {l : List α} {i : Nat} {x : α} (h : l[i]? = some x) : l.take (i + 1) = l.take i ++ [x] := by
  rw [List.take_add_one, h]; rfl
set_option maxHeartbeats 800000 in
theorem apnrun_any {lo W g b lim : Nat} {F : List Nat} {w : World} {c : Ct} {t : Dk.St} (hW : WmS lo W g b lim F w c t) {L : List Sg} {S : Sg} (hs : c.segs = L ++ [S]) (hl : L.length ≤ 700000) (hz : S.size ≤ 1000000000000) (hm : t.fs.length ≤ 400000) (hes : c.lg.es.length ≤ 1000000)
    (A : Option Addr) (cap bw : Nat) (bs : List Nat) (l : List XE) (hbl : bs.length = l.length) (hn : bs.length ≤ 100000) (hok : ∀ x ∈ l, okX x = true) (hsq : Seq c.lg.last (l.map XE.e))
    (l0 : Nat) (hl0 : ∀ i ∈ F, i < l0) (hrow : w.ownsRow l0 78 1 (.slice A bs.length cap) bs.length (bs.map fun x => (apnFv bw x).val))
    (h1 : w.cell? ⟨bw, 0, none⟩ = some (.pointer (some ⟨W, 0, none⟩))) (hbs : ∀ (i y : Nat) (x : XE), bs[i]? = some y → l[i]? = some x → (w.cell? ⟨y, 0, none⟩ = some (.int .i64 x.i) ∧ w.cell? ⟨y, 1, none⟩ = some (.int .i64 x.t) ∧ w.cell? ⟨y, 2, none⟩ = some (.int .i64 x.k) ∧ w.cell? ⟨y, 3, none⟩ = some (.slice x.A x.d.length x.cap)) ∧ y ∉ F)
    (hat : ∀ x ∈ l, x.At w ∧ (0 < x.d.length → ∀ a, x.A = some a → a.block ∉ F)) (o1 : bw ∉ F) :
    Calls Tryz.prog 15 #[.slice A bs.length cap] w (StpI lo W g b lim F w (spApp lim (l.map XE.e) c t)) := by
  have hlast : c.lg.last ≤ MI := by obtain ⟨m, ve, vs, xs, hX, _⟩ := hW; exact hX.ct.ok.1.1
  have hnum : S.num ≤ 99999999 := by obtain ⟨m, ve, vs, xs, hX, _⟩ := hW; exact (hX.ct.ok.2 S (by rw [hs]; simp)).2.1
  have hfs : (apnFs lim bw bs l).map Prod.snd = (l.map XE.e).map (spAdd lim) := by
    unfold apnFs
    rw [List.map_map, List.map_map]
    apply List.ext_getElem?
    intro i
    simp only [List.getElem?_map]
    by_cases hi : i < l.length
    · rw [List.getElem?_eq_getElem (by rw [List.length_zip]; omega), List.getElem?_eq_getElem hi]
      simp
    · rw [List.getElem?_eq_none (by rw [List.length_zip]; omega), List.getElem?_eq_none (by omega)]
      rfl
  have hlf : (apnFs lim bw bs l).length = bs.length := by unfold apnFs; rw [List.length_map, List.length_zip]; omega
  have hfa : ∀ (i : Nat) (f : Fv × Sp), (apnFs lim bw bs l)[i]? = some f → ∃ (y : Nat) (x : XE), bs[i]? = some y ∧ l[i]? = some x ∧ f = (apnFv bw y, spAdd lim x.e) := by
    intro i f hi
    unfold apnFs at hi
    rw [List.getElem?_map, Option.map_eq_some_iff] at hi
    obtain ⟨p, hp, rfl⟩ := hi
    obtain ⟨e1, e2⟩ := List.getElem?_zip_eq_some.1 hp
    exact ⟨p.1, p.2, e1, e2, rfl⟩
  have hrd : 0 < bs.length → ∃ q, A = some ⟨q, 0, none⟩ ∧ q ∉ F ∧ ∀ (i x : Nat), bs[i]? = some x → w.cell? ⟨q, i, none⟩ = some (apnFv bw x).val := by
    intro h0
    obtain ⟨q, rfl, hq, hc⟩ := row_cell1 hrow h0
    exact ⟨q, rfl, fun hm => by have := hl0 q hm; omega, fun i x hi => hc i _ (by rw [List.getElem?_map, hi]; rfl)⟩
  have hix : ∀ (i : Nat) (x : XE), l[i]? = some x → x.e.idx = c.lg.last + i + 1 ∧ x.e.idx ≤ MI := by
    intro i x hi
    refine ⟨hsq.at i x.e (by rw [List.getElem?_map, hi]; rfl), ?_⟩
    have := (okX_iff x).1 (hok x (List.mem_of_getElem? hi))
    simp only [XE.e, MI]
    omega
  unfold spApp
  rw [← hfs]
  refine run_sp A bs.length cap (apnFs lim bw bs l) c t hW hlf (by unfold maxLen; omega) ⟨by rw [List.length_map]; exact hlf, by unfold maxLen; omega, fun h0 => ?_⟩ (fun h0 a ha => ?_) (fun f hf => ?_)
    (fun i c' t' => c'.lg = addAll c.lg ((l.map XE.e).take i) ∧ (∃ L' S', c'.segs = L' ++ [S'] ∧ L'.length ≤ L.length + i ∧ S'.size ≤ S.size + i * 131072 ∧ S'.num ≤ 99999999) ∧ t'.fs.length ≤ t.fs.length + 4 * i)
    ⟨by rw [List.take_zero, addAll_nil], ⟨L, S, hs, by omega, by omega, hnum⟩, by omega⟩ (fun i f hi c' t' hp hr0 => ?_) (fun i f hi F' w' c' t' hW' hfr hsub hp => ?_)
  · obtain ⟨q, rfl, _, hc⟩ := hrd h0
    refine ⟨q, 0, rfl, fun i f hi => ?_⟩
    rw [List.getElem?_map, Option.map_eq_some_iff] at hi
    obtain ⟨f', hf', rfl⟩ := hi
    obtain ⟨y, x, e1, e2, rfl⟩ := hfa i f' hf'
    rw [Nat.zero_add]
    exact hc i y e1
  · obtain ⟨q, rfl, hq, _⟩ := hrd h0
    cases ha
    exact hq
  · obtain ⟨i, hi⟩ := List.getElem?_of_mem hf
    obtain ⟨y, x, e1, e2, rfl⟩ := hfa i f hi
    exact apnFv_in _ _
  · obtain ⟨y, x, e1, e2, rfl⟩ := hfa i f hi
    obtain ⟨p1, ⟨L', S', p2, p3, p4, p5⟩, p6⟩ := hp
    have hil : i < l.length := (List.getElem?_eq_some_iff.1 e2).1
    obtain ⟨x1, x2⟩ := hix i x e2
    have hxm := List.mem_of_getElem? e2
    have hcl : c'.lg.last ≤ MI := by rw [p1, addAll_last, List.length_take, List.length_map]; omega
    obtain ⟨q1, ⟨L2, S2, q2, q3, q4, q5⟩, q6⟩ := spAdd_sz lim x.e (XE.e_ok (hok x hxm) (hat x hxm).1.1.2.2.1) t' p2 p5 hcl hr0
    refine ⟨?_, ⟨L2, S2, q2, by omega, by omega, q5⟩, by show (spAdd lim x.e c' t').2.2.fs.length ≤ _; omega⟩
    show (spAdd lim x.e c' t').2.1.lg = _
    rw [q1, p1, addAll_snoc, ← take_succ_e (show (l.map XE.e)[i]? = some x.e by rw [List.getElem?_map, e2]; rfl)]
  · obtain ⟨y, x, e1, e2, rfl⟩ := hfa i f hi
    obtain ⟨p1, ⟨L', S', p2, p3, p4, p5⟩, p6⟩ := hp
    have hil : i < l.length := (List.getElem?_eq_some_iff.1 e2).1
    obtain ⟨x1, x2⟩ := hix i x e2
    have hxm := List.mem_of_getElem? e2
    obtain ⟨⟨k0, k1, k2, k3⟩, k4⟩ := hbs i y x e1 e2
    obtain ⟨m', ve', vs', xs', hX', rfl⟩ := hW'
    have hax := hat x hxm
    refine append1_any hX' p2 (by omega) (by omega) (by omega) ?_ x (hok x hxm) ?_ bw y (hfr.cell h1 o1) (hfr.cell k0 k4) (hfr.cell k1 k4) (hfr.cell k2 k4) (hfr.cell k3 k4) ⟨Rd.frm hax.1.1 hfr hax.2, hax.1.2⟩ ?_
    · rw [p1]
      simp only [addAll, List.length_append, List.length_take, List.length_map]
      omega
    · rw [p1, addAll_last, List.length_take, List.length_map]
      omega
    · intro hd a ha hm
      obtain ⟨b0, off, hA0, hc⟩ := hax.1.1.2.2.2 hd
      have hlt := lt_of_cell (hc 0 hd)
      rw [hA0] at ha
      cases ha
      rcases hsub _ hm with h | h
      · exact hax.2 hd _ hA0 h
      · simp only at hlt h; omega
end Go.Proofs.YtgmpdifggaggdaaGreatDoor.Wl

namespace Go.Proofs.YtgmpdifggaggdaaGreatDoor.Wl
open Go.RowKit Go.Proofs.YtgmpdifggaggdaaGreatDoor.Fld
set_option linter.unusedVariables false

def entC (x : XE) : Array Value := #[.int .i64 x.i, .int .i64 x.t, .int .i64 x.k, .slice x.A x.d.length x.cap]
def inOrder (L : Nat) : List XE → Bool
  | [] => true
  | x :: r => decide (x.i = (L : Int) + 1) && inOrder (L + 1) r
/-- what Append answers and leaves -/
def AppRes (lo W g b lim : Nat) (F : List Nat) (w : World) (l : List XE) (c : Ct) (t : Dk.St) (e : Ending) (w' : World) : Prop :=
  (¬ (∀ x ∈ l, okX x = true) ∧ e = .returned (.int .i64 1) ∧ Below w.heap.size w w') ∨
  ((∀ x ∈ l, okX x = true) ∧ ¬ Seq c.lg.last (l.map XE.e) ∧ e = .returned (.int .i64 7) ∧ Below w.heap.size w w') ∨
  ((∀ x ∈ l, okX x = true) ∧ Seq c.lg.last (l.map XE.e) ∧ TakeIs lo W g b lim F w (spApp lim (l.map XE.e) c t) e w')
theorem seq_of {l : List XE} : ∀ {L : Nat}, (∀ i x, l[i]? = some x → x.e.idx = L + i + 1) → Seq L (l.map XE.e) := by
  induction l with
  | nil => intro L _; exact trivial
  | cons x l ih =>
    intro L h
    refine ⟨?_, ih fun i y hy => ?_⟩
    · have := h 0 x rfl; omega
    · have := h (i + 1) y (by simpa using hy); omega
/-- the log's last Index is told and nothing but the tape has moved -/
theorem lastX_dr {lo W g b lim : Nat} {m : List Dk.Ent} {ve vs : Value} {xs : List EA} {w : World} {c : Ct} {t : Dk.St} (h : WmX lo W g b lim m ve vs xs w c t) (k : Nat) : Calls Tryz.prog 24 #[.pointer (some ⟨W, 3, none⟩)] (w.drewN k) fun e w'' => e = .returned (.int .i64 (c.lg.last : Int)) ∧ ∃ m, w'' = w.drewN m := by
  obtain ⟨EA0, ec0, hve, _⟩ := row_slice h.ct.rE
  have hlen : c.lg.es.length = xs.length := by rw [h.ct.es]; simp
  have hle := h.ct.ok.1.1
  unfold Lg.last MI at hle
  have := last_dr W 3 (wcs g lim c ve vs) 61 c.lg.base xs.length ec0 EA0 (w.drewN k) (h.ct.blk.drewN k) rfl (by rw [← hve]; rfl) (by omega)
  refine this.mono fun _ _ ⟨he, m, hw⟩ => ⟨?_, k + m, by rw [hw, World.drewN_drewN]⟩
  rw [he]
  unfold Lg.last
  rw [hlen]
set_option maxRecDepth 100000 in
set_option maxHeartbeats 6400000 in
theorem wappend_any {lo W g b lim : Nat} {m : List Dk.Ent} {ve vs : Value} {xs : List EA} {w : World} {c : Ct} {t : Dk.St} (h : WmX lo W g b lim m ve vs xs w c t) {L : List Sg} {S : Sg} (hs : c.segs = L ++ [S]) (hl : L.length ≤ 700000) (hz : S.size ≤ 1000000000000) (hm : t.fs.length ≤ 400000) (hes : c.lg.es.length ≤ 1000000)
    (A : Option Addr) (n cap : Nat) (l : List XE) (hr : RdX w A n l) (hn : n ≤ 100000) (hAF : ∀ x ∈ l, 0 < x.d.length → ∀ a, x.A = some a → a.block ∉ WFt W g b m ve vs) :
    Calls Tryz.prog 8 #[.pointer (some ⟨W, 0, none⟩), .slice A n cap] w (AppRes lo W g b lim (WFt W g b m ve vs) w l c t) := by
  have HX := Lib.hid h
  have HS := Lib.hid hs
  have hal := alloc_below' w (.cells #[.pointer (some ⟨W, 0, none⟩)] 33)
  have HAL := Lib.hid hal
  have hXA := h.below hal
  have HB0 := Lib.hid (Blk.new w #[.pointer (some ⟨W, 0, none⟩)] 33)
  have x0 := HB0.out.cell 0 (.pointer (some ⟨W, 0, none⟩)) rfl
  have c2 := hXA.ct.blk.cell 2 (.bool false) rfl
  have HOUT := Lib.hid (show ∀ i, w.heap.size ≤ i → i ∉ WFt W g b m ve vs from fun i hi hm => by have := HX.out.lt i hm; omega)
  have HRX := Lib.hid hr
  have HRA := Lib.hid (hr.below hal)
  have HLN := Lib.hid hr.1
  have HAF := Lib.hid hAF
  have HLM := Lib.hid (show c.lg.last ≤ 1099511627776 by have := h.ct.ok.1.1; unfold MI at this; exact this)
  have HES := Lib.hid (And.intro hl (And.intro hz (And.intro hm hes)))
  obtain ⟨LL, hLL⟩ : ∃ LL, c.lg.last = LL := ⟨_, rfl⟩
  rw [hLL] at HLM
  have HLL := Lib.hid hLL
  generalize hB1 : w.heap.size = B1 at *
  have HB1 := Lib.hid hB1
  have HB1S := Lib.hid (show B1 ≤ w.heap.size by omega)
  generalize hwx : w.alloc (.cells #[.pointer (some ⟨W, 0, none⟩)] 33) = w1 at *
  have HW1 := Lib.hid hwx
  clear h hs hl hz hm hes hal hXA hr hAF hLL hB1 hwx
  go_enter Tryz.func8, Tryz.ntmps8
  go_wp2_with (first | rw [HW1.out, HB1.out] | fail)
  go_loopw [5, 16] (fun v iv wr => ∃ (j : Nat) (bs : List Nat), j ≤ n ∧ iv = .int .i64 (j : Int) ∧ bs.length = j ∧ wr.ownsRow w1.heap.size 78 1 v j (bs.map fun x => (apnFv B1 x).val) ∧ (∀ (i y : Nat) (x : XE), bs[i]? = some y → l[i]? = some x → w1.heap.size ≤ y ∧ Blk wr y (entC x) 49) ∧ (∀ i x, i < j → l[i]? = some x → okX x = true) ∧ Below w1.heap.size w1 wr) (fun _ iv _ => n - (intOf iv).toNat)
  case atStart => exact ⟨0, [], Nat.zero_le _, rfl, rfl, ⟨rfl, .inl ⟨rfl, rfl⟩⟩, fun i y x hi => by simp at hi, fun i x hi => by omega, Below.refl _ _⟩
  case round =>
    obtain ⟨j, bs, hj, rfl, hbl, hrow, hbs, hall, hbr⟩ := hrel
    obtain ⟨RA, rc, rfl, _⟩ := row_slice hrow
    have HROW := Lib.hid hrow
    have HBS := Lib.hid hbs
    have HBR := Lib.hid hbr
    have HBL := Lib.hid hbl
    have HALL := Lib.hid hall
    by_cases hjt : j < n
    · have hjl : j < l.length := by rw [HLN.out]; exact hjt
      obtain ⟨x, hx⟩ : ∃ x, l[j]? = some x := ⟨_, List.getElem?_eq_getElem hjl⟩
      have hxe : l[j] = x := by rw [List.getElem?_eq_getElem hjl] at hx; exact Option.some.inj hx
      obtain ⟨bb, off, rfl, hc⟩ := HRA.out.at4 hbr j hjl
      rw [hxe] at hc
      have e0 := hc 0 _ (by omega) rfl
      have e1 := hc 1 _ (by omega) rfl
      have e2 := hc 2 _ (by omega) rfl
      have e3 := hc 3 _ (by omega) rfl
      rw [Nat.add_zero] at e0
      have HXJ := Lib.hid hx
      have hA := alloc_below' wr (.cells (entC x) 49)
      have hkA := Blk.new wr (entC x) 49
      have y0 := hkA.cell 0 _ rfl
      have y1 := hkA.cell 1 _ rfl
      have y2 := hkA.cell 2 _ rfl
      have y3 := hkA.cell 3 _ rfl
      have HVA := Lib.hid (fun W' => valid_any x W')
      have HA := Lib.hid hA
      have HKA := Lib.hid hkA
      have hs0 := hbr.size
      clear hrow hbs hbr hbl hall hc hxe hx hA hkA
      unfold entC at HA HKA y0 y1 y2 y3
      unfold XE.val at HVA
      have j0 : (0 : Int) ≤ (j : Int) := by omega
      have j1 : (j : Int) < (n : Int) := by omega
      by_cases hok : okX x = true
      · rw [hok] at HVA
        have HOK := Lib.hid hok
        clear hok
        generalize hwa : wr.alloc (.cells #[.int .i64 x.i, .int .i64 x.t, .int .i64 x.k, .slice x.A x.d.length x.cap] 49) = wa at *
        have HWA := Lib.hid hwa
        go_wp2_with (first | rw [HWA.out] | fail)
        refine (HVA.out _).mono ?_
        rintro e w5 ⟨rfl, hb5⟩
        have hz5 := hb5.size
        have hba : Below wr.heap.size wr w5 := HA.out.trans (hb5.mono HA.out.size)
        have HB5 := Lib.hid hba
        have hB := alloc_below' w5 (.cells #[(apnFv B1 wr.heap.size).val] 78)
        have hbb : Below wr.heap.size wr (w5.alloc (.cells #[(apnFv B1 wr.heap.size).val] 78)) := hba.trans (hB.mono hba.size)
        have HBB := Lib.hid hbb
        have HKB := Lib.hid ((HKA.out.below hb5).past (.cells #[(apnFv B1 wr.heap.size).val] 78))
        have HRW := Lib.hid (row_of HROW.out (fun i hi => hbb.block i (row_lo HROW.out i hi).2))
        have hq := (Blk.new w5 #[(apnFv B1 wr.heap.size).val] 78).cell 0 _ rfl
        have HQ := Lib.hid hq
        have HSZ := Lib.hid (Nat.le_trans hs0 hbb.size)
        have HHS := Lib.hid hs0
        unfold Fv.val apnFv at HBB HKB HRW HQ HSZ
        clear hb5 hz5 hba hB hbb hq hs0 y0 y1 y2 y3 e0 e1 e2 e3
        go_wp2_with (at_builtin; refine wpList_append_step rfl _ _ rfl w1.heap.size (.slice RA j rc) j (bs.map fun x => (apnFv B1 x).val) rfl HRW.out w5.heap.size (apnFv B1 wr.heap.size).val rfl HQ.out rfl (by omega) HSZ.out ?_; intro v3 w3 hr3 hg3; obtain ⟨A4, c4, hv3, _⟩ := row_slice hr3; subst hv3; have HR3 := Lib.hid hr3; have HG3 := Lib.hid hg3; clear hr3 hg3)
        go_roundw
        case rel =>
          have hfr := (Dk.Fr.refl (Value.slice RA j rc).ownBlock.toList _).grown HG3.out (fun i hi => .inl (by simp [hi]))
          have hlt0 := HKA.out.lt
          refine ⟨j + 1, bs ++ [wr.heap.size], by omega, by go_num, by rw [List.length_append, HBL.out]; rfl, ?_, fun i y z hi hz => ?_, fun i z hi hz => ?_, ?_⟩
          · rw [List.map_append]; exact HR3.out
          · rcases Nat.lt_or_ge i j with hij | hij
            · rw [List.getElem?_append_left (by rw [HBL.out]; exact hij)] at hi
              obtain ⟨k1, k2⟩ := HBS.out i y z hi hz
              exact ⟨k1, (k2.below HBB.out).of (hfr.block y (Nat.lt_of_lt_of_le k2.lt HBB.out.size) (fun hm => row_ne HROW.out k2 (by decide) (by simpa using hm)))⟩
            · rw [List.getElem?_append_right (by rw [HBL.out]; exact hij), HBL.out] at hi
              have hij2 : i = j := by
                rcases Nat.eq_or_lt_of_le hij with h | h
                · exact h.symm
                · rw [List.getElem?_eq_none (by simp; omega)] at hi; cases hi
              subst hij2
              simp at hi
              subst hi
              rw [HXJ.out] at hz
              cases hz
              exact ⟨HHS.out, HKB.out.of (hfr.block _ HKB.out.lt (fun hm => by rw [Option.mem_toList] at hm; have := (row_lo HROW.out _ hm).2; omega))⟩
          · rcases Nat.lt_or_ge i j with hij | hij
            · exact HALL.out i z hij hz
            · have : i = j := by omega
              subst this
              rw [HXJ.out] at hz
              cases hz
              exact HOK.out
          · exact (HBR.out.trans (HBB.out.mono HHS.out)).grown HG3.out HSZ.out fun r hr' => (row_lo HROW.out r hr').1
        case measure => simp [intOf]; omega
      · have hok' : okX x = false := by simpa using hok
        rw [hok'] at HVA
        have HOK := Lib.hid hok
        clear hok hok'
        generalize hwa : wr.alloc (.cells #[.int .i64 x.i, .int .i64 x.t, .int .i64 x.k, .slice x.A x.d.length x.cap] 49) = wa at *
        have HWA := Lib.hid hwa
        go_wp2_with (first | rw [HWA.out] | fail)
        refine (HVA.out _).mono ?_
        rintro e w5 ⟨rfl, hb5⟩
        have HB5 := Lib.hid (HAL.out.trans ((HBR.out.trans ((HA.out.trans (hb5.mono HA.out.size)).mono hs0)).mono (Nat.le_trans HB1S.out HAL.out.size)))
        clear hb5
        go_wp2_with fail
        go_ret
        refine .inl ⟨fun hh => HOK.out (hh x (List.mem_of_getElem? HXJ.out)), rfl, ?_⟩
        rw [HB1.out]
        exact HB5.out
    · obtain rfl : j = n := by omega
      have HOKL := Lib.hid (show ∀ x ∈ l, okX x = true from fun x hx => by
        obtain ⟨i, hi⟩ := List.getElem?_of_mem hx
        exact hall i x (by have := (List.getElem?_eq_some_iff.1 hi).1; have := HLN.out; omega) hi)
      have hs0 := hbr.size
      have HXR := Lib.hid (HX.out.below (by rw [HB1.out]; exact HAL.out.trans (hbr.mono (Nat.le_trans HB1S.out HAL.out.size))))
      have HBW := Lib.hid (show Below B1 w wr from HAL.out.trans (hbr.mono (Nat.le_trans HB1S.out HAL.out.size)))
      have z0 := (hbr.cell (lt_of_cell x0)).trans x0
      clear hrow hbs hall hbl hbr x0 c2 hjt
      obtain ⟨wo, rfl⟩ : ∃ wo, wo = wr := ⟨_, rfl⟩
      go_wp2_with fail
      go_loopw [30] (fun iv wr => ∃ k : Nat, k ≤ j ∧ iv = .int .i64 (k : Int) ∧ (∀ i x, i < k → l[i]? = some x → x.i = (LL : Int) + i + 1) ∧ Below wo.heap.size wo wr) (fun iv _ => j - (intOf iv).toNat)
      case atStart => exact ⟨0, Nat.zero_le _, rfl, fun i x hi => by omega, Below.refl _ _⟩
      case round =>
        obtain ⟨k, hk, rfl, hord, hbr⟩ := hrel
        have HORD := Lib.hid hord
        have HBR2 := Lib.hid hbr
        have hblm := HLM.out
        by_cases hkt : k < j
        · have hkl : k < l.length := by rw [HLN.out]; exact hkt
          obtain ⟨x, hx⟩ : ∃ x, l[k]? = some x := ⟨_, List.getElem?_eq_getElem hkl⟩
          have hxe : l[k] = x := by rw [List.getElem?_eq_getElem hkl] at hx; exact Option.some.inj hx
          have HXK := Lib.hid hx
          obtain ⟨bb, off, rfl, hc⟩ := HRA.out.at4 (HBR.out.trans (hbr.mono hs0)) k hkl
          rw [hxe] at hc
          have e0 := hc 0 _ (by omega) rfl
          have e1 := hc 1 _ (by omega) rfl
          have e2 := hc 2 _ (by omega) rfl
          have e3 := hc 3 _ (by omega) rfl
          rw [Nat.add_zero] at e0
          have hA := alloc_below' wr (.cells (entC x) 49)
          have hkA := Blk.new wr (entC x) 49
          have hbA := hbr.trans (hA.mono hbr.size)
          have y0 := hkA.cell 0 _ rfl
          have HLD := Lib.hid (fun q => lastX_dr (HXR.out.below hbA) q)
          rw [HLL.out] at HLD
          have z1 := (hbA.cell (lt_of_cell z0)).trans z0
          have HBA := Lib.hid hbA
          clear hord hbr hc hxe hx hkA hA hbA
          unfold entC at HBA HLD y0 z1
          have j0 : (0 : Int) ≤ (k : Int) := by omega
          have j1 : (k : Int) < (j : Int) := by omega
          have w1' : IntKind.i64.wrap ((LL : Int) + 1) = (LL : Int) + 1 := wrap_in' _ (by omega) (by omega)
          have w2' : IntKind.i64.wrap ((LL : Int) + 1 + (k : Int)) = (LL : Int) + 1 + (k : Int) := wrap_in' _ (by omega) (by omega)
          generalize hwa : wr.alloc (.cells #[.int .i64 x.i, .int .i64 x.t, .int .i64 x.k, .slice x.A x.d.length x.cap] 49) = wa at *
          have HWA := Lib.hid hwa
          clear hwa
          by_cases hne : x.i = (LL : Int) + 1 + (k : Int)
          · have q1 : (x.i != (LL : Int) + 1 + (k : Int)) = false := by simp [hne]
            have HNE := Lib.hid hne
            clear hne
            go_wp2_with (first | rw [HWA.out] | fail)
            go_quiet ((go_at_call 24; exact HLD.out _))
            go_wp2_with fail
            go_roundw
            case rel => exact ⟨k + 1, by omega, by go_num, fun i z hi hz => by
              rcases Nat.lt_or_ge i k with h | h
              · exact HORD.out i z h hz
              · have : i = k := by omega
                subst this
                rw [HXK.out] at hz
                cases hz
                have := HNE.out
                omega, HBA.out.trans ((below_drewN' _ _).mono HBA.out.size)⟩
            case measure => simp [intOf]; omega
          · have q1 : (x.i != (LL : Int) + 1 + (k : Int)) = true := by simp [hne]
            have HNE := Lib.hid hne
            clear hne
            go_wp2_with (first | rw [HWA.out] | fail)
            go_quiet ((go_at_call 24; exact HLD.out _))
            go_wp2_with fail
            go_ret
            refine .inr (.inl ⟨HOKL.out, fun hq => ?_, rfl, ?_⟩)
            · have h1 := hq.at k x.e (by rw [List.getElem?_map, HXK.out]; rfl)
              have h2 := (okX_iff x).1 (HOKL.out x (List.mem_of_getElem? HXK.out))
              rw [HLL.out] at h1
              have h3 : x.e.idx = x.i.toNat := rfl
              exact HNE.out (by omega)
            · rw [HB1.out]
              exact HBW.out.trans ((HBA.out.trans ((below_drewN' _ _).mono HBA.out.size)).mono (Nat.le_trans HB1S.out HBW.out.size))
        · obtain rfl : k = j := by omega
          have hsq : Seq c.lg.last (l.map XE.e) := seq_of fun i x hi => by
            have h1 := hord i x (by have := (List.getElem?_eq_some_iff.1 hi).1; have := HLN.out; omega) hi
            have h2 := (okX_iff x).1 (HOKL.out x (List.mem_of_getElem? hi))
            have h3 : x.e.idx = x.i.toNat := rfl
            rw [HLL.out]
            omega
          have HSQ := Lib.hid hsq
          have hz1 := hbr.size
          have z1 := (hbr.cell (lt_of_cell z0)).trans z0
          have HXS := Lib.hid (HXR.out.below hbr)
          have hrow2 := row_of HROW.out (fun i hi => hbr.block i (row_lo HROW.out i hi).2)
          have hB1F : B1 ∉ WFt W g b m ve vs := HOUT.out B1 (Nat.le_refl _)
          have hrun := apnrun_any (F := WFt W g b m ve vs) (w := wr) (lim := lim) ⟨m, ve, vs, xs, HXS.out, rfl⟩ HS.out HES.out.1 HES.out.2.1 HES.out.2.2.1 HES.out.2.2.2 RA rc B1 bs l (by rw [HBL.out, HLN.out]) (by rw [HBL.out]; exact hn) HOKL.out hsq w1.heap.size (fun i hi => by
              have h1 := HX.out.lt i hi; have h2 := HAL.out.size; omega) (by rw [HBL.out]; exact hrow2) z1 (fun i y x h1 h2 => by
              obtain ⟨k1, k2⟩ := HBS.out i y x h1 h2
              have k3 := k2.below hbr
              refine ⟨⟨k3.cell 0 _ rfl, k3.cell 1 _ rfl, k3.cell 2 _ rfl, k3.cell 3 _ rfl⟩, HOUT.out y ?_⟩
              have h2 := HAL.out.size
              have h3 := HB1S.out
              omega) (fun x hx => ⟨(HRA.out.2.2.2 x hx).below (HBR.out.trans (hbr.mono hs0)), HAF.out x hx⟩) hB1F
          rw [HBL.out] at hrun
          have HRUN := Lib.hid (take_any RA k rc hrun)
          have HBF := Lib.hid (HBW.out.trans (hbr.mono (Nat.le_trans HB1S.out HBW.out.size)))
          clear hsq hrun hrow2 hord hbr
          go_wp2_with fail
          refine HRUN.out.mono ?_
          rintro e w8 hQ
          have HQ := Lib.hid hQ
          obtain ⟨rfl, _⟩ := hQ
          go_wp2_with fail
          go_ret
          refine .inr (.inr ⟨HOKL.out, HSQ.out, TakeIs.then (Dk.Fr.below (by rw [HB1.out]; exact HBF.out)) (fun i hi => .inl hi) HQ.out⟩)
end Go.Proofs.YtgmpdifggaggdaaGreatDoor.Wl

namespace Go.Proofs.YtgmpdifggaggdaaGreatDoor.Wl
open Go.RowKit Go.Proofs.YtgmpdifggaggdaaGreatDoor.Fld
set_option linter.unusedVariables false

theorem cut_len (i : Nat) (hi : i ≤ 1099511627777) : (Rc.recd (chC (.cut i))).length ≤ 65536 := by
  have h := enc_len [2, i] (by simp; omega)
  have e : (chC (.cut i)).length = (enc [2, i]).length := rfl
  rw [Rc.recd_len, e]
  simp only [List.length_cons, List.length_nil] at h
  omega
/-- what Cut answers and leaves: an Index that is none of the log's is refused, the one behind the last one changes nothing -/
def CutRes (lo W g b lim : Nat) (F : List Nat) (w : World) (i : Int) (c : Ct) (t : Dk.St) (e : Ending) (w' : World) : Prop :=
  ((i ≤ (c.lg.base : Int) ∨ (c.lg.last : Int) + 1 < i) ∧ e = .returned (.int .i64 7) ∧ Below w.heap.size w w') ∨
  (i = (c.lg.last : Int) + 1 ∧ e = .returned (.int .i64 0) ∧ Below w.heap.size w w') ∨
  (((c.lg.base : Int) < i ∧ i ≤ (c.lg.last : Int)) ∧ TakeIs lo W g b lim F w (spCut i.toNat c t) e w')
theorem wappend_brk {lo W g b : Nat} {m : List Dk.Ent} {w : World} {t : Dk.St} (h : WmB lo W g b m w t) (A : Option Addr) (n cap : Nat) : Calls Tryz.prog 8 #[.pointer (some ⟨W, 0, none⟩), .slice A n cap] w fun e w' => e = .returned (.int .i64 8) ∧ Below w.heap.size w w' := by
  obtain ⟨w1, hw1⟩ : ∃ w1, w.alloc (.cells #[.pointer (some ⟨W, 0, none⟩)] 33) = w1 := ⟨_, rfl⟩
  have b1 := Blk.new w #[.pointer (some ⟨W, 0, none⟩)] 33
  rw [hw1] at b1
  have hb2 : Below w.heap.size w w1 := by rw [← hw1]; exact alloc_below' w _
  have HB2 := Lib.hid hb2
  have HW1 := Lib.hid hw1
  have x0 := b1.cell 0 _ rfl
  have c2 := (h.below hb2).blk.cell 2 (.bool true) rfl
  clear h b1 hb2 hw1
  go_enter Tryz.func8, Tryz.ntmps8
  go_wp2_with (first | rw [HW1.out] | fail)
  go_ret
  exact ⟨rfl, HB2.out⟩
end Go.Proofs.YtgmpdifggaggdaaGreatDoor.Wl
