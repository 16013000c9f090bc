/-
  The document's own disk: an Append that is made. Conditions: it lies in memory as it was made (Rf).
-/
import Derived.Test.YthdpdhjhpbkhaaaDiskRefF
import Derived.Test.YthdpdhjhpbkhaaaDiskRefS
import Derived.Test.YthdpdhjhpbkhaaaDiskRefK
import Derived.Deep.RegionLaw
namespace Go.Proofs.Ythdpdhjhpbkhaaa.Dk
open Go.RowKit Go.Proofs.Ythdpdhjhpbkhaaa.Fld
set_option linter.unusedVariables false

set_option maxRecDepth 100000 in
/-- append of whatever bytes to bytes of the call's own, at a step of a region that draws its order -/
theorem step_append_any {w : World} {ops : Array Oper} {o : Oper} {a : Act} {K : Act → World → Prop} {Q : Exit → Act → World → Prop} {E : Prop} (hgd : o.guard = none) (s x : Operand)
    (ho : o.op = .call { callee := .builtin .append, args := #[s, x], argTypes := #[33, 33] })
    (w0 : World) (v : Value) (zs : List Int) (hs : a.eval s = v) (hown : Own w0 w v zs)
    (A : Option Addr) (n c : Nat) (ys : List Int) (hx : a.eval x = .slice A n c) (hA : A = none → c = 0) (hr : Rd w A n ys) (hb : zs.length + n ≤ 140737488355328)
    (h : ∀ v' w', Own w0 w' v' (zs ++ ys) → w.grownBy w' v.ownBlock → K (a.put o.dst v') w') : if Region.wanted o (yielded ops a.tmps) = true then Oper.wp Try.prog o a w K Q else E := by
  have hw : Region.wanted o (yielded ops a.tmps) = true := by simp [Region.wanted, hgd]
  rw [if_pos hw]
  obtain ⟨i, hi, hz, hsz, hby⟩ := byte_info
  obtain ⟨hb1, hby1, hrow⟩ := hown
  obtain ⟨hl, hm, hby2, hc⟩ := hr
  have hcat := bytes_append hby1 hby2
  rcases A with _ | ad
  · have hn : n = 0 := by
      rcases Nat.eq_zero_or_pos n with h0 | h0
      · exact h0
      · obtain ⟨b, off, he, _⟩ := hc h0; cases he
    subst hn
    obtain rfl : ys = [] := List.eq_nil_of_length_eq_zero hl
    obtain rfl := hA rfl
    have hrun := run_append_owned_none (P := Try.prog) (w := w) w0.heap.size 33 o.type 5 i 1 Try.underlying33 hi v _ _ hrow
    unfold Oper.wp execOp
    simp only [ho, resolve, invoke, builtin, Sem.run_bind, Sem.run_pure, Result.andThen_ok, List.map_toArray, List.map_cons, List.map_nil, hs, hx, hrun]
    exact h v w (by rw [List.append_nil]; exact ⟨hb1, hby1, hrow⟩) ⟨rfl, rfl, rfl, Nat.le_refl _, fun _ _ _ => rfl⟩
  · obtain ⟨v', w', hrun, hrow', hg, _, _⟩ := run_append_own_at (P := Try.prog) w w0.heap.size 33 o.type 5 i _ 1 1 Try.underlying33 hi hz hsz hby rfl (by omega) v _ _ hrow ad n c (by8 ys) (by rw [by8_length]; omega) (by
      intro j u hu
      have hj : j < ys.length := by
        rcases Nat.lt_or_ge j ys.length with hj | hj
        · exact hj
        · rw [List.getElem?_eq_none (by rw [by8_length]; exact hj)] at hu; cases hu
      rw [by8_at ys j hj] at hu
      obtain ⟨b, off, he, hcell⟩ := hc (by omega)
      injection he with he
      subst he
      have := hcell j (by omega)
      rw [← hu, ← this]
      congr 1
      unfold Addr.add
      split <;> simp_all) (by8_one ys) (by unfold maxLen; omega) (by omega) hb1.size
    unfold Oper.wp execOp
    simp only [ho, resolve, invoke, builtin, Sem.run_bind, Sem.run_pure, Result.andThen_ok, List.map_toArray, List.map_cons, List.map_nil, hs, hx, hrun]
    refine h v' w' ⟨hb1.grown hg hb1.size ?_, hcat, ?_⟩ hg
    · intro k hk
      rcases hrow.2 with ⟨rfl, _⟩ | ⟨g, cap, cur, rfl, hg, _⟩
      · simp [Value.ownBlock] at hk
      · simp [Value.ownBlock] at hk; omega
    · rw [List.length_append, hl, by8_append]; exact hrow'

/-- what a call leaves, in whatever blocks of its own -/
def RL2 (w : World) (r : Nat) (lv : Value) (m : List Ent) (t : St) (w' : World) : Prop := ∃ lv' m', Rf w' r lv' m' t ∧ Fr (rfoot r lv m) w w' ∧ ∀ i ∈ rfoot r lv' m', i ∈ rfoot r lv m ∨ w.heap.size ≤ i
def RDid2 (w : World) (r : Nat) (lv : Value) (m : List Ent) (q : Int × St) (e : Ending) (w' : World) : Prop := e = .returned (.int .i64 q.1) ∧ RL2 w r lv m q.2 w'
theorem foot_sub {r : Nat} {lv : Value} {m : List Ent} : ∀ i ∈ r :: lv.ownBlock.toList, i ∈ rfoot r lv m := by
  intro i hi
  simp only [rfoot, List.mem_cons, List.mem_append] at hi ⊢
  rcases hi with hi | hi
  · exact .inl hi
  · exact .inr (.inl hi)
theorem RLeft.two {w w' : World} {r : Nat} {lv : Value} {m : List Ent} {t : St} (h : RLeft w r lv m t w') : RL2 w r lv m t w' := by
  obtain ⟨lv', m', h1, h2, h3⟩ := h
  exact ⟨lv', m', h1, h2.mono foot_sub, h3⟩
theorem RDid.two {w w' : World} {r : Nat} {lv : Value} {m : List Ent} {q : Int × St} {e : Ending} (h : RDid w r lv m q e w') : RDid2 w r lv m q e w' := ⟨h.1, h.2.two⟩
theorem RL2.next {w w1 w' : World} {r : Nat} {lv lv1 : Value} {m m1 : List Ent} {t : St} (hf : Fr (rfoot r lv m) w w1) (hi : ∀ i ∈ rfoot r lv1 m1, i ∈ rfoot r lv m ∨ w.heap.size ≤ i) (h : RL2 w1 r lv1 m1 t w') : RL2 w r lv m t w' := by
  obtain ⟨lv', m', h1, h2, h3⟩ := h
  refine ⟨lv', m', h1, hf.trans h2 hi, fun i h => ?_⟩
  rcases h3 i h with h | h
  · exact hi i h
  · exact .inr (Nat.le_trans hf.size h)
/-- what an Append that is made leaves, from the two appends on -/
theorem rapp_end {w w3 : World} {r q cap : Nat} {m : List Ent} {t : St} {s : ByteArray} {e : Ent} {v2 : Value} {ys : List Int} (h : Rf w r (.slice (some ⟨q, 0, none⟩) m.length cap) m t) (hf : found m s = some e) (k : Nat) (hk : k < m.length) (hke : m[k] = e)
    (hO : Own w w3 v2 (e.zs ++ ys)) (hg : Good { t with fs := fput (s.data.toList, e.zs ++ ys, e.s) t.fs }) :
    RL2 w r (.slice (some ⟨q, 0, none⟩) m.length cap) m { t with fs := fput (s.data.toList, e.zs ++ ys, e.s) t.fs } (w3.setCell ⟨q, k * 3 + 1, none⟩ v2) := by
  obtain ⟨he1, he2⟩ := get_some hf
  have hR3 : Rf w3 r (.slice (some ⟨q, 0, none⟩) m.length cap) m t := h.of_blocks fun i hi => hO.1.block i (by
    simp only [rfoot, List.mem_cons, List.mem_append, Option.mem_toList] at hi
    rcases hi with rfl | hi | hi
    · exact h.lt.1
    · exact h.lt.2 i hi
    · exact h.bl i hi)
  obtain ⟨A2, c2, hv2, hs2, hb2⟩ := hO.sl _ rfl
  have hblk : ∀ i, v2.ownBlock = some i → i < w3.heap.size ∧ w.heap.size ≤ i := by
    intro i hi
    rcases hO.2.2.2 with ⟨hv, _⟩ | ⟨g, cap, cur, hv, hg, hgb, _⟩
    · rw [hv] at hi; cases hi
    · rw [hv] at hi; cases hi; exact ⟨(Array.getElem?_eq_some_iff.1 hgb).1, hg⟩
  have hql := h.lt.2 q rfl
  have h1 := hR3.stored (w' := w3.setCell ⟨q, k * 3 + 1, none⟩ v2) (t' := { t with fs := fput (s.data.toList, e.zs ++ ys, e.s) t.fs }) ⟨s.data.toList, v2, e.zs ++ ys, e.s⟩ k 1 v2 (by omega) hk (by rw [hke]; simp [cells3, he2]) (by rw [hke]; exact he2.symm) rfl rfl rfl rfl rfl hg rfl rfl rfl rfl
    ⟨⟨A2, c2, hv2, hs2⟩, fun i hi => ⟨(hblk i hi).1, by have := (hblk i hi).2; have := h.lt.1; omega, by have := (hblk i hi).2; omega⟩⟩
  refine ⟨_, _, h1.1, ?_, ?_⟩
  · exact (Fr.below (S := rfoot r (.slice (some ⟨q, 0, none⟩) m.length cap) m) hO.1).trans h1.2 (fun i hi => by simp at hi; subst hi; exact .inl (by simp [rfoot, Value.ownBlock]))
  · exact set_foot fun i hi => .inr (hblk i hi).2
theorem rd_frS {S : List Nat} {w w' : World} {A : Option Addr} {n : Nat} {zs : List Int} (h : Rd w A n zs) (hf : Fr S w w') (hA : 0 < n → ∀ a, A = some a → a.block ∉ S) : Rd w' A n zs := by
  obtain ⟨h1, h2, h3, h4⟩ := h
  refine ⟨h1, h2, h3, fun hn => ?_⟩
  obtain ⟨b, off, rfl, hc⟩ := h4 hn
  exact ⟨b, off, rfl, fun i hi => (World.cell?_of_block (w := w) (hf.block b (lt_of_cell (hc i hi)) (hA hn _ rfl))).trans (hc i hi)⟩
theorem del_ins_same {α : Type} (key : α → Nm) (e : α) (x : Nm) (hx : key e = x) : ∀ l : List α, del key x (ins key e l) = del key x l
  | [] => by simp [ins, del, hx]
  | y :: r => by
    unfold ins
    split
    · simp [del, hx]
    · have ih := del_ins_same key e x hx r
      unfold del at ih ⊢
      rw [List.filter_cons, List.filter_cons, ih]
theorem del_twice {α : Type} (key : α → Nm) (x : Nm) (l : List α) : del key x (del key x l) = del key x l := by
  unfold del; rw [List.filter_filter]; congr 1; funext a; simp
theorem fput_fput (x : Nm) (a b : List Int × Nat) (fs : List Fil) : fput (x, b) (fput (x, a) fs) = fput (x, b) fs := by
  unfold fput put
  simp only
  rw [del_ins_same Prod.fst (x, a) x rfl, del_twice]
theorem fget_fput (f : Fil) {fs : List Fil} (h : Up Prod.fst fs) : fget f.1 (fput f fs) = some f := get_mem (h.put f) (mem_fput.2 (.inl rfl))
def newE (s : ByteArray) : Ent := ⟨s.data.toList, .slice none 0 0, [], 0⟩
set_option maxRecDepth 100000 in
set_option maxHeartbeats 6400000 in
theorem rapp_made (r : Nat) (lv : Value) (m : List Ent) (t : St) (s : ByteArray) (A : Option Addr) (n cap : Nat) (ys : List Int) (w : World) (h : Rf w r lv m t) (hm : t.fs.length ≤ 900000) (hs : s.size ≤ maxLen) (hr : Rd w A n ys) (hA : A = none → cap = 0) (hAb : 0 < n → ∀ a, A = some a → a.block ∉ rfoot r lv m)
    (hok : okN s.data.toList = true) (hc0 : (chg t).1 = 0) (hfit : total t.fs + n ≤ t.room) :
    Calls Try.prog 24 #[.pointer (some ⟨r, 0, none⟩), .string s, .slice A n cap] w (RDid2 w r lv m (stAppend s.data.toList ys t)) := by
  have HC := Lib.hid (change_rf r lv m t s s w h hs hs)
  have HNL := Lib.hid hr.1
  have hroom : t.room ≤ 16777216 := h.good.room2
  unfold stAppend doing
  simp only [Bool.and_self] at HC
  rw [hok, show chgN true t = chg t from rfl, hc0] at HC
  rw [if_pos hok, if_pos hc0]
  have HSM := Lib.hid (chg_same t)
  have hfit1 : total (chg t).2.fs + n ≤ (chg t).2.room := by rw [HSM.out.1, HSM.out.2]; exact hfit
  have hfs : (chg t).2.fs.length ≤ 900000 := by rw [HSM.out.2]; exact hm
  have hrm : (chg t).2.room ≤ 16777216 := by rw [HSM.out.1]; exact hroom
  have HGET := Lib.hid (show fget s.data.toList (chg t).2.fs = (found m s).map Ent.fil by rw [HSM.out.2]; exact h.get s)
  have HUP := Lib.hid h.up
  have HRR := Lib.hid hr
  have HA := Lib.hid hA
  have HAB := Lib.hid hAb
  have HBY := Lib.hid hr.2.2.1
  have HRL := Lib.hid h.lt.1
  have happ : app1 s.data.toList ys (chg t).2 = (0, { (chg t).2 with fs := appFs s.data.toList ys (chg t).2.fs }) := by
    unfold app1 appFs
    rw [if_neg (by rw [hr.1]; omega)]
    rfl
  rw [happ]
  clear h hr hA hAb happ HSM hc0 hfit hm hroom
  generalize (chg t).2 = t1 at *
  have HQ := Lib.hid (fun w1 (hR : Rf w1 r lv m t1) k => rsize_quiet r lv m t1 w1 k hR (by omega))
  have HPL := Lib.hid (fun w1 lv m t1 (hR : Rf w1 r lv m t1) (hf : t1.fs.length ≤ 1000000) => place_any r lv m t1 s w1 hR hf)
  go_enter Try.func24, Try.ntmps24
  go_wp2_with (go_at_call 45; refine HC.out.mono ?_; rintro e w1 ⟨rfl, hR, hF⟩; have HR := Lib.hid hR; have HF := Lib.hid hF; clear hR hF)
  obtain ⟨LA, lcap, hlv, hd, _⟩ := HR.out.form
  obtain ⟨c0, c1, c2, c3, c4⟩ := hd.cells
  have HQ1 := Lib.hid (HQ.out w1 HR.out)
  have HG := Lib.hid HR.out.good
  clear hd hlv HQ
  have HFIT := Lib.hid hfit1
  have HFS := Lib.hid hfs
  generalize hT : total t1.fs = T at *
  generalize hRm : t1.room = R at *
  have hw : IntKind.i64.wrap ((T : Int) + (n : Int)) = (T : Int) + (n : Int) := IntWalk.i64_in _ (by omega)
  have hdc : decide ((R : Int) < (T : Int) + (n : Int)) = false := decide_eq_false (by omega)
  have HT := Lib.hid hT
  have HRM := Lib.hid hRm
  clear hT hRm
  go_quiet ((go_at_call 35; exact HQ1.out _))
  have HR2 := Lib.hid (show Rf (w1.drewN nq) r lv m t1 from HR.out.of_blocks fun i _ => by rw [(Still.drewN (Still.refl w1) nq).1])
  have HF2 := Lib.hid (show Fr [r] w (w1.drewN nq) from HF.out.same ⟨rfl, rfl, rfl, Nat.le_refl _, fun _ _ _ => rfl⟩)
  clear hw hdc c0 c1 c2 c3 c4 HQ1
  generalize w1.drewN nq = wq at *
  cases hfo : found m s with
  | some e =>
    obtain ⟨k, hk, hpl, hke⟩ := plc_found HUP.out hfo
    have HP1 := Lib.hid (HPL.out wq lv m t1 HR2.out (by omega))
    rw [hpl] at HP1
    obtain ⟨wA, hwA⟩ : ∃ wA, wA = wq := ⟨_, rfl⟩
    have HRA := Lib.hid (show Rf wA r lv m t1 by rw [hwA]; exact HR2.out)
    have HFA := Lib.hid (show Fr (rfoot r lv m) w wA by rw [hwA]; exact HF2.out.mono (by simp [rfoot]))
    have HIA := Lib.hid (show ∀ i ∈ rfoot r lv m, i ∈ rfoot r lv m ∨ w.heap.size ≤ i from fun _ hi => .inl hi)
    have HKE := Lib.hid hke
    have HFO := Lib.hid hfo
    have hzl : e.zs.length ≤ 16777216 := by
      have h1 := total_del (f := e.fil) HG.out.up (x := s.data.toList) (by rw [HGET.out, hfo]; rfl)
      have h2 := HT.out
      have h3 : e.fil.2.1.length = e.zs.length := rfl
      omega
    have HGF := Lib.hid (show Good { t1 with fs := fput (s.data.toList, e.zs ++ ys, e.s) t1.fs } by
      have h1 := HG.out.app s.data.toList ys hok HBY.out (by rw [HT.out, HRM.out, HNL.out]; exact HFIT.out)
      unfold appFs at h1
      rw [HGET.out, hfo] at h1
      exact h1)
    have HFIN := Lib.hid (show ({ t1 with fs := fput (s.data.toList, e.zs ++ ys, e.s) t1.fs } : St) = { t1 with fs := appFs s.data.toList ys t1.fs } by unfold appFs; rw [HGET.out, hfo]; rfl)
    have HRQ := Lib.hid (rd_frS HRR.out HFA.out HAB.out)
    have hml : m.length ≤ 900000 := by rw [HRA.out.len]; exact HFS.out
    clear hfo hke hpl
    go_wp2_with (go_at_call 46; refine HP1.out.mono ?_; rintro e w2 ⟨rfl, rfl⟩)
    subst hwA
    obtain ⟨q, qcap, hv, hc1, hc2, k0, k1, k2, kf⟩ := HRA.out.cell k hk
    obtain ⟨A5, cap5, hv5, hd, _⟩ := HRA.out.form
    rw [hv] at hv5
    cases hv5
    subst hv
    obtain ⟨c0, c1, c2, c3, c4⟩ := hd.cells
    have z1 := kf (k * 3 + 1)
    obtain ⟨BA, bc, hbv, hbs⟩ := HRA.out.byt m[k] (List.getElem_mem hk)
    rw [HKE.out] at hbv hbs
    rw [HKE.out, hbv] at k1
    have HBS := Lib.hid hbs
    clear kf hd hbv hbs
    generalize hzl' : e.zs.length = zl at *
    have HZL := Lib.hid hzl'
    clear hzl'
    have HO := Lib.hid (Own.made wA wA (Below.refl _ _)).drew
    have HB1 := Lib.hid (show Below wA.heap.size wA (wA.alloc (.cells #[] 5)).drew from HO.out.1)
    unfold noneBlk at HO
    have hba : Below wA.heap.size wA (wA.alloc (.cells #[] 5)) := (Below.refl _ _).alloc (Nat.le_refl _) _
    have d1 := (hba.cell (lt_of_cell c1)).trans c1
    have d2 := (hba.cell (lt_of_cell k1)).trans k1
    have lc1 := lt_of_cell c1
    have lk1 := lt_of_cell k1
    simp only at lc1 lk1
    have HSB := Lib.hid (HBS.out.below HB1.out)
    clear hba
    have i0 : (0 : Int) ≤ (k : Int) := by omega
    have i1 : (k : Int) < (m.length : Int) := by omega
    go_region_law ((first | (refine step_append_any rfl _ _ rfl wA (.slice (some ⟨wA.heap.size, 0, none⟩) 0 0) [] rfl HO.out BA zl bc e.zs rfl HSB.out.2.2.2.1 HSB.out.1 (by simp; omega) ?_; intro v1 w3 hO1 hg1; try rw [List.nil_append] at hO1; have HO1 := Lib.hid hO1; have HR3 := Lib.hid (HRQ.out.below hO1.1); have e1 := (hO1.1.cell (p := ⟨r, 1, none⟩) lc1).trans c1; have e2 := (hO1.1.cell (p := ⟨q, k * 3 + 1, none⟩) lk1).trans k1; clear hO1 hg1) | (refine step_append_any rfl _ _ rfl wA v1 e.zs rfl HO1.out A n cap ys rfl HA.out HR3.out (by rw [HZL.out]; omega) ?_; intro v2 w4 hO2 hg2; obtain ⟨XA, xc, hxv, _, _⟩ := hO2.sl (zl + n) (by rw [List.length_append, HZL.out, HNL.out]); subst hxv; have HO2 := Lib.hid hO2; have f1 := (hO2.1.cell (p := ⟨r, 1, none⟩) lc1).trans c1; have f2 := (hO2.1.cell (p := ⟨q, k * 3 + 1, none⟩) lk1).trans k1; have f3 := (hO2.1.frozen (p := ⟨q, k * 3 + 1, none⟩) lk1).trans z1; clear hO2 hg2)))
    all_goals
      go_wp2
      go_ret
      exact ⟨rfl, by rw [← HRM.out, ← HFIN.out]; exact RL2.next HFA.out HIA.out (rapp_end HRA.out HFO.out k hk HKE.out HO2.out HGF.out)⟩
  | none =>
    have hplm := plc_lost hfo
    have HP1 := Lib.hid (HPL.out wq lv m t1 HR2.out (by omega))
    rw [hplm] at HP1
    have HPUT := Lib.hid (put_rf r lv m t1 (newE s) wq HR2.out (by omega) (fun a ha => by simp at ha; subst ha; exact ⟨none, 0, 0, rfl⟩) (fun a ha => get_none hfo a ha))
    have HGN := Lib.hid (show fget s.data.toList t1.fs = none by rw [HGET.out, hfo]; rfl)
    have HG2 := Lib.hid (show Good { t1 with fs := fput (s.data.toList, [], 0) t1.fs } by
      have h1 := HG.out.app s.data.toList [] hok (fun c hc => by simp at hc) (by rw [HT.out, HRM.out]; simp; have := HFIT.out; omega)
      unfold appFs at h1
      rw [HGN.out] at h1
      exact h1)
    have HGF := Lib.hid (show Good { t1 with fs := fput (s.data.toList, ys, 0) t1.fs } by
      have h1 := HG.out.app s.data.toList ys hok HBY.out (by rw [HT.out, HRM.out, HNL.out]; exact HFIT.out)
      unfold appFs at h1
      rw [HGN.out] at h1
      exact h1)
    have HFI := Lib.hid (show ({ t1 with fs := fput (s.data.toList, ys, 0) t1.fs } : St) = { t1 with fs := appFs s.data.toList ys t1.fs } by unfold appFs; rw [HGN.out])
    have HTURN := Lib.hid (fun w2 (hT : Turned wq r (t1.room : Int) (sched t1.fail) (sched t1.arm) t1.off (ins Ent.nm (newE s) m) w2) => HR2.out.turned (t' := { t1 with fs := fput (s.data.toList, [], 0) t1.fs }) hT (by
      have h1 : fput (newE s).fil (m.map Ent.fil) = (put Ent.nm (newE s) m).map Ent.fil := (map_put (k1 := Ent.nm) (k2 := Prod.fst) Ent.fil (fun _ => rfl) _ _).symm
      have h2 : put Ent.nm (newE s) m = ins Ent.nm (newE s) m := by unfold put; rw [show (newE s).nm = s.data.toList from rfl, del_none hfo]
      rw [h2] at h1
      rw [HR2.out.fs]
      exact h1) HG2.out rfl rfl rfl rfl (fun a ha => by
        rcases mem_ins.1 ha with rfl | ha
        · exact ⟨⟨none, 0, rfl, Sl.nil wq⟩, fun i hi => by cases hi⟩
        · exact HR2.out.old ha) (fun i hi => by
        obtain ⟨a, ha, hv⟩ := mem_blks.1 hi
        rcases mem_ins.1 ha with rfl | ha
        · cases hv
        · exact .inl (mem_blks.2 ⟨a, ha, hv⟩)))
    have HSB0 := Lib.hid (show Value.string ⟨(newE s).nm.toArray⟩ = .string s by rw [show (newE s).nm = s.data.toList from rfl, str_back])
    rw [HSB0.out] at HPUT
    unfold newE at HPUT
    clear hfo hplm
    go_wp2_with (go_at_call 46; have _ := HP1; refine HP1.out.mono ?_; clear HP1; rintro e w2 ⟨rfl, rfl⟩)
    refine HPUT.out.mono ?_
    rintro en wA ⟨rfl, hT⟩
    obtain ⟨lvA, mA, hRA, hFr, hfoot⟩ := HTURN.out wA hT
    obtain ⟨e, hfo, hez, hes⟩ : ∃ e, found mA s = some e ∧ e.zs = [] ∧ e.s = 0 := by
      have h1 := hRA.get s
      have h2 : fget s.data.toList (fput (s.data.toList, [], 0) t1.fs) = some (s.data.toList, [], 0) := fget_fput (s.data.toList, [], 0) HG.out.up
      rw [h2] at h1
      cases hq : found mA s with
      | none => rw [hq] at h1; cases h1
      | some e =>
        rw [hq] at h1
        simp only [Option.map_some, Option.some.injEq, Ent.fil, Prod.mk.injEq] at h1
        exact ⟨e, rfl, h1.2.1.symm, h1.2.2.symm⟩
    have HRA := Lib.hid hRA
    have HFA := Lib.hid ((HF2.out.mono (S' := rfoot r lv m) (by simp [rfoot])).same (hFr.mono foot_sub))
    have HIA := Lib.hid (show ∀ i ∈ rfoot r lvA mA, i ∈ rfoot r lv m ∨ w.heap.size ≤ i from fun i hi => by
      rcases hfoot i hi with h | h
      · exact .inl h
      · exact .inr (Nat.le_trans HF2.out.size h))
    obtain ⟨k, hk, hpl, hke⟩ := plc_found hRA.up hfo
    have hlen : (fput (s.data.toList, ([] : List Int), 0) t1.fs).length ≤ 1000000 := by
      have h1 : (fput (s.data.toList, ([] : List Int), 0) t1.fs).length = (fdel s.data.toList t1.fs).length + 1 := by
        have := (ins_perm (key := Prod.fst) ((s.data.toList, ([] : List Int), 0) : Fil) (fdel s.data.toList t1.fs)).length_eq
        rw [List.length_cons] at this
        exact this
      have h2 := fdel_len t1.fs s.data.toList
      omega
    have HP2 := Lib.hid (HPL.out wA lvA mA _ hRA hlen)
    rw [hpl] at HP2
    have HKE := Lib.hid hke
    have HFO := Lib.hid hfo
    have hzl : e.zs.length ≤ 16777216 := by rw [hez]; simp
    have HFF := Lib.hid (show fput (s.data.toList, e.zs ++ ys, e.s) (fput (s.data.toList, [], 0) t1.fs) = fput (s.data.toList, ys, 0) t1.fs by
      rw [hez, hes, List.nil_append]
      exact fput_fput s.data.toList ([], 0) (ys, 0) t1.fs)
    have HGF' := HGF
    clear HGF
    have HGF := Lib.hid (show Good { ({ t1 with fs := fput (s.data.toList, [], 0) t1.fs } : St) with fs := fput (s.data.toList, e.zs ++ ys, e.s) ({ t1 with fs := fput (s.data.toList, [], 0) t1.fs } : St).fs } by
      simp only
      rw [HFF.out]
      exact HGF'.out)
    have HFIN := Lib.hid (show ({ ({ t1 with fs := fput (s.data.toList, [], 0) t1.fs } : St) with fs := fput (s.data.toList, e.zs ++ ys, e.s) ({ t1 with fs := fput (s.data.toList, [], 0) t1.fs } : St).fs } : St) = { t1 with fs := appFs s.data.toList ys t1.fs } by
      simp only
      rw [HFF.out]
      exact HFI.out)
    have HRQ := Lib.hid (rd_frS HRR.out HFA.out HAB.out)
    have hml : mA.length ≤ 1000000 := by rw [hRA.len]; exact hlen
    clear hfo hke hpl hRA hFr hfoot hez hes hT HPUT HTURN
    go_wp2_with (go_at_call 46; refine HP2.out.mono ?_; rintro e w2 ⟨rfl, rfl⟩)
    obtain ⟨q, qcap, hv, hc1, hc2, k0, k1, k2, kf⟩ := HRA.out.cell k hk
    obtain ⟨A5, cap5, hv5, hd, _⟩ := HRA.out.form
    rw [hv] at hv5
    cases hv5
    subst hv
    obtain ⟨c0, c1, c2, c3, c4⟩ := hd.cells
    have z1 := kf (k * 3 + 1)
    obtain ⟨BA, bc, hbv, hbs⟩ := HRA.out.byt mA[k] (List.getElem_mem hk)
    rw [HKE.out] at hbv hbs
    rw [HKE.out, hbv] at k1
    have HBS := Lib.hid hbs
    clear kf hd hbv hbs
    generalize hzl' : e.zs.length = zl at *
    have HZL := Lib.hid hzl'
    clear hzl'
    have HO := Lib.hid (Own.made wA wA (Below.refl _ _)).drew
    have HB1 := Lib.hid (show Below wA.heap.size wA (wA.alloc (.cells #[] 5)).drew from HO.out.1)
    unfold noneBlk at HO
    have hba : Below wA.heap.size wA (wA.alloc (.cells #[] 5)) := (Below.refl _ _).alloc (Nat.le_refl _) _
    have d1 := (hba.cell (lt_of_cell c1)).trans c1
    have d2 := (hba.cell (lt_of_cell k1)).trans k1
    have lc1 := lt_of_cell c1
    have lk1 := lt_of_cell k1
    simp only at lc1 lk1
    have HSB := Lib.hid (HBS.out.below HB1.out)
    clear hba
    have i0 : (0 : Int) ≤ (k : Int) := by omega
    have i1 : (k : Int) < (mA.length : Int) := by omega
    go_region_law ((first | (refine step_append_any rfl _ _ rfl wA (.slice (some ⟨wA.heap.size, 0, none⟩) 0 0) [] rfl HO.out BA zl bc e.zs rfl HSB.out.2.2.2.1 HSB.out.1 (by simp; omega) ?_; intro v1 w3 hO1 hg1; try rw [List.nil_append] at hO1; have HO1 := Lib.hid hO1; have HR3 := Lib.hid (HRQ.out.below hO1.1); have e1 := (hO1.1.cell (p := ⟨r, 1, none⟩) lc1).trans c1; have e2 := (hO1.1.cell (p := ⟨q, k * 3 + 1, none⟩) lk1).trans k1; clear hO1 hg1) | (refine step_append_any rfl _ _ rfl wA v1 e.zs rfl HO1.out A n cap ys rfl HA.out HR3.out (by rw [HZL.out]; omega) ?_; intro v2 w4 hO2 hg2; obtain ⟨XA, xc, hxv, _, _⟩ := hO2.sl (zl + n) (by rw [List.length_append, HZL.out, HNL.out]); subst hxv; have HO2 := Lib.hid hO2; have f1 := (hO2.1.cell (p := ⟨r, 1, none⟩) lc1).trans c1; have f2 := (hO2.1.cell (p := ⟨q, k * 3 + 1, none⟩) lk1).trans k1; have f3 := (hO2.1.frozen (p := ⟨q, k * 3 + 1, none⟩) lk1).trans z1; clear hO2 hg2)))
    all_goals
      go_wp2
      go_ret
      exact ⟨rfl, by rw [← HRM.out, ← HFIN.out]; exact RL2.next HFA.out HIA.out (rapp_end HRA.out HFO.out k hk HKE.out HO2.out HGF.out)⟩
end Go.Proofs.Ythdpdhjhpbkhaaa.Dk
