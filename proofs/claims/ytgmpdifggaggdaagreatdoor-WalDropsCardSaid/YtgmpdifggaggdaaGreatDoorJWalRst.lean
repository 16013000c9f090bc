/-
  Several texts in one: Layer 6: removeRest in the program: the segments whose HEADs are not recoverable are unlinked. Conditions: the Wal and its disk lie in memory (WmX); the Wal has no more segments than the disk. Layer 6: start in the program: the first segment, if there is none. Conditions: the Wal and its disk lie in memory (WmX). Layer 6: shorten in the program. Conditions: the Wal and its disk lie in memory (WmX); the last segment is no larger than its file.
-/
import Derived.Test.YtgmpdifggaggdaaGreatDoorJWalMk
import Derived.Test.YtgmpdifggaggdaaGreatDoorJWalCre
import Derived.Deep.CutBlock
import Derived.Test.YtgmpdifggaggdaaGreatDoorJDiskSn
namespace Go.Proofs.YtgmpdifggaggdaaGreatDoor.Wl
open Go.RowKit Go.Proofs.YtgmpdifggaggdaaGreatDoor.Fld
set_option linter.unusedVariables false

def rest1Fv (bw bn : Nat) : Fv := ⟨47, #[], #[.pointer (some ⟨bw, 0, none⟩), .pointer (some ⟨bn, 0, none⟩)]⟩
theorem rest1Fv_in (bw bn : Nat) : (rest1Fv bw bn).In := fun a w => enters_of Tryz.func47 (by kernel_rfl) rfl a w
theorem run_noneI (W : World) : (Instr.slice 25 (.slice none 0 0) (some (.int .i64 (0 : Int))) none none).run Tryz.prog W = .ok (.slice none 0 0) W := by go_simp
theorem run_fromI (b off n cap f : Nat) (hf : f ≤ n) (hn : n ≤ cap) (W : World) : (Instr.slice 25 (.slice (some ⟨b, off, none⟩) n cap) (some (.int .i64 (f : Int))) none none).run Tryz.prog W = .ok (.slice (some (past ⟨b, off, none⟩ cap f)) (n - f) (cap - f)) W := by
  unfold past
  by_cases h : cap = f
  · obtain rfl : n = f := by omega
    subst h
    rw [if_pos rfl]
    have h1 : (0 : Int) ≤ (cap : Int) := by omega
    go_simp
  · rw [if_neg h]
    have h1 : (0 : Int) ≤ (f : Int) := by omega
    have h2 : (f : Int) ≤ (n : Int) := by omega
    have h3 : (n : Int) ≤ (cap : Int) := by omega
    go_simp
theorem run_zeroI (a : Addr) (cap : Nat) (W : World) : (Instr.slice 25 (.slice (some a) 0 cap) (some (.int .i64 (0 : Int))) none none).run Tryz.prog W = .ok (.slice (some a) 0 cap) W := by
  have h0 : (0 : Int) ≤ (cap : Int) := by omega
  go_simp
/-- 's[f:]', wherever s lies -/
theorem tailI {w : World} {A : Option Addr} {n cap : Nat} {zs : List Int} (hr : Dk.RdI w A n zs) (hA : A = none → cap = 0) (hn : n ≤ cap) (f : Nat) (hf : f ≤ n) :
    ∃ A' cap', (∀ W, (Instr.slice 25 (.slice A n cap) (some (.int .i64 (f : Int))) none none).run Tryz.prog W = .ok (.slice A' (n - f) cap') W) ∧ (0 < n - f → ∃ b off, A' = some ⟨b, off, none⟩ ∧ ∀ i, i < n - f → w.cell? ⟨b, off + i, none⟩ = some (.int .i64 (zs.getD (f + i) 0))) := by
  rcases Nat.eq_zero_or_pos n with h0 | h0
  · subst h0
    obtain rfl : f = 0 := by omega
    cases A with
    | none =>
      obtain rfl := hA rfl
      exact ⟨none, 0, run_noneI, fun h => by omega⟩
    | some a => exact ⟨some a, cap, run_zeroI a cap, fun h => by omega⟩
  · obtain ⟨b, off, rfl, hc⟩ := hr.2.2 h0
    refine ⟨_, _, run_fromI b off n cap f hf hn, fun h1 => ?_⟩
    unfold past
    rw [if_neg (by omega)]
    refine ⟨b, off + f, rfl, fun i hi => ?_⟩
    have := hc (f + i) (by omega)
    rwa [← Nat.add_assoc] at this
theorem step_info : ∃ i z, Tryz.prog.info? 78 = some i ∧ i.zero = some z ∧ i.size = 1 ∧ z.cells.size = 1 ∧ i.bytes = 8 := by
  have h : (Tryz.prog.info? 78).map (fun i => (i.zero.map (fun z => z.cells.size), i.size, i.bytes)) = some (some 1, 1, 8) := by kernel_rfl
  cases hq : Tryz.prog.info? 78 with
  | none => simp [hq] at h
  | some i =>
    simp [hq] at h
    obtain ⟨h1, h2, h3⟩ := h
    cases hz : i.zero with
    | none => simp [hz] at h1
    | some z => exact ⟨i, z, rfl, hz, h2, by simpa [hz] using h1, h3⟩
theorem wpList_append_step {w : World} {ops : Array Oper} {rest : List Oper} {o : Oper} {a : Act} {Q : Exit → Act → World → Prop} (hgd : o.guard = none) (s x : Operand)
    (ho : o.op = .call { callee := .builtin .append, args := #[s, x], argTypes := #[64, 64] })
    (lo : Nat) (v : Value) (n : Nat) (xs : List Value) (hs : a.eval s = v) (hown : w.ownsRow lo 78 1 v n xs)
    (q : Nat) (y : Value) (hx : a.eval x = .slice (some ⟨q, 0, none⟩) 1 1) (hc : w.cell? ⟨q, 0, none⟩ = some y) (h1 : y.oneCell' = true) (hb : n ≤ 2000000) (hlo : lo ≤ w.heap.size)
    (h : ∀ v' w', w'.ownsRow lo 78 1 v' (n + 1) (xs ++ [y]) → w.grownBy w' v.ownBlock → wpList Tryz.prog ops Q rest (a.put o.dst v') w') : wpList Tryz.prog ops Q (o :: rest) a w := by
  obtain ⟨i, z, i1, i2, i3, i4, i5⟩ := step_info
  refine wpList_append_own_at w hgd s x _ ho lo 78 i z 1 8 Tryz.underlying64 i1 i2 i3 i5 i4 (by omega) v n xs hs hown ⟨q, 0, none⟩ 1 1 [y] hx rfl ?_ ?_ (by unfold maxLen; omega) (by omega) hlo ?_
  · intro j u hu
    rcases j with _ | j
    · simp at hu; subst hu; exact hc
    · simp at hu
  · intro u hu; simp at hu; subst hu; exact h1
  · intro v' w' k1 k2 _ _
    exact h v' w' k1 k2
theorem row_cell1 {w : World} {lo n cap : Nat} {A : Option Addr} {e : TypeId} {xs : List Value} (h : w.ownsRow lo e 1 (.slice A n cap) n xs) (hn : 0 < n) : ∃ q, A = some ⟨q, 0, none⟩ ∧ lo ≤ q ∧ ∀ i v, xs[i]? = some v → w.cell? ⟨q, i, none⟩ = some v := by
  rcases h.2 with ⟨he, h0⟩ | ⟨g', cap', cur, he, hg, hh, h4, h5, h6, h7⟩
  · omega
  · cases he
    refine ⟨g', rfl, hg, fun i v hi => ?_⟩
    rw [cell_of_row w g' i cur _ (0, 0) hh]
    rw [← h7, List.getElem?_take] at hi
    split at hi
    · rw [Array.getElem?_toList] at hi; exact hi
    · cases hi
/-- the steps of removeRest -/
def restFs (bw : Nat) (bs : List Nat) (ns : List Nat) : List (Fv × Sp) := (bs.zip ns).map fun p => (rest1Fv bw p.1, spDisk (Dk.stUnlink (segN p.2)))
theorem restrun_any {lo W g b lim : Nat} {F : List Nat} {w : World} {c : Ct} {t : Dk.St} (hW : WmS lo W g b lim F w c t) (A : Option Addr) (cap bw : Nat) (bs ns : List Nat) (hl : bs.length = ns.length) (hlen : bs.length ≤ 900000)
    (l0 : Nat) (hl0 : ∀ i ∈ F, i < l0) (hrow : w.ownsRow l0 78 1 (.slice A bs.length cap) bs.length (bs.map fun x => (rest1Fv bw x).val))
    (h1 : w.cell? ⟨bw, 0, none⟩ = some (.pointer (some ⟨W, 0, none⟩))) (hbs : ∀ (i x n : Nat), bs[i]? = some x → ns[i]? = some n → w.cell? ⟨x, 0, none⟩ = some (.int .i64 (n : Int)) ∧ n ≤ 99999999 ∧ x ∉ F) (o1 : bw ∉ F) :
    Calls Tryz.prog 15 #[.slice A bs.length cap] w (StpI lo W g b lim F w (spRun (ns.map fun n => spDisk (Dk.stUnlink (segN n))) c t)) := by
  have hfs : (restFs bw bs ns).map Prod.snd = ns.map fun n => spDisk (Dk.stUnlink (segN n)) := by
    unfold restFs
    rw [List.map_map]
    apply List.ext_getElem?
    intro i
    simp only [List.getElem?_map]
    by_cases hi : i < ns.length
    · rw [List.getElem?_eq_getElem (by rw [List.length_zip]; omega), List.getElem?_eq_getElem hi]
      simp
    · rw [List.getElem?_eq_none (by rw [List.length_zip]; omega), List.getElem?_eq_none (by omega)]
      rfl
  have hlf : (restFs bw bs ns).length = bs.length := by unfold restFs; rw [List.length_map, List.length_zip]; omega
  have hat : ∀ (i : Nat) (f : Fv × Sp), (restFs bw bs ns)[i]? = some f → ∃ x n : Nat, bs[i]? = some x ∧ ns[i]? = some n ∧ f = (rest1Fv bw x, spDisk (Dk.stUnlink (segN n))) := by
    intro i f hi
    unfold restFs at hi
    rw [List.getElem?_map, Option.map_eq_some_iff] at hi
    obtain ⟨p, hp, rfl⟩ := hi
    obtain ⟨e1, e2⟩ := List.getElem?_zip_eq_some.1 hp
    exact ⟨p.1, p.2, e1, e2, rfl⟩
  have hrd : 0 < bs.length → ∃ q, A = some ⟨q, 0, none⟩ ∧ q ∉ F ∧ ∀ (i x : Nat), bs[i]? = some x → w.cell? ⟨q, i, none⟩ = some (rest1Fv bw x).val := by
    intro h0
    obtain ⟨q, rfl, hq, hc⟩ := row_cell1 hrow h0
    exact ⟨q, rfl, fun hm => by have := hl0 q hm; omega, fun i x hi => hc i _ (by rw [List.getElem?_map, hi]; rfl)⟩
  rw [← hfs]
  refine run_sp A bs.length cap (restFs bw bs ns) c t hW hlf (by unfold maxLen; omega) ⟨by rw [List.length_map]; exact hlf, by unfold maxLen; omega, fun h0 => ?_⟩ (fun h0 a ha => ?_) (fun f hf => ?_) (fun _ _ _ => True) trivial (fun _ _ _ _ _ _ _ => trivial) (fun i f hi F' w' c' t' hW' hfr hsub _ => ?_)
  · obtain ⟨q, rfl, _, hc⟩ := hrd h0
    refine ⟨q, 0, rfl, fun i f hi => ?_⟩
    rw [List.getElem?_map, Option.map_eq_some_iff] at hi
    obtain ⟨f', hf', rfl⟩ := hi
    obtain ⟨x, n, e1, e2, rfl⟩ := hat i f' hf'
    rw [Nat.zero_add]
    exact hc i x e1
  · obtain ⟨q, rfl, hq, _⟩ := hrd h0
    cases ha
    exact hq
  · obtain ⟨i, hi⟩ := List.getElem?_of_mem hf
    obtain ⟨x, n, e1, e2, rfl⟩ := hat i f hi
    exact rest1Fv_in _ _
  · obtain ⟨x, n, e1, e2, rfl⟩ := hat i f hi
    obtain ⟨k1, k2, k3⟩ := hbs i x n e1 e2
    obtain ⟨m', ve', vs', xs', hX', rfl⟩ := hW'
    exact rest1_any hX' bw x (hfr.cell h1 o1) n k2 (hfr.cell k1 k3) (out_of o1 h1 hsub) (out_of k3 k1 hsub)
theorem numsN_le (fs : List Dk.Fil) : ∀ n ∈ numsN fs, n ≤ 99999999 := by
  intro n hn
  unfold numsN segsOf at hn
  obtain ⟨p, hp, rfl⟩ := List.mem_map.1 hn
  obtain ⟨f, _, hf⟩ := List.mem_filterMap.1 hp
  split at hf
  · rename_i h
    cases hf
    exact (numOf_pos h).2
  · cases hf
set_option maxRecDepth 100000 in
set_option maxHeartbeats 6400000 in
theorem removeRest_any {lo W g b lim : Nat} {m : List Dk.Ent} {ve vs : Value} {xs : List EA} {w : World} {c : Ct} {t : Dk.St} (h : WmX lo W g b lim m ve vs xs w c t) (hm : t.fs.length ≤ 900000) (hk : c.segs.length ≤ (numsN t.fs).length) :
    Calls Tryz.prog 19 #[.pointer (some ⟨W, 0, none⟩)] w (StpI lo W g b lim (WFt W g b m ve vs) w (spRest c t)) := by
  have HX := Lib.hid h
  have hal := alloc_below' w (.cells #[.pointer (some ⟨W, 0, none⟩)] 33)
  have HAL := Lib.hid hal
  have hXA := h.below hal
  have HXA := Lib.hid hXA
  have hb0 := Blk.new w #[.pointer (some ⟨W, 0, none⟩)] 33
  have HB0 := Lib.hid hb0
  have x0 := hb0.cell 0 (.pointer (some ⟨W, 0, none⟩)) rfl
  obtain ⟨SA, sc, hvs, _⟩ := row_slice h.ct.rS
  have x5 := hXA.ct.blk.cell 5 (.slice SA c.segs.length sc) (by rw [← hvs]; rfl)
  have xg := hXA.ct.blk.cell 0 (.pointer (some ⟨g, 0, none⟩)) rfl
  have HSN := Lib.hid (fun W' (hb : Below (w.alloc (.cells #[.pointer (some ⟨W, 0, none⟩)] 33)).heap.size (w.alloc (.cells #[.pointer (some ⟨W, 0, none⟩)] 33)) W') => segnums_any g b m t W' (hXA.below hb).im (hXA.below hb).base hm)
  have HR := Lib.hid (show spRest c t = spRun (((numsN t.fs).drop c.segs.length).map fun n => spDisk (Dk.stUnlink (segN n))) c t from rfl)
  have HLE := Lib.hid (numsN_le t.fs)
  have HML := Lib.hid (Nat.le_trans (numsN_len t.fs) hm)
  generalize hns : numsN t.fs = ns at *
  generalize hks : c.segs.length = k at *
  clear h hal hXA hb0 hvs hns
  go_enter Tryz.func19, Tryz.ntmps19
  go_upto_region 2 with fail
  generalize hwx : w.alloc (.cells #[.pointer (some ⟨W, 0, none⟩)] 33) = w1 at *
  generalize hB1 : w.heap.size = B1 at *
  have HWX := Lib.hid (And.intro hwx hB1)
  clear hwx hB1
  go_cut [17, 18, 19] from 6 to 18 (fun s17 s18 s19 wx => ∃ A' cap', s17 = .slice A' (ns.length - k) cap' ∧ s18 = .int .i64 ((ns.length - k : Nat) : Int) ∧ s19 = .int .i64 0 ∧ (0 < ns.length - k → ∃ bb off, A' = some ⟨bb, off, none⟩ ∧ ∀ i, i < ns.length - k → wx.cell? ⟨bb, off + i, none⟩ = some (.int .i64 ((ints ns).getD (k + i) 0))) ∧ Below w1.heap.size w1 wx)
  case first =>
    have HKX := Lib.hid (show ∀ W', Below w1.heap.size w1 W' → W'.cell? ⟨B1, 0, none⟩ = some (.pointer (some ⟨W, 0, none⟩)) ∧ W'.cell? ⟨W, 0, none⟩ = some (.pointer (some ⟨g, 0, none⟩)) ∧ W'.cell? ⟨W, 5, none⟩ = some (.slice SA k sc) from fun W' hb => ⟨(hb.cell (lt_of_cell x0)).trans x0, (hb.cell (lt_of_cell xg)).trans xg, (hb.cell (lt_of_cell x5)).trans x5⟩)
    go_wp2_with fail
    go_region_held3 (fun w' => w'.cell? ⟨B1, 0, none⟩ = some (.pointer (some ⟨W, 0, none⟩)) ∧ w'.cell? ⟨W, 0, none⟩ = some (.pointer (some ⟨g, 0, none⟩)) ∧ w'.cell? ⟨W, 5, none⟩ = some (.slice SA k sc)) (first | exact ⟨by assumption, by assumption, by assumption⟩ | go_keep) ((go_at_call 46; refine (HSN.out _ (by first | exact Below.refl _ _ | exact (Below.refl _ _).drew)).mono ?_; rintro e w2 ⟨A2, c2, rfl, hr2, hA2, hl2, _, hb2⟩; have HB2 := Lib.hid (show Below w1.heap.size w1 w2 from by first | exact hb2 | exact (Below.refl _ _).drew.trans hb2); obtain ⟨q0, q1, q2⟩ := HKX.out w2 HB2.out; obtain ⟨A3, c3, hsl, htl⟩ := tailI hr2 hA2 hl2 k hk; have HTL := Lib.hid htl; clear hr2 hA2 hl2 hb2 htl))
    go_wp2_with fail
    go_meet
    exact ⟨A3, c3, rfl, rfl, rfl, HTL.out, HB2.out⟩
  case rest =>
    obtain ⟨A3, c3, rfl, rfl, rfl, htl, hb2⟩ := hcut
    have HTL := Lib.hid htl
    have HB2 := Lib.hid hb2
    generalize hN : ns.length - k = N at *
    have hN9 : N ≤ 900000 := by have := HML.out; omega
    have HB1 := Lib.hid (HB0.out.below hb2)
    have HBW := Lib.hid (show Below w.heap.size w wc by have h1 := HWX.out.2; rw [h1]; exact HAL.out.trans (hb2.mono (by have h3 := HAL.out.size; omega)))
    have hB1w : B1 ≤ wc.heap.size := by have h1 := HBW.out.size; have h2 := HWX.out.2; omega
    clear htl hb2 x0 x5 xg
    go_wp2_with fail
    go_loopw [3, 19] (fun v iv wr => ∃ (j : Nat) (bs : List Nat), j ≤ N ∧ iv = .int .i64 (j : Int) ∧ bs.length = j ∧ wr.ownsRow wc.heap.size 78 1 v j (bs.map fun x => (rest1Fv B1 x).val) ∧ (∀ (i x : Nat), bs[i]? = some x → wc.heap.size ≤ x ∧ Blk wr x #[.int .i64 ((ints ns).getD (k + i) 0)] 3) ∧ Below wc.heap.size wc wr) (fun _ iv _ => N - (intOf iv).toNat)
    case atStart => exact ⟨0, [], Nat.zero_le _, rfl, rfl, ⟨rfl, .inl ⟨rfl, rfl⟩⟩, fun i x hi => by simp at hi, Below.refl _ _⟩
    case round =>
      obtain ⟨j, bs, hj, rfl, hbl, hrow, hbs, hbr⟩ := hrel
      obtain ⟨RA, rc, rfl, _⟩ := row_slice hrow
      have HROW := Lib.hid hrow
      have HBS := Lib.hid hbs
      have HBR := Lib.hid hbr
      have HBL := Lib.hid hbl
      by_cases hjt : j < N
      · obtain ⟨bb, off, rfl, hc⟩ := HTL.out (by omega)
        have c0 := (hbr.cell (lt_of_cell (hc j hjt))).trans (hc j hjt)
        obtain ⟨e, he⟩ : ∃ e, (ints ns).getD (k + j) 0 = e := ⟨_, rfl⟩
        rw [he] at c0
        have HE := Lib.hid he
        have j0 : (0 : Int) ≤ (j : Int) := by omega
        have j1 : (j : Int) < (N : Int) := by omega
        have hA := alloc_below' wr (.cells #[.int .i64 e] 3)
        have hB := alloc_below' (wr.alloc (.cells #[.int .i64 e] 3)) (.cells #[(rest1Fv B1 wr.heap.size).val] 78)
        have HAB := Lib.hid (hA.trans (hB.mono hA.size))
        have HBX := Lib.hid ((Blk.new wr #[.int .i64 e] 3).past (.cells #[(rest1Fv B1 wr.heap.size).val] 78))
        have HRA := Lib.hid (row_of hrow (fun i hi => (hA.trans (hB.mono hA.size)).block i (row_lo hrow i hi).2))
        have hs0 := hbr.size
        have hq := (Blk.new (wr.alloc (.cells #[.int .i64 e] 3)) #[(rest1Fv B1 wr.heap.size).val] 78).cell 0 _ rfl
        rw [show (wr.alloc (.cells #[.int .i64 e] 3)).heap.size = wr.heap.size + 1 by simp] at hq
        have HQ := Lib.hid hq
        have HSZ := Lib.hid (show wc.heap.size ≤ ((wr.alloc (.cells #[.int .i64 e] 3)).alloc (.cells #[(rest1Fv B1 wr.heap.size).val] 78)).heap.size by simp; omega)
        unfold Fv.val rest1Fv at HAB HBX HRA HQ HSZ
        clear hrow hbs hbr hbl hc he hA hB hq
        go_wp2_with (at_builtin; refine wpList_append_step rfl _ _ rfl wc.heap.size (.slice RA j rc) j (bs.map fun x => (rest1Fv B1 x).val) rfl HRA.out (wr.heap.size + 1) (rest1Fv B1 wr.heap.size).val rfl HQ.out rfl (by omega) HSZ.out ?_; intro v3 w3 hr3 hg3; obtain ⟨A4, c4, hv3, _⟩ := row_slice hr3; subst hv3; have HR3 := Lib.hid hr3; have HG3 := Lib.hid hg3; clear hr3 hg3)
        go_roundw
        case rel =>
          have hfr := (Dk.Fr.refl (Value.slice RA j rc).ownBlock.toList _).grown HG3.out (fun i hi => .inl (by simp [hi]))
          refine ⟨j + 1, bs ++ [wr.heap.size], by omega, by go_num, by rw [List.length_append, HBL.out]; rfl, ?_, fun i x hi => ?_, ?_⟩
          · rw [List.map_append]; exact HR3.out
          · rcases Nat.lt_or_ge i j with hij | hij
            · rw [List.getElem?_append_left (by rw [HBL.out]; exact hij)] at hi
              obtain ⟨k1, k2⟩ := HBS.out i x hi
              exact ⟨k1, (k2.below HAB.out).of (hfr.block x (Nat.lt_of_lt_of_le k2.lt HAB.out.size) (fun hm => row_ne HROW.out k2 (by decide) (by simpa using hm)))⟩
            · rw [List.getElem?_append_right (by rw [HBL.out]; exact hij), HBL.out] at hi
              have hij2 : i = j := by
                rcases Nat.eq_or_lt_of_le hij with h | h
                · exact h.symm
                · rw [List.getElem?_eq_none (by simp; omega)] at hi; cases hi
              subst hij2
              simp at hi
              subst hi
              rw [HE.out]
              exact ⟨hs0, HBX.out.of (hfr.block _ HBX.out.lt (fun hm => by rw [Option.mem_toList] at hm; have := (row_lo HROW.out _ hm).2; omega))⟩
          · exact (HBR.out.trans (HAB.out.mono hs0)).grown HG3.out HSZ.out fun r hr' => (row_lo HROW.out r hr').1
        case measure => simp [intOf]; omega
      · obtain rfl : j = N := by omega
        have c1 := (HB1.out.below (show Below wc.heap.size wc wr from hbr)).cell 0 (.pointer (some ⟨W, 0, none⟩)) rfl
        have HFW := Lib.hid (show ∀ i ∈ WFt W g b m ve vs, i < wc.heap.size from fun i hi => Nat.lt_of_lt_of_le (HX.out.lt i hi) HBW.out.size)
        have HXR := Lib.hid (HX.out.below (HBW.out.trans (hbr.mono HBW.out.size)))
        have hB1F : B1 ∉ WFt W g b m ve vs := fun hm => by have h1 := HX.out.lt _ hm; have h2 := HWX.out.2; omega
        have hrun := restrun_any (F := WFt W g b m ve vs) (w := wr) ⟨m, ve, vs, xs, HXR.out, rfl⟩ RA rc B1 bs (ns.drop k) (by rw [List.length_drop, hbl]; omega) (by omega) wc.heap.size HFW.out (by rw [hbl]; exact hrow) c1 (fun i x n h1 h2 => by
          obtain ⟨k1, k2⟩ := hbs i x h1
          rw [List.getElem?_drop] at h2
          have e1 : (ints ns).getD (k + i) 0 = (n : Int) := by unfold ints; rw [List.getD_eq_getElem?_getD, List.getElem?_map, h2]; rfl
          rw [e1] at k2
          exact ⟨k2.cell 0 _ rfl, HLE.out n (List.mem_of_getElem? h2), fun hm => by have := HFW.out x hm; omega⟩) hB1F
        rw [hbl] at hrun
        obtain ⟨q, hq⟩ : ∃ q, spRun ((ns.drop k).map fun n => spDisk (Dk.stUnlink (segN n))) c t = q := ⟨_, rfl⟩
        rw [hq] at hrun HR
        have HRUN := Lib.hid hrun
        have HBF := Lib.hid (HBW.out.trans (hbr.mono HBW.out.size))
        clear hrun hrow hbs hbr hbl c1 hq
        go_wp2_with fail
        refine HRUN.out.mono ?_
        rintro e w8 ⟨rfl, hQ⟩
        have HQ := Lib.hid hQ
        clear hQ
        go_wp2_with fail
        go_ret
        rw [HR.out]
        exact StpI.then (Dk.Fr.below HBF.out) (fun i hi => .inl hi) ⟨rfl, HQ.out⟩
end Go.Proofs.YtgmpdifggaggdaaGreatDoor.Wl

namespace Go.Proofs.YtgmpdifggaggdaaGreatDoor.Wl
open Go.RowKit Go.Proofs.YtgmpdifggaggdaaGreatDoor.Fld
set_option linter.unusedVariables false

theorem spRun_one (s : Sp) (c : Ct) (t : Dk.St) : spRun [s] c t = s c t := by
  rw [spRun]
  split
  · rename_i h
    rw [spRun_nil]
    exact Prod.ext h.symm rfl
  · rfl
/-- one step by run -/
theorem onerun_any {lo W g b lim : Nat} {F : List Nat} {w : World} {c : Ct} {t : Dk.St} (hW : WmS lo W g b lim F w c t) (X : Nat) (f : Fv) (s : Sp) (hf : f.In) (hX : w.cell? ⟨X, 0, none⟩ = some f.val) (hXF : X ∉ F) (hs : Calls Tryz.prog f.k f.args w (StpI lo W g b lim F w (s c t))) :
    Calls Tryz.prog 15 #[.slice (some ⟨X, 0, none⟩) 1 1] w (StpI lo W g b lim F w (s c t)) := by
  have h := run_any (some ⟨X, 0, none⟩) 1 1 [f] w rfl (by unfold maxLen; omega) (fun i w' => (i = 0 → w' = w) ∧ (0 < i → StpI lo W g b lim F w (s c t) (.returned (.int .i64 0)) w' ∧ (s c t).1 = 0) ∧ w'.cell? ⟨X, 0, none⟩ = some f.val)
    (fun r w' => StpI lo W g b lim F w (s c t) (.returned (.int .i64 r)) w') ⟨fun _ => rfl, fun h => by omega, hX⟩ (fun i w1 hp => ⟨rfl, by unfold maxLen; omega, fun _ => ⟨X, 0, rfl, fun j f' hj => ?_⟩⟩) (fun f' hf' => ?_) (fun i f' w1 hi hp => ?_)
  · refine h.mono ?_
    rintro e w' ⟨r, rfl, h0, h1⟩
    by_cases hr : r = 0
    · subst hr
      exact ((h0 rfl).2.1 (by omega)).1
    · exact h1 hr
  · rcases j with _ | j
    · simp at hj; subst hj; exact hp.2.2
    · simp at hj
  · simp at hf'; subst hf'; exact hf
  · rcases i with _ | i
    · simp at hi
      subst hi
      obtain rfl := hp.1 rfl
      refine hs.mono ?_
      rintro e w2 ⟨rfl, hQ⟩
      refine ⟨_, rfl, fun h0 => ⟨fun h => by omega, fun _ => ⟨⟨by rw [h0], hQ⟩, h0⟩, ?_⟩, fun _ => ⟨rfl, hQ⟩⟩
      obtain ⟨F', _, hfr, _⟩ := hQ
      exact hfr.cell hX hXF
    · simp at hi
set_option maxRecDepth 100000 in
set_option maxHeartbeats 3200000 in
theorem start_any {lo W g b lim : Nat} {m : List Dk.Ent} {ve vs : Value} {xs : List EA} {w : World} {c : Ct} {t : Dk.St} (h : WmX lo W g b lim m ve vs xs w c t) (hl : c.segs.length ≤ 900000) (hm : t.fs.length ≤ 890000) :
    Calls Tryz.prog 20 #[.pointer (some ⟨W, 0, none⟩)] w (StpI lo W g b lim (WFt W g b m ve vs) w (spStart c t)) := by
  have HX := Lib.hid h
  obtain ⟨SA, sc, hvs, _⟩ := row_slice h.ct.rS
  have x5 := h.ct.blk.cell 5 (.slice SA c.segs.length sc) (by rw [← hvs]; rfl)
  by_cases hz : c.segs = []
  · have HR := Lib.hid (show spStart c t = spCreate 1 c t by unfold spStart; rw [if_pos hz])
    have hz0 : c.segs.length = 0 := by rw [hz]; rfl
    rw [hz0] at x5
    have HCR := Lib.hid (creating_any W 1 w)
    clear h hvs hz
    go_enter Tryz.func20, Tryz.ntmps20
    go_wp2_with fail
    refine HCR.out.mono ?_
    rintro e w2 ⟨bn, bw, rfl, hc1, hc2, hl1, hl2, hb2⟩
    have hA := alloc_below' w2 (.cells #[(createFv bn bw).val] 78)
    have HBA := Lib.hid (hb2.trans (hA.mono hb2.size))
    have HOUT := Lib.hid (show ∀ i, w.heap.size ≤ i → i ∉ WFt W g b m ve vs from fun i hi hm => by have := HX.out.lt i hm; omega)
    have HXA := Lib.hid (HX.out.below HBA.out)
    have HRUN := Lib.hid (onerun_any (w := w2.alloc (.cells #[(createFv bn bw).val] 78)) ⟨m, ve, vs, xs, HXA.out, rfl⟩ w2.heap.size (createFv bn bw) (spCreate 1) (createFv_in bn bw) ((Blk.new w2 _ _).cell 0 _ rfl) (HOUT.out _ hb2.size) (create1_any HXA.out 1 (by omega) (by omega) hl hm bn bw ((hA.cell (lt_of_cell hc2)).trans hc2) ((hA.cell (lt_of_cell hc1)).trans hc1) (HOUT.out _ hl2) (HOUT.out _ hl1)))
    unfold Fv.val createFv at HRUN
    unfold Fv.val createFv
    clear hc1 hc2 hl1 hl2 hb2 hA
    go_wp2_with fail
    refine HRUN.out.mono ?_
    rintro e w8 ⟨rfl, hQ⟩
    have HQ := Lib.hid hQ
    clear hQ
    go_wp2_with fail
    go_ret
    rw [HR.out]
    exact StpI.then (Dk.Fr.below HBA.out) (fun i hi => .inl hi) ⟨rfl, HQ.out⟩
  · have HR := Lib.hid (show spStart c t = (0, c, t) by unfold spStart; rw [if_neg hz])
    have hpos : 0 < c.segs.length := List.length_pos_iff.2 hz
    have j0 : decide ((0 : Int) < (c.segs.length : Int)) = true := by simp; exact hpos
    generalize c.segs.length = sl at *
    clear h hvs hz
    go_enter Tryz.func20, Tryz.ntmps20
    go_wp2
    go_ret
    rw [HR.out]
    exact StpI.same HX.out (Below.refl _ _) 0
end Go.Proofs.YtgmpdifggaggdaaGreatDoor.Wl

namespace Go.Proofs.YtgmpdifggaggdaaGreatDoor.Wl
open Go.RowKit Go.Proofs.YtgmpdifggaggdaaGreatDoor.Fld
set_option linter.unusedVariables false

def sh1Fv (bw bb bl : Nat) : Fv := ⟨40, #[], #[.pointer (some ⟨bw, 0, none⟩), .pointer (some ⟨bb, 0, none⟩), .pointer (some ⟨bl, 0, none⟩)]⟩
def sh2Fv (bw : Nat) : Fv := ⟨42, #[], #[.pointer (some ⟨bw, 0, none⟩)]⟩
def sh3Fv (bw bl : Nat) : Fv := ⟨44, #[], #[.pointer (some ⟨bw, 0, none⟩), .pointer (some ⟨bl, 0, none⟩)]⟩
theorem sh1Fv_in (bw bb bl : Nat) : (sh1Fv bw bb bl).In := fun a w => enters_of Tryz.func40 (by kernel_rfl) rfl a w
theorem sh2Fv_in (bw : Nat) : (sh2Fv bw).In := fun a w => enters_of Tryz.func42 (by kernel_rfl) rfl a w
theorem sh3Fv_in (bw bl : Nat) : (sh3Fv bw bl).In := fun a w => enters_of Tryz.func44 (by kernel_rfl) rfl a w
theorem shrun_any {lo W g b lim : Nat} {F : List Nat} {w : World} {c : Ct} {t : Dk.St} (hW : WmS lo W g b lim F w c t) (hm : t.fs.length ≤ 890000) (X bw bb bl : Nat) (a : Addr) (n cap sz num : Nat) (x : Value) (ys : List Int)
    (hX0 : w.cell? ⟨X, 0, none⟩ = some (sh1Fv bw bb bl).val) (hX1 : w.cell? ⟨X, 1, none⟩ = some (sh2Fv bw).val) (hX2 : w.cell? ⟨X, 2, none⟩ = some (sh3Fv bw bl).val) (h1 : w.cell? ⟨bw, 0, none⟩ = some (.pointer (some ⟨W, 0, none⟩))) (h2 : w.cell? ⟨bb, 0, none⟩ = some (.slice (some a) n cap))
    (h3 : w.cell? ⟨bl, 0, none⟩ = some (.int .i64 (num : Int))) (h4 : w.cell? ⟨bl, 1, none⟩ = some x) (h5 : w.cell? ⟨bl, 2, none⟩ = some (.int .i64 (sz : Int))) (hnum : num ≤ 99999999)
    (hr : Rd w (some a) n ys) (hnc : n ≤ cap) (hc : n ≤ 16777216) (hsz : sz ≤ n) (hAF : a.block ∉ F) (hXF : X ∉ F) (o1 : bw ∉ F) (o2 : bb ∉ F) (o3 : bl ∉ F) :
    Calls Tryz.prog 15 #[.slice (some ⟨X, 0, none⟩) 3 3] w (StpI lo W g b lim F w (spRun [spDisk (Dk.stAppend freshN (ys.take sz)), spDisk (Dk.stSync freshN), spDisk (Dk.stRename freshN (segN num))] c t)) := by
  refine run_sp (some ⟨X, 0, none⟩) 3 3 [(sh1Fv bw bb bl, spDisk (Dk.stAppend freshN (ys.take sz))), (sh2Fv bw, spDisk (Dk.stSync freshN)), (sh3Fv bw bl, spDisk (Dk.stRename freshN (segN num)))] c t hW rfl (by unfold maxLen; omega) ⟨rfl, by unfold maxLen; omega, fun _ => ⟨X, 0, rfl, fun i f hi => ?_⟩⟩ (fun _ a ha => by cases ha; exact hXF) (fun f hf => ?_)
    (fun i c' t' => t'.fs.length ≤ 890000 + i) hm (fun i f hi c' t' hp hr0 => ?_) (fun i f hi F' w' c' t' hW' hfr hsub hp => ?_)
  · rcases i with _ | _ | _ | i
    · simp at hi; subst hi; exact hX0
    · simp at hi; subst hi; exact hX1
    · simp at hi; subst hi; exact hX2
    · simp at hi
  · simp only [List.mem_cons, List.not_mem_nil, or_false] at hf
    rcases hf with rfl | rfl | rfl
    · exact sh1Fv_in _ _ _
    · exact sh2Fv_in _
    · exact sh3Fv_in _ _
  · rcases i with _ | _ | _ | i
    · simp at hi; subst hi
      have := Dk.app_len freshN (ys.take sz) t'
      show (Dk.stAppend freshN (ys.take sz) t').2.fs.length ≤ _; omega
    · simp at hi; subst hi
      have := Dk.sync_len freshN t'
      show (Dk.stSync freshN t').2.fs.length ≤ _; omega
    · simp at hi; subst hi
      have := Dk.ren_len freshN (segN num) t'
      show (Dk.stRename freshN (segN num) t').2.fs.length ≤ _; omega
    · simp at hi
  · obtain ⟨m', ve', vs', xs', hX', rfl⟩ := hW'
    have p1 := out_of o1 h1 hsub
    have p2 := out_of o2 h2 hsub
    have p3 := out_of o3 h3 hsub
    rcases i with _ | _ | _ | i
    · simp at hi; subst hi
      exact short1_any hX' (by omega) bw bb bl (hfr.cell h1 o1) a n cap ys (hfr.cell h2 o2) (Rd.frm hr hfr fun _ a' ha' => by cases ha'; exact hAF) hnc hc sz (hfr.cell h5 o3) hsz p1 p2 p3
    · simp at hi; subst hi
      exact short2_any hX' (by omega) bw (hfr.cell h1 o1)
    · simp at hi; subst hi
      exact short3_any hX' (by omega) bw bl (hfr.cell h1 o1) num x _ hnum (hfr.cell h3 o3) (hfr.cell h4 o3) (hfr.cell h5 o3) p1 p3
    · simp at hi
theorem slFar {w : World} {A : Option Addr} {n cap : Nat} {zs : List Int} (h : Sl w A n cap zs) (p : Addr) (v : Value) (hp : ∀ a, A = some a → a.block ≠ p.block) : Sl (w.setCell p v) A n cap zs :=
  ⟨Rd.frm h.1 ((Dk.Fr.refl [p.block] w).setCell p (.inl (by simp)) v) (fun _ a ha hm => hp a ha (by simpa using hm)), h.2⟩
theorem slBel {w w' : World} {A : Option Addr} {n cap : Nat} {zs : List Int} (h : Sl w A n cap zs) (hb : Below w.heap.size w w') : Sl w' A n cap zs := ⟨h.1.below hb, h.2⟩
set_option maxRecDepth 100000 in
set_option maxHeartbeats 6400000 in
theorem shorten_any {lo W g b lim : Nat} {m : List Dk.Ent} {ve vs : Value} {xs : List EA} {w : World} {c : Ct} {t : Dk.St} (h : WmX lo W g b lim m ve vs xs w c t) (hl : c.segs.length ≤ 900000) (hm : t.fs.length ≤ 890000) (hsz : ∀ s, c.segs.getLast? = some s → s.size ≤ 1099511627776 ∧ ((Dk.stRead (segN s.num) t).1 = 0 → s.size ≤ (Dk.stRead (segN s.num) t).2.length)) :
    Calls Tryz.prog 18 #[.pointer (some ⟨W, 0, none⟩)] w (StpI lo W g b lim (WFt W g b m ve vs) w (spShorten c t)) := by
  have HX := Lib.hid h
  have hal := alloc_below' w (.cells #[.pointer (some ⟨W, 0, none⟩)] 33)
  have HAL := Lib.hid hal
  have HXA := Lib.hid (h.below hal)
  have hb0 := Blk.new w #[.pointer (some ⟨W, 0, none⟩)] 33
  have HB0 := Lib.hid hb0
  have x0 := hb0.cell 0 (.pointer (some ⟨W, 0, none⟩)) rfl
  obtain ⟨SA, sc, hvs, _⟩ := row_slice h.ct.rS
  have x5 := (h.below hal).ct.blk.cell 5 (.slice SA c.segs.length sc) (by rw [← hvs]; rfl)
  cases hcs : c.segs with
  | nil =>
    have HR := Lib.hid (show spShorten c t = (0, c, t) by unfold spShorten; rw [hcs]; rfl)
    rw [hcs] at x5
    clear h hal hb0 hvs
    go_enter Tryz.func18, Tryz.ntmps18
    go_wp2
    go_ret
    rw [HR.out]
    exact StpI.same HX.out HAL.out 0
  | cons s0 r0 =>
    obtain ⟨L, S, hLS⟩ := snoc_of c.segs (by rw [hcs]; simp)
    have hlen : c.segs.length = L.length + 1 := by rw [hLS]; simp
    have hgl : c.segs.getLast? = some S := by rw [hLS]; simp
    obtain ⟨hz1, hz2⟩ := hsz S hgl
    have hno := (h.ct.ok.2 S (by rw [hLS]; simp)).2.1
    have HR := Lib.hid (show spShorten c t = if (Dk.stRead (segN S.num) t).1 ≠ 0 ∨ (Dk.stRead (segN S.num) t).2.length = S.size then ((Dk.stRead (segN S.num) t).1, c, t) else spRun [spDisk (Dk.stAppend freshN ((Dk.stRead (segN S.num) t).2.take S.size)), spDisk (Dk.stSync freshN), spDisk (Dk.stRename freshN (segN S.num))] c t by unfold spShorten; rw [hgl])
    obtain ⟨q, cp, hv, hcl⟩ := (h.below hal).lastq hLS
    have hSA : SA = some ⟨q, 0, none⟩ ∧ sc = cp := by rw [hv, hlen] at hvs; cases hvs; exact ⟨rfl, rfl⟩
    obtain ⟨rfl, rfl⟩ := hSA
    rw [hlen] at x5
    have HLS := Lib.hid (lastSeg_any W 3 q (L.length + 1) sc _ _ _ (h.below hal).ct.blk (show (wcs g lim c ve vs)[3 + 2]? = some (.slice (some ⟨q, 0, none⟩) (L.length + 1) sc) from by rw [← hv]; rfl) (by omega) (by omega))
    have HCS := Lib.hid (show (w.alloc (.cells #[.pointer (some ⟨W, 0, none⟩)] 33)).cell? ⟨q, L.length * 3, none⟩ = some (.int .i64 (S.num : Int)) ∧ (w.alloc (.cells #[.pointer (some ⟨W, 0, none⟩)] 33)).cell? ⟨q, L.length * 3 + 1, none⟩ = some (.int .i64 (S.next : Int)) ∧ (w.alloc (.cells #[.pointer (some ⟨W, 0, none⟩)] 33)).cell? ⟨q, L.length * 3 + 2, none⟩ = some (.int .i64 (S.size : Int)) from ⟨hcl 0 _ rfl, hcl 1 _ rfl, hcl 2 _ rfl⟩)
    obtain ⟨p, hp⟩ : ∃ p, L.length * 3 = p := ⟨_, rfl⟩
    rw [hp] at HCS
    have hp2 : (L.length + 1 - 1) * 3 = p := by omega
    rw [hp2] at HLS
    have j0 : ((L.length : Int) + 1 == 0) = false := by simp; omega
    generalize hrd : Dk.stRead (segN S.num) t = rd at *
    have HRD := Lib.hid hrd
    have HNO := Lib.hid hno
    have HZ2 := Lib.hid hz2
    clear h hal hb0 hv hcl hp hp2 hgl hsz hlen hvs hcs hrd hno hz2
    go_enter Tryz.func18, Tryz.ntmps18
    go_wp2_with fail
    refine HLS.out.mono ?_
    rintro e w2 ⟨rfl, hst⟩
    have hb2 := still_below hst
    have HB2 := Lib.hid (HAL.out.trans (hb2.mono HAL.out.size))
    have y0 := (hb2.cell (lt_of_cell HCS.out.1)).trans HCS.out.1
    have y1 := (hb2.cell (lt_of_cell HCS.out.2.1)).trans HCS.out.2.1
    have y2 := (hb2.cell (lt_of_cell HCS.out.2.2)).trans HCS.out.2.2
    have HK1 := Lib.hid ((HB0.out.below hb2).past (.cells #[.int .i64 (S.num : Int), .int .i64 (S.next : Int), .int .i64 (S.size : Int)] 69))
    have HK2 := Lib.hid (Blk.new w2 #[.int .i64 (S.num : Int), .int .i64 (S.next : Int), .int .i64 (S.size : Int)] 69)
    have HBA := Lib.hid (HB2.out.alloc HB2.out.size (.cells #[.int .i64 (S.num : Int), .int .i64 (S.next : Int), .int .i64 (S.size : Int)] 69))
    have HL2 := Lib.hid HB2.out.size
    clear hb2 hst x0 x5 HLS
    go_upto_region 4 with fail
    generalize hwx : w2.alloc (.cells #[.int .i64 (S.num : Int), .int .i64 (S.next : Int), .int .i64 (S.size : Int)] 69) = wx at *
    have HWX := Lib.hid hwx
    generalize hB1 : w.heap.size = B1 at *
    generalize hB2 : w2.heap.size = B2 at *
    have HBB := Lib.hid (And.intro hB1 hB2)
    clear y0 y1 y2 hwx hB1 hB2
    obtain ⟨wI, rfl⟩ : ∃ wI, wI = w := ⟨_, rfl⟩
    obtain ⟨w, rfl⟩ : ∃ w, w = wx := ⟨_, rfl⟩
    have HXW := Lib.hid (HX.out.below (show Below wI.heap.size wI w by rw [HBB.out.1]; exact HBA.out))
    have f0 := HK1.out.cell 0 (.pointer (some ⟨W, 0, none⟩)) rfl
    have f1 := HXW.out.ct.blk.cell 0 (.pointer (some ⟨g, 0, none⟩)) rfl
    have f2 := HK2.out.cell 0 (.int .i64 (S.num : Int)) rfl
    have f3 := HK2.out.cell 1 (.int .i64 (S.next : Int)) rfl
    have f4 := HK2.out.cell 2 (.int .i64 (S.size : Int)) rfl
    have HNM := Lib.hid (fun (w' : World) (hb : Below w.heap.size w w') => segname_any S.num (.int .i64 (S.next : Int)) (.int .i64 (S.size : Int)) HNO.out w' (HXW.out.below hb).base)
    have HRE := Lib.hid (fun (w' : World) (hb : Below w.heap.size w w') => show Calls Tryz.prog 39 #[.pointer (some ⟨g, 0, none⟩), .string (str (segN S.num))] w' (Dk.ReadNew w' rd) from by
      have := Dk.read_fresh g b m t (str (segN S.num)) w' (HXW.out.below hb).im
      rwa [str_data, HRD.out] at this)
    go_cut [4, 5] from 19 to 28 (fun s4 s5 wz => ∃ B A n cap, s4 = .pointer (some ⟨B, 0, none⟩) ∧ s5 = .int .i64 rd.1 ∧ Blk wz B #[.slice A n cap] 45 ∧ Sl wz A n cap rd.2 ∧ n ≤ 16777216 ∧ (∀ a, A = some a → w.heap.size ≤ a.block) ∧ Below w.heap.size w wz ∧ w.heap.size ≤ B)
    case first =>
      have HB0 := Lib.hid (show Below w.heap.size w w.drew from (Below.refl _ _).drew)
      refine wp_region_noPanic ?_
      refine wp_region_held_drew (S := (fun w' => w'.cell? ⟨B1, 0, none⟩ = some (.pointer (some ⟨W, 0, none⟩)) ∧ w'.cell? ⟨W, 0, none⟩ = some (.pointer (some ⟨g, 0, none⟩)) ∧ w'.cell? ⟨B2, 0, none⟩ = some (.int .i64 (S.num : Int)) ∧ w'.cell? ⟨B2, 1, none⟩ = some (.int .i64 (S.next : Int)) ∧ w'.cell? ⟨B2, 2, none⟩ = some (.int .i64 (S.size : Int)))) (by kernel_rfl) ?_ (fun hHeld => ?_)
      · exact ⟨f0, f1, f2, f3, f4⟩
      refine takeL (i := 0) (v := ?_) rfl (by kernel_rfl) (by kernel_rfl) (by kernel_rfl) (fun _ _ _ h => h) (Or.inl ⟨by rfl, ?_⟩) (by assumption) ?_
      rotate_left
      · intro w' hSw
        (try dsimp only at hSw)
        go_simp
        first | done | with_reducible rfl
      simp only [Act.put, List.setIfInBounds_toArray, List.set_cons_zero, List.set_cons_succ]
      refine takeL (i := 1) (v := ?_) rfl (by kernel_rfl) (by kernel_rfl) (by kernel_rfl) (fun _ _ _ h => h) (Or.inl ⟨by rfl, ?_⟩) (by assumption) ?_
      rotate_left
      · intro w' hSw
        (try dsimp only at hSw)
        go_simp
        first | done | with_reducible rfl
      simp only [Act.put, List.setIfInBounds_toArray, List.set_cons_zero, List.set_cons_succ]
      refine takeL (i := 2) (v := ?_) rfl (by kernel_rfl) (by kernel_rfl) (by kernel_rfl) (fun _ _ _ h => h) (Or.inl ⟨by rfl, ?_⟩) (by assumption) ?_
      rotate_left
      · intro w' hSw
        (try dsimp only at hSw)
        go_simp
        first | done | with_reducible rfl
      simp only [Act.put, List.setIfInBounds_toArray, List.set_cons_zero, List.set_cons_succ]
      refine takeL (i := 3) (v := ?_) rfl (by kernel_rfl) (by kernel_rfl) (by kernel_rfl) (fun _ _ _ h => h) (Or.inl ⟨by rfl, ?_⟩) (by assumption) ?_
      rotate_left
      · intro w' hSw
        (try dsimp only at hSw)
        go_simp
        first | done | with_reducible rfl
      simp only [Act.put, List.setIfInBounds_toArray, List.set_cons_zero, List.set_cons_succ]
      refine takeL (i := 4) (v := ?_) rfl (by kernel_rfl) (by kernel_rfl) (by kernel_rfl) (fun _ _ _ h => h) (Or.inl ⟨by rfl, ?_⟩) (by assumption) ?_
      rotate_left
      · intro w' hSw
        (try dsimp only at hSw)
        go_simp
        first | done | with_reducible rfl
      simp only [Act.put, List.setIfInBounds_toArray, List.set_cons_zero, List.set_cons_succ]
      refine wpAnyH_ready (rs := [5, 10]) (by kernel_rfl) (by simp) ?_
      refine consL rfl (fun K hK => ?_) (consL rfl (fun K hK => ?_) AllReadyH.nil)
      · go_simp
        go_at_call 29
        refine (HNM.out _ (by exact HB0.out)).mono ?_
        rintro e w1 ⟨rfl, hb1⟩
        have HB1 := Lib.hid (show Below w.heap.size w w1 from HB0.out.trans (hb1.mono HB0.out.size))
        have s1_0 := (HB1.out.cell (lt_of_cell f0)).trans f0
        have s1_1 := (HB1.out.cell (lt_of_cell f1)).trans f1
        have s1_2 := (HB1.out.cell (lt_of_cell f2)).trans f2
        have s1_3 := (HB1.out.cell (lt_of_cell f3)).trans f3
        have s1_4 := (HB1.out.cell (lt_of_cell f4)).trans f4
        clear hb1
        refine hK.out _ _ ?_ (fun hHeld1 => ?_)
        · first | exact ⟨by assumption, by assumption, by assumption, by assumption, by assumption⟩ | go_keep
        clear hK K
        try simp only [Act.put, List.setIfInBounds_toArray, List.set_cons_zero, List.set_cons_succ]
        refine wpAnyH_ready (rs := [6, 10]) (by kernel_rfl) (by simp) ?_
        refine consL rfl (fun K hK => ?_) (consL rfl (fun K hK => ?_) AllReadyH.nil)
        · go_simp
          go_at_call 39
          refine (HRE.out _ (by exact HB1.out)).mono ?_
          rintro e w2 ⟨A, n, cap, rfl, hsl, hn16, hfr, hb2⟩
          have HSL := Lib.hid hsl
          have HN16 := Lib.hid hn16
          have HFR := Lib.hid hfr
          have HRS := Lib.hid (HB1.out.size)
          clear hsl hn16 hfr
          have HB2 := Lib.hid (show Below w.heap.size w w2 from HB1.out.trans (hb2.mono HB1.out.size))
          have s2_0 := (HB2.out.cell (lt_of_cell f0)).trans f0
          have s2_1 := (HB2.out.cell (lt_of_cell f1)).trans f1
          have s2_2 := (HB2.out.cell (lt_of_cell f2)).trans f2
          have s2_3 := (HB2.out.cell (lt_of_cell f3)).trans f3
          have s2_4 := (HB2.out.cell (lt_of_cell f4)).trans f4
          clear hb2
          refine hK.out _ _ ?_ (fun hHeld2 => ?_)
          · first | exact ⟨by assumption, by assumption, by assumption, by assumption, by assumption⟩ | go_keep
          clear hK K
          try simp only [Act.put, List.setIfInBounds_toArray, List.set_cons_zero, List.set_cons_succ]
          refine takeL (i := 7) (v := ?_) rfl (by kernel_rfl) (by kernel_rfl) (by kernel_rfl) (fun _ _ _ h => h) (Or.inl ⟨by rfl, ?_⟩) (by assumption) ?_
          rotate_left
          · intro w' hSw
            (try dsimp only at hSw)
            go_simp
            first | done | with_reducible rfl
          simp only [Act.put, List.setIfInBounds_toArray, List.set_cons_zero, List.set_cons_succ]
          refine takeL (i := 8) (v := ?_) rfl (by kernel_rfl) (by kernel_rfl) (by kernel_rfl) (fun _ _ _ h => h) (Or.inl ⟨by rfl, ?_⟩) (by assumption) ?_
          rotate_left
          · intro w' hSw
            (try dsimp only at hSw)
            go_simp
            first | done | with_reducible rfl
          simp only [Act.put, List.setIfInBounds_toArray, List.set_cons_zero, List.set_cons_succ]
          refine takeL (i := 9) (v := ?_) rfl (by kernel_rfl) (by kernel_rfl) (by kernel_rfl) (fun _ _ _ h => h) (Or.inl ⟨by rfl, ?_⟩) (by assumption) ?_
          rotate_left
          · intro w' hSw
            (try dsimp only at hSw)
            go_simp
            first | done | with_reducible rfl
          simp only [Act.put, List.setIfInBounds_toArray, List.set_cons_zero, List.set_cons_succ]
          refine wpAnyH_ready (rs := [10]) (by kernel_rfl) (by simp) ?_
          refine consL rfl (fun K hK => ?_) AllReadyH.nil
          have HB3 := Lib.hid (show Below w.heap.size w (w2.alloc (.cells #[.slice none 0 0] 45)) from HB2.out.alloc HB2.out.size _)
          have HK3 := Lib.hid (show Blk (w2.alloc (.cells #[.slice none 0 0] 45)) w2.heap.size #[.slice none 0 0] 45 from Blk.new w2 #[.slice none 0 0] 45)
          have s3_0 := (HB3.out.cell (lt_of_cell f0)).trans f0
          have s3_1 := (HB3.out.cell (lt_of_cell f1)).trans f1
          have s3_2 := (HB3.out.cell (lt_of_cell f2)).trans f2
          have s3_3 := (HB3.out.cell (lt_of_cell f3)).trans f3
          have s3_4 := (HB3.out.cell (lt_of_cell f4)).trans f4
          go_simp
          refine hK.out _ _ ?_ (fun hHeld3 => ?_)
          · first | exact ⟨by assumption, by assumption, by assumption, by assumption, by assumption⟩ | go_keep
          clear hK K
          try simp only [Act.put, List.setIfInBounds_toArray, List.set_cons_zero, List.set_cons_succ]
          have y0 := HK3.out.cell 0 (.slice none 0 0) rfl
          have z0 := HK3.out.free 0
          have HLT := Lib.hid (show w.heap.size ≤ w2.heap.size from HB2.out.size)
          have HBS := Lib.hid (show Below w.heap.size w ((w2.alloc (.cells #[.slice none 0 0] 45)).setCell ⟨w2.heap.size, 0, none⟩ (.slice A n cap)) from HB3.out.setCell (p := ⟨w2.heap.size, 0, none⟩) HLT.out _)
          have HKS := Lib.hid (HK3.out.set 0 (.slice A n cap) (by simp))
          have s4_0 := (HBS.out.cell (lt_of_cell f0)).trans f0
          have s4_1 := (HBS.out.cell (lt_of_cell f1)).trans f1
          have s4_2 := (HBS.out.cell (lt_of_cell f2)).trans f2
          have s4_3 := (HBS.out.cell (lt_of_cell f3)).trans f3
          have s4_4 := (HBS.out.cell (lt_of_cell f4)).trans f4
          refine wpAnyH_ready (rs := [11]) (by kernel_rfl) (by simp) ?_
          refine consL rfl (fun K hK => ?_) AllReadyH.nil
          go_simp
          refine hK.out _ _ ?_ (fun hHeld4 => ?_)
          · first | exact ⟨by assumption, by assumption, by assumption, by assumption, by assumption⟩ | go_keep | exact ⟨s4_0, s4_1, s4_2, s4_3, s4_4⟩
          clear hK K
          try simp only [Act.put, List.setIfInBounds_toArray, List.set_cons_zero, List.set_cons_succ]
          refine takeL (i := 12) (v := ?_) rfl (by kernel_rfl) (by kernel_rfl) (by kernel_rfl) (fun _ _ _ h => h) (Or.inl ⟨by rfl, ?_⟩) (by assumption) ?_
          rotate_left
          · intro w' hSw
            (try dsimp only at hSw)
            go_simp
            first | done | with_reducible rfl
          simp only [Act.put, List.setIfInBounds_toArray, List.set_cons_zero, List.set_cons_succ]
          refine wpAnyH_done (by kernel_rfl) ?_ _
          refine NoPanic.normal ?_
          go_wp2_with fail
          go_meet
          first | exact ⟨_, A, n, cap, rfl, rfl, Blk.new _ _ _, slBel HSL.out (alloc_below' _ _), HN16.out, fun a ha => Nat.le_trans HRS.out (HFR.out a ha), HB2.out.alloc HB2.out.size _, HLT.out⟩ | exact ⟨_, A, n, cap, rfl, rfl, HKS.out, (slFar HSL.out _ _ (fun a ha e => by have h1 := HFR.out a ha; have h2 := HKL.out; have h3 : a.block = w2.heap.size := e; omega)), HN16.out, fun a ha => Nat.le_trans HRS.out (HFR.out a ha), HBS.out, HLT.out⟩
        · have HB5 := Lib.hid (show Below w.heap.size w (w1.alloc (.cells #[.slice none 0 0] 45)) from HB1.out.alloc HB1.out.size _)
          have HK5 := Lib.hid (show Blk (w1.alloc (.cells #[.slice none 0 0] 45)) w1.heap.size #[.slice none 0 0] 45 from Blk.new w1 #[.slice none 0 0] 45)
          have s5_0 := (HB5.out.cell (lt_of_cell f0)).trans f0
          have s5_1 := (HB5.out.cell (lt_of_cell f1)).trans f1
          have s5_2 := (HB5.out.cell (lt_of_cell f2)).trans f2
          have s5_3 := (HB5.out.cell (lt_of_cell f3)).trans f3
          have s5_4 := (HB5.out.cell (lt_of_cell f4)).trans f4
          go_simp
          refine hK.out _ _ ?_ (fun hHeld5 => ?_)
          · first | exact ⟨by assumption, by assumption, by assumption, by assumption, by assumption⟩ | go_keep
          clear hK K
          try simp only [Act.put, List.setIfInBounds_toArray, List.set_cons_zero, List.set_cons_succ]
          refine wpAnyH_ready (rs := [6]) (by kernel_rfl) (by simp) ?_
          refine consL rfl (fun K hK => ?_) AllReadyH.nil
          go_simp
          have HKL := Lib.hid (HK5.out.lt)
          go_at_call 39
          refine (HRE.out _ (by exact HB5.out)).mono ?_
          rintro e w6 ⟨A, n, cap, rfl, hsl, hn16, hfr, hb6⟩
          have HSL := Lib.hid hsl
          have HN16 := Lib.hid hn16
          have HFR := Lib.hid hfr
          have HRS := Lib.hid (HB5.out.size)
          clear hsl hn16 hfr
          have HB6 := Lib.hid (show Below w.heap.size w w6 from HB5.out.trans (hb6.mono HB5.out.size))
          have HK6 := Lib.hid (HK5.out.below hb6)
          have s6_0 := (HB6.out.cell (lt_of_cell f0)).trans f0
          have s6_1 := (HB6.out.cell (lt_of_cell f1)).trans f1
          have s6_2 := (HB6.out.cell (lt_of_cell f2)).trans f2
          have s6_3 := (HB6.out.cell (lt_of_cell f3)).trans f3
          have s6_4 := (HB6.out.cell (lt_of_cell f4)).trans f4
          clear hb6
          refine hK.out _ _ ?_ (fun hHeld6 => ?_)
          · first | exact ⟨by assumption, by assumption, by assumption, by assumption, by assumption⟩ | go_keep
          clear hK K
          try simp only [Act.put, List.setIfInBounds_toArray, List.set_cons_zero, List.set_cons_succ]
          refine takeL (i := 7) (v := ?_) rfl (by kernel_rfl) (by kernel_rfl) (by kernel_rfl) (fun _ _ _ h => h) (Or.inl ⟨by rfl, ?_⟩) (by assumption) ?_
          rotate_left
          · intro w' hSw
            (try dsimp only at hSw)
            go_simp
            first | done | with_reducible rfl
          simp only [Act.put, List.setIfInBounds_toArray, List.set_cons_zero, List.set_cons_succ]
          refine takeL (i := 8) (v := ?_) rfl (by kernel_rfl) (by kernel_rfl) (by kernel_rfl) (fun _ _ _ h => h) (Or.inl ⟨by rfl, ?_⟩) (by assumption) ?_
          rotate_left
          · intro w' hSw
            (try dsimp only at hSw)
            go_simp
            first | done | with_reducible rfl
          simp only [Act.put, List.setIfInBounds_toArray, List.set_cons_zero, List.set_cons_succ]
          refine takeL (i := 9) (v := ?_) rfl (by kernel_rfl) (by kernel_rfl) (by kernel_rfl) (fun _ _ _ h => h) (Or.inl ⟨by rfl, ?_⟩) (by assumption) ?_
          rotate_left
          · intro w' hSw
            (try dsimp only at hSw)
            go_simp
            first | done | with_reducible rfl
          simp only [Act.put, List.setIfInBounds_toArray, List.set_cons_zero, List.set_cons_succ]
          have y0 := HK6.out.cell 0 (.slice none 0 0) rfl
          have z0 := HK6.out.free 0
          have HLT := Lib.hid (show w.heap.size ≤ w1.heap.size from HB1.out.size)
          have HBS := Lib.hid (show Below w.heap.size w (w6.setCell ⟨w1.heap.size, 0, none⟩ (.slice A n cap)) from HB6.out.setCell (p := ⟨w1.heap.size, 0, none⟩) HLT.out _)
          have HKS := Lib.hid (HK6.out.set 0 (.slice A n cap) (by simp))
          have s7_0 := (HBS.out.cell (lt_of_cell f0)).trans f0
          have s7_1 := (HBS.out.cell (lt_of_cell f1)).trans f1
          have s7_2 := (HBS.out.cell (lt_of_cell f2)).trans f2
          have s7_3 := (HBS.out.cell (lt_of_cell f3)).trans f3
          have s7_4 := (HBS.out.cell (lt_of_cell f4)).trans f4
          refine wpAnyH_ready (rs := [11]) (by kernel_rfl) (by simp) ?_
          refine consL rfl (fun K hK => ?_) AllReadyH.nil
          go_simp
          refine hK.out _ _ ?_ (fun hHeld7 => ?_)
          · first | exact ⟨by assumption, by assumption, by assumption, by assumption, by assumption⟩ | go_keep | exact ⟨s7_0, s7_1, s7_2, s7_3, s7_4⟩
          clear hK K
          try simp only [Act.put, List.setIfInBounds_toArray, List.set_cons_zero, List.set_cons_succ]
          refine takeL (i := 12) (v := ?_) rfl (by kernel_rfl) (by kernel_rfl) (by kernel_rfl) (fun _ _ _ h => h) (Or.inl ⟨by rfl, ?_⟩) (by assumption) ?_
          rotate_left
          · intro w' hSw
            (try dsimp only at hSw)
            go_simp
            first | done | with_reducible rfl
          simp only [Act.put, List.setIfInBounds_toArray, List.set_cons_zero, List.set_cons_succ]
          refine wpAnyH_done (by kernel_rfl) ?_ _
          refine NoPanic.normal ?_
          go_wp2_with fail
          go_meet
          first | exact ⟨_, A, n, cap, rfl, rfl, Blk.new _ _ _, slBel HSL.out (alloc_below' _ _), HN16.out, fun a ha => Nat.le_trans HRS.out (HFR.out a ha), HB1.out.alloc HB1.out.size _, HLT.out⟩ | exact ⟨_, A, n, cap, rfl, rfl, HKS.out, (slFar HSL.out _ _ (fun a ha e => by have h1 := HFR.out a ha; have h2 := HKL.out; have h3 : a.block = w1.heap.size := e; omega)), HN16.out, fun a ha => Nat.le_trans HRS.out (HFR.out a ha), HBS.out, HLT.out⟩
      · have HB8 := Lib.hid (show Below w.heap.size w (w.drew.alloc (.cells #[.slice none 0 0] 45)) from HB0.out.alloc HB0.out.size _)
        have HK8 := Lib.hid (show Blk (w.drew.alloc (.cells #[.slice none 0 0] 45)) w.heap.size #[.slice none 0 0] 45 from Blk.new w.drew #[.slice none 0 0] 45)
        have s8_0 := (HB8.out.cell (lt_of_cell f0)).trans f0
        have s8_1 := (HB8.out.cell (lt_of_cell f1)).trans f1
        have s8_2 := (HB8.out.cell (lt_of_cell f2)).trans f2
        have s8_3 := (HB8.out.cell (lt_of_cell f3)).trans f3
        have s8_4 := (HB8.out.cell (lt_of_cell f4)).trans f4
        go_simp
        refine hK.out _ _ ?_ (fun hHeld8 => ?_)
        · first | exact ⟨by assumption, by assumption, by assumption, by assumption, by assumption⟩ | go_keep
        clear hK K
        try simp only [Act.put, List.setIfInBounds_toArray, List.set_cons_zero, List.set_cons_succ]
        refine wpAnyH_ready (rs := [5]) (by kernel_rfl) (by simp) ?_
        refine consL rfl (fun K hK => ?_) AllReadyH.nil
        go_simp
        go_at_call 29
        refine (HNM.out _ (by exact HB8.out)).mono ?_
        rintro e w9 ⟨rfl, hb9⟩
        have HB9 := Lib.hid (show Below w.heap.size w w9 from HB8.out.trans (hb9.mono HB8.out.size))
        have HK9 := Lib.hid (HK8.out.below hb9)
        have s9_0 := (HB9.out.cell (lt_of_cell f0)).trans f0
        have s9_1 := (HB9.out.cell (lt_of_cell f1)).trans f1
        have s9_2 := (HB9.out.cell (lt_of_cell f2)).trans f2
        have s9_3 := (HB9.out.cell (lt_of_cell f3)).trans f3
        have s9_4 := (HB9.out.cell (lt_of_cell f4)).trans f4
        clear hb9
        refine hK.out _ _ ?_ (fun hHeld9 => ?_)
        · first | exact ⟨by assumption, by assumption, by assumption, by assumption, by assumption⟩ | go_keep
        clear hK K
        try simp only [Act.put, List.setIfInBounds_toArray, List.set_cons_zero, List.set_cons_succ]
        refine wpAnyH_ready (rs := [6]) (by kernel_rfl) (by simp) ?_
        refine consL rfl (fun K hK => ?_) AllReadyH.nil
        go_simp
        have HKL := Lib.hid (HK9.out.lt)
        go_at_call 39
        refine (HRE.out _ (by exact HB9.out)).mono ?_
        rintro e w10 ⟨A, n, cap, rfl, hsl, hn16, hfr, hb10⟩
        have HSL := Lib.hid hsl
        have HN16 := Lib.hid hn16
        have HFR := Lib.hid hfr
        have HRS := Lib.hid (HB9.out.size)
        clear hsl hn16 hfr
        have HB10 := Lib.hid (show Below w.heap.size w w10 from HB9.out.trans (hb10.mono HB9.out.size))
        have HK10 := Lib.hid (HK9.out.below hb10)
        have s10_0 := (HB10.out.cell (lt_of_cell f0)).trans f0
        have s10_1 := (HB10.out.cell (lt_of_cell f1)).trans f1
        have s10_2 := (HB10.out.cell (lt_of_cell f2)).trans f2
        have s10_3 := (HB10.out.cell (lt_of_cell f3)).trans f3
        have s10_4 := (HB10.out.cell (lt_of_cell f4)).trans f4
        clear hb10
        refine hK.out _ _ ?_ (fun hHeld10 => ?_)
        · first | exact ⟨by assumption, by assumption, by assumption, by assumption, by assumption⟩ | go_keep
        clear hK K
        try simp only [Act.put, List.setIfInBounds_toArray, List.set_cons_zero, List.set_cons_succ]
        refine takeL (i := 7) (v := ?_) rfl (by kernel_rfl) (by kernel_rfl) (by kernel_rfl) (fun _ _ _ h => h) (Or.inl ⟨by rfl, ?_⟩) (by assumption) ?_
        rotate_left
        · intro w' hSw
          (try dsimp only at hSw)
          go_simp
          first | done | with_reducible rfl
        simp only [Act.put, List.setIfInBounds_toArray, List.set_cons_zero, List.set_cons_succ]
        refine takeL (i := 8) (v := ?_) rfl (by kernel_rfl) (by kernel_rfl) (by kernel_rfl) (fun _ _ _ h => h) (Or.inl ⟨by rfl, ?_⟩) (by assumption) ?_
        rotate_left
        · intro w' hSw
          (try dsimp only at hSw)
          go_simp
          first | done | with_reducible rfl
        simp only [Act.put, List.setIfInBounds_toArray, List.set_cons_zero, List.set_cons_succ]
        refine takeL (i := 9) (v := ?_) rfl (by kernel_rfl) (by kernel_rfl) (by kernel_rfl) (fun _ _ _ h => h) (Or.inl ⟨by rfl, ?_⟩) (by assumption) ?_
        rotate_left
        · intro w' hSw
          (try dsimp only at hSw)
          go_simp
          first | done | with_reducible rfl
        simp only [Act.put, List.setIfInBounds_toArray, List.set_cons_zero, List.set_cons_succ]
        have y0 := HK10.out.cell 0 (.slice none 0 0) rfl
        have z0 := HK10.out.free 0
        have HLT := Lib.hid (show w.heap.size ≤ w.heap.size from Nat.le_refl _)
        have HBS := Lib.hid (show Below w.heap.size w (w10.setCell ⟨w.heap.size, 0, none⟩ (.slice A n cap)) from HB10.out.setCell (p := ⟨w.heap.size, 0, none⟩) HLT.out _)
        have HKS := Lib.hid (HK10.out.set 0 (.slice A n cap) (by simp))
        have s11_0 := (HBS.out.cell (lt_of_cell f0)).trans f0
        have s11_1 := (HBS.out.cell (lt_of_cell f1)).trans f1
        have s11_2 := (HBS.out.cell (lt_of_cell f2)).trans f2
        have s11_3 := (HBS.out.cell (lt_of_cell f3)).trans f3
        have s11_4 := (HBS.out.cell (lt_of_cell f4)).trans f4
        refine wpAnyH_ready (rs := [11]) (by kernel_rfl) (by simp) ?_
        refine consL rfl (fun K hK => ?_) AllReadyH.nil
        go_simp
        refine hK.out _ _ ?_ (fun hHeld11 => ?_)
        · first | exact ⟨by assumption, by assumption, by assumption, by assumption, by assumption⟩ | go_keep | exact ⟨s11_0, s11_1, s11_2, s11_3, s11_4⟩
        clear hK K
        try simp only [Act.put, List.setIfInBounds_toArray, List.set_cons_zero, List.set_cons_succ]
        refine takeL (i := 12) (v := ?_) rfl (by kernel_rfl) (by kernel_rfl) (by kernel_rfl) (fun _ _ _ h => h) (Or.inl ⟨by rfl, ?_⟩) (by assumption) ?_
        rotate_left
        · intro w' hSw
          (try dsimp only at hSw)
          go_simp
          first | done | with_reducible rfl
        simp only [Act.put, List.setIfInBounds_toArray, List.set_cons_zero, List.set_cons_succ]
        refine wpAnyH_done (by kernel_rfl) ?_ _
        refine NoPanic.normal ?_
        go_wp2_with fail
        go_meet
        first | exact ⟨_, A, n, cap, rfl, rfl, Blk.new _ _ _, slBel HSL.out (alloc_below' _ _), HN16.out, fun a ha => Nat.le_trans HRS.out (HFR.out a ha), HB0.out.alloc HB0.out.size _, HLT.out⟩ | exact ⟨_, A, n, cap, rfl, rfl, HKS.out, (slFar HSL.out _ _ (fun a ha e => by have h1 := HFR.out a ha; have h2 := HKL.out; have h3 : a.block = w.heap.size := e; omega)), HN16.out, fun a ha => Nat.le_trans HRS.out (HFR.out a ha), HBS.out, HLT.out⟩
    case rest =>
      obtain ⟨B, A, n, cap, rfl, rfl, hBk, hSl, hn16, hfr, hbz, hBlo⟩ := hcut
      obtain ⟨r1, zs⟩ := rd
      simp only at *
      have HXC := Lib.hid (HXW.out.below hbz)
      have HBKc := Lib.hid hBk
      have HSLc := Lib.hid hSl
      have HBZ := Lib.hid hbz
      have HBIW := Lib.hid (show Below wI.heap.size wI wc by rw [HBB.out.1]; exact HBA.out.trans (hbz.mono (by have h1 := HBA.out.size; have h2 := HBB.out.1; omega)))
      have hnz : zs.length = n := hSl.1.1
      have g0 := hBk.cell 0 (.slice A n cap) rfl
      have g2 := (hbz.cell (lt_of_cell f4)).trans f4
      have hlw : B1 ≤ w.heap.size := by have h1 := HBA.out.size; have h2 := HBB.out.1; omega
      have HB12 := Lib.hid (HL2.out)
      have HOUT := Lib.hid (show ∀ i, B1 ≤ i → i ∉ WFt W g b m ve vs from fun i hi hm => by have := HX.out.lt i hm; have := HBB.out.1; omega)
      have HFR := Lib.hid hfr
      have HBLO := Lib.hid hBlo
      clear hBk hSl hfr hbz hBlo
      by_cases e0 : r1 = 0
      · subst e0
        by_cases e1 : zs.length = S.size
        · have q2 : ((n : Int) == (S.size : Int)) = true := by simp; omega
          rw [if_pos (Or.inr e1)] at HR
          clear e1
          go_wp2_with fail
          go_ret
          rw [HR.out]
          exact StpI.same HX.out HBIW.out 0
        · have q2 : ((n : Int) == (S.size : Int)) = false := by simp; omega
          rw [if_neg (by rintro (h | h); exact h rfl; exact e1 h)] at HR
          have hlt : S.size < n := by have := HZ2.out rfl; omega
          have HLT := Lib.hid hlt
          obtain ⟨b', off, rfl, _⟩ := HSLc.out.1.2.2.2 (by omega)
          have hw' := alloc_below' wc (.cells #[(sh1Fv B1 B B2).val, (sh2Fv B1).val, (sh3Fv B1 B2).val] 78)
          have HWB := Lib.hid hw'
          have k1 := ((HBZ.out.trans (hw'.mono HBZ.out.size)).cell (lt_of_cell f0)).trans f0
          have k2 := (hw'.cell (lt_of_cell g0)).trans g0
          have k3 := ((HBZ.out.trans (hw'.mono HBZ.out.size)).cell (lt_of_cell f2)).trans f2
          have k4 := ((HBZ.out.trans (hw'.mono HBZ.out.size)).cell (lt_of_cell f3)).trans f3
          have k5 := ((HBZ.out.trans (hw'.mono HBZ.out.size)).cell (lt_of_cell f4)).trans f4
          have HRUN := Lib.hid (shrun_any (F := WFt W g b m ve vs) (w := wc.alloc (.cells #[(sh1Fv B1 B B2).val, (sh2Fv B1).val, (sh3Fv B1 B2).val] 78)) ⟨m, ve, vs, xs, HXC.out.below hw', rfl⟩ hm wc.heap.size B1 B B2 ⟨b', off, none⟩ n cap S.size S.num _ zs ((Blk.new wc _ _).cell 0 _ rfl) ((Blk.new wc _ _).cell 1 _ rfl) ((Blk.new wc _ _).cell 2 _ rfl) k1 k2 k3 k4 k5 HNO.out (HSLc.out.1.below hw') HSLc.out.2.1 hn16 (by omega) (HOUT.out _ (Nat.le_trans hlw (HFR.out _ rfl))) (HOUT.out _ (Nat.le_trans hlw HBZ.out.size)) (HOUT.out _ (Nat.le_refl _)) (HOUT.out _ (Nat.le_trans hlw HBLO.out)) (HOUT.out _ HB12.out))
          unfold Fv.val sh1Fv sh2Fv sh3Fv at HRUN
          clear hw' k1 k2 k3 k4 k5 e1
          go_wp2_with fail
          refine HRUN.out.mono ?_
          rintro e w8 ⟨rfl, hQ⟩
          have HQ := Lib.hid hQ
          clear hQ
          go_wp2_with fail
          go_ret
          rw [HR.out]
          exact StpI.then (Dk.Fr.below (HBIW.out.trans (HWB.out.mono HBIW.out.size))) (fun i hi => .inl hi) ⟨rfl, HQ.out⟩
      · have q1 : (r1 != 0) = true := by simpa using e0
        rw [if_pos (Or.inl e0)] at HR
        clear e0
        go_wp2_with fail
        go_ret
        rw [HR.out]
        exact StpI.same HX.out HBIW.out r1
end Go.Proofs.YtgmpdifggaggdaaGreatDoor.Wl
