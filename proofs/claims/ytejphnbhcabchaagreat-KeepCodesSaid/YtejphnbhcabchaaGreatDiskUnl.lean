/-
  Unlink of the program's disk, and how a file is let go of. Conditions: the disk lies in memory as it was made (Im).
-/
import Derived.Test.YtejphnbhcabchaaGreatDiskIm
import Derived.Great.BuildSlice
import Derived.Shelf.Abstract
namespace Go.Proofs.YtejphnbhcabchaaGreat.Dk
open Go.RowKit Go.Proofs.YtejphnbhcabchaaGreat.Fld

theorem field0 (A : Option Addr) (n cap : Nat) (k : Int) (w : World) : (Instr.field 82 (.agg #[.slice A n cap, .int .i64 k]) 0).run Tryz.prog w = .ok (.slice A n cap) w := by kernel_rfl
theorem FileAt.form {w : World} {e : Ent} (h : FileAt w e) : ∃ A cap, e.v = .slice A e.zs.length cap ∧ Sl w A e.zs.length cap e.zs := by
  obtain ⟨hby, hl, h⟩ := h
  rcases h with ⟨hv, h0⟩ | ⟨q, cap, cur, hv, _, hh, hnc, hcm, hcs, hcu⟩
  · refine ⟨none, 0, by rw [hv, h0], ?_⟩
    have : e.zs = [] := List.eq_nil_of_length_eq_zero h0
    rw [this]
    exact Sl.nil w
  · refine ⟨_, cap, hv, ⟨rfl, by omega, hby, fun hp => ⟨q, 0, rfl, fun i hi => ?_⟩⟩, hnc, hcm, (fun h => by cases h), (fun a ha => by injection ha with ha; subst ha; rfl)⟩
    rw [Nat.zero_add, cell_of_row w q i cur _ (0, 0) hh, ← by8_at e.zs i hi, ← hcu]
    rw [List.getElem?_take, if_pos (by omega), Array.getElem?_toList]
/-- what is looked up is a file, or the zero one -/
theorem Im.foundV {w : World} {g b : Nat} {m : List Ent} {t : St} (h : Im w g b m t) (s : ByteArray) :
    ∃ A n cap k, foundV m s = .agg #[.slice A n cap, .int .i64 k] ∧ total t.fs = n + total (fdel s.data.toList t.fs) := by
  unfold Dk.foundV
  cases hf : found m s with
  | none =>
    refine ⟨none, 0, 0, 0, rfl, ?_⟩
    rw [total_del_none (by rw [h.get, hf]; rfl)]
    omega
  | some e =>
    obtain ⟨he1, he2⟩ := get_some hf
    obtain ⟨A, cap, hv, _⟩ := (h.file e he1).form
    refine ⟨A, e.zs.length, cap, e.s, by rw [Option.map_some, Option.getD_some, Ent.val, hv], ?_⟩
    exact total_del (f := e.fil) h.good.up (by rw [h.get, hf]; rfl)
set_option maxRecDepth 100000 in
set_option maxHeartbeats 3200000 in
theorem remove_any (g b : Nat) (m : List Ent) (t : St) (s : ByteArray) (w : World) (h : Im w g b m t) (hs : s.size ≤ maxLen) :
    Calls Tryz.prog 130 #[.pointer (some ⟨g, 0, none⟩), .string s] w fun e w' => e = .returned (.tuple #[]) ∧ Im w' g b (del Ent.nm s.data.toList m) { t with fs := fdel s.data.toList t.fs } ∧ Fr [g, b] w w' := by
  have HI := Lib.hid h
  obtain ⟨A, n, cap, k, hfv, htot⟩ := h.foundV s
  have hfit := h.good.fits
  have hrm := h.good.room2
  obtain ⟨c0, c1, c2, c3, c4, c5, c6, c7⟩ := Dsk.cells h.dsk
  have f2 := Dsk.free h.dsk 2
  have hlk := look1 h.own.drew s hs
  rw [hfv] at hlk
  have HTT := Lib.hid htot
  obtain ⟨n1, n2, n3⟩ := h.ne
  have hset : Dsk ((w.setCell ⟨g, 2, none⟩ (.int .i64 ((total (fdel s.data.toList t.fs) : Nat) : Int))).drew) g _ b _ _ _ _ _ _ := Dsk.set2 (w := w) h.dsk _
  have hown1 : ((w.setCell ⟨g, 2, none⟩ (.int .i64 ((total (fdel s.data.toList t.fs) : Nat) : Int))).drew).ownsMap Tryz.prog 9 R1 b m.length (dOf m) := (h.own.setCell (a := ⟨g, 2, none⟩) (Ne.symm n1) _).drew
  obtain ⟨w2, hdl, hown2, hturn⟩ := drop1 hown1 s hs 0
  have hfr : Fr [g, b] w w2 := ((Fr.refl [g, b] w).setCell ⟨g, 2, none⟩ (.inl (by simp)) (.int .i64 ((total (fdel s.data.toList t.fs) : Nat) : Int))).drew.turned hturn (.inl (by simp))
  have HF := Lib.hid hfr
  have HIM := Lib.hid (show Im w2 g b (del Ent.nm s.data.toList m) { t with fs := fdel s.data.toList t.fs } from by
    refine h.dropped s.data.toList ?_ hown2 rfl (h.good.del _) ?_ rfl rfl
    · exact Dsk.of_block hset (hturn.grown.block g (by have := h.dsk.lt; simpa [World.setCell] using this) (by simpa using n1))
    · exact fun a ha => (h.file a ha).of_block fun i hi => hfr.block i ((h.file a ha).lt hi) (by
        have : i ∈ blks m := mem_blks.2 ⟨a, ha, hi⟩
        intro hm
        simp only [List.mem_cons, List.not_mem_nil, or_false] at hm
        rcases hm with rfl | rfl
        · exact n2 this
        · exact n3 this))
  generalize total (fdel s.data.toList t.fs) = T2 at *
  generalize total t.fs = T at *
  have e1 : (T : Int) - (n : Int) = (T2 : Int) := by omega
  clear htot
  have e2 : IntKind.i64.wrap (T2 : Int) = (T2 : Int) := IntWalk.i64_in _ (by omega)
  clear h hown1 hown2 hturn hset hfv hfr
  have hfd := field0 A n cap k
  go_enter Tryz.func130, Tryz.ntmps130
  go_wp2_with fail
  go_region
  go_wp2
  go_end0
  exact ⟨rfl, HIM.out, HF.out⟩

set_option maxRecDepth 100000 in
set_option maxHeartbeats 3200000 in
theorem unl1_did (g b bd bn : Nat) (m : List Ent) (t : St) (s : ByteArray) (w : World) (h : Im w g b m t) (hs : s.size ≤ maxLen) (hd : w.cell? ⟨bd, 0, none⟩ = some (.pointer (some ⟨g, 0, none⟩))) (hn : w.cell? ⟨bn, 0, none⟩ = some (.string s)) :
    Calls Tryz.prog 129 #[.pointer (some ⟨bd, 0, none⟩), .pointer (some ⟨bn, 0, none⟩)] w (Did w g b m (unl1 s.data.toList t)) := by
  have hun : unl1 s.data.toList t = if (found m s).isSome then (0, { t with fs := fdel s.data.toList t.fs }) else (2, t) := by
    unfold unl1
    rw [h.get]
    cases found m s <;> rfl
  rw [hun]
  clear hun
  have HI := Lib.hid h
  obtain ⟨A, n, cap, k, hfv, _⟩ := h.foundV s
  obtain ⟨c0, c1, c2, c3, c4, c5, c6, c7⟩ := Dsk.cells h.dsk
  have hlk := look2 h.own.drew s hs
  have hlo := fun o => look2 (own_past h.own o) s hs
  rw [hfv] at hlk
  simp only [hfv] at hlo
  have pd := fun o => cell_past hd o
  have pn := fun o => cell_past hn o
  have p1 := fun o => cell_past c1 o
  clear h hfv
  have hbw : ∀ o, Below w.heap.size w (w.alloc o).drew := fun o => ((Below.refl _ _).alloc (Nat.le_refl _) o).drew
  have HB := Lib.hid hbw
  clear hbw
  cases hf : (found m s).isSome with
  | false =>
    rw [hf] at hlk
    simp only [hf] at hlo
    rw [if_neg (by simp)]
    go_enter Tryz.func129, Tryz.ntmps129
    go_wp2_with fail
    go_region
    go_wp2
    go_ret
    exact ⟨rfl, m, HI.out.below (HB.out _), Fr.below (HB.out _), fun _ hi => .inl hi⟩
  | true =>
    rw [hf] at hlk
    simp only [hf] at hlo
    rw [if_pos rfl]
    have HR := Lib.hid (fun o => remove_any g b m t s _ (HI.out.below (HB.out o)) hs)
    go_enter Tryz.func129, Tryz.ntmps129
    go_wp2_with fail
    go_region
    go_wp2_with (go_at_call 130; refine (HR.out _).mono ?_; rintro e w' ⟨rfl, hI, hF⟩; have HI2 := Lib.hid hI; have HF2 := Lib.hid hF; clear hI hF)
    go_ret
    refine ⟨rfl, _, HI2.out, ((Fr.below (S := g :: b :: blks m) (HB.out _)).same (HF2.out.mono (by simp))), fun i hi => .inl (blks_del hi)⟩
theorem unl_enters (caps : Array Value) (w : World) : (callFunc 129 caps).run Tryz.prog w = .ok (.enter 129 caps) w := enters_of Tryz.func129 (by kernel_rfl) rfl caps w
set_option maxRecDepth 100000 in
set_option maxHeartbeats 3200000 in
theorem unl_did (g b : Nat) (m : List Ent) (t : St) (s : ByteArray) (w : World) (h : Im w g b m t) :
    Calls Tryz.prog 107 #[.pointer (some ⟨g, 0, none⟩), .string s] w (Did w g b m (stUnlink s.data.toList t)) := by
  have HM := Lib.hid (mod1 _ g b unl_enters m t s w h (unl1 s.data.toList) fun bd bn w1 hI hs _ hd hn => unl1_did g b bd bn m _ s w1 hI hs hd hn)
  clear h
  unfold stUnlink
  generalize doing (okN s.data.toList) t (unl1 s.data.toList) = r at *
  go_enter Tryz.func107, Tryz.ntmps107
  go_wp2_with (go_at_call 45; refine HM.out.mono ?_; rintro e w' ⟨rfl, hL⟩; have HL := Lib.hid hL; clear hL)
  go_ret
  exact ⟨rfl, HL.out⟩
end Go.Proofs.YtejphnbhcabchaaGreat.Dk
