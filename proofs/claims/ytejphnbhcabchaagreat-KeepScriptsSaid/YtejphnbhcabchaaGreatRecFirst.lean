/-
  What the function first of package record answers for whatever bytes: the content of the record with which they begin, in the bytes' own memory, or nothing. Conditions: the slice's cells can be read.
-/
import Derived.Test.YtejphnbhcabchaaGreatRecBase
import Derived.Deep.QuietTactic
import Derived.BigQuiet
namespace Go.Proofs.YtejphnbhcabchaaGreat.Rc
open Go.RowKit
open Fld (Bytes val Rd Own past)
set_option linter.unusedVariables false

/-- a slice that holds the bytes zs, with its capacity -/
def Sl (w : World) (A : Option Addr) (n cap : Nat) (zs : List Int) : Prop := Rd w A n zs ∧ n ≤ cap ∧ cap ≤ maxLen ∧ (A = none → cap = 0)
theorem Sl.of {w : World} {A : Option Addr} {n cap : Nat} {zs : List Int} (h : Fld.Sl w A n cap zs) : Sl w A n cap zs := ⟨h.1, h.2.1, h.2.2.1, h.2.2.2.1⟩
theorem Sl.below {w w' : World} {A : Option Addr} {n cap : Nat} {zs : List Int} (h : Sl w A n cap zs) (hb : Below w.heap.size w w') : Sl w' A n cap zs := ⟨h.1.below hb, h.2⟩
theorem Sl.tail {w : World} {b off n cap : Nat} {xs : List Int} (h : Sl w (some ⟨b, off, none⟩) n cap xs) (k : Nat) (hk : k ≤ n) : Sl w (some (past ⟨b, off, none⟩ cap k)) (n - k) (cap - k) (xs.drop k) :=
  Sl.of (Fld.Sl.tail ⟨h.1, h.2.1, h.2.2.1, h.2.2.2, fun a ha => by injection ha with ha; rw [← ha]⟩ k hk)
/-- 's[:u]' -/
theorem run_to (a : Addr) (n cap u : Nat) (hu : u ≤ cap) (W : World) : (Instr.slice 36 (.slice (some a) n cap) none (some (.int .i64 (u : Int))) none).run Tryz.prog W = .ok (.slice (some a) u cap) W := by
  have h1 : (0 : Int) ≤ (u : Int) := by omega
  have h3 : (u : Int) ≤ (cap : Int) := by omega
  go_simp
theorem run_to32 (a : Addr) (n cap u : Nat) (hu : u ≤ cap) (hb : u < 4294967296) (W : World) : (Instr.slice 36 (.slice (some a) n cap) none (some (.int .u32 (u : Int))) none).run Tryz.prog W = .ok (.slice (some a) u cap) W := by
  have h1 : (0 : Int) ≤ (u : Int) := by omega
  have h3 : (u : Int) ≤ (cap : Int) := by omega
  go_simp
/-- 's[f:]' -/
theorem run_from (b off n cap f : Nat) (hf : f ≤ n) (hn : n ≤ cap) (hm : cap ≤ 9223372036854775807) (W : World) : (Instr.slice 36 (.slice (some ⟨b, off, none⟩) n cap) (some (.int .i64 (f : Int))) none none).run Tryz.prog W = .ok (.slice (some (past ⟨b, off, none⟩ cap f)) (n - f) (cap - f)) W := by
  unfold past
  by_cases h : cap = f
  · obtain rfl : n = f := by omega
    subst h
    rw [if_pos rfl]
    have h1 : (0 : Int) ≤ (cap : Int) := by omega
    go_simp
  · rw [if_neg h]
    have h1 : (0 : Int) ≤ (f : Int) := by omega
    have h2 : (f : Int) ≤ (n : Int) := by omega
    have h3 : (n : Int) ≤ (cap : Int) := by omega
    go_simp
/-- 's[f:u]' -/
theorem run_part (b off n cap f u : Nat) (hf : f ≤ u) (hu : u ≤ cap) (hc : f < cap) (W : World) : (Instr.slice 36 (.slice (some ⟨b, off, none⟩) n cap) (some (.int .i64 (f : Int))) (some (.int .i64 (u : Int))) none).run Tryz.prog W = .ok (.slice (some ⟨b, off + f, none⟩) (u - f) (cap - f)) W := by
  have h0 : ¬ cap = f := by omega
  have h1 : (0 : Int) ≤ (f : Int) := by omega
  have h2 : (f : Int) ≤ (u : Int) := by omega
  have h3 : (u : Int) ≤ (cap : Int) := by omega
  go_simp
theorem Rd.part {w : World} {b off n : Nat} {zs : List Int} (hr : Rd w (some ⟨b, off, none⟩) n zs) (f v : Nat) (h : f + v ≤ n) : Rd w (some ⟨b, off + f, none⟩) v ((zs.drop f).take v) := by
  obtain ⟨h1, h2, h3, h4⟩ := hr
  refine ⟨by rw [List.length_take, List.length_drop]; omega, by omega, Fld.bytes_take (Fld.bytes_drop h3 f) v, fun hv => ?_⟩
  obtain ⟨b', off', he, hc⟩ := h4 (by omega)
  injection he with he
  injection he with e1 e2
  subst e1 e2
  refine ⟨b, off + f, rfl, fun i hi => ?_⟩
  rw [Nat.add_assoc, hc (f + i) (by omega), List.getD_eq_getElem?_getD, List.getD_eq_getElem?_getD, List.getElem?_take, if_pos hi, List.getElem?_drop]
theorem sl_addr {w : World} {A : Option Addr} {n cap : Nat} {zs : List Int} (h : Sl w A n cap zs) (hp : 0 < n) : ∃ b off, A = some ⟨b, off, none⟩ := by
  obtain ⟨b, off, e, _⟩ := h.1.2.2.2 hp
  exact ⟨b, off, e⟩

def Nothing (w : World) (e : Ending) (w' : World) : Prop := e = .returned (.tuple #[.slice none 0 0, .bool false]) ∧ ∃ k, w' = w.drewN k
def Found (w : World) (b off n cap : Nat) (t : List Int) (e : Ending) (w' : World) : Prop := e = .returned (.tuple #[.slice (some (past ⟨b, off, none⟩ cap 8)) t.length (cap - 8), .bool true]) ∧ ∃ k, w' = w.drewN k
theorem drew0 (w : World) : w.drewN 0 = w := rfl

set_option maxHeartbeats 800000 in
theorem first_short (A : Option Addr) (n cap : Nat) (w : World) (hn : n < 8) : Calls Tryz.prog 154 #[.slice A n cap] w (Nothing w) := by
  have hni : (n : Int) < 8 := by omega
  go_enter Tryz.func154, Tryz.ntmps154
  go_wp2
  go_ret2
  exact ⟨rfl, 0, rfl⟩
set_option maxRecDepth 100000 in
set_option maxHeartbeats 1600000 in
theorem first_long (b off n cap : Nat) (zs : List Int) (w : World) (hs : Sl w (some ⟨b, off, none⟩) n cap zs) (h8 : 8 ≤ n) :
    Calls Tryz.prog 154 #[.slice (some ⟨b, off, none⟩) n cap] w fun e w' => (isRec zs → Found w b off n cap (body zs) e w') ∧ (¬ isRec zs → Nothing w e w') := by
  have hnc := hs.2.1
  have hcm := hs.2.2.1
  unfold maxLen at hcm
  have hni : ¬ (n : Int) < 8 := by omega
  have r1 := run_to ⟨b, off, none⟩ n cap 4 (by omega)
  have r2 := run_part b off n cap 4 8 (by omega) (by omega) (by omega)
  have r3 := run_from b off n cap 8 h8 hnc hcm
  push_cast at r1 r2 r3
  have HS := Lib.hid hs
  have HR1 := Lib.hid (show Rd w (some ⟨b, off, none⟩) 4 (zs.take 4) from hs.1.cut 4 (by omega))
  have HR2 := Lib.hid (Rd.part hs.1 4 4 (by omega))
  have HR3 := Lib.hid (hs.tail 8 h8)
  have HZ := Lib.hid hs.1.1
  have hv := val_lt4 (zs.take 4) (by rw [List.length_take, hs.1.1]; omega) (Fld.bytes_take hs.1.2.2.1 4)
  clear hs
  go_enter Tryz.func154, Tryz.ntmps154
  go_wp2_with fail
  go_quiet (fail)
  clear r1 r2 r3
  have HD1 := Lib.hid (decode_any (some ⟨b, off, none⟩) cap (zs.take 4) (w.drewN nq) (HR1.out.drewN nq))
  have HD2 := Lib.hid (decode_any (some ⟨b, off + 4, none⟩) (cap - 4) ((zs.drop 4).take 4) (w.drewN nq) (HR2.out.drewN nq))
  have HB := Lib.hid (show body zs = (zs.drop 8).take (val (zs.take 4)) from rfl)
  generalize hV : val (zs.take 4) = V at *
  have HV := Lib.hid hV
  clear hV
  go_wp2_with fail
  refine HD1.out.mono ?_
  rintro e w1 ⟨rfl, hw1⟩
  obtain rfl := hw1
  by_cases c1 : 65536 < V
  · have c1i : (65536 : Int) < (V : Int) := by omega
    go_wp2
    go_ret2
    exact ⟨fun h => absurd h.2.1 (by rw [HV.out]; omega), fun _ => ⟨rfl, nq, rfl⟩⟩
  · have c1i : ¬ (65536 : Int) < (V : Int) := by omega
    by_cases c2 : n - 8 < V
    · have c2i : (((n - 8 : Nat) : Int) < (V : Int)) := by omega
      go_wp2
      go_ret2
      exact ⟨fun h => absurd h.2.2.1 (by rw [HV.out, HZ.out]; omega), fun _ => ⟨rfl, nq, rfl⟩⟩
    · have c2i : ¬ (((n - 8 : Nat) : Int) < (V : Int)) := by omega
      have r4 := run_to32 (past ⟨b, off, none⟩ cap 8) (n - 8) (cap - 8) V (by omega) (by omega) (w.drewN nq)
      have HR4 := Lib.hid (HR3.out.1.cut V (by omega))
      have HCS := Lib.hid (checksum_any (some ⟨b, off, none⟩) (some (past ⟨b, off, none⟩ cap 8)) 4 V cap (cap - 8) (zs.take 4) ((zs.drop 8).take V) (w.drewN nq) (HR1.out.drewN nq) (HR4.out.drewN nq))
      rw [← HB.out] at HCS HR4
      have HL := Lib.hid (show (body zs).length = V from HR4.out.1)
      have HI2 := Lib.hid (show isRec zs ↔ val ((zs.drop 4).take 4) = (Crc.sumS (zs.take 4 ++ body zs)).toNat by
        rw [Crc.sumS_append]
        exact ⟨fun h => h.2.2.2, fun h => ⟨by rw [HZ.out]; omega, by rw [HV.out]; omega, by rw [HV.out, HZ.out]; omega, h⟩⟩)
      clear HD1
      go_wp2_with fail
      refine HD2.out.mono ?_
      rintro e w1 ⟨rfl, hw1⟩
      obtain rfl := hw1
      go_wp2_with fail
      refine HCS.out.mono ?_
      rintro e w1 ⟨rfl, hw1⟩
      obtain rfl := hw1
      clear r4
      generalize val ((zs.drop 4).take 4) = X at *
      generalize (Crc.sumS (zs.take 4 ++ body zs)).toNat = Y at *
      by_cases c3 : X = Y
      · have c3i : ((X : Int) != (Y : Int)) = false := by rw [c3]; simp
        have HE := Lib.hid c3
        clear c3
        go_wp2
        go_ret2
        exact ⟨fun _ => ⟨by rw [HL.out]; rfl, nq, rfl⟩, fun h => absurd (HI2.out.2 HE.out) h⟩
      · have c3i : ((X : Int) != (Y : Int)) = true := by simp; omega
        go_wp2
        go_ret2
        exact ⟨fun h => absurd (HI2.out.1 h) c3, fun _ => ⟨rfl, nq, rfl⟩⟩
/-- what first tells -/
theorem first_yes (b off n cap : Nat) (zs : List Int) (w : World) (hs : Sl w (some ⟨b, off, none⟩) n cap zs) (hi : isRec zs) :
    Calls Tryz.prog 154 #[.slice (some ⟨b, off, none⟩) n cap] w (Found w b off n cap (body zs)) :=
  (first_long b off n cap zs w hs (by rw [← hs.1.1]; exact hi.1)).mono fun _ _ h => h.1 hi
theorem first_no (A : Option Addr) (n cap : Nat) (zs : List Int) (w : World) (hs : Sl w A n cap zs) (hi : ¬ isRec zs) :
    Calls Tryz.prog 154 #[.slice A n cap] w (Nothing w) := by
  by_cases h : n < 8
  · exact first_short A n cap w h
  · obtain ⟨b, off, rfl⟩ := sl_addr hs (by omega)
    exact (first_long b off n cap zs w hs (by omega)).mono fun _ _ h => h.2 hi
end Go.Proofs.YtejphnbhcabchaaGreat.Rc
