/-
  Several texts in one: Append of the program's disk: the walks. Conditions: the disk lies in memory as it was made (Im), the bytes can be read. Append of the program's disk: the method. Conditions: the disk lies in memory as it was made (Im), the bytes can be read.
-/
import Derived.Test.YtgmpdifggaggdaaGreatDoorJDiskApp
import Derived.BigQuiet
import Derived.Deep.RegionWith
namespace Go.Proofs.YtgmpdifggaggdaaGreatDoor.Dk
open Go.RowKit Go.Proofs.YtgmpdifggaggdaaGreatDoor.Fld

set_option maxRecDepth 100000 in
set_option maxHeartbeats 3200000 in
theorem app1_full (g b bd bb bn : Nat) (m : List Ent) (t : St) (A : Option Addr) (n cap : Nat) (w : World) (h : Im w g b m t) (hd : w.cell? ⟨bd, 0, none⟩ = some (.pointer (some ⟨g, 0, none⟩))) (hbb : w.cell? ⟨bb, 0, none⟩ = some (.slice A n cap)) (hn : n ≤ 140737488355328) (hfit : t.room < total t.fs + n) :
    Calls Tryz.prog 68 #[.pointer (some ⟨bd, 0, none⟩), .pointer (some ⟨bb, 0, none⟩), .pointer (some ⟨bn, 0, none⟩)] w (Did w g b m (3, t)) := by
  have HI := Lib.hid h
  obtain ⟨c0, c1, c2, c3, c4, c5, c6, c7⟩ := Dsk.cells h.dsk
  have h1 := h.good.fits
  have h2 := h.good.room2
  generalize total t.fs = T at *
  generalize t.room = R at *
  have hR : (R : Int) < (T : Int) + (n : Int) := by omega
  have hw : IntKind.i64.wrap ((T : Int) + (n : Int)) = (T : Int) + (n : Int) := IntWalk.i64_in _ (by omega)
  have hdc : decide ((R : Int) < (T : Int) + (n : Int)) = true := decide_eq_true hR
  clear h
  go_enter Tryz.func68, Tryz.ntmps68
  go_wp2_with fail
  go_region
  go_wp2
  go_ret
  exact ⟨rfl, m, HI.out.below (Below.refl _ _).drew, (Fr.refl _ _).drew, fun _ hi => .inl hi⟩

set_option maxRecDepth 100000 in
set_option maxHeartbeats 3200000 in
theorem app1_ok (g b bd bb bn : Nat) (m : List Ent) (t : St) (s : ByteArray) (A : Option Addr) (n cap : Nat) (ys : List Int) (w : World) (h : Im w g b m t) (hm : t.fs.length ≤ 1000000) (hx : okN s.data.toList = true)
    (od : bd ∉ g :: b :: blks m) (ob : bb ∉ g :: b :: blks m) (on : bn ∉ g :: b :: blks m)
    (hd : w.cell? ⟨bd, 0, none⟩ = some (.pointer (some ⟨g, 0, none⟩))) (hbb : w.cell? ⟨bb, 0, none⟩ = some (.slice A n cap)) (hbn : w.cell? ⟨bn, 0, none⟩ = some (.string s))
    (hr : Rd w A n ys) (hA : A = none → cap = 0) (hn : n ≤ 140737488355328) (hfit : total t.fs + n ≤ t.room) :
    Calls Tryz.prog 68 #[.pointer (some ⟨bd, 0, none⟩), .pointer (some ⟨bb, 0, none⟩), .pointer (some ⟨bn, 0, none⟩)] w (Did w g b m (0, { t with fs := appFs s.data.toList ys t.fs })) := by
  have hs := size_of_ok hx
  have HI := Lib.hid h
  obtain ⟨c0, c1, c2, c3, c4, c5, c6, c7⟩ := Dsk.cells h.dsk
  have f2 := Dsk.free h.dsk 2
  have h1 := h.good.fits
  have h2 := h.good.room2
  have hlt := h.lt
  have hgl := h.dsk.lt
  obtain ⟨n1, n2, n3⟩ := h.ne
  have hhl := here_len h s
  have hfl := here_file h s
  obtain ⟨VA, vc, hv, _⟩ := hfl.form
  have hys : ys.length = n := hr.1
  -- the look-up
  have hval : foundV m s = .agg #[.slice VA (here m s).zs.length vc, .int .i64 ((here m s).s : Int)] := by rw [here_val, Ent.val, hv]
  have hlk := look1 (h.own.drew).drew s hs
  have hlo := fun o => look1 ((h.own.alloc o).drew.drew) s hs
  rw [hval] at hlk
  simp only [hval] at hlo
  have pd := fun o => cell_past hd o
  have pn := fun o => cell_past hbn o
  have p1 := fun o => cell_past c1 o
  have pb := fun o => cell_past hbb o
  -- append
  obtain ⟨W1, hW1⟩ : ∃ W1, W1 = (w.alloc (.cells #[.slice VA (here m s).zs.length vc, .int .i64 ((here m s).s : Int)] 77)).drew.drew := ⟨_, rfl⟩
  have hbW : Below w.heap.size w W1 := by rw [hW1]; exact ((Below.refl _ _).alloc (Nat.le_refl _) _).drew.drew
  have hO1 : Own (bare W1) W1 (.slice VA (here m s).zs.length vc) (here m s).zs := by
    have := (hfl.of_block (w' := W1) (fun i hi => hbW.block i (hfl.lt hi))).own
    rw [hv] at this
    exact this
  have hr1 := hr.below hbW
  have hN : W1.heap[w.heap.size]? = some (.cells #[.slice VA (here m s).zs.length vc, .int .i64 ((here m s).s : Int)] 77 (0, 0)) := by rw [hW1]; exact heap_alloc_new w _
  have hhb : ∀ i, (Value.slice VA (here m s).zs.length vc).ownBlock = some i → i ∈ blks m := fun i hi => (here_block h.nodup h.up (s := s) (by rw [hv]; exact hi)).1
  obtain ⟨t', ht'⟩ : ∃ t' : St, t' = { t with fs := appFs s.data.toList ys t.fs } := ⟨_, rfl⟩
  rw [← ht']
  have HST := Lib.hid ht'
  clear ht'
  have HX := Lib.hid hx
  have HBY := Lib.hid hr.2.2.1
  have HYS := Lib.hid hys
  have HFIT := Lib.hid (show total t.fs + ys.length ≤ t.room by omega)
  have HMID := Lib.hid (fun (w2 : World) (hg : W1.grownBy w2 (here m s).v.ownBlock) (v1 : Value) => app_mid h hm hs od ob on hd hbb hbn _ _ hW1 rfl hg ((here m s).zs ++ ys) v1)
  have HEND := Lib.hid (fun (w2 W4 : World) (v1 : Value) (hO : Own (bare W1) w2 v1 ((here m s).zs ++ ys)) (hg : W1.grownBy w2 (here m s).v.ownBlock) (hb : v1.ownBlock = (here m s).v.ownBlock ∨ v1.ownBlock = some W1.heap.size) hturn ho => app_end (W4 := W4) h ys hx hr.2.2.1 (by omega) _ hW1 v1 hO hg hb hturn ho)
  rw [← HST.out] at HEND
  rw [hys] at HEND
  rw [hv] at HMID HEND
  have HO1 := Lib.hid hO1
  have HR1 := Lib.hid hr1
  have HA := Lib.hid hA
  have HKN := Lib.hid (show ((here m s).zs ++ ys).length = (here m s).zs.length + n by rw [List.length_append, hys])
  subst hW1
  clear h hO1 hr1 hA hv hN hhb hbW hlt hys hr hfl hval HST HI
  generalize hT : total t.fs = T at *
  clear hT
  generalize t.room = R at *
  generalize hst : put Ent.nm = pp at *
  clear hst
  generalize hzz : (here m s).zs = zz at *
  clear hzz
  generalize (here m s).s = sk at *
  have HZL := Lib.hid (show zz.length + n ≤ 140737488355328 by omega)
  generalize hk : zz.length = k at *
  have hw : IntKind.i64.wrap ((T : Int) + (n : Int)) = (T : Int) + (n : Int) := IntWalk.i64_in _ (by omega)
  have hdc : decide ((R : Int) < (T : Int) + (n : Int)) = false := decide_eq_false (by omega)
  have HK := Lib.hid hk
  clear hk
  go_enter Tryz.func68, Tryz.ntmps68
  go_wp2_with fail
  go_region
  go_wp2_with fail
  go_region
  go_wp2_with (at_builtin; refine wpList_append_rd rfl _ _ rfl (bare _) (.slice VA k vc) zz rfl HO1.out A n cap ys rfl HA.out HR1.out (by rw [HK.out]; exact HZL.out) ?_; intro v1 w2 hO hg hat; obtain ⟨A1, c1, hv1, _, _⟩ := hO.form (k + n) HKN.out; subst hv1; obtain ⟨W4, m1, m2, m3, m4, m5, m6, m7, m8, m9, m10, m11, m12, m13, m14⟩ := HMID.out w2 hg (.slice A1 (k + n) c1); have HE := Lib.hid (HEND.out w2 W4 _ hO hg hat m3 m2); clear hO hg hat m2 m3 HMID HEND HO1 HR1)
  go_region
  go_wp2_with fail
  go_region
  go_wp2
  go_ret
  exact ⟨rfl, HE.out⟩
end Go.Proofs.YtgmpdifggaggdaaGreatDoor.Dk

namespace Go.Proofs.YtgmpdifggaggdaaGreatDoor.Dk
open Go.RowKit Go.Proofs.YtgmpdifggaggdaaGreatDoor.Fld

/-- bytes don't lie in a disk's block -/
theorem not_dsk {w : World} {g : Nat} {room : Int} {b : Nat} {size : Int} {off fs : Bool} {fl : Int} {ag : Bool} {al : Int} (h : Dsk w g room b size off fs fl ag al) {a : Addr} {c : Int} (ha : w.cell? a = some (.int .u8 c)) : a.block ≠ g := by
  rintro rfl
  unfold World.cell? at ha
  rw [h] at ha
  obtain ⟨b, off, sp⟩ := a
  rcases off with _ | _ | _ | _ | _ | _ | _ | _ | off
  all_goals cases sp <;> simp at ha
theorem rd_fr {w w' : World} {g : Nat} {room : Int} {b : Nat} {size : Int} {off fs : Bool} {fl : Int} {ag : Bool} {al : Int} {A : Option Addr} {n : Nat} {zs : List Int} (h : Rd w A n zs) (hd : Dsk w g room b size off fs fl ag al) (hf : Fr [g] w w') : Rd w' A n zs :=
  h.of_same fun _ _ hc => World.cell?_of_block (w := w) (hf.block _ (lt_of_cell hc) (by simpa using not_dsk hd hc))
theorem app1_did (g b bd bb bn : Nat) (m : List Ent) (t : St) (s : ByteArray) (A : Option Addr) (n cap : Nat) (ys : List Int) (w : World) (h : Im w g b m t) (hm : t.fs.length ≤ 1000000) (hx : okN s.data.toList = true)
    (od : bd ∉ g :: b :: blks m) (ob : bb ∉ g :: b :: blks m) (on : bn ∉ g :: b :: blks m)
    (hd : w.cell? ⟨bd, 0, none⟩ = some (.pointer (some ⟨g, 0, none⟩))) (hbb : w.cell? ⟨bb, 0, none⟩ = some (.slice A n cap)) (hbn : w.cell? ⟨bn, 0, none⟩ = some (.string s))
    (hr : Rd w A n ys) (hA : A = none → cap = 0) (hn : n ≤ 140737488355328) :
    Calls Tryz.prog 68 #[.pointer (some ⟨bd, 0, none⟩), .pointer (some ⟨bb, 0, none⟩), .pointer (some ⟨bn, 0, none⟩)] w (Did w g b m (app1 s.data.toList ys t)) := by
  have hl := hr.1
  have e : app1 s.data.toList ys t = if t.room < total t.fs + ys.length then (3, t) else (0, { t with fs := appFs s.data.toList ys t.fs }) := rfl
  rw [e]
  split
  · exact app1_full g b bd bb bn m t A n cap w h hd hbb hn (by omega)
  · exact app1_ok g b bd bb bn m t s A n cap ys w h hm hx od ob on hd hbb hbn hr hA hn (by omega)
theorem app_enters (caps : Array Value) (w : World) : (callFunc 68 caps).run Tryz.prog w = .ok (.enter 68 caps) w := enters_of Tryz.func68 (by kernel_rfl) rfl caps w
set_option maxRecDepth 100000 in
set_option maxHeartbeats 3200000 in
theorem app_did (g b : Nat) (m : List Ent) (t : St) (s : ByteArray) (A : Option Addr) (n cap : Nat) (ys : List Int) (w : World) (h : Im w g b m t) (hm : t.fs.length ≤ 1000000) (hr : Rd w A n ys) (hA : A = none → cap = 0) (hn : n ≤ 140737488355328) :
    Calls Tryz.prog 41 #[.pointer (some ⟨g, 0, none⟩), .string s, .slice A n cap] w (Did w g b m (stAppend s.data.toList ys t)) := by
  have HM := Lib.hid (mod3 _ g b app_enters m t s (.slice A n cap) w h (app1 s.data.toList ys) fun bd bb bn W w1 hI hB hF hx od ob on hd hbb hbn => app1_did g b bd bb bn m _ s A n cap ys w1 hI (by rw [(chg_same t).2]; exact hm) hx od ob on hd hbb hbn (rd_fr (hr.below hB) (Dsk.of_block h.dsk (hB.block g h.dsk.lt)) hF) hA hn)
  clear h hr hA
  unfold stAppend
  generalize doing (okN s.data.toList) t (app1 s.data.toList ys) = r at *
  go_enter Tryz.func41, Tryz.ntmps41
  go_wp2_with (go_at_call 55; refine HM.out.mono ?_; rintro e w' ⟨rfl, hL⟩; have HL := Lib.hid hL; clear hL)
  go_ret
  exact ⟨rfl, HL.out⟩
end Go.Proofs.YtgmpdifggaggdaaGreatDoor.Dk
