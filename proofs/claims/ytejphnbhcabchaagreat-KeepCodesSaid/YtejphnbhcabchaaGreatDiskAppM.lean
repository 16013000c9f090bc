/-
  Append of the program's disk: the method. Conditions: the disk lies in memory as it was made (Im), the bytes can be read.
-/
import Derived.Test.YtejphnbhcabchaaGreatDiskAppW
namespace Go.Proofs.YtejphnbhcabchaaGreat.Dk
open Go.RowKit Go.Proofs.YtejphnbhcabchaaGreat.Fld

/-- bytes don't lie in a disk's block -/
theorem not_dsk {w : World} {g : Nat} {room : Int} {b : Nat} {size : Int} {off fs : Bool} {fl : Int} {ag : Bool} {al : Int} (h : Dsk w g room b size off fs fl ag al) {a : Addr} {c : Int} (ha : w.cell? a = some (.int .u8 c)) : a.block ≠ g := by
  rintro rfl
  unfold World.cell? at ha
  rw [h] at ha
  obtain ⟨b, off, sp⟩ := a
  rcases off with _ | _ | _ | _ | _ | _ | _ | _ | off
  all_goals cases sp <;> simp at ha
theorem rd_fr {w w' : World} {g : Nat} {room : Int} {b : Nat} {size : Int} {off fs : Bool} {fl : Int} {ag : Bool} {al : Int} {A : Option Addr} {n : Nat} {zs : List Int} (h : Rd w A n zs) (hd : Dsk w g room b size off fs fl ag al) (hf : Fr [g] w w') : Rd w' A n zs :=
  h.of_same fun _ _ hc => World.cell?_of_block (w := w) (hf.block _ (lt_of_cell hc) (by simpa using not_dsk hd hc))
theorem app1_did (g b bd bb bn : Nat) (m : List Ent) (t : St) (s : ByteArray) (A : Option Addr) (n cap : Nat) (ys : List Int) (w : World) (h : Im w g b m t) (hm : t.fs.length ≤ 1000000) (hx : okN s.data.toList = true)
    (od : bd ∉ g :: b :: blks m) (ob : bb ∉ g :: b :: blks m) (on : bn ∉ g :: b :: blks m)
    (hd : w.cell? ⟨bd, 0, none⟩ = some (.pointer (some ⟨g, 0, none⟩))) (hbb : w.cell? ⟨bb, 0, none⟩ = some (.slice A n cap)) (hbn : w.cell? ⟨bn, 0, none⟩ = some (.string s))
    (hr : Rd w A n ys) (hA : A = none → cap = 0) (hn : n ≤ 140737488355328) :
    Calls Tryz.prog 46 #[.pointer (some ⟨bd, 0, none⟩), .pointer (some ⟨bb, 0, none⟩), .pointer (some ⟨bn, 0, none⟩)] w (Did w g b m (app1 s.data.toList ys t)) := by
  have hl := hr.1
  have e : app1 s.data.toList ys t = if t.room < total t.fs + ys.length then (3, t) else (0, { t with fs := appFs s.data.toList ys t.fs }) := rfl
  rw [e]
  split
  · exact app1_full g b bd bb bn m t A n cap w h hd hbb hn (by omega)
  · exact app1_ok g b bd bb bn m t s A n cap ys w h hm hx od ob on hd hbb hbn hr hA hn (by omega)
theorem app_enters (caps : Array Value) (w : World) : (callFunc 46 caps).run Tryz.prog w = .ok (.enter 46 caps) w := enters_of Tryz.func46 (by kernel_rfl) rfl caps w
set_option maxRecDepth 100000 in
set_option maxHeartbeats 3200000 in
theorem app_did (g b : Nat) (m : List Ent) (t : St) (s : ByteArray) (A : Option Addr) (n cap : Nat) (ys : List Int) (w : World) (h : Im w g b m t) (hm : t.fs.length ≤ 1000000) (hr : Rd w A n ys) (hA : A = none → cap = 0) (hn : n ≤ 140737488355328) :
    Calls Tryz.prog 21 #[.pointer (some ⟨g, 0, none⟩), .string s, .slice A n cap] w (Did w g b m (stAppend s.data.toList ys t)) := by
  have HM := Lib.hid (mod3 _ g b app_enters m t s (.slice A n cap) w h (app1 s.data.toList ys) fun bd bb bn W w1 hI hB hF hx od ob on hd hbb hbn => app1_did g b bd bb bn m _ s A n cap ys w1 hI (by rw [(chg_same t).2]; exact hm) hx od ob on hd hbb hbn (rd_fr (hr.below hB) (Dsk.of_block h.dsk (hB.block g h.dsk.lt)) hF) hA hn)
  clear h hr hA
  unfold stAppend
  generalize doing (okN s.data.toList) t (app1 s.data.toList ys) = r at *
  go_enter Tryz.func21, Tryz.ntmps21
  go_wp2_with (go_at_call 45; refine HM.out.mono ?_; rintro e w' ⟨rfl, hL⟩; have HL := Lib.hid hL; clear hL)
  go_ret
  exact ⟨rfl, HL.out⟩
end Go.Proofs.YtejphnbhcabchaaGreat.Dk
