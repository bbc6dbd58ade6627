/- The document's examples, plainly. -/
import Derived.Test.YtcbhhdjjanekaaaGreatDoorWxWaQ
-- DkT
namespace Go.Proofs.YtcbhhdjjanekaaaGreatDoor
open Go.RowKit Go.Lib Go.Maps

def n1 : By := [108, 111, 103, 46, 49]
theorem sgN_one : sgN 1 = n1 := by
  have : Lib.itoa 1 = [49] := by
    unfold Lib.itoa
    rw [if_neg (by decide)]
    exact Lib.decDigits_one (by decide)
  unfold sgN
  rw [this]; rfl
/-- One segment, from 1 on, with so many records. -/
def Ls (k : Int) (sz : Nat) (sy : Int) : Lg := ⟨[(1, k + 1)], sz, false, sy⟩
theorem Ls_cn (k : Int) (sz : Nat) (sy : Int) : (Ls k sz sy).cn = n1 := sgN_one
theorem Ls_app {k : Int} {sz : Nat} {sy : Int} {q : Dq} {d : By} {r : By} (hd : d.length ≤ 65536) (hz : sz ≤ 16384) (hr : enT 1 d = r) (ha : apE q n1 r.length = 0) : wApp (Ls k sz sy, q) d = (k + 1, 0, Ls (k + 1) (sz + r.length) sy, q.append n1 r) := by
  have hf : wFull (Ls k sz sy, q) = false := by
    show (decide (16384 < sz) && _) = false
    rw [decide_eq_false (by omega)]; rfl
  have hw : wReady (Ls k sz sy, q) = (0, Ls k sz sy, q) := wReady_no (by show ¬ (false = true ∧ _); simp) (by show ¬ (false = true ∨ _); rw [hf]; simp)
  unfold wApp
  rw [if_neg (by omega), hw, if_pos rfl, hr]
  show (if apE q (Ls k sz sy).cn r.length = 0 then _ else _) = _
  rw [Ls_cn, if_pos ha]
  have hl : ((Ls k sz sy).count r.length).lst = k + 1 := by
    show ((Ls k sz sy).count r.length).cur.2 - 1 = _
    rw [cur_count]
    show k + 1 + 1 - 1 = _
    omega
  show (((Ls k sz sy).count r.length).lst, (0 : Int), (Ls k sz sy).count r.length, q.append n1 r) = _
  rw [hl]
  rfl
theorem Ls_sync {k : Int} {sz : Nat} {sy : Int} {q : Dq} (h1 : fiE q n1 = 0) (h2 : rfE (q.sync n1) = 0) : wSync (Ls k sz sy, q) = (0, Ls k sz k, (q.sync n1).syncDir) := by
  show (if fiE q (Ls k sz sy).cn = 0 then (if rfE (q.sync (Ls k sz sy).cn) = 0 then ((0 : Int), { Ls k sz sy with sy := (Ls k sz sy).lst }, (q.sync (Ls k sz sy).cn).syncDir) else _) else _) = _
  rw [Ls_cn, if_pos h1, if_pos h2]
  have : (Ls k sz sy).lst = k := by show k + 1 - 1 = k; omega
  rw [this]; rfl
def ra : By := enT 1 [97]
def rb : By := enT 1 [98]
def rc : By := enT 1 [99]
theorem r_len : ra.length = 10 ∧ rb.length = 10 ∧ rc.length = 10 := ⟨enT_len 1 _, enT_len 1 _, enT_len 1 _⟩
def y1 : Dq := (nwQ 4194304).create n1
def y3 : Dq := (y1.sync n1).syncDir
def y4 : Dq := y3.append n1 ra
def y5 : Dq := y4.append n1 rb
def y7 : Dq := (y5.sync n1).syncDir
def y8 : Dq := y7.append n1 rc

theorem y_c : crE (nwQ 4194304) n1 = 0 := by decide
theorem y_s1 : fiE y1 n1 = 0 := by decide
theorem y_d1 : rfE (y1.sync n1) = 0 := by decide
theorem y_a3 : apE y3 n1 ra.length = 0 := by rw [r_len.1]; decide
theorem nm_new : nmL (nwQ 4194304) = [] := by
  unfold nmL
  split
  · rfl
  · simp [nwQ, kys, srtB]
theorem fs_nil : fsts [] = [] := by simp [fsts, srtN]
theorem y_open : wOpen (nwQ 4194304) = (0, [], Ls 0 0 0, y3) := by
  rw [wOpen_eq, nm_new, fs_nil]
  have e1 : Lg.readF (nwQ 4194304) [] L00 [] = (0, [], L00) := rfl
  rw [e1]
  have e2 : wTidy (L00, nwQ 4194304) = (0, Ls 0 0 0, y1) := by
    rw [wTidy_eq]
    show (if sprN ∈ nmL (nwQ 4194304) then _ else if L00.sg = [] then wBegin (L00, nwQ 4194304) 1 else _) = _
    rw [nm_new, if_neg (by simp), if_pos (show L00.sg = [] from rfl)]
    unfold wBegin
    show (if crE (nwQ 4194304) (sgN 1) = 0 then ((0 : Int), L00.add 1, (nwQ 4194304).create (sgN 1)) else _) = _
    rw [sgN_one, if_pos y_c]
    rfl
  show (if (0 : Int) = 0 then (if (wTidy (L00, nwQ 4194304)).1 = 0 then ((wSync (wTidy (L00, nwQ 4194304)).2).1, ([] : List Rec), (wSync (wTidy (L00, nwQ 4194304)).2).2) else _) else _) = _
  rw [e2, if_pos rfl, if_pos rfl]
  show ((wSync (Ls 0 0 0, y1)).1, ([] : List Rec), (wSync (Ls 0 0 0, y1)).2) = _
  rw [Ls_sync y_s1 y_d1]
  rfl
theorem take_ab : (L00.add 1).take (ra ++ rb) = ([(1, [97]), (2, [98])], Ls 2 20 0) := by kernel_rfl
theorem fs_one : fsts [n1] = [1] := by
  have : fst1 n1 = some 1 := by kernel_rfl
  simp [fsts, srtN, this]
end Go.Proofs.YtcbhhdjjanekaaaGreatDoor
