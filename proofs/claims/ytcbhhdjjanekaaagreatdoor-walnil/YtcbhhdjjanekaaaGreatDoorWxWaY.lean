/- The document's examples, plainly: the crash, and what is opened behind it. -/
import Derived.Test.YtcbhhdjjanekaaaGreatDoorWxWaX
import Derived.Test.YtcbhhdjjanekaaaGreatDoorWxDkT
namespace Go.Proofs.YtcbhhdjjanekaaaGreatDoor
open Go.RowKit Go.Lib Go.Maps

def y9 : Dq := y8.crash []
theorem srtB_one' (x : By) : srtB [x] = [x] := by simp [srtB]
theorem y_ko : kys (crO y8 []) = [n1] := by kernel_rfl
theorem y_cr : y9 = (crQ y8 [] 1).settle := by
  unfold y9 Dq.crash
  rw [y_ko, srtB_one']; rfl
theorem y_nm : nmL y9 = [n1] := by
  unfold nmL
  rw [y_cr]
  have e1 : ¬ (crQ y8 [] 1).settle.lf = 0 := by show ¬ (-1 : Int) = 0; decide
  have e2 : kys (crQ y8 [] 1).settle.nm = [n1] := y_ko
  rw [if_neg e1, e2, srtB_one']
theorem y_f : fiE y9 n1 = 0 := by
  rw [y_cr]; kernel_rfl
theorem y_rd : rdV y9 n1 = ra ++ rb := by
  unfold rdV
  rw [if_pos y_f, y_cr]
  show (crQ y8 [] 1).fb (num (crQ y8 [] 1).nm n1) = _
  unfold crQ crT
  rw [y_ko, srtB_one']
  kernel_rfl
theorem y_d : rfE (y9.sync n1) = 0 := by
  have e : (y9.sync n1).lf = -1 := by
    rw [y_cr]; kernel_rfl
  unfold rfE
  rw [e]; decide
theorem y_open2 : wOpen y9 = (0, [(1, [97]), (2, [98])], Ls 2 20 2, (y9.sync n1).syncDir) := by
  rw [wOpen_eq, y_nm, fs_one]
  have e1 : Lg.readF y9 [1] L00 [] = (0, [(1, [97]), (2, [98])], Ls 2 20 0) := by
    rw [readF_cons, sgN_one, if_pos y_f, y_rd, take_ab]
    rfl
  rw [e1]
  have e2 : wTidy (Ls 2 20 0, y9) = (0, Ls 2 20 0, y9) := by
    rw [wTidy_eq]
    show (if sprN ∈ nmL y9 then _ else if (Ls 2 20 0).sg = [] then _ else ((0 : Int), Ls 2 20 0, y9)) = _
    rw [y_nm, if_neg (by decide), if_neg (by show ¬ [((1 : Int), (2 : Int) + 1)] = []; simp)]
  show (if (0 : Int) = 0 then (if (wTidy (Ls 2 20 0, y9)).1 = 0 then ((wSync (wTidy (Ls 2 20 0, y9)).2).1, ([(1, [97]), (2, [98])] : List Rec), (wSync (wTidy (Ls 2 20 0, y9)).2).2) else _) else _) = _
  rw [e2, if_pos rfl, if_pos rfl]
  show ((wSync (Ls 2 20 0, y9)).1, ([(1, [97]), (2, [98])] : List Rec), (wSync (Ls 2 20 0, y9)).2) = _
  rw [Ls_sync y_f y_d]
theorem y_ok : (nwQ 4194304).Ok ∧ y3.Ok ∧ y4.Ok ∧ y5.Ok ∧ y7.Ok ∧ y8.Ok ∧ y9.Ok := by
  have h0 := nwQ_ok (r := 4194304) (by omega)
  have h3 := ((h0.create n1).sync n1).syncDir
  have h4 := h3.append n1 ra
  have h5 := h4.append n1 rb
  have h7 := (h5.sync n1).syncDir
  have h8 := h7.append n1 rc
  exact ⟨h0, h3, h4, h5, h7, h8, h8.crash []⟩
theorem y_st : (nwQ 4194304).st < 1000 ∧ y3.st < 1000 ∧ y4.st < 1000 ∧ y5.st < 1000 ∧ y7.st < 1000 ∧ y8.st < 1000 ∧ y9.st < 1000 := by
  have a0 : (nwQ 4194304).st = 0 := rfl
  have a1 := create_st (nwQ 4194304) n1
  have a2 := sync_st y1 n1
  have a3 := syncDir_st (y1.sync n1)
  have a4 := append_st y3 n1 ra
  have a5 := append_st y4 n1 rb
  have a6 := sync_st y5 n1
  have a7 := syncDir_st (y5.sync n1)
  have a8 := append_st y7 n1 rc
  have a9 : y9.st = y8.st := rfl
  unfold y9 at *
  have b1 : y1.st ≤ (nwQ 4194304).st + 1 := a1
  have b3 : y3.st ≤ (y1.sync n1).st + 1 := a3
  have b4 : y4.st ≤ y3.st + 1 := a4
  have b5 : y5.st ≤ y4.st + 1 := a5
  have b7 : y7.st ≤ (y5.sync n1).st + 1 := a7
  have b8 : y8.st ≤ y7.st + 1 := a8
  omega
theorem y_a4 : apE y4 n1 rb.length = 0 := by rw [r_len.2.1]; decide
theorem y_a7 : apE y7 n1 rc.length = 0 := by rw [r_len.2.2]; decide
theorem y_s5 : fiE y5 n1 = 0 := by decide
theorem y_d5 : rfE (y5.sync n1) = 0 := by decide
theorem fsok_new : FsOk (nwQ 4194304) := by
  unfold FsOk
  rw [nm_new, fs_nil]
  exact ⟨fun f h => by simp at h, Nat.zero_le _⟩
theorem fsok_y9 : FsOk y9 := by
  unfold FsOk
  rw [y_nm, fs_one]
  exact ⟨fun f h => by simp at h; subst h; omega, by decide⟩
end Go.Proofs.YtcbhhdjjanekaaaGreatDoor
