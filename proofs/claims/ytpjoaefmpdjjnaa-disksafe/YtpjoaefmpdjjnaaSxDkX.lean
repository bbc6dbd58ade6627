/- The document's examples, plainly. -/
import Derived.Test.YtpjoaefmpdjjnaaSxDkT
namespace Go.Proofs.Ytpjoaefmpdjjnaa
open Go.RowKit Go.Lib Go.Maps

def exA : By := [97]
def ex1 : Dq := (nwQ 4).create exA
def ex2 : Dq := ex1.append exA [1, 2, 3]
def ex3 : Dq := ex2.append exA [4, 5]
def ex4 : Dq := ex3.sync exA
def ex5 : Dq := ex4.append exA [9]
def ex6 : Dq := ex5.syncDir
theorem ex_cr : crE (nwQ 4) exA = 0 := by decide
theorem ex_a1 : apE ex1 exA 3 = 0 := by decide
theorem ex_a2 : apE ex2 exA 2 = 173 := by decide
theorem ex_sy : fiE ex3 exA = 0 := by decide
theorem ex_a3 : apE ex4 exA 1 = 0 := by decide
theorem ex_sd : rfE ex5 = 0 := by decide
theorem srtB_one (x : By) : srtB [x] = [x] := by simp [srtB]
theorem ex_o (cs : List Int) (_h : shr (chc cs 0) 0 = 0) : kys (crO ex6 cs) = [exA] := by
  have e : crO ex6 cs = ex6.sf := by
    unfold crO sur
    rw [show ex6.ch = [] from rfl]
    simp [apT]
  rw [e]; rfl
theorem ex_cF (cs : List Int) (h : shr (chc cs 0) 0 = 0) : ex6.crash cs = (crQ ex6 cs 1).settle := by
  unfold Dq.crash
  rw [ex_o cs h, srtB_one]; rfl
theorem ex_st : (ex6.crash [0, -2]).st = 5 := rfl
theorem ex_f1 : fiE (ex6.crash [0, -2]) exA = 0 := by
  rw [ex_cF _ (by decide)]; rfl
theorem ex_f2 : fiE (ex6.crash [0, 1]) exA = 0 := by
  rw [ex_cF _ (by decide)]; rfl
theorem ex_crT (cs : List Int) (h : shr (chc cs 0) 0 = 0) : (crQ ex6 cs 1).fb (num (crQ ex6 cs 1).nm exA) = crB [1, 2, 3, 9] 3 (chc cs 1) := by
  unfold crQ crT
  rw [ex_o cs h, srtB_one]
  have e : crO ex6 cs = ex6.sf := by
    unfold crO sur
    rw [show ex6.ch = [] from rfl]
    simp [apT]
  rw [e]
  rfl
theorem ex_r1 : rdV (ex6.crash [0, -2]) exA = [1, 2, 3, 0] := by
  unfold rdV
  rw [if_pos ex_f1, ex_cF _ (by decide)]
  exact (ex_crT [0, -2] (by decide)).trans (by decide)
theorem ex_r2 : rdV (ex6.crash [0, 1]) exA = [1, 2, 3, 9] := by
  unfold rdV
  rw [if_pos ex_f2, ex_cF _ (by decide)]
  exact (ex_crT [0, 1] (by decide)).trans (by decide)
end Go.Proofs.Ytpjoaefmpdjjnaa
