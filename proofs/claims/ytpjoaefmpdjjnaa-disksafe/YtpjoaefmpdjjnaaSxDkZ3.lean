/- DiskSafe, plainly: a file whose name is safe, that is appended to and synced, and what is there behind one crash and another. -/
import Derived.Test.YtpjoaefmpdjjnaaSxDkZ2
import Derived.Test.YtpjoaefmpdjjnaaSxDkS1
namespace Go.Proofs.Ytpjoaefmpdjjnaa
open Go.RowKit Go.Lib Go.Maps

/-- The disk runs, its names are safe, and x is one of them; all is the file's bytes, of which the first s are safe. -/
structure SfI (q : Dq) (x : By) (all : By) (s : Nat) : Prop where
  lf : q.lf = -1
  ch : q.ch = []
  sf : q.sf = q.nm
  key : x ∈ kys q.nm
  fb : q.fb (num q.nm x) = all
  fs : q.fs (num q.nm x) = s
  inj : q.Inj
theorem SfI.fi {q : Dq} {x all : By} {s : Nat} (h : SfI q x all s) : fiE q x = 0 := by
  unfold fiE
  rw [if_neg (by rw [h.lf]; decide), if_pos h.key]
theorem SfI.append {q : Dq} {x all : By} {s : Nat} (h : SfI q x all s) (l : By) : SfI (q.append x l) x (if apE q x l.length = 0 then all ++ l else all) s := by
  have hi := h.inj.append x l
  unfold Dq.append at hi ⊢
  split
  · rename_i e
    rw [if_pos e] at hi
    refine ⟨done_lf h.lf, h.ch, h.sf, h.key, ?_, ?_, hi⟩
    · show upd q.fb (num q.nm x) (q.fb (num q.nm x) ++ l) (num q.nm x) = _
      rw [upd_same, h.fb]
    · show upd q.fs (num q.nm x) (q.fs (num q.nm x)) (num q.nm x) = s
      rw [upd_same, h.fs]
  · exact h
theorem SfI.sync {q : Dq} {x all : By} {s : Nat} (h : SfI q x all s) : SfI (q.sync x) x all all.length := by
  have hi := h.inj.sync x
  unfold Dq.sync at hi ⊢
  rw [if_pos h.fi] at hi ⊢
  refine ⟨done_lf h.lf, h.ch, h.sf, h.key, ?_, ?_, hi⟩
  · show upd q.fb (num q.nm x) (q.fb (num q.nm x)) (num q.nm x) = all
    rw [upd_same, h.fb]
  · show upd q.fs (num q.nm x) (q.fb (num q.nm x)).length (num q.nm x) = _
    rw [upd_same, h.fb]
theorem srtB_mem {l : List By} {x : By} : x ∈ srtB l ↔ x ∈ l := (srtB_perm l).mem_iff
/-- Behind a crash: the same names; of the file what a choice leaves; all files are safe whole. -/
theorem SfI.crash {q : Dq} {x all : By} {s : Nat} (h : SfI q x all s) (cs : List Int) : ∃ c, SfI (q.crash cs) x (crB all s c) (crN all s c) ∧ (q.crash cs).nm = q.nm := by
  have eO : crO q cs = q.nm := by
    unfold crO sur
    rw [h.ch, h.sf]
    simp [apT]
  have hx : x ∈ srtB (kys (crO q cs)) := srtB_mem.2 (by rw [eO]; exact h.key)
  obtain ⟨j, hj, ej⟩ := List.getElem_of_mem hx
  have hnow : NmI (crO q cs) (q.st : Int) := by rw [eO]; exact h.inj.now
  obtain ⟨a, b⟩ := (crT_at (nm := crO q cs) hnow.ns (L := srtB (kys (crO q cs))) (fun y hy => srtB_mem.1 hy) ((srtB_perm _).nodup_iff.2 hnow.ks) hj cs q.fb q.fs _ (Nat.le_refl _)).2 hj
  have ex : (srtB (kys (crO q cs)))[j]! = x := by rw [getElem!_pos _ j hj]; exact ej
  rw [ex] at a b
  have e1 : q.fb (num (crO q cs) x) = all := by rw [eO]; exact h.fb
  have e2 : q.fs (num (crO q cs) x) = s := by rw [eO]; exact h.fs
  rw [e1, e2] at a b
  refine ⟨chc cs (j + 1), ⟨rfl, rfl, rfl, ?_, a, b, h.inj.crash cs⟩, eO⟩
  show x ∈ kys (crO q cs)
  rw [eO]; exact h.key
/-- A second crash changes neither the file nor the names. -/
theorem SfI.again {q : Dq} {x all : By} (h : SfI q x all all.length) (cs : List Int) : SfI (q.crash cs) x all all.length ∧ (q.crash cs).nm = q.nm := by
  obtain ⟨c, h1, h2⟩ := h.crash cs
  rw [crB_all] at h1
  have e : crN all all.length c = all.length := by unfold crN; rw [Nat.sub_self, shr_zero]; rfl
  rw [e] at h1
  exact ⟨h1, h2⟩
theorem SfI.crash_len {all : By} {s : Nat} (c : Int) (hs : s ≤ all.length) : crN all s c = (crB all s c).length := (crB_len c hs).symm
/-- Behind a crash and a SyncDir, a file that syncs. -/
theorem SfI.start {q : Dq} {x : By} (h : q.Inj) (hl : q.lf = -1) (hE : fiE q.syncDir x = 0) : SfI (q.syncDir.sync x) x (q.syncDir.fb (num q.syncDir.nm x)) (q.syncDir.fb (num q.syncDir.nm x)).length := by
  obtain ⟨z1, z2, _⟩ := fiE_zero hE
  have e : q.syncDir = q.settle.done := by unfold Dq.syncDir; rw [if_neg (by rw [hl]; decide)]
  have h0 : SfI q.syncDir x (q.syncDir.fb (num q.syncDir.nm x)) (q.syncDir.fs (num q.syncDir.nm x)) := by
    refine ⟨by rw [e]; exact done_lf (q := q.settle) hl, by rw [e]; rfl, by rw [e]; rfl, z2, rfl, rfl, h.syncDir⟩
  exact h0.sync
end Go.Proofs.Ytpjoaefmpdjjnaa
