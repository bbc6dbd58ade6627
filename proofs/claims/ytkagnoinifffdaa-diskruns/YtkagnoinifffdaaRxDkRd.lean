/- The reference's disk in memory; Down, step, file, Read, Stop. -/
import Derived.Test.YtkagnoinifffdaaRxDkRc
import Derived.Test.YtkagnoinifffdaaRxDkS1
namespace Go.Proofs.Ytkagnoinifffdaa
open Go.RowKit Go.Lib Go.Maps

def flV (p : Value × Nat) : List Value := [p.1, .int .i64 (p.2 : Int)]
def rcV (c : Rc) : List Value := [.int .i64 c.1, .string (sb c.2.1), .string (sb c.2.2.1), .int .i64 (c.2.2.2 : Int)]
structure RfM (w : World) (p : Nat) (q : Dq) (nu : List Int) (r : Rf) (L : List (Value × Nat)) (fv nv sv cv : Value) (G B : Nat → Prop) : Prop where
  blk : w.heap[p]? = some (.cells #[.int .i64 q.room, fv, nv, sv, cv, .int .i64 (q.st : Int), .int .i64 q.lf] 68 (0, 0))
  fls : w.ownsRow 0 78 2 fv L.length (L.flatMap flV)
  len : L.length = nu.length
  byt : ∀ k, k < L.length → OwnB w 0 L[k]!.1 (q.fb nu[k]!) ∧ L[k]!.2 = q.fs nu[k]! ∧ ∀ j, L[k]!.1.ownBlock = some j → B j
  nms : OwR w 0 nv r.nm
  nmB : ∀ j, nv.ownBlock = some j → B j
  sfs : OwR w 0 sv r.sf
  sfB : ∀ j, sv.ownBlock = some j → B j
  chs : w.ownsRow 0 81 4 cv r.ch.length (r.ch.flatMap rcV)
  inG : G p ∧ (∀ j, fv.ownBlock = some j → G j) ∧ ∀ j, cv.ownBlock = some j → G j
  gb : ∀ j, G j → ¬ B j
variable {w w' W : World} {p : Nat} {q q' : Dq} {nu : List Int} {r : Rf} {L : List (Value × Nat)} {fv nv sv cv : Value} {F G B : Nat → Prop}
theorem RfM.lt (h : RfM w p q nu r L fv nv sv cv G B) : p < w.heap.size := (Array.getElem?_eq_some_iff.1 h.blk).1
theorem RfM.cells (h : RfM w p q nu r L fv nv sv cv G B) : (w.cell? ⟨p, 0, none⟩ = some (.int .i64 q.room) ∧ w.cell? ⟨p, 1, none⟩ = some fv ∧ w.cell? ⟨p, 2, none⟩ = some nv ∧ w.cell? ⟨p, 3, none⟩ = some sv ∧ w.cell? ⟨p, 4, none⟩ = some cv ∧
    w.cell? ⟨p, 5, none⟩ = some (.int .i64 (q.st : Int)) ∧ w.cell? ⟨p, 6, none⟩ = some (.int .i64 q.lf)) ∧ ∀ i, w.frozen? ⟨p, i, none⟩ = false := by
  have e := h.blk
  refine ⟨⟨?_, ?_, ?_, ?_, ?_, ?_, ?_⟩, fun i => ?_⟩ <;> simp [World.cell?, World.frozen?, e]
theorem RfM.kp (h : RfM w p q nu r L fv nv sv cv G B) (k : Kf F w w') (h1 : ∀ j, F j → ¬ G j) (h2 : ∀ j, F j → ¬ B j) : RfM w' p q nu r L fv nv sv cv G B := by
  obtain ⟨g1, g2, g3⟩ := h.inG
  refine ⟨(k.block p h.lt fun f => h1 p f g1).trans h.blk, row_same h.fls fun j e => k.block j (World.ownsRow.lt h.fls j e).2 fun f => h1 j f (g2 j e), h.len, fun i hi => ?_, row_same h.nms fun j e => k.block j (World.ownsRow.lt h.nms j e).2 fun f => h2 j f (h.nmB j e), h.nmB,
    row_same h.sfs fun j e => k.block j (World.ownsRow.lt h.sfs j e).2 fun f => h2 j f (h.sfB j e), h.sfB, row_same h.chs fun j e => k.block j (World.ownsRow.lt h.chs j e).2 fun f => h1 j f (g3 j e), h.inG, h.gb⟩
  obtain ⟨b1, b2, b3⟩ := h.byt i hi
  exact ⟨row_same b1 fun j e => k.block j (World.ownsRow.lt b1 j e).2 fun f => h2 j f (b3 j e), b2, b3⟩
theorem RfM.g (h : RfM w p q nu r L fv nv sv cv G B) (k : Gb w w') : RfM w' p q nu r L fv nv sv cv G B := h.kp (Kf.gb k fun _ => False) (fun _ f => f.elim) fun _ f => f.elim
/-- Its own block turns alone. -/
theorem RfM.mvP (h : RfM w p q nu r L fv nv sv cv G B) (hk : ∀ k, k < w.heap.size → k ≠ p → w'.heap[k]? = w.heap[k]?) (e1 : q'.fb = q.fb) (e2 : q'.fs = q.fs)
    (hb : w'.heap[p]? = some (.cells #[.int .i64 q'.room, fv, nv, sv, cv, .int .i64 (q'.st : Int), .int .i64 q'.lf] 68 (0, 0))) : RfM w' p q' nu r L fv nv sv cv G B := by
  obtain ⟨g1, g2, g3⟩ := h.inG
  have tp : ∀ {base m n : Nat} {e : TypeId} {v : Value} {xs : List Value}, w.ownsRow base e m v n xs → e ≠ 68 → w'.ownsRow base e m v n xs := fun {base m n e v xs} ho hne => row_same ho fun j ej => hk j (World.ownsRow.lt ho j ej).2 fun eq => by
    subst eq
    obtain ⟨cur, ec⟩ := row_cells ho ej
    exact hne (type_cells ec h.blk)
  refine ⟨hb, tp h.fls (by decide), h.len, fun i hi => ?_, tp h.nms (by decide), h.nmB, tp h.sfs (by decide), h.sfB, tp h.chs (by decide), h.inG, h.gb⟩
  obtain ⟨b1, b2, b3⟩ := h.byt i hi
  rw [e1, e2]
  exact ⟨tp b1 (by decide), b2, b3⟩
theorem RelQ.done (h : RelQ nu q r) : RelQ nu q.done r := ⟨h.nm, h.sf, h.cl, h.ch, h.nd, fun n hn => by have := h.lt n hn; show n < ((q.st + 1 : Nat) : Int); omega, Nat.le_succ_of_le h.le⟩
theorem rdown_r (h : RfM w p q nu r L fv nv sv cv G B) : Calls Try.prog 35 #[.pointer (some ⟨p, 0, none⟩)] w fun e w' => e = .returned (.bool (decide (q.lf = 0))) ∧ w' = w := by
  obtain ⟨⟨_, _, _, _, _, _, c6⟩, _⟩ := h.cells
  have E : decide (q.lf = 0) = (q.lf == 0) := by by_cases e : q.lf = 0 <;> simp [e]
  rw [E]
  clear h E
  go_enter Try.func35, Try.ntmps35
  go_wp2
  go_ret
  exact ⟨rfl, rfl⟩
theorem rstep_c (h : RfM w p q nu r L fv nv sv cv G B) (hlf : q.lf ≤ 9223372036854775807) (hst : q.st < 1000000) : Calls Try.prog 68 #[.pointer (some ⟨p, 0, none⟩)] w fun e w' => e = .returned (.int .i64 0) ∧ RfM w' p q.done nu r L fv nv sv cv G B ∧ Kf (fun k => k = p) w w' := by
  obtain ⟨⟨_, _, _, _, _, c5, c6⟩, fz⟩ := h.cells
  have f5 := fz 5
  have f6 := fz 6
  have hb := cell_lt c5
  have X : Hid (RfM w p q nu r L fv nv sv cv G B) := h
  have e1 : ((q.st + 1 : Nat) : Int) = (q.st : Int) + 1 := by omega
  by_cases e : 0 < q.lf
  · have K : Hid (∀ W, W = (w.setCell ⟨p, 5, none⟩ (.int .i64 ((q.st : Int) + 1))).setCell ⟨p, 6, none⟩ (.int .i64 (q.lf - 1)) → RfM W p q.done nu r L fv nv sv cv G B ∧ Kf (fun k => k = p) w W) := fun W hW => by
      subst hW
      refine ⟨X.out.mvP (fun k _ hk => ?_) rfl rfl ?_, kb_set (kb_set (Kf.refl _ _) _ _) _ _⟩
      · rw [Below.heap_setCell _ _ _ _ hk, Below.heap_setCell _ _ _ _ hk]
      · rw [heap_set0 (heap_set0 X.out.blk)]
        unfold Dq.done
        simp only [if_pos e, e1]
        rfl
    have e2 : (decide (0 < q.lf)) = true := decide_eq_true e
    clear h X fz
    go_enter Try.func68, Try.ntmps68
    go_wp2
    go_ret
    exact ⟨rfl, K.out _ rfl⟩
  · have K : Hid (∀ W, W = w.setCell ⟨p, 5, none⟩ (.int .i64 ((q.st : Int) + 1)) → RfM W p q.done nu r L fv nv sv cv G B ∧ Kf (fun k => k = p) w W) := fun W hW => by
      subst hW
      refine ⟨X.out.mvP (fun k _ hk => ?_) rfl rfl ?_, kb_set (Kf.refl _ _) _ _⟩
      · rw [Below.heap_setCell _ _ _ _ hk]
      · rw [heap_set0 X.out.blk]
        unfold Dq.done
        simp only [if_neg e, e1]
        rfl
    clear h X fz
    go_enter Try.func68, Try.ntmps68
    go_wp2
    go_ret
    exact ⟨rfl, K.out _ rfl⟩
/-- A name's file, by number. -/
def FiR (nu : List Int) (q : Dq) (x : By) (n : Int) : Prop := n = -1 ∧ x ∉ kys q.nm ∨ ∃ f : Nat, n = (f : Int) ∧ f < nu.length ∧ nu[f]! = num q.nm x ∧ x ∈ kys q.nm
theorem rfile_c (h : RfM w p q nu r L fv nv sv cv G B) (hr : RelQ nu q r) (ok : q.Ok) (hi : q.Inj) (hst : q.st < 100000) (x : By) : Calls Try.prog 63 #[.pointer (some ⟨p, 0, none⟩), .string (sb x)] w fun e w' => ∃ n, e = .returned (.int .i64 n) ∧ FiR nu q x n ∧ w' = w := by
  obtain ⟨⟨_, _, c2, _, _, _, _⟩, _⟩ := h.cells
  have hl : r.nm.length ≤ 100000 := by have := hr.nm.len hi.now.ks; have := ok.nmL; omega
  have cF := rfind_c (x := x) h.nms (by omega)
  obtain ⟨a, cap, ev, _, _, ha⟩ := h.nms.at_
  have KEY : Hid (∀ n : Int, FdR r.nm x n → n = -1 ∧ FiR nu q x (-1) ∨ ∃ i : Nat, n = (i : Int) ∧ i < r.nm.length ∧ FiR nu q x (r.nm[i]!.2 : Int)) := fun n hn => by
    rcases hn with ⟨e, hn⟩ | ⟨i, e, hi, ex⟩
    · exact .inl ⟨e, .inl ⟨rfl, fun hm => hn ((hr.nm.ks x).2 hm)⟩⟩
    · have hm : r.nm[i]! ∈ r.nm := by rw [getElem!_pos r.nm i hi]; exact List.getElem_mem hi
      obtain ⟨h1, h2⟩ := hr.nm.at_ _ hm
      refine .inr ⟨i, e, hi, .inr ⟨_, rfl, h1, by rw [h2, ex], ?_⟩⟩
      rw [← ex]; exact (hr.nm.ks _).1 (List.mem_map_of_mem hm)
  have A : Hid (∀ i, i < r.nm.length → ∃ g, a = some ⟨g, 0, none⟩ ∧ w.cell? ⟨g, i * 2, none⟩ = some (.string (sb r.nm[i]!.1)) ∧ w.cell? ⟨g, i * 2 + 1, none⟩ = some (.int .i64 (r.nm[i]!.2 : Int))) := ha
  rw [ev] at c2 cF
  generalize r.nm.length = m at *
  clear h hr ok hi hst ev ha
  generalize sb x = sx at *
  go_enter Try.func63, Try.ntmps63
  go_wp2_with fail
  refine cF.mono ?_
  rintro e w' ⟨n, rfl, hn, rfl⟩
  clear cF
  rcases KEY.out n hn with ⟨rfl, K⟩ | ⟨i, rfl, hi, K⟩
  · clear KEY A hn
    have K : Hid (FiR nu q x (-1)) := K
    go_wp2
    go_ret
    exact ⟨_, rfl, K.out, rfl⟩
  · obtain ⟨g, rfl, _, k2⟩ := A.out i hi
    clear KEY A hn
    have K : Hid (FiR nu q x (r.nm[i]!.2 : Int)) := K
    have hii : (i : Int) < (m : Int) := by omega
    generalize r.nm[i]!.2 = y at *
    go_wp2
    go_ret
    exact ⟨_, rfl, K.out, rfl⟩
end Go.Proofs.Ytkagnoinifffdaa
