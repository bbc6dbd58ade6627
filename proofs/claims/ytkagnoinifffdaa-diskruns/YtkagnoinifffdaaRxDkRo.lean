/- The reference's Crash, plainly: names, and one file's turn. -/
import Derived.Test.YtkagnoinifffdaaRx35
namespace Go.Proofs.Ytkagnoinifffdaa
open Go.RowKit Go.Lib Go.Maps

variable {w w' W : World} {p : Nat} {q q' : Dq} {nu : List Int} {r : Rf} {L : List (Value × Nat)} {fv nv sv cv : Value} {F G B : Nat → Prop}
/-- Both cells of a file are stored. -/
theorem RfM.put2 (h : RfM w p q nu r L fv nv sv cv G B) (hr : nu.Nodup) {f : Nat} (hf : f < nu.length) {w1 : World} (k1 : Gb w w1) {g cap : Nat} (ev : fv = .slice (some ⟨g, 0, none⟩) nu.length cap) {v : Value} {l : By} {s : Nat} {B' : Nat → Prop} (ho : OwnB w1 0 v l) (hv : ∀ j, v.ownBlock = some j → B' j) (hB : ∀ j, B j → B' j) (hG : ∀ j, G j → ¬ B' j) :
    RfM ((w1.setCell ⟨g, f * 2, none⟩ v).setCell ⟨g, f * 2 + 1, none⟩ (.int .i64 (s : Int))) p { q with fb := upd q.fb nu[f]! l, fs := upd q.fs nu[f]! s } nu r (L.set f (v, s)) fv nv sv cv G B' ∧ Kf G w ((w1.setCell ⟨g, f * 2, none⟩ v).setCell ⟨g, f * 2 + 1, none⟩ (.int .i64 (s : Int))) := by
  have h1 := h.g k1
  have hfl := h1.fls
  have hgG : G g := h.inG.2.1 g (by rw [ev]; rfl)
  rw [ev, ← h.len] at hfl
  obtain ⟨s1, g1⟩ := World.ownsRow.stored hfl (f * 2) v
  obtain ⟨s2, g2⟩ := World.ownsRow.stored s1 (f * 2 + 1) (.int .i64 (s : Int))
  have blk : ∀ k, k < w1.heap.size → k ≠ g → ((w1.setCell ⟨g, f * 2, none⟩ v).setCell ⟨g, f * 2 + 1, none⟩ (.int .i64 (s : Int))).heap[k]? = w1.heap[k]? := fun k hk hne => by
    rw [g2.block k (by rw [World.size_setCell]; exact hk) (by simpa using hne), g1.block k hk (by simpa using hne)]
  have hrow : ((w1.setCell ⟨g, f * 2, none⟩ v).setCell ⟨g, f * 2 + 1, none⟩ (.int .i64 (s : Int))).ownsRow 0 78 2 fv L.length ((L.set f (v, s)).flatMap flV) := by rw [flV_set, ev, ← h.len]; exact s2
  refine ⟨?_, ((Kf.gb k1 G).then (Kf.grown g1 fun k e => by cases e; exact hgG) fun _ _ g => g).then (Kf.grown g2 fun k e => by cases e; exact hgG) fun _ _ g => g⟩
  refine h1.mvF (fun k hk hne => blk k hk fun e => hne (by rw [ev, e]; rfl)) (by rw [List.length_set]; exact hrow) (by rw [List.length_set]; exact h.len) ?_ hB hG
  intro k hk
  rw [List.length_set] at hk
  obtain ⟨b1, b2, b3⟩ := h1.byt k hk
  rw [set_at hk]
  by_cases ek : k = f
  · subst ek
    rw [if_pos rfl, upd_same, upd_same]
    refine ⟨row_same ho fun j ej => blk j (World.ownsRow.lt ho j ej).2 fun e => ?_, rfl, hv⟩
    subst e
    exact hG j hgG (hv j ej)
  · rw [if_neg ek]
    have ne := nu_ne hr (by rw [← h.len]; exact hk : k < nu.length) hf ek
    rw [upd_ne _ _ ne, upd_ne _ _ ne]
    refine ⟨row_same b1 fun j ej => blk j (World.ownsRow.lt b1 j ej).2 fun e => ?_, b2, fun j ej => hB j (b3 j ej)⟩
    subst e
    exact h.gb j hgG (b3 j ej)
/-- The reference's names behind a crash. -/
def crR (r : Rf) (cs : List Int) : Rn := woR (apU r.sf r.ch (shr (chc cs 0) r.ch.length)) []
theorem crR_sr (hr : RelQ nu q r) (ok : q.Ok) (hi : q.Inj) (cs : List Int) : SR nu (crR r cs) (crO q cs) := by
  have hle := shr_le (chc cs 0) q.ch.length
  have h := hr.apT ok hi _ hle
  have e : crR r cs = apU r.sf r.ch (shr (chc cs 0) q.ch.length) := by
    unfold crR
    rw [hr.cl]
    exact woR_self fun hm => ok.noneS _ hle ((h.ks _).1 hm)
  rw [e]
  exact h
/-- One file more has gone through the crash. -/
theorem crQ_next (hr : RelQ nu q r) (ok : q.Ok) (hi : q.Inj) (cs : List Int) {i : Nat} (hil : i < (crR r cs).length) {f : Nat} (ef : (crR r cs)[i]!.2 = f) :
    f < nu.length ∧ crQ q cs (i + 1) = { crQ q cs i with fb := upd (crQ q cs i).fb nu[f]! (crB ((crQ q cs i).fb nu[f]!) ((crQ q cs i).fs nu[f]!) (chc cs (i + 1))), fs := upd (crQ q cs i).fs nu[f]! (crN ((crQ q cs i).fb nu[f]!) ((crQ q cs i).fs nu[f]!) (chc cs (i + 1))) } := by
  have S := crR_sr hr ok hi cs
  have nd : (kys (crO q cs)).Nodup := (hi.at_ _).ks
  have hm : (crR r cs)[i]! ∈ crR r cs := by rw [getElem!_pos _ i hil]; exact List.getElem_mem hil
  obtain ⟨h1, h2⟩ := S.at_ _ hm
  rw [ef] at h1 h2
  have e1 : (srtB (kys (crO q cs)))[i]! = (crR r cs)[i]!.1 := by
    rw [S.srt nd, getElem!_pos _ i (by rw [List.length_map]; exact hil), List.getElem_map, getElem!_pos (crR r cs) i hil]
  refine ⟨h1, ?_⟩
  rw [h2, ← e1]
  rfl
theorem crQ_len (hr : RelQ nu q r) (ok : q.Ok) (hi : q.Inj) (cs : List Int) : (crR r cs).length = (srtB (kys (crO q cs))).length := by
  rw [(crR_sr hr ok hi cs).srt (hi.at_ _).ks, List.length_map]
theorem RelQ.crash (hr : RelQ nu q r) (ok : q.Ok) (hi : q.Inj) (cs : List Int) : RelQ nu (q.crash cs) ⟨crR r cs, woR (crR r cs) [], []⟩ := by
  have S := crR_sr hr ok hi cs
  have e : woR (crR r cs) [] = crR r cs := by unfold crR woR; rw [List.filter_filter]; simp
  exact ⟨S, by rw [e]; exact S, rfl, fun i hi => absurd hi (Nat.not_lt_zero _), hr.nd, hr.lt, hr.le⟩
/-- Noughts from s up to k. -/
def zr (l : By) (s k : Nat) : By := l.take s ++ List.replicate (k - s) 0 ++ l.drop k
theorem zr_len {l : By} {s k : Nat} (h1 : s ≤ k) (h2 : k ≤ l.length) : (zr l s k).length = l.length := by
  unfold zr; simp; omega
theorem zr_next {l : By} {s k : Nat} (h1 : s ≤ k) (h2 : k < l.length) : (zr l s k).set k 0 = zr l s (k + 1) := by
  apply List.ext_getElem?
  intro j
  unfold zr
  rw [List.getElem?_set]
  have hA : (l.take s).length = s := by rw [List.length_take]; omega
  simp only [List.length_append, List.length_replicate, List.length_drop, hA]
  by_cases e : k = j
  · subst e
    rw [if_pos rfl, if_pos (by omega), List.getElem?_append_left (by simp; omega), List.getElem?_append_right (by omega), List.getElem?_replicate, if_pos (by omega)]
  · rw [if_neg e]
    by_cases h : j < s
    · rw [List.getElem?_append_left (by simp; omega), List.getElem?_append_left (by omega), List.getElem?_append_left (by simp; omega), List.getElem?_append_left (by omega)]
    · by_cases h' : j < k
      · rw [List.getElem?_append_left (by simp; omega), List.getElem?_append_right (by omega), List.getElem?_append_left (by simp; omega), List.getElem?_append_right (by omega), List.getElem?_replicate, List.getElem?_replicate, if_pos (by omega), if_pos (by omega)]
      · rw [List.getElem?_append_right (by simp; omega), List.getElem?_append_right (by simp; omega), List.getElem?_drop, List.getElem?_drop]
        congr 1
        simp; omega
theorem zr_first (l : By) (s : Nat) : zr l s s = l := by unfold zr; simp
theorem zr_last {l : By} {s : Nat} (h : s ≤ l.length) {c : Int} (hc : c < 0) : zr (l.take (s + shr c (l.length - s))) s (l.take (s + shr c (l.length - s))).length = crB l s c := by
  have hle := shr_le c (l.length - s)
  unfold zr crB
  rw [if_pos hc, List.take_take, Nat.min_eq_left (by omega), List.drop_length, List.append_nil, List.length_take, Nat.min_eq_left (by omega)]
  congr 2; omega
end Go.Proofs.Ytkagnoinifffdaa
