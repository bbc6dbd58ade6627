/- kmeans.belonging. -/
import Derived.Test.YtblfmhdcgmkpgaaKMove
import Derived.Test.YtblfmhdcgmkpgaaKNear
import Derived.Deep.OwnRows
namespace Go.Proofs.Ytblfmhdcgmkpgaa
open Go.RowKit Go.Maps

/-- A block of the call's own that holds k lists of numbers of the call's own, all apart. -/
structure Pl (w W : World) (pb : Nat) (us : Nat → Value) (k : Nat) (ps : Nat → List Int) : Prop where
  row : W.rowIs pb 40 k us
  own : ∀ i, i < k → Own W w.heap.size (us i) (ps i)
  ne : ∀ i, i < k → (us i).ownBlock ≠ some pb
  apart : ∀ i j, i < k → j < k → i ≠ j → (us i).ownBlock = none ∨ (us i).ownBlock ≠ (us j).ownBlock
  gb : Gb w W
  hB : w.heap.size ≤ pb
theorem Pl.gr {w W W' : World} {pb k : Nat} {us : Nat → Value} {ps : Nat → List Int} (h : Pl w W pb us k ps) (g : Gb W W') : Pl w W' pb us k ps :=
  ⟨h.row.of_block (g.block _ h.row.lt), fun i hi => (h.own i hi).gb g, h.ne, h.apart, gb_trans h.gb g, h.hB⟩
theorem own_lt {w : World} {B : Nat} {v : Value} {l : List Int} (h : Own w B v l) {g : Nat} (hg : v.ownBlock = some g) : g < w.heap.size ∧ B ≤ g := by
  have := World.ownsRow.lt h g hg
  exact ⟨this.2, this.1⟩
/-- One list has one number more. -/
theorem Pl.next {w W W2 : World} {pb k t : Nat} {us : Nat → Value} {ps : Nat → List Int} {v' : Value} {x : Int} (h : Pl w W pb us k ps) (ht : t < k)
    (hr : W2.ownsRow w.heap.size 3 1 v' ((ps t).length + 1) ((ps t).map (Value.int .i64) ++ [.int .i64 x])) (hg : W.grownBy W2 (us t).ownBlock) (hloc : v'.ownBlock = (us t).ownBlock ∨ v'.ownBlock = some W.heap.size) :
    Pl w (W2.setCell ⟨pb, t, none⟩ v') pb (fun i => if i = t then v' else us i) k (fun i => if i = t then ps t ++ [x] else ps i) := by
  have hrow : W2.rowIs pb 40 k us := h.row.of_block (hg.block pb h.row.lt (fun e => h.ne t ht e.symm))
  have hO : Own W2 w.heap.size v' (ps t ++ [x]) := by unfold Own; rw [List.length_append, List.map_append]; exact hr
  have hne : v'.ownBlock ≠ some pb := by
    rcases hloc with e | e
    · rw [e]; exact h.ne t ht
    · rw [e]; intro e2; have := h.row.lt; injection e2; omega
  have keep : ∀ {v : Value} {l : List Int}, Own W2 w.heap.size v l → v.ownBlock ≠ some pb → Own (W2.setCell ⟨pb, t, none⟩ v') w.heap.size v l := fun {v l} ho hn =>
    own_kp (S := fun b => b = pb) ho (Kp.set (S := fun b => b = pb) (Kp.refl _ W2) (p := ⟨pb, t, none⟩) (.inl rfl) v') (fun g e1 e2 => hn (by rw [e1, e2]))
  have hap : ∀ i, i < k → i ≠ t → (us i).ownBlock = none ∨ (us i).ownBlock ≠ v'.ownBlock := fun i hi hit => by
    rcases hloc with e | e
    · rw [e]; exact h.apart i t hi ht hit
    · cases hv : (us i).ownBlock with
      | none => exact .inl rfl
      | some g =>
        refine .inr ?_
        rw [e]
        intro e2
        have := own_lt (h.own i hi) hv
        injection e2; omega
  have gb2 : Gb w W2 := below_grown h.gb hg (fun g e => (own_lt (h.own t ht) e).2) h.gb.size
  refine ⟨(hrow.set t v').congr (fun i _ => rfl), fun i hi => ?_, fun i hi => ?_, fun i j hi hj hij => ?_, gb_set gb2 h.hB _, h.hB⟩
  · by_cases e : i = t
    · simp only [if_pos e]; exact keep hO hne
    · simp only [if_neg e]
      refine keep ((h.own i hi).kept hg ?_) (h.ne i hi)
      exact h.apart i t hi ht e
  · by_cases e : i = t
    · simp only [if_pos e]; exact hne
    · simp only [if_neg e]; exact h.ne i hi
  · by_cases e : i = t
    · simp only [if_pos e]
      rw [if_neg (fun e2 => hij (e.trans e2.symm))]
      rcases hap j hj (fun e2 => hij (e.trans e2.symm)) with h1 | h1
      · cases hv : v'.ownBlock with
        | none => exact .inl rfl
        | some g => rw [h1]; exact .inr (by simp)
      · exact .inr (fun e2 => h1 e2.symm)
    · simp only [if_neg e]
      by_cases e2 : j = t
      · simp only [if_pos e2]; exact hap i hi e
      · simp only [if_neg e2]; exact h.apart i j hi hj hij
theorem Try.infoV : (Try.prog.info? 40).map (fun i => (i.zero, i.size, i.bytes)) = some (some (.slice none 0 0), 1, 24) := by kernel_rfl
theorem Try.infoI : (Try.prog.info? 3).map (fun i => (i.zero, i.size, i.bytes)) = some (some (.int .i64 0), 1, 8) := by kernel_rfl
theorem info_parts' {i : Nat} {z : Value} {s b : Nat} (h : (Try.prog.info? i).map (fun i => (i.zero, i.size, i.bytes)) = some (some z, s, b)) : ∃ i0, Try.prog.info? i = some i0 ∧ i0.zero = some z ∧ i0.size = s ∧ i0.bytes = b := by
  obtain ⟨i, hi, hzz⟩ := Option.map_eq_some_iff.1 h
  simp only [Prod.mk.injEq] at hzz
  exact ⟨i, hi, hzz.1, hzz.2.1, hzz.2.2⟩

/-- The places so far, as numbers. -/
def belI (cs l : Vs) (q : Nat) (i : Nat) : List Int := (belTo cs l i q).map Int.ofNat
theorem belI_next (cs l : Vs) (q t : Nat) (ht : (nearP cs l[q]!).1 = t) : belI cs l (q + 1) = fun i => if i = t then belI cs l q t ++ [(q : Int)] else belI cs l q i := by
  funext i
  unfold belI
  rw [belTo_next]
  by_cases e : i = t
  · subst e; rw [if_pos ht]; simp
  · simp only [if_neg e]; rw [if_neg (fun e2 => e (e2.symm.trans ht))]

set_option maxHeartbeats 4000000 in
set_option maxRecDepth 100000 in
theorem belonging_c {w : World} {lv cv : Value} {l cs : Vs} {d : Int} (hl : RdV w lv l) (hc : RdV w cv cs) (hlo : VsOk l d) (hco : VsOk cs d) (h0 : 1 ≤ cs.length) (h64 : cs.length ≤ 64) (hn : l.length ≤ 512) :
    Calls Try.prog 78 #[lv, cv] w fun e w' => ∃ us, e = .returned (.slice (some ⟨w.heap.size, 0, none⟩) cs.length cs.length) ∧ Pl w w' w.heap.size us cs.length (belI cs l l.length) := by
  have L : Hid (RdV w lv l) := hl
  have C : Hid (RdV w cv cs) := hc
  have K : Hid (VsOk l d ∧ VsOk cs d ∧ 1 ≤ cs.length ∧ cs.length ≤ 64) := ⟨hlo, hco, h0, h64⟩
  obtain ⟨al, cl, rfl, _⟩ := hl
  obtain ⟨ac, cc, rfl, _⟩ := hc
  obtain ⟨k, hk⟩ : ∃ k, k = cs.length := ⟨_, rfl⟩
  have KK : Hid (k = cs.length) := hk
  obtain ⟨n, hN⟩ : ∃ n, n = l.length := ⟨_, rfl⟩
  have N : Hid (n = l.length) := hN
  rw [← hk] at C h0 h64 ⊢
  rw [← hN] at L hn ⊢
  clear hk hN hlo hco
  have hmk := run_make_row' (P := Try.prog) 22 40 (.slice none 0 0) 24 Try.underlying22 Try.infoV rfl .i64 .i64 k (by omega) (by omega) w
  have P0 : Pl w (w.alloc (.cells (madeCells #[Value.slice none 0 0] k) 40)) w.heap.size (fun _ => .slice none 0 0) k (belI cs l 0) :=
    ⟨World.rowIs_made w _ k _, fun i _ => own_nil _ _, fun i _ e => by simp [Value.ownBlock] at e, fun i j _ _ _ => .inl rfl, gb_alloc (Below.refl _ _) _, Nat.le_refl _⟩
  obtain ⟨i0, hi, hz0, hz1, hz2⟩ := info_parts' Try.infoI
  have II : Hid (Try.prog.info? 3 = some i0 ∧ i0.zero = some (.int .i64 0) ∧ i0.size = 1 ∧ i0.bytes = 8) := ⟨hi, hz0, hz1, hz2⟩
  clear hi hz0 hz1 hz2
  generalize w.alloc (.cells (madeCells #[Value.slice none 0 0] k) 40) = W0 at *
  go_enter Try.func78, Try.ntmps78
  go_wp2
  clear hmk
  go_loopw [14] (fun iv W => ∃ (q : Nat) (us : Nat → Value), iv = .int .i64 (q : Int) ∧ q ≤ n ∧ Hid (Pl w W w.heap.size us k (belI cs l q))) (fun iv _ => n - (intOf iv).toNat)
  case atStart => exact ⟨0, _, rfl, Nat.zero_le _, P0⟩
  case round =>
    clear P0
    obtain ⟨q, us, rfl, hq, X⟩ := hrel
    by_cases hqn : q < n
    · have hqi : (q : Int) < (n : Int) := by omega
      have hql : q < l.length := by have := N.out; omega
      obtain ⟨b1, o1, u1, ea, k1, k2⟩ := cen_at L.out hql
      subst ea
      have g1 := X.out.gb
      have x0 := gb_keeps g1 k1
      have cn := nearest_c (C.out.gb g1) (k2.gb g1) K.out.2.1 (K.out.1 q hql) K.out.2.2.1 K.out.2.2.2
      have hto := nearP_lt K.out.2.2.1 l[q]!
      have NX := belI_next cs l q _ rfl
      rw [← KK.out] at hto
      obtain ⟨pu, cu, rfl, _⟩ := k2
      generalize l[q]!.length = m1 at *
      generalize nearP cs l[q]! = p at *
      obtain ⟨t, pd⟩ := p
      dsimp only at hto cn NX
      have hti : (t : Int) < (k : Int) := by omega
      have hlt : (belI cs l q t).length ≤ 512 := by unfold belI; rw [List.length_map]; exact Nat.le_trans (belTo_len cs l t q) (by omega)
      have NXH : Hid (belI cs l (q + 1) = fun i => if i = t then belI cs l q t ++ [(q : Int)] else belI cs l q i) := NX
      clear k1 NX
      go_wp2_with fail
      refine cn.mono ?_
      rintro e w2 ⟨rfl, g2⟩
      have X2 : Hid (Pl w (w2.alloc (.cells #[.int .u64 (hi pd), .int .u64 (lo pd)] 51)) w.heap.size us k (belI cs l q)) := (X.out.gr g2.gb).gr (gb_alloc (Below.refl _ _) _)
      have c1 := X2.out.row.cell hto
      have hrow := X2.out.own t hto
      obtain ⟨nt, pt, ct, et⟩ : ∃ nt pt ct, us t = .slice pt nt ct := by obtain ⟨pv, cv, ev, _⟩ := hrow.rd; exact ⟨_, pv, cv, ev⟩
      have ET : Hid (us t = .slice pt nt ct) := et
      rw [et] at c1 hrow
      have hw0 := X2.out.gb.size
      clear cn X x0 g1 g2 et
      have II' := II.out
      go_wp2_with (first
        | (at_builtin; refine wpList_append_own_at _ rfl _ _ 40 rfl w.heap.size 3 i0 (.int .i64 0) 1 8 Try.underlying40 II'.1 II'.2.1 II'.2.2.1 II'.2.2.2 rfl (by decide) (.slice pt nt ct) (belI cs l q t).length ((belI cs l q t).map (Value.int .i64)) rfl (World.ownsRow.alloc hrow _) ⟨w2.heap.size + 1, 0, none⟩ 1 1 [.int .i64 (q : Int)] rfl rfl (by have hc := cell_one_new (w2.alloc (.cells #[.int .u64 (hi pd), .int .u64 (lo pd)] 51)) (.int .i64 (q : Int)) 3; rwa [World.size_alloc] at hc) (ints_oneCell .i64 [(q : Int)]) (by unfold maxLen; omega) (by omega) (by rw [World.size_alloc]; omega) ?_; intro v' w4 hown' hgrow' hnil' hloc'; obtain ⟨nv, pv, cv, ev⟩ : ∃ nv pv cv, v' = .slice pv nv cv := (by rcases hown'.2 with ⟨e, _⟩ | ⟨g, cap, cur, e, _⟩ <;> exact ⟨_, _, _, e⟩); subst ev; have X3 : Hid (Pl w (w4.setCell ⟨w.heap.size, t, none⟩ (.slice pv nv cv)) w.heap.size (fun i => if i = t then .slice pv nv cv else us i) k (fun i => if i = t then belI cs l q t ++ [(q : Int)] else belI cs l q i)) := (X2.out.gr (gb_alloc (Below.refl _ _) _)).next hto hown' (by rw [ET.out]; exact hgrow') (by rw [ET.out]; exact hloc'); have r4 := (X2.out.gr (gb_alloc (Below.refl _ _) _)).row.of_block (hgrow'.block w.heap.size (by rw [World.size_alloc]; have := X2.out.row.lt; omega) (fun e => X2.out.ne t hto (by rw [ET.out]; exact e.symm))); have c4 := r4.cell hto; have f4 := r4.frozen t; rw [ET.out] at c4; clear r4)
        | go_in)
      go_roundw
      case rel => exact ⟨q + 1, _, by go_num, hqn, by rw [NXH.out]; exact X3⟩
      case measure => simp [intOf]; omega
    · have hqi : ¬ (q : Int) < (n : Int) := by omega
      have hqn' : q = n := by omega
      subst hqn'
      go_wp2
      go_ret
      exact ⟨rfl, us, X.out⟩
end Go.Proofs.Ytblfmhdcgmkpgaa
