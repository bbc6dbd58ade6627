/- The reference's Rename, SyncDir. -/
import Derived.Test.YtkagnoinifffdaaRxDkRl
namespace Go.Proofs.Ytkagnoinifffdaa
open Go.RowKit Go.Lib Go.Maps

variable {w w' W : World} {p : Nat} {q q' : Dq} {nu : List Int} {r : Rf} {L : List (Value × Nat)} {fv nv sv cv : Value} {F G B : Nat → Prop}
theorem sb_list (x : By) : (sb x).data.toList = x := by simp [sb]
set_option maxHeartbeats 1000000 in
theorem rrename_r (h : RfD w p q G B) (ok : q.Ok) (hi : q.Inj) (hst : q.st < 10000) (x : By) {y : By} (hy : y.length ≤ 65536) : Calls Try.prog 48 #[.pointer (some ⟨p, 0, none⟩), .string (sb x), .string (sb y)] w fun e w' => e = .returned (.int .i64 (reE q x y)) ∧ RfO w w' p (q.rename x y) G B := by
  have SELF : Hid (reE q x y ≠ 0 → RfO w w p (q.rename x y) G B) := fun hne => by
    have e : q.rename x y = q := by unfold Dq.rename; rw [if_neg hne]
    rw [e]; exact RfO.self h
  obtain ⟨nu, r, L, fv, nv, sv, cv, h, hr, hG, hB⟩ := h
  have cD := rdown_r h
  have cF := rfile_c h hr ok hi (by omega) x
  have cN := rname_c (sb y) (by simp [sb, ByteArray.size]; omega) w
  rw [sb_list] at cN
  by_cases e0 : q.lf = 0
  · have E : reE q x y = 174 := by
      have : fiE q x = 174 := by unfold fiE; rw [if_pos e0]
      unfold reE; rw [if_pos (by rw [this]; decide), this]
    have X : Hid (RfO w w p (q.rename x y) G B) := SELF.out (by rw [E]; decide)
    rw [E]
    rw [decide_eq_true e0] at cD
    clear h hr ok hi hst e0 E cF hG hB SELF cN
    generalize sb x = sx at *
    generalize sb y = sy at *
    go_enter Try.func48, Try.ntmps48
    go_wp2_with fail
    refine cD.mono ?_
    rintro e w' ⟨rfl, rfl⟩
    go_wp2
    go_ret
    exact ⟨rfl, X.out⟩
  rw [decide_eq_false e0] at cD
  have KEY : Hid (∀ n, FiR nu q x n → n = -1 ∧ Hid (reE q x y = 172) ∨ ∃ f : Nat, n = (f : Int) ∧ (nmOk y = false → Hid (reE q x y = 170)) ∧ (nmOk y = true → Hid (reE q x y = 0) ∧
      Hid (Calls Try.prog 67 #[.pointer (some ⟨p, 0, none⟩), .agg #[.int .i64 2, .string (sb x), .string (sb y), .int .i64 (f : Int)]] w fun e w' => e = .returned (.int .i64 0) ∧ Hid (RfO w w' p (q.rename x y) G B)))) := fun n hn => by
    rcases hn with ⟨e, hn⟩ | ⟨f, e, hf, en, hm⟩
    · have E1 : fiE q x = 172 := by unfold fiE; rw [if_neg e0, if_neg hn]
      exact .inl ⟨e, by unfold Hid reE; rw [if_pos (by rw [E1]; decide), E1]⟩
    · have E1 : fiE q x = 0 := by unfold fiE; rw [if_neg e0, if_pos hm]
      refine .inr ⟨f, e, fun hy => by unfold Hid reE; rw [if_neg (by rw [E1]; decide), if_pos hy], fun hy => ?_⟩
      have hz : reE q x y = 0 := by unfold reE; rw [if_neg (by rw [E1]; decide), if_neg (by rw [hy]; decide)]
      refine ⟨hz, ?_⟩
      have ln := hr.nm.len hi.now.ks
      have l1 := ok.nmL
      refine (rchange_c h hG hB ok.lf.2 (by omega) (by omega) (by have := ok.sfL; have := hr.cl; omega) (2, x, y, f)).mono ?_
      rintro e w' ⟨rfl, O⟩
      have eS : q.rename x y = (q.alter (x, y, fiN q x)).done := by unfold Dq.rename; rw [if_pos hz]
      have eN : fiN q x = num q.nm x := by unfold fiN; rw [if_neg e0]
      refine ⟨rfl, ?_⟩
      rw [eS]
      have y0 : y ≠ [] := fun e => by have := (nmOk_len hy).1; rw [e] at this; simp at this
      exact O.out.out rfl rfl rfl rfl rfl rfl (hr.alter ok hi (.inr (.inl ⟨rfl, rfl, y0, rfl, hf, by rw [eN]; exact en⟩)))
  clear h hr ok hi hst e0 hG hB hy
  generalize sb x = sx at *
  generalize sb y = sy at *
  go_enter Try.func48, Try.ntmps48
  go_wp2_with fail
  refine cD.mono ?_
  rintro e w' ⟨rfl, rfl⟩
  clear cD
  go_wp2_with fail
  refine cF.mono ?_
  rintro e w' ⟨n, rfl, hn, rfl⟩
  clear cF
  rcases KEY.out n hn with ⟨rfl, K⟩ | ⟨f, rfl, K1, K2⟩
  · have X : Hid (RfO w' w' p (q.rename x y) G B) := SELF.out (by rw [K.out]; decide)
    clear KEY hn SELF cN
    go_wp2
    go_ret
    exact ⟨by rw [K.out]; rfl, X.out⟩
  · clear KEY hn
    cases hy : nmOk y with
    | false =>
      have K := K1 hy
      rw [hy] at cN
      have X : Hid (RfO w' w' p (q.rename x y) G B) := SELF.out (by rw [K.out]; decide)
      clear K1 K2 SELF hy
      go_wp2_with fail
      refine cN.mono ?_
      rintro e w2 ⟨rfl, rfl⟩
      go_wp2
      go_ret
      exact ⟨by rw [K.out]; rfl, X.out⟩
    | true =>
      obtain ⟨K, CC⟩ := K2 hy
      have cC := CC.out
      rw [hy] at cN
      clear K1 K2 SELF hy CC
      go_wp2_with fail
      refine cN.mono ?_
      rintro e w2 ⟨rfl, rfl⟩
      clear cN
      go_wp2_with fail
      refine cC.mono ?_
      rintro e w2 ⟨rfl, O⟩
      clear cC
      go_wp2
      go_ret
      exact ⟨by rw [K.out]; rfl, O.out⟩
theorem RelQ.settle (h : RelQ nu q r) (ok : q.Ok) : RelQ nu q.settle.done ⟨r.nm, woR r.nm [], []⟩ := by
  have e : woR r.nm [] = r.nm := woR_self fun hm => ok.noneN ((h.nm.ks _).1 hm)
  refine ⟨h.nm, by rw [e]; exact h.nm, rfl, fun i hi => absurd hi (Nat.not_lt_zero _), h.nd, fun n hn => by have := h.lt n hn; show n < ((q.st + 1 : Nat) : Int); omega, Nat.le_succ_of_le h.le⟩
set_option maxHeartbeats 1000000 in
theorem rsyncDir_r (h : RfD w p q G B) (ok : q.Ok) (hi : q.Inj) (hst : q.st < 10000) : Calls Try.prog 50 #[.pointer (some ⟨p, 0, none⟩)] w fun e w' => e = .returned (.int .i64 (rfE q)) ∧ RfO w w' p q.syncDir G B := by
  have H : Hid (RfD w p q G B) := h
  obtain ⟨nu, r, L, fv, nv, sv, cv, h, hr, hG, hB⟩ := h
  have cD := rdown_r h
  by_cases e0 : q.lf = 0
  · have E : rfE q = 174 := by unfold rfE; rw [if_pos e0]
    have X : Hid (RfO w w p q.syncDir G B) := by unfold Hid Dq.syncDir; rw [if_pos e0]; exact RfO.self H.out
    rw [E]
    rw [decide_eq_true e0] at cD
    clear h hr ok hi hst e0 E hG hB H
    go_enter Try.func50, Try.ntmps50
    go_wp2_with fail
    refine cD.mono ?_
    rintro e w' ⟨rfl, rfl⟩
    go_wp2
    go_ret
    exact ⟨rfl, X.out⟩
  have E : rfE q = 0 := by unfold rfE; rw [if_neg e0]
  rw [E]
  rw [decide_eq_false e0] at cD
  obtain ⟨⟨_, _, c2, c3, c4, _, _⟩, fz⟩ := h.cells
  have ln := hr.nm.len hi.now.ks
  have l1 := ok.nmL
  obtain ⟨a, cap, ev⟩ := row_fm h.nms
  have CW : Calls Try.prog 42 #[nv, .string (sb [])] w fun e w1 => ∃ b m c, e = .returned (.slice b m c) ∧ (∃ z, w1.cell? ⟨p, 3, none⟩ = some z) ∧ (∃ z, w1.cell? ⟨p, 4, none⟩ = some z) ∧ w1.frozen? ⟨p, 3, none⟩ = false ∧ w1.frozen? ⟨p, 4, none⟩ = false ∧ p < w1.heap.size ∧
      Hid (Calls Try.prog 68 #[.pointer (some ⟨p, 0, none⟩)] ((w1.setCell ⟨p, 3, none⟩ (.slice b m c)).setCell ⟨p, 4, none⟩ (.slice none 0 0)) fun e w' => e = .returned (.int .i64 0) ∧ Hid (RfO w w' p q.syncDir G B)) := by
    refine (rwithout_c h.nms (by omega)).mono ?_
    rintro e w1 ⟨v, rfl, o1, g1⟩
    obtain ⟨b, c, rfl⟩ := row_fm o1
    have h1 := h.g g1
    obtain ⟨⟨_, _, _, z3, z4, _, _⟩, fz1⟩ := h1.cells
    refine ⟨b, _, c, rfl, ⟨_, z3⟩, ⟨_, z4⟩, fz1 3, fz1 4, h1.lt, ?_⟩
    have oth : ∀ k, k ≠ p → ((w1.setCell ⟨p, 3, none⟩ (.slice b (woR r.nm []).length c)).setCell ⟨p, 4, none⟩ (.slice none 0 0)).heap[k]? = w1.heap[k]? := fun k hk => by rw [Below.heap_setCell _ _ _ _ hk, Below.heap_setCell _ _ _ _ hk]
    have np : ∀ {base m n : Nat} {e : TypeId} {v : Value} {xs : List Value}, w1.ownsRow base e m v n xs → e ≠ 68 → ∀ j, v.ownBlock = some j → j ≠ p := fun {base m n e v xs} ho hne j ej eq => by
      subst eq
      obtain ⟨cur, ec⟩ := row_cells ho ej
      exact hne (type_cells ec h1.blk)
    have GB : ∀ j, G j → ¬ Nw B w w1 j := fun j g b => b.elim (h.gb j g) fun n => by have := hG j g; omega
    have M : RfM ((w1.setCell ⟨p, 3, none⟩ (.slice b (woR r.nm []).length c)).setCell ⟨p, 4, none⟩ (.slice none 0 0)) p q.settle nu ⟨r.nm, woR r.nm [], []⟩ L fv nv (.slice b (woR r.nm []).length c) (.slice none 0 0) G (Nw B w w1) := by
      refine h1.mvA (fun k _ hk _ => oth k hk) (by rw [heap_set0 (heap_set0 h1.blk)]; rfl) rfl rfl ?_ (fun j e => .inl (h.nmB j e)) ?_ (fun j e => .inr (World.ownsRow.lt o1 j e)) (World.ownsRow_nil _ _ _ _) (fun j e => by simp [Value.ownBlock] at e) (fun _ g => g) (fun _ b => .inl b) GB
      · exact row_same h1.nms fun j e => oth j (np h1.nms (by decide) j e)
      · exact row_same (o1.mono (Nat.zero_le _)) fun j e => oth j (np o1 (by decide) j e)
    have kG : Kf G w ((w1.setCell ⟨p, 3, none⟩ (.slice b (woR r.nm []).length c)).setCell ⟨p, 4, none⟩ (.slice none 0 0)) := ((Kf.gb g1 G).set (fun _ => h.inG.1) _).set (fun _ => h.inG.1) _
    refine (rstep_c M ok.lf.2 (by show q.st < 1000000; omega)).mono ?_
    rintro e w' ⟨rfl, M', kp⟩
    have kf := kG.then kp fun _ _ e => by subst e; exact h.inG.1
    have sz := kp.size
    rw [World.size_setCell, World.size_setCell] at sz
    have eS : q.syncDir = q.settle.done := by unfold Dq.syncDir; rw [if_neg e0]
    rw [eS]
    exact ⟨rfl, G, Nw B w w1, ⟨_, _, _, _, _, _, _, M', hr.settle ok, fun j g => kf.size_eq (hG j g), fun j b => b.elim (fun b => kf.size_eq (hB j b)) fun n => by omega⟩, fun _ _ g => g, fun j hj b => b.elim id fun n => by omega, kf⟩
  rw [ev] at c2 CW
  have e1 : sb [] = ByteArray.empty := rfl
  rw [e1] at CW
  clear h hr ok hi hst e0 hG hB H E ev ln
  generalize r.nm.length = m at *
  go_enter Try.func50, Try.ntmps50
  go_wp2_with fail
  refine cD.mono ?_
  rintro e w' ⟨rfl, rfl⟩
  clear cD
  go_wp2_with fail
  refine CW.mono ?_
  rintro e w1 ⟨b, m', c, rfl, ⟨z3, y3⟩, ⟨z4, y4⟩, f3, f4, lp, ST⟩
  have ST := ST.out
  clear CW
  go_wp2_with fail
  refine ST.mono ?_
  rintro e w2 ⟨rfl, O⟩
  clear ST
  go_wp2
  go_ret
  exact ⟨rfl, O.out⟩
end Go.Proofs.Ytkagnoinifffdaa
