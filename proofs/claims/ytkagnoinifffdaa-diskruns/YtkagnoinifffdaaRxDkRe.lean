/- The reference's Read, Stop, Used, Names. -/
import Derived.Test.YtkagnoinifffdaaRxDkRd
namespace Go.Proofs.Ytkagnoinifffdaa
open Go.RowKit Go.Lib Go.Maps

variable {w w' W : World} {p : Nat} {q q' : Dq} {nu : List Int} {r : Rf} {L : List (Value × Nat)} {fv nv sv cv : Value} {F G B : Nat → Prop}
theorem fm_get {α : Type} [Inhabited α] (f : α → List Value) (m : Nat) (hf : ∀ x, (f x).length = m) (l : List α) (i c : Nat) (hi : i < l.length) (hc : c < m) : (l.flatMap f)[i * m + c]? = (f l[i]!)[c]? := by
  induction l generalizing i with
  | nil => exact absurd hi (Nat.not_lt_zero _)
  | cons a t ih =>
    rw [List.flatMap_cons]
    cases i with
    | zero =>
      rw [List.getElem?_append_left (by rw [hf]; omega)]
      simp
    | succ i =>
      have e : (i + 1) * m + c - (f a).length = i * m + c := by rw [hf, Nat.add_mul]; omega
      rw [List.getElem?_append_right (by rw [hf, Nat.add_mul]; omega), e, ih i (by simpa using hi)]
      simp
theorem RfM.files (h : RfM w p q nu r L fv nv sv cv G B) : ∃ a cap, fv = .slice a nu.length cap ∧ ∀ f, f < nu.length → ∃ g, a = some ⟨g, 0, none⟩ ∧ w.cell? ⟨g, f * 2, none⟩ = some L[f]!.1 ∧ w.cell? ⟨g, f * 2 + 1, none⟩ = some (.int .i64 (q.fs nu[f]! : Int)) ∧ OwnB w 0 L[f]!.1 (q.fb nu[f]!) ∧ ∃ b c, L[f]!.1 = .slice b (q.fb nu[f]!).length c := by
  obtain ⟨a, cap, rfl⟩ := row_fm h.fls
  refine ⟨a, cap, by rw [h.len], fun f hf => ?_⟩
  have hfl : f < L.length := by rw [h.len]; exact hf
  rcases id h.fls.2 with ⟨e, e0⟩ | ⟨g, cap', cur, e, _⟩
  · omega
  · injection e with e1
    subst e1
    obtain ⟨b1, b2, _⟩ := h.byt f hfl
    refine ⟨g, rfl, ?_, ?_, b1, row_fm b1⟩
    · have := World.ownsRow.cells h.fls (g := g) rfl (f * 2) _ (by have := fm_get flV 2 (fun _ => rfl) L f 0 hfl (by omega); rw [Nat.add_zero] at this; rw [this]; rfl)
      rw [Addr.add_lit, Nat.zero_add] at this; exact this
    · have := World.ownsRow.cells h.fls (g := g) rfl (f * 2 + 1) _ (by rw [fm_get flV 2 (fun _ => rfl) L f 1 hfl (by omega)]; rfl)
      rw [Addr.add_lit, Nat.zero_add, b2] at this; exact this
theorem rread_r (h : RfM w p q nu r L fv nv sv cv G B) (hr : RelQ nu q r) (ok : q.Ok) (hi : q.Inj) (hst : q.st < 100000) (x : By) : Calls Try.prog 36 #[.pointer (some ⟨p, 0, none⟩), .string (sb x)] w fun e w' => ∃ a c, e = .returned (.tuple #[.slice a (rdV q x).length c, .int .i64 (fiE q x)]) ∧ RdB w (.slice a (rdV q x).length c) (rdV q x) ∧ w' = w := by
  have cD := rdown_r h
  have cF := rfile_c h hr ok hi hst x
  by_cases e0 : q.lf = 0
  · have E1 : fiE q x = 174 := by unfold fiE; rw [if_pos e0]
    have E2 : rdV q x = [] := by unfold rdV; rw [if_neg (by rw [E1]; decide)]
    rw [E1, E2]
    rw [decide_eq_true e0] at cD
    clear h hr ok hi hst cF e0 E1 E2
    generalize sb x = sx at *
    go_enter Try.func36, Try.ntmps36
    go_wp2_with fail
    refine cD.mono ?_
    rintro e w' ⟨rfl, rfl⟩
    clear cD
    go_wp2
    go_ret2
    exact ⟨_, _, rfl, ⟨none, 0, rfl, Nat.le_refl _, fun i hi => absurd hi (Nat.not_lt_zero _)⟩, rfl⟩
  rw [decide_eq_false e0] at cD
  obtain ⟨⟨_, c1, _⟩, _⟩ := h.cells
  obtain ⟨a, cap, ev, ha⟩ := h.files
  rw [ev] at c1
  have KEY : Hid (∀ n, FiR nu q x n → n = -1 ∧ fiE q x = 172 ∧ rdV q x = [] ∨ ∃ f : Nat, n = (f : Int) ∧ f < nu.length ∧ fiE q x = 0 ∧ ∃ g b c, a = some ⟨g, 0, none⟩ ∧ w.cell? ⟨g, f * 2, none⟩ = some (.slice b (rdV q x).length c) ∧ RdB w (.slice b (rdV q x).length c) (rdV q x)) := fun n hn => by
    rcases hn with ⟨e, hn⟩ | ⟨f, e, hf, en, hm⟩
    · have E1 : fiE q x = 172 := by unfold fiE; rw [if_neg e0, if_neg hn]
      exact .inl ⟨e, E1, by unfold rdV; rw [if_neg (by rw [E1]; decide)]⟩
    · have E1 : fiE q x = 0 := by unfold fiE; rw [if_neg e0, if_pos hm]
      have E2 : rdV q x = q.fb nu[f]! := by unfold rdV; rw [if_pos E1, en]
      obtain ⟨g, e1, k1, _, k3, b, c, eb⟩ := ha f hf
      refine .inr ⟨f, e, hf, E1, g, b, c, e1, ?_, ?_⟩
      · rw [E2, ← eb]; exact k1
      · rw [E2, ← eb]; exact k3.rd
  clear h hr ok hi hst e0 ha ev
  generalize sb x = sx at *
  generalize nu.length = m at *
  go_enter Try.func36, Try.ntmps36
  go_wp2_with fail
  refine cD.mono ?_
  rintro e w' ⟨rfl, rfl⟩
  clear cD
  go_wp2_with fail
  refine cF.mono ?_
  rintro e w' ⟨n, rfl, hn, rfl⟩
  clear cF
  rcases KEY.out n hn with ⟨rfl, e1, e2⟩ | ⟨f, rfl, hf, e1, g, b, c, rfl, k1, k3⟩
  · have E : Hid (fiE q x = 172 ∧ rdV q x = []) := ⟨e1, e2⟩
    clear KEY hn e1 e2
    go_wp2
    go_ret2
    exact ⟨none, 0, by rw [E.out.1, E.out.2]; rfl, by rw [E.out.2]; exact ⟨none, 0, rfl, Nat.le_refl _, fun i hi => absurd hi (Nat.not_lt_zero _)⟩, rfl⟩
  · have E : Hid (fiE q x = 0) := e1
    have K3 : Hid (RdB w' (.slice b (rdV q x).length c) (rdV q x)) := k3
    have hfi : (f : Int) < (m : Int) := by omega
    clear KEY hn k3 e1
    go_wp2
    go_ret2
    exact ⟨b, c, by rw [E.out]; rfl, K3.out, rfl⟩
theorem rstop_r (h : RfM w p q nu r L fv nv sv cv G B) (n : Int) : Calls Try.prog 51 #[.pointer (some ⟨p, 0, none⟩), .int .i64 n] w fun e w' => e = .returned (.int .i64 (stE q n)) ∧ RfM w' p (q.stop n) nu r L fv nv sv cv G B ∧ Kf (fun k => k = p) w w' := by
  have cD := rdown_r h
  obtain ⟨⟨_, _, _, _, _, _, c6⟩, fz⟩ := h.cells
  have f6 := fz 6
  have hb := cell_lt c6
  by_cases e0 : q.lf = 0
  · have E : stE q n = 174 := by unfold stE; rw [if_pos e0]
    have X : Hid (RfM w p (q.stop n) nu r L fv nv sv cv G B) := by unfold Hid Dq.stop; rw [E]; exact h
    rw [E]
    rw [decide_eq_true e0] at cD
    clear h e0 E fz
    go_enter Try.func51, Try.ntmps51
    go_wp2_with fail
    refine cD.mono ?_
    rintro e w' ⟨rfl, rfl⟩
    go_wp2
    go_ret
    exact ⟨rfl, X.out, Kf.refl _ _⟩
  rw [decide_eq_false e0] at cD
  by_cases hn : n < 0
  · have E : stE q n = 1 := by unfold stE; rw [if_neg e0, if_pos hn]
    have X : Hid (RfM w p (q.stop n) nu r L fv nv sv cv G B) := by unfold Hid Dq.stop; rw [E]; exact h
    rw [E]
    clear h e0 E fz
    go_enter Try.func51, Try.ntmps51
    go_wp2_with fail
    refine cD.mono ?_
    rintro e w' ⟨rfl, rfl⟩
    go_wp2
    go_ret
    exact ⟨rfl, X.out, Kf.refl _ _⟩
  · have E : stE q n = 0 := by unfold stE; rw [if_neg e0, if_neg hn]
    have X : Hid (RfM (w.setCell ⟨p, 6, none⟩ (.int .i64 n)) p (q.stop n) nu r L fv nv sv cv G B ∧ Kf (fun k => k = p) w (w.setCell ⟨p, 6, none⟩ (.int .i64 n))) := by
      have e : q.stop n = { q with lf := n } := by unfold Dq.stop; rw [if_pos E]
      rw [e]
      refine ⟨h.mvP (fun k _ hk => ?_) rfl rfl ?_, kb_set (Kf.refl _ _) _ _⟩
      · rw [Below.heap_setCell _ _ _ _ hk]
      · rw [heap_set0 h.blk]; rfl
    rw [E]
    clear h e0 E fz
    go_enter Try.func51, Try.ntmps51
    go_wp2_with fail
    refine cD.mono ?_
    rintro e w' ⟨rfl, rfl⟩
    go_wp2
    go_ret
    exact ⟨rfl, X.out⟩
/-- The bytes of the first names' files, counted. -/
def usR (q : Dq) (l : Rn) (i : Nat) : Nat := ((l.take i).map fun y => (q.fb (num q.nm y.1)).length).sum
theorem usR_succ (q : Dq) {l : Rn} {i : Nat} (hi : i < l.length) : usR q l (i + 1) = usR q l i + (q.fb (num q.nm l[i]!.1)).length := by
  unfold usR
  rw [List.take_succ_eq_append_getElem hi, getElem!_pos l i hi, List.map_append, List.sum_append]
  simp only [List.map_cons, List.map_nil, List.sum_cons, List.sum_nil, Nat.add_zero]
theorem usR_le (ok : q.Ok) (l : Rn) (i : Nat) (hi : i ≤ l.length) : usR q l i ≤ i * 4194304 := by
  induction i with
  | zero => exact Nat.zero_le _
  | succ i ih =>
    have h1 := ok.fb (num q.nm l[i]!.1)
    have h2 := ih (by omega)
    have h3 := usR_succ q (show i < l.length by omega)
    generalize usR q l i = u at *
    omega
theorem usR_all (hr : RelQ nu q r) (hi : q.Inj) : usR q r.nm r.nm.length = usd q (kys q.nm) := by
  have hp : (r.nm.map Prod.fst).Perm (kys q.nm) := (List.perm_ext_iff_of_nodup hr.nm.nodup hi.now.ks).2 hr.nm.ks
  have e : usR q r.nm r.nm.length = usd q (r.nm.map Prod.fst) := by unfold usR usd; rw [List.take_length, List.map_map]; rfl
  rw [e]
  exact (hp.map fun x => (q.fb (num q.nm x)).length).sum_nat
set_option maxHeartbeats 1000000 in
set_option maxRecDepth 100000 in
theorem rused_r (h : RfM w p q nu r L fv nv sv cv G B) (hr : RelQ nu q r) (ok : q.Ok) (hi : q.Inj) (hst : q.st < 100000) : Calls Try.prog 34 #[.pointer (some ⟨p, 0, none⟩)] w fun e w' => e = .returned (.int .i64 (usdO q : Int)) ∧ Gb w w' := by
  have hl : r.nm.length ≤ 100000 := by have := hr.nm.len hi.now.ks; have := ok.nmL; omega
  have CD : Hid (∀ W, Gb w W → Calls Try.prog 35 #[.pointer (some ⟨p, 0, none⟩)] W fun e w' => e = .returned (.bool (decide (q.lf = 0))) ∧ w' = W) := fun W g => rdown_r (h.g g)
  obtain ⟨a, cap, ev, _, _, ha⟩ := h.nms.at_
  obtain ⟨af, capf, ef, hf⟩ := h.files
  have CC : Hid (∀ W, Gb w W → W.cell? ⟨p, 1, none⟩ = some fv ∧ W.cell? ⟨p, 2, none⟩ = some nv ∧ p < W.heap.size) := fun W g => by
    have X := h.g g
    exact ⟨X.cells.1.2.1, X.cells.1.2.2.1, X.lt⟩
  rw [ev, ef] at CC
  have A : Hid (∀ i, i < r.nm.length → ∃ g, a = some ⟨g, 0, none⟩ ∧ ∃ f : Nat, w.cell? ⟨g, i * 2 + 1, none⟩ = some (.int .i64 (f : Int)) ∧ f < nu.length ∧ ∃ gf b c, af = some ⟨gf, 0, none⟩ ∧ w.cell? ⟨gf, f * 2, none⟩ = some (.slice b (q.fb (num q.nm r.nm[i]!.1)).length c)) := fun i hi => by
    obtain ⟨g, e1, _, k2⟩ := ha i hi
    have hm : r.nm[i]! ∈ r.nm := by rw [getElem!_pos r.nm i hi]; exact List.getElem_mem hi
    obtain ⟨h1, h2⟩ := hr.nm.at_ _ hm
    obtain ⟨gf, e2, k3, _, _, b, c, eb⟩ := hf _ h1
    refine ⟨g, e1, _, k2, h1, gf, b, c, e2, ?_⟩
    rw [← h2, ← eb]; exact k3
  have UA := usR_all hr hi
  have US : Hid (∀ i, i < r.nm.length → usR q r.nm (i + 1) = usR q r.nm i + (q.fb (num q.nm r.nm[i]!.1)).length ∧ usR q r.nm i ≤ 419430400000 ∧ (q.fb (num q.nm r.nm[i]!.1)).length ≤ 4194304) := fun i hi => ⟨usR_succ q hi, by have := usR_le ok r.nm i (by omega); omega, ok.fb _⟩
  by_cases e0 : q.lf = 0
  · have E : usdO q = 0 := by unfold usdO; rw [if_pos e0]
    rw [E]
    have cD := CD.out w (Below.refl _ _)
    rw [decide_eq_true e0] at cD
    obtain ⟨c1, c2, _⟩ := CC.out w (Below.refl _ _)
    generalize r.nm.length = n at *
    clear h hr ok hi hst e0 ev ef ha hf UA US A CC CD E
    go_enter Try.func34, Try.ntmps34
    go_wp2
    refine wp_loop_rounds 1 ?_
    rw [rounds_succ]
    by_cases hn : 0 < n
    · have hni : (0 : Int) < (n : Int) := by omega
      go_wp2_with fail
      refine cD.mono ?_
      rintro e w' ⟨rfl, rfl⟩
      go_wp2
      go_ret
      exact ⟨rfl, Below.refl _ _⟩
    · obtain rfl : n = 0 := by omega
      go_wp2
      go_ret
      exact ⟨rfl, Below.refl _ _⟩
  · have E : usdO q = usR q r.nm r.nm.length := by unfold usdO; rw [if_neg e0, UA]
    rw [E]
    have CD : Hid (∀ W, Gb w W → Calls Try.prog 35 #[.pointer (some ⟨p, 0, none⟩)] W fun e w' => e = .returned (.bool false) ∧ w' = W) := fun W g => by
      have := CD.out W g
      rw [decide_eq_false e0] at this; exact this
    obtain ⟨n, hN⟩ : ∃ n, n = r.nm.length := ⟨_, rfl⟩
    have N : Hid (n = r.nm.length) := hN
    rw [← hN] at CC hl ⊢
    obtain ⟨c1, c2, _⟩ := CC.out w (Below.refl _ _)
    have z0 : usR q r.nm 0 = 0 := by simp [usR]
    clear h hr ok hi hst e0 ev ef ha hf UA E hN
    go_enter Try.func34, Try.ntmps34
    go_wp2
    go_loopw [3, 4] (fun ov iv W => ∃ i : Nat, iv = .int .i64 (i : Int) ∧ ov = .int .i64 (usR q r.nm i : Int) ∧ i ≤ n ∧ Hid (Gb w W)) (fun _ iv _ => n - (intOf iv).toNat)
    case atStart => exact ⟨0, rfl, by rw [z0]; rfl, Nat.zero_le _, Below.refl _ _⟩
    case round =>
      obtain ⟨i, rfl, rfl, hi, X⟩ := hrel
      obtain ⟨d1, d2, d3⟩ := CC.out _ X.out
      by_cases hin : i < n
      · have hii : (i : Int) < (n : Int) := by omega
        have hil : i < r.nm.length := by have := N.out; omega
        obtain ⟨g, rfl, f, k1, hfn, gf, b, c, rfl, k2⟩ := A.out i hil
        have k1 := gb_keeps X.out k1
        have k2 := gb_keeps X.out k2
        obtain ⟨u1, u2, u3⟩ := US.out i hil
        have hfi : (f : Int) < (nu.length : Int) := by omega
        have cD := CD.out _ X.out
        have UU : Hid (usR q r.nm (i + 1) = usR q r.nm i + (q.fb (num q.nm r.nm[i]!.1)).length) := u1
        generalize (q.fb (num q.nm r.nm[i]!.1)).length = y at *
        generalize hu : usR q r.nm i = u at *
        generalize nu.length = nl at *
        clear A US CC CD u1 z0 c1 c2
        go_wp2_with fail
        refine cD.mono ?_
        rintro e w' ⟨rfl, rfl⟩
        clear cD
        go_wp2
        go_quiet (fail)
        go_wp2
        exact ⟨⟨i + 1, by simp, by rw [UU.out]; simp, hin, below_drewN X.out _⟩, by simp [intOf]; omega⟩
      · have ei : i = n := by omega
        subst ei
        have hii : ¬ (i : Int) < (i : Int) := by omega
        clear A US CC CD
        go_wp2
        go_ret
        exact ⟨rfl, X.out⟩
end Go.Proofs.Ytkagnoinifffdaa
