/- The law's turned. -/
import Derived.Test.YteaeaoekaoedoaaFTurn
import Derived.Deep.RegionLaw
namespace Go.Proofs.Yteaeaoekaoedoaa
open Go.RowKit Go.Sort Go.Maps Go.Deep

theorem rdi_at {w : World} {a : Option Addr} {n cap : Nat} {l : List Int} (h : RdI w (.slice a n cap) l) {i : Nat} (hi : i < l.length) : ∃ b o, a = some ⟨b, o, none⟩ ∧ w.cell? ⟨b, o + i, none⟩ = some (.int .i64 l[i]!) := by
  obtain ⟨_, _, e, h⟩ := h
  cases e
  exact h i hi
theorem RdX.drew {w W : World} {v : Value} {rs : List Rw} (h : RdX w W v rs) : RdX w W.drew v rs := h
theorem two_new (w : World) (x y : Value) (t : TypeId) : ∀ j u, [x, y][j]? = some u → (w.alloc (.cells #[x, y] t)).cell? ((⟨w.heap.size, 0, none⟩ : Addr).add j) = some u := by
  intro j u hj
  rw [Addr.add_lit]
  rcases j with _ | _ | j <;> simp at hj
  · subst hj; simp [go_sem]
  · subst hj; simp [go_sem]
/-- An append in a region that draws, by its run. -/
theorem step_run {ops : Array Oper} {o : Oper} {a : Act} {w : World} {K : Act → World → Prop} {Q : Exit → Act → World → Prop} {E : Prop} (hgd : o.guard = none) (s x : Operand) (t : TypeId)
    (ho : o.op = .call { callee := .builtin .append, args := #[s, x], argTypes := #[t, t] }) (h : ∃ v1 v2 v' w', a.eval s = v1 ∧ a.eval x = v2 ∧ (Builtin.append_ #[t, t] o.type #[v1, v2]).run Try.prog w = .ok v' w' ∧ K (a.put o.dst v') w') :
    if Region.wanted o (yielded ops a.tmps) = true then Oper.wp Try.prog o a w K Q else E := by
  obtain ⟨v1, v2, v', w', hs, hx, hr, h⟩ := h
  have hw : Region.wanted o (yielded ops a.tmps) = true := by simp [Region.wanted, hgd]
  rw [if_pos hw]
  unfold Oper.wp execOp
  simp only [ho, resolve, invoke, builtin, Sem.run_bind, Sem.run_pure, Result.andThen_ok, List.map_toArray, List.map_cons, List.map_nil, hs, hx, hr]
  exact h
theorem list_run {ops : Array Oper} {rest : List Oper} {o : Oper} {a : Act} {w w' : World} {Q : Exit → Act → World → Prop} {v1 v2 v' : Value} (hgd : o.guard = none) (s x : Operand) (t : TypeId)
    (ho : o.op = .call { callee := .builtin .append, args := #[s, x], argTypes := #[t, t] }) (hs : a.eval s = v1) (hx : a.eval x = v2) (hr : (Builtin.append_ #[t, t] o.type #[v1, v2]).run Try.prog w = .ok v' w') (h : wpList Try.prog ops Q rest (a.put o.dst v') w') :
    wpList Try.prog ops Q (o :: rest) a w := by
  refine wpList_plain hgd fun K hK => ?_
  unfold Oper.wp execOp
  simp only [ho, resolve, invoke, builtin, Sem.run_bind, Sem.run_pure, Result.andThen_ok, List.map_toArray, List.map_cons, List.map_nil, hs, hx, hr]
  exact hK _ _ h
/-- What is laid together so far, what is left. -/
structure To (w W : World) (rv ov : Value) (os rest : List Rw) : Prop where
  rst : RdX w W rv rest
  out : ∃ xs, W.ownsRow w.heap.size 52 2 ov os.length xs ∧ ∀ i, i < os.length → xs[i * 2]? = some (.int .i64 os[i]!.1) ∧ ∃ u, xs[i * 2 + 1]? = some u ∧ RdI w u os[i]!.2
  ne : ∀ g, ov.ownBlock = some g → ∀ b o n c, rv = .slice (some ⟨b, o, none⟩) n c → 0 < n → b ≠ g
  gb : Gb w W
theorem To.push {w W w2 : World} {rb ro n cap : Nat} {ov v' : Value} {os rest : List Rw} {r : Rw} {u : Value} {xs : List Value} (h : To w W (.slice (some ⟨rb, ro, none⟩) n cap) ov os rest) (hn : 0 < n) (hl : rest.length = n)
    (ho1 : W.ownsRow w.heap.size 52 2 ov os.length xs) (ho2 : ∀ i, i < os.length → xs[i * 2]? = some (.int .i64 os[i]!.1) ∧ ∃ u, xs[i * 2 + 1]? = some u ∧ RdI w u os[i]!.2) (hu : RdI w u r.2)
    (hr : w2.ownsRow w.heap.size 52 2 v' (os.length + 1) (xs ++ [.int .i64 r.1, u])) (hg : (W.alloc (.cells #[.int .i64 r.1, u] 52)).grownBy w2 ov.ownBlock)
    (hloc : v'.ownBlock = ov.ownBlock ∨ v'.ownBlock = some (W.alloc (.cells #[.int .i64 r.1, u] 52)).heap.size) : To w w2 (.slice (some ⟨rb, ro, none⟩) n cap) v' (os ++ [r]) rest := by
  have hxl : xs.length = os.length * 2 := ho1.1
  have c0 := h.rst.there (j := 0) (by omega)
  have hrb : rb < W.heap.size := World.block_lt_of_cell? W _ c0
  have hne : ∀ g, ov.ownBlock = some g → rb ≠ g := fun g e => h.ne g e _ _ _ _ rfl hn
  refine ⟨h.rst.cells (fun j => ?_), ⟨_, by rw [List.length_append]; exact hr, fun i hi => ?_⟩, fun g e b o n' c' e2 _ => ?_, ?_⟩
  · have h1 := hg.block rb (by rw [World.size_alloc]; omega) (fun e => hne rb e.symm rfl)
    refine (World.cell?_of_block (a := ⟨rb, j, none⟩) h1).trans ?_
    exact World.cell?_of_block (a := ⟨rb, j, none⟩) (Below.heap_alloc W _ rb hrb)
  · rw [List.length_append] at hi
    by_cases e : i < os.length
    · rw [getElem!_pos (os ++ [r]) i (by rw [List.length_append]; exact hi), List.getElem_append_left e, ← getElem!_pos os i e, List.getElem?_append_left (by omega), List.getElem?_append_left (by omega)]
      exact ho2 i e
    · have e' : i = os.length := by simp at hi; omega
      subst e'
      have e2 : (os ++ [r])[os.length]! = r := by rw [getElem!_pos _ _ (by simp)]; simp
      rw [e2, List.getElem?_append_right (by omega), List.getElem?_append_right (by omega), hxl]
      refine ⟨by simp, u, ?_, hu⟩
      rw [show os.length * 2 + 1 - os.length * 2 = 1 by omega]; rfl
  · cases e2
    rcases hloc with h1 | h1
    · exact hne g (h1.symm.trans e)
    · rw [h1, World.size_alloc] at e
      injection e with e
      omega
  · refine below_grown (gb_alloc h.gb _) hg (fun g e => (World.ownsRow.lt ho1 g e).1) (by rw [World.size_alloc]; have := h.gb.size; omega)
theorem To.cut {w W w3 : World} {rv ov v3 : Value} {os rest rest' : List Rw} {g c n : Nat} (h : To w W rv ov os rest) (r1 : RdX w w3 v3 rest') (r2 : W.drew.grownBy w3 none) (r3 : v3 = .slice (some ⟨g, 0, none⟩) n c) (r4 : W.drew.heap.size ≤ g) : To w w3 v3 ov os rest' := by
  obtain ⟨xs, h1, h2⟩ := h.out
  have r5 : W.heap.size ≤ g := r4
  have r2' : W.grownBy w3 none := ⟨r2.os, r2.tape, r2.output, r2.size, r2.block⟩
  refine ⟨r1, ⟨xs, World.ownsRow.kept h1 r2' (by cases ov.ownBlock <;> simp), h2⟩, fun g' e b o n' c' e2 _ => ?_, ?_⟩
  · rw [r3] at e2
    cases e2
    have := (World.ownsRow.lt h1 g' e).2
    omega
  · exact below_grown h.gb r2' (fun k e => by cases e) h.gb.size
theorem perm_cut {os rest rs : List Rw} {k : Nat} (h : (os ++ rest).Perm rs) (hk : k < rest.length) : (os ++ [rest[k]!] ++ rest.eraseIdx k).Perm rs := by
  refine List.Perm.trans ?_ h
  rw [List.append_assoc, getElem!_pos rest k hk]
  refine List.Perm.append_left os ?_
  have e : rest = rest.take k ++ rest[k] :: rest.drop (k + 1) := by rw [← List.drop_eq_getElem_cons hk, List.take_append_drop]
  rw [List.eraseIdx_eq_take_drop_succ]
  exact (List.perm_middle (a := rest[k]) (l₁ := rest.take k) (l₂ := rest.drop (k + 1))).symm.trans (by rw [← e])
/-- The last row is cut out. -/
theorem To.last {w W : World} {rb ro n cap k : Nat} {ov : Value} {os rest : List Rw} (h : To w W (.slice (some ⟨rb, ro, none⟩) n cap) ov os rest) (hl : rest.length = n) (hk : k + 1 = n) : To w W.drew (.slice (some ⟨rb, ro, none⟩) k k) ov os (rest.eraseIdx k) := by
  have hel : (rest.eraseIdx k).length = k := by rw [List.length_eraseIdx_of_lt (by omega)]; omega
  refine ⟨⟨_, k, by rw [hel], by omega, fun i hi => ?_⟩, h.out, fun g e b o n' c' e2 h0 => ?_, h.gb.drew⟩
  · rw [hel] at hi
    obtain ⟨a, cap', e, _, h'⟩ := h.rst
    cases e
    obtain ⟨b, o, u, e1, e2, e3, e4⟩ := h' i (by omega)
    cases e1
    rw [erase_get (by omega) (by omega), if_pos hi]
    exact ⟨rb, ro, u, rfl, e2, e3, e4⟩
  · cases e2
    exact h.ne g e _ _ _ _ rfl (by omega)
theorem app_any (W : World) (a : Option Addr) (c : Nat) : (Builtin.append_ #[22, 22] 22 #[.slice none 0 0, .slice a 0 c]).run Try.prog W = .ok (.slice none 0 0) W := by
  obtain ⟨i0, hi, hz0, hz1, hz2⟩ := info_partsR
  cases a with
  | none => exact run_append_nothing W 22 22 22 52 i0 Try.underlying22 hi none 0 0 (Nat.le_refl _) _ (Src.ofNil W Try.underlying22 c)
  | some A => exact run_append_nothing W 22 22 22 52 i0 Try.underlying22 hi none 0 0 (Nat.le_refl _) _ (Src.ofSlice W Try.underlying22 A 0 c [] (by simp) (fun j u hj => by simp at hj) (fun u hu => by simp at hu))
theorem app_none (W : World) (v : Option Addr) (k : Nat) (A : Addr) (c : Nat) : (Builtin.append_ #[22, 22] 22 #[.slice v k k, .slice (some A) 0 c]).run Try.prog W = .ok (.slice v k k) W := by
  obtain ⟨i0, hi, hz0, hz1, hz2⟩ := info_partsR
  exact run_append_nothing W 22 22 22 52 i0 Try.underlying22 hi v k k (Nat.le_refl _) _ (Src.ofSlice W Try.underlying22 A 0 c [] (by simp) (fun j u hj => by simp at hj) (fun u hu => by simp at hu))
theorem len_cut {os rest : List Rw} {k q N0 : Nat} (h : os.length + rest.length = N0 ∧ os.length = q) (hk : k < rest.length) : (os ++ [rest[k]!]).length + (rest.eraseIdx k).length = N0 ∧ (os ++ [rest[k]!]).length = q + 1 := by
  rw [List.length_append, List.length_eraseIdx_of_lt hk, List.length_singleton]
  omega

set_option maxHeartbeats 2000000 in
set_option maxRecDepth 100000 in
theorem turned_c {w : World} {v d : Value} {rs : List Rw} {od : List Int} (hv : RdX w w v rs) (hd : RdI w d od) (hN : rs.length ≤ 2000) (hm : od.length ≤ 65536) :
    Calls Try.prog 7 #[v, d] w fun e w' => ∃ v' os, e = .returned v' ∧ RdX w w' v' os ∧ os.Perm rs ∧ Gb w w' := by
  have O : Hid (RdI w d od) := hd
  obtain ⟨ad, cd, rfl, _⟩ := hd
  obtain ⟨m, hM⟩ : ∃ m, m = od.length := ⟨_, rfl⟩
  have M : Hid (m = od.length) := hM
  rw [← hM] at O hm ⊢
  clear hM
  obtain ⟨i0, hi, hz0, hz1, hz2⟩ := info_partsR
  have II : Hid (Try.prog.info? 52 = some i0 ∧ i0.zero = some (.agg #[.int .i64 0, .slice none 0 0]) ∧ i0.size = 2 ∧ i0.bytes = 32) := ⟨hi, hz0, hz1, hz2⟩
  clear hi hz0 hz1 hz2
  by_cases h0 : 0 < rs.length
  · have XV : Hid (RdX w w v rs) := hv
    obtain ⟨a, cap, rfl, hcap, ha⟩ := hv
    obtain ⟨b, o, ea⟩ : ∃ b o, a = some ⟨b, o, none⟩ := by obtain ⟨b', o', _, e, _⟩ := ha 0 h0; exact ⟨b', o', e⟩
    subst ea
    clear ha
    obtain ⟨N0, hN0⟩ : ∃ N0, N0 = rs.length := ⟨_, rfl⟩
    have NH : Hid (N0 = rs.length) := hN0
    rw [← hN0] at XV hcap h0 hN ⊢
    clear hN0
    have hnews : ∀ j u, ((List.range (N0 * 2)).map (cellv w b o))[j]? = some u → w.cell? ((⟨b, o, none⟩ : Addr).add j) = some u := fun j u hj => by
      obtain ⟨h1, rfl⟩ := range_some hj
      rw [Addr.add_lit]; exact XV.out.there h1
    have hone : ∀ u ∈ (List.range (N0 * 2)).map (cellv w b o), u.oneCell' = true := fun u hu => by
      obtain ⟨j, hj, rfl⟩ := List.mem_map.1 hu
      have hj' := List.mem_range.1 hj
      obtain ⟨h1, h2⟩ := XV.out.at (i := j / 2) (by have := NH.out; omega)
      rcases two_parts j with e | e
      · rw [e, h1]; rfl
      · rw [e]
        obtain ⟨p, c, e3, _⟩ := h2
        rw [e3]; rfl
    have START : Hid (∀ v' w2, w2.ownsRow w.heap.size 52 2 v' (0 + N0) ([] ++ (List.range (N0 * 2)).map (cellv w b o)) → w.grownBy w2 none → To w w2 v' (.slice none 0 0) [] rs) := fun v' w2 hr hg => by
      rw [Nat.zero_add, List.nil_append] at hr
      refine ⟨rdx_own (by rw [← NH.out]; exact hr) (fun i hi => ?_), ⟨[], World.ownsRow_nil _ _ _ _, fun i hi => absurd hi (Nat.not_lt_zero _)⟩, fun g e => by simp [Value.ownBlock] at e, below_grown (Below.refl _ _) hg (fun k e => by cases e) (Nat.le_refl _)⟩
      obtain ⟨h1, h2⟩ := XV.out.at hi
      exact ⟨by rw [range_get _ (by have := NH.out; omega), h1], _, range_get _ (by have := NH.out; omega), h2⟩
    have II' := II.out
    go_enter Try.func7, Try.ntmps7
    go_wp2_with (first
      | (at_builtin; refine wpList_append_own_at _ rfl _ _ 22 rfl w.heap.size 52 i0 (.agg #[.int .i64 0, .slice none 0 0]) 2 32 Try.underlying22 II'.1 II'.2.1 II'.2.2.1 II'.2.2.2 rfl (by decide) (.slice none 0 0) 0 [] rfl (World.ownsRow_nil _ _ _ _) ⟨b, o, none⟩ N0 cap ((List.range (N0 * 2)).map (cellv w b o)) rfl (by simp) hnews hone (by unfold maxLen; omega) (by omega) (Nat.le_refl _) ?_; intro v' w2 hown' hgrow2 hnil2 hloc)
      | go_in)
    have X0 := START.out v' w2 hown' hgrow2
    clear hown' hgrow2 hnil2 hloc hnews hone START XV
    go_loopw [5, 6, 7] (fun rv ov iv W => ∃ (q : Nat) (os rest : List Rw), iv = .int .i64 (q : Int) ∧ Hid (To w W rv ov os rest) ∧ Hid ((os ++ rest).Perm rs) ∧ Hid (os.length + rest.length = N0 ∧ os.length = q)) (fun _ _ iv _ => N0 - (intOf iv).toNat)
    case atStart => exact ⟨0, [], rs, rfl, X0, by simp [Hid], ⟨by simp [NH.out], rfl⟩⟩
    case round =>
      clear X0
      obtain ⟨q, os, rest, rfl, X, PM, LEN⟩ := hrel
      by_cases hr0 : 0 < rest.length
      · have XR : Hid (RdX w wr u5 rest) := X.out.rst
        obtain ⟨ra, cap', er, hcap', hra⟩ := X.out.rst
        obtain ⟨rb, ro, e1⟩ : ∃ rb ro, ra = some ⟨rb, ro, none⟩ := by obtain ⟨b', o', _, e, _⟩ := hra 0 hr0; exact ⟨b', o', e⟩
        subst e1
        obtain ⟨n, hn⟩ : ∃ n, n = rest.length := ⟨_, rfl⟩
        have RL : Hid (rest.length = n) := hn.symm
        rw [← hn] at er hr0 hcap'
        clear hra hcap hn
        obtain ⟨cap, hcc⟩ : ∃ cap, cap = cap' := ⟨_, rfl⟩
        subst hcc
        subst er
        have hn0 : 0 < n := hr0
        have hni : (0 : Int) < (n : Int) := by omega
        have hn2 : n ≤ 2000 := by have := LEN.out; have := RL.out; omega
        have hq2 : q < N0 := by have := LEN.out; have := RL.out; omega
        by_cases hio : q < m
        · have hqi : (q : Int) < (m : Int) := by omega
          obtain ⟨b1, o1, ea, y1⟩ := rdi_at O.out (i := q) (by have := M.out; omega)
          subst ea
          have y0 := gb_keeps X.out.gb y1
          generalize od[q]! = z at *
          clear y1
          by_cases hz : 0 ≤ z
          · have hz' : ¬ z < 0 := by omega
            obtain ⟨k, hk, hkn⟩ : ∃ k : Nat, z.tmod (n : Int) = (k : Int) ∧ k < n := ⟨(z % (n : Int)).toNat, by rw [Int.tmod_eq_emod_of_nonneg hz]; have := Int.emod_nonneg z (b := (n : Int)) (by omega); omega, by have := Int.emod_nonneg z (b := (n : Int)) (by omega); have := Int.emod_lt_of_pos z (b := (n : Int)) (by omega); omega⟩
            have hki : (k : Int) < (n : Int) := by omega
            have hkw : IntKind.i64.wrap (k : Int) = (k : Int) := by rw [IntKind.wrap_i64]; omega

            obtain ⟨xs, ho1, ho2⟩ := X.out.out
            have hro := ho1
            have hx := XR.out.at (i := k) (by have := RL.out; omega)
            have c1 := XR.out.there (j := k * 2) (by omega)
            have c2 := XR.out.there (j := k * 2 + 1) (by omega)
            rw [← Nat.add_assoc] at c2
            rw [hx.1] at c1
            obtain ⟨pu, cu, nu, eu⟩ : ∃ pu cu nu, cellv wr rb ro (k * 2 + 1) = .slice pu nu cu := by obtain ⟨p, c, e, _⟩ := hx.2; exact ⟨p, c, _, e⟩
            have hxu : Hid (RdI w (.slice pu nu cu) rest[k]!.2) := by unfold Hid; rw [← eu]; exact hx.2
            rw [eu] at c2
            have hw0 := X.out.gb.size
            have hos : os.length ≤ 2000 := by have := LEN.out; omega
            obtain ⟨nv, pv, cv, ev⟩ : ∃ nv pv cv, u6 = .slice pv nv cv := by rcases ho1.2 with ⟨e, _⟩ | ⟨g, c, cur, e, _⟩ <;> exact ⟨_, _, _, e⟩
            subst ev
            have II' := II.out
            have STEP : Hid (∀ v' w2, w2.ownsRow w.heap.size 52 2 v' (os.length + 1) (xs ++ [.int .i64 rest[k]!.1, .slice pu nu cu]) → (wr.alloc (.cells #[.int .i64 rest[k]!.1, .slice pu nu cu] 52)).grownBy w2 (Value.slice pv nv cv).ownBlock → (v'.ownBlock = (Value.slice pv nv cv).ownBlock ∨ v'.ownBlock = some (wr.alloc (.cells #[.int .i64 rest[k]!.1, .slice pu nu cu] 52)).heap.size) → To w w2 (.slice (some ⟨rb, ro, none⟩) n cap) v' (os ++ [rest[k]!]) rest) := fun v' w2 hr hg hl => X.out.push hn0 (by have := RL.out; omega) ho1 ho2 hxu.out hr hg hl
            generalize rest[k]!.1 = x at *
            clear ho1 ho2 hx eu X
            go_wp2_with (first
              | (at_builtin; go_loud (refine wpList_append_own_at _ rfl _ _ 22 rfl w.heap.size 52 i0 (.agg #[.int .i64 0, .slice none 0 0]) 2 32 Try.underlying22 II'.1 II'.2.1 II'.2.2.1 II'.2.2.2 rfl (by decide) (.slice pv nv cv) os.length xs rfl (World.ownsRow.alloc hro _) ⟨wr.heap.size, 0, none⟩ 1 1 [.int .i64 x, .slice pu nu cu] rfl rfl (two_new _ _ _ _) (by simp [Value.oneCell']) (by unfold maxLen; omega) (by omega) (by rw [World.size_alloc]; omega) ?_); intro v' w2 hown' hgrow2 hnil2 hloc)
              | go_in)
            have X2 := STEP.out v' w2 hown' hgrow2 hloc
            have X2H : Hid (To w w2 (.slice (some ⟨rb, ro, none⟩) n cap) v' (os ++ [rest[k]!]) rest) := X2
            clear hown' hgrow2 hnil2 hloc hro STEP X2
            obtain ⟨K1, hK1⟩ : ∃ K1, K1 = k + 1 := ⟨_, rfl⟩
            have hw1 : IntKind.i64.wrap ((k : Int) + 1) = (K1 : Int) := by rw [IntKind.wrap_i64]; omega
            have hkc : k ≤ cap := by omega
            have hkci : (k : Int) ≤ (cap : Int) := by omega
            have hT : ((K1 : Nat) : Int).toNat = K1 := Int.toNat_natCast K1
            have hK0 : (0 : Int) ≤ (K1 : Int) := by omega
            have hKn : (K1 : Int) ≤ (n : Int) := by omega
            have KH : Hid (K1 = k + 1) := hK1
            have PM3 : Hid ((os ++ [rest[k]!] ++ rest.eraseIdx k).Perm rs) := perm_cut PM.out (by have := RL.out; omega)
            have LEN3 : Hid ((os ++ [rest[k]!]).length + (rest.eraseIdx k).length = N0 ∧ (os ++ [rest[k]!]).length = q + 1) := len_cut LEN.out (by have := RL.out; omega)
            have RLk : Hid (k < n) := hkn
            clear hkn
            by_cases hmid : K1 < n
            · obtain ⟨v3, w3, hrun, r1, r2, g3, c3, r3, r4⟩ := cut_mid (k := k) (X2H.out.rst.drew) (by have := KH.out; omega) hn2 (cap - K1)
              rw [← KH.out] at hrun
              have X3 : To w w3 v3 v' (os ++ [rest[k]!]) (rest.eraseIdx k) := X2H.out.cut r1 r2 r3 r4
              subst r3
              have hcne : ¬ cap = K1 := by omega
              clear X2H r1 r2 r4 hK1
              go_wp2
              go_region_law (refine step_run (by rfl) _ _ _ (by rfl) ⟨.slice (some ⟨rb, ro, none⟩) k k, .slice (some ⟨rb, ro + K1 * 2, none⟩) (n - K1) (cap - K1), _, _, (by go_simp), (by go_simp), hrun, ?_⟩)
              all_goals
                go_wp2
                exact ⟨⟨q + 1, _, _, by go_num, X3, PM3.out, LEN3.out⟩, by simp [intOf]; omega⟩
            · have hke : K1 = n := by omega
              have X3 : To w w2.drew (.slice (some ⟨rb, ro, none⟩) k k) v' (os ++ [rest[k]!]) (rest.eraseIdx k) := X2H.out.last RL.out (by have := KH.out; omega)
              have hap := fun A c => app_none w2.drew (some ⟨rb, ro, none⟩) k A c
              have hnn : n - n = 0 := Nat.sub_self n
              clear X2H hmid hK1
              subst hke
              by_cases hcn : cap = K1
              · subst hcn
                have hap2 := hap ⟨rb, ro, none⟩ 0
                clear hap
                go_wp2
                go_region_law (refine step_run (by rfl) _ _ _ (by rfl) ⟨.slice (some ⟨rb, ro, none⟩) k k, .slice (some ⟨rb, ro, none⟩) 0 0, _, _, (by go_simp), (by go_simp), hap2, ?_⟩)
                all_goals
                  go_wp2
                  exact ⟨⟨q + 1, _, _, by go_num, X3, PM3.out, LEN3.out⟩, by simp [intOf]; omega⟩
              · have hap2 := hap ⟨rb, ro + K1 * 2, none⟩ (cap - K1)
                clear hap
                go_wp2
                go_region_law (refine step_run (by rfl) _ _ _ (by rfl) ⟨.slice (some ⟨rb, ro, none⟩) k k, .slice (some ⟨rb, ro + K1 * 2, none⟩) 0 (cap - K1), _, _, (by go_simp), (by go_simp), hap2, ?_⟩)
                all_goals
                  go_wp2
                  exact ⟨⟨q + 1, _, _, by go_num, X3, PM3.out, LEN3.out⟩, by simp [intOf]; omega⟩
          · have hz' : z < 0 := by omega

            have hx := XR.out.at (i := 0) (by have := RL.out; omega)
            simp only [Nat.zero_mul, Nat.zero_add] at hx
            obtain ⟨xs, ho1, ho2⟩ := X.out.out
            have hro := ho1
            have c1 := XR.out.there (j := 0) (by omega)
            have c2 := XR.out.there (j := 1) (by omega)
            rw [Nat.add_zero] at c1
            rw [hx.1] at c1
            obtain ⟨pu, cu, nu, eu⟩ : ∃ pu cu nu, cellv wr rb ro (1) = .slice pu nu cu := by obtain ⟨p, c, e, _⟩ := hx.2; exact ⟨p, c, _, e⟩
            have hxu : Hid (RdI w (.slice pu nu cu) rest[0]!.2) := by unfold Hid; rw [← eu]; exact hx.2
            rw [eu] at c2
            have hw0 := X.out.gb.size
            have hos : os.length ≤ 2000 := by have := LEN.out; omega
            obtain ⟨nv, pv, cv, ev⟩ : ∃ nv pv cv, u6 = .slice pv nv cv := by rcases ho1.2 with ⟨e, _⟩ | ⟨g, c, cur, e, _⟩ <;> exact ⟨_, _, _, e⟩
            subst ev
            have II' := II.out
            have STEP : Hid (∀ v' w2, w2.ownsRow w.heap.size 52 2 v' (os.length + 1) (xs ++ [.int .i64 rest[0]!.1, .slice pu nu cu]) → (wr.alloc (.cells #[.int .i64 rest[0]!.1, .slice pu nu cu] 52)).grownBy w2 (Value.slice pv nv cv).ownBlock → (v'.ownBlock = (Value.slice pv nv cv).ownBlock ∨ v'.ownBlock = some (wr.alloc (.cells #[.int .i64 rest[0]!.1, .slice pu nu cu] 52)).heap.size) → To w w2 (.slice (some ⟨rb, ro, none⟩) n cap) v' (os ++ [rest[0]!]) rest) := fun v' w2 hr hg hl => X.out.push hn0 (by have := RL.out; omega) ho1 ho2 hxu.out hr hg hl
            generalize rest[0]!.1 = x at *
            clear ho1 ho2 hx eu X
            go_wp2_with (first
              | (at_builtin; go_loud (refine wpList_append_own_at _ rfl _ _ 22 rfl w.heap.size 52 i0 (.agg #[.int .i64 0, .slice none 0 0]) 2 32 Try.underlying22 II'.1 II'.2.1 II'.2.2.1 II'.2.2.2 rfl (by decide) (.slice pv nv cv) os.length xs rfl (World.ownsRow.alloc hro _) ⟨wr.heap.size, 0, none⟩ 1 1 [.int .i64 x, .slice pu nu cu] rfl rfl (two_new _ _ _ _) (by simp [Value.oneCell']) (by unfold maxLen; omega) (by omega) (by rw [World.size_alloc]; omega) ?_); intro v' w2 hown' hgrow2 hnil2 hloc)
              | go_in)
            have X2 := STEP.out v' w2 hown' hgrow2 hloc
            have X2H : Hid (To w w2 (.slice (some ⟨rb, ro, none⟩) n cap) v' (os ++ [rest[0]!]) rest) := X2
            clear hown' hgrow2 hnil2 hloc hro STEP X2
            obtain ⟨K1, hK1⟩ : ∃ K1, K1 = 0 + 1 := ⟨_, rfl⟩
            have hw1 : IntKind.i64.wrap 1 = (K1 : Int) := by rw [IntKind.wrap_i64]; omega
            have hT : ((K1 : Nat) : Int).toNat = K1 := Int.toNat_natCast K1
            have hK0 : (0 : Int) ≤ (K1 : Int) := by omega
            have hKn : (K1 : Int) ≤ (n : Int) := by omega
            have KH : Hid (K1 = 0 + 1) := hK1
            have PM3 : Hid ((os ++ [rest[0]!] ++ rest.eraseIdx 0).Perm rs) := perm_cut PM.out (by have := RL.out; omega)
            have LEN3 : Hid ((os ++ [rest[0]!]).length + (rest.eraseIdx 0).length = N0 ∧ (os ++ [rest[0]!]).length = q + 1) := len_cut LEN.out (by have := RL.out; omega)
            by_cases hmid : K1 < n
            · obtain ⟨v3, w3, hrun, r1, r2, g3, c3, r3, r4⟩ := cut_mid (k := 0) (X2H.out.rst.drew) (by have := KH.out; omega) hn2 (cap - K1)
              rw [← KH.out] at hrun
              have X3 : To w w3 v3 v' (os ++ [rest[0]!]) (rest.eraseIdx 0) := X2H.out.cut r1 r2 r3 r4
              subst r3
              have hcne : ¬ cap = K1 := by omega
              clear X2H r1 r2 r4 hK1
              go_wp2
              go_region_law (refine step_run (by rfl) _ _ _ (by rfl) ⟨.slice (some ⟨rb, ro, none⟩) 0 0, .slice (some ⟨rb, ro + K1 * 2, none⟩) (n - K1) (cap - K1), _, _, (by go_simp), (by go_simp), hrun, ?_⟩)
              all_goals
                go_wp2
                exact ⟨⟨q + 1, _, _, by go_num, X3, PM3.out, LEN3.out⟩, by simp [intOf]; omega⟩
            · have hke : K1 = n := by omega
              have X3 : To w w2.drew (.slice (some ⟨rb, ro, none⟩) 0 0) v' (os ++ [rest[0]!]) (rest.eraseIdx 0) := X2H.out.last RL.out (by have := KH.out; omega)
              have hap := fun A c => app_none w2.drew (some ⟨rb, ro, none⟩) 0 A c
              have hnn : n - n = 0 := Nat.sub_self n
              clear X2H hmid hK1
              subst hke
              by_cases hcn : cap = K1
              · subst hcn
                have hap2 := hap ⟨rb, ro, none⟩ 0
                clear hap
                go_wp2
                go_region_law (refine step_run (by rfl) _ _ _ (by rfl) ⟨.slice (some ⟨rb, ro, none⟩) 0 0, .slice (some ⟨rb, ro, none⟩) 0 0, _, _, (by go_simp), (by go_simp), hap2, ?_⟩)
                all_goals
                  go_wp2
                  exact ⟨⟨q + 1, _, _, by go_num, X3, PM3.out, LEN3.out⟩, by simp [intOf]; omega⟩
              · have hap2 := hap ⟨rb, ro + K1 * 2, none⟩ (cap - K1)
                clear hap
                go_wp2
                go_region_law (refine step_run (by rfl) _ _ _ (by rfl) ⟨.slice (some ⟨rb, ro, none⟩) 0 0, .slice (some ⟨rb, ro + K1 * 2, none⟩) 0 (cap - K1), _, _, (by go_simp), (by go_simp), hap2, ?_⟩)
                all_goals
                  go_wp2
                  exact ⟨⟨q + 1, _, _, by go_num, X3, PM3.out, LEN3.out⟩, by simp [intOf]; omega⟩
        · have hqi : ¬ (q : Int) < (m : Int) := by omega

          have hx := XR.out.at (i := 0) (by have := RL.out; omega)
          simp only [Nat.zero_mul, Nat.zero_add] at hx
          obtain ⟨xs, ho1, ho2⟩ := X.out.out
          have hro := ho1
          have c1 := XR.out.there (j := 0) (by omega)
          have c2 := XR.out.there (j := 1) (by omega)
          rw [Nat.add_zero] at c1
          rw [hx.1] at c1
          obtain ⟨pu, cu, nu, eu⟩ : ∃ pu cu nu, cellv wr rb ro (1) = .slice pu nu cu := by obtain ⟨p, c, e, _⟩ := hx.2; exact ⟨p, c, _, e⟩
          have hxu : Hid (RdI w (.slice pu nu cu) rest[0]!.2) := by unfold Hid; rw [← eu]; exact hx.2
          rw [eu] at c2
          have hw0 := X.out.gb.size
          have hos : os.length ≤ 2000 := by have := LEN.out; omega
          obtain ⟨nv, pv, cv, ev⟩ : ∃ nv pv cv, u6 = .slice pv nv cv := by rcases ho1.2 with ⟨e, _⟩ | ⟨g, c, cur, e, _⟩ <;> exact ⟨_, _, _, e⟩
          subst ev
          have II' := II.out
          have STEP : Hid (∀ v' w2, w2.ownsRow w.heap.size 52 2 v' (os.length + 1) (xs ++ [.int .i64 rest[0]!.1, .slice pu nu cu]) → (wr.alloc (.cells #[.int .i64 rest[0]!.1, .slice pu nu cu] 52)).grownBy w2 (Value.slice pv nv cv).ownBlock → (v'.ownBlock = (Value.slice pv nv cv).ownBlock ∨ v'.ownBlock = some (wr.alloc (.cells #[.int .i64 rest[0]!.1, .slice pu nu cu] 52)).heap.size) → To w w2 (.slice (some ⟨rb, ro, none⟩) n cap) v' (os ++ [rest[0]!]) rest) := fun v' w2 hr hg hl => X.out.push hn0 (by have := RL.out; omega) ho1 ho2 hxu.out hr hg hl
          generalize rest[0]!.1 = x at *
          clear ho1 ho2 hx eu X
          go_wp2_with (first
            | (at_builtin; go_loud (refine wpList_append_own_at _ rfl _ _ 22 rfl w.heap.size 52 i0 (.agg #[.int .i64 0, .slice none 0 0]) 2 32 Try.underlying22 II'.1 II'.2.1 II'.2.2.1 II'.2.2.2 rfl (by decide) (.slice pv nv cv) os.length xs rfl (World.ownsRow.alloc hro _) ⟨wr.heap.size, 0, none⟩ 1 1 [.int .i64 x, .slice pu nu cu] rfl rfl (two_new _ _ _ _) (by simp [Value.oneCell']) (by unfold maxLen; omega) (by omega) (by rw [World.size_alloc]; omega) ?_); intro v' w2 hown' hgrow2 hnil2 hloc)
            | go_in)
          have X2 := STEP.out v' w2 hown' hgrow2 hloc
          have X2H : Hid (To w w2 (.slice (some ⟨rb, ro, none⟩) n cap) v' (os ++ [rest[0]!]) rest) := X2
          clear hown' hgrow2 hnil2 hloc hro STEP X2
          obtain ⟨K1, hK1⟩ : ∃ K1, K1 = 0 + 1 := ⟨_, rfl⟩
          have hw1 : IntKind.i64.wrap 1 = (K1 : Int) := by rw [IntKind.wrap_i64]; omega
          have hT : ((K1 : Nat) : Int).toNat = K1 := Int.toNat_natCast K1
          have hK0 : (0 : Int) ≤ (K1 : Int) := by omega
          have hKn : (K1 : Int) ≤ (n : Int) := by omega
          have KH : Hid (K1 = 0 + 1) := hK1
          have PM3 : Hid ((os ++ [rest[0]!] ++ rest.eraseIdx 0).Perm rs) := perm_cut PM.out (by have := RL.out; omega)
          have LEN3 : Hid ((os ++ [rest[0]!]).length + (rest.eraseIdx 0).length = N0 ∧ (os ++ [rest[0]!]).length = q + 1) := len_cut LEN.out (by have := RL.out; omega)
          by_cases hmid : K1 < n
          · obtain ⟨v3, w3, hrun, r1, r2, g3, c3, r3, r4⟩ := cut_mid (k := 0) (X2H.out.rst.drew) (by have := KH.out; omega) hn2 (cap - K1)
            rw [← KH.out] at hrun
            have X3 : To w w3 v3 v' (os ++ [rest[0]!]) (rest.eraseIdx 0) := X2H.out.cut r1 r2 r3 r4
            subst r3
            have hcne : ¬ cap = K1 := by omega
            clear X2H r1 r2 r4 hK1
            go_wp2
            go_region_law (refine step_run (by rfl) _ _ _ (by rfl) ⟨.slice (some ⟨rb, ro, none⟩) 0 0, .slice (some ⟨rb, ro + K1 * 2, none⟩) (n - K1) (cap - K1), _, _, (by go_simp), (by go_simp), hrun, ?_⟩)
            all_goals
              go_wp2
              exact ⟨⟨q + 1, _, _, by go_num, X3, PM3.out, LEN3.out⟩, by simp [intOf]; omega⟩
          · have hke : K1 = n := by omega
            have X3 : To w w2.drew (.slice (some ⟨rb, ro, none⟩) 0 0) v' (os ++ [rest[0]!]) (rest.eraseIdx 0) := X2H.out.last RL.out (by have := KH.out; omega)
            have hap := fun A c => app_none w2.drew (some ⟨rb, ro, none⟩) 0 A c
            have hnn : n - n = 0 := Nat.sub_self n
            clear X2H hmid hK1
            subst hke
            by_cases hcn : cap = K1
            · subst hcn
              have hap2 := hap ⟨rb, ro, none⟩ 0
              clear hap
              go_wp2
              go_region_law (refine step_run (by rfl) _ _ _ (by rfl) ⟨.slice (some ⟨rb, ro, none⟩) 0 0, .slice (some ⟨rb, ro, none⟩) 0 0, _, _, (by go_simp), (by go_simp), hap2, ?_⟩)
              all_goals
                go_wp2
                exact ⟨⟨q + 1, _, _, by go_num, X3, PM3.out, LEN3.out⟩, by simp [intOf]; omega⟩
            · have hap2 := hap ⟨rb, ro + K1 * 2, none⟩ (cap - K1)
              clear hap
              go_wp2
              go_region_law (refine step_run (by rfl) _ _ _ (by rfl) ⟨.slice (some ⟨rb, ro, none⟩) 0 0, .slice (some ⟨rb, ro + K1 * 2, none⟩) 0 (cap - K1), _, _, (by go_simp), (by go_simp), hap2, ?_⟩)
              all_goals
                go_wp2
                exact ⟨⟨q + 1, _, _, by go_num, X3, PM3.out, LEN3.out⟩, by simp [intOf]; omega⟩
      · have hn0 : rest.length = 0 := by omega
        have hrest : rest = [] := List.eq_nil_of_length_eq_zero hn0
        subst hrest
        obtain ⟨ra, cap', er, _, _⟩ := X.out.rst
        subst er
        have XO : Hid (To w wr (.slice ra 0 cap') u6 os []) := X.out
        have PO : Hid (os.Perm rs) := by have := PM.out; rwa [List.append_nil] at this
        clear X PM LEN
        go_wp2
        go_ret
        obtain ⟨xs, h1, h2⟩ := XO.out.out
        exact ⟨_, os, rfl, rdx_own h1 h2, PO.out, XO.out.gb⟩
  · have e0 : rs = [] := List.eq_nil_of_length_eq_zero (by omega)
    subst e0
    obtain ⟨a, cap, rfl, _, _⟩ := hv
    have hap := app_any w a cap
    clear O M
    go_enter Try.func7, Try.ntmps7
    go_wp2_with (at_builtin; refine list_run rfl _ _ _ rfl rfl rfl hap ?_)
    go_loopw [5, 6, 7] (fun rv ov _ W => rv = .slice none 0 0 ∧ ov = .slice none 0 0 ∧ w = W) (fun _ _ _ _ => 0)
    case atStart => exact ⟨rfl, rfl, rfl⟩
    case round =>
      obtain ⟨rfl, rfl, rfl⟩ := hrel
      go_wp2
      go_ret
      exact ⟨_, [], rfl, ⟨none, 0, rfl, Nat.le_refl _, fun i hi => absurd hi (Nat.not_lt_zero _)⟩, List.Perm.refl _, Below.refl _ _⟩
end Go.Proofs.Yteaeaoekaoedoaa
