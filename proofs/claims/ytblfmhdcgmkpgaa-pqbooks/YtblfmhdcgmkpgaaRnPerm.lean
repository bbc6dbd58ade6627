/- Perm. -/
import Derived.Test.YtblfmhdcgmkpgaaRnArr
namespace Go.Proofs.Ytblfmhdcgmkpgaa.Rn
open Go.RowKit Go.Shelf
attribute [local go_sem] Oper.semAt_some

theorem Try.mixed : Try.prog.follows .mixedOrders = true := by kernel_rfl
theorem region_round {l n id : Nat} {P : Program} {ops : Array Oper} {Q : Exit → Act → World → Prop} {S : World → Prop} {a : Act} {w : World} (hm : P.follows .mixedOrders = true)
    (hnd : ops.toList.all (fun o => match o.op with | .defer _ => false | _ => true) = true) (hQ : ¬ LetsOut Q) (hS : S w.drew)
    (h : S w.drew → wpAnyH P .any ops Q S ops.size (Array.replicate ops.size false) a w.drew) : (Code.region id ops true).wpIn (Fence.wide.inRound l) n P Q a w := by
  refine wpIn_region_any hm (any_round (fun i o ho c hc => ?_) hQ _ _ _ _ (wpAny_of_held _ _ _ _ (h hS)))
  have := List.all_eq_true.1 hnd o (by rw [← Array.getElem?_toList] at ho; exact List.mem_of_getElem? ho)
  rw [hc] at this
  cases this

theorem boxed_off {W : World} {B : Nat} {t : TypeId} {v : Value} (h : Boxed W B t v) {p : Addr} (hp : p.block ≠ B) (u : Value) : Boxed (W.setCell p u) B t v :=
  (Below.heap_setCell W p u B (Ne.symm hp)).trans h

set_option maxHeartbeats 400000 in
theorem perm_no (b : Nat) (n : Int) (w : World) (h : ¬ ckOk n 0 65536) :
    Calls Try.prog 76 #[.pointer (some ⟨b, 0, none⟩), .int .i64 n] w fun e w' => e = .returned (.tuple #[.slice none 0 0, .int .i64 1]) ∧ w = w' := by
  have hck := check_c ⟨b, 0, none⟩ n 0 65536 w
  rw [ckE_no h] at hck
  clear h
  refine (callsIn_wide (n := 4)).1 ?_
  refine callsIn_of_wp_marks Try.func76 rfl trivial ?_ rfl
  simp only [Try.ntmps76, List.size_toArray, List.length_cons, List.length_nil, Nat.reduceAdd, Nat.reduceSub, Array.replicate_succ, Array.replicate_zero, List.push_toArray, List.append_toArray, List.nil_append, List.cons_append]
  gi_wp2_with (refine ⟨trivial, ?_⟩; gi_at_call 82; refine (callsIn_wide.2 hck).mono ?_; rintro e w1 ⟨rfl, rfl⟩)
  exact ⟨.tuple #[.slice none 0 0, .int .i64 1], by simp [results, Try.results76, go_sem], rfl, rfl⟩

set_option maxRecDepth 100000 in
set_option maxHeartbeats 2000000 in
theorem perm_ok (b n : Nat) (x : Int) (w : World) (hb : Boxed w b 115 (.int .u64 x)) (hx : U x) (hn : n ≤ 65536) :
    Calls Try.prog 76 #[.pointer (some ⟨b, 0, none⟩), .int .i64 n] w fun e w' => e = .returned (.tuple #[.slice (some ⟨w.heap.size, 0, none⟩) n n, .int .i64 0]) ∧
      Arr w' w.heap.size n n (pS x n (n - 1)) ∧ Boxed w' b 115 (.int .u64 (stN x (n - 1))) ∧ w.grownBy w' (some b) := by
  have hck := check_c ⟨b, 0, none⟩ n 0 65536 w
  rw [ckE_ok ⟨by omega, by omega⟩] at hck
  have hbl := hb.lt
  refine (callsIn_wide (n := 4)).1 ?_
  refine callsIn_of_wp_marks Try.func76 rfl trivial ?_ rfl
  simp only [Try.ntmps76, List.size_toArray, List.length_cons, List.length_nil, Nat.reduceAdd, Nat.reduceSub, Array.replicate_succ, Array.replicate_zero, List.push_toArray, List.append_toArray, List.nil_append, List.cons_append]
  gi_wp2_with first | (refine ⟨trivial, ?_⟩; gi_at_call 82; refine (callsIn_wide.2 hck).mono ?_; rintro e w1 ⟨rfl, rfl⟩) | (refine ⟨trivial, ?_⟩; gi_at_call 83; refine (callsIn_wide.2 (rising_c n _ hn)).mono ?_; rintro e w2 ⟨rfl, A2, g2⟩) | (refine ⟨trivial, ?_⟩; gi_at_call 84; refine (callsIn_wide.2 (draws_c _ _ _)).mono ?_; rintro e w3 ⟨rfl, rfl⟩)
  obtain ⟨V, hV⟩ : ∃ V, ((((w2.alloc (.cells #[.slice (some ⟨w.heap.size, 0, none⟩) n n] 40)).alloc (.cells #[.int .i64 ((n : Int) - 1)] 3)).alloc (.cells #[.pointer (some ⟨b, 0, none⟩)] 109)).alloc (.cells #[.int .i64 ((n : Int) - 1)] 3)) = V := ⟨_, rfl⟩
  have s2 := g2.size
  have s3 := A2.lt
  have bB : Boxed V b 115 (.int .u64 x) := by rw [← hV]; exact ((((hb.kept g2 (by simp)).alloc _).alloc _).alloc _).alloc _
  have bN : Boxed V w2.heap.size 40 (.slice (some ⟨w.heap.size, 0, none⟩) n n) := by rw [← hV]; exact (((Boxed.new w2 _ _).alloc _).alloc _).alloc _
  have bP : Boxed V (w2.heap.size + 1) 3 (.int .i64 ((n : Int) - 1)) := by
    rw [← hV]; have := ((Boxed.new (w2.alloc (.cells #[.slice (some ⟨w.heap.size, 0, none⟩) n n] 40)) 3 (.int .i64 ((n : Int) - 1))).alloc (.cells #[.pointer (some ⟨b, 0, none⟩)] 109)).alloc (.cells #[.int .i64 ((n : Int) - 1)] 3); rwa [World.size_alloc] at this
  have bS : Boxed V (w2.heap.size + 1 + 1) 109 (.pointer (some ⟨b, 0, none⟩)) := by
    rw [← hV]; have := (Boxed.new ((w2.alloc (.cells #[.slice (some ⟨w.heap.size, 0, none⟩) n n] 40)).alloc (.cells #[.int .i64 ((n : Int) - 1)] 3)) 109 (.pointer (some ⟨b, 0, none⟩))).alloc (.cells #[.int .i64 ((n : Int) - 1)] 3); rwa [World.size_alloc, World.size_alloc] at this
  have bC : Boxed V (w2.heap.size + 1 + 1 + 1) 3 (.int .i64 ((n : Int) - 1)) := by
    rw [← hV]; have := Boxed.new (((w2.alloc (.cells #[.slice (some ⟨w.heap.size, 0, none⟩) n n] 40)).alloc (.cells #[.int .i64 ((n : Int) - 1)] 3)).alloc (.cells #[.pointer (some ⟨b, 0, none⟩)] 109)) 3 (.int .i64 ((n : Int) - 1)); rwa [World.size_alloc, World.size_alloc, World.size_alloc] at this
  have aV : Arr V w.heap.size n n (pS x n 0) := by rw [← hV]; exact (((A2.alloc _).alloc _).alloc _).alloc _
  have gV : w.grownBy V (some b) := by rw [← hV]; exact grownBy_al (grownBy_al (grownBy_al (grownBy_al ⟨g2.os, g2.tape, g2.output, g2.size, fun k hk _ => g2.block k hk (by simp)⟩ _) _) _) _
  have sV : w2.heap.size + 4 = V.heap.size := by rw [← hV]; simp
  have eN : ((n : Int) - 1).toNat = n - 1 := by omega
  rw [hV]
  refine range_c (gf := 88) (lb := #[.pointer (some ⟨w2.heap.size + 1 + 1, 0, none⟩), .pointer (some ⟨w2.heap.size + 1 + 1 + 1, 0, none⟩)]) rfl (enters_of Try.func88 (by kernel_rfl) rfl) rfl
    (n - 1) b (fun k => .int .u64 (stN x (k + 1))) (fun k => .int .u64 (mx (stN x (k + 1))))
    (fun k W => Arr W w.heap.size n n (pS x n k) ∧ Boxed W w2.heap.size 40 (.slice (some ⟨w.heap.size, 0, none⟩) n n) ∧ Boxed W (w2.heap.size + 1) 3 (.int .i64 ((n : Int) - 1 - k)) ∧ Boxed W b 115 (.int .u64 (stN x k)) ∧ Boxed W (w2.heap.size + 1 + 1) 109 (.pointer (some ⟨b, 0, none⟩)) ∧ Boxed W (w2.heap.size + 1 + 1 + 1) 3 (.int .i64 ((n : Int) - 1)) ∧ w.grownBy W (some b))
    (fun k W => Arr W w.heap.size n n (pS x n k) ∧ Boxed W w2.heap.size 40 (.slice (some ⟨w.heap.size, 0, none⟩) n n) ∧ Boxed W (w2.heap.size + 1) 3 (.int .i64 ((n : Int) - 1 - k)) ∧ Boxed W b 115 (.int .u64 (stN x (k + 1))) ∧ Boxed W (w2.heap.size + 1 + 1) 109 (.pointer (some ⟨b, 0, none⟩)) ∧ Boxed W (w2.heap.size + 1 + 1 + 1) 3 (.int .i64 ((n : Int) - 1)) ∧ w.grownBy W (some b))
    (fun _ _ => False)
    (ownFrom_arr.and (ownFrom_boxed.and (ownFrom_boxed.and (ownFrom_boxed.and (ownFrom_boxed.and (ownFrom_boxed.and (ownFrom_grown gV.size)))))))
    (ownFrom_arr.and (ownFrom_boxed.and (ownFrom_boxed.and (ownFrom_boxed.and (ownFrom_boxed.and (ownFrom_boxed.and (ownFrom_grown gV.size)))))))
    (fun _ _ _ _ h _ _ => h)
    ⟨aV, bN, by simpa using bP, bB, bS, bC, gV⟩
    (fun k W _ h => ⟨h.1.other (by simp; omega) _, h.2.1.other (by omega) _, h.2.2.1.other (by omega) _, h.2.2.2.1.set _, h.2.2.2.2.1.other (by omega) _, h.2.2.2.2.2.1.other (by omega) _, grownBy_set h.2.2.2.2.2.2 (.inl rfl) _⟩)
    (by have := draws1_gives 3 (by decide) (w2.heap.size + 1 + 1) (w2.heap.size + 1 + 1 + 1) b ((n : Int) - 1) x hx (by omega)
          (fun k W => Arr W w.heap.size n n (pS x n k) ∧ Boxed W w2.heap.size 40 (.slice (some ⟨w.heap.size, 0, none⟩) n n) ∧ Boxed W (w2.heap.size + 1) 3 (.int .i64 ((n : Int) - 1 - k)) ∧ Boxed W b 115 (.int .u64 (stN x k)) ∧ Boxed W (w2.heap.size + 1 + 1) 109 (.pointer (some ⟨b, 0, none⟩)) ∧ Boxed W (w2.heap.size + 1 + 1 + 1) 3 (.int .i64 ((n : Int) - 1)) ∧ w.grownBy W (some b))
          (fun k W h => ⟨h.2.2.2.2.1, h.2.2.2.2.2.1, h.2.2.2.1⟩)
        rw [eN] at this
        exact this)
    (fun k => { tmps := #[.pointer (some ⟨b, 0, none⟩), .int .i64 n, undef, undef, .slice none 0 0, .int .i64 0, .int .i64 0, .pointer (some ⟨w2.heap.size, 0, none⟩), .pointer (some ⟨w2.heap.size + 1, 0, none⟩),
      .int .u64 (mx (stN x (k + 1))), undef, .pointer (some ⟨b, 0, none⟩), .int .i64 n, .int .i64 0, .int .i64 0, .bool false, undef, .int .i64 n, .slice (some ⟨w.heap.size, 0, none⟩) n n, .int .i64 n, .int .i64 ((n : Int) - 1),
      .pointer (some ⟨b, 0, none⟩), .int .i64 n, .int .i64 ((n : Int) - 1), .func (.func 88) #[] #[.pointer (some ⟨w2.heap.size + 1 + 1, 0, none⟩), .pointer (some ⟨w2.heap.size + 1 + 1 + 1, 0, none⟩)],
      .int .u64 (mx (stN x (k + 1))), undef, undef, undef, undef, undef, undef, undef, undef, undef, undef, undef, undef, undef, undef, undef, undef, undef, undef, undef, undef, undef], defers := [] }) ?assign ?body ?done ?stop
  case assign =>
    intro l k W K hK
    gi_wp2
    exact hK
  case body =>
    clear hV aV bN bP bB bS bC gV hck A2 g2 hb
    rintro l k W hk ⟨hA, hN, hP, hB, hS, hC, hg⟩
    have hi : (n : Int) - 1 - k = ((n - 1 - k : Nat) : Int) := by omega
    have hin : n - 1 - k < n := by omega
    have hz := u_mx (stN x (k + 1))
    have hpS : pS x n (k + 1) = swp (pS x n k) (n - 1 - k) (mx (stN x (k + 1)) % ((n - 1 - k : Nat) + 1)).toNat := rfl
    have hnext : (n : Int) - 1 - (k + 1 : Nat) = ((n - 1 - k : Nat) : Int) - 1 := by omega
    rw [hi] at hP
    generalize mx (stN x (k + 1)) = z at *
    generalize hii : n - 1 - k = i at *
    have r1 := Int.emod_nonneg z (b := (i : Int) + 1) (by omega)
    have r2 := Int.emod_lt_of_pos z (b := (i : Int) + 1) (by omega)
    obtain ⟨j, hj⟩ : ∃ j : Nat, z % ((i : Int) + 1) = j := ⟨(z % ((i : Int) + 1)).toNat, by omega⟩
    have hjn : j < n := by omega
    have hr := rest_c z ((i : Int) + 1) W hz (by omega) (by omega)
    rw [hj] at hr
    have hpS' : pS x n (k + 1) = swp (pS x n k) i j := by rw [hpS, hj]; simp
    clear hpS r1 r2 hj hz hi
    have cP := hP.cell
    gi_wp2_with (refine ⟨trivial, ?_⟩; gi_at_call 85; refine (CallsIn.inRound l (callsIn_wide.2 hr)).mono ?_; rintro e w5 ⟨rfl, rfl⟩)
    have cN := hN.cell
    have cI := hA.cell hin
    have cJ := hA.cell hjn
    have fI := hA.frozen i
    have fJ := hA.frozen j
    have cJ2 := (hA.set hin (pS x n k j)).cell hjn
    have fJ2 := (hA.set hin (pS x n k j)).frozen j
    have hset : ∀ (V : World) (p : Addr) (u : Value), p.block = w.heap.size → (V.cell? ⟨w2.heap.size, 0, none⟩ = some (.slice (some ⟨w.heap.size, 0, none⟩) n n) ∧ V.cell? ⟨w2.heap.size + 1, 0, none⟩ = some (.int .i64 i)) →
        ((V.setCell p u).cell? ⟨w2.heap.size, 0, none⟩ = some (.slice (some ⟨w.heap.size, 0, none⟩) n n) ∧ (V.setCell p u).cell? ⟨w2.heap.size + 1, 0, none⟩ = some (.int .i64 i)) := fun V p u hp h =>
      ⟨(World.cell?_of_block (Below.heap_setCell V p u _ (by dsimp only; omega))).trans h.1, (World.cell?_of_block (Below.heap_setCell V p u _ (by dsimp only; omega))).trans h.2⟩
    have FIN : ∃ X, X = ((W.setCell ⟨w.heap.size, i, none⟩ (.int .i64 (pS x n k j))).setCell ⟨w.heap.size, j, none⟩ (.int .i64 (pS x n k i))).drew ∧
        Arr X w.heap.size n n (pS x n (k + 1)) ∧ Boxed X w2.heap.size 40 (.slice (some ⟨w.heap.size, 0, none⟩) n n) ∧ Boxed X (w2.heap.size + 1) 3 (.int .i64 i) ∧ Boxed X b 115 (.int .u64 (stN x (k + 1))) ∧ Boxed X (w2.heap.size + 1 + 1) 109 (.pointer (some ⟨b, 0, none⟩)) ∧ Boxed X (w2.heap.size + 1 + 1 + 1) 3 (.int .i64 ((n : Int) - 1)) ∧ w.grownBy X (some b) ∧ KeepsOthers W X := by
      refine ⟨_, rfl, ?_, ?_, ?_, ?_, ?_, ?_, ?_, ?_⟩
      · have A2 := (hA.set hin (pS x n k j)).set hjn (pS x n k i)
        rw [hpS']
        exact A2
      · exact boxed_off (boxed_off hN (by dsimp only; omega) _) (by dsimp only; omega) _
      · exact boxed_off (boxed_off hP (by dsimp only; omega) _) (by dsimp only; omega) _
      · exact boxed_off (boxed_off hB (by dsimp only; omega) _) (by dsimp only; omega) _
      · exact boxed_off (boxed_off hS (by dsimp only; omega) _) (by dsimp only; omega) _
      · exact boxed_off (boxed_off hC (by dsimp only; omega) _) (by dsimp only; omega) _
      · have := grownBy_new (p := ⟨w.heap.size, j, none⟩) (grownBy_new (p := ⟨w.heap.size, i, none⟩) hg (Nat.le_refl _) (.int .i64 (pS x n k j))) (Nat.le_refl _) (.int .i64 (pS x n k i))
        exact ⟨this.os, this.tape, this.output, this.size, this.block⟩
      · exact ((KeepsOthers.setCell W _ _).trans (KeepsOthers.setCell _ _ _)).trans (KeepsOthers.drew _)
    obtain ⟨X, hX, FA, FN, FP, FB, FS, FC, Fg, FK⟩ := FIN
    refine region_round (S := fun w' => w'.cell? ⟨w2.heap.size, 0, none⟩ = some (.slice (some ⟨w.heap.size, 0, none⟩) n n) ∧ w'.cell? ⟨w2.heap.size + 1, 0, none⟩ = some (.int .i64 i)) Try.mixed (by kernel_rfl) (by rintro ⟨a', w', h⟩; exact h) ⟨cN, cP⟩ (fun hHeld => ?_)
    refine wpAnyH_take (i := 0) (v := ?_) rfl (by kernel_rfl) (by kernel_rfl) (by kernel_rfl) (fun _ _ _ h => h) (Or.inl ⟨by rfl, ?_⟩) (by assumption) ?_
    rotate_left 1
    · (intro w' hSw; obtain ⟨q1, q2⟩ := hSw; go_simp; try with_reducible rfl)
    try simp only [Act.put, List.setIfInBounds_toArray]
    refine wpAnyH_take (i := 1) (v := ?_) rfl (by kernel_rfl) (by kernel_rfl) (by kernel_rfl) (fun _ _ _ h => h) (Or.inl ⟨by rfl, ?_⟩) (by assumption) ?_
    rotate_left 1
    · (intro w' hSw; obtain ⟨q1, q2⟩ := hSw; go_simp; try with_reducible rfl)
    try simp only [Act.put]
    refine wpAnyH_take (i := 2) (v := ?_) rfl (by kernel_rfl) (by kernel_rfl) (by kernel_rfl) (fun _ _ _ h => h) (Or.inl ⟨by rfl, ?_⟩) (by assumption) ?_
    rotate_left 1
    · (intro w' hSw; obtain ⟨q1, q2⟩ := hSw; go_simp; try with_reducible rfl)
    try simp only [Act.put]
    refine wpAnyH_take (i := 3) (v := ?_) rfl (by kernel_rfl) (by kernel_rfl) (by kernel_rfl) (fun _ _ _ h => h) (Or.inl ⟨by rfl, ?_⟩) (by assumption) ?_
    rotate_left 1
    · (intro w' hSw; obtain ⟨q1, q2⟩ := hSw; go_simp; try with_reducible rfl)
    try simp only [Act.put]
    refine wpAnyH_take (i := 4) (v := ?_) rfl (by kernel_rfl) (by kernel_rfl) (by kernel_rfl) (fun _ _ _ h => h) (Or.inl ⟨by rfl, ?_⟩) (by assumption) ?_
    rotate_left 1
    · (intro w' hSw; obtain ⟨q1, q2⟩ := hSw; go_simp; try with_reducible rfl)
    try simp only [Act.put]
    refine wpAnyH_take (i := 5) (v := ?_) rfl (by kernel_rfl) (by kernel_rfl) (by kernel_rfl) (fun _ _ _ h => h) (Or.inl ⟨by rfl, ?_⟩) (by assumption) ?_
    rotate_left 1
    · (intro w' hSw; obtain ⟨q1, q2⟩ := hSw; go_simp; try with_reducible rfl)
    try simp only [Act.put]
    refine wpAnyH_take (i := 6) (v := ?_) rfl (by kernel_rfl) (by kernel_rfl) (by kernel_rfl) (fun _ _ _ h => h) (Or.inl ⟨by rfl, ?_⟩) (by assumption) ?_
    rotate_left 1
    · (intro w' hSw; obtain ⟨q1, q2⟩ := hSw; go_simp; try with_reducible rfl)
    try simp only [Act.put]
    refine wpAnyH_take (i := 8) (v := ?_) rfl (by kernel_rfl) (by kernel_rfl) (by kernel_rfl) (fun _ _ _ h => h) (Or.inl ⟨by rfl, ?_⟩) (by assumption) ?_
    rotate_left 1
    · (intro w' hSw; obtain ⟨q1, q2⟩ := hSw; go_simp; try with_reducible rfl)
    try simp only [Act.put]
    refine wpAnyH_take (i := 9) (v := ?_) rfl (by kernel_rfl) (by kernel_rfl) (by kernel_rfl) (fun _ _ _ h => h) (Or.inl ⟨by rfl, ?_⟩) (by assumption) ?_
    rotate_left 1
    · (intro w' hSw; obtain ⟨q1, q2⟩ := hSw; go_simp; try with_reducible rfl)
    try simp only [Act.put]
    refine wpAnyH_take (i := 10) (v := ?_) rfl (by kernel_rfl) (by kernel_rfl) (by kernel_rfl) (fun _ _ _ h => h) (Or.inl ⟨by rfl, ?_⟩) (by assumption) ?_
    rotate_left 1
    · (intro w' hSw; obtain ⟨q1, q2⟩ := hSw; go_simp; try with_reducible rfl)
    try simp only [Act.put]
    refine wpAnyH_ready (rs := [7, 11]) (by kernel_rfl) (by simp) ?_
    refine AllReadyH.cons rfl (fun K hK => ?_) (AllReadyH.cons rfl (fun K hK => ?_) (AllReadyH.nil))
    · go_simp
      refine hK.out _ _ hHeld (fun hHeld => ?_)
      clear hK K
      try simp only [Act.put, List.setIfInBounds_toArray, List.set_cons_zero, List.set_cons_succ]
      refine wpAnyH_ready (rs := [11]) (by kernel_rfl) (by simp) ?_
      refine AllReadyH.cons rfl (fun K hK => ?_) (AllReadyH.nil)
      go_simp
      refine hK.out _ _ hHeld (fun hHeld => ?_)
      clear hK K
      try simp only [Act.put, List.setIfInBounds_toArray, List.set_cons_zero, List.set_cons_succ]
      refine wpAnyH_take (i := 12) (v := ?_) rfl (by kernel_rfl) (by kernel_rfl) (by kernel_rfl) (fun _ _ _ h => h) (Or.inl ⟨by rfl, ?_⟩) (by assumption) ?_
      rotate_left 1
      · (intro w' hSw; obtain ⟨q1, q2⟩ := hSw; go_simp; try with_reducible rfl)
      try simp only [Act.put, List.setIfInBounds_toArray]
      refine wpAnyH_ready (rs := [13]) (by kernel_rfl) (by simp) ?_
      refine AllReadyH.cons rfl (fun K hK => ?_) (AllReadyH.nil)
      go_simp
      refine hK.out _ _ (hset W ⟨w.heap.size, i, none⟩ _ rfl hHeld) (fun hHeld => ?_)
      clear hK K
      try simp only [Act.put, List.setIfInBounds_toArray, List.set_cons_zero, List.set_cons_succ]
      refine wpAnyH_take (i := 14) (v := ?_) rfl (by kernel_rfl) (by kernel_rfl) (by kernel_rfl) (fun _ _ _ h => h) (Or.inl ⟨by rfl, ?_⟩) (by assumption) ?_
      rotate_left 1
      · (intro w' hSw; obtain ⟨q1, q2⟩ := hSw; go_simp; try with_reducible rfl)
      try simp only [Act.put, List.setIfInBounds_toArray]
      refine wpAnyH_ready (rs := [15]) (by kernel_rfl) (by simp) ?_
      refine AllReadyH.cons rfl (fun K hK => ?_) (AllReadyH.nil)
      go_simp
      refine hK.out _ _ (hset (W.setCell ⟨w.heap.size, i, none⟩ (.int .i64 (pS x n k j))) ⟨w.heap.size, j, none⟩ _ rfl hHeld) (fun hHeld => ?_)
      clear hK K
      try simp only [Act.put, List.setIfInBounds_toArray, List.set_cons_zero, List.set_cons_succ]
      refine wpAnyH_done (by kernel_rfl) ?_ _
      rw [← hX]
      clear cI cJ fI fJ cJ2 fJ2 cN cP hHeld hset hX hA hN hP hB hS hC hg hr
      have cX := FP.cell
      have fX := FP.frozen
      gi_wp2
      exact ⟨FK.trans (KeepsOthers.setCell _ _ _), FA.other (by simp; omega) _, FN.other (by omega) _, by rw [hnext]; exact FP.set _, FB.other (by omega) _, FS.other (by omega) _, FC.other (by omega) _, grownBy_new Fg (by dsimp only; omega) _⟩
    · go_simp
      refine hK.out _ _ hHeld (fun hHeld => ?_)
      clear hK K
      try simp only [Act.put, List.setIfInBounds_toArray, List.set_cons_zero, List.set_cons_succ]
      refine wpAnyH_ready (rs := [7]) (by kernel_rfl) (by simp) ?_
      refine AllReadyH.cons rfl (fun K hK => ?_) (AllReadyH.nil)
      go_simp
      refine hK.out _ _ hHeld (fun hHeld => ?_)
      clear hK K
      try simp only [Act.put, List.setIfInBounds_toArray, List.set_cons_zero, List.set_cons_succ]
      refine wpAnyH_take (i := 12) (v := ?_) rfl (by kernel_rfl) (by kernel_rfl) (by kernel_rfl) (fun _ _ _ h => h) (Or.inl ⟨by rfl, ?_⟩) (by assumption) ?_
      rotate_left 1
      · (intro w' hSw; obtain ⟨q1, q2⟩ := hSw; go_simp; try with_reducible rfl)
      try simp only [Act.put, List.setIfInBounds_toArray]
      refine wpAnyH_ready (rs := [13]) (by kernel_rfl) (by simp) ?_
      refine AllReadyH.cons rfl (fun K hK => ?_) (AllReadyH.nil)
      go_simp
      refine hK.out _ _ (hset W ⟨w.heap.size, i, none⟩ _ rfl hHeld) (fun hHeld => ?_)
      clear hK K
      try simp only [Act.put, List.setIfInBounds_toArray, List.set_cons_zero, List.set_cons_succ]
      refine wpAnyH_take (i := 14) (v := ?_) rfl (by kernel_rfl) (by kernel_rfl) (by kernel_rfl) (fun _ _ _ h => h) (Or.inl ⟨by rfl, ?_⟩) (by assumption) ?_
      rotate_left 1
      · (intro w' hSw; obtain ⟨q1, q2⟩ := hSw; go_simp; try with_reducible rfl)
      try simp only [Act.put, List.setIfInBounds_toArray]
      refine wpAnyH_ready (rs := [15]) (by kernel_rfl) (by simp) ?_
      refine AllReadyH.cons rfl (fun K hK => ?_) (AllReadyH.nil)
      go_simp
      refine hK.out _ _ (hset (W.setCell ⟨w.heap.size, i, none⟩ (.int .i64 (pS x n k j))) ⟨w.heap.size, j, none⟩ _ rfl hHeld) (fun hHeld => ?_)
      clear hK K
      try simp only [Act.put, List.setIfInBounds_toArray, List.set_cons_zero, List.set_cons_succ]
      refine wpAnyH_done (by kernel_rfl) ?_ _
      rw [← hX]
      clear cI cJ fI fJ cJ2 fJ2 cN cP hHeld hset hX hA hN hP hB hS hC hg hr
      have cX := FP.cell
      have fX := FP.frozen
      gi_wp2
      exact ⟨FK.trans (KeepsOthers.setCell _ _ _), FA.other (by simp; omega) _, FN.other (by omega) _, by rw [hnext]; exact FP.set _, FB.other (by omega) _, FS.other (by omega) _, FC.other (by omega) _, grownBy_new Fg (by dsimp only; omega) _⟩
  case done =>
    rintro D W hD ⟨h1, h2, h3, h4, h5, h6, hg⟩ hK
    have c2 := h2.cell
    gi_wp2
    refine ⟨by simp, .inl ⟨_, _, rfl, run_takeDeferred hK, ?_⟩⟩
    exact ⟨.tuple #[.slice (some ⟨w.heap.size, 0, none⟩) n n, .int .i64 0], by simp [results, Try.results76, go_sem], rfl, Arr.put h1 hK rfl _, Boxed.put h4 hK rfl _, grownBy_put hg (by omega) _⟩
  case stop =>
    rintro D k W hD hk h
    exact h.elim

end Go.Proofs.Ytblfmhdcgmkpgaa.Rn
