/- wide.Print, as a contract. -/
import Derived.Test.YtlckjohmllagoaaPlain
import Derived.Test.YtlckjohmllagoaaDiv
import Derived.Laws.BytesArg
namespace Go.Proofs.Ytlckjohmllagoaa
open Go.RowKit

/-- Block B holds 39 bytes; those from t on are suf. -/
structure Arr (w : World) (B t : Nat) (suf : List UInt8) : Prop where
  some : ∀ j, j < 39 → ∃ v, w.cell? ⟨B, j, none⟩ = Option.some v
  froz : ∀ j, j < 39 → w.frozen? ⟨B, j, none⟩ = false
  suf : ∀ i, i < suf.length → w.cell? ⟨B, t + i, none⟩ = Option.some (.int .u8 ((suf.getD i 0).toNat : Int))

theorem Arr.call {w w' : World} {B t : Nat} {suf : List UInt8} (h : Arr w B t suf) (g : Gr w w') : Arr w' B t suf :=
  ⟨fun j hj => by obtain ⟨v, hv⟩ := h.some j hj; exact ⟨v, g.keeps hv⟩, fun j hj => (g.froz _).trans (h.froz j hj), fun i hi => g.keeps (h.suf i hi)⟩
theorem Arr.alloc {w : World} {B t : Nat} {suf : List UInt8} (h : Arr w B t suf) (c : Array Value) (u : TypeId) : Arr (w.alloc (.cells c u)) B t suf :=
  h.call ((Gr.refl _).alloc _ _)
theorem Arr.far {w : World} {B t : Nat} {suf : List UInt8} (h : Arr w B t suf) (b o : Nat) (hb : b ≠ B) (x : Value) : Arr (w.setCell ⟨b, o, none⟩ x) B t suf :=
  ⟨fun j hj => by obtain ⟨v, hv⟩ := h.some j hj; exact ⟨v, (World.cell?_setCell_far w _ _ x hb).trans hv⟩, fun j hj => (World.frozen?_setCell _ _ _ _).trans (h.froz j hj),
    fun i hi => (World.cell?_setCell_far w _ _ x hb).trans (h.suf i hi)⟩
theorem Arr.push {w : World} {B t : Nat} {suf : List UInt8} (h : Arr w B (t + 1) suf) (ht : t < 39) (c : UInt8) (x : Int) (hx : x = (c.toNat : Int)) : Arr (w.setCell ⟨B, t, none⟩ (.int .u8 x)) B t (c :: suf) := by
  obtain ⟨v0, hv0⟩ := h.some t ht
  refine ⟨fun j hj => ?_, fun j hj => (World.frozen?_setCell _ _ _ _).trans (h.froz j hj), fun i hi => ?_⟩
  · by_cases e : j = t
    · subst e; exact ⟨_, World.cell?_setCell_same _ _ _ hv0⟩
    · obtain ⟨v, hv⟩ := h.some j hj
      exact ⟨v, (World.cell?_setCell_other w _ _ _ (by intro e2; injection e2; omega)).trans hv⟩
  · cases i with
    | zero => subst hx; exact World.cell?_setCell_same _ _ _ hv0
    | succ i =>
      have e1 : t + (i + 1) = t + 1 + i := by omega
      rw [e1]
      refine (World.cell?_setCell_other w _ _ _ (by intro e2; injection e2; omega)).trans ?_
      exact h.suf i (by simpa using hi)

theorem hi0 : hi 0 = 0 := rfl
theorem lo0 : lo 0 = 0 := rfl
theorem p39 : (340282366920938463463374607431768211456 : Nat) ≤ 10 ^ 39 := by decide

theorem slice53 (B t : Nat) (ht : t ≤ 38) (w : World) : (Instr.sliceAt 53 (.pointer (some ⟨B, 0, none⟩)) (some (.int .i64 (t : Int))) none none).run Try.prog w = .ok (.slice (some ⟨B, t, none⟩) (39 - t) (39 - t)) w := by
  have hl : Try.prog.arrayLen 53 = 39 := by kernel_rfl
  rw [run_sliceAt_array_l w 53 ⟨B, 0, none⟩ (by kernel_rfl) .i64 (t : Int) (by omega) (by rw [hl]; omega), hl]
  have he : (sizeOf (Try.prog.elem 53)).run Try.prog w = .ok 1 w := by kernel_rfl
  rw [he]
  simp only [Result.andThen, slicedAt, Int.toNat_natCast]
  rw [if_neg (by omega)]
  simp [Addr.add]
  intro h; exact h.symm
def numsOf (l : List UInt8) : List Int := l.map fun c => (c.toNat : Int)
theorem str_nums (l : List UInt8) : strOfNums (numsOf l) = ⟨l.toArray⟩ := by
  unfold strOfNums numsOf
  rw [List.map_map]
  have : l.map ((fun n : Int => UInt8.ofNat n.toNat) ∘ fun c : UInt8 => (c.toNat : Int)) = l := by
    conv => rhs; rw [← List.map_id l]
    apply List.map_congr_left
    intro c _
    simp
  rw [this]
theorem conv56 (w : World) (B t : Nat) (suf : List UInt8) (h : Arr w B t suf) (hl : suf.length = 39 - t) :
    (convert 56 9 (.slice (some ⟨B, t, none⟩) (39 - t) (39 - t))).run Try.prog w = .ok (.string ⟨suf.toArray⟩) w := by
  rw [← str_nums]
  refine run_convert_bytes_arg w 56 5 (by kernel_rfl) (by kernel_rfl) B t (39 - t) (39 - t) (numsOf suf) (by simp [numsOf, hl]) (fun i hi => ?_) 9 (by kernel_rfl)
  rw [h.suf i (by omega)]
  congr 2
  unfold numsOf
  simp [List.getD_eq_getElem?_getD, List.getElem?_map]
  cases suf[i]? <;> rfl

set_option maxHeartbeats 1000000 in
theorem print_any (a : Nat) (ha : a < 340282366920938463463374607431768211456) (w : World) :
    Calls Try.prog 20 #[Wd a] w fun e w' => e = .returned (.string ⟨(prt a).toArray⟩) ∧ Gr w w' := by
  go_enter Try.func20, Try.ntmps20
  go_wp2_with (go_at_call 34; refine (byTen_any a ha _).mono ?_; rintro e w1 ⟨rfl, hg1⟩; obtain ⟨hc1, hf1, hz1⟩ := hg1.rules)
  have hz : w.heap.size + 1 < w1.heap.size := hz1 _ (by simp)
  have hne : w1.heap.size ≠ w.heap.size + 1 := by omega
  have hA : Arr w1 (w.heap.size + 1) 39 [] := by
    refine ⟨fun j hj => ?_, fun j hj => ?_, fun i hi => absurd hi (by simp)⟩
    · rw [hc1 _ _ (by simp), World.cell?_alloc_at _ _ _ _ (by simp)]; exact ⟨_, Array.getElem?_eq_getElem (by simpa using hj)⟩
    · rw [hf1]; simp [go_sem]
  have hA1 := hA.push (t := 38) (by omega) (UInt8.ofNat (48 + a % 10)) (48 + (a : Int) % 10) (by rw [d_toNat _ (by omega)]; omega)
  have hG1 : Gr (w.alloc (.cells #[.int .u64 (hi a), .int .u64 (lo a)] 24)) w1 := ((Gr.refl _).alloc _ _).trans hg1
  clear hA hc1 hf1 hz1
  go_loopw [4] (fun i w' => ∃ t r : Nat, ∃ suf : List UInt8, i = .int .i64 (t : Int) ∧ t ≤ 38 ∧ suf.length = 39 - t ∧ Hid (r < 10 ^ t) ∧ r < 340282366920938463463374607431768211456 ∧ Hid (prt a = dg 39 r ++ suf) ∧ Gr (w.alloc (.cells #[.int .u64 (hi a), .int .u64 (lo a)] 24)) w' ∧ Arr w' (w.heap.size + 1) t suf ∧ w'.cell? ⟨w1.heap.size, 0, none⟩ = some (.int .u64 (hi r)) ∧ w'.cell? ⟨w1.heap.size, 1, none⟩ = some (.int .u64 (lo r)) ∧ w'.frozen? ⟨w1.heap.size, 0, none⟩ = false ∧ w'.frozen? ⟨w1.heap.size, 1, none⟩ = false) (fun i _ => (intOf i).toNat)
  case atStart =>
    refine ⟨38, a / 10, [UInt8.ofNat (48 + a % 10)], rfl, by omega, rfl, ?_, by omega, prt_step a (Nat.lt_of_lt_of_le ha p39), ?_, hA1.alloc _ _, ?_, ?_, ?_, ?_⟩
    · have := p39; unfold Hid; rw [Nat.pow_succ] at this; omega
    · exact (hG1.setCell (by simp) _).alloc _ _
    · simp [go_sem]
    · simp [go_sem]
    · simp [go_sem]
    · simp [go_sem]
  case round =>
    obtain ⟨t, r, suf, rfl, ht, hlen, R, hr, P, hG, hA, c0, c1, f0, f1⟩ := hrel
    clear hA1 hG1 hg1
    by_cases hr0 : r = 0
    · subst hr0
      rw [hi0] at c0; rw [lo0] at c1
      have hS := slice53 (w.heap.size + 1) t ht wr
      have hC := conv56 wr (w.heap.size + 1) t suf hA hlen
      have E : Hid (suf = prt a) := by have := P.out; rw [dg_zero] at this; exact this.symm
      clear hlen P R hA
      go_wp2
      go_ret
      exact ⟨by rw [← E.out]; rfl, ((Gr.refl _).alloc _ _).trans hG⟩
    · obtain ⟨t, rfl⟩ : ∃ k, t = k + 1 := ⟨t - 1, by
        have := R.out
        cases t with
        | zero => simp at this; omega
        | succ t => omega⟩
      have R' : Hid (r / 10 < 10 ^ t) := by have := R.out; unfold Hid; rw [Nat.pow_succ] at this; omega
      have P' : Hid (prt a = dg 39 (r / 10) ++ (UInt8.ofNat (48 + r % 10) :: suf)) := by
        unfold Hid; rw [P.out, dg_step r (Nat.lt_of_lt_of_le hr p39) hr0, List.append_assoc]; rfl
      have hne' : w.heap.size + 1 ≠ w1.heap.size := by omega
      by_cases hh : hi r = 0
      · have h1 : (hi r == 0) = true := by simpa using hh
        have h2 : (lo r == 0) = false := by rw [beq_eq_false_iff_ne]; unfold hi at hh; unfold lo; omega
        clear R P hr0 hh
        go_wp2_with (go_at_call 34; refine (byTen_any r hr _).mono ?_; rintro e w2 ⟨rfl, hg2⟩; have k0 := hg2.keeps (p := ⟨w1.heap.size, 0, none⟩) c0; have k1 := hg2.keeps (p := ⟨w1.heap.size, 1, none⟩) c1; have k2 := (hg2.froz ⟨w1.heap.size, 0, none⟩).trans f0; have k3 := (hg2.froz ⟨w1.heap.size, 1, none⟩).trans f1; have hA2 := hA.call hg2; obtain ⟨v, hv⟩ := hA2.some t (by omega); have hv2 := hA2.froz t (by omega))
        refine ⟨⟨t, r / 10, UInt8.ofNat (48 + r % 10) :: suf, rfl, by omega, by simp [hlen]; omega, R', by omega, P', ?_, ?_, ?_, ?_, ?_, ?_⟩, by simp [intOf]⟩
        · repeat (first | exact hG.trans hg2 | refine Gr.setCell ?_ (by simp <;> omega) _)
        · exact ((hA2.far _ _ hne _).far _ _ hne _).push (by omega) _ _ (by rw [d_toNat _ (by omega)]; omega)
        · simp [go_sem, k0]
        · simp [go_sem, k1]
        · simp [go_sem, k2]
        · simp [go_sem, k3]
      · have h1 : (hi r == 0) = false := by simpa using hh
        clear R P hr0 hh
        go_wp2_with (go_at_call 34; refine (byTen_any r hr _).mono ?_; rintro e w2 ⟨rfl, hg2⟩; have k0 := hg2.keeps (p := ⟨w1.heap.size, 0, none⟩) c0; have k1 := hg2.keeps (p := ⟨w1.heap.size, 1, none⟩) c1; have k2 := (hg2.froz ⟨w1.heap.size, 0, none⟩).trans f0; have k3 := (hg2.froz ⟨w1.heap.size, 1, none⟩).trans f1; have hA2 := hA.call hg2; obtain ⟨v, hv⟩ := hA2.some t (by omega); have hv2 := hA2.froz t (by omega))
        refine ⟨⟨t, r / 10, UInt8.ofNat (48 + r % 10) :: suf, rfl, by omega, by simp [hlen]; omega, R', by omega, P', ?_, ?_, ?_, ?_, ?_, ?_⟩, by simp [intOf]⟩
        · repeat (first | exact hG.trans hg2 | refine Gr.setCell ?_ (by simp <;> omega) _)
        · exact ((hA2.far _ _ hne _).far _ _ hne _).push (by omega) _ _ (by rw [d_toNat _ (by omega)]; omega)
        · simp [go_sem, k0]
        · simp [go_sem, k1]
        · simp [go_sem, k2]
        · simp [go_sem, k3]

end Go.Proofs.Ytlckjohmllagoaa
