/- container/heap's Push and Fix. -/
import Derived.Test.YteaeaoekaoedoaaGreatTkDown
namespace Go.Proofs.YteaeaoekaoedoaaGreat.Tk
open Go.RowKit Go.Sort

theorem Kp.trans' {S T : Nat → Prop} {a b c : World} (h : Kp S a b) (k : Kp T b c) (hT : ∀ i, i < a.heap.size → T i → S i) : Kp S a c :=
  ⟨k.os.trans h.os, k.tape.trans h.tape, k.output.trans h.output, Nat.le_trans h.size k.size, fun i hi hn => (k.block i (Nat.lt_of_lt_of_le hi h.size) (fun t => hn (hT i hi t))).trans (h.block i hi hn)⟩

/-- What a heap is behind a hit more. -/
def More (w w' : World) (hb : Nat) (k : Int) (v : Value) (d : Array Ht) (x : Ht) : Prop :=
  ∃ g cap d', d'.toList.Perm (d.toList ++ [x]) ∧ MaxH d' ∧ Hp w' hb k (.slice (some ⟨g, 0, none⟩) (d.size + 1) cap) d' ∧ Kp (fun b => b = hb ∨ some b = v.ownBlock) w w' ∧ (v.ownBlock = some g ∨ w.heap.size ≤ g)

set_option maxHeartbeats 2000000 in
set_option maxRecDepth 100000 in
theorem push25 {w : World} {hb : Nat} {k : Int} {v : Value} {d : Array Ht} (h : Hp w hb k v d) (hm : MaxH d) (hn : d.size ≤ 3000) (x : Ht) :
    Calls Tryz.prog 76 #[.iface 115 (.pointer (some ⟨hb, 1, none⟩)), .iface 57 (hv x)] w fun e w' => e = .returned (.tuple #[]) ∧ More w w' hb k v d x := by
  have H : Hid (Hp w hb k v d ∧ MaxH d) := ⟨h, hm⟩
  have hp := push75 h (by omega) x
  have hi := inv_push hb w
  obtain ⟨n, hN⟩ : ∃ n, n = d.size := ⟨_, rfl⟩
  have N : Hid (n = d.size) := hN
  rw [← hN] at hn
  clear h hm hN
  go_enter Tryz.func76, Tryz.ntmps76
  go_wp2_with fail
  refine hp.mono ?_
  rintro e w1 ⟨rfl, g, cap, h1, k1, hg⟩
  have hu := up_push H.out.2 x
  have e1 := N.out
  have X : Hid (Hp w1 hb k (.slice (some ⟨g, 0, none⟩) (n + 1) cap) (d.push x) ∧ UpInv (d.push x) n ∧ (d.push x).size = n + 1) := ⟨by rw [e1]; exact h1, by rw [e1]; exact hu, by rw [Array.size_push, e1]⟩
  have K1 : Hid (Kp (fun b => b = hb ∨ some b = v.ownBlock) w w1 ∧ (v.ownBlock = some g ∨ w.heap.size ≤ g)) := ⟨k1, hg⟩
  clear hp hi h1 k1 hg hu e1
  have hi := inv_len hb _ w1 X.out.1.cell1
  go_wp2_with fail
  refine (len72 _ _ _ _).mono ?_
  rintro e w2 ⟨rfl, e2⟩
  subst e2
  have e3 : ((n + 1 : Nat) : Int) - 1 = (n : Int) := by omega
  clear hi
  go_wp2_with fail
  refine (up_c X.out.1 X.out.2.2 (by omega) n (by omega) X.out.2.1).mono ?_
  rintro e w3 ⟨rfl, d', p1, p2, p3, p4⟩
  have Y : Hid (d'.toList.Perm (d.push x).toList ∧ MaxH d' ∧ Hp w3 hb k (.slice (some ⟨g, 0, none⟩) (n + 1) cap) d' ∧ Kp (fun b => b = g) w2 w3) := ⟨p1, p2, p3, p4⟩
  clear p1 p2 p3 p4
  go_wp2
  go_end0
  obtain ⟨p1, p2, p3, p4⟩ := Y.out
  obtain ⟨k1, hg⟩ := K1.out
  refine ⟨rfl, g, cap, d', by simpa using p1, p2, by rw [← N.out]; exact p3, k1.trans' p4 ?_, hg⟩
  rintro i hi rfl
  rcases hg with hg | hg
  · exact .inr hg.symm
  · omega

set_option maxHeartbeats 2000000 in
set_option maxRecDepth 100000 in
theorem fix26 {w : World} {hb g n cap : Nat} {k : Int} {d : Array Ht} (h : Hp w hb k (.slice (some ⟨g, 0, none⟩) n cap) d) (hs : d.size = n) (hn : n ≤ 4000) (hn0 : 0 < n) (hu : DownInv d 0) :
    Calls Tryz.prog 78 #[.iface 115 (.pointer (some ⟨hb, 1, none⟩)), .int .i64 0] w fun e w' => e = .returned (.tuple #[]) ∧ Fixed w w' hb g n cap k d := by
  have H : Hid (Hp w hb k (.slice (some ⟨g, 0, none⟩) n cap) d ∧ DownInv d 0 ∧ d.size = n) := ⟨h, hu, hs⟩
  have hi := inv_len hb _ w h.cell1
  clear h hs hu
  go_enter Tryz.func78, Tryz.ntmps78
  go_wp2_with fail
  refine (len72 _ _ _ _).mono ?_
  rintro e w2 ⟨rfl, e2⟩
  subst e2
  clear hi
  go_wp2_with fail
  refine (down_c H.out.1 H.out.2.2 hn 0 hn0 H.out.2.1).mono ?_
  rintro e w3 ⟨⟨b, rfl⟩, d', p1, p2, p3, p4⟩
  have Y : Hid (d'.toList.Perm d.toList ∧ MaxH d' ∧ Hp w3 hb k (.slice (some ⟨g, 0, none⟩) n cap) d' ∧ Kp (fun b => b = g) w2 w3) := ⟨p1, p2, p3, p4⟩
  clear p1 p2 p3 p4
  cases b with
  | true =>
    go_wp2
    go_end0
    exact ⟨rfl, d', Y.out⟩
  | false =>
    go_wp2_with fail
    refine (up_c (d := d') Y.out.2.2.1 (by have := Y.out.1.length_eq; have := H.out.2.2; simp at *; omega) hn 0 hn0 ⟨fun i h0 h1 _ => Y.out.2.1 i h0 h1, fun _ _ _ _ h0 => absurd h0 (Nat.lt_irrefl _)⟩).mono ?_
    rintro e w4 ⟨rfl, d'', p1, p2, p3, p4⟩
    have Y2 : Hid (d''.toList.Perm d'.toList ∧ MaxH d'' ∧ Hp w4 hb k (.slice (some ⟨g, 0, none⟩) n cap) d'' ∧ Kp (fun b => b = g) w3 w4) := ⟨p1, p2, p3, p4⟩
    clear p1 p2 p3 p4
    go_wp2
    go_end0
    exact ⟨rfl, d'', Y2.out.1.trans Y.out.1, Y2.out.2.1, Y2.out.2.2.1, Y.out.2.2.2.trans Y2.out.2.2.2⟩
end Go.Proofs.YteaeaoekaoedoaaGreat.Tk
