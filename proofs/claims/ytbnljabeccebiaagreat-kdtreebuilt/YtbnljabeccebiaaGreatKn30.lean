import Derived.Test.YtbnljabeccebiaaGreatKnKdPu
import Derived.Test.YtbnljabeccebiaaGreatKnKdIi
import Derived.Test.YtbnljabeccebiaaGreatKn18
/- A search of a tree, in memory. -/
namespace Go.Proofs.YtbnljabeccebiaaGreat
open Go.RowKit Go.Sort

abbrev pcells (p : Pt) (vl vh vr : Value) : Array Value := #[.int .i64 2, vl, vh, .int .u64 0, .int .u64 0, .slice none 0 0, vr, .int .i64 p.cut.1, .int .i64 p.cut.2.1, .int .i64 p.cut.2.2, kidV (p.kids.map Prod.fst), kidV (p.kids.map Prod.snd)]
/-- Rows that can be read, in a slice with an address. -/
def RdWs (w : World) (v : Value) (rs : List Rw) : Prop := RdW w v rs ∧ ∃ g o cap, v = .slice (some ⟨g, o, none⟩) rs.length cap ∧ rs.length ≤ cap
/-- A tree that can be read. -/
def TrR (w0 : World) (T : Nat → Pt) : Nat → Nat → Prop
  | 0, _ => False
  | n + 1, b => ∃ vl vh vr, w0.heap[b]? = some (.cells (pcells (T b) vl vh vr) 117 (0, 0)) ∧ RdI w0 vl (T b).L ∧ RdI w0 vh (T b).H ∧ match (T b).kids with
    | none => RdWs w0 vr (T b).rs
    | some (l, h) => vr = .slice none 0 0 ∧ TrR w0 T n l ∧ TrR w0 T n h
theorem TrR.mono {w0 : World} {T : Nat → Pt} : ∀ {n b : Nat}, TrR w0 T n b → TrR w0 T (n + 1) b
  | 0, _, h => h.elim
  | n + 1, b, h => by
    obtain ⟨vl, vh, vr, h1, h2, h3, h4⟩ := h
    refine ⟨vl, vh, vr, h1, h2, h3, ?_⟩
    cases hk : (T b).kids with
    | none => rw [hk] at h4; exact h4
    | some lh =>
      obtain ⟨l, hh⟩ := lh
      rw [hk] at h4
      exact ⟨h4.1, TrR.mono h4.2.1, TrR.mono h4.2.2⟩
theorem own_rdw {w : World} {v : Value} {d : List Rt} {g : Nat} (h : OwnRs w v d) (hg : v.ownBlock = some g) : RdWs w v (d.map rwR) := by
  rcases h.row.2 with ⟨rfl, _⟩ | ⟨g', cap, cur, rfl, _, _, hle, _⟩
  · cases hg
  · have hx := (rwAt_own h.row).1.rd
    refine ⟨?_, g', 0, cap, by rw [List.length_map], by rw [List.length_map]; exact hle⟩
    exact RwRd.rdw hx (fun x hx => (h.vec x hx).rd)
theorem TrO.rd {w : World} {T : Nat → Pt} : ∀ {n b : Nat} {F : List Nat}, TrO w T n b F → TrR w T n b
  | 0, _, _, h => h.elim
  | n + 1, b, F, h => by
    obtain ⟨vl, vh, vr, hp, h⟩ := h
    refine ⟨vl, vh, vr, hp.blk, hp.low.rd, hp.high.rd, ?_⟩
    cases hk : (T b).kids with
    | none =>
      rw [hk] at h
      obtain ⟨d, g, h1, h2, h3, _⟩ := h
      rw [← h2]
      exact own_rdw h1 h3
    | some lh =>
      obtain ⟨l, hh⟩ := lh
      rw [hk] at h
      obtain ⟨h0, F1, F2, h1, h2, _⟩ := h
      exact ⟨h0, TrO.rd h1, TrO.rd h2⟩
/-- A part that the search has met, in block pb. -/
def MP (w0 W : World) (T : Nat → Pt) (N pb : Nat) (p : Pt) : Prop := ∃ vl vh vr, W.heap[pb]? = some (.cells (pcells p vl vh vr) 117 (0, 0)) ∧ RdI w0 vl p.L ∧ RdI w0 vh p.H ∧ match p.kids with
  | none => RdWs w0 vr p.rs
  | some (l, h) => vr = .slice none 0 0 ∧ TrR w0 T N l ∧ TrR w0 T N h
theorem TrR.mp {w0 W : World} {T : Nat → Pt} {N b : Nat} (h : TrR w0 T (N + 1) b) (g : Gb w0 W) : MP w0 W T N b (T b) := by
  obtain ⟨vl, vh, vr, h1, h2, h3, h4⟩ := h
  exact ⟨vl, vh, vr, by rw [g.block b (Array.getElem?_eq_some_iff.1 h1).1]; exact h1, h2, h3, h4⟩
theorem MP.kp {S : Nat → Prop} {w0 W W' : World} {T : Nat → Pt} {N pb : Nat} {p : Pt} (h : MP w0 W T N pb p) (k : Tk.Kp S W W') (hn : ¬ S pb) : MP w0 W' T N pb p := by
  obtain ⟨vl, vh, vr, h1, h2⟩ := h
  exact ⟨vl, vh, vr, by rw [k.block pb (Array.getElem?_eq_some_iff.1 h1).1 hn]; exact h1, h2⟩
theorem MP.gb {w0 W W' : World} {T : Nat → Pt} {N pb : Nat} {p : Pt} (h : MP w0 W T N pb p) (g : Gb W W') : MP w0 W' T N pb p := h.kp (kpF g) (fun h => h)

/-- A candidate: its part's block, the part. -/
abbrev encM (q : List Int) (x : Nat × Pt) : List Value := [.pointer (some ⟨x.1, 0, none⟩), .int .u64 (hi (bnd q x.2)), .int .u64 (lo (bnd q x.2))]
/-- The search in block sb: what has turned since w0 lies in blocks of its own. -/
structure SAt (w0 W : World) (T : Nat → Pt) (N sb hb k : Nat) (vq : Value) (q : List Int) (bud : Nat) (seen : List Rw) (O : List Nat) (M : List (Nat × Pt)) (vs vm vo vh : Value) : Prop where
  blk : W.heap[sb]? = some (.cells #[vq, .pointer (some ⟨hb, 0, none⟩), .int .i64 (bud : Int), vs, vm, vo] 90 (0, 0))
  sbB : w0.heap.size ≤ sb
  hbB : w0.heap.size ≤ hb
  has : Tk.Has W hb k vh (Tk.firsts k (hitsOf q seen))
  hhB : ∀ g, vh.ownBlock = some g → w0.heap.size ≤ g
  sn : Own W w0.heap.size vs (idsOf seen)
  mt : W.ownsRow w0.heap.size 119 3 vm M.length (M.flatMap (encM q))
  op : Own W w0.heap.size vo (O.map fun i : Nat => (i : Int))
  olt : ∀ i ∈ O, i < M.length
  prt : ∀ x ∈ M, MP w0 W T N x.1 x.2
  ne : ∀ g, vs.ownBlock = some g → vo.ownBlock ≠ some g
  gb : Gb w0 W
  q : RdI w0 vq q
  few : seen.length ≤ 512
  mfew : M.length ≤ 10000
theorem SAt.cells {w0 W : World} {T : Nat → Pt} {N sb hb k : Nat} {vq : Value} {q : List Int} {bud : Nat} {seen : List Rw} {O : List Nat} {M : List (Nat × Pt)} {vs vm vo vh : Value} (h : SAt w0 W T N sb hb k vq q bud seen O M vs vm vo vh) :
    W.cell? ⟨sb, 0, none⟩ = some vq ∧ W.cell? ⟨sb, 1, none⟩ = some (.pointer (some ⟨hb, 0, none⟩)) ∧ W.cell? ⟨sb, 2, none⟩ = some (.int .i64 (bud : Int)) ∧ W.cell? ⟨sb, 3, none⟩ = some vs ∧ W.cell? ⟨sb, 4, none⟩ = some vm ∧ W.cell? ⟨sb, 5, none⟩ = some vo ∧ ∀ i, W.frozen? ⟨sb, i, none⟩ = false :=
  ⟨cell_cur h.blk rfl, cell_cur h.blk rfl, cell_cur h.blk rfl, cell_cur h.blk rfl, cell_cur h.blk rfl, cell_cur h.blk rfl, fun i => by simp [World.frozen?, h.blk]⟩
theorem SAt.grow {w0 W W' : World} {T : Nat → Pt} {N sb hb k : Nat} {vq : Value} {q : List Int} {bud : Nat} {seen : List Rw} {O : List Nat} {M : List (Nat × Pt)} {vs vm vo vh : Value} (h : SAt w0 W T N sb hb k vq q bud seen O M vs vm vo vh) (g : Gb W W') : SAt w0 W' T N sb hb k vq q bud seen O M vs vm vo vh where
  blk := by rw [g.block sb (Array.getElem?_eq_some_iff.1 h.blk).1]; exact h.blk
  sbB := h.sbB
  hbB := h.hbB
  has := h.has.gr g
  hhB := h.hhB
  sn := own_kpI h.sn (kpF g) (fun _ _ h => h)
  mt := h.mt.kept (row := none) ⟨g.os, g.tape, g.output, g.size, fun k hk _ => g.block k hk⟩ (by cases vm.ownBlock <;> simp)
  op := own_kpI h.op (kpF g) (fun _ _ h => h)
  olt := h.olt
  prt := fun x hx => (h.prt x hx).gb g
  ne := h.ne
  gb := gb_trans h.gb g
  q := h.q
  few := h.few
  mfew := h.mfew
/-- The candidate at a place. -/
theorem flM_get (q : List Int) : ∀ (M : List (Nat × Pt)) (i j : Nat) (hi' : i < M.length), j < 3 → (M.flatMap (encM q))[i * 3 + j]? = (encM q M[i])[j]?
  | x :: r, 0, j, _, hj => by rw [List.flatMap_cons, List.getElem?_append_left (by simp; omega)]; simp
  | x :: r, i + 1, j, hi', hj => by
    rw [List.flatMap_cons, List.getElem?_append_right (by simp; omega)]
    have := flM_get q r i j (by simpa using hi') hj
    simp only [List.length_cons, List.length_nil, List.getElem_cons_succ]
    rw [← this]
    congr 1
    omega
theorem SAt.cand {w0 W : World} {T : Nat → Pt} {N sb hb k : Nat} {vq : Value} {q : List Int} {bud : Nat} {seen : List Rw} {O : List Nat} {M : List (Nat × Pt)} {vs vm vo vh : Value} (h : SAt w0 W T N sb hb k vq q bud seen O M vs vm vo vh) {i : Nat} (hi' : i < M.length) :
    ∃ mb mc, vm = .slice (some ⟨mb, 0, none⟩) M.length mc ∧ M.length ≤ mc ∧ W.cell? ⟨mb, i * 3, none⟩ = some (.pointer (some ⟨M[i].1, 0, none⟩)) ∧ W.cell? ⟨mb, i * 3 + 1, none⟩ = some (.int .u64 (hi (bnd q M[i].2))) ∧ W.cell? ⟨mb, i * 3 + 2, none⟩ = some (.int .u64 (lo (bnd q M[i].2))) := by
  rcases h.mt.2 with ⟨_, h0⟩ | ⟨mb, mc, cur, e, _, hh, hle, _, hsz, htk⟩
  · omega
  · have key : ∀ j, j < 3 → ∀ y, (encM q M[i])[j]? = some y → W.cell? ⟨mb, i * 3 + j, none⟩ = some y := fun j hj y hy => by
      rw [← flM_get q M i j hi' hj, ← htk, List.getElem?_take_of_lt (by omega), Array.getElem?_toList] at hy
      exact cell_cur hh hy
    exact ⟨mb, mc, e, hle, key 0 (by omega) _ rfl, key 1 (by omega) _ rfl, key 2 (by omega) _ rfl⟩
end Go.Proofs.YtbnljabeccebiaaGreat

/- (*kdtree.search).order; slices.BinarySearchFunc by it. -/
namespace Go.Proofs.YtbnljabeccebiaaGreat
open Go.RowKit Go.Sort

theorem nine_call {w0 W w' : World} {p0 p1 p2 p3 p4 : Addr} {v0 v1 v2 v3 v4 : Value} (g : Tk.Gw W w')
    (h : Tk.Gw w0 W ∧ W.cell? p0 = some v0 ∧ W.cell? p1 = some v1 ∧ W.cell? p2 = some v2 ∧ W.cell? p3 = some v3 ∧ W.cell? p4 = some v4) :
    Tk.Gw w0 w' ∧ w'.cell? p0 = some v0 ∧ w'.cell? p1 = some v1 ∧ w'.cell? p2 = some v2 ∧ w'.cell? p3 = some v3 ∧ w'.cell? p4 = some v4 := by
  obtain ⟨a, b0, b1, b2, b3, b4⟩ := h
  exact ⟨a.trans g, Tk.gr_keeps g.gr b0, Tk.gr_keeps g.gr b1, Tk.gr_keeps g.gr b2, Tk.gr_keeps g.gr b3, Tk.gr_keeps g.gr b4⟩
theorem nine_alloc {w0 W : World} {o : Obj} {p0 p1 p2 p3 p4 : Addr} {v0 v1 v2 v3 v4 : Value}
    (h : Tk.Gw w0 W ∧ W.cell? p0 = some v0 ∧ W.cell? p1 = some v1 ∧ W.cell? p2 = some v2 ∧ W.cell? p3 = some v3 ∧ W.cell? p4 = some v4) :
    Tk.Gw w0 (W.alloc o) ∧ (W.alloc o).cell? p0 = some v0 ∧ (W.alloc o).cell? p1 = some v1 ∧ (W.alloc o).cell? p2 = some v2 ∧ (W.alloc o).cell? p3 = some v3 ∧ (W.alloc o).cell? p4 = some v4 :=
  nine_call ((Tk.Gw.refl _).alloc _) h
set_option maxHeartbeats 2000000 in
set_option maxRecDepth 100000 in
theorem sorder_c {w : World} {sb mb n mc i j : Nat} {ah al bh bl : Int} (c4 : w.cell? ⟨sb, 4, none⟩ = some (.slice (some ⟨mb, 0, none⟩) n mc)) (hi' : i < n) (hj : j < n)
    (a1 : w.cell? ⟨mb, i * 3 + 1, none⟩ = some (.int .u64 ah)) (a2 : w.cell? ⟨mb, i * 3 + 2, none⟩ = some (.int .u64 al)) (b1 : w.cell? ⟨mb, j * 3 + 1, none⟩ = some (.int .u64 bh)) (b2 : w.cell? ⟨mb, j * 3 + 2, none⟩ = some (.int .u64 bl)) :
    Calls Tryz.prog 68 #[.pointer (some ⟨sb, 0, none⟩), .int .i64 (i : Int), .int .i64 (j : Int)] w fun e w' => e = .returned (.int .i64 (Tk.cor (Tk.cw bh bl ah al) (Tk.ci (i : Int) (j : Int)))) ∧ Tk.Gw w w' := by
  have hii : (i : Int) < (n : Int) := by omega
  have hji : (j : Int) < (n : Int) := by omega
  go_enter Tryz.func68, Tryz.ntmps68
  go_wp2
  have C : Tk.Gw w w := Tk.Gw.refl _
  go_region_held3 (fun w' => Tk.Gw w w' ∧ w'.cell? ⟨sb, 4, none⟩ = some (.slice (some ⟨mb, 0, none⟩) n mc) ∧ w'.cell? ⟨mb, i * 3 + 1, none⟩ = some (.int .u64 ah) ∧ w'.cell? ⟨mb, i * 3 + 2, none⟩ = some (.int .u64 al) ∧ w'.cell? ⟨mb, j * 3 + 1, none⟩ = some (.int .u64 bh) ∧ w'.cell? ⟨mb, j * 3 + 2, none⟩ = some (.int .u64 bl)) (first | (with_reducible exact nine_call (by assumption) (by assumption)) | (with_reducible assumption) | (with_reducible exact nine_alloc (by assumption)) | exact ⟨C.drew, c4, a1, a2, b1, b2⟩) (first | (go_at_call 104; refine (Tk.cmpw _ _ _ _ _).mono ?_; rintro e w' ⟨rfl, hg⟩) | (go_at_call 57; refine (Tk.compare_c _ _ _).mono ?_; rintro e w' ⟨rfl, rfl⟩) | (go_at_call 103; refine (Tk.or_new _ _ _).mono ?_; rintro e w' ⟨rfl, rfl⟩))
  all_goals
    go_wp2
    go_ret
    exact ⟨rfl, And.left (by assumption)⟩
set_option maxHeartbeats 2000000 in
set_option maxRecDepth 100000 in
/-- BinarySearchFunc at numbers: those ahead of the place p are below, the others above. -/
theorem bsi_c {w : World} {v : Value} {L : List Int} {sb p : Nat} {tg : Int} {cf : Int → Int} (hL : RdI w v L) (hn : L.length ≤ 100000) (hp : p ≤ L.length) (hlo : ∀ t (_ : t < L.length), t < p → cf L[t]! < 0) (hhi : ∀ t (_ : t < L.length), p ≤ t → 0 < cf L[t]!)
    (hc : ∀ W, Tk.Gw w W → ∀ t, t < L.length → Calls Tryz.prog 68 #[.pointer (some ⟨sb, 0, none⟩), .int .i64 L[t]!, .int .i64 tg] W fun e w' => e = .returned (.int .i64 (cf L[t]!)) ∧ Tk.Gw W w') :
    Calls Tryz.prog 67 #[v, .int .i64 tg, .func (.func 68) #[.pointer (some ⟨sb, 0, none⟩)] #[]] w fun e w' => e = .returned (.tuple #[.int .i64 (p : Int), .bool false]) ∧ Tk.Gw w w' := by
  obtain ⟨a, cap, rfl, hrd⟩ := hL
  have HD : Hid (∀ i, i < L.length → ∃ b o, a = some ⟨b, o, none⟩ ∧ w.cell? ⟨b, o + i, none⟩ = some (.int .i64 L[i]!)) := hrd
  have HC : Hid (∀ W, Tk.Gw w W → ∀ t, t < L.length → Calls Tryz.prog 68 #[.pointer (some ⟨sb, 0, none⟩), .int .i64 L[t]!, .int .i64 tg] W fun e w' => e = .returned (.int .i64 (cf L[t]!)) ∧ Tk.Gw W w') := hc
  have HP : Hid ((∀ t (_ : t < L.length), t < p → cf L[t]! < 0) ∧ (∀ t (_ : t < L.length), p ≤ t → 0 < cf L[t]!)) := ⟨hlo, hhi⟩
  obtain ⟨n, hN⟩ : ∃ n, n = L.length := ⟨_, rfl⟩
  have N : Hid (n = L.length) := hN
  rw [← hN] at hn hp ⊢
  clear hrd hc hlo hhi hN
  go_enter Tryz.func67, Tryz.ntmps67
  go_wp2
  go_loopw [9, 10] (fun iv jv W => ∃ i j : Nat, iv = .int .i64 (i : Int) ∧ jv = .int .i64 (j : Int) ∧ i ≤ p ∧ p ≤ j ∧ j ≤ n ∧ Hid (Tk.Gw w W)) (fun iv jv _ => (intOf jv).toNat - (intOf iv).toNat)
  case atStart => exact ⟨0, n, rfl, rfl, Nat.zero_le _, hp, Nat.le_refl _, Tk.Gw.refl _⟩
  case round =>
    obtain ⟨i, j, rfl, rfl, hip, hpj, hjn, X⟩ := hrel
    by_cases hlt : i < j
    · have hlti : (i : Int) < (j : Int) := by omega
      have hm : (i + j) / 2 < L.length := by have := N.out; omega
      obtain ⟨b, o, ea, k1⟩ := HD.out ((i + j) / 2) hm
      subst ea
      have k1 := Tk.gr_keeps X.out.gr k1
      have cF := HC.out wr X.out ((i + j) / 2) hm
      have hcs : (cf L[(i + j) / 2]! < 0 ∧ (i + j) / 2 < p) ∨ (¬ cf L[(i + j) / 2]! < 0 ∧ p ≤ (i + j) / 2) := by
        by_cases h : (i + j) / 2 < p
        · exact .inl ⟨HP.out.1 _ hm h, h⟩
        · exact .inr ⟨by have := HP.out.2 _ hm (by omega); omega, by omega⟩
      generalize L[(i + j) / 2]! = x at *
      generalize cf x = z at *
      clear hm
      rcases hcs with ⟨hz, hpm⟩ | ⟨hz, hpm⟩
      · go_wp2_with fail
        go_fit cF
        rintro e w' ⟨rfl, hg⟩
        have HG : Hid (Tk.Gw w w') := X.out.trans hg
        clear cF k1 hg X
        go_wp2
        go_roundw
        case rel => exact ⟨(i + j) / 2 + 1, j, by rw [show ((i : Int) + (j : Int)) / 2 + 1 = (((i + j) / 2 + 1 : Nat) : Int) by omega], rfl, by omega, hpj, hjn, HG.out⟩
        case measure => simp [intOf]; omega
      · go_wp2_with fail
        go_fit cF
        rintro e w' ⟨rfl, hg⟩
        have HG : Hid (Tk.Gw w w') := X.out.trans hg
        clear cF k1 hg X
        go_wp2
        go_roundw
        case rel => exact ⟨i, (i + j) / 2, rfl, by rw [show ((i : Int) + (j : Int)) / 2 = (((i + j) / 2 : Nat) : Int) by omega], hip, by omega, by omega, HG.out⟩
        case measure => simp [intOf]; omega
    · obtain rfl : j = i := by omega
      obtain rfl : p = j := by omega
      have hlti : ¬ (p : Int) < (p : Int) := by omega
      by_cases hjl : p < n
      · have hjli : (p : Int) < (n : Int) := by omega
        have hm : p < L.length := by have := N.out; omega
        obtain ⟨b, o, ea, k1⟩ := HD.out p hm
        subst ea
        have k1 := Tk.gr_keeps X.out.gr k1
        have cF := HC.out wr X.out p hm
        have hz := HP.out.2 p hm (Nat.le_refl _)
        generalize L[p]! = x at *
        generalize cf x = z at *
        have hz0 : (z == 0) = false := by rw [beq_eq_false_iff_ne]; omega
        clear hm hz
        go_wp2_with fail
        go_fit cF
        rintro e w' ⟨rfl, hg⟩
        have HG : Hid (Tk.Gw w w') := X.out.trans hg
        clear cF k1 hg X
        go_wp2
        exact bodyPost_ret (v := .tuple #[.int .i64 (p : Int), .bool false]) (by simp [results, Tryz.results67, go_sem]) rfl ⟨rfl, HG.out⟩
      · have hjli : ¬ (p : Int) < (n : Int) := by omega
        go_wp2
        exact bodyPost_ret (v := .tuple #[.int .i64 (p : Int), .bool false]) (by simp [results, Tryz.results67, go_sem]) rfl ⟨rfl, X.out⟩
end Go.Proofs.YtbnljabeccebiaaGreat
