import Derived.Test.YtgbgejflmbhigaaGreatKw37
import Derived.Test.YtgbgejflmbhigaaGreatKw12
import Derived.Test.YtgbgejflmbhigaaGreatKw16
namespace Go.Proofs.YtgbgejflmbhigaaGreat
open Go.RowKit Go.Sort
set_option maxRecDepth 100000
set_option maxHeartbeats 4000000
def RegO (W:World) (L H I:List Int) (e:Ending) (W':World):Prop:=∃ v1 v2 v3,e=.returned (.agg #[.int .i64 2,v1,v2,.int .u64 0,.int .u64 0,v3])/\Gb W W'/\Own W' W.heap.size v1 L/\Own W' W.heap.size v2 H/\Own W' W.heap.size v3 I
theorem form_own {w:World} {B:Nat} {v:Value} {l:List Int} (h:Own w B v l):∃ a n c,v=.slice a n c:=by
 obtain ⟨a,c,e,_⟩:=h.rd
 exact ⟨a,_,c,e⟩
theorem region_c {w0 W:World} {T:Nat->Pt} {N pb d:Nat} {p:Pt} (hp:MP w0 W T N pb p) (ok:OkP T d N p) (g0:Gb w0 W) (hl:(rowsP T N p).length<=512) :
  Calls Tryz.prog 71 #[.pointer (some ⟨pb,0,none⟩)] W fun e W'=>RegO W p.L p.H (srt (idsOf (rowsP T N p))) e W':=by
 obtain ⟨l1,l2,l3,l4,_⟩:=(okP_box ok).lens
 have hp0:=hp
 obtain ⟨vl,vh,vr,hblk,rl,rh,_⟩:=hp
 have gA:Gb W (W.alloc (.cells #[.int .i64 0,.slice none 0 0,.slice none 0 0,.int .u64 0,.int .u64 0,.slice none 0 0] 97)).drew:=(gb_alloc (Below.refl _ _) _).drew
 have CL:Hid (∀ W',Gb (W.alloc (.cells #[.int .i64 0,.slice none 0 0,.slice none 0 0,.int .u64 0,.int .u64 0,.slice none 0 0] 97)).drew W'->Calls Tryz.prog 42 #[vl] W' fun e w'=>∃ v',e=.returned v'/\Own w' W'.heap.size v' p.L/\Gb W' w'):=fun W' g=>clone_c (rl.gb (gb_trans g0 (gb_trans gA g))) (by omega) (by omega)
 have CH:Hid (∀ W',Gb (W.alloc (.cells #[.int .i64 0,.slice none 0 0,.slice none 0 0,.int .u64 0,.int .u64 0,.slice none 0 0] 97)).drew W'->Calls Tryz.prog 42 #[vh] W' fun e w'=>∃ v',e=.returned v'/\Own w' W'.heap.size v' p.H/\Gb W' w'):=fun W' g=>clone_c (rh.gb (gb_trans g0 (gb_trans gA g))) (by omega) (by omega)
 have CI:Hid (∀ W',Gb (W.alloc (.cells #[.int .i64 0,.slice none 0 0,.slice none 0 0,.int .u64 0,.int .u64 0,.slice none 0 0] 97)).drew W'->Calls Tryz.prog 111 #[.pointer (some ⟨pb,0,none⟩)] W' fun e w'=>∃ v',e=.returned v'/\Own w' W'.heap.size v' (srt (idsOf (rowsP T N p)))/\Gb W' w'):=fun W' g=>ids_c (hp0.gb (gb_trans gA g)) ok (gb_trans g0 (gb_trans gA g)) hl
 have c1:=gb_keeps gA (cell_cur (i:=1) hblk rfl)
 have c2:=gb_keeps gA (cell_cur (i:=2) hblk rfl)
 have pbl:=(Array.getElem?_eq_some_iff.1 hblk).1
 have FIN:Hid (∀ w3 v1 v2 v3,Gb (W.alloc (.cells #[.int .i64 0,.slice none 0 0,.slice none 0 0,.int .u64 0,.int .u64 0,.slice none 0 0] 97)).drew w3->Own w3 (W.alloc (.cells #[.int .i64 0,.slice none 0 0,.slice none 0 0,.int .u64 0,.int .u64 0,.slice none 0 0] 97)).drew.heap.size v1 p.L->Own w3 (W.alloc (.cells #[.int .i64 0,.slice none 0 0,.slice none 0 0,.int .u64 0,.int .u64 0,.slice none 0 0] 97)).drew.heap.size v2 p.H->Own w3 (W.alloc (.cells #[.int .i64 0,.slice none 0 0,.slice none 0 0,.int .u64 0,.int .u64 0,.slice none 0 0] 97)).drew.heap.size v3 (srt (idsOf (rowsP T N p))) ->
   Hid (RegO W p.L p.H (srt (idsOf (rowsP T N p))) (.returned (.agg #[.int .i64 2,v1,v2,.int .u64 0,.int .u64 0,v3])) ((((((w3.setCell ⟨W.heap.size,0,none⟩ (.int .i64 2)).setCell ⟨W.heap.size,1,none⟩ v1).setCell ⟨W.heap.size,2,none⟩ v2).setCell ⟨W.heap.size,3,none⟩ (.int .u64 0)).setCell ⟨W.heap.size,4,none⟩ (.int .u64 0)).setCell ⟨W.heap.size,5,none⟩ v3))/\(w3.cell? ⟨pb,1,none⟩=some vl->w3.cell? ⟨pb,2,none⟩=some vh->(fun W=>W.cell? ⟨pb,1,none⟩=some vl/\W.cell? ⟨pb,2,none⟩=some vh) ((((((w3.setCell ⟨W.heap.size,0,none⟩ (.int .i64 2)).setCell ⟨W.heap.size,1,none⟩ v1).setCell ⟨W.heap.size,2,none⟩ v2).setCell ⟨W.heap.size,3,none⟩ (.int .u64 0)).setCell ⟨W.heap.size,4,none⟩ (.int .u64 0)).setCell ⟨W.heap.size,5,none⟩ v3)) /\
   (∃ y,w3.cell? ⟨W.heap.size,0,none⟩=some y)/\(∃ y,w3.cell? ⟨W.heap.size,1,none⟩=some y)/\(∃ y,w3.cell? ⟨W.heap.size,2,none⟩=some y)/\(∃ y,w3.cell? ⟨W.heap.size,3,none⟩=some y)/\(∃ y,w3.cell? ⟨W.heap.size,4,none⟩=some y)/\(∃ y,w3.cell? ⟨W.heap.size,5,none⟩=some y) /\
   w3.frozen? ⟨W.heap.size,0,none⟩=false/\w3.frozen? ⟨W.heap.size,1,none⟩=false/\w3.frozen? ⟨W.heap.size,2,none⟩=false/\w3.frozen? ⟨W.heap.size,3,none⟩=false/\w3.frozen? ⟨W.heap.size,4,none⟩=false/\w3.frozen? ⟨W.heap.size,5,none⟩=false):=by
  intro w3 v1 v2 v3 g o1 o2 o3
  have hb:w3.heap[W.heap.size]? = some (.cells #[.int .i64 0,.slice none 0 0,.slice none 0 0,.int .u64 0,.int .u64 0,.slice none 0 0] 97 (0,0)):=by
   rw [g.block W.heap.size (by simp [World.size_alloc])]
   exact heap_new W _
  have k0:Tk.Kp (fun b=>b=W.heap.size) w3 ((((((w3.setCell ⟨W.heap.size,0,none⟩ (.int .i64 2)).setCell ⟨W.heap.size,1,none⟩ v1).setCell ⟨W.heap.size,2,none⟩ v2).setCell ⟨W.heap.size,3,none⟩ (.int .u64 0)).setCell ⟨W.heap.size,4,none⟩ (.int .u64 0)).setCell ⟨W.heap.size,5,none⟩ v3):=(((((((Tk.Kp.refl (fun b=>b=W.heap.size) w3).setCell (.inl rfl) _).setCell (.inl rfl) _).setCell (.inl rfl) _).setCell (.inl rfl) _).setCell (.inl rfl) _).setCell (.inl rfl) _)
  have ob:∀ {v:Value} {l:List Int},Own w3 (W.alloc (.cells #[.int .i64 0,.slice none 0 0,.slice none 0 0,.int .u64 0,.int .u64 0,.slice none 0 0] 97)).drew.heap.size v l->Own ((((((w3.setCell ⟨W.heap.size,0,none⟩ (.int .i64 2)).setCell ⟨W.heap.size,1,none⟩ v1).setCell ⟨W.heap.size,2,none⟩ v2).setCell ⟨W.heap.size,3,none⟩ (.int .u64 0)).setCell ⟨W.heap.size,4,none⟩ (.int .u64 0)).setCell ⟨W.heap.size,5,none⟩ v3) W.heap.size v l:=fun ho=>by
   refine own_kpI (ho.mono (by simp [World.size_alloc])) k0 (fun b e e2=>?_)
   have:=(ho.lt b e).1
   simp [World.size_alloc] at this
   omega
  refine ⟨⟨v1,v2,v3,rfl,?_,ob o1,ob o2,ob o3⟩,fun a b=>⟨k0.cell a (by intro e;dsimp only at e;omega),k0.cell b (by intro e;dsimp only at e;omega)⟩,⟨_,cell_cur hb rfl⟩,⟨_,cell_cur hb rfl⟩,⟨_,cell_cur hb rfl⟩,⟨_,cell_cur hb rfl⟩,⟨_,cell_cur hb rfl⟩,⟨_,cell_cur hb rfl⟩,by simp [World.frozen?,hb],by simp [World.frozen?,hb],by simp [World.frozen?,hb],by simp [World.frozen?,hb],by simp [World.frozen?,hb],by simp [World.frozen?,hb]⟩
  exact (gb_trans gA g).trans (k0.gr (by have:=(gb_trans gA g).size;omega) (fun b e=>by rw [e];exact Nat.le_refl _))
 obtain ⟨al,cl,el,_⟩:=rl
 obtain ⟨ah,ch,eh,_⟩:=rh
 subst el eh
 generalize p.L.length=nl at *
 generalize p.H.length=nh at *
 have FS:(fun W=>W.cell? ⟨pb,1,none⟩=some (.slice al nl cl)/\W.cell? ⟨pb,2,none⟩=some (.slice ah nh ch)) (W.alloc (.cells #[.int .i64 0,.slice none 0 0,.slice none 0 0,.int .u64 0,.int .u64 0,.slice none 0 0] 97)).drew:=⟨c1,c2⟩
 clear hp0 hblk gA c1 c2 pbl l1 l2 l3 l4 ok g0 hl
 go_enter Tryz.func71,Tryz.ntmps71
 go_wp2_with fail
 refine wp_region_held_drew (S:=fun W=>W.cell? ⟨pb,1,none⟩=some (.slice al nl cl)/\W.cell? ⟨pb,2,none⟩=some (.slice ah nh ch)) (by kernel_rfl) (FS) (fun hHeld=>?_)
 refine tkn 0 ?_ rfl ?_ ?_;rotate_left;·(rintro w ⟨s0,s1⟩;go_simp;try rfl)
 try simp only [Act.put,List.getElem_toArray,List.getElem_cons_zero,List.setIfInBounds_toArray,List.set_cons_zero,List.set_cons_succ]
 refine tkn 1 ?_ rfl ?_ ?_;rotate_left;·(rintro w ⟨s0,s1⟩;go_simp;try rfl)
 try simp only [Act.put,List.getElem_toArray,List.getElem_cons_zero,List.getElem_cons_succ,List.setIfInBounds_toArray,List.set_cons_zero,List.set_cons_succ]
 refine tkn 2 ?_ rfl ?_ ?_;rotate_left;·(rintro w ⟨s0,s1⟩;go_simp;try rfl)
 try simp only [Act.put,List.getElem_toArray,List.getElem_cons_zero,List.getElem_cons_succ,List.setIfInBounds_toArray,List.set_cons_zero,List.set_cons_succ]
 refine tkn 3 ?_ rfl ?_ ?_;rotate_left;·(rintro w ⟨s0,s1⟩;go_simp;try rfl)
 try simp only [Act.put,List.getElem_toArray,List.getElem_cons_zero,List.getElem_cons_succ,List.setIfInBounds_toArray,List.set_cons_zero,List.set_cons_succ]
 refine tkn 4 ?_ rfl ?_ ?_;rotate_left;·(rintro w ⟨s0,s1⟩;go_simp;try rfl)
 try simp only [Act.put,List.getElem_toArray,List.getElem_cons_zero,List.getElem_cons_succ,List.setIfInBounds_toArray,List.set_cons_zero,List.set_cons_succ]
 refine tkn 6 ?_ rfl ?_ ?_;rotate_left;·(rintro w ⟨s0,s1⟩;go_simp;try rfl)
 try simp only [Act.put,List.getElem_toArray,List.getElem_cons_zero,List.getElem_cons_succ,List.setIfInBounds_toArray,List.set_cons_zero,List.set_cons_succ]
 refine tkn 7 ?_ rfl ?_ ?_;rotate_left;·(rintro w ⟨s0,s1⟩;go_simp;try rfl)
 try simp only [Act.put,List.getElem_toArray,List.getElem_cons_zero,List.getElem_cons_succ,List.setIfInBounds_toArray,List.set_cons_zero,List.set_cons_succ]
 refine tkn 8 ?_ rfl ?_ ?_;rotate_left;·(rintro w ⟨s0,s1⟩;go_simp;try rfl)
 try simp only [Act.put,List.getElem_toArray,List.getElem_cons_zero,List.getElem_cons_succ,List.setIfInBounds_toArray,List.set_cons_zero,List.set_cons_succ]
 refine tkn 9 ?_ rfl ?_ ?_;rotate_left;·(rintro w ⟨s0,s1⟩;go_simp;try rfl)
 try simp only [Act.put,List.getElem_toArray,List.getElem_cons_zero,List.getElem_cons_succ,List.setIfInBounds_toArray,List.set_cons_zero,List.set_cons_succ]
 refine tkn 10 ?_ rfl ?_ ?_;rotate_left;·(rintro w ⟨s0,s1⟩;go_simp;try rfl)
 try simp only [Act.put,List.getElem_toArray,List.getElem_cons_zero,List.getElem_cons_succ,List.setIfInBounds_toArray,List.set_cons_zero,List.set_cons_succ]
 refine tkn 12 ?_ rfl ?_ ?_;rotate_left;·(rintro w ⟨s0,s1⟩;go_simp;try rfl)
 try simp only [Act.put,List.getElem_toArray,List.getElem_cons_zero,List.getElem_cons_succ,List.setIfInBounds_toArray,List.set_cons_zero,List.set_cons_succ]
 refine rdn 5 rfl (fun K hK=>?_)
 ·go_simp
  go_fit (CL.out _ (Below.refl _ _))
  rintro e w1 ⟨v1,rfl,o1,g1⟩
  obtain ⟨a1,n1,c1,rfl⟩:=form_own o1
  refine hK.out _ _ ⟨gb_keeps g1 hHeld.1,gb_keeps g1 hHeld.2⟩ (fun hHeld=>?_)
  clear hK K
  try simp only [Act.put,List.getElem_toArray,List.getElem_cons_zero,List.getElem_cons_succ,List.setIfInBounds_toArray,List.set_cons_zero,List.set_cons_succ]
  refine rdn 11 rfl (fun K hK=>?_)
  ·go_simp
   go_fit (CH.out _ (g1))
   rintro e w2 ⟨v2,rfl,o2,g2⟩
   obtain ⟨a2,n2,c2,rfl⟩:=form_own o2
   refine hK.out _ _ ⟨gb_keeps g2 hHeld.1,gb_keeps g2 hHeld.2⟩ (fun hHeld=>?_)
   clear hK K
   try simp only [Act.put,List.getElem_toArray,List.getElem_cons_zero,List.getElem_cons_succ,List.setIfInBounds_toArray,List.set_cons_zero,List.set_cons_succ]
   refine rdn 13 rfl (fun K hK=>?_)
   ·go_simp
    go_fit (CI.out _ (gb_trans g1 g2))
    rintro e w3 ⟨v3,rfl,o3,g3⟩
    obtain ⟨a3,n3,c3,rfl⟩:=form_own o3
    refine hK.out _ _ ⟨gb_keeps g3 hHeld.1,gb_keeps g3 hHeld.2⟩ (fun hHeld=>?_)
    clear hK K
    try simp only [Act.put,List.getElem_toArray,List.getElem_cons_zero,List.getElem_cons_succ,List.setIfInBounds_toArray,List.set_cons_zero,List.set_cons_succ]
    refine tkn 14 ?_ rfl ?_ ?_;rotate_left;·(rintro w ⟨s0,s1⟩;go_simp;try rfl)
    try simp only [Act.put,List.getElem_toArray,List.getElem_cons_zero,List.getElem_cons_succ,List.setIfInBounds_toArray,List.set_cons_zero,List.set_cons_succ]
    obtain ⟨FF,K15,⟨y0,z0⟩,⟨y1,z1⟩,⟨y2,z2⟩,⟨y3,z3⟩,⟨y4,z4⟩,⟨y5,z5⟩,f0,f1,f2,f3,f4,f5⟩:=FIN.out w3 _ _ _ (gb_trans (gb_trans g1 g2) g3) (((o1.gb g2).gb g3).mono (Nat.le_refl _)) ((o2.gb g3).mono (g1.size)) (o3.mono (Nat.le_trans g1.size g2.size))
    clear o1 o2 o3 g1 g2 g3 FIN CL CH CI
    refine rdn 15 rfl (fun K hK=>?_)
    go_simp
    refine hK.out _ _ (K15 hHeld.1 hHeld.2) (fun hHeld=>?_)
    clear hK K
    try simp only [Act.put,List.getElem_toArray,List.getElem_cons_zero,List.getElem_cons_succ,List.setIfInBounds_toArray,List.set_cons_zero,List.set_cons_succ]
    refine wpAnyH_done (by kernel_rfl) ?_ _
    clear hHeld K15
    go_wp2
    refine bodyPost_ret (v:=.agg #[.int .i64 2,.slice a1 n1 c1,.slice a2 n2 c2,.int .u64 0,.int .u64 0,.slice a3 n3 c3]) (by simp [results,Tryz.results71,go_sem,z0,z1,z2,z3,z4,z5]) rfl ?_
    exact FF.out
end Go.Proofs.YtgbgejflmbhigaaGreat

namespace Go.Proofs.YtgbgejflmbhigaaGreat
open Go.RowKit Go.Shelf
set_option maxHeartbeats 2000000
attribute [local go_sem] Oper.semAt_some
def noDef (ops:Array Oper):Bool:=ops.all fun o=>match o.op with | .defer _=>false | _=>true
theorem noDef_spec {ops:Array Oper} (h:noDef ops=true) {i:Nat} {o:Oper} (ho:ops[i]? = some o):∀ c,o.op ≠ .defer c:=by
 intro c e
 unfold noDef at h
 rw [Array.all_eq_true] at h
 obtain ⟨hi,e2⟩:=Array.getElem?_eq_some_iff.1 ho
 have:=h i hi
 rw [e2,e] at this
 cases this
theorem opIn_of_op {P:Program} {ops:Array Oper} {Q:Exit->Act->World->Prop} {F:Fence} {n i:Nat} (hfn:∀ f,F.fn f) (hdp:F.depth=none) (hcl:∀ (n:Nat) f args w (R:Ending->World->Prop),Calls P f args w R->CallsIn F n P f args w R) (hrw:∀ (n:Nat) row args w (R:Value->World->Prop),Rows P row args w R->RowsIn F n P row args w R)
  (hno:¬ LetsOut Q) (hd:noDef ops=true) {K K':Act->World->Prop} (hK:∀ a w,K a w->K' a w) {a:Act} {w:World} (h:wpOp P ops Q i K a w):wpOpIn F n P ops Q i K' a w:=by
 unfold wpOp at h
 unfold wpOpIn
 cases ho:ops[i]? with
 | none=>rw [ho] at h;exact hK _ _ h
 | some o =>
  rw [ho] at h
  dsimp only at h ⊢
  split
  ·rename_i hw
   rw [if_pos hw] at h
   rcases h with h | h
   ·unfold Oper.wpIn
    refine ⟨fun f _=>hfn f,?_⟩
    rw [Oper.semAt_eq F.round _ _ (noDef_spec hd ho)]
    unfold Oper.wp at h
    generalize (execOp a.eval o).run P w=r at *
    cases r with
    | ok x w' =>
     cases x with
     | value v=>exact hK _ _ h
     | skip=>exact hK _ _ h
     | defer d=>exact hK _ _ h
     | enter f args =>
      refine ⟨fun e=>(by rw [hdp] at e;cases e),?_⟩
      refine hcl _ _ _ _ _ ?_
      refine Calls.mono h ?_
      intro e w'' he
      cases e with
      | returned v=>exact hK _ _ he
      | panicked c=>exact he
      | outgrown=>exact he
     | row r args =>
      refine ⟨fun e=>(by rw [hdp] at e;cases e),hrw _ _ _ _ _ ?_⟩
      exact Rows.mono h (fun v w'' he=>hK _ _ he)
     | _=>exact h.elim
    | halt x w' =>
     cases x with
     | panic v=>exact h
     | _=>exact h.elim
   ·exact absurd h.2 hno
  ·rename_i hw
   rw [if_neg hw] at h
   exact ⟨fun f _=>hfn f,hK _ _ h⟩
theorem anyIn_of_any' {P:Program} {ops:Array Oper} {Q:Exit->Act->World->Prop} {md:Region.Mode} {F:Fence} {n:Nat} (hfn:∀ f,F.fn f) (hdp:F.depth=none) (hcl:∀ (n:Nat) f args w (R:Ending->World->Prop),Calls P f args w R->CallsIn F n P f args w R) (hrw:∀ (n:Nat) row args w (R:Value->World->Prop),Rows P row args w R->RowsIn F n P row args w R)
  (hno:¬ LetsOut Q) (hd:noDef ops=true):∀ fuel listed a w,wpAny P md ops Q fuel listed a w->wpAnyIn F n P md ops Q fuel listed a w
 | 0,_,_,_,h=>h
 | fuel + 1,_listed,_a,_w,h=>⟨h.1,fun i hi=>opIn_of_op hfn hdp hcl hrw hno hd (fun a' w' h'=>anyIn_of_any' hfn hdp hcl hrw hno hd fuel _ a' w' h') (h.2 i hi)⟩
theorem rows_wide {P:Program} (n:Nat) (row:String) (args:Array Value) (w:World) (R:Value->World->Prop) (h:Rows P row args w R):RowsIn Fence.wide n P row args w R:=fun c cs _=>by
 obtain ⟨v,w'',h1,h2⟩:=h c cs
 exact ⟨v,w'',h1,stepsIn_wide.2 h2⟩
theorem regIn_round {P:Program} {ops:Array Oper} {Q:Exit->Act->World->Prop} {S:World->Prop} {l n id:Nat} {a:Act} {w:World} (hm:P.follows .mixedOrders=true) (hno:¬ LetsOut Q) (hd:noDef ops=true) (hS:S w.drew)
  (h:S w.drew->wpAnyH P .any ops Q S ops.size (Array.replicate ops.size false) a w.drew):(Code.region id ops true).wpIn (Fence.wide.inRound l) n P Q a w :=
 wpIn_region_any hm (anyIn_of_any' (fun _=>trivial) rfl (fun _n _f _args _w _R h=>CallsIn.inRound l (callsIn_wide.2 h)) (fun n row args w R h=>rows_wide n row args w R h) hno hd _ _ _ _ (wpAny_of_held _ _ _ _ (h hS)))
theorem regIn_wide {P:Program} {ops:Array Oper} {Q:Exit->Act->World->Prop} {S:World->Prop} {n id:Nat} {a:Act} {w:World} (hm:P.follows .mixedOrders=true) (hno:¬ LetsOut Q) (hd:noDef ops=true) (hS:S w.drew)
  (h:S w.drew->wpAnyH P .any ops Q S ops.size (Array.replicate ops.size false) a w.drew):(Code.region id ops true).wpIn Fence.wide n P Q a w :=
 wpIn_region_any hm (anyIn_of_any' (fun _=>trivial) rfl (fun _n _f _args _w _R h=>callsIn_wide.2 h) (fun n row args w R h=>rows_wide n row args w R h) hno hd _ _ _ _ (wpAny_of_held _ _ _ _ (h hS)))
def onlyN (K:Act->World->Prop):Exit->Act->World->Prop
 | .normal,a,w=>K a w
 | _,_,_=>False
theorem regIn_only {P:Program} {ops:Array Oper} {Q:Exit->Act->World->Prop} {S:World->Prop} {n id:Nat} {a:Act} {w:World} (hm:P.follows .mixedOrders=true) (hd:noDef ops=true) (hS:S w.drew)
  (h:S w.drew->wpAnyH P .any ops (onlyN (fun a w=>Q .normal a w)) S ops.size (Array.replicate ops.size false) a w.drew):(Code.region id ops true).wpIn Fence.wide n P Q a w:=by
 refine wpIn_mono (regIn_wide hm (fun h=>by obtain ⟨_,_,h⟩:=h;exact h) hd hS h) ?_
 intro e a w h
 cases e with
 | normal=>exact h
 | _=>exact h.elim
def GivesA (n:Nat) (P:Program) (gf:Nat) (lb:Array Value) (N:Nat) (arg:Nat->Array Value) (I:Nat->World->Prop):Prop :=
 ∀ (l:Nat) (J:Nat->World->Prop) (W:World),(∀ k W,J k W->I k W) ->
  (∀ k W W',J k W->Gb W W'->J k W') ->
  (∀ k W,k < N->J k W->YieldAt Fence.wide (n - 1) P l (arg k) W fun e W'=>e=.returned (.bool true)/\J (k + 1) W') ->
  J 0 W ->
  CallsIn Fence.wide n P gf (#[.func (.yield l) #[] #[]] ++ lb) W fun e W'=>(∃ v,e=.returned v)/\J N W'
theorem rangeA_c {n:Nat} {P:Program} {g:Operand} {ps:Array Tmp} {assign body:Code} {Q:Exit->Act->World->Prop} {a:Act} {w:World}
  {gf:Nat} {lb:Array Value} (hg:a.eval g=.func (.func gf) #[] lb) (eg:∀ args w,(callFunc gf args).run P w=.ok (.enter gf args) w)
  (N:Nat) (arg:Nat->Array Value) (hps:∀ k,ps.size=(arg k).size) (I:Nat->World->Prop)
  (hI:OwnFrom w.heap.size I) (h0:I 0 w)
  (hit:GivesA (n - 1) P gf lb N arg I) (a₁:Nat->Act)
  (hassign:∀ (l k:Nat) (W:World) (K:Act->World->Prop),K (a₁ k) W ->
   assign.wpIn (Fence.wide.inRound l) (n - 1 - 1) P (Exit.then K (fun _ _ _=>False)) { tmps:=(ps.zip (arg k)).foldl (fun t (p,v)=>t.setIfInBounds p v) a.tmps,defers:=[] } W)
  (hbody:∀ (l k:Nat) (W:World),k < N->I k W->body.wpIn (Fence.wide.inRound l) (n - 1 - 1) P (leftOn I (k + 1) W) (a₁ k) W)
  (hdone:∀ (D:Nat) (W:World),w.heap.size<=D->I N W->W.heap[D]? = some (.deferred (some []))->Q .normal { a with defers:={ target:=.collected D,args:=#[] } :: a.defers } W) :
  (Code.rangeFunc g ps assign body).wpIn Fence.wide n P Q a w:=by
 refine wpIn_rangeFunc fun fn hfn=>?_
 obtain ⟨rc,hrc⟩:∃ rc:LoopState->Option Code->Loop,rc=fun s p=>{ state:=s,pending:=p,fn:=fn,tmps:=a.tmps,params:=ps,assign:=assign,body:=body,defers:=w.heap.size }:=⟨_,rfl⟩
 obtain ⟨V,hV⟩:∃ V,(w.alloc (.deferred (some []))).alloc (.loop (rc .ready none))=V:=⟨_,rfl⟩
 have hlV:V.heap[w.heap.size + 1]? = some (.loop (rc .ready none)):=by
  rw [<- hV];have:=World.alloc_heap_new (w.alloc (.deferred (some []))) (.loop (rc .ready none));rwa [World.size_alloc] at this
 have hdV:V.heap[w.heap.size]? = some (.deferred (some [])):=by
  rw [<- hV];exact (Below.heap_alloc _ _ _ (by simp)).trans (World.alloc_heap_new w _)
 have hIV:I 0 V:=by rw [<- hV];exact hI.alloc _ (hI.alloc _ h0)
 refine ⟨w.heap.size + 1,[{ target:=.collected w.heap.size,args:=#[] }],V,{ target:=.fn (.func gf) lb,args:=#[.func (.yield (w.heap.size + 1)) #[] #[]] },V,gf,
  #[.func (.yield (w.heap.size + 1)) #[] #[]] ++ lb,V,?_,?_,fun _ _=>trivial,?_,fun h=>by simp [Fence.wide] at h,?_⟩
 ·rw [<- hV,hrc];exact run_enterLoop_outer _ _ _ _ _
 ·simp only [resolve,hg]
  simp [go_sem]
 ·simp [invoke,go_sem,eg]
 refine (hit (w.heap.size + 1)
  (fun k W=>I k W/\W.heap[w.heap.size + 1]? = some (.loop (rc .ready none))/\W.heap[w.heap.size]? = some (.deferred (some [])))
  V (fun _ _ h=>h.1) (fun k W W' h g=>⟨hI k W W' none h.1 (grown_of_gb g) (fun r e=>by cases e),gb_same g h.2.1,gb_same g h.2.2⟩) ?_ ⟨hIV,hlV,hdV⟩).mono ?_
 ·rintro k W hk ⟨hi,hl,hd⟩
  have hlt:w.heap.size + 1 < W.heap.size:=(Array.getElem?_eq_some_iff.1 hl).1
  have hy:=run_yield (P:=P) (args:=arg k) hl (by rw [hrc];simp [hps k])
  rw [hrc] at hy
  refine ⟨fn,_,assign,body,hy,roundIn_of_wpIn hfn (hassign _ k W _ ?_)⟩
  refine ⟨_,run_beginRound hl (by rw [hrc]),?_⟩
  obtain ⟨W2,hW2⟩:∃ W2,W.putObj (w.heap.size + 1) (.loop { rc .ready none with state:=.busy })=W2:=⟨_,rfl⟩
  rw [hW2]
  have hl2:W2.heap[w.heap.size + 1]? = some (.loop { rc .ready none with state:=.busy }):=by rw [<- hW2];exact World.putObj_heap_same hlt
  have hd2:W2.heap[w.heap.size]? = some (.deferred (some [])):=by rw [<- hW2];exact (World.putObj_heap_other (by omega)).trans hd
  have hi2:I k W2:=by rw [<- hW2];exact hI.putObj _ hi (by omega) hl rfl
  refine wpIn_mono (hbody _ k W2 hk hi2) ?_
  have fin:∀ (j:Option Code) (W3:World),KeepsOthers W2 W3 ->
    (Instr.endRound (w.heap.size + 1) j).run P W3=.ok (.bool j.isNone) (W3.putObj (w.heap.size + 1) (.loop (rc (if j.isNone then .ready else .done) j))) /\
    W3.heap[w.heap.size + 1]? = some (.loop { rc .ready none with state:=.busy }) /\
    (W3.putObj (w.heap.size + 1) (.loop (rc (if j.isNone then .ready else .done) j))).heap[w.heap.size + 1]? = some (.loop (rc (if j.isNone then .ready else .done) j)) /\
    (W3.putObj (w.heap.size + 1) (.loop (rc (if j.isNone then .ready else .done) j))).heap[w.heap.size]? = some (.deferred (some [])):=fun j W3 hk3=>by
   have hl3:=hk3.same _ _ hl2 rfl
   have:=run_endRound (P:=P) j hl3
   rw [hrc] at this ⊢
   exact ⟨this,by rw [hrc] at hl3;exact hl3,World.putObj_heap_same (Array.getElem?_eq_some_iff.1 hl3).1,(World.putObj_heap_other (by omega)).trans (hk3.same _ _ hd2 rfl)⟩
  rintro e a3 W3 hp
  cases e with
  | normal =>
   obtain ⟨hk3,hi3⟩:=hp
   obtain ⟨hr,hl3,hl4,hd4⟩:=fin none W3 hk3
   exact ⟨_,_,hr,rfl,hI.putObj _ hi3 (by omega) hl3 rfl,hl4,hd4⟩
  | ret=>exact hp.elim
  | exit id=>exact hp.elim
  | goto t=>exact hp.elim
  | panic ch=>exact hp.elim
  | outgrown=>exact hp.elim
 ·rintro e W2 ⟨⟨v,rfl⟩,hi,hl,hd⟩
  exact ⟨none,_,by have:=run_endLoop (P:=P) hl (by rw [hrc];simp);rw [hrc] at this;exact this,hdone _ _ (Nat.le_refl _) (hI.putObj _ hi (by omega) hl rfl) ((World.putObj_heap_other (by omega)).trans hd)⟩
theorem kback_c (a:Option Addr) (n c:Nat) (w:World):Calls Tryz.prog 70 #[.slice a n c] w fun e w'=>e=.returned (.func (.func 110) #[] #[.pointer (some ⟨w.heap.size,0,none⟩)])/\w.alloc (.cells #[.slice a n c] 37)=w':=by
 go_enter Tryz.func70,Tryz.ntmps70
 go_wp2
 go_ret
 exact ⟨rfl,rfl⟩
theorem back_gives (n:Nat) (_hn:1<=n) (Bb:Nat) (v:Value) (L:List Int) (hlen:L.length<=10000) (I:Nat->World->Prop) (hr:∀ k W,I k W->Boxed W Bb 37 v/\RdI W v L) :
  GivesA n Tryz.prog 110 #[.pointer (some ⟨Bb,0,none⟩)] L.length (fun k=>#[.int .i64 ((L.length - 1 - k:Nat):Int),.int .i64 L[L.length - 1 - k]!]) I:=by
 intro l J W hJI hgr hY h0
 refine callsIn_of_wp Tryz.func110 rfl trivial ?_ rfl
 simp only [Tryz.ntmps110,List.size_toArray,List.length_cons,List.length_nil,Nat.reduceAdd,Nat.reduceSub,Array.replicate_succ,Array.replicate_zero,List.push_toArray,List.append_toArray,List.nil_append,List.cons_append]
 obtain ⟨r1,r2⟩:=hr 0 W (hJI 0 W h0)
 obtain ⟨a,cap,rfl,_⟩:=r2
 have c1:=r1.cell
 obtain ⟨N,hN⟩:∃ N,N=L.length:=⟨_,rfl⟩
 have NH:Hid (N=L.length):=hN
 rw [<- hN] at hlen hr hY c1 ⊢
 clear hN
 gi_wp2
 clear c1 r1
 gi_loopw [3] (fun v wr=>∃ k:Nat,v=.int .i64 ((N:Int) - 1 - k)/\k<=N/\J k wr) (fun v _=>(intOf v + 1).toNat)
 case atStart=>exact ⟨0,by simp,Nat.zero_le _,h0⟩
 case round =>
  obtain ⟨k,rfl,hk,hj⟩:=hrel
  by_cases hlt:k < N
  ·have hlt':(0:Int)<=(N:Int) - 1 - k:=by omega
   obtain ⟨r1,r2⟩:=hr k wr (hJI k wr hj)
   obtain ⟨a',cap',ev,ha⟩:=r2
   obtain ⟨b,o,ea,e1⟩:=ha (N - 1 - k) (by have:=NH.out;omega)
   injection ev with ev1 ev2 ev3
   subst ev1;subst ev3;subst ea
   clear ha ev2
   have c1:=r1.cell
   have hY2:=hY k wr hlt hj
   have hcast:(N:Int) - 1 - k=((N - 1 - k:Nat):Int):=by omega
   rw [hcast] at hlt' ⊢
   have hidx:((N - 1 - k:Nat):Int) < (N:Int):=by omega
   have MS:Hid (N - 1 - k + 1=N - k):=by unfold Hid;omega
   have CS:Hid (((N - 1 - k:Nat):Int) - 1=(N:Int) - 1 - ((k + 1:Nat):Int)):=by unfold Hid;omega
   have hb1:((N - 1 - k:Nat):Int)<=10000:=by omega
   generalize L[N - 1 - k]! = x at *
   generalize N - 1 - k=t at *
   clear hY hr hcast
   obtain ⟨fn,tmps,assign,body,hy,hR⟩:=hY2
   gi_wp2
   refine hR.mono ?_
   rintro e W3 ⟨rfl,hJ3⟩
   clear hR hy
   gi_wp2
   go_roundw
   case rel=>exact ⟨k + 1,by first | (rw [<- CS.out];done) | (rw [<- CS.out];rfl) | (simp [CS.out]),by omega,hJ3⟩
   case measure=>first | (simp [intOf];done) | (simp [intOf];omega)
  ·have hlt':¬ (0:Int)<=(N:Int) - 1 - k:=by omega
   gi_wp2
   go_end0
   obtain rfl:k=N:=by omega
   exact ⟨⟨_,rfl⟩,hj⟩
end Go.Proofs.YtgbgejflmbhigaaGreat

namespace Go.Proofs.YtgbgejflmbhigaaGreat
open Go.RowKit Go.Shelf Go.Maps Go.Sort
theorem sortK_c {w:World} {base:Nat} {v:Value} {l:List Int} (h:Own w base v l) (hn:l.length<=100000) :
  Calls Tryz.prog 69 #[v] w fun e w'=>e=.returned (.tuple #[])/\Own w' base v (srt l)/\Tk.Kp (fun b=>v.ownBlock=some b) w w':=by
 rcases h.2 with ⟨rfl,h0⟩ | ⟨g,cap,cur,rfl,hg,hh,h1,h2,h3,h4⟩
 ·have hc:=Any.slices_Sort_int_none Tryz.laysSort none 0 w
  change Calls Tryz.prog 69 _ _ _ at hc
  refine hc.mono ?_
  rintro e w' ⟨rfl,e2⟩
  subst e2
  refine ⟨rfl,?_,Tk.Kp.refl _ _⟩
  have:l=[]:=List.eq_nil_of_length_eq_zero h0
  subst this
  rw [show srt []=[] by simp [srt]]
  exact own_nil _ _
 ·have hH:Holds (Value.int .i64) w g 0 l.toArray:=holds_of_blockI hh (by rw [Nat.mul_one] at h4;exact h4)
  have hc:=Any.slices_Sort_int Tryz.laysSort g 0 cap l w hH (Array.getElem?_eq_some_iff.1 hh).1 (by omega)
  change Calls Tryz.prog 69 _ _ _ at hc
  refine hc.mono ?_
  rintro e w' ⟨rfl,n,os,rfl⟩
  refine ⟨rfl,?_,?_⟩
  ·have:=ownsRow_sortedI (n:=n) (os:=os) (ts:=srt l) (srt_len l) hg hh h1 h2 h3
   unfold Own
   rw [srt_len];exact this
  ·exact (Tk.Kp.grown (grownBy_sortedI _)).mono (fun k _ e=>e.symm)
def sRw (l:List Rw):List Rw:=l.mergeSort fun x y=>decide (x.1<=y.1)
theorem sRw_perm (l:List Rw):(sRw l).Perm l:=List.mergeSort_perm _ _
theorem sRw_ids (l:List Rw):idsOf (sRw l)=srt (idsOf l):=by
 unfold idsOf sRw srt
 exact List.map_mergeSort (fun _ _ _ _=>rfl)
theorem SAt.sorted {w0 W W':World} {T:Nat->Pt} {N sb hb k:Nat} {vq:Value} {q:List Int} {bud:Nat} {seen:List Rw} {O:List Nat} {M:List (Nat × Pt)} {vs vm vo vh:Value} (h:SAt w0 W T N sb hb k vq q bud seen O M vs vm vo vh) (ho:Own W' w0.heap.size vs (srt (idsOf seen))) (kp:Tk.Kp (fun b=>vs.ownBlock=some b) W W'):SAt w0 W' T N sb hb k vq q bud (sRw seen) O M vs vm vo vh:=by
 have nn:∀ {b:Nat} {t:TypeId},Ty W b t->t ≠ 3->¬ vs.ownBlock=some b:=fun ht hne e=>ht.ne (h.tvs e) hne rfl
 refine ⟨by rw [kp.block sb (Array.getElem?_eq_some_iff.1 h.blk).1 (nn h.tsb (by decide))];exact h.blk,h.sbB,h.hbB,?_,h.hhB,by rw [sRw_ids];exact ho,own_kpR h.mt kp (fun g e=>nn (h.tvm e) (by decide)),own_kpI h.op kp (fun g e e2=>h.ne g e2 e),h.olt,fun x hx=>(h.prt x hx).kp kp (nn (h.tp hx) (by decide)),h.ne,h.gb.trans (kp.gr h.gb.size (fun b e=>(h.sn.lt b e).1)),h.q,by rw [(sRw_perm seen).length_eq];exact h.few,h.mfew⟩
 have e:Tk.firsts k (hitsOf q (sRw seen))=Tk.firsts k (hitsOf q seen):=Tk.firsts_perm k ((sRw_perm seen).map _)
 rw [e]
 exact h.has.kp kp (nn h.thb (by decide)) (fun g e=>nn (h.tvh e) (by decide))
def RgAt (W:World) (B:Nat) (v:Value) (l:List Reg):Prop:=∃ xs,W.ownsRow B 97 6 v l.length xs/\∀ i (_:i < l.length),∃ v1 v2 v3,l[i].S=2/\l[i].R=0/\xs[i * 6]? = some (.int .i64 2)/\xs[i * 6 + 1]? = some v1/\xs[i * 6 + 2]? = some v2/\xs[i * 6 + 3]? = some (.int .u64 0)/\xs[i * 6 + 4]? = some (.int .u64 0)/\xs[i * 6 + 5]? = some v3/\Own W B v1 l[i].L/\Own W B v2 l[i].H/\Own W B v3 l[i].I
theorem RgAt.kp {S:Nat->Prop} {W W':World} {B:Nat} {v:Value} {l:List Reg} (h:RgAt W B v l) (k:Tk.Kp S W W') (hS:NoInt W S) (hn:∀ g,v.ownBlock=some g->¬ S g):RgAt W' B v l:=by
 obtain ⟨xs,h1,h2⟩:=h
 refine ⟨xs,own_kpR h1 k hn,fun i hi'=>?_⟩
 obtain ⟨v1,v2,v3,s,r,a,b,c,d,e,f,o1,o2,o3⟩:=h2 i hi'
 exact ⟨v1,v2,v3,s,r,a,b,c,d,e,f,own_noint o1 k hS,own_noint o2 k hS,own_noint o3 k hS⟩
theorem RgAt.gb {W W':World} {B:Nat} {v:Value} {l:List Reg} (h:RgAt W B v l) (g:Gb W W'):RgAt W' B v l:=h.kp (kpF g) (noF _) (fun _ _ h=>h)
theorem RgAt.ty {W:World} {B:Nat} {v:Value} {l:List Reg} (h:RgAt W B v l) {g:Nat} (hg:v.ownBlock=some g):Ty W g 97:=by
 obtain ⟨xs,h1,_⟩:=h
 exact own_ty h1 hg
theorem RgAt.form {W:World} {B:Nat} {v:Value} {l:List Reg} (h:RgAt W B v l):∃ a c,v=.slice a l.length c:=by
 obtain ⟨xs,h1,_⟩:=h
 rcases h1.2 with ⟨e,h0⟩ | ⟨g,cap,cur,e,_⟩
 ·exact ⟨none,0,by rw [e,h0]⟩
 ·exact ⟨_,cap,e⟩
theorem Tryz.info_regn:(Tryz.prog.info? 97).map (fun i=>(i.zero,i.size,i.bytes))=some (some (.agg #[.int .i64 0,.slice none 0 0,.slice none 0 0,.int .u64 0,.int .u64 0,.slice none 0 0]),6,96):=by kernel_rfl
theorem info_regn:∃ i0,Tryz.prog.info? 97=some i0/\i0.zero=some (.agg #[.int .i64 0,.slice none 0 0,.slice none 0 0,.int .u64 0,.int .u64 0,.slice none 0 0])/\i0.size=6/\i0.bytes=96:=by
 have h:=Tryz.info_regn
 cases hi:Tryz.prog.info? 97 with
 | none=>rw [hi] at h;cases h
 | some i =>
  rw [hi] at h
  simp only [Option.map_some,Option.some.injEq,Prod.mk.injEq] at h
  exact ⟨i,rfl,h.1,h.2.1,h.2.2⟩
theorem RgAt.next {W:World} {B:Nat} {v v1 v2 v3:Value} {l:List Reg} {L H I:List Int} (h:RgAt W B v l) (hl:l.length<=10000) (hB:B<=W.heap.size) (o1:Own W B v1 L) (o2:Own W B v2 H) (o3:Own W B v3 I) :
  ∃ g n c W',(Builtin.append_ #[49,49] 49 #[v,.slice (some ⟨W.heap.size,0,none⟩) 1 1]).run Tryz.prog (W.alloc (.cells #[.int .i64 2,v1,v2,.int .u64 0,.int .u64 0,v3] 97))=.ok (.slice (some ⟨g,0,none⟩) n c) W'/\RgAt W' B (.slice (some ⟨g,0,none⟩) n c) (l ++ [⟨2,L,H,0,I⟩])/\Tk.Kp (fun b=>v.ownBlock=some b) (W.alloc (.cells #[.int .i64 2,v1,v2,.int .u64 0,.int .u64 0,v3] 97)) W':=by
 obtain ⟨xs,h1,h2⟩:=h
 obtain ⟨i0,hi0,hz0,hz1,hz2⟩:=info_regn
 have gA:Gb W (W.alloc (.cells #[.int .i64 2,v1,v2,.int .u64 0,.int .u64 0,v3] 97)):=gb_alloc (Below.refl _ _) _
 have hcl:∀ j u,[Value.int .i64 2,v1,v2,.int .u64 0,.int .u64 0,v3][j]? = some u->(W.alloc (.cells #[.int .i64 2,v1,v2,.int .u64 0,.int .u64 0,v3] 97)).cell? ((⟨W.heap.size,0,none⟩:Addr).add j)=some u:=by
  intro j u hj
  rw [Addr.add_lit,Nat.zero_add]
  exact cell_cur (heap_new W _) (by simpa using hj)
 obtain ⟨v',W',hr,hown,hgrow,hnn,_⟩:=run_append_own_at (P:=Tryz.prog) (W.alloc (.cells #[.int .i64 2,v1,v2,.int .u64 0,.int .u64 0,v3] 97)) B 49 49 97 i0 (.agg #[.int .i64 0,.slice none 0 0,.slice none 0 0,.int .u64 0,.int .u64 0,.slice none 0 0]) 6 96 Tryz.underlying49 hi0 hz0 hz1 hz2 rfl (by decide)
  v l.length xs (own_kpR h1 (kpF gA) (fun _ _ h=>h)) ⟨W.heap.size,0,none⟩ 1 1 [.int .i64 2,v1,v2,.int .u64 0,.int .u64 0,v3] rfl hcl (by
   intro y hy
   simp only [List.mem_cons,List.not_mem_nil,or_false] at hy
   rcases hy with rfl | rfl | rfl | rfl | rfl | rfl
   ·rfl
   ·exact own_one o1
   ·exact own_one o2
   ·rfl
   ·rfl
   ·exact own_one o3) (by simp only [maxLen];omega) (by omega) (by have:=gA.size;omega)
 obtain ⟨g,n,c,ev⟩:∃ g n c,v'=.slice (some ⟨g,0,none⟩) n c:=by
  rcases hown.2 with ⟨e,_⟩ | ⟨g,cap,cur,e,_⟩
  ·exact absurd (hnn.1 e).2 (by decide)
  ·exact ⟨g,_,cap,e⟩
 subst ev
 have kp:Tk.Kp (fun b=>v.ownBlock=some b) (W.alloc (.cells #[.int .i64 2,v1,v2,.int .u64 0,.int .u64 0,v3] 97)) W':=⟨hgrow.os,hgrow.tape,hgrow.output,hgrow.size,fun k hk hn=>hgrow.block k hk (fun e=>hn e.symm)⟩
 have lift:∀ {u:Value} {x:List Int},Own W B u x->Own W' B u x:=fun ho=>by
  refine own_kpI (own_kpI ho (kpF gA) (fun _ _ h=>h)) kp (fun b e e2=>?_)
  have t1:Ty W b 3:=own_ty ho e
  exact t1.ne (own_ty h1 e2) (by decide) rfl
 refine ⟨g,n,c,W',hr,⟨xs ++ [.int .i64 2,v1,v2,.int .u64 0,.int .u64 0,v3],by rw [List.length_append];exact hown,fun i hi'=>?_⟩,kp⟩
 have hxl:=h1.1
 rw [List.length_append] at hi'
 by_cases e:i < l.length
 ·obtain ⟨u1,u2,u3,s,r,a,b,cc,d,e',f,p1,p2,p3⟩:=h2 i e
  rw [List.getElem_append_left e]
  refine ⟨u1,u2,u3,s,r,?_,?_,?_,?_,?_,?_,lift p1,lift p2,lift p3⟩ <;> (rw [List.getElem?_append_left (by omega)];assumption)
 ·have e':i=l.length:=by simp at hi';omega
  subst e'
  have eg:(l ++ [(⟨2,L,H,0,I⟩:Reg)])[l.length]'(by simp)=⟨2,L,H,0,I⟩:=by simp
  rw [eg]
  refine ⟨v1,v2,v3,rfl,rfl,?_,?_,?_,?_,?_,?_,lift o1,lift o2,lift o3⟩
  ·rw [List.getElem?_append_right (by omega),hxl,Nat.sub_self];rfl
  ·rw [List.getElem?_append_right (by omega),show l.length * 6 + 1 - xs.length=1 by omega];rfl
  ·rw [List.getElem?_append_right (by omega),show l.length * 6 + 2 - xs.length=2 by omega];rfl
  ·rw [List.getElem?_append_right (by omega),show l.length * 6 + 3 - xs.length=3 by omega];rfl
  ·rw [List.getElem?_append_right (by omega),show l.length * 6 + 4 - xs.length=4 by omega];rfl
  ·rw [List.getElem?_append_right (by omega),show l.length * 6 + 5 - xs.length=5 by omega];rfl
def regP (T:Nat->Pt) (N:Nat) (p:Pt):Reg:=⟨2,p.L,p.H,0,srt (idsOf (rowsP T N p))⟩
structure AnI (w0:World) (T:Nat->Pt) (N sb hb k:Nat) (vq:Value) (q:List Int) (bud:Nat) (seen:List Rw) (O:List Nat) (M:List (Nat × Pt)) (vs vm vo vh:Value) (ab rb kb bb:Nat) (regs:List Reg) (W:World) (vr:Value):Prop where
 st:SAt w0 W T N sb hb k vq q bud seen O M vs vm vo vh
 a:W.heap[ab]? = some (.cells #[.pointer (some ⟨sb,0,none⟩)] 82 (0,0))
 r:W.heap[rb]? = some (.cells #[.slice none 0 0,.slice none 0 0,.slice none 0 0] 51 (0,0))
 kk:W.heap[kb]? = some (.cells #[vr] 49 (0,0))
 b:W.heap[bb]? = some (.cells #[vo] 37 (0,0))
 rg:RgAt W w0.heap.size vr regs
 rbB:w0.heap.size<=rb
 kbB:w0.heap.size<=kb
theorem AnI.kp {S:Nat->Prop} {w0:World} {T:Nat->Pt} {N sb hb k:Nat} {vq:Value} {q:List Int} {bud:Nat} {seen:List Rw} {O:List Nat} {M:List (Nat × Pt)} {vs vm vo vh:Value} {ab rb kb bb:Nat} {regs:List Reg} {W W':World} {vr:Value} (h:AnI w0 T N sb hb k vq q bud seen O M vs vm vo vh ab rb kb bb regs W vr) (kp:Tk.Kp S W W') (hS:∀ b,S b->w0.heap.size<=b) (hc:∀ b t,Ty W b t->¬ S b):AnI w0 T N sb hb k vq q bud seen O M vs vm vo vh ab rb kb bb regs W' vr:=by
 have blk:∀ {b:Nat} {c:Array Value} {t:TypeId} {s:Nat × Nat},W.heap[b]? = some (.cells c t s)->W'.heap[b]? = some (.cells c t s):=fun {b c t s} e=>by
  rw [kp.block b (Array.getElem?_eq_some_iff.1 e).1 (hc b t ⟨c,s,e⟩)];exact e
 refine ⟨h.st.kp kp hS (hc _ _ h.st.tsb) (hc _ _ h.st.thb) (fun g e=>hc _ _ (h.st.tvh e)) (fun g e=>hc _ _ (h.st.tvs e)) (fun g e=>hc _ _ (h.st.tvm e)) (fun g e=>hc _ _ (h.st.tvo e)) (fun x hx=>hc _ _ (h.st.tp hx)),blk h.a,blk h.r,blk h.kk,blk h.b,?_,h.rbB,h.kbB⟩
 refine h.rg.kp kp (fun b hb' cur s e=>hc b _ ⟨cur,s,e⟩ hb') (fun g e=>hc _ _ (h.rg.ty e))
end Go.Proofs.YtgbgejflmbhigaaGreat
