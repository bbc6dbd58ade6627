import Derived.Test.YtgbgejflmbhigaaGreatKw38
import Derived.Test.YtgbgejflmbhigaaGreatKw12
namespace Go.Proofs.YtgbgejflmbhigaaGreat
open Go.RowKit Go.Shelf Go.Maps Go.Sort
set_option maxRecDepth 100000
set_option maxHeartbeats 4000000
attribute [local go_sem] Oper.semAt_some
structure AnsK (w0 W':World) (vh vs vr:Value) (hits:List Tk.Ht) (ids:List Int) (regs:List Reg):Prop where
 gb:Gb w0 W'
 hits:Tk.Own W' vh hits.toArray
 hB:∀ g,vh.ownBlock=some g->w0.heap.size<=g
 seen:Own W' w0.heap.size vs ids
 rest:RgAt W' w0.heap.size vr regs
theorem anI_from {w0:World} {T:Nat->Pt} {N sb hb k:Nat} {vq:Value} {q:List Int} {bud:Nat} {seen:List Rw} {O:List Nat} {M:List (Nat × Pt)} {vs vm vo vh:Value} {ab rb kb bb:Nat} {regs:Nat->List Reg} {B:Nat} (hB:w0.heap.size<=B) :
  OwnFrom B (fun (j:Nat) W=>∃ vr,AnI w0 T N sb hb k vq q bud seen O M vs vm vo vh ab rb kb bb (regs j) W vr):=by
 rintro j W W' row ⟨vr,h⟩ hg hr
 refine ⟨vr,h.kp (Tk.Kp.grown hg) (fun b e=>?_) (fun b t ht e=>?_)⟩
 ·have:=(hr b e.symm).1
  omega
 ·obtain ⟨_,o,ho,hc⟩:=hr b e.symm
  obtain ⟨c,s,e2⟩:=ht
  rw [e2] at ho
  injection ho with ho
  subst ho
  cases hc
theorem answer_c {w0 W:World} {T:Nat->Pt} {d N sb hb k:Nat} {vq:Value} {q:List Int} {bud:Nat} {seen:List Rw} {O:List Nat} {M:List (Nat × Pt)} {vs vm vo vh:Value} (h:SAt w0 W T N sb hb k vq q bud seen O M vs vm vo vh) (hok:∀ p ∈ opn M O,OkP T d N p/\(rowsP T N p).length<=512) (hof:O.length<=10000) :
  Calls Tryz.prog 38 #[.pointer (some ⟨sb,0,none⟩)] W fun e W'=>∃ vh' vs' vr',e=.returned (.agg #[vh',vs',vr'])/\AnsK w0 W' vh' vs' vr' (Tk.firsts k (hitsOf q seen)) (srt (idsOf seen)) ((opn M O).reverse.map (regP T N)):=by
 obtain ⟨sa,sc,es,_⟩:=h.sn.rd
 obtain ⟨oa,oc,eo,_⟩:=h.op.rd
 have hil:(idsOf seen).length=seen.length:=by unfold idsOf;rw [List.length_map]
 obtain ⟨ab,hab⟩:∃ ab,ab=W.heap.size:=⟨_,rfl⟩
 obtain ⟨W1,hW1⟩:∃ W1,W1=(W.alloc (.cells #[.pointer (some ⟨sb,0,none⟩)] 82)).alloc (.cells #[.slice none 0 0,.slice none 0 0,.slice none 0 0] 51):=⟨_,rfl⟩
 have g1:Gb W W1:=by rw [hW1];exact gb_alloc (gb_alloc (Below.refl _ _) _) _
 have h1:=h.grow g1
 have cS:=sortK_c h1.sn (by rw [hil];have:=h.few;omega)
 have SX:Hid (∀ w2,Own w2 w0.heap.size vs (srt (idsOf seen))->Tk.Kp (fun b=>vs.ownBlock=some b) W1 w2->∀ kb,kb=w2.heap.size->∀ bb,bb=kb + 1->AnI w0 T N sb hb k vq q bud (sRw seen) O M vs vm vo vh ab (ab + 1) kb bb [] ((w2.alloc (.cells #[.slice none 0 0] 49)).alloc (.cells #[vo] 37)) (.slice none 0 0)/\w0.heap.size<=w2.heap.size/\w2.cell? ⟨ab,0,none⟩=some (.pointer (some ⟨sb,0,none⟩))/\w2.cell? ⟨sb,5,none⟩=some vo):=by
  intro w2 ho kp kb hkb bb hbb
  have h2:=h1.sorted ho kp
  have g2:Gb w2 ((w2.alloc (.cells #[.slice none 0 0] 49)).alloc (.cells #[vo] 37)):=gb_alloc (gb_alloc (Below.refl _ _) _) _
  have ta:W1.heap[ab]? = some (.cells #[.pointer (some ⟨sb,0,none⟩)] 82 (0,0)):=by
   rw [hW1,hab,(gb_alloc (Below.refl _ _) _:Gb (W.alloc (.cells #[.pointer (some ⟨sb,0,none⟩)] 82)) _).block W.heap.size (by rw [World.size_alloc];omega)]
   exact heap_new W _
  have tr:W1.heap[ab + 1]? = some (.cells #[.slice none 0 0,.slice none 0 0,.slice none 0 0] 51 (0,0)):=by
   have:=heap_new (W.alloc (.cells #[.pointer (some ⟨sb,0,none⟩)] 82)) (.cells #[.slice none 0 0,.slice none 0 0,.slice none 0 0] 51)
   rw [World.size_alloc] at this
   rw [hW1,hab];exact this
  have nn:∀ {b:Nat} {t:TypeId},Ty W1 b t->t ≠ 3->¬ vs.ownBlock=some b:=fun ht hne e=>ht.ne (h1.tvs e) hne rfl
  have ta2:w2.heap[ab]? = some (.cells #[.pointer (some ⟨sb,0,none⟩)] 82 (0,0)):=by rw [kp.block ab (Array.getElem?_eq_some_iff.1 ta).1 (nn ⟨_,_,ta⟩ (by decide))];exact ta
  have tr2:w2.heap[ab + 1]? = some (.cells #[.slice none 0 0,.slice none 0 0,.slice none 0 0] 51 (0,0)):=by rw [kp.block (ab + 1) (Array.getElem?_eq_some_iff.1 tr).1 (nn ⟨_,_,tr⟩ (by decide))];exact tr
  have s0:=h.gb.size
  have s1:=g1.size
  have s2:=kp.size
  refine ⟨⟨h2.grow g2,?_,?_,?_,?_,⟨[],⟨rfl,.inl ⟨rfl,rfl⟩⟩,fun i hi'=>absurd hi' (Nat.not_lt_zero _)⟩,by omega,by omega⟩,by omega,cell_cur ta2 rfl,h2.cells.2.2.2.2.2.1⟩
  ·rw [g2.block ab (Array.getElem?_eq_some_iff.1 ta2).1];exact ta2
  ·rw [g2.block (ab + 1) (Array.getElem?_eq_some_iff.1 tr2).1];exact tr2
  ·rw [hkb,(gb_alloc (Below.refl _ _) _:Gb (w2.alloc (.cells #[.slice none 0 0] 49)) _).block w2.heap.size (by rw [World.size_alloc];omega)]
   exact heap_new w2 _
  ·have:=heap_new (w2.alloc (.cells #[.slice none 0 0] 49)) (.cells #[vo] 37)
   rw [World.size_alloc] at this
   rw [hbb,hkb];exact this
 have vmf:O ≠ []->∃ mb mc,vm=.slice (some ⟨mb,0,none⟩) M.length mc:=fun hne=>by
  have hp:=h.olt _ (List.head_mem hne)
  obtain ⟨mb,mc,e,_⟩:=h.cand hp
  exact ⟨mb,mc,e⟩
 have c3:=h1.cells.2.2.2.1
 have cA:W1.cell? ⟨ab,0,none⟩=some (.pointer (some ⟨sb,0,none⟩)):=by rw [hW1,hab];exact gb_keeps (gb_alloc (Below.refl _ _) _) (cell_cur (heap_new W _) rfl)
 have HH:Hid ((∀ p ∈ opn M O,OkP T d N p/\(rowsP T N p).length<=512)/\O.length<=10000/\(∀ i ∈ O,i < M.length)/\M.length<=10000):=⟨hok,hof,h.olt,h.mfew⟩
 subst es
 rw [hil] at *
 have eo':vo=.slice oa O.length oc:=by rw [eo,List.length_map]
 subst eo'
 have CN:Hid (∀ w2,Calls Tryz.prog 70 #[.slice oa O.length oc] w2 fun e w'=>e=.returned (.func (.func 110) #[] #[.pointer (some ⟨w2.heap.size,0,none⟩)])/\w2.alloc (.cells #[.slice oa O.length oc] 37)=w'):=fun w2=>kback_c oa O.length oc w2
 obtain ⟨regs,hregs⟩:∃ regs,regs=(opn M O).reverse.map (regP T N):=⟨_,rfl⟩
 have RG:Hid (regs=(opn M O).reverse.map (regP T N)):=hregs
 rw [<- hregs]
 subst hW1
 clear h h1 g1 eo hok hof hregs
 refine (callsIn_wide (n:=4)).1 ?_
 refine callsIn_of_wp_marks Tryz.func38 rfl trivial ?_ rfl
 simp only [Tryz.ntmps38,List.size_toArray,List.length_cons,List.length_nil,Nat.reduceAdd,Nat.reduceSub,Array.replicate_succ,Array.replicate_zero,List.push_toArray,List.append_toArray,List.nil_append,List.cons_append]
 subst hab
 gi_wp2_with (first
  | (refine ⟨trivial,?_⟩;gi_at_call 69;refine (callsIn_wide.2 cS).mono ?_;rintro e w2 ⟨rfl,ho2,kp2⟩;obtain ⟨hI0,hs0,ca2,c52⟩:=SX.out _ ho2 kp2 _ rfl _ rfl;have ca3:=gb_keeps (gb_alloc (Below.refl _ w2) (.cells #[.slice none 0 0] 49)) ca2;have c53:=gb_keeps (gb_alloc (Below.refl _ w2) (.cells #[.slice none 0 0] 49)) c52)
  | (refine ⟨trivial,?_⟩;gi_at_call 70;refine (callsIn_wide.2 (CN.out _)).mono ?_;rintro e w3 ⟨rfl,hw3⟩))
 subst hw3
 have s2:=hs0
 clear cS SX CN ho2 kp2 ca2 ca3 c52 c53 c3 cA
 have GV:=back_gives 3 (by decide) (w2.heap.size + 1) (.slice oa O.length oc) (O.map fun i:Nat=>(i:Int)) (by rw [List.length_map];exact HH.out.2.1) (fun j W'=>∃ vr,AnI w0 T N sb hb k vq q bud (sRw seen) O M (.slice sa seen.length sc) vm (.slice oa O.length oc) vh W.heap.size (W.heap.size + 1) w2.heap.size (w2.heap.size + 1) (regs.take j) W' vr) (fun j W' h=>by
  obtain ⟨vr,h⟩:=h
  exact ⟨h.b,h.st.op.rd⟩)
 rw [List.length_map] at GV
 refine rangeA_c (gf:=110) (lb:=#[.pointer (some ⟨w2.heap.size + 1,0,none⟩)]) rfl (enters_of Tryz.func110 (by kernel_rfl) rfl) O.length
  (fun j=>#[.int .i64 ((O.length - 1 - j:Nat):Int),.int .i64 (O.map fun i:Nat=>(i:Int))[O.length - 1 - j]!]) (fun _=>rfl)
  (fun j W'=>∃ vr,AnI w0 T N sb hb k vq q bud (sRw seen) O M (.slice sa seen.length sc) vm (.slice oa O.length oc) vh W.heap.size (W.heap.size + 1) w2.heap.size (w2.heap.size + 1) (regs.take j) W' vr) (anI_from (regs:=fun j=>regs.take j) (by simp [World.size_alloc];omega)) ⟨_,by rw [List.take_zero];exact hI0⟩ GV (fun j=>{ tmps:=#[.pointer (some ⟨sb,0,none⟩),.pointer (some ⟨W.heap.size,0,none⟩),.pointer (some ⟨W.heap.size + 1,0,none⟩),.pointer (some ⟨w2.heap.size,0,none⟩),undef,.int .i64 (O.map fun i:Nat=>(i:Int))[O.length - 1 - j]!,.pointer (some ⟨sb,0,none⟩),.pointer (some ⟨sb,0,none⟩),.pointer (some ⟨sb,3,none⟩),.slice sa seen.length sc,.tuple #[],.pointer (some ⟨sb,0,none⟩),.pointer (some ⟨sb,0,none⟩),.pointer (some ⟨sb,5,none⟩),.slice oa O.length oc,.func (.func 110) #[] #[.pointer (some ⟨w2.heap.size + 1,0,none⟩)],.int .i64 ((O.length - 1 - j:Nat):Int),.int .i64 (O.map fun i:Nat=>(i:Int))[O.length - 1 - j]!,undef,undef,undef,undef,undef,undef,undef,undef,undef,undef,undef,undef,undef,undef,undef,undef,undef,undef,undef,undef,undef,undef,undef],defers:=[] }) ?assign ?body ?done
 case assign =>
  intro l j W' K hK
  generalize (O.map fun i:Nat=>(i:Int))[O.length - 1 - j]! = x at *
  gi_wp2
  exact hK
 case body =>
  clear hI0 GV
  rintro l j W' hj ⟨vr,hA⟩
  have hlast:O.length - 1 - j < O.length:=by omega
  obtain ⟨li,hli⟩:∃ li,li=O[O.length - 1 - j]:=⟨_,rfl⟩
  have hLg:(O.map fun i:Nat=>(i:Int))[O.length - 1 - j]! = (li:Int):=by rw [getElem!_pos _ _ (by simpa using hlast)];simp [hli]
  have hmem:li ∈ O:=by rw [hli];exact List.getElem_mem _
  have hlm:=HH.out.2.2.1 li hmem
  obtain ⟨mb,mc,em,hmc,m0,m1',m2'⟩:=hA.st.cand hlm
  have hopl:(opn M O).length=O.length:=by unfold opn;rw [List.length_map]
  have hrv:((opn M O).reverse)[j]'(by rw [List.length_reverse,hopl];exact hj)=M[li].2:=by
   rw [List.getElem_reverse]
   unfold opn
   simp only [List.getElem_map,List.length_map]
   rw [List.getD_eq_getElem?_getD,List.getElem?_eq_getElem (by rw [<- hli];exact hlm)]
   simp [hli]
  have hpm:M[li] ∈ M:=List.getElem_mem hlm
  have hpo:M[li].2 ∈ opn M O:=by rw [<- hrv];exact List.mem_reverse.1 (List.getElem_mem _)
  obtain ⟨okp,hrl⟩:=HH.out.1 _ hpo
  have hmp:=hA.st.prt _ hpm
  obtain ⟨x,hx⟩:∃ x,x=M[li]:=⟨_,rfl⟩
  rw [<- hx] at hmp m0 okp hrl hrv
  obtain ⟨pb,p⟩:=x
  dsimp only at hmp m0 okp hrl hrv
  have gD:Gb W' W'.drew:=(Below.refl _ _).drew
  have hAd:AnI w0 T N sb hb k vq q bud (sRw seen) O M (.slice sa seen.length sc) vm (.slice oa O.length oc) vh W.heap.size (W.heap.size + 1) w2.heap.size (w2.heap.size + 1) (regs.take j) W'.drew vr:=hA.kp (kpF gD) (fun _ h=>h.elim) (fun _ _ _ h=>h)
  have cR:=region_c (hmp.gb gD) okp hAd.st.gb hrl
  obtain ⟨ra,rc,er⟩:=hA.rg.form
  have hrn:(regs.take j).length<=10000:=by rw [List.length_take];have:=HH.out.2.1;omega
  have etk:regs.take (j + 1)=regs.take j ++ [⟨2,p.L,p.H,0,srt (idsOf (rowsP T N p))⟩]:=by
   have hjr:j < regs.length:=by rw [RG.out,List.length_map,List.length_reverse,hopl];exact hj
   rw [List.take_succ_eq_append_getElem hjr]
   congr 2
   have:regs[j]=regP T N p:=by simp only [RG.out,List.getElem_map,hrv]
   rw [this];rfl
  have tk:Ty W'.drew w2.heap.size 49:=⟨_,_,hAd.kk⟩
  have ta:Ty W'.drew W.heap.size 82:=⟨_,_,hAd.a⟩
  have RX:Hid (∀ e w5,RegO W'.drew p.L p.H (srt (idsOf (rowsP T N p))) e w5->∃ a1 n1 c1 a2 n2 c2 a3 n3 c3,e=.returned (.agg #[.int .i64 2,.slice a1 n1 c1,.slice a2 n2 c2,.int .u64 0,.int .u64 0,.slice a3 n3 c3])/\((fun W0=>W0.cell? ⟨W.heap.size,0,none⟩=some (.pointer (some ⟨sb,0,none⟩))/\W0.cell? ⟨sb,4,none⟩=some (.slice (some ⟨mb,0,none⟩) M.length mc)/\W0.cell? ⟨mb,li * 3,none⟩=some (.pointer (some ⟨pb,0,none⟩))) w5)/\∃ g9 n9 c9 W6,(Builtin.append_ #[49,49] 49 #[vr,.slice (some ⟨w5.heap.size,0,none⟩) 1 1]).run Tryz.prog (w5.alloc (.cells #[.int .i64 2,.slice a1 n1 c1,.slice a2 n2 c2,.int .u64 0,.int .u64 0,.slice a3 n3 c3] 97))=.ok (.slice (some ⟨g9,0,none⟩) n9 c9) W6 /\
    Hid (((w5.alloc (.cells #[.int .i64 2,.slice a1 n1 c1,.slice a2 n2 c2,.int .u64 0,.int .u64 0,.slice a3 n3 c3] 97)).cell? ⟨W.heap.size,0,none⟩=some (.pointer (some ⟨sb,0,none⟩))->(w5.alloc (.cells #[.int .i64 2,.slice a1 n1 c1,.slice a2 n2 c2,.int .u64 0,.int .u64 0,.slice a3 n3 c3] 97)).cell? ⟨sb,4,none⟩=some (.slice (some ⟨mb,0,none⟩) M.length mc)->(w5.alloc (.cells #[.int .i64 2,.slice a1 n1 c1,.slice a2 n2 c2,.int .u64 0,.int .u64 0,.slice a3 n3 c3] 97)).cell? ⟨mb,li * 3,none⟩=some (.pointer (some ⟨pb,0,none⟩))->(fun W0=>W0.cell? ⟨W.heap.size,0,none⟩=some (.pointer (some ⟨sb,0,none⟩))/\W0.cell? ⟨sb,4,none⟩=some (.slice (some ⟨mb,0,none⟩) M.length mc)/\W0.cell? ⟨mb,li * 3,none⟩=some (.pointer (some ⟨pb,0,none⟩))) W6)/\(W6.cell? ⟨W.heap.size,0,none⟩=some (.pointer (some ⟨sb,0,none⟩))->W6.cell? ⟨sb,4,none⟩=some (.slice (some ⟨mb,0,none⟩) M.length mc)->W6.cell? ⟨mb,li * 3,none⟩=some (.pointer (some ⟨pb,0,none⟩))->(fun W0=>W0.cell? ⟨W.heap.size,0,none⟩=some (.pointer (some ⟨sb,0,none⟩))/\W0.cell? ⟨sb,4,none⟩=some (.slice (some ⟨mb,0,none⟩) M.length mc)/\W0.cell? ⟨mb,li * 3,none⟩=some (.pointer (some ⟨pb,0,none⟩))) (W6.setCell ⟨w2.heap.size,0,none⟩ (.slice (some ⟨g9,0,none⟩) n9 c9)))) /\
    w5.cell? ⟨w2.heap.size,0,none⟩=some vr/\(w5.alloc (.cells #[.int .i64 2,.slice a1 n1 c1,.slice a2 n2 c2,.int .u64 0,.int .u64 0,.slice a3 n3 c3] 97)).cell? ⟨w2.heap.size,0,none⟩=some vr/\(∃ y,W6.cell? ⟨w2.heap.size,0,none⟩=some y)/\W6.frozen? ⟨w2.heap.size,0,none⟩=false/\Hid (KeepsOthers W' (W6.setCell ⟨w2.heap.size,0,none⟩ (.slice (some ⟨g9,0,none⟩) n9 c9))/\∃ vr',AnI w0 T N sb hb k vq q bud (sRw seen) O M (.slice sa seen.length sc) vm (.slice oa O.length oc) vh W.heap.size (W.heap.size + 1) w2.heap.size (w2.heap.size + 1) (regs.take (j + 1)) (W6.setCell ⟨w2.heap.size,0,none⟩ (.slice (some ⟨g9,0,none⟩) n9 c9)) vr')):=by
   rintro e w5 ⟨v1,v2,v3,rfl,g5,o1,o2,o3⟩
   obtain ⟨a1,n1,c1,rfl⟩:=form_own o1
   obtain ⟨a2,n2,c2,rfl⟩:=form_own o2
   obtain ⟨a3,n3,c3,rfl⟩:=form_own o3
   have hA5:=hAd.kp (kpF g5) (fun _ h=>h.elim) (fun _ _ _ h=>h)
   have sB:=hAd.st.gb.size
   obtain ⟨g9,n9,c9,W6,hrun,hrg,kp6⟩:=hA5.rg.next hrn hA5.st.gb.size (o1.mono sB) (o2.mono sB) (o3.mono sB)
   have gO:Gb w5 (w5.alloc (.cells #[.int .i64 2,.slice a1 n1 c1,.slice a2 n2 c2,.int .u64 0,.int .u64 0,.slice a3 n3 c3] 97)):=gb_alloc (Below.refl _ _) _
   have hA6:=hA5.kp (kpF gO) (fun _ h=>h.elim) (fun _ _ _ h=>h)
   have nn:∀ {b:Nat} {t:TypeId},Ty (w5.alloc (.cells #[.int .i64 2,.slice a1 n1 c1,.slice a2 n2 c2,.int .u64 0,.int .u64 0,.slice a3 n3 c3] 97)) b t->t ≠ 97->¬ vr.ownBlock=some b:=fun ht hne e=>ht.ne (hA6.rg.ty e) hne rfl
   have blk:∀ {b:Nat} {c:Array Value} {t:TypeId} {s:Nat × Nat},(w5.alloc (.cells #[.int .i64 2,.slice a1 n1 c1,.slice a2 n2 c2,.int .u64 0,.int .u64 0,.slice a3 n3 c3] 97)).heap[b]? = some (.cells c t s)->t ≠ 97->W6.heap[b]? = some (.cells c t s):=fun {b c t s} e hne=>by
    rw [kp6.block b (Array.getElem?_eq_some_iff.1 e).1 (nn ⟨c,s,e⟩ hne)];exact e
   have kk6:=blk hA6.kk (by decide)
   have k7:Tk.Kp (fun b=>b=w2.heap.size) W6 (W6.setCell ⟨w2.heap.size,0,none⟩ (.slice (some ⟨g9,0,none⟩) n9 c9)):=(Tk.Kp.refl (fun b=>b=w2.heap.size) W6).setCell (.inl rfl) _
   have ne:∀ {b:Nat} {t:TypeId},Ty (w5.alloc (.cells #[.int .i64 2,.slice a1 n1 c1,.slice a2 n2 c2,.int .u64 0,.int .u64 0,.slice a3 n3 c3] 97)) b t->t ≠ 49->¬ b=w2.heap.size:=fun ht hne e=>ht.ne ⟨_,_,hA6.kk⟩ hne e
   have blk7:∀ {b:Nat} {c:Array Value} {t:TypeId} {s:Nat × Nat},(w5.alloc (.cells #[.int .i64 2,.slice a1 n1 c1,.slice a2 n2 c2,.int .u64 0,.int .u64 0,.slice a3 n3 c3] 97)).heap[b]? = some (.cells c t s)->t ≠ 97->t ≠ 49->(W6.setCell ⟨w2.heap.size,0,none⟩ (.slice (some ⟨g9,0,none⟩) n9 c9)).heap[b]? = some (.cells c t s):=fun {b c t s} e h1 h2=>by
    have e6:=blk e h1
    rw [k7.block b (Array.getElem?_eq_some_iff.1 e6).1 (ne ⟨c,s,e⟩ h2)];exact e6
   have kS:Tk.Kp (fun b=>vr.ownBlock=some b ∨ b=w2.heap.size) (w5.alloc (.cells #[.int .i64 2,.slice a1 n1 c1,.slice a2 n2 c2,.int .u64 0,.int .u64 0,.slice a3 n3 c3] 97)) (W6.setCell ⟨w2.heap.size,0,none⟩ (.slice (some ⟨g9,0,none⟩) n9 c9)):=(kp6.mono (fun b _ h=>.inl h)).trans (k7.mono (fun b _ h=>.inr h))
   have nS:∀ {b:Nat} {t:TypeId},Ty (w5.alloc (.cells #[.int .i64 2,.slice a1 n1 c1,.slice a2 n2 c2,.int .u64 0,.int .u64 0,.slice a3 n3 c3] 97)) b t->t ≠ 97->t ≠ 49->¬ (vr.ownBlock=some b ∨ b=w2.heap.size):=fun ht h1 h2 e=>by
    rcases e with e | e
    ·exact nn ht h1 e
    ·exact ne ht h2 e
   refine ⟨a1,n1,c1,a2,n2,c2,a3,n3,c3,rfl,⟨cell_cur hA5.a rfl,by rw [em] at hA5;exact hA5.st.cells.2.2.2.2.1,gb_keeps g5 m0⟩,g9,n9,c9,W6,hrun,⟨fun a b c=>⟨?_,?_,?_⟩,fun a b c=>⟨?_,?_,?_⟩⟩,cell_cur hA5.kk rfl,gb_keeps gO (cell_cur hA5.kk rfl),⟨_,cell_cur kk6 rfl⟩,by simp [World.frozen?,kk6],?_,.slice (some ⟨g9,0,none⟩) n9 c9,?_⟩
   ·exact kp6.cell a (nn ⟨_,_,hA6.a⟩ (by decide))
   ·exact kp6.cell b (nn hA6.st.tsb (by decide))
   ·exact kp6.cell c (nn (hA6.st.tvm (g:=mb) (by rw [em];rfl)) (by decide))
   ·exact k7.cell a (ne ⟨_,_,hA6.a⟩ (by decide))
   ·exact k7.cell b (ne hA6.st.tsb (by decide))
   ·exact k7.cell c (ne (hA6.st.tvm (g:=mb) (by rw [em];rfl)) (by decide))
   ·refine ⟨by have:=gD.size;have:=g5.size;have:=gO.size;have:=kS.size;omega,fun b o hb ho=>?_⟩
    have hb6:(w5.alloc (.cells #[.int .i64 2,.slice a1 n1 c1,.slice a2 n2 c2,.int .u64 0,.int .u64 0,.slice a3 n3 c3] 97)).heap[b]? = some o:=gb_same gO (gb_same g5 (gb_same gD hb))
    rw [kS.block b (Array.getElem?_eq_some_iff.1 hb6).1 (fun e=>?_)]
    ·exact hb6
    ·rcases e with e | e
     ·obtain ⟨c,s,e2⟩:=hA6.rg.ty e
      rw [e2] at hb6;injection hb6 with hb6;subst hb6;cases ho
     ·rw [e,hA6.kk] at hb6;injection hb6 with hb6;subst hb6;cases ho
   ·rw [etk]
    refine ⟨hA6.st.kp kS (fun b e=>?_) (nS hA6.st.tsb (by decide) (by decide)) (nS hA6.st.thb (by decide) (by decide)) (fun g e=>nS (hA6.st.tvh e) (by decide) (by decide)) (fun g e=>nS (hA6.st.tvs e) (by decide) (by decide)) (fun g e=>nS (hA6.st.tvm e) (by decide) (by decide)) (fun g e=>nS (hA6.st.tvo e) (by decide) (by decide)) (fun y hy=>nS (hA6.st.tp hy) (by decide) (by decide)),blk7 hA6.a (by decide) (by decide),blk7 hA6.r (by decide) (by decide),by simp [World.setCell,Array.getElem?_modify,kk6],blk7 hA6.b (by decide) (by decide),?_,hA.rbB,hA.kbB⟩
    ·rcases e with e | e
     ·obtain ⟨xs,h1,_⟩:=hA6.rg
      exact (h1.lt b e).1
     ·rw [e];exact hA.kbB
    ·refine hrg.kp k7 (fun b e cur s hc=>?_) (fun g e=>?_)
     ·rw [e,kk6] at hc;injection hc with hc;injection hc with _ hc _;revert hc;decide
     ·exact (hrg.ty e).ne ⟨_,_,kk6⟩ (by decide)
  have l0:W'.drew.cell? ⟨w2.heap.size,0,none⟩=some vr:=cell_cur hAd.kk rfl
  have FS5:(fun W0=>W0.cell? ⟨W.heap.size,0,none⟩=some (.pointer (some ⟨sb,0,none⟩))/\W0.cell? ⟨sb,4,none⟩=some (.slice (some ⟨mb,0,none⟩) M.length mc)/\W0.cell? ⟨mb,li * 3,none⟩=some (.pointer (some ⟨pb,0,none⟩))) W'.drew:=⟨cell_cur hAd.a rfl,by rw [em] at hAd;exact hAd.st.cells.2.2.2.2.1,m0⟩
  subst er
  have hlin:(li:Int) < (M.length:Int):=by omega
  rw [hLg]
  clear hA hAd gD hmp okp hrl hrv etk tk ta hx hpm hpo hopl hmem hrn hmc em m0 m1' m2' hLg vmf hlm hli
  generalize (regs.take j).length=rn at *
  generalize M.length=nm at *
  gi_wp2
  refine regIn_round (S:=fun W0=>W0.cell? ⟨W.heap.size,0,none⟩=some (.pointer (some ⟨sb,0,none⟩))/\W0.cell? ⟨sb,4,none⟩=some (.slice (some ⟨mb,0,none⟩) nm mc)/\W0.cell? ⟨mb,li * 3,none⟩=some (.pointer (some ⟨pb,0,none⟩))) (by kernel_rfl) (by rintro ⟨_,_,h⟩;exact h) (by kernel_rfl) FS5 (fun hHeld=>?_)
  refine tkn 1 ?_ rfl ?_ ?_;rotate_left;·(rintro w ⟨s0,s1,s2⟩;go_simp;try rfl)
  try simp only [Act.put,List.getElem_toArray,List.getElem_cons_zero,List.getElem_cons_succ,List.setIfInBounds_toArray,List.set_cons_zero,List.set_cons_succ]
  refine tkn 2 ?_ rfl ?_ ?_;rotate_left;·(rintro w ⟨s0,s1,s2⟩;go_simp;try rfl)
  try simp only [Act.put,List.getElem_toArray,List.getElem_cons_zero,List.getElem_cons_succ,List.setIfInBounds_toArray,List.set_cons_zero,List.set_cons_succ]
  refine tkn 3 ?_ rfl ?_ ?_;rotate_left;·(rintro w ⟨s0,s1,s2⟩;go_simp;try rfl)
  try simp only [Act.put,List.getElem_toArray,List.getElem_cons_zero,List.getElem_cons_succ,List.setIfInBounds_toArray,List.set_cons_zero,List.set_cons_succ]
  refine tkn 4 ?_ rfl ?_ ?_;rotate_left;·(rintro w ⟨s0,s1,s2⟩;go_simp;try rfl)
  try simp only [Act.put,List.getElem_toArray,List.getElem_cons_zero,List.getElem_cons_succ,List.setIfInBounds_toArray,List.set_cons_zero,List.set_cons_succ]
  refine tkn 5 ?_ rfl ?_ ?_;rotate_left;·(rintro w ⟨s0,s1,s2⟩;go_simp;try rfl)
  try simp only [Act.put,List.getElem_toArray,List.getElem_cons_zero,List.getElem_cons_succ,List.setIfInBounds_toArray,List.set_cons_zero,List.set_cons_succ]
  refine tkn 6 ?_ rfl ?_ ?_;rotate_left;·(rintro w ⟨s0,s1,s2⟩;go_simp;try rfl)
  try simp only [Act.put,List.getElem_toArray,List.getElem_cons_zero,List.getElem_cons_succ,List.setIfInBounds_toArray,List.set_cons_zero,List.set_cons_succ]
  refine tkn 7 ?_ rfl ?_ ?_;rotate_left;·(rintro w ⟨s0,s1,s2⟩;go_simp;try rfl)
  try simp only [Act.put,List.getElem_toArray,List.getElem_cons_zero,List.getElem_cons_succ,List.setIfInBounds_toArray,List.set_cons_zero,List.set_cons_succ]
  refine tkn 8 ?_ rfl ?_ ?_;rotate_left;·(rintro w ⟨s0,s1,s2⟩;go_simp;try rfl)
  try simp only [Act.put,List.getElem_toArray,List.getElem_cons_zero,List.getElem_cons_succ,List.setIfInBounds_toArray,List.set_cons_zero,List.set_cons_succ]
  refine wpAnyH_ready (rs:=[0,9]) (by kernel_rfl) (by simp) ?_
  refine AllReadyH.cons rfl (fun K hK=>?_) (AllReadyH.cons rfl (fun K hK=>?_) AllReadyH.nil)
  ·go_simp
   refine hK.out _ _ (⟨hHeld.1,hHeld.2.1,hHeld.2.2⟩) (fun hHeld=>?_)
   clear hK K
   try simp only [Act.put,List.getElem_toArray,List.getElem_cons_zero,List.getElem_cons_succ,List.setIfInBounds_toArray,List.set_cons_zero,List.set_cons_succ]
   refine rdn 9 rfl (fun K hK=>?_)
   go_simp
   go_fit cR
   rintro e w5 hO
   obtain ⟨a1,n1,c1,a2,n2,c2,a3,n3,c3,rfl,K9,g9,n9,c9',W6,hrun,K11,lk,lka,⟨y9,z9⟩,fz9,FIN⟩:=RX.out _ _ hO
   clear hO cR RX
   refine hK.out _ _ (K9) (fun hHeld=>?_)
   clear hK K
   try simp only [Act.put,List.getElem_toArray,List.getElem_cons_zero,List.getElem_cons_succ,List.setIfInBounds_toArray,List.set_cons_zero,List.set_cons_succ]
   refine rdn 10 rfl (fun K hK=>?_)
   go_simp
   refine hK.out _ _ (⟨gb_keeps (gb_alloc (Below.refl _ _) _) hHeld.1,gb_keeps (gb_alloc (Below.refl _ _) _) hHeld.2.1,gb_keeps (gb_alloc (Below.refl _ _) _) hHeld.2.2⟩) (fun hHeld=>?_)
   clear hK K
   try simp only [Act.put,List.getElem_toArray,List.getElem_cons_zero,List.getElem_cons_succ,List.setIfInBounds_toArray,List.set_cons_zero,List.set_cons_succ]
   refine rdn 11 rfl (fun K hK=>?_)
   refine app_run (by rfl) _ _ _ (by rfl) ⟨.slice ra rn rc,.slice (some ⟨w5.heap.size,0,none⟩) 1 1,_,_,(by go_simp),(by go_simp),hrun,?_⟩
   refine hK.out _ _ (K11.out.1 hHeld.1 hHeld.2.1 hHeld.2.2) (fun hHeld=>?_)
   clear hK K
   try simp only [Act.put,List.getElem_toArray,List.getElem_cons_zero,List.getElem_cons_succ,List.setIfInBounds_toArray,List.set_cons_zero,List.set_cons_succ]
   refine rdn 12 rfl (fun K hK=>?_)
   go_simp
   refine hK.out _ _ (K11.out.2 hHeld.1 hHeld.2.1 hHeld.2.2) (fun hHeld=>?_)
   clear hK K
   try simp only [Act.put,List.getElem_toArray,List.getElem_cons_zero,List.getElem_cons_succ,List.setIfInBounds_toArray,List.set_cons_zero,List.set_cons_succ]
   refine wpAnyH_done (by kernel_rfl) ?_ _
   exact FIN.out
  ·go_simp
   go_fit cR
   rintro e w5 hO
   obtain ⟨a1,n1,c1,a2,n2,c2,a3,n3,c3,rfl,K9,g9,n9,c9',W6,hrun,K11,lk,lka,⟨y9,z9⟩,fz9,FIN⟩:=RX.out _ _ hO
   clear hO cR RX
   refine hK.out _ _ (K9) (fun hHeld=>?_)
   clear hK K
   try simp only [Act.put,List.getElem_toArray,List.getElem_cons_zero,List.getElem_cons_succ,List.setIfInBounds_toArray,List.set_cons_zero,List.set_cons_succ]
   refine wpAnyH_ready (rs:=[0,10]) (by kernel_rfl) (by simp) ?_
   refine AllReadyH.cons rfl (fun K hK=>?_) (AllReadyH.cons rfl (fun K hK=>?_) AllReadyH.nil)
   ·go_simp
    refine hK.out _ _ (⟨hHeld.1,hHeld.2.1,hHeld.2.2⟩) (fun hHeld=>?_)
    clear hK K
    try simp only [Act.put,List.getElem_toArray,List.getElem_cons_zero,List.getElem_cons_succ,List.setIfInBounds_toArray,List.set_cons_zero,List.set_cons_succ]
    refine rdn 10 rfl (fun K hK=>?_)
    go_simp
    refine hK.out _ _ (⟨gb_keeps (gb_alloc (Below.refl _ _) _) hHeld.1,gb_keeps (gb_alloc (Below.refl _ _) _) hHeld.2.1,gb_keeps (gb_alloc (Below.refl _ _) _) hHeld.2.2⟩) (fun hHeld=>?_)
    clear hK K
    try simp only [Act.put,List.getElem_toArray,List.getElem_cons_zero,List.getElem_cons_succ,List.setIfInBounds_toArray,List.set_cons_zero,List.set_cons_succ]
    refine rdn 11 rfl (fun K hK=>?_)
    refine app_run (by rfl) _ _ _ (by rfl) ⟨.slice ra rn rc,.slice (some ⟨w5.heap.size,0,none⟩) 1 1,_,_,(by go_simp),(by go_simp),hrun,?_⟩
    refine hK.out _ _ (K11.out.1 hHeld.1 hHeld.2.1 hHeld.2.2) (fun hHeld=>?_)
    clear hK K
    try simp only [Act.put,List.getElem_toArray,List.getElem_cons_zero,List.getElem_cons_succ,List.setIfInBounds_toArray,List.set_cons_zero,List.set_cons_succ]
    refine rdn 12 rfl (fun K hK=>?_)
    go_simp
    refine hK.out _ _ (K11.out.2 hHeld.1 hHeld.2.1 hHeld.2.2) (fun hHeld=>?_)
    clear hK K
    try simp only [Act.put,List.getElem_toArray,List.getElem_cons_zero,List.getElem_cons_succ,List.setIfInBounds_toArray,List.set_cons_zero,List.set_cons_succ]
    refine wpAnyH_done (by kernel_rfl) ?_ _
    exact FIN.out
   ·go_simp
    refine hK.out _ _ (⟨gb_keeps (gb_alloc (Below.refl _ _) _) hHeld.1,gb_keeps (gb_alloc (Below.refl _ _) _) hHeld.2.1,gb_keeps (gb_alloc (Below.refl _ _) _) hHeld.2.2⟩) (fun hHeld=>?_)
    clear hK K
    try simp only [Act.put,List.getElem_toArray,List.getElem_cons_zero,List.getElem_cons_succ,List.setIfInBounds_toArray,List.set_cons_zero,List.set_cons_succ]
    refine rdn 0 rfl (fun K hK=>?_)
    go_simp
    refine hK.out _ _ (⟨hHeld.1,hHeld.2.1,hHeld.2.2⟩) (fun hHeld=>?_)
    clear hK K
    try simp only [Act.put,List.getElem_toArray,List.getElem_cons_zero,List.getElem_cons_succ,List.setIfInBounds_toArray,List.set_cons_zero,List.set_cons_succ]
    refine rdn 11 rfl (fun K hK=>?_)
    refine app_run (by rfl) _ _ _ (by rfl) ⟨.slice ra rn rc,.slice (some ⟨w5.heap.size,0,none⟩) 1 1,_,_,(by go_simp),(by go_simp),hrun,?_⟩
    refine hK.out _ _ (K11.out.1 hHeld.1 hHeld.2.1 hHeld.2.2) (fun hHeld=>?_)
    clear hK K
    try simp only [Act.put,List.getElem_toArray,List.getElem_cons_zero,List.getElem_cons_succ,List.setIfInBounds_toArray,List.set_cons_zero,List.set_cons_succ]
    refine rdn 12 rfl (fun K hK=>?_)
    go_simp
    refine hK.out _ _ (K11.out.2 hHeld.1 hHeld.2.1 hHeld.2.2) (fun hHeld=>?_)
    clear hK K
    try simp only [Act.put,List.getElem_toArray,List.getElem_cons_zero,List.getElem_cons_succ,List.setIfInBounds_toArray,List.set_cons_zero,List.set_cons_succ]
    refine wpAnyH_done (by kernel_rfl) ?_ _
    exact FIN.out
 case done =>
  clear hI0 GV
  rintro D W' hD ⟨vr,hA⟩ hK
  have hrl:regs.length=O.length:=by rw [RG.out,List.length_map,List.length_reverse];unfold opn;rw [List.length_map]
  rw [List.take_of_length_le (by omega)] at hA
  have gD:Gb W' W'.drew:=(Below.refl _ _).drew
  have hAd:AnI w0 T N sb hb k vq q bud (sRw seen) O M (.slice sa seen.length sc) vm (.slice oa O.length oc) vh W.heap.size (W.heap.size + 1) w2.heap.size (w2.heap.size + 1) regs W'.drew vr:=hA.kp (kpF gD) (fun _ h=>h.elim) (fun _ _ _ h=>h)
  have efs:Tk.firsts k (hitsOf q (sRw seen))=Tk.firsts k (hitsOf q seen):=Tk.firsts_perm k ((sRw_perm seen).map _)
  have cL:=Tk.list_has hAd.st.has
  rw [efs] at cL
  obtain ⟨ra,rc,er⟩:=hAd.rg.form
  have hDw:w0.heap.size<=D:=by have:=hD;simp [World.size_alloc] at this;omega
  have LX:Hid (∀ v6 w6,Tk.Out W'.drew w6 v6 (Tk.firsts k (hitsOf q seen))->∃ ha hn hc,v6=.slice ha hn hc/\((((fun W0=>W0.cell? ⟨W.heap.size,0,none⟩=some (.pointer (some ⟨sb,0,none⟩))/\W0.cell? ⟨sb,1,none⟩=some (.pointer (some ⟨hb,0,none⟩))/\W0.cell? ⟨sb,3,none⟩=some (.slice sa seen.length sc)/\W0.cell? ⟨w2.heap.size,0,none⟩=some (.slice ra regs.length rc)) W'.drew->(fun W0=>W0.cell? ⟨W.heap.size,0,none⟩=some (.pointer (some ⟨sb,0,none⟩))/\W0.cell? ⟨sb,1,none⟩=some (.pointer (some ⟨hb,0,none⟩))/\W0.cell? ⟨sb,3,none⟩=some (.slice sa seen.length sc)/\W0.cell? ⟨w2.heap.size,0,none⟩=some (.slice ra regs.length rc)) w6))/\((fun W0=>W0.cell? ⟨W.heap.size,0,none⟩=some (.pointer (some ⟨sb,0,none⟩))/\W0.cell? ⟨sb,1,none⟩=some (.pointer (some ⟨hb,0,none⟩))/\W0.cell? ⟨sb,3,none⟩=some (.slice sa seen.length sc)/\W0.cell? ⟨w2.heap.size,0,none⟩=some (.slice ra regs.length rc)) w6->(fun W0=>W0.cell? ⟨W.heap.size,0,none⟩=some (.pointer (some ⟨sb,0,none⟩))/\W0.cell? ⟨sb,1,none⟩=some (.pointer (some ⟨hb,0,none⟩))/\W0.cell? ⟨sb,3,none⟩=some (.slice sa seen.length sc)/\W0.cell? ⟨w2.heap.size,0,none⟩=some (.slice ra regs.length rc)) (((w6.setCell ⟨W.heap.size + 1,0,none⟩ v6).setCell ⟨W.heap.size + 1,1,none⟩ (.slice sa seen.length sc)).setCell ⟨W.heap.size + 1,2,none⟩ vr)))/\(∃ y,w6.cell? ⟨W.heap.size + 1,0,none⟩=some y)/\(∃ y,w6.cell? ⟨W.heap.size + 1,1,none⟩=some y)/\(∃ y,w6.cell? ⟨W.heap.size + 1,2,none⟩=some y)/\w6.frozen? ⟨W.heap.size + 1,0,none⟩=false/\w6.frozen? ⟨W.heap.size + 1,1,none⟩=false/\w6.frozen? ⟨W.heap.size + 1,2,none⟩=false /\
    Hid ((((w6.setCell ⟨W.heap.size + 1,0,none⟩ v6).setCell ⟨W.heap.size + 1,1,none⟩ (.slice sa seen.length sc)).setCell ⟨W.heap.size + 1,2,none⟩ vr).heap[D]? = some (.deferred (some []))/\∀ o',(∀ i y,(((w6.setCell ⟨W.heap.size + 1,0,none⟩ v6).setCell ⟨W.heap.size + 1,1,none⟩ (.slice sa seen.length sc)).setCell ⟨W.heap.size + 1,2,none⟩ vr).cell? ⟨W.heap.size + 1,i,none⟩=some y->((((w6.setCell ⟨W.heap.size + 1,0,none⟩ v6).setCell ⟨W.heap.size + 1,1,none⟩ (.slice sa seen.length sc)).setCell ⟨W.heap.size + 1,2,none⟩ vr).putObj D o').cell? ⟨W.heap.size + 1,i,none⟩=some y)/\AnsK w0 ((((w6.setCell ⟨W.heap.size + 1,0,none⟩ v6).setCell ⟨W.heap.size + 1,1,none⟩ (.slice sa seen.length sc)).setCell ⟨W.heap.size + 1,2,none⟩ vr).putObj D o') v6 (.slice sa seen.length sc) vr (Tk.firsts k (hitsOf q seen)) (srt (idsOf seen)) regs)):=by
   rintro v6 w6 ⟨o6,g6,b6⟩
   have hA6:=hAd.kp (kpF g6) (fun _ h=>h.elim) (fun _ _ _ h=>h)
   obtain ⟨ha,hn,hc,ev⟩:∃ ha hn hc,v6=.slice ha hn hc:=by
    rcases o6.2 with ⟨e,_⟩ | ⟨g,cap,cur,e,_⟩
    ·exact ⟨_,_,_,e⟩
    ·exact ⟨_,_,_,e⟩
   have k7:Tk.Kp (fun b=>b=W.heap.size + 1) w6 (((w6.setCell ⟨W.heap.size + 1,0,none⟩ v6).setCell ⟨W.heap.size + 1,1,none⟩ (.slice sa seen.length sc)).setCell ⟨W.heap.size + 1,2,none⟩ vr):=(((Tk.Kp.refl (fun b=>b=W.heap.size + 1) w6).setCell (.inl rfl) _).setCell (.inl rfl) _).setCell (.inl rfl) _
   have tr:Ty w6 (W.heap.size + 1) 51:=⟨_,_,hA6.r⟩
   have ne:∀ {b:Nat} {t:TypeId},Ty w6 b t->t ≠ 51->¬ b=W.heap.size + 1:=fun ht hne e=>ht.ne tr hne e
   have hK6:w6.heap[D]? = some (.deferred (some [])):=gb_same g6 (gb_same gD hK)
   have hDr:D ≠ W.heap.size + 1:=fun e=>by rw [e,hA6.r] at hK6;cases hK6
   have hK7:(((w6.setCell ⟨W.heap.size + 1,0,none⟩ v6).setCell ⟨W.heap.size + 1,1,none⟩ (.slice sa seen.length sc)).setCell ⟨W.heap.size + 1,2,none⟩ vr).heap[D]? = some (.deferred (some [])):=by rw [k7.block D (Array.getElem?_eq_some_iff.1 hK6).1 hDr];exact hK6
   refine ⟨ha,hn,hc,ev,⟨fun h=>⟨gb_keeps g6 h.1,gb_keeps g6 h.2.1,gb_keeps g6 h.2.2.1,gb_keeps g6 h.2.2.2⟩,fun h=>⟨k7.cell h.1 (ne ⟨_,_,hA6.a⟩ (by decide)),k7.cell h.2.1 (ne hA6.st.tsb (by decide)),k7.cell h.2.2.1 (ne hA6.st.tsb (by decide)),k7.cell h.2.2.2 (ne ⟨_,_,hA6.kk⟩ (by decide))⟩⟩,⟨_,cell_cur hA6.r rfl⟩,⟨_,cell_cur hA6.r rfl⟩,⟨_,cell_cur hA6.r rfl⟩,by simp [World.frozen?,hA6.r],by simp [World.frozen?,hA6.r],by simp [World.frozen?,hA6.r],hK7,fun o'=>?_⟩
   have k8:∀ W7:World,W7.heap[D]? = some (.deferred (some []))->Tk.Kp (fun b=>b=D) W7 (W7.putObj D o'):=fun W7 _=>(Tk.Kp.grown (grownBy_putObj' W7 D o')).mono (fun b _ e=>by injection e)
   have nD:∀ {b:Nat} {t:TypeId},Ty (((w6.setCell ⟨W.heap.size + 1,0,none⟩ v6).setCell ⟨W.heap.size + 1,1,none⟩ (.slice sa seen.length sc)).setCell ⟨W.heap.size + 1,2,none⟩ vr) b t->¬ b=D:=fun ht e=>by
    obtain ⟨c,s,e2⟩:=ht
    rw [e,hK7] at e2
    cases e2
   have ty7:∀ {b:Nat} {t:TypeId},Ty w6 b t->t ≠ 51->Ty (((w6.setCell ⟨W.heap.size + 1,0,none⟩ v6).setCell ⟨W.heap.size + 1,1,none⟩ (.slice sa seen.length sc)).setCell ⟨W.heap.size + 1,2,none⟩ vr) b t:=fun ht hne=>by
    obtain ⟨c,s,e⟩:=ht
    exact ⟨c,s,by rw [k7.block _ (Array.getElem?_eq_some_iff.1 e).1 (ne ⟨c,s,e⟩ hne)];exact e⟩
   have t6h:∀ {g:Nat},v6.ownBlock=some g->Ty w6 g 60:=fun hg=>by
    rcases o6.2 with ⟨e,_⟩ | ⟨g',cap,cur,e,_,hh,_⟩
    ·rw [e] at hg;cases hg
    ·rw [e] at hg;cases hg;exact ⟨_,_,hh⟩
   have ki:=k8 _ hK7
   refine ⟨fun i y hy=>ki.cell hy hDr.symm,?_,?_,?_,?_,?_⟩
   ·have b7:Below w0.heap.size w0 (((w6.setCell ⟨W.heap.size + 1,0,none⟩ v6).setCell ⟨W.heap.size + 1,1,none⟩ (.slice sa seen.length sc)).setCell ⟨W.heap.size + 1,2,none⟩ vr):=hA6.st.gb.trans (k7.gr hA6.st.gb.size (fun b e=>by rw [e];exact hA.rbB))
    exact below_putObj b7 hDw o'
   ·exact own_putObj (Tk.own_kp o6 k7 (fun g hg=>ne (t6h hg) (by decide))) hK7 rfl _
   ·intro g hg
    have:=b6 g hg
    have:=hAd.st.gb.size
    omega
   ·have:=own_kpI hA6.st.sn k7 (fun g e=>ne (hA6.st.tvs e) (by decide))
    rw [sRw_ids] at this
    exact own_kpI this ki (fun g e=>nD (ty7 (hA6.st.tvs e) (by decide)))
   ·have r7:=hA6.rg.kp k7 (fun b e cur s hc=>by rw [e,hA6.r] at hc;injection hc with hc;injection hc with _ hc _;revert hc;decide) (fun g e=>ne (hA6.rg.ty e) (by decide))
    exact r7.kp ki (fun b e cur s hc=>by rw [e,hK7] at hc;cases hc) (fun g e=>nD (r7.ty e))
  have FS6:(fun W0=>W0.cell? ⟨W.heap.size,0,none⟩=some (.pointer (some ⟨sb,0,none⟩))/\W0.cell? ⟨sb,1,none⟩=some (.pointer (some ⟨hb,0,none⟩))/\W0.cell? ⟨sb,3,none⟩=some (.slice sa seen.length sc)/\W0.cell? ⟨w2.heap.size,0,none⟩=some (.slice ra regs.length rc)) W'.drew:=⟨cell_cur hAd.a rfl,hAd.st.cells.2.1,hAd.st.cells.2.2.2.1,by rw [<- er];exact cell_cur hAd.kk rfl⟩
  clear hA hAd gD efs hK hrl
  subst er
  generalize regs.length=rn at *
  generalize seen.length=ns at *
  gi_wp2
  refine regIn_only (S:=fun W0=>W0.cell? ⟨W.heap.size,0,none⟩=some (.pointer (some ⟨sb,0,none⟩))/\W0.cell? ⟨sb,1,none⟩=some (.pointer (some ⟨hb,0,none⟩))/\W0.cell? ⟨sb,3,none⟩=some (.slice sa ns sc)/\W0.cell? ⟨w2.heap.size,0,none⟩=some (.slice ra rn rc)) (by kernel_rfl) (by kernel_rfl) FS6 (fun hHeld=>?_)
  refine tkn 0 ?_ rfl ?_ ?_;rotate_left;·(rintro w ⟨s0,s1,s2,s3⟩;go_simp;try rfl)
  try simp only [Act.put,List.getElem_toArray,List.getElem_cons_zero,List.setIfInBounds_toArray,List.set_cons_zero,List.set_cons_succ]
  refine tkn 1 ?_ rfl ?_ ?_;rotate_left;·(rintro w ⟨s0,s1,s2,s3⟩;go_simp;try rfl)
  try simp only [Act.put,List.getElem_toArray,List.getElem_cons_zero,List.getElem_cons_succ,List.setIfInBounds_toArray,List.set_cons_zero,List.set_cons_succ]
  refine tkn 2 ?_ rfl ?_ ?_;rotate_left;·(rintro w ⟨s0,s1,s2,s3⟩;go_simp;try rfl)
  try simp only [Act.put,List.getElem_toArray,List.getElem_cons_zero,List.getElem_cons_succ,List.setIfInBounds_toArray,List.set_cons_zero,List.set_cons_succ]
  refine tkn 3 ?_ rfl ?_ ?_;rotate_left;·(rintro w ⟨s0,s1,s2,s3⟩;go_simp;try rfl)
  try simp only [Act.put,List.getElem_toArray,List.getElem_cons_zero,List.getElem_cons_succ,List.setIfInBounds_toArray,List.set_cons_zero,List.set_cons_succ]
  refine tkn 5 ?_ rfl ?_ ?_;rotate_left;·(rintro w ⟨s0,s1,s2,s3⟩;go_simp;try rfl)
  try simp only [Act.put,List.getElem_toArray,List.getElem_cons_zero,List.getElem_cons_succ,List.setIfInBounds_toArray,List.set_cons_zero,List.set_cons_succ]
  refine tkn 6 ?_ rfl ?_ ?_;rotate_left;·(rintro w ⟨s0,s1,s2,s3⟩;go_simp;try rfl)
  try simp only [Act.put,List.getElem_toArray,List.getElem_cons_zero,List.getElem_cons_succ,List.setIfInBounds_toArray,List.set_cons_zero,List.set_cons_succ]
  refine tkn 7 ?_ rfl ?_ ?_;rotate_left;·(rintro w ⟨s0,s1,s2,s3⟩;go_simp;try rfl)
  try simp only [Act.put,List.getElem_toArray,List.getElem_cons_zero,List.getElem_cons_succ,List.setIfInBounds_toArray,List.set_cons_zero,List.set_cons_succ]
  refine tkn 8 ?_ rfl ?_ ?_;rotate_left;·(rintro w ⟨s0,s1,s2,s3⟩;go_simp;try rfl)
  try simp only [Act.put,List.getElem_toArray,List.getElem_cons_zero,List.getElem_cons_succ,List.setIfInBounds_toArray,List.set_cons_zero,List.set_cons_succ]
  refine tkn 9 ?_ rfl ?_ ?_;rotate_left;·(rintro w ⟨s0,s1,s2,s3⟩;go_simp;try rfl)
  try simp only [Act.put,List.getElem_toArray,List.getElem_cons_zero,List.getElem_cons_succ,List.setIfInBounds_toArray,List.set_cons_zero,List.set_cons_succ]
  refine rdn 4 rfl (fun K hK=>?_)
  go_simp
  go_fit cL
  rintro e w6 ⟨v6,rfl,o6⟩
  obtain ⟨ha,hn,hc,rfl,K6,⟨y0,z0⟩,⟨y1,z1⟩,⟨y2,z2⟩,f0,f1,f2,FIN⟩:=LX.out _ _ o6
  clear o6 cL LX
  refine hK.out _ _ (K6.1 hHeld) (fun hHeld=>?_)
  clear hK K
  try simp only [Act.put,List.getElem_toArray,List.getElem_cons_zero,List.getElem_cons_succ,List.setIfInBounds_toArray,List.set_cons_zero,List.set_cons_succ]
  refine tkn 10 ?_ rfl ?_ ?_;rotate_left;·(rintro w ⟨s0,s1,s2,s3⟩;go_simp;try rfl)
  try simp only [Act.put,List.getElem_toArray,List.getElem_cons_zero,List.getElem_cons_succ,List.setIfInBounds_toArray,List.set_cons_zero,List.set_cons_succ]
  refine rdn 11 rfl (fun K hK=>?_)
  go_simp
  refine hK.out _ _ (K6.2 hHeld) (fun hHeld=>?_)
  clear hK K
  try simp only [Act.put,List.getElem_toArray,List.getElem_cons_zero,List.getElem_cons_succ,List.setIfInBounds_toArray,List.set_cons_zero,List.set_cons_succ]
  refine wpAnyH_done (by kernel_rfl) ?_ _
  dsimp only [onlyN]
  gi_wp2
  have q0:(((w6.setCell ⟨W.heap.size + 1,0,none⟩ (.slice ha hn hc)).setCell ⟨W.heap.size + 1,1,none⟩ (.slice sa ns sc)).setCell ⟨W.heap.size + 1,2,none⟩ (.slice ra rn rc)).cell? ⟨W.heap.size + 1,0,none⟩=some (.slice ha hn hc):=by simp [go_sem,z0]
  have q1:(((w6.setCell ⟨W.heap.size + 1,0,none⟩ (.slice ha hn hc)).setCell ⟨W.heap.size + 1,1,none⟩ (.slice sa ns sc)).setCell ⟨W.heap.size + 1,2,none⟩ (.slice ra rn rc)).cell? ⟨W.heap.size + 1,1,none⟩=some (.slice sa ns sc):=by simp [go_sem,z1]
  have q2:(((w6.setCell ⟨W.heap.size + 1,0,none⟩ (.slice ha hn hc)).setCell ⟨W.heap.size + 1,1,none⟩ (.slice sa ns sc)).setCell ⟨W.heap.size + 1,2,none⟩ (.slice ra rn rc)).cell? ⟨W.heap.size + 1,2,none⟩=some (.slice ra rn rc):=by simp [go_sem,z2]
  obtain ⟨hK7,hF⟩:=FIN.out
  refine ⟨by simp,.inl ⟨_,_,rfl,run_takeDeferred hK7,?_⟩⟩
  have p0:=(hF (.deferred none)).1 _ _ q0
  have p1:=(hF (.deferred none)).1 _ _ q1
  have p2:=(hF (.deferred none)).1 _ _ q2
  have hAns:=(hF (.deferred none)).2
  exact ⟨.agg #[.slice ha hn hc,.slice sa ns sc,.slice ra rn rc],by simp [results,Tryz.results38,go_sem,p0,p1,p2],_,_,_,rfl,hAns⟩
end Go.Proofs.YtgbgejflmbhigaaGreat
