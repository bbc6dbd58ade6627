import Derived.Test.YtcipdampcmfmaabGreatJa40
import Derived.Test.YtcipdampcmfmaabGreatJa39
import Derived.Test.YtcipdampcmfmaabGreatJaIvVj
import Derived.Test.YtcipdampcmfmaabGreatJa38
namespace Go.Proofs.YtcipdampcmfmaabGreat
open Go.RowKit Go.Sort Go.Maps
def stV (q:List Int) (k b:Nat) (C:Vs) (rs:List Rw) (l:List Int) (j:Nat):SV:=runV q k C rs ((l.map Int.toNat).take j) ⟨[],b,[]⟩
theorem stV_next {q:List Int} {k b:Nat} {C:Vs} {rs:List Rw} {l:List Int} {j:Nat} (hj:j < l.length):stV q k b C rs l (j + 1)=visV q k C[(l[j]!).toNat]! (listR C rs (l[j]!).toNat) (stV q k b C rs l j):=by
 unfold stV
 rw [List.take_add_one,List.getElem?_eq_getElem (by rw [List.length_map];exact hj)]
 simp only [Option.toList_some]
 rw [runV_snoc,List.getElem_map,getElem!_pos l j hj]
theorem stV_end {q:List Int} {k b:Nat} {C:Vs} {rs:List Rw}:stV q k b C rs (outL C q) C.length=endV q k b C rs:=by
 have:(outL C q).length=C.length:=by rw [(outL_perm C q).length_eq,plQ_len]
 unfold stV endV
 rw [List.take_of_length_le (by rw [List.length_map];omega)]
theorem out_nd (C:Vs) (q:List Int):((outL C q).map Int.toNat).Nodup:=by
 have p2:=(outL_perm C q).map Int.toNat
 have e:(plQ C.length).map Int.toNat=List.range C.length:=by
  unfold plQ
  rw [List.map_map]
  have:(Int.toNat ∘ fun (i:Nat)=>(i:Int))=id:=by funext i;simp
  rw [this,List.map_id]
 rw [e] at p2
 exact p2.nodup_iff.2 List.nodup_range
theorem out_cov {C:Vs} (h1:1<=C.length) (q:List Int) (v:List Int):(nearP C v).1 ∈ (outL C q).map Int.toNat:=by
 refine List.mem_map.2 ⟨((nearP C v).1:Int),(outL_perm C q).mem_iff.2 ?_,by simp⟩
 unfold plQ
 exact List.mem_map.2 ⟨_,List.mem_range.2 (nearP_lt h1 _),rfl⟩
theorem out_at {C:Vs} {q:List Int} {j:Nat} (hj:j < C.length):∃ p:Nat,(outL C q)[j]! = (p:Int)/\p < C.length:=by
 have hl:(outL C q).length=C.length:=by rw [(outL_perm C q).length_eq,plQ_len]
 have hm:(outL C q)[j]! ∈ outL C q:=by rw [getElem!_pos _ j (by omega)];exact List.getElem_mem _
 have:=(outL_perm C q).mem_iff.1 hm
 unfold plQ at this
 obtain ⟨p,hp,e⟩:=List.mem_map.1 this
 exact ⟨p,e.symm,List.mem_range.1 hp⟩
theorem ne_sum:∀ l:List (Reg × List Rw),(∀ x ∈ l,x.2 ≠ [])->l.length<=(l.flatMap Prod.snd).length
 | [],_=>Nat.zero_le _
 | x :: r,h=>by
  have a1:=ne_sum r (fun y hy=>h y (List.mem_cons_of_mem _ hy))
  have a2:=List.length_pos_iff.2 (h x List.mem_cons_self)
  rw [List.flatMap_cons,List.length_append,List.length_cons]
  omega
theorem stV_few {q:List Int} {m k b:Nat} {C:Vs} {rs:List Rw} (hr:Ris rs) (hok:RowsOk rs (m:Int)) (hC:VsOk C (m:Int)/\1<=C.length) (hk:1<=k) {j:Nat} (hj:j < C.length) :
  (stV q k b C rs (outL C q) j).seen.length + (listR C rs ((outL C q)[j]!).toNat).length<=512/\(stV q k b C rs (outL C q) j).rest.length + 1<=5000/\(stV q k b C rs (outL C q) j).bud<=b:=by
 obtain ⟨hC1,hC2⟩:=hC
 have hl:(outL C q).length=C.length:=by rw [(outL_perm C q).length_eq,plQ_len]
 have hpl:∀ p,listR C rs p ≠ []->p < C.length:=fun p hne=>by
  obtain ⟨r,hr'⟩:=List.exists_mem_of_ne_nil _ hne
  rw [<- (mem_listR.1 hr').2]
  exact nearP_lt hC2 _
 have hS:∀ p,listR C rs p ≠ []->(ballR C[p]! (listR C rs p)).S=3:=fun p hne=>by
  rw [ballR_of (hC1 p (hpl p hne)) (hok.sub (listR_sub C rs p)) (listR_ris p hr)]
 obtain ⟨L,hI⟩:=InvV.run (q:=q) (C:=C) (rs:=rs) (b:=b) hk hS (((outL C q).map Int.toNat).take j) [] ⟨[],b,[]⟩ [] (InvV.start q k C rs b)
 rw [List.nil_append] at hI
 have hp:=lists_permN hr (out_nd C q) (fun r _=>out_cov hC2 q r.2)
 have e:(outL C q).map Int.toNat=((outL C q).map Int.toNat).take j ++ ((outL C q)[j]!).toNat :: ((outL C q).map Int.toNat).drop (j + 1):=by
  rw [getElem!_pos _ j (by omega)]
  have:((outL C q)[j]'(by omega)).toNat=((outL C q).map Int.toNat)[j]'(by rw [List.length_map];omega):=by rw [List.getElem_map]
  rw [this,<- List.drop_eq_getElem_cons,List.take_append_drop]
 rw [e,List.flatMap_append,List.flatMap_cons] at hp
 have h1:=hp.length_eq
 have h2:=hI.rows.length_eq
 have h3:=ne_sum L (fun x hx=>(hI.reg x hx).1)
 have h4:=hI.bud
 have h5:=hok.few
 rw [List.length_append,List.length_append] at h1
 rw [List.length_append] at h2
 unfold stV
 have h6:(runV q k C rs (((outL C q).map Int.toNat).take j) ⟨[],b,[]⟩).rest.length=L.length:=by rw [hI.rest,List.length_map]
 exact ⟨by omega,by omega,by omega⟩
theorem ball_ck {c:List Int} {R:List Rw} {q:List Int} {m:Nat} (hc:chk c (m:Int)=0) (hok:RowsOk R (m:Int)) (hr:Ris R) (hq:chk q (m:Int)=0):ckB (ballR c R) q=0:=by
 have hql:=(chk_ok hq).2.2.1
 have hqc:=chk_ok hq
 have hrise:rise (idsOf R)=true:=by
  rw [<- srt_ris hr]
  refine rise_of hok.ids (fun y hy=>?_)
  obtain ⟨row,hrow,rfl⟩:=List.mem_map.1 hy
  exact (hok.row row hrow).1
 rw [ballR_of hc hok hr]
 unfold ckB
 rw [if_pos]
 ·rw [<- hql];exact hq
 ·unfold ckR
  rw [if_pos ⟨by omega,by omega⟩,if_pos ⟨by simp [uses],hrise⟩,if_neg (by dsimp only;decide),if_pos (by rfl)]
  rw [<- hql]
  exact hc
theorem own_formI {w:World} {B:Nat} {v:Value} {l:List Int} (h:Own w B v l) (h0:l ≠ []):∃ g cap,v=.slice (some ⟨g,0,none⟩) l.length cap/\l.length<=cap:=by
 rcases h.2 with ⟨_,e⟩ | ⟨g,cap,cur,e,_,_,e1,e2,e3,e4⟩
 ·exact absurd (List.eq_nil_of_length_eq_zero e) h0
 ·exact ⟨g,cap,e,by omega⟩
def StO (Z wA:World) (sb hb k b:Nat) (u:Value) (q:List Int) (C:Vs) (rs:List Rw) (lb:Nat) (j:Nat) (W:World):Prop :=
 (∃ a1 a2 a3 b1 b2 b3 b4 b5 b6 b7 b8 b9 c1 c2 c3,(∀ W',Gb wA W'->(Instr.lookup 71 (.map (some lb)) (.int .i64 (outL C q)[j]!) true).run Tryz.prog W'=.ok (.tuple #[.agg #[.int .i64 a1,.slice b1 b2 b3,.slice b4 b5 b6,.int .u64 a2,.int .u64 a3,.slice b7 b8 b9,.slice c1 c2 c3],.bool true]) W') /\
  ∀ W',Gb W W'->Calls Tryz.prog 37 #[.pointer (some ⟨sb,0,none⟩),.agg #[.int .i64 a1,.slice b1 b2 b3,.slice b4 b5 b6,.int .u64 a2,.int .u64 a3,.slice b7 b8 b9,.slice c1 c2 c3]] W' fun e W2=>e=.returned (.tuple #[])/\Hid (∃ vs vr vh,SA Z wA W2 sb hb k u q (stV q k b C rs (outL C q) (j + 1)) vs vr vh)) ∨
 ((∀ W',Gb wA W'->(Instr.lookup 71 (.map (some lb)) (.int .i64 (outL C q)[j]!) true).run Tryz.prog W'=.ok (.tuple #[zL,.bool false]) W') /\
  ∀ W',Gb W W'->Hid (∃ vs vr vh,SA Z wA W' sb hb k u q (stV q k b C rs (outL C q) (j + 1)) vs vr vh))
theorem look_step {Iq:Nat->Prop} {Z wA W:World} {tb m:Nat} {C:Vs} {rs:List Rw} {gc cc lb pb:Nat} {ks pk:List Int} {f:Int->Value} {pf:Int->Int} {G:Int->Loc} (o:TreeO Iq wA tb m C rs gc cc lb pb ks pk f pf G) {sb hb k b:Nat} {u:Value} {q:List Int} (hq:chk q (m:Int)=0) (hk:1<=k) (hb':b<=1000000) {j:Nat} (hj:j < C.length) {vs vr vh:Value}
  (h:SA Z wA W sb hb k u q (stV q k b C rs (outL C q) j) vs vr vh):StO Z wA sb hb k b u q C rs lb j W:=by
 obtain ⟨p,ep,hp⟩:=out_at (q:=q) hj
 have hl:(outL C q).length=C.length:=by rw [(outL_perm C q).length_eq,plQ_len]
 have hnx:=stV_next (q:=q) (k:=k) (b:=b) (C:=C) (rs:=rs) (l:=outL C q) (j:=j) (by omega)
 obtain ⟨f1,f2,f3⟩:=stV_few (q:=q) (b:=b) o.ris o.rok ⟨o.cok.1,o.cok.2.1⟩ hk hj
 have lk:=fun W' (g:Gb wA W')=>(o.lst.same (g.block _ o.lst.lt)).look_ok (t:=71) Tryz.underlying3 Tryz.underlying71 (zeroList W') (x:=(p:Int)) ⟨by omega,by have:=o.cok.2.2;omega⟩
 unfold StO
 rw [ep,Int.toNat_natCast] at hnx f1
 rw [ep]
 by_cases hks:(p:Int) ∈ ks
 ·obtain ⟨d,vl,vx,vi,a⟩:=o.ls.at_ _ hks
  simp only [Int.toNat_natCast] at a
  obtain ⟨R,eR⟩:∃ R,R=listR C rs p:=⟨_,rfl⟩
  have hne:R ≠ []:=by rw [eR];have:=((o.ls.keys _).1 hks).2;simpa using this
  rw [<- eR] at a hnx f1
  have hris:Ris R:=by rw [eR];exact listR_ris p o.ris
  have hRok:RowsOk R (m:Int):=by rw [eR];exact o.rok.sub (listR_sub C rs p)
  have hc:=o.cok.1 p hp
  have hB:=ballR_of hc hRok hris
  have hid0:(ballR C[p]! R).I ≠ []:=by rw [hB];unfold idsOf;simpa using hne
  have hIl:(ballR C[p]! R).I.length=R.length:=by rw [hB];simp [idsOf]
  obtain ⟨ib,ci,ei,hci⟩:=own_formI a.ids.own hid0
  obtain ⟨al,nl,cl,el⟩:∃ al nl cl,vl=.slice al nl cl:=by obtain ⟨x,y,e,_⟩:=a.low.rd;exact ⟨_,_,_,e⟩
  obtain ⟨ah,nh,ch,eh⟩:∃ al nl cl,vx=.slice al nl cl:=by obtain ⟨x,y,e,_⟩:=a.high.rd;exact ⟨_,_,_,e⟩
  have hrow:RdW wA (.slice (some ⟨(G p).1,(G p).2.1,none⟩) d.length (G p).2.2) R:=by
   have:=RwRd.rdw' (cap:=(G p).2.2) a.pc.rd (fun x hx=>(a.vec x hx).rd)
   rw [a.rows] at this
   exact this
  have hdl:d.length=R.length:=by rw [<- a.rows,List.length_map]
  have hcap:R.length<=(G p).2.2:=by obtain ⟨cur,_,_,e,_⟩:=a.pc;omega
  rw [hdl] at hrow
  have hcc:=chk_ok hc
  have hLl:1<=(ballR C[p]! R).L.length/\(ballR C[p]! R).L.length<=64:=by rw [hB];exact ⟨hcc.1,hcc.2.1⟩
  have hd:∀ r ∈ R,distE q r.2=0:=fun r hr=>by
   have h1:=(hRok.row r hr).2
   have h2:=(chk_ok hq).2.2.1
   unfold distE
   rw [<- h2,if_pos hq]
   exact h1
  have hI:=a.ids.rd
  rw [ei] at hI
  refine .inl ⟨(ballR C[p]! R).S,hi (ballR C[p]! R).R,lo (ballR C[p]! R).R,al,nl,cl,ah,nh,ch,some ⟨ib,0,none⟩,(ballR C[p]! R).I.length,ci,some ⟨(G p).1,(G p).2.1,none⟩,R.length,(G p).2.2,fun W' g=>?_,fun W' g=>?_⟩
  rotate_left 1
  ·have cV:=visit_c (h.grow g) (c:=C[p]!) (R:=R) (vl:=vl) (vx:=vx) a.low.rd a.high.rd hI hci hrow hcap (by rw [hB];exact rad_lt hc hRok) (ball_ck hc hRok hris hq) hLl hIl hd f1 f2 (by omega)
   unfold lv at cV
   rw [el,eh] at cV
   refine cV.mono ?_
   rintro e W2 ⟨rfl,hO⟩
   rw [hnx]
   exact ⟨rfl,hO⟩
  ·have:=lk W' g
   rw [if_pos hks,decide_eq_true hks,a.val,ei,el,eh,hdl] at this
   exact this
 ·have hR0:listR C rs p=[]:=by
   refine Decidable.byContradiction fun hne=>hks ((o.ls.keys _).2 ⟨by omega,by simpa using hne⟩)
  refine .inr ⟨fun W' g=>?_,fun W' g=>?_⟩
  ·have:=lk W' g
   rw [if_neg hks,decide_eq_false hks] at this
   exact this
  ·rw [hnx,hR0,visV_nil]
   exact ⟨_,_,_,h.grow g⟩
end Go.Proofs.YtcipdampcmfmaabGreat

namespace Go.Proofs.YtcipdampcmfmaabGreat
open Go.RowKit Go.Sort Go.Maps
set_option maxRecDepth 100000
set_option maxHeartbeats 4000000
theorem RgAt.mono {W:World} {B B':Nat} {v:Value} {l:List Reg} (h:RgAt W B v l) (hB:B'<=B):RgAt W B' v l:=by
 obtain ⟨xs,h1,h2⟩:=h
 refine ⟨xs,⟨h1.1,?_⟩,fun i hi'=>?_⟩
 ·rcases h1.2 with h | ⟨g,cap,cur,e,hg,r⟩
  ·exact .inl h
  ·exact .inr ⟨g,cap,cur,e,by omega,r⟩
 ·obtain ⟨v1,v3,s,r,a,b,c,d,e,f,o1,o3⟩:=h2 i hi'
  exact ⟨v1,v3,s,r,a,b,c,d,e,f,o1.mono hB,o3.mono hB⟩
theorem cell_kp {S:Nat->Prop} {W W':World} (k:Tk.Kp S W W') {g i:Nat} {v:Value} (h:W.cell? ⟨g,i,none⟩=some v) (hn:¬ S g):W'.cell? ⟨g,i,none⟩=some v:=by
 have e:=k.block g (cell_lt h) hn
 unfold World.cell? at h ⊢
 rw [e]
 exact h
theorem AnsK.base {w0 w1 W:World} {vh vs vr:Value} {hits:List Tk.Ht} {ids:List Int} {regs:List Reg} (h:AnsK w1 W vh vs vr hits ids regs) (g:Gb w0 w1):AnsK w0 W vh vs vr hits ids regs:=by
 have s:=g.size
 exact ⟨gb_trans g h.gb,h.hits,fun b e=>by have:=h.hB b e;omega,h.seen.mono s,h.rest.mono s⟩
theorem SA.new {w0 W:World} {k:Nat} {u:Value} {q:List Int} (hu:RdI w0 u q) (hk:1<=k/\k<=64) (b:Nat)
  (g:Gb ((w0.alloc (.cells #[.int .i64 (k:Int),.slice none 0 0] 131)).alloc (.cells #[u,.pointer (some ⟨w0.heap.size,0,none⟩),.int .i64 (b:Int),.slice none 0 0,.slice none 0 0] 95)) W) :
  SA W w0 W (w0.heap.size + 1) w0.heap.size k u q ⟨[],b,[]⟩ (.slice none 0 0) (.slice none 0 0) (.slice none 0 0):=by
 have e1:=heap_new (w0.alloc (.cells #[.int .i64 (k:Int),.slice none 0 0] 131)) (.cells #[u,.pointer (some ⟨w0.heap.size,0,none⟩),.int .i64 (b:Int),.slice none 0 0,.slice none 0 0] 95)
 rw [World.size_alloc] at e1
 refine ⟨by rw [g.block _ (Array.getElem?_eq_some_iff.1 e1).1];exact e1,by omega,Nat.le_refl _,?_,fun g e=>by simp [Value.ownBlock] at e,⟨rfl,.inl ⟨rfl,rfl⟩⟩,⟨[],⟨rfl,.inl ⟨rfl,rfl⟩⟩,fun i hi=>by simp at hi⟩,gb_trans (gb_alloc (gb_alloc (Below.refl _ _) _) _) g,hu,by simp,by simp,Tk.Kp.refl _ _,⟨fun g e=>by simp [Value.ownBlock] at e,fun g e=>by simp [Value.ownBlock] at e,fun g e=>by simp [Value.ownBlock] at e⟩⟩
 have:Tk.firsts k (hitsOf q [])=[]:=Tk.firsts_nil k
 rw [this]
 exact ((Tk.new_has k hk.1 hk.2 w0).gr (gb_alloc (Below.refl _ _) _)).gr g
def SeO (w0:World) (k:Nat) (q:List Int) (s:SV) (e:Ending) (W':World):Prop:=∃ vh vs vr,e=.returned (.tuple #[.agg #[vh,vs,vr],.int .i64 0])/\AnsK w0 W' vh vs vr (Tk.firsts k (hitsOf q s.seen)) (srt (idsOf s.seen)) s.rest
theorem search_c {Iq:Nat->Prop} {w:World} {tb m:Nat} {C:Vs} {rs:List Rw} {F:List Nat} (h:TreeAt Iq w tb m C rs F) {k b:Nat} {u:Value} {q:List Int} (hu:RdI w u q) (hq:chk q (m:Int)=0) (hk:1<=k/\k<=64) (hb:b<=1000000) :
  Calls Tryz.prog 16 #[.pointer (some ⟨tb,0,none⟩),u,.int .i64 (k:Int),.int .i64 (b:Int)] w fun e W'=>SeO w k q (endV q k b C rs) e W':=by
 obtain ⟨wA,eA⟩:∃ wA,wA=w.alloc (.cells #[.slice none 0 0,.slice none 0 0,.slice none 0 0] 51):=⟨_,rfl⟩
 have g1:Gb w wA:=by rw [eA];exact gb_alloc (Below.refl _ _) _
 have hA:=h.gb g1
 obtain ⟨gc,cc,lb,pb,ks,pk,f,pf,G,o,rfl⟩:=hA.opn
 obtain ⟨c0,c1,c2,c3⟩:=o.cells
 have huA:=hu.gb g1
 have bA:wA.heap[w.heap.size]? = some (.cells #[.slice none 0 0,.slice none 0 0,.slice none 0 0] 51 (0,0)):=by rw [eA];exact heap_new _ _
 have cK:=check_v huA (m:Int) 0 hq
 have cN:=Tk.new_ok (k:Int) (by omega) (by omega) wA
 obtain ⟨w3,e3⟩:∃ w3,w3=(wA.alloc (.cells #[.int .i64 (k:Int),.slice none 0 0] 131)).alloc (.cells #[u,.pointer (some ⟨wA.heap.size,0,none⟩),.int .i64 (b:Int),.slice none 0 0,.slice none 0 0] 95):=⟨_,rfl⟩
 have g3:Gb wA w3:=by rw [e3];exact gb_alloc (gb_alloc (Below.refl _ _) _) _
 have cO:=outward_c (hA.gb g3) (huA.gb g3) hq
 rw [e3] at cO
 have hb1:¬ (b:Int) < 0:=by omega
 have hb2:¬ (1000000:Int) < (b:Int):=by omega
 have X0:Hid (∀ w4,Gb w3 w4->∃ vs vr vh,SA w4 wA w4 (wA.heap.size + 1) wA.heap.size k u q (stV q k b C rs (outL C q) 0) vs vr vh):=fun w4 g=>by
  rw [e3] at g
  exact ⟨_,_,_,SA.new huA hk b g⟩
 have XS:Hid (∀ Z W j,j < C.length->(∃ vs vr vh,SA Z wA W (wA.heap.size + 1) wA.heap.size k u q (stV q k b C rs (outL C q) j) vs vr vh)->Gb wA W/\W.cell? ⟨tb,2,none⟩=some (.map (some lb))/\StO Z wA (wA.heap.size + 1) wA.heap.size k b u q C rs lb j W):=fun Z W j hj ⟨vs,vr,vh,hS⟩=>⟨hS.gb,gb_keeps hS.gb c2,look_step o hq hk.1 hb hj hS⟩
 have XP:Hid (∀ Z W j g cap,j < C.length->(∃ vs vr vh,SA Z wA W (wA.heap.size + 1) wA.heap.size k u q (stV q k b C rs (outL C q) j) vs vr vh)->w3.heap.size<=g->RdI Z (.slice (some ⟨g,0,none⟩) C.length cap) (outL C q)->W.cell? ⟨g,j,none⟩=some (.int .i64 (outL C q)[j]!)):=fun Z W j g cap hj ⟨vs,vr,vh,hS⟩ hg hr=>by
  have hs3:w3.heap.size=wA.heap.size + 2:=by rw [e3,World.size_alloc,World.size_alloc]
  have hl:(outL C q).length=C.length:=by rw [(outL_perm C q).length_eq,plQ_len]
  obtain ⟨a,cap',e,hc⟩:=hr
  obtain ⟨b',o',ea,hc⟩:=hc j (by omega)
  injection e with e1 e2 e3'
  rw [<- e1] at ea
  injection ea with ea
  injection ea with ea1 ea2 _
  subst ea1 ea2
  rw [Nat.zero_add] at hc
  exact cell_kp hS.kz hc (by omega)
 have FIN:Hid (∀ Z W,(∃ vs vr vh,SA Z wA W (wA.heap.size + 1) wA.heap.size k u q (stV q k b C rs (outL C q) C.length) vs vr vh)->Calls Tryz.prog 38 #[.pointer (some ⟨wA.heap.size + 1,0,none⟩)] W fun e W5=>∃ a1 n1 c1 a2 n2 c2 a3 n3 c3,e=.returned (.agg #[.slice a1 n1 c1,.slice a2 n2 c2,.slice a3 n3 c3])/\(∃ y,W5.cell? ⟨w.heap.size,0,none⟩=some y)/\(∃ y,W5.cell? ⟨w.heap.size,1,none⟩=some y)/\(∃ y,W5.cell? ⟨w.heap.size,2,none⟩=some y)/\W5.frozen? ⟨w.heap.size,0,none⟩=false/\W5.frozen? ⟨w.heap.size,1,none⟩=false/\W5.frozen? ⟨w.heap.size,2,none⟩=false /\
   Hid (AnsK w (((W5.setCell ⟨w.heap.size,0,none⟩ (.slice a1 n1 c1)).setCell ⟨w.heap.size,1,none⟩ (.slice a2 n2 c2)).setCell ⟨w.heap.size,2,none⟩ (.slice a3 n3 c3)) (.slice a1 n1 c1) (.slice a2 n2 c2) (.slice a3 n3 c3) (Tk.firsts k (hitsOf q (endV q k b C rs).seen)) (srt (idsOf (endV q k b C rs).seen)) (endV q k b C rs).rest)):=fun Z W ⟨vs,vr,vh,hS⟩=>by
  rw [stV_end] at hS
  refine (answer_c hS).mono ?_
  rintro e W5 ⟨v1,v2,v3,rfl,hK,⟨a1,n1,c1,rfl⟩,⟨a2,n2,c2,rfl⟩,⟨a3,n3,c3,rfl⟩⟩
  have hb5:W5.heap[w.heap.size]? = some (.cells #[.slice none 0 0,.slice none 0 0,.slice none 0 0] 51 (0,0)):=by
   rw [hK.gb.block w.heap.size (Array.getElem?_eq_some_iff.1 bA).1]
   exact bA
  refine ⟨a1,n1,c1,a2,n2,c2,a3,n3,c3,rfl,⟨_,cell_cur hb5 rfl⟩,⟨_,cell_cur hb5 rfl⟩,⟨_,cell_cur hb5 rfl⟩,by simp [World.frozen?,hb5],by simp [World.frozen?,hb5],by simp [World.frozen?,hb5],?_⟩
  refine (hK.base g1).kp (S:=fun b=>b=w.heap.size) ((((Tk.Kp.refl (fun b=>b=w.heap.size) W5).setCell (.inl rfl) _).setCell (.inl rfl) _).setCell (.inl rfl) _) (fun b e=>by rw [e];exact Nat.le_refl _) (fun b e t ht=>?_)
  subst e
  refine ⟨fun e=>?_,fun e=>?_,fun e=>?_⟩ <;> exact ht.ne ⟨_,_,hb5⟩ (by rw [e];decide) rfl
 obtain ⟨n,hn⟩:∃ n,n=C.length:=⟨_,rfl⟩
 have hn5:n<=64:=by rw [hn];exact o.cok.2.2
 obtain ⟨ua,uc,eu,_⟩:=hu
 subst eu
 generalize q.length=nq at *
 rw [<- hn] at cO XS XP FIN
 have hws:wA.heap.size=w.heap.size + 1:=by rw [eA,World.size_alloc]
 clear h hA o huA hq hk bA g1 g3 c1 c3 hb c2
 subst e3
 subst eA
 clear hws
 simp only [World.size_alloc] at cN cO X0 XS XP FIN
 go_enter Tryz.func16,Tryz.ntmps16
 go_wp2_with fail
 go_fit cK
 rintro e w1 ⟨rfl,rfl⟩
 clear cK
 go_wp2_with fail
 go_fit cN
 rintro e w2 ⟨rfl,rfl⟩
 clear cN
 go_wp2_with fail
 go_fit cO
 rintro e w4 ⟨g,cap,l,rfl,l1,l2,l3,⟨l4,l5⟩,gO⟩
 clear cO
 have LE:l=outL C q:=outL_eq (by rw [<- hn];exact l1) (by rw [<- hn];exact l2)
 subst LE
 have ST:Hid (∃ vs vr vh,SA w4 _ w4 (w.heap.size + 1 + 1) (w.heap.size + 1) k (.slice ua nq uc) q (stV q k b C rs (outL C q) 0) vs vr vh):=X0.out w4 gO
 have RD:Hid (∀ W j,j < n->(∃ vs vr vh,SA w4 _ W (w.heap.size + 1 + 1) (w.heap.size + 1) k (.slice ua nq uc) q (stV q k b C rs (outL C q) j) vs vr vh)->W.cell? ⟨g,j,none⟩=some (.int .i64 (outL C q)[j]!)):=fun W j hj hS=>XP.out w4 W j g cap hj hS (by simpa only [World.size_alloc] using l5) l3
 clear X0 XP l1 l2 l3 gO l5 hn
 go_wp2
 go_loopw [56] (fun iv W=>∃ j:Nat,iv=.int .i64 (j:Int)/\j<=n/\Hid (∃ vs vr vh,SA w4 (w.alloc (.cells #[.slice none 0 0,.slice none 0 0,.slice none 0 0] 51)) W (w.heap.size + 1 + 1) (w.heap.size + 1) k (.slice ua nq uc) q (stV q k b C rs (outL C q) j) vs vr vh)) (fun iv _=>n - (intOf iv).toNat)
 case atStart=>exact ⟨0,rfl,Nat.zero_le _,ST⟩
 case round =>
  clear ST
  obtain ⟨j,rfl,hj,XI⟩:=hrel
  by_cases hjn:j < n
  ·have hji:(j:Int) < (n:Int):=by omega
   have hc:=RD.out _ j hjn XI.out
   obtain ⟨gW,c2,hS⟩:=XS.out _ _ j hjn XI.out
   rcases hS with ⟨a1,a2,a3,b1,b2,b3,b4,b5,b6,b7,b8,b9,d1,d2,d3,lk,cV⟩ | ⟨lk,nx⟩
   ·have lk:=lk _ gW
    have cV:=cV (wr.alloc (.cells #[.int .i64 a1,.slice b1 b2 b3,.slice b4 b5 b6,.int .u64 a2,.int .u64 a3,.slice b7 b8 b9,.slice d1 d2 d3] 100)) (gb_alloc (Below.refl _ _) _)
    clear RD XS XI FIN gW
    generalize (outL C q)[j]! = x at *
    go_wp2_with fail
    go_fit cV
    rintro e w5 ⟨rfl,hN⟩
    clear cV lk hc c2
    go_wp2
    go_roundw
    case rel=>exact ⟨j + 1,by first | rfl | go_num,by omega,hN⟩
    case measure=>simp [intOf];omega
   ·have lk:=lk _ gW
    have GW:Hid _:=gW
    have NX:Hid (∀ W',Gb wr W'->_):=nx
    clear RD XS XI FIN gW nx
    generalize (outL C q)[j]! = x at *
    go_wp2
    go_roundw
    case rel=>exact ⟨j + 1,by first | rfl | go_num,by omega,NX.out _ (by go_grown)⟩
    case measure=>simp [intOf];omega
  ·have hje:j=n:=by omega
   subst hje
   have hji:¬ (j:Int) < (j:Int):=by omega
   have cA:=FIN.out w4 wr XI.out
   clear RD XS XI FIN
   go_wp2_with fail
   go_fit cA
   rintro e w5 ⟨a1,n1,c1,a2,n2,c2,a3,n3,c3,rfl,⟨y0,z0⟩,⟨y1,z1⟩,⟨y2,z2⟩,f0,f1,f2,FF⟩
   clear cA
   go_wp2
   refine bodyPost_ret (v:=.tuple #[.agg #[.slice a1 n1 c1,.slice a2 n2 c2,.slice a3 n3 c3],.int .i64 0]) (by simp [results,Tryz.results16,go_sem,z0,z1,z2]) rfl ?_
   exact ⟨_,_,_,rfl,FF.out⟩
end Go.Proofs.YtcipdampcmfmaabGreat
