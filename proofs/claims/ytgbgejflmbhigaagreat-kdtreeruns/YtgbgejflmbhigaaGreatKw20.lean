import Derived.Test.YtgbgejflmbhigaaGreatKw19
import Derived.Test.YtgbgejflmbhigaaGreatKw16
import Derived.Maps.AppendAt
import Derived.Test.YtgbgejflmbhigaaGreatKw12
namespace Go.Proofs.YtgbgejflmbhigaaGreat
open Go.RowKit Go.Sort Go.Maps
set_option maxRecDepth 100000
set_option maxHeartbeats 1000000
theorem app_run {o:Oper} {a:Act} {w:World} {K:Act->World->Prop} {Q:Exit->Act->World->Prop} (_hgd:o.guard=none) (s x:Operand) (t:TypeId)
  (ho:o.op=.call { callee:=.builtin .append,args:=#[s,x],argTypes:=#[t,t] }) (h:∃ v1 v2 v' w',a.eval s=v1/\a.eval x=v2/\(Builtin.append_ #[t,t] o.type #[v1,v2]).run Tryz.prog w=.ok v' w'/\K (a.put o.dst v') w') :
  Oper.wp Tryz.prog o a w K Q:=by
 obtain ⟨v1,v2,v',w',hs,hx,hr,h⟩:=h
 unfold Oper.wp execOp
 simp only [ho,resolve,invoke,builtin,Sem.run_bind,Sem.run_pure,Result.andThen_ok,List.map_toArray,List.map_cons,List.map_nil,hs,hx,hr]
 exact h
def OwnC (W:World) (B:Nat) (v:Value) (rs:List Rw):Prop:=v ≠ .slice none 0 0/\∃ xs,W.ownsRow B 39 2 v rs.length xs/\∀ i,i < rs.length->xs[i * 2]? = some (.int .i64 rs[i]!.1)/\∃ u,xs[i * 2 + 1]? = some u/\Own W B u rs[i]!.2
theorem OwnC.gb {W W':World} {B:Nat} {v:Value} {rs:List Rw} (h:OwnC W B v rs) (g:Gb W W'):OwnC W' B v rs:=by
 obtain ⟨hn,xs,h1,h2⟩:=h
 refine ⟨hn,xs,h1.kept (row:=none) ⟨g.os,g.tape,g.output,g.size,fun k hk _=>g.block k hk⟩ (by cases hv:v.ownBlock <;> simp),fun i hi=>?_⟩
 obtain ⟨a,u,b,c⟩:=h2 i hi
 exact ⟨a,u,b,c.gb g⟩
theorem OwnC.form {W:World} {B:Nat} {v:Value} {rs:List Rw} (h:OwnC W B v rs):∃ g cap,v=.slice (some ⟨g,0,none⟩) rs.length cap:=by
 obtain ⟨hn,xs,h,_⟩:=h
 rcases h.2 with ⟨e,h0⟩ | ⟨b,cap,cur,rfl,_⟩
 ·exact absurd e hn
 ·exact ⟨_,cap,rfl⟩
theorem OwnC.ownW {W:World} {B:Nat} {v:Value} {rs:List Rw} (h:OwnC W B v rs):OwnW W W B v rs:=by
 obtain ⟨_,xs,h1,h2⟩:=h
 refine ⟨xs,h1,fun i hi=>?_⟩
 obtain ⟨a,u,b,c⟩:=h2 i hi
 exact ⟨a,u,b,c.rd⟩
theorem OwnC.rdw {W:World} {B:Nat} {v:Value} {rs:List Rw} (h:OwnC W B v rs):RdW W v rs:=h.ownW.rdw (Below.refl _ _)
theorem own_neR {W:World} {B B' n:Nat} {u v:Value} {x:List Int} {xs:List Value} (h:Own W B u x) (r:W.ownsRow B' 39 2 v n xs):u.ownBlock=none ∨ u.ownBlock ≠ v.ownBlock:=by
 rcases h.2 with ⟨rfl,_⟩ | ⟨g,cap,cur,rfl,_,hh,_⟩
 ·exact .inl rfl
 ·refine .inr fun e=>?_
  rcases r.2 with ⟨rfl,_⟩ | ⟨g',cap',cur',rfl,_,hh',_⟩
  ·cases e
  ·cases e
   rw [hh] at hh'
   simp at hh'
theorem grown_cellC {W W':World} {row:Option Nat} (h:W.grownBy W' row) {p:Addr} {v:Value} (hc:W.cell? p=some v) (hne:row ≠ some p.block):W'.cell? p=some v:=by
 rw [World.cell?_of_block (h.block p.block (World.block_lt_of_cell? W p hc) (fun e=>hne e.symm))];exact hc
theorem OwnC.next {w W:World} {pv:Option Addr} {nv cv:Nat} {rs:List Rw} {x:Int} {l:List Int} {u:Value} (h:OwnC W w.heap.size (.slice pv nv cv) rs) (hn:rs.length<=4000) (g:Gb w W) (ho:Own W w.heap.size u l) :
  ∃ v' W',(Builtin.append_ #[22,22] 22 #[.slice pv nv cv,.slice (some ⟨W.heap.size,0,none⟩) 1 1]).run Tryz.prog (W.alloc (.cells #[.int .i64 x,u] 39))=.ok v' W'/\OwnC W' w.heap.size v' (rs ++ [(x,l)])/\Gb w W'/\∀ (p:Addr) (y:Value),(Value.slice pv nv cv).ownBlock ≠ some p.block->(W.alloc (.cells #[.int .i64 x,u] 39)).cell? p=some y->W'.cell? p=some y:=by
 obtain ⟨_,xs,h1,h2⟩:=h
 obtain ⟨i0,hi,hz0,hz1,hz2⟩:=info_partsW
 have hu:u.oneCell'=true:=by obtain ⟨a,c,rfl,_⟩:=ho.rd;rfl
 obtain ⟨v',W',hr,hown,hgrow,hnn,_⟩:=run_append_own_at (P:=Tryz.prog) (W.alloc (.cells #[.int .i64 x,u] 39)) w.heap.size 22 22 39 i0 (.agg #[.int .i64 0,.slice none 0 0]) 2 32 Tryz.underlying22 hi hz0 hz1 hz2 rfl (by decide)
  (.slice pv nv cv) rs.length xs (World.ownsRow.alloc h1 _) ⟨W.heap.size,0,none⟩ 1 1 [.int .i64 x,u] rfl (two_cells _ _ _ _) (by simp [Value.oneCell'];try exact hu) (by simp only [maxLen];omega) (by omega) (by rw [World.size_alloc];have:=g.size;omega)
 refine ⟨v',W',hr,⟨fun e=>absurd (hnn.1 e).2 (by decide),xs ++ [.int .i64 x,u],by rw [List.length_append];exact hown,fun i hi=>?_⟩,?_,fun p y hp hc=>grown_cellC hgrow hc hp⟩
 ·have kp:∀ {u':Value} {y:List Int},Own W w.heap.size u' y->Own W' w.heap.size u' y:=fun {u' y} ho'=>(ho'.gb (gb_alloc (Below.refl _ _) _)).kept hgrow (own_neR ho' h1)
  rw [List.length_append] at hi
  by_cases e:i < rs.length
  ·rw [getElem!_pos (rs ++ [(x,l)]) i (by rw [List.length_append];exact hi),List.getElem_append_left e,<- getElem!_pos rs i e,List.getElem?_append_left (by have:=h1.1;omega),List.getElem?_append_left (by have:=h1.1;omega)]
   obtain ⟨a,u',b,c⟩:=h2 i e
   exact ⟨a,u',b,kp c⟩
  ·have e':i=rs.length:=by simp at hi;omega
   subst e'
   have e2:(rs ++ [(x,l)])[rs.length]! = (x,l):=by rw [getElem!_pos _ _ (by simp)];simp
   have hl:=h1.1
   rw [e2,List.getElem?_append_right (by omega),List.getElem?_append_right (by omega),hl]
   exact ⟨by simp,u,by rw [show rs.length * 2 + 1 - rs.length * 2=1 by omega];rfl,kp ho⟩
 ·refine below_grown (gb_alloc g _) hgrow (fun k e=>?_) (gb_alloc g _).size
  have:=(h1.lt k e).1
  omega
theorem copies_c {w:World} {v:Value} {rs:List Rw} (h:RdW w v rs) (hn:rs.length<=4000) (hv:∀ i,i < rs.length->1<=rs[i]!.2.length/\rs[i]!.2.length<=100000) :
  Calls Tryz.prog 29 #[v] w fun e w'=>∃ v',e=.returned v'/\OwnC w' w.heap.size v' rs/\Gb w w':=by
 have A:Hid (RdW w v rs):=h
 have VL:Hid (∀ i,i < rs.length->1<=rs[i]!.2.length/\rs[i]!.2.length<=100000):=hv
 obtain ⟨a,cap,rfl,_⟩:=h
 obtain ⟨n,hN⟩:∃ n,n=rs.length:=⟨_,rfl⟩
 have N:Hid (n=rs.length):=hN
 rw [<- hN] at A hn ⊢
 clear hN hv
 obtain ⟨i0,hi,hz0,hz1,hz2⟩:=info_partsW
 obtain ⟨w1,hmk,ho,hg⟩:=run_make_own (P:=Tryz.prog) w w.heap.size 22 39 i0 (.agg #[.int .i64 0,.slice none 0 0]) 2 Tryz.underlying22 hi hz0 hz1 .i64 .i64 n (by rw [hz2];omega) (by simp only [maxLen];omega) (Nat.le_refl _)
 have O:Hid (OwnC w1 w.heap.size (.slice (some ⟨w.heap.size,0,none⟩) 0 n) (rs.take 0)/\Gb w w1):=⟨⟨by simp,[],ho,fun i hi=>absurd hi (by simp)⟩,below_grown (Below.refl _ _) hg (fun k e=>by cases e) (Nat.le_refl _)⟩
 clear hi hz0 hz1 hz2 ho hg
 go_enter Tryz.func29,Tryz.ntmps29
 go_wp2
 clear hmk
 go_loopw [3,11] (fun ov iv W=>∃ q:Nat,iv=.int .i64 (q:Int)/\q<=n/\Hid (OwnC W w.heap.size ov (rs.take q)/\Gb w W)) (fun _ iv _=>n - (intOf iv).toNat)
 case atStart=>exact ⟨0,rfl,Nat.zero_le _,O.out⟩
 case round =>
  clear O
  obtain ⟨q,rfl,hq,X⟩:=hrel
  by_cases hqn:q < n
  ·have hqi:(q:Int) < (n:Int):=by omega
   have hql:q < rs.length:=by have:=N.out;omega
   obtain ⟨_,_,e1,hA⟩:=A.out
   obtain ⟨b,o,u,ea,k1,k2,k3⟩:=hA q hql
   injection e1 with e2 e3 e4
   subst e2
   subst ea
   have NX:Hid (rs.take (q + 1)=rs.take q ++ [(rs[q]!.1,rs[q]!.2)]):=by unfold Hid;rw [List.take_succ_eq_append_getElem hql,getElem!_pos rs q hql]
   have NL:Hid ((rs.take q).length=q):=by unfold Hid;rw [List.length_take];omega
   have VB:=VL.out q hql
   generalize rs[q]!.1=x at *
   generalize rs[q]!.2=V at *
   have x0:=gb_keeps X.out.2 k1
   have x1:=gb_keeps X.out.2 k2
   have G1:Hid (Gb w (wr.alloc (.cells #[.int .i64 x,u] 39)).drew):=(gb_alloc X.out.2 _).drew
   have cC:=clone_c (k3.gb G1.out) VB.2 VB.1
   obtain ⟨pu,cu,eu,_⟩:=k3
   subst eu
   obtain ⟨gv,cv,ev⟩:=X.out.1.form
   obtain ⟨pv,hpv⟩:∃ pv,pv=some (⟨gv,0,none⟩:Addr):=⟨_,rfl⟩
   rw [<- hpv] at ev
   subst ev
   rw [NL.out]
   have XO:Hid (OwnC wr w.heap.size (.slice pv q cv) (rs.take q)):=by unfold Hid;have:=X.out.1;rwa [NL.out] at this
   obtain ⟨nu,hnu⟩:∃ nu,nu=V.length:=⟨_,rfl⟩
   rw [<- hnu] at x1 G1 cC
   have FS0:(wr.alloc (.cells #[.int .i64 x,.slice pu nu cu] 39)).drew.cell? ⟨wr.heap.size,0,none⟩=some (.int .i64 x)/\(wr.alloc (.cells #[.int .i64 x,.slice pu nu cu] 39)).drew.cell? ⟨wr.heap.size,1,none⟩=some (.slice pu nu cu):=⟨by simp [go_sem],by simp [go_sem]⟩
   have FIN:Hid (∀ w4 u4,Gb (wr.alloc (.cells #[.int .i64 x,.slice pu nu cu] 39)).drew w4->Own w4 (wr.alloc (.cells #[.int .i64 x,.slice pu nu cu] 39)).drew.heap.size u4 V ->
     ∃ v' W',(Builtin.append_ #[22,22] 22 #[.slice pv q cv,.slice (some ⟨w4.heap.size,0,none⟩) 1 1]).run Tryz.prog (w4.alloc (.cells #[.int .i64 x,u4] 39))=.ok v' W'/\(OwnC W' w.heap.size v' (rs.take (q + 1))/\Gb w W')/\∀ i y,(w4.alloc (.cells #[.int .i64 x,u4] 39)).cell? ⟨wr.heap.size,i,none⟩=some y->W'.cell? ⟨wr.heap.size,i,none⟩=some y):=by
    intro w4 u4 g4 o4
    rw [NX.out]
    obtain ⟨v',W',h1,h2,h3,h4⟩:=OwnC.next (x:=x) (u:=u4) (l:=V) (XO.out.gb (gb_trans (Below.drew (gb_alloc (Below.refl _ _) _)) g4)) (by rw [NL.out];omega) (gb_trans G1.out g4) (o4.mono G1.out.size)
    refine ⟨v',W',h1,⟨h2,h3⟩,fun i y hy=>h4 _ _ (fun e=>?_) hy⟩
    obtain ⟨_,xs,hx,_⟩:=XO.out
    have:=(hx.lt _ e).2
    dsimp only at this
    omega
   have KX:Hid (1<=V.length/\V.length<=100000):=VB
   clear hA e3 e4 k1 k2 hql X XO VB hnu
   go_wp2_with fail
   refine wp_region_held_drew (S:=fun W=>W.cell? ⟨wr.heap.size,0,none⟩=some (.int .i64 x)/\W.cell? ⟨wr.heap.size,1,none⟩=some (.slice pu nu cu)) (by kernel_rfl) (FS0) (fun hHeld=>?_)
   refine tkn 0 ?_ rfl ?_ ?_;rotate_left;·(rintro w ⟨s0,s1⟩;go_simp;try rfl)
   try simp only [Act.put,List.getElem_toArray,List.getElem_cons_zero,List.setIfInBounds_toArray,List.set_cons_zero,List.set_cons_succ]
   refine tkn 1 ?_ rfl ?_ ?_;rotate_left;·(rintro w ⟨s0,s1⟩;go_simp;try rfl)
   try simp only [Act.put,List.getElem_toArray,List.getElem_cons_zero,List.getElem_cons_succ,List.setIfInBounds_toArray,List.set_cons_zero,List.set_cons_succ]
   refine tkn 2 ?_ rfl ?_ ?_;rotate_left;·(rintro w ⟨s0,s1⟩;go_simp;try rfl)
   try simp only [Act.put,List.getElem_toArray,List.getElem_cons_zero,List.getElem_cons_succ,List.setIfInBounds_toArray,List.set_cons_zero,List.set_cons_succ]
   refine tkn 3 ?_ rfl ?_ ?_;rotate_left;·(rintro w ⟨s0,s1⟩;go_simp;try rfl)
   try simp only [Act.put,List.getElem_toArray,List.getElem_cons_zero,List.getElem_cons_succ,List.setIfInBounds_toArray,List.set_cons_zero,List.set_cons_succ]
   refine tkn 4 ?_ rfl ?_ ?_;rotate_left;·(rintro w ⟨s0,s1⟩;go_simp;try rfl)
   try simp only [Act.put,List.getElem_toArray,List.getElem_cons_zero,List.getElem_cons_succ,List.setIfInBounds_toArray,List.set_cons_zero,List.set_cons_succ]
   refine rdn 5 rfl (fun K hK=>?_)
   go_simp
   go_fit cC
   rintro e w4 ⟨v4,rfl,o4,g4⟩
   obtain ⟨a4,c4,e4,_⟩:=o4.rd
   subst e4
   refine hK.out _ _ (⟨gb_keeps g4 hHeld.1,gb_keeps g4 hHeld.2⟩) (fun hHeld=>?_)
   clear hK K
   try simp only [Act.put,List.getElem_toArray,List.getElem_cons_zero,List.getElem_cons_succ,List.setIfInBounds_toArray,List.set_cons_zero,List.set_cons_succ]
   refine tkn 6 ?_ rfl ?_ ?_;rotate_left;·(rintro w ⟨s0,s1⟩;go_simp;try rfl)
   try simp only [Act.put,List.getElem_toArray,List.getElem_cons_zero,List.getElem_cons_succ,List.setIfInBounds_toArray,List.set_cons_zero,List.set_cons_succ]
   have F4:=FIN.out w4 _ g4 o4
   obtain ⟨v5,w5,hrun,XN,S5⟩:=F4
   generalize V.length=nV at *
   clear o4 FIN
   refine rdn 7 rfl (fun K hK=>?_)
   go_simp
   refine hK.out _ _ (⟨gb_keeps (gb_alloc (Below.refl _ _) _) hHeld.1,gb_keeps (gb_alloc (Below.refl _ _) _) hHeld.2⟩) (fun hHeld=>?_)
   clear hK K
   try simp only [Act.put,List.getElem_toArray,List.getElem_cons_zero,List.getElem_cons_succ,List.setIfInBounds_toArray,List.set_cons_zero,List.set_cons_succ]
   refine rdn 8 rfl (fun K hK=>?_)
   refine app_run (by rfl) _ _ _ (by rfl) ⟨.slice pv q cv,.slice (some ⟨w4.heap.size,0,none⟩) 1 1,_,_,(by go_simp),(by go_simp),hrun,?_⟩
   refine hK.out _ _ ⟨S5 _ _ hHeld.1,S5 _ _ hHeld.2⟩ (fun hHeld=>?_)
   clear hK K
   try simp only [Act.put,List.getElem_toArray,List.getElem_cons_zero,List.getElem_cons_succ,List.setIfInBounds_toArray,List.set_cons_zero,List.set_cons_succ]
   refine tkn 9 ?_ rfl ?_ ?_;rotate_left;·(rintro w ⟨s0,s1⟩;go_simp;try rfl)
   try simp only [Act.put,List.getElem_toArray,List.getElem_cons_zero,List.getElem_cons_succ,List.setIfInBounds_toArray,List.set_cons_zero,List.set_cons_succ]
   refine wpAnyH_done (by kernel_rfl) ?_ _
   clear hrun hHeld S5
   go_wp2
   go_roundw
   case rel=>exact ⟨q + 1,by first | rfl | go_num,hqn,XN⟩
   case measure=>simp [intOf];omega
  ·have hqi:¬ (q:Int) < (n:Int):=by omega
   have e:q=n:=by omega
   subst e
   have XE:Hid (OwnC wr w.heap.size u3 rs/\Gb w wr):=by
    have:=X.out
    rwa [List.take_of_length_le (by have:=N.out;omega)] at this
   clear X
   go_wp2
   go_ret
   exact ⟨_,rfl,XE.out⟩
end Go.Proofs.YtgbgejflmbhigaaGreat

namespace Go.Proofs.YtgbgejflmbhigaaGreat
open Go.RowKit Go.Sort
theorem own_kpI {S:Nat->Prop} {w w':World} {B:Nat} {v:Value} {l:List Int} (h:Own w B v l) (k:Tk.Kp S w w') (hn:∀ g,v.ownBlock=some g->¬ S g):Own w' B v l:=by
 refine ⟨h.1,?_⟩
 rcases h.2 with h1 | ⟨g,cap,cur,e,hB,hh,r⟩
 ·exact .inl h1
 ·subst e
  exact .inr ⟨g,cap,cur,rfl,hB,by rw [k.block g (Array.getElem?_eq_some_iff.1 hh).1 (hn g rfl)];exact hh,r⟩
theorem ownR_kp {S:Nat->Prop} {w w':World} {B n:Nat} {v:Value} {xs:List Value} (h:w.ownsRow B 39 2 v n xs) (k:Tk.Kp S w w') (hn:∀ g,v.ownBlock=some g->¬ S g):w'.ownsRow B 39 2 v n xs:=by
 refine ⟨h.1,?_⟩
 rcases h.2 with h1 | ⟨g,cap,cur,e,hB,hh,r⟩
 ·exact .inl h1
 ·subst e
  exact .inr ⟨g,cap,cur,rfl,hB,by rw [k.block g (Array.getElem?_eq_some_iff.1 hh).1 (hn g rfl)];exact hh,r⟩
def NoInt (w:World) (S:Nat->Prop):Prop:=∀ k,S k->∀ cur s,w.heap[k]? ≠ some (.cells cur 3 s)
theorem own_noint {S:Nat->Prop} {w w':World} {B:Nat} {v:Value} {l:List Int} (h:Own w B v l) (k:Tk.Kp S w w') (hS:NoInt w S):Own w' B v l:=by
 refine own_kpI h k (fun g hg hs=>?_)
 rcases h.2 with ⟨rfl,_⟩ | ⟨g',cap,cur,e,hB,hh,_⟩
 ·cases hg
 ·subst e
  cases hg
  exact hS _ hs _ _ hh
abbrev IqT:Nat->Prop:=fun _=>True
def Up (Iq:Nat->Prop) (w:World):Prop:=∀ k,w.heap.size<=k->Iq k
theorem upT (w:World):Up IqT w:=fun _ _=>trivial
theorem Up.le {Iq:Nat->Prop} {w w':World} (h:Up Iq w) (s:w.heap.size<=w'.heap.size):Up Iq w':=fun k hk=>h k (Nat.le_trans s hk)
theorem Up.gb {Iq:Nat->Prop} {w w':World} (h:Up Iq w) (g:Gb w w'):Up Iq w':=h.le g.size
structure OwnQ (Iq:Nat->Prop) (w:World) (v:Value) (l:List Int):Prop where
 own:Own w 0 v l
 inn:∀ g,v.ownBlock=some g->Iq g
theorem OwnQ.rd {Iq:Nat->Prop} {w:World} {v:Value} {l:List Int} (h:OwnQ Iq w v l):RdI w v l:=h.own.rd
theorem OwnQ.gb {Iq:Nat->Prop} {w w':World} {v:Value} {l:List Int} (h:OwnQ Iq w v l) (g:Gb w w'):OwnQ Iq w' v l:=⟨h.own.gb g,h.inn⟩
theorem OwnQ.new {Iq:Nat->Prop} {w w':World} {B:Nat} {v:Value} {l:List Int} (h:Own w' B v l) (up:Up Iq w) (hB:w.heap.size<=B):OwnQ Iq w' v l:=⟨h.mono (Nat.zero_le _),fun g e=>up g (Nat.le_trans hB (World.ownsRow.lt h g e).1)⟩
def NoI (Iq:Nat->Prop) (w:World) (S:Nat->Prop):Prop:=∀ k,S k->Iq k->∀ cur s,w.heap[k]? ≠ some (.cells cur 3 s)
theorem NoI.of {Iq:Nat->Prop} {w:World} {S:Nat->Prop} (h:NoInt w S):NoI Iq w S:=fun k hk _=>h k hk
theorem NoI.off {Iq:Nat->Prop} {w:World} {S:Nat->Prop} (h:∀ k,S k->¬ Iq k):NoI Iq w S:=fun k hk hi=>absurd hi (h k hk)
theorem ownq_noi {Iq S:Nat->Prop} {w w':World} {v:Value} {l:List Int} (h:OwnQ Iq w v l) (k:Tk.Kp S w w') (hS:NoI Iq w S):OwnQ Iq w' v l:=by
 refine ⟨own_kpI h.own k (fun g hg hs=>?_),h.inn⟩
 rcases h.own.2 with ⟨rfl,_⟩ | ⟨g',cap,cur,e,hB,hh,_⟩
 ·cases hg
 ·have hi:=h.inn g hg
  subst e
  cases hg
  exact hS _ hs hi _ _ hh
theorem ownq_noint {Iq S:Nat->Prop} {w w':World} {v:Value} {l:List Int} (h:OwnQ Iq w v l) (k:Tk.Kp S w w') (hS:NoInt w S):OwnQ Iq w' v l:=ownq_noi h k (NoI.of hS)
structure OwnRs (Iq:Nat->Prop) (w:World) (v:Value) (d:List Rt):Prop where
 row:w.ownsRow 0 39 2 v d.length (d.flatMap encR)
 vec:∀ x ∈ d,OwnQ Iq w x.2.1 x.2.2
 up:Up Iq w
theorem OwnRs.kq {Iq S:Nat->Prop} {w w':World} {v:Value} {d:List Rt} (h:OwnRs Iq w v d) (k:Tk.Kp S w w') (hS:NoI Iq w S) (hn:∀ g,v.ownBlock=some g->¬ S g):OwnRs Iq w' v d :=
 ⟨ownR_kp h.row k hn,fun x hx=>ownq_noi (h.vec x hx) k hS,h.up.le k.size⟩
theorem OwnRs.kp {Iq:Nat->Prop} {S:Nat->Prop} {w w':World} {v:Value} {d:List Rt} (h:OwnRs Iq w v d) (k:Tk.Kp S w w') (hS:NoInt w S) (hn:∀ g,v.ownBlock=some g->¬ S g):OwnRs Iq w' v d :=
 h.kq k (NoI.of hS) hn
def kidV:Option Nat->Value
 | none=>.pointer none
 | some b=>.pointer (some ⟨b,0,none⟩)
structure PcAt (Iq:Nat->Prop) (w:World) (b:Nat) (p:Pt) (vl vh vr:Value):Prop where
 blk:w.heap[b]? = some (.cells #[.int .i64 2,vl,vh,.int .u64 0,.int .u64 0,.slice none 0 0,vr,.int .i64 p.cut.1,.int .i64 p.cut.2.1,.int .i64 p.cut.2.2,kidV (p.kids.map Prod.fst),kidV (p.kids.map Prod.snd)] 108 (0,0))
 low:OwnQ Iq w vl p.L
 high:OwnQ Iq w vh p.H
 up:Up Iq w
theorem PcAt.kq {Iq S:Nat->Prop} {w w':World} {b:Nat} {p:Pt} {vl vh vr:Value} (h:PcAt Iq w b p vl vh vr) (k:Tk.Kp S w w') (hS:NoI Iq w S) (hn:¬ S b):PcAt Iq w' b p vl vh vr :=
 ⟨by rw [k.block b (Array.getElem?_eq_some_iff.1 h.blk).1 hn];exact h.blk,ownq_noi h.low k hS,ownq_noi h.high k hS,h.up.le k.size⟩
theorem PcAt.kp {Iq:Nat->Prop} {S:Nat->Prop} {w w':World} {b:Nat} {p:Pt} {vl vh vr:Value} (h:PcAt Iq w b p vl vh vr) (k:Tk.Kp S w w') (hS:NoInt w S) (hn:¬ S b):PcAt Iq w' b p vl vh vr :=
 h.kq k (NoI.of hS) hn
def TrO (Iq:Nat->Prop) (w:World) (T:Nat->Pt):Nat->Nat->List Nat->Prop
 | 0,_,_=>False
 | n + 1,b,F=>∃ vl vh vr,PcAt Iq w b (T b) vl vh vr/\match (T b).kids with
  | none=>∃ d g,OwnRs Iq w vr d/\d.map rwR=(T b).rs/\vr.ownBlock=some g/\F=[b,g]
  | some (l,h)=>vr=.slice none 0 0/\∃ F1 F2,TrO Iq w T n l F1/\TrO Iq w T n h F2/\F=b :: (F1 ++ F2)
theorem TrO.kq {Iq:Nat->Prop} {S:Nat->Prop} {w w':World} {T:Nat->Pt} (k:Tk.Kp S w w') (hS:NoI Iq w S):∀ n b F,TrO Iq w T n b F->(∀ x ∈ F,¬ S x)->TrO Iq w' T n b F
 | 0,_,_,h,_=>h
 | n + 1,b,F,h,hF=>by
  obtain ⟨vl,vh,vr,hp,h⟩:=h
  refine ⟨vl,vh,vr,?_⟩
  cases hk:(T b).kids with
  | none =>
   rw [hk] at h
   obtain ⟨d,g,h1,h2,h3,rfl⟩:=h
   exact ⟨hp.kq k hS (hF b (by simp)),d,g,h1.kq k hS (fun g' e=>by rw [h3] at e;cases e;exact hF g (by simp)),h2,h3,rfl⟩
  | some lh =>
   obtain ⟨l,hh⟩:=lh
   rw [hk] at h
   obtain ⟨h0,F1,F2,h1,h2,rfl⟩:=h
   exact ⟨hp.kq k hS (hF b (by simp)),h0,F1,F2,TrO.kq k hS n l F1 h1 (fun x hx=>hF x (by simp [hx])),TrO.kq k hS n hh F2 h2 (fun x hx=>hF x (by simp [hx])),rfl⟩
theorem TrO.kp {Iq:Nat->Prop} {S:Nat->Prop} {w w':World} {T:Nat->Pt} (k:Tk.Kp S w w') (hS:NoInt w S):∀ n b F,TrO Iq w T n b F->(∀ x ∈ F,¬ S x)->TrO Iq w' T n b F :=
 TrO.kq k (NoI.of hS)
theorem TrO.up {Iq:Nat->Prop} {w:World} {T:Nat->Pt}:∀ {n b:Nat} {F:List Nat},TrO Iq w T n b F->Up Iq w
 | 0,_,_,h=>h.elim
 | _ + 1,_,_,h=>by
  obtain ⟨_,_,_,hp,_⟩:=h
  exact hp.up
theorem TrO.mem {Iq:Nat->Prop} {w:World} {T:Nat->Pt}:∀ {n b:Nat} {F:List Nat},TrO Iq w T n b F->b ∈ F/\∀ x ∈ F,x < w.heap.size
 | 0,_,_,h=>h.elim
 | n + 1,b,F,h=>by
  obtain ⟨vl,vh,vr,hp,h⟩:=h
  have hb:=(Array.getElem?_eq_some_iff.1 hp.blk).1
  cases hk:(T b).kids with
  | none =>
   rw [hk] at h
   obtain ⟨d,g,h1,h2,h3,rfl⟩:=h
   have:=(h1.row.lt g h3).2
   exact ⟨by simp,fun x hx=>by simp at hx;rcases hx with rfl | rfl <;> omega⟩
  | some lh =>
   obtain ⟨l,hh⟩:=lh
   rw [hk] at h
   obtain ⟨_,F1,F2,h1,h2,rfl⟩:=h
   have a1:=TrO.mem h1
   have a2:=TrO.mem h2
   refine ⟨by simp,fun x hx=>?_⟩
   simp at hx
   rcases hx with rfl | hx | hx
   ·exact hb
   ·exact a1.2 x hx
   ·exact a2.2 x hx
theorem TrO.congr {Iq:Nat->Prop} {w:World} {T T':Nat->Pt}:∀ n b F,TrO Iq w T n b F->(∀ x ∈ F,T' x=T x)->TrO Iq w T' n b F/\∀ m,n<=m + 1->∀ d,rowsP T' m (T' b)=rowsP T m (T b)/\(OkP T' d m (T' b) ↔ OkP T d m (T b))
 | 0,_,_,h,_=>h.elim
 | n + 1,b,F,h,hF=>by
  obtain ⟨vl,vh,vr,hp,h⟩:=h
  have eb:T' b=T b:=hF b (by
   cases hk:(T b).kids with
   | none=>rw [hk] at h;obtain ⟨d,g,_,_,_,rfl⟩:=h;simp
   | some lh=>obtain ⟨l,hh⟩:=lh;rw [hk] at h;obtain ⟨_,F1,F2,_,_,rfl⟩:=h;simp)
  cases hk:(T b).kids with
  | none =>
   rw [hk] at h
   refine ⟨⟨vl,vh,vr,by rw [eb];exact hp,by rw [eb,hk];exact h⟩,fun m _ d=>?_⟩
   rw [eb]
   exact ⟨by rw [rowsP_leaf hk,rowsP_leaf hk],by rw [okP_leaf hk,okP_leaf hk]⟩
  | some lh =>
   obtain ⟨l,hh⟩:=lh
   rw [hk] at h
   obtain ⟨h0,F1,F2,h1,h2,rfl⟩:=h
   obtain ⟨a1,a2⟩:=TrO.congr n l F1 h1 (fun x hx=>hF x (by simp [hx]))
   obtain ⟨b1,b2⟩:=TrO.congr n hh F2 h2 (fun x hx=>hF x (by simp [hx]))
   refine ⟨⟨vl,vh,vr,by rw [eb];exact hp,by rw [eb,hk];exact ⟨h0,F1,F2,a1,b1,rfl⟩⟩,fun m hm d=>?_⟩
   rw [eb]
   cases m with
   | zero =>
    have:n=0:=by omega
    subst this
    exact h1.elim
   | succ m =>
    obtain ⟨c1,c2⟩:=a2 m (by omega) d
    obtain ⟨d1,d2⟩:=b2 m (by omega) d
    refine ⟨by rw [rowsP_node hk,rowsP_node hk,c1,d1],?_⟩
    rw [OkP,OkP,hk]
    dsimp only
    rw [c1,d1,c2,d2]
theorem boxE_row {rs:List Rw} {m:Nat} (h:boxE rs (m:Int)=0) {p:Pt} (hL:p.L=boxL rs m) (hH:p.H=boxH rs m):BoxOk m p rs:=by
 obtain ⟨h1,h2,h3,h4,h5,h6⟩:=rows_of h
 have hr:boxR rs (m:Int)=⟨2,boxL rs m,boxH rs m,0,srt (idsOf rs)⟩:=by unfold boxR;rw [if_pos h,Int.toNat_natCast]
 have key:∀ j,j < rs.length->ckR (pr p) (m:Int)=0/\chk rs[j]!.2 (m:Int)=0/\inV (pr p) rs[j]!.2=true:=by
  intro j hj
  obtain ⟨k1,k2⟩:=box_in h hj
  obtain ⟨k3,k4⟩:=ckB_ok k1
  unfold insV at k2
  rw [hr] at k2 k3
  rw [(h6 j hj).1] at k3 k4
  obtain ⟨q1,_⟩:=ckR_ok k3
  refine ⟨?_,k4,?_⟩
  ·unfold ckR
   rw [if_pos (by omega),if_pos ⟨by simp [uses],by rfl⟩,if_pos rfl]
   have:=q1 rfl
   first | (show cornE p.L p.H (m:Int)=0;rw [hL,hH];exact this) | (show decide (bx p.L p.H rs[j]!.2=0)=true;rw [hL,hH];exact this)
  ·have:=(Bool.and_eq_true _ _ ▸ k2).2
   unfold inV at this ⊢
   rw [if_pos rfl] at this ⊢
   first | (show cornE p.L p.H (m:Int)=0;rw [hL,hH];exact this) | (show decide (bx p.L p.H rs[j]!.2=0)=true;rw [hL,hH];exact this)
 refine ⟨(key 0 (by omega)).1,fun r hrm=>?_⟩
 obtain ⟨j,hj,e⟩:=List.getElem_of_mem hrm
 have:=key j hj
 rw [getElem!_pos rs j hj,e] at this
 exact this.2
theorem BoxOk.sub {m:Nat} {p:Pt} {rs rs':List Rw} (h:BoxOk m p rs) (hs:∀ r ∈ rs',r ∈ rs):BoxOk m p rs':=⟨h.1,fun r hr=>h.2 r (hs r hr)⟩
end Go.Proofs.YtgbgejflmbhigaaGreat

namespace Go.Proofs.YtgbgejflmbhigaaGreat
open Go.RowKit Go.Sort
set_option maxRecDepth 100000
set_option maxHeartbeats 1000000
def CutOut (Iq:Nat->Prop) (w:World) (g o m:Nat) (d:List Rt) (e:Ending) (w':World):Prop :=
 (d=[]->e=.returned (.pointer none)/\Gb w w') /\
 (d ≠ []->∃ b T F,e=.returned (.pointer (some ⟨b,0,none⟩))/\(∀ N,d.length<=N->TrO Iq w' T (N + 1) b F/\OkP T m N (T b)/\(rowsP T N (T b)).Perm (d.map rwR))/\F.Nodup/\(∀ x ∈ F,w.heap.size<=x)/\Srt w w' g o d.length)
structure CutIn (Iq:Nat->Prop) (w:World) (m:Nat) (d:List Rt):Prop where
 vec:∀ x ∈ d,OwnQ Iq w x.2.1 x.2.2
 ok:RowsOk (d.map rwR) (m:Int)
 up:Up Iq w
theorem okId_wf {x:Int} (h:okId x=true):(Lit.int .i64 x).wf=true:=by
 simp [okId] at h
 simp [Lit.wf,IntKind.min,IntKind.max,IntKind.signed,IntKind.bits]
 exact ⟨by omega,by omega⟩
theorem CutIn.boxE {Iq:Nat->Prop} {w:World} {m:Nat} {d:List Rt} (h:CutIn Iq w m d) (hm:1<=m/\m<=64) (hd:d ≠ []):boxE (d.map rwR) (m:Int)=0:=by
 unfold YtgbgejflmbhigaaGreat.boxE
 rw [if_pos (by omega),if_neg (by simpa using hd)]
 exact idsE_zero.2 h.ok
theorem CutIn.len {Iq:Nat->Prop} {w:World} {m:Nat} {d:List Rt} (h:CutIn Iq w m d) {x:Rt} (hx:x ∈ d):x.2.2.length=m:=by
 have:=chk_ok (h.ok.row (rwR x) (List.mem_map.2 ⟨x,hx,rfl⟩)).2
 simp only [] at this
 omega
theorem RwRd.rdw {w:World} {g o cap:Nat} {d:List Rt} (h:RwRd w g o d) (hv:∀ x ∈ d,RdI w x.2.1 x.2.2):RdW w (.slice (some ⟨g,o,none⟩) d.length cap) (d.map rwR):=by
 refine ⟨some ⟨g,o,none⟩,cap,by simp,fun i hi=>?_⟩
 have hi':i < d.length:=by simpa using hi
 obtain ⟨h1,h2⟩:=h i hi'
 have e:(d.map rwR)[i]! = rwR d[i]:=by rw [getElem!_pos _ i hi];simp
 rw [e]
 exact ⟨g,o,d[i].2.1,rfl,h1,h2,hv _ (List.getElem_mem hi')⟩
theorem srt_gb {w w':World} {g o n:Nat} (h:Gb w w') (hg:g < w.heap.size):Srt w w' g o n :=
 ⟨Tk.Kp.of_gr h,fun cur hc=>⟨cur,by rw [h.block g hg];exact hc,rfl,fun _ _=>rfl⟩⟩
theorem RwAt.lt {w:World} {g o:Nat} {d:List Rt} (h:RwAt w g o d):g < w.heap.size:=by
 obtain ⟨cur,h,_⟩:=h
 exact (Array.getElem?_eq_some_iff.1 h).1
theorem RwRd.gb {w w':World} {g o:Nat} {d:List Rt} (h:RwRd w g o d) (k:Gb w w'):RwRd w' g o d:=fun i hi=>⟨gb_keeps k (h i hi).1,gb_keeps k (h i hi).2⟩
theorem heap_new (w:World) (o:Obj):(w.alloc o).heap[w.heap.size]? = some o:=by
 show (w.heap.push o)[w.heap.size]? = some o
 exact Array.getElem?_push_size
theorem leaf_out {Iq:Nat->Prop} {w w3:World} {g o m n:Nat} {d:List Rt} {L H:List Int} {vl vh:Value} {g3 c3:Nat} (hg:g < w.heap.size) (hI:CutIn Iq w m d) (hd:d ≠ []) (hb:boxE (d.map rwR) (m:Int)=0) (hL:boxL (d.map rwR) m=L) (hH:boxH (d.map rwR) m=H) (_hn:n=d.length)
  (k:Gb w w3) (o1:OwnQ Iq w3 vl L) (o2:OwnQ Iq w3 vh H) (o3:w3.ownsRow 0 39 2 (.slice (some ⟨g3,0,none⟩) n c3) d.length (d.flatMap encR)) (hg3:w.heap.size<=g3) (hg4:g3 < w3.heap.size) :
  CutOut Iq w g o m d (.returned (.pointer (some ⟨w3.heap.size,0,none⟩))) (w3.alloc (.cells #[.int .i64 2,vl,vh,.int .u64 0,.int .u64 0,.slice none 0 0,.slice (some ⟨g3,0,none⟩) n c3,.int .i64 0,.int .i64 0,.int .i64 0,.pointer none,.pointer none] 108)):=by
 have k4:∀ ob,Gb w3 (w3.alloc ob):=fun ob=>gb_alloc (Below.refl _ _) ob
 refine ⟨fun e=>absurd e hd,fun _=>⟨w3.heap.size,fun _=>⟨L,H,d.map rwR,(0,0,0),none⟩,[w3.heap.size,g3],rfl,fun N _=>⟨?_,?_,?_⟩,?_,?_,srt_gb (gb_alloc k _) hg⟩⟩
 ·refine ⟨vl,vh,.slice (some ⟨g3,0,none⟩) n c3,⟨?_,o1.gb (k4 _),o2.gb (k4 _),(hI.up.gb k).gb (k4 _)⟩,d,g3,⟨?_,fun x hx=>((hI.vec x hx).gb k).gb (k4 _),(hI.up.gb k).gb (k4 _)⟩,rfl,rfl,rfl⟩
  ·rw [heap_new];rfl
  ·exact World.ownsRow.alloc o3 _
 ·rw [okP_leaf rfl]
  exact ⟨by simpa using hd,boxE_row hb hL.symm hH.symm⟩
 ·rw [rowsP_leaf rfl]
 ·simp;omega
 ·intro x hx
  simp at hx
  have:=k.size
  rcases hx with rfl | rfl <;> omega
theorem cut_leaf {Iq:Nat->Prop} {m leaf lb fb:Nat} (hm:1<=m/\m<=64) (d:List Rt) (hd:d ≠ []) (hle:d.length<=leaf) (_hlf:leaf<=100000) {w:World} {g o cap:Nat} (hR:RwAt w g o d) (hI:CutIn Iq w m d)
  (c1:w.cell? ⟨lb,0,none⟩=some (.int .i64 (leaf:Int))) :
  Calls Tryz.prog 56 #[.slice (some ⟨g,o,none⟩) d.length cap,.pointer (some ⟨lb,0,none⟩),.pointer (some ⟨fb,0,none⟩)] w fun e w'=>CutOut Iq w g o m d e w':=by
 have h512:=hI.ok.few
 rw [List.length_map] at h512
 have hp:0 < d.length:=List.length_pos_iff.2 hd
 have BX:=hI.boxE hm hd
 have cB:=boxOf_c (RwRd.rdw (cap:=cap) hR.rd (fun x hx=>(hI.vec x hx).rd)) BX (by rw [getElem!_pos _ 0 (by simpa using hp)];simp only [List.getElem_map,rwR];exact hI.len (List.getElem_mem hp)) (fun i hi=>by
  rw [getElem!_pos _ i hi]
  exact okId_wf (hI.ok.row _ (List.getElem_mem hi)).1)
 have cl0:=fun W (g':Gb w W)=>cloneR_c (cap:=cap) (hR.rd.gb g') (by omega) (fun x hx=>by obtain ⟨a,c,e,_⟩:=(hI.vec x hx).rd;rw [e];rfl)
 have HH:Hid (RwAt w g o d/\CutIn Iq w m d/\boxE (d.map rwR) (m:Int)=0/\d ≠ []):=⟨hR,hI,BX,hd⟩
 obtain ⟨n,hN⟩:∃ n,n=d.length:=⟨_,rfl⟩
 have N:Hid (n=d.length):=hN
 generalize hbl:boxL (d.map rwR) m=L at *
 generalize hbh:boxH (d.map rwR) m=H at *
 have BB:Hid (boxL (d.map rwR) m=L/\boxH (d.map rwR) m=H):=⟨hbl,hbh⟩
 simp only [<- hN] at cB cl0 hle h512 hp
 rw [<- hN]
 have hn0:((n:Int) == 0)=false:=by rw [beq_eq_false_iff_ne];omega
 have hlei:(n:Int)<=(leaf:Int):=by omega
 clear hR hI BX hd hN hbl hbh hle
 go_enter Tryz.func56,Tryz.ntmps56
 go_wp2_with fail
 go_fit cB
 rintro e w1 ⟨vl,vh,rfl,g1,o1,o2⟩
 obtain ⟨al,cl,el,_⟩:=o1.rd
 obtain ⟨ah,ch,eh,_⟩:=o2.rd
 subst el eh
 have X1:Hid (Gb w w1/\Own w1 w.heap.size (.slice al L.length cl) L/\Own w1 w.heap.size (.slice ah H.length ch) H):=⟨g1,o1,o2⟩
 generalize L.length=nl at *
 generalize H.length=nh at *
 have c1':=gb_keeps (gb_alloc g1 (.cells #[.int .i64 2,.slice al nl cl,.slice ah nh ch,.int .u64 0,.int .u64 0,.slice none 0 0] 97)) c1
 have FS0:(fun W:World=>W.cell? ⟨w1.heap.size,0,none⟩=some (.int .i64 2)/\W.cell? ⟨w1.heap.size,1,none⟩=some (.slice al nl cl)/\W.cell? ⟨w1.heap.size,2,none⟩=some (.slice ah nh ch)/\W.cell? ⟨w1.heap.size,3,none⟩=some (.int .u64 0)/\W.cell? ⟨w1.heap.size,4,none⟩=some (.int .u64 0)/\W.cell? ⟨w1.heap.size,5,none⟩=some (.slice none 0 0)) (w1.alloc (.cells #[.int .i64 2,.slice al nl cl,.slice ah nh ch,.int .u64 0,.int .u64 0,.slice none 0 0] 97)).drew:=by
  refine ⟨?_,?_,?_,?_,?_,?_⟩ <;> simp [go_sem]
 have G2:Hid (Gb w (w1.alloc (.cells #[.int .i64 2,.slice al nl cl,.slice ah nh ch,.int .u64 0,.int .u64 0,.slice none 0 0] 97)).drew):=(gb_alloc g1 _).drew
 have cC:=cl0 _ G2.out
 clear cB cl0 g1 o1 o2 c1
 go_wp2_with fail
 refine wp_region_held_drew (S:=fun W=>W.cell? ⟨w1.heap.size,0,none⟩=some (.int .i64 2)/\W.cell? ⟨w1.heap.size,1,none⟩=some (.slice al nl cl)/\W.cell? ⟨w1.heap.size,2,none⟩=some (.slice ah nh ch)/\W.cell? ⟨w1.heap.size,3,none⟩=some (.int .u64 0)/\W.cell? ⟨w1.heap.size,4,none⟩=some (.int .u64 0)/\W.cell? ⟨w1.heap.size,5,none⟩=some (.slice none 0 0)) (by kernel_rfl) (FS0) (fun hHeld=>?_)
 refine tkn 0 ?_ rfl ?_ ?_;rotate_left;·(rintro w ⟨s0,s1,s2,s3,s4,s5⟩;go_simp;try rfl)
 try simp only [Act.put,List.getElem_toArray,List.getElem_cons_zero,List.setIfInBounds_toArray,List.set_cons_zero,List.set_cons_succ]
 refine tkn 1 ?_ rfl ?_ ?_;rotate_left;·(rintro w ⟨s0,s1,s2,s3,s4,s5⟩;go_simp;try rfl)
 try simp only [Act.put,List.getElem_toArray,List.getElem_cons_zero,List.getElem_cons_succ,List.setIfInBounds_toArray,List.set_cons_zero,List.set_cons_succ]
 refine rdn 2 rfl (fun K hK=>?_)
 go_simp
 go_fit cC
 rintro e w3 ⟨g3,c3,rfl,b3,l3,a3,k3,o3⟩
 refine hK.out _ _ (⟨gb_keeps k3 hHeld.1,gb_keeps k3 hHeld.2.1,gb_keeps k3 hHeld.2.2.1,gb_keeps k3 hHeld.2.2.2.1,gb_keeps k3 hHeld.2.2.2.2.1,gb_keeps k3 hHeld.2.2.2.2.2⟩) (fun hHeld=>?_)
 clear hK K
 try simp only [Act.put,List.getElem_toArray,List.getElem_cons_zero,List.getElem_cons_succ,List.setIfInBounds_toArray,List.set_cons_zero,List.set_cons_succ]
 refine tkn 3 ?_ rfl ?_ ?_;rotate_left;·(rintro w ⟨s0,s1,s2,s3,s4,s5⟩;go_simp;try rfl)
 try simp only [Act.put,List.getElem_toArray,List.getElem_cons_zero,List.getElem_cons_succ,List.setIfInBounds_toArray,List.set_cons_zero,List.set_cons_succ]
 refine rdn 4 rfl (fun K hK=>?_)
 go_simp
 refine hK.out _ _ (⟨gb_keeps (gb_alloc (Below.refl _ _) _) hHeld.1,gb_keeps (gb_alloc (Below.refl _ _) _) hHeld.2.1,gb_keeps (gb_alloc (Below.refl _ _) _) hHeld.2.2.1,gb_keeps (gb_alloc (Below.refl _ _) _) hHeld.2.2.2.1,gb_keeps (gb_alloc (Below.refl _ _) _) hHeld.2.2.2.2.1,gb_keeps (gb_alloc (Below.refl _ _) _) hHeld.2.2.2.2.2⟩) (fun hHeld=>?_)
 clear hK K
 try simp only [Act.put,List.getElem_toArray,List.getElem_cons_zero,List.getElem_cons_succ,List.setIfInBounds_toArray,List.set_cons_zero,List.set_cons_succ]
 refine tkn 5 ?_ rfl ?_ ?_;rotate_left;·(rintro w ⟨s0,s1,s2,s3,s4,s5⟩;go_simp;try rfl)
 try simp only [Act.put,List.getElem_toArray,List.getElem_cons_zero,List.getElem_cons_succ,List.setIfInBounds_toArray,List.set_cons_zero,List.set_cons_succ]
 refine wpAnyH_done (by kernel_rfl) ?_ _
 have Y3:Hid (Gb w w3/\Own w3 w.heap.size (.slice al nl cl) L/\Own w3 w.heap.size (.slice ah nh ch) H/\w3.ownsRow 0 39 2 (.slice (some ⟨g3,0,none⟩) n c3) n (d.flatMap encR)/\w.heap.size<=g3/\g3 < w3.heap.size):=by
  have k:=gb_trans (gb_alloc (Below.refl _ _) _).drew k3
  refine ⟨gb_trans X1.out.1 k,X1.out.2.1.gb k,X1.out.2.2.gb k,?_,Nat.le_trans G2.out.size b3,l3⟩
  refine ⟨o3.1,?_⟩
  rcases o3.2 with h | ⟨a,b,c,e,_,r⟩
  ·exact .inl h
  ·exact .inr ⟨a,b,c,e,Nat.zero_le _,r⟩
 clear k3 o3 b3 l3 a3 hHeld X1 G2
 go_wp2
 go_ret
 refine leaf_out HH.out.1.lt HH.out.2.1 HH.out.2.2.2 HH.out.2.2.1 BB.out.1 BB.out.2 N.out Y3.out.1 (OwnQ.new Y3.out.2.1 HH.out.2.1.up (Nat.le_refl _)) (OwnQ.new Y3.out.2.2.1 HH.out.2.1.up (Nat.le_refl _)) (by rw [<- N.out];exact Y3.out.2.2.2.1) Y3.out.2.2.2.2.1 Y3.out.2.2.2.2.2
end Go.Proofs.YtgbgejflmbhigaaGreat

namespace Go.Proofs.YtgbgejflmbhigaaGreat
open Go.RowKit Go.Sort
theorem Srt.trans {w W W':World} {g o n o' n':Nat} (h:Srt w W g o n) (k:Srt W W' g o' n') (h1:o<=o') (h2:o' + n' * 2<=o + n * 2):Srt w W' g o n:=by
 refine ⟨h.kp.trans k.kp,fun cur hc=>?_⟩
 obtain ⟨c1,e1,s1,f1⟩:=h.blk cur hc
 obtain ⟨c2,e2,s2,f2⟩:=k.blk c1 e1
 exact ⟨c2,e2,by omega,fun i hi=>(f2 i (by omega)).trans (f1 i hi)⟩
theorem RwAt.take {w:World} {g o n:Nat} {d:List Rt} (h:RwAt w g o d):RwAt w g o (d.take n):=by
 obtain ⟨cur,h1,h2,h3⟩:=h
 refine ⟨cur,h1,by rw [List.length_take];have:=Nat.min_le_right n d.length;omega,fun i hi=>?_⟩
 rw [List.length_take] at hi
 rw [List.getElem_take]
 exact h3 i (by omega)
theorem RwAt.drop {w:World} {g o n:Nat} {d:List Rt} (h:RwAt w g o d) (hn:n<=d.length):RwAt w g (o + n * 2) (d.drop n):=by
 obtain ⟨cur,h1,h2,h3⟩:=h
 refine ⟨cur,h1,by rw [List.length_drop];omega,fun i hi=>?_⟩
 rw [List.length_drop] at hi
 rw [List.getElem_drop]
 have:=h3 (n + i) (by omega)
 rw [show o + (n + i) * 2=o + n * 2 + i * 2 by omega] at this
 exact this
theorem RwAt.beside {w W:World} {g o o' n:Nat} {d:List Rt} (h:RwAt w g o' d) (k:Srt w W g o n) (ho:o + n * 2<=o'):RwAt W g o' d:=by
 obtain ⟨cur,h1,h2,h3⟩:=h
 obtain ⟨c1,e1,s1,f1⟩:=k.blk cur h1
 refine ⟨c1,e1,by omega,fun i hi=>?_⟩
 rw [f1 _ (by omega),f1 _ (by omega)]
 exact h3 i hi
theorem RwAt.gb {w W:World} {g o:Nat} {d:List Rt} (h:RwAt w g o d) (k:Gb w W):RwAt W g o d:=by
 have hlt:=h.lt
 obtain ⟨cur,h1,h2⟩:=h
 exact ⟨cur,by rw [k.block g hlt];exact h1,h2⟩
theorem RwAt.noint {w:World} {g o:Nat} {d:List Rt} (h:RwAt w g o d):NoInt w (fun b=>b=g):=by
 intro k e cur s hc
 subst e
 obtain ⟨c,h1,_⟩:=h
 rw [h1] at hc
 simp at hc
theorem CutIn.kp {Iq:Nat->Prop} {w W:World} {g o m:Nat} {d d2:List Rt} (h:CutIn Iq w m d) (k:Tk.Kp (fun b=>b=g) w W) (hr:RwAt w g o d2):CutIn Iq W m d:=⟨fun x hx=>ownq_noint (h.vec x hx) k hr.noint,h.ok,h.up.le k.size⟩
theorem CutIn.perm {Iq:Nat->Prop} {w:World} {m:Nat} {d d':List Rt} (h:CutIn Iq w m d) (p:d'.Perm d):CutIn Iq w m d':=⟨fun x hx=>h.vec x (p.mem_iff.1 hx),h.ok.perm (p.symm.map _),h.up⟩
theorem CutIn.sub {Iq:Nat->Prop} {w:World} {m:Nat} {d d':List Rt} (h:CutIn Iq w m d) (p:d'.Sublist d):CutIn Iq w m d':=⟨fun x hx=>h.vec x (p.subset hx),h.ok.sub (p.map _),h.up⟩
theorem CutIn.rtOk {Iq:Nat->Prop} {w:World} {g o m:Nat} {d d2:List Rt} (h:CutIn Iq w m d) (hr:RwAt w g o d2):∀ x ∈ d,RtOk w g m x:=by
 intro x hx
 refine ⟨(h.vec x hx).rd,h.len hx,fun b o' n c e hb=>?_⟩
 subst hb
 rcases (h.vec x hx).own.2 with ⟨e2,_⟩ | ⟨g',cap',cur,e2,_,hh,_⟩
 ·rw [e2] at e;cases e
 ·rw [e2] at e
  cases e
  exact hr.noint _ rfl _ _ hh
theorem alg_tot {x a y b:Int} (h:¬ alg y b x a < 0) (hne:x ≠ y):alg x a y b < 0:=by
 have h1:=alg_neg y b x a
 have h2:=alg_neg x a y b
 rw [decide_eq_false h] at h1
 have h3:=(Bool.or_eq_false_iff.1 h1.symm)
 apply of_decide_eq_true
 rw [h2]
 have h4:=of_decide_eq_false h3.1
 have h5:=Bool.and_eq_false_iff.1 h3.2
 simp only [decide_eq_false_iff_not] at h5
 simp only [Bool.or_eq_true,Bool.and_eq_true,decide_eq_true_eq]
 omega
theorem isAb_alg (ax:Nat) (y:Rt) (x:Rt):isAb ((ax:Int),y.2.2[ax]!,y.1) (rwR x)=decide (alg x.1 x.2.2[ax]! y.1 y.2.2[ax]! < 0):=by
 rw [alg_neg];rfl
theorem sides {d:List Rt} {ax mid:Nat} (hs:d.Pairwise fun x y=>¬ alg y.1 y.2.2[ax]! x.1 x.2.2[ax]! < 0) (hid:(d.map (·.1)).Pairwise (· ≠ ·)) (hm:mid < d.length) :
  (∀ r ∈ (d.take mid).map rwR,isAb ((ax:Int),d[mid].2.2[ax]!,d[mid].1) r=true)/\∀ r ∈ (d.drop mid).map rwR,isAb ((ax:Int),d[mid].2.2[ax]!,d[mid].1) r=false:=by
 rw [List.pairwise_iff_getElem] at hs hid
 constructor
 ·intro r hr
  obtain ⟨x,hx,rfl⟩:=List.mem_map.1 hr
  obtain ⟨i,hi,rfl⟩:=List.getElem_of_mem hx
  rw [List.length_take] at hi
  rw [List.getElem_take,isAb_alg]
  have h1:=hs i mid (by omega) hm (by omega)
  have h2:=hid i mid (by simp;omega) (by simpa using hm) (by omega)
  simp only [List.getElem_map] at h2
  exact decide_eq_true (alg_tot h1 h2)
 ·intro r hr
  obtain ⟨x,hx,rfl⟩:=List.mem_map.1 hr
  obtain ⟨i,hi,rfl⟩:=List.getElem_of_mem hx
  rw [List.length_drop] at hi
  rw [List.getElem_drop,isAb_alg]
  by_cases e:i=0
  ·subst e
   simp only [Nat.add_zero]
   rw [alg_neg];simp
  ·exact decide_eq_false (hs mid (mid + i) hm (by omega) (by omega))
theorem node_out {Iq:Nat->Prop} {w W5 W6:World} {g o m n ax mid b1 b2:Nat} {d d':List Rt} {L H:List Int} {vl vh:Value} {T1 T2:Nat->Pt} {F1 F2:List Nat} {x:Rt} (hd:d ≠ []) (hI:CutIn Iq w m d) (hb:boxE (d.map rwR) (m:Int)=0) (hL:boxL (d.map rwR) m=L) (hH:boxH (d.map rwR) m=H)
  (hp:d'.Perm d) (hs:d'.Pairwise fun x y=>¬ alg y.1 y.2.2[ax]! x.1 x.2.2[ax]! < 0) (hn:n=d.length) (hmid:1<=mid) (hmn:mid < d'.length) (hax:ax < m) (hx:x=d'[mid])
  (o1:OwnQ Iq W6 vl L) (o2:OwnQ Iq W6 vh H) (hS:Srt w W6 g o n) (s5:w.heap.size<=W5.heap.size) (s6:W5.heap.size<=W6.heap.size)
  (t1:∀ N,(d'.take mid).length<=N->TrO Iq W6 T1 (N + 1) b1 F1/\OkP T1 m N (T1 b1)/\(rowsP T1 N (T1 b1)).Perm ((d'.take mid).map rwR)) (n1:F1.Nodup) (l1:∀ x ∈ F1,w.heap.size<=x/\x < W5.heap.size)
  (t2:∀ N,(d'.drop mid).length<=N->TrO Iq W6 T2 (N + 1) b2 F2/\OkP T2 m N (T2 b2)/\(rowsP T2 N (T2 b2)).Perm ((d'.drop mid).map rwR)) (n2:F2.Nodup) (l2:∀ x ∈ F2,W5.heap.size<=x) :
  CutOut Iq w g o m d (.returned (.pointer (some ⟨W6.heap.size,0,none⟩))) (W6.alloc (.cells #[.int .i64 2,vl,vh,.int .u64 0,.int .u64 0,.slice none 0 0,.slice none 0 0,.int .i64 (ax:Int),.int .i64 x.2.2[ax]!,.int .i64 x.1,.pointer (some ⟨b1,0,none⟩),.pointer (some ⟨b2,0,none⟩)] 108)):=by
 have k4:∀ ob,Gb W6 (W6.alloc ob):=fun ob=>gb_alloc (Below.refl _ _) ob
 have hlen:d'.length=d.length:=hp.length_eq
 have m1:=(t1 d'.length (by rw [List.length_take];omega)).1.mem
 have m2:=(t2 d'.length (by rw [List.length_drop];omega)).1.mem
 refine ⟨fun e=>absurd e hd,fun _=>⟨W6.heap.size,fun k=>if k=W6.heap.size then ⟨L,H,[],((ax:Int),x.2.2[ax]!,x.1),some (b1,b2)⟩ else if k < W5.heap.size then T1 k else T2 k,W6.heap.size :: (F1 ++ F2),rfl,fun N hN=>?_,?_,?_,?_⟩⟩
 ·obtain ⟨N',rfl⟩:∃ N',N=N' + 1:=⟨N - 1,by omega⟩
  obtain ⟨a1,a2,a3⟩:=t1 N' (by rw [List.length_take];omega)
  obtain ⟨c1,c2,c3⟩:=t2 N' (by rw [List.length_drop];omega)
  generalize hT:(fun k=>if k=W6.heap.size then (⟨L,H,[],((ax:Int),x.2.2[ax]!,x.1),some (b1,b2)⟩:Pt) else if k < W5.heap.size then T1 k else T2 k)=T
  have e0:T W6.heap.size=⟨L,H,[],((ax:Int),x.2.2[ax]!,x.1),some (b1,b2)⟩:=by rw [<- hT];simp
  have e1:∀ x ∈ F1,T x=T1 x:=fun x hx=>by
   have h1:=l1 x hx
   have h2:=m1.2 x hx
   rw [<- hT]
   simp only
   rw [if_neg (by omega),if_pos (by omega)]
  have e2:∀ x ∈ F2,T x=T2 x:=fun x hx=>by
   have h1:=l2 x hx
   have h2:=m2.2 x hx
   rw [<- hT]
   simp only
   rw [if_neg (by omega),if_neg (by omega)]
  obtain ⟨p1,p2⟩:=TrO.congr _ _ _ a1 e1
  obtain ⟨q1,q2⟩:=TrO.congr _ _ _ c1 e2
  obtain ⟨r1,r2⟩:=p2 N' (by omega) m
  obtain ⟨u1,u2⟩:=q2 N' (by omega) m
  have hk:(T W6.heap.size).kids=some (b1,b2):=by rw [e0]
  have hpr:(rowsP T N' (T b1) ++ rowsP T N' (T b2)).Perm (d.map rwR):=by
   rw [r1,u1]
   refine (a3.append c3).trans ?_
   rw [<- List.map_append,List.take_append_drop]
   exact hp.map _
  have hkp:Tk.Kp (fun _=>False) W6 (W6.alloc (.cells #[.int .i64 2,vl,vh,.int .u64 0,.int .u64 0,.slice none 0 0,.slice none 0 0,.int .i64 (ax:Int),.int .i64 x.2.2[ax]!,.int .i64 x.1,.pointer (some ⟨b1,0,none⟩),.pointer (some ⟨b2,0,none⟩)] 108)):=Tk.Kp.of_gr (k4 _)
  have hno:NoInt W6 (fun _=>False):=fun _ h=>h.elim
  obtain ⟨hs1,hs2⟩:=sides hs (by
   have:=(hI.perm hp).ok.ids
   unfold idsOf at this
   rw [List.map_map] at this
   exact this) hmn
  rw [<- hx] at hs1 hs2
  refine ⟨⟨vl,vh,.slice none 0 0,⟨?_,by rw [e0];exact o1.gb (k4 _),by rw [e0];exact o2.gb (k4 _),(hI.up.le (Nat.le_trans s5 s6)).gb (k4 _)⟩,?_⟩,?_,?_⟩
  ·rw [heap_new,e0];rfl
  ·rw [hk]
   exact ⟨rfl,F1,F2,TrO.kp hkp hno _ _ _ p1 (fun _ _ h=>h),TrO.kp hkp hno _ _ _ q1 (fun _ _ h=>h),rfl⟩
  ·rw [OkP,hk]
   dsimp only
   refine ⟨r2.2 a2,u2.2 c2,?_,by rw [e0];dsimp only;omega,?_,?_⟩
   ·exact (boxE_row hb (by rw [e0];exact hL.symm) (by rw [e0];exact hH.symm)).sub (fun r hr=>hpr.mem_iff.1 hr)
   ·intro r hr
    rw [e0]
    rw [r1] at hr
    exact hs1 r (a3.mem_iff.1 hr)
   ·intro r hr
    rw [e0]
    rw [u1] at hr
    exact hs2 r (c3.mem_iff.1 hr)
  ·rw [rowsP_node hk];exact hpr
 ·rw [List.nodup_cons,List.nodup_append]
  refine ⟨fun h=>?_,n1,n2,fun a ha b hb e=>?_⟩
  ·rcases List.mem_append.1 h with h | h
   ·have:=m1.2 _ h;omega
   ·have:=m2.2 _ h;omega
  ·subst e
   have h1:=(l1 a ha).2
   have h2:=l2 a hb
   omega
 ·intro y hy
  simp only [List.mem_cons,List.mem_append] at hy
  rcases hy with rfl | hy | hy
  ·omega
  ·exact (l1 y hy).1
  ·have:=l2 y hy;omega
 ·rw [<- hn]
  refine ⟨hS.kp.trans (Tk.Kp.of_gr (k4 _)),fun cur hc=>?_⟩
  obtain ⟨c1,e1,s1,f1⟩:=hS.blk cur hc
  exact ⟨c1,by rw [(k4 _).block g (Array.getElem?_eq_some_iff.1 e1).1];exact e1,s1,f1⟩
end Go.Proofs.YtgbgejflmbhigaaGreat
