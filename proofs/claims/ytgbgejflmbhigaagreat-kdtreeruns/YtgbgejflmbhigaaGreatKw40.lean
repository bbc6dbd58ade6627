import Derived.Test.YtgbgejflmbhigaaGreatKwKqAr
import Derived.Test.YtgbgejflmbhigaaGreatKw28
namespace Go.Proofs.YtgbgejflmbhigaaGreat
open Go.RowKit Go.Sort
set_option maxRecDepth 100000
set_option maxHeartbeats 2000000
theorem wtP_le {T:Nat->Pt} {d:Nat}:∀ n p,OkP T d n p->wtP T n p + 1<=4 * (rowsP T n p).length
 | 0,p,ok=>by
  have hk:p.kids=none:=by rw [OkP] at ok;exact ok.1
  rw [wtP_leaf hk,rowsP_leaf hk]
  have:=List.length_pos_iff.2 ((okP_leaf hk 0).1 ok).1
  omega
 | n + 1,p,ok=>by
  cases hk:p.kids with
  | none =>
   rw [wtP_leaf hk,rowsP_leaf hk]
   have:=List.length_pos_iff.2 ((okP_leaf hk _).1 ok).1
   omega
  | some lh =>
   obtain ⟨l,h⟩:=lh
   obtain ⟨m,e,o1,o2,_⟩:=okP_node hk ok
   have e':n=m:=by omega
   subst e'
   rw [wtP_node hk,rowsP_node hk,List.length_append]
   have:=wtP_le n _ o1
   have:=wtP_le n _ o2
   omega
theorem RgAt.mono {W:World} {B B':Nat} {v:Value} {l:List Reg} (h:RgAt W B v l) (hB:B'<=B):RgAt W B' v l:=by
 obtain ⟨xs,h1,h2⟩:=h
 refine ⟨xs,⟨h1.1,?_⟩,fun i hi'=>?_⟩
 ·rcases h1.2 with h | ⟨g,cap,cur,e,hg,r⟩
  ·exact .inl h
  ·exact .inr ⟨g,cap,cur,e,by omega,r⟩
 ·obtain ⟨v1,v2,v3,s,r,a,b,c,d,e,f,o1,o2,o3⟩:=h2 i hi'
  exact ⟨v1,v2,v3,s,r,a,b,c,d,e,f,o1.mono hB,o2.mono hB,o3.mono hB⟩
theorem SAt.new {w0 W:World} {T:Nat->Pt} {N k:Nat} {u:Value} {q:List Int} (hu:RdI w0 u q) (g:Gb w0 W) (hk:1<=k/\k<=64) (b:Nat) :
  SAt w0 ((W.alloc (.cells #[.int .i64 (k:Int),.slice none 0 0] 113)).alloc (.cells #[u,.pointer (some ⟨W.heap.size,0,none⟩),.int .i64 (b:Int),.slice none 0 0,.slice none 0 0,.slice none 0 0] 85)) T N (W.heap.size + 1) W.heap.size k u q b [] [] [] (.slice none 0 0) (.slice none 0 0) (.slice none 0 0) (.slice none 0 0):=by
 have s:=g.size
 have e1:=heap_new (W.alloc (.cells #[.int .i64 (k:Int),.slice none 0 0] 113)) (.cells #[u,.pointer (some ⟨W.heap.size,0,none⟩),.int .i64 (b:Int),.slice none 0 0,.slice none 0 0,.slice none 0 0] 85)
 rw [World.size_alloc] at e1
 refine ⟨e1,by omega,by omega,?_,fun g e=>by simp [Value.ownBlock] at e,⟨rfl,.inl ⟨rfl,rfl⟩⟩,⟨rfl,.inl ⟨rfl,rfl⟩⟩,⟨rfl,.inl ⟨rfl,rfl⟩⟩,fun i hi'=>(by cases hi'),fun x hx=>(by cases hx),fun g e=>(by simp [Value.ownBlock] at e),gb_alloc (gb_alloc g _) _,hu,by simp,by simp⟩
 have:Tk.firsts k (hitsOf q [])=[]:=Tk.firsts_nil k
 rw [this]
 exact (Tk.new_has k hk.1 hk.2 W).gr (gb_alloc (Below.refl _ _) _)
theorem AnsK.kp {S:Nat->Prop} {w0 w1 W W':World} {vh vs vr:Value} {hits:List Tk.Ht} {ids:List Int} {regs:List Reg} (h:AnsK w1 W vh vs vr hits ids regs) (g:Gb w0 w1) (k:Tk.Kp S W W') (hS:∀ b,S b->w0.heap.size<=b) (hn:NoInt W S) (n1:∀ g,vh.ownBlock=some g->¬ S g) (n2:∀ g,vr.ownBlock=some g->¬ S g):AnsK w0 W' vh vs vr hits ids regs:=by
 have s:=g.size
 have s1:=h.gb.size
 refine ⟨(gb_trans g h.gb).trans (k.gr (by omega) hS),Tk.own_kp h.hits k n1,fun b e=>by have:=h.hB b e;omega,?_,(h.rest.mono s).kp k hn n2⟩
 exact own_noint (h.seen.mono s) k hn
theorem AnsK.tvh {w0 W:World} {vh vs vr:Value} {hits:List Tk.Ht} {ids:List Int} {regs:List Reg} (h:AnsK w0 W vh vs vr hits ids regs) {g:Nat} (hg:vh.ownBlock=some g):Ty W g 60:=by
 rcases h.hits.2 with ⟨e,_⟩ | ⟨g',cap,cur,e,_,hh,_⟩
 ·rw [e] at hg;cases hg
 ·rw [e] at hg;cases hg;exact ⟨_,_,hh⟩
theorem AnsK.forms {w0 W:World} {vh vs vr:Value} {hits:List Tk.Ht} {ids:List Int} {regs:List Reg} (h:AnsK w0 W vh vs vr hits ids regs):∃ a1 n1 c1 a2 n2 c2 a3 n3 c3,vh=.slice a1 n1 c1/\vs=.slice a2 n2 c2/\vr=.slice a3 n3 c3:=by
 obtain ⟨a2,n2,c2,e2⟩:=form_own h.seen
 obtain ⟨a3,c3,e3⟩:=h.rest.form
 rcases h.hits.2 with ⟨e,_⟩ | ⟨g',cap,cur,e,_⟩
 ·exact ⟨_,_,_,a2,n2,c2,a3,_,c3,e,e2,e3⟩
 ·exact ⟨_,_,_,a2,n2,c2,a3,_,c3,e,e2,e3⟩
def SeO (w0:World) (k:Nat) (q:List Int) (T:Nat->Pt) (N:Nat) (R:Sr) (e:Ending) (W':World):Prop:=∃ vh vs vr,e=.returned (.tuple #[.agg #[vh,vs,vr],.int .i64 0])/\AnsK w0 W' vh vs vr (Tk.firsts k (hitsOf q R.seen)) (srt (idsOf R.seen)) (R.opn.reverse.map (regP T N))
theorem search_walk {W:World} {tb m k b:Nat} {u:Value} {q:List Int} {T:Nat->Pt} {N:Nat} {R:Sr} {rt:Option Addr} (hq:chk q (m:Int)=0) (hu:RdI W u q) (hk:1<=k/\k<=64) (hb:b<=1000000) (c0:W.cell? ⟨tb,0,none⟩=some (.int .i64 (m:Int))) (c3:W.cell? ⟨tb,3,none⟩=some (.pointer rt))
  (hX:∀ W2,Gb W W2->Calls Tryz.prog 36 #[.pointer (some ⟨W2.heap.size + 1,0,none⟩),.pointer rt] ((W2.alloc (.cells #[.int .i64 (k:Int),.slice none 0 0] 113)).alloc (.cells #[u,.pointer (some ⟨W2.heap.size,0,none⟩),.int .i64 (b:Int),.slice none 0 0,.slice none 0 0,.slice none 0 0] 85)) fun e W3=>e=.returned (.tuple #[]) /\
   Calls Tryz.prog 37 #[.pointer (some ⟨W2.heap.size + 1,0,none⟩)] W3 fun e W4=>e=.returned (.tuple #[])/\Calls Tryz.prog 38 #[.pointer (some ⟨W2.heap.size + 1,0,none⟩)] W4 fun e W5=>∃ vh vs vr,e=.returned (.agg #[vh,vs,vr])/\AnsK W2 W5 vh vs vr (Tk.firsts k (hitsOf q R.seen)) (srt (idsOf R.seen)) (R.opn.reverse.map (regP T N))) :
  Calls Tryz.prog 15 #[.pointer (some ⟨tb,0,none⟩),u,.int .i64 (k:Int),.int .i64 (b:Int)] W fun e W'=>SeO W k q T N R e W':=by
 have g1:Gb W (W.alloc (.cells #[.slice none 0 0,.slice none 0 0,.slice none 0 0] 51)):=gb_alloc (Below.refl _ _) _
 have cK:=check_v (hu.gb g1) (m:Int) 0 hq
 have cN:=Tk.new_ok (k:Int) (by omega) (by omega) (W.alloc (.cells #[.slice none 0 0,.slice none 0 0,.slice none 0 0] 51))
 have cA:=hX _ g1
 have e0:=gb_keeps g1 c0
 have e3:∀ o1 o2,(((W.alloc (.cells #[.slice none 0 0,.slice none 0 0,.slice none 0 0] 51)).alloc o1).alloc o2).cell? ⟨tb,3,none⟩=some (.pointer rt):=fun o1 o2=>gb_keeps (gb_alloc (gb_alloc g1 _) _) c3
 have hb1:¬ (b:Int) < 0:=by omega
 have hb2:¬ (1000000:Int) < (b:Int):=by omega
 have FIN:Hid (∀ W5 vh vs vr,AnsK (W.alloc (.cells #[.slice none 0 0,.slice none 0 0,.slice none 0 0] 51)) W5 vh vs vr (Tk.firsts k (hitsOf q R.seen)) (srt (idsOf R.seen)) (R.opn.reverse.map (regP T N))->(∃ a1 n1 c1 a2 n2 c2 a3 n3 c3,vh=.slice a1 n1 c1/\vs=.slice a2 n2 c2/\vr=.slice a3 n3 c3)/\(∃ y,W5.cell? ⟨W.heap.size,0,none⟩=some y)/\(∃ y,W5.cell? ⟨W.heap.size,1,none⟩=some y)/\(∃ y,W5.cell? ⟨W.heap.size,2,none⟩=some y)/\W5.frozen? ⟨W.heap.size,0,none⟩=false/\W5.frozen? ⟨W.heap.size,1,none⟩=false/\W5.frozen? ⟨W.heap.size,2,none⟩=false /\
   Hid (AnsK W (((W5.setCell ⟨W.heap.size,0,none⟩ vh).setCell ⟨W.heap.size,1,none⟩ vs).setCell ⟨W.heap.size,2,none⟩ vr) vh vs vr (Tk.firsts k (hitsOf q R.seen)) (srt (idsOf R.seen)) (R.opn.reverse.map (regP T N)))):=by
  intro W5 vh vs vr h
  have hb5:W5.heap[W.heap.size]? = some (.cells #[.slice none 0 0,.slice none 0 0,.slice none 0 0] 51 (0,0)):=by
   rw [h.gb.block W.heap.size (by rw [World.size_alloc];omega)]
   exact heap_new W _
  have k7:Tk.Kp (fun b=>b=W.heap.size) W5 (((W5.setCell ⟨W.heap.size,0,none⟩ vh).setCell ⟨W.heap.size,1,none⟩ vs).setCell ⟨W.heap.size,2,none⟩ vr):=(((Tk.Kp.refl (fun b=>b=W.heap.size) W5).setCell (.inl rfl) _).setCell (.inl rfl) _).setCell (.inl rfl) _
  have ne:∀ {b:Nat} {t:TypeId},Ty W5 b t->t ≠ 51->¬ b=W.heap.size:=fun ht hne e=>ht.ne ⟨_,_,hb5⟩ hne e
  refine ⟨h.forms,⟨_,cell_cur hb5 rfl⟩,⟨_,cell_cur hb5 rfl⟩,⟨_,cell_cur hb5 rfl⟩,by simp [World.frozen?,hb5],by simp [World.frozen?,hb5],by simp [World.frozen?,hb5],?_⟩
  exact h.kp g1 k7 (fun b e=>by rw [e];exact Nat.le_refl _) (fun b e cur s hc=>by rw [e,hb5] at hc;injection hc with hc;injection hc with _ hc _;revert hc;decide) (fun g e=>ne (h.tvh e) (by decide)) (fun g e=>ne (h.rest.ty e) (by decide))
 obtain ⟨ua,uc,eu,_⟩:=hu.rd0
 subst eu
 generalize q.length=nq at *
 simp only [World.size_alloc] at cA
 simp only [World.size_alloc] at cN
 clear hX hu hq c0 c3 hk
 go_enter Tryz.func15,Tryz.ntmps15
 go_wp2_with fail
 go_fit cK
 rintro e w1 ⟨rfl,rfl⟩
 clear cK
 go_wp2_with fail
 go_fit cN
 rintro e w2 ⟨rfl,rfl⟩
 clear cN
 go_wp2_with fail
 go_fit cA
 rintro e w3 ⟨rfl,cR⟩
 clear cA
 go_wp2_with fail
 go_fit cR
 rintro e w4 ⟨rfl,cW⟩
 clear cR
 go_wp2_with fail
 go_fit cW
 rintro e w5 ⟨vh,vs,vr,rfl,hO⟩
 obtain ⟨⟨a1,n1,c1,a2,n2,c2,a3,n3,c3,rfl,rfl,rfl⟩,⟨y0,z0⟩,⟨y1,z1⟩,⟨y2,z2⟩,f0,f1,f2,FF⟩:=FIN.out _ _ _ _ hO
 clear cW hO FIN
 go_wp2
 refine bodyPost_ret (v:=.tuple #[.agg #[.slice a1 n1 c1,.slice a2 n2 c2,.slice a3 n3 c3],.int .i64 0]) (by simp [results,Tryz.results15,go_sem,z0,z1,z2]) rfl ?_
 exact ⟨_,_,_,rfl,FF.out⟩
theorem mem_le_sum:∀ {l:List Nat} {x:Nat},x ∈ l->x<=l.sum
 | a :: r,x,h=>by
  rw [List.sum_cons]
  rcases List.mem_cons.1 h with e | e
  ·omega
  ·have:=mem_le_sum e;omega
theorem run_len {w0 W:World} {T:Nat->Pt} {d N sb hb k:Nat} {vq:Value} {q:List Int} {b0:Nat} {rs:List Rw} {R:Sr} {O:List Nat} {M:List (Nat × Pt)} {vs vm vo vh:Value} (hI:InvS T d N q b0 rs R) (hrs:rs.length<=512) (_h:SAt w0 W T N sb hb k vq q R.bud R.seen O M vs vm vo vh) (e:opn M O=R.opn):(∀ p ∈ opn M O,OkP T d N p/\(rowsP T N p).length<=512)/\O.length<=10000:=by
 have hl:=hI.rows.length_eq
 rw [List.length_append] at hl
 have hsub:∀ p ∈ R.opn,(rowsP T N p).length<=(R.opn.flatMap (rowsP T N)).length:=fun p hp=>by
  rw [List.length_flatMap]
  exact mem_le_sum (List.mem_map.2 ⟨p,hp,rfl⟩)
 have hcnt:R.opn.length<=(R.opn.flatMap (rowsP T N)).length:=by
  rw [List.length_flatMap]
  have:∀ l:List Pt,(∀ p ∈ l,OkP T d N p)->l.length<=(l.map fun p=>(rowsP T N p).length).sum:=by
   intro l
   induction l with
   | nil=>intro _;simp
   | cons p r ih =>
    intro h
    have h1:=ih (fun x hx=>h x (List.mem_cons_of_mem _ hx))
    have h2:=List.length_pos_iff.2 (okP_ne N p (h p List.mem_cons_self))
    rw [List.length_cons,List.map_cons,List.sum_cons]
    omega
  exact this _ hI.ok
 refine ⟨fun p hp=>?_,?_⟩
 ·rw [e] at hp
  exact ⟨hI.ok p hp,by have:=hsub p hp;omega⟩
 ·have:(opn M O).length=O.length:=by unfold opn;rw [List.length_map]
  rw [e] at this
  omega
theorem kd_search {Iq:Nat->Prop} {w:World} {tb m leaf:Nat} {rs:List Rw} {F:List Nat} (h:TreeAt Iq w tb m leaf rs F) {q:List Int} (hq:chk q (m:Int)=0) {k b:Nat} (hk:1<=k/\k<=64) (hb:b<=1000000) :
  ∃ T N R,InvS T m N q b rs R/\stepS T q k R=none/\∀ (W:World) (u:Value),Gb w W->RdI W u q->Calls Tryz.prog 15 #[.pointer (some ⟨tb,0,none⟩),u,.int .i64 (k:Int),.int .i64 (b:Int)] W fun e W'=>SeO W k q T N R e W':=by
 obtain ⟨g,cap,d,rt,F1,hbk,hd,hdm,hri,hok,hrt,eF,hnd,hm,hl1,hl2,nF1,⟨pv,er⟩,ltF,tF,gF,tg⟩:=h.open'
 subst er
 have c0:=cell_cur (i:=0) hbk rfl
 have c3:=cell_cur (i:=3) hbk rfl
 have hrs:=hok.few
 rcases hrt with ⟨e1,e2,e3⟩ | ⟨rb,T,N,e1,t,ok,pm⟩
 ·cases e2
  subst e1
  have hI:InvS (fun _=>(⟨[],[],[],(0,0,0),none⟩:Pt)) m 0 q b [] ⟨[],b,[]⟩:=⟨List.Perm.refl _,fun p hp=>(by cases hp),List.Pairwise.nil,by simp⟩
  refine ⟨fun _=>⟨[],[],[],(0,0,0),none⟩,0,⟨[],b,[]⟩,hI,rfl,fun W u gW hu=>?_⟩
  refine search_walk hq hu hk hb (gb_keeps gW c0) (gb_keeps gW c3) (fun W2 g2=>?_)
  refine (await_nil _ _).mono ?_
  rintro e W3 ⟨rfl,rfl⟩
  have h3:=SAt.new (T:=fun _=>(⟨[],[],[],(0,0,0),none⟩:Pt)) (N:=0) (hu.gb g2) (Below.refl _ W2) hk b
  refine ⟨rfl,(run_c (R:=⟨[],b,[]⟩) (g:=0) (b0:=b) (rs:=[]) (d:=m) ⟨b,[],[],[],_,_,_,_,h3,hI,rfl,rfl,by simp,by simp⟩ hq (by simp) hb).mono ?_⟩
  rintro e W4 ⟨rfl,O,M,vs,vm,vo,vh,h4,e4⟩
  obtain ⟨l1,l2⟩:=run_len hI (by simp) h4 e4
  refine ⟨rfl,(answer_c h4 l1 l2).mono ?_⟩
  rintro e W5 ⟨vh',vs',vr',rfl,hA⟩
  rw [e4] at hA
  exact ⟨vh',vs',vr',rfl,hA⟩
 ·cases e1
  have hI0:InvS T m N q b rs ⟨[],b,[T rb]⟩:=by
   refine ⟨by simpa using pm,fun p hp=>?_,List.pairwise_singleton _ _,by simp⟩
   rw [List.mem_singleton.1 hp];exact ok
  obtain ⟨g0,hg0⟩:∃ g0,g0=wtS T N ⟨[],b,[T rb]⟩:=⟨_,rfl⟩
  obtain ⟨R,hR⟩:∃ R,R=runS T q k g0 ⟨[],b,[T rb]⟩:=⟨_,rfl⟩
  obtain ⟨hI,hst⟩:=run_inv (k:=k) g0 _ hI0 (by rw [hg0];exact Nat.le_refl _)
  rw [<- hR] at hI hst
  have hgb:g0<=2048:=by
   have h1:=wtP_le N _ ok
   have h2:=pm.length_eq
   have:g0=wtP T N (T rb):=by rw [hg0];unfold wtS;simp
   omega
  refine ⟨T,N,R,hI,hst,fun W u gW hu=>?_⟩
  refine search_walk hq hu hk hb (gb_keeps gW c0) (gb_keeps gW c3) (fun W2 g2=>?_)
  have h3:=SAt.new (T:=T) (N:=N) (hu.gb g2) (Below.refl _ W2) hk b
  have gT:=gb_trans gW g2
  have tr:TrR W2 T (N + 1) rb:=(t.gb gT).rd
  have hmp:=tr.mp h3.gb
  obtain ⟨b1,b2,b3⟩:=box_ckB (okP_box ok) hq
  refine (await_c h3 hmp b1 List.Pairwise.nil (by simp) (by simp)).mono ?_
  rintro e W3 ⟨rfl,O',vm',vo',h4,e4,l4⟩
  have e5:opn ([] ++ [(rb,T rb)]) O'=[T rb]:=by rw [e4];rfl
  refine ⟨rfl,(run_c (R:=R) (g:=g0) (b0:=b) (rs:=rs) (d:=m) ⟨b,[],O',[] ++ [(rb,T rb)],_,_,_,_,h4,by rw [e5];exact hI0,by rw [e5];exact hg0,by rw [e5];exact hR.symm,by simp;omega,by rw [l4];simp;omega⟩ hq hrs hb).mono ?_⟩
  rintro e W4 ⟨rfl,O,M,vs,vm,vo,vh,h5,e6⟩
  obtain ⟨l1,l2⟩:=run_len hI hrs h5 e6
  refine ⟨rfl,(answer_c h5 l1 l2).mono ?_⟩
  rintro e W5 ⟨vh',vs',vr',rfl,hA⟩
  rw [e6] at hA
  exact ⟨vh',vs',vr',rfl,hA⟩
end Go.Proofs.YtgbgejflmbhigaaGreat

namespace Go.Proofs.YtgbgejflmbhigaaGreat
open Go.RowKit Go.Sort
set_option maxHeartbeats 1000000
theorem firsts_more {k:Nat} {A:List Tk.Ht} (hk:(Tk.firsts k A).length=k):∀ (B:List Tk.Ht),(∀ x ∈ B,Tk.hlt x (Tk.firsts k A)[k - 1]! = false)->Tk.firsts k (A ++ B)=Tk.firsts k A:=by
 intro B
 induction B generalizing A with
 | nil=>intro _;rw [List.append_nil]
 | cons x r ih =>
  intro h
  have e:Tk.firsts k (A ++ [x])=Tk.firsts k A:=by
   rw [Tk.firsts_snoc]
   exact Tk.keep_no (Tk.firsts_srtd k A) hk (h x List.mem_cons_self)
  rw [show A ++ x :: r=(A ++ [x]) ++ r by simp,ih (by rw [e];exact hk) (by rw [e];exact fun y hy=>h y (List.mem_cons_of_mem _ hy)),e]
theorem search_whole {T:Nat->Pt} {m N:Nat} {q:List Int} {k b:Nat} {rs:List Rw} {R:Sr} (hq:chk q (m:Int)=0) (hI:InvS T m N q b rs R) (hs:stepS T q k R=none) (hb:rs.length<=b ∨ R.opn=[] ∨ ((Tk.firsts k (hitsOf q R.seen)).length=k/\∀ p ∈ R.opn,dN (Tk.firsts k (hitsOf q R.seen))[k - 1]! < bnd q p)):Tk.firsts k (hitsOf q R.seen)=Tk.firsts k (hitsOf q rs):=by
 have hp:(hitsOf q (R.seen ++ R.opn.flatMap (rowsP T N))).Perm (hitsOf q rs):=hI.rows.map _
 rw [<- Tk.firsts_perm k hp]
 have nil:R.opn=[]->Tk.firsts k (hitsOf q R.seen)=Tk.firsts k (hitsOf q (R.seen ++ R.opn.flatMap (rowsP T N))):=fun e=>by rw [e];simp
 have far:((Tk.firsts k (hitsOf q R.seen)).length=k/\∀ p ∈ R.opn,dN (Tk.firsts k (hitsOf q R.seen))[k - 1]! < bnd q p)->Tk.firsts k (hitsOf q R.seen)=Tk.firsts k (hitsOf q (R.seen ++ R.opn.flatMap (rowsP T N))):=fun ⟨h1,h2⟩=>by
  rw [show hitsOf q (R.seen ++ R.opn.flatMap (rowsP T N))=hitsOf q R.seen ++ hitsOf q (R.opn.flatMap (rowsP T N)) from List.map_append]
  symm
  by_cases k0:k=0
  ·subst k0;simp [Tk.firsts]
  refine firsts_more h1 _ (fun x hx=>?_)
  obtain ⟨r,hr,rfl⟩:=List.mem_map.1 hx
  obtain ⟨p,hpo,hrp⟩:=List.mem_flatMap.1 hr
  have hbx:=okP_box (hI.ok p hpo)
  obtain ⟨b1,_,_⟩:=box_ckB hbx hq
  obtain ⟨r1,r2⟩:=hbx.2 r hrp
  have hl1:=(chk_ok hq).2.2.1
  have hl2:=(chk_ok r1).2.2.1
  have el:(r.2.length:Int)=(q.length:Int):=by omega
  have b2:ckB (pr p) r.2=0:=by
   unfold ckB at b1 ⊢
   rw [el]
   have h3:=hbx.1
   rw [hl1] at h3
   rw [if_pos h3]
   rw [hl1] at r1
   rw [<- el] at r1 ⊢
   exact r1
  have h4:=bound_le b2 b1 r2
  have h5:bnd q p<=dst q r.2:=by rw [dst_comm (by omega)];exact h4
  have h6:=h2 p hpo
  rw [<- dN_hit] at h5
  have hm:=hit_form (q:=q) (l:=R.seen) (k:=k) (x:=(Tk.firsts k (hitsOf q R.seen))[k - 1]!) (by
   have:k - 1 < (Tk.firsts k (hitsOf q R.seen)).length:=by rw [h1];omega
   generalize Tk.firsts k (hitsOf q R.seen)=X at this ⊢
   rw [getElem!_pos X (k - 1) this];exact List.getElem_mem _)
  generalize (Tk.firsts k (hitsOf q R.seen))[k - 1]! = y at hm h6 ⊢
  rw [Tk.hlt_f]
  rw [dN_hit] at h5
  generalize dN y=d at hm h6
  have e1:y.hi=hi d:=hm.1
  have e2:y.lo=lo d:=hm.2
  rw [e1,e2]
  show ¬ (hi (dst q r.2) < hi d ∨ hi (dst q r.2)=hi d/\(lo (dst q r.2) < lo d ∨ lo (dst q r.2)=lo d/\_))
  generalize dst q r.2=x2 at h5 ⊢
  generalize bnd q p=x3 at h5 h6
  unfold hi lo
  omega
 rcases hb with hb | hb | hb
 ·rcases step_none hI hs with h | h | h
  ·exact nil h
  ·exact far h
  ·refine nil ?_
   have h1:=hI.rows.length_eq
   have h2:=hI.bud
   rw [List.length_append] at h1
   cases ho:R.opn with
   | nil=>rfl
   | cons p r =>
    have h3:=List.length_pos_iff.2 (okP_ne N p (hI.ok p (by rw [ho];exact List.mem_cons_self)))
    rw [ho,List.flatMap_cons,List.length_append] at h1
    omega
 ·exact nil hb
 ·exact far hb
def K4:List Rw:=[(1,[0,0]),(2,[3,4]),(3,[0,1]),(4,[30,40])]
theorem krdi2 {W:World} {b:Nat} {x y:Int} (h:W.heap[b]? = some (.cells #[.int .i64 x,.int .i64 y] 3 (0,0))):RdI W (.slice (some ⟨b,0,none⟩) 2 2) [x,y]:=by
 refine ⟨_,_,rfl,fun i hi=>⟨b,0,rfl,?_⟩⟩
 rcases i with _ | _ | i
 ·simp [World.cell?,h]
 ·simp [World.cell?,h]
 ·simp only [List.length_cons,List.length_nil] at hi;omega
theorem krows_c (w:World):Calls Tryz.prog 13 #[] w fun e w'=>∃ b,e=.returned (.slice (some ⟨b,0,none⟩) 4 4)/\RdW w' (.slice (some ⟨b,0,none⟩) 4 4) K4/\Gb w w':=by
 go_enter Tryz.func13,Tryz.ntmps13
 go_wp2
 go_ret
 refine ⟨_,rfl,?_,by go_grown⟩
 refine ⟨_,_,rfl,fun i hi=>?_⟩
 have hi':i < 4:=hi
 have r0:RdI (((((w.alloc (.cells #[.int .i64 0,.int .i64 0] 3)).alloc (.cells #[.int .i64 3,.int .i64 4] 3)).alloc (.cells #[.int .i64 0,.int .i64 1] 3)).alloc (.cells #[.int .i64 30,.int .i64 40] 3)).alloc (.cells #[.int .i64 1,.slice (some ⟨w.heap.size,0,none⟩) 2 2,.int .i64 2,.slice (some ⟨w.heap.size + 1,0,none⟩) 2 2,.int .i64 3,.slice (some ⟨w.heap.size + 1 + 1,0,none⟩) 2 2,.int .i64 4,.slice (some ⟨w.heap.size + 1 + 1 + 1,0,none⟩) 2 2] 39)) _ [0,0]:=(krdi2 (World.alloc_heap_new w (.cells #[.int .i64 0,.int .i64 0] 3))).gb (gb_alloc (gb_alloc (gb_alloc (gb_alloc (Below.refl _ _) _) _) _) _)
 have r1:RdI (((((w.alloc (.cells #[.int .i64 0,.int .i64 0] 3)).alloc (.cells #[.int .i64 3,.int .i64 4] 3)).alloc (.cells #[.int .i64 0,.int .i64 1] 3)).alloc (.cells #[.int .i64 30,.int .i64 40] 3)).alloc (.cells #[.int .i64 1,.slice (some ⟨w.heap.size,0,none⟩) 2 2,.int .i64 2,.slice (some ⟨w.heap.size + 1,0,none⟩) 2 2,.int .i64 3,.slice (some ⟨w.heap.size + 1 + 1,0,none⟩) 2 2,.int .i64 4,.slice (some ⟨w.heap.size + 1 + 1 + 1,0,none⟩) 2 2] 39)) _ [3,4]:=(krdi2 (World.alloc_heap_new (w.alloc (.cells #[.int .i64 0,.int .i64 0] 3)) (.cells #[.int .i64 3,.int .i64 4] 3))).gb (gb_alloc (gb_alloc (gb_alloc (Below.refl _ _) _) _) _)
 have r2:RdI (((((w.alloc (.cells #[.int .i64 0,.int .i64 0] 3)).alloc (.cells #[.int .i64 3,.int .i64 4] 3)).alloc (.cells #[.int .i64 0,.int .i64 1] 3)).alloc (.cells #[.int .i64 30,.int .i64 40] 3)).alloc (.cells #[.int .i64 1,.slice (some ⟨w.heap.size,0,none⟩) 2 2,.int .i64 2,.slice (some ⟨w.heap.size + 1,0,none⟩) 2 2,.int .i64 3,.slice (some ⟨w.heap.size + 1 + 1,0,none⟩) 2 2,.int .i64 4,.slice (some ⟨w.heap.size + 1 + 1 + 1,0,none⟩) 2 2] 39)) _ [0,1]:=(krdi2 (World.alloc_heap_new ((w.alloc (.cells #[.int .i64 0,.int .i64 0] 3)).alloc (.cells #[.int .i64 3,.int .i64 4] 3)) (.cells #[.int .i64 0,.int .i64 1] 3))).gb (gb_alloc (gb_alloc (Below.refl _ _) _) _)
 have r3:RdI (((((w.alloc (.cells #[.int .i64 0,.int .i64 0] 3)).alloc (.cells #[.int .i64 3,.int .i64 4] 3)).alloc (.cells #[.int .i64 0,.int .i64 1] 3)).alloc (.cells #[.int .i64 30,.int .i64 40] 3)).alloc (.cells #[.int .i64 1,.slice (some ⟨w.heap.size,0,none⟩) 2 2,.int .i64 2,.slice (some ⟨w.heap.size + 1,0,none⟩) 2 2,.int .i64 3,.slice (some ⟨w.heap.size + 1 + 1,0,none⟩) 2 2,.int .i64 4,.slice (some ⟨w.heap.size + 1 + 1 + 1,0,none⟩) 2 2] 39)) _ [30,40]:=(krdi2 (World.alloc_heap_new (((w.alloc (.cells #[.int .i64 0,.int .i64 0] 3)).alloc (.cells #[.int .i64 3,.int .i64 4] 3)).alloc (.cells #[.int .i64 0,.int .i64 1] 3)) (.cells #[.int .i64 30,.int .i64 40] 3))).gb (gb_alloc (Below.refl _ _) _)
 simp only [World.size_alloc] at r1 r2 r3
 rcases i with _ | _ | _ | _ | i
 ·exact ⟨_,_,_,rfl,by simp [go_sem,K4],by simp [go_sem],r0⟩
 ·exact ⟨_,_,_,rfl,by simp [go_sem,K4],by simp [go_sem],r1⟩
 ·exact ⟨_,_,_,rfl,by simp [go_sem,K4],by simp [go_sem],r2⟩
 ·exact ⟨_,_,_,rfl,by simp [go_sem,K4],by simp [go_sem],r3⟩
 ·omega
theorem kbuild_ok {Iq:Nat->Prop} {w:World} {v:Value} {rs:List Rw} (up:Up Iq w) (h:RdW w v rs) (hwf:Wf rs) {m leaf:Nat} (hz:flatE rs (m:Int)=0) (hl:1<=leaf/\leaf<=64) (B S:Int) :
  Calls Tryz.prog 5 #[v,.int .i64 (m:Int),.agg #[.int .i64 (leaf:Int),.int .i64 B,.int .u64 S]] w fun e w'=>TreeOut Iq w m leaf rs e w':=by
 have g1:Gb w (w.alloc (.cells #[.int .i64 (leaf:Int),.int .i64 B,.int .u64 S] 25)):=gb_alloc (Below.refl _ _) _
 have cB:=build_ok (up.gb g1) (h.gb g1) hwf hz hl
 have FX:Hid (∀ e w',TreeOut Iq (w.alloc (.cells #[.int .i64 (leaf:Int),.int .i64 B,.int .u64 S] 25)) m leaf rs e w'->∃ tb,e=.returned (.tuple #[.pointer (some ⟨tb,0,none⟩),.int .i64 0])/\TreeOut Iq w m leaf rs e w'):=by
  rintro e w' ⟨tb,rs',F,rfl,h1,h2,h3,h4⟩
  refine ⟨tb,rfl,tb,rs',F,rfl,h1,h2,gb_trans g1 h3,fun x hx=>?_⟩
  have:=h4 x hx
  have:=g1.size
  omega
 obtain ⟨a,c,e,_⟩:=h
 subst e
 generalize rs.length=n at *
 clear g1 hz hl hwf
 go_enter Tryz.func5,Tryz.ntmps5
 go_wp2_with fail
 go_fit cB
 intro e w1 hO
 obtain ⟨tb,rfl,hT⟩:=FX.out _ _ hO
 have HT:Hid _:=hT
 clear cB hO FX hT
 go_wp2
 refine bodyPost_ret (v:=.tuple #[.pointer (some ⟨tb,0,none⟩),.int .i64 0]) (by simp [results,Tryz.results5,go_sem]) rfl ?_
 exact HT.out
end Go.Proofs.YtgbgejflmbhigaaGreat

namespace Go.Proofs.YtgbgejflmbhigaaGreat
open Go.RowKit Go.Sort
set_option maxRecDepth 100000
set_option maxHeartbeats 4000000
theorem ris_perm {a b:List Rw} (ha:Ris a) (hb:Ris b) (p:a.Perm b):a=b :=
 p.eq_of_pairwise (fun _ _ _ _ h1 h2=>by omega) ha hb
theorem khits4:hitsOf [0,0] K4=[(1,0,0),(2,0,25),(3,0,1),(4,0,2500)]:=by decide
theorem ksrt4:Tk.srt (hitsOf [0,0] K4)=[(1,0,0),(3,0,1),(2,0,25),(4,0,2500)]:=by
 rw [khits4]
 exact Tk.srt_of_perm (by unfold Tk.Srtd;decide) (by decide)
theorem kfirst2:Tk.firsts 2 (hitsOf [0,0] K4)=[(1,0,0),(3,0,1)]:=by unfold Tk.firsts;rw [ksrt4];rfl
theorem kwf4:Wf K4:=⟨by decide,by decide⟩
theorem kfl4:flatE K4 ((2:Nat):Int)=0:=by decide
theorem krs4:Ris K4:=by unfold Ris;decide
theorem kput1:putE 2 K4 (3,[9,9])=0/\putRw K4 (3,[9,9])=[(1,[0,0]),(2,[3,4]),(3,[9,9]),(4,[30,40])]:=by decide
def K3:List Rw:=[(1,[0,0]),(2,[3,4]),(3,[9,9]),(4,[30,40])]
theorem kput0 (rs:List Rw):putE 2 rs (0,[1,1])=50:=by unfold putE;rw [if_neg (by decide)]
theorem TreeAt.ris {Iq:Nat->Prop} {w:World} {tb m leaf:Nat} {rs:List Rw} {F:List Nat} (h:TreeAt Iq w tb m leaf rs F):Ris rs:=by
 obtain ⟨g,cap,d,rt,F1,_,_,_,hr,_⟩:=h
 exact hr
theorem kown_sl {w:World} {v:Value} {l:List Tk.Ht} (h:Tk.Own w v l.toArray) (h0:0 < l.length):∃ g cap,v=.slice (some ⟨g,0,none⟩) l.length cap/\l.length<=cap/\Tk.Lies w g 0 l:=by
 obtain ⟨g,cap,cur,e,hh,hc,_⟩:=Tk.own_form h (by simpa using h0)
 subst e
 exact ⟨g,cap,by simp,by simpa using hc,by simpa using Tk.own_lies h⟩
theorem ksearch4 {Iq:Nat->Prop} {w:World} {tb:Nat} {F:List Nat} (h:TreeAt Iq w tb 2 1 K4 F) {u:Value} {W:World} (g:Gb w W) (hu:RdI W u [0,0]) :
  Calls Tryz.prog 15 #[.pointer (some ⟨tb,0,none⟩),u,.int .i64 2,.int .i64 4] W fun e W'=>∃ gh ch a2 n2 c2 a3 n3 c3,e=.returned (.tuple #[.agg #[.slice (some ⟨gh,0,none⟩) 2 ch,.slice a2 n2 c2,.slice a3 n3 c3],.int .i64 0])/\W.heap.size<=gh/\gh < W'.heap.size/\Tk.Lies W' gh 0 [(1,0,0),(3,0,1)]/\Gb W W':=by
 obtain ⟨T,N,R,hI,hs,c⟩:=kd_search h (q:=[0,0]) (by decide) (k:=2) (b:=4) (by decide) (by decide)
 refine (c W u g hu).mono ?_
 rintro e W' ⟨vh,vs,vr,rfl,hA⟩
 rw [search_whole (by decide) hI hs (.inl (by decide)),kfirst2] at hA
 obtain ⟨a1,n1,c1,a2,n2,c2,a3,n3,c3,rfl,rfl,rfl⟩:=hA.forms
 obtain ⟨gh,ch,e,_,hl⟩:=kown_sl hA.hits (by decide)
 cases e
 obtain ⟨_,_,_,_,hh,_⟩:=Tk.own_form hA.hits (by decide)
 have lt:gh < W'.heap.size:=by
  have:=hl 0 (by decide)
  exact World.block_lt_of_cell? W' _ this.1
 exact ⟨gh,_,a2,n2,c2,a3,n3,c3,rfl,hA.hB gh rfl,lt,hl,hA.gb⟩
def Aw (Iq:Nat->Prop) (w:World) (tb bx gh ch:Nat) (rs:List Rw) (W:World):Prop:=∃ F,TreeAt Iq W tb 2 1 rs F/\(∀ x ∈ F,w.heap.size<=x/\x ≠ bx/\x ≠ gh)/\bx < W.heap.size/\gh < W.heap.size/\Tk.Lies W gh 0 [(1,0,0),(3,0,1)]/\W.cell? ⟨bx,0,none⟩=some (.slice (some ⟨gh,0,none⟩) 2 ch)/\Gb w W
theorem lies_kp {S:Nat->Prop} {W W':World} {g:Nat} {l:List Tk.Ht} (h:Tk.Lies W g 0 l) (k:Tk.Kp S W W') (hn:¬ S g):Tk.Lies W' g 0 l:=fun i hi =>
 ⟨k.cell (h i hi).1 hn,k.cell (h i hi).2.1 hn,k.cell (h i hi).2.2 hn⟩
theorem aw_out {Iq:Nat->Prop} {w W W':World} {tb bx gh ch:Nat} {rs':List Rw} {F:List Nat} (hF:∀ x ∈ F,w.heap.size<=x/\x ≠ bx/\x ≠ gh) (hb:bx < W.heap.size) (hg:gh < W.heap.size) (hl:Tk.Lies W gh 0 [(1,0,0),(3,0,1)]) (hc:W.cell? ⟨bx,0,none⟩=some (.slice (some ⟨gh,0,none⟩) 2 ch)) (g:Gb w W) (h:TOut Iq W tb 2 1 F rs' W'):Aw Iq w tb bx gh ch rs' W':=by
 obtain ⟨F',t,l,k⟩:=h
 have s:=k.size
 have s0:=g.size
 refine ⟨F',t,fun x hx=>?_,by omega,by omega,lies_kp hl k (fun h=>(hF gh h).2.2 rfl),k.cell hc (fun h=>(hF bx h).2.1 rfl),g.trans (k.gr s0 fun x hx=>(hF x hx).1)⟩
 rcases l x hx with h | h
 ·exact hF x h
 ·exact ⟨by omega,by omega,by omega⟩
theorem aw_put {Iq:Nat->Prop} {w W:World} {tb bx gh ch:Nat} {rs:List Rw} (h:Aw Iq w tb bx gh ch rs W) (id x y:Int) {z:Int} (hz:putE 2 rs (id,[x,y])=z) {n:Bool} (hn:(decide (z=0) && !hasId rs id)=n) :
  Calls Tryz.prog 16 #[.pointer (some ⟨tb,0,none⟩),.agg #[.int .i64 id,.slice (some ⟨W.heap.size,0,none⟩) 2 2]] (W.alloc (.cells #[.int .i64 x,.int .i64 y] 3)) fun e w'=>e=.returned (.tuple #[.bool n,.int .i64 z])/\Aw Iq w tb bx gh ch (if z=0 then putRw rs (id,[x,y]) else rs) w':=by
 obtain ⟨F,t,hF,hb,hg,hl,hc,g⟩:=h
 have ga:Gb W (W.alloc (.cells #[.int .i64 x,.int .i64 y] 3)):=gb_alloc (Below.refl _ _) _
 have s:=ga.size
 refine (put_c (xi:=id) (t.gb ga) (krdi2 (World.alloc_heap_new W (.cells #[.int .i64 x,.int .i64 y] 3))) ?_).mono ?_
 ·intro b o n c e hb
  cases e
  have:=t.mem.2 _ hb
  omega
 ·rintro e w' ⟨rfl,hO⟩
  rw [hz] at hO ⊢
  rw [hn]
  exact ⟨rfl,aw_out hF (by omega) (by omega) (lies_kp (S:=fun _=>False) hl (Tk.Kp.of_gr ga) (fun h=>h)) (gb_keeps ga hc) (gb_trans g ga) hO⟩
theorem aw_del {Iq:Nat->Prop} {w W:World} {tb bx gh ch:Nat} {rs:List Rw} (h:Aw Iq w tb bx gh ch rs W) (id:Int) {n:Bool} (hn:hasId rs id=n) :
  Calls Tryz.prog 17 #[.pointer (some ⟨tb,0,none⟩),.int .i64 id] W fun e w'=>e=.returned (.tuple #[.bool n,.int .i64 0])/\Aw Iq w tb bx gh ch (delRw rs id) w':=by
 obtain ⟨F,t,hF,hb,hg,hl,hc,g⟩:=h
 refine (delete_c t id).mono ?_
 rintro e w' ⟨rfl,hO⟩
 rw [hn]
 exact ⟨rfl,aw_out hF hb hg hl hc g hO⟩
theorem aw_len {Iq:Nat->Prop} {w W:World} {tb bx gh ch:Nat} {rs:List Rw} (h:Aw Iq w tb bx gh ch rs W) {n:Int} (hn:(rs.length:Int)=n) :
  Calls Tryz.prog 14 #[.pointer (some ⟨tb,0,none⟩)] W fun e w'=>e=.returned (.int .i64 n)/\w'=W:=by
 obtain ⟨F,t,_⟩:=h
 rw [<- hn]
 exact len_c t
theorem kawake_c (w:World):Calls Tryz.prog 6 #[] w fun e w'=>e=.returned (.bool true)/\Gb w w':=by
 go_enter Tryz.func6,Tryz.ntmps6
 go_wp2_with fail
 refine (krows_c w).mono ?_
 rintro e w1 ⟨b1,rfl,r1,g1⟩
 have c:Calls Tryz.prog 5 #[.slice (some ⟨b1,0,none⟩) 4 4,.int .i64 2,.agg #[.int .i64 1,.int .i64 0,.int .u64 0]] w1 fun e w'=>TreeOut IqT w1 2 1 K4 e w':=kbuild_ok (upT _) r1 kwf4 (m:=2) (leaf:=1) kfl4 (by decide) 0 0
 go_wp2_with fail
 refine c.mono ?_
 rintro e w2 ⟨tb,rs,F,rfl,t2,p2,g2,f2⟩
 obtain rfl:=ris_perm t2.ris krs4 p2
 have G2:Gb w w2:=gb_trans g1 g2
 have s1:=g1.size
 have f2':∀ x ∈ F,w.heap.size<=x:=fun x hx=>by have:=f2 x hx;omega
 clear c g1 g2 r1 f2 p2
 have c:=len_c t2
 go_wp2_with fail
 refine c.mono ?_
 rintro e w3 ⟨rfl,rfl⟩
 clear c
 have ga:Gb w3 (w3.alloc (.cells #[.int .i64 0,.int .i64 0] 3)):=gb_alloc (Below.refl _ _) _
 have c:=ksearch4 t2 ga (krdi2 (World.alloc_heap_new w3 (.cells #[.int .i64 0,.int .i64 0] 3)))
 go_wp2_with fail
 refine c.mono ?_
 rintro e w4 ⟨gh,ch,a2,n2,c2,a3,n3,c3,rfl,q1,q2,ql,q3⟩
 clear c
 have s3:=ga.size
 have s4:=q3.size
 have A4:Aw IqT w tb w4.heap.size gh ch K4 (w4.alloc (.cells #[.slice (some ⟨gh,0,none⟩) 2 ch,.slice a2 n2 c2,.slice a3 n3 c3] 51)):=by
  have ga4:Gb w4 (w4.alloc (.cells #[.slice (some ⟨gh,0,none⟩) 2 ch,.slice a2 n2 c2,.slice a3 n3 c3] 51)):=gb_alloc (Below.refl _ _) _
  have m2:=t2.mem.2
  have s5:=ga4.size
  refine ⟨F,((t2.gb ga).gb q3).gb ga4,fun x hx=>⟨f2' x hx,?_,?_⟩,?_,by omega,lies_kp (S:=fun _=>False) ql (Tk.Kp.of_gr ga4) (fun h=>h),?_,gb_trans G2 (gb_trans ga (gb_trans q3 ga4))⟩
  ·have:=m2 x hx;omega
  ·have:=m2 x hx;rw [World.size_alloc] at q1;omega
  ·rw [World.size_alloc];omega
  ·simp [go_sem]
 have c:=aw_put A4 3 9 9 kput1.1 (n:=false) (by decide)
 rw [if_pos rfl,kput1.2,World.size_alloc] at c
 clear A4 ql q3 ga t2 G2 f2' q1 s1 s3 s4 q2
 go_wp2_with fail
 refine c.mono ?_
 rintro e w6 ⟨rfl,A6⟩
 clear c
 have c:=aw_del A6 1 (n:=true) (by decide)
 clear A6
 go_wp2_with fail
 refine c.mono ?_
 rintro e w7 ⟨rfl,A7⟩
 clear c
 have c:=aw_put A7 0 1 1 (kput0 _) (n:=false) (by decide)
 rw [if_neg (by decide)] at c
 clear A7
 go_wp2_with fail
 refine c.mono ?_
 rintro e w8 ⟨rfl,A8⟩
 clear c
 have c:=aw_len A8 (n:=3) (by decide)
 obtain ⟨F8,_,_,_,_,l8,c8,g8⟩:=A8
 go_wp2_with fail
 refine c.mono ?_
 rintro e w9 ⟨rfl,rfl⟩
 clear c
 have l0:=l8 0 (by decide)
 have l1:=l8 1 (by decide)
 clear l8
 simp only [Tk.Ht.id,Tk.Ht.hi,Tk.Ht.lo] at l0 l1
 go_wp2
 refine bodyPost_ret (v:=.bool true) (by simp [results,Tryz.results6,go_sem]) rfl ⟨rfl,?_⟩
 exact g8
end Go.Proofs.YtgbgejflmbhigaaGreat
