import Derived.Test.YtgbgejflmbhigaaGreatKwKqLk
import Derived.Deep.LoopGhost
import Derived.Test.YtgbgejflmbhigaaGreatKw12
namespace Go.Proofs.YtgbgejflmbhigaaGreat
open Go.RowKit Go.Sort
set_option maxRecDepth 100000
set_option maxHeartbeats 1000000
def LookN (w0 W':World) (T:Nat->Pt) (N sb hb k:Nat) (vq:Value) (q:List Int) (bud:Nat) (seen:List Rw) (O:List Nat) (M:List (Nat × Pt)) (l h:Nat):Prop:=∃ O' M' vs' vm' vo' vh',SAt w0 W' T N sb hb k vq q bud seen O' M' vs' vm' vo' vh'/\opn M' O'=insP q (T h) (insP q (T l) (opn M O))/\M'.length<=M.length + 2/\O'.length<=O.length + 2
theorem look_node {w0 W:World} {T:Nat->Pt} {N sb hb k:Nat} {vq:Value} {q:List Int} {bud:Nat} {seen:List Rw} {O:List Nat} {M:List (Nat × Pt)} {vs vm vo vh:Value} {pb l h:Nat} {p:Pt} (hS:SAt w0 W T N sb hb k vq q bud seen O M vs vm vo vh) (hpM:(pb,p) ∈ M) (hk:p.kids=some (l,h))
  (hb1:ckB (pr (T l)) q=0) (hb2:ckB (pr (T h)) q=0) (hd:Dsc q (opn M O)) (hf:M.length + 2<=10000) (hof:O.length + 1<=10000) :
  Calls Tryz.prog 68 #[.pointer (some ⟨sb,0,none⟩),.pointer (some ⟨pb,0,none⟩)] W fun e W'=>e=.returned (.tuple #[])/\LookN w0 W' T N sb hb k vq q bud seen O M l h:=by
 have key:∀ (W':World) (M':List (Nat × Pt)) (O':List Nat) (vs vm vo vh:Value),SAt w0 W' T N sb hb k vq q bud seen O' M' vs vm vo vh->(pb,p) ∈ M'->W'.cell? ⟨pb,10,none⟩=some (.pointer (some ⟨l,0,none⟩))/\W'.cell? ⟨pb,11,none⟩=some (.pointer (some ⟨h,0,none⟩))/\MP w0 W' T N l (T l)/\MP w0 W' T N h (T h):=by
  intro W' M' O' vs vm vo vh hS hm
  have hp:=hS.prt _ hm
  dsimp only at hp
  obtain ⟨vl,vh0,vr,hblk,_,_,hrs⟩:=hp
  have a:=cell_cur (i:=10) (v:=kidV (p.kids.map Prod.fst)) hblk rfl
  have b:=cell_cur (i:=11) (v:=kidV (p.kids.map Prod.snd)) hblk rfl
  rw [hk] at hrs a b
  exact ⟨a,b,hrs.2.1.mono.mp hS.gb,hrs.2.2.mono.mp hS.gb⟩
 obtain ⟨c10,_,hml,_⟩:=key W M O vs vm vo vh hS hpM
 have cI:Calls Tryz.prog 67 #[.pointer (some ⟨pb,0,none⟩)] W fun e w'=>e=.returned (.bool true)/\w'=W:=by
  go_enter Tryz.func67,Tryz.ntmps67
  go_wp2
  go_ret
  exact ⟨rfl,rfl⟩
 have c1:=await_c hS hml hb1 hd (by omega) (by omega)
 have NX:Hid (∀ w1,(∃ O' vm' vo',SAt w0 w1 T N sb hb k vq q bud seen O' (M ++ [(l,T l)]) vs vm' vo' vh/\opn (M ++ [(l,T l)]) O'=insP q (T l) (opn M O)/\O'.length=O.length + 1)->w1.cell? ⟨pb,11,none⟩=some (.pointer (some ⟨h,0,none⟩)) /\
   Calls Tryz.prog 36 #[.pointer (some ⟨sb,0,none⟩),.pointer (some ⟨h,0,none⟩)] w1 fun e W'=>e=.returned (.tuple #[])/\LookN w0 W' T N sb hb k vq q bud seen O M l h):=by
  rintro w1 ⟨O',vm',vo',h1,e1,l1⟩
  obtain ⟨_,c11,_,hmh⟩:=key w1 (M ++ [(l,T l)]) O' vs vm' vo' vh h1 (List.mem_append_left _ hpM)
  refine ⟨c11,?_⟩
  refine (await_c h1 hmh hb2 (by rw [e1];exact insP_dsc q _ _ hd) (by rw [List.length_append];simp;omega) (by omega)).mono ?_
  rintro e w2 ⟨rfl,O2,vm2,vo2,h2,e2,l2⟩
  exact ⟨rfl,O2,_,vs,vm2,vo2,vh,h2,by rw [e2,e1],by simp,by omega⟩
 clear hS key hml hd
 go_enter Tryz.func68,Tryz.ntmps68
 go_wp2_with fail
 go_fit cI
 rintro e W ⟨rfl,rfl⟩
 clear cI
 go_wp2_with fail
 go_fit c1
 rintro e w1 ⟨rfl,hO⟩
 obtain ⟨c11,c2⟩:=NX.out _ hO
 clear c1 hO NX c10
 go_wp2_with fail
 go_fit c2
 rintro e w2 ⟨rfl,hO⟩
 have H:Hid _:=hO
 clear hO c2
 go_wp2
 exact bodyPost_ret (v:=.tuple #[]) (by simp [results,Tryz.results68,go_sem]) rfl ⟨rfl,H.out⟩
end Go.Proofs.YtgbgejflmbhigaaGreat

namespace Go.Proofs.YtgbgejflmbhigaaGreat
open Go.RowKit Go.Sort
set_option maxRecDepth 100000
set_option maxHeartbeats 4000000
theorem runS_add {T:Nat->Pt} {q:List Int} {k:Nat}:∀ a b s,runS T q k (a + b) s=runS T q k b (runS T q k a s)
 | 0,b,s=>by rw [Nat.zero_add];rfl
 | a + 1,b,s=>by
  rw [show a + 1 + b=(a + b) + 1 by omega,runS,runS]
  cases e:stepS T q k s with
  | none=>exact (runS_stop e b).symm
  | some s'=>exact runS_add a b s'
theorem run_next {T:Nat->Pt} {d N:Nat} {q:List Int} {k b0:Nat} {rs:List Rw} {s s':Sr} (h:InvS T d N q b0 rs s) (e:stepS T q k s=some s'):runS T q k (wtS T N s) s=runS T q k (wtS T N s') s':=by
 obtain ⟨h1,h2⟩:=step_inv h e
 obtain ⟨n,hn⟩:∃ n,wtS T N s=n + 1:=⟨wtS T N s - 1,by omega⟩
 rw [hn,runS,e]
 dsimp only
 have h3:=(run_inv (k:=k) (wtS T N s') s' h1 (Nat.le_refl _)).2
 rw [show n=wtS T N s' + (n - wtS T N s') by omega,runS_add,runS_stop h3]
theorem box_ckB {d:Nat} {p:Pt} {rs:List Rw} {q:List Int} (h:BoxOk d p rs) (hq:chk q (d:Int)=0):ckB (pr p) q=0/\(∀ r ∈ rs,chk r.2 (q.length:Int)=0)/\chk q (q.length:Int)=0:=by
 have hl:=(chk_ok hq).2.2.1
 rw [hl] at hq
 refine ⟨?_,fun r hr=>by rw [<- hl];exact (h.2 r hr).1,hq⟩
 have h1:=h.1
 rw [hl] at h1
 unfold ckB
 rw [if_pos h1]
 exact hq
theorem iscut_mp {w0 W:World} {T:Nat->Pt} {N pb:Nat} {p:Pt} (h:MP w0 W T N pb p):Calls Tryz.prog 67 #[.pointer (some ⟨pb,0,none⟩)] W fun e w'=>e=.returned (.bool p.kids.isSome)/\w'=W:=by
 obtain ⟨vl,vh0,vr,hblk,_⟩:=h
 have c10:=cell_cur (i:=10) (v:=kidV (p.kids.map Prod.fst)) hblk rfl
 clear hblk
 cases hk:p.kids with
 | none =>
  rw [hk] at c10
  dsimp only [Option.map,kidV] at c10
  clear hk
  go_enter Tryz.func67,Tryz.ntmps67
  go_wp2
  go_ret
  exact ⟨rfl,rfl⟩
 | some lh =>
  rw [hk] at c10
  dsimp only [Option.map,kidV] at c10
  clear hk
  go_enter Tryz.func67,Tryz.ntmps67
  go_wp2
  go_ret
  exact ⟨rfl,rfl⟩
def RunI (w0:World) (T:Nat->Pt) (d N sb hb k:Nat) (vq:Value) (q:List Int) (b0:Nat) (rs:List Rw) (R:Sr) (g:Nat) (W:World):Prop :=
 ∃ bud seen O M vs vm vo vh,SAt w0 W T N sb hb k vq q bud seen O M vs vm vo vh/\InvS T d N q b0 rs ⟨seen,bud,opn M O⟩/\g=wtS T N ⟨seen,bud,opn M O⟩/\runS T q k g ⟨seen,bud,opn M O⟩=R/\M.length + 2 * g<=9000/\O.length + 2 * g<=9000
def RunO (w0:World) (T:Nat->Pt) (N sb hb k:Nat) (vq:Value) (q:List Int) (R:Sr) (W:World):Prop :=
 ∃ O M vs vm vo vh,SAt w0 W T N sb hb k vq q R.bud R.seen O M vs vm vo vh/\opn M O=R.opn
theorem run_fin {w0 W W':World} {T:Nat->Pt} {N sb hb k:Nat} {vq:Value} {q:List Int} {R:Sr} {g bud:Nat} {seen:List Rw} {O:List Nat} {M:List (Nat × Pt)} {vs vm vo vh:Value} (h:SAt w0 W T N sb hb k vq q bud seen O M vs vm vo vh) (hr:runS T q k g ⟨seen,bud,opn M O⟩=R) (e:stepS T q k ⟨seen,bud,opn M O⟩=none) (gb:Gb W W'):RunO w0 T N sb hb k vq q R W':=by
 rw [runS_stop e] at hr
 subst hr
 exact ⟨O,M,vs,vm,vo,vh,h.grow gb,rfl⟩
theorem opn_last {M:List (Nat × Pt)} {O:List Nat} (hO:O ≠ []) (h:∀ i ∈ O,i < M.length):∃ hl:O.getLast hO < M.length,(opn M O).getLast? = some (M[O.getLast hO]).2/\(opn M O).dropLast=opn M O.dropLast/\M[O.getLast hO] ∈ M:=by
 have hl:=h _ (List.getLast_mem hO)
 refine ⟨hl,?_,?_,List.getElem_mem hl⟩
 ·unfold opn
  rw [List.getLast?_map,List.getLast?_eq_some_getLast hO]
  simp [List.getD_eq_getElem?_getD,hl]
 ·unfold opn;rw [List.map_dropLast]
theorem look_next {w0 W':World} {T:Nat->Pt} {d N sb hb k:Nat} {vq:Value} {q:List Int} {b0:Nat} {rs:List Rw} {R:Sr} {bud:Nat} {seen:List Rw} {O:List Nat} {M:List (Nat × Pt)} {s':Sr} (hi:InvS T d N q b0 rs ⟨seen,bud,opn M O⟩) (hr:runS T q k (wtS T N ⟨seen,bud,opn M O⟩) ⟨seen,bud,opn M O⟩=R) (hm:M.length + 2 * wtS T N ⟨seen,bud,opn M O⟩<=9000) (ho:O.length + 2 * wtS T N ⟨seen,bud,opn M O⟩<=9000)
  (e:stepS T q k ⟨seen,bud,opn M O⟩=some s') (hs:∃ O' M' vs' vm' vo' vh',SAt w0 W' T N sb hb k vq q s'.bud s'.seen O' M' vs' vm' vo' vh'/\opn M' O'=s'.opn/\M'.length<=M.length + 2/\O'.length<=O.length + 2) :
  wtS T N s' < wtS T N ⟨seen,bud,opn M O⟩/\RunI w0 T d N sb hb k vq q b0 rs R (wtS T N s') W':=by
 obtain ⟨O',M',vs',vm',vo',vh',h1,h2,h3,h4⟩:=hs
 obtain ⟨i1,i2⟩:=step_inv hi e
 have es:s'=⟨s'.seen,s'.bud,opn M' O'⟩:=by rw [h2]
 refine ⟨i2,s'.bud,s'.seen,O',M',vs',vm',vo',vh',h1,by rw [<- es];exact i1,by rw [<- es],by rw [<- es,<- run_next hi e];exact hr,by omega,by omega⟩
theorem run_c {w0 W:World} {T:Nat->Pt} {d N sb hb k:Nat} {vq:Value} {q:List Int} {b0:Nat} {rs:List Rw} {R:Sr} {g:Nat} (hR:RunI w0 T d N sb hb k vq q b0 rs R g W) (hq:chk q (d:Int)=0) (hrs:rs.length<=512) (hb0:b0<=1000000) :
  Calls Tryz.prog 37 #[.pointer (some ⟨sb,0,none⟩)] W fun e W'=>e=.returned (.tuple #[])/\RunO w0 T N sb hb k vq q R W':=by
 have HR:Hid (RunI w0 T d N sb hb k vq q b0 rs R g W):=hR
 have HQ:Hid (chk q (d:Int)=0/\rs.length<=512/\b0<=1000000):=⟨hq,hrs,hb0⟩
 clear hR hq hrs hb0
 go_enter Tryz.func37,Tryz.ntmps37
 go_wp2_with fail
 go_loopg [] g (fun g wx=>Hid (RunI w0 T d N sb hb k vq q b0 rs R g wx))
 case atStart=>exact HR.out
 case round =>
  clear HR
  obtain ⟨bud,seen,O,M,vs,vm,vo,vh,hS,hi',hg,hr,hm,ho⟩:=hrel.out
  subst hg
  obtain ⟨_,_,c2,_,c4,c5,fz⟩:=hS.cells
  by_cases hO:O=[]
  ·have hst:stepS T q k ⟨seen,bud,opn M O⟩=none:=by rw [hO];rfl
   have FF:Hid (RunO w0 T N sb hb k vq q R wr):=run_fin hS hr hst (Below.refl _ _)
   obtain ⟨oa,oc,eo,_⟩:=hS.op.rd
   have eo':vo=.slice oa 0 oc:=by rw [eo,hO];rfl
   clear eo
   subst eo'
   clear hS hi' hr hm ho hst hrel c2 c4 fz
   go_wp2
   go_end0
   exact ⟨rfl,FF.out⟩
  ·obtain ⟨og,oc,eo,hoc,clast,hpop⟩:=hS.pop hO
   obtain ⟨hli,hgl,hdl,hmm⟩:=opn_last hO hS.olt
   obtain ⟨mb,mc,em,hmc,m0,m1,m2⟩:=hS.cand hli
   have hol:0 < O.length:=List.length_pos_iff.2 hO
   subst eo em
   generalize hx:M[O.getLast hO]=x at *
   obtain ⟨pb,p⟩:=x
   generalize hlii:O.getLast hO=li at *
   try dsimp only at hgl m0 m1 m2
   have cBe:=fun W' (g:Gb wr W')=>isBeyond_c (hS.grow g) pb p
   have okp:=hi'.ok p (List.mem_of_getLast? hgl)
   have f5:=fz 5
   have hbudle:bud<=1000000:=by have h1:=hi'.bud;have h2:=HQ.out.2.2;dsimp only at h1;omega
   have SN:∀ b,stepS T q k ⟨seen,bud,opn M O⟩=b->(beyond q k seen p=true->b=none)/\(beyond q k seen p=false->p.kids=none->bud=0->b=none)/\(beyond q k seen p=false->¬ (p.kids=none/\bud=0)->b=some (look T q ⟨seen,bud,opn M O⟩ p (opn M O.dropLast))):=by
    intro b hb
    unfold stepS at hb
    rw [hgl] at hb
    dsimp only at hb
    refine ⟨fun h=>?_,fun h h1 h2=>?_,fun h h1=>?_⟩
    ·rw [if_pos h] at hb;exact hb.symm
    ·rw [if_neg (by rw [h];decide),if_pos ⟨h1,h2⟩] at hb;exact hb.symm
    ·rw [if_neg (by rw [h];decide),if_neg h1,hdl] at hb;exact hb.symm
   have FIN:Hid (∀ W',Gb wr W'->stepS T q k ⟨seen,bud,opn M O⟩=none->RunO w0 T N sb hb k vq q R W'):=fun W' g e=>run_fin hS hr e g
   have POP:∀ w3,Gb wr w3->SAt w0 (w3.setCell ⟨sb,5,none⟩ (.slice (some ⟨og,0,none⟩) (O.length - 1) oc)) T N sb hb k vq q bud seen O.dropLast M vs (.slice (some ⟨mb,0,none⟩) M.length mc) (.slice (some ⟨og,0,none⟩) (O.length - 1) oc) vh:=fun w3 g=>by
    obtain ⟨og',oc',eo',_,_,hp⟩:=(hS.grow g).pop hO
    cases eo'
    exact hp
   have hpb:(pb,p) ∈ M:=hmm
   have dsc':Dsc q (opn M O.dropLast):=by rw [<- hdl];exact hi'.dsc.sublist (List.dropLast_sublist _)
   have olen:O.dropLast.length=O.length - 1:=List.length_dropLast
   have wpos:0 < wtS T N ⟨seen,bud,opn M O⟩:=by
    unfold wtS
    have:=last_split hgl
    dsimp only
    rw [this,List.map_append,List.sum_append]
    simp only [List.map_cons,List.map_nil,List.sum_cons,List.sum_nil]
    have:=wtP_pos T N p
    omega
   have NEXT:Hid (beyond q k seen p=false->¬ (p.kids=none/\bud=0)->∀ w3,Gb wr w3->Calls Tryz.prog 68 #[.pointer (some ⟨sb,0,none⟩),.pointer (some ⟨pb,0,none⟩)] (w3.setCell ⟨sb,5,none⟩ (.slice (some ⟨og,0,none⟩) (O.length - 1) oc)) fun e W'=>e=.returned (.tuple #[])/\Hid (∃ g',g' < wtS T N ⟨seen,bud,opn M O⟩/\RunI w0 T d N sb hb k vq q b0 rs R g' W')):=by
    intro hbf hnb w3 g3
    have est:=(SN _ rfl).2.2 hbf hnb
    cases hk:p.kids with
    | none =>
     obtain ⟨hne,hbox⟩:=(okP_leaf hk N).1 okp
     obtain ⟨b1,b2,b3⟩:=box_ckB hbox HQ.out.1
     have hse:seen.length + p.rs.length<=512:=by
      have h1:=hi'.rows.length_eq
      have h2:=last_split hgl
      dsimp only at h1
      rw [h2,List.flatMap_append,List.length_append,List.length_append] at h1
      simp only [List.flatMap_cons,List.flatMap_nil,List.append_nil] at h1
      rw [rowsP_leaf hk] at h1
      have:=HQ.out.2.1
      omega
     refine (look_leaf (POP w3 g3) hpb hk b1 b2 b3 dsc' (by omega) (by omega) hse hbudle rfl).mono ?_
     rintro e W' ⟨rfl,O',M',vs',vm',vo',vh',h1,h2,h3,h4⟩
     have el:look T q ⟨seen,bud,opn M O⟩ p (opn M O.dropLast)=⟨seen ++ p.rs.take (min bud p.rs.length),bud - min bud p.rs.length,if min bud p.rs.length < p.rs.length then insP q ⟨p.L,p.H,p.rs.drop (min bud p.rs.length),(0,0,0),none⟩ (opn M O.dropLast) else opn M O.dropLast⟩:=by unfold look;rw [hk]
     rw [el] at est
     obtain ⟨q1,q2⟩:=look_next hi' hr hm ho est ⟨O',M',vs',vm',vo',vh',h1,h2,by omega,by omega⟩
     exact ⟨rfl,_,q1,q2⟩
    | some lh =>
     obtain ⟨l,h⟩:=lh
     obtain ⟨m',_,o1,o2,_⟩:=okP_node hk okp
     refine (look_node (POP w3 g3) hpb hk (box_ckB (okP_box o1) HQ.out.1).1 (box_ckB (okP_box o2) HQ.out.1).1 dsc' (by omega) (by omega)).mono ?_
     rintro e W' ⟨rfl,O',M',vs',vm',vo',vh',h1,h2,h3,h4⟩
     have el:look T q ⟨seen,bud,opn M O⟩ p (opn M O.dropLast)=⟨seen,bud,insP q (T h) (insP q (T l) (opn M O.dropLast))⟩:=by unfold look;rw [hk]
     rw [el] at est
     obtain ⟨q1,q2⟩:=look_next hi' hr hm ho est ⟨O',M',vs',vm',vo',vh',h1,h2,by omega,by omega⟩
     exact ⟨rfl,_,q1,q2⟩
   have ICUT:Hid (∀ w3,Gb wr w3->(Calls Tryz.prog 67 #[.pointer (some ⟨pb,0,none⟩)] w3 fun e w'=>e=.returned (.bool p.kids.isSome)/\w'=w3)/\w3.cell? ⟨sb,2,none⟩=some (.int .i64 (bud:Int))/\w3.cell? ⟨sb,5,none⟩=some (.slice (some ⟨og,0,none⟩) O.length oc)/\w3.frozen? ⟨sb,5,none⟩=false):=fun w3 g=>⟨iscut_mp ((hS.prt _ hpb).gb g),gb_keeps g c2,gb_keeps g c5,(hS.grow g).cells.2.2.2.2.2.2 5⟩
   obtain ⟨bh,hbh⟩:∃ bh,bh=hi (bnd q p):=⟨_,rfl⟩
   obtain ⟨bl,hbl⟩:∃ bl,bl=lo (bnd q p):=⟨_,rfl⟩
   rw [<- hbh] at m1
   rw [<- hbl] at m2
   rw [<- hbh,<- hbl] at cBe
   have CBE:Hid (∀ W',Gb wr W'->Calls Tryz.prog 66 #[.pointer (some ⟨sb,0,none⟩),.agg #[.pointer (some ⟨pb,0,none⟩),.int .u64 bh,.int .u64 bl]] W' fun e W''=>e=.returned (.bool (beyond q k seen p))/\Gb W' W''):=cBe
   have sbne:∀ (W':World) (u:Value) {i:Nat} {y:Value},W'.cell? ⟨wr.heap.size,i,none⟩=some y->(W'.setCell ⟨sb,5,none⟩ u).cell? ⟨wr.heap.size,i,none⟩=some y:=fun W' u i y hc=>((Tk.Kp.refl (fun b=>b=sb) W').setCell (.inl rfl) u).cell hc (by intro e;have:=(Array.getElem?_eq_some_iff.1 hS.blk).1;dsimp only at e;omega)
   have SBN:Hid (∀ (W':World) (u:Value) {i:Nat} {y:Value},W'.cell? ⟨wr.heap.size,i,none⟩=some y->(W'.setCell ⟨sb,5,none⟩ u).cell? ⟨wr.heap.size,i,none⟩=some y):=sbne
   have SS:Hid ((beyond q k seen p=true->stepS T q k ⟨seen,bud,opn M O⟩=none)/\(beyond q k seen p=false->p.kids=none->bud=0->stepS T q k ⟨seen,bud,opn M O⟩=none)):=⟨(SN _ rfl).1,(SN _ rfl).2.1⟩
   have hlim:(li:Int) < (M.length:Int):=by omega
   clear hx hli hmm hpb
   generalize hno:O.length=no at *
   generalize hnm:M.length=nm at *
   have FS2:(fun W=>W.cell? ⟨sb,4,none⟩=some (.slice (some ⟨mb,0,none⟩) nm mc)/\W.cell? ⟨sb,5,none⟩=some (.slice (some ⟨og,0,none⟩) no oc)/\W.cell? ⟨og,no - 1,none⟩=some (.int .i64 (li:Int))/\W.cell? ⟨mb,li * 3,none⟩=some (.pointer (some ⟨pb,0,none⟩))/\W.cell? ⟨mb,li * 3 + 1,none⟩=some (.int .u64 bh)/\W.cell? ⟨mb,li * 3 + 2,none⟩=some (.int .u64 bl)) wr.drew:=⟨c4,c5,clast,m0,m1,m2⟩
   have K2:Hid ((fun W=>W.cell? ⟨sb,4,none⟩=some (.slice (some ⟨mb,0,none⟩) nm mc)/\W.cell? ⟨sb,5,none⟩=some (.slice (some ⟨og,0,none⟩) no oc)/\W.cell? ⟨og,no - 1,none⟩=some (.int .i64 (li:Int))/\W.cell? ⟨mb,li * 3,none⟩=some (.pointer (some ⟨pb,0,none⟩))/\W.cell? ⟨mb,li * 3 + 1,none⟩=some (.int .u64 bh)/\W.cell? ⟨mb,li * 3 + 2,none⟩=some (.int .u64 bl)) (wr.drew.alloc (.cells #[.pointer (some ⟨pb,0,none⟩),.int .u64 bh,.int .u64 bl] 117))):=⟨gb_keeps (gb_alloc (Below.refl _ _) _) FS2.1,gb_keeps (gb_alloc (Below.refl _ _) _) FS2.2.1,gb_keeps (gb_alloc (Below.refl _ _) _) FS2.2.2.1,gb_keeps (gb_alloc (Below.refl _ _) _) FS2.2.2.2.1,gb_keeps (gb_alloc (Below.refl _ _) _) FS2.2.2.2.2.1,gb_keeps (gb_alloc (Below.refl _ _) _) FS2.2.2.2.2.2⟩
   have G2:Hid (Gb wr (wr.drew.alloc (.cells #[.pointer (some ⟨pb,0,none⟩),.int .u64 bh,.int .u64 bl] 117))):=gb_alloc (Below.refl _ _).drew _
   have cB2:=CBE.out _ G2.out
   have hno1:(0:Int) < (no:Int):=by omega
   have hno2:(no:Int) - 1=((no - 1:Nat):Int):=by omega
   have hno3:((no - 1:Nat):Int) < (no:Int):=by omega
   have hno4:(no:Int)<=10000:=by omega
   have hno5:((no - 1:Nat):Int)<=(oc:Int):=by omega
   have C3:Hid (∀ w3,Gb (wr.drew.alloc (.cells #[.pointer (some ⟨pb,0,none⟩),.int .u64 bh,.int .u64 bl] 117)) w3->w3.cell? ⟨wr.heap.size,0,none⟩=some (.pointer (some ⟨pb,0,none⟩))):=fun w3 g=>gb_keeps g (by simp [go_sem])
   clear hS hi' hr hm ho hrel hpop hgl hdl okp fz dsc' olen wpos SN POP sbne cBe hlii hmc hoc hno hnm f5 hbh hbl hbudle hO hol CBE
   go_wp2_with fail
   refine wp_region_held_drew (S:=fun W=>W.cell? ⟨sb,4,none⟩=some (.slice (some ⟨mb,0,none⟩) nm mc)/\W.cell? ⟨sb,5,none⟩=some (.slice (some ⟨og,0,none⟩) no oc)/\W.cell? ⟨og,no - 1,none⟩=some (.int .i64 (li:Int))/\W.cell? ⟨mb,li * 3,none⟩=some (.pointer (some ⟨pb,0,none⟩))/\W.cell? ⟨mb,li * 3 + 1,none⟩=some (.int .u64 bh)/\W.cell? ⟨mb,li * 3 + 2,none⟩=some (.int .u64 bl)) (by kernel_rfl) (FS2) (fun hHeld=>?_)
   refine tkn 0 ?_ rfl ?_ ?_;rotate_left;·(rintro w ⟨s0,s1,s2,s3,s4,s5⟩;go_simp;try rfl)
   try simp only [Act.put,List.getElem_toArray,List.getElem_cons_zero,List.setIfInBounds_toArray,List.set_cons_zero,List.set_cons_succ]
   refine tkn 1 ?_ rfl ?_ ?_;rotate_left;·(rintro w ⟨s0,s1,s2,s3,s4,s5⟩;go_simp;try rfl)
   try simp only [Act.put,List.getElem_toArray,List.getElem_cons_zero,List.getElem_cons_succ,List.setIfInBounds_toArray,List.set_cons_zero,List.set_cons_succ]
   refine tkn 2 ?_ rfl ?_ ?_;rotate_left;·(rintro w ⟨s0,s1,s2,s3,s4,s5⟩;go_simp;try rfl)
   try simp only [Act.put,List.getElem_toArray,List.getElem_cons_zero,List.getElem_cons_succ,List.setIfInBounds_toArray,List.set_cons_zero,List.set_cons_succ]
   refine tkn 3 ?_ rfl ?_ ?_;rotate_left;·(rintro w ⟨s0,s1,s2,s3,s4,s5⟩;go_simp;try rfl)
   try simp only [Act.put,List.getElem_toArray,List.getElem_cons_zero,List.getElem_cons_succ,List.setIfInBounds_toArray,List.set_cons_zero,List.set_cons_succ]
   refine tkn 4 ?_ rfl ?_ ?_;rotate_left;·(rintro w ⟨s0,s1,s2,s3,s4,s5⟩;go_simp;try rfl)
   try simp only [Act.put,List.getElem_toArray,List.getElem_cons_zero,List.getElem_cons_succ,List.setIfInBounds_toArray,List.set_cons_zero,List.set_cons_succ]
   refine tkn 5 ?_ rfl ?_ ?_;rotate_left;·(rintro w ⟨s0,s1,s2,s3,s4,s5⟩;go_simp;try rfl)
   try simp only [Act.put,List.getElem_toArray,List.getElem_cons_zero,List.getElem_cons_succ,List.setIfInBounds_toArray,List.set_cons_zero,List.set_cons_succ]
   refine tkn 6 ?_ rfl ?_ ?_;rotate_left;·(rintro w ⟨s0,s1,s2,s3,s4,s5⟩;go_simp;try rfl)
   try simp only [Act.put,List.getElem_toArray,List.getElem_cons_zero,List.getElem_cons_succ,List.setIfInBounds_toArray,List.set_cons_zero,List.set_cons_succ]
   refine tkn 7 ?_ rfl ?_ ?_;rotate_left;·(rintro w ⟨s0,s1,s2,s3,s4,s5⟩;go_simp;try rfl)
   try simp only [Act.put,List.getElem_toArray,List.getElem_cons_zero,List.getElem_cons_succ,List.setIfInBounds_toArray,List.set_cons_zero,List.set_cons_succ]
   refine tkn 8 ?_ rfl ?_ ?_;rotate_left;·(rintro w ⟨s0,s1,s2,s3,s4,s5⟩;go_simp;try rfl)
   try simp only [Act.put,List.getElem_toArray,List.getElem_cons_zero,List.getElem_cons_succ,List.setIfInBounds_toArray,List.set_cons_zero,List.set_cons_succ]
   refine tkn 9 ?_ rfl ?_ ?_;rotate_left;·(rintro w ⟨s0,s1,s2,s3,s4,s5⟩;go_simp;try rfl)
   try simp only [Act.put,List.getElem_toArray,List.getElem_cons_zero,List.getElem_cons_succ,List.setIfInBounds_toArray,List.set_cons_zero,List.set_cons_succ]
   refine tkn 10 ?_ rfl ?_ ?_;rotate_left;·(rintro w ⟨s0,s1,s2,s3,s4,s5⟩;go_simp;try rfl)
   try simp only [Act.put,List.getElem_toArray,List.getElem_cons_zero,List.getElem_cons_succ,List.setIfInBounds_toArray,List.set_cons_zero,List.set_cons_succ]
   refine tkn 11 ?_ rfl ?_ ?_;rotate_left;·(rintro w ⟨s0,s1,s2,s3,s4,s5⟩;go_simp;try rfl)
   try simp only [Act.put,List.getElem_toArray,List.getElem_cons_zero,List.getElem_cons_succ,List.setIfInBounds_toArray,List.set_cons_zero,List.set_cons_succ]
   refine tkn 12 ?_ rfl ?_ ?_;rotate_left;·(rintro w ⟨s0,s1,s2,s3,s4,s5⟩;go_simp;try rfl)
   try simp only [Act.put,List.getElem_toArray,List.getElem_cons_zero,List.getElem_cons_succ,List.setIfInBounds_toArray,List.set_cons_zero,List.set_cons_succ]
   refine rdn 13 rfl (fun K hK=>?_)
   go_simp
   refine hK.out _ _ (⟨gb_keeps (gb_alloc (Below.refl _ _) _) hHeld.1,gb_keeps (gb_alloc (Below.refl _ _) _) hHeld.2.1,gb_keeps (gb_alloc (Below.refl _ _) _) hHeld.2.2.1,gb_keeps (gb_alloc (Below.refl _ _) _) hHeld.2.2.2.1,gb_keeps (gb_alloc (Below.refl _ _) _) hHeld.2.2.2.2.1,gb_keeps (gb_alloc (Below.refl _ _) _) hHeld.2.2.2.2.2⟩) (fun hHeld=>?_)
   clear hK K
   try simp only [Act.put,List.getElem_toArray,List.getElem_cons_zero,List.getElem_cons_succ,List.setIfInBounds_toArray,List.set_cons_zero,List.set_cons_succ]
   refine rdn 14 rfl (fun K hK=>?_)
   go_simp
   refine hK.out _ _ (K2.out) (fun hHeld=>?_)
   clear hK K
   try simp only [Act.put,List.getElem_toArray,List.getElem_cons_zero,List.getElem_cons_succ,List.setIfInBounds_toArray,List.set_cons_zero,List.set_cons_succ]
   refine wpAnyH_done (by kernel_rfl) ?_ _
   clear hHeld K2 FS2 m0 m1 m2 clast c4
   go_wp2_with fail
   go_fit cB2
   rintro e w3 ⟨rfl,g3⟩
   have G3:Hid (Gb wr w3):=gb_trans G2.out g3
   have c30:=C3.out _ g3
   obtain ⟨cI,d2,d5,fr5⟩:=ICUT.out _ G3.out
   clear cB2 g3 G2 C3 ICUT c2 c5
   cases hbv:beyond q k seen p with
   | true =>
    have FF:Hid (RunO w0 T N sb hb k vq q R w3):=FIN.out _ G3.out (SS.out.1 hbv)
    clear FIN SS NEXT hbv cI
    go_wp2
    exact bodyPost_ret (v:=.tuple #[]) (by simp [results,Tryz.results37,go_sem]) rfl ⟨rfl,FF.out⟩
   | false =>
    go_wp2_with fail
    go_fit cI
    rintro e w4 ⟨rfl,hw4⟩
    subst hw4
    cases hk:p.kids with
    | none =>
     by_cases hbz0:bud=0
     ·have FF:Hid (RunO w0 T N sb hb k vq q R w4):=FIN.out _ G3.out (SS.out.2 hbv hk hbz0)
      have hbi:((bud:Int) == 0)=true:=by rw [hbz0];rfl
      clear FIN SS NEXT hbv cI hk hbz0
      go_wp2
      exact bodyPost_ret (v:=.tuple #[]) (by simp [results,Tryz.results37,go_sem]) rfl ⟨rfl,FF.out⟩
     ·have cL:=NEXT.out hbv (fun h=>hbz0 h.2) w4 G3.out
      have hbi:((bud:Int) == 0)=false:=by rw [beq_eq_false_iff_ne];omega
      have hbz:¬ (bud:Int)=0:=by omega
      have c40:=SBN.out w4 (.slice (some ⟨og,0,none⟩) (no - 1) oc) c30
      clear FIN SS NEXT hbv cI hk hbz0 SBN
      go_wp2_with fail
      go_fit cL
      rintro e w5 ⟨rfl,hO⟩
      obtain ⟨g',hg',hI⟩:=hO.out
      have HI:Hid _:=hI
      clear cL hO hI c40 c30
      go_wp2
      go_roundg g'
      case measure=>exact hg'
      case rel=>exact HI
    | some lh =>
     have cL:=NEXT.out hbv (fun h=>by rw [hk] at h;cases h.1) w4 G3.out
     have c40:=SBN.out w4 (.slice (some ⟨og,0,none⟩) (no - 1) oc) c30
     clear FIN SS NEXT hbv cI hk SBN
     go_wp2_with fail
     go_fit cL
     rintro e w5 ⟨rfl,hO⟩
     obtain ⟨g',hg',hI⟩:=hO.out
     have HI:Hid _:=hI
     clear cL hO hI c40 c30
     go_wp2
     go_roundg g'
     case measure=>exact hg'
     case rel=>exact HI
end Go.Proofs.YtgbgejflmbhigaaGreat

namespace Go.Proofs.YtgbgejflmbhigaaGreat
open Go.RowKit Go.Sort Go.Maps
set_option maxRecDepth 100000
set_option maxHeartbeats 2000000
structure GI (wB W:World) (fb ib:Nat) (v:Value) (l:List Int):Prop where
 var:W.heap[ib]? = some (.cells #[v] 37 (0,0))
 fn:W.cell? ⟨fb,0,none⟩=some (.func (.func 154) #[] #[.pointer (some ⟨fb,0,none⟩),.pointer (some ⟨ib,0,none⟩)])
 own:Own W wB.heap.size v l
 ibB:wB.heap.size<=ib
 ne:fb ≠ ib
 fbT:Ty W fb 86
 gb:Gb wB W
 len:l.length<=512
def GOut (wB W:World) (fb ib:Nat) (l:List Int) (W':World):Prop:=∃ v',GI wB W' fb ib v' l/\∀ b,Ty W b 108->W'.heap[b]? = W.heap[b]?
theorem GI.keep {wB W W':World} {fb ib:Nat} {v:Value} {l:List Int} (h:GI wB W fb ib v l) (g:Gb W W'):GI wB W' fb ib v l :=
 ⟨by rw [g.block ib (Array.getElem?_eq_some_iff.1 h.var).1];exact h.var,gb_keeps g h.fn,own_kpI h.own (kpF g) (fun _ _ h=>h),h.ibB,h.ne,h.fbT.gb g,gb_trans h.gb g,h.len⟩
theorem GI.next {wB W V W2:World} {fb ib:Nat} {v v':Value} {l:List Int} {x:Int} (h:GI wB W fb ib v l) (gV:Gb W V) (ho:W2.ownsRow wB.heap.size 3 1 v' (l.length + 1) (l.map (Value.int .i64) ++ [.int .i64 x])) (hg:V.grownBy W2 v.ownBlock) (hl:l.length + 1<=512) :
  GI wB (W2.setCell ⟨ib,0,none⟩ v') fb ib v' (l ++ [x])/\(∀ b,Ty W b 108->(W2.setCell ⟨ib,0,none⟩ v').heap[b]? = W.heap[b]?)/\W2.heap[ib]? = some (.cells #[v] 37 (0,0)):=by
 have hV:=h.keep gV
 have kp:Tk.Kp (fun b=>v.ownBlock=some b) V W2:=⟨hg.os,hg.tape,hg.output,hg.size,fun k hk hn=>hg.block k hk (fun e=>hn e.symm)⟩
 have nn:∀ {b:Nat} {t:TypeId},Ty V b t->t ≠ 3->¬ v.ownBlock=some b:=fun ht hne e=>ht.ne (own_ty hV.own e) hne rfl
 have tib:Ty V ib 37:=⟨_,_,hV.var⟩
 have var2:W2.heap[ib]? = some (.cells #[v] 37 (0,0)):=by rw [kp.block ib (Array.getElem?_eq_some_iff.1 hV.var).1 (nn tib (by decide))];exact hV.var
 have k2:Tk.Kp (fun b=>b=ib) W2 (W2.setCell ⟨ib,0,none⟩ v'):=(Tk.Kp.refl (fun b=>b=ib) W2).setCell (.inl rfl) v'
 have s0:=hV.gb.size
 have s1:=kp.size
 refine ⟨⟨by simp [World.setCell,Array.getElem?_modify,var2],k2.cell (kp.cell hV.fn (nn hV.fbT (by decide))) h.ne,?_,h.ibB,h.ne,?_,?_,by rw [List.length_append];exact hl⟩,fun b ht=>?_,var2⟩
 ·have e:(l ++ [x]).map (Value.int .i64)=l.map (Value.int .i64) ++ [.int .i64 x]:=by rw [List.map_append];rfl
  unfold Own
  rw [e,List.length_append]
  exact own_kpR ho k2 (fun g hg'=>(own_ty ho hg').ne ⟨_,_,var2⟩ (by decide))
 ·obtain ⟨c,s,e⟩:=hV.fbT
  exact ⟨c,s,by rw [k2.block fb (by have:=(Array.getElem?_eq_some_iff.1 e).1;omega) h.ne,kp.block fb (Array.getElem?_eq_some_iff.1 e).1 (nn ⟨c,s,e⟩ (by decide))];exact e⟩
 ·exact (hV.gb.trans (kp.gr hV.gb.size (fun b e=>(h.own.lt b e).1))).trans (k2.gr (by omega) (fun b e=>by rw [e];exact h.ibB))
 ·obtain ⟨c,s,e⟩:=ht
  have tV:Ty V b 108:=Ty.gb ⟨c,s,e⟩ gV
  have lt:=(Array.getElem?_eq_some_iff.1 e).1
  rw [k2.block b (by have:=gV.size;omega) (tV.ne tib (by decide)),kp.block b (by have:=gV.size;omega) (nn tV (by decide)),gV.block b lt]
theorem gat_leaf {w0 wB W:World} {T:Nat->Pt} {N fb ib pb:Nat} {v:Value} {l:List Int} {p:Pt} (h:GI wB W fb ib v l) (hp:MP w0 W T N pb p) (hk:p.kids=none) (g0:Gb w0 W) (gB:w0.heap.size<=wB.heap.size) (hl:l.length + p.rs.length<=512) :
  Calls Tryz.prog 154 #[.pointer (some ⟨pb,0,none⟩),.pointer (some ⟨fb,0,none⟩),.pointer (some ⟨ib,0,none⟩)] W fun e W'=>e=.returned (.tuple #[])/\GOut wB W fb ib (l ++ idsOf p.rs) W':=by
 have cI:=iscut_mp hp
 rw [hk] at cI
 obtain ⟨vl,vh0,vr,hblk,_,_,hrs⟩:=hp
 rw [hk] at hrs
 obtain ⟨hrw,g,o,cap,evr,hcap⟩:=hrs
 subst evr
 have c6:=cell_cur (i:=6) hblk rfl
 obtain ⟨_,cap',e0,hA⟩:=hrw
 injection e0 with e01 e02 e03
 subst e01
 have HA:Hid (∀ i,i < p.rs.length->∃ u,w0.cell? ⟨g,o + i * 2,none⟩=some (.int .i64 p.rs[i]!.1)/\w0.cell? ⟨g,o + i * 2 + 1,none⟩=some u/\RdI w0 u p.rs[i]!.2):=fun i hi'=>by
  obtain ⟨b',o',u,ea,k1,k2,k3⟩:=hA i hi'
  injection ea with ea
  injection ea with ea1 ea2
  subst ea1 ea2
  exact ⟨u,k1,k2,k3⟩
 have HG:Hid (Gb w0 W/\w0.heap.size<=wB.heap.size/\l.length + p.rs.length<=512):=⟨g0,gB,hl⟩
 have H0:Hid (GI wB W fb ib v (l ++ idsOf (p.rs.take 0))):=by unfold Hid;rw [List.take_zero];simpa [idsOf] using h
 obtain ⟨n,hN⟩:∃ n,n=p.rs.length:=⟨_,rfl⟩
 have NN:Hid (n=p.rs.length):=hN
 rw [<- hN] at c6
 have hN5:n<=512:=by omega
 clear h hblk hA e02 e03 hcap g0 gB hl hk hN
 go_enter Tryz.func154,Tryz.ntmps154
 go_wp2_with fail
 go_fit cI
 rintro e W ⟨rfl,rfl⟩
 clear cI
 go_wp2
 clear c6
 go_loopw [25] (fun iv Wr=>∃ j:Nat,iv=.int .i64 (j:Int)/\j<=n/\Hid (∃ v',GI wB Wr fb ib v' (l ++ idsOf (p.rs.take j))/\Gb w0 Wr/\∀ b,Ty W b 108->Wr.heap[b]? = W.heap[b]?)) (fun iv _=>n - (intOf iv).toNat)
 case atStart=>exact ⟨0,rfl,Nat.zero_le _,v,H0.out,HG.out.1,fun _ _=>rfl⟩
 case round =>
  clear H0
  obtain ⟨j,rfl,hj,X⟩:=hrel
  by_cases hjn:j < n
  ·have hji:(j:Int) < (n:Int):=by omega
   have hjr:j < p.rs.length:=by have:=NN.out;omega
   obtain ⟨v',hI,gW,hpt⟩:=X.out
   obtain ⟨u,k1,k2,k3⟩:=HA.out j hjr
   have k1:=gb_keeps gW k1
   have k2:=gb_keeps gW k2
   obtain ⟨ra,rc,eu,_⟩:=k3
   subst eu
   have ETK:Hid (idsOf (p.rs.take (j + 1))=idsOf (p.rs.take j) ++ [p.rs[j]!.1]):=by
    unfold Hid idsOf
    rw [List.take_succ_eq_append_getElem hjr,List.map_append,getElem!_pos p.rs j hjr]
    rfl
   have hlen:(l ++ idsOf (p.rs.take j)).length + 1<=512:=by
    have:=HG.out.2.2
    unfold idsOf
    rw [List.length_append,List.length_map,List.length_take]
    omega
   obtain ⟨ia,ic,ei,_⟩:=hI.own.rd
   have cv:=cell_cur (i:=0) hI.var rfl
   have fz:wr.frozen? ⟨ib,0,none⟩=false:=by simp [World.frozen?,hI.var]
   generalize hx:p.rs[j]!.1=x at *
   generalize p.rs[j]!.2.length=rn at *
   have gR:Gb wr (wr.alloc (.cells #[.int .i64 x,.slice ra rn rc] 39)):=gb_alloc (Below.refl _ _) _
   have gV:Gb wr ((wr.alloc (.cells #[.int .i64 x,.slice ra rn rc] 39)).alloc (.cells #[.int .i64 x] 3)):=gb_alloc gR _
   have cv2:=gb_keeps gR cv
   obtain ⟨i0,hi0,hz0,hz1,hz2⟩:=info_insI
   have II:Hid (Tryz.prog.info? 3=some i0/\i0.zero=some (.int .i64 0)/\i0.size=1/\i0.bytes=8):=⟨hi0,hz0,hz1,hz2⟩
   have hown:=(hI.keep gV).own
   unfold Own at hown
   have CX:Hid (∀ j u,[Value.int .i64 x][j]? = some u->((wr.alloc (.cells #[.int .i64 x,.slice ra rn rc] 39)).alloc (.cells #[.int .i64 x] 3)).cell? ((⟨wr.heap.size + 1,0,none⟩:Addr).add j)=some u):=by
    have:=one_new (wr.alloc (.cells #[.int .i64 x,.slice ra rn rc] 39)) (.int .i64 x) 3
    rwa [World.size_alloc] at this
   have BX:Hid (wB.heap.size<=((wr.alloc (.cells #[.int .i64 x,.slice ra rn rc] 39)).alloc (.cells #[.int .i64 x] 3)).heap.size):=by
    unfold Hid
    have:=hI.gb.size
    have:=gV.size
    omega
   have FO:Hid (∀ v2 W2,W2.ownsRow wB.heap.size 3 1 v2 ((l ++ idsOf (p.rs.take j)).length + 1) ((l ++ idsOf (p.rs.take j)).map (Value.int .i64) ++ [.int .i64 x])->((wr.alloc (.cells #[.int .i64 x,.slice ra rn rc] 39)).alloc (.cells #[.int .i64 x] 3)).grownBy W2 v'.ownBlock->(v2=.slice none 0 0 ↔ v'=.slice none 0 0/\1=0)->∃ a2 n2 c2,v2=.slice (some a2) n2 c2/\(∃ y,W2.cell? ⟨ib,0,none⟩=some y)/\W2.frozen? ⟨ib,0,none⟩=false/\Hid (∃ v3,GI wB (W2.setCell ⟨ib,0,none⟩ (.slice (some a2) n2 c2)) fb ib v3 (l ++ idsOf (p.rs.take (j + 1)))/\Gb w0 (W2.setCell ⟨ib,0,none⟩ (.slice (some a2) n2 c2))/\∀ b,Ty W b 108->(W2.setCell ⟨ib,0,none⟩ (.slice (some a2) n2 c2)).heap[b]? = W.heap[b]?)):=by
    intro v2 W2 ho hg hnn
    obtain ⟨a2,n2,c2,e2⟩:∃ a2 n2 c2,v2=.slice (some a2) n2 c2:=by
     rcases ho.2 with ⟨e,_⟩ | ⟨g9,cap9,cur9,e,_⟩
     ·exact absurd (hnn.1 e).2 (by decide)
     ·exact ⟨_,_,_,e⟩
    subst e2
    obtain ⟨h1,h2,h3⟩:=hI.next gV ho hg hlen
    refine ⟨a2,n2,c2,rfl,⟨_,cell_cur h3 rfl⟩,by simp [World.frozen?,h3],_,by rw [ETK.out,<- List.append_assoc];exact h1,?_,fun b ht=>?_⟩
    ·have:=h1.gb
     have s0:=HG.out.2.1
     have gw:=gW.size
     refine gW.trans ?_
     have b1:Below wB.heap.size wr ((wr.alloc (.cells #[.int .i64 x,.slice ra rn rc] 39)).alloc (.cells #[.int .i64 x] 3)):=gV.mono hI.gb.size
     have kp:Tk.Kp (fun b=>v'.ownBlock=some b) ((wr.alloc (.cells #[.int .i64 x,.slice ra rn rc] 39)).alloc (.cells #[.int .i64 x] 3)) W2:=⟨hg.os,hg.tape,hg.output,hg.size,fun k hk hn=>hg.block k hk (fun e=>hn e.symm)⟩
     have k2:Tk.Kp (fun b=>b=ib) W2 (W2.setCell ⟨ib,0,none⟩ (.slice (some a2) n2 c2)):=(Tk.Kp.refl (fun b=>b=ib) W2).setCell (.inl rfl) _
     have sz:=hI.gb.size
     have sv:=gV.size
     have sk:=kp.size
     have b2:=b1.trans (kp.gr (by omega) (fun b e=>(hI.own.lt b e).1))
     have b3:=b2.trans (k2.gr (by omega) (fun b e=>by rw [e];exact hI.ibB))
     exact b3.mono s0
    ·have t2:Ty wr b 108:=by
      obtain ⟨c,s,e⟩:=ht
      exact ⟨c,s,by rw [hpt b ⟨c,s,e⟩];exact e⟩
     rw [h2 b t2,hpt b ht]
   have el:(l ++ idsOf (p.rs.take j)).length=(l ++ idsOf (p.rs.take j)).length:=rfl
   generalize l ++ idsOf (p.rs.take j)=L0 at *
   subst ei
   have HOW:Hid _:=hown
   clear hI gW hpt X hjr ETK hx el gR hown gV
   generalize hnL:L0.length=nL at *
   have hn512:nL<=512:=by omega
   clear hnL hlen
   go_wp2_with (first
    | (at_builtin;refine wpList_append_own_at _ rfl _ _ 37 rfl wB.heap.size 3 i0 (.int .i64 0) 1 8 Tryz.underlying37 II.out.1 II.out.2.1 II.out.2.2.1 II.out.2.2.2 rfl (by decide) (.slice ia nL ic) nL (L0.map (Value.int .i64)) rfl HOW.out ⟨wr.heap.size + 1,0,none⟩ 1 1 [.int .i64 x] rfl rfl CX.out (by intro y hy;rw [List.mem_singleton.1 hy];rfl) (by simp only [maxLen];omega) (by omega) BX.out ?_;intro v5 w5 hown5 hgrow5 hnil5 hloc5;obtain ⟨a2,n2,c2,rfl,⟨y2,k2⟩,f2,FN⟩:=FO.out _ _ hown5 hgrow5 hnil5;clear hown5 hgrow5 hnil5 hloc5)
    | go_in)
   go_roundw
   case rel=>exact ⟨j + 1,by first | rfl | go_num | simp,hjn,FN.out⟩
   case measure=>simp [intOf];omega
  ·have hji:¬ (j:Int) < (n:Int):=by omega
   obtain ⟨v',hI,_,hpt⟩:=X.out
   have FF:Hid (GOut wB W fb ib (l ++ idsOf p.rs) wr):=⟨v',by rw [List.take_of_length_le (by have:=NN.out;omega)] at hI;exact hI,hpt⟩
   clear hI hpt X
   go_wp2
   go_end0
   exact ⟨rfl,FF.out⟩
theorem gat_c {w0 wB:World} {T:Nat->Pt} {fb ib:Nat} (gB:w0.heap.size<=wB.heap.size) (gw0:Gb w0 wB):∀ (N:Nat) (W:World) (pb:Nat) (p:Pt) (v:Value) (l:List Int) (d:Nat),GI wB W fb ib v l->MP w0 W T N pb p->OkP T d N p->l.length + (rowsP T N p).length<=512 ->
  Calls Tryz.prog 154 #[.pointer (some ⟨pb,0,none⟩),.pointer (some ⟨fb,0,none⟩),.pointer (some ⟨ib,0,none⟩)] W fun e W'=>e=.returned (.tuple #[])/\GOut wB W fb ib (l ++ idsOf (rowsP T N p)) W':=by
 intro N
 induction N with
 | zero =>
  intro W pb p v l d h hp ok hl
  have hk:p.kids=none:=by rw [OkP] at ok;exact ok.1
  rw [rowsP_leaf hk] at hl ⊢
  exact gat_leaf h hp hk (gw0.trans (h.gb.mono gB)) gB hl
 | succ N ih =>
  intro W pb p v l d h hp ok hl
  cases hk:p.kids with
  | none =>
   rw [rowsP_leaf hk] at hl ⊢
   exact gat_leaf h hp hk (gw0.trans (h.gb.mono gB)) gB hl
  | some lh =>
   obtain ⟨lo',hi''⟩:=lh
   obtain ⟨m',em,o1,o2,_⟩:=okP_node hk ok
   have em':N=m':=by omega
   subst em'
   rw [rowsP_node hk,List.length_append] at hl
   rw [rowsP_node hk]
   have cI:=iscut_mp hp
   rw [hk] at cI
   obtain ⟨vl,vh0,vr,hblk,_,_,hrs⟩:=hp
   have a:=cell_cur (i:=10) (v:=kidV (p.kids.map Prod.fst)) hblk rfl
   have b:=cell_cur (i:=11) (v:=kidV (p.kids.map Prod.snd)) hblk rfl
   have c6:=cell_cur (i:=6) hblk rfl
   rw [hk] at hrs a b
   obtain ⟨evr,tl,th⟩:=hrs
   subst evr
   dsimp only [Option.map,kidV] at a b
   have tp:Ty W pb 108:=⟨_,_,hblk⟩
   have gW0:Gb w0 W:=gw0.trans (h.gb.mono gB)
   have gWd:=(Below.refl W.heap.size W).drew
   have hl1:(idsOf (rowsP T N (T lo'))).length=(rowsP T N (T lo')).length:=by unfold idsOf;rw [List.length_map]
   have c1:=ih W.drew lo' (T lo') v l d (h.keep gWd) (tl.mp (gb_trans gW0 gWd)) o1 (by omega)
   have FS10:(fun W=>W.cell? ⟨fb,0,none⟩=some (.func (.func 154) #[] #[.pointer (some ⟨fb,0,none⟩),.pointer (some ⟨ib,0,none⟩)])/\W.cell? ⟨pb,10,none⟩=some (.pointer (some ⟨lo',0,none⟩))) W.drew:=⟨h.fn,a⟩
   have N1:Hid (∀ w1,GOut wB W.drew fb ib (l ++ idsOf (rowsP T N (T lo'))) w1->((fun W=>W.cell? ⟨fb,0,none⟩=some (.func (.func 154) #[] #[.pointer (some ⟨fb,0,none⟩),.pointer (some ⟨ib,0,none⟩)])/\W.cell? ⟨pb,10,none⟩=some (.pointer (some ⟨lo',0,none⟩))) w1)/\((fun W=>W.cell? ⟨fb,0,none⟩=some (.func (.func 154) #[] #[.pointer (some ⟨fb,0,none⟩),.pointer (some ⟨ib,0,none⟩)])/\W.cell? ⟨pb,11,none⟩=some (.pointer (some ⟨hi'',0,none⟩))) w1.drew)/\(Calls Tryz.prog 154 #[.pointer (some ⟨hi'',0,none⟩),.pointer (some ⟨fb,0,none⟩),.pointer (some ⟨ib,0,none⟩)] w1.drew fun e W'=>e=.returned (.tuple #[])/\Hid (GOut wB W fb ib (l ++ idsOf (rowsP T N (T lo') ++ rowsP T N (T hi''))) W'/\((fun W=>W.cell? ⟨fb,0,none⟩=some (.func (.func 154) #[] #[.pointer (some ⟨fb,0,none⟩),.pointer (some ⟨ib,0,none⟩)])/\W.cell? ⟨pb,11,none⟩=some (.pointer (some ⟨hi'',0,none⟩))) W')/\W'.cell? ⟨pb,6,none⟩=some (.slice none 0 0)))):=by
    rintro w1 ⟨v1,h1,p1⟩
    have hb1:w1.heap[pb]? = some (.cells (pcells p vl vh0 (.slice none 0 0)) 108 (0,0)):=by rw [p1 pb (tp.gb gWd)];exact hblk
    have a1:=cell_cur (i:=10) (v:=kidV (p.kids.map Prod.fst)) hb1 rfl
    have b1:=cell_cur (i:=11) (v:=kidV (p.kids.map Prod.snd)) hb1 rfl
    rw [hk] at a1 b1
    have gd1:=(Below.refl w1.heap.size w1).drew
    refine ⟨⟨h1.fn,a1⟩,⟨h1.fn,b1⟩,?_⟩
    refine (ih w1.drew hi'' (T hi'') v1 _ d (h1.keep gd1) (th.mp (gb_trans (gw0.trans (h1.gb.mono gB)) gd1)) o2 (by rw [List.length_append,hl1];omega)).mono ?_
    rintro e w2 ⟨rfl,v2,h2,p2⟩
    have hb2:w2.heap[pb]? = some (.cells (pcells p vl vh0 (.slice none 0 0)) 108 (0,0)):=by
     have t1:Ty w1 pb 108:=⟨_,_,hb1⟩
     rw [p2 pb (t1.gb gd1)];exact hb1
    have b2:=cell_cur (i:=11) (v:=kidV (p.kids.map Prod.snd)) hb2 rfl
    rw [hk] at b2
    refine ⟨rfl,⟨v2,?_,fun b ht=>?_⟩,⟨h2.fn,b2⟩,cell_cur hb2 rfl⟩
    ·have e:idsOf (rowsP T N (T lo') ++ rowsP T N (T hi''))=idsOf (rowsP T N (T lo')) ++ idsOf (rowsP T N (T hi'')):=by unfold idsOf;rw [List.map_append]
     rw [e,<- List.append_assoc];exact h2
    ·have t1:Ty w1 b 108:=by
      obtain ⟨c,s,e⟩:=ht
      exact ⟨c,s,by rw [p1 b (Ty.gb ⟨c,s,e⟩ gWd)];exact e⟩
     rw [p2 b (t1.gb gd1)]
     exact p1 b (ht.gb gWd)
   clear ih h hblk tl th o1 o2 hl ok hk hl1 gWd gW0 tp
   go_enter Tryz.func154,Tryz.ntmps154
   go_wp2_with fail
   go_fit cI
   rintro e W ⟨rfl,rfl⟩
   clear cI
   go_wp2_with fail
   refine wp_region_held_drew (S:=fun W=>W.cell? ⟨fb,0,none⟩=some (.func (.func 154) #[] #[.pointer (some ⟨fb,0,none⟩),.pointer (some ⟨ib,0,none⟩)])/\W.cell? ⟨pb,10,none⟩=some (.pointer (some ⟨lo',0,none⟩))) (by kernel_rfl) (FS10) (fun hHeld=>?_)
   refine tkn 0 ?_ rfl ?_ ?_;rotate_left;·(rintro w ⟨s0,s1⟩;go_simp;try rfl)
   try simp only [Act.put,List.getElem_toArray,List.getElem_cons_zero,List.setIfInBounds_toArray,List.set_cons_zero,List.set_cons_succ]
   refine tkn 1 ?_ rfl ?_ ?_;rotate_left;·(rintro w ⟨s0,s1⟩;go_simp;try rfl)
   try simp only [Act.put,List.getElem_toArray,List.getElem_cons_zero,List.getElem_cons_succ,List.setIfInBounds_toArray,List.set_cons_zero,List.set_cons_succ]
   refine tkn 2 ?_ rfl ?_ ?_;rotate_left;·(rintro w ⟨s0,s1⟩;go_simp;try rfl)
   try simp only [Act.put,List.getElem_toArray,List.getElem_cons_zero,List.getElem_cons_succ,List.setIfInBounds_toArray,List.set_cons_zero,List.set_cons_succ]
   refine tkn 3 ?_ rfl ?_ ?_;rotate_left;·(rintro w ⟨s0,s1⟩;go_simp;try rfl)
   try simp only [Act.put,List.getElem_toArray,List.getElem_cons_zero,List.getElem_cons_succ,List.setIfInBounds_toArray,List.set_cons_zero,List.set_cons_succ]
   refine tkn 4 ?_ rfl ?_ ?_;rotate_left;·(rintro w ⟨s0,s1⟩;go_simp;try rfl)
   try simp only [Act.put,List.getElem_toArray,List.getElem_cons_zero,List.getElem_cons_succ,List.setIfInBounds_toArray,List.set_cons_zero,List.set_cons_succ]
   refine rdn 5 rfl (fun K hK=>?_)
   go_simp
   go_fit c1
   rintro e w1 ⟨rfl,hO⟩
   obtain ⟨K10,FS11,c2⟩:=N1.out _ hO
   clear hO c1 N1
   refine hK.out _ _ (K10) (fun hHeld=>?_)
   clear hK K
   try simp only [Act.put,List.getElem_toArray,List.getElem_cons_zero,List.getElem_cons_succ,List.setIfInBounds_toArray,List.set_cons_zero,List.set_cons_succ]
   refine wpAnyH_done (by kernel_rfl) ?_ _
   clear hHeld
   go_wp2_with fail
   refine wp_region_held_drew (S:=fun W=>W.cell? ⟨fb,0,none⟩=some (.func (.func 154) #[] #[.pointer (some ⟨fb,0,none⟩),.pointer (some ⟨ib,0,none⟩)])/\W.cell? ⟨pb,11,none⟩=some (.pointer (some ⟨hi'',0,none⟩))) (by kernel_rfl) (FS11) (fun hHeld=>?_)
   refine tkn 0 ?_ rfl ?_ ?_;rotate_left;·(rintro w ⟨s0,s1⟩;go_simp;try rfl)
   try simp only [Act.put,List.getElem_toArray,List.getElem_cons_zero,List.setIfInBounds_toArray,List.set_cons_zero,List.set_cons_succ]
   refine tkn 1 ?_ rfl ?_ ?_;rotate_left;·(rintro w ⟨s0,s1⟩;go_simp;try rfl)
   try simp only [Act.put,List.getElem_toArray,List.getElem_cons_zero,List.getElem_cons_succ,List.setIfInBounds_toArray,List.set_cons_zero,List.set_cons_succ]
   refine tkn 2 ?_ rfl ?_ ?_;rotate_left;·(rintro w ⟨s0,s1⟩;go_simp;try rfl)
   try simp only [Act.put,List.getElem_toArray,List.getElem_cons_zero,List.getElem_cons_succ,List.setIfInBounds_toArray,List.set_cons_zero,List.set_cons_succ]
   refine tkn 3 ?_ rfl ?_ ?_;rotate_left;·(rintro w ⟨s0,s1⟩;go_simp;try rfl)
   try simp only [Act.put,List.getElem_toArray,List.getElem_cons_zero,List.getElem_cons_succ,List.setIfInBounds_toArray,List.set_cons_zero,List.set_cons_succ]
   refine tkn 4 ?_ rfl ?_ ?_;rotate_left;·(rintro w ⟨s0,s1⟩;go_simp;try rfl)
   try simp only [Act.put,List.getElem_toArray,List.getElem_cons_zero,List.getElem_cons_succ,List.setIfInBounds_toArray,List.set_cons_zero,List.set_cons_succ]
   refine rdn 5 rfl (fun K hK=>?_)
   go_simp
   go_fit c2
   rintro e w2 ⟨rfl,hO⟩
   obtain ⟨FF,K11,c6'⟩:=hO.out
   have F2:Hid _:=FF
   clear hO c2 FF
   refine hK.out _ _ (K11) (fun hHeld=>?_)
   clear hK K
   try simp only [Act.put,List.getElem_toArray,List.getElem_cons_zero,List.getElem_cons_succ,List.setIfInBounds_toArray,List.set_cons_zero,List.set_cons_succ]
   refine wpAnyH_done (by kernel_rfl) ?_ _
   clear hHeld K11 FS11
   go_wp2
   go_loopw [25] (fun iv Wr=>iv=.int .i64 0/\Wr=w2) (fun _ _=>0)
   case atStart=>exact ⟨rfl,rfl⟩
   case round =>
    obtain ⟨rfl,rfl⟩:=hrel
    go_wp2
    go_end0
    exact ⟨rfl,F2.out⟩
theorem ids_c {w0 W:World} {T:Nat->Pt} {N pb d:Nat} {p:Pt} (hp:MP w0 W T N pb p) (ok:OkP T d N p) (g0:Gb w0 W) (hl:(rowsP T N p).length<=512) :
  Calls Tryz.prog 111 #[.pointer (some ⟨pb,0,none⟩)] W fun e W'=>∃ v,e=.returned v/\Own W' W.heap.size v (srt (idsOf (rowsP T N p)))/\Gb W W':=by
 have FB:Hid (GI W ((W.alloc (.cells #[.slice none 0 0] 37)).alloc (.cells #[.func (.func 154) #[] #[.pointer (some ⟨W.heap.size + 1,0,none⟩),.pointer (some ⟨W.heap.size,0,none⟩)]] 86)) (W.heap.size + 1) W.heap.size (.slice none 0 0) []):=by
  have e1:=heap_new (W.alloc (.cells #[.slice none 0 0] 37)) (.cells #[.func (.func 154) #[] #[.pointer (some ⟨W.heap.size + 1,0,none⟩),.pointer (some ⟨W.heap.size,0,none⟩)]] 86)
  rw [World.size_alloc] at e1
  refine ⟨?_,cell_cur e1 rfl,⟨rfl,.inl ⟨rfl,rfl⟩⟩,Nat.le_refl _,by omega,⟨_,_,e1⟩,gb_alloc (gb_alloc (Below.refl _ _) _) _,by simp⟩
  have:=heap_new W (.cells #[.slice none 0 0] 37)
  rw [(gb_alloc (Below.refl _ _) _:Gb (W.alloc (.cells #[.slice none 0 0] 37)) _).block W.heap.size (by rw [World.size_alloc];omega)]
  exact this
 have c1:=gat_c (fb:=W.heap.size + 1) (ib:=W.heap.size) g0.size g0 N _ pb p _ [] d FB.out (hp.gb FB.out.gb) ok (by simpa using hl)
 rw [List.nil_append] at c1
 have N1:Hid (∀ w1,GOut W ((W.alloc (.cells #[.slice none 0 0] 37)).alloc (.cells #[.func (.func 154) #[] #[.pointer (some ⟨W.heap.size + 1,0,none⟩),.pointer (some ⟨W.heap.size,0,none⟩)]] 86)) (W.heap.size + 1) W.heap.size (idsOf (rowsP T N p)) w1->∃ ia ni ic,w1.cell? ⟨W.heap.size,0,none⟩=some (.slice ia ni ic)/\(Calls Tryz.prog 69 #[.slice ia ni ic] w1 fun e w'=>e=.returned (.tuple #[])/\w'.cell? ⟨W.heap.size,0,none⟩=some (.slice ia ni ic)/\Hid (Own w' W.heap.size (.slice ia ni ic) (srt (idsOf (rowsP T N p)))/\Gb W w'))):=by
  rintro w1 ⟨v,h1,_⟩
  obtain ⟨ia,ic,ei,_⟩:=h1.own.rd
  subst ei
  refine ⟨ia,_,ic,cell_cur h1.var rfl,?_⟩
  have ilt:=(Array.getElem?_eq_some_iff.1 h1.var).1
  have own':Own w1 (W.heap.size + 1) (.slice ia (idsOf (rowsP T N p)).length ic) (idsOf (rowsP T N p)):=by
   refine ⟨h1.own.1,?_⟩
   rcases h1.own.2 with h | ⟨g,cap,cur,e,hB,hh,r⟩
   ·exact .inl h
   ·have:g ≠ W.heap.size:=tne hh h1.var (by decide)
    exact .inr ⟨g,cap,cur,e,by omega,hh,r⟩
  refine (sort_c own' (by have:=h1.len;omega) (by omega)).mono ?_
  rintro e w' ⟨rfl,ho,hbl⟩
  refine ⟨rfl,?_,ho.mono (by omega),h1.gb.trans (hbl.mono (by omega))⟩
  have:w'.heap[W.heap.size]? = w1.heap[W.heap.size]? := hbl.block _ (by omega)
  exact cell_cur (by rw [this];exact h1.var) rfl
 clear hp ok g0 hl FB
 go_enter Tryz.func111,Tryz.ntmps111
 go_wp2_with fail
 go_fit c1
 rintro e w1 ⟨rfl,hO⟩
 obtain ⟨ia,ni,ic,cv,cS⟩:=N1.out _ hO
 clear hO c1 N1
 go_wp2_with fail
 go_fit cS
 rintro e w2 ⟨rfl,cv2,hF⟩
 clear cS cv
 go_wp2
 go_ret
 exact ⟨_,rfl,hF.out⟩
end Go.Proofs.YtgbgejflmbhigaaGreat
