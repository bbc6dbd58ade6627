import Derived.Test.YtepjbdklljlecaaGreatVrKqF
namespace Go.Proofs.YtepjbdklljlecaaGreat
open Go.RowKit Go.Sort Go.Maps
theorem isCut_c {Iq:Nat->Prop} {w:World} {b:Nat} {p:Pt} {vl vh vr:Value} (h:PcAt Iq w b p vl vh vr) :
  Calls Tryz.prog 73 #[.pointer (some ⟨b,0,none⟩)] w fun e w'=>e=.returned (.bool p.kids.isSome)/\w'=w:=by
 have c:=cell_cur (i:=10) h.blk rfl
 clear h
 cases hk:p.kids with
 | none =>
  rw [hk] at c
  simp only [Option.map_none,kidV] at c
  go_enter Tryz.func73,Tryz.ntmps73
  go_wp2
  go_ret
  exact ⟨rfl,by first | rfl | trivial⟩
 | some lh =>
  obtain ⟨l,hh⟩:=lh
  rw [hk] at c
  simp only [Option.map_some,kidV] at c
  go_enter Tryz.func73,Tryz.ntmps73
  go_wp2
  go_ret
  exact ⟨rfl,by first | rfl | trivial⟩
end Go.Proofs.YtepjbdklljlecaaGreat

namespace Go.Proofs.YtepjbdklljlecaaGreat
open Go.RowKit Go.Sort
set_option maxHeartbeats 1000000
theorem build_no {w:World} {v:Value} {rs:List Rw} (h:RdW w v rs) (hwf:Wf rs) (d leaf seed:Int) (hz:flatE rs d ≠ 0) :
  Calls Tryz.prog 32 #[v,.int .i64 d,.int .i64 leaf,.int .u64 seed] w fun e w'=>e=.returned (.tuple #[.pointer none,.int .i64 (flatE rs d)])/\Gb w w':=by
 have cK:=fcheck_c h hwf d
 obtain ⟨a,cap0,rfl,_⟩:=h
 generalize rs.length=n0 at cK ⊢
 generalize flatE rs d=z at *
 have hzb:(z == 0)=false:=by rw [beq_eq_false_iff_ne];exact hz
 clear hwf
 go_enter Tryz.func32,Tryz.ntmps32
 go_wp2_with fail
 go_fit cK
 rintro e w1 ⟨rfl,g1⟩
 clear cK
 go_wp2
 exact bodyPost_ret (v:=.tuple #[.pointer none,.int .i64 z]) (by simp [results,Tryz.results32,go_sem]) rfl ⟨rfl,g1⟩
theorem build_leaf {w:World} {v:Value} {rs:List Rw} (h:RdW w v rs) (hwf:Wf rs) (d leaf seed:Int) (hz:flatE rs d=0) (hl:leaf < 1 ∨ 64 < leaf) :
  Calls Tryz.prog 32 #[v,.int .i64 d,.int .i64 leaf,.int .u64 seed] w fun e w'=>e=.returned (.tuple #[.pointer none,.int .i64 1])/\Gb w w':=by
 have cK:=fcheck_c h hwf d
 rw [hz] at cK
 obtain ⟨a,cap0,rfl,_⟩:=h
 generalize rs.length=n0 at cK ⊢
 clear hwf hz
 by_cases h1:leaf < 1
 ·clear hl
  go_enter Tryz.func32,Tryz.ntmps32
  go_wp2_with fail
  go_fit cK
  rintro e w1 ⟨rfl,g1⟩
  clear cK
  go_wp2
  exact bodyPost_ret (v:=.tuple #[.pointer none,.int .i64 1]) (by simp [results,Tryz.results32,go_sem]) rfl ⟨rfl,g1⟩
 ·have h2:64 < leaf:=by omega
  clear hl
  go_enter Tryz.func32,Tryz.ntmps32
  go_wp2_with fail
  go_fit cK
  rintro e w1 ⟨rfl,g1⟩
  clear cK
  go_wp2
  exact bodyPost_ret (v:=.tuple #[.pointer none,.int .i64 1]) (by simp [results,Tryz.results32,go_sem]) rfl ⟨rfl,g1⟩
theorem TreeAt.up {Iq:Nat->Prop} {w:World} {tb m leaf:Nat} {rs:List Rw} {F:List Nat} (h:TreeAt Iq w tb m leaf rs F):Up Iq w:=by
 obtain ⟨g,cap,sb,d,rt,F1,hb,ho,_⟩:=h
 exact ho.up
theorem TreeAt.cells {Iq:Nat->Prop} {w:World} {tb m leaf:Nat} {rs:List Rw} {F:List Nat} (h:TreeAt Iq w tb m leaf rs F):∃ g cap rt,w.cell? ⟨tb,0,none⟩=some (.int .i64 (m:Int))/\w.cell? ⟨tb,1,none⟩=some (.int .i64 (leaf:Int))/\w.cell? ⟨tb,3,none⟩=some (.slice (some ⟨g,0,none⟩) rs.length cap)/\w.cell? ⟨tb,4,none⟩=some rt/\RdW w (.slice (some ⟨g,0,none⟩) rs.length cap) rs:=by
 obtain ⟨g,cap,sb,d,rt,F1,hb,ho,hd,_⟩:=h
 have hl:d.length=rs.length:=by rw [<- hd,List.length_map]
 rw [hl] at hb
 refine ⟨g,cap,rt,cell_cur hb rfl,cell_cur hb rfl,cell_cur hb rfl,cell_cur hb rfl,?_⟩
 have h1:=rwAt_own ho.row
 have h2:=RwRd.rdw (cap:=cap) h1.1.rd (fun x hx=>(ho.vec x hx).rd)
 rw [hd,hl] at h2
 exact h2
theorem len_c {Iq:Nat->Prop} {w:World} {tb m leaf:Nat} {rs:List Rw} {F:List Nat} (h:TreeAt Iq w tb m leaf rs F) :
  Calls Tryz.prog 23 #[.pointer (some ⟨tb,0,none⟩)] w fun e w'=>e=.returned (.int .i64 (rs.length:Nat))/\w'=w:=by
 obtain ⟨g,cap,rt,_,_,c2,_⟩:=h.cells
 clear h
 generalize rs.length=n at *
 go_enter Tryz.func23,Tryz.ntmps23
 go_wp2
 go_ret
 exact ⟨rfl,by first | rfl | trivial⟩
theorem TreeAt.rok {Iq:Nat->Prop} {w:World} {tb m leaf:Nat} {rs:List Rw} {F:List Nat} (h:TreeAt Iq w tb m leaf rs F):RowsOk rs (m:Int)/\1<=m/\m<=64:=by
 obtain ⟨g,cap,sb,d,rt,F1,_,_,_,_,ho,_,_,_,hm,_⟩:=h
 exact ⟨ho,hm⟩
theorem rows_c {Iq:Nat->Prop} {w:World} {tb m leaf:Nat} {rs:List Rw} {F:List Nat} (h:TreeAt Iq w tb m leaf rs F) :
  Calls Tryz.prog 21 #[.pointer (some ⟨tb,0,none⟩)] w fun e w'=>∃ v',e=.returned v'/\OwnC w' w.heap.size v' rs/\Gb w w':=by
 obtain ⟨g,cap,rt,_,_,c2,_,hr⟩:=h.cells
 obtain ⟨hok,hm⟩:=h.rok
 have cC:=copies_c hr (by have:=hok.few;omega) (fun i hi=>by
  have h1:=chk_ok (hok.row rs[i]! (by rw [getElem!_pos rs i hi];exact List.getElem_mem hi)).2
  omega)
 clear h hr hok
 generalize rs.length=n at *
 go_enter Tryz.func21,Tryz.ntmps21
 go_wp2_with fail
 go_fit cC
 rintro e w1 ⟨v',rfl,o1,g1⟩
 have X:Hid (OwnC w1 w.heap.size v' rs/\Gb w w1):=⟨o1,g1⟩
 clear o1 g1
 go_wp2
 go_ret
 exact ⟨_,rfl,X.out⟩
end Go.Proofs.YtepjbdklljlecaaGreat

namespace Go.Proofs.YtepjbdklljlecaaGreat
open Go.RowKit Go.Sort Go.Maps
set_option maxRecDepth 100000
set_option maxHeartbeats 1000000
theorem RwAt.noint {w:World} {g o:Nat} {d:List Rt} (h:RwAt w g o d):NoInt w (fun b=>b=g):=by
 intro k e cur s hc
 subst e
 obtain ⟨c,h1,_⟩:=h
 rw [h1] at hc
 simp at hc
theorem CutIn.rtOk {Iq:Nat->Prop} {w:World} {g o m:Nat} {d d2:List Rt} (h:CutIn Iq w m d) (hr:RwAt w g o d2):∀ x ∈ d,RtOk w g m x:=by
 intro x hx
 refine ⟨(h.vec x hx).rd,h.len hx,fun b o' n c e hb=>?_⟩
 subst hb
 rcases (h.vec x hx).own.2 with ⟨e2,_⟩ | ⟨g',cap',cur,e2,_,hh,_⟩
 ·rw [e2] at e;cases e
 ·rw [e2] at e
  cases e
  exact hr.noint _ rfl _ _ hh
theorem sortId_any {w:World} {g o cap n:Nat} {d:List Rt} (hd:RwAt w g o d) (hlen:d.length<=4000) (hok:∀ x ∈ d,RtOk w g n x) :
  Calls Tryz.prog 56 #[.slice (some ⟨g,o,none⟩) d.length cap,.func (.func 57) #[] #[]] w fun e w'=>e=.returned (.tuple #[])/\∃ d',d'.Perm d/\(d'.Pairwise fun x y=>¬ Tk.ci y.1 x.1 < 0)/\RwAt w' g o d'/\Srt w w' g o d.length:=by
 by_cases hne:d=[]
 ·subst hne
  refine (sort_none _ _ _ w).mono ?_
  rintro e w' ⟨rfl,rfl⟩
  exact ⟨rfl,[],List.Perm.refl _,List.Pairwise.nil,hd,Tk.Kp.refl _ _,fun cur hc=>⟨cur,hc,rfl,fun _ _=>rfl⟩⟩
 ·exact sortId_c hd hne hlen hok
theorem own_cap {w:World} {B g n n' cap:Nat} {xs:List Value} (h:w.ownsRow B 43 2 (.slice (some ⟨g,0,none⟩) n cap) n' xs):n'<=cap:=by
 rcases h.2 with ⟨e,_⟩ | ⟨g',cap',cur,e,_,_,hle,_⟩
 ·cases e
 ·cases e;exact hle
def TreeOut (Iq:Nat->Prop) (w:World) (m leaf:Nat) (rs:List Rw) (e:Ending) (w':World):Prop:=∃ tb rs' F,e=.returned (.tuple #[.pointer (some ⟨tb,0,none⟩),.int .i64 0])/\TreeAt Iq w' tb m leaf rs' F/\rs'.Perm rs/\Gb w w'/\∀ x ∈ F,w.heap.size<=x
theorem tree_out {Iq:Nat->Prop} {w w5 w6:World} {m leaf g cap sb tb:Nat} {rs:List Rw} {d:List Rt} {rt:Value} (hm:1<=m/\m<=64) (hl:1<=leaf/\leaf<=64) (hp:(d.map rwR).Perm rs) (hr:(d.map rwR).Pairwise fun x y=>x.1 < y.1) (ho:RowsOk (d.map rwR) (m:Int)) (g5:Gb w w5)
  (own:OwnRs Iq w5 (.slice (some ⟨g,0,none⟩) d.length cap) d) (hS:SrcAt w5 sb) (b1:w.heap.size<=sb) (b2:sb < g) (b3:g < tb) (b4:tb < w5.heap.size)
  (hb:w5.heap[tb]? = some (.cells #[.int .i64 (m:Int),.int .i64 (leaf:Int),.pointer (some ⟨sb,0,none⟩),.slice (some ⟨g,0,none⟩) d.length cap,.pointer none] 84 (0,0)))
  (hP:CutOut Iq w5 sb m d (.returned rt) w6) :
  TreeOut Iq w m leaf rs (.returned (.tuple #[.pointer (some ⟨tb,0,none⟩),.int .i64 0])) (w6.setCell ⟨tb,4,none⟩ rt):=by
 have K:Tk.Kp (fun b=>b=sb) w5 w6/\SrcAt w6 sb:=by
  by_cases hd:d=[]
  ·have h:=(hP.1 hd).2
   exact ⟨Tk.Kp.of_gr h,hS.gb h⟩
  ·exact ⟨(hP.2 hd).2.2,(hP.2 hd).2.1⟩
 have z:=K.1.size
 have z5:=g5.size
 have hb6:w6.heap[tb]? = some (.cells #[.int .i64 (m:Int),.int .i64 (leaf:Int),.pointer (some ⟨sb,0,none⟩),.slice (some ⟨g,0,none⟩) d.length cap,.pointer none] 84 (0,0)):=by
  rw [K.1.block tb b4 (by omega)];exact hb
 have kk:Tk.Kp (fun b=>b=tb) w6 (w6.setCell ⟨tb,4,none⟩ rt):=kp_put 4 _
 have n6:NoInt w6 fun b=>b=tb:=by
  rintro x rfl cur s e
  rw [hb6] at e
  simp at e
 have own6:=(own.kp K.1 hS.noint (fun g' e h=>by have h1:g=g':=Option.some.inj e;have h2:g'=sb:=h;omega)).kp kk n6 (fun g' e h=>by have h1:g=g':=Option.some.inj e;have h2:g'=tb:=h;omega)
 have S6:SrcAt (w6.setCell ⟨tb,4,none⟩ rt) sb:=by
  obtain ⟨y,hy,h⟩:=K.2
  exact ⟨y,hy,(kk.block sb h.lt (by omega)).trans h⟩
 have G6:Gb w (w6.setCell ⟨tb,4,none⟩ rt):=⟨kk.os.trans (K.1.os.trans g5.os),kk.tape.trans (K.1.tape.trans g5.tape),kk.output.trans (K.1.output.trans g5.output),by have:=kk.size;omega,fun i hi=>(kk.block i (by omega) (by omega)).trans ((K.1.block i (by omega) (by omega)).trans (g5.block i hi))⟩
 have hb7:(w6.setCell ⟨tb,4,none⟩ rt).heap[tb]? = some (.cells #[.int .i64 (m:Int),.int .i64 (leaf:Int),.pointer (some ⟨sb,0,none⟩),.slice (some ⟨g,0,none⟩) d.length cap,rt] 84 (0,0)):=by rw [put_cell hb6];rfl
 by_cases hd:d=[]
 ·have e:=(hP.1 hd).1
  injection e with e
  refine ⟨tb,d.map rwR,[tb,g,sb],rfl,⟨g,cap,sb,d,rt,[],hb7,own6,rfl,hr,ho,.inl ⟨hd,e,rfl⟩,rfl,?_,hm,hl,S6⟩,hp,G6,?_⟩
  ·simp;omega
  ·intro x hx
   simp at hx
   rcases hx with rfl | rfl | rfl <;> omega
 ·obtain ⟨⟨b,T,F,e,t1,nd,lF⟩,_,_⟩:=hP.2 hd
  injection e with e
  refine ⟨tb,d.map rwR,tb :: g :: sb :: F,rfl,⟨g,cap,sb,d,rt,F,hb7,own6,rfl,hr,ho,.inr ⟨b,T,e,hd,fun N hN=>?_⟩,rfl,?_,hm,hl,S6⟩,hp,G6,?_⟩
  ·obtain ⟨a,b⟩:=t1 N hN
   exact ⟨TrO.kp kk n6 _ _ _ a (fun y hy h=>by have h1:=lF y hy;have h2:y=tb:=h;omega),b⟩
  ·rw [List.nodup_cons,List.nodup_cons,List.nodup_cons]
   refine ⟨fun h=>?_,fun h=>?_,fun h=>?_,nd⟩
   ·simp only [List.mem_cons] at h
    rcases h with h | h | h
    ·omega
    ·omega
    ·have:=lF _ h;omega
   ·simp only [List.mem_cons] at h
    rcases h with h | h
    ·omega
    ·have:=lF _ h;omega
   ·have:=lF _ h;omega
  ·intro x hx
   simp only [List.mem_cons] at hx
   rcases hx with rfl | rfl | rfl | hx
   ·omega
   ·omega
   ·omega
   ·have:=lF x hx;omega
theorem build_ok {Iq:Nat->Prop} {w:World} {v:Value} {rs:List Rw} (up:Up Iq w) (h:RdW w v rs) (hwf:Wf rs) {m leaf:Nat} {seed:Int} (us:Rn.U seed) (hz:flatE rs (m:Int)=0) (hl:1<=leaf/\leaf<=64) :
  Calls Tryz.prog 32 #[v,.int .i64 (m:Int),.int .i64 (leaf:Int),.int .u64 seed] w fun e w'=>TreeOut Iq w m leaf rs e w':=by
 obtain ⟨hm0,hok⟩:=flatE_zero.1 hz
 have hm:1<=m/\m<=64:=by omega
 have cK:=fcheck_c h hwf (m:Int)
 rw [hz] at cK
 have cP:=fun W (g:Gb w W)=>copies_c (h.gb g) (by have:=hok.few;omega) (fun i hi=>by
  have h1:=chk_ok (hok.row rs[i]! (by rw [getElem!_pos rs i hi];exact List.getElem_mem hi)).2
  omega)
 have HO:Hid (RowsOk rs (m:Int)):=hok
 obtain ⟨a,cap0,rfl,_⟩:=h
 generalize rs.length=n0 at cK cP ⊢
 have hl1:¬ (leaf:Int) < 1:=by omega
 have hl2:¬ (64:Int) < (leaf:Int):=by omega
 clear hwf hz hm0 hok
 go_enter Tryz.func32,Tryz.ntmps32
 go_wp2_with fail
 go_fit cK
 rintro e w1 ⟨rfl,g1⟩
 clear cK
 go_wp2_with fail
 go_fit (Rn.new_c seed w1)
 rintro e w2 ⟨rfl,hw2⟩
 have g2:Gb w w2:=by rw [hw2];exact gb_alloc g1 _
 have S2:SrcAt w2 w1.heap.size:=⟨seed,us,by rw [hw2];exact heap_new _ _⟩
 have z2:w2.heap.size=w1.heap.size + 1:=by rw [hw2,World.size_alloc]
 have z1:=g1.size
 have cP1:=cP w2 g2
 clear cP hw2
 go_wp2_with fail
 go_fit cP1
 rintro e w3 ⟨v2,rfl,o2,g3⟩
 obtain ⟨g,cap,e2⟩:=o2.form
 obtain ⟨d,hd,hown,hvec⟩:=o2.rt
 subst e2
 have hdl:d.length=rs.length:=by rw [<- hd,List.length_map]
 rw [<- hdl]
 rw [<- hdl] at hown
 obtain ⟨r3,hB,hlt⟩:=rwAt_own hown
 have G3:Gb w w3:=gb_trans g2 g3
 have ga:Gb w3 (w3.alloc (.cells #[.int .i64 (m:Int),.int .i64 (leaf:Int),.pointer (some ⟨w1.heap.size,0,none⟩),.slice (some ⟨g,0,none⟩) d.length cap,.pointer none] 84)):=gb_alloc (Below.refl _ _) _
 have CI:CutIn Iq w3 m d:=⟨fun x hx=>OwnQ.new (hvec x hx) up g2.size,by rw [hd];exact HO.out,up.gb G3⟩
 have h512:d.length<=512:=by rw [hdl];exact HO.out.few
 have CI4:=CI.kp (Tk.Kp.of_gr (S:=fun b=>b=g) ga) r3.noint
 have cS:=sortId_any (cap:=cap) (n:=m) (r3.gbv ga) (by omega) (CI4.rtOk (r3.gbv ga))
 have hcp:d.length<=cap:=own_cap hown
 have own0:w3.ownsRow 0 43 2 (.slice (some ⟨g,0,none⟩) d.length cap) d.length (d.flatMap encR):=by
  refine ⟨hown.1,?_⟩
  rcases hown.2 with h | ⟨a,b,c,e,_,r⟩
  ·exact .inl h
  ·exact .inr ⟨a,b,c,e,Nat.zero_le _,r⟩
 have HX:Hid (RwAt w3 g 0 d/\CutIn Iq w3 m d/\Gb w w3/\w2.heap.size<=g/\g < w3.heap.size/\w.heap.size<=w1.heap.size/\d.map rwR=rs/\d.length<=512/\w3.ownsRow 0 43 2 (.slice (some ⟨g,0,none⟩) d.length cap) d.length (d.flatMap encR)/\SrcAt w3 w1.heap.size/\w2.heap.size=w1.heap.size + 1/\d.length<=cap):=⟨r3,CI,G3,hB,hlt,z1,hd,h512,own0,S2.gb g3,z2,hcp⟩
 obtain ⟨n,hN⟩:∃ n,n=d.length:=⟨_,rfl⟩
 have N:Hid (n=d.length):=hN
 simp only [<- hN] at cS ga
 rw [<- hN]
 have GA:Hid (Gb w3 (w3.alloc (.cells #[.int .i64 (m:Int),.int .i64 (leaf:Int),.pointer (some ⟨w1.heap.size,0,none⟩),.slice (some ⟨g,0,none⟩) n cap,.pointer none] 84))):=ga
 clear cP1 o2 g2 g3 hown hvec hdl r3 hB hlt z1 z2 CI CI4 G3 h512 hN hd S2 hcp own0 ga g1
 go_wp2_with fail
 go_fit cS
 rintro e w5 ⟨rfl,d',pm,hs,r5,s5⟩
 have hs:d'.Pairwise fun x y=>¬ Tk.ci y.1 x.1 < 0:=by first | exact hs | exact hs.imp (fun h=>Int.not_lt.2 h)
 have hl':d'.length=n:=by rw [pm.length_eq];exact N.out.symm
 obtain ⟨y1,y2,y3,y4,y5,y6,y7,y8,y9,y10,y11,y12⟩:=HX.out
 have r4:=y1.gbv GA.out
 have CI5:CutIn Iq w5 m d':=((y2.kp (Tk.Kp.of_gr (S:=fun b=>b=g) GA.out) y1.noint).kp s5.kp r4.noint).perm pm
 have B5:w5.heap[w3.heap.size]? = some (.cells #[.int .i64 (m:Int),.int .i64 (leaf:Int),.pointer (some ⟨w1.heap.size,0,none⟩),.slice (some ⟨g,0,none⟩) n cap,.pointer none] 84):=(s5.kp.block _ (by rw [World.size_alloc];omega) (by omega)).trans (heap_new _ _)
 have c51:w5.cell? ⟨w3.heap.size,1,none⟩=some (.int .i64 (leaf:Int)):=cell_cur B5 rfl
 have c52:w5.cell? ⟨w3.heap.size,2,none⟩=some (.pointer (some ⟨w1.heap.size,0,none⟩)):=cell_cur B5 rfl
 have c53:w5.cell? ⟨w3.heap.size,3,none⟩=some (.slice (some ⟨g,0,none⟩) n cap):=cell_cur B5 rfl
 have S5:SrcAt w5 w1.heap.size:=by
  obtain ⟨y,hy,h⟩:=y10.gb GA.out
  exact ⟨y,hy,(s5.kp.block _ h.lt (by omega)).trans h⟩
 have cQ:=partsOf_c (leaf:=leaf) (cap:=cap) hm ⟨hl.1,by omega⟩ d' r5 CI5 (by have:=N.out;omega) c51 c52 S5
 rw [hl'] at cQ
 have s35:Srt w3 w5 g 0 d.length:=by
  have:=N.out
  refine ⟨(Tk.Kp.of_gr GA.out).trans s5.kp,fun cur hc=>?_⟩
  have:=s5.blk cur (by rw [GA.out.block g y5];exact hc)
  rwa [N.out] at this
 have own5:=own_sorted y9 r5 s35 (pm.length_eq)
 have G5:Gb w w5:=y3.trans (s35.kp.gr (by have:=y3.size;exact this) (fun k e=>by omega))
 have z5:=s5.kp.size
 rw [World.size_alloc] at z5
 have FINB:Hid (∀ w6 rt,CutOut Iq w5 w1.heap.size m d' (.returned rt) w6->TreeOut Iq w m leaf rs (.returned (.tuple #[.pointer (some ⟨w3.heap.size,0,none⟩),.int .i64 0])) (w6.setCell ⟨w3.heap.size,4,none⟩ rt)):=by
  intro w6 rt hP
  exact tree_out hm hl (by rw [<- y7];exact pm.map _) (rise_ids hs CI5.ok.ids) CI5.ok G5 ⟨own5,CI5.vec,CI5.up⟩ S5 y6 (by omega) y5 (by omega) (by rw [hl'];exact B5) hP
 have BK:Hid (∀ w6 rt,CutOut Iq w5 w1.heap.size m d' (.returned rt) w6->w6.heap[w3.heap.size]? = some (.cells #[.int .i64 (m:Int),.int .i64 (leaf:Int),.pointer (some ⟨w1.heap.size,0,none⟩),.slice (some ⟨g,0,none⟩) n cap,.pointer none] 84)):=by
  intro w6 rt hP
  by_cases h0:d'=[]
  ·rw [(hP.1 h0).2.block _ (by omega)];exact B5
  ·rw [(hP.2 h0).2.2.block _ (by omega) (by omega)];exact B5
 clear cS pm hs r5 s5 hl' y1 y2 y3 y4 y5 y6 y7 y8 y9 y10 y11 y12 CI5 G5 own5 HX s35 z5 r4 S5 B5 GA c51 c52
 go_wp2_with fail
 go_fit cQ
 rintro e w6 hP
 obtain ⟨pv,rfl,_⟩:=hP.of (Below.refl _ _)
 have FB:=FINB.out _ _ hP
 have B6:=BK.out _ _ hP
 have f4:w6.frozen? ⟨w3.heap.size,4,none⟩=false:=by simp [World.frozen?,B6]
 have c4:w6.cell? ⟨w3.heap.size,4,none⟩=some (.pointer none):=by simp [World.cell?,B6]
 clear FINB BK hP cQ B6 c53
 go_wp2
 exact bodyPost_ret (v:=.tuple #[.pointer (some ⟨w3.heap.size,0,none⟩),.int .i64 0]) (by simp [results,Tryz.results32,go_sem]) rfl FB
end Go.Proofs.YtepjbdklljlecaaGreat

namespace Go.Proofs.YtepjbdklljlecaaGreat
open Go.RowKit Go.Sort Go.Maps
end Go.Proofs.YtepjbdklljlecaaGreat

namespace Go.Proofs.YtepjbdklljlecaaGreat
open Go.RowKit Go.Sort
set_option maxRecDepth 100000
set_option maxHeartbeats 1000000
theorem rem11_c (x id:Int) (u:Value) (hu:u.oneCell'=true) {w:World} {cb:Nat} (hc:w.cell? ⟨cb,0,none⟩=some (.int .i64 id)) :
  Calls Tryz.prog 118 #[.agg #[.int .i64 x,u],.pointer (some ⟨cb,0,none⟩)] w fun e w'=>e=.returned (.bool (x == id))/\Tk.Gw w w':=by
 have hcu:u.cells=#[u]:=by first | exact Value.cells_of_oneCell' hu | (cases u <;> simp_all [Value.oneCell',Value.cells])
 have hc2:=Tk.gr_keeps ((Tk.Gw.refl w).alloc (.cells #[.int .i64 x,u] 43)).gr hc
 go_enter Tryz.func118,Tryz.ntmps118
 go_wp2
 go_ret
 exact ⟨rfl,(Tk.Gw.refl _).alloc _⟩
def IxOut (d:List Rt) (id:Int) (w:World) (e:Ending) (w':World):Prop :=
 Tk.Gw w w'/\((e=.returned (.int .i64 (-1))/\∀ t (h:t < d.length),d[t].1 ≠ id) ∨ ∃ i,∃ h:i < d.length,e=.returned (.int .i64 (i:Nat))/\d[i].1=id/\∀ t (h:t < d.length),t < i->d[t].1 ≠ id)
theorem idx_c {w:World} {g o cap cb:Nat} {d:List Rt} (hd:RwRd w g o d) (hone:∀ x ∈ d,x.2.1.oneCell'=true) (hn:d.length<=4000) (id:Int) (hc:w.cell? ⟨cb,0,none⟩=some (.int .i64 id)) :
  Calls Tryz.prog 166 #[.slice (some ⟨g,o,none⟩) d.length cap,.func (.func 118) #[] #[.pointer (some ⟨cb,0,none⟩)]] w fun e w'=>IxOut d id w e w':=by
 have HD:Hid (RwRd w g o d/\(∀ x ∈ d,x.2.1.oneCell'=true)/\w.cell? ⟨cb,0,none⟩=some (.int .i64 id)):=⟨hd,hone,hc⟩
 obtain ⟨n,hN⟩:∃ n,n=d.length:=⟨_,rfl⟩
 have N:Hid (n=d.length):=hN
 rw [<- hN] at hn ⊢
 clear hd hone hc hN
 go_enter Tryz.func166,Tryz.ntmps166
 go_wp2
 go_loopw [8] (fun iv W=>∃ q:Nat,iv=.int .i64 (q:Int)/\q<=n/\Hid ((∀ t (h:t < d.length),t < q->d[t].1 ≠ id)/\Tk.Gw w W)) (fun iv _=>n - (intOf iv).toNat)
 case atStart=>exact ⟨0,rfl,Nat.zero_le _,fun t _ h=>absurd h (Nat.not_lt_zero _),Tk.Gw.refl _⟩
 case round =>
  obtain ⟨q,rfl,hq,X⟩:=hrel
  by_cases hqn:q < n
  ·have hqi:(q:Int) < (n:Int):=by omega
   have hm:q < d.length:=by have:=N.out;omega
   obtain ⟨k1,k2⟩:=HD.out.1 q hm
   have ho:=HD.out.2.1 _ (List.getElem_mem hm)
   obtain ⟨x,hx⟩:∃ x,x=d[q]:=⟨_,rfl⟩
   rw [<- hx] at k1 k2 ho
   have XH:Hid (d[q]? = some x):=by unfold Hid;rw [List.getElem?_eq_getElem hm,hx]
   obtain ⟨xi,u,xl⟩:=x
   dsimp only at k1 k2 ho
   have k1:=Tk.gr_keeps X.out.2.gr k1
   have k2:=Tk.gr_keeps X.out.2.gr k2
   have hcu:u.cells=#[u]:=by first | exact Value.cells_of_oneCell' ho | (cases u <;> simp_all [Value.oneCell',Value.cells])
   have cF:=rem11_c xi id u ho (Tk.gr_keeps X.out.2.gr HD.out.2.2)
   clear hx hm
   by_cases hxi:xi=id
   ·have hb:(xi == id)=true:=by rw [beq_iff_eq];exact hxi
    rw [hb] at cF
    have FO:Hid (∀ W,Tk.Gw wr W->IxOut d id w (.returned (.int .i64 (q:Int))) W):=fun W hg=>by
     have hm:q < d.length:=by have:=N.out;omega
     have hx:=XH.out
     rw [List.getElem?_eq_getElem hm] at hx
     injection hx with hx
     exact ⟨X.out.2.trans hg,.inr ⟨q,hm,rfl,by rw [hx];exact hxi,X.out.1⟩⟩
    clear hxi hb X XH
    go_wp2_with fail
    go_fit cF
    rintro e w' ⟨rfl,hg⟩
    have FF:=FO.out _ hg
    clear cF k1 k2 hg FO
    go_wp2
    go_ret
    exact FF
   ·have hb:(xi == id)=false:=by rw [beq_eq_false_iff_ne];exact hxi
    rw [hb] at cF
    have FO:Hid (∀ W,Tk.Gw wr W->(∀ t (h:t < d.length),t < q + 1->d[t].1 ≠ id)/\Tk.Gw w W):=fun W hg=>by
     have hm:q < d.length:=by have:=N.out;omega
     have hx:=XH.out
     rw [List.getElem?_eq_getElem hm] at hx
     injection hx with hx
     refine ⟨fun t ht h2=>?_,X.out.2.trans hg⟩
     by_cases e:t=q
     ·subst e;rw [hx];exact hxi
     ·exact X.out.1 t ht (by omega)
    clear hxi hb X XH
    go_wp2_with fail
    go_fit cF
    rintro e w' ⟨rfl,hg⟩
    have FF:Hid _:=FO.out _ hg
    clear cF k1 k2 hg FO
    go_wp2
    go_roundw
    case rel=>exact ⟨q + 1,by first | rfl | go_num,hqn,FF.out⟩
    case measure=>simp [intOf];omega
  ·have hqi:¬ (q:Int) < (n:Int):=by omega
   have FO:Hid (IxOut d id w (.returned (.int .i64 (-1))) wr):=⟨X.out.2,.inl ⟨rfl,fun t ht=>X.out.1 t ht (by have:=N.out;omega)⟩⟩
   clear X
   go_wp2
   go_ret
   exact FO.out
end Go.Proofs.YtepjbdklljlecaaGreat
