import Derived.Test.YtcipdampcmfmaaaGreatIa22
import Derived.Test.YtcipdampcmfmaaaGreatIa28
import Derived.Test.YtcipdampcmfmaaaGreatIa6
namespace Go.Proofs.YtcipdampcmfmaaaGreat
open Go.RowKit Go.Sort Go.Maps
theorem pick_lt {α:Type} {p:Nat->α->Prop} (a0:α) {n:Nat} (h:∀ i,i < n->∃ a,p i a):∃ f:Nat->α,∀ i,i < n->p i (f i):=by
 classical
 refine ⟨fun i=>if hi:i < n then (h i hi).choose else a0,fun i hi=>?_⟩
 simp only [dif_pos hi]
 exact (h i hi).choose_spec
theorem OwnC.rt {W:World} {B:Nat} {v:Value} {rs:List Rw} (h:OwnC W B v rs):∃ d:List Rt,d.map rwR=rs/\W.ownsRow B 43 2 v d.length (d.flatMap encR)/\∀ x ∈ d,Own W B x.2.1 x.2.2:=by
 obtain ⟨_,xs,h1,h2⟩:=h
 have hl:=h1.1
 have hc:∀ i,i < rs.length->∃ u,xs[i * 2]? = some (.int .i64 rs[i]!.1)/\xs[i * 2 + 1]? = some u/\Own W B u rs[i]!.2:=fun i hi=>by
  obtain ⟨a,u,b,c⟩:=h2 i hi
  exact ⟨u,a,b,c⟩
 obtain ⟨U,hU⟩:=pick_lt (p:=fun i u=>xs[i * 2]? = some (.int .i64 rs[i]!.1)/\xs[i * 2 + 1]? = some u/\Own W B u rs[i]!.2) (.slice none 0 0) hc
 have hdl:((List.range rs.length).map fun i=>((rs[i]!.1,U i,rs[i]!.2):Rt)).length=rs.length:=by simp
 refine ⟨(List.range rs.length).map fun i=>(rs[i]!.1,U i,rs[i]!.2),?_,?_,?_⟩
 ·apply List.ext_getElem (by simp)
  intro i h1 h2
  simp [h2]
 ·rw [hdl]
  have e:((List.range rs.length).map fun i=>((rs[i]!.1,U i,rs[i]!.2):Rt)).flatMap encR=xs:=by
   apply List.ext_getElem?
   intro t
   rw [flR_get]
   by_cases ht:t / 2 < rs.length
   ·rw [dif_pos (by rw [hdl];exact ht)]
    obtain ⟨a,b,_⟩:=hU (t / 2) ht
    simp only [List.getElem_map,List.getElem_range,encR]
    rcases Nat.mod_two_eq_zero_or_one t with h0 | h0
    ·rw [h0,show t=t / 2 * 2 by omega,a];simp
    ·rw [h0]
     have e2:t=t / 2 * 2 + 1:=by omega
     rw [show xs[t]? = xs[t / 2 * 2 + 1]? from by rw [<- e2],b];rfl
   ·rw [dif_neg (by rw [hdl];exact ht),List.getElem?_eq_none (by omega)]
  rw [e];exact h1
 ·intro x hx
  obtain ⟨i,hi,rfl⟩:=List.mem_map.1 hx
  exact (hU i (List.mem_range.1 hi)).2.2
theorem own_sorted {w w':World} {B g cap:Nat} {d d':List Rt} (h:w.ownsRow B 43 2 (.slice (some ⟨g,0,none⟩) d.length cap) d.length (d.flatMap encR)) (hr:RwAt w' g 0 d') (hs:Srt w w' g 0 d.length) (hl:d'.length=d.length) :
  w'.ownsRow B 43 2 (.slice (some ⟨g,0,none⟩) d'.length cap) d'.length (d'.flatMap encR):=by
 refine ⟨flR_len d',?_⟩
 rcases h.2 with ⟨e,_⟩ | ⟨g',cap',cur,e,hB,hh,hle,hmx,hsz,_⟩
 ·cases e
 ·cases e
  obtain ⟨c2,e2,s2,_⟩:=hs.blk cur hh
  obtain ⟨c3,e3,_,f3⟩:=hr
  rw [e2] at e3
  injection e3 with e3
  injection e3 with e3 _ _
  subst e3
  refine .inr ⟨g,cap,c2,rfl,hB,e2,by omega,hmx,by omega,?_⟩
  apply List.ext_getElem?
  intro t
  rw [flR_get]
  by_cases ht:t / 2 < d'.length
  ·rw [dif_pos ht,List.getElem?_take_of_lt (by omega),Array.getElem?_toList]
   obtain ⟨a,b⟩:=f3 (t / 2) ht
   rw [Nat.zero_add] at a b
   rcases Nat.mod_two_eq_zero_or_one t with h0 | h0
   ·rw [h0]
    rw [show c2[t]? = c2[t / 2 * 2]? from by rw [show t / 2 * 2=t by omega],a];rfl
   ·rw [h0]
    rw [show c2[t]? = c2[t / 2 * 2 + 1]? from by rw [show t / 2 * 2 + 1=t by omega],b];rfl
  ·rw [dif_neg ht,List.getElem?_eq_none (by rw [List.length_take];omega)]
theorem rise_ids {d:List Rt} (h:d.Pairwise fun x y=>¬ Tk.ci y.1 x.1 < 0) (hid:(idsOf (d.map rwR)).Pairwise (· ≠ ·)):(d.map rwR).Pairwise fun x y=>x.1 < y.1:=by
 unfold idsOf at hid
 rw [List.pairwise_map] at hid ⊢
 rw [List.pairwise_map] at hid
 refine (h.and hid).imp ?_
 intro a b hab
 have h1:=(ci_neg _ _).1 hab.1
 have h2:=hab.2
 simp only [] at h2 ⊢
 omega
theorem RwAt.noint {w:World} {g o:Nat} {d:List Rt} (h:RwAt w g o d):NoInt w (fun b=>b=g):=by
 intro k e cur s hc
 subst e
 obtain ⟨c,h1,_⟩:=h
 rw [h1] at hc
 simp at hc
theorem sortId_any {w:World} {g o cap n:Nat} {d:List Rt} (hd:RwAt w g o d) (hlen:d.length<=4000) (hok:∀ x ∈ d,RtOk w g n x) :
  Calls Tryz.prog 53 #[.slice (some ⟨g,o,none⟩) d.length cap,.func (.func 54) #[] #[]] w fun e w'=>e=.returned (.tuple #[])/\∃ d',d'.Perm d/\(d'.Pairwise fun x y=>¬ Tk.ci y.1 x.1 < 0)/\RwAt w' g o d'/\Srt w w' g o d.length:=by
 by_cases hne:d=[]
 ·subst hne
  refine (sort_none _ _ _ w).mono ?_
  rintro e w' ⟨rfl,rfl⟩
  exact ⟨rfl,[],List.Perm.refl _,List.Pairwise.nil,hd,Tk.Kp.refl _ _,fun cur hc=>⟨cur,hc,rfl,fun _ _=>rfl⟩⟩
 ·exact sortId_c hd hne hlen hok
theorem ris_eq:∀ {a b:List Rw},Ris a->Ris b->a.Perm b->a=b
 | [],b,_,_,p=>(p.symm.eq_nil).symm
 | x :: r,[],_,_,p=>absurd p.eq_nil (by simp)
 | x :: r,y :: s,ha,hb,p=>by
  have h1:=List.pairwise_cons.1 ha
  have h2:=List.pairwise_cons.1 hb
  have e:x=y:=by
   rcases List.mem_cons.1 (p.mem_iff.1 List.mem_cons_self) with e | hx
   ·exact e
   ·rcases List.mem_cons.1 (p.mem_iff.2 (List.mem_cons_self (a:=y) (l:=s))) with e | hy
    ·exact e.symm
    ·have:=h1.1 y hy
     have:=h2.1 x hx
     omega
  subst e
  rw [ris_eq h1.2 h2.2 (List.Perm.cons_inv p)]
theorem OwnC.of_rt {W:World} {B g cap:Nat} {d:List Rt} (h:W.ownsRow B 43 2 (.slice (some ⟨g,0,none⟩) d.length cap) d.length (d.flatMap encR)) (hv:∀ x ∈ d,Own W B x.2.1 x.2.2):OwnC W B (.slice (some ⟨g,0,none⟩) d.length cap) (d.map rwR):=by
 refine ⟨by simp,d.flatMap encR,by rw [List.length_map];exact h,fun i hi=>?_⟩
 rw [List.length_map] at hi
 rw [getElem!_pos (d.map rwR) i (by rw [List.length_map];exact hi),List.getElem_map]
 refine ⟨?_,d[i].2.1,?_,hv _ (List.getElem_mem hi)⟩
 ·rw [flR_get,dif_pos (by omega)]
  simp [show i * 2 / 2=i by omega]
 ·rw [flR_get,dif_pos (by omega)]
  simp [show (i * 2 + 1) / 2=i by omega,show (i * 2 + 1) % 2=1 by omega]
theorem OwnC.mono {W:World} {B B':Nat} {v:Value} {rs:List Rw} (h:OwnC W B v rs) (hB:B'<=B):OwnC W B' v rs:=by
 obtain ⟨h0,xs,h1,h2⟩:=h
 refine ⟨h0,xs,⟨h1.1,?_⟩,fun i hi=>?_⟩
 ·rcases h1.2 with h | ⟨a,b,c,e,hb,r⟩
  ·exact .inl h
  ·exact .inr ⟨a,b,c,e,Nat.le_trans hB hb,r⟩
 ·obtain ⟨a,u,b,c⟩:=h2 i hi
  exact ⟨a,u,b,c.mono hB⟩
theorem sorted_c {w:World} {B m:Nat} {v:Value} {rs:List Rw} (o:OwnC w B v rs) (hok:RowsOk rs (m:Int)) :
  Calls Tryz.prog 53 #[v,.func (.func 54) #[] #[]] w fun e w'=>e=.returned (.tuple #[])/\∃ rs',rs'.Perm rs/\Ris rs'/\OwnC w' B v rs'/\Tk.Kp (fun b=>v.ownBlock=some b) w w':=by
 obtain ⟨g,cap,ev⟩:=o.form
 obtain ⟨d,hd,hown,hvec⟩:=o.rt
 have hdl:d.length=rs.length:=by rw [<- hd,List.length_map]
 rw [<- hdl] at ev
 subst ev
 obtain ⟨r3,hB,hlt⟩:=rwAt_own hown
 have h512:=hok.few
 have hrt:∀ x ∈ d,RtOk w g m x:=fun x hx=>by
  have hl:x.2.2.length=m:=by
   have:=chk_ok (hok.row (rwR x) (by rw [<- hd];exact List.mem_map.2 ⟨x,hx,rfl⟩)).2
   have e:(rwR x).2=x.2.2:=rfl
   rw [e] at this
   omega
  refine ⟨(hvec x hx).rd,hl,fun b o' n c e hb=>?_⟩
  subst hb
  rcases (hvec x hx).2 with ⟨e2,_⟩ | ⟨g',cap',cur,e2,_,hh,_⟩
  ·rw [e2] at e;cases e
  ·rw [e2] at e
   cases e
   exact r3.noint _ rfl _ _ hh
 refine (sortId_any (cap:=cap) (n:=m) r3 (by omega) hrt).mono ?_
 rintro e w' ⟨rfl,d',pm,hs,r5,s5⟩
 have hs:d'.Pairwise fun x y=>¬ Tk.ci y.1 x.1 < 0:=by first | exact hs | exact hs.imp (fun h=>Int.not_lt.2 h)
 have hl':d'.length=d.length:=pm.length_eq
 have k5:Tk.Kp (fun b=>(Value.slice (some ⟨g,0,none⟩) d.length cap).ownBlock=some b) w w':=s5.kp.mono (fun k _ e=>by rw [e];rfl)
 have hpm:(d'.map rwR).Perm rs:=by rw [<- hd];exact pm.map _
 refine ⟨rfl,d'.map rwR,hpm,rise_ids hs (RowsOk.perm hok hpm.symm).ids,?_,k5⟩
 have:=own_sorted hown r5 s5 hl'
 rw [<- hl']
 refine OwnC.of_rt this (fun x hx=>own_noint (hvec x (pm.mem_iff.1 hx)) s5.kp r3.noint)
end Go.Proofs.YtcipdampcmfmaaaGreat

namespace Go.Proofs.YtcipdampcmfmaaaGreat
open Go.RowKit Go.Sort Go.Maps
set_option maxRecDepth 100000
set_option maxHeartbeats 2000000
def cenOf (rs:List Rw) (m A B:Nat) (S:Int):Vs:=if rs=[] then [List.replicate m 0] else trainV (rs.map Prod.snd) (min A rs.length) B S
theorem cen_nil (m A B:Nat) (S:Int):cenOf [] m A B S=[List.replicate m 0]:=if_pos rfl
theorem vec_get {rs:List Rw} {i:Nat} (hi:i < rs.length):(rs.map Prod.snd)[i]! = rs[i]!.2:=by
 rw [getElem!_pos (rs.map Prod.snd) i (by rw [List.length_map];exact hi),getElem!_pos rs i hi,List.getElem_map]
theorem cen_train {rs:List Rw} {m A B:Nat} (h:RowsOk rs (m:Int)) (hA:1<=A/\A<=64) (hB:B<=20) (hne:rs ≠ []):trainE (rs.map Prod.snd) ((min A rs.length:Nat):Int) (B:Int)=0/\(rs.map Prod.snd)[0]!.length=m:=by
 have h0:=List.length_pos_iff.2 hne
 have hc:∀ i,i < rs.length->chk rs[i]!.2 (m:Int)=0:=fun i hi=>(h.row rs[i]! (by rw [getElem!_pos rs i hi];exact List.getElem_mem hi)).2
 have h1:=chk_ok (hc 0 h0)
 rw [vec_get h0]
 have hl:rs[0]!.2.length=m:=by omega
 refine ⟨trainE_zero.2 ⟨by omega,by rw [List.length_map];exact h.few,by rw [List.length_map];omega,fun i hi=>?_⟩,hl⟩
 rw [List.length_map] at hi
 rw [vec_get hi,vec_get h0,hl]
 exact hc i hi
theorem cen_ok {rs:List Rw} {m A B:Nat} {S:Int} (hm:1<=m/\m<=64) (h:RowsOk rs (m:Int)) (hA:1<=A/\A<=64) (hB:B<=20):VsOk (cenOf rs m A B S) (m:Int)/\1<=(cenOf rs m A B S).length/\(cenOf rs m A B S).length<=64:=by
 by_cases hne:rs=[]
 ·subst hne
  rw [cen_nil]
  refine ⟨fun i hi=>?_,by simp,by simp⟩
  have:i=0:=by simp at hi;omega
  subst this
  show chk (List.replicate m 0) (m:Int)=0
  unfold chk
  rw [if_pos ⟨by omega,by omega,by simp⟩]
  have:allR (List.replicate m 0)=true:=by
   unfold allR
   rw [List.all_eq_true]
   intro x hx
   rw [List.eq_of_mem_replicate hx]
   rfl
  unfold vErr;rw [this];rfl
 ·obtain ⟨h1,h2⟩:=cen_train (B:=B) h hA hB hne
  have h0:=List.length_pos_iff.2 hne
  unfold cenOf
  rw [if_neg hne]
  obtain ⟨_,t2,t3⟩:=train_ok h1 S B
  rw [h2] at t2
  rw [Int.toNat_natCast] at t2 t3
  exact ⟨t2,by unfold trainV;omega,by unfold trainV;omega⟩
theorem info_V:∃ i0,Tryz.prog.info? 41=some i0/\i0.zero=some (.slice none 0 0)/\i0.size=1/\i0.bytes=24:=by
 obtain ⟨i,hi,hzz⟩:=Option.map_eq_some_iff.1 Tryz.infoV
 simp only [Prod.mk.injEq] at hzz
 exact ⟨i,hi,hzz.1,hzz.2.1,hzz.2.2⟩
def OwnU (W:World) (B:Nat) (v:Value) (us:List Value):Prop:=v ≠ .slice none 0 0/\W.ownsRow B 41 1 v us.length us
theorem OwnU.form {W:World} {B:Nat} {v:Value} {us:List Value} (h:OwnU W B v us):∃ g cap,v=.slice (some ⟨g,0,none⟩) us.length cap:=by
 rcases h.2.2 with ⟨e,_⟩ | ⟨g,cap,cur,e,_⟩
 ·exact absurd e h.1
 ·exact ⟨g,cap,e⟩
theorem OwnU.next {w W:World} {pv:Option Addr} {nv cv:Nat} {us:List Value} {u:Value} (h:OwnU W w.heap.size (.slice pv nv cv) us) (hu:u.oneCell'=true) (hn:us.length<=4000) (g:Gb w W) (c:Nat) (_hc:∀ t,W.cell? ⟨c,0,none⟩=some t->t=u) (hc2:W.cell? ⟨c,0,none⟩=some u) :
  ∃ g' c' W',(Builtin.append_ #[65,65] 65 #[.slice pv nv cv,.slice (some ⟨c,0,none⟩) 1 1]).run Tryz.prog W=.ok (.slice (some ⟨g',0,none⟩) (us.length + 1) c') W'/\OwnU W' w.heap.size (.slice (some ⟨g',0,none⟩) (us.length + 1) c') (us ++ [u])/\Gb w W':=by
 obtain ⟨i0,hi,hz0,hz1,hz2⟩:=info_V
 obtain ⟨v',W',hr,hown,hgrow,hnn,_⟩:=run_append_own_at (P:=Tryz.prog) W w.heap.size 65 65 41 i0 (.slice none 0 0) 1 24 Tryz.underlying65 hi hz0 hz1 hz2 rfl (by decide)
  (.slice pv nv cv) us.length us h.2 ⟨c,0,none⟩ 1 1 [u] rfl (fun j x hj=>by
   rcases j with _ | j
   ·simp at hj;subst hj;rw [Addr.add_lit];exact hc2
   ·simp at hj) (by simpa using hu) (by simp only [maxLen];omega) (by omega) g.size
 have hown':=hown
 rcases hown.2 with ⟨e,_⟩ | ⟨g',c',cur,e,_⟩
 ·exact absurd (hnn.1 e).1 h.1
 ·subst e
  refine ⟨g',c',W',hr,⟨by simp,by rw [List.length_append];exact hown'⟩,?_⟩
  refine below_grown g hgrow (fun k e=>?_) g.size
  exact (h.2.lt k e).1
theorem OwnU.rdv {w W:World} {B:Nat} {v:Value} {us:List Value} {vs:Vs} (h:OwnU W B v us) (g:Gb w W) (hl:us.length=vs.length) (hr:∀ i (hi:i < us.length),RdI w us[i] vs[i]!):RdV W v vs:=by
 obtain ⟨gb,cap,e⟩:=h.form
 subst e
 refine ⟨_,cap,by rw [hl],fun i hi=>?_⟩
 refine ⟨gb,0,us[i],rfl,?_,(hr i (by omega)).gb g⟩
 have:=h.2.cells (g:=gb) rfl i us[i] (List.getElem?_eq_getElem (by omega))
 rw [Addr.add_lit] at this
 exact this
theorem cen_cenq {Iq:Nat->Prop} {B:Nat} {W w:World} {cb:Nat} {gs cp:Nat->Nat} {k d:Nat} {cs:Vs} (up:Up Iq w) (hB:w.heap.size<=B) (h:Cen B W cb gs cp k d (cenF cs)) (hk:cs.length=k) (hd:∀ i,i < k->cs[i]!.length=d):CenQ Iq W cb cs:=by
 obtain ⟨cur,e,hc⟩:∃ cur:Array Value,W.heap[cb]? = some (.cells cur 41 (0,0))/\k<=cur.size/\∀ i,i < k->cur[i]? = some (.slice (some ⟨gs i,0,none⟩) d (cp i)):=by
  obtain ⟨cur,h1,h2,h3⟩:=h.row
  exact ⟨cur,h1,by omega,h3⟩
 refine ⟨cur,e,by omega,fun i hi=>⟨_,hc.2 i (by omega),gs i,cp i,by rw [hd i (by omega)],up _ (Nat.le_trans hB (h.base i (by omega))),?_⟩⟩
 have:=h.arr i (by omega)
 rw [hd i (by omega)]
 exact this
def CenOut (Iq:Nat->Prop) (w:World) (C:Vs) (e:Ending) (w':World):Prop:=∃ gc cc,e=.returned (.slice (some ⟨gc,0,none⟩) C.length cc)/\CenQ Iq w' gc C/\Gb w w'/\w.heap.size<=gc
theorem centresOf_no {Iq:Nat->Prop} {w:World} {a:Option Addr} {cap m:Nat} {A B S:Int} (up:Up Iq w) (hm:1<=m/\m<=64):Calls Tryz.prog 64 #[.slice a 0 cap,.int .i64 (m:Int),.int .i64 A,.int .i64 B,.int .u64 S] w fun e w'=>CenOut Iq w [List.replicate m 0] e w':=by
 have hmk:=run_make_row' (P:=Tryz.prog) 41 3 (.int .i64 0) 8 Tryz.underlying41 Tryz.infoI rfl .i64 .i64 m (by omega) (by omega) w
 have X:Hid (CenOut Iq w [List.replicate m 0] (.returned (.slice (some ⟨w.heap.size + 1,0,none⟩) 1 1)) ((w.alloc (.cells (madeCells #[Value.int .i64 0] m) 3)).alloc (.cells #[.slice (some ⟨w.heap.size,0,none⟩) m m] 41))):=by
  have g1:Gb w (w.alloc (.cells (madeCells #[Value.int .i64 0] m) 3)):=gb_alloc (Below.refl _ _) _
  have e1:((w.alloc (.cells (madeCells #[Value.int .i64 0] m) 3)).alloc (.cells #[.slice (some ⟨w.heap.size,0,none⟩) m m] 41)).heap[w.heap.size + 1]? = some (.cells #[.slice (some ⟨w.heap.size,0,none⟩) m m] 41 (0,0)):=by
   have:=Array.getElem?_push_size (xs:=(w.alloc (.cells (madeCells #[Value.int .i64 0] m) 3)).heap) (x:=.cells #[.slice (some ⟨w.heap.size,0,none⟩) m m] 41 (0,0))
   have e:(w.alloc (.cells (madeCells #[Value.int .i64 0] m) 3)).heap.size=w.heap.size + 1:=by rw [World.size_alloc]
   rw [e] at this
   exact this
  obtain ⟨c,hc1,hc2,hc3⟩:=World.rowIs_made w (.int .i64 0) m 3
  refine ⟨w.heap.size + 1,1,by simp,⟨_,e1,by simp,fun i hi=>?_⟩,gb_alloc g1 _,by omega⟩
  have:i=0:=by simp at hi;omega
  subst this
  refine ⟨_,rfl,w.heap.size,m,by simp,up _ (Nat.le_refl _),c,?_,by omega,by simp,fun t ht=>?_⟩
  ·have hl:w.heap.size < (w.alloc (.cells (madeCells #[Value.int .i64 0] m) 3)).heap.size:=by rw [World.size_alloc];omega
   exact ((gb_alloc (Below.refl _ _) _:Gb (w.alloc (.cells (madeCells #[Value.int .i64 0] m) 3)) _).block _ hl).trans hc1
  ·have ht':t < m:=by simpa using ht
   rw [hc3 t ht']
   simp [ht']
 clear up hm
 go_enter Tryz.func64,Tryz.ntmps64
 go_wp2
 go_ret
 exact X.out
theorem centresOf_yes {Iq:Nat->Prop} {w:World} {v:Value} {rs:List Rw} {m A B:Nat} {S:Int} (up:Up Iq w) (h:RdW w v rs) (hok:RowsOk rs (m:Int)) (hA:1<=A/\A<=64) (hB:B<=20) (us:Rn.U S) (hne:rs ≠ []):Calls Tryz.prog 64 #[v,.int .i64 (m:Int),.int .i64 (A:Int),.int .i64 (B:Int),.int .u64 S] w fun e w'=>CenOut Iq w (cenOf rs m A B S) e w':=by
 have h0:=List.length_pos_iff.2 hne
 have hfew:=hok.few
 obtain ⟨hT,hL⟩:=cen_train (B:=B) hok hA hB hne
 have hcen:cenOf rs m A B S=trainV (rs.map Prod.snd) (min A rs.length) B S:=if_neg hne
 obtain ⟨a,cap,rfl,hv⟩:=h
 obtain ⟨U,hU⟩:=pick_lt (p:=fun i u=>∃ b o,a=some ⟨b,o,none⟩/\w.cell? ⟨b,o + i * 2,none⟩=some (.int .i64 rs[i]!.1)/\w.cell? ⟨b,o + i * 2 + 1,none⟩=some u/\RdI w u rs[i]!.2) (.slice none 0 0) (fun i hi=>by
  obtain ⟨b,o,u,e,c1,c2,c3⟩:=hv i hi
  exact ⟨u,b,o,e,c1,c2,c3⟩)
 obtain ⟨b,o,ea,_⟩:=hU 0 h0
 obtain ⟨L,eL⟩:∃ L,L=(List.range rs.length).map U:=⟨_,rfl⟩
 have hLl:L.length=rs.length:=by rw [eL];simp
 have hLg:∀ i (hi:i < L.length),L[i]=U i:=fun i hi=>by subst eL;simp
 subst ea
 obtain ⟨i0,hi,hz0,hz1,hz2⟩:=info_V
 obtain ⟨w1,hmk,ho,hg⟩:=run_make_own (P:=Tryz.prog) w w.heap.size 65 41 i0 (.slice none 0 0) 1 Tryz.underlying65 hi hz0 hz1 .i64 .i64 rs.length (by rw [hz2];omega) (by simp only [maxLen];omega) (Nat.le_refl _)
 have O:Hid (OwnU w1 w.heap.size (.slice (some ⟨w.heap.size,0,none⟩) 0 rs.length) (L.take 0)/\Gb w w1):=⟨⟨by simp,ho⟩,below_grown (Below.refl _ _) hg (fun k e=>by cases e) (Nat.le_refl _)⟩
 have RD:Hid (∀ i,i < rs.length->∃ (x:Int) (au:Option Addr) (nu cu:Nat),U i=.slice au nu cu/\w.cell? ⟨b,o + i * 2,none⟩=some (.int .i64 x)/\w.cell? ⟨b,o + i * 2 + 1,none⟩=some (.slice au nu cu)):=fun i hi=>by
  obtain ⟨b',o',e,c1,c2,c3⟩:=hU i hi
  injection e with e
  injection e with e1 e2 _
  subst e1 e2
  obtain ⟨au,cu,eu,_⟩:=c3
  exact ⟨_,au,_,cu,eu,c1,by rw [<- eu];exact c2⟩
 have FT:Hid (∀ W ov,OwnU W w.heap.size ov (L.take rs.length)->Gb w W->Calls Tryz.prog 98 #[ov,.int .i64 ((min A rs.length:Nat):Int),.int .i64 (B:Int),.int .u64 S] W fun e w'=>∃ gc cc,e=.returned (.tuple #[.slice (some ⟨gc,0,none⟩) (cenOf rs m A B S).length cc,.int .i64 0])/\CenQ Iq w' gc (cenOf rs m A B S)/\Gb w w'/\w.heap.size<=gc):=fun W ov oW gW=>by
  rw [List.take_of_length_le (by omega)] at oW
  have rv:RdV W ov (rs.map Prod.snd):=oW.rdv gW (by rw [hLl,List.length_map]) (fun i hi=>by
   rw [hLg i hi,vec_get (by omega)]
   obtain ⟨_,_,_,_,_,c3⟩:=hU i (by omega)
   exact c3)
  refine (train_ok_c rv S us hT).mono ?_
  rintro e w' ⟨v',rfl,⟨cb,gs,cp,rfl,hc⟩,g'⟩
  obtain ⟨tw,t2,t3⟩:=train_ok hT S B
  rw [Int.toNat_natCast,Int.toNat_natCast] at hc
  rw [Int.toNat_natCast] at t3 tw t2
  have hcl:(cenOf rs m A B S).length=min A rs.length:=by rw [hcen];exact t3
  refine ⟨cb,min A rs.length,by rw [hcl,Int.toNat_natCast],?_,gb_trans gW g',Nat.le_trans gW.size hc.hB⟩
  rw [hcen]
  refine cen_cenq up gW.size hc t3 (fun i hi=>?_)
  rw [<- t3] at hi
  exact (tw i hi).1
 have hAi:(1:Int)<=(A:Int):=by omega
 obtain ⟨n,hN⟩:∃ n,n=rs.length:=⟨_,rfl⟩
 have N:Hid (n=rs.length/\L.length=n/\n<=512):=⟨hN,by omega,by omega⟩
 have hmin:(if (A:Int)<=(n:Int) then (A:Int) else (n:Int))=((min A n:Nat):Int):=by
  by_cases e:A<=n
  ·rw [if_pos (by omega),Nat.min_eq_left e]
  ·rw [if_neg (by omega),Nat.min_eq_right (by omega)]
 have hmin2:min (A:Int) (n:Int)=((min A n:Nat):Int):=by omega
 rw [<- hN] at hmk O RD FT ⊢
 have LG:Hid (∀ i (hi:i < L.length),L[i]=U i):=hLg
 have hn0:((n:Int) == 0)=false:=by rw [beq_eq_false_iff_ne];omega
 clear hN hv hU hLl hLg eL hi hz0 hz1 hz2 ho hg hcen hT hL up hok hA hB us hne h0 hfew
 go_enter Tryz.func64,Tryz.ntmps64
 go_wp2
 clear hmk
 go_loopw [11,27] (fun ov iv W=>∃ q:Nat,iv=.int .i64 (q:Int)/\q<=n/\Hid (OwnU W w.heap.size ov (L.take q)/\Gb w W)) (fun _ iv _=>n - (intOf iv).toNat)
 case atStart=>exact ⟨0,rfl,Nat.zero_le _,O.out⟩
 case round =>
  clear O
  obtain ⟨q,rfl,hq,X⟩:=hrel
  by_cases hqn:q < n
  ·have hqi:(q:Int) < (n:Int):=by omega
   obtain ⟨x,au,nu,cu,eu,k1,k2⟩:=RD.out q hqn
   have x0:=gb_keeps X.out.2 k1
   have x1:=gb_keeps X.out.2 k2
   obtain ⟨gv,cv,ev⟩:=X.out.1.form
   have htl:(L.take q).length=q:=by have:=N.out;rw [List.length_take];omega
   rw [htl] at ev
   have AP:Hid (∃ g' c' W',(Builtin.append_ #[65,65] 65 #[.slice (some ⟨gv,0,none⟩) q cv,.slice (some ⟨wr.heap.size + 1,0,none⟩) 1 1]).run Tryz.prog ((wr.alloc (.cells #[.int .i64 x,.slice au nu cu] 43)).alloc (.cells #[.slice au nu cu] 41))=.ok (.slice (some ⟨g',0,none⟩) (q + 1) c') W'/\Hid (OwnU W' w.heap.size (.slice (some ⟨g',0,none⟩) (q + 1) c') (L.take (q + 1))/\Gb w W')):=by
    have gA:Gb wr ((wr.alloc (.cells #[.int .i64 x,.slice au nu cu] 43)).alloc (.cells #[.slice au nu cu] 41)):=gb_alloc (gb_alloc (Below.refl _ _) _) _
    have oA:OwnU ((wr.alloc (.cells #[.int .i64 x,.slice au nu cu] 43)).alloc (.cells #[.slice au nu cu] 41)) w.heap.size (.slice (some ⟨gv,0,none⟩) q cv) (L.take q):=by
     rw [<- ev]
     exact ⟨X.out.1.1,X.out.1.2.kept (row:=none) ⟨gA.os,gA.tape,gA.output,gA.size,fun k hk _=>gA.block k hk⟩ (by cases u11.ownBlock <;> simp)⟩
    have hcell:((wr.alloc (.cells #[.int .i64 x,.slice au nu cu] 43)).alloc (.cells #[.slice au nu cu] 41)).cell? ⟨wr.heap.size + 1,0,none⟩=some (.slice au nu cu):=by simp [go_sem]
    obtain ⟨g',c',W',r1,r2,r3⟩:=OwnU.next (u:=.slice au nu cu) oA rfl (by have:=N.out;omega) (gb_trans X.out.2 gA) (wr.heap.size + 1) (fun t ht=>by rw [hcell] at ht;injection ht with ht;exact ht.symm) hcell
    rw [htl] at r1 r2
    refine ⟨g',c',W',r1,?_,r3⟩
    have hqL:q < L.length:=by have:=N.out;omega
    rw [List.take_succ_eq_append_getElem hqL,LG.out q hqL,eu]
    exact r2
   obtain ⟨g',c',W',happ,XX⟩:=AP.out
   have X2:Hid _:=XX
   have hq5:q < 512:=by have:=N.out;omega
   subst ev
   clear X k1 k2 AP XX htl eu
   go_wp2_with (at_builtin;refine Lib.wpList_append_run _ rfl _ _ _ _ rfl _ _ rfl rfl _ _ happ ?_)
   clear happ
   go_roundw
   case rel=>exact ⟨q + 1,by simp,by omega,X2.out⟩
   case measure=>simp [intOf];try omega
  ·have hqe:q=n:=by omega
   subst hqe
   have hqi:¬ (q:Int) < (q:Int):=by omega
   obtain ⟨gv,cv,ev⟩:=X.out.1.form
   have htl:(L.take q).length=q:=by have:=N.out;rw [List.length_take];omega
   rw [htl] at ev
   have cT:=FT.out wr _ X.out.1 X.out.2
   subst ev
   clear X htl
   go_wp2_with fail
   go_fit cT
   rintro e w2 ⟨gc,cc,rfl,hC⟩
   have CC:Hid _:=hC
   clear hC cT
   go_wp2
   go_ret
   exact ⟨gc,cc,rfl,CC.out⟩
theorem centresOf_c {Iq:Nat->Prop} {w:World} {v:Value} {rs:List Rw} {m A B:Nat} {S:Int} (up:Up Iq w) (h:RdW w v rs) (hm:1<=m/\m<=64) (hok:RowsOk rs (m:Int)) (hA:1<=A/\A<=64) (hB:B<=20) (us:Rn.U S):Calls Tryz.prog 64 #[v,.int .i64 (m:Int),.int .i64 (A:Int),.int .i64 (B:Int),.int .u64 S] w fun e w'=>CenOut Iq w (cenOf rs m A B S) e w':=by
 by_cases hne:rs=[]
 ·subst hne
  rw [cen_nil]
  obtain ⟨a,cap,rfl,_⟩:=h
  exact centresOf_no up hm
 ·exact centresOf_yes up h hok hA hB us hne
end Go.Proofs.YtcipdampcmfmaaaGreat

namespace Go.Proofs.YtcipdampcmfmaaaGreat
open Go.RowKit Go.Sort
set_option maxRecDepth 100000
set_option maxHeartbeats 1000000
abbrev tRw:TypeId->Prop:=fun t=>t=3 ∨ t=43
theorem spoilrows_c {w:World} {B T g n cap:Nat} {rcur:Array Value} (top:T<=w.heap.size) (hn:n<=4611686018427387904) (hB:B<=g) (hT:g < T) (hb:w.heap[g]? = some (.cells rcur 43 (0,0)))
  (hr:∀ i,i < n->∃ (x:Int) (u:Value),rcur[i * 2]? = some (.int .i64 x)/\rcur[i * 2 + 1]? = some u/\WI w B T u) :
  Calls Tryz.prog 41 #[.slice (some ⟨g,0,none⟩) n cap] w fun e w'=>e=.returned (.tuple #[])/\Mid B T w w':=by
 have TOP:Hid (T<=w.heap.size):=top
 have HR:Hid (∀ i,i < n->∃ (x:Int) (u:Value),rcur[i * 2]? = some (.int .i64 x)/\rcur[i * 2 + 1]? = some u/\WI w B T u):=hr
 have HB:Hid (w.heap[g]? = some (.cells rcur 43 (0,0))/\B<=g/\g < T):=⟨hb,hB,hT⟩
 clear top hr hb hB hT
 go_enter Tryz.func41,Tryz.ntmps41
 go_wp2
 go_loopw [2] (fun iv W=>∃ p:Nat,iv=.int .i64 (p:Int)/\p<=n/\Hid (MS tRw B T w W/\∃ cur',W.heap[g]? = some (.cells cur' 43 (0,0))/\cur'.size=rcur.size/\∀ j,p * 2<=j->cur'[j]? = rcur[j]?)) (fun iv _=>n - (intOf iv).toNat)
 case atStart=>exact ⟨0,rfl,Nat.zero_le _,MS.refl _ _ _ _,rcur,HB.out.1,rfl,fun _ _=>rfl⟩
 case round =>
  obtain ⟨p,rfl,hp,X⟩:=hrel
  by_cases hpn:p < n
  ·have hpi:decide ((p:Int) < (n:Int))=true:=by rw [decide_eq_true_eq];omega
   have hpp:(p:Int) < (n:Int):=by omega
   obtain ⟨cur',s3,s4,s5⟩:=X.out.2
   obtain ⟨x,u,d0,d1,w1⟩:=HR.out p hpn
   rw [<- s5 _ (by omega)] at d0 d1
   obtain ⟨W3,hW3⟩:∃ W3,W3=wr:=⟨_,rfl⟩
   have M3:Hid (MS tRw B T w W3):=by rw [hW3];exact X.out.1
   have L1:Hid (WI W3 B T u):=w1.ms M3.out
   have HC:Hid (W3.heap[g]? = some (.cells cur' 43 (0,0))/\cur'.size=rcur.size/\(∀ j,p * 2<=j->cur'[j]? = rcur[j]?)/\cur'[p * 2]? = some (.int .i64 x)/\cur'[p * 2 + 1]? = some u):=by rw [hW3];exact ⟨s3,s4,s5,d0,d1⟩
   have MI:Hid (MS tInt B T W3 wr):=by rw [hW3];exact MS.refl _ _ _ _
   obtain ⟨a1,n1,q1,e1,b1',_⟩:=w1
   subst e1
   clear s3 s4 s5 d0 d1 X hW3
   go_wp2_with fail
   go_loopw [3] (fun iv W=>∃ y:Nat,iv=.int .i64 (y:Int)/\y<=n1/\Hid (MS tInt B T W3 W)) (fun iv _=>n1 - (intOf iv).toNat)
   case atStart=>exact ⟨0,rfl,Nat.zero_le _,MI⟩
   case round =>
    clear MI
    obtain ⟨y,rfl,hy,X⟩:=hrel
    have h5:wr.heap[g]? = some (.cells cur' 43 (0,0)):=(X.out.shp.keep g _ _ _ HC.out.1 (by simp)).trans HC.out.1
    have b0:=cell_of h5 HC.out.2.2.2.1
    have b1:=cell_of h5 HC.out.2.2.2.2
    by_cases hyn:y < n1
    ·have hyi:(y:Int) < (n1:Int):=by omega
     obtain ⟨vb,cur,e,h1,h2,h3,h4⟩:∃ vb cur,a1=some ⟨vb,0,none⟩/\B<=vb/\vb < T/\wr.heap[vb]? = some (.cells cur 3 (0,0))/\∀ i,i < n1->∃ x:Int,cur[i]? = some (.int .i64 x):=by
      obtain ⟨_,_,_,e,_,h⟩:=L1.out.ms X.out
      cases e
      rcases h with h | h
      ·omega
      ·exact h
     subst e
     obtain ⟨z,k0⟩:=h4 y hyn
     have c0:=cell_of h3 k0
     have f0:=froz_of h3 y
     have hgr:g ≠ vb:=fun e=>by rw [e,h3] at h5;simp at h5
     have XD:Hid (∀ z,MS tInt B T W3 (wr.drew.setCell ⟨vb,y,none⟩ (.int .i64 z))):=fun z=>(X.out.trans (ms_gb (Below.refl _ _).drew)).set h1 h2 h3 rfl _ _ (fun _=>⟨_,rfl⟩)
     have b1:wr.drew.cell? ⟨g,p * 2 + 1,none⟩=some (.slice (some ⟨vb,0,none⟩) n1 q1):=b1
     have c0:wr.drew.cell? ⟨vb,y,none⟩=some (.int .i64 z):=c0
     have f0:wr.drew.frozen? ⟨vb,y,none⟩=false:=f0
     clear h3 h4 k0 h5 b0
     go_wp2_with fail
     refine wp_region_held_drew (S:=fun W=>W.cell? ⟨g,p * 2 + 1,none⟩=some (.slice (some ⟨vb,0,none⟩) n1 q1)) (by kernel_rfl) (b1) (fun hHeld=>?_)
     refine tkn 0 ?_ rfl ?_ ?_;rotate_left;·(intro w hSw;(try dsimp only at hSw);go_simp;try rfl)
     try simp only [pt]
     refine tkn 1 ?_ rfl ?_ ?_;rotate_left;·(intro w hSw;(try dsimp only at hSw);go_simp;try rfl)
     try simp only [pt]
     refine tkn 2 ?_ rfl ?_ ?_;rotate_left;·(intro w hSw;(try dsimp only at hSw);go_simp;try rfl)
     try simp only [pt]
     refine tkn 3 ?_ rfl ?_ ?_;rotate_left;·(intro w hSw;(try dsimp only at hSw);go_simp;try rfl)
     try simp only [pt]
     refine tkn 4 ?_ rfl ?_ ?_;rotate_left;·(intro w hSw;(try dsimp only at hSw);go_simp;try rfl)
     try simp only [pt]
     refine tkn 5 ?_ rfl ?_ ?_;rotate_left;·(intro w hSw;(try dsimp only at hSw);go_simp;try rfl)
     try simp only [pt]
     refine tkn 6 ?_ rfl ?_ ?_;rotate_left;·(intro w hSw;(try dsimp only at hSw);go_simp;try rfl)
     try simp only [pt]
     refine tkn 7 ?_ rfl ?_ ?_;rotate_left;·(intro w hSw;(try dsimp only at hSw);go_simp;try rfl)
     try simp only [pt]
     refine tkn 8 ?_ rfl ?_ ?_;rotate_left;·(intro w hSw;(try dsimp only at hSw);go_simp;try rfl)
     try simp only [pt]
     refine tkn 9 ?_ rfl ?_ ?_;rotate_left;·(intro w hSw;(try dsimp only at hSw);go_simp;try rfl)
     try simp only [pt]
     refine tkn 10 ?_ rfl ?_ ?_;rotate_left;·(intro w hSw;(try dsimp only at hSw);go_simp;try rfl)
     try simp only [pt]
     refine tkn 11 ?_ rfl ?_ ?_;rotate_left;·(intro w hSw;(try dsimp only at hSw);go_simp;try rfl)
     try simp only [pt]
     refine tkn 12 ?_ rfl ?_ ?_;rotate_left;·(intro w hSw;(try dsimp only at hSw);go_simp;try rfl)
     try simp only [pt]
     refine rdn 13 rfl (fun K hK=>?_)
     go_simp
     refine hK.out _ _ (hHeld) (fun hHeld=>?_)
     clear hK K
     try simp only [pt]
     refine tkn 14 ?_ rfl ?_ ?_;rotate_left;·(intro w hSw;(try dsimp only at hSw);go_simp;try rfl)
     try simp only [pt]
     refine tkn 15 ?_ rfl ?_ ?_;rotate_left;·(intro w hSw;(try dsimp only at hSw);go_simp;try rfl)
     try simp only [pt]
     refine rdn 16 rfl (fun K hK=>?_)
     go_simp
     refine hK.out _ _ ((World.cell?_setCell_far _ _ _ _ (by dsimp only;exact hgr.symm)).trans hHeld) (fun hHeld=>?_)
     clear hK K
     try simp only [pt]
     refine wpAnyH_done (by kernel_rfl) ?_ _
     go_wp2
     go_roundw
     case rel=>exact ⟨y + 1,by first | rfl | go_num | simp,hyn,XD.out _⟩
     case measure=>simp [intOf];omega
    ·have hyi:¬ (y:Int) < (n1:Int):=by omega
     have f0:=froz_of h5 (p * 2)
     have f1:=froz_of h5 (p * 2 + 1)
     have XN:Hid (MS tRw B T w ((wr.setCell ⟨g,p * 2,none⟩ (.int .i64 0)).setCell ⟨g,p * 2 + 1,none⟩ (.slice none 0 0))/\∃ cur',((wr.setCell ⟨g,p * 2,none⟩ (.int .i64 0)).setCell ⟨g,p * 2 + 1,none⟩ (.slice none 0 0)).heap[g]? = some (.cells cur' 43 (0,0))/\cur'.size=rcur.size/\∀ j,(p + 1) * 2<=j->cur'[j]? = rcur[j]?):=by
      refine ⟨((M3.out.trans (X.out.mono fun t h=>.inl h)).set HB.out.2.1 HB.out.2.2 h5 (.inr rfl) _ _ (fun e=>by simp at e)).set HB.out.2.1 HB.out.2.2 (heap_set h5) (.inr rfl) _ _ (fun e=>by simp at e),_,heap_set (heap_set h5),?_,fun j hj=>?_⟩
      ·simp [HC.out.2.1]
      ·rw [Array.getElem?_setIfInBounds_ne (by omega),Array.getElem?_setIfInBounds_ne (by omega)]
       exact HC.out.2.2.1 j (by omega)
     clear h5 L1 X
     go_wp2
     go_roundw
     case rel=>exact ⟨p + 1,by first | rfl | go_num | simp,hpn,XN⟩
     case measure=>simp [intOf];omega
  ·have hpi:¬ (p:Int) < (n:Int):=by omega
   have XF:Hid (Mid B T w wr):=X.out.1.mid
   clear X
   go_wp2
   refine bodyPost_end (v:=.tuple #[]) (by simp [results,Tryz.results41,go_sem]) rfl ⟨rfl,?_⟩
   exact XF.out
end Go.Proofs.YtcipdampcmfmaaaGreat
