import Derived.Test.YtcipdampcmfmaaaGreatIa15
import Derived.Test.YtcipdampcmfmaaaGreatIa20
import Derived.Maps.AppendAt
import Derived.Test.YtcipdampcmfmaaaGreatIa6
namespace Go.Proofs.YtcipdampcmfmaaaGreat
open Go.Shelf Go.RowKit Go.Lib Go.Sort
set_option maxHeartbeats 1000000
theorem swoId:SWO (fun x y:Rt=>decide (Tk.ci x.1 y.1 < 0)):=by
 have e:∀ a b:Int,decide (Tk.ci a b < 0)=decide (a < b):=fun a b=>by
  unfold Tk.ci
  split
  ·rename_i h;simp [h]
  ·rename_i h;split <;> simp [h]
 refine ⟨fun x=>?_,fun x y z=>?_,fun x y z=>?_⟩ <;> simp only [e,decide_eq_true_eq,decide_eq_false_iff_not] <;> omega
structure RtOk (w:World) (g n:Nat) (x:Rt):Prop where
 rd:RdI w x.2.1 x.2.2
 len:x.2.2.length=n
 ne:∀ b o n c,x.2.1=.slice (some ⟨b,o,none⟩) n c->b ≠ g
theorem RtOk.one {w:World} {g n:Nat} {x:Rt} (h:RtOk w g n x):x.2.1.oneCell'=true:=by
 obtain ⟨a,c,e,_⟩:=h.rd
 rw [e];rfl
theorem RtOk.kp {w w':World} {g n:Nat} {x:Rt} (h:RtOk w g n x) (k:Tk.Kp (fun b=>b=g) w w'):RtOk w' g n x :=
 ⟨rdi_kp h.rd k (fun b o n c e=>h.ne b o n c e),h.len,h.ne⟩
theorem build1_c (x y:Int) (u v:Value) (hu:u.oneCell'=true) (hv:v.oneCell'=true) (w:World) :
  Calls Tryz.prog 54 #[.agg #[.int .i64 x,u],.agg #[.int .i64 y,v]] w fun e w'=>e=.returned (.int .i64 (Tk.ci x y))/\Tk.Gw w w':=by
 have cC:=fun W=>compare_g x y W
 have hcu:u.cells=#[u]:=by first | exact Value.cells_of_oneCell' hu | (cases u <;> simp_all [Value.oneCell',Value.cells])
 have hcv:v.cells=#[v]:=by first | exact Value.cells_of_oneCell' hv | (cases v <;> simp_all [Value.oneCell',Value.cells])
 go_enter Tryz.func54,Tryz.ntmps54
 go_wp2_with fail
 refine (cC _).mono ?_
 rintro e w' ⟨rfl,hg⟩
 go_wp2
 go_ret
 exact ⟨rfl,(((Tk.Gw.refl _).alloc _).alloc _).trans hg⟩
theorem find1_c (x y:Int) (u:Value) (hu:u.oneCell'=true) (w:World) :
  Calls Tryz.prog 128 #[.agg #[.int .i64 x,u],.int .i64 y] w fun e w'=>e=.returned (.int .i64 (Tk.ci x y))/\Tk.Gw w w':=by
 have cC:=fun W=>compare_g x y W
 have hcu:u.cells=#[u]:=by first | exact Value.cells_of_oneCell' hu | (cases u <;> simp_all [Value.oneCell',Value.cells])
 go_enter Tryz.func128,Tryz.ntmps128
 go_wp2_with fail
 refine (cC _).mono ?_
 rintro e w' ⟨rfl,hg⟩
 go_wp2
 go_ret
 exact ⟨rfl,((Tk.Gw.refl _).alloc _).trans hg⟩
theorem sortId_c {w:World} {g o cap n:Nat} {d:List Rt} (hd:RwAt w g o d) (hne:d ≠ []) (hlen:d.length<=4000) (hok:∀ x ∈ d,RtOk w g n x) :
  Calls Tryz.prog 53 #[.slice (some ⟨g,o,none⟩) d.length cap,.func (.func 54) #[] #[]] w fun e w'=>e=.returned (.tuple #[])/\∃ d',d'.Perm d/\(d'.Pairwise fun x y=>¬ Tk.ci y.1 x.1 < 0)/\RwAt w' g o d'/\Srt w w' g o d.length :=
 sortR (cf:=fun x y=>Tk.ci x.1 y.1) (RtOk w g n) hd hne hlen hok (fun _ h=>h.one) swoId (enters_of Tryz.func54 (by kernel_rfl) rfl)
  (fun W _ x y hx hy=>build1_c _ _ _ _ hx.one hy.one W)
theorem sort_none (a:Option Addr) (cap:Nat) (fv:Value) (w:World):Calls Tryz.prog 53 #[.slice a 0 cap,fv] w fun e w'=>e=.returned (.tuple #[])/\w'=w:=by
 have hc:=AnyF.slices_SortFunc_none Tryz.laidSortR a cap fv w
 exact hc
def RwRd (w:World) (g o:Nat) (d:List Rt):Prop:=∀ i (h:i < d.length),w.cell? ⟨g,o + i * 2,none⟩=some (.int .i64 d[i].1)/\w.cell? ⟨g,o + i * 2 + 1,none⟩=some d[i].2.1
theorem RwAt.rd {w:World} {g o:Nat} {d:List Rt} (h:RwAt w g o d):RwRd w g o d:=by
 obtain ⟨cur,h1,_,h3⟩:=h
 intro i hi
 exact ⟨cell_cur h1 (h3 i hi).1,cell_cur h1 (h3 i hi).2⟩
theorem flR_get (d:List Rt) (t:Nat):(d.flatMap encR)[t]? = if h:t / 2 < d.length then (encR d[t / 2])[t % 2]? else none:=by
 induction d generalizing t with
 | nil=>simp
 | cons x r ih =>
  rw [List.flatMap_cons]
  by_cases h:t < 2
  ·rw [List.getElem?_append_left (by simpa using h)]
   have h0:t / 2=0:=by omega
   have h1:t % 2=t:=by omega
   simp [h0,h1]
  ·rw [List.getElem?_append_right (by simp;omega),show t - (encR x).length=t - 2 by rfl,ih]
   have h0:t / 2=(t - 2) / 2 + 1:=by omega
   have h1:t % 2=(t - 2) % 2:=by omega
   simp only [h0,h1,List.length_cons,Nat.add_lt_add_iff_right,List.getElem_cons_succ]
theorem flR_len (d:List Rt):(d.flatMap encR).length=d.length * 2:=by
 induction d with
 | nil=>rfl
 | cons x r ih=>rw [List.flatMap_cons,List.length_append,ih,List.length_cons];simp;omega
theorem rwAt_own {w:World} {B g n cap:Nat} {d:List Rt} (h:w.ownsRow B 43 2 (.slice (some ⟨g,0,none⟩) n cap) d.length (d.flatMap encR)):RwAt w g 0 d/\B<=g/\g < w.heap.size:=by
 rcases h.2 with ⟨e,_⟩ | ⟨g',cap',cur,e,hB,hh,hle,_,hsz,htk⟩
 ·cases e
 ·cases e
  refine ⟨⟨cur,hh,by omega,fun i hi=>?_⟩,hB,(Array.getElem?_eq_some_iff.1 hh).1⟩
  have key:∀ t,t < d.length * 2->cur[t]? = (d.flatMap encR)[t]? := fun t ht=>by
   rw [<- htk,List.getElem?_take_of_lt ht,Array.getElem?_toList]
  rw [Nat.zero_add,key _ (by omega),key _ (by omega),flR_get,flR_get,show i * 2 / 2=i by omega,show (i * 2 + 1) / 2=i by omega,show i * 2 % 2=0 by omega,show (i * 2 + 1) % 2=1 by omega,dif_pos hi,dif_pos hi]
  exact ⟨rfl,rfl⟩
end Go.Proofs.YtcipdampcmfmaaaGreat

namespace Go.Proofs.YtcipdampcmfmaaaGreat
open Go.RowKit Go.Sort
set_option maxRecDepth 100000
set_option maxHeartbeats 2000000
def plc (rs:List Rw) (id:Int):Nat:=(rs.filter fun r=>decide (r.1 < id)).length
def hasId (rs:List Rw) (id:Int):Bool:=rs.any fun r=>decide (r.1=id)
theorem plc_of {rs:List Rw} {id:Int} {i:Nat} (hi:i<=rs.length) (h1:∀ t (h:t < rs.length),t < i->rs[t].1 < id) (h2:∀ t (h:t < rs.length),i<=t->¬ rs[t].1 < id):plc rs id=i:=by
 unfold plc
 rw [<- List.take_append_drop i rs,List.filter_append,List.length_append]
 rw [List.filter_eq_self.2 (by
  intro r hr
  obtain ⟨t,ht,rfl⟩:=List.getElem_of_mem hr
  rw [List.length_take] at ht
  rw [List.getElem_take]
  exact decide_eq_true (h1 t (by omega) (by omega))),List.filter_eq_nil_iff.2 (by
  intro r hr
  obtain ⟨t,ht,rfl⟩:=List.getElem_of_mem hr
  rw [List.length_drop] at ht
  rw [List.getElem_drop]
  simpa using h2 (i + t) (by omega) (by omega))]
 rw [List.length_take]
 simp
 omega
theorem rise_le {d:List Rt} (h:(d.map rwR).Pairwise fun x y=>x.1 < y.1) {a b:Nat} (hb:b < d.length) (hab:a<=b):(d[a]'(by omega)).1<=d[b].1:=by
 by_cases e:a=b
 ·subst e;exact Int.le_refl _
 ·rw [List.pairwise_iff_getElem] at h
  have:=h a b (by simp;omega) (by simpa using hb) (by omega)
  simp only [List.getElem_map,rwR] at this
  omega
theorem has_at {d:List Rt} {id:Int} {j:Nat} (h:(d.map rwR).Pairwise fun x y=>x.1 < y.1) (hj:j < d.length) (h1:∀ t (h:t < d.length),t < j->d[t].1 < id) (h2:∀ t (h:t < d.length),j<=t->id<=d[t].1):hasId (d.map rwR) id=decide (d[j].1=id):=by
 unfold hasId
 rw [Bool.eq_iff_iff,List.any_eq_true,decide_eq_true_eq]
 constructor
 ·rintro ⟨r,hr,he⟩
  obtain ⟨t,ht,rfl⟩:=List.getElem_of_mem hr
  have ht':t < d.length:=by simpa using ht
  simp only [List.getElem_map,rwR,decide_eq_true_eq] at he
  by_cases c:t < j
  ·have:=h1 t ht' c;omega
  ·have h3:=rise_le h ht' (a:=j) (by omega)
   have h4:=h2 j hj (Nat.le_refl _)
   omega
 ·intro he
  exact ⟨rwR d[j],List.mem_map.2 ⟨d[j],List.getElem_mem hj,rfl⟩,by simp [he]⟩
theorem bsr_c {w:World} {g o cap:Nat} {d:List Rt} (hd:RwRd w g o d) (hone:∀ x ∈ d,x.2.1.oneCell'=true) (hn:d.length<=4000) (id:Int) (hs:(d.map rwR).Pairwise fun x y=>x.1 < y.1) :
  Calls Tryz.prog 127 #[.slice (some ⟨g,o,none⟩) d.length cap,.int .i64 id,.func (.func 128) #[] #[]] w fun e w'=>e=.returned (.tuple #[.int .i64 (plc (d.map rwR) id:Nat),.bool (hasId (d.map rwR) id)])/\Tk.Gw w w':=by
 have HD:Hid (RwRd w g o d/\(∀ x ∈ d,x.2.1.oneCell'=true)):=⟨hd,hone⟩
 obtain ⟨n,hN⟩:∃ n,n=d.length:=⟨_,rfl⟩
 have N:Hid (n=d.length):=hN
 rw [<- hN] at hn ⊢
 have SR:Hid ((d.map rwR).Pairwise fun x y=>x.1 < y.1):=hs
 obtain ⟨pl,hpl⟩:∃ pl,pl=plc (d.map rwR) id:=⟨_,rfl⟩
 obtain ⟨fd,hfd⟩:∃ fd,fd=hasId (d.map rwR) id:=⟨_,rfl⟩
 have PF:Hid (pl=plc (d.map rwR) id/\fd=hasId (d.map rwR) id):=⟨hpl,hfd⟩
 rw [<- hpl,<- hfd]
 clear hd hone hs hN hpl hfd
 go_enter Tryz.func127,Tryz.ntmps127
 go_wp2
 go_loopw [9,10] (fun iv jv W=>∃ i j:Nat,iv=.int .i64 (i:Int)/\jv=.int .i64 (j:Int)/\i<=j/\j<=n/\Hid ((∀ t (h:t < d.length),t < i->d[t].1 < id)/\(∀ t (h:t < d.length),j<=t->id<=d[t].1)/\Tk.Gw w W)) (fun iv jv _=>(intOf jv).toNat - (intOf iv).toNat)
 case atStart=>exact ⟨0,n,rfl,rfl,Nat.zero_le _,Nat.le_refl _,fun t _ h=>absurd h (Nat.not_lt_zero _),fun t h h2=>absurd h (by have:=N.out;omega),Tk.Gw.refl _⟩
 case round =>
  obtain ⟨i,j,rfl,rfl,hij,hjn,X⟩:=hrel
  by_cases hlt:i < j
  ·have hlti:(i:Int) < (j:Int):=by omega
   have hm:(i + j) / 2 < d.length:=by have:=N.out;omega
   obtain ⟨k1,k2⟩:=HD.out.1 ((i + j) / 2) hm
   have ho:=HD.out.2 _ (List.getElem_mem hm)
   obtain ⟨x,hx⟩:∃ x,x=d[(i + j) / 2]:=⟨_,rfl⟩
   rw [<- hx] at k1 k2 ho
   have XH:Hid (d[(i + j) / 2]? = some x):=by unfold Hid;rw [List.getElem?_eq_getElem hm,hx]
   obtain ⟨xi,u,xl⟩:=x
   dsimp only at k1 k2 ho
   have k1:=Tk.gr_keeps X.out.2.2.gr k1
   have k2:=Tk.gr_keeps X.out.2.2.gr k2
   have hcu:u.cells=#[u]:=by first | exact Value.cells_of_oneCell' ho | (cases u <;> simp_all [Value.oneCell',Value.cells])
   have cF:=find1_c xi id u ho
   clear hx hm
   have MX:Hid ((xi < id->∀ t (h:t < d.length),t < (i + j) / 2 + 1->d[t].1 < id)/\(¬ xi < id->∀ t (h:t < d.length),(i + j) / 2<=t->id<=d[t].1)):=by
    have hm:(i + j) / 2 < d.length:=by have:=N.out;omega
    have hx:=XH.out
    rw [List.getElem?_eq_getElem hm] at hx
    injection hx with hx
    refine ⟨fun h t ht h2=>?_,fun h t ht h2=>?_⟩
    ·have:=rise_le SR.out (a:=t) (b:=(i + j) / 2) hm (by omega)
     rw [hx] at this
     dsimp only at this
     omega
    ·have:=rise_le SR.out (a:=(i + j) / 2) (b:=t) ht h2
     rw [hx] at this
     dsimp only at this
     omega
   by_cases hxi:xi < id
   ·have hc:Tk.ci xi id=-1:=by unfold Tk.ci;rw [if_pos hxi]
    rw [hc] at cF
    have I2:=MX.out.1 hxi
    have YX:Hid ((∀ t (h:t < d.length),t < (i + j) / 2 + 1->d[t].1 < id)/\(∀ t (h:t < d.length),j<=t->id<=d[t].1)/\Tk.Gw w wr):=⟨I2,X.out.2⟩
    clear I2 MX XH X hc
    go_wp2_with fail
    refine (cF wr).mono ?_
    rintro e w' ⟨rfl,hg⟩
    have HG:Hid (Tk.Gw wr w'):=hg
    clear cF k1 k2 hg
    go_wp2
    go_roundw
    case rel=>exact ⟨(i + j) / 2 + 1,j,by rw [show ((i:Int) + (j:Int)) / 2 + 1=(((i + j) / 2 + 1:Nat):Int) by omega],rfl,by omega,hjn,YX.out.1,YX.out.2.1,YX.out.2.2.trans HG.out⟩
    case measure=>simp [intOf];omega
   ·have hc:¬ Tk.ci xi id < 0:=(ci_neg _ _).2 (by omega)
    generalize Tk.ci xi id=z at *
    have I2:=MX.out.2 hxi
    have YX:Hid ((∀ t (h:t < d.length),t < i->d[t].1 < id)/\(∀ t (h:t < d.length),(i + j) / 2<=t->id<=d[t].1)/\Tk.Gw w wr):=⟨X.out.1,I2,X.out.2.2⟩
    clear I2 MX XH X
    go_wp2_with fail
    refine (cF wr).mono ?_
    rintro e w' ⟨rfl,hg⟩
    have HG:Hid (Tk.Gw wr w'):=hg
    clear cF k1 k2 hg
    go_wp2
    go_roundw
    case rel=>exact ⟨i,(i + j) / 2,rfl,by rw [show ((i:Int) + (j:Int)) / 2=(((i + j) / 2:Nat):Int) by omega],by omega,by omega,YX.out.1,YX.out.2.1,YX.out.2.2.trans HG.out⟩
    case measure=>simp [intOf];omega
  ·obtain rfl:j=i:=by omega
   have hlti:¬ (j:Int) < (j:Int):=by omega
   have PL:Hid (pl=j):=PF.out.1.trans <| plc_of (by rw [List.length_map];have:=N.out;omega) (fun t h h2=>by have:=X.out.1 t (by simpa using h) h2;simpa using this) (fun t h h2=>by have:=X.out.2.1 t (by simpa using h) h2;simp;omega)
   have GW:Hid (Tk.Gw w wr):=X.out.2.2
   by_cases hjl:j < n
   ·have hjli:(j:Int) < (n:Int):=by omega
    have hm:j < d.length:=by have:=N.out;omega
    obtain ⟨k1,k2⟩:=HD.out.1 j hm
    have ho:=HD.out.2 _ (List.getElem_mem hm)
    have FI:fd=decide (d[j].1=id):=PF.out.2.trans (has_at SR.out hm X.out.1 X.out.2.1)
    obtain ⟨x,hx⟩:∃ x,x=d[j]:=⟨_,rfl⟩
    rw [<- hx] at k1 k2 ho FI
    obtain ⟨xi,u,xl⟩:=x
    dsimp only at k1 k2 ho FI
    have FI2:Hid (fd=decide (xi=id)):=FI
    have k1:=Tk.gr_keeps X.out.2.2.gr k1
    have k2:=Tk.gr_keeps X.out.2.2.gr k2
    have hcu:u.cells=#[u]:=by first | exact Value.cells_of_oneCell' ho | (cases u <;> simp_all [Value.oneCell',Value.cells])
    have cF:=find1_c xi id u ho
    have hz:(Tk.ci xi id == 0)=decide (xi=id):=by
     unfold Tk.ci
     split
     ·rename_i h;rw [decide_eq_false (by omega)];rfl
     ·split
      ·rename_i h;rw [decide_eq_false (by omega)];rfl
      ·rw [decide_eq_true (by omega)];rfl
    generalize decide (xi=id)=q at *
    generalize Tk.ci xi id=z at *
    clear hx hm X FI
    go_wp2_with fail
    refine (cF wr).mono ?_
    rintro e w' ⟨rfl,hg⟩
    have HG:Hid (Tk.Gw w w'):=GW.out.trans hg
    clear cF k1 k2 hg GW
    go_wp2
    exact bodyPost_ret (v:=.tuple #[.int .i64 (j:Int),.bool q]) (by simp [results,Tryz.results127,go_sem]) rfl ⟨by rw [PL.out,FI2.out],HG.out⟩
   ·have hjli:¬ (j:Int) < (n:Int):=by omega
    have FI:Hid (fd=false):=by
     unfold Hid
     rw [PF.out.2]
     unfold hasId
     rw [List.any_eq_false]
     intro r hr
     obtain ⟨t,ht,rfl⟩:=List.getElem_of_mem hr
     have ht':t < d.length:=by simpa using ht
     have:=X.out.1 t ht' (by have:=N.out;omega)
     simp
     omega
    clear X
    go_wp2
    exact bodyPost_ret (v:=.tuple #[.int .i64 (j:Int),.bool false]) (by simp [results,Tryz.results127,go_sem]) rfl ⟨by rw [PL.out,FI.out],GW.out⟩
theorem among_c {w:World} {g o cap:Nat} {d:List Rt} (hd:RwRd w g o d) (hone:∀ x ∈ d,x.2.1.oneCell'=true) (hn:d.length<=4000) (id:Int) (hs:(d.map rwR).Pairwise fun x y=>x.1 < y.1) :
  Calls Tryz.prog 87 #[.slice (some ⟨g,o,none⟩) d.length cap,.int .i64 id] w fun e w'=>e=.returned (.int .i64 (plc (d.map rwR) id:Nat))/\Tk.Gw w w':=by
 have cB:=bsr_c (cap:=cap) hd hone hn id hs
 generalize plc (d.map rwR) id=pl at *
 generalize hasId (d.map rwR) id=fd at *
 generalize d.length=n at *
 clear hd hone hs hn
 go_enter Tryz.func87,Tryz.ntmps87
 go_wp2_with fail
 go_fit cB
 rintro e w1 ⟨rfl,g1⟩
 have G:Hid (Tk.Gw w w1):=g1
 clear g1 cB
 go_wp2
 go_ret
 exact ⟨rfl,G.out⟩
end Go.Proofs.YtcipdampcmfmaaaGreat

namespace Go.Proofs.YtcipdampcmfmaaaGreat
open Go.RowKit Go.Sort Go.Maps
set_option maxRecDepth 100000
set_option maxHeartbeats 1000000
theorem app_run {o:Oper} {a:Act} {w:World} {K:Act->World->Prop} {Q:Exit->Act->World->Prop} (_hgd:o.guard=none) (s x:Operand) (t:TypeId)
  (ho:o.op=.call { callee:=.builtin .append,args:=#[s,x],argTypes:=#[t,t] }) (h:∃ v1 v2 v' w',a.eval s=v1/\a.eval x=v2/\(Builtin.append_ #[t,t] o.type #[v1,v2]).run Tryz.prog w=.ok v' w'/\K (a.put o.dst v') w') :
  Oper.wp Tryz.prog o a w K Q:=by
 obtain ⟨v1,v2,v',w',hs,hx,hr,h⟩:=h
 unfold Oper.wp execOp
 simp only [ho,resolve,invoke,builtin,Sem.run_bind,Sem.run_pure,Result.andThen_ok,List.map_toArray,List.map_cons,List.map_nil,hs,hx,hr]
 exact h
def OwnC (W:World) (B:Nat) (v:Value) (rs:List Rw):Prop:=v ≠ .slice none 0 0/\∃ xs,W.ownsRow B 43 2 v rs.length xs/\∀ i,i < rs.length->xs[i * 2]? = some (.int .i64 rs[i]!.1)/\∃ u,xs[i * 2 + 1]? = some u/\Own W B u rs[i]!.2
theorem OwnC.gb {W W':World} {B:Nat} {v:Value} {rs:List Rw} (h:OwnC W B v rs) (g:Gb W W'):OwnC W' B v rs:=by
 obtain ⟨hn,xs,h1,h2⟩:=h
 refine ⟨hn,xs,h1.kept (row:=none) ⟨g.os,g.tape,g.output,g.size,fun k hk _=>g.block k hk⟩ (by cases hv:v.ownBlock <;> simp),fun i hi=>?_⟩
 obtain ⟨a,u,b,c⟩:=h2 i hi
 exact ⟨a,u,b,c.gb g⟩
theorem OwnC.form {W:World} {B:Nat} {v:Value} {rs:List Rw} (h:OwnC W B v rs):∃ g cap,v=.slice (some ⟨g,0,none⟩) rs.length cap:=by
 obtain ⟨hn,xs,h,_⟩:=h
 rcases h.2 with ⟨e,h0⟩ | ⟨b,cap,cur,rfl,_⟩
 ·exact absurd e hn
 ·exact ⟨_,cap,rfl⟩
theorem OwnC.ownW {W:World} {B:Nat} {v:Value} {rs:List Rw} (h:OwnC W B v rs):OwnW W W B v rs:=by
 obtain ⟨_,xs,h1,h2⟩:=h
 refine ⟨xs,h1,fun i hi=>?_⟩
 obtain ⟨a,u,b,c⟩:=h2 i hi
 exact ⟨a,u,b,c.rd⟩
theorem OwnC.rdw {W:World} {B:Nat} {v:Value} {rs:List Rw} (h:OwnC W B v rs):RdW W v rs:=h.ownW.rdw (Below.refl _ _)
theorem own_neR {W:World} {B B' n:Nat} {u v:Value} {x:List Int} {xs:List Value} (h:Own W B u x) (r:W.ownsRow B' 43 2 v n xs):u.ownBlock=none ∨ u.ownBlock ≠ v.ownBlock:=by
 rcases h.2 with ⟨rfl,_⟩ | ⟨g,cap,cur,rfl,_,hh,_⟩
 ·exact .inl rfl
 ·refine .inr fun e=>?_
  rcases r.2 with ⟨rfl,_⟩ | ⟨g',cap',cur',rfl,_,hh',_⟩
  ·cases e
  ·cases e
   rw [hh] at hh'
   simp at hh'
theorem grown_cellC {W W':World} {row:Option Nat} (h:W.grownBy W' row) {p:Addr} {v:Value} (hc:W.cell? p=some v) (hne:row ≠ some p.block):W'.cell? p=some v:=by
 rw [World.cell?_of_block (h.block p.block (World.block_lt_of_cell? W p hc) (fun e=>hne e.symm))];exact hc
theorem OwnC.next {w W:World} {pv:Option Addr} {nv cv:Nat} {rs:List Rw} {x:Int} {l:List Int} {u:Value} (h:OwnC W w.heap.size (.slice pv nv cv) rs) (hn:rs.length<=4000) (g:Gb w W) (ho:Own W w.heap.size u l) :
  ∃ v' W',(Builtin.append_ #[22,22] 22 #[.slice pv nv cv,.slice (some ⟨W.heap.size,0,none⟩) 1 1]).run Tryz.prog (W.alloc (.cells #[.int .i64 x,u] 43))=.ok v' W'/\OwnC W' w.heap.size v' (rs ++ [(x,l)])/\Gb w W'/\∀ (p:Addr) (y:Value),(Value.slice pv nv cv).ownBlock ≠ some p.block->(W.alloc (.cells #[.int .i64 x,u] 43)).cell? p=some y->W'.cell? p=some y:=by
 obtain ⟨_,xs,h1,h2⟩:=h
 obtain ⟨i0,hi,hz0,hz1,hz2⟩:=info_partsW
 have hu:u.oneCell'=true:=by obtain ⟨a,c,rfl,_⟩:=ho.rd;rfl
 obtain ⟨v',W',hr,hown,hgrow,hnn,_⟩:=run_append_own_at (P:=Tryz.prog) (W.alloc (.cells #[.int .i64 x,u] 43)) w.heap.size 22 22 43 i0 (.agg #[.int .i64 0,.slice none 0 0]) 2 32 Tryz.underlying22 hi hz0 hz1 hz2 rfl (by decide)
  (.slice pv nv cv) rs.length xs (World.ownsRow.alloc h1 _) ⟨W.heap.size,0,none⟩ 1 1 [.int .i64 x,u] rfl (two_cells _ _ _ _) (by simp [Value.oneCell'];try exact hu) (by simp only [maxLen];omega) (by omega) (by rw [World.size_alloc];have:=g.size;omega)
 refine ⟨v',W',hr,⟨fun e=>absurd (hnn.1 e).2 (by decide),xs ++ [.int .i64 x,u],by rw [List.length_append];exact hown,fun i hi=>?_⟩,?_,fun p y hp hc=>grown_cellC hgrow hc hp⟩
 ·have kp:∀ {u':Value} {y:List Int},Own W w.heap.size u' y->Own W' w.heap.size u' y:=fun {u' y} ho'=>(ho'.gb (gb_alloc (Below.refl _ _) _)).kept hgrow (own_neR ho' h1)
  rw [List.length_append] at hi
  by_cases e:i < rs.length
  ·rw [getElem!_pos (rs ++ [(x,l)]) i (by rw [List.length_append];exact hi),List.getElem_append_left e,<- getElem!_pos rs i e,List.getElem?_append_left (by have:=h1.1;omega),List.getElem?_append_left (by have:=h1.1;omega)]
   obtain ⟨a,u',b,c⟩:=h2 i e
   exact ⟨a,u',b,kp c⟩
  ·have e':i=rs.length:=by simp at hi;omega
   subst e'
   have e2:(rs ++ [(x,l)])[rs.length]! = (x,l):=by rw [getElem!_pos _ _ (by simp)];simp
   have hl:=h1.1
   rw [e2,List.getElem?_append_right (by omega),List.getElem?_append_right (by omega),hl]
   exact ⟨by simp,u,by rw [show rs.length * 2 + 1 - rs.length * 2=1 by omega];rfl,kp ho⟩
 ·refine below_grown (gb_alloc g _) hgrow (fun k e=>?_) (gb_alloc g _).size
  have:=(h1.lt k e).1
  omega
theorem copies_c {w:World} {v:Value} {rs:List Rw} (h:RdW w v rs) (hn:rs.length<=4000) (hv:∀ i,i < rs.length->1<=rs[i]!.2.length/\rs[i]!.2.length<=100000) :
  Calls Tryz.prog 52 #[v] w fun e w'=>∃ v',e=.returned v'/\OwnC w' w.heap.size v' rs/\Gb w w':=by
 have A:Hid (RdW w v rs):=h
 have VL:Hid (∀ i,i < rs.length->1<=rs[i]!.2.length/\rs[i]!.2.length<=100000):=hv
 obtain ⟨a,cap,rfl,_⟩:=h
 obtain ⟨n,hN⟩:∃ n,n=rs.length:=⟨_,rfl⟩
 have N:Hid (n=rs.length):=hN
 rw [<- hN] at A hn ⊢
 clear hN hv
 obtain ⟨i0,hi,hz0,hz1,hz2⟩:=info_partsW
 obtain ⟨w1,hmk,ho,hg⟩:=run_make_own (P:=Tryz.prog) w w.heap.size 22 43 i0 (.agg #[.int .i64 0,.slice none 0 0]) 2 Tryz.underlying22 hi hz0 hz1 .i64 .i64 n (by rw [hz2];omega) (by simp only [maxLen];omega) (Nat.le_refl _)
 have O:Hid (OwnC w1 w.heap.size (.slice (some ⟨w.heap.size,0,none⟩) 0 n) (rs.take 0)/\Gb w w1):=⟨⟨by simp,[],ho,fun i hi=>absurd hi (by simp)⟩,below_grown (Below.refl _ _) hg (fun k e=>by cases e) (Nat.le_refl _)⟩
 clear hi hz0 hz1 hz2 ho hg
 go_enter Tryz.func52,Tryz.ntmps52
 go_wp2
 clear hmk
 go_loopw [3,11] (fun ov iv W=>∃ q:Nat,iv=.int .i64 (q:Int)/\q<=n/\Hid (OwnC W w.heap.size ov (rs.take q)/\Gb w W)) (fun _ iv _=>n - (intOf iv).toNat)
 case atStart=>exact ⟨0,rfl,Nat.zero_le _,O.out⟩
 case round =>
  clear O
  obtain ⟨q,rfl,hq,X⟩:=hrel
  by_cases hqn:q < n
  ·have hqi:(q:Int) < (n:Int):=by omega
   have hql:q < rs.length:=by have:=N.out;omega
   obtain ⟨_,_,e1,hA⟩:=A.out
   obtain ⟨b,o,u,ea,k1,k2,k3⟩:=hA q hql
   injection e1 with e2 e3 e4
   subst e2
   subst ea
   have NX:Hid (rs.take (q + 1)=rs.take q ++ [(rs[q]!.1,rs[q]!.2)]):=by unfold Hid;rw [List.take_succ_eq_append_getElem hql,getElem!_pos rs q hql]
   have NL:Hid ((rs.take q).length=q):=by unfold Hid;rw [List.length_take];omega
   have VB:=VL.out q hql
   generalize rs[q]!.1=x at *
   generalize rs[q]!.2=V at *
   have x0:=gb_keeps X.out.2 k1
   have x1:=gb_keeps X.out.2 k2
   have G1:Hid (Gb w (wr.alloc (.cells #[.int .i64 x,u] 43)).drew):=(gb_alloc X.out.2 _).drew
   have cC:=clone_c (k3.gb G1.out) VB.2 VB.1
   obtain ⟨pu,cu,eu,_⟩:=k3
   subst eu
   obtain ⟨gv,cv,ev⟩:=X.out.1.form
   obtain ⟨pv,hpv⟩:∃ pv,pv=some (⟨gv,0,none⟩:Addr):=⟨_,rfl⟩
   rw [<- hpv] at ev
   subst ev
   rw [NL.out]
   have XO:Hid (OwnC wr w.heap.size (.slice pv q cv) (rs.take q)):=by unfold Hid;have:=X.out.1;rwa [NL.out] at this
   obtain ⟨nu,hnu⟩:∃ nu,nu=V.length:=⟨_,rfl⟩
   rw [<- hnu] at x1 G1 cC
   have FS0:(wr.alloc (.cells #[.int .i64 x,.slice pu nu cu] 43)).drew.cell? ⟨wr.heap.size,0,none⟩=some (.int .i64 x)/\(wr.alloc (.cells #[.int .i64 x,.slice pu nu cu] 43)).drew.cell? ⟨wr.heap.size,1,none⟩=some (.slice pu nu cu):=⟨by simp [go_sem],by simp [go_sem]⟩
   have FIN:Hid (∀ w4 u4,Gb (wr.alloc (.cells #[.int .i64 x,.slice pu nu cu] 43)).drew w4->Own w4 (wr.alloc (.cells #[.int .i64 x,.slice pu nu cu] 43)).drew.heap.size u4 V ->
     ∃ v' W',(Builtin.append_ #[22,22] 22 #[.slice pv q cv,.slice (some ⟨w4.heap.size,0,none⟩) 1 1]).run Tryz.prog (w4.alloc (.cells #[.int .i64 x,u4] 43))=.ok v' W'/\(OwnC W' w.heap.size v' (rs.take (q + 1))/\Gb w W')/\∀ i y,(w4.alloc (.cells #[.int .i64 x,u4] 43)).cell? ⟨wr.heap.size,i,none⟩=some y->W'.cell? ⟨wr.heap.size,i,none⟩=some y):=by
    intro w4 u4 g4 o4
    rw [NX.out]
    obtain ⟨v',W',h1,h2,h3,h4⟩:=OwnC.next (x:=x) (u:=u4) (l:=V) (XO.out.gb (gb_trans (Below.drew (gb_alloc (Below.refl _ _) _)) g4)) (by rw [NL.out];omega) (gb_trans G1.out g4) (o4.mono G1.out.size)
    refine ⟨v',W',h1,⟨h2,h3⟩,fun i y hy=>h4 _ _ (fun e=>?_) hy⟩
    obtain ⟨_,xs,hx,_⟩:=XO.out
    have:=(hx.lt _ e).2
    dsimp only at this
    omega
   have KX:Hid (1<=V.length/\V.length<=100000):=VB
   clear hA e3 e4 k1 k2 hql X XO VB hnu
   go_wp2_with fail
   refine wp_region_held_drew (S:=fun W=>W.cell? ⟨wr.heap.size,0,none⟩=some (.int .i64 x)/\W.cell? ⟨wr.heap.size,1,none⟩=some (.slice pu nu cu)) (by kernel_rfl) (FS0) (fun hHeld=>?_)
   refine tkn 0 ?_ rfl ?_ ?_;rotate_left;·(rintro w ⟨s0,s1⟩;go_simp;try rfl)
   try simp only [pt]
   refine tkn 1 ?_ rfl ?_ ?_;rotate_left;·(rintro w ⟨s0,s1⟩;go_simp;try rfl)
   try simp only [pt]
   refine tkn 2 ?_ rfl ?_ ?_;rotate_left;·(rintro w ⟨s0,s1⟩;go_simp;try rfl)
   try simp only [pt]
   refine tkn 3 ?_ rfl ?_ ?_;rotate_left;·(rintro w ⟨s0,s1⟩;go_simp;try rfl)
   try simp only [pt]
   refine tkn 4 ?_ rfl ?_ ?_;rotate_left;·(rintro w ⟨s0,s1⟩;go_simp;try rfl)
   try simp only [pt]
   refine rdn 5 rfl (fun K hK=>?_)
   go_simp
   go_fit cC
   rintro e w4 ⟨v4,rfl,o4,g4⟩
   obtain ⟨a4,c4,e4,_⟩:=o4.rd
   subst e4
   refine hK.out _ _ (⟨gb_keeps g4 hHeld.1,gb_keeps g4 hHeld.2⟩) (fun hHeld=>?_)
   clear hK K
   try simp only [pt]
   refine tkn 6 ?_ rfl ?_ ?_;rotate_left;·(rintro w ⟨s0,s1⟩;go_simp;try rfl)
   try simp only [pt]
   have F4:=FIN.out w4 _ g4 o4
   obtain ⟨v5,w5,hrun,XN,S5⟩:=F4
   generalize V.length=nV at *
   clear o4 FIN
   refine rdn 7 rfl (fun K hK=>?_)
   go_simp
   refine hK.out _ _ (⟨gb_keeps (gb_alloc (Below.refl _ _) _) hHeld.1,gb_keeps (gb_alloc (Below.refl _ _) _) hHeld.2⟩) (fun hHeld=>?_)
   clear hK K
   try simp only [pt]
   refine rdn 8 rfl (fun K hK=>?_)
   refine app_run (by rfl) _ _ _ (by rfl) ⟨.slice pv q cv,.slice (some ⟨w4.heap.size,0,none⟩) 1 1,_,_,(by go_simp),(by go_simp),hrun,?_⟩
   refine hK.out _ _ ⟨S5 _ _ hHeld.1,S5 _ _ hHeld.2⟩ (fun hHeld=>?_)
   clear hK K
   try simp only [pt]
   refine tkn 9 ?_ rfl ?_ ?_;rotate_left;·(rintro w ⟨s0,s1⟩;go_simp;try rfl)
   try simp only [pt]
   refine wpAnyH_done (by kernel_rfl) ?_ _
   clear hrun hHeld S5
   go_wp2
   go_roundw
   case rel=>exact ⟨q + 1,by first | rfl | go_num,hqn,XN⟩
   case measure=>simp [intOf];omega
  ·have hqi:¬ (q:Int) < (n:Int):=by omega
   have e:q=n:=by omega
   subst e
   have XE:Hid (OwnC wr w.heap.size u3 rs/\Gb w wr):=by
    have:=X.out
    rwa [List.take_of_length_le (by have:=N.out;omega)] at this
   clear X
   go_wp2
   go_ret
   exact ⟨_,rfl,XE.out⟩
end Go.Proofs.YtcipdampcmfmaaaGreat
