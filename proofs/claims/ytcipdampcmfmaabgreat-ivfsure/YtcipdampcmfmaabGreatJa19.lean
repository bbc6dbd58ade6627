import Derived.Test.YtcipdampcmfmaabGreatJa18
import Derived.Test.YtcipdampcmfmaabGreatJa4
import Derived.Test.YtcipdampcmfmaabGreatJa9
import Derived.Test.YtcipdampcmfmaabGreatJa1
import Derived.Test.YtcipdampcmfmaabGreatJa5
namespace Go.Proofs.YtcipdampcmfmaabGreat
open Go.Shelf Go.RowKit Go.Lib Go.Sort
shelf_lay_g SlLaysF0.n6 Slsf 6 at Tryz 40 as Tryz.laidSortR
abbrev Rt:=Int × Value × List Int
abbrev encR (x:Rt):List Value:=[.int .i64 x.1,x.2.1]
abbrev rwR (x:Rt):Rw:=(x.1,x.2.2)
def RwAt (w:World) (g o:Nat) (d:List Rt):Prop:=∃ cur,w.heap[g]? = some (.cells cur 45 (0,0))/\o + d.length * 2<=cur.size/\∀ i (h:i < d.length),cur[o + i * 2]? = some (.int .i64 d[i].1)/\cur[o + i * 2 + 1]? = some d[i].2.1
theorem cell_cur {w:World} {g i:Nat} {cur:Array Value} {t:TypeId} {s:Nat × Nat} {v:Value} (h:w.heap[g]? = some (.cells cur t s)) (hc:cur[i]? = some v):w.cell? ⟨g,i,none⟩=some v:=by
 simp [World.cell?,h,hc]
theorem cur_cell {w:World} {g i:Nat} {cur:Array Value} {t:TypeId} {s:Nat × Nat} {v:Value} (h:w.heap[g]? = some (.cells cur t s)) (hc:w.cell? ⟨g,i,none⟩=some v):cur[i]? = some v:=by
 simpa [World.cell?,h] using hc
structure Srt (w w':World) (g o n:Nat):Prop where
 kp:Tk.Kp (fun b=>b=g) w w'
 blk:∀ cur,w.heap[g]? = some (.cells cur 45 (0,0))->∃ cur',w'.heap[g]? = some (.cells cur' 45 (0,0))/\cur'.size=cur.size/\∀ i,(i < o ∨ o + n * 2<=i)->cur'[i]? = cur[i]?
theorem sort_heap {α:Type} [Inhabited α] (enc:α->List Value) (w:World) (g o m:Nat) (d:Array α) (os:Array Obj) {cur:Array Value} (h:w.heap[g]? = some (.cells cur 45 (0,0))) :
  (sortWorldK enc 2 w g o m d os).heap[g]? = some (.cells (putCells id o (flatK enc 2 d) cur) 45 (0,0)):=by
 have hlt:=(Array.getElem?_eq_some_iff.1 h).1
 unfold sortWorldK
 rw [heap_grow_old _ _ (by simp [putRowK,putRow,mapBlock];exact hlt)]
 simp [putRowK,putRow,mapBlock,Array.getElem?_modify,h,onCells]
theorem sort_kp {α:Type} [Inhabited α] (enc:α->List Value) (w:World) (g o m:Nat) (d:Array α) (os:Array Obj):Tk.Kp (fun b=>b=g) w (sortWorldK enc 2 w g o m d os):=by
 unfold sortWorldK
 refine Tk.Kp.trans (b:=putRowK enc 2 (Sort.ahead w m) g o d) ⟨rfl,rfl,rfl,by simp [putRowK,putRow,mapBlock],fun k _ hn=>?_⟩ (Tk.Kp.of_gr (Tk.gr_grow _ _))
 simp [putRowK,putRow,mapBlock,Array.getElem?_modify,Ne.symm hn]
theorem rdi_kp {S:Nat->Prop} {w w':World} {u:Value} {l:List Int} (h:RdI w u l) (k:Tk.Kp S w w') (hn:∀ b o n c,u=.slice (some ⟨b,o,none⟩) n c->¬ S b):RdI w' u l:=by
 obtain ⟨a,cap,rfl,h⟩:=h
 refine ⟨a,cap,rfl,fun i hi=>?_⟩
 obtain ⟨b,o,rfl,hc⟩:=h i hi
 exact ⟨b,o,rfl,k.cell hc (hn _ _ _ _ rfl)⟩
theorem sortR {w:World} {g o cap fn:Nat} {d:List Rt} {cb:Array Value} {cf:Rt->Rt->Int} (ok:Rt->Prop) (hd:RwAt w g o d) (hne:d ≠ []) (hlen:d.length<=4000) (hok:∀ x ∈ d,ok x) (hone:∀ x,ok x->x.2.1.oneCell'=true)
  (hO:SWO (fun x y:Rt=>decide (cf x y < 0))) (eg:∀ args w,(callFunc fn args).run Tryz.prog w=.ok (.enter fn args) w)
  (hc:∀ W,Tk.Kp (fun b=>b=g) w W->∀ x y,ok x->ok y->Calls Tryz.prog fn (#[.agg #[.int .i64 x.1,x.2.1],.agg #[.int .i64 y.1,y.2.1]] ++ cb) W fun e w'=>e=.returned (.int .i64 (cf x y))/\Tk.Gw W w') :
  Calls Tryz.prog 40 #[.slice (some ⟨g,o,none⟩) d.length cap,.func (.func fn) #[] cb] w fun e w'=>e=.returned (.tuple #[])/\∃ d',d'.Perm d/\(d'.Pairwise fun x y=>¬ cf y x < 0)/\RwAt w' g o d'/\Srt w w' g o d.length:=by
 haveI:Inhabited {x // ok x}:=⟨⟨d.head hne,hok _ (List.head_mem hne)⟩⟩
 obtain ⟨cur,hcur,hsz,hcells⟩:=hd
 have hlt:=(Array.getElem?_eq_some_iff.1 hcur).1
 obtain ⟨A,hA⟩:∃ A:Array {x // ok x},A=(d.attachWith ok hok).toArray:=⟨_,rfl⟩
 have hAs:A.size=d.length:=by rw [hA];simp
 have hAg:∀ i (h:i < d.length),(A[i]!).1=d[i]:=by
  intro i h
  rw [getElem!_pos A i (by omega)]
  subst hA
  simp
 have hH:HoldsK (fun x:{x // ok x}=>encR x.1) 2 w g o A:=by
  intro t ht
  have ht':t < d.length * 2:=by simpa [hAs] using ht
  have hi:t / 2 < d.length:=by omega
  have e:(flatK (fun x:{x // ok x}=>encR x.1) 2 A)[t]! = (encR d[t / 2])[t % 2]! := by
   rw [get_flatK _ _ _ _ (by rw [hAs];exact ht'),hAg _ hi]
  refine ⟨?_,by simp [World.frozen?,hcur]⟩
  rw [e]
  obtain ⟨c0,c1⟩:=hcells (t / 2) hi
  rcases Nat.mod_two_eq_zero_or_one t with h0 | h0
  ·rw [h0];exact cell_cur hcur (by rw [show o + t=o + t / 2 * 2 by omega];exact c0)
  ·rw [h0];exact cell_cur hcur (by rw [show o + t=o + t / 2 * 2 + 1 by omega];exact c1)
 have hS:SWO (ltOf fun x y:{x // ok x}=>cf x.1 y.1):=⟨fun x=>hO.irrefl x.1,fun x y z=>hO.trans x.1 y.1 z.1,fun x y z=>hO.ntrans x.1 y.1 z.1⟩
 have hcmp:CmpLays Tryz.prog fn cb (fun x:{x // ok x}=>encR x.1) 2 (fun x y=>cf x.1 y.1) g o A.size w:=by
  intro m os dk _ x y
  exact hc _ (sort_kp _ _ _ _ _ _ _) x.1 y.1 x.2 y.2
 have hs:=AnyQ.slices_SortFunc Tryz.laidSortR 2 Tryz.isAgg45 Tryz.sizeOf45 (fun x:{x // ok x}=>encR x.1) (fun _=>rfl) (fun x v hv=>by
  simp only [encR,List.mem_cons,List.not_mem_nil,or_false] at hv
  rcases hv with rfl | rfl
  ·rfl
  ·exact hone x.1 x.2) (fun x y=>cf x.1 y.1) hS fn cb g o cap A w eg hcmp hH hlt (by omega)
 rw [hAs] at hs
 change Calls Tryz.prog 40 _ _ _ at hs
 refine hs.mono ?_
 rintro e w' ⟨rfl,D,m,os,⟨hP0,_,hP⟩,hSo,rfl⟩
 have hDs:D.size=d.length:=by rw [hP0,hAs]
 rw [show d.length=A.size from hAs.symm,Array.extract_size,hAs] at hP
 rw [show D.extract 0 d.length=D by rw [<- hDs];exact Array.extract_size] at hP
 have hDl:(D.toList.map Subtype.val).length=d.length:=by simp [hDs]
 have hDg:∀ i (h:i < (D.toList.map Subtype.val).length),(D.toList.map Subtype.val)[i]=(D[i]!).1:=by
  intro i h
  rw [getElem!_pos D i (by rw [hDl] at h;omega)]
  simp
 refine ⟨rfl,D.toList.map Subtype.val,?_,?_,?_,?_⟩
 ·have:=hP.map Subtype.val
  refine this.trans (List.Perm.of_eq ?_)
  rw [hA]
  simp only []
  first | exact List.attachWith_map_subtype_val _ | exact List.attachWith_map_val _ | (simp;exact List.attach_map_subtype_val d)
 ·rw [List.pairwise_iff_getElem]
  intro i j hi hj hij
  rw [hDg i hi,hDg j hj]
  have:=hSo i j (Nat.zero_le _) hij (by rw [hDl] at hj;exact hj)
  unfold ltOf at this
  exact of_decide_eq_false this
 ·refine ⟨_,sort_heap _ w g o m D os hcur,by rw [hDl];simpa [putCells] using hsz,fun i h=>?_⟩
  rw [hDg i h]
  have hi:i < d.length:=by rw [hDl] at h;exact h
  have key:∀ t,t < d.length * 2->(putCells id o (flatK (fun x:{x // ok x}=>encR x.1) 2 D) cur)[o + t]? = some ((encR (D[t / 2]!).1)[t % 2]!):=by
   intro t ht
   have hb:o + t < cur.size:=by omega
   simp only [putCells,Array.getElem?_mapIdx,Array.getElem?_eq_getElem hb,Option.map_some]
   rw [if_pos ⟨by omega,by simp [hDs];omega⟩,show o + t - o=t by omega,get_flatK _ _ _ _ (by rw [hDs];exact ht)]
   rfl
  have k0:=key (i * 2) (by omega)
  have k1:=key (i * 2 + 1) (by omega)
  rw [show i * 2 / 2=i by omega,show i * 2 % 2=0 by omega] at k0
  rw [show (i * 2 + 1) / 2=i by omega,show (i * 2 + 1) % 2=1 by omega] at k1
  exact ⟨k0,by rw [Nat.add_assoc];exact k1⟩
 ·refine ⟨sort_kp _ _ _ _ _ _ _,fun cur2 h2=>?_⟩
  rw [hcur] at h2
  injection h2 with h2
  injection h2 with h2 _ _
  subst h2
  refine ⟨_,sort_heap _ w g o m D os hcur,by simp [putCells],fun i hi=>?_⟩
  simp only [putCells,Array.getElem?_mapIdx]
  have hn2:¬ (o<=i/\i < o + (flatK (fun x:{x // ok x}=>encR x.1) 2 D).size):=by simp [hDs];omega
  cases hcc:cur[i]? with
  | none=>rfl
  | some c=>rw [Option.map_some,if_neg hn2]
end Go.Proofs.YtcipdampcmfmaabGreat

namespace Go.Proofs.YtcipdampcmfmaabGreat
open Go.Shelf Go.RowKit Go.Lib Go.Sort
set_option maxHeartbeats 1000000
theorem swoId:SWO (fun x y:Rt=>decide (Tk.ci x.1 y.1 < 0)):=by
 have e:∀ a b:Int,decide (Tk.ci a b < 0)=decide (a < b):=fun a b=>by
  unfold Tk.ci
  split
  ·rename_i h;simp [h]
  ·rename_i h;split <;> simp [h]
 refine ⟨fun x=>?_,fun x y z=>?_,fun x y z=>?_⟩ <;> simp only [e,decide_eq_true_eq,decide_eq_false_iff_not] <;> omega
structure RtOk (w:World) (g n:Nat) (x:Rt):Prop where
 rd:RdI w x.2.1 x.2.2
 len:x.2.2.length=n
 ne:∀ b o n c,x.2.1=.slice (some ⟨b,o,none⟩) n c->b ≠ g
theorem RtOk.one {w:World} {g n:Nat} {x:Rt} (h:RtOk w g n x):x.2.1.oneCell'=true:=by
 obtain ⟨a,c,e,_⟩:=h.rd
 rw [e];rfl
theorem RtOk.kp {w w':World} {g n:Nat} {x:Rt} (h:RtOk w g n x) (k:Tk.Kp (fun b=>b=g) w w'):RtOk w' g n x :=
 ⟨rdi_kp h.rd k (fun b o n c e=>h.ne b o n c e),h.len,h.ne⟩
theorem build1_c (x y:Int) (u v:Value) (hu:u.oneCell'=true) (hv:v.oneCell'=true) (w:World) :
  Calls Tryz.prog 41 #[.agg #[.int .i64 x,u],.agg #[.int .i64 y,v]] w fun e w'=>e=.returned (.int .i64 (Tk.ci x y))/\Tk.Gw w w':=by
 have cC:=fun W=>compare_g x y W
 have hcu:u.cells=#[u]:=by first | exact Value.cells_of_oneCell' hu | (cases u <;> simp_all [Value.oneCell',Value.cells])
 have hcv:v.cells=#[v]:=by first | exact Value.cells_of_oneCell' hv | (cases v <;> simp_all [Value.oneCell',Value.cells])
 go_enter Tryz.func41,Tryz.ntmps41
 go_wp2_with fail
 refine (cC _).mono ?_
 rintro e w' ⟨rfl,hg⟩
 go_wp2
 go_ret
 exact ⟨rfl,(((Tk.Gw.refl _).alloc _).alloc _).trans hg⟩
theorem find1_c (x y:Int) (u:Value) (hu:u.oneCell'=true) (w:World) :
  Calls Tryz.prog 88 #[.agg #[.int .i64 x,u],.int .i64 y] w fun e w'=>e=.returned (.int .i64 (Tk.ci x y))/\Tk.Gw w w':=by
 have cC:=fun W=>compare_g x y W
 have hcu:u.cells=#[u]:=by first | exact Value.cells_of_oneCell' hu | (cases u <;> simp_all [Value.oneCell',Value.cells])
 go_enter Tryz.func88,Tryz.ntmps88
 go_wp2_with fail
 refine (cC _).mono ?_
 rintro e w' ⟨rfl,hg⟩
 go_wp2
 go_ret
 exact ⟨rfl,((Tk.Gw.refl _).alloc _).trans hg⟩
theorem sortId_c {w:World} {g o cap n:Nat} {d:List Rt} (hd:RwAt w g o d) (hne:d ≠ []) (hlen:d.length<=4000) (hok:∀ x ∈ d,RtOk w g n x) :
  Calls Tryz.prog 40 #[.slice (some ⟨g,o,none⟩) d.length cap,.func (.func 41) #[] #[]] w fun e w'=>e=.returned (.tuple #[])/\∃ d',d'.Perm d/\(d'.Pairwise fun x y=>¬ Tk.ci y.1 x.1 < 0)/\RwAt w' g o d'/\Srt w w' g o d.length :=
 sortR (cf:=fun x y=>Tk.ci x.1 y.1) (RtOk w g n) hd hne hlen hok (fun _ h=>h.one) swoId (enters_of Tryz.func41 (by kernel_rfl) rfl)
  (fun W _ x y hx hy=>build1_c _ _ _ _ hx.one hy.one W)
theorem sort_none (a:Option Addr) (cap:Nat) (fv:Value) (w:World):Calls Tryz.prog 40 #[.slice a 0 cap,fv] w fun e w'=>e=.returned (.tuple #[])/\w'=w:=by
 have hc:=AnyF.slices_SortFunc_none Tryz.laidSortR a cap fv w
 exact hc
def RwRd (w:World) (g o:Nat) (d:List Rt):Prop:=∀ i (h:i < d.length),w.cell? ⟨g,o + i * 2,none⟩=some (.int .i64 d[i].1)/\w.cell? ⟨g,o + i * 2 + 1,none⟩=some d[i].2.1
theorem RwAt.rd {w:World} {g o:Nat} {d:List Rt} (h:RwAt w g o d):RwRd w g o d:=by
 obtain ⟨cur,h1,_,h3⟩:=h
 intro i hi
 exact ⟨cell_cur h1 (h3 i hi).1,cell_cur h1 (h3 i hi).2⟩
theorem flR_get (d:List Rt) (t:Nat):(d.flatMap encR)[t]? = if h:t / 2 < d.length then (encR d[t / 2])[t % 2]? else none:=by
 induction d generalizing t with
 | nil=>simp
 | cons x r ih =>
  rw [List.flatMap_cons]
  by_cases h:t < 2
  ·rw [List.getElem?_append_left (by simpa using h)]
   have h0:t / 2=0:=by omega
   have h1:t % 2=t:=by omega
   simp [h0,h1]
  ·rw [List.getElem?_append_right (by simp;omega),show t - (encR x).length=t - 2 by rfl,ih]
   have h0:t / 2=(t - 2) / 2 + 1:=by omega
   have h1:t % 2=(t - 2) % 2:=by omega
   simp only [h0,h1,List.length_cons,Nat.add_lt_add_iff_right,List.getElem_cons_succ]
theorem flR_len (d:List Rt):(d.flatMap encR).length=d.length * 2:=by
 induction d with
 | nil=>rfl
 | cons x r ih=>rw [List.flatMap_cons,List.length_append,ih,List.length_cons];simp;omega
theorem rwAt_own {w:World} {B g n cap:Nat} {d:List Rt} (h:w.ownsRow B 45 2 (.slice (some ⟨g,0,none⟩) n cap) d.length (d.flatMap encR)):RwAt w g 0 d/\B<=g/\g < w.heap.size:=by
 rcases h.2 with ⟨e,_⟩ | ⟨g',cap',cur,e,hB,hh,hle,_,hsz,htk⟩
 ·cases e
 ·cases e
  refine ⟨⟨cur,hh,by omega,fun i hi=>?_⟩,hB,(Array.getElem?_eq_some_iff.1 hh).1⟩
  have key:∀ t,t < d.length * 2->cur[t]? = (d.flatMap encR)[t]? := fun t ht=>by
   rw [<- htk,List.getElem?_take_of_lt ht,Array.getElem?_toList]
  rw [Nat.zero_add,key _ (by omega),key _ (by omega),flR_get,flR_get,show i * 2 / 2=i by omega,show (i * 2 + 1) / 2=i by omega,show i * 2 % 2=0 by omega,show (i * 2 + 1) % 2=1 by omega,dif_pos hi,dif_pos hi]
  exact ⟨rfl,rfl⟩
end Go.Proofs.YtcipdampcmfmaabGreat

namespace Go.Proofs.YtcipdampcmfmaabGreat
open Go.RowKit Go.Sort
set_option maxRecDepth 100000
set_option maxHeartbeats 2000000
def plc (rs:List Rw) (id:Int):Nat:=(rs.filter fun r=>decide (r.1 < id)).length
def hasId (rs:List Rw) (id:Int):Bool:=rs.any fun r=>decide (r.1=id)
theorem plc_of {rs:List Rw} {id:Int} {i:Nat} (hi:i<=rs.length) (h1:∀ t (h:t < rs.length),t < i->rs[t].1 < id) (h2:∀ t (h:t < rs.length),i<=t->¬ rs[t].1 < id):plc rs id=i:=by
 unfold plc
 rw [<- List.take_append_drop i rs,List.filter_append,List.length_append]
 rw [List.filter_eq_self.2 (by
  intro r hr
  obtain ⟨t,ht,rfl⟩:=List.getElem_of_mem hr
  rw [List.length_take] at ht
  rw [List.getElem_take]
  exact decide_eq_true (h1 t (by omega) (by omega))),List.filter_eq_nil_iff.2 (by
  intro r hr
  obtain ⟨t,ht,rfl⟩:=List.getElem_of_mem hr
  rw [List.length_drop] at ht
  rw [List.getElem_drop]
  simpa using h2 (i + t) (by omega) (by omega))]
 rw [List.length_take]
 simp
 omega
theorem rise_le {d:List Rt} (h:(d.map rwR).Pairwise fun x y=>x.1 < y.1) {a b:Nat} (hb:b < d.length) (hab:a<=b):(d[a]'(by omega)).1<=d[b].1:=by
 by_cases e:a=b
 ·subst e;exact Int.le_refl _
 ·rw [List.pairwise_iff_getElem] at h
  have:=h a b (by simp;omega) (by simpa using hb) (by omega)
  simp only [List.getElem_map,rwR] at this
  omega
theorem has_at {d:List Rt} {id:Int} {j:Nat} (h:(d.map rwR).Pairwise fun x y=>x.1 < y.1) (hj:j < d.length) (h1:∀ t (h:t < d.length),t < j->d[t].1 < id) (h2:∀ t (h:t < d.length),j<=t->id<=d[t].1):hasId (d.map rwR) id=decide (d[j].1=id):=by
 unfold hasId
 rw [Bool.eq_iff_iff,List.any_eq_true,decide_eq_true_eq]
 constructor
 ·rintro ⟨r,hr,he⟩
  obtain ⟨t,ht,rfl⟩:=List.getElem_of_mem hr
  have ht':t < d.length:=by simpa using ht
  simp only [List.getElem_map,rwR,decide_eq_true_eq] at he
  by_cases c:t < j
  ·have:=h1 t ht' c;omega
  ·have h3:=rise_le h ht' (a:=j) (by omega)
   have h4:=h2 j hj (Nat.le_refl _)
   omega
 ·intro he
  exact ⟨rwR d[j],List.mem_map.2 ⟨d[j],List.getElem_mem hj,rfl⟩,by simp [he]⟩
theorem bsr_c {w:World} {g o cap:Nat} {d:List Rt} (hd:RwRd w g o d) (hone:∀ x ∈ d,x.2.1.oneCell'=true) (hn:d.length<=4000) (id:Int) (hs:(d.map rwR).Pairwise fun x y=>x.1 < y.1) :
  Calls Tryz.prog 87 #[.slice (some ⟨g,o,none⟩) d.length cap,.int .i64 id,.func (.func 88) #[] #[]] w fun e w'=>e=.returned (.tuple #[.int .i64 (plc (d.map rwR) id:Nat),.bool (hasId (d.map rwR) id)])/\Tk.Gw w w':=by
 have HD:Hid (RwRd w g o d/\(∀ x ∈ d,x.2.1.oneCell'=true)):=⟨hd,hone⟩
 obtain ⟨n,hN⟩:∃ n,n=d.length:=⟨_,rfl⟩
 have N:Hid (n=d.length):=hN
 rw [<- hN] at hn ⊢
 have SR:Hid ((d.map rwR).Pairwise fun x y=>x.1 < y.1):=hs
 obtain ⟨pl,hpl⟩:∃ pl,pl=plc (d.map rwR) id:=⟨_,rfl⟩
 obtain ⟨fd,hfd⟩:∃ fd,fd=hasId (d.map rwR) id:=⟨_,rfl⟩
 have PF:Hid (pl=plc (d.map rwR) id/\fd=hasId (d.map rwR) id):=⟨hpl,hfd⟩
 rw [<- hpl,<- hfd]
 clear hd hone hs hN hpl hfd
 go_enter Tryz.func87,Tryz.ntmps87
 go_wp2
 go_loopw [9,10] (fun iv jv W=>∃ i j:Nat,iv=.int .i64 (i:Int)/\jv=.int .i64 (j:Int)/\i<=j/\j<=n/\Hid ((∀ t (h:t < d.length),t < i->d[t].1 < id)/\(∀ t (h:t < d.length),j<=t->id<=d[t].1)/\Tk.Gw w W)) (fun iv jv _=>(intOf jv).toNat - (intOf iv).toNat)
 case atStart=>exact ⟨0,n,rfl,rfl,Nat.zero_le _,Nat.le_refl _,fun t _ h=>absurd h (Nat.not_lt_zero _),fun t h h2=>absurd h (by have:=N.out;omega),Tk.Gw.refl _⟩
 case round =>
  obtain ⟨i,j,rfl,rfl,hij,hjn,X⟩:=hrel
  by_cases hlt:i < j
  ·have hlti:(i:Int) < (j:Int):=by omega
   have hm:(i + j) / 2 < d.length:=by have:=N.out;omega
   obtain ⟨k1,k2⟩:=HD.out.1 ((i + j) / 2) hm
   have ho:=HD.out.2 _ (List.getElem_mem hm)
   obtain ⟨x,hx⟩:∃ x,x=d[(i + j) / 2]:=⟨_,rfl⟩
   rw [<- hx] at k1 k2 ho
   have XH:Hid (d[(i + j) / 2]? = some x):=by unfold Hid;rw [List.getElem?_eq_getElem hm,hx]
   obtain ⟨xi,u,xl⟩:=x
   dsimp only at k1 k2 ho
   have k1:=Tk.gr_keeps X.out.2.2.gr k1
   have k2:=Tk.gr_keeps X.out.2.2.gr k2
   have hcu:u.cells=#[u]:=by first | exact Value.cells_of_oneCell' ho | (cases u <;> simp_all [Value.oneCell',Value.cells])
   have cF:=find1_c xi id u ho
   clear hx hm
   have MX:Hid ((xi < id->∀ t (h:t < d.length),t < (i + j) / 2 + 1->d[t].1 < id)/\(¬ xi < id->∀ t (h:t < d.length),(i + j) / 2<=t->id<=d[t].1)):=by
    have hm:(i + j) / 2 < d.length:=by have:=N.out;omega
    have hx:=XH.out
    rw [List.getElem?_eq_getElem hm] at hx
    injection hx with hx
    refine ⟨fun h t ht h2=>?_,fun h t ht h2=>?_⟩
    ·have:=rise_le SR.out (a:=t) (b:=(i + j) / 2) hm (by omega)
     rw [hx] at this
     dsimp only at this
     omega
    ·have:=rise_le SR.out (a:=(i + j) / 2) (b:=t) ht h2
     rw [hx] at this
     dsimp only at this
     omega
   by_cases hxi:xi < id
   ·have hc:Tk.ci xi id=-1:=by unfold Tk.ci;rw [if_pos hxi]
    rw [hc] at cF
    have I2:=MX.out.1 hxi
    have YX:Hid ((∀ t (h:t < d.length),t < (i + j) / 2 + 1->d[t].1 < id)/\(∀ t (h:t < d.length),j<=t->id<=d[t].1)/\Tk.Gw w wr):=⟨I2,X.out.2⟩
    clear I2 MX XH X hc
    go_wp2_with fail
    refine (cF wr).mono ?_
    rintro e w' ⟨rfl,hg⟩
    have HG:Hid (Tk.Gw wr w'):=hg
    clear cF k1 k2 hg
    go_wp2
    go_roundw
    case rel=>exact ⟨(i + j) / 2 + 1,j,by rw [show ((i:Int) + (j:Int)) / 2 + 1=(((i + j) / 2 + 1:Nat):Int) by omega],rfl,by omega,hjn,YX.out.1,YX.out.2.1,YX.out.2.2.trans HG.out⟩
    case measure=>simp [intOf];omega
   ·have hc:¬ Tk.ci xi id < 0:=(ci_neg _ _).2 (by omega)
    generalize Tk.ci xi id=z at *
    have I2:=MX.out.2 hxi
    have YX:Hid ((∀ t (h:t < d.length),t < i->d[t].1 < id)/\(∀ t (h:t < d.length),(i + j) / 2<=t->id<=d[t].1)/\Tk.Gw w wr):=⟨X.out.1,I2,X.out.2.2⟩
    clear I2 MX XH X
    go_wp2_with fail
    refine (cF wr).mono ?_
    rintro e w' ⟨rfl,hg⟩
    have HG:Hid (Tk.Gw wr w'):=hg
    clear cF k1 k2 hg
    go_wp2
    go_roundw
    case rel=>exact ⟨i,(i + j) / 2,rfl,by rw [show ((i:Int) + (j:Int)) / 2=(((i + j) / 2:Nat):Int) by omega],by omega,by omega,YX.out.1,YX.out.2.1,YX.out.2.2.trans HG.out⟩
    case measure=>simp [intOf];omega
  ·obtain rfl:j=i:=by omega
   have hlti:¬ (j:Int) < (j:Int):=by omega
   have PL:Hid (pl=j):=PF.out.1.trans <| plc_of (by rw [List.length_map];have:=N.out;omega) (fun t h h2=>by have:=X.out.1 t (by simpa using h) h2;simpa using this) (fun t h h2=>by have:=X.out.2.1 t (by simpa using h) h2;simp;omega)
   have GW:Hid (Tk.Gw w wr):=X.out.2.2
   by_cases hjl:j < n
   ·have hjli:(j:Int) < (n:Int):=by omega
    have hm:j < d.length:=by have:=N.out;omega
    obtain ⟨k1,k2⟩:=HD.out.1 j hm
    have ho:=HD.out.2 _ (List.getElem_mem hm)
    have FI:fd=decide (d[j].1=id):=PF.out.2.trans (has_at SR.out hm X.out.1 X.out.2.1)
    obtain ⟨x,hx⟩:∃ x,x=d[j]:=⟨_,rfl⟩
    rw [<- hx] at k1 k2 ho FI
    obtain ⟨xi,u,xl⟩:=x
    dsimp only at k1 k2 ho FI
    have FI2:Hid (fd=decide (xi=id)):=FI
    have k1:=Tk.gr_keeps X.out.2.2.gr k1
    have k2:=Tk.gr_keeps X.out.2.2.gr k2
    have hcu:u.cells=#[u]:=by first | exact Value.cells_of_oneCell' ho | (cases u <;> simp_all [Value.oneCell',Value.cells])
    have cF:=find1_c xi id u ho
    have hz:(Tk.ci xi id == 0)=decide (xi=id):=by
     unfold Tk.ci
     split
     ·rename_i h;rw [decide_eq_false (by omega)];rfl
     ·split
      ·rename_i h;rw [decide_eq_false (by omega)];rfl
      ·rw [decide_eq_true (by omega)];rfl
    generalize decide (xi=id)=q at *
    generalize Tk.ci xi id=z at *
    clear hx hm X FI
    go_wp2_with fail
    refine (cF wr).mono ?_
    rintro e w' ⟨rfl,hg⟩
    have HG:Hid (Tk.Gw w w'):=GW.out.trans hg
    clear cF k1 k2 hg GW
    go_wp2
    exact bodyPost_ret (v:=.tuple #[.int .i64 (j:Int),.bool q]) (by simp [results,Tryz.results87,go_sem]) rfl ⟨by rw [PL.out,FI2.out],HG.out⟩
   ·have hjli:¬ (j:Int) < (n:Int):=by omega
    have FI:Hid (fd=false):=by
     unfold Hid
     rw [PF.out.2]
     unfold hasId
     rw [List.any_eq_false]
     intro r hr
     obtain ⟨t,ht,rfl⟩:=List.getElem_of_mem hr
     have ht':t < d.length:=by simpa using ht
     have:=X.out.1 t ht' (by have:=N.out;omega)
     simp
     omega
    clear X
    go_wp2
    exact bodyPost_ret (v:=.tuple #[.int .i64 (j:Int),.bool false]) (by simp [results,Tryz.results87,go_sem]) rfl ⟨by rw [PL.out,FI.out],GW.out⟩
theorem among_c {w:World} {g o cap:Nat} {d:List Rt} (hd:RwRd w g o d) (hone:∀ x ∈ d,x.2.1.oneCell'=true) (hn:d.length<=4000) (id:Int) (hs:(d.map rwR).Pairwise fun x y=>x.1 < y.1) :
  Calls Tryz.prog 59 #[.slice (some ⟨g,o,none⟩) d.length cap,.int .i64 id] w fun e w'=>e=.returned (.int .i64 (plc (d.map rwR) id:Nat))/\Tk.Gw w w':=by
 have cB:=bsr_c (cap:=cap) hd hone hn id hs
 generalize plc (d.map rwR) id=pl at *
 generalize hasId (d.map rwR) id=fd at *
 generalize d.length=n at *
 clear hd hone hs hn
 go_enter Tryz.func59,Tryz.ntmps59
 go_wp2_with fail
 go_fit cB
 rintro e w1 ⟨rfl,g1⟩
 have G:Hid (Tk.Gw w w1):=g1
 clear g1 cB
 go_wp2
 go_ret
 exact ⟨rfl,G.out⟩
end Go.Proofs.YtcipdampcmfmaabGreat

namespace Go.Proofs.YtcipdampcmfmaabGreat
open Go.RowKit
abbrev Vs:Type:=List (List Int)
def vecsTo (vs:Vs) (d:Int):Nat->Int
 | 0=>0
 | q + 1=>if vecsTo vs d q=0 then chk vs[q]! d else vecsTo vs d q
def vecsE (vs:Vs) (d:Int):Int:=vecsTo vs d vs.length
theorem vecsTo_stay {vs:Vs} {d:Int} {p q:Nat} (hpq:p<=q) (h:vecsTo vs d p ≠ 0):vecsTo vs d q=vecsTo vs d p:=by
 induction q with
 | zero =>
   have:p=0:=by omega
   subst this;rfl
 | succ q ih =>
  by_cases e:p=q + 1
  ·subst e;rfl
  ·have h1:=ih (by omega)
   rw [vecsTo,h1,if_neg h]
theorem vecsTo_err {vs:Vs} {d:Int} {q:Nat} (hq:q < vs.length) (h0:vecsTo vs d q=0) (h:chk vs[q]! d ≠ 0):vecsE vs d=chk vs[q]! d:=by
 have h1:vecsTo vs d (q + 1)=chk vs[q]! d:=by rw [vecsTo,if_pos h0]
 rw [vecsE,vecsTo_stay (p:=q + 1) (by omega) (by rw [h1];exact h),h1]
theorem vecsTo_next {vs:Vs} {d:Int} {q:Nat} (h0:vecsTo vs d q=0) (h:chk vs[q]! d=0):vecsTo vs d (q + 1)=0:=by rw [vecsTo,if_pos h0,h]
theorem vecsTo_zero {vs:Vs} {d:Int}:∀ q,vecsTo vs d q=0 ↔ ∀ i,i < q->chk vs[i]! d=0
 | 0=>⟨fun _ i hi=>absurd hi (Nat.not_lt_zero _),fun _=>rfl⟩
 | q + 1=>by
  rw [vecsTo]
  constructor
  ·intro h
   split at h
   ·rename_i h0
    intro i hi
    by_cases e:i=q
    ·subst e;exact h
    ·exact (vecsTo_zero q).1 h0 i (by omega)
   ·rename_i h0;exact absurd h h0
  ·intro h
   rw [if_pos ((vecsTo_zero q).2 fun i hi=>h i (by omega))]
   exact h q (by omega)
def VsOk (vs:Vs) (d:Int):Prop:=∀ i,i < vs.length->chk vs[i]! d=0
theorem vecsE_zero {vs:Vs} {d:Int}:vecsE vs d=0 ↔ VsOk vs d:=vecsTo_zero _
theorem VsOk.get {vs:Vs} {d:Int} (h:VsOk vs d) {i:Nat} (hi:i < vs.length):1<=vs[i]!.length/\vs[i]!.length<=64/\d=(vs[i]!.length:Int)/\allR vs[i]! = true:=chk_ok (h i hi)
def nearTo (cs:Vs) (v:List Int):Nat->Nat × Nat
 | 0=>(0,dst cs[0]! v)
 | q + 1=>if dst cs[q + 1]! v < (nearTo cs v q).2 then (q + 1,dst cs[q + 1]! v) else nearTo cs v q
def nearP (cs:Vs) (v:List Int):Nat × Nat:=nearTo cs v (cs.length - 1)
theorem nearTo_le (cs:Vs) (v:List Int):∀ q,(nearTo cs v q).1<=q
 | 0=>Nat.le_refl _
 | q + 1=>by
  rw [nearTo];split
  ·exact Nat.le_refl _
  ·exact Nat.le_succ_of_le (nearTo_le cs v q)
theorem nearP_lt {cs:Vs} (h:1<=cs.length) (v:List Int):(nearP cs v).1 < cs.length:=by
 have:=nearTo_le cs v (cs.length - 1)
 unfold nearP;omega
theorem near_dist {cs:Vs} {v:List Int} {d:Int} (h:VsOk cs d) (hv:chk v d=0) {i:Nat} (hi:i < cs.length):distE cs[i]! v=0/\distV cs[i]! v=dst cs[i]! v:=by
 have h1:=h.get hi
 have e:distE cs[i]! v=0:=by unfold distE;rw [<- h1.2.2.1,if_pos (h i hi)];exact hv
 exact ⟨e,by unfold distV;rw [if_pos e]⟩
theorem dst_le {a b:List Int} {d:Int} (ha:chk a d=0) (hb:chk b d=0):dst a b<=1180591619617899675904:=by
 have h1:=chk_ok ha
 have h2:=chk_ok hb
 have h3:=dstN_le h1.2.2.2 h2.2.2.2 (by omega) a.length (Nat.le_refl _)
 have h4:dst a b=dstN a b a.length:=rfl
 omega
def belTo (cs l:Vs) (i:Nat) (q:Nat):List Nat:=(List.range q).filter fun j=>decide ((nearP cs l[j]!).1=i)
theorem belTo_next (cs l:Vs) (i q:Nat):belTo cs l i (q + 1)=if (nearP cs l[q]!).1=i then belTo cs l i q ++ [q] else belTo cs l i q:=by
 unfold belTo
 rw [List.range_succ,List.filter_append]
 by_cases h:(nearP cs l[q]!).1=i
 ·rw [if_pos h,List.filter_cons_of_pos (by rw [h];exact decide_eq_true rfl)];rfl
 ·rw [if_neg h,List.filter_cons_of_neg (by rw [decide_eq_true_eq];exact h),List.filter_nil,List.append_nil]
theorem belTo_len (cs l:Vs) (i q:Nat):(belTo cs l i q).length<=q:=by
 unfold belTo
 refine Nat.le_trans (List.length_filter_le _ _) ?_
 simp
theorem belTo_lt {cs l:Vs} {i q j:Nat} (h:j ∈ belTo cs l i q):j < q:=by
 unfold belTo at h
 exact List.mem_range.1 (List.mem_filter.1 h).1
def sumTo (l:Vs) (ps:List Nat) (t:Nat):Nat->Int
 | 0=>0
 | n + 1=>sumTo l ps t n + l[ps[n]!]![t]!
def middle (l:Vs) (c:List Int) (ps:List Nat):List Int:=if ps.length=0 then c else (List.range c.length).map fun t=>sumTo l ps t ps.length / ps.length
def roundV (l cs:Vs):Vs:=(List.range cs.length).map fun i=>middle l cs[i]! (belTo cs l i l.length)
def roundsV (l cs:Vs):Nat->Vs
 | 0=>cs
 | q + 1=>roundV l (roundsV l cs q)
def drawnV (l:Vs) (k:Nat) (x:Int):Vs:=(List.range k).map fun i=>l[(Rn.pS x l.length (l.length - 1) i).toNat]!
def trainV (l:Vs) (k r:Nat) (x:Int):Vs:=roundsV l (drawnV l k x) r
def trainE (l:Vs) (k r:Int):Int :=
 if 1<=k/\k<=64/\0<=r/\r<=20 then (if l.length<=512 then (if (l.length:Int) < k then 60 else vecsE l (l[0]!.length:Int)) else 2) else 1
theorem trainE_zero {l:Vs} {k r:Int}:trainE l k r=0 ↔ (1<=k/\k<=64/\0<=r/\r<=20)/\l.length<=512/\k<=(l.length:Int)/\VsOk l (l[0]!.length:Int):=by
 unfold trainE
 split
 ·rename_i h1
  split
  ·rename_i h2
   split
   ·rename_i h3;exact ⟨fun e=>by simp at e,fun e=>by omega⟩
   ·rename_i h3;rw [vecsE_zero];exact ⟨fun e=>⟨h1,h2,by omega,e⟩,fun e=>e.2.2.2⟩
  ·rename_i h2;exact ⟨fun e=>by simp at e,fun e=>absurd e.2.1 h2⟩
 ·rename_i h1;exact ⟨fun e=>by simp at e,fun e=>absurd e.1 h1⟩
theorem middle_len (l:Vs) (c:List Int) (ps:List Nat):(middle l c ps).length=c.length:=by unfold middle;split <;> simp
theorem middle_get {l:Vs} {c:List Int} {ps:List Nat} (h:ps.length ≠ 0) {t:Nat} (ht:t < c.length):(middle l c ps)[t]! = sumTo l ps t ps.length / ps.length:=by
 unfold middle
 rw [if_neg h,getElem!_pos _ t (by simpa using ht)];simp
theorem roundV_len (l cs:Vs):(roundV l cs).length=cs.length:=by simp [roundV]
theorem roundV_get (l:Vs) {cs:Vs} {i:Nat} (hi:i < cs.length):(roundV l cs)[i]! = middle l cs[i]! (belTo cs l i l.length):=by
 rw [getElem!_pos _ i (by rw [roundV_len];exact hi)];simp [roundV]
theorem drawnV_len (l:Vs) (k:Nat) (x:Int):(drawnV l k x).length=k:=by simp [drawnV]
theorem drawnV_get (l:Vs) {k:Nat} (x:Int) {i:Nat} (hi:i < k):(drawnV l k x)[i]! = l[(Rn.pS x l.length (l.length - 1) i).toNat]! := by
 rw [getElem!_pos _ i (by rw [drawnV_len];exact hi)];simp [drawnV]
theorem roundsV_len (l cs:Vs):∀ r,(roundsV l cs r).length=cs.length
 | 0=>rfl
 | r + 1=>by rw [roundsV,roundV_len,roundsV_len l cs r]
theorem sumTo_within (l:Vs) (ps:List Nat) (t:Nat) (lo hi:Int):∀ n,n<=ps.length->(∀ i,i < n->lo<=l[ps[i]!]![t]! /\ l[ps[i]!]![t]! <= hi)->lo * n<=sumTo l ps t n/\sumTo l ps t n<=hi * n
 | 0,_,_=>by simp [sumTo]
 | n + 1,hn,h=>by
  have h1:=sumTo_within l ps t lo hi n (by omega) (fun i hi=>h i (by omega))
  have h2:=h n (by omega)
  rw [sumTo]
  have e1:lo * ((n + 1:Nat):Int)=lo * n + lo:=by rw [Int.natCast_add,Int.mul_add];simp
  have e2:hi * ((n + 1:Nat):Int)=hi * n + hi:=by rw [Int.natCast_add,Int.mul_add];simp
  omega
theorem div_within {s lo hi:Int} {n:Nat} (hn:n ≠ 0) (h1:lo * n<=s) (h2:s<=hi * n):lo<=s / n/\s / n<=hi:=by
 have hp:(0:Int) < n:=by omega
 refine ⟨(Int.le_ediv_iff_mul_le hp).2 h1,?_⟩
 have h3:s / n < hi + 1:=Int.ediv_lt_of_lt_mul hp (by rw [Int.add_mul];omega)
 omega
theorem middle_within {l:Vs} {c:List Int} {ps:List Nat} {t:Nat} {lo hi:Int} (ht:t < c.length) (hc:lo<=c[t]! /\ c[t]! <= hi) (h:∀ j ∈ ps,lo<=l[j]![t]! /\ l[j]![t]! <= hi):lo<=(middle l c ps)[t]! /\ (middle l c ps)[t]! <= hi:=by
 by_cases h0:ps.length=0
 ·unfold middle;rw [if_pos h0];exact hc
 ·rw [middle_get h0 ht]
  have:=sumTo_within l ps t lo hi ps.length (Nat.le_refl _) (fun i hi=>h _ (by rw [getElem!_pos ps i hi];exact List.getElem_mem hi))
  exact div_within h0 this.1 this.2
def Within (l cs:Vs) (d:Nat):Prop:=∀ i,i < cs.length->cs[i]!.length=d/\∀ t,t < d->∀ lo hi:Int,(∀ j,j < l.length->lo<=l[j]![t]! /\ l[j]![t]! <= hi)->lo<=cs[i]![t]! /\ cs[i]![t]! <= hi
theorem within_drawn {l:Vs} {k:Nat} {x:Int} {d:Nat} (hk:k<=l.length) (hl:∀ j,j < l.length->l[j]!.length=d):Within l (drawnV l k x) d:=by
 intro i hi
 rw [drawnV_len] at hi
 have hp:=(Rn.per_pS x l.length (l.length - 1) (Nat.le_refl _)).1 i (by omega)
 rw [drawnV_get l x hi]
 have hj:(Rn.pS x l.length (l.length - 1) i).toNat < l.length:=by omega
 exact ⟨hl _ hj,fun t _ lo hi h=>h _ hj⟩
theorem within_round {l cs:Vs} {d:Nat} (h:Within l cs d):Within l (roundV l cs) d:=by
 intro i hi
 rw [roundV_len] at hi
 rw [roundV_get l hi,middle_len]
 obtain ⟨h1,h2⟩:=h i hi
 exact ⟨h1,fun t ht lo hi' hb=>middle_within (by omega) (h2 t ht lo hi' hb) (fun j hj=>hb j (belTo_lt hj))⟩
theorem within_rounds {l cs:Vs} {d:Nat} (h:Within l cs d):∀ r,Within l (roundsV l cs r) d
 | 0=>h
 | r + 1=>within_round (within_rounds h r)
theorem Within.ok {l cs:Vs} {d:Nat} (h:Within l cs d) (h1:1<=d) (h2:d<=64) (hl:VsOk l (d:Int)):VsOk cs (d:Int):=by
 intro i hi
 obtain ⟨h3,h4⟩:=h i hi
 unfold chk
 rw [if_pos ⟨by omega,by omega,by omega⟩]
 have:allR cs[i]! = true:=by
  unfold allR
  rw [List.all_eq_true]
  intro y hy
  obtain ⟨t,ht,rfl⟩:=List.mem_iff_getElem.1 hy
  rw [inR_iff,<- getElem!_pos cs[i]! t ht]
  refine h4 t (by omega) _ _ (fun j hj=>?_)
  have h5:=hl.get hj
  exact allR_get h5.2.2.2 (by omega)
 unfold vErr;rw [this];rfl
theorem train_ok {l:Vs} {k r:Int} (h:trainE l k r=0) (x:Int) (q:Nat):Within l (roundsV l (drawnV l k.toNat x) q) l[0]!.length/\VsOk (roundsV l (drawnV l k.toNat x) q) (l[0]!.length:Int)/\(roundsV l (drawnV l k.toNat x) q).length=k.toNat:=by
 obtain ⟨h1,h2,h3,h4⟩:=trainE_zero.1 h
 have h5:=h4.get (i:=0) (by omega)
 have hw:Within l (roundsV l (drawnV l k.toNat x) q) l[0]!.length:=within_rounds (within_drawn (by omega) fun j hj=>by have:=h4.get hj;omega) q
 exact ⟨hw,hw.ok h5.1 h5.2.1 h4,by rw [roundsV_len,drawnV_len]⟩
end Go.Proofs.YtcipdampcmfmaabGreat

namespace Go.Proofs.YtcipdampcmfmaabGreat
open Go.RowKit Go.Sort Go.Maps
def RA (W:World) (g n:Nat) (f:Nat->Value × Value):Prop :=
 ∃ cur:Array Value,W.heap[g]? = some (.cells cur 45 (0,0))/\cur.size=n * 2/\∀ i,i < n->cur[i * 2]? = some (f i).1/\cur[i * 2 + 1]? = some (f i).2
theorem RA.lt {W:World} {g n:Nat} {f:Nat->Value × Value} (h:RA W g n f):g < W.heap.size:=by
 obtain ⟨cur,h1,_⟩:=h;exact (Array.getElem?_eq_some_iff.1 h1).1
theorem RA.cell {W:World} {g n:Nat} {f:Nat->Value × Value} (h:RA W g n f) {i:Nat} (hi:i < n):W.cell? ⟨g,i * 2,none⟩=some (f i).1/\W.cell? ⟨g,i * 2 + 1,none⟩=some (f i).2:=by
 obtain ⟨cur,h1,_,h4⟩:=h
 obtain ⟨a,b⟩:=h4 i hi
 simp [World.cell?,h1,a,b]
theorem RA.frozen {W:World} {g n:Nat} {f:Nat->Value × Value} (h:RA W g n f) (o:Nat):W.frozen? ⟨g,o,none⟩=false:=by
 obtain ⟨cur,h1,_⟩:=h
 simp [World.frozen?,h1]
theorem RA.block {W W':World} {g n:Nat} {f:Nat->Value × Value} (h:RA W g n f) (e:W'.heap[g]? = W.heap[g]?):RA W' g n f:=by
 obtain ⟨cur,h1,h2⟩:=h
 exact ⟨cur,e.trans h1,h2⟩
theorem RA.set {W:World} {g n:Nat} {f:Nat->Value × Value} (h:RA W g n f) {i:Nat} (hi:i < n) (x y:Value) :
  RA ((W.setCell ⟨g,i * 2,none⟩ x).setCell ⟨g,i * 2 + 1,none⟩ y) g n (fun t=>if t=i then (x,y) else f t):=by
 obtain ⟨cur,h1,h2,h5⟩:=h
 refine ⟨(cur.setIfInBounds (i * 2) x).setIfInBounds (i * 2 + 1) y,?_,by simpa using h2,fun t ht=>?_⟩
 ·simp [World.setCell,Array.getElem?_modify,h1]
 ·by_cases e:t=i
  ·subst e
   simp only [if_true]
   refine ⟨?_,?_⟩
   ·rw [Array.getElem?_setIfInBounds_ne (by omega),Array.getElem?_setIfInBounds_self_of_lt (by omega)]
   ·rw [Array.getElem?_setIfInBounds_self_of_lt (by simp;omega)]
  ·simp only [if_neg e]
   obtain ⟨a,b⟩:=h5 t ht
   refine ⟨?_,?_⟩
   ·rw [Array.getElem?_setIfInBounds_ne (by omega),Array.getElem?_setIfInBounds_ne (by omega)];exact a
   ·rw [Array.getElem?_setIfInBounds_ne (by omega),Array.getElem?_setIfInBounds_ne (by omega)];exact b
structure Lr (w W:World) (G n:Nat) (rs:List Rw) (p:Nat) (z:Prop) (f:Nat->Value × Value):Prop where
 gb:Gb w W
 hG:w.heap.size<=G
 arr:RA W G n f
 lent:∃ gs:Nat->Nat,∀ i,i < p->f i=(.int .i64 rs[i]!.1,.slice (some ⟨gs i,0,none⟩) rs[i]!.2.length (rs[i]!.2.length + 1))/\Lent W (G + 1) (gs i) rs[i]!.2/\∀ j,j < i->gs j ≠ gs i
 end':z
theorem Lr.gr {w W W':World} {G n p:Nat} {rs:List Rw} {z:Prop} {f:Nat->Value × Value} (h:Lr w W G n rs p z f) (g:Gb W W'):Lr w W' G n rs p z f:=by
 obtain ⟨gs,hl⟩:=h.lent
 exact ⟨gb_trans h.gb g,h.hG,h.arr.block (g.block _ h.arr.lt),⟨gs,fun i hi=>⟨(hl i hi).1,(hl i hi).2.1.gb g,(hl i hi).2.2⟩⟩,h.end'⟩
theorem two_far {g b:Nat} {W:World} (hn:b ≠ g) (o1 o2:Nat) (x y:Value):((W.setCell ⟨g,o1,none⟩ x).setCell ⟨g,o2,none⟩ y).heap[b]? = W.heap[b]? :=
 (Below.heap_setCell _ _ _ _ (by dsimp only;exact hn)).trans (Below.heap_setCell _ _ _ _ (by dsimp only;exact hn))
theorem two_gb {g:Nat} {w W:World} (h:Gb w W) (hg:w.heap.size<=g) (o1 o2:Nat) (x y:Value):Gb w ((W.setCell ⟨g,o1,none⟩ x).setCell ⟨g,o2,none⟩ y) :=
 gb_set (gb_set h (by dsimp only;exact hg) _) (by dsimp only;exact hg) _
theorem Lent.block {W W':World} {B g:Nat} {l:List Int} (h:Lent W B g l) (e:W'.heap[g]? = W.heap[g]?):Lent W' B g l:=⟨h.1,e.trans h.2⟩
theorem Lent.lt {W:World} {B g:Nat} {l:List Int} (h:Lent W B g l):g < W.heap.size:=(Array.getElem?_eq_some_iff.1 h.2).1
theorem Lr.step {w W W2:World} {G n p g:Nat} {rs:List Rw} {f:Nat->Value × Value} (h:Lr w W G n rs p True f) (hp:p < n) (g2:Gb W W2) (L:Lent W2 W.heap.size g rs[p]!.2) :
  ∃ f',Lr w ((W2.setCell ⟨G,p * 2,none⟩ (.int .i64 rs[p]!.1)).setCell ⟨G,p * 2 + 1,none⟩ (.slice (some ⟨g,0,none⟩) rs[p]!.2.length (rs[p]!.2.length + 1))) G n rs (p + 1) True f':=by
 have hGW:=h.arr.lt
 have h2:=h.gr g2
 obtain ⟨gs,hl⟩:=h2.lent
 obtain ⟨gs0,hl0⟩:=h.lent
 have hgs:∀ i,i < p->gs i < W.heap.size:=fun i hi=>by
  have e:=(hl i hi).1.symm.trans (hl0 i hi).1
  simp at e
  rw [e]
  exact (hl0 i hi).2.1.lt
 have hg:=L.1
 refine ⟨_,two_gb h2.gb h2.hG _ _ _ _,h.hG,h2.arr.set hp _ _,⟨fun i=>if i=p then g else gs i,fun i hi=>?_⟩,trivial⟩
 by_cases e:i=p
 ·subst e
  simp only [if_true]
  refine ⟨trivial,⟨by omega,(two_far (by omega) _ _ _ _).trans L.2⟩,fun j hj=>?_⟩
  rw [if_neg (by omega)]
  have:=hgs j hj
  omega
 ·simp only [if_neg e]
  obtain ⟨a,b,c⟩:=hl i (by omega)
  refine ⟨a,b.block (two_far (by have:=b.1;omega) _ _ _ _),fun j hj=>?_⟩
  rw [if_neg (by omega)]
  exact c j hj
def LentR (w W:World) (G:Nat) (rs:List Rw):Prop:=∃ f,Lr w W G (rs.length + 1) rs rs.length (f rs.length=(.int .i64 (-77),.slice none 0 0)) f
theorem Lr.mark {w W:World} {G n:Nat} {rs:List Rw} {f:Nat->Value × Value} (h:Lr w W G (n + 1) rs n True f) (hn:n=rs.length) :
  LentR w ((W.setCell ⟨G,n * 2,none⟩ (.int .i64 (-77))).setCell ⟨G,n * 2 + 1,none⟩ (.slice none 0 0)) G rs:=by
 subst hn
 obtain ⟨gs,hl⟩:=h.lent
 refine ⟨_,two_gb h.gb h.hG _ _ _ _,h.hG,h.arr.set (Nat.lt_succ_self _) _ _,⟨gs,fun i hi=>?_⟩,by simp⟩
 obtain ⟨a,b,c⟩:=hl i hi
 exact ⟨by rw [if_neg (by omega)];exact a,b.block (two_far (by have:=b.1;omega) _ _ _ _),c⟩
theorem LentR.gr {w W W':World} {G:Nat} {rs:List Rw} (h:LentR w W G rs) (g:Gb W W'):LentR w W' G rs:=by
 obtain ⟨f,h⟩:=h
 exact ⟨f,h.gr g⟩
theorem LentR.rd {w W:World} {G:Nat} {rs:List Rw} (h:LentR w W G rs):RdW W (.slice (some ⟨G,0,none⟩) rs.length (rs.length + 1)) rs:=by
 obtain ⟨f,h⟩:=h
 obtain ⟨gs,hl⟩:=h.lent
 refine ⟨_,_,rfl,fun i hi=>?_⟩
 obtain ⟨a,b,_⟩:=hl i hi
 have hc:=h.arr.cell (i:=i) (by omega)
 rw [a] at hc
 exact ⟨G,0,_,rfl,by rw [Nat.zero_add];exact hc.1,by rw [Nat.zero_add];exact hc.2,b.rd⟩
structure Rs (w W:World) (a b:Addr) (u v:Value):Prop where
 gb:Gb w W
 ca:W.cell? a=some u
 cb:W.cell? b=some v
 la:a.block < w.heap.size
 lb:b.block < w.heap.size
theorem Rs.gr {w W W':World} {a b:Addr} {u v:Value} (h:Rs w W a b u v) (g:Gb W W'):Rs w W' a b u v:=⟨gb_trans h.gb g,gb_keeps g h.ca,gb_keeps g h.cb,h.la,h.lb⟩
theorem Rs.set {w W:World} {a b:Addr} {u v:Value} {B:Nat} (h:Rs w W a b u v) (hB:w.heap.size<=B) (o1 o2:Nat) (x y:Value):Rs w ((W.setCell ⟨B,o1,none⟩ x).setCell ⟨B,o2,none⟩ y) a b u v:=by
 have ha:=h.la
 have hb:=h.lb
 exact ⟨two_gb h.gb hB _ _ _ _,(World.cell?_of_block (two_far (by omega) _ _ _ _)).trans h.ca,(World.cell?_of_block (two_far (by omega) _ _ _ _)).trans h.cb,h.la,h.lb⟩
end Go.Proofs.YtcipdampcmfmaabGreat
