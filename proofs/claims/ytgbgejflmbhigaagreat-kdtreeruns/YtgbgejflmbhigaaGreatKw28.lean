import Derived.Test.YtgbgejflmbhigaaGreatKw7
import Derived.Test.YtgbgejflmbhigaaGreatKw25
import Derived.Test.YtgbgejflmbhigaaGreatKw6
import Derived.Maps.AppendAt
import Derived.Test.YtgbgejflmbhigaaGreatKw16
namespace Go.Proofs.YtgbgejflmbhigaaGreat
open Go.RowKit Go.Sort
set_option maxRecDepth 100000
set_option maxHeartbeats 4000000
theorem del_cells {xs ys:List Value} {a k N:Nat} {cur c1 c2:Array Value} (ha:a + k<=xs.length) (hN:N=xs.length - k) (hx:∀ t,t < xs.length->cur[t]? = xs[t]?)
  (h1:∀ t,c1[t]? = if a<=t/\t < a + (xs.drop (a + k)).length then (xs.drop (a + k))[t - a]? else cur[t]?)
  (h2:∀ t,c2[t]? = if N<=t/\t < N + ys.length then ys[t - N]? else c1[t]?):c2.toList.take N=xs.take a ++ xs.drop (a + k):=by
 rw [List.length_drop] at h1
 apply List.ext_getElem?
 intro t
 have hl1:(xs.take a).length=a:=by rw [List.length_take];omega
 by_cases ht:t < N
 ·rw [List.getElem?_take_of_lt ht,Array.getElem?_toList,h2 t,if_neg (by omega),h1 t]
  by_cases c:t < a
  ·rw [if_neg (by omega),hx t (by omega),List.getElem?_append_left (by omega),List.getElem?_take_of_lt c]
  ·rw [if_pos (by omega),List.getElem?_append_right (by omega),hl1]
 ·rw [List.getElem?_eq_none (by rw [List.length_take];omega),List.getElem?_eq_none (by rw [List.length_append,hl1,List.length_drop];omega)]
theorem setCells_nil (w:World) (g o:Nat):w.setCells g o []=w:=rfl
theorem delX_c {w:World} {g n cap i:Nat} {xs:List Value} (h:w.ownsRow 0 39 2 (.slice (some ⟨g,0,none⟩) n cap) n xs) (hi:i < n) (hn:n<=4000) (h1c:∀ v ∈ xs,v.oneCell'=true) :
  Calls Tryz.prog 75 #[.slice (some ⟨g,0,none⟩) n cap,.int .i64 (i:Int),.int .i64 ((i + 1:Nat):Int)] w fun e w'=>e=.returned (.slice (some ⟨g,0,none⟩) (n - 1) cap)/\w'.ownsRow 0 39 2 (.slice (some ⟨g,0,none⟩) (n - 1) cap) (n - 1) (xs.take (i * 2) ++ xs.drop ((i + 1) * 2))/\Tk.Kp (fun b=>b=g) w w':=by
 obtain ⟨hxl,h⟩:=h
 rcases h with ⟨e,_⟩ | ⟨g',cap',cur,e,_,hg,hle,hmx,hsz,htk⟩
 ·cases e
 cases e
 obtain ⟨i0,hi0,_,hzs,_⟩:=info_insR
 have mixed:Tryz.prog.follows Departure.mixedOrders=true:=by kernel_rfl
 have hmx2:cap<=9223372036854775807:=by unfold maxLen at hmx;omega
 have hcs:∀ j v,xs[j]? = some v->w.cell? ⟨g,j,none⟩=some v:=fun j v hj=>by
  have hjl:=(List.getElem?_eq_some_iff.1 hj).1
  rw [<- htk,List.getElem?_take_of_lt (by omega),Array.getElem?_toList] at hj
  simp [World.cell?,hg,hj]
 have hdl:(xs.drop ((i + 1) * 2)).length=(n - (i + 1)) * 2:=by rw [List.length_drop,hxl];omega
 have hap:∀ (ty:TypeId) (a:Addr) (c:Nat),(i + 1 < n->a=⟨g,(i + 1) * 2,none⟩)->(Builtin.append_ #[22,22] ty #[.slice (some ⟨g,0,none⟩) i cap,.slice (some a) (n - (i + 1)) c]).run Tryz.prog w.drew=.ok (.slice (some ⟨g,0,none⟩) (n - 1) cap) (w.drew.setCells g (i * 2) (xs.drop ((i + 1) * 2))):=fun ty a c ha=>by
  have:=run_append_room_cells (P:=Tryz.prog) w.drew 22 ty 39 i0 Tryz.underlying22 hi0 g 0 i cap a (n - (i + 1)) c (xs.drop ((i + 1) * 2)) (by rw [hdl,hzs]) (fun j u hj=>by
   have hlt:=(List.getElem?_eq_some_iff.1 hj).1
   rw [hdl] at hlt
   rw [ha (by omega),Addr.add_lit]
   exact hcs _ u (by rwa [List.getElem?_drop] at hj)) (fun v hv=>h1c v (List.mem_of_mem_drop hv)) (by omega)
   (fun j hj=>by rw [hdl] at hj;rw [hzs];exact some_setCells g _ _ hg (by omega)) (fun j hj=>by simp [World.frozen?,show w.drew.heap[g]? = _ from hg])
  rw [hzs,show i + (n - (i + 1))=n - 1 by omega,Nat.zero_add] at this
  exact this
 obtain ⟨c1,e1,s1,f1⟩:=setCells_heap g 39 (0,0) (xs.drop ((i + 1) * 2)) (i * 2) w.drew cur hg (by rw [hdl];omega)
 have hcl:=fun (c:Nat) (ty:TypeId)=>clear_one (c:=c) (ty:=ty) (p:=(n - 1) * 2) e1 (by omega)
 have FD:Hid (w.drew.setCells g (i * 2) (xs.drop ((i + 1) * 2)) |>.setCells g ((n - 1) * 2) [.int .i64 0,.slice none 0 0] |>.ownsRow 0 39 2 (.slice (some ⟨g,0,none⟩) (n - 1) cap) (n - 1) (xs.take (i * 2) ++ xs.drop ((i + 1) * 2))):=by
  obtain ⟨c2,e2,s2,f2⟩:=setCells_heap g 39 (0,0) [.int .i64 0,.slice none 0 0] ((n - 1) * 2) _ c1 e1 (by simp;omega)
  refine ⟨by rw [List.length_append,hdl,List.length_take];omega,.inr ⟨g,cap,c2,rfl,Nat.zero_le _,e2,by omega,hmx,by omega,?_⟩⟩
  have ee:(i + 1) * 2=i * 2 + 2:=by omega
  rw [ee] at f1 ⊢
  exact del_cells (by omega) (by omega) (fun t ht=>by rw [<- htk,List.getElem?_take_of_lt (by omega),Array.getElem?_toList]) f1 f2
 have FK:Hid (Tk.Kp (fun b=>b=g) w ((w.drew.setCells g (i * 2) (xs.drop ((i + 1) * 2))).setCells g ((n - 1) * 2) [.int .i64 0,.slice none 0 0])):=by
  have k0:Tk.Kp (fun b=>b=g) w w.drew:=⟨rfl,rfl,rfl,Nat.le_refl _,fun _ _ _=>rfl⟩
  exact kp_setCells (S:=fun b=>b=g) (.inl rfl) _ _ _ (kp_setCells (S:=fun b=>b=g) (.inl rfl) _ _ _ k0)
 have hz2:¬ ((i:Int)=(i:Int) + 1):=by omega
 have hb1:(i:Int) + 1<=(n:Int):=by omega
 have hb5:(i:Int)<=(i:Int) + 1:=by omega
 have hb6:(0:Int)<=(i:Int) + 1:=by omega
 have hb2:(n:Int)<=(cap:Int):=by omega
 have hb3:(i:Int)<=(cap:Int):=by omega
 have hb4:(i:Int)<=(n:Int):=by omega
 have hcn:¬ cap=n - 1:=by omega
 have hci:¬ cap=i:=by omega
 have hnn:n - (n - 1)=1:=by omega
 have hn1:1<=n:=by omega
 have hni:¬ n=i:=by omega
 have hii:i<=i + 1:=by omega
 have hdr:n=i + 1->xs.drop ((i + 1) * 2)=[]:=fun e=>List.drop_of_length_le (by omega)
 clear hg htk hxl hcs hdl hsz hi0 hzs e1 s1 f1 hmx h1c
 by_cases hcc:cap=i + 1
 ·have hin:n=i + 1:=by omega
  have hap2:=fun ty c=>hap ty ⟨g,0,none⟩ c (fun e=>by omega)
  clear hap
  subst hcc hin
  simp only [Nat.sub_self,Nat.add_sub_cancel,hdr rfl,setCells_nil] at hap2 hcl FD FK ⊢
  clear hdr
  go_enter Tryz.func75,Tryz.ntmps75
  go_wp2
  go_region_law_o (refine step_append_k rfl _ _ 22 22 rfl _ _ (by simp [Act.eval,Act.put]) (by simp [Act.eval,Act.put]) (hap2 _ _) ?_)
  go_wp2
  go_ret
  exact ⟨rfl,FD.out,FK.out⟩
 ·have hap2:=fun ty c=>hap ty ⟨g,(i + 1) * 2,none⟩ c (fun _=>rfl)
  clear hap
  go_enter Tryz.func75,Tryz.ntmps75
  go_wp2
  go_region_law_o (refine step_append_k rfl _ _ 22 22 rfl (.slice (some ⟨g,0,none⟩) i cap) (.slice (some ⟨g,(i + 1) * 2,none⟩) (n - (i + 1)) (cap - (i + 1))) (by simp [Act.eval,Act.put]) (by simp [Act.eval,Act.put]) (hap2 22 (cap - (i + 1))) ?_)
  go_wp2
  go_ret
  exact ⟨rfl,FD.out,FK.out⟩
end Go.Proofs.YtgbgejflmbhigaaGreat

namespace Go.Proofs.YtgbgejflmbhigaaGreat
open Go.RowKit Go.Sort
set_option maxRecDepth 100000
set_option maxHeartbeats 4000000
theorem Tryz.info_insI:(Tryz.prog.info? 3).map (fun i=>(i.zero,i.size,i.bytes))=some (some (.int .i64 0),1,8):=by kernel_rfl
theorem info_insI:∃ i0,Tryz.prog.info? 3=some i0/\i0.zero=some (.int .i64 0)/\i0.size=1/\i0.bytes=8:=by
 have h:=Tryz.info_insI
 cases hi:Tryz.prog.info? 3 with
 | none=>rw [hi] at h;cases h
 | some i =>
  rw [hi] at h
  simp only [Option.map_some,Option.some.injEq,Prod.mk.injEq] at h
  exact ⟨i,rfl,h.1,h.2.1,h.2.2⟩
theorem size_insI (w:World):(Go.sizeOf 3).run Tryz.prog w=.ok 1 w:=by
 obtain ⟨i,hi,_,hs,_⟩:=info_insI
 simp [Go.sizeOf,typeInfo,hi,hs]
theorem insI_shift {w:World} {g n cap i vb:Nat} {cur:Array Value} {xs vs:List Value} {tv:TypeId} (hg:w.heap[g]? = some (.cells cur 3 (0,0))) (hsz:cur.size=cap * 1) (hmx:cap<=9223372036854775807) (htk:cur.toList.take (n * 1)=xs) (hi:i < n) (hroom:n + 1<=cap)
  (hv:w.heap[vb]? = some (.cells vs.toArray tv (0,0))) (hvl:vs.length=1) (hne:vb ≠ g) (h1c:∀ v ∈ xs,v.oneCell'=true) (h1v:∀ v ∈ vs,v.oneCell'=true) :
  Calls Tryz.prog 65 #[.slice (some ⟨g,0,none⟩) n cap,.int .i64 (i:Int),.slice (some ⟨vb,0,none⟩) 1 1] w fun e w'=>e=.returned (.slice (some ⟨g,0,none⟩) (n + 1) cap)/\w'=(w.drew.setCells g ((i + 1)) (xs.drop (i))).setCells g (i) vs:=by
 obtain ⟨i0,hi0,_,hzs,_⟩:=info_insI
 have hxl:xs.length=n * 1:=by rw [<- htk,List.length_take,Array.length_toList];omega
 have mixed:Tryz.prog.follows Departure.mixedOrders=true:=by kernel_rfl
 have hz2:¬ ((i:Int)=(n:Int)):=by omega
 have hcell:∀ t,t < cap * 1->(w.cell? ⟨g,t,none⟩).isSome=true:=fun t ht=>some_setCells g _ _ hg (by omega)
 have hfz:∀ t,w.frozen? ⟨g,t,none⟩=false:=fun t=>by simp [World.frozen?,hg]
 have hcs:∀ j v,xs[j]? = some v->w.cell? ⟨g,j,none⟩=some v:=fun j v hj=>by
  have hjl:=(List.getElem?_eq_some_iff.1 hj).1
  rw [<- htk,List.getElem?_take_of_lt (by omega),Array.getElem?_toList] at hj
  simp [World.cell?,hg,hj]
 have hvs:∀ j v,vs[j]? = some v->w.cell? ⟨vb,j,none⟩=some v:=fun j v hj=>by simp [World.cell?,hv,hj]
 have hov:∀ lb cb,(callFunc 103 #[.slice (some ⟨vb,0,none⟩) 1 1,.slice (some ⟨g,(i + 1),none⟩) lb cb]).run Tryz.prog w=.ok (.value (.bool false)) w:=fun lb cb=>by
  rw [run_callFunc_extern Tryz.func103 (by kernel_rfl) (by kernel_rfl) (by kernel_rfl) (e:=Extern.SlicesOverlaps.overlaps #[37,37] #[4]) (by kernel_rfl),
   Lib.run_overlaps_apart w 37 4 3 Tryz.underlying37 1 size_insI ⟨vb,0,none⟩ ⟨g,(i + 1),none⟩ 1 1 lb cb hne tv 3 1 (cap * 1) (by simp [World.shape?,hv,hvl]) (by simp [World.shape?,hg,hsz]) (by omega) (by simp [World.frozen?,hv]) (by simp [World.frozen?,hv])]
  rfl
 have hdl:(xs.drop (i)).length=(n - i) * 1:=by rw [List.length_drop,hxl];omega
 have hw1:IntKind.i64.wrap ((i:Int) + 1)=(i:Int) + 1:=by rw [IntKind.wrap_i64];omega
 have hb1:(0:Int)<=(i:Int) + 1:=by omega
 have hin:i<=n:=by omega
 have htn:((i:Int) + 1).toNat=i + 1:=by omega
 have hb2:¬ (cap=i + 1):=by omega
 have hb3:(i:Int)<=(n:Int) + 1:=by omega
 have hb4:¬ (cap=i):=by omega
 have hcp1:∀ ty dc sc,(Builtin.copy_ #[37,37] ty #[.slice (some ⟨g,(i + 1),none⟩) (n - i) dc,.slice (some ⟨g,i,none⟩) (n + 1 - i) sc]).run Tryz.prog w.drew=.ok (goInt ((n - i:Nat))) (w.drew.setCells g ((i + 1)) (xs.drop (i))):=fun ty dc sc =>
  run_copy_k w.drew _ _ ty 3 i0 g ((i + 1)) (n - i) dc ⟨g,i,none⟩ (n + 1 - i) sc (n - i) (xs.drop (i)) Tryz.underlying37 hi0 (by simp only [Nat.min_def];split <;> omega) (by rw [hdl,hzs])
   (fun j v hj=>by rw [Addr.add_lit];exact hcs (i + j) v (by rwa [List.getElem?_drop] at hj))
   (fun j hj=>hcell _ (by omega)) (fun j hj=>hfz _) (fun v hv=>h1c v (List.mem_of_mem_drop hv))
 obtain ⟨W1,hW1⟩:∃ W1,W1=w.drew.setCells g ((i + 1)) (xs.drop (i)):=⟨_,rfl⟩
 obtain ⟨c1,e1,s1,_⟩:=setCells_heap g 3 (0,0) (xs.drop (i)) ((i + 1)) w.drew cur hg (by rw [hdl];omega)
 rw [<- hW1] at e1
 have hcp2:∀ (W:World),(∀ x,W.cell? x=W1.cell? x)->(∀ x,W.frozen? x=W1.frozen? x)->∀ ty dc,(Builtin.copy_ #[37,37] ty #[.slice (some ⟨g,i,none⟩) (n + 1 - i) dc,.slice (some ⟨vb,0,none⟩) 1 1]).run Tryz.prog W=.ok (goInt 1) (W.setCells g (i) vs):=fun W hWc hWf ty dc =>
  run_copy_k W _ _ ty 3 i0 g (i) (n + 1 - i) dc ⟨vb,0,none⟩ 1 1 1 vs Tryz.underlying37 hi0 (by simp only [Nat.min_def];split <;> omega) (by rw [hvl,hzs])
   (fun j v hj=>by
    rw [Addr.add_lit,hWc,hW1,World.cell?_setCells_out g _ _ _ _ (fun h _=>absurd h hne),Nat.zero_add]
    exact hvs j v hj)
   (fun j hj=>by rw [hWc];exact some_setCells g _ _ e1 (by omega)) (fun j hj=>by rw [hWf,hW1,World.frozen?_setCells];exact hfz _) h1v
 rw [<- hW1] at hcp1
 clear hg hv htk hxl hcs hvs hcell hfz e1 s1 hdl hsz hi0 hzs
 go_enter Tryz.func65,Tryz.ntmps65
 go_wp2_with (simp only [hov])
 go_region_law_o (refine step_copy_k rfl _ _ 37 37 rfl _ _ (by simp [Act.eval,Act.put]) (by simp [Act.eval,Act.put]) (hcp1 _ _ _) ?_)
 go_wp2_with (at_builtin;refine wp_copy_k _ rfl _ _ 37 37 rfl _ _ rfl rfl (hcp2 _ (fun _=>rfl) (fun _=>rfl) _ _) ?_)
 go_ret
 first | exact ⟨rfl,rfl⟩ | exact ⟨rfl,by rw [hW1]⟩
theorem insI_grow {w:World} {g n cap i vb:Nat} {cur:Array Value} {xs vs:List Value} {tv:TypeId} (hg:w.heap[g]? = some (.cells cur 3 (0,0))) (hsz:cur.size=cap * 1) (htk:cur.toList.take (n * 1)=xs) (hi:i < n) (hnc:n<=cap) (hroom:cap < n + 1) (hn:n<=100000)
  (hv:w.heap[vb]? = some (.cells vs.toArray tv (0,0))) (hvl:vs.length=1) (h1c:∀ v ∈ xs,v.oneCell'=true) (h1v:∀ v ∈ vs,v.oneCell'=true) :
  Calls Tryz.prog 65 #[.slice (some ⟨g,0,none⟩) n cap,.int .i64 (i:Int),.slice (some ⟨vb,0,none⟩) 1 1] w fun e w'=>e=.returned (.slice (some ⟨w.heap.size,0,none⟩) (n + 1) (grownCap w (n + 1) cap 3)) /\
   w'=(((w.alloc (.cells ((xs.take (i)).toArray ++ Builtin.zeroCells (Value.cells (.int .i64 0)) (n + 1 - i) ++ Builtin.zeroCells (Value.cells (.int .i64 0)) (grownCap w (n + 1) cap 3 - (n + 1))) 3)).drew.setCells w.heap.size (i) vs).drew).setCells w.heap.size ((i + 1)) (xs.drop (i)):=by
 obtain ⟨i0,hi0,hz0,hzs,hzb⟩:=info_insI
 have hxl:xs.length=n * 1:=by rw [<- htk,List.length_take,Array.length_toList];omega
 have mixed:Tryz.prog.follows Departure.mixedOrders=true:=by kernel_rfl
 have hz2:¬ ((i:Int)=(n:Int)):=by omega
 have hz3:(cap:Int) < (n:Int) + 1:=by omega
 have hcs:∀ j v,xs[j]? = some v->w.cell? ⟨g,j,none⟩=some v:=fun j v hj=>by
  have hjl:=(List.getElem?_eq_some_iff.1 hj).1
  rw [<- htk,List.getElem?_take_of_lt (by omega),Array.getElem?_toList] at hj
  simp [World.cell?,hg,hj]
 have hvs:∀ j v,vs[j]? = some v->w.cell? ⟨vb,j,none⟩=some v:=fun j v hj=>by simp [World.cell?,hv,hj]
 have hbw:g < w.heap.size:=(Array.getElem?_eq_some_iff.1 hg).1
 have hvw:vb < w.heap.size:=(Array.getElem?_eq_some_iff.1 hv).1
 have hkk:(n:Int) + 1 - (i:Int)=((n + 1 - i:Nat):Int):=by omega
 have hik:i + (n + 1 - i)=n + 1:=by omega
 have hold:(Builtin.firstCells i0.size i (.slice (some ⟨g,0,none⟩) i cap)).run Tryz.prog w.drew=.ok (xs.take (i)).toArray w.drew:=by
  rw [hzs]
  exact run_firstCells_some w.drew 1 i ⟨g,0,none⟩ i cap (xs.take (i)) (by rw [List.length_take];omega) (fun j v hj=>by
   rw [Addr.add_lit,Nat.zero_add]
   rw [List.getElem?_take] at hj
   split at hj
   ·exact hcs j v hj
   ·cases hj)
 have hrz:∀ ty,(Builtin.append_ #[37,3] ty #[.slice (some ⟨g,0,none⟩) i cap,.int .i64 ((n:Int) + 1 - (i:Int))]).run Tryz.prog w =
   .ok (.slice (some ⟨w.heap.size,0,none⟩) (n + 1) (grownCap w (n + 1) cap 3)) (w.drew.alloc (.cells ((xs.take (i)).toArray ++ Builtin.zeroCells (Value.cells (.int .i64 0)) (n + 1 - i) ++ Builtin.zeroCells (Value.cells (.int .i64 0)) (grownCap w (n + 1) cap 3 - (n + 1))) 3)):=fun ty=>by
  have h:=Lib.run_append_grow_zeros w 37 3 ty 3 i0 _ .i64 .i64 Tryz.underlying37 Tryz.underlying3 hi0 hz0 (some ⟨g,0,none⟩) i cap (xs.take (i)) hold (n + 1 - i) (by omega) (by omega) (by omega) (by omega) (by rw [hzb];omega) (by rw [hzb,hik];exact growslice_fits hroom (by omega))
  rw [hik] at h
  rw [hkk]
  exact h
 obtain ⟨G,hG⟩:∃ G,G=grownCap w (n + 1) cap 3:=⟨_,rfl⟩
 obtain ⟨ROW,hROW⟩:∃ ROW:Array Value,ROW=(xs.take (i)).toArray ++ Builtin.zeroCells (Value.cells (.int .i64 0)) (n + 1 - i) ++ Builtin.zeroCells (Value.cells (.int .i64 0)) (G - (n + 1)):=⟨_,rfl⟩
 rw [<- hG] at hrz ⊢
 rw [<- hROW] at hrz ⊢
 have hRl:(n + 1) * 1<=ROW.size:=by
  rw [hROW]
  simp [Builtin.zeroCells,Value.cells]
  omega
 obtain ⟨W1,hW1⟩:∃ W1,W1=w.drew.alloc (.cells ROW 3):=⟨_,rfl⟩
 rw [<- hW1] at hrz
 have hN:∀ j,j < (n + 1) * 1->(W1.cell? ⟨w.heap.size,j,none⟩).isSome=true:=fun j hj=>by
  rw [hW1,World.cell?_alloc_at (w:=w.drew) ROW _ w.heap.size j rfl,Array.getElem?_eq_getElem (by omega)];rfl
 have hNf:∀ j,W1.frozen? ⟨w.heap.size,j,none⟩=false:=fun j=>by rw [hW1];exact World.frozen?_alloc_at (w:=w.drew) ROW _ w.heap.size j rfl
 have hOb:∀ j v,w.cell? ⟨g,j,none⟩=some v->W1.cell? ⟨g,j,none⟩=some v:=fun j v h=>by rw [hW1,World.cell?_alloc_past (w:=w.drew) _ g j hbw];exact h
 have hOv:∀ j v,w.cell? ⟨vb,j,none⟩=some v->W1.cell? ⟨vb,j,none⟩=some v:=fun j v h=>by rw [hW1,World.cell?_alloc_past (w:=w.drew) _ vb j hvw];exact h
 have hcpA:∀ (W:World),(∀ x,W.cell? x=W1.cell? x)->(∀ x,W.frozen? x=W1.frozen? x)->∀ ty dc,(Builtin.copy_ #[37,37] ty #[.slice (some ⟨w.heap.size,i,none⟩) (n + 1 - i) dc,.slice (some ⟨vb,0,none⟩) 1 1]).run Tryz.prog W=.ok (goInt 1) (W.setCells w.heap.size (i) vs):=fun W hWc hWf ty dc =>
  run_copy_k W _ _ ty 3 i0 w.heap.size (i) (n + 1 - i) dc ⟨vb,0,none⟩ 1 1 1 vs Tryz.underlying37 hi0 (by simp only [Nat.min_def];split <;> omega) (by rw [hvl,hzs])
   (fun j v hj=>by rw [Addr.add_lit,hWc,Nat.zero_add];exact hOv _ v (hvs j v hj))
   (fun j hj=>by rw [hWc];exact hN _ (by omega)) (fun j hj=>by rw [hWf];exact hNf _) h1v
 have hGn:n + 1<=G:=by rw [hG];exact grownCap_ge w _ _ _
 have hG63:G<=9223372036854775807:=by
  have:=grownCap_le_maxLen w (n + 1) cap 3 (by unfold maxLen;omega)
  rw [<- hG] at this
  unfold maxLen at this
  omega
 have hGi:¬ (G=i):=by omega
 have hGim:¬ (G=i + 1):=by omega
 have hci:¬ (cap=i):=by omega
 have hbN:g ≠ w.heap.size:=by omega
 have hdl:(xs.drop (i)).length=(n - i) * 1:=by rw [List.length_drop,hxl];omega
 have hcpB:∀ (W:World),(∀ x,W.cell? x=(W1.setCells w.heap.size (i) vs).cell? x)->(∀ x,W.frozen? x=(W1.setCells w.heap.size (i) vs).frozen? x)->∀ ty dc sc,(Builtin.copy_ #[37,37] ty #[.slice (some ⟨w.heap.size,(i + 1),none⟩) (n - i) dc,.slice (some ⟨g,i,none⟩) (n - i) sc]).run Tryz.prog W=.ok (goInt ((n - i:Nat))) (W.setCells w.heap.size ((i + 1)) (xs.drop (i))):=fun W hWc hWf ty dc sc =>
  run_copy_k W _ _ ty 3 i0 w.heap.size ((i + 1)) (n - i) dc ⟨g,i,none⟩ (n - i) sc (n - i) (xs.drop (i)) Tryz.underlying37 hi0 (by simp only [Nat.min_def];split <;> omega) (by rw [hdl,hzs])
   (fun j v hj=>by
    rw [Addr.add_lit,hWc,World.cell?_setCells_out _ _ _ _ _ (fun h _=>absurd h hbN)]
    exact hOb _ v (hcs (i + j) v (by rwa [List.getElem?_drop] at hj)))
   (fun j hj=>by
    obtain ⟨c1,e1,s1,_⟩:=setCells_heap w.heap.size 3 (0,0) vs (i) W1 ROW (by rw [hW1];exact Array.getElem?_push_size) (by omega)
    rw [hWc];exact some_setCells _ _ _ e1 (by omega))
   (fun j hj=>by rw [hWf,World.frozen?_setCells];exact hNf _) (fun v hv=>h1c v (List.mem_of_mem_drop hv))
 subst hW1
 have hE1:∀ x,((w.alloc (.cells ROW 3)).drew).cell? x=(w.drew.alloc (.cells ROW 3)).cell? x:=fun x=>rfl
 have hE2:∀ x,((w.alloc (.cells ROW 3)).drew).frozen? x=(w.drew.alloc (.cells ROW 3)).frozen? x:=fun x=>rfl
 have hF1:∀ x,(((w.alloc (.cells ROW 3)).drew.setCells w.heap.size (i) vs).drew).cell? x=((w.drew.alloc (.cells ROW 3)).setCells w.heap.size (i) vs).cell? x:=fun x=>rfl
 have hF2:∀ x,(((w.alloc (.cells ROW 3)).drew.setCells w.heap.size (i) vs).drew).frozen? x=((w.drew.alloc (.cells ROW 3)).setCells w.heap.size (i) vs).frozen? x:=fun x=>rfl
 have hw1:IntKind.i64.wrap ((i:Int) + 1)=(i:Int) + 1:=by rw [IntKind.wrap_i64];omega
 have hb1:(0:Int)<=(i:Int) + 1:=by omega
 have hin:i<=n:=by omega
 have htn:((i:Int) + 1).toNat=i + 1:=by omega
 have hb3:(i:Int)<=(n:Int):=by omega
 clear hkk hik hold hROW hG hRl hg hv htk hcs hvs hN hNf hOb hOv hdl hxl hsz hi0 hz0 hzs hzb
 go_enter Tryz.func65,Tryz.ntmps65
 go_wp2_with (first
  | (at_builtin;refine Lib.wpList_append_run _ rfl _ _ _ _ rfl _ _ rfl rfl _ _ (hrz _) ?_)
  | (at_builtin;refine wp_copy_k _ rfl _ _ 37 37 rfl _ _ rfl rfl (hcpA _ hE1 hE2 _ _) ?_)
  | (at_builtin;refine wp_copy_k _ rfl _ _ 37 37 rfl _ _ rfl rfl (hcpB _ (fun _=>rfl) (fun _=>rfl) _ _ _) ?_))
 go_region_law_o (refine step_copy_k rfl _ _ 37 37 rfl (.slice (some ⟨w.heap.size,(i + 1),none⟩) (n - i) (G - (i + 1))) (.slice (some ⟨g,i,none⟩) (n - i) (cap - i)) (by simp [Act.eval,Act.put]) (by simp [Act.eval,Act.put]) (hcpB _ hF1 hF2 3 (G - (i + 1)) (cap - i)) ?_)
 go_wp2
 go_ret
 exact ⟨rfl,rfl⟩
def InsO_insI (w:World) (v:Value) (n:Nat) (xs:List Value) (e:Ending) (w':World):Prop:=∃ g cap,e=.returned (.slice (some ⟨g,0,none⟩) (n + 1) cap)/\w'.ownsRow 0 3 1 (.slice (some ⟨g,0,none⟩) (n + 1) cap) (n + 1) xs/\Tk.Kp (fun b=>v.ownBlock=some b) w w'/\(v.ownBlock=some g ∨ w.heap.size<=g)
theorem insI_end {w:World} {v:Value} {n vb:Nat} {xs vs:List Value} {tv:TypeId} (h:w.ownsRow 0 3 1 v n xs) (hn:n<=100000) (hv:w.heap[vb]? = some (.cells vs.toArray tv (0,0))) (hvl:vs.length=1) (h1v:∀ v ∈ vs,v.oneCell'=true) :
  Calls Tryz.prog 65 #[v,.int .i64 (n:Int),.slice (some ⟨vb,0,none⟩) 1 1] w fun e w'=>InsO_insI w v n (xs ++ vs) e w':=by
 obtain ⟨i0,hi0,hz0,hzs,hzb⟩:=info_insI
 have mixed:Tryz.prog.follows Departure.mixedOrders=true:=by kernel_rfl
 have hvs:∀ j v,vs[j]? = some v->w.cell? ((⟨vb,0,none⟩:Addr).add j)=some v:=fun j v hj=>by rw [Addr.add_lit,Nat.zero_add];simp [World.cell?,hv,hj]
 have FO:Hid (∀ v' W',W'.ownsRow 0 3 1 v' (n + 1) (xs ++ vs)->w.grownBy W' v.ownBlock->(v'=.slice none 0 0 ↔ v=.slice none 0 0/\1=0)->(v'.ownBlock=v.ownBlock ∨ v'.ownBlock=some w.heap.size)->InsO_insI w v n (xs ++ vs) (.returned v') W'):=by
  intro v' W' hown hgrow hnn hloc
  have h2:=hown
  rcases hown.2 with ⟨e,_⟩ | ⟨g,cap,cur,rfl,_⟩
  ·exact absurd (hnn.1 e).2 (by decide)
  ·refine ⟨g,cap,rfl,h2,⟨hgrow.os,hgrow.tape,hgrow.output,hgrow.size,fun k hk hne=>hgrow.block k hk (fun e=>hne e.symm)⟩,?_⟩
   rcases hloc with e | e
   ·exact .inl e.symm
   ·injection e with e
    exact .inr (by dsimp only at e;omega)
 obtain ⟨a,cap0,ev⟩:∃ a cap0,v=.slice a n cap0:=by
  rcases h.2 with ⟨rfl,h0⟩ | ⟨b,cap,cur,rfl,_⟩
  ·exact ⟨none,0,by rw [h0]⟩
  ·exact ⟨_,cap,rfl⟩
 have hsp:∃ q:Option (Nat × Nat),a=q.map fun x=>⟨x.1,x.2,none⟩:=by
  rcases h.2 with ⟨rfl,h0⟩ | ⟨b,cap,cur,rfl,_⟩
  ·cases ev;exact ⟨none,rfl⟩
  ·cases ev;exact ⟨some (b,0),rfl⟩
 have hnc:n<=cap0:=by
  rcases h.2 with ⟨rfl,h0⟩ | ⟨b,cap,cur,rfl,_,_,hle,_⟩
  ·cases ev;omega
  ·cases ev;exact hle
 have hn0:a=none->n=0:=by
  rcases h.2 with ⟨rfl,h0⟩ | ⟨b,cap,cur,rfl,_,_,hle,_⟩
  ·cases ev;exact fun _=>h0
  ·cases ev;intro e;cases e
 subst ev
 have II:Hid (Tryz.prog.info? 3=some i0/\i0.zero=some (.int .i64 0)/\i0.size=1/\i0.bytes=8):=⟨hi0,hz0,hzs,hzb⟩
 have HO:Hid (w.ownsRow 0 3 1 (.slice a n cap0) n xs):=h
 clear hi0 hz0 hzs hzb h hv
 obtain ⟨q,rfl⟩:=hsp
 go_enter Tryz.func65,Tryz.ntmps65
 cases q with
 | none =>
  have h0:=hn0 rfl
  subst h0
  go_wp2_with (at_builtin;refine wpList_append_own_at _ rfl _ _ 37 rfl 0 3 i0 (.int .i64 0) 1 8 Tryz.underlying37 II.out.1 II.out.2.1 II.out.2.2.1 II.out.2.2.2 rfl (by decide) _ 0 xs rfl HO.out ⟨vb,0,none⟩ 1 1 vs rfl hvl hvs h1v (by simp only [maxLen];omega) (by omega) (Nat.zero_le _) ?_;intro v5 w5 hown5 hgrow5 hnil5 hloc5)
  have FF:=FO.out _ _ hown5 hgrow5 hnil5 hloc5
  clear hown5 hgrow5 hnil5 hloc5 FO HO
  go_ret
  exact FF
 | some q =>
  obtain ⟨qb,qo⟩:=q
  dsimp only [Option.map] at *
  go_wp2_with (at_builtin;refine wpList_append_own_at _ rfl _ _ 37 rfl 0 3 i0 (.int .i64 0) 1 8 Tryz.underlying37 II.out.1 II.out.2.1 II.out.2.2.1 II.out.2.2.2 rfl (by decide) _ n xs rfl HO.out ⟨vb,0,none⟩ 1 1 vs rfl hvl hvs h1v (by simp only [maxLen];omega) (by omega) (Nat.zero_le _) ?_;intro v5 w5 hown5 hgrow5 hnil5 hloc5)
  all_goals
   have FF:=FO.out _ _ hown5 hgrow5 hnil5 hloc5
   clear hown5 hgrow5 hnil5 hloc5 FO HO
   go_ret
   exact FF
theorem insI_c {w:World} {v:Value} {n vb i:Nat} {xs vs:List Value} {tv:TypeId} (h:w.ownsRow 0 3 1 v n xs) (hn:n<=100000) (hi:i<=n) (hv:w.heap[vb]? = some (.cells vs.toArray tv (0,0))) (hvl:vs.length=1) (hne:v.ownBlock ≠ some vb) (h1c:∀ v ∈ xs,v.oneCell'=true) (h1v:∀ v ∈ vs,v.oneCell'=true) :
  Calls Tryz.prog 65 #[v,.int .i64 (i:Int),.slice (some ⟨vb,0,none⟩) 1 1] w fun e w'=>InsO_insI w v n (xs.take (i) ++ vs ++ xs.drop (i)) e w':=by
 by_cases hin:i=n
 ·subst hin
  have hxl:=h.1
  rw [List.take_of_length_le (by omega),List.drop_of_length_le (by omega),List.append_nil]
  exact insI_end h hn hv hvl h1v
 ·have h0:=h
  obtain ⟨hxl,h⟩:=h
  rcases h with ⟨_,h0⟩ | ⟨g,cap,cur,rfl,_,hg,hle,hmx,hsz,htk⟩
  ·omega
  ·have hcur:∀ t,t < i->cur[t]? = xs[t]? := fun t ht=>by rw [<- htk,List.getElem?_take_of_lt (by omega),Array.getElem?_toList]
   have hdl:(xs.drop (i)).length=(n - i) * 1:=by rw [List.length_drop,hxl];omega
   have hea:(i + 1)=i + vs.length:=by omega
   have hmx2:=hmx
   unfold maxLen at hmx2
   by_cases hr:n + 1<=cap
   ·refine (insI_shift hg hsz (by omega) htk (by omega) hr hv hvl (fun e=>hne (by rw [e];rfl)) h1c h1v).mono ?_
    rintro e w' ⟨rfl,rfl⟩
    obtain ⟨c1,e1,s1,f1⟩:=setCells_heap g 3 (0,0) (xs.drop (i)) ((i + 1)) w.drew cur hg (by rw [hdl];omega)
    obtain ⟨c2,e2,s2,f2⟩:=setCells_heap g 3 (0,0) vs (i) _ c1 e1 (by omega)
    rw [hea] at f1
    refine ⟨g,cap,rfl,⟨?_,.inr ⟨g,cap,c2,rfl,Nat.zero_le _,?_,hr,hmx,by omega,?_⟩⟩,?_,.inl rfl⟩
    ·rw [List.length_append,List.length_append,hdl,List.length_take];omega
    ·simpa using e2
    ·exact ins_cells (by omega) (by omega) hcur f1 f2
    ·have k0:Tk.Kp (fun b=>(Value.slice (some ⟨g,0,none⟩) n cap).ownBlock=some b) w w.drew:=⟨rfl,rfl,rfl,Nat.le_refl _,fun _ _ _=>rfl⟩
     exact kp_setCells (S:=fun b=>(Value.slice (some ⟨g,0,none⟩) n cap).ownBlock=some b) (.inl rfl) _ _ _ (kp_setCells (S:=fun b=>(Value.slice (some ⟨g,0,none⟩) n cap).ownBlock=some b) (.inl rfl) _ _ _ k0)
   ·refine (insI_grow hg hsz htk (by omega) hle (by omega) hn hv hvl h1c h1v).mono ?_
    rintro e w' ⟨rfl,rfl⟩
    have hG:=grownCap_ge w (n + 1) cap 3
    have hG2:=grownCap_le_maxLen w (n + 1) cap 3 (by unfold maxLen;omega)
    generalize grownCap w (n + 1) cap 3=G at *
    have hcc:∀ t,t < i->((xs.take (i)).toArray ++ Builtin.zeroCells (Value.cells (.int .i64 0)) (n + 1 - i) ++ Builtin.zeroCells (Value.cells (.int .i64 0)) (G - (n + 1)))[t]? = xs[t]? := fun t ht=>by
     rw [Array.append_assoc,Array.getElem?_append_left (by simp;omega)]
     simp [ht]
    have hrs:((xs.take (i)).toArray ++ Builtin.zeroCells (Value.cells (.int .i64 0)) (n + 1 - i) ++ Builtin.zeroCells (Value.cells (.int .i64 0)) (G - (n + 1))).size=G * 1:=by
     simp [Builtin.zeroCells,Value.cells]
     omega
    generalize ((xs.take (i)).toArray ++ Builtin.zeroCells (Value.cells (.int .i64 0)) (n + 1 - i) ++ Builtin.zeroCells (Value.cells (.int .i64 0)) (G - (n + 1)))=ROW at *
    obtain ⟨c1,e1,s1,f1⟩:=setCells_heap w.heap.size 3 (0,0) vs (i) (w.alloc (.cells ROW 3)).drew ROW Array.getElem?_push_size (by omega)
    obtain ⟨c2,e2,s2,f2⟩:=setCells_heap w.heap.size 3 (0,0) (xs.drop (i)) ((i + 1)) (((w.alloc (.cells ROW 3)).drew.setCells w.heap.size (i) vs).drew) c1 e1 (by rw [hdl];omega)
    rw [hea] at f2
    refine ⟨w.heap.size,G,rfl,⟨?_,.inr ⟨w.heap.size,G,c2,rfl,Nat.zero_le _,?_,hG,hG2,by omega,?_⟩⟩,?_,.inr (Nat.le_refl _)⟩
    ·rw [List.length_append,List.length_append,hdl,List.length_take];omega
    ·simpa using e2
    ·exact ins_cells' (by omega) (by omega) hcc f1 f2
    ·have k0:Tk.Kp (fun b=>(Value.slice (some ⟨g,0,none⟩) n cap).ownBlock=some b) w (w.alloc (.cells ROW 3)).drew:=Tk.Kp.of_gr ((Tk.Gw.refl w).alloc (.cells ROW 3)).gr.drew
     have k1:=kp_setCells (.inr (Nat.le_refl _)) vs (i) _ k0
     exact kp_setCells (.inr (Nat.le_refl _)) _ _ _ ⟨k1.os,k1.tape,k1.output,k1.size,k1.block⟩
end Go.Proofs.YtgbgejflmbhigaaGreat

namespace Go.Proofs.YtgbgejflmbhigaaGreat.Tk
open Go.RowKit Go.Sort
set_option maxRecDepth 100000
set_option maxHeartbeats 2000000
attribute [local go_sem ↓] Go.wp_at_zero Go.wp_at_succ
def Lies (w:World) (b o:Nat) (l:List Ht):Prop:=∀ i,i < l.length ->
 w.cell? ⟨b,o + i * 3,none⟩=some (.int .i64 l[i]!.id)/\w.cell? ⟨b,o + i * 3 + 1,none⟩=some (.int .u64 l[i]!.hi)/\w.cell? ⟨b,o + i * 3 + 2,none⟩=some (.int .u64 l[i]!.lo)
def Rd (w:World) (v:Value) (l:List Ht):Prop:=(v=.slice none 0 0/\l=[]) ∨ (∃ a cap,v=.slice (some a) 0 cap/\l=[]) ∨ ∃ b o cap,v=.slice (some ⟨b,o,none⟩) l.length cap/\Lies w b o l
theorem Lies.gr {w w':World} {b o:Nat} {l:List Ht} (h:Lies w b o l) (g:Gr w w'):Lies w' b o l:=fun i hi=>by
 obtain ⟨h0,h1,h2⟩:=h i hi;exact ⟨gr_keeps g h0,gr_keeps g h1,gr_keeps g h2⟩
theorem Lies.kp {S:Nat->Prop} {w w':World} {b o:Nat} {l:List Ht} (h:Lies w b o l) (g:Kp S w w') (hn:¬ S b):Lies w' b o l:=fun i hi=>by
 obtain ⟨h0,h1,h2⟩:=h i hi;exact ⟨g.cell h0 hn,g.cell h1 hn,g.cell h2 hn⟩
theorem Rd.gr {w w':World} {v:Value} {l:List Ht} (h:Rd w v l) (g:Gr w w'):Rd w' v l:=by
 rcases h with h | h | ⟨b,o,cap,e2,h⟩
 ·exact .inl h
 ·exact .inr (.inl h)
 ·exact .inr (.inr ⟨b,o,cap,e2,h.gr g⟩)
theorem own_lies {w:World} {g n cap:Nat} {d:Array Ht} (h:Own w (.slice (some ⟨g,0,none⟩) n cap) d):Lies w g 0 d.toList:=fun i hi=>by
 have hi':i < d.size:=by simpa using hi
 have:=own_cell h hi'
 rw [Nat.zero_add]
 have e:d.toList[i]! = d[i]! := by rw [getElem!_pos d.toList i hi,getElem!_pos d i hi'];simp
 rw [e];exact this
theorem own_rd {w:World} {v:Value} {d:Array Ht} (h:Own w v d):Rd w v d.toList:=by
 rcases h.2 with ⟨rfl,h0⟩ | ⟨g,cap,cur,rfl,r⟩
 ·exact .inl ⟨rfl,by rw [Array.eq_empty_of_size_eq_zero h0]⟩
 ·exact .inr (.inr ⟨g,0,cap,by simp,own_lies h⟩)
theorem Rd.form {w:World} {v:Value} {l:List Ht} (h:Rd w v l):∃ a cap,v=.slice a l.length cap/\∀ i,i < l.length->∃ b o,a=some ⟨b,o,none⟩/\Lies w b o l:=by
 rcases h with ⟨rfl,rfl⟩ | ⟨a,cap,rfl,rfl⟩ | ⟨b,o,cap,rfl,h⟩
 ·exact ⟨none,0,rfl,fun i hi=>absurd hi (Nat.not_lt_zero _)⟩
 ·exact ⟨_,cap,rfl,fun i hi=>absurd hi (Nat.not_lt_zero _)⟩
 ·exact ⟨_,cap,rfl,fun _ _=>⟨b,o,rfl,h⟩⟩
theorem hv_in (x y:Ht) (W:World):(Op.equalIn 10000 60 (hv x) (hv y)).run Tryz.prog W=.ok (decide (x=y)) W:=by
 have u3:=Tryz.underlying3
 have a3:=Tryz.isAgg3
 have z3:=Tryz.sizeOf3
 have u22:=Tryz.underlying23
 have a22:=Tryz.isAgg23
 have z22:=Tryz.sizeOf23
 have a24:=Tryz.isAgg58
 have z24:=Tryz.sizeOf58
 have hS:Tryz.prog.underlying 60=some (.struct (Tryz.prog.fieldsOf 60)):=by kernel_rfl
 have hp:Tryz.prog.stoodInHeld 60=false:=by kernel_rfl
 have hS2:Tryz.prog.underlying 58=some (.struct (Tryz.prog.fieldsOf 58)):=by kernel_rfl
 have hp2:Tryz.prog.stoodInHeld 58=false:=by kernel_rfl
 have h24:∀ (a b c d:Int) W,(Op.equalIn 9999 58 (.agg #[.int .u64 a,.int .u64 b]) (.agg #[.int .u64 c,.int .u64 d])).run Tryz.prog W=.ok (a == c && b == d) W:=by
  intro a b c d W
  rw [show (9999:Nat)=9998 + 1 from rfl,run_equalIn_agg W 9998 58 _ _ hS2 hp2]
  simp only [Program.fieldsOf,Tryz.underlying58]
  go_simp
  by_cases h1:a=c <;> by_cases h2:b=d <;> simp [h1,h2]
 rw [show (10000:Nat)=9999 + 1 from rfl,run_equalIn_agg W 9999 60 _ _ hS hp]
 simp only [Program.fieldsOf,Tryz.underlying60]
 go_simp
 obtain ⟨a,b,c⟩:=x
 obtain ⟨a',b',c'⟩:=y
 by_cases h1:a=a' <;> by_cases h2:b=b' <;> by_cases h3:c=c' <;> simp [h1,h2,h3]
theorem hv_ne (x y:Ht) (W:World):(binOp .neq 60 (hv x) (hv y)).run Tryz.prog W=.ok (.bool (!decide (x=y))) W:=by
 rw [run_neq_struct,hv_in];rfl
theorem same_c {w:World} {u v:Value} {l m:List Ht} (hu:Rd w u l) (hv':Rd w v m) (hlen:l.length<=4000) :
  Calls Tryz.prog 82 #[u,v] w fun e w'=>e=.returned (.bool (decide (l=m)))/\Gr w w':=by
 obtain ⟨a,ca,rfl,ha⟩:=hu.form
 obtain ⟨b,cb,rfl,hb⟩:=hv'.form
 clear hu hv'
 by_cases hlm:l.length=m.length
 ·have A:Hid (∀ i,i < l.length->∃ b o,a=some ⟨b,o,none⟩/\Lies w b o l):=ha
  have B:Hid (∀ i,i < m.length->∃ b' o,b=some ⟨b',o,none⟩/\Lies w b' o m):=hb
  have L:Hid (l.length=m.length):=hlm
  rw [<- hlm]
  obtain ⟨n,hN⟩:∃ n,n=l.length:=⟨_,rfl⟩
  have N:Hid (n=l.length):=hN
  rw [<- hN] at hlen ⊢
  clear ha hb hlm hN
  go_enter Tryz.func82,Tryz.ntmps82
  go_wp2
  go_loopw [5] (fun iv w'=>∃ q:Nat,iv=.int .i64 (q:Int)/\q<=n/\Hid (l.take q=m.take q/\Gr w w')) (fun iv _=>n - (intOf iv).toNat)
  case atStart=>exact ⟨0,rfl,Nat.zero_le _,⟨by simp,Below.refl _ _⟩⟩
  case round =>
   obtain ⟨q,rfl,hq,X⟩:=hrel
   by_cases hqn:q < n
   ·obtain ⟨b1,o1,ea,h1⟩:=A.out q (by have:=N.out;omega)
    obtain ⟨b2,o2,eb,h2⟩:=B.out q (by have:=L.out;have:=N.out;omega)
    obtain ⟨x0,x1,x2⟩:=(h1.gr X.out.2) q (by have:=N.out;omega)
    obtain ⟨y0,y1,y2⟩:=(h2.gr X.out.2) q (by have:=L.out;have:=N.out;omega)
    subst ea;subst eb
    have Q:Hid (q < l.length/\q < m.length):=⟨by have:=N.out;omega,by have:=L.out;have:=N.out;omega⟩
    obtain ⟨x,hx⟩:∃ x,x=l[q]! := ⟨_,rfl⟩
    obtain ⟨y,hy⟩:∃ y,y=m[q]! := ⟨_,rfl⟩
    have XY:Hid (x=l[q]! /\ y=m[q]!):=⟨hx,hy⟩
    rw [<- hx] at x0 x1 x2
    rw [<- hy] at y0 y1 y2
    clear hx hy h1 h2
    have hne:=fun W=>hv_ne x y W
    by_cases hxy:x=y
    ·have E:Hid (x=y):=hxy
     rw [decide_eq_true hxy] at hne
     clear hxy
     go_wp2
     go_quiet (fail)
     go_wp2
     go_roundw
     case rel =>
      refine ⟨q + 1,by simp,hqn,⟨?_,X.out.2.trans (below_drewN (Below.refl _ _) _)⟩⟩
      obtain ⟨e1,e2⟩:=XY.out
      have e3:=E.out
      rw [e1,e2,getElem!_pos l q Q.out.1,getElem!_pos m q Q.out.2] at e3
      rw [List.take_succ_eq_append_getElem Q.out.1,List.take_succ_eq_append_getElem Q.out.2,X.out.1,e3]
     case measure=>simp [intOf];omega
    ·have E:Hid (l ≠ m):=by
      intro e
      obtain ⟨e1,e2⟩:=XY.out
      exact hxy (by rw [e1,e2,e])
     rw [decide_eq_false hxy] at hne
     have R:Hid (decide (l=m)=false):=decide_eq_false E.out
     clear hxy
     go_wp2
     go_quiet (fail)
     go_wp2
     go_ret
     exact ⟨by rw [R.out];rfl,X.out.2.trans (below_drewN (Below.refl _ _) _)⟩
   ·have R:Hid (decide (l=m)=true):=by
     have e:=X.out.1
     have h1:=N.out
     have h2:=L.out
     rw [List.take_of_length_le (by omega),List.take_of_length_le (by omega)] at e
     exact decide_eq_true e
    go_wp2
    go_ret
    exact ⟨by rw [R.out];rfl,X.out.2⟩
 ·have R:Hid (decide (l=m)=false):=decide_eq_false (fun e=>hlm (by rw [e]))
  have hne:((l.length:Int) == (m.length:Int))=false:=by rw [beq_eq_false_iff_ne];omega
  generalize l.length=n1 at *
  generalize m.length=n2 at *
  clear ha hb hlm
  go_enter Tryz.func82,Tryz.ntmps82
  go_wp2
  go_ret
  exact ⟨by rw [R.out];rfl,Below.refl _ _⟩
end Go.Proofs.YtgbgejflmbhigaaGreat.Tk
