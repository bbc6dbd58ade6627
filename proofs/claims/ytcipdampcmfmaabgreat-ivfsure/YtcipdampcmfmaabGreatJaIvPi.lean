import Derived.Test.YtcipdampcmfmaabGreatJaKdIr
import Derived.Test.YtcipdampcmfmaabGreatJa1
namespace Go.Proofs.YtcipdampcmfmaabGreat
open Go.RowKit Go.Sort
set_option maxRecDepth 100000
set_option maxHeartbeats 4000000
theorem insP_shift {w:World} {g o n cap i vb:Nat} {cur:Array Value} {xs vs:List Value} {tv:TypeId} (hg:w.heap[g]? = some (.cells cur 45 (0,0))) (hsz:o + cap * 2<=cur.size) (hmx:cap<=9223372036854775807) (htk:(cur.toList.drop o).take (n * 2)=xs) (hi:i < n) (hroom:n + 1<=cap)
  (hv:w.heap[vb]? = some (.cells vs.toArray tv (0,0))) (hvl:vs.length=2) (hne:vb ≠ g) (h1c:∀ v ∈ xs,v.oneCell'=true) (h1v:∀ v ∈ vs,v.oneCell'=true) :
  Calls Tryz.prog 70 #[.slice (some ⟨g,o,none⟩) n cap,.int .i64 (i:Int),.slice (some ⟨vb,0,none⟩) 1 1] w fun e w'=>e=.returned (.slice (some ⟨g,o,none⟩) (n + 1) cap)/\w'=(w.drew.setCells g (o + (i + 1) * 2) (xs.drop (i * 2))).setCells g (o + i * 2) vs:=by
 obtain ⟨i0,hi0,_,hzs,_⟩:=info_insR
 have hxl:xs.length=n * 2:=by rw [<- htk,List.length_take,List.length_drop,Array.length_toList];omega
 have mixed:Tryz.prog.follows Departure.mixedOrders=true:=by kernel_rfl
 have hz2:¬ ((i:Int)=(n:Int)):=by omega
 have hcell:∀ t,t < cap * 2->(w.cell? ⟨g,o + t,none⟩).isSome=true:=fun t ht=>some_setCells g _ _ hg (by omega)
 have hfz:∀ t,w.frozen? ⟨g,t,none⟩=false:=fun t=>by simp [World.frozen?,hg]
 have hcs:∀ j v,xs[j]? = some v->w.cell? ⟨g,o + j,none⟩=some v:=fun j v hj=>by
  have hjl:=(List.getElem?_eq_some_iff.1 hj).1
  rw [<- htk,List.getElem?_take_of_lt (by omega),List.getElem?_drop,Array.getElem?_toList] at hj
  simp [World.cell?,hg,hj]
 have hvs:∀ j v,vs[j]? = some v->w.cell? ⟨vb,j,none⟩=some v:=fun j v hj=>by simp [World.cell?,hv,hj]
 have hov:∀ lb cb,(callFunc 109 #[.slice (some ⟨vb,0,none⟩) 1 1,.slice (some ⟨g,o + (i + 1) * 2,none⟩) lb cb]).run Tryz.prog w=.ok (.value (.bool false)) w:=fun lb cb=>by
  rw [run_callFunc_extern Tryz.func109 (by kernel_rfl) (by kernel_rfl) (by kernel_rfl) (e:=Extern.SlicesOverlaps.overlaps #[22,22] #[4]) (by kernel_rfl),
   Lib.run_overlaps_apart w 22 4 45 Tryz.underlying22 2 size_insR ⟨vb,0,none⟩ ⟨g,o + (i + 1) * 2,none⟩ 1 1 lb cb hne tv 45 2 cur.size (by simp [World.shape?,hv,hvl]) (by simp [World.shape?,hg]) (by omega) (by simp [World.frozen?,hv]) (by simp [World.frozen?,hv])]
  rfl
 have hdl:(xs.drop (i * 2)).length=(n - i) * 2:=by rw [List.length_drop,hxl];omega
 have hw1:IntKind.i64.wrap ((i:Int) + 1)=(i:Int) + 1:=by rw [IntKind.wrap_i64];omega
 have hb1:(0:Int)<=(i:Int) + 1:=by omega
 have hin:i<=n:=by omega
 have htn:((i:Int) + 1).toNat=i + 1:=by omega
 have hb2:¬ (cap=i + 1):=by omega
 have hb3:(i:Int)<=(n:Int) + 1:=by omega
 have hb4:¬ (cap=i):=by omega
 have hcp1:∀ ty dc sc,(Builtin.copy_ #[22,22] ty #[.slice (some ⟨g,o + (i + 1) * 2,none⟩) (n - i) dc,.slice (some ⟨g,o + i * 2,none⟩) (n + 1 - i) sc]).run Tryz.prog w.drew=.ok (goInt ((n - i:Nat))) (w.drew.setCells g (o + (i + 1) * 2) (xs.drop (i * 2))):=fun ty dc sc =>
  run_copy_k w.drew _ _ ty 45 i0 g (o + (i + 1) * 2) (n - i) dc ⟨g,o + i * 2,none⟩ (n + 1 - i) sc (n - i) (xs.drop (i * 2)) Tryz.underlying22 hi0 (by simp only [Nat.min_def];split <;> omega) (by rw [hdl,hzs])
   (fun j v hj=>by rw [Addr.add_lit,Nat.add_assoc];exact hcs (i * 2 + j) v (by rwa [List.getElem?_drop] at hj))
   (fun j hj=>by rw [Nat.add_assoc];exact hcell _ (by omega)) (fun j hj=>hfz _) (fun v hv=>h1c v (List.mem_of_mem_drop hv))
 obtain ⟨W1,hW1⟩:∃ W1,W1=w.drew.setCells g (o + (i + 1) * 2) (xs.drop (i * 2)):=⟨_,rfl⟩
 obtain ⟨c1,e1,s1,_⟩:=setCells_heap g 45 (0,0) (xs.drop (i * 2)) (o + (i + 1) * 2) w.drew cur hg (by rw [hdl];omega)
 rw [<- hW1] at e1
 have hcp2:∀ (W:World),(∀ x,W.cell? x=W1.cell? x)->(∀ x,W.frozen? x=W1.frozen? x)->∀ ty dc,(Builtin.copy_ #[22,22] ty #[.slice (some ⟨g,o + i * 2,none⟩) (n + 1 - i) dc,.slice (some ⟨vb,0,none⟩) 1 1]).run Tryz.prog W=.ok (goInt 1) (W.setCells g (o + i * 2) vs):=fun W hWc hWf ty dc =>
  run_copy_k W _ _ ty 45 i0 g (o + i * 2) (n + 1 - i) dc ⟨vb,0,none⟩ 1 1 1 vs Tryz.underlying22 hi0 (by simp only [Nat.min_def];split <;> omega) (by rw [hvl,hzs])
   (fun j v hj=>by
    rw [Addr.add_lit,hWc,hW1,World.cell?_setCells_out g _ _ _ _ (fun h _=>absurd h hne),Nat.zero_add]
    exact hvs j v hj)
   (fun j hj=>by rw [hWc];exact some_setCells g _ _ e1 (by omega)) (fun j hj=>by rw [hWf,hW1,World.frozen?_setCells];exact hfz _) h1v
 rw [<- hW1] at hcp1
 clear hg hv htk hxl hcs hvs hcell hfz e1 s1 hdl hsz hi0 hzs
 go_enter Tryz.func70,Tryz.ntmps70
 go_wp2_with (simp only [hov])
 go_region_law_o (refine step_copy_k rfl _ _ 22 22 rfl _ _ (by simp [Act.eval,Act.put]) (by simp [Act.eval,Act.put]) (hcp1 _ _ _) ?_)
 go_wp2_with (at_builtin;refine wp_copy_k _ rfl _ _ 22 22 rfl _ _ rfl rfl (hcp2 _ (fun _=>rfl) (fun _=>rfl) _ _) ?_)
 go_ret
 first | exact ⟨rfl,rfl⟩ | exact ⟨rfl,by rw [hW1]⟩
theorem insP_grow {w:World} {g o n cap i vb:Nat} {cur:Array Value} {xs vs:List Value} {tv:TypeId} (hg:w.heap[g]? = some (.cells cur 45 (0,0))) (hsz:o + cap * 2<=cur.size) (htk:(cur.toList.drop o).take (n * 2)=xs) (hi:i < n) (hnc:n<=cap) (hroom:cap < n + 1) (hn:n<=100000)
  (hv:w.heap[vb]? = some (.cells vs.toArray tv (0,0))) (hvl:vs.length=2) (h1c:∀ v ∈ xs,v.oneCell'=true) (h1v:∀ v ∈ vs,v.oneCell'=true) :
  Calls Tryz.prog 70 #[.slice (some ⟨g,o,none⟩) n cap,.int .i64 (i:Int),.slice (some ⟨vb,0,none⟩) 1 1] w fun e w'=>e=.returned (.slice (some ⟨w.heap.size,0,none⟩) (n + 1) (grownCap w (n + 1) cap 45)) /\
   w'=(((w.alloc (.cells ((xs.take (i * 2)).toArray ++ Builtin.zeroCells (Value.cells (.agg #[.int .i64 0,.slice none 0 0])) (n + 1 - i) ++ Builtin.zeroCells (Value.cells (.agg #[.int .i64 0,.slice none 0 0])) (grownCap w (n + 1) cap 45 - (n + 1))) 45)).drew.setCells w.heap.size (i * 2) vs).drew).setCells w.heap.size ((i + 1) * 2) (xs.drop (i * 2)):=by
 obtain ⟨i0,hi0,hz0,hzs,hzb⟩:=info_insR
 have hxl:xs.length=n * 2:=by rw [<- htk,List.length_take,List.length_drop,Array.length_toList];omega
 have mixed:Tryz.prog.follows Departure.mixedOrders=true:=by kernel_rfl
 have hz2:¬ ((i:Int)=(n:Int)):=by omega
 have hz3:(cap:Int) < (n:Int) + 1:=by omega
 have hcs:∀ j v,xs[j]? = some v->w.cell? ⟨g,o + j,none⟩=some v:=fun j v hj=>by
  have hjl:=(List.getElem?_eq_some_iff.1 hj).1
  rw [<- htk,List.getElem?_take_of_lt (by omega),List.getElem?_drop,Array.getElem?_toList] at hj
  simp [World.cell?,hg,hj]
 have hvs:∀ j v,vs[j]? = some v->w.cell? ⟨vb,j,none⟩=some v:=fun j v hj=>by simp [World.cell?,hv,hj]
 have hbw:g < w.heap.size:=(Array.getElem?_eq_some_iff.1 hg).1
 have hvw:vb < w.heap.size:=(Array.getElem?_eq_some_iff.1 hv).1
 have hkk:(n:Int) + 1 - (i:Int)=((n + 1 - i:Nat):Int):=by omega
 have hik:i + (n + 1 - i)=n + 1:=by omega
 have hold:(Builtin.firstCells i0.size i (.slice (some ⟨g,o,none⟩) i cap)).run Tryz.prog w.drew=.ok (xs.take (i * 2)).toArray w.drew:=by
  rw [hzs]
  exact run_firstCells_some w.drew 2 i ⟨g,o,none⟩ i cap (xs.take (i * 2)) (by rw [List.length_take];omega) (fun j v hj=>by
   rw [Addr.add_lit]
   rw [List.getElem?_take] at hj
   split at hj
   ·exact hcs j v hj
   ·cases hj)
 have hrz:∀ ty,(Builtin.append_ #[22,3] ty #[.slice (some ⟨g,o,none⟩) i cap,.int .i64 ((n:Int) + 1 - (i:Int))]).run Tryz.prog w =
   .ok (.slice (some ⟨w.heap.size,0,none⟩) (n + 1) (grownCap w (n + 1) cap 45)) (w.drew.alloc (.cells ((xs.take (i * 2)).toArray ++ Builtin.zeroCells (Value.cells (.agg #[.int .i64 0,.slice none 0 0])) (n + 1 - i) ++ Builtin.zeroCells (Value.cells (.agg #[.int .i64 0,.slice none 0 0])) (grownCap w (n + 1) cap 45 - (n + 1))) 45)):=fun ty=>by
  have h:=Lib.run_append_grow_zeros w 22 3 ty 45 i0 _ .i64 .i64 Tryz.underlying22 Tryz.underlying3 hi0 hz0 (some ⟨g,o,none⟩) i cap (xs.take (i * 2)) hold (n + 1 - i) (by omega) (by omega) (by omega) (by omega) (by rw [hzb];omega) (by rw [hzb,hik];exact growslice_fits hroom (by omega))
  rw [hik] at h
  rw [hkk]
  exact h
 obtain ⟨G,hG⟩:∃ G,G=grownCap w (n + 1) cap 45:=⟨_,rfl⟩
 obtain ⟨ROW,hROW⟩:∃ ROW:Array Value,ROW=(xs.take (i * 2)).toArray ++ Builtin.zeroCells (Value.cells (.agg #[.int .i64 0,.slice none 0 0])) (n + 1 - i) ++ Builtin.zeroCells (Value.cells (.agg #[.int .i64 0,.slice none 0 0])) (G - (n + 1)):=⟨_,rfl⟩
 rw [<- hG] at hrz ⊢
 rw [<- hROW] at hrz ⊢
 have hRl:(n + 1) * 2<=ROW.size:=by
  rw [hROW]
  simp [Builtin.zeroCells,Value.cells]
  omega
 obtain ⟨W1,hW1⟩:∃ W1,W1=w.drew.alloc (.cells ROW 45):=⟨_,rfl⟩
 rw [<- hW1] at hrz
 have hN:∀ j,j < (n + 1) * 2->(W1.cell? ⟨w.heap.size,j,none⟩).isSome=true:=fun j hj=>by
  rw [hW1,World.cell?_alloc_at (w:=w.drew) ROW _ w.heap.size j rfl,Array.getElem?_eq_getElem (by omega)];rfl
 have hNf:∀ j,W1.frozen? ⟨w.heap.size,j,none⟩=false:=fun j=>by rw [hW1];exact World.frozen?_alloc_at (w:=w.drew) ROW _ w.heap.size j rfl
 have hOb:∀ j v,w.cell? ⟨g,j,none⟩=some v->W1.cell? ⟨g,j,none⟩=some v:=fun j v h=>by rw [hW1,World.cell?_alloc_past (w:=w.drew) _ g j hbw];exact h
 have hOv:∀ j v,w.cell? ⟨vb,j,none⟩=some v->W1.cell? ⟨vb,j,none⟩=some v:=fun j v h=>by rw [hW1,World.cell?_alloc_past (w:=w.drew) _ vb j hvw];exact h
 have hcpA:∀ (W:World),(∀ x,W.cell? x=W1.cell? x)->(∀ x,W.frozen? x=W1.frozen? x)->∀ ty dc,(Builtin.copy_ #[22,22] ty #[.slice (some ⟨w.heap.size,i * 2,none⟩) (n + 1 - i) dc,.slice (some ⟨vb,0,none⟩) 1 1]).run Tryz.prog W=.ok (goInt 1) (W.setCells w.heap.size (i * 2) vs):=fun W hWc hWf ty dc =>
  run_copy_k W _ _ ty 45 i0 w.heap.size (i * 2) (n + 1 - i) dc ⟨vb,0,none⟩ 1 1 1 vs Tryz.underlying22 hi0 (by simp only [Nat.min_def];split <;> omega) (by rw [hvl,hzs])
   (fun j v hj=>by rw [Addr.add_lit,hWc,Nat.zero_add];exact hOv _ v (hvs j v hj))
   (fun j hj=>by rw [hWc];exact hN _ (by omega)) (fun j hj=>by rw [hWf];exact hNf _) h1v
 have hGn:n + 1<=G:=by rw [hG];exact grownCap_ge w _ _ _
 have hG63:G<=9223372036854775807:=by
  have:=grownCap_le_maxLen w (n + 1) cap 45 (by unfold maxLen;omega)
  rw [<- hG] at this
  unfold maxLen at this
  omega
 have hGi:¬ (G=i):=by omega
 have hGim:¬ (G=i + 1):=by omega
 have hci:¬ (cap=i):=by omega
 have hbN:g ≠ w.heap.size:=by omega
 have hdl:(xs.drop (i * 2)).length=(n - i) * 2:=by rw [List.length_drop,hxl];omega
 have hcpB:∀ (W:World),(∀ x,W.cell? x=(W1.setCells w.heap.size (i * 2) vs).cell? x)->(∀ x,W.frozen? x=(W1.setCells w.heap.size (i * 2) vs).frozen? x)->∀ ty dc sc,(Builtin.copy_ #[22,22] ty #[.slice (some ⟨w.heap.size,(i + 1) * 2,none⟩) (n - i) dc,.slice (some ⟨g,o + i * 2,none⟩) (n - i) sc]).run Tryz.prog W=.ok (goInt ((n - i:Nat))) (W.setCells w.heap.size ((i + 1) * 2) (xs.drop (i * 2))):=fun W hWc hWf ty dc sc =>
  run_copy_k W _ _ ty 45 i0 w.heap.size ((i + 1) * 2) (n - i) dc ⟨g,o + i * 2,none⟩ (n - i) sc (n - i) (xs.drop (i * 2)) Tryz.underlying22 hi0 (by simp only [Nat.min_def];split <;> omega) (by rw [hdl,hzs])
   (fun j v hj=>by
    rw [Addr.add_lit,hWc,World.cell?_setCells_out _ _ _ _ _ (fun h _=>absurd h hbN)]
    rw [Nat.add_assoc]
    exact hOb _ v (hcs (i * 2 + j) v (by rwa [List.getElem?_drop] at hj)))
   (fun j hj=>by
    obtain ⟨c1,e1,s1,_⟩:=setCells_heap w.heap.size 45 (0,0) vs (i * 2) W1 ROW (by rw [hW1];exact Array.getElem?_push_size) (by omega)
    rw [hWc];exact some_setCells _ _ _ e1 (by omega))
   (fun j hj=>by rw [hWf,World.frozen?_setCells];exact hNf _) (fun v hv=>h1c v (List.mem_of_mem_drop hv))
 subst hW1
 have hE1:∀ x,((w.alloc (.cells ROW 45)).drew).cell? x=(w.drew.alloc (.cells ROW 45)).cell? x:=fun x=>rfl
 have hE2:∀ x,((w.alloc (.cells ROW 45)).drew).frozen? x=(w.drew.alloc (.cells ROW 45)).frozen? x:=fun x=>rfl
 have hF1:∀ x,(((w.alloc (.cells ROW 45)).drew.setCells w.heap.size (i * 2) vs).drew).cell? x=((w.drew.alloc (.cells ROW 45)).setCells w.heap.size (i * 2) vs).cell? x:=fun x=>rfl
 have hF2:∀ x,(((w.alloc (.cells ROW 45)).drew.setCells w.heap.size (i * 2) vs).drew).frozen? x=((w.drew.alloc (.cells ROW 45)).setCells w.heap.size (i * 2) vs).frozen? x:=fun x=>rfl
 have hw1:IntKind.i64.wrap ((i:Int) + 1)=(i:Int) + 1:=by rw [IntKind.wrap_i64];omega
 have hb1:(0:Int)<=(i:Int) + 1:=by omega
 have hin:i<=n:=by omega
 have htn:((i:Int) + 1).toNat=i + 1:=by omega
 have hb3:(i:Int)<=(n:Int):=by omega
 clear hkk hik hold hROW hG hRl hg hv htk hcs hvs hN hNf hOb hOv hdl hxl hsz hi0 hz0 hzs hzb
 go_enter Tryz.func70,Tryz.ntmps70
 go_wp2_with (first
  | (at_builtin;refine Lib.wpList_append_run _ rfl _ _ _ _ rfl _ _ rfl rfl _ _ (hrz _) ?_)
  | (at_builtin;refine wp_copy_k _ rfl _ _ 22 22 rfl _ _ rfl rfl (hcpA _ hE1 hE2 _ _) ?_)
  | (at_builtin;refine wp_copy_k _ rfl _ _ 22 22 rfl _ _ rfl rfl (hcpB _ (fun _=>rfl) (fun _=>rfl) _ _ _) ?_))
 go_region_law_o (refine step_copy_k rfl _ _ 22 22 rfl (.slice (some ⟨w.heap.size,(i + 1) * 2,none⟩) (n - i) (G - (i + 1))) (.slice (some ⟨g,o + i * 2,none⟩) (n - i) (cap - i)) (by simp [Act.eval,Act.put]) (by simp [Act.eval,Act.put]) (hcpB _ hF1 hF2 3 (G - (i + 1)) (cap - i)) ?_)
 go_wp2
 go_ret
 exact ⟨rfl,rfl⟩
def PcR (w:World) (g o n cap:Nat) (xs:List Value):Prop:=∃ cur:Array Value,w.heap[g]? = some (.cells cur 45 (0,0))/\o + cap * 2<=cur.size/\n<=cap/\cap<=9223372036854775807/\xs.length=n * 2/\(cur.toList.drop o).take (n * 2)=xs
def Tn (w w':World) (g o l:Nat):Prop:=Tk.Kp (fun b=>b=g) w w'/\∃ cur cur':Array Value,w.heap[g]? = some (.cells cur 45 (0,0))/\w'.heap[g]? = some (.cells cur' 45 (0,0))/\cur'.size=cur.size/\∀ t,(t < o ∨ o + l<=t)->cur'[t]? = cur[t]?
theorem PcR.lt {w:World} {g o n cap:Nat} {xs:List Value} (h:PcR w g o n cap xs):g < w.heap.size:=by
 obtain ⟨cur,h,_⟩:=h
 exact (Array.getElem?_eq_some_iff.1 h).1
theorem PcR.blk {w w':World} {g o n cap:Nat} {xs:List Value} (h:PcR w g o n cap xs) (e:w'.heap[g]? = w.heap[g]?):PcR w' g o n cap xs:=by
 obtain ⟨cur,h,r⟩:=h
 exact ⟨cur,e.trans h,r⟩
theorem PcR.apart {w w':World} {g o n cap o' l':Nat} {xs:List Value} (h:PcR w g o n cap xs) (t:Tn w w' g o' l') (ha:o + cap * 2<=o' ∨ o' + l'<=o):PcR w' g o n cap xs:=by
 obtain ⟨cur,h1,h2,h3,h4,h5,h6⟩:=h
 obtain ⟨_,c1,c2,e1,e2,e3,e4⟩:=t
 rw [h1] at e1
 injection e1 with e1
 injection e1 with e1 _ _
 subst e1
 refine ⟨c2,e2,by omega,h3,h4,h5,?_⟩
 rw [<- h6]
 apply List.ext_getElem?
 intro t
 by_cases ht:t < n * 2
 ·rw [List.getElem?_take_of_lt ht,List.getElem?_take_of_lt ht,List.getElem?_drop,List.getElem?_drop,Array.getElem?_toList,Array.getElem?_toList]
  exact e4 _ (by omega)
 ·rw [List.getElem?_take,if_neg ht,List.getElem?_take,if_neg ht]
theorem PcR.own {w:World} {B g n cap:Nat} {xs:List Value} (h:w.ownsRow B 45 2 (.slice (some ⟨g,0,none⟩) n cap) n xs):PcR w g 0 n cap xs:=by
 rcases h.2 with ⟨e,_⟩ | ⟨g',cap',cur,e,_,hh,h1,h2,h3,h4⟩
 ·cases e
 ·cases e
  refine ⟨cur,hh,by omega,h1,?_,h.1,?_⟩
  ·unfold maxLen at h2;omega
  ·rw [List.drop_zero];exact h4
theorem PcR.cells {w:World} {g o n cap:Nat} {xs:List Value} (h:PcR w g o n cap xs):∀ j v,xs[j]? = some v->w.cell? ⟨g,o + j,none⟩=some v:=fun j v hj=>by
 obtain ⟨cur,hg,h2,h3,h4,h5,h6⟩:=h
 have hjl:=(List.getElem?_eq_some_iff.1 hj).1
 rw [<- h6,List.getElem?_take_of_lt (by omega),List.getElem?_drop,Array.getElem?_toList] at hj
 simp [World.cell?,hg,hj]
def PInsO (w:World) (g o n cap:Nat) (ys:List Value) (e:Ending) (w':World):Prop :=
 (e=.returned (.slice (some ⟨g,o,none⟩) (n + 1) cap)/\PcR w' g o (n + 1) cap ys/\Tn w w' g o (cap * 2)) ∨
 ∃ g' cap',e=.returned (.slice (some ⟨g',0,none⟩) (n + 1) cap')/\w.heap.size<=g'/\PcR w' g' 0 (n + 1) cap' ys/\Gb w w'
theorem tn_set {w w':World} {g o l:Nat} (h:Tn w w' g o l) {vs:List Value} {a:Nat} (h1:o<=a) (h2:a + vs.length<=o + l) (h3:∀ cur,w.heap[g]? = some (.cells cur 45 (0,0))->o + l<=cur.size):Tn w (w'.setCells g a vs) g o l:=by
 obtain ⟨k,c1,c2,e1,e2,e3,e4⟩:=h
 have h4:=h3 c1 e1
 obtain ⟨c3,e5,s5,f5⟩:=setCells_heap g 45 (0,0) vs a w' c2 e2 (by omega)
 refine ⟨kp_setCells (S:=fun b=>b=g) (.inl rfl) _ _ _ k,c1,c3,e1,e5,by omega,fun t ht=>?_⟩
 rw [f5 t,if_neg (by omega)]
 exact e4 t ht
theorem tn_refl {w:World} {g o l:Nat} {cur:Array Value} (h:w.heap[g]? = some (.cells cur 45 (0,0))):Tn w w g o l:=⟨⟨rfl,rfl,rfl,Nat.le_refl _,fun _ _ _=>rfl⟩,cur,cur,h,h,rfl,fun _ _=>rfl⟩
theorem tn_drew {w w':World} {g o l:Nat} (h:Tn w w' g o l):Tn w w'.drew g o l:=by
 obtain ⟨k,c1,c2,e1,e2,e3,e4⟩:=h
 exact ⟨⟨k.os,k.tape,k.output,k.size,k.block⟩,c1,c2,e1,e2,e3,e4⟩
theorem insP_endR {w:World} {g o n cap vb:Nat} {xs vs:List Value} {tv:TypeId} (h:PcR w g o n cap xs) (hn:n<=100000) (hr:n + 1<=cap) (hv:w.heap[vb]? = some (.cells vs.toArray tv (0,0))) (hvl:vs.length=2) (h1v:∀ v ∈ vs,v.oneCell'=true) :
  Calls Tryz.prog 70 #[.slice (some ⟨g,o,none⟩) n cap,.int .i64 (n:Int),.slice (some ⟨vb,0,none⟩) 1 1] w fun e w'=>e=.returned (.slice (some ⟨g,o,none⟩) (n + 1) cap)/\w'=w.setCells g (o + n * 2) vs:=by
 obtain ⟨i0,hi0,hz0,hzs,hzb⟩:=info_insR
 have mixed:Tryz.prog.follows Departure.mixedOrders=true:=by kernel_rfl
 obtain ⟨cur,hg,h2,h3,h4,h5,h6⟩:=h
 have hvs:∀ j v,vs[j]? = some v->w.cell? ((⟨vb,0,none⟩:Addr).add j)=some v:=fun j v hj=>by rw [Addr.add_lit,Nat.zero_add];simp [World.cell?,hv,hj]
 have hap:∀ ty,(Builtin.append_ #[22,22] ty #[.slice (some ⟨g,o,none⟩) n cap,.slice (some ⟨vb,0,none⟩) 1 1]).run Tryz.prog w=.ok (.slice (some ⟨g,o,none⟩) (n + 1) cap) (w.setCells g (o + n * 2) vs):=fun ty=>by
  have:=run_append_room_cells (P:=Tryz.prog) w 22 ty 45 i0 Tryz.underlying22 hi0 g o n cap ⟨vb,0,none⟩ 1 1 vs (by rw [hvl,hzs]) hvs h1v (by omega)
   (fun j hj=>by rw [hzs];exact some_setCells g _ _ hg (by omega)) (fun j hj=>by simp [World.frozen?,hg])
  rw [hzs] at this
  exact this
 clear hg h2 h5 h6 hi0 hz0 hzs hzb hvs hv
 go_enter Tryz.func70,Tryz.ntmps70
 go_wp2_with (at_builtin;refine Lib.wpList_append_run _ rfl _ _ _ _ rfl _ _ rfl rfl _ _ (hap _) ?_)
 go_ret
 exact ⟨rfl,rfl⟩
theorem insP_endG {w:World} {g o n cap vb:Nat} {xs vs:List Value} {tv:TypeId} (h:PcR w g o n cap xs) (hn:n<=100000) (hr:cap < n + 1) (hv:w.heap[vb]? = some (.cells vs.toArray tv (0,0))) (hvl:vs.length=2) (_h1v:∀ v ∈ vs,v.oneCell'=true) :
  Calls Tryz.prog 70 #[.slice (some ⟨g,o,none⟩) n cap,.int .i64 (n:Int),.slice (some ⟨vb,0,none⟩) 1 1] w fun e w'=>∃ v',e=.returned v'/\w'.ownsRow w.heap.size 45 2 v' (n + 1) (xs ++ vs)/\w.grownBy w' none:=by
 obtain ⟨i0,hi0,hz0,hzs,hzb⟩:=info_insR
 have mixed:Tryz.prog.follows Departure.mixedOrders=true:=by kernel_rfl
 have hc:=h.cells
 obtain ⟨cur,hg,h2,h3,h4,h5,h6⟩:=h
 have hvs:∀ j v,vs[j]? = some v->w.cell? ((⟨vb,0,none⟩:Addr).add j)=some v:=fun j v hj=>by rw [Addr.add_lit,Nat.zero_add];simp [World.cell?,hv,hj]
 have hap:∀ ty,∃ v' w',(Builtin.append_ #[22,22] ty #[.slice (some ⟨g,o,none⟩) n cap,.slice (some ⟨vb,0,none⟩) 1 1]).run Tryz.prog w=.ok v' w'/\w'.ownsRow w.heap.size 45 2 v' (n + 1) (xs ++ vs)/\w.grownBy w' none:=fun ty =>
  run_append_arg_grows (P:=Tryz.prog) w 22 ty 45 i0 (.agg #[.int .i64 0,.slice none 0 0]) 2 32 Tryz.underlying22 hi0 hz0 hzs hzb rfl (by decide) ⟨g,o,none⟩ n cap xs h5 (fun j u hj=>by rw [Addr.add_lit];exact hc j u hj) ⟨vb,0,none⟩ 1 1 vs (by rw [hvl]) hvs hr (by simp only [maxLen];omega) (by omega)
 obtain ⟨v5,w5,hap,ho,hgr⟩:=hap 22
 have OO:Hid (w5.ownsRow w.heap.size 45 2 v5 (n + 1) (xs ++ vs)/\w.grownBy w5 none):=⟨ho,hgr⟩
 obtain ⟨a5,c5,e5⟩:∃ a5 c5,v5=.slice a5 (n + 1) c5:=by
  rcases ho.2 with ⟨_,h0⟩ | ⟨g',cap',cur',e,_⟩
  ·omega
  ·exact ⟨_,_,e⟩
 subst e5
 clear hg h2 h5 h6 hi0 hz0 hzs hzb hvs hv hc ho hgr
 go_enter Tryz.func70,Tryz.ntmps70
 go_wp2_with (at_builtin;refine Lib.wpList_append_run _ rfl _ _ _ _ rfl _ _ rfl rfl _ _ hap ?_)
 go_ret
 exact ⟨_,rfl,OO.out⟩
theorem insP_c {w:World} {g o n cap vb i:Nat} {xs vs:List Value} {tv:TypeId} (h:PcR w g o n cap xs) (hn:n<=100000) (hi:i<=n) (hv:w.heap[vb]? = some (.cells vs.toArray tv (0,0))) (hvl:vs.length=2) (hne:vb ≠ g) (h1c:∀ v ∈ xs,v.oneCell'=true) (h1v:∀ v ∈ vs,v.oneCell'=true) :
  Calls Tryz.prog 70 #[.slice (some ⟨g,o,none⟩) n cap,.int .i64 (i:Int),.slice (some ⟨vb,0,none⟩) 1 1] w fun e w'=>PInsO w g o n cap (xs.take (i * 2) ++ vs ++ xs.drop (i * 2)) e w':=by
 have H:=h
 obtain ⟨cur,hg,hsz,hle,hmx,hxl,htk⟩:=h
 have hS:∀ c,w.heap[g]? = some (.cells c 45 (0,0))->o + cap * 2<=c.size:=fun c e=>by
  rw [hg] at e
  injection e with e
  injection e with e _ _
  subst e
  exact hsz
 have hcur:∀ t,t < n * 2->cur[o + t]? = xs[t]? := fun t ht=>by rw [<- htk,List.getElem?_take_of_lt (by omega),List.getElem?_drop,Array.getElem?_toList]
 have hdl:(xs.drop (i * 2)).length=(n - i) * 2:=by rw [List.length_drop,hxl];omega
 have sft:∀ {c c1:Array Value} {a:Nat} {ys:List Value},(∀ t,c1[t]? = if a<=t/\t < a + ys.length then ys[t - a]? else c[t]?)->o<=a->∀ t,(c1.toList.drop o).toArray[t]? = if a - o<=t/\t < a - o + ys.length then ys[t - (a - o)]? else (c.toList.drop o).toArray[t]? := fun {c c1 a ys} f ho t=>by
  have e1:(c1.toList.drop o).toArray[t]? = c1[o + t]? := by simp
  have e2:(c.toList.drop o).toArray[t]? = c[o + t]? := by simp
  rw [e1,e2,f (o + t)]
  by_cases hc:a<=o + t/\o + t < a + ys.length
  ·rw [if_pos hc,if_pos (by omega),show o + t - a=t - (a - o) by omega]
  ·rw [if_neg hc,if_neg (by omega)]
 by_cases hin:i=n
 ·subst hin
  have e0:xs.take (i * 2) ++ vs ++ xs.drop (i * 2)=xs ++ vs:=by rw [List.take_of_length_le (by omega),List.drop_of_length_le (by omega),List.append_nil]
  rw [e0]
  by_cases hr:i + 1<=cap
  ·refine (insP_endR H hn hr hv hvl h1v).mono ?_
   rintro e w' ⟨rfl,rfl⟩
   have tn:=tn_set (tn_refl (l:=cap * 2) (o:=o) hg) (vs:=vs) (a:=o + i * 2) (by omega) (by omega) hS
   obtain ⟨c1,e1,s1,f1⟩:=setCells_heap g 45 (0,0) vs (o + i * 2) w cur hg (by omega)
   refine .inl ⟨rfl,⟨c1,e1,by omega,hr,hmx,by rw [List.length_append];omega,?_⟩,tn⟩
   apply List.ext_getElem?
   intro t
   by_cases ht:t < (i + 1) * 2
   ·rw [List.getElem?_take_of_lt ht,List.getElem?_drop,Array.getElem?_toList,f1]
    by_cases h0:t < i * 2
    ·rw [if_neg (by omega),hcur t h0,List.getElem?_append_left (by omega)]
    ·rw [if_pos (by omega),List.getElem?_append_right (by omega)]
     congr 1
     omega
   ·rw [List.getElem?_take,if_neg ht,List.getElem?_eq_none (by rw [List.length_append];omega)]
  ·refine (insP_endG H hn (by omega) hv hvl h1v).mono ?_
   rintro e w' ⟨v',rfl,ho,hgr⟩
   have hl:=fun g e=>World.ownsRow.lt ho g e
   have ho':=ho
   rcases ho.2 with ⟨e,h0⟩ | ⟨g',cap',cur',e,hB,_⟩
   ·omega
   ·subst e
    exact .inr ⟨g',cap',rfl,hB,PcR.own ho',⟨hgr.os,hgr.tape,hgr.output,hgr.size,fun k hk=>hgr.block k hk (by simp)⟩⟩
 ·have hea:(i + 1) * 2=i * 2 + vs.length:=by omega
  by_cases hr:n + 1<=cap
  ·refine (insP_shift hg hsz (by omega) htk (by omega) hr hv hvl hne h1c h1v).mono ?_
   rintro e w' ⟨rfl,rfl⟩
   obtain ⟨c1,e1,s1,f1⟩:=setCells_heap g 45 (0,0) (xs.drop (i * 2)) (o + (i + 1) * 2) w.drew cur hg (by rw [hdl];omega)
   obtain ⟨c2,e2,s2,f2⟩:=setCells_heap g 45 (0,0) vs (o + i * 2) _ c1 e1 (by omega)
   have t1:=tn_set (tn_drew (tn_refl (l:=cap * 2) (o:=o) hg)) (vs:=xs.drop (i * 2)) (a:=o + (i + 1) * 2) (by omega) (by rw [hdl];omega) hS
   have t2:=tn_set t1 (vs:=vs) (a:=o + i * 2) (by omega) (by omega) hS
   refine .inl ⟨rfl,⟨c2,e2,by omega,hr,hmx,by rw [List.length_append,List.length_append,hdl,List.length_take];omega,?_⟩,t2⟩
   have f1':=sft f1 (by omega)
   have f2':=sft f2 (by omega)
   rw [show o + (i + 1) * 2 - o=i * 2 + vs.length by omega] at f1'
   rw [show o + i * 2 - o=i * 2 by omega] at f2'
   have:=ins_cells (N:=(n + 1) * 2) (a:=i * 2) (xs:=xs) (vs:=vs) (by omega) (by omega) (fun t ht=>by rw [List.getElem?_toArray,List.getElem?_drop,Array.getElem?_toList];exact hcur t (by omega)) f1' f2'
   simpa using this
  ·refine (insP_grow hg hsz htk (by omega) hle (by omega) hn hv hvl h1c h1v).mono ?_
   rintro e w' ⟨rfl,rfl⟩
   have hG:=grownCap_ge w (n + 1) cap 45
   have hG2:=grownCap_le_maxLen w (n + 1) cap 45 (by unfold maxLen;omega)
   unfold maxLen at hG2
   generalize grownCap w (n + 1) cap 45=G at *
   have hcc:∀ t,t < i * 2->((xs.take (i * 2)).toArray ++ Builtin.zeroCells (Value.cells (.agg #[.int .i64 0,.slice none 0 0])) (n + 1 - i) ++ Builtin.zeroCells (Value.cells (.agg #[.int .i64 0,.slice none 0 0])) (G - (n + 1)))[t]? = xs[t]? := fun t ht=>by
    rw [Array.append_assoc,Array.getElem?_append_left (by simp;omega)]
    simp [ht]
   have hrs:((xs.take (i * 2)).toArray ++ Builtin.zeroCells (Value.cells (.agg #[.int .i64 0,.slice none 0 0])) (n + 1 - i) ++ Builtin.zeroCells (Value.cells (.agg #[.int .i64 0,.slice none 0 0])) (G - (n + 1))).size=G * 2:=by
    simp [Builtin.zeroCells,Value.cells]
    omega
   generalize ((xs.take (i * 2)).toArray ++ Builtin.zeroCells (Value.cells (.agg #[.int .i64 0,.slice none 0 0])) (n + 1 - i) ++ Builtin.zeroCells (Value.cells (.agg #[.int .i64 0,.slice none 0 0])) (G - (n + 1)))=ROW at *
   obtain ⟨c1,e1,s1,f1⟩:=setCells_heap w.heap.size 45 (0,0) vs (i * 2) (w.alloc (.cells ROW 45)).drew ROW Array.getElem?_push_size (by omega)
   obtain ⟨c2,e2,s2,f2⟩:=setCells_heap w.heap.size 45 (0,0) (xs.drop (i * 2)) ((i + 1) * 2) (((w.alloc (.cells ROW 45)).drew.setCells w.heap.size (i * 2) vs).drew) c1 e1 (by rw [hdl];omega)
   rw [hea] at f2
   refine .inr ⟨w.heap.size,G,rfl,Nat.le_refl _,⟨c2,?_,by omega,hG,hG2,by rw [List.length_append,List.length_append,hdl,List.length_take];omega,?_⟩,?_⟩
   ·simpa using e2
   ·rw [List.drop_zero]
    exact ins_cells' (by omega) (by omega) hcc f1 f2
   ·have k0:Tk.Kp (fun b=>False) w (w.alloc (.cells ROW 45)).drew:=Tk.Kp.of_gr ((Tk.Gw.refl w).alloc (.cells ROW 45)).gr.drew
    have k1:=kp_setCells (.inr (Nat.le_refl _)) vs (i * 2) _ k0
    have k2:=kp_setCells (S:=fun b=>False) (.inr (Nat.le_refl _)) (xs.drop (i * 2)) ((i + 1) * 2) _ (show Tk.Kp (fun b=>False) w (((w.alloc (.cells ROW 45)).drew.setCells w.heap.size (i * 2) vs).drew) from ⟨k1.os,k1.tape,k1.output,k1.size,k1.block⟩)
    exact ⟨k2.os,k2.tape,k2.output,k2.size,fun k hk=>k2.block k hk (fun h=>h)⟩
end Go.Proofs.YtcipdampcmfmaabGreat
