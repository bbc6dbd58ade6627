import Derived.Test.YtcipdampcmfmaabGreatJa5
import Derived.Maps.AppendAt
namespace Go.Proofs.YtcipdampcmfmaabGreat
open Go.RowKit Go.Sort
set_option maxRecDepth 100000
set_option maxHeartbeats 4000000
theorem Tryz.info_insR:(Tryz.prog.info? 45).map (fun i=>(i.zero,i.size,i.bytes))=some (some (.agg #[.int .i64 0,.slice none 0 0]),2,32):=by kernel_rfl
theorem info_insR:∃ i0,Tryz.prog.info? 45=some i0/\i0.zero=some (.agg #[.int .i64 0,.slice none 0 0])/\i0.size=2/\i0.bytes=32:=by
 have h:=Tryz.info_insR
 cases hi:Tryz.prog.info? 45 with
 | none=>rw [hi] at h;cases h
 | some i =>
  rw [hi] at h
  simp only [Option.map_some,Option.some.injEq,Prod.mk.injEq] at h
  exact ⟨i,rfl,h.1,h.2.1,h.2.2⟩
theorem size_insR (w:World):(Go.sizeOf 45).run Tryz.prog w=.ok 2 w:=by
 obtain ⟨i,hi,_,hs,_⟩:=info_insR
 simp [Go.sizeOf,typeInfo,hi,hs]
theorem insR_shift {w:World} {g n cap i vb:Nat} {cur:Array Value} {xs vs:List Value} {tv:TypeId} (hg:w.heap[g]? = some (.cells cur 45 (0,0))) (hsz:cur.size=cap * 2) (hmx:cap<=9223372036854775807) (htk:cur.toList.take (n * 2)=xs) (hi:i < n) (hroom:n + 1<=cap)
  (hv:w.heap[vb]? = some (.cells vs.toArray tv (0,0))) (hvl:vs.length=2) (hne:vb ≠ g) (h1c:∀ v ∈ xs,v.oneCell'=true) (h1v:∀ v ∈ vs,v.oneCell'=true) :
  Calls Tryz.prog 70 #[.slice (some ⟨g,0,none⟩) n cap,.int .i64 (i:Int),.slice (some ⟨vb,0,none⟩) 1 1] w fun e w'=>e=.returned (.slice (some ⟨g,0,none⟩) (n + 1) cap)/\w'=(w.drew.setCells g ((i + 1) * 2) (xs.drop (i * 2))).setCells g (i * 2) vs:=by
 obtain ⟨i0,hi0,_,hzs,_⟩:=info_insR
 have hxl:xs.length=n * 2:=by rw [<- htk,List.length_take,Array.length_toList];omega
 have mixed:Tryz.prog.follows Departure.mixedOrders=true:=by kernel_rfl
 have hz2:¬ ((i:Int)=(n:Int)):=by omega
 have hcell:∀ t,t < cap * 2->(w.cell? ⟨g,t,none⟩).isSome=true:=fun t ht=>some_setCells g _ _ hg (by omega)
 have hfz:∀ t,w.frozen? ⟨g,t,none⟩=false:=fun t=>by simp [World.frozen?,hg]
 have hcs:∀ j v,xs[j]? = some v->w.cell? ⟨g,j,none⟩=some v:=fun j v hj=>by
  have hjl:=(List.getElem?_eq_some_iff.1 hj).1
  rw [<- htk,List.getElem?_take_of_lt (by omega),Array.getElem?_toList] at hj
  simp [World.cell?,hg,hj]
 have hvs:∀ j v,vs[j]? = some v->w.cell? ⟨vb,j,none⟩=some v:=fun j v hj=>by simp [World.cell?,hv,hj]
 have hov:∀ lb cb,(callFunc 109 #[.slice (some ⟨vb,0,none⟩) 1 1,.slice (some ⟨g,(i + 1) * 2,none⟩) lb cb]).run Tryz.prog w=.ok (.value (.bool false)) w:=fun lb cb=>by
  rw [run_callFunc_extern Tryz.func109 (by kernel_rfl) (by kernel_rfl) (by kernel_rfl) (e:=Extern.SlicesOverlaps.overlaps #[22,22] #[4]) (by kernel_rfl),
   Lib.run_overlaps_apart w 22 4 45 Tryz.underlying22 2 size_insR ⟨vb,0,none⟩ ⟨g,(i + 1) * 2,none⟩ 1 1 lb cb hne tv 45 2 (cap * 2) (by simp [World.shape?,hv,hvl]) (by simp [World.shape?,hg,hsz]) (by omega) (by simp [World.frozen?,hv]) (by simp [World.frozen?,hv])]
  rfl
 have hdl:(xs.drop (i * 2)).length=(n - i) * 2:=by rw [List.length_drop,hxl];omega
 have hw1:IntKind.i64.wrap ((i:Int) + 1)=(i:Int) + 1:=by rw [IntKind.wrap_i64];omega
 have hb1:(0:Int)<=(i:Int) + 1:=by omega
 have hin:i<=n:=by omega
 have htn:((i:Int) + 1).toNat=i + 1:=by omega
 have hb2:¬ (cap=i + 1):=by omega
 have hb3:(i:Int)<=(n:Int) + 1:=by omega
 have hb4:¬ (cap=i):=by omega
 have hcp1:∀ ty dc sc,(Builtin.copy_ #[22,22] ty #[.slice (some ⟨g,(i + 1) * 2,none⟩) (n - i) dc,.slice (some ⟨g,i * 2,none⟩) (n + 1 - i) sc]).run Tryz.prog w.drew=.ok (goInt ((n - i:Nat))) (w.drew.setCells g ((i + 1) * 2) (xs.drop (i * 2))):=fun ty dc sc =>
  run_copy_k w.drew _ _ ty 45 i0 g ((i + 1) * 2) (n - i) dc ⟨g,i * 2,none⟩ (n + 1 - i) sc (n - i) (xs.drop (i * 2)) Tryz.underlying22 hi0 (by simp only [Nat.min_def];split <;> omega) (by rw [hdl,hzs])
   (fun j v hj=>by rw [Addr.add_lit];exact hcs (i * 2 + j) v (by rwa [List.getElem?_drop] at hj))
   (fun j hj=>hcell _ (by omega)) (fun j hj=>hfz _) (fun v hv=>h1c v (List.mem_of_mem_drop hv))
 obtain ⟨W1,hW1⟩:∃ W1,W1=w.drew.setCells g ((i + 1) * 2) (xs.drop (i * 2)):=⟨_,rfl⟩
 obtain ⟨c1,e1,s1,_⟩:=setCells_heap g 45 (0,0) (xs.drop (i * 2)) ((i + 1) * 2) w.drew cur hg (by rw [hdl];omega)
 rw [<- hW1] at e1
 have hcp2:∀ (W:World),(∀ x,W.cell? x=W1.cell? x)->(∀ x,W.frozen? x=W1.frozen? x)->∀ ty dc,(Builtin.copy_ #[22,22] ty #[.slice (some ⟨g,i * 2,none⟩) (n + 1 - i) dc,.slice (some ⟨vb,0,none⟩) 1 1]).run Tryz.prog W=.ok (goInt 1) (W.setCells g (i * 2) vs):=fun W hWc hWf ty dc =>
  run_copy_k W _ _ ty 45 i0 g (i * 2) (n + 1 - i) dc ⟨vb,0,none⟩ 1 1 1 vs Tryz.underlying22 hi0 (by simp only [Nat.min_def];split <;> omega) (by rw [hvl,hzs])
   (fun j v hj=>by
    rw [Addr.add_lit,hWc,hW1,World.cell?_setCells_out g _ _ _ _ (fun h _=>absurd h hne),Nat.zero_add]
    exact hvs j v hj)
   (fun j hj=>by rw [hWc];exact some_setCells g _ _ e1 (by omega)) (fun j hj=>by rw [hWf,hW1,World.frozen?_setCells];exact hfz _) h1v
 rw [<- hW1] at hcp1
 clear hg hv htk hxl hcs hvs hcell hfz e1 s1 hdl hsz hi0 hzs
 go_enter Tryz.func70,Tryz.ntmps70
 go_wp2_with (simp only [hov])
 go_region_law_o (refine step_copy_k rfl _ _ 22 22 rfl _ _ (by simp [Act.eval,Act.put]) (by simp [Act.eval,Act.put]) (hcp1 _ _ _) ?_)
 go_wp2_with (at_builtin;refine wp_copy_k _ rfl _ _ 22 22 rfl _ _ rfl rfl (hcp2 _ (fun _=>rfl) (fun _=>rfl) _ _) ?_)
 go_ret
 first | exact ⟨rfl,rfl⟩ | exact ⟨rfl,by rw [hW1]⟩
theorem insR_grow {w:World} {g n cap i vb:Nat} {cur:Array Value} {xs vs:List Value} {tv:TypeId} (hg:w.heap[g]? = some (.cells cur 45 (0,0))) (hsz:cur.size=cap * 2) (htk:cur.toList.take (n * 2)=xs) (hi:i < n) (hnc:n<=cap) (hroom:cap < n + 1) (hn:n<=100000)
  (hv:w.heap[vb]? = some (.cells vs.toArray tv (0,0))) (hvl:vs.length=2) (h1c:∀ v ∈ xs,v.oneCell'=true) (h1v:∀ v ∈ vs,v.oneCell'=true) :
  Calls Tryz.prog 70 #[.slice (some ⟨g,0,none⟩) n cap,.int .i64 (i:Int),.slice (some ⟨vb,0,none⟩) 1 1] w fun e w'=>e=.returned (.slice (some ⟨w.heap.size,0,none⟩) (n + 1) (grownCap w (n + 1) cap 45)) /\
   w'=(((w.alloc (.cells ((xs.take (i * 2)).toArray ++ Builtin.zeroCells (Value.cells (.agg #[.int .i64 0,.slice none 0 0])) (n + 1 - i) ++ Builtin.zeroCells (Value.cells (.agg #[.int .i64 0,.slice none 0 0])) (grownCap w (n + 1) cap 45 - (n + 1))) 45)).drew.setCells w.heap.size (i * 2) vs).drew).setCells w.heap.size ((i + 1) * 2) (xs.drop (i * 2)):=by
 obtain ⟨i0,hi0,hz0,hzs,hzb⟩:=info_insR
 have hxl:xs.length=n * 2:=by rw [<- htk,List.length_take,Array.length_toList];omega
 have mixed:Tryz.prog.follows Departure.mixedOrders=true:=by kernel_rfl
 have hz2:¬ ((i:Int)=(n:Int)):=by omega
 have hz3:(cap:Int) < (n:Int) + 1:=by omega
 have hcs:∀ j v,xs[j]? = some v->w.cell? ⟨g,j,none⟩=some v:=fun j v hj=>by
  have hjl:=(List.getElem?_eq_some_iff.1 hj).1
  rw [<- htk,List.getElem?_take_of_lt (by omega),Array.getElem?_toList] at hj
  simp [World.cell?,hg,hj]
 have hvs:∀ j v,vs[j]? = some v->w.cell? ⟨vb,j,none⟩=some v:=fun j v hj=>by simp [World.cell?,hv,hj]
 have hbw:g < w.heap.size:=(Array.getElem?_eq_some_iff.1 hg).1
 have hvw:vb < w.heap.size:=(Array.getElem?_eq_some_iff.1 hv).1
 have hkk:(n:Int) + 1 - (i:Int)=((n + 1 - i:Nat):Int):=by omega
 have hik:i + (n + 1 - i)=n + 1:=by omega
 have hold:(Builtin.firstCells i0.size i (.slice (some ⟨g,0,none⟩) i cap)).run Tryz.prog w.drew=.ok (xs.take (i * 2)).toArray w.drew:=by
  rw [hzs]
  exact run_firstCells_some w.drew 2 i ⟨g,0,none⟩ i cap (xs.take (i * 2)) (by rw [List.length_take];omega) (fun j v hj=>by
   rw [Addr.add_lit,Nat.zero_add]
   rw [List.getElem?_take] at hj
   split at hj
   ·exact hcs j v hj
   ·cases hj)
 have hrz:∀ ty,(Builtin.append_ #[22,3] ty #[.slice (some ⟨g,0,none⟩) i cap,.int .i64 ((n:Int) + 1 - (i:Int))]).run Tryz.prog w =
   .ok (.slice (some ⟨w.heap.size,0,none⟩) (n + 1) (grownCap w (n + 1) cap 45)) (w.drew.alloc (.cells ((xs.take (i * 2)).toArray ++ Builtin.zeroCells (Value.cells (.agg #[.int .i64 0,.slice none 0 0])) (n + 1 - i) ++ Builtin.zeroCells (Value.cells (.agg #[.int .i64 0,.slice none 0 0])) (grownCap w (n + 1) cap 45 - (n + 1))) 45)):=fun ty=>by
  have h:=Lib.run_append_grow_zeros w 22 3 ty 45 i0 _ .i64 .i64 Tryz.underlying22 Tryz.underlying3 hi0 hz0 (some ⟨g,0,none⟩) i cap (xs.take (i * 2)) hold (n + 1 - i) (by omega) (by omega) (by omega) (by omega) (by rw [hzb];omega) (by rw [hzb,hik];exact growslice_fits hroom (by omega))
  rw [hik] at h
  rw [hkk]
  exact h
 obtain ⟨G,hG⟩:∃ G,G=grownCap w (n + 1) cap 45:=⟨_,rfl⟩
 obtain ⟨ROW,hROW⟩:∃ ROW:Array Value,ROW=(xs.take (i * 2)).toArray ++ Builtin.zeroCells (Value.cells (.agg #[.int .i64 0,.slice none 0 0])) (n + 1 - i) ++ Builtin.zeroCells (Value.cells (.agg #[.int .i64 0,.slice none 0 0])) (G - (n + 1)):=⟨_,rfl⟩
 rw [<- hG] at hrz ⊢
 rw [<- hROW] at hrz ⊢
 have hRl:(n + 1) * 2<=ROW.size:=by
  rw [hROW]
  simp [Builtin.zeroCells,Value.cells]
  omega
 obtain ⟨W1,hW1⟩:∃ W1,W1=w.drew.alloc (.cells ROW 45):=⟨_,rfl⟩
 rw [<- hW1] at hrz
 have hN:∀ j,j < (n + 1) * 2->(W1.cell? ⟨w.heap.size,j,none⟩).isSome=true:=fun j hj=>by
  rw [hW1,World.cell?_alloc_at (w:=w.drew) ROW _ w.heap.size j rfl,Array.getElem?_eq_getElem (by omega)];rfl
 have hNf:∀ j,W1.frozen? ⟨w.heap.size,j,none⟩=false:=fun j=>by rw [hW1];exact World.frozen?_alloc_at (w:=w.drew) ROW _ w.heap.size j rfl
 have hOb:∀ j v,w.cell? ⟨g,j,none⟩=some v->W1.cell? ⟨g,j,none⟩=some v:=fun j v h=>by rw [hW1,World.cell?_alloc_past (w:=w.drew) _ g j hbw];exact h
 have hOv:∀ j v,w.cell? ⟨vb,j,none⟩=some v->W1.cell? ⟨vb,j,none⟩=some v:=fun j v h=>by rw [hW1,World.cell?_alloc_past (w:=w.drew) _ vb j hvw];exact h
 have hcpA:∀ (W:World),(∀ x,W.cell? x=W1.cell? x)->(∀ x,W.frozen? x=W1.frozen? x)->∀ ty dc,(Builtin.copy_ #[22,22] ty #[.slice (some ⟨w.heap.size,i * 2,none⟩) (n + 1 - i) dc,.slice (some ⟨vb,0,none⟩) 1 1]).run Tryz.prog W=.ok (goInt 1) (W.setCells w.heap.size (i * 2) vs):=fun W hWc hWf ty dc =>
  run_copy_k W _ _ ty 45 i0 w.heap.size (i * 2) (n + 1 - i) dc ⟨vb,0,none⟩ 1 1 1 vs Tryz.underlying22 hi0 (by simp only [Nat.min_def];split <;> omega) (by rw [hvl,hzs])
   (fun j v hj=>by rw [Addr.add_lit,hWc,Nat.zero_add];exact hOv _ v (hvs j v hj))
   (fun j hj=>by rw [hWc];exact hN _ (by omega)) (fun j hj=>by rw [hWf];exact hNf _) h1v
 have hGn:n + 1<=G:=by rw [hG];exact grownCap_ge w _ _ _
 have hG63:G<=9223372036854775807:=by
  have:=grownCap_le_maxLen w (n + 1) cap 45 (by unfold maxLen;omega)
  rw [<- hG] at this
  unfold maxLen at this
  omega
 have hGi:¬ (G=i):=by omega
 have hGim:¬ (G=i + 1):=by omega
 have hci:¬ (cap=i):=by omega
 have hbN:g ≠ w.heap.size:=by omega
 have hdl:(xs.drop (i * 2)).length=(n - i) * 2:=by rw [List.length_drop,hxl];omega
 have hcpB:∀ (W:World),(∀ x,W.cell? x=(W1.setCells w.heap.size (i * 2) vs).cell? x)->(∀ x,W.frozen? x=(W1.setCells w.heap.size (i * 2) vs).frozen? x)->∀ ty dc sc,(Builtin.copy_ #[22,22] ty #[.slice (some ⟨w.heap.size,(i + 1) * 2,none⟩) (n - i) dc,.slice (some ⟨g,i * 2,none⟩) (n - i) sc]).run Tryz.prog W=.ok (goInt ((n - i:Nat))) (W.setCells w.heap.size ((i + 1) * 2) (xs.drop (i * 2))):=fun W hWc hWf ty dc sc =>
  run_copy_k W _ _ ty 45 i0 w.heap.size ((i + 1) * 2) (n - i) dc ⟨g,i * 2,none⟩ (n - i) sc (n - i) (xs.drop (i * 2)) Tryz.underlying22 hi0 (by simp only [Nat.min_def];split <;> omega) (by rw [hdl,hzs])
   (fun j v hj=>by
    rw [Addr.add_lit,hWc,World.cell?_setCells_out _ _ _ _ _ (fun h _=>absurd h hbN)]
    exact hOb _ v (hcs (i * 2 + j) v (by rwa [List.getElem?_drop] at hj)))
   (fun j hj=>by
    obtain ⟨c1,e1,s1,_⟩:=setCells_heap w.heap.size 45 (0,0) vs (i * 2) W1 ROW (by rw [hW1];exact Array.getElem?_push_size) (by omega)
    rw [hWc];exact some_setCells _ _ _ e1 (by omega))
   (fun j hj=>by rw [hWf,World.frozen?_setCells];exact hNf _) (fun v hv=>h1c v (List.mem_of_mem_drop hv))
 subst hW1
 have hE1:∀ x,((w.alloc (.cells ROW 45)).drew).cell? x=(w.drew.alloc (.cells ROW 45)).cell? x:=fun x=>rfl
 have hE2:∀ x,((w.alloc (.cells ROW 45)).drew).frozen? x=(w.drew.alloc (.cells ROW 45)).frozen? x:=fun x=>rfl
 have hF1:∀ x,(((w.alloc (.cells ROW 45)).drew.setCells w.heap.size (i * 2) vs).drew).cell? x=((w.drew.alloc (.cells ROW 45)).setCells w.heap.size (i * 2) vs).cell? x:=fun x=>rfl
 have hF2:∀ x,(((w.alloc (.cells ROW 45)).drew.setCells w.heap.size (i * 2) vs).drew).frozen? x=((w.drew.alloc (.cells ROW 45)).setCells w.heap.size (i * 2) vs).frozen? x:=fun x=>rfl
 have hw1:IntKind.i64.wrap ((i:Int) + 1)=(i:Int) + 1:=by rw [IntKind.wrap_i64];omega
 have hb1:(0:Int)<=(i:Int) + 1:=by omega
 have hin:i<=n:=by omega
 have htn:((i:Int) + 1).toNat=i + 1:=by omega
 have hb3:(i:Int)<=(n:Int):=by omega
 clear hkk hik hold hROW hG hRl hg hv htk hcs hvs hN hNf hOb hOv hdl hxl hsz hi0 hz0 hzs hzb
 go_enter Tryz.func70,Tryz.ntmps70
 go_wp2_with (first
  | (at_builtin;refine Lib.wpList_append_run _ rfl _ _ _ _ rfl _ _ rfl rfl _ _ (hrz _) ?_)
  | (at_builtin;refine wp_copy_k _ rfl _ _ 22 22 rfl _ _ rfl rfl (hcpA _ hE1 hE2 _ _) ?_)
  | (at_builtin;refine wp_copy_k _ rfl _ _ 22 22 rfl _ _ rfl rfl (hcpB _ (fun _=>rfl) (fun _=>rfl) _ _ _) ?_))
 go_region_law_o (refine step_copy_k rfl _ _ 22 22 rfl (.slice (some ⟨w.heap.size,(i + 1) * 2,none⟩) (n - i) (G - (i + 1))) (.slice (some ⟨g,i * 2,none⟩) (n - i) (cap - i)) (by simp [Act.eval,Act.put]) (by simp [Act.eval,Act.put]) (hcpB _ hF1 hF2 3 (G - (i + 1)) (cap - i)) ?_)
 go_wp2
 go_ret
 exact ⟨rfl,rfl⟩
def InsO_insR (w:World) (v:Value) (n:Nat) (xs:List Value) (e:Ending) (w':World):Prop:=∃ g cap,e=.returned (.slice (some ⟨g,0,none⟩) (n + 1) cap)/\w'.ownsRow 0 45 2 (.slice (some ⟨g,0,none⟩) (n + 1) cap) (n + 1) xs/\Tk.Kp (fun b=>v.ownBlock=some b) w w'/\(v.ownBlock=some g ∨ w.heap.size<=g)
theorem insR_end {w:World} {v:Value} {n vb:Nat} {xs vs:List Value} {tv:TypeId} (h:w.ownsRow 0 45 2 v n xs) (hn:n<=100000) (hv:w.heap[vb]? = some (.cells vs.toArray tv (0,0))) (hvl:vs.length=2) (h1v:∀ v ∈ vs,v.oneCell'=true) :
  Calls Tryz.prog 70 #[v,.int .i64 (n:Int),.slice (some ⟨vb,0,none⟩) 1 1] w fun e w'=>InsO_insR w v n (xs ++ vs) e w':=by
 obtain ⟨i0,hi0,hz0,hzs,hzb⟩:=info_insR
 have mixed:Tryz.prog.follows Departure.mixedOrders=true:=by kernel_rfl
 have hvs:∀ j v,vs[j]? = some v->w.cell? ((⟨vb,0,none⟩:Addr).add j)=some v:=fun j v hj=>by rw [Addr.add_lit,Nat.zero_add];simp [World.cell?,hv,hj]
 have FO:Hid (∀ v' W',W'.ownsRow 0 45 2 v' (n + 1) (xs ++ vs)->w.grownBy W' v.ownBlock->(v'=.slice none 0 0 ↔ v=.slice none 0 0/\1=0)->(v'.ownBlock=v.ownBlock ∨ v'.ownBlock=some w.heap.size)->InsO_insR w v n (xs ++ vs) (.returned v') W'):=by
  intro v' W' hown hgrow hnn hloc
  have h2:=hown
  rcases hown.2 with ⟨e,_⟩ | ⟨g,cap,cur,rfl,_⟩
  ·exact absurd (hnn.1 e).2 (by decide)
  ·refine ⟨g,cap,rfl,h2,⟨hgrow.os,hgrow.tape,hgrow.output,hgrow.size,fun k hk hne=>hgrow.block k hk (fun e=>hne e.symm)⟩,?_⟩
   rcases hloc with e | e
   ·exact .inl e.symm
   ·injection e with e
    exact .inr (by dsimp only at e;omega)
 obtain ⟨a,cap0,ev⟩:∃ a cap0,v=.slice a n cap0:=by
  rcases h.2 with ⟨rfl,h0⟩ | ⟨b,cap,cur,rfl,_⟩
  ·exact ⟨none,0,by rw [h0]⟩
  ·exact ⟨_,cap,rfl⟩
 have hsp:∃ q:Option (Nat × Nat),a=q.map fun x=>⟨x.1,x.2,none⟩:=by
  rcases h.2 with ⟨rfl,h0⟩ | ⟨b,cap,cur,rfl,_⟩
  ·cases ev;exact ⟨none,rfl⟩
  ·cases ev;exact ⟨some (b,0),rfl⟩
 have hnc:n<=cap0:=by
  rcases h.2 with ⟨rfl,h0⟩ | ⟨b,cap,cur,rfl,_,_,hle,_⟩
  ·cases ev;omega
  ·cases ev;exact hle
 have hn0:a=none->n=0:=by
  rcases h.2 with ⟨rfl,h0⟩ | ⟨b,cap,cur,rfl,_,_,hle,_⟩
  ·cases ev;exact fun _=>h0
  ·cases ev;intro e;cases e
 subst ev
 have II:Hid (Tryz.prog.info? 45=some i0/\i0.zero=some (.agg #[.int .i64 0,.slice none 0 0])/\i0.size=2/\i0.bytes=32):=⟨hi0,hz0,hzs,hzb⟩
 have HO:Hid (w.ownsRow 0 45 2 (.slice a n cap0) n xs):=h
 clear hi0 hz0 hzs hzb h hv
 obtain ⟨q,rfl⟩:=hsp
 go_enter Tryz.func70,Tryz.ntmps70
 cases q with
 | none =>
  have h0:=hn0 rfl
  subst h0
  go_wp2_with (at_builtin;refine wpList_append_own_at _ rfl _ _ 22 rfl 0 45 i0 (.agg #[.int .i64 0,.slice none 0 0]) 2 32 Tryz.underlying22 II.out.1 II.out.2.1 II.out.2.2.1 II.out.2.2.2 rfl (by decide) _ 0 xs rfl HO.out ⟨vb,0,none⟩ 1 1 vs rfl hvl hvs h1v (by simp only [maxLen];omega) (by omega) (Nat.zero_le _) ?_;intro v5 w5 hown5 hgrow5 hnil5 hloc5)
  have FF:=FO.out _ _ hown5 hgrow5 hnil5 hloc5
  clear hown5 hgrow5 hnil5 hloc5 FO HO
  go_ret
  exact FF
 | some q =>
  obtain ⟨qb,qo⟩:=q
  dsimp only [Option.map] at *
  go_wp2_with (at_builtin;refine wpList_append_own_at _ rfl _ _ 22 rfl 0 45 i0 (.agg #[.int .i64 0,.slice none 0 0]) 2 32 Tryz.underlying22 II.out.1 II.out.2.1 II.out.2.2.1 II.out.2.2.2 rfl (by decide) _ n xs rfl HO.out ⟨vb,0,none⟩ 1 1 vs rfl hvl hvs h1v (by simp only [maxLen];omega) (by omega) (Nat.zero_le _) ?_;intro v5 w5 hown5 hgrow5 hnil5 hloc5)
  all_goals
   have FF:=FO.out _ _ hown5 hgrow5 hnil5 hloc5
   clear hown5 hgrow5 hnil5 hloc5 FO HO
   go_ret
   exact FF
theorem insR_c {w:World} {v:Value} {n vb i:Nat} {xs vs:List Value} {tv:TypeId} (h:w.ownsRow 0 45 2 v n xs) (hn:n<=100000) (hi:i<=n) (hv:w.heap[vb]? = some (.cells vs.toArray tv (0,0))) (hvl:vs.length=2) (hne:v.ownBlock ≠ some vb) (h1c:∀ v ∈ xs,v.oneCell'=true) (h1v:∀ v ∈ vs,v.oneCell'=true) :
  Calls Tryz.prog 70 #[v,.int .i64 (i:Int),.slice (some ⟨vb,0,none⟩) 1 1] w fun e w'=>InsO_insR w v n (xs.take (i * 2) ++ vs ++ xs.drop (i * 2)) e w':=by
 by_cases hin:i=n
 ·subst hin
  have hxl:=h.1
  rw [List.take_of_length_le (by omega),List.drop_of_length_le (by omega),List.append_nil]
  exact insR_end h hn hv hvl h1v
 ·have h0:=h
  obtain ⟨hxl,h⟩:=h
  rcases h with ⟨_,h0⟩ | ⟨g,cap,cur,rfl,_,hg,hle,hmx,hsz,htk⟩
  ·omega
  ·have hcur:∀ t,t < i * 2->cur[t]? = xs[t]? := fun t ht=>by rw [<- htk,List.getElem?_take_of_lt (by omega),Array.getElem?_toList]
   have hdl:(xs.drop (i * 2)).length=(n - i) * 2:=by rw [List.length_drop,hxl];omega
   have hea:(i + 1) * 2=i * 2 + vs.length:=by omega
   have hmx2:=hmx
   unfold maxLen at hmx2
   by_cases hr:n + 1<=cap
   ·refine (insR_shift hg hsz (by omega) htk (by omega) hr hv hvl (fun e=>hne (by rw [e];rfl)) h1c h1v).mono ?_
    rintro e w' ⟨rfl,rfl⟩
    obtain ⟨c1,e1,s1,f1⟩:=setCells_heap g 45 (0,0) (xs.drop (i * 2)) ((i + 1) * 2) w.drew cur hg (by rw [hdl];omega)
    obtain ⟨c2,e2,s2,f2⟩:=setCells_heap g 45 (0,0) vs (i * 2) _ c1 e1 (by omega)
    rw [hea] at f1
    refine ⟨g,cap,rfl,⟨?_,.inr ⟨g,cap,c2,rfl,Nat.zero_le _,?_,hr,hmx,by omega,?_⟩⟩,?_,.inl rfl⟩
    ·rw [List.length_append,List.length_append,hdl,List.length_take];omega
    ·simpa using e2
    ·exact ins_cells (by omega) (by omega) hcur f1 f2
    ·have k0:Tk.Kp (fun b=>(Value.slice (some ⟨g,0,none⟩) n cap).ownBlock=some b) w w.drew:=⟨rfl,rfl,rfl,Nat.le_refl _,fun _ _ _=>rfl⟩
     exact kp_setCells (S:=fun b=>(Value.slice (some ⟨g,0,none⟩) n cap).ownBlock=some b) (.inl rfl) _ _ _ (kp_setCells (S:=fun b=>(Value.slice (some ⟨g,0,none⟩) n cap).ownBlock=some b) (.inl rfl) _ _ _ k0)
   ·refine (insR_grow hg hsz htk (by omega) hle (by omega) hn hv hvl h1c h1v).mono ?_
    rintro e w' ⟨rfl,rfl⟩
    have hG:=grownCap_ge w (n + 1) cap 45
    have hG2:=grownCap_le_maxLen w (n + 1) cap 45 (by unfold maxLen;omega)
    generalize grownCap w (n + 1) cap 45=G at *
    have hcc:∀ t,t < i * 2->((xs.take (i * 2)).toArray ++ Builtin.zeroCells (Value.cells (.agg #[.int .i64 0,.slice none 0 0])) (n + 1 - i) ++ Builtin.zeroCells (Value.cells (.agg #[.int .i64 0,.slice none 0 0])) (G - (n + 1)))[t]? = xs[t]? := fun t ht=>by
     rw [Array.append_assoc,Array.getElem?_append_left (by simp;omega)]
     simp [ht]
    have hrs:((xs.take (i * 2)).toArray ++ Builtin.zeroCells (Value.cells (.agg #[.int .i64 0,.slice none 0 0])) (n + 1 - i) ++ Builtin.zeroCells (Value.cells (.agg #[.int .i64 0,.slice none 0 0])) (G - (n + 1))).size=G * 2:=by
     simp [Builtin.zeroCells,Value.cells]
     omega
    generalize ((xs.take (i * 2)).toArray ++ Builtin.zeroCells (Value.cells (.agg #[.int .i64 0,.slice none 0 0])) (n + 1 - i) ++ Builtin.zeroCells (Value.cells (.agg #[.int .i64 0,.slice none 0 0])) (G - (n + 1)))=ROW at *
    obtain ⟨c1,e1,s1,f1⟩:=setCells_heap w.heap.size 45 (0,0) vs (i * 2) (w.alloc (.cells ROW 45)).drew ROW Array.getElem?_push_size (by omega)
    obtain ⟨c2,e2,s2,f2⟩:=setCells_heap w.heap.size 45 (0,0) (xs.drop (i * 2)) ((i + 1) * 2) (((w.alloc (.cells ROW 45)).drew.setCells w.heap.size (i * 2) vs).drew) c1 e1 (by rw [hdl];omega)
    rw [hea] at f2
    refine ⟨w.heap.size,G,rfl,⟨?_,.inr ⟨w.heap.size,G,c2,rfl,Nat.zero_le _,?_,hG,hG2,by omega,?_⟩⟩,?_,.inr (Nat.le_refl _)⟩
    ·rw [List.length_append,List.length_append,hdl,List.length_take];omega
    ·simpa using e2
    ·exact ins_cells' (by omega) (by omega) hcc f1 f2
    ·have k0:Tk.Kp (fun b=>(Value.slice (some ⟨g,0,none⟩) n cap).ownBlock=some b) w (w.alloc (.cells ROW 45)).drew:=Tk.Kp.of_gr ((Tk.Gw.refl w).alloc (.cells ROW 45)).gr.drew
     have k1:=kp_setCells (.inr (Nat.le_refl _)) vs (i * 2) _ k0
     exact kp_setCells (.inr (Nat.le_refl _)) _ _ _ ⟨k1.os,k1.tape,k1.output,k1.size,k1.block⟩
end Go.Proofs.YtcipdampcmfmaabGreat
