import Derived.Test.YtgbgejflmbhigaaGreatKwKqF
import Derived.Lib.SliceRun
namespace Go.Proofs.YtgbgejflmbhigaaGreat
open Go.RowKit Go.Sort Go.Maps
theorem isCut_c {Iq:Nat->Prop} {w:World} {b:Nat} {p:Pt} {vl vh vr:Value} (h:PcAt Iq w b p vl vh vr) :
  Calls Tryz.prog 67 #[.pointer (some ⟨b,0,none⟩)] w fun e w'=>e=.returned (.bool p.kids.isSome)/\w'=w:=by
 have c:=cell_cur (i:=10) h.blk rfl
 clear h
 cases hk:p.kids with
 | none =>
  rw [hk] at c
  simp only [Option.map_none,kidV] at c
  go_enter Tryz.func67,Tryz.ntmps67
  go_wp2
  go_ret
  exact ⟨rfl,by first | rfl | trivial⟩
 | some lh =>
  obtain ⟨l,hh⟩:=lh
  rw [hk] at c
  simp only [Option.map_some,kidV] at c
  go_enter Tryz.func67,Tryz.ntmps67
  go_wp2
  go_ret
  exact ⟨rfl,by first | rfl | trivial⟩
theorem rem11_c (x id:Int) (u:Value) (hu:u.oneCell'=true) {w:World} {cb:Nat} (hc:w.cell? ⟨cb,0,none⟩=some (.int .i64 id)) :
  Calls Tryz.prog 79 #[.agg #[.int .i64 x,u],.pointer (some ⟨cb,0,none⟩)] w fun e w'=>e=.returned (.bool (x == id))/\Tk.Gw w w':=by
 have hcu:u.cells=#[u]:=by first | exact Value.cells_of_oneCell' hu | (cases u <;> simp_all [Value.oneCell',Value.cells])
 have hc2:=Tk.gr_keeps ((Tk.Gw.refl w).alloc (.cells #[.int .i64 x,u] 39)).gr hc
 go_enter Tryz.func79,Tryz.ntmps79
 go_wp2
 go_ret
 exact ⟨rfl,(Tk.Gw.refl _).alloc _⟩
end Go.Proofs.YtgbgejflmbhigaaGreat

namespace Go.Proofs.YtgbgejflmbhigaaGreat
open Go.RowKit Go.Sort
set_option maxRecDepth 100000
set_option maxHeartbeats 1000000
def IxOut (d:List Rt) (id:Int) (w:World) (e:Ending) (w':World):Prop :=
 Tk.Gw w w'/\((e=.returned (.int .i64 (-1))/\∀ t (h:t < d.length),d[t].1 ≠ id) ∨ ∃ i,∃ h:i < d.length,e=.returned (.int .i64 (i:Nat))/\d[i].1=id/\∀ t (h:t < d.length),t < i->d[t].1 ≠ id)
theorem idx_c {w:World} {g o cap cb:Nat} {d:List Rt} (hd:RwRd w g o d) (hone:∀ x ∈ d,x.2.1.oneCell'=true) (hn:d.length<=4000) (id:Int) (hc:w.cell? ⟨cb,0,none⟩=some (.int .i64 id)) :
  Calls Tryz.prog 117 #[.slice (some ⟨g,o,none⟩) d.length cap,.func (.func 79) #[] #[.pointer (some ⟨cb,0,none⟩)]] w fun e w'=>IxOut d id w e w':=by
 have HD:Hid (RwRd w g o d/\(∀ x ∈ d,x.2.1.oneCell'=true)/\w.cell? ⟨cb,0,none⟩=some (.int .i64 id)):=⟨hd,hone,hc⟩
 obtain ⟨n,hN⟩:∃ n,n=d.length:=⟨_,rfl⟩
 have N:Hid (n=d.length):=hN
 rw [<- hN] at hn ⊢
 clear hd hone hc hN
 go_enter Tryz.func117,Tryz.ntmps117
 go_wp2
 go_loopw [8] (fun iv W=>∃ q:Nat,iv=.int .i64 (q:Int)/\q<=n/\Hid ((∀ t (h:t < d.length),t < q->d[t].1 ≠ id)/\Tk.Gw w W)) (fun iv _=>n - (intOf iv).toNat)
 case atStart=>exact ⟨0,rfl,Nat.zero_le _,fun t _ h=>absurd h (Nat.not_lt_zero _),Tk.Gw.refl _⟩
 case round =>
  obtain ⟨q,rfl,hq,X⟩:=hrel
  by_cases hqn:q < n
  ·have hqi:(q:Int) < (n:Int):=by omega
   have hm:q < d.length:=by have:=N.out;omega
   obtain ⟨k1,k2⟩:=HD.out.1 q hm
   have ho:=HD.out.2.1 _ (List.getElem_mem hm)
   obtain ⟨x,hx⟩:∃ x,x=d[q]:=⟨_,rfl⟩
   rw [<- hx] at k1 k2 ho
   have XH:Hid (d[q]? = some x):=by unfold Hid;rw [List.getElem?_eq_getElem hm,hx]
   obtain ⟨xi,u,xl⟩:=x
   dsimp only at k1 k2 ho
   have k1:=Tk.gr_keeps X.out.2.gr k1
   have k2:=Tk.gr_keeps X.out.2.gr k2
   have hcu:u.cells=#[u]:=by first | exact Value.cells_of_oneCell' ho | (cases u <;> simp_all [Value.oneCell',Value.cells])
   have cF:=rem11_c xi id u ho (Tk.gr_keeps X.out.2.gr HD.out.2.2)
   clear hx hm
   by_cases hxi:xi=id
   ·have hb:(xi == id)=true:=by rw [beq_iff_eq];exact hxi
    rw [hb] at cF
    have FO:Hid (∀ W,Tk.Gw wr W->IxOut d id w (.returned (.int .i64 (q:Int))) W):=fun W hg=>by
     have hm:q < d.length:=by have:=N.out;omega
     have hx:=XH.out
     rw [List.getElem?_eq_getElem hm] at hx
     injection hx with hx
     exact ⟨X.out.2.trans hg,.inr ⟨q,hm,rfl,by rw [hx];exact hxi,X.out.1⟩⟩
    clear hxi hb X XH
    go_wp2_with fail
    go_fit cF
    rintro e w' ⟨rfl,hg⟩
    have FF:=FO.out _ hg
    clear cF k1 k2 hg FO
    go_wp2
    go_ret
    exact FF
   ·have hb:(xi == id)=false:=by rw [beq_eq_false_iff_ne];exact hxi
    rw [hb] at cF
    have FO:Hid (∀ W,Tk.Gw wr W->(∀ t (h:t < d.length),t < q + 1->d[t].1 ≠ id)/\Tk.Gw w W):=fun W hg=>by
     have hm:q < d.length:=by have:=N.out;omega
     have hx:=XH.out
     rw [List.getElem?_eq_getElem hm] at hx
     injection hx with hx
     refine ⟨fun t ht h2=>?_,X.out.2.trans hg⟩
     by_cases e:t=q
     ·subst e;rw [hx];exact hxi
     ·exact X.out.1 t ht (by omega)
    clear hxi hb X XH
    go_wp2_with fail
    go_fit cF
    rintro e w' ⟨rfl,hg⟩
    have FF:Hid _:=FO.out _ hg
    clear cF k1 k2 hg FO
    go_wp2
    go_roundw
    case rel=>exact ⟨q + 1,by first | rfl | go_num,hqn,FF.out⟩
    case measure=>simp [intOf];omega
  ·have hqi:¬ (q:Int) < (n:Int):=by omega
   have FO:Hid (IxOut d id w (.returned (.int .i64 (-1))) wr):=⟨X.out.2,.inl ⟨rfl,fun t ht=>X.out.1 t ht (by have:=N.out;omega)⟩⟩
   clear X
   go_wp2
   go_ret
   exact FO.out
end Go.Proofs.YtgbgejflmbhigaaGreat

namespace Go.Proofs.YtgbgejflmbhigaaGreat
open Go.RowKit Go.Sort Go.Maps
set_option maxRecDepth 100000
set_option maxHeartbeats 1000000
theorem add1_c {w:World} {v:Value} {d:List Rt} {cb:Nat} {x:Rt} (h:w.ownsRow 0 39 2 v d.length (d.flatMap encR)) (hn:d.length<=4000) (hx:x.2.1.oneCell'=true) (c0:w.cell? ⟨cb,0,none⟩=some (.int .i64 x.1)) (c1:w.cell? ⟨cb,1,none⟩=some x.2.1) :
  Calls Tryz.prog 81 #[v,.pointer (some ⟨cb,0,none⟩)] w fun e w'=>∃ g cap,e=.returned (.slice (some ⟨g,0,none⟩) (d.length + 1) cap)/\w'.ownsRow 0 39 2 (.slice (some ⟨g,0,none⟩) (d.length + 1) cap) (d ++ [x]).length ((d ++ [x]).flatMap encR)/\Tk.Kp (fun b=>v.ownBlock=some b) w w':=by
 obtain ⟨xi,u,xl⟩:=x
 dsimp only at hx c0 c1
 obtain ⟨i0,hi,hz0,hz1,hz2⟩:=info_partsW
 have hcu:u.cells=#[u]:=by first | exact Value.cells_of_oneCell' hx | (cases u <;> simp_all [Value.oneCell',Value.cells])
 have FO:Hid (∀ v' W',W'.ownsRow 0 39 2 v' (d.length + 1) (d.flatMap encR ++ [.int .i64 xi,u])->(w.alloc (.cells #[.int .i64 xi,u] 39)).grownBy W' v.ownBlock->(v'=.slice none 0 0 ↔ v=.slice none 0 0/\1=0)->∃ g cap,(Ending.returned v'=.returned (.slice (some ⟨g,0,none⟩) (d.length + 1) cap))/\W'.ownsRow 0 39 2 (.slice (some ⟨g,0,none⟩) (d.length + 1) cap) (d ++ [(xi,u,xl)]).length ((d ++ [(xi,u,xl)]).flatMap encR)/\Tk.Kp (fun b=>v.ownBlock=some b) w W'):=by
  intro v' W' hown hgrow hnn
  have e1:(d ++ [(xi,u,xl)]).length=d.length + 1:=by simp
  have e2:(d ++ [(xi,u,xl)]).flatMap encR=d.flatMap encR ++ [.int .i64 xi,u]:=by simp
  have h2:=hown
  rcases hown.2 with ⟨e,_⟩ | ⟨g,cap,cur,rfl,_⟩
  ·exact absurd (hnn.1 e).2 (by decide)
  ·refine ⟨g,cap,rfl,by rw [e1,e2];exact h2,?_⟩
   have k1:Tk.Kp (fun b=>v.ownBlock=some b) w (w.alloc (.cells #[.int .i64 xi,u] 39)):=Tk.Kp.of_gr (gb_alloc (Below.refl _ _) _)
   refine k1.trans ⟨hgrow.os,hgrow.tape,hgrow.output,hgrow.size,fun k hk hne=>hgrow.block k hk (fun e=>hne e.symm)⟩
 obtain ⟨a,cap0,ev⟩:∃ a cap0,v=.slice a d.length cap0:=by
  rcases h.2 with ⟨rfl,h0⟩ | ⟨b,cap,cur,rfl,_⟩
  ·exact ⟨none,0,by rw [h0]⟩
  ·exact ⟨_,cap,rfl⟩
 subst ev
 have HO:Hid (w.ownsRow 0 39 2 (.slice a d.length cap0) d.length (d.flatMap encR)):=h
 generalize hn':d.length=n at *
 have II:Hid (Tryz.prog.info? 39=some i0/\i0.zero=some (.agg #[.int .i64 0,.slice none 0 0])/\i0.size=2/\i0.bytes=32):=⟨hi,hz0,hz1,hz2⟩
 have hown:=HO.out
 clear h hz0 hz1 hz2 hi hn'
 go_enter Tryz.func81,Tryz.ntmps81
 go_wp2_with (first
  | (at_builtin;refine wpList_append_own_at _ rfl _ _ 22 rfl 0 39 i0 (.agg #[.int .i64 0,.slice none 0 0]) 2 32 Tryz.underlying22 II.out.1 II.out.2.1 II.out.2.2.1 II.out.2.2.2 rfl (by decide) (.slice a n cap0) n (d.flatMap encR) rfl (hown.alloc _) ⟨w.heap.size,0,none⟩ 1 1 [.int .i64 xi,u] rfl rfl (two_cells _ _ _ _) (by intro y hy;simp only [List.mem_cons,List.not_mem_nil,or_false] at hy;rcases hy with rfl | rfl;rfl;exact hx) (by simp only [maxLen];omega) (by omega) (Nat.zero_le _) ?_;intro v5 w5 hown5 hgrow5 hnil5 hloc5)
  | go_in)
 have FF:=FO.out _ _ hown5 hgrow5 hnil5
 clear hown hown5 hgrow5 hnil5 hloc5 FO HO
 go_ret
 exact FF
end Go.Proofs.YtgbgejflmbhigaaGreat

namespace Go.Proofs.YtgbgejflmbhigaaGreat
open Go.RowKit Go.Sort
set_option maxRecDepth 100000
set_option maxHeartbeats 1000000
theorem RwAt.set {W:World} {g o i:Nat} {D:List Rt} (h:RwAt W g o D) (hi:i < D.length) (x:Rt):RwAt ((W.setCell ⟨g,o + i * 2,none⟩ (.int .i64 x.1)).setCell ⟨g,o + i * 2 + 1,none⟩ x.2.1) g o (D.set i x):=by
 obtain ⟨cur,h1,h2,h3⟩:=h
 refine ⟨(cur.setIfInBounds (o + i * 2) (.int .i64 x.1)).setIfInBounds (o + i * 2 + 1) x.2.1,?_,by simpa using h2,fun t ht=>?_⟩
 ·simp [World.setCell,Array.getElem?_modify,h1]
 ·rw [List.length_set] at ht
  rw [List.getElem_set]
  by_cases e:i=t
  ·subst e
   rw [if_pos rfl]
   constructor
   ·rw [Array.getElem?_setIfInBounds_ne (by omega),Array.getElem?_setIfInBounds_self_of_lt (by omega)]
   ·rw [Array.getElem?_setIfInBounds_self_of_lt (by simp;omega)]
  ·rw [if_neg e]
   obtain ⟨a,b⟩:=h3 t ht
   constructor
   ·rw [Array.getElem?_setIfInBounds_ne (by omega),Array.getElem?_setIfInBounds_ne (by omega)];exact a
   ·rw [Array.getElem?_setIfInBounds_ne (by omega),Array.getElem?_setIfInBounds_ne (by omega)];exact b
def mixL (d:List Rt) (i0 i:Nat):List Rt:=(d.eraseIdx i0).take i ++ d.drop i
theorem mixL_len {d:List Rt} {i0 i:Nat} (h0:i0 < d.length) (hi:i < d.length):(mixL d i0 i).length=d.length:=by
 unfold mixL
 rw [List.length_append,List.length_take,List.length_drop,List.length_eraseIdx_of_lt h0]
 omega
theorem mixL_start {d:List Rt} {i0:Nat} (h0:i0 < d.length):mixL d i0 i0=d:=by
 unfold mixL
 rw [List.eraseIdx_eq_take_drop_succ,List.take_append_of_le_length (by rw [List.length_take];omega),List.take_take,Nat.min_self,List.take_append_drop]
theorem clear_one {W:World} {g p c:Nat} {ty:TypeId} {cur:Array Value} (h:W.heap[g]? = some (.cells cur 39 (0,0))) (hp:p + 1 < cur.size) :
  (Builtin.clear_ #[22] ty #[.slice (some ⟨g,p,none⟩) 1 c]).run Tryz.prog W=.ok (.tuple #[]) (W.setCells g p [.int .i64 0,.slice none 0 0]):=by
 have hc:∀ j,j < 2->(W.cell? ⟨g,p + j,none⟩).isSome=true:=fun j hj=>by
  rw [cell_cur h (Array.getElem?_eq_getElem (show p + j < cur.size by omega))];rfl
 have hf:∀ j,j < 2->W.frozen? ⟨g,p + j,none⟩=false:=fun j _=>by simp [World.frozen?,h]
 have hst:=run_storeCells_cells (P:=Tryz.prog) g p [.int .i64 0,.slice none 0 0] 0 W (by simpa using hc) (by simpa using hf) (by intro v hv;simp only [List.mem_cons,List.not_mem_nil,or_false] at hv;rcases hv with rfl | rfl <;> rfl)
 simp only [Nat.add_zero] at hst
 have hzc:(Builtin.zeroCells (Value.agg #[.int .i64 0,.slice none 0 0]).cells 1).toList=[.int .i64 0,.slice none 0 0]:=by first | kernel_rfl | decide | simp [Builtin.zeroCells,Value.cells]
 simp [Builtin.clear_,run_underlying Tryz.underlying22,hzc,hst]
theorem mixL_get {d:List Rt} {i0 i:Nat} (h0:i0 < d.length) (hi:i + 1 < d.length):(mixL d i0 i)[i + 1]'(by rw [mixL_len h0 (by omega)];exact hi)=d[i + 1]:=by
 unfold mixL
 rw [List.getElem_append_right (by rw [List.length_take,List.length_eraseIdx_of_lt h0];omega),List.getElem_drop]
 congr 1
 rw [List.length_take,List.length_eraseIdx_of_lt h0]
 omega
theorem mixL_next {d:List Rt} {i0 i:Nat} (h0:i0 < d.length) (hi0:i0<=i) (hi:i + 1 < d.length):(mixL d i0 i).set i d[i + 1]=mixL d i0 (i + 1):=by
 have hl:=mixL_len h0 (show i < d.length by omega)
 have hl2:=mixL_len h0 hi
 apply List.ext_getElem (by rw [List.length_set,hl,hl2])
 intro t h1 h2
 rw [List.length_set,hl] at h1
 have hel:(d.eraseIdx i0).length=d.length - 1:=List.length_eraseIdx_of_lt h0
 have key:∀ (j:Nat) (hj:j < d.length) (ht:t < (mixL d i0 j).length),(mixL d i0 j)[t]=if h:t < j then (d.eraseIdx i0)[t]'(by omega) else d[t]:=by
  intro j hj ht
  unfold mixL at ht ⊢
  by_cases c:t < j
  ·rw [dif_pos c,List.getElem_append_left (by rw [List.length_take];omega),List.getElem_take]
  ·rw [dif_neg c,List.getElem_append_right (by rw [List.length_take];omega),List.getElem_drop]
   congr 1
   rw [List.length_take];omega
 rw [List.getElem_set,key (i + 1) hi h2]
 by_cases e:i=t
 ·subst e
  rw [if_pos rfl,dif_pos (by omega),List.getElem_eraseIdx,dif_neg (by omega)]
 ·rw [if_neg e,key i (by omega) (by rw [hl];exact h1)]
  by_cases c:t < i
  ·rw [dif_pos c,dif_pos (by omega)]
  ·rw [dif_neg c,dif_neg (by omega)]
def DelOut (w:World) (g n cap i0:Nat) (d:List Rt) (e:Ending) (w':World):Prop:=e=.returned (.slice (some ⟨g,0,none⟩) (n - 1) cap)/\RwAt w' g 0 (d.eraseIdx i0)/\Tk.Kp (fun b=>b=g) w w'
theorem delf_c {w:World} {g cap cb i0:Nat} {d:List Rt} (hd:RwAt w g 0 d) (hone:∀ x ∈ d,x.2.1.oneCell'=true) (hn:d.length<=4000) (hcap:d.length<=cap) (hcb:cb ≠ g) (id:Int) (hc:w.cell? ⟨cb,0,none⟩=some (.int .i64 id)) (h0:i0 < d.length) (hid:d[i0].1=id) (hnd:(d.map (·.1)).Pairwise (· ≠ ·)) :
  Calls Tryz.prog 78 #[.slice (some ⟨g,0,none⟩) d.length cap,.func (.func 79) #[] #[.pointer (some ⟨cb,0,none⟩)]] w fun e w'=>DelOut w g d.length cap i0 d e w':=by
 have cI:=idx_c (cap:=cap) hd.rd hone hn id hc
 rw [List.pairwise_iff_getElem] at hnd
 have ND:Hid (∀ t (h:t < d.length),t ≠ i0->d[t].1 ≠ id):=fun t h hne e=>by
  rcases Nat.lt_or_gt_of_ne hne with c | c
  ·have:=hnd t i0 (by simpa using h) (by simpa using h0) c;simp only [List.getElem_map] at this;omega
  ·have:=hnd i0 t (by simpa using h0) (by simpa using h) c;simp only [List.getElem_map] at this;omega
 have HD:Hid (RwAt w g 0 d/\(∀ x ∈ d,x.2.1.oneCell'=true)/\w.cell? ⟨cb,0,none⟩=some (.int .i64 id)/\i0 < d.length/\d.length<=cap/\cb ≠ g):=⟨hd,hone,hc,h0,hcap,hcb⟩
 have IX:Hid (∀ e w',IxOut d id w e w'->e=.returned (.int .i64 (i0:Int))/\Tk.Gw w w'):=fun e w' h=>by
  rcases h.2 with ⟨_,h2⟩ | ⟨i,hi,h2,h3,_⟩
  ·exact absurd hid (h2 i0 h0)
  ·by_cases e0:i=i0
   ·subst e0;exact ⟨h2,h.1⟩
   ·exact absurd h3 (ND.out i hi e0)
 obtain ⟨n,hN⟩:∃ n,n=d.length:=⟨_,rfl⟩
 have N:Hid (n=d.length):=hN
 rw [<- hN] at hn cI h0 hcap ⊢
 clear hd hone hc hnd hid hN
 go_enter Tryz.func78,Tryz.ntmps78
 go_wp2_with fail
 go_fit cI
 intro e w1 hO
 obtain ⟨rfl,g1⟩:=IX.out _ _ hO
 have hneg:((i0:Int) == -1)=false:=by rw [beq_eq_false_iff_ne];omega
 have X0:Hid (RwAt w1 g 0 (mixL d i0 i0)/\Tk.Kp (fun b=>b=g) w w1):=⟨by rw [mixL_start HD.out.2.2.2.1];exact HD.out.1.gb g1.gr,Tk.Kp.of_gr g1.gr⟩
 clear cI hO IX g1
 go_wp2
 go_loopw [5,6] (fun iv jv W=>∃ i j:Nat,iv=.int .i64 (i:Int)/\jv=.int .i64 (j:Int)/\j=i + 1/\i0<=i/\j<=n/\Hid (RwAt W g 0 (mixL d i0 i)/\Tk.Kp (fun b=>b=g) w W)) (fun _ jv _=>n - (intOf jv).toNat)
 case atStart=>exact ⟨i0,i0 + 1,rfl,by first | rfl | go_num,rfl,Nat.le_refl _,by omega,X0⟩
 case round =>
  clear X0
  obtain ⟨i,j,rfl,rfl,hji,hi0,hjn,X⟩:=hrel
  by_cases hlt:j < n
  ·have hlti:(j:Int) < (n:Int):=by omega
   have hm:i + 1 < d.length:=by have:=N.out;omega
   have hml:=mixL_len HD.out.2.2.2.1 (show i < d.length by omega)
   obtain ⟨k1,k2⟩:=X.out.1.rd (i + 1) (by rw [hml];exact hm)
   rw [mixL_get HD.out.2.2.2.1 hm] at k1 k2
   have ho:=HD.out.2.1 _ (List.getElem_mem hm)
   have hne:=ND.out (i + 1) hm (by omega)
   obtain ⟨x,hx⟩:∃ x,x=d[i + 1]:=⟨_,rfl⟩
   rw [<- hx] at k1 k2 ho hne
   rw [<- hji,Nat.zero_add] at k1 k2
   have NX:Hid (∀ W,RwAt W g 0 (mixL d i0 i)->RwAt ((W.setCell ⟨g,i * 2,none⟩ (.int .i64 x.1)).setCell ⟨g,i * 2 + 1,none⟩ x.2.1) g 0 (mixL d i0 (i + 1))):=fun W h=>by
    have:=h.set (i:=i) (by rw [hml];omega) x
    rw [hx,mixL_next HD.out.2.2.2.1 hi0 hm] at this
    rw [Nat.zero_add] at this
    rw [hx];exact this
   obtain ⟨xi,u,xl⟩:=x
   dsimp only at k1 k2 ho hne NX
   have hcu:u.cells=#[u]:=by first | exact Value.cells_of_oneCell' ho | (cases u <;> simp_all [Value.oneCell',Value.cells])
   have hst:=fun W (a:Addr)=>run_store Tryz.prog W a u .plain ho
   have hb:(xi == id)=false:=by rw [beq_eq_false_iff_ne];exact hne
   have cF:=rem11_c xi id u ho (w:=wr.alloc (.cells #[.int .i64 xi,u] 39)) (cb:=cb) (gb_keeps (gb_alloc (Below.refl _ _) _) (X.out.2.cell HD.out.2.2.1 HD.out.2.2.2.2.2))
   rw [hb] at cF
   have hgl:=X.out.1.lt
   have ST:Hid (∀ W,Tk.Gw (wr.alloc (.cells #[.int .i64 xi,u] 39)) W->(∃ a b,W.cell? ⟨g,i * 2,none⟩=some a/\W.cell? ⟨g,i * 2 + 1,none⟩=some b)/\(W.frozen? ⟨g,i * 2,none⟩=false/\W.frozen? ⟨g,i * 2 + 1,none⟩=false)/\(W.cell? ⟨wr.heap.size,0,none⟩=some (.int .i64 xi)/\W.cell? ⟨wr.heap.size,1,none⟩=some u)/\RwAt W g 0 (mixL d i0 i)/\Tk.Kp (fun b=>b=g) w W):=fun W hg=>by
    have gW:Gb wr W:=gb_trans (gb_alloc (Below.refl _ _) _) hg.gr
    have r:=X.out.1.gb gW
    obtain ⟨q1,q2⟩:=r.rd i (by rw [hml];omega)
    rw [Nat.zero_add] at q1 q2
    obtain ⟨cur,hcur,_⟩:=r
    exact ⟨⟨_,_,q1,q2⟩,⟨by simp [World.frozen?,hcur],by simp [World.frozen?,hcur]⟩,⟨gb_keeps hg.gr (by simp [go_sem]),gb_keeps hg.gr (by simp [go_sem])⟩,X.out.1.gb gW,X.out.2.trans (Tk.Kp.of_gr gW)⟩
   have hii:(i:Int) < (n:Int):=by omega
   have HJ:Hid (j=i + 1):=hji
   clear hx hm hml hne hb X hji
   go_wp2_with fail
   go_fit cF
   rintro e w' ⟨rfl,hg⟩
   obtain ⟨⟨qa,qb,q1,q2⟩,⟨f1,f2⟩,⟨y1,y2⟩,r',kp'⟩:=ST.out _ hg
   have XN:Hid (RwAt ((w'.setCell ⟨g,i * 2,none⟩ (.int .i64 xi)).setCell ⟨g,i * 2 + 1,none⟩ u) g 0 (mixL d i0 (i + 1))/\Tk.Kp (fun b=>b=g) w ((w'.setCell ⟨g,i * 2,none⟩ (.int .i64 xi)).setCell ⟨g,i * 2 + 1,none⟩ u)):=⟨NX.out _ r',(kp'.setCell (.inl rfl) _).setCell (.inl rfl) _⟩
   clear cF hg ST NX r' kp' k1 k2
   go_wp2
   go_roundw
   case rel=>exact ⟨i + 1,j + 1,by first | rfl | go_num,by first | rfl | go_num,by have:=HJ.out;omega,by omega,hlt,XN⟩
   case measure=>simp [intOf];omega
  ·have hlti:¬ (j:Int) < (n:Int):=by omega
   have e:n=i + 1:=by omega
   have hml:=mixL_len HD.out.2.2.2.1 (show i < d.length by have:=N.out;omega)
   obtain ⟨cur,hcur,hsz,_⟩:=X.out.1
   rw [hml,<- N.out,Nat.zero_add] at hsz
   have hcl:=fun (c:Nat) (ty:TypeId)=>clear_one (c:=c) (ty:=ty) (p:=i * 2) hcur (by omega)
   have FD:Hid (DelOut w g n cap i0 d (.returned (.slice (some ⟨g,0,none⟩) i cap)) (wr.setCells g (i * 2) [.int .i64 0,.slice none 0 0])):=by
    refine ⟨by rw [e];rfl,?_,?_⟩
    ·have h1:=(X.out.1.set (i:=i) (by rw [hml,<- N.out];omega) ((0:Int),Value.slice none 0 0,([]:List Int))).take (n:=i)
     rw [Nat.zero_add] at h1
     have h2:((mixL d i0 i).set i ((0:Int),Value.slice none 0 0,([]:List Int))).take i=d.eraseIdx i0:=by
      have hel:(d.eraseIdx i0).length=d.length - 1:=List.length_eraseIdx_of_lt HD.out.2.2.2.1
      rw [List.take_set_of_le (Nat.le_refl _)]
      unfold mixL
      rw [List.take_append_of_le_length (by rw [List.length_take,hel];have:=N.out;omega),List.take_take,Nat.min_self,List.take_of_length_le (by rw [hel];have:=N.out;omega)]
     rw [h2] at h1
     exact h1
    ·exact (X.out.2.setCell (.inl rfl) _).setCell (.inl rfl) _
   have hcc:¬ cap=i:=by have:=HD.out.2.2.2.2.1;have:=N.out;omega
   have hic:(i:Int)<=(n:Int):=by omega
   have hicp:(i:Int)<=(cap:Int):=by have:=HD.out.2.2.2.2.1;have:=N.out;omega
   have hni:n - i=1:=by omega
   clear X hcur hsz hml e hji
   go_wp2
   go_ret
   exact FD.out
theorem rem1_c {w:World} {g cap cb i0:Nat} {d:List Rt} (hd:RwAt w g 0 d) (hone:∀ x ∈ d,x.2.1.oneCell'=true) (hn:d.length<=4000) (hcap:d.length<=cap) (hcb:cb ≠ g) (id:Int) (hc:w.cell? ⟨cb,0,none⟩=some (.int .i64 id)) (h0:i0 < d.length) (hid:d[i0].1=id) (hnd:(d.map (·.1)).Pairwise (· ≠ ·)) :
  Calls Tryz.prog 77 #[.slice (some ⟨g,0,none⟩) d.length cap,.pointer (some ⟨cb,0,none⟩)] w fun e w'=>DelOut w g d.length cap i0 d e w':=by
 have cD:=delf_c hd hone hn hcap hcb id hc h0 hid hnd
 generalize d.length=n at cD ⊢
 clear hd hone hn hcap hcb hc hid hnd h0
 go_enter Tryz.func77,Tryz.ntmps77
 go_wp2_with fail
 go_fit cD
 intro e w1 hO
 have hv:=hO.1
 subst hv
 have H:Hid _:=hO
 clear hO cD
 go_wp2
 go_ret
 exact ⟨rfl,H.out.2⟩
end Go.Proofs.YtgbgejflmbhigaaGreat
