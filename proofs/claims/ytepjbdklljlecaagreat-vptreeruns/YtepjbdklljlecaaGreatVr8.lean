import Derived.Test.YtepjbdklljlecaaGreatVr5
import Derived.Lib.Overlaps
import Derived.Lib.AppendZerosOnto
import Derived.Laws.NewBlocks
import Derived.Laws.IdiomCopy
import Derived.Laws.Externs
import Derived.Shelf.RegionOpenPlain
import Derived.ArgAppend
import Derived.Test.YtepjbdklljlecaaGreatVr7
namespace Go.Proofs.YtepjbdklljlecaaGreat.Tk
open Go.RowKit Go.Sort
set_option maxHeartbeats 2000000
attribute [local go_sem ↓] Go.wp_at_zero Go.wp_at_succ
theorem len72 (a:Option Addr) (n cap:Nat) (w:World):Calls Tryz.prog 251 #[.slice a n cap] w fun e w'=>e=.returned (.int .i64 (n:Nat))/\w'=w:=by
 go_enter Tryz.func251,Tryz.ntmps251
 go_wp2
 go_ret
 exact ⟨rfl,rfl⟩
theorem less73_c (g n cap i j:Nat) (hi:i < n) (hj:j < n) (x y:Ht) (w:World)
  (hx:w.cell? ⟨g,i * 3,none⟩=some (.int .i64 x.id)/\w.cell? ⟨g,i * 3 + 1,none⟩=some (.int .u64 x.hi)/\w.cell? ⟨g,i * 3 + 2,none⟩=some (.int .u64 x.lo))
  (hy:w.cell? ⟨g,j * 3,none⟩=some (.int .i64 y.id)/\w.cell? ⟨g,j * 3 + 1,none⟩=some (.int .u64 y.hi)/\w.cell? ⟨g,j * 3 + 2,none⟩=some (.int .u64 y.lo)) :
  Calls Tryz.prog 252 #[.slice (some ⟨g,0,none⟩) n cap,.int .i64 i,.int .i64 j] w fun e w'=>e=.returned (.bool (hlt y x))/\Gw w w':=by
 obtain ⟨x0,x1,x2⟩:=hx
 obtain ⟨y0,y1,y2⟩:=hy
 have i0:(0:Int)<=(i:Int):=by omega
 have i1:(i:Int) < (n:Int):=by omega
 have j0:(0:Int)<=(j:Int):=by omega
 have j1:(j:Int) < (n:Int):=by omega
 have C:Gw w w:=Gw.refl _
 go_enter Tryz.func252,Tryz.ntmps252
 go_wp2
 go_region_held3 (fun w'=>Gw w w'/\w'.cell? ⟨g,i * 3,none⟩=some (.int .i64 x.id)/\w'.cell? ⟨g,i * 3 + 1,none⟩=some (.int .u64 x.hi)/\w'.cell? ⟨g,i * 3 + 2,none⟩=some (.int .u64 x.lo)/\w'.cell? ⟨g,j * 3,none⟩=some (.int .i64 y.id)/\w'.cell? ⟨g,j * 3 + 1,none⟩=some (.int .u64 y.hi)/\w'.cell? ⟨g,j * 3 + 2,none⟩=some (.int .u64 y.lo)) (first | (with_reducible exact six_call (by assumption) (by assumption)) | (with_reducible assumption) | exact ⟨C.drew,x0,x1,x2,y0,y1,y2⟩) (first | (go_at_call 115;refine (less_c y x _).mono ?_;rintro e w' ⟨rfl,hg⟩))
 all_goals
  go_wp2
  go_ret
  exact ⟨rfl,And.left (by assumption)⟩
theorem less73 {w:World} {g cap:Nat} {d:Array Ht} (h:Own w (.slice (some ⟨g,0,none⟩) d.size cap) d) {i j:Nat} (hi:i < d.size) (hj:j < d.size) :
  Calls Tryz.prog 252 #[.slice (some ⟨g,0,none⟩) d.size cap,.int .i64 i,.int .i64 j] w fun e w'=>e=.returned (.bool (hlt d[j]! d[i]!))/\Gw w w' :=
 less73_c g d.size cap i j hi hj _ _ w (own_cell h hi) (own_cell h hj)
theorem set_drew (w:World) (a:Addr) (v:Value):(w.setCell a v).drew=w.drew.setCell a v:=rfl
theorem drew_one (w:World):w.drew=w.drewN 1:=rfl
theorem swap74_c (g n cap i j:Nat) (hi:i < n) (hj:j < n) (hne:i ≠ j) (x y:Ht) (w:World) (hf:∀ o,w.frozen? ⟨g,o,none⟩=false)
  (hx:w.cell? ⟨g,i * 3,none⟩=some (.int .i64 x.id)/\w.cell? ⟨g,i * 3 + 1,none⟩=some (.int .u64 x.hi)/\w.cell? ⟨g,i * 3 + 2,none⟩=some (.int .u64 x.lo))
  (hy:w.cell? ⟨g,j * 3,none⟩=some (.int .i64 y.id)/\w.cell? ⟨g,j * 3 + 1,none⟩=some (.int .u64 y.hi)/\w.cell? ⟨g,j * 3 + 2,none⟩=some (.int .u64 y.lo)) :
  Calls Tryz.prog 253 #[.slice (some ⟨g,0,none⟩) n cap,.int .i64 i,.int .i64 j] w fun e w'=>e=.returned (.tuple #[])/\∃ q,w'=((w.drewN q).setCells g (i * 3) (enc y)).setCells g (j * 3) (enc x):=by
 obtain ⟨x0,x1,x2⟩:=hx
 obtain ⟨y0,y1,y2⟩:=hy
 have i0:(0:Int)<=(i:Int):=by omega
 have i1:(i:Int) < (n:Int):=by omega
 have j0:(0:Int)<=(j:Int):=by omega
 have j1:(j:Int) < (n:Int):=by omega
 have f0:=hf (i * 3);have f1:=hf (i * 3 + 1);have f2:=hf (i * 3 + 2)
 have k0:=hf (j * 3);have k1:=hf (j * 3 + 1);have k2:=hf (j * 3 + 2)
 clear hf
 go_enter Tryz.func253,Tryz.ntmps253
 go_wp2
 go_region
 go_end0
 refine ⟨rfl,1,?_⟩
 rw [<- drew_one]
 simp only [enc,World.setCells,set_drew,Nat.add_assoc]
theorem swap74 {w:World} {g cap:Nat} {d:Array Ht} (h:Own w (.slice (some ⟨g,0,none⟩) d.size cap) d) {i j:Nat} (hi:i < d.size) (hj:j < d.size) (hne:i ≠ j) :
  Calls Tryz.prog 253 #[.slice (some ⟨g,0,none⟩) d.size cap,.int .i64 i,.int .i64 j] w fun e w'=>e=.returned (.tuple #[])/\Own w' (.slice (some ⟨g,0,none⟩) d.size cap) (swp d i j)/\Kp (fun k=>k=g) w w':=by
 refine (swap74_c g d.size cap i j hi hj hne d[i]! d[j]! w (own_froz h) (own_cell h hi) (own_cell h hj)).mono ?_
 rintro e w' ⟨rfl,q,rfl⟩
 have hw:=swap_worldK enc 3 enc_len w 0 q g 0 d i j hi hj
 rw [Nat.zero_add,Nat.zero_add,Nat.zero_add,ahead_zero,putRowK_self enc 3 w g 0 d (own_holds h)] at hw
 rw [hw]
 exact ⟨rfl,own_put h q _ (size_swp d i j),Kp.put w _⟩
theorem info68:∃ i z,Tryz.prog.info? 68=some i/\i.zero=some z/\i.size=3/\i.bytes=24/\z.cells.size=3:=by
 obtain ⟨i,hi⟩:=Option.isSome_iff_exists.1 (show (Tryz.prog.info? 68).isSome=true by kernel_rfl)
 refine ⟨i,.agg #[.int .i64 0,.int .u64 0,.int .u64 0],hi,?_,?_,?_,rfl⟩
 ·have h:(Tryz.prog.info? 68).map (·.zero)=some (some (.agg #[.int .i64 0,.int .u64 0,.int .u64 0])):=by kernel_rfl
  rw [hi] at h;simpa using h
 ·have h:(Tryz.prog.info? 68).map (·.size)=some 3:=by kernel_rfl
  rw [hi] at h;simpa using h
 ·have h:(Tryz.prog.info? 68).map (·.bytes)=some 24:=by kernel_rfl
  rw [hi] at h;simpa using h
end Go.Proofs.YtepjbdklljlecaaGreat.Tk

namespace Go.Proofs.YtepjbdklljlecaaGreat.Tk
open Go.RowKit Go.Sort
set_option maxHeartbeats 2000000
attribute [local go_sem ↓] Go.wp_at_zero Go.wp_at_succ
structure Hp (w:World) (hb:Nat) (k:Int) (v:Value) (d:Array Ht):Prop where
 blk:w.heap[hb]? = some (.cells #[.int .i64 k,v] 113 (0,0))
 own:Own w v d
 ne:v.ownBlock ≠ some hb
theorem Hp.cell0 {w:World} {hb:Nat} {k:Int} {v:Value} {d:Array Ht} (h:Hp w hb k v d):w.cell? ⟨hb,0,none⟩=some (.int .i64 k):=by simp [World.cell?,h.blk]
theorem Hp.cell1 {w:World} {hb:Nat} {k:Int} {v:Value} {d:Array Ht} (h:Hp w hb k v d):w.cell? ⟨hb,1,none⟩=some v:=by simp [World.cell?,h.blk]
theorem Hp.froz {w:World} {hb:Nat} {k:Int} {v:Value} {d:Array Ht} (h:Hp w hb k v d) (o:Nat):w.frozen? ⟨hb,o,none⟩=false:=by simp [World.frozen?,h.blk]
theorem Hp.lt {w:World} {hb:Nat} {k:Int} {v:Value} {d:Array Ht} (h:Hp w hb k v d):hb < w.heap.size:=(Array.getElem?_eq_some_iff.1 h.blk).1
theorem Hp.gr {w w':World} {hb:Nat} {k:Int} {v:Value} {d:Array Ht} (h:Hp w hb k v d) (g:Gr w w'):Hp w' hb k v d:=⟨by rw [g.block hb h.lt];exact h.blk,own_gr h.own g,h.ne⟩
theorem lt2 {w:World} {b:Nat} {A B:Obj} (h:b < w.heap.size):b < ((w.alloc A).drew.alloc B).heap.size:=by simp;omega
theorem froz2 {w:World} {b o:Nat} {A B:Obj} (h:w.frozen? ⟨b,o,none⟩=false) (hb:b < w.heap.size):((w.alloc A).drew.alloc B).frozen? ⟨b,o,none⟩=false:=by
 rw [World.frozen?_of_block (w:=w) (a:=⟨b,o,none⟩)]
 ·exact h
 ·show (((w.alloc A).drew).alloc B).heap[b]? = _
  rw [Below.heap_alloc _ _ _ (by simp;omega)]
  exact Below.heap_alloc _ _ _ hb
theorem push_fin {w w1:World} {A B:Obj} {hb:Nat} {k:Int} {v:Value} {d:Array Ht} {x:Ht} {g cap:Nat} (h:Hp w hb k v d)
  (hown:w1.ownsRow 0 68 3 (.slice (some ⟨g,0,none⟩) (d.size + 1) cap) (d.size + 1) (fl d.toList ++ enc x)) (hg:((w.alloc A).drew.alloc B).grownBy w1 v.ownBlock) (hat:v.ownBlock=some g ∨ g=w.heap.size + 2) :
  Hp (w1.setCell ⟨hb,1,none⟩ (.slice (some ⟨g,0,none⟩) (d.size + 1) cap)) hb k (.slice (some ⟨g,0,none⟩) (d.size + 1) cap) (d.push x)/\Kp (fun b=>b=hb ∨ some b=v.ownBlock) w (w1.setCell ⟨hb,1,none⟩ (.slice (some ⟨g,0,none⟩) (d.size + 1) cap))/\(v.ownBlock=some g ∨ w.heap.size<=g):=by
 have hlt:=h.lt
 have hgn:g ≠ hb:=by
  rcases hat with e | e
  ·intro e2;exact h.ne (by rw [e,e2])
  ·omega
 have hw1:w1.heap[hb]? = some (.cells #[.int .i64 k,v] 113 (0,0)):=by
  rw [hg.block hb (lt2 hlt) (Ne.symm h.ne)]
  show (((w.alloc A).drew).alloc B).heap[hb]? = _
  rw [Below.heap_alloc _ _ _ (by simp;omega)]
  exact (Below.heap_alloc _ _ _ hlt).trans h.blk
 have K0:Kp (fun b=>b=hb ∨ some b=v.ownBlock) w w1:=by
  refine Kp.trans (b:=(w.alloc A).drew.alloc B) (Kp.of_gr ?_) ((Kp.grown hg).mono fun _ _ hs=>.inr hs)
  exact Below.alloc (Below.drew (Below.alloc (Below.refl _ _) (Nat.le_refl _) _)) (by simp) _
 refine ⟨⟨?_,?_,?_⟩,K0.setCell (.inl (.inl rfl)) _,?_⟩
 ·simp [World.setCell,Array.getElem?_modify,hw1]
 ·have:Own w1 (.slice (some ⟨g,0,none⟩) (d.size + 1) cap) (d.push x):=by
   unfold Own
   rw [Array.size_push,Array.toList_push,fl_app,fl_one]
   exact hown
  exact own_kept this (Below.heap_setCell _ _ _ _ hgn)
 ·simp [Value.ownBlock,hgn]
 ·rcases hat with e | e
  ·exact .inl e
  ·exact .inr (by omega)
theorem push75 {w:World} {hb:Nat} {k:Int} {v:Value} {d:Array Ht} (h:Hp w hb k v d) (hn:d.size<=4000) (x:Ht) :
  Calls Tryz.prog 254 #[.pointer (some ⟨hb,1,none⟩),.iface 68 (hv x)] w fun e w'=>e=.returned (.tuple #[]) /\
   ∃ g cap,Hp w' hb k (.slice (some ⟨g,0,none⟩) (d.size + 1) cap) (d.push x)/\Kp (fun b=>b=hb ∨ some b=v.ownBlock) w w'/\(v.ownBlock=some g ∨ w.heap.size<=g):=by
 have hta:∀ w,(Instr.typeAssert (.iface 68 (hv x)) 20 68 true).run Tryz.prog w=.ok (.tuple #[hv x,.bool true]) w:=fun w=>by kernel_rfl
 obtain ⟨i0,z0,hi0,hz0,hz1,hz2,hz3⟩:=info68
 have h1:d.size + 1<=maxLen:=by simp only [maxLen];omega
 have c1:(w.alloc (.cells #[.int .i64 x.id,.int .u64 x.hi,.int .u64 x.lo] 68)).cell? ⟨hb,1,none⟩=some v:=alloc_keeps h.cell1 _
 have c2:=alloc_keeps c1 (.cells #[.int .i64 x.id,.int .u64 x.hi,.int .u64 x.lo] 68)
 have H:Hid (Hp w hb k v d):=h
 clear h
 go_enter Tryz.func254,Tryz.ntmps254
 go_wp2
 go_region_law (refine step_append_lies _ rfl (.tmp 15) (.tmp 17) 111 rfl 0 68 i0 z0 3 24 Tryz.underlying111 hi0 hz0 hz1 hz2 hz3 (by omega) v d.size (fl d.toList) (by simp [Act.eval]) (by first | exact (H.out.own.alloc _).alloc _ | exact (World.ownsRow.alloc (w:=World.drew _) (H.out.own.alloc _) _)) ⟨w.heap.size + 1,0,none⟩ 1 1 (enc x) (by simp [Act.eval]) rfl (by intro j u hu;rw [Addr.add_lit];rcases j with _ | _ | _ | j <;> simp [enc] at hu <;> subst hu <;> simp [go_sem]) (enc_one x) (by omega) h1 (by omega) (Nat.zero_le _) (w.heap.size + 2) (by simp) ?_;intro g cap w1 hown hgrow hat hlt;have cc:=hgrow.cell (a:=⟨hb,1,none⟩) (v:=v) (alloc_keeps (alloc_keeps H.out.cell1 _) _) (Ne.symm H.out.ne);have ff:=(hgrow.frozen_far ⟨hb,1,none⟩ (lt2 H.out.lt) (Ne.symm H.out.ne)).trans (froz2 (H.out.froz 1) H.out.lt))
 all_goals
  go_end0
  exact ⟨rfl,g,cap,push_fin H.out hown hgrow hat⟩
end Go.Proofs.YtepjbdklljlecaaGreat.Tk

namespace Go.Proofs.YtepjbdklljlecaaGreat.Tk
open Go.RowKit Go.Sort
theorem load53 (hb:Nat) (v:Value) (W:World) (hc:W.cell? ⟨hb,1,none⟩=some v):(loadVar 111 ⟨hb,1,none⟩).run Tryz.prog W=.ok v W:=by
 simp [loadVar,go_sem,hc]
theorem wrapchk (a : Addr) (nm : String) (W : World) : (Builtin.ssaWrapNilChk_ #[166] 166 #[.pointer (some a), strVal "", strVal nm]).run Tryz.prog W = .ok (.pointer (some a)) W := rfl
theorem recv_any (nm:String) (hb:Nat) (v:Value) (W:World) (hc:W.cell? ⟨hb,1,none⟩=some v) :
  (receiverAt 166 (.val (.pointer (some ⟨hb,1,none⟩))) false (some nm)).run Tryz.prog W=.ok v W:=by
 have hl:=load53 hb v W hc
 have hu:=run_underlying Tryz.underlying166 W
 have hw:=wrapchk ⟨hb,1,none⟩ nm W
 unfold receiverAt
 simp only [Sem.run_bind,hu,Result.andThen_ok,Place.get,Sem.run_pure,hw,asAddr,hl]
theorem inv_any (name:String) (f:Nat) (hm:(Tryz.prog.info? 166).map (fun i=>(i.methods.find? (·.name == name)).map fun m=>(m.path,m.func))=some (some (#[],some (f,false))))
  (hb:Nat) (v:Value) (W:World) (hc:W.cell? ⟨hb,1,none⟩=some v) :
  (method 393 166 (.pointer (some ⟨hb,1,none⟩)) name).run Tryz.prog W=.ok (f,v) W:=by
 obtain ⟨i,hi⟩:=Option.isSome_iff_exists.1 (show (Tryz.prog.info? 166).isSome=true by kernel_rfl)
 rw [hi] at hm
 simp only [Option.map_some,Option.some.injEq] at hm
 cases hf:i.methods.find? (·.name == name) with
 | none=>rw [hf] at hm;cases hm
 | some m =>
  rw [hf] at hm
  simp only [Option.map_some,Option.some.injEq,Prod.mk.injEq] at hm
  obtain ⟨h1,h2⟩:=hm
  have hr:=fun nm=>recv_any nm hb v W hc
  have ht:(typeInfo 166).run Tryz.prog W=.ok i W:=by simp [typeInfo,hi]
  rw [method]
  simp only [Sem.run_bind,ht,Result.andThen_ok,hf,h1,h2,follow,Sem.run_pure]
  simp [hr]
theorem inv_less (hb:Nat) (v:Value) (W:World) (hc:W.cell? ⟨hb,1,none⟩=some v) :
  (method 393 166 (.pointer (some ⟨hb, 1, none⟩)) "Less").run Tryz.prog W = .ok (252, v) W := inv_any "Less" 252 (by kernel_rfl) hb v W hc
theorem inv_swap (hb:Nat) (v:Value) (W:World) (hc:W.cell? ⟨hb,1,none⟩=some v) :
  (method 393 166 (.pointer (some ⟨hb, 1, none⟩)) "Swap").run Tryz.prog W = .ok (253, v) W := inv_any "Swap" 253 (by kernel_rfl) hb v W hc
theorem inv_len (hb:Nat) (v:Value) (W:World) (hc:W.cell? ⟨hb,1,none⟩=some v) :
  (method 393 166 (.pointer (some ⟨hb, 1, none⟩)) "Len").run Tryz.prog W = .ok (251, v) W := inv_any "Len" 251 (by kernel_rfl) hb v W hc
theorem inv_push (hb:Nat) (W:World) :
  (method 393 166 (.pointer (some ⟨hb, 1, none⟩)) "Push").run Tryz.prog W = .ok (254, .pointer (some ⟨hb, 1, none⟩)) W := by kernel_rfl
end Go.Proofs.YtepjbdklljlecaaGreat.Tk

namespace Go.Proofs.YtepjbdklljlecaaGreat
open Go.RowKit Go.Sort
theorem setCells_heap (g:Nat) (e:TypeId) (s:Nat × Nat):∀ (vs:List Value) (o:Nat) (w:World) (cur:Array Value),w.heap[g]? = some (.cells cur e s)->o + vs.length<=cur.size ->
  ∃ cur',(w.setCells g o vs).heap[g]? = some (.cells cur' e s)/\cur'.size=cur.size/\∀ t,cur'[t]? = if o<=t/\t < o + vs.length then vs[t - o]? else cur[t]?
 | [],o,w,cur,h,_=>⟨cur,h,rfl,fun t=>by rw [if_neg];simp⟩
 | v :: r,o,w,cur,h,hl=>by
  rw [List.length_cons] at hl
  have h1:(w.setCell ⟨g,o,none⟩ v).heap[g]? = some (.cells (cur.setIfInBounds o v) e s):=by simp [World.setCell,Array.getElem?_modify,h]
  obtain ⟨c2,e2,s2,f2⟩:=setCells_heap g e s r (o + 1) (w.setCell ⟨g,o,none⟩ v) (cur.setIfInBounds o v) h1 (by simp;omega)
  refine ⟨c2,e2,by rw [s2];simp,fun t=>?_⟩
  rw [f2 t,List.length_cons]
  by_cases h3:o=t
  ·subst h3
   rw [if_neg (by omega),if_pos (by omega),Array.getElem?_setIfInBounds_self_of_lt (by omega)]
   simp
  ·by_cases h4:o + 1<=t/\t < o + 1 + r.length
   ·rw [if_pos h4,if_pos (by omega),show t - o=(t - (o + 1)) + 1 by omega,List.getElem?_cons_succ]
   ·rw [if_neg h4,if_neg (by omega),Array.getElem?_setIfInBounds_ne h3]
theorem kp_setCells {S:Nat->Prop} {a:World} {g:Nat} (hg:S g ∨ a.heap.size<=g):∀ (vs:List Value) (o:Nat) (w:World),Tk.Kp S a w->Tk.Kp S a (w.setCells g o vs)
 | [],_,_,h=>h
 | v :: r,o,_w,h=>kp_setCells hg r (o + 1) _ (h.setCell hg v)
theorem some_setCells (g:Nat) (e:TypeId) (s:Nat × Nat) {w:World} {cur:Array Value} (h:w.heap[g]? = some (.cells cur e s)) {o:Nat} (ho:o < cur.size):(w.cell? ⟨g,o,none⟩).isSome=true:=by
 simp [World.cell?,h,ho]
theorem run_copy_k {P:Program} (w:World) (dT sT ty elem:TypeId) (i:TypeInfo) (b o dLen dCap:Nat) (a:Addr) (sLen sCap m:Nat) (cs:List Value)
  (hu:P.underlying dT=some (.slice elem)) (hi:P.info? elem=some i) (hm:m=Nat.min sLen dLen) (hn:cs.length=m * i.size)
  (hsrc:∀ j v,cs[j]? = some v->w.cell? (a.add j)=some v) (hc:∀ j,j < cs.length->(w.cell? ⟨b,o + j,none⟩).isSome=true) (hf:∀ j,j < cs.length->w.frozen? ⟨b,o + j,none⟩=false) (h1:∀ v ∈ cs,v.oneCell'=true) :
  (Builtin.copy_ #[dT,sT] ty #[.slice (some ⟨b,o,none⟩) dLen dCap,.slice (some a) sLen sCap]).run P w=.ok (goInt m) (w.setCells b o cs):=by
 have hl:=run_firstCells_some (P:=P) w i.size m a sLen sCap cs hn hsrc
 have hst:=run_storeCells_cells (P:=P) b o cs 0 w (by simpa using hc) (by simpa using hf) h1
 simp only [Nat.add_zero] at hst
 simp [Builtin.copy_,run_underlying hu,Builtin.lenOf,sizeOf,typeInfo,hi,<- hm,hl,hst]
theorem wp_copy_k {P:Program} (w:World) {ops:Array Oper} {rest:List Oper} {o:Oper} {a:Act} {Q:Exit->Act->World->Prop} (hgd:o.guard=none) (d s:Operand) (t t':TypeId)
  (ho:o.op=.call { callee:=.builtin .copy,args:=#[d,s],argTypes:=#[t,t'] }) (v u:Value) (hd:a.eval d=v) (hs:a.eval s=u) {v':Value} {w':World}
  (hr:(Builtin.copy_ #[t,t'] o.type #[v,u]).run P w=.ok v' w') (h:wpList P ops Q rest (a.put o.dst v') w'):wpList P ops Q (o :: rest) a w:=by
 refine wpList_plain hgd fun _ hK=>?_
 unfold Oper.wp execOp
 simp only [ho,resolve,invoke,builtin,Sem.run_bind,Sem.run_pure,Result.andThen_ok,List.map_toArray,List.map_cons,List.map_nil,hd,hs,hr]
 exact hK _ _ h
theorem step_copy_k {P:Program} {ops:Array Oper} {o:Oper} {a:Act} {w:World} {K:Act->World->Prop} {Q:Exit->Act->World->Prop} {E:Prop}
  (hg:o.guard=none) (d x:Operand) (dT sT:TypeId) (hop:o.op=Op.call { callee:=Callee.builtin Builtin.copy,args:=#[d,x],argTypes:=#[dT,sT] })
  (v u:Value) (hd:a.eval d=v) (hx:a.eval x=u) {v':Value} {w':World} (hr:(Builtin.copy_ #[dT,sT] o.type #[v,u]).run P w=.ok v' w') (hK:K (a.put o.dst v') w') :
  if Region.wanted o (yielded ops a.tmps)=true then Oper.wp P o a w K Q else E:=by
 have hw:Region.wanted o (yielded ops a.tmps)=true:=by simp [Region.wanted,hg]
 rw [if_pos hw]
 unfold Oper.wp
 simp [execOp,hop,resolve,invoke,builtin,hd,hx,hr,Result.andThen]
 exact hK
theorem step_append_k {P:Program} {ops:Array Oper} {o:Oper} {a:Act} {w:World} {K:Act->World->Prop} {Q:Exit->Act->World->Prop} {E:Prop}
  (hg:o.guard=none) (d x:Operand) (dT sT:TypeId) (hop:o.op=Op.call { callee:=Callee.builtin Builtin.append,args:=#[d,x],argTypes:=#[dT,sT] })
  (v u:Value) (hd:a.eval d=v) (hx:a.eval x=u) {v':Value} {w':World} (hr:(Builtin.append_ #[dT,sT] o.type #[v,u]).run P w=.ok v' w') (hK:K (a.put o.dst v') w') :
  if Region.wanted o (yielded ops a.tmps)=true then Oper.wp P o a w K Q else E:=by
 have hw:Region.wanted o (yielded ops a.tmps)=true:=by simp [Region.wanted,hg]
 rw [if_pos hw]
 unfold Oper.wp
 simp [execOp,hop,resolve,invoke,builtin,hd,hx,hr,Result.andThen]
 exact hK
theorem ins_cells {xs vs:List Value} {a N:Nat} {cur c1 c2:Array Value} (ha:a<=xs.length) (hN:N=xs.length + vs.length) (hx:∀ t,t < a->cur[t]? = xs[t]?)
  (h1:∀ t,c1[t]? = if a + vs.length<=t/\t < a + vs.length + (xs.drop a).length then (xs.drop a)[t - (a + vs.length)]? else cur[t]?)
  (h2:∀ t,c2[t]? = if a<=t/\t < a + vs.length then vs[t - a]? else c1[t]?):c2.toList.take N=xs.take a ++ vs ++ xs.drop a:=by
 rw [List.length_drop] at h1
 apply List.ext_getElem?
 intro t
 have hl1:(xs.take a).length=a:=by rw [List.length_take];omega
 by_cases ht:t < N
 ·rw [List.getElem?_take_of_lt ht,Array.getElem?_toList,h2 t]
  by_cases c:t < a
  ·rw [if_neg (by omega),h1 t,if_neg (by omega),hx t c,List.append_assoc,List.getElem?_append_left (by omega),List.getElem?_take_of_lt c]
  ·by_cases c3:t < a + vs.length
   ·rw [if_pos (by omega),List.append_assoc,List.getElem?_append_right (by omega),hl1,List.getElem?_append_left (by omega)]
   ·rw [if_neg (by omega),h1 t,if_pos (by omega),List.getElem?_append_right (by rw [List.length_append,hl1];omega),List.length_append,hl1]
 ·rw [List.getElem?_eq_none (by rw [List.length_take];omega),List.getElem?_eq_none (by rw [List.length_append,List.length_append,hl1,List.length_drop];omega)]
theorem ins_cells' {xs vs:List Value} {a N:Nat} {cur c1 c2:Array Value} (ha:a<=xs.length) (hN:N=xs.length + vs.length) (hx:∀ t,t < a->cur[t]? = xs[t]?)
  (h1:∀ t,c1[t]? = if a<=t/\t < a + vs.length then vs[t - a]? else cur[t]?)
  (h2:∀ t,c2[t]? = if a + vs.length<=t/\t < a + vs.length + (xs.drop a).length then (xs.drop a)[t - (a + vs.length)]? else c1[t]?):c2.toList.take N=xs.take a ++ vs ++ xs.drop a:=by
 rw [List.length_drop] at h2
 apply List.ext_getElem?
 intro t
 have hl1:(xs.take a).length=a:=by rw [List.length_take];omega
 by_cases ht:t < N
 ·rw [List.getElem?_take_of_lt ht,Array.getElem?_toList,h2 t]
  by_cases c:t < a
  ·rw [if_neg (by omega),h1 t,if_neg (by omega),hx t c,List.append_assoc,List.getElem?_append_left (by omega),List.getElem?_take_of_lt c]
  ·by_cases c3:t < a + vs.length
   ·rw [if_neg (by omega),h1 t,if_pos (by omega),List.append_assoc,List.getElem?_append_right (by omega),hl1,List.getElem?_append_left (by omega)]
   ·rw [if_pos (by omega),List.getElem?_append_right (by rw [List.length_append,hl1];omega),List.length_append,hl1]
 ·rw [List.getElem?_eq_none (by rw [List.length_take];omega),List.getElem?_eq_none (by rw [List.length_append,List.length_append,hl1,List.length_drop];omega)]
end Go.Proofs.YtepjbdklljlecaaGreat

namespace Go.Proofs.YtepjbdklljlecaaGreat
open Go.RowKit
set_option maxHeartbeats 2000000
theorem wide_any (n:Nat) (hn:n < 340282366920938463463374607431768211456) (o:Bool) (w:World) :
  Calls Tryz.prog 220 #[Nm n o] w fun e w'=>e=.returned (Wd n)/\Gr w w':=by
 have n0:=((NumAt.new w n o 234).call ((Gr.refl _).alloc #[.int .u64 0,.int .u64 0] 66)).call ((Gr.refl _).alloc #[.int .u64 0,.int .u64 0] 66)
 go_enter Tryz.func220,Tryz.ntmps220
 go_wp2
 go_loopw [4] (fun iv w'=>∃ z:Int,∃ k x y:Nat,iv=.int .i64 z/\z=(k:Int) - 1/\k<=4/\Hid (x=n / 18446744073709551616 / 65536 ^ k/\y=n % 18446744073709551616 / 65536 ^ k)/\Gr (((w.alloc (.cells #[.int .i64 (dd n 0),.int .i64 (dd n 1),.int .i64 (dd n 2),.int .i64 (dd n 3),.int .i64 (dd n 4),.int .i64 (dd n 5),.int .i64 (dd n 6),.int .i64 (dd n 7),.bool o] 234)).alloc (.cells #[.int .u64 0,.int .u64 0] 66))) w'/\NumAt w' w.heap.size n o/\w'.cell? ⟨w.heap.size + 1 + 1,0,none⟩=some (.int .u64 (x:Int))/\w'.cell? ⟨w.heap.size + 1 + 1,1,none⟩=some (.int .u64 (y:Int))/\w'.frozen? ⟨w.heap.size + 1 + 1,0,none⟩=false/\w'.frozen? ⟨w.heap.size + 1 + 1,1,none⟩=false) (fun iv _=>(intOf iv + 1).toNat)
 case atStart =>
  refine ⟨3,4,0,0,rfl,by omega,by omega,?_,(Gr.refl _).alloc _ _,n0,by simp [go_sem],by simp [go_sem],by simp [go_sem],by simp [go_sem]⟩
  show 0=n / 18446744073709551616 / 65536 ^ 4/\0=n % 18446744073709551616 / 65536 ^ 4
  simp only [Nat.reducePow];omega
 case round =>
  clear n0
  obtain ⟨z,k,x,y,rfl,hz,hk,X,hG,hN,c0,c1,f0,f1⟩:=hrel
  cases k with
  | zero =>
   have hz':z < 0:=by omega
   have E:Hid ((x:Int)=hi n/\(y:Int)=lo n):=by
    have:=X.out
    simp at this
    obtain ⟨h1,h2⟩:=this
    subst h1 h2;exact ⟨rfl,rfl⟩
   have V:=hG.var2
   simp only [World.size_alloc] at V
   obtain ⟨v0,v1,v2,v3⟩:=V
   clear hz X hN
   go_wp2
   refine bodyPost_ret (v:=Wd n) ?_ rfl ⟨rfl,?_⟩
   ·rw [Wd,<- E.out.1,<- E.out.2];simp [results,Tryz.results220,go_sem,v0,v1]
   ·exact (((((Gr.refl _).alloc _ _).alloc _ _).trans hG).setCell (by simp) _).setCell (by simp) _
  | succ t =>
   have hzt:z=(t:Int):=by omega
   subst hzt
   obtain ⟨e,he,he1,he2⟩:=dd_nat n t
   obtain ⟨f,hf,hf1,hf2⟩:=dd_nat n (4 + t)
   have ca:=hN.d t (by omega)
   have cb:=hN.d (4 + t) (by omega)
   rw [he] at ca;rw [hf] at cb
   have hnb:w.heap.size + 1 + 1 ≠ w.heap.size:=by omega
   have hx:x < 281474976710656/\y < 281474976710656:=by
    obtain ⟨h1,h2⟩:=X.out
    have ht:t=0 ∨ t=1 ∨ t=2 ∨ t=3:=by omega
    rcases ht with rfl | rfl | rfl | rfl <;> (simp only [Nat.reduceAdd,Nat.reducePow] at h1 h2;omega)
   obtain ⟨x1,y1⟩:=hx
   have X':Hid (65536 * x + f=n / 18446744073709551616 / 65536 ^ t/\65536 * y + e=n % 18446744073709551616 / 65536 ^ t):=by
    obtain ⟨h1,h2⟩:=X.out
    have ht:t=0 ∨ t=1 ∨ t=2 ∨ t=3:=by omega
    unfold Hid
    rcases ht with rfl | rfl | rfl | rfl <;> (simp only [Nat.reduceAdd,Nat.reducePow] at *;omega)
   clear he he2 hf hf2 X hz
   go_wp2
   go_region
   go_wp2
   go_region
   go_wp2
   refine ⟨⟨(t:Int) - 1,t,65536 * x + f,65536 * y + e,by go_num,rfl,by omega,X',?_,?_,?_,?_,?_,?_⟩,by simp [intOf]⟩
   ·exact (((hG.setCell (by simp) _).drew.setCell (by simp) _).drew)
   ·exact ((hN.far _ _ hnb _).far _ _ hnb _).call ((Gr.refl _).drew.drew)
   ·simp [go_sem,c0]
   ·simp [go_sem,c1]
   ·simp [go_sem,f0]
   ·simp [go_sem,f1]
end Go.Proofs.YtepjbdklljlecaaGreat
