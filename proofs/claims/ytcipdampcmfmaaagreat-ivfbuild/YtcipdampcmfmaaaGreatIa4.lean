import Derived.Test.YtcipdampcmfmaaaGreatIa3
import Derived.Shelf.GgSortFunc.RowK
import Derived.Shelf.GgSortFunc.InsertionK
import Derived.Deep.AppendLies
import Derived.Deep.DrawnRows
import Derived.Lib.Overlaps
import Derived.Lib.AppendZerosOnto
import Derived.Laws.NewBlocks
import Derived.Laws.IdiomCopy
import Derived.Laws.Externs
import Derived.Shelf.RegionOpenPlain
import Derived.ArgAppend
namespace Go.Proofs.YtcipdampcmfmaaaGreat.Tk
open Go.RowKit Go.Sort
def fl (l:List Ht):List Value:=l.flatMap enc
theorem fl_len (l:List Ht):(fl l).length=l.length * 3:=by
 induction l with
 | nil=>rfl
 | cons a r ih=>simp only [fl,List.flatMap_cons,List.length_append,List.length_cons] at *;rw [ih];simp [enc];omega
theorem fl_app (a b:List Ht):fl (a ++ b)=fl a ++ fl b:=by simp [fl]
theorem fl_one (x:Ht):fl [x]=enc x:=by simp [fl]
theorem fl_get (l:List Ht) (i c:Nat) (hi:i < l.length) (hc:c < 3):(fl l)[i * 3 + c]? = (enc (l[i]'hi))[c]? := by
 induction l generalizing i with
 | nil=>exact absurd hi (Nat.not_lt_zero _)
 | cons a r ih =>
  have e:fl (a :: r)=enc a ++ fl r:=by simp [fl]
  rw [e]
  cases i with
  | zero =>
   rw [List.getElem?_append_left (by simp [enc];omega)]
   simp
  | succ i =>
   rw [List.getElem?_append_right (by simp [enc];omega)]
   have:(i + 1) * 3 + c - (enc a).length=i * 3 + c:=by simp [enc];omega
   rw [this,ih i (by simpa using hi)]
   simp
theorem fl_one_cell (l:List Ht):∀ u ∈ fl l,u.oneCell'=true:=by
 intro u hu
 simp only [fl,List.mem_flatMap,enc,List.mem_cons,List.not_mem_nil,or_false] at hu
 obtain ⟨x,_,rfl | rfl | rfl⟩:=hu <;> rfl
theorem enc_len (x:Ht):(enc x).length=3:=rfl
theorem enc_one (x:Ht):∀ v ∈ enc x,v.oneCell'=true:=by
 intro v hv;simp only [enc,List.mem_cons,List.not_mem_nil,or_false] at hv;rcases hv with rfl | rfl | rfl <;> rfl
theorem flatK_fl (d:Array Ht):(flatK enc 3 d).toList=fl d.toList:=by
 apply List.ext_getElem?
 intro t
 by_cases h:t < d.size * 3
 ·have hi:t / 3 < d.size:=by omega
  have h2:=fl_get d.toList (t / 3) (t % 3) (by simpa using hi) (Nat.mod_lt _ (by omega))
  rw [show t / 3 * 3 + t % 3=t by omega] at h2
  rw [h2]
  have h3:=get_flatK enc 3 d t h
  rw [getElem!_pos (flatK enc 3 d) t (by simpa using h)] at h3
  rw [List.getElem?_eq_getElem (by simpa using h)]
  simp only [Array.getElem_toList]
  rw [h3,getElem!_pos d (t / 3) hi]
  have hm:t % 3 < (enc d[t / 3]).length:=by rw [enc_len];exact Nat.mod_lt _ (by omega)
  rw [getElem!_pos (enc d[t / 3]) (t % 3) hm,List.getElem?_eq_getElem hm]
 ·rw [List.getElem?_eq_none (by simp;omega),List.getElem?_eq_none (by rw [fl_len];simp;omega)]
def Own (w:World) (v:Value) (d:Array Ht):Prop:=w.ownsRow 0 81 3 v d.size (fl d.toList)
theorem own_nil (w:World):Own w (.slice none 0 0) #[]:=World.ownsRow_nil w 0 81 3
theorem own_form {w:World} {v:Value} {d:Array Ht} (h:Own w v d) (hn:0 < d.size) :
  ∃ g cap cur,v=.slice (some ⟨g,0,none⟩) d.size cap/\w.heap[g]? = some (.cells cur 81 (0,0))/\d.size<=cap/\cap<=maxLen/\cur.size=cap * 3/\cur.toList.take (d.size * 3)=fl d.toList:=by
 rcases h.2 with ⟨_,h2⟩ | ⟨g,cap,cur,rfl,_,r⟩
 ·omega
 ·exact ⟨g,cap,cur,rfl,r⟩
theorem own_kept {w w':World} {g n cap:Nat} {d:Array Ht} (h:Own w (.slice (some ⟨g,0,none⟩) n cap) d) (hb:w'.heap[g]? = w.heap[g]?):Own w' (.slice (some ⟨g,0,none⟩) n cap) d:=by
 refine ⟨h.1,?_⟩
 rcases h.2 with ⟨h1,_⟩ | ⟨g',cap',cur,e,hb',hh,r⟩
 ·cases h1
 ·cases e
  exact .inr ⟨_,_,cur,rfl,hb',by rw [hb];exact hh,r⟩
theorem own_gr {w w':World} {v:Value} {d:Array Ht} (h:Own w v d) (g:Gr w w'):Own w' v d:=by
 refine ⟨h.1,?_⟩
 rcases h.2 with h1 | ⟨g',cap',cur,e,hb',hh,r⟩
 ·exact .inl h1
 ·exact .inr ⟨g',cap',cur,e,hb',by rw [g.block g' (Array.getElem?_eq_some_iff.1 hh).1];exact hh,r⟩
theorem own_lt {w:World} {v:Value} {d:Array Ht} (h:Own w v d) {g:Nat} (hg:v.ownBlock=some g):g < w.heap.size:=(h.lt g hg).2
theorem own_cell {w:World} {g n cap:Nat} {d:Array Ht} (h:Own w (.slice (some ⟨g,0,none⟩) n cap) d) {i:Nat} (hi:i < d.size) :
  w.cell? ⟨g,i * 3,none⟩=some (.int .i64 d[i]!.id)/\w.cell? ⟨g,i * 3 + 1,none⟩=some (.int .u64 d[i]!.hi)/\w.cell? ⟨g,i * 3 + 2,none⟩=some (.int .u64 d[i]!.lo):=by
 have hc:=h.cells (g:=g) rfl
 have e:d[i]! = d.toList[i]'(by simpa using hi):=by rw [getElem!_pos d i hi];simp
 have hh:∀ c,c < 3->∀ u,(enc d[i]!)[c]? = some u->w.cell? ⟨g,i * 3 + c,none⟩=some u:=by
  intro c hc3 u hu
  have:=hc (i * 3 + c) u (by rw [fl_get _ _ _ (by simpa using hi) hc3,<- e];exact hu)
  rw [Addr.add_lit,Nat.zero_add] at this;exact this
 exact ⟨hh 0 (by omega) _ rfl,hh 1 (by omega) _ rfl,hh 2 (by omega) _ rfl⟩
theorem own_froz {w:World} {g n cap:Nat} {d:Array Ht} (h:Own w (.slice (some ⟨g,0,none⟩) n cap) d) (o:Nat):w.frozen? ⟨g,o,none⟩=false:=by
 rcases h.2 with ⟨h1,_⟩ | ⟨g',cap',cur,e,_,hh,_⟩
 ·cases h1
 ·cases e
  simp [World.frozen?,hh]
theorem own_holds {w:World} {g n cap:Nat} {d:Array Ht} (h:Own w (.slice (some ⟨g,0,none⟩) n cap) d):HoldsK enc 3 w g 0 d:=by
 intro t ht
 have ht':t < d.size * 3:=by simpa using ht
 refine ⟨?_,own_froz h _⟩
 have hc:=h.cells (g:=g) rfl t ((flatK enc 3 d)[t]!) (by
  rw [<- flatK_fl,getElem!_pos (flatK enc 3 d) t ht,List.getElem?_eq_getElem (by simpa using ht')];simp)
 rw [Addr.add_lit] at hc;exact hc
theorem heap_putRow (w:World) (g m:Nat) (d:Array Ht) (cur:Array Value) (hh:w.heap[g]? = some (.cells cur 81 (0,0))) :
  (putRowK enc 3 (Sort.ahead w m) g 0 d).heap[g]? = some (.cells (putCells id 0 (flatK enc 3 d) cur) 81 (0,0)):=by
 simp [putRowK,putRow,mapBlock,Array.getElem?_modify,hh,onCells]
theorem own_put {w:World} {g n cap:Nat} {d:Array Ht} (h:Own w (.slice (some ⟨g,0,none⟩) n cap) d) (m:Nat) (d':Array Ht) (hs:d'.size=d.size) :
  Own (putRowK enc 3 (Sort.ahead w m) g 0 d') (.slice (some ⟨g,0,none⟩) n cap) d':=by
 refine ⟨by rw [fl_len];simp,?_⟩
 rcases h.2 with ⟨h1,_⟩ | ⟨g',cap',cur,e,hb',hh,hle,hmx,hsz,htk⟩
 ·cases h1
 ·cases e
  refine .inr ⟨_,_,_,by rw [hs],hb',heap_putRow w g m d' cur hh,by rw [hs];exact hle,hmx,by simp [putCells,hsz],?_⟩
  rw [<- flatK_fl]
  apply List.ext_getElem?
  intro t
  by_cases ht:t < d'.size * 3
  ·have ht2:t < cur.size:=by rw [hsz];have:=Nat.mul_le_mul_right 3 hle;omega
   rw [List.getElem?_take,if_pos ht,List.getElem?_eq_getElem (by simpa [putCells] using ht2),List.getElem?_eq_getElem (by simpa using ht)]
   simp only [Array.getElem_toList,putCells,Array.getElem_mapIdx]
   rw [if_pos ⟨by omega,by simp;omega⟩]
   simp [getElem!_pos,ht]
  ·rw [List.getElem?_eq_none (by simp;omega),List.getElem?_eq_none (by simp;omega)]
structure Kp (S:Nat->Prop) (w w':World):Prop where
 os:w'.os=w.os
 tape:w'.tape=w.tape
 output:w'.output=w.output
 size:w.heap.size<=w'.heap.size
 block:∀ k,k < w.heap.size->¬ S k->w'.heap[k]? = w.heap[k]?
theorem Kp.refl (S:Nat->Prop) (w:World):Kp S w w:=⟨rfl,rfl,rfl,Nat.le_refl _,fun _ _ _=>rfl⟩
theorem Kp.trans {S:Nat->Prop} {a b c:World} (h:Kp S a b) (k:Kp S b c):Kp S a c :=
 ⟨k.os.trans h.os,k.tape.trans h.tape,k.output.trans h.output,Nat.le_trans h.size k.size,fun i hi hn=>(k.block i (Nat.lt_of_lt_of_le hi h.size) hn).trans (h.block i hi hn)⟩
theorem Kp.mono {S T:Nat->Prop} {a b:World} (h:Kp S a b) (hst:∀ k,k < a.heap.size->S k->T k):Kp T a b :=
 ⟨h.os,h.tape,h.output,h.size,fun i hi hn=>h.block i hi (fun hs=>hn (hst i hi hs))⟩
theorem Kp.of_gr {S:Nat->Prop} {a b:World} (h:Gr a b):Kp S a b:=⟨h.os,h.tape,h.output,h.size,fun i hi _=>h.block i hi⟩
theorem Kp.gr {S:Nat->Prop} {a b:World} (h:Kp S a b) {B:Nat} (hB:B<=a.heap.size) (hS:∀ k,S k->B<=k):Below B a b :=
 ⟨h.os,h.tape,h.output,h.size,fun i hi=>h.block i (by omega) (fun hs=>by have:=hS i hs;omega)⟩
theorem Kp.grown {a b:World} {r:Option Nat} (h:a.grownBy b r):Kp (fun k=>some k=r) a b:=⟨h.os,h.tape,h.output,h.size,fun i hi hn=>h.block i hi hn⟩
theorem Kp.setCell {S:Nat->Prop} {a w:World} (h:Kp S a w) {p:Addr} (hp:S p.block ∨ a.heap.size<=p.block) (u:Value):Kp S a (w.setCell p u) :=
 ⟨h.os,h.tape,h.output,by simpa [World.setCell] using h.size,fun k hk hn=>(Below.heap_setCell _ _ _ _ (by rintro rfl;rcases hp with hp | hp;exact hn hp;omega)).trans (h.block k hk hn)⟩
theorem Kp.put {g m:Nat} (w:World) (d:Array Ht):Kp (fun k=>k=g) w (putRowK enc 3 (Sort.ahead w m) g 0 d):=by
 refine ⟨rfl,rfl,rfl,by simp [putRowK],fun k _ hn=>?_⟩
 simp [putRowK,putRow,mapBlock,Array.getElem?_modify,Ne.symm hn]
theorem Kp.cell {S:Nat->Prop} {a b:World} (h:Kp S a b) {p:Addr} {v:Value} (hc:a.cell? p=some v) (hn:¬ S p.block):b.cell? p=some v :=
 (World.cell?_of_block (h.block p.block (World.block_lt_of_cell? a p hc) hn)).trans hc
theorem own_kp {S:Nat->Prop} {w w':World} {v:Value} {d:Array Ht} (h:Own w v d) (k:Kp S w w') (hn:∀ g,v.ownBlock=some g->¬ S g):Own w' v d:=by
 refine ⟨h.1,?_⟩
 rcases h.2 with h1 | ⟨g',cap',cur,rfl,hb',hh,r⟩
 ·exact .inl h1
 ·exact .inr ⟨g',cap',cur,rfl,hb',by rw [k.block g' (Array.getElem?_eq_some_iff.1 hh).1 (hn _ rfl)];exact hh,r⟩
end Go.Proofs.YtcipdampcmfmaaaGreat.Tk

namespace Go.Proofs.YtcipdampcmfmaaaGreat.Tk
open Go.RowKit Go.Sort
set_option maxHeartbeats 2000000
attribute [local go_sem ↓] Go.wp_at_zero Go.wp_at_succ
theorem len72 (a:Option Addr) (n cap:Nat) (w:World):Calls Tryz.prog 255 #[.slice a n cap] w fun e w'=>e=.returned (.int .i64 (n:Nat))/\w'=w:=by
 go_enter Tryz.func255,Tryz.ntmps255
 go_wp2
 go_ret
 exact ⟨rfl,rfl⟩
theorem less73_c (g n cap i j:Nat) (hi:i < n) (hj:j < n) (x y:Ht) (w:World)
  (hx:w.cell? ⟨g,i * 3,none⟩=some (.int .i64 x.id)/\w.cell? ⟨g,i * 3 + 1,none⟩=some (.int .u64 x.hi)/\w.cell? ⟨g,i * 3 + 2,none⟩=some (.int .u64 x.lo))
  (hy:w.cell? ⟨g,j * 3,none⟩=some (.int .i64 y.id)/\w.cell? ⟨g,j * 3 + 1,none⟩=some (.int .u64 y.hi)/\w.cell? ⟨g,j * 3 + 2,none⟩=some (.int .u64 y.lo)) :
  Calls Tryz.prog 256 #[.slice (some ⟨g,0,none⟩) n cap,.int .i64 i,.int .i64 j] w fun e w'=>e=.returned (.bool (hlt y x))/\Gw w w':=by
 obtain ⟨x0,x1,x2⟩:=hx
 obtain ⟨y0,y1,y2⟩:=hy
 have i0:(0:Int)<=(i:Int):=by omega
 have i1:(i:Int) < (n:Int):=by omega
 have j0:(0:Int)<=(j:Int):=by omega
 have j1:(j:Int) < (n:Int):=by omega
 have C:Gw w w:=Gw.refl _
 go_enter Tryz.func256,Tryz.ntmps256
 go_wp2
 go_region_held3 (fun w'=>Gw w w'/\w'.cell? ⟨g,i * 3,none⟩=some (.int .i64 x.id)/\w'.cell? ⟨g,i * 3 + 1,none⟩=some (.int .u64 x.hi)/\w'.cell? ⟨g,i * 3 + 2,none⟩=some (.int .u64 x.lo)/\w'.cell? ⟨g,j * 3,none⟩=some (.int .i64 y.id)/\w'.cell? ⟨g,j * 3 + 1,none⟩=some (.int .u64 y.hi)/\w'.cell? ⟨g,j * 3 + 2,none⟩=some (.int .u64 y.lo)) (first | (with_reducible exact six_call (by assumption) (by assumption)) | (with_reducible assumption) | exact ⟨C.drew,x0,x1,x2,y0,y1,y2⟩) (first | (go_at_call 114;refine (less_c y x _).mono ?_;rintro e w' ⟨rfl,hg⟩))
 all_goals
  go_wp2
  go_ret
  exact ⟨rfl,And.left (by assumption)⟩
theorem less73 {w:World} {g cap:Nat} {d:Array Ht} (h:Own w (.slice (some ⟨g,0,none⟩) d.size cap) d) {i j:Nat} (hi:i < d.size) (hj:j < d.size) :
  Calls Tryz.prog 256 #[.slice (some ⟨g,0,none⟩) d.size cap,.int .i64 i,.int .i64 j] w fun e w'=>e=.returned (.bool (hlt d[j]! d[i]!))/\Gw w w' :=
 less73_c g d.size cap i j hi hj _ _ w (own_cell h hi) (own_cell h hj)
theorem set_drew (w:World) (a:Addr) (v:Value):(w.setCell a v).drew=w.drew.setCell a v:=rfl
theorem drew_one (w:World):w.drew=w.drewN 1:=rfl
theorem swap74_c (g n cap i j:Nat) (hi:i < n) (hj:j < n) (hne:i ≠ j) (x y:Ht) (w:World) (hf:∀ o,w.frozen? ⟨g,o,none⟩=false)
  (hx:w.cell? ⟨g,i * 3,none⟩=some (.int .i64 x.id)/\w.cell? ⟨g,i * 3 + 1,none⟩=some (.int .u64 x.hi)/\w.cell? ⟨g,i * 3 + 2,none⟩=some (.int .u64 x.lo))
  (hy:w.cell? ⟨g,j * 3,none⟩=some (.int .i64 y.id)/\w.cell? ⟨g,j * 3 + 1,none⟩=some (.int .u64 y.hi)/\w.cell? ⟨g,j * 3 + 2,none⟩=some (.int .u64 y.lo)) :
  Calls Tryz.prog 257 #[.slice (some ⟨g,0,none⟩) n cap,.int .i64 i,.int .i64 j] w fun e w'=>e=.returned (.tuple #[])/\∃ q,w'=((w.drewN q).setCells g (i * 3) (enc y)).setCells g (j * 3) (enc x):=by
 obtain ⟨x0,x1,x2⟩:=hx
 obtain ⟨y0,y1,y2⟩:=hy
 have i0:(0:Int)<=(i:Int):=by omega
 have i1:(i:Int) < (n:Int):=by omega
 have j0:(0:Int)<=(j:Int):=by omega
 have j1:(j:Int) < (n:Int):=by omega
 have f0:=hf (i * 3);have f1:=hf (i * 3 + 1);have f2:=hf (i * 3 + 2)
 have k0:=hf (j * 3);have k1:=hf (j * 3 + 1);have k2:=hf (j * 3 + 2)
 clear hf
 go_enter Tryz.func257,Tryz.ntmps257
 go_wp2
 go_region
 go_end0
 refine ⟨rfl,1,?_⟩
 rw [<- drew_one]
 simp only [enc,World.setCells,set_drew,Nat.add_assoc]
theorem swap74 {w:World} {g cap:Nat} {d:Array Ht} (h:Own w (.slice (some ⟨g,0,none⟩) d.size cap) d) {i j:Nat} (hi:i < d.size) (hj:j < d.size) (hne:i ≠ j) :
  Calls Tryz.prog 257 #[.slice (some ⟨g,0,none⟩) d.size cap,.int .i64 i,.int .i64 j] w fun e w'=>e=.returned (.tuple #[])/\Own w' (.slice (some ⟨g,0,none⟩) d.size cap) (swp d i j)/\Kp (fun k=>k=g) w w':=by
 refine (swap74_c g d.size cap i j hi hj hne d[i]! d[j]! w (own_froz h) (own_cell h hi) (own_cell h hj)).mono ?_
 rintro e w' ⟨rfl,q,rfl⟩
 have hw:=swap_worldK enc 3 enc_len w 0 q g 0 d i j hi hj
 rw [Nat.zero_add,Nat.zero_add,Nat.zero_add,ahead_zero,putRowK_self enc 3 w g 0 d (own_holds h)] at hw
 rw [hw]
 exact ⟨rfl,own_put h q _ (size_swp d i j),Kp.put w _⟩
theorem info81:∃ i z,Tryz.prog.info? 81=some i/\i.zero=some z/\i.size=3/\i.bytes=24/\z.cells.size=3:=by
 obtain ⟨i,hi⟩:=Option.isSome_iff_exists.1 (show (Tryz.prog.info? 81).isSome=true by kernel_rfl)
 refine ⟨i,.agg #[.int .i64 0,.int .u64 0,.int .u64 0],hi,?_,?_,?_,rfl⟩
 ·have h:(Tryz.prog.info? 81).map (·.zero)=some (some (.agg #[.int .i64 0,.int .u64 0,.int .u64 0])):=by kernel_rfl
  rw [hi] at h;simpa using h
 ·have h:(Tryz.prog.info? 81).map (·.size)=some 3:=by kernel_rfl
  rw [hi] at h;simpa using h
 ·have h:(Tryz.prog.info? 81).map (·.bytes)=some 24:=by kernel_rfl
  rw [hi] at h;simpa using h
end Go.Proofs.YtcipdampcmfmaaaGreat.Tk

namespace Go.Proofs.YtcipdampcmfmaaaGreat.Tk
open Go.RowKit Go.Sort
set_option maxHeartbeats 2000000
attribute [local go_sem ↓] Go.wp_at_zero Go.wp_at_succ
structure Hp (w:World) (hb:Nat) (k:Int) (v:Value) (d:Array Ht):Prop where
 blk:w.heap[hb]? = some (.cells #[.int .i64 k,v] 122 (0,0))
 own:Own w v d
 ne:v.ownBlock ≠ some hb
theorem Hp.cell0 {w:World} {hb:Nat} {k:Int} {v:Value} {d:Array Ht} (h:Hp w hb k v d):w.cell? ⟨hb,0,none⟩=some (.int .i64 k):=by simp [World.cell?,h.blk]
theorem Hp.cell1 {w:World} {hb:Nat} {k:Int} {v:Value} {d:Array Ht} (h:Hp w hb k v d):w.cell? ⟨hb,1,none⟩=some v:=by simp [World.cell?,h.blk]
theorem Hp.froz {w:World} {hb:Nat} {k:Int} {v:Value} {d:Array Ht} (h:Hp w hb k v d) (o:Nat):w.frozen? ⟨hb,o,none⟩=false:=by simp [World.frozen?,h.blk]
theorem Hp.lt {w:World} {hb:Nat} {k:Int} {v:Value} {d:Array Ht} (h:Hp w hb k v d):hb < w.heap.size:=(Array.getElem?_eq_some_iff.1 h.blk).1
theorem Hp.gr {w w':World} {hb:Nat} {k:Int} {v:Value} {d:Array Ht} (h:Hp w hb k v d) (g:Gr w w'):Hp w' hb k v d:=⟨by rw [g.block hb h.lt];exact h.blk,own_gr h.own g,h.ne⟩
theorem lt2 {w:World} {b:Nat} {A B:Obj} (h:b < w.heap.size):b < ((w.alloc A).drew.alloc B).heap.size:=by simp;omega
theorem froz2 {w:World} {b o:Nat} {A B:Obj} (h:w.frozen? ⟨b,o,none⟩=false) (hb:b < w.heap.size):((w.alloc A).drew.alloc B).frozen? ⟨b,o,none⟩=false:=by
 rw [World.frozen?_of_block (w:=w) (a:=⟨b,o,none⟩)]
 ·exact h
 ·show (((w.alloc A).drew).alloc B).heap[b]? = _
  rw [Below.heap_alloc _ _ _ (by simp;omega)]
  exact Below.heap_alloc _ _ _ hb
theorem push_fin {w w1:World} {A B:Obj} {hb:Nat} {k:Int} {v:Value} {d:Array Ht} {x:Ht} {g cap:Nat} (h:Hp w hb k v d)
  (hown:w1.ownsRow 0 81 3 (.slice (some ⟨g,0,none⟩) (d.size + 1) cap) (d.size + 1) (fl d.toList ++ enc x)) (hg:((w.alloc A).drew.alloc B).grownBy w1 v.ownBlock) (hat:v.ownBlock=some g ∨ g=w.heap.size + 2) :
  Hp (w1.setCell ⟨hb,1,none⟩ (.slice (some ⟨g,0,none⟩) (d.size + 1) cap)) hb k (.slice (some ⟨g,0,none⟩) (d.size + 1) cap) (d.push x)/\Kp (fun b=>b=hb ∨ some b=v.ownBlock) w (w1.setCell ⟨hb,1,none⟩ (.slice (some ⟨g,0,none⟩) (d.size + 1) cap))/\(v.ownBlock=some g ∨ w.heap.size<=g):=by
 have hlt:=h.lt
 have hgn:g ≠ hb:=by
  rcases hat with e | e
  ·intro e2;exact h.ne (by rw [e,e2])
  ·omega
 have hw1:w1.heap[hb]? = some (.cells #[.int .i64 k,v] 122 (0,0)):=by
  rw [hg.block hb (lt2 hlt) (Ne.symm h.ne)]
  show (((w.alloc A).drew).alloc B).heap[hb]? = _
  rw [Below.heap_alloc _ _ _ (by simp;omega)]
  exact (Below.heap_alloc _ _ _ hlt).trans h.blk
 have K0:Kp (fun b=>b=hb ∨ some b=v.ownBlock) w w1:=by
  refine Kp.trans (b:=(w.alloc A).drew.alloc B) (Kp.of_gr ?_) ((Kp.grown hg).mono fun _ _ hs=>.inr hs)
  exact Below.alloc (Below.drew (Below.alloc (Below.refl _ _) (Nat.le_refl _) _)) (by simp) _
 refine ⟨⟨?_,?_,?_⟩,K0.setCell (.inl (.inl rfl)) _,?_⟩
 ·simp [World.setCell,Array.getElem?_modify,hw1]
 ·have:Own w1 (.slice (some ⟨g,0,none⟩) (d.size + 1) cap) (d.push x):=by
   unfold Own
   rw [Array.size_push,Array.toList_push,fl_app,fl_one]
   exact hown
  exact own_kept this (Below.heap_setCell _ _ _ _ hgn)
 ·simp [Value.ownBlock,hgn]
 ·rcases hat with e | e
  ·exact .inl e
  ·exact .inr (by omega)
theorem push75 {w:World} {hb:Nat} {k:Int} {v:Value} {d:Array Ht} (h:Hp w hb k v d) (hn:d.size<=4000) (x:Ht) :
  Calls Tryz.prog 258 #[.pointer (some ⟨hb,1,none⟩),.iface 81 (hv x)] w fun e w'=>e=.returned (.tuple #[]) /\
   ∃ g cap,Hp w' hb k (.slice (some ⟨g,0,none⟩) (d.size + 1) cap) (d.push x)/\Kp (fun b=>b=hb ∨ some b=v.ownBlock) w w'/\(v.ownBlock=some g ∨ w.heap.size<=g):=by
 have hta:∀ w,(Instr.typeAssert (.iface 81 (hv x)) 20 81 true).run Tryz.prog w=.ok (.tuple #[hv x,.bool true]) w:=fun w=>by kernel_rfl
 obtain ⟨i0,z0,hi0,hz0,hz1,hz2,hz3⟩:=info81
 have h1:d.size + 1<=maxLen:=by simp only [maxLen];omega
 have c1:(w.alloc (.cells #[.int .i64 x.id,.int .u64 x.hi,.int .u64 x.lo] 81)).cell? ⟨hb,1,none⟩=some v:=alloc_keeps h.cell1 _
 have c2:=alloc_keeps c1 (.cells #[.int .i64 x.id,.int .u64 x.hi,.int .u64 x.lo] 81)
 have H:Hid (Hp w hb k v d):=h
 clear h
 go_enter Tryz.func258,Tryz.ntmps258
 go_wp2
 go_region_law (refine step_append_lies _ rfl (.tmp 15) (.tmp 17) 120 rfl 0 81 i0 z0 3 24 Tryz.underlying120 hi0 hz0 hz1 hz2 hz3 (by omega) v d.size (fl d.toList) (by simp [Act.eval]) (by first | exact (H.out.own.alloc _).alloc _ | exact (World.ownsRow.alloc (w:=World.drew _) (H.out.own.alloc _) _)) ⟨w.heap.size + 1,0,none⟩ 1 1 (enc x) (by simp [Act.eval]) rfl (by intro j u hu;rw [Addr.add_lit];rcases j with _ | _ | _ | j <;> simp [enc] at hu <;> subst hu <;> simp [go_sem]) (enc_one x) (by omega) h1 (by omega) (Nat.zero_le _) (w.heap.size + 2) (by simp) ?_;intro g cap w1 hown hgrow hat hlt;have cc:=hgrow.cell (a:=⟨hb,1,none⟩) (v:=v) (alloc_keeps (alloc_keeps H.out.cell1 _) _) (Ne.symm H.out.ne);have ff:=(hgrow.frozen_far ⟨hb,1,none⟩ (lt2 H.out.lt) (Ne.symm H.out.ne)).trans (froz2 (H.out.froz 1) H.out.lt))
 all_goals
  go_end0
  exact ⟨rfl,g,cap,push_fin H.out hown hgrow hat⟩
end Go.Proofs.YtcipdampcmfmaaaGreat.Tk

namespace Go.Proofs.YtcipdampcmfmaaaGreat
open Go.RowKit Go.Sort
theorem setCells_heap (g:Nat) (e:TypeId) (s:Nat × Nat):∀ (vs:List Value) (o:Nat) (w:World) (cur:Array Value),w.heap[g]? = some (.cells cur e s)->o + vs.length<=cur.size ->
  ∃ cur',(w.setCells g o vs).heap[g]? = some (.cells cur' e s)/\cur'.size=cur.size/\∀ t,cur'[t]? = if o<=t/\t < o + vs.length then vs[t - o]? else cur[t]?
 | [],o,w,cur,h,_=>⟨cur,h,rfl,fun t=>by rw [if_neg];simp⟩
 | v :: r,o,w,cur,h,hl=>by
  rw [List.length_cons] at hl
  have h1:(w.setCell ⟨g,o,none⟩ v).heap[g]? = some (.cells (cur.setIfInBounds o v) e s):=by simp [World.setCell,Array.getElem?_modify,h]
  obtain ⟨c2,e2,s2,f2⟩:=setCells_heap g e s r (o + 1) (w.setCell ⟨g,o,none⟩ v) (cur.setIfInBounds o v) h1 (by simp;omega)
  refine ⟨c2,e2,by rw [s2];simp,fun t=>?_⟩
  rw [f2 t,List.length_cons]
  by_cases h3:o=t
  ·subst h3
   rw [if_neg (by omega),if_pos (by omega),Array.getElem?_setIfInBounds_self_of_lt (by omega)]
   simp
  ·by_cases h4:o + 1<=t/\t < o + 1 + r.length
   ·rw [if_pos h4,if_pos (by omega),show t - o=(t - (o + 1)) + 1 by omega,List.getElem?_cons_succ]
   ·rw [if_neg h4,if_neg (by omega),Array.getElem?_setIfInBounds_ne h3]
theorem kp_setCells {S:Nat->Prop} {a:World} {g:Nat} (hg:S g ∨ a.heap.size<=g):∀ (vs:List Value) (o:Nat) (w:World),Tk.Kp S a w->Tk.Kp S a (w.setCells g o vs)
 | [],_,_,h=>h
 | v :: r,o,_w,h=>kp_setCells hg r (o + 1) _ (h.setCell hg v)
theorem some_setCells (g:Nat) (e:TypeId) (s:Nat × Nat) {w:World} {cur:Array Value} (h:w.heap[g]? = some (.cells cur e s)) {o:Nat} (ho:o < cur.size):(w.cell? ⟨g,o,none⟩).isSome=true:=by
 simp [World.cell?,h,ho]
theorem run_copy_k {P:Program} (w:World) (dT sT ty elem:TypeId) (i:TypeInfo) (b o dLen dCap:Nat) (a:Addr) (sLen sCap m:Nat) (cs:List Value)
  (hu:P.underlying dT=some (.slice elem)) (hi:P.info? elem=some i) (hm:m=Nat.min sLen dLen) (hn:cs.length=m * i.size)
  (hsrc:∀ j v,cs[j]? = some v->w.cell? (a.add j)=some v) (hc:∀ j,j < cs.length->(w.cell? ⟨b,o + j,none⟩).isSome=true) (hf:∀ j,j < cs.length->w.frozen? ⟨b,o + j,none⟩=false) (h1:∀ v ∈ cs,v.oneCell'=true) :
  (Builtin.copy_ #[dT,sT] ty #[.slice (some ⟨b,o,none⟩) dLen dCap,.slice (some a) sLen sCap]).run P w=.ok (goInt m) (w.setCells b o cs):=by
 have hl:=run_firstCells_some (P:=P) w i.size m a sLen sCap cs hn hsrc
 have hst:=run_storeCells_cells (P:=P) b o cs 0 w (by simpa using hc) (by simpa using hf) h1
 simp only [Nat.add_zero] at hst
 simp [Builtin.copy_,run_underlying hu,Builtin.lenOf,sizeOf,typeInfo,hi,<- hm,hl,hst]
theorem wp_copy_k {P:Program} (w:World) {ops:Array Oper} {rest:List Oper} {o:Oper} {a:Act} {Q:Exit->Act->World->Prop} (hgd:o.guard=none) (d s:Operand) (t t':TypeId)
  (ho:o.op=.call { callee:=.builtin .copy,args:=#[d,s],argTypes:=#[t,t'] }) (v u:Value) (hd:a.eval d=v) (hs:a.eval s=u) {v':Value} {w':World}
  (hr:(Builtin.copy_ #[t,t'] o.type #[v,u]).run P w=.ok v' w') (h:wpList P ops Q rest (a.put o.dst v') w'):wpList P ops Q (o :: rest) a w:=by
 refine wpList_plain hgd fun _ hK=>?_
 unfold Oper.wp execOp
 simp only [ho,resolve,invoke,builtin,Sem.run_bind,Sem.run_pure,Result.andThen_ok,List.map_toArray,List.map_cons,List.map_nil,hd,hs,hr]
 exact hK _ _ h
theorem step_copy_k {P:Program} {ops:Array Oper} {o:Oper} {a:Act} {w:World} {K:Act->World->Prop} {Q:Exit->Act->World->Prop} {E:Prop}
  (hg:o.guard=none) (d x:Operand) (dT sT:TypeId) (hop:o.op=Op.call { callee:=Callee.builtin Builtin.copy,args:=#[d,x],argTypes:=#[dT,sT] })
  (v u:Value) (hd:a.eval d=v) (hx:a.eval x=u) {v':Value} {w':World} (hr:(Builtin.copy_ #[dT,sT] o.type #[v,u]).run P w=.ok v' w') (hK:K (a.put o.dst v') w') :
  if Region.wanted o (yielded ops a.tmps)=true then Oper.wp P o a w K Q else E:=by
 have hw:Region.wanted o (yielded ops a.tmps)=true:=by simp [Region.wanted,hg]
 rw [if_pos hw]
 unfold Oper.wp
 simp [execOp,hop,resolve,invoke,builtin,hd,hx,hr,Result.andThen]
 exact hK
theorem step_append_k {P:Program} {ops:Array Oper} {o:Oper} {a:Act} {w:World} {K:Act->World->Prop} {Q:Exit->Act->World->Prop} {E:Prop}
  (hg:o.guard=none) (d x:Operand) (dT sT:TypeId) (hop:o.op=Op.call { callee:=Callee.builtin Builtin.append,args:=#[d,x],argTypes:=#[dT,sT] })
  (v u:Value) (hd:a.eval d=v) (hx:a.eval x=u) {v':Value} {w':World} (hr:(Builtin.append_ #[dT,sT] o.type #[v,u]).run P w=.ok v' w') (hK:K (a.put o.dst v') w') :
  if Region.wanted o (yielded ops a.tmps)=true then Oper.wp P o a w K Q else E:=by
 have hw:Region.wanted o (yielded ops a.tmps)=true:=by simp [Region.wanted,hg]
 rw [if_pos hw]
 unfold Oper.wp
 simp [execOp,hop,resolve,invoke,builtin,hd,hx,hr,Result.andThen]
 exact hK
theorem ins_cells {xs vs:List Value} {a N:Nat} {cur c1 c2:Array Value} (ha:a<=xs.length) (hN:N=xs.length + vs.length) (hx:∀ t,t < a->cur[t]? = xs[t]?)
  (h1:∀ t,c1[t]? = if a + vs.length<=t/\t < a + vs.length + (xs.drop a).length then (xs.drop a)[t - (a + vs.length)]? else cur[t]?)
  (h2:∀ t,c2[t]? = if a<=t/\t < a + vs.length then vs[t - a]? else c1[t]?):c2.toList.take N=xs.take a ++ vs ++ xs.drop a:=by
 rw [List.length_drop] at h1
 apply List.ext_getElem?
 intro t
 have hl1:(xs.take a).length=a:=by rw [List.length_take];omega
 by_cases ht:t < N
 ·rw [List.getElem?_take_of_lt ht,Array.getElem?_toList,h2 t]
  by_cases c:t < a
  ·rw [if_neg (by omega),h1 t,if_neg (by omega),hx t c,List.append_assoc,List.getElem?_append_left (by omega),List.getElem?_take_of_lt c]
  ·by_cases c3:t < a + vs.length
   ·rw [if_pos (by omega),List.append_assoc,List.getElem?_append_right (by omega),hl1,List.getElem?_append_left (by omega)]
   ·rw [if_neg (by omega),h1 t,if_pos (by omega),List.getElem?_append_right (by rw [List.length_append,hl1];omega),List.length_append,hl1]
 ·rw [List.getElem?_eq_none (by rw [List.length_take];omega),List.getElem?_eq_none (by rw [List.length_append,List.length_append,hl1,List.length_drop];omega)]
theorem ins_cells' {xs vs:List Value} {a N:Nat} {cur c1 c2:Array Value} (ha:a<=xs.length) (hN:N=xs.length + vs.length) (hx:∀ t,t < a->cur[t]? = xs[t]?)
  (h1:∀ t,c1[t]? = if a<=t/\t < a + vs.length then vs[t - a]? else cur[t]?)
  (h2:∀ t,c2[t]? = if a + vs.length<=t/\t < a + vs.length + (xs.drop a).length then (xs.drop a)[t - (a + vs.length)]? else c1[t]?):c2.toList.take N=xs.take a ++ vs ++ xs.drop a:=by
 rw [List.length_drop] at h2
 apply List.ext_getElem?
 intro t
 have hl1:(xs.take a).length=a:=by rw [List.length_take];omega
 by_cases ht:t < N
 ·rw [List.getElem?_take_of_lt ht,Array.getElem?_toList,h2 t]
  by_cases c:t < a
  ·rw [if_neg (by omega),h1 t,if_neg (by omega),hx t c,List.append_assoc,List.getElem?_append_left (by omega),List.getElem?_take_of_lt c]
  ·by_cases c3:t < a + vs.length
   ·rw [if_neg (by omega),h1 t,if_pos (by omega),List.append_assoc,List.getElem?_append_right (by omega),hl1,List.getElem?_append_left (by omega)]
   ·rw [if_pos (by omega),List.getElem?_append_right (by rw [List.length_append,hl1];omega),List.length_append,hl1]
 ·rw [List.getElem?_eq_none (by rw [List.length_take];omega),List.getElem?_eq_none (by rw [List.length_append,List.length_append,hl1,List.length_drop];omega)]
end Go.Proofs.YtcipdampcmfmaaaGreat
