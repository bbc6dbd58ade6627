import Derived.Maps.OwnSet
import Derived.Maps.RangeWalk
import Derived.Below
import Derived.Test.YtcipdampcmfmaabGreatJa4
namespace Go.Proofs.YtcipdampcmfmaabGreat
open Go.RowKit Go.Maps
def slf (v:Value):Option (DataW Value × List MemPlace):=some (.held v,[])
abbrev ky (x:Int):Lit:=.int .i64 x
def KWf (x:Int):Prop:=-9223372036854775808<=x/\x<=9223372036854775807
theorem KWf.wf {x:Int} (h:KWf x):(Lit.int .i64 x).wf=true:=by
 obtain ⟨h1,h2⟩:=h
 have e1:IntKind.i64.min=-9223372036854775808:=rfl
 have e2:IntKind.i64.max=9223372036854775807:=rfl
 simp [Lit.wf,e1,e2]
 omega
def MapA (P:Program) (kt:TypeId) (w:World) (b:Nat) (ks:List Int) (f:Int->Value):Prop :=
 ∃ D:DataW Value,w.ownsMap P kt slf b (Maps.size D) D/\ks.Nodup/\(∀ x ∈ ks,KWf x)/\Maps.size D=ks.length/\(∀ x,KWf x->Maps.has D (ky x)=decide (x ∈ ks))/\∀ x ∈ ks,∀ z,D.atKey (ky x) z=.held (f x)
variable {P:Program} {kt t e:TypeId} {w w':World} {b:Nat} {ks:List Int} {f:Int->Value}
theorem ky_is (x:Int):WideAt.IsKeyLit (ky x):=by
 simp [WideAt.IsKeyLit]
theorem own_tight {k:TypeId} {R:Value->Option (DataW Value × List MemPlace)} {n:Nat} {D:DataW Value} (h:w.ownsMap P k R b n D):w.ownsMap P k R b (Maps.size D) D:=by
 obtain ⟨es,clock,hb,F,_,rfl⟩:=h
 exact ⟨es,clock,hb,F,by simp [Maps.size,length_sorted],rfl⟩
theorem own_same {k:TypeId} {R:Value->Option (DataW Value × List MemPlace)} {n:Nat} {D:DataW Value} (h:w.ownsMap P k R b n D) (hb:w'.heap[b]? = w.heap[b]?):w'.ownsMap P k R b n D:=by
 obtain ⟨es,clock,h1,F,h2,h3⟩:=h
 exact ⟨es,clock,hb.trans h1,F,h2,h3⟩
theorem MapA.same (h:MapA P kt w b ks f) (hb:w'.heap[b]? = w.heap[b]?):MapA P kt w' b ks f:=by
 obtain ⟨D,ho,r⟩:=h
 exact ⟨D,own_same ho hb,r⟩
theorem MapA.lt (h:MapA P kt w b ks f):b < w.heap.size:=by
 obtain ⟨D,ho,_⟩:=h
 exact ho.lt
theorem MapA.isMap (h:MapA P kt w b ks f):∃ es clock,w.heap[b]? = some (.map es clock):=by
 obtain ⟨D,⟨es,clock,hb,_⟩,_⟩:=h
 exact ⟨es,clock,hb⟩
theorem MapA.new (w:World) (f:Int->Value):MapA P kt (w.alloc (.map #[] 0)) w.heap.size [] f :=
 ⟨.map [],World.ownsMap_made w P kt slf,List.nodup_nil,by simp,rfl,fun x _=>by simp [Maps.has],by simp⟩
theorem MapA.ext {g:Int->Value} (h:MapA P kt w b ks f) (hg:∀ x ∈ ks,g x=f x):MapA P kt w b ks g:=by
 obtain ⟨D,ho,hn,hw,hs,hh,ha⟩:=h
 exact ⟨D,ho,hn,hw,hs,hh,fun x hx z=>by rw [ha x hx z,hg x hx]⟩
theorem MapA.perm {ls:List Int} (h:MapA P kt w b ks f) (hp:ls.Perm ks):MapA P kt w b ls f:=by
 obtain ⟨D,ho,hn,hw,hs,hh,ha⟩:=h
 refine ⟨D,ho,hp.nodup_iff.2 hn,fun x hx=>hw x (hp.mem_iff.1 hx),by rw [hs,hp.length_eq],fun x hx=>?_,fun x hx z=>ha x (hp.mem_iff.1 hx) z⟩
 rw [hh x hx]
 exact decide_eq_decide.2 hp.mem_iff.symm
theorem MapA.len (h:MapA P kt w b ks f) (ht:P.underlying t=some (.map kt e)) (ty:TypeId):(Builtin.len_ #[t] ty #[.map (some b)]).run P w=.ok (.int .i64 (ks.length:Int)) w:=by
 obtain ⟨D,ho,hn,hw,hs,hh,ha⟩:=h
 rw [ho.len ht ty,hs]
theorem MapA.look_ok (h:MapA P kt w b ks f) (hk:P.underlying kt=some (.int .i64)) (ht:P.underlying t=some (.map kt e)) {z:Value} (hz:(zeroValue e).run P w=.ok z w) {x:Int} (hx:KWf x) :
  (Instr.lookup t (.map (some b)) (.int .i64 x) true).run P w=.ok (.tuple #[if x ∈ ks then f x else z,.bool (decide (x ∈ ks))]) w:=by
 obtain ⟨D,ho,hn,hw,hs,hh,ha⟩:=h
 obtain ⟨v,ps,hrun,hv⟩:=ho.look_ok (int_keyed hk) ht hz (zd:=.held z) (zp:=[]) rfl (keyOf_int_mk hk hx.wf)
 rw [hrun,hh x hx]
 simp only [slf,Option.some.injEq,Prod.mk.injEq] at hv
 by_cases hm:x ∈ ks
 ·rw [ha x hm] at hv
  injection hv.1 with e1
  rw [if_pos hm,e1]
 ·have h0:Maps.has D (ky x)=false:=by rw [hh x hx];simp [hm]
  rw [atKey_of_not_has h0] at hv
  injection hv.1 with e1
  rw [if_neg hm,e1]
theorem MapA.look (h:MapA P kt w b ks f) (hk:P.underlying kt=some (.int .i64)) (ht:P.underlying t=some (.map kt e)) {z:Value} (hz:(zeroValue e).run P w=.ok z w) {x:Int} (hx:KWf x) :
  (Instr.lookup t (.map (some b)) (.int .i64 x) false).run P w=.ok (if x ∈ ks then f x else z) w:=by
 obtain ⟨D,ho,hn,hw,hs,hh,ha⟩:=h
 obtain ⟨v,ps,hrun,hv⟩:=ho.lookup (int_keyed hk) ht hz (zd:=.held z) (zp:=[]) rfl (keyOf_int_mk hk hx.wf)
 rw [hrun]
 simp only [slf,Option.some.injEq,Prod.mk.injEq] at hv
 by_cases hm:x ∈ ks
 ·rw [ha x hm] at hv
  injection hv.1 with e1
  rw [if_pos hm,e1]
 ·have h0:Maps.has D (ky x)=false:=by rw [hh x hx];simp [hm]
  rw [atKey_of_not_has h0] at hv
  injection hv.1 with e1
  rw [if_neg hm,e1]
def putK (ks:List Int) (x:Int):List Int:=if x ∈ ks then ks else x :: ks
def putF (f:Int->Value) (x:Int) (v:Value):Int->Value:=fun y=>if y=x then v else f y
theorem ky_ne {x y:Int} (h:y ≠ x):ky y ≠ ky x:=by
 intro e
 injection e with _ e
 exact h e
theorem mem_putK {ks:List Int} {x y:Int}:y ∈ putK ks x ↔ y=x ∨ y ∈ ks:=by
 unfold putK
 split
 ·rename_i h
  constructor
  ·exact Or.inr
  ·rintro (rfl | h')
   ·exact h
   ·exact h'
 ·simp
theorem MapA.put (h:MapA P kt w b ks f) (hk:P.underlying kt=some (.int .i64)) (ht:P.underlying t=some (.map kt e)) (hn:ks.length < 1000000) {x:Int} (hx:KWf x) (v:Value) :
  ∃ w',(Instr.mapUpdate t (.map (some b)) (.int .i64 x) v).run P w=.ok () w'/\MapA P kt w' b (putK ks x) (putF f x v)/\w.mapTurned w' b:=by
 obtain ⟨D,ho,hnd,hw,hs,hh,ha⟩:=h
 have htidy:=ho.tidy (int_keyed hk)
 obtain ⟨w',hrun,ho',hm⟩:=ho.store (int_keyed hk) ht (by rw [hs];unfold maxLen;omega) (keyOf_int_mk hk hx.wf) (d:=.held v) (ps:=[]) rfl
 refine ⟨w',hrun,⟨D.put (ky x) (.held v),own_tight ho',?_,?_,?_,?_,?_⟩,hm⟩
 ·unfold putK;split
  ·exact hnd
  ·rename_i hx';exact List.nodup_cons.2 ⟨hx',hnd⟩
 ·intro y hy
  rcases mem_putK.1 hy with rfl | hy
  ·exact hx
  ·exact hw y hy
 ·rw [size_put htidy,hh x hx]
  unfold putK
  by_cases hm':x ∈ ks
  ·simp [hm',hs]
  ·simp [hm',hs]
 ·intro y hy
  by_cases hyx:y=x
  ·subst hyx
   rw [has_put_same htidy.isMap (ky_is y)]
   simp [mem_putK]
  ·rw [has_put_other (ky_ne hyx),hh y hy]
   exact decide_eq_decide.2 (by rw [mem_putK];simp [hyx])
 ·intro y hy z
  by_cases hyx:y=x
  ·subst hyx
   rw [atKey_put_same htidy.isMap (ky_is y)]
   simp [putF]
  ·rw [atKey_put_other (ky_ne hyx)]
   have hy':y ∈ ks:=by
    rcases mem_putK.1 hy with h1 | h1
    ·exact absurd h1 hyx
    ·exact h1
   rw [ha y hy' z]
   simp [putF,hyx]
theorem MapA.del (h:MapA P kt w b ks f) (hk:P.underlying kt=some (.int .i64)) (ht:P.underlying t=some (.map kt e)) {x:Int} (hx:KWf x) (ty:TypeId) :
  ∃ w',(Builtin.delete_ #[t,kt] ty #[.map (some b),.int .i64 x]).run P w=.ok (.tuple #[]) w'/\MapA P kt w' b (ks.erase x) f/\w.mapTurned w' b:=by
 obtain ⟨D,ho,hnd,hw,hs,hh,ha⟩:=h
 have htidy:=ho.tidy (int_keyed hk)
 obtain ⟨w',hrun,ho',hm⟩:=ho.drop (int_keyed hk) ht (keyOf_int_mk hk hx.wf) ty
 refine ⟨w',hrun,⟨D.del (ky x),own_tight ho',hnd.erase x,fun y hy=>hw y (List.mem_of_mem_erase hy),?_,?_,?_⟩,hm⟩
 ·have e1:=size_del (k:=ky x) htidy
  rw [hh x hx,hs] at e1
  rw [List.length_erase]
  by_cases hm':x ∈ ks
  ·have:0 < ks.length:=List.length_pos_of_mem hm'
   simp [hm'] at e1 ⊢
   omega
  ·simp [hm'] at e1 ⊢
   omega
 ·intro y hy
  by_cases hyx:y=x
  ·subst hyx
   rw [has_del_same]
   have:y ∉ ks.erase y:=fun h'=>(List.Nodup.not_mem_erase hnd) h'
   simp [this]
  ·rw [has_del_other (ky_ne hyx),hh y hy]
   exact decide_eq_decide.2 (by rw [List.mem_erase_of_ne hyx])
 ·intro y hy z
  have hyx:y ≠ x:=fun h'=>by subst h';exact (List.Nodup.not_mem_erase hnd) hy
  rw [atKey_del_other (ky_ne hyx),ha y (List.mem_of_mem_erase hy) z]
def RngA (P:Program) (kt:TypeId) (w:World) (b r:Nat) (ks lf:List Int) (f:Int->Value):Prop :=
 ∃ (D:DataW Value) (left:Lit->Bool) (cnt:Nat),w.ranges P kt slf b r (Maps.size D) D left cnt/\(ks.Nodup/\(∀ x ∈ ks,KWf x)/\Maps.size D=ks.length/\(∀ x,KWf x->Maps.has D (ky x)=decide (x ∈ ks))/\∀ x ∈ ks,∀ z,D.atKey (ky x) z=.held (f x)) /\
  lf.Nodup/\(∀ x ∈ lf,x ∈ ks)/\∀ x,KWf x->left (ky x)=decide (x ∈ lf)
theorem RngA.map {r:Nat} {lf:List Int} (h:RngA P kt w b r ks lf f):MapA P kt w b ks f:=by
 obtain ⟨D,left,cnt,hr,hD,_⟩:=h
 exact ⟨D,hr.owns,hD⟩
theorem RngA.same {r:Nat} {lf:List Int} (h:RngA P kt w b r ks lf f) (hb:w'.heap[b]? = w.heap[b]?) (hr':w'.heap[r]? = w.heap[r]?):RngA P kt w' b r ks lf f:=by
 obtain ⟨D,left,cnt,⟨es,clock,since,seen,c0,h1,F,h2,h3,h4,h5⟩,hD⟩:=h
 exact ⟨D,left,cnt,⟨es,clock,since,seen,c0,hb.trans h1,F,h2,h3,hr'.trans h4,h5⟩,hD⟩
theorem RngA.ne {r:Nat} {lf:List Int} (h:RngA P kt w b r ks lf f):r ≠ b:=by
 obtain ⟨D,left,cnt,hr,_⟩:=h
 exact hr.ne
theorem RngA.lt {r:Nat} {lf:List Int} (h:RngA P kt w b r ks lf f):r < w.heap.size:=by
 obtain ⟨D,left,cnt,hr,_⟩:=h
 exact hr.lt
theorem MapA.range (h:MapA P kt w b ks f) (hk:P.underlying kt=some (.int .i64)) (ht:P.underlying t=some (.map kt e)) :
  ∃ w',(Instr.range t (.map (some b))).run P w=.ok (.pointer (some ⟨w.heap.size,0,none⟩)) w'/\RngA P kt w' b w.heap.size ks ks f/\w.grownBy w' none/\w'.heap.size=w.heap.size + 1:=by
 obtain ⟨D,ho,hD⟩:=h
 obtain ⟨w',hrun,hr,hg,hs⟩:=ho.range (int_keyed hk) ht
 exact ⟨w',hrun,⟨D,_,_,hr,hD,hD.1,fun x hx=>hx,fun x hx=>hD.2.2.2.1 x hx⟩,hg,hs⟩
theorem same_ky {x y:Int}:(ky y).sameKey (ky x)=decide (y=x):=by
 by_cases h:y=x
 ·subst h
  rw [WideAt.sameKey_self (ky_is y)];simp
 ·rw [sameKey_ne (ky_ne h)];simp [h]
theorem RngA.next {r:Nat} {lf:List Int} (h:RngA P kt w b r ks lf f) (hk:P.underlying kt=some (.int .i64)) (ty:TypeId) :
  (lf=[]/\(Instr.next (.pointer (some ⟨r,0,none⟩)) false ty).run P w=.ok (.tuple #[.bool false]) w) ∨
  ∃ x w',x ∈ lf/\(Instr.next (.pointer (some ⟨r,0,none⟩)) false ty).run P w=.ok (.tuple #[.bool true,.int .i64 x,f x]) w'/\RngA P kt w' b r ks (lf.erase x) f/\w.grownBy w' (some r)/\w'.heap.size=w.heap.size /\
   (Instr.entry (.pointer (some ⟨r,0,none⟩))).run P w'=.ok (.tuple #[.int .i64 x,f x]) w':=by
 obtain ⟨D,left,cnt,hr,hD,hl1,hl2,hl3⟩:=h
 rcases hr.next (int_keyed hk) ty with ⟨_,h0,hrun⟩ | ⟨key,v,kl,y,w',cnt',hkey,hlk,hv,hat,hrun,hrg,_,hg,hs,hen⟩
 ·refine Or.inl ⟨?_,hrun⟩
  cases lf with
  | nil=>rfl
  | cons x r' =>
   have h1:=hl3 x (hD.2.1 x (hl2 x List.mem_cons_self))
   rw [h0] at h1
   simp at h1
 ·obtain ⟨x,rfl,rfl,hw⟩:=keyOf_int_inv hk hkey
  have hx:KWf x:=by
   have e1:IntKind.i64.min=-9223372036854775808:=rfl
   have e2:IntKind.i64.max=9223372036854775807:=rfl
   simp [Lit.wf,e1,e2] at hw
   exact ⟨hw.1,hw.2⟩
  have hm:x ∈ lf:=by
   have:=hl3 x hx
   rw [show left (ky x)=true from hlk] at this
   simpa using this.symm
  have hv':v=f x:=by
   have h1:=hat (.held v)
   rw [hD.2.2.2.2 x (hl2 x hm)] at h1
   simp only [slf,Option.some.injEq] at hv
   rw [<- hv] at h1
   injection h1 with h1
   exact h1.symm
  subst hv'
  refine Or.inr ⟨x,w',hm,hrun,⟨D,_,cnt',hrg,hD,hl1.erase x,fun z hz=>hl2 z (List.mem_of_mem_erase hz),fun z hz=>?_⟩,hg,hs,hen⟩
  show (left (ky z) && !(ky z).sameKey (ky x))=_
  rw [hl3 z hz,same_ky]
  by_cases hzx:z=x
  ·subst hzx
   have:z ∉ lf.erase z:=fun h'=>(List.Nodup.not_mem_erase hl1) h'
   simp [this]
  ·simp [hzx,List.mem_erase_of_ne hzx]
end Go.Proofs.YtcipdampcmfmaabGreat

namespace Go.Proofs.YtcipdampcmfmaabGreat
open Go.RowKit Go.Sort
set_option maxHeartbeats 2000000
abbrev El:=Int × Option Addr × Nat × Nat
abbrev sl (x:El):Value:=.slice x.2.1 x.2.2.1 x.2.2.2
theorem kp_swr (W:World) (g p q r s:Nat) (u v u' v':Value):Tk.Kp (fun k=>k=g) W ((((W.setCell ⟨g,p,none⟩ u).setCell ⟨g,q,none⟩ v).setCell ⟨g,r,none⟩ u').setCell ⟨g,s,none⟩ v').drew :=
 (((((Tk.Kp.refl (fun k=>k=g) W).setCell (p:=⟨g,p,none⟩) (Or.inl rfl) u).setCell (p:=⟨g,q,none⟩) (Or.inl rfl) v).setCell (p:=⟨g,r,none⟩) (Or.inl rfl) u').setCell (p:=⟨g,s,none⟩) (Or.inl rfl) v').drew'
def SRA (w:World) (g o:Nat) (l:List El):Prop:=∃ cs t,w.heap[g]? = some (.cells cs t (0,0))/\(∀ i,i < l.length->cs[o + i * 2]? = some (.int .i64 l[i]!.1)/\cs[o + i * 2 + 1]? = some (sl l[i]!))/\t=45
theorem SRA.cell {w:World} {g o:Nat} {l:List El} (h:SRA w g o l) {i:Nat} (hi:i < l.length):w.cell? ⟨g,o + i * 2,none⟩=some (.int .i64 l[i]!.1)/\w.cell? ⟨g,o + i * 2 + 1,none⟩=some (sl l[i]!):=by
 obtain ⟨cs,t,hb,hc,ht⟩:=h
 exact ⟨by simp [World.cell?,hb,(hc i hi).1],by simp [World.cell?,hb,(hc i hi).2]⟩
theorem SRA.froz {w:World} {g o:Nat} {l:List El} (h:SRA w g o l) (i:Nat):w.frozen? ⟨g,i,none⟩=false:=by
 obtain ⟨cs,t,hb,hc,ht⟩:=h
 simp [World.frozen?,hb]
theorem SRA.lt {w:World} {g o:Nat} {l:List El} (h:SRA w g o l):g < w.heap.size:=by
 obtain ⟨cs,t,hb,hc,ht⟩:=h
 exact (Array.getElem?_eq_some_iff.1 hb).1
theorem SRA.same {w w':World} {g o:Nat} {l:List El} (h:SRA w g o l) (hb:w'.heap[g]? = w.heap[g]?):SRA w' g o l:=by
 obtain ⟨cs,t,h1,hc⟩:=h
 exact ⟨cs,t,hb.trans h1,hc⟩
theorem SRA.set {w:World} {g o:Nat} {l:List El} (h:SRA w g o l) {i:Nat} (hi:i < l.length) (x:El):SRA ((w.setCell ⟨g,o + i * 2,none⟩ (.int .i64 x.1)).setCell ⟨g,o + i * 2 + 1,none⟩ (sl x)) g o (l.set i x):=by
 obtain ⟨cs,t,hb,hc,ht⟩:=h
 refine ⟨(cs.setIfInBounds (o + i * 2) (.int .i64 x.1)).setIfInBounds (o + i * 2 + 1) (sl x),t,by simp [World.setCell,Array.getElem?_modify,hb],fun k hk=>?_,ht⟩
 rw [get_set _ _ _ _ hi]
 simp only [List.length_set] at hk
 by_cases hki:k=i
 ·subst hki
  have h1:=(hc k hk).2
  have hlt:o + k * 2 + 1 < cs.size:=by
   rcases Nat.lt_or_ge (o + k * 2 + 1) cs.size with h' | h'
   ·exact h'
   ·rw [Array.getElem?_eq_none h'] at h1;cases h1
  rw [if_pos rfl]
  refine ⟨?_,by simp [hlt]⟩
  rw [Array.getElem?_setIfInBounds_ne (by omega)]
  simp [show o + k * 2 < cs.size by omega]
 ·rw [if_neg hki,Array.getElem?_setIfInBounds_ne (by omega),Array.getElem?_setIfInBounds_ne (by omega),Array.getElem?_setIfInBounds_ne (by omega),Array.getElem?_setIfInBounds_ne (by omega)]
  exact hc k hk
theorem SRA.sws {w:World} {g o:Nat} {l:List El} (h:SRA w g o l) {i j:Nat} (hi:i < l.length) (hj:j < l.length) :
  SRA ((((w.setCell ⟨g,o + i * 2,none⟩ (.int .i64 l[j]!.1)).setCell ⟨g,o + i * 2 + 1,none⟩ (sl l[j]!)).setCell ⟨g,o + j * 2,none⟩ (.int .i64 l[i]!.1)).setCell ⟨g,o + j * 2 + 1,none⟩ (sl l[i]!)) g o (sws l i j) :=
 (h.set hi _).set (by simpa using hj) _
theorem swapRangeR {w:World} {g o cap a b n:Nat} {l:List El} (cv:Value) (h:SRA w g o l) (hl:l.length<=4000) (hab:a + n<=b) (hb:b + n<=l.length) :
  Calls Tryz.prog 198 #[.slice (some ⟨g,o,none⟩) l.length cap,.int .i64 (a:Int),.int .i64 (b:Int),.int .i64 (n:Int),cv] w fun e w'=>e=.returned (.tuple #[])/\∃ l',SwR l l' a b n/\SRA w' g o l'/\Tk.Kp (fun k=>k=g) w w':=by
 have H0:Hid (SRA w g o l):=h
 clear h
 go_enter Tryz.func198,Tryz.ntmps198
 go_wp2
 go_loopw [10] (fun iv W0=>∃ (W:World) (_:W=W0) (i:Nat) (l1:List El),iv=.int .i64 (i:Int)/\i<=n/\Hid (SwR l l1 a b i/\SRA W g o l1/\Tk.Kp (fun k=>k=g) w W)) (fun iv _=>n - (intOf iv).toNat)
 case atStart=>exact ⟨_,rfl,0,l,rfl,Nat.zero_le _,SwR.zero l a b,H0.out,Tk.Kp.refl _ _⟩
 case round =>
  obtain ⟨W,hW,i,l1,rfl,hin,H⟩:=hrel
  subst hW
  by_cases hi:i < n
  ·have hl1:l1.length=l.length:=H.out.1.perm.length_eq
   have ii:(i:Int) < (n:Int):=by omega
   have k1:(a:Int) + (i:Int) < (l.length:Int):=by omega
   have k2:(b:Int) + (i:Int) < (l.length:Int):=by omega
   obtain ⟨c1,c1b⟩:=H.out.2.1.cell (i:=a + i) (by omega)
   obtain ⟨c2,c2b⟩:=H.out.2.1.cell (i:=b + i) (by omega)
   have f1:W.frozen? ⟨g,o + (a + i) * 2,none⟩=false:=H.out.2.1.froz _
   have f1b:W.frozen? ⟨g,o + (a + i) * 2 + 1,none⟩=false:=H.out.2.1.froz _
   have f2:W.frozen? ⟨g,o + (b + i) * 2,none⟩=false:=H.out.2.1.froz _
   have f2b:W.frozen? ⟨g,o + (b + i) * 2 + 1,none⟩=false:=H.out.2.1.froz _
   have hne:a + i ≠ b + i:=by omega
   have N:Hid (SwR l (sws l1 (a + i) (b + i)) a b (i + 1)):=H.out.1.step (by omega) (by omega)
   have M:Hid (SRA ((((W.setCell ⟨g,o + (a + i) * 2,none⟩ (.int .i64 l1[b + i]!.1)).setCell ⟨g,o + (a + i) * 2 + 1,none⟩ (sl l1[b + i]!)).setCell ⟨g,o + (b + i) * 2,none⟩ (.int .i64 l1[a + i]!.1)).setCell ⟨g,o + (b + i) * 2 + 1,none⟩ (sl l1[a + i]!)) g o (sws l1 (a + i) (b + i))):=H.out.2.1.sws (by omega) (by omega)
   generalize l1[a + i]! = x at *
   obtain ⟨x1,x2,x3,x4⟩:=x
   generalize l1[b + i]! = y at *
   obtain ⟨y1,y2,y3,y4⟩:=y
   simp only [sl] at c1 c1b c2 c2b M
   go_wp2
   go_region
   go_wp2
   go_roundw
   case rel=>exact ⟨_,rfl,i + 1,sws l1 (a + i) (b + i),by go_num,hi,N.out,M.out.same rfl,H.out.2.2.trans (kp_swr W g _ _ _ _ _ _ _ _)⟩
   case measure=>simp [intOf];omega
  ·obtain rfl:i=n:=by omega
   go_wp2
   go_end0
   exact ⟨rfl,l1,H.out⟩
theorem rotateR {w:World} {g o cap a m b:Nat} {l:List El} (cv:Value) (h:SRA w g o l) (hl:l.length<=4000) (ham:a < m) (hmb:m < b) (hb:b<=l.length) :
  Calls Tryz.prog 185 #[.slice (some ⟨g,o,none⟩) l.length cap,.int .i64 (a:Int),.int .i64 (m:Int),.int .i64 (b:Int),cv] w fun e w'=>e=.returned (.tuple #[])/\∃ l',Rot l l' a m b/\SRA w' g o l'/\Tk.Kp (fun k=>k=g) w w':=by
 have H0:Hid (SRA w g o l):=h
 clear h
 have sw:=fun (W:World) (l1:List El) (hl1:l1.length=l.length) (x y n:Nat) (hA:SRA W g o l1) (h1:x + n<=y) (h2:y + n<=l.length)=>swapRangeR (cap:=cap) (a:=x) (b:=y) (n:=n) cv hA (by omega) h1 (by omega)
 have SW:Hid (∀ (W:World) (l1:List El) (hl1:l1.length=l.length) (x y n:Nat) (hA:SRA W g o l1) (h1:x + n<=y) (h2:y + n<=l.length),Calls Tryz.prog 198 #[.slice (some ⟨g,o,none⟩) l.length cap,.int .i64 (x:Int),.int .i64 (y:Int),.int .i64 (n:Int),cv] W fun e w'=>e=.returned (.tuple #[])/\∃ l',SwR l1 l' x y n/\SRA w' g o l'/\Tk.Kp (fun k=>k=g) W w') :=
  fun W l1 hl1 x y n hA h1 h2=>by have:=sw W l1 hl1 x y n hA h1 h2;rw [hl1] at this;exact this
 clear sw
 obtain ⟨i0,j0,ha0,hb0,hi0,hj0,him⟩:∃ i0 j0:Nat,m - i0=a/\m + j0=b/\0 < i0/\0 < j0/\i0<=m:=⟨m - a,b - m,by omega,by omega,by omega,by omega,by omega⟩
 have ei:(m:Int) - (a:Int)=(i0:Int):=by omega
 have ej:(b:Int) - (m:Int)=(j0:Int):=by omega
 have hjl:m + j0<=l.length:=by omega
 have AB:Hid (m - i0=a/\m + j0=b):=⟨ha0,hb0⟩
 clear ha0 hb0 ham hmb hb
 go_enter Tryz.func185,Tryz.ntmps185
 go_wp2
 go_loopw [10,11] (fun iv jv W0=>∃ (W:World) (_:W=W0) (i j:Nat) (l1:List El),iv=.int .i64 (i:Int)/\jv=.int .i64 (j:Int)/\(0 < i/\i<=i0)/\(0 < j/\j<=j0)/\Hid (l1.length=l.length/\SRA W g o l1/\Tk.Kp (fun k=>k=g) w W/\∀ l2,Rot l1 l2 (m - i) m (m + j)->Rot l l2 a m b)) (fun iv jv _=>(intOf iv).toNat + (intOf jv).toNat)
 case atStart=>exact ⟨_,rfl,i0,j0,l,by first | rfl | (congr 1;omega) | (congr 1),by first | rfl | (congr 1;omega) | (congr 1),⟨hi0,Nat.le_refl _⟩,⟨hj0,Nat.le_refl _⟩,rfl,H0.out,Tk.Kp.refl _ _,fun l2 h=>by have q:=AB.out;rw [q.1,q.2] at h;exact h⟩
 case round =>
  obtain ⟨W,hW,i,j,l1,rfl,rfl,⟨hi,hi'⟩,⟨hj,hj'⟩,H⟩:=hrel
  subst hW
  by_cases hij:i=j
  ·subst hij
   have e1:(m:Int) - (i:Int)=((m - i:Nat):Int):=by omega
   have S:=SW.out W l1 H.out.1 (m - i) m i H.out.2.1 (by omega) (by omega)
   go_wp2_with fail
   refine S.mono ?_
   rintro e w1 ⟨rfl,l2,s2,a2,k2⟩
   go_wp2
   go_end0
   exact ⟨rfl,l2,H.out.2.2.2 l2 (Rot.eq s2 (by omega)),a2,H.out.2.2.1.trans k2⟩
  ·by_cases hgt:j < i
   ·have e1:(m:Int) - (i:Int)=((m - i:Nat):Int):=by omega
    have b1:((i:Int) == (j:Int))=false:=by rw [beq_eq_false_iff_ne];omega
    have b2:(j:Int) < (i:Int):=by omega
    have S:=SW.out W l1 H.out.1 (m - i) m j H.out.2.1 (by omega) (by omega)
    go_wp2_with fail
    refine S.mono ?_
    rintro e w1 ⟨rfl,l2,s2,a2,k2⟩
    clear e1 b1 S
    have e3:(i:Int) - (j:Int)=((i - j:Nat):Int):=by omega
    go_wp2
    clear e3 b2
    go_roundw
    case rel=>exact ⟨_,rfl,i - j,j,l2,by first | rfl | (congr 1;omega),rfl,⟨by omega,by omega⟩,⟨hj,hj'⟩,s2.perm.length_eq.trans H.out.1,a2,H.out.2.2.1.trans k2,fun l3 h3=>H.out.2.2.2 l3 (Rot.left hgt (by omega) s2 h3)⟩
    case measure=>simp [intOf];omega
   ·have e1:(m:Int) - (i:Int)=((m - i:Nat):Int):=by omega
    have e2:(m:Int) + (j:Int) - (i:Int)=((m + j - i:Nat):Int):=by omega
    have b1:((i:Int) == (j:Int))=false:=by rw [beq_eq_false_iff_ne];omega
    have b2:¬ (j:Int) < (i:Int):=by omega
    have S:=SW.out W l1 H.out.1 (m - i) (m + j - i) i H.out.2.1 (by omega) (by omega)
    go_wp2_with fail
    refine S.mono ?_
    rintro e w1 ⟨rfl,l2,s2,a2,k2⟩
    go_wp2
    go_roundw
    case rel=>exact ⟨_,rfl,i,j - i,l2,rfl,by congr 1;omega,⟨hi,hi'⟩,⟨by omega,by omega⟩,s2.perm.length_eq.trans H.out.1,a2,H.out.2.2.1.trans k2,fun l3 h3=>H.out.2.2.2 l3 (Rot.right (by omega) (by omega) s2 h3)⟩
    case measure=>simp [intOf];omega
end Go.Proofs.YtcipdampcmfmaabGreat
