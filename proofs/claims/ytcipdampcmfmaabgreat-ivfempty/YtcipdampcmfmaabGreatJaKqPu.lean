import Derived.Test.YtcipdampcmfmaabGreatJa39
import Derived.Test.YtcipdampcmfmaabGreatJa40
import Derived.Test.YtcipdampcmfmaabGreatJa4
namespace Go.Proofs.YtcipdampcmfmaabGreat
open Go.RowKit Go.Sort Go.Maps
set_option maxRecDepth 100000
set_option maxHeartbeats 2000000
theorem RdI.rd0 {w:World} {u:Value} {l:List Int} (h:RdI w u l):∃ a c,u=.slice a l.length c/\True:=by
 obtain ⟨a,c,e,_⟩:=h
 exact ⟨a,c,e,trivial⟩
def putRw (rs:List Rw) (r:Rw):List Rw:=insRw (delRw rs r.1) r
def putE (m:Nat) (rs:List Rw) (r:Rw):Int:=if okId r.1=true then (if chk r.2 (m:Int)=0 then (if hasId rs r.1=false/\512<=rs.length then 2 else 0) else chk r.2 (m:Int)) else 50
theorem put_id {Iq:Nat->Prop} {w:World} {tb m:Nat} {C:Vs} {rs:List Rw} {F:List Nat} {xi:Int} {u:Value} {xl:List Int} (_h:TreeAt Iq w tb m C rs F) (hu:RdI w u xl) (h1:okId xi=false):Calls Tryz.prog 19 #[.pointer (some ⟨tb,0,none⟩),.agg #[.int .i64 xi,u]] w fun e w'=>e=.returned (.tuple #[.bool false,.int .i64 50])/\Gb w w':=by
 obtain ⟨ua,uc,eu,_⟩:=hu.rd0
 subst eu
 have gA:Gb w (w.alloc (.cells #[.int .i64 xi,.slice ua xl.length uc] 45)):=gb_alloc (Below.refl _ _) _
 have G:Hid _:=gA
 generalize xl.length=nx at *
 have h1':xi < 1 ∨ (¬ xi < 1/\1000000000 < xi):=by
  simp only [okId,Bool.and_eq_false_iff,decide_eq_false_iff_not] at h1
  omega
 clear gA hu h1
 go_enter Tryz.func19,Tryz.ntmps19
 rcases h1' with h1 | ⟨h0,h1⟩
 ·go_wp2
  refine bodyPost_ret (v:=.tuple #[.bool false,.int .i64 50]) (by simp [results,Tryz.results19,go_sem]) rfl ?_
  exact ⟨rfl,G.out⟩
 ·go_wp2
  refine bodyPost_ret (v:=.tuple #[.bool false,.int .i64 50]) (by simp [results,Tryz.results19,go_sem]) rfl ?_
  exact ⟨rfl,G.out⟩
theorem put_chk {Iq:Nat->Prop} {w:World} {tb m:Nat} {C:Vs} {rs:List Rw} {F:List Nat} {xi:Int} {u:Value} {xl:List Int} (h:TreeAt Iq w tb m C rs F) (hu:RdI w u xl) (h1:okId xi=true) {e0:Int} (h2:chk xl (m:Int)=e0) (h3:e0 ≠ 0):Calls Tryz.prog 19 #[.pointer (some ⟨tb,0,none⟩),.agg #[.int .i64 xi,u]] w fun e w'=>e=.returned (.tuple #[.bool false,.int .i64 e0])/\Gb w w':=by
 obtain ⟨ua,uc,eu,_⟩:=hu.rd0
 subst eu
 have gA:Gb w (w.alloc (.cells #[.int .i64 xi,.slice ua xl.length uc] 45)):=gb_alloc (Below.refl _ _) _
 have cK:=check_v (hu.gb gA.drew) (m:Int) e0 h2
 obtain ⟨gc,cc,lb,pb,ks,pk,f,pf,G,o,eF⟩:=h.opn
 obtain ⟨c0,_,_,c3⟩:=o.cells
 have c0':=gb_keeps gA.drew c0
 have G0:Hid _:=gA.drew
 generalize xl.length=nx at *
 have FS5:(fun W=>W.cell? ⟨w.heap.size,1,none⟩=some (.slice ua nx uc)/\W.cell? ⟨tb,0,none⟩=some (.int .i64 (m:Int))) (w.alloc (.cells #[.int .i64 xi,.slice ua nx uc] 45)).drew:=⟨by simp [go_sem],c0'⟩
 obtain ⟨h1a,h1b⟩:=(okId_iff xi).1 h1
 have h1c:¬ xi < 1:=by omega
 have h1d:¬ 1000000000 < xi:=by omega
 have he:¬ e0=0:=h3
 clear gA hu h h1 h2 h3 c0 c0' o eF c3
 go_enter Tryz.func19,Tryz.ntmps19
 go_wp2_with fail
 refine wp_region_held_drew (S:=fun W=>W.cell? ⟨w.heap.size,1,none⟩=some (.slice ua nx uc)/\W.cell? ⟨tb,0,none⟩=some (.int .i64 (m:Int))) (by kernel_rfl) (FS5) (fun hHeld=>?_)
 refine tkn 0 ?_ rfl ?_ ?_;rotate_left;·(rintro w ⟨s0,s1⟩;go_simp;try rfl)
 refine tkn 1 ?_ rfl ?_ ?_;rotate_left;·(rintro w ⟨s0,s1⟩;go_simp;try rfl)
 refine tkn 2 ?_ rfl ?_ ?_;rotate_left;·(rintro w ⟨s0,s1⟩;go_simp;try rfl)
 refine tkn 3 ?_ rfl ?_ ?_;rotate_left;·(rintro w ⟨s0,s1⟩;go_simp;try rfl)
 refine tkn 4 ?_ rfl ?_ ?_;rotate_left;·(rintro w ⟨s0,s1⟩;go_simp;try rfl)
 refine tkn 5 ?_ rfl ?_ ?_;rotate_left;·(rintro w ⟨s0,s1⟩;go_simp;try rfl)
 refine rdn 6 rfl (fun K hK=>?_)
 go_simp
 go_fit cK
 rintro e w5 ⟨rfl,rfl⟩
 refine hK.out _ _ (⟨hHeld.1,hHeld.2⟩) (fun hHeld=>?_)
 clear hK K
 refine tkn 7 ?_ rfl ?_ ?_;rotate_left;·(rintro w ⟨s0,s1⟩;go_simp;try rfl)
 refine wpAnyH_done (by kernel_rfl) ?_ _
 clear hHeld FS5 cK
 go_wp2
 refine bodyPost_ret (v:=.tuple #[.bool false,.int .i64 e0]) (by simp [results,Tryz.results19,go_sem]) rfl ?_
 exact ⟨rfl,G0.out⟩
theorem put_long {Iq:Nat->Prop} {w:World} {tb m:Nat} {C:Vs} {rs:List Rw} {F:List Nat} {xi:Int} {u:Value} {xl:List Int} (h:TreeAt Iq w tb m C rs F) (hu:RdI w u xl) (h1:okId xi=true) (h2:chk xl (m:Int)=0) (h3:hasId rs xi=false) (h4:512<=rs.length):Calls Tryz.prog 19 #[.pointer (some ⟨tb,0,none⟩),.agg #[.int .i64 xi,u]] w fun e w'=>e=.returned (.tuple #[.bool false,.int .i64 2])/\Gb w w':=by
 obtain ⟨ua,uc,eu,_⟩:=hu.rd0
 subst eu
 have gA:Gb w (w.alloc (.cells #[.int .i64 xi,.slice ua xl.length uc] 45)):=gb_alloc (Below.refl _ _) _
 have cK:=check_v (hu.gb gA.drew) (m:Int) 0 h2
 obtain ⟨gc,cc,lb,pb,ks,pk,f,pf,G,o,eF⟩:=h.opn
 obtain ⟨c0,_,_,c3⟩:=o.cells
 have c0':=gb_keeps gA.drew c0
 have G0:Hid _:=gA.drew
 have hpk:xi ∈ pk ↔ hasId rs xi=true:=by
  rw [o.pkk xi]
  unfold idsOf hasId
  rw [List.mem_map,List.any_eq_true]
  constructor
  ·rintro ⟨r,hr,e⟩
   exact ⟨r,hr,by simpa using e⟩
  ·rintro ⟨r,hr,e⟩
   exact ⟨r,hr,by simpa using e⟩
 have LK:Hid (∀ W,Gb w W->W.cell? ⟨tb,3,none⟩=some (.map (some pb))/\(Instr.lookup 72 (.map (some pb)) (.int .i64 xi) true).run Tryz.prog W=.ok (.tuple #[.int .i64 0,.bool false]) W/\(Builtin.len_ #[72] 3 #[.map (some pb)]).run Tryz.prog W=.ok (.int .i64 (rs.length:Int)) W):=fun W g=>by
  have mW:=o.plc.same (g.block _ o.plc.lt)
  refine ⟨gb_keeps g c3,?_,?_⟩
  ·have:=mW.look_ok (t:=72) Tryz.underlying3 Tryz.underlying72 (zeroInt W) (x:=xi) ⟨by have:=(okId_iff xi).1 h1;omega,by have:=(okId_iff xi).1 h1;omega⟩
   rw [this]
   have hn:xi ∉ pk:=fun e=>by rw [hpk,h3] at e;cases e
   rw [if_neg hn,decide_eq_false hn]
  ·have:=mW.len (t:=72) Tryz.underlying72 3
   rw [o.pkl] at this
   exact this
 generalize xl.length=nx at *
 have FS5:(fun W=>W.cell? ⟨w.heap.size,1,none⟩=some (.slice ua nx uc)/\W.cell? ⟨tb,0,none⟩=some (.int .i64 (m:Int))) (w.alloc (.cells #[.int .i64 xi,.slice ua nx uc] 45)).drew:=⟨by simp [go_sem],c0'⟩
 obtain ⟨h1a,h1b⟩:=(okId_iff xi).1 h1
 have h1c:¬ xi < 1:=by omega
 have h1d:¬ 1000000000 < xi:=by omega
 have BX:Hid ((w.alloc (.cells #[.int .i64 xi,.slice ua nx uc] 45)).drew.cell? ⟨w.heap.size,0,none⟩=some (.int .i64 xi)):=by unfold Hid;simp [go_sem]
 generalize rs.length=n at *
 have h4i:(512:Int)<=(n:Int):=by omega
 clear gA hu h h1 h2 h3 c0 c0' o eF c3 hpk
 go_enter Tryz.func19,Tryz.ntmps19
 go_wp2_with fail
 refine wp_region_held_drew (S:=fun W=>W.cell? ⟨w.heap.size,1,none⟩=some (.slice ua nx uc)/\W.cell? ⟨tb,0,none⟩=some (.int .i64 (m:Int))) (by kernel_rfl) (FS5) (fun hHeld=>?_)
 refine tkn 0 ?_ rfl ?_ ?_;rotate_left;·(rintro w ⟨s0,s1⟩;go_simp;try rfl)
 refine tkn 1 ?_ rfl ?_ ?_;rotate_left;·(rintro w ⟨s0,s1⟩;go_simp;try rfl)
 refine tkn 2 ?_ rfl ?_ ?_;rotate_left;·(rintro w ⟨s0,s1⟩;go_simp;try rfl)
 refine tkn 3 ?_ rfl ?_ ?_;rotate_left;·(rintro w ⟨s0,s1⟩;go_simp;try rfl)
 refine tkn 4 ?_ rfl ?_ ?_;rotate_left;·(rintro w ⟨s0,s1⟩;go_simp;try rfl)
 refine tkn 5 ?_ rfl ?_ ?_;rotate_left;·(rintro w ⟨s0,s1⟩;go_simp;try rfl)
 refine rdn 6 rfl (fun K hK=>?_)
 go_simp
 go_fit cK
 rintro e w5 ⟨rfl,rfl⟩
 refine hK.out _ _ (⟨hHeld.1,hHeld.2⟩) (fun hHeld=>?_)
 clear hK K
 refine tkn 7 ?_ rfl ?_ ?_;rotate_left;·(rintro w ⟨s0,s1⟩;go_simp;try rfl)
 refine wpAnyH_done (by kernel_rfl) ?_ _
 clear hHeld FS5 cK
 go_wp2_with fail
 refine wp_region_held_drew (S:=fun W=>Gb (w.alloc (.cells #[.int .i64 xi,.slice ua nx uc] 45)).drew W) (by kernel_rfl) ((Below.refl _ _).drew) (fun hHeld=>?_)
 refine tkn 0 ?_ rfl ?_ ?_;rotate_left;·(intro w hSw;(obtain ⟨y3,ylk,_⟩:=LK.out w (gb_trans G0.out hSw);have y0:=gb_keeps hSw BX.out);go_simp;try rfl)
 refine tkn 1 ?_ rfl ?_ ?_;rotate_left;·(intro w hSw;(obtain ⟨y3,ylk,_⟩:=LK.out w (gb_trans G0.out hSw);have y0:=gb_keeps hSw BX.out);go_simp;try rfl)
 refine tkn 2 ?_ rfl ?_ ?_;rotate_left;·(intro w hSw;(obtain ⟨y3,ylk,_⟩:=LK.out w (gb_trans G0.out hSw);have y0:=gb_keeps hSw BX.out);go_simp;try rfl)
 refine tkn 3 ?_ rfl ?_ ?_;rotate_left;·(intro w hSw;(obtain ⟨y3,ylk,_⟩:=LK.out w (gb_trans G0.out hSw);have y0:=gb_keeps hSw BX.out);go_simp;try rfl)
 refine tkn 4 ?_ rfl ?_ ?_;rotate_left;·(intro w hSw;(obtain ⟨y3,ylk,_⟩:=LK.out w (gb_trans G0.out hSw);have y0:=gb_keeps hSw BX.out);go_simp;try rfl)
 refine tkn 5 ?_ rfl ?_ ?_;rotate_left;·(intro w hSw;(obtain ⟨y3,ylk,_⟩:=LK.out w (gb_trans G0.out hSw);have y0:=gb_keeps hSw BX.out);go_simp;try rfl)
 refine tkn 6 ?_ rfl ?_ ?_;rotate_left;·(intro w hSw;(obtain ⟨y3,ylk,_⟩:=LK.out w (gb_trans G0.out hSw);have y0:=gb_keeps hSw BX.out);go_simp;try rfl)
 refine tkn 7 ?_ rfl ?_ ?_;rotate_left;·(intro w hSw;(obtain ⟨y3,ylk,_⟩:=LK.out w (gb_trans G0.out hSw);have y0:=gb_keeps hSw BX.out);go_simp;try rfl)
 refine tkn 8 ?_ rfl ?_ ?_;rotate_left;·(intro w hSw;(obtain ⟨y3,ylk,_⟩:=LK.out w (gb_trans G0.out hSw);have y0:=gb_keeps hSw BX.out);go_simp;try rfl)
 refine tkn 9 ?_ rfl ?_ ?_;rotate_left;·(intro w hSw;(obtain ⟨y3,ylk,_⟩:=LK.out w (gb_trans G0.out hSw);have y0:=gb_keeps hSw BX.out);go_simp;try rfl)
 refine tkn 10 ?_ rfl ?_ ?_;rotate_left;·(intro w hSw;(obtain ⟨y3,ylk,_⟩:=LK.out w (gb_trans G0.out hSw);have y0:=gb_keeps hSw BX.out);go_simp;try rfl)
 refine tkn 11 ?_ rfl ?_ ?_;rotate_left;·(intro w hSw;(obtain ⟨y3,ylk,_⟩:=LK.out w (gb_trans G0.out hSw);have y0:=gb_keeps hSw BX.out);go_simp;try rfl)
 refine wpAnyH_done (by kernel_rfl) ?_ _
 have G2:Hid (Gb w _):=gb_trans G0.out hHeld
 obtain ⟨y3,_,yln⟩:=LK.out _ G2.out
 clear LK BX hHeld
 go_wp2
 refine bodyPost_ret (v:=.tuple #[.bool false,.int .i64 2]) (by simp [results,Tryz.results19,go_sem]) rfl ?_
 exact ⟨rfl,G2.out⟩
theorem TOut.trans {Iq:Nat->Prop} {w w1 w2:World} {tb m:Nat} {C:Vs} {F F1:List Nat} {rs:List Rw} (k:Tk.Kp (fun k=>k ∈ F) w w1) (hF:∀ y ∈ F1,y ∈ F ∨ w.heap.size<=y) (h:TOut Iq w1 tb m C F1 rs w2):TOut Iq w tb m C F rs w2:=by
 obtain ⟨F2,t,l,k2⟩:=h
 have s:=k.size
 refine ⟨F2,t,fun y hy=>?_,?_⟩
 ·rcases l y hy with h | h
  ·exact hF y h
  ·exact .inr (by omega)
 ·exact ⟨k2.os.trans k.os,k2.tape.trans k.tape,k2.output.trans k.output,Nat.le_trans k.size k2.size,fun i hi hn=>(k2.block i (by omega) (fun hs=>by
   rcases hF i hs with h | h
   ·exact hn h
   ·omega)).trans (k.block i hi hn)⟩
theorem put_rows {m:Nat} {rs:List Rw} {r:Rw} (hok:RowsOk rs (m:Int)) (h1:okId r.1=true) (h2:chk r.2 (m:Int)=0) (h3:hasId rs r.1=true ∨ rs.length < 512):RowsOk (delRw rs r.1 ++ [r]) (m:Int):=by
 have hs:RowsOk (delRw rs r.1) (m:Int):=hok.sub List.filter_sublist
 have hl:(delRw rs r.1).length < 512:=by
  rcases h3 with h | h
  ·unfold hasId at h
   obtain ⟨y,hy,e⟩:=List.any_eq_true.1 h
   have:(delRw rs r.1).length < rs.length:=by
    unfold delRw
    exact List.length_filter_lt_length_iff_exists.2 ⟨y,hy,by simpa using e⟩
   have:=hok.few
   omega
  ·have:(delRw rs r.1).length<=rs.length:=List.length_filter_le _ _
   omega
 refine ⟨by rw [List.length_append];simp;omega,?_,fun y hy=>?_⟩
 ·unfold idsOf
  rw [List.map_append,List.pairwise_append]
  refine ⟨hs.ids,by simp,fun a ha b hb=>?_⟩
  obtain ⟨y,hy,rfl⟩:=List.mem_map.1 ha
  simp only [List.map_cons,List.map_nil,List.mem_singleton] at hb
  subst hb
  have:=(List.mem_filter.1 hy).2
  simpa using this
 ·rcases List.mem_append.1 hy with hy | hy
  ·exact hs.row y hy
  ·rw [List.mem_singleton.1 hy];exact ⟨h1,h2⟩
theorem put_okT {Iq:Nat->Prop} {w:World} {tb m:Nat} {C:Vs} {rs:List Rw} {F:List Nat} {xi:Int} {u:Value} {xl:List Int} (h:TreeAt Iq w tb m C rs F) (hu:RdI w u xl) (huF:∀ b o n c,u=.slice (some ⟨b,o,none⟩) n c->b ∉ F) (h1:okId xi=true) (h2:chk xl (m:Int)=0) (h3:hasId rs xi=true) :
  Calls Tryz.prog 19 #[.pointer (some ⟨tb,0,none⟩),.agg #[.int .i64 xi,u]] w fun e w'=>e=.returned (.tuple #[.bool (!hasId rs xi),.int .i64 0])/\TOut Iq w tb m C F (putRw rs (xi,xl)) w':=by
 obtain ⟨ua,uc,eu,_⟩:=hu.rd0
 subst eu
 have gA:Gb w (w.alloc (.cells #[.int .i64 xi,.slice ua xl.length uc] 45)):=gb_alloc (Below.refl _ _) _
 have cK:=check_v (hu.gb gA.drew) (m:Int) 0 h2
 obtain ⟨gc,cc,lb,pb,ks,pk,f,pf,G,o,eF⟩:=h.opn
 obtain ⟨c0,_,_,c3⟩:=o.cells
 have c0':=gb_keeps gA.drew c0
 have G0:Hid _:=gA.drew
 have hpk:xi ∈ pk ↔ hasId rs xi=true:=by
  rw [o.pkk xi]
  unfold idsOf hasId
  rw [List.mem_map,List.any_eq_true]
  constructor
  ·rintro ⟨r,hr,e⟩
   exact ⟨r,hr,by simpa using e⟩
  ·rintro ⟨r,hr,e⟩
   exact ⟨r,hr,by simpa using e⟩
 have LK:Hid (∀ W,Gb w W->W.cell? ⟨tb,3,none⟩=some (.map (some pb))/\(Instr.lookup 72 (.map (some pb)) (.int .i64 xi) true).run Tryz.prog W=.ok (.tuple #[.int .i64 (if xi ∈ pk then pf xi else 0),.bool true]) W/\(Builtin.len_ #[72] 3 #[.map (some pb)]).run Tryz.prog W=.ok (.int .i64 (rs.length:Int)) W):=fun W g=>by
  have mW:=o.plc.same (g.block _ o.plc.lt)
  refine ⟨gb_keeps g c3,?_,?_⟩
  ·have:=mW.look_ok (t:=72) Tryz.underlying3 Tryz.underlying72 (zeroInt W) (x:=xi) ⟨by have:=(okId_iff xi).1 h1;omega,by have:=(okId_iff xi).1 h1;omega⟩
   rw [this]
   have hn:decide (xi ∈ pk)=true:=by
    first | exact decide_eq_true (hpk.2 h3) | exact decide_eq_false (fun e=>by rw [hpk,h3] at e;cases e)
   rw [hn]
   by_cases hm:xi ∈ pk
   ·rw [if_pos hm,if_pos hm]
   ·rw [if_neg hm,if_neg hm]
  ·have:=mW.len (t:=72) Tryz.underlying72 3
   rw [o.pkl] at this
   exact this
 generalize (if xi ∈ pk then pf xi else 0)=zz at *
 have hid:KWf xi:=⟨by have:=(okId_iff xi).1 h1;omega,by have:=(okId_iff xi).1 h1;omega⟩
 have hxl:=chk_ok h2
 have CR:Hid (∀ w1,Gb w w1->Calls Tryz.prog 35 #[.pointer (some ⟨tb,0,none⟩),.int .i64 xi] w1 fun e w'=>e=.returned (.bool true)/\TOut Iq w1 tb m C F (delRw rs xi) w'):=fun w1 g=>by
  have:=remove_c (h.gb g) xi hid
  rw [h3] at this
  exact this
 have hok:=h.rok.1
 have hpr:=put_rows (r:=(xi,xl)) hok h1 h2 (by first | exact .inl h3 | exact .inr h4)
 have hmem:=h.mem
 generalize hnx:xl.length=nx at *
 have P12:Hid (∀ w1,Gb (w.alloc (.cells #[.int .i64 xi,.slice ua nx uc] 45)).drew w1->∀ w2,TOut Iq w1 tb m C F (delRw rs xi) w2->((fun W=>W.cell? ⟨w.heap.size,0,none⟩=some (.int .i64 xi)/\W.cell? ⟨w.heap.size,1,none⟩=some (.slice ua nx uc)) w2.drew) /\
   (Calls Tryz.prog 43 #[.slice ua nx uc] w2.drew fun e w'=>∃ v',e=.returned v'/\Own w' w2.drew.heap.size v' xl/\Gb w2.drew w') /\
   Hid (∀ w3 v',Own w3 w2.drew.heap.size v' xl->Gb w2.drew w3->∃ va vc,v'=.slice va nx vc/\(Calls Tryz.prog 42 #[.pointer (some ⟨tb,0,none⟩),.agg #[.int .i64 xi,.slice va nx vc]] w3 fun e w'=>e=.returned (.tuple #[])/\Hid (TOut Iq w tb m C F (putRw rs (xi,xl)) w'/\(fun W=>W.cell? ⟨w.heap.size,0,none⟩=some (.int .i64 xi)/\W.cell? ⟨w.heap.size,1,none⟩=some (.slice ua nx uc)) w')))):=by
  intro w1 g1 w2 hO
  have gw1:Gb w w1:=gb_trans G0.out g1
  have s1:=g1.size
  rw [World.size_drew,World.size_alloc] at s1
  obtain ⟨F2,t2,l2,k2⟩:=hO
  have rbF:w.heap.size ∉ F:=fun e=>by have:=hmem.2 _ e;omega
  have z:∀ i y,(w.alloc (.cells #[.int .i64 xi,.slice ua nx uc] 45)).drew.cell? ⟨w.heap.size,i,none⟩=some y->w2.cell? ⟨w.heap.size,i,none⟩=some y:=fun i y hc=>k2.cell (gb_keeps g1 hc) rbF
  have hu2:RdI w2 (.slice ua nx uc) xl:=rdi_kp (hu.gb gw1) k2 (fun b o n c e=>huF b o n c e)
  have gd:Gb w2 w2.drew:=(Below.refl _ _).drew
  have s2:=k2.size
  have rbF2:w.heap.size ∉ F2:=fun e=>by
   rcases l2 _ e with h | h
   ·exact rbF h
   ·omega
  have z0:=z 0 (.int .i64 xi) (by simp [go_sem])
  have z1:=z 1 (.slice ua nx uc) (by simp [go_sem])
  refine ⟨⟨z0,z1⟩,clone_c (hu2.gb gd) (by omega) (by omega),?_⟩
  intro w3 v' ho g3
  obtain ⟨va,vc,ev,_⟩:=ho.rd
  rw [hnx] at ev
  subst ev
  refine ⟨va,vc,rfl,?_⟩
  have hdl:(delRw rs xi).length < 512:=by have:=hpr.few;rw [List.length_append] at this;simp at this;omega
  have hdn:hasId (delRw rs xi) xi=false:=by
   unfold hasId
   rw [List.any_eq_false]
   intro y hy
   have:=(List.mem_filter.1 hy).2
   simpa using this
  refine (add_c (t2.gb (gb_trans gd g3)) (OwnQ.new ho t2.up (Nat.le_refl _)) h1 h2 hdn hdl).mono ?_
  rintro e w4 ⟨rfl,h4⟩
  have kF:Tk.Kp (fun k=>k ∈ F) w w3:=((Tk.Kp.of_gr gw1).trans k2).trans (Tk.Kp.of_gr (gb_trans gd g3))
  refine ⟨rfl,TOut.trans kF (fun y hy=>?_) h4,?_⟩
  ·rcases l2 y hy with h | h
   ·exact .inl h
   ·exact .inr (by omega)
  ·obtain ⟨F4,_,_,k4⟩:=h4
   exact ⟨k4.cell (gb_keeps (gb_trans gd g3) z0) rbF2,k4.cell (gb_keeps (gb_trans gd g3) z1) rbF2⟩
 have FS5:(fun W=>W.cell? ⟨w.heap.size,1,none⟩=some (.slice ua nx uc)/\W.cell? ⟨tb,0,none⟩=some (.int .i64 (m:Int))) (w.alloc (.cells #[.int .i64 xi,.slice ua nx uc] 45)).drew:=⟨by simp [go_sem],c0'⟩
 obtain ⟨h1a,h1b⟩:=(okId_iff xi).1 h1
 have h1c:¬ xi < 1:=by omega
 have h1d:¬ 1000000000 < xi:=by omega
 have BX:Hid ((w.alloc (.cells #[.int .i64 xi,.slice ua nx uc] 45)).drew.cell? ⟨w.heap.size,0,none⟩=some (.int .i64 xi)):=by unfold Hid;simp [go_sem]
 generalize rs.length=n at *
 rw [h3]
 clear gA hu h h1 h2 h3 c0 c0' o eF c3 hpk hpr hok hmem hxl hid huF
 go_enter Tryz.func19,Tryz.ntmps19
 go_wp2_with fail
 refine wp_region_held_drew (S:=fun W=>W.cell? ⟨w.heap.size,1,none⟩=some (.slice ua nx uc)/\W.cell? ⟨tb,0,none⟩=some (.int .i64 (m:Int))) (by kernel_rfl) (FS5) (fun hHeld=>?_)
 refine tkn 0 ?_ rfl ?_ ?_;rotate_left;·(rintro w ⟨s0,s1⟩;go_simp;try rfl)
 refine tkn 1 ?_ rfl ?_ ?_;rotate_left;·(rintro w ⟨s0,s1⟩;go_simp;try rfl)
 refine tkn 2 ?_ rfl ?_ ?_;rotate_left;·(rintro w ⟨s0,s1⟩;go_simp;try rfl)
 refine tkn 3 ?_ rfl ?_ ?_;rotate_left;·(rintro w ⟨s0,s1⟩;go_simp;try rfl)
 refine tkn 4 ?_ rfl ?_ ?_;rotate_left;·(rintro w ⟨s0,s1⟩;go_simp;try rfl)
 refine tkn 5 ?_ rfl ?_ ?_;rotate_left;·(rintro w ⟨s0,s1⟩;go_simp;try rfl)
 refine rdn 6 rfl (fun K hK=>?_)
 go_simp
 go_fit cK
 rintro e w5 ⟨rfl,rfl⟩
 refine hK.out _ _ (⟨hHeld.1,hHeld.2⟩) (fun hHeld=>?_)
 clear hK K
 refine tkn 7 ?_ rfl ?_ ?_;rotate_left;·(rintro w ⟨s0,s1⟩;go_simp;try rfl)
 refine wpAnyH_done (by kernel_rfl) ?_ _
 clear hHeld FS5 cK
 go_wp2_with fail
 refine wp_region_held_drew (S:=fun W=>Gb (w.alloc (.cells #[.int .i64 xi,.slice ua nx uc] 45)).drew W) (by kernel_rfl) ((Below.refl _ _).drew) (fun hHeld=>?_)
 refine tkn 0 ?_ rfl ?_ ?_;rotate_left;·(intro w hSw;(obtain ⟨y3,ylk,_⟩:=LK.out w (gb_trans G0.out hSw);have y0:=gb_keeps hSw BX.out);go_simp;try rfl)
 refine tkn 1 ?_ rfl ?_ ?_;rotate_left;·(intro w hSw;(obtain ⟨y3,ylk,_⟩:=LK.out w (gb_trans G0.out hSw);have y0:=gb_keeps hSw BX.out);go_simp;try rfl)
 refine tkn 2 ?_ rfl ?_ ?_;rotate_left;·(intro w hSw;(obtain ⟨y3,ylk,_⟩:=LK.out w (gb_trans G0.out hSw);have y0:=gb_keeps hSw BX.out);go_simp;try rfl)
 refine tkn 3 ?_ rfl ?_ ?_;rotate_left;·(intro w hSw;(obtain ⟨y3,ylk,_⟩:=LK.out w (gb_trans G0.out hSw);have y0:=gb_keeps hSw BX.out);go_simp;try rfl)
 refine tkn 4 ?_ rfl ?_ ?_;rotate_left;·(intro w hSw;(obtain ⟨y3,ylk,_⟩:=LK.out w (gb_trans G0.out hSw);have y0:=gb_keeps hSw BX.out);go_simp;try rfl)
 refine tkn 5 ?_ rfl ?_ ?_;rotate_left;·(intro w hSw;(obtain ⟨y3,ylk,_⟩:=LK.out w (gb_trans G0.out hSw);have y0:=gb_keeps hSw BX.out);go_simp;try rfl)
 refine tkn 6 ?_ rfl ?_ ?_;rotate_left;·(intro w hSw;(obtain ⟨y3,ylk,_⟩:=LK.out w (gb_trans G0.out hSw);have y0:=gb_keeps hSw BX.out);go_simp;try rfl)
 refine tkn 7 ?_ rfl ?_ ?_;rotate_left;·(intro w hSw;(obtain ⟨y3,ylk,_⟩:=LK.out w (gb_trans G0.out hSw);have y0:=gb_keeps hSw BX.out);go_simp;try rfl)
 refine tkn 8 ?_ rfl ?_ ?_;rotate_left;·(intro w hSw;(obtain ⟨y3,ylk,_⟩:=LK.out w (gb_trans G0.out hSw);have y0:=gb_keeps hSw BX.out);go_simp;try rfl)
 refine tkn 9 ?_ rfl ?_ ?_;rotate_left;·(intro w hSw;(obtain ⟨y3,ylk,_⟩:=LK.out w (gb_trans G0.out hSw);have y0:=gb_keeps hSw BX.out);go_simp;try rfl)
 refine tkn 10 ?_ rfl ?_ ?_;rotate_left;·(intro w hSw;(obtain ⟨y3,ylk,_⟩:=LK.out w (gb_trans G0.out hSw);have y0:=gb_keeps hSw BX.out);go_simp;try rfl)
 refine tkn 11 ?_ rfl ?_ ?_;rotate_left;·(intro w hSw;(obtain ⟨y3,ylk,_⟩:=LK.out w (gb_trans G0.out hSw);have y0:=gb_keeps hSw BX.out);go_simp;try rfl)
 refine wpAnyH_done (by kernel_rfl) ?_ _
 have G2:Hid (Gb w _):=gb_trans G0.out hHeld
 have G3:Hid (Gb (w.alloc (.cells #[.int .i64 xi,.slice ua nx uc] 45)).drew _):=hHeld
 obtain ⟨y3,_,yln⟩:=LK.out _ G2.out
 have y0:=gb_keeps hHeld BX.out
 have R:=CR.out _ G2.out
 clear LK BX hHeld CR
 go_wp2_with fail
 go_fit R
 rintro e w2 ⟨rfl,hO⟩
 obtain ⟨FS12,cC,AD⟩:=P12.out _ G3.out w2 hO
 have AX:Hid _:=AD
 clear P12 hO R y0 y3 yln AD
 go_wp2_with fail
 refine wp_region_held_drew (S:=fun W=>W.cell? ⟨w.heap.size,0,none⟩=some (.int .i64 xi)/\W.cell? ⟨w.heap.size,1,none⟩=some (.slice ua nx uc)) (by kernel_rfl) (FS12) (fun hHeld=>?_)
 refine tkn 0 ?_ rfl ?_ ?_;rotate_left;·(rintro w ⟨s0,s1⟩;go_simp;try rfl)
 refine tkn 1 ?_ rfl ?_ ?_;rotate_left;·(rintro w ⟨s0,s1⟩;go_simp;try rfl)
 refine tkn 2 ?_ rfl ?_ ?_;rotate_left;·(rintro w ⟨s0,s1⟩;go_simp;try rfl)
 refine tkn 3 ?_ rfl ?_ ?_;rotate_left;·(rintro w ⟨s0,s1⟩;go_simp;try rfl)
 refine tkn 4 ?_ rfl ?_ ?_;rotate_left;·(rintro w ⟨s0,s1⟩;go_simp;try rfl)
 refine rdn 5 rfl (fun K hK=>?_)
 go_simp
 go_fit cC
 rintro e w3 ⟨v',rfl,ho,g3⟩
 obtain ⟨va,vc,rfl,cA⟩:=AX.out w3 v' ho g3
 clear cC AX ho
 refine hK.out _ _ (⟨gb_keeps g3 hHeld.1,gb_keeps g3 hHeld.2⟩) (fun hHeld=>?_)
 clear hK K
 refine tkn 6 ?_ rfl ?_ ?_;rotate_left;·(rintro w ⟨s0,s1⟩;go_simp;try rfl)
 refine rdn 7 rfl (fun K hK=>?_)
 go_simp
 go_fit cA
 rintro e w4 ⟨rfl,hT⟩
 have TT:Hid _:=hT.out.1
 have CC:=hT.out.2
 clear cA hT g3
 refine hK.out _ _ (CC) (fun hHeld=>?_)
 clear hK K
 refine wpAnyH_done (by kernel_rfl) ?_ _
 clear hHeld CC FS12
 go_wp2
 refine bodyPost_ret (v:=.tuple #[.bool (!true),.int .i64 0]) (by simp [results,Tryz.results19,go_sem]) rfl ?_
 exact ⟨rfl,TT.out⟩
theorem put_okF {Iq:Nat->Prop} {w:World} {tb m:Nat} {C:Vs} {rs:List Rw} {F:List Nat} {xi:Int} {u:Value} {xl:List Int} (h:TreeAt Iq w tb m C rs F) (hu:RdI w u xl) (huF:∀ b o n c,u=.slice (some ⟨b,o,none⟩) n c->b ∉ F) (h1:okId xi=true) (h2:chk xl (m:Int)=0) (h3:hasId rs xi=false) (h4:rs.length < 512) :
  Calls Tryz.prog 19 #[.pointer (some ⟨tb,0,none⟩),.agg #[.int .i64 xi,u]] w fun e w'=>e=.returned (.tuple #[.bool (!hasId rs xi),.int .i64 0])/\TOut Iq w tb m C F (putRw rs (xi,xl)) w':=by
 obtain ⟨ua,uc,eu,_⟩:=hu.rd0
 subst eu
 have gA:Gb w (w.alloc (.cells #[.int .i64 xi,.slice ua xl.length uc] 45)):=gb_alloc (Below.refl _ _) _
 have cK:=check_v (hu.gb gA.drew) (m:Int) 0 h2
 obtain ⟨gc,cc,lb,pb,ks,pk,f,pf,G,o,eF⟩:=h.opn
 obtain ⟨c0,_,_,c3⟩:=o.cells
 have c0':=gb_keeps gA.drew c0
 have G0:Hid _:=gA.drew
 have hpk:xi ∈ pk ↔ hasId rs xi=true:=by
  rw [o.pkk xi]
  unfold idsOf hasId
  rw [List.mem_map,List.any_eq_true]
  constructor
  ·rintro ⟨r,hr,e⟩
   exact ⟨r,hr,by simpa using e⟩
  ·rintro ⟨r,hr,e⟩
   exact ⟨r,hr,by simpa using e⟩
 have LK:Hid (∀ W,Gb w W->W.cell? ⟨tb,3,none⟩=some (.map (some pb))/\(Instr.lookup 72 (.map (some pb)) (.int .i64 xi) true).run Tryz.prog W=.ok (.tuple #[.int .i64 (if xi ∈ pk then pf xi else 0),.bool false]) W/\(Builtin.len_ #[72] 3 #[.map (some pb)]).run Tryz.prog W=.ok (.int .i64 (rs.length:Int)) W):=fun W g=>by
  have mW:=o.plc.same (g.block _ o.plc.lt)
  refine ⟨gb_keeps g c3,?_,?_⟩
  ·have:=mW.look_ok (t:=72) Tryz.underlying3 Tryz.underlying72 (zeroInt W) (x:=xi) ⟨by have:=(okId_iff xi).1 h1;omega,by have:=(okId_iff xi).1 h1;omega⟩
   rw [this]
   have hn:decide (xi ∈ pk)=false:=by
    first | exact decide_eq_true (hpk.2 h3) | exact decide_eq_false (fun e=>by rw [hpk,h3] at e;cases e)
   rw [hn]
   by_cases hm:xi ∈ pk
   ·rw [if_pos hm,if_pos hm]
   ·rw [if_neg hm,if_neg hm]
  ·have:=mW.len (t:=72) Tryz.underlying72 3
   rw [o.pkl] at this
   exact this
 generalize (if xi ∈ pk then pf xi else 0)=zz at *
 have hid:KWf xi:=⟨by have:=(okId_iff xi).1 h1;omega,by have:=(okId_iff xi).1 h1;omega⟩
 have hxl:=chk_ok h2
 have CR:Hid (∀ w1,Gb w w1->Calls Tryz.prog 35 #[.pointer (some ⟨tb,0,none⟩),.int .i64 xi] w1 fun e w'=>e=.returned (.bool false)/\TOut Iq w1 tb m C F (delRw rs xi) w'):=fun w1 g=>by
  have:=remove_c (h.gb g) xi hid
  rw [h3] at this
  exact this
 have hok:=h.rok.1
 have hpr:=put_rows (r:=(xi,xl)) hok h1 h2 (by first | exact .inl h3 | exact .inr h4)
 have hmem:=h.mem
 generalize hnx:xl.length=nx at *
 have P12:Hid (∀ w1,Gb (w.alloc (.cells #[.int .i64 xi,.slice ua nx uc] 45)).drew w1->∀ w2,TOut Iq w1 tb m C F (delRw rs xi) w2->((fun W=>W.cell? ⟨w.heap.size,0,none⟩=some (.int .i64 xi)/\W.cell? ⟨w.heap.size,1,none⟩=some (.slice ua nx uc)) w2.drew) /\
   (Calls Tryz.prog 43 #[.slice ua nx uc] w2.drew fun e w'=>∃ v',e=.returned v'/\Own w' w2.drew.heap.size v' xl/\Gb w2.drew w') /\
   Hid (∀ w3 v',Own w3 w2.drew.heap.size v' xl->Gb w2.drew w3->∃ va vc,v'=.slice va nx vc/\(Calls Tryz.prog 42 #[.pointer (some ⟨tb,0,none⟩),.agg #[.int .i64 xi,.slice va nx vc]] w3 fun e w'=>e=.returned (.tuple #[])/\Hid (TOut Iq w tb m C F (putRw rs (xi,xl)) w'/\(fun W=>W.cell? ⟨w.heap.size,0,none⟩=some (.int .i64 xi)/\W.cell? ⟨w.heap.size,1,none⟩=some (.slice ua nx uc)) w')))):=by
  intro w1 g1 w2 hO
  have gw1:Gb w w1:=gb_trans G0.out g1
  have s1:=g1.size
  rw [World.size_drew,World.size_alloc] at s1
  obtain ⟨F2,t2,l2,k2⟩:=hO
  have rbF:w.heap.size ∉ F:=fun e=>by have:=hmem.2 _ e;omega
  have z:∀ i y,(w.alloc (.cells #[.int .i64 xi,.slice ua nx uc] 45)).drew.cell? ⟨w.heap.size,i,none⟩=some y->w2.cell? ⟨w.heap.size,i,none⟩=some y:=fun i y hc=>k2.cell (gb_keeps g1 hc) rbF
  have hu2:RdI w2 (.slice ua nx uc) xl:=rdi_kp (hu.gb gw1) k2 (fun b o n c e=>huF b o n c e)
  have gd:Gb w2 w2.drew:=(Below.refl _ _).drew
  have s2:=k2.size
  have rbF2:w.heap.size ∉ F2:=fun e=>by
   rcases l2 _ e with h | h
   ·exact rbF h
   ·omega
  have z0:=z 0 (.int .i64 xi) (by simp [go_sem])
  have z1:=z 1 (.slice ua nx uc) (by simp [go_sem])
  refine ⟨⟨z0,z1⟩,clone_c (hu2.gb gd) (by omega) (by omega),?_⟩
  intro w3 v' ho g3
  obtain ⟨va,vc,ev,_⟩:=ho.rd
  rw [hnx] at ev
  subst ev
  refine ⟨va,vc,rfl,?_⟩
  have hdl:(delRw rs xi).length < 512:=by have:=hpr.few;rw [List.length_append] at this;simp at this;omega
  have hdn:hasId (delRw rs xi) xi=false:=by
   unfold hasId
   rw [List.any_eq_false]
   intro y hy
   have:=(List.mem_filter.1 hy).2
   simpa using this
  refine (add_c (t2.gb (gb_trans gd g3)) (OwnQ.new ho t2.up (Nat.le_refl _)) h1 h2 hdn hdl).mono ?_
  rintro e w4 ⟨rfl,h4⟩
  have kF:Tk.Kp (fun k=>k ∈ F) w w3:=((Tk.Kp.of_gr gw1).trans k2).trans (Tk.Kp.of_gr (gb_trans gd g3))
  refine ⟨rfl,TOut.trans kF (fun y hy=>?_) h4,?_⟩
  ·rcases l2 y hy with h | h
   ·exact .inl h
   ·exact .inr (by omega)
  ·obtain ⟨F4,_,_,k4⟩:=h4
   exact ⟨k4.cell (gb_keeps (gb_trans gd g3) z0) rbF2,k4.cell (gb_keeps (gb_trans gd g3) z1) rbF2⟩
 have FS5:(fun W=>W.cell? ⟨w.heap.size,1,none⟩=some (.slice ua nx uc)/\W.cell? ⟨tb,0,none⟩=some (.int .i64 (m:Int))) (w.alloc (.cells #[.int .i64 xi,.slice ua nx uc] 45)).drew:=⟨by simp [go_sem],c0'⟩
 obtain ⟨h1a,h1b⟩:=(okId_iff xi).1 h1
 have h1c:¬ xi < 1:=by omega
 have h1d:¬ 1000000000 < xi:=by omega
 have BX:Hid ((w.alloc (.cells #[.int .i64 xi,.slice ua nx uc] 45)).drew.cell? ⟨w.heap.size,0,none⟩=some (.int .i64 xi)):=by unfold Hid;simp [go_sem]
 generalize rs.length=n at *
 have h4i:¬ (512:Int)<=(n:Int):=by omega
 rw [h3]
 clear gA hu h h1 h2 h3 c0 c0' o eF c3 hpk hpr hok hmem hxl hid huF h4
 go_enter Tryz.func19,Tryz.ntmps19
 go_wp2_with fail
 refine wp_region_held_drew (S:=fun W=>W.cell? ⟨w.heap.size,1,none⟩=some (.slice ua nx uc)/\W.cell? ⟨tb,0,none⟩=some (.int .i64 (m:Int))) (by kernel_rfl) (FS5) (fun hHeld=>?_)
 refine tkn 0 ?_ rfl ?_ ?_;rotate_left;·(rintro w ⟨s0,s1⟩;go_simp;try rfl)
 refine tkn 1 ?_ rfl ?_ ?_;rotate_left;·(rintro w ⟨s0,s1⟩;go_simp;try rfl)
 refine tkn 2 ?_ rfl ?_ ?_;rotate_left;·(rintro w ⟨s0,s1⟩;go_simp;try rfl)
 refine tkn 3 ?_ rfl ?_ ?_;rotate_left;·(rintro w ⟨s0,s1⟩;go_simp;try rfl)
 refine tkn 4 ?_ rfl ?_ ?_;rotate_left;·(rintro w ⟨s0,s1⟩;go_simp;try rfl)
 refine tkn 5 ?_ rfl ?_ ?_;rotate_left;·(rintro w ⟨s0,s1⟩;go_simp;try rfl)
 refine rdn 6 rfl (fun K hK=>?_)
 go_simp
 go_fit cK
 rintro e w5 ⟨rfl,rfl⟩
 refine hK.out _ _ (⟨hHeld.1,hHeld.2⟩) (fun hHeld=>?_)
 clear hK K
 refine tkn 7 ?_ rfl ?_ ?_;rotate_left;·(rintro w ⟨s0,s1⟩;go_simp;try rfl)
 refine wpAnyH_done (by kernel_rfl) ?_ _
 clear hHeld FS5 cK
 go_wp2_with fail
 refine wp_region_held_drew (S:=fun W=>Gb (w.alloc (.cells #[.int .i64 xi,.slice ua nx uc] 45)).drew W) (by kernel_rfl) ((Below.refl _ _).drew) (fun hHeld=>?_)
 refine tkn 0 ?_ rfl ?_ ?_;rotate_left;·(intro w hSw;(obtain ⟨y3,ylk,_⟩:=LK.out w (gb_trans G0.out hSw);have y0:=gb_keeps hSw BX.out);go_simp;try rfl)
 refine tkn 1 ?_ rfl ?_ ?_;rotate_left;·(intro w hSw;(obtain ⟨y3,ylk,_⟩:=LK.out w (gb_trans G0.out hSw);have y0:=gb_keeps hSw BX.out);go_simp;try rfl)
 refine tkn 2 ?_ rfl ?_ ?_;rotate_left;·(intro w hSw;(obtain ⟨y3,ylk,_⟩:=LK.out w (gb_trans G0.out hSw);have y0:=gb_keeps hSw BX.out);go_simp;try rfl)
 refine tkn 3 ?_ rfl ?_ ?_;rotate_left;·(intro w hSw;(obtain ⟨y3,ylk,_⟩:=LK.out w (gb_trans G0.out hSw);have y0:=gb_keeps hSw BX.out);go_simp;try rfl)
 refine tkn 4 ?_ rfl ?_ ?_;rotate_left;·(intro w hSw;(obtain ⟨y3,ylk,_⟩:=LK.out w (gb_trans G0.out hSw);have y0:=gb_keeps hSw BX.out);go_simp;try rfl)
 refine tkn 5 ?_ rfl ?_ ?_;rotate_left;·(intro w hSw;(obtain ⟨y3,ylk,_⟩:=LK.out w (gb_trans G0.out hSw);have y0:=gb_keeps hSw BX.out);go_simp;try rfl)
 refine tkn 6 ?_ rfl ?_ ?_;rotate_left;·(intro w hSw;(obtain ⟨y3,ylk,_⟩:=LK.out w (gb_trans G0.out hSw);have y0:=gb_keeps hSw BX.out);go_simp;try rfl)
 refine tkn 7 ?_ rfl ?_ ?_;rotate_left;·(intro w hSw;(obtain ⟨y3,ylk,_⟩:=LK.out w (gb_trans G0.out hSw);have y0:=gb_keeps hSw BX.out);go_simp;try rfl)
 refine tkn 8 ?_ rfl ?_ ?_;rotate_left;·(intro w hSw;(obtain ⟨y3,ylk,_⟩:=LK.out w (gb_trans G0.out hSw);have y0:=gb_keeps hSw BX.out);go_simp;try rfl)
 refine tkn 9 ?_ rfl ?_ ?_;rotate_left;·(intro w hSw;(obtain ⟨y3,ylk,_⟩:=LK.out w (gb_trans G0.out hSw);have y0:=gb_keeps hSw BX.out);go_simp;try rfl)
 refine tkn 10 ?_ rfl ?_ ?_;rotate_left;·(intro w hSw;(obtain ⟨y3,ylk,_⟩:=LK.out w (gb_trans G0.out hSw);have y0:=gb_keeps hSw BX.out);go_simp;try rfl)
 refine tkn 11 ?_ rfl ?_ ?_;rotate_left;·(intro w hSw;(obtain ⟨y3,ylk,_⟩:=LK.out w (gb_trans G0.out hSw);have y0:=gb_keeps hSw BX.out);go_simp;try rfl)
 refine wpAnyH_done (by kernel_rfl) ?_ _
 have G2:Hid (Gb w _):=gb_trans G0.out hHeld
 have G3:Hid (Gb (w.alloc (.cells #[.int .i64 xi,.slice ua nx uc] 45)).drew _):=hHeld
 obtain ⟨y3,_,yln⟩:=LK.out _ G2.out
 have y0:=gb_keeps hHeld BX.out
 have R:=CR.out _ G2.out
 clear LK BX hHeld CR
 go_wp2_with fail
 go_fit R
 rintro e w2 ⟨rfl,hO⟩
 obtain ⟨FS12,cC,AD⟩:=P12.out _ G3.out w2 hO
 have AX:Hid _:=AD
 clear P12 hO R y0 y3 yln AD
 go_wp2_with fail
 refine wp_region_held_drew (S:=fun W=>W.cell? ⟨w.heap.size,0,none⟩=some (.int .i64 xi)/\W.cell? ⟨w.heap.size,1,none⟩=some (.slice ua nx uc)) (by kernel_rfl) (FS12) (fun hHeld=>?_)
 refine tkn 0 ?_ rfl ?_ ?_;rotate_left;·(rintro w ⟨s0,s1⟩;go_simp;try rfl)
 refine tkn 1 ?_ rfl ?_ ?_;rotate_left;·(rintro w ⟨s0,s1⟩;go_simp;try rfl)
 refine tkn 2 ?_ rfl ?_ ?_;rotate_left;·(rintro w ⟨s0,s1⟩;go_simp;try rfl)
 refine tkn 3 ?_ rfl ?_ ?_;rotate_left;·(rintro w ⟨s0,s1⟩;go_simp;try rfl)
 refine tkn 4 ?_ rfl ?_ ?_;rotate_left;·(rintro w ⟨s0,s1⟩;go_simp;try rfl)
 refine rdn 5 rfl (fun K hK=>?_)
 go_simp
 go_fit cC
 rintro e w3 ⟨v',rfl,ho,g3⟩
 obtain ⟨va,vc,rfl,cA⟩:=AX.out w3 v' ho g3
 clear cC AX ho
 refine hK.out _ _ (⟨gb_keeps g3 hHeld.1,gb_keeps g3 hHeld.2⟩) (fun hHeld=>?_)
 clear hK K
 refine tkn 6 ?_ rfl ?_ ?_;rotate_left;·(rintro w ⟨s0,s1⟩;go_simp;try rfl)
 refine rdn 7 rfl (fun K hK=>?_)
 go_simp
 go_fit cA
 rintro e w4 ⟨rfl,hT⟩
 have TT:Hid _:=hT.out.1
 have CC:=hT.out.2
 clear cA hT g3
 refine hK.out _ _ (CC) (fun hHeld=>?_)
 clear hK K
 refine wpAnyH_done (by kernel_rfl) ?_ _
 clear hHeld CC FS12
 go_wp2
 refine bodyPost_ret (v:=.tuple #[.bool (!false),.int .i64 0]) (by simp [results,Tryz.results19,go_sem]) rfl ?_
 exact ⟨rfl,TT.out⟩
theorem put_c {Iq:Nat->Prop} {w:World} {tb m:Nat} {C:Vs} {rs:List Rw} {F:List Nat} {xi:Int} {u:Value} {xl:List Int} (h:TreeAt Iq w tb m C rs F) (hu:RdI w u xl) (huF:∀ b o n c,u=.slice (some ⟨b,o,none⟩) n c->b ∉ F) :
  Calls Tryz.prog 19 #[.pointer (some ⟨tb,0,none⟩),.agg #[.int .i64 xi,u]] w fun e w'=>e=.returned (.tuple #[.bool (decide (putE m rs (xi,xl)=0) && !hasId rs xi),.int .i64 (putE m rs (xi,xl))])/\TOut Iq w tb m C F (if putE m rs (xi,xl)=0 then putRw rs (xi,xl) else rs) w':=by
 have no:∀ e0:Int,e0 ≠ 0->putE m rs (xi,xl)=e0->(Calls Tryz.prog 19 #[.pointer (some ⟨tb,0,none⟩),.agg #[.int .i64 xi,u]] w fun e w'=>e=.returned (.tuple #[.bool false,.int .i64 e0])/\Gb w w')->Calls Tryz.prog 19 #[.pointer (some ⟨tb,0,none⟩),.agg #[.int .i64 xi,u]] w fun e w'=>e=.returned (.tuple #[.bool (decide (putE m rs (xi,xl)=0) && !hasId rs xi),.int .i64 (putE m rs (xi,xl))])/\TOut Iq w tb m C F (if putE m rs (xi,xl)=0 then putRw rs (xi,xl) else rs) w':=by
  intro e0 h0 he c
  refine c.mono ?_
  rintro e w' ⟨rfl,g⟩
  rw [he,if_neg h0,decide_eq_false h0]
  exact ⟨rfl,F,h.gb g,fun y hy=>.inl hy,Tk.Kp.of_gr g⟩
 by_cases h1:okId xi=true
 ·by_cases h2:chk xl (m:Int)=0
  ·by_cases h3:hasId rs xi=false/\512<=rs.length
   ·exact no 2 (by decide) (by unfold putE;rw [if_pos h1,if_pos h2,if_pos h3]) (put_long h hu h1 h2 h3.1 h3.2)
   ·have he:putE m rs (xi,xl)=0:=by unfold putE;rw [if_pos h1,if_pos h2,if_neg h3]
    rw [he,if_pos rfl,decide_eq_true rfl,Bool.true_and]
    by_cases hb:hasId rs xi=true
    ·exact put_okT h hu huF h1 h2 hb
    ·exact put_okF h hu huF h1 h2 (Bool.eq_false_iff.2 hb) (by rcases Nat.lt_or_ge rs.length 512 with c | c;exact c;exact absurd ⟨Bool.eq_false_iff.2 hb,c⟩ h3)
  ·exact no _ h2 (by unfold putE;rw [if_pos h1,if_neg h2]) (put_chk h hu h1 rfl h2)
 ·exact no 50 (by decide) (by unfold putE;rw [if_neg h1]) (put_id h hu (Bool.eq_false_iff.2 h1))
end Go.Proofs.YtcipdampcmfmaabGreat
