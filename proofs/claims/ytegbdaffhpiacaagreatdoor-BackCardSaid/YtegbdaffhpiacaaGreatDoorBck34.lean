/- A range over a function that keeps what it has still to give in a block of its own, and whose rounds are never left early; Sets of marks: All, as a function that a range goes over; Plain: what is fixed of a theory, made of the program's rows of terms and atoms; A theory in memory: za9. -/
import Derived.Test.YtegbdaffhpiacaaGreatDoorBck28
import Derived.Test.YtegbdaffhpiacaaGreatDoorBck26
namespace Go.Proofs.YtegbdaffhpiacaaGreatDoor
open Go.RowKit Ar
theorem zG7 (W:World) {l:Nat} (o:Obj):q9 (fun k=>k=l) W (W.putObj l o) :=
 ⟨rfl,rfl,rfl,by simp [World.putObj],fun k _ hn=>World.putObj_heap_other hn⟩
def qh9 {α:Type} (P:Program) (n gf:Nat) (lb:Array Value) (encs : α->Array Value) (p:Nat) (xs:List α) (w:World):Prop :=
 ∀ (l:Nat) (J:List α->World->Prop) (W:World),q9 (fun _=>False) w W->(∀ pre A B,J pre A->q9 (fun k=>k=p) A B->J pre B) ->
  (∀ pre x A,J pre A->pre++[x] <+: xs->YieldAt Fence.wide (n - 1) P l (encs x) A fun e B=>e=.returned (.bool true)/\J (pre++[x]) B/\B.heap[p]?=A.heap[p]?) ->
  J [] W->CallsIn Fence.wide n P gf (#[.func (.yield l) #[] #[]]++lb) W fun e B=>(∃ v,e=.returned v)/\J xs B
theorem zO7 {α:Type} {P:Program} {n:Nat} {g:Operand} {ps:Array Tmp} {assign body:Code} {Q:Exit->Act->World->Prop} {a:Act} {w:World} (h1:1<=n) {gf:Nat} {lb:Array Value}
  (hg:a.eval g=.func (.func gf) #[] lb) (eg:∀ args w,(callFunc gf args).run P w=.ok (.enter gf args) w) {encs : α->Array Value} (hps:∀ x,(encs x).size=ps.size) {p:Nat} {xs:List α} (hp:p < w.heap.size)
  (hseq:qh9 P (n - 1) gf lb encs p xs w) (I:List α->World->Prop) (hIp:∀ pre A B,I pre A->q9 (fun k=>k=p) A B->I pre B)
  (hIl:∀ (pre:List α) (A:World) (l:Nat) (o o':Obj),I pre A->w.heap.size<=l->A.heap[l]?=some o->o.isCells=false->I pre (A.putObj l o')) (h0:I [] w) (a₁ : α->Act)
  (hassign:∀ (l:Nat) (x : α) (W:World) (K:Act->World->Prop),K (a₁ x) W ->
   assign.wpIn (Fence.wide.inRound l) (n - 1 - 1) P (Exit.then K (fun _ _ _=>False)) { tmps:=(ps.zip (encs x)).foldl (fun t (p,v)=>t.setIfInBounds p v) a.tmps,defers:=[] } W)
  (hbody:∀ (l:Nat) (pre:List α) (x : α) (W:World),I pre W->pre++[x] <+: xs->body.wpIn (Fence.wide.inRound l) (n - 1 - 1) P (fun e _ B=>e=.normal/\KeepsOthers W B/\B.heap[p]?=W.heap[p]?/\I (pre++[x]) B) (a₁ x) W)
  (hdone:∀ (D:Nat) (W:World),w.heap.size<=D->I xs W->W.heap[D]?=some (.deferred (some []))->Q .normal { a with defers := { target:=.collected D,args:=#[] } :: a.defers } W) :
  (Code.rangeFunc g ps assign body).wpIn Fence.wide n P Q a w:=by
 refine wpIn_rangeFunc fun fn hfn=>?_
 obtain ⟨R,hR⟩:∃ R:LoopState->Loop,R=fun st => { state:=st,pending:=none,fn,tmps:=a.tmps,params:=ps,assign,body,defers:=w.heap.size }:=⟨_,rfl⟩
 have hRp:∀ st,(R st).params=ps/\(R st).state=st/\(R st).pending=none:=fun st=>by rw [hR];exact ⟨rfl,rfl,rfl⟩
 have hRs:∀ st st',{ R st with state:=st',pending:=none } = R st' /\ { R st with state:=st' } = R st':=fun st st'=>by rw [hR];exact ⟨rfl,rfl⟩
 have hx0:q9 (fun _=>False) w ((w.alloc (.deferred (some []))).alloc (.loop (R .ready))):=((q9.refl _ w).alloc _).alloc _
 have hD0:((w.alloc (.deferred (some []))).alloc (.loop (R .ready))).heap[w.heap.size]?=some (.deferred (some [])):=by
  rw [heap_alloc_old _ _ (by simp)];exact heap_alloc_new w _
 have hL0:((w.alloc (.deferred (some []))).alloc (.loop (R .ready))).heap[w.heap.size+1]?=some (.loop (R .ready)):=by
  have:=heap_alloc_new (w.alloc (.deferred (some []))) (.loop (R .ready))
  simpa using this
 have hI0:I [] ((w.alloc (.deferred (some []))).alloc (.loop (R .ready))):=hIp _ _ _ h0 (hx0.mono (fun _ _ f=>f.elim))
 obtain ⟨W1,hW1⟩:∃ W1,(w.alloc (.deferred (some []))).alloc (.loop (R .ready))=W1:=⟨_,rfl⟩
 refine ⟨w.heap.size+1,[{ target:=.collected w.heap.size,args:=#[] }],W1,{ target:=.fn (.func gf) lb,args:=#[.func (.yield (w.heap.size+1)) #[] #[]] },W1,gf,#[.func (.yield (w.heap.size+1)) #[] #[]]++lb,W1,?_,?_,?_,?_,fun _=>h1,?_⟩
 ·rw [<- hW1,hR];exact run_enterLoop_outer _ _ _ _ _
 ·simp only [resolve,hg];simp [go_sem]
 ·intro f' hf';simp [Target.leads] at hf';subst hf';trivial
 ·simp [invoke,go_sem,eg]
 rw [hW1] at hx0 hD0 hL0 hI0
 refine (hseq (w.heap.size+1) (fun pre W=>I pre W/\W.heap[w.heap.size+1]?=some (.loop (R .ready))/\W.heap[w.heap.size]?=some (.deferred (some []))) W1 hx0 ?_ ?_ ⟨hI0,hL0,hD0⟩).mono ?_
 ·rintro pre A B ⟨q1,q2,q3⟩ hx
  exact ⟨hIp pre A B q1 hx,(hx.block _ (z8 q2) (by omega)).trans q2,(hx.block _ (z8 q3) (by omega)).trans q3⟩
 ·rintro pre x A ⟨q1,q2,q3⟩ hpre
  have hy:=run_yield (P:=P) (args:=encs x) q2 (by rw [(hRp _).1];exact hps x)
  have hbg:=run_beginRound (P:=P) q2 (hRp _).2.1
  rw [(hRs _ _).2] at hbg
  have hlt:=z8 q2
  have k2:(A.putObj (w.heap.size+1) (.loop (R .busy))).heap[w.heap.size+1]?=some (.loop (R .busy)):=World.putObj_heap_same hlt
  have k3:(A.putObj (w.heap.size+1) (.loop (R .busy))).heap[w.heap.size]?=some (.deferred (some [])):=(World.putObj_heap_other (by omega)).trans q3
  have kp:(A.putObj (w.heap.size+1) (.loop (R .busy))).heap[p]?=A.heap[p]?:=World.putObj_heap_other (by omega)
  have hbd:=hbody (w.heap.size+1) pre x _ (hIl pre A (w.heap.size+1) _ (.loop (R .busy)) q1 (by omega) q2 rfl) hpre
  rw [hR] at hy
  refine ⟨fn,_,assign,body,hy,roundIn_of_wpIn hfn (hassign _ x A _ ⟨_,hbg,wpIn_mono hbd ?_⟩)⟩
  rintro e a3 B ⟨rfl,hko,hpp,hIB⟩
  have z2:=hko.same _ _ k2 rfl
  have z3:=hko.same _ _ k3 rfl
  have hend:=run_endRound (P:=P) none z2
  refine ⟨_,_,hend,rfl,⟨?_,?_,?_⟩,?_⟩
  ·exact hIl _ B _ _ _ hIB (by omega) z2 rfl
  ·rw [World.putObj_heap_same (z8 z2)]
   simp only [Option.isNone_none,if_pos]
   rw [(hRs _ _).1]
  ·exact (World.putObj_heap_other (by omega)).trans z3
  ·exact (World.putObj_heap_other (by omega)).trans (hpp.trans kp)
 ·rintro e B ⟨⟨v,rfl⟩,q1,q2,q3⟩
  have hend:=run_endLoop (P:=P) q2 (by rw [(hRp _).2.1];simp)
  rw [(hRp _).2.2] at hend
  exact ⟨none,_,hend,hdone _ _ (Nat.le_refl _) (hIl _ B _ _ _ q1 (by omega) q2 rfl) ((World.putObj_heap_other (by omega)).trans q3)⟩
end Go.Proofs.YtegbdaffhpiacaaGreatDoor

namespace Go.Proofs.YtegbdaffhpiacaaGreatDoor
open Go.RowKit Ar
attribute [local go_sem] Oper.semAt_some
theorem qq6 (m:M3):∃ xs:List Nat,xs.Pairwise (· > ·)/\∀ k,m.has k=true↔k∈xs:=by
 refine ⟨((List.range 192).filter (fun k=>m.has k)).reverse,?_,fun k=>?_⟩
 ·rw [List.pairwise_reverse]
  exact (List.pairwise_lt_range (n:=192)).filter _
 ·rw [List.mem_reverse,List.mem_filter,List.mem_range]
  exact ⟨fun h=>⟨M3.has_lt h,h⟩,fun h=>h.2⟩
theorem zA7 {xs:List Nat} (h:xs.Pairwise (· > ·)) {j x:Nat} (hx:xs[j]?=some x):x∈xs.drop j/\(∀ k∈xs.drop j,k<=x)/\∀ k,k∈xs.drop (j+1)↔k∈xs.drop j/\k ≠ x:=by
 have hlt:=(List.getElem?_eq_some_iff.1 hx).1
 have e:xs.drop j=x :: xs.drop (j+1):=by
  rw [List.drop_eq_getElem_cons hlt,(List.getElem?_eq_some_iff.1 hx).2]
 have hp:=h.sublist (List.drop_sublist j xs)
 rw [e] at hp ⊢
 rw [List.pairwise_cons] at hp
 refine ⟨by simp,fun k hk=>?_,fun k=>⟨fun hk=>⟨by simp [hk],fun e=>?_⟩,fun hk=>?_⟩⟩
 ·rcases List.mem_cons.1 hk with e | e
  ·omega
  ·have:=hp.1 k e;omega
 ·have:=hp.1 k hk;omega
 ·rcases List.mem_cons.1 hk.1 with e | e
  ·exact absurd e hk.2
  ·exact e
set_option maxHeartbeats 400000 in
theorem zZ0 {w:World} (m:M3):Calls Tryz.prog 181 #[m.val] w fun e w'=>∃ p,e=.returned (.func (.func 211) #[] #[.pointer (some ⟨p,0,none⟩)])/\p=w.heap.size/\q9 (fun _=>False) w w'/\w'.heap[p]?=some (.cells #[.int .u64 m.a.toNat,.int .u64 m.b.toNat,.int .u64 m.c.toNat] 197):=by
 unfold M3.val u64
 go_enter Tryz.func181,Tryz.ntmps181
 go_wp2_with fail
 go_ret
 exact ⟨_,rfl,rfl,(q9.refl _ w).alloc _,heap_alloc_new w _⟩
def qq7:Value->Bool
 | .bool b=>b
 | _=>false
set_option maxRecDepth 100000 in
set_option maxHeartbeats 1000000 in
theorem qG8 {w:World} {p:Nat} {m:M3} {xs:List Nat} (hpw:xs.Pairwise (· > ·)) (hm:∀ k,m.has k=true↔k∈xs) (kp:w.heap[p]?=some (.cells #[.int .u64 m.a.toNat,.int .u64 m.b.toNat,.int .u64 m.c.toNat] 197)) (n:Nat) (hn:1<=n) :
  qh9 Tryz.prog n 211 #[.pointer (some ⟨p,0,none⟩)] (fun x:Nat=>#[.int .i64 (x:Int)]) p xs w:=by
 intro l J W hW hst hY h0
 have kpW:=(hW.block _ (z8 kp) (fun f=>f)).trans kp
 have c0:=z6 kpW 0
 have c1:=z6 kpW 1
 have c2:=z6 kpW 2
 refine callsIn_of_wp Tryz.func211 rfl trivial ?_ rfl
 simp only [Tryz.ntmps211,List.size_toArray,List.length_cons,List.length_nil,Nat.reduceAdd,Nat.reduceSub,Array.replicate_succ,Array.replicate_zero,List.push_toArray,List.append_toArray,List.nil_append,List.cons_append]
 gi_wp2
 have HL:Hid (∀ (m':M3) (j:Nat),(∀ k,m'.has k=true↔k∈xs.drop j)->∀ W,Calls Tryz.prog 180 #[.agg #[.int .u64 m'.a.toNat,.int .u64 m'.b.toNat,.int .u64 m'.c.toNat]] W fun e w'=>e=.returned (.tuple #[.int .i64 ((xs[j]?.getD 0:Nat):Int),.bool (decide (j < xs.length))])/\q9 (fun _=>False) W w'):=by
  intro m' j hmj W
  refine (zJ1 m' W).mono ?_
  rintro e w' ⟨hx,⟨he,hno⟩ | ⟨k,he,hk,hk2⟩⟩
  ·have hj:¬j < xs.length:=fun hlt=>by
    have:=(hmj xs[j]).2 (zA7 hpw (List.getElem?_eq_getElem hlt)).1
    rw [hno] at this
    simp at this
   refine ⟨?_,hx⟩
   rw [he,decide_eq_false hj,List.getElem?_eq_none (by omega)]
   rfl
  ·have hkm:=(hmj k).1 hk
   have hj:j < xs.length:=by
    rcases Nat.lt_or_ge j xs.length with h | h
    ·exact h
    ·rw [List.drop_eq_nil_of_le h] at hkm;simp at hkm
   obtain ⟨d1,d2,_⟩:=zA7 hpw (List.getElem?_eq_getElem hj)
   have e1:k=xs[j]:=Nat.le_antisymm (d2 k hkm) (hk2 _ ((hmj _).2 d1))
   refine ⟨?_,hx⟩
   rw [he,decide_eq_true hj,e1]
   simp [hj]
 have HST:=q8 hst
 have HY:=q8 hY
 refine ⟨trivial,(callsIn_wide.2 (HL.out m 0 (by simpa using hm) W)).mono ?_⟩
 rintro e w1 ⟨rfl,hx1⟩
 have hJ1:=hst _ _ _ h0 (hx1.mono (fun _ _ f=>f.elim))
 have kp1:=(hx1.block _ (z8 kpW) (fun f=>f)).trans kpW
 have HJ1:=q8 hJ1
 have KP1:=q8 kp1
 clear hst hY hJ1 kp1 c0 c1 c2 kpW h0 hx1
 gi_wp2
 gi_loopw [3,4] (fun nv mv wr=>∃ (j:Nat) (m':M3),j<=xs.length/\nv=.int .i64 ((xs[j]?.getD 0:Nat):Int)/\mv=.bool (decide (j < xs.length))/\wr.heap[p]?=some (.cells #[.int .u64 m'.a.toNat,.int .u64 m'.b.toNat,.int .u64 m'.c.toNat] 197)/\(∀ k,m'.has k=true↔k∈xs.drop j)/\J (xs.take j) wr) (fun nv mv _=>if qq7 mv=true then (intOf nv).toNat+1 else 0)
 case atStart=>exact ⟨0,m,Nat.zero_le _,rfl,rfl,KP1.out,by simpa using hm,HJ1.out⟩
 case round =>
  obtain ⟨j,m',hj,rfl,rfl,hpr,hmj,hJr⟩:=hrel
  have HPR:=q8 hpr
  have HMJ:=q8 hmj
  have HJR:=q8 hJr
  by_cases hlt:j < xs.length
  ·obtain ⟨x,hx⟩:∃ x,xs[j]?=some x:=⟨_,List.getElem?_eq_getElem hlt⟩
   obtain ⟨dm1,dm2,dm3⟩:=zA7 hpw hx
   have hx192:x < 192:=M3.has_lt ((hmj x).2 dm1)
   have hpre:xs.take j++[x] <+: xs:=by rw [<- za4 hx];exact List.take_prefix _ _
   have e1:xs[j]?.getD 0=x:=by rw [hx];rfl
   have e2:decide (j < xs.length)=true:=decide_eq_true hlt
   rw [e1,e2]
   obtain ⟨fn,tmps,assign,body,hy,hR⟩:=HY.out (xs.take j) x wr hJr hpre
   have HX:=q8 hx
   have HE1:=q8 e1
   have HDM:=q8 (And.intro dm1 (And.intro dm2 dm3))
   clear hpr hmj hJr hx dm1 dm2 dm3 hpre e1 e2
   gi_wp2
   refine hR.mono ?_
   rintro e W3 ⟨rfl,hJ3,hp3⟩
   have kp3:=hp3.trans HPR.out
   have g0:=z6 kp3 0
   have g1:=z6 kp3 1
   have g2:=z6 kp3 2
   have HJ3:=q8 hJ3
   have KP3:=q8 kp3
   clear hJ3 hp3 kp3 hR hy
   have HOF:Hid (∀ W,Calls Tryz.prog 179 #[.int .i64 x] W fun e w'=>e=.returned (.agg #[.int .u64 (M3.of x).a.toNat,.int .u64 (M3.of x).b.toNat,.int .u64 (M3.of x).c.toNat])/\q9 (fun _=>False) W w'):=fun W=>zV5 x hx192 W
   have HWT:Hid (∀ W,Calls Tryz.prog 183 #[.agg #[.int .u64 m'.a.toNat,.int .u64 m'.b.toNat,.int .u64 m'.c.toNat],.agg #[.int .u64 (M3.of x).a.toNat,.int .u64 (M3.of x).b.toNat,.int .u64 (M3.of x).c.toNat]] W fun e w'=>e=.returned (.agg #[.int .u64 (m'.sub (M3.of x)).a.toNat,.int .u64 (m'.sub (M3.of x)).b.toNat,.int .u64 (m'.sub (M3.of x)).c.toNat])/\q9 (fun _=>False) W w'):=fun W=>qc2 m' (M3.of x) W
   have hmj1:∀ k,(m'.sub (M3.of x)).has k=true↔k∈xs.drop (j+1):=by
    intro k
    rw [M3.has_sub,HDM.out.2.2 k,<- HMJ.out k]
    simp only [Bool.and_eq_true,Bool.not_eq_true']
    refine and_congr_right fun hk=>?_
    rw [M3.has_of hx192]
    simp [eq_comm]
   have HMJ1:=q8 hmj1
   have KD:Hid (W3.drew.heap[p]?=_):=KP3
   clear hmj1
   gi_wp2
   gi_region_with (first
    | (refine ⟨trivial,?_⟩;gi_at_call 183;refine (callsIn_wide.2 (HWT.out _)).mono ?_;rintro e wb ⟨rfl,hxb⟩;have kb:=(hxb.block _ (z8 KPA.out) (fun f=>f)).trans KPA.out;have b0:=z6 kb 0;have b1:=z6 kb 1;have b2:=z6 kb 2;have bf0:=Q0 kb 0;have bf1:=Q0 kb 1;have bf2:=Q0 kb 2;have KPB:=q8 kb;have HXB:=q8 hxb;clear kb hxb)
    | (refine ⟨trivial,?_⟩;gi_at_call 179;refine (callsIn_wide.2 (HOF.out _)).mono ?_;rintro e wa ⟨rfl,hxa⟩;have ka:=(hxa.block _ (z8 KD.out) (fun f=>f)).trans KD.out;have a0:=z6 ka 0;have a1:=z6 ka 1;have a2:=z6 ka 2;have KPA:=q8 ka;have HXA:=q8 hxa;clear ka hxa)
    | fail)
   all_goals
    have hxw:q9 (fun _=>False) W3 wb:=((q9.refl (fun _=>False) W3).drew.trans HXA.out).trans HXB.out
    have hx3:=zd1 wb p (.int .u64 (m'.sub (M3.of x)).a.toNat) (.int .u64 (m'.sub (M3.of x)).b.toNat) (.int .u64 (m'.sub (M3.of x)).c.toNat)
    have hJ4:=HST.out _ _ _ HJ3.out ((hxw.mono (fun _ _ f=>f.elim)).trans' hx3 (fun _ _ e=>e))
    have kp4:(((wb.setCell ⟨p,0,none⟩ (.int .u64 (m'.sub (M3.of x)).a.toNat)).setCell ⟨p,1,none⟩ (.int .u64 (m'.sub (M3.of x)).b.toNat)).setCell ⟨p,2,none⟩ (.int .u64 (m'.sub (M3.of x)).c.toNat)).heap[p]?=some (.cells #[.int .u64 (m'.sub (M3.of x)).a.toNat,.int .u64 (m'.sub (M3.of x)).b.toNat,.int .u64 (m'.sub (M3.of x)).c.toNat] 197):=Y0 (Y0 (Y0 KPB.out 0 _) 1 _) 2 _
    obtain ⟨W4,hW4⟩:∃ W4,(((wb.setCell ⟨p,0,none⟩ (.int .u64 (m'.sub (M3.of x)).a.toNat)).setCell ⟨p,1,none⟩ (.int .u64 (m'.sub (M3.of x)).b.toNat)).setCell ⟨p,2,none⟩ (.int .u64 (m'.sub (M3.of x)).c.toNat))=W4:=⟨_,rfl⟩
    rw [hW4] at hJ4 kp4
    have p0:=z6 kp4 0
    have p1:=z6 kp4 1
    have p2:=z6 kp4 2
    have HJ4:=q8 hJ4
    have KP4:=q8 kp4
    have HW4:=q8 hW4
    clear hJ4 kp4 hW4 hx3 hxw
    gi_wp2
    rw [HW4.out]
    refine ⟨trivial,(callsIn_wide.2 (HL.out _ (j+1) HMJ1.out W4)).mono ?_⟩
    rintro e w5 ⟨rfl,hx5⟩
    have HJ5:=q8 (HST.out _ _ _ HJ4.out (hx5.mono (fun _ _ f=>f.elim)))
    have KP5:=q8 ((hx5.block _ (z8 KP4.out) (fun f=>f)).trans KP4.out)
    have hms:j+1 < xs.length->xs[j+1]?.getD 0 < x:=by
     intro hj1
     have h1:xs[j+1]?=some xs[j+1]:=List.getElem?_eq_getElem hj1
     have h2:=(zA7 hpw h1).1
     obtain ⟨h3,h4⟩:=(HDM.out.2.2 _).1 h2
     have h5:=HDM.out.2.1 _ h3
     rw [h1]
     show xs[j+1] < x
     omega
    have HMS:=q8 hms
    clear hms hx5 p0 p1 p2 HW4
    gi_wp2
    go_roundw
    case measure =>
     by_cases hj1:j+1 < xs.length
     ·have:=HMS.out hj1
      simp [qq7,intOf,hj1] at this ⊢
      omega
     ·simp [qq7,intOf,hj1]
    case rel =>
     refine ⟨j+1,_,by omega,rfl,rfl,KP5.out,HMJ1.out,?_⟩
     rw [za4 HX.out]
     exact HJ5.out
  ·have e2:decide (j < xs.length)=false:=decide_eq_false hlt
   have hjl:j=xs.length:=by omega
   rw [e2]
   clear hpr hmj hJr e2
   gi_wp2
   go_end0
   refine ⟨⟨_,rfl⟩,?_⟩
   have:=HJR.out
   rw [hjl,List.take_length] at this
   exact this
end Go.Proofs.YtegbdaffhpiacaaGreatDoor

namespace Go.Proofs.YtegbdaffhpiacaaGreatDoor
open Go.RowKit Ar
def zY4 (TK:List Z0) (f s:Nat):Bool:=match TK[f]?,TK[s]? with
 | some x,some y=>decide (0 < y.ar) && decide (y.nm=x.nm/\y.ar=x.ar)
 | _,_=>false
def ze8 (TK:List Z0) (s k:Nat):List (Nat × Nat):=((List.range k).filter (fun f=>zY4 TK f s)).map (fun f=>(f,s))
def zr1 (TK:List Z0) (k:Nat):List (Nat × Nat):=(List.range k).flatMap (fun s=>ze8 TK s s)
def zM6 (TK:List Z0):List (Nat × Nat):=zr1 TK TK.length
theorem qq4 (TK:List Z0) (s:Nat):ze8 TK s 0=[]:=rfl
theorem zo1 (TK:List Z0) (s k:Nat):ze8 TK s (k+1)=if zY4 TK k s=true then ze8 TK s k++[(k,s)] else ze8 TK s k:=by
 unfold ze8
 rw [List.range_succ,List.filter_append,List.map_append]
 split
 ·rename_i h;simp [h]
 ·rename_i h;simp [h]
theorem zT5 (TK:List Z0):zr1 TK 0=[]:=rfl
theorem zT6 (TK:List Z0) (k:Nat):zr1 TK (k+1)=zr1 TK k++ze8 TK k k:=by
 unfold zr1
 rw [List.range_succ,List.flatMap_append]
 simp
theorem zT7 (TK:List Z0) (s k:Nat):(ze8 TK s k).length<=k:=by
 unfold ze8
 rw [List.length_map]
 exact Nat.le_trans (List.length_filter_le _ _) (by simp)
theorem zM7 (TK:List Z0):∀ k,(zr1 TK k).length<=k * k
 | 0=>by simp [zT5]
 | k+1=>by
  have h1:=zM7 TK k
  have h2:=zT7 TK k k
  rw [zT6,List.length_append]
  have:(k+1) * (k+1)=k * k+k+(k+1):=by rw [Nat.add_mul,Nat.mul_add];omega
  omega
theorem zT8 {TK:List Z0} {s k:Nat} {p:Nat × Nat}:p∈ze8 TK s k↔p.2=s/\p.1 < k/\zY4 TK p.1 s=true:=by
 obtain ⟨a,b⟩:=p
 simp only [ze8,List.mem_map,List.mem_filter,List.mem_range,Prod.mk.injEq]
 constructor
 ·rintro ⟨f,⟨h1,h2⟩,rfl,rfl⟩;exact ⟨rfl,h1,h2⟩
 ·rintro ⟨rfl,h1,h2⟩;exact ⟨a,⟨h1,h2⟩,rfl,rfl⟩
theorem zY5 {TK:List Z0} {p:Nat × Nat}:p∈zM6 TK↔p.1 < p.2/\zY4 TK p.1 p.2=true:=by
 unfold zM6 zr1
 rw [List.mem_flatMap]
 constructor
 ·rintro ⟨s,_,hs⟩
  obtain ⟨rfl,h1,h2⟩:=zT8.1 hs
  exact ⟨h1,h2⟩
 ·rintro ⟨h1,h2⟩
  refine ⟨p.2,?_,zT8.2 ⟨rfl,h1,h2⟩⟩
  rw [List.mem_range]
  unfold zY4 at h2
  split at h2
  ·rename_i x y e1 e2;exact (List.getElem?_eq_some_iff.1 e2).1
  ·simp at h2
theorem qh5 {TK:List Z0} {f s:Nat} {x y:Z0} (hx:TK[f]?=some x) (hy:TK[s]?=some y):zY4 TK f s=true↔0 < y.ar/\y.nm=x.nm/\y.ar=x.ar:=by
 unfold zY4
 rw [hx,hy]
 simp
theorem zY6 {TK:List Z0} {f s:Nat} (h:zY4 TK f s=true):∃ x y,TK[f]?=some x/\TK[s]?=some y/\0 < y.ar/\y.nm=x.nm/\y.ar=x.ar:=by
 unfold zY4 at h
 split at h
 ·rename_i x y e1 e2
  simp at h
  exact ⟨x,y,e1,e2,h⟩
 ·simp at h
def numOf (TK:List Z0) (i:Nat):Option Int:=match TK[i]? with
 | some x=>if x.nm=⟨#[]⟩ then some x.v else none
 | none=>none
def zr2 (TK:List Z0) (p:Nat × Nat):List (Nat × Nat):=match TK[p.1]?,TK[p.2]? with
 | some x,some y=>(((ze7 x).zip (ze7 y)).take x.ar.toNat).map (fun z=>(z.1.toNat,z.2.toNat))
 | _,_=>[]
def grT (TK:List Z0) (m:Int):Int:=TK.foldl (fun m x=>max m (max x.v (-x.v))) m
def grA (AK:List PA) (m:Int):Int:=AK.foldl (fun m x=>max m (max x.b (-x.b))) m
def zd3 (TK:List Z0) (AK:List PA):Int:=TK.length * (grA AK (grT TK 0)+1)
def zr3 (TK:List Z0) (AK:List PA):Fx:=⟨TK.length,numOf TK,zM6 TK,zr2 TK,zd3 TK AK⟩
theorem zM8 {α:Type} (f : α->Int) (B:Int):∀ (l:List α) (m:Int),m<=B->(∀ x∈l,f x<=B)->m<=l.foldl (fun m x=>max m (f x)) m/\l.foldl (fun m x=>max m (f x)) m<=B/\∀ x∈l,f x<=l.foldl (fun m x=>max m (f x)) m
 | [],m,hm,_=>⟨by simp,by simpa using hm,by simp⟩
 | a :: l,m,hm,h=>by
  have ha:=h a (by simp)
  obtain ⟨h1,h2,h3⟩:=zM8 f B l (max m (f a)) (by omega) (fun x hx=>h x (by simp [hx]))
  simp only [List.foldl_cons]
  refine ⟨by omega,h2,fun x hx=>?_⟩
  rcases List.mem_cons.1 hx with e | e
  ·subst e;omega
  ·exact h3 x e
theorem zM9 {TK:List Z0} {m B:Int} (hm:m<=B) (h:∀ x∈TK,-B<=x.v/\x.v<=B):m<=grT TK m/\grT TK m<=B/\∀ x∈TK,x.v<=grT TK m /\ -(grT TK m)<=x.v:=by
 obtain ⟨h1,h2,h3⟩:=zM8 (fun x:Z0=>max x.v (-x.v)) B TK m hm (fun x hx=>by have:=h x hx;omega)
 refine ⟨h1,h2,fun x hx=>?_⟩
 have h4:=h3 x hx
 unfold grT
 omega
theorem zY7 {AK:List PA} {m B:Int} (hm:m<=B) (h:∀ x∈AK,-B<=x.b/\x.b<=B):m<=grA AK m/\grA AK m<=B/\∀ x∈AK,x.b<=grA AK m /\ -(grA AK m)<=x.b:=by
 obtain ⟨h1,h2,h3⟩:=zM8 (fun x:PA=>max x.b (-x.b)) B AK m hm (fun x hx=>by have:=h x hx;omega)
 refine ⟨h1,h2,fun x hx=>?_⟩
 have h4:=h3 x hx
 unfold grA
 omega
structure KOk (TK:List Z0) (AK:List PA):Prop where
 ar:∀ x∈TK,0<=x.ar/\x.ar<=3
 arg:∀ x∈TK,∀ (k:Nat) (a:Int),(k:Int) < x.ar->(ze7 x)[k]?=some a->0<=a/\a < TK.length
 v:∀ x∈TK,-1000<=x.v/\x.v<=1000
 at_:∀ x∈AK,x.at_.Ok/\x.i < TK.length/\x.j < TK.length
 b:∀ x∈AK,-1000<=x.b/\x.b<=1000
section
variable {TK:List Z0} {AK:List PA}
theorem KOk.far (h:KOk TK AK) (hT:TK.length<=12):0<=zd3 TK AK/\zd3 TK AK<=12012/\zd3 TK AK=TK.length * (grA AK (grT TK 0)+1)/\0<=grA AK (grT TK 0):=by
 obtain ⟨h1,h2,_⟩:=zM9 (m:=0) (B:=1000) (by omega) h.v
 obtain ⟨h3,h4,_⟩:=zY7 (m:=grT TK 0) (B:=1000) (by omega) h.b
 refine ⟨?_,?_,rfl,by omega⟩
 ·unfold zd3
  exact Int.mul_nonneg (by omega) (by omega)
 ·unfold zd3
  have:(TK.length:Int) * (grA AK (grT TK 0)+1)<=12 * 1001:=Int.mul_le_mul (by omega) (by omega) (by omega) (by omega)
  omega
theorem zU0 (x:Z0):(ze7 x).length=3:=rfl
theorem zN0 {p:Nat × Nat} {x y:Z0} (hx:TK[p.1]?=some x) (hy:TK[p.2]?=some y):zr2 TK p=(((ze7 x).zip (ze7 y)).take x.ar.toNat).map (fun z=>(z.1.toNat,z.2.toNat)):=by
 unfold zr2
 rw [hx,hy]
theorem zD1 {p:Nat × Nat} {x y:Z0} (hx:TK[p.1]?=some x) (hy:TK[p.2]?=some y) {k:Nat} {q:Nat × Nat} (hq:(zr2 TK p)[k]?=some q):(k:Int) < x.ar/\∃ a b,(ze7 x)[k]?=some a/\(ze7 y)[k]?=some b/\q=(a.toNat,b.toNat):=by
 rw [zN0 hx hy,List.getElem?_map] at hq
 cases e:(((ze7 x).zip (ze7 y)).take x.ar.toNat)[k]? with
 | none=>rw [e] at hq;simp at hq
 | some z =>
  rw [e] at hq
  simp at hq
  obtain ⟨hk,e⟩:=U4 e
  rw [List.getElem?_zip_eq_some] at e
  exact ⟨by omega,z.1,z.2,e.1,e.2,hq.symm⟩
theorem KOk.prs (h:KOk TK AK) {p:Nat × Nat} {x y:Z0} (hx:TK[p.1]?=some x) (hy:TK[p.2]?=some y) (har:y.ar=x.ar):∃ zs:List (PN2 TK.length),Prs x y x.ar.toNat zs/\zr2 TK p=zs.map (·.1):=by
 have hxm:=List.mem_of_getElem? hx
 have hym:=List.mem_of_getElem? hy
 have hb:∀ q∈zr2 TK p,q.1 < TK.length/\q.2 < TK.length:=by
  intro q hq
  obtain ⟨k,hk⟩:=List.getElem?_of_mem hq
  obtain ⟨h1,a,b,h2,h3,rfl⟩:=zD1 hx hy hk
  have ha:=h.arg x hxm k a h1 h2
  have hb:=h.arg y hym k b (by omega) h3
  show a.toNat < _/\b.toNat < _
  omega
 refine ⟨(zr2 TK p).pmap Subtype.mk hb,⟨?_,?_,?_,?_⟩,?_⟩
 ·have:=(h.ar x hxm).1;omega
 ·have:=(h.ar x hxm).2;omega
 ·rw [List.length_pmap,zN0 hx hy,List.length_map,List.length_take,List.length_zip,zU0,zU0]
  have:=h.ar x hxm;omega
 ·intro k z hz
  rw [List.getElem?_pmap] at hz
  cases e:(zr2 TK p)[k]? with
  | none=>simp [e] at hz
  | some q =>
   simp [e] at hz
   subst hz
   obtain ⟨h1,a,b,h2,h3,rfl⟩:=zD1 hx hy e
   have ha:=h.arg x hxm k a h1 h2
   have hb:=h.arg y hym k b (by omega) h3
   refine ⟨h2.trans (congrArg some ?_),h3.trans (congrArg some ?_)⟩
   ·show a=((a.toNat:Nat):Int);omega
   ·show b=((b.toNat:Nat):Int);omega
 ·rw [List.map_pmap]
  simp
theorem KOk.fx (h:KOk TK AK):qb8 (zr3 TK AK) TK (zM6 TK):=by
 refine ⟨rfl,rfl,fun p hp=>?_⟩
 obtain ⟨h1,h2⟩:=zY5.1 hp
 obtain ⟨x,y,hx,hy,h3,h4,h5⟩:=zY6 h2
 obtain ⟨zs,h6,h7⟩:=h.prs hx hy h5
 exact ⟨x,y,_,zs,hx,hy,h6,h7⟩
theorem KOk.fok (h:KOk TK AK):(zr3 TK AK).Ok:=by
 intro p hp
 obtain ⟨h1,h2⟩:=zY5.1 hp
 obtain ⟨x,y,hx,hy,h3,h4,h5⟩:=zY6 h2
 obtain ⟨zs,h6,h7⟩:=h.prs hx hy h5
 refine ⟨⟨(List.getElem?_eq_some_iff.1 hx).1,(List.getElem?_eq_some_iff.1 hy).1⟩,fun q hq=>?_⟩
 have hq':q∈zr2 TK p:=hq
 rw [h7] at hq'
 obtain ⟨z,_,rfl⟩:=List.mem_map.1 hq'
 exact z.2
end
theorem qi8 (n:Int) (h : -1000000<=n/\n<=1000000) (w:World):Calls Tryz.prog 138 #[.int .i64 n] w fun e w'=>e=.returned (.int .i64 (max n (-n)))/\w' = w:=by
 go_enter Tryz.func138,Tryz.ntmps138
 go_wp2_with fail
 go_ret
 exact ⟨by go_num,rfl⟩
theorem qT2 {TK:List Z0} {k:Nat} {x:Z0} (h:TK[k]?=some x) (m:Int):grT (TK.take (k+1)) m=max (grT (TK.take k) m) (max x.v (-x.v)):=by
 unfold grT
 rw [List.take_add_one,h,List.foldl_append]
 rfl
theorem qT3 {AK:List PA} {k:Nat} {x:PA} (h:AK[k]?=some x) (m:Int):grA (AK.take (k+1)) m=max (grA (AK.take k) m) (max x.b (-x.b)):=by
 unfold grA
 rw [List.take_add_one,h,List.foldl_append]
 rfl
section
variable {w:World} {TK:List Z0} {AK:List PA} {tv av:Value}
set_option maxRecDepth 10000 in
set_option maxHeartbeats 1000000 in
theorem qH1 (hts:w.ownsRow 0 145 6 tv TK.length (TK.flatMap Z0.cells)) (hat:w.ownsRow 0 153 4 av AK.length (AK.flatMap PA.cells)) (hT:TK.length<=12) (hA:AK.length<=16) (hv:∀ x∈TK,-1000<=x.v/\x.v<=1000) (hb:∀ x∈AK,-1000<=x.b/\x.b<=1000) :
  Calls Tryz.prog 98 #[tv,av] w fun e w'=>e=.returned (.int .i64 (zd3 TK AK))/\q9 (fun _=>False) w w':=by
 obtain ⟨ta,tc,rfl⟩:=j9 hts
 obtain ⟨aa,ac,rfl⟩:=j9 hat
 have HT:=q8 hts
 have HA:=q8 hat
 have HV:=q8 hv
 have HB:=q8 hb
 clear hts hat hv hb
 go_enter Tryz.func98,Tryz.ntmps98
 go_wp2_with fail
 go_loopw [5,12] (fun m i wr=>∃ j:Nat,j<=TK.length/\i=.int .i64 j/\m=.int .i64 (grT (TK.take j) 0)/\q9 (fun _=>False) w wr) (fun _ i _=>TK.length - (intOf i).toNat)
 case atStart=>exact ⟨0,Nat.zero_le _,rfl,rfl,q9.refl _ _⟩
 case round =>
  obtain ⟨j,hj,rfl,rfl,hx⟩:=hrel
  have HX:=q8 hx
  clear hx
  obtain ⟨t1,t2,_⟩:=zM9 (TK:=TK.take j) (m:=0) (B:=1000) (by omega) (fun x hx=>HV.out x (List.mem_of_mem_take hx))
  by_cases hlt:j < TK.length
  ·obtain ⟨x,hxj⟩:∃ x,TK[j]?=some x:=⟨_,List.getElem?_eq_getElem hlt⟩
   obtain ⟨gt,rfl,hgl⟩:∃ gt,ta=some ⟨gt,0,none⟩/\gt < w.heap.size:=by
    rcases HT.out.2 with ⟨e,e0⟩ | ⟨g',cap,cur,hv,_,hh,_⟩
    ·omega
    ·simp at hv;exact ⟨g',hv.1,z8 hh⟩
   have ho:=z7 HT.out HX.out (fun _ _ f=>f)
   have x0:wr.cell? ⟨gt,j * 6,none⟩=some (.string x.nm):=(ho.cellAt (j * 6) (by omega)).trans (J4 hxj (j:=0) rfl)
   have x1:wr.cell? ⟨gt,j * 6+1,none⟩=some (.int .i64 x.ar):=(ho.cellAt (j * 6+1) (by omega)).trans (J4 hxj rfl)
   have x2:wr.cell? ⟨gt,j * 6+2,none⟩=some (.int .i64 x.a0):=(ho.cellAt (j * 6+2) (by omega)).trans (J4 hxj rfl)
   have x3:wr.cell? ⟨gt,j * 6+3,none⟩=some (.int .i64 x.a1):=(ho.cellAt (j * 6+3) (by omega)).trans (J4 hxj rfl)
   have x4:wr.cell? ⟨gt,j * 6+4,none⟩=some (.int .i64 x.a2):=(ho.cellAt (j * 6+4) (by omega)).trans (J4 hxj rfl)
   have x5:wr.cell? ⟨gt,j * 6+5,none⟩=some (.int .i64 x.v):=(ho.cellAt (j * 6+5) (by omega)).trans (J4 hxj rfl)
   have hxv:=HV.out x (List.mem_of_getElem? hxj)
   have HN:=q8 (qT2 hxj 0)
   have HS:=q8 (qi8 x.v (by omega))
   clear ho hxj
   go_wp2_with fail
   refine (HS.out _).mono ?_
   rintro e w2 ⟨rfl,rfl⟩
   go_wp2_with fail
   go_roundw
   case measure=>simp [intOf];omega
   case rel=>exact ⟨j+1,by omega,by go_num,by rw [HN.out],HX.out.alloc _⟩
  ·have hjk:j=TK.length:=by omega
   subst hjk
   rw [List.take_length]
   rw [List.take_length] at t1 t2
   obtain ⟨m0,hm0⟩:∃ m0,grT TK 0=m0:=⟨_,rfl⟩
   rw [hm0] at t1 t2
   rw [hm0]
   go_wp2_with fail
   go_loopw [5,24] (fun m i wr=>∃ j:Nat,j<=AK.length/\i=.int .i64 j/\m=.int .i64 (grA (AK.take j) m0)/\q9 (fun _=>False) w wr) (fun _ i _=>AK.length - (intOf i).toNat)
   case atStart=>exact ⟨0,Nat.zero_le _,rfl,rfl,HX.out⟩
   case round =>
    obtain ⟨j,hj,rfl,rfl,hx⟩:=hrel
    have HX2:=q8 hx
    clear hx
    obtain ⟨s1,s2,_⟩:=zY7 (AK:=AK.take j) (m:=m0) (B:=1000) (by omega) (fun x hx=>HB.out x (List.mem_of_mem_take hx))
    by_cases hlt:j < AK.length
    ·obtain ⟨x,hxj⟩:∃ x,AK[j]?=some x:=⟨_,List.getElem?_eq_getElem hlt⟩
     obtain ⟨gt,rfl,hgl⟩:∃ gt,aa=some ⟨gt,0,none⟩/\gt < w.heap.size:=by
      rcases HA.out.2 with ⟨e,e0⟩ | ⟨g',cap,cur,hv,_,hh,_⟩
      ·omega
      ·simp at hv;exact ⟨g',hv.1,z8 hh⟩
     have ho:=z7 HA.out HX2.out (fun _ _ f=>f)
     have x0:wr.cell? ⟨gt,j * 4,none⟩=some (.string x.wd):=(ho.cellAt (j * 4) (by omega)).trans (zf9 hxj (j:=0) rfl)
     have x1:wr.cell? ⟨gt,j * 4+1,none⟩=some (.int .i64 x.i):=(ho.cellAt (j * 4+1) (by omega)).trans (zf9 hxj rfl)
     have x2:wr.cell? ⟨gt,j * 4+2,none⟩=some (.int .i64 x.j):=(ho.cellAt (j * 4+2) (by omega)).trans (zf9 hxj rfl)
     have x3:wr.cell? ⟨gt,j * 4+3,none⟩=some (.int .i64 x.b):=(ho.cellAt (j * 4+3) (by omega)).trans (zf9 hxj rfl)
     have hxv:=HB.out x (List.mem_of_getElem? hxj)
     have HN:=q8 (qT3 hxj m0)
     have HS:=q8 (qi8 x.b (by omega))
     clear ho hxj
     go_wp2_with fail
     refine (HS.out _).mono ?_
     rintro e w2 ⟨rfl,rfl⟩
     go_wp2_with fail
     go_roundw
     case measure=>simp [intOf];omega
     case rel=>exact ⟨j+1,by omega,by go_num,by rw [HN.out],HX2.out.alloc _⟩
    ·have hjk:j=AK.length:=by omega
     subst hjk
     rw [List.take_length]
     rw [List.take_length] at s1 s2
     have hfar:zd3 TK AK=(TK.length:Int) * (grA AK m0+1):=by unfold zd3;rw [hm0]
     obtain ⟨m1,hm1⟩:∃ m1,grA AK m0=m1:=⟨_,rfl⟩
     rw [hm1] at s1 s2 hfar
     have HFAR:=q8 hfar
     rw [hm1]
     have hp1:(0:Int)<=(TK.length:Int) * (m1+1):=Int.mul_nonneg (by omega) (by omega)
     have hp2:(TK.length:Int) * (m1+1)<=12 * 1001:=Int.mul_le_mul (by omega) (by omega) (by omega) (by omega)
     clear hfar hm1
     go_wp2_with fail
     go_ret
     exact ⟨by rw [HFAR.out];go_num,HX2.out⟩
end
end Go.Proofs.YtegbdaffhpiacaaGreatDoor
