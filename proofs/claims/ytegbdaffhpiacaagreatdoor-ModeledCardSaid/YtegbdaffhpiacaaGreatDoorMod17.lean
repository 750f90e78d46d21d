/- A part of the proof. -/
import Derived.Test.YtegbdaffhpiacaaGreatDoorMod15
import Derived.Test.YtegbdaffhpiacaaGreatDoorMod16
import Derived.BigQuiet
set_option maxRecDepth 100000
set_option maxHeartbeats 1000000
namespace Go.Proofs.YtegbdaffhpiacaaGreatDoor
open Tryz hiding parts
open Go.RowKit Go.Maps Ar
def Sm(n:Int):Prop := -1000000000<=n/\n<=1000000000
structure Z3.Ok(k:Z3):Prop where
 nm:k.nm.size<=1000
 ar:Sm k.ar
 a0:Sm k.a0
 a1:Sm k.a1
 a2:Sm k.a2
 v:Sm k.v
structure Y2.Ok(k:Y2):Prop where
 wd:k.wd.size<=1000
 i:Sm k.i
 j:Sm k.j
 b:Sm k.b
theorem zU5{n:Int}(h:Sm n):(Lit.int .i64 n).wf=true:=by obtain⟨h1,h2⟩:=h;simp[Lit.wf,IntKind.min,IntKind.max,IntKind.signed,IntKind.bits];omega
theorem cFn:prog.cellsOf 142=2:=by kernel_rfl
theorem qR1:prog.cellsOf 3=1:=by kernel_rfl
theorem js7:prog.cellsOf 9=1:=by kernel_rfl
theorem cA3:prog.cellsOf 143=3:=by kernel_rfl
theorem cA2:prog.cellsOf 151=2:=by kernel_rfl
theorem jk7:prog.cellsOf 145=6:=by kernel_rfl
theorem jk8:prog.cellsOf 153=4:=by kernel_rfl
theorem zh1(d:Nat){n:Int}(h:Sm n):prog.keyLits (d+1) 3 [.int .i64 n]=some [.int .i64 n]:=by unfold Program.keyLits;simp[underlying3,zU5 h]
theorem qh9(d:Nat){s:ByteArray}(h:s.size<=1000):prog.keyLits (d+1) 9 [.string s]=some [.string s.data.toList]:=by unfold Program.keyLits;simp[underlying9];unfold maxLen;omega
theorem qy8(d:Nat){s:ByteArray}{n:Int}(h:s.size<=1000)(hn:Sm n):prog.keyLits (d+2) 142 [.string s,.int .i64 n]=some [.string s.data.toList,.int .i64 n]:=by unfold Program.keyLits;simp[underlying142,cFn,qR1,js7,zh1 d hn,qh9 d h]
theorem qy9(d:Nat){x y z:Int}(hx:Sm x)(hy:Sm y)(hz:Sm z):prog.keyLits (d+2) 143 [.int .i64 x,.int .i64 y,.int .i64 z]=some [.int .i64 x,.int .i64 y,.int .i64 z]:=by unfold Program.keyLits;simp[underlying143,cA3,qR1,List.range_succ,zh1 d hx,zh1 d hy,zh1 d hz]
theorem jc8(d:Nat){x y:Int}(hx:Sm x)(hy:Sm y):prog.keyLits (d+2) 151 [.int .i64 x,.int .i64 y]=some [.int .i64 x,.int .i64 y]:=by unfold Program.keyLits;simp[underlying151,cA2,qR1,List.range_succ,zh1 d hx,zh1 d hy]
theorem jc9(d:Nat){k:Z3}(h:k.Ok):∃ ls,prog.keyLits (d+3) 145 k.cells=some ls:=by unfold Program.keyLits;simp[Z3.cells,underlying145,jk7,cFn,cA3,qR1,qy8 d h.nm h.ar,qy9 d h.a0 h.a1 h.a2,zh1 (d+1) h.v]
theorem jd0(d:Nat){k:Y2}(h:k.Ok):∃ ls,prog.keyLits (d+3) 153 k.cells=some ls:=by unfold Program.keyLits;simp[Y2.cells,underlying153,jk8,js7,cA2,qR1,qh9 (d+1) h.wd,jc8 d h.i h.j,zh1 (d+1) h.b]
theorem zx6:∃ d,prog.types.size+1=d+3:=⟨prog.types.size-2,by have:2<=prog.types.size:=of_decide_eq_true (by kernel_rfl);omega⟩
theorem jo6{k:Z3}(h:k.Ok):∃ l,keyOf prog 145 k.val=some l:=by
 obtain⟨d,hd⟩:=zx6;obtain⟨ls,hl⟩:=jc9 d h;refine⟨.string (keyBytes ls),?_⟩;have hc:k.val.cells.toList=k.cells:=rfl;have hkt:prog.keyType 145=true:=by kernel_rfl
 have hf:k.val.formed prog 145=true:=by simp[Z3.val,Value.formed,underlying145,jk7]
 unfold keyOf;rw[underlying145];simp only[hkt,hf,Bool.and_self,if_true,hc,hd,hl,Option.map_some]
theorem jo7{k:Y2}(h:k.Ok):∃ l,keyOf prog 153 k.val=some l:=by
 obtain⟨d,hd⟩:=zx6;obtain⟨ls,hl⟩:=jd0 d h;refine⟨.string (keyBytes ls),?_⟩;have hc:k.val.cells.toList=k.cells:=rfl;have hkt:prog.keyType 153=true:=by kernel_rfl
 have hf:k.val.formed prog 153=true:=by simp[Y2.val,Value.formed,underlying153,jk8]
 unfold keyOf;rw[underlying153];simp only[hkt,hf,Bool.and_self,if_true,hc,hd,hl,Option.map_some]
theorem zm2:Keyed prog 145:=Keyed.of_law (deep_law_laid (by kernel_rfl) (m:=4) (by omega) (of_decide_eq_true (by kernel_rfl)) (by kernel_rfl) (by kernel_rfl))
theorem zm3:Keyed prog 153:=Keyed.of_law (deep_law_laid (by kernel_rfl) (m:=4) (by omega) (of_decide_eq_true (by kernel_rfl)) (by kernel_rfl) (by kernel_rfl))
noncomputable def klT(k:Z3):Lit:=(keyOf prog 145 k.val).getD (.bool false)
noncomputable def klA(k:Y2):Lit:=(keyOf prog 153 k.val).getD (.bool false)
theorem zL9{k:Z3}(h:k.Ok):keyOf prog 145 k.val=some (klT k):=by obtain⟨l,hl⟩:=jo6 h;rw[klT,hl];rfl
theorem zM0{k:Y2}(h:k.Ok):keyOf prog 153 k.val=some (klA k):=by obtain⟨l,hl⟩:=jo7 h;rw[klA,hl];rfl
theorem qz0{x y:Z3}(hx:x.Ok)(hy:y.Ok)(h:klT x=klT y):x=y:=by have h2:=zL9 hy;rw[<- h] at h2;have e:=zm2.inj (zL9 hx) h2;cases x;cases y;simp[Z3.val] at e;simp[e]
theorem qz1{x y:Y2}(hx:x.Ok)(hy:y.Ok)(h:klA x=klA y):x=y:=by have h2:=zM0 hy;rw[<- h] at h2;have e:=zm3.inj (zM0 hx) h2;cases x;cases y;simp[Y2.val] at e;simp[e]
def U5:Value->Option Nat
 | .map b=>b
 | _=>none
theorem Z6{S:Nat->Prop}{w w':World}{k:TypeId}{R:Value->Option (DataW Unit × List MemPlace)}{b n:Nat}{D:DataW Unit}(h:w.ownsMap prog k R b n D)(hx:q9 S w w')(hS:¬S b):w'.ownsMap prog k R b n D:=by obtain⟨es,c,hb,r⟩:=h;exact⟨es,c,(hx.block b (z8 hb) hS).trans hb,r⟩
theorem k8{w w':World}{b:Nat}(h:w.mapTurned w' b):q9 (fun k=>k=b) w w':=by have hg:=h.grown;exact⟨hg.os,hg.tape,hg.output,hg.size,fun k hk hne=>hg.block k hk (fun e=>hne (by simpa using e))⟩
open Classical in
noncomputable def putK{α:Type}(K:List α)(x:α):List α:=if x∈K then K else K++[x]
theorem zt8{α:Type}{K:List α}{x:α}(h:x∈K):putK K x=K:=by unfold putK;rw[if_pos h]
theorem zb6{α:Type}{K:List α}{x:α}(h:¬x∈K):putK K x=K++[x]:=by unfold putK;rw[if_neg h]
theorem zj5(w:World):(zeroValue 3).run prog w=.ok (.int .i64 0) w:=by kernel_rfl
theorem zU6{w:World}{k:TypeId}{R:Value->Option (DataW Unit × List MemPlace)}{b n:Nat}{D:DataW Unit}(h:w.ownsMap prog k R b n D){c:Nat}(hc:Maps.size D=c):w.ownsMap prog k R b c D:=by obtain⟨es,cl,hb,hf,hs,rfl⟩:=h;refine⟨es,cl,hb,hf,?_,rfl⟩;rw[<- hc];exact Nat.le_of_eq (length_read (P:=prog) (k:=k) (R0:=R) es).symm
theorem zF8(mb:Nat)(W:World):(binOp BinOp.eql 80 (.map (some mb)) (.map none)).run prog W=.ok (.bool false) W:=by kernel_rfl
theorem qi0(W:World):(binOp BinOp.eql 80 (.map none) (.map none)).run prog W=.ok (.bool true) W:=by kernel_rfl
structure zM1(w:World)(tv mv:Value)(K:List Z3):Prop where
 own:w.ownsRow 0 145 6 tv K.length (K.flatMap Z3.cells)
 nd:K.Nodup
 ok:∀ k∈K,k.Ok
 map:(mv=.map none/\K=[])\/∃ mb D,mv=.map (some mb)/\w.ownsMap prog 145 (plainElem prog 3) mb K.length D/\zj4 klT Z3.Ok (fun _=>True) K D K.length
 sep:∀ g,tv.ownBlock=some g->¬U5 mv=some g
theorem zM1.ext{S:Nat->Prop}{w w':World}{tv mv:Value}{K:List Z3}(h:zM1 w tv mv K)(hx:q9 S w w')(h1:∀ g,tv.ownBlock=some g->¬S g)(h2:∀ g,U5 mv=some g->¬S g):zM1 w' tv mv K:=by
 refine⟨z7 h.own hx h1,h.nd,h.ok,?_,h.sep⟩;rcases h.map with e|⟨mb,D,rfl,ho,hm⟩
 ·exact .inl e
 ·exact .inr ⟨mb,D,rfl,Z6 ho hx (h2 mb rfl),hm⟩
def zj6(w:World)(sb:Nat)(nv:Value)(xs:PX)(K:List Z3)(x:Z3)(e:Ending)(w':World):Prop :=
 ∃ (i:Nat) (tv' mv':Value),e=.returned (.int .i64 i)/\(putK K x)[i]?=some x/\w'.heap[sb]?=some (.cells #[nv,tv',mv',xs.at_,xs.am,xs.fs,xs.ks,xs.vd,xs.ml] 98)/\zM1 w' tv' mv' (putK K x)/\q9 (fun k=>k=sb\/xs.ts.ownBlock=some k\/U5 xs.tm=some k) w w' /\
  (∀ k,tv'.ownBlock=some k->xs.ts.ownBlock=some k\/w.heap.size<=k)/\(∀ k,U5 mv' = some k->U5 xs.tm=some k\/w.heap.size<=k)
theorem zM2{w w0 w1 w2 W:World}{sb mb g cap':Nat}{nv:Value}{xs:PX}{K:List Z3}{x:Z3}{D:DataW Unit}(h:zM1 w xs.ts xs.tm K)(hx:x.Ok)(hn:¬x∈K)
  (h0:q9 (fun k=>k=sb) w w0) (hgrow:w0.grownBy w1 xs.ts.ownBlock) (hown:w1.ownsRow 0 145 6 (.slice (some ⟨g,0,none⟩) (K.length+1) cap') (K.length+1) (K.flatMap Z3.cells++x.cells))
  (hat:xs.ts.ownBlock=some g\/w.heap.size<=g) (hmg:¬g=mb) (hgs:¬g=sb) (hms:¬mb=sb) (hmb:U5 xs.tm=some mb\/w.heap.size<=mb) (h2:q9 (fun k=>k=sb) w1 w2) (hm0:zj4 klT Z3.Ok (fun _=>True) K D K.length) (htd:Maps.Tidy D)
  (hown2:W.ownsMap prog 145 (plainElem prog 3) mb (K.length+1) (D.put (klT x) (.lit (.int .i64 K.length)))) (h3:q9 (fun k=>k=mb) w2 W)
  (kW:w2.heap[sb]?=some (.cells #[nv,(.slice (some ⟨g,0,none⟩) (K.length+1) cap'),(.map (some mb)),xs.at_,xs.am,xs.fs,xs.ks,xs.vd,xs.ml] 98)):
  zj6 w sb nv xs K x (.returned (.int .i64 K.length)) W:=by
 have hk:WideAt.IsKeyLit (klT x):=zm2.key (zL9 hx);have hmf:=qh7 hm0 htd hk h.ok hx (fun y hy e=>qz0 hy hx e) hn;have s0:=h0.size;refine⟨K.length,.slice (some ⟨g,0,none⟩) (K.length+1) cap',.map (some mb),rfl,?_,?_,⟨?_,?_,?_,?_,?_⟩,?_,?_,?_⟩
 ·rw[zb6 hn];simp
 ·exact(h3.block sb (z8 kW) (fun e=>hms e.symm)).trans kW
 ·rw[zb6 hn];have ho:=z7 (z7 hown h2 (fun k hk e=>by simp[Value.ownBlock] at hk;omega)) h3 (fun k hk e=>by simp[Value.ownBlock] at hk;omega);simpa using ho
 ·rw[zb6 hn,List.nodup_append];refine⟨h.nd,by simp,?_⟩;intro a ha b hb e;simp at hb;subst hb e;exact hn ha
 ·rw[zb6 hn];intro k hk;rcases List.mem_append.1 hk with hk|hk
  ·exact h.ok k hk
  ·simp at hk;subst hk;exact hx
 ·rw[zb6 hn];refine .inr ⟨mb,_,rfl,?_,hmf⟩;simpa using hown2
 ·intro k hk e;simp[Value.ownBlock] at hk;simp[U5] at e;omega
 ·have e1:q9 (fun k=>k=sb\/xs.ts.ownBlock=some k\/U5 xs.tm=some k) w w1:=(h0.mono (fun _ _ e=>.inl e)).grown hgrow (fun k hk _=>.inr (.inl hk));exact(e1.trans' h2 (fun _ _ e=>.inl e)).trans' h3 (fun k hk e=>by
   subst e;rcases hmb with e2|e2
   ·exact .inr (.inr e2)
   ·omega)
 ·intro k hk;simp[Value.ownBlock] at hk;subst hk;exact hat
 ·intro k hk;simp[U5] at hk;subst hk;exact hmb
theorem qr2{w:World}{sb:Nat}{nv:Value}{xs:PX}{K:List Z3}(x:Z3)(kb:w.heap[sb]?=some (.cells #[nv,xs.ts,xs.tm,xs.at_,xs.am,xs.fs,xs.ks,xs.vd,xs.ml] 98))(h:zM1 w xs.ts xs.tm K)(hx:x.Ok)(hs1:∀ k,xs.ts.ownBlock=some k->¬k=sb)(hs2:∀ k,U5 xs.tm=some k->¬k=sb)(hlen:K.length<=10000000):
  Calls prog 188 #[.pointer (some ⟨sb,1,none⟩),x.val] w (zj6 w sb nv xs K x):=by
 show Calls prog 188 #[.pointer (some ⟨sb,1,none⟩),.agg #[.string x.nm,.int .i64 x.ar,.int .i64 x.a0,.int .i64 x.a1,.int .i64 x.a2,.int .i64 x.v]] w (zj6 w sb nv xs K x);have hke:keyOf prog 145 (.agg #[.string x.nm,.int .i64 x.ar,.int .i64 x.a0,.int .i64 x.a1,.int .i64 x.a2,.int .i64 x.v])=some (klT x):=zL9 hx;have HKE:=q8 hke;clear hke;obtain⟨ts,tm,at_,am,fs,ks,vd,ml⟩:=xs;simp only at kb h hs1 hs2;have hsb:=z8 kb;have HX0:Hid (q9 (fun _=>False) w (w.alloc (.cells #[.string x.nm,.int .i64 x.ar,.int .i64 x.a0,.int .i64 x.a1,.int .i64 x.a2,.int .i64 x.v] 145))):=(q9.refl _ w).alloc _;have HBX:Hid ((w.alloc (.cells #[.string x.nm,.int .i64 x.ar,.int .i64 x.a0,.int .i64 x.a1,.int .i64 x.a2,.int .i64 x.v] 145)).heap[w.heap.size]?=some (.cells #[.string x.nm,.int .i64 x.ar,.int .i64 x.a0,.int .i64 x.a1,.int .i64 x.a2,.int .i64 x.v] 145)):=heap_alloc_new w _;by_cases hin:x∈K
 ·-- it is there
  obtain⟨i,hi⟩:=List.mem_iff_getElem?.1 hin;rcases h.map with⟨_,e⟩|⟨mb,D,hmv,ho,hm⟩
  ·subst e;exact absurd hin (by simp)
  subst hmv;have hlk:∀ n,(Instr.lookup 80 (.map (some mb)) (.agg #[.string x.nm,.int .i64 x.ar,.int .i64 x.a0,.int .i64 x.a1,.int .i64 x.a2,.int .i64 x.v]) true).run prog ((w.alloc (.cells #[.string x.nm,.int .i64 x.ar,.int .i64 x.a0,.int .i64 x.a1,.int .i64 x.a2,.int .i64 x.v] 145)).drewN n)=.ok (.tuple #[.int .i64 i,.bool true]) ((w.alloc (.cells #[.string x.nm,.int .i64 x.ar,.int .i64 x.a0,.int .i64 x.a1,.int .i64 x.a2,.int .i64 x.v] 145)).drewN n):=by intro n;have ho2:=Z6 ho (((q9.refl (fun _=>False) w).alloc (.cells #[.string x.nm,.int .i64 x.ar,.int .i64 x.a0,.int .i64 x.a1,.int .i64 x.a2,.int .i64 x.v] 145)).drewN n) (fun f=>f);obtain⟨v,ps,hrun,hv⟩:=ho2.look_ok zm2 underlying80 (zj5 _) (plainElem_int underlying3 (by decide)) HKE.out;rw[(hm.yes i x hi trivial).1] at hv;obtain⟨a,rfl,e2,_⟩:=plainElem_int_inv underlying3 hv;simp at e2;rw[hrun,(hm.yes i x hi trivial).2,e2.1]
  have c1:=z6 kb 1;have c2:=z6 kb 2;have H:=q8 h;have KB:=q8 kb;have HI:=q8 hi;have HW0:Hid (q9 (fun _=>False) w (w.alloc (.cells #[.string x.nm,.int .i64 x.ar,.int .i64 x.a0,.int .i64 x.a1,.int .i64 x.a2,.int .i64 x.v] 145))):=(q9.refl _ w).alloc _;have hlk0:=hlk 0;have hnw:¬sb=w.heap.size:=by omega
  clear h kb ho hm hi;go_enter func188,ntmps188;go_wp2_with fail
  go_quiet (fail)
  go_wp2_with fail;go_ret;refine⟨i,_,_,rfl,by rw[zt8 hin];exact HI.out,?_,?_,?_,fun k hk=>.inl hk,fun k hk=>.inl hk⟩
  ·exact((HW0.out.drewN nq).block sb hsb (fun f=>f)).trans KB.out
  ·rw[zt8 hin];exact H.out.ext (HW0.out.drewN nq) (fun _ _ f=>f) (fun _ _ f=>f)
  ·exact(HW0.out.drewN nq).mono (fun _ _ f=>f.elim)
 ·have HX:=q8 hx;have HS1:=q8 hs1;have HS2:=q8 hs2;obtain⟨ta,tc,hts⟩:∃ ta tc,ts=.slice ta K.length tc:=by
   rcases h.own.2 with⟨e,e0⟩|⟨g,cap,cur,hv,_⟩
   ·exact⟨none,0,by rw[e,e0]⟩
   ·exact⟨_,cap,hv⟩
  subst hts;rcases h.map with⟨hmv,hK⟩|⟨mb,D,hmv,ho,hm⟩
  ·subst hmv;have hlk:∀ n,(Instr.lookup 80 (.map none) (.agg #[.string x.nm,.int .i64 x.ar,.int .i64 x.a0,.int .i64 x.a1,.int .i64 x.a2,.int .i64 x.v]) true).run prog ((w.alloc (.cells #[.string x.nm,.int .i64 x.ar,.int .i64 x.a0,.int .i64 x.a1,.int .i64 x.a2,.int .i64 x.v] 145)).drewN n)=.ok (.tuple #[.int .i64 0,.bool false]) ((w.alloc (.cells #[.string x.nm,.int .i64 x.ar,.int .i64 x.a0,.int .i64 x.a1,.int .i64 x.a2,.int .i64 x.v] 145)).drewN n):=by
    intro n;have e:=Maps.look_nil (w:=(w.alloc (.cells #[.string x.nm,.int .i64 x.ar,.int .i64 x.a0,.int .i64 x.a1,.int .i64 x.a2,.int .i64 x.v] 145)).drewN n) true zm2 underlying80 (zj5 _) HKE.out;simpa using e
   have c1:=z6 kb 1;have c2:=z6 kb 2;have f2:=Q8 kb 2;have hlk0:=hlk 0;have hnw:¬sb=w.heap.size:=by omega
   have hmm:=@run_makeMap prog;have hnil:=qi0;have HK:=q8 hK;have H:=q8 h;have KB:=q8 kb;clear h kb hx hs1 hs2 hK;go_enter func188,ntmps188;go_wp2_with fail
   go_quiet (fail)
   obtain⟨V0,hVe⟩:∃ V0,(w.alloc (.cells #[.string x.nm,.int .i64 x.ar,.int .i64 x.a0,.int .i64 x.a1,.int .i64 x.a2,.int .i64 x.v] 145)).drewN nq=V0:=⟨_,rfl⟩;have HVF:Hid (q9 (fun _=>False) w V0):=by rw[<- hVe];exact((q9.refl _ w).alloc _).drewN nq
   have KV0:=q8 ((HVF.out.block sb hsb (fun f=>f)).trans KB.out);have KX0:Hid (V0.heap[w.heap.size]?=some (.cells #[.string x.nm,.int .i64 x.ar,.int .i64 x.a0,.int .i64 x.a1,.int .i64 x.a2,.int .i64 x.v] 145)):=by rw[<- hVe];exact heap_alloc_new w _
   have hl0:=z8 KV0.out;have hlx0:=z8 KX0.out;rw[hVe];clear hVe hlk hlk0 c1 c2 f2;have c1:=z6 KV0.out 1;have c2:=z6 KV0.out 2;have f2:=Q8 KV0.out 2;go_wp2_with fail;obtain⟨mb,hmb⟩:∃ mb,mb=V0.heap.size:=⟨_,rfl⟩;obtain⟨D,hD⟩:∃ D:DataW Unit,D=.map []:=⟨_,rfl⟩;obtain⟨V,hVe⟩:∃ V,(V0.setCell ⟨sb,2,none⟩ (.map (some V0.heap.size))).alloc (.map #[] 0)=V:=⟨_,rfl⟩;have hsz:(V0.setCell ⟨sb,2,none⟩ (.map (some V0.heap.size))).heap.size=V0.heap.size:=by simp
   have HVA:Hid (q9 (fun k=>k=sb) V0 V):=by rw[<- hVe];exact((q9.refl (fun k=>k=sb) _).setCell (p:=⟨sb,2,none⟩) (fun _=>rfl) _).alloc _
   have HV:Hid (q9 (fun k=>k=sb) w V):=(HVF.out.mono (fun _ _ f=>f.elim)).trans HVA.out;have KV:Hid (V.heap[sb]?=some (.cells #[nv,.slice ta K.length tc,.map (some mb),at_,am,fs,ks,vd,ml] 98)):=by rw[<- hVe,hmb];exact(Below.heap_alloc _ _ sb (by rw[hsz];exact hl0)).trans (Y4 KV0.out 2 _)
   have KX:Hid (V.heap[w.heap.size]?=some (.cells #[.string x.nm,.int .i64 x.ar,.int .i64 x.a0,.int .i64 x.a1,.int .i64 x.a2,.int .i64 x.v] 145)):=(HVA.out.block _ hlx0 (by show ¬w.heap.size=sb;omega)).trans KX0.out;have HMS:Hid (¬mb=sb):=by show ¬_;omega
   have HOV:Hid (V.ownsMap prog 145 (plainElem prog 3) mb K.length D):=by have e:=World.ownsMap_made (H:=Unit) (V0.setCell ⟨sb,2,none⟩ (.map (some V0.heap.size))) prog 145 (plainElem prog 3);rw[hsz,hVe] at e;rw[hmb,hD,HK.out];exact e
   have HMF:Hid (zj4 klT Z3.Ok (fun _=>True) K D K.length):=by rw[hD,HK.out];exact qh6
   have HTD:Hid (Maps.Tidy D):=by rw[hD];exact tidy_empty
   have HMB:Hid (U5 (.map none)=some mb\/w.heap.size<=mb):=.inr (by have:=HVF.out.size;omega);have HSEP:Hid (∀ g,(Value.slice ta K.length tc).ownBlock=some g->¬g=mb):=fun g hg e=>by have h1:=(H.out.own.lt g hg).2;have:=HVF.out.size;omega
   rw[hVe,<- hmb];clear hVe hmb hD c1 c2 f2 KV0 KX0 hnil hsz;have hlV:=z8 KV.out;have hlX:=z8 KX.out;have c1:=z6 KV.out 1;have c2:=z6 KV.out 2;have x0:=z6 KX.out 0;have x1:=z6 KX.out 1;have x2:=z6 KX.out 2;have x3:=z6 KX.out 3;have x4:=z6 KX.out 4;have x5:=z6 KX.out 5;obtain⟨i0,hi,hz0,hz1,hz2⟩:=info_parts zA1;have hnn:=zF8 mb;have HOR:=q8 (z7 H.out.own HV.out (fun k hk e=>HS1.out k hk e));go_wp2_with fail
   go_region_law ((refine step_append_lies _ (by rfl) _ _ _ (by rfl) 0 145 i0 _ 6 56 underlying79 hi hz0 hz1 hz2 rfl (by omega) (.slice ta K.length tc) K.length (K.flatMap Z3.cells) (by rfl) ((HOR.out.alloc _).drew) ⟨V.heap.size,0,none⟩ 1 1 x.cells (by rfl) (by rfl) (World.news_of_block (cs:=#[.string x.nm,.int .i64 x.ar,.int .i64 x.a0,.int .i64 x.a1,.int .i64 x.a2,.int .i64 x.v]) (t:=145) (fr:=(0,0)) (heap_alloc_new V _)) (by simp[Z3.cells,Value.oneCell']) (by omega) (by unfold maxLen;omega) (by omega) (Nat.zero_le _) (V.heap.size+1) (by simp) ?_;intro g cap' w2 hown2 hgrow hat hlt2;have kb2:w2.heap[sb]?=some (.cells #[nv,.slice ta K.length tc,.map (some mb),at_,am,fs,ks,vd,ml] 98):=(hgrow.block sb (by simp;omega) (fun e=>HS1.out sb e.symm rfl)).trans ((Below.heap_alloc V _ sb hlV).trans KV.out);have d1:=z6 kb2 1;have d1f:=Q8 kb2 1))
   all_goals
    obtain⟨W3,hW3⟩:∃ W3,w2.setCell ⟨sb,1,none⟩ (.slice (some ⟨g,0,none⟩) (K.length+1) cap')=W3:=⟨_,rfl⟩;have hxV:q9 (fun k=>(Value.slice ta K.length tc).ownBlock=some k) V w2:=((((q9.refl (fun _=>False) V).alloc _).drew).mono (fun _ _ f=>f.elim)).grown hgrow (fun k hk _=>hk);have hx3:q9 (fun k=>k=sb) w2 W3:=by rw[<- hW3];exact(q9.refl (fun k=>k=sb) w2).setCell (p:=⟨sb,1,none⟩) (fun _=>rfl) _
    have kb3:W3.heap[sb]?=some (.cells #[nv,(.slice (some ⟨g,0,none⟩) (K.length+1) cap'),.map (some mb),at_,am,fs,ks,vd,ml] 98):=by rw[<- hW3];exact Y4 kb2 1 _
    have kx3:W3.heap[w.heap.size]?=some (.cells #[.string x.nm,.int .i64 x.ar,.int .i64 x.a0,.int .i64 x.a1,.int .i64 x.a2,.int .i64 x.v] 145):=(hx3.block _ (Nat.lt_of_lt_of_le hlX hxV.size) (by show ¬w.heap.size=sb;omega)).trans ((hxV.block _ hlX (fun e=>by have:=(H.out.own.lt _ e).2;omega)).trans KX.out);have ho3:W3.drew.ownsMap prog 145 (plainElem prog 3) mb K.length D:=Z6 (Z6 (Z6 HOV.out hxV (fun e=>HSEP.out mb e rfl)) hx3 HMS.out) ((q9.refl (fun _=>False) W3).drew) (fun f=>f);obtain⟨W4,hst,how4,hturn⟩:=ho3.store zm2 underlying80 (by unfold maxLen;omega) HKE.out (plainElem_int underlying3 (zU5 (n:=(K.length:Int)) ⟨by omega,by omega⟩));have e1:=z6 kb3 1;have e2:=z6 kb3 2;have y0:=z6 kx3 0;have y1:=z6 kx3 1;have y2:=z6 kx3 2;have y3:=z6 kx3 3;have y4:=z6 kx3 4;have y5:=z6 kx3 5;have HN:Hid (zj6 w sb nv ⟨.slice ta K.length tc,.map none,at_,am,fs,ks,vd,ml⟩ K x (.returned (.int .i64 K.length)) W4):=zM2 (xs:=⟨.slice ta K.length tc,.map none,at_,am,fs,ks,vd,ml⟩) H.out HX.out hin ((HV.out.alloc _).drew) hgrow hown2 (hat.imp id (fun e=>by have:=HV.out.size;omega)) (by
     rcases hat with e|e
     ·exact fun e3=>HSEP.out mb (e3▸e) rfl
     ·have:=HOV.out.lt;omega) (by
     rcases hat with e|e
     ·exact HS1.out g e
     ·omega) HMS.out HMB.out hx3 HMF.out HTD.out how4 ((((q9.refl (fun _=>False) W3).drew).mono (fun _ _ f=>f.elim)).trans (k8 hturn)) kb3
    rw[hW3];clear hW3 hxV hx3 kb3 kx3 ho3 how4 hturn kb2 hown2 hgrow hat c1 c2 d1 d1f;go_wp2_with fail
    go_region
    all_goals
     go_wp2_with fail;go_ret;exact HN.out
  ·subst hmv;have hlk:∀ n,(Instr.lookup 80 (.map (some mb)) (.agg #[.string x.nm,.int .i64 x.ar,.int .i64 x.a0,.int .i64 x.a1,.int .i64 x.a2,.int .i64 x.v]) true).run prog ((w.alloc (.cells #[.string x.nm,.int .i64 x.ar,.int .i64 x.a0,.int .i64 x.a1,.int .i64 x.a2,.int .i64 x.v] 145)).drewN n)=.ok (.tuple #[.int .i64 0,.bool false]) ((w.alloc (.cells #[.string x.nm,.int .i64 x.ar,.int .i64 x.a0,.int .i64 x.a1,.int .i64 x.a2,.int .i64 x.v] 145)).drewN n):=by
    intro n;have ho2:=Z6 ho (((q9.refl (fun _=>False) w).alloc (.cells #[.string x.nm,.int .i64 x.ar,.int .i64 x.a0,.int .i64 x.a1,.int .i64 x.a2,.int .i64 x.v] 145)).drewN n) (fun f=>f);obtain⟨v,ps,hrun,hv⟩:=ho2.look_ok zm2 underlying80 (zj5 _) (plainElem_int underlying3 (by decide)) HKE.out;have hno:=hm.no x hx (fun hc=>hin hc.1);rw[atKey_of_not_has hno] at hv;obtain⟨a,rfl,e2,_⟩:=plainElem_int_inv underlying3 hv;simp at e2;rw[hrun,hno,<- e2.1]
   have c1:=z6 kb 1;have c2:=z6 kb 2;have hlk0:=hlk 0;have hnw:¬sb=w.heap.size:=by omega
   have HTD:=q8 (ho.tidy zm2);have HMF:=q8 hm;have HO:=q8 ho;have H:=q8 h;have KB:=q8 kb;have HSEP:Hid (∀ g,(Value.slice ta K.length tc).ownBlock=some g->¬g=mb):=fun g hg e=>h.sep g hg (by rw[e];rfl)
   have HMS:Hid (¬mb=sb):=hs2 mb rfl;have HMB:Hid (U5 (.map (some mb))=some mb\/w.heap.size<=mb):=.inl rfl;clear h kb ho hm hx hs1 hs2;go_enter func188,ntmps188;go_wp2_with fail
   go_quiet (fail)
   obtain⟨V,hVe⟩:∃ V,(w.alloc (.cells #[.string x.nm,.int .i64 x.ar,.int .i64 x.a0,.int .i64 x.a1,.int .i64 x.a2,.int .i64 x.v] 145)).drewN nq=V:=⟨_,rfl⟩;have HVF:Hid (q9 (fun _=>False) w V):=by rw[<- hVe];exact((q9.refl _ w).alloc _).drewN nq
   have HV:Hid (q9 (fun k=>k=sb) w V):=HVF.out.mono (fun _ _ f=>f.elim);have KV:=q8 ((HVF.out.block sb hsb (fun f=>f)).trans KB.out);have KX:Hid (V.heap[w.heap.size]?=some (.cells #[.string x.nm,.int .i64 x.ar,.int .i64 x.a0,.int .i64 x.a1,.int .i64 x.a2,.int .i64 x.v] 145)):=by rw[<- hVe];exact heap_alloc_new w _
   have HOV:=q8 (Z6 HO.out HVF.out (fun f=>f));rw[hVe];clear hVe hlk hlk0 c1 c2;have hlV:=z8 KV.out;have hlX:=z8 KX.out;have c1:=z6 KV.out 1;have c2:=z6 KV.out 2;have x0:=z6 KX.out 0;have x1:=z6 KX.out 1;have x2:=z6 KX.out 2;have x3:=z6 KX.out 3;have x4:=z6 KX.out 4;have x5:=z6 KX.out 5;obtain⟨i0,hi,hz0,hz1,hz2⟩:=info_parts zA1;have hnn:=zF8 mb;have HOR:=q8 (z7 H.out.own HV.out (fun k hk e=>HS1.out k hk e));go_wp2_with fail
   go_region_law ((refine step_append_lies _ (by rfl) _ _ _ (by rfl) 0 145 i0 _ 6 56 underlying79 hi hz0 hz1 hz2 rfl (by omega) (.slice ta K.length tc) K.length (K.flatMap Z3.cells) (by rfl) ((HOR.out.alloc _).drew) ⟨V.heap.size,0,none⟩ 1 1 x.cells (by rfl) (by rfl) (World.news_of_block (cs:=#[.string x.nm,.int .i64 x.ar,.int .i64 x.a0,.int .i64 x.a1,.int .i64 x.a2,.int .i64 x.v]) (t:=145) (fr:=(0,0)) (heap_alloc_new V _)) (by simp[Z3.cells,Value.oneCell']) (by omega) (by unfold maxLen;omega) (by omega) (Nat.zero_le _) (V.heap.size+1) (by simp) ?_;intro g cap' w2 hown2 hgrow hat hlt2;have kb2:w2.heap[sb]?=some (.cells #[nv,.slice ta K.length tc,.map (some mb),at_,am,fs,ks,vd,ml] 98):=(hgrow.block sb (by simp;omega) (fun e=>HS1.out sb e.symm rfl)).trans ((Below.heap_alloc V _ sb hlV).trans KV.out);have d1:=z6 kb2 1;have d1f:=Q8 kb2 1))
   all_goals
    obtain⟨W3,hW3⟩:∃ W3,w2.setCell ⟨sb,1,none⟩ (.slice (some ⟨g,0,none⟩) (K.length+1) cap')=W3:=⟨_,rfl⟩;have hxV:q9 (fun k=>(Value.slice ta K.length tc).ownBlock=some k) V w2:=((((q9.refl (fun _=>False) V).alloc _).drew).mono (fun _ _ f=>f.elim)).grown hgrow (fun k hk _=>hk);have hx3:q9 (fun k=>k=sb) w2 W3:=by rw[<- hW3];exact(q9.refl (fun k=>k=sb) w2).setCell (p:=⟨sb,1,none⟩) (fun _=>rfl) _
    have kb3:W3.heap[sb]?=some (.cells #[nv,(.slice (some ⟨g,0,none⟩) (K.length+1) cap'),.map (some mb),at_,am,fs,ks,vd,ml] 98):=by rw[<- hW3];exact Y4 kb2 1 _
    have kx3:W3.heap[w.heap.size]?=some (.cells #[.string x.nm,.int .i64 x.ar,.int .i64 x.a0,.int .i64 x.a1,.int .i64 x.a2,.int .i64 x.v] 145):=(hx3.block _ (Nat.lt_of_lt_of_le hlX hxV.size) (by show ¬w.heap.size=sb;omega)).trans ((hxV.block _ hlX (fun e=>by have:=(H.out.own.lt _ e).2;omega)).trans KX.out);have ho3:W3.drew.ownsMap prog 145 (plainElem prog 3) mb K.length D:=Z6 (Z6 (Z6 HOV.out hxV (fun e=>HSEP.out mb e rfl)) hx3 HMS.out) ((q9.refl (fun _=>False) W3).drew) (fun f=>f);obtain⟨W4,hst,how4,hturn⟩:=ho3.store zm2 underlying80 (by unfold maxLen;omega) HKE.out (plainElem_int underlying3 (zU5 (n:=(K.length:Int)) ⟨by omega,by omega⟩));have e1:=z6 kb3 1;have e2:=z6 kb3 2;have y0:=z6 kx3 0;have y1:=z6 kx3 1;have y2:=z6 kx3 2;have y3:=z6 kx3 3;have y4:=z6 kx3 4;have y5:=z6 kx3 5;have HN:Hid (zj6 w sb nv ⟨.slice ta K.length tc,.map (some mb),at_,am,fs,ks,vd,ml⟩ K x (.returned (.int .i64 K.length)) W4):=zM2 (xs:=⟨.slice ta K.length tc,.map (some mb),at_,am,fs,ks,vd,ml⟩) H.out HX.out hin ((HV.out.alloc _).drew) hgrow hown2 (hat.imp id (fun e=>by have:=HV.out.size;omega)) (by
     rcases hat with e|e
     ·exact fun e3=>HSEP.out mb (e3▸e) rfl
     ·have:=HOV.out.lt;omega) (by
     rcases hat with e|e
     ·exact HS1.out g e
     ·omega) HMS.out HMB.out hx3 HMF.out HTD.out how4 ((((q9.refl (fun _=>False) W3).drew).mono (fun _ _ f=>f.elim)).trans (k8 hturn)) kb3
    rw[hW3];clear hW3 hxV hx3 kb3 kx3 ho3 how4 hturn kb2 hown2 hgrow hat c1 c2 d1 d1f;go_wp2_with fail
    go_region
    all_goals
     go_wp2_with fail;go_ret;exact HN.out
def zM4(w:World)(sb:Nat)(nv:Value)(xs:PX)(K:List Z3)(n:Nat)(w':World):Prop :=
 ∃ tv',w'.heap[sb]?=some (.cells #[nv,tv',xs.tm,xs.at_,xs.am,xs.fs,xs.ks,xs.vd,xs.ml] 98)/\zM1 w' tv' xs.tm (K.take n)/\q9 (fun k=>k=sb\/xs.ts.ownBlock=some k\/U5 xs.tm=some k) w w'/\tv'.ownBlock=xs.ts.ownBlock
theorem zZ5{K:List Z3}{n:Nat}(hn:n<=K.length):(K.flatMap Z3.cells).take (n*6)=(K.take n).flatMap Z3.cells:=by
 have hl:∀ l:List Z3,(l.flatMap Z3.cells).length=l.length*6:=by
  intro l
  induction l with
  | nil=>rfl
  | cons a l ih=>simp only[List.flatMap_cons,List.length_append,List.length_cons,ih];simp[Z3.cells];omega
 have e:K.flatMap Z3.cells=(K.take n).flatMap Z3.cells++(K.drop n).flatMap Z3.cells:=by rw[<- List.flatMap_append,List.take_append_drop]
 rw[e,List.take_append_of_le_length (by rw[hl,List.length_take];omega),List.take_of_length_le (by rw[hl,List.length_take];omega)]
theorem qr4{K:List Z3}{i:Nat}{x:Z3}(h:K[i]?=some x)(q:Nat)(hq:q<6):(K.flatMap Z3.cells)[i*6+q]?=x.cells[q]?:=by
 obtain⟨hi,hx⟩:=List.getElem?_eq_some_iff.1 h;have hl:∀ l:List Z3,(l.flatMap Z3.cells).length=l.length*6:=by
  intro l
  induction l with
  | nil=>rfl
  | cons a l ih=>simp only[List.flatMap_cons,List.length_append,List.length_cons,ih];simp[Z3.cells];omega
 have e:K.take i++x::K.drop (i+1)=K:=by rw[<- hx,List.getElem_cons_drop,List.take_append_drop]
 have e2:(K.take i++x::K.drop (i+1)).flatMap Z3.cells=(K.take i).flatMap Z3.cells++(x.cells++(K.drop (i+1)).flatMap Z3.cells):=by simp
 rw[e] at e2;have hlt:((K.take i).flatMap Z3.cells).length=i*6:=by rw[hl,List.length_take];congr 1;omega
 have hc:x.cells.length=6:=rfl;rw[e2,List.getElem?_append_right (by rw[hlt];omega),hlt,show i*6+q-i*6=q by omega,List.getElem?_append_left (by omega)]
theorem zr8{w wr w2 W:World}{sb n:Nat}{nv v':Value}{xs:PX}{K:List Z3}(h:zM1 w xs.ts xs.tm K)(hn:n<=K.length)(hs1:∀ k,xs.ts.ownBlock=some k->¬k=sb)(hs2:∀ k,U5 xs.tm=some k->¬k=sb)(hE:q9 (fun k=>U5 xs.tm=some k) w wr)
  (hm:(xs.tm=.map none/\K=[])\/∃ mb D,xs.tm=.map (some mb)/\wr.ownsMap prog 145 (plainElem prog 3) mb (n+(K.length-K.length)) D/\zj4 klT Z3.Ok (zD6 K n K.length) K D (n+(K.length-K.length)))
  (hown:w2.ownsRow 0 145 6 v' n ((K.flatMap Z3.cells).take (n*6))) (hx:q9 (fun k=>xs.ts.ownBlock=some k) wr w2) (hob:v'.ownBlock=xs.ts.ownBlock) (hW:q9 (fun k=>k=sb) w2 W) (kW:W.heap[sb]?=some (.cells #[nv,v',xs.tm,xs.at_,xs.am,xs.fs,xs.ks,xs.vd,xs.ml] 98)):zM4 w sb nv xs K n W:=by
 refine⟨v',kW,⟨?_,h.nd.sublist (List.take_sublist n K),fun k hk=>h.ok k (List.mem_of_mem_take hk),?_,fun k hk=>by rw[hob] at hk;exact h.sep k hk⟩,?_,hob⟩
 ·rw[zZ5 hn] at hown;have hl:(K.take n).length=n:=by rw[List.length_take];omega
  rw[hl];exact z7 hown hW (fun k hk=>by rw[hob] at hk;exact hs1 k hk)
 ·rcases hm with⟨e1,e2⟩|⟨mb,D,e1,ho,hmf⟩
  ·exact .inl ⟨e1,by rw[e2];simp⟩
  ·refine .inr ⟨mb,D,e1,?_,zU4 hmf hn⟩;have hl:(K.take n).length=n+(K.length-K.length):=by rw[List.length_take];omega
   rw[hl];exact Z6 (Z6 ho hx (fun e=>h.sep mb e (by rw[e1];rfl))) hW (hs2 mb (by rw[e1];rfl))
 ·exact((hE.mono (fun _ _ e=>.inr (.inr e))).trans' hx (fun _ _ e=>.inr (.inl e))).trans' hW (fun _ _ e=>.inl e)
theorem qr5{w:World}{sb:Nat}{nv:Value}{xs:PX}{K:List Z3}(n:Nat)(kb:w.heap[sb]?=some (.cells #[nv,xs.ts,xs.tm,xs.at_,xs.am,xs.fs,xs.ks,xs.vd,xs.ml] 98))(h:zM1 w xs.ts xs.tm K)(hs1:∀ k,xs.ts.ownBlock=some k->¬k=sb)(hs2:∀ k,U5 xs.tm=some k->¬k=sb)(hlen:K.length<=10000000)(hn:n<=K.length):
  Calls prog 65 #[.pointer (some ⟨sb,1,none⟩),.int .i64 n] w fun e w'=>e=.returned (.tuple #[])/\zM4 w sb nv xs K n w':=by
 obtain⟨ts,tm,at_,am,fs,ks,vd,ml⟩:=xs;simp only at kb h hs1 hs2;have hsb:=z8 kb;have hsh:(ts=.slice none 0 0/\K.length=0)\/∃ g tc,ts=.slice (some ⟨g,0,none⟩) K.length tc/\K.length<=tc/\tc<=9223372036854775807/\g<w.heap.size/\∀ q,q<K.length*6->w.cell? ⟨g,q,none⟩=(K.flatMap Z3.cells)[q]?:=by
  rcases h.own.2 with⟨e,e0⟩|⟨g,cap,cur,hv,_,hh,h1,h2,_⟩
  ·exact .inl ⟨e,e0⟩
  ·refine .inr ⟨g,cap,hv,h1,by unfold maxLen at h2;exact h2,z8 hh,fun q hq=>?_⟩;have h3:=h.own;rw[hv] at h3;exact h3.cellAt q hq
 rcases hsh with⟨hts,hK0⟩|⟨g,tc,hts,htc,htc2,hgl,hcells⟩
 ·clear hlen;have hKe:K=[]:=List.length_eq_zero_iff.1 hK0;have hn0:n=0:=by omega
  subst hn0 hts;have HM0:Hid ((tm=.map none/\K=[])\/∃ mb D,tm=.map (some mb)/\w.ownsMap prog 145 (plainElem prog 3) mb (0+(K.length-K.length)) D/\zj4 klT Z3.Ok (zD6 K 0 K.length) K D (0+(K.length-K.length))):=by
   rcases h.map with e|⟨mb,D,e,ho,hm⟩
   ·exact .inl e
   ·have hm2:=zn4 hm (Nat.zero_le _);refine .inr ⟨mb,D,e,?_,?_⟩
    ·rw[show 0+(K.length-K.length)=K.length by omega];exact ho
    ·rw[hK0] at hm2 ⊢;exact hm2
  have c1:=z6 kb 1;have hlb:=hsb;have H:=q8 h;have KB:=q8 kb;have HS1:=q8 hs1;have HS2:=q8 hs2;have HOR:=q8 (z7 h.own ((q9.refl (fun _=>False) w).drew) (fun _ _ f=>f));rw[hK0] at HOR;clear h kb hs1 hs2;go_enter func65,ntmps65;go_wp2_with fail
  go_loopw [13] (fun i wr=>i=.int .i64 0/\wr=w) (fun _ _=>0)
  case atStart=>exact⟨rfl,rfl⟩
  case round=>
   obtain⟨rfl,rfl⟩:=hrel;go_wp2_with fail
   go_region_law (go_simp;go_wp2_with (go_at_call 100;refine(qq5 HOR.out (Nat.le_refl 0) (by omega)).mono ?_;rintro e w2 ⟨v',rfl,hown2,hx2,hob⟩;obtain⟨va,vc,rfl⟩:=Q0 hown2;have kb2:w2.heap[sb]?=some (.cells #[nv,.slice none 0 0,tm,at_,am,fs,ks,vd,ml] 98):=(hx2.block sb hlb (fun e=>HS1.out sb e rfl)).trans KB.out;have d1:=z6 kb2 1;have d1f:=Q8 kb2 1))
   all_goals
    go_wp2_with fail
    go_end0
    refine⟨rfl,?_⟩;exact zr8 (xs:=⟨.slice none 0 0,tm,at_,am,fs,ks,vd,ml⟩) H.out (Nat.zero_le _) HS1.out HS2.out (q9.refl _ _) HM0.out hown2 (((q9.refl _ _).drew).trans hx2) hob ((q9.refl (fun k=>k=sb) w2).setCell (p:=⟨sb,1,none⟩) (fun _=>rfl) _) (Y4 kb2 1 _)
 ·by_cases hK0:K.length=0
  ·clear hlen hcells htc2;rw[hK0] at hts;have hKe:K=[]:=List.length_eq_zero_iff.1 hK0;have hn0:n=0:=by omega
   subst hn0 hts;have HM0:Hid ((tm=.map none/\K=[])\/∃ mb D,tm=.map (some mb)/\w.ownsMap prog 145 (plainElem prog 3) mb (0+(K.length-K.length)) D/\zj4 klT Z3.Ok (zD6 K 0 K.length) K D (0+(K.length-K.length))):=by
    rcases h.map with e|⟨mb,D,e,ho,hm⟩
    ·exact .inl e
    ·have hm2:=zn4 hm (Nat.zero_le _);refine .inr ⟨mb,D,e,?_,?_⟩
     ·rw[show 0+(K.length-K.length)=K.length by omega];exact ho
     ·rw[hK0] at hm2 ⊢;exact hm2
   have c1:=z6 kb 1;have hlb:=hsb;have H:=q8 h;have KB:=q8 kb;have HS1:=q8 hs1;have HS2:=q8 hs2;have HOR:=q8 (z7 h.own ((q9.refl (fun _=>False) w).drew) (fun _ _ f=>f));rw[hK0] at HOR;clear h kb hs1 hs2;go_enter func65,ntmps65;go_wp2_with fail
   go_loopw [13] (fun i wr=>i=.int .i64 0/\wr=w) (fun _ _=>0)
   case atStart=>exact⟨rfl,rfl⟩
   case round=>
    obtain⟨rfl,rfl⟩:=hrel;go_wp2_with fail
    go_region_law (go_simp;go_wp2_with (go_at_call 100;refine(qq5 HOR.out (Nat.le_refl 0) (by omega)).mono ?_;rintro e w2 ⟨v',rfl,hown2,hx2,hob⟩;obtain⟨va,vc,rfl⟩:=Q0 hown2;have kb2:w2.heap[sb]?=some (.cells #[nv,.slice (some ⟨g,0,none⟩) 0 tc,tm,at_,am,fs,ks,vd,ml] 98):=(hx2.block sb hlb (fun e=>HS1.out sb e rfl)).trans KB.out;have d1:=z6 kb2 1;have d1f:=Q8 kb2 1))
    all_goals
     go_wp2_with fail
     go_end0
     refine⟨rfl,?_⟩;exact zr8 (xs:=⟨.slice (some ⟨g,0,none⟩) 0 tc,tm,at_,am,fs,ks,vd,ml⟩) H.out (Nat.zero_le _) HS1.out HS2.out (q9.refl _ _) HM0.out hown2 (((q9.refl _ _).drew).trans hx2) hob ((q9.refl (fun k=>k=sb) w2).setCell (p:=⟨sb,1,none⟩) (fun _=>rfl) _) (Y4 kb2 1 _)
  subst hts;rcases h.map with⟨hmv,hK⟩|⟨mb,D,hmv,ho,hm⟩
  ·exact absurd (by rw[hK];rfl) hK0
  ·subst hmv;obtain⟨A,hA,hA2⟩:∃ A,(if tc=n then some (⟨g,0,none⟩:Addr) else some ⟨g,n*6,none⟩)=some A/\(n<tc->A=⟨g,n*6,none⟩):=by
    by_cases h:tc=n
    ·exact⟨_,by rw[if_pos h],fun h2=>by omega⟩
    ·exact⟨_,by rw[if_neg h],fun _=>rfl⟩
   have hnc:n<=tc:=by omega
   have c1:=z6 kb 1;have HMF:=q8 (zn4 hm hn);have HO:=q8 ho;have H:=q8 h;have KB:=q8 kb;have HCELLS:=q8 hcells;have HA2:=q8 hA2;have HS1:=q8 hs1;have HS2:=q8 hs2;have HMS:Hid (¬mb=sb):=hs2 mb rfl;have hml:=ho.lt;clear h kb ho hm hcells hA2 hs1 hs2;go_enter func65,ntmps65;go_wp2_with fail
   go_loopw [13] (fun i wr=>∃ (j:Nat) (D:DataW Unit),n<=j/\j<=K.length/\i=.int .i64 ((j-n:Nat):Int)/\q9 (fun k=>k=mb) w wr/\wr.ownsMap prog 145 (plainElem prog 3) mb (n+(K.length-j)) D/\zj4 klT Z3.Ok (zD6 K n j) K D (n+(K.length-j))) (fun i _=>K.length-n-(intOf i).toNat)
   case atStart=>exact⟨n,D,Nat.le_refl _,hn,by simp,q9.refl _ _,by rw[show n+(K.length-n)=K.length by omega];exact HO.out,HMF.out⟩
   case round=>
    clear c1;obtain⟨j,Dj,hj1,hj2,rfl,hE,hoj,hmj⟩:=hrel;have kbr:=(hE.block sb hsb (fun e=>HMS.out e.symm)).trans KB.out;have c1:=z6 kbr 1;have c2:=z6 kbr 2;have hlb:=z8 kbr;have HE:=q8 hE;have HOJ:=q8 hoj;have HMJ:=q8 hmj;have KBR:=q8 kbr;clear hE hoj hmj kbr;by_cases hlt:j<K.length
    ·obtain⟨x,hx⟩:∃ x,K[j]?=some x:=⟨_,List.getElem?_eq_getElem hlt⟩;have hAe:=HA2.out (by omega);subst hAe;have hxo:=H.out.ok x (List.mem_of_getElem? hx);have hke:keyOf prog 145 (.agg #[.string x.nm,.int .i64 x.ar,.int .i64 x.a0,.int .i64 x.a1,.int .i64 x.a2,.int .i64 x.v])=some (klT x):=zL9 hxo;have hgm:¬g=mb:=fun e=>H.out.sep g rfl (by rw[e];rfl)
     have hc:∀ q,q<6->wr.cell? ⟨g,j*6+q,none⟩=x.cells[q]?:=by intro q hq;rw[HE.out.cell (p:=⟨g,j*6+q,none⟩) hgl hgm,HCELLS.out _ (by omega)];exact qr4 hx q hq
     have z0:wr.cell? ⟨g,j*6,none⟩=some (.string x.nm):=hc 0 (by decide);have z1:wr.cell? ⟨g,j*6+1,none⟩=some (.int .i64 x.ar):=hc 1 (by decide);have z2:wr.cell? ⟨g,j*6+2,none⟩=some (.int .i64 x.a0):=hc 2 (by decide);have z3:wr.cell? ⟨g,j*6+3,none⟩=some (.int .i64 x.a1):=hc 3 (by decide);have z4:wr.cell? ⟨g,j*6+4,none⟩=some (.int .i64 x.a2):=hc 4 (by decide);have z5:wr.cell? ⟨g,j*6+5,none⟩=some (.int .i64 x.v):=hc 5 (by decide);have ho1:(wr.alloc (.cells #[.string x.nm,.int .i64 x.ar,.int .i64 x.a0,.int .i64 x.a1,.int .i64 x.a2,.int .i64 x.v] 145)).drew.ownsMap prog 145 (plainElem prog 3) mb (n+(K.length-j)) Dj:=(HOJ.out.alloc _).drew;obtain⟨W1,hdr,how,hturn⟩:=ho1.drop zm2 underlying80 hke 0;have HMN:=q8 (qh8 HMJ.out (HOJ.out.tidy zm2) H.out.nd H.out.ok (fun y hy e=>qz0 hy hxo e) hj1 hx);have hE1:q9 (fun k=>k=mb) w W1:=(((HE.out.alloc _).drew).trans (k8 hturn));have HE1:=q8 hE1;have HOW:=q8 (zU6 how HMN.out.size);have e4:n*6+(j-n)*6=j*6:=by omega
     clear how hturn ho1 hke hx hc hE1;go_wp2_with fail
     go_region
     all_goals
      go_wp2_with fail
      go_roundw
      case measure=>simp[intOf];omega
      case rel=>exact⟨j+1,_,by omega,by omega,by congr 1;omega,HE1.out,HOW.out,HMN.out⟩
    ·have hjn:j=K.length:=by omega
     subst hjn;have HOR:=q8 (z7 H.out.own HE.out.drew (fun k hk e=>H.out.sep k hk (by rw[e];rfl)));go_wp2_with fail
     go_region_law (go_simp;go_wp2_with (go_at_call 100;refine(qq5 HOR.out hn (by omega)).mono ?_;rintro e w2 ⟨v',rfl,hown2,hx2,hob⟩;obtain⟨va,vc,rfl⟩:=Q0 hown2;have kb2:w2.heap[sb]?=some (.cells #[nv,.slice (some ⟨g,0,none⟩) K.length tc,.map (some mb),at_,am,fs,ks,vd,ml] 98):=(hx2.block sb hlb (fun e=>HS1.out sb e rfl)).trans KBR.out;have d1:=z6 kb2 1;have d1f:=Q8 kb2 1))
     all_goals
      go_wp2_with fail
      go_end0
      refine⟨rfl,?_⟩;exact zr8 (xs:=⟨.slice (some ⟨g,0,none⟩) K.length tc,.map (some mb),at_,am,fs,ks,vd,ml⟩) H.out hn HS1.out HS2.out (HE.out.mono (fun _ _ e=>by rw[e];rfl)) (.inr ⟨mb,Dj,rfl,HOJ.out,HMJ.out⟩) hown2 (((q9.refl _ wr).drew).trans hx2) hob ((q9.refl (fun k=>k=sb) w2).setCell (p:=⟨sb,1,none⟩) (fun _=>rfl) _) (Y4 kb2 1 _)
noncomputable def ix(T ps:List Nd)(q:Nat):Int:=match ps[q]? with
 | some p=>(idx T p:Int)
 | none=>0
noncomputable def keyT(T:List Nd):Nd->Z3
 | .mk k w v ps=>if k=4 then⟨ByteArray.empty,0,0,0,0,v⟩ else⟨w,ps.length,ix T ps 0,ix T ps 1,ix T ps 2,0⟩
theorem qR2{T T' ps:List Nd}(h:T <+:T')(hp:∀ p∈ps,p∈T)(q:Nat):ix T' ps q=ix T ps q:=by
 unfold ix;split
 ·rename_i p hq;rw[zI2 h (hp p (List.mem_of_getElem? hq))]
 ·rfl
theorem zM6{T T':List Nd}(h:T <+:T'){x:Nd}(hp:∀ p∈parts x,p∈T):keyT T' x=keyT T x:=by
 cases x with
 | mk k w v ps=>have hp':∀ p∈ps,p∈T:=hp;simp only[keyT,qR2 h hp']
theorem zs0{T:List Nd}{x:Nd}(h:x∈T):idx T x<T.length:=(List.getElem?_eq_some_iff.1 (zc1 h)).1
theorem sm0:Sm 0:=⟨by decide,by decide⟩
theorem qi2{T ps:List Nd}(hp:∀ p∈ps,p∈T)(hl:T.length<=10000000)(q:Nat):Sm (ix T ps q):=by
 unfold ix;split
 ·rename_i p hq;have:=zs0 (hp p (List.mem_of_getElem? hq));exact⟨by omega,by omega⟩
 ·exact⟨by decide,by decide⟩
theorem zD7{w:ByteArray}(h:X6 w.toList=true):w.size<=8:=by simp only[X6,Bool.and_eq_true,decide_eq_true_eq] at h;rw[<- Z4];exact h.2.2
theorem qz2{T:List Nd}{x:Nd}(hx:Y5 x)(hp:∀ p∈parts x,p∈T)(hl:T.length<=10000000):(keyT T x).Ok:=by
 cases hx with
 | num h1 h2=>
  rw[keyT,if_pos rfl];refine⟨?_,sm0,sm0,sm0,sm0,?_⟩
  ·show ByteArray.empty.size<=1000
   decide
  ·exact⟨by show _<=_;simp only;omega,by show _<=_;simp only;omega⟩
 | @app w ps hw hl' hps=>rw[keyT,if_neg (by decide)];have hp':∀ p∈ps,p∈T:=hp;have hsz:=zD7 hw;exact⟨by show _<=_;simp only;omega,⟨by show _<=_;simp only;omega,by show _<=_;simp only;omega⟩,qi2 hp' hl 0,qi2 hp' hl 1,qi2 hp' hl 2,sm0⟩
theorem qr8{T ps qs:List Nd}(hp:∀ p∈ps,p∈T)(hq:∀ p∈qs,p∈T)(hl:ps.length=qs.length){i:Nat}(h:ix T ps i=ix T qs i):ps[i]?=qs[i]?:=by
 unfold ix at h;cases h1:ps[i]? with
 | none=>
  have:qs[i]?=none:=by rw[List.getElem?_eq_none_iff] at h1 ⊢;omega
  rw[this]
 | some p=>have hi:=(List.getElem?_eq_some_iff.1 h1).1;have h2:qs[i]?=some qs[i]:=List.getElem?_eq_getElem (by omega);rw[h1,h2] at h;simp only at h;have:=zB3 (hp p (List.mem_of_getElem? h1)) (hq _ (List.mem_of_getElem? h2)) (by omega);rw[h2,this]
theorem qR3{T:List Nd}{x y:Nd}(hx:Y5 x)(hy:Y5 y)(hpx:∀ p∈parts x,p∈T)(hpy:∀ p∈parts y,p∈T)(h:keyT T x=keyT T y):x=y:=by
 cases hx with
 | num h1 h2=>
  cases hy with
  | num h3 h4=>rw[keyT,if_pos rfl,keyT,if_pos rfl] at h;simp at h;rw[h]
  | @app w ps hw hl hps=>rw[keyT,if_pos rfl,keyT,if_neg (by decide)] at h;simp only[Z3.mk.injEq] at h;rw[<- h.1,zf1] at hw;exact absurd hw (by decide)
 | @app w ps hw hl hps=>
  cases hy with
  | num h3 h4=>rw[keyT,if_neg (by decide),keyT,if_pos rfl] at h;simp only[Z3.mk.injEq] at h;rw[h.1,zf1] at hw;exact absurd hw (by decide)
  | @app w' qs hw' hl' hqs=>
   rw[keyT,if_neg (by decide),keyT,if_neg (by decide)] at h;simp only[Z3.mk.injEq] at h;obtain⟨rfl,hlen,e0,e1,e2,_⟩:=h;have hlq:ps.length=qs.length:=by omega
   have hpx':∀ p∈ps,p∈T:=hpx;have hpy':∀ p∈qs,p∈T:=hpy;have:ps=qs:=by
    apply List.ext_getElem?;intro i
    match i with
    | 0=>exact qr8 hpx' hpy' hlq e0
    | 1=>exact qr8 hpx' hpy' hlq e1
    | 2=>exact qr8 hpx' hpy' hlq e2
    | i+3=>rw[List.getElem?_eq_none (by omega),List.getElem?_eq_none (by omega)]
   rw[this]
noncomputable def keys(T:List Nd):List Z3:=T.map (keyT T)
theorem Y3(T:List Nd):(keys T).length=T.length:=by simp[keys]
theorem qi3{T T':List Nd}(h:T <+:T')(hc:Cl T):T.map (keyT T')=keys T:=by unfold keys;apply List.map_congr_left;intro x hx;exact zM6 h (fun p hp=>hc.part hx hp)
theorem qi4{T:List Nd}{x:Nd}(hc:Cl T)(hx:Y5 x)(hp:∀ p∈parts x,p∈T):keys (putN T x)=putK (keys T) (keyT T x):=by
 by_cases hin:x∈T
 ·rw[zp8 hin,zt8 (show keyT T x∈keys T from List.mem_map.2 ⟨x,hin,rfl⟩)]
 ·have hno:¬keyT T x∈keys T:=by
   intro hm;obtain⟨y,hy,e⟩:=List.mem_map.1 hm;obtain⟨i,hi⟩:=List.mem_iff_getElem?.1 hy;have:=qR3 (hc i y hi).1 hx (fun p hp'=>hc.part hy hp') hp e;exact hin (this▸hy)
  rw[zk5 hin,zb6 hno];have hpre:T <+:T++[x]:=List.prefix_append _ _;have h1:=qi3 hpre hc;have h2:=zM6 hpre hp;show List.map _ _=_;rw[List.map_append,h1,List.map_cons,List.map_nil,h2]
theorem qG5{T:List Nd}(hc:Cl T)(n:Nat):keys (T.take n)=(keys T).take n:=by have h1:=qi3 (List.take_prefix n T) (hc.take n);unfold keys at *;rw[<- List.map_take,h1]
theorem qG6{T:List Nd}{x:Nd}(hc:Cl T)(hx:Y5 x)(hp:∀ p∈parts x,p∈T)(hnd:(keys (putN T x)).Nodup){i:Nat}(h:(putK (keys T) (keyT T x))[i]?=some (keyT T x)):i=idx (putN T x) x:=by
 rw[<- qi4 hc hx hp] at h;have hm:x∈putN T x:=zh3.2 (.inr rfl);have h1:(keys (putN T x))[idx (putN T x) x]?=some (keyT T x):=by unfold keys;rw[List.getElem?_map,zc1 hm];simp only[Option.map_some,Option.some.injEq];exact zM6 zB2 hp
 obtain⟨hi,e1⟩:=List.getElem?_eq_some_iff.1 h;obtain⟨hj,e2⟩:=List.getElem?_eq_some_iff.1 h1;have hpw:=List.pairwise_iff_getElem.1 hnd;rcases Nat.lt_trichotomy i (idx (putN T x) x) with hlt|heq|hgt
 ·exact absurd (e1.trans e2.symm) (hpw _ _ hi hj hlt)
 ·exact heq
 ·exact absurd (e2.trans e1.symm) (hpw _ _ hj hi hgt)
structure TS(w:World)(sb:Nat)(nv:Value)(xs:PX)(T:List Nd):Prop where
 blk:w.heap[sb]?=some (.cells #[nv,xs.ts,xs.tm,xs.at_,xs.am,xs.fs,xs.ks,xs.vd,xs.ml] 98)
 row:zM1 w xs.ts xs.tm (keys T)
 cl:Cl T
 nd:T.Nodup
 s1:∀ k,xs.ts.ownBlock=some k->¬k=sb
 s2:∀ k,U5 xs.tm=some k->¬k=sb
def TF(sb:Nat)(xs:PX)(k:Nat):Prop:=k=sb\/xs.ts.ownBlock=some k\/U5 xs.tm=some k
theorem TS.ext{S:Nat->Prop}{w w':World}{sb:Nat}{nv:Value}{xs:PX}{T:List Nd}(h:TS w sb nv xs T)(hx:q9 S w w')(hS:∀ k,TF sb xs k->¬S k):TS w' sb nv xs T :=
 ⟨(hx.block sb (z8 h.blk) (hS sb (.inl rfl))).trans h.blk,h.row.ext hx (fun g hg=>hS g (.inr (.inl hg))) (fun g hg=>hS g (.inr (.inr hg))),h.cl,h.nd,h.s1,h.s2⟩
theorem TS.lt{w:World}{sb:Nat}{nv:Value}{xs:PX}{T:List Nd}(h:TS w sb nv xs T):∀ k,TF sb xs k->k<w.heap.size:=by
 rintro k (rfl|e|e)
 ·exact z8 h.blk
 ·exact(h.row.own.lt k e).2
 ·rcases h.row.map with⟨e2,_⟩|⟨mb,D,e2,ho,_⟩
  ·rw[e2] at e;exact absurd e (by simp[U5])
  ·rw[e2] at e;simp[U5] at e;subst e;exact ho.lt
def TPost(w:World)(sb:Nat)(nv:Value)(xs:PX)(T':List Nd)(i:Nat)(e:Ending)(w':World):Prop :=
 e=.returned (.int .i64 i)/\∃ ts' tm',TS w' sb nv { xs with ts:=ts',tm:=tm' } T'/\q9 (TF sb xs) w w'/\(∀ k,TF sb { xs with ts:=ts',tm:=tm' } k->TF sb xs k\/w.heap.size<=k)
theorem qi5{w:World}{sb:Nat}{nv:Value}{xs:PX}{T:List Nd}{x:Nd}(h:TS w sb nv xs T)(hx:Y5 x)(hp:∀ p∈parts x,p∈T)(hl:T.length<=10000000):
  Calls prog 188 #[.pointer (some ⟨sb,1,none⟩),(keyT T x).val] w (TPost w sb nv xs (putN T x) (idx (putN T x) x)):=by
 refine(qr2 (keyT T x) h.blk h.row (qz2 hx hp hl) h.s1 h.s2 (by rw[Y3];exact hl)).mono ?_;rintro e w' ⟨i,tv',mv',rfl,hi,hb,hr,hE,h1,h2⟩;rw[<- qi4 h.cl hx hp] at hr;have hpl:=qG6 h.cl hx hp hr.nd hi;subst hpl;have hsb:=z8 h.blk;refine⟨rfl,tv',mv',⟨hb,hr,h.cl.put hx hp,zk6 h.nd,fun k hk e=>?_,fun k hk e=>?_⟩,hE,?_⟩
 ·rcases h1 k hk with h'|h'
  ·exact h.s1 k h' e
  ·omega
 ·rcases h2 k hk with h'|h'
  ·exact h.s2 k h' e
  ·omega
 ·rintro k (e|e|e)
  ·exact .inl (.inl e)
  ·exact(h1 k e).imp (fun h=>.inr (.inl h)) id
  ·exact(h2 k e).imp (fun h=>.inr (.inr h)) id
theorem PN.within{w:World}{D:Nat->Prop}{cs:List Value}{nd:Nd}(h:PN w D cs nd):PN w (fun k=>D k/\k<w.heap.size) cs nd:=by
 induction h with
 | mk how hl hn hD _ ih=>exact PN.mk how hl hn (fun g hg=>⟨hD g hg,(how.lt g hg).2⟩) ih
theorem jk9:∀ {kids:List (List Value)},(∀ cs∈kids,cs.length=4)->∀ {i:Nat} {cs:List Value},kids[i]?=some cs->∀ q,q<4->kids.flatten[i*4+q]?=cs[q]?
 | [],_,i,cs,h,_,_=>absurd h (by simp)
 | k::ks,hl,0,cs,h,q,hq=>by
  simp at h;subst h;have:=hl k (by simp);rw[List.flatten_cons,List.getElem?_append_left (by omega)]
  congr 1
  omega
 | k::ks,hl,i+1,cs,h,q,hq=>by have h4:=hl k (by simp);rw[List.flatten_cons,List.getElem?_append_right (by omega),h4,show(i+1)*4+q-4=i*4+q by omega];exact jk9 (fun c hc=>hl c (List.mem_cons_of_mem _ hc)) (by simpa using h) q hq
theorem zA6{w:World}{D:Nat->Prop}{pv:Value}{kids:List (List Value)}{ps:List Nd}(how:w.ownsRow 0 115 4 pv ps.length kids.flatten)(hl:∀ cs∈kids,cs.length=4)(hn:kids.length=ps.length)(hD:∀ g,pv.ownBlock=some g->D g)
  (hk:∀ (i:Nat) (cs:List Value) (p:Nd),kids[i]?=some cs->ps[i]?=some p->PN w D cs p):
  ∃ a cap,pv=.slice a ps.length cap/\ps.length<=cap/\cap<=9223372036854775807/\∀ i p,ps[i]?=some p->∃ g k' wd' v' pa' pn' pc',a=some ⟨g,0,none⟩/\g<w.heap.size/\D g/\w.cell? ⟨g,i*4,none⟩=some (.int .i64 k')/\w.cell? ⟨g,i*4+1,none⟩=some (.string wd')/\w.cell? ⟨g,i*4+2,none⟩=some (.int .i64 v')/\w.cell? ⟨g,i*4+3,none⟩=some (.slice pa' pn' pc')/\PN w D [.int .i64 k',.string wd',.int .i64 v',.slice pa' pn' pc'] p:=by
 rcases how.2 with⟨e,e0⟩|⟨g,cap,cur,hv,hg,hh,h1,h2,hr⟩
 ·refine⟨none,0,by rw[e,e0],by omega,by omega,fun i p hp=>?_⟩;have:=(List.getElem?_eq_some_iff.1 hp).1;omega
 ·refine⟨some ⟨g,0,none⟩,cap,hv,h1,by unfold maxLen at h2;exact h2,fun i p hp=>?_⟩;have hi:=(List.getElem?_eq_some_iff.1 hp).1;obtain⟨cs,hc⟩:∃ cs,kids[i]?=some cs:=⟨_,List.getElem?_eq_getElem (by omega)⟩;have hpn:=hk i cs p hc hp;have hpn2:=hpn;cases hpn with
  | @mk k' v' wd' ps' pv' kids' how' hl' hn' hD' hk'=>
   obtain⟨pa',pc',rfl⟩:=Q0 how';have hcell:∀ q,q<4->w.cell? ⟨g,i*4+q,none⟩=[Value.int .i64 k',.string wd',.int .i64 v',.slice pa' ps'.length pc'][q]?:=by intro q hq;have h3:=how;rw[hv] at h3;rw[h3.cellAt _ (by omega)];exact jk9 hl hc q hq
   exact⟨g,k',wd',v',pa',ps'.length,pc',rfl,z8 hh,hD g (by rw[hv];rfl),hcell 0 (by decide),hcell 1 (by decide),hcell 2 (by decide),hcell 3 (by decide),hpn2⟩
noncomputable def tcs(w:ByteArray)(T ps:List Nd)(j:Nat):Array Value:=#[.string w,.int .i64 ps.length,.int .i64 (if 0<j then ix T ps 0 else 0),.int .i64 (if 1<j then ix T ps 1 else 0),.int .i64 (if 2<j then ix T ps 2 else 0),.int .i64 0]
theorem jd1{w:ByteArray}{T ps:List Nd}{j:Nat}(hj:j<3):(tcs w T ps j).setIfInBounds (2+j) (.int .i64 (ix T ps j))=tcs w T ps (j+1):=by
 match j,hj with
 | 0,_=>rfl
 | 1,_=>rfl
 | 2,_=>rfl
theorem qR4(w:ByteArray)(T ps:List Nd):tcs w T ps 0=#[.string w,.int .i64 ps.length,.int .i64 0,.int .i64 0,.int .i64 0,.int .i64 0]:=rfl
theorem qR5{w:ByteArray}{T ps:List Nd}:tcs w T ps ps.length=#[.string w,.int .i64 ps.length,.int .i64 (ix T ps 0),.int .i64 (ix T ps 1),.int .i64 (ix T ps 2),.int .i64 0]:=by
 have h:∀ q,(if q<ps.length then ix T ps q else 0)=ix T ps q:=by
  intro q;split
  ·rfl
  ·unfold ix;rw[List.getElem?_eq_none (by omega)]
 unfold tcs;rw[h 0,h 1,h 2]
theorem qR6{w:ByteArray}{T ps:List Nd}{j q:Nat}(hq:q<6):∃ u,(tcs w T ps j)[q]?=some u:=⟨_,Array.getElem?_eq_getElem (by simpa[tcs] using hq)⟩
structure TW2(w:World)(sb nb tb:Nat)(nv:Value)(xs:PX)(T:List Nd)(k v:Int)(word:ByteArray)(pv:Value)(ps:List Nd)(j:Nat)(wr:World):Prop where
 ext:q9 (TF sb xs) w wr
 nbk:wr.heap[nb]?=some (.cells #[.int .i64 k,.string word,.int .i64 v,pv] 115)
 tbk:wr.heap[tb]?=some (.cells (tcs word (addTs T ps) ps j) 145)
 ts:∃ ts' tm',TS wr sb nv { xs with ts:=ts',tm:=tm' } (addTs T (ps.take j))/\(∀ q,TF sb { xs with ts:=ts',tm:=tm' } q->TF sb xs q\/w.heap.size+2<=q)
theorem jd2(T:List Nd)(v:Int):(keyT T (.mk 4 ByteArray.empty v [])).val=.agg #[.string ⟨#[]⟩,.int .i64 0,.int .i64 0,.int .i64 0,.int .i64 0,.int .i64 v]:=by
 rw[keyT,if_pos rfl]
 rfl
theorem jd3(T:List Nd)(w:ByteArray)(v:Int)(ps:List Nd):(keyT T (.mk 3 w v ps)).val=.agg #[.string w,.int .i64 ps.length,.int .i64 (ix T ps 0),.int .i64 (ix T ps 1),.int .i64 (ix T ps 2),.int .i64 0]:=by
 rw[keyT,if_neg (by decide)]
 rfl
theorem TPost.of_ext{w W:World}{sb:Nat}{nv:Value}{xs:PX}{T':List Nd}{i:Nat}{e:Ending}{w':World}(hx:q9 (fun _=>False) w W)(h:TPost W sb nv xs T' i e w'):TPost w sb nv xs T' i e w':=by obtain⟨h1,ts',tm',h2,h3,h4⟩:=h;exact⟨h1,ts',tm',h2,(hx.mono (fun _ _ f=>f.elim)).trans h3,fun k hk=>(h4 k hk).imp id (fun e=>Nat.le_trans hx.size e)⟩
theorem qR7{w:World}{sb:Nat}{nv:Value}{xs:PX}{T:List Nd}{v:Int}{wd:ByteArray}{pa:Option Addr}{pn pc:Nat}(h:TS w sb nv xs T)(h1:-1000<=v)(h2:v<=1000)(hl:T.length<=10000000):
  Calls prog 148 #[.pointer (some ⟨sb,1,none⟩),.agg #[.int .i64 4,.string wd,.int .i64 v,.slice pa pn pc]] w (TPost w sb nv xs (addT T (.mk 4 ByteArray.empty v [])) (idx (addT T (.mk 4 ByteArray.empty v [])) (.mk 4 ByteArray.empty v []))):=by
 have H:=q8 h;have hsb:=z8 h.blk;have HX0:Hid (q9 (fun _=>False) w (w.alloc (.cells #[.int .i64 4,.string wd,.int .i64 v,.slice pa pn pc] 115)).drew):=((q9.refl _ w).alloc _).drew;clear h;go_enter func148,ntmps148;go_wp2_with fail;have hc:=qi5 (H.out.ext HX0.out (fun _ _ f=>f)) (.num h1 h2) (fun p hp=>absurd hp (by simp[parts])) hl;rw[jd2] at hc;have HC:=q8 hc;clear hc
 go_region_law (go_simp;go_wp2_with (go_at_call 188;refine HC.out.mono ?_;rintro e w' hp;have hp2:=hp.of_ext HX0.out;obtain⟨rfl,hp3⟩:=hp2;have HP:=q8 hp3;clear hp hp3))
 all_goals
  go_wp2_with fail;go_ret;exact⟨rfl,HP.out⟩
theorem zZ7(T:List Nd)(ps qs:List Nd):addTs T (ps++qs)=addTs (addTs T ps) qs:=by
 induction ps generalizing T with
 | nil=>simp[addTs]
 | cons p ps ih=>simp[addTs,ih]
theorem zg1:∀ {qs:List Nd},(∀ q∈qs,Y5 q)->∀ T,∃ xs,zO0 T (addTs T qs) xs/\(∀ y,y∈xs↔y∈Z0 true qs)/\xs.length=(Z0 true qs).length
 | [],_,T=>⟨[],by simp only[addTs];exact zO0.refl T,fun y=>by simp[Z0],rfl⟩
 | q::qs,hq,T=>by obtain⟨xs,h1,h2,h3⟩:=qJ8 (hq q (by simp)) T;obtain⟨ys,k1,k2,k3⟩:=zg1 (qs:=qs) (fun r hr=>hq r (List.mem_cons_of_mem _ hr)) (addT T q);refine⟨xs++ys,?_,fun y=>by simp only[Z0,List.mem_append,h2,k2],by simp only[Z0,List.length_append,h3,k3]⟩;simp only[addTs];exact h1.trans k1
theorem qG7{ps:List Nd}(hp:∀ p∈ps,Y5 p)(T:List Nd)(j:Nat):addTs T (ps.take j) <+:addTs T ps:=by
 have e:addTs T ps=addTs (addTs T (ps.take j)) (ps.drop j):=by rw[<- zZ7,List.take_append_drop]
 obtain⟨xs,h,_⟩:=zg1 (qs:=ps.drop j) (fun q hq=>hp q (List.mem_of_mem_drop hq)) (addTs T (ps.take j));rw[e];exact h.pre
theorem zt9{ps:List Nd}(hp:∀ p∈ps,Y5 p)(T:List Nd):(addTs T ps).length<=T.length+(Z0 true ps).length:=by obtain⟨xs,h,_,h3⟩:=zg1 hp T;have:=h.len;omega
theorem zu0(t:Bool){qs:List Nd}{j:Nat}{p:Nd}(h:qs[j]?=some p):(Z0 t (qs.take j)).length+(J0 t p).length<=(Z0 t qs).length:=by
 have h1:Z0 t (qs.take (j+1))=Z0 t (qs.take j)++J0 t p:=by rw[List.take_add_one,h,zf0];simp[Z0]
 have h2:Z0 t qs=Z0 t (qs.take (j+1))++Z0 t (qs.drop (j+1)):=by rw[<- zf0,List.take_append_drop]
 rw[h2,h1];simp only[List.length_append];omega
theorem zn5{p:Nd}(h:Y5 p):p∈J0 true p:=by cases h<;>simp[J0,O7]
theorem zU7{ps:List Nd}(hp:∀ p∈ps,Y5 p)(T:List Nd):∀ p∈ps,p∈addTs T ps:=by intro p hpp;obtain⟨xs,h,h2,_⟩:=zg1 hp T;rw[h.mem,h2,Y9];exact .inr ⟨p,hpp,zn5 (hp p hpp)⟩
theorem zu1{ps:List Nd}(hp:∀ p∈ps,Y5 p){T:List Nd}{j:Nat}{p:Nd}(h:ps[j]?=some p):(idx (addT (addTs T (ps.take j)) p) p:Int)=ix (addTs T ps) ps j:=by
 have e:addT (addTs T (ps.take j)) p=addTs T (ps.take (j+1)):=by rw[List.take_add_one,h];exact(zx8 T _ p).symm
 unfold ix;rw[h];simp only;rw[zI2 (qG7 hp T (j+1)) (by rw[<- e];exact qJ9 _ p),<- e]
def js8(sb:Nat)(nv:Value)(p:Nd):Prop:=∀ (w:World) (xs:PX) (T:List Nd) (D:Nat->Prop) (k':Int) (wd':ByteArray) (v':Int) (pa':Option Addr) (pn' pc':Nat),PN w D [.int .i64 k',.string wd',.int .i64 v',.slice pa' pn' pc'] p->(∀ k,D k->k<w.heap.size)->(∀ k,D k->¬TF sb xs k)->TS w sb nv xs T->T.length+(J0 true p).length<=9000000 ->
 Calls prog 148 #[.pointer (some ⟨sb,1,none⟩),.agg #[.int .i64 k',.string wd',.int .i64 v',.slice pa' pn' pc']] w (TPost w sb nv xs (addT T p) (idx (addT T p) p))
theorem jd4{w wr V w2:World}{sb:Nat}{nv pv:Value}{xs:PX}{T:List Nd}{k v:Int}{word:ByteArray}{ps:List Nd}{j:Nat}{p:Nd}{ts1 tm1 ts2 tm2:Value}(hps:∀ p∈ps,Y5 p)(h:TW2 w sb w.heap.size (w.heap.size+1) nv xs T k v word pv ps j wr)(hlt:∀ q,TF sb xs q->q<w.heap.size)(hl:w.heap.size+2<=wr.heap.size)(hx:q9 (fun _=>False) wr V)
  (hf1:∀ q,TF sb { xs with ts:=ts1,tm:=tm1 } q->TF sb xs q\/w.heap.size+2<=q) (h2:TS w2 sb nv { xs with ts:=ts2,tm:=tm2 } (addT (addTs T (ps.take j)) p)) (hE:q9 (TF sb { xs with ts:=ts1,tm:=tm1 }) V w2) (hf2:∀ q,TF sb { xs with ts:=ts2,tm:=tm2 } q->TF sb { xs with ts:=ts1,tm:=tm1 } q\/V.heap.size<=q)
  (hp:ps[j]?=some p) (hj:j<3):w2.heap[w.heap.size+1]?=some (.cells (tcs word (addTs T ps) ps j) 145)/\TW2 w sb w.heap.size (w.heap.size+1) nv xs T k v word pv ps (j+1) (w2.setCell ⟨w.heap.size+1,2+j,none⟩ (.int .i64 (idx (addT (addTs T (ps.take j)) p) p:Nat))):=by
 have hno:∀ q,q<w.heap.size+2->w.heap.size<=q->¬TF sb { xs with ts:=ts1,tm:=tm1 } q:=by
  intro q h1 h2 h3;rcases hf1 q h3 with e|e
  ·have:=hlt q e;omega
  ·omega
 have s1:=hx.size;have kt:w2.heap[w.heap.size+1]?=some (.cells (tcs word (addTs T ps) ps j) 145):=(hE.block _ (by omega) (hno _ (by omega) (by omega))).trans ((hx.block _ (by omega) (fun f=>f)).trans h.tbk);have kn:w2.heap[w.heap.size]?=some (.cells #[.int .i64 k,.string word,.int .i64 v,pv] 115):=(hE.block _ (by omega) (hno _ (by omega) (Nat.le_refl _))).trans ((hx.block _ (by omega) (fun f=>f)).trans h.nbk);have hxs:q9 (fun q=>q=w.heap.size+1) w2 (w2.setCell ⟨w.heap.size+1,2+j,none⟩ (.int .i64 (idx (addT (addTs T (ps.take j)) p) p:Nat))):=(q9.refl (fun q=>q=w.heap.size+1) w2).setCell (p:=⟨w.heap.size+1,2+j,none⟩) (fun _=>rfl) _;have hf:∀ q,TF sb { xs with ts:=ts2,tm:=tm2 } q->TF sb xs q\/w.heap.size+2<=q:=by
  intro q hq;rcases hf2 q hq with e|e
  ·exact hf1 q e
  ·exact .inr (by omega)
 refine⟨kt,⟨?_,?_,?_,ts2,tm2,?_,hf⟩⟩
 ·refine((h.ext.trans' (hx.mono (fun _ _ f=>f.elim)) (fun _ _ e=>e)).trans' hE (fun q hq e=>?_)).trans' hxs (fun q hq e=>?_)
  ·rcases hf1 q e with e|e
   ·exact e
   ·omega
  ·omega
 ·exact(hxs.block _ (z8 kn) (by show ¬w.heap.size=w.heap.size+1;omega)).trans kn
 ·have e:=Y4 kt (2+j) (.int .i64 (idx (addT (addTs T (ps.take j)) p) p:Nat));rw[zu1 hps hp,jd1 hj] at e;rw[zu1 hps hp];exact e
 ·have e:addTs T (ps.take (j+1))=addT (addTs T (ps.take j)) p:=by rw[List.take_add_one,hp];exact zx8 T _ p
  rw[e];refine h2.ext hxs (fun q hq e=>?_);rcases hf q hq with h|h
  ·have:=hlt q h;omega
  ·omega
theorem qR8{w:World}{sb:Nat}{nv:Value}{xs:PX}{T:List Nd}{word:ByteArray}{ps:List Nd}{pa:Option Addr}{pc:Nat}{D:Nat->Prop}(h:TS w sb nv xs T)(hname:X6 word.toList=true)(hl3:ps.length<=3)(hps:∀ p∈ps,Y5 p)(hlen:T.length+(Z0 true ps).length<=9000000)
  (hkid:∀ (i:Nat) (p:Nd),ps[i]?=some p->∃ g k' wd' v' pa' pn' pc',pa=some ⟨g,0,none⟩/\g<w.heap.size/\D g/\w.cell? ⟨g,i*4,none⟩=some (.int .i64 k')/\w.cell? ⟨g,i*4+1,none⟩=some (.string wd')/\w.cell? ⟨g,i*4+2,none⟩=some (.int .i64 v')/\w.cell? ⟨g,i*4+3,none⟩=some (.slice pa' pn' pc')/\PN w D [.int .i64 k',.string wd',.int .i64 v',.slice pa' pn' pc'] p)
  (hDl:∀ k,D k->k<w.heap.size) (hDT:∀ k,D k->¬TF sb xs k) (hih:∀ p∈ps,js8 sb nv p):
  Calls prog 148 #[.pointer (some ⟨sb,1,none⟩),.agg #[.int .i64 3,.string word,.int .i64 0,.slice pa ps.length pc]] w (TPost w sb nv xs (addT T (.mk 3 word 0 ps)) (idx (addT T (.mk 3 word 0 ps)) (.mk 3 word 0 ps))):=by
 have hsb:=z8 h.blk;have HLT:=q8 h.lt;have H:=q8 h;have HN:=q8 hname;have HPS:=q8 hps;have HLEN:=q8 hlen;have HKID:=q8 hkid;have HDL:=q8 hDl;have HDT:=q8 hDT;have HIH:=q8 hih;have hTW:TW2 w sb w.heap.size (w.heap.size+1) nv xs T 3 0 word (.slice pa ps.length pc) ps 0 ((w.alloc (.cells #[.int .i64 3,.string word,.int .i64 0,.slice pa ps.length pc] 115)).alloc (.cells #[.string word,.int .i64 ps.length,.int .i64 0,.int .i64 0,.int .i64 0,.int .i64 0] 145)):=by
  have hx:q9 (fun _=>False) w ((w.alloc (.cells #[.int .i64 3,.string word,.int .i64 0,.slice pa ps.length pc] 115)).alloc (.cells #[.string word,.int .i64 ps.length,.int .i64 0,.int .i64 0,.int .i64 0,.int .i64 0] 145)):=((q9.refl _ w).alloc _).alloc _;refine⟨hx.mono (fun _ _ f=>f.elim),?_,?_,xs.ts,xs.tm,?_,fun q hq=>.inl hq⟩
  ·rw[heap_alloc_old _ _ (by simp)];exact heap_alloc_new w _
  ·rw[qR4];exact heap_alloc2_new w _ _
  ·simp only[List.take_zero,addTs];exact h.ext hx (fun _ _ f=>f)
 have HTW:=q8 hTW;clear h hname hps hlen hkid hDl hDT hih hTW;go_enter func148,ntmps148;go_wp2_with fail
 go_loopw [28] (fun i wr=>∃ (j:Nat),j<=ps.length/\i=.int .i64 j/\w.heap.size+2<=wr.heap.size/\TW2 w sb w.heap.size (w.heap.size+1) nv xs T 3 0 word (.slice pa ps.length pc) ps j wr) (fun i _=>ps.length-(intOf i).toNat)
 case atStart=>exact⟨0,Nat.zero_le _,rfl,by simp,HTW.out⟩
 case round=>
  clear HTW;obtain⟨j,hj,rfl,hws,htw⟩:=hrel;have n0:=z6 htw.nbk 0;have n1:=z6 htw.nbk 1;have n3:=z6 htw.nbk 3;have HTW:=q8 htw;clear htw;by_cases hlt:j<ps.length
  ·obtain⟨p,hp⟩:∃ p,ps[j]?=some p:=⟨_,List.getElem?_eq_getElem hlt⟩;obtain⟨g,k',wd',v',pa',pn',pc',rfl,hgl,hDg,z0,z1,z2,z3,hpn⟩:=HKID.out j p hp;rw[<- HTW.out.ext.cell (p:=⟨g,j*4,none⟩) hgl (HDT.out g hDg)] at z0;rw[<- HTW.out.ext.cell (p:=⟨g,j*4+1,none⟩) hgl (HDT.out g hDg)] at z1;rw[<- HTW.out.ext.cell (p:=⟨g,j*4+2,none⟩) hgl (HDT.out g hDg)] at z2;rw[<- HTW.out.ext.cell (p:=⟨g,j*4+3,none⟩) hgl (HDT.out g hDg)] at z3;have HP:=q8 hp;have HPN:=q8 hpn;have hj3:j<3:=by omega
   obtain⟨ts1,tm1,hts1,hf1⟩:=HTW.out.ts;have HTS1:=q8 hts1;have HF1:=q8 hf1;have HMEM:=q8 (List.mem_of_getElem? hp);clear hp hpn hgl hDg hts1 hf1;go_wp2_with fail;obtain⟨V,hV⟩:∃ V,wr.alloc (.cells #[.int .i64 k',.string wd',.int .i64 v',.slice pa' pn' pc'] 115)=V:=⟨_,rfl⟩;have HXV:Hid (q9 (fun _=>False) wr V):=by rw[<- hV];exact(q9.refl _ wr).alloc _
   rw[hV];clear hV;refine(HIH.out p HMEM.out V _ _ D k' wd' v' pa' pn' pc' ((HPN.out.ext HTW.out.ext (fun k _ hd=>HDT.out k hd)).ext HXV.out (fun _ _ _ f=>f)) (fun k hd=>by have:=HDL.out k hd;have:=HXV.out.size;omega) (fun k hd hq=>by
    rcases HF1.out k hq with e|e
    ·exact HDT.out k hd e
    ·have:=HDL.out k hd;omega) (HTS1.out.ext HXV.out (fun _ _ f=>f)) (by
    have h1:=zt9 (ps:=ps.take j) (fun q hq=>HPS.out q (List.mem_of_mem_take hq)) T;have h2:=zu0 true HP.out;have h3:=HLEN.out;omega)).mono ?_
   rintro e w2 ⟨rfl,ts2,tm2,hTS2,hE2,hF2⟩;obtain⟨kt,htw2⟩:=jd4 HPS.out HTW.out HLT.out hws HXV.out HF1.out hTS2 hE2 hF2 HP.out hj3;have hsz2:w.heap.size+2<=w2.heap.size:=by have:=HXV.out.size;have:=hE2.size;omega
   obtain⟨u,hu⟩:=qR6 (w:=word) (T:=addTs T ps) (ps:=ps) (j:=j) (q:=2+j) (by omega);have tc:=(z6 kt (2+j)).trans hu;have tf:=Q8 kt (2+j);have HT2:=q8 htw2;clear hTS2 hE2 hF2 kt htw2 hu n0 n1 n3 z0 z1 z2 z3;go_wp2_with fail
   go_roundw
   case measure=>simp[intOf];omega
   case rel=>exact⟨j+1,by omega,by go_num,by simpa using hsz2,HT2.out⟩
  ·have hjl:j=ps.length:=by omega
   subst hjl;have htb:=HTW.out.tbk;rw[qR5] at htb;have t0:=z6 htb 0;have t1:=z6 htb 1;have t2:=z6 htb 2;have t3:=z6 htb 3;have t4:=z6 htb 4;have t5:=z6 htb 5;obtain⟨ts1,tm1,hts1,hf1⟩:=HTW.out.ts;rw[List.take_of_length_le (Nat.le_refl _)] at hts1;have hx:Y5 (.mk 3 word 0 ps):=.app HN.out hl3 HPS.out;have hc:=qi5 (hts1.ext ((q9.refl (fun _=>False) wr).drew) (fun _ _ f=>f)) hx (zU7 HPS.out T) (by have:=zt9 HPS.out T;have:=HLEN.out;omega);rw[jd3] at hc;have HC:=q8 hc;have HF1:=q8 hf1;clear hc hf1 hts1 htb hx n0 n1 n3;go_wp2_with fail
   go_region_law (go_simp;go_wp2_with (go_at_call 188;refine HC.out.mono ?_;rintro e w2 ⟨rfl,ts2,tm2,hTS2,hE2,hF2⟩;have HTS2:=q8 hTS2;have HE2:=q8 hE2;have HF2:=q8 hF2;clear hTS2 hE2 hF2))
   all_goals
    go_wp2_with fail;go_ret;simp only[addT];refine⟨rfl,ts2,tm2,HTS2.out,HTW.out.ext.trans' (((q9.refl (TF sb _) wr).drew).trans HE2.out) (fun q hq e=>?_),fun q hq=>?_⟩
    ·rcases HF1.out q e with e|e
     ·exact e
     ·omega
    ·rcases HF2.out q hq with e|e
     ·exact(HF1.out q e).imp id (fun e=>by omega)
     ·have e2:wr.heap.size<=q:=e;exact .inr (by omega)
theorem qG8{sb:Nat}{nv:Value}:∀ {p:Nd},Y5 p->js8 sb nv p:=by
 intro p hp
 induction hp with
 | num h1 h2=>intro w xs T D k' wd' v' pa' pn' pc' hpn hDl hDT hts hlen;cases hpn;exact qR7 hts h1 h2 (by omega)
 | @app word ps hw hl hps ih=>
  intro w xs T D k' wd' v' pa' pn' pc' hpn hDl hDT hts hlen;cases hpn with
  | @mk _ _ _ _ _ kids how hkl hkn hD hk=>
   obtain⟨a,cap,hv,_,_,hkid⟩:=zA6 how hkl hkn hD hk;cases hv;refine qR8 hts hw hl hps ?_ hkid hDl hDT ih;have:(J0 true (.mk 3 word 0 ps)).length=1+(Z0 true ps).length:=by
    simp only[J0,List.length_append];rw[if_pos (by simp[O7])]
    rfl
   omega
theorem zF9(mb:Nat)(W:World):(binOp BinOp.eql 84 (.map (some mb)) (.map none)).run prog W=.ok (.bool false) W:=by kernel_rfl
theorem qi1(W:World):(binOp BinOp.eql 84 (.map none) (.map none)).run prog W=.ok (.bool true) W:=by kernel_rfl
structure zG9(w:World)(tv mv:Value)(K:List Y2):Prop where
 own:w.ownsRow 0 153 4 tv K.length (K.flatMap Y2.cells)
 nd:K.Nodup
 ok:∀ k∈K,k.Ok
 map:(mv=.map none/\K=[])\/∃ mb D,mv=.map (some mb)/\w.ownsMap prog 153 (plainElem prog 3) mb K.length D/\zj4 klA Y2.Ok (fun _=>True) K D K.length
 sep:∀ g,tv.ownBlock=some g->¬U5 mv=some g
theorem zG9.ext{S:Nat->Prop}{w w':World}{tv mv:Value}{K:List Y2}(h:zG9 w tv mv K)(hx:q9 S w w')(h1:∀ g,tv.ownBlock=some g->¬S g)(h2:∀ g,U5 mv=some g->¬S g):zG9 w' tv mv K:=by
 refine⟨z7 h.own hx h1,h.nd,h.ok,?_,h.sep⟩;rcases h.map with e|⟨mb,D,rfl,ho,hm⟩
 ·exact .inl e
 ·exact .inr ⟨mb,D,rfl,Z6 ho hx (h2 mb rfl),hm⟩
def zj7(w:World)(sb:Nat)(nv:Value)(xs:PX)(K:List Y2)(x:Y2)(e:Ending)(w':World):Prop :=
 ∃ (i:Nat) (tv' mv':Value),e=.returned (.int .i64 i)/\(putK K x)[i]?=some x/\w'.heap[sb]?=some (.cells #[nv,xs.ts,xs.tm,tv',mv',xs.fs,xs.ks,xs.vd,xs.ml] 98)/\zG9 w' tv' mv' (putK K x)/\q9 (fun k=>k=sb\/xs.at_.ownBlock=some k\/U5 xs.am=some k) w w' /\
  (∀ k,tv'.ownBlock=some k->xs.at_.ownBlock=some k\/w.heap.size<=k)/\(∀ k,U5 mv' = some k->U5 xs.am=some k\/w.heap.size<=k)
theorem zM3{w w0 w1 w2 W:World}{sb mb g cap':Nat}{nv:Value}{xs:PX}{K:List Y2}{x:Y2}{D:DataW Unit}(h:zG9 w xs.at_ xs.am K)(hx:x.Ok)(hn:¬x∈K)
  (h0:q9 (fun k=>k=sb) w w0) (hgrow:w0.grownBy w1 xs.at_.ownBlock) (hown:w1.ownsRow 0 153 4 (.slice (some ⟨g,0,none⟩) (K.length+1) cap') (K.length+1) (K.flatMap Y2.cells++x.cells))
  (hat:xs.at_.ownBlock=some g\/w.heap.size<=g) (hmg:¬g=mb) (hgs:¬g=sb) (hms:¬mb=sb) (hmb:U5 xs.am=some mb\/w.heap.size<=mb) (h2:q9 (fun k=>k=sb) w1 w2) (hm0:zj4 klA Y2.Ok (fun _=>True) K D K.length) (htd:Maps.Tidy D)
  (hown2:W.ownsMap prog 153 (plainElem prog 3) mb (K.length+1) (D.put (klA x) (.lit (.int .i64 K.length)))) (h3:q9 (fun k=>k=mb) w2 W)
  (kW:w2.heap[sb]?=some (.cells #[nv,xs.ts,xs.tm,(.slice (some ⟨g,0,none⟩) (K.length+1) cap'),(.map (some mb)),xs.fs,xs.ks,xs.vd,xs.ml] 98)):
  zj7 w sb nv xs K x (.returned (.int .i64 K.length)) W:=by
 have hk:WideAt.IsKeyLit (klA x):=zm3.key (zM0 hx);have hmf:=qh7 hm0 htd hk h.ok hx (fun y hy e=>qz1 hy hx e) hn;have s0:=h0.size;refine⟨K.length,.slice (some ⟨g,0,none⟩) (K.length+1) cap',.map (some mb),rfl,?_,?_,⟨?_,?_,?_,?_,?_⟩,?_,?_,?_⟩
 ·rw[zb6 hn];simp
 ·exact(h3.block sb (z8 kW) (fun e=>hms e.symm)).trans kW
 ·rw[zb6 hn];have ho:=z7 (z7 hown h2 (fun k hk e=>by simp[Value.ownBlock] at hk;omega)) h3 (fun k hk e=>by simp[Value.ownBlock] at hk;omega);simpa using ho
 ·rw[zb6 hn,List.nodup_append];refine⟨h.nd,by simp,?_⟩;intro a ha b hb e;simp at hb;subst hb e;exact hn ha
 ·rw[zb6 hn];intro k hk;rcases List.mem_append.1 hk with hk|hk
  ·exact h.ok k hk
  ·simp at hk;subst hk;exact hx
 ·rw[zb6 hn];refine .inr ⟨mb,_,rfl,?_,hmf⟩;simpa using hown2
 ·intro k hk e;simp[Value.ownBlock] at hk;simp[U5] at e;omega
 ·have e1:q9 (fun k=>k=sb\/xs.at_.ownBlock=some k\/U5 xs.am=some k) w w1:=(h0.mono (fun _ _ e=>.inl e)).grown hgrow (fun k hk _=>.inr (.inl hk));exact(e1.trans' h2 (fun _ _ e=>.inl e)).trans' h3 (fun k hk e=>by
   subst e;rcases hmb with e2|e2
   ·exact .inr (.inr e2)
   ·omega)
 ·intro k hk;simp[Value.ownBlock] at hk;subst hk;exact hat
 ·intro k hk;simp[U5] at hk;subst hk;exact hmb
theorem qr3{w:World}{sb:Nat}{nv:Value}{xs:PX}{K:List Y2}(x:Y2)(kb:w.heap[sb]?=some (.cells #[nv,xs.ts,xs.tm,xs.at_,xs.am,xs.fs,xs.ks,xs.vd,xs.ml] 98))(h:zG9 w xs.at_ xs.am K)(hx:x.Ok)(hs1:∀ k,xs.at_.ownBlock=some k->¬k=sb)(hs2:∀ k,U5 xs.am=some k->¬k=sb)(hlen:K.length<=10000000):
  Calls prog 149 #[.pointer (some ⟨sb,3,none⟩),x.val] w (zj7 w sb nv xs K x):=by
 show Calls prog 149 #[.pointer (some ⟨sb,3,none⟩),.agg #[.string x.wd,.int .i64 x.i,.int .i64 x.j,.int .i64 x.b]] w (zj7 w sb nv xs K x);have hke:keyOf prog 153 (.agg #[.string x.wd,.int .i64 x.i,.int .i64 x.j,.int .i64 x.b])=some (klA x):=zM0 hx;have HKE:=q8 hke;clear hke;obtain⟨ts,tm,at_,am,fs,ks,vd,ml⟩:=xs;simp only at kb h hs1 hs2;have hsb:=z8 kb;have HX0:Hid (q9 (fun _=>False) w (w.alloc (.cells #[.string x.wd,.int .i64 x.i,.int .i64 x.j,.int .i64 x.b] 153))):=(q9.refl _ w).alloc _;have HBX:Hid ((w.alloc (.cells #[.string x.wd,.int .i64 x.i,.int .i64 x.j,.int .i64 x.b] 153)).heap[w.heap.size]?=some (.cells #[.string x.wd,.int .i64 x.i,.int .i64 x.j,.int .i64 x.b] 153)):=heap_alloc_new w _;by_cases hin:x∈K
 ·-- it is there
  obtain⟨i,hi⟩:=List.mem_iff_getElem?.1 hin;rcases h.map with⟨_,e⟩|⟨mb,D,hmv,ho,hm⟩
  ·subst e;exact absurd hin (by simp)
  subst hmv;have hlk:∀ n,(Instr.lookup 84 (.map (some mb)) (.agg #[.string x.wd,.int .i64 x.i,.int .i64 x.j,.int .i64 x.b]) true).run prog ((w.alloc (.cells #[.string x.wd,.int .i64 x.i,.int .i64 x.j,.int .i64 x.b] 153)).drewN n)=.ok (.tuple #[.int .i64 i,.bool true]) ((w.alloc (.cells #[.string x.wd,.int .i64 x.i,.int .i64 x.j,.int .i64 x.b] 153)).drewN n):=by intro n;have ho2:=Z6 ho (((q9.refl (fun _=>False) w).alloc (.cells #[.string x.wd,.int .i64 x.i,.int .i64 x.j,.int .i64 x.b] 153)).drewN n) (fun f=>f);obtain⟨v,ps,hrun,hv⟩:=ho2.look_ok zm3 underlying84 (zj5 _) (plainElem_int underlying3 (by decide)) HKE.out;rw[(hm.yes i x hi trivial).1] at hv;obtain⟨a,rfl,e2,_⟩:=plainElem_int_inv underlying3 hv;simp at e2;rw[hrun,(hm.yes i x hi trivial).2,e2.1]
  have c1:=z6 kb 3;have c2:=z6 kb 4;have H:=q8 h;have KB:=q8 kb;have HI:=q8 hi;have HW0:Hid (q9 (fun _=>False) w (w.alloc (.cells #[.string x.wd,.int .i64 x.i,.int .i64 x.j,.int .i64 x.b] 153))):=(q9.refl _ w).alloc _;have hlk0:=hlk 0;have hnw:¬sb=w.heap.size:=by omega
  clear h kb ho hm hi;go_enter func149,ntmps149;go_wp2_with fail
  go_quiet (fail)
  go_wp2_with fail;go_ret;refine⟨i,_,_,rfl,by rw[zt8 hin];exact HI.out,?_,?_,?_,fun k hk=>.inl hk,fun k hk=>.inl hk⟩
  ·exact((HW0.out.drewN nq).block sb hsb (fun f=>f)).trans KB.out
  ·rw[zt8 hin];exact H.out.ext (HW0.out.drewN nq) (fun _ _ f=>f) (fun _ _ f=>f)
  ·exact(HW0.out.drewN nq).mono (fun _ _ f=>f.elim)
 ·have HX:=q8 hx;have HS1:=q8 hs1;have HS2:=q8 hs2;obtain⟨ta,tc,hts⟩:∃ ta tc,at_=.slice ta K.length tc:=by
   rcases h.own.2 with⟨e,e0⟩|⟨g,cap,cur,hv,_⟩
   ·exact⟨none,0,by rw[e,e0]⟩
   ·exact⟨_,cap,hv⟩
  subst hts;rcases h.map with⟨hmv,hK⟩|⟨mb,D,hmv,ho,hm⟩
  ·subst hmv;have hlk:∀ n,(Instr.lookup 84 (.map none) (.agg #[.string x.wd,.int .i64 x.i,.int .i64 x.j,.int .i64 x.b]) true).run prog ((w.alloc (.cells #[.string x.wd,.int .i64 x.i,.int .i64 x.j,.int .i64 x.b] 153)).drewN n)=.ok (.tuple #[.int .i64 0,.bool false]) ((w.alloc (.cells #[.string x.wd,.int .i64 x.i,.int .i64 x.j,.int .i64 x.b] 153)).drewN n):=by
    intro n;have e:=Maps.look_nil (w:=(w.alloc (.cells #[.string x.wd,.int .i64 x.i,.int .i64 x.j,.int .i64 x.b] 153)).drewN n) true zm3 underlying84 (zj5 _) HKE.out;simpa using e
   have c1:=z6 kb 3;have c2:=z6 kb 4;have f2:=Q8 kb 4;have hlk0:=hlk 0;have hnw:¬sb=w.heap.size:=by omega
   have hmm:=@run_makeMap prog;have hnil:=qi1;have HK:=q8 hK;have H:=q8 h;have KB:=q8 kb;clear h kb hx hs1 hs2 hK;go_enter func149,ntmps149;go_wp2_with fail
   go_quiet (fail)
   obtain⟨V0,hVe⟩:∃ V0,(w.alloc (.cells #[.string x.wd,.int .i64 x.i,.int .i64 x.j,.int .i64 x.b] 153)).drewN nq=V0:=⟨_,rfl⟩;have HVF:Hid (q9 (fun _=>False) w V0):=by rw[<- hVe];exact((q9.refl _ w).alloc _).drewN nq
   have KV0:=q8 ((HVF.out.block sb hsb (fun f=>f)).trans KB.out);have KX0:Hid (V0.heap[w.heap.size]?=some (.cells #[.string x.wd,.int .i64 x.i,.int .i64 x.j,.int .i64 x.b] 153)):=by rw[<- hVe];exact heap_alloc_new w _
   have hl0:=z8 KV0.out;have hlx0:=z8 KX0.out;rw[hVe];clear hVe hlk hlk0 c1 c2 f2;have c1:=z6 KV0.out 3;have c2:=z6 KV0.out 4;have f2:=Q8 KV0.out 4;go_wp2_with fail;obtain⟨mb,hmb⟩:∃ mb,mb=V0.heap.size:=⟨_,rfl⟩;obtain⟨D,hD⟩:∃ D:DataW Unit,D=.map []:=⟨_,rfl⟩;obtain⟨V,hVe⟩:∃ V,(V0.setCell ⟨sb,4,none⟩ (.map (some V0.heap.size))).alloc (.map #[] 0)=V:=⟨_,rfl⟩;have hsz:(V0.setCell ⟨sb,4,none⟩ (.map (some V0.heap.size))).heap.size=V0.heap.size:=by simp
   have HVA:Hid (q9 (fun k=>k=sb) V0 V):=by rw[<- hVe];exact((q9.refl (fun k=>k=sb) _).setCell (p:=⟨sb,4,none⟩) (fun _=>rfl) _).alloc _
   have HV:Hid (q9 (fun k=>k=sb) w V):=(HVF.out.mono (fun _ _ f=>f.elim)).trans HVA.out;have KV:Hid (V.heap[sb]?=some (.cells #[nv,ts,tm,.slice ta K.length tc,.map (some mb),fs,ks,vd,ml] 98)):=by rw[<- hVe,hmb];exact(Below.heap_alloc _ _ sb (by rw[hsz];exact hl0)).trans (Y4 KV0.out 4 _)
   have KX:Hid (V.heap[w.heap.size]?=some (.cells #[.string x.wd,.int .i64 x.i,.int .i64 x.j,.int .i64 x.b] 153)):=(HVA.out.block _ hlx0 (by show ¬w.heap.size=sb;omega)).trans KX0.out;have HMS:Hid (¬mb=sb):=by show ¬_;omega
   have HOV:Hid (V.ownsMap prog 153 (plainElem prog 3) mb K.length D):=by have e:=World.ownsMap_made (H:=Unit) (V0.setCell ⟨sb,4,none⟩ (.map (some V0.heap.size))) prog 153 (plainElem prog 3);rw[hsz,hVe] at e;rw[hmb,hD,HK.out];exact e
   have HMF:Hid (zj4 klA Y2.Ok (fun _=>True) K D K.length):=by rw[hD,HK.out];exact qh6
   have HTD:Hid (Maps.Tidy D):=by rw[hD];exact tidy_empty
   have HMB:Hid (U5 (.map none)=some mb\/w.heap.size<=mb):=.inr (by have:=HVF.out.size;omega);have HSEP:Hid (∀ g,(Value.slice ta K.length tc).ownBlock=some g->¬g=mb):=fun g hg e=>by have h1:=(H.out.own.lt g hg).2;have:=HVF.out.size;omega
   rw[hVe,<- hmb];clear hVe hmb hD c1 c2 f2 KV0 KX0 hnil hsz;have hlV:=z8 KV.out;have hlX:=z8 KX.out;have c1:=z6 KV.out 3;have c2:=z6 KV.out 4;have x0:=z6 KX.out 0;have x1:=z6 KX.out 1;have x2:=z6 KX.out 2;have x3:=z6 KX.out 3;obtain⟨i0,hi,hz0,hz1,hz2⟩:=info_parts zA2;have hnn:=zF9 mb;have HOR:=q8 (z7 H.out.own HV.out (fun k hk e=>HS1.out k hk e));go_wp2_with fail
   go_region_law ((refine step_append_lies _ (by rfl) _ _ _ (by rfl) 0 153 i0 _ 4 40 underlying83 hi hz0 hz1 hz2 rfl (by omega) (.slice ta K.length tc) K.length (K.flatMap Y2.cells) (by rfl) ((HOR.out.alloc _).drew) ⟨V.heap.size,0,none⟩ 1 1 x.cells (by rfl) (by rfl) (World.news_of_block (cs:=#[.string x.wd,.int .i64 x.i,.int .i64 x.j,.int .i64 x.b]) (t:=153) (fr:=(0,0)) (heap_alloc_new V _)) (by simp[Y2.cells,Value.oneCell']) (by omega) (by unfold maxLen;omega) (by omega) (Nat.zero_le _) (V.heap.size+1) (by simp) ?_;intro g cap' w2 hown2 hgrow hat hlt2;have kb2:w2.heap[sb]?=some (.cells #[nv,ts,tm,.slice ta K.length tc,.map (some mb),fs,ks,vd,ml] 98):=(hgrow.block sb (by simp;omega) (fun e=>HS1.out sb e.symm rfl)).trans ((Below.heap_alloc V _ sb hlV).trans KV.out);have d1:=z6 kb2 3;have d1f:=Q8 kb2 3))
   all_goals
    obtain⟨W3,hW3⟩:∃ W3,w2.setCell ⟨sb,3,none⟩ (.slice (some ⟨g,0,none⟩) (K.length+1) cap')=W3:=⟨_,rfl⟩;have hxV:q9 (fun k=>(Value.slice ta K.length tc).ownBlock=some k) V w2:=((((q9.refl (fun _=>False) V).alloc _).drew).mono (fun _ _ f=>f.elim)).grown hgrow (fun k hk _=>hk);have hx3:q9 (fun k=>k=sb) w2 W3:=by rw[<- hW3];exact(q9.refl (fun k=>k=sb) w2).setCell (p:=⟨sb,3,none⟩) (fun _=>rfl) _
    have kb3:W3.heap[sb]?=some (.cells #[nv,ts,tm,(.slice (some ⟨g,0,none⟩) (K.length+1) cap'),.map (some mb),fs,ks,vd,ml] 98):=by rw[<- hW3];exact Y4 kb2 3 _
    have kx3:W3.heap[w.heap.size]?=some (.cells #[.string x.wd,.int .i64 x.i,.int .i64 x.j,.int .i64 x.b] 153):=(hx3.block _ (Nat.lt_of_lt_of_le hlX hxV.size) (by show ¬w.heap.size=sb;omega)).trans ((hxV.block _ hlX (fun e=>by have:=(H.out.own.lt _ e).2;omega)).trans KX.out);have ho3:W3.drew.ownsMap prog 153 (plainElem prog 3) mb K.length D:=Z6 (Z6 (Z6 HOV.out hxV (fun e=>HSEP.out mb e rfl)) hx3 HMS.out) ((q9.refl (fun _=>False) W3).drew) (fun f=>f);obtain⟨W4,hst,how4,hturn⟩:=ho3.store zm3 underlying84 (by unfold maxLen;omega) HKE.out (plainElem_int underlying3 (zU5 (n:=(K.length:Int)) ⟨by omega,by omega⟩));have e1:=z6 kb3 3;have e2:=z6 kb3 4;have y0:=z6 kx3 0;have y1:=z6 kx3 1;have y2:=z6 kx3 2;have y3:=z6 kx3 3;have HN:Hid (zj7 w sb nv ⟨ts,tm,.slice ta K.length tc,.map none,fs,ks,vd,ml⟩ K x (.returned (.int .i64 K.length)) W4):=zM3 (xs:=⟨ts,tm,.slice ta K.length tc,.map none,fs,ks,vd,ml⟩) H.out HX.out hin ((HV.out.alloc _).drew) hgrow hown2 (hat.imp id (fun e=>by have:=HV.out.size;omega)) (by
     rcases hat with e|e
     ·exact fun e3=>HSEP.out mb (e3▸e) rfl
     ·have:=HOV.out.lt;omega) (by
     rcases hat with e|e
     ·exact HS1.out g e
     ·omega) HMS.out HMB.out hx3 HMF.out HTD.out how4 ((((q9.refl (fun _=>False) W3).drew).mono (fun _ _ f=>f.elim)).trans (k8 hturn)) kb3
    rw[hW3];clear hW3 hxV hx3 kb3 kx3 ho3 how4 hturn kb2 hown2 hgrow hat c1 c2 d1 d1f;go_wp2_with fail
    go_region
    all_goals
     go_wp2_with fail;go_ret;exact HN.out
  ·subst hmv;have hlk:∀ n,(Instr.lookup 84 (.map (some mb)) (.agg #[.string x.wd,.int .i64 x.i,.int .i64 x.j,.int .i64 x.b]) true).run prog ((w.alloc (.cells #[.string x.wd,.int .i64 x.i,.int .i64 x.j,.int .i64 x.b] 153)).drewN n)=.ok (.tuple #[.int .i64 0,.bool false]) ((w.alloc (.cells #[.string x.wd,.int .i64 x.i,.int .i64 x.j,.int .i64 x.b] 153)).drewN n):=by
    intro n;have ho2:=Z6 ho (((q9.refl (fun _=>False) w).alloc (.cells #[.string x.wd,.int .i64 x.i,.int .i64 x.j,.int .i64 x.b] 153)).drewN n) (fun f=>f);obtain⟨v,ps,hrun,hv⟩:=ho2.look_ok zm3 underlying84 (zj5 _) (plainElem_int underlying3 (by decide)) HKE.out;have hno:=hm.no x hx (fun hc=>hin hc.1);rw[atKey_of_not_has hno] at hv;obtain⟨a,rfl,e2,_⟩:=plainElem_int_inv underlying3 hv;simp at e2;rw[hrun,hno,<- e2.1]
   have c1:=z6 kb 3;have c2:=z6 kb 4;have hlk0:=hlk 0;have hnw:¬sb=w.heap.size:=by omega
   have HTD:=q8 (ho.tidy zm3);have HMF:=q8 hm;have HO:=q8 ho;have H:=q8 h;have KB:=q8 kb;have HSEP:Hid (∀ g,(Value.slice ta K.length tc).ownBlock=some g->¬g=mb):=fun g hg e=>h.sep g hg (by rw[e];rfl)
   have HMS:Hid (¬mb=sb):=hs2 mb rfl;have HMB:Hid (U5 (.map (some mb))=some mb\/w.heap.size<=mb):=.inl rfl;clear h kb ho hm hx hs1 hs2;go_enter func149,ntmps149;go_wp2_with fail
   go_quiet (fail)
   obtain⟨V,hVe⟩:∃ V,(w.alloc (.cells #[.string x.wd,.int .i64 x.i,.int .i64 x.j,.int .i64 x.b] 153)).drewN nq=V:=⟨_,rfl⟩;have HVF:Hid (q9 (fun _=>False) w V):=by rw[<- hVe];exact((q9.refl _ w).alloc _).drewN nq
   have HV:Hid (q9 (fun k=>k=sb) w V):=HVF.out.mono (fun _ _ f=>f.elim);have KV:=q8 ((HVF.out.block sb hsb (fun f=>f)).trans KB.out);have KX:Hid (V.heap[w.heap.size]?=some (.cells #[.string x.wd,.int .i64 x.i,.int .i64 x.j,.int .i64 x.b] 153)):=by rw[<- hVe];exact heap_alloc_new w _
   have HOV:=q8 (Z6 HO.out HVF.out (fun f=>f));rw[hVe];clear hVe hlk hlk0 c1 c2;have hlV:=z8 KV.out;have hlX:=z8 KX.out;have c1:=z6 KV.out 3;have c2:=z6 KV.out 4;have x0:=z6 KX.out 0;have x1:=z6 KX.out 1;have x2:=z6 KX.out 2;have x3:=z6 KX.out 3;obtain⟨i0,hi,hz0,hz1,hz2⟩:=info_parts zA2;have hnn:=zF9 mb;have HOR:=q8 (z7 H.out.own HV.out (fun k hk e=>HS1.out k hk e));go_wp2_with fail
   go_region_law ((refine step_append_lies _ (by rfl) _ _ _ (by rfl) 0 153 i0 _ 4 40 underlying83 hi hz0 hz1 hz2 rfl (by omega) (.slice ta K.length tc) K.length (K.flatMap Y2.cells) (by rfl) ((HOR.out.alloc _).drew) ⟨V.heap.size,0,none⟩ 1 1 x.cells (by rfl) (by rfl) (World.news_of_block (cs:=#[.string x.wd,.int .i64 x.i,.int .i64 x.j,.int .i64 x.b]) (t:=153) (fr:=(0,0)) (heap_alloc_new V _)) (by simp[Y2.cells,Value.oneCell']) (by omega) (by unfold maxLen;omega) (by omega) (Nat.zero_le _) (V.heap.size+1) (by simp) ?_;intro g cap' w2 hown2 hgrow hat hlt2;have kb2:w2.heap[sb]?=some (.cells #[nv,ts,tm,.slice ta K.length tc,.map (some mb),fs,ks,vd,ml] 98):=(hgrow.block sb (by simp;omega) (fun e=>HS1.out sb e.symm rfl)).trans ((Below.heap_alloc V _ sb hlV).trans KV.out);have d1:=z6 kb2 3;have d1f:=Q8 kb2 3))
   all_goals
    obtain⟨W3,hW3⟩:∃ W3,w2.setCell ⟨sb,3,none⟩ (.slice (some ⟨g,0,none⟩) (K.length+1) cap')=W3:=⟨_,rfl⟩;have hxV:q9 (fun k=>(Value.slice ta K.length tc).ownBlock=some k) V w2:=((((q9.refl (fun _=>False) V).alloc _).drew).mono (fun _ _ f=>f.elim)).grown hgrow (fun k hk _=>hk);have hx3:q9 (fun k=>k=sb) w2 W3:=by rw[<- hW3];exact(q9.refl (fun k=>k=sb) w2).setCell (p:=⟨sb,3,none⟩) (fun _=>rfl) _
    have kb3:W3.heap[sb]?=some (.cells #[nv,ts,tm,(.slice (some ⟨g,0,none⟩) (K.length+1) cap'),.map (some mb),fs,ks,vd,ml] 98):=by rw[<- hW3];exact Y4 kb2 3 _
    have kx3:W3.heap[w.heap.size]?=some (.cells #[.string x.wd,.int .i64 x.i,.int .i64 x.j,.int .i64 x.b] 153):=(hx3.block _ (Nat.lt_of_lt_of_le hlX hxV.size) (by show ¬w.heap.size=sb;omega)).trans ((hxV.block _ hlX (fun e=>by have:=(H.out.own.lt _ e).2;omega)).trans KX.out);have ho3:W3.drew.ownsMap prog 153 (plainElem prog 3) mb K.length D:=Z6 (Z6 (Z6 HOV.out hxV (fun e=>HSEP.out mb e rfl)) hx3 HMS.out) ((q9.refl (fun _=>False) W3).drew) (fun f=>f);obtain⟨W4,hst,how4,hturn⟩:=ho3.store zm3 underlying84 (by unfold maxLen;omega) HKE.out (plainElem_int underlying3 (zU5 (n:=(K.length:Int)) ⟨by omega,by omega⟩));have e1:=z6 kb3 3;have e2:=z6 kb3 4;have y0:=z6 kx3 0;have y1:=z6 kx3 1;have y2:=z6 kx3 2;have y3:=z6 kx3 3;have HN:Hid (zj7 w sb nv ⟨ts,tm,.slice ta K.length tc,.map (some mb),fs,ks,vd,ml⟩ K x (.returned (.int .i64 K.length)) W4):=zM3 (xs:=⟨ts,tm,.slice ta K.length tc,.map (some mb),fs,ks,vd,ml⟩) H.out HX.out hin ((HV.out.alloc _).drew) hgrow hown2 (hat.imp id (fun e=>by have:=HV.out.size;omega)) (by
     rcases hat with e|e
     ·exact fun e3=>HSEP.out mb (e3▸e) rfl
     ·have:=HOV.out.lt;omega) (by
     rcases hat with e|e
     ·exact HS1.out g e
     ·omega) HMS.out HMB.out hx3 HMF.out HTD.out how4 ((((q9.refl (fun _=>False) W3).drew).mono (fun _ _ f=>f.elim)).trans (k8 hturn)) kb3
    rw[hW3];clear hW3 hxV hx3 kb3 kx3 ho3 how4 hturn kb2 hown2 hgrow hat c1 c2 d1 d1f;go_wp2_with fail
    go_region
    all_goals
     go_wp2_with fail;go_ret;exact HN.out
def zM5(w:World)(sb:Nat)(nv:Value)(xs:PX)(K:List Y2)(n:Nat)(w':World):Prop :=
 ∃ tv',w'.heap[sb]?=some (.cells #[nv,xs.ts,xs.tm,tv',xs.am,xs.fs,xs.ks,xs.vd,xs.ml] 98)/\zG9 w' tv' xs.am (K.take n)/\q9 (fun k=>k=sb\/xs.at_.ownBlock=some k\/U5 xs.am=some k) w w'/\tv'.ownBlock=xs.at_.ownBlock
theorem zZ6{K:List Y2}{n:Nat}(hn:n<=K.length):(K.flatMap Y2.cells).take (n*4)=(K.take n).flatMap Y2.cells:=by
 have hl:∀ l:List Y2,(l.flatMap Y2.cells).length=l.length*4:=by
  intro l
  induction l with
  | nil=>rfl
  | cons a l ih=>simp only[List.flatMap_cons,List.length_append,List.length_cons,ih];simp[Y2.cells];omega
 have e:K.flatMap Y2.cells=(K.take n).flatMap Y2.cells++(K.drop n).flatMap Y2.cells:=by rw[<- List.flatMap_append,List.take_append_drop]
 rw[e,List.take_append_of_le_length (by rw[hl,List.length_take];omega),List.take_of_length_le (by rw[hl,List.length_take];omega)]
theorem qr6{K:List Y2}{i:Nat}{x:Y2}(h:K[i]?=some x)(q:Nat)(hq:q<4):(K.flatMap Y2.cells)[i*4+q]?=x.cells[q]?:=by
 obtain⟨hi,hx⟩:=List.getElem?_eq_some_iff.1 h;have hl:∀ l:List Y2,(l.flatMap Y2.cells).length=l.length*4:=by
  intro l
  induction l with
  | nil=>rfl
  | cons a l ih=>simp only[List.flatMap_cons,List.length_append,List.length_cons,ih];simp[Y2.cells];omega
 have e:K.take i++x::K.drop (i+1)=K:=by rw[<- hx,List.getElem_cons_drop,List.take_append_drop]
 have e2:(K.take i++x::K.drop (i+1)).flatMap Y2.cells=(K.take i).flatMap Y2.cells++(x.cells++(K.drop (i+1)).flatMap Y2.cells):=by simp
 rw[e] at e2;have hlt:((K.take i).flatMap Y2.cells).length=i*4:=by rw[hl,List.length_take];congr 1;omega
 have hc:x.cells.length=4:=rfl;rw[e2,List.getElem?_append_right (by rw[hlt];omega),hlt,show i*4+q-i*4=q by omega,List.getElem?_append_left (by omega)]
theorem zr9{w wr w2 W:World}{sb n:Nat}{nv v':Value}{xs:PX}{K:List Y2}(h:zG9 w xs.at_ xs.am K)(hn:n<=K.length)(hs1:∀ k,xs.at_.ownBlock=some k->¬k=sb)(hs2:∀ k,U5 xs.am=some k->¬k=sb)(hE:q9 (fun k=>U5 xs.am=some k) w wr)
  (hm:(xs.am=.map none/\K=[])\/∃ mb D,xs.am=.map (some mb)/\wr.ownsMap prog 153 (plainElem prog 3) mb (n+(K.length-K.length)) D/\zj4 klA Y2.Ok (zD6 K n K.length) K D (n+(K.length-K.length)))
  (hown:w2.ownsRow 0 153 4 v' n ((K.flatMap Y2.cells).take (n*4))) (hx:q9 (fun k=>xs.at_.ownBlock=some k) wr w2) (hob:v'.ownBlock=xs.at_.ownBlock) (hW:q9 (fun k=>k=sb) w2 W) (kW:W.heap[sb]?=some (.cells #[nv,xs.ts,xs.tm,v',xs.am,xs.fs,xs.ks,xs.vd,xs.ml] 98)):zM5 w sb nv xs K n W:=by
 refine⟨v',kW,⟨?_,h.nd.sublist (List.take_sublist n K),fun k hk=>h.ok k (List.mem_of_mem_take hk),?_,fun k hk=>by rw[hob] at hk;exact h.sep k hk⟩,?_,hob⟩
 ·rw[zZ6 hn] at hown;have hl:(K.take n).length=n:=by rw[List.length_take];omega
  rw[hl];exact z7 hown hW (fun k hk=>by rw[hob] at hk;exact hs1 k hk)
 ·rcases hm with⟨e1,e2⟩|⟨mb,D,e1,ho,hmf⟩
  ·exact .inl ⟨e1,by rw[e2];simp⟩
  ·refine .inr ⟨mb,D,e1,?_,zU4 hmf hn⟩;have hl:(K.take n).length=n+(K.length-K.length):=by rw[List.length_take];omega
   rw[hl];exact Z6 (Z6 ho hx (fun e=>h.sep mb e (by rw[e1];rfl))) hW (hs2 mb (by rw[e1];rfl))
 ·exact((hE.mono (fun _ _ e=>.inr (.inr e))).trans' hx (fun _ _ e=>.inr (.inl e))).trans' hW (fun _ _ e=>.inl e)
theorem qr7{w:World}{sb:Nat}{nv:Value}{xs:PX}{K:List Y2}(n:Nat)(kb:w.heap[sb]?=some (.cells #[nv,xs.ts,xs.tm,xs.at_,xs.am,xs.fs,xs.ks,xs.vd,xs.ml] 98))(h:zG9 w xs.at_ xs.am K)(hs1:∀ k,xs.at_.ownBlock=some k->¬k=sb)(hs2:∀ k,U5 xs.am=some k->¬k=sb)(hlen:K.length<=10000000)(hn:n<=K.length):
  Calls prog 66 #[.pointer (some ⟨sb,3,none⟩),.int .i64 n] w fun e w'=>e=.returned (.tuple #[])/\zM5 w sb nv xs K n w':=by
 obtain⟨ts,tm,at_,am,fs,ks,vd,ml⟩:=xs;simp only at kb h hs1 hs2;have hsb:=z8 kb;have hsh:(at_=.slice none 0 0/\K.length=0)\/∃ g tc,at_=.slice (some ⟨g,0,none⟩) K.length tc/\K.length<=tc/\tc<=9223372036854775807/\g<w.heap.size/\∀ q,q<K.length*4->w.cell? ⟨g,q,none⟩=(K.flatMap Y2.cells)[q]?:=by
  rcases h.own.2 with⟨e,e0⟩|⟨g,cap,cur,hv,_,hh,h1,h2,_⟩
  ·exact .inl ⟨e,e0⟩
  ·refine .inr ⟨g,cap,hv,h1,by unfold maxLen at h2;exact h2,z8 hh,fun q hq=>?_⟩;have h3:=h.own;rw[hv] at h3;exact h3.cellAt q hq
 rcases hsh with⟨hts,hK0⟩|⟨g,tc,hts,htc,htc2,hgl,hcells⟩
 ·clear hlen;have hKe:K=[]:=List.length_eq_zero_iff.1 hK0;have hn0:n=0:=by omega
  subst hn0 hts;have HM0:Hid ((am=.map none/\K=[])\/∃ mb D,am=.map (some mb)/\w.ownsMap prog 153 (plainElem prog 3) mb (0+(K.length-K.length)) D/\zj4 klA Y2.Ok (zD6 K 0 K.length) K D (0+(K.length-K.length))):=by
   rcases h.map with e|⟨mb,D,e,ho,hm⟩
   ·exact .inl e
   ·have hm2:=zn4 hm (Nat.zero_le _);refine .inr ⟨mb,D,e,?_,?_⟩
    ·rw[show 0+(K.length-K.length)=K.length by omega];exact ho
    ·rw[hK0] at hm2 ⊢;exact hm2
  have c1:=z6 kb 3;have hlb:=hsb;have H:=q8 h;have KB:=q8 kb;have HS1:=q8 hs1;have HS2:=q8 hs2;have HOR:=q8 (z7 h.own ((q9.refl (fun _=>False) w).drew) (fun _ _ f=>f));rw[hK0] at HOR;clear h kb hs1 hs2;go_enter func66,ntmps66;go_wp2_with fail
  go_loopw [13] (fun i wr=>i=.int .i64 0/\wr=w) (fun _ _=>0)
  case atStart=>exact⟨rfl,rfl⟩
  case round=>
   obtain⟨rfl,rfl⟩:=hrel;go_wp2_with fail
   go_region_law (go_simp;go_wp2_with (go_at_call 101;refine(qq6 HOR.out (Nat.le_refl 0) (by omega)).mono ?_;rintro e w2 ⟨v',rfl,hown2,hx2,hob⟩;obtain⟨va,vc,rfl⟩:=Q0 hown2;have kb2:w2.heap[sb]?=some (.cells #[nv,ts,tm,.slice none 0 0,am,fs,ks,vd,ml] 98):=(hx2.block sb hlb (fun e=>HS1.out sb e rfl)).trans KB.out;have d1:=z6 kb2 3;have d1f:=Q8 kb2 3))
   all_goals
    go_wp2_with fail
    go_end0
    refine⟨rfl,?_⟩;exact zr9 (xs:=⟨ts,tm,.slice none 0 0,am,fs,ks,vd,ml⟩) H.out (Nat.zero_le _) HS1.out HS2.out (q9.refl _ _) HM0.out hown2 (((q9.refl _ _).drew).trans hx2) hob ((q9.refl (fun k=>k=sb) w2).setCell (p:=⟨sb,3,none⟩) (fun _=>rfl) _) (Y4 kb2 3 _)
 ·by_cases hK0:K.length=0
  ·clear hlen hcells htc2;rw[hK0] at hts;have hKe:K=[]:=List.length_eq_zero_iff.1 hK0;have hn0:n=0:=by omega
   subst hn0 hts;have HM0:Hid ((am=.map none/\K=[])\/∃ mb D,am=.map (some mb)/\w.ownsMap prog 153 (plainElem prog 3) mb (0+(K.length-K.length)) D/\zj4 klA Y2.Ok (zD6 K 0 K.length) K D (0+(K.length-K.length))):=by
    rcases h.map with e|⟨mb,D,e,ho,hm⟩
    ·exact .inl e
    ·have hm2:=zn4 hm (Nat.zero_le _);refine .inr ⟨mb,D,e,?_,?_⟩
     ·rw[show 0+(K.length-K.length)=K.length by omega];exact ho
     ·rw[hK0] at hm2 ⊢;exact hm2
   have c1:=z6 kb 3;have hlb:=hsb;have H:=q8 h;have KB:=q8 kb;have HS1:=q8 hs1;have HS2:=q8 hs2;have HOR:=q8 (z7 h.own ((q9.refl (fun _=>False) w).drew) (fun _ _ f=>f));rw[hK0] at HOR;clear h kb hs1 hs2;go_enter func66,ntmps66;go_wp2_with fail
   go_loopw [13] (fun i wr=>i=.int .i64 0/\wr=w) (fun _ _=>0)
   case atStart=>exact⟨rfl,rfl⟩
   case round=>
    obtain⟨rfl,rfl⟩:=hrel;go_wp2_with fail
    go_region_law (go_simp;go_wp2_with (go_at_call 101;refine(qq6 HOR.out (Nat.le_refl 0) (by omega)).mono ?_;rintro e w2 ⟨v',rfl,hown2,hx2,hob⟩;obtain⟨va,vc,rfl⟩:=Q0 hown2;have kb2:w2.heap[sb]?=some (.cells #[nv,ts,tm,.slice (some ⟨g,0,none⟩) 0 tc,am,fs,ks,vd,ml] 98):=(hx2.block sb hlb (fun e=>HS1.out sb e rfl)).trans KB.out;have d1:=z6 kb2 3;have d1f:=Q8 kb2 3))
    all_goals
     go_wp2_with fail
     go_end0
     refine⟨rfl,?_⟩;exact zr9 (xs:=⟨ts,tm,.slice (some ⟨g,0,none⟩) 0 tc,am,fs,ks,vd,ml⟩) H.out (Nat.zero_le _) HS1.out HS2.out (q9.refl _ _) HM0.out hown2 (((q9.refl _ _).drew).trans hx2) hob ((q9.refl (fun k=>k=sb) w2).setCell (p:=⟨sb,3,none⟩) (fun _=>rfl) _) (Y4 kb2 3 _)
  subst hts;rcases h.map with⟨hmv,hK⟩|⟨mb,D,hmv,ho,hm⟩
  ·exact absurd (by rw[hK];rfl) hK0
  ·subst hmv;obtain⟨A,hA,hA2⟩:∃ A,(if tc=n then some (⟨g,0,none⟩:Addr) else some ⟨g,n*4,none⟩)=some A/\(n<tc->A=⟨g,n*4,none⟩):=by
    by_cases h:tc=n
    ·exact⟨_,by rw[if_pos h],fun h2=>by omega⟩
    ·exact⟨_,by rw[if_neg h],fun _=>rfl⟩
   have hnc:n<=tc:=by omega
   have c1:=z6 kb 3;have HMF:=q8 (zn4 hm hn);have HO:=q8 ho;have H:=q8 h;have KB:=q8 kb;have HCELLS:=q8 hcells;have HA2:=q8 hA2;have HS1:=q8 hs1;have HS2:=q8 hs2;have HMS:Hid (¬mb=sb):=hs2 mb rfl;have hml:=ho.lt;clear h kb ho hm hcells hA2 hs1 hs2;go_enter func66,ntmps66;go_wp2_with fail
   go_loopw [13] (fun i wr=>∃ (j:Nat) (D:DataW Unit),n<=j/\j<=K.length/\i=.int .i64 ((j-n:Nat):Int)/\q9 (fun k=>k=mb) w wr/\wr.ownsMap prog 153 (plainElem prog 3) mb (n+(K.length-j)) D/\zj4 klA Y2.Ok (zD6 K n j) K D (n+(K.length-j))) (fun i _=>K.length-n-(intOf i).toNat)
   case atStart=>exact⟨n,D,Nat.le_refl _,hn,by simp,q9.refl _ _,by rw[show n+(K.length-n)=K.length by omega];exact HO.out,HMF.out⟩
   case round=>
    clear c1;obtain⟨j,Dj,hj1,hj2,rfl,hE,hoj,hmj⟩:=hrel;have kbr:=(hE.block sb hsb (fun e=>HMS.out e.symm)).trans KB.out;have c1:=z6 kbr 3;have c2:=z6 kbr 4;have hlb:=z8 kbr;have HE:=q8 hE;have HOJ:=q8 hoj;have HMJ:=q8 hmj;have KBR:=q8 kbr;clear hE hoj hmj kbr;by_cases hlt:j<K.length
    ·obtain⟨x,hx⟩:∃ x,K[j]?=some x:=⟨_,List.getElem?_eq_getElem hlt⟩;have hAe:=HA2.out (by omega);subst hAe;have hxo:=H.out.ok x (List.mem_of_getElem? hx);have hke:keyOf prog 153 (.agg #[.string x.wd,.int .i64 x.i,.int .i64 x.j,.int .i64 x.b])=some (klA x):=zM0 hxo;have hgm:¬g=mb:=fun e=>H.out.sep g rfl (by rw[e];rfl)
     have hc:∀ q,q<4->wr.cell? ⟨g,j*4+q,none⟩=x.cells[q]?:=by intro q hq;rw[HE.out.cell (p:=⟨g,j*4+q,none⟩) hgl hgm,HCELLS.out _ (by omega)];exact qr6 hx q hq
     have z0:wr.cell? ⟨g,j*4,none⟩=some (.string x.wd):=hc 0 (by decide);have z1:wr.cell? ⟨g,j*4+1,none⟩=some (.int .i64 x.i):=hc 1 (by decide);have z2:wr.cell? ⟨g,j*4+2,none⟩=some (.int .i64 x.j):=hc 2 (by decide);have z3:wr.cell? ⟨g,j*4+3,none⟩=some (.int .i64 x.b):=hc 3 (by decide);have ho1:(wr.alloc (.cells #[.string x.wd,.int .i64 x.i,.int .i64 x.j,.int .i64 x.b] 153)).drew.ownsMap prog 153 (plainElem prog 3) mb (n+(K.length-j)) Dj:=(HOJ.out.alloc _).drew;obtain⟨W1,hdr,how,hturn⟩:=ho1.drop zm3 underlying84 hke 0;have HMN:=q8 (qh8 HMJ.out (HOJ.out.tidy zm3) H.out.nd H.out.ok (fun y hy e=>qz1 hy hxo e) hj1 hx);have hE1:q9 (fun k=>k=mb) w W1:=(((HE.out.alloc _).drew).trans (k8 hturn));have HE1:=q8 hE1;have HOW:=q8 (zU6 how HMN.out.size);have e4:n*4+(j-n)*4=j*4:=by omega
     clear how hturn ho1 hke hx hc hE1;go_wp2_with fail
     go_region
     all_goals
      go_wp2_with fail
      go_roundw
      case measure=>simp[intOf];omega
      case rel=>exact⟨j+1,_,by omega,by omega,by congr 1;omega,HE1.out,HOW.out,HMN.out⟩
    ·have hjn:j=K.length:=by omega
     subst hjn;have HOR:=q8 (z7 H.out.own HE.out.drew (fun k hk e=>H.out.sep k hk (by rw[e];rfl)));go_wp2_with fail
     go_region_law (go_simp;go_wp2_with (go_at_call 101;refine(qq6 HOR.out hn (by omega)).mono ?_;rintro e w2 ⟨v',rfl,hown2,hx2,hob⟩;obtain⟨va,vc,rfl⟩:=Q0 hown2;have kb2:w2.heap[sb]?=some (.cells #[nv,ts,tm,.slice (some ⟨g,0,none⟩) K.length tc,.map (some mb),fs,ks,vd,ml] 98):=(hx2.block sb hlb (fun e=>HS1.out sb e rfl)).trans KBR.out;have d1:=z6 kb2 3;have d1f:=Q8 kb2 3))
     all_goals
      go_wp2_with fail
      go_end0
      refine⟨rfl,?_⟩;exact zr9 (xs:=⟨ts,tm,.slice (some ⟨g,0,none⟩) K.length tc,.map (some mb),fs,ks,vd,ml⟩) H.out hn HS1.out HS2.out (HE.out.mono (fun _ _ e=>by rw[e];rfl)) (.inr ⟨mb,Dj,rfl,HOJ.out,HMJ.out⟩) hown2 (((q9.refl _ wr).drew).trans hx2) hob ((q9.refl (fun k=>k=sb) w2).setCell (p:=⟨sb,3,none⟩) (fun _=>rfl) _) (Y4 kb2 3 _)
end Go.Proofs.YtegbdaffhpiacaaGreatDoor
