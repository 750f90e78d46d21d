/- The keys of the program's rows of terms and of atoms; The program's rows that keep things once each: finding a thing, or taking it in; The program's rows that keep things once each: the last ones are taken back; The keys of trees in the program's row of terms; The program: a term is taken in, its parts first; The program: a term with arguments is taken in. -/
import Derived.Test.YtegbdaffhpiacaaGreatDoorBck17
import Derived.Test.YtegbdaffhpiacaaGreatDoorBck18
import Derived.Test.YtegbdaffhpiacaaGreatDoorBck12
import Derived.BigQuiet
namespace Go.Proofs.YtegbdaffhpiacaaGreatDoor
open Go.RowKit Go.Maps Ar
def Sm (n:Int):Prop := -1000000000<=n/\n<=1000000000
structure Z0.Ok (k:Z0):Prop where
 nm:k.nm.size<=1000
 ar:Sm k.ar
 a0:Sm k.a0
 a1:Sm k.a1
 a2:Sm k.a2
 v:Sm k.v
structure X9.Ok (k:X9):Prop where
 wd:k.wd.size<=1000
 i:Sm k.i
 j:Sm k.j
 b:Sm k.b
theorem zQ8 {n:Int} (h:Sm n):(Lit.int .i64 n).wf=true:=by
 obtain ⟨h1,h2⟩:=h
 simp [Lit.wf,IntKind.min,IntKind.max,IntKind.signed,IntKind.bits]
 omega
theorem cFn:Tryz.prog.cellsOf 142=2:=by kernel_rfl
theorem qM0:Tryz.prog.cellsOf 3=1:=by kernel_rfl
theorem jm9:Tryz.prog.cellsOf 9=1:=by kernel_rfl
theorem cA3:Tryz.prog.cellsOf 143=3:=by kernel_rfl
theorem cA2:Tryz.prog.cellsOf 151=2:=by kernel_rfl
theorem jf1:Tryz.prog.cellsOf 145=6:=by kernel_rfl
theorem jf2:Tryz.prog.cellsOf 153=4:=by kernel_rfl
theorem zg2 (d:Nat) {n:Int} (h:Sm n):Tryz.prog.keyLits (d+1) 3 [.int .i64 n]=some [.int .i64 n]:=by
 unfold Program.keyLits
 simp [Tryz.underlying3,zQ8 h]
theorem qd5 (d:Nat) {s:ByteArray} (h:s.size<=1000):Tryz.prog.keyLits (d+1) 9 [.string s]=some [.string s.data.toList]:=by
 unfold Program.keyLits
 simp [Tryz.underlying9]
 unfold maxLen
 omega
theorem qu7 (d:Nat) {s:ByteArray} {n:Int} (h:s.size<=1000) (hn:Sm n):Tryz.prog.keyLits (d+2) 142 [.string s,.int .i64 n]=some [.string s.data.toList,.int .i64 n]:=by
 unfold Program.keyLits
 simp [Tryz.underlying142,cFn,qM0,jm9,zg2 d hn,qd5 d h]
theorem qu8 (d:Nat) {x y z:Int} (hx:Sm x) (hy:Sm y) (hz:Sm z):Tryz.prog.keyLits (d+2) 143 [.int .i64 x,.int .i64 y,.int .i64 z]=some [.int .i64 x,.int .i64 y,.int .i64 z]:=by
 unfold Program.keyLits
 simp [Tryz.underlying143,cA3,qM0,List.range_succ,zg2 d hx,zg2 d hy,zg2 d hz]
theorem qX9 (d:Nat) {x y:Int} (hx:Sm x) (hy:Sm y):Tryz.prog.keyLits (d+2) 151 [.int .i64 x,.int .i64 y]=some [.int .i64 x,.int .i64 y]:=by
 unfold Program.keyLits
 simp [Tryz.underlying151,cA2,qM0,List.range_succ,zg2 d hx,zg2 d hy]
theorem qY0 (d:Nat) {k:Z0} (h:k.Ok):∃ ls,Tryz.prog.keyLits (d+3) 145 k.cells=some ls:=by
 unfold Program.keyLits
 simp [Z0.cells,Tryz.underlying145,jf1,cFn,cA3,qM0,qu7 d h.nm h.ar,qu8 d h.a0 h.a1 h.a2,zg2 (d+1) h.v]
theorem qY1 (d:Nat) {k:X9} (h:k.Ok):∃ ls,Tryz.prog.keyLits (d+3) 153 k.cells=some ls:=by
 unfold Program.keyLits
 simp [X9.cells,Tryz.underlying153,jf2,jm9,cA2,qM0,qd5 (d+1) h.wd,qX9 d h.i h.j,zg2 (d+1) h.b]
theorem zv9:∃ d,Tryz.prog.types.size+1=d+3:=⟨Tryz.prog.types.size - 2,by
 have:2<=Tryz.prog.types.size:=of_decide_eq_true (by kernel_rfl)
 omega⟩
theorem jj2 {k:Z0} (h:k.Ok):∃ l,keyOf Tryz.prog 145 k.val=some l:=by
 obtain ⟨d,hd⟩:=zv9
 obtain ⟨ls,hl⟩:=qY0 d h
 refine ⟨.string (keyBytes ls),?_⟩
 have hc:k.val.cells.toList=k.cells:=rfl
 have hkt:Tryz.prog.keyType 145=true:=by kernel_rfl
 have hf:k.val.formed Tryz.prog 145=true:=by simp [Z0.val,Value.formed,Tryz.underlying145,jf1]
 unfold keyOf
 rw [Tryz.underlying145]
 simp only [hkt,hf,Bool.and_self,if_true,hc,hd,hl,Option.map_some]
theorem jj3 {k:X9} (h:k.Ok):∃ l,keyOf Tryz.prog 153 k.val=some l:=by
 obtain ⟨d,hd⟩:=zv9
 obtain ⟨ls,hl⟩:=qY1 d h
 refine ⟨.string (keyBytes ls),?_⟩
 have hc:k.val.cells.toList=k.cells:=rfl
 have hkt:Tryz.prog.keyType 153=true:=by kernel_rfl
 have hf:k.val.formed Tryz.prog 153=true:=by simp [X9.val,Value.formed,Tryz.underlying153,jf2]
 unfold keyOf
 rw [Tryz.underlying153]
 simp only [hkt,hf,Bool.and_self,if_true,hc,hd,hl,Option.map_some]
theorem zk5:Keyed Tryz.prog 145:=Keyed.of_law (deep_law_laid (by kernel_rfl) (m:=4) (by omega) (of_decide_eq_true (by kernel_rfl)) (by kernel_rfl) (by kernel_rfl))
theorem zk6:Keyed Tryz.prog 153:=Keyed.of_law (deep_law_laid (by kernel_rfl) (m:=4) (by omega) (of_decide_eq_true (by kernel_rfl)) (by kernel_rfl) (by kernel_rfl))
noncomputable def klT (k:Z0):Lit:=(keyOf Tryz.prog 145 k.val).getD (.bool false)
noncomputable def klA (k:X9):Lit:=(keyOf Tryz.prog 153 k.val).getD (.bool false)
theorem zJ7 {k:Z0} (h:k.Ok):keyOf Tryz.prog 145 k.val=some (klT k):=by
 obtain ⟨l,hl⟩:=jj2 h
 rw [klT,hl];rfl
theorem zJ8 {k:X9} (h:k.Ok):keyOf Tryz.prog 153 k.val=some (klA k):=by
 obtain ⟨l,hl⟩:=jj3 h
 rw [klA,hl];rfl
theorem qu9 {x y:Z0} (hx:x.Ok) (hy:y.Ok) (h:klT x=klT y):x=y:=by
 have h2:=zJ7 hy
 rw [<- h] at h2
 have e:=zk5.inj (zJ7 hx) h2
 cases x;cases y
 simp [Z0.val] at e
 simp [e]
theorem qv0 {x y:X9} (hx:x.Ok) (hy:y.Ok) (h:klA x=klA y):x=y:=by
 have h2:=zJ8 hy
 rw [<- h] at h2
 have e:=zk6.inj (zJ8 hx) h2
 cases x;cases y
 simp [X9.val] at e
 simp [e]
def U0:Value->Option Nat
 | .map b=>b
 | _=>none
theorem Z4 {S:Nat->Prop} {w w':World} {k:TypeId} {R:Value->Option (DataW Unit × List MemPlace)} {b n:Nat} {D:DataW Unit} (h:w.ownsMap Tryz.prog k R b n D) (hx:q9 S w w') (hS:¬S b):w'.ownsMap Tryz.prog k R b n D:=by
 obtain ⟨es,c,hb,r⟩:=h
 exact ⟨es,c,(hx.block b (z8 hb) hS).trans hb,r⟩
theorem O9 {w w':World} {b:Nat} (h:w.mapTurned w' b):q9 (fun k=>k=b) w w':=by
 have hg:=h.grown
 exact ⟨hg.os,hg.tape,hg.output,hg.size,fun k hk hne=>hg.block k hk (fun e=>hne (by simpa using e))⟩
open Classical in
noncomputable def putK {α:Type} (K:List α) (x : α):List α:=if x∈K then K else K++[x]
theorem zs1 {α:Type} {K:List α} {x : α} (h:x∈K):putK K x=K:=by unfold putK;rw [if_pos h]
theorem za7 {α:Type} {K:List α} {x : α} (h:¬x∈K):putK K x=K++[x]:=by unfold putK;rw [if_neg h]
theorem zl5 (w:World):(zeroValue 3).run Tryz.prog w=.ok (.int .i64 0) w:=by kernel_rfl
theorem zQ9 {w:World} {k:TypeId} {R:Value->Option (DataW Unit × List MemPlace)} {b n:Nat} {D:DataW Unit} (h:w.ownsMap Tryz.prog k R b n D) {c:Nat} (hc:Maps.size D=c):w.ownsMap Tryz.prog k R b c D:=by
 obtain ⟨es,cl,hb,hf,hs,rfl⟩:=h
 refine ⟨es,cl,hb,hf,?_,rfl⟩
 rw [<- hc]
 exact Nat.le_of_eq (length_read (P:=Tryz.prog) (k:=k) (R0:=R) es).symm
theorem zD8 (mb:Nat) (W:World):(binOp BinOp.eql 80 (.map (some mb)) (.map none)).run Tryz.prog W=.ok (.bool false) W:=by kernel_rfl
theorem qd6 (W:World):(binOp BinOp.eql 80 (.map none) (.map none)).run Tryz.prog W=.ok (.bool true) W:=by kernel_rfl
structure zJ9 (w:World) (tv mv:Value) (K:List Z0):Prop where
 own:w.ownsRow 0 145 6 tv K.length (K.flatMap Z0.cells)
 nd:K.Nodup
 ok:∀ k∈K,k.Ok
 map:(mv=.map none/\K=[])\/∃ mb D,mv=.map (some mb)/\w.ownsMap Tryz.prog 145 (plainElem Tryz.prog 3) mb K.length D/\zi1 klT Z0.Ok (fun _=>True) K D K.length
 sep:∀ g,tv.ownBlock=some g->¬U0 mv=some g
theorem zJ9.ext {S:Nat->Prop} {w w':World} {tv mv:Value} {K:List Z0} (h:zJ9 w tv mv K) (hx:q9 S w w') (h1:∀ g,tv.ownBlock=some g->¬S g) (h2:∀ g,U0 mv=some g->¬S g):zJ9 w' tv mv K:=by
 refine ⟨z7 h.own hx h1,h.nd,h.ok,?_,h.sep⟩
 rcases h.map with e | ⟨mb,D,rfl,ho,hm⟩
 ·exact .inl e
 ·exact .inr ⟨mb,D,rfl,Z4 ho hx (h2 mb rfl),hm⟩
def zi2 (w:World) (sb:Nat) (nv:Value) (xs:PX) (K:List Z0) (x:Z0) (e:Ending) (w':World):Prop :=
 ∃ (i:Nat) (tv' mv':Value),e=.returned (.int .i64 i)/\(putK K x)[i]?=some x/\w'.heap[sb]?=some (.cells #[nv,tv',mv',xs.at_,xs.am,xs.fs,xs.ks,xs.vd,xs.ml] 98)/\zJ9 w' tv' mv' (putK K x)/\q9 (fun k=>k=sb\/xs.ts.ownBlock=some k\/U0 xs.tm=some k) w w' /\
  (∀ k,tv'.ownBlock=some k->xs.ts.ownBlock=some k\/w.heap.size<=k)/\(∀ k,U0 mv' = some k->U0 xs.tm=some k\/w.heap.size<=k)
set_option maxRecDepth 100000 in
theorem zK0 {w w0 w1 w2 W:World} {sb mb g cap':Nat} {nv:Value} {xs:PX} {K:List Z0} {x:Z0} {D:DataW Unit} (h:zJ9 w xs.ts xs.tm K) (hx:x.Ok) (hn:¬x∈K)
  (h0:q9 (fun k=>k=sb) w w0) (hgrow:w0.grownBy w1 xs.ts.ownBlock) (hown:w1.ownsRow 0 145 6 (.slice (some ⟨g,0,none⟩) (K.length+1) cap') (K.length+1) (K.flatMap Z0.cells++x.cells))
  (hat:xs.ts.ownBlock=some g\/w.heap.size<=g) (hmg:¬g=mb) (hgs:¬g=sb) (hms:¬mb=sb) (hmb:U0 xs.tm=some mb\/w.heap.size<=mb) (h2:q9 (fun k=>k=sb) w1 w2) (hm0:zi1 klT Z0.Ok (fun _=>True) K D K.length) (htd:Maps.Tidy D)
  (hown2:W.ownsMap Tryz.prog 145 (plainElem Tryz.prog 3) mb (K.length+1) (D.put (klT x) (.lit (.int .i64 K.length)))) (h3:q9 (fun k=>k=mb) w2 W)
  (kW:w2.heap[sb]?=some (.cells #[nv,(.slice (some ⟨g,0,none⟩) (K.length+1) cap'),(.map (some mb)),xs.at_,xs.am,xs.fs,xs.ks,xs.vd,xs.ml] 98)) :
  zi2 w sb nv xs K x (.returned (.int .i64 K.length)) W:=by
 have hk:WideAt.IsKeyLit (klT x):=zk5.key (zJ7 hx)
 have hmf:=qd3 hm0 htd hk h.ok hx (fun y hy e=>qu9 hy hx e) hn
 have s0:=h0.size
 refine ⟨K.length,.slice (some ⟨g,0,none⟩) (K.length+1) cap',.map (some mb),rfl,?_,?_,⟨?_,?_,?_,?_,?_⟩,?_,?_,?_⟩
 ·rw [za7 hn];simp
 ·exact (h3.block sb (z8 kW) (fun e=>hms e.symm)).trans kW
 ·rw [za7 hn]
  have ho:=z7 (z7 hown h2 (fun k hk e=>by simp [Value.ownBlock] at hk;omega)) h3 (fun k hk e=>by simp [Value.ownBlock] at hk;omega)
  simpa using ho
 ·rw [za7 hn,List.nodup_append]
  refine ⟨h.nd,by simp,?_⟩
  intro a ha b hb e
  simp at hb
  subst hb e
  exact hn ha
 ·rw [za7 hn]
  intro k hk
  rcases List.mem_append.1 hk with hk | hk
  ·exact h.ok k hk
  ·simp at hk;subst hk;exact hx
 ·rw [za7 hn]
  refine .inr ⟨mb,_,rfl,?_,hmf⟩
  simpa using hown2
 ·intro k hk e
  simp [Value.ownBlock] at hk
  simp [U0] at e
  omega
 ·have e1:q9 (fun k=>k=sb\/xs.ts.ownBlock=some k\/U0 xs.tm=some k) w w1:=(h0.mono (fun _ _ e=>.inl e)).grown hgrow (fun k hk _=>.inr (.inl hk))
  exact (e1.trans' h2 (fun _ _ e=>.inl e)).trans' h3 (fun k hk e=>by
   subst e
   rcases hmb with e2 | e2
   ·exact .inr (.inr e2)
   ·omega)
 ·intro k hk
  simp [Value.ownBlock] at hk
  subst hk
  exact hat
 ·intro k hk
  simp [U0] at hk
  subst hk
  exact hmb
set_option maxRecDepth 100000 in
set_option maxHeartbeats 1000000 in
theorem qn1 {w:World} {sb:Nat} {nv:Value} {xs:PX} {K:List Z0} (x:Z0) (kb:w.heap[sb]?=some (.cells #[nv,xs.ts,xs.tm,xs.at_,xs.am,xs.fs,xs.ks,xs.vd,xs.ml] 98)) (h:zJ9 w xs.ts xs.tm K) (hx:x.Ok) (hs1:∀ k,xs.ts.ownBlock=some k->¬k=sb) (hs2:∀ k,U0 xs.tm=some k->¬k=sb) (hlen:K.length<=10000000) :
  Calls Tryz.prog 188 #[.pointer (some ⟨sb,1,none⟩),x.val] w (zi2 w sb nv xs K x):=by
 show Calls Tryz.prog 188 #[.pointer (some ⟨sb,1,none⟩),.agg #[.string x.nm,.int .i64 x.ar,.int .i64 x.a0,.int .i64 x.a1,.int .i64 x.a2,.int .i64 x.v]] w (zi2 w sb nv xs K x)
 have hke:keyOf Tryz.prog 145 (.agg #[.string x.nm,.int .i64 x.ar,.int .i64 x.a0,.int .i64 x.a1,.int .i64 x.a2,.int .i64 x.v])=some (klT x):=zJ7 hx
 have HKE:=q8 hke
 clear hke
 obtain ⟨ts,tm,at_,am,fs,ks,vd,ml⟩:=xs
 simp only at kb h hs1 hs2
 have hsb:=z8 kb
 have HX0:Hid (q9 (fun _=>False) w (w.alloc (.cells #[.string x.nm,.int .i64 x.ar,.int .i64 x.a0,.int .i64 x.a1,.int .i64 x.a2,.int .i64 x.v] 145))):=(q9.refl _ w).alloc _
 have HBX:Hid ((w.alloc (.cells #[.string x.nm,.int .i64 x.ar,.int .i64 x.a0,.int .i64 x.a1,.int .i64 x.a2,.int .i64 x.v] 145)).heap[w.heap.size]?=some (.cells #[.string x.nm,.int .i64 x.ar,.int .i64 x.a0,.int .i64 x.a1,.int .i64 x.a2,.int .i64 x.v] 145)):=heap_alloc_new w _
 by_cases hin:x∈K
 ·-- it is there
  obtain ⟨i,hi⟩:=List.mem_iff_getElem?.1 hin
  rcases h.map with ⟨_,e⟩ | ⟨mb,D,hmv,ho,hm⟩
  ·subst e;exact absurd hin (by simp)
  subst hmv
  have hlk:∀ n,(Instr.lookup 80 (.map (some mb)) (.agg #[.string x.nm,.int .i64 x.ar,.int .i64 x.a0,.int .i64 x.a1,.int .i64 x.a2,.int .i64 x.v]) true).run Tryz.prog ((w.alloc (.cells #[.string x.nm,.int .i64 x.ar,.int .i64 x.a0,.int .i64 x.a1,.int .i64 x.a2,.int .i64 x.v] 145)).drewN n)=.ok (.tuple #[.int .i64 i,.bool true]) ((w.alloc (.cells #[.string x.nm,.int .i64 x.ar,.int .i64 x.a0,.int .i64 x.a1,.int .i64 x.a2,.int .i64 x.v] 145)).drewN n):=by
   intro n
   have ho2:=Z4 ho (((q9.refl (fun _=>False) w).alloc (.cells #[.string x.nm,.int .i64 x.ar,.int .i64 x.a0,.int .i64 x.a1,.int .i64 x.a2,.int .i64 x.v] 145)).drewN n) (fun f=>f)
   obtain ⟨v,ps,hrun,hv⟩:=ho2.look_ok zk5 Tryz.underlying80 (zl5 _) (plainElem_int Tryz.underlying3 (by decide)) HKE.out
   rw [(hm.yes i x hi trivial).1] at hv
   obtain ⟨a,rfl,e2,_⟩:=plainElem_int_inv Tryz.underlying3 hv
   simp at e2
   rw [hrun,(hm.yes i x hi trivial).2,e2.1]
  have c1:=z6 kb 1
  have c2:=z6 kb 2
  have H:=q8 h
  have KB:=q8 kb
  have HI:=q8 hi
  have HW0:Hid (q9 (fun _=>False) w (w.alloc (.cells #[.string x.nm,.int .i64 x.ar,.int .i64 x.a0,.int .i64 x.a1,.int .i64 x.a2,.int .i64 x.v] 145))):=(q9.refl _ w).alloc _
  have hlk0:=hlk 0
  have hnw:¬sb=w.heap.size:=by omega
  clear h kb ho hm hi
  go_enter Tryz.func188,Tryz.ntmps188
  go_wp2_with fail
  go_quiet (fail)
  go_wp2_with fail
  go_ret
  refine ⟨i,_,_,rfl,by rw [zs1 hin];exact HI.out,?_,?_,?_,fun k hk=>.inl hk,fun k hk=>.inl hk⟩
  ·exact ((HW0.out.drewN nq).block sb hsb (fun f=>f)).trans KB.out
  ·rw [zs1 hin]
   exact H.out.ext (HW0.out.drewN nq) (fun _ _ f=>f) (fun _ _ f=>f)
  ·exact (HW0.out.drewN nq).mono (fun _ _ f=>f.elim)
 ·have HX:=q8 hx
  have HS1:=q8 hs1
  have HS2:=q8 hs2
  obtain ⟨ta,tc,hts⟩:∃ ta tc,ts=.slice ta K.length tc:=by
   rcases h.own.2 with ⟨e,e0⟩ | ⟨g,cap,cur,hv,_⟩
   ·exact ⟨none,0,by rw [e,e0]⟩
   ·exact ⟨_,cap,hv⟩
  subst hts
  rcases h.map with ⟨hmv,hK⟩ | ⟨mb,D,hmv,ho,hm⟩
  ·subst hmv
   have hlk:∀ n,(Instr.lookup 80 (.map none) (.agg #[.string x.nm,.int .i64 x.ar,.int .i64 x.a0,.int .i64 x.a1,.int .i64 x.a2,.int .i64 x.v]) true).run Tryz.prog ((w.alloc (.cells #[.string x.nm,.int .i64 x.ar,.int .i64 x.a0,.int .i64 x.a1,.int .i64 x.a2,.int .i64 x.v] 145)).drewN n)=.ok (.tuple #[.int .i64 0,.bool false]) ((w.alloc (.cells #[.string x.nm,.int .i64 x.ar,.int .i64 x.a0,.int .i64 x.a1,.int .i64 x.a2,.int .i64 x.v] 145)).drewN n):=by
    intro n
    have e:=Maps.look_nil (w:=(w.alloc (.cells #[.string x.nm,.int .i64 x.ar,.int .i64 x.a0,.int .i64 x.a1,.int .i64 x.a2,.int .i64 x.v] 145)).drewN n) true zk5 Tryz.underlying80 (zl5 _) HKE.out
    simpa using e
   have c1:=z6 kb 1
   have c2:=z6 kb 2
   have f2:=Q0 kb 2
   have hlk0:=hlk 0
   have hnw:¬sb=w.heap.size:=by omega
   have hmm:=@run_makeMap Tryz.prog
   have hnil:=qd6
   have HK:=q8 hK
   have H:=q8 h
   have KB:=q8 kb
   clear h kb hx hs1 hs2 hK
   go_enter Tryz.func188,Tryz.ntmps188
   go_wp2_with fail
   go_quiet (fail)
   obtain ⟨V0,hVe⟩:∃ V0,(w.alloc (.cells #[.string x.nm,.int .i64 x.ar,.int .i64 x.a0,.int .i64 x.a1,.int .i64 x.a2,.int .i64 x.v] 145)).drewN nq=V0:=⟨_,rfl⟩
   have HVF:Hid (q9 (fun _=>False) w V0):=by rw [<- hVe];exact ((q9.refl _ w).alloc _).drewN nq
   have KV0:=q8 ((HVF.out.block sb hsb (fun f=>f)).trans KB.out)
   have KX0:Hid (V0.heap[w.heap.size]?=some (.cells #[.string x.nm,.int .i64 x.ar,.int .i64 x.a0,.int .i64 x.a1,.int .i64 x.a2,.int .i64 x.v] 145)):=by rw [<- hVe];exact heap_alloc_new w _
   have hl0:=z8 KV0.out
   have hlx0:=z8 KX0.out
   rw [hVe]
   clear hVe hlk hlk0 c1 c2 f2
   have c1:=z6 KV0.out 1
   have c2:=z6 KV0.out 2
   have f2:=Q0 KV0.out 2
   go_wp2_with fail
   obtain ⟨mb,hmb⟩:∃ mb,mb=V0.heap.size:=⟨_,rfl⟩
   obtain ⟨D,hD⟩:∃ D:DataW Unit,D=.map []:=⟨_,rfl⟩
   obtain ⟨V,hVe⟩:∃ V,(V0.setCell ⟨sb,2,none⟩ (.map (some V0.heap.size))).alloc (.map #[] 0)=V:=⟨_,rfl⟩
   have hsz:(V0.setCell ⟨sb,2,none⟩ (.map (some V0.heap.size))).heap.size=V0.heap.size:=by simp
   have HVA:Hid (q9 (fun k=>k=sb) V0 V):=by rw [<- hVe];exact ((q9.refl (fun k=>k=sb) _).setCell (p:=⟨sb,2,none⟩) (fun _=>rfl) _).alloc _
   have HV:Hid (q9 (fun k=>k=sb) w V):=(HVF.out.mono (fun _ _ f=>f.elim)).trans HVA.out
   have KV:Hid (V.heap[sb]?=some (.cells #[nv,.slice ta K.length tc,.map (some mb),at_,am,fs,ks,vd,ml] 98)):=by
    rw [<- hVe,hmb]
    exact (Below.heap_alloc _ _ sb (by rw [hsz];exact hl0)).trans (Y0 KV0.out 2 _)
   have KX:Hid (V.heap[w.heap.size]?=some (.cells #[.string x.nm,.int .i64 x.ar,.int .i64 x.a0,.int .i64 x.a1,.int .i64 x.a2,.int .i64 x.v] 145)):=(HVA.out.block _ hlx0 (by show ¬w.heap.size=sb;omega)).trans KX0.out
   have HMS:Hid (¬mb=sb):=by show ¬_;omega
   have HOV:Hid (V.ownsMap Tryz.prog 145 (plainElem Tryz.prog 3) mb K.length D):=by
    have e:=World.ownsMap_made (H:=Unit) (V0.setCell ⟨sb,2,none⟩ (.map (some V0.heap.size))) Tryz.prog 145 (plainElem Tryz.prog 3)
    rw [hsz,hVe] at e
    rw [hmb,hD,HK.out]
    exact e
   have HMF:Hid (zi1 klT Z0.Ok (fun _=>True) K D K.length):=by rw [hD,HK.out];exact qd2
   have HTD:Hid (Maps.Tidy D):=by rw [hD];exact tidy_empty
   have HMB:Hid (U0 (.map none)=some mb\/w.heap.size<=mb):=.inr (by have:=HVF.out.size;omega)
   have HSEP:Hid (∀ g,(Value.slice ta K.length tc).ownBlock=some g->¬g=mb):=fun g hg e=>by
    have h1:=(H.out.own.lt g hg).2
    have:=HVF.out.size
    omega
   rw [hVe,<- hmb]
   clear hVe hmb hD c1 c2 f2 KV0 KX0 hnil hsz
   have hlV:=z8 KV.out
   have hlX:=z8 KX.out
   have c1:=z6 KV.out 1
   have c2:=z6 KV.out 2
   have x0:=z6 KX.out 0
   have x1:=z6 KX.out 1
   have x2:=z6 KX.out 2
   have x3:=z6 KX.out 3
   have x4:=z6 KX.out 4
   have x5:=z6 KX.out 5
   obtain ⟨i0,hi,hz0,hz1,hz2⟩:=info_parts zy3
   have hnn:=zD8 mb
   have HOR:=q8 (z7 H.out.own HV.out (fun k hk e=>HS1.out k hk e))
   go_wp2_with fail
   go_region_law ((refine step_append_lies _ (by rfl) _ _ _ (by rfl) 0 145 i0 _ 6 56 Tryz.underlying79 hi hz0 hz1 hz2 rfl (by omega) (.slice ta K.length tc) K.length (K.flatMap Z0.cells) (by rfl) ((HOR.out.alloc _).drew) ⟨V.heap.size,0,none⟩ 1 1 x.cells (by rfl) (by rfl) (World.news_of_block (cs:=#[.string x.nm,.int .i64 x.ar,.int .i64 x.a0,.int .i64 x.a1,.int .i64 x.a2,.int .i64 x.v]) (t:=145) (fr:=(0,0)) (heap_alloc_new V _)) (by simp [Z0.cells,Value.oneCell']) (by omega) (by unfold maxLen;omega) (by omega) (Nat.zero_le _) (V.heap.size+1) (by simp) ?_;intro g cap' w2 hown2 hgrow hat hlt2;have kb2:w2.heap[sb]?=some (.cells #[nv,.slice ta K.length tc,.map (some mb),at_,am,fs,ks,vd,ml] 98):=(hgrow.block sb (by simp;omega) (fun e=>HS1.out sb e.symm rfl)).trans ((Below.heap_alloc V _ sb hlV).trans KV.out);have d1:=z6 kb2 1;have d1f:=Q0 kb2 1))
   all_goals
    obtain ⟨W3,hW3⟩:∃ W3,w2.setCell ⟨sb,1,none⟩ (.slice (some ⟨g,0,none⟩) (K.length+1) cap')=W3:=⟨_,rfl⟩
    have hxV:q9 (fun k=>(Value.slice ta K.length tc).ownBlock=some k) V w2:=((((q9.refl (fun _=>False) V).alloc _).drew).mono (fun _ _ f=>f.elim)).grown hgrow (fun k hk _=>hk)
    have hx3:q9 (fun k=>k=sb) w2 W3:=by rw [<- hW3];exact (q9.refl (fun k=>k=sb) w2).setCell (p:=⟨sb,1,none⟩) (fun _=>rfl) _
    have kb3:W3.heap[sb]?=some (.cells #[nv,(.slice (some ⟨g,0,none⟩) (K.length+1) cap'),.map (some mb),at_,am,fs,ks,vd,ml] 98):=by rw [<- hW3];exact Y0 kb2 1 _
    have kx3:W3.heap[w.heap.size]?=some (.cells #[.string x.nm,.int .i64 x.ar,.int .i64 x.a0,.int .i64 x.a1,.int .i64 x.a2,.int .i64 x.v] 145):=(hx3.block _ (Nat.lt_of_lt_of_le hlX hxV.size) (by show ¬w.heap.size=sb;omega)).trans ((hxV.block _ hlX (fun e=>by have:=(H.out.own.lt _ e).2;omega)).trans KX.out)
    have ho3:W3.drew.ownsMap Tryz.prog 145 (plainElem Tryz.prog 3) mb K.length D:=Z4 (Z4 (Z4 HOV.out hxV (fun e=>HSEP.out mb e rfl)) hx3 HMS.out) ((q9.refl (fun _=>False) W3).drew) (fun f=>f)
    obtain ⟨W4,hst,how4,hturn⟩:=ho3.store zk5 Tryz.underlying80 (by unfold maxLen;omega) HKE.out (plainElem_int Tryz.underlying3 (zQ8 (n:=(K.length:Int)) ⟨by omega,by omega⟩))
    have e1:=z6 kb3 1
    have e2:=z6 kb3 2
    have y0:=z6 kx3 0
    have y1:=z6 kx3 1
    have y2:=z6 kx3 2
    have y3:=z6 kx3 3
    have y4:=z6 kx3 4
    have y5:=z6 kx3 5
    have HN:Hid (zi2 w sb nv ⟨.slice ta K.length tc,.map none,at_,am,fs,ks,vd,ml⟩ K x (.returned (.int .i64 K.length)) W4):=zK0 (xs:=⟨.slice ta K.length tc,.map none,at_,am,fs,ks,vd,ml⟩) H.out HX.out hin ((HV.out.alloc _).drew) hgrow hown2 (hat.imp id (fun e=>by have:=HV.out.size;omega)) (by
     rcases hat with e | e
     ·exact fun e3=>HSEP.out mb (e3 ▸ e) rfl
     ·have:=HOV.out.lt;omega) (by
     rcases hat with e | e
     ·exact HS1.out g e
     ·omega) HMS.out HMB.out hx3 HMF.out HTD.out how4 ((((q9.refl (fun _=>False) W3).drew).mono (fun _ _ f=>f.elim)).trans (O9 hturn)) kb3
    rw [hW3]
    clear hW3 hxV hx3 kb3 kx3 ho3 how4 hturn kb2 hown2 hgrow hat c1 c2 d1 d1f
    go_wp2_with fail
    go_region
    all_goals
     go_wp2_with fail
     go_ret
     exact HN.out
  ·subst hmv
   have hlk:∀ n,(Instr.lookup 80 (.map (some mb)) (.agg #[.string x.nm,.int .i64 x.ar,.int .i64 x.a0,.int .i64 x.a1,.int .i64 x.a2,.int .i64 x.v]) true).run Tryz.prog ((w.alloc (.cells #[.string x.nm,.int .i64 x.ar,.int .i64 x.a0,.int .i64 x.a1,.int .i64 x.a2,.int .i64 x.v] 145)).drewN n)=.ok (.tuple #[.int .i64 0,.bool false]) ((w.alloc (.cells #[.string x.nm,.int .i64 x.ar,.int .i64 x.a0,.int .i64 x.a1,.int .i64 x.a2,.int .i64 x.v] 145)).drewN n):=by
    intro n
    have ho2:=Z4 ho (((q9.refl (fun _=>False) w).alloc (.cells #[.string x.nm,.int .i64 x.ar,.int .i64 x.a0,.int .i64 x.a1,.int .i64 x.a2,.int .i64 x.v] 145)).drewN n) (fun f=>f)
    obtain ⟨v,ps,hrun,hv⟩:=ho2.look_ok zk5 Tryz.underlying80 (zl5 _) (plainElem_int Tryz.underlying3 (by decide)) HKE.out
    have hno:=hm.no x hx (fun hc=>hin hc.1)
    rw [atKey_of_not_has hno] at hv
    obtain ⟨a,rfl,e2,_⟩:=plainElem_int_inv Tryz.underlying3 hv
    simp at e2
    rw [hrun,hno,<- e2.1]
   have c1:=z6 kb 1
   have c2:=z6 kb 2
   have hlk0:=hlk 0
   have hnw:¬sb=w.heap.size:=by omega
   have HTD:=q8 (ho.tidy zk5)
   have HMF:=q8 hm
   have HO:=q8 ho
   have H:=q8 h
   have KB:=q8 kb
   have HSEP:Hid (∀ g,(Value.slice ta K.length tc).ownBlock=some g->¬g=mb):=fun g hg e=>h.sep g hg (by rw [e];rfl)
   have HMS:Hid (¬mb=sb):=hs2 mb rfl
   have HMB:Hid (U0 (.map (some mb))=some mb\/w.heap.size<=mb):=.inl rfl
   clear h kb ho hm hx hs1 hs2
   go_enter Tryz.func188,Tryz.ntmps188
   go_wp2_with fail
   go_quiet (fail)
   obtain ⟨V,hVe⟩:∃ V,(w.alloc (.cells #[.string x.nm,.int .i64 x.ar,.int .i64 x.a0,.int .i64 x.a1,.int .i64 x.a2,.int .i64 x.v] 145)).drewN nq=V:=⟨_,rfl⟩
   have HVF:Hid (q9 (fun _=>False) w V):=by rw [<- hVe];exact ((q9.refl _ w).alloc _).drewN nq
   have HV:Hid (q9 (fun k=>k=sb) w V):=HVF.out.mono (fun _ _ f=>f.elim)
   have KV:=q8 ((HVF.out.block sb hsb (fun f=>f)).trans KB.out)
   have KX:Hid (V.heap[w.heap.size]?=some (.cells #[.string x.nm,.int .i64 x.ar,.int .i64 x.a0,.int .i64 x.a1,.int .i64 x.a2,.int .i64 x.v] 145)):=by rw [<- hVe];exact heap_alloc_new w _
   have HOV:=q8 (Z4 HO.out HVF.out (fun f=>f))
   rw [hVe]
   clear hVe hlk hlk0 c1 c2
   have hlV:=z8 KV.out
   have hlX:=z8 KX.out
   have c1:=z6 KV.out 1
   have c2:=z6 KV.out 2
   have x0:=z6 KX.out 0
   have x1:=z6 KX.out 1
   have x2:=z6 KX.out 2
   have x3:=z6 KX.out 3
   have x4:=z6 KX.out 4
   have x5:=z6 KX.out 5
   obtain ⟨i0,hi,hz0,hz1,hz2⟩:=info_parts zy3
   have hnn:=zD8 mb
   have HOR:=q8 (z7 H.out.own HV.out (fun k hk e=>HS1.out k hk e))
   go_wp2_with fail
   go_region_law ((refine step_append_lies _ (by rfl) _ _ _ (by rfl) 0 145 i0 _ 6 56 Tryz.underlying79 hi hz0 hz1 hz2 rfl (by omega) (.slice ta K.length tc) K.length (K.flatMap Z0.cells) (by rfl) ((HOR.out.alloc _).drew) ⟨V.heap.size,0,none⟩ 1 1 x.cells (by rfl) (by rfl) (World.news_of_block (cs:=#[.string x.nm,.int .i64 x.ar,.int .i64 x.a0,.int .i64 x.a1,.int .i64 x.a2,.int .i64 x.v]) (t:=145) (fr:=(0,0)) (heap_alloc_new V _)) (by simp [Z0.cells,Value.oneCell']) (by omega) (by unfold maxLen;omega) (by omega) (Nat.zero_le _) (V.heap.size+1) (by simp) ?_;intro g cap' w2 hown2 hgrow hat hlt2;have kb2:w2.heap[sb]?=some (.cells #[nv,.slice ta K.length tc,.map (some mb),at_,am,fs,ks,vd,ml] 98):=(hgrow.block sb (by simp;omega) (fun e=>HS1.out sb e.symm rfl)).trans ((Below.heap_alloc V _ sb hlV).trans KV.out);have d1:=z6 kb2 1;have d1f:=Q0 kb2 1))
   all_goals
    obtain ⟨W3,hW3⟩:∃ W3,w2.setCell ⟨sb,1,none⟩ (.slice (some ⟨g,0,none⟩) (K.length+1) cap')=W3:=⟨_,rfl⟩
    have hxV:q9 (fun k=>(Value.slice ta K.length tc).ownBlock=some k) V w2:=((((q9.refl (fun _=>False) V).alloc _).drew).mono (fun _ _ f=>f.elim)).grown hgrow (fun k hk _=>hk)
    have hx3:q9 (fun k=>k=sb) w2 W3:=by rw [<- hW3];exact (q9.refl (fun k=>k=sb) w2).setCell (p:=⟨sb,1,none⟩) (fun _=>rfl) _
    have kb3:W3.heap[sb]?=some (.cells #[nv,(.slice (some ⟨g,0,none⟩) (K.length+1) cap'),.map (some mb),at_,am,fs,ks,vd,ml] 98):=by rw [<- hW3];exact Y0 kb2 1 _
    have kx3:W3.heap[w.heap.size]?=some (.cells #[.string x.nm,.int .i64 x.ar,.int .i64 x.a0,.int .i64 x.a1,.int .i64 x.a2,.int .i64 x.v] 145):=(hx3.block _ (Nat.lt_of_lt_of_le hlX hxV.size) (by show ¬w.heap.size=sb;omega)).trans ((hxV.block _ hlX (fun e=>by have:=(H.out.own.lt _ e).2;omega)).trans KX.out)
    have ho3:W3.drew.ownsMap Tryz.prog 145 (plainElem Tryz.prog 3) mb K.length D:=Z4 (Z4 (Z4 HOV.out hxV (fun e=>HSEP.out mb e rfl)) hx3 HMS.out) ((q9.refl (fun _=>False) W3).drew) (fun f=>f)
    obtain ⟨W4,hst,how4,hturn⟩:=ho3.store zk5 Tryz.underlying80 (by unfold maxLen;omega) HKE.out (plainElem_int Tryz.underlying3 (zQ8 (n:=(K.length:Int)) ⟨by omega,by omega⟩))
    have e1:=z6 kb3 1
    have e2:=z6 kb3 2
    have y0:=z6 kx3 0
    have y1:=z6 kx3 1
    have y2:=z6 kx3 2
    have y3:=z6 kx3 3
    have y4:=z6 kx3 4
    have y5:=z6 kx3 5
    have HN:Hid (zi2 w sb nv ⟨.slice ta K.length tc,.map (some mb),at_,am,fs,ks,vd,ml⟩ K x (.returned (.int .i64 K.length)) W4):=zK0 (xs:=⟨.slice ta K.length tc,.map (some mb),at_,am,fs,ks,vd,ml⟩) H.out HX.out hin ((HV.out.alloc _).drew) hgrow hown2 (hat.imp id (fun e=>by have:=HV.out.size;omega)) (by
     rcases hat with e | e
     ·exact fun e3=>HSEP.out mb (e3 ▸ e) rfl
     ·have:=HOV.out.lt;omega) (by
     rcases hat with e | e
     ·exact HS1.out g e
     ·omega) HMS.out HMB.out hx3 HMF.out HTD.out how4 ((((q9.refl (fun _=>False) W3).drew).mono (fun _ _ f=>f.elim)).trans (O9 hturn)) kb3
    rw [hW3]
    clear hW3 hxV hx3 kb3 kx3 ho3 how4 hturn kb2 hown2 hgrow hat c1 c2 d1 d1f
    go_wp2_with fail
    go_region
    all_goals
     go_wp2_with fail
     go_ret
     exact HN.out
def zK2 (w:World) (sb:Nat) (nv:Value) (xs:PX) (K:List Z0) (n:Nat) (w':World):Prop :=
 ∃ tv',w'.heap[sb]?=some (.cells #[nv,tv',xs.tm,xs.at_,xs.am,xs.fs,xs.ks,xs.vd,xs.ml] 98)/\zJ9 w' tv' xs.tm (K.take n)/\q9 (fun k=>k=sb\/xs.ts.ownBlock=some k\/U0 xs.tm=some k) w w'/\tv'.ownBlock=xs.ts.ownBlock
theorem zW0 {K:List Z0} {n:Nat} (hn:n<=K.length):(K.flatMap Z0.cells).take (n * 6)=(K.take n).flatMap Z0.cells:=by
 have hl:∀ l:List Z0,(l.flatMap Z0.cells).length=l.length * 6:=by
  intro l
  induction l with
  | nil=>rfl
  | cons a l ih=>simp only [List.flatMap_cons,List.length_append,List.length_cons,ih];simp [Z0.cells];omega
 have e:K.flatMap Z0.cells=(K.take n).flatMap Z0.cells++(K.drop n).flatMap Z0.cells:=by rw [<- List.flatMap_append,List.take_append_drop]
 rw [e,List.take_append_of_le_length (by rw [hl,List.length_take];omega),List.take_of_length_le (by rw [hl,List.length_take];omega)]
theorem qn3 {K:List Z0} {i:Nat} {x:Z0} (h:K[i]?=some x) (q:Nat) (hq:q < 6):(K.flatMap Z0.cells)[i * 6+q]?=x.cells[q]?:=by
 obtain ⟨hi,hx⟩:=List.getElem?_eq_some_iff.1 h
 have hl:∀ l:List Z0,(l.flatMap Z0.cells).length=l.length * 6:=by
  intro l
  induction l with
  | nil=>rfl
  | cons a l ih=>simp only [List.flatMap_cons,List.length_append,List.length_cons,ih];simp [Z0.cells];omega
 have e:K.take i++x :: K.drop (i+1)=K:=by rw [<- hx,List.getElem_cons_drop,List.take_append_drop]
 have e2:(K.take i++x :: K.drop (i+1)).flatMap Z0.cells=(K.take i).flatMap Z0.cells++(x.cells++(K.drop (i+1)).flatMap Z0.cells):=by simp
 rw [e] at e2
 have hlt:((K.take i).flatMap Z0.cells).length=i * 6:=by rw [hl,List.length_take];congr 1;omega
 have hc:x.cells.length=6:=rfl
 rw [e2,List.getElem?_append_right (by rw [hlt];omega),hlt,show i * 6+q - i * 6=q by omega,List.getElem?_append_left (by omega)]
theorem zp8 {w wr w2 W:World} {sb n:Nat} {nv v':Value} {xs:PX} {K:List Z0} (h:zJ9 w xs.ts xs.tm K) (hn:n<=K.length) (hs1:∀ k,xs.ts.ownBlock=some k->¬k=sb) (hs2:∀ k,U0 xs.tm=some k->¬k=sb) (hE:q9 (fun k=>U0 xs.tm=some k) w wr)
  (hm:(xs.tm=.map none/\K=[])\/∃ mb D,xs.tm=.map (some mb)/\wr.ownsMap Tryz.prog 145 (plainElem Tryz.prog 3) mb (n+(K.length - K.length)) D/\zi1 klT Z0.Ok (zB8 K n K.length) K D (n+(K.length - K.length)))
  (hown:w2.ownsRow 0 145 6 v' n ((K.flatMap Z0.cells).take (n * 6))) (hx:q9 (fun k=>xs.ts.ownBlock=some k) wr w2) (hob:v'.ownBlock=xs.ts.ownBlock) (hW:q9 (fun k=>k=sb) w2 W) (kW:W.heap[sb]?=some (.cells #[nv,v',xs.tm,xs.at_,xs.am,xs.fs,xs.ks,xs.vd,xs.ml] 98)):zK2 w sb nv xs K n W:=by
 refine ⟨v',kW,⟨?_,h.nd.sublist (List.take_sublist n K),fun k hk=>h.ok k (List.mem_of_mem_take hk),?_,fun k hk=>by rw [hob] at hk;exact h.sep k hk⟩,?_,hob⟩
 ·rw [zW0 hn] at hown
  have hl:(K.take n).length=n:=by rw [List.length_take];omega
  rw [hl]
  exact z7 hown hW (fun k hk=>by rw [hob] at hk;exact hs1 k hk)
 ·rcases hm with ⟨e1,e2⟩ | ⟨mb,D,e1,ho,hmf⟩
  ·exact .inl ⟨e1,by rw [e2];simp⟩
  ·refine .inr ⟨mb,D,e1,?_,zQ7 hmf hn⟩
   have hl:(K.take n).length=n+(K.length - K.length):=by rw [List.length_take];omega
   rw [hl]
   exact Z4 (Z4 ho hx (fun e=>h.sep mb e (by rw [e1];rfl))) hW (hs2 mb (by rw [e1];rfl))
 ·exact ((hE.mono (fun _ _ e=>.inr (.inr e))).trans' hx (fun _ _ e=>.inr (.inl e))).trans' hW (fun _ _ e=>.inl e)
set_option maxRecDepth 100000 in
set_option maxHeartbeats 1000000 in
theorem qn4 {w:World} {sb:Nat} {nv:Value} {xs:PX} {K:List Z0} (n:Nat) (kb:w.heap[sb]?=some (.cells #[nv,xs.ts,xs.tm,xs.at_,xs.am,xs.fs,xs.ks,xs.vd,xs.ml] 98)) (h:zJ9 w xs.ts xs.tm K) (hs1:∀ k,xs.ts.ownBlock=some k->¬k=sb) (hs2:∀ k,U0 xs.tm=some k->¬k=sb) (hlen:K.length<=10000000) (hn:n<=K.length) :
  Calls Tryz.prog 65 #[.pointer (some ⟨sb,1,none⟩),.int .i64 n] w fun e w'=>e=.returned (.tuple #[])/\zK2 w sb nv xs K n w':=by
 obtain ⟨ts,tm,at_,am,fs,ks,vd,ml⟩:=xs
 simp only at kb h hs1 hs2
 have hsb:=z8 kb
 have hsh:(ts=.slice none 0 0/\K.length=0)\/∃ g tc,ts=.slice (some ⟨g,0,none⟩) K.length tc/\K.length<=tc/\tc<=9223372036854775807/\g < w.heap.size/\∀ q,q < K.length * 6->w.cell? ⟨g,q,none⟩=(K.flatMap Z0.cells)[q]?:=by
  rcases h.own.2 with ⟨e,e0⟩ | ⟨g,cap,cur,hv,_,hh,h1,h2,_⟩
  ·exact .inl ⟨e,e0⟩
  ·refine .inr ⟨g,cap,hv,h1,by unfold maxLen at h2;exact h2,z8 hh,fun q hq=>?_⟩
   have h3:=h.own
   rw [hv] at h3
   exact h3.cellAt q hq
 rcases hsh with ⟨hts,hK0⟩ | ⟨g,tc,hts,htc,htc2,hgl,hcells⟩
 ·clear hlen
  have hKe:K=[]:=List.length_eq_zero_iff.1 hK0
  have hn0:n=0:=by omega
  subst hn0 hts
  have HM0:Hid ((tm=.map none/\K=[])\/∃ mb D,tm=.map (some mb)/\w.ownsMap Tryz.prog 145 (plainElem Tryz.prog 3) mb (0+(K.length - K.length)) D/\zi1 klT Z0.Ok (zB8 K 0 K.length) K D (0+(K.length - K.length))):=by
   rcases h.map with e | ⟨mb,D,e,ho,hm⟩
   ·exact .inl e
   ·have hm2:=zl4 hm (Nat.zero_le _)
    refine .inr ⟨mb,D,e,?_,?_⟩
    ·rw [show 0+(K.length - K.length)=K.length by omega];exact ho
    ·rw [hK0] at hm2 ⊢;exact hm2
  have c1:=z6 kb 1
  have hlb:=hsb
  have H:=q8 h
  have KB:=q8 kb
  have HS1:=q8 hs1
  have HS2:=q8 hs2
  have HOR:=q8 (z7 h.own ((q9.refl (fun _=>False) w).drew) (fun _ _ f=>f))
  rw [hK0] at HOR
  clear h kb hs1 hs2
  go_enter Tryz.func65,Tryz.ntmps65
  go_wp2_with fail
  go_loopw [13] (fun i wr=>i=.int .i64 0/\wr=w) (fun _ _=>0)
  case atStart=>exact ⟨rfl,rfl⟩
  case round =>
   obtain ⟨rfl,rfl⟩:=hrel
   go_wp2_with fail
   go_region_law (go_simp;go_wp2_with (go_at_call 100;refine (qm4 HOR.out (Nat.le_refl 0) (by omega)).mono ?_;rintro e w2 ⟨v',rfl,hown2,hx2,hob⟩;obtain ⟨va,vc,rfl⟩:=j9 hown2;have kb2:w2.heap[sb]?=some (.cells #[nv,.slice none 0 0,tm,at_,am,fs,ks,vd,ml] 98):=(hx2.block sb hlb (fun e=>HS1.out sb e rfl)).trans KB.out;have d1:=z6 kb2 1;have d1f:=Q0 kb2 1))
   all_goals
    go_wp2_with fail
    go_end0
    refine ⟨rfl,?_⟩
    exact zp8 (xs:=⟨.slice none 0 0,tm,at_,am,fs,ks,vd,ml⟩) H.out (Nat.zero_le _) HS1.out HS2.out (q9.refl _ _) HM0.out hown2 (((q9.refl _ _).drew).trans hx2) hob ((q9.refl (fun k=>k=sb) w2).setCell (p:=⟨sb,1,none⟩) (fun _=>rfl) _) (Y0 kb2 1 _)
 ·by_cases hK0:K.length=0
  ·clear hlen hcells htc2
   rw [hK0] at hts
   have hKe:K=[]:=List.length_eq_zero_iff.1 hK0
   have hn0:n=0:=by omega
   subst hn0 hts
   have HM0:Hid ((tm=.map none/\K=[])\/∃ mb D,tm=.map (some mb)/\w.ownsMap Tryz.prog 145 (plainElem Tryz.prog 3) mb (0+(K.length - K.length)) D/\zi1 klT Z0.Ok (zB8 K 0 K.length) K D (0+(K.length - K.length))):=by
    rcases h.map with e | ⟨mb,D,e,ho,hm⟩
    ·exact .inl e
    ·have hm2:=zl4 hm (Nat.zero_le _)
     refine .inr ⟨mb,D,e,?_,?_⟩
     ·rw [show 0+(K.length - K.length)=K.length by omega];exact ho
     ·rw [hK0] at hm2 ⊢;exact hm2
   have c1:=z6 kb 1
   have hlb:=hsb
   have H:=q8 h
   have KB:=q8 kb
   have HS1:=q8 hs1
   have HS2:=q8 hs2
   have HOR:=q8 (z7 h.own ((q9.refl (fun _=>False) w).drew) (fun _ _ f=>f))
   rw [hK0] at HOR
   clear h kb hs1 hs2
   go_enter Tryz.func65,Tryz.ntmps65
   go_wp2_with fail
   go_loopw [13] (fun i wr=>i=.int .i64 0/\wr=w) (fun _ _=>0)
   case atStart=>exact ⟨rfl,rfl⟩
   case round =>
    obtain ⟨rfl,rfl⟩:=hrel
    go_wp2_with fail
    go_region_law (go_simp;go_wp2_with (go_at_call 100;refine (qm4 HOR.out (Nat.le_refl 0) (by omega)).mono ?_;rintro e w2 ⟨v',rfl,hown2,hx2,hob⟩;obtain ⟨va,vc,rfl⟩:=j9 hown2;have kb2:w2.heap[sb]?=some (.cells #[nv,.slice (some ⟨g,0,none⟩) 0 tc,tm,at_,am,fs,ks,vd,ml] 98):=(hx2.block sb hlb (fun e=>HS1.out sb e rfl)).trans KB.out;have d1:=z6 kb2 1;have d1f:=Q0 kb2 1))
    all_goals
     go_wp2_with fail
     go_end0
     refine ⟨rfl,?_⟩
     exact zp8 (xs:=⟨.slice (some ⟨g,0,none⟩) 0 tc,tm,at_,am,fs,ks,vd,ml⟩) H.out (Nat.zero_le _) HS1.out HS2.out (q9.refl _ _) HM0.out hown2 (((q9.refl _ _).drew).trans hx2) hob ((q9.refl (fun k=>k=sb) w2).setCell (p:=⟨sb,1,none⟩) (fun _=>rfl) _) (Y0 kb2 1 _)
  subst hts
  rcases h.map with ⟨hmv,hK⟩ | ⟨mb,D,hmv,ho,hm⟩
  ·exact absurd (by rw [hK];rfl) hK0
  ·subst hmv
   obtain ⟨A,hA,hA2⟩:∃ A,(if tc=n then some (⟨g,0,none⟩:Addr) else some ⟨g,n * 6,none⟩)=some A/\(n < tc->A=⟨g,n * 6,none⟩):=by
    by_cases h:tc=n
    ·exact ⟨_,by rw [if_pos h],fun h2=>by omega⟩
    ·exact ⟨_,by rw [if_neg h],fun _=>rfl⟩
   have hnc:n<=tc:=by omega
   have c1:=z6 kb 1
   have HMF:=q8 (zl4 hm hn)
   have HO:=q8 ho
   have H:=q8 h
   have KB:=q8 kb
   have HCELLS:=q8 hcells
   have HA2:=q8 hA2
   have HS1:=q8 hs1
   have HS2:=q8 hs2
   have HMS:Hid (¬mb=sb):=hs2 mb rfl
   have hml:=ho.lt
   clear h kb ho hm hcells hA2 hs1 hs2
   go_enter Tryz.func65,Tryz.ntmps65
   go_wp2_with fail
   go_loopw [13] (fun i wr=>∃ (j:Nat) (D:DataW Unit),n<=j/\j<=K.length/\i=.int .i64 ((j - n:Nat):Int)/\q9 (fun k=>k=mb) w wr/\wr.ownsMap Tryz.prog 145 (plainElem Tryz.prog 3) mb (n+(K.length - j)) D/\zi1 klT Z0.Ok (zB8 K n j) K D (n+(K.length - j))) (fun i _=>K.length - n - (intOf i).toNat)
   case atStart=>exact ⟨n,D,Nat.le_refl _,hn,by simp,q9.refl _ _,by rw [show n+(K.length - n)=K.length by omega];exact HO.out,HMF.out⟩
   case round =>
    clear c1
    obtain ⟨j,Dj,hj1,hj2,rfl,hE,hoj,hmj⟩:=hrel
    have kbr:=(hE.block sb hsb (fun e=>HMS.out e.symm)).trans KB.out
    have c1:=z6 kbr 1
    have c2:=z6 kbr 2
    have hlb:=z8 kbr
    have HE:=q8 hE
    have HOJ:=q8 hoj
    have HMJ:=q8 hmj
    have KBR:=q8 kbr
    clear hE hoj hmj kbr
    by_cases hlt:j < K.length
    ·obtain ⟨x,hx⟩:∃ x,K[j]?=some x:=⟨_,List.getElem?_eq_getElem hlt⟩
     have hAe:=HA2.out (by omega)
     subst hAe
     have hxo:=H.out.ok x (List.mem_of_getElem? hx)
     have hke:keyOf Tryz.prog 145 (.agg #[.string x.nm,.int .i64 x.ar,.int .i64 x.a0,.int .i64 x.a1,.int .i64 x.a2,.int .i64 x.v])=some (klT x):=zJ7 hxo
     have hgm:¬g=mb:=fun e=>H.out.sep g rfl (by rw [e];rfl)
     have hc:∀ q,q < 6->wr.cell? ⟨g,j * 6+q,none⟩=x.cells[q]?:=by
      intro q hq
      rw [HE.out.cell (p:=⟨g,j * 6+q,none⟩) hgl hgm,HCELLS.out _ (by omega)]
      exact qn3 hx q hq
     have z0:wr.cell? ⟨g,j * 6,none⟩=some (.string x.nm):=hc 0 (by decide)
     have z1:wr.cell? ⟨g,j * 6+1,none⟩=some (.int .i64 x.ar):=hc 1 (by decide)
     have z2:wr.cell? ⟨g,j * 6+2,none⟩=some (.int .i64 x.a0):=hc 2 (by decide)
     have z3:wr.cell? ⟨g,j * 6+3,none⟩=some (.int .i64 x.a1):=hc 3 (by decide)
     have z4:wr.cell? ⟨g,j * 6+4,none⟩=some (.int .i64 x.a2):=hc 4 (by decide)
     have z5:wr.cell? ⟨g,j * 6+5,none⟩=some (.int .i64 x.v):=hc 5 (by decide)
     have ho1:(wr.alloc (.cells #[.string x.nm,.int .i64 x.ar,.int .i64 x.a0,.int .i64 x.a1,.int .i64 x.a2,.int .i64 x.v] 145)).drew.ownsMap Tryz.prog 145 (plainElem Tryz.prog 3) mb (n+(K.length - j)) Dj:=(HOJ.out.alloc _).drew
     obtain ⟨W1,hdr,how,hturn⟩:=ho1.drop zk5 Tryz.underlying80 hke 0
     have HMN:=q8 (qd4 HMJ.out (HOJ.out.tidy zk5) H.out.nd H.out.ok (fun y hy e=>qu9 hy hxo e) hj1 hx)
     have hE1:q9 (fun k=>k=mb) w W1:=(((HE.out.alloc _).drew).trans (O9 hturn))
     have HE1:=q8 hE1
     have HOW:=q8 (zQ9 how HMN.out.size)
     have e4:n * 6+(j - n) * 6=j * 6:=by omega
     clear how hturn ho1 hke hx hc hE1
     go_wp2_with fail
     go_region
     all_goals
      go_wp2_with fail
      go_roundw
      case measure=>simp [intOf];omega
      case rel=>exact ⟨j+1,_,by omega,by omega,by congr 1;omega,HE1.out,HOW.out,HMN.out⟩
    ·have hjn:j=K.length:=by omega
     subst hjn
     have HOR:=q8 (z7 H.out.own HE.out.drew (fun k hk e=>H.out.sep k hk (by rw [e];rfl)))
     go_wp2_with fail
     go_region_law (go_simp;go_wp2_with (go_at_call 100;refine (qm4 HOR.out hn (by omega)).mono ?_;rintro e w2 ⟨v',rfl,hown2,hx2,hob⟩;obtain ⟨va,vc,rfl⟩:=j9 hown2;have kb2:w2.heap[sb]?=some (.cells #[nv,.slice (some ⟨g,0,none⟩) K.length tc,.map (some mb),at_,am,fs,ks,vd,ml] 98):=(hx2.block sb hlb (fun e=>HS1.out sb e rfl)).trans KBR.out;have d1:=z6 kb2 1;have d1f:=Q0 kb2 1))
     all_goals
      go_wp2_with fail
      go_end0
      refine ⟨rfl,?_⟩
      exact zp8 (xs:=⟨.slice (some ⟨g,0,none⟩) K.length tc,.map (some mb),at_,am,fs,ks,vd,ml⟩) H.out hn HS1.out HS2.out (HE.out.mono (fun _ _ e=>by rw [e];rfl)) (.inr ⟨mb,Dj,rfl,HOJ.out,HMJ.out⟩) hown2 (((q9.refl _ wr).drew).trans hx2) hob ((q9.refl (fun k=>k=sb) w2).setCell (p:=⟨sb,1,none⟩) (fun _=>rfl) _) (Y0 kb2 1 _)
noncomputable def ix (T ps:List Nd) (q:Nat):Int:=match ps[q]? with
 | some p=>(idx T p:Int)
 | none=>0
noncomputable def keyT (T:List Nd):Nd->Z0
 | .mk k w v ps=>if k=4 then ⟨ByteArray.empty,0,0,0,0,v⟩ else ⟨w,ps.length,ix T ps 0,ix T ps 1,ix T ps 2,0⟩
theorem qM1 {T T' ps:List Nd} (h:T <+: T') (hp:∀ p∈ps,p∈T) (q:Nat):ix T' ps q=ix T ps q:=by
 unfold ix
 split
 ·rename_i p hq
  rw [zG1 h (hp p (List.mem_of_getElem? hq))]
 ·rfl
theorem zK4 {T T':List Nd} (h:T <+: T') {x:Nd} (hp:∀ p∈parts x,p∈T):keyT T' x=keyT T x:=by
 cases x with
 | mk k w v ps =>
  have hp':∀ p∈ps,p∈T:=hp
  simp only [keyT,qM1 h hp']
theorem zB9 {T:List Nd} {x:Nd} (h:x∈T):idx T x < T.length:=(List.getElem?_eq_some_iff.1 (zc2 h)).1
theorem sm0:Sm 0:=⟨by decide,by decide⟩
theorem qd8 {T ps:List Nd} (hp:∀ p∈ps,p∈T) (hl:T.length<=10000000) (q:Nat):Sm (ix T ps q):=by
 unfold ix
 split
 ·rename_i p hq
  have:=zB9 (hp p (List.mem_of_getElem? hq))
  exact ⟨by omega,by omega⟩
 ·exact ⟨by decide,by decide⟩
theorem qC2 {w:ByteArray} (h:X4 w.toList=true):w.size<=8:=by
 simp only [X4,Bool.and_eq_true,decide_eq_true_eq] at h
 rw [<- Z3]
 exact h.2.2
theorem qv1 {T:List Nd} {x:Nd} (hx:Y8 x) (hp:∀ p∈parts x,p∈T) (hl:T.length<=10000000):(keyT T x).Ok:=by
 cases hx with
 | num h1 h2 =>
  rw [keyT,if_pos rfl]
  refine ⟨?_,sm0,sm0,sm0,sm0,?_⟩
  ·show ByteArray.empty.size<=1000
   decide
  ·exact ⟨by show _<=_;simp only;omega,by show _<=_;simp only;omega⟩
 | @app w ps hw hl' hps =>
  rw [keyT,if_neg (by decide)]
  have hp':∀ p∈ps,p∈T:=hp
  have hsz:=qC2 hw
  exact ⟨by show _<=_;simp only;omega,⟨by show _<=_;simp only;omega,by show _<=_;simp only;omega⟩,qd8 hp' hl 0,qd8 hp' hl 1,qd8 hp' hl 2,sm0⟩
theorem qn7 {T ps qs:List Nd} (hp:∀ p∈ps,p∈T) (hq:∀ p∈qs,p∈T) (hl:ps.length=qs.length) {i:Nat} (h:ix T ps i=ix T qs i):ps[i]?=qs[i]?:=by
 unfold ix at h
 cases h1:ps[i]? with
 | none =>
  have:qs[i]?=none:=by rw [List.getElem?_eq_none_iff] at h1 ⊢;omega
  rw [this]
 | some p =>
  have hi:=(List.getElem?_eq_some_iff.1 h1).1
  have h2:qs[i]?=some qs[i]:=List.getElem?_eq_getElem (by omega)
  rw [h1,h2] at h
  simp only at h
  have:=zz4 (hp p (List.mem_of_getElem? h1)) (hq _ (List.mem_of_getElem? h2)) (by omega)
  rw [h2,this]
theorem qM2 {T:List Nd} {x y:Nd} (hx:Y8 x) (hy:Y8 y) (hpx:∀ p∈parts x,p∈T) (hpy:∀ p∈parts y,p∈T) (h:keyT T x=keyT T y):x=y:=by
 cases hx with
 | num h1 h2 =>
  cases hy with
  | num h3 h4 =>
   rw [keyT,if_pos rfl,keyT,if_pos rfl] at h
   simp at h
   rw [h]
  | @app w ps hw hl hps =>
   rw [keyT,if_pos rfl,keyT,if_neg (by decide)] at h
   simp only [Z0.mk.injEq] at h
   rw [<- h.1,ze1] at hw
   exact absurd hw (by decide)
 | @app w ps hw hl hps =>
  cases hy with
  | num h3 h4 =>
   rw [keyT,if_neg (by decide),keyT,if_pos rfl] at h
   simp only [Z0.mk.injEq] at h
   rw [h.1,ze1] at hw
   exact absurd hw (by decide)
  | @app w' qs hw' hl' hqs =>
   rw [keyT,if_neg (by decide),keyT,if_neg (by decide)] at h
   simp only [Z0.mk.injEq] at h
   obtain ⟨rfl,hlen,e0,e1,e2,_⟩:=h
   have hlq:ps.length=qs.length:=by omega
   have hpx':∀ p∈ps,p∈T:=hpx
   have hpy':∀ p∈qs,p∈T:=hpy
   have:ps=qs:=by
    apply List.ext_getElem?
    intro i
    match i with
    | 0=>exact qn7 hpx' hpy' hlq e0
    | 1=>exact qn7 hpx' hpy' hlq e1
    | 2=>exact qn7 hpx' hpy' hlq e2
    | i+3=>rw [List.getElem?_eq_none (by omega),List.getElem?_eq_none (by omega)]
   rw [this]
noncomputable def keys (T:List Nd):List Z0:=T.map (keyT T)
theorem Y4 (T:List Nd):(keys T).length=T.length:=by simp [keys]
theorem qd9 {T T':List Nd} (h:T <+: T') (hc:Cl T):T.map (keyT T')=keys T:=by
 unfold keys
 apply List.map_congr_left
 intro x hx
 exact zK4 h (fun p hp=>hc.part hx hp)
theorem qe0 {T:List Nd} {x:Nd} (hc:Cl T) (hx:Y8 x) (hp:∀ p∈parts x,p∈T):keys (putN T x)=putK (keys T) (keyT T x):=by
 by_cases hin:x∈T
 ·rw [zn6 hin,zs1 (show keyT T x∈keys T from List.mem_map.2 ⟨x,hin,rfl⟩)]
 ·have hno:¬keyT T x∈keys T:=by
   intro hm
   obtain ⟨y,hy,e⟩:=List.mem_map.1 hm
   obtain ⟨i,hi⟩:=List.mem_iff_getElem?.1 hy
   have:=qM2 (hc i y hi).1 hx (fun p hp'=>hc.part hy hp') hp e
   exact hin (this ▸ hy)
  rw [zi9 hin,za7 hno]
  have hpre:T <+: T++[x]:=List.prefix_append _ _
  have h1:=qd9 hpre hc
  have h2:=zK4 hpre hp
  show List.map _ _=_
  rw [List.map_append,h1,List.map_cons,List.map_nil,h2]
theorem qC3 {T:List Nd} (hc:Cl T) (n:Nat):keys (T.take n)=(keys T).take n:=by
 have h1:=qd9 (List.take_prefix n T) (hc.take n)
 unfold keys at *
 rw [<- List.map_take,h1]
theorem qC4 {T:List Nd} {x:Nd} (hc:Cl T) (hx:Y8 x) (hp:∀ p∈parts x,p∈T) (hnd:(keys (putN T x)).Nodup) {i:Nat} (h:(putK (keys T) (keyT T x))[i]?=some (keyT T x)):i=idx (putN T x) x:=by
 rw [<- qe0 hc hx hp] at h
 have hm:x∈putN T x:=zg3.2 (.inr rfl)
 have h1:(keys (putN T x))[idx (putN T x) x]?=some (keyT T x):=by
  unfold keys
  rw [List.getElem?_map,zc2 hm]
  simp only [Option.map_some,Option.some.injEq]
  exact zK4 zz3 hp
 obtain ⟨hi,e1⟩:=List.getElem?_eq_some_iff.1 h
 obtain ⟨hj,e2⟩:=List.getElem?_eq_some_iff.1 h1
 have hpw:=List.pairwise_iff_getElem.1 hnd
 rcases Nat.lt_trichotomy i (idx (putN T x) x) with hlt | heq | hgt
 ·exact absurd (e1.trans e2.symm) (hpw _ _ hi hj hlt)
 ·exact heq
 ·exact absurd (e2.trans e1.symm) (hpw _ _ hj hi hgt)
structure TS (w:World) (sb:Nat) (nv:Value) (xs:PX) (T:List Nd):Prop where
 blk:w.heap[sb]?=some (.cells #[nv,xs.ts,xs.tm,xs.at_,xs.am,xs.fs,xs.ks,xs.vd,xs.ml] 98)
 row:zJ9 w xs.ts xs.tm (keys T)
 cl:Cl T
 nd:T.Nodup
 s1:∀ k,xs.ts.ownBlock=some k->¬k=sb
 s2:∀ k,U0 xs.tm=some k->¬k=sb
def TF (sb:Nat) (xs:PX) (k:Nat):Prop:=k=sb\/xs.ts.ownBlock=some k\/U0 xs.tm=some k
theorem TS.ext {S:Nat->Prop} {w w':World} {sb:Nat} {nv:Value} {xs:PX} {T:List Nd} (h:TS w sb nv xs T) (hx:q9 S w w') (hS:∀ k,TF sb xs k->¬S k):TS w' sb nv xs T :=
 ⟨(hx.block sb (z8 h.blk) (hS sb (.inl rfl))).trans h.blk,h.row.ext hx (fun g hg=>hS g (.inr (.inl hg))) (fun g hg=>hS g (.inr (.inr hg))),h.cl,h.nd,h.s1,h.s2⟩
theorem TS.lt {w:World} {sb:Nat} {nv:Value} {xs:PX} {T:List Nd} (h:TS w sb nv xs T):∀ k,TF sb xs k->k < w.heap.size:=by
 rintro k (rfl | e | e)
 ·exact z8 h.blk
 ·exact (h.row.own.lt k e).2
 ·rcases h.row.map with ⟨e2,_⟩ | ⟨mb,D,e2,ho,_⟩
  ·rw [e2] at e;exact absurd e (by simp [U0])
  ·rw [e2] at e
   simp [U0] at e
   subst e
   exact ho.lt
def TPost (w:World) (sb:Nat) (nv:Value) (xs:PX) (T':List Nd) (i:Nat) (e:Ending) (w':World):Prop :=
 e=.returned (.int .i64 i)/\∃ ts' tm',TS w' sb nv { xs with ts:=ts',tm:=tm' } T'/\q9 (TF sb xs) w w'/\(∀ k,TF sb { xs with ts:=ts',tm:=tm' } k->TF sb xs k\/w.heap.size<=k)
theorem qe1 {w:World} {sb:Nat} {nv:Value} {xs:PX} {T:List Nd} {x:Nd} (h:TS w sb nv xs T) (hx:Y8 x) (hp:∀ p∈parts x,p∈T) (hl:T.length<=10000000) :
  Calls Tryz.prog 188 #[.pointer (some ⟨sb,1,none⟩),(keyT T x).val] w (TPost w sb nv xs (putN T x) (idx (putN T x) x)):=by
 refine (qn1 (keyT T x) h.blk h.row (qv1 hx hp hl) h.s1 h.s2 (by rw [Y4];exact hl)).mono ?_
 rintro e w' ⟨i,tv',mv',rfl,hi,hb,hr,hE,h1,h2⟩
 rw [<- qe0 h.cl hx hp] at hr
 have hpl:=qC4 h.cl hx hp hr.nd hi
 subst hpl
 have hsb:=z8 h.blk
 refine ⟨rfl,tv',mv',⟨hb,hr,h.cl.put hx hp,zj0 h.nd,fun k hk e=>?_,fun k hk e=>?_⟩,hE,?_⟩
 ·rcases h1 k hk with h' | h'
  ·exact h.s1 k h' e
  ·omega
 ·rcases h2 k hk with h' | h'
  ·exact h.s2 k h' e
  ·omega
 ·rintro k (e | e | e)
  ·exact .inl (.inl e)
  ·exact (h1 k e).imp (fun h=>.inr (.inl h)) id
  ·exact (h2 k e).imp (fun h=>.inr (.inr h)) id
theorem PN.within {w:World} {D:Nat->Prop} {cs:List Value} {nd:Nd} (h:PN w D cs nd):PN w (fun k=>D k/\k < w.heap.size) cs nd:=by
 induction h with
 | mk how hl hn hD _ ih=>exact PN.mk how hl hn (fun g hg=>⟨hD g hg,(how.lt g hg).2⟩) ih
theorem jf3:∀ {kids:List (List Value)},(∀ cs∈kids,cs.length=4)->∀ {i:Nat} {cs:List Value},kids[i]?=some cs->∀ q,q < 4->kids.flatten[i * 4+q]?=cs[q]?
 | [],_,i,cs,h,_,_=>absurd h (by simp)
 | k :: ks,hl,0,cs,h,q,hq=>by
  simp at h
  subst h
  have:=hl k (by simp)
  rw [List.flatten_cons,List.getElem?_append_left (by omega)]
  congr 1
  omega
 | k :: ks,hl,i+1,cs,h,q,hq=>by
  have h4:=hl k (by simp)
  rw [List.flatten_cons,List.getElem?_append_right (by omega),h4,show (i+1) * 4+q - 4=i * 4+q by omega]
  exact jf3 (fun c hc=>hl c (List.mem_cons_of_mem _ hc)) (by simpa using h) q hq
theorem zF7 {w:World} {D:Nat->Prop} {pv:Value} {kids:List (List Value)} {ps:List Nd} (how:w.ownsRow 0 115 4 pv ps.length kids.flatten) (hl:∀ cs∈kids,cs.length=4) (hn:kids.length=ps.length) (hD:∀ g,pv.ownBlock=some g->D g)
  (hk:∀ (i:Nat) (cs:List Value) (p:Nd),kids[i]?=some cs->ps[i]?=some p->PN w D cs p) :
  ∃ a cap,pv=.slice a ps.length cap/\ps.length<=cap/\cap<=9223372036854775807/\∀ i p,ps[i]?=some p->∃ g k' wd' v' pa' pn' pc',a=some ⟨g,0,none⟩/\g < w.heap.size/\D g/\w.cell? ⟨g,i * 4,none⟩=some (.int .i64 k')/\w.cell? ⟨g,i * 4+1,none⟩=some (.string wd')/\w.cell? ⟨g,i * 4+2,none⟩=some (.int .i64 v')/\w.cell? ⟨g,i * 4+3,none⟩=some (.slice pa' pn' pc')/\PN w D [.int .i64 k',.string wd',.int .i64 v',.slice pa' pn' pc'] p:=by
 rcases how.2 with ⟨e,e0⟩ | ⟨g,cap,cur,hv,hg,hh,h1,h2,hr⟩
 ·refine ⟨none,0,by rw [e,e0],by omega,by omega,fun i p hp=>?_⟩
  have:=(List.getElem?_eq_some_iff.1 hp).1
  omega
 ·refine ⟨some ⟨g,0,none⟩,cap,hv,h1,by unfold maxLen at h2;exact h2,fun i p hp=>?_⟩
  have hi:=(List.getElem?_eq_some_iff.1 hp).1
  obtain ⟨cs,hc⟩:∃ cs,kids[i]?=some cs:=⟨_,List.getElem?_eq_getElem (by omega)⟩
  have hpn:=hk i cs p hc hp
  have hpn2:=hpn
  cases hpn with
  | @mk k' v' wd' ps' pv' kids' how' hl' hn' hD' hk' =>
   obtain ⟨pa',pc',rfl⟩:=j9 how'
   have hcell:∀ q,q < 4->w.cell? ⟨g,i * 4+q,none⟩=[Value.int .i64 k',.string wd',.int .i64 v',.slice pa' ps'.length pc'][q]?:=by
    intro q hq
    have h3:=how
    rw [hv] at h3
    rw [h3.cellAt _ (by omega)]
    exact jf3 hl hc q hq
   exact ⟨g,k',wd',v',pa',ps'.length,pc',rfl,z8 hh,hD g (by rw [hv];rfl),hcell 0 (by decide),hcell 1 (by decide),hcell 2 (by decide),hcell 3 (by decide),hpn2⟩
noncomputable def tcs (w:ByteArray) (T ps:List Nd) (j:Nat):Array Value:=#[.string w,.int .i64 ps.length,.int .i64 (if 0 < j then ix T ps 0 else 0),.int .i64 (if 1 < j then ix T ps 1 else 0),.int .i64 (if 2 < j then ix T ps 2 else 0),.int .i64 0]
theorem qY2 {w:ByteArray} {T ps:List Nd} {j:Nat} (hj:j < 3):(tcs w T ps j).setIfInBounds (2+j) (.int .i64 (ix T ps j))=tcs w T ps (j+1):=by
 match j,hj with
 | 0,_=>rfl
 | 1,_=>rfl
 | 2,_=>rfl
theorem qM3 (w:ByteArray) (T ps:List Nd):tcs w T ps 0=#[.string w,.int .i64 ps.length,.int .i64 0,.int .i64 0,.int .i64 0,.int .i64 0]:=rfl
theorem qM4 {w:ByteArray} {T ps:List Nd}:tcs w T ps ps.length=#[.string w,.int .i64 ps.length,.int .i64 (ix T ps 0),.int .i64 (ix T ps 1),.int .i64 (ix T ps 2),.int .i64 0]:=by
 have h:∀ q,(if q < ps.length then ix T ps q else 0)=ix T ps q:=by
  intro q
  split
  ·rfl
  ·unfold ix
   rw [List.getElem?_eq_none (by omega)]
 unfold tcs
 rw [h 0,h 1,h 2]
theorem qM5 {w:ByteArray} {T ps:List Nd} {j q:Nat} (hq:q < 6):∃ u,(tcs w T ps j)[q]?=some u:=⟨_,Array.getElem?_eq_getElem (by simpa [tcs] using hq)⟩
structure TW2 (w:World) (sb nb tb:Nat) (nv:Value) (xs:PX) (T:List Nd) (k v:Int) (word:ByteArray) (pv:Value) (ps:List Nd) (j:Nat) (wr:World):Prop where
 ext:q9 (TF sb xs) w wr
 nbk:wr.heap[nb]?=some (.cells #[.int .i64 k,.string word,.int .i64 v,pv] 115)
 tbk:wr.heap[tb]?=some (.cells (tcs word (addTs T ps) ps j) 145)
 ts:∃ ts' tm',TS wr sb nv { xs with ts:=ts',tm:=tm' } (addTs T (ps.take j))/\(∀ q,TF sb { xs with ts:=ts',tm:=tm' } q->TF sb xs q\/w.heap.size+2<=q)
theorem qY3 (T:List Nd) (v:Int):(keyT T (.mk 4 ByteArray.empty v [])).val=.agg #[.string ⟨#[]⟩,.int .i64 0,.int .i64 0,.int .i64 0,.int .i64 0,.int .i64 v]:=by
 rw [keyT,if_pos rfl]
 rfl
theorem qY4 (T:List Nd) (w:ByteArray) (v:Int) (ps:List Nd):(keyT T (.mk 3 w v ps)).val=.agg #[.string w,.int .i64 ps.length,.int .i64 (ix T ps 0),.int .i64 (ix T ps 1),.int .i64 (ix T ps 2),.int .i64 0]:=by
 rw [keyT,if_neg (by decide)]
 rfl
theorem TPost.of_ext {w W:World} {sb:Nat} {nv:Value} {xs:PX} {T':List Nd} {i:Nat} {e:Ending} {w':World} (hx:q9 (fun _=>False) w W) (h:TPost W sb nv xs T' i e w'):TPost w sb nv xs T' i e w':=by
 obtain ⟨h1,ts',tm',h2,h3,h4⟩:=h
 exact ⟨h1,ts',tm',h2,(hx.mono (fun _ _ f=>f.elim)).trans h3,fun k hk=>(h4 k hk).imp id (fun e=>Nat.le_trans hx.size e)⟩
set_option maxRecDepth 100000 in
set_option maxHeartbeats 1000000 in
theorem qM6 {w:World} {sb:Nat} {nv:Value} {xs:PX} {T:List Nd} {v:Int} {wd:ByteArray} {pa:Option Addr} {pn pc:Nat} (h:TS w sb nv xs T) (h1 : -1000<=v) (h2:v<=1000) (hl:T.length<=10000000) :
  Calls Tryz.prog 148 #[.pointer (some ⟨sb,1,none⟩),.agg #[.int .i64 4,.string wd,.int .i64 v,.slice pa pn pc]] w (TPost w sb nv xs (addT T (.mk 4 ByteArray.empty v [])) (idx (addT T (.mk 4 ByteArray.empty v [])) (.mk 4 ByteArray.empty v []))):=by
 have H:=q8 h
 have hsb:=z8 h.blk
 have HX0:Hid (q9 (fun _=>False) w (w.alloc (.cells #[.int .i64 4,.string wd,.int .i64 v,.slice pa pn pc] 115)).drew):=((q9.refl _ w).alloc _).drew
 clear h
 go_enter Tryz.func148,Tryz.ntmps148
 go_wp2_with fail
 have hc:=qe1 (H.out.ext HX0.out (fun _ _ f=>f)) (.num h1 h2) (fun p hp=>absurd hp (by simp [parts])) hl
 rw [qY3] at hc
 have HC:=q8 hc
 clear hc
 go_region_law (go_simp;go_wp2_with (go_at_call 188;refine HC.out.mono ?_;rintro e w' hp;have hp2:=hp.of_ext HX0.out;obtain ⟨rfl,hp3⟩:=hp2;have HP:=q8 hp3;clear hp hp3))
 all_goals
  go_wp2_with fail
  go_ret
  exact ⟨rfl,HP.out⟩
theorem zW2 (T:List Nd) (ps qs:List Nd):addTs T (ps++qs)=addTs (addTs T ps) qs:=by
 induction ps generalizing T with
 | nil=>simp [addTs]
 | cons p ps ih=>simp [addTs,ih]
theorem zf0:∀ {qs:List Nd},(∀ q∈qs,Y8 q)->∀ T,∃ xs,zL0 T (addTs T qs) xs/\(∀ y,y∈xs↔y∈Q8 true qs)/\xs.length=(Q8 true qs).length
 | [],_,T=>⟨[],by simp only [addTs];exact zL0.refl T,fun y=>by simp [Q8],rfl⟩
 | q :: qs,hq,T=>by
  obtain ⟨xs,h1,h2,h3⟩:=qE9 (hq q (by simp)) T
  obtain ⟨ys,k1,k2,k3⟩:=zf0 (qs:=qs) (fun r hr=>hq r (List.mem_cons_of_mem _ hr)) (addT T q)
  refine ⟨xs++ys,?_,fun y=>by simp only [Q8,List.mem_append,h2,k2],by simp only [Q8,List.length_append,h3,k3]⟩
  simp only [addTs]
  exact h1.trans k1
theorem qC5 {ps:List Nd} (hp:∀ p∈ps,Y8 p) (T:List Nd) (j:Nat):addTs T (ps.take j) <+: addTs T ps:=by
 have e:addTs T ps=addTs (addTs T (ps.take j)) (ps.drop j):=by rw [<- zW2,List.take_append_drop]
 obtain ⟨xs,h,_⟩:=zf0 (qs:=ps.drop j) (fun q hq=>hp q (List.mem_of_mem_drop hq)) (addTs T (ps.take j))
 rw [e]
 exact h.pre
theorem zs2 {ps:List Nd} (hp:∀ p∈ps,Y8 p) (T:List Nd):(addTs T ps).length<=T.length+(Q8 true ps).length:=by
 obtain ⟨xs,h,_,h3⟩:=zf0 hp T
 have:=h.len
 omega
theorem zs3 (t:Bool) {qs:List Nd} {j:Nat} {p:Nd} (h:qs[j]?=some p):(Q8 t (qs.take j)).length+(J5 t p).length<=(Q8 t qs).length:=by
 have h1:Q8 t (qs.take (j+1))=Q8 t (qs.take j)++J5 t p:=by
  rw [List.take_add_one,h,ze0]
  simp [Q8]
 have h2:Q8 t qs=Q8 t (qs.take (j+1))++Q8 t (qs.drop (j+1)):=by rw [<- ze0,List.take_append_drop]
 rw [h2,h1]
 simp only [List.length_append]
 omega
theorem zl6 {p:Nd} (h:Y8 p):p∈J5 true p:=by cases h <;> simp [J5,U9]
theorem zR0 {ps:List Nd} (hp:∀ p∈ps,Y8 p) (T:List Nd):∀ p∈ps,p∈addTs T ps:=by
 intro p hpp
 obtain ⟨xs,h,h2,_⟩:=zf0 hp T
 rw [h.mem,h2,Y9]
 exact .inr ⟨p,hpp,zl6 (hp p hpp)⟩
theorem zs4 {ps:List Nd} (hp:∀ p∈ps,Y8 p) {T:List Nd} {j:Nat} {p:Nd} (h:ps[j]?=some p):(idx (addT (addTs T (ps.take j)) p) p:Int)=ix (addTs T ps) ps j:=by
 have e:addT (addTs T (ps.take j)) p=addTs T (ps.take (j+1)):=by rw [List.take_add_one,h];exact (zw2 T _ p).symm
 unfold ix
 rw [h]
 simp only
 rw [zG1 (qC5 hp T (j+1)) (by rw [<- e];exact qF0 _ p),<- e]
def jn0 (sb:Nat) (nv:Value) (p:Nd):Prop:=∀ (w:World) (xs:PX) (T:List Nd) (D:Nat->Prop) (k':Int) (wd':ByteArray) (v':Int) (pa':Option Addr) (pn' pc':Nat),PN w D [.int .i64 k',.string wd',.int .i64 v',.slice pa' pn' pc'] p->(∀ k,D k->k < w.heap.size)->(∀ k,D k->¬TF sb xs k)->TS w sb nv xs T->T.length+(J5 true p).length<=9000000 ->
 Calls Tryz.prog 148 #[.pointer (some ⟨sb,1,none⟩),.agg #[.int .i64 k',.string wd',.int .i64 v',.slice pa' pn' pc']] w (TPost w sb nv xs (addT T p) (idx (addT T p) p))
theorem qY5 {w wr V w2:World} {sb:Nat} {nv pv:Value} {xs:PX} {T:List Nd} {k v:Int} {word:ByteArray} {ps:List Nd} {j:Nat} {p:Nd} {ts1 tm1 ts2 tm2:Value} (hps:∀ p∈ps,Y8 p) (h:TW2 w sb w.heap.size (w.heap.size+1) nv xs T k v word pv ps j wr) (hlt:∀ q,TF sb xs q->q < w.heap.size) (hl:w.heap.size+2<=wr.heap.size) (hx:q9 (fun _=>False) wr V)
  (hf1:∀ q,TF sb { xs with ts:=ts1,tm:=tm1 } q->TF sb xs q\/w.heap.size+2<=q) (h2:TS w2 sb nv { xs with ts:=ts2,tm:=tm2 } (addT (addTs T (ps.take j)) p)) (hE:q9 (TF sb { xs with ts:=ts1,tm:=tm1 }) V w2) (hf2:∀ q,TF sb { xs with ts:=ts2,tm:=tm2 } q->TF sb { xs with ts:=ts1,tm:=tm1 } q\/V.heap.size<=q)
  (hp:ps[j]?=some p) (hj:j < 3):w2.heap[w.heap.size+1]?=some (.cells (tcs word (addTs T ps) ps j) 145)/\TW2 w sb w.heap.size (w.heap.size+1) nv xs T k v word pv ps (j+1) (w2.setCell ⟨w.heap.size+1,2+j,none⟩ (.int .i64 (idx (addT (addTs T (ps.take j)) p) p:Nat))):=by
 have hno:∀ q,q < w.heap.size+2->w.heap.size<=q->¬TF sb { xs with ts:=ts1,tm:=tm1 } q:=by
  intro q h1 h2 h3
  rcases hf1 q h3 with e | e
  ·have:=hlt q e;omega
  ·omega
 have s1:=hx.size
 have kt:w2.heap[w.heap.size+1]?=some (.cells (tcs word (addTs T ps) ps j) 145):=(hE.block _ (by omega) (hno _ (by omega) (by omega))).trans ((hx.block _ (by omega) (fun f=>f)).trans h.tbk)
 have kn:w2.heap[w.heap.size]?=some (.cells #[.int .i64 k,.string word,.int .i64 v,pv] 115):=(hE.block _ (by omega) (hno _ (by omega) (Nat.le_refl _))).trans ((hx.block _ (by omega) (fun f=>f)).trans h.nbk)
 have hxs:q9 (fun q=>q=w.heap.size+1) w2 (w2.setCell ⟨w.heap.size+1,2+j,none⟩ (.int .i64 (idx (addT (addTs T (ps.take j)) p) p:Nat))):=(q9.refl (fun q=>q=w.heap.size+1) w2).setCell (p:=⟨w.heap.size+1,2+j,none⟩) (fun _=>rfl) _
 have hf:∀ q,TF sb { xs with ts:=ts2,tm:=tm2 } q->TF sb xs q\/w.heap.size+2<=q:=by
  intro q hq
  rcases hf2 q hq with e | e
  ·exact hf1 q e
  ·exact .inr (by omega)
 refine ⟨kt,⟨?_,?_,?_,ts2,tm2,?_,hf⟩⟩
 ·refine ((h.ext.trans' (hx.mono (fun _ _ f=>f.elim)) (fun _ _ e=>e)).trans' hE (fun q hq e=>?_)).trans' hxs (fun q hq e=>?_)
  ·rcases hf1 q e with e | e
   ·exact e
   ·omega
  ·omega
 ·exact (hxs.block _ (z8 kn) (by show ¬w.heap.size=w.heap.size+1;omega)).trans kn
 ·have e:=Y0 kt (2+j) (.int .i64 (idx (addT (addTs T (ps.take j)) p) p:Nat))
  rw [zs4 hps hp,qY2 hj] at e
  rw [zs4 hps hp]
  exact e
 ·have e:addTs T (ps.take (j+1))=addT (addTs T (ps.take j)) p:=by rw [List.take_add_one,hp];exact zw2 T _ p
  rw [e]
  refine h2.ext hxs (fun q hq e=>?_)
  rcases hf q hq with h | h
  ·have:=hlt q h;omega
  ·omega
set_option maxRecDepth 100000 in
set_option maxHeartbeats 1000000 in
theorem qM7 {w:World} {sb:Nat} {nv:Value} {xs:PX} {T:List Nd} {word:ByteArray} {ps:List Nd} {pa:Option Addr} {pc:Nat} {D:Nat->Prop} (h:TS w sb nv xs T) (hname:X4 word.toList=true) (hl3:ps.length<=3) (hps:∀ p∈ps,Y8 p) (hlen:T.length+(Q8 true ps).length<=9000000)
  (hkid:∀ (i:Nat) (p:Nd),ps[i]?=some p->∃ g k' wd' v' pa' pn' pc',pa=some ⟨g,0,none⟩/\g < w.heap.size/\D g/\w.cell? ⟨g,i * 4,none⟩=some (.int .i64 k')/\w.cell? ⟨g,i * 4+1,none⟩=some (.string wd')/\w.cell? ⟨g,i * 4+2,none⟩=some (.int .i64 v')/\w.cell? ⟨g,i * 4+3,none⟩=some (.slice pa' pn' pc')/\PN w D [.int .i64 k',.string wd',.int .i64 v',.slice pa' pn' pc'] p)
  (hDl:∀ k,D k->k < w.heap.size) (hDT:∀ k,D k->¬TF sb xs k) (hih:∀ p∈ps,jn0 sb nv p) :
  Calls Tryz.prog 148 #[.pointer (some ⟨sb,1,none⟩),.agg #[.int .i64 3,.string word,.int .i64 0,.slice pa ps.length pc]] w (TPost w sb nv xs (addT T (.mk 3 word 0 ps)) (idx (addT T (.mk 3 word 0 ps)) (.mk 3 word 0 ps))):=by
 have hsb:=z8 h.blk
 have HLT:=q8 h.lt
 have H:=q8 h
 have HN:=q8 hname
 have HPS:=q8 hps
 have HLEN:=q8 hlen
 have HKID:=q8 hkid
 have HDL:=q8 hDl
 have HDT:=q8 hDT
 have HIH:=q8 hih
 have hTW:TW2 w sb w.heap.size (w.heap.size+1) nv xs T 3 0 word (.slice pa ps.length pc) ps 0 ((w.alloc (.cells #[.int .i64 3,.string word,.int .i64 0,.slice pa ps.length pc] 115)).alloc (.cells #[.string word,.int .i64 ps.length,.int .i64 0,.int .i64 0,.int .i64 0,.int .i64 0] 145)):=by
  have hx:q9 (fun _=>False) w ((w.alloc (.cells #[.int .i64 3,.string word,.int .i64 0,.slice pa ps.length pc] 115)).alloc (.cells #[.string word,.int .i64 ps.length,.int .i64 0,.int .i64 0,.int .i64 0,.int .i64 0] 145)):=((q9.refl _ w).alloc _).alloc _
  refine ⟨hx.mono (fun _ _ f=>f.elim),?_,?_,xs.ts,xs.tm,?_,fun q hq=>.inl hq⟩
  ·rw [heap_alloc_old _ _ (by simp)];exact heap_alloc_new w _
  ·rw [qM3];exact heap_alloc2_new w _ _
  ·simp only [List.take_zero,addTs]
   exact h.ext hx (fun _ _ f=>f)
 have HTW:=q8 hTW
 clear h hname hps hlen hkid hDl hDT hih hTW
 go_enter Tryz.func148,Tryz.ntmps148
 go_wp2_with fail
 go_loopw [28] (fun i wr=>∃ (j:Nat),j<=ps.length/\i=.int .i64 j/\w.heap.size+2<=wr.heap.size/\TW2 w sb w.heap.size (w.heap.size+1) nv xs T 3 0 word (.slice pa ps.length pc) ps j wr) (fun i _=>ps.length - (intOf i).toNat)
 case atStart=>exact ⟨0,Nat.zero_le _,rfl,by simp,HTW.out⟩
 case round =>
  clear HTW
  obtain ⟨j,hj,rfl,hws,htw⟩:=hrel
  have n0:=z6 htw.nbk 0
  have n1:=z6 htw.nbk 1
  have n3:=z6 htw.nbk 3
  have HTW:=q8 htw
  clear htw
  by_cases hlt:j < ps.length
  ·obtain ⟨p,hp⟩:∃ p,ps[j]?=some p:=⟨_,List.getElem?_eq_getElem hlt⟩
   obtain ⟨g,k',wd',v',pa',pn',pc',rfl,hgl,hDg,z0,z1,z2,z3,hpn⟩:=HKID.out j p hp
   rw [<- HTW.out.ext.cell (p:=⟨g,j * 4,none⟩) hgl (HDT.out g hDg)] at z0
   rw [<- HTW.out.ext.cell (p:=⟨g,j * 4+1,none⟩) hgl (HDT.out g hDg)] at z1
   rw [<- HTW.out.ext.cell (p:=⟨g,j * 4+2,none⟩) hgl (HDT.out g hDg)] at z2
   rw [<- HTW.out.ext.cell (p:=⟨g,j * 4+3,none⟩) hgl (HDT.out g hDg)] at z3
   have HP:=q8 hp
   have HPN:=q8 hpn
   have hj3:j < 3:=by omega
   obtain ⟨ts1,tm1,hts1,hf1⟩:=HTW.out.ts
   have HTS1:=q8 hts1
   have HF1:=q8 hf1
   have HMEM:=q8 (List.mem_of_getElem? hp)
   clear hp hpn hgl hDg hts1 hf1
   go_wp2_with fail
   obtain ⟨V,hV⟩:∃ V,wr.alloc (.cells #[.int .i64 k',.string wd',.int .i64 v',.slice pa' pn' pc'] 115)=V:=⟨_,rfl⟩
   have HXV:Hid (q9 (fun _=>False) wr V):=by rw [<- hV];exact (q9.refl _ wr).alloc _
   rw [hV]
   clear hV
   refine (HIH.out p HMEM.out V _ _ D k' wd' v' pa' pn' pc' ((HPN.out.ext HTW.out.ext (fun k _ hd=>HDT.out k hd)).ext HXV.out (fun _ _ _ f=>f)) (fun k hd=>by have:=HDL.out k hd;have:=HXV.out.size;omega) (fun k hd hq=>by
    rcases HF1.out k hq with e | e
    ·exact HDT.out k hd e
    ·have:=HDL.out k hd;omega) (HTS1.out.ext HXV.out (fun _ _ f=>f)) (by
    have h1:=zs2 (ps:=ps.take j) (fun q hq=>HPS.out q (List.mem_of_mem_take hq)) T
    have h2:=zs3 true HP.out
    have h3:=HLEN.out
    omega)).mono ?_
   rintro e w2 ⟨rfl,ts2,tm2,hTS2,hE2,hF2⟩
   obtain ⟨kt,htw2⟩:=qY5 HPS.out HTW.out HLT.out hws HXV.out HF1.out hTS2 hE2 hF2 HP.out hj3
   have hsz2:w.heap.size+2<=w2.heap.size:=by have:=HXV.out.size;have:=hE2.size;omega
   obtain ⟨u,hu⟩:=qM5 (w:=word) (T:=addTs T ps) (ps:=ps) (j:=j) (q:=2+j) (by omega)
   have tc:=(z6 kt (2+j)).trans hu
   have tf:=Q0 kt (2+j)
   have HT2:=q8 htw2
   clear hTS2 hE2 hF2 kt htw2 hu n0 n1 n3 z0 z1 z2 z3
   go_wp2_with fail
   go_roundw
   case measure=>simp [intOf];omega
   case rel=>exact ⟨j+1,by omega,by go_num,by simpa using hsz2,HT2.out⟩
  ·have hjl:j=ps.length:=by omega
   subst hjl
   have htb:=HTW.out.tbk
   rw [qM4] at htb
   have t0:=z6 htb 0
   have t1:=z6 htb 1
   have t2:=z6 htb 2
   have t3:=z6 htb 3
   have t4:=z6 htb 4
   have t5:=z6 htb 5
   obtain ⟨ts1,tm1,hts1,hf1⟩:=HTW.out.ts
   rw [List.take_of_length_le (Nat.le_refl _)] at hts1
   have hx:Y8 (.mk 3 word 0 ps):=.app HN.out hl3 HPS.out
   have hc:=qe1 (hts1.ext ((q9.refl (fun _=>False) wr).drew) (fun _ _ f=>f)) hx (zR0 HPS.out T) (by have:=zs2 HPS.out T;have:=HLEN.out;omega)
   rw [qY4] at hc
   have HC:=q8 hc
   have HF1:=q8 hf1
   clear hc hf1 hts1 htb hx n0 n1 n3
   go_wp2_with fail
   go_region_law (go_simp;go_wp2_with (go_at_call 188;refine HC.out.mono ?_;rintro e w2 ⟨rfl,ts2,tm2,hTS2,hE2,hF2⟩;have HTS2:=q8 hTS2;have HE2:=q8 hE2;have HF2:=q8 hF2;clear hTS2 hE2 hF2))
   all_goals
    go_wp2_with fail
    go_ret
    simp only [addT]
    refine ⟨rfl,ts2,tm2,HTS2.out,HTW.out.ext.trans' (((q9.refl (TF sb _) wr).drew).trans HE2.out) (fun q hq e=>?_),fun q hq=>?_⟩
    ·rcases HF1.out q e with e | e
     ·exact e
     ·omega
    ·rcases HF2.out q hq with e | e
     ·exact (HF1.out q e).imp id (fun e=>by omega)
     ·have e2:wr.heap.size<=q:=e
      exact .inr (by omega)
theorem qC6 {sb:Nat} {nv:Value}:∀ {p:Nd},Y8 p->jn0 sb nv p:=by
 intro p hp
 induction hp with
 | num h1 h2 =>
  intro w xs T D k' wd' v' pa' pn' pc' hpn hDl hDT hts hlen
  cases hpn
  exact qM6 hts h1 h2 (by omega)
 | @app word ps hw hl hps ih =>
  intro w xs T D k' wd' v' pa' pn' pc' hpn hDl hDT hts hlen
  cases hpn with
  | @mk _ _ _ _ _ kids how hkl hkn hD hk =>
   obtain ⟨a,cap,hv,_,_,hkid⟩:=zF7 how hkl hkn hD hk
   cases hv
   refine qM7 hts hw hl hps ?_ hkid hDl hDT ih
   have:(J5 true (.mk 3 word 0 ps)).length=1+(Q8 true ps).length:=by
    simp only [J5,List.length_append]
    rw [if_pos (by simp [U9])]
    rfl
   omega
end Go.Proofs.YtegbdaffhpiacaaGreatDoor
