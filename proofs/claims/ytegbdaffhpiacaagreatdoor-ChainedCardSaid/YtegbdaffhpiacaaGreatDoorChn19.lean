/- The keys of the program's rows of terms and of atoms; The program's rows that keep things once each: finding a thing, or taking it in; The program's rows that keep things once each: the last ones are taken back; The keys of trees in the program's row of terms; The program: a term is taken in, its parts first; The keys of a model: a function and the numbers that it is given. -/
import Derived.Test.YtegbdaffhpiacaaGreatDoorChn17
import Derived.Test.YtegbdaffhpiacaaGreatDoorChn18
import Derived.Test.YtegbdaffhpiacaaGreatDoorChn12
import Derived.BigQuiet
namespace Go.Proofs.YtegbdaffhpiacaaGreatDoor
open Go.RowKit Go.Maps Ar
def Sm (n:Int):Prop := -1000000000<=n/\n<=1000000000
structure TKey.Ok (k:TKey):Prop where
 nm:k.nm.size<=1000
 ar:Sm k.ar
 a0:Sm k.a0
 a1:Sm k.a1
 a2:Sm k.a2
 v:Sm k.v
structure AKey.Ok (k:AKey):Prop where
 wd:k.wd.size<=1000
 i:Sm k.i
 j:Sm k.j
 b:Sm k.b
theorem sm_wf {n:Int} (h:Sm n):(Lit.int .i64 n).wf=true:=by
 obtain ⟨h1,h2⟩:=h
 simp [Lit.wf,IntKind.min,IntKind.max,IntKind.signed,IntKind.bits]
 omega
theorem cFn:Tryz.prog.cellsOf 142=2:=by kernel_rfl
theorem cInt:Tryz.prog.cellsOf 3=1:=by kernel_rfl
theorem cStr:Tryz.prog.cellsOf 9=1:=by kernel_rfl
theorem cA3:Tryz.prog.cellsOf 143=3:=by kernel_rfl
theorem cA2:Tryz.prog.cellsOf 151=2:=by kernel_rfl
theorem cTerm:Tryz.prog.cellsOf 145=6:=by kernel_rfl
theorem cAtom:Tryz.prog.cellsOf 153=4:=by kernel_rfl
theorem lits_int (d:Nat) {n:Int} (h:Sm n):Tryz.prog.keyLits (d+1) 3 [.int .i64 n]=some [.int .i64 n]:=by
 unfold Program.keyLits
 simp [Tryz.underlying3,sm_wf h]
theorem lits_str (d:Nat) {s:ByteArray} (h:s.size<=1000):Tryz.prog.keyLits (d+1) 9 [.string s]=some [.string s.data.toList]:=by
 unfold Program.keyLits
 simp [Tryz.underlying9]
 unfold maxLen
 omega
theorem lits_fn (d:Nat) {s:ByteArray} {n:Int} (h:s.size<=1000) (hn:Sm n):Tryz.prog.keyLits (d+2) 142 [.string s,.int .i64 n]=some [.string s.data.toList,.int .i64 n]:=by
 unfold Program.keyLits
 simp [Tryz.underlying142,cFn,cInt,cStr,lits_int d hn,lits_str d h]
theorem lits_a3 (d:Nat) {x y z:Int} (hx:Sm x) (hy:Sm y) (hz:Sm z):Tryz.prog.keyLits (d+2) 143 [.int .i64 x,.int .i64 y,.int .i64 z]=some [.int .i64 x,.int .i64 y,.int .i64 z]:=by
 unfold Program.keyLits
 simp [Tryz.underlying143,cA3,cInt,List.range_succ,lits_int d hx,lits_int d hy,lits_int d hz]
theorem lits_a2 (d:Nat) {x y:Int} (hx:Sm x) (hy:Sm y):Tryz.prog.keyLits (d+2) 151 [.int .i64 x,.int .i64 y]=some [.int .i64 x,.int .i64 y]:=by
 unfold Program.keyLits
 simp [Tryz.underlying151,cA2,cInt,List.range_succ,lits_int d hx,lits_int d hy]
theorem lits_tm (d:Nat) {k:TKey} (h:k.Ok):∃ ls,Tryz.prog.keyLits (d+3) 145 k.cells=some ls:=by
 unfold Program.keyLits
 simp [TKey.cells,Tryz.underlying145,cTerm,cFn,cA3,cInt,lits_fn d h.nm h.ar,lits_a3 d h.a0 h.a1 h.a2,lits_int (d+1) h.v]
theorem lits_at (d:Nat) {k:AKey} (h:k.Ok):∃ ls,Tryz.prog.keyLits (d+3) 153 k.cells=some ls:=by
 unfold Program.keyLits
 simp [AKey.cells,Tryz.underlying153,cAtom,cStr,cA2,cInt,lits_str (d+1) h.wd,lits_a2 d h.i h.j,lits_int (d+1) h.b]
theorem types_size:∃ d,Tryz.prog.types.size+1=d+3:=⟨Tryz.prog.types.size - 2,by
 have:2<=Tryz.prog.types.size:=of_decide_eq_true (by kernel_rfl)
 omega⟩
theorem key_tm {k:TKey} (h:k.Ok):∃ l,keyOf Tryz.prog 145 k.val=some l:=by
 obtain ⟨d,hd⟩:=types_size
 obtain ⟨ls,hl⟩:=lits_tm d h
 refine ⟨.string (keyBytes ls),?_⟩
 have hc:k.val.cells.toList=k.cells:=rfl
 have hkt:Tryz.prog.keyType 145=true:=by kernel_rfl
 have hf:k.val.formed Tryz.prog 145=true:=by simp [TKey.val,Value.formed,Tryz.underlying145,cTerm]
 unfold keyOf
 rw [Tryz.underlying145]
 simp only [hkt,hf,Bool.and_self,if_true,hc,hd,hl,Option.map_some]
theorem key_at {k:AKey} (h:k.Ok):∃ l,keyOf Tryz.prog 153 k.val=some l:=by
 obtain ⟨d,hd⟩:=types_size
 obtain ⟨ls,hl⟩:=lits_at d h
 refine ⟨.string (keyBytes ls),?_⟩
 have hc:k.val.cells.toList=k.cells:=rfl
 have hkt:Tryz.prog.keyType 153=true:=by kernel_rfl
 have hf:k.val.formed Tryz.prog 153=true:=by simp [AKey.val,Value.formed,Tryz.underlying153,cAtom]
 unfold keyOf
 rw [Tryz.underlying153]
 simp only [hkt,hf,Bool.and_self,if_true,hc,hd,hl,Option.map_some]
theorem kdTerm:Keyed Tryz.prog 145:=Keyed.of_law (deep_law_laid (by kernel_rfl) (m:=4) (by omega) (of_decide_eq_true (by kernel_rfl)) (by kernel_rfl) (by kernel_rfl))
theorem kdAtom:Keyed Tryz.prog 153:=Keyed.of_law (deep_law_laid (by kernel_rfl) (m:=4) (by omega) (of_decide_eq_true (by kernel_rfl)) (by kernel_rfl) (by kernel_rfl))
noncomputable def klT (k:TKey):Lit:=(keyOf Tryz.prog 145 k.val).getD (.bool false)
noncomputable def klA (k:AKey):Lit:=(keyOf Tryz.prog 153 k.val).getD (.bool false)
theorem klT_eq {k:TKey} (h:k.Ok):keyOf Tryz.prog 145 k.val=some (klT k):=by
 obtain ⟨l,hl⟩:=key_tm h
 rw [klT,hl];rfl
theorem klA_eq {k:AKey} (h:k.Ok):keyOf Tryz.prog 153 k.val=some (klA k):=by
 obtain ⟨l,hl⟩:=key_at h
 rw [klA,hl];rfl
theorem klT_inj {x y:TKey} (hx:x.Ok) (hy:y.Ok) (h:klT x=klT y):x=y:=by
 have h2:=klT_eq hy
 rw [<- h] at h2
 have e:=kdTerm.inj (klT_eq hx) h2
 cases x;cases y
 simp [TKey.val] at e
 simp [e]
theorem klA_inj {x y:AKey} (hx:x.Ok) (hy:y.Ok) (h:klA x=klA y):x=y:=by
 have h2:=klA_eq hy
 rw [<- h] at h2
 have e:=kdAtom.inj (klA_eq hx) h2
 cases x;cases y
 simp [AKey.val] at e
 simp [e]
def mapB:Value->Option Nat
 | .map b=>b
 | _=>none
theorem ownsMap_ext {S:Nat->Prop} {w w':World} {k:TypeId} {R:Value->Option (DataW Unit × List MemPlace)} {b n:Nat} {D:DataW Unit} (h:w.ownsMap Tryz.prog k R b n D) (hx:Ext S w w') (hS:¬S b):w'.ownsMap Tryz.prog k R b n D:=by
 obtain ⟨es,c,hb,r⟩:=h
 exact ⟨es,c,(hx.block b (blt hb) hS).trans hb,r⟩
theorem mapTurned_ext {w w':World} {b:Nat} (h:w.mapTurned w' b):Ext (fun k=>k=b) w w':=by
 have hg:=h.grown
 exact ⟨hg.os,hg.tape,hg.output,hg.size,fun k hk hne=>hg.block k hk (fun e=>hne (by simpa using e))⟩
open Classical in
noncomputable def putK {α:Type} (K:List α) (x : α):List α:=if x∈K then K else K++[x]
theorem putK_in {α:Type} {K:List α} {x : α} (h:x∈K):putK K x=K:=by unfold putK;rw [if_pos h]
theorem putK_new {α:Type} {K:List α} {x : α} (h:¬x∈K):putK K x=K++[x]:=by unfold putK;rw [if_neg h]
theorem infoIntZ (w:World):(zeroValue 3).run Tryz.prog w=.ok (.int .i64 0) w:=by kernel_rfl
theorem owns_size {w:World} {k:TypeId} {R:Value->Option (DataW Unit × List MemPlace)} {b n:Nat} {D:DataW Unit} (h:w.ownsMap Tryz.prog k R b n D) {c:Nat} (hc:Maps.size D=c):w.ownsMap Tryz.prog k R b c D:=by
 obtain ⟨es,cl,hb,hf,hs,rfl⟩:=h
 refine ⟨es,cl,hb,hf,?_,rfl⟩
 rw [<- hc]
 exact Nat.le_of_eq (length_read (P:=Tryz.prog) (k:=k) (R0:=R) es).symm
theorem num_tm_some (mb:Nat) (W:World):(binOp BinOp.eql 80 (.map (some mb)) (.map none)).run Tryz.prog W=.ok (.bool false) W:=by kernel_rfl
theorem num_tm_none (W:World):(binOp BinOp.eql 80 (.map none) (.map none)).run Tryz.prog W=.ok (.bool true) W:=by kernel_rfl
structure TRow (w:World) (tv mv:Value) (K:List TKey):Prop where
 own:w.ownsRow 0 145 6 tv K.length (K.flatMap TKey.cells)
 nd:K.Nodup
 ok:∀ k∈K,k.Ok
 map:(mv=.map none/\K=[])\/∃ mb D,mv=.map (some mb)/\w.ownsMap Tryz.prog 145 (plainElem Tryz.prog 3) mb K.length D/\MapF klT TKey.Ok (fun _=>True) K D K.length
 sep:∀ g,tv.ownBlock=some g->¬mapB mv=some g
theorem TRow.ext {S:Nat->Prop} {w w':World} {tv mv:Value} {K:List TKey} (h:TRow w tv mv K) (hx:Ext S w w') (h1:∀ g,tv.ownBlock=some g->¬S g) (h2:∀ g,mapB mv=some g->¬S g):TRow w' tv mv K:=by
 refine ⟨own_ext h.own hx h1,h.nd,h.ok,?_,h.sep⟩
 rcases h.map with e | ⟨mb,D,rfl,ho,hm⟩
 ·exact .inl e
 ·exact .inr ⟨mb,D,rfl,ownsMap_ext ho hx (h2 mb rfl),hm⟩
def num_tmPost (w:World) (sb:Nat) (nv:Value) (xs:PX) (K:List TKey) (x:TKey) (e:Ending) (w':World):Prop :=
 ∃ (i:Nat) (tv' mv':Value),e=.returned (.int .i64 i)/\(putK K x)[i]?=some x/\w'.heap[sb]?=some (.cells #[nv,tv',mv',xs.at_,xs.am,xs.fs,xs.ks,xs.vd,xs.ml] 98)/\TRow w' tv' mv' (putK K x)/\Ext (fun k=>k=sb\/xs.ts.ownBlock=some k\/mapB xs.tm=some k) w w' /\
  (∀ k,tv'.ownBlock=some k->xs.ts.ownBlock=some k\/w.heap.size<=k)/\(∀ k,mapB mv' = some k->mapB xs.tm=some k\/w.heap.size<=k)
set_option maxRecDepth 100000 in
theorem num_tm_new {w w0 w1 w2 W:World} {sb mb g cap':Nat} {nv:Value} {xs:PX} {K:List TKey} {x:TKey} {D:DataW Unit} (h:TRow w xs.ts xs.tm K) (hx:x.Ok) (hn:¬x∈K)
  (h0:Ext (fun k=>k=sb) w w0) (hgrow:w0.grownBy w1 xs.ts.ownBlock) (hown:w1.ownsRow 0 145 6 (.slice (some ⟨g,0,none⟩) (K.length+1) cap') (K.length+1) (K.flatMap TKey.cells++x.cells))
  (hat:xs.ts.ownBlock=some g\/w.heap.size<=g) (hmg:¬g=mb) (hgs:¬g=sb) (hms:¬mb=sb) (hmb:mapB xs.tm=some mb\/w.heap.size<=mb) (h2:Ext (fun k=>k=sb) w1 w2) (hm0:MapF klT TKey.Ok (fun _=>True) K D K.length) (htd:Maps.Tidy D)
  (hown2:W.ownsMap Tryz.prog 145 (plainElem Tryz.prog 3) mb (K.length+1) (D.put (klT x) (.lit (.int .i64 K.length)))) (h3:Ext (fun k=>k=mb) w2 W)
  (kW:w2.heap[sb]?=some (.cells #[nv,(.slice (some ⟨g,0,none⟩) (K.length+1) cap'),(.map (some mb)),xs.at_,xs.am,xs.fs,xs.ks,xs.vd,xs.ml] 98)) :
  num_tmPost w sb nv xs K x (.returned (.int .i64 K.length)) W:=by
 have hk:WideAt.IsKeyLit (klT x):=kdTerm.key (klT_eq hx)
 have hmf:=mapf_put hm0 htd hk h.ok hx (fun y hy e=>klT_inj hy hx e) hn
 have s0:=h0.size
 refine ⟨K.length,.slice (some ⟨g,0,none⟩) (K.length+1) cap',.map (some mb),rfl,?_,?_,⟨?_,?_,?_,?_,?_⟩,?_,?_,?_⟩
 ·rw [putK_new hn];simp
 ·exact (h3.block sb (blt kW) (fun e=>hms e.symm)).trans kW
 ·rw [putK_new hn]
  have ho:=own_ext (own_ext hown h2 (fun k hk e=>by simp [Value.ownBlock] at hk;omega)) h3 (fun k hk e=>by simp [Value.ownBlock] at hk;omega)
  simpa using ho
 ·rw [putK_new hn,List.nodup_append]
  refine ⟨h.nd,by simp,?_⟩
  intro a ha b hb e
  simp at hb
  subst hb e
  exact hn ha
 ·rw [putK_new hn]
  intro k hk
  rcases List.mem_append.1 hk with hk | hk
  ·exact h.ok k hk
  ·simp at hk;subst hk;exact hx
 ·rw [putK_new hn]
  refine .inr ⟨mb,_,rfl,?_,hmf⟩
  simpa using hown2
 ·intro k hk e
  simp [Value.ownBlock] at hk
  simp [mapB] at e
  omega
 ·have e1:Ext (fun k=>k=sb\/xs.ts.ownBlock=some k\/mapB xs.tm=some k) w w1:=(h0.mono (fun _ _ e=>.inl e)).grown hgrow (fun k hk _=>.inr (.inl hk))
  exact (e1.trans' h2 (fun _ _ e=>.inl e)).trans' h3 (fun k hk e=>by
   subst e
   rcases hmb with e2 | e2
   ·exact .inr (.inr e2)
   ·omega)
 ·intro k hk
  simp [Value.ownBlock] at hk
  subst hk
  exact hat
 ·intro k hk
  simp [mapB] at hk
  subst hk
  exact hmb
set_option maxRecDepth 100000 in
set_option maxHeartbeats 1000000 in
theorem num_tm_any {w:World} {sb:Nat} {nv:Value} {xs:PX} {K:List TKey} (x:TKey) (kb:w.heap[sb]?=some (.cells #[nv,xs.ts,xs.tm,xs.at_,xs.am,xs.fs,xs.ks,xs.vd,xs.ml] 98)) (h:TRow w xs.ts xs.tm K) (hx:x.Ok) (hs1:∀ k,xs.ts.ownBlock=some k->¬k=sb) (hs2:∀ k,mapB xs.tm=some k->¬k=sb) (hlen:K.length<=10000000) :
  Calls Tryz.prog 188 #[.pointer (some ⟨sb,1,none⟩),x.val] w (num_tmPost w sb nv xs K x):=by
 show Calls Tryz.prog 188 #[.pointer (some ⟨sb,1,none⟩),.agg #[.string x.nm,.int .i64 x.ar,.int .i64 x.a0,.int .i64 x.a1,.int .i64 x.a2,.int .i64 x.v]] w (num_tmPost w sb nv xs K x)
 have hke:keyOf Tryz.prog 145 (.agg #[.string x.nm,.int .i64 x.ar,.int .i64 x.a0,.int .i64 x.a1,.int .i64 x.a2,.int .i64 x.v])=some (klT x):=klT_eq hx
 have HKE:=hide hke
 clear hke
 obtain ⟨ts,tm,at_,am,fs,ks,vd,ml⟩:=xs
 simp only at kb h hs1 hs2
 have hsb:=blt kb
 have HX0:Hid (Ext (fun _=>False) w (w.alloc (.cells #[.string x.nm,.int .i64 x.ar,.int .i64 x.a0,.int .i64 x.a1,.int .i64 x.a2,.int .i64 x.v] 145))):=(Ext.refl _ w).alloc _
 have HBX:Hid ((w.alloc (.cells #[.string x.nm,.int .i64 x.ar,.int .i64 x.a0,.int .i64 x.a1,.int .i64 x.a2,.int .i64 x.v] 145)).heap[w.heap.size]?=some (.cells #[.string x.nm,.int .i64 x.ar,.int .i64 x.a0,.int .i64 x.a1,.int .i64 x.a2,.int .i64 x.v] 145)):=heap_alloc_new w _
 by_cases hin:x∈K
 ·-- it is there
  obtain ⟨i,hi⟩:=List.mem_iff_getElem?.1 hin
  rcases h.map with ⟨_,e⟩ | ⟨mb,D,hmv,ho,hm⟩
  ·subst e;exact absurd hin (by simp)
  subst hmv
  have hlk:∀ n,(Instr.lookup 80 (.map (some mb)) (.agg #[.string x.nm,.int .i64 x.ar,.int .i64 x.a0,.int .i64 x.a1,.int .i64 x.a2,.int .i64 x.v]) true).run Tryz.prog ((w.alloc (.cells #[.string x.nm,.int .i64 x.ar,.int .i64 x.a0,.int .i64 x.a1,.int .i64 x.a2,.int .i64 x.v] 145)).drewN n)=.ok (.tuple #[.int .i64 i,.bool true]) ((w.alloc (.cells #[.string x.nm,.int .i64 x.ar,.int .i64 x.a0,.int .i64 x.a1,.int .i64 x.a2,.int .i64 x.v] 145)).drewN n):=by
   intro n
   have ho2:=ownsMap_ext ho (((Ext.refl (fun _=>False) w).alloc (.cells #[.string x.nm,.int .i64 x.ar,.int .i64 x.a0,.int .i64 x.a1,.int .i64 x.a2,.int .i64 x.v] 145)).drewN n) (fun f=>f)
   obtain ⟨v,ps,hrun,hv⟩:=ho2.look_ok kdTerm Tryz.underlying80 (infoIntZ _) (plainElem_int Tryz.underlying3 (by decide)) HKE.out
   rw [(hm.yes i x hi trivial).1] at hv
   obtain ⟨a,rfl,e2,_⟩:=plainElem_int_inv Tryz.underlying3 hv
   simp at e2
   rw [hrun,(hm.yes i x hi trivial).2,e2.1]
  have c1:=cob kb 1
  have c2:=cob kb 2
  have H:=hide h
  have KB:=hide kb
  have HI:=hide hi
  have HW0:Hid (Ext (fun _=>False) w (w.alloc (.cells #[.string x.nm,.int .i64 x.ar,.int .i64 x.a0,.int .i64 x.a1,.int .i64 x.a2,.int .i64 x.v] 145))):=(Ext.refl _ w).alloc _
  have hlk0:=hlk 0
  have hnw:¬sb=w.heap.size:=by omega
  clear h kb ho hm hi
  go_enter Tryz.func188,Tryz.ntmps188
  go_wp2_with fail
  go_quiet (fail)
  go_wp2_with fail
  go_ret
  refine ⟨i,_,_,rfl,by rw [putK_in hin];exact HI.out,?_,?_,?_,fun k hk=>.inl hk,fun k hk=>.inl hk⟩
  ·exact ((HW0.out.drewN nq).block sb hsb (fun f=>f)).trans KB.out
  ·rw [putK_in hin]
   exact H.out.ext (HW0.out.drewN nq) (fun _ _ f=>f) (fun _ _ f=>f)
  ·exact (HW0.out.drewN nq).mono (fun _ _ f=>f.elim)
 ·have HX:=hide hx
  have HS1:=hide hs1
  have HS2:=hide hs2
  obtain ⟨ta,tc,hts⟩:∃ ta tc,ts=.slice ta K.length tc:=by
   rcases h.own.2 with ⟨e,e0⟩ | ⟨g,cap,cur,hv,_⟩
   ·exact ⟨none,0,by rw [e,e0]⟩
   ·exact ⟨_,cap,hv⟩
  subst hts
  rcases h.map with ⟨hmv,hK⟩ | ⟨mb,D,hmv,ho,hm⟩
  ·subst hmv
   have hlk:∀ n,(Instr.lookup 80 (.map none) (.agg #[.string x.nm,.int .i64 x.ar,.int .i64 x.a0,.int .i64 x.a1,.int .i64 x.a2,.int .i64 x.v]) true).run Tryz.prog ((w.alloc (.cells #[.string x.nm,.int .i64 x.ar,.int .i64 x.a0,.int .i64 x.a1,.int .i64 x.a2,.int .i64 x.v] 145)).drewN n)=.ok (.tuple #[.int .i64 0,.bool false]) ((w.alloc (.cells #[.string x.nm,.int .i64 x.ar,.int .i64 x.a0,.int .i64 x.a1,.int .i64 x.a2,.int .i64 x.v] 145)).drewN n):=by
    intro n
    have e:=Maps.look_nil (w:=(w.alloc (.cells #[.string x.nm,.int .i64 x.ar,.int .i64 x.a0,.int .i64 x.a1,.int .i64 x.a2,.int .i64 x.v] 145)).drewN n) true kdTerm Tryz.underlying80 (infoIntZ _) HKE.out
    simpa using e
   have c1:=cob kb 1
   have c2:=cob kb 2
   have f2:=fob kb 2
   have hlk0:=hlk 0
   have hnw:¬sb=w.heap.size:=by omega
   have hmm:=@run_makeMap Tryz.prog
   have hnil:=num_tm_none
   have HK:=hide hK
   have H:=hide h
   have KB:=hide kb
   clear h kb hx hs1 hs2 hK
   go_enter Tryz.func188,Tryz.ntmps188
   go_wp2_with fail
   go_quiet (fail)
   obtain ⟨V0,hVe⟩:∃ V0,(w.alloc (.cells #[.string x.nm,.int .i64 x.ar,.int .i64 x.a0,.int .i64 x.a1,.int .i64 x.a2,.int .i64 x.v] 145)).drewN nq=V0:=⟨_,rfl⟩
   have HVF:Hid (Ext (fun _=>False) w V0):=by rw [<- hVe];exact ((Ext.refl _ w).alloc _).drewN nq
   have KV0:=hide ((HVF.out.block sb hsb (fun f=>f)).trans KB.out)
   have KX0:Hid (V0.heap[w.heap.size]?=some (.cells #[.string x.nm,.int .i64 x.ar,.int .i64 x.a0,.int .i64 x.a1,.int .i64 x.a2,.int .i64 x.v] 145)):=by rw [<- hVe];exact heap_alloc_new w _
   have hl0:=blt KV0.out
   have hlx0:=blt KX0.out
   rw [hVe]
   clear hVe hlk hlk0 c1 c2 f2
   have c1:=cob KV0.out 1
   have c2:=cob KV0.out 2
   have f2:=fob KV0.out 2
   go_wp2_with fail
   obtain ⟨mb,hmb⟩:∃ mb,mb=V0.heap.size:=⟨_,rfl⟩
   obtain ⟨D,hD⟩:∃ D:DataW Unit,D=.map []:=⟨_,rfl⟩
   obtain ⟨V,hVe⟩:∃ V,(V0.setCell ⟨sb,2,none⟩ (.map (some V0.heap.size))).alloc (.map #[] 0)=V:=⟨_,rfl⟩
   have hsz:(V0.setCell ⟨sb,2,none⟩ (.map (some V0.heap.size))).heap.size=V0.heap.size:=by simp
   have HVA:Hid (Ext (fun k=>k=sb) V0 V):=by rw [<- hVe];exact ((Ext.refl (fun k=>k=sb) _).setCell (p:=⟨sb,2,none⟩) (fun _=>rfl) _).alloc _
   have HV:Hid (Ext (fun k=>k=sb) w V):=(HVF.out.mono (fun _ _ f=>f.elim)).trans HVA.out
   have KV:Hid (V.heap[sb]?=some (.cells #[nv,.slice ta K.length tc,.map (some mb),at_,am,fs,ks,vd,ml] 98)):=by
    rw [<- hVe,hmb]
    exact (Below.heap_alloc _ _ sb (by rw [hsz];exact hl0)).trans (bsc KV0.out 2 _)
   have KX:Hid (V.heap[w.heap.size]?=some (.cells #[.string x.nm,.int .i64 x.ar,.int .i64 x.a0,.int .i64 x.a1,.int .i64 x.a2,.int .i64 x.v] 145)):=(HVA.out.block _ hlx0 (by show ¬w.heap.size=sb;omega)).trans KX0.out
   have HMS:Hid (¬mb=sb):=by show ¬_;omega
   have HOV:Hid (V.ownsMap Tryz.prog 145 (plainElem Tryz.prog 3) mb K.length D):=by
    have e:=World.ownsMap_made (H:=Unit) (V0.setCell ⟨sb,2,none⟩ (.map (some V0.heap.size))) Tryz.prog 145 (plainElem Tryz.prog 3)
    rw [hsz,hVe] at e
    rw [hmb,hD,HK.out]
    exact e
   have HMF:Hid (MapF klT TKey.Ok (fun _=>True) K D K.length):=by rw [hD,HK.out];exact mapf_nil
   have HTD:Hid (Maps.Tidy D):=by rw [hD];exact tidy_empty
   have HMB:Hid (mapB (.map none)=some mb\/w.heap.size<=mb):=.inr (by have:=HVF.out.size;omega)
   have HSEP:Hid (∀ g,(Value.slice ta K.length tc).ownBlock=some g->¬g=mb):=fun g hg e=>by
    have h1:=(H.out.own.lt g hg).2
    have:=HVF.out.size
    omega
   rw [hVe,<- hmb]
   clear hVe hmb hD c1 c2 f2 KV0 KX0 hnil hsz
   have hlV:=blt KV.out
   have hlX:=blt KX.out
   have c1:=cob KV.out 1
   have c2:=cob KV.out 2
   have x0:=cob KX.out 0
   have x1:=cob KX.out 1
   have x2:=cob KX.out 2
   have x3:=cob KX.out 3
   have x4:=cob KX.out 4
   have x5:=cob KX.out 5
   obtain ⟨i0,hi,hz0,hz1,hz2⟩:=info_parts infoTerm
   have hnn:=num_tm_some mb
   have HOR:=hide (own_ext H.out.own HV.out (fun k hk e=>HS1.out k hk e))
   go_wp2_with fail
   go_region_law ((refine step_append_lies _ (by rfl) _ _ _ (by rfl) 0 145 i0 _ 6 56 Tryz.underlying79 hi hz0 hz1 hz2 rfl (by omega) (.slice ta K.length tc) K.length (K.flatMap TKey.cells) (by rfl) ((HOR.out.alloc _).drew) ⟨V.heap.size,0,none⟩ 1 1 x.cells (by rfl) (by rfl) (World.news_of_block (cs:=#[.string x.nm,.int .i64 x.ar,.int .i64 x.a0,.int .i64 x.a1,.int .i64 x.a2,.int .i64 x.v]) (t:=145) (fr:=(0,0)) (heap_alloc_new V _)) (by simp [TKey.cells,Value.oneCell']) (by omega) (by unfold maxLen;omega) (by omega) (Nat.zero_le _) (V.heap.size+1) (by simp) ?_;intro g cap' w2 hown2 hgrow hat hlt2;have kb2:w2.heap[sb]?=some (.cells #[nv,.slice ta K.length tc,.map (some mb),at_,am,fs,ks,vd,ml] 98):=(hgrow.block sb (by simp;omega) (fun e=>HS1.out sb e.symm rfl)).trans ((Below.heap_alloc V _ sb hlV).trans KV.out);have d1:=cob kb2 1;have d1f:=fob kb2 1))
   all_goals
    obtain ⟨W3,hW3⟩:∃ W3,w2.setCell ⟨sb,1,none⟩ (.slice (some ⟨g,0,none⟩) (K.length+1) cap')=W3:=⟨_,rfl⟩
    have hxV:Ext (fun k=>(Value.slice ta K.length tc).ownBlock=some k) V w2:=((((Ext.refl (fun _=>False) V).alloc _).drew).mono (fun _ _ f=>f.elim)).grown hgrow (fun k hk _=>hk)
    have hx3:Ext (fun k=>k=sb) w2 W3:=by rw [<- hW3];exact (Ext.refl (fun k=>k=sb) w2).setCell (p:=⟨sb,1,none⟩) (fun _=>rfl) _
    have kb3:W3.heap[sb]?=some (.cells #[nv,(.slice (some ⟨g,0,none⟩) (K.length+1) cap'),.map (some mb),at_,am,fs,ks,vd,ml] 98):=by rw [<- hW3];exact bsc kb2 1 _
    have kx3:W3.heap[w.heap.size]?=some (.cells #[.string x.nm,.int .i64 x.ar,.int .i64 x.a0,.int .i64 x.a1,.int .i64 x.a2,.int .i64 x.v] 145):=(hx3.block _ (Nat.lt_of_lt_of_le hlX hxV.size) (by show ¬w.heap.size=sb;omega)).trans ((hxV.block _ hlX (fun e=>by have:=(H.out.own.lt _ e).2;omega)).trans KX.out)
    have ho3:W3.drew.ownsMap Tryz.prog 145 (plainElem Tryz.prog 3) mb K.length D:=ownsMap_ext (ownsMap_ext (ownsMap_ext HOV.out hxV (fun e=>HSEP.out mb e rfl)) hx3 HMS.out) ((Ext.refl (fun _=>False) W3).drew) (fun f=>f)
    obtain ⟨W4,hst,how4,hturn⟩:=ho3.store kdTerm Tryz.underlying80 (by unfold maxLen;omega) HKE.out (plainElem_int Tryz.underlying3 (sm_wf (n:=(K.length:Int)) ⟨by omega,by omega⟩))
    have e1:=cob kb3 1
    have e2:=cob kb3 2
    have y0:=cob kx3 0
    have y1:=cob kx3 1
    have y2:=cob kx3 2
    have y3:=cob kx3 3
    have y4:=cob kx3 4
    have y5:=cob kx3 5
    have HN:Hid (num_tmPost w sb nv ⟨.slice ta K.length tc,.map none,at_,am,fs,ks,vd,ml⟩ K x (.returned (.int .i64 K.length)) W4):=num_tm_new (xs:=⟨.slice ta K.length tc,.map none,at_,am,fs,ks,vd,ml⟩) H.out HX.out hin ((HV.out.alloc _).drew) hgrow hown2 (hat.imp id (fun e=>by have:=HV.out.size;omega)) (by
     rcases hat with e | e
     ·exact fun e3=>HSEP.out mb (e3 ▸ e) rfl
     ·have:=HOV.out.lt;omega) (by
     rcases hat with e | e
     ·exact HS1.out g e
     ·omega) HMS.out HMB.out hx3 HMF.out HTD.out how4 ((((Ext.refl (fun _=>False) W3).drew).mono (fun _ _ f=>f.elim)).trans (mapTurned_ext hturn)) kb3
    rw [hW3]
    clear hW3 hxV hx3 kb3 kx3 ho3 how4 hturn kb2 hown2 hgrow hat c1 c2 d1 d1f
    go_wp2_with fail
    go_region
    all_goals
     go_wp2_with fail
     go_ret
     exact HN.out
  ·subst hmv
   have hlk:∀ n,(Instr.lookup 80 (.map (some mb)) (.agg #[.string x.nm,.int .i64 x.ar,.int .i64 x.a0,.int .i64 x.a1,.int .i64 x.a2,.int .i64 x.v]) true).run Tryz.prog ((w.alloc (.cells #[.string x.nm,.int .i64 x.ar,.int .i64 x.a0,.int .i64 x.a1,.int .i64 x.a2,.int .i64 x.v] 145)).drewN n)=.ok (.tuple #[.int .i64 0,.bool false]) ((w.alloc (.cells #[.string x.nm,.int .i64 x.ar,.int .i64 x.a0,.int .i64 x.a1,.int .i64 x.a2,.int .i64 x.v] 145)).drewN n):=by
    intro n
    have ho2:=ownsMap_ext ho (((Ext.refl (fun _=>False) w).alloc (.cells #[.string x.nm,.int .i64 x.ar,.int .i64 x.a0,.int .i64 x.a1,.int .i64 x.a2,.int .i64 x.v] 145)).drewN n) (fun f=>f)
    obtain ⟨v,ps,hrun,hv⟩:=ho2.look_ok kdTerm Tryz.underlying80 (infoIntZ _) (plainElem_int Tryz.underlying3 (by decide)) HKE.out
    have hno:=hm.no x hx (fun hc=>hin hc.1)
    rw [atKey_of_not_has hno] at hv
    obtain ⟨a,rfl,e2,_⟩:=plainElem_int_inv Tryz.underlying3 hv
    simp at e2
    rw [hrun,hno,<- e2.1]
   have c1:=cob kb 1
   have c2:=cob kb 2
   have hlk0:=hlk 0
   have hnw:¬sb=w.heap.size:=by omega
   have HTD:=hide (ho.tidy kdTerm)
   have HMF:=hide hm
   have HO:=hide ho
   have H:=hide h
   have KB:=hide kb
   have HSEP:Hid (∀ g,(Value.slice ta K.length tc).ownBlock=some g->¬g=mb):=fun g hg e=>h.sep g hg (by rw [e];rfl)
   have HMS:Hid (¬mb=sb):=hs2 mb rfl
   have HMB:Hid (mapB (.map (some mb))=some mb\/w.heap.size<=mb):=.inl rfl
   clear h kb ho hm hx hs1 hs2
   go_enter Tryz.func188,Tryz.ntmps188
   go_wp2_with fail
   go_quiet (fail)
   obtain ⟨V,hVe⟩:∃ V,(w.alloc (.cells #[.string x.nm,.int .i64 x.ar,.int .i64 x.a0,.int .i64 x.a1,.int .i64 x.a2,.int .i64 x.v] 145)).drewN nq=V:=⟨_,rfl⟩
   have HVF:Hid (Ext (fun _=>False) w V):=by rw [<- hVe];exact ((Ext.refl _ w).alloc _).drewN nq
   have HV:Hid (Ext (fun k=>k=sb) w V):=HVF.out.mono (fun _ _ f=>f.elim)
   have KV:=hide ((HVF.out.block sb hsb (fun f=>f)).trans KB.out)
   have KX:Hid (V.heap[w.heap.size]?=some (.cells #[.string x.nm,.int .i64 x.ar,.int .i64 x.a0,.int .i64 x.a1,.int .i64 x.a2,.int .i64 x.v] 145)):=by rw [<- hVe];exact heap_alloc_new w _
   have HOV:=hide (ownsMap_ext HO.out HVF.out (fun f=>f))
   rw [hVe]
   clear hVe hlk hlk0 c1 c2
   have hlV:=blt KV.out
   have hlX:=blt KX.out
   have c1:=cob KV.out 1
   have c2:=cob KV.out 2
   have x0:=cob KX.out 0
   have x1:=cob KX.out 1
   have x2:=cob KX.out 2
   have x3:=cob KX.out 3
   have x4:=cob KX.out 4
   have x5:=cob KX.out 5
   obtain ⟨i0,hi,hz0,hz1,hz2⟩:=info_parts infoTerm
   have hnn:=num_tm_some mb
   have HOR:=hide (own_ext H.out.own HV.out (fun k hk e=>HS1.out k hk e))
   go_wp2_with fail
   go_region_law ((refine step_append_lies _ (by rfl) _ _ _ (by rfl) 0 145 i0 _ 6 56 Tryz.underlying79 hi hz0 hz1 hz2 rfl (by omega) (.slice ta K.length tc) K.length (K.flatMap TKey.cells) (by rfl) ((HOR.out.alloc _).drew) ⟨V.heap.size,0,none⟩ 1 1 x.cells (by rfl) (by rfl) (World.news_of_block (cs:=#[.string x.nm,.int .i64 x.ar,.int .i64 x.a0,.int .i64 x.a1,.int .i64 x.a2,.int .i64 x.v]) (t:=145) (fr:=(0,0)) (heap_alloc_new V _)) (by simp [TKey.cells,Value.oneCell']) (by omega) (by unfold maxLen;omega) (by omega) (Nat.zero_le _) (V.heap.size+1) (by simp) ?_;intro g cap' w2 hown2 hgrow hat hlt2;have kb2:w2.heap[sb]?=some (.cells #[nv,.slice ta K.length tc,.map (some mb),at_,am,fs,ks,vd,ml] 98):=(hgrow.block sb (by simp;omega) (fun e=>HS1.out sb e.symm rfl)).trans ((Below.heap_alloc V _ sb hlV).trans KV.out);have d1:=cob kb2 1;have d1f:=fob kb2 1))
   all_goals
    obtain ⟨W3,hW3⟩:∃ W3,w2.setCell ⟨sb,1,none⟩ (.slice (some ⟨g,0,none⟩) (K.length+1) cap')=W3:=⟨_,rfl⟩
    have hxV:Ext (fun k=>(Value.slice ta K.length tc).ownBlock=some k) V w2:=((((Ext.refl (fun _=>False) V).alloc _).drew).mono (fun _ _ f=>f.elim)).grown hgrow (fun k hk _=>hk)
    have hx3:Ext (fun k=>k=sb) w2 W3:=by rw [<- hW3];exact (Ext.refl (fun k=>k=sb) w2).setCell (p:=⟨sb,1,none⟩) (fun _=>rfl) _
    have kb3:W3.heap[sb]?=some (.cells #[nv,(.slice (some ⟨g,0,none⟩) (K.length+1) cap'),.map (some mb),at_,am,fs,ks,vd,ml] 98):=by rw [<- hW3];exact bsc kb2 1 _
    have kx3:W3.heap[w.heap.size]?=some (.cells #[.string x.nm,.int .i64 x.ar,.int .i64 x.a0,.int .i64 x.a1,.int .i64 x.a2,.int .i64 x.v] 145):=(hx3.block _ (Nat.lt_of_lt_of_le hlX hxV.size) (by show ¬w.heap.size=sb;omega)).trans ((hxV.block _ hlX (fun e=>by have:=(H.out.own.lt _ e).2;omega)).trans KX.out)
    have ho3:W3.drew.ownsMap Tryz.prog 145 (plainElem Tryz.prog 3) mb K.length D:=ownsMap_ext (ownsMap_ext (ownsMap_ext HOV.out hxV (fun e=>HSEP.out mb e rfl)) hx3 HMS.out) ((Ext.refl (fun _=>False) W3).drew) (fun f=>f)
    obtain ⟨W4,hst,how4,hturn⟩:=ho3.store kdTerm Tryz.underlying80 (by unfold maxLen;omega) HKE.out (plainElem_int Tryz.underlying3 (sm_wf (n:=(K.length:Int)) ⟨by omega,by omega⟩))
    have e1:=cob kb3 1
    have e2:=cob kb3 2
    have y0:=cob kx3 0
    have y1:=cob kx3 1
    have y2:=cob kx3 2
    have y3:=cob kx3 3
    have y4:=cob kx3 4
    have y5:=cob kx3 5
    have HN:Hid (num_tmPost w sb nv ⟨.slice ta K.length tc,.map (some mb),at_,am,fs,ks,vd,ml⟩ K x (.returned (.int .i64 K.length)) W4):=num_tm_new (xs:=⟨.slice ta K.length tc,.map (some mb),at_,am,fs,ks,vd,ml⟩) H.out HX.out hin ((HV.out.alloc _).drew) hgrow hown2 (hat.imp id (fun e=>by have:=HV.out.size;omega)) (by
     rcases hat with e | e
     ·exact fun e3=>HSEP.out mb (e3 ▸ e) rfl
     ·have:=HOV.out.lt;omega) (by
     rcases hat with e | e
     ·exact HS1.out g e
     ·omega) HMS.out HMB.out hx3 HMF.out HTD.out how4 ((((Ext.refl (fun _=>False) W3).drew).mono (fun _ _ f=>f.elim)).trans (mapTurned_ext hturn)) kb3
    rw [hW3]
    clear hW3 hxV hx3 kb3 kx3 ho3 how4 hturn kb2 hown2 hgrow hat c1 c2 d1 d1f
    go_wp2_with fail
    go_region
    all_goals
     go_wp2_with fail
     go_ret
     exact HN.out
def cut_tmPost (w:World) (sb:Nat) (nv:Value) (xs:PX) (K:List TKey) (n:Nat) (w':World):Prop :=
 ∃ tv',w'.heap[sb]?=some (.cells #[nv,tv',xs.tm,xs.at_,xs.am,xs.fs,xs.ks,xs.vd,xs.ml] 98)/\TRow w' tv' xs.tm (K.take n)/\Ext (fun k=>k=sb\/xs.ts.ownBlock=some k\/mapB xs.tm=some k) w w'/\tv'.ownBlock=xs.ts.ownBlock
theorem cut_tm_cells {K:List TKey} {n:Nat} (hn:n<=K.length):(K.flatMap TKey.cells).take (n * 6)=(K.take n).flatMap TKey.cells:=by
 have hl:∀ l:List TKey,(l.flatMap TKey.cells).length=l.length * 6:=by
  intro l
  induction l with
  | nil=>rfl
  | cons a l ih=>simp only [List.flatMap_cons,List.length_append,List.length_cons,ih];simp [TKey.cells];omega
 have e:K.flatMap TKey.cells=(K.take n).flatMap TKey.cells++(K.drop n).flatMap TKey.cells:=by rw [<- List.flatMap_append,List.take_append_drop]
 rw [e,List.take_append_of_le_length (by rw [hl,List.length_take];omega),List.take_of_length_le (by rw [hl,List.length_take];omega)]
theorem cut_tm_get {K:List TKey} {i:Nat} {x:TKey} (h:K[i]?=some x) (q:Nat) (hq:q < 6):(K.flatMap TKey.cells)[i * 6+q]?=x.cells[q]?:=by
 obtain ⟨hi,hx⟩:=List.getElem?_eq_some_iff.1 h
 have hl:∀ l:List TKey,(l.flatMap TKey.cells).length=l.length * 6:=by
  intro l
  induction l with
  | nil=>rfl
  | cons a l ih=>simp only [List.flatMap_cons,List.length_append,List.length_cons,ih];simp [TKey.cells];omega
 have e:K.take i++x :: K.drop (i+1)=K:=by rw [<- hx,List.getElem_cons_drop,List.take_append_drop]
 have e2:(K.take i++x :: K.drop (i+1)).flatMap TKey.cells=(K.take i).flatMap TKey.cells++(x.cells++(K.drop (i+1)).flatMap TKey.cells):=by simp
 rw [e] at e2
 have hlt:((K.take i).flatMap TKey.cells).length=i * 6:=by rw [hl,List.length_take];congr 1;omega
 have hc:x.cells.length=6:=rfl
 rw [e2,List.getElem?_append_right (by rw [hlt];omega),hlt,show i * 6+q - i * 6=q by omega,List.getElem?_append_left (by omega)]
theorem cut_tm_done {w wr w2 W:World} {sb n:Nat} {nv v':Value} {xs:PX} {K:List TKey} (h:TRow w xs.ts xs.tm K) (hn:n<=K.length) (hs1:∀ k,xs.ts.ownBlock=some k->¬k=sb) (hs2:∀ k,mapB xs.tm=some k->¬k=sb) (hE:Ext (fun k=>mapB xs.tm=some k) w wr)
  (hm:(xs.tm=.map none/\K=[])\/∃ mb D,xs.tm=.map (some mb)/\wr.ownsMap Tryz.prog 145 (plainElem Tryz.prog 3) mb (n+(K.length - K.length)) D/\MapF klT TKey.Ok (MidS K n K.length) K D (n+(K.length - K.length)))
  (hown:w2.ownsRow 0 145 6 v' n ((K.flatMap TKey.cells).take (n * 6))) (hx:Ext (fun k=>xs.ts.ownBlock=some k) wr w2) (hob:v'.ownBlock=xs.ts.ownBlock) (hW:Ext (fun k=>k=sb) w2 W) (kW:W.heap[sb]?=some (.cells #[nv,v',xs.tm,xs.at_,xs.am,xs.fs,xs.ks,xs.vd,xs.ml] 98)):cut_tmPost w sb nv xs K n W:=by
 refine ⟨v',kW,⟨?_,h.nd.sublist (List.take_sublist n K),fun k hk=>h.ok k (List.mem_of_mem_take hk),?_,fun k hk=>by rw [hob] at hk;exact h.sep k hk⟩,?_,hob⟩
 ·rw [cut_tm_cells hn] at hown
  have hl:(K.take n).length=n:=by rw [List.length_take];omega
  rw [hl]
  exact own_ext hown hW (fun k hk=>by rw [hob] at hk;exact hs1 k hk)
 ·rcases hm with ⟨e1,e2⟩ | ⟨mb,D,e1,ho,hmf⟩
  ·exact .inl ⟨e1,by rw [e2];simp⟩
  ·refine .inr ⟨mb,D,e1,?_,mapf_done hmf hn⟩
   have hl:(K.take n).length=n+(K.length - K.length):=by rw [List.length_take];omega
   rw [hl]
   exact ownsMap_ext (ownsMap_ext ho hx (fun e=>h.sep mb e (by rw [e1];rfl))) hW (hs2 mb (by rw [e1];rfl))
 ·exact ((hE.mono (fun _ _ e=>.inr (.inr e))).trans' hx (fun _ _ e=>.inr (.inl e))).trans' hW (fun _ _ e=>.inl e)
set_option maxRecDepth 100000 in
set_option maxHeartbeats 1000000 in
theorem cut_tm_any {w:World} {sb:Nat} {nv:Value} {xs:PX} {K:List TKey} (n:Nat) (kb:w.heap[sb]?=some (.cells #[nv,xs.ts,xs.tm,xs.at_,xs.am,xs.fs,xs.ks,xs.vd,xs.ml] 98)) (h:TRow w xs.ts xs.tm K) (hs1:∀ k,xs.ts.ownBlock=some k->¬k=sb) (hs2:∀ k,mapB xs.tm=some k->¬k=sb) (hlen:K.length<=10000000) (hn:n<=K.length) :
  Calls Tryz.prog 65 #[.pointer (some ⟨sb,1,none⟩),.int .i64 n] w fun e w'=>e=.returned (.tuple #[])/\cut_tmPost w sb nv xs K n w':=by
 obtain ⟨ts,tm,at_,am,fs,ks,vd,ml⟩:=xs
 simp only at kb h hs1 hs2
 have hsb:=blt kb
 have hsh:(ts=.slice none 0 0/\K.length=0)\/∃ g tc,ts=.slice (some ⟨g,0,none⟩) K.length tc/\K.length<=tc/\tc<=9223372036854775807/\g < w.heap.size/\∀ q,q < K.length * 6->w.cell? ⟨g,q,none⟩=(K.flatMap TKey.cells)[q]?:=by
  rcases h.own.2 with ⟨e,e0⟩ | ⟨g,cap,cur,hv,_,hh,h1,h2,_⟩
  ·exact .inl ⟨e,e0⟩
  ·refine .inr ⟨g,cap,hv,h1,by unfold maxLen at h2;exact h2,blt hh,fun q hq=>?_⟩
   have h3:=h.own
   rw [hv] at h3
   exact h3.cellAt q hq
 rcases hsh with ⟨hts,hK0⟩ | ⟨g,tc,hts,htc,htc2,hgl,hcells⟩
 ·clear hlen
  have hKe:K=[]:=List.length_eq_zero_iff.1 hK0
  have hn0:n=0:=by omega
  subst hn0 hts
  have HM0:Hid ((tm=.map none/\K=[])\/∃ mb D,tm=.map (some mb)/\w.ownsMap Tryz.prog 145 (plainElem Tryz.prog 3) mb (0+(K.length - K.length)) D/\MapF klT TKey.Ok (MidS K 0 K.length) K D (0+(K.length - K.length))):=by
   rcases h.map with e | ⟨mb,D,e,ho,hm⟩
   ·exact .inl e
   ·have hm2:=mapf_mid hm (Nat.zero_le _)
    refine .inr ⟨mb,D,e,?_,?_⟩
    ·rw [show 0+(K.length - K.length)=K.length by omega];exact ho
    ·rw [hK0] at hm2 ⊢;exact hm2
  have c1:=cob kb 1
  have hlb:=hsb
  have H:=hide h
  have KB:=hide kb
  have HS1:=hide hs1
  have HS2:=hide hs2
  have HOR:=hide (own_ext h.own ((Ext.refl (fun _=>False) w).drew) (fun _ _ f=>f))
  rw [hK0] at HOR
  clear h kb hs1 hs2
  go_enter Tryz.func65,Tryz.ntmps65
  go_wp2_with fail
  go_loopw [13] (fun i wr=>i=.int .i64 0/\wr=w) (fun _ _=>0)
  case atStart=>exact ⟨rfl,rfl⟩
  case round =>
   obtain ⟨rfl,rfl⟩:=hrel
   go_wp2_with fail
   go_region_law (go_simp;go_wp2_with (go_at_call 100;refine (del_tm HOR.out (Nat.le_refl 0) (by omega)).mono ?_;rintro e w2 ⟨v',rfl,hown2,hx2,hob⟩;obtain ⟨va,vc,rfl⟩:=row_shape hown2;have kb2:w2.heap[sb]?=some (.cells #[nv,.slice none 0 0,tm,at_,am,fs,ks,vd,ml] 98):=(hx2.block sb hlb (fun e=>HS1.out sb e rfl)).trans KB.out;have d1:=cob kb2 1;have d1f:=fob kb2 1))
   all_goals
    go_wp2_with fail
    go_end0
    refine ⟨rfl,?_⟩
    exact cut_tm_done (xs:=⟨.slice none 0 0,tm,at_,am,fs,ks,vd,ml⟩) H.out (Nat.zero_le _) HS1.out HS2.out (Ext.refl _ _) HM0.out hown2 (((Ext.refl _ _).drew).trans hx2) hob ((Ext.refl (fun k=>k=sb) w2).setCell (p:=⟨sb,1,none⟩) (fun _=>rfl) _) (bsc kb2 1 _)
 ·by_cases hK0:K.length=0
  ·clear hlen hcells htc2
   rw [hK0] at hts
   have hKe:K=[]:=List.length_eq_zero_iff.1 hK0
   have hn0:n=0:=by omega
   subst hn0 hts
   have HM0:Hid ((tm=.map none/\K=[])\/∃ mb D,tm=.map (some mb)/\w.ownsMap Tryz.prog 145 (plainElem Tryz.prog 3) mb (0+(K.length - K.length)) D/\MapF klT TKey.Ok (MidS K 0 K.length) K D (0+(K.length - K.length))):=by
    rcases h.map with e | ⟨mb,D,e,ho,hm⟩
    ·exact .inl e
    ·have hm2:=mapf_mid hm (Nat.zero_le _)
     refine .inr ⟨mb,D,e,?_,?_⟩
     ·rw [show 0+(K.length - K.length)=K.length by omega];exact ho
     ·rw [hK0] at hm2 ⊢;exact hm2
   have c1:=cob kb 1
   have hlb:=hsb
   have H:=hide h
   have KB:=hide kb
   have HS1:=hide hs1
   have HS2:=hide hs2
   have HOR:=hide (own_ext h.own ((Ext.refl (fun _=>False) w).drew) (fun _ _ f=>f))
   rw [hK0] at HOR
   clear h kb hs1 hs2
   go_enter Tryz.func65,Tryz.ntmps65
   go_wp2_with fail
   go_loopw [13] (fun i wr=>i=.int .i64 0/\wr=w) (fun _ _=>0)
   case atStart=>exact ⟨rfl,rfl⟩
   case round =>
    obtain ⟨rfl,rfl⟩:=hrel
    go_wp2_with fail
    go_region_law (go_simp;go_wp2_with (go_at_call 100;refine (del_tm HOR.out (Nat.le_refl 0) (by omega)).mono ?_;rintro e w2 ⟨v',rfl,hown2,hx2,hob⟩;obtain ⟨va,vc,rfl⟩:=row_shape hown2;have kb2:w2.heap[sb]?=some (.cells #[nv,.slice (some ⟨g,0,none⟩) 0 tc,tm,at_,am,fs,ks,vd,ml] 98):=(hx2.block sb hlb (fun e=>HS1.out sb e rfl)).trans KB.out;have d1:=cob kb2 1;have d1f:=fob kb2 1))
    all_goals
     go_wp2_with fail
     go_end0
     refine ⟨rfl,?_⟩
     exact cut_tm_done (xs:=⟨.slice (some ⟨g,0,none⟩) 0 tc,tm,at_,am,fs,ks,vd,ml⟩) H.out (Nat.zero_le _) HS1.out HS2.out (Ext.refl _ _) HM0.out hown2 (((Ext.refl _ _).drew).trans hx2) hob ((Ext.refl (fun k=>k=sb) w2).setCell (p:=⟨sb,1,none⟩) (fun _=>rfl) _) (bsc kb2 1 _)
  subst hts
  rcases h.map with ⟨hmv,hK⟩ | ⟨mb,D,hmv,ho,hm⟩
  ·exact absurd (by rw [hK];rfl) hK0
  ·subst hmv
   obtain ⟨A,hA,hA2⟩:∃ A,(if tc=n then some (⟨g,0,none⟩:Addr) else some ⟨g,n * 6,none⟩)=some A/\(n < tc->A=⟨g,n * 6,none⟩):=by
    by_cases h:tc=n
    ·exact ⟨_,by rw [if_pos h],fun h2=>by omega⟩
    ·exact ⟨_,by rw [if_neg h],fun _=>rfl⟩
   have hnc:n<=tc:=by omega
   have c1:=cob kb 1
   have HMF:=hide (mapf_mid hm hn)
   have HO:=hide ho
   have H:=hide h
   have KB:=hide kb
   have HCELLS:=hide hcells
   have HA2:=hide hA2
   have HS1:=hide hs1
   have HS2:=hide hs2
   have HMS:Hid (¬mb=sb):=hs2 mb rfl
   have hml:=ho.lt
   clear h kb ho hm hcells hA2 hs1 hs2
   go_enter Tryz.func65,Tryz.ntmps65
   go_wp2_with fail
   go_loopw [13] (fun i wr=>∃ (j:Nat) (D:DataW Unit),n<=j/\j<=K.length/\i=.int .i64 ((j - n:Nat):Int)/\Ext (fun k=>k=mb) w wr/\wr.ownsMap Tryz.prog 145 (plainElem Tryz.prog 3) mb (n+(K.length - j)) D/\MapF klT TKey.Ok (MidS K n j) K D (n+(K.length - j))) (fun i _=>K.length - n - (intOf i).toNat)
   case atStart=>exact ⟨n,D,Nat.le_refl _,hn,by simp,Ext.refl _ _,by rw [show n+(K.length - n)=K.length by omega];exact HO.out,HMF.out⟩
   case round =>
    clear c1
    obtain ⟨j,Dj,hj1,hj2,rfl,hE,hoj,hmj⟩:=hrel
    have kbr:=(hE.block sb hsb (fun e=>HMS.out e.symm)).trans KB.out
    have c1:=cob kbr 1
    have c2:=cob kbr 2
    have hlb:=blt kbr
    have HE:=hide hE
    have HOJ:=hide hoj
    have HMJ:=hide hmj
    have KBR:=hide kbr
    clear hE hoj hmj kbr
    by_cases hlt:j < K.length
    ·obtain ⟨x,hx⟩:∃ x,K[j]?=some x:=⟨_,List.getElem?_eq_getElem hlt⟩
     have hAe:=HA2.out (by omega)
     subst hAe
     have hxo:=H.out.ok x (List.mem_of_getElem? hx)
     have hke:keyOf Tryz.prog 145 (.agg #[.string x.nm,.int .i64 x.ar,.int .i64 x.a0,.int .i64 x.a1,.int .i64 x.a2,.int .i64 x.v])=some (klT x):=klT_eq hxo
     have hgm:¬g=mb:=fun e=>H.out.sep g rfl (by rw [e];rfl)
     have hc:∀ q,q < 6->wr.cell? ⟨g,j * 6+q,none⟩=x.cells[q]?:=by
      intro q hq
      rw [HE.out.cell (p:=⟨g,j * 6+q,none⟩) hgl hgm,HCELLS.out _ (by omega)]
      exact cut_tm_get hx q hq
     have z0:wr.cell? ⟨g,j * 6,none⟩=some (.string x.nm):=hc 0 (by decide)
     have z1:wr.cell? ⟨g,j * 6+1,none⟩=some (.int .i64 x.ar):=hc 1 (by decide)
     have z2:wr.cell? ⟨g,j * 6+2,none⟩=some (.int .i64 x.a0):=hc 2 (by decide)
     have z3:wr.cell? ⟨g,j * 6+3,none⟩=some (.int .i64 x.a1):=hc 3 (by decide)
     have z4:wr.cell? ⟨g,j * 6+4,none⟩=some (.int .i64 x.a2):=hc 4 (by decide)
     have z5:wr.cell? ⟨g,j * 6+5,none⟩=some (.int .i64 x.v):=hc 5 (by decide)
     have ho1:(wr.alloc (.cells #[.string x.nm,.int .i64 x.ar,.int .i64 x.a0,.int .i64 x.a1,.int .i64 x.a2,.int .i64 x.v] 145)).drew.ownsMap Tryz.prog 145 (plainElem Tryz.prog 3) mb (n+(K.length - j)) Dj:=(HOJ.out.alloc _).drew
     obtain ⟨W1,hdr,how,hturn⟩:=ho1.drop kdTerm Tryz.underlying80 hke 0
     have HMN:=hide (mapf_del HMJ.out (HOJ.out.tidy kdTerm) H.out.nd H.out.ok (fun y hy e=>klT_inj hy hxo e) hj1 hx)
     have hE1:Ext (fun k=>k=mb) w W1:=(((HE.out.alloc _).drew).trans (mapTurned_ext hturn))
     have HE1:=hide hE1
     have HOW:=hide (owns_size how HMN.out.size)
     have e4:n * 6+(j - n) * 6=j * 6:=by omega
     clear how hturn ho1 hke hx hc hE1
     go_wp2_with fail
     go_region
     all_goals
      go_wp2_with fail
      go_roundw
      case measure=>simp [intOf];omega
      case rel=>exact ⟨j+1,_,by omega,by omega,by congr 1;omega,HE1.out,HOW.out,HMN.out⟩
    ·have hjn:j=K.length:=by omega
     subst hjn
     have HOR:=hide (own_ext H.out.own HE.out.drew (fun k hk e=>H.out.sep k hk (by rw [e];rfl)))
     go_wp2_with fail
     go_region_law (go_simp;go_wp2_with (go_at_call 100;refine (del_tm HOR.out hn (by omega)).mono ?_;rintro e w2 ⟨v',rfl,hown2,hx2,hob⟩;obtain ⟨va,vc,rfl⟩:=row_shape hown2;have kb2:w2.heap[sb]?=some (.cells #[nv,.slice (some ⟨g,0,none⟩) K.length tc,.map (some mb),at_,am,fs,ks,vd,ml] 98):=(hx2.block sb hlb (fun e=>HS1.out sb e rfl)).trans KBR.out;have d1:=cob kb2 1;have d1f:=fob kb2 1))
     all_goals
      go_wp2_with fail
      go_end0
      refine ⟨rfl,?_⟩
      exact cut_tm_done (xs:=⟨.slice (some ⟨g,0,none⟩) K.length tc,.map (some mb),at_,am,fs,ks,vd,ml⟩) H.out hn HS1.out HS2.out (HE.out.mono (fun _ _ e=>by rw [e];rfl)) (.inr ⟨mb,Dj,rfl,HOJ.out,HMJ.out⟩) hown2 (((Ext.refl _ wr).drew).trans hx2) hob ((Ext.refl (fun k=>k=sb) w2).setCell (p:=⟨sb,1,none⟩) (fun _=>rfl) _) (bsc kb2 1 _)
noncomputable def ix (T ps:List Nd) (q:Nat):Int:=match ps[q]? with
 | some p=>(idx T p:Int)
 | none=>0
noncomputable def keyT (T:List Nd):Nd->TKey
 | .mk k w v ps=>if k=4 then ⟨ByteArray.empty,0,0,0,0,v⟩ else ⟨w,ps.length,ix T ps 0,ix T ps 1,ix T ps 2,0⟩
theorem ix_pre {T T' ps:List Nd} (h:T <+: T') (hp:∀ p∈ps,p∈T) (q:Nat):ix T' ps q=ix T ps q:=by
 unfold ix
 split
 ·rename_i p hq
  rw [idx_pre h (hp p (List.mem_of_getElem? hq))]
 ·rfl
theorem keyT_pre {T T':List Nd} (h:T <+: T') {x:Nd} (hp:∀ p∈parts x,p∈T):keyT T' x=keyT T x:=by
 cases x with
 | mk k w v ps =>
  have hp':∀ p∈ps,p∈T:=hp
  simp only [keyT,ix_pre h hp']
theorem idx_lt {T:List Nd} {x:Nd} (h:x∈T):idx T x < T.length:=(List.getElem?_eq_some_iff.1 (idx_get h)).1
theorem sm0:Sm 0:=⟨by decide,by decide⟩
theorem ix_sm {T ps:List Nd} (hp:∀ p∈ps,p∈T) (hl:T.length<=10000000) (q:Nat):Sm (ix T ps q):=by
 unfold ix
 split
 ·rename_i p hq
  have:=idx_lt (hp p (List.mem_of_getElem? hq))
  exact ⟨by omega,by omega⟩
 ·exact ⟨by decide,by decide⟩
theorem name_size {w:ByteArray} (h:isName w.toList=true):w.size<=8:=by
 simp only [isName,Bool.and_eq_true,decide_eq_true_eq] at h
 rw [<- len_toList]
 exact h.2.2
theorem keyT_ok {T:List Nd} {x:Nd} (hx:TmOk x) (hp:∀ p∈parts x,p∈T) (hl:T.length<=10000000):(keyT T x).Ok:=by
 cases hx with
 | num h1 h2 =>
  rw [keyT,if_pos rfl]
  refine ⟨?_,sm0,sm0,sm0,sm0,?_⟩
  ·show ByteArray.empty.size<=1000
   decide
  ·exact ⟨by show _<=_;simp only;omega,by show _<=_;simp only;omega⟩
 | @app w ps hw hl' hps =>
  rw [keyT,if_neg (by decide)]
  have hp':∀ p∈ps,p∈T:=hp
  have hsz:=name_size hw
  exact ⟨by show _<=_;simp only;omega,⟨by show _<=_;simp only;omega,by show _<=_;simp only;omega⟩,ix_sm hp' hl 0,ix_sm hp' hl 1,ix_sm hp' hl 2,sm0⟩
theorem ix_inj {T ps qs:List Nd} (hp:∀ p∈ps,p∈T) (hq:∀ p∈qs,p∈T) (hl:ps.length=qs.length) {i:Nat} (h:ix T ps i=ix T qs i):ps[i]?=qs[i]?:=by
 unfold ix at h
 cases h1:ps[i]? with
 | none =>
  have:qs[i]?=none:=by rw [List.getElem?_eq_none_iff] at h1 ⊢;omega
  rw [this]
 | some p =>
  have hi:=(List.getElem?_eq_some_iff.1 h1).1
  have h2:qs[i]?=some qs[i]:=List.getElem?_eq_getElem (by omega)
  rw [h1,h2] at h
  simp only at h
  have:=idx_inj (hp p (List.mem_of_getElem? h1)) (hq _ (List.mem_of_getElem? h2)) (by omega)
  rw [h2,this]
theorem keyT_inj {T:List Nd} {x y:Nd} (hx:TmOk x) (hy:TmOk y) (hpx:∀ p∈parts x,p∈T) (hpy:∀ p∈parts y,p∈T) (h:keyT T x=keyT T y):x=y:=by
 cases hx with
 | num h1 h2 =>
  cases hy with
  | num h3 h4 =>
   rw [keyT,if_pos rfl,keyT,if_pos rfl] at h
   simp at h
   rw [h]
  | @app w ps hw hl hps =>
   rw [keyT,if_pos rfl,keyT,if_neg (by decide)] at h
   simp only [TKey.mk.injEq] at h
   rw [<- h.1,empty_toList] at hw
   exact absurd hw (by decide)
 | @app w ps hw hl hps =>
  cases hy with
  | num h3 h4 =>
   rw [keyT,if_neg (by decide),keyT,if_pos rfl] at h
   simp only [TKey.mk.injEq] at h
   rw [h.1,empty_toList] at hw
   exact absurd hw (by decide)
  | @app w' qs hw' hl' hqs =>
   rw [keyT,if_neg (by decide),keyT,if_neg (by decide)] at h
   simp only [TKey.mk.injEq] at h
   obtain ⟨rfl,hlen,e0,e1,e2,_⟩:=h
   have hlq:ps.length=qs.length:=by omega
   have hpx':∀ p∈ps,p∈T:=hpx
   have hpy':∀ p∈qs,p∈T:=hpy
   have:ps=qs:=by
    apply List.ext_getElem?
    intro i
    match i with
    | 0=>exact ix_inj hpx' hpy' hlq e0
    | 1=>exact ix_inj hpx' hpy' hlq e1
    | 2=>exact ix_inj hpx' hpy' hlq e2
    | i+3=>rw [List.getElem?_eq_none (by omega),List.getElem?_eq_none (by omega)]
   rw [this]
noncomputable def keys (T:List Nd):List TKey:=T.map (keyT T)
theorem keys_len (T:List Nd):(keys T).length=T.length:=by simp [keys]
theorem keys_pre {T T':List Nd} (h:T <+: T') (hc:Cl T):T.map (keyT T')=keys T:=by
 unfold keys
 apply List.map_congr_left
 intro x hx
 exact keyT_pre h (fun p hp=>hc.part hx hp)
theorem keys_put {T:List Nd} {x:Nd} (hc:Cl T) (hx:TmOk x) (hp:∀ p∈parts x,p∈T):keys (putN T x)=putK (keys T) (keyT T x):=by
 by_cases hin:x∈T
 ·rw [putN_in hin,putK_in (show keyT T x∈keys T from List.mem_map.2 ⟨x,hin,rfl⟩)]
 ·have hno:¬keyT T x∈keys T:=by
   intro hm
   obtain ⟨y,hy,e⟩:=List.mem_map.1 hm
   obtain ⟨i,hi⟩:=List.mem_iff_getElem?.1 hy
   have:=keyT_inj (hc i y hi).1 hx (fun p hp'=>hc.part hy hp') hp e
   exact hin (this ▸ hy)
  rw [putN_new hin,putK_new hno]
  have hpre:T <+: T++[x]:=List.prefix_append _ _
  have h1:=keys_pre hpre hc
  have h2:=keyT_pre hpre hp
  show List.map _ _=_
  rw [List.map_append,h1,List.map_cons,List.map_nil,h2]
theorem keys_take {T:List Nd} (hc:Cl T) (n:Nat):keys (T.take n)=(keys T).take n:=by
 have h1:=keys_pre (List.take_prefix n T) (hc.take n)
 unfold keys at *
 rw [<- List.map_take,h1]
theorem key_place {T:List Nd} {x:Nd} (hc:Cl T) (hx:TmOk x) (hp:∀ p∈parts x,p∈T) (hnd:(keys (putN T x)).Nodup) {i:Nat} (h:(putK (keys T) (keyT T x))[i]?=some (keyT T x)):i=idx (putN T x) x:=by
 rw [<- keys_put hc hx hp] at h
 have hm:x∈putN T x:=mem_putN.2 (.inr rfl)
 have h1:(keys (putN T x))[idx (putN T x) x]?=some (keyT T x):=by
  unfold keys
  rw [List.getElem?_map,idx_get hm]
  simp only [Option.map_some,Option.some.injEq]
  exact keyT_pre putN_pre hp
 obtain ⟨hi,e1⟩:=List.getElem?_eq_some_iff.1 h
 obtain ⟨hj,e2⟩:=List.getElem?_eq_some_iff.1 h1
 have hpw:=List.pairwise_iff_getElem.1 hnd
 rcases Nat.lt_trichotomy i (idx (putN T x) x) with hlt | heq | hgt
 ·exact absurd (e1.trans e2.symm) (hpw _ _ hi hj hlt)
 ·exact heq
 ·exact absurd (e2.trans e1.symm) (hpw _ _ hj hi hgt)
structure TS (w:World) (sb:Nat) (nv:Value) (xs:PX) (T:List Nd):Prop where
 blk:w.heap[sb]?=some (.cells #[nv,xs.ts,xs.tm,xs.at_,xs.am,xs.fs,xs.ks,xs.vd,xs.ml] 98)
 row:TRow w xs.ts xs.tm (keys T)
 cl:Cl T
 nd:T.Nodup
 s1:∀ k,xs.ts.ownBlock=some k->¬k=sb
 s2:∀ k,mapB xs.tm=some k->¬k=sb
def TF (sb:Nat) (xs:PX) (k:Nat):Prop:=k=sb\/xs.ts.ownBlock=some k\/mapB xs.tm=some k
theorem TS.ext {S:Nat->Prop} {w w':World} {sb:Nat} {nv:Value} {xs:PX} {T:List Nd} (h:TS w sb nv xs T) (hx:Ext S w w') (hS:∀ k,TF sb xs k->¬S k):TS w' sb nv xs T :=
 ⟨(hx.block sb (blt h.blk) (hS sb (.inl rfl))).trans h.blk,h.row.ext hx (fun g hg=>hS g (.inr (.inl hg))) (fun g hg=>hS g (.inr (.inr hg))),h.cl,h.nd,h.s1,h.s2⟩
theorem TS.lt {w:World} {sb:Nat} {nv:Value} {xs:PX} {T:List Nd} (h:TS w sb nv xs T):∀ k,TF sb xs k->k < w.heap.size:=by
 rintro k (rfl | e | e)
 ·exact blt h.blk
 ·exact (h.row.own.lt k e).2
 ·rcases h.row.map with ⟨e2,_⟩ | ⟨mb,D,e2,ho,_⟩
  ·rw [e2] at e;exact absurd e (by simp [mapB])
  ·rw [e2] at e
   simp [mapB] at e
   subst e
   exact ho.lt
def TPost (w:World) (sb:Nat) (nv:Value) (xs:PX) (T':List Nd) (i:Nat) (e:Ending) (w':World):Prop :=
 e=.returned (.int .i64 i)/\∃ ts' tm',TS w' sb nv { xs with ts:=ts',tm:=tm' } T'/\Ext (TF sb xs) w w'/\(∀ k,TF sb { xs with ts:=ts',tm:=tm' } k->TF sb xs k\/w.heap.size<=k)
theorem num_tree {w:World} {sb:Nat} {nv:Value} {xs:PX} {T:List Nd} {x:Nd} (h:TS w sb nv xs T) (hx:TmOk x) (hp:∀ p∈parts x,p∈T) (hl:T.length<=10000000) :
  Calls Tryz.prog 188 #[.pointer (some ⟨sb,1,none⟩),(keyT T x).val] w (TPost w sb nv xs (putN T x) (idx (putN T x) x)):=by
 refine (num_tm_any (keyT T x) h.blk h.row (keyT_ok hx hp hl) h.s1 h.s2 (by rw [keys_len];exact hl)).mono ?_
 rintro e w' ⟨i,tv',mv',rfl,hi,hb,hr,hE,h1,h2⟩
 rw [<- keys_put h.cl hx hp] at hr
 have hpl:=key_place h.cl hx hp hr.nd hi
 subst hpl
 have hsb:=blt h.blk
 refine ⟨rfl,tv',mv',⟨hb,hr,h.cl.put hx hp,putN_nodup h.nd,fun k hk e=>?_,fun k hk e=>?_⟩,hE,?_⟩
 ·rcases h1 k hk with h' | h'
  ·exact h.s1 k h' e
  ·omega
 ·rcases h2 k hk with h' | h'
  ·exact h.s2 k h' e
  ·omega
 ·rintro k (e | e | e)
  ·exact .inl (.inl e)
  ·exact (h1 k e).imp (fun h=>.inr (.inl h)) id
  ·exact (h2 k e).imp (fun h=>.inr (.inr h)) id
theorem PN.within {w:World} {D:Nat->Prop} {cs:List Value} {nd:Nd} (h:PN w D cs nd):PN w (fun k=>D k/\k < w.heap.size) cs nd:=by
 induction h with
 | mk how hl hn hD _ ih=>exact PN.mk how hl hn (fun g hg=>⟨hD g hg,(how.lt g hg).2⟩) ih
theorem flat4:∀ {kids:List (List Value)},(∀ cs∈kids,cs.length=4)->∀ {i:Nat} {cs:List Value},kids[i]?=some cs->∀ q,q < 4->kids.flatten[i * 4+q]?=cs[q]?
 | [],_,i,cs,h,_,_=>absurd h (by simp)
 | k :: ks,hl,0,cs,h,q,hq=>by
  simp at h
  subst h
  have:=hl k (by simp)
  rw [List.flatten_cons,List.getElem?_append_left (by omega)]
  congr 1
  omega
 | k :: ks,hl,i+1,cs,h,q,hq=>by
  have h4:=hl k (by simp)
  rw [List.flatten_cons,List.getElem?_append_right (by omega),h4,show (i+1) * 4+q - 4=i * 4+q by omega]
  exact flat4 (fun c hc=>hl c (List.mem_cons_of_mem _ hc)) (by simpa using h) q hq
theorem pkid_at {w:World} {D:Nat->Prop} {pv:Value} {kids:List (List Value)} {ps:List Nd} (how:w.ownsRow 0 115 4 pv ps.length kids.flatten) (hl:∀ cs∈kids,cs.length=4) (hn:kids.length=ps.length) (hD:∀ g,pv.ownBlock=some g->D g)
  (hk:∀ (i:Nat) (cs:List Value) (p:Nd),kids[i]?=some cs->ps[i]?=some p->PN w D cs p) :
  ∃ a cap,pv=.slice a ps.length cap/\ps.length<=cap/\cap<=9223372036854775807/\∀ i p,ps[i]?=some p->∃ g k' wd' v' pa' pn' pc',a=some ⟨g,0,none⟩/\g < w.heap.size/\D g/\w.cell? ⟨g,i * 4,none⟩=some (.int .i64 k')/\w.cell? ⟨g,i * 4+1,none⟩=some (.string wd')/\w.cell? ⟨g,i * 4+2,none⟩=some (.int .i64 v')/\w.cell? ⟨g,i * 4+3,none⟩=some (.slice pa' pn' pc')/\PN w D [.int .i64 k',.string wd',.int .i64 v',.slice pa' pn' pc'] p:=by
 rcases how.2 with ⟨e,e0⟩ | ⟨g,cap,cur,hv,hg,hh,h1,h2,hr⟩
 ·refine ⟨none,0,by rw [e,e0],by omega,by omega,fun i p hp=>?_⟩
  have:=(List.getElem?_eq_some_iff.1 hp).1
  omega
 ·refine ⟨some ⟨g,0,none⟩,cap,hv,h1,by unfold maxLen at h2;exact h2,fun i p hp=>?_⟩
  have hi:=(List.getElem?_eq_some_iff.1 hp).1
  obtain ⟨cs,hc⟩:∃ cs,kids[i]?=some cs:=⟨_,List.getElem?_eq_getElem (by omega)⟩
  have hpn:=hk i cs p hc hp
  have hpn2:=hpn
  cases hpn with
  | @mk k' v' wd' ps' pv' kids' how' hl' hn' hD' hk' =>
   obtain ⟨pa',pc',rfl⟩:=row_shape how'
   have hcell:∀ q,q < 4->w.cell? ⟨g,i * 4+q,none⟩=[Value.int .i64 k',.string wd',.int .i64 v',.slice pa' ps'.length pc'][q]?:=by
    intro q hq
    have h3:=how
    rw [hv] at h3
    rw [h3.cellAt _ (by omega)]
    exact flat4 hl hc q hq
   exact ⟨g,k',wd',v',pa',ps'.length,pc',rfl,blt hh,hD g (by rw [hv];rfl),hcell 0 (by decide),hcell 1 (by decide),hcell 2 (by decide),hcell 3 (by decide),hpn2⟩
noncomputable def tcs (w:ByteArray) (T ps:List Nd) (j:Nat):Array Value:=#[.string w,.int .i64 ps.length,.int .i64 (if 0 < j then ix T ps 0 else 0),.int .i64 (if 1 < j then ix T ps 1 else 0),.int .i64 (if 2 < j then ix T ps 2 else 0),.int .i64 0]
theorem tcs_set {w:ByteArray} {T ps:List Nd} {j:Nat} (hj:j < 3):(tcs w T ps j).setIfInBounds (2+j) (.int .i64 (ix T ps j))=tcs w T ps (j+1):=by
 match j,hj with
 | 0,_=>rfl
 | 1,_=>rfl
 | 2,_=>rfl
theorem tcs_zero (w:ByteArray) (T ps:List Nd):tcs w T ps 0=#[.string w,.int .i64 ps.length,.int .i64 0,.int .i64 0,.int .i64 0,.int .i64 0]:=rfl
theorem tcs_full {w:ByteArray} {T ps:List Nd}:tcs w T ps ps.length=#[.string w,.int .i64 ps.length,.int .i64 (ix T ps 0),.int .i64 (ix T ps 1),.int .i64 (ix T ps 2),.int .i64 0]:=by
 have h:∀ q,(if q < ps.length then ix T ps q else 0)=ix T ps q:=by
  intro q
  split
  ·rfl
  ·unfold ix
   rw [List.getElem?_eq_none (by omega)]
 unfold tcs
 rw [h 0,h 1,h 2]
theorem tcs_cell {w:ByteArray} {T ps:List Nd} {j q:Nat} (hq:q < 6):∃ u,(tcs w T ps j)[q]?=some u:=⟨_,Array.getElem?_eq_getElem (by simpa [tcs] using hq)⟩
structure TW2 (w:World) (sb nb tb:Nat) (nv:Value) (xs:PX) (T:List Nd) (k v:Int) (word:ByteArray) (pv:Value) (ps:List Nd) (j:Nat) (wr:World):Prop where
 ext:Ext (TF sb xs) w wr
 nbk:wr.heap[nb]?=some (.cells #[.int .i64 k,.string word,.int .i64 v,pv] 115)
 tbk:wr.heap[tb]?=some (.cells (tcs word (addTs T ps) ps j) 145)
 ts:∃ ts' tm',TS wr sb nv { xs with ts:=ts',tm:=tm' } (addTs T (ps.take j))/\(∀ q,TF sb { xs with ts:=ts',tm:=tm' } q->TF sb xs q\/w.heap.size+2<=q)
theorem key_num (T:List Nd) (v:Int):(keyT T (.mk 4 ByteArray.empty v [])).val=.agg #[.string ⟨#[]⟩,.int .i64 0,.int .i64 0,.int .i64 0,.int .i64 0,.int .i64 v]:=by
 rw [keyT,if_pos rfl]
 rfl
theorem key_app (T:List Nd) (w:ByteArray) (v:Int) (ps:List Nd):(keyT T (.mk 3 w v ps)).val=.agg #[.string w,.int .i64 ps.length,.int .i64 (ix T ps 0),.int .i64 (ix T ps 1),.int .i64 (ix T ps 2),.int .i64 0]:=by
 rw [keyT,if_neg (by decide)]
 rfl
theorem TPost.of_ext {w W:World} {sb:Nat} {nv:Value} {xs:PX} {T':List Nd} {i:Nat} {e:Ending} {w':World} (hx:Ext (fun _=>False) w W) (h:TPost W sb nv xs T' i e w'):TPost w sb nv xs T' i e w':=by
 obtain ⟨h1,ts',tm',h2,h3,h4⟩:=h
 exact ⟨h1,ts',tm',h2,(hx.mono (fun _ _ f=>f.elim)).trans h3,fun k hk=>(h4 k hk).imp id (fun e=>Nat.le_trans hx.size e)⟩
set_option maxRecDepth 100000 in
set_option maxHeartbeats 1000000 in
theorem term_num {w:World} {sb:Nat} {nv:Value} {xs:PX} {T:List Nd} {v:Int} {wd:ByteArray} {pa:Option Addr} {pn pc:Nat} (h:TS w sb nv xs T) (h1 : -1000<=v) (h2:v<=1000) (hl:T.length<=10000000) :
  Calls Tryz.prog 148 #[.pointer (some ⟨sb,1,none⟩),.agg #[.int .i64 4,.string wd,.int .i64 v,.slice pa pn pc]] w (TPost w sb nv xs (addT T (.mk 4 ByteArray.empty v [])) (idx (addT T (.mk 4 ByteArray.empty v [])) (.mk 4 ByteArray.empty v []))):=by
 have H:=hide h
 have hsb:=blt h.blk
 have HX0:Hid (Ext (fun _=>False) w (w.alloc (.cells #[.int .i64 4,.string wd,.int .i64 v,.slice pa pn pc] 115)).drew):=((Ext.refl _ w).alloc _).drew
 clear h
 go_enter Tryz.func148,Tryz.ntmps148
 go_wp2_with fail
 have hc:=num_tree (H.out.ext HX0.out (fun _ _ f=>f)) (.num h1 h2) (fun p hp=>absurd hp (by simp [parts])) hl
 rw [key_num] at hc
 have HC:=hide hc
 clear hc
 go_region_law (go_simp;go_wp2_with (go_at_call 188;refine HC.out.mono ?_;rintro e w' hp;have hp2:=hp.of_ext HX0.out;obtain ⟨rfl,hp3⟩:=hp2;have HP:=hide hp3;clear hp hp3))
 all_goals
  go_wp2_with fail
  go_ret
  exact ⟨rfl,HP.out⟩
structure CK where
 nm:ByteArray
 ar:Int
 a0:Int
 a1:Int
 a2:Int
def CK.cells (k:CK):List Value:=[.string k.nm,.int .i64 k.ar,.int .i64 k.a0,.int .i64 k.a1,.int .i64 k.a2]
def CK.val (k:CK):Value:=.agg #[.string k.nm,.int .i64 k.ar,.int .i64 k.a0,.int .i64 k.a1,.int .i64 k.a2]
structure CK.Ok (k:CK):Prop where
 nm:k.nm.size<=1000
 ar:Sm k.ar
 a0:Sm k.a0
 a1:Sm k.a1
 a2:Sm k.a2
theorem cCall:Tryz.prog.cellsOf 147=5:=by kernel_rfl
theorem lits_ck (d:Nat) {k:CK} (h:k.Ok):∃ ls,Tryz.prog.keyLits (d+3) 147 k.cells=some ls:=by
 unfold Program.keyLits
 simp [CK.cells,Tryz.underlying147,cCall,cFn,cA3,lits_fn d h.nm h.ar,lits_a3 d h.a0 h.a1 h.a2]
theorem key_ck {k:CK} (h:k.Ok):∃ l,keyOf Tryz.prog 147 k.val=some l:=by
 obtain ⟨d,hd⟩:=types_size
 obtain ⟨ls,hl⟩:=lits_ck d h
 refine ⟨.string (keyBytes ls),?_⟩
 have hc:k.val.cells.toList=k.cells:=rfl
 have hkt:Tryz.prog.keyType 147=true:=by kernel_rfl
 have hf:k.val.formed Tryz.prog 147=true:=by simp [CK.val,Value.formed,Tryz.underlying147,cCall]
 unfold keyOf
 rw [Tryz.underlying147]
 simp only [hkt,hf,Bool.and_self,if_true,hc,hd,hl,Option.map_some]
theorem kdCall:Keyed Tryz.prog 147:=Keyed.of_law (deep_law_laid (by kernel_rfl) (m:=4) (by omega) (of_decide_eq_true (by kernel_rfl)) (by kernel_rfl) (by kernel_rfl))
noncomputable def klC (k:CK):Lit:=(keyOf Tryz.prog 147 k.val).getD (.bool false)
theorem klC_eq {k:CK} (h:k.Ok):keyOf Tryz.prog 147 k.val=some (klC k):=by
 obtain ⟨l,hl⟩:=key_ck h
 rw [klC,hl];rfl
theorem klC_inj {x y:CK} (hx:x.Ok) (hy:y.Ok) (h:klC x=klC y):x=y:=by
 have h2:=klC_eq hy
 rw [<- h] at h2
 have e:=kdCall.inj (klC_eq hx) h2
 cases x;cases y
 simp [CK.val] at e
 simp [e]
def ckTo (x:TKey) (u:Nat->Int) (j:Nat):CK:=⟨x.nm,x.ar,if 0 < j then u x.a0.toNat else 0,if 1 < j then u x.a1.toNat else 0,if 2 < j then u x.a2.toNat else 0⟩
def ckOf (x:TKey) (u:Nat->Int):CK:=ckTo x u x.ar.toNat
structure MdF (TK:List TKey) (u:Nat->Int) (j:Nat) (D:DataW Unit):Prop where
 yes:∀ (i:Nat) (x:TKey),i < j->TK[i]?=some x->¬x.nm=⟨#[]⟩->(∀ z,D.atKey (klC (ckOf x u)) z=.lit (.int .i64 (u i)))/\Maps.has D (klC (ckOf x u))=true
 no:∀ k:CK,k.Ok->(∀ (i:Nat) (x:TKey),i < j->TK[i]?=some x->¬x.nm=⟨#[]⟩->¬ckOf x u=k)->Maps.has D (klC k)=false
structure MdOk (TK:List TKey) (u:Nat->Int):Prop where
 ok:∀ x∈TK,(ckOf x u).Ok
 same:∀ (i j:Nat) (x y:TKey),TK[i]?=some x->TK[j]?=some y->¬x.nm=⟨#[]⟩->¬y.nm=⟨#[]⟩->ckOf x u=ckOf y u->u i=u j
 ar:∀ x∈TK,0<=x.ar/\x.ar<=3
 a0:∀ x∈TK,0 < x.ar->0<=x.a0/\x.a0 < TK.length
 a1:∀ x∈TK,1 < x.ar->0<=x.a1/\x.a1 < TK.length
 a2:∀ x∈TK,2 < x.ar->0<=x.a2/\x.a2 < TK.length
 sm:∀ i,i < TK.length->Sm (u i)
section
variable {TK:List TKey} {u:Nat->Int}
theorem mdf_nil:MdF TK u 0 (.map []):=⟨fun i _ h=>absurd h (Nat.not_lt_zero i),fun _ _ _=>rfl⟩
theorem MdF.skip {j:Nat} {x:TKey} {D:DataW Unit} (h:MdF TK u j D) (hx:TK[j]?=some x) (hn:x.nm=⟨#[]⟩):MdF TK u (j+1) D:=by
 refine ⟨fun i y hi hy hyn=>?_,fun k hk hno=>h.no k hk (fun i y hi=>hno i y (by omega))⟩
 by_cases e:i=j
 ·subst e
  rw [hx] at hy
  obtain rfl:x=y:=by simpa using hy
  exact absurd hn hyn
 ·exact h.yes i y (by omega) hy hyn
set_option maxRecDepth 100000 in
theorem MdF.put {j:Nat} {x:TKey} {D:DataW Unit} (h:MdF TK u j D) (hD:Maps.Tidy D) (ho:MdOk TK u) (hx:TK[j]?=some x) (hn:¬x.nm=⟨#[]⟩) (hk:WideAt.IsKeyLit (klC (ckOf x u))):MdF TK u (j+1) (D.put (klC (ckOf x u)) (.lit (.int .i64 (u j)))):=by
 have hxo:=ho.ok x (List.mem_of_getElem? hx)
 refine ⟨fun i y hi hy hyn=>?_,fun k hk' hno=>?_⟩
 ·by_cases e:ckOf y u=ckOf x u
  ·have hu:=ho.same i j y x hy hx hyn hn e
   rw [e,hu]
   generalize klC (ckOf x u)=q at hk ⊢
   exact ⟨fun z=>atKey_put_same hD.isMap hk _ z,has_put_same hD.isMap hk _⟩
  ·have hij:¬i=j:=by
    intro e2
    subst e2
    rw [hx] at hy
    obtain rfl:x=y:=by simpa using hy
    exact e rfl
   have hne:klC (ckOf y u) ≠ klC (ckOf x u):=fun e2=>e (klC_inj (ho.ok y (List.mem_of_getElem? hy)) hxo e2)
   obtain ⟨h1,h2⟩:=h.yes i y (by omega) hy hyn
   generalize klC (ckOf y u)=p at h1 h2 hne ⊢
   generalize klC (ckOf x u)=q at hne ⊢
   exact ⟨fun z=>by rw [atKey_put_other hne];exact h1 z,by rw [has_put_other hne];exact h2⟩
 ·have hne:klC k ≠ klC (ckOf x u):=fun e2=>hno j x (by omega) hx hn (klC_inj hk' hxo e2).symm
  have h3:=h.no k hk' (fun i y hi=>hno i y (by omega))
  generalize klC k=p at hne h3 ⊢
  generalize klC (ckOf x u)=q at hne ⊢
  rw [has_put_other hne]
  exact h3
end
end Go.Proofs.YtegbdaffhpiacaaGreatDoor
