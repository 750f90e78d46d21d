/- Plain: what both sides of a stack of frames have in common; Plain: an atom's terms stand where it stands. -/
import Derived.Test.YtegbdaffhpiacaaGreatDoorChn22
import Derived.Test.YtegbdaffhpiacaaGreatDoorChn15
import Derived.BigQuiet
namespace Go.Proofs.YtegbdaffhpiacaaGreatDoor
open Ar
structure Once (t:Bool) (T:List Nd) (L:List (Nd × Int)):Prop where
 nd:T.Nodup
 mem:∀ x,x∈T↔∃ p∈L,x∈subs t p.1
structure Fit (N:List Nm) (L:List (Nd × Int)) (T A:List Nd) (F:Int) (k:Fr4):Prop where
 n:k.n<=N.length
 f:k.f<=L.length
 t:k.t<=T.length
 a:k.a<=A.length
 ns:N.take k.n=N.filter (fun x=>decide (x.fr < F))
 fs:L.take k.f=L.filter (fun x=>decide (x.2 < F))
 ts:Once true (T.take k.t) (L.take k.f)
 aw:Once false (A.take k.a) (L.take k.f)
def Fr4.le (j k:Fr4):Prop:=j.n<=k.n/\j.t<=k.t/\j.a<=k.a/\j.f<=k.f
structure Stk (N:List Nm) (L:List (Nd × Int)) (T A:List Nd) (K:List Fr4):Prop where
 ts:Once true T L
 aw:Once false A L
 ok:∀ p∈L,FmOk p.1
 nfr:∀ x∈N,x.fr<=K.length
 lfr:∀ p∈L,p.2<=K.length
 fit:∀ (j:Nat) (k:Fr4),K[j]?=some k->Fit N L T A ((j:Int)+1) k
 up:K.Pairwise Fr4.le
theorem Once.nil (t:Bool):Once t [] []:=⟨List.nodup_nil,fun x=>by simp⟩
theorem stk_new:Stk [] [] [] [] []:=⟨Once.nil _,Once.nil _,by simp,by simp,by simp,by simp,List.Pairwise.nil⟩
theorem filter_snoc_no {α:Type} {p : α->Bool} {l:List α} {x : α} (h:p x=false):(l++[x]).filter p=l.filter p:=by simp [h]
theorem take_snoc {α:Type} {l m:List α} {n:Nat} (h:n<=l.length):(l++m).take n=l.take n:=by
 rw [List.take_append_of_le_length h]
theorem lt_get {α:Type} {l:List α} {i:Nat} {x : α} (h:l[i]?=some x):i < l.length:=(List.getElem?_eq_some_iff.1 h).1
theorem Stk.name {N:List Nm} {L:List (Nd × Int)} {T A:List Nd} {K:List Fr4} (h:Stk N L T A K) (s:ByteArray) (a:Int):Stk (N++[⟨s,a,K.length⟩]) L T A K where
 ts:=h.ts
 aw:=h.aw
 ok:=h.ok
 nfr:=by
  intro x hx
  rcases List.mem_append.1 hx with hx | hx
  ·exact h.nfr x hx
  ·simp at hx;subst hx;exact Int.le_refl _
 lfr:=h.lfr
 fit:=by
  intro j k hk
  have hf:=h.fit j k hk
  have hj:=lt_get hk
  exact ⟨by have:=hf.n;simp;omega,hf.f,hf.t,hf.a,by rw [take_snoc hf.n,filter_snoc_no (by simp;omega)];exact hf.ns,hf.fs,hf.ts,hf.aw⟩
 up:=h.up
theorem Stk.decl {N:List Nm} {L:List (Nd × Int)} {T A:List Nd} {K:List Fr4} (h:Stk N L T A K) (s:ByteArray) (a:Int):Stk (declNames N K.length s a) L T A K:=by
 unfold declNames
 by_cases e:declCode N s.toList a=0
 ·rw [if_pos e];exact h.name s a
 ·rw [if_neg e];exact h
theorem filter_all {α:Type} {p : α->Bool} {l:List α} (h:∀ x∈l,p x=true):l.filter p=l:=List.filter_eq_self.2 h
theorem Stk.push {N:List Nm} {L:List (Nd × Int)} {T A:List Nd} {K:List Fr4} (h:Stk N L T A K):Stk N L T A (K++[⟨N.length,T.length,A.length,L.length⟩]) where
 ts:=h.ts
 aw:=h.aw
 ok:=h.ok
 nfr:=fun x hx=>by have:=h.nfr x hx;simp;omega
 lfr:=fun x hx=>by have:=h.lfr x hx;simp;omega
 fit:=by
  intro j k hk
  by_cases hj:j < K.length
  ·rw [List.getElem?_append_left hj] at hk
   exact h.fit j k hk
  ·have hl:=lt_get hk
   simp at hl
   have e:j=K.length:=by omega
   subst e
   simp at hk
   subst hk
   refine ⟨Nat.le_refl _,Nat.le_refl _,Nat.le_refl _,Nat.le_refl _,?_,?_,?_,?_⟩
   ·rw [List.take_length,filter_all (fun x hx=>by have:=h.nfr x hx;simp;omega)]
   ·rw [List.take_length,filter_all (fun x hx=>by have:=h.lfr x hx;simp;omega)]
   ·simp only [List.take_length];exact h.ts
   ·simp only [List.take_length];exact h.aw
 up:=by
  rw [List.pairwise_append]
  refine ⟨h.up,List.pairwise_singleton _ _,fun a ha b hb=>?_⟩
  simp at hb
  subst hb
  obtain ⟨j,hj,e⟩:=List.getElem_of_mem ha
  have hf:=h.fit j a (by rw [<- e];exact List.getElem?_eq_getElem hj)
  exact ⟨hf.n,hf.t,hf.a,hf.f⟩
theorem Stk.pop {N:List Nm} {L:List (Nd × Int)} {T A:List Nd} {K:List Fr4} {k:Fr4} (h:Stk N L T A (K++[k])):Stk (N.take k.n) (L.take k.f) (T.take k.t) (A.take k.a) K/\N.take k.n=N.filter (fun x=>decide (x.fr < (K.length:Int)+1))/\L.take k.f=L.filter (fun x=>decide (x.2 < (K.length:Int)+1)):=by
 have hl:=h.fit K.length k (by simp)
 refine ⟨⟨hl.ts,hl.aw,fun p hp=>h.ok p (List.mem_of_mem_take hp),fun x hx=>?_,fun x hx=>?_,fun j q hq=>?_,(List.pairwise_append.1 h.up).1⟩,hl.ns,hl.fs⟩
 ·rw [hl.ns,List.mem_filter] at hx
  have:=hx.2
  simp at this
  omega
 ·rw [hl.fs,List.mem_filter] at hx
  have:=hx.2
  simp at this
  omega
 ·have hj:=lt_get hq
  have hf:=h.fit j q (by rw [List.getElem?_append_left hj];exact hq)
  have hle:Fr4.le q k:=(List.pairwise_append.1 h.up).2.2 q (List.mem_of_getElem? hq) k (by simp)
  obtain ⟨l1,l2,l3,l4⟩:=hle
  have en:(N.take k.n).take q.n=N.take q.n:=by rw [List.take_take,Nat.min_eq_left l1]
  have ef:(L.take k.f).take q.f=L.take q.f:=by rw [List.take_take,Nat.min_eq_left l4]
  have et:(T.take k.t).take q.t=T.take q.t:=by rw [List.take_take,Nat.min_eq_left l2]
  have ea:(A.take k.a).take q.a=A.take q.a:=by rw [List.take_take,Nat.min_eq_left l3]
  refine ⟨?_,?_,?_,?_,?_,?_,?_,?_⟩
  ·rw [List.length_take];have:=hl.n;omega
  ·rw [List.length_take];have:=hl.f;omega
  ·rw [List.length_take];have:=hl.t;omega
  ·rw [List.length_take];have:=hl.a;omega
  ·rw [en,hf.ns,hl.ns,List.filter_filter]
   refine List.filter_congr (fun x _=>?_)
   by_cases hx:x.fr < (j:Int)+1
   ·have:x.fr < (K.length:Int)+1:=by omega
    simp [hx,this]
   ·simp [hx]
  ·rw [ef,hf.fs,hl.fs,List.filter_filter]
   refine List.filter_congr (fun x _=>?_)
   by_cases hx:x.2 < (j:Int)+1
   ·have:x.2 < (K.length:Int)+1:=by omega
    simp [hx,this]
   ·simp [hx]
  ·rw [et,ef];exact hf.ts
  ·rw [ea,ef];exact hf.aw
theorem Once.snoc {t:Bool} {T T':List Nd} {L:List (Nd × Int)} {nd:Nd} {F:Int} (h:Once t T L) (hn:T'.Nodup) (ha:AddsP T T' (subs t nd)):Once t T' (L++[(nd,F)]):=by
 refine ⟨hn,fun x=>?_⟩
 rw [ha.mem,h.mem]
 constructor
 ·rintro (⟨p,hp,hx⟩ | hx)
  ·exact ⟨p,by simp [hp],hx⟩
  ·exact ⟨(nd,F),by simp,hx⟩
 ·rintro ⟨p,hp,hx⟩
  rcases List.mem_append.1 hp with hp | hp
  ·exact .inl ⟨p,hp,hx⟩
  ·simp at hp;subst hp;exact .inr hx
theorem take_pre {α:Type} {l m:List α} {n:Nat} (h:l <+: m) (hn:n<=l.length):m.take n=l.take n:=by
 obtain ⟨r,rfl⟩:=h
 exact take_snoc hn
theorem Stk.take {N:List Nm} {L:List (Nd × Int)} {T A T' A':List Nd} {K:List Fr4} {nd:Nd} (h:Stk N L T A K) (hok:FmOk nd) (hT:AddsP T T' (subs true nd)) (hA:AddsP A A' (subs false nd)) (hTn:T'.Nodup) (hAn:A'.Nodup):Stk N (L++[(nd,(K.length:Int))]) T' A' K where
 ts:=h.ts.snoc hTn hT
 aw:=h.aw.snoc hAn hA
 ok:=by
  intro p hp
  rcases List.mem_append.1 hp with hp | hp
  ·exact h.ok p hp
  ·simp at hp;subst hp;exact hok
 nfr:=h.nfr
 lfr:=by
  intro p hp
  rcases List.mem_append.1 hp with hp | hp
  ·exact h.lfr p hp
  ·simp at hp;subst hp;exact Int.le_refl _
 fit:=by
  intro j k hk
  have hf:=h.fit j k hk
  have hj:=lt_get hk
  have e1:(L++[(nd,(K.length:Int))]).take k.f=L.take k.f:=take_snoc hf.f
  refine ⟨hf.n,by have:=hf.f;simp;omega,Nat.le_trans hf.t hT.pre.length_le,Nat.le_trans hf.a hA.pre.length_le,hf.ns,?_,?_,?_⟩
  ·rw [e1,filter_snoc_no (by simp;omega)];exact hf.fs
  ·rw [e1,take_pre hT.pre hf.t];exact hf.ts
  ·rw [e1,take_pre hA.pre hf.a];exact hf.aw
 up:=h.up
theorem once_count {t:Bool} {T T':List Nd} {L:List (Nd × Int)} {nd:Nd} (h:Once t T L) (hok:∀ p∈L,FmOk p.1) (hnd:FmOk nd) (hn:T'.Nodup) (ha:AddsP T T' (subs t nd)):cnt t (L.map Prod.fst) nd=T'.length:=by
 unfold cnt
 have hm:∀ x,x∈T'↔x∈subsAll t (L.map Prod.fst++[nd]):=by
  intro x
  rw [(h.snoc (F:=0) hn ha).mem,mem_subsAll]
  constructor
  ·rintro ⟨p,hp,hx⟩
   rcases List.mem_append.1 hp with hp | hp
   ·exact ⟨p.1,by simp;exact .inl ⟨p.2,hp⟩,hx⟩
   ·simp at hp;subst hp;exact ⟨nd,by simp,hx⟩
  ·rintro ⟨q,hq,hx⟩
   rcases List.mem_append.1 hq with hq | hq
   ·obtain ⟨p,hp,rfl⟩:=List.mem_map.1 hq
    exact ⟨p,by simp [hp],hx⟩
   ·simp at hq;subst hq;exact ⟨(q,0),by simp,hx⟩
 have hall:∀ q∈L.map Prod.fst++[nd],FmOk q:=by
  intro q hq
  rcases List.mem_append.1 hq with hq | hq
  ·obtain ⟨p,hp,rfl⟩:=List.mem_map.1 hq
   exact hok p hp
  ·simp at hq;subst hq;exact hnd
 refine count_eq hn hm (fun x hx y hy e=>?_)
 obtain ⟨p,hp,hx⟩:=mem_subsAll.1 hx
 obtain ⟨q,hq,hy⟩:=mem_subsAll.1 hy
 have fp:=form_subs (hall p hp)
 have fq:=form_subs (hall q hq)
 cases t with
 | true=>exact term_form (fp.1 x hx) (fq.1 y hy) e
 | false=>exact atom_form (fp.2 x hx) (fq.2 y hy) e
theorem atom_ends {f:Nd} (h:FmOk f):∀ x∈subs false f,∀ p∈ends x,p∈subs true f:=by
 induction h with
 | truth _=>intro x hx;simp [subs,subsAll,isIt] at hx
 | con _ hp ih =>
  intro x hx p hpx
  simp only [subs] at hx ⊢
  rw [if_neg (by simp [isIt])] at hx
  rw [if_neg (by simp [isIt])]
  obtain ⟨q,hq,hx⟩:=mem_subsAll.1 (by simpa using hx)
  simpa using mem_subsAll.2 ⟨q,hq,ih q hq x hx p hpx⟩
 | two hw ha hb =>
  intro x hx p hpx
  simp [subs,subsAll,isIt,term_atoms ha,term_atoms hb] at hx
  subst hx
  simp [ends,parts] at hpx
  simp [subs,subsAll,isIt]
  rcases hpx with rfl | rfl
  ·exact .inl (term_self ha)
  ·exact .inr (term_self hb)
 | le hw ha hb h1 h2 =>
  intro x hx p hpx
  simp [subs,subsAll,isIt,term_atoms ha,term_atoms hb] at hx
  subst hx
  simp [ends,parts] at hpx
  simp [subs,subsAll,isIt]
  rcases hpx with rfl | rfl
  ·exact .inl (term_self ha)
  ·exact .inr (term_self hb)
theorem once_ac {T A:List Nd} {L:List (Nd × Int)} (hT:Once true T L) (hA:Once false A L) (hok:∀ p∈L,FmOk p.1):AC T A:=by
 intro x hx
 obtain ⟨q,hq,hs⟩:=(hA.mem x).1 hx
 exact ⟨(form_subs (hok q hq)).2 x hs,fun p hp=>(hT.mem p).2 ⟨q,hq,atom_ends (hok q hq) x hs p hp⟩⟩
theorem Stk.ac {N:List Nm} {L:List (Nd × Int)} {T A:List Nd} {K:List Fr4} {k:Fr4} (h:Stk N L T A (K++[k])):AC (T.take k.t) (A.take k.a):=by
 have hl:=h.fit K.length k (by simp)
 exact once_ac hl.ts hl.aw (fun p hp=>h.ok p (List.mem_of_mem_take hp))
theorem asOut_code {N:List Nm} {L:List (Nd × Int)} {T A T' A':List Nd} {K:List Fr4} {s:ByteArray} {nd:Nd} {us:List Tk} (h:Stk N L T A K) (hs:s.size<=600) (hr:rdWhole N s.toList=.ok nd us) (hok:FmOk nd) (hf:L.length < 20) (hT:AddsP T T' (subs true nd)) (hA:AddsP A A' (subs false nd)) (hTn:T'.Nodup) (hAn:A'.Nodup) :
  asOut N (L.map Prod.fst) s=(0,tkCode T'.length A'.length,if tkCode T'.length A'.length=0 then some nd else none):=by
 unfold asOut
 rw [if_neg (by omega),hr]
 simp only
 rw [if_neg (by simp;omega),once_count h.ts h.ok hok hTn hT,once_count h.aw h.ok hok hAn hA]
 unfold tkCode
 by_cases h1:12 < T'.length
 ·simp [h1]
 ·by_cases h2:16 < A'.length
  ·simp [h1,h2]
  ·simp [h1,h2]
theorem asOut_long {N:List Nm} {Q:List Nd} {s:ByteArray} (hs:600 < s.size):asOut N Q s=(0,1,none):=by
 unfold asOut
 rw [if_pos hs]
theorem asOut_no {N:List Nm} {Q:List Nd} {s:ByteArray} {e:Int} {p:Nat} (hs:s.size<=600) (hr:rdWhole N s.toList=.no e p):asOut N Q s=((p:Int),e,none):=by
 unfold asOut
 rw [if_neg (by omega),hr]
theorem asOut_full {N:List Nm} {Q:List Nd} {s:ByteArray} {nd:Nd} {us:List Tk} (hs:s.size<=600) (hr:rdWhole N s.toList=.ok nd us) (hf:20<=Q.length):asOut N Q s=(0,8,none):=by
 unfold asOut
 rw [if_neg (by omega),hr]
 simp only
 rw [if_pos hf]
end Go.Proofs.YtegbdaffhpiacaaGreatDoor
