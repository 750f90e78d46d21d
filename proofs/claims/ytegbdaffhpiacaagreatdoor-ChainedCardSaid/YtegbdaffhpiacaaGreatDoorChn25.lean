/- A session of the program, with the trees of its formulas. -/
import Derived.Test.YtegbdaffhpiacaaGreatDoorChn22
import Derived.Test.YtegbdaffhpiacaaGreatDoorChn23
import Derived.Test.YtegbdaffhpiacaaGreatDoorChn12
import Derived.Test.YtegbdaffhpiacaaGreatDoorChn24
namespace Go.Proofs.YtegbdaffhpiacaaGreatDoor
open Go.RowKit Go.Maps Ar
theorem FT.cut {w:World} {D:Nat->Prop} {A A':List Nd} {cs:List Value} {nd:Nd} (h:FT w D A cs nd) (hp:A' <+: A):(∀ x∈subs false nd,x∈A')->FT w D A' cs nd:=by
 induction h with
 | @atom word v ps hm =>
  intro hs
  have hm':.mk 2 word v ps∈A':=hs (.mk 2 word v ps) (by rw [subs,if_pos (by simp [isIt])];simp)
  have h1:=FT.atom (w:=w) (D:=D) (A:=A') hm'
  rw [<- idx_pre hp hm'] at h1
  exact h1
 | node h2 how hl hn hD hk ih =>
  intro hs
  refine .node h2 how hl hn hD (fun i cs p h1 h3=>ih i cs p h1 h3 (fun x hx=>hs x ?_))
  rw [subs,if_neg (by simpa [isIt] using h2)]
  exact mem_subsAll.2 ⟨p,List.mem_of_getElem? h3,hx⟩
section
variable {w w':World} {sb:Nat} {N N':List Nm} {L:List (Nd × Int)} {T A:List Nd} {K K':List Fr4} {nv:Value} {xs:PX} {D:Nat->Prop} {Y:List (List Value)}
theorem FT.freeS {D:Nat->Prop} {A':List Nd} {cs:List Value} {nd:Nd} (h:FT w D A' cs nd) (hP:PSS w sb N nv xs T A Y K) (hfs:∀ q,D q->¬xs.fs.ownBlock=some q):FT w (fun q=>D q/\¬SF sb nv xs q) A' cs nd:=by
 replace h:=h.free hP.p
 induction h with
 | atom hm=>exact .atom hm
 | node h2 how hl hn hD hk ih =>
  refine .node h2 how hl hn (fun g hg=>⟨(hD g hg).1,?_⟩) (fun i cs p h1 h3=>ih i cs p h1 h3)
  obtain ⟨cur,hc⟩:=own_type how hg
  rintro (e | e | e | e)
  ·exact (hD g hg).2 e
  ·exact own_not hP.nown hc (by decide) e
  ·exact hfs g (hD g hg).1 e
  ·exact own_not hP.kown hc (by decide) e
structure PL (w:World) (sb:Nat) (N:List Nm) (L:List (Nd × Int)) (T A:List Nd) (K:List Fr4) (nv:Value) (xs:PX) (D:Nat->Prop) (Y:List (List Value)):Prop where
 ss:PSS w sb N nv xs T A Y K
 yl:Y.length=L.length
 ft:∀ (i:Nat) (cs:List Value) (p:Nd × Int),Y[i]?=some cs->L[i]?=some p->FT w D A cs p.1
 st:Stk N L T A K
 fw:∀ p∈L,FmW p.1
 dk:∀ k,D k->k < w.heap.size/\¬SF sb nv xs k
def Ses (w:World) (sb:Nat) (N:List Nm) (L:List (Nd × Int)) (d:Nat) (F:Nat->Prop):Prop :=
 ∃ T A K nv xs D Y,PL w sb N L T A K nv xs D Y/\K.length=d/\F=fun k=>SF sb nv xs k\/D k
def SesP (w:World) (F:Nat->Prop) (sb:Nat) (N:List Nm) (L:List (Nd × Int)) (d:Nat) (w':World):Prop :=
 Ext F w w'/\∃ F',Ses w' sb N L d F'/\∀ k,F' k->F k\/w.heap.size<=k
theorem PL.lt (h:PL w sb N L T A K nv xs D Y):∀ k,SF sb nv xs k\/D k->k < w.heap.size:=fun k hk=>hk.elim (h.ss.lt k) (fun e=>(h.dk k e).1)
theorem Ses.lt {d:Nat} {F:Nat->Prop} (h:Ses w sb N L d F):∀ k,F k->k < w.heap.size:=by
 obtain ⟨T,A,K,nv,xs,D,Y,hP,_,rfl⟩:=h
 exact hP.lt
theorem PL.ext {S:Nat->Prop} (h:PL w sb N L T A K nv xs D Y) (hx:Ext S w w') (hS:∀ k,SF sb nv xs k\/D k->¬S k):PL w' sb N L T A K nv xs D Y :=
 ⟨h.ss.ext hx (fun k hk=>hS k (.inl hk)),h.yl,fun i cs p h1 h2=>(h.ft i cs p h1 h2).ext hx (fun k _ hd=>hS k (.inr hd)),h.st,h.fw,fun k hk=>⟨Nat.lt_of_lt_of_le (h.dk k hk).1 hx.size,(h.dk k hk).2⟩⟩
theorem Ses.ext {d:Nat} {F S:Nat->Prop} (h:Ses w sb N L d F) (hx:Ext S w w') (hS:∀ k,F k->¬S k):Ses w' sb N L d F:=by
 obtain ⟨T,A,K,nv,xs,D,Y,hP,hd,rfl⟩:=h
 exact ⟨T,A,K,nv,xs,D,Y,hP.ext hx hS,hd,rfl⟩
theorem PL.same (h:PL w sb N L T A K nv xs D Y) (h1:SPost w sb nv xs N' T A Y K' w') (st:Stk N' L T A K'):SesP w (fun k=>SF sb nv xs k\/D k) sb N' L K'.length w':=by
 obtain ⟨hx,nv',xs',hP,hF⟩:=h1
 refine ⟨hx.mono (fun _ _ e=>.inl e),_,⟨T,A,K',nv',xs',D,Y,⟨hP,h.yl,fun i cs p e1 e2=>(h.ft i cs p e1 e2).ext hx (fun k _ hd=>(h.dk k hd).2),st,h.fw,fun k hk=>⟨Nat.lt_of_lt_of_le (h.dk k hk).1 hx.size,fun e=>?_⟩⟩,rfl,rfl⟩,fun k hk=>?_⟩
 ·rcases hF k e with e2 | e2
  ·exact (h.dk k hk).2 e2
  ·have:=(h.dk k hk).1;omega
 ·rcases hk with hk | hk
  ·exact (hF k hk).imp .inl id
  ·exact .inl (.inr hk)
theorem PL.took {T' A':List Nd} {cs:List Value} {nd:Nd} (h:PL w sb N L T A K nv xs D Y) (h1:SPost w sb nv xs N T' A' (Y++[cs]) K w') (h2:TookF w sb A' cs nd w') (hT:AddsP T T' (subs true nd)) (hA:AddsP A A' (subs false nd)) (hok:FmOk nd) (hfw:FmW nd):SesP w (fun k=>SF sb nv xs k\/D k) sb N (L++[(nd,(K.length:Int))]) K.length w':=by
 obtain ⟨hx,nv',xs',hP,hF⟩:=h1
 have c5:=cob hP.p.ts.blk 5
 have hft:=FT.freeS h2 hP (fun q hq=>hq.2 xs'.fs c5)
 have hdd:∀ k,D k->¬SF sb nv' xs' k:=fun k hk e=>by
  rcases hF k e with e2 | e2
  ·exact (h.dk k hk).2 e2
  ·have:=(h.dk k hk).1;omega
 refine ⟨hx.mono (fun _ _ e=>.inl e),_,⟨T',A',K,nv',xs',fun k=>D k\/(w.heap.size<=k/\k < w'.heap.size/\¬SF sb nv' xs' k),Y++[cs],⟨hP,by simp [h.yl],fun i c p e1 e2=>?_,h.st.take hok hT hA hP.p.ts.nd hP.p.nd,fun p hp=>?_,fun k hk=>?_⟩,rfl,rfl⟩,fun k hk=>?_⟩
 ·by_cases hi:i < Y.length
  ·rw [List.getElem?_append_left hi] at e1
   rw [List.getElem?_append_left (by rw [<- h.yl];exact hi)] at e2
   exact (((h.ft i c p e1 e2).ext hx (fun k _ hd=>(h.dk k hd).2)).pre hA.pre).mono (fun k _ hd=>.inl hd)
  ·have hl:=(List.getElem?_eq_some_iff.1 e1).1
   simp at hl
   have hi2:i=Y.length:=by omega
   subst hi2
   rw [List.getElem?_append_right (Nat.le_refl _)] at e1
   rw [List.getElem?_append_right (by rw [h.yl];exact Nat.le_refl _),h.yl] at e2
   simp at e1 e2
   subst e1 e2
   exact hft.mono (fun k hk hd=>.inr ⟨hd.1.1,hk,hd.2⟩)
 ·rcases List.mem_append.1 hp with hp | hp
  ·exact h.fw p hp
  ·simp at hp;subst hp;exact hfw
 ·rcases hk with hk | hk
  ·exact ⟨Nat.lt_of_lt_of_le (h.dk k hk).1 hx.size,hdd k hk⟩
  ·exact hk.2
 ·rcases hk with hk | hk | hk
  ·exact (hF k hk).imp .inl id
  ·exact .inl (.inr hk)
  ·exact .inr hk.1
theorem PL.popped {fr:Fr4} (h:PL w sb N L T A (K++[fr]) nv xs D Y) (h1:SPost w sb nv xs (N.take fr.n) (T.take fr.t) (A.take fr.a) (Y.take fr.f) K w'):SesP w (fun k=>SF sb nv xs k\/D k) sb (N.filter (fun x=>decide (x.fr < (K.length:Int)+1))) (L.filter (fun x=>decide (x.2 < (K.length:Int)+1))) K.length w':=by
 obtain ⟨hx,nv',xs',hP,hF⟩:=h1
 obtain ⟨st,en,el⟩:=h.st.pop
 have hl:=h.st.fit K.length fr (by simp)
 rw [<- en,<- el]
 refine ⟨hx.mono (fun _ _ e=>.inl e),_,⟨T.take fr.t,A.take fr.a,K,nv',xs',D,Y.take fr.f,⟨hP,by simp [h.yl],fun i cs p e1 e2=>?_,st,fun p hp=>h.fw p (List.mem_of_mem_take hp),fun k hk=>⟨Nat.lt_of_lt_of_le (h.dk k hk).1 hx.size,fun e=>?_⟩⟩,rfl,rfl⟩,fun k hk=>?_⟩
 ·obtain ⟨_,e3⟩:=take_get e1
  obtain ⟨_,e4⟩:=take_get e2
  refine ((h.ft i cs p e3 e4).ext hx (fun k _ hd=>(h.dk k hd).2)).cut (List.take_prefix _ _) (fun x hx=>?_)
  exact (hl.aw.mem x).2 ⟨p,List.mem_of_getElem? e2,hx⟩
 ·rcases hF k e with e2 | e2
  ·exact (h.dk k hk).2 e2
  ·have:=(h.dk k hk).1;omega
 ·rcases hk with hk | hk
  ·exact (hF k hk).imp .inl id
  ·exact .inl (.inr hk)
end
end Go.Proofs.YtegbdaffhpiacaaGreatDoor
