/- Plain: an atom's terms stand where it stands; A session of the program, new; Declare. -/
import Derived.Test.YtegbdaffhpiacaaGreatDoorChn22
namespace Go.Proofs.YtegbdaffhpiacaaGreatDoor
open Ar
theorem atom_ends {f:Nd} (h:FmOk f):∀ x∈subs false f,∀ p∈ends x,p∈subs true f:=by
 induction h with
 | truth _=>intro x hx;simp [subs,subsAll,isIt] at hx
 | con _ hp ih =>
  intro x hx p hpx
  simp only [subs] at hx ⊢
  rw [if_neg (by simp [isIt])] at hx
  rw [if_neg (by simp [isIt])]
  obtain ⟨q,hq,hx⟩:=mem_subsAll.1 (by simpa using hx)
  simpa using mem_subsAll.2 ⟨q,hq,ih q hq x hx p hpx⟩
 | two hw ha hb =>
  intro x hx p hpx
  simp [subs,subsAll,isIt,term_atoms ha,term_atoms hb] at hx
  subst hx
  simp [ends,parts] at hpx
  simp [subs,subsAll,isIt]
  rcases hpx with rfl | rfl
  ·exact .inl (term_self ha)
  ·exact .inr (term_self hb)
 | le hw ha hb h1 h2 =>
  intro x hx p hpx
  simp [subs,subsAll,isIt,term_atoms ha,term_atoms hb] at hx
  subst hx
  simp [ends,parts] at hpx
  simp [subs,subsAll,isIt]
  rcases hpx with rfl | rfl
  ·exact .inl (term_self ha)
  ·exact .inr (term_self hb)
theorem once_ac {T A:List Nd} {L:List (Nd × Int)} (hT:Once true T L) (hA:Once false A L) (hok:∀ p∈L,FmOk p.1):AC T A:=by
 intro x hx
 obtain ⟨q,hq,hs⟩:=(hA.mem x).1 hx
 exact ⟨(form_subs (hok q hq)).2 x hs,fun p hp=>(hT.mem p).2 ⟨q,hq,atom_ends (hok q hq) x hs p hp⟩⟩
theorem Stk.ac {N:List Nm} {L:List (Nd × Int)} {T A:List Nd} {K:List Fr4} {k:Fr4} (h:Stk N L T A (K++[k])):AC (T.take k.t) (A.take k.a):=by
 have hl:=h.fit K.length k (by simp)
 exact once_ac hl.ts hl.aw (fun p hp=>h.ok p (List.mem_of_mem_take hp))
theorem asOut_code {N:List Nm} {L:List (Nd × Int)} {T A T' A':List Nd} {K:List Fr4} {s:ByteArray} {nd:Nd} {us:List Tk} (h:Stk N L T A K) (hs:s.size<=600) (hr:rdWhole N s.toList=.ok nd us) (hok:FmOk nd) (hf:L.length < 20) (hT:AddsP T T' (subs true nd)) (hA:AddsP A A' (subs false nd)) (hTn:T'.Nodup) (hAn:A'.Nodup) :
  asOut N (L.map Prod.fst) s=(0,tkCode T'.length A'.length,if tkCode T'.length A'.length=0 then some nd else none):=by
 unfold asOut
 rw [if_neg (by omega),hr]
 simp only
 rw [if_neg (by simp;omega),once_count h.ts h.ok hok hTn hT,once_count h.aw h.ok hok hAn hA]
 unfold tkCode
 by_cases h1:12 < T'.length
 ·simp [h1]
 ·by_cases h2:16 < A'.length
  ·simp [h1,h2]
  ·simp [h1,h2]
theorem asOut_long {N:List Nm} {Q:List Nd} {s:ByteArray} (hs:600 < s.size):asOut N Q s=(0,1,none):=by
 unfold asOut
 rw [if_pos hs]
theorem asOut_no {N:List Nm} {Q:List Nd} {s:ByteArray} {e:Int} {p:Nat} (hs:s.size<=600) (hr:rdWhole N s.toList=.no e p):asOut N Q s=((p:Int),e,none):=by
 unfold asOut
 rw [if_neg (by omega),hr]
theorem asOut_full {N:List Nm} {Q:List Nd} {s:ByteArray} {nd:Nd} {us:List Tk} (hs:s.size<=600) (hr:rdWhole N s.toList=.ok nd us) (hf:20<=Q.length):asOut N Q s=(0,8,none):=by
 unfold asOut
 rw [if_neg (by omega),hr]
 simp only
 rw [if_pos hf]
end Go.Proofs.YtegbdaffhpiacaaGreatDoor

namespace Go.Proofs.YtegbdaffhpiacaaGreatDoor
open Go.RowKit Go.Maps Ar
theorem pf_new {ps k:Nat}:PF ps px0 k↔k=ps:=by
 constructor
 ·rintro ((e | e | e) | e | e)
  ·exact e
  all_goals exact absurd e (by simp [px0,Value.ownBlock,mapB])
 ·exact fun e=>.inl (.inl e)
theorem sf_new {ps k:Nat} {pv:Value}:SF ps pv px0 k↔k=ps\/pv.ownBlock=some k:=by
 constructor
 ·rintro (e | e | e | e)
  ·exact .inl (pf_new.1 e)
  ·exact .inr e
  all_goals exact absurd e (by simp [px0,Value.ownBlock])
 ·rintro (e | e)
  ·exact .inl (pf_new.2 e)
  ·exact .inr (.inl e)
theorem pss_new {w:World} {ps:Nat} {N:List Nm} {pv:Value} (h:PS w ps N pv px0):PSS w ps N pv px0 [] [] [] [] where
 p:=⟨⟨h.blk,⟨World.ownsRow_nil _ _ _ _,List.nodup_nil,by simp [keys],.inl ⟨rfl,rfl⟩,fun g hg=>absurd hg (by simp [px0,Value.ownBlock])⟩,by intro i x hx;simp at hx,List.nodup_nil,fun g hg=>absurd hg (by simp [px0,Value.ownBlock]),fun g hg=>absurd hg (by simp [px0,mapB])⟩,
  ⟨World.ownsRow_nil _ _ _ _,List.nodup_nil,by simp [keysA],.inl ⟨rfl,rfl⟩,fun g hg=>absurd hg (by simp [px0,Value.ownBlock])⟩,by intro x hx;simp at hx,List.nodup_nil,fun g hg=>absurd hg (by simp [px0,Value.ownBlock]),fun g hg=>absurd hg (by simp [px0,mapB]),fun k _=>by simp [px0,Value.ownBlock,mapB]⟩
 nown:=h.own
 few:=h.few
 ok:=h.ok
 fown:=⟨World.ownsRow_nil _ _ _ _,by simp⟩
 kown:=World.ownsRow_nil _ _ _ _
 ffew:=by simp
 kfew:=by simp
 tfew:=by simp
 afew:=by simp
 n1:=fun k hk=>⟨fun e=>h.sep k hk (pf_new.1 e),by simp [px0,Value.ownBlock],by simp [px0,Value.ownBlock]⟩
 f1:=fun k hk=>absurd hk (by simp [px0,Value.ownBlock])
 k1:=fun k hk=>absurd hk (by simp [px0,Value.ownBlock])
theorem decl_spost {w w':World} {ps:Nat} {N:List Nm} {T A:List Nd} {K:List Fr4} {pv:Value} {xs:PX} {F:Int} {s:ByteArray} {a:Int} {Y:List (List Value)} {e:Ending} (h:PSS w ps N pv xs T A Y K) (hd:PDeclG w ps N pv xs F s a e w'):e=.returned (.int .i64 (declCode N s.toList a))/\SPost w ps pv xs (declNames N F s a) T A Y K w':=by
 obtain ⟨h1,h2,nv',h3,h4⟩:=hd
 by_cases h0:declCode N s.toList a=0
 ·rw [if_pos h0] at h3
  obtain ⟨h5,h6⟩:=pss_names2 h h3.blk h3.own h3.few h3.ok h2 h4
  exact ⟨h1,h6.1,nv',xs.fg,h5,h6.2⟩
 ·rw [if_neg h0] at h3
  obtain ⟨h5,h6⟩:=pss_names2 h h3.blk h3.own h3.few h3.ok h2 h4
  exact ⟨h1,h6.1,nv',xs,h5,h6.2⟩
end Go.Proofs.YtegbdaffhpiacaaGreatDoor
