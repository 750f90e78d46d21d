/- A search in memory: a set of the row is written; blocks beside it; A theory in memory: Model. -/
import Derived.Test.YtegbdaffhpiacaaGreatDoorOwn34
import Derived.Test.YtegbdaffhpiacaaGreatDoorOwn31
namespace Go.Proofs.YtegbdaffhpiacaaGreatDoor
open Go.RowKit Ar
def onlyN (K:Act→World→Prop):Exit→Act→World→Prop
 | .normal,a,w=>K a w
 | _,_,_=>False
theorem wpIn_onlyN {F:Fence} {n:Nat} {P:Program} {code:Code} {Q:Exit→Act→World→Prop} {a:Act} {w:World} (h:code.wpIn F n P (onlyN (Q .normal)) a w):code.wpIn F n P Q a w :=
 wpIn_mono h (fun e _ _ hq=>by cases e <;> first | exact hq | exact hq.elim)
section
variable {B:Nat} {w w':World} {sb hb g:Nat} {c:ThV} {TK:List TKey} {AK:List PA} {tw:List (Nat × Nat)} {tv lv:Value} {tr:List St} {As:List (PA × Bool)} {ls:List (List (BitVec 64))} {TT:List Tab}
theorem SrR.aside0 {S:Nat→Prop} (h:SrR B w sb hb g c TK AK tw tv lv tr As ls TT) (hx:Ext S w w') (hS:∀ k,S k→∀ C t,¬w.heap[k]?=some (.cells C t)):SrR B w' sb hb g c TK AK tw tv lv tr As ls TT:=by
 obtain ⟨vs,ho,_⟩:=h.lf.ex
 obtain ⟨_,C,_,hg,_⟩:=h.th.tb.ex
 have hn:∀ {k:Nat} {C:Array Value} {t:TypeId},w.heap[k]?=some (.cells C t)→¬S k:=fun hk e=>hS _ e _ _ hk
 have ho':∀ {e size n:Nat} {v:Value} {xs:List Value},w.ownsRow 0 e size v n xs→∀ k,v.ownBlock=some k→¬S k:=fun h k hk=>by
  obtain ⟨cur,hc⟩:=own_type h hk
  exact hn hc
 refine ⟨(hx.block _ (block_lt h.blk) (hn h.blk)).trans h.blk,own_ext h.row hx (ho' h.row),h.lf.ext hx (ho' ho) (fun k cur hc=>hn hc),h.th.ext hx (fun k hk=>?_),h.pat.ext hx (hn h.pat),h.bp,Nat.le_trans h.bB hx.size,h.bs,h.bv⟩
 rcases hk with e | e | e | e | e | e
 ·subst e;exact hn h.th.blk
 ·subst e;exact hn hg
 ·exact ho' h.th.ts k e
 ·exact ho' h.th.ats k e
 ·exact ho' h.th.tw k e
 ·exact ho' h.th.ss k e
theorem SrR.setL {gl lc j b:Nat} {v:Value} {l:List (BitVec 64)} (h:SrR B w sb hb g c TK AK tw tv lv tr As ls TT) (hlv:lv=.slice (some ⟨gl,0,none⟩) ls.length lc) (hj:j < ls.length) (hW:WS w b v l) (hl:l.length=2 ^ (AK.length - 6)) :
  SrR B (w.setCell ⟨gl,j,none⟩ v) sb hb g c TK AK tw tv lv tr As (ls.set j l) TT∧Ext (fun k=>lv.ownBlock=some k) w (w.setCell ⟨gl,j,none⟩ v):=by
 have hgl:lv.ownBlock=some gl:=by rw [hlv];rfl
 have hx:Ext (fun k=>lv.ownBlock=some k) w (w.setCell ⟨gl,j,none⟩ v):=(Ext.refl (fun k=>lv.ownBlock=some k) w).setCell (p:=⟨gl,j,none⟩) (fun _=>hgl) _
 obtain ⟨vs,ho,hk⟩:=h.lf.ex
 have hvl:vs.length=ls.length:=by have:=ho.1;omega
 have hne:¬sb=gl:=fun e=>own_not ho h.blk (by decide) (e ▸ hgl)
 refine ⟨h.turnL (hx.mono (fun _ _ e=>.inr e)) ((setCell_block _ _ (by show ¬sb=gl;exact hne)).trans h.blk) ⟨vs.set j v,?_,fun k l' hkl=>?_⟩ (fun k hk=>.inl hk),hx⟩
 ·rw [List.length_set]
  rcases ho.2 with ⟨_,e⟩ | ⟨g',cap',cur',hv',hb,hh',hc',hm,hsz,htk⟩
  ·omega
  ·rw [hlv] at hv'
   simp at hv'
   obtain ⟨rfl,rfl⟩:=hv'
   refine ⟨by simpa using ho.1,.inr ⟨gl,lc,cur'.setIfInBounds j v,hlv,hb,block_setCell hh' j _,hc',hm,by simpa using hsz,?_⟩⟩
   rw [Array.toList_setIfInBounds,← htk,List.take_set]
 ·have hws:∀ {b':Nat} {v':Value} {q:List (BitVec 64)},WS w b' v' q→WS (w.setCell ⟨gl,j,none⟩ v) b' v' q:=fun hq=>by
   obtain ⟨cur,hc⟩:=hq.blockT
   exact hq.ext hx (fun e=>own_not ho hc (by decide) e)
  by_cases e:k=j
  ·subst e
   rw [List.getElem?_set_self (by omega)] at hkl
   cases hkl
   exact ⟨hl,b,v,List.getElem?_set_self (by omega),hws hW⟩
  ·rw [List.getElem?_set_ne (by omega)] at hkl
   obtain ⟨e1,b',v',e2,e3⟩:=hk k l' hkl
   exact ⟨e1,b',v',by rw [List.getElem?_set_ne (by omega)];exact e2,hws e3⟩
end
theorem infoIntV:(Tryz.prog.info? 3).map (fun i=>(i.zero,i.size,i.bytes))=some (some (.int .i64 0),1,8):=by kernel_rfl
theorem made_intsV (n:Nat):madeCells #[Value.int .i64 0] n=Array.replicate n (Value.int .i64 0):=by
 apply Array.ext
 ·simp [madeCells]
 ·intro i h1 h2
  simp [madeCells,Nat.mod_one]
theorem mkIntsV (n:Nat) (h:n≤1024) (w:World):(Instr.makeSlice 25 (.int .i64 (n:Int)) (.int .i64 (n:Int))).run Tryz.prog w=.ok (.slice (some ⟨w.heap.size,0,none⟩) n n) (w.alloc (.cells (Array.replicate n (.int .i64 0)) 3)):=by
 obtain ⟨i0,hi,hz0,hz1,hz2⟩:=info_parts infoIntV
 have:=run_make (P:=Tryz.prog) w 25 3 i0 _ Tryz.underlying25 hi hz0 .i64 .i64 (n:Int) (n:Int) (by omega) (Int.le_refl _) (by rw [hz2];omega) (by omega)
 rw [this,hz1]
 have e:(n:Int).toNat=n:=by omega
 rw [e,Nat.mul_one]
 rw [show (Value.int .i64 0).cells=#[Value.int .i64 0] from rfl,made_intsV]
section
variable {w:World} {hb g:Nat} {c:ThV} {TK:List TKey} {AK:List PA} {tw:List (Nat × Nat)} {As:List (PA × Bool)} {TT:List Tab} {X:Tab}
def NumC (w:World) (b n j:Nat) (f:Nat→Int):Prop:=∃ C:Array Value,w.heap[b]?=some (.cells C 3)∧C.size=n∧∀ i,i < j→C[i]?=some (.int .i64 (f i))
theorem NumC.set {b n j:Nat} {f:Nat→Int} (h:NumC w b n j f) (hj:j < n):NumC (w.setCell ⟨b,j,none⟩ (.int .i64 (f j))) b n (j+1) f:=by
 obtain ⟨C,h1,h2,h3⟩:=h
 refine ⟨_,block_setCell h1 j _,by simp [h2],fun i hi=>?_⟩
 rw [Array.getElem?_setIfInBounds]
 by_cases e:j=i
 ·subst e;simp;omega
 ·rw [if_neg e];exact h3 i (by omega)
theorem NumC.row {b n:Nat} {f:Nat→Int} (h:NumC w b n n f) (hn:n≤1024):w.ownsRow 0 3 1 (.slice (some ⟨b,0,none⟩) n n) n ((List.range n).map fun i=>.int .i64 (f i)):=by
 obtain ⟨C,h1,h2,h3⟩:=h
 refine ⟨by simp,.inr ⟨b,n,C,rfl,Nat.zero_le _,h1,Nat.le_refl _,by unfold maxLen;omega,by omega,?_⟩⟩
 apply List.ext_getElem?
 intro i
 rw [List.getElem?_take,Array.getElem?_toList,List.getElem?_map]
 by_cases e:i < n
 ·rw [if_pos (by omega),h3 i e,List.getElem?_range e];rfl
 ·rw [if_neg (by omega),List.getElem?_eq_none (by simp;omega)];rfl
set_option maxRecDepth 10000 in
set_option maxHeartbeats 400000 in
theorem thModel_any (h:ThR w hb g c TK AK tw As (TT++[X])) (hT:TK.length≤12) (hl:TT.length≤500) :
  Calls Tryz.prog 256 #[.pointer (some ⟨hb,0,none⟩)] w fun e w'=>∃ v,e=.returned v∧Ext (fun _=>False) w w'∧v.ownBlock=some w.heap.size∧w'.ownsRow 0 3 1 v TK.length ((List.range TK.length).map fun i=>.int .i64 (X.t.by_ i TK.length)):=by
 have kb:=h.blk
 obtain ⟨ta,tc,htv⟩:=row_shape h.ts
 rw [htv] at kb
 have c0:=cell_of_block kb 0
 have hmk:=mkIntsV TK.length (by omega) w
 obtain ⟨V,hV⟩:∃ V,w.alloc (.cells (Array.replicate TK.length (.int .i64 0)) 3)=V:=⟨_,rfl⟩
 have hxV:Ext (fun _=>False) w V:=by rw [← hV];exact (Ext.refl _ w).alloc _
 have hNV:NumC V w.heap.size TK.length 0 (fun i=>X.t.by_ i TK.length):=⟨_,by rw [← hV];exact heap_alloc_new w _,by simp,fun i hi=>by omega⟩
 rw [hV] at hmk
 have H:=hide h
 have HXV:=hide hxV
 have HNV:=hide hNV
 clear h kb htv hV hxV hNV
 go_enter Tryz.func256,Tryz.ntmps256
 go_wp2_with fail
 go_loopw [13] (fun i wr=>∃ j:Nat,j≤TK.length∧i=.int .i64 j∧Ext (fun _=>False) w wr∧NumC wr w.heap.size TK.length j (fun i=>X.t.by_ i TK.length)) (fun i _=>TK.length - (intOf i).toNat)
 case atStart=>exact ⟨0,Nat.zero_le _,rfl,HXV.out,HNV.out⟩
 case round =>
  obtain ⟨j,hj,rfl,hx,hN⟩:=hrel
  have HX:=hide hx
  have HN:=hide hN
  clear hx hN
  by_cases hlt:j < TK.length
  ·have HG:=hide (thGreatest_any (i:=j) (H.out.ext HX.out (fun _ _ f=>f)) hT hl (by omega))
   go_wp2_with fail
   refine HG.out.mono ?_
   rintro e w2 ⟨rfl,hx2⟩
   obtain ⟨C,n1,n2,n3⟩:=HN.out
   have n1':=(hx2.block _ (block_lt n1) (fun f=>f)).trans n1
   have hN2:NumC w2 w.heap.size TK.length j (fun i=>X.t.by_ i TK.length):=⟨C,n1',n2,n3⟩
   have HN2:=hide (hN2.set hlt)
   have HX2:=hide (HX.out.trans hx2)
   have f0:=frozen_of_block n1' j
   have c1:=cell_of_block n1' j
   rw [Array.getElem?_eq_getElem (by omega)] at c1
   obtain ⟨u,hu⟩:∃ u,C[j]=u:=⟨_,rfl⟩
   rw [hu] at c1
   clear hN2 n1 n1' n3 hx2 hu
   go_wp2_with fail
   go_roundw
   case measure=>simp [intOf];omega
   case rel=>exact ⟨j+1,by omega,by go_num,HX2.out.trans' ((Ext.refl (fun k=>k=w.heap.size) w2).setCell (p:=⟨w.heap.size,j,none⟩) (fun _=>rfl) _) (fun i hi e=>by have h1:i=w.heap.size:=e;omega),HN2.out⟩
  ·have hjk:j=TK.length:=by omega
   subst hjk
   go_wp2_with fail
   go_ret
   exact ⟨_,rfl,HX.out,rfl,HN.out.row (by omega)⟩
end
end Go.Proofs.YtegbdaffhpiacaaGreatDoor
