/- A theory in memory: Split. -/
import Derived.Test.YtegbdaffhpiacaaGreatDoorChn36
import Derived.Test.YtegbdaffhpiacaaGreatDoorChn33
namespace Go.Proofs.YtegbdaffhpiacaaGreatDoor
open Go.RowKit Ar
section
variable {w:World} {hb g:Nat} {c:ThV} {TK:List TKey} {AK:List PA} {tw:List (Nat × Nat)} {As:List (PA × Bool)} {TT:List Tab} {X:Tab} {F:Fx}
def SpC (w:World) (TK:List TKey) (AK:List PA) (tw:List (Nat × Nat)) (As:List (PA × Bool)) (X:Tab) (F:Fx) (e:Ending) (w':World):Prop :=
 ∃ (q:Nat) (s:Bool),e=.returned (.tuple #[.int .i64 q,.bool s])/\Ext (fun _=>False) w w' /\
  (s=true->∃ o p,q=AK.length+o * 12+p/\o < TK.length/\p < TK.length/\gr F X.t o=gr F X.t p/\0 < X.t.by_ p o) /\
  (s=false->(∀ x∈asAt As,x.1.tr (gr F X.t)=x.2)/\∀ p∈tw,gr F X.t p.1=gr F X.t p.2\/(∃ q∈F.prs p,gr F X.t q.1 ≠ gr F X.t q.2)\/∀ q∈F.prs p,X.t.by_ q.1 q.2<=0/\X.t.by_ q.2 q.1<=0)
theorem order_new {i j:Nat} (hi:i < TK.length) (hj:j < TK.length) (hg:gr F X.t i=gr F X.t j) (hp:0 < X.t.by_ i j\/0 < X.t.by_ j i):∃ o p,(if 0 < X.t.by_ j i then AK.length+i * 12+j else AK.length+j * 12+i)=AK.length+o * 12+p/\o < TK.length/\p < TK.length/\gr F X.t o=gr F X.t p/\0 < X.t.by_ p o:=by
 by_cases h:0 < X.t.by_ j i
 ·rw [if_pos h];exact ⟨i,j,rfl,hi,hj,hg,h⟩
 ·rw [if_neg h];exact ⟨j,i,rfl,hj,hi,hg.symm,hp.resolve_right h⟩
set_option maxRecDepth 100000 in
set_option maxHeartbeats 2000000 in
theorem split_any (h:ThR w hb g c TK AK tw As (TT++[X])) (hG:ThG F As X) (hPt:∀ y∈asAt As,Parted X.t y) (hF:FxOk F TK tw) (hfar:F.far<=100000) (hT:TK.length<=12) (hA:AK.length<=16) (htw:tw.length<=1000) (hl:TT.length<=200) (hAs:As.length<=190) (hok:∀ x∈As,x.1.at_.Ok/\x.1.i < TK.length/\x.1.j < TK.length) (hbd:∀ x∈As,-1000<=x.1.b/\x.1.b<=1000) :
  Calls Tryz.prog 257 #[.pointer (some ⟨hb,0,none⟩)] w (SpC w TK AK tw As X F):=by
 have kb:=h.blk
 obtain ⟨sa,sc,hsv⟩:=row_shape h.ss
 obtain ⟨wa,wc,hwv⟩:=row_shape h.tw
 have hbl:=block_lt kb
 have kbs:=kb
 rw [hsv] at kbs
 have c3:=cell_of_block kbs 3
 have kbw:=kb
 rw [hwv] at kbw
 have KBW:=hide kbw
 have hFn:=hF.fn
 have HGR:Hid (∀ (i:Nat),i < TK.length->∀ W,Ext (fun _=>False) w W->Calls Tryz.prog 262 #[.pointer (some ⟨hb,0,none⟩),.int .i64 i] W fun e w'=>e=.returned (.int .i64 (gr F X.t i))/\Ext (fun _=>False) W w'):=by
  intro i hi W hxw
  have:=thGreatest_any (h.ext hxw (fun _ _ f=>f)) hT (by omega) (Nat.le_of_lt hi)
  unfold gr
  rw [hFn]
  exact this
 have HORD:Hid (∀ (i j:Nat),i < TK.length->j < TK.length->gr F X.t i=gr F X.t j->(0 < X.t.by_ i j\/0 < X.t.by_ j i)->∀ W,Ext (fun _=>False) w W->Calls Tryz.prog 264 #[.pointer (some ⟨hb,0,none⟩),.int .i64 i,.int .i64 j] W fun e w'=>∃ o p,e=.returned (.int .i64 ((AK.length+o * 12+p:Nat):Int))/\(o < TK.length/\p < TK.length/\gr F X.t o=gr F X.t p/\0 < X.t.by_ p o)/\Ext (fun _=>False) w w'):=by
  intro i j hi hj hg hp W hxw
  refine (thOrder_any (h.ext hxw (fun _ _ f=>f)) hT hA (by omega) hi hj).mono ?_
  rintro e w' ⟨rfl,hx⟩
  obtain ⟨o,p,e1,e2⟩:=order_new (AK:=AK) hi hj hg hp
  exact ⟨o,p,by rw [e1],e2,hxw.trans hx⟩
 have HBD:Hid (∀ i,i<=TK.length -> -1000000<=gr F X.t i/\gr F X.t i<=1000000):=by
  intro i hi
  have h1:=hG.inv.hi i F.n (by omega) (by omega)
  have h2:=hG.inv.lo (i:=i) (j:=F.n) (by omega) (by omega)
  unfold gr
  omega
 have H:=hide h
 have HG:=hide hG
 have HPT:=hide hPt
 have HF:=hide hF
 have HOK:=hide hok
 have HBB:=hide hbd
 clear h kb kbs kbw hG hPt hF hok hbd
 go_enter Tryz.func257,Tryz.ntmps257
 go_wp2_with fail
 go_loopw [18] (fun i wr=>∃ j:Nat,j<=As.length/\i=.int .i64 j/\Ext (fun _=>False) w wr/\∀ x∈(asAt As).take j,x.1.tr (gr F X.t)=x.2) (fun i _=>As.length - (intOf i).toNat)
 case atStart=>exact ⟨0,Nat.zero_le _,rfl,Ext.refl _ _,fun x hx=>by simp at hx⟩
 case round =>
  obtain ⟨j,hj,rfl,hxr,hP⟩:=hrel
  have HXR:=hide hxr
  have HP:=hide hP
  clear hP
  by_cases hlt:j < As.length
  ·obtain ⟨⟨x,yes⟩,hxj⟩:∃ x,As[j]?=some x:=⟨_,List.getElem?_eq_getElem hlt⟩
   obtain ⟨hxo,hxi,hxjj⟩:=HOK.out _ (List.mem_of_getElem? hxj)
   have hxb:=HBB.out _ (List.mem_of_getElem? hxj)
   have hRr:=H.out.ext hxr (fun _ _ f=>f)
   obtain ⟨gs,rfl,hgsl⟩:∃ gs,sa=some ⟨gs,0,none⟩/\gs < wr.heap.size:=by
    rcases hRr.ss.2 with ⟨e,e0⟩ | ⟨g',cap,cur,hv,_,hh,_⟩
    ·omega
    ·rw [hsv] at hv;simp at hv;exact ⟨g',hv.1,block_lt hh⟩
   have ho:=hRr.ss
   rw [hsv] at ho
   obtain ⟨q0,q1,q2,q3,q4⟩:=ans_cells hxj
   have x0:=(ho.cellAt (j * 5) (by omega)).trans q0
   have x1:=(ho.cellAt (j * 5+1) (by omega)).trans q1
   have x2:=(ho.cellAt (j * 5+2) (by omega)).trans q2
   have x3:=(ho.cellAt (j * 5+3) (by omega)).trans q3
   have x4:=(ho.cellAt (j * 5+4) (by omega)).trans q4
   have HXJ:=hide hxj
   have HXO:=hide hxo
   obtain ⟨wd,xi,xj,xb⟩:=x
   simp only at x0 x1 x2 x3 x4 hxi hxjj hxb
   obtain ⟨V,hV⟩:∃ V,wr.alloc (.cells #[.string wd,.int .i64 xi,.int .i64 xj,.int .i64 xb,.bool yes] 382)=V:=⟨_,rfl⟩
   have hxV:Ext (fun _=>False) wr V:=by rw [<- hV];exact (Ext.refl _ wr).alloc _
   have kA:V.heap[wr.heap.size]?=some (.cells #[.string wd,.int .i64 xi,.int .i64 xj,.int .i64 xb,.bool yes] 382):=by rw [<- hV];exact heap_alloc_new wr _
   have v0:=cell_of_block kA 0
   have v1:=cell_of_block kA 1
   have v2:=cell_of_block kA 2
   have v3:=cell_of_block kA 3
   have v4:=cell_of_block kA 4
   have hAl:=block_lt kA
   have KA:=hide kA
   have HVE:=hide hV
   have HXV:=hide hxV
   clear hxr hRr ho q0 q1 q2 q3 q4 hxj hxo hV hxV kA
   go_wp2_with fail
   rw [HVE.out]
   go_region
   go_wp2_with fail
   have HGX:Hid (∀ (i:Nat) (W:World),i < TK.length->Ext (fun _=>False) wr W->W.heap[wr.heap.size]?=some (.cells #[.string wd,.int .i64 xi,.int .i64 xj,.int .i64 xb,.bool yes] 382)->Calls Tryz.prog 262 #[.pointer (some ⟨hb,0,none⟩),.int .i64 i] W fun e w'=>e=.returned (.int .i64 (gr F X.t i))/\Ext (fun _=>False) wr w'/\w'.heap[wr.heap.size]?=some (.cells #[.string wd,.int .i64 xi,.int .i64 xj,.int .i64 xb,.bool yes] 382)) :=
    fun i W hi hx hk=>(HGR.out i hi W (HXR.out.trans hx)).mono (fun e w' h=>⟨h.1,hx.trans h.2,(h.2.block _ (block_lt hk) (fun f=>f)).trans hk⟩)
   obtain ⟨r,hr⟩:∃ r,relB wd.toList (gr F X.t xi) (gr F X.t xj) xb=r:=⟨_,rfl⟩
   have HHO:Hid (∀ W,Calls Tryz.prog 263 #[.string wd,.int .i64 (gr F X.t xi),.int .i64 (gr F X.t xj),.int .i64 xb] W fun e w'=>e=.returned (.bool r)/\w' = W):=by
    intro W
    have:=bholds_any (w:=W) ⟨wd,xi,xj,xb⟩ (gr F X.t xi) (gr F X.t xj) HXO.out (HBD.out xj (Nat.le_of_lt hxjj)) hxb
    rw [hr] at this
    exact this
   have HR:=hide hr
   have vd:V.drew.heap[wr.heap.size]?=some (.cells #[.string wd,.int .i64 xi,.int .i64 xj,.int .i64 xb,.bool yes] 382):=KA.out
   have vd2:V.drew.drew.heap[wr.heap.size]?=some (.cells #[.string wd,.int .i64 xi,.int .i64 xj,.int .i64 xb,.bool yes] 382):=KA.out
   have xd:Ext (fun _=>False) wr V.drew:=HXV.out.drew
   have xd2:Ext (fun _=>False) wr V.drew.drew:=HXV.out.drew.drew
   clear hr
   rename_i K aK
   suffices hK:∀ W2,Ext (fun _=>False) wr W2->K { tmps:=#[.pointer (some ⟨hb,0,none⟩),undef,u2,u3,undef,.pointer (some ⟨wr.heap.size,0,none⟩),.int .i64 ↑xi,.int .i64 ↑xj,undef,undef,undef,undef,undef,.pointer (some ⟨hb,0,none⟩),.pointer (some ⟨hb,0,none⟩),.pointer (some ⟨hb,3,none⟩),.slice (some ⟨gs,0,none⟩) As.length sc,.int .i64 ↑As.length,.int .i64 ↑j,.bool true,.pointer (some ⟨gs,j * 5,none⟩),.agg #[.string wd,.int .i64 ↑xi,.int .i64 ↑xj,.int .i64 xb,.bool yes],.pointer (some ⟨wr.heap.size,0,none⟩),.pointer (some ⟨wr.heap.size,1,none⟩),.pointer (some ⟨wr.heap.size,1,none⟩),.int .i64 ↑xi,.pointer (some ⟨wr.heap.size,0,none⟩),.pointer (some ⟨wr.heap.size,1,none⟩),.pointer (some ⟨wr.heap.size,2,none⟩),.int .i64 ↑xj,.pointer (some ⟨wr.heap.size,0,none⟩),.pointer (some ⟨wr.heap.size,0,none⟩),.string wd,.pointer (some ⟨hb,0,none⟩),.int .i64 ↑xi,.int .i64 (gr F X.t xi),.pointer (some ⟨hb,0,none⟩),.int .i64 ↑xj,.int .i64 (gr F X.t xj),.pointer (some ⟨wr.heap.size,0,none⟩),.pointer (some ⟨wr.heap.size,3,none⟩),.int .i64 xb,.bool r,.pointer (some ⟨wr.heap.size,4,none⟩),.bool yes,.bool (r != yes),u46,u47,u48,u49,u50,undef,undef,undef,undef,undef,undef,undef,undef,undef,undef,undef,undef,undef,undef,undef,undef,undef,undef,undef,undef,undef,undef,undef,undef,undef,undef,undef,undef,undef,undef,undef],defers:=[] } W2 by
    have HSK:=hide hK
    clear hK
    go_region_law (go_simp;go_wp2_with (first
     | (go_at_call 262;refine (HGX.out _ _ (by assumption) (by assumption) (by assumption)).mono ?_;rintro e wq ⟨rfl,hxq,hkq⟩;have vq0:=cell_of_block hkq 0;have vq3:=cell_of_block hkq 3;have vq4:=cell_of_block hkq 4)
     | (go_at_call 263;refine (HHO.out _).mono ?_;rintro e wh ⟨rfl,rfl⟩)
     | fail))
    all_goals exact HSK.out _ (by assumption)
   intro W2 hx2
   refine aK _ _ ?_
   have hmem:(PA.at_ ⟨wd,xi,xj,xb⟩,yes)∈asAt As:=List.mem_of_getElem? (asAt_get HXJ.out)
   have hag:=fun hne=>against HG.out.inv HXO.out (by show xi < F.n;omega) (by show xj < F.n;omega) (HG.out.tk _ hmem) (HPT.out _ hmem) hne
   have HAG:=hide hag
   have HX2:=hide hx2
   clear aK hag hmem hx2 x0 x1 x2 x3 x4 v0 v1 v2 v3 v4 vd vd2 xd xd2
   by_cases hry:r=yes
   ·subst hry
    have hb:(r != r)=false:=by simp
    rw [hb]
    go_wp2_with fail
    go_roundw
    case measure=>simp [intOf];omega
    case rel =>
     refine ⟨j+1,by omega,by go_num,HXR.out.trans HX2.out,fun y hy=>?_⟩
     rw [List.take_add_one,asAt_get HXJ.out] at hy
     rcases List.mem_append.1 hy with e | e
     ·exact HP.out y e
     ·simp at e
      subst e
      exact HR.out
   ·have hb:(r != yes)=true:=by simp [hry]
    rw [hb]
    obtain ⟨hg1,hg2⟩:=HAG.out (fun e=>hry (HR.out.symm.trans e))
    have HO:=hide (HORD.out xi xj hxi hxjj hg1 hg2 W2 (HXR.out.trans HX2.out))
    clear hg1 hg2 hb hry
    go_wp2_with fail
    refine HO.out.mono ?_
    rintro e w4 ⟨o,p,rfl,hop,hx4⟩
    have HOP:=hide hop
    have HX4:=hide hx4
    clear hop hx4
    go_wp2_with fail
    refine bodyPost_ret (v:=.tuple #[.int .i64 ((AK.length+o * 12+p:Nat):Int),.bool true]) (by simp [results,Tryz.results257,go_sem]) rfl ⟨_,true,rfl,HX4.out,fun _=>⟨o,p,rfl,HOP.out⟩,fun e=>by simp at e⟩
  ·have hjl:j=As.length:=by omega
   subst hjl
   have kbr:=(hxr.block _ (block_lt KBW.out) (fun f=>f)).trans KBW.out
   have y2:=cell_of_block kbr 2
   have hbr:=block_lt kbr
   have HALL:=hide (fun (x:At × Bool) (hx:x∈asAt As)=>HP.out x (by rw [show As.length=(asAt As).length by simp [asAt],List.take_length];exact hx))
   clear hxr kbr HP
   go_wp2_with fail
   go_loopw [56] (fun i wr=>∃ k:Nat,k<=tw.length/\i=.int .i64 k/\Ext (fun _=>False) w wr/\∀ p∈tw.take k,gr F X.t p.1=gr F X.t p.2\/(∃ q∈F.prs p,gr F X.t q.1 ≠ gr F X.t q.2)\/∀ q∈F.prs p,X.t.by_ q.1 q.2<=0/\X.t.by_ q.2 q.1<=0) (fun i _=>tw.length - (intOf i).toNat)
   case atStart=>exact ⟨0,Nat.zero_le _,rfl,HXR.out,fun x hx=>by simp at hx⟩
   case round =>
    obtain ⟨k,hk,rfl,hxt,hQ⟩:=hrel
    have HXT:=hide hxt
    have HQ:=hide hQ
    clear hQ
    by_cases hlt2:k < tw.length
    ·obtain ⟨⟨a,b⟩,hpk⟩:∃ p,tw[k]?=some p:=⟨_,List.getElem?_eq_getElem hlt2⟩
     have hRt:=H.out.ext hxt (fun _ _ f=>f)
     obtain ⟨gw,rfl,hgwl⟩:∃ gw,wa=some ⟨gw,0,none⟩/\gw < wr.heap.size:=by
      rcases hRt.tw.2 with ⟨e,e0⟩ | ⟨g',cap,cur,hv,_,hh,_⟩
      ·omega
      ·rw [hwv] at hv;simp at hv;exact ⟨g',hv.1,block_lt hh⟩
     have ho:=hRt.tw
     rw [hwv] at ho
     obtain ⟨q0,q1⟩:=tw_cells hpk
     have x0:=(ho.cellAt (k * 2) (by omega)).trans q0
     have x1:=(ho.cellAt (k * 2+1) (by omega)).trans q1
     simp only at x0 x1
     have hmem:=List.mem_of_getElem? hpk
     obtain ⟨x,y,ar,zs,hxa,hyb,hPrs,hprs⟩:=HF.out.prs _ hmem
     simp only at hxa hyb
     have ha:=(List.getElem?_eq_some_iff.1 hxa).1
     have hb':=(List.getElem?_eq_some_iff.1 hyb).1
     obtain ⟨V,hV⟩:∃ V,wr.alloc (.cells #[.int .i64 a,.int .i64 b] 151)=V:=⟨_,rfl⟩
     have hxV:Ext (fun _=>False) wr V:=by rw [<- hV];exact (Ext.refl _ wr).alloc _
     have kA:V.heap[wr.heap.size]?=some (.cells #[.int .i64 a,.int .i64 b] 151):=by rw [<- hV];exact heap_alloc_new wr _
     have v0:=cell_of_block kA 0
     have v1:=cell_of_block kA 1
     have hAl:=block_lt kA
     have HGX:Hid (∀ (i:Nat) (W:World),i < TK.length->Ext (fun _=>False) wr W->W.heap[wr.heap.size]?=some (.cells #[.int .i64 a,.int .i64 b] 151)->Calls Tryz.prog 262 #[.pointer (some ⟨hb,0,none⟩),.int .i64 i] W fun e w'=>e=.returned (.int .i64 (gr F X.t i))/\Ext (fun _=>False) wr w'/\w'.heap[wr.heap.size]?=some (.cells #[.int .i64 a,.int .i64 b] 151)) :=
      fun i W hi hx hk=>(HGR.out i hi W (HXT.out.trans hx)).mono (fun e w' h=>⟨h.1,hx.trans h.2,(h.2.block _ (block_lt hk) (fun f=>f)).trans hk⟩)
     have HCH:Hid (∀ W,Ext (fun _=>False) wr W->Calls Tryz.prog 265 #[.pointer (some ⟨hb,0,none⟩),.agg #[.int .i64 a,.int .i64 b]] W fun e w'=>∃ (i j:Nat) (s:Bool),e=.returned (.tuple #[.int .i64 i,.int .i64 j,.bool s])/\Ext (fun _=>False) wr w'/\(s=true->∃ z∈zs,z.1=(i,j)/\GE X.t z/\¬KE X.t z)/\(s=false->(∃ z∈zs,¬GE X.t z)\/∀ z∈zs,KE X.t z)) :=
      fun W hx=>(chance_any (hRt.ext hx (fun _ _ f=>f)) hxa hyb hT (by omega) hPrs).mono (fun e w' ⟨i,j,s,h1,h2,h3⟩=>⟨i,j,s,h1,hx.trans h2,h3⟩)
     have vd:V.drew.heap[wr.heap.size]?=some (.cells #[.int .i64 a,.int .i64 b] 151):=kA
     have xd:Ext (fun _=>False) wr V.drew:=hxV.drew
     have HPK:=hide hpk
     have HPRS:=hide hprs
     have HVE:=hide hV
     clear hxt hRt ho q0 q1 hpk hmem hxa hyb hPrs hprs hV hxV kA
     by_cases hgq:gr F X.t a=gr F X.t b
     ·have hbq:(gr F X.t a == gr F X.t b)=true:=by simp [hgq]
      have HGQ:=hide hgq
      clear hgq
      go_wp2_with fail
      rw [HVE.out]
      go_region_law (go_simp;go_wp2_with (go_at_call 262;refine (HGX.out _ _ (by assumption) (by assumption) (by assumption)).mono ?_;rintro e wq ⟨rfl,hxq,hkq⟩;have vq0:=cell_of_block hkq 0;have vq1:=cell_of_block hkq 1))
      all_goals
       have HXQ:=hide hxq
       clear hxq
       go_wp2_with fail
       go_roundw
       case measure=>simp [intOf];omega
       case rel =>
        refine ⟨k+1,by omega,by go_num,HXT.out.trans HXQ.out,fun y hy=>?_⟩
        rw [List.take_add_one,HPK.out] at hy
        rcases List.mem_append.1 hy with e | e
        ·exact HQ.out y e
        ·simp at e
         subst e
         exact .inl HGQ.out
     ·have hbq:(gr F X.t a == gr F X.t b)=false:=by simp [hgq]
      clear hgq
      go_wp2_with fail
      rw [HVE.out]
      go_region_law (go_simp;go_wp2_with (go_at_call 262;refine (HGX.out _ _ (by assumption) (by assumption) (by assumption)).mono ?_;rintro e wq ⟨rfl,hxq,hkq⟩;have vq0:=cell_of_block hkq 0;have vq1:=cell_of_block hkq 1;have hql:=block_lt hkq))
      all_goals
       have HXQ:=hide hxq
       have HCQ:=hide (HCH.out _ hxq)
       clear hxq
       go_wp2_with fail
       refine HCQ.out.mono ?_
       rintro e w5 ⟨i,j',sm,rfl,hx5,hs1,hs2⟩
       have HX5:=hide hx5
       have HS1:=hide hs1
       have HS2:=hide hs2
       clear hx5 hs1 hs2 HCQ
       cases sm with
       | true =>
        obtain ⟨z,hz,hzz,hge,hke⟩:=HS1.out (by simp)
        obtain ⟨hi1,hi2⟩:z.1.1=i/\z.1.2=j':=by rw [hzz];exact ⟨rfl,rfl⟩
        have hzi:i < TK.length:=by have:=z.2.1;omega
        have hzj:j' < TK.length:=by have:=z.2.2;omega
        have hg1:gr F X.t i=gr F X.t j':=by
         unfold GE at hge
         rw [hi1,hi2,<- hFn] at hge
         exact hge
        have hg2:0 < X.t.by_ i j'\/0 < X.t.by_ j' i:=by
         unfold KE at hke
         rw [hi1,hi2] at hke
         omega
        have HO:=hide (HORD.out i j' hzi hzj hg1 hg2 w5 (HXT.out.trans HX5.out))
        clear hz hzz hge hke hi1 hi2 hg1 hg2
        go_wp2_with fail
        refine HO.out.mono ?_
        rintro e w6 ⟨o,p,rfl,hop,hx6⟩
        have HOP:=hide hop
        have HX6:=hide hx6
        clear hop hx6
        go_wp2_with fail
        refine bodyPost_ret (v:=.tuple #[.int .i64 ((AK.length+o * 12+p:Nat):Int),.bool true]) (by simp [results,Tryz.results257,go_sem]) rfl ⟨_,true,rfl,HX6.out,fun _=>⟨o,p,rfl,HOP.out⟩,fun e=>by simp at e⟩
       | false =>
        go_wp2_with fail
        go_roundw
        case measure=>simp [intOf];omega
        case rel =>
         refine ⟨k+1,by omega,by go_num,HXT.out.trans HX5.out,fun y hy=>?_⟩
         rw [List.take_add_one,HPK.out] at hy
         rcases List.mem_append.1 hy with e | e
         ·exact HQ.out y e
         ·simp at e
          subst e
          rcases HS2.out (by simp) with ⟨z,hz,hn⟩ | hall
          ·refine .inr (.inl ⟨z.1,by rw [HPRS.out];exact List.mem_map_of_mem hz,fun e=>hn ?_⟩)
           unfold gr at e
           rw [hFn] at e
           exact e
          ·refine .inr (.inr fun q hq=>?_)
           rw [HPRS.out] at hq
           obtain ⟨z,hz,rfl⟩:=List.mem_map.1 hq
           exact hall z hz
    ·have hkl:k=tw.length:=by omega
     subst hkl
     clear hxt
     go_wp2_with fail
     refine bodyPost_ret (v:=.tuple #[.int .i64 0,.bool false]) (by simp [results,Tryz.results257,go_sem]) rfl ⟨0,false,rfl,HXT.out,fun e=>by simp at e,fun _=>⟨HALL.out,fun p hp=>HQ.out p (by rw [List.take_length];exact hp)⟩⟩
end
end Go.Proofs.YtegbdaffhpiacaaGreatDoor
