/- A search in memory: open; A search in memory: forced. -/
import Derived.Test.YtegbdaffhpiacaaGreatDoorChn34
import Derived.Deep.AppendLies
import Derived.OwnWalk
namespace Go.Proofs.YtegbdaffhpiacaaGreatDoor
open Go.RowKit Ar
theorem infoI8:(Tryz.prog.info? 3).map (fun i=>(i.zero,i.size,i.bytes))=some (some (.int .i64 0),1,8):=by kernel_rfl
section
variable {B:Nat} {w w':World} {sb hb g:Nat} {c:ThV} {TK:List TKey} {AK:List PA} {tw:List (Nat × Nat)} {tv lv:Value} {tr:List St} {As:List (PA × Bool)} {ls:List (List (BitVec 64))} {TT:List Tab}
def intRow (l:List Nat):List Value:=l.map (fun a:Nat=>.int .i64 (a:Int))
theorem intRow_snoc (l:List Nat) (a:Nat):intRow (l++[a])=intRow l++[.int .i64 (a:Int)]:=by simp [intRow]
set_option maxRecDepth 10000 in
set_option maxHeartbeats 1000000 in
theorem seOpen_any (h:SrR B w sb hb g c TK AK tw tv lv tr As ls TT) (hl:tr.length<=1000) (hA:AK.length<=16) :
  Calls Tryz.prog 175 #[.pointer (some ⟨sb,0,none⟩)] w fun e w'=>∃ ov,e=.returned ov/\Ext (fun _=>False) w w'/\w'.ownsRow 0 3 1 ov (opn tr AK.length).length (intRow (opn tr AK.length)):=by
 have kb:=h.blk
 obtain ⟨ta,tc,htv⟩:=row_shape h.row
 rw [htv] at kb
 have c1:=cell_of_block kb 1
 have hbl:=block_lt kb
 have H:=hide h
 have KB:=hide kb
 obtain ⟨i0,hi,hz0,hz1,hz2⟩:=info_parts infoI8
 clear h kb
 go_enter Tryz.func175,Tryz.ntmps175
 go_wp2_with fail
 go_loopw [9,3] (fun i ov wr=>∃ j:Nat,j<=AK.length/\i=.int .i64 j/\Ext (fun _=>False) w wr/\wr.ownsRow 0 3 1 ov (opn tr j).length (intRow (opn tr j))/\∀ k,ov.ownBlock=some k->w.heap.size<=k) (fun i _ _=>AK.length - (intOf i).toNat)
 case atStart=>exact ⟨0,Nat.zero_le _,rfl,Ext.refl _ _,⟨by simp [opn_zero,intRow],.inl ⟨rfl,rfl⟩⟩,by simp [Value.ownBlock]⟩
 case round =>
  obtain ⟨j,hj,rfl,hxr,hov,hob⟩:=hrel
  have HXR:=hide hxr
  have HOV:=hide hov
  have HOB:=hide hob
  have hR:=H.out.ext hxr
  have kbr:=hR.blk
  rw [htv] at kbr
  have q2:=cell_of_block kbr 2
  have hblr:=block_lt kbr
  obtain ⟨oa,oc,ho⟩:=row_shape hov
  subst ho
  clear hxr hov hob kbr
  by_cases hlt:j < AK.length
  ·obtain ⟨V,hV⟩:∃ V,wr.alloc (.cells #[.int .i64 j] 3)=V:=⟨_,rfl⟩
   have hxV:Ext (fun _=>False) wr V:=by rw [<- hV];exact (Ext.refl _ wr).alloc _
   have kV:V.heap[wr.heap.size]?=some (.cells #[.int .i64 j] 3):=by rw [<- hV];exact heap_alloc_new wr _
   have HC:=hide (hasQ_any (hR.ext hxV) hl kV)
   have KV:=hide kV
   have HXV:=hide hxV
   have HVE:=hide hV
   rw [htv] at HC
   clear hV kV hxV hR
   go_wp2_with fail
   rw [HVE.out]
   refine HC.out.mono ?_
   rintro e w2 ⟨hx2,r,rfl,hr⟩
   have HR2:=hide hr
   have kV2:=(hx2.block _ (block_lt KV.out) (fun f=>f)).trans KV.out
   have v0:=cell_of_block kV2 0
   have hvl:=block_lt kV2
   have hxr2:Ext (fun _=>False) wr w2:=HXV.out.trans hx2
   have HXR2:=hide hxr2
   have HO2:=hide (own_ext HOV.out hxr2 (fun _ _ f=>f))
   clear hr hx2 kV2 hxr2 HC
   cases r with
   | true =>
    have hin:=HR2.out.1 rfl
    have eo:opn tr (j+1)=opn tr j:=by rw [opn_succ,if_pos hin]
    have HEO:=hide eo
    clear hin eo
    go_wp2_with fail
    go_roundw
    case measure=>simp [intOf];omega
    case rel =>
     refine ⟨j+1,by omega,by go_num,HXR.out.trans HXR2.out,?_,HOB.out⟩
     rw [HEO.out]
     exact HO2.out
   | false =>
    have hin:j ∉ tr.map (·.q):=fun e=>by have:=HR2.out.2 e;simp at this
    have eo:opn tr (j+1)=opn tr j++[j]:=by rw [opn_succ,if_neg hin]
    have HEO:=hide eo
    have hol:=opn_len tr j
    clear hin eo
    go_wp2_with (at_builtin;refine wpList_append_lies _ rfl _ _ 25 rfl 0 3 i0 (.int .i64 0) 1 8 Tryz.underlying25 hi hz0 hz1 hz2 rfl (by decide) (.slice oa (opn tr j).length oc) (opn tr j).length (intRow (opn tr j)) rfl (HO2.out.alloc _) ⟨w2.heap.size,0,none⟩ 1 1 [.int .i64 j] rfl rfl ?c1 ?c2 (by omega) ?c3 ?c4 (Nat.zero_le _) (w2.heap.size+1) ?c5 ?_)
    case c1=>exact World.news_of_block (cs:=#[.int .i64 j]) (t:=3) (fr:=(0,0)) (heap_alloc_new _ _)
    case c2=>intro u2 hu2;simp at hu2;subst hu2;rfl
    case c3=>unfold maxLen;omega
    case c4=>omega
    case c5=>simp
    intro g7 cap7 w7 hown7 hgr7 hat7 hlt7
    have HF:=hide (And.intro hown7 (And.intro hgr7 hat7))
    clear hown7 hgr7 hat7
    go_wp2_with fail
    go_roundw
    case measure=>simp [intOf];omega
    case rel =>
     obtain ⟨hown7,hgr7,hat7⟩:=HF.out
     have hx7:Ext (fun _=>False) w w7:=((HXR.out.trans HXR2.out).alloc _).grown hgr7 (fun k hk hlt=>by have:=HOB.out k hk;omega)
     refine ⟨j+1,by omega,by go_num,hx7,?_,fun k hk=>?_⟩
     ·rw [HEO.out,intRow_snoc,List.length_append,List.length_singleton]
      exact hown7
     ·simp [Value.ownBlock] at hk
      subst hk
      rcases hat7 with e | e
      ·exact HOB.out _ e
      ·have h1:=HXR.out.size
       have h2:=HXR2.out.size
       omega
  ·have hjl:j=AK.length:=by omega
   subst hjl
   clear hR
   go_wp2_with fail
   go_ret
   exact ⟨_,rfl,HXR.out,HOV.out⟩
end
section
variable {B:Nat} {w w':World} {sb hb g:Nat} {c:ThV} {TK:List TKey} {AK:List PA} {tw:List (Nat × Nat)} {tv lv:Value} {tr:List St} {As:List (PA × Bool)} {ls:List (List (BitVec 64))} {TT:List Tab}
structure NewA (n:Nat) (tr:List St) (last:List (BitVec 64)) (s:St):Prop where
 tn:s.turned=false
 bl:s.blame=M3.none
 lt:s.q < n
 op:s.q ∉ tr.map (·.q)
 ex:∃ x,x < 64 * last.length/\wsHas last x=true/\x.testBit s.q=s.yes
theorem votes_yes {l:List (BitVec 64)} {a y:Nat} (hy:y=0↔∀ x,x < 64 * l.length->wsHas l x=true->x.testBit a=false) (h:¬y=0):∃ x,x < 64 * l.length/\wsHas l x=true/\x.testBit a=true:=by
 refine Classical.byContradiction fun hno=>h (hy.2 fun x hx hh=>?_)
 cases e:x.testBit a with
 | false=>rfl
 | true=>exact absurd ⟨x,hx,hh,e⟩ hno
theorem votes_no {l:List (BitVec 64)} {a n:Nat} (hn:n=0↔∀ x,x < 64 * l.length->wsHas l x=true->x.testBit a=true) (h:¬n=0):∃ x,x < 64 * l.length/\wsHas l x=true/\x.testBit a=false:=by
 refine Classical.byContradiction fun hno=>h (hn.2 fun x hx hh=>?_)
 cases e:x.testBit a with
 | true=>rfl
 | false=>exact absurd ⟨x,hx,hh,e⟩ hno
theorem votes_some {l:List (BitVec 64)} {a y n:Nat} (hne:∃ x,x < 64 * l.length/\wsHas l x=true) (hy:y=0↔∀ x,x < 64 * l.length->wsHas l x=true->x.testBit a=false) (hn:n=0↔∀ x,x < 64 * l.length->wsHas l x=true->x.testBit a=true):¬(y=0/\n=0):=by
 rintro ⟨h1,h2⟩
 obtain ⟨x,hx,hh⟩:=hne
 have e1:=hy.1 h1 x hx hh
 have e2:=hn.1 h2 x hx hh
 rw [e1] at e2
 simp at e2
theorem six_ext (w:World) (b:Nat) (u0 u1 u2 u3 u4 u5:Value):Ext (fun k=>k=b) w ((((((w.setCell ⟨b,0,none⟩ u0).setCell ⟨b,1,none⟩ u1).setCell ⟨b,2,none⟩ u2).setCell ⟨b,3,none⟩ u3).setCell ⟨b,4,none⟩ u4).setCell ⟨b,5,none⟩ u5) :=
 ((((((Ext.refl (fun k=>k=b) w).setCell (p:=⟨b,0,none⟩) (fun _=>rfl) _).setCell (p:=⟨b,1,none⟩) (fun _=>rfl) _).setCell (p:=⟨b,2,none⟩) (fun _=>rfl) _).setCell (p:=⟨b,3,none⟩) (fun _=>rfl) _).setCell (p:=⟨b,4,none⟩) (fun _=>rfl) _).setCell (p:=⟨b,5,none⟩) (fun _=>rfl) _
set_option maxRecDepth 10000 in
set_option maxHeartbeats 1000000 in
theorem seForced_any {last:List (BitVec 64)} (h:SrR B w sb hb g c TK AK tw tv lv tr As ls TT) (hl:tr.length<=1000) (hA:AK.length<=16) (hlast:ls[ls.length - 1]?=some last) (hln:ls.length<=1000) (hne:∃ x,x < 64 * last.length/\wsHas last x=true) :
  Calls Tryz.prog 131 #[.pointer (some ⟨sb,0,none⟩)] w fun e w'=>∃ s some,e=.returned (.tuple #[stVal s,.bool some])/\Ext (fun _=>False) w w'/\(some=true->NewA AK.length tr last s):=by
 obtain ⟨V,hV⟩:∃ V,w.alloc (.cells #[.int .i64 0,.bool false,.bool false,.int .u64 0,.int .u64 0,.int .u64 0] 250)=V:=⟨_,rfl⟩
 have hxV:Ext (fun _=>False) w V:=by rw [<- hV];exact (Ext.refl _ w).alloc _
 have kV:V.heap[w.heap.size]?=some (.cells #[.int .i64 0,.bool false,.bool false,.int .u64 0,.int .u64 0,.int .u64 0] 250):=by rw [<- hV];exact heap_alloc_new w _
 have HO:=hide (seOpen_any (h.ext hxV) hl hA)
 have H:=hide h
 have HVE:=hide hV
 have HXV:=hide hxV
 have KV:=hide kV
 have HNE:=hide hne
 clear h hV hxV kV hne
 go_enter Tryz.func131,Tryz.ntmps131
 go_wp2_with fail
 rw [HVE.out]
 refine HO.out.mono ?_
 rintro e w1 ⟨ov,rfl,hx1,ho1⟩
 have HX1:=hide hx1
 have HO1:=hide ho1
 obtain ⟨oa,oc,ho⟩:=row_shape ho1
 subst ho
 have hol:=opn_len tr AK.length
 clear hx1 ho1 HO
 go_wp2_with fail
 go_loopw [11] (fun i wr=>∃ j:Nat,j<=(opn tr AK.length).length/\i=.int .i64 j/\Ext (fun _=>False) w1 wr) (fun i _=>(opn tr AK.length).length - (intOf i).toNat)
 case atStart=>exact ⟨0,Nat.zero_le _,rfl,Ext.refl _ _⟩
 case round =>
  obtain ⟨j,hj,rfl,hxr⟩:=hrel
  have hxw:Ext (fun _=>False) w wr:=(HXV.out.trans HX1.out).trans hxr
  have kVr:=((HX1.out.trans hxr).block _ (block_lt KV.out) (fun f=>f)).trans KV.out
  by_cases hlt:j < (opn tr AK.length).length
  ·obtain ⟨a,haj⟩:∃ a,(opn tr AK.length)[j]?=some a:=⟨_,List.getElem?_eq_getElem hlt⟩
   have hao:=mem_opn.1 (List.mem_of_getElem? haj)
   have HAO:=hide hao
   have ho:=own_ext HO1.out hxr (fun _ _ f=>f)
   obtain ⟨og,rfl,hogl⟩:∃ og,oa=some ⟨og,0,none⟩/\og < wr.heap.size:=by
    rcases ho.2 with ⟨_,e0⟩ | ⟨g',cap,cur,hv,_,hh,_⟩
    ·omega
    ·simp at hv;exact ⟨g',hv.1,block_lt hh⟩
   have x0:wr.cell? ⟨og,j,none⟩=some (.int .i64 (a:Int)):=(ho.cellAt j (by omega)).trans (by simp [intRow,haj])
   have HWO:=hide (seWorlds_any (H.out.ext hxw) hlast hln)
   have hk1024:2 ^ (AK.length - 6)<=1024:=Nat.pow_le_pow_right (n:=2) (by decide) (by omega:AK.length - 6<=10)
   have hpat:=(H.out.ext hxw).pat.ext ((Ext.refl (fun _=>False) wr).drew) (fun f=>f)
   have HP:=hide hpat
   have ha16:a < 16:=by omega
   have e0:=cell_of_block kVr 0
   have e1:=cell_of_block kVr 1
   have e2:=cell_of_block kVr 2
   have e3:=cell_of_block kVr 3
   have e4:=cell_of_block kVr 4
   have e5:=cell_of_block kVr 5
   have f0:=frozen_of_block kVr 0
   have f1:=frozen_of_block kVr 1
   have f2:=frozen_of_block kVr 2
   have f3:=frozen_of_block kVr 3
   have f4:=frozen_of_block kVr 4
   have f5:=frozen_of_block kVr 5
   have hbl:=block_lt kVr
   have HXD:=hide hxw
   have HXR:=hide hxr
   clear hxr hxw kVr haj hao ho hpat
   go_wp2_with fail
   refine HWO.out.mono ?_
   rintro e w2 ⟨b,v,rfl,hW,hwl,rfl⟩
   have HV:=hide (votes_any a (hW.ext ((Ext.refl (fun _=>False) wr).drew) (fun f=>f)) (by omega) ha16 HP.out)
   clear hW HWO
   go_wp2_with fail
   refine HV.out.mono ?_
   rintro e w3 ⟨rfl,y,n,rfl,hy,hn⟩
   have HYN:=hide (And.intro hy hn)
   have hsome:=votes_some HNE.out hy hn
   clear hy hn HV
   by_cases hy0:y=0
   ·have hn0:¬n=0:=fun e=>hsome ⟨hy0,e⟩
    have hyi:((y:Int) == 0)=true:=by simp [hy0]
    have hni:((n:Int) == 0)=false:=by simp;omega
    have HN0:=hide (votes_no HYN.out.2 hn0)
    clear hy0 hn0 hsome HYN
    go_wp2_with fail
    refine bodyPost_ret (v:=.tuple #[.agg #[.int .i64 a,.bool false,.bool false,.int .u64 0,.int .u64 0,.int .u64 0],.bool true]) (by simp [results,Tryz.results131,go_sem,e0,e1,e2,e3,e4,e5]) rfl ⟨⟨a,false,false,M3.none⟩,true,rfl,?_,fun _=>⟨rfl,rfl,HAO.out.1,HAO.out.2,HN0.out⟩⟩
    exact (HXD.out.trans' (six_ext _ _ _ _ _ _ _ _) (fun i hi e=>by have h1:i=w.heap.size:=e;omega)).drew
   ·by_cases hn0:n=0
    ·have hyi:((y:Int) == 0)=false:=by simp;omega
     have hni:((n:Int) == 0)=true:=by simp [hn0]
     have HN0:=hide (votes_yes HYN.out.1 hy0)
     clear hy0 hn0 hsome HYN
     go_wp2_with fail
     refine bodyPost_ret (v:=.tuple #[.agg #[.int .i64 a,.bool true,.bool false,.int .u64 0,.int .u64 0,.int .u64 0],.bool true]) (by simp [results,Tryz.results131,go_sem,e0,e1,e2,e3,e4,e5]) rfl ⟨⟨a,true,false,M3.none⟩,true,rfl,?_,fun _=>⟨rfl,rfl,HAO.out.1,HAO.out.2,HN0.out⟩⟩
     exact (HXD.out.trans' (six_ext _ _ _ _ _ _ _ _) (fun i hi e=>by have h1:i=w.heap.size:=e;omega)).drew
    ·have hyi:((y:Int) == 0)=false:=by simp;omega
     have hni:((n:Int) == 0)=false:=by simp;omega
     clear hy0 hn0 hsome HYN
     go_wp2_with fail
     go_roundw
     case measure=>simp [intOf];omega
     case rel=>exact ⟨j+1,by omega,by go_num,HXR.out.drew⟩
  ·have hjl:j=(opn tr AK.length).length:=by omega
   subst hjl
   have z0:=cell_of_block kVr 0
   have z1:=cell_of_block kVr 1
   have z2:=cell_of_block kVr 2
   have z3:=cell_of_block kVr 3
   have z4:=cell_of_block kVr 4
   have z5:=cell_of_block kVr 5
   have f0:=frozen_of_block kVr 0
   have f1:=frozen_of_block kVr 1
   have f2:=frozen_of_block kVr 2
   have f3:=frozen_of_block kVr 3
   have f4:=frozen_of_block kVr 4
   have f5:=frozen_of_block kVr 5
   have hbl:=block_lt kVr
   have HXW:=hide hxw
   clear hxr kVr hxw
   go_wp2_with fail
   refine bodyPost_ret (v:=.tuple #[.agg #[.int .i64 0,.bool false,.bool false,.int .u64 0,.int .u64 0,.int .u64 0],.bool false]) (by simp [results,Tryz.results131,go_sem,z0,z1,z2,z3,z4,z5]) rfl ⟨⟨0,false,false,M3.none⟩,false,rfl,?_,fun e=>by simp at e⟩
   exact HXW.out.trans' (six_ext _ _ _ _ _ _ _ _) (fun i hi e=>by have h1:i=w.heap.size:=e;omega)
end
end Go.Proofs.YtegbdaffhpiacaaGreatDoor
