/- A part of the proof. -/
import Derived.Test.YtegbdaffhpiacaaGreatDoorMod28
import Derived.Laws.OwnMore
set_option maxRecDepth 10000
set_option maxHeartbeats 1000000
namespace Go.Proofs.YtegbdaffhpiacaaGreatDoor
open Go.Proofs.Tryz hiding parts
open Go.RowKit Go.Maps Ar
theorem zV5(a b:List Nat):O4 (a++b)=O4 a++O4 b:=by simp[O4]
structure DL(w:World)(g cap n:Nat)(l:List Nat)(one i j:Nat)(wr:World):Prop where
 ext:q9 (fun k=>k=g) w wr
 ex:∃ F M:List Nat,F=(l.take j).filter (fun x => !(x==one))/\F.length=i/\M.length=j-i/\wr.ownsRow 0 3 1 (.slice (some ⟨g,0,none⟩) n cap) n (O4 (F++(M++l.drop j)))
 ij:i<j
theorem DL.skip{w wr w1:World}{g cap n:Nat}{l:List Nat}{one i j:Nat}(h:DL w g cap n l one i j wr)(hx:q9 (fun _=>False) wr w1)(hj:l[j]?=some one):DL w g cap n l one i (j+1) w1:=by
 obtain⟨F,M,hF,hi,hM,ho⟩:=h.ex;have hij:=h.ij;refine⟨(h.ext.mono (fun _ _ e=>e)).trans' hx (fun _ _ f=>f.elim),⟨F,M++[one],?_,hi,?_,?_⟩,by omega⟩
 ·rw[hF,List.take_add_one,hj,List.filter_append];simp
 ·simp;omega
 ·have e:l.drop j=one::l.drop (j+1):=by
   obtain⟨hlt,e⟩:=List.getElem?_eq_some_iff.1 hj;rw[List.drop_eq_getElem_cons hlt,e]
  rw[e] at ho;simp only[List.append_assoc,List.singleton_append];exact z7 ho hx (fun _ _ f=>f)
theorem DL.put{w wr w1:World}{g cap n:Nat}{l:List Nat}{one i j x:Nat}(h:DL w g cap n l one i j wr)(hx:q9 (fun _=>False) wr w1)(hj:l[j]?=some x)(hne:¬x=one):DL w g cap n l one (i+1) (j+1) (w1.setCell ⟨g,i,none⟩ (.int .i64 x)):=by
 obtain⟨F,M,hF,hi,hM,ho⟩:=h.ex;have hij:=h.ij;have hs:=((z7 ho hx (fun _ _ f=>f)).stored i (.int .i64 x)).1;have e:l.drop j=x::l.drop (j+1):=by obtain⟨hlt,e⟩:=List.getElem?_eq_some_iff.1 hj;rw[List.drop_eq_getElem_cons hlt,e]
 cases M with
 | nil=>simp at hM;omega
 | cons m M=>
  refine⟨(h.ext.trans' hx (fun _ _ f=>f.elim)).trans ((q9.refl (fun k=>k=g) w1).setCell (p:=⟨g,i,none⟩) (fun _=>rfl) _),⟨F++[x],M++[x],?_,by simp[hi],by simp at hM ⊢;omega,?_⟩,by omega⟩
  ·rw[hF,List.take_add_one,hj,List.filter_append];have:(x==one)=false:=by rw[beq_eq_false_iff_ne];exact hne
   simp[this]
  ·rw[e] at hs;have e2:(O4 (F++(m::M++x::l.drop (j+1)))).set i (.int .i64 x)=O4 (F++[x]++(M++[x]++l.drop (j+1))):=by
    rw[zV5,List.set_append_right _ _ (by unfold O4;simp;omega)];have:i-(O4 F).length=0:=by unfold O4;simp;omega
    rw[this];simp[O4]
   rw[e2] at hs;exact hs
theorem qt0{w:World}{g cap n b:Nat}{l:List Nat}(one:Nat)(h:w.ownsRow 0 3 1 (.slice (some ⟨g,0,none⟩) n cap) n (O4 l))(hn:n<=20)(hb:w.heap[b]?=some (.cells #[.int .i64 one] 3))(hbg:¬b=g)(hin:one∈l):Calls prog 150 #[.slice (some ⟨g,0,none⟩) n cap,.func (.func 152) #[] #[.pointer (some ⟨b,0,none⟩)]] w fun e w'=>∃ m,e=.returned (.slice (some ⟨g,0,none⟩) m cap)/\q9 (fun k=>k=g) w w'/\w'.ownsRow 0 3 1 (.slice (some ⟨g,0,none⟩) m cap) m (O4 (l.filter (fun x => !(x==one)))):=by
 have hll:=zh2 h;obtain⟨hcap,hcm⟩:n<=cap/\cap<=maxLen:=by
  rcases h.2 with⟨e,_⟩|⟨g,cap',cur,hv,_,_,h1,h2,_⟩
  ·cases e
  ·simp at hv;obtain⟨_,rfl⟩:=hv;exact⟨h1,h2⟩
 unfold maxLen at hcm;have H:=q8 h;have HB:=q8 hb;have HC:=q8 (qI7 one h hn hb hin);clear h hb hin;go_enter func150,ntmps150;go_wp2_with fail;refine HC.out.mono ?_;rintro e w1 ⟨i,rfl,hi,ht,hno,hx1⟩;have hD:DL w g cap n l one i (i+1) w1:=by
  refine⟨hx1.mono (fun _ _ f=>f.elim),⟨l.take i,[one],?_,by rw[List.length_take];omega,by simp,?_⟩,by omega⟩
  ·rw[ht,List.filter_append,List.filter_eq_self.2 (fun x hx=>by simpa using hno x hx)];simp
  ·rw[<- List.append_assoc,<- ht,List.take_append_drop];exact z7 H.out hx1 (fun _ _ f=>f)
 have HD:=q8 hD;have hi1:((i:Int)==-1)=false:=by rw[beq_eq_false_iff_ne];omega
 clear ht hno hx1 hD HC;go_wp2_with fail
 go_loopw [5,6] (fun vi vj wr=>∃ i j:Nat,j<=n/\vi=.int .i64 i/\vj=.int .i64 j/\DL w g cap n l one i j wr) (fun _ vj _=>n-(intOf vj).toNat)
 case atStart=>exact⟨i,i+1,by omega,rfl,by go_num,HD.out⟩
 case round=>
  clear HD hi hi1;obtain⟨i,j,hj,rfl,rfl,hD⟩:=hrel;have HD:=q8 hD;have hij:=hD.ij;clear hD;by_cases hlt:j<n
  ·obtain⟨x,hx⟩:∃ x,l[j]?=some x:=⟨_,List.getElem?_eq_getElem (by omega)⟩;obtain⟨F,M,hF,hi,hM,ho⟩:=HD.out.ex;have z:=zn8 ho (j:=j) (x:=x) (by
    rw[<- List.append_assoc,List.getElem?_append_right (by simp;omega),List.getElem?_drop];have:(F++M).length=j:=by simp;omega
    rw[this];simpa using hx)
   have HCC:=q8 (zV4 x one ((HD.out.ext.block _ (z8 HB.out) hbg).trans HB.out));have HO:=q8 ho;have HXX:=q8 hx;clear hF hi hM ho hx;go_wp2_with fail;refine HCC.out.mono ?_;rintro e w2 ⟨rfl,hx2⟩;by_cases hxo:x=one
   ·have hb1:(x==one)=true:=by rw[beq_iff_eq];exact hxo
    rw[hb1];have HD2:=q8 (HD.out.skip hx2 (by rw[HXX.out,hxo]));clear hx2;go_wp2_with fail
    go_roundw
    case measure=>simp[intOf];omega
    case rel=>exact⟨i,j+1,by omega,rfl,by go_num,HD2.out⟩
   ·have hb1:(x==one)=false:=by rw[beq_eq_false_iff_ne];exact hxo
    rw[hb1];have HD2:=q8 (HD.out.put hx2 HXX.out hxo);have ho2:=z7 HO.out hx2 (fun _ _ f=>f);obtain⟨r1,r2⟩:=zb5 ho2 i (by omega);obtain⟨u,hu⟩:=Option.isSome_iff_exists.1 r1;clear hx2 ho2 r1;go_wp2_with fail
    go_roundw
    case measure=>simp[intOf];omega
    case rel=>exact⟨i+1,j+1,by omega,by go_num,by go_num,HD2.out⟩
  ·have hjn:j=n:=by omega
   subst hjn;obtain⟨F,M,hF,hi,hM,ho⟩:=HD.out.ex;rw[List.take_of_length_le (by omega)] at hF;have hge:¬(j:Int)<(j:Int):=by omega
   have hcl:∀ ty,(Builtin.clear_ #[25] ty #[.slice (some ⟨g,i,none⟩) (j-i) (cap-i)]).run prog wr=.ok (.tuple #[]) (wr.setCells g i (Builtin.zeroCells (.int .i64 0:Value).cells (j-i)).toList) :=
    fun ty=>zn2 wr _ _ ty (.int .i64 0) underlying25 (fun _=>by kernel_rfl) (by decide) (by decide) g i _ _ (by omega) (fun q hq=>(zb5 ho (i+q) (by have:q<(j-i)*1:=hq;omega)).1) (fun q hq=>(zb5 ho (i+q) (by have:q<(j-i)*1:=hq;omega)).2)
   have HO:=q8 ho;have HF:=q8 hF;have hic:i<=cap:=by omega
   clear ho hF hM;go_wp2_with fail;go_ret;obtain⟨v',e1,h1,h2,_⟩:=zA0 (m:=i) (o:=i) (vs:=(Builtin.zeroCells #[Value.int IntKind.i64 0] (j-i)).toList) HO.out (by omega) (by omega) (q9.refl _ wr);obtain rfl:Value.slice (some ⟨g,0,none⟩) i cap=v':=by simpa using e1
   have e2:(O4 (F++(M++l.drop j))).take (i*1)=O4 F:=by rw[zV5,List.take_append_of_le_length (by unfold O4;simp;omega),List.take_of_length_le (by unfold O4;simp;omega)]
   rw[e2,HF.out] at h1;exact⟨i,rfl,HD.out.ext.trans (h2.mono (fun k _ e=>by simp[Value.ownBlock] at e;exact e.symm)),h1⟩
theorem qj3{w:World}{g cap n:Nat}{l:List Nat}(one:Nat)(h:w.ownsRow 0 3 1 (.slice (some ⟨g,0,none⟩) n cap) n (O4 l))(hn:n<=20)(hin:one∈l):Calls prog 113 #[.slice (some ⟨g,0,none⟩) n cap,.int .i64 one] w fun e w'=>∃ g' m cap',e=.returned (.slice (some ⟨g',0,none⟩) m cap')/\q9 (fun _=>False) w w'/\w'.ownsRow 0 3 1 (.slice (some ⟨g',0,none⟩) m cap') m (O4 (l.filter (fun x => !(x==one)))):=by
 have hll:=zh2 h;have h0:0<n:=by rw[<- hll];exact List.length_pos_of_mem hin
 have HIN:=q8 hin;have hx0:q9 (fun _=>False) w (w.alloc (.cells #[.int .i64 one] 3)):=(q9.refl _ w).alloc _;have kb:=heap_alloc_new w (.cells #[.int .i64 one] 3);have HC:=q8 (qs9 (z7 h hx0 (fun _ _ f=>f)) (by omega) h0 (fun u hu=>by unfold O4 at hu;obtain⟨x,_,rfl⟩:=List.mem_map.1 hu;rfl));have HX0:=q8 hx0;have KB:=q8 kb;clear h hin hx0 kb;go_enter func113,ntmps113;go_wp2_with fail;refine HC.out.mono ?_;rintro e w1 ⟨v,rfl,hx1,hgb,ho1⟩;obtain⟨g1,c1,rfl⟩:∃ g1 c1,v=.slice (some ⟨g1,0,none⟩) n c1:=by
  rcases ho1.2 with⟨_,e⟩|⟨g1,c1,cur,hv,_⟩
  ·omega
  ·exact⟨g1,c1,hv⟩
 have hg1:=hgb g1 rfl;simp at hg1;have HC2:=q8 (qt0 one ho1 hn ((hx1.block _ (z8 KB.out) (fun f=>f)).trans KB.out) (by omega) HIN.out);have HX1:=q8 (HX0.out.trans hx1);clear hx1 hgb ho1 HC;go_wp2_with fail;refine HC2.out.mono ?_;rintro e w2 ⟨m,rfl,hx2,ho2⟩;have HX2:Hid (q9 (fun _=>False) w w2):=HX1.out.trans' hx2 (fun k hk e=>by omega);have HO2:=q8 ho2;clear hx2 ho2 HC2;go_wp2_with fail;go_ret;exact⟨g1,m,c1,rfl,HX2.out,HO2.out⟩
end Go.Proofs.YtegbdaffhpiacaaGreatDoor
