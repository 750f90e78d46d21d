/- A part of the proof. -/
import Derived.Test.YtegbdaffhpiacaaGreatDoorMod18
import Derived.Test.YtegbdaffhpiacaaGreatDoorMod20
set_option maxRecDepth 10000
set_option maxHeartbeats 400000
namespace Go.Proofs.YtegbdaffhpiacaaGreatDoor
open Go.Proofs.Tryz hiding parts
section
open Go.RowKit Go.Maps Ar
theorem qv9{w:World}{v:Value}{n:Nat}{cs:List Value}(h:w.ownsRow 0 145 6 v n cs)(hn:n<=100)(h1:∀ u∈cs,u.oneCell' = true):Calls prog 63 #[v] w fun e w'=>∃ v',e=.returned v'/\q9 (fun _=>False) w w'/\w'.ownsRow 0 145 6 v' n cs:=by
 obtain⟨i0,hi,hz0,hz1,hz2⟩:=info_parts zA1;rcases h.2 with⟨rfl,rfl⟩|⟨g,cap,cur,rfl,hg,hh,hc1,hc2,hc3,hc4⟩
 ·have hq:=Lib.run_eql_slice_nil (P:=prog) w 79 145 none 0 0 0 0 underlying79;have H:=q8 h;clear h;go_enter func63,ntmps63;go_wp2_with fail;go_ret;exact⟨_,rfl,q9.refl _ _,H.out⟩
 ·have hq:=Lib.run_eql_slice_nil (P:=prog) w 79 145 (some ⟨g,0,none⟩) n cap 0 0 underlying79;have H:=q8 h;have H1:=q8 h1;have hlen:=h.1;clear h h1 hh hc4;go_enter func63,ntmps63;go_wp2_with (at_builtin;refine wpList_append_own_at _ rfl _ _ 79 rfl 0 145 i0 _ 6 56 underlying79 hi hz0 hz1 hz2 rfl (by decide) _ 0 [] rfl ?c0 ⟨g,0,none⟩ n cap cs rfl ?c1 ?c2 ?c3 ?c4 ?c5 (Nat.zero_le _) ?_)
  case c0=>exact World.ownsRow_made w #[] 0 (Nat.zero_le _) (Nat.zero_le _) rfl
  case c1=>omega
  case c2=>
   intro j u hj;have h2:=((z7 H.out ((q9.refl (fun _=>False) w).alloc (.cells #[] 145)) (fun _ _ f=>f)).cellAt j (by have:=(List.getElem?_eq_some_iff.1 hj).1;omega)).trans hj;simp only[Addr.add];split
   ·rename_i h0;subst h0;exact h2
   ·simpa using h2
  case c3=>exact H1.out
  case c4=>unfold maxLen;omega
  case c5=>omega
  intro v' w1 hown hgrow hnil hat;have HO:=q8 hown;have HG:=q8 hgrow;clear hown hgrow hnil hat hq hi hz0 hz1 hz2;go_wp2_with fail;go_ret;refine⟨v',rfl,?_,by simpa using HO.out⟩;exact((q9.refl (fun _=>False) w).alloc _).grown HG.out (fun k e hk=>by have h1:w.heap.size=k:=Option.some.inj e;omega)
theorem qw0{w:World}{v:Value}{n:Nat}{cs:List Value}(h:w.ownsRow 0 153 4 v n cs)(hn:n<=100)(h1:∀ u∈cs,u.oneCell' = true):Calls prog 89 #[v] w fun e w'=>∃ v',e=.returned v'/\q9 (fun _=>False) w w'/\w'.ownsRow 0 153 4 v' n cs:=by
 obtain⟨i0,hi,hz0,hz1,hz2⟩:=info_parts zA2;rcases h.2 with⟨rfl,rfl⟩|⟨g,cap,cur,rfl,hg,hh,hc1,hc2,hc3,hc4⟩
 ·have hq:=Lib.run_eql_slice_nil (P:=prog) w 83 153 none 0 0 0 0 underlying83;have H:=q8 h;clear h;go_enter func89,ntmps89;go_wp2_with fail;go_ret;exact⟨_,rfl,q9.refl _ _,H.out⟩
 ·have hq:=Lib.run_eql_slice_nil (P:=prog) w 83 153 (some ⟨g,0,none⟩) n cap 0 0 underlying83;have H:=q8 h;have H1:=q8 h1;have hlen:=h.1;clear h h1 hh hc4;go_enter func89,ntmps89;go_wp2_with (at_builtin;refine wpList_append_own_at _ rfl _ _ 83 rfl 0 153 i0 _ 4 40 underlying83 hi hz0 hz1 hz2 rfl (by decide) _ 0 [] rfl ?c0 ⟨g,0,none⟩ n cap cs rfl ?c1 ?c2 ?c3 ?c4 ?c5 (Nat.zero_le _) ?_)
  case c0=>exact World.ownsRow_made w #[] 0 (Nat.zero_le _) (Nat.zero_le _) rfl
  case c1=>omega
  case c2=>
   intro j u hj;have h2:=((z7 H.out ((q9.refl (fun _=>False) w).alloc (.cells #[] 153)) (fun _ _ f=>f)).cellAt j (by have:=(List.getElem?_eq_some_iff.1 hj).1;omega)).trans hj;simp only[Addr.add];split
   ·rename_i h0;subst h0;exact h2
   ·simpa using h2
  case c3=>exact H1.out
  case c4=>unfold maxLen;omega
  case c5=>omega
  intro v' w1 hown hgrow hnil hat;have HO:=q8 hown;have HG:=q8 hgrow;clear hown hgrow hnil hat hq hi hz0 hz1 hz2;go_wp2_with fail;go_ret;refine⟨v',rfl,?_,by simpa using HO.out⟩;exact((q9.refl (fun _=>False) w).alloc _).grown HG.out (fun k e hk=>by have h1:w.heap.size=k:=Option.some.inj e;omega)
theorem qM5(K:List Z3):∀ u∈K.flatMap Z3.cells,u.oneCell' = true:=by intro u hu;obtain⟨x,_,hx⟩:=List.mem_flatMap.1 hu;simp[Z3.cells] at hx;rcases hx with rfl|rfl|rfl|rfl|rfl|rfl<;>rfl
theorem qM6(K:List Y2):∀ u∈K.flatMap Y2.cells,u.oneCell' = true:=by intro u hu;obtain⟨x,_,hx⟩:=List.mem_flatMap.1 hu;simp[Y2.cells] at hx;rcases hx with rfl|rfl|rfl|rfl<;>rfl
section
variable{w:World}{sb:Nat}{nv:Value}{xs:PX}{T A:List Nd}
theorem zX8(h:PSt w sb nv xs T A)(hT:T.length<=12):Calls prog 39 #[.pointer (some ⟨sb,1,none⟩)] w fun e w'=>∃ v',e=.returned v'/\q9 (fun _=>False) w w'/\w'.ownsRow 0 145 6 v' T.length ((keys T).flatMap Z3.cells):=by have c1:=z6 h.ts.blk 1;have ho:=h.ts.row.own;rw[Y3] at ho;have HC:=q8 (qv9 ho (by omega) (qM5 _));clear h ho;go_enter func39,ntmps39;go_wp2_with fail;refine HC.out.mono ?_;rintro e w1 ⟨v',rfl,h1,h2⟩;have H1:=q8 h1;have H2:=q8 h2;clear h1 h2;go_wp2_with fail;go_ret;exact⟨v',rfl,H1.out,H2.out⟩
theorem qM7(h:PSt w sb nv xs T A)(hA:A.length<=16):Calls prog 58 #[.pointer (some ⟨sb,1,none⟩)] w fun e w'=>∃ v',e=.returned v'/\q9 (fun _=>False) w w'/\w'.ownsRow 0 153 4 v' A.length ((keysA T A).flatMap Y2.cells):=by have c1:=z6 h.ts.blk 3;have ho:=h.ar.own;rw[zn6] at ho;have HC:=q8 (qw0 ho (by omega) (qM6 _));clear h ho;go_enter func58,ntmps58;go_wp2_with fail;refine HC.out.mono ?_;rintro e w1 ⟨v',rfl,h1,h2⟩;have H1:=q8 h1;have H2:=q8 h2;clear h1 h2;go_wp2_with fail;go_ret;exact⟨v',rfl,H1.out,H2.out⟩
end
end
section
open Go.RowKit Ar
noncomputable def alpha(A:List Nd)(n:Nat)(x:Nd):Bool:=n.testBit (idx A x)
def O8(w:World)(k:Nat)(P:Nat->Bool)(e:Ending)(w':World):Prop :=
 ∃ b v l,e=.returned v/\w.heap.size<=b/\q9 (fun _=>False) w w'/\WS w' b v l/\l.length=k/\∀ n,n<64*k->Z9 l n=P n
theorem FT.part{w:World}{D:Nat->Prop}{A:List Nd}{ps:List Nd}{pv:Value}{kids:List (List Value)}(how:w.ownsRow 0 112 4 pv ps.length kids.flatten)(hl:∀ cs∈kids,cs.length=4)(hn:kids.length=ps.length)
  (hk:∀ (i:Nat) (cs:List Value) (p:Nd),kids[i]?=some cs->ps[i]?=some p->FT w D A cs p) {i:Nat} {p:Nd} (hp:ps[i]?=some p):
  ∃ (g cap:Nat) (k:Int) (wd:ByteArray) (a:Int) (qa:Option Addr) (qn qc:Nat),pv=.slice (some ⟨g,0,none⟩) ps.length cap/\g<w.heap.size/\w.cell? ⟨g,i*4,none⟩=some (.int .i64 k)/\w.cell? ⟨g,i*4+1,none⟩=some (.string wd)/\w.cell? ⟨g,i*4+2,none⟩=some (.int .i64 a)/\w.cell? ⟨g,i*4+3,none⟩=some (.slice qa qn qc)/\FT w D A [.int .i64 k,.string wd,.int .i64 a,.slice qa qn qc] p:=by
 have hi:=(List.getElem?_eq_some_iff.1 hp).1;obtain⟨cs,hcs⟩:∃ cs,kids[i]?=some cs:=⟨kids[i]'(by omega),List.getElem?_eq_getElem (by omega)⟩;have hf:=hk i cs p hcs hp;have hc4:∀ j,j<4->kids.flatten[i*4+j]?=cs[j]?:=by intro j hj;have hc:=hl cs (List.mem_of_getElem? hcs);obtain⟨u,hu⟩:∃ u,cs[j]?=some u:=⟨cs[j]'(by omega),List.getElem?_eq_getElem (by omega)⟩;rw[hu];exact qN1 hl hcs hu
 rcases how.2 with⟨_,e⟩|⟨g,cap,cur,hv,_,hh,_⟩
 ·omega
 ·have hc:∀ j,j<4->w.cell? ⟨g,i*4+j,none⟩=cs[j]?:=by
   intro j hj;have ho:=how;rw[hv] at ho;rw[ho.cellAt (i*4+j) (by omega)];exact hc4 j hj
  have c0:=hc 0 (by omega);have c1:=hc 1 (by omega);have c2:=hc 2 (by omega);have c3:=hc 3 (by omega);cases hf with
  | atom hm=>exact⟨g,cap,_,_,_,_,_,_,hv,z8 hh,c0,c1,c2,c3,.atom hm⟩
  | node h2 how' hl' hn' hD' hk'=>obtain⟨qa,qc,rfl⟩:=Q0 how';exact⟨g,cap,_,_,_,_,_,_,hv,z8 hh,c0,c1,c2,c3,.node h2 how' hl' hn' hD' hk'⟩
def zL6(A:List Nd)(nd:Nd):Prop:=∀ (w:World) (D:Nat->Prop) (kk:Int) (wd:ByteArray) (a:Int) (qa:Option Addr) (qn qc:Nat),FT w D A [.int .i64 kk,.string wd,.int .i64 a,.slice qa qn qc] nd->K9 w ->
 Calls prog 92 #[.agg #[.int .i64 kk,.string wd,.int .i64 a,.slice qa qn qc],.int .i64 A.length] w (O8 w (2^(A.length-6)) (fun n=>ftr (alpha A n) nd))
theorem O8.of_ext{w W w':World}{k:Nat}{P:Nat->Bool}{e:Ending}(hx:q9 (fun _=>False) w W)(h:O8 W k P e w'):O8 w k P e w':=by obtain⟨b,v,l,h1,h2,h3,h4⟩:=h;exact⟨b,v,l,h1,Nat.le_trans hx.size h2,hx.trans h3,h4⟩
theorem zz5{n:Nat}(h:n<=16):2^(n-6)<=1024:=Nat.pow_le_pow_right (n:=2) (by decide) (by omega:n-6<=10)
theorem zU1{w:World}{D:Nat->Prop}{A ps:List Nd}{pv:Value}{kids:List (List Value)}(hA:A.length<=16)(how:w.ownsRow 0 112 4 pv ps.length kids.flatten)(hl:∀ cs∈kids,cs.length=4)(hn:kids.length=ps.length)
  (hk:∀ (i:Nat) (cs:List Value) (p:Nd),kids[i]?=some cs->ps[i]?=some p->FT w D A cs p) (hps:ps.length<=maxLen) (hih:∀ p∈ps,zL6 A p) (hp:K9 w):
  Calls prog 59 #[pv,.int .i64 A.length] w (O8 w (2^(A.length-6)) (fun n=>(ps.map (ftr (alpha A n))).all id)):=by
 obtain⟨pa,pc,rfl⟩:=Q0 how;unfold maxLen at hps;have hk2:=zz5 hA;have HC:=q8 (zZ2 (w:=w) A.length hA);have HP:=q8 hp;have HIH:=q8 hih;have HPART:=fun(i:Nat) (p:Nd) (h:ps[i]?=some p)=>FT.part how hl hn hk h
 have HPT:=q8 HPART;obtain⟨k,hkk⟩:∃ k,2^(A.length-6)=k:=⟨_,rfl⟩;unfold zL6 at HIH;rw[hkk] at HC hk2 HIH;rw[hkk];obtain⟨na,hna⟩:∃ na,A.length=na:=⟨_,rfl⟩;rw[hna] at HC HIH;rw[hna];clear hkk hp hih HPART how hl hn hk;go_enter func59,ntmps59;go_wp2_with fail;refine HC.out.mono ?_;rintro e w1 ⟨b1,v1,rfl,hb1,hx1,hw1⟩;have HX1:=q8 hx1;have HW1:=q8 hw1;clear hx1 hw1 HC;go_wp2_with fail
 go_loopw [5,12] (fun av i wr=>∃ j b l,j<=ps.length/\i=.int .i64 (j:Nat)/\q9 (fun _=>False) w wr/\w.heap.size<=b/\WS wr b av l/\l.length=k/\∀ n,n<64*k->Z9 l n=((ps.take j).map (ftr (alpha A n))).all id) (fun _ i _=>ps.length-(intOf i).toNat)
 case atStart=>exact⟨0,b1,_,Nat.zero_le _,rfl,HX1.out,hb1,HW1.out,zT7 k,fun n hn=>by rw[zT6 hn];simp⟩
 case round=>
  obtain⟨j,b,l,hj,rfl,hx,hb,hw,hlk,hh⟩:=hrel;have HX:=q8 hx;have HW:=q8 hw;have HH:=q8 hh;have HLK:=q8 hlk;clear hx hw hh hlk;by_cases hlt:j<ps.length
  ·obtain⟨p,hpj⟩:∃ p,ps[j]?=some p:=⟨_,List.getElem?_eq_getElem hlt⟩;obtain⟨g,cap,kk,wd,a,qa,qn,qc,hv,hg,c0,c1,c2,c3,hft⟩:=HPT.out j p hpj;simp at hv;obtain⟨rfl,rfl⟩:=hv;rw[<- HX.out.cell (p:=⟨g,j*4,none⟩) hg (fun f=>f)] at c0;rw[<- HX.out.cell (p:=⟨g,j*4+1,none⟩) hg (fun f=>f)] at c1;rw[<- HX.out.cell (p:=⟨g,j*4+2,none⟩) hg (fun f=>f)] at c2;rw[<- HX.out.cell (p:=⟨g,j*4+3,none⟩) hg (fun f=>f)] at c3;have HFT:=q8 hft;have HPJ:=q8 hpj;have HMEM:=q8 (List.mem_of_getElem? hpj);clear hft hpj;go_wp2_with fail;obtain⟨V,hV⟩:∃ V,wr.alloc (.cells #[.int .i64 kk,.string wd,.int .i64 a,.slice qa qn qc] 112)=V:=⟨_,rfl⟩;have HXV:Hid (q9 (fun _=>False) wr V):=by rw[<- hV];exact(q9.refl _ wr).alloc _
   rw[hV];clear hV;refine(HIH.out p HMEM.out V D kk wd a qa qn qc (HFT.out.ext (HX.out.trans HXV.out) (fun _ _ _ f=>f)) (HP.out.ext (HX.out.trans HXV.out) (fun f=>f))).mono ?_;rintro e w3 ⟨b3,v3,l3,rfl,hb3,hx3,hw3,hl3,hh3⟩;have HX3:Hid (q9 (fun _=>False) wr w3):=HXV.out.trans hx3;have HW3:=q8 hw3;have HH3:=q8 hh3;have HL3:Hid (l3.length=l.length):=hl3.trans HLK.out.symm;have hl1:l.length<=1024:=by rw[HLK.out];exact hk2
   have HAND:=q8 (zm9 (HW.out.ext HX3.out (fun f=>f)) hw3 HL3.out hl1);clear hx3 hw3 hh3 hl3 hl1 c0 c1 c2 c3;go_wp2_with fail;refine HAND.out.mono ?_;rintro e w4 ⟨b4,v4,rfl,hb4,hx4,hw4⟩;have HX4:=q8 hx4;have HW4:=q8 hw4;clear hx4 hw4 HAND;go_wp2_with fail
   go_roundw
   case measure=>simp[intOf];omega
   case rel=>
    refine⟨j+1,b4,_,by omega,by go_num,HX.out.trans (HX3.out.trans HX4.out),?_,HW4.out,(zd2 HL3.out).trans HLK.out,fun n hn=>?_⟩
    ·have:=HX.out.size;have:=HX3.out.size;omega
    ·have hn2:n<64*l.length:=by rw[HLK.out];exact hn
     rw[zj0 hn2 HL3.out,HH.out n hn,HH3.out n hn,List.take_add_one,HPJ.out];simp
  ·have hjl:j=ps.length:=by omega
   subst hjl;go_wp2_with fail;go_ret;exact⟨b,_,l,rfl,hb,HX.out,HW.out,HLK.out,fun n hn=>by rw[HH.out n hn,List.take_length]⟩
structure zn0(w:World)(D:Nat->Prop)(A ps:List Nd)(pv:Value):Prop where
 ex:∃ kids:List (List Value),w.ownsRow 0 112 4 pv ps.length kids.flatten/\(∀ cs∈kids,cs.length=4)/\kids.length=ps.length/\(∀ g,pv.ownBlock=some g->D g)/\∀ (i:Nat) (cs:List Value) (p:Nd),kids[i]?=some cs->ps[i]?=some p->FT w D A cs p
theorem zn0.ext{S D:Nat->Prop}{w w':World}{A ps:List Nd}{pv:Value}(h:zn0 w D A ps pv)(hx:q9 S w w')(hS:∀ k,k<w.heap.size->D k->¬S k):zn0 w' D A ps pv:=by obtain⟨kids,h1,h2,h3,h4,h5⟩:=h.ex;exact⟨kids,z7 h1 hx (fun k hk=>hS k (h1.lt k hk).2 (h4 k hk)),h2,h3,h4,fun i cs p a b=>(h5 i cs p a b).ext hx hS⟩
theorem zn0.part{w:World}{D:Nat->Prop}{A ps:List Nd}{pv:Value}(h:zn0 w D A ps pv){i:Nat}{p:Nd}(hp:ps[i]?=some p):
  ∃ (g cap:Nat) (k:Int) (wd:ByteArray) (a:Int) (qa:Option Addr) (qn qc:Nat),pv=.slice (some ⟨g,0,none⟩) ps.length cap/\g<w.heap.size/\w.cell? ⟨g,i*4,none⟩=some (.int .i64 k)/\w.cell? ⟨g,i*4+1,none⟩=some (.string wd)/\w.cell? ⟨g,i*4+2,none⟩=some (.int .i64 a)/\w.cell? ⟨g,i*4+3,none⟩=some (.slice qa qn qc)/\FT w D A [.int .i64 k,.string wd,.int .i64 a,.slice qa qn qc] p:=by
 obtain⟨kids,h1,h2,h3,h4,h5⟩:=h.ex;exact FT.part h1 h2 h3 h5 hp
theorem zn1{w:World}{D:Nat->Prop}{A ps:List Nd}{fb nb:Nat}{kk a:Int}{wd:ByteArray}{qa:Option Addr}{qn qc:Nat}(i:Nat){p:Nd}(kf:w.heap[fb]?=some (.cells #[.int .i64 kk,.string wd,.int .i64 a,.slice qa qn qc] 112))(kn:w.heap[nb]?=some (.cells #[.int .i64 A.length] 3))
  (hkids:zn0 w D A ps (.slice qa qn qc)) (hp:ps[i]?=some p) (hih:zL6 A p) (hpat:K9 w):
  Calls prog 172 #[.int .i64 i,.pointer (some ⟨fb,0,none⟩),.pointer (some ⟨nb,0,none⟩)] w (O8 w (2^(A.length-6)) (fun n=>ftr (alpha A n) p)):=by
 obtain⟨g,cap,k',wd',a',qa',qn',qc',hv,hg,c0,c1,c2,c3,hft⟩:=hkids.part hp;simp only[Value.slice.injEq] at hv;obtain⟨rfl,rfl,rfl⟩:=hv;have hi:=(List.getElem?_eq_some_iff.1 hp).1;have f3:=z6 kf 3;have n0:=z6 kn 0;have HC:=q8 (hih w.drew D k' wd' a' qa' qn' qc' (hft.ext ((q9.refl (fun _=>False) w).drew) (fun _ _ _ f=>f)) (hpat.ext ((q9.refl (fun _=>False) w).drew) (fun f=>f)));have HD:Hid (q9 (fun _=>False) w w.drew):=(q9.refl _ w).drew;clear hkids hft kf kn hih hpat hp;go_enter func172,ntmps172;go_wp2_with fail
 go_region_law (go_simp;go_wp2_with (go_at_call 92;refine HC.out.mono ?_;rintro e w3 hpost;have HPO:=q8 hpost;obtain⟨b3,v3,l3,rfl,_⟩:=hpost))
 all_goals
  go_wp2_with fail;go_ret;exact O8.of_ext HD.out HPO.out
theorem jb2(b:Bool):con zk0 [b] = !b:=by simp[con]
theorem jb3(a b:Bool):con qV8 [a,b]=(!a || b):=by unfold con;rw[if_neg (by decide),if_pos (by decide)];simp
theorem jb4(a b:Bool):con zo0 [a,b]=((a && b) || !(a || b)):=by unfold con;rw[if_neg (by decide),if_neg (by decide),if_pos rfl];cases a<;>cases b<;>rfl
theorem jn9(l:List Bool):con wOr l=l.any id:=by unfold con;rw[if_neg (by decide),if_neg (by decide),if_neg (by decide),if_pos rfl]
theorem jb5(l:List Bool):con zl0 l=l.all id:=by unfold con;rw[if_neg (by decide),if_neg (by decide),if_neg (by decide),if_neg (by decide)]
theorem zz6(α:Nd->Bool)(wd:ByteArray)(v:Int)(ps:List Nd):ftr α (.mk 1 wd v ps)=con wd.toList (ps.map (ftr α)):=by simp only[ftr,qk8];rw[if_neg (by decide),if_neg (by decide)]
theorem qQ1{w:World}{D:Nat->Prop}{A:List Nd}{p:Nd}{wd:ByteArray}{qa:Option Addr}{qn qc:Nat}(hA:A.length<=16)(hw:wd.toList=zk0)(hkids:zn0 w D A [p] (.slice qa qn qc))(hih:zL6 A p)(hp:K9 w):
  Calls prog 128 #[.agg #[.int .i64 1,.string wd,.int .i64 0,.slice qa qn qc],.int .i64 A.length] w (O8 w (2^(A.length-6)) (fun n=>ftr (alpha A n) (.mk 1 wd 0 [p]))):=by
 have hf:∀ n,ftr (alpha A n) (.mk 1 wd 0 [p]) = !ftr (alpha A n) p:=fun n=>by rw[zz6,hw];exact jb2 _
 have HF:=q8 hf;have hwd:=zr4 hw;have hk2:=zz5 hA;obtain⟨W,hW⟩:∃ W,(w.alloc (.cells #[.int .i64 1,.string wd,.int .i64 0,.slice qa qn qc] 112)).alloc (.cells #[.int .i64 A.length] 3)=W:=⟨_,rfl⟩;have hxW:q9 (fun _=>False) w W:=by rw[<- hW];exact((q9.refl _ w).alloc _).alloc _
 have kf:W.heap[w.heap.size]?=some (.cells #[.int .i64 1,.string wd,.int .i64 0,.slice qa qn qc] 112):=by rw[<- hW,heap_alloc_old _ _ (by simp)];exact heap_alloc_new w _
 have kn:W.heap[w.heap.size+1]?=some (.cells #[.int .i64 A.length] 3):=by rw[<- hW];exact heap_alloc2_new w _ _
 have HC:=q8 (zn1 0 kf kn (hkids.ext hxW (fun _ _ _ f=>f)) rfl hih (hp.ext hxW (fun f=>f)));have HXW:=q8 hxW;have HWE:=q8 hW;clear hW;rw[show zk0.toArray=#[110,111,116] from rfl] at hwd;obtain⟨k,hkk⟩:∃ k,2^(A.length-6)=k:=⟨_,rfl⟩;rw[hkk] at HC hk2;rw[hkk];subst hwd;clear hw hf hkids hih hp hxW kf kn hkk;go_enter func128,ntmps128;go_wp2_with fail;rw[HWE.out];clear HWE;refine HC.out.mono ?_;rintro e w3 ⟨b3,v3,l3,rfl,hb3,hx3,hw3,hl3,hh3⟩;have HX3:=q8 hx3;have HH3:=q8 hh3;have HL3:=q8 hl3;have HN:=q8 (zi7 hw3 (by rw[hl3];exact hk2));clear hx3 hw3 hh3 hl3 HC;go_wp2_with fail;refine HN.out.mono ?_;rintro e w4 ⟨b4,v4,rfl,hb4,hx4,hw4⟩;have HX4:=q8 hx4;have HW4:=q8 hw4;clear hx4 hw4 HN;go_wp2_with fail;go_ret;refine⟨b4,v4,_,rfl,?_,HXW.out.trans (HX3.out.trans HX4.out),HW4.out,(O9 _).trans HL3.out,fun n hn=>?_⟩
 ·have:=HXW.out.size;have:=HX3.out.size;omega
 ·rw[zg4 (by rw[HL3.out];exact hn),HH3.out n hn];exact(HF.out n).symm
theorem qQ2{w:World}{D:Nat->Prop}{A:List Nd}{p q:Nd}{wd:ByteArray}{qa:Option Addr}{qn qc:Nat}(hA:A.length<=16)(hw:wd.toList=qV8)(hkids:zn0 w D A [p,q] (.slice qa qn qc))(hih:zL6 A p)(hiq:zL6 A q)(hp:K9 w):
  Calls prog 128 #[.agg #[.int .i64 1,.string wd,.int .i64 0,.slice qa qn qc],.int .i64 A.length] w (O8 w (2^(A.length-6)) (fun n=>ftr (alpha A n) (.mk 1 wd 0 [p,q]))):=by
 have hf:∀ n,ftr (alpha A n) (.mk 1 wd 0 [p,q])=(!ftr (alpha A n) p || ftr (alpha A n) q):=fun n=>by rw[zz6,hw];exact jb3 _ _
 have HF:=q8 hf;have hwd:=zr4 hw;have hk2:=zz5 hA;obtain⟨W,hW⟩:∃ W,(w.alloc (.cells #[.int .i64 1,.string wd,.int .i64 0,.slice qa qn qc] 112)).alloc (.cells #[.int .i64 A.length] 3)=W:=⟨_,rfl⟩;have hxW:q9 (fun _=>False) w W:=by rw[<- hW];exact((q9.refl _ w).alloc _).alloc _
 have kf:W.heap[w.heap.size]?=some (.cells #[.int .i64 1,.string wd,.int .i64 0,.slice qa qn qc] 112):=by rw[<- hW,heap_alloc_old _ _ (by simp)];exact heap_alloc_new w _
 have kn:W.heap[w.heap.size+1]?=some (.cells #[.int .i64 A.length] 3):=by rw[<- hW];exact heap_alloc2_new w _ _
 have HC:=q8 (zn1 0 kf kn (hkids.ext hxW (fun _ _ _ f=>f)) rfl hih (hp.ext hxW (fun f=>f)));have HC2:Hid (∀ W',q9 (fun _=>False) W W'->Calls prog 172 #[.int .i64 1,.pointer (some ⟨w.heap.size,0,none⟩),.pointer (some ⟨w.heap.size+1,0,none⟩)] W' (O8 W' (2^(A.length-6)) (fun n=>ftr (alpha A n) q))) :=
  fun W' hx=>zn1 (p:=q) 1 ((hx.block _ (z8 kf) (fun f=>f)).trans kf) ((hx.block _ (z8 kn) (fun f=>f)).trans kn) (hkids.ext (hxW.trans hx) (fun _ _ _ f=>f)) rfl hiq (hp.ext (hxW.trans hx) (fun f=>f))
 have HXW:=q8 hxW;have HWE:=q8 hW;clear hW;rw[show qV8.toArray=#[61,62] from rfl] at hwd;obtain⟨k,hkk⟩:∃ k,2^(A.length-6)=k:=⟨_,rfl⟩;rw[hkk] at HC hk2 HC2;rw[hkk];subst hwd;clear hw hf hkids hih hiq hp hxW kf kn hkk;go_enter func128,ntmps128;go_wp2_with fail;rw[HWE.out];clear HWE;refine HC.out.mono ?_;rintro e w3 ⟨b3,v3,l3,rfl,hb3,hx3,hw3,hl3,hh3⟩;have HX3:=q8 hx3;have HH3:=q8 hh3;have HL3:=q8 hl3;have HN:=q8 (zi7 hw3 (by rw[hl3];exact hk2));clear hx3 hw3 hh3 hl3 HC;go_wp2_with fail;refine HN.out.mono ?_;rintro e w4 ⟨b4,v4,rfl,hb4,hx4,hw4⟩;have HX4:Hid (q9 (fun _=>False) W w4):=HX3.out.trans hx4;have HW4:=q8 hw4;clear hx4 hw4 HN;go_wp2_with fail;refine(HC2.out w4 HX4.out).mono ?_;rintro e w5 ⟨b5,v5,l5,rfl,hb5,hx5,hw5,hl5,hh5⟩;have HX5:Hid (q9 (fun _=>False) W w5):=HX4.out.trans hx5;have HH5:=q8 hh5;have HL5:Hid (l5.length=(U3 l3).length):=by show _=_;rw[O9,HL3.out,hl5]
 have hlt:(U3 l3).length<=1024:=by rw[O9,HL3.out];exact hk2
 have HO:=q8 (zz3 (HW4.out.ext hx5 (fun f=>f)) hw5 HL5.out hlt);clear hx5 hw5 hh5 hl5 hlt HC2;go_wp2_with fail;refine HO.out.mono ?_;rintro e w6 ⟨b6,v6,rfl,hb6,hx6,hw6⟩;have HX6:=q8 hx6;have HW6:=q8 hw6;clear hx6 hw6 HO;go_wp2_with fail;go_ret;refine⟨b6,v6,_,rfl,?_,HXW.out.trans (HX5.out.trans HX6.out),HW6.out,(zk7 HL5.out).trans ((O9 _).trans HL3.out),fun n hn=>?_⟩
 ·have:=HXW.out.size;have:=HX5.out.size;omega
 ·have hn3:n<64*l3.length:=by rw[HL3.out];exact hn
  rw[zC4 (by rw[O9];exact hn3) HL5.out,zg4 hn3,HH3.out n hn,HH5.out n hn];exact(HF.out n).symm
theorem qQ3{w:World}{D:Nat->Prop}{A:List Nd}{p q:Nd}{wd:ByteArray}{qa:Option Addr}{qn qc:Nat}(hA:A.length<=16)(hw:wd.toList=zo0)(hkids:zn0 w D A [p,q] (.slice qa qn qc))(hih:zL6 A p)(hiq:zL6 A q)(hp:K9 w):
  Calls prog 128 #[.agg #[.int .i64 1,.string wd,.int .i64 0,.slice qa qn qc],.int .i64 A.length] w (O8 w (2^(A.length-6)) (fun n=>ftr (alpha A n) (.mk 1 wd 0 [p,q]))):=by
 have hf:∀ n,ftr (alpha A n) (.mk 1 wd 0 [p,q])=((ftr (alpha A n) p && ftr (alpha A n) q) || !(ftr (alpha A n) p || ftr (alpha A n) q)):=fun n=>by rw[zz6,hw];exact jb4 _ _
 have HF:=q8 hf;have hwd:=zr4 hw;have hk2:=zz5 hA;obtain⟨W,hW⟩:∃ W,(w.alloc (.cells #[.int .i64 1,.string wd,.int .i64 0,.slice qa qn qc] 112)).alloc (.cells #[.int .i64 A.length] 3)=W:=⟨_,rfl⟩;have hxW:q9 (fun _=>False) w W:=by rw[<- hW];exact((q9.refl _ w).alloc _).alloc _
 have kf:W.heap[w.heap.size]?=some (.cells #[.int .i64 1,.string wd,.int .i64 0,.slice qa qn qc] 112):=by rw[<- hW,heap_alloc_old _ _ (by simp)];exact heap_alloc_new w _
 have kn:W.heap[w.heap.size+1]?=some (.cells #[.int .i64 A.length] 3):=by rw[<- hW];exact heap_alloc2_new w _ _
 have HC:=q8 (zn1 0 kf kn (hkids.ext hxW (fun _ _ _ f=>f)) rfl hih (hp.ext hxW (fun f=>f)));have HC2:Hid (∀ W',q9 (fun _=>False) W W'->Calls prog 172 #[.int .i64 1,.pointer (some ⟨w.heap.size,0,none⟩),.pointer (some ⟨w.heap.size+1,0,none⟩)] W' (O8 W' (2^(A.length-6)) (fun n=>ftr (alpha A n) q))) :=
  fun W' hx=>zn1 (p:=q) 1 ((hx.block _ (z8 kf) (fun f=>f)).trans kf) ((hx.block _ (z8 kn) (fun f=>f)).trans kn) (hkids.ext (hxW.trans hx) (fun _ _ _ f=>f)) rfl hiq (hp.ext (hxW.trans hx) (fun f=>f))
 have HXW:=q8 hxW;have HWE:=q8 hW;clear hW;rw[show zo0.toArray=#[105,102,102] from rfl] at hwd;obtain⟨k,hkk⟩:∃ k,2^(A.length-6)=k:=⟨_,rfl⟩;rw[hkk] at HC hk2 HC2;rw[hkk];subst hwd;clear hw hf hkids hih hiq hp hxW kf kn hkk;go_enter func128,ntmps128;go_wp2_with fail;rw[HWE.out];clear HWE;refine HC.out.mono ?_;rintro e w3 ⟨b3,v3,l3,rfl,hb3,hx3,hw3,hl3,hh3⟩;have HX3:=q8 hx3;have HW3:=q8 hw3;have HH3:=q8 hh3;have HL3:=q8 hl3;clear hx3 hw3 hh3 hl3 HC;go_wp2_with fail;refine(HC2.out w3 HX3.out).mono ?_;rintro e w5 ⟨b5,v5,l5,rfl,hb5,hx5,hw5,hl5,hh5⟩;have HX5:Hid (q9 (fun _=>False) W w5):=HX3.out.trans hx5;have HH5:=q8 hh5;have HW5:=q8 hw5;have HW35:=q8 (HW3.out.ext hx5 (fun f=>f));have HL5:Hid (l5.length=l3.length):=hl5.trans HL3.out.symm;have hlt:l3.length<=1024:=by rw[HL3.out];exact hk2
 have HLT:=q8 hlt;have HO:=q8 (zm9 HW35.out hw5 HL5.out hlt);clear hx5 hw5 hh5 hl5 hlt HC2;go_wp2_with fail;refine HO.out.mono ?_;rintro e w6 ⟨b6,v6,rfl,hb6,hx6,hw6⟩;have HX6:Hid (q9 (fun _=>False) W w6):=HX5.out.trans hx6;have HW6:=q8 hw6;have HO2:=q8 (zz3 (HW35.out.ext hx6 (fun f=>f)) (HW5.out.ext hx6 (fun f=>f)) HL5.out HLT.out);clear hx6 hw6 HO;go_wp2_with fail;refine HO2.out.mono ?_;rintro e w7 ⟨b7,v7,rfl,hb7,hx7,hw7⟩;have HX7:Hid (q9 (fun _=>False) W w7):=HX6.out.trans hx7;have HW67:=q8 (HW6.out.ext hx7 (fun f=>f));have HO3:=q8 (zi7 hw7 (by rw[zk7 HL5.out];exact HLT.out));clear hx7 hw7 HO2;go_wp2_with fail;refine HO3.out.mono ?_;rintro e w8 ⟨b8,v8,rfl,hb8,hx8,hw8⟩;have HX8:Hid (q9 (fun _=>False) W w8):=HX7.out.trans hx8;have HLE:Hid ((U3 (qb8 l3 l5)).length=(V6 l3 l5).length):=by show _=_;rw[O9,zk7 HL5.out,zd2 HL5.out]
 have HO4:=q8 (zz3 (HW67.out.ext hx8 (fun f=>f)) hw8 HLE.out (by rw[zd2 HL5.out];exact HLT.out));clear hx8 hw8 HO3;go_wp2_with fail;refine HO4.out.mono ?_;rintro e w9 ⟨b9,v9,rfl,hb9,hx9,hw9⟩;have HX9:=q8 hx9;have HW9:=q8 hw9;clear hx9 hw9 HO4;go_wp2_with fail;go_ret;refine⟨b9,v9,_,rfl,?_,HXW.out.trans (HX8.out.trans HX9.out),HW9.out,(zk7 HLE.out).trans ((zd2 HL5.out).trans HL3.out),fun n hn=>?_⟩
 ·have:=HXW.out.size;have:=HX8.out.size;omega
 ·have hn3:n<64*l3.length:=by rw[HL3.out];exact hn
  rw[zC4 (by rw[zd2 HL5.out];exact hn3) HLE.out,zj0 hn3 HL5.out,zg4 (by rw[zk7 HL5.out];exact hn3),zC4 hn3 HL5.out,HH3.out n hn,HH5.out n hn];exact(HF.out n).symm
theorem qP5{w:World}{D:Nat->Prop}{A ps:List Nd}{wd:ByteArray}{qa:Option Addr}{qn qc:Nat}(hA:A.length<=16)(hw:wd.toList=zl0)(hkids:zn0 w D A ps (.slice qa qn qc))(hps:ps.length<=maxLen)(hih:∀ p∈ps,zL6 A p)(hp:K9 w):
  Calls prog 128 #[.agg #[.int .i64 1,.string wd,.int .i64 0,.slice qa qn qc],.int .i64 A.length] w (O8 w (2^(A.length-6)) (fun n=>ftr (alpha A n) (.mk 1 wd 0 ps))):=by
 have hf:∀ n,ftr (alpha A n) (.mk 1 wd 0 ps)=(ps.map (ftr (alpha A n))).all id:=fun n=>by rw[zz6,hw];exact jb5 _
 have HF:=q8 hf;have hwd:=zr4 hw;obtain⟨W,hW⟩:∃ W,(w.alloc (.cells #[.int .i64 1,.string wd,.int .i64 0,.slice qa qn qc] 112)).alloc (.cells #[.int .i64 A.length] 3)=W:=⟨_,rfl⟩;have hxW:q9 (fun _=>False) w W:=by rw[<- hW];exact((q9.refl _ w).alloc _).alloc _
 obtain⟨kids,k1,k2,k3,k4,k5⟩:=(hkids.ext hxW (fun _ _ _ f=>f)).ex;have HC:=q8 (zU1 hA k1 k2 k3 k5 hps hih (hp.ext hxW (fun f=>f)));have HXW:=q8 hxW;have HWE:=q8 hW;rw[show zl0.toArray=#[97,110,100] from rfl] at hwd;obtain⟨k,hkk⟩:∃ k,2^(A.length-6)=k:=⟨_,rfl⟩;rw[hkk] at HC;rw[hkk];subst hwd;clear hw hf hkids hih hp hxW hW hkk k1 k2 k3 k4 k5;go_enter func128,ntmps128;go_wp2_with fail;rw[HWE.out];clear HWE;refine HC.out.mono ?_;rintro e w3 ⟨b3,v3,l3,rfl,hb3,hx3,hw3,hl3,hh3⟩;have HX3:=q8 hx3;have HW3:=q8 hw3;have HH3:=q8 hh3;have HL3:=q8 hl3;clear hx3 hw3 hh3 hl3 HC;go_wp2_with fail;go_ret;exact⟨b3,v3,l3,rfl,by have:=HXW.out.size;omega,HXW.out.trans HX3.out,HW3.out,HL3.out,fun n hn=>(HH3.out n hn).trans (HF.out n).symm⟩
theorem ja8{w:World}{D:Nat->Prop}{A ps:List Nd}{wd:ByteArray}{qa:Option Addr}{qn qc:Nat}(hA:A.length<=16)(hw:wd.toList=wOr)(hkids:zn0 w D A ps (.slice qa qn qc))(hps:ps.length<=maxLen)(hih:∀ p∈ps,zL6 A p)(hp:K9 w):
  Calls prog 128 #[.agg #[.int .i64 1,.string wd,.int .i64 0,.slice qa qn qc],.int .i64 A.length] w (O8 w (2^(A.length-6)) (fun n=>ftr (alpha A n) (.mk 1 wd 0 ps))):=by
 have hf:∀ n,ftr (alpha A n) (.mk 1 wd 0 ps)=(ps.map (ftr (alpha A n))).any id:=fun n=>by rw[zz6,hw];exact jn9 _
 have HF:=q8 hf;have hwd:=zr4 hw;have hk2:=zz5 hA;unfold maxLen at hps;have hqn:qn=ps.length:=by obtain⟨kids,k1,_⟩:=hkids.ex;obtain⟨a,c,e⟩:=Q0 k1;simp at e;exact e.2.1
 subst hqn;obtain⟨W,hW⟩:∃ W,(w.alloc (.cells #[.int .i64 1,.string wd,.int .i64 0,.slice qa ps.length qc] 112)).alloc (.cells #[.int .i64 A.length] 3)=W:=⟨_,rfl⟩;have hxW:q9 (fun _=>False) w W:=by rw[<- hW];exact((q9.refl _ w).alloc _).alloc _
 have kf:W.heap[w.heap.size]?=some (.cells #[.int .i64 1,.string wd,.int .i64 0,.slice qa ps.length qc] 112):=by rw[<- hW,heap_alloc_old _ _ (by simp)];exact heap_alloc_new w _
 have kn:W.heap[w.heap.size+1]?=some (.cells #[.int .i64 A.length] 3):=by rw[<- hW];exact heap_alloc2_new w _ _
 have HC:=q8 (zy9 (w:=W) A.length hA);have HC2:Hid (∀ (i:Nat) (p:Nd),ps[i]?=some p->∀ W',q9 (fun _=>False) W W'->Calls prog 172 #[.int .i64 i,.pointer (some ⟨w.heap.size,0,none⟩),.pointer (some ⟨w.heap.size+1,0,none⟩)] W' (O8 W' (2^(A.length-6)) (fun n=>ftr (alpha A n) p))) :=
  fun i p hpi W' hx=>zn1 i ((hx.block _ (z8 kf) (fun f=>f)).trans kf) ((hx.block _ (z8 kn) (fun f=>f)).trans kn) (hkids.ext (hxW.trans hx) (fun _ _ _ f=>f)) hpi (hih p (List.mem_of_getElem? hpi)) (hp.ext (hxW.trans hx) (fun f=>f))
 have HXW:=q8 hxW;have HWE:=q8 hW;rw[show wOr.toArray=#[111,114] from rfl] at hwd;obtain⟨k,hkk⟩:∃ k,2^(A.length-6)=k:=⟨_,rfl⟩;rw[hkk] at HC hk2 HC2;rw[hkk];have f3:=z6 kf 3;have KF:=q8 kf;subst hwd;clear hw hf hkids hih hp hxW hW hkk kf kn;go_enter func128,ntmps128;go_wp2_with fail;rw[HWE.out];clear HWE;refine HC.out.mono ?_;rintro e w1 ⟨b1,v1,rfl,hb1,hx1,hw1⟩;have HX1:=q8 hx1;have HW1:=q8 hw1;have g3:=(hx1.cell (p:=⟨w.heap.size,3,none⟩) (z8 KF.out) (fun f=>f)).trans f3;clear hx1 hw1 HC f3;go_wp2_with fail
 go_loopw [8,47] (fun av i wr=>∃ j b l,j<=ps.length/\i=.int .i64 (j:Nat)/\q9 (fun _=>False) W wr/\W.heap.size<=b/\WS wr b av l/\l.length=k/\∀ n,n<64*k->Z9 l n=((ps.take j).map (ftr (alpha A n))).any id) (fun _ i _=>ps.length-(intOf i).toNat)
 case atStart=>exact⟨0,b1,_,Nat.zero_le _,rfl,HX1.out,hb1,HW1.out,U6 k,fun n hn=>by rw[zq0];simp⟩
 case round=>
  obtain⟨j,b,l,hj,rfl,hx,hb,hw,hlk,hh⟩:=hrel;have HX:=q8 hx;have HW:=q8 hw;have HH:=q8 hh;have HLK:=q8 hlk;clear hx hw hh hlk g3;by_cases hlt:j<ps.length
  ·obtain⟨p,hpj⟩:∃ p,ps[j]?=some p:=⟨_,List.getElem?_eq_getElem hlt⟩;have HPJ:=q8 hpj;clear hpj;go_wp2_with fail;refine(HC2.out j p HPJ.out wr HX.out).mono ?_;rintro e w3 ⟨b3,v3,l3,rfl,hb3,hx3,hw3,hl3,hh3⟩;have HX3:=q8 hx3;have HH3:=q8 hh3;have HL3:Hid (l3.length=l.length):=hl3.trans HLK.out.symm;have hl1:l.length<=1024:=by rw[HLK.out];exact hk2
   have HOR:=q8 (zz3 (HW.out.ext hx3 (fun f=>f)) hw3 HL3.out hl1);clear hx3 hw3 hh3 hl3 hl1;go_wp2_with fail;refine HOR.out.mono ?_;rintro e w4 ⟨b4,v4,rfl,hb4,hx4,hw4⟩;have HX4:=q8 hx4;have HW4:=q8 hw4;clear hx4 hw4 HOR;go_wp2_with fail
   go_roundw
   case measure=>simp[intOf];omega
   case rel=>
    refine⟨j+1,b4,_,by omega,by go_num,HX.out.trans (HX3.out.trans HX4.out),?_,HW4.out,(zk7 HL3.out).trans HLK.out,fun n hn=>?_⟩
    ·have:=HX.out.size;have:=HX3.out.size;omega
    ·have hn2:n<64*l.length:=by rw[HLK.out];exact hn
     rw[zC4 hn2 HL3.out,HH.out n hn,HH3.out n hn,List.take_add_one,HPJ.out];simp
  ·have hjl:j=ps.length:=by omega
   subst hjl;go_wp2_with fail;go_ret;refine⟨b,_,l,rfl,?_,HXW.out.trans HX.out,HW.out,HLK.out,fun n hn=>?_⟩
   ·have:=HXW.out.size;omega
   ·rw[HH.out n hn,List.take_length];exact(HF.out n).symm
theorem zy8{w:World}{A ps:List Nd}{wd:ByteArray}{qa:Option Addr}{qn qc:Nat}
  (h:∀ W,q9 (fun _=>False) w W->Calls prog 128 #[.agg #[.int .i64 1,.string wd,.int .i64 0,.slice qa qn qc],.int .i64 A.length] W (O8 W (2^(A.length-6)) (fun n=>ftr (alpha A n) (.mk 1 wd 0 ps)))):
  Calls prog 92 #[.agg #[.int .i64 1,.string wd,.int .i64 0,.slice qa qn qc],.int .i64 A.length] w (O8 w (2^(A.length-6)) (fun n=>ftr (alpha A n) (.mk 1 wd 0 ps))):=by
 have HC:=q8 h;clear h;go_enter func92,ntmps92;go_wp2_with fail;refine(HC.out _ ((q9.refl _ w).alloc _)).mono ?_;rintro e w3 hpost;have HPO:=q8 hpost;obtain⟨b3,v3,l3,rfl,_⟩:=hpost;go_wp2_with fail;go_ret;exact O8.of_ext ((q9.refl _ w).alloc _) HPO.out
theorem zn0.few{w:World}{D:Nat->Prop}{A ps:List Nd}{pv:Value}(h:zn0 w D A ps pv):ps.length<=maxLen:=by
 obtain⟨kids,h1,_⟩:=h.ex;rcases h1.2 with⟨_,e⟩|⟨g,cap,cur,_,_,_,h2,h3,_⟩
 ·rw[e];exact Nat.zero_le _
 ·exact Nat.le_trans h2 h3
theorem qP6{w:World}{A:List Nd}{wd:ByteArray}{qa:Option Addr}{qn qc:Nat}(hA:A.length<=16)(hw:wd.toList=zn9\/wd.toList=zh7):
  Calls prog 92 #[.agg #[.int .i64 0,.string wd,.int .i64 0,.slice qa qn qc],.int .i64 A.length] w (O8 w (2^(A.length-6)) (fun n=>ftr (alpha A n) (.mk 0 wd 0 []))):=by
 have hxV:q9 (fun _=>False) w (w.alloc (.cells #[.int .i64 0,.string wd,.int .i64 0,.slice qa qn qc] 112)):=(q9.refl _ w).alloc _;rcases hw with hw|hw
 ·have HC:=q8 (zZ2 (w:=w.alloc (.cells #[.int .i64 0,.string wd,.int .i64 0,.slice qa qn qc] 112)) A.length hA);have HF:Hid (∀ n,ftr (alpha A n) (.mk 0 wd 0 [])=true):=fun n=>by unfold ftr;rw[if_neg (by decide),if_pos rfl];exact decide_eq_true hw
  have hwd:=zr4 hw;rw[show zn9.toArray=#[116,114,117,101] from rfl] at hwd;have HXV:=q8 hxV;subst hwd;clear hw hxV;go_enter func92,ntmps92;go_wp2_with fail;refine HC.out.mono ?_;rintro e w3 ⟨b3,v3,rfl,hb3,hx3,hw3⟩;have HX3:=q8 hx3;have HW3:=q8 hw3;clear hx3 hw3 HC;go_wp2_with fail;go_ret;exact⟨b3,v3,_,rfl,by have:=HXV.out.size;omega,HXV.out.trans HX3.out,HW3.out,zT7 _,fun n hn=>by rw[zT6 hn];exact(HF.out n).symm⟩
 ·have HC:=q8 (zy9 (w:=w.alloc (.cells #[.int .i64 0,.string wd,.int .i64 0,.slice qa qn qc] 112)) A.length hA);have HF:Hid (∀ n,ftr (alpha A n) (.mk 0 wd 0 [])=false):=fun n=>by unfold ftr;rw[if_neg (by decide),if_pos rfl];exact decide_eq_false (by rw[hw];decide)
  have hwd:=zr4 hw;rw[show zh7.toArray=#[102,97,108,115,101] from rfl] at hwd;have HXV:=q8 hxV;subst hwd;clear hw hxV;go_enter func92,ntmps92;go_wp2_with fail;refine HC.out.mono ?_;rintro e w3 ⟨b3,v3,rfl,hb3,hx3,hw3⟩;have HX3:=q8 hx3;have HW3:=q8 hw3;clear hx3 hw3 HC;go_wp2_with fail;go_ret;exact⟨b3,v3,_,rfl,by have:=HXV.out.size;omega,HXV.out.trans HX3.out,HW3.out,U6 _,fun n hn=>by rw[zq0];exact(HF.out n).symm⟩
theorem qy3{w:World}{D:Nat->Prop}{A:List Nd}{kk a:Int}{wd word:ByteArray}{v:Int}{ps:List Nd}{qa:Option Addr}{qn qc:Nat}(hA:A.length<=16)(h:FT w D A [.int .i64 kk,.string wd,.int .i64 a,.slice qa qn qc] (.mk 2 word v ps))(hp:K9 w):
  Calls prog 92 #[.agg #[.int .i64 kk,.string wd,.int .i64 a,.slice qa qn qc],.int .i64 A.length] w (O8 w (2^(A.length-6)) (fun n=>ftr (alpha A n) (.mk 2 word v ps))):=by
 cases h with
 | node h2=>exact absurd rfl h2
 | atom hm=>
  have hi:=zs0 hm;have HF:Hid (∀ n,ftr (alpha A n) (.mk 2 word v ps)=n.testBit (idx A (.mk 2 word v ps))):=fun n=>by unfold ftr;rw[if_pos rfl];rfl
  obtain⟨i,hii⟩:∃ i,idx A (.mk 2 word v ps)=i:=⟨_,rfl⟩;rw[hii] at HF hi;rw[hii];have hxV:q9 (fun _=>False) w (w.alloc (.cells #[.int .i64 2,.string ⟨#[]⟩,.int .i64 i,.slice none 0 0] 112)):=(q9.refl _ w).alloc _;have HC:=q8 (zT5 A.length i true hA (by omega) (hp.ext hxV (fun f=>f)));have HXV:=q8 hxV;clear hxV hp hii hm;go_enter func92,ntmps92;go_wp2_with fail;refine HC.out.mono ?_;rintro e w3 ⟨b3,v3,rfl,hb3,hx3,hw3⟩;have HX3:=q8 hx3;have HW3:=q8 hw3;clear hx3 hw3 HC;go_wp2_with fail;go_ret;exact⟨b3,v3,_,rfl,by have:=HXV.out.size;omega,HXV.out.trans HX3.out,HW3.out,x8 _ _ _,fun n hn=>by rw[zs9 hn];show _=ftr _ _;rw[HF.out n];simp⟩
theorem ja9{A:List Nd}(hA:A.length<=16){nd:Nd}(hnd:FmW nd):zL6 A nd:=by
 induction hnd with
 | truth hw=>
  intro w D kk wd a qa qn qc h hp;cases h with
  | node h2=>exact qP6 hA hw
 | two hw ha hb=>intro w D kk wd a qa qn qc h hp;exact qy3 hA h hp
 | le hw ha hb h1 h2=>intro w D kk wd a qa qn qc h hp;exact qy3 hA h hp
 | @neg wd0 p hw hp0 ih=>
  intro w D kk wd a qa qn qc h hp;have hk:kk=1/\a=0/\wd=wd0/\zn0 w D A [p] (.slice qa qn qc):=by
   cases h with
   | node h2 how hl hn hD hk=>exact⟨rfl,rfl,rfl,⟨_,how,hl,hn,hD,hk⟩⟩
  obtain⟨rfl,rfl,rfl,hkids⟩:=hk;exact zy8 fun W hx=>qQ1 hA hw (hkids.ext hx (fun _ _ _ f=>f)) ih (hp.ext hx (fun f=>f))
 | @imp wd0 p q hw hp0 hq0 ih1 ih2=>
  intro w D kk wd a qa qn qc h hp;have hk:kk=1/\a=0/\wd=wd0/\zn0 w D A [p,q] (.slice qa qn qc):=by
   cases h with
   | node h2 how hl hn hD hk=>exact⟨rfl,rfl,rfl,⟨_,how,hl,hn,hD,hk⟩⟩
  obtain⟨rfl,rfl,rfl,hkids⟩:=hk;rcases hw with hw|hw
  ·exact zy8 fun W hx=>qQ2 hA hw (hkids.ext hx (fun _ _ _ f=>f)) ih1 ih2 (hp.ext hx (fun f=>f))
  ·exact zy8 fun W hx=>qQ3 hA hw (hkids.ext hx (fun _ _ _ f=>f)) ih1 ih2 (hp.ext hx (fun f=>f))
 | @many wd0 ps hw hp0 ih=>
  intro w D kk wd a qa qn qc h hp;have hk:kk=1/\a=0/\wd=wd0/\zn0 w D A ps (.slice qa qn qc):=by
   cases h with
   | node h2 how hl hn hD hk=>exact⟨rfl,rfl,rfl,⟨_,how,hl,hn,hD,hk⟩⟩
  obtain⟨rfl,rfl,rfl,hkids⟩:=hk;rcases hw with hw|hw
  ·exact zy8 fun W hx=>qP5 hA hw (hkids.ext hx (fun _ _ _ f=>f)) hkids.few ih (hp.ext hx (fun f=>f))
  ·exact zy8 fun W hx=>ja8 hA hw (hkids.ext hx (fun _ _ _ f=>f)) hkids.few ih (hp.ext hx (fun f=>f))
theorem qq1{w:World}{D:Nat->Prop}{A ps:List Nd}{pv:Value}(hA:A.length<=16)(hk:zn0 w D A ps pv)(hps:∀ p∈ps,FmW p)(hp:K9 w):
  Calls prog 59 #[pv,.int .i64 A.length] w (O8 w (2^(A.length-6)) (fun n=>(ps.map (ftr (alpha A n))).all id)):=by
 obtain⟨kids,h1,h2,h3,h4,h5⟩:=hk.ex;exact zU1 hA h1 h2 h3 h5 hk.few (fun p hp=>ja9 hA (hps p hp)) hp
end
end Go.Proofs.YtegbdaffhpiacaaGreatDoor
