/- A part of the proof. -/
import Derived.Test.YtegbdaffhpiacaaGreatDoorMod21
import Derived.Test.YtegbdaffhpiacaaGreatDoorMod27
set_option maxRecDepth 10000
set_option maxHeartbeats 400000
namespace Go.Proofs.YtegbdaffhpiacaaGreatDoor
open Go.Proofs.Tryz hiding parts
open Go.RowKit Go.Maps Ar
theorem qT3:(prog.info? 3).map (fun i=>(i.zero,i.size,i.bytes))=some (some (.int .i64 0),1,8):=by kernel_rfl
theorem qs9{w:World}{v:Value}{n:Nat}{cs:List Value}(h:w.ownsRow 0 3 1 v n cs)(hn:n<=100)(hn0:0<n)(h1:∀ u∈cs,u.oneCell' = true):Calls prog 151 #[v] w fun e w'=>∃ v',e=.returned v'/\q9 (fun _=>False) w w'/\(∀ g,v'.ownBlock=some g->w.heap.size<=g)/\w'.ownsRow 0 3 1 v' n cs:=by
 obtain⟨i0,hi,hz0,hz1,hz2⟩:=info_parts qT3;rcases h.2 with⟨rfl,rfl⟩|⟨g,cap,cur,rfl,hg,hh,hc1,hc2,hc3,hc4⟩
 ·omega
 have hq:=Lib.run_eql_slice_nil (P:=prog) w 25 3 (some ⟨g,0,none⟩) n cap 0 0 underlying25;have H:=q8 h;have H1:=q8 h1;have hlen:=h.1;clear h h1 hh hc4;go_enter func151,ntmps151;go_wp2_with (at_builtin;refine wpList_append_own_at _ rfl _ _ 25 rfl 0 3 i0 _ 1 8 underlying25 hi hz0 hz1 hz2 rfl (by decide) _ 0 [] rfl ?c0 ⟨g,0,none⟩ n cap cs rfl ?c1 ?c2 ?c3 ?c4 ?c5 (Nat.zero_le _) ?_)
 case c0=>exact World.ownsRow_made w #[] 0 (Nat.zero_le _) (Nat.zero_le _) rfl
 case c1=>omega
 case c2=>
  intro j u hj;have h2:=((z7 H.out ((q9.refl (fun _=>False) w).alloc (.cells #[] 3)) (fun _ _ f=>f)).cellAt j (by have:=(List.getElem?_eq_some_iff.1 hj).1;omega)).trans hj;simp only[Addr.add];split
  ·rename_i h0;subst h0;exact h2
  ·simpa using h2
 case c3=>exact H1.out
 case c4=>unfold maxLen;omega
 case c5=>omega
 intro v' w1 hown hgrow hnil hat;have HO:=q8 hown;have HG:=q8 hgrow;have HAT:=q8 hat;clear hown hgrow hnil hat hq hi hz0 hz1 hz2;go_wp2_with fail;go_ret;refine⟨v',rfl,?_,fun g hg=>?_,by simpa using HO.out⟩
 rotate_left
 ·rcases HAT.out with e|e
  ·rw[e] at hg;simp[Value.ownBlock] at hg;omega
  ·rw[e] at hg;simp at hg;omega
 exact((q9.refl (fun _=>False) w).alloc _).grown HG.out (fun k e hk=>by have h1:w.heap.size=k:=Option.some.inj e;omega)
def O4(l:List Nat):List Value:=l.map fun(n:Nat)=>.int .i64 (n:Int)
theorem qT4(w:World)(n:Nat)(h0:0<n)(hn:n<=20):Calls prog 112 #[.int .i64 n] w fun e w'=>∃ v',e=.returned v'/\q9 (fun _=>False) w w'/\w'.ownsRow 0 3 1 v' n (O4 (List.range n)):=by
 have hmk:=qB6 n (by omega) w;obtain⟨V,hV⟩:∃ V,w.alloc (.cells (Array.replicate n (.int .i64 0)) 3)=V:=⟨_,rfl⟩;have hxV:q9 (fun _=>False) w V:=by rw[<- hV];exact(q9.refl _ w).alloc _
 have hNV:zS4 V w.heap.size n 0 (fun i=>(i:Int)):=⟨_,by rw[<- hV];exact heap_alloc_new w _,by simp,fun i hi=>by omega⟩;rw[hV] at hmk;have HXV:=q8 hxV;have HNV:=q8 hNV;clear hV hxV hNV;go_enter func112,ntmps112;go_wp2_with fail
 go_loopw [9] (fun i wr=>∃ j:Nat,j<=n/\i=.int .i64 j/\q9 (fun _=>False) w wr/\zS4 wr w.heap.size n j (fun i=>(i:Int))) (fun i _=>n-(intOf i).toNat)
 case atStart=>exact⟨0,Nat.zero_le _,rfl,HXV.out,HNV.out⟩
 case round=>
  obtain⟨j,hj,rfl,hx,hN⟩:=hrel;have HX:=q8 hx;have HN:=q8 hN;clear hx hN;by_cases hlt:j<n
  ·obtain⟨C,n1,n2,n3⟩:=HN.out;have HN2:=q8 (HN.out.set hlt);have f0:=Q8 n1 j;have c1:=z6 n1 j;rw[Array.getElem?_eq_getElem (by omega)] at c1;obtain⟨u,hu⟩:∃ u,C[j]=u:=⟨_,rfl⟩;rw[hu] at c1;clear n1 n3 hu;go_wp2_with fail
   go_roundw
   case measure=>simp[intOf];omega
   case rel=>exact⟨j+1,by omega,by go_num,HX.out.trans' ((q9.refl (fun k=>k=w.heap.size) wr).setCell (p:=⟨w.heap.size,j,none⟩) (fun _=>rfl) _) (fun i hi e=>by have h1:i=w.heap.size:=e;omega),HN2.out⟩
  ·have hjk:j=n:=by omega
   subst hjk;go_wp2_with fail;go_ret;exact⟨_,rfl,HX.out,HN.out.row (by omega)⟩
theorem zV4{w:World}{b:Nat}(x one:Nat)(hb:w.heap[b]?=some (.cells #[.int .i64 one] 3)):Calls prog 152 #[.int .i64 x,.pointer (some ⟨b,0,none⟩)] w fun e w'=>e=.returned (.bool (x==one))/\q9 (fun _=>False) w w':=by
 have c0:=z6 hb 0;have HX:=q8 (q9.refl (fun _=>False) w);have hxo:((x:Int)==(one:Int))=(x==one):=by rw[Bool.eq_iff_iff,beq_iff_eq,beq_iff_eq];omega
 clear hb;go_enter func152,ntmps152;go_wp2_with fail;go_ret;exact⟨rfl,HX.out⟩
theorem zn8{w:World}{g cap n:Nat}{l:List Nat}(h:w.ownsRow 0 3 1 (.slice (some ⟨g,0,none⟩) n cap) n (O4 l)){j x:Nat}(hj:l[j]?=some x):w.cell? ⟨g,j,none⟩=some (.int .i64 x):=by have hl:=h.1;unfold O4 at hl;rw[List.length_map] at hl;have hjl:=(List.getElem?_eq_some_iff.1 hj).1;have:=h.cellAt j (by omega);unfold O4 at this;rw[List.getElem?_map,hj] at this;exact this
theorem zh2{w:World}{v:Value}{n:Nat}{l:List Nat}(h:w.ownsRow 0 3 1 v n (O4 l)):l.length=n:=by have hl:=h.1;unfold O4 at hl;rw[List.length_map] at hl;omega
theorem qI7{w:World}{g cap n b:Nat}{l:List Nat}(one:Nat)(h:w.ownsRow 0 3 1 (.slice (some ⟨g,0,none⟩) n cap) n (O4 l))(hn:n<=20)(hb:w.heap[b]?=some (.cells #[.int .i64 one] 3))(hin:one∈l):Calls prog 189 #[.slice (some ⟨g,0,none⟩) n cap,.func (.func 152) #[] #[.pointer (some ⟨b,0,none⟩)]] w fun e w'=>∃ i:Nat,e=.returned (.int .i64 i)/\i<n/\l.take (i+1)=(l.take i)++[one]/\(∀ x∈l.take i,¬x=one)/\q9 (fun _=>False) w w':=by
 have hll:=zh2 h;have hcap:n<=cap:=by
  rcases h.2 with⟨e,_⟩|⟨g,cap',cur,hv,_,_,h1,_⟩
  ·cases e
  ·simp at hv;omega
 have H:=q8 h;have HB:=q8 hb;have HIN:=q8 hin;have HX:=q8 (q9.refl (fun _=>False) w);clear h hb hin;go_enter func189,ntmps189;go_wp2_with fail
 go_loopw [8] (fun vi wr=>∃ j:Nat,j<=n/\vi=.int .i64 j/\(∀ x∈l.take j,¬x=one)/\q9 (fun _=>False) w wr) (fun vi _=>n-(intOf vi).toNat)
 case atStart=>exact⟨0,Nat.zero_le _,rfl,by simp,HX.out⟩
 case round=>
  obtain⟨j,hj,rfl,hno,hxr⟩:=hrel;have HNO:=q8 hno;have HXR:=q8 hxr;clear hno hxr HX;by_cases hlt:j<n
  ·obtain⟨x,hx⟩:∃ x,l[j]?=some x:=⟨_,List.getElem?_eq_getElem (by omega)⟩;have z:=zn8 (z7 H.out HXR.out (fun _ _ f=>f)) hx;have HC:=q8 (zV4 x one ((HXR.out.block _ (z8 HB.out) (fun f=>f)).trans HB.out));have HXX:=q8 hx;have hjc:j<cap:=by omega
   clear hx;go_wp2_with fail;refine HC.out.mono ?_;rintro e w1 ⟨rfl,hx1⟩;have HX1:=q8 (HXR.out.trans hx1);clear hx1 HC;by_cases hxo:x=one
   ·have hb1:(x==one)=true:=by rw[beq_iff_eq];exact hxo
    rw[hb1];go_wp2_with fail;go_ret;exact⟨j,rfl,hlt,by rw[List.take_add_one,HXX.out,hxo];rfl,HNO.out,HX1.out⟩
   ·have hb1:(x==one)=false:=by rw[beq_eq_false_iff_ne];exact hxo
    rw[hb1];go_wp2_with fail
    go_roundw
    case measure=>simp[intOf];omega
    case rel=>
     refine⟨j+1,by omega,by go_num,?_,HX1.out⟩;rw[List.take_add_one,HXX.out];intro y hy;rcases List.mem_append.1 hy with hy|hy
     ·exact HNO.out y hy
     ·simp at hy;rw[hy];exact hxo
  ·exfalso;refine HNO.out one ?_ rfl;rw[List.take_of_length_le (by omega)];exact HIN.out
end Go.Proofs.YtegbdaffhpiacaaGreatDoor
