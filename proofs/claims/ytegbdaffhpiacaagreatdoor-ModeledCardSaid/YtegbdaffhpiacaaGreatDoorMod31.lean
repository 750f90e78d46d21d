/- A part of the proof. -/
import Derived.Test.YtegbdaffhpiacaaGreatDoorMod24
import Derived.Deep.AppendLies
import Derived.OwnWalk
set_option maxRecDepth 100000
set_option maxHeartbeats 1000000
namespace Go.Proofs.YtegbdaffhpiacaaGreatDoor
open Tryz hiding parts
section
open Go.RowKit Ar
theorem jr2:(prog.info? 151).map (fun i=>(i.zero,i.size,i.bytes))=some (some (.agg #[.int .i64 0,.int .i64 0]),2,16):=by kernel_rfl
theorem y8(w:World)(o:Obj):(w.alloc o).heap.size=w.heap.size+1:=by simp
theorem jj7(l:List (Nat × Nat))(a b:Nat):za2 (l++[(a,b)])=za2 l++[.int .i64 a,.int .i64 b]:=by simp[za2]
section
variable{w:World}{TK:List Z3}{tv:Value}
def TwS(w wr:World)(ov:Value)(l:List (Nat × Nat)):Prop:=q9 (fun _=>False) w wr/\wr.ownsRow 0 151 2 ov l.length (za2 l)/\∀ k,ov.ownBlock=some k->w.heap.size<=k
theorem qM1(hts:w.ownsRow 0 145 6 tv TK.length (TK.flatMap Z3.cells))(hT:TK.length<=12)(hv:∀ x∈TK,0<=x.ar/\x.ar<=3):
  Calls prog 96 #[tv] w fun e w'=>∃ v,e=.returned v/\TwS w w' v (zQ0 TK):=by
 obtain⟨ta,tc,rfl⟩:=Q0 hts;obtain⟨i0,hi,hz0,hz1,hz2⟩:=info_parts jr2;have hcap:TK.length<=tc:=by
  rcases hts.2 with⟨e,e0⟩|⟨g',cap,cur,hv,_,hh,hc,_⟩
  ·simp at e;omega
  ·simp at hv;omega
 have HT:=q8 hts;have HV:=q8 hv;clear hts hv;go_enter func96,ntmps96;go_wp2_with fail
 go_loopw [10,3] (fun i ov wr=>∃ j:Nat,j<=TK.length/\i=.int .i64 j/\TwS w wr ov (zt0 TK j)) (fun i _ _=>TK.length-(intOf i).toNat)
 case atStart=>exact⟨0,Nat.zero_le _,rfl,q9.refl _ _,⟨by simp[zX1,za2],.inl ⟨rfl,rfl⟩⟩,by simp[Value.ownBlock]⟩
 case round=>
  obtain⟨j,hj,rfl,hS⟩:=hrel;obtain⟨oa,oc,ho⟩:=Q0 hS.2.1;subst ho;have HS:=q8 hS;clear hS;by_cases hlt:j<TK.length
  ·obtain⟨x,hxj⟩:∃ x,TK[j]?=some x:=⟨_,List.getElem?_eq_getElem hlt⟩;obtain⟨gt,rfl,hgl⟩:∃ gt,ta=some ⟨gt,0,none⟩/\gt<w.heap.size:=by
    rcases HT.out.2 with⟨e,e0⟩|⟨g',cap,cur,hv,_,hh,_⟩
    ·omega
    ·simp at hv;exact⟨g',hv.1,z8 hh⟩
   have ho:=z7 HT.out HS.out.1 (fun _ _ f=>f);have x0:wr.cell? ⟨gt,j*6,none⟩=some (.string x.nm):=(ho.cellAt (j*6) (by omega)).trans (J6 hxj (j:=0) rfl);have x1:wr.cell? ⟨gt,j*6+1,none⟩=some (.int .i64 x.ar):=(ho.cellAt (j*6+1) (by omega)).trans (J6 hxj rfl);have x2:wr.cell? ⟨gt,j*6+2,none⟩=some (.int .i64 x.a0):=(ho.cellAt (j*6+2) (by omega)).trans (J6 hxj rfl);have x3:wr.cell? ⟨gt,j*6+3,none⟩=some (.int .i64 x.a1):=(ho.cellAt (j*6+3) (by omega)).trans (J6 hxj rfl);have x4:wr.cell? ⟨gt,j*6+4,none⟩=some (.int .i64 x.a2):=(ho.cellAt (j*6+4) (by omega)).trans (J6 hxj rfl);have x5:wr.cell? ⟨gt,j*6+5,none⟩=some (.int .i64 x.v):=(ho.cellAt (j*6+5) (by omega)).trans (J6 hxj rfl);have HXJ:=q8 hxj;have hsz:=HS.out.1.size;clear ho hxj;have hSV:TwS w (wr.alloc (.cells (ze2 x) 145)) (.slice oa (zt0 TK j).length oc) (zt0 TK j++zf8 TK j 0):=⟨HS.out.1.alloc _,by rw[qu8,List.append_nil];exact HS.out.2.1.alloc _,HS.out.2.2⟩;have hkV:(wr.alloc (.cells (ze2 x) 145)).heap[wr.heap.size]?=some (.cells (ze2 x) 145):=heap_alloc_new wr _;obtain⟨p,hp⟩:∃ p,wr.heap.size=p:=⟨_,rfl⟩;rw[hp] at hkV;have HSV:=q8 hSV;have HKV:=q8 hkV;clear hSV hkV;unfold ze2 at HSV HKV;go_wp2_with fail;clear x0 x1 x2 x3 x4 x5
   go_loopw [19,3] (fun i ov wq=>∃ k:Nat,k<=j/\i=.int .i64 k/\TwS w wq ov (zt0 TK j++zf8 TK j k)/\wq.heap[p]?=some (.cells (ze2 x) 145)) (fun i _ _=>j-(intOf i).toNat)
   case atStart=>exact⟨0,Nat.zero_le _,rfl,HSV.out,HKV.out⟩
   case round=>
    obtain⟨k,hk,rfl,hSq,hkp⟩:=hrel;obtain⟨l,hl⟩:∃ l,zt0 TK j++zf8 TK j k=l:=⟨_,rfl⟩;rw[hl] at hSq;have hll:l.length<=300:=by rw[<- hl,List.length_append];have h1:=zQ1 TK j;have h2:=zX3 TK j k;have h3:j*j<=12*12:=Nat.mul_le_mul (by omega) (by omega);omega
    obtain⟨qa,qc,ho⟩:=Q0 hSq.2.1;subst ho;have HSQ:=q8 hSq;have HKP:=q8 hkp;have HL:=q8 hl;unfold ze2 at hkp;have hpl:=z8 hkp;have y0:=z6 hkp 0;have y1:=z6 hkp 1;clear hSq hkp hl;by_cases hlk:k<j
    ·obtain⟨y,hyk⟩:∃ y,TK[k]?=some y:=⟨_,List.getElem?_eq_getElem (by omega)⟩;have ho:=z7 HT.out HSQ.out.1 (fun _ _ f=>f);have x0:wr.cell? ⟨gt,k*6,none⟩=some (.string y.nm):=(ho.cellAt (k*6) (by omega)).trans (J6 hyk (j:=0) rfl);have x1:wr.cell? ⟨gt,k*6+1,none⟩=some (.int .i64 y.ar):=(ho.cellAt (k*6+1) (by omega)).trans (J6 hyk rfl);have x2:wr.cell? ⟨gt,k*6+2,none⟩=some (.int .i64 y.a0):=(ho.cellAt (k*6+2) (by omega)).trans (J6 hyk rfl);have x3:wr.cell? ⟨gt,k*6+3,none⟩=some (.int .i64 y.a1):=(ho.cellAt (k*6+3) (by omega)).trans (J6 hyk rfl);have x4:wr.cell? ⟨gt,k*6+4,none⟩=some (.int .i64 y.a2):=(ho.cellAt (k*6+4) (by omega)).trans (J6 hyk rfl);have x5:wr.cell? ⟨gt,k*6+5,none⟩=some (.int .i64 y.v):=(ho.cellAt (k*6+5) (by omega)).trans (J6 hyk rfl);have HTW:=q8 (ql9 hyk HXJ.out);have hxr:=HV.out x (List.mem_of_getElem? HXJ.out);have hyr:=HV.out y (List.mem_of_getElem? hyk);clear ho hyk;by_cases ha:0<x.ar
     ·by_cases hnm:x.nm.toList=y.nm.toList
      ·by_cases har:x.ar=y.ar
       ·have hall:zt0 TK j++zf8 TK j (k+1)=l++[(k,j)]:=by
         rw[zq1,if_pos (HTW.out.2 ⟨ha,O6 hnm,har⟩),<- List.append_assoc,HL.out]
        have HALL:=q8 hall;have har':(x.ar=y.ar)=True:=eq_true har;clear hall HTW har;go_wp2_with (at_builtin;refine wpList_append_lies _ rfl _ _ 189 rfl 0 151 i0 (.agg #[.int .i64 0,.int .i64 0]) 2 16 underlying189 hi hz0 hz1 hz2 rfl (by decide) (.slice qa l.length qc) l.length (za2 l) rfl ((HSQ.out.2.1.alloc _).alloc _) ⟨wr.heap.size+1,0,none⟩ 1 1 [.int .i64 k,.int .i64 j] rfl rfl ?c1 ?c2 (by omega) ?c3 ?c4 (Nat.zero_le _) (wr.heap.size+1+1) ?c5 ?_)
        case c1=>exact World.news_of_block (cs:=#[.int .i64 k,.int .i64 j]) (t:=151) (fr:=(0,0)) (by rw[<- y8];exact heap_alloc_new _ _)
        case c2=>intro u2 hu2;simp at hu2;rcases hu2 with rfl|rfl<;>rfl
        case c3=>unfold maxLen;omega
        case c4=>omega
        case c5=>simp
        intro g7 cap7 w7 hown7 hgr7 hat7 hlt7;have HF:=q8 (And.intro hown7 (And.intro hgr7 hat7));clear hown7 hgr7 hat7;go_wp2_with fail
        go_roundw
        case measure=>simp[intOf];omega
        case rel=>
         obtain⟨hown7,hgr7,hat7⟩:=HF.out;have hob:=HSQ.out.2.2;have hx7:q9 (fun _=>False) w w7:=((HSQ.out.1.alloc _).alloc _).grown hgr7 (fun k hk hlt=>by have:=hob k hk;omega);refine⟨k+1,by omega,by go_num,⟨hx7,?_,fun k hk=>?_⟩,?_⟩
         ·rw[HALL.out,jj7,List.length_append,List.length_singleton];exact hown7
         ·simp[Value.ownBlock] at hk;subst hk;rcases hat7 with e|e
          ·exact hob _ e
          ·have h1:=HSQ.out.1.size;omega
         ·have hxg:=(q9.refl (fun k=>(Value.slice qa l.length qc).ownBlock=some k) _).grown hgr7 (fun _ hk _=>hk);have hk9:=(hxg.block p (by simp;omega) (fun e=>?_))
          ·rw[hk9,heap_alloc_old _ _ (by simp;omega),heap_alloc_old _ _ hpl];exact HKP.out
          ·rcases HSQ.out.2.1.2 with⟨e1,_⟩|⟨g',cap,cur,e1,_,hh,_⟩
           ·rw[e1] at e;simp[Value.ownBlock] at e
           ·rw[e1] at e;have e2:g' = p:=by simpa[Value.ownBlock] using e
            rw[e2,HKP.out] at hh;simp at hh
       ·have hall:zt0 TK j++zf8 TK j (k+1)=l:=by
         rw[zq1,if_neg (fun e=>har (HTW.out.1 e).2.2),HL.out]
        have HALL:=q8 hall;clear hall HTW;go_wp2_with fail
        go_roundw
        case measure=>simp[intOf];omega
        case rel=>exact⟨k+1,by omega,by go_num,by rw[HALL.out];exact⟨HSQ.out.1.alloc _,HSQ.out.2.1.alloc _,HSQ.out.2.2⟩,by rw[heap_alloc_old _ _ hpl];exact HKP.out⟩
      ·have hall:zt0 TK j++zf8 TK j (k+1)=l:=by
        rw[zq1,if_neg (fun e=>hnm (congrArg ByteArray.toList (HTW.out.1 e).2.1)),HL.out]
       have HALL:=q8 hall;clear hall HTW;go_wp2_with fail
       go_roundw
       case measure=>simp[intOf];omega
       case rel=>exact⟨k+1,by omega,by go_num,by rw[HALL.out];exact⟨HSQ.out.1.alloc _,HSQ.out.2.1.alloc _,HSQ.out.2.2⟩,by rw[heap_alloc_old _ _ hpl];exact HKP.out⟩
     ·have hall:zt0 TK j++zf8 TK j (k+1)=l:=by
       rw[zq1,if_neg (fun e=>ha (HTW.out.1 e).1),HL.out]
      have HALL:=q8 hall;clear hall HTW;go_wp2_with fail
      go_roundw
      case measure=>simp[intOf];omega
      case rel=>exact⟨k+1,by omega,by go_num,by rw[HALL.out];exact⟨HSQ.out.1.alloc _,HSQ.out.2.1.alloc _,HSQ.out.2.2⟩,by rw[heap_alloc_old _ _ hpl];exact HKP.out⟩
    ·have hjk:k=j:=by omega
     subst hjk;go_wp2_with fail
     go_roundw
     case measure=>simp[intOf];omega
     case rel=>exact⟨k+1,by omega,by go_num,by rw[zX2,HL.out];exact HSQ.out⟩
  ·have hjk:j=TK.length:=by omega
   subst hjk;go_wp2_with fail;go_ret;exact⟨_,rfl,HS.out⟩
end
def zg7(n:Int):Array Value:=((List.replicate 169 ([.int .i64 0,.int .u64 0,.int .u64 0,.int .u64 0]:List Value)).flatten++([.int .i64 n,.bool false,.int .u64 0,.int .u64 0,.int .u64 0]:List Value)).toArray
def qY3(ps:Array (Nat × Value)):Sem Value:=Instr.build 203 ps
theorem qY4(ps:Array (Nat × Value)):Instr.build 203 ps=qY3 ps:=rfl
theorem qM2(W:World)(n:Int):(qY3 #[(1,.int .i64 n)]).run prog W=.ok (.agg (zg7 n)) W:=by kernel_rfl
theorem qB7(l:List Value)(hl:l.length=4):∀ m q,q<m*4->(List.replicate m l).flatten[q]?=l[q%4]?
 | 0,q,h=>by omega
 | m+1,q,h=>by
  rw[List.replicate_succ,List.flatten_cons];by_cases e:q<4
  ·rw[List.getElem?_append_left (by omega),Nat.mod_eq_of_lt e]
  ·rw[List.getElem?_append_right (by omega),hl,qB7 l hl m (q-4) (by omega)]
   congr 1
   omega
theorem zJ0(l:List Value)(hl:l.length=4)(m:Nat):(List.replicate m l).flatten.length=m*4:=by simp[hl]
theorem zl8(n:Int){q:Nat}(hq:q<676):(zg7 n)[q]?=([.int .i64 0,.int .u64 0,.int .u64 0,.int .u64 0]:List Value)[q%4]?:=by unfold zg7;rw[List.getElem?_toArray,List.getElem?_append_left (by rw[zJ0 _ rfl];omega),qB7 _ rfl 169 q (by omega)]
theorem zf5(n:Int)(k:Nat):(zg7 n)[676+k]?=([.int .i64 n,.bool false,.int .u64 0,.int .u64 0,.int .u64 0]:List Value)[k]?:=by unfold zg7;rw[List.getElem?_toArray,List.getElem?_append_right (by rw[zJ0 _ rfl];omega),zJ0 _ rfl,show 676+k-169*4=k by omega]
theorem zD0(n:Int):(zg7 n).size=681:=by
 unfold zg7;rw[List.size_toArray,List.length_append,zJ0 _ rfl]
 rfl
def zv6(n:Nat)(far:Int)(i j:Nat):Tb where
 by_:=fun a b=>if a≠b/\a<n/\b<n/\(a<i\/a=i/\b<j) then far else 0
 why:=fun _ _=>M3.none
theorem zR0(n:Nat)(far:Int):J9 (zg7 n) 0 n ⟨zv6 n far 0 0,false,M3.none⟩:=by
 refine⟨fun i j hi hj=>?_,fun i j hi hj=>?_,fun i j hi hj=>?_,fun i j hi hj=>?_,?_,?_,?_,?_,?_⟩
 ·rw[Nat.zero_add,zl8 _ (by omega),show(i*52+j*4)%4=0 by omega];simp[zv6]
 ·rw[Nat.zero_add,zl8 _ (by omega),show(i*52+j*4+1)%4=1 by omega]
  rfl
 ·rw[Nat.zero_add,zl8 _ (by omega),show(i*52+j*4+2)%4=2 by omega]
  rfl
 ·rw[Nat.zero_add,zl8 _ (by omega),show(i*52+j*4+3)%4=3 by omega]
  rfl
 ·exact zf5 n 0
 ·exact zf5 n 1
 ·exact zf5 n 2
 ·exact zf5 n 3
 ·exact zf5 n 4
theorem J9.putBy{C:Array Value}{o n:Nat}{X:W9}(h:J9 C o n X){f t:Nat}(hf:f<13)(ht:t<13)(s:Int):J9 (C.setIfInBounds (o+f*52+t*4) (.int .i64 s)) o n ⟨⟨fun a b=>if a=f/\b=t then s else X.t.by_ a b,X.t.why⟩,X.news,X.wrong⟩:=by
 have l0:=za4 (h.by_ f t hf ht);have out:∀ q,q≠o+f*52+t*4->(C.setIfInBounds (o+f*52+t*4) (.int .i64 s))[q]?=C[q]?:=fun q hq=>by rw[J4,if_neg (fun e=>hq e.symm)]
 refine⟨fun i j hi hj=>?_,fun i j hi hj=>?_,fun i j hi hj=>?_,fun i j hi hj=>?_,?_,?_,?_,?_,?_⟩
 ·by_cases e:i=f/\j=t
  ·obtain⟨rfl,rfl⟩:=e;rw[J4,if_pos rfl,if_pos l0];simp
  ·rw[out _ (by omega),h.by_ i j hi hj];simp[e]
 ·rw[out _ (by omega)];exact h.wa i j hi hj
 ·rw[out _ (by omega)];exact h.wb i j hi hj
 ·rw[out _ (by omega)];exact h.wc i j hi hj
 ·rw[out _ (by omega)];exact h.size
 ·rw[out _ (by omega)];exact h.news
 ·rw[out _ (by omega)];exact h.xa
 ·rw[out _ (by omega)];exact h.xb
 ·rw[out _ (by omega)];exact h.xc
theorem qM3{n i j:Nat}{far:Int}(hi:i<n)(hj:j<n)(hij:i≠j):(⟨fun a b=>if a=i/\b=j then far else(zv6 n far i j).by_ a b,(zv6 n far i j).why⟩:Tb)=zv6 n far i (j+1):=by
 unfold zv6
 congr 1
 funext a b
 by_cases e:a=i/\b=j
 ·rw[if_pos e,if_pos (by omega)]
 ·rw[if_neg e];show(if _ then _ else _)=_;by_cases c:a≠b/\a<n/\b<n/\(a<i\/a=i/\b<j)
  ·rw[if_pos c,if_pos (by omega)]
  ·rw[if_neg c,if_neg (by omega)]
theorem qM4{n i:Nat}{far:Int}:zv6 n far i i=zv6 n far i (i+1):=by
 unfold zv6
 congr 1
 funext a b
 by_cases c:a≠b/\a<n/\b<n/\(a<i\/a=i/\b<i)
 ·rw[if_pos c,if_pos (by omega)]
 ·rw[if_neg c,if_neg (by omega)]
theorem qY5{n i:Nat}{far:Int}:zv6 n far i n=zv6 n far (i+1) 0:=by
 unfold zv6
 congr 1
 funext a b
 by_cases c:a≠b/\a<n/\b<n/\(a<i\/a=i/\b<n)
 ·rw[if_pos c,if_pos (by omega)]
 ·rw[if_neg c,if_neg (by omega)]
end
section
open Go.RowKit Ar
attribute [local go_sem ↓] zp2 qY4
theorem qn1(n:Nat):(zg7 n).all (·.oneCell')=true:=by rw[Array.all_eq_true_iff_forall_mem];intro u hu;exact(zR0 n 0).one_all (zD0 _) u (by simpa using hu)
structure NT(w:World)(Z:Array Value)(n:Nat)(far:Int)(i j:Nat)(C:Array Value)(wr:World):Prop where
 blk:wr.heap[w.heap.size+1]?=some (.cells C 203)
 size:C.size=681
 tab:J9 C 0 n ⟨zv6 n far i j,false,M3.none⟩
 res:wr.heap[w.heap.size]?=some (.cells Z 203)
 ext:q9 (fun _=>False) w wr
theorem qd0{w:World}(n:Nat)(hn:n<=13)(far:Int):
  Calls prog 97 #[.int .i64 n,.int .i64 far] w fun e w'=>∃ C,e=.returned (.agg C)/\C.size=681/\J9 C 0 n ⟨zv6 n far n 0,false,M3.none⟩/\q9 (fun _=>False) w w':=by
 obtain⟨i1,hi,hz0,hz1,hz2⟩:=info_parts zH5;obtain⟨Z,hZ⟩:∃ Z,zi0.cells=Z:=⟨_,rfl⟩;have hZs:Z.size=681:=by rw[<- hZ];exact zp3
 have hzz:∀ W,(zeroValue 203).run prog W=.ok (.agg Z) W:=fun W=>by
  rw[<- hZ];simp[zeroValue,typeInfo,hi,hz0]
  rfl
 obtain⟨D,hD⟩:∃ D,zg7 n=D:=⟨_,rfl⟩;have hDs:D.size=681:=by rw[<- hD];exact zD0 _
 have hD1:D.all (·.oneCell')=true:=by rw[<- hD];exact qn1 _
 have hDT:J9 D 0 n ⟨zv6 n far 0 0,false,M3.none⟩:=by rw[<- hD];exact zR0 n far
 have hbd:∀ W,(qY3 #[(1,.int .i64 n)]).run prog W=.ok (.agg D) W:=fun W=>by rw[<- hD];exact qM2 W n
 have hst:=fun W=>run_storeCells_new (P:=prog) W 203 Z D (by rw[hi];simp[hz1,hDs]) (by omega) hD1
 have h1:=hst (w.alloc (.cells Z 203));rw[y8] at h1;have HI:=q8 hi;have HD:=q8 hDT;clear hZ hD hDT;go_enter func97,ntmps97;go_wp2_with fail
 go_loopw [11] (fun i wr=>∃ j:Nat,j<=n/\i=.int .i64 j/\∃ C,NT w Z n far j 0 C wr) (fun i _=>n-(intOf i).toNat)
 case atStart=>
  refine⟨0,Nat.zero_le _,rfl,D,?_,hDs,HD.out,?_,((q9.refl _ w).alloc _).alloc _⟩
  ·rw[<- y8 w (.cells Z 203)];exact heap_alloc_new _ _
  ·rw[heap_alloc_old _ _ (by simp)];exact heap_alloc_new w _
 case round=>
  obtain⟨j,hj,rfl,C,hS⟩:=hrel;have HS:=q8 hS;clear hS;by_cases hlt:j<n
  ·go_wp2_with fail
   go_loopw [15] (fun i wq=>∃ l:Nat,l<=n/\i=.int .i64 l/\∃ C,NT w Z n far j l C wq) (fun i _=>n-(intOf i).toNat)
   case atStart=>exact⟨0,Nat.zero_le _,rfl,C,HS.out⟩
   case round=>
    obtain⟨l,hl,rfl,C2,hS2⟩:=hrel;have HS2:=q8 hS2;clear hS2;by_cases hll:l<n
    ·by_cases hjl:j=l
     ·have he:((j:Int)==(l:Int))=true:=by rw[hjl];simp
      have HJL:=q8 hjl;clear hjl;go_wp2_with fail
      go_roundw
      case measure=>simp[intOf];omega
      case rel=>have h:=HS2.out;have e:=HJL.out;subst e;exact⟨j+1,by omega,by go_num,C2,h.blk,h.size,by rw[<- qM4];exact h.tab,h.res,h.ext⟩
     ·have c0:=J9.cell HS2.out.blk HS2.out.tab (i:=j) (j:=l) (by omega) (by omega);have f0:=Q8 HS2.out.blk (0+j*52+l*4);rw[Nat.zero_add] at c0 f0;have hne:((j:Int)==(l:Int))=false:=by rw[beq_eq_false_iff_ne];omega
      go_wp2_with fail
      go_roundw
      case measure=>simp[intOf];omega
      case rel=>
       have h:=HS2.out;have hp:=h.tab.putBy (f:=j) (t:=l) (by omega) (by omega) far;simp only at hp;rw[qM3 hlt hll hjl] at hp;rw[Nat.zero_add] at hp;refine⟨l+1,by omega,by go_num,_,Y4 h.blk _ _,by simp[h.size],hp,?_,?_⟩
       ·exact(((q9.refl (fun k=>k=w.heap.size+1) _).setCell (p:=⟨w.heap.size+1,_,none⟩) (fun _=>rfl) _).block _ (z8 h.res) (by omega)).trans h.res
       ·exact h.ext.trans' ((q9.refl (fun k=>k=w.heap.size+1) _).setCell (p:=⟨w.heap.size+1,_,none⟩) (fun _=>rfl) _) (fun k hk e=>by omega)
    ·have hge:¬(l:Int)<(n:Int):=by omega
     go_wp2_with fail
     go_roundw
     case measure=>simp[intOf];omega
     case rel=>
      have h:=HS2.out;have hln:l=n:=by omega
      subst hln;exact⟨j+1,by omega,by go_num,C2,h.blk,h.size,by rw[<- qY5];exact h.tab,h.res,h.ext⟩
  ·have hge:¬(j:Int)<(n:Int):=by omega
   have hld:=fun P=>zy6 P wr ⟨w.heap.size+1,0,none⟩ 681 C HS.out.size (fun q v hq=>(by
    have:=(z6 HS.out.blk q).trans hq;simp only[Addr.add];split
    ·rename_i h0;subst h0;exact this
    ·simpa using this))
   have hld1:=hld prog;have hCs:=HS.out.size;have hsto:=run_storeCells_from (P:=prog) w.heap.size 203 C.toList 0 Z wr HS.out.res (by simp[HS.out.size,hZs]) (HS.out.tab.one_all HS.out.size);simp only[List.take_zero,List.nil_append,Array.toArray_toList] at hsto;go_wp2_with fail;have hk2:=setRow_heap wr w.heap.size Z C _ _ HS.out.res;have hld2:=zy6 prog (wr.setRow w.heap.size C) ⟨w.heap.size,0,none⟩ 681 C hCs (fun q v hq=>(by
    have:=(z6 hk2 q).trans hq;simp only[Addr.add];split
    ·rename_i h0;subst h0;exact this
    ·simpa using this))
   refine bodyPost_ret (v:=.agg C) (by simp[results,results97,go_sem,hld2]) rfl ?_;have h:=HS.out;have hjn:j=n:=by omega
   subst hjn;exact⟨C,rfl,hCs,h.tab,h.ext.trans' (T:=fun k=>k=w.heap.size) ⟨rfl,rfl,rfl,by simp[World.setRow],fun k _ hs=>setRow_other wr w.heap.size k C hs⟩ (fun k hk e=>by omega)⟩
end
end Go.Proofs.YtegbdaffhpiacaaGreatDoor
