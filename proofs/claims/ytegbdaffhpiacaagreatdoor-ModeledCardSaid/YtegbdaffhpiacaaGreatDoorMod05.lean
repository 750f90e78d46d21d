/- A part of the proof. -/
import Derived.Test.YtegbdaffhpiacaaGreatDoorMod04
import Derived.Maps.AppendAt
set_option maxRecDepth 100000
set_option maxHeartbeats 400000
namespace Go.Proofs.YtegbdaffhpiacaaGreatDoor
open Tryz
open Go.RowKit Ar
theorem z7{S:Nat->Prop}{w w':World}{base:Nat}{e:TypeId}{size:Nat}{v:Value}{n:Nat}{xs:List Value}(h:w.ownsRow base e size v n xs)(hx:q9 S w w')(hS:∀ k,v.ownBlock=some k->¬S k):w'.ownsRow base e size v n xs:=by
 obtain⟨h1,h2⟩:=h;refine⟨h1,?_⟩;rcases h2 with h2|⟨g,cap,cur,hv,hg,hh,r⟩
 ·exact Or.inl h2
 ·have hlt:g<w.heap.size:=by
   by_cases hlt:g<w.heap.size
   ·exact hlt
   ·rw[Array.getElem?_eq_none (by omega)] at hh;exact absurd hh (by simp)
  exact Or.inr ⟨g,cap,cur,hv,hg,(hx.block g hlt (hS g (by rw[hv];rfl))).trans hh,r⟩
theorem V4{w:World}{e size n k:Nat}{v:Value}{xs:List Value}(h:w.ownsRow 0 e size v n xs)(hk:v.ownBlock=some k):∃ cur,w.heap[k]?=some (.cells cur e (0,0)):=by
 rcases h.2 with⟨e,_⟩|⟨g,cap,cur,hv,_,hh,_⟩
 ·rw[e] at hk;simp[Value.ownBlock] at hk
 ·rw[hv] at hk;simp[Value.ownBlock] at hk;subst hk;exact⟨cur,hh⟩
theorem Z7{w:World}{e e' size n k:Nat}{v:Value}{xs:List Value}{C:Array Value}(h:w.ownsRow 0 e size v n xs)(hg:w.heap[k]?=some (.cells C e'))(hne:¬e=e'):¬v.ownBlock=some k:=by intro hk;obtain⟨cur,hc⟩:=V4 h hk;rw[hg] at hc;simp at hc;exact hne hc.2.symm
theorem q9.grown{S:Nat->Prop}{a w w':World}{row:Option Nat}(h:q9 S a w)(hg:w.grownBy w' row)(hr:∀ k,row=some k->k<a.heap.size->S k):q9 S a w' :=
 h.trans' (T:=fun k=>row=some k) ⟨hg.os,hg.tape,hg.output,hg.size,fun k hk hs=>hg.block k hk (fun e=>hs e.symm)⟩ (fun i hi e=>hr i e hi)
theorem z8{w:World}{b:Nat}{o:Obj}(h:w.heap[b]?=some o):b<w.heap.size:=by
 by_cases hlt:b<w.heap.size
 ·exact hlt
 ·rw[Array.getElem?_eq_none (by omega)] at h;exact absurd h (by simp)
def zp9(N:List Nm)(t:Tk)(ts:List Tk):Rs Nd :=
 if zB8 N false t.txt.toList=0 then .ok (.mk 3 t.txt 0 []) ts else .no (zB8 N false t.txt.toList) t.pos
theorem zf2(s:ByteArray)(k:Nat)(h:k<s.size):s.toList.drop k=s[k]::s.toList.drop (k+1):=by rw[ByteArray.toList_eq,List.drop_eq_getElem_cons (by rw[<- Lib.size_eq];exact h)];rfl
theorem zs8(s:ByteArray)(k:Nat)(h:k<s.size):(s.extract k (k+1)).toList=[s[k]]:=by
 rw[Lib.extract_toList,<- ByteArray.toList_eq,zf2 s k h];have:k+1-k=1:=by omega
 rw[this];rfl
theorem jl1{c:UInt8}(h:((c.toNat:Int)==40)=true\/((c.toNat:Int)==41)=true):zq8 c=true:=by
 unfold zq8;rcases h with h|h
 ·rw[zo5 (c:=c) (n:=40) (by omega) (by simpa using h)];rfl
 ·rw[zo5 (c:=c) (n:=41) (by omega) (by simpa using h)];rfl
theorem jq7{c:UInt8}(h1:((c.toNat:Int)==40)=false)(h2:((c.toNat:Int)==41)=false):zq8 c=false:=by
 unfold zq8;rw[Bool.or_eq_false_iff];constructor
 ·cases hq:(c==40) with
  | false=>rfl
  | true=>rw[beq_iff_eq.1 hq] at h1;exact absurd h1 (by decide)
 ·cases hq:(c==41) with
  | false=>rfl
  | true=>rw[beq_iff_eq.1 hq] at h2;exact absurd h2 (by decide)
structure qx4(s:ByteArray)(k:Nat)(X:ByteArray):Prop where
 pos:0<X.size
 le:k+X.size<=s.size
 toks:zc6 k [] (s.toList.drop k)=⟨k,X⟩::zc6 (k+X.size) [] (s.toList.drop (k+X.size))
theorem jk4{s:ByteArray}{k:Nat}(h:k<s.size)(hb:zq8 s[k]=true):qx4 s k (s.extract k (k+1)):=by
 have he:=zs8 s k h;have hsz:(s.extract k (k+1)).size=1:=by rw[<- Z4,he];rfl
 have hx:s.extract k (k+1)=⟨#[s[k]]⟩:=zb9 (by rw[he];exact(ze5 [s[k]]).symm);refine⟨by omega,by omega,?_⟩;rw[zf2 s k h,ju3 _ _ _ hb,hsz,hx]
theorem qx5{s:ByteArray}{k e:Nat}(hk:k<e)(he:e<=s.size)(hp:((s.toList.drop k).take (e-k)).all zb7=true)(hs:∀ c r,s.toList.drop e=c::r->zb7 c=false):qx4 s k (s.extract k e)/\kOf (s.extract k e).toList=3:=by
 have hx:(s.extract k e).toList=(s.toList.drop k).take (e-k):=by rw[Lib.extract_toList,<- ByteArray.toList_eq]
 have hl:(s.extract k e).size=e-k:=by rw[<- Z4,hx,List.length_take,List.length_drop,Z4];omega
 have hne:(s.toList.drop k).take (e-k)≠[]:=by intro h0;have:=Z4 (s.extract k e);rw[hx,h0,hl] at this;simp at this;omega
 refine⟨⟨by omega,by omega,?_⟩,by rw[hx];exact qU7 hne hp⟩;have hsplit:s.toList.drop k=(s.toList.drop k).take (e-k)++s.toList.drop e:=by
  have h1:s.toList.drop e=(s.toList.drop k).drop (e-k):=by rw[List.drop_drop];congr 1;omega
  rw[h1,List.take_append_drop]
 have hX:s.extract k e=⟨((s.toList.drop k).take (e-k)).toArray⟩:=zb9 (hx.trans (ze5 _).symm);have hlen:((s.toList.drop k).take (e-k)).length=e-k:=by rw[<- hx,Z4,hl]
 rw[hl];have hke:k+(e-k)=e:=by omega
 rw[hke]
 conv=>lhs;rw[hsplit]
 rw[jg8 k _ _ hne hp hs,hlen,hke,hX]
theorem qo9{s:ByteArray}{k e:Nat}(hke:k<=e)(hlt:e<s.size)(ha:((s.toList.drop k).take (e-k)).all zb7=true)(hp:zb7 s[e]=true):((s.toList.drop k).take (e+1-k)).all zb7=true:=by
 have h1:e+1-k=(e-k)+1:=by omega
 have hl:e-k<(s.toList.drop k).length:=by rw[List.length_drop,Z4];omega
 have h2:(s.toList.drop k)[e-k]=s[e]:=by
  have h3:s.toList.drop e=(s.toList.drop k).drop (e-k):=by rw[List.drop_drop];congr 1;omega
  rw[zf2 s e hlt,List.drop_eq_getElem_cons hl] at h3
  injection h3 with h4 h5
  exact h4.symm
 rw[h1,List.take_succ_eq_append_getElem hl,List.all_append,ha,h2];simp[hp]
theorem gAt(s:ByteArray)(k:Nat)(w:World)(hs:s.size<=600)(hk:k<s.size)(hb:zs1 s[k]=false):
  Calls prog 143 #[.string s,.int .i64 k] w fun e w'=>∃ X:ByteArray,e=.returned (.agg #[.int .i64 (kOf X.toList),.int .i64 k,.string X])/\qx4 s k X/\q9 (fun _=>False) w w':=by
 by_cases h40:((s[k].toNat:Int)==40)=true
 ·have HT:=q8 (jk4 hk (jl1 (Or.inl h40)));have HK:Hid (kOf (s.extract k (k+1)).toList=1):=by
   show _=_;rw[zs8 s k hk,zo5 (c:=s[k]) (n:=40) (by omega) (by simpa using h40)];decide
  go_enter func143,ntmps143;go_wp2_with fail;exact bodyPost_ret (v:=.agg #[.int .i64 1,.int .i64 k,.string (s.extract k (k+1))]) (by simp[results,results143,go_sem]) rfl ⟨_,by rw[HK.out],HT.out,(q9.refl _ w).alloc _⟩
 have h40':((s[k].toNat:Int)==40)=false:=by simpa using h40
 by_cases h41:((s[k].toNat:Int)==41)=true
 ·have HT:=q8 (jk4 hk (jl1 (Or.inr h41)));have HK:Hid (kOf (s.extract k (k+1)).toList=2):=by
   show _=_;rw[zs8 s k hk,zo5 (c:=s[k]) (n:=41) (by omega) (by simpa using h41)];decide
  clear h40;go_enter func143,ntmps143;go_wp2_with fail;exact bodyPost_ret (v:=.agg #[.int .i64 2,.int .i64 k,.string (s.extract k (k+1))]) (by simp[results,results143,go_sem]) rfl ⟨_,by rw[HK.out],HT.out,(q9.refl _ w).alloc _⟩
 have h41':((s[k].toNat:Int)==41)=false:=by simpa using h41
 have HPL:Hid (zb7 s[k]=true):=by show _=_;rw[zb7,hb,jq7 h40' h41'];rfl
 have HB:=q8 hb;clear h40 h41 hb;go_enter func143,ntmps143;go_wp2_with fail
 go_loop [5] (fun i=>∃ e:Nat,k<=e/\e<=s.size/\i=.int .i64 e/\((s.toList.drop k).take (e-k)).all zb7=true/\(e=k->True)) (fun i=>s.size-(intOf i).toNat)
 case atStart=>exact⟨k,Nat.le_refl _,by omega,rfl,by simp,fun _=>trivial⟩
 case round=>
  obtain⟨e,hke,hes,rfl,ha,_⟩:=hrel;have HA:=q8 ha;clear ha;by_cases hlt:e<s.size
  ·have HBL:=q8 (qf3 s[e]);have HBR:=q8 (qo8 s[e]);have hstop:zb7 s[e]=false->qx4 s k (s.extract k e)/\kOf (s.extract k e).toList=3:=by
    intro hn;have hne:k<e:=by
     rcases Nat.lt_or_ge k e with h|h
     ·exact h
     ·have:e=k:=by omega
      subst this;rw[HPL.out] at hn;exact absurd hn (by decide)
    refine qx5 hne hes HA.out ?_;intro c r hc;rw[zf2 s e hlt] at hc
    injection hc with h1 h2
    rw[<- h1];exact hn
   have HSTOP:=q8 hstop;clear hstop;cases hbl:zs1 s[e] with
   | true=>
    have HB1:Hid (∀ w,Calls prog 142 #[.int .u8 s[e].toNat] w fun e w'=>e=.returned (.bool true)/\w=w'):=by intro w;have:=HBL.out w;rw[hbl] at this;exact this
    have HW:=q8 (HSTOP.out (by rw[zb7,hbl];rfl));clear hbl HBL HBR HSTOP HA;go_wp2_with (go_at_call 142;refine(HB1.out _).mono ?_;rintro e w' ⟨rfl,rfl⟩);exact bodyPost_ret (v:=.agg #[.int .i64 3,.int .i64 k,.string (s.extract k e)]) (by simp[results,results143,go_sem]) rfl ⟨_,by rw[HW.out.2],HW.out.1,(q9.refl _ w).alloc _⟩
   | false=>
    have HB1:Hid (∀ w,Calls prog 142 #[.int .u8 s[e].toNat] w fun e w'=>e=.returned (.bool false)/\w=w'):=by intro w;have:=HBL.out w;rw[hbl] at this;exact this
    cases hbr:zq8 s[e] with
    | true=>
     have HB2:Hid (∀ w,Calls prog 184 #[.int .u8 s[e].toNat] w fun e w'=>e=.returned (.bool true)/\w=w'):=by intro w;have:=HBR.out w;rw[hbr] at this;exact this
     have HW:=q8 (HSTOP.out (by rw[zb7,hbl,hbr];rfl));clear hbl hbr HBL HBR HSTOP HA;go_wp2_with first
      | (go_at_call 142;refine(HB1.out _).mono ?_;rintro e w' ⟨rfl,rfl⟩)
      | (go_at_call 184;refine(HB2.out _).mono ?_;rintro e w' ⟨rfl,rfl⟩)
     exact bodyPost_ret (v:=.agg #[.int .i64 3,.int .i64 k,.string (s.extract k e)]) (by simp[results,results143,go_sem]) rfl ⟨_,by rw[HW.out.2],HW.out.1,(q9.refl _ w).alloc _⟩
    | false=>
     have HB2:Hid (∀ w,Calls prog 184 #[.int .u8 s[e].toNat] w fun e w'=>e=.returned (.bool false)/\w=w'):=by intro w;have:=HBR.out w;rw[hbr] at this;exact this
     have HP:Hid (zb7 s[e]=true):=by show _=_;rw[zb7,hbl,hbr];rfl
     clear hbl hbr HBL HBR HSTOP;go_wp2_with first
      | (go_at_call 142;refine(HB1.out _).mono ?_;rintro e w' ⟨rfl,rfl⟩)
      | (go_at_call 184;refine(HB2.out _).mono ?_;rintro e w' ⟨rfl,rfl⟩)
     exact⟨⟨e+1,by omega,by omega,by go_num,qo9 hke hlt HA.out HP.out,fun _=>trivial⟩,by simp[intOf];omega⟩
  ·have HW:=q8 (qx5 (s:=s) (k:=k) (e:=e) (by omega) hes HA.out (by
    intro c r hc;rw[List.drop_of_length_le (by rw[Z4];omega)] at hc;exact absurd hc (by simp)))
   clear HA;go_wp2_with fail;exact bodyPost_ret (v:=.agg #[.int .i64 3,.int .i64 k,.string (s.extract k e)]) (by simp[results,results143,go_sem]) rfl ⟨_,by rw[HW.out.2],HW.out.1,(q9.refl _ w).alloc _⟩
def V8(ts:List Tk):List Value:=ts.flatMap (fun t=>[.int .i64 (kOf t.txt.toList),.int .i64 t.pos,.string t.txt])
theorem zv8(ts:List Tk)(t:Tk):V8 (ts++[t])=V8 ts++[.int .i64 (kOf t.txt.toList),.int .i64 t.pos,.string t.txt]:=by simp[V8]
theorem ja5:(prog.info? 219).map (fun i=>(i.zero,i.size,i.bytes))=some (some (.agg #[.int .i64 0,.int .i64 0,.string ByteArray.empty]),3,32):=by kernel_rfl
theorem qO8(s:ByteArray)(w:World)(hs:s.size<=600):
  Calls prog 105 #[.string s] w fun e w'=>∃ v,e=.returned v/\q9 (fun _=>False) w w'/\w'.ownsRow w.heap.size 219 3 v (toks s.toList).length (V8 (toks s.toList)):=by
 obtain⟨i0,hi,hz0,hz1,hz2⟩:=info_parts ja5;have HI:Hid (prog.info? 219=some i0/\i0.zero=some (.agg #[.int .i64 0,.int .i64 0,.string ByteArray.empty])/\i0.size=3/\i0.bytes=32):=⟨hi,hz0,hz1,hz2⟩;clear hi hz0 hz1 hz2;go_enter func105,ntmps105;go_wp2_with fail
 go_loopw [3,4] (fun out i wr=>∃ (k:Nat) (acc:List Tk),i=.int .i64 k/\k<=s.size/\acc.length<=k/\q9 (fun _=>False) w wr/\wr.ownsRow w.heap.size 219 3 out acc.length (V8 acc)/\toks s.toList=acc++zc6 k [] (s.toList.drop k))
  (fun _ i _=>s.size-(intOf i).toNat)
 case atStart=>exact⟨0,[],rfl,by omega,by simp,q9.refl _ _,World.ownsRow_nil _ _ _ _,by simp[toks]⟩
 case round=>
  obtain⟨k,acc,rfl,hk,hacc,hE,hown,hst⟩:=hrel;have HE:=q8 hE;have HOWN:=q8 hown;have HST:=q8 hst;clear hE hown hst;obtain⟨hi,hz0,hz1,hz2⟩:=HI.out;by_cases hlt:k<s.size
  ·have HBL:=q8 (qf3 s[k]);cases hbl:zs1 s[k] with
   | true=>
    have HB1:Hid (∀ w,Calls prog 142 #[.int .u8 s[k].toNat] w fun e w'=>e=.returned (.bool true)/\w=w'):=by intro w;have:=HBL.out w;rw[hbl] at this;exact this
    have HC:Hid (toks s.toList=acc++zc6 (k+1) [] (s.toList.drop (k+1))):=by have:=HST.out;rw[zf2 s k hlt,ju4 _ _ _ hbl] at this;exact this
    clear hbl HBL HST;go_wp2_with (go_at_call 142;refine(HB1.out _).mono ?_;rintro e w' ⟨rfl,rfl⟩)
    go_roundw
    case measure=>simp[intOf];omega
    case rel=>exact⟨k+1,acc,by go_num,by omega,by omega,HE.out,HOWN.out,HC.out⟩
   | false=>
    have HB1:Hid (∀ w,Calls prog 142 #[.int .u8 s[k].toNat] w fun e w'=>e=.returned (.bool false)/\w=w'):=by intro w;have:=HBL.out w;rw[hbl] at this;exact this
    have HAT:=q8 (gAt s k wr hs hlt hbl);clear hbl HBL;go_wp2_with (go_at_call 142;refine(HB1.out _).mono ?_;rintro e w' ⟨rfl,rfl⟩);refine HAT.out.mono ?_;rintro e w1 ⟨X,rfl,hat,hx1⟩;have HO1:=q8 (z7 HOWN.out hx1 (fun _ _ f=>f));have HE1:=q8 (HE.out.trans hx1);have hXp:=hat.pos;have hXl:=hat.le;have HAT2:=q8 hat;clear hat hx1;go_wp2_with (at_builtin;refine wpList_append_own_at _ rfl _ _ 212 rfl w.heap.size 219 i0 (.agg #[.int .i64 0,.int .i64 0,.string ByteArray.empty]) 3 32 underlying212 hi hz0 hz1 hz2 rfl (by decide) _ _ _ rfl ((HO1.out.alloc _).alloc _) ⟨w1.heap.size+1,0,none⟩ 1 1 [.int .i64 (kOf X.toList),.int .i64 k,.string X] rfl rfl ?c1 ?c2 ?c3 ?c4 ?c5 ?_)
    case c1=>
     intro q u hq2
     match q,hq2 with
     | 0,hq2=>simp at hq2;subst hq2;simp[Addr.add]
     | 1,hq2=>simp at hq2;subst hq2;simp[Addr.add]
     | 2,hq2=>simp at hq2;subst hq2;simp[Addr.add]
    case c2=>intro u hu;simp at hu;rcases hu with rfl|rfl|rfl<;>rfl
    case c3=>unfold maxLen;omega
    case c4=>omega
    case c5=>have:=HE1.out.size;simp;omega
    intro v2 w2 hown' hgrow _ _;have hne:¬some w1.heap.size=u3.ownBlock:=fun e=>by have:=(HO1.out.lt _ e.symm).2;omega
    have kb:w2.heap[w1.heap.size]?=some (.cells #[.int .i64 (kOf X.toList),.int .i64 k,.string X] 219) :=
     (hgrow.block _ (by simp;omega) hne).trans ((Below.heap_alloc _ _ _ (by simp)).trans (heap_alloc_new w1 _))
    have k2:=z6 kb 2;have HE2:Hid (q9 (fun _=>False) w w2):=((HE1.out.alloc _).alloc _).grown hgrow (fun g hg _=>by have:=(HO1.out.lt g hg).1;omega);have HO2:Hid (w2.ownsRow w.heap.size 219 3 v2 (acc++[(⟨k,X⟩:Tk)]).length (V8 (acc++[(⟨k,X⟩:Tk)]))):=by rw[zv8,List.length_append];exact hown'
    clear hown' hgrow kb hne;go_wp2_with fail
    go_roundw
    case measure=>simp[intOf];omega
    case rel=>refine⟨k+X.size,acc++[⟨k,X⟩],by go_num,by omega,by simp;omega,HE2.out,HO2.out,?_⟩;rw[HST.out,HAT2.out.toks];simp
  ·have hks:k=s.size:=by omega
   subst hks;have HC:Hid (toks s.toList=acc++[⟨s.size,ByteArray.empty⟩]):=by have:=HST.out;rw[List.drop_of_length_le (by rw[Z4];omega)] at this;exact this
   clear HST;go_wp2_with (at_builtin;refine wpList_append_own_at _ rfl _ _ 212 rfl w.heap.size 219 i0 (.agg #[.int .i64 0,.int .i64 0,.string ByteArray.empty]) 3 32 underlying212 hi hz0 hz1 hz2 rfl (by decide) _ _ _ rfl (HOWN.out.alloc _) ⟨wr.heap.size,0,none⟩ 1 1 [.int .i64 0,.int .i64 (s.size:Int),.string ByteArray.empty] rfl rfl ?c1 ?c2 ?c3 ?c4 ?c5 ?_)
   case c1=>
    intro q u hq2
    match q,hq2 with
    | 0,hq2=>simp at hq2;subst hq2;simp[Addr.add]
    | 1,hq2=>simp at hq2;subst hq2;simp[Addr.add]
    | 2,hq2=>simp at hq2;subst hq2;simp[Addr.add]<;>rfl
   case c2=>intro u hu;simp at hu;rcases hu with rfl|rfl|rfl<;>rfl
   case c3=>unfold maxLen;omega
   case c4=>omega
   case c5=>have:=HE.out.size;simp;omega
   intro v2 w2 hown' hgrow _ _;go_wp2_with fail;go_ret;refine⟨v2,rfl,(HE.out.alloc _).grown hgrow (fun g hg _=>by have:=(HOWN.out.lt g hg).1;omega),?_⟩;rw[HC.out,zv8,List.length_append];have e0:kOf (ByteArray.empty).toList=0:=by rw[zf1];rfl
   simp only[e0];exact hown'
structure V7 where
 rb:Nat
 tb:Nat
 sb:Nat
 nv:Value
 N:List Nm
def zm4(w:World)(tb:Nat):Nat->List Tk->Prop
 | _,[]=>True
 | o,t::ts=>w.cell? ⟨tb,o,none⟩=some (.int .i64 (kOf t.txt.toList))/\w.cell? ⟨tb,o+1,none⟩=some (.int .i64 t.pos)/\w.cell? ⟨tb,o+2,none⟩=some (.string t.txt)/\t.txt.size<=600/\zm4 w tb (o+3) ts
theorem zm4.ext{w w':World}{S:Nat->Prop}{tb:Nat}(h:q9 S w w')(hb:tb<w.heap.size)(hS:¬S tb):∀ {ts:List Tk} {i:Nat},zm4 w tb i ts->zm4 w' tb i ts
 | [],_,_=>trivial
 | _::_,_,ht=>⟨(h.cell (p:=⟨tb,_,none⟩) hb hS).trans ht.1,(h.cell (p:=⟨tb,_,none⟩) hb hS).trans ht.2.1,(h.cell (p:=⟨tb,_,none⟩) hb hS).trans ht.2.2.1,ht.2.2.2.1,zm4.ext h hb hS ht.2.2.2.2⟩
def X2(N:List Nm):List Value:=N.flatMap (fun x=>[.string x.name,.int .i64 x.ar])
def Y6:List (ByteArray × Int × Int):=[(⟨#[110,111,116]⟩,1,0),(⟨#[97,110,100]⟩,1,2),(⟨#[111,114]⟩,1,2),(⟨#[61,62]⟩,1,1),(⟨#[105,102,102]⟩,1,1),(⟨#[61]⟩,2,3),(⟨#[60]⟩,2,3),(⟨#[60,61]⟩,2,3),(⟨#[108,101]⟩,2,4)]
def zp0:Array Value:=(Y6.flatMap (fun x=>[.string x.1,.int .i64 x.2.1,.int .i64 x.2.2])).toArray
def U4(w:World):Prop:=∃ t fr,w.heap[0]?=some (.cells zp0 t fr)
theorem U4.ext{w w':World}{S:Nat->Prop}(h:U4 w)(hx:q9 S w w')(hS:¬S 0):U4 w':=by obtain⟨t,fr,hb⟩:=h;exact⟨t,fr,(hx.block _ (z8 hb) hS).trans hb⟩
structure PR(w:World)(c:V7)(ts:List Tk)(d pl er:Int):Prop where
 wf:TW ts
 dlo:0<=d
 dhi:d<=30
 len:ts.length<=601
 tbn:¬c.tb=c.rb
 sbn:¬c.sb=c.rb
 nvn:∀ g,c.nv.ownBlock=some g->¬g=c.rb
 hd:U4 w
 hdn:0<c.rb
 tbs:c.tb<w.heap.size
 sbs:c.sb<w.heap.size
 few:c.N.length<=20
 ok:∀ x∈c.N,0<=x.ar/\x.ar<=3
 tbl:w.cell? ⟨c.sb,0,none⟩=some c.nv
 own:w.ownsRow 0 142 2 c.nv c.N.length (X2 c.N)
 here:∃ o cap:Nat,zm4 w c.tb o ts/\ts.length<=cap /\
  w.heap[c.rb]?=some (.cells #[.slice (some ⟨c.tb,o,none⟩) ts.length cap,.pointer (some ⟨c.sb,0,none⟩),.int .i64 d,.int .i64 pl,.int .i64 er] 215)
theorem PR.head{w:World}{c:V7}{ts:List Tk}{d pl er:Int}(h:PR w c ts d pl er):∃ t us,ts=t::us:=by
 cases ts with
 | nil=>exact absurd rfl h.wf.ne
 | cons t us=>exact⟨t,us,rfl⟩
theorem PR.rbs{w:World}{c:V7}{ts:List Tk}{d pl er:Int}(h:PR w c ts d pl er):c.rb<w.heap.size:=by obtain⟨o,cap,ht,hc,hb⟩:=h.here;exact z8 hb
theorem PR.turn{w w':World}{c:V7}{ts ts':List Tk}{d pl er d' pl' er':Int}(h:PR w c ts d pl er)(hx:q9 (· = c.rb) w w')(hw:TW ts')(h0:0<=d')(h3:d'<=30)(hl:ts'.length<=601)
  (hh:∃ o cap:Nat,zm4 w c.tb o ts'/\ts'.length<=cap /\
   w'.heap[c.rb]?=some (.cells #[.slice (some ⟨c.tb,o,none⟩) ts'.length cap,.pointer (some ⟨c.sb,0,none⟩),.int .i64 d',.int .i64 pl',.int .i64 er'] 215)):PR w' c ts' d' pl' er':=by
 obtain⟨o,cap,ht,hc,hb⟩:=hh;exact⟨hw,h0,h3,hl,h.tbn,h.sbn,h.nvn,h.hd.ext hx (fun e=>by have h1:0=c.rb:=e;have:=h.hdn;omega),h.hdn,Nat.lt_of_lt_of_le h.tbs hx.size,Nat.lt_of_lt_of_le h.sbs hx.size,h.few,h.ok,(hx.cell (p:=⟨c.sb,0,none⟩) h.sbs h.sbn).trans h.tbl,z7 h.own hx h.nvn,o,cap,ht.ext hx h.tbs h.tbn,hc,hb⟩
theorem PR.ext{w w':World}{S:Nat->Prop}{c:V7}{ts:List Tk}{d pl er:Int}(h:PR w c ts d pl er)(hx:q9 S w w')(h1:¬S c.rb)(h2:¬S c.tb)(h3:¬S c.sb)(h4:∀ g,c.nv.ownBlock=some g->¬S g)(h5:¬S 0):PR w' c ts d pl er:=by obtain⟨o,cap,ht,hc,hb⟩:=h.here;exact⟨h.wf,h.dlo,h.dhi,h.len,h.tbn,h.sbn,h.nvn,h.hd.ext hx h5,h.hdn,Nat.lt_of_lt_of_le h.tbs hx.size,Nat.lt_of_lt_of_le h.sbs hx.size,h.few,h.ok,(hx.cell (p:=⟨c.sb,0,none⟩) h.sbs h3).trans h.tbl,z7 h.own hx h4,o,cap,ht.ext hx h.tbs h2,hc,(hx.block _ (z8 hb) h1).trans hb⟩
theorem PR.new{w w':World}{c:V7}{ts:List Tk}{d pl er:Int}(h:PR w c ts d pl er)(hx:q9 (fun _=>False) w w'):PR w' c ts d pl er :=
 h.ext hx (fun f=>f) (fun f=>f) (fun f=>f) (fun _ _ f=>f) (fun f=>f)
theorem PR.sm{w:World}{c:V7}{t:Tk}{ts:List Tk}{d pl er:Int}(h:PR w c (t::ts) d pl er):t.txt.size<=600:=by obtain⟨o,cap,ht,hc,hb⟩:=h.here;exact ht.2.2.2.1
theorem X5{w:World}{c:V7}{t:Tk}{ts:List Tk}{d pl er:Int}(h:PR w c (t::ts) d pl er):
  Calls prog 107 #[.pointer (some ⟨c.rb,0,none⟩)] w fun e w'=>e=.returned (.agg #[.int .i64 (kOf t.txt.toList),.int .i64 t.pos,.string t.txt])/\q9 (fun _=>False) w w':=by
 obtain⟨o,cap,ht,hc,hb⟩:=h.here;have c0:=z6 hb 0;have t0:=ht.1;have t1:=ht.2.1;have t2:=ht.2.2.1;have hr:=h.rbs;have htb:=h.tbs;have n1:¬c.rb=w.heap.size:=by omega
 have n2:¬c.tb=w.heap.size:=by omega
 have hl:(0:Int)<((ts.length:Int)+1):=by omega
 clear hb ht h;go_enter func107,ntmps107;go_wp2_with fail;exact bodyPost_ret (v:=.agg #[.int .i64 (kOf t.txt.toList),.int .i64 t.pos,.string t.txt]) (by simp[results,results107,go_sem]) rfl ⟨rfl,(q9.refl _ w).alloc _⟩
theorem zh6(a b:Int)(x:ByteArray)(w:World):Sem.run prog (Instr.field 219 (.agg #[.int .i64 a,.int .i64 b,.string x]) 0) w=.ok (.int .i64 a) w:=by kernel_rfl
theorem jv3(a b:Int)(x:ByteArray)(w:World):Sem.run prog (Instr.field 219 (.agg #[.int .i64 a,.int .i64 b,.string x]) 1) w=.ok (.int .i64 b) w:=by kernel_rfl
theorem zk9(a b:Int)(x:ByteArray)(w:World):Sem.run prog (Instr.field 219 (.agg #[.int .i64 a,.int .i64 b,.string x]) 2) w=.ok (.string x) w:=by kernel_rfl
theorem zr1{l:List UInt8}:kOf l=0↔l=[]:=by
 unfold kOf;constructor
 ·intro h;split at h
  ·assumption
  ·split at h
   ·exact absurd h (by decide)
   ·split at h<;>exact absurd h (by decide)
 ·intro h;rw[if_pos h]
theorem zr2{w:World}{c:V7}{t:Tk}{ts:List Tk}{d pl er:Int}(h:PR w c (t::ts) d pl er)(hne:t.txt.toList≠[]):
  Calls prog 109 #[.pointer (some ⟨c.rb,0,none⟩)] w fun e w'=>e=.returned (.tuple #[])/\q9 (· = c.rb) w w'/\PR w' c ts d pl er:=by
 have hk:(kOf t.txt.toList==0)=false:=by
  cases hq:(kOf t.txt.toList==0) with
  | false=>rfl
  | true=>exact absurd (zr1.1 (beq_iff_eq.1 hq)) hne
 have HW:=q8 (h.wf.tail hne);have hts:0<ts.length:=by
  cases ts with
  | nil=>exact absurd rfl HW.out.ne
  | cons a b=>simp
 have H:=q8 h;have F0:=zh6;clear h;go_enter func109,ntmps109;go_wp2_with fail;refine(X5 H.out).mono ?_;rintro e w1 ⟨rfl,hx1⟩;have h1:=H.out.new hx1;obtain⟨o,cap,ht,hc,hb⟩:=h1.here;have c0:=z6 hb 0;have f0:=Q8 hb 0;have hlen:=h1.len;have hc2:ts.length+1<=cap:=hc;have hc3:¬cap=1:=by omega
 have hl:(1:Int)<=((ts.length:Int)+1):=by omega
 have HX1:=q8 hx1;have H1:=q8 h1;have HT:=q8 ht;have HB:=q8 hb;clear hx1 h1 ht hb hc;go_wp2_with fail
 go_end0
 have hx2:q9 (· = c.rb) w1 (w1.setCell ⟨c.rb,0,none⟩ (.slice (some ⟨c.tb,o+3,none⟩) ts.length (cap-1))):=(q9.refl (· = c.rb) w1).setCell (p:=⟨c.rb,0,none⟩) (fun _=>rfl) _;exact⟨rfl,(HX1.out.mono (fun _ _ f=>f.elim)).trans hx2,H1.out.turn hx2 HW.out H1.out.dlo H1.out.dhi (by have:=H1.out.len;simp at this;omega) ⟨o+3,cap-1,HT.out.2.2.2.2,by omega,Y4 HB.out 0 _⟩⟩
theorem za3{w:World}{c:V7}{t:Tk}{ts:List Tk}{d pl er:Int}(e:Int)(h:PR w c (t::ts) d pl er):
  Calls prog 110 #[.pointer (some ⟨c.rb,0,none⟩),.int .i64 e] w fun en w'=>en=.returned (.bool false)/\q9 (· = c.rb) w w'/\PR w' c (t::ts) d t.pos e:=by
 have H:=q8 h;have F1:=jv3;clear h;go_enter func110,ntmps110;go_wp2_with fail;refine(X5 H.out).mono ?_;rintro en w1 ⟨rfl,hx1⟩;have h1:=H.out.new hx1;obtain⟨o,cap,ht,hc,hb⟩:=h1.here;have c3:=z6 hb 3;have f3:=Q8 hb 3;have c4:=z6 hb 4;have f4:=Q8 hb 4;have HX1:=q8 hx1;have H1:=q8 h1;have HT:=q8 ht;have HB:=q8 hb;have HC:=q8 hc;clear hx1 h1 ht hb hc;go_wp2_with fail;go_ret;have hx2:q9 (· = c.rb) w1 ((w1.setCell ⟨c.rb,3,none⟩ (.int .i64 t.pos)).setCell ⟨c.rb,4,none⟩ (.int .i64 e)):=((q9.refl (· = c.rb) w1).setCell (p:=⟨c.rb,3,none⟩) (fun _=>rfl) _).setCell (p:=⟨c.rb,4,none⟩) (fun _=>rfl) _;exact⟨rfl,(HX1.out.mono (fun _ _ f=>f.elim)).trans hx2,H1.out.turn hx2 H1.out.wf H1.out.dlo H1.out.dhi H1.out.len ⟨o,cap,HT.out,HC.out,Y4 (Y4 HB.out 3 _) 4 _⟩⟩
theorem qe0{w:World}{c:V7}{t:Tk}{ts:List Tk}{d pl er:Int}(h:PR w c (t::ts) d pl er)(he:t.txt.toList=[]):
  Calls prog 106 #[.pointer (some ⟨c.rb,0,none⟩)] w fun en w'=>en=.returned (.bool true)/\q9 (fun _=>False) w w':=by
 have H:=q8 h;have F0:=zh6;have hk:(kOf t.txt.toList==0)=true:=by rw[zr1.2 he];rfl
 clear h he;go_enter func106,ntmps106;go_wp2_with (go_at_call 107;refine(X5 H.out).mono ?_;rintro en w1 ⟨rfl,hx1⟩;have HX1:=q8 hx1;clear hx1);go_ret;exact⟨rfl,HX1.out⟩
theorem qe1{w:World}{c:V7}{t:Tk}{ts:List Tk}{d pl er:Int}(h:PR w c (t::ts) d pl er)(he:t.txt.toList≠[]):
  Calls prog 106 #[.pointer (some ⟨c.rb,0,none⟩)] w fun en w'=>en=.returned (.bool false)/\q9 (· = c.rb) w w'/\PR w' c (t::ts) d t.pos 2:=by
 have H:=q8 h;have F0:=zh6;have hk:(kOf t.txt.toList==0)=false:=by
  cases hq:(kOf t.txt.toList==0) with
  | false=>rfl
  | true=>exact absurd (zr1.1 (beq_iff_eq.1 hq)) he
 clear h he;go_enter func106,ntmps106;go_wp2_with first
  | (go_at_call 107;refine(X5 H.out).mono ?_;rintro en w1 ⟨rfl,hx1⟩;have HX1:=q8 hx1;clear hx1)
  | (go_at_call 110;refine(za3 _ (H.out.new HX1.out)).mono ?_;rintro en w2 ⟨rfl,hx2,hr2⟩;have HX2:=q8 hx2;have HR2:=q8 hr2;clear hx2 hr2)
 go_ret;exact⟨rfl,(HX1.out.mono (fun _ _ f=>f.elim)).trans HX2.out,HR2.out⟩
theorem zF5{w:World}{c:V7}{t:Tk}{ts:List Tk}{d pl er:Int}(h:PR w c (t::ts) d pl er)(hd:30<=d):
  Calls prog 144 #[.pointer (some ⟨c.rb,0,none⟩)] w fun en w'=>en=.returned (.bool false)/\q9 (· = c.rb) w w'/\PR w' c (t::ts) d t.pos 6:=by
 obtain⟨o,cap,ht,hc,hb⟩:=h.here;have c2:=z6 hb 2;have H:=q8 h;clear h ht hb hc;go_enter func144,ntmps144;go_wp2_with (go_at_call 110;refine(za3 _ H.out).mono ?_;rintro en w2 ⟨rfl,hx2,hr2⟩;have HX2:=q8 hx2;have HR2:=q8 hr2;clear hx2 hr2);go_ret;exact⟨rfl,HX2.out,HR2.out⟩
theorem zm5{w:World}{c:V7}{t:Tk}{ts:List Tk}{d pl er:Int}(h:PR w c (t::ts) d pl er)(hd:d<30)(hne:t.txt.toList≠[]):
  Calls prog 144 #[.pointer (some ⟨c.rb,0,none⟩)] w fun en w'=>en=.returned (.bool true)/\q9 (· = c.rb) w w'/\PR w' c ts (d+1) pl er:=by
 obtain⟨o,cap,ht,hc,hb⟩:=h.here;have c2:=z6 hb 2;have f2:=Q8 hb 2;have hlo:=h.dlo;have hx1:q9 (· = c.rb) w (w.setCell ⟨c.rb,2,none⟩ (.int .i64 (d+1))):=(q9.refl (· = c.rb) w).setCell (p:=⟨c.rb,2,none⟩) (fun _=>rfl) _;have HX1:=q8 hx1;have H1:=q8 (h.turn hx1 h.wf (by omega) (by omega) h.len ⟨o,cap,ht,hc,Y4 hb 2 _⟩);have HNE:=q8 hne;clear h ht hb hc hx1 hne;go_enter func144,ntmps144;go_wp2_with (go_at_call 109;refine(zr2 H1.out HNE.out).mono ?_;rintro en w2 ⟨rfl,hx2,hr2⟩;have HX2:=q8 hx2;have HR2:=q8 hr2;clear hx2 hr2);go_ret;exact⟨rfl,HX1.out.trans HX2.out,HR2.out⟩
theorem zD3{l:List UInt8}(h:l=[41]):kOf l=2:=by rw[h];decide
theorem zY4{l:List UInt8}(h:l≠[41]):(kOf l==2)=false:=by
 unfold kOf;split
 ·decide
 ·split
  ·decide
  ·first
    | decide
    | (rw[if_neg h];decide)
theorem zJ4{w:World}{c:V7}{t:Tk}{ts:List Tk}{d pl er:Int}(e:Int)(h:PR w c (t::ts) d pl er)(hd:1<=d)(hq:t.txt.toList=[41]):
  Calls prog 147 #[.pointer (some ⟨c.rb,0,none⟩),.int .i64 e] w fun en w'=>en=.returned (.bool true)/\q9 (· = c.rb) w w'/\PR w' c ts (d-1) pl er:=by
 have H:=q8 h;have F0:=zh6;have hhi:=h.dhi;have hk:(kOf t.txt.toList==2)=true:=by rw[zD3 hq];rfl
 have HNE:Hid (t.txt.toList≠[]):=by intro e;rw[e] at hq;exact absurd hq (by decide)
 clear h hq;go_enter func147,ntmps147;go_wp2_with fail;refine(X5 H.out).mono ?_;rintro en w1 ⟨rfl,hx1⟩;have h1:=H.out.new hx1;obtain⟨o,cap,ht,hc,hb⟩:=h1.here;have c2:=z6 hb 2;have f2:=Q8 hb 2;have hx2:q9 (· = c.rb) w1 (w1.setCell ⟨c.rb,2,none⟩ (.int .i64 (d-1))):=(q9.refl (· = c.rb) w1).setCell (p:=⟨c.rb,2,none⟩) (fun _=>rfl) _;have HX2:Hid (q9 (· = c.rb) w (w1.setCell ⟨c.rb,2,none⟩ (.int .i64 (d-1)))):=(hx1.mono (fun _ _ f=>f.elim)).trans hx2;have H2:=q8 (h1.turn hx2 h1.wf (by omega) (by omega) h1.len ⟨o,cap,ht,hc,Y4 hb 2 _⟩);clear h1 ht hb hc hx1 hx2;go_wp2_with (go_at_call 109;refine(zr2 H2.out HNE.out).mono ?_;rintro en w2 ⟨rfl,hx3,hr3⟩;have HX3:=q8 hx3;have HR3:=q8 hr3;clear hx3 hr3);go_ret;exact⟨rfl,HX2.out.trans HX3.out,HR3.out⟩
def zJ5(e:Int)(l:List UInt8):Int:=if l=[] then 2 else e
theorem zJ6{w:World}{c:V7}{t:Tk}{ts:List Tk}{d pl er:Int}(e:Int)(h:PR w c (t::ts) d pl er)(hq:t.txt.toList≠[41]):
  Calls prog 147 #[.pointer (some ⟨c.rb,0,none⟩),.int .i64 e] w fun en w'=>en=.returned (.bool false)/\q9 (· = c.rb) w w'/\PR w' c (t::ts) d t.pos (zJ5 e t.txt.toList):=by
 have H:=q8 h;have F0:=zh6;have hk:=zY4 hq;clear h hq;by_cases h0:t.txt.toList=[]
 ·have hk0:(kOf t.txt.toList==0)=true:=by rw[zr1.2 h0];rfl
  rw[zJ5,if_pos h0];clear h0;go_enter func147,ntmps147;go_wp2_with first
   | (go_at_call 107;refine(X5 H.out).mono ?_;rintro en w1 ⟨rfl,hx1⟩;have HX1:=q8 hx1;clear hx1)
   | (go_at_call 110;refine(za3 _ (H.out.new HX1.out)).mono ?_;rintro en w2 ⟨rfl,hx2,hr2⟩;have HX2:=q8 hx2;have HR2:=q8 hr2;clear hx2 hr2)
  go_ret;exact⟨rfl,(HX1.out.mono (fun _ _ f=>f.elim)).trans HX2.out,HR2.out⟩
 ·have hk0:(kOf t.txt.toList==0)=false:=by
   cases hq:(kOf t.txt.toList==0) with
   | false=>rfl
   | true=>exact absurd (zr1.1 (beq_iff_eq.1 hq)) h0
  rw[zJ5,if_neg h0];clear h0;go_enter func147,ntmps147;go_wp2_with first
   | (go_at_call 107;refine(X5 H.out).mono ?_;rintro en w1 ⟨rfl,hx1⟩;have HX1:=q8 hx1;clear hx1)
   | (go_at_call 110;refine(za3 _ (H.out.new HX1.out)).mono ?_;rintro en w2 ⟨rfl,hx2,hr2⟩;have HX2:=q8 hx2;have HR2:=q8 hr2;clear hx2 hr2)
  go_ret;exact⟨rfl,(HX1.out.mono (fun _ _ f=>f.elim)).trans HX2.out,HR2.out⟩
inductive PN(w:World)(D:Nat->Prop):List Value->Nd->Prop
 | mk {k v:Int} {word:ByteArray} {ps:List Nd} {pv:Value} {kids:List (List Value)}
   (how:w.ownsRow 0 115 4 pv ps.length kids.flatten) (hl:∀ cs∈kids,cs.length=4) (hn:kids.length=ps.length) (hD:∀ g,pv.ownBlock=some g->D g)
   (hk:∀ (i:Nat) (cs:List Value) (p:Nd),kids[i]?=some cs->ps[i]?=some p->PN w D cs p):PN w D [.int .i64 k,.string word,.int .i64 v,pv] (.mk k word v ps)
theorem PN.ext{S D:Nat->Prop}{w w':World}{cs:List Value}{nd:Nd}(h:PN w D cs nd)(hx:q9 S w w')(hS:∀ k,k<w.heap.size->D k->¬S k):PN w' D cs nd:=by
 induction h with
 | mk how hl hn hD _ ih=>exact PN.mk (z7 how hx (fun k hk=>hS k (how.lt k hk).2 (hD k hk))) hl hn hD ih
theorem PN.mono{D D':Nat->Prop}{w:World}{cs:List Value}{nd:Nd}(h:PN w D cs nd)(hl':∀ k,k<w.heap.size->D k->D' k):PN w D' cs nd:=by
 induction h with
 | mk how hl hn hD _ ih=>exact PN.mk how hl hn (fun g hg=>hl' g (how.lt g hg).2 (hD g hg)) ih
theorem PN.leaf{w:World}{D:Nat->Prop}(k v:Int)(word:ByteArray):PN w D [.int .i64 k,.string word,.int .i64 v,.slice none 0 0] (.mk k word v []) :=
 PN.mk (kids:=[]) (World.ownsRow_nil _ _ _ _) (fun _ h=>absurd h (by simp)) rfl (fun g hg=>absurd hg (by simp[Value.ownBlock])) (fun _ _ _ h=>absurd h (by simp))
def X7(w:World)(c:V7)(d pl er:Int)(r:Rs Nd)(en:Ending)(w':World):Prop :=
 q9 (· = c.rb) w w'/\(match r with
  | .ok nd ts'=>∃ (k:Int) (wd:ByteArray) (v:Int) (sa:Option Addr) (sn sc:Nat),en=.returned (.tuple #[.agg #[.int .i64 k,.string wd,.int .i64 v,.slice sa sn sc],.bool true])/\PN w' (w.heap.size <= ·) [.int .i64 k,.string wd,.int .i64 v,.slice sa sn sc] nd/\PR w' c ts' d pl er
  | .no e p=>en=.returned (.tuple #[.agg #[.int .i64 0,.string ⟨#[]⟩,.int .i64 0,.slice none 0 0],.bool false])/\∃ ts' d',PR w' c ts' d' p e)
theorem Z5(w:World)(h:Nat)(a b x p:Value):q9 (· = h) w ((((w.setCell ⟨h,0,none⟩ a).setCell ⟨h,1,none⟩ b).setCell ⟨h,2,none⟩ x).setCell ⟨h,3,none⟩ p) :=
 ((((q9.refl (· = h) w).setCell (p:=⟨h,0,none⟩) (fun _=>rfl) _).setCell (p:=⟨h,1,none⟩) (fun _=>rfl) _).setCell (p:=⟨h,2,none⟩) (fun _=>rfl) _).setCell (p:=⟨h,3,none⟩) (fun _=>rfl) _
theorem U1{w w0 w2 W:World}{c:V7}{d pl er d' e:Int}{p:Nat}{ts':List Tk}(hx0:q9 (fun _=>False) w w0)(hx2:q9 (· = c.rb) w0 w2)(hr:PR w2 c ts' d' p e)(hW:q9 (· = w.heap.size) w2 W)(hrb:c.rb<w.heap.size)(htb:c.tb<w.heap.size)(hsb:c.sb<w.heap.size)(hnv:∀ g,c.nv.ownBlock=some g->g<w.heap.size):
  X7 w c d pl er (.no e p) (.returned (.tuple #[.agg #[.int .i64 0,.string ⟨#[]⟩,.int .i64 0,.slice none 0 0],.bool false])) W:=by
 refine⟨((hx0.mono (fun _ _ f=>f.elim)).trans hx2).trans' hW (fun i hi e=>by have h1:i=w.heap.size:=e;omega),rfl,ts',d',?_⟩;exact hr.ext hW (by show ¬c.rb=w.heap.size;omega) (by show ¬c.tb=w.heap.size;omega) (by show ¬c.sb=w.heap.size;omega) (fun g hg e=>by have h1:g=w.heap.size:=e;have:=hnv g hg;omega) (by show ¬0=w.heap.size;have:=hr.hdn;omega)
theorem zd9{w w0 w2 W:World}{c:V7}{d pl er:Int}{nd:Nd}{ts':List Tk}{k v:Int}{wd:ByteArray}{sa:Option Addr}{sn sc:Nat}(hx0:q9 (fun _=>False) w w0)(hx2:q9 (· = c.rb) w0 w2)(hr:PR w2 c ts' d pl er)(hn:PN w2 (fun k=>w.heap.size<k) [.int .i64 k,.string wd,.int .i64 v,.slice sa sn sc] nd)(hW:q9 (· = w.heap.size) w2 W)(hrb:c.rb<w.heap.size)(htb:c.tb<w.heap.size)(hsb:c.sb<w.heap.size)(hnv:∀ g,c.nv.ownBlock=some g->g<w.heap.size):
  X7 w c d pl er (.ok nd ts') (.returned (.tuple #[.agg #[.int .i64 k,.string wd,.int .i64 v,.slice sa sn sc],.bool true])) W:=by
 refine⟨((hx0.mono (fun _ _ f=>f.elim)).trans hx2).trans' hW (fun i hi e=>by have h1:i=w.heap.size:=e;omega),k,wd,v,sa,sn,sc,rfl,?_,?_⟩
 ·exact(hn.ext hW (fun k _ hk e=>by have h1:k=w.heap.size:=e;omega)).mono (fun k _ hk=>by show w.heap.size<=k;omega)
 ·exact hr.ext hW (by show ¬c.rb=w.heap.size;omega) (by show ¬c.tb=w.heap.size;omega) (by show ¬c.sb=w.heap.size;omega) (fun g hg e=>by have h1:g=w.heap.size:=e;have:=hnv g hg;omega) (by show ¬0=w.heap.size;have:=hr.hdn;omega)
theorem PR.nvs{w:World}{c:V7}{ts:List Tk}{d pl er:Int}(h:PR w c ts d pl er):∀ g,c.nv.ownBlock=some g->g<w.heap.size:=fun g hg=>(h.own.lt g hg).2
theorem qe2{w:World}{c:V7}{t:Tk}{ts:List Tk}{d pl er:Int}(k:Int)(h:PR w c (t::ts) d pl er)(hv:numOf t.txt.toList=none):
    Calls prog 192 #[.pointer (some ⟨c.rb,0,none⟩),.int .i64 k] w (X7 w c d pl er (.no 2 t.pos)):=by
  have F2:=zk9;have hrb:=h.rbs;have hrn:¬w.heap.size=c.rb:=by omega
  have htb:=h.tbs;have hsb:=h.sbs;have HNV:=q8 h.nvs;have HX0:Hid (q9 (fun _=>False) w (w.alloc (.cells #[.int .i64 0,.string ⟨#[]⟩,.int .i64 0,.slice none 0 0] 115))):=(q9.refl _ w).alloc _;have H0:=q8 (h.new HX0.out);have hsm:t.txt.size<=maxLen:=by have:=h.sm;unfold maxLen;omega
  have HN:=zr6 t.txt;rw[hv] at HN;have HN':=q8 HN;clear h hv HN;go_enter func192,ntmps192;go_wp2_with first
    | (go_at_call 107;refine(X5 H0.out).mono ?_;rintro en w1 ⟨rfl,hx1⟩;have HX1:=q8 hx1;clear hx1)
    | (go_at_call 215;refine(HN'.out _ hsm).mono ?_;rintro en w' ⟨rfl,rfl⟩)
    | (go_at_call 110;refine(za3 _ (H0.out.new HX1.out)).mono ?_;rintro en w2 ⟨rfl,hx2,hr2⟩
       have HX2:Hid (q9 (· = c.rb) (w.alloc (.cells #[.int .i64 0,.string ⟨#[]⟩,.int .i64 0,.slice none 0 0] 115)) w2):=(HX1.out.mono (fun _ _ f=>f.elim)).trans hx2;have kb:w2.heap[w.heap.size]?=some (.cells #[.int .i64 0,.string ⟨#[]⟩,.int .i64 0,.slice none 0 0] 115):=(HX2.out.block _ (z8 (heap_alloc_new w _)) hrn).trans (heap_alloc_new w _);have z0:=z6 kb 0;have z1:=z6 kb 1;have z2:=z6 kb 2;have z3:=z6 kb 3;have y0:=Q8 kb 0;have y1:=Q8 kb 1;have y2:=Q8 kb 2;have y3:=Q8 kb 3;have HR2:=q8 hr2;clear hx2 hr2)
  refine bodyPost_ret (v:=.tuple #[.agg #[.int .i64 0,.string ⟨#[]⟩,.int .i64 0,.slice none 0 0],.bool false]) (by simp[results,results192,go_sem,z0,z1,z2,z3]) rfl ?_;exact U1 HX0.out HX2.out HR2.out (Z5 _ _ _ _ _ _) hrb htb hsb HNV.out
theorem zJ7{w:World}{c:V7}{t:Tk}{ts:List Tk}{d pl er v:Int}(k:Int)(h:PR w c (t::ts) d pl er)(hv:numOf t.txt.toList=some v)(hg:v < -1000\/1000<v):
    Calls prog 192 #[.pointer (some ⟨c.rb,0,none⟩),.int .i64 k] w (X7 w c d pl er (.no 5 t.pos)):=by
  have F0:=zh6;have F2:=zk9;have hrb:=h.rbs;have hrn:¬w.heap.size=c.rb:=by omega
  have htb:=h.tbs;have hsb:=h.sbs;have HNV:=q8 h.nvs;have HX0:Hid (q9 (fun _=>False) w (w.alloc (.cells #[.int .i64 0,.string ⟨#[]⟩,.int .i64 0,.slice none 0 0] 115))):=(q9.refl _ w).alloc _;have H0:=q8 (h.new HX0.out);have hsm:t.txt.size<=maxLen:=by have:=h.sm;unfold maxLen;omega
  have HN:=zr6 t.txt;rw[hv] at HN;have HN':=q8 HN;have hw:=zp1 v (-1000) 1000;have hwf:decide (-1000<=v/\v<=1000)=false:=by simp;omega
  rw[hwf] at hw;have HW:=q8 hw;clear h hv HN hw hwf hg F0;go_enter func192,ntmps192;go_wp2_with first
    | (go_at_call 107;refine(X5 H0.out).mono ?_;rintro en w1 ⟨rfl,hx1⟩;have HX1:=q8 hx1;clear hx1)
    | (go_at_call 215;refine(HN'.out _ hsm).mono ?_;rintro en w' ⟨rfl,rfl⟩)
    | (go_at_call 68;refine(HW.out _).mono ?_;rintro en w' ⟨rfl,rfl⟩)
    | (go_at_call 110;refine(za3 _ (H0.out.new HX1.out)).mono ?_;rintro en w2 ⟨rfl,hx2,hr2⟩
       have HX2:Hid (q9 (· = c.rb) (w.alloc (.cells #[.int .i64 0,.string ⟨#[]⟩,.int .i64 0,.slice none 0 0] 115)) w2):=(HX1.out.mono (fun _ _ f=>f.elim)).trans hx2;have kb:w2.heap[w.heap.size]?=some (.cells #[.int .i64 0,.string ⟨#[]⟩,.int .i64 0,.slice none 0 0] 115):=(HX2.out.block _ (z8 (heap_alloc_new w _)) hrn).trans (heap_alloc_new w _);have z0:=z6 kb 0;have z1:=z6 kb 1;have z2:=z6 kb 2;have z3:=z6 kb 3;have y0:=Q8 kb 0;have y1:=Q8 kb 1;have y2:=Q8 kb 2;have y3:=Q8 kb 3;clear kb;have HR2:=q8 hr2;clear hx2 hr2)
  refine bodyPost_ret (v:=.tuple #[.agg #[.int .i64 0,.string ⟨#[]⟩,.int .i64 0,.slice none 0 0],.bool false]) (by simp[results,results192,go_sem,z0,z1,z2,z3]) rfl ?_;exact U1 HX0.out HX2.out HR2.out (Z5 _ _ _ _ _ _) hrb htb hsb HNV.out
theorem qe3{w:World}{c:V7}{t:Tk}{ts:List Tk}{d pl er v:Int}(k:Int)(h:PR w c (t::ts) d pl er)(hv:numOf t.txt.toList=some v)(hg1:-1000<=v)(hg2:v<=1000):
    Calls prog 192 #[.pointer (some ⟨c.rb,0,none⟩),.int .i64 k] w (X7 w c d pl er (.ok (.mk k ByteArray.empty v []) ts)):=by
  have F0:=zh6;have F2:=zk9;have hrb:=h.rbs;have hrn:¬w.heap.size=c.rb:=by omega
  have htb:=h.tbs;have hsb:=h.sbs;have HNV:=q8 h.nvs;have HX0:Hid (q9 (fun _=>False) w (w.alloc (.cells #[.int .i64 0,.string ⟨#[]⟩,.int .i64 0,.slice none 0 0] 115))):=(q9.refl _ w).alloc _;have H0:=q8 (h.new HX0.out);have hsm:t.txt.size<=maxLen:=by have:=h.sm;unfold maxLen;omega
  have HNE:Hid (t.txt.toList≠[]):=by have:=(qV6 hv).2.2;intro e;rw[e] at this;exact absurd this (by decide)
  have HN:=zr6 t.txt;rw[hv] at HN;have HN':=q8 HN;have hw:=zp1 v (-1000) 1000;have hwf:decide (-1000<=v/\v<=1000)=true:=by simp;omega
  rw[hwf] at hw;have HW:=q8 hw;clear h hv HN hw hwf F0;go_enter func192,ntmps192;go_wp2_with first
    | (go_at_call 107;refine(X5 H0.out).mono ?_;rintro en w1 ⟨rfl,hx1⟩;have HX1:=q8 hx1;clear hx1)
    | (go_at_call 215;refine(HN'.out _ hsm).mono ?_;rintro en w' ⟨rfl,rfl⟩)
    | (go_at_call 68;refine(HW.out _).mono ?_;rintro en w' ⟨rfl,rfl⟩)
    | (go_at_call 109;refine(zr2 (H0.out.new HX1.out) HNE.out).mono ?_;rintro en w2 ⟨rfl,hx2,hr2⟩
       have HX2:Hid (q9 (· = c.rb) (w.alloc (.cells #[.int .i64 0,.string ⟨#[]⟩,.int .i64 0,.slice none 0 0] 115)) w2):=(HX1.out.mono (fun _ _ f=>f.elim)).trans hx2;have kb:w2.heap[w.heap.size]?=some (.cells #[.int .i64 0,.string ⟨#[]⟩,.int .i64 0,.slice none 0 0] 115):=(HX2.out.block _ (z8 (heap_alloc_new w _)) hrn).trans (heap_alloc_new w _);have z0:=z6 kb 0;have z1:=z6 kb 1;have z2:=z6 kb 2;have z3:=z6 kb 3;have y0:=Q8 kb 0;have y1:=Q8 kb 1;have y2:=Q8 kb 2;have y3:=Q8 kb 3;clear kb;have HR2:=q8 hr2;clear hx2 hr2)
  refine bodyPost_ret (v:=.tuple #[.agg #[.int .i64 k,.string ⟨#[]⟩,.int .i64 v,.slice none 0 0],.bool true]) (by simp[results,results192,go_sem,z0,z1,z2,z3]) rfl ?_;exact zd9 HX0.out HX2.out HR2.out (PN.leaf k v ByteArray.empty) (Z5 _ _ _ _ _ _) hrb htb hsb HNV.out
theorem qe4{w:World}{c:V7}{t:Tk}{ts:List Tk}{d pl er:Int}(k:Int)(h:PR w c (t::ts) d pl er):
  Calls prog 192 #[.pointer (some ⟨c.rb,0,none⟩),.int .i64 k] w (X7 w c d pl er (V5 k (t::ts))):=by
 cases hv:numOf t.txt.toList with
 | none=>
  have e:V5 k (t::ts)=.no 2 t.pos:=by simp only[V5,hv]
  rw[e];exact qe2 k h hv
 | some v=>
  by_cases hg:v < -1000\/1000<v
  ·have e:V5 k (t::ts)=.no 5 t.pos:=by simp only[V5,hv,if_pos hg]
   rw[e];exact zJ7 k h hv hg
  ·have e:V5 k (t::ts)=.ok (.mk k ByteArray.empty v []) ts:=by simp only[V5,hv,if_neg hg]
   rw[e];exact qe3 k h hv (by omega) (by omega)
theorem zH4{w:World}{c:V7}{t:Tk}{ts:List Tk}{d pl er:Int}(h:PR w c (t::ts) d pl er):
  Calls prog 186 #[.pointer (some ⟨c.rb,0,none⟩)] w (X7 w c d pl er (V5 5 (t::ts))):=by
 have F0:=zh6;have F2:=zk9;have hrb:=h.rbs;have hrn:¬w.heap.size=c.rb:=by omega
 have htb:=h.tbs;have hsb:=h.sbs;have HNV:=q8 h.nvs;have HX0:Hid (q9 (fun _=>False) w (w.alloc (.cells #[.int .i64 0,.string ⟨#[]⟩,.int .i64 0,.slice none 0 0] 115))):=(q9.refl _ w).alloc _;have H0:=q8 (h.new HX0.out);have HP:=q8 (qe4 5 H0.out);clear h F0 F2;cases hr:V5 5 (t::ts) with
 | no e p=>rw[hr] at HP;go_enter func186,ntmps186;go_wp2_with fail;refine HP.out.mono ?_;rintro en w2 ⟨hx2,rfl,ts',d',hr2⟩;have HX2:Hid (q9 (· = c.rb) (w.alloc (.cells #[.int .i64 0,.string ⟨#[]⟩,.int .i64 0,.slice none 0 0] 115)) w2):=hx2;have kb:w2.heap[w.heap.size]?=some (.cells #[.int .i64 0,.string ⟨#[]⟩,.int .i64 0,.slice none 0 0] 115):=(HX2.out.block _ (z8 (heap_alloc_new w _)) hrn).trans (heap_alloc_new w _);have z0:=z6 kb 0;have z1:=z6 kb 1;have z2:=z6 kb 2;have z3:=z6 kb 3;have y0:=Q8 kb 0;have y1:=Q8 kb 1;have y2:=Q8 kb 2;have y3:=Q8 kb 3;clear kb;clear hx2;go_wp2_with fail;refine bodyPost_ret (v:=.tuple #[.agg #[.int .i64 0,.string ⟨#[]⟩,.int .i64 0,.slice none 0 0],.bool false]) (by simp[results,results186,go_sem,z0,z1,z2,z3]) rfl ?_;exact U1 HX0.out HX2.out hr2 (Z5 _ _ _ _ _ _) hrb htb hsb HNV.out
 | ok nd ts'=>rw[hr] at HP;go_enter func186,ntmps186;go_wp2_with fail;refine HP.out.mono ?_;rintro en w2 ⟨hx2,k,wd,v,sa,sn,sc,rfl,hn,hr2⟩;have HX2:Hid (q9 (· = c.rb) (w.alloc (.cells #[.int .i64 0,.string ⟨#[]⟩,.int .i64 0,.slice none 0 0] 115)) w2):=hx2;have kb:w2.heap[w.heap.size]?=some (.cells #[.int .i64 0,.string ⟨#[]⟩,.int .i64 0,.slice none 0 0] 115):=(HX2.out.block _ (z8 (heap_alloc_new w _)) hrn).trans (heap_alloc_new w _);have z0:=z6 kb 0;have z1:=z6 kb 1;have z2:=z6 kb 2;have z3:=z6 kb 3;have y0:=Q8 kb 0;have y1:=Q8 kb 1;have y2:=Q8 kb 2;have y3:=Q8 kb 3;clear kb;clear hx2;go_wp2_with fail;refine bodyPost_ret (v:=.tuple #[.agg #[.int .i64 k,.string wd,.int .i64 v,.slice sa sn sc],.bool true]) (by simp[results,results186,go_sem,z0,z1,z2,z3]) rfl ?_;exact zd9 HX0.out HX2.out hr2 (hn.mono (fun k _ hk=>by have h1:(w.alloc _).heap.size<=k:=hk;simp at h1;omega)) (Z5 _ _ _ _ _ _) hrb htb hsb HNV.out
theorem zY5(N:List Nm)(x:Nm):X2 (N++[x])=X2 N++[.string x.name,.int .i64 x.ar]:=by simp[X2]
theorem zr3(N:List Nm):(X2 N).length=N.length*2:=by
 induction N with
 | nil=>rfl
 | cons a b ih=>simp only[X2,List.flatMap_cons,List.length_append] at ih ⊢;simp at ih ⊢;omega
theorem qe5{N:List Nm}{i:Nat}{x:Nm}(h:N[i]?=some x):(X2 N)[i*2]?=some (.string x.name)/\(X2 N)[i*2+1]?=some (.int .i64 x.ar):=by
 obtain⟨hi,hx⟩:=List.getElem?_eq_some_iff.1 h;have e:N.take i++x::N.drop (i+1)=N:=by rw[<- hx,List.getElem_cons_drop,List.take_append_drop]
 have e2:X2 (N.take i++x::N.drop (i+1))=X2 (N.take i)++([.string x.name,.int .i64 x.ar]++X2 (N.drop (i+1))):=by simp[X2]
 rw[e] at e2;have hl:(X2 (N.take i)).length=i*2:=by rw[zr3,List.length_take];congr 1;omega
 rw[e2];constructor
 ·rw[List.getElem?_append_right (by rw[hl];omega),hl];have:i*2-i*2=0:=by omega
  rw[this];rfl
 ·rw[List.getElem?_append_right (by rw[hl];omega),hl];have:i*2+1-i*2=1:=by omega
  rw[this];rfl
theorem zJ8{w:World}{N:List Nm}{nv:Value}(hown:w.ownsRow 0 142 2 nv N.length (X2 N)):∃ a cap,nv=.slice a N.length cap/\(0<N.length->∃ g,a=some ⟨g,0,none⟩/\g<w.heap.size/\∀ i x,N[i]?=some x->w.cell? ⟨g,i*2,none⟩=some (.string x.name)/\w.cell? ⟨g,i*2+1,none⟩=some (.int .i64 x.ar)):=by
 rcases hown.2 with⟨e,e0⟩|⟨g,cap,cur,hv,hg,hh,hr⟩
 ·exact⟨none,0,by rw[e,e0],fun h0=>by omega⟩
 ·refine⟨some ⟨g,0,none⟩,cap,hv,fun _=>⟨g,rfl,z8 hh,?_⟩⟩;intro i x hx;have hi:=(List.getElem?_eq_some_iff.1 hx).1;have hc:∀ j,j<N.length*2->w.cell? ⟨g,j,none⟩=(X2 N)[j]?:=by
   intro j hj;have h2:=hown;rw[hv] at h2;exact h2.cellAt j hj
  rw[hc _ (by omega),hc _ (by omega)];exact qe5 hx
def zd0(N:List Nm)(s:ByteArray):Value :=
 match za8 N s.toList with
 | some a=>.tuple #[.agg #[.string s,.int .i64 a],.bool true]
 | none=>.tuple #[.agg #[.string ⟨#[]⟩,.int .i64 0],.bool false]
theorem qO1{N:List Nm}{l:List UInt8}{k:Nat}{x:Nm}(s:ByteArray)(hl:s.toList=l)(hn:(N.take k).find? (fun x=>x.name.toList==l)=none)(hx:N[k]?=some x)(he:(x.name.toList==l)=true):zd0 N s=.tuple #[.agg #[.string x.name,.int .i64 x.ar],.bool true]:=by have h1:=qV5 hn hx he;have h2:x.name=s:=zb9 ((beq_iff_eq.1 he).trans hl.symm);rw[zd0,hl,h1,h2]
theorem qo3{w:World}{sb:Nat}{N:List Nm}{nv:Value}(s:ByteArray)(hc:w.cell? ⟨sb,0,none⟩=some nv)(hown:w.ownsRow 0 142 2 nv N.length (X2 N))(hfew:N.length<=20)(hsb:sb<w.heap.size):
  Calls prog 69 #[.pointer (some ⟨sb,0,none⟩),.string s] w fun e w'=>e=.returned (zd0 N s)/\q9 (fun _=>False) w w':=by
 obtain⟨ar,cap,rfl,hsh⟩:=zJ8 hown;have HSH:=q8 hsh;have hsn:¬sb=w.heap.size:=by omega
 clear hsh hown;go_enter func69,ntmps69;go_wp2_with fail
 go_loopw [13] (fun i wr=>∃ k:Nat,k<=N.length/\i=.int .i64 k/\(N.take k).find? (fun x=>x.name.toList==s.toList)=none/\q9 (fun _=>False) (w.alloc (.cells #[.string ⟨#[]⟩,.int .i64 0] 142)) wr) (fun i _=>N.length-(intOf i).toNat)
 case atStart=>exact⟨0,Nat.zero_le _,rfl,rfl,q9.refl _ _⟩
 case round=>
  obtain⟨k,hk,rfl,ha,hE⟩:=hrel;have HA:=q8 ha;have kb:wr.heap[w.heap.size]?=some (.cells #[.string ⟨#[]⟩,.int .i64 0] 142):=(hE.block _ (z8 (heap_alloc_new w _)) (fun f=>f)).trans (heap_alloc_new w _);have z0:=z6 kb 0;have z1:=z6 kb 1;have y0:=Q8 kb 0;have y1:=Q8 kb 1;have hlt0:w.heap.size<wr.heap.size:=z8 kb;have HE:=q8 hE;have HE0:Hid (q9 (fun _=>False) w wr):=((q9.refl _ w).alloc _).trans hE;clear ha hE kb;by_cases hlt:k<N.length
  ·obtain⟨x,hx⟩:∃ x,N[k]?=some x:=⟨_,List.getElem?_eq_getElem hlt⟩;obtain⟨g,rfl,hgl,hcells⟩:=HSH.out (by omega);obtain⟨e1,e2⟩:=hcells k x hx;have e1':wr.cell? ⟨g,k*2,none⟩=some (.string x.name):=(HE0.out.cell (p:=⟨g,k*2,none⟩) hgl (fun f=>f)).trans e1;have e2':wr.cell? ⟨g,k*2+1,none⟩=some (.int .i64 x.ar):=(HE0.out.cell (p:=⟨g,k*2+1,none⟩) hgl (fun f=>f)).trans e2;have hgn:¬g=wr.heap.size:=by omega
   have hwn:¬w.heap.size=wr.heap.size:=by omega
   have HX:=q8 hx;clear hx hcells e1 e2;cases hq:(x.name.toList==s.toList) with
   | true=>go_wp2_with fail;refine bodyPost_ret (v:=.tuple #[.agg #[.string x.name,.int .i64 x.ar],.bool true]) (by simp[results,results69,go_sem,z0,z1,hlt0]) rfl ⟨by rw[qO1 s rfl HA.out HX.out hq],?_⟩;refine q9.alloc ?_ _;exact((HE0.out.setCell (p:=⟨w.heap.size,0,none⟩) (fun h=>absurd h (Nat.lt_irrefl _)) _).setCell (p:=⟨w.heap.size,1,none⟩) (fun h=>absurd h (Nat.lt_irrefl _)) _)
   | false=>
    go_wp2_with fail
    go_roundw
    case measure=>simp[intOf];omega
    case rel=>exact⟨k+1,by omega,by go_num,qK4 HA.out HX.out hq,HE.out.alloc _⟩
  ·have hnone:zd0 N s=.tuple #[.agg #[.string ⟨#[]⟩,.int .i64 0],.bool false]:=by
    have h1:=HA.out;rw[List.take_of_length_le (by omega)] at h1;rw[zd0,qK3 h1]
   have HN:=q8 hnone;clear hnone;go_wp2_with fail;refine bodyPost_ret (v:=.tuple #[.agg #[.string ⟨#[]⟩,.int .i64 0],.bool false]) (by simp[results,results69,go_sem,z0,z1]) rfl ⟨by rw[HN.out],?_⟩;exact((HE0.out.setCell (p:=⟨w.heap.size,0,none⟩) (fun h=>absurd h (Nat.lt_irrefl _)) _).setCell (p:=⟨w.heap.size,1,none⟩) (fun h=>absurd h (Nat.lt_irrefl _)) _)
theorem qx1(w:World)(h:Nat)(a b:Value):q9 (· = h) w ((w.setCell ⟨h,0,none⟩ a).setCell ⟨h,1,none⟩ b) :=
 ((q9.refl (· = h) w).setCell (p:=⟨h,0,none⟩) (fun _=>rfl) _).setCell (p:=⟨h,1,none⟩) (fun _=>rfl) _
def zc7(N:List Nm)(l:List UInt8):Int:=if X6 l=false then 2 else if (za8 N l).isSome=false then 3 else 0
theorem zv7{w:World}{c:V7}{t:Tk}{ts:List Tk}{d pl er:Int}(h:PR w c (t::ts) d pl er)(hk:¬zc7 c.N t.txt.toList=0):
    Calls prog 212 #[.pointer (some ⟨c.rb,0,none⟩)] w fun en w'=>en=.returned (.tuple #[.agg #[.string ⟨#[]⟩,.int .i64 0],.bool false])/\q9 (· = c.rb) w w'/\PR w' c (t::ts) d t.pos (zc7 c.N t.txt.toList):=by
  have F2:=zk9;have hrb:=h.rbs;have hrn:¬w.heap.size=c.rb:=by omega
  have htb:=h.tbs;have hsb:=h.sbs;have HNV:=q8 h.nvs;have HX0:Hid (q9 (fun _=>False) w (w.alloc (.cells #[.string ⟨#[]⟩,.int .i64 0] 142))):=(q9.refl _ w).alloc _;have H0:=q8 (h.new HX0.out);have hsm:t.txt.size<=maxLen:=by have:=h.sm;unfold maxLen;omega
  have hfin:∀ (w2:World) (e:Int),q9 (· = c.rb) (w.alloc (.cells #[.string ⟨#[]⟩,.int .i64 0] 142)) w2->PR w2 c (t::ts) d t.pos e->∀ a b,q9 (· = c.rb) w ((w2.setCell ⟨w.heap.size,0,none⟩ a).setCell ⟨w.heap.size,1,none⟩ b)/\PR ((w2.setCell ⟨w.heap.size,0,none⟩ a).setCell ⟨w.heap.size,1,none⟩ b) c (t::ts) d t.pos e:=by intro w2 e hx hr a b;have h2:=qx1 w2 w.heap.size a b;refine⟨((HX0.out.mono (fun _ _ f=>f.elim)).trans hx).trans' h2 (fun i hi e=>by have h1:i=w.heap.size:=e;omega),?_⟩;exact hr.ext h2 (by show ¬c.rb=w.heap.size;omega) (by show ¬c.tb=w.heap.size;omega) (by show ¬c.sb=w.heap.size;omega) (fun g hg e=>by have h1:g=w.heap.size:=e;have:=HNV.out g hg;omega) (by show ¬0=w.heap.size;have:=hr.hdn;omega)
  have HFIN:=q8 hfin;have HIS:=gIs t.txt;clear h hfin;cases hn:X6 t.txt.toList with
  | false=>
    rw[hn] at HIS;have HIS':=q8 HIS;rw[zc7,if_pos hn];clear hk hn HIS;go_enter func212,ntmps212;go_wp2_with first
      | (go_at_call 107;refine(X5 H0.out).mono ?_;rintro en w1 ⟨rfl,hx1⟩;have HX1:=q8 hx1;clear hx1)
      | (go_at_call 67;refine(HIS'.out _ hsm).mono ?_;rintro en w' ⟨rfl,rfl⟩)
      | (go_at_call 110;refine(za3 _ (H0.out.new HX1.out)).mono ?_;rintro en w2 ⟨rfl,hx2,hr2⟩
         have HX2:Hid (q9 (· = c.rb) (w.alloc (.cells #[.string ⟨#[]⟩,.int .i64 0] 142)) w2):=(HX1.out.mono (fun _ _ f=>f.elim)).trans hx2;have kb:w2.heap[w.heap.size]?=some (.cells #[.string ⟨#[]⟩,.int .i64 0] 142):=(HX2.out.block _ (z8 (heap_alloc_new w _)) hrn).trans (heap_alloc_new w _);have z0:=z6 kb 0;have z1:=z6 kb 1;have y0:=Q8 kb 0;have y1:=Q8 kb 1;have HR2:=q8 hr2;clear hx2 hr2 kb)
    refine bodyPost_ret (v:=.tuple #[.agg #[.string ⟨#[]⟩,.int .i64 0],.bool false]) (by simp[results,results212,go_sem,z0,z1]) rfl ⟨rfl,?_⟩;exact HFIN.out w2 2 HX2.out HR2.out _ _
  | true=>
    rw[hn] at HIS;have HIS':=q8 HIS;have hsome:(za8 c.N t.txt.toList).isSome=false:=by
      cases hq:(za8 c.N t.txt.toList).isSome with
      | false=>rfl
      | true=>exfalso;apply hk;rw[zc7,if_neg (by rw[hn];decide),if_neg (by rw[hq];decide)]
    rw[zc7,if_neg (by rw[hn];decide),if_pos hsome];have hfr:zd0 c.N t.txt=.tuple #[.agg #[.string ⟨#[]⟩,.int .i64 0],.bool false]:=by
      rw[zd0];cases ha:za8 c.N t.txt.toList with
      | none=>rfl
      | some a=>rw[ha] at hsome;exact absurd hsome (by simp)
    have HFR:=q8 hfr;clear hk hn HIS hsome hfr;go_enter func212,ntmps212;go_wp2_with fail;refine(X5 H0.out).mono ?_;rintro en w1 ⟨rfl,hx1⟩;have H1:=q8 (H0.out.new hx1);obtain⟨o,cap,ht,hc,hb⟩:=H1.out.here;have c1:=z6 hb 1;have HX1:=q8 hx1;have HFD:=qo3 t.txt H1.out.tbl H1.out.own H1.out.few H1.out.sbs;rw[HFR.out] at HFD;have HFD':=q8 HFD;clear hx1 ht hc hb HFD;go_wp2_with (go_at_call 67;refine(HIS'.out _ hsm).mono ?_;rintro en w' ⟨rfl,rfl⟩);refine HFD'.out.mono ?_;rintro en w2 ⟨rfl,hx2⟩;have HX2:=q8 hx2;have hx3:q9 (fun _=>False) w2 (w2.alloc (.cells #[.string ⟨#[]⟩,.int .i64 0] 142)):=(q9.refl _ w2).alloc _;have H3:=q8 ((H1.out.new hx2).new hx3);have HX3:Hid (q9 (fun _=>False) (w.alloc (.cells #[.string ⟨#[]⟩,.int .i64 0] 142)) (w2.alloc (.cells #[.string ⟨#[]⟩,.int .i64 0] 142))):=(HX1.out.trans hx2).trans hx3;clear hx2 hx3;go_wp2_with first
      | (go_at_call 110;refine(za3 _ H3.out).mono ?_;rintro en w4 ⟨rfl,hx4,hr4⟩
         have HX4:Hid (q9 (· = c.rb) (w.alloc (.cells #[.string ⟨#[]⟩,.int .i64 0] 142)) w4):=(HX3.out.mono (fun _ _ f=>f.elim)).trans hx4;have kb:w4.heap[w.heap.size]?=some (.cells #[.string ⟨#[]⟩,.int .i64 0] 142):=(HX4.out.block _ (z8 (heap_alloc_new w _)) hrn).trans (heap_alloc_new w _);have z0:=z6 kb 0;have z1:=z6 kb 1;have y0:=Q8 kb 0;have y1:=Q8 kb 1;have HR4:=q8 hr4;clear hx4 hr4 kb)
    refine bodyPost_ret (v:=.tuple #[.agg #[.string ⟨#[]⟩,.int .i64 0],.bool false]) (by simp[results,results212,go_sem,z0,z1]) rfl ⟨rfl,?_⟩;exact HFIN.out w4 3 HX4.out HR4.out _ _
theorem zl9{w:World}{c:V7}{t:Tk}{ts:List Tk}{d pl er a:Int}(h:PR w c (t::ts) d pl er)(hn:X6 t.txt.toList=true)(ha:za8 c.N t.txt.toList=some a):
  Calls prog 212 #[.pointer (some ⟨c.rb,0,none⟩)] w fun en w'=>en=.returned (.tuple #[.agg #[.string t.txt,.int .i64 a],.bool true])/\q9 (fun _=>False) w w':=by
 have F2:=zk9;have hrb:=h.rbs;have HX0:Hid (q9 (fun _=>False) w (w.alloc (.cells #[.string ⟨#[]⟩,.int .i64 0] 142))):=(q9.refl _ w).alloc _;have H0:=q8 (h.new HX0.out);have hsm:t.txt.size<=maxLen:=by have:=h.sm;unfold maxLen;omega
 have HIS:=gIs t.txt;rw[hn] at HIS;have HIS':=q8 HIS;have hfr:zd0 c.N t.txt=.tuple #[.agg #[.string t.txt,.int .i64 a],.bool true]:=by rw[zd0,ha]
 have HFR:=q8 hfr;clear h HIS hn ha hfr;go_enter func212,ntmps212;go_wp2_with fail;refine(X5 H0.out).mono ?_;rintro en w1 ⟨rfl,hx1⟩;have H1:=q8 (H0.out.new hx1);obtain⟨o,cap,ht,hc,hb⟩:=H1.out.here;have c1:=z6 hb 1;have HX1:=q8 hx1;have HFD:=qo3 t.txt H1.out.tbl H1.out.own H1.out.few H1.out.sbs;rw[HFR.out] at HFD;have HFD':=q8 HFD;clear hx1 ht hc hb HFD;go_wp2_with (go_at_call 67;refine(HIS'.out _ hsm).mono ?_;rintro en w' ⟨rfl,rfl⟩);refine HFD'.out.mono ?_;rintro en w2 ⟨rfl,hx2⟩;have HX2:Hid (q9 (fun _=>False) (w.alloc (.cells #[.string ⟨#[]⟩,.int .i64 0] 142)) w2):=HX1.out.trans hx2;have kb:w2.heap[w.heap.size]?=some (.cells #[.string ⟨#[]⟩,.int .i64 0] 142):=(HX2.out.block _ (z8 (heap_alloc_new w _)) (fun f=>f)).trans (heap_alloc_new w _);have z0:=z6 kb 0;have z1:=z6 kb 1;have y0:=Q8 kb 0;have y1:=Q8 kb 1;have hl2:=z8 kb;have hl3:¬w.heap.size=w2.heap.size:=by omega
 clear hx2 kb;go_wp2_with fail;refine bodyPost_ret (v:=.tuple #[.agg #[.string t.txt,.int .i64 a],.bool true]) (by simp[results,results212,go_sem,z0,z1,hl2]) rfl ⟨rfl,?_⟩;refine q9.alloc ?_ _;exact(HX0.out.trans HX2.out).trans' (qx1 w2 w.heap.size _ _) (fun i hi e=>by have h1:i=w.heap.size:=e;omega)
theorem qo4{w:World}{c:V7}{t:Tk}{ts:List Tk}{d pl er:Int}(h:PR w c (t::ts) d pl er):
    Calls prog 191 #[.pointer (some ⟨c.rb,0,none⟩)] w (X7 w c d pl er (zp9 c.N t ts)):=by
  have F0:=zh6;have F2:=zk9;have hrb:=h.rbs;have hrn:¬w.heap.size=c.rb:=by omega
  have htb:=h.tbs;have hsb:=h.sbs;have HNV:=q8 h.nvs;have HX0:Hid (q9 (fun _=>False) w (w.alloc (.cells #[.int .i64 0,.string ⟨#[]⟩,.int .i64 0,.slice none 0 0] 115))):=(q9.refl _ w).alloc _;have H0:=q8 (h.new HX0.out);have HOK:=q8 h.ok;clear F0 F2;by_cases hk:zc7 c.N t.txt.toList=0
  · have hn:X6 t.txt.toList=true:=by
      cases hq:X6 t.txt.toList with
      | true=>rfl
      | false=>rw[zc7,if_pos hq] at hk;exact absurd hk (by decide)
    obtain⟨a,ha⟩:∃ a,za8 c.N t.txt.toList=some a:=by
      cases hq:za8 c.N t.txt.toList with
      | some a=>exact⟨a,rfl⟩
      | none=>rw[zc7,if_neg (by rw[hn];decide),hq,if_pos (by rfl)] at hk;exact absurd hk (by decide)
    have hb:0<=a/\a<=3:=by
      unfold za8 at ha;cases hf:c.N.find? (fun x=>x.name.toList==t.txt.toList) with
      | none=>rw[hf] at ha;exact absurd ha (by simp)
      | some x=>rw[hf] at ha;simp at ha;rw[<- ha];exact HOK.out x (List.mem_of_find?_eq_some hf)
    have HNE:Hid (t.txt.toList≠[]):=by have:=(zW1 hn).2.2;intro e;rw[e] at this;exact absurd this (by decide)
    have HD:=q8 (zl9 H0.out hn ha);have hres:zp9 c.N t ts=if 0<a then .no 4 t.pos else .ok (.mk 3 t.txt 0 []) ts:=by
      unfold zp9 zB8;rw[hn,ha];by_cases h0:0<a
      · have h1:¬a<0:=by omega
        simp[h0,h1]
      · have h1:a=0:=by omega
        subst h1;simp
    have HRES:=q8 hres;clear h hk hn ha hres;by_cases h0:0<a
    · rw[HRES.out,if_pos h0]
      go_enter func191,ntmps191;go_wp2_with fail;refine HD.out.mono ?_;rintro en w1 ⟨rfl,hx1⟩;have hx2:q9 (fun _=>False) (w.alloc (.cells #[.int .i64 0,.string ⟨#[]⟩,.int .i64 0,.slice none 0 0] 115)) (w1.alloc (.cells #[.string t.txt,.int .i64 a] 142)):=hx1.alloc _;have H2:=q8 (H0.out.new hx2);have HXa:=q8 hx2;clear hx1 hx2;go_wp2_with first
        | (go_at_call 110;refine(za3 _ H2.out).mono ?_;rintro en w2 ⟨rfl,hx2,hr2⟩
           have HX2:Hid (q9 (· = c.rb) (w.alloc (.cells #[.int .i64 0,.string ⟨#[]⟩,.int .i64 0,.slice none 0 0] 115)) w2):=(HXa.out.mono (fun _ _ f=>f.elim)).trans hx2;have kb:w2.heap[w.heap.size]?=some (.cells #[.int .i64 0,.string ⟨#[]⟩,.int .i64 0,.slice none 0 0] 115):=(HX2.out.block _ (z8 (heap_alloc_new w _)) hrn).trans (heap_alloc_new w _);have z0:=z6 kb 0;have z1:=z6 kb 1;have z2:=z6 kb 2;have z3:=z6 kb 3;have y0:=Q8 kb 0;have y1:=Q8 kb 1;have y2:=Q8 kb 2;have y3:=Q8 kb 3;clear kb;have HR2:=q8 hr2;clear hx2 hr2)
      refine bodyPost_ret (v:=.tuple #[.agg #[.int .i64 0,.string ⟨#[]⟩,.int .i64 0,.slice none 0 0],.bool false]) (by simp[results,results191,go_sem,z0,z1,z2,z3]) rfl ?_;exact U1 HX0.out HX2.out HR2.out (Z5 _ _ _ _ _ _) hrb htb hsb HNV.out
    · rw[HRES.out,if_neg h0]
      go_enter func191,ntmps191;go_wp2_with fail;refine HD.out.mono ?_;rintro en w1 ⟨rfl,hx1⟩;have hx2:q9 (fun _=>False) (w.alloc (.cells #[.int .i64 0,.string ⟨#[]⟩,.int .i64 0,.slice none 0 0] 115)) (w1.alloc (.cells #[.string t.txt,.int .i64 a] 142)):=hx1.alloc _;have H2:=q8 (H0.out.new hx2);have HXa:=q8 hx2;have hsz1:=hx1.size;have hsz2:w.heap.size<w1.heap.size:=by simp at hsz1;omega
      have hrb1:c.rb<w1.heap.size:=by omega
      clear hx1 hx2 hsz1;go_wp2_with first
        | (go_at_call 109;refine(zr2 H2.out HNE.out).mono ?_;rintro en w2 ⟨rfl,hx2,hr2⟩
           have HX2:Hid (q9 (· = c.rb) (w.alloc (.cells #[.int .i64 0,.string ⟨#[]⟩,.int .i64 0,.slice none 0 0] 115)) w2):=(HXa.out.mono (fun _ _ f=>f.elim)).trans hx2;have kb:w2.heap[w.heap.size]?=some (.cells #[.int .i64 0,.string ⟨#[]⟩,.int .i64 0,.slice none 0 0] 115):=(HX2.out.block _ (z8 (heap_alloc_new w _)) hrn).trans (heap_alloc_new w _);have z0:=z6 kb 0;have z1:=z6 kb 1;have z2:=z6 kb 2;have z3:=z6 kb 3;have y0:=Q8 kb 0;have y1:=Q8 kb 1;have y2:=Q8 kb 2;have y3:=Q8 kb 3;clear kb;have kf:w2.heap[w1.heap.size]?=some (.cells #[.string t.txt,.int .i64 a] 142):=(hx2.block _ (z8 (heap_alloc_new w1 _)) (by show ¬w1.heap.size=c.rb;omega)).trans (heap_alloc_new w1 _);have q0:=z6 kf 0;have HR2:=q8 hr2;clear hx2 hr2 kf)
      refine bodyPost_ret (v:=.tuple #[.agg #[.int .i64 3,.string t.txt,.int .i64 0,.slice none 0 0],.bool true]) (by simp[results,results191,go_sem,z0,z1,z2,z3]) rfl ?_;exact zd9 HX0.out HX2.out HR2.out (PN.leaf 3 0 t.txt) (Z5 _ _ _ _ _ _) hrb htb hsb HNV.out
  · have hres:zp9 c.N t ts=.no (zc7 c.N t.txt.toList) t.pos:=by
      unfold zp9 zB8 zc7 at *;cases hn:X6 t.txt.toList with
      | false=>rw[if_pos rfl,if_neg (by decide),if_pos rfl]
      | true=>
        rw[hn] at hk;cases ha:za8 c.N t.txt.toList with
        | none=>simp
        | some a=>exfalso;apply hk;rw[ha];simp
    rw[hres];have HD:=q8 (zv7 H0.out hk);clear h hk hres;go_enter func191,ntmps191;go_wp2_with fail;refine HD.out.mono ?_;rintro en w1 ⟨rfl,hx1,hr1⟩;have hsz:=hx1.size;have hsz1:w.heap.size<w1.heap.size:=by simp at hsz;omega
    have HX2:Hid (q9 (· = c.rb) (w.alloc (.cells #[.int .i64 0,.string ⟨#[]⟩,.int .i64 0,.slice none 0 0] 115)) w1):=hx1;have kb:w1.heap[w.heap.size]?=some (.cells #[.int .i64 0,.string ⟨#[]⟩,.int .i64 0,.slice none 0 0] 115):=(HX2.out.block _ (z8 (heap_alloc_new w _)) hrn).trans (heap_alloc_new w _);have z0:=z6 kb 0;have z1:=z6 kb 1;have z2:=z6 kb 2;have z3:=z6 kb 3;have y0:=Q8 kb 0;have y1:=Q8 kb 1;have y2:=Q8 kb 2;have y3:=Q8 kb 3;clear kb;have HR2:=q8 hr1;clear hx1 hr1 hsz;go_wp2_with fail;refine bodyPost_ret (v:=.tuple #[.agg #[.int .i64 0,.string ⟨#[]⟩,.int .i64 0,.slice none 0 0],.bool false]) (by simp[results,results191,go_sem,z0,z1,z2,z3,hsz1]) rfl ?_;exact U1 HX0.out HX2.out HR2.out ((Z5 _ _ _ _ _ _).alloc _) hrb htb hsb HNV.out
structure zw7(w:World)(D:Nat->Prop)(pv:Value)(ps:List Nd)(kids:List (List Value)):Prop where
 how:w.ownsRow 0 115 4 pv ps.length kids.flatten
 hl:∀ cs∈kids,cs.length=4
 hn:kids.length=ps.length
 hD:∀ g,pv.ownBlock=some g->D g
 hk:∀ (i:Nat) (cs:List Value) (p:Nd),kids[i]?=some cs->ps[i]?=some p->PN w (fun q=>D q/\pv.ownBlock≠some q) cs p
def H7(w:World)(c:V7)(d pl er:Int)(r:Rs (List Nd))(en:Ending)(w':World):Prop :=
 q9 (· = c.rb) w w'/\(match r with
  | .ok ps ts'=>∃ (sa:Option Addr) (sn sc:Nat) (kids:List (List Value)),en=.returned (.tuple #[.slice sa sn sc,.bool true])/\zw7 w' (w.heap.size <= ·) (.slice sa sn sc) ps kids/\PR w' c ts' d pl er
  | .no e p=>en=.returned (.tuple #[.slice none 0 0,.bool false])/\∃ ts' d',PR w' c ts' d' p e)
theorem qO2:(prog.info? 115).map (fun i=>(i.zero,i.size,i.bytes))=some (some (.agg #[.int .i64 0,.string ByteArray.empty,.int .i64 0,.slice none 0 0]),4,56):=by kernel_rfl
theorem zS7{w wr w1 wa:World}{c:V7}{pv v':Value}{ps:List Nd}{kids:List (List Value)}{cs:List Value}{nd:Nd}(hE:q9 (· = c.rb) w wr)(hrow:zw7 wr (w.heap.size <= ·) pv ps kids)(hx:q9 (· = c.rb) wr w1)(hn:PN w1 (wr.heap.size <= ·) cs nd)(hcs:cs.length=4)(O1 O2:Obj)
  (hown':wa.ownsRow 0 115 4 v' (ps.length+1) (kids.flatten++cs)) (hg:((w1.alloc O1).alloc O2).grownBy wa pv.ownBlock) (hat:v'.ownBlock=pv.ownBlock\/v'.ownBlock=some (w1.heap.size+1+1)) (hrb:c.rb<w.heap.size):
  zw7 wa (w.heap.size <= ·) v' (ps++[nd]) (kids++[cs])/\q9 (fun k=>pv.ownBlock=some k) w1 wa/\(∃ g cap,v' = .slice (some ⟨g,0,none⟩) (ps.length+1) cap)/\(∀ k,pv.ownBlock=some k->w.heap.size<=k):=by
 have sz1:=hE.size;have sz2:=hx.size;have hpl:∀ g,pv.ownBlock=some g->g<wr.heap.size:=fun g hg=>(hrow.how.lt g hg).2
 have hlo:∀ k,pv.ownBlock=some k->w.heap.size<=k:=fun k hk=>hrow.hD k hk
 have hxa:q9 (fun k=>pv.ownBlock=some k) w1 wa:=(((q9.refl (fun k=>pv.ownBlock=some k) w1).alloc O1).alloc O2).grown hg (fun k hk _=>hk);have up:∀ (q:List Value) (p:Nd),PN w1 (fun q=>w.heap.size<=q/\pv.ownBlock≠some q/\v'.ownBlock≠some q) q p->PN wa (fun q=>w.heap.size<=q/\v'.ownBlock≠some q) q p:=by intro q p h4;exact(h4.ext hxa (fun k _ hk e=>hk.2.1 e)).mono (fun k _ hk=>⟨hk.1,hk.2.2⟩)
 refine⟨⟨?_,?_,?_,?_,?_⟩,hxa,?_,hlo⟩
 ·rw[List.flatten_append,List.length_append];simpa using hown'
 ·intro x hx2;rcases List.mem_append.1 hx2 with h|h
  ·exact hrow.hl x h
  ·simp at h;rw[h];exact hcs
 ·simp[hrow.hn]
 ·intro g hg';rcases hat with e|e
  ·rw[e] at hg';exact hlo g hg'
  ·rw[e] at hg';injection hg' with e2;show w.heap.size<=g;omega
 ·intro i q p hq hp;by_cases hi:i<ps.length
  ·rw[List.getElem?_append_left (by rw[hrow.hn];exact hi)] at hq;rw[List.getElem?_append_left hi] at hp;have h3:=hrow.hk i q p hq hp;have h4:=h3.ext hx (fun k _ hk e=>by have h5:k=c.rb:=e;have h6:w.heap.size<=k:=hk.1;omega);refine up q p (h4.mono (fun k hk hD=>⟨hD.1,hD.2,?_⟩));intro e;rcases hat with e2|e2
   ·exact hD.2 (e2.symm.trans e)
   ·rw[e2] at e;injection e with e3;omega
  ·have hij:i=ps.length:=by
    have h1:=(List.getElem?_eq_some_iff.1 hp).1;simp at h1;omega
   subst hij;rw[List.getElem?_append_right (by rw[hrow.hn];omega)] at hq;rw[List.getElem?_append_right (by omega)] at hp;simp[hrow.hn] at hq;simp at hp;subst hq;subst hp;refine up _ _ (hn.mono (fun k hk hD=>⟨?_,?_,?_⟩))
   ·have h6:wr.heap.size<=k:=hD;show w.heap.size<=k;omega
   ·intro e;have:=hpl k e;have h6:wr.heap.size<=k:=hD;omega
   ·intro e;rcases hat with e2|e2
    ·have:=hpl k (e2.symm.trans e);have h6:wr.heap.size<=k:=hD;omega
    ·rw[e2] at e;injection e with e3;omega
 ·rcases hown'.2 with⟨_,e⟩|⟨g,cap,cur,hv,_⟩
  ·exact absurd e (by omega)
  ·exact⟨g,cap,hv⟩
theorem zm4.mem{w:World}{tb:Nat}:∀ {ts:List Tk} {i:Nat},zm4 w tb i ts->TS ts
 | [],_,_=>fun _ h=>absurd h (by simp)
 | t::ts,i,h=>fun u hu=>by
  rcases List.mem_cons.1 hu with rfl|hu
  ·exact h.2.2.2.1
  ·exact zm4.mem h.2.2.2.2 u hu
theorem PR.ts{w:World}{c:V7}{ts:List Tk}{d pl er:Int}(h:PR w c ts d pl er):TS ts:=by obtain⟨o,cap,ht,hc,hb⟩:=h.here;exact ht.mem
theorem qe6{w:World}{c:V7}{ts:List Tk}{d pl er:Int}(g cap:Nat)(fs:List (Nat × (List Tk->Rs Nd)))(h:PR w c ts d pl er)(hfs:fs.length<=600)(L:Nat)(hL:ts.length<=L)(hfit:∀ f∈fs,Fits f.2)
  (hg:g<w.heap.size) (hgr:¬g=c.rb) (hc:∀ i f,fs[i]?=some f->w.cell? ⟨g,i,none⟩=some (.func (.func f.1) #[.pointer (some ⟨c.rb,0,none⟩)] #[]))
  (hff:∀ f∈fs,f.1=72\/f.1=153\/f.1=186\/f.1=214)
  (hf:∀ f∈fs,∀ (w:World) (ts:List Tk),ts.length<=L->PR w c ts d pl er->Calls prog f.1 #[.pointer (some ⟨c.rb,0,none⟩)] w (X7 w c d pl er (f.2 ts))):
  Calls prog 185 #[.pointer (some ⟨c.rb,0,none⟩),.slice (some ⟨g,0,none⟩) fs.length cap] w (H7 w c d pl er (J5 (fs.map (·.2)) ts)):=by
 obtain⟨i0,hi,hz0,hz1,hz2⟩:=info_parts qO2;have HI:Hid (prog.info? 115=some i0/\i0.zero=some (.agg #[.int .i64 0,.string ByteArray.empty,.int .i64 0,.slice none 0 0])/\i0.size=4/\i0.bytes=56):=⟨hi,hz0,hz1,hz2⟩;clear hi hz0 hz1 hz2;have H:=q8 h;have HC:=q8 hc;have HF:=q8 hf;have HFF:=q8 hff;have HFIT:=q8 hfit;have HTS:=q8 h.ts;have hrb:=h.rbs;have htb:=h.tbs;have hsb:=h.sbs;have HNV:=q8 h.nvs;clear h hc hf hff hfit;go_enter func185,ntmps185;go_wp2_with fail
 go_loopw [6,13] (fun out i wr=>∃ (j:Nat) (sa:Option Addr) (sc:Nat) (ps:List Nd) (us:List Tk) (kids:List (List Value)),i=.int .i64 j/\j<=fs.length/\out=.slice sa j sc/\q9 (· = c.rb) w wr/\zw7 wr (w.heap.size <= ·) (.slice sa j sc) ps kids/\PR wr c us d pl er/\J5 ((fs.take j).map (·.2)) ts=.ok ps us)
  (fun _ i _=>fs.length-(intOf i).toNat)
 case atStart=>exact⟨0,none,0,[],ts,[],rfl,Nat.zero_le _,rfl,q9.refl _ _,⟨World.ownsRow_nil _ _ _ _,fun _ h=>absurd h (by simp),rfl,fun g hg=>absurd hg (by simp[Value.ownBlock]),fun _ _ _ h=>absurd h (by simp)⟩,H.out,rfl⟩
 case round=>
  obtain⟨j,sa,sc,ps,us,kids,rfl,hj,rfl,hE,hrow,hpr,hrd⟩:=hrel;have HE:=q8 hE;have HROW:=q8 hrow;have HPR:=q8 hpr;have HRD:=q8 hrd;clear hE hrow hpr hrd;by_cases hlt:j<fs.length
  ·obtain⟨f,hfj⟩:∃ f,fs[j]?=some f:=⟨_,List.getElem?_eq_getElem hlt⟩;have e1:wr.cell? ⟨g,j,none⟩=some (.func (.func f.1) #[.pointer (some ⟨c.rb,0,none⟩)] #[]):=(HE.out.cell (p:=⟨g,j,none⟩) hg hgr).trans (HC.out j f hfj);have hus:us.length<=L:=by
    have h1:=qK1 _ (fun F hF=>by obtain⟨x,hx,rfl⟩:=List.mem_map.1 hF;exact HFIT.out x (List.mem_of_mem_take hx)) ts ps us HTS.out HRD.out
    omega
   have HCALL:=q8 (HF.out f (List.mem_of_getElem? hfj) wr us hus HPR.out);clear hus;have HFJ:=q8 hfj;clear hfj;have hwhich:=HFF.out f (List.mem_of_getElem? HFJ.out);obtain⟨fn,F⟩:=f;have hsnoc:J5 ((fs.take (j+1)).map (·.2)) ts=match F us with|.no e p=>.no e p|.ok nd us'=>.ok (ps++[nd]) us':=by
    have e2:fs.take (j+1)=fs.take j++[(fn,F)]:=by obtain⟨h1,h2⟩:=List.getElem?_eq_some_iff.1 HFJ.out;rw[List.take_succ_eq_append_getElem h1,h2]
    rw[e2,List.map_append,qA2,HRD.out];simp only[List.map_cons,List.map_nil,J5];cases F us<;>simp
   have HSN:=q8 hsnoc;clear hsnoc;have HPL:Hid (ps.length=j):=by show _=_;rw[row_len _ _ _ _ HRD.out,List.length_map,List.length_take];omega
   obtain⟨hi,hz0,hz1,hz2⟩:=HI.out;simp only at hwhich e1;cases hFu:F us with
   | no e p=>
    have hres:J5 (fs.map (·.2)) ts=.no e p:=by have e3:fs=fs.take (j+1)++fs.drop (j+1):=(List.take_append_drop _ _).symm;rw[e3,List.map_append,qA2,HSN.out,hFu]
    have HRES:=q8 hres;have HCALL':Hid (Calls prog fn #[.pointer (some ⟨c.rb,0,none⟩)] wr (X7 wr c d pl er (.no e p))):=by have:=HCALL.out;simp only[hFu] at this;exact this
    clear HCALL hFu HSN hres;rcases hwhich with rfl|rfl|rfl|rfl
    all_goals
     go_wp2_with fail;refine HCALL'.out.mono ?_;rintro en w1 ⟨hx1,rfl,ts',d',hr1⟩;have HX1:=q8 hx1;have HR1:=q8 hr1;clear hx1 hr1;go_wp2_with fail
     go_ret2
     rw[HRES.out];exact⟨(HE.out.trans HX1.out).alloc _,rfl,ts',d',HR1.out.new ((q9.refl _ w1).alloc _)⟩
   | ok nd us'=>
    have hsn2:J5 ((fs.take (j+1)).map (·.2)) ts=.ok (ps++[nd]) us':=by rw[HSN.out,hFu]
    have HSN2:=q8 hsn2;have HCALL':Hid (Calls prog fn #[.pointer (some ⟨c.rb,0,none⟩)] wr (X7 wr c d pl er (.ok nd us'))):=by have:=HCALL.out;simp only[hFu] at this;exact this
    clear HCALL hFu HSN hsn2;rcases hwhich with rfl|rfl|rfl|rfl
    all_goals
     go_wp2_with fail;refine HCALL'.out.mono ?_;rintro en w1 ⟨hx1,k,wd,v,na,nn,nc,rfl,hn1,hr1⟩;have HX1:=q8 hx1;have HR1:=q8 hr1;have HN1:=q8 hn1;have HO1:=q8 (z7 HROW.out.how hx1 (fun q hq e=>by have h1:w.heap.size<=q:=HROW.out.hD q hq;have h2:q=c.rb:=e;omega));clear hx1 hr1 hn1;go_wp2_with (at_builtin;refine wpList_append_own_at _ rfl _ _ 113 rfl 0 115 i0 (.agg #[.int .i64 0,.string ByteArray.empty,.int .i64 0,.slice none 0 0]) 4 56 underlying113 hi hz0 hz1 hz2 rfl (by decide) _ _ _ rfl ((HO1.out.alloc _).alloc _) ⟨w1.heap.size+1,0,none⟩ 1 1 [.int .i64 k,.string wd,.int .i64 v,.slice na nn nc] rfl rfl ?c1 ?c2 ?c3 ?c4 ?c5 ?_)
     case c1=>
      intro q u hq2
      match q,hq2 with
      | 0,hq2=>simp at hq2;subst hq2;simp[Addr.add]
      | 1,hq2=>simp at hq2;subst hq2;simp[Addr.add]
      | 2,hq2=>simp at hq2;subst hq2;simp[Addr.add]
      | 3,hq2=>simp at hq2;subst hq2;simp[Addr.add]
     case c2=>intro u hu;simp at hu;rcases hu with rfl|rfl|rfl|rfl<;>rfl
     case c3=>have:=HPL.out;unfold maxLen;omega
     case c4=>have:=HPL.out;omega
     case c5=>omega
     intro v' wa hown' hgrow _ hat;obtain⟨hrow',hxa,⟨g2,cap2,hv'⟩,hlo⟩:=zS7 HE.out HROW.out HX1.out HN1.out rfl _ _ hown' hgrow hat hrb;have HROW2:=q8 hrow';have HE2:Hid (q9 (· = c.rb) w wa):=(HE.out.trans HX1.out).trans' hxa (fun i hi e=>by have:=hlo i e;omega);have HR2:=q8 (HR1.out.ext hxa (fun e=>by have:=hlo _ e;omega) (fun e=>by have:=hlo _ e;omega) (fun e=>by have:=hlo _ e;omega) (fun g hg e=>by have h1:=hlo _ e;have:=HNV.out g hg;omega) (fun e=>by have:=hlo _ e;omega));clear hown' hgrow hat hrow' hxa hlo;subst hv';go_wp2_with fail
     go_roundw
     case measure=>simp[intOf];omega
     case rel=>exact⟨j+1,some ⟨g2,0,none⟩,cap2,ps++[nd],us',kids++[[.int .i64 k,.string wd,.int .i64 v,.slice na nn nc]],by go_num,by omega,by rw[HPL.out],HE2.out,by have h1:=HROW2.out;rw[HPL.out] at h1;exact h1,HR2.out,HSN2.out⟩
  ·have hjn:fs.take j=fs:=List.take_of_length_le (by omega);have HRES:Hid (J5 (fs.map (·.2)) ts=.ok ps us):=by
    have:=HRD.out;rw[hjn] at this;exact this
   clear hjn;go_wp2_with fail
   go_ret2
   rw[HRES.out];exact⟨HE.out,sa,j,sc,kids,rfl,HROW.out,HPR.out⟩
def u64(x:BitVec 64):Value:=.int .u64 x.toNat
def Ar.M3.val(s:M3):Value:=.agg #[u64 s.a,u64 s.b,u64 s.c]
def Ar.M3.cells(s:M3):Array Value:=#[u64 s.a,u64 s.b,u64 s.c]
theorem za9(x:BitVec 64):BitVec.ofInt 64 (x.toNat:Int)=x:=by simp
theorem zm8(x:BitVec 64):IntKind.wrap .u64 (x.toNat:Int)=(x.toNat:Int):=by have:=x.isLt;simp only[IntKind.wrap,IntKind.signed,IntKind.bits];simp;omega
theorem zH7(x y:BitVec 64):bits .or .u64 (x.toNat:Int) (y.toNat:Int)=((x ||| y).toNat:Int):=by show IntKind.wrap .u64 ((BitVec.ofInt 64 (x.toNat:Int) ||| BitVec.ofInt 64 (y.toNat:Int)).toNat:Int)=_;rw[za9,za9,zm8]
theorem zL1(x y:BitVec 64):bits .and .u64 (x.toNat:Int) (y.toNat:Int)=((x &&& y).toNat:Int):=by show IntKind.wrap .u64 ((BitVec.ofInt 64 (x.toNat:Int) &&& BitVec.ofInt 64 (y.toNat:Int)).toNat:Int)=_;rw[za9,za9,zm8]
theorem zy7(x y:BitVec 64):bits .andNot .u64 (x.toNat:Int) (y.toNat:Int)=((x &&& ~~~y).toNat:Int):=by show IntKind.wrap .u64 ((BitVec.ofInt 64 (x.toNat:Int) &&& ~~~BitVec.ofInt 64 (y.toNat:Int)).toNat:Int)=_;rw[za9,za9,zm8]
def mix(j:Nat)(s t:M3):M3:=⟨if 0<j then s.a else t.a,if 1<j then s.b else t.b,if 2<j then s.c else t.c⟩
theorem ze3(w:World)(b:Nat)(u v x:Value):q9 (fun k=>k=b) w (((w.setCell ⟨b,0,none⟩ u).setCell ⟨b,1,none⟩ v).setCell ⟨b,2,none⟩ x) :=
 (((q9.refl (fun k=>k=b) w).setCell (p:=⟨b,0,none⟩) (fun _=>rfl) _).setCell (p:=⟨b,1,none⟩) (fun _=>rfl) _).setCell (p:=⟨b,2,none⟩) (fun _=>rfl) _
theorem j8{w:World}{k:Nat}(p:Addr)(v:Value)(h:¬k=p.block):(w.setCell p v).heap[k]?=w.heap[k]?:=by
 by_cases hk:k<w.heap.size
 ·exact((q9.refl (fun j=>j=p.block) w).setCell (p:=p) (fun _=>rfl) v).block k hk h
 ·have hs:(w.setCell p v).heap.size=w.heap.size:=by simp
  rw[Array.getElem?_eq_none (by omega),Array.getElem?_eq_none (by omega)]
theorem zg9(s t:M3)(w:World):Calls prog 139 #[s.val,t.val] w fun e w'=>e=.returned (s.or t).val/\q9 (fun _=>False) w w':=by
 simp only[M3.val];go_enter func139,ntmps139;go_wp2_with fail
 go_loopw [6] (fun i wr=>∃ j:Nat,j<=3/\i=.int .i64 j/\q9 (fun _=>False) w wr/\wr.heap[w.heap.size]?=some (.cells (mix j (s.or t) s).cells 197)/\wr.heap[w.heap.size+1]?=some (.cells t.cells 197)/\wr.heap[w.heap.size+2]?=some (.cells M3.none.cells 197)) (fun i _=>3-(intOf i).toNat)
 case atStart=>
  refine⟨0,by omega,rfl,(((q9.refl _ w).alloc _).alloc _).alloc _,?_,?_,?_⟩
  ·rw[heap_alloc_old _ _ (by simp;omega),heap_alloc_old _ _ (by simp)];exact heap_alloc_new w _
  ·rw[heap_alloc_old _ _ (by simp)];exact heap_alloc2_new w _ _
  ·rw[show w.heap.size+2=(w.alloc (.cells #[u64 s.a,u64 s.b,u64 s.c] 197)).heap.size+1 by simp];exact heap_alloc2_new (w.alloc _) _ _
 case round=>
  obtain⟨j,hj,rfl,hx,k0,k1,k2⟩:=hrel;have HX:=q8 hx;have K0:=q8 k0;have K1:=q8 k1;have K2:=q8 k2;by_cases hlt:j<3
  ·have hc:j=0\/j=1\/j=2:=by omega
   clear hx hlt hj;rcases hc with rfl|rfl|rfl
   ·have c0:=z6 k0 0;have f0:=Q8 k0 0;have d0:=z6 k1 0;simp only[M3.cells,mix,u64] at c0 d0;clear k0 k1 k2;go_wp2_with fail
    go_region
    all_goals
     go_wp2_with fail
     go_roundw
     case measure=>simp[intOf]
     case rel=>
      rw[zH7];refine⟨1,by omega,by go_num,(HX.out.trans' ((q9.refl (fun k=>k=w.heap.size) wr).setCell (p:=⟨w.heap.size,0,none⟩) (fun _=>rfl) _) (fun i hi e=>by have h1:i=w.heap.size:=e;omega)).drew,?_,?_,?_⟩
      ·exact Y4 K0.out 0 _
      ·exact(j8 _ _ (by show ¬w.heap.size+1=w.heap.size;omega)).trans K1.out
      ·exact(j8 _ _ (by show ¬w.heap.size+2=w.heap.size;omega)).trans K2.out
   ·have c0:=z6 k0 1;have f0:=Q8 k0 1;have d0:=z6 k1 1;simp only[M3.cells,mix,u64] at c0 d0;clear k0 k1 k2;go_wp2_with fail
    go_region
    all_goals
     go_wp2_with fail
     go_roundw
     case measure=>simp[intOf]
     case rel=>
      rw[zH7];refine⟨2,by omega,by go_num,(HX.out.trans' ((q9.refl (fun k=>k=w.heap.size) wr).setCell (p:=⟨w.heap.size,1,none⟩) (fun _=>rfl) _) (fun i hi e=>by have h1:i=w.heap.size:=e;omega)).drew,?_,?_,?_⟩
      ·exact Y4 K0.out 1 _
      ·exact(j8 _ _ (by show ¬w.heap.size+1=w.heap.size;omega)).trans K1.out
      ·exact(j8 _ _ (by show ¬w.heap.size+2=w.heap.size;omega)).trans K2.out
   ·have c0:=z6 k0 2;have f0:=Q8 k0 2;have d0:=z6 k1 2;simp only[M3.cells,mix,u64] at c0 d0;clear k0 k1 k2;go_wp2_with fail
    go_region
    all_goals
     go_wp2_with fail
     go_roundw
     case measure=>simp[intOf]
     case rel=>
      rw[zH7];refine⟨3,by omega,by go_num,(HX.out.trans' ((q9.refl (fun k=>k=w.heap.size) wr).setCell (p:=⟨w.heap.size,2,none⟩) (fun _=>rfl) _) (fun i hi e=>by have h1:i=w.heap.size:=e;omega)).drew,?_,?_,?_⟩
      ·exact Y4 K0.out 2 _
      ·exact(j8 _ _ (by show ¬w.heap.size+1=w.heap.size;omega)).trans K1.out
      ·exact(j8 _ _ (by show ¬w.heap.size+2=w.heap.size;omega)).trans K2.out
  ·have hj3:j=3:=by omega
   subst hj3;clear hx hlt hj;have c0:wr.cell? ⟨w.heap.size,0,none⟩=some (.int .u64 (s.or t).a.toNat):=z6 k0 0;have c1:wr.cell? ⟨w.heap.size,1,none⟩=some (.int .u64 (s.or t).b.toNat):=z6 k0 1;have c2:wr.cell? ⟨w.heap.size,2,none⟩=some (.int .u64 (s.or t).c.toNat):=z6 k0 2;have z0:wr.cell? ⟨w.heap.size+2,0,none⟩=some (.int .u64 0):=z6 k2 0;have z1:wr.cell? ⟨w.heap.size+2,1,none⟩=some (.int .u64 0):=z6 k2 1;have z2:wr.cell? ⟨w.heap.size+2,2,none⟩=some (.int .u64 0):=z6 k2 2;have y0:=Q8 k2 0;have y1:=Q8 k2 1;have y2:=Q8 k2 2;clear k0 k1 k2;go_wp2_with fail;refine bodyPost_ret (v:=.agg #[.int .u64 (s.or t).a.toNat,.int .u64 (s.or t).b.toNat,.int .u64 (s.or t).c.toNat]) (by simp[results,results139,go_sem,z0,z1,z2]) rfl ⟨rfl,?_⟩;exact HX.out.trans' (ze3 _ _ _ _ _) (fun i hi e=>by have h1:i=w.heap.size+2:=e;omega)
theorem qg6(s t:M3)(w:World):Calls prog 183 #[s.val,t.val] w fun e w'=>e=.returned (s.sub t).val/\q9 (fun _=>False) w w':=by
 simp only[M3.val];go_enter func183,ntmps183;go_wp2_with fail
 go_loopw [6] (fun i wr=>∃ j:Nat,j<=3/\i=.int .i64 j/\q9 (fun _=>False) w wr/\wr.heap[w.heap.size]?=some (.cells (mix j (s.sub t) s).cells 197)/\wr.heap[w.heap.size+1]?=some (.cells t.cells 197)/\wr.heap[w.heap.size+2]?=some (.cells M3.none.cells 197)) (fun i _=>3-(intOf i).toNat)
 case atStart=>
  refine⟨0,by omega,rfl,(((q9.refl _ w).alloc _).alloc _).alloc _,?_,?_,?_⟩
  ·rw[heap_alloc_old _ _ (by simp;omega),heap_alloc_old _ _ (by simp)];exact heap_alloc_new w _
  ·rw[heap_alloc_old _ _ (by simp)];exact heap_alloc2_new w _ _
  ·rw[show w.heap.size+2=(w.alloc (.cells #[u64 s.a,u64 s.b,u64 s.c] 197)).heap.size+1 by simp];exact heap_alloc2_new (w.alloc _) _ _
 case round=>
  obtain⟨j,hj,rfl,hx,k0,k1,k2⟩:=hrel;have HX:=q8 hx;have K0:=q8 k0;have K1:=q8 k1;have K2:=q8 k2;by_cases hlt:j<3
  ·have hc:j=0\/j=1\/j=2:=by omega
   clear hx hlt hj;rcases hc with rfl|rfl|rfl
   ·have c0:=z6 k0 0;have f0:=Q8 k0 0;have d0:=z6 k1 0;simp only[M3.cells,mix,u64] at c0 d0;clear k0 k1 k2;go_wp2_with fail
    go_region
    all_goals
     go_wp2_with fail
     go_roundw
     case measure=>simp[intOf]
     case rel=>
      rw[zy7];refine⟨1,by omega,by go_num,(HX.out.trans' ((q9.refl (fun k=>k=w.heap.size) wr).setCell (p:=⟨w.heap.size,0,none⟩) (fun _=>rfl) _) (fun i hi e=>by have h1:i=w.heap.size:=e;omega)).drew,?_,?_,?_⟩
      ·exact Y4 K0.out 0 _
      ·exact(j8 _ _ (by show ¬w.heap.size+1=w.heap.size;omega)).trans K1.out
      ·exact(j8 _ _ (by show ¬w.heap.size+2=w.heap.size;omega)).trans K2.out
   ·have c0:=z6 k0 1;have f0:=Q8 k0 1;have d0:=z6 k1 1;simp only[M3.cells,mix,u64] at c0 d0;clear k0 k1 k2;go_wp2_with fail
    go_region
    all_goals
     go_wp2_with fail
     go_roundw
     case measure=>simp[intOf]
     case rel=>
      rw[zy7];refine⟨2,by omega,by go_num,(HX.out.trans' ((q9.refl (fun k=>k=w.heap.size) wr).setCell (p:=⟨w.heap.size,1,none⟩) (fun _=>rfl) _) (fun i hi e=>by have h1:i=w.heap.size:=e;omega)).drew,?_,?_,?_⟩
      ·exact Y4 K0.out 1 _
      ·exact(j8 _ _ (by show ¬w.heap.size+1=w.heap.size;omega)).trans K1.out
      ·exact(j8 _ _ (by show ¬w.heap.size+2=w.heap.size;omega)).trans K2.out
   ·have c0:=z6 k0 2;have f0:=Q8 k0 2;have d0:=z6 k1 2;simp only[M3.cells,mix,u64] at c0 d0;clear k0 k1 k2;go_wp2_with fail
    go_region
    all_goals
     go_wp2_with fail
     go_roundw
     case measure=>simp[intOf]
     case rel=>
      rw[zy7];refine⟨3,by omega,by go_num,(HX.out.trans' ((q9.refl (fun k=>k=w.heap.size) wr).setCell (p:=⟨w.heap.size,2,none⟩) (fun _=>rfl) _) (fun i hi e=>by have h1:i=w.heap.size:=e;omega)).drew,?_,?_,?_⟩
      ·exact Y4 K0.out 2 _
      ·exact(j8 _ _ (by show ¬w.heap.size+1=w.heap.size;omega)).trans K1.out
      ·exact(j8 _ _ (by show ¬w.heap.size+2=w.heap.size;omega)).trans K2.out
  ·have hj3:j=3:=by omega
   subst hj3;clear hx hlt hj;have c0:wr.cell? ⟨w.heap.size,0,none⟩=some (.int .u64 (s.sub t).a.toNat):=z6 k0 0;have c1:wr.cell? ⟨w.heap.size,1,none⟩=some (.int .u64 (s.sub t).b.toNat):=z6 k0 1;have c2:wr.cell? ⟨w.heap.size,2,none⟩=some (.int .u64 (s.sub t).c.toNat):=z6 k0 2;have z0:wr.cell? ⟨w.heap.size+2,0,none⟩=some (.int .u64 0):=z6 k2 0;have z1:wr.cell? ⟨w.heap.size+2,1,none⟩=some (.int .u64 0):=z6 k2 1;have z2:wr.cell? ⟨w.heap.size+2,2,none⟩=some (.int .u64 0):=z6 k2 2;have y0:=Q8 k2 0;have y1:=Q8 k2 1;have y2:=Q8 k2 2;clear k0 k1 k2;go_wp2_with fail;refine bodyPost_ret (v:=.agg #[.int .u64 (s.sub t).a.toNat,.int .u64 (s.sub t).b.toNat,.int .u64 (s.sub t).c.toNat]) (by simp[results,results183,go_sem,z0,z1,z2]) rfl ⟨rfl,?_⟩;exact HX.out.trans' (ze3 _ _ _ _ _) (fun i hi e=>by have h1:i=w.heap.size+2:=e;omega)
end Go.Proofs.YtegbdaffhpiacaaGreatDoor
