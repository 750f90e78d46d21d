/- Trees of the document's own answer in memory; The reader of the document's own answer: a term that is a number; The document's own answer: the tokens of a text; The program: the token at a place of a text; The program: the tokens of a text; The program's reader in memory, and its small methods; The program's reader: pass, refuse, end, open, close; The program's reader: numbers; The program: looking a name up. -/
import Derived.Test.YtegbdaffhpiacaaGreatDoorBck04
import Derived.Test.YtegbdaffhpiacaaGreatDoorBck03
import Derived.Maps.AppendAt
namespace Go.Proofs.YtegbdaffhpiacaaGreatDoor
open Go.RowKit Ar
theorem z7 {S:Nat->Prop} {w w':World} {base:Nat} {e:TypeId} {size:Nat} {v:Value} {n:Nat} {xs:List Value} (h:w.ownsRow base e size v n xs) (hx:q9 S w w') (hS:∀ k,v.ownBlock=some k->¬S k):w'.ownsRow base e size v n xs:=by
 obtain ⟨h1,h2⟩:=h
 refine ⟨h1,?_⟩
 rcases h2 with h2 | ⟨g,cap,cur,hv,hg,hh,r⟩
 ·exact Or.inl h2
 ·have hlt:g < w.heap.size:=by
   by_cases hlt:g < w.heap.size
   ·exact hlt
   ·rw [Array.getElem?_eq_none (by omega)] at hh;exact absurd hh (by simp)
  exact Or.inr ⟨g,cap,cur,hv,hg,(hx.block g hlt (hS g (by rw [hv];rfl))).trans hh,r⟩
theorem Y6 {w:World} {e size n k:Nat} {v:Value} {xs:List Value} (h:w.ownsRow 0 e size v n xs) (hk:v.ownBlock=some k):∃ cur,w.heap[k]?=some (.cells cur e (0,0)):=by
 rcases h.2 with ⟨e,_⟩ | ⟨g,cap,cur,hv,_,hh,_⟩
 ·rw [e] at hk;simp [Value.ownBlock] at hk
 ·rw [hv] at hk
  simp [Value.ownBlock] at hk
  subst hk
  exact ⟨cur,hh⟩
theorem Z6 {w:World} {e e' size n k:Nat} {v:Value} {xs:List Value} {C:Array Value} (h:w.ownsRow 0 e size v n xs) (hg:w.heap[k]?=some (.cells C e')) (hne:¬e=e'):¬v.ownBlock=some k:=by
 intro hk
 obtain ⟨cur,hc⟩:=Y6 h hk
 rw [hg] at hc
 simp at hc
 exact hne hc.2.symm
theorem q9.grown {S:Nat->Prop} {a w w':World} {row:Option Nat} (h:q9 S a w) (hg:w.grownBy w' row) (hr:∀ k,row=some k->k < a.heap.size->S k):q9 S a w' :=
 h.trans' (T:=fun k=>row=some k) ⟨hg.os,hg.tape,hg.output,hg.size,fun k hk hs=>hg.block k hk (fun e=>hs e.symm)⟩ (fun i hi e=>hr i e hi)
theorem z8 {w:World} {b:Nat} {o:Obj} (h:w.heap[b]?=some o):b < w.heap.size:=by
 by_cases hlt:b < w.heap.size
 ·exact hlt
 ·rw [Array.getElem?_eq_none (by omega)] at h;exact absurd h (by simp)
def zn8 (N:List Nm) (t:Tk) (ts:List Tk):Rs Nd :=
 if zz9 N false t.txt.toList=0 then .ok (.mk 3 t.txt 0 []) ts else .no (zz9 N false t.txt.toList) t.pos
theorem ze2 (s:ByteArray) (k:Nat) (h:k < s.size):s.toList.drop k=s[k] :: s.toList.drop (k+1):=by
 rw [ByteArray.toList_eq,List.drop_eq_getElem_cons (by rw [<- Lib.size_eq];exact h)];rfl
theorem zq7 (s:ByteArray) (k:Nat) (h:k < s.size):(s.extract k (k+1)).toList=[s[k]]:=by
 rw [Lib.extract_toList,<- ByteArray.toList_eq,ze2 s k h]
 have:k+1 - k=1:=by omega
 rw [this];rfl
theorem jf6 {c:UInt8} (h:((c.toNat:Int) == 40)=true\/((c.toNat:Int) == 41)=true):zo9 c=true:=by
 unfold zo9
 rcases h with h | h
 ·rw [zm3 (c:=c) (n:=40) (by omega) (by simpa using h)];rfl
 ·rw [zm3 (c:=c) (n:=41) (by omega) (by simpa using h)];rfl
theorem jk8 {c:UInt8} (h1:((c.toNat:Int) == 40)=false) (h2:((c.toNat:Int) == 41)=false):zo9 c=false:=by
 unfold zo9
 rw [Bool.or_eq_false_iff]
 constructor
 ·cases hq:(c == 40) with
  | false=>rfl
  | true=>rw [beq_iff_eq.1 hq] at h1;exact absurd h1 (by decide)
 ·cases hq:(c == 41) with
  | false=>rfl
  | true=>rw [beq_iff_eq.1 hq] at h2;exact absurd h2 (by decide)
structure qt3 (s:ByteArray) (k:Nat) (X:ByteArray):Prop where
 pos:0 < X.size
 le:k+X.size<=s.size
 toks:zb6 k [] (s.toList.drop k)=⟨k,X⟩ :: zb6 (k+X.size) [] (s.toList.drop (k+X.size))
theorem je8 {s:ByteArray} {k:Nat} (h:k < s.size) (hb:zo9 s[k]=true):qt3 s k (s.extract k (k+1)):=by
 have he:=zq7 s k h
 have hsz:(s.extract k (k+1)).size=1:=by rw [<- Z3,he];rfl
 have hx:s.extract k (k+1)=⟨#[s[k]]⟩:=zb0 (by rw [he];exact (zd2 [s[k]]).symm)
 refine ⟨by omega,by omega,?_⟩
 rw [ze2 s k h,jo5 _ _ _ hb,hsz,hx]
theorem qt4 {s:ByteArray} {k e:Nat} (hk:k < e) (he:e<=s.size) (hp:((s.toList.drop k).take (e - k)).all za8=true) (hs:∀ c r,s.toList.drop e=c :: r->za8 c=false):qt3 s k (s.extract k e)/\kOf (s.extract k e).toList=3:=by
 have hx:(s.extract k e).toList=(s.toList.drop k).take (e - k):=by rw [Lib.extract_toList,<- ByteArray.toList_eq]
 have hl:(s.extract k e).size=e - k:=by rw [<- Z3,hx,List.length_take,List.length_drop,Z3];omega
 have hne:(s.toList.drop k).take (e - k) ≠ []:=by
  intro h0
  have:=Z3 (s.extract k e)
  rw [hx,h0,hl] at this
  simp at this;omega
 refine ⟨⟨by omega,by omega,?_⟩,by rw [hx];exact qP7 hne hp⟩
 have hsplit:s.toList.drop k=(s.toList.drop k).take (e - k)++s.toList.drop e:=by
  have h1:s.toList.drop e=(s.toList.drop k).drop (e - k):=by rw [List.drop_drop];congr 1;omega
  rw [h1,List.take_append_drop]
 have hX:s.extract k e=⟨((s.toList.drop k).take (e - k)).toArray⟩:=zb0 (hx.trans (zd2 _).symm)
 have hlen:((s.toList.drop k).take (e - k)).length=e - k:=by rw [<- hx,Z3,hl]
 rw [hl]
 have hke:k+(e - k)=e:=by omega
 rw [hke]
 conv=>lhs;rw [hsplit]
 rw [ja9 k _ _ hne hp hs,hlen,hke,hX]
theorem qk8 {s:ByteArray} {k e:Nat} (hke:k<=e) (hlt:e < s.size) (ha:((s.toList.drop k).take (e - k)).all za8=true) (hp:za8 s[e]=true):((s.toList.drop k).take (e+1 - k)).all za8=true:=by
 have h1:e+1 - k=(e - k)+1:=by omega
 have hl:e - k < (s.toList.drop k).length:=by rw [List.length_drop,Z3];omega
 have h2:(s.toList.drop k)[e - k]=s[e]:=by
  have h3:s.toList.drop e=(s.toList.drop k).drop (e - k):=by rw [List.drop_drop];congr 1;omega
  rw [ze2 s e hlt,List.drop_eq_getElem_cons hl] at h3
  injection h3 with h4 h5
  exact h4.symm
 rw [h1,List.take_succ_eq_append_getElem hl,List.all_append,ha,h2]
 simp [hp]
set_option maxHeartbeats 400000 in
theorem gAt (s:ByteArray) (k:Nat) (w:World) (hs:s.size<=600) (hk:k < s.size) (hb:zq1 s[k]=false) :
  Calls Tryz.prog 143 #[.string s,.int .i64 k] w fun e w'=>∃ X:ByteArray,e=.returned (.agg #[.int .i64 (kOf X.toList),.int .i64 k,.string X])/\qt3 s k X/\q9 (fun _=>False) w w':=by
 by_cases h40:((s[k].toNat:Int) == 40)=true
 ·have HT:=q8 (je8 hk (jf6 (Or.inl h40)))
  have HK:Hid (kOf (s.extract k (k+1)).toList=1):=by
   show _=_
   rw [zq7 s k hk,zm3 (c:=s[k]) (n:=40) (by omega) (by simpa using h40)];decide
  go_enter Tryz.func143,Tryz.ntmps143
  go_wp2_with fail
  exact bodyPost_ret (v:=.agg #[.int .i64 1,.int .i64 k,.string (s.extract k (k+1))]) (by simp [results,Tryz.results143,go_sem]) rfl ⟨_,by rw [HK.out],HT.out,(q9.refl _ w).alloc _⟩
 have h40':((s[k].toNat:Int) == 40)=false:=by simpa using h40
 by_cases h41:((s[k].toNat:Int) == 41)=true
 ·have HT:=q8 (je8 hk (jf6 (Or.inr h41)))
  have HK:Hid (kOf (s.extract k (k+1)).toList=2):=by
   show _=_
   rw [zq7 s k hk,zm3 (c:=s[k]) (n:=41) (by omega) (by simpa using h41)];decide
  clear h40
  go_enter Tryz.func143,Tryz.ntmps143
  go_wp2_with fail
  exact bodyPost_ret (v:=.agg #[.int .i64 2,.int .i64 k,.string (s.extract k (k+1))]) (by simp [results,Tryz.results143,go_sem]) rfl ⟨_,by rw [HK.out],HT.out,(q9.refl _ w).alloc _⟩
 have h41':((s[k].toNat:Int) == 41)=false:=by simpa using h41
 have HPL:Hid (za8 s[k]=true):=by show _=_;rw [za8,hb,jk8 h40' h41'];rfl
 have HB:=q8 hb
 clear h40 h41 hb
 go_enter Tryz.func143,Tryz.ntmps143
 go_wp2_with fail
 go_loop [5] (fun i=>∃ e:Nat,k<=e/\e<=s.size/\i=.int .i64 e/\((s.toList.drop k).take (e - k)).all za8=true/\(e=k->True)) (fun i=>s.size - (intOf i).toNat)
 case atStart=>exact ⟨k,Nat.le_refl _,by omega,rfl,by simp,fun _=>trivial⟩
 case round =>
  obtain ⟨e,hke,hes,rfl,ha,_⟩:=hrel
  have HA:=q8 ha
  clear ha
  by_cases hlt:e < s.size
  ·have HBL:=q8 (qa9 s[e])
   have HBR:=q8 (qk7 s[e])
   have hstop:za8 s[e]=false->qt3 s k (s.extract k e)/\kOf (s.extract k e).toList=3:=by
    intro hn
    have hne:k < e:=by
     rcases Nat.lt_or_ge k e with h | h
     ·exact h
     ·have:e=k:=by omega
      subst this
      rw [HPL.out] at hn;exact absurd hn (by decide)
    refine qt4 hne hes HA.out ?_
    intro c r hc
    rw [ze2 s e hlt] at hc
    injection hc with h1 h2
    rw [<- h1];exact hn
   have HSTOP:=q8 hstop
   clear hstop
   cases hbl:zq1 s[e] with
   | true =>
    have HB1:Hid (∀ w,Calls Tryz.prog 142 #[.int .u8 s[e].toNat] w fun e w'=>e=.returned (.bool true)/\w=w'):=by
     intro w;have:=HBL.out w;rw [hbl] at this;exact this
    have HW:=q8 (HSTOP.out (by rw [za8,hbl];rfl))
    clear hbl HBL HBR HSTOP HA
    go_wp2_with (go_at_call 142;refine (HB1.out _).mono ?_;rintro e w' ⟨rfl,rfl⟩)
    exact bodyPost_ret (v:=.agg #[.int .i64 3,.int .i64 k,.string (s.extract k e)]) (by simp [results,Tryz.results143,go_sem]) rfl ⟨_,by rw [HW.out.2],HW.out.1,(q9.refl _ w).alloc _⟩
   | false =>
    have HB1:Hid (∀ w,Calls Tryz.prog 142 #[.int .u8 s[e].toNat] w fun e w'=>e=.returned (.bool false)/\w=w'):=by
     intro w;have:=HBL.out w;rw [hbl] at this;exact this
    cases hbr:zo9 s[e] with
    | true =>
     have HB2:Hid (∀ w,Calls Tryz.prog 184 #[.int .u8 s[e].toNat] w fun e w'=>e=.returned (.bool true)/\w=w'):=by
      intro w;have:=HBR.out w;rw [hbr] at this;exact this
     have HW:=q8 (HSTOP.out (by rw [za8,hbl,hbr];rfl))
     clear hbl hbr HBL HBR HSTOP HA
     go_wp2_with first
      | (go_at_call 142;refine (HB1.out _).mono ?_;rintro e w' ⟨rfl,rfl⟩)
      | (go_at_call 184;refine (HB2.out _).mono ?_;rintro e w' ⟨rfl,rfl⟩)
     exact bodyPost_ret (v:=.agg #[.int .i64 3,.int .i64 k,.string (s.extract k e)]) (by simp [results,Tryz.results143,go_sem]) rfl ⟨_,by rw [HW.out.2],HW.out.1,(q9.refl _ w).alloc _⟩
    | false =>
     have HB2:Hid (∀ w,Calls Tryz.prog 184 #[.int .u8 s[e].toNat] w fun e w'=>e=.returned (.bool false)/\w=w'):=by
      intro w;have:=HBR.out w;rw [hbr] at this;exact this
     have HP:Hid (za8 s[e]=true):=by show _=_;rw [za8,hbl,hbr];rfl
     clear hbl hbr HBL HBR HSTOP
     go_wp2_with first
      | (go_at_call 142;refine (HB1.out _).mono ?_;rintro e w' ⟨rfl,rfl⟩)
      | (go_at_call 184;refine (HB2.out _).mono ?_;rintro e w' ⟨rfl,rfl⟩)
     exact ⟨⟨e+1,by omega,by omega,by go_num,qk8 hke hlt HA.out HP.out,fun _=>trivial⟩,by simp [intOf];omega⟩
  ·have HW:=q8 (qt4 (s:=s) (k:=k) (e:=e) (by omega) hes HA.out (by
    intro c r hc
    rw [List.drop_of_length_le (by rw [Z3];omega)] at hc
    exact absurd hc (by simp)))
   clear HA
   go_wp2_with fail
   exact bodyPost_ret (v:=.agg #[.int .i64 3,.int .i64 k,.string (s.extract k e)]) (by simp [results,Tryz.results143,go_sem]) rfl ⟨_,by rw [HW.out.2],HW.out.1,(q9.refl _ w).alloc _⟩
def V7 (ts:List Tk):List Value:=ts.flatMap (fun t=>[.int .i64 (kOf t.txt.toList),.int .i64 t.pos,.string t.txt])
theorem zu1 (ts:List Tk) (t:Tk):V7 (ts++[t])=V7 ts++[.int .i64 (kOf t.txt.toList),.int .i64 t.pos,.string t.txt]:=by
 simp [V7]
theorem qV5:(Tryz.prog.info? 219).map (fun i=>(i.zero,i.size,i.bytes))=some (some (.agg #[.int .i64 0,.int .i64 0,.string ByteArray.empty]),3,32):=by kernel_rfl
set_option maxHeartbeats 400000 in
theorem jh5 (s:ByteArray) (w:World) (hs:s.size<=600) :
  Calls Tryz.prog 105 #[.string s] w fun e w'=>∃ v,e=.returned v/\q9 (fun _=>False) w w'/\w'.ownsRow w.heap.size 219 3 v (toks s.toList).length (V7 (toks s.toList)):=by
 obtain ⟨i0,hi,hz0,hz1,hz2⟩:=info_parts qV5
 have HI:Hid (Tryz.prog.info? 219=some i0/\i0.zero=some (.agg #[.int .i64 0,.int .i64 0,.string ByteArray.empty])/\i0.size=3/\i0.bytes=32):=⟨hi,hz0,hz1,hz2⟩
 clear hi hz0 hz1 hz2
 go_enter Tryz.func105,Tryz.ntmps105
 go_wp2_with fail
 go_loopw [3,4] (fun out i wr=>∃ (k:Nat) (acc:List Tk),i=.int .i64 k/\k<=s.size/\acc.length<=k/\q9 (fun _=>False) w wr/\wr.ownsRow w.heap.size 219 3 out acc.length (V7 acc)/\toks s.toList=acc++zb6 k [] (s.toList.drop k))
  (fun _ i _=>s.size - (intOf i).toNat)
 case atStart=>exact ⟨0,[],rfl,by omega,by simp,q9.refl _ _,World.ownsRow_nil _ _ _ _,by simp [toks]⟩
 case round =>
  obtain ⟨k,acc,rfl,hk,hacc,hE,hown,hst⟩:=hrel
  have HE:=q8 hE
  have HOWN:=q8 hown
  have HST:=q8 hst
  clear hE hown hst
  obtain ⟨hi,hz0,hz1,hz2⟩:=HI.out
  by_cases hlt:k < s.size
  ·have HBL:=q8 (qa9 s[k])
   cases hbl:zq1 s[k] with
   | true =>
    have HB1:Hid (∀ w,Calls Tryz.prog 142 #[.int .u8 s[k].toNat] w fun e w'=>e=.returned (.bool true)/\w=w'):=by
     intro w;have:=HBL.out w;rw [hbl] at this;exact this
    have HC:Hid (toks s.toList=acc++zb6 (k+1) [] (s.toList.drop (k+1))):=by
     have:=HST.out
     rw [ze2 s k hlt,jo6 _ _ _ hbl] at this
     exact this
    clear hbl HBL HST
    go_wp2_with (go_at_call 142;refine (HB1.out _).mono ?_;rintro e w' ⟨rfl,rfl⟩)
    go_roundw
    case measure=>simp [intOf];omega
    case rel=>exact ⟨k+1,acc,by go_num,by omega,by omega,HE.out,HOWN.out,HC.out⟩
   | false =>
    have HB1:Hid (∀ w,Calls Tryz.prog 142 #[.int .u8 s[k].toNat] w fun e w'=>e=.returned (.bool false)/\w=w'):=by
     intro w;have:=HBL.out w;rw [hbl] at this;exact this
    have HAT:=q8 (gAt s k wr hs hlt hbl)
    clear hbl HBL
    go_wp2_with (go_at_call 142;refine (HB1.out _).mono ?_;rintro e w' ⟨rfl,rfl⟩)
    refine HAT.out.mono ?_
    rintro e w1 ⟨X,rfl,hat,hx1⟩
    have HO1:=q8 (z7 HOWN.out hx1 (fun _ _ f=>f))
    have HE1:=q8 (HE.out.trans hx1)
    have hXp:=hat.pos
    have hXl:=hat.le
    have HAT2:=q8 hat
    clear hat hx1
    go_wp2_with (at_builtin;refine wpList_append_own_at _ rfl _ _ 212 rfl w.heap.size 219 i0 (.agg #[.int .i64 0,.int .i64 0,.string ByteArray.empty]) 3 32 Tryz.underlying212 hi hz0 hz1 hz2 rfl (by decide) _ _ _ rfl ((HO1.out.alloc _).alloc _) ⟨w1.heap.size+1,0,none⟩ 1 1 [.int .i64 (kOf X.toList),.int .i64 k,.string X] rfl rfl ?c1 ?c2 ?c3 ?c4 ?c5 ?_)
    case c1 =>
     intro q u hq2
     match q,hq2 with
     | 0,hq2=>simp at hq2;subst hq2;simp [Addr.add]
     | 1,hq2=>simp at hq2;subst hq2;simp [Addr.add]
     | 2,hq2=>simp at hq2;subst hq2;simp [Addr.add]
    case c2=>intro u hu;simp at hu;rcases hu with rfl | rfl | rfl <;> rfl
    case c3=>unfold maxLen;omega
    case c4=>omega
    case c5=>have:=HE1.out.size;simp;omega
    intro v2 w2 hown' hgrow _ _
    have hne:¬some w1.heap.size=u3.ownBlock:=fun e=>by have:=(HO1.out.lt _ e.symm).2;omega
    have kb:w2.heap[w1.heap.size]?=some (.cells #[.int .i64 (kOf X.toList),.int .i64 k,.string X] 219) :=
     (hgrow.block _ (by simp;omega) hne).trans ((Below.heap_alloc _ _ _ (by simp)).trans (heap_alloc_new w1 _))
    have k2:=z6 kb 2
    have HE2:Hid (q9 (fun _=>False) w w2):=((HE1.out.alloc _).alloc _).grown hgrow (fun g hg _=>by have:=(HO1.out.lt g hg).1;omega)
    have HO2:Hid (w2.ownsRow w.heap.size 219 3 v2 (acc++[(⟨k,X⟩:Tk)]).length (V7 (acc++[(⟨k,X⟩:Tk)]))):=by
     rw [zu1,List.length_append];exact hown'
    clear hown' hgrow kb hne
    go_wp2_with fail
    go_roundw
    case measure=>simp [intOf];omega
    case rel =>
     refine ⟨k+X.size,acc++[⟨k,X⟩],by go_num,by omega,by simp;omega,HE2.out,HO2.out,?_⟩
     rw [HST.out,HAT2.out.toks];simp
  ·have hks:k=s.size:=by omega
   subst hks
   have HC:Hid (toks s.toList=acc++[⟨s.size,ByteArray.empty⟩]):=by
    have:=HST.out
    rw [List.drop_of_length_le (by rw [Z3];omega)] at this
    exact this
   clear HST
   go_wp2_with (at_builtin;refine wpList_append_own_at _ rfl _ _ 212 rfl w.heap.size 219 i0 (.agg #[.int .i64 0,.int .i64 0,.string ByteArray.empty]) 3 32 Tryz.underlying212 hi hz0 hz1 hz2 rfl (by decide) _ _ _ rfl (HOWN.out.alloc _) ⟨wr.heap.size,0,none⟩ 1 1 [.int .i64 0,.int .i64 (s.size:Int),.string ByteArray.empty] rfl rfl ?c1 ?c2 ?c3 ?c4 ?c5 ?_)
   case c1 =>
    intro q u hq2
    match q,hq2 with
    | 0,hq2=>simp at hq2;subst hq2;simp [Addr.add]
    | 1,hq2=>simp at hq2;subst hq2;simp [Addr.add]
    | 2,hq2=>simp at hq2;subst hq2;simp [Addr.add] <;> rfl
   case c2=>intro u hu;simp at hu;rcases hu with rfl | rfl | rfl <;> rfl
   case c3=>unfold maxLen;omega
   case c4=>omega
   case c5=>have:=HE.out.size;simp;omega
   intro v2 w2 hown' hgrow _ _
   go_wp2_with fail
   go_ret
   refine ⟨v2,rfl,(HE.out.alloc _).grown hgrow (fun g hg _=>by have:=(HOWN.out.lt g hg).1;omega),?_⟩
   rw [HC.out,zu1,List.length_append]
   have e0:kOf (ByteArray.empty).toList=0:=by rw [ze1];rfl
   simp only [e0]
   exact hown'
structure W9 where
 rb:Nat
 tb:Nat
 sb:Nat
 nv:Value
 N:List Nm
def zo5 (w:World) (tb:Nat):Nat->List Tk->Prop
 | _,[]=>True
 | o,t :: ts=>w.cell? ⟨tb,o,none⟩=some (.int .i64 (kOf t.txt.toList))/\w.cell? ⟨tb,o+1,none⟩=some (.int .i64 t.pos)/\w.cell? ⟨tb,o+2,none⟩=some (.string t.txt)/\t.txt.size<=600/\zo5 w tb (o+3) ts
theorem zo5.ext {w w':World} {S:Nat->Prop} {tb:Nat} (h:q9 S w w') (hb:tb < w.heap.size) (hS:¬S tb):∀ {ts:List Tk} {i:Nat},zo5 w tb i ts->zo5 w' tb i ts
 | [],_,_=>trivial
 | _ :: _,_,ht=>⟨(h.cell (p:=⟨tb,_,none⟩) hb hS).trans ht.1,(h.cell (p:=⟨tb,_,none⟩) hb hS).trans ht.2.1,(h.cell (p:=⟨tb,_,none⟩) hb hS).trans ht.2.2.1,ht.2.2.2.1,zo5.ext h hb hS ht.2.2.2.2⟩
def K9 (N:List Nm):List Value:=N.flatMap (fun x=>[.string x.name,.int .i64 x.ar])
def Y1:List (ByteArray × Int × Int):=[(⟨#[110,111,116]⟩,1,0),(⟨#[97,110,100]⟩,1,2),(⟨#[111,114]⟩,1,2),(⟨#[61,62]⟩,1,1),(⟨#[105,102,102]⟩,1,1),(⟨#[61]⟩,2,3),(⟨#[60]⟩,2,3),(⟨#[60,61]⟩,2,3),(⟨#[108,101]⟩,2,4)]
def zm7:Array Value:=(Y1.flatMap (fun x=>[.string x.1,.int .i64 x.2.1,.int .i64 x.2.2])).toArray
def za3 (w:World):Prop:=∃ t fr,w.heap[0]?=some (.cells zm7 t fr)
theorem za3.ext {w w':World} {S:Nat->Prop} (h:za3 w) (hx:q9 S w w') (hS:¬S 0):za3 w':=by
 obtain ⟨t,fr,hb⟩:=h
 exact ⟨t,fr,(hx.block _ (z8 hb) hS).trans hb⟩
structure PR (w:World) (c:W9) (ts:List Tk) (d pl er:Int):Prop where
 wf:TW ts
 dlo:0<=d
 dhi:d<=30
 len:ts.length<=601
 tbn:¬c.tb=c.rb
 sbn:¬c.sb=c.rb
 nvn:∀ g,c.nv.ownBlock=some g->¬g=c.rb
 hd:za3 w
 hdn:0 < c.rb
 tbs:c.tb < w.heap.size
 sbs:c.sb < w.heap.size
 few:c.N.length<=20
 ok:∀ x∈c.N,0<=x.ar/\x.ar<=3
 tbl:w.cell? ⟨c.sb,0,none⟩=some c.nv
 own:w.ownsRow 0 142 2 c.nv c.N.length (K9 c.N)
 here:∃ o cap:Nat,zo5 w c.tb o ts/\ts.length<=cap /\
  w.heap[c.rb]?=some (.cells #[.slice (some ⟨c.tb,o,none⟩) ts.length cap,.pointer (some ⟨c.sb,0,none⟩),.int .i64 d,.int .i64 pl,.int .i64 er] 215)
theorem PR.head {w:World} {c:W9} {ts:List Tk} {d pl er:Int} (h:PR w c ts d pl er):∃ t us,ts=t :: us:=by
 cases ts with
 | nil=>exact absurd rfl h.wf.ne
 | cons t us=>exact ⟨t,us,rfl⟩
theorem PR.rbs {w:World} {c:W9} {ts:List Tk} {d pl er:Int} (h:PR w c ts d pl er):c.rb < w.heap.size:=by
 obtain ⟨o,cap,ht,hc,hb⟩:=h.here
 exact z8 hb
theorem PR.turn {w w':World} {c:W9} {ts ts':List Tk} {d pl er d' pl' er':Int} (h:PR w c ts d pl er) (hx:q9 (· = c.rb) w w') (hw:TW ts') (h0:0<=d') (h3:d'<=30) (hl:ts'.length<=601)
  (hh:∃ o cap:Nat,zo5 w c.tb o ts'/\ts'.length<=cap /\
   w'.heap[c.rb]?=some (.cells #[.slice (some ⟨c.tb,o,none⟩) ts'.length cap,.pointer (some ⟨c.sb,0,none⟩),.int .i64 d',.int .i64 pl',.int .i64 er'] 215)):PR w' c ts' d' pl' er':=by
 obtain ⟨o,cap,ht,hc,hb⟩:=hh
 exact ⟨hw,h0,h3,hl,h.tbn,h.sbn,h.nvn,h.hd.ext hx (fun e=>by have h1:0=c.rb:=e;have:=h.hdn;omega),h.hdn,Nat.lt_of_lt_of_le h.tbs hx.size,Nat.lt_of_lt_of_le h.sbs hx.size,h.few,h.ok,(hx.cell (p:=⟨c.sb,0,none⟩) h.sbs h.sbn).trans h.tbl,z7 h.own hx h.nvn,o,cap,ht.ext hx h.tbs h.tbn,hc,hb⟩
theorem PR.ext {w w':World} {S:Nat->Prop} {c:W9} {ts:List Tk} {d pl er:Int} (h:PR w c ts d pl er) (hx:q9 S w w') (h1:¬S c.rb) (h2:¬S c.tb) (h3:¬S c.sb) (h4:∀ g,c.nv.ownBlock=some g->¬S g) (h5:¬S 0):PR w' c ts d pl er:=by
 obtain ⟨o,cap,ht,hc,hb⟩:=h.here
 exact ⟨h.wf,h.dlo,h.dhi,h.len,h.tbn,h.sbn,h.nvn,h.hd.ext hx h5,h.hdn,Nat.lt_of_lt_of_le h.tbs hx.size,Nat.lt_of_lt_of_le h.sbs hx.size,h.few,h.ok,(hx.cell (p:=⟨c.sb,0,none⟩) h.sbs h3).trans h.tbl,z7 h.own hx h4,o,cap,ht.ext hx h.tbs h2,hc,(hx.block _ (z8 hb) h1).trans hb⟩
theorem PR.new {w w':World} {c:W9} {ts:List Tk} {d pl er:Int} (h:PR w c ts d pl er) (hx:q9 (fun _=>False) w w'):PR w' c ts d pl er :=
 h.ext hx (fun f=>f) (fun f=>f) (fun f=>f) (fun _ _ f=>f) (fun f=>f)
theorem PR.sm {w:World} {c:W9} {t:Tk} {ts:List Tk} {d pl er:Int} (h:PR w c (t :: ts) d pl er):t.txt.size<=600:=by
 obtain ⟨o,cap,ht,hc,hb⟩:=h.here
 exact ht.2.2.2.1
set_option maxHeartbeats 400000 in
theorem X2 {w:World} {c:W9} {t:Tk} {ts:List Tk} {d pl er:Int} (h:PR w c (t :: ts) d pl er) :
  Calls Tryz.prog 107 #[.pointer (some ⟨c.rb,0,none⟩)] w fun e w'=>e=.returned (.agg #[.int .i64 (kOf t.txt.toList),.int .i64 t.pos,.string t.txt])/\q9 (fun _=>False) w w':=by
 obtain ⟨o,cap,ht,hc,hb⟩:=h.here
 have c0:=z6 hb 0
 have t0:=ht.1
 have t1:=ht.2.1
 have t2:=ht.2.2.1
 have hr:=h.rbs
 have htb:=h.tbs
 have n1:¬c.rb=w.heap.size:=by omega
 have n2:¬c.tb=w.heap.size:=by omega
 have hl:(0:Int) < ((ts.length:Int)+1):=by omega
 clear hb ht h
 go_enter Tryz.func107,Tryz.ntmps107
 go_wp2_with fail
 exact bodyPost_ret (v:=.agg #[.int .i64 (kOf t.txt.toList),.int .i64 t.pos,.string t.txt]) (by simp [results,Tryz.results107,go_sem]) rfl ⟨rfl,(q9.refl _ w).alloc _⟩
theorem zg5 (a b:Int) (x:ByteArray) (w:World):Sem.run Tryz.prog (Instr.field 219 (.agg #[.int .i64 a,.int .i64 b,.string x]) 0) w=.ok (.int .i64 a) w:=by kernel_rfl
theorem jp6 (a b:Int) (x:ByteArray) (w:World):Sem.run Tryz.prog (Instr.field 219 (.agg #[.int .i64 a,.int .i64 b,.string x]) 1) w=.ok (.int .i64 b) w:=by kernel_rfl
theorem zj2 (a b:Int) (x:ByteArray) (w:World):Sem.run Tryz.prog (Instr.field 219 (.agg #[.int .i64 a,.int .i64 b,.string x]) 2) w=.ok (.string x) w:=by kernel_rfl
theorem zp1 {l:List UInt8}:kOf l=0↔l=[]:=by
 unfold kOf
 constructor
 ·intro h
  split at h
  ·assumption
  ·split at h
   ·exact absurd h (by decide)
   ·split at h <;> exact absurd h (by decide)
 ·intro h;rw [if_pos h]
set_option maxRecDepth 100000 in
set_option maxHeartbeats 400000 in
theorem zp2 {w:World} {c:W9} {t:Tk} {ts:List Tk} {d pl er:Int} (h:PR w c (t :: ts) d pl er) (hne:t.txt.toList ≠ []) :
  Calls Tryz.prog 109 #[.pointer (some ⟨c.rb,0,none⟩)] w fun e w'=>e=.returned (.tuple #[])/\q9 (· = c.rb) w w'/\PR w' c ts d pl er:=by
 have hk:(kOf t.txt.toList == 0)=false:=by
  cases hq:(kOf t.txt.toList == 0) with
  | false=>rfl
  | true=>exact absurd (zp1.1 (beq_iff_eq.1 hq)) hne
 have HW:=q8 (h.wf.tail hne)
 have hts:0 < ts.length:=by
  cases ts with
  | nil=>exact absurd rfl HW.out.ne
  | cons a b=>simp
 have H:=q8 h
 have F0:=zg5
 clear h
 go_enter Tryz.func109,Tryz.ntmps109
 go_wp2_with fail
 refine (X2 H.out).mono ?_
 rintro e w1 ⟨rfl,hx1⟩
 have h1:=H.out.new hx1
 obtain ⟨o,cap,ht,hc,hb⟩:=h1.here
 have c0:=z6 hb 0
 have f0:=Q0 hb 0
 have hlen:=h1.len
 have hc2:ts.length+1<=cap:=hc
 have hc3:¬cap=1:=by omega
 have hl:(1:Int)<=((ts.length:Int)+1):=by omega
 have HX1:=q8 hx1
 have H1:=q8 h1
 have HT:=q8 ht
 have HB:=q8 hb
 clear hx1 h1 ht hb hc
 go_wp2_with fail
 go_end0
 have hx2:q9 (· = c.rb) w1 (w1.setCell ⟨c.rb,0,none⟩ (.slice (some ⟨c.tb,o+3,none⟩) ts.length (cap - 1))):=(q9.refl (· = c.rb) w1).setCell (p:=⟨c.rb,0,none⟩) (fun _=>rfl) _
 exact ⟨rfl,(HX1.out.mono (fun _ _ f=>f.elim)).trans hx2,H1.out.turn hx2 HW.out H1.out.dlo H1.out.dhi (by have:=H1.out.len;simp at this;omega) ⟨o+3,cap - 1,HT.out.2.2.2.2,by omega,Y0 HB.out 0 _⟩⟩
set_option maxRecDepth 100000 in
set_option maxHeartbeats 400000 in
theorem x6 {w:World} {c:W9} {t:Tk} {ts:List Tk} {d pl er:Int} (e:Int) (h:PR w c (t :: ts) d pl er) :
  Calls Tryz.prog 110 #[.pointer (some ⟨c.rb,0,none⟩),.int .i64 e] w fun en w'=>en=.returned (.bool false)/\q9 (· = c.rb) w w'/\PR w' c (t :: ts) d t.pos e:=by
 have H:=q8 h
 have F1:=jp6
 clear h
 go_enter Tryz.func110,Tryz.ntmps110
 go_wp2_with fail
 refine (X2 H.out).mono ?_
 rintro en w1 ⟨rfl,hx1⟩
 have h1:=H.out.new hx1
 obtain ⟨o,cap,ht,hc,hb⟩:=h1.here
 have c3:=z6 hb 3
 have f3:=Q0 hb 3
 have c4:=z6 hb 4
 have f4:=Q0 hb 4
 have HX1:=q8 hx1
 have H1:=q8 h1
 have HT:=q8 ht
 have HB:=q8 hb
 have HC:=q8 hc
 clear hx1 h1 ht hb hc
 go_wp2_with fail
 go_ret
 have hx2:q9 (· = c.rb) w1 ((w1.setCell ⟨c.rb,3,none⟩ (.int .i64 t.pos)).setCell ⟨c.rb,4,none⟩ (.int .i64 e)):=((q9.refl (· = c.rb) w1).setCell (p:=⟨c.rb,3,none⟩) (fun _=>rfl) _).setCell (p:=⟨c.rb,4,none⟩) (fun _=>rfl) _
 exact ⟨rfl,(HX1.out.mono (fun _ _ f=>f.elim)).trans hx2,H1.out.turn hx2 H1.out.wf H1.out.dlo H1.out.dhi H1.out.len ⟨o,cap,HT.out,HC.out,Y0 (Y0 HB.out 3 _) 4 _⟩⟩
set_option maxRecDepth 100000 in
set_option maxHeartbeats 400000 in
theorem qI9 {w:World} {c:W9} {t:Tk} {ts:List Tk} {d pl er:Int} (h:PR w c (t :: ts) d pl er) (he:t.txt.toList=[]) :
  Calls Tryz.prog 106 #[.pointer (some ⟨c.rb,0,none⟩)] w fun en w'=>en=.returned (.bool true)/\q9 (fun _=>False) w w':=by
 have H:=q8 h
 have F0:=zg5
 have hk:(kOf t.txt.toList == 0)=true:=by rw [zp1.2 he];rfl
 clear h he
 go_enter Tryz.func106,Tryz.ntmps106
 go_wp2_with (go_at_call 107;refine (X2 H.out).mono ?_;rintro en w1 ⟨rfl,hx1⟩;have HX1:=q8 hx1;clear hx1)
 go_ret
 exact ⟨rfl,HX1.out⟩
set_option maxRecDepth 100000 in
set_option maxHeartbeats 400000 in
theorem qJ0 {w:World} {c:W9} {t:Tk} {ts:List Tk} {d pl er:Int} (h:PR w c (t :: ts) d pl er) (he:t.txt.toList ≠ []) :
  Calls Tryz.prog 106 #[.pointer (some ⟨c.rb,0,none⟩)] w fun en w'=>en=.returned (.bool false)/\q9 (· = c.rb) w w'/\PR w' c (t :: ts) d t.pos 2:=by
 have H:=q8 h
 have F0:=zg5
 have hk:(kOf t.txt.toList == 0)=false:=by
  cases hq:(kOf t.txt.toList == 0) with
  | false=>rfl
  | true=>exact absurd (zp1.1 (beq_iff_eq.1 hq)) he
 clear h he
 go_enter Tryz.func106,Tryz.ntmps106
 go_wp2_with first
  | (go_at_call 107;refine (X2 H.out).mono ?_;rintro en w1 ⟨rfl,hx1⟩;have HX1:=q8 hx1;clear hx1)
  | (go_at_call 110;refine (x6 _ (H.out.new HX1.out)).mono ?_;rintro en w2 ⟨rfl,hx2,hr2⟩;have HX2:=q8 hx2;have HR2:=q8 hr2;clear hx2 hr2)
 go_ret
 exact ⟨rfl,(HX1.out.mono (fun _ _ f=>f.elim)).trans HX2.out,HR2.out⟩
set_option maxRecDepth 100000 in
set_option maxHeartbeats 400000 in
theorem zD5 {w:World} {c:W9} {t:Tk} {ts:List Tk} {d pl er:Int} (h:PR w c (t :: ts) d pl er) (hd:30<=d) :
  Calls Tryz.prog 144 #[.pointer (some ⟨c.rb,0,none⟩)] w fun en w'=>en=.returned (.bool false)/\q9 (· = c.rb) w w'/\PR w' c (t :: ts) d t.pos 6:=by
 obtain ⟨o,cap,ht,hc,hb⟩:=h.here
 have c2:=z6 hb 2
 have H:=q8 h
 clear h ht hb hc
 go_enter Tryz.func144,Tryz.ntmps144
 go_wp2_with (go_at_call 110;refine (x6 _ H.out).mono ?_;rintro en w2 ⟨rfl,hx2,hr2⟩;have HX2:=q8 hx2;have HR2:=q8 hr2;clear hx2 hr2)
 go_ret
 exact ⟨rfl,HX2.out,HR2.out⟩
set_option maxRecDepth 100000 in
set_option maxHeartbeats 400000 in
theorem zk9 {w:World} {c:W9} {t:Tk} {ts:List Tk} {d pl er:Int} (h:PR w c (t :: ts) d pl er) (hd:d < 30) (hne:t.txt.toList ≠ []) :
  Calls Tryz.prog 144 #[.pointer (some ⟨c.rb,0,none⟩)] w fun en w'=>en=.returned (.bool true)/\q9 (· = c.rb) w w'/\PR w' c ts (d+1) pl er:=by
 obtain ⟨o,cap,ht,hc,hb⟩:=h.here
 have c2:=z6 hb 2
 have f2:=Q0 hb 2
 have hlo:=h.dlo
 have hx1:q9 (· = c.rb) w (w.setCell ⟨c.rb,2,none⟩ (.int .i64 (d+1))):=(q9.refl (· = c.rb) w).setCell (p:=⟨c.rb,2,none⟩) (fun _=>rfl) _
 have HX1:=q8 hx1
 have H1:=q8 (h.turn hx1 h.wf (by omega) (by omega) h.len ⟨o,cap,ht,hc,Y0 hb 2 _⟩)
 have HNE:=q8 hne
 clear h ht hb hc hx1 hne
 go_enter Tryz.func144,Tryz.ntmps144
 go_wp2_with (go_at_call 109;refine (zp2 H1.out HNE.out).mono ?_;rintro en w2 ⟨rfl,hx2,hr2⟩;have HX2:=q8 hx2;have HR2:=q8 hr2;clear hx2 hr2)
 go_ret
 exact ⟨rfl,HX1.out.trans HX2.out,HR2.out⟩
theorem zB5 {l:List UInt8} (h:l=[41]):kOf l=2:=by rw [h];decide
theorem zU8 {l:List UInt8} (h:l ≠ [41]):(kOf l == 2)=false:=by
 unfold kOf
 split
 ·decide
 ·split
  ·decide
  ·first
    | decide
    | (rw [if_neg h];decide)
set_option maxRecDepth 100000 in
set_option maxHeartbeats 400000 in
theorem zH3 {w:World} {c:W9} {t:Tk} {ts:List Tk} {d pl er:Int} (e:Int) (h:PR w c (t :: ts) d pl er) (hd:1<=d) (hq:t.txt.toList=[41]) :
  Calls Tryz.prog 147 #[.pointer (some ⟨c.rb,0,none⟩),.int .i64 e] w fun en w'=>en=.returned (.bool true)/\q9 (· = c.rb) w w'/\PR w' c ts (d - 1) pl er:=by
 have H:=q8 h
 have F0:=zg5
 have hhi:=h.dhi
 have hk:(kOf t.txt.toList == 2)=true:=by rw [zB5 hq];rfl
 have HNE:Hid (t.txt.toList ≠ []):=by intro e;rw [e] at hq;exact absurd hq (by decide)
 clear h hq
 go_enter Tryz.func147,Tryz.ntmps147
 go_wp2_with fail
 refine (X2 H.out).mono ?_
 rintro en w1 ⟨rfl,hx1⟩
 have h1:=H.out.new hx1
 obtain ⟨o,cap,ht,hc,hb⟩:=h1.here
 have c2:=z6 hb 2
 have f2:=Q0 hb 2
 have hx2:q9 (· = c.rb) w1 (w1.setCell ⟨c.rb,2,none⟩ (.int .i64 (d - 1))):=(q9.refl (· = c.rb) w1).setCell (p:=⟨c.rb,2,none⟩) (fun _=>rfl) _
 have HX2:Hid (q9 (· = c.rb) w (w1.setCell ⟨c.rb,2,none⟩ (.int .i64 (d - 1)))):=(hx1.mono (fun _ _ f=>f.elim)).trans hx2
 have H2:=q8 (h1.turn hx2 h1.wf (by omega) (by omega) h1.len ⟨o,cap,ht,hc,Y0 hb 2 _⟩)
 clear h1 ht hb hc hx1 hx2
 go_wp2_with (go_at_call 109;refine (zp2 H2.out HNE.out).mono ?_;rintro en w2 ⟨rfl,hx3,hr3⟩;have HX3:=q8 hx3;have HR3:=q8 hr3;clear hx3 hr3)
 go_ret
 exact ⟨rfl,HX2.out.trans HX3.out,HR3.out⟩
def zH4 (e:Int) (l:List UInt8):Int:=if l=[] then 2 else e
set_option maxRecDepth 100000 in
set_option maxHeartbeats 400000 in
theorem zH5 {w:World} {c:W9} {t:Tk} {ts:List Tk} {d pl er:Int} (e:Int) (h:PR w c (t :: ts) d pl er) (hq:t.txt.toList ≠ [41]) :
  Calls Tryz.prog 147 #[.pointer (some ⟨c.rb,0,none⟩),.int .i64 e] w fun en w'=>en=.returned (.bool false)/\q9 (· = c.rb) w w'/\PR w' c (t :: ts) d t.pos (zH4 e t.txt.toList):=by
 have H:=q8 h
 have F0:=zg5
 have hk:=zU8 hq
 clear h hq
 by_cases h0:t.txt.toList=[]
 ·have hk0:(kOf t.txt.toList == 0)=true:=by rw [zp1.2 h0];rfl
  rw [zH4,if_pos h0]
  clear h0
  go_enter Tryz.func147,Tryz.ntmps147
  go_wp2_with first
   | (go_at_call 107;refine (X2 H.out).mono ?_;rintro en w1 ⟨rfl,hx1⟩;have HX1:=q8 hx1;clear hx1)
   | (go_at_call 110;refine (x6 _ (H.out.new HX1.out)).mono ?_;rintro en w2 ⟨rfl,hx2,hr2⟩;have HX2:=q8 hx2;have HR2:=q8 hr2;clear hx2 hr2)
  go_ret
  exact ⟨rfl,(HX1.out.mono (fun _ _ f=>f.elim)).trans HX2.out,HR2.out⟩
 ·have hk0:(kOf t.txt.toList == 0)=false:=by
   cases hq:(kOf t.txt.toList == 0) with
   | false=>rfl
   | true=>exact absurd (zp1.1 (beq_iff_eq.1 hq)) h0
  rw [zH4,if_neg h0]
  clear h0
  go_enter Tryz.func147,Tryz.ntmps147
  go_wp2_with first
   | (go_at_call 107;refine (X2 H.out).mono ?_;rintro en w1 ⟨rfl,hx1⟩;have HX1:=q8 hx1;clear hx1)
   | (go_at_call 110;refine (x6 _ (H.out.new HX1.out)).mono ?_;rintro en w2 ⟨rfl,hx2,hr2⟩;have HX2:=q8 hx2;have HR2:=q8 hr2;clear hx2 hr2)
  go_ret
  exact ⟨rfl,(HX1.out.mono (fun _ _ f=>f.elim)).trans HX2.out,HR2.out⟩
inductive PN (w:World) (D:Nat->Prop):List Value->Nd->Prop
 | mk {k v:Int} {word:ByteArray} {ps:List Nd} {pv:Value} {kids:List (List Value)}
   (how:w.ownsRow 0 115 4 pv ps.length kids.flatten) (hl:∀ cs∈kids,cs.length=4) (hn:kids.length=ps.length) (hD:∀ g,pv.ownBlock=some g->D g)
   (hk:∀ (i:Nat) (cs:List Value) (p:Nd),kids[i]?=some cs->ps[i]?=some p->PN w D cs p):PN w D [.int .i64 k,.string word,.int .i64 v,pv] (.mk k word v ps)
theorem PN.ext {S D:Nat->Prop} {w w':World} {cs:List Value} {nd:Nd} (h:PN w D cs nd) (hx:q9 S w w') (hS:∀ k,k < w.heap.size->D k->¬S k):PN w' D cs nd:=by
 induction h with
 | mk how hl hn hD _ ih=>exact PN.mk (z7 how hx (fun k hk=>hS k (how.lt k hk).2 (hD k hk))) hl hn hD ih
theorem PN.mono {D D':Nat->Prop} {w:World} {cs:List Value} {nd:Nd} (h:PN w D cs nd) (hl':∀ k,k < w.heap.size->D k->D' k):PN w D' cs nd:=by
 induction h with
 | mk how hl hn hD _ ih=>exact PN.mk how hl hn (fun g hg=>hl' g (how.lt g hg).2 (hD g hg)) ih
theorem PN.leaf {w:World} {D:Nat->Prop} (k v:Int) (word:ByteArray):PN w D [.int .i64 k,.string word,.int .i64 v,.slice none 0 0] (.mk k word v []) :=
 PN.mk (kids:=[]) (World.ownsRow_nil _ _ _ _) (fun _ h=>absurd h (by simp)) rfl (fun g hg=>absurd hg (by simp [Value.ownBlock])) (fun _ _ _ h=>absurd h (by simp))
def X5 (w:World) (c:W9) (d pl er:Int) (r:Rs Nd) (en:Ending) (w':World):Prop :=
 q9 (· = c.rb) w w'/\(match r with
  | .ok nd ts'=>∃ (k:Int) (wd:ByteArray) (v:Int) (sa:Option Addr) (sn sc:Nat),en=.returned (.tuple #[.agg #[.int .i64 k,.string wd,.int .i64 v,.slice sa sn sc],.bool true])/\PN w' (w.heap.size <= ·) [.int .i64 k,.string wd,.int .i64 v,.slice sa sn sc] nd/\PR w' c ts' d pl er
  | .no e p=>en=.returned (.tuple #[.agg #[.int .i64 0,.string ⟨#[]⟩,.int .i64 0,.slice none 0 0],.bool false])/\∃ ts' d',PR w' c ts' d' p e)
theorem Z5 (w:World) (h:Nat) (a b x p:Value):q9 (· = h) w ((((w.setCell ⟨h,0,none⟩ a).setCell ⟨h,1,none⟩ b).setCell ⟨h,2,none⟩ x).setCell ⟨h,3,none⟩ p) :=
 ((((q9.refl (· = h) w).setCell (p:=⟨h,0,none⟩) (fun _=>rfl) _).setCell (p:=⟨h,1,none⟩) (fun _=>rfl) _).setCell (p:=⟨h,2,none⟩) (fun _=>rfl) _).setCell (p:=⟨h,3,none⟩) (fun _=>rfl) _
theorem V6 {w w0 w2 W:World} {c:W9} {d pl er d' e:Int} {p:Nat} {ts':List Tk} (hx0:q9 (fun _=>False) w w0) (hx2:q9 (· = c.rb) w0 w2) (hr:PR w2 c ts' d' p e) (hW:q9 (· = w.heap.size) w2 W) (hrb:c.rb < w.heap.size) (htb:c.tb < w.heap.size) (hsb:c.sb < w.heap.size) (hnv:∀ g,c.nv.ownBlock=some g->g < w.heap.size) :
  X5 w c d pl er (.no e p) (.returned (.tuple #[.agg #[.int .i64 0,.string ⟨#[]⟩,.int .i64 0,.slice none 0 0],.bool false])) W:=by
 refine ⟨((hx0.mono (fun _ _ f=>f.elim)).trans hx2).trans' hW (fun i hi e=>by have h1:i=w.heap.size:=e;omega),rfl,ts',d',?_⟩
 exact hr.ext hW (by show ¬c.rb=w.heap.size;omega) (by show ¬c.tb=w.heap.size;omega) (by show ¬c.sb=w.heap.size;omega) (fun g hg e=>by have h1:g=w.heap.size:=e;have:=hnv g hg;omega) (by show ¬0=w.heap.size;have:=hr.hdn;omega)
theorem zc8 {w w0 w2 W:World} {c:W9} {d pl er:Int} {nd:Nd} {ts':List Tk} {k v:Int} {wd:ByteArray} {sa:Option Addr} {sn sc:Nat} (hx0:q9 (fun _=>False) w w0) (hx2:q9 (· = c.rb) w0 w2) (hr:PR w2 c ts' d pl er) (hn:PN w2 (fun k=>w.heap.size < k) [.int .i64 k,.string wd,.int .i64 v,.slice sa sn sc] nd) (hW:q9 (· = w.heap.size) w2 W) (hrb:c.rb < w.heap.size) (htb:c.tb < w.heap.size) (hsb:c.sb < w.heap.size) (hnv:∀ g,c.nv.ownBlock=some g->g < w.heap.size) :
  X5 w c d pl er (.ok nd ts') (.returned (.tuple #[.agg #[.int .i64 k,.string wd,.int .i64 v,.slice sa sn sc],.bool true])) W:=by
 refine ⟨((hx0.mono (fun _ _ f=>f.elim)).trans hx2).trans' hW (fun i hi e=>by have h1:i=w.heap.size:=e;omega),k,wd,v,sa,sn,sc,rfl,?_,?_⟩
 ·exact (hn.ext hW (fun k _ hk e=>by have h1:k=w.heap.size:=e;omega)).mono (fun k _ hk=>by show w.heap.size<=k;omega)
 ·exact hr.ext hW (by show ¬c.rb=w.heap.size;omega) (by show ¬c.tb=w.heap.size;omega) (by show ¬c.sb=w.heap.size;omega) (fun g hg e=>by have h1:g=w.heap.size:=e;have:=hnv g hg;omega) (by show ¬0=w.heap.size;have:=hr.hdn;omega)
theorem PR.nvs {w:World} {c:W9} {ts:List Tk} {d pl er:Int} (h:PR w c ts d pl er):∀ g,c.nv.ownBlock=some g->g < w.heap.size:=fun g hg=>(h.own.lt g hg).2
set_option maxRecDepth 100000 in
set_option maxHeartbeats 400000 in
theorem zZ8 {w:World} {c:W9} {t:Tk} {ts:List Tk} {d pl er:Int} (k:Int) (h:PR w c (t :: ts) d pl er) (hv:numOf t.txt.toList=none) :
    Calls Tryz.prog 192 #[.pointer (some ⟨c.rb,0,none⟩),.int .i64 k] w (X5 w c d pl er (.no 2 t.pos)):=by
  have F2:=zj2
  have hrb:=h.rbs
  have hrn:¬w.heap.size=c.rb:=by omega
  have htb:=h.tbs
  have hsb:=h.sbs
  have HNV:=q8 h.nvs
  have HX0:Hid (q9 (fun _=>False) w (w.alloc (.cells #[.int .i64 0,.string ⟨#[]⟩,.int .i64 0,.slice none 0 0] 115))):=(q9.refl _ w).alloc _
  have H0:=q8 (h.new HX0.out)
  have hsm:t.txt.size<=maxLen:=by have:=h.sm;unfold maxLen;omega
  have HN:=zp6 t.txt
  rw [hv] at HN
  have HN':=q8 HN
  clear h hv HN
  go_enter Tryz.func192,Tryz.ntmps192
  go_wp2_with first
    | (go_at_call 107;refine (X2 H0.out).mono ?_;rintro en w1 ⟨rfl,hx1⟩;have HX1:=q8 hx1;clear hx1)
    | (go_at_call 215;refine (HN'.out _ hsm).mono ?_;rintro en w' ⟨rfl,rfl⟩)
    | (go_at_call 110;refine (x6 _ (H0.out.new HX1.out)).mono ?_;rintro en w2 ⟨rfl,hx2,hr2⟩
       have HX2:Hid (q9 (· = c.rb) (w.alloc (.cells #[.int .i64 0,.string ⟨#[]⟩,.int .i64 0,.slice none 0 0] 115)) w2):=(HX1.out.mono (fun _ _ f=>f.elim)).trans hx2
       have kb:w2.heap[w.heap.size]?=some (.cells #[.int .i64 0,.string ⟨#[]⟩,.int .i64 0,.slice none 0 0] 115):=(HX2.out.block _ (z8 (heap_alloc_new w _)) hrn).trans (heap_alloc_new w _)
       have z0:=z6 kb 0
       have z1:=z6 kb 1
       have z2:=z6 kb 2
       have z3:=z6 kb 3
       have y0:=Q0 kb 0
       have y1:=Q0 kb 1
       have y2:=Q0 kb 2
       have y3:=Q0 kb 3
       have HR2:=q8 hr2
       clear hx2 hr2)
  refine bodyPost_ret (v:=.tuple #[.agg #[.int .i64 0,.string ⟨#[]⟩,.int .i64 0,.slice none 0 0],.bool false]) (by simp [results,Tryz.results192,go_sem,z0,z1,z2,z3]) rfl ?_
  exact V6 HX0.out HX2.out HR2.out (Z5 _ _ _ _ _ _) hrb htb hsb HNV.out
set_option maxRecDepth 100000 in
set_option maxHeartbeats 400000 in
theorem zH6 {w:World} {c:W9} {t:Tk} {ts:List Tk} {d pl er v:Int} (k:Int) (h:PR w c (t :: ts) d pl er) (hv:numOf t.txt.toList=some v) (hg:v < -1000\/1000 < v) :
    Calls Tryz.prog 192 #[.pointer (some ⟨c.rb,0,none⟩),.int .i64 k] w (X5 w c d pl er (.no 5 t.pos)):=by
  have F0:=zg5
  have F2:=zj2
  have hrb:=h.rbs
  have hrn:¬w.heap.size=c.rb:=by omega
  have htb:=h.tbs
  have hsb:=h.sbs
  have HNV:=q8 h.nvs
  have HX0:Hid (q9 (fun _=>False) w (w.alloc (.cells #[.int .i64 0,.string ⟨#[]⟩,.int .i64 0,.slice none 0 0] 115))):=(q9.refl _ w).alloc _
  have H0:=q8 (h.new HX0.out)
  have hsm:t.txt.size<=maxLen:=by have:=h.sm;unfold maxLen;omega
  have HN:=zp6 t.txt
  rw [hv] at HN
  have HN':=q8 HN
  have hw:=zm8 v (-1000) 1000
  have hwf:decide (-1000<=v/\v<=1000)=false:=by simp;omega
  rw [hwf] at hw
  have HW:=q8 hw
  clear h hv HN hw hwf hg F0
  go_enter Tryz.func192,Tryz.ntmps192
  go_wp2_with first
    | (go_at_call 107;refine (X2 H0.out).mono ?_;rintro en w1 ⟨rfl,hx1⟩;have HX1:=q8 hx1;clear hx1)
    | (go_at_call 215;refine (HN'.out _ hsm).mono ?_;rintro en w' ⟨rfl,rfl⟩)
    | (go_at_call 68;refine (HW.out _).mono ?_;rintro en w' ⟨rfl,rfl⟩)
    | (go_at_call 110;refine (x6 _ (H0.out.new HX1.out)).mono ?_;rintro en w2 ⟨rfl,hx2,hr2⟩
       have HX2:Hid (q9 (· = c.rb) (w.alloc (.cells #[.int .i64 0,.string ⟨#[]⟩,.int .i64 0,.slice none 0 0] 115)) w2):=(HX1.out.mono (fun _ _ f=>f.elim)).trans hx2
       have kb:w2.heap[w.heap.size]?=some (.cells #[.int .i64 0,.string ⟨#[]⟩,.int .i64 0,.slice none 0 0] 115):=(HX2.out.block _ (z8 (heap_alloc_new w _)) hrn).trans (heap_alloc_new w _)
       have z0:=z6 kb 0
       have z1:=z6 kb 1
       have z2:=z6 kb 2
       have z3:=z6 kb 3
       have y0:=Q0 kb 0
       have y1:=Q0 kb 1
       have y2:=Q0 kb 2
       have y3:=Q0 kb 3
       clear kb
       have HR2:=q8 hr2
       clear hx2 hr2)
  refine bodyPost_ret (v:=.tuple #[.agg #[.int .i64 0,.string ⟨#[]⟩,.int .i64 0,.slice none 0 0],.bool false]) (by simp [results,Tryz.results192,go_sem,z0,z1,z2,z3]) rfl ?_
  exact V6 HX0.out HX2.out HR2.out (Z5 _ _ _ _ _ _) hrb htb hsb HNV.out
set_option maxRecDepth 100000 in
set_option maxHeartbeats 400000 in
theorem zZ9 {w:World} {c:W9} {t:Tk} {ts:List Tk} {d pl er v:Int} (k:Int) (h:PR w c (t :: ts) d pl er) (hv:numOf t.txt.toList=some v) (hg1 : -1000<=v) (hg2:v<=1000) :
    Calls Tryz.prog 192 #[.pointer (some ⟨c.rb,0,none⟩),.int .i64 k] w (X5 w c d pl er (.ok (.mk k ByteArray.empty v []) ts)):=by
  have F0:=zg5
  have F2:=zj2
  have hrb:=h.rbs
  have hrn:¬w.heap.size=c.rb:=by omega
  have htb:=h.tbs
  have hsb:=h.sbs
  have HNV:=q8 h.nvs
  have HX0:Hid (q9 (fun _=>False) w (w.alloc (.cells #[.int .i64 0,.string ⟨#[]⟩,.int .i64 0,.slice none 0 0] 115))):=(q9.refl _ w).alloc _
  have H0:=q8 (h.new HX0.out)
  have hsm:t.txt.size<=maxLen:=by have:=h.sm;unfold maxLen;omega
  have HNE:Hid (t.txt.toList ≠ []):=by
    have:=(qQ6 hv).2.2
    intro e;rw [e] at this;exact absurd this (by decide)
  have HN:=zp6 t.txt
  rw [hv] at HN
  have HN':=q8 HN
  have hw:=zm8 v (-1000) 1000
  have hwf:decide (-1000<=v/\v<=1000)=true:=by simp;omega
  rw [hwf] at hw
  have HW:=q8 hw
  clear h hv HN hw hwf F0
  go_enter Tryz.func192,Tryz.ntmps192
  go_wp2_with first
    | (go_at_call 107;refine (X2 H0.out).mono ?_;rintro en w1 ⟨rfl,hx1⟩;have HX1:=q8 hx1;clear hx1)
    | (go_at_call 215;refine (HN'.out _ hsm).mono ?_;rintro en w' ⟨rfl,rfl⟩)
    | (go_at_call 68;refine (HW.out _).mono ?_;rintro en w' ⟨rfl,rfl⟩)
    | (go_at_call 109;refine (zp2 (H0.out.new HX1.out) HNE.out).mono ?_;rintro en w2 ⟨rfl,hx2,hr2⟩
       have HX2:Hid (q9 (· = c.rb) (w.alloc (.cells #[.int .i64 0,.string ⟨#[]⟩,.int .i64 0,.slice none 0 0] 115)) w2):=(HX1.out.mono (fun _ _ f=>f.elim)).trans hx2
       have kb:w2.heap[w.heap.size]?=some (.cells #[.int .i64 0,.string ⟨#[]⟩,.int .i64 0,.slice none 0 0] 115):=(HX2.out.block _ (z8 (heap_alloc_new w _)) hrn).trans (heap_alloc_new w _)
       have z0:=z6 kb 0
       have z1:=z6 kb 1
       have z2:=z6 kb 2
       have z3:=z6 kb 3
       have y0:=Q0 kb 0
       have y1:=Q0 kb 1
       have y2:=Q0 kb 2
       have y3:=Q0 kb 3
       clear kb
       have HR2:=q8 hr2
       clear hx2 hr2)
  refine bodyPost_ret (v:=.tuple #[.agg #[.int .i64 k,.string ⟨#[]⟩,.int .i64 v,.slice none 0 0],.bool true]) (by simp [results,Tryz.results192,go_sem,z0,z1,z2,z3]) rfl ?_
  exact zc8 HX0.out HX2.out HR2.out (PN.leaf k v ByteArray.empty) (Z5 _ _ _ _ _ _) hrb htb hsb HNV.out
theorem qa0 {w:World} {c:W9} {t:Tk} {ts:List Tk} {d pl er:Int} (k:Int) (h:PR w c (t :: ts) d pl er) :
  Calls Tryz.prog 192 #[.pointer (some ⟨c.rb,0,none⟩),.int .i64 k] w (X5 w c d pl er (W7 k (t :: ts))):=by
 cases hv:numOf t.txt.toList with
 | none =>
  have e:W7 k (t :: ts)=.no 2 t.pos:=by simp only [W7,hv]
  rw [e];exact zZ8 k h hv
 | some v =>
  by_cases hg:v < -1000\/1000 < v
  ·have e:W7 k (t :: ts)=.no 5 t.pos:=by simp only [W7,hv,if_pos hg]
   rw [e];exact zH6 k h hv hg
  ·have e:W7 k (t :: ts)=.ok (.mk k ByteArray.empty v []) ts:=by simp only [W7,hv,if_neg hg]
   rw [e];exact zZ9 k h hv (by omega) (by omega)
set_option maxRecDepth 100000 in
set_option maxHeartbeats 400000 in
theorem zF2 {w:World} {c:W9} {t:Tk} {ts:List Tk} {d pl er:Int} (h:PR w c (t :: ts) d pl er) :
  Calls Tryz.prog 186 #[.pointer (some ⟨c.rb,0,none⟩)] w (X5 w c d pl er (W7 5 (t :: ts))):=by
 have F0:=zg5
 have F2:=zj2
 have hrb:=h.rbs
 have hrn:¬w.heap.size=c.rb:=by omega
 have htb:=h.tbs
 have hsb:=h.sbs
 have HNV:=q8 h.nvs
 have HX0:Hid (q9 (fun _=>False) w (w.alloc (.cells #[.int .i64 0,.string ⟨#[]⟩,.int .i64 0,.slice none 0 0] 115))):=(q9.refl _ w).alloc _
 have H0:=q8 (h.new HX0.out)
 have HP:=q8 (qa0 5 H0.out)
 clear h F0 F2
 cases hr:W7 5 (t :: ts) with
 | no e p =>
  rw [hr] at HP
  go_enter Tryz.func186,Tryz.ntmps186
  go_wp2_with fail
  refine HP.out.mono ?_
  rintro en w2 ⟨hx2,rfl,ts',d',hr2⟩
  have HX2:Hid (q9 (· = c.rb) (w.alloc (.cells #[.int .i64 0,.string ⟨#[]⟩,.int .i64 0,.slice none 0 0] 115)) w2):=hx2
  have kb:w2.heap[w.heap.size]?=some (.cells #[.int .i64 0,.string ⟨#[]⟩,.int .i64 0,.slice none 0 0] 115):=(HX2.out.block _ (z8 (heap_alloc_new w _)) hrn).trans (heap_alloc_new w _)
  have z0:=z6 kb 0
  have z1:=z6 kb 1
  have z2:=z6 kb 2
  have z3:=z6 kb 3
  have y0:=Q0 kb 0
  have y1:=Q0 kb 1
  have y2:=Q0 kb 2
  have y3:=Q0 kb 3
  clear kb
  clear hx2
  go_wp2_with fail
  refine bodyPost_ret (v:=.tuple #[.agg #[.int .i64 0,.string ⟨#[]⟩,.int .i64 0,.slice none 0 0],.bool false]) (by simp [results,Tryz.results186,go_sem,z0,z1,z2,z3]) rfl ?_
  exact V6 HX0.out HX2.out hr2 (Z5 _ _ _ _ _ _) hrb htb hsb HNV.out
 | ok nd ts' =>
  rw [hr] at HP
  go_enter Tryz.func186,Tryz.ntmps186
  go_wp2_with fail
  refine HP.out.mono ?_
  rintro en w2 ⟨hx2,k,wd,v,sa,sn,sc,rfl,hn,hr2⟩
  have HX2:Hid (q9 (· = c.rb) (w.alloc (.cells #[.int .i64 0,.string ⟨#[]⟩,.int .i64 0,.slice none 0 0] 115)) w2):=hx2
  have kb:w2.heap[w.heap.size]?=some (.cells #[.int .i64 0,.string ⟨#[]⟩,.int .i64 0,.slice none 0 0] 115):=(HX2.out.block _ (z8 (heap_alloc_new w _)) hrn).trans (heap_alloc_new w _)
  have z0:=z6 kb 0
  have z1:=z6 kb 1
  have z2:=z6 kb 2
  have z3:=z6 kb 3
  have y0:=Q0 kb 0
  have y1:=Q0 kb 1
  have y2:=Q0 kb 2
  have y3:=Q0 kb 3
  clear kb
  clear hx2
  go_wp2_with fail
  refine bodyPost_ret (v:=.tuple #[.agg #[.int .i64 k,.string wd,.int .i64 v,.slice sa sn sc],.bool true]) (by simp [results,Tryz.results186,go_sem,z0,z1,z2,z3]) rfl ?_
  exact zc8 HX0.out HX2.out hr2 (hn.mono (fun k _ hk=>by have h1:(w.alloc _).heap.size<=k:=hk;simp at h1;omega)) (Z5 _ _ _ _ _ _) hrb htb hsb HNV.out
theorem zU9 (N:List Nm) (x:Nm):K9 (N++[x])=K9 N++[.string x.name,.int .i64 x.ar]:=by simp [K9]
theorem zp3 (N:List Nm):(K9 N).length=N.length * 2:=by
 induction N with
 | nil=>rfl
 | cons a b ih=>simp only [K9,List.flatMap_cons,List.length_append] at ih ⊢;simp at ih ⊢;omega
theorem qa1 {N:List Nm} {i:Nat} {x:Nm} (h:N[i]?=some x):(K9 N)[i * 2]?=some (.string x.name)/\(K9 N)[i * 2+1]?=some (.int .i64 x.ar):=by
 obtain ⟨hi,hx⟩:=List.getElem?_eq_some_iff.1 h
 have e:N.take i++x :: N.drop (i+1)=N:=by rw [<- hx,List.getElem_cons_drop,List.take_append_drop]
 have e2:K9 (N.take i++x :: N.drop (i+1))=K9 (N.take i)++([.string x.name,.int .i64 x.ar]++K9 (N.drop (i+1))):=by
  simp [K9]
 rw [e] at e2
 have hl:(K9 (N.take i)).length=i * 2:=by rw [zp3,List.length_take];congr 1;omega
 rw [e2]
 constructor
 ·rw [List.getElem?_append_right (by rw [hl];omega),hl]
  have:i * 2 - i * 2=0:=by omega
  rw [this];rfl
 ·rw [List.getElem?_append_right (by rw [hl];omega),hl]
  have:i * 2+1 - i * 2=1:=by omega
  rw [this];rfl
theorem zH7 {w:World} {N:List Nm} {nv:Value} (hown:w.ownsRow 0 142 2 nv N.length (K9 N)):∃ a cap,nv=.slice a N.length cap/\(0 < N.length->∃ g,a=some ⟨g,0,none⟩/\g < w.heap.size/\∀ i x,N[i]?=some x->w.cell? ⟨g,i * 2,none⟩=some (.string x.name)/\w.cell? ⟨g,i * 2+1,none⟩=some (.int .i64 x.ar)):=by
 rcases hown.2 with ⟨e,e0⟩ | ⟨g,cap,cur,hv,hg,hh,hr⟩
 ·exact ⟨none,0,by rw [e,e0],fun h0=>by omega⟩
 ·refine ⟨some ⟨g,0,none⟩,cap,hv,fun _=>⟨g,rfl,z8 hh,?_⟩⟩
  intro i x hx
  have hi:=(List.getElem?_eq_some_iff.1 hx).1
  have hc:∀ j,j < N.length * 2->w.cell? ⟨g,j,none⟩=(K9 N)[j]?:=by
   intro j hj
   have h2:=hown
   rw [hv] at h2
   exact h2.cellAt j hj
  rw [hc _ (by omega),hc _ (by omega)]
  exact qa1 hx
def zc0 (N:List Nm) (s:ByteArray):Value :=
 match za0 N s.toList with
 | some a=>.tuple #[.agg #[.string s,.int .i64 a],.bool true]
 | none=>.tuple #[.agg #[.string ⟨#[]⟩,.int .i64 0],.bool false]
theorem qJ1 {N:List Nm} {l:List UInt8} {k:Nat} {x:Nm} (s:ByteArray) (hl:s.toList=l) (hn:(N.take k).find? (fun x=>x.name.toList == l)=none) (hx:N[k]?=some x) (he:(x.name.toList == l)=true):zc0 N s=.tuple #[.agg #[.string x.name,.int .i64 x.ar],.bool true]:=by
 have h1:=qQ5 hn hx he
 have h2:x.name=s:=zb0 ((beq_iff_eq.1 he).trans hl.symm)
 rw [zc0,hl,h1,h2]
set_option maxRecDepth 100000 in
set_option maxHeartbeats 400000 in
theorem qk1 {w:World} {sb:Nat} {N:List Nm} {nv:Value} (s:ByteArray) (hc:w.cell? ⟨sb,0,none⟩=some nv) (hown:w.ownsRow 0 142 2 nv N.length (K9 N)) (hfew:N.length<=20) (hsb:sb < w.heap.size) :
  Calls Tryz.prog 69 #[.pointer (some ⟨sb,0,none⟩),.string s] w fun e w'=>e=.returned (zc0 N s)/\q9 (fun _=>False) w w':=by
 obtain ⟨ar,cap,rfl,hsh⟩:=zH7 hown
 have HSH:=q8 hsh
 have hsn:¬sb=w.heap.size:=by omega
 clear hsh hown
 go_enter Tryz.func69,Tryz.ntmps69
 go_wp2_with fail
 go_loopw [13] (fun i wr=>∃ k:Nat,k<=N.length/\i=.int .i64 k/\(N.take k).find? (fun x=>x.name.toList == s.toList)=none/\q9 (fun _=>False) (w.alloc (.cells #[.string ⟨#[]⟩,.int .i64 0] 142)) wr) (fun i _=>N.length - (intOf i).toNat)
 case atStart=>exact ⟨0,Nat.zero_le _,rfl,rfl,q9.refl _ _⟩
 case round =>
  obtain ⟨k,hk,rfl,ha,hE⟩:=hrel
  have HA:=q8 ha
  have kb:wr.heap[w.heap.size]?=some (.cells #[.string ⟨#[]⟩,.int .i64 0] 142):=(hE.block _ (z8 (heap_alloc_new w _)) (fun f=>f)).trans (heap_alloc_new w _)
  have z0:=z6 kb 0
  have z1:=z6 kb 1
  have y0:=Q0 kb 0
  have y1:=Q0 kb 1
  have hlt0:w.heap.size < wr.heap.size:=z8 kb
  have HE:=q8 hE
  have HE0:Hid (q9 (fun _=>False) w wr):=((q9.refl _ w).alloc _).trans hE
  clear ha hE kb
  by_cases hlt:k < N.length
  ·obtain ⟨x,hx⟩:∃ x,N[k]?=some x:=⟨_,List.getElem?_eq_getElem hlt⟩
   obtain ⟨g,rfl,hgl,hcells⟩:=HSH.out (by omega)
   obtain ⟨e1,e2⟩:=hcells k x hx
   have e1':wr.cell? ⟨g,k * 2,none⟩=some (.string x.name):=(HE0.out.cell (p:=⟨g,k * 2,none⟩) hgl (fun f=>f)).trans e1
   have e2':wr.cell? ⟨g,k * 2+1,none⟩=some (.int .i64 x.ar):=(HE0.out.cell (p:=⟨g,k * 2+1,none⟩) hgl (fun f=>f)).trans e2
   have hgn:¬g=wr.heap.size:=by omega
   have hwn:¬w.heap.size=wr.heap.size:=by omega
   have HX:=q8 hx
   clear hx hcells e1 e2
   cases hq:(x.name.toList == s.toList) with
   | true =>
    go_wp2_with fail
    refine bodyPost_ret (v:=.tuple #[.agg #[.string x.name,.int .i64 x.ar],.bool true]) (by simp [results,Tryz.results69,go_sem,z0,z1,hlt0]) rfl ⟨by rw [qJ1 s rfl HA.out HX.out hq],?_⟩
    refine q9.alloc ?_ _
    exact ((HE0.out.setCell (p:=⟨w.heap.size,0,none⟩) (fun h=>absurd h (Nat.lt_irrefl _)) _).setCell (p:=⟨w.heap.size,1,none⟩) (fun h=>absurd h (Nat.lt_irrefl _)) _)
   | false =>
    go_wp2_with fail
    go_roundw
    case measure=>simp [intOf];omega
    case rel=>exact ⟨k+1,by omega,by go_num,qF5 HA.out HX.out hq,HE.out.alloc _⟩
  ·have hnone:zc0 N s=.tuple #[.agg #[.string ⟨#[]⟩,.int .i64 0],.bool false]:=by
    have h1:=HA.out
    rw [List.take_of_length_le (by omega)] at h1
    rw [zc0,qF4 h1]
   have HN:=q8 hnone
   clear hnone
   go_wp2_with fail
   refine bodyPost_ret (v:=.tuple #[.agg #[.string ⟨#[]⟩,.int .i64 0],.bool false]) (by simp [results,Tryz.results69,go_sem,z0,z1]) rfl ⟨by rw [HN.out],?_⟩
   exact ((HE0.out.setCell (p:=⟨w.heap.size,0,none⟩) (fun h=>absurd h (Nat.lt_irrefl _)) _).setCell (p:=⟨w.heap.size,1,none⟩) (fun h=>absurd h (Nat.lt_irrefl _)) _)
theorem qt0 (w:World) (h:Nat) (a b:Value):q9 (· = h) w ((w.setCell ⟨h,0,none⟩ a).setCell ⟨h,1,none⟩ b) :=
 ((q9.refl (· = h) w).setCell (p:=⟨h,0,none⟩) (fun _=>rfl) _).setCell (p:=⟨h,1,none⟩) (fun _=>rfl) _
def zb7 (N:List Nm) (l:List UInt8):Int:=if X4 l=false then 2 else if (za0 N l).isSome=false then 3 else 0
set_option maxRecDepth 100000 in
set_option maxHeartbeats 400000 in
theorem zu0 {w:World} {c:W9} {t:Tk} {ts:List Tk} {d pl er:Int} (h:PR w c (t :: ts) d pl er) (hk:¬zb7 c.N t.txt.toList=0) :
    Calls Tryz.prog 212 #[.pointer (some ⟨c.rb,0,none⟩)] w fun en w'=>en=.returned (.tuple #[.agg #[.string ⟨#[]⟩,.int .i64 0],.bool false])/\q9 (· = c.rb) w w'/\PR w' c (t :: ts) d t.pos (zb7 c.N t.txt.toList):=by
  have F2:=zj2
  have hrb:=h.rbs
  have hrn:¬w.heap.size=c.rb:=by omega
  have htb:=h.tbs
  have hsb:=h.sbs
  have HNV:=q8 h.nvs
  have HX0:Hid (q9 (fun _=>False) w (w.alloc (.cells #[.string ⟨#[]⟩,.int .i64 0] 142))):=(q9.refl _ w).alloc _
  have H0:=q8 (h.new HX0.out)
  have hsm:t.txt.size<=maxLen:=by have:=h.sm;unfold maxLen;omega
  have hfin:∀ (w2:World) (e:Int),q9 (· = c.rb) (w.alloc (.cells #[.string ⟨#[]⟩,.int .i64 0] 142)) w2->PR w2 c (t :: ts) d t.pos e->∀ a b,q9 (· = c.rb) w ((w2.setCell ⟨w.heap.size,0,none⟩ a).setCell ⟨w.heap.size,1,none⟩ b)/\PR ((w2.setCell ⟨w.heap.size,0,none⟩ a).setCell ⟨w.heap.size,1,none⟩ b) c (t :: ts) d t.pos e:=by
    intro w2 e hx hr a b
    have h2:=qt0 w2 w.heap.size a b
    refine ⟨((HX0.out.mono (fun _ _ f=>f.elim)).trans hx).trans' h2 (fun i hi e=>by have h1:i=w.heap.size:=e;omega),?_⟩
    exact hr.ext h2 (by show ¬c.rb=w.heap.size;omega) (by show ¬c.tb=w.heap.size;omega) (by show ¬c.sb=w.heap.size;omega) (fun g hg e=>by have h1:g=w.heap.size:=e;have:=HNV.out g hg;omega) (by show ¬0=w.heap.size;have:=hr.hdn;omega)
  have HFIN:=q8 hfin
  have HIS:=gIs t.txt
  clear h hfin
  cases hn:X4 t.txt.toList with
  | false =>
    rw [hn] at HIS
    have HIS':=q8 HIS
    rw [zb7,if_pos hn]
    clear hk hn HIS
    go_enter Tryz.func212,Tryz.ntmps212
    go_wp2_with first
      | (go_at_call 107;refine (X2 H0.out).mono ?_;rintro en w1 ⟨rfl,hx1⟩;have HX1:=q8 hx1;clear hx1)
      | (go_at_call 67;refine (HIS'.out _ hsm).mono ?_;rintro en w' ⟨rfl,rfl⟩)
      | (go_at_call 110;refine (x6 _ (H0.out.new HX1.out)).mono ?_;rintro en w2 ⟨rfl,hx2,hr2⟩
         have HX2:Hid (q9 (· = c.rb) (w.alloc (.cells #[.string ⟨#[]⟩,.int .i64 0] 142)) w2):=(HX1.out.mono (fun _ _ f=>f.elim)).trans hx2
         have kb:w2.heap[w.heap.size]?=some (.cells #[.string ⟨#[]⟩,.int .i64 0] 142):=(HX2.out.block _ (z8 (heap_alloc_new w _)) hrn).trans (heap_alloc_new w _)
         have z0:=z6 kb 0
         have z1:=z6 kb 1
         have y0:=Q0 kb 0
         have y1:=Q0 kb 1
         have HR2:=q8 hr2
         clear hx2 hr2 kb)
    refine bodyPost_ret (v:=.tuple #[.agg #[.string ⟨#[]⟩,.int .i64 0],.bool false]) (by simp [results,Tryz.results212,go_sem,z0,z1]) rfl ⟨rfl,?_⟩
    exact HFIN.out w2 2 HX2.out HR2.out _ _
  | true =>
    rw [hn] at HIS
    have HIS':=q8 HIS
    have hsome:(za0 c.N t.txt.toList).isSome=false:=by
      cases hq:(za0 c.N t.txt.toList).isSome with
      | false=>rfl
      | true=>exfalso;apply hk;rw [zb7,if_neg (by rw [hn];decide),if_neg (by rw [hq];decide)]
    rw [zb7,if_neg (by rw [hn];decide),if_pos hsome]
    have hfr:zc0 c.N t.txt=.tuple #[.agg #[.string ⟨#[]⟩,.int .i64 0],.bool false]:=by
      rw [zc0]
      cases ha:za0 c.N t.txt.toList with
      | none=>rfl
      | some a=>rw [ha] at hsome;exact absurd hsome (by simp)
    have HFR:=q8 hfr
    clear hk hn HIS hsome hfr
    go_enter Tryz.func212,Tryz.ntmps212
    go_wp2_with fail
    refine (X2 H0.out).mono ?_
    rintro en w1 ⟨rfl,hx1⟩
    have H1:=q8 (H0.out.new hx1)
    obtain ⟨o,cap,ht,hc,hb⟩:=H1.out.here
    have c1:=z6 hb 1
    have HX1:=q8 hx1
    have HFD:=qk1 t.txt H1.out.tbl H1.out.own H1.out.few H1.out.sbs
    rw [HFR.out] at HFD
    have HFD':=q8 HFD
    clear hx1 ht hc hb HFD
    go_wp2_with (go_at_call 67;refine (HIS'.out _ hsm).mono ?_;rintro en w' ⟨rfl,rfl⟩)
    refine HFD'.out.mono ?_
    rintro en w2 ⟨rfl,hx2⟩
    have HX2:=q8 hx2
    have hx3:q9 (fun _=>False) w2 (w2.alloc (.cells #[.string ⟨#[]⟩,.int .i64 0] 142)):=(q9.refl _ w2).alloc _
    have H3:=q8 ((H1.out.new hx2).new hx3)
    have HX3:Hid (q9 (fun _=>False) (w.alloc (.cells #[.string ⟨#[]⟩,.int .i64 0] 142)) (w2.alloc (.cells #[.string ⟨#[]⟩,.int .i64 0] 142))):=(HX1.out.trans hx2).trans hx3
    clear hx2 hx3
    go_wp2_with first
      | (go_at_call 110;refine (x6 _ H3.out).mono ?_;rintro en w4 ⟨rfl,hx4,hr4⟩
         have HX4:Hid (q9 (· = c.rb) (w.alloc (.cells #[.string ⟨#[]⟩,.int .i64 0] 142)) w4):=(HX3.out.mono (fun _ _ f=>f.elim)).trans hx4
         have kb:w4.heap[w.heap.size]?=some (.cells #[.string ⟨#[]⟩,.int .i64 0] 142):=(HX4.out.block _ (z8 (heap_alloc_new w _)) hrn).trans (heap_alloc_new w _)
         have z0:=z6 kb 0
         have z1:=z6 kb 1
         have y0:=Q0 kb 0
         have y1:=Q0 kb 1
         have HR4:=q8 hr4
         clear hx4 hr4 kb)
    refine bodyPost_ret (v:=.tuple #[.agg #[.string ⟨#[]⟩,.int .i64 0],.bool false]) (by simp [results,Tryz.results212,go_sem,z0,z1]) rfl ⟨rfl,?_⟩
    exact HFIN.out w4 3 HX4.out HR4.out _ _
set_option maxRecDepth 100000 in
set_option maxHeartbeats 400000 in
theorem zk2 {w:World} {c:W9} {t:Tk} {ts:List Tk} {d pl er a:Int} (h:PR w c (t :: ts) d pl er) (hn:X4 t.txt.toList=true) (ha:za0 c.N t.txt.toList=some a) :
  Calls Tryz.prog 212 #[.pointer (some ⟨c.rb,0,none⟩)] w fun en w'=>en=.returned (.tuple #[.agg #[.string t.txt,.int .i64 a],.bool true])/\q9 (fun _=>False) w w':=by
 have F2:=zj2
 have hrb:=h.rbs
 have HX0:Hid (q9 (fun _=>False) w (w.alloc (.cells #[.string ⟨#[]⟩,.int .i64 0] 142))):=(q9.refl _ w).alloc _
 have H0:=q8 (h.new HX0.out)
 have hsm:t.txt.size<=maxLen:=by have:=h.sm;unfold maxLen;omega
 have HIS:=gIs t.txt
 rw [hn] at HIS
 have HIS':=q8 HIS
 have hfr:zc0 c.N t.txt=.tuple #[.agg #[.string t.txt,.int .i64 a],.bool true]:=by rw [zc0,ha]
 have HFR:=q8 hfr
 clear h HIS hn ha hfr
 go_enter Tryz.func212,Tryz.ntmps212
 go_wp2_with fail
 refine (X2 H0.out).mono ?_
 rintro en w1 ⟨rfl,hx1⟩
 have H1:=q8 (H0.out.new hx1)
 obtain ⟨o,cap,ht,hc,hb⟩:=H1.out.here
 have c1:=z6 hb 1
 have HX1:=q8 hx1
 have HFD:=qk1 t.txt H1.out.tbl H1.out.own H1.out.few H1.out.sbs
 rw [HFR.out] at HFD
 have HFD':=q8 HFD
 clear hx1 ht hc hb HFD
 go_wp2_with (go_at_call 67;refine (HIS'.out _ hsm).mono ?_;rintro en w' ⟨rfl,rfl⟩)
 refine HFD'.out.mono ?_
 rintro en w2 ⟨rfl,hx2⟩
 have HX2:Hid (q9 (fun _=>False) (w.alloc (.cells #[.string ⟨#[]⟩,.int .i64 0] 142)) w2):=HX1.out.trans hx2
 have kb:w2.heap[w.heap.size]?=some (.cells #[.string ⟨#[]⟩,.int .i64 0] 142):=(HX2.out.block _ (z8 (heap_alloc_new w _)) (fun f=>f)).trans (heap_alloc_new w _)
 have z0:=z6 kb 0
 have z1:=z6 kb 1
 have y0:=Q0 kb 0
 have y1:=Q0 kb 1
 have hl2:=z8 kb
 have hl3:¬w.heap.size=w2.heap.size:=by omega
 clear hx2 kb
 go_wp2_with fail
 refine bodyPost_ret (v:=.tuple #[.agg #[.string t.txt,.int .i64 a],.bool true]) (by simp [results,Tryz.results212,go_sem,z0,z1,hl2]) rfl ⟨rfl,?_⟩
 refine q9.alloc ?_ _
 exact (HX0.out.trans HX2.out).trans' (qt0 w2 w.heap.size _ _) (fun i hi e=>by have h1:i=w.heap.size:=e;omega)
end Go.Proofs.YtegbdaffhpiacaaGreatDoor
