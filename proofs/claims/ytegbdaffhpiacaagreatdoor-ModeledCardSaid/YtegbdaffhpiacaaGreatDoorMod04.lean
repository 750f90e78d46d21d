/- A part of the proof. -/
import Derived.Test.YtegbdaffhpiacaaGreatDoorProg
import Derived.Test.YtegbdaffhpiacaaGreatDoorMod03
set_option maxHeartbeats 1000000
namespace Go.Proofs.YtegbdaffhpiacaaGreatDoor
open Tryz
open Go.RowKit Ar
theorem jl7(c:UInt8):((c.toNat:Int)==32 || (c.toNat:Int)==9 || (c.toNat:Int)==10)=zs1 c:=by
 have h:∀ (n:Nat) (k:Int),(n:Int)=k->n<256->((c.toNat:Int)==k)=(c==UInt8.ofNat n):=by
  intro n k hk hn;subst hk;rw[Bool.eq_iff_iff];simp only[beq_iff_eq];constructor
  ·intro e;apply UInt8.toNat_inj.1;rw[UInt8.toNat_ofNat'];omega
  ·intro e;rw[e,UInt8.toNat_ofNat'];omega
 unfold zs1;rw[h 32 32 rfl (by omega),h 9 9 rfl (by omega),h 10 10 rfl (by omega)]
 rfl
theorem qf3(c:UInt8)(w:World):
  Calls prog 142 #[.int .u8 c.toNat] w fun e w'=>e=.returned (.bool (zs1 c))/\w=w':=by
 rw[<- jl7];go_enter func142,ntmps142
 go_wp2
 all_goals
  go_ret;refine⟨?_,rfl⟩
  first
   | rfl
   | (apply ze8;simp_all;done)
theorem jm9(c:UInt8):((c.toNat:Int)==40 || (c.toNat:Int)==41)=zq8 c:=by
 have h:∀ (n:Nat) (k:Int),(n:Int)=k->n<256->((c.toNat:Int)==k)=(c==UInt8.ofNat n):=by
  intro n k hk hn;subst hk;rw[Bool.eq_iff_iff];simp only[beq_iff_eq];constructor
  ·intro e;apply UInt8.toNat_inj.1;rw[UInt8.toNat_ofNat'];omega
  ·intro e;rw[e,UInt8.toNat_ofNat'];omega
 unfold zq8;rw[h 40 40 rfl (by omega),h 41 41 rfl (by omega)]
 rfl
theorem qo8(c:UInt8)(w:World):
  Calls prog 184 #[.int .u8 c.toNat] w fun e w'=>e=.returned (.bool (zq8 c))/\w=w':=by
 rw[<- jm9];go_enter func184,ntmps184
 go_wp2
 all_goals
  go_ret;refine⟨?_,rfl⟩
  first
   | rfl
   | (apply ze8;simp_all;done)
theorem zp1(n lo hi:Int)(w:World):
  Calls prog 68 #[.int .i64 n,.int .i64 lo,.int .i64 hi] w fun e w'=>e=.returned (.bool (decide (lo<=n/\n<=hi)))/\w=w':=by
 by_cases h1:lo<=n
 ·go_enter func68,ntmps68
  go_wp2
  go_ret;exact⟨ze8 (by simp[h1]),rfl⟩
 ·go_enter func68,ntmps68
  go_wp2
  go_ret;exact⟨ze8 (by simp;omega),rfl⟩
theorem qf4(n lo hi:Int)(w:World):
  Calls prog 141 #[.int .u8 n,.int .u8 lo,.int .u8 hi] w fun e w'=>e=.returned (.bool (decide (lo<=n/\n<=hi)))/\w=w':=by
 by_cases h1:lo<=n
 ·go_enter func141,ntmps141
  go_wp2
  go_ret;exact⟨ze8 (by simp[h1]),rfl⟩
 ·go_enter func141,ntmps141
  go_wp2
  go_ret;exact⟨ze8 (by simp;omega),rfl⟩
def inB(lo hi:Int)(c:UInt8):Bool:=decide (lo<=(c.toNat:Int)/\(c.toNat:Int)<=hi)
theorem zK2(s:ByteArray)(lo hi:Int)(w:World)(hs:s.size<=maxLen):
  Calls prog 102 #[.string s,.int .u8 lo,.int .u8 hi] w fun e w'=>e=.returned (.bool (s.toList.all (inB lo hi)))/\w=w':=by
 unfold maxLen at hs;go_enter func102,ntmps102;go_wp2_with fail
 go_loop [10] (fun i=>∃ k:Nat,k<=s.size/\i=.int .i64 k/\(s.toList.take k).all (inB lo hi)=true) (fun i=>s.size-(intOf i).toNat)
 case atStart=>exact⟨0,Nat.zero_le _,rfl,rfl⟩
 case round=>
  obtain⟨k,hk,rfl,ha⟩:=hrel;have HA:=q8 ha;clear ha;by_cases hlt:k<s.size
  ·have hw:=qf4 s[k].toNat lo hi;cases hq:inB lo hi s[k] with
   | true=>
    have HW:Hid (∀ w,Calls prog 141 #[.int .u8 s[k].toNat,.int .u8 lo,.int .u8 hi] w fun e w'=>e=.returned (.bool true)/\w=w'):=by intro w;have h1:=hw w;rw[show decide (lo<=(s[k].toNat:Int)/\(s[k].toNat:Int)<=hi)=true from hq] at h1;exact h1
    have HQ:=q8 hq;clear hw hq;go_wp2_with (go_at_call 141;refine(HW.out _).mono ?_;rintro e w' ⟨rfl,rfl⟩);exact⟨⟨k+1,by omega,by go_num,zR9 s _ k hlt HA.out HQ.out⟩,by simp[intOf];omega⟩
   | false=>
    have HW:Hid (∀ w,Calls prog 141 #[.int .u8 s[k].toNat,.int .u8 lo,.int .u8 hi] w fun e w'=>e=.returned (.bool false)/\w=w'):=by intro w;have h1:=hw w;rw[show decide (lo<=(s[k].toNat:Int)/\(s[k].toNat:Int)<=hi)=false from hq] at h1;exact h1
    have HQ:=q8 hq;clear hw hq;go_wp2_with (go_at_call 141;refine(HW.out _).mono ?_;rintro e w' ⟨rfl,rfl⟩);go_ret;exact⟨ze8 (zz8 s _ k hlt HQ.out).symm,rfl⟩
  ·go_wp2_with fail;go_ret;have h1:=HA.out;rw[zz7 s k (by omega)] at h1;exact⟨ze8 h1.symm,rfl⟩
theorem qf5(s:ByteArray)(w:World):
  Calls prog 103 #[.string s] w fun e w'=>e=.returned (.bool (zE1 s.toList))/\w=w':=by
 go_enter func103,ntmps103
 go_wp2
 all_goals
  go_ret;refine⟨ze8 ?_,rfl⟩
  simp_all[zE1,zn9,zh7,zk0,zl0,wOr,zo0,wLe]
theorem zK3(s:ByteArray):X6 s.toList=(decide (1<=(s.size:Int)/\(s.size:Int)<=8) && s.toList.all (inB 97 122) && !zE1 s.toList):=by
 unfold X6;have e1:s.toList.all zp6=s.toList.all (inB 97 122):=rfl;rw[e1,Z4];have e2:(decide (1<=s.size) && decide (s.size<=8))=decide (1<=(s.size:Int)/\(s.size:Int)<=8):=by rw[Bool.eq_iff_iff];simp;omega
 rw[e2];cases s.toList.all (inB 97 122)<;>cases zE1 s.toList<;>simp
theorem gIs(s:ByteArray)(w:World)(hs:s.size<=maxLen):
  Calls prog 67 #[.string s] w fun e w'=>e=.returned (.bool (X6 s.toList))/\w=w':=by
 have h1:=zp1 s.size 1 8;have h2:=zK2 s 97 122;have h3:=qf5 s;rw[zK3]
 generalize decide (1<=(s.size:Int)/\(s.size:Int)<=8)=b1 at *
 generalize s.toList.all (inB 97 122)=b2 at *
 generalize zE1 s.toList=b3 at *
 have H1:=q8 h1;have H2:=q8 h2;have H3:=q8 h3;have HS:=q8 hs;unfold maxLen at hs;clear h1 h2 h3;cases b1<;>cases b2<;>cases b3
 all_goals
  go_enter func67,ntmps67;go_wp2_with first
   | (go_at_call 68;refine(H1.out _).mono ?_;rintro e w' ⟨rfl,rfl⟩)
   | (go_at_call 102;refine(H2.out _ HS.out).mono ?_;rintro e w' ⟨rfl,rfl⟩)
   | (go_at_call 103;refine(H3.out _).mono ?_;rintro e w' ⟨rfl,rfl⟩)
  go_ret;exact⟨rfl,rfl⟩
theorem qV3(s:ByteArray)(k:Nat)(h:k<s.size):val (s.toList.take (k+1))=min (val (s.toList.take k)*10+((s[k].toNat:Int)-48)) 1001:=by rw[zl1 s k h,val,List.foldl_append];rfl
theorem qV4(l:List UInt8)(h:l.all zq5=true):0<=val l/\val l<=1001:=by
 unfold val;have key:∀ (l:List UInt8) (v:Int),l.all zq5=true->0<=v->v<=1001->0<=l.foldl (fun v c=>min (v*10+((c.toNat:Int)-48)) 1001) v/\l.foldl (fun v c=>min (v*10+((c.toNat:Int)-48)) 1001) v<=1001:=by
  intro l
  induction l with
  | nil=>intro v _ h0 h1;exact⟨h0,h1⟩
  | cons c r ih=>intro v hd h0 h1;simp only[List.all_cons,Bool.and_eq_true] at hd;obtain⟨hc,hr⟩:=hd;simp[zq5] at hc;exact ih _ hr (by show 0<=min (v*10+((c.toNat:Int)-48)) 1001;omega) (by show min (v*10+((c.toNat:Int)-48)) 1001<=1001;omega)
 exact key l 0 h (by omega) (by omega)
theorem qb0(s:ByteArray)(h:0<s.size):s.toList.head?=some s[0]:=by
 have e:=zl1 s 0 h;rw[List.take_zero,List.nil_append] at e;cases hl:s.toList with
 | nil=>have:=Z4 s;rw[hl] at this;simp at this;omega
 | cons c r=>rw[hl] at e;simpa using e
theorem zo5{c:UInt8}{n:Nat}(hn:n<256)(h:(c.toNat:Int)=n):c=UInt8.ofNat n:=by apply UInt8.toNat_inj.1;rw[UInt8.toNat_ofNat'];omega
theorem zP0{l:List UInt8}(h:numOf l=none):Ending.returned (.tuple #[.int .i64 0,.bool false])=.returned (.tuple #[.int .i64 ((numOf l).getD 0),.bool (numOf l).isSome]):=by rw[h];rfl
theorem zB7{l:List UInt8}{v:Int}(h:numOf l=some v):Ending.returned (.tuple #[.int .i64 v,.bool true])=.returned (.tuple #[.int .i64 ((numOf l).getD 0),.bool (numOf l).isSome]):=by rw[h];rfl
theorem z6{w:World}{b:Nat}{cs:Array Value}{t:TypeId}(h:w.heap[b]?=some (.cells cs t))(o:Nat):w.cell? ⟨b,o,none⟩=cs[o]?:=by simp[World.cell?,h]
theorem Q8{w:World}{b:Nat}{cs:Array Value}{t:TypeId}(h:w.heap[b]?=some (.cells cs t))(o:Nat):w.frozen? ⟨b,o,none⟩=false:=by simp[World.frozen?,h]
theorem Y4{w:World}{b:Nat}{cs:Array Value}{t:TypeId}(h:w.heap[b]?=some (.cells cs t))(o:Nat)(v:Value):(w.setCell ⟨b,o,none⟩ v).heap[b]?=some (.cells (cs.setIfInBounds o v) t):=by simp[World.setCell,Array.getElem?_modify,h]
theorem qV5{N:List Nm}{l:List UInt8}{k:Nat}{x:Nm}(hn:(N.take k).find? (fun x=>x.name.toList==l)=none)(hx:N[k]?=some x)(he:(x.name.toList==l)=true):za8 N l=some x.ar:=by
 obtain⟨hk,hg⟩:=List.getElem?_eq_some_iff.1 hx;have e:N.take k++x::N.drop (k+1)=N:=by rw[<- hg,List.getElem_cons_drop,List.take_append_drop]
 have e2:(N.take k++x::N.drop (k+1)).find? (fun x=>x.name.toList==l)=some x:=by rw[List.find?_append,hn];simp[he]
 rw[e] at e2;simp[za8,e2]
theorem qK3{N:List Nm}{l:List UInt8}(hn:N.find? (fun x=>x.name.toList==l)=none):za8 N l=none:=by simp[za8,hn]
theorem qK4{N:List Nm}{l:List UInt8}{k:Nat}{x:Nm}(hn:(N.take k).find? (fun x=>x.name.toList==l)=none)(hx:N[k]?=some x)(he:(x.name.toList==l)=false):(N.take (k+1)).find? (fun x=>x.name.toList==l)=none:=by obtain⟨hk,rfl⟩:=List.getElem?_eq_some_iff.1 hx;rw[List.take_succ_eq_append_getElem hk,List.find?_append,hn];simp[he]
theorem qV6{l:List UInt8}{v:Int}(h:numOf l=some v):(l==[40])=false/\(l==[41])=false/\l.isEmpty=false:=by
 have e1:numOf [40]=none:=by decide
 have e2:numOf [41]=none:=by decide
 have e3:numOf []=none:=by decide
 refine⟨?_,?_,?_⟩
 ·cases hq:(l==[40]) with
  | false=>rfl
  | true=>rw[beq_iff_eq.1 hq,e1] at h;exact absurd h (by simp)
 ·cases hq:(l==[41]) with
  | false=>rfl
  | true=>rw[beq_iff_eq.1 hq,e2] at h;exact absurd h (by simp)
 ·cases l with
  | nil=>rw[e3] at h;exact absurd h (by simp)
  | cons=>rfl
theorem zW1{l:List UInt8}(h:X6 l=true):(l==[40])=false/\(l==[41])=false/\l.isEmpty=false:=by
 refine⟨?_,?_,?_⟩
 ·cases hq:(l==[40]) with
  | false=>rfl
  | true=>rw[beq_iff_eq.1 hq] at h;exact absurd h (by decide)
 ·cases hq:(l==[41]) with
  | false=>rfl
  | true=>rw[beq_iff_eq.1 hq] at h;exact absurd h (by decide)
 ·cases l with
  | nil=>exact absurd h (by decide)
  | cons=>rfl
def zB8(N:List Nm)(b:Bool)(l:List UInt8):Int :=
 if X6 l=false then 2 else if (za8 N l).getD (-1)<0 then 3 else if (decide (0<(za8 N l).getD (-1))==b)=false then 4 else 0
theorem js3(s:ByteArray)(h:0<s.size):(s.extract 0 1).toList=[s[0]]:=by
 rw[Lib.extract_toList,<- ByteArray.toList_eq];have h3:=qb0 s h;cases hl:s.toList with
 | nil=>rw[hl] at h3;exact absurd h3 (by simp)
 | cons c r=>rw[hl] at h3;simp at h3;simp[h3]
theorem zK4(s:ByteArray):(s.extract 1 s.size).toList=s.toList.tail:=by rw[Lib.extract_toList,<- ByteArray.toList_eq,List.take_of_length_le (by rw[List.length_drop,Z4];omega)];cases s.toList<;>rfl
theorem qD7(s:ByteArray)(w:World)(hs:s.size<=maxLen):
  Calls prog 221 #[.string s,.string ⟨#[45]⟩] w fun e w'=>∃ X:ByteArray,e=.returned (.tuple #[.string X,.bool (decide (s.toList.head?=some 45))])/\X.toList=l8 s.toList/\X.size<=s.size/\w=w':=by
 unfold maxLen at hs;have g1:(ByteArray.mk #[45]).size=1:=rfl;by_cases h0:0<s.size
 ·have h3:=qb0 s h0;cases hq:(s[0]==45) with
  | true=>
   have e0:s[0]=45:=beq_iff_eq.1 hq;have hx:((s.extract 0 1).toList==[45])=true:=by rw[js3 s h0,e0];rfl
   have HD:Hid (decide (s.toList.head?=some 45)=true):=by show _=_;rw[h3,e0];rfl
   have HU:Hid (l8 s.toList=s.toList.tail):=by show _=_;rw[l8,if_pos (by rw[h3,e0])]
   clear h3 hq e0;go_enter func221,ntmps221
   go_wp2
   go_ret2
   rw[HD.out,HU.out];exact⟨s.extract 1 s.size,rfl,zK4 s,by rw[<- Z4,zK4 s,List.length_tail,Z4];omega,rfl⟩
  | false=>
   have e0:¬s[0]=45:=by simpa using hq
   have hx:((s.extract 0 1).toList==[45])=false:=by
    rw[js3 s h0];cases h:([s[0]]==[45]) with
    | false=>rfl
    | true=>exact absurd (by simpa using h) e0
   have hne:¬s.toList.head?=some 45:=by rw[h3];simpa using e0
   have HD:Hid (decide (s.toList.head?=some 45)=false):=by show _=_;simpa using hne
   have HU:Hid (l8 s.toList=s.toList):=by show _=_;rw[l8,if_neg hne]
   clear h3 hq e0 hne;go_enter func221,ntmps221
   go_wp2
   go_ret2
   rw[HD.out,HU.out];exact⟨s,rfl,rfl,Nat.le_refl _,rfl⟩
 ·have hl:s.toList=[]:=List.eq_nil_of_length_eq_zero (by rw[Z4];omega);have HD:Hid (decide (s.toList.head?=some 45)=false):=by show _=_;rw[hl];rfl
  have HU:Hid (l8 s.toList=s.toList):=by show _=_;rw[hl];rfl
  clear hl;go_enter func221,ntmps221
  go_wp2
  go_ret2
  rw[HD.out,HU.out];exact⟨s,rfl,rfl,Nat.le_refl _,rfl⟩
theorem qO7(s:ByteArray)(w:World)(hs:s.size<=maxLen)(hd:s.toList.all zq5=true):
  Calls prog 222 #[.string s] w fun e w'=>e=.returned (.int .i64 (val s.toList))/\w=w':=by
 unfold maxLen at hs;have HD:=q8 hd;clear hd;go_enter func222,ntmps222;go_wp2_with fail
 go_loop [3,7] (fun n i=>∃ k:Nat,k<=s.size/\i=.int .i64 k/\n=.int .i64 (val (s.toList.take k))) (fun _ i=>s.size-(intOf i).toNat)
 case atStart=>exact⟨0,Nat.zero_le _,rfl,rfl⟩
 case round=>
  obtain⟨k,hk,rfl,rfl⟩:=hrel;have hall:(s.toList.take k).all zq5=true:=by
   cases hq:(s.toList.take k).all zq5 with
   | true=>rfl
   | false=>have:=zl2 hq;rw[HD.out] at this;exact absurd this (by decide)
  have hb:=qV4 _ hall;clear hall;by_cases hlt:k<s.size
  ·have HV:Hid (val (s.toList.take (k+1))=min (val (s.toList.take k)*10+((s[k].toNat:Int)-48)) 1001):=qV3 s k hlt;have hdk:48<=(s[k].toNat:Int)/\(s[k].toNat:Int)<=57:=by
    cases hq:zq5 s[k] with
    | true=>simpa[zq5] using hq
    | false=>have:=zz8 s zq5 k hlt hq;rw[HD.out] at this;exact absurd this (by decide)
   obtain⟨hd1,hd2⟩:=hdk;go_wp2_with fail;refine⟨⟨k+1,by omega,by go_num,congrArg (Value.int .i64) ?_⟩,by simp[intOf];omega⟩;rw[HV.out];split<;>omega
  ·go_wp2_with fail;go_ret;rw[zz7 s k (by omega)];exact⟨rfl,rfl⟩
theorem zr6(s:ByteArray)(w:World)(hs:s.size<=maxLen):
  Calls prog 215 #[.string s] w fun e w'=>e=.returned (.tuple #[.int .i64 ((numOf s.toList).getD 0),.bool (numOf s.toList).isSome])/\w=w':=by
 obtain⟨m,hm⟩:∃ m,decide (s.toList.head?=some 45)=m:=⟨_,rfl⟩;have HC:Hid (∀ w,Calls prog 221 #[.string s,.string ⟨#[45]⟩] w fun e w'=>∃ X:ByteArray,e=.returned (.tuple #[.string X,.bool m])/\X.toList=l8 s.toList/\X.size<=s.size/\w=w'):=by intro w;have:=qD7 s w hs;rw[hm] at this;exact this
 have HN:Hid (numOf s.toList=if l8 s.toList=[]\/(l8 s.toList).all zq5=false\/((l8 s.toList).head?=some 48/\s.toList≠[48]) then none else some (if m=true then-val (l8 s.toList) else val (l8 s.toList))):=by show _=_;rw[numOf,<- hm];simp
 have HM:=q8 hm;have HS:=q8 hs;unfold maxLen at hs;clear hm;go_enter func215,ntmps215;go_wp2_with fail;refine(HC.out _).mono ?_;rintro e w' ⟨X,rfl,hX,hXs,rfl⟩;rw[<- hX] at HN;have HX:=q8 hX;clear hX HC;have hXm:X.size<=maxLen:=Nat.le_trans hXs HS.out;have HA:=q8 (zK2 X 48 57);cases hem:X.toList.isEmpty with
 | true=>
  go_wp2_with fail
  go_ret2
  refine⟨zP0 ?_,rfl⟩;rw[HN.out,if_pos (Or.inl (by simpa using hem))]
 | false=>
  have hpos:0<X.size:=by
   cases h:X.size with
   | zero=>have:=Z4 X;rw[h] at this;rw[List.eq_nil_of_length_eq_zero this] at hem;exact absurd hem (by decide)
   | succ=>omega
  cases hall:X.toList.all zq5 with
  | false=>
   have HA2:Hid (∀ w,Calls prog 102 #[.string X,.int .u8 48,.int .u8 57] w fun e w'=>e=.returned (.bool false)/\w=w'):=by intro w;have h1:=HA.out w hXm;rw[show X.toList.all (inB 48 57)=false from hall] at h1;exact h1
   have HALL:=q8 hall;clear hall HA;go_wp2_with (go_at_call 102;refine(HA2.out _).mono ?_;rintro e w' ⟨rfl,rfl⟩)
   go_ret2
   refine⟨zP0 ?_,rfl⟩;rw[HN.out,if_pos (Or.inr (Or.inl HALL.out))]
  | true=>
   have HA2:Hid (∀ w,Calls prog 102 #[.string X,.int .u8 48,.int .u8 57] w fun e w'=>e=.returned (.bool true)/\w=w'):=by intro w;have h1:=HA.out w hXm;rw[show X.toList.all (inB 48 57)=true from hall] at h1;exact h1
   have HALL:=q8 hall;have HH:=q8 (qb0 X hpos);have hb:=qV4 X.toList hall;have HVO:=q8 (fun w=>qO7 X w hXm hall);clear hall HA;have fin:(¬(X.toList.head?=some 48/\s.toList≠[48]))->numOf s.toList=some (if m=true then-val X.toList else val X.toList):=by
    intro hn;rw[HN.out,if_neg];rintro(e|e|e)
    ·rw[e] at hem;exact absurd hem (by decide)
    ·rw[HALL.out] at e;exact absurd e (by decide)
    ·exact hn e
   have FIN:=q8 fin;clear fin;cases h48:((X[0].toNat:Int)==48) with
   | true=>
    have HEQ:Hid (X.toList.head?=some 48):=by show _=_;rw[HH.out,zo5 (c:=X[0]) (n:=48) (by omega) (by simpa using h48)];rfl
    cases hw:(s.toList==[48]) with
    | false=>
     go_wp2_with (go_at_call 102;refine(HA2.out _).mono ?_;rintro e w' ⟨rfl,rfl⟩)
     go_ret2
     refine⟨zP0 ?_,rfl⟩;rw[HN.out,if_pos (Or.inr (Or.inr ⟨HEQ.out,by simpa using hw⟩))]
    | true=>
     have HF:=q8 (FIN.out (fun h=>h.2 (beq_iff_eq.1 hw)));cases m with
     | true=>
      go_wp2_with first
       | (go_at_call 102;refine(HA2.out _).mono ?_;rintro e w' ⟨rfl,rfl⟩)
       | (go_at_call 222;refine(HVO.out _).mono ?_;rintro e w' ⟨rfl,rfl⟩)
      go_ret2
      exact⟨zB7 HF.out,rfl⟩
     | false=>
      go_wp2_with first
       | (go_at_call 102;refine(HA2.out _).mono ?_;rintro e w' ⟨rfl,rfl⟩)
       | (go_at_call 222;refine(HVO.out _).mono ?_;rintro e w' ⟨rfl,rfl⟩)
      go_ret2
      exact⟨zB7 HF.out,rfl⟩
   | false=>
    have HF:=q8 (FIN.out (fun h=>by have h1:=h.1;rw[HH.out] at h1;rw[Option.some.inj h1] at h48;exact absurd h48 (by decide)));cases m with
    | true=>
     go_wp2_with first
      | (go_at_call 102;refine(HA2.out _).mono ?_;rintro e w' ⟨rfl,rfl⟩)
      | (go_at_call 222;refine(HVO.out _).mono ?_;rintro e w' ⟨rfl,rfl⟩)
     go_ret2
     exact⟨zB7 HF.out,rfl⟩
    | false=>
     go_wp2_with first
      | (go_at_call 102;refine(HA2.out _).mono ?_;rintro e w' ⟨rfl,rfl⟩)
      | (go_at_call 222;refine(HVO.out _).mono ?_;rintro e w' ⟨rfl,rfl⟩)
     go_ret2
     exact⟨zB7 HF.out,rfl⟩
end Go.Proofs.YtegbdaffhpiacaaGreatDoor
