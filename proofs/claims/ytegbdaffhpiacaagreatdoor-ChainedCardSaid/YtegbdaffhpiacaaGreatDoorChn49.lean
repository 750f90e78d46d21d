/- The statements without the document's answer: a number's digits; Plain: numbers in a ring; The statement Chained: the call. -/
import Derived.Test.YtegbdaffhpiacaaGreatDoorChn47
import Derived.Test.YtegbdaffhpiacaaGreatDoorChn48
namespace Go.Proofs.YtegbdaffhpiacaaGreatDoor
open Go.RowKit Go.Maps Ar
def digs:ByteArray:=⟨#[48,49,50,51,52,53,54,55,56,57]⟩
theorem digs_all:((List.range 10).all fun n=>(digs.extract n (n+1)).data.toList == [dig n])=true:=by decide +kernel
theorem digs_ext {n:Nat} (h:n < 10):(digs.extract n (n+1)).toList=[dig n]:=by
 have:=List.all_eq_true.1 digs_all n (List.mem_range.2 h)
 rw [ByteArray.toList_eq]
 simpa using this
theorem app_toList (a b:ByteArray):(a++b).toList=a.toList++b.toList:=by
 rw [ByteArray.toList_eq,ByteArray.toList_eq,ByteArray.toList_eq,ByteArray.toList_data_append]
set_option maxRecDepth 100000 in
set_option maxHeartbeats 400000 in
theorem decimal_nat (f:Nat):∀ (n:Nat) (w:World),n < 10 ^ (f+1)->f<=3->Calls Tryz.prog 22 #[.int .i64 n] w fun e w'=>∃ s:ByteArray,e=.returned (.string s)/\s.toList=itoaN f n/\Ext (fun _=>False) w w':=by
 induction f with
 | zero =>
  intro n w hn _
  have HX:=hide (Ext.refl (fun _=>False) w)
  have hn':n < 10:=by simpa using hn
  have h0:¬(n:Int) < 0:=by omega
  have h10:(n:Int) < 10:=by omega
  go_enter Tryz.func22,Tryz.ntmps22
  go_wp2_with fail
  go_ret
  exact ⟨digs.extract n (n+1),rfl,by rw [digs_ext hn',itoaN],HX.out⟩
 | succ f ih =>
  intro n w hn hf
  have h0:¬(n:Int) < 0:=by omega
  have hb:n < 10000:=by
   have:10 ^ (f+1+1)<=10 ^ 4:=Nat.pow_le_pow_right (by omega) (by omega)
   omega
  by_cases hs:n < 10
  ·have HX:=hide (Ext.refl (fun _=>False) w)
   have h10:(n:Int) < 10:=by omega
   clear ih
   go_enter Tryz.func22,Tryz.ntmps22
   go_wp2_with fail
   go_ret
   exact ⟨digs.extract n (n+1),rfl,by rw [digs_ext hs,itoaN,if_pos hs],HX.out⟩
  ·have h10:¬(n:Int) < 10:=by omega
   have HI:=hide (ih (n / 10) w.drew (by rw [Nat.pow_succ] at hn;omega) (by omega))
   obtain ⟨q,hq0⟩:∃ q,n / 10=q:=⟨_,rfl⟩
   obtain ⟨r,hr0⟩:∃ r,n % 10=r:=⟨_,rfl⟩
   have hq:(n:Int) / 10=(q:Int):=by omega
   have hr:(n:Int) % 10=(r:Int):=by omega
   have hq2:(n:Int).tdiv 10=(q:Int):=by rw [Int.tdiv_eq_ediv_of_nonneg (by omega),hq]
   have hr2:(n:Int).tmod 10=(r:Int):=by rw [Int.tmod_eq_emod_of_nonneg (by omega),hr]
   have hr10:r < 10:=by omega
   have hc1:(0:Int)<=(r:Int)+1:=by omega
   have hc2:(r:Int)+1<=10:=by omega
   have hc3:(r:Int)<=(r:Int)+1:=by omega
   have hwq:IntKind.i64.wrap (q:Int)=q:=by rw [IntKind.wrap_i64];omega
   have hwr:IntKind.i64.wrap ((r:Int)+1)=(r:Int)+1:=by rw [IntKind.wrap_i64];omega
   rw [hq0] at HI
   have HQ0:=hide hq0
   have HR0:=hide hr0
   clear ih hq0 hr0
   go_enter Tryz.func22,Tryz.ntmps22
   go_wp2_with fail
   go_region_law (go_simp;go_wp2_with (go_at_call 22;with_reducible refine HI.out.mono ?_;rintro e w1 ⟨s,rfl,hsl,hx⟩;have hsz:s.size<=5:=(by rw [<- len_toList,hsl];have:=itoaN_len f q;omega);have hlim:¬9223372036854775807 < s.size+(min (r+1) 10 - r):=(by omega);have HSL:=hide hsl;have HX1:=hide hx;clear hsl hx))
   all_goals
    go_wp2_with fail
    go_ret
    refine ⟨s++digs.extract r (r+1),rfl,?_,((Ext.refl _ w).drew).trans HX1.out⟩
    rw [app_toList,HSL.out,digs_ext hr10,itoaN,if_neg hs,HQ0.out,HR0.out]
theorem decimal_any (v:Int) (w:World) (h1 : -1000<=v) (h2:v<=1000):Calls Tryz.prog 22 #[.int .i64 v] w fun e w'=>∃ s:ByteArray,e=.returned (.string s)/\s.toList=itoa v/\Ext (fun _=>False) w w':=by
 by_cases h0:v < 0
 ·obtain ⟨n,hn⟩:∃ n:Nat,-v=n:=⟨(-v).toNat,by omega⟩
  have HI:=hide (decimal_nat 3 n w (by omega) (by omega))
  rw [<- hn] at HI
  have HN:=hide hn
  clear hn
  go_enter Tryz.func22,Tryz.ntmps22
  go_wp2_with fail
  refine HI.out.mono ?_
  rintro e w1 ⟨s,rfl,hsl,hx⟩
  have hsz:s.size<=5:=by rw [<- len_toList,hsl];have:=itoaN_len 3 n;omega
  have HSL:=hide hsl
  have HX1:=hide hx
  clear hsl hx HI
  go_wp2_with fail
  go_ret
  refine ⟨(⟨#[45]⟩:ByteArray)++s,rfl,?_,HX1.out⟩
  rw [app_toList,HSL.out,itoa,if_pos h0,HN.out]
  simp [ByteArray.toList_eq]
 ·obtain ⟨n,rfl⟩:∃ n:Nat,v=n:=⟨v.toNat,by omega⟩
  refine (decimal_nat 3 n w (by omega) (by omega)).mono ?_
  rintro e w1 ⟨s,rfl,hsl,hx⟩
  exact ⟨s,rfl,by rw [hsl,itoa,if_neg h0];rfl,hx⟩
end Go.Proofs.YtegbdaffhpiacaaGreatDoor

namespace Go.Proofs.YtegbdaffhpiacaaGreatDoor
open Ar
def lets:ByteArray:=⟨#[98,99,100,101,102,103,104,105,106,107,108,109]⟩
def chB (i:Nat):ByteArray:=(⟨#[97]⟩:ByteArray)++lets.extract i (i+1)
def kLe:ByteArray:=⟨#[108,101]⟩
theorem lets_all:((List.range 12).all fun i=>(lets.extract i (i+1)).data.toList == [UInt8.ofNat (98+i)])=true:=by decide +kernel
theorem lets_ext {i:Nat} (h:i < 12):(lets.extract i (i+1)).toList=[UInt8.ofNat (98+i)]:=by
 have:=List.all_eq_true.1 lets_all i (List.mem_range.2 h)
 rw [ByteArray.toList_eq]
 simpa using this
theorem chB_list {i:Nat} (h:i < 12):(chB i).toList=[97,UInt8.ofNat (98+i)]:=by
 rw [chB,app_toList,lets_ext h]
 simp [ByteArray.toList_eq]
def nmsC (n:Nat):List Nm:=nms5++(List.range n).map (fun i=>⟨chB i,0,0⟩)
theorem nmsC_zero:nmsC 0=nms5:=by simp [nmsC]
theorem nmsC_succ (n:Nat):nmsC (n+1)=nmsC n++[⟨chB n,0,0⟩]:=by simp [nmsC,List.range_succ]
theorem codeC_all:((List.range 12).all fun i=>declCode (nmsC i) (chB i).toList 0 == 0)=true:=by decide +kernel
theorem codeC {i:Nat} (h:i < 12):declCode (nmsC i) (chB i).toList 0=0:=by
 have:=List.all_eq_true.1 codeC_all i (List.mem_range.2 h)
 simpa using this
theorem namesC {i:Nat} (h:i < 12):declNames (nmsC i) 0 (chB i) 0=nmsC (i+1):=by
 rw [declNames,if_pos (codeC h),nmsC_succ]
theorem arC_all:((List.range 13).all fun n=>(List.range n).all fun i=>arOf (nmsC n) (chB i).toList == some 0 && isName (chB i).toList)=true:=by decide +kernel
theorem arC {n i:Nat} (hn:n<=12) (h:i < n):arOf (nmsC n) (chB i).toList=some 0/\isName (chB i).toList=true:=by
 have h1:=List.all_eq_true.1 arC_all n (List.mem_range.2 (by omega))
 have h2:=List.all_eq_true.1 h1 i (List.mem_range.2 h)
 simpa using h2
def nmN (i:Nat):Nd:=.mk 3 (chB i) 0 []
def leN (i k:Nat) (c:Int):Nd:=.mk 2 kLe 0 [nmN i,nmN k,.mk 5 ByteArray.empty c []]
theorem kLe_w:kLe.toList=wLe:=by rw [ByteArray.toList_eq];rfl
theorem leN_rf {n i k:Nat} {c:Int} (hn:n<=12) (hi:i < n) (hk:k < n) (h1 : -1000<=c) (h2:c<=1000):RF (nmsC n) 0 (leN i k c) :=
 .le (by rw [kLe_w];rfl) (by omega) (.name (arC hn hi).2 (arC hn hi).1) (.name (arC hn hk).2 (arC hn hk).1) h1 h2
def leB (i k:Nat) (s:ByteArray):ByteArray:=(⟨#[40,108,101,32,97]⟩:ByteArray)++lets.extract i (i+1)++(⟨#[32,97]⟩:ByteArray)++lets.extract k (k+1)++(⟨#[32]⟩:ByteArray)++s++(⟨#[41]⟩:ByteArray)
theorem leB_form {i k:Nat} {c:Int} {s:ByteArray} (hi:i < 12) (hk:k < 12) (hs:s.toList=itoa c):(leB i k s).toList=formOf (leN i k c):=by
 have e0:(⟨#[40,108,101,32,97]⟩:ByteArray).toList=[40,108,101,32,97]:=by rw [ByteArray.toList_eq]
 have e1:(⟨#[32,97]⟩:ByteArray).toList=[32,97]:=by rw [ByteArray.toList_eq]
 have e2:(⟨#[32]⟩:ByteArray).toList=[32]:=by rw [ByteArray.toList_eq]
 have e3:(⟨#[41]⟩:ByteArray).toList=[41]:=by rw [ByteArray.toList_eq]
 rw [leB]
 simp only [app_toList]
 rw [e0,e1,e2,e3,hs,lets_ext hi,lets_ext hk,leN,form_atom,formsOf,formsOf,formsOf,formsOf,form_bound,nmN,nmN,form_name,form_name,chB_list hi,chB_list hk,kLe_w]
 simp [wLe]
theorem leB_size {i k:Nat} {s:ByteArray} (hi:i < 12) (hk:k < 12) (hs:s.size<=5):(leB i k s).size<=600:=by
 have h1:(lets.extract i (i+1)).size=1:=by rw [<- len_toList,lets_ext hi];rfl
 have h2:(lets.extract k (k+1)).size=1:=by rw [<- len_toList,lets_ext hk];rfl
 rw [leB]
 simp only [ByteArray.size_append,h1,h2]
 show 5+1+2+1+1+s.size+1<=600
 omega
def CF (n:Nat) (f:Nd):Prop:=∃ i k c,i < n/\k < n/\f=leN i k c
theorem nm_subs (t:Bool) (i:Nat):subs t (nmN i)=if t then [nmN i] else []:=by
 cases t
 ·rw [nmN,subs,if_neg (by simp [isIt]),subsAll];rfl
 ·rw [nmN,subs,if_pos (by simp [isIt]),subsAll];rfl
theorem le_terms (i k:Nat) (c:Int):subs true (leN i k c)=[nmN i,nmN k]:=by
 unfold leN
 simp [subs,subsAll,isIt,nm_subs]
theorem le_atoms (i k:Nat) (c:Int):subs false (leN i k c)=[leN i k c]:=by
 unfold leN
 simp [subs,subsAll,isIt,nm_subs]
theorem cntC_terms {n:Nat} {Q:List Nd} {nd:Nd} (h:∀ f∈Q++[nd],CF n f):cnt true Q nd<=n:=by
 have:=addAll_few (subsAll true (Q++[nd])) ((List.range n).map (fun i=>formOf (nmN i))) (fun x hx=>by
  obtain ⟨f,hf,hx⟩:=mem_subsAll.1 hx
  obtain ⟨i,k,c,hi,hk,rfl⟩:=h f hf
  rw [le_terms] at hx
  simp at hx
  rcases hx with rfl | rfl
  ·exact List.mem_map.2 ⟨i,List.mem_range.2 hi,rfl⟩
  ·exact List.mem_map.2 ⟨k,List.mem_range.2 hk,rfl⟩)
 simpa [cnt] using this
theorem atomsC_len {n:Nat}:∀ (Q:List Nd),(∀ f∈Q,CF n f)->(subsAll false Q).length=Q.length
 | [],_=>rfl
 | f :: Q,h=>by
  obtain ⟨i,k,c,_,_,rfl⟩:=h f (by simp)
  rw [subsAll,List.length_append,le_atoms,atomsC_len Q (fun g hg=>h g (by simp [hg]))]
  simp
  omega
theorem cntC_atoms {n:Nat} {Q:List Nd} {nd:Nd} (h:∀ f∈Q++[nd],CF n f):cnt false Q nd<=Q.length+1:=by
 have h1:=addAll_few (subsAll false (Q++[nd])) ((subsAll false (Q++[nd])).map formOf) (fun x hx=>List.mem_map.2 ⟨x,hx,rfl⟩)
 rw [List.length_map,atomsC_len _ h] at h1
 simpa [cnt] using h1
theorem as_cf {n i k:Nat} {c:Int} {Q:List Nd} {s:ByteArray} (hn:n<=12) (hi:i < n) (hk:k < n) (h1 : -1000<=c) (h2:c<=1000) (hs:s.toList=itoa c) (hsz:s.size<=5) (hQ:Q.length<=11) (h:∀ f∈Q,CF n f):asOut (nmsC n) Q (leB i k s)=(0,0,some (leN i k c)):=by
 have hall:∀ f∈Q++[leN i k c],CF n f:=by
  intro f hf
  rcases List.mem_append.1 hf with hf | hf
  ·exact h f hf
  ·rw [List.mem_singleton.1 hf];exact ⟨i,k,c,hi,hk,rfl⟩
 obtain ⟨us,e⟩:=read_back (leN_rf hn hi hk h1 h2)
 rw [<- leB_form (by omega) (by omega) hs] at e
 have c1:=cntC_terms hall
 have c2:=cntC_atoms hall
 have c3:=leB_size (s:=s) (i:=i) (k:=k) (by omega) (by omega) hsz
 unfold asOut
 rw [if_neg (by omega),e]
 simp only
 rw [if_neg (by omega),if_neg (by omega),if_neg (by omega)]
def sumN (c:Nat->Int):Nat->Int
 | 0=>0
 | n+1=>sumN c n+c n
theorem ftr_le (I:Itp) (i k:Nat) (c:Int):ftr (atomB (tval I)) (leN i k c)=decide (I (chB i).toList []<=I (chB k).toList []+c):=by
 rw [leN,ftr,if_pos rfl,atomB,relB,kLe_w,if_neg (by decide),if_neg (by decide),if_neg (by decide),nmN,nmN,tval,if_neg (by decide),tvals,tval,if_neg (by decide),tvals]
 rfl
def ring (n:Nat) (c:Nat->Int) (j:Nat):List Nd:=(List.range j).map (fun i=>leN i ((i+1) % n) (c i))
theorem ring_sat (n:Nat) (c:Nat->Int) (hn:n<=12):Sat (ring n c n)↔0<=sumN c n:=by
 cases n with
 | zero=>exact ⟨fun _=>Int.le_refl _,fun _=>⟨fun _ _=>0,fun f hf=>by simp [ring] at hf⟩⟩
 | succ m =>
  constructor
  ·rintro ⟨I,h⟩
   have hle:∀ i,i < m+1->I (chB i).toList []<=I (chB ((i+1) % (m+1))).toList []+c i:=by
    intro i hi
    have:=h (leN i ((i+1) % (m+1)) (c i)) (List.mem_map.2 ⟨i,List.mem_range.2 hi,rfl⟩)
    rw [ftr_le] at this
    exact of_decide_eq_true this
   have hch:∀ k,k<=m->I (chB 0).toList []<=I (chB k).toList []+sumN c k:=by
    intro k
    induction k with
    | zero=>intro _;simp [sumN]
    | succ k ih =>
     intro hk
     have h1:=ih (by omega)
     have h2:=hle k (by omega)
     rw [Nat.mod_eq_of_lt (by omega)] at h2
     rw [sumN]
     omega
   have h1:=hch m (Nat.le_refl _)
   have h2:=hle m (by omega)
   rw [Nat.mod_self] at h2
   rw [sumN]
   omega
  ·intro hs
   obtain ⟨I,hI⟩:∃ I:Itp,I=fun w _=>match w with
    | [_,b] => -(sumN c (b.toNat - 98))
    | _=>0:=⟨_,rfl⟩
   have hv:∀ i,i < 12->I (chB i).toList [] = -(sumN c i):=by
    intro i hi
    rw [chB_list hi,hI]
    simp only
    have:(UInt8.ofNat (98+i)).toNat=98+i:=by simp;omega
    rw [this,show 98+i - 98=i by omega]
   refine ⟨I,fun f hf=>?_⟩
   obtain ⟨i,hi,rfl⟩:=List.mem_map.1 hf
   have hi:=List.mem_range.1 hi
   rw [ftr_le,hv i (by omega)]
   refine decide_eq_true ?_
   by_cases him:i=m
   ·subst him
    rw [Nat.mod_self,hv 0 (by omega)]
    rw [sumN] at hs
    simp [sumN]
    omega
   ·rw [Nat.mod_eq_of_lt (by omega),hv (i+1) (by omega),sumN]
    omega
end Go.Proofs.YtegbdaffhpiacaaGreatDoor

namespace Go.Proofs.YtegbdaffhpiacaaGreatDoor
open Go.RowKit Go.Maps Ar
def Gaps (w:World) (ga:Option Addr) (n:Nat) (g:Nat->Int):Prop:=∀ i,i < n->∃ b off,ga=some ⟨b,off,none⟩/\b < w.heap.size/\w.cell? ⟨b,off+i,none⟩=some (.int .i64 (g i)) /\ -9223372036854775808<=g i/\g i<=9223372036854775807
def gapC (g:Nat->Int) (i:Nat):Int:=pickI (g i) 2001 - 1000
theorem gapC_in (g:Nat->Int) (i:Nat) : -1000<=gapC g i/\gapC g i<=1000:=by
 have:=pickI_in (g i) 2001 (by omega)
 unfold gapC
 omega
theorem itoa_len5 (v:Int):(itoa v).length<=5:=by
 unfold itoa
 split
 ·have:=itoaN_len 3 (-v).toNat;simp;omega
 ·have:=itoaN_len 3 v.toNat;omega
theorem ring_fst (n:Nat) (c:Nat->Int) (j:Nat) (z:Int):((ring n c j).map (fun f=>(f,z))).map Prod.fst=ring n c j:=by
 rw [List.map_map]
 exact List.map_id _
theorem ring_len (n:Nat) (c:Nat->Int) (j:Nat):(ring n c j).length=j:=by simp [ring]
theorem ring_cf (n:Nat) (c:Nat->Int) (j:Nat) (hj:j<=n):∀ f∈ring n c j,CF n f:=by
 intro f hf
 obtain ⟨i,hi,rfl⟩:=List.mem_map.1 hf
 have hi:=List.mem_range.1 hi
 exact ⟨i,(i+1) % n,c i,by omega,Nat.mod_lt _ (by omega),rfl⟩
theorem ring_next {n:Nat} {c:Nat->Int} {j k:Nat} {v z:Int} (hk:(j+1) % n=k) (hv:c j=v):(ring n c (j+1)).map (fun f=>(f,z))=(ring n c j).map (fun f=>(f,z))++[(leN j k v,z)]:=by
 simp [ring,List.range_succ,hk,hv]
theorem sum_in (g:Nat->Int):∀ j:Nat,-1000 * (j:Int)<=sumN (gapC g) j/\sumN (gapC g) j<=1000 * (j:Int)
 | 0=>by simp [sumN]
 | j+1=>by
  have h1:=sum_in g j
  have h2:=gapC_in g j
  rw [sumN]
  omega
set_option maxRecDepth 100000 in
set_option maxHeartbeats 1000000 in
theorem chained_any (w:World) (ga:Option Addr) (n cap:Nat) (g:Nat->Int) (hn:n<=maxLen) (hg:Gaps w ga n g) (hhd:HdLaid w) (hpt:PatLaid w) :
  Calls Tryz.prog 7 #[.slice ga n cap] w fun e w'=>e=.returned (.bool true)/\Ext (fun _=>False) w w':=by
 have HHD:=hide hhd
 have HPT:=hide hpt
 have HG:=hide hg
 have HC1:=hide (begun_keep w hhd hpt)
 clear hhd hpt hg
 unfold maxLen at hn
 go_enter Tryz.func7,Tryz.ntmps7
 go_wp2_with fail
 refine HC1.out.mono ?_
 rintro e w1 ⟨sb,rfl,h1⟩
 have H1:=hide h1
 clear h1 HC1
 obtain ⟨m,hm⟩:∃ m,min n 12=m:=⟨_,rfl⟩
 have hm12:m<=12:=by omega
 have HM:=hide hm
 have hmn:m<=n:=by omega
 by_cases h12:(12:Int) < (n:Int)
 rotate_left
 all_goals
  go_wp2_with fail
  first
   | rw [show Value.int .i64 12=Value.int .i64 (m:Int) by congr 1;omega]
   | rw [show Value.int .i64 (n:Int)=Value.int .i64 (m:Int) by congr 1;omega]
  clear hm
  go_loopw [6] (fun i wr=>∃ j:Nat,j<=m/\i=.int .i64 j/\KS w (fun _=>False) wr sb (nmsC j) [] 0) (fun i _=>m - (intOf i).toNat)
  case atStart=>exact ⟨0,Nat.zero_le _,rfl,by rw [nmsC_zero];exact H1.out⟩
  case round =>
   obtain ⟨j,hj,rfl,hS⟩:=hrel
   by_cases hlt:j < m
   ·have HC:Hid (Calls Tryz.prog 20 #[.pointer (some ⟨sb,0,none⟩),.string (chB j),.int .i64 0] wr fun e w'=>e=.returned (.int .i64 0)/\KP w (fun _=>False) wr sb (nmsC (j+1)) [] 0 w'):=by
     have:=k_declare hS (chB j) 0 (by rw [<- len_toList,chB_list (by omega)];show 2<=maxLen;unfold maxLen;omega)
     rw [codeC (by omega)] at this
     have e:=namesC (i:=j) (by omega)
     refine this.mono ?_
     rintro e' w' ⟨rfl,hp⟩
     refine ⟨rfl,?_⟩
     rw [<- e]
     exact hp
    have hc1:(0:Int)<=(j:Int)+1:=by omega
    have hc2:(j:Int)+1<=12:=by omega
    have hc3:(j:Int)<=(j:Int)+1:=by omega
    have hwj:IntKind.i64.wrap ((j:Int)+1)=(j:Int)+1:=by rw [IntKind.wrap_i64];omega
    have hlim:¬9223372036854775807 < 1+(min (j+1) 12 - j):=by omega
    clear hS
    go_wp2_with fail
    refine HC.out.mono ?_
    rintro e w3 ⟨rfl,hp3⟩
    have HP3:=hide hp3
    clear hp3
    go_wp2_with fail
    go_roundw
    case measure=>simp [intOf];omega
    case rel=>exact ⟨j+1,by omega,by go_num,HP3.out.1⟩
   ·have hge:¬(j:Int) < (m:Int):=by omega
    have hS2:KS w (fun _=>False) wr sb (nmsC m) [] 0:=by
     have:j=m:=by omega
     rw [<- this]
     exact hS
    have HS2:=hide hS2
    clear hS hS2
    go_wp2_with fail
    go_loopw [5,8] (fun vs vi wr=>∃ j:Nat,j<=m/\vi=.int .i64 j/\vs=.int .i64 (sumN (gapC g) j)/\KS w (fun _=>False) wr sb (nmsC m) ((ring m (gapC g) j).map (fun f=>(f,((0:Nat):Int)))) 0) (fun _ vi _=>m - (intOf vi).toNat)
    case atStart=>exact ⟨0,Nat.zero_le _,rfl,rfl,HS2.out⟩
    case round =>
     clear HS2
     obtain ⟨j2,hj2,rfl,rfl,hS⟩:=hrel
     have hsum:=sum_in g j2
     by_cases hlt2:j2 < m
     ·obtain ⟨b,off,rfl,hbl,hcell,hg1,hg2⟩:=HG.out j2 (by omega)
      have hc0:wr.cell? ⟨b,off+j2,none⟩=some (.int .i64 (g j2)):=(hS.1.cell (p:=⟨b,off+j2,none⟩) hbl (fun f=>f)).trans hcell
      have HS:=hide hS
      have hjn:j2 < n:=by omega
      clear hS hcell
      go_wp2_with fail
      refine (pick_any (g j2) 2001 ⟨hg1,hg2⟩ (by omega)).mono ?_
      rintro e w4 ⟨rfl,hx4⟩
      obtain ⟨cc,hcc⟩:∃ cc,pickI (g j2) 2001 - 1000=cc:=⟨_,rfl⟩
      have hcin:=gapC_in g j2
      unfold gapC at hcin
      rw [hcc] at hcin
      have HX4:=hide hx4
      have HCC:=hide hcc
      have hpk:pickI (g j2) 2001=cc+1000:=by omega
      obtain ⟨kk,hkk⟩:∃ kk,(j2+1) % m=kk:=⟨_,rfl⟩
      have hkm:kk < m:=by rw [<- hkk];exact Nat.mod_lt _ (by omega)
      have hkk2:((j2:Int)+1) % (m:Int)=(kk:Int):=by rw [<- hkk];exact (Int.natCast_emod (j2+1) m).symm
      have hkk3:((j2:Int)+1).tmod (m:Int)=(kk:Int):=by rw [Int.tmod_eq_emod_of_nonneg (by omega),hkk2]
      have hm0:((m:Int) == 0)=false:=by rw [beq_eq_false_iff_ne];omega
      have HKK:=hide hkk
      rw [hpk]
      clear hx4 hcc hpk hkk
      go_wp2_with fail
      have hDC:=decimal_any cc w4.drew (by omega) (by omega)
      have HDC:=hide hDC
      clear hDC
      have a1:(0:Int)<=(j2:Int)+1:=by omega
      have a2:(j2:Int)+1<=12:=by omega
      have a3:(j2:Int)<=(j2:Int)+1:=by omega
      have a4:IntKind.i64.wrap ((j2:Int)+1)=(j2:Int)+1:=by rw [IntKind.wrap_i64];omega
      have b1:(0:Int)<=(kk:Int)+1:=by omega
      have b2:(kk:Int)+1<=12:=by omega
      have b3:(kk:Int)<=(kk:Int)+1:=by omega
      have b4:IntKind.i64.wrap ((kk:Int)+1)=(kk:Int)+1:=by rw [IntKind.wrap_i64];omega
      have l1:¬9223372036854775807 < 5+(min (j2+1) 12 - j2):=by omega
      have l2:¬9223372036854775807 < 5+(min (j2+1) 12 - j2)+2:=by omega
      have l3:¬9223372036854775807 < 5+(min (j2+1) 12 - j2)+2+(min (kk+1) 12 - kk):=by omega
      have l4:¬9223372036854775807 < 5+(min (j2+1) 12 - j2)+2+(min (kk+1) 12 - kk)+1:=by omega
      have HLD:Hid (∀ (W:World) (s:ByteArray),Ext (fun _=>False) w4 W->s.toList=itoa cc->s.size<=5->Calls Tryz.prog 15 #[.pointer (some ⟨sb,0,none⟩),.string (leB j2 kk s)] W fun e w'=>e=.returned (.int .i64 0)/\KP w (fun _=>False) W sb (nmsC m) ((ring m (gapC g) j2).map (fun f=>(f,((0:Nat):Int)))++[(leN j2 kk cc,((0:Nat):Int))]) 0 w'):=by
       intro W s hW hs hsz
       have hl:=ring_cf m (gapC g) j2 (by omega)
       refine laid_ok (HS.out.quiet (HX4.out.trans hW)) (by have:=leB_size (i:=j2) (k:=kk) (s:=s) (by omega) (by omega) hsz;unfold maxLen;omega) HHD.out ?_
       rw [ring_fst]
       exact as_cf hm12 hlt2 hkm (by omega) (by omega) hs hsz (by rw [ring_len];omega) hl
      go_region_law (go_simp;go_wp2_with (first | (go_at_call 22;refine HDC.out.mono ?_;rintro e w5 ⟨s,rfl,hsl,hx5⟩;have hsz:s.size<=5:=(by rw [<- len_toList,hsl];exact itoa_len5 cc);have l5:¬9223372036854775807 < 5+(min (j2+1) 12 - j2)+2+(min (kk+1) 12 - kk)+1+s.size:=(by omega);have l6:¬9223372036854775807 < 5+(min (j2+1) 12 - j2)+2+(min (kk+1) 12 - kk)+1+s.size+1:=(by omega);have HSL:=hide hsl;have HX5:Hid (Ext (fun _=>False) w4 w5):=((Ext.refl (fun _=>False) w4).drew).trans hx5;clear hsl hx5) | (go_at_call 15;refine (HLD.out w5 s HX5.out HSL.out hsz).mono ?_;rintro e w6 ⟨rfl,h6,_⟩;have H6:=hide h6;clear h6)))
      all_goals
       go_wp2_with fail
       go_roundw
       case measure=>simp [intOf];omega
       case rel =>
        have h6:=H6.out
        rw [<- ring_next (n:=m) (c:=gapC g) (j:=j2) HKK.out HCC.out] at h6
        refine ⟨j2+1,by omega,by go_num,?_,h6⟩
        rw [sumN,gapC,HCC.out]
     ·have hge2:¬(j2:Int) < (m:Int):=by omega
      have hjm:j2=m:=by omega
      rw [hjm] at hS
      have HCK:=hide (k_check hS HPT.out)
      have HJM:=hide hjm
      clear hS hjm
      go_wp2_with fail
      refine HCK.out.mono ?_
      rintro e w7 ⟨rr,rfl,hrr,h7,_⟩
      have hsat:rr=true↔0<=sumN (gapC g) j2:=by
       rw [HJM.out]
       rw [ring_fst] at hrr
       exact hrr.trans (ring_sat m (gapC g) hm12)
      have HX:=hide h7.1
      clear hrr h7 HCK
      by_cases hz:0<=sumN (gapC g) j2
      ·obtain rfl:rr=true:=hsat.2 hz
       clear hsat
       go_wp2_with fail
       go_ret
       exact ⟨by simp,HX.out⟩
      ·obtain rfl:rr=false:=by
        cases rr with
        | false=>rfl
        | true=>exact absurd (hsat.1 rfl) hz
       clear hsat
       go_wp2_with fail
       go_ret
       exact ⟨by simp;omega,HX.out⟩
end Go.Proofs.YtegbdaffhpiacaaGreatDoor
