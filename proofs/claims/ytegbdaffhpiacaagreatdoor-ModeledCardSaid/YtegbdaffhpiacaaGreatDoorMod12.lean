/- A part of the proof. -/
import Derived.Test.YtegbdaffhpiacaaGreatDoorMod09
import Derived.Test.YtegbdaffhpiacaaGreatDoorMod10
import Derived.Test.YtegbdaffhpiacaaGreatDoorMod11
import Derived.Lib.Builder
import Derived.Lib.AppendStr
import Derived.Lib.UnsafeStr
import Derived.Laws.Externs
import Derived.Sort.Grow
set_option maxHeartbeats 400000
namespace Go.Proofs.YtegbdaffhpiacaaGreatDoor
open Tryz
open Go.RowKit Ar
theorem tok_word{w:World}(k v:Int)(wd:ByteArray)(sa:Option Addr)(sn sc:Nat)(h4:(k==4)=false)(h5:(k==5)=false):
  Calls prog 156 #[.agg #[.int .i64 k,.string wd,.int .i64 v,.slice sa sn sc]] w fun e w'=>e=.returned (.string wd)/\q9 (fun _=>False) w w':=by
 have hx:q9 (fun _=>False) w (w.alloc (.cells #[.int .i64 k,.string wd,.int .i64 v,.slice sa sn sc] 115)):=(q9.refl _ w).alloc _;have HX:=q8 hx;clear hx;go_enter func156,ntmps156;go_wp2_with fail;go_ret;exact⟨rfl,HX.out⟩
theorem qN1{kids:List (List Value)}(hl:∀ cs∈kids,cs.length=4):∀ {j:Nat} {cs:List Value} {q:Nat} {u:Value},kids[j]?=some cs->cs[q]?=some u->kids.flatten[j*4+q]?=some u:=by
 induction kids with
 | nil=>intro j cs q u h;exact absurd h (by simp)
 | cons c kids ih=>
  intro j cs q u h hu;have hc:=hl c (List.mem_cons_self ..);cases j with
  | zero=>simp at h;subst h;have hq:=(List.getElem?_eq_some_iff.1 hu).1;rw[List.flatten_cons,List.getElem?_append_left (by omega)];simpa using hu
  | succ j=>rw[List.flatten_cons,List.getElem?_append_right (by omega),hc,show(j+1)*4+q-4=j*4+q from by omega];exact ih (fun x hx=>hl x (List.mem_cons_of_mem _ hx)) (by simpa using h) hu
theorem zR3{ps:List Nd}{j:Nat}{p:Nd}(h:ps[j]?=some p):Q9 (ps.take (j+1))=Q9 (ps.take j)++32::j9 p:=by rw[List.take_add_one,h,Option.toList_some,qa6]
theorem qn6(ps:List Nd)(j:Nat):(Q9 (ps.take j)).length<=(Q9 ps).length:=by
 induction ps generalizing j with
 | nil=>simp[Q9]
 | cons p ps ih=>
  cases j with
  | zero=>simp[Q9]
  | succ j=>have:=ih j;simp[Q9] at this ⊢;omega
theorem qN2(ps:List Nd):ps.length<=(Q9 ps).length:=by
 induction ps with
 | nil=>simp
 | cons p ps ih=>simp[Q9];omega
theorem q9.below{a w w':World}(h:q9 (fun _=>False) a w)(hb:Below a.heap.size w w'):q9 (fun _=>False) a w':=by refine⟨hb.os.trans h.os,hb.tape.trans h.tape,hb.output.trans h.output,Nat.le_trans h.size hb.size,fun k hk _=>?_⟩;exact(hb.block k hk).trans (h.block k hk (fun f=>f))
end Go.Proofs.YtegbdaffhpiacaaGreatDoor
