/- The program's reader: any number of formulas behind a first word; the parts, whatever the first word asks; The program's reader: a formula in brackets; The program's reader: a formula in brackets that begins well; The program's reader: a formula, whatever comes. -/
import Derived.Test.YtegbdaffhpiacaaGreatDoorChn08
namespace Go.Proofs.YtegbdaffhpiacaaGreatDoor
open Go.RowKit Ar
set_option maxRecDepth 100000 in
set_option maxHeartbeats 400000 in
theorem p_parts_2 {w:World} {c:PCtx} {ts:List Tk} {d pl er:Int} (n:Nat) (F:List Tk->Rs Nd) (h:PR w c ts d pl er) (hn:ts.length<=n) (hfF:Fits F)
  (hf:∀ (w:World) (ts:List Tk),ts.length<=n->PR w c ts d pl er->Calls Tryz.prog 72 #[.pointer (some ⟨c.rb,0,none⟩)] w (PPost w c d pl er (F ts))) :
  Calls Tryz.prog 146 #[.pointer (some ⟨c.rb,0,none⟩),.int .i64 2] w (RowPost w c d pl er (rdUpTo n F ts)):=by
 have HCALL:=hide (p_upto n F h hn hfF hf)
 clear h hf hfF hn
 go_enter Tryz.func146,Tryz.ntmps146
 go_wp2_with fail
 refine HCALL.out.mono ?_
 clear HCALL
 rintro en w6 hp6
 cases hrr:rdUpTo n F ts with
 | no e p =>
  rw [hrr] at hp6
  obtain ⟨hx6,rfl,hr6⟩:=hp6
  have HX6:=hide hx6
  have HR6:=hide hr6
  have HRES:=hide hrr
  clear hx6 hr6 hrr
  go_wp2_with fail
  go_ret2
  rw [HRES.out]
  exact ⟨HX6.out,rfl,HR6.out⟩
 | ok ps ts' =>
  rw [hrr] at hp6
  obtain ⟨hx6,sa,sn,sc,kids,rfl,hr6⟩:=hp6
  have HX6:=hide hx6
  have HR6:=hide hr6
  have HRES:=hide hrr
  clear hx6 hr6 hrr
  go_wp2_with fail
  go_ret2
  rw [HRES.out]
  exact ⟨HX6.out,sa,sn,sc,kids,rfl,HR6.out⟩
theorem p_parts {w:World} {c:PCtx} {ts:List Tk} {d pl er:Int} (s:Int) (hs:s=0\/s=1\/s=2\/s=3\/s=4) (n:Nat) (F T:List Tk->Rs Nd) (h:PR w c ts d pl er) (hn:ts.length<=n) (hfF:Fits F) (hfT:Fits T)
  (hf:∀ (w:World) (ts:List Tk),ts.length<=n->PR w c ts d pl er->Calls Tryz.prog 72 #[.pointer (some ⟨c.rb,0,none⟩)] w (PPost w c d pl er (F ts)))
  (ht:∀ (w:World) (ts:List Tk),ts.length<=n->PR w c ts d pl er->Calls Tryz.prog 153 #[.pointer (some ⟨c.rb,0,none⟩)] w (PPost w c d pl er (T ts))) :
  Calls Tryz.prog 146 #[.pointer (some ⟨c.rb,0,none⟩),.int .i64 s] w (RowPost w c d pl er (rdParts s n F T (rdNum 5) ts)):=by
 rcases hs with rfl | rfl | rfl | rfl | rfl
 ·exact p_parts_0 n F T h hn hfF hfT hf ht
 ·exact p_parts_1 n F T h hn hfF hfT hf ht
 ·exact p_parts_2 n F h hn hfF hf
 ·exact p_parts_3 n F T h hn hfF hfT hf ht
 ·exact p_parts_4 n F T h hn hfF hfT hf ht
theorem hd_shape {l:List UInt8} {x:ByteArray × Int × Int} (h:hdFind l=some x):x.1.toList=l/\(x.2.2=0\/x.2.2=1\/x.2.2=2\/x.2.2=3\/x.2.2=4):=by
 have h1:=List.find?_some h
 have h2:=List.mem_of_find?_eq_some h
 refine ⟨by simpa using h1,?_⟩
 simp [hdRows] at h2
 rcases h2 with rfl | rfl | rfl | rfl | rfl | rfl | rfl | rfl | rfl <;> simp
theorem p_head_none {w:World} {s:ByteArray} (hg:HdLaid w) (h:hdFind s.toList=none) :
  Calls Tryz.prog 145 #[.string s] w fun e w'=>e=.returned (.tuple #[.agg #[.string ⟨#[]⟩,.int .i64 0,.int .i64 0],.bool false])/\Ext (fun _=>False) w w':=by
 have:=p_head s hg
 rw [h] at this
 exact this
theorem p_head_some {w:World} {s:ByteArray} {x:ByteArray × Int × Int} (hg:HdLaid w) (h:hdFind s.toList=some x) :
  Calls Tryz.prog 145 #[.string s] w fun e w'=>e=.returned (.tuple #[.agg #[.string s,.int .i64 x.2.1,.int .i64 x.2.2],.bool true])/\Ext (fun _=>False) w w':=by
 have h1:=p_head s hg
 rw [h] at h1
 rw [<- bytes_ext (hd_shape h).1]
 rw [<- bytes_ext (hd_shape h).1] at h1
 exact h1
set_option maxRecDepth 100000 in
set_option maxHeartbeats 400000 in
theorem p_br_deep {w:World} {c:PCtx} {t:Tk} {ts:List Tk} {d pl er:Int} (h:PR w c (t :: ts) d pl er) (hd:30<=d) :
    Calls Tryz.prog 108 #[.pointer (some ⟨c.rb,0,none⟩)] w (PPost w c d pl er (.no 6 t.pos)):=by
  have F0:=fld0
  have F2:=fld2
  have hrb:=h.rbs
  have hrn:¬w.heap.size=c.rb:=by omega
  have htb:=h.tbs
  have hsb:=h.sbs
  have HNV:=hide h.nvs
  have HX0:Hid (Ext (fun _=>False) w (w.alloc (.cells #[.int .i64 0,.string ⟨#[]⟩,.int .i64 0,.slice none 0 0] 115))):=(Ext.refl _ w).alloc _
  have H0:=hide (h.new HX0.out)
  clear h F0 F2
  go_enter Tryz.func108,Tryz.ntmps108
  go_wp2_with first
    | (go_at_call 144;refine (p_open_deep H0.out hd).mono ?_;rintro en w2 ⟨rfl,hx2,hr2⟩
       have HX2:Hid (Ext (· = c.rb) (w.alloc (.cells #[.int .i64 0,.string ⟨#[]⟩,.int .i64 0,.slice none 0 0] 115)) w2):=hx2
       have kb:w2.heap[w.heap.size]?=some (.cells #[.int .i64 0,.string ⟨#[]⟩,.int .i64 0,.slice none 0 0] 115):=(HX2.out.block _ (blt (heap_alloc_new w _)) hrn).trans (heap_alloc_new w _)
       have z0:=cob kb 0
       have z1:=cob kb 1
       have z2:=cob kb 2
       have z3:=cob kb 3
       have y0:=fob kb 0
       have y1:=fob kb 1
       have y2:=fob kb 2
       have y3:=fob kb 3
       clear kb
       have HR2:=hide hr2
       clear hx2 hr2)
  refine bodyPost_ret (v:=.tuple #[.agg #[.int .i64 0,.string ⟨#[]⟩,.int .i64 0,.slice none 0 0],.bool false]) (by simp [results,Tryz.results108,go_sem,z0,z1,z2,z3]) rfl ?_
  exact post_no HX0.out HX2.out HR2.out (four_ext _ _ _ _ _ _) hrb htb hsb HNV.out
set_option maxRecDepth 100000 in
set_option maxHeartbeats 400000 in
theorem p_br_no {w:World} {c:PCtx} {t u:Tk} {us:List Tk} {d pl er:Int} (h:PR w c (t :: u :: us) d pl er) (hd:d < 30) (hne:t.txt.toList ≠ []) (ha:hdFind u.txt.toList=none) :
    Calls Tryz.prog 108 #[.pointer (some ⟨c.rb,0,none⟩)] w (PPost w c d pl er (.no 2 u.pos)):=by
  have F0:=fld0
  have F2:=fld2
  have hrb:=h.rbs
  have hrn:¬w.heap.size=c.rb:=by omega
  have htb:=h.tbs
  have hsb:=h.sbs
  have HNV:=hide h.nvs
  have HX0:Hid (Ext (fun _=>False) w (w.alloc (.cells #[.int .i64 0,.string ⟨#[]⟩,.int .i64 0,.slice none 0 0] 115))):=(Ext.refl _ w).alloc _
  have H0:=hide (h.new HX0.out)
  have HNE:=hide hne
  have HA:=hide ha
  clear h hne ha
  go_enter Tryz.func108,Tryz.ntmps108
  go_wp2_with (go_at_call 144;refine (p_open_ok H0.out hd HNE.out).mono ?_;rintro en w1 ⟨rfl,hx1,hr1⟩;have HX1:=hide hx1;have HR1:=hide hr1;clear hx1 hr1)
  refine (p_next HR1.out).mono ?_
  rintro en w1a ⟨rfl,hx1a⟩
  have HX1A:=hide hx1a
  clear hx1a
  go_wp2_with fail
  refine (p_head_none (HR1.out.new HX1A.out).hd HA.out).mono ?_
  rintro en w2 ⟨rfl,hx2⟩
  have hx3:Ext (fun _=>False) w1 (w2.alloc (.cells #[.string ⟨#[]⟩,.int .i64 0,.int .i64 0] 270)):=(HX1A.out.trans hx2).alloc _
  have HX3:=hide hx3
  clear hx2 hx3
  go_wp2_with first
    | (go_at_call 110;refine (p_refuse _ (HR1.out.new HX3.out)).mono ?_;rintro en w4 ⟨rfl,hx4,hr4⟩
       have HX2:Hid (Ext (· = c.rb) (w.alloc (.cells #[.int .i64 0,.string ⟨#[]⟩,.int .i64 0,.slice none 0 0] 115)) w4):=(HX1.out.trans (HX3.out.mono (fun _ _ f=>f.elim))).trans hx4
       have kb:w4.heap[w.heap.size]?=some (.cells #[.int .i64 0,.string ⟨#[]⟩,.int .i64 0,.slice none 0 0] 115):=(HX2.out.block _ (blt (heap_alloc_new w _)) hrn).trans (heap_alloc_new w _)
       have z0:=cob kb 0
       have z1:=cob kb 1
       have z2:=cob kb 2
       have z3:=cob kb 3
       have y0:=fob kb 0
       have y1:=fob kb 1
       have y2:=fob kb 2
       have y3:=fob kb 3
       clear kb
       have HR2:=hide hr4
       clear hx4 hr4)
  refine bodyPost_ret (v:=.tuple #[.agg #[.int .i64 0,.string ⟨#[]⟩,.int .i64 0,.slice none 0 0],.bool false]) (by simp [results,Tryz.results108,go_sem,z0,z1,z2,z3]) rfl ?_
  exact post_no HX0.out HX2.out HR2.out (four_ext _ _ _ _ _ _) hrb htb hsb HNV.out
set_option maxRecDepth 100000 in
set_option maxHeartbeats 400000 in
theorem p_br {w:World} {c:PCtx} {t u:Tk} {us:List Tk} {d pl er:Int} (n:Nat) (x:ByteArray × Int × Int) (h:PR w c (t :: u :: us) d pl er) (hd:d < 30) (hne:t.txt.toList ≠ []) (hx:hdFind u.txt.toList=some x) (hune:u.txt.toList ≠ []) (hus:us.length<=n) (F T:List Tk->Rs Nd) (hfF:Fits F) (hfT:Fits T)
    (hf:∀ (w:World) (ts:List Tk),ts.length<=n->PR w c ts (d+1) pl er->Calls Tryz.prog 72 #[.pointer (some ⟨c.rb,0,none⟩)] w (PPost w c (d+1) pl er (F ts)))
    (ht:∀ (w:World) (ts:List Tk),ts.length<=n->PR w c ts (d+1) pl er->Calls Tryz.prog 153 #[.pointer (some ⟨c.rb,0,none⟩)] w (PPost w c (d+1) pl er (T ts))) :
    Calls Tryz.prog 108 #[.pointer (some ⟨c.rb,0,none⟩)] w (PPost w c d pl er (rdCloses 2 x.2.1 u.txt (rdParts x.2.2 n F T (rdNum 5) us))):=by
  have F0:=fld0
  have F2:=fld2
  have hrb:=h.rbs
  have hrn:¬w.heap.size=c.rb:=by omega
  have htb:=h.tbs
  have hsb:=h.sbs
  have HNV:=hide h.nvs
  have HX0:Hid (Ext (fun _=>False) w (w.alloc (.cells #[.int .i64 0,.string ⟨#[]⟩,.int .i64 0,.slice none 0 0] 115))):=(Ext.refl _ w).alloc _
  have H0:=hide (h.new HX0.out)
  have HNE:=hide hne
  have HH:=hide hx
  have HUNE:=hide hune
  have hd0:=h.dlo
  have HUS:=hide hus
  have HP:=hide (fun (W:World) (hW:PR W c us (d+1) pl er)=>p_parts x.2.2 (hd_shape hx).2 n F T hW hus hfF hfT hf ht)
  clear h hne hx hune hfF hfT hf ht hus
  go_enter Tryz.func108,Tryz.ntmps108
  go_wp2_with (go_at_call 144;refine (p_open_ok H0.out hd HNE.out).mono ?_;rintro en w1 ⟨rfl,hx1,hr1⟩;have HX1:=hide hx1;have HR1:=hide hr1;clear hx1 hr1)
  refine (p_next HR1.out).mono ?_
  rintro en w1a ⟨rfl,hx1a⟩
  have HX1A:=hide hx1a
  clear hx1a
  go_wp2_with fail
  refine (p_head_some (HR1.out.new HX1A.out).hd HH.out).mono ?_
  rintro en w2 ⟨rfl,hx2⟩
  have hx3:Ext (fun _=>False) w1 (w2.alloc (.cells #[.string u.txt,.int .i64 x.2.1,.int .i64 x.2.2] 270)):=(HX1A.out.trans hx2).alloc _
  have HX3:=hide hx3
  have hs1:=HX1.out.size
  have hs2:=(HX1A.out.trans hx2).size
  have hsz1:w.heap.size < w1.heap.size:=by simp at hs1;omega
  have hsz2:w1.heap.size<=w2.heap.size:=hs2
  have hrb2:c.rb < w2.heap.size:=by omega
  clear hx2 hx3 hs1 hs2
  go_wp2_with fail
  refine (p_pass (HR1.out.new HX3.out) HUNE.out).mono ?_
  rintro en w4 ⟨rfl,hx4,hr4⟩
  have kf:w4.heap[w2.heap.size]?=some (.cells #[.string u.txt,.int .i64 x.2.1,.int .i64 x.2.2] 270):=(hx4.block _ (blt (heap_alloc_new w2 _)) (by show ¬w2.heap.size=c.rb;omega)).trans (heap_alloc_new w2 _)
  have q2:=cob kf 2
  have hl4:=blt kf
  have hs4:=hx4.size
  have HX04:Hid (Ext (· = c.rb) (w.alloc (.cells #[.int .i64 0,.string ⟨#[]⟩,.int .i64 0,.slice none 0 0] 115)) w4):=(HX1.out.trans (HX3.out.mono (fun _ _ f=>f.elim))).trans hx4
  have HR4:=hide hr4
  have KF:=hide kf
  clear hx4 hr4 kf hs4
  go_wp2_with fail
  refine (HP.out w4 HR4.out).mono ?_
  clear q2
  cases hrr:rdParts x.2.2 n F T (rdNum 5) us with
  | no e p =>
    have HRES:Hid (rdCloses 2 x.2.1 u.txt (rdParts x.2.2 n F T (rdNum 5) us)=.no e p):=by
      show _=_
      rw [hrr];rfl
    clear hrr
    rintro en w7 ⟨hx7,rfl,ts',d',hr7⟩
    have HX2:Hid (Ext (· = c.rb) (w.alloc (.cells #[.int .i64 0,.string ⟨#[]⟩,.int .i64 0,.slice none 0 0] 115)) w7):=HX04.out.trans hx7
    have kb:w7.heap[w.heap.size]?=some (.cells #[.int .i64 0,.string ⟨#[]⟩,.int .i64 0,.slice none 0 0] 115):=(HX2.out.block _ (blt (heap_alloc_new w _)) hrn).trans (heap_alloc_new w _)
    have z0:=cob kb 0
    have z1:=cob kb 1
    have z2:=cob kb 2
    have z3:=cob kb 3
    have y0:=fob kb 0
    have y1:=fob kb 1
    have y2:=fob kb 2
    have y3:=fob kb 3
    clear kb
    have HR2:=hide hr7
    clear hx7 hr7
    go_wp2_with fail
    rw [HRES.out]
    refine bodyPost_ret (v:=.tuple #[.agg #[.int .i64 0,.string ⟨#[]⟩,.int .i64 0,.slice none 0 0],.bool false]) (by simp [results,Tryz.results108,go_sem,z0,z1,z2,z3]) rfl ?_
    exact post_no HX0.out HX2.out HR2.out (four_ext _ _ _ _ _ _) hrb htb hsb HNV.out
  | ok ps ts' =>
    rintro en w7 ⟨hx7,sa,sn,sc,kids,rfl,hrow7,hr7⟩
    obtain ⟨v,vs,rfl⟩:=hr7.head
    have hl7:w2.heap.size < w7.heap.size:=Nat.lt_of_lt_of_le hl4 hx7.size
    have HROW7:Hid (PRow w7 (fun k=>w.heap.size < k) (.slice sa sn sc) ps kids):=hrow7.mono (fun k _ hk=>by have h5:w4.heap.size<=k:=hk;show w.heap.size < k;omega)
    have HX07:=hide (HX04.out.trans hx7)
    have KF7:=hide ((hx7.block _ (blt KF.out) (by show ¬w2.heap.size=c.rb;omega)).trans KF.out)
    have HR7:=hide hr7
    clear hx7 hr7 hrow7
    by_cases hq:v.txt.toList=[41]
    · have HRES:Hid (rdCloses 2 x.2.1 u.txt (rdParts x.2.2 n F T (rdNum 5) us)=.ok (.mk x.2.1 u.txt 0 ps) vs):=by
        show _=_
        rw [hrr,rdCloses,rdShut,if_pos hq]
      clear hrr
      go_wp2_with first
        | (go_at_call 147;refine (p_close_ok _ HR7.out (by omega) hq).mono ?_;rintro en w8 ⟨rfl,hx8,hr8⟩
           have HX2:Hid (Ext (· = c.rb) (w.alloc (.cells #[.int .i64 0,.string ⟨#[]⟩,.int .i64 0,.slice none 0 0] 115)) w8):=HX07.out.trans hx8
           have kb:w8.heap[w.heap.size]?=some (.cells #[.int .i64 0,.string ⟨#[]⟩,.int .i64 0,.slice none 0 0] 115):=(HX2.out.block _ (blt (heap_alloc_new w _)) hrn).trans (heap_alloc_new w _)
           have z0:=cob kb 0
           have z1:=cob kb 1
           have z2:=cob kb 2
           have z3:=cob kb 3
           have y0:=fob kb 0
           have y1:=fob kb 1
           have y2:=fob kb 2
           have y3:=fob kb 3
           clear kb
           have kf8:=(hx8.block _ (blt KF7.out) (by show ¬w2.heap.size=c.rb;omega)).trans KF7.out
           have q80:=cob kf8 0
           have q81:=cob kf8 1
           have HROW8:=hide (HROW7.out.ext hx8 (fun k _ hk e=>by have h5:w.heap.size < k:=hk;have h6:k=c.rb:=e;omega))
           rw [show d+1 - 1=d from by omega] at hr8
           have HR2:=hide hr8
           clear hx8 hr8 kf8)
      rw [HRES.out]
      refine bodyPost_ret (v:=.tuple #[.agg #[.int .i64 x.2.1,.string u.txt,.int .i64 0,.slice sa sn sc],.bool true]) (by simp [results,Tryz.results108,go_sem,z0,z1,z2,z3]) rfl ?_
      exact post_ok HX0.out HX2.out HR2.out (kids_row HROW8.out) (four_ext _ _ _ _ _ _) hrb htb hsb HNV.out
    · have HRES:Hid (rdCloses 2 x.2.1 u.txt (rdParts x.2.2 n F T (rdNum 5) us)=.no (clErr 2 v.txt.toList) v.pos):=by
        show _=_
        rw [hrr,rdCloses,rdShut,if_neg hq]
        unfold clErr
        split <;> rfl
      clear hrr
      go_wp2_with first
        | (go_at_call 147;refine (p_close_no _ HR7.out hq).mono ?_;rintro en w8 ⟨rfl,hx8,hr8⟩
           have HX2:Hid (Ext (· = c.rb) (w.alloc (.cells #[.int .i64 0,.string ⟨#[]⟩,.int .i64 0,.slice none 0 0] 115)) w8):=HX07.out.trans hx8
           have kb:w8.heap[w.heap.size]?=some (.cells #[.int .i64 0,.string ⟨#[]⟩,.int .i64 0,.slice none 0 0] 115):=(HX2.out.block _ (blt (heap_alloc_new w _)) hrn).trans (heap_alloc_new w _)
           have z0:=cob kb 0
           have z1:=cob kb 1
           have z2:=cob kb 2
           have z3:=cob kb 3
           have y0:=fob kb 0
           have y1:=fob kb 1
           have y2:=fob kb 2
           have y3:=fob kb 3
           clear kb
           have HR2:=hide hr8
           clear hx8 hr8)
      rw [HRES.out]
      refine bodyPost_ret (v:=.tuple #[.agg #[.int .i64 0,.string ⟨#[]⟩,.int .i64 0,.slice none 0 0],.bool false]) (by simp [results,Tryz.results108,go_sem,z0,z1,z2,z3]) rfl ?_
      exact post_no HX0.out HX2.out HR2.out (four_ext _ _ _ _ _ _) hrb htb hsb HNV.out
set_option maxRecDepth 100000 in
set_option maxHeartbeats 400000 in
theorem p_form_br {w:World} {c:PCtx} {t:Tk} {ts:List Tk} {d pl er:Int} (r:Rs Nd) (h:PR w c (t :: ts) d pl er) (ho:(t.txt.toList == [40])=true)
  (hf:∀ (w:World),PR w c (t :: ts) d pl er->Calls Tryz.prog 108 #[.pointer (some ⟨c.rb,0,none⟩)] w (PPost w c d pl er r)) :
  Calls Tryz.prog 72 #[.pointer (some ⟨c.rb,0,none⟩)] w (PPost w c d pl er r):=by
 have F0:=fld0
 have F2:=fld2
 have hrb:=h.rbs
 have hrn:¬w.heap.size=c.rb:=by omega
 have htb:=h.tbs
 have hsb:=h.sbs
 have HNV:=hide h.nvs
 have HX0:Hid (Ext (fun _=>False) w (w.alloc (.cells #[.int .i64 0,.string ⟨#[]⟩,.int .i64 0,.slice none 0 0] 115))):=(Ext.refl _ w).alloc _
 have H0:=hide (h.new HX0.out)
 have HF:=hide hf
 have hk:=(kOf_open (l:=t.txt.toList)).trans ho
 clear F2
 clear h hf ho
 cases r with
 | no e p =>
  go_enter Tryz.func72,Tryz.ntmps72
  go_wp2_with first
    | (go_at_call 107;refine (p_next H0.out).mono ?_;rintro en w1 ⟨rfl,hx1⟩;have HX1:=hide hx1;clear hx1)
  refine (HF.out _ (H0.out.new HX1.out)).mono ?_
  rintro en w5 ⟨hx5,rfl,ts',d',hr2⟩
  have HX2:Hid (Ext (· = c.rb) (w.alloc (.cells #[.int .i64 0,.string ⟨#[]⟩,.int .i64 0,.slice none 0 0] 115)) w5):=(HX1.out.mono (fun _ _ f=>f.elim)).trans hx5
  have kb:w5.heap[w.heap.size]?=some (.cells #[.int .i64 0,.string ⟨#[]⟩,.int .i64 0,.slice none 0 0] 115):=(HX2.out.block _ (blt (heap_alloc_new w _)) hrn).trans (heap_alloc_new w _)
  have z0:=cob kb 0
  have z1:=cob kb 1
  have z2:=cob kb 2
  have z3:=cob kb 3
  have y0:=fob kb 0
  have y1:=fob kb 1
  have y2:=fob kb 2
  have y3:=fob kb 3
  clear kb
  clear hx5
  go_wp2_with fail
  refine bodyPost_ret (v:=.tuple #[.agg #[.int .i64 0,.string ⟨#[]⟩,.int .i64 0,.slice none 0 0],.bool false]) (by simp [results,Tryz.results72,go_sem,z0,z1,z2,z3]) rfl ?_
  exact post_no HX0.out HX2.out hr2 (four_ext _ _ _ _ _ _) hrb htb hsb HNV.out
 | ok nd ts' =>
  go_enter Tryz.func72,Tryz.ntmps72
  go_wp2_with first
    | (go_at_call 107;refine (p_next H0.out).mono ?_;rintro en w1 ⟨rfl,hx1⟩;have HX1:=hide hx1;clear hx1)
  refine (HF.out _ (H0.out.new HX1.out)).mono ?_
  rintro en w5 ⟨hx5,k,wd,v,sa,sn,sc,rfl,hn,hr2⟩
  have HX2:Hid (Ext (· = c.rb) (w.alloc (.cells #[.int .i64 0,.string ⟨#[]⟩,.int .i64 0,.slice none 0 0] 115)) w5):=(HX1.out.mono (fun _ _ f=>f.elim)).trans hx5
  have kb:w5.heap[w.heap.size]?=some (.cells #[.int .i64 0,.string ⟨#[]⟩,.int .i64 0,.slice none 0 0] 115):=(HX2.out.block _ (blt (heap_alloc_new w _)) hrn).trans (heap_alloc_new w _)
  have z0:=cob kb 0
  have z1:=cob kb 1
  have z2:=cob kb 2
  have z3:=cob kb 3
  have y0:=fob kb 0
  have y1:=fob kb 1
  have y2:=fob kb 2
  have y3:=fob kb 3
  clear kb
  have hsz:=HX1.out.size
  have HPN:=hide (hn.mono (D':=fun k=>w.heap.size < k) (fun k _ hk=>by have h1:w1.heap.size<=k:=hk;simp at hsz;show w.heap.size < k;omega))
  clear hx5 hn hsz
  go_wp2_with fail
  refine bodyPost_ret (v:=.tuple #[.agg #[.int .i64 k,.string wd,.int .i64 v,.slice sa sn sc],.bool true]) (by simp [results,Tryz.results72,go_sem,z0,z1,z2,z3]) rfl ?_
  exact post_ok HX0.out HX2.out hr2 HPN.out (four_ext _ _ _ _ _ _) hrb htb hsb HNV.out
set_option maxRecDepth 100000 in
set_option maxHeartbeats 400000 in
theorem p_form_true {w:World} {c:PCtx} {t:Tk} {ts:List Tk} {d pl er:Int} (h:PR w c (t :: ts) d pl er) (ho:(t.txt.toList == [40])=false) (hw:t.txt.toList=wTrue) :
    Calls Tryz.prog 72 #[.pointer (some ⟨c.rb,0,none⟩)] w (PPost w c d pl er (.ok (.mk 0 t.txt 0 []) ts)):=by
  have F0:=fld0
  have F2:=fld2
  have hrb:=h.rbs
  have hrn:¬w.heap.size=c.rb:=by omega
  have htb:=h.tbs
  have hsb:=h.sbs
  have HNV:=hide h.nvs
  have HX0:Hid (Ext (fun _=>False) w (w.alloc (.cells #[.int .i64 0,.string ⟨#[]⟩,.int .i64 0,.slice none 0 0] 115))):=(Ext.refl _ w).alloc _
  have H0:=hide (h.new HX0.out)
  have hk:=(kOf_open (l:=t.txt.toList)).trans ho
  have HNE:Hid (t.txt.toList ≠ []):=by rw [hw];exact (by decide:(wTrue:List UInt8) ≠ [])
  have e1:(t.txt.toList == [116,114,117,101])=true:=by rw [hw];rfl
  have htx:t.txt=⟨#[116,114,117,101]⟩:=bytes_ext (hw.trans (by kernel_rfl))
  have HTX:=hide htx
  clear h ho hw htx
  go_enter Tryz.func72,Tryz.ntmps72
  go_wp2_with first
     | (go_at_call 107;refine (p_next (H0.out)).mono ?_;rintro en w1 ⟨rfl,hx1⟩;have HX1:=hide hx1;clear hx1)
     | (go_at_call 107;refine (p_next (H0.out.new HX1.out)).mono ?_;rintro en w2 ⟨rfl,hx2⟩;have HX2a:=hide hx2;clear hx2)
     | (go_at_call 109;refine (p_pass (H0.out.new (HX1.out.trans HX2a.out)) HNE.out).mono ?_;rintro en w4 ⟨rfl,hx4,hr4⟩
        have HX2:Hid (Ext (· = c.rb) (w.alloc (.cells #[.int .i64 0,.string ⟨#[]⟩,.int .i64 0,.slice none 0 0] 115)) w4):=((HX1.out.trans HX2a.out).mono (fun _ _ f=>f.elim)).trans hx4
        have kb:w4.heap[w.heap.size]?=some (.cells #[.int .i64 0,.string ⟨#[]⟩,.int .i64 0,.slice none 0 0] 115):=(HX2.out.block _ (blt (heap_alloc_new w _)) hrn).trans (heap_alloc_new w _)
        have z0:=cob kb 0
        have z1:=cob kb 1
        have z2:=cob kb 2
        have z3:=cob kb 3
        have y0:=fob kb 0
        have y1:=fob kb 1
        have y2:=fob kb 2
        have y3:=fob kb 3
        clear kb
        have HR2:=hide hr4
        clear hx4 hr4)
  refine bodyPost_ret (v:=.tuple #[.agg #[.int .i64 0,.string ⟨#[116,114,117,101]⟩,.int .i64 0,.slice none 0 0],.bool true]) (by simp [results,Tryz.results72,go_sem,z0,z1,z2,z3]) rfl ?_
  rw [HTX.out]
  exact post_ok HX0.out HX2.out HR2.out (PN.leaf 0 0 _) (four_ext _ _ _ _ _ _) hrb htb hsb HNV.out
set_option maxRecDepth 100000 in
set_option maxHeartbeats 400000 in
theorem p_form_false {w:World} {c:PCtx} {t:Tk} {ts:List Tk} {d pl er:Int} (h:PR w c (t :: ts) d pl er) (ho:(t.txt.toList == [40])=false) (hw:t.txt.toList=wFalse) :
    Calls Tryz.prog 72 #[.pointer (some ⟨c.rb,0,none⟩)] w (PPost w c d pl er (.ok (.mk 0 t.txt 0 []) ts)):=by
  have F0:=fld0
  have F2:=fld2
  have hrb:=h.rbs
  have hrn:¬w.heap.size=c.rb:=by omega
  have htb:=h.tbs
  have hsb:=h.sbs
  have HNV:=hide h.nvs
  have HX0:Hid (Ext (fun _=>False) w (w.alloc (.cells #[.int .i64 0,.string ⟨#[]⟩,.int .i64 0,.slice none 0 0] 115))):=(Ext.refl _ w).alloc _
  have H0:=hide (h.new HX0.out)
  have hk:=(kOf_open (l:=t.txt.toList)).trans ho
  have HNE:Hid (t.txt.toList ≠ []):=by rw [hw];exact (by decide:(wFalse:List UInt8) ≠ [])
  have e1:(t.txt.toList == [116,114,117,101])=false:=by rw [hw];rfl
  have e2:(t.txt.toList == [102,97,108,115,101])=true:=by rw [hw];rfl
  have htx:t.txt=⟨#[102,97,108,115,101]⟩:=bytes_ext (hw.trans (by kernel_rfl))
  have HTX:=hide htx
  clear h ho hw htx
  go_enter Tryz.func72,Tryz.ntmps72
  go_wp2_with first
     | (go_at_call 107;refine (p_next (H0.out)).mono ?_;rintro en w1 ⟨rfl,hx1⟩;have HX1:=hide hx1;clear hx1)
     | (go_at_call 107;refine (p_next (H0.out.new HX1.out)).mono ?_;rintro en w2 ⟨rfl,hx2⟩;have HX2a:=hide hx2;clear hx2)
     | (go_at_call 109;refine (p_pass (H0.out.new (HX1.out.trans HX2a.out)) HNE.out).mono ?_;rintro en w4 ⟨rfl,hx4,hr4⟩
        have HX2:Hid (Ext (· = c.rb) (w.alloc (.cells #[.int .i64 0,.string ⟨#[]⟩,.int .i64 0,.slice none 0 0] 115)) w4):=((HX1.out.trans HX2a.out).mono (fun _ _ f=>f.elim)).trans hx4
        have kb:w4.heap[w.heap.size]?=some (.cells #[.int .i64 0,.string ⟨#[]⟩,.int .i64 0,.slice none 0 0] 115):=(HX2.out.block _ (blt (heap_alloc_new w _)) hrn).trans (heap_alloc_new w _)
        have z0:=cob kb 0
        have z1:=cob kb 1
        have z2:=cob kb 2
        have z3:=cob kb 3
        have y0:=fob kb 0
        have y1:=fob kb 1
        have y2:=fob kb 2
        have y3:=fob kb 3
        clear kb
        have HR2:=hide hr4
        clear hx4 hr4)
  refine bodyPost_ret (v:=.tuple #[.agg #[.int .i64 0,.string ⟨#[102,97,108,115,101]⟩,.int .i64 0,.slice none 0 0],.bool true]) (by simp [results,Tryz.results72,go_sem,z0,z1,z2,z3]) rfl ?_
  rw [HTX.out]
  exact post_ok HX0.out HX2.out HR2.out (PN.leaf 0 0 _) (four_ext _ _ _ _ _ _) hrb htb hsb HNV.out
set_option maxRecDepth 100000 in
set_option maxHeartbeats 400000 in
theorem p_form_no {w:World} {c:PCtx} {t:Tk} {ts:List Tk} {d pl er:Int} (h:PR w c (t :: ts) d pl er) (ho:(t.txt.toList == [40])=false) (hw1:¬t.txt.toList=wTrue) (hw2:¬t.txt.toList=wFalse) :
    Calls Tryz.prog 72 #[.pointer (some ⟨c.rb,0,none⟩)] w (PPost w c d pl er (.no 2 t.pos)):=by
  have F0:=fld0
  have F2:=fld2
  have hrb:=h.rbs
  have hrn:¬w.heap.size=c.rb:=by omega
  have htb:=h.tbs
  have hsb:=h.sbs
  have HNV:=hide h.nvs
  have HX0:Hid (Ext (fun _=>False) w (w.alloc (.cells #[.int .i64 0,.string ⟨#[]⟩,.int .i64 0,.slice none 0 0] 115))):=(Ext.refl _ w).alloc _
  have H0:=hide (h.new HX0.out)
  have hk:=(kOf_open (l:=t.txt.toList)).trans ho
  have e1:(t.txt.toList == [116,114,117,101])=false:=beq_eq_false_iff_ne.2 hw1
  have e2:(t.txt.toList == [102,97,108,115,101])=false:=beq_eq_false_iff_ne.2 hw2
  clear h ho hw1 hw2
  go_enter Tryz.func72,Tryz.ntmps72
  go_wp2_with first
     | (go_at_call 107;refine (p_next (H0.out)).mono ?_;rintro en w1 ⟨rfl,hx1⟩;have HX1:=hide hx1;clear hx1)
     | (go_at_call 107;refine (p_next (H0.out.new HX1.out)).mono ?_;rintro en w2 ⟨rfl,hx2⟩;have HX2a:=hide hx2;clear hx2)
     | (go_at_call 110;refine (p_refuse _ (H0.out.new (HX1.out.trans HX2a.out))).mono ?_;rintro en w4 ⟨rfl,hx4,hr4⟩
        have HX2:Hid (Ext (· = c.rb) (w.alloc (.cells #[.int .i64 0,.string ⟨#[]⟩,.int .i64 0,.slice none 0 0] 115)) w4):=((HX1.out.trans HX2a.out).mono (fun _ _ f=>f.elim)).trans hx4
        have kb:w4.heap[w.heap.size]?=some (.cells #[.int .i64 0,.string ⟨#[]⟩,.int .i64 0,.slice none 0 0] 115):=(HX2.out.block _ (blt (heap_alloc_new w _)) hrn).trans (heap_alloc_new w _)
        have z0:=cob kb 0
        have z1:=cob kb 1
        have z2:=cob kb 2
        have z3:=cob kb 3
        have y0:=fob kb 0
        have y1:=fob kb 1
        have y2:=fob kb 2
        have y3:=fob kb 3
        clear kb
        have HR2:=hide hr4
        clear hx4 hr4)
  refine bodyPost_ret (v:=.tuple #[.agg #[.int .i64 0,.string ⟨#[]⟩,.int .i64 0,.slice none 0 0],.bool false]) (by simp [results,Tryz.results72,go_sem,z0,z1,z2,z3]) rfl ?_
  exact post_no HX0.out HX2.out HR2.out (four_ext _ _ _ _ _ _) hrb htb hsb HNV.out
theorem p_formula (c:PCtx) (pl er:Int) (n:Nat):∀ (w:World) (ts:List Tk) (d:Int),ts.length<=n->PR w c ts d pl er->Calls Tryz.prog 72 #[.pointer (some ⟨c.rb,0,none⟩)] w (PPost w c d pl er (rdForm c.N n d ts)):=by
 induction n with
 | zero =>
  intro w ts d hn h
  obtain ⟨t,us,rfl⟩:=h.head
  simp at hn
 | succ n ih =>
  intro w ts d hn h
  obtain ⟨t,us,rfl⟩:=h.head
  cases ho:(t.txt.toList == [40]) with
  | true =>
   have ho':t.txt.toList=[40]:=beq_iff_eq.1 ho
   have hne:t.txt.toList ≠ []:=by rw [ho'];simp
   have h1:=h.wf.tail hne
   obtain ⟨u,us0,rfl⟩:∃ u us0,us=u :: us0:=by
    cases us with
    | nil=>exact absurd rfl h1.ne
    | cons u us0=>exact ⟨u,us0,rfl⟩
   refine p_form_br _ h ho (fun W hW=>?_)
   by_cases hd:30<=d
   ·have er':rdForm c.N (n+1) d (t :: u :: us0)=.no 6 t.pos:=by rw [rdForm,if_pos ho',if_pos hd]
    rw [er'];exact p_br_deep hW hd
   ·have hd':d < 30:=by omega
    cases hh:hdFind u.txt.toList with
    | none =>
     have er':rdForm c.N (n+1) d (t :: u :: us0)=.no 2 u.pos:=by
      rw [rdForm,if_pos ho',if_neg hd]
      simp only [hdFind_eq,hh,Option.map_none]
     rw [er'];exact p_br_no hW hd' hne hh
    | some x =>
     have er':rdForm c.N (n+1) d (t :: u :: us0)=rdCloses 2 x.2.1 u.txt (rdParts x.2.2 n (rdForm c.N n (d+1)) (rdTerm c.N n (d+1)) (rdNum 5) us0):=by
      rw [rdForm,if_pos ho',if_neg hd]
      simp only [hdFind_eq,hh,Option.map_some]
     have hune:u.txt.toList ≠ []:=by
      intro e
      rw [e] at hh
      rw [show hdFind []=none from by kernel_rfl] at hh
      cases hh
     rw [er']
     exact p_br n x hW hd' hne hh hune (by simp at hn;omega) _ _ (form_fits c.N n (d+1)) (term_fits c.N n (d+1)) (fun W' ts' hl hP=>ih W' ts' (d+1) hl hP) (fun W' ts' hl hP=>p_term c pl er n W' ts' (d+1) hl hP)
  | false =>
   have ho':¬t.txt.toList=[40]:=by simpa using ho
   by_cases h1:t.txt.toList=wTrue
   ·have er':rdForm c.N (n+1) d (t :: us)=.ok (.mk 0 t.txt 0 []) us:=by rw [rdForm.eq_def];simp only;rw [if_neg ho',if_pos (Or.inl h1)]
    rw [er'];exact p_form_true h ho h1
   ·by_cases h2:t.txt.toList=wFalse
    ·have er':rdForm c.N (n+1) d (t :: us)=.ok (.mk 0 t.txt 0 []) us:=by rw [rdForm.eq_def];simp only;rw [if_neg ho',if_pos (Or.inr h2)]
     rw [er'];exact p_form_false h ho h2
    ·have er':rdForm c.N (n+1) d (t :: us)=.no 2 t.pos:=by rw [rdForm.eq_def];simp only;rw [if_neg ho',if_neg (fun e=>e.elim h1 h2)]
     rw [er'];exact p_form_no h ho h1 h2
end Go.Proofs.YtegbdaffhpiacaaGreatDoor
