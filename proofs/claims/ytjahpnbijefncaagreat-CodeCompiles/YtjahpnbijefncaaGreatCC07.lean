import Derived.Test.YtjahpnbijefncaaGreatCC06
import Derived.Lib.AppendZeros
namespace Go.Proofs.YtjahpnbijefncaaGreat
set_option maxRecDepth 100000
set_option linter.unusedVariables false
set_option maxHeartbeats 4000000
section
open Go.RowKit
attribute [local go_sem ↓] Go.wp_at_zero Go.wp_at_succ
theorem Arg.same {w w' : World} {ao:Option Addr} {xs:List Int} {cap:Nat} (h:Arg w ao xs cap) (hk:Za w w'):Arg w' ao xs cap:=⟨h.at'.same hk,h.cap', h.nil,h.size⟩
def Zwy (w:World) (b off:Nat) (x:Ru):Prop:=
 ∃ ao ac bo bc,w.cell? ⟨b,off,none⟩=some (.slice ao x.1.length ac)∧w.cell? ⟨b,off+1,none⟩=some (.slice bo x.2.length bc)∧Arg w ao x.1 ac∧Arg w bo x.2 bc
def V7 (w:World) (lo:Option Addr) (l:List Ru):Prop:=
 l=[]∨∃ b off,lo=some ⟨b,off,none⟩∧b<w.heap.size∧∀ i (h:i<l.length),Zwy w b (off+i * 2) l[i]
theorem Zwy.same {w w' : World} {b off:Nat} {x:Ru} (h:Zwy w b off x) (hb:b<w.heap.size) (hk:Za w w'):Zwy w' b off x:=by
 obtain ⟨ao,ac,bo,bc,h1,h2,h3,h4⟩:=h;exact ⟨ao,ac,bo,bc,(hk.cell (p:=⟨b,off,none⟩) hb (λ f=>f)).trans h1,(hk.cell (p:=⟨b,off+1,none⟩) hb (λ f=>f)).trans h2,h3.same hk,h4.same hk⟩
theorem V7.same {w w' : World} {lo:Option Addr} {l:List Ru} (h:V7 w lo l) (hk:Za w w'):V7 w' lo l:=by
 refine h.imp id ?_;rintro ⟨b,off,rfl,hb,hc⟩;exact ⟨b,off,rfl,Nat.lt_of_lt_of_le hb hk.size,λ i hi=>(hc i hi).same hb hk⟩
theorem V7.get {w:World} {lo:Option Addr} {l:List Ru} (h:V7 w lo l) {i:Nat} (hi:i<l.length):∃ b off,lo=some ⟨b,off,none⟩∧b<w.heap.size∧Zwy w b (off+i * 2) l[i]:=by
 rcases h with rfl | ⟨b,off,e,hb,hc⟩
 ·simp at hi
 ·exact ⟨b,off,e,hb,hc i hi⟩
structure StR (w:World) (b bs:Nat) (ro:Option Addr) (rc:Nat) (L:List Sym) (R:List Ru):Prop where
 blk:w.heap[b]? = some (.cells #[.pointer (some ⟨bs,0,none⟩),.slice ro R.length rc] 139 (0,0))
 sig:Sg w.heap.size w bs L
 rs:V7 w ro R
 nil:ro=none->rc=0
 le:R.length<=100
 ok:∀ x∈R,Ze L x.1=0
theorem StR.same {w w' : World} {b bs:Nat} {ro:Option Addr} {rc:Nat} {L:List Sym} {R:List Ru} (h:StR w b bs ro rc L R) (hk:Za w w'):StR w' b bs ro rc L R:=
 ⟨hk.at0 h.blk,Zcy (h.sig.same hk) hk.size,h.rs.same hk,h.nil,h.le,h.ok⟩
theorem StR.cells {w:World} {b bs:Nat} {ro:Option Addr} {rc:Nat} {L:List Sym} {R:List Ru} (h:StR w b bs ro rc L R):w.cell? ⟨b,0,none⟩=some (.pointer (some ⟨bs,0,none⟩))∧w.cell? ⟨b,1,none⟩=some (.slice ro R.length rc):=by
 have h0:=Zb h.blk 0;have h1:=Zb h.blk 1;simp only [List.getElem?_toArray,List.getElem?_cons_zero,List.getElem?_cons_succ] at h0 h1;exact ⟨h0,h1⟩
theorem Xh {w:World} {p:Addr} {v:Value} (h:w.cell? p=some v) (o:Obj):(w.alloc o).cell? p=some v:=by
 rw [World.cell?_alloc_some _ _ _ (by rw [h];rfl),h]
theorem Zp (w:World) (o o' : Obj):((w.alloc o).alloc o').heap[w.heap.size+1]? = some o' := by
 have:=heap_alloc_new (w.alloc o) o'
 rwa [World.size_alloc] at this
theorem Zl3 {w:World} {b lb off len lc n:Nat} {ao bo:Option Addr} {al ac bl bc:Nat} (h0:w.cell? ⟨lb,off+n * 2,none⟩=some (.slice ao al ac)) (h1:w.cell? ⟨lb,off+n * 2+1,none⟩=some (.slice bo bl bc)) (hn:n<len) :
  Calls Tryz.prog 166 #[.agg #[.pointer (some ⟨b,0,none⟩),.slice (some ⟨lb,off,none⟩) len lc,.int .i64 (n:Int)]] w λ e w' => e=.returned (.agg #[.slice ao al ac,.slice bo bl bc])∧Za w w' := by
 have i1:(0:Int)<=(n:Int):=by omega
 have i2:(n:Int)<(len:Int):=by omega
 have H0:=λ o o' => Xh (Xh h0 o) o';have H1:=λ o o' => Xh (Xh h1 o) o';clear h0 h1
 go_enter Tryz.func166,Tryz.ntmps166
 go_wp2;exact bodyPost_ret (v:=.agg #[.slice ao al ac,.slice bo bl bc]) (by simp [results,Tryz.results166,go_sem]) rfl ⟨rfl,((Zc.refl _ w).alloc _).alloc _⟩
theorem Zd1 (w:World) (b:Nat) (lo:Option Addr) (ll lc:Nat) (why:Value) (hw:why=.nilIface∨∃ t v,why=.iface t v) (n:Nat) (c:Int) :
  Calls Tryz.prog 167 #[.agg #[.pointer (some ⟨b,0,none⟩),.slice lo ll lc,.int .i64 (n:Int)],.int .i64 c,why] w λ e w' => ∃ k,e=.returned (.iface 98 (.pointer (some ⟨k,0,none⟩)))∧w'.heap[k]? = some (.cells #[.int .i64 c,.int .i64 (n:Int),why] 100 (0,0))∧Za w w' := by
 rcases hw with rfl | ⟨t,v,rfl⟩
 ·go_enter Tryz.func167,Tryz.ntmps167
  go_wp2;go_ret;exact ⟨_,rfl,Zp _ _ _,((Zc.refl _ w).alloc _).alloc _⟩
 ·go_enter Tryz.func167,Tryz.ntmps167
  go_wp2;go_ret;exact ⟨_,rfl,Zp _ _ _,((Zc.refl _ w).alloc _).alloc _⟩
theorem Zfm (w:World) (b:Nat) (lo:Option Addr) (ll lc n:Nat) (c:Int) (h:Bool) :
  Calls Tryz.prog 165 #[.agg #[.pointer (some ⟨b,0,none⟩),.slice lo ll lc,.int .i64 (n:Int)],.bool h,.int .i64 c] w λ e w' => ∃ v,e=.returned v∧Yg w' (if h=true then [(0, -1)] else [(c,(n:Int))]) v∧Za w w' := by
 cases h
 ·have cF:=Zd1
  go_enter Tryz.func165,Tryz.ntmps165
  go_wp2_with (first | (go_at_call 167;refine (cF _ _ _ _ _ _ (.inl rfl) _ _).mono ?_;rintro e w1 ⟨k,rfl,hk1,hk2⟩))
  go_ret;exact ⟨_,rfl,.inr ⟨by omega,k,_,rfl,hk1,rfl⟩,Za.trans' ((Zc.refl _ w).alloc _) hk2⟩
 ·go_enter Tryz.func165,Tryz.ntmps165
  go_wp2;go_ret;exact ⟨_,rfl,.inl ⟨rfl,rfl,rfl⟩,(Zc.refl _ w).alloc _⟩
theorem Zl0 {n b:Nat} {w:World} {L:List Sym} (h:Sg n w b L) {x:Int} (hx:x<0∨(L.length:Int)<=x):Calls Tryz.prog 81 #[.pointer (some ⟨b,0,none⟩),.int .i64 x] w λ e w' => e=.returned (.tuple #[.agg #[.string ⟨#[]⟩,.int .i64 0,.bool false],.int .i64 14])∧Za w w' := by
 obtain ⟨⟨sv,mr,h1,_⟩,ha⟩:=h;exact Zwd h1 x hx
theorem Zbk {n b:Nat} {w:World} {L:List Sym} (h:Sg n w b L) {i:Nat} (hi:i<L.length):Calls Tryz.prog 81 #[.pointer (some ⟨b,0,none⟩),.int .i64 (i:Int)] w λ e w' => e=.returned (.tuple #[.agg #[.string L[i].name,.int .i64 L[i].ar,.bool L[i].df],.int .i64 0])∧Za w w' := by
 obtain ⟨⟨sv,mr,h1,_⟩,ha⟩:=h;exact Zqn h1 i hi
theorem Zbf {w:World} {b bs:Nat} {ro:Option Addr} {rc:Nat} {L:List Sym} {R:List Ru} (h:StR w b bs ro rc L R) (lo:Option Addr) (ll lc n:Nat) (x:Int) :
  Calls Tryz.prog 168 #[.agg #[.pointer (some ⟨b,0,none⟩),.slice lo ll lc,.int .i64 (n:Int)],.int .i64 x] w λ e w' => e=.returned (.bool (Y7 L x))∧Za w w' := by
 have K:∀ o,Za w (w.alloc o):=λ o=>(Zc.refl _ w).alloc o;have C:=λ o=>(h.same (K o)).cells.1
 by_cases hx:x<0∨(L.length:Int)<=x
 ·have H1:Hid (Y7 L x=false):=Zf9 hx
  have c:=λ o=>Zl0 (h.same (K o)).sig hx;clear K h
  go_enter Tryz.func168,Tryz.ntmps168
  go_wp2_with (first | (go_at_call 81;refine (c _).mono ?_;rintro e w' ⟨rfl,hk⟩))
  go_ret;exact ⟨by rw [H1.out];rfl,Zc.alloc (Za.trans' ((Zc.refl _ w).alloc _) hk) _⟩
 ·obtain ⟨i,rfl⟩:∃ i:Nat,x=(i:Int):=⟨x.toNat,by omega⟩
  have hi:i<L.length:=by omega
  have H1:Hid (Y7 L (i:Int)=L[i].df):=Zbv hi;have c:=λ o=>Zbk (h.same (K o)).sig hi;clear K h
  go_enter Tryz.func168,Tryz.ntmps168
  go_wp2_with (first | (go_at_call 81;refine (c _).mono ?_;rintro e w' ⟨rfl,hk⟩))
  go_ret;exact ⟨by rw [H1.out];rfl,Zc.alloc (Za.trans' ((Zc.refl _ w).alloc _) hk) _⟩
def Yk (z:Int) (q:Bool):Prop:=decide (0<=z)=q
theorem Yk.eq {z:Int} {q:Bool} (h:Yk z q):decide (0<=z)=q:=h
theorem Zmv {w0:World} {P:Int->Bool} {cb lo:Option Addr} {ll lc:Nat} {n:Int} (hP:∀ ww z,Za w0 ww->Calls Tryz.prog 168 #[.agg #[.pointer cb,.slice lo ll lc,.int .i64 n],.int .i64 z] ww λ e w' => e=.returned (.bool (P z))∧Za w0 w') {so:Option Addr} {sc:Nat} {t:List Int} (ht:Zh w0 so t) (hm:t.length<=2000) {w:World} (hw:Za w0 w) :
  Calls Tryz.prog 109 #[.slice so t.length sc,.func (.func 168) #[.agg #[.pointer cb,.slice lo ll lc,.int .i64 n]] #[]] w λ e w' => ∃ z:Int,e=.returned (.int .i64 z)∧Yk z (t.any P)∧Za w0 w' := by
 have CP:Hid (∀ ww z,Za w0 ww->Calls Tryz.prog 168 #[.agg #[.pointer cb,.slice lo ll lc,.int .i64 n],.int .i64 z] ww λ e w' => e=.returned (.bool (P z))∧Za w0 w'):=hP;clear hP
 go_enter Tryz.func109,Tryz.ntmps109
 go_wp2
 go_loopw [8] (λ i wr=>∃ k:Nat,k<=t.length∧i=.int .i64 (k:Int)∧Hid ((t.take k).any P=false)∧Za w0 wr) (λ i _=>t.length-(intOf i).toNat)
 case atStart=>exact ⟨0,Nat.zero_le _,rfl,by show _=_;simp,hw⟩
 case round=>
  clear hw;obtain ⟨k,hk,rfl,ha,hw⟩:=hrel
  by_cases hlt:k<t.length
  ·obtain ⟨tb,off,rfl,_,hc⟩:=(ht.same hw).get hlt
   have i1:(0:Int)<=(k:Int):=by omega
   have i2:(k:Int)<(t.length:Int):=by omega
   have hz:∀ q,P t[k]=q->Hid (P t[k]=q):=λ q h=>h;cases hq:P t[k] with
   | true=>
    have H:Hid (Yk (k:Int) (t.any P)):=by
     have e1:t.any P=true:=List.any_eq_true.2 ⟨t[k],List.getElem_mem hlt,hq⟩;show decide _=_;rw [e1];simp
    have C:=CP.out _ t[k] hw;rw [hq] at C;clear CP hz hq ha
    go_wp2_with (first | (go_at_call 168;refine C.mono ?_;rintro e w2 ⟨rfl,hw2⟩))
    go_ret;exact ⟨_,rfl,H.out,hw2⟩
   | false=>
    have H:Hid ((t.take (k+1)).any P=false):=by
     have e1:=ha.out;show _=_;rw [List.take_add_one,List.getElem?_eq_getElem hlt,List.any_append,e1];simp [hq]
    have C:=CP.out _ t[k] hw;rw [hq] at C;clear hz hq ha
    go_wp2_with (first | (go_at_call 168;refine C.mono ?_;rintro e w2 ⟨rfl,hw2⟩))
    exact ⟨⟨k+1,by omega,by go_num,H,hw2⟩,by simp [intOf];omega⟩
  ·have H:Hid (Yk (-1) (t.any P)):=by
    have:=ha.out;rw [List.take_of_length_le (by omega)] at this;show decide _=_;rw [this];rfl
   go_wp2;go_ret;exact ⟨_,rfl,H.out,hw⟩
theorem Zgm {w0:World} {P:Int->Bool} {cb lo:Option Addr} {ll lc:Nat} {n:Int} (hP:∀ ww z,Za w0 ww->Calls Tryz.prog 168 #[.agg #[.pointer cb,.slice lo ll lc,.int .i64 n],.int .i64 z] ww λ e w' => e=.returned (.bool (P z))∧Za w0 w') {so:Option Addr} {sc:Nat} {t:List Int} (ht:Zh w0 so t) (hm:t.length<=2000) {w:World} (hw:Za w0 w) :
  Calls Tryz.prog 68 #[.slice so t.length sc,.func (.func 168) #[.agg #[.pointer cb,.slice lo ll lc,.int .i64 n]] #[]] w λ e w' => e=.returned (.bool (t.any P))∧Za w0 w' := by
 have C:=Zmv (sc:=sc) hP ht hm hw;clear hP ht hw
 go_enter Tryz.func68,Tryz.ntmps68
 go_wp2_with (first | (go_at_call 109;refine C.mono ?_;rintro e w2 ⟨z,rfl,hz,hw2⟩))
 go_ret;exact ⟨Ye (Yk.eq hz),hw2⟩
theorem Zjs {w0:World} {P:Int->Bool} {cb:Option Addr} (hP:∀ ww z,Za w0 ww->Calls Tryz.prog 170 #[.int .i64 z,.pointer cb] ww λ e w' => e=.returned (.bool (P z))∧Za w0 w') {so:Option Addr} {sc:Nat} {t:List Int} (ht:Zh w0 so t) (hm:t.length<=2000) {w:World} (hw:Za w0 w) :
  Calls Tryz.prog 109 #[.slice so t.length sc,.func (.func 170) #[] #[.pointer cb]] w λ e w' => ∃ z:Int,e=.returned (.int .i64 z)∧Yk z (t.any P)∧Za w0 w' := by
 have CP:Hid (∀ ww z,Za w0 ww->Calls Tryz.prog 170 #[.int .i64 z,.pointer cb] ww λ e w' => e=.returned (.bool (P z))∧Za w0 w'):=hP;clear hP
 go_enter Tryz.func109,Tryz.ntmps109
 go_wp2
 go_loopw [8] (λ i wr=>∃ k:Nat,k<=t.length∧i=.int .i64 (k:Int)∧Hid ((t.take k).any P=false)∧Za w0 wr) (λ i _=>t.length-(intOf i).toNat)
 case atStart=>exact ⟨0,Nat.zero_le _,rfl,by show _=_;simp,hw⟩
 case round=>
  clear hw;obtain ⟨k,hk,rfl,ha,hw⟩:=hrel
  by_cases hlt:k<t.length
  ·obtain ⟨tb,off,rfl,_,hc⟩:=(ht.same hw).get hlt
   have i1:(0:Int)<=(k:Int):=by omega
   have i2:(k:Int)<(t.length:Int):=by omega
   have hz:∀ q,P t[k]=q->Hid (P t[k]=q):=λ q h=>h;cases hq:P t[k] with
   | true=>
    have H:Hid (Yk (k:Int) (t.any P)):=by
     have e1:t.any P=true:=List.any_eq_true.2 ⟨t[k],List.getElem_mem hlt,hq⟩;show decide _=_;rw [e1];simp
    have C:=CP.out _ t[k] hw;rw [hq] at C;clear CP hz hq ha
    go_wp2_with (first | (go_at_call 170;refine C.mono ?_;rintro e w2 ⟨rfl,hw2⟩))
    go_ret;exact ⟨_,rfl,H.out,hw2⟩
   | false=>
    have H:Hid ((t.take (k+1)).any P=false):=by
     have e1:=ha.out;show _=_;rw [List.take_add_one,List.getElem?_eq_getElem hlt,List.any_append,e1];simp [hq]
    have C:=CP.out _ t[k] hw;rw [hq] at C;clear hz hq ha
    go_wp2_with (first | (go_at_call 170;refine C.mono ?_;rintro e w2 ⟨rfl,hw2⟩))
    exact ⟨⟨k+1,by omega,by go_num,H,hw2⟩,by simp [intOf];omega⟩
  ·have H:Hid (Yk (-1) (t.any P)):=by
    have:=ha.out;rw [List.take_of_length_le (by omega)] at this;show decide _=_;rw [this];rfl
   go_wp2;go_ret;exact ⟨_,rfl,H.out,hw⟩
theorem Zey {w0:World} {P:Int->Bool} {cb:Option Addr} (hP:∀ ww z,Za w0 ww->Calls Tryz.prog 170 #[.int .i64 z,.pointer cb] ww λ e w' => e=.returned (.bool (P z))∧Za w0 w') {so:Option Addr} {sc:Nat} {t:List Int} (ht:Zh w0 so t) (hm:t.length<=2000) {w:World} (hw:Za w0 w) :
  Calls Tryz.prog 68 #[.slice so t.length sc,.func (.func 170) #[] #[.pointer cb]] w λ e w' => e=.returned (.bool (t.any P))∧Za w0 w' := by
 have C:=Zjs (sc:=sc) hP ht hm hw;clear hP ht hw
 go_enter Tryz.func68,Tryz.ntmps68
 go_wp2_with (first | (go_at_call 109;refine C.mono ?_;rintro e w2 ⟨z,rfl,hz,hw2⟩))
 go_ret;exact ⟨Ye (Yk.eq hz),hw2⟩
theorem Znq {w:World} {so:Option Addr} {sc:Nat} {t:List Int} (ht:Zh w so t) (hm:t.length<=2000) (y:Int) :
  Calls Tryz.prog 134 #[.slice so t.length sc,.int .i64 y] w λ e w' => ∃ z:Int,e=.returned (.int .i64 z)∧Yk z (decide (y∈t))∧w' = w:=by
 go_enter Tryz.func134,Tryz.ntmps134
 go_wp2
 go_loop [8] (λ i=>∃ k:Nat,k<=t.length∧i=.int .i64 (k:Int)∧Hid (¬ y∈t.take k)) (λ i=>t.length-(intOf i).toNat)
 case atStart=>exact ⟨0,Nat.zero_le _,rfl,by show ¬ _;simp⟩
 case round=>
  obtain ⟨k,hk,rfl,ha⟩:=hrel
  by_cases hlt:k<t.length
  ·obtain ⟨tb,off,rfl,_,hc⟩:=ht.get hlt
   have i1:(0:Int)<=(k:Int):=by omega
   have i2:(k:Int)<(t.length:Int):=by omega
   by_cases hq:y=t[k]
   ·have H:Hid (Yk (k:Int) (decide (y∈t))):=by
     have e1:y∈t:=hq ▸ List.getElem_mem hlt;show decide _=_;simp [e1]
    have q1:(y == t[k])=true:=by simpa using hq
    clear hq ha;go_wp2;go_ret;exact ⟨_,rfl,H.out,rfl⟩
   ·have H:Hid (¬ y∈t.take (k+1)):=by
     have e1:=ha.out;intro hmem;rw [List.take_add_one,List.getElem?_eq_getElem hlt] at hmem
     rcases List.mem_append.1 hmem with q | q
     ·exact e1 q
     ·simp at q;exact hq q
    have q1:(y == t[k])=false:=by simpa using hq
    clear hq ha;go_wp2;exact ⟨⟨k+1,by omega,by go_num,H⟩,by simp [intOf];omega⟩
  ·have H:Hid (Yk (-1) (decide (y∈t))):=by
    have:=ha.out;rw [List.take_of_length_le (by omega)] at this;show decide _=_;simp [this]
   go_wp2;go_ret;exact ⟨_,rfl,H.out,rfl⟩
theorem Zgg {w:World} {so:Option Addr} {sc:Nat} {t:List Int} (ht:Zh w so t) (hm:t.length<=2000) (y:Int) :
  Calls Tryz.prog 171 #[.slice so t.length sc,.int .i64 y] w λ e w' => e=.returned (.bool (decide (y∈t)))∧w' = w:=by
 have C:=Znq (sc:=sc) ht hm y;clear ht
 go_enter Tryz.func171,Tryz.ntmps171
 go_wp2_with (first | (go_at_call 134;refine C.mono ?_;rintro e w2 ⟨z,rfl,hz,rfl⟩))
 go_ret;exact ⟨Ye (Yk.eq hz),rfl⟩
theorem Zub (x:Int) (w:World):Calls Tryz.prog 93 #[.int .i64 x] w λ e w' => e=.returned (.bool (decide (x<0)))∧w' = w:=by
 go_enter Tryz.func93,Tryz.ntmps93
 go_wp2;go_ret;exact ⟨rfl,rfl⟩
def Jh (n:Int) (m:Nat):Bool:=decide (0<=n) && decide (n<(m:Int))
theorem Xj (n:Int) (m:Nat) (w:World):Calls Tryz.prog 56 #[.int .i64 n,.int .i64 (m:Int)] w λ e w' => e=.returned (.bool (Jh n m))∧w' = w:=by
 by_cases h:0<=n
 ·have H:Hid (Jh n m=decide (n<(m:Int))):=by show _=_;simp [Jh,h]
  go_enter Tryz.func56,Tryz.ntmps56
  go_wp2;go_ret;exact ⟨by rw [H.out];rfl,rfl⟩
 ·have H:Hid (Jh n m=false):=by show _=_;simp [Jh,h]
  go_enter Tryz.func56,Tryz.ntmps56
  go_wp2;go_ret;exact ⟨by rw [H.out];rfl,rfl⟩
theorem Zjy {w:World} {so:Option Addr} {sc:Nat} {t:List Int} (ht:Zh w so t) (hm:t.length<=maxLen) :
  Calls Tryz.prog 109 #[.slice so t.length sc,.func (.func 93) #[] #[]] w λ e w' => ∃ z:Int,e=.returned (.int .i64 z)∧Yk z (t.any (λ x=>decide (x<0)))∧w' = w:=by
 have CV:=Zub;unfold maxLen at hm
 go_enter Tryz.func109,Tryz.ntmps109
 go_wp2
 go_loop [8] (λ i=>∃ k:Nat,k<=t.length∧i=.int .i64 (k:Int)∧Hid ((t.take k).any (λ x=>decide (x<0))=false)) (λ i=>t.length-(intOf i).toNat)
 case atStart=>exact ⟨0,Nat.zero_le _,rfl,by show _=_;simp⟩
 case round=>
  obtain ⟨k,hk,rfl,ha⟩:=hrel
  by_cases hlt:k<t.length
  ·obtain ⟨tb,off,rfl,_,hc⟩:=ht.get hlt
   have i1:(0:Int)<=(k:Int):=by omega
   have i2:(k:Int)<(t.length:Int):=by omega
   have C:=CV t[k] w;cases hq:decide (t[k]<0) with
   | true=>
    have H:Hid (Yk (k:Int) (t.any (λ x=>decide (x<0)))):=by
     have e1:t.any (λ x=>decide (x<0))=true:=List.any_eq_true.2 ⟨t[k],List.getElem_mem hlt,hq⟩;show decide _=_;rw [e1];simp
    rw [hq] at C;clear hq ha CV
    go_wp2_with (first | (go_at_call 93;refine C.mono ?_;rintro e w2 ⟨rfl,rfl⟩))
    go_ret;exact ⟨_,rfl,H.out,rfl⟩
   | false=>
    have H:Hid ((t.take (k+1)).any (λ x=>decide (x<0))=false):=by
     have e1:=ha.out;show _=_;rw [List.take_add_one,List.getElem?_eq_getElem hlt,List.any_append,e1]
     simpa using hq
    rw [hq] at C;clear hq ha CV
    go_wp2_with (first | (go_at_call 93;refine C.mono ?_;rintro e w2 ⟨rfl,rfl⟩))
    exact ⟨⟨k+1,by omega,by go_num,H⟩,by simp [intOf];omega⟩
  ·have H:Hid (Yk (-1) (t.any (λ x=>decide (x<0)))):=by
    have:=ha.out;rw [List.take_of_length_le (by omega)] at this;show decide _=_;rw [this];rfl
   go_wp2;go_ret;exact ⟨_,rfl,H.out,rfl⟩
theorem Zez {w:World} {so:Option Addr} {sc:Nat} {t:List Int} (ht:Zh w so t) (hm:t.length<=maxLen) :
  Calls Tryz.prog 68 #[.slice so t.length sc,.func (.func 93) #[] #[]] w λ e w' => e=.returned (.bool (t.any (λ x=>decide (x<0))))∧w' = w:=by
 have C:=Zjy (sc:=sc) ht hm;clear ht;generalize t.any (λ x=>decide (x<0))=z at *
 go_enter Tryz.func68,Tryz.ntmps68
 go_wp2_with (first | (go_at_call 109;refine C.mono ?_;rintro e w2 ⟨z', rfl,hz,rfl⟩))
 go_ret;exact ⟨Ye (Yk.eq hz),rfl⟩
end
def Tr:Nat->Type
 | 0=>Empty
 | n+1=>Int × Int × List Int × List (Int × Tr n)
abbrev Rw:=Int × List Int × List Nat
def Xo (x:Rw) (c:Nat):Int:=x.2.1.getD (x.2.2.getD c 0) (-1)
def Zet (rows:List Rw) (c:Nat):Bool:=rows.all (λ x=>decide (0<=Xo x c))
def Yw (rows:List Rw):Nat->Option Nat
 | 0=>none
 | k+1=>match Yw rows k with
  | some c=>some c
  | none=>if Zet rows k then some k else none
def Zhe {α:Type} (l:List α) (c:Nat) (m:List α):List α:=l.take c++m++l.drop (c+1)
def Yu (L:List Sym) (paths:List (List Int)) (c s:Nat):List (List Int):=Zhe paths c ((List.range (arN L (s:Int))).map (λ (i:Nat)=>paths.getD c [] ++ [(i:Int)]))
def Vj (L:List Sym) (c:Nat) (x:Rw):Rw:=(x.1,x.2.1,Zhe x.2.2 c (Zz L x.2.1 (x.2.2.getD c 0)))
def Yc (rows:List Rw) (c:Nat) (s:Int):List Rw:=rows.filter (λ x=>decide (Xo x c=s))
def Zbr {α:Type} (has:Nat->Bool) (g:Nat->Except Int α):Nat->Except Int (List (Int × α))
 | 0=>.ok []
 | k+1=>match Zbr has g k with
  | .error e=>.error e
  | .ok l=>if has k then (match g k with | .error e=>.error e | .ok t=>.ok (l ++ [((k:Int),t)])) else .ok l
def Xf (L:List Sym):(n:Nat)->List (List Int)->List Rw->Except Int (Tr n)
 | 0,_,_=>.error 0
 | n+1,paths,rows=>
  if rows.length=0 then .ok (3,0,[],[])
  else match Yw rows paths.length with
   | some c=>(match Zbr (λ s=>decide (0<(Yc rows c (s:Int)).length)) (λ s=>Xf L n (Yu L paths c s) ((Yc rows c (s:Int)).map (Vj L c))) L.length with
    | .error e=>.error e
    | .ok l=>.ok (2,0,paths.getD c [],l))
   | none=>if rows.length=1 then .ok (1,(rows.headD (0,[],[])).1,[],[]) else .error (rows.headD (0,[],[])).1
def Zbs:List Nat->Nat
 | []=>0
 | a :: l=>a+Zbs l
theorem Zaw (a b:List Nat):Zbs (a++b)=Zbs a+Zbs b:=by
 induction a with
 | nil=>simp [Zbs]
 | cons x r ih=>simp [Zbs,ih];omega
def wtL (L:List Sym) (t:List Int) (ps:List Nat):Nat:=Zbs (ps.map (λ p=>Zq L t p-p))
theorem Znj (L:List Sym) (t:List Int) (a b:List Nat):wtL L t (a++b)=wtL L t a+wtL L t b:=by simp [wtL,Zaw]
theorem Zft {L:List Sym} {t:List Int}:∀ (k p q:Nat),Zu L t k p q->wtL L t (Zr L t k p)=q-p∧∀ x∈Zr L t k p,x<t.length
 | 0,p,q,h=>by
  have:=h.zero;subst this;exact ⟨by simp [Zr,wtL,Zbs],by simp [Zr]⟩
 | k+1,p,q,h=>by
  obtain ⟨h1,h2,h3⟩:=h.succ;obtain ⟨a,b⟩:=Zft k _ _ h3;have hle:=h3.le;refine ⟨?_,λ x hx=>?_⟩
  ·show (Zq L t p-p)+wtL L t (Zr L t k (Zq L t p))=_
   rw [a];omega
  ·rcases List.mem_cons.1 (show x∈p :: Zr L t k (Zq L t p) from hx) with rfl | hx
   ·omega
   ·exact b x hx
theorem Zgd {L:List Sym} {t:List Int} (h:IsT L t) {p:Nat} (hp:p<t.length):wtL L t (Zz L t p)+1=Zq L t p-p∧∀ x∈Zz L t p,x<t.length:=by
 obtain ⟨_,hk⟩:=(Zu.one h hp).kids;rw [Ya hp];obtain ⟨a,b⟩:=Zft _ _ _ hk;have:=hk.le;exact ⟨by omega,b⟩
structure Zob (L:List Sym) (n:Nat) (paths:List (List Int)) (rows:List Rw):Prop where
 pos:0<n
 le:rows.length<=100
 few:paths.length<=4000
 len:∀ p∈paths,0<p.length∧p.length+n<=4000
 ok:∀ x∈rows,Ze L x.2.1=0∧x.2.2.length=paths.length∧(∀ p∈x.2.2,p<x.2.1.length)∧wtL L x.2.1 x.2.2<n
theorem Zc3 {rows:List Rw} {c:Nat} {s:Int} {x:Rw} (h:x∈Yc rows c s):x∈rows∧Xo x c=s:=by
 simpa [Yc] using h
theorem Y8 {α:Type} {l:List α} {c:Nat} (h:c<l.length) (d:α):l.getD c d=l[c]:=by simp [List.getD,h]
theorem Zam {α:Type} {l:List α} {c:Nat} (h:c<l.length) (m:List α):(Zhe l c m).length=l.length-1+m.length:=by
 simp [Zhe];omega
theorem Zlm {L:List Sym} {t:List Int} {ps:List Nat} {c:Nat} (h:c<ps.length) (m:List Nat):wtL L t (Zhe ps c m)+(Zq L t ps[c]-ps[c])=wtL L t ps+wtL L t m:=by
 have e:ps=ps.take c ++ [ps[c]]++ps.drop (c+1):=by
  rw [List.append_assoc,List.singleton_append,List.getElem_cons_drop,List.take_append_drop]
 have e2:wtL L t ps=wtL L t (ps.take c ++ [ps[c]]++ps.drop (c+1)):=by rw [<- e]
 rw [e2];have e3:wtL L t [ps[c]]=Zq L t ps[c]-ps[c]:=by simp [wtL,Zbs]
 simp only [Zhe,Znj,e3];omega
theorem Zaa {rows:List Rw}:∀ {k c:Nat},Yw rows k=some c->c<k∧Zet rows c=true
 | 0,c,h=>by cases h
 | k+1,c,h=>by
  unfold Yw at h;cases hk:Yw rows k with
  | some c' =>
   rw [hk] at h;cases h;have:=Zaa hk;exact ⟨by omega,this.2⟩
  | none=>
   rw [hk] at h;simp only at h;split at h
   ·cases h;exact ⟨by omega,by assumption⟩
   ·cases h
theorem Za2 {x:Rw} {c:Nat} (h1:c<x.2.2.length) (h2:x.2.2[c]<x.2.1.length):Xo x c=x.2.1[x.2.2[c]]:=by
 unfold Xo;rw [Y8 h1,Y8 h2]
theorem Zob.kid {L:List Sym} {n:Nat} {paths:List (List Int)} {rows:List Rw} (h:Zob L (n+1) paths rows) {c s:Nat} (hc:c<paths.length) (hs:s<L.length) (ha:arN L (s:Int)<=6) (hne:Yc rows c (s:Int)≠[]):Zob L n (Yu L paths c s) ((Yc rows c (s:Int)).map (Vj L c)):=by
 have key:∀ x∈Yc rows c (s:Int),Ze L x.2.1=0∧(Vj L c x).2.2.length=(Yu L paths c s).length∧(∀ p∈(Vj L c x).2.2,p<x.2.1.length)∧wtL L x.2.1 (Vj L c x).2.2<n:=by
  intro x hx;obtain ⟨hx1,hx2⟩:=Zc3 hx;obtain ⟨k1,k2,k3,k4⟩:=h.ok x hx1;have hc' : c<x.2.2.length:=by omega
  have hp:=k3 _ (List.getElem_mem hc');have hT:=(Zg.1 k1).2.2;obtain ⟨a1,a2⟩:=Zgd hT hp;rw [Za2 hc' hp] at hx2;have hal:(Zz L x.2.1 x.2.2[c]).length=arN L (s:Int):=by rw [Ya hp,Zl,hx2]
  refine ⟨k1,?_,?_,?_⟩
  ·simp only [Vj,Yu]
   rw [Y8 hc', Zam hc', Zam hc,hal];simp;omega
  ·intro p hp'
   simp only [Vj] at hp';rw [Y8 hc'] at hp'
   rcases List.mem_append.1 hp' with q | q
   ·rcases List.mem_append.1 q with q | q
    ·exact k3 p (List.mem_of_mem_take q)
    ·exact a2 p q
   ·exact k3 p (List.mem_of_mem_drop q)
  ·simp only [Vj]
   rw [Y8 hc'];have:=Zlm (L:=L) (t:=x.2.1) hc' (Zz L x.2.1 x.2.2[c]);omega
 obtain ⟨x0,hx0⟩:=List.exists_mem_of_ne_nil _ hne;refine ⟨?_,?_,?_,?_,?_⟩
 ·have:=(key x0 hx0).2.2.2;omega
 ·rw [List.length_map]
  exact Nat.le_trans (List.length_filter_le _ _) h.le
 ·obtain ⟨k1,k2,k3,k4⟩:=key x0 hx0
  have hT:=(Zg.1 k1)
  have hb:∀ (ps:List Nat),(∀ p∈ps,p<x0.2.1.length)->ps.length<=wtL L x0.2.1 ps:=by
   intro ps
   induction ps with
   | nil=>simp
   | cons p r ih=>
    intro hp;have:=ih (λ q hq=>hp q (List.mem_cons_of_mem _ hq));have e:=Zax hT.2.2 (hp p (List.mem_cons_self ..));show r.length+1<=(Zq L x0.2.1 p-p)+wtL L x0.2.1 r;omega
  have hl:=hb _ k3
  have hn:n<=3999:=by
   have:=h.len _ (List.getElem_mem hc);omega
  omega
 ·intro p hp
  have hpc:=h.len _ (List.getElem_mem hc);simp only [Yu,Zhe] at hp
  rcases List.mem_append.1 hp with q | q
  ·rcases List.mem_append.1 q with q | q
   ·have:=h.len p (List.mem_of_mem_take q);omega
   ·obtain ⟨i,_,rfl⟩:=List.mem_map.1 q
    rw [Y8 hc];simp;omega
  ·have:=h.len p (List.mem_of_mem_drop q);omega
 ·intro y hy
  obtain ⟨x,hx,rfl⟩:=List.mem_map.1 hy;exact key x hx
section
open Go.RowKit
attribute [local go_sem ↓] Go.wp_at_zero Go.wp_at_succ
theorem Kp:(Tryz.prog.info? 68).map (λ i=>(i.zero,i.size,i.bytes))=some (some (.agg #[.slice none 0 0,.slice none 0 0]),2,48):=by kernel_rfl
def X0 (w:World) (vs:List Value) (l:List Ru):Prop:=
 vs.length=l.length * 2∧∀ i (h:i<l.length),∃ ao ac bo bc,vs[i * 2]? = some (.slice ao l[i].1.length ac)∧vs[i * 2+1]? = some (.slice bo l[i].2.length bc)∧Arg w ao l[i].1 ac∧Arg w bo l[i].2 bc
theorem X0.nil (w:World):X0 w [] []:=⟨rfl,λ i h=>absurd h (by simp)⟩
theorem X0.same {w w' : World} {vs:List Value} {l:List Ru} (h:X0 w vs l) (hk:Za w w'):X0 w' vs l:=
 ⟨h.1,λ i hi=>by
  obtain ⟨ao,ac,bo,bc,h1,h2,h3,h4⟩:=h.2 i hi
  exact ⟨ao,ac,bo,bc,h1,h2,h3.same hk,h4.same hk⟩⟩
theorem X0.append {w:World} {vs us:List Value} {l m:List Ru} (h:X0 w vs l) (k:X0 w us m):X0 w (vs++us) (l++m):=by
 refine ⟨by simp [h.1,k.1];omega,λ i hi=>?_⟩
 by_cases hl:i<l.length
 ·rw [List.getElem_append_left hl,List.getElem?_append_left (by rw [h.1];omega),List.getElem?_append_left (by rw [h.1];omega)]
  exact h.2 i hl
 ·have hm:i-l.length<m.length:=by simp at hi;omega
  rw [List.getElem_append_right (by omega),List.getElem?_append_right (by rw [h.1];omega),List.getElem?_append_right (by rw [h.1];omega)];have e1:i * 2-vs.length=(i-l.length) * 2:=by rw [h.1];omega
  have e2:i * 2+1-vs.length=(i-l.length) * 2+1:=by rw [h.1];omega
  rw [e1,e2];exact k.2 _ hm
theorem X0.one {w:World} {vs:List Value} {l:List Ru} (h:X0 w vs l):∀ u∈vs,u.oneCell' = true:=by
 intro u hu;obtain ⟨j,hj,rfl⟩:=List.mem_iff_getElem.1 hu;have hj' : j / 2<l.length:=by rw [h.1] at hj;omega
 obtain ⟨ao,ac,bo,bc,h1,h2,_⟩:=h.2 (j / 2) hj'
 rcases Nat.mod_two_eq_zero_or_one j with e | e
 ·have e1:j / 2 * 2=j:=by omega
  rw [e1,List.getElem?_eq_getElem hj] at h1;simp only [Option.some.injEq] at h1;rw [h1];rfl
 ·have e1:j / 2 * 2+1=j:=by omega
  rw [e1,List.getElem?_eq_getElem hj] at h2;simp only [Option.some.injEq] at h2;rw [h2];rfl
theorem Xq (b off j:Nat):(⟨b,off,none⟩:Addr).add j=⟨b,off+j,none⟩:=by
 unfold Addr.add;split
 ·rename_i h;subst h;simp
 ·simp
theorem V7.cells {w:World} {lo:Option Addr} {l:List Ru} (h:V7 w lo l):∃ vs,X0 w vs l∧∀ ad,lo=some ad->∀ j u,vs[j]? = some u->w.cell? (ad.add j)=some u:=by
 rcases h with rfl | ⟨b,off,rfl,hb,hc⟩
 ·exact ⟨[],X0.nil w,λ ad _ j u hj=>by simp at hj⟩
 ·have key:∀ j,j<l.length * 2->∃ u,w.cell? ⟨b,off+j,none⟩=some u:=λ j hj=>by
   obtain ⟨ao,ac,bo,bc,h1,h2,_⟩:=hc (j / 2) (by omega)
   rcases Nat.mod_two_eq_zero_or_one j with e | e
   ·exact ⟨_,by rw [<- h1];congr 2;omega⟩
   ·exact ⟨_,by rw [<- h2];congr 2;omega⟩
  refine ⟨(List.range (l.length * 2)).map (λ j=>(w.cell? ⟨b,off+j,none⟩).getD undef),⟨by simp,λ i hi=>?_⟩,λ ad e j u hj=>?_⟩
  ·obtain ⟨ao,ac,bo,bc,h1,h2,h3,h4⟩:=hc i hi
   have g1:i * 2<l.length * 2:=by omega
   have g2:i * 2+1<l.length * 2:=by omega
   have h2' : w.cell? ⟨b,off+(i * 2+1),none⟩=some (.slice bo l[i].2.length bc):=by rw [<- h2];congr 2
   exact ⟨ao,ac,bo,bc,by simp [g1,h1],by simp [g2,h2'],h3,h4⟩
  ·cases e
   rw [Xq];have hlt:j<l.length * 2:=by have:=(List.getElem?_eq_some_iff.1 hj).1;simpa using this
   obtain ⟨v,hv⟩:=key j hlt;simp [hlt,hv] at hj;rw [hv,hj]
theorem Zba {w:World} {base N:Nat} {v:Value} {vs:List Value} {l:List Ru} (hr:w.ownsRow base 68 2 v N vs) (hc:X0 w vs l):∃ ao cap,v=.slice ao l.length cap∧V7 w ao l∧(ao=none->cap=0)∧N=l.length:=by
 have hN:N=l.length:=by have:=hr.1;rw [hc.1] at this;omega
 subst hN
 rcases hr.2 with ⟨rfl,h0⟩ | ⟨g,cap,cur,rfl,_,hg,_,_,_,ht⟩
 ·exact ⟨none,0,by rw [h0],.inl (List.eq_nil_of_length_eq_zero h0),λ _=>rfl,rfl⟩
 ·refine ⟨_,cap,rfl,.inr ⟨g,0,rfl,Zi hg,λ i hi=>?_⟩,(λ e=>by cases e),rfl⟩
  obtain ⟨ao,ac,bo,bc,h1,h2,h3,h4⟩:=hc.2 i hi;have q1:=hr.cells (g:=g) rfl _ _ h1;have q2:=hr.cells (g:=g) rfl _ _ h2;rw [Xq] at q1 q2;exact ⟨ao,ac,bo,bc,q1,by rw [<- q2];congr 2,h3,h4⟩
theorem V7.src {w:World} {lo:Option Addr} {l:List Ru} (h:V7 w lo l):∃ us,X0 w us l∧Hid (∀ ww,Za w ww->∀ ad,lo=some ad->∀ j u,us[j]? = some u->ww.cell? (ad.add j)=some u):=by
 obtain ⟨us,h1,h2⟩:=h.cells;refine ⟨us,h1,λ ww hk ad e j u hj=>?_⟩;have:=h2 ad e j u hj;exact (hk.cell (World.block_lt_of_cell? w _ this) (λ f=>f)).trans this
theorem V5 {w0 W:World} {ops:Array Oper} {rest:List Oper} {o:Oper} {a:Act} {Q:Exit->Act->World->Prop} (hgd:o.guard=none) (s x:Operand)
  (ho:o.op=.call { callee:=.builtin .append,args:=#[s,x],argTypes:=#[23,23] })
  (base N:Nat) (vs:List Value) (v:Value) (hs:a.eval s=v) (hr:w0.ownsRow base 68 2 v N vs) (lo:Option Addr) (lc:Nat) (l:List Ru) (us:List Value) (hx:a.eval x=.slice lo l.length lc) (hc:X0 W us l) (hu:∀ ad,lo=some ad->∀ j u,us[j]? = some u->w0.cell? (ad.add j)=some u) (hn:lo=none->lc=0∧l=[]) (hb:base<=w0.heap.size) (hsz:N+l.length<=1000)
  (h:∀ v' w', w'.ownsRow base 68 2 v' (N+l.length) (vs++us)->Zc (λ k=>v.ownBlock=some k) w0 w' -> wpList Tryz.prog ops Q rest (a.put o.dst v') w') :
  wpList Tryz.prog ops Q (o :: rest) a w0:=by
 obtain ⟨i,hi,hz0,hz1,hz2⟩:=info_parts Kp;cases lo with
 | none=>
  obtain ⟨rfl,rfl⟩:=hn rfl;have e0:us=[]:=List.eq_nil_of_length_eq_zero (by simpa using hc.1);subst e0;refine wpList_append_own_none hgd s x 23 ho base 68 i 2 Tryz.underlying23 hi v N vs hs hr hx ?_;exact h v w0 (by simpa using hr) (Zc.refl _ _)
 | some ad=>
  refine wpList_append_own _ hgd s x 23 ho base 68 i _ 2 48 Tryz.underlying23 hi hz0 hz1 hz2 rfl (by decide) v N vs hs hr ad l.length lc us hx hc.1 (hu ad rfl) hc.one (by unfold maxLen;omega) (by omega) hb ?_;intro v' w' hown hgrow _;exact h v' w' hown (Zc.grown (Zc.refl _ w0) hgrow (λ _ e _=>e))
theorem V7.none {w:World} {lo:Option Addr} {l:List Ru} {lc:Nat} (h:V7 w lo l) (hn:lo=none->lc=0):lo=none->lc=0∧l=[]:=λ e=>⟨hn e,by
 rcases h with h | ⟨_,_,e', _⟩
 ·exact h
 ·rw [e] at e'; cases e'⟩
structure Src (w:World) (ao:Option Addr) (m c:Nat) (us:List Value):Prop where
 len:us.length=m
 one:∀ u∈us,u.oneCell' = true
 at' : ∀ ad,ao=some ad->∀ j u,us[j]? = some u->w.cell? (ad.add j)=some u
 nul:ao=none->c=0∧us=[]
theorem Src.same {w w' : World} {ao:Option Addr} {m c:Nat} {us:List Value} (h:Src w ao m c us) (hk:Za w w'):Src w' ao m c us:=
 ⟨h.len,h.one,λ ad e j u hj=>by
  have:=h.at' ad e j u hj
  exact (hk.cell (World.block_lt_of_cell? w _ this) (λ f=>f)).trans this,h.nul⟩
theorem Src.nil (w:World) (ao:Option Addr) (c:Nat) (h:ao=none->c=0):Src w ao 0 c []:=⟨rfl,by simp,λ ad e j u hj=>by simp at hj,λ e=>⟨h e,rfl⟩⟩
theorem Zih:(Tryz.prog.info? 3).map (λ i=>(i.zero,i.size,i.bytes))=some (some (.int .i64 0),1,8):=by kernel_rfl
theorem Vv {w0:World} {ops:Array Oper} {rest:List Oper} {o:Oper} {a:Act} {Q:Exit->Act->World->Prop} (hgd:o.guard=none) (s x:Operand)
  (ho:o.op=.call { callee:=.builtin .append,args:=#[s,x],argTypes:=#[32,32] })
  (base N:Nat) (vs:List Value) (v:Value) (hs:a.eval s=v) (hr:w0.ownsRow base 3 1 v N vs) (lo:Option Addr) (m lc:Nat) (us:List Value) (hx:a.eval x=.slice lo m lc) (hc:Src w0 lo m lc us) (hb:base<=w0.heap.size) (hsz:N+m<=20000)
  (h:∀ v' w', w'.ownsRow base 3 1 v' (N+m) (vs++us)->Zc (λ k=>v.ownBlock=some k) w0 w' -> wpList Tryz.prog ops Q rest (a.put o.dst v') w') :
  wpList Tryz.prog ops Q (o :: rest) a w0:=by
 obtain ⟨i,hi,hz0,hz1,hz2⟩:=info_parts Zih;cases lo with
 | none=>
  obtain ⟨rfl,rfl⟩:=hc.nul rfl;obtain rfl:m=0:=by simpa using hc.len.symm
  refine wpList_append_own_none hgd s x 32 ho base 3 i 1 Tryz.underlying32 hi v N vs hs hr hx ?_;exact h v w0 (by simpa using hr) (Zc.refl _ _)
 | some ad=>
  refine wpList_append_own _ hgd s x 32 ho base 3 i _ 1 8 Tryz.underlying32 hi hz0 hz1 hz2 rfl (by decide) v N vs hs hr ad m lc us hx (by rw [hc.len];omega) (hc.at' ad rfl) hc.one (by unfold maxLen;omega) (by omega) hb ?_;intro v' w' hown hgrow _;exact h v' w' hown (Zc.grown (Zc.refl _ w0) hgrow (λ _ e _=>e))
theorem Zhu (w:World) (N:Nat) (hN:N<=20000) :
  Calls Tryz.prog 155 #[.slice none 0 0,.int .i64 (N:Int)] w λ e w' => ∃ v,e=.returned v∧w'.ownsRow w.heap.size 3 1 v 0 []∧Za w w' := by
 have i0:¬ (N:Int)<0:=by omega
 by_cases h0:N=0
 ·subst h0
  go_enter Tryz.func155,Tryz.ntmps155
  go_wp2;go_ret;exact ⟨_,rfl,World.ownsRow_nil _ _ _ _,Zc.refl _ _⟩
 ·obtain ⟨i,hi,hz0,hz1,hz2⟩:=info_parts Zih
  have i1:(0:Int)<(N:Int):=by omega
  have hrun:=λ ty=>Lib.run_append_nil_zeros (P:=Tryz.prog) w 32 3 ty 3 i _ .i64 .i64 Tryz.underlying32 Tryz.underlying3 hi hz0 N (by omega) (by omega) (by omega) (by rw [hz2];omega);have hge:=grownCap_ge w N 0 3;have hle:=grownCap_le_maxLen w N 0 3 (by unfold maxLen;omega);generalize grownCap w N 0 3=cap at *;obtain ⟨Z,hZ⟩:∃ Z,Z=Builtin.zeroCells (Value.cells (.int .i64 0)) N++Builtin.zeroCells (Value.cells (.int .i64 0)) (cap-N):=⟨_,rfl⟩;rw [<- hZ] at hrun
  have hzs:Z.size=cap * 1:=by
   rw [hZ,Array.size_append,size_zeroCells,size_zeroCells];have:(Value.cells (.int .i64 0)).size=1:=rfl;rw [this];omega
  have HR:Hid ((w.drew.alloc (.cells Z 3)).ownsRow w.heap.size 3 1 (.slice (some ⟨w.heap.size,0,none⟩) 0 cap) 0 []):=⟨rfl,.inr ⟨w.heap.size,cap,Z,rfl,Nat.le_refl _,heap_alloc_new w.drew _,Nat.zero_le _,hle,hzs,by simp⟩⟩;have HK:Hid (Za w (w.drew.alloc (.cells Z 3))):=((Zc.refl _ w).drew).alloc _;clear hZ hzs hi hz0 hz1 hz2 hge hle;have j1:(0:Int)<=(cap:Int):=by omega
  go_enter Tryz.func155,Tryz.ntmps155
  go_wp2_with (first | (at_builtin;refine Lib.wpList_append_run _ rfl _ _ 32 3 rfl _ _ rfl rfl _ _ (hrun _) ?_))
  go_ret;exact ⟨_,rfl,HR.out,HK.out⟩
theorem Xu {w w1 w2:World} {base N:Nat} {v:Value} {vs:List Value} (hk:Za w w1) (hr:w1.ownsRow base 3 1 v N vs) (hb:w.heap.size<=base) (k2:Zc (λ k=>v.ownBlock=some k) w1 w2):Za w w2:=
 Zc.trans hk k2 (λ i hi e=>by have:=(hr.lt i e).1;omega)
theorem Zh7 {w:World} {g:Nat} {a0:Option Addr} {m0 c0:Nat} {u0:List Value} {a1:Option Addr} {m1 c1:Nat} {u1:List Value} (hg:w.heap[g]? = some (.cells #[.slice a0 m0 c0,.slice a1 m1 c1] 32 (0,0))) (h0:Src w a0 m0 c0 u0) (h1:Src w a1 m1 c1 u1) (hl:m0+m1<=20000) :
  Calls Tryz.prog 122 #[.slice (some ⟨g,0,none⟩) 2 2] w λ e w' => ∃ v,e=.returned v∧w'.ownsRow w.heap.size 3 1 v (m0+m1) (u0++u1)∧Za w w' := by
 have C0:Hid (∀ ww,Za w ww->ww.cell? ⟨g,0,none⟩=some (.slice a0 m0 c0)∧ww.cell? ⟨g,1,none⟩=some (.slice a1 m1 c1)):=λ ww hk=>⟨Zb (hk.at0 hg) 0,Zb (hk.at0 hg) 1⟩;obtain ⟨x0,x1⟩:=C0.out w (Zc.refl _ _);have G:=λ ww=>Zhu ww (m0+m1) (by omega);have e1:((m0+m1:Nat):Int)=(m0:Int)+(m1:Int):=by omega
 rw [e1] at G;have H0:Hid (∀ ww,Za w ww->Src ww a0 m0 c0 u0):=λ ww hk=>h0.same hk;have H1:Hid (∀ ww,Za w ww->Src ww a1 m1 c1 u1):=λ ww hk=>h1.same hk;clear e1 hg h0 h1
 go_enter Tryz.func122,Tryz.ntmps122
 go_wp2;refine wp_loop_rounds 3 ?_;rw [rounds_succ];go_wp2;rw [rounds_succ];go_wp2;rw [rounds_succ]
 go_wp2_with (first | (go_at_call 155;refine (G _).mono ?_;rintro e w1 ⟨v,rfl,hr,hk⟩))
 obtain ⟨vo,vc,rfl⟩:=Zf hr;obtain ⟨d0,d1⟩:=C0.out _ hk;have z1:=hk.size;clear x0 x1 G;refine wp_loop_rounds 3 ?_;rw [rounds_succ]
 go_wp2_with (first | (at_builtin;refine Vv rfl _ _ rfl w.heap.size 0 [] _ rfl hr a0 m0 c0 u0 rfl (H0.out _ hk) z1 (by omega) ?_;intro v2 w2 hr2 k2))
 have s2:=Xu hk hr (Nat.le_refl _) k2;obtain ⟨vo2,vc2,rfl⟩:=Zf hr2;obtain ⟨f2_0,f2_1⟩:=C0.out _ s2;have z2:=s2.size;clear d0 d1 z1 hr k2 hk;rw [rounds_succ]
 go_wp2_with (first | (at_builtin;refine Vv rfl _ _ rfl w.heap.size _ _ _ rfl hr2 a1 m1 c1 u1 rfl (H1.out _ s2) z2 (by omega) ?_;intro v3 w3 hr3 k3))
 have s3:=Xu s2 hr2 (Nat.le_refl _) k3;obtain ⟨vo3,vc3,rfl⟩:=Zf hr3;have E3:Hid (w3.ownsRow w.heap.size 3 1 (.slice vo3 (0+m0+m1) vc3) (m0+m1) (u0++u1)):=by simpa [Hid] using hr3
 clear hr3 k3;rw [rounds_succ];go_wp2;go_ret;exact ⟨_,rfl,E3.out,s3⟩
theorem Zhm {w:World} {g:Nat} {a0:Option Addr} {m0 c0:Nat} {u0:List Value} {a1:Option Addr} {m1 c1:Nat} {u1:List Value} {a2:Option Addr} {m2 c2:Nat} {u2:List Value} (hg:w.heap[g]? = some (.cells #[.slice a0 m0 c0,.slice a1 m1 c1,.slice a2 m2 c2] 32 (0,0))) (h0:Src w a0 m0 c0 u0) (h1:Src w a1 m1 c1 u1) (h2:Src w a2 m2 c2 u2) (hl:m0+m1+m2<=20000) :
  Calls Tryz.prog 122 #[.slice (some ⟨g,0,none⟩) 3 3] w λ e w' => ∃ v,e=.returned v∧w'.ownsRow w.heap.size 3 1 v (m0+m1+m2) (u0++u1++u2)∧Za w w' := by
 have C0:Hid (∀ ww,Za w ww->ww.cell? ⟨g,0,none⟩=some (.slice a0 m0 c0)∧ww.cell? ⟨g,1,none⟩=some (.slice a1 m1 c1)∧ww.cell? ⟨g,2,none⟩=some (.slice a2 m2 c2)):=λ ww hk=>⟨Zb (hk.at0 hg) 0,Zb (hk.at0 hg) 1,Zb (hk.at0 hg) 2⟩;obtain ⟨x0,x1,x2⟩:=C0.out w (Zc.refl _ _);have G:=λ ww=>Zhu ww (m0+m1+m2) (by omega);have e1:((m0+m1+m2:Nat):Int)=(m0:Int)+(m1:Int)+(m2:Int):=by omega
 rw [e1] at G;have H0:Hid (∀ ww,Za w ww->Src ww a0 m0 c0 u0):=λ ww hk=>h0.same hk;have H1:Hid (∀ ww,Za w ww->Src ww a1 m1 c1 u1):=λ ww hk=>h1.same hk;have H2:Hid (∀ ww,Za w ww->Src ww a2 m2 c2 u2):=λ ww hk=>h2.same hk;clear e1 hg h0 h1 h2
 go_enter Tryz.func122,Tryz.ntmps122
 go_wp2;refine wp_loop_rounds 4 ?_;rw [rounds_succ];go_wp2;rw [rounds_succ];go_wp2;rw [rounds_succ];go_wp2;rw [rounds_succ]
 go_wp2_with (first | (go_at_call 155;refine (G _).mono ?_;rintro e w1 ⟨v,rfl,hr,hk⟩))
 obtain ⟨vo,vc,rfl⟩:=Zf hr;obtain ⟨d0,d1,d2⟩:=C0.out _ hk;have z1:=hk.size;clear x0 x1 x2 G;refine wp_loop_rounds 4 ?_;rw [rounds_succ]
 go_wp2_with (first | (at_builtin;refine Vv rfl _ _ rfl w.heap.size 0 [] _ rfl hr a0 m0 c0 u0 rfl (H0.out _ hk) z1 (by omega) ?_;intro v2 w2 hr2 k2))
 have s2:=Xu hk hr (Nat.le_refl _) k2;obtain ⟨vo2,vc2,rfl⟩:=Zf hr2;obtain ⟨f2_0,f2_1,f2_2⟩:=C0.out _ s2;have z2:=s2.size;clear d0 d1 d2 z1 hr k2 hk;rw [rounds_succ]
 go_wp2_with (first | (at_builtin;refine Vv rfl _ _ rfl w.heap.size _ _ _ rfl hr2 a1 m1 c1 u1 rfl (H1.out _ s2) z2 (by omega) ?_;intro v3 w3 hr3 k3))
 have s3:=Xu s2 hr2 (Nat.le_refl _) k3;obtain ⟨vo3,vc3,rfl⟩:=Zf hr3;obtain ⟨f3_0,f3_1,f3_2⟩:=C0.out _ s3;have z3:=s3.size;clear f2_0 f2_1 f2_2 z2 hr2 k3 s2;rw [rounds_succ]
 go_wp2_with (first | (at_builtin;refine Vv rfl _ _ rfl w.heap.size _ _ _ rfl hr3 a2 m2 c2 u2 rfl (H2.out _ s3) z3 (by omega) ?_;intro v4 w4 hr4 k4))
 have s4:=Xu s3 hr3 (Nat.le_refl _) k4;obtain ⟨vo4,vc4,rfl⟩:=Zf hr4;have E3:Hid (w4.ownsRow w.heap.size 3 1 (.slice vo4 (0+m0+m1+m2) vc4) (m0+m1+m2) (u0++u1++u2)):=by simpa [Hid] using hr4
 clear hr4 k4;rw [rounds_succ];go_wp2;go_ret;exact ⟨_,rfl,E3.out,s4⟩
theorem Zbx:(Tryz.prog.info? 32).map (λ i=>(i.zero,i.size,i.bytes))=some (some (.slice none 0 0),1,24):=by kernel_rfl
theorem Kn {w0:World} {ops:Array Oper} {rest:List Oper} {o:Oper} {a:Act} {Q:Exit->Act->World->Prop} (hgd:o.guard=none) (s x:Operand)
  (ho:o.op=.call { callee:=.builtin .append,args:=#[s,x],argTypes:=#[48,48] })
  (base N:Nat) (vs:List Value) (v:Value) (hs:a.eval s=v) (hr:w0.ownsRow base 32 1 v N vs) (lo:Option Addr) (m lc:Nat) (us:List Value) (hx:a.eval x=.slice lo m lc) (hc:Src w0 lo m lc us) (hb:base<=w0.heap.size) (hsz:N+m<=20000)
  (h:∀ v' w', w'.ownsRow base 32 1 v' (N+m) (vs++us)->Zc (λ k=>v.ownBlock=some k) w0 w' -> wpList Tryz.prog ops Q rest (a.put o.dst v') w') :
  wpList Tryz.prog ops Q (o :: rest) a w0:=by
 obtain ⟨i,hi,hz0,hz1,hz2⟩:=info_parts Zbx;cases lo with
 | none=>
  obtain ⟨rfl,rfl⟩:=hc.nul rfl;obtain rfl:m=0:=by simpa using hc.len.symm
  refine wpList_append_own_none hgd s x 48 ho base 32 i 1 Tryz.underlying48 hi v N vs hs hr hx ?_;exact h v w0 (by simpa using hr) (Zc.refl _ _)
 | some ad=>
  refine wpList_append_own _ hgd s x 48 ho base 32 i _ 1 24 Tryz.underlying48 hi hz0 hz1 hz2 rfl (by decide) v N vs hs hr ad m lc us hx (by rw [hc.len];omega) (hc.at' ad rfl) hc.one (by unfold maxLen;omega) (by omega) hb ?_;intro v' w' hown hgrow _;exact h v' w' hown (Zc.grown (Zc.refl _ w0) hgrow (λ _ e _=>e))
theorem Zm2 (w:World) (N:Nat) (hN:N<=20000) :
  Calls Tryz.prog 179 #[.slice none 0 0,.int .i64 (N:Int)] w λ e w' => ∃ v,e=.returned v∧w'.ownsRow w.heap.size 32 1 v 0 []∧Za w w' := by
 have i0:¬ (N:Int)<0:=by omega
 by_cases h0:N=0
 ·subst h0
  go_enter Tryz.func179,Tryz.ntmps179
  go_wp2;go_ret;exact ⟨_,rfl,World.ownsRow_nil _ _ _ _,Zc.refl _ _⟩
 ·obtain ⟨i,hi,hz0,hz1,hz2⟩:=info_parts Zbx
  have i1:(0:Int)<(N:Int):=by omega
  have hrun:=λ ty=>Lib.run_append_nil_zeros (P:=Tryz.prog) w 48 3 ty 32 i _ .i64 .i64 Tryz.underlying48 Tryz.underlying3 hi hz0 N (by omega) (by omega) (by omega) (by rw [hz2];omega);have hge:=grownCap_ge w N 0 32;have hle:=grownCap_le_maxLen w N 0 32 (by unfold maxLen;omega);generalize grownCap w N 0 32=cap at *;obtain ⟨Z,hZ⟩:∃ Z,Z=Builtin.zeroCells (Value.cells (.slice none 0 0)) N++Builtin.zeroCells (Value.cells (.slice none 0 0)) (cap-N):=⟨_,rfl⟩;rw [<- hZ] at hrun
  have hzs:Z.size=cap * 1:=by
   rw [hZ,Array.size_append,size_zeroCells,size_zeroCells];have:(Value.cells (.slice none 0 0)).size=1:=rfl;rw [this];omega
  have HR:Hid ((w.drew.alloc (.cells Z 32)).ownsRow w.heap.size 32 1 (.slice (some ⟨w.heap.size,0,none⟩) 0 cap) 0 []):=⟨rfl,.inr ⟨w.heap.size,cap,Z,rfl,Nat.le_refl _,heap_alloc_new w.drew _,Nat.zero_le _,hle,hzs,by simp⟩⟩;have HK:Hid (Za w (w.drew.alloc (.cells Z 32))):=((Zc.refl _ w).drew).alloc _;clear hZ hzs hi hz0 hz1 hz2 hge hle;have j1:(0:Int)<=(cap:Int):=by omega
  go_enter Tryz.func179,Tryz.ntmps179
  go_wp2_with (first | (at_builtin;refine Lib.wpList_append_run _ rfl _ _ 48 3 rfl _ _ rfl rfl _ _ (hrun _) ?_))
  go_ret;exact ⟨_,rfl,HR.out,HK.out⟩
theorem Jg {w w1 w2:World} {base N:Nat} {v:Value} {vs:List Value} (hk:Za w w1) (hr:w1.ownsRow base 32 1 v N vs) (hb:w.heap.size<=base) (k2:Zc (λ k=>v.ownBlock=some k) w1 w2):Za w w2:=
 Zc.trans hk k2 (λ i hi e=>by have:=(hr.lt i e).1;omega)
theorem Zhb {w:World} {g:Nat} {a0:Option Addr} {m0 c0:Nat} {u0:List Value} {a1:Option Addr} {m1 c1:Nat} {u1:List Value} {a2:Option Addr} {m2 c2:Nat} {u2:List Value} (hg:w.heap[g]? = some (.cells #[.slice a0 m0 c0,.slice a1 m1 c1,.slice a2 m2 c2] 48 (0,0))) (h0:Src w a0 m0 c0 u0) (h1:Src w a1 m1 c1 u1) (h2:Src w a2 m2 c2 u2) (hl:m0+m1+m2<=20000) :
  Calls Tryz.prog 156 #[.slice (some ⟨g,0,none⟩) 3 3] w λ e w' => ∃ v,e=.returned v∧w'.ownsRow w.heap.size 32 1 v (m0+m1+m2) (u0++u1++u2)∧Za w w' := by
 have C0:Hid (∀ ww,Za w ww->ww.cell? ⟨g,0,none⟩=some (.slice a0 m0 c0)∧ww.cell? ⟨g,1,none⟩=some (.slice a1 m1 c1)∧ww.cell? ⟨g,2,none⟩=some (.slice a2 m2 c2)):=λ ww hk=>⟨Zb (hk.at0 hg) 0,Zb (hk.at0 hg) 1,Zb (hk.at0 hg) 2⟩;obtain ⟨x0,x1,x2⟩:=C0.out w (Zc.refl _ _);have G:=λ ww=>Zm2 ww (m0+m1+m2) (by omega);have e1:((m0+m1+m2:Nat):Int)=(m0:Int)+(m1:Int)+(m2:Int):=by omega
 rw [e1] at G;have H0:Hid (∀ ww,Za w ww->Src ww a0 m0 c0 u0):=λ ww hk=>h0.same hk;have H1:Hid (∀ ww,Za w ww->Src ww a1 m1 c1 u1):=λ ww hk=>h1.same hk;have H2:Hid (∀ ww,Za w ww->Src ww a2 m2 c2 u2):=λ ww hk=>h2.same hk;clear e1 hg h0 h1 h2
 go_enter Tryz.func156,Tryz.ntmps156
 go_wp2;refine wp_loop_rounds 4 ?_;rw [rounds_succ];go_wp2;rw [rounds_succ];go_wp2;rw [rounds_succ];go_wp2;rw [rounds_succ]
 go_wp2_with (first | (go_at_call 179;refine (G _).mono ?_;rintro e w1 ⟨v,rfl,hr,hk⟩))
 obtain ⟨vo,vc,rfl⟩:=Zf hr;obtain ⟨d0,d1,d2⟩:=C0.out _ hk;have z1:=hk.size;clear x0 x1 x2 G;refine wp_loop_rounds 4 ?_;rw [rounds_succ]
 go_wp2_with (first | (at_builtin;refine Kn rfl _ _ rfl w.heap.size 0 [] _ rfl hr a0 m0 c0 u0 rfl (H0.out _ hk) z1 (by omega) ?_;intro v2 w2 hr2 k2))
 have s2:=Jg hk hr (Nat.le_refl _) k2;obtain ⟨vo2,vc2,rfl⟩:=Zf hr2;obtain ⟨f2_0,f2_1,f2_2⟩:=C0.out _ s2;have z2:=s2.size;clear d0 d1 d2 z1 hr k2 hk;rw [rounds_succ]
 go_wp2_with (first | (at_builtin;refine Kn rfl _ _ rfl w.heap.size _ _ _ rfl hr2 a1 m1 c1 u1 rfl (H1.out _ s2) z2 (by omega) ?_;intro v3 w3 hr3 k3))
 have s3:=Jg s2 hr2 (Nat.le_refl _) k3;obtain ⟨vo3,vc3,rfl⟩:=Zf hr3;obtain ⟨f3_0,f3_1,f3_2⟩:=C0.out _ s3;have z3:=s3.size;clear f2_0 f2_1 f2_2 z2 hr2 k3 s2;rw [rounds_succ]
 go_wp2_with (first | (at_builtin;refine Kn rfl _ _ rfl w.heap.size _ _ _ rfl hr3 a2 m2 c2 u2 rfl (H2.out _ s3) z3 (by omega) ?_;intro v4 w4 hr4 k4))
 have s4:=Jg s3 hr3 (Nat.le_refl _) k4;obtain ⟨vo4,vc4,rfl⟩:=Zf hr4;have E3:Hid (w4.ownsRow w.heap.size 32 1 (.slice vo4 (0+m0+m1+m2) vc4) (m0+m1+m2) (u0++u1++u2)):=by simpa [Hid] using hr4
 clear hr4 k4;rw [rounds_succ];go_wp2;go_ret;exact ⟨_,rfl,E3.out,s4⟩
structure Xx (w:World) (ao:Option Addr) (xs:List Int) (cap:Nat):Prop where
 arg:Arg w ao xs cap
 typ:∀ a,ao=some a->∃ cur,w.heap[a.block]? = some (.cells cur 3 (0,0))
 own:∀ a,ao=some a->∃ b cur,a=⟨b,0,none⟩∧w.heap[b]? = some (.cells cur 3 (0,0))∧cur.size=cap∧cap<=maxLen
theorem Xx.kept {w w' : World} {ao:Option Addr} {xs:List Int} {cap:Nat} {S:Nat->Prop} (h:Xx w ao xs cap) (hk:Zc S w w') (hS:∀ k,S k->∀ cur,w.heap[k]? ≠ some (.cells cur 3 (0,0))):Xx w' ao xs cap:=by
 have ne:∀ a,ao=some a->¬ S a.block:=λ a e s=>by
  obtain ⟨cur,hc⟩:=h.2 a e;exact hS _ s cur hc
 refine ⟨⟨h.1.at'.kept hk ne,h.1.cap', h.1.nil,h.1.size⟩,λ a e=>?_,λ a e=>?_⟩
 ·obtain ⟨cur,hc⟩:=h.2 a e
  exact ⟨cur,hk.at hc (ne a e)⟩
 ·obtain ⟨b,cur,e1,hc,hs,hm⟩:=h.own a e
  exact ⟨b,cur,e1,hk.at hc (by have:=ne a e;rw [e1] at this;exact this),hs,hm⟩
theorem Xx.same {w w' : World} {ao:Option Addr} {xs:List Int} {cap:Nat} (h:Xx w ao xs cap) (hk:Za w w'):Xx w' ao xs cap:=h.kept hk (λ _ f=>f.elim)
theorem Row.arg {base:Nat} {w:World} {v:Value} {xs:List Int} (h:Row base w v xs) (hl:xs.length<=100000):∃ ao ac,v=.slice ao xs.length ac∧Xx w ao xs ac∧∀ a,ao=some a->base<=a.block:=by
 obtain ⟨ao,ac,e,h1,h2,h3⟩:=h.ints
 rcases h.2 with ⟨e2,h0⟩ | ⟨g,cap,cur,e2,hb,hg,hle,hmx,hsz,_⟩
 ·rw [e] at e2
  simp only [Value.slice.injEq] at e2;obtain ⟨rfl,_,rfl⟩:=e2;exact ⟨none,0,e,⟨⟨h1,by omega,λ _=>⟨h0,rfl⟩,by omega⟩,(λ a e=>by cases e),λ a e=>by cases e⟩,λ a e=>by cases e⟩
 ·rw [e] at e2
  simp only [Value.slice.injEq] at e2;obtain ⟨rfl,_,rfl⟩:=e2;exact ⟨_,ac,e,⟨⟨h1,hle,(λ e=>by cases e),by omega⟩,(λ a e=>by cases e;exact ⟨cur,hg⟩),λ a e=>by cases e;exact ⟨g,cur,rfl,hg,by simpa using hsz,hmx⟩⟩,λ a e=>by cases e;exact hb⟩
theorem eqnilI (w:World) (a:Option Addr) (n c n' c' : Nat):(binOp .eql 32 (.slice a n c) (.slice none n' c')).run Tryz.prog w=.ok (.bool a.isNone) w:=Lib.run_eql_slice_nil w _ _ a n c n' c' Tryz.underlying32
theorem Zb9 {w:World} {ao:Option Addr} {cap:Nat} {xs:List Int} (hx:Arg w ao xs cap) :
  Calls Tryz.prog 71 #[.slice ao xs.length cap] w λ e w' => ∃ v,e=.returned v∧Row w.heap.size w' v xs∧Za w w' := by
 have hnil:=eqnilI;have hsz:=hx.size;cases ao with
 | none=>
  obtain ⟨h0,rfl⟩:=hx.nil rfl;obtain rfl:xs=[]:=List.eq_nil_of_length_eq_zero h0
  go_enter Tryz.func71,Tryz.ntmps71
  go_wp2;go_ret;exact ⟨_,rfl,World.ownsRow_nil _ _ _ _,Zc.refl _ _⟩
 | some ad=>
  have k0:Za w (w.alloc (.cells #[] 3)):=(Zc.refl _ w).alloc _;have r0:Row w.heap.size (w.alloc (.cells #[] 3)) (.slice (some ⟨w.heap.size,0,none⟩) 0 0) []:=Zbb w _ (Nat.le_refl _) rfl;have cI:=hx.at'.same k0;have z0:=k0.size;clear hx
  go_enter Tryz.func71,Tryz.ntmps71
  go_wp2_with (first | (at_builtin;refine Xg rfl _ _ 32 rfl Tryz.underlying32 w.heap.size [] _ rfl r0 xs _ _ _ rfl rfl cI z0 (by simp;omega) ?_;intro v' w4 hr4 hk4))
  go_ret;exact ⟨_,rfl,by simpa using hr4,k0.onto r0 hk4⟩
end
end Go.Proofs.YtjahpnbijefncaaGreat
