import Derived.Test.YtmjgnfkbnofjoaaGreatDoorSW03
import Derived.Test.YtmjgnfkbnofjoaaGreatDoorSW05
import Derived.SizedLaws
import Derived.Test.YtmjgnfkbnofjoaaGreatDoorSW07
import Derived.Test.YtmjgnfkbnofjoaaGreatDoorSW01
import Derived.Deep.RegionHeld3
import Derived.Laws.AppendOwnNone
import Derived.Lib.AppendZeros
import Derived.Test.YtmjgnfkbnofjoaaGreatDoorSW04
namespace Go.Proofs.YtmjgnfkbnofjoaaGreatDoor
set_option linter.unusedVariables false
open Go.RowKit Go.Deep
structure Arg (w:World) (ao:Option Addr) (xs:List Int) (cap:Nat):Prop where
 at' : IntsAt w ao xs
 cap' : xs.length≤cap
 nil:ao=none→xs.length=0∧cap=0
 size:xs.length * 8≤140737488351232
section
variable {H : Type} {enc : TypeId × Value → H} {w : World} {spare : Nat → Bool} {held : Bool}
theorem bytes_int:Tryz.prog.bytesOf 3=8:=by kernel_rfl
theorem open_ints {t fuel:Nat} {cs:List Value} {x:DataW H × List MemPlace} (ht:Tryz.prog.underlying t=some (.slice 3)) (h:DataW.trod enc Tryz.prog w 0 spare held fuel t cs=some x) (hw:∀ n∈x.1.weights Tryz.prog t,n≤reachBytes) :
  ∃ ao cap xs,cs=[.slice ao xs.length cap]∧Arg w ao xs cap:=by
 have h' := h
 rcases open_slice ht h with ⟨hcs,_⟩ | ⟨a,len,cap,m,n,D,Pl,hcs,_,hl,hm,hmm,rfl,hx⟩
 ·exact ⟨none,0,[],hcs,.inl rfl,Nat.le_refl _,fun _=>⟨rfl,rfl⟩,by simp⟩
 ·subst hcs
  have hsz:len * 8≤140737488351232:=by
   have:=hw ((((List.range len).map D).length+((List.range (m-len)).map fun j=>D (len+j)).length) * Tryz.prog.bytesOf 3) (by simp [DataW.weights,ht])
   rw [bytes_int] at this
   simp [reachBytes] at this
   omega
  rcases open_elems ht cells_int (by omega) h' with ⟨e,_,_⟩ | ⟨a', e,hl1,hl2,hall⟩
  ·cases e
  ·cases e
   have each:∀ i,i<len→∃ z:Int,w.cell? ⟨a.block,a.off+i,none⟩=some (.int .i64 z):=by
    intro i hi
    obtain ⟨_,_,cs,n,y,hl,hcell,hy⟩:=hall i hi
    obtain ⟨z,e1,_,_⟩:=DataW.trod_int Tryz.underlying3 hy
    subst e1
    exact ⟨z,by simpa using hcell 0 (by omega)⟩
   obtain ⟨f,hf⟩:=Classical.axiomOfChoice (fun i:Fin len=>each i i.2)
   refine ⟨some a,cap,List.ofFn f,by simp,?_,by simpa using hl,(fun e=>by cases e),by simpa using hsz⟩
   by_cases h0:len=0
   ·subst h0;exact .inl (by simp)
   ·obtain ⟨ea,hlt,_⟩:=hall 0 (by omega)
    refine .inr ⟨a.block,a.off,by rw [← ea],hlt,fun i hi=>?_⟩
    have hi' : i<len:=by simpa using hi
    simpa using hf ⟨i,hi'⟩
theorem cells_term:Tryz.prog.cellsOf 74=1:=by kernel_rfl
structure CaseIs (w:World) (v:Value) (lo:Option Addr) (ll lc:Nat) (ls:List Sym) (so:Option Addr) (tc:Nat) (t:List Int) (at' : Int) (uo:Option Addr) (uc:Nat) (u:List Int) (po:Option Addr) (pc:Nat) (path:List Int):Prop where
 eq:v=.agg #[.slice lo ll lc,.slice so t.length tc,.int .i64 at', .slice uo u.length uc,.slice po path.length pc]
 syms:SymsAt w lo ll ls
 sl:ll≤maxLen
 t' : Arg w so t tc
 u' : Arg w uo u uc
 p' : Arg w po path pc
end
end Go.Proofs.YtmjgnfkbnofjoaaGreatDoor
namespace Go.Proofs.YtmjgnfkbnofjoaaGreatDoor
set_option maxRecDepth 100000
set_option linter.unusedVariables false
open Go.RowKit
attribute [local go_sem ↓] Go.wp_at_zero Go.wp_at_succ
theorem Arg.same {w w' : World} {ao:Option Addr} {xs:List Int} {cap:Nat} (h:Arg w ao xs cap) (hk:Same0 w w'):Arg w' ao xs cap:=⟨h.at'.same hk,h.cap', h.nil,h.size⟩
def RuAt (w:World) (b off:Nat) (x:Ru):Prop:=
 ∃ ao ac bo bc,w.cell? ⟨b,off,none⟩=some (.slice ao x.1.length ac)∧w.cell? ⟨b,off+1,none⟩=some (.slice bo x.2.length bc)∧Arg w ao x.1 ac∧Arg w bo x.2 bc
def RsAt (w:World) (lo:Option Addr) (l:List Ru):Prop:=
 l=[]∨∃ b off,lo=some ⟨b,off,none⟩∧b<w.heap.size∧∀ i (h:i<l.length),RuAt w b (off+i * 2) l[i]
theorem RuAt.same {w w' : World} {b off:Nat} {x:Ru} (h:RuAt w b off x) (hb:b<w.heap.size) (hk:Same0 w w'):RuAt w' b off x:=by
 obtain ⟨ao,ac,bo,bc,h1,h2,h3,h4⟩:=h
 exact ⟨ao,ac,bo,bc,(hk.cell (p:=⟨b,off,none⟩) hb (fun f=>f)).trans h1,(hk.cell (p:=⟨b,off+1,none⟩) hb (fun f=>f)).trans h2,h3.same hk,h4.same hk⟩
theorem RsAt.same {w w' : World} {lo:Option Addr} {l:List Ru} (h:RsAt w lo l) (hk:Same0 w w'):RsAt w' lo l:=by
 refine h.imp id ?_
 rintro ⟨b,off,rfl,hb,hc⟩
 exact ⟨b,off,rfl,Nat.lt_of_lt_of_le hb hk.size,fun i hi=>(hc i hi).same hb hk⟩
theorem RsAt.get {w:World} {lo:Option Addr} {l:List Ru} (h:RsAt w lo l) {i:Nat} (hi:i<l.length):∃ b off,lo=some ⟨b,off,none⟩∧b<w.heap.size∧RuAt w b (off+i * 2) l[i]:=by
 rcases h with rfl | ⟨b,off,e,hb,hc⟩
 ·simp at hi
 ·exact ⟨b,off,e,hb,hc i hi⟩
structure StR (w:World) (b bs:Nat) (ro:Option Addr) (rc:Nat) (L:List Sym) (R:List Ru):Prop where
 blk:w.heap[b]? = some (.cells #[.pointer (some ⟨bs,0,none⟩),.slice ro R.length rc] 113 (0,0))
 sig:Sg w.heap.size w bs L
 rs:RsAt w ro R
 nil:ro=none→rc=0
 le:R.length≤100
 ok:∀ x∈R,checkE L x.1=0
theorem StR.same {w w' : World} {b bs:Nat} {ro:Option Addr} {rc:Nat} {L:List Sym} {R:List Ru} (h:StR w b bs ro rc L R) (hk:Same0 w w'):StR w' b bs ro rc L R:=
 ⟨hk.at0 h.blk,sg_up (h.sig.same hk) hk.size,h.rs.same hk,h.nil,h.le,h.ok⟩
theorem StR.cells {w:World} {b bs:Nat} {ro:Option Addr} {rc:Nat} {L:List Sym} {R:List Ru} (h:StR w b bs ro rc L R):w.cell? ⟨b,0,none⟩=some (.pointer (some ⟨bs,0,none⟩))∧w.cell? ⟨b,1,none⟩=some (.slice ro R.length rc):=by
 have h0:=cellAt h.blk 0
 have h1:=cellAt h.blk 1
 simp only [List.getElem?_toArray,List.getElem?_cons_zero,List.getElem?_cons_succ] at h0 h1
 exact ⟨h0,h1⟩
theorem cell_al {w:World} {p:Addr} {v:Value} (h:w.cell? p=some v) (o:Obj):(w.alloc o).cell? p=some v:=by
 rw [World.cell?_alloc_some _ _ _ (by rw [h];rfl),h]
theorem heap_al_al (w:World) (o o' : Obj):((w.alloc o).alloc o').heap[w.heap.size+1]? = some o' := by
 have:=heap_alloc_new (w.alloc o) o'
 rwa [World.size_alloc] at this
set_option maxHeartbeats 1000000 in
theorem rule_any {w:World} {b lb off len lc n:Nat} {ao bo:Option Addr} {al ac bl bc:Nat} (h0:w.cell? ⟨lb,off+n * 2,none⟩=some (.slice ao al ac)) (h1:w.cell? ⟨lb,off+n * 2+1,none⟩=some (.slice bo bl bc)) (hn:n<len) :
  Calls Tryz.prog 209 #[.agg #[.pointer (some ⟨b,0,none⟩),.slice (some ⟨lb,off,none⟩) len lc,.int .i64 (n:Int)]] w fun e w' => e=.returned (.agg #[.slice ao al ac,.slice bo bl bc])∧Same0 w w' := by
 have i1:(0:Int)≤(n:Int):=by omega
 have i2:(n:Int)<(len:Int):=by omega
 have H0:=fun o o' => cell_al (cell_al h0 o) o'
 have H1:=fun o o' => cell_al (cell_al h1 o) o'
 clear h0 h1
 go_enter Tryz.func209,Tryz.ntmps209
 go_wp2
 exact bodyPost_ret (v:=.agg #[.slice ao al ac,.slice bo bl bc]) (by simp [results,Tryz.results209,go_sem]) rfl ⟨rfl,((Kept.refl _ w).alloc _).alloc _⟩
set_option maxHeartbeats 1000000 in
theorem fault_any (w:World) (b:Nat) (lo:Option Addr) (ll lc:Nat) (why:Value) (hw:why=.nilIface∨∃ t v,why=.iface t v) (n:Nat) (c:Int) :
  Calls Tryz.prog 210 #[.agg #[.pointer (some ⟨b,0,none⟩),.slice lo ll lc,.int .i64 (n:Int)],.int .i64 c,why] w fun e w' => ∃ k,e=.returned (.iface 114 (.pointer (some ⟨k,0,none⟩)))∧w'.heap[k]? = some (.cells #[.int .i64 c,.int .i64 (n:Int),why] 116 (0,0))∧Same0 w w' := by
 rcases hw with rfl | ⟨t,v,rfl⟩
 ·go_enter Tryz.func210,Tryz.ntmps210
  go_wp2
  go_ret
  exact ⟨_,rfl,heap_al_al _ _ _,((Kept.refl _ w).alloc _).alloc _⟩
 ·go_enter Tryz.func210,Tryz.ntmps210
  go_wp2
  go_ret
  exact ⟨_,rfl,heap_al_al _ _ _,((Kept.refl _ w).alloc _).alloc _⟩
set_option maxHeartbeats 1000000 in
theorem unless_any (w:World) (b:Nat) (lo:Option Addr) (ll lc n:Nat) (c:Int) (h:Bool) :
  Calls Tryz.prog 208 #[.agg #[.pointer (some ⟨b,0,none⟩),.slice lo ll lc,.int .i64 (n:Int)],.bool h,.int .i64 c] w fun e w' => ∃ v,e=.returned v∧FltAt w' (if h=true then [(0, -1)] else [(c,(n:Int))]) v∧Same0 w w' := by
 cases h
 ·have cF:=fault_any
  go_enter Tryz.func208,Tryz.ntmps208
  go_wp2_with (first | (go_at_call 210;refine (cF _ _ _ _ _ _ (.inl rfl) _ _).mono ?_;rintro e w1 ⟨k,rfl,hk1,hk2⟩))
  go_ret
  exact ⟨_,rfl,.inr ⟨by omega,k,_,rfl,hk1,rfl⟩,Same0.trans' ((Kept.refl _ w).alloc _) hk2⟩
 ·go_enter Tryz.func208,Tryz.ntmps208
  go_wp2
  go_ret
  exact ⟨_,rfl,.inl ⟨rfl,rfl,rfl⟩,(Kept.refl _ w).alloc _⟩
theorem sg_at_no {n b:Nat} {w:World} {L:List Sym} (h:Sg n w b L) {x:Int} (hx:x<0∨(L.length:Int)≤x):Calls Tryz.prog 128 #[.pointer (some ⟨b,0,none⟩),.int .i64 x] w fun e w' => e=.returned (.tuple #[.agg #[.string ⟨#[]⟩,.int .i64 0,.bool false],.int .i64 14])∧Same0 w w' := by
 obtain ⟨⟨sv,mr,h1,_⟩,ha⟩:=h
 exact at_no h1 x hx
theorem sg_at_yes {n b:Nat} {w:World} {L:List Sym} (h:Sg n w b L) {i:Nat} (hi:i<L.length):Calls Tryz.prog 128 #[.pointer (some ⟨b,0,none⟩),.int .i64 (i:Int)] w fun e w' => e=.returned (.tuple #[.agg #[.string L[i].name,.int .i64 L[i].ar,.bool L[i].df],.int .i64 0])∧Same0 w w' := by
 obtain ⟨⟨sv,mr,h1,_⟩,ha⟩:=h
 exact at_yes h1 i hi
set_option maxHeartbeats 1000000 in
theorem isDefined_any {w:World} {b bs:Nat} {ro:Option Addr} {rc:Nat} {L:List Sym} {R:List Ru} (h:StR w b bs ro rc L R) (lo:Option Addr) (ll lc n:Nat) (x:Int) :
  Calls Tryz.prog 211 #[.agg #[.pointer (some ⟨b,0,none⟩),.slice lo ll lc,.int .i64 (n:Int)],.int .i64 x] w fun e w' => e=.returned (.bool (defB L x))∧Same0 w w' := by
 have K:∀ o,Same0 w (w.alloc o):=fun o=>(Kept.refl _ w).alloc o
 have C:=fun o=>(h.same (K o)).cells.1
 by_cases hx:x<0∨(L.length:Int)≤x
 ·have H1:Hid (defB L x=false):=defB_no hx
  have c:=fun o=>sg_at_no (h.same (K o)).sig hx
  clear K h
  go_enter Tryz.func211,Tryz.ntmps211
  go_wp2_with (first | (go_at_call 128;refine (c _).mono ?_;rintro e w' ⟨rfl,hk⟩))
  go_ret
  exact ⟨by rw [H1.out];rfl,Kept.alloc (Same0.trans' ((Kept.refl _ w).alloc _) hk) _⟩
 ·obtain ⟨i,rfl⟩:∃ i:Nat,x=(i:Int):=⟨x.toNat,by omega⟩
  have hi:i<L.length:=by omega
  have H1:Hid (defB L (i:Int)=L[i].df):=defB_at hi
  have c:=fun o=>sg_at_yes (h.same (K o)).sig hi
  clear K h
  go_enter Tryz.func211,Tryz.ntmps211
  go_wp2_with (first | (go_at_call 128;refine (c _).mono ?_;rintro e w' ⟨rfl,hk⟩))
  go_ret
  exact ⟨by rw [H1.out];rfl,Kept.alloc (Same0.trans' ((Kept.refl _ w).alloc _) hk) _⟩
theorem info_rule:(Tryz.prog.info? 90).map (fun i=>(i.zero,i.size,i.bytes))=some (some (.agg #[.slice none 0 0,.slice none 0 0]),2,48):=by kernel_rfl
def RCells (w:World) (vs:List Value) (l:List Ru):Prop:=
 vs.length=l.length * 2∧∀ i (h:i<l.length),∃ ao ac bo bc,vs[i * 2]? = some (.slice ao l[i].1.length ac)∧vs[i * 2+1]? = some (.slice bo l[i].2.length bc)∧Arg w ao l[i].1 ac∧Arg w bo l[i].2 bc
theorem RCells.nil (w:World):RCells w [] []:=⟨rfl,fun i h=>absurd h (by simp)⟩
theorem RCells.same {w w' : World} {vs:List Value} {l:List Ru} (h:RCells w vs l) (hk:Same0 w w'):RCells w' vs l:=
 ⟨h.1,fun i hi=>by
  obtain ⟨ao,ac,bo,bc,h1,h2,h3,h4⟩:=h.2 i hi
  exact ⟨ao,ac,bo,bc,h1,h2,h3.same hk,h4.same hk⟩⟩
theorem RCells.append {w:World} {vs us:List Value} {l m:List Ru} (h:RCells w vs l) (k:RCells w us m):RCells w (vs++us) (l++m):=by
 refine ⟨by simp [h.1,k.1];omega,fun i hi=>?_⟩
 by_cases hl:i<l.length
 ·rw [List.getElem_append_left hl,List.getElem?_append_left (by rw [h.1];omega),List.getElem?_append_left (by rw [h.1];omega)]
  exact h.2 i hl
 ·have hm:i-l.length<m.length:=by simp at hi;omega
  rw [List.getElem_append_right (by omega),List.getElem?_append_right (by rw [h.1];omega),List.getElem?_append_right (by rw [h.1];omega)]
  have e1:i * 2-vs.length=(i-l.length) * 2:=by rw [h.1];omega
  have e2:i * 2+1-vs.length=(i-l.length) * 2+1:=by rw [h.1];omega
  rw [e1,e2]
  exact k.2 _ hm
theorem RCells.one {w:World} {vs:List Value} {l:List Ru} (h:RCells w vs l):∀ u∈vs,u.oneCell' = true:=by
 intro u hu
 obtain ⟨j,hj,rfl⟩:=List.mem_iff_getElem.1 hu
 have hj' : j / 2<l.length:=by rw [h.1] at hj;omega
 obtain ⟨ao,ac,bo,bc,h1,h2,_⟩:=h.2 (j / 2) hj'
 rcases Nat.mod_two_eq_zero_or_one j with e | e
 ·have e1:j / 2 * 2=j:=by omega
  rw [e1,List.getElem?_eq_getElem hj] at h1
  simp only [Option.some.injEq] at h1
  rw [h1];rfl
 ·have e1:j / 2 * 2+1=j:=by omega
  rw [e1,List.getElem?_eq_getElem hj] at h2
  simp only [Option.some.injEq] at h2
  rw [h2];rfl
theorem addr_add (b off j:Nat):(⟨b,off,none⟩:Addr).add j=⟨b,off+j,none⟩:=by
 unfold Addr.add
 split
 ·rename_i h;subst h;simp
 ·simp
theorem RsAt.cells {w:World} {lo:Option Addr} {l:List Ru} (h:RsAt w lo l):∃ vs,RCells w vs l∧∀ ad,lo=some ad→∀ j u,vs[j]? = some u→w.cell? (ad.add j)=some u:=by
 rcases h with rfl | ⟨b,off,rfl,hb,hc⟩
 ·exact ⟨[],RCells.nil w,fun ad _ j u hj=>by simp at hj⟩
 ·have key:∀ j,j<l.length * 2→∃ u,w.cell? ⟨b,off+j,none⟩=some u:=fun j hj=>by
   obtain ⟨ao,ac,bo,bc,h1,h2,_⟩:=hc (j / 2) (by omega)
   rcases Nat.mod_two_eq_zero_or_one j with e | e
   ·exact ⟨_,by rw [← h1];congr 2;omega⟩
   ·exact ⟨_,by rw [← h2];congr 2;omega⟩
  refine ⟨(List.range (l.length * 2)).map (fun j=>(w.cell? ⟨b,off+j,none⟩).getD undef),⟨by simp,fun i hi=>?_⟩,fun ad e j u hj=>?_⟩
  ·obtain ⟨ao,ac,bo,bc,h1,h2,h3,h4⟩:=hc i hi
   have g1:i * 2<l.length * 2:=by omega
   have g2:i * 2+1<l.length * 2:=by omega
   have h2' : w.cell? ⟨b,off+(i * 2+1),none⟩=some (.slice bo l[i].2.length bc):=by rw [← h2];congr 2
   exact ⟨ao,ac,bo,bc,by simp [g1,h1],by simp [g2,h2'],h3,h4⟩
  ·cases e
   rw [addr_add]
   have hlt:j<l.length * 2:=by have:=(List.getElem?_eq_some_iff.1 hj).1;simpa using this
   obtain ⟨v,hv⟩:=key j hlt
   simp [hlt,hv] at hj
   rw [hv,hj]
theorem row_rules {w:World} {base N:Nat} {v:Value} {vs:List Value} {l:List Ru} (hr:w.ownsRow base 90 2 v N vs) (hc:RCells w vs l):∃ ao cap,v=.slice ao l.length cap∧RsAt w ao l∧(ao=none→cap=0)∧N=l.length:=by
 have hN:N=l.length:=by have:=hr.1;rw [hc.1] at this;omega
 subst hN
 rcases hr.2 with ⟨rfl,h0⟩ | ⟨g,cap,cur,rfl,_,hg,_,_,_,ht⟩
 ·exact ⟨none,0,by rw [h0],.inl (List.eq_nil_of_length_eq_zero h0),fun _=>rfl,rfl⟩
 ·refine ⟨_,cap,rfl,.inr ⟨g,0,rfl,lt_of_at hg,fun i hi=>?_⟩,(fun e=>by cases e),rfl⟩
  obtain ⟨ao,ac,bo,bc,h1,h2,h3,h4⟩:=hc.2 i hi
  have q1:=hr.cells (g:=g) rfl _ _ h1
  have q2:=hr.cells (g:=g) rfl _ _ h2
  rw [addr_add] at q1 q2
  exact ⟨ao,ac,bo,bc,q1,by rw [← q2];congr 2,h3,h4⟩
theorem RsAt.src {w:World} {lo:Option Addr} {l:List Ru} (h:RsAt w lo l):∃ us,RCells w us l∧Hid (∀ ww,Same0 w ww→∀ ad,lo=some ad→∀ j u,us[j]? = some u→ww.cell? (ad.add j)=some u):=by
 obtain ⟨us,h1,h2⟩:=h.cells
 refine ⟨us,h1,fun ww hk ad e j u hj=>?_⟩
 have:=h2 ad e j u hj
 exact (hk.cell (World.block_lt_of_cell? w _ this) (fun f=>f)).trans this
theorem wpList_rules {w0 W:World} {ops:Array Oper} {rest:List Oper} {o:Oper} {a:Act} {Q:Exit→Act→World→Prop} (hgd:o.guard=none) (s x:Operand)
  (ho:o.op=.call { callee:=.builtin .append,args:=#[s,x],argTypes:=#[29,29] })
  (base N:Nat) (vs:List Value) (v:Value) (hs:a.eval s=v) (hr:w0.ownsRow base 90 2 v N vs) (lo:Option Addr) (lc:Nat) (l:List Ru) (us:List Value) (hx:a.eval x=.slice lo l.length lc) (hc:RCells W us l) (hu:∀ ad,lo=some ad→∀ j u,us[j]? = some u→w0.cell? (ad.add j)=some u) (hn:lo=none→lc=0∧l=[]) (hb:base≤w0.heap.size) (hsz:N+l.length≤1000)
  (h:∀ v' w', w'.ownsRow base 90 2 v' (N+l.length) (vs++us)→Kept (fun k=>v.ownBlock=some k) w0 w' → wpList Tryz.prog ops Q rest (a.put o.dst v') w') :
  wpList Tryz.prog ops Q (o :: rest) a w0:=by
 obtain ⟨i,hi,hz0,hz1,hz2⟩:=info_parts info_rule
 cases lo with
 | none=>
  obtain ⟨rfl,rfl⟩:=hn rfl
  have e0:us=[]:=List.eq_nil_of_length_eq_zero (by simpa using hc.1)
  subst e0
  refine wpList_append_own_none hgd s x 29 ho base 90 i 2 Tryz.underlying29 hi v N vs hs hr hx ?_
  exact h v w0 (by simpa using hr) (Kept.refl _ _)
 | some ad=>
  refine wpList_append_own _ hgd s x 29 ho base 90 i _ 2 48 Tryz.underlying29 hi hz0 hz1 hz2 rfl (by decide) v N vs hs hr ad l.length lc us hx hc.1 (hu ad rfl) hc.one (by unfold maxLen;omega) (by omega) hb ?_
  intro v' w' hown hgrow _
  exact h v' w' hown (Kept.grown (Kept.refl _ w0) hgrow (fun _ e _=>e))
theorem RsAt.none {w:World} {lo:Option Addr} {l:List Ru} {lc:Nat} (h:RsAt w lo l) (hn:lo=none→lc=0):lo=none→lc=0∧l=[]:=fun e=>⟨hn e,by
 rcases h with h | ⟨_,_,e', _⟩
 ·exact h
 ·rw [e] at e'; cases e'⟩
structure Src (w:World) (ao:Option Addr) (m c:Nat) (us:List Value):Prop where
 len:us.length=m
 one:∀ u∈us,u.oneCell' = true
 at' : ∀ ad,ao=some ad→∀ j u,us[j]? = some u→w.cell? (ad.add j)=some u
 nul:ao=none→c=0∧us=[]
theorem Src.same {w w' : World} {ao:Option Addr} {m c:Nat} {us:List Value} (h:Src w ao m c us) (hk:Same0 w w'):Src w' ao m c us:=
 ⟨h.len,h.one,fun ad e j u hj=>by
  have:=h.at' ad e j u hj
  exact (hk.cell (World.block_lt_of_cell? w _ this) (fun f=>f)).trans this,h.nul⟩
theorem Src.nil (w:World) (ao:Option Addr) (c:Nat) (h:ao=none→c=0):Src w ao 0 c []:=⟨rfl,by simp,fun ad e j u hj=>by simp at hj,fun e=>⟨h e,rfl⟩⟩
theorem info_nums:(Tryz.prog.info? 3).map (fun i=>(i.zero,i.size,i.bytes))=some (some (.int .i64 0),1,8):=by kernel_rfl
theorem wpList_nums {w0:World} {ops:Array Oper} {rest:List Oper} {o:Oper} {a:Act} {Q:Exit→Act→World→Prop} (hgd:o.guard=none) (s x:Operand)
  (ho:o.op=.call { callee:=.builtin .append,args:=#[s,x],argTypes:=#[51,51] })
  (base N:Nat) (vs:List Value) (v:Value) (hs:a.eval s=v) (hr:w0.ownsRow base 3 1 v N vs) (lo:Option Addr) (m lc:Nat) (us:List Value) (hx:a.eval x=.slice lo m lc) (hc:Src w0 lo m lc us) (hb:base≤w0.heap.size) (hsz:N+m≤20000)
  (h:∀ v' w', w'.ownsRow base 3 1 v' (N+m) (vs++us)→Kept (fun k=>v.ownBlock=some k) w0 w' → wpList Tryz.prog ops Q rest (a.put o.dst v') w') :
  wpList Tryz.prog ops Q (o :: rest) a w0:=by
 obtain ⟨i,hi,hz0,hz1,hz2⟩:=info_parts info_nums
 cases lo with
 | none=>
  obtain ⟨rfl,rfl⟩:=hc.nul rfl
  obtain rfl:m=0:=by simpa using hc.len.symm
  refine wpList_append_own_none hgd s x 51 ho base 3 i 1 Tryz.underlying51 hi v N vs hs hr hx ?_
  exact h v w0 (by simpa using hr) (Kept.refl _ _)
 | some ad=>
  refine wpList_append_own _ hgd s x 51 ho base 3 i _ 1 8 Tryz.underlying51 hi hz0 hz1 hz2 rfl (by decide) v N vs hs hr ad m lc us hx (by rw [hc.len];omega) (hc.at' ad rfl) hc.one (by unfold maxLen;omega) (by omega) hb ?_
  intro v' w' hown hgrow _
  exact h v' w' hown (Kept.grown (Kept.refl _ w0) hgrow (fun _ e _=>e))
set_option maxHeartbeats 1000000 in
theorem grow_nums (w:World) (N:Nat) (hN:N≤20000) :
  Calls Tryz.prog 219 #[.slice none 0 0,.int .i64 (N:Int)] w fun e w' => ∃ v,e=.returned v∧w'.ownsRow w.heap.size 3 1 v 0 []∧Same0 w w' := by
 have i0:¬ (N:Int)<0:=by omega
 by_cases h0:N=0
 ·subst h0
  go_enter Tryz.func219,Tryz.ntmps219
  go_wp2
  go_ret
  exact ⟨_,rfl,World.ownsRow_nil _ _ _ _,Kept.refl _ _⟩
 ·obtain ⟨i,hi,hz0,hz1,hz2⟩:=info_parts info_nums
  have i1:(0:Int)<(N:Int):=by omega
  have hrun:=fun ty=>Lib.run_append_nil_zeros (P:=Tryz.prog) w 51 3 ty 3 i _ .i64 .i64 Tryz.underlying51 Tryz.underlying3 hi hz0 N (by omega) (by omega) (by omega) (by rw [hz2];omega)
  have hge:=grownCap_ge w N 0 3
  have hle:=grownCap_le_maxLen w N 0 3 (by unfold maxLen;omega)
  generalize grownCap w N 0 3=cap at *
  obtain ⟨Z,hZ⟩:∃ Z,Z=Builtin.zeroCells (Value.cells (.int .i64 0)) N++Builtin.zeroCells (Value.cells (.int .i64 0)) (cap-N):=⟨_,rfl⟩
  rw [← hZ] at hrun
  have hzs:Z.size=cap * 1:=by
   rw [hZ,Array.size_append,size_zeroCells,size_zeroCells]
   have:(Value.cells (.int .i64 0)).size=1:=rfl
   rw [this];omega
  have HR:Hid ((w.drew.alloc (.cells Z 3)).ownsRow w.heap.size 3 1 (.slice (some ⟨w.heap.size,0,none⟩) 0 cap) 0 []):=⟨rfl,.inr ⟨w.heap.size,cap,Z,rfl,Nat.le_refl _,heap_alloc_new w.drew _,Nat.zero_le _,hle,hzs,by simp⟩⟩
  have HK:Hid (Same0 w (w.drew.alloc (.cells Z 3))):=((Kept.refl _ w).drew).alloc _
  clear hZ hzs hi hz0 hz1 hz2 hge hle
  have j1:(0:Int)≤(cap:Int):=by omega
  go_enter Tryz.func219,Tryz.ntmps219
  go_wp2_with (first | (at_builtin;refine Lib.wpList_append_run _ rfl _ _ 51 3 rfl _ _ rfl rfl _ _ (hrun _) ?_))
  go_ret
  exact ⟨_,rfl,HR.out,HK.out⟩
theorem own_kept_nums {w w1 w2:World} {base N:Nat} {v:Value} {vs:List Value} (hk:Same0 w w1) (hr:w1.ownsRow base 3 1 v N vs) (hb:w.heap.size≤base) (k2:Kept (fun k=>v.ownBlock=some k) w1 w2):Same0 w w2:=
 Kept.trans hk k2 (fun i hi e=>by have:=(hr.lt i e).1;omega)
set_option maxHeartbeats 4000000 in
theorem concat2_nums {w:World} {g:Nat} {a0:Option Addr} {m0 c0:Nat} {u0:List Value} {a1:Option Addr} {m1 c1:Nat} {u1:List Value} (hg:w.heap[g]? = some (.cells #[.slice a0 m0 c0,.slice a1 m1 c1] 51 (0,0))) (h0:Src w a0 m0 c0 u0) (h1:Src w a1 m1 c1 u1) (hl:m0+m1≤20000) :
  Calls Tryz.prog 180 #[.slice (some ⟨g,0,none⟩) 2 2] w fun e w' => ∃ v,e=.returned v∧w'.ownsRow w.heap.size 3 1 v (m0+m1) (u0++u1)∧Same0 w w' := by
 have C0:Hid (∀ ww,Same0 w ww→ww.cell? ⟨g,0,none⟩=some (.slice a0 m0 c0)∧ww.cell? ⟨g,1,none⟩=some (.slice a1 m1 c1)):=fun ww hk=>⟨cellAt (hk.at0 hg) 0,cellAt (hk.at0 hg) 1⟩
 obtain ⟨x0,x1⟩:=C0.out w (Kept.refl _ _)
 have G:=fun ww=>grow_nums ww (m0+m1) (by omega)
 have e1:((m0+m1:Nat):Int)=(m0:Int)+(m1:Int):=by omega
 rw [e1] at G
 have H0:Hid (∀ ww,Same0 w ww→Src ww a0 m0 c0 u0):=fun ww hk=>h0.same hk
 have H1:Hid (∀ ww,Same0 w ww→Src ww a1 m1 c1 u1):=fun ww hk=>h1.same hk
 clear e1 hg h0 h1
 go_enter Tryz.func180,Tryz.ntmps180
 go_wp2
 refine wp_loop_rounds 3 ?_
 rw [rounds_succ]
 go_wp2
 rw [rounds_succ]
 go_wp2
 rw [rounds_succ]
 go_wp2_with (first | (go_at_call 219;refine (G _).mono ?_;rintro e w1 ⟨v,rfl,hr,hk⟩))
 obtain ⟨vo,vc,rfl⟩:=row_shape hr
 obtain ⟨d0,d1⟩:=C0.out _ hk
 have z1:=hk.size
 clear x0 x1 G
 refine wp_loop_rounds 3 ?_
 rw [rounds_succ]
 go_wp2_with (first | (at_builtin;refine wpList_nums rfl _ _ rfl w.heap.size 0 [] _ rfl hr a0 m0 c0 u0 rfl (H0.out _ hk) z1 (by omega) ?_;intro v2 w2 hr2 k2))
 have s2:=own_kept_nums hk hr (Nat.le_refl _) k2
 obtain ⟨vo2,vc2,rfl⟩:=row_shape hr2
 obtain ⟨f2_0,f2_1⟩:=C0.out _ s2
 have z2:=s2.size
 clear d0 d1 z1 hr k2 hk
 rw [rounds_succ]
 go_wp2_with (first | (at_builtin;refine wpList_nums rfl _ _ rfl w.heap.size _ _ _ rfl hr2 a1 m1 c1 u1 rfl (H1.out _ s2) z2 (by omega) ?_;intro v3 w3 hr3 k3))
 have s3:=own_kept_nums s2 hr2 (Nat.le_refl _) k3
 obtain ⟨vo3,vc3,rfl⟩:=row_shape hr3
 have E3:Hid (w3.ownsRow w.heap.size 3 1 (.slice vo3 (0+m0+m1) vc3) (m0+m1) (u0++u1)):=by simpa [Hid] using hr3
 clear hr3 k3
 rw [rounds_succ]
 go_wp2
 go_ret
 exact ⟨_,rfl,E3.out,s3⟩
set_option maxHeartbeats 4000000 in
theorem concat3_nums {w:World} {g:Nat} {a0:Option Addr} {m0 c0:Nat} {u0:List Value} {a1:Option Addr} {m1 c1:Nat} {u1:List Value} {a2:Option Addr} {m2 c2:Nat} {u2:List Value} (hg:w.heap[g]? = some (.cells #[.slice a0 m0 c0,.slice a1 m1 c1,.slice a2 m2 c2] 51 (0,0))) (h0:Src w a0 m0 c0 u0) (h1:Src w a1 m1 c1 u1) (h2:Src w a2 m2 c2 u2) (hl:m0+m1+m2≤20000) :
  Calls Tryz.prog 180 #[.slice (some ⟨g,0,none⟩) 3 3] w fun e w' => ∃ v,e=.returned v∧w'.ownsRow w.heap.size 3 1 v (m0+m1+m2) (u0++u1++u2)∧Same0 w w' := by
 have C0:Hid (∀ ww,Same0 w ww→ww.cell? ⟨g,0,none⟩=some (.slice a0 m0 c0)∧ww.cell? ⟨g,1,none⟩=some (.slice a1 m1 c1)∧ww.cell? ⟨g,2,none⟩=some (.slice a2 m2 c2)):=fun ww hk=>⟨cellAt (hk.at0 hg) 0,cellAt (hk.at0 hg) 1,cellAt (hk.at0 hg) 2⟩
 obtain ⟨x0,x1,x2⟩:=C0.out w (Kept.refl _ _)
 have G:=fun ww=>grow_nums ww (m0+m1+m2) (by omega)
 have e1:((m0+m1+m2:Nat):Int)=(m0:Int)+(m1:Int)+(m2:Int):=by omega
 rw [e1] at G
 have H0:Hid (∀ ww,Same0 w ww→Src ww a0 m0 c0 u0):=fun ww hk=>h0.same hk
 have H1:Hid (∀ ww,Same0 w ww→Src ww a1 m1 c1 u1):=fun ww hk=>h1.same hk
 have H2:Hid (∀ ww,Same0 w ww→Src ww a2 m2 c2 u2):=fun ww hk=>h2.same hk
 clear e1 hg h0 h1 h2
 go_enter Tryz.func180,Tryz.ntmps180
 go_wp2
 refine wp_loop_rounds 4 ?_
 rw [rounds_succ]
 go_wp2
 rw [rounds_succ]
 go_wp2
 rw [rounds_succ]
 go_wp2
 rw [rounds_succ]
 go_wp2_with (first | (go_at_call 219;refine (G _).mono ?_;rintro e w1 ⟨v,rfl,hr,hk⟩))
 obtain ⟨vo,vc,rfl⟩:=row_shape hr
 obtain ⟨d0,d1,d2⟩:=C0.out _ hk
 have z1:=hk.size
 clear x0 x1 x2 G
 refine wp_loop_rounds 4 ?_
 rw [rounds_succ]
 go_wp2_with (first | (at_builtin;refine wpList_nums rfl _ _ rfl w.heap.size 0 [] _ rfl hr a0 m0 c0 u0 rfl (H0.out _ hk) z1 (by omega) ?_;intro v2 w2 hr2 k2))
 have s2:=own_kept_nums hk hr (Nat.le_refl _) k2
 obtain ⟨vo2,vc2,rfl⟩:=row_shape hr2
 obtain ⟨f2_0,f2_1,f2_2⟩:=C0.out _ s2
 have z2:=s2.size
 clear d0 d1 d2 z1 hr k2 hk
 rw [rounds_succ]
 go_wp2_with (first | (at_builtin;refine wpList_nums rfl _ _ rfl w.heap.size _ _ _ rfl hr2 a1 m1 c1 u1 rfl (H1.out _ s2) z2 (by omega) ?_;intro v3 w3 hr3 k3))
 have s3:=own_kept_nums s2 hr2 (Nat.le_refl _) k3
 obtain ⟨vo3,vc3,rfl⟩:=row_shape hr3
 obtain ⟨f3_0,f3_1,f3_2⟩:=C0.out _ s3
 have z3:=s3.size
 clear f2_0 f2_1 f2_2 z2 hr2 k3 s2
 rw [rounds_succ]
 go_wp2_with (first | (at_builtin;refine wpList_nums rfl _ _ rfl w.heap.size _ _ _ rfl hr3 a2 m2 c2 u2 rfl (H2.out _ s3) z3 (by omega) ?_;intro v4 w4 hr4 k4))
 have s4:=own_kept_nums s3 hr3 (Nat.le_refl _) k4
 obtain ⟨vo4,vc4,rfl⟩:=row_shape hr4
 have E3:Hid (w4.ownsRow w.heap.size 3 1 (.slice vo4 (0+m0+m1+m2) vc4) (m0+m1+m2) (u0++u1++u2)):=by simpa [Hid] using hr4
 clear hr4 k4
 rw [rounds_succ]
 go_wp2
 go_ret
 exact ⟨_,rfl,E3.out,s4⟩
theorem info_paths:(Tryz.prog.info? 51).map (fun i=>(i.zero,i.size,i.bytes))=some (some (.slice none 0 0),1,24):=by kernel_rfl
theorem wpList_paths {w0:World} {ops:Array Oper} {rest:List Oper} {o:Oper} {a:Act} {Q:Exit→Act→World→Prop} (hgd:o.guard=none) (s x:Operand)
  (ho:o.op=.call { callee:=.builtin .append,args:=#[s,x],argTypes:=#[50,50] })
  (base N:Nat) (vs:List Value) (v:Value) (hs:a.eval s=v) (hr:w0.ownsRow base 51 1 v N vs) (lo:Option Addr) (m lc:Nat) (us:List Value) (hx:a.eval x=.slice lo m lc) (hc:Src w0 lo m lc us) (hb:base≤w0.heap.size) (hsz:N+m≤20000)
  (h:∀ v' w', w'.ownsRow base 51 1 v' (N+m) (vs++us)→Kept (fun k=>v.ownBlock=some k) w0 w' → wpList Tryz.prog ops Q rest (a.put o.dst v') w') :
  wpList Tryz.prog ops Q (o :: rest) a w0:=by
 obtain ⟨i,hi,hz0,hz1,hz2⟩:=info_parts info_paths
 cases lo with
 | none=>
  obtain ⟨rfl,rfl⟩:=hc.nul rfl
  obtain rfl:m=0:=by simpa using hc.len.symm
  refine wpList_append_own_none hgd s x 50 ho base 51 i 1 Tryz.underlying50 hi v N vs hs hr hx ?_
  exact h v w0 (by simpa using hr) (Kept.refl _ _)
 | some ad=>
  refine wpList_append_own _ hgd s x 50 ho base 51 i _ 1 24 Tryz.underlying50 hi hz0 hz1 hz2 rfl (by decide) v N vs hs hr ad m lc us hx (by rw [hc.len];omega) (hc.at' ad rfl) hc.one (by unfold maxLen;omega) (by omega) hb ?_
  intro v' w' hown hgrow _
  exact h v' w' hown (Kept.grown (Kept.refl _ w0) hgrow (fun _ e _=>e))
set_option maxHeartbeats 1000000 in
theorem grow_paths (w:World) (N:Nat) (hN:N≤20000) :
  Calls Tryz.prog 231 #[.slice none 0 0,.int .i64 (N:Int)] w fun e w' => ∃ v,e=.returned v∧w'.ownsRow w.heap.size 51 1 v 0 []∧Same0 w w' := by
 have i0:¬ (N:Int)<0:=by omega
 by_cases h0:N=0
 ·subst h0
  go_enter Tryz.func231,Tryz.ntmps231
  go_wp2
  go_ret
  exact ⟨_,rfl,World.ownsRow_nil _ _ _ _,Kept.refl _ _⟩
 ·obtain ⟨i,hi,hz0,hz1,hz2⟩:=info_parts info_paths
  have i1:(0:Int)<(N:Int):=by omega
  have hrun:=fun ty=>Lib.run_append_nil_zeros (P:=Tryz.prog) w 50 3 ty 51 i _ .i64 .i64 Tryz.underlying50 Tryz.underlying3 hi hz0 N (by omega) (by omega) (by omega) (by rw [hz2];omega)
  have hge:=grownCap_ge w N 0 51
  have hle:=grownCap_le_maxLen w N 0 51 (by unfold maxLen;omega)
  generalize grownCap w N 0 51=cap at *
  obtain ⟨Z,hZ⟩:∃ Z,Z=Builtin.zeroCells (Value.cells (.slice none 0 0)) N++Builtin.zeroCells (Value.cells (.slice none 0 0)) (cap-N):=⟨_,rfl⟩
  rw [← hZ] at hrun
  have hzs:Z.size=cap * 1:=by
   rw [hZ,Array.size_append,size_zeroCells,size_zeroCells]
   have:(Value.cells (.slice none 0 0)).size=1:=rfl
   rw [this];omega
  have HR:Hid ((w.drew.alloc (.cells Z 51)).ownsRow w.heap.size 51 1 (.slice (some ⟨w.heap.size,0,none⟩) 0 cap) 0 []):=⟨rfl,.inr ⟨w.heap.size,cap,Z,rfl,Nat.le_refl _,heap_alloc_new w.drew _,Nat.zero_le _,hle,hzs,by simp⟩⟩
  have HK:Hid (Same0 w (w.drew.alloc (.cells Z 51))):=((Kept.refl _ w).drew).alloc _
  clear hZ hzs hi hz0 hz1 hz2 hge hle
  have j1:(0:Int)≤(cap:Int):=by omega
  go_enter Tryz.func231,Tryz.ntmps231
  go_wp2_with (first | (at_builtin;refine Lib.wpList_append_run _ rfl _ _ 50 3 rfl _ _ rfl rfl _ _ (hrun _) ?_))
  go_ret
  exact ⟨_,rfl,HR.out,HK.out⟩
theorem own_kept_paths {w w1 w2:World} {base N:Nat} {v:Value} {vs:List Value} (hk:Same0 w w1) (hr:w1.ownsRow base 51 1 v N vs) (hb:w.heap.size≤base) (k2:Kept (fun k=>v.ownBlock=some k) w1 w2):Same0 w w2:=
 Kept.trans hk k2 (fun i hi e=>by have:=(hr.lt i e).1;omega)
set_option maxHeartbeats 4000000 in
theorem concat3_paths {w:World} {g:Nat} {a0:Option Addr} {m0 c0:Nat} {u0:List Value} {a1:Option Addr} {m1 c1:Nat} {u1:List Value} {a2:Option Addr} {m2 c2:Nat} {u2:List Value} (hg:w.heap[g]? = some (.cells #[.slice a0 m0 c0,.slice a1 m1 c1,.slice a2 m2 c2] 50 (0,0))) (h0:Src w a0 m0 c0 u0) (h1:Src w a1 m1 c1 u1) (h2:Src w a2 m2 c2 u2) (hl:m0+m1+m2≤20000) :
  Calls Tryz.prog 220 #[.slice (some ⟨g,0,none⟩) 3 3] w fun e w' => ∃ v,e=.returned v∧w'.ownsRow w.heap.size 51 1 v (m0+m1+m2) (u0++u1++u2)∧Same0 w w' := by
 have C0:Hid (∀ ww,Same0 w ww→ww.cell? ⟨g,0,none⟩=some (.slice a0 m0 c0)∧ww.cell? ⟨g,1,none⟩=some (.slice a1 m1 c1)∧ww.cell? ⟨g,2,none⟩=some (.slice a2 m2 c2)):=fun ww hk=>⟨cellAt (hk.at0 hg) 0,cellAt (hk.at0 hg) 1,cellAt (hk.at0 hg) 2⟩
 obtain ⟨x0,x1,x2⟩:=C0.out w (Kept.refl _ _)
 have G:=fun ww=>grow_paths ww (m0+m1+m2) (by omega)
 have e1:((m0+m1+m2:Nat):Int)=(m0:Int)+(m1:Int)+(m2:Int):=by omega
 rw [e1] at G
 have H0:Hid (∀ ww,Same0 w ww→Src ww a0 m0 c0 u0):=fun ww hk=>h0.same hk
 have H1:Hid (∀ ww,Same0 w ww→Src ww a1 m1 c1 u1):=fun ww hk=>h1.same hk
 have H2:Hid (∀ ww,Same0 w ww→Src ww a2 m2 c2 u2):=fun ww hk=>h2.same hk
 clear e1 hg h0 h1 h2
 go_enter Tryz.func220,Tryz.ntmps220
 go_wp2
 refine wp_loop_rounds 4 ?_
 rw [rounds_succ]
 go_wp2
 rw [rounds_succ]
 go_wp2
 rw [rounds_succ]
 go_wp2
 rw [rounds_succ]
 go_wp2_with (first | (go_at_call 231;refine (G _).mono ?_;rintro e w1 ⟨v,rfl,hr,hk⟩))
 obtain ⟨vo,vc,rfl⟩:=row_shape hr
 obtain ⟨d0,d1,d2⟩:=C0.out _ hk
 have z1:=hk.size
 clear x0 x1 x2 G
 refine wp_loop_rounds 4 ?_
 rw [rounds_succ]
 go_wp2_with (first | (at_builtin;refine wpList_paths rfl _ _ rfl w.heap.size 0 [] _ rfl hr a0 m0 c0 u0 rfl (H0.out _ hk) z1 (by omega) ?_;intro v2 w2 hr2 k2))
 have s2:=own_kept_paths hk hr (Nat.le_refl _) k2
 obtain ⟨vo2,vc2,rfl⟩:=row_shape hr2
 obtain ⟨f2_0,f2_1,f2_2⟩:=C0.out _ s2
 have z2:=s2.size
 clear d0 d1 d2 z1 hr k2 hk
 rw [rounds_succ]
 go_wp2_with (first | (at_builtin;refine wpList_paths rfl _ _ rfl w.heap.size _ _ _ rfl hr2 a1 m1 c1 u1 rfl (H1.out _ s2) z2 (by omega) ?_;intro v3 w3 hr3 k3))
 have s3:=own_kept_paths s2 hr2 (Nat.le_refl _) k3
 obtain ⟨vo3,vc3,rfl⟩:=row_shape hr3
 obtain ⟨f3_0,f3_1,f3_2⟩:=C0.out _ s3
 have z3:=s3.size
 clear f2_0 f2_1 f2_2 z2 hr2 k3 s2
 rw [rounds_succ]
 go_wp2_with (first | (at_builtin;refine wpList_paths rfl _ _ rfl w.heap.size _ _ _ rfl hr3 a2 m2 c2 u2 rfl (H2.out _ s3) z3 (by omega) ?_;intro v4 w4 hr4 k4))
 have s4:=own_kept_paths s3 hr3 (Nat.le_refl _) k4
 obtain ⟨vo4,vc4,rfl⟩:=row_shape hr4
 have E3:Hid (w4.ownsRow w.heap.size 51 1 (.slice vo4 (0+m0+m1+m2) vc4) (m0+m1+m2) (u0++u1++u2)):=by simpa [Hid] using hr4
 clear hr4 k4
 rw [rounds_succ]
 go_wp2
 go_ret
 exact ⟨_,rfl,E3.out,s4⟩
structure ArgT (w:World) (ao:Option Addr) (xs:List Int) (cap:Nat):Prop where
 arg:Arg w ao xs cap
 typ:∀ a,ao=some a→∃ cur,w.heap[a.block]? = some (.cells cur 3 (0,0))
 own:∀ a,ao=some a→∃ b cur,a=⟨b,0,none⟩∧w.heap[b]? = some (.cells cur 3 (0,0))∧cur.size=cap∧cap≤maxLen
theorem ArgT.kept {w w' : World} {ao:Option Addr} {xs:List Int} {cap:Nat} {S:Nat→Prop} (h:ArgT w ao xs cap) (hk:Kept S w w') (hS:∀ k,S k→∀ cur,w.heap[k]? ≠ some (.cells cur 3 (0,0))):ArgT w' ao xs cap:=by
 have ne:∀ a,ao=some a→¬ S a.block:=fun a e s=>by
  obtain ⟨cur,hc⟩:=h.2 a e
  exact hS _ s cur hc
 refine ⟨⟨h.1.at'.kept hk ne,h.1.cap', h.1.nil,h.1.size⟩,fun a e=>?_,fun a e=>?_⟩
 ·obtain ⟨cur,hc⟩:=h.2 a e
  exact ⟨cur,hk.at hc (ne a e)⟩
 ·obtain ⟨b,cur,e1,hc,hs,hm⟩:=h.own a e
  exact ⟨b,cur,e1,hk.at hc (by have:=ne a e;rw [e1] at this;exact this),hs,hm⟩
theorem ArgT.same {w w' : World} {ao:Option Addr} {xs:List Int} {cap:Nat} (h:ArgT w ao xs cap) (hk:Same0 w w'):ArgT w' ao xs cap:=h.kept hk (fun _ f=>f.elim)
theorem Row.arg {base:Nat} {w:World} {v:Value} {xs:List Int} (h:Row base w v xs) (hl:xs.length≤100000):∃ ao ac,v=.slice ao xs.length ac∧ArgT w ao xs ac∧∀ a,ao=some a→base≤a.block:=by
 obtain ⟨ao,ac,e,h1,h2,h3⟩:=h.ints
 rcases h.2 with ⟨e2,h0⟩ | ⟨g,cap,cur,e2,hb,hg,hle,hmx,hsz,_⟩
 ·rw [e] at e2
  simp only [Value.slice.injEq] at e2
  obtain ⟨rfl,_,rfl⟩:=e2
  exact ⟨none,0,e,⟨⟨h1,by omega,fun _=>⟨h0,rfl⟩,by omega⟩,(fun a e=>by cases e),fun a e=>by cases e⟩,fun a e=>by cases e⟩
 ·rw [e] at e2
  simp only [Value.slice.injEq] at e2
  obtain ⟨rfl,_,rfl⟩:=e2
  exact ⟨_,ac,e,⟨⟨h1,hle,(fun e=>by cases e),by omega⟩,(fun a e=>by cases e;exact ⟨cur,hg⟩),fun a e=>by cases e;exact ⟨g,cur,rfl,hg,by simpa using hsz,hmx⟩⟩,fun a e=>by cases e;exact hb⟩
theorem eqnilI (w:World) (a:Option Addr) (n c n' c' : Nat):(binOp .eql 51 (.slice a n c) (.slice none n' c')).run Tryz.prog w=.ok (.bool a.isNone) w:=Lib.run_eql_slice_nil w _ _ a n c n' c' Tryz.underlying51
set_option maxHeartbeats 1000000 in
theorem cloneI_any {w:World} {ao:Option Addr} {cap:Nat} {xs:List Int} (hx:Arg w ao xs cap) :
  Calls Tryz.prog 177 #[.slice ao xs.length cap] w fun e w' => ∃ v,e=.returned v∧Row w.heap.size w' v xs∧Same0 w w' := by
 have hnil:=eqnilI
 have hsz:=hx.size
 cases ao with
 | none=>
  obtain ⟨h0,rfl⟩:=hx.nil rfl
  obtain rfl:xs=[]:=List.eq_nil_of_length_eq_zero h0
  go_enter Tryz.func177,Tryz.ntmps177
  go_wp2
  go_ret
  exact ⟨_,rfl,World.ownsRow_nil _ _ _ _,Kept.refl _ _⟩
 | some ad=>
  have k0:Same0 w (w.alloc (.cells #[] 3)):=(Kept.refl _ w).alloc _
  have r0:Row w.heap.size (w.alloc (.cells #[] 3)) (.slice (some ⟨w.heap.size,0,none⟩) 0 0) []:=row_empty w _ (Nat.le_refl _) rfl
  have cI:=hx.at'.same k0
  have z0:=k0.size
  clear hx
  go_enter Tryz.func177,Tryz.ntmps177
  go_wp2_with (first | (at_builtin;refine wpList_more rfl _ _ 51 rfl Tryz.underlying51 w.heap.size [] _ rfl r0 xs _ _ _ rfl rfl cI z0 (by simp;omega) ?_;intro v' w4 hr4 hk4))
  go_ret
  exact ⟨_,rfl,by simpa using hr4,k0.onto r0 hk4⟩
end Go.Proofs.YtmjgnfkbnofjoaaGreatDoor
namespace Go.Proofs.YtmjgnfkbnofjoaaGreatDoor
set_option maxRecDepth 100000
set_option linter.unusedVariables false
open Go.RowKit
theorem ofN_len (l:List Nat):(ofN l).length=l.length:=by simp [ofN]
def NdB (w:World) (k:Nat):Prop:=∃ cur,w.heap[k]? = some (.cells cur 181 (0,0))
theorem ArgT.keptN {w w' : World} {ao:Option Addr} {xs:List Int} {cap:Nat} {S:Nat→Prop} (h:ArgT w ao xs cap) (hk:Kept S w w') (hS:∀ k,S k→NdB w k):ArgT w' ao xs cap:=
 h.kept hk (fun k e cur hc=>by obtain ⟨c,h2⟩:=hS k e;rw [hc] at h2;cases h2)
def PsAt (w:World) (po:Option Addr) (P:List (List Int)):Prop:=
 P=[]∨∃ b off,po=some ⟨b,off,none⟩∧(∃ cur,w.heap[b]? = some (.cells cur 51 (0,0)))∧∀ i (h:i<P.length),∃ ao ac,w.cell? ⟨b,off+i,none⟩=some (.slice ao P[i].length ac)∧ArgT w ao P[i] ac
theorem PsAt.keptN {w w' : World} {po:Option Addr} {P:List (List Int)} {S:Nat→Prop} (h:PsAt w po P) (hk:Kept S w w') (hS:∀ k,S k→NdB w k):PsAt w' po P:=by
 refine h.imp id ?_
 rintro ⟨b,off,rfl,⟨cur,hb⟩,hc⟩
 have nb:¬ S b:=fun e=>by obtain ⟨c,h2⟩:=hS b e;rw [hb] at h2;cases h2
 refine ⟨b,off,rfl,⟨cur,hk.at hb nb⟩,fun i hi=>?_⟩
 obtain ⟨ao,ac,h1,h2⟩:=hc i hi
 exact ⟨ao,ac,(hk.cell (p:=⟨b,off+i,none⟩) (lt_of_at hb) nb).trans h1,h2.keptN hk hS⟩
theorem PsAt.same {w w' : World} {po:Option Addr} {P:List (List Int)} (h:PsAt w po P) (hk:Same0 w w'):PsAt w' po P:=h.keptN hk (fun _ f=>f.elim)
theorem PsAt.get {w:World} {po:Option Addr} {P:List (List Int)} (h:PsAt w po P) {i:Nat} (hi:i<P.length):∃ b off ao ac,po=some ⟨b,off,none⟩∧b<w.heap.size∧w.cell? ⟨b,off+i,none⟩=some (.slice ao P[i].length ac)∧ArgT w ao P[i] ac:=by
 rcases h with rfl | ⟨b,off,e,⟨cur,hb⟩,hc⟩
 ·simp at hi
 ·obtain ⟨ao,ac,h1,h2⟩:=hc i hi
  exact ⟨b,off,ao,ac,e,lt_of_at hb,h1,h2⟩
def PCells (w:World) (vs:List Value) (P:List (List Int)):Prop:=
 vs.length=P.length∧∀ i (h:i<P.length),∃ ao ac,vs[i]? = some (.slice ao P[i].length ac)∧ArgT w ao P[i] ac
theorem PCells.nil (w:World):PCells w [] []:=⟨rfl,fun i h=>absurd h (by simp)⟩
theorem PCells.same {w w' : World} {vs:List Value} {P:List (List Int)} (h:PCells w vs P) (hk:Same0 w w'):PCells w' vs P:=
 ⟨h.1,fun i hi=>by
  obtain ⟨ao,ac,h1,h2⟩:=h.2 i hi
  exact ⟨ao,ac,h1,h2.same hk⟩⟩
theorem PCells.kept {w w' : World} {vs:List Value} {P:List (List Int)} {S:Nat→Prop} (h:PCells w vs P) (hk:Kept S w w') (hS:∀ k,S k→∀ cur,w.heap[k]? ≠ some (.cells cur 3 (0,0))):PCells w' vs P:=
 ⟨h.1,fun i hi=>by
  obtain ⟨ao,ac,h1,h2⟩:=h.2 i hi
  exact ⟨ao,ac,h1,h2.kept hk hS⟩⟩
theorem PCells.append {w:World} {vs us:List Value} {P Q:List (List Int)} (h:PCells w vs P) (k:PCells w us Q):PCells w (vs++us) (P++Q):=by
 refine ⟨by simp [h.1,k.1],fun i hi=>?_⟩
 by_cases hl:i<P.length
 ·rw [List.getElem_append_left hl,List.getElem?_append_left (by rw [h.1];omega)]
  exact h.2 i hl
 ·have hm:i-P.length<Q.length:=by simp at hi;omega
  rw [List.getElem_append_right (by omega),List.getElem?_append_right (by rw [h.1];omega),h.1]
  exact k.2 _ hm
theorem PCells.take {w:World} {vs:List Value} {P:List (List Int)} (h:PCells w vs P) (n:Nat):PCells w (vs.take n) (P.take n):=by
 refine ⟨by simp [h.1],fun i hi=>?_⟩
 have hi' : i<P.length:=by simp at hi;omega
 have hn:i<n:=by simp at hi;omega
 obtain ⟨ao,ac,h1,h2⟩:=h.2 i hi'
 exact ⟨ao,ac,by rw [List.getElem?_take,if_pos hn];simpa using h1,by simpa using h2⟩
theorem PCells.drop {w:World} {vs:List Value} {P:List (List Int)} (h:PCells w vs P) (n:Nat):PCells w (vs.drop n) (P.drop n):=by
 refine ⟨by simp [h.1],fun i hi=>?_⟩
 have hi' : n+i<P.length:=by simp at hi;omega
 obtain ⟨ao,ac,h1,h2⟩:=h.2 (n+i) hi'
 exact ⟨ao,ac,by rw [List.getElem?_drop];simpa using h1,by simpa using h2⟩
theorem PCells.one {w:World} {vs:List Value} {P:List (List Int)} (h:PCells w vs P):∀ u∈vs,u.oneCell' = true:=by
 intro u hu
 obtain ⟨j,hj,rfl⟩:=List.mem_iff_getElem.1 hu
 obtain ⟨ao,ac,h1,_⟩:=h.2 j (by rw [← h.1];exact hj)
 rw [List.getElem?_eq_getElem hj] at h1
 simp only [Option.some.injEq] at h1
 rw [h1];rfl
theorem PsAt.cells {w:World} {po:Option Addr} {P:List (List Int)} (h:PsAt w po P):∃ vs,PCells w vs P∧∀ ad,po=some ad→∀ j u,vs[j]? = some u→w.cell? (ad.add j)=some u:=by
 rcases h with rfl | ⟨b,off,rfl,hb,hc⟩
 ·exact ⟨[],PCells.nil w,fun ad _ j u hj=>by simp at hj⟩
 ·refine ⟨(List.range P.length).map (fun j=>(w.cell? ⟨b,off+j,none⟩).getD undef),⟨by simp,fun i hi=>?_⟩,fun ad e j u hj=>?_⟩
  ·obtain ⟨ao,ac,h1,h2⟩:=hc i hi
   exact ⟨ao,ac,by simp [hi,h1],h2⟩
  ·cases e
   rw [addr_add]
   have hlt:j<P.length:=by have:=(List.getElem?_eq_some_iff.1 hj).1;simpa using this
   obtain ⟨ao,ac,h1,_⟩:=hc j hlt
   simp [hlt,h1] at hj
   rw [h1,hj]
theorem row_paths {w:World} {base N:Nat} {v:Value} {vs:List Value} {P:List (List Int)} (hr:w.ownsRow base 51 1 v N vs) (hc:PCells w vs P):∃ ao cap,v=.slice ao P.length cap∧PsAt w ao P∧(ao=none→cap=0)∧P.length≤cap:=by
 have hN:N=P.length:=by have:=hr.1;rw [hc.1] at this;omega
 subst hN
 rcases hr.2 with ⟨rfl,h0⟩ | ⟨g,cap,cur,rfl,_,hg,hle,_,_,ht⟩
 ·exact ⟨none,0,by rw [h0],.inl (List.eq_nil_of_length_eq_zero h0),fun _=>rfl,by omega⟩
 ·refine ⟨_,cap,rfl,.inr ⟨g,0,rfl,⟨cur,hg⟩,fun i hi=>?_⟩,(fun e=>by cases e),hle⟩
  obtain ⟨ao,ac,h1,h2⟩:=hc.2 i hi
  have q1:=hr.cells (g:=g) rfl _ _ h1
  rw [addr_add] at q1
  exact ⟨ao,ac,q1,h2⟩
def RwC (w:World) (b off:Nat) (x:Rw):Prop:=
 ∃ ao ac bo bc,w.cell? ⟨b,off,none⟩=some (.int .i64 x.1)∧w.cell? ⟨b,off+1,none⟩=some (.slice ao x.2.1.length ac)∧w.cell? ⟨b,off+2,none⟩=some (.slice bo x.2.2.length bc)∧ArgT w ao x.2.1 ac∧ArgT w bo (ofN x.2.2) bc
def RwAt (w:World) (ro:Option Addr) (R:List Rw):Prop:=
 R=[]∨∃ b off,ro=some ⟨b,off,none⟩∧(∃ cur,w.heap[b]? = some (.cells cur 246 (0,0)))∧∀ i (h:i<R.length),RwC w b (off+i * 3) R[i]
theorem RwAt.keptN {w w' : World} {ro:Option Addr} {R:List Rw} {S:Nat→Prop} (h:RwAt w ro R) (hk:Kept S w w') (hS:∀ k,S k→NdB w k):RwAt w' ro R:=by
 refine h.imp id ?_
 rintro ⟨b,off,rfl,⟨cur,hb⟩,hc⟩
 have nb:¬ S b:=fun e=>by obtain ⟨c,h2⟩:=hS b e;rw [hb] at h2;cases h2
 have hl:=lt_of_at hb
 refine ⟨b,off,rfl,⟨cur,hk.at hb nb⟩,fun i hi=>?_⟩
 obtain ⟨ao,ac,bo,bc,h0,h1,h2,h3,h4⟩:=hc i hi
 exact ⟨ao,ac,bo,bc,(hk.cell (p:=⟨b,off+i * 3,none⟩) hl nb).trans h0,(hk.cell (p:=⟨b,off+i * 3+1,none⟩) hl nb).trans h1,(hk.cell (p:=⟨b,off+i * 3+2,none⟩) hl nb).trans h2,h3.keptN hk hS,h4.keptN hk hS⟩
theorem RwAt.same {w w' : World} {ro:Option Addr} {R:List Rw} (h:RwAt w ro R) (hk:Same0 w w'):RwAt w' ro R:=h.keptN hk (fun _ f=>f.elim)
theorem RwAt.get {w:World} {ro:Option Addr} {R:List Rw} (h:RwAt w ro R) {i:Nat} (hi:i<R.length):∃ b off,ro=some ⟨b,off,none⟩∧b<w.heap.size∧RwC w b (off+i * 3) R[i]:=by
 rcases h with rfl | ⟨b,off,e,⟨cur,hb⟩,hc⟩
 ·simp at hi
 ·exact ⟨b,off,e,lt_of_at hb,hc i hi⟩
theorem info_row:(Tryz.prog.info? 246).map (fun i=>(i.zero,i.size,i.bytes))=some (some (.agg #[.int .i64 0,.slice none 0 0,.slice none 0 0]),3,56):=by kernel_rfl
def WCells (w:World) (vs:List Value) (l:List Rw):Prop:=
 vs.length=l.length * 3∧∀ i (h:i<l.length),∃ ao ac bo bc,vs[i * 3]? = some (.int .i64 l[i].1)∧vs[i * 3+1]? = some (.slice ao l[i].2.1.length ac)∧vs[i * 3+2]? = some (.slice bo l[i].2.2.length bc)∧ArgT w ao l[i].2.1 ac∧ArgT w bo (ofN l[i].2.2) bc
theorem WCells.nil (w:World):WCells w [] []:=⟨rfl,fun i h=>absurd h (by simp)⟩
theorem WCells.same {w w' : World} {vs:List Value} {l:List Rw} (h:WCells w vs l) (hk:Same0 w w'):WCells w' vs l:=
 ⟨h.1,fun i hi=>by
  obtain ⟨ao,ac,bo,bc,h0,h1,h2,h3,h4⟩:=h.2 i hi
  exact ⟨ao,ac,bo,bc,h0,h1,h2,h3.same hk,h4.same hk⟩⟩
theorem WCells.snoc {w:World} {vs:List Value} {l:List Rw} (h:WCells w vs l) {x:Rw} {ao bo:Option Addr} {ac bc:Nat} (h3:ArgT w ao x.2.1 ac) (h4:ArgT w bo (ofN x.2.2) bc):WCells w (vs ++ [.int .i64 x.1,.slice ao x.2.1.length ac,.slice bo x.2.2.length bc]) (l ++ [x]):=by
 refine ⟨by simp [h.1];omega,fun i hi=>?_⟩
 by_cases hl:i<l.length
 ·rw [List.getElem_append_left hl,List.getElem?_append_left (by rw [h.1];omega),List.getElem?_append_left (by rw [h.1];omega),List.getElem?_append_left (by rw [h.1];omega)]
  exact h.2 i hl
 ·obtain rfl:i=l.length:=by simp at hi;omega
  refine ⟨ao,ac,bo,bc,?_,?_,?_,by simpa using h3,by simpa using h4⟩
  ·rw [List.getElem?_append_right (by rw [h.1];omega),h.1];simp
  ·rw [List.getElem?_append_right (by rw [h.1];omega),h.1];simp [Nat.add_sub_cancel_left]
  ·rw [List.getElem?_append_right (by rw [h.1];omega),h.1];simp [Nat.add_sub_cancel_left]
theorem row_rows {w:World} {base N:Nat} {v:Value} {vs:List Value} {l:List Rw} (hr:w.ownsRow base 246 3 v N vs) (hc:WCells w vs l):∃ ao cap,v=.slice ao l.length cap∧RwAt w ao l∧(ao=none→cap=0)∧N=l.length:=by
 have hN:N=l.length:=by have:=hr.1;rw [hc.1] at this;omega
 subst hN
 rcases hr.2 with ⟨rfl,h0⟩ | ⟨g,cap,cur,rfl,_,hg,_,_,_,ht⟩
 ·exact ⟨none,0,by rw [h0],.inl (List.eq_nil_of_length_eq_zero h0),fun _=>rfl,rfl⟩
 ·refine ⟨_,cap,rfl,.inr ⟨g,0,rfl,⟨cur,hg⟩,fun i hi=>?_⟩,(fun e=>by cases e),rfl⟩
  obtain ⟨ao,ac,bo,bc,h0,h1,h2,h3,h4⟩:=hc.2 i hi
  have q0:=hr.cells (g:=g) rfl _ _ h0
  have q1:=hr.cells (g:=g) rfl _ _ h1
  have q2:=hr.cells (g:=g) rfl _ _ h2
  rw [addr_add] at q0 q1 q2
  exact ⟨ao,ac,bo,bc,q0,by rw [← q1];congr 2,by rw [← q2];congr 2,h3,h4⟩
theorem WCells.kept {w w' : World} {vs:List Value} {l:List Rw} {S:Nat→Prop} (h:WCells w vs l) (hk:Kept S w w') (hS:∀ k,S k→∀ cur,w.heap[k]? ≠ some (.cells cur 3 (0,0))):WCells w' vs l:=
 ⟨h.1,fun i hi=>by
  obtain ⟨ao,ac,bo,bc,h0,h1,h2,h3,h4⟩:=h.2 i hi
  exact ⟨ao,ac,bo,bc,h0,h1,h2,h3.kept hk hS,h4.kept hk hS⟩⟩
end Go.Proofs.YtmjgnfkbnofjoaaGreatDoor
namespace Go.Proofs.YtmjgnfkbnofjoaaGreatDoor
set_option maxRecDepth 100000
set_option linter.unusedVariables false
open Go.RowKit
attribute [local go_sem ↓] Go.wp_at_zero Go.wp_at_succ
def FoundAt (z:Int) (q:Bool):Prop:=decide (0≤z)=q
theorem FoundAt.eq {z:Int} {q:Bool} (h:FoundAt z q):decide (0≤z)=q:=h
set_option maxHeartbeats 2000000 in
theorem indexf_def {w0:World} {P:Int→Bool} {cb lo:Option Addr} {ll lc:Nat} {n:Int} (hP:∀ ww z,Same0 w0 ww→Calls Tryz.prog 211 #[.agg #[.pointer cb,.slice lo ll lc,.int .i64 n],.int .i64 z] ww fun e w' => e=.returned (.bool (P z))∧Same0 w0 w') {so:Option Addr} {sc:Nat} {t:List Int} (ht:IntsAt w0 so t) (hm:t.length≤2000) {w:World} (hw:Same0 w0 w) :
  Calls Tryz.prog 228 #[.slice so t.length sc,.func (.func 211) #[.agg #[.pointer cb,.slice lo ll lc,.int .i64 n]] #[]] w fun e w' => ∃ z:Int,e=.returned (.int .i64 z)∧FoundAt z (t.any P)∧Same0 w0 w' := by
 have CP:Hid (∀ ww z,Same0 w0 ww→Calls Tryz.prog 211 #[.agg #[.pointer cb,.slice lo ll lc,.int .i64 n],.int .i64 z] ww fun e w' => e=.returned (.bool (P z))∧Same0 w0 w'):=hP
 clear hP
 go_enter Tryz.func228,Tryz.ntmps228
 go_wp2
 go_loopw [8] (fun i wr=>∃ k:Nat,k≤t.length∧i=.int .i64 (k:Int)∧Hid ((t.take k).any P=false)∧Same0 w0 wr) (fun i _=>t.length-(intOf i).toNat)
 case atStart=>exact ⟨0,Nat.zero_le _,rfl,by show _=_;simp,hw⟩
 case round=>
  clear hw
  obtain ⟨k,hk,rfl,ha,hw⟩:=hrel
  by_cases hlt:k<t.length
  ·obtain ⟨tb,off,rfl,_,hc⟩:=(ht.same hw).get hlt
   have i1:(0:Int)≤(k:Int):=by omega
   have i2:(k:Int)<(t.length:Int):=by omega
   have hz:∀ q,P t[k]=q→Hid (P t[k]=q):=fun q h=>h
   cases hq:P t[k] with
   | true=>
    have H:Hid (FoundAt (k:Int) (t.any P)):=by
     have e1:t.any P=true:=List.any_eq_true.2 ⟨t[k],List.getElem_mem hlt,hq⟩
     show decide _=_
     rw [e1];simp
    have C:=CP.out _ t[k] hw
    rw [hq] at C
    clear CP hz hq ha
    go_wp2_with (first | (go_at_call 211;refine C.mono ?_;rintro e w2 ⟨rfl,hw2⟩))
    go_ret
    exact ⟨_,rfl,H.out,hw2⟩
   | false=>
    have H:Hid ((t.take (k+1)).any P=false):=by
     have e1:=ha.out
     show _=_
     rw [List.take_add_one,List.getElem?_eq_getElem hlt,List.any_append,e1]
     simp [hq]
    have C:=CP.out _ t[k] hw
    rw [hq] at C
    clear hz hq ha
    go_wp2_with (first | (go_at_call 211;refine C.mono ?_;rintro e w2 ⟨rfl,hw2⟩))
    exact ⟨⟨k+1,by omega,by go_num,H,hw2⟩,by simp [intOf];omega⟩
  ·have H:Hid (FoundAt (-1) (t.any P)):=by
    have:=ha.out
    rw [List.take_of_length_le (by omega)] at this
    show decide _=_
    rw [this];rfl
   go_wp2
   go_ret
   exact ⟨_,rfl,H.out,hw⟩
set_option maxHeartbeats 1000000 in
theorem containsf_def {w0:World} {P:Int→Bool} {cb lo:Option Addr} {ll lc:Nat} {n:Int} (hP:∀ ww z,Same0 w0 ww→Calls Tryz.prog 211 #[.agg #[.pointer cb,.slice lo ll lc,.int .i64 n],.int .i64 z] ww fun e w' => e=.returned (.bool (P z))∧Same0 w0 w') {so:Option Addr} {sc:Nat} {t:List Int} (ht:IntsAt w0 so t) (hm:t.length≤2000) {w:World} (hw:Same0 w0 w) :
  Calls Tryz.prog 212 #[.slice so t.length sc,.func (.func 211) #[.agg #[.pointer cb,.slice lo ll lc,.int .i64 n]] #[]] w fun e w' => e=.returned (.bool (t.any P))∧Same0 w0 w' := by
 have C:=indexf_def (sc:=sc) hP ht hm hw
 clear hP ht hw
 go_enter Tryz.func212,Tryz.ntmps212
 go_wp2_with (first | (go_at_call 228;refine C.mono ?_;rintro e w2 ⟨z,rfl,hz,hw2⟩))
 go_ret
 exact ⟨ret_bool (FoundAt.eq hz),hw2⟩
set_option maxHeartbeats 2000000 in
theorem indexf_free {w0:World} {P:Int→Bool} {cb:Option Addr} (hP:∀ ww z,Same0 w0 ww→Calls Tryz.prog 213 #[.int .i64 z,.pointer cb] ww fun e w' => e=.returned (.bool (P z))∧Same0 w0 w') {so:Option Addr} {sc:Nat} {t:List Int} (ht:IntsAt w0 so t) (hm:t.length≤2000) {w:World} (hw:Same0 w0 w) :
  Calls Tryz.prog 228 #[.slice so t.length sc,.func (.func 213) #[] #[.pointer cb]] w fun e w' => ∃ z:Int,e=.returned (.int .i64 z)∧FoundAt z (t.any P)∧Same0 w0 w' := by
 have CP:Hid (∀ ww z,Same0 w0 ww→Calls Tryz.prog 213 #[.int .i64 z,.pointer cb] ww fun e w' => e=.returned (.bool (P z))∧Same0 w0 w'):=hP
 clear hP
 go_enter Tryz.func228,Tryz.ntmps228
 go_wp2
 go_loopw [8] (fun i wr=>∃ k:Nat,k≤t.length∧i=.int .i64 (k:Int)∧Hid ((t.take k).any P=false)∧Same0 w0 wr) (fun i _=>t.length-(intOf i).toNat)
 case atStart=>exact ⟨0,Nat.zero_le _,rfl,by show _=_;simp,hw⟩
 case round=>
  clear hw
  obtain ⟨k,hk,rfl,ha,hw⟩:=hrel
  by_cases hlt:k<t.length
  ·obtain ⟨tb,off,rfl,_,hc⟩:=(ht.same hw).get hlt
   have i1:(0:Int)≤(k:Int):=by omega
   have i2:(k:Int)<(t.length:Int):=by omega
   have hz:∀ q,P t[k]=q→Hid (P t[k]=q):=fun q h=>h
   cases hq:P t[k] with
   | true=>
    have H:Hid (FoundAt (k:Int) (t.any P)):=by
     have e1:t.any P=true:=List.any_eq_true.2 ⟨t[k],List.getElem_mem hlt,hq⟩
     show decide _=_
     rw [e1];simp
    have C:=CP.out _ t[k] hw
    rw [hq] at C
    clear CP hz hq ha
    go_wp2_with (first | (go_at_call 213;refine C.mono ?_;rintro e w2 ⟨rfl,hw2⟩))
    go_ret
    exact ⟨_,rfl,H.out,hw2⟩
   | false=>
    have H:Hid ((t.take (k+1)).any P=false):=by
     have e1:=ha.out
     show _=_
     rw [List.take_add_one,List.getElem?_eq_getElem hlt,List.any_append,e1]
     simp [hq]
    have C:=CP.out _ t[k] hw
    rw [hq] at C
    clear hz hq ha
    go_wp2_with (first | (go_at_call 213;refine C.mono ?_;rintro e w2 ⟨rfl,hw2⟩))
    exact ⟨⟨k+1,by omega,by go_num,H,hw2⟩,by simp [intOf];omega⟩
  ·have H:Hid (FoundAt (-1) (t.any P)):=by
    have:=ha.out
    rw [List.take_of_length_le (by omega)] at this
    show decide _=_
    rw [this];rfl
   go_wp2
   go_ret
   exact ⟨_,rfl,H.out,hw⟩
set_option maxHeartbeats 1000000 in
theorem containsf_free {w0:World} {P:Int→Bool} {cb:Option Addr} (hP:∀ ww z,Same0 w0 ww→Calls Tryz.prog 213 #[.int .i64 z,.pointer cb] ww fun e w' => e=.returned (.bool (P z))∧Same0 w0 w') {so:Option Addr} {sc:Nat} {t:List Int} (ht:IntsAt w0 so t) (hm:t.length≤2000) {w:World} (hw:Same0 w0 w) :
  Calls Tryz.prog 212 #[.slice so t.length sc,.func (.func 213) #[] #[.pointer cb]] w fun e w' => e=.returned (.bool (t.any P))∧Same0 w0 w' := by
 have C:=indexf_free (sc:=sc) hP ht hm hw
 clear hP ht hw
 go_enter Tryz.func212,Tryz.ntmps212
 go_wp2_with (first | (go_at_call 228;refine C.mono ?_;rintro e w2 ⟨z,rfl,hz,hw2⟩))
 go_ret
 exact ⟨ret_bool (FoundAt.eq hz),hw2⟩
set_option maxHeartbeats 2000000 in
theorem index_term {w:World} {so:Option Addr} {sc:Nat} {t:List Int} (ht:IntsAt w so t) (hm:t.length≤2000) (y:Int) :
  Calls Tryz.prog 179 #[.slice so t.length sc,.int .i64 y] w fun e w' => ∃ z:Int,e=.returned (.int .i64 z)∧FoundAt z (decide (y∈t))∧w' = w:=by
 go_enter Tryz.func179,Tryz.ntmps179
 go_wp2
 go_loop [8] (fun i=>∃ k:Nat,k≤t.length∧i=.int .i64 (k:Int)∧Hid (¬ y∈t.take k)) (fun i=>t.length-(intOf i).toNat)
 case atStart=>exact ⟨0,Nat.zero_le _,rfl,by show ¬ _;simp⟩
 case round=>
  obtain ⟨k,hk,rfl,ha⟩:=hrel
  by_cases hlt:k<t.length
  ·obtain ⟨tb,off,rfl,_,hc⟩:=ht.get hlt
   have i1:(0:Int)≤(k:Int):=by omega
   have i2:(k:Int)<(t.length:Int):=by omega
   by_cases hq:y=t[k]
   ·have H:Hid (FoundAt (k:Int) (decide (y∈t))):=by
     have e1:y∈t:=hq ▸ List.getElem_mem hlt
     show decide _=_
     simp [e1]
    have q1:(y == t[k])=true:=by simpa using hq
    clear hq ha
    go_wp2
    go_ret
    exact ⟨_,rfl,H.out,rfl⟩
   ·have H:Hid (¬ y∈t.take (k+1)):=by
     have e1:=ha.out
     intro hmem
     rw [List.take_add_one,List.getElem?_eq_getElem hlt] at hmem
     rcases List.mem_append.1 hmem with q | q
     ·exact e1 q
     ·simp at q;exact hq q
    have q1:(y == t[k])=false:=by simpa using hq
    clear hq ha
    go_wp2
    exact ⟨⟨k+1,by omega,by go_num,H⟩,by simp [intOf];omega⟩
  ·have H:Hid (FoundAt (-1) (decide (y∈t))):=by
    have:=ha.out
    rw [List.take_of_length_le (by omega)] at this
    show decide _=_
    simp [this]
   go_wp2
   go_ret
   exact ⟨_,rfl,H.out,rfl⟩
set_option maxHeartbeats 1000000 in
theorem contains_term {w:World} {so:Option Addr} {sc:Nat} {t:List Int} (ht:IntsAt w so t) (hm:t.length≤2000) (y:Int) :
  Calls Tryz.prog 214 #[.slice so t.length sc,.int .i64 y] w fun e w' => e=.returned (.bool (decide (y∈t)))∧w' = w:=by
 have C:=index_term (sc:=sc) ht hm y
 clear ht
 go_enter Tryz.func214,Tryz.ntmps214
 go_wp2_with (first | (go_at_call 179;refine C.mono ?_;rintro e w2 ⟨z,rfl,hz,rfl⟩))
 go_ret
 exact ⟨ret_bool (FoundAt.eq hz),rfl⟩
end Go.Proofs.YtmjgnfkbnofjoaaGreatDoor
