import Derived.Test.YtmjgnfkbnofjoaaGreatDoorSW03
import Derived.OwnWalk
import Derived.Deep.RegionLaw
import Derived.Deep.LoopGhost
import Derived.Deep.CutRange
import Derived.BigRegion
import Derived.Test.YtmjgnfkbnofjoaaGreatDoorSW02
import Derived.Test.YtmjgnfkbnofjoaaGreatDoorSW01
import Derived.Laws.CopyOwn
namespace Go.Proofs.YtmjgnfkbnofjoaaGreatDoor
set_option maxRecDepth 100000
open Go.RowKit
attribute [local go_sem ↓] Go.wp_at_zero Go.wp_at_succ
def endI (L:List Sym) (t:List Int) (p:Nat):Int:=match endO L t p with | some e=>(e:Int) | none=>-1
theorem endO_round {L:List Sym} {t:List Int} {p0 p k:Nat} (h:endO L t p0=(scan L (k+1) (t.drop p)).map (p + ·)) (hp:p<t.length):endO L t p0=(scan L (k+arN L t[p]) (t.drop (p+1))).map (p+1 + ·):=by
 rw [h,List.drop_eq_getElem_cons hp,scan,Option.map_map]
 congr 1
 funext x
 simp;omega
theorem endO_stop {L:List Sym} {t:List Int} {p0 p:Nat} (h:endO L t p0=(scan L 0 (t.drop p)).map (p + ·)):endI L t p0=(p:Int):=by
 simp [endI,h,scan_zero]
theorem endO_none {L:List Sym} {t:List Int} {p0 p k:Nat} (h:endO L t p0=(scan L (k+1) (t.drop p)).map (p + ·)) (hp:t.length≤p):endI L t p0 = -1:=by
 rw [List.drop_eq_nil_of_le hp] at h
 simp [endI,h,scan]
set_option maxHeartbeats 2000000 in
theorem end_any {n b:Nat} {w:World} {L:List Sym} (h:Sg n w b L) {ao:Option Addr} {cap:Nat} {t:List Int} (ht:IntsAt w ao t) (hm:t.length≤2000) (p0:Nat) (hp0:p0≤t.length) :
  Calls Tryz.prog 154 #[.pointer (some ⟨b,0,none⟩),.slice ao t.length cap,.int .i64 (p0:Int)] w fun e w' => e=.returned (.int .i64 (endI L t p0))∧Same0 w w' := by
 have ha:=h.2
 go_enter Tryz.func154,Tryz.ntmps154
 go_wp2
 go_loopw [2,7] (fun at' la wr=>∃ p k:Nat,p0≤p∧p≤t.length∧at' = .int .i64 (p:Int)∧la=.int .i64 ((k+1:Nat):Int)∧k≤6 * (p-p0)∧endO L t p0=(scan L (k+1) (t.drop p)).map (p + ·)∧Same0 w wr) (fun at' _ _=>t.length-(intOf at').toNat)
 case atStart=>exact ⟨p0,0,Nat.le_refl _,hp0,rfl,rfl,by omega,rfl,Kept.refl _ _⟩
 case round=>
  obtain ⟨p,k,h1,h2,rfl,rfl,h3,h4,hk⟩:=hrel
  by_cases hlt:p<t.length
  ·obtain ⟨tb,off,rfl,htb,hc⟩:=(ht.same hk).get hlt
   have c:=arity_any (h.same hk) t[p]
   have hle:=arN_le ha t[p]
   have h5:=endO_round h4 hlt
   have H5:Hid (endO L t p0=(scan L (k+arN L t[p]) (t.drop (p+1))).map (p+1 + ·)):=h5
   clear h5 h4
   have i1:(0:Int)≤(p:Int):=by omega
   have i2:(p:Int)<(t.length:Int):=by omega
   generalize arN L t[p]=a at *
   by_cases hz:k+a=0
   ·have z1:((k:Int)+1+((a:Int)-1) == 0)=true:=by simp;omega
    have H6:Hid (endI L t p0=(p:Int)+1):=by
     have H5:=H5.out
     rw [hz] at H5
     have:=endO_stop H5
     show _=_
     rw [this];simp
    go_wp2_with (first | (go_at_call 201;refine c.mono ?_;rintro e w' ⟨rfl,hk1⟩))
    go_ret
    exact ⟨ret_int H6.out.symm,hk.trans' hk1⟩
   ·have z1:((k:Int)+1+((a:Int)-1) == 0)=false:=by simp;omega
    go_wp2_with (first | (go_at_call 201;refine c.mono ?_;rintro e w' ⟨rfl,hk1⟩))
    refine ⟨⟨p+1,k+a-1,by omega,by omega,by go_num,by congr 1;omega,by omega,?_,hk.trans' hk1⟩,by simp [intOf];omega⟩
    rw [show k+a-1+1=k+a by omega]
    exact H5.out
  ·have H6:Hid (endI L t p0 = -1):=endO_none h4 (by omega)
   go_wp2
   go_ret
   exact ⟨ret_int H6.out.symm,hk⟩
theorem badE_step {L:List Sym} {t:List Int} {p:Nat} (hp:p<t.length) (h:badE L (t.take p)=0):(numE L t[p]≠0→badE L t=numE L t[p])∧(numE L t[p]=0→badE L (t.take (p+1))=0):=by
 have e:t=t.take p++(t[p] :: t.drop (p+1)):=by rw [← List.drop_eq_getElem_cons hp,List.take_append_drop]
 constructor
 ·intro hn
  have h2:=badE_append L (t.take p) (t[p] :: t.drop (p+1)) h
  rw [← e] at h2
  rw [h2,badE]
  unfold numE at hn ⊢
  by_cases q1:(L.length:Int)≤t[p]
  ·rw [if_pos q1,if_pos q1]
  ·rw [if_neg q1,if_neg q1]
   rw [if_neg q1] at hn
   by_cases q2:t[p] < -99
   ·rw [if_pos q2,if_pos q2]
   ·rw [if_neg q2] at hn;exact absurd rfl hn
 ·intro hn
  rw [List.take_add_one,badE_append _ _ _ h,List.getElem?_eq_getElem hp]
  simpa [badE,numE] using hn
theorem checkE_long {L:List Sym} {t:List Int} (h:2000<t.length):checkE L t=20:=by simp [checkE,h]
theorem checkE_bad {L:List Sym} {t:List Int} (h:¬ 2000<t.length) (hb:badE L t≠0):checkE L t=badE L t:=by simp [checkE,h,hb]
theorem checkE_end {L:List Sym} {t:List Int} (h:¬ 2000<t.length) (hb:badE L t=0):checkE L t=if endI L t 0=(t.length:Int) then 0 else 23:=by
 have e:endI L t 0=(t.length:Int) ↔ need L 1 t=some 0:=by
  constructor
  ·intro h
   unfold endI endO at h
   cases hs:scan L 1 t with
   | none=>simp [hs] at h
   | some m=>
    simp [hs] at h
    obtain rfl:m=t.length:=by omega
    have:=(scan_need hs).2
    simpa using this
  ·intro h
   have:=need_scan (b:=[]) h
   rw [List.append_nil] at this
   simp [endI,endO,this]
 simp only [checkE,h,hb,if_false,ne_eq,not_true,e]
set_option maxHeartbeats 2000000 in
theorem check_any {n b:Nat} {w:World} {L:List Sym} (h:Sg n w b L) {ao:Option Addr} {cap:Nat} {t:List Int} (ht:IntsAt w ao t) (hm:t.length≤maxLen) :
  Calls Tryz.prog 104 #[.pointer (some ⟨b,0,none⟩),.slice ao t.length cap] w fun e w' => e=.returned (.int .i64 (checkE L t))∧Same0 w w' := by
 unfold maxLen at hm
 by_cases hl:2000<t.length
 ·have H:Hid (checkE L t=20):=checkE_long hl
  go_enter Tryz.func104,Tryz.ntmps104
  go_wp2
  go_ret
  exact ⟨ret_int H.out.symm,Kept.refl _ _⟩
 ·have hl' : t.length≤2000:=by omega
  go_enter Tryz.func104,Tryz.ntmps104
  go_wp2
  go_loop [15] (fun i=>∃ p:Nat,p≤t.length∧i=.int .i64 (p:Int)∧badE L (t.take p)=0) (fun i=>t.length-(intOf i).toNat)
  case atStart=>exact ⟨0,Nat.zero_le _,rfl,by simp [badE]⟩
  case round=>
   obtain ⟨p,h1,rfl,h2⟩:=hrel
   by_cases hlt:p<t.length
   ·obtain ⟨tb,off,rfl,htb,hc⟩:=ht.get hlt
    have i1:(0:Int)≤(p:Int):=by omega
    have i2:(p:Int)<(t.length:Int):=by omega
    have c:=checkNumber_any h t[p]
    obtain ⟨s1,s2⟩:=badE_step hlt h2
    by_cases hz:numE L t[p]=0
    ·have S2:Hid (badE L (t.take (p+1))=0):=s2 hz
     rw [hz] at c
     clear s1 s2 h2
     go_wp2_with (first | (go_at_call 153;refine c.mono ?_;rintro e w' ⟨rfl,rfl⟩))
     exact ⟨⟨p+1,by omega,by go_num,S2.out⟩,by simp [intOf];omega⟩
    ·have hb:=s1 hz
     have H:Hid (checkE L t=numE L t[p]):=by show _=_;rw [checkE_bad hl (by rw [hb];exact hz),hb]
     have hz' : (numE L t[p] == 0)=false:=by simpa using hz
     clear s1 s2 h2 hb
     go_wp2_with (first | (go_at_call 153;refine c.mono ?_;rintro e w' ⟨rfl,rfl⟩))
     go_ret
     exact ⟨ret_int H.out.symm,Kept.refl _ _⟩
   ·obtain rfl:p=t.length:=by omega
    rw [List.take_length] at h2
    have c:=end_any (cap:=cap) h ht hl' 0 (Nat.zero_le _)
    have he:=checkE_end hl h2
    by_cases hz:endI L t 0=(t.length:Int)
    ·have H:Hid (checkE L t=0):=by show _=_;rw [he,if_pos hz]
     rw [hz] at c
     clear he
     go_wp2_with (first | (go_at_call 154;refine c.mono ?_;rintro e w' ⟨rfl,hk1⟩))
     all_goals
      go_ret
      exact ⟨ret_int H.out.symm,hk1⟩
    ·have H:Hid (checkE L t=23):=by show _=_;rw [he,if_neg hz]
     have hz' : (endI L t 0 == (t.length:Int))=false:=by simpa using hz
     clear he
     go_wp2_with (first | (go_at_call 154;refine c.mono ?_;rintro e w' ⟨rfl,hk1⟩))
     all_goals
      go_ret
      exact ⟨ret_int H.out.symm,hk1⟩
set_option maxHeartbeats 2000000 in
theorem checkPlace_any {n b:Nat} {w:World} {L:List Sym} (h:Sg n w b L) {ao:Option Addr} {cap:Nat} {t:List Int} (ht:IntsAt w ao t) (hm:t.length≤maxLen) (a:Int) :
  Calls Tryz.prog 162 #[.pointer (some ⟨b,0,none⟩),.slice ao t.length cap,.int .i64 a] w fun e w' => e=.returned (.int .i64 (placeE L t a))∧Same0 w w' := by
 have c:=check_any (cap:=cap) h ht hm
 by_cases hz:checkE L t=0
 ·by_cases h1:a<0
  ·have H:Hid (placeE L t a=24):=by show _=_;simp [placeE,hz,h1]
   rw [hz] at c
   go_enter Tryz.func162,Tryz.ntmps162
   go_wp2_with (first | (go_at_call 104;refine c.mono ?_;rintro e w' ⟨rfl,hk1⟩))
   go_ret
   exact ⟨ret_int H.out.symm,hk1⟩
  ·by_cases h2:(t.length:Int)≤a
   ·have H:Hid (placeE L t a=24):=by show _=_;simp [placeE,hz,h2]
    rw [hz] at c
    go_enter Tryz.func162,Tryz.ntmps162
    go_wp2_with (first | (go_at_call 104;refine c.mono ?_;rintro e w' ⟨rfl,hk1⟩))
    go_ret
    exact ⟨ret_int H.out.symm,hk1⟩
   ·have H:Hid (placeE L t a=0):=by show _=_;simp [placeE,hz,h1,h2]
    rw [hz] at c
    go_enter Tryz.func162,Tryz.ntmps162
    go_wp2_with (first | (go_at_call 104;refine c.mono ?_;rintro e w' ⟨rfl,hk1⟩))
    go_ret
    exact ⟨ret_int H.out.symm,hk1⟩
 ·have H:Hid (placeE L t a=checkE L t):=by show _=_;simp [placeE,hz]
  have hz' : (checkE L t == 0)=false:=by simpa using hz
  go_enter Tryz.func162,Tryz.ntmps162
  go_wp2_with (first | (go_at_call 104;refine c.mono ?_;rintro e w' ⟨rfl,hk1⟩))
  go_ret
  exact ⟨ret_int H.out.symm,hk1⟩
def iv (xs:List Int):List Value:=xs.map (Value.int .i64)
theorem iv_length (xs:List Int):(iv xs).length=xs.length:=by simp [iv]
theorem iv_append (xs ys:List Int):iv (xs++ys)=iv xs++iv ys:=by simp [iv]
theorem iv_get {xs:List Int} {i:Nat} (h:i<xs.length):(iv xs)[i]? = some (.int .i64 xs[i]):=by simp [iv,h]
theorem info_intT:(Tryz.prog.info? 3).map (fun i=>(i.zero,i.size,i.bytes))=some (some (.int .i64 0),1,8):=by kernel_rfl
abbrev Row (base:Nat) (w:World) (v:Value) (xs:List Int):Prop:=w.ownsRow base 3 1 v xs.length (iv xs)
def ofN (l:List Nat):List Int:=l.map (fun (x:Nat)=>(x:Int))
def argsA (L:List Sym) (t:List Int) (a:Int):List Int:=if placeE L t a=0 then ofN (argsN L t a.toNat) else []
theorem place_zero {L:List Sym} {t:List Int} {a:Int} (h:placeE L t a=0):∃ p:Nat,a=(p:Int)∧p<t.length∧checkE L t=0∧t.length≤2000∧IsT L t:=by
 unfold placeE at h
 by_cases hz:checkE L t=0
 ·simp only [hz,ne_eq,not_true,if_false] at h
  have:¬ (a<0∨(t.length:Int)≤a):=by intro hh;simp [hh] at h
  obtain ⟨h1,_,h2⟩:=checkE_zero.1 hz
  exact ⟨a.toNat,by omega,by omega,hz,h1,h2⟩
 ·simp [hz] at h
theorem endI_of {L:List Sym} {t:List Int} (h:IsT L t) {p:Nat} (hp:p<t.length):endI L t p=(endN L t p:Int):=by
 rw [endI,endO_some h hp]
theorem take_set {α:Type} {l:List α} {k:Nat} (h:k<l.length) (u:α):(l.set k u).take (k+1)=l.take k ++ [u]:=by
 rw [List.take_add_one,List.take_set_of_le (Nat.le_refl _)]
 simp [h]
theorem Same0.grown {w w1 w2:World} (h:Same0 w w1) (hg:w1.grownBy w2 none):Same0 w w2:=Kept.grown h hg (fun _ e _=>by cases e)
theorem Same0.own {w w1:World} (h:Same0 w w1) {g o:Nat} (hg:w.heap.size≤g) (u:Value):Same0 w (w1.setCell ⟨g,o,none⟩ u):=h.setCell (p:=⟨g,o,none⟩) (fun hlt=>by simp at hlt;omega) u
theorem row_put {w:World} {base g cap n:Nat} {e:TypeId} {ys:List Value} (h:w.ownsRow base e 1 (.slice (some ⟨g,0,none⟩) n cap) n ys) {k:Nat} (hk:k<n):∃ old,w.cell? ⟨g,k,none⟩=some old∧w.frozen? ⟨g,k,none⟩=false:=by
 have hl:k<ys.length:=by have:=h.1;omega
 exact ⟨ys[k],(h.cellAt k (by omega)).trans (List.getElem?_eq_getElem hl),h.frozenAt k⟩
def Laid (base g A k:Nat) (xs:List Int) (w wr:World):Prop:=∃ ys:List Value,wr.ownsRow base 3 1 (.slice (some ⟨g,0,none⟩) A A) A ys∧ys.take k=iv xs∧Same0 w wr
theorem Laid.next {base g A k:Nat} {xs:List Int} {w wr:World} (h:Laid base g A k xs w wr) (hk:k<A) (hg:w.heap.size≤g) (x:Int):Laid base g A (k+1) (xs ++ [x]) w (wr.setCell ⟨g,k,none⟩ (.int .i64 x)):=by
 obtain ⟨ys,h1,h2,h3⟩:=h
 have hl:ys.length=A:=by have:=h1.1;omega
 refine ⟨ys.set k (.int .i64 x),(h1.stored k _).1,?_,h3.own hg _⟩
 rw [take_set (by omega),h2,iv_append];rfl
theorem Laid.same {base g A k:Nat} {xs:List Int} {w wr w1:World} (h:Laid base g A k xs w wr) (hk:Same0 wr w1):Laid base g A k xs w w1:=by
 obtain ⟨ys,h1,h2,h3⟩:=h
 exact ⟨ys,hk.row h1 (fun _ _ f=>f),h2,h3.trans' hk⟩
theorem Laid.row {base g A:Nat} {xs:List Int} {w wr:World} (h:Laid base g A A xs w wr):Row base wr (.slice (some ⟨g,0,none⟩) A A) xs∧xs.length=A:=by
 obtain ⟨ys,h1,h2,_⟩:=h
 have hl:ys.length=A:=by have:=h1.1;omega
 rw [List.take_of_length_le (by omega)] at h2
 subst h2
 have:xs.length=A:=by rw [← hl,iv_length]
 unfold Row
 rw [this]
 exact ⟨h1,rfl⟩
set_option maxHeartbeats 2000000 in
theorem args_any {n b:Nat} {w:World} {L:List Sym} (h:Sg n w b L) {ao:Option Addr} {cap:Nat} {t:List Int} (ht:IntsAt w ao t) (hm:t.length≤maxLen) (a:Int) :
  Calls Tryz.prog 182 #[.pointer (some ⟨b,0,none⟩),.slice ao t.length cap,.int .i64 a] w fun e w' => ∃ v,e=.returned (.tuple #[v,.int .i64 (placeE L t a)])∧Row w.heap.size w' v (argsA L t a)∧Same0 w w' := by
 have c:=checkPlace_any (cap:=cap) h ht hm a
 by_cases hz:placeE L t a=0
 ·obtain ⟨p,rfl,hp,h0,h1,h2⟩:=place_zero hz
  have H:Hid (placeE L t p=0∧argsA L t p=ofN (starts L t (arN L t[p]) (p+1))):=by
   refine ⟨hz,?_⟩
   rw [argsA,if_pos hz];simp only [Int.toNat_natCast];rw [argsN_eq hp]
  have hf:=(Forest.one h2 hp).kids.2
  have har:=arN_le h.2 t[p]
  have c1:∀ w1,Same0 w w1→Calls Tryz.prog 201 #[.pointer (some ⟨b,0,none⟩),.int .i64 t[p]] w1 fun e w' => e=.returned (.int .i64 ((arN L t[p]:Nat):Int))∧Same0 w1 w' := fun w1 hk=>arity_any (h.same hk) t[p]
  have c2:∀ w1 q,Same0 w w1→q<t.length→Calls Tryz.prog 154 #[.pointer (some ⟨b,0,none⟩),.slice ao t.length cap,.int .i64 (q:Int)] w1 fun e w' => e=.returned (.int .i64 (endN L t q:Int))∧Same0 w1 w' := fun w1 q hk hq=>by
   have:=end_any (cap:=cap) (h.same hk) (ht.same hk) h1 q (by omega)
   rwa [endI_of h2 hq] at this
  have i1:(0:Int)≤(p:Int):=by omega
  have i2:(p:Int)<(t.length:Int):=by omega
  obtain ⟨i,hi,hz0,hz1,hz2⟩:=info_parts info_intT
  obtain ⟨tb,off,rfl,htb,hc⟩:=ht.get hp
  have hc' : ∀ w1,Same0 w w1→w1.cell? ⟨tb,off+p,none⟩=some (.int .i64 t[p]):=fun w1 hk=>(hk.cell (p:=⟨tb,off+p,none⟩) htb (fun f=>f)).trans hc
  rw [hz] at c
  generalize hA:arN L t[p]=A at *
  have hA:Hid (arN L t[p]=A):=hA
  go_enter Tryz.func182,Tryz.ntmps182
  go_wp2_with (first | (go_at_call 162;refine c.mono ?_;rintro e w1 ⟨rfl,hk1⟩;have d1:=hc' _ hk1) | (go_at_call 201;refine (c1 _ hk1).mono ?_;rintro e w2 ⟨rfl,hk2⟩;have hk3:=hk1.trans' hk2) | (at_make;refine wpList_make_full _ rfl _ _ 51 rfl w.heap.size 3 i _ 1 Tryz.underlying51 hi hz0 hz1 _ _ _ _ A rfl rfl rfl rfl (by rw [hz2];omega) (by unfold maxLen;omega) hk3.size ?_;intro w3 hown hgrow))
  have hg:w.heap.size≤w2.heap.size:=hk3.size
  have L0:Laid w.heap.size w2.heap.size A 0 (ofN (starts L t 0 (p+1))) w w3:=⟨_,hown,by simp [iv,ofN,starts],hk3.grown hgrow⟩
  clear hown
  generalize w2.heap.size=g at *
  go_loopw [10,30] (fun nx i wr=>∃ k:Nat,k≤A∧i=.int .i64 (k:Int)∧nx=.int .i64 (past L t k (p+1):Int)∧Laid w.heap.size g A k (ofN (starts L t k (p+1))) w wr) (fun _ i _=>A-(intOf i).toNat)
  case atStart=>exact ⟨0,Nat.zero_le _,rfl,rfl,L0⟩
  case round=>
   obtain ⟨k,hkA,rfl,rfl,hL⟩:=hrel
   by_cases hlt:k<A
   ·have hfk:=hf.drop (i:=k) (by omega)
    rw [show A-k=(A-k-1)+1 by omega] at hfk
    have hq:past L t k (p+1)<t.length:=by have:=hfk.pos;have:=hfk.le;omega
    have e1:Hid (past L t (k+1) (p+1)=endN L t (past L t k (p+1))):=past_succ L t k (p+1)
    have e2:Hid (ofN (starts L t (k+1) (p+1))=ofN (starts L t k (p+1)) ++ [((past L t k (p+1):Nat):Int)]):=by show _=_;rw [starts_snoc];simp [ofN]
    have hLn:=hL.next hlt hg ((past L t k (p+1):Nat):Int)
    have hsm:Same0 w (wr.setCell ⟨g,k,none⟩ (.int .i64 ((past L t k (p+1):Nat):Int))):=by obtain ⟨ys,_,_,h3⟩:=hLn;exact h3
    obtain ⟨old,f2,f1⟩:∃ old,wr.cell? ⟨g,k,none⟩=some old∧wr.frozen? ⟨g,k,none⟩=false:=by obtain ⟨ys,h1,_⟩:=hL;exact row_put h1 hlt
    have j1:(0:Int)≤(k:Int):=by omega
    have j2:(k:Int)<(A:Int):=by omega
    have c3:=c2 _ _ hsm hq
    clear c1 c2 c hc' hfk hL
    generalize hpk:past L t k (p+1)=P at *
    generalize hpe:endN L t P=E at *
    go_wp2_with (first | (go_at_call 154;refine c3.mono ?_;rintro e w5 ⟨rfl,hk5⟩))
    refine ⟨⟨k+1,by omega,by go_num,?_,?_⟩,by simp [intOf];omega⟩
    ·rw [e1.out]
    ·rw [e2.out];exact hLn.same hk5
   ·obtain rfl:k=A:=by omega
    obtain ⟨hr,hl⟩:=hL.row
    obtain ⟨_,_,_,hs⟩:=hL
    clear c1 c2 c hc'
    go_wp2
    go_ret2
    refine ⟨.slice (some ⟨g,0,none⟩) k k,?_,?_,hs⟩
    ·rw [H.out.1];rfl
    ·rw [H.out.2];exact hr
 ·have H:Hid (argsA L t a=[]):=by show _=_;rw [argsA,if_neg hz]
  have hz' : (placeE L t a == 0)=false:=by simpa using hz
  go_enter Tryz.func182,Tryz.ntmps182
  go_wp2_with (first | (go_at_call 162;refine c.mono ?_;rintro e w1 ⟨rfl,hk1⟩))
  go_ret2
  refine ⟨_,rfl,?_,hk1⟩
  rw [H.out]
  exact World.ownsRow_nil _ _ _ _
end Go.Proofs.YtmjgnfkbnofjoaaGreatDoor
namespace Go.Proofs.YtmjgnfkbnofjoaaGreatDoor
set_option maxRecDepth 100000
set_option linter.unusedVariables false
open Go.RowKit
attribute [local go_sem ↓] Go.wp_at_zero Go.wp_at_succ
def vzs (o:List Int) (x:Int):List Int:=if x<0∧¬ x∈o then o ++ [x] else o
def rn (o:List Int) (x:Int):Int:=if x<0 then -((o.idxOf x:Int)+1) else x
def wrF (o:List Int):List Int→List Int
 | []=>[]
 | x :: r=>rn (vzs o x) x :: wrF (vzs o x) r
theorem wrF_length (o a:List Int):(wrF o a).length=a.length:=by
 induction a generalizing o with
 | nil=>rfl
 | cons x r ih=>simp [wrF,ih]
end Go.Proofs.YtmjgnfkbnofjoaaGreatDoor
namespace Go.Proofs.YtmjgnfkbnofjoaaGreatDoor
set_option linter.unusedVariables false
def solF (L:List Sym) (J:List Int) (m:Nat):Option ((Int→Int) × Int):=
 match uniF L J ((J.length+1) * J.length+J.length+3) (ld0 J) [(0,endN L J 0,m)] with
 | some (some ld)=>
  match sizF L J ld (J.length+1) (fun _=>0) 0 with
  | some (k,_)=>if k = -1 then none else some (ld,k)
  | none=>none
 | _=>none
structure Sol (L:List Sym) (J:List Int) (m:Nat):Prop where
 uni:∃ res,UOk L J res ((J.length+1) * J.length+J.length+3) (ld0 J) [(0,endN L J 0,m)]∧(res=none→solF L J m=none)∧∀ ld,res=some ld→LdOk J ld∧∃ k sz', sizF L J ld (J.length+1) (fun _=>0) 0=some (k,sz')∧(k = -1→solF L J m=none)∧(k ≠ -1→solF L J m=some (ld,k)∧∃ u,Val L J ld 0 u∧k=min (u.length:Int) 2001)
theorem unk_le (N:Nat) (sz:Nat→Int):unk N sz≤N:=by
 have:=List.countP_le_length (p:=fun p:Nat=>decide (sz p=0)) (l:=List.range N)
 simpa [unk] using this
theorem sol_any {L:List Sym} {J:List Int} (hT:Trs L J) (hv:∀ x∈J, -198≤x) {m:Nat} (h0:0<J.length) (hm:m<J.length):Sol L J m:=by
 have hl:=ld0_ok hv
 have hr:RunOk L J (0,endN L J 0,m):=⟨1,endN L J m,hT 0 h0,hT m hm⟩
 have hroot:=roots_len J (ld0 J)
 have he:=hT.lt h0
 have hb:(J.length+1) * roots J (ld0 J)+runsN [(0,endN L J 0,m)]<(J.length+1) * J.length+J.length+3:=by
  have:=Nat.mul_le_mul_left (J.length+1) hroot
  simp only [runsN];omega
 obtain ⟨res,e1,e2⟩:=uni_ends hT _ _ _ hl (fun r hr' => by simp at hr'; rw [hr'];exact hr) hb
 refine ⟨res,⟨hT,hl,fun r hr' => by simp at hr'; rw [hr'];exact hr,e1,by simp;omega⟩,?_,?_⟩
 ·intro e
  rw [e] at e1
  unfold solF;rw [e1]
 ·intro ld e
  have hld:=e2 ld e
  rw [e] at e1
  have hz:SzOk (fun _=>0):=fun p=>.inr ⟨by simp,by simp⟩
  have hk:Known L J ld (fun _=>0):=fun p _ _ h=>by simp at h
  have p0:UPart J 0:=part_nat (p:=0) h0
  obtain ⟨k,sz', g1,g2⟩:=sizF_ends hT hld (J.length+1) (fun _=>0) 0 p0 hz (by have:=unk_le J.length (fun _=>0);omega)
  obtain ⟨-,g4⟩:=sizF_known hT hld _ _ _ _ _ p0 hz hk g1
  refine ⟨hld,k,sz', g1,?_,?_⟩
  ·intro e
   unfold solF;rw [e1];simp only [g1];rw [if_pos e]
  ·intro e
   refine ⟨by unfold solF;rw [e1];simp only [g1];rw [if_neg e],g4 e⟩
def PairEq (L:List Sym) (J:List Int) (φ:Int→Int) (r:Nat × Nat × Nat):Prop:=∀ k z,Forest L J k r.1 r.2.1→Forest L J k r.2.2 z→∀ i,i<k→φ (past L J i r.1:Nat)=φ (past L J i r.2.2:Nat)
def Compat (J:List Int) (φ ld:Int→Int):Prop:=∀ x,UPart J x→φ (ld x)=φ x
theorem pair_back {L:List Sym} {J:List Int} {φ:Int→Int} {x y o:Nat} (hxy:x<y) (h1:φ x=φ o) (h:PairEq L J φ (endN L J x,y,endN L J o)):PairEq L J φ (x,y,o):=by
 intro k z f1 f2 i hi
 cases k with
 | zero=>omega
 | succ k=>
  obtain ⟨_,_,a3⟩:=f1.succ
  obtain ⟨_,_,b3⟩:=f2.succ
  cases i with
  | zero=>exact h1
  | succ i=>exact h k z a3 b3 i (by omega)
def Inv (L:List Sym) (J:List Int) (m:Nat) (ld:Int→Int) (rs:List (Nat × Nat × Nat)):Prop:=∀ φ:Int→Int,Compat J φ ld→(∀ r∈rs,PairEq L J φ r)→φ 0=φ m∧∀ P:Nat,P<J.length→0≤at' J P→∀ i,i<arN L (at' J P)→φ (past L J i (P+1):Nat)=φ (past L J i ((ld P).toNat+1):Nat)
theorem compat_un {J:List Int} {φ ld:Int→Int} {p q:Int} (hl:LdOk J ld) (hp:UPart J p) (lp:ld p=p) (h:Compat J φ (un p q ld)):φ p=φ q∧Compat J φ ld:=by
 have e:φ p=φ q:=by
  have:=h p hp
  unfold un at this
  rw [if_pos lp] at this
  exact this.symm
 refine ⟨e,fun x hx=>?_⟩
 have:=h x hx
 unfold un at this
 by_cases f:ld x=p
 ·rw [if_pos f] at this;rw [f,e];exact this
 ·rw [if_neg f] at this;exact this
theorem uni_inv {L:List Sym} {J:List Int} {m:Nat}:∀ (n:Nat) (ld:Int→Int) (rs:List (Nat × Nat × Nat)) (ldf:Int→Int),UOk L J (some ldf) n ld rs→Inv L J m ld rs→Inv L J m ldf []:=by
 intro n
 induction n with
 | zero=>intro ld rs ldf h _;have:=h.eq;simp [uniF] at this
 | succ n ih=>
  intro ld rs ldf h hI
  cases rs with
  | nil=>
   have:=h.nil
   simp only [Option.some.injEq] at this
   rw [this];exact hI
  | cons r rs=>
   obtain ⟨x,y,o⟩:=r
   by_cases hxy:x<y
   ·obtain ⟨k', hk', S1,S2,S3,S4,S5⟩:=h.step hxy
    obtain ⟨t1,t2,t3,t4,hpx,hpo,hlx,hlo,hr⟩:=h.top hxy
    have px:=part_nat (J:=J) (p:=x) t1
    have po:=part_nat (J:=J) (p:=o) t2
    obtain rfl:k' = n:=by omega
    have rest:∀ (φ:Int→Int),Compat J φ ld→φ (ld x)=φ (ld o)→(∀ r∈(endN L J x,y,endN L J o) :: rs,PairEq L J φ r)→∀ r∈(x,y,o) :: rs,PairEq L J φ r:=by
     intro φ hc he hp r hr
     rcases List.mem_cons.1 hr with e | e
     ·rw [e]
      refine pair_back hxy ?_ (hp _ (by simp))
      rw [← hc x px,← hc o po,he]
     ·exact hp r (by simp [e])
    by_cases h1:ld x=ld o
    ·exact ih _ _ _ (S1 h1) (fun φ hc hp=>hI φ hc (rest φ hc (by rw [h1]) hp))
    ·by_cases h2:ld x<0
     ·refine ih _ _ _ (S2 h1 h2) (fun φ hc hp=>?_)
      obtain ⟨e,hc'⟩:=compat_un h.ok hpx hlx hc
      obtain ⟨a1,a2⟩:=hI φ hc' (rest φ hc' e hp)
      refine ⟨a1,fun P hP hs i hi=>?_⟩
      have hl:=(h.ok.like P (part_nat hP) (by omega) hs).1
      have:un (ld x) (ld o) ld P=ld P:=by unfold un;rw [if_neg (by omega)]
      rw [this];exact a2 P hP hs i hi
     ·by_cases h3:ld o<0
      ·refine ih _ _ _ (S3 h1 h2 h3) (fun φ hc hp=>?_)
       obtain ⟨e,hc'⟩:=compat_un h.ok hpo hlo hc
       obtain ⟨a1,a2⟩:=hI φ hc' (rest φ hc' e.symm hp)
       refine ⟨a1,fun P hP hs i hi=>?_⟩
       have hl:=(h.ok.like P (part_nat hP) (by omega) hs).1
       have:un (ld o) (ld x) ld P=ld P:=by unfold un;rw [if_neg (by omega)]
       rw [this];exact a2 P hP hs i hi
      ·by_cases h4:at' J (ld x)=at' J (ld o)
       ·refine ih _ _ _ (S5 h1 h2 h3 h4) (fun φ hc hp=>?_)
        obtain ⟨e,hc'⟩:=compat_un h.ok hpx hlx hc
        obtain ⟨a1,a2⟩:=hI φ hc' (rest φ hc' e (fun r hr=>hp r (by simp at hr ⊢;exact .inr hr)))
        refine ⟨a1,fun P hP hs i hi=>?_⟩
        by_cases f:ld P=ld x
        ·have e1:un (ld x) (ld o) ld P=ld o:=by unfold un;rw [if_pos f]
         have h5:=a2 P hP hs i hi
         rw [f] at h5
         rw [h5,e1]
         have hl:=(h.ok.like P (part_nat hP) (by omega) hs)
         rw [f] at hl
         have hpl:(ld x).toNat<J.length:=by have:=hpx.2;omega
         have hql:(ld o).toNat<J.length:=by have:=hpo.2;omega
         have f1:=kids_forest h.trs hpl
         have f2:=kids_forest h.trs hql
         have c1:(((ld x).toNat:Nat):Int)=ld x:=by omega
         have c2:(((ld o).toNat:Nat):Int)=ld o:=by omega
         rw [c1] at f1
         rw [c2,← h4] at f2
         exact hp ((ld x).toNat+1,endN L J (ld x).toNat,(ld o).toNat+1) (by simp) _ _ f1 f2 i (by rw [hl.2];exact hi)
        ·have e1:un (ld x) (ld o) ld P=ld P:=by unfold un;rw [if_neg f]
         rw [e1];exact a2 P hP hs i hi
       ·have:=S4 h1 h2 h3 h4;cases this
   ·obtain ⟨k', hk', hU⟩:=h.pop hxy
    obtain rfl:k' = n:=by omega
    refine ih _ _ _ hU (fun φ hc hp=>hI φ hc (fun r hr=>?_))
    rcases List.mem_cons.1 hr with e | e
    ·rw [e]
     intro k z f1 f2 i hi
     have:=f1.le
     cases k with
     | zero=>omega
     | succ k=>have:=f1.pos;simp only at this;omega
    ·exact hp r e
theorem inv_start {L:List Sym} {J:List Int} (hT:Trs L J) {m:Nat} (h0:0<J.length) (hm:m<J.length):Inv L J m (ld0 J) [(0,endN L J 0,m)]:=by
 intro φ hc hp
 refine ⟨hp (0,endN L J 0,m) (by simp) 1 _ (hT 0 h0) (hT m hm) 0 (by omega),fun P hP hs i hi=>?_⟩
 have:ld0 J (P:Int)=P:=by unfold ld0;rw [if_neg (by omega)]
 rw [this,Int.toNat_natCast]
structure Closed (L:List Sym) (J:List Int) (m:Nat) (ld:Int→Int):Prop where
 trs:Trs L J
 ok:LdOk J ld
 both:ld 0=ld m
 args:∀ P:Nat,P<J.length→0≤at' J P→∀ i,i<arN L (at' J P)→ld (past L J i (P+1):Nat)=ld (past L J i ((ld P).toNat+1):Nat)
 var:∀ P:Nat,P<J.length→at' J P<0→ld P=ld (at' J P)
theorem uni_var {L:List Sym} {J:List Int} {P:Nat} (hP:P<J.length) (hv:UPart J (at' J P)):∀ (n:Nat) (ld:Int→Int) (rs:List (Nat × Nat × Nat)) (ldf:Int→Int),UOk L J (some ldf) n ld rs→ld P=ld (at' J P)→ldf P=ldf (at' J P):=by
 have hun:∀ (p q:Int) (ld:Int→Int),ld P=ld (at' J P)→un p q ld P=un p q ld (at' J P):=fun p q ld e=>by unfold un;rw [e]
 intro n
 induction n with
 | zero=>intro ld rs ldf h _;have:=h.eq;simp [uniF] at this
 | succ n ih=>
  intro ld rs ldf h hI
  cases rs with
  | nil=>
   have:=h.nil
   simp only [Option.some.injEq] at this
   rw [this];exact hI
  | cons r rs=>
   obtain ⟨x,y,o⟩:=r
   by_cases hxy:x<y
   ·obtain ⟨k', hk', S1,S2,S3,S4,S5⟩:=h.step hxy
    obtain rfl:k' = n:=by omega
    by_cases h1:ld x=ld o
    ·exact ih _ _ _ (S1 h1) hI
    ·by_cases h2:ld x<0
     ·exact ih _ _ _ (S2 h1 h2) (hun _ _ _ hI)
     ·by_cases h3:ld o<0
      ·exact ih _ _ _ (S3 h1 h2 h3) (hun _ _ _ hI)
      ·by_cases h4:at' J (ld x)=at' J (ld o)
       ·exact ih _ _ _ (S5 h1 h2 h3 h4) (hun _ _ _ hI)
       ·have:=S4 h1 h2 h3 h4;cases this
   ·obtain ⟨k', hk', hU⟩:=h.pop hxy
    obtain rfl:k' = n:=by omega
    exact ih _ _ _ hU hI
theorem uni_final {L:List Sym} {J:List Int}:∀ (n:Nat) (ld:Int→Int) (rs:List (Nat × Nat × Nat)) (ldf:Int→Int),UOk L J (some ldf) n ld rs→LdOk J ldf:=by
 intro n
 induction n with
 | zero=>intro ld rs ldf h;have:=h.eq;simp [uniF] at this
 | succ n ih=>
  intro ld rs ldf h
  cases rs with
  | nil=>
   have:=h.nil
   simp only [Option.some.injEq] at this
   rw [this];exact h.ok
  | cons r rs=>
   obtain ⟨x,y,o⟩:=r
   by_cases hxy:x<y
   ·obtain ⟨k', hk', S1,S2,S3,S4,S5⟩:=h.step hxy
    obtain rfl:k' = n:=by omega
    by_cases h1:ld x=ld o
    ·exact ih _ _ _ (S1 h1)
    ·by_cases h2:ld x<0
     ·exact ih _ _ _ (S2 h1 h2)
     ·by_cases h3:ld o<0
      ·exact ih _ _ _ (S3 h1 h2 h3)
      ·by_cases h4:at' J (ld x)=at' J (ld o)
       ·exact ih _ _ _ (S5 h1 h2 h3 h4)
       ·have:=S4 h1 h2 h3 h4;cases this
   ·obtain ⟨k', hk', hU⟩:=h.pop hxy
    obtain rfl:k' = n:=by omega
    exact ih _ _ _ hU
theorem closed_of {L:List Sym} {J:List Int} (hv:∀ x∈J, -198≤x) {m n:Nat} (h0:0<J.length) (hm:m<J.length) {ldf:Int→Int} (h:UOk L J (some ldf) n (ld0 J) [(0,endN L J 0,m)]):Closed L J m ldf:=by
 have hl:=uni_final _ _ _ _ h
 obtain ⟨a1,a2⟩:=uni_inv _ _ _ _ h (inv_start h.trs h0 hm) ldf (fun x hx=>hl.idem x hx) (by simp)
 refine ⟨h.trs,hl,a1,a2,fun P hP hs=>?_⟩
 have hpt:UPart J (at' J P):=by
  refine ⟨?_,by omega⟩
  rw [at'_nat J P hP];exact hv _ (List.getElem_mem _)
 refine uni_var hP hpt _ _ _ _ h ?_
 have e1:ld0 J (P:Int)=at' J P:=by unfold ld0;rw [if_pos ⟨by omega,hs⟩]
 have e2:ld0 J (at' J P)=at' J P:=by unfold ld0;rw [if_neg (by omega)]
 rw [e1,e2]
def PairEx {X:Type} (L:List Sym) (J:List Int) (val:Int→X) (r:Nat × Nat × Nat):Prop:=∃ k z,Forest L J k r.1 r.2.1∧Forest L J k r.2.2 z∧∀ i,i<k→val (past L J i r.1:Nat)=val (past L J i r.2.2:Nat)
def Inj {X:Type} (L:List Sym) (J:List Int) (val:Int→X):Prop:=∀ p q:Nat,p<J.length→q<J.length→0≤at' J p→0≤at' J q→val p=val q→at' J p=at' J q∧∀ i,i<arN L (at' J p)→val (past L J i (p+1):Nat)=val (past L J i (q+1):Nat)
theorem uni_least {X:Type} {L:List Sym} {J:List Int} {val:Int→X} (hin:Inj L J val):∀ (n:Nat) (ld:Int→Int) (rs:List (Nat × Nat × Nat)) (res:Option (Int→Int)),UOk L J res n ld rs→(∀ x,UPart J x→val (ld x)=val x)→(∀ r∈rs,PairEx L J val r)→∃ ldf,res=some ldf∧∀ x,UPart J x→val (ldf x)=val x:=by
 intro n
 induction n with
 | zero=>intro ld rs res h;have:=h.eq;simp [uniF] at this
 | succ n ih=>
  intro ld rs res h hv hp
  cases rs with
  | nil=>exact ⟨ld,h.nil,hv⟩
  | cons r rs=>
   obtain ⟨x,y,o⟩:=r
   have hp2:∀ r∈rs,PairEx L J val r:=fun r hr=>hp r (by simp [hr])
   by_cases hxy:x<y
   ·obtain ⟨k', hk', S1,S2,S3,S4,S5⟩:=h.step hxy
    obtain ⟨t1,t2,t3,t4,hpx,hpo,hlx,hlo,hr⟩:=h.top hxy
    have px:=part_nat (J:=J) (p:=x) t1
    have po:=part_nat (J:=J) (p:=o) t2
    obtain rfl:k' = n:=by omega
    obtain ⟨k,z,f1,f2,f3⟩:=hp (x,y,o) (by simp)
    obtain ⟨c,rfl⟩:∃ c,k=c+1:=by
     cases k with
     | zero=>have:=f1.zero;simp only at this;omega
     | succ c=>exact ⟨c,rfl⟩
    have hxo:val x=val o:=f3 0 (by omega)
    have hpp:val (ld x)=val (ld o):=by rw [hv x px,hv o po,hxo]
    have hp3:∀ r∈(endN L J x,y,endN L J o) :: rs,PairEx L J val r:=by
     intro r hr
     rcases List.mem_cons.1 hr with e | e
     ·rw [e]
      exact ⟨c,z,f1.succ.2.2,f2.succ.2.2,fun i hi=>f3 (i+1) (by omega)⟩
     ·exact hp2 r e
    have hun:∀ p q:Int,val p=val q→∀ x,UPart J x→val (un p q ld x)=val x:=by
     intro p q e x hx
     unfold un
     split
     ·rename_i f;rw [← e,← f];exact hv x hx
     ·exact hv x hx
    by_cases h1:ld x=ld o
    ·exact ih _ _ _ (S1 h1) hv hp3
    ·by_cases h2:ld x<0
     ·exact ih _ _ _ (S2 h1 h2) (hun _ _ hpp) hp3
     ·by_cases h3:ld o<0
      ·exact ih _ _ _ (S3 h1 h2 h3) (hun _ _ hpp.symm) hp3
      ·have hpl:(ld x).toNat<J.length:=by have:=hpx.2;omega
       have hql:(ld o).toNat<J.length:=by have:=hpo.2;omega
       have c1:(((ld x).toNat:Nat):Int)=ld x:=by omega
       have c2:(((ld o).toNat:Nat):Int)=ld o:=by omega
       have hh:=hin (ld x).toNat (ld o).toNat hpl hql (by rw [c1];exact h.ok.sym x px (by omega)) (by rw [c2];exact h.ok.sym o po (by omega)) (by rw [c1,c2];exact hpp)
       rw [c1,c2] at hh
       refine ih _ _ _ (S5 h1 h2 h3 hh.1) (hun _ _ hpp) (fun r hr=>?_)
       rcases List.mem_cons.1 hr with e | e
       ·rw [e]
        have g1:=kids_forest h.trs hpl
        have g2:=kids_forest h.trs hql
        rw [c1] at g1
        rw [c2,← hh.1] at g2
        exact ⟨_,_,g1,g2,hh.2⟩
       ·exact hp3 r e
   ·obtain ⟨k', hk', hU⟩:=h.pop hxy
    obtain rfl:k' = n:=by omega
    exact ih _ _ _ hU hv hp2
def subV (val:Int→List Int) (u:List Int):List Int:=u.flatMap (fun n=>if n<0 then val n else [n])
theorem subV_append (val:Int→List Int) (a b:List Int):subV val (a++b)=subV val a++subV val b:=by simp [subV]
theorem subV_cons (val:Int→List Int) (x:Int) (b:List Int):subV val (x :: b)=(if x<0 then val x else [x])++subV val b:=by simp [subV]
theorem vals_of {L:List Sym} {J:List Int} {ld:Int→Int} {val:Int→List Int}:∀ (l:List Nat),(∀ k∈l,∃ u,Val L J ld k u∧val k=subV val u)→∃ u,Vals L J ld l u∧l.flatMap (fun k:Nat=>val (k:Int))=subV val u
 | [],_=>⟨[],vals_nil _ _ _,rfl⟩
 | x :: r,h=>by
  obtain ⟨u,h1,h2⟩:=h x (by simp)
  obtain ⟨v,h3,h4⟩:=vals_of r (fun k hk=>h k (by simp [hk]))
  exact ⟨u++v,vals_cons h1 h3,by rw [List.flatMap_cons,h2,h4,subV_append]⟩
theorem flat_len {α:Type} {f:α→List Int} {l:List α} {k:α} (h:k∈l):(f k).length≤(l.flatMap f).length:=by
 induction l with
 | nil=>cases h
 | cons x r ih=>
  rw [List.flatMap_cons,List.length_append]
  rcases List.mem_cons.1 h with e | e
  ·subst e;omega
  ·have:=ih e;omega
structure Good (L:List Sym) (J:List Int) (val:Int→List Int):Prop where
 sym:∀ p:Nat,p<J.length→0≤at' J p→val p=at' J p :: (kidsL L J p).flatMap (fun k:Nat=>val (k:Int))
 var:∀ p:Nat,p<J.length→at' J p<0→val p=val (at' J p)
 isT:∀ x,UPart J x→IsT L (val x)
theorem val_exists {L:List Sym} {J:List Int} {ld:Int→Int} {val:Int→List Int} (hT:Trs L J) (hl:LdOk J ld) (hg:Good L J val) (hc:∀ x,UPart J x→val (ld x)=val x):∀ (n:Nat) (x:Int),(val x).length≤n→UPart J x→∃ u,Val L J ld x u∧val x=subV val u:=by
 intro n
 induction n with
 | zero=>
  intro x hn hx
  have:=isT_pos (hg.isT x hx)
  omega
 | succ n ih=>
  intro x hn hx
  by_cases h1:ld x<0
  ·refine ⟨_,val_var h1,?_⟩
   simp only [subV,List.flatMap_cons,List.flatMap_nil,if_pos h1,List.append_nil]
   exact (hc x hx).symm
  ·obtain ⟨p,hp⟩:=Int.eq_ofNat_of_zero_le (Int.not_lt.1 h1)
   have hpl:p<J.length:=by have:=(hl.part x hx).2;omega
   have hs:0≤at' J (p:Int):=by have:=hl.sym x hx (by omega);rwa [hp] at this
   have e:=hg.sym p hpl hs
   have ex:val x=val p:=by rw [← hc x hx,hp]
   obtain ⟨us,h2,h3⟩:=vals_of (L:=L) (J:=J) (ld:=ld) (val:=val) (kidsL L J p) (fun k hk=>by
    refine ih k ?_ (part_nat (kids_lt hT hpl k hk))
    have h4:=flat_len (f:=fun k:Nat=>val (k:Int)) hk
    rw [ex,e,List.length_cons] at hn
    omega)
   have e1:(ld x).toNat=p:=by omega
   refine ⟨at' J (ld x) :: us,val_sym h1 (by rw [e1];exact h2),?_⟩
   rw [ex,e,h3,subV_cons,hp]
   have:¬ at' J ((p:Nat):Int)<0:=by omega
   show _=(if at' J ((p:Nat):Int)<0 then _ else _)++_
   rw [if_neg this];rfl
theorem isT_inj {L:List Sym} {a b r s:List Int} (ha:IsT L a) (hb:IsT L b) (h:a++r=b++s):a=b∧r=s:=by
 have h1:=need_scan (b:=r) ha
 have h2:=need_scan (b:=s) hb
 rw [h,h2] at h1
 simp only [Option.some.injEq] at h1
 exact List.append_inj h h1.symm
theorem flat_inj {L:List Sym} {f:Nat→List Int}:∀ (l m:List Nat),l.length=m.length→(∀ k∈l,IsT L (f k))→(∀ k∈m,IsT L (f k))→l.flatMap f=m.flatMap f→∀ i (h:i<l.length) (h' : i<m.length),f l[i]=f m[i]
 | [],m,_,_,_,_,i,h,_=>by simp at h
 | x :: l,[],hl,_,_,_,i,h,h' => by simp at h'
 | x :: l,y :: m,hl,h1,h2,e,i,h,h' => by
  rw [List.flatMap_cons,List.flatMap_cons] at e
  obtain ⟨e1,e2⟩:=isT_inj (h1 x (by simp)) (h2 y (by simp)) e
  cases i with
  | zero=>exact e1
  | succ i=>exact flat_inj l m (by simpa using hl) (fun k hk=>h1 k (by simp [hk])) (fun k hk=>h2 k (by simp [hk])) e2 i (by simpa using h) (by simpa using h')
theorem kids_at {L:List Sym} {J:List Int} {p i:Nat} (hi:i<arN L (at' J p)):(kidsL L J p)[i]? = some (past L J i (p+1)):=starts_at hi
theorem good_inj {L:List Sym} {J:List Int} {val:Int→List Int} (hT:Trs L J) (hg:Good L J val):Inj L J val:=by
 intro p q hp hq sp sq e
 rw [hg.sym p hp sp,hg.sym q hq sq] at e
 simp only [List.cons.injEq] at e
 refine ⟨e.1,fun i hi=>?_⟩
 have l1:(kidsL L J p).length=arN L (at' J p):=starts_length _ _ _ _
 have l2:(kidsL L J q).length=arN L (at' J q):=starts_length _ _ _ _
 have hl:(kidsL L J p).length=(kidsL L J q).length:=by rw [l1,l2,e.1]
 have h1:i<(kidsL L J p).length:=by omega
 have h2:i<(kidsL L J q).length:=by omega
 have:=flat_inj (L:=L) (f:=fun k:Nat=>val (k:Int)) _ _ hl (fun k hk=>hg.isT _ (part_nat (kids_lt hT hp k hk))) (fun k hk=>hg.isT _ (part_nat (kids_lt hT hq k hk))) e.2 i h1 h2
 have g1:=kids_at (L:=L) (J:=J) (p:=p) hi
 have g2:=kids_at (L:=L) (J:=J) (p:=q) (i:=i) (by rw [← e.1];exact hi)
 rw [List.getElem?_eq_getElem h1,Option.some.injEq] at g1
 rw [List.getElem?_eq_getElem h2,Option.some.injEq] at g2
 rw [g1,g2] at this
 exact this
theorem kid_less {L:List Sym} {J:List Int} {ld:Int→Int}:∀ (l:List Nat) (u:List Int),Vals L J ld l u→∀ y∈l,∃ t', Val L J ld y t' ∧ t'.length≤u.length
 | [],u,_,y,hy=>by simp at hy
 | x :: r,u,h,y,hy=>by
  obtain ⟨a,b,h1,h2,h3⟩:=vals_split h
  subst h3
  rcases List.mem_cons.1 hy with e | e
  ·subst e;exact ⟨a,h1,by simp⟩
  ·obtain ⟨t', g1,g2⟩:=kid_less r b h2 y e
   exact ⟨t', g1,by rw [List.length_append];omega⟩
def Above (L:List Sym) (J:List Int) (ld:Int→Int) (sz:Nat→Int) (x:Int):Prop:=∀ p:Nat,p<J.length→ld p=p→sz p = -1→∀ t,Val L J ld p t→∃ t', Val L J ld x t' ∧ t'.length<t.length
theorem sizA_none {L:List Sym} {J:List Int} {ld:Int→Int} {n:Nat} (hf:∀ sz x k sz', UPart J x→SzOk sz→sizF L J ld n sz x=some (k,sz')→(k ≠ -1→∀ p,sz' p = -1→sz p = -1)∧(k = -1→Above L J ld sz x→∀ u,¬ Val L J ld x u)):∀ (l:List Nat),(∀ x∈l,x<J.length)→∀ (s:Int) (sz:Nat→Int) (k:Int) (sz' : Nat→Int),1≤s→s≤2001→SzOk sz→sizA (sizF L J ld n) l s sz=some (k,sz')→(k ≠ -1→∀ p,sz' p = -1→sz p = -1)∧(k = -1→(∀ x∈l,Above L J ld sz (x:Nat))→∀ u,¬ Vals L J ld l u)
 | [],_,s,sz,k,sz', h1,_,_,e=>by
  simp only [sizA,Option.some.injEq,Prod.mk.injEq] at e
  obtain ⟨rfl,rfl⟩:=e
  exact ⟨fun _ _ h=>h,fun e=>by omega⟩
 | x :: r,hl,s,sz,k,sz', h1,h2,h3,e=>by
  unfold sizA at e
  cases hx:sizF L J ld n sz (x:Int) with
  | none=>simp [hx] at e
  | some v=>
   obtain ⟨k1,sz1⟩:=v
   simp only [hx] at e
   obtain ⟨g1,g2⟩:=hf _ _ _ _ (part_nat (hl x (by simp))) h3 hx
   have g3:=sizF_ok n _ _ _ _ h3 hx
   by_cases hk:k1 = -1
   ·rw [if_pos hk] at e
    simp only [Option.some.injEq,Prod.mk.injEq] at e
    obtain ⟨rfl,rfl⟩:=e
    refine ⟨fun f=>absurd rfl f,fun _ ha u hu=>?_⟩
    obtain ⟨a,b,q1,q2,q3⟩:=vals_split hu
    exact g2 hk (ha x (by simp)) a q1
   ·rw [if_neg hk] at e
    obtain ⟨f1,f2⟩:=sizA_none hf r (fun y hy=>hl y (by simp [hy])) _ _ _ _ (by omega) (by omega) g3.1 e
    refine ⟨fun hk' p hp=>g1 hk p (f1 hk' p hp),fun hk' ha u hu=>?_⟩
    obtain ⟨a,b,q1,q2,q3⟩:=vals_split hu
    exact f2 hk' (fun y hy p hp hpp hs=>ha y (by simp [hy]) p hp hpp (g1 hk p hs)) b q2
theorem sizF_none {L:List Sym} {J:List Int} {ld:Int→Int} (hT:Trs L J) (hl:LdOk J ld):∀ (n:Nat) (sz:Nat→Int) (x k:Int) (sz' : Nat→Int),UPart J x→SzOk sz→sizF L J ld n sz x=some (k,sz')→(k ≠ -1→∀ p,sz' p = -1→sz p = -1)∧(k = -1→Above L J ld sz x→∀ u,¬ Val L J ld x u):=by
 intro n
 induction n with
 | zero=>intro sz x k sz' _ _ e;simp [sizF] at e
 | succ n ih=>
  intro sz x k sz' hx hs e
  rw [sizF] at e
  by_cases h1:ld x<0
  ·rw [if_pos h1] at e
   simp only [Option.some.injEq,Prod.mk.injEq] at e
   obtain ⟨rfl,rfl⟩:=e
   exact ⟨fun _ _ h=>h,fun e=>by omega⟩
  ·rw [if_neg h1] at e
   obtain ⟨p,hp⟩:=Int.eq_ofNat_of_zero_le (Int.not_lt.1 h1)
   have hpl:p<J.length:=by have:=(hl.part x hx).2;omega
   have hpp:ld (p:Int)=p:=by
    have:=hl.idem x hx
    rw [hp] at this;exact this
   have e1:(ld x).toNat=p:=by omega
   have exp:ld x=ld (p:Int):=by rw [hpp,hp]
   rw [e1] at e
   by_cases h2:sz p≠0
   ·rw [if_pos h2] at e
    simp only [Option.some.injEq,Prod.mk.injEq] at e
    obtain ⟨rfl,rfl⟩:=e
    refine ⟨fun _ _ h=>h,fun hk ha u hu=>?_⟩
    obtain ⟨t', q1,q2⟩:=ha p hpl hpp hk u (val_ld exp hu)
    rw [q1.uniq hu] at q2
    omega
   ·rw [if_neg h2] at e
    have h0:sz p=0:=by simpa using h2
    cases h3:sizA (sizF L J ld n) (kidsL L J p) 1 (updN sz p (-1)) with
    | none=>simp [h3] at e
    | some v=>
     obtain ⟨s,sz1⟩:=v
     obtain ⟨g1,g2⟩:=sizA_none ih _ (kids_lt hT hpl) 1 _ _ _ (by omega) (by omega) (hs.upd _ (.inl rfl)) h3
     simp only [h3] at e
     by_cases hss:s = -1
     ·rw [if_pos hss] at e
      simp only [Option.some.injEq,Prod.mk.injEq] at e
      obtain ⟨rfl,rfl⟩:=e
      refine ⟨fun f=>absurd rfl f,fun _ ha u hu=>?_⟩
      obtain ⟨v,q1,q2⟩:=val_sym' h1 hu
      rw [e1] at q2
      have up:∀ (t:List Int),Val L J ld (p:Int) t→∀ y∈kidsL L J p,∃ t', Val L J ld (y:Nat) t' ∧ t'.length<t.length:=by
       intro t ht y hy
       obtain ⟨v', r1,r2⟩:=val_sym' (by rw [hpp];omega) ht
       rw [hpp,Int.toNat_natCast] at r2
       obtain ⟨t', r3,r4⟩:=kid_less _ _ r2 y hy
       exact ⟨t', r3,by rw [r1,List.length_cons];omega⟩
      refine g2 hss (fun y hy q hq hqq hsq t ht=>?_) v q2
      unfold updN at hsq
      by_cases eq:q=p
      ·subst eq;exact up t ht y hy
      ·rw [if_neg eq] at hsq
       obtain ⟨t2,r1,r2⟩:=ha q hq hqq hsq t ht
       obtain ⟨t3,r3,r4⟩:=up t2 (val_ld exp r1) y hy
       exact ⟨t3,r3,by omega⟩
     ·rw [if_neg hss] at e
      simp only [Option.some.injEq,Prod.mk.injEq] at e
      obtain ⟨rfl,rfl⟩:=e
      refine ⟨fun _ q hq=>?_,fun f=>absurd f hss⟩
      unfold updN at hq
      by_cases eq:q=p
      ·rw [if_pos eq] at hq;exact absurd hq hss
      ·rw [if_neg eq] at hq
       have:=g1 hss q hq
       unfold updN at this
       rwa [if_neg eq] at this
theorem sol_good {L:List Sym} {J:List Int} (hT:Trs L J) (hv:∀ x∈J, -198≤x) {m:Nat} (h0:0<J.length) (hm:m<J.length) {val:Int→List Int} (hg:Good L J val) (he:val 0=val m) :
  ∃ ld k u,solF L J m=some (ld,k)∧Closed L J m ld∧Val L J ld 0 u∧k=min (u.length:Int) 2001∧val 0=subV val u∧∀ x,UPart J x→val (ld x)=val x:=by
 obtain ⟨res,hU,hR1,hR2⟩:=(sol_any hT hv h0 hm).uni
 have hst:∀ x,UPart J x→val (ld0 J x)=val x:=by
  intro x hx
  by_cases h:0≤x∧at' J x<0
  ·have e:ld0 J x=at' J x:=by unfold ld0;rw [if_pos h]
   obtain ⟨p,rfl⟩:=Int.eq_ofNat_of_zero_le h.1
   rw [e]
   exact (hg.var p (by have:=hx.2;omega) h.2).symm
  ·have e:ld0 J x=x:=by unfold ld0;rw [if_neg h]
   rw [e]
 obtain ⟨ld,rfl,hc⟩:=uni_least (good_inj hT hg) _ _ _ _ hU hst (fun r hr=>by
  simp only [List.mem_cons,List.not_mem_nil,or_false] at hr
  subst hr
  refine ⟨1,endN L J m,hT 0 h0,hT m hm,fun i hi=>?_⟩
  obtain rfl:i=0:=by omega
  exact he)
 obtain ⟨hl,k,sz', hs,hk1,hk2⟩:=hR2 ld rfl
 obtain ⟨u,hu,hvu⟩:=val_exists hT hl hg hc _ 0 (Nat.le_refl _) (part_nat (p:=0) h0)
 have hk:k ≠ -1:=fun e=>(sizF_none hT hl _ _ _ _ _ (part_nat (p:=0) h0) (fun p=>.inr ⟨by simp,by simp⟩) hs).2 e (fun p _ _ f=>by simp at f) u hu
 obtain ⟨e1,u', hu', hku⟩:=hk2 hk
 have:=hu'.uniq hu
 subst this
 exact ⟨ld,k,u', e1,closed_of hv h0 hm hU,hu,hku,hvu,hc⟩
def vstep (o:List Int) (x:Int):List Int:=if isV x=true∧¬ (-x)∈o then o ++ [-x] else o
def vs (o:List Int) (t:List Int):List Int:=t.foldl vstep o
def varsL (t:List Int):List Int:=vs [] t
theorem vs_snoc (o a:List Int) (x:Int):vs o (a ++ [x])=vstep (vs o a) x:=by simp [vs]
theorem vs_take {o t:List Int} {k:Nat} (h:k<t.length):vs o (t.take (k+1))=vstep (vs o (t.take k)) t[k]:=by
 rw [List.take_add_one,List.getElem?_eq_getElem h];exact vs_snoc _ _ _
theorem isV_iff {x:Int}:isV x=true ↔ -99≤x∧x ≤ -1:=by simp [isV]
theorem vstep_sub (o:List Int) (x:Int):o <+: vstep o x:=by
 unfold vstep
 split
 ·exact List.prefix_append _ _
 ·exact List.prefix_refl _
theorem vs_sub (o t:List Int):o <+: vs o t:=by
 induction t generalizing o with
 | nil=>exact List.prefix_refl _
 | cons x r ih=>exact (vstep_sub o x).trans (ih (vstep o x))
theorem vs_mem {o t:List Int} {x:Int} (hx:x∈t) (hv:isV x=true) : -x∈vs o t:=by
 induction t generalizing o with
 | nil=>simp at hx
 | cons y r ih=>
  rcases List.mem_cons.1 hx with rfl | hx
  ·have h1 : -x∈vstep o x:=by
    unfold vstep
    split
    ·simp
    ·rename_i h;simp [hv] at h;exact h
   exact (vs_sub (vstep o x) r).subset h1
  ·exact ih hx
theorem vs_len (o t:List Int):(vs o t).length≤o.length+t.length:=by
 induction t generalizing o with
 | nil=>simp [vs]
 | cons x r ih=>
  have:=ih (vstep o x)
  have h2:(vstep o x).length≤o.length+1:=by unfold vstep;split <;> simp
  simp only [vs,List.foldl_cons,List.length_cons] at *
  omega
def pl (o:List Int) (x:Int):Int:=if isV x=true then -((o.idxOf (-x):Int)+1) else x
def cutJ (L:List Sym) (J:List Int) (p:Nat):List Int:=(J.drop p).take (endN L J p-p)
theorem cut_forest {L:List Sym} {J:List Int}:∀ (k p q:Nat),Forest L J k p q→(J.drop p).take (q-p)=(starts L J k p).flatMap (cutJ L J)
 | 0,p,q,h=>by have:=h.zero;subst this;simp [starts]
 | k+1,p,q,h=>by
  obtain ⟨h1,h2,h3⟩:=h.succ
  have h4:=h3.le
  rw [starts,List.flatMap_cons,← cut_forest k _ q h3]
  unfold cutJ
  rw [show q-p=(endN L J p-p)+(q-endN L J p) by omega,List.take_add,List.drop_drop,show p+(endN L J p-p)=endN L J p by omega]
theorem cut_sym {L:List Sym} {J:List Int} (hT:Trs L J) {p:Nat} (hp:p<J.length):cutJ L J p=at' J p :: (kidsL L J p).flatMap (cutJ L J):=by
 have hf:=kids_forest hT hp
 have h2:=hT.lt hp
 rw [kidsL,← cut_forest _ _ _ hf,at'_nat J p hp]
 unfold cutJ
 rw [List.drop_eq_getElem_cons hp,show endN L J p-p=(endN L J p-(p+1))+1 by omega,List.take_succ_cons]
theorem cut_isT {L:List Sym} {J:List Int} (hT:Trs L J) {p:Nat} (hp:p<J.length):IsT L (cutJ L J p):=by
 obtain ⟨n,h1,h2,h3⟩:=hT p hp
 unfold cutJ
 rw [h2,show p+n-p=n by omega]
 exact (scan_need h1).2
theorem isT_var (L:List Sym) {x:Int} (h:x<0):IsT L [x]:=by
 unfold IsT
 show need L (0+1) [x]=some 0
 rw [need,need]
 unfold arN;rw [if_pos h]
theorem need_subV {L:List Sym} {f:Int→List Int}:∀ (u:List Int),(∀ n∈u,n<0→IsT L (f n))→∀ k,need L k (subV f u)=need L k u
 | [],_,k=>rfl
 | n :: r,h,k=>by
  have ih:=need_subV r (fun m hm=>h m (by simp [hm]))
  rw [subV_cons]
  by_cases hn:n<0
  ·rw [if_pos hn,need_append]
   have hT:=h n (by simp) hn
   cases k with
   | zero=>
    have:=isT_pos hT
    cases hd:f n with
    | nil=>rw [hd] at this;simp at this
    | cons x y=>simp [need]
   | succ k=>
    have:=need_add hT k
    rw [Nat.add_comm 1 k,Nat.zero_add] at this
    rw [this,Option.bind_some,need,show arN L n=0 by unfold arN;rw [if_pos hn],Nat.add_zero]
    exact ih k
  ·rw [if_neg hn]
   cases k with
   | zero=>rfl
   | succ k=>simp only [List.cons_append,List.nil_append,need];exact ih _
theorem subV_len {L:List Sym} {f:Int→List Int}:∀ (u:List Int),(∀ n∈u,n<0→IsT L (f n))→u.length≤(subV f u).length
 | [],_=>Nat.le_refl _
 | n :: r,h=>by
  have ih:=subV_len r (fun m hm=>h m (by simp [hm]))
  rw [subV_cons,List.length_append,List.length_cons]
  by_cases hn:n<0
  ·rw [if_pos hn];have:=isT_pos (h n (by simp) hn);omega
  ·rw [if_neg hn];simp;omega
theorem subV_congr {f g:Int→List Int}:∀ (u:List Int),(∀ n∈u,n<0→f n=g n)→subV f u=subV g u
 | [],_=>rfl
 | n :: r,h=>by
  rw [subV_cons,subV_cons,subV_congr r (fun m hm=>h m (by simp [hm]))]
  by_cases hn:n<0
  ·rw [if_pos hn,if_pos hn,h n (by simp) hn]
  ·rw [if_neg hn,if_neg hn]
theorem args_isT {L:List Sym} {J:List Int} {ld:Int→Int} {d:Nat} (ih:∀ (x:Int) (u:List Int),UPart J x→tmF L J ld d x=some u→IsT L u):∀ (l:List Nat) (u:List Int),(∀ x∈l,x<J.length)→argsT (tmF L J ld d) l=some u→need L l.length u=some 0
 | [],u,_,e=>by simp only [argsT,Option.some.injEq] at e;subst e;rfl
 | x :: r,u,hl,e=>by
  unfold argsT at e
  cases h1:tmF L J ld d (x:Int) with
  | none=>simp [h1] at e
  | some a=>
   cases h2:argsT (tmF L J ld d) r with
   | none=>simp [h1,h2] at e
   | some b=>
    simp only [h1,h2,Option.some.injEq] at e
    subst e
    have g1:=ih x a (part_nat (hl x (by simp))) h1
    have g2:=args_isT ih r b (fun y hy=>hl y (by simp [hy])) h2
    have:=need_add g1 r.length
    rw [Nat.add_comm 1,Nat.zero_add] at this
    rw [List.length_cons,need_append,this,Option.bind_some,g2]
theorem tm_isT {L:List Sym} {J:List Int} {ld:Int→Int} (hT:Trs L J) (hl:LdOk J ld):∀ (d:Nat) (x:Int) (u:List Int),UPart J x→tmF L J ld d x=some u→IsT L u:=by
 intro d
 induction d with
 | zero=>intro x u _ h;simp [tmF] at h
 | succ d ih=>
  intro x u hx h
  rw [tmF] at h
  by_cases h1:ld x<0
  ·rw [if_pos h1] at h
   simp only [Option.some.injEq] at h
   subst h
   exact isT_var L h1
  ·rw [if_neg h1] at h
   have hp:(ld x).toNat<J.length:=by have:=(hl.part x hx).2;omega
   cases h2:argsT (tmF L J ld d) (kidsL L J (ld x).toNat) with
   | none=>simp [h2] at h
   | some v=>
    simp only [h2,Option.some.injEq] at h
    subst h
    have:=args_isT ih _ _ (kids_lt hT hp) h2
    have e:(kidsL L J (ld x).toNat).length=arN L (at' J (ld x)):=by
     rw [show (kidsL L J (ld x).toNat).length=arN L (at' J ((ld x).toNat:Nat)) from starts_length _ _ _ _,show (((ld x).toNat:Nat):Int)=ld x by omega]
    rw [e] at this
    unfold IsT
    show need L (0+1) _=some 0
    rw [need,Nat.zero_add];exact this
theorem Val.isT {L:List Sym} {J:List Int} {ld:Int→Int} (hT:Trs L J) (hl:LdOk J ld) {x:Int} {u:List Int} (hx:UPart J x) (h:Val L J ld x u):IsT L u:=by
 obtain ⟨d,hd⟩:=h
 exact tm_isT hT hl d x u hx hd
theorem args_in {L:List Sym} {J:List Int} {ld:Int→Int} {d:Nat} {R:Int→Prop} (ih:∀ (x:Int) (u:List Int),UPart J x→tmF L J ld d x=some u→∀ n∈u,R n):∀ (l:List Nat) (u:List Int),(∀ x∈l,x<J.length)→argsT (tmF L J ld d) l=some u→∀ n∈u,R n
 | [],u,_,e=>by simp only [argsT,Option.some.injEq] at e;subst e;simp
 | x :: r,u,hl,e=>by
  unfold argsT at e
  cases h1:tmF L J ld d (x:Int) with
  | none=>simp [h1] at e
  | some a=>
   cases h2:argsT (tmF L J ld d) r with
   | none=>simp [h1,h2] at e
   | some b=>
    simp only [h1,h2,Option.some.injEq] at e
    subst e
    intro n hn
    rcases List.mem_append.1 hn with q | q
    ·exact ih x a (part_nat (hl x (by simp))) h1 n q
    ·exact args_in ih r b (fun y hy=>hl y (by simp [hy])) h2 n q
theorem tm_in {L:List Sym} {J:List Int} {ld:Int→Int} (hT:Trs L J) (hl:LdOk J ld):∀ (d:Nat) (x:Int) (u:List Int),UPart J x→tmF L J ld d x=some u→∀ n∈u,(n<0∧UPart J n)∨(0≤n∧n∈J):=by
 intro d
 induction d with
 | zero=>intro x u _ h;simp [tmF] at h
 | succ d ih=>
  intro x u hx h
  rw [tmF] at h
  by_cases h1:ld x<0
  ·rw [if_pos h1] at h
   simp only [Option.some.injEq] at h
   subst h
   intro n hn
   simp only [List.mem_cons,List.not_mem_nil,or_false] at hn
   subst hn
   exact .inl ⟨h1,hl.part x hx⟩
  ·rw [if_neg h1] at h
   have hp:(ld x).toNat<J.length:=by have:=(hl.part x hx).2;omega
   cases h2:argsT (tmF L J ld d) (kidsL L J (ld x).toNat) with
   | none=>simp [h2] at h
   | some v=>
    simp only [h2,Option.some.injEq] at h
    subst h
    intro n hn
    rcases List.mem_cons.1 hn with q | q
    ·right
     have hs:=hl.sym x hx (by omega)
     refine ⟨by omega,?_⟩
     have:at' J (ld x)=J[(ld x).toNat]:=by
      have:=at'_nat J (ld x).toNat hp
      rwa [show (((ld x).toNat:Nat):Int)=ld x by omega] at this
     rw [q,this];exact List.getElem_mem _
    ·exact args_in ih _ _ (kids_lt hT hp) h2 n q
theorem Val.in {L:List Sym} {J:List Int} {ld:Int→Int} (hT:Trs L J) (hl:LdOk J ld) {x:Int} {u:List Int} (hx:UPart J x) (h:Val L J ld x u):∀ n∈u,(n<0∧UPart J n)∨(0≤n∧n∈J):=by
 obtain ⟨d,hd⟩:=h
 exact tm_in hT hl d x u hx hd
theorem vals_same {L:List Sym} {J:List Int} {ld:Int→Int}:∀ (l m:List Nat) (u:List Int),l.length=m.length→(∀ i (h:i<l.length) (h' : i<m.length),ld (l[i]:Nat)=ld (m[i]:Nat))→Vals L J ld l u→Vals L J ld m u
 | [],[],u,_,_,hv=>hv
 | [],y :: m,u,hl,_,_=>by simp at hl
 | x :: l,[],u,hl,_,_=>by simp at hl
 | x :: l,y :: m,u,hl,h,hv=>by
  obtain ⟨a,b,h1,h2,rfl⟩:=vals_split hv
  have e0:=h 0 (by simp) (by simp)
  exact vals_cons (val_ld e0 h1) (vals_same l m b (by simpa using hl) (fun i p q=>by have:=h (i+1) (by simpa using p) (by simpa using q);simpa using this) h2)
theorem Closed.own {L:List Sym} {J:List Int} {m:Nat} {ld:Int→Int} (hc:Closed L J m ld) {P:Nat} (hP:P<J.length) (hs:0≤at' J P) {u:List Int} (h:Val L J ld P u):∃ us,u=at' J P :: us∧Vals L J ld (kidsL L J P) us:=by
 obtain ⟨g1,g2⟩:=hc.ok.like P (part_nat hP) (by omega) hs
 obtain ⟨v,h1,h2⟩:=val_sym' (by omega) h
 refine ⟨v,by rw [h1,g2],vals_same _ _ v ?_ ?_ h2⟩
 ·have c1:(((ld P).toNat:Nat):Int)=ld P:=by omega
  rw [show (kidsL L J (ld P).toNat).length=_ from starts_length _ _ _ _,show (kidsL L J P).length=_ from starts_length _ _ _ _,c1,g2]
 ·intro i p q
  have c1:(((ld P).toNat:Nat):Int)=ld P:=by omega
  have hi:i<arN L (at' J P):=by
   rw [show (kidsL L J P).length=arN L (at' J P) from starts_length _ _ _ _] at q
   exact q
  have k1:=kids_at (L:=L) (J:=J) (p:=(ld P).toNat) (i:=i) (by rw [c1,g2];exact hi)
  have k2:=kids_at (L:=L) (J:=J) (p:=P) (i:=i) hi
  rw [List.getElem?_eq_getElem p,Option.some.injEq] at k1
  rw [List.getElem?_eq_getElem q,Option.some.injEq] at k2
  rw [k1,k2]
  exact (hc.args P hP hs i hi).symm
structure VarT (L:List Sym) (J:List Int) (ld:Int→Int) (f:Int→List Int):Prop where
 val:∀ n u,Val L J ld n u→f n=u
 none:∀ n,(¬ ∃ u,Val L J ld n u)→f n=[n]
theorem varT_some (L:List Sym) (J:List Int) (ld:Int→Int):∃ f,VarT L J ld f:=by
 have each:∀ n:Int,∃ y:List Int,(∀ u,Val L J ld n u→y=u)∧((¬ ∃ u,Val L J ld n u)→y=[n]):=by
  intro n
  by_cases h:∃ u,Val L J ld n u
  ·obtain ⟨u,hu⟩:=h
   exact ⟨u,fun v hv=>hu.uniq hv,fun f=>absurd ⟨u,hu⟩ f⟩
  ·exact ⟨[n],fun v hv=>absurd ⟨v,hv⟩ h,fun _=>rfl⟩
 obtain ⟨f,hf⟩:=Classical.axiomOfChoice each
 exact ⟨f,fun n=>(hf n).1,fun n=>(hf n).2⟩
theorem VarT.isT {L:List Sym} {J:List Int} {ld:Int→Int} {f:Int→List Int} (h:VarT L J ld f) (hT:Trs L J) (hl:LdOk J ld) {n:Int} (hn:n<0) (hp:UPart J n):IsT L (f n):=by
 by_cases e:∃ u,Val L J ld n u
 ·obtain ⟨u,hu⟩:=e
  rw [h.val n u hu]
  exact hu.isT hT hl hp
 ·rw [h.none n e];exact isT_var L hn
theorem forest_sub {L:List Sym} {J:List Int} {m:Nat} {ld:Int→Int} (hc:Closed L J m ld) {f:Int→List Int} (hv0:VarT L J ld f):∀ (n k p q:Nat) (u:List Int),q-p≤n→Forest L J k p q→Vals L J ld (starts L J k p) u→u=subV f ((J.drop p).take (q-p)):=by
 intro n
 induction n with
 | zero=>
  intro k p q u hn hf hv
  cases k with
  | zero=>
   have:=hf.zero
   subst this
   obtain ⟨d,hd⟩:=hv
   simp only [starts,argsT,Option.some.injEq] at hd
   subst hd
   simp [subV]
  | succ k=>have:=hf.pos;omega
 | succ n ih=>
  intro k p q u hn hf hv
  cases k with
  | zero=>
   have:=hf.zero
   subst this
   obtain ⟨d,hd⟩:=hv
   simp only [starts,argsT,Option.some.injEq] at hd
   subst hd
   simp [subV]
  | succ k=>
   obtain ⟨h1,h2,h3⟩:=hf.succ
   have h4:=h3.le
   have hpl:p<J.length:=by have:=h1.le;omega
   rw [starts] at hv
   obtain ⟨a,b,v1,v2,rfl⟩:=vals_split hv
   have e2:=ih k (endN L J p) q b (by omega) h3 v2
   have e1:a=subV f ((J.drop p).take (endN L J p-p)):=by
    have hcut:(J.drop p).take (endN L J p-p)=at' J p :: (J.drop (p+1)).take (endN L J p-(p+1)):=by
     rw [List.drop_eq_getElem_cons hpl,show endN L J p-p=(endN L J p-(p+1))+1 by omega,List.take_succ_cons,at'_nat J p hpl]
    rw [hcut,subV_cons]
    by_cases hs:0≤at' J p
    ·obtain ⟨us,r1,r2⟩:=hc.own hpl hs v1
     have hk:=kids_forest hc.trs hpl
     rw [r1,if_neg (by omega),ih _ _ _ us (by omega) hk r2];rfl
    ·have hk:=kids_forest hc.trs hpl
     rw [show arN L (at' J p)=0 by unfold arN;rw [if_pos (by omega)]] at hk
     have:=hk.zero
     rw [if_pos (by omega),this,show p+1-(p+1)=0 by omega,List.take_zero]
     have hv' := val_ld (hc.var p hpl (by omega)) v1
     rw [hv0.val _ _ hv'];simp [subV]
   rw [e1,e2,← subV_append]
   congr 1
   rw [show q-p=(endN L J p-p)+(q-endN L J p) by omega,List.take_add,List.drop_drop,show p+(endN L J p-p)=endN L J p by omega]
theorem end_first {L:List Sym} {a b:List Int} (ha:IsT L a):endN L (a++b) 0=a.length:=by
 have s1:=scan_more (need_scan (b:=[]) ha) b
 rw [List.append_nil] at s1
 rw [endN_of (n:=a.length) (by simpa using s1)];omega
theorem end_second {L:List Sym} {a b:List Int} (hb:IsT L b):endN L (a++b) a.length=a.length+b.length:=by
 have s1:=need_scan (b:=[]) hb
 rw [List.append_nil] at s1
 exact endN_of (n:=b.length) (by simpa using s1)
theorem both_sub {L:List Sym} {a b:List Int} {ap:Int} (h0:0≤ap) (ha:IsT L a) (hb:IsT L b) {ld:Int→Int} (hc:Closed L (jl a b ap) a.length ld) {f:Int→List Int} (hf:VarT L (jl a b ap) ld f) {u:List Int} (hu:Val L (jl a b ap) ld 0 u):u=subV f a∧u=subV f (b.map (shF ap)):=by
 have hp:=isT_pos ha
 have hq:=isT_pos hb
 have hl:(jl a b ap).length=a.length+b.length:=by simp [jl]
 have hb' := isT_sh h0 hb
 have hm:Val L (jl a b ap) ld (a.length:Nat) u:=val_ld hc.both hu
 have e1:endN L (jl a b ap) 0=a.length:=end_first (b:=b.map (shF ap)) ha
 have e2:endN L (jl a b ap) a.length=a.length+(b.map (shF ap)).length:=end_second (a:=a) hb'
 constructor
 ·have:=forest_sub hc hf _ 1 0 _ u (Nat.le_refl _) (hc.trs 0 (by omega)) (by
   have:=vals_cons hu (vals_nil L (jl a b ap) ld)
   rw [List.append_nil] at this
   exact this)
  rw [e1] at this
  rw [this]
  unfold jl
  rw [List.drop_zero,Nat.sub_zero,List.take_left]
 ·have:=forest_sub hc hf _ 1 a.length _ u (Nat.le_refl _) (hc.trs a.length (by omega)) (by
   have:=vals_cons hm (vals_nil L (jl a b ap) ld)
   rw [List.append_nil] at this
   exact this)
  rw [e2] at this
  rw [this]
  unfold jl
  rw [List.drop_left,Nat.add_sub_cancel_left,List.take_length]
abbrev Tb:=Nat→List Int
def updT (σ:Tb) (v:Nat) (u:List Int):Tb:=fun x=>if x=v then u else σ x
def noT:Tb:=fun _=>[]
def headT (L:List Sym) (ts:List Int):List Int:=ts.take ((scan L 1 ts).getD 0)
def mw (L:List Sym):List Int→List Int→Tb→Option Tb
 | [],_,σ=>some σ
 | n :: r,ts,σ=>
  if 0≤n then (match ts with | []=>none | x :: ts' => if x=n then mw L r ts' σ else none)
  else if σ (-n).toNat=[] then mw L r (ts.drop (headT L ts).length) (updT σ (-n).toNat (headT L ts))
  else if σ (-n).toNat=headT L ts then mw L r (ts.drop (headT L ts).length) σ else none
theorem arN_neg {L:List Sym} {n:Int} (h:¬ 0≤n):arN L n=0:=by rw [arN,if_pos (by omega)]
def Even (L:List Sym) (p ts:List Int):Prop:=∃ j,need L j p=some 0∧need L j ts=some 0
abbrev Bd:=Int × List Int
end Go.Proofs.YtmjgnfkbnofjoaaGreatDoor
namespace Go.Proofs.YtmjgnfkbnofjoaaGreatDoor
set_option maxRecDepth 100000
set_option linter.unusedVariables false
open Go.RowKit
attribute [local go_sem ↓] Go.wp_at_zero Go.wp_at_succ
structure Part where
 ao:Option Addr
 cap:Nat
 xs:List Int
theorem iv_oneCell (xs:List Int):∀ v∈iv xs,v.oneCell' = true:=by
 intro v hv
 simp only [iv,List.mem_map] at hv
 obtain ⟨x,_,rfl⟩:=hv
 rfl
theorem IntsAt.src {w:World} {ao:Option Addr} {xs:List Int} (h:IntsAt w ao xs) (hn:0<(iv xs).length):∃ ad,ao=some ad∧∀ j v,(iv xs)[j]? = some v→w.cell? (ad.add j)=some v:=by
 rcases h with rfl | ⟨b,off,rfl,_,hc⟩
 ·simp [iv] at hn
 ·refine ⟨_,rfl,fun j v hj=>?_⟩
  have hlt:j<xs.length:=by
   have:=(List.getElem?_eq_some_iff.1 hj).1
   rwa [iv_length] at this
  rw [iv_get hlt] at hj
  cases hj
  have:=hc j hlt
  unfold Addr.add
  split
  ·rename_i h0;subst h0;first | (simp;done) | (simpa using this)
  ·exact this
theorem IntsAt.cut {w:World} {b off:Nat} {t:List Int} (h:IntsAt w (some ⟨b,off,none⟩) t) (lo hi:Nat):IntsAt w (some ⟨b,off+lo,none⟩) ((t.take hi).drop lo):=by
 rcases h with rfl | ⟨b', off', e,hlt,hc⟩
 ·left;simp
 ·simp only [Option.some.injEq,Addr.mk.injEq,and_true] at e
  obtain ⟨rfl,rfl⟩:=e
  refine .inr ⟨b,off+lo,rfl,hlt,fun i hi' => ?_⟩
  have h1:lo+i<t.length:=by simp at hi'; omega
  have:=hc (lo+i) h1
  rw [Nat.add_assoc,this]
  simp
theorem IntsAt.nil (w:World) (ao:Option Addr):IntsAt w ao []:=.inl rfl
theorem leads_bad {L:List Sym} {t path:List Int} {q k:Nat} (h:leads L t 0 path=leads L t q (path.drop k)) (hk:k<path.length) (hq:q<t.length) (hn:path[k]<0∨(arN L t[q]:Int)≤path[k]):leads L t 0 path=none:=by
 rw [h,List.drop_eq_getElem_cons hk,leads]
 split
 ·rfl
 ·rw [argsN_eq hq,List.getElem?_eq_none (by rw [starts_length];omega)]
theorem leads_good {L:List Sym} {t path:List Int} {q k i:Nat} (h:leads L t 0 path=leads L t q (path.drop k)) (hk:k<path.length) (hq:q<t.length) (hi:path[k]=(i:Int)) (hn:i<arN L t[q]):leads L t 0 path=leads L t (past L t i (q+1)) (path.drop (k+1)):=by
 rw [h,List.drop_eq_getElem_cons hk,leads,hi,if_neg (by omega),argsN_eq hq]
 simp only [Int.toNat_natCast]
 rw [starts_at hn]
theorem past_lt {L:List Sym} {t:List Int} (h:IsT L t) {q i:Nat} (hq:q<t.length) (hi:i<arN L t[q]):past L t i (q+1)<t.length:=by
 have hf:=(Forest.one h hq).kids.2
 have hd:=hf.drop (i:=i) (by omega)
 rw [show arN L t[q]-i=(arN L t[q]-i-1)+1 by omega] at hd
 have:=hd.pos
 have:=hd.le
 omega
structure Both (n0:Nat) (w0 w:World) (b rb:Nat) (L:List Sym) (sv:Value) (mr:Option Nat) (rv:Value):Prop where
 sg:SigAt w b L sv mr
 rf:RefAt w rb L rv
 f:∀ k,Foot b sv mr k→n0≤k
 g:∀ k,RFoot rb rv k→n0≤k
 d:∀ k,Foot b sv mr k→¬ RFoot rb rv k
 k:Kept (From n0) w0 w
 a:Ars L
end Go.Proofs.YtmjgnfkbnofjoaaGreatDoor
