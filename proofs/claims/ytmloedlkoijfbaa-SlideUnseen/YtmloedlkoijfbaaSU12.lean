import Derived.Test.YtmloedlkoijfbaaSU11
namespace Go.Proofs.Ytmloedlkoijfbaa
set_option maxRecDepth 100000
set_option linter.unusedVariables false
open Go.RowKit
attribute [local go_sem ↓] Go.wp_at_zero Go.wp_at_succ
set_option maxHeartbeats 8000000 in
theorem un_make {w wr:World} {ro:Option Addr} {rs:List Raw4} {rc:Nat} {h g p q k:Nat} {vx vy:Value} {l m:List Nd} {X Y:List Int} {Q:Nat→Nat→Prop} (hl:rs.length≤2 ^ 63-1) (HX:Hid (∀ ww,Same0 w ww→RawsAt ww ro rs)) (HO:Hid (∀ r∈rs,r.ok)) (h1:k<rs.length) (h2:k<600) (hU:UnM w wr h g p q vx vy l m X Y) (hN:Unn l m X Y Q) (ll:l.length≤k) (lm:m.length≤k) (lX:X.length≤k)
  (hact:pickF (rs[k]'h1).1 7≤3∨X.length=0)
  {t1 t2 t3 t5 t7 t11 t12 t13 t14 t15 t16 t17 t18 t19 t20 t21 t22 t23 t24 t25 t26 t27 t28 t29 t30 t31 t32 t33 t34 t35 t36 t37 t38 t39 t40 t41 t42 t43 t44 t45 t46 t47 t48 t49 t50 t51 t52 t53 t54 t55 t56 t57 t58 t59 t60 t61 t62 t63 t64 t65 t66 t67 t68 t69 t70 t71 t72 t73 t74 t75 t76 t77 t78 t79 t80 t81 t82 t83 t84 t85 t86 t87 t88 t89 t90 t91 t92 t93 t94 t95 t96 t97 t98 t99 t100 t101 t102 t103 t104 t105 t106 t107 t108 t109 t110 t111 t112 t113 t114 t115 t116 t117 t118 t119 t120 t121 t122 t123 t124 t125 t126 t127 t128 t129 t130 t131 t132 t133 t134 t135 t136 t137 t138 t139 t140 t141 t142 t143 t144 t145 t146 t147 t148 t149 t150 t151 t152 t153 t154 t155 t156 t157 t158 t159 t160 t161 t162 t163 t164 t165 t166 t167 t168 t169 t170 t171 t172 t173 t174 t175 t176 t177 t178 t179 t180 t181 t182 t183 t184 t185 t186 t187 t188 t189 t190 t191 t192 t193 t194 t195 t196 t197 t198 t199 t200 t201 t202 t203 t204 t205 t206 t207 t208 t209 t210 t211 t212 t213 t214 t215 t216 t217 t218 t219 t220 t221 t222 t223 t224 t225 t226 t227 t228 t229 t230 t231 t232 t233 t234 t235 t236 t237 t238 t239 t240 t241 t242 t243 t244 t245 t246 t247 t248 t249 t250 t251 t252 t253 t254 t255 t256 t257 t258 t259 t260 t261 t262 t263 t264 t265 t266 t267 t268 t269 t270 t271 t272 t273 t274 t275 t276 t277 t278 t279 t280 t281 t282 t283 t284 t285 t286:Value} {cc:Code} (hcode:Try.f6.body.bind uloop=some cc) {R0:Act→World→Prop} {Q0:Exit→Act→World→Prop}
  (HR:Hid (∀ (s2 s11 s12 s13 s14 s15 s16 s17 s18 s19 s20 s21 s22 s23 s24 s25 s26 s27 s28 s62 s63 s64 s65 s66 s67 s68 s69 s70 s71 s72 s73 s74 s75 s76 s77 s78 s79 s80 s81 s82 s83 s84 s85 s86 s87 s88 s89 s90 s91 s92 s93 s94 s95 s96 s97 s98 s99 s100 s101 s102 s103 s104 s105 s106 s107 s108 s109 s110 s111 s112 s113 s114 s115 s116 s117 s118 s119 s120 s121 s122 s123 s124 s125 s126 s127 s128 s129 s130 s131 s132 s133 s134 s135 s136 s137 s138 s139 s140 s141 s142 s143 s144 s145 s146 s147 s148 s149 s150 s151 s152 s153 s154 s155 s156 s157 s158 s159 s160 s161 s162 s163 s164 s165 s166 s167 s168 s169 s170 s171 s172 s173 s174 s175 s176 s177 s178 s179 s180 s181 s182 s183 s184 s185 s186 s187 s188 s189 s190 s191 s192 s193 s194 s195 s196 s197 s198 s199 s200 s201 s202 s203 s204 s205 s206 s207 s208 s209 s210 s211 s212 s213 s214 s215 s216 s217 s218 s219 s220 s221 s222 s223 s224 s225 s226 s227 s228 s229 s230 s231 s232 s233 s234 s235 s236 s237 s238 s239 s240 s241 s242 s243 s244 s245 s246 s247 s248 s249 s250 s251 v8 v9 v10:Value) (wc:World),v10=.int .i64 ((k+1:Nat):Int)→Hid (UnS w wc h g p q v8 v9 (k+1))→R0 ⟨List.toArray ((.slice ro rs.length rc) :: t1 :: s2 :: t3 :: (.pointer (some ⟨h,0,none⟩)) :: t5 :: (.pointer (some ⟨p,0,none⟩)) :: t7 :: v8 :: v9 :: v10 :: s11 :: s12 :: s13 :: s14 :: s15 :: s16 :: s17 :: s18 :: s19 :: s20 :: s21 :: s22 :: s23 :: s24 :: s25 :: s26 :: s27 :: s28 :: t29 :: t30 :: t31 :: t32 :: t33 :: t34 :: t35 :: t36 :: t37 :: t38 :: t39 :: t40 :: t41 :: t42 :: t43 :: t44 :: t45 :: t46 :: t47 :: t48 :: t49 :: t50 :: t51 :: t52 :: t53 :: t54 :: t55 :: t56 :: t57 :: t58 :: t59 :: t60 :: t61 :: s62 :: s63 :: s64 :: s65 :: s66 :: s67 :: s68 :: s69 :: s70 :: s71 :: s72 :: s73 :: s74 :: s75 :: s76 :: s77 :: s78 :: s79 :: s80 :: s81 :: s82 :: s83 :: s84 :: s85 :: s86 :: s87 :: s88 :: s89 :: s90 :: s91 :: s92 :: s93 :: s94 :: s95 :: s96 :: s97 :: s98 :: s99 :: s100 :: s101 :: s102 :: s103 :: s104 :: s105 :: s106 :: s107 :: s108 :: s109 :: s110 :: s111 :: s112 :: s113 :: s114 :: s115 :: s116 :: s117 :: s118 :: s119 :: s120 :: s121 :: s122 :: s123 :: s124 :: s125 :: s126 :: s127 :: s128 :: s129 :: s130 :: s131 :: s132 :: s133 :: s134 :: s135 :: s136 :: s137 :: s138 :: s139 :: s140 :: s141 :: s142 :: s143 :: s144 :: s145 :: s146 :: s147 :: s148 :: s149 :: s150 :: s151 :: s152 :: s153 :: s154 :: s155 :: s156 :: s157 :: s158 :: s159 :: s160 :: s161 :: s162 :: s163 :: s164 :: s165 :: s166 :: s167 :: s168 :: s169 :: s170 :: s171 :: s172 :: s173 :: s174 :: s175 :: s176 :: s177 :: s178 :: s179 :: s180 :: s181 :: s182 :: s183 :: s184 :: s185 :: s186 :: s187 :: s188 :: s189 :: s190 :: s191 :: s192 :: s193 :: s194 :: s195 :: s196 :: s197 :: s198 :: s199 :: s200 :: s201 :: s202 :: s203 :: s204 :: s205 :: s206 :: s207 :: s208 :: s209 :: s210 :: s211 :: s212 :: s213 :: s214 :: s215 :: s216 :: s217 :: s218 :: s219 :: s220 :: s221 :: s222 :: s223 :: s224 :: s225 :: s226 :: s227 :: s228 :: s229 :: s230 :: s231 :: s232 :: s233 :: s234 :: s235 :: s236 :: s237 :: s238 :: s239 :: s240 :: s241 :: s242 :: s243 :: s244 :: s245 :: s246 :: s247 :: s248 :: s249 :: s250 :: s251 :: t252 :: t253 :: t254 :: t255 :: t256 :: t257 :: t258 :: t259 :: t260 :: t261 :: t262 :: t263 :: t264 :: t265 :: t266 :: t267 :: t268 :: t269 :: t270 :: t271 :: t272 :: t273 :: t274 :: t275 :: t276 :: t277 :: t278 :: t279 :: t280 :: t281 :: t282 :: t283 :: t284 :: t285 :: t286 :: []),[]⟩ wc)) :
  Code.wp Try.prog cc (Exit.then R0 Q0) ⟨List.toArray ((.slice ro rs.length rc) :: t1 :: t2 :: t3 :: (.pointer (some ⟨h,0,none⟩)) :: t5 :: (.pointer (some ⟨p,0,none⟩)) :: t7 :: (vx) :: (vy) :: (.int .i64 (k:Int)) :: t11 :: t12 :: t13 :: t14 :: t15 :: t16 :: t17 :: t18 :: t19 :: t20 :: t21 :: t22 :: t23 :: t24 :: t25 :: t26 :: t27 :: t28 :: t29 :: t30 :: t31 :: t32 :: t33 :: t34 :: t35 :: t36 :: t37 :: t38 :: t39 :: t40 :: t41 :: t42 :: t43 :: t44 :: t45 :: t46 :: t47 :: t48 :: t49 :: t50 :: t51 :: t52 :: t53 :: t54 :: t55 :: t56 :: t57 :: t58 :: t59 :: t60 :: t61 :: t62 :: t63 :: t64 :: t65 :: t66 :: t67 :: t68 :: t69 :: t70 :: t71 :: t72 :: t73 :: t74 :: t75 :: t76 :: t77 :: t78 :: t79 :: t80 :: t81 :: t82 :: t83 :: t84 :: t85 :: t86 :: t87 :: t88 :: t89 :: t90 :: t91 :: t92 :: t93 :: t94 :: t95 :: t96 :: t97 :: t98 :: t99 :: t100 :: t101 :: t102 :: t103 :: t104 :: t105 :: t106 :: t107 :: t108 :: t109 :: t110 :: t111 :: t112 :: t113 :: t114 :: t115 :: t116 :: t117 :: t118 :: t119 :: t120 :: t121 :: t122 :: t123 :: t124 :: t125 :: t126 :: t127 :: t128 :: t129 :: t130 :: t131 :: t132 :: t133 :: t134 :: t135 :: t136 :: t137 :: t138 :: t139 :: t140 :: t141 :: t142 :: t143 :: t144 :: t145 :: t146 :: t147 :: t148 :: t149 :: t150 :: t151 :: t152 :: t153 :: t154 :: t155 :: t156 :: t157 :: t158 :: t159 :: t160 :: t161 :: t162 :: t163 :: t164 :: t165 :: t166 :: t167 :: t168 :: t169 :: t170 :: t171 :: t172 :: t173 :: t174 :: t175 :: t176 :: t177 :: t178 :: t179 :: t180 :: t181 :: t182 :: t183 :: t184 :: t185 :: t186 :: t187 :: t188 :: t189 :: t190 :: t191 :: t192 :: t193 :: t194 :: t195 :: t196 :: t197 :: t198 :: t199 :: t200 :: t201 :: t202 :: t203 :: t204 :: t205 :: t206 :: t207 :: t208 :: t209 :: t210 :: t211 :: t212 :: t213 :: t214 :: t215 :: t216 :: t217 :: t218 :: t219 :: t220 :: t221 :: t222 :: t223 :: t224 :: t225 :: t226 :: t227 :: t228 :: t229 :: t230 :: t231 :: t232 :: t233 :: t234 :: t235 :: t236 :: t237 :: t238 :: t239 :: t240 :: t241 :: t242 :: t243 :: t244 :: t245 :: t246 :: t247 :: t248 :: t249 :: t250 :: t251 :: t252 :: t253 :: t254 :: t255 :: t256 :: t257 :: t258 :: t259 :: t260 :: t261 :: t262 :: t263 :: t264 :: t265 :: t266 :: t267 :: t268 :: t269 :: t270 :: t271 :: t272 :: t273 :: t274 :: t275 :: t276 :: t277 :: t278 :: t279 :: t280 :: t281 :: t282 :: t283 :: t284 :: t285 :: t286 :: []),[]⟩ wr:=by
 obtain rfl:_=cc:=Option.some.inj hcode
 clear hcode
 have hk:k≤rs.length:=Nat.le_of_lt h1
 have hk6:k≤600:=Nat.le_of_lt h2
 obtain ⟨xo,xc,e⟩:=row_shape hU.rx
 subst e
 obtain ⟨yo,yc,e⟩:=row_shape hU.ry
 subst e
 have HL:Hid (X.length=Y.length):=hN.len
 obtain ⟨n,hn⟩:∃ n,n=X.length:=⟨_,rfl⟩
 have hn2:Y.length=n:=by rw [hn];exact HL.out.symm
 have HM:Hid (UnM w wr h g p q (.slice xo n xc) (.slice yo n yc) l m X Y∧Unn l m X Y Q∧l.length≤k∧m.length≤k):=by
  have e:=hU
  rw [← hn,hn2] at e
  exact ⟨e,hN,ll,lm⟩
 rw [← hn,hn2]
 have HNX:Hid (n=X.length∧n=Y.length∧n≤k):=⟨hn,hn2.symm,by omega⟩
 have hnk:n≤600:=by omega
 have hw:=hU.kept
 rw [← hn] at hact
 clear hU hN hn hn2 lX ll lm
 have j1:(k:Int)<(rs.length:Int):=by omega
 have j2:(k:Int)<600:=by omega
 have j3:(0:Int)≤(k:Int):=by omega
 obtain ⟨sb,so,rfl,c0,c1,c2,c3⟩:=(HX.out wr hw).get h1
 have hx:=HO.out _ (List.getElem_mem h1)
 generalize rs[k]=x at *
 obtain ⟨W0,hW0⟩:∃ W0,W0=wr.alloc (.cells #[.int .i64 x.1,.int .i64 x.2.1,.int .i64 x.2.2.1,.int .i64 x.2.2.2] 56):=⟨_,rfl⟩
 have k0:Same0 wr W0:=by rw [hW0];exact (Kept.refl _ wr).alloc _
 have hb:W0.heap[wr.heap.size]? = some (.cells #[.int .i64 x.1,.int .i64 x.2.1,.int .i64 x.2.2.1,.int .i64 x.2.2.2] 56 (0,0)):=by rw [hW0];exact heap_alloc_new wr _
 have HBB:Hid (W0.heap[wr.heap.size]? = some (.cells #[.int .i64 x.1,.int .i64 x.2.1,.int .i64 x.2.2.1,.int .i64 x.2.2.2] 56 (0,0))):=hb
 have HM0:Hid (UnM w W0 h g p q (.slice xo n xc) (.slice yo n yc) l m X Y):=HM.out.1.same k0
 have HBK:Hid (∀ ww,Kept (fun k=>k=h∨k=g) W0 ww→ww.cell? ⟨wr.heap.size,2,none⟩=some (.int .i64 x.2.2.1)):=fun ww hk=>(box4 (hk.at hb (fun e=>by have a1:=HM.out.1.hl.ltH;have a2:=HM.out.1.hl.ltG;omega))).2.2.1
 have HB:Hid (∀ ww,Same0 W0 ww→ww.cell? ⟨wr.heap.size,0,none⟩=some (.int .i64 x.1)∧ww.cell? ⟨wr.heap.size,1,none⟩=some (.int .i64 x.2.1)∧ww.cell? ⟨wr.heap.size,2,none⟩=some (.int .i64 x.2.2.1)∧ww.cell? ⟨wr.heap.size,3,none⟩=some (.int .i64 x.2.2.2)):=fun ww hk=>box4 (hk.at hb (fun f=>f))
 obtain ⟨b0,b1,b2,b3⟩:=HB.out W0 (Kept.refl _ _)
 obtain ⟨K,hK⟩:∃ K,K=pickF x.1 7:=⟨_,rfl⟩
 have C7:=pick12_any x.1 hx.1 7 (by decide) (by decide) W0
 have hK7:=pick_lt x.1 (show (0:Int)<7 by decide)
 rw [← hK] at C7 hK7 hact
 have HXO:Hid x.ok:=hx
 clear hx hK k0 hb
 go_upto_region 12 with fail
 rw [← hW0]
 clear hW0 c0 c1 c2 c3
 go_upto_region 18 with (first | (go_at_call 19;refine C7.mono ?_;rintro e w4 ⟨rfl,h4⟩;have h4:=h4.symm;subst h4))
 clear C7
 have CP:Hid (∀ c ww,I64 c→0<n→Calls Try.prog 19 #[.int .i64 c,.int .i64 (n:Int)] ww fun e w' => ∃ t:Nat,e=.returned (.int .i64 (t:Int))∧w' = ww∧t=pickF c (n:Int)∧(t:Int)<(n:Int)∧(0:Int)≤(t:Int)):=fun c ww hc h0=>(pick12_any c hc (n:Int) (by omega) (by omega) ww).mono (by rintro e w' ⟨rfl,rfl⟩;exact ⟨_,rfl,rfl,rfl,pick_lt c (by omega),by omega⟩)
 have CX:Hid (∀ ww,Same0 W0 ww→∀ t:Nat,(t:Int)<(n:Int)→∃ gx gy zx zy,xo=some ⟨gx,0,none⟩∧yo=some ⟨gy,0,none⟩∧ww.cell? ⟨gx,t,none⟩=some (.int .i64 zx)∧ww.cell? ⟨gy,t,none⟩=some (.int .i64 zy)∧X[t]? = some zx∧Y[t]? = some zy):=fun ww hk t ht=>by
  have e1:=HNX.out.1
  have e2:=HNX.out.2.1
  have U:=HM0.out.same hk
  obtain ⟨gx,cx,gy,cy,q1,q2,q3,q4⟩:=U.get HL.out (j:=t) (by omega)
  simp only [Value.slice.injEq] at q1 q2
  exact ⟨gx,gy,_,_,q1.1,q2.1,q3,q4,List.getElem?_eq_getElem (by omega),List.getElem?_eq_getElem (by omega)⟩
 have hmk:K≤3∨n=0:=hact
 clear hact
 go_cut [97] from 98 to 103 (fun s97 wc=>s97=.bool true∧wc=W0)
 case first=>
  rcases hmk with h3 | h3
  ·have d1:(K:Int)≤3:=by omega
   go_wp2
   go_meet
   case rel=>exact ⟨rfl,rfl⟩
  ·by_cases h4:K≤3
   ·have d1:(K:Int)≤3:=by omega
    go_wp2
    go_meet
    case rel=>exact ⟨rfl,rfl⟩
   ·have d1:¬ (K:Int)≤3:=by omega
    subst h3
    go_wp2
    go_meet
    case rel=>exact ⟨rfl,rfl⟩
 case rest=>
 obtain ⟨rfl,e⟩:=hcut
 have e:=e.symm
 subst e
 go_upto_region 22 with fail
 have CP4:Hid (∀ ww,Calls Try.prog 19 #[.int .i64 x.2.2.2,.int .i64 4] ww fun e w' => e=.returned (.int .i64 (pickF x.2.2.2 4:Int))∧w' = ww):=fun ww=>pick12_any _ HXO.out.2.2.2 4 (by decide) (by decide) ww
 have h4:=pick_lt x.2.2.2 (show (0:Int)<4 by decide)
 generalize pickF x.2.2.2 4=C4 at *
 have CP9:Hid (∀ ww,Calls Try.prog 19 #[.int .i64 x.2.2.1,.int .i64 9] ww fun e w' => e=.returned (.int .i64 (pickF x.2.2.1 9:Int))∧w' = ww):=fun ww=>pick12_any _ HXO.out.2.2.1 9 (by decide) (by decide) ww
 generalize pickF x.2.2.1 9=C9 at *
 have HP0:Hid (Row W0.heap.size W0 (.slice none 0 0) []∧Row W0.heap.size W0 (.slice none 0 0) []∧Same0 W0 W0):=⟨World.ownsRow_nil _ _ _ _,World.ownsRow_nil _ _ _ _,Kept.refl _ _⟩
 clear b0 b1 b2 b3 hmk
 go_loopw [14,15,16] (fun v14 v15 v16 wx=>∃ (j:Nat) (P R:List Int),v16=.int .i64 (j:Int)∧j≤C4∧Hid (Row W0.heap.size wx v14 P∧Row W0.heap.size wx v15 R∧(∀ b,v14.ownBlock=some b→v15.ownBlock≠some b)∧Same0 W0 wx∧P.length=j∧R.length=j∧∀ (i:Nat) (x y:Int),P[i]? = some x→R[i]? = some y→∃ i' : Nat,X[i']? = some x∧Y[i']? = some y)) (fun _ _ v16 _=>C4-(intOf v16).toNat)
 case atStart=>exact ⟨0,[],[],rfl,Nat.zero_le _,HP0.out.1,HP0.out.2.1,fun b e=>by simp [Value.ownBlock] at e,HP0.out.2.2,rfl,rfl,fun i x y e=>by simp at e⟩
 case round=>
  clear HP0
  obtain ⟨j,P,R,rfl,hj,HI⟩:=hrel
  obtain ⟨W1,rfl⟩:∃ W1,W1=wr:=⟨_,rfl⟩
  obtain ⟨b0,b1,b2,b3⟩:=HB.out W1 HI.out.2.2.2.1
  obtain ⟨po,pc,e⟩:=row_shape HI.out.1
  subst e
  obtain ⟨qo,qc,e⟩:=row_shape HI.out.2.1
  subst e
  rw [HI.out.2.2.2.2.1,HI.out.2.2.2.2.2.1]
  have HJ:Hid (Row W0.heap.size W1 (.slice po j pc) P∧Row W0.heap.size W1 (.slice qo j qc) R∧(∀ b,(Value.slice po j pc).ownBlock=some b→(Value.slice qo j qc).ownBlock≠some b)):=by
   have:=HI.out
   rw [this.2.2.2.2.1,this.2.2.2.2.2.1] at this
   exact ⟨this.1,this.2.1,this.2.2.1⟩
  have HIJ:Hid (Same0 W0 W1∧P.length=j∧R.length=j∧∀ (i:Nat) (x y:Int),P[i]? = some x→R[i]? = some y→∃ i' : Nat,X[i']? = some x∧Y[i']? = some y):=HI.out.2.2.2
  clear HI
  by_cases hlt:j<C4∧0<n
  ·obtain ⟨hj4,hn0⟩:=hlt
   have q1:(j:Int)<(C4:Int):=by omega
   have q2:(0:Int)<(n:Int):=by omega
   have q3:(n:Int) > 0:=by omega
   obtain ⟨gx,gy,z1,z2,rfl,rfl, -, -, -, -⟩:=CX.out W1 HIJ.out.1 0 (by omega)
   have hbs:W0.heap.size≤W1.heap.size:=HIJ.out.1.size
   have hsz:(P.length+1) * 8≤140737488355328:=by have:=HIJ.out.2.1;omega
   have hszR:(R.length+1) * 8≤140737488355328:=by have:=HIJ.out.2.2.1;omega
   have HPL:Hid (P.length=j∧R.length=j):=⟨HIJ.out.2.1,HIJ.out.2.2.1⟩
   go_upto_region 24 with (first | (go_at_call 19;refine (CP4.out _).mono ?_;rintro e w4 ⟨rfl,h4⟩;have h4:=h4.symm;subst h4))
   clear CP4
   go_upto_region 25 with (first
    | (go_at_call 19;refine (CP.out _ _ (by first | exact wrap64_i64 _ | exact wrap_i64 _) hn0).mono ?_;rintro e w4 ⟨t,rfl,h4,ht,t1,t2⟩;have h4:=h4.symm;subst h4;obtain ⟨gx', gy', zx,zy,e1,e2,cx, -,ex,ey⟩:=CX.out _ HIJ.out.1 t t1;cases e1;cases e2;have HE:Hid (X[t]? = some zx∧Y[t]? = some zy):=⟨ex,ey⟩;have HT:=(show Hid _ from ht);clear ht ex ey)
    | (at_builtin;refine wpList_push rfl _ _ 31 rfl Try.underlying31 W0.heap.size P _ rfl HJ.out.1 zx rfl hbs hsz ?_;intro g9 c9 w9 hr9 hk9 hg9))
   have K9:Same0 W0 w9:=HIJ.out.1.onto HJ.out.1 hk9
   have rR:Row W0.heap.size w9 (.slice qo j qc) R:=hk9.row HJ.out.2.1 (fun b e f=>HJ.out.2.2 b f e)
   have hb9:W0.heap.size≤w9.heap.size:=K9.size
   have hjw:∀ b,(Value.slice qo j qc).ownBlock=some b→b<W1.heap.size:=fun b e=>(HJ.out.2.1.lt b e).2
   have HG:Hid (∀ b,(Value.slice qo j qc).ownBlock=some b→g9≠b):=fun b e q=>by
    subst q
    rcases hg9 with q | q
    ·exact HJ.out.2.2 _ q e
    ·have:=hjw _ e;omega
   have HR9:Hid (Row W0.heap.size w9 (.slice (some ⟨g9,0,none⟩) (P.length+1) c9) (P ++ [zx])∧g9<w9.heap.size):=⟨hr9,(hr9.lt g9 rfl).2⟩
   obtain ⟨d0,d1,d2,d3⟩:=HB.out w9 K9
   clear b0 b1 b2 b3 hr9 hk9 hg9 hjw cx HJ
   have HK9:=(show Hid _ from K9)
   clear K9
   go_wp2_with (first
    | (go_at_call 19;refine (CP.out _ _ (by first | exact wrap64_i64 _ | exact wrap_i64 _) hn0).mono ?_;rintro e w4 ⟨t', rfl,h4,ht', t1', t2'⟩;have h4:=h4.symm;subst h4;have e:=ht'.trans HT.out.symm;subst e;obtain ⟨gx', gy', zx', zy', e1,e2, -,cy, -,ey⟩:=CX.out _ HK9.out t' t1'; cases e1;cases e2;have HE2:Hid (Y[t']? = some zy'):=ey;clear ht' ey)
    | (at_builtin;refine wpList_push rfl _ _ 31 rfl Try.underlying31 W0.heap.size R _ rfl rR zy' rfl hb9 hszR ?_;intro g10 c10 w10 hr10 hk10 hg10))
   have H10:Hid (Row W0.heap.size w10 (.slice (some ⟨g9,0,none⟩) (P.length+1) c9) (P ++ [zx])∧Row W0.heap.size w10 (.slice (some ⟨g10,0,none⟩) (R.length+1) c10) (R ++ [zy'])∧(∀ b,(Value.slice (some ⟨g9,0,none⟩) (P.length+1) c9).ownBlock=some b→(Value.slice (some ⟨g10,0,none⟩) (R.length+1) c10).ownBlock≠some b)∧Same0 W0 w10∧(P ++ [zx]).length=j+1∧(R ++ [zy']).length=j+1∧∀ (i:Nat) (x y:Int),(P ++ [zx])[i]? = some x→(R ++ [zy'])[i]? = some y→∃ i' : Nat,X[i']? = some x∧Y[i']? = some y):=by
    refine ⟨hk10.row HR9.out.1 (fun b e f=>?_),hr10,fun b e f=>?_,Same0.onto HK9.out rR hk10,by simp [HIJ.out.2.1],by simp [HIJ.out.2.2.1],pairs_snoc HIJ.out.2.1 HIJ.out.2.2.1 HIJ.out.2.2.2 HE.out.1 HE2.out⟩
    ·simp only [Value.ownBlock,Option.some.injEq] at e
     exact HG.out b f e
    ·simp only [Value.ownBlock,Option.some.injEq] at e f
     subst e
     rcases hg10 with q | q
     ·exact HG.out _ q f.symm
     ·have:=HR9.out.2;omega
   go_roundw
   case rel=>exact ⟨j+1,_,_,by go_num,by omega,H10⟩
   case measure=>simp [intOf];omega
  ·have hend:(¬ (j:Int)<(C4:Int))∨((j:Int)<(C4:Int)∧¬ (n:Int) > 0):=by omega
   have U1:UnM w W1 h g p q (.slice xo n xc) (.slice yo n yc) l m X Y:=HM0.out.same HIJ.out.1
   have hPR:∀ z∈P,0≤z∧z<(l.length:Int):=fun z hz=>by
    obtain ⟨i,hi,rfl⟩:=List.mem_iff_getElem.1 hz
    obtain ⟨i', a1,a2⟩:=HIJ.out.2.2.2 i _ _ (List.getElem?_eq_getElem hi) (List.getElem?_eq_getElem (by have:=HIJ.out.2.1;have:=HIJ.out.2.2.1;omega))
    exact (HM.out.2.1.han i' _ _ a1 a2).1
   have hRR:∀ z∈R,0≤z∧z<(m.length:Int):=fun z hz=>by
    obtain ⟨i,hi,rfl⟩:=List.mem_iff_getElem.1 hz
    obtain ⟨i', a1,a2⟩:=HIJ.out.2.2.2 i _ _ (List.getElem?_eq_getElem (by have:=HIJ.out.2.1;have:=HIJ.out.2.2.1;omega)) (List.getElem?_eq_getElem hi)
    exact (HM.out.2.1.han i' _ _ a1 a2).2.1
   have eP:=HIJ.out.2.1
   have eR:=HIJ.out.2.2.1
   obtain ⟨ao,ac,e,hA, -⟩:=HJ.out.1.argS (by omega)
   simp only [Value.slice.injEq] at e
   obtain ⟨rfl, -,rfl⟩:=e
   have l1:=HM.out.2.2.1
   have l2:=HM.out.2.2.2
   have CM1:=make_yes U1.hl (C9:Int) hA.1 (mk_okU (by omega) (by omega) hPR (by omega))
   rw [eP] at CM1
   have HR2:Hid (mkE m 2000 (C9:Int) R=0):=mk_okU (by omega) (by omega) hRR (by omega)
   have HU1:=(show Hid _ from U1)
   have N1:=HM.out.2.1.make (C9:Int) (by omega) (eP.trans eR.symm) (by omega) HIJ.out.2.2.2
   have HN1:=(show Hid _ from N1)
   clear N1 U1 eP eR hA hPR hRR hlt CP CX
   rcases hend with d1 | ⟨d1,d2⟩
   all_goals
    go_upto_region 26 with (first | (go_at_call 19;refine (CP4.out _).mono ?_;rintro e w4 ⟨rfl,h4⟩;have h4:=h4.symm;subst h4))
    go_upto_region 27 with (first | (go_at_call 19;refine (CP9.out _).mono ?_;rintro e w4 ⟨rfl,h4⟩;have h4:=h4.symm;subst h4) | (go_at_call 20;refine CM1.mono ?_;rintro e w5 ⟨rfl,p5,k5⟩))
    have U5:=HU1.out.one p5 k5
    have bb:=HBK.out _ (kept_at HIJ.out.1 k5)
    have rR:Row W0.heap.size w5 (.slice qo j qc) R:=k5.row HJ.out.2.1 (fun b e f=>by rcases f with rfl | rfl;exact row_noti HJ.out.2.1 HU1.out.hl.noth e;exact row_noti HJ.out.2.1 HU1.out.hl.notg e)
    obtain ⟨ao,ac,e,hA, -⟩:=rR.argS (by have:=HIJ.out.2.2.1;omega)
    simp only [Value.slice.injEq] at e
    obtain ⟨rfl, -,rfl⟩:=e
    have CM2:=make_yes U5.hm (C9:Int) hA.1 HR2.out
    rw [HIJ.out.2.2.1] at CM2
    have HU5:=(show Hid _ from U5)
    clear U5 p5 k5 rR hA CM1 b0 b1 b2 b3 HU1
    go_upto_region 28 with (first | (go_at_call 19;refine (CP9.out _).mono ?_;rintro e w4 ⟨rfl,h4⟩;have h4:=h4.symm;subst h4) | (go_at_call 20;refine CM2.mono ?_;rintro e w6 ⟨rfl,p6,k6⟩))
    have U6:=HU5.out.two p6 k6
    have HU6:=(show Hid _ from U6)
    have rX:=U6.rx
    have sX:(X.length+1) * 8≤140737488355328:=by have:=HNX.out.1;omega
    have sY:(Y.length+1) * 8≤140737488355328:=by have:=HNX.out.2.1;omega
    have b6:=U6.kept.size
    clear U6 p6 k6 CM2 HU5 bb
    go_upto_region 31 with (first | (at_builtin;refine wpList_push rfl _ _ 31 rfl Try.underlying31 w.heap.size X _ rfl rX (l.length:Int) rfl b6 sX ?_;intro g7 c7 w7 hr7 hk7 hg7))
    have U7:=HU6.out.setx hk7 hr7 (fun b e=>by simp only [Value.ownBlock,Option.some.injEq] at e;subst e;exact hg7)
    have HU7:=(show Hid _ from U7)
    have rY:=U7.ry
    have b7:=U7.kept.size
    clear U7 rX hr7 hk7 hg7 HU6
    go_wp2_with (first | (at_builtin;refine wpList_push rfl _ _ 31 rfl Try.underlying31 w.heap.size Y _ rfl rY (m.length:Int) rfl b7 sY ?_;intro g8 c8 w8 hr8 hk8 hg8))
    have U8:=HU7.out.sety hk8 hr8 (fun b e=>by simp only [Value.ownBlock,Option.some.injEq] at e;subst e;exact hg8)
    have H8:Hid (UnS w w8 h g p q (.slice (some ⟨g7,0,none⟩) (X.length+1) c7) (.slice (some ⟨g8,0,none⟩) (Y.length+1) c8) (k+1)):=⟨_,_,_,_,_,U8,HN1.out,by simp;omega,by simp;omega,by have:=HNX.out.1;have:=HNX.out.2.2;simp;omega⟩
    clear U8 hr8 hk8 hg8 rY
    exact HR.out _ _ _ _ _ _ _ _ _ _ _ _ _ _ _ _ _ _ _ _ _ _ _ _ _ _ _ _ _ _ _ _ _ _ _ _ _ _ _ _ _ _ _ _ _ _ _ _ _ _ _ _ _ _ _ _ _ _ _ _ _ _ _ _ _ _ _ _ _ _ _ _ _ _ _ _ _ _ _ _ _ _ _ _ _ _ _ _ _ _ _ _ _ _ _ _ _ _ _ _ _ _ _ _ _ _ _ _ _ _ _ _ _ _ _ _ _ _ _ _ _ _ _ _ _ _ _ _ _ _ _ _ _ _ _ _ _ _ _ _ _ _ _ _ _ _ _ _ _ _ _ _ _ _ _ _ _ _ _ _ _ _ _ _ _ _ _ _ _ _ _ _ _ _ _ _ _ _ _ _ _ _ _ _ _ _ _ _ _ _ _ _ _ _ _ _ _ _ _ _ _ _ _ _ _ _ _ _ _ _ _ _ _ (by go_num) H8
set_option maxHeartbeats 8000000 in
theorem un_coll {w wr:World} {ro:Option Addr} {rs:List Raw4} {rc:Nat} {h g p q k:Nat} {vx vy:Value} {l m:List Nd} {X Y:List Int} {Q:Nat→Nat→Prop} (hl:rs.length≤2 ^ 63-1) (HX:Hid (∀ ww,Same0 w ww→RawsAt ww ro rs)) (HO:Hid (∀ r∈rs,r.ok)) (h1:k<rs.length) (h2:k<600) (hU:UnM w wr h g p q vx vy l m X Y) (hN:Unn l m X Y Q) (ll:l.length≤k) (lm:m.length≤k) (lX:X.length≤k)
  (hact:pickF (rs[k]'h1).1 7=6∧X.length≠0)
  {t1 t2 t3 t5 t7 t11 t12 t13 t14 t15 t16 t17 t18 t19 t20 t21 t22 t23 t24 t25 t26 t27 t28 t29 t30 t31 t32 t33 t34 t35 t36 t37 t38 t39 t40 t41 t42 t43 t44 t45 t46 t47 t48 t49 t50 t51 t52 t53 t54 t55 t56 t57 t58 t59 t60 t61 t62 t63 t64 t65 t66 t67 t68 t69 t70 t71 t72 t73 t74 t75 t76 t77 t78 t79 t80 t81 t82 t83 t84 t85 t86 t87 t88 t89 t90 t91 t92 t93 t94 t95 t96 t97 t98 t99 t100 t101 t102 t103 t104 t105 t106 t107 t108 t109 t110 t111 t112 t113 t114 t115 t116 t117 t118 t119 t120 t121 t122 t123 t124 t125 t126 t127 t128 t129 t130 t131 t132 t133 t134 t135 t136 t137 t138 t139 t140 t141 t142 t143 t144 t145 t146 t147 t148 t149 t150 t151 t152 t153 t154 t155 t156 t157 t158 t159 t160 t161 t162 t163 t164 t165 t166 t167 t168 t169 t170 t171 t172 t173 t174 t175 t176 t177 t178 t179 t180 t181 t182 t183 t184 t185 t186 t187 t188 t189 t190 t191 t192 t193 t194 t195 t196 t197 t198 t199 t200 t201 t202 t203 t204 t205 t206 t207 t208 t209 t210 t211 t212 t213 t214 t215 t216 t217 t218 t219 t220 t221 t222 t223 t224 t225 t226 t227 t228 t229 t230 t231 t232 t233 t234 t235 t236 t237 t238 t239 t240 t241 t242 t243 t244 t245 t246 t247 t248 t249 t250 t251 t252 t253 t254 t255 t256 t257 t258 t259 t260 t261 t262 t263 t264 t265 t266 t267 t268 t269 t270 t271 t272 t273 t274 t275 t276 t277 t278 t279 t280 t281 t282 t283 t284 t285 t286:Value} {cc:Code} (hcode:Try.f6.body.bind uloop=some cc) {R0:Act→World→Prop} {Q0:Exit→Act→World→Prop}
  (HR:Hid (∀ (s2 s11 s12 s13 s14 s15 s16 s17 s18 s19 s20 s21 s22 s23 s24 s25 s26 s27 s28 s62 s63 s64 s65 s66 s67 s68 s69 s70 s71 s72 s73 s74 s75 s76 s77 s78 s79 s80 s81 s82 s83 s84 s85 s86 s87 s88 s89 s90 s91 s92 s93 s94 s95 s96 s97 s98 s99 s100 s101 s102 s103 s104 s105 s106 s107 s108 s109 s110 s111 s112 s113 s114 s115 s116 s117 s118 s119 s120 s121 s122 s123 s124 s125 s126 s127 s128 s129 s130 s131 s132 s133 s134 s135 s136 s137 s138 s139 s140 s141 s142 s143 s144 s145 s146 s147 s148 s149 s150 s151 s152 s153 s154 s155 s156 s157 s158 s159 s160 s161 s162 s163 s164 s165 s166 s167 s168 s169 s170 s171 s172 s173 s174 s175 s176 s177 s178 s179 s180 s181 s182 s183 s184 s185 s186 s187 s188 s189 s190 s191 s192 s193 s194 s195 s196 s197 s198 s199 s200 s201 s202 s203 s204 s205 s206 s207 s208 s209 s210 s211 s212 s213 s214 s215 s216 s217 s218 s219 s220 s221 s222 s223 s224 s225 s226 s227 s228 s229 s230 s231 s232 s233 s234 s235 s236 s237 s238 s239 s240 s241 s242 s243 s244 s245 s246 s247 s248 s249 s250 s251 v8 v9 v10:Value) (wc:World),v10=.int .i64 ((k+1:Nat):Int)→Hid (UnS w wc h g p q v8 v9 (k+1))→R0 ⟨List.toArray ((.slice ro rs.length rc) :: t1 :: s2 :: t3 :: (.pointer (some ⟨h,0,none⟩)) :: t5 :: (.pointer (some ⟨p,0,none⟩)) :: t7 :: v8 :: v9 :: v10 :: s11 :: s12 :: s13 :: s14 :: s15 :: s16 :: s17 :: s18 :: s19 :: s20 :: s21 :: s22 :: s23 :: s24 :: s25 :: s26 :: s27 :: s28 :: t29 :: t30 :: t31 :: t32 :: t33 :: t34 :: t35 :: t36 :: t37 :: t38 :: t39 :: t40 :: t41 :: t42 :: t43 :: t44 :: t45 :: t46 :: t47 :: t48 :: t49 :: t50 :: t51 :: t52 :: t53 :: t54 :: t55 :: t56 :: t57 :: t58 :: t59 :: t60 :: t61 :: s62 :: s63 :: s64 :: s65 :: s66 :: s67 :: s68 :: s69 :: s70 :: s71 :: s72 :: s73 :: s74 :: s75 :: s76 :: s77 :: s78 :: s79 :: s80 :: s81 :: s82 :: s83 :: s84 :: s85 :: s86 :: s87 :: s88 :: s89 :: s90 :: s91 :: s92 :: s93 :: s94 :: s95 :: s96 :: s97 :: s98 :: s99 :: s100 :: s101 :: s102 :: s103 :: s104 :: s105 :: s106 :: s107 :: s108 :: s109 :: s110 :: s111 :: s112 :: s113 :: s114 :: s115 :: s116 :: s117 :: s118 :: s119 :: s120 :: s121 :: s122 :: s123 :: s124 :: s125 :: s126 :: s127 :: s128 :: s129 :: s130 :: s131 :: s132 :: s133 :: s134 :: s135 :: s136 :: s137 :: s138 :: s139 :: s140 :: s141 :: s142 :: s143 :: s144 :: s145 :: s146 :: s147 :: s148 :: s149 :: s150 :: s151 :: s152 :: s153 :: s154 :: s155 :: s156 :: s157 :: s158 :: s159 :: s160 :: s161 :: s162 :: s163 :: s164 :: s165 :: s166 :: s167 :: s168 :: s169 :: s170 :: s171 :: s172 :: s173 :: s174 :: s175 :: s176 :: s177 :: s178 :: s179 :: s180 :: s181 :: s182 :: s183 :: s184 :: s185 :: s186 :: s187 :: s188 :: s189 :: s190 :: s191 :: s192 :: s193 :: s194 :: s195 :: s196 :: s197 :: s198 :: s199 :: s200 :: s201 :: s202 :: s203 :: s204 :: s205 :: s206 :: s207 :: s208 :: s209 :: s210 :: s211 :: s212 :: s213 :: s214 :: s215 :: s216 :: s217 :: s218 :: s219 :: s220 :: s221 :: s222 :: s223 :: s224 :: s225 :: s226 :: s227 :: s228 :: s229 :: s230 :: s231 :: s232 :: s233 :: s234 :: s235 :: s236 :: s237 :: s238 :: s239 :: s240 :: s241 :: s242 :: s243 :: s244 :: s245 :: s246 :: s247 :: s248 :: s249 :: s250 :: s251 :: t252 :: t253 :: t254 :: t255 :: t256 :: t257 :: t258 :: t259 :: t260 :: t261 :: t262 :: t263 :: t264 :: t265 :: t266 :: t267 :: t268 :: t269 :: t270 :: t271 :: t272 :: t273 :: t274 :: t275 :: t276 :: t277 :: t278 :: t279 :: t280 :: t281 :: t282 :: t283 :: t284 :: t285 :: t286 :: []),[]⟩ wc)) :
  Code.wp Try.prog cc (Exit.then R0 Q0) ⟨List.toArray ((.slice ro rs.length rc) :: t1 :: t2 :: t3 :: (.pointer (some ⟨h,0,none⟩)) :: t5 :: (.pointer (some ⟨p,0,none⟩)) :: t7 :: (vx) :: (vy) :: (.int .i64 (k:Int)) :: t11 :: t12 :: t13 :: t14 :: t15 :: t16 :: t17 :: t18 :: t19 :: t20 :: t21 :: t22 :: t23 :: t24 :: t25 :: t26 :: t27 :: t28 :: t29 :: t30 :: t31 :: t32 :: t33 :: t34 :: t35 :: t36 :: t37 :: t38 :: t39 :: t40 :: t41 :: t42 :: t43 :: t44 :: t45 :: t46 :: t47 :: t48 :: t49 :: t50 :: t51 :: t52 :: t53 :: t54 :: t55 :: t56 :: t57 :: t58 :: t59 :: t60 :: t61 :: t62 :: t63 :: t64 :: t65 :: t66 :: t67 :: t68 :: t69 :: t70 :: t71 :: t72 :: t73 :: t74 :: t75 :: t76 :: t77 :: t78 :: t79 :: t80 :: t81 :: t82 :: t83 :: t84 :: t85 :: t86 :: t87 :: t88 :: t89 :: t90 :: t91 :: t92 :: t93 :: t94 :: t95 :: t96 :: t97 :: t98 :: t99 :: t100 :: t101 :: t102 :: t103 :: t104 :: t105 :: t106 :: t107 :: t108 :: t109 :: t110 :: t111 :: t112 :: t113 :: t114 :: t115 :: t116 :: t117 :: t118 :: t119 :: t120 :: t121 :: t122 :: t123 :: t124 :: t125 :: t126 :: t127 :: t128 :: t129 :: t130 :: t131 :: t132 :: t133 :: t134 :: t135 :: t136 :: t137 :: t138 :: t139 :: t140 :: t141 :: t142 :: t143 :: t144 :: t145 :: t146 :: t147 :: t148 :: t149 :: t150 :: t151 :: t152 :: t153 :: t154 :: t155 :: t156 :: t157 :: t158 :: t159 :: t160 :: t161 :: t162 :: t163 :: t164 :: t165 :: t166 :: t167 :: t168 :: t169 :: t170 :: t171 :: t172 :: t173 :: t174 :: t175 :: t176 :: t177 :: t178 :: t179 :: t180 :: t181 :: t182 :: t183 :: t184 :: t185 :: t186 :: t187 :: t188 :: t189 :: t190 :: t191 :: t192 :: t193 :: t194 :: t195 :: t196 :: t197 :: t198 :: t199 :: t200 :: t201 :: t202 :: t203 :: t204 :: t205 :: t206 :: t207 :: t208 :: t209 :: t210 :: t211 :: t212 :: t213 :: t214 :: t215 :: t216 :: t217 :: t218 :: t219 :: t220 :: t221 :: t222 :: t223 :: t224 :: t225 :: t226 :: t227 :: t228 :: t229 :: t230 :: t231 :: t232 :: t233 :: t234 :: t235 :: t236 :: t237 :: t238 :: t239 :: t240 :: t241 :: t242 :: t243 :: t244 :: t245 :: t246 :: t247 :: t248 :: t249 :: t250 :: t251 :: t252 :: t253 :: t254 :: t255 :: t256 :: t257 :: t258 :: t259 :: t260 :: t261 :: t262 :: t263 :: t264 :: t265 :: t266 :: t267 :: t268 :: t269 :: t270 :: t271 :: t272 :: t273 :: t274 :: t275 :: t276 :: t277 :: t278 :: t279 :: t280 :: t281 :: t282 :: t283 :: t284 :: t285 :: t286 :: []),[]⟩ wr:=by
 obtain rfl:_=cc:=Option.some.inj hcode
 clear hcode
 have hk:k≤rs.length:=Nat.le_of_lt h1
 have hk6:k≤600:=Nat.le_of_lt h2
 obtain ⟨xo,xc,e⟩:=row_shape hU.rx
 subst e
 obtain ⟨yo,yc,e⟩:=row_shape hU.ry
 subst e
 have HL:Hid (X.length=Y.length):=hN.len
 obtain ⟨n,hn⟩:∃ n,n=X.length:=⟨_,rfl⟩
 have hn2:Y.length=n:=by rw [hn];exact HL.out.symm
 have HM:Hid (UnM w wr h g p q (.slice xo n xc) (.slice yo n yc) l m X Y∧Unn l m X Y Q∧l.length≤k∧m.length≤k):=by
  have e:=hU
  rw [← hn,hn2] at e
  exact ⟨e,hN,ll,lm⟩
 rw [← hn,hn2]
 have HNX:Hid (n=X.length∧n=Y.length∧n≤k):=⟨hn,hn2.symm,by omega⟩
 have hnk:n≤600:=by omega
 have hw:=hU.kept
 rw [← hn] at hact
 clear hU hN hn hn2 lX ll lm
 have j1:(k:Int)<(rs.length:Int):=by omega
 have j2:(k:Int)<600:=by omega
 have j3:(0:Int)≤(k:Int):=by omega
 obtain ⟨sb,so,rfl,c0,c1,c2,c3⟩:=(HX.out wr hw).get h1
 have hx:=HO.out _ (List.getElem_mem h1)
 generalize rs[k]=x at *
 obtain ⟨W0,hW0⟩:∃ W0,W0=wr.alloc (.cells #[.int .i64 x.1,.int .i64 x.2.1,.int .i64 x.2.2.1,.int .i64 x.2.2.2] 56):=⟨_,rfl⟩
 have k0:Same0 wr W0:=by rw [hW0];exact (Kept.refl _ wr).alloc _
 have hb:W0.heap[wr.heap.size]? = some (.cells #[.int .i64 x.1,.int .i64 x.2.1,.int .i64 x.2.2.1,.int .i64 x.2.2.2] 56 (0,0)):=by rw [hW0];exact heap_alloc_new wr _
 have HBB:Hid (W0.heap[wr.heap.size]? = some (.cells #[.int .i64 x.1,.int .i64 x.2.1,.int .i64 x.2.2.1,.int .i64 x.2.2.2] 56 (0,0))):=hb
 have HM0:Hid (UnM w W0 h g p q (.slice xo n xc) (.slice yo n yc) l m X Y):=HM.out.1.same k0
 have HBK:Hid (∀ ww,Kept (fun k=>k=h∨k=g) W0 ww→ww.cell? ⟨wr.heap.size,2,none⟩=some (.int .i64 x.2.2.1)):=fun ww hk=>(box4 (hk.at hb (fun e=>by have a1:=HM.out.1.hl.ltH;have a2:=HM.out.1.hl.ltG;omega))).2.2.1
 have HB:Hid (∀ ww,Same0 W0 ww→ww.cell? ⟨wr.heap.size,0,none⟩=some (.int .i64 x.1)∧ww.cell? ⟨wr.heap.size,1,none⟩=some (.int .i64 x.2.1)∧ww.cell? ⟨wr.heap.size,2,none⟩=some (.int .i64 x.2.2.1)∧ww.cell? ⟨wr.heap.size,3,none⟩=some (.int .i64 x.2.2.2)):=fun ww hk=>box4 (hk.at hb (fun f=>f))
 obtain ⟨b0,b1,b2,b3⟩:=HB.out W0 (Kept.refl _ _)
 obtain ⟨K,hK⟩:∃ K,K=pickF x.1 7:=⟨_,rfl⟩
 have C7:=pick12_any x.1 hx.1 7 (by decide) (by decide) W0
 have hK7:=pick_lt x.1 (show (0:Int)<7 by decide)
 rw [← hK] at C7 hK7 hact
 have HXO:Hid x.ok:=hx
 clear hx hK k0 hb
 go_upto_region 12 with fail
 rw [← hW0]
 clear hW0 c0 c1 c2 c3
 go_upto_region 18 with (first | (go_at_call 19;refine C7.mono ?_;rintro e w4 ⟨rfl,h4⟩;have h4:=h4.symm;subst h4))
 clear C7
 have CP:Hid (∀ c ww,I64 c→0<n→Calls Try.prog 19 #[.int .i64 c,.int .i64 (n:Int)] ww fun e w' => ∃ t:Nat,e=.returned (.int .i64 (t:Int))∧w' = ww∧t=pickF c (n:Int)∧(t:Int)<(n:Int)∧(0:Int)≤(t:Int)):=fun c ww hc h0=>(pick12_any c hc (n:Int) (by omega) (by omega) ww).mono (by rintro e w' ⟨rfl,rfl⟩;exact ⟨_,rfl,rfl,rfl,pick_lt c (by omega),by omega⟩)
 have CX:Hid (∀ ww,Same0 W0 ww→∀ t:Nat,(t:Int)<(n:Int)→∃ gx gy zx zy,xo=some ⟨gx,0,none⟩∧yo=some ⟨gy,0,none⟩∧ww.cell? ⟨gx,t,none⟩=some (.int .i64 zx)∧ww.cell? ⟨gy,t,none⟩=some (.int .i64 zy)∧X[t]? = some zx∧Y[t]? = some zy):=fun ww hk t ht=>by
  have e1:=HNX.out.1
  have e2:=HNX.out.2.1
  have U:=HM0.out.same hk
  obtain ⟨gx,cx,gy,cy,q1,q2,q3,q4⟩:=U.get HL.out (j:=t) (by omega)
  simp only [Value.slice.injEq] at q1 q2
  exact ⟨gx,gy,_,_,q1.1,q2.1,q3,q4,List.getElem?_eq_getElem (by omega),List.getElem?_eq_getElem (by omega)⟩
 have hmk:¬ (K≤3∨n=0):=by omega
 have hc:K=6:=hact.1
 clear hact
 subst hc
 have n0:¬ ((n:Int)=0):=by omega
 have n1:((n:Int) == 0)=false:=by simp;omega
 have e1:=HNX.out.1
 have e2:=HNX.out.2.1
 have HR:=HM0.out.rx.argS (by omega)
 obtain ⟨ao,ac,e,hArg,hAb⟩:=HR
 simp only [Value.slice.injEq] at e
 obtain ⟨rfl, -,rfl⟩:=e
 have hal:=fun a e=>hArg.lt (a:=a) e
 have CC:=coll_yes HM0.out.hl hArg.1 (fun r hr=>by
  obtain ⟨i,hi,rfl⟩:=List.mem_iff_getElem.1 hr
  exact (HM.out.2.1.han i _ _ (List.getElem?_eq_getElem hi) (List.getElem?_eq_getElem (by omega))).1) (fun _ a e=>by
  obtain ⟨o1,o2, -, -⟩:=HM0.out.off
  obtain ⟨b,c,eb, -⟩:=row_num HM0.out.rx (j:=0) (by omega)
  subst e
  simp only [Value.slice.injEq,Option.some.injEq] at eb
  obtain ⟨rfl, -, -⟩:=eb
  exact ⟨fun q=>o1.1 (by subst q;rfl),fun q=>o2.1 (by subst q;rfl)⟩)
 rw [← e1] at CC
 clear e1 e2 hArg hAb hal b0 b1 b2 b3
 go_upto_region 14 with fail
 go_upto_region 15 with (first | (go_at_call 23;refine CC.mono ?_;rintro e w5 ⟨tv,X', L,l', rfl,hkl,hsl,hrt,hrow5,p5,k5⟩))
 have U5:=HM0.out.coll k5 hrow5 p5
 have N5:=HM.out.2.1.coll hkl hsl hrt
 have hX' : X'.length=n:=by rw [hrt.1];exact HNX.out.1.symm
 obtain ⟨to', tc,e⟩:=row_shape hrow5
 rw [hX'] at e
 subst e
 have H5:Hid (UnS w w5 h g p q (.slice to' n tc) (.slice yo n yc) (k+1)):=⟨l', m,X', Y,_,U5,N5,by
  have:=hsl.1
  have:=hkl.le
  have:=HM.out.2.2.1
  omega,by have:=HM.out.2.2.2;omega,by have:=HNX.out.2.2;omega⟩
 have bN:((n:Int) != (n:Int))=false:=by simp
 generalize hwh:((l.length:Int)-(L.length:Int))=wn at *
 clear CC hkl hsl hrt hrow5 p5 k5 U5 N5 hX' hwh
 go_wp2
 exact HR.out _ _ _ _ _ _ _ _ _ _ _ _ _ _ _ _ _ _ _ _ _ _ _ _ _ _ _ _ _ _ _ _ _ _ _ _ _ _ _ _ _ _ _ _ _ _ _ _ _ _ _ _ _ _ _ _ _ _ _ _ _ _ _ _ _ _ _ _ _ _ _ _ _ _ _ _ _ _ _ _ _ _ _ _ _ _ _ _ _ _ _ _ _ _ _ _ _ _ _ _ _ _ _ _ _ _ _ _ _ _ _ _ _ _ _ _ _ _ _ _ _ _ _ _ _ _ _ _ _ _ _ _ _ _ _ _ _ _ _ _ _ _ _ _ _ _ _ _ _ _ _ _ _ _ _ _ _ _ _ _ _ _ _ _ _ _ _ _ _ _ _ _ _ _ _ _ _ _ _ _ _ _ _ _ _ _ _ _ _ _ _ _ _ _ _ _ _ _ _ _ _ _ _ _ _ _ _ _ _ _ _ _ _ (by go_num) H5
end Go.Proofs.Ytmloedlkoijfbaa
