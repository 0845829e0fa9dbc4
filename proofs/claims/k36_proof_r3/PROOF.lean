import PyProof.Rows.All
import Wide.All
import OpenK.AllK
import Wide.FinOn
import Lean
import PyProof.EqAt
import PyProof.EqKinds
import PyProof.TupleCall
import PySem.Challenge.RW_chairclans_k36_what_keeps_is_not_changed
set_option backward.eqns.nonrecursive false
set_option maxHeartbeats 4000000
set_option maxHeartbeats 4000000
set_option compiler.extract_closed false
def mI:=Lean.mkIdent
local macro_rules|`(tactic|lia)=>`(tactic|first|lia -abstractProof|omega +splitDisjunctions|(dsimp only;omega +splitDisjunctions))
local macro_rules | `(tactic| omega)=>`(tactic| first | lia +abstractProof | omega +splitDisjunctions | (dsimp only;omega +splitDisjunctions))
local macro_rules|`(#[0])=>`(by omega)|`(#[94])=>`(by lia)|`(#[1])=>`(by decide)|`(#[2])=>`(by walk_at "o")|`(#[3])=>`(by decide +kernel)
noncomputable section
open Int renaming gcd_pos_of_ne_zero_right→Waa,toNat_of_nonneg→Waq,mul_right_comm→Wat,gcd_dvd_right→WaC,gcd_dvd_left→WaO,ediv_nonneg→WaY,dvd_trans→Wa7,mul_assoc→Wa8,le_of_lt→Wbf,mul_comm→Wbg,zero_add→Wbh,le_refl→Wbn,one_mul→Wbo,ediv_mul_cancel→Yaw,natAbs_ediv_le_natAbs→Yay,le_of_mul_le_mul_right→YaF,mul_nonneg→YaK,emod_nonneg→Ybc,emod_lt_of_pos→Ybd,mul_le_mul_of_nonneg_right→Ybe
open PyProof.Rows renaming callWith_type1→Wab
open List renaming nodup_iff_pairwise_ne→Wac,getElem?_zip_eq_some→Wad,mem_or_eq_of_mem_set→Waf,eq_of_mem_replicate→Wah,take_of_length_le→Wak,getElem?_eq_none→Wan,length_filter_le→Wao,filter_append→Wau,find?_eq_none→Wav,nodup_append→WaA,foldl_append→WaD,pairwise_map→WaE,take_add_one→WaG,getElem_inj→WaK,length_take→WaM,all_eq_true→WaN,any_eq_true→WaP,nodup_range→WaQ,not_mem_nil→WaR,of_mem_zip→WaV,sum_append→WaZ,map_const'→Wa0,nodup_nil→Wa2,mem_cons→Wa5,map_set→Wbk,map_nil→Wbl,mem_append_right→Yaa,getElem?_append_left→Yab,getElem?_set_ne→Yac,getElem?_replicate→Yad,getElem?_append_right→Yae,append_assoc→Yag,mem_of_getElem?→Yah,mem_append_left→Yai,getElem_of_mem→Yam,append_nil→Yao,getElem?_set_self→Yas,map_congr_left→Yat,take_succ_eq_append_getElem→Yav,getElem?_range→Yax,map_replicate→Yaz,nodup_cons→YaB,map_map→YaD,length_range→YaG,take_length→YaH,filter_cons→YaM,length_set→YaN,length_pos_of_mem→YaO,getD_eq_getElem?_getD→YaP,getElem?_eq_getElem→YaQ,length_map→YaR,length_append→YaS,mem_cons_of_mem→YaT,mem_cons_self→YaV,size_toArray→YaZ,getElem?_map→Ya0,map_cons→Ya1,map_append→Ya2,mem_append→Ya3,getElem_mem→Ya4,mem_singleton→Ya6,mem_map→Ya7,getElem?_eq_some_iff→Ya8,mem_filter→Ya9,mem_range→Yba,length_replicate→Ybb
open Classical renaming byContradiction→Wae,em→Wbj
open Option renaming isSome_iff_exists→Wag,isSome_map→WaB
open PySem.F renaming plainAttrs_list→Wai,entry_min_loop→Wal,plain_min_loop→Wam
open PySem.W renaming cellsFrom_some→Waj,kia_one→WaW,mg_of→Wbc,Frag→Ybf
open PySem renaming mem_of_lookup→Wap
open Nat renaming lt_of_le_of_lt→War,lt_succ_self→WaL,le_of_lt→Wbd,ne_of_gt→Wbe,sub_self→Wbi,zero_le→Wbm,ne_of_lt→Yaf,lt_irrefl→Yap,lt_of_lt_of_le→YaU,le_refl→YaY,le_trans→Ya5
open Bool renaming false_eq_true→Was,true_eq_false→Wax,not_eq_true'→Waz,not_false→Wa3,and_self→Wa6,false_or→Wa9,not_true→Wba,and_true→Wbb,and_eq_true→Yak,false_ne_true→Yal
open PySem.PyData.tuple renaming injEq→Waw
open PySem.PassesOwn renaming leaving→WaF
open Option.some renaming injEq→WaH,inj→WaU
open PySem.PyData.bool renaming injEq→WaI
open PySem.PyData.list renaming injEq→WaJ
open PySem.PyData.int renaming injEq→WaS
open PySem.PyData.str renaming injEq→WaT
open List.cons renaming injEq→WaX
open PySem.Heap renaming size_push→Wa1,get?_push_size→Yan,get?_push_of_some→YaW,lt_size→YaX
open PySem.Paired renaming length→Wa4
open Ne renaming symm→Wbp
section
set_option Elab.async false
set_option linter.all false
set_option maxRecDepth 100000
namespace L2
open PySem PySem.Spec PyProof.Rows
abbrev Key:=Sum Int Str
noncomputable def Zc:Key->Value->Bool
 | .inl k,v=>Value.isInt k v
 | .inr x,v=>Value.isStrOf x v
noncomputable def keyH(w:World):Key->Int
 | .inl k=>hashInt k
 | .inr x=>hashStr w x
theorem j5:∀ {k:Key} {v:Value},Zc k v=true->(∃ i t,k=Sum.inl i/\v=Value.int i t)\/(∃ x t,k=Sum.inr x/\v=Value.str x t)
 | .inl i, v, h => by
  obtain⟨t,e⟩:=Value.isInt_shape h;exact .inl ⟨i,t,rfl,e⟩
 | .inr x, v, h => by
  obtain⟨t,e⟩:=Value.isStrOf_shape h;exact .inr ⟨x,t,rfl,e⟩
theorem zjz(i)(t):Zc (.inl i) (.int i t)=true:=by simp [Zc,Value.isInt]
theorem zj6(x)(t):Zc (.inr x) (.str x t)=true:=by simp [Zc,Value.isStrOf]
theorem zhL(a b):decide ((Sum.inl a:Key)=Sum.inl b)=(a==b):=by
 by_cases e:a=b
 . subst e;simp
 . have h:¬(Sum.inl a:Key)=Sum.inl b:=fun q=>e (Sum.inl.inj q)
   rw [decide_eq_false h];exact(beq_eq_false_iff_ne.mpr e).symm
theorem zjJ(a b):decide ((Sum.inr a:Key)=Sum.inr b)=decide (a=b):=by
 by_cases e:a=b
 . subst e;simp
 . have h:¬(Sum.inr a:Key)=Sum.inr b:=fun q=>e (Sum.inr.inj q)
   rw [decide_eq_false h,decide_eq_false e]
theorem zhZ(a)(b):decide ((Sum.inl a:Key)=Sum.inr b)=false:=decide_eq_false (fun q=>nomatch q)
theorem zhO(a)(b):decide ((Sum.inr a:Key)=Sum.inl b)=false:=decide_eq_false (fun q=>nomatch q)
noncomputable def jf(prog)(w):PySem.KeyKind prog w Key where
 is:=Zc
 hash:=keyH w
 inj:=fun v a b ha hb=>by
  rcases j5 ha with ⟨i,t,rfl,rfl⟩|⟨x,t,rfl,rfl⟩
  . rcases j5 hb with ⟨j,u,rfl,e⟩|⟨y,u,rfl,e⟩
    . injection e with e1 _;rw [e1]
    . exact nomatch e
  . rcases j5 hb with ⟨j,u,rfl,e⟩|⟨y,u,rfl,e⟩
    . exact nomatch e
    . injection e with e1 _;rw [e1]
 byValue:=fun k v h=>by
  rcases j5 h with ⟨i,t,rfl,rfl⟩|⟨x,t,rfl,rfl⟩<;>rfl
 pyHash:=fun hv h=>by
  rcases j5 hv with ⟨i,t,rfl,rfl⟩|⟨x,t,rfl,rfl⟩
  . exact wpAny_pyHash_int h
  . exact wpAny_pyHash_str h
 eqBool:=fun hu hv h=>by
  rcases j5 hu with ⟨i,t,rfl,rfl⟩|⟨x,t,rfl,rfl⟩
  . rcases j5 hv with ⟨j,u,rfl,rfl⟩|⟨y,u,rfl,rfl⟩
    . rw [zhL] at h;exact wpAny_eqBool_int h
    . rw [zhZ] at h;exact SeqAt.EqAt.int_str i t y u _ _ _ _ h
  . rcases j5 hv with ⟨j,u,rfl,rfl⟩|⟨y,u,rfl,rfl⟩
    . rw [zhO] at h;exact SeqAt.EqAt.str_int x t j u _ _ _ _ h
    . rw [zjJ] at h;exact wpAny_eqBool_str h
 «strs»:=fun k x t v h=>by
  rcases j5 h with ⟨i,u,rfl,e⟩|⟨y,u,rfl,e⟩
  . exact nomatch e
  . injection e with e1 _
    subst e1;cases v<;>rfl
theorem zhs(prog)(w)(i)(t):(jf prog w).is (.inl i) (.int i t)=true:=zjz i t
theorem zj1(prog)(w)(x)(t):(jf prog w).is (.inr x) (.str x t)=true:=zj6 x t
inductive V where
 | non|bl (b:Bool)|int (i:Int)|str (x:Str)|byt (b:Array UInt8)|flt (b:UInt64)|ref (a:Addr)|ty (n:String)
 deriving DecidableEq
def RelV:V->Value->Prop
 | .non,u=>u=Value.none
 | .bl b,u=>u=Value.bool b
 | .int i,u=>∃ t,u=Value.int i t
 | .str x,u=>∃ t,u=Value.str x t
 | .byt b,u=>∃ t,u=Value.bytes b t
 | .flt b,u=>∃ t,u=Value.float b t
 | .ref a,u=>u=Value.ref a
 | .ty n,u=>u=Value.type n
abbrev Vals:List V->List Value->Prop:=Paired RelV
theorem Vals.length(r:Vals xs us):xs.length=us.length:=Wa4 r
theorem Vals.get:∀ {xs:List V} {us:List Value} {i:Nat} {x:V},Vals xs us->xs[i]?=some x->∃ u,us[i]?=some u/\RelV x u
 | _,_,_,_,.nil,e=>by simp at e
 | _,_,0,_,.cons r _,e=>by simp at e;subst e;exact⟨_,rfl,r⟩
 | _, _, i + 1, x, .cons _ t, e => by
  obtain⟨u,h1,h2⟩:=Vals.get t (by simpa using e)
  exact⟨u,by simpa using h1,h2⟩
theorem Vals.set{x:V}{u:Value}(r:RelV x u):∀ {xs:List V} {us:List Value} (i:Nat),Vals xs us->Vals (xs.set i x) (us.set i u)
 | _,_,_,.nil=>.nil
 | _,_,0,.cons _ t=>.cons r t
 | _,_,i+1,.cons q t=>.cons q (Vals.set r i t)
theorem Vals.append:∀ {xs ys:List V} {us ws:List Value},Vals xs us->Vals ys ws->Vals (xs++ys) (us++ws)
 | _,_,_,_,.nil,s=>s
 | _,_,_,_,.cons r t,s=>.cons r (Vals.append t s)
theorem Vals.take:∀ {xs:List V} {us:List Value} (n:Nat),Vals xs us->Vals (xs.take n) (us.take n)
 | _,_,0,_=>.nil
 | _,_,_+1,.nil=>.nil
 | _,_,n+1,.cons r t=>.cons r (Vals.take n t)
theorem Vals.drop:∀ {xs:List V} {us:List Value} (n:Nat),Vals xs us->Vals (xs.drop n) (us.drop n)
 | _,_,0,r=>r
 | _,_,_+1,.nil=>.nil
 | _,_,n+1,.cons _ t=>Vals.drop n t
def RelO:Option V->Option Value->Prop
 | some v,some u=>RelV v u
 | none,none=>True
 | _,_=>False
def KV{κ : Type}:List (κ×V)->List (κ×Value)->Prop:=Paired fun(p:κ×V) (q:κ×Value)=>p.1=q.1/\RelV p.2 q.2
noncomputable def kV:Key->V
 | .inl i=>.int i
 | .inr x=>.str x
inductive HO where
 | lst (xs:List V)
 | tup (xs:List V)
 | dK (kvs:List (Key×V))|dT (kvs:List (List Key×V))
 | set (S:Int->Bool) (n:Nat)
 | ins (C dx:Addr) (fs:List (Str×V))
 | own (x:Addr)
 | xd (fs:List (Str×V))
 | met (f x:Addr)
 | rng (lo hi:Int)
 | frz (o:Obj) (u:HO)
 | tbl (ps:Array Value)
 | ext (φ : Heap->Prop)
abbrev Hp:=Addr->Option HO
variable{a b e:Addr}{H:Hp}{t' i:Nat}{E:Value->Shared->Prop}{Q:Unit->Shared->Prop}{ch:List Addr}{o:HO}{g':Array GenState}{h h':Heap}{P:Program}{w:World}{d':Drawn}{A:Around}{u:Value}{M:Model}
noncomputable def upd(H:Hp)(a:Addr)(o:HO):Hp:=fun b=>if b=a then some o else H b
theorem zf:upd H a o a=some o:=by unfold upd;simp_all
theorem zc(h:b≠a):upd H a o b=H b:=by unfold upd;rw [if_neg h]
theorem Zw{u:HO}:upd (upd H a o) a u=upd H a u:=by
 unfold upd;simp_all
theorem zmH{u:HO}(h:H a=some o)(h':H b=some u)(d:o≠u):a≠b:=by
 intro e;subst e;rw [h] at h';exact d (WaU h')
theorem jd(h:H a=some o)(h':H b=none):a≠b:=by
 grind
section
variable(P:Program)(w:World)
def zV(H:Hp)(h:Heap)(a:Addr):HO->Prop
 | .lst xs=>xs.length<=sizeLine/\∃ (its:List Value) (n:Nat),Vals xs its/\h.get? a=some { cls:=.type "list", data:=.seq its.toArray n }
 | .tup xs=>xs.length<=sizeLine/\∃ its:List Value,Vals xs its/\IsTup h a its.toArray
 | .dK kvs=>kvs.length<=sizeLine/\(a==sysModules)=false/\∃ vs,KV kvs vs/\h.DictOf (jf P w) a vs
 | .dT kvs => kvs.length <= sizeLine /\ (a == sysModules) = false /\ ∃ xs : List (List Key × Addr × Value),
  Paired (fun(p:List Key×V) (q:List Key×Addr×Value)=>p.1=q.1/\H q.2.1=some (.tup (p.1.map kV))/\RelV p.2 q.2.2) kvs xs/\
  ∃ o es ep,h.get? a=some o/\o.ExactDict/\o.data=.dict es ep/\es.toList=xs.map (entryOfKey (tupleKind (jf P w)))/\(xs.map (·.1)).Nodup
 | .set S n=>h.SetOf (intKind P w) a S n
 | .ins C dx fs => H dx = some (.own a) /\ fs.length <= 1000 /\ dx ≠ a /\ h.get? a = some (PySem.W.instObj C dx) /\
  ∃ mA,h.Ns1 dx mA/\(∀ f,RelO (fs.lookup f) (mA f))/\PySem.Within mA (fs.map (·.1))
 | .own _=>∃ o,h.get? a=some o
 | .xd fs=>∃ mA,h.Ns1 a mA/\∀ f,RelO (fs.lookup f) (mA f)
 | .rng lo hi=>∃ t u v,h.get? a=some { cls:=.type "range", data:=.fields #[.int lo t,.int hi u,.int 1 v] }
 | .frz o u=>h.get? a=some o/\zV H h a u
 | .tbl ps=>h.get? a=some { cls:=.none,data:=.fields ps }
 | .met f x=>h.get? a=some (PySem.W.methodObj (.ref f) (.ref x))
 | .ext φ=>φ h/\(∃ o,h.get? a=some o)/\∀ h1 h2:Heap,φ h1->(∀ o,h1.get? a=some o->h2.get? a=some o)->φ h2
def HOk(H:Hp)(h:Heap):Prop:=∀ a o,H a=some o->zV P w H h a o
end
section
variable{H':Hp}
theorem zV.lt(x:zV P w H h a o):a<h.objs.size:=by
 cases o with
 | lst c=>obtain⟨_,_,_,_,e⟩:=x;exact YaX e
 | tup c=>obtain⟨_,_,_,p⟩:=x;exact p.lt
 | dK b=>obtain⟨_,_,_,_,o,_,_,e,_⟩:=x;exact YaX e
 | dT b=>obtain⟨_,_,_,_,o,_,_,e,_⟩:=x;exact YaX e
 | set S n=>obtain⟨o,_,_,_,e,_⟩:=x;exact YaX e
 | ins C m g=>obtain⟨_,_,_,e,_⟩:=x;exact YaX e
 | own y=>obtain⟨_,e⟩:=x;exact YaX e
 | xd g=>obtain⟨_,⟨_,_,_,e,_⟩,_⟩:=x;exact YaX e
 | rng l i=>obtain⟨_,_,_,e⟩:=x;exact YaX e
 | frz q u=>obtain⟨e,_⟩:=x;exact YaX e
 | tbl j=>exact YaX (x)
 | met f y=>exact YaX (x)
 | ext φ=>obtain⟨_,⟨_,e⟩,_⟩:=x;exact YaX e
theorem Paired.mapP{α β : Type}{F G:α->β->Prop}:∀ {l₁ : List α} {l₂ : List β},Paired F l₁ l₂->(∀ a b,F a b->G a b)->Paired G l₁ l₂
 | _,_,.nil,_=>.nil
 | _,_,.cons r t,f=>.cons (f _ _ r) (Paired.mapP t f)
theorem zV.stay(x:zV P w H h a o)(k:∀ b u,(b=a\/H b=some (.own a))->h.get? b=some u->h'.get? b=some u)
 (F:∀ b,H b=some (.own a)->H' b=some (.own a)) (K:∀ b xs,H b=some (.tup xs)->H' b=some (.tup xs)):zV P w H' h' a o:=by
 induction o with
 | lst xs=>obtain⟨z,l,n,r,e⟩:=x;exact⟨z,l,n,r,k _ _ (.inl rfl) e⟩
 | tup xs=>obtain⟨z,l,r,g,e,c⟩:=x;exact⟨z,l,r,g,k _ _ (.inl rfl) e,c⟩
 | dK A=>obtain⟨z,y,G,r,g,j,i,e,c⟩:=x;exact⟨z,y,G,r,g,j,i,k _ _ (.inl rfl) e,c⟩
 | dT A=>
  obtain⟨z,y,xs,r,g,j,i,e,c⟩:=x;exact⟨z,y,xs,Paired.mapP r fun p q z=>⟨z.1,K _ _ z.2.1,z.2.2⟩,g,j,i,k _ _ (.inl rfl) e,c⟩
 | set S n=>obtain⟨g,j,i,t,e,c⟩:=x;exact⟨g,j,i,t,k _ _ (.inl rfl) e,c⟩
 | ins C Q L=>
  obtain⟨d,z,J,e,m,⟨s,j,i,E,c⟩,r⟩:=x;exact⟨F _ d,z,J,k _ _ (.inl rfl) e,m,⟨s,j,i,k _ _ (.inr d) E,c⟩,r⟩
 | own y=>obtain⟨g,e⟩:=x;exact⟨g,k _ _ (.inl rfl) e⟩
 | xd L=>obtain⟨m,⟨s,j,i,e,c⟩,r⟩:=x;exact⟨m,⟨s,j,i,k _ _ (.inl rfl) e,c⟩,r⟩
 | rng O M=>obtain⟨t,u,v,e⟩:=x;exact⟨t,u,v,k _ _ (.inl rfl) e⟩
 | frz g u I=>obtain⟨e,q⟩:=x;exact⟨k _ _ (.inl rfl) e,I q⟩
 | tbl N=>
  have e:=x;exact k a _ (.inl rfl) e
 | met f y=>
  have e:=x;exact k a _ (.inl rfl) e
 | ext φ=>obtain⟨p,⟨o,e⟩,B⟩:=x;exact⟨B _ _ p fun o q=>k _ _ (.inl rfl) q,⟨o,k _ _ (.inl rfl) e⟩,B⟩
theorem HOk.lt(x:HOk P w H h)(e:H a=some o):a<h.objs.size:=(x a o e).lt
theorem HOk.fresh(x:HOk P w H h)(e:h.objs.size<=a):H a=none:=by
 cases q:H a with
 | none=>rfl
 | some u=>exact absurd (YaU (x.lt q) e) (Yap _)
theorem HOk.kept(x:HOk P w H h)(k:∀ b u,h.get? b=some u->h'.get? b=some u):HOk P w H h':=fun a o e=>
 (x a o e).stay (fun b u _ q=>k b u q) (fun _ q=>q) fun _ _ q=>q
theorem HOk.laid(x:HOk P w H h)(k:∀ b u,h.get? b=some u->h'.get? b=some u)(l:h.objs.size<=a)(j:zV P w (upd H a o) h' a o):HOk P w (upd H a o) h':=fun b u e=>by
 have g:=x.fresh l
 by_cases i:b=a
 . subst i;rw [zf] at e;grind
 . rw [zc i] at e
   exact(x b u e).stay (fun c v _ q=>k c v q) (fun c q=>by rw [zc (jd q g)];exact q) fun c m q=>by rw [zc (jd q g)];exact q
end
def Rd(H:Hp)(a:Addr)(u:HO):Prop:=H a=some u\/∃ o,H a=some (.frz o u)
theorem Rd.ok{u:HO}(r:Rd H a u)(x:HOk P w H h):zV P w H h a u:=by
 rcases r with r|⟨o,r⟩
 . exact x a u r
 . obtain⟨_,q⟩:=x a _ r
   exact q
def Mut:Option HO->Prop
 | some (.lst _)=>True
 | some (.dK _)=>True
 | some (.dT _)=>True
 | some (.set _ _)=>True
 | some (.ins _ _ _)=>True
 | some (.ext _)=>True
 | _=>False
section
variable{x:Addr}{o':HO}
theorem HOk.write(ok:HOk P w H h)(mu:Mut (H x))(he:e=x\/H e=some (.own x))(k:∀ b u,b≠e->h.get? b=some u->h'.get? b=some u)(heo:∃ u,h'.get? e=some u)
 (new:zV P w (upd H x o') h' x o'):HOk P w (upd H x o') h':=fun b u q=>by
 have nown:∀ c y,H c=some (.own y)->c≠x:=fun c y r z=>by subst z;rw [r] at mu;exact mu
 have ntup:∀ c xs,H c=some (.tup xs)->c≠x:=fun c xs r z=>by subst z;rw [r] at mu;exact mu
 by_cases hb:b=x
 . subst hb;rw [zf] at q;grind
 . rw [zc hb] at q
   by_cases hbe:b=e
   . have q':H b=some (.own x):=by
      rcases he with z|z
      . exact absurd (hbe.trans z) hb
      . rw [hbe];exact z
     rw [q] at q';cases q';obtain⟨v,hv⟩:=heo;exact⟨v,by rw [hbe];exact hv⟩
   . refine(ok b u q).stay (fun c v hc r=>k c v ?_ r) (fun c r=>by rw [zc (nown c b r)];exact r) fun c xs r=>by rw [zc (ntup c xs r)];exact r
     grind
end
set_option genInjectivity false
set_option genSizeOf false
structure Un(fs ex:List Addr)(H H':Hp)(h h':Heap):Prop where
 keep:∀ b o,h.get? b=some o->H b=none->b∉fs->b∉ex->h'.get? b=some o
 slot:∀ b o,h.get? b=some o->H b=none->b∈fs->b∉ex->∃ sl,h'.get? b=some { o with slots:=sl }
 free:∀ b o,h.get? b=some o->H b=none->b∉ex->H' b=none
 there:∀ b o,h.get? b=some o->b∉ex->∃ o',h'.get? b=some o'
 tups:∀ b xs,H b=some (.tup xs)->H' b=some (.tup xs)
 frzs:∀ b o u,H b=some (.frz o u)->H' b=some (.frz o u)
 tbls:∀ b ps,H b=some (.tbl ps)->∃ more,H' b=some (.tbl (ps++more))
section
variable{fs fs' ex ex':List Addr}{H1 H2:Hp}{h1 h2:Heap}{x:Addr}
theorem Un.any(u:Un fs ex H H1 h h1)(q:h.get? b=some ob)(n:H b=none)(a:b∉ex):∃ sl,h1.get? b=some { ob with slots:=sl }:=by
 by_cases c:b∈fs
 . exact u.slot b ob q n c a
 . exact⟨_,u.keep b ob q n c a⟩
theorem Un.kept(k:∀ b u,h.get? b=some u->h'.get? b=some u):Un fs ex H H h h':=
 ⟨fun b a q _ _ _=>k b a q,fun b a q _ _ _=>⟨_,k b a q⟩,fun _ _ _ n _=>n,fun b a q _=>⟨a,k b a q⟩,fun _ _ q=>q,fun _ _ _ q=>q,fun _ c q=>⟨#[],by simp_all⟩⟩
theorem Un.refl:Un fs ex H H h h:=Un.kept fun _ _ q=>q
theorem Un.laid(k:∀ b u,h.get? b=some u->h'.get? b=some u)(e:h.objs.size<=a)(c:H a=none):Un fs ex H (upd H a o) h h' where
 keep:=fun b u q _ _ _=>k b u q
 slot:=fun b u q _ _ _=>⟨_,k b u q⟩
 free:=fun b u q n _=>by rw [zc (Yaf (YaU (YaX q) e))];exact n
 there:=fun b u q _=>⟨u,k b u q⟩
 tups:=fun b g q=>by rw [zc (jd q c)];exact q
 frzs:=fun b u g q=>by rw [zc (jd q c)];exact q
 tbls:=fun b i q=>⟨#[],by rw [zc (jd q c),q];simp⟩
theorem Un.write(mu:Mut (H x))(he:e=x\/H e=some (.own x))(k:∀ b u,b≠e->h.get? b=some u->h'.get? b=some u)(heo:∃ u,h'.get? e=some u):Un fs ex H (upd H x o) h h':=by
 have hx:∀ b,H b=none->b≠x:=fun b n z=>by subst z;rw [n] at mu;exact mu
 have hb:∀ b,H b=none->b≠e:=fun b n z=>by
  simp_all
 have hm:∀ b u,H b=some u->¬Mut (some u)->b≠x:=fun b u q nm z=>by simp_all
 refine⟨fun b u q n _ _=>k b u (hb b n) q,fun b u q n _ _=>⟨_,k b u (hb b n) q⟩,fun b u q n _=>by rw [zc (hx b n)];exact n,fun b u q _=>?_,
  fun b xs q=>by rw [zc (hm b _ q fun z=>z)];exact q,fun b u xs q=>by rw [zc (hm b _ q fun z=>z)];exact q,fun b ps q=>⟨#[],by rw [zc (hm b _ q fun z=>z),q];simp⟩⟩
 by_cases hbe:b=e
 . simp_all
 . exact⟨u,k b u hbe q⟩
end
noncomputable def trk(h:Heap)(H:Hp):List Addr:=(List.range h.objs.size).filter fun a=>(H a).isSome
noncomputable def hidT(h:Heap)(H:Hp):Heap:=PySem.W.hideAll h (trk h H)
theorem zhc(h)(H):(hidT h H).objs.size=h.objs.size:=PySem.W.hideAll_size _ _
theorem zh0{o:Obj}(e:h.get? b=some o)(n:H b=none):(hidT h H).get? b=some o:=
 PySem.W.hideAll_get _ e fun a=>by
  have q:=(Ya9.mp a).2
  simp_all
theorem zlI{o:Obj}(e:(hidT h H).get? b=some o):h.get? b=some o/\H b=none:=by
 have a:=PySem.W.of_hideAll _ e;refine⟨a,?_⟩;cases q:H b with
 | none=>rfl
 | some x=>
  have c:b∈trk h H:=Ya9.mpr ⟨Yba.mpr (YaX a),by simp [q]⟩
  have z:(hidT h H).get? b=none:=PySem.W.hideAll_none _ c
  grind
structure Mod(K:Ybf)(mg:Str->Option Value)(base:Heap):Prop where
 kin:K.In base
 glob:base.Ns mainGlobals mg
 blt:∃ mb,base.Ns builtinsNs mb/\∀ x:Str,x≠"__name__"->mb x=bootBuiltins x
 nolimit:base.NoLimit
structure Cx where
 prog:Program
 w:World
 K:Ybf
 mg:Str->Option Value
 base:Heap
 A:Around
 N:List Str
 s₀ : Shared
 H₀ : Hp
 env:Env
 outer:List Env
 stack:List Env
 ex:List Addr
 fn:Str->Bool
 calm:Bool
 pn:List (Addr×Obj)
 xe:Value->Shared->Prop
noncomputable def frs(l:List Env):List Addr:=l.filterMap (·.frame)
noncomputable abbrev Cx.fs(X:Cx):List Addr:=frs X.outer
def Vis(sc:Scope)(x:Str):Prop:=sc.names.lookup x=some .local\/sc.names.lookup x=some .cell\/sc.names.lookup x=some .free
def Loc(sc:Scope)(x:Str):Prop:=sc.names.lookup x=some .local\/sc.names.lookup x=some .cell
def Look(env:Env)(h:Heap)(m:Str->Option Value)(x:Str)(u:Value):Prop:=
 (env.kindOf x=some .local/\m x=some u)\/((env.kindOf x=some .cell\/env.kindOf x=some .free)/\∃ c,env.cells.lookup x=some c/\h.IsCell c (some u))
structure Cx.Ok(X:Cx):Prop where
 mod:Mod X.K X.mg X.base
 kind:X.env.scope.kind=.function
 glob:X.env.globals=mainGlobals
 blt:X.env.builtins=builtinsNs
 above:X.s₀.heap.objs.size<=X.env.locals
 inj:∀ x y c,X.env.cells.lookup x=some c->X.env.cells.lookup y=some c->x=y
 has:∀ x,(X.env.kindOf x=some .cell\/X.env.kindOf x=some .free)->∃ c,X.env.cells.lookup x=some c
 cab:∀ x c,X.fn x=true->X.env.cells.lookup x=some c->X.s₀.heap.objs.size<=c
 hd:X.calm=true->X.A.handled=none
 frames:X.A.frames=some X.stack
 stk:X.stack=X.outer\/(X.stack=X.env::X.outer/\X.env.frame=some X.env.locals)
 exf:∀ b∈X.ex,b≠X.env.locals/\∀ x c,X.env.cells.lookup x=some c->c≠b
 bs:∀ b o,X.base.get? b=some o->X.s₀.heap.get? b=some o/\X.H₀ b=none
 bsz:X.base.objs.size<=X.s₀.heap.objs.size
 noex:∀ b o,X.base.get? b=some o->b∉X.ex
 exfs:∀ b∈X.ex,b∉X.fs
 funs:X.s₀.heap.FunFrames X.base X.outer
 frf:∀ b∈X.fs,X.H₀ b=none
structure Inv(X:Cx)(pins:List (Addr×Obj))(σ : List (Option V))(H:Hp)(s:Shared):Prop where
 ok:X.Ok
 os:s.os=X.s₀.os
 bare:AllBare s.gens
 base:Un X.fs X.ex X.H₀ H X.s₀.heap s.heap
 loc:∃ m,s.heap.Ns X.env.locals m/\∀ (i:Nat) (x:Str) (v:V),X.N[i]?=some x->σ[i]?=some (some v)->Vis X.env.scope x->∃ u,RelV v u/\Look X.env s.heap m x u
 cell:∀ x c,X.env.cells.lookup x=some c->∃ v,s.heap.IsCell c v
 free:H X.env.locals=none
 freeC:∀ x c,X.env.cells.lookup x=some c->H c=none
 pin:∀ p∈X.pn++pins,s.heap.get? p.1=some p.2/\H p.1=none/\p.1≠X.env.locals/\p.1∉X.fs/\∀ v,p.2.data≠.cell v
 hok:HOk X.prog X.w H s.heap
 len:σ.length=X.N.length
section
variable{X:Cx}{pins:List (Addr×Obj)}{σ: List (Option V)}{H':Hp}{s:Shared}
theorem Cx.Ok.nofr(a:X.Ok){o:Obj}(e:X.base.get? b=some o):b∉X.fs:=fun c=>by
 have:=(a.funs.mem c).1
 grind
theorem Inv.bs(I:Inv X pins σ H s):∀ b o,X.base.get? b=some o->s.heap.get? b=some o/\H b=none:=fun b o e=>
 ⟨I.base.keep b o (I.ok.bs b o e).1 (I.ok.bs b o e).2 (I.ok.nofr e) (I.ok.noex b o e),I.base.free b o (I.ok.bs b o e).1 (I.ok.bs b o e).2 (I.ok.noex b o e)⟩
theorem Inv.bk(I:Inv X pins σ H s):∀ b o,X.base.get? b=some o->s.heap.get? b=some o:=fun b o e=>(I.bs b o e).1
theorem Inv.mod(I:Inv X pins σ H s):Mod X.K X.mg X.base:=I.ok.mod
theorem Inv.kIn(I:Inv X pins σ H s):X.K.In s.heap:=I.ok.mod.kin.keeps I.bk
theorem Inv.nolimit(I:Inv X pins σ H s):s.heap.NoLimit:=I.ok.mod.nolimit.keeps I.bk
theorem Inv.lt(I:Inv X pins σ H s):X.env.locals<s.heap.objs.size:=let ⟨_,hn,_⟩:=I.loc;hn.lt
theorem Inv.sz(I:Inv X pins σ H s):X.s₀.heap.objs.size<=s.heap.objs.size:=Ya5 I.ok.above (Wbd I.lt)
theorem Inv.nofs(I:Inv X pins σ H s)(h:s.heap.objs.size<=a):a∉X.fs:=fun c=>by
 obtain⟨_,o,b,_⟩:=I.ok.funs.mem c;exact absurd (YaU (YaX b) (Ya5 I.sz h)) (Yap _)
theorem Inv.cne(I:Inv X pins σ H s):∀ x c,X.env.cells.lookup x=some c->c≠X.env.locals:=fun x c e z=>by
 obtain⟨v,o,g,i⟩:=I.cell x c e;obtain⟨m,⟨h,l,j,b,a,_⟩,_⟩:=I.loc
 grind
theorem Inv.funs(I:Inv X pins σ H s):s.heap.FunFrames X.base X.outer:=by
 have all:∀ (l:List Env),(∀ b∈frs l,b∈X.fs)->X.s₀.heap.FunFrames X.base l->s.heap.FunFrames X.base l:=by
  intro l
  induction l with
  | nil=>intro _ _;trivial
  | cons env r ih=>
   intro hs hl;obtain⟨hk,⟨L,o,hf,hn,ho,hd⟩,hr⟩:=hl;have hL:=hs L (by unfold frs;rw [List.filterMap_cons,hf];exact YaV)
   obtain⟨sl,e⟩:=I.base.slot L o ho (I.ok.frf L hL) hL fun z=>I.ok.exfs L z hL
   exact⟨hk,⟨L,_,hf,hn,e,hd⟩,ih (fun b hb=>hs b (by unfold frs;rw [List.filterMap_cons,hf];exact YaT _ hb)) hr⟩
 exact all _ (fun _ hb=>hb) I.ok.funs
theorem Inv.stack(I:Inv X pins σ H s):s.heap.FunFrames X.base X.stack:=by
 rcases I.ok.stk with e|⟨e,a⟩
 . rw [e];exact I.funs
 . rw [e]
   obtain⟨m,b,_⟩:=I.loc;refine .cons (by rw [I.ok.kind];decide) a b ?_ I.funs
   exact Heap.get?_none_of_le (Ya5 I.ok.bsz I.ok.above)
theorem Inv.stkSub(I:Inv X pins σ H s):∀ b∈frs X.stack,b∈X.env.locals::X.fs:=fun b hb=>by
 rcases I.ok.stk with e|⟨e,hf⟩
 . rw [e] at hb;exact YaT _ hb
 . rw [e] at hb
   unfold frs at hb;rw [List.filterMap_cons,hf] at hb;exact hb
theorem Inv.stkFree(I:Inv X pins σ H s):∀ b∈frs X.stack,H b=none:=fun b a=>by
 rcases Wa5.mp (I.stkSub b a) with e|a
 . rw [e];exact I.free
 . obtain⟨_,o,c,_⟩:=I.ok.funs.mem a
   exact I.base.free b o c (I.ok.frf b a) fun z=>I.ok.exfs b z a
theorem Inv.step(I:Inv X pins σ H s)
 (h:∀ b∈ch,(b∈X.ex\/X.s₀.heap.objs.size<=b)/\b≠X.env.locals/\(∀ x c,X.env.cells.lookup x=some c->c≠b)/\∀ p∈X.pn++pins,p.1≠b)
 (y:∀ b o,b≠X.env.locals->b∉X.fs->b∉ch->s.heap.get? b=some o->H b=none->h'.get? b=some o)
 (C:∀ b o,b≠X.env.locals->b∈X.fs->b∉ch->s.heap.get? b=some o->H b=none->∃ sl,h'.get? b=some { o with slots:=sl }) (g:∀ b o,b∉ch->s.heap.get? b=some o->H b=none->H' b=none)
 (F:∀ b o,b∉ch->s.heap.get? b=some o->∃ o',h'.get? b=some o')
 (M:∀ b xs,H b=some (.tup xs)->H' b=some (.tup xs)) (K:∀ b o u,H b=some (.frz o u)->H' b=some (.frz o u)) (L:∀ b ps,H b=some (.tbl ps)->∃ more,H' b=some (.tbl (ps++more)))
 (ns:∀ m,s.heap.Ns X.env.locals m->h'.Ns X.env.locals m) (O:HOk X.prog X.w H' h') (Y:AllBare g') :
 Inv X pins σ H' { s with heap:=h',gens:=g',drawn:=d',toks:=t' }:=by
 have J:∀ b o,X.s₀.heap.get? b=some o->b≠X.env.locals:=fun b o e=>Yaf (YaU (YaX e) I.ok.above)
 have B:∀ b o,X.s₀.heap.get? b=some o->b∉X.ex->b∉ch:=fun b o e a E=>by
  rcases(h b E).1 with z|z
  . exact a z
  . exact absurd (YaU (YaX e) z) (Yap _)
 have w:∀ x c,X.env.cells.lookup x=some c->∀ v,s.heap.IsCell c v->h'.IsCell c v:=fun x c e v ⟨o,G,Q⟩=>by
  have j:=fun z=>(h c z).2.2.1 x c e rfl
  by_cases U:c∈X.fs
  . obtain⟨sl,q⟩:=C c o (I.cne x c e) U j G (I.freeC x c e)
    exact⟨_,q,Q⟩
  . exact⟨o,y c o (I.cne x c e) U j G (I.freeC x c e),Q⟩
 refine⟨I.ok,I.os,Y,⟨fun b o e n E a=>?_,fun b o e n E a=>?_,fun b o e n a=>?_,fun b o e a=>?_,fun b xs e=>M b xs (I.base.tups b xs e),fun b o xs e=>K b o xs (I.base.frzs b o xs e),fun b ps e=>?_⟩,?_,fun x c e=>?_,?_,fun x c e=>?_,fun p R=>?_,O,I.len⟩
 . exact y b o (J b o e) E (B b o e a) (I.base.keep b o e n E a) (I.base.free b o e n a)
 . obtain⟨sl,A⟩:=I.base.slot b o e n E a
   obtain⟨P,N⟩:=C b _ (J b o e) E (B b o e a) A (I.base.free b o e n a);exact⟨P,N⟩
 . obtain⟨o',A⟩:=I.base.there b o e a
   exact g b o' (B b o e a) A (I.base.free b o e n a)
 . obtain⟨o',A⟩:=I.base.there b o e a
   exact F b o' (B b o e a) A
 . obtain⟨m1,A⟩:=I.base.tbls b ps e
   obtain⟨m2,N⟩:=L b _ A;exact⟨m1++m2,by simp_all⟩
 . obtain⟨m,Z,hl⟩:=I.loc
   refine⟨m,ns m Z,fun i x v A N W=>?_⟩
   obtain⟨u,r,l⟩:=hl i x v A N W;refine⟨u,r,?_⟩
   rcases l with l|⟨k,c,e,z⟩
   . exact .inl l
   . exact .inr ⟨k,c,e,w x c e _ z⟩
 . obtain⟨v,z⟩:=I.cell x c e
   exact⟨v,w x c e v z⟩
 . obtain⟨m,⟨o,_,_,G,_⟩,_⟩:=I.loc
   exact g _ o (fun z=>(h _ z).2.1 rfl) G I.free
 . obtain⟨v,o,G,Q⟩:=I.cell x c e
   exact g c o (fun z=>(h c z).2.2.1 x c e rfl) G (I.freeC x c e)
 . obtain⟨e,n,T,S,d⟩:=I.pin p R
   have j:=fun z=>(h p.1 z).2.2.2 p R rfl
   exact⟨y p.1 p.2 T S j e n,g p.1 p.2 j e n,T,S,d⟩
theorem Inv.un(I:Inv X pins σ H s)(u:Un X.fs [] H H' s.heap h')(i:HOk X.prog X.w H' h'):Inv X pins σ H' { s with heap:=h',toks:=t' }:=by
 obtain⟨m,⟨o,A,y,j,r⟩,_⟩:=id I.loc;obtain⟨B,p⟩:=u.any j I.free (by simp)
 exact I.step (ch:=[]) (fun _ z=>nomatch z) (fun b o _ g _ e n=>u.keep b o e n g (by simp)) (fun b o _ g _ e n=>u.slot b o e n g (by simp)) (fun b o _ e n=>u.free b o e n (by simp)) (fun b o _ e=>u.there b o e (by simp)) u.tups u.frzs u.tbls (fun v l=>by
  obtain⟨w,c,h,a,q⟩:=l;rw [j] at a;cases a;exact⟨_,c,h,p,q⟩) i I.bare
theorem Inv.call(I:Inv X pins σ H s)(u:Un (frs X.stack) ch H H' s.heap h')(q:HOk X.prog X.w H' h')(y:AllBare g')
 (h:∀ b∈ch,(b∈X.ex\/X.s₀.heap.objs.size<=b)/\b≠X.env.locals/\(∀ x c,X.env.cells.lookup x=some c->c≠b)/\∀ p∈X.pn++pins,p.1≠b) :
 Inv X pins σ H' { s with heap:=h',gens:=g',drawn:=d',toks:=t' }:=by
 obtain⟨m,⟨o,G,F,v,r⟩,_⟩:=id I.loc;obtain⟨J,l⟩:=u.any v I.free fun z=>(h _ z).2.1 rfl
 exact I.step h (fun b o l A a e n=>u.keep b o e n (fun z=>(Wa5.mp (I.stkSub b z)).elim l A) a) (fun b o _ _ a e n=>u.any e n a) (fun b o a e n=>u.free b o e n a) (fun b o a e=>u.there b o e a) u.tups u.frzs u.tbls (fun C w=>by
  obtain⟨E,i,j,g,B⟩:=w;rw [v] at g;cases g;exact⟨_,i,j,l,B⟩) q y
theorem Inv.turned(I:Inv X pins σ H s)(k:∀ b o,b≠it->s.heap.get? b=some o->h'.get? b=some o)(hn:H it=none)(hL:it≠X.env.locals)
 (h1:it∈X.ex\/X.s₀.heap.objs.size<=it) (h2:∀ x c,X.env.cells.lookup x=some c->c≠it) (h3:∀ p∈X.pn++pins,p.1≠it):Inv X pins σ H { s with heap:=h',toks:=t' }:=by
 have nit:∀ b u,H b=some u->b≠it:=fun b u e z=>by grind
 refine I.step (ch:=[it]) (fun b hb=>?_) (fun b o _ _ hc e _=>k b o (fun z=>hc (by simp [z])) e) (fun b o _ _ hc e _=>⟨_,k b o (fun z=>hc (by simp [z])) e⟩) (fun _ _ _ _ n=>n)
  (fun b o hc e=>⟨o,k b o (fun z=>hc (by simp [z])) e⟩) (fun _ _ e=>e) (fun _ _ _ e=>e) (fun b ps e=>⟨#[],by simp_all⟩) (fun m hm=>?_) (fun b u e=>?_) I.bare
 . have e:=by simpa using hb
   subst e;exact⟨h1,hL,h2,h3⟩
 . obtain⟨o,es,ep,ho,r⟩:=hm
   exact⟨o,es,ep,k _ o (Wbp hL) ho,r⟩
 . refine(I.hok b u e).stay (fun c v hc q=>k c v ?_ q) (fun _ q=>q) fun _ _ q=>q
   rcases hc with z|z
   . rw [z];exact nit b u e
   . exact nit c _ z
theorem Inv.tok(I:Inv X pins σ H s)(t):Inv X pins σ H { s with toks:=t }:=I.un Un.refl I.hok
theorem Inv.kept{t':Nat}(I:Inv X pins σ H s)(k:∀ b u,s.heap.get? b=some u->h'.get? b=some u):Inv X pins σ H { s with heap:=h',toks:=t' }:=I.un (Un.kept k) (I.hok.kept k)
theorem Inv.laid{a:Addr}{o:HO}{t':Nat}(I:Inv X pins σ H s)(k:∀ b u,s.heap.get? b=some u->h'.get? b=some u)(c:s.heap.objs.size<=a)(e:zV X.prog X.w (upd H a o) h' a o) :
 Inv X pins σ (upd H a o) { s with heap:=h',toks:=t' }:=I.un (Un.laid k c (I.hok.fresh c)) (I.hok.laid k c e)
theorem Inv.write{x e:Addr}{o:HO}{t':Nat}(I:Inv X pins σ H s)(h:Mut (H x))(g:e=x\/H e=some (.own x))(k:∀ b u,b≠e->s.heap.get? b=some u->h'.get? b=some u)(a:∃ u,h'.get? e=some u)
 (c:zV X.prog X.w (upd H x o) h' x o):Inv X pins σ (upd H x o) { s with heap:=h',toks:=t' }:=I.un (Un.write h g k a) (I.hok.write h g k a c)
theorem Inv.pins_of{pins':List (Addr×Obj)}(I:Inv X pins σ H s)(h:∀ p∈pins',s.heap.get? p.1=some p.2/\H p.1=none/\p.1≠X.env.locals/\p.1∉X.fs/\∀ v,p.2.data≠.cell v):Inv X pins' σ H s:=
 ⟨I.ok,I.os,I.bare,I.base,I.loc,I.cell,I.free,I.freeC,fun p a=>(Ya3.mp a).elim (fun z=>I.pin p (Yai _ z)) (h p),I.hok,I.len⟩
theorem zfg{N:List Str}(c:N.Nodup)(a:N[i]?=some x)(b:N[j]?=some x):i=j:=by
 obtain⟨l,e⟩:=Ya8.mp a;obtain⟨h,g⟩:=Ya8.mp b;exact(WaK c).mp (e.trans g.symm)
theorem zeI(I:Inv X pins σ H s)(hN:X.N.Nodup)(R:X.N[i]?=some x)(B:Loc X.env.scope x)(r:RelV v u)
 (h:∀ s',Inv X pins (σ.set i (some v)) H s'->(∃ a,Heap.SameBut a s.heap s'.heap/\(a=X.env.locals\/X.env.cells.lookup x=some a))->Q () s') (hf:X.fn x=true\/X.env.scope.names.lookup x=some .local:=by first|exact .inl rfl|exact .inr rfl|assumption):wpAny M A (storeName X.env x u) Q E s:=by
 obtain⟨m,hn,hl⟩:=id I.loc;have U:(X.env.scope.kind==.class||(X.env.scope.kind==.module&&X.env.locals != X.env.globals))=false:=by rw [I.ok.kind];rfl
 have G:i < σ.length:=by rw [I.len];exact(Ya8.mp R).1
 have L:=I.cne;have w:∀ {a:Addr} {P:Heap},(∃ o,s.heap.get? a=some o/\H a=none)->Heap.SameBut a s.heap P->HOk X.prog X.w H P:=fun {a P} ha g b ob e=>by
  obtain⟨_,_,Z⟩:=ha;refine(I.hok b ob e).stay (fun c w' C q=>(g.2 c ?_).trans q) (fun _ q=>q) fun _ _ q=>q
  grind
 rcases B with O|O
 . refine wpAny_storeName_local O hn (fun P a0 g=>?_) U
   obtain⟨oL,_,_,a1,_⟩:=id hn;refine h _ ⟨I.ok,I.os,I.bare,⟨fun b o e n J B=>?_,fun b o e n J B=>?_,I.base.free,fun b o e B=>?_,I.base.tups,I.base.frzs,I.base.tbls⟩,⟨_,a0,fun j y v' l F e3=>?_⟩,fun y c e=>?_,I.free,I.freeC,fun p hp=>?_,w ⟨oL,a1,I.free⟩ g,by simpa using I.len⟩ ⟨_,g,.inl rfl⟩
   . exact(g.2 b (Yaf (YaU (YaX e) I.ok.above))).trans (I.base.keep b o e n J B)
   . obtain⟨sl,l⟩:=I.base.slot b o e n J B
     exact⟨sl,(g.2 b (Yaf (YaU (YaX e) I.ok.above))).trans l⟩
   . obtain⟨o',l⟩:=I.base.there b o e B
     exact⟨o',(g.2 b (Yaf (YaU (YaX e) I.ok.above))).trans l⟩
   . by_cases N:j=i
     . subst N
       rw [R] at l;cases l;rw [Yas G] at F;cases F;exact⟨u,r,.inl ⟨O,by simp⟩⟩
     . rw [Yac (Wbp N)] at F
       obtain⟨u',r',q⟩:=hl j y v' l F e3;refine⟨u',r',?_⟩
       rcases q with ⟨k,e⟩|⟨k,c,e,z⟩
       . refine .inl ⟨k,?_⟩
         have:y≠x:=fun e=>N (zfg hN l (e ▸ R))
         simp [this,e]
       . exact .inr ⟨k,c,e,z.sameBut g (L y c e)⟩
   . obtain⟨w',z⟩:=I.cell y c e
     exact⟨w',z.sameBut g (L y c e)⟩
   . obtain⟨e,n,Y,nf,d⟩:=I.pin p hp
     exact⟨(g.2 p.1 Y).trans e,n,Y,nf,d⟩
 . have K:X.fn x=true:=by
    grind
   obtain⟨c,C⟩:=I.ok.has x (.inl O);obtain⟨w',z⟩:=I.cell x c C;refine wpAny_storeName_cell I.ok.kind O C z (fun P S g=>?_)
   obtain⟨oc,a2,a3⟩:=id z;refine h { s with heap:=P } ⟨I.ok,I.os,I.bare,⟨fun b o e n J B=>?_,fun b o e n J B=>?_,I.base.free,fun b o e B=>?_,I.base.tups,I.base.frzs,I.base.tbls⟩,⟨m,hn.sameBut g (Wbp (L x c C)),fun j y v' l F e3=>?_⟩,fun y W e=>?_,I.free,I.freeC,fun p hp=>?_,w ⟨oc,a2,I.freeC x c C⟩ g,by simpa using I.len⟩ ⟨c,g,.inr C⟩
   . exact(g.2 b (Yaf (YaU (YaX e) (I.ok.cab x c K C)))).trans (I.base.keep b o e n J B)
   . obtain⟨sl,l⟩:=I.base.slot b o e n J B
     exact⟨sl,(g.2 b (Yaf (YaU (YaX e) (I.ok.cab x c K C)))).trans l⟩
   . obtain⟨o',l⟩:=I.base.there b o e B
     exact⟨o',(g.2 b (Yaf (YaU (YaX e) (I.ok.cab x c K C)))).trans l⟩
   . by_cases N:j=i
     . subst N
       rw [R] at l;cases l;rw [Yas G] at F;cases F;exact⟨u,r,.inr ⟨.inl O,c,C,S⟩⟩
     . rw [Yac (Wbp N)] at F
       obtain⟨u',r',q⟩:=hl j y v' l F e3;refine⟨u',r',?_⟩
       rcases q with q|⟨k,W,e,z'⟩
       . exact .inl q
       . refine .inr ⟨k,W,e,z'.sameBut g ?_⟩
         rintro rfl
         exact N (zfg hN l (I.ok.inj _ _ _ e C ▸ R))
   . by_cases T:W=c
     . subst T;exact⟨_,S⟩
     . obtain⟨w2,z2⟩:=I.cell y W e
       exact⟨w2,z2.sameBut g T⟩
   . obtain⟨e,n,Y,nf,d⟩:=I.pin p hp
     refine⟨(g.2 p.1 ?_).trans e,n,Y,nf,d⟩
     intro q
     simp_all
theorem zau(I:Inv X pins σ H s)(e:X.N.Nodup)(g:X.N[i]?=some x)(b:Loc X.env.scope x)(r:RelV v u)
 (h:∀ s',Inv X pins (σ.set i (some v)) H s'->Q () s') (a:X.fn x=true\/X.env.scope.names.lookup x=some .local:=by first|exact .inl rfl|exact .inr rfl|assumption):wpAny M A (storeName X.env x u) Q E s:=
 zeI I e g b r (fun s' c _=>h s' c) a
theorem Inv.call'(I:Inv X pins σ H s)(h:s'.os=s.os)(u:Un (frs X.stack) ch H H' s.heap s'.heap)(a:HOk X.prog X.w H' s'.heap)(i:AllBare s'.gens)
 (g:∀ b∈ch,(b∈X.ex\/X.s₀.heap.objs.size<=b)/\b≠X.env.locals/\(∀ x c,X.env.cells.lookup x=some c->c≠b)/\∀ p∈X.pn++pins,p.1≠b):Inv X pins σ H' s':=by
 obtain⟨m,o,j,n,l⟩:=s';have e:=h;subst e;exact I.call u a i g
end
abbrev XK:=Value->Option Addr->Hp->Prop
abbrev St:=List (Option V)
abbrev VK:=V->Hp->Prop
abbrev TE:=St->Hp->VK->Prop
abbrev TT:=St->Hp->(Bool->Hp->Prop)->Prop
abbrev TA:=St->Hp->(List V->Hp->Prop)->Prop
structure Ends where
 nx:St->Hp->Prop
 rt:VK
 bk:St->Hp->Prop:=fun _ _=>False
 ct:St->Hp->Prop:=fun _ _=>False
abbrev TS:=Ends->St->Hp->Prop
variable{pins:List (Addr×Obj)}{s:Shared}{Q:Value->Shared->Prop}{pos pos' p:Pos}{kindOf:Str->Option NameKind}{us:List Value}{X:Cx}{e tg a c b o l:Expr}{σ:St}{es:List Expr}{K:Ybf}{mA mg:Str->Option Value}{kw:List (Str×Value)}{op:CmpOp}{C dx:Addr}{ps:List Str}{body:List Stmt}{fp:List Addr}{fd:FuncData}{te ta:TE}{v:Value}{outer:List Env}{vs xs:List V}{base:Heap}{prog:Program}{scope:Scope}{tb:TS}{n:Nat}{y:V}
def EP(X:Cx)(pins:List (Addr×Obj))(σ : St)(Q:VK)(u:Value)(s':Shared):Prop:=∃ v H',Inv X pins σ H' s'/\RelV v u/\Q v H'
def TP(X:Cx)(pins:List (Addr×Obj))(σ : St)(Q:Bool->Hp->Prop)(b:Bool)(s':Shared):Prop:=∃ H',Inv X pins σ H' s'/\Q b H'
def AP(X:Cx)(pins:List (Addr×Obj))(σ : St)(Q:List V->Hp->Prop)(us:List Value)(s':Shared):Prop:=∃ vs H',Inv X pins σ H' s'/\Vals vs us/\Q vs H'
def SP(X:Cx)(pins:List (Addr×Obj))(D:Ends)(f:Flow)(s':Shared):Prop:=
 match f with
 | .next=>∃ σ' H',Inv X pins σ' H' s'/\D.nx σ' H'
 | .brk=>∃ σ' H',Inv X pins σ' H' s'/\D.bk σ' H'
 | .cont=>∃ σ' H',Inv X pins σ' H' s'/\D.ct σ' H'
 | .ret u=>∃ v σ' H',Inv X pins σ' H' s'/\RelV v u/\D.rt v H'
def PE(X:Cx)(e:Expr)(t:TE):Prop:=
 ∀ (pins:List (Addr×Obj)) (s:Shared) (σ : St) (H:Hp) (Q:VK),Inv X pins σ H s->t σ H Q->wpAny (model X.prog X.w) X.A (eval e X.env) (EP X pins σ Q) X.xe s
def PT(X:Cx)(e:Expr)(t:TT):Prop:=
 ∀ (pins:List (Addr×Obj)) (s:Shared) (σ : St) (H:Hp) (Q:Bool->Hp->Prop),Inv X pins σ H s->t σ H Q->wpAny (model X.prog X.w) X.A (isTrue e X.env (eval e X.env)) (TP X pins σ Q) X.xe s
def PW(X:Cx)(e:Expr)(t:TT):Prop:=
 ∀ (whole:Sem Value) (pins:List (Addr×Obj)) (s:Shared) (σ : St) (H:Hp) (Q:Bool->Hp->Prop),Inv X pins σ H s->t σ H Q->wpAny (model X.prog X.w) X.A (isTrue e X.env whole) (TP X pins σ Q) X.xe s
theorem PW.pt(h:PW X e t):PT X e t:=h _
def PA(X:Cx)(es:List Expr)(t:TA):Prop:=
 ∀ (pos:Pos) (pins:List (Addr×Obj)) (s:Shared) (σ : St) (H:Hp) (Q:List V->Hp->Prop),Inv X pins σ H s->t σ H Q->wpAny (model X.prog X.w) X.A (spliced (backTo pos (starEach es X.env))) (AP X pins σ Q) X.xe s
def PS(X:Cx)(st:Stmt)(t:TS):Prop:=
 ∀ (pins:List (Addr×Obj)) (s:Shared) (σ : St) (H:Hp) (D:Ends),Inv X pins σ H s->t D σ H->wpAny (model X.prog X.w) X.A (exec st X.env) (SP X pins D) X.xe s
def PSs(X:Cx)(st:List Stmt)(t:TS):Prop:=
 ∀ (pins:List (Addr×Obj)) (s:Shared) (σ : St) (H:Hp) (D:Ends),Inv X pins σ H s->t D σ H->wpAny (model X.prog X.w) X.A (execs st X.env) (SP X pins D) X.xe s
theorem thn{t:Sem α}{Q Q':α->Shared->Prop}(h:wpAny M A t Q E s)(b:∀ a s,Q a s->Q' a s):wpAny M A t Q' E s:=wpAny_mono h b fun _ _ x=>x
section
def tVar(i:Nat):TE:=fun σ H Q=>∃ v,σ[i]?=some (some v)/\Q v H
def tC(v:V):TE:=fun _ H Q=>Q v H
theorem jx(A:X.N[i]?=some x)(q:Vis X.env.scope x)(n:(x==("__debug__" : Str))=false:=by decide)(j:(x==("__classdict__" : Str))=false:=by decide):PE X (.Name x pos) (tVar i):=by
 intro o s σ H Q I h;obtain⟨v,e,h⟩:=h;obtain⟨m,z,y⟩:=I.loc;obtain⟨u,r,l⟩:=y i x v A e q;have g:EP X _ σ Q u s:=⟨v,H,I,r,h⟩
 rcases l with ⟨b,w⟩|⟨b,c,p,a⟩
 . exact wpAny_Name (wpAny_loadName_local I.ok.kind b z w g) n
 . rcases b with b|b
   . exact wpAny_Name (wpAny_loadName_cell I.ok.kind b p a g) n
   . exact wpAny_Name (wpAny_loadName_free I.ok.kind b p a g j) n
theorem jP{i}:PE X (.Constant (.int i) j pos) (tC (.int i)):=fun _ _ _ H _ I h=>wpAny_Constant_int ⟨.int i,H,I.tok _,⟨_,rfl⟩,h⟩
theorem zgm{b}:PE X (.Constant (.bool b) j pos) (tC (.bl b)):=fun _ _ _ H _ I h=>Constant_bool ⟨.bl b,H,I,rfl,h⟩
theorem zlL:PE X (.Constant .none j pos) (tC .non):=fun _ _ _ H _ I h=>Constant_none ⟨.non,H,I,rfl,h⟩
theorem zgl:PE X (.Constant (.str x) j pos) (tC (.str x)):=fun _ _ _ H _ I h=>Calls.Constant_str ⟨.str x,H,I.tok _,⟨_,rfl⟩,h⟩
def Gl(X:Cx)(x:Str):Prop:=X.env.kindOf x=some .globalImplicit
theorem zbJ(I:Inv X pins σ H s)(a:Gl X x)(b:X.mg x=some u)(h:Q u s)
 (c:(x==("__debug__" : Str))=false:=by decide):wpAny (model X.prog X.w) X.A (eval (.Name x pos) X.env) Q E s:=
 Calls.Name_function_global I.ok.kind a (Calls.loadGlobal_global (by rw [I.ok.glob];exact I.mod.glob.keeps I.bk) b h) c
theorem Jr(I:Inv X pins σ H s)(i:Gl X x)(c:X.mg x=none)(a:bootBuiltins x=some u)(h:Q u s)
 (b:x≠"__name__":=by decide) (g:(x==("__debug__" : Str))=false:=by decide):wpAny (model X.prog X.w) X.A (eval (.Name x pos) X.env) Q E s:=by
 obtain⟨l,j,e⟩:=I.mod.blt;exact Calls.Name_function_global I.ok.kind i (Calls.loadGlobal_builtin (by rw [I.ok.glob];exact I.mod.glob.keeps I.bk) c (by rw [I.ok.blt];exact j.keeps I.bk) ((e x b).trans a) h) g
theorem zgz{v:V}(c:Gl X x)(a:X.mg x=some u)(r:RelV v u)(b:(x==("__debug__" : Str))=false:=by decide):PE X (.Name x pos) (tC v):=
 fun _ _ _ H _ I h=>zbJ I c a ⟨v,H,I,r,h⟩ b
theorem zis{v:V}(hg:Gl X x)(hm:X.mg x=none)(hv:bootBuiltins x=some u)(r:RelV v u)(hn:x≠"__name__":=by decide)(hd:(x==("__debug__" : Str))=false:=by decide):PE X (.Name x pos) (tC v):=
 fun _ _ _ H _ I h=>Jr I hg hm hv ⟨v,H,I,r,h⟩ hn hd
variable{tb:TE}
def PC(X:Cx)(op:CmpOp)(a b:Expr)(t:TE):Prop:=
 ∀ (pins:List (Addr×Obj)) (s:Shared) (σ : St) (H:Hp) (Q:VK),Inv X pins σ H s->t σ H Q->
  wpAny (model X.prog X.w) X.A (eval a X.env) (fun v s₁=>wpAny (model X.prog X.w) X.A (eval b X.env) (fun u s₂=>wpAny (model X.prog X.w) X.A (compareOp op v u) (EP X pins σ Q) X.xe s₂) X.xe s₁) X.xe s
theorem nobehind(b)(h:op≠.In)(e:op≠.NotIn):behindInMarks op b=false:=by
 have a:(op==CmpOp.In)=false:=by grind
 have c:(op==CmpOp.NotIn)=false:=by grind
 cases b<;>simp [behindInMarks,a,c]
def tIsN(ta:TE):TE:=fun σ H Q=>ta σ H fun x H1=>Q (.bl (decide (x=.non))) H1
def zly(ta:TE):TE:=fun σ H Q=>ta σ H fun x H1=>Q (.bl (!decide (x=.non))) H1
theorem RelV.none_iff(r:RelV x v):(v==Value.none)=decide (x=.non):=by
 cases x with
 | non=>cases r;rfl
 | bl _=>cases r;rfl
 | int _=>obtain⟨t,rfl⟩:=r;rfl
 | str _=>obtain⟨t,rfl⟩:=r;rfl
 | byt _=>obtain⟨t,rfl⟩:=r;rfl
 | flt _=>obtain⟨t,rfl⟩:=r;rfl
 | ref _=>cases r;rfl
 | ty _=>cases r;rfl
theorem zhi(l:PE X a ta):PC X .Is a (.Constant .none j pos') (tIsN ta):=by
 intro b s σ H Q I h;refine thn (l _ s σ H _ I h) fun v m ⟨x,e,c,i,g⟩=>?_
 exact Constant_none (is_none_gen ⟨_,e,c,by rw [i.none_iff];rfl,g⟩)
theorem zlK(l:PE X a ta):PC X .IsNot a (.Constant .none j pos') (zly ta):=by
 intro b s σ H Q I h;refine thn (l _ s σ H _ I h) fun v m ⟨x,e,c,i,g⟩=>?_
 exact Constant_none (isnot_none_gen ⟨_,e,c,by rw [i.none_iff];rfl,g⟩)
def tB(t:TE):TT:=fun σ H Q=>t σ H fun x H1=>∃ c,x=.bl c/\Q c H1
theorem zjp(h:PC X op a b t)(g:behindInMarks op b=false:=by first|exact nobehind _ #[1] (by decide)|rfl):PE X (.Compare a [op] [b] pos) t:=fun c s σ H Q I e=>wpAny_Compare1 (h _ s σ H Q I e) g
theorem Zx(h:PC X op a b t)(e:behindInMarks op b=false:=by first|exact nobehind _ #[1] (by decide)|rfl):PT X (.Compare a [op] [b] pos) (tB t):=by
 intro g s σ H Q I n;refine wpAny_isTrue_Compare1 (thn (h _ s σ H _ I n) fun v w e=>thn e fun u p o=>thn o fun c r ⟨x,j,i,l,m⟩=>?_) e
 obtain⟨d,rfl,q⟩:=m;cases l;exact wpAny_truthy_bool ⟨j,i,q⟩
theorem zhV(h:PE X e t)(c:∀ whole,isTrue e X.env whole=(do let v <-whole;standAt e.pos;holding [v] (truthy v)):=by intro _;rfl):PT X e (tB t):=by
 intro a s σ H Q I l;refine isTrue_plain (thn (h _ s σ H _ I l) fun v m ⟨x,g,b,i,j⟩=>?_) (c _)
 obtain⟨d,rfl,q⟩:=j;cases i;exact wpAny_truthy_bool ⟨g,b,q⟩
variable{tA tB':TT}{rest:List Expr}
def tAnd(t u:TT):TT:=fun σ H Q=>t σ H fun c H1=>if c=true then u σ H1 Q else Q false H1
def tOr(t u:TT):TT:=fun σ H Q=>t σ H fun c H1=>if c=true then Q true H1 else u σ H1 Q
def tNot(t:TT):TT:=fun σ H Q=>t σ H fun c H1=>Q (!c) H1
theorem zkL(g:PT X a tA):PW X (.BoolOp .And [a] pos) tA:=by
 intro j b s σ H Q I h;refine isTrue_and (thn (g _ s σ H Q I h) fun c i e=>?_)
 cases c with
 | true=>exact isTrue_and_nil e
 | false=>exact e
theorem zgF(g:PT X a tA):PW X (.BoolOp .Or [a] pos) tA:=by
 intro j b s σ H Q I h;refine isTrue_or (thn (g _ s σ H Q I h) fun c i e=>?_)
 cases c with
 | false=>exact isTrue_or_nil e
 | true=>exact e
theorem zmJ(m:PT X a tA)(o:PW X (.BoolOp .And (b::rest) pos) tB'):PW X (.BoolOp .And (a::b::rest) pos) (tAnd tA tB'):=by
 intro n j s σ H Q I h;refine isTrue_and (thn (m _ s σ H _ I h) fun c l ⟨g,e,i⟩=>?_)
 cases c with
 | true=>exact o n _ l σ g Q e i
 | false=>exact⟨g,e,i⟩
theorem zex(m:PT X a tA)(o:PW X (.BoolOp .Or (b::rest) pos) tB'):PW X (.BoolOp .Or (a::b::rest) pos) (tOr tA tB'):=by
 intro n j s σ H Q I h;refine isTrue_or (thn (m _ s σ H _ I h) fun c l ⟨g,e,i⟩=>?_)
 cases c with
 | true=>exact⟨g,e,i⟩
 | false=>exact o n _ l σ g Q e i
theorem zi7(c:PT X a tA):PT X (.UnaryOp .Not a pos) (tNot tA):=by
 intro b s σ H Q I h;exact isTrue_not (c _ s σ H _ I h)
def zjI(ta tb:TE):TE:=fun σ H Q=>ta σ H fun x H1=>∃ c,x=.bl c/\if c=true then tb σ H1 Q else Q (.bl false) H1
def zl4(ta:TE):TE:=fun σ H Q=>ta σ H fun x H1=>∃ c,x=.bl c/\Q (.bl (!c)) H1
theorem zkx{op}(h:PE X a t):PE X (.BoolOp op [a] pos) t:=fun pins s σ H Q I hw=>BoolOp_one (h _ s σ H Q I hw)
theorem zmf(ha:PE X a ta)(hb:PE X (.BoolOp .And (b::rest) pos) tb):PE X (.BoolOp .And (a::b::rest) pos) (zjI ta tb):=by
 intro pins s σ H Q I h;refine BoolOp_and (thn (ha _ s σ H _ I h) fun v s1 ⟨x,H1,I1,r1,q1⟩=>?_)
 obtain⟨c,rfl,q1⟩:=q1;cases r1;refine wpAny_truthy_bool ?_;cases c with
 | true=>exact hb _ s1 σ H1 Q I1 q1
 | false=>exact⟨.bl _,H1,I1,rfl,q1⟩
theorem zmy(ha:PE X a ta):PE X (.UnaryOp .Not a pos) (zl4 ta):=by
 intro pins s σ H Q I h;refine UnaryOp_ (thn (ha _ s σ H _ I h) fun v s1 ⟨x,H1,I1,r1,q1⟩=>?_)
 obtain⟨c,rfl,q1⟩:=q1;cases r1;exact not_of (wpAny_truthy_bool ⟨.bl _,H1,I1,rfl,q1⟩)
def tIf(t:TT)(ta tb:TE):TE:=fun σ H Q=>t σ H fun c H1=>if c=true then ta σ H1 Q else tb σ H1 Q
theorem zfH(n:PT X c tA)(m:PE X a ta)(o:PE X b tb):PE X (.IfExp c a b pos) (tIf tA ta tb):=by
 intro l s σ H Q I h;refine wpAny_IfExp (thn (n _ s σ H _ I h) fun d j ⟨g,e,i⟩=>?_)
 cases d with
 | true=>exact m _ j σ g Q e i
 | false=>exact o _ j σ g Q e i
end
def SqL(K:Ybf)(H:Hp)(a:Addr)(xs:List V):Prop:=
 Rd H a (.lst xs)\/
  ∃ (o:Obj) (its:Array Value) (n:Nat),K.lookup a=some o/\o.cls=.type "list"/\o.dict=none/\o.data=.seq its n/\its.size<=sizeLine/\Vals xs its.toList
def SqT(K:Ybf)(H:Hp)(a:Addr)(xs:List V):Prop:=
 Rd H a (.tup xs)\/
  ∃ (o:Obj) (its:Array Value) (n:Nat),K.lookup a=some o/\o.cls=.type "tuple"/\o.data=.seq its n/\its.size<=sizeLine/\Vals xs its.toList
noncomputable def absV:Value->Option V
 | .none=>some .non
 | .bool b=>some (.bl b)
 | .int i _=>some (.int i)
 | .str x _=>some (.str x)
 | .bytes b _=>some (.byt b)
 | .float b _=>some (.flt b)
 | .ref a=>some (.ref a)
 | .type n=>some (.ty n)
 | _=>none
theorem RelV.abs(r:RelV x u):absV u=some x:=by
 cases x with
 | non=>cases r;rfl
 | bl _=>cases r;rfl
 | int _=>obtain⟨t,rfl⟩:=r;rfl
 | str _=>obtain⟨t,rfl⟩:=r;rfl
 | byt _=>obtain⟨t,rfl⟩:=r;rfl
 | flt _=>obtain⟨t,rfl⟩:=r;rfl
 | ref _=>cases r;rfl
 | ty _=>cases r;rfl
theorem RelV.inj(r:RelV x u)(q:RelV y u):x=y:=WaU (r.abs.symm.trans q.abs)
theorem Vals.inj:∀ {xs ys:List V} {us:List Value},Vals xs us->Vals ys us->xs=ys
 | _,_,_,.nil,.nil=>rfl
 | _,_,_,.cons r t,.cons r' t'=>by rw [r.inj r',Vals.inj t t']
section
variable{a:Addr}{ys:List V}
theorem SqL.of(h:H a=some (.lst xs)):SqL K H a xs:=.inl (.inl h)
theorem SqT.of(h:H a=some (.tup xs)):SqT K H a xs:=.inl (.inl h)
theorem Inv.list(I:Inv X pins σ H s)(h:SqL X.K H a xs):∃ its:List Value,Vals xs its/\PlainL s.heap a its.toArray/\xs.length<=sizeLine:=by
 rcases h with h|⟨o,its,n,hk,hc,hd,hs,hz,r⟩
 . obtain⟨z,its,n,r,e⟩:=h.ok I.hok
   exact⟨its,r,⟨_,n,e,rfl,rfl,rfl⟩,z⟩
 . refine⟨its.toList,r,⟨o,n,I.kIn a o hk,hc,hd,by simpa using hs⟩,?_⟩
   have e:=r.length;simp only [Array.length_toList] at e
   omega
theorem Inv.tuple(I:Inv X pins σ H s)(h:SqT X.K H a xs):∃ its:List Value,Vals xs its/\IsTup s.heap a its.toArray/\xs.length<=sizeLine:=by
 rcases h with h|⟨o,its,n,hk,hc,hs,hz,r⟩
 . obtain⟨z,its,r,p⟩:=h.ok I.hok
   exact⟨its,r,p,z⟩
 . refine⟨its.toList,r,⟨o,I.kIn a o hk,hc,n,by simpa using hs⟩,?_⟩
   have e:=r.length;simp only [Array.length_toList] at e
   omega
theorem Inv.list_inj(I:Inv X pins σ H s)(h:SqL X.K H a xs)(h':SqL X.K H a ys):xs=ys:=by
 obtain⟨i,r,⟨o,n,e,_,_,d⟩,_⟩:=I.list h;obtain⟨g,j,⟨l,m,c,_,_,b⟩,_⟩:=I.list h';rw [e] at c;cases c;rw [d] at b
 injection b with d1 _
 have:=by simpa using congrArg Array.toList d1
 subst this;exact r.inj j
theorem Inv.tuple_inj(I:Inv X pins σ H s)(h:SqT X.K H a xs)(h':SqT X.K H a ys):xs=ys:=by
 obtain⟨i,r,⟨o,e,_,n,d⟩,_⟩:=I.tuple h;obtain⟨g,j,⟨l,c,_,m,b⟩,_⟩:=I.tuple h';rw [e] at c;cases c;rw [d] at b
 injection b with d1 _
 have:=by simpa using congrArg Array.toList d1
 subst this;exact r.inj j
end
section
variable{st:Stmt}{rest:List Stmt}{t u:TS}
def tNext:TS:=fun D σ H=>D.nx σ H
def tSeq(t u:TS):TS:=fun D σ H=>t { D with nx:=u D } σ H
theorem zey:PSs X [] tNext:=fun _ _ σ H _ I h=>wpAny_execs_nil ⟨σ,H,I,h⟩
theorem zN(g:PS X st t)(i:PSs X rest u):PSs X (st::rest) (tSeq t u):=by
 intro b s σ H D I h;refine wpAny_execs_cons (thn (g _ s σ H _ I h) fun f e q=>?_)
 cases f with
 | next=>
  obtain⟨a,c,j,q⟩:=q;exact i _ e a c D j q
 | ret v=>exact q
 | brk=>exact q
 | cont=>exact q
theorem jh(b:PS X st t):PSs X [st] t:=by
 intro a s σ H D I h;refine wpAny_execs_cons (thn (b _ s σ H D I h) fun f c q=>?_)
 cases f with
 | next=>exact wpAny_execs_nil q
 | ret v=>exact q
 | brk=>exact q
 | cont=>exact q
theorem Inv.quiet(I:Inv X pins σ H s):interactive X.env=false:=by simp [interactive,I.ok.kind]
def zlg(te:TE):TS:=fun D σ H=>te σ H fun _ H1=>D.nx σ H1
theorem jR(he:PE X e te)(hs:swapsWith e none pos.line X.env=pure false:=by rfl):PS X (.Expr e pos) (zlg te):=by
 intro pins s σ H D I h;exact wpAny_Expr_any (thn (he _ s σ H _ I h) fun v s1 zz0=>by obtain⟨x,H1,I1,r1,q1⟩:=zz0;exact⟨σ,H1,I1,q1⟩) I.quiet hs
def tRet(te:TE):TS:=fun D σ H=>te σ H D.rt
theorem JE(he:PE X e te):PS X (.Return (some e) pos) (tRet te):=by
 intro pins s σ H D I h;exact wpAny_Return_some (thn (he _ s σ H _ I h) fun v s1 zz0=>by obtain⟨x,H1,I1,r1,q1⟩:=zz0;exact⟨x,σ,H1,I1,r1,q1⟩)
def tIfS(c:TT)(t u:TS):TS:=fun D σ H=>c σ H fun b H1=>if b=true then t D σ H1 else u D σ H1
theorem zgZ{a b:List Stmt}(n:PT X c tc)(m:PSs X a t)(o:PSs X b u):PS X (.If c a b pos) (tIfS tc t u):=by
 intro j s σ H D I h;refine wpAny_If (thn (n _ s σ H _ I h) fun d i ⟨g,e,l⟩=>?_)
 cases d with
 | true=>exact m _ i σ g D e l
 | false=>exact o _ i σ g D e l
end
abbrev TG:=V->St->Hp->(St->Hp->Prop)->Prop
abbrev TGs:=List V->St->Hp->(St->Hp->Prop)->Prop
def PG(X:Cx)(target:Expr)(t:TG):Prop:=
 ∀ (pins:List (Addr×Obj)) (s:Shared) (σ : St) (H:Hp) (v:V) (u:Value) (Q:St->Hp->Prop),Inv X pins σ H s->RelV v u->t v σ H Q->
  wpAny (model X.prog X.w) X.A (assign target X.env u) (fun _ s'=>∃ σ' H',Inv X pins σ' H' s'/\Q σ' H') X.xe s
def PGs(X:Cx)(ts:List Expr)(t:TGs):Prop:=
 ∀ (pins:List (Addr×Obj)) (s:Shared) (σ : St) (H:Hp) (vs:List V) (us:List Value) (Q:St->Hp->Prop),Inv X pins σ H s->Vals vs us->t vs σ H Q->
  wpAny (model X.prog X.w) X.A (assignInOrder ((assignEach ts X.env).map (·.2)) us) (fun _ s'=>∃ σ' H',Inv X pins σ' H' s'/\Q σ' H') X.xe s
abbrev TSet:=V->V->V->Hp->(Hp->Prop)->Prop
def PSet(X:Cx)(t:TSet):Prop:=
 ∀ (pins:List (Addr×Obj)) (s:Shared) (σ : St) (H:Hp) (o i v:V) (ov iv u:Value) (Q:Hp->Prop),Inv X pins σ H s->RelV o ov->RelV i iv->RelV v u->t o i v H Q->
  wpAny (model X.prog X.w) X.A (setItem ov iv u) (fun _ s'=>∃ H',Inv X pins σ H' s'/\Q H') X.xe s
abbrev TIp:=V->V->Hp->VK->Prop
def PIp(X:Cx)(op:Operator)(t:TIp):Prop:=
 ∀ (pins:List (Addr×Obj)) (s:Shared) (σ : St) (H:Hp) (x y:V) (v u:Value) (Q:VK),Inv X pins σ H s->RelV x v->RelV y u->t x y H Q->
  wpAny (model X.prog X.w) X.A (inplaceOp op v u) (EP X pins σ Q) X.xe s
def zbv(i:Nat):TG:=fun v σ H Q=>Q (σ.set i (some v)) H
theorem jn(g:X.N.Nodup)(c:X.N[i]?=some x)(e:Loc X.env.scope x)(b:X.fn x=true\/X.env.scope.names.lookup x=some .local:=by first|exact .inl rfl|exact .inr rfl|assumption):PG X (.Name x pos) (zbv i):=by
 intro a s σ H v u Q I r h;exact wpAny_assign_Name (zau I g c e r (fun l j=>⟨_,H,j,h⟩) b)
def gNil:TGs:=fun vs σ H Q=>vs=[]/\Q σ H
def zlf(t:TG)(u:TGs):TGs:=fun vs σ H Q=>∃ v r,vs=v::r/\t v σ H fun σ' H'=>u r σ' H' Q
theorem zbT:PGs X [] gNil:=by
 intro a s σ H c b Q I r h;obtain⟨e,h⟩:=h;exact assignInOrder_nil ⟨σ,H,I,h⟩
theorem JZ{e:Expr}{es:List Expr}{u:TGs}(j:PG X e t)(n:PGs X es u)
 (o:(assignEach (e::es) X.env).map (·.2)=assign e X.env::(assignEach es X.env).map (·.2):=by rfl):PGs X (e::es) (zlf t u):=by
 intro b s σ H w y Q I r h;obtain⟨v,q,m,h⟩:=h;subst m;cases r with
 | cons r p=>
  rw [o];refine assignInOrder_cons (thn (j _ s σ H _ _ _ I r h) fun _ i ⟨a,g,c,l⟩=>?_)
  exact n _ i a g _ _ Q c p l
def gTup(K:Ybf)(n:Nat)(t:TGs):TG:=fun v σ H Q=>∃ a xs,v=.ref a/\SqT K H a xs/\xs.length=n/\t xs σ H Q
theorem zce{es:List Expr}{n:Nat}(hc:X.calm=true)(h:PGs X es t)
 (hn:(assignEach es X.env).length=n:=by rfl) (hst:(assignEach es X.env).findIdx? (·.1)=none:=by rfl):PG X (.Tuple es k pos) (gTup X.K n t):=by
 intro pins s σ H v u Q I r hw;obtain⟨a,xs,e1,hq,hl,hw⟩:=hw;subst e1;cases r;obtain⟨its,rv,ht,hz⟩:=I.tuple hq;refine assign_Tuple_tuple (I.ok.hd hc) ht (by simp [hn,<-hl,rv.length]) hst fun h' hx=>?_
 have I1:Inv X pins σ H { s with heap:=h' }:=I.kept (t':=s.toks) fun b o e=>hx b o (Yaf (YaX e)) e
 exact h pins _ σ H xs _ Q I1 (by simpa using rv) hw
def gSub(to ti:TE)(t:TSet):TG:=fun v σ H Q=>to σ H fun o H1=>ti σ H1 fun i H2=>t o i v H2 fun H3=>Q σ H3
theorem zeL{i:Expr}(ho:PE X o to)(hi:PE X i ti)(hs:PSet X t)
 (ha:∀ v,assign (.Subscript o i pos) X.env v=(do
  let ov <-holding [v] (eval o X.env)
  let iv <-holding [v,ov] (eval i X.env)
  standAt pos
  holding [v,ov,iv] (setItem ov iv v)
  release [v,ov,iv] []):=by intro _;rfl):PG X (.Subscript o i pos) (gSub to ti t):=by
 intro pins s σ H v u Q I r h;rw [ha];refine wpAny_bind (wpAny_holding (thn (ho _ s σ H _ I h) fun ov s1 ⟨x,H1,I1,r1,q1⟩=>?_))
 refine wpAny_bind (wpAny_holding (thn (hi _ s1 σ H1 _ I1 q1) fun iv s2 ⟨y,H2,I2,r2,q2⟩=>?_))
 refine wpAny_bind (wpAny_standAt (wpAny_bind (wpAny_holding (thn (hs _ s2 σ H2 x y v ov iv u _ I2 r1 r2 r q2) fun _ s3 ⟨H3,I3,q3⟩=>?_))))
 exact wpAny_release ⟨σ,H3,I3,q3⟩
def tAsg(te:TE)(g:TG):TS:=fun D σ H=>te σ H fun x H1=>g x σ H1 D.nx
theorem zcl{tg e:Expr}{te:TE}(c:PE X e te)(l:PG X tg g)(r:swapsWithSole [tg] e pos.line X.env=pure false:=by rfl)(p:swappedStores [tg] e X.env=pure none:=by rfl)
 (m:(assignEach [tg] X.env).map (·.2)=[assign tg X.env]:=by rfl):PS X (.Assign [tg] e pos) (tAsg te g):=by
 intro a s σ H D I h;refine wpAny_Assign_stores (thn (c _ s σ H _ I h) fun v j ⟨x,i,b,n,o⟩=>?_) r p
 rw [m];exact thn (l _ j σ i x v _ b n o) fun _ u q=>q
theorem jj(r:X.N.Nodup)(l:X.N[i]?=some x)(m:Loc X.env.scope x)(g:PE X e te)(q:swapsWith e (some (.Name x pos')) pos.line X.env=pure false:=by rfl)(b:X.fn x=true\/X.env.scope.names.lookup x=some .local:=by first|exact .inl rfl|exact .inr rfl|assumption) :
 PS X (.Assign [.Name x pos'] e pos) (tAsg te (zbv i)):=by
 intro a s σ H D I h;refine wpAny_Assign_Name (thn (g _ s σ H _ I h) fun v w ⟨y,j,c,n,p⟩=>?_) q
 exact zau c r l m n (fun u o=>⟨_,j,o,p⟩) b
def tPar(i j:Nat)(ta:TA):TS:=fun D σ H=>ta σ H fun vs H1=>∃ v w,vs=[v,w]/\D.nx ((σ.set i (some v)).set j (some w)) H1
theorem zmx{y:Str}{ta:TA}(R:X.calm=true)(F:X.N.Nodup)(K:X.N[i]?=some x)(Y:X.N[j]?=some y)(r:i≠j)
 (A:X.env.scope.names.lookup x=some .local) (E:X.env.scope.names.lookup y=some .local) (O:PA X [a,b] ta)
 (T:swappedStores [.Tuple [.Name x px,.Name y py] kt pt] (.Tuple [a,b] k2 pt2) X.env=pure (some [x,y]))
 (hs:swapsWithSole [.Tuple [.Name x px,.Name y py] kt pt] (.Tuple [a,b] k2 pt2) pos.line X.env=pure false:=by rfl) :
 PS X (.Assign [.Tuple [.Name x px,.Name y py] kt pt] (.Tuple [a,b] k2 pt2) pos) (tPar i j ta):=by
 intro C s σ H D I h;refine wpAny_bind (wpAny_standAt ?_);refine wpAny_bind (wpAny_pure ?_);refine wpAny_bind (Tuple_ (thn (O _ _ s σ H _ I h) fun L m ⟨vs,z,G,M,n⟩=>?_))
 obtain⟨v,w,P,n⟩:=n;subst P;obtain⟨c,g,rfl,W,u⟩:∃ c g,L=[c,g]/\RelV v c/\RelV w g:=by
  cases M with
  | cons p q=>
   cases q with
   | cons N J=>
    cases J;exact⟨_,_,rfl,p,N⟩
 refine wpAny_newObj_type ?_ (by show 2<=sizeLine;decide)
 have S:Inv X _ σ z { m with heap:=m.heap.push { cls:=.type "tuple", data:=.seq [c,g].toArray } }:=G.kept fun b o e=>YaW _ e
 rw [T];refine wpAny_bind (wpAny_pure ?_);refine wpAny_bind (wpAny_rule (wpAny_bind (unpackItems_tuple (items:=#[c,g]) (I.ok.hd R) (IsTup.new _ _) fun h' l=>?_)))
 have U:=S.kept (t':=m.toks) fun b o e=>l b o (Yaf (YaX e)) e
 refine wpAny_bind (assignInOrder_cons (wpAny_bindName (zau U F Y (.inl E) u (fun Z Q=>?_) (.inr E))))
 refine assignInOrder_cons (wpAny_bindName (zau Q F K (.inl A) W (fun s3 B=>assignInOrder_nil (wpAny_pure ?_)) (.inr A)))
 rw [List.set_comm _ _ (Wbp r)] at B;exact⟨_,z,B,n⟩
def tAug(i:Nat)(te:TE)(ti:TIp):TS:=fun D σ H=>∃ x,σ[i]?=some (some x)/\te σ H fun y H1=>ti x y H1 fun z H2=>D.nx (σ.set i (some z)) H2
theorem zj7{op:Operator}(Y:X.N.Nodup)(A:X.N[i]?=some x)(o:Loc X.env.scope x)(C:PE X e te)(F:PIp X op ti)(O:X.fn x=true\/X.env.scope.names.lookup x=some .local:=by first|exact .inl rfl|exact .inr rfl|assumption) :
 PS X (.AugAssign (.Name x pos') op e pos) (tAug i te ti):=by
 intro n s σ H D I h;obtain⟨v,N,h⟩:=h;obtain⟨m,M,T⟩:=I.loc;have p:Vis X.env.scope x:=by rcases o with k|k;exact .inl k;exact .inr (.inl k)
 obtain⟨u,r,l⟩:=T i x v A N p;refine wpAny_AugAssign_Name ?_;have q:wpAny (model X.prog X.w) X.A (eval e X.env) (fun w g=>wpAny (model X.prog X.w) X.A (inplaceOp op u w) (fun r j=>wpAny (model X.prog X.w) X.A (storeName X.env x r) (fun _=>SP X n D .next) X.xe j) X.xe g) X.xe s:=by
  refine thn (C _ s σ H _ I h) fun w G ⟨y,E,B,L,S⟩=>?_
  refine thn (F _ G σ E v y u w _ B r L S) fun z s2 ⟨Z,Q,R,P,K⟩=>?_
  exact zau R Y A o P (fun s3 W=>⟨_,Q,W,K⟩) O
 rcases l with ⟨a,J⟩|⟨a,c,U,b⟩
 . exact wpAny_loadName_local I.ok.kind a M J q
 . rcases a with a|a
   . exact wpAny_loadName_cell I.ok.kind a U b q
   . rcases o with k|k
     . have:X.env.scope.names.lookup x=some _:=a
       simp_all
     . have:X.env.scope.names.lookup x=some _:=a
       simp_all
def zhT(to ti te:TE)(tget:V->V->Hp->VK->Prop)(tip:TIp)(tset:TSet):TS:=fun D σ H=>to σ H fun o H1=>ti σ H1 fun i H2=>tget o i H2 fun x H3=>te σ H3 fun y H4=>tip x y H4 fun z H5=>tset o i z H5 fun H6=>D.nx σ H6
def PGet(X:Cx)(t:V->V->Hp->VK->Prop):Prop:=
 ∀ (pins:List (Addr×Obj)) (s:Shared) (σ : St) (H:Hp) (o i:V) (ov iv:Value) (Q:VK),Inv X pins σ H s->RelV o ov->RelV i iv->t o i H Q->
  wpAny (model X.prog X.w) X.A (getItem ov iv) (EP X pins σ Q) X.xe s
theorem zck{i:Expr}{op:Operator}(ho:PE X o to)(hi:PE X i ti)(hg:PGet X tget)(he:PE X e te)(hp:PIp X op tip)(hs:PSet X tset)
 (ha:∀ ov iv new,augStore i ov iv new=(do holding [new,ov,iv] (setItem ov iv new);release [new,ov,iv] [];pure .next):=by intros;rfl):PS X (.AugAssign (.Subscript o i tpos) op e pos) (zhT to ti te tget tip tset):=by
 intro pins s σ H D I h;refine wpAny_AugAssign_SubscriptAny (thn (ho _ s σ H _ I h) fun ov s1 ⟨x1,H1,I1,r1,q1⟩=>?_) ha
 refine thn (hi _ s1 σ H1 _ I1 q1) fun iv s2 ⟨x2,H2,I2,r2,q2⟩=>?_
 refine thn (hg _ s2 σ H2 x1 x2 ov iv _ I2 r1 r2 q2) fun old s3 ⟨x3,H3,I3,r3,q3⟩=>?_
 refine thn (he _ s3 σ H3 _ I3 q3) fun v s4 ⟨x4,H4,I4,r4,q4⟩=>?_
 refine thn (hp _ s4 σ H4 x3 x4 old v _ I4 r3 r4 q4) fun new s5 ⟨x5,H5,I5,r5,q5⟩=>?_
 exact thn (hs _ s5 σ H5 x1 x2 x5 ov iv new _ I5 r1 r2 r5 q5) fun _ s6 zz0=>by obtain⟨H6,I6,q6⟩:=zz0;exact⟨σ,H6,I6,q6⟩
def ipI(f:Int->Int->Int):TIp:=fun x y H Q=>∃ i j,x=.int i/\y=.int j/\Q (.int (f i j)) H
theorem zcr:PIp X .Add (ipI fun i j=>i+j):=by
 intro a s σ H x y v u Q I e b h;obtain⟨i,j,g,c,q⟩:=h;subst g;subst c;obtain⟨t,rfl⟩:=e;obtain⟨l,rfl⟩:=b;exact iadd_int ⟨.int _,H,I.tok _,⟨_,rfl⟩,q⟩
theorem zkP:PIp X .Sub (ipI fun i j=>i - j):=by
 intro a s σ H x y v u Q I e b h;obtain⟨i,j,g,c,q⟩:=h;subst g;subst c;obtain⟨t,rfl⟩:=e;obtain⟨l,rfl⟩:=b;exact isub_int ⟨.int _,H,I.tok _,⟨_,rfl⟩,q⟩
def zgW(c:TT)(tb:TS):TS:=fun D σ H=>∃ W:Nat->St->Hp->Prop,(∃ m,W m σ H)/\∀ m σ H,W m σ H->
 c σ H fun b H1=>if b=true then ∃ N:St->Hp->Prop,(∀ σ' H',N σ' H'->∃ m',m'<m/\W m' σ' H')/\tb { D with nx:=N,ct:=N,bk:=D.nx } σ H1 else D.nx σ H1
theorem zdU(z:PassesOwn (model X.prog X.w) X.A X.env X.xe)(Q:PT X c tc)(K:PSs X body tb):PS X (.While c body [] pos) (zgW tc tb):=by
 intro A s σ H D I h;obtain⟨W,⟨M,P⟩,i⟩:=h;refine wpAny_While (codeAny_whileLoop (fun n O=>∃ g w,Inv X _ g w O/\W n g w) ?_ M ⟨σ,H,I,P⟩)
 rintro n J ⟨e,y,F,L⟩
 refine wpAny_passesOwn z (thn (Q _ J e y _ F (i n e y L)) fun b G ⟨B,C,m⟩=>?_)
 cases b with
 | true=>
  obtain⟨N,E,m⟩:=m;refine wpAny_passesOwn z (thn (K _ G e B _ C m) fun f R l=>?_)
  cases f with
  | next=>
   obtain⟨a,j,u,p⟩:=l;obtain⟨r,o,q⟩:=E a j p;exact⟨r,o,a,j,u,q⟩
  | cont=>
   obtain⟨a,j,u,p⟩:=l;obtain⟨r,o,q⟩:=E a j p;exact⟨r,o,a,j,u,q⟩
  | brk=>exact l
  | ret v=>exact l
 | false=>
  exact wpAny_execs_nil ⟨e,B,C,m⟩
structure It where
 go:Nat->Hp->Prop
 yld:Nat->Hp->V->Hp->Prop
 stop:Nat->Hp->Prop
def FpOk(X:Cx)(pins:List (Addr×Obj))(H:Hp)(b:Addr):Prop:=
 H b=none/\b≠X.env.locals/\b∉X.fs/\(b∈X.ex\/X.s₀.heap.objs.size<=b)/\(∀ x c,X.env.cells.lookup x=some c->c≠b)/\∀ p∈X.pn++pins,p.1≠b
theorem Inv.fpOk{b:Addr}(I:Inv X pins σ H s)(a:s.heap.objs.size<=b)(g:H' b=none):FpOk X pins H' b:=by
 refine⟨g,Wbe (YaU I.lt a),I.nofs a,.inr (Ya5 I.sz a),fun x c e z=>?_,fun p h z=>?_⟩
 . obtain⟨v,q⟩:=I.cell x c e
   exact absurd (YaU q.lt (by simp_all)) (Yap _)
 . exact absurd (YaU (YaX (I.pin p h).1) (by simp_all)) (Yap _)
structure Turn(P:Program)(w:World)(K:Ybf)(tg:Expr)(J:It)(fp:List Addr)(it:Addr)(tn:Nat->Heap->Prop):Prop where
 mem:it∈fp
 obj:∀ i h,tn i h->∀ b∈fp,∃ o,h.get? b=some o/\∀ v,o.data≠.cell v
 keep:∀ i h h',tn i h->(∀ b∈fp,∀ o,h.get? b=some o->h'.get? b=some o)->tn i h'
 item:∀ (X:Cx),X.prog=P->X.w=w->X.K=K->X.calm=true->∀ (i:Nat) (pins:List (Addr×Obj)) (s:Shared) (σ : St) (H:Hp) (E:Value->Shared->Prop),Inv X pins σ H s->(∀ b∈fp,FpOk X pins H b)->tn i s.heap->J.go i H->
  wpAny (model P w) X.A (pyNext (.ref it)) (fun r s1=>∃ u,r=some u/\
   wpAny (model P w) X.A (letOwnedTupleGo tg (.ref it) u) (fun _ s2=>∃ x H',Inv X pins σ H' s2/\RelV x u/\J.yld i H x H'/\tn (i+1) s2.heap/\∀ b∈fp,H' b=none) E s1) E s
 done:∀ (X:Cx),X.prog=P->X.w=w->X.K=K->X.calm=true->∀ (i:Nat) (pins:List (Addr×Obj)) (s:Shared) (σ : St) (H:Hp) (E:Value->Shared->Prop),Inv X pins σ H s->(∀ b∈fp,FpOk X pins H b)->tn i s.heap->J.stop i H->
  wpAny (model P w) X.A (pyNext (.ref it)) (fun r s1=>r=none/\Inv X pins σ H s1) E s
 self:∀ (A:Around) (i:Nat) (s:Shared) (Q:Value->Shared->Prop) (E:Value->Shared->Prop),tn i s.heap->Q (.ref it) s->wpAny (model P w) A (pyIter (.ref it)) Q E s
abbrev TI:=St->Hp->(It->Hp->Prop)->Prop
def PIE(X:Cx)(pins:List (Addr×Obj))(σ : St)(tg:Expr)(R:It->Hp->Prop)(itv:Value)(s2:Shared):Prop:=
 ∃ (it:Addr) (fp:List Addr) (tn:Nat->Heap->Prop) (J:It) (H':Hp),itv=.ref it/\Inv X pins σ H' s2/\Turn X.prog X.w X.K tg J fp it tn/\tn 0 s2.heap/\(∀ b∈fp,FpOk X pins H' b)/\R J H'
def PI(X:Cx)(tg iter:Expr)(wi:TI):Prop:=
 ∀ (pins:List (Addr×Obj)) (s:Shared) (σ : St) (H:Hp) (R:It->Hp->Prop),Inv X pins σ H s->wi σ H R->
  wpAny (model X.prog X.w) X.A (eval iter X.env) (fun v s1=>wpAny (model X.prog X.w) X.A (pyIter v) (PIE X pins σ tg R) X.xe s1) X.xe s
theorem zcZ{o:Obj}{n:String}{vs:Array Value}{Q:Unit->Shared->Prop}(ho:s.heap.get? it=some o)(hc:o.cls=.type n)(hd:o.data=.fields vs)
 (hn:["enumerate", "zip", "dict_itemiterator", "dict_reverseitemiterator", "odict_iterator", "itertools.zip_longest", "itertools.pairwise"].contains n=false) (hQ:Q () s):wpAny M A (letOwnedTupleGo tg (.ref it) u) Q E s:=by
 cases tg<;>first
  | exact wpAny_pure hQ
  | (cases u <;> first
   | exact wpAny_pure hQ
   | (refine wpAny_bind (wpAny_load ho ?_)
      rw [hc,hd];show wpAny M A (if(["enumerate", "zip", "dict_itemiterator", "dict_reverseitemiterator", "odict_iterator", "itertools.zip_longest", "itertools.pairwise"].contains n&&vs[0]? == some _)=true then _ else _) Q E s
      rw [if_neg (by intro h;rw [hn] at h;cases h)]
      exact wpAny_pure hQ))
def Itl(K:Ybf)(a:Addr):It:=
 ⟨fun i H=>∃ xs x,SqL K H a xs/\xs[i]?=some x,fun i H x H'=>H'=H/\∀ xs,SqL K H a xs->xs[i]?=some x,fun i H=>∃ xs,SqL K H a xs/\xs.length<=i⟩
noncomputable def Itt(K:Ybf)(a:Addr):It:=
 ⟨fun i H=>∃ xs x,SqT K H a xs/\xs[i]?=some x,fun i H x H'=>H'=H/\∀ xs,SqT K H a xs->xs[i]?=some x,fun i H=>∃ xs,SqT K H a xs/\xs.length<=i⟩
def Itr(lo:Int)(n:Nat):It:=⟨fun i _=>i<n,fun i H x H'=>H'=H/\x=.int (lo+i),fun i _=>n<=i⟩
theorem zmA(a it):Turn P w K tg (Itl K a) [it] it (fun i h=>h.IsListIter it a i) where
 mem:=by simp
 obj:=fun i h g b j=>by
  obtain⟨o,e,c,d⟩:=g
  simp_all
 keep:=fun i h N g k=>g.at fun o e=>k it (by simp) o e
 item:=by
  intro X C L r O i m s σ H E I q g z;subst C L r;obtain⟨T,x,n,v⟩:=z;obtain⟨F,M,p,W⟩:=I.list n;obtain⟨u,R,S⟩:=M.get v;obtain⟨B,A,f2,G,y,J⟩:=q it (by simp)
  refine wpAny_pyNext_list_item g p.isList (by simpa using R) fun N l Y=>?_
  have Q:=I.turned (t':=s.toks) (fun b o j e=>(Y.2 b j).trans e) B A G y J
  obtain⟨o,e,c,d⟩:=id l;exact⟨u,rfl,zcZ e c d #[1] ⟨x,H,Q,S,⟨rfl,fun ys Z=>by rw [I.list_inj Z n];exact v⟩,l,fun b j=>(q b j).1⟩⟩
 done:=by
  intro X C L r O i m s σ H E I q g z;subst C L r;obtain⟨T,n,v⟩:=z;obtain⟨F,M,p,W⟩:=I.list n;obtain⟨B,A,f2,G,y,J⟩:=q it (by simp)
  have hl:=M.length;exact wpAny_pyNext_list_end (I.ok.hd O) g p.isList (by simp;omega) fun N U=>⟨rfl,I.turned (fun b o j e=>U b o j e) B A G y J⟩
 self:=fun _ _ _ _ _ g h=>wpAny_pyIter_listiter g h
theorem ziA(a it):Turn P w K tg (Itt K a) [it] it (fun i h=>h.IsTupleIter it a i) where
 mem:=by simp
 obj:=fun i h g b j=>by
  obtain⟨o,e,c,d⟩:=g
  simp_all
 keep:=fun i h N g k=>g.at fun o e=>k it (by simp) o e
 item:=by
  intro X C L r O i m s σ H E I q g z;subst C L r;obtain⟨T,x,n,v⟩:=z;obtain⟨F,M,p,W⟩:=I.tuple n;obtain⟨u,R,S⟩:=M.get v;obtain⟨B,A,f2,G,y,J⟩:=q it (by simp)
  refine wpAny_pyNext_tuple_item g (p) (by simpa using R) fun N l Y=>?_
  have Q:=I.turned (t':=s.toks) (fun b o j e=>(Y.2 b j).trans e) B A G y J
  obtain⟨o,e,c,d⟩:=id l;exact⟨u,rfl,zcZ e c d #[1] ⟨x,H,Q,S,⟨rfl,fun ys Z=>by rw [I.tuple_inj Z n];exact v⟩,l,fun b j=>(q b j).1⟩⟩
 done:=by
  intro X C L r O i m s σ H E I q g z;subst C L r;obtain⟨T,n,v⟩:=z;obtain⟨F,M,p,W⟩:=I.tuple n;obtain⟨B,A,f2,G,y,J⟩:=q it (by simp)
  have hl:=M.length;exact wpAny_pyNext_tuple_end (I.ok.hd O) g (p) (by simp;omega) fun N U=>⟨rfl,I.turned (fun b o j e=>U b o j e) B A G y J⟩
 self:=fun _ _ _ _ _ g h=>wpAny_pyIter_tupleiter g h
theorem zk2(it)(lo)(n):Turn P w K tg (Itr lo n) [it] it (fun i h=>IsRangeIter h it (lo+(i:Nat)*1) ((n:Int) - (i:Nat)) 1) where
 mem:=by simp
 obj:=fun i h st b hb=>by
  simp_all
 keep:=fun i h h' st k=>k it (by simp) _ st
 item:=by
  intro X hP hw hK hc i pins s σ H E I hf st hg;subst hP hw hK;obtain⟨f0,f1,f2,f3,f4,f5⟩:=hf it (by simp)
  have W:=Walks.range (prog:=X.prog) (w:=X.w) (I.ok.hd hc) it lo 1 n;refine W.item i s _ _ hg st fun v h' tk hv st' kk=>?_
  obtain⟨t,rfl⟩:=hv;have I1:Inv X _ σ H { s with heap:=h',toks:=tk }:=I.turned (fun b o hb e=>kk b o (by simpa using hb) e) f0 f1 f3 f4 f5
  refine⟨_,rfl,zcZ st' rfl rfl #[1] ⟨.int _,H,I1,⟨t,?_⟩,⟨rfl,rfl⟩,st',fun b hb=>(hf b hb).1⟩⟩
  rw [Int.mul_one]
 done:=by
  intro X hP hw hK hc i pins s σ H E I hf st hg;obtain⟨f0,f1,f2,f3,f4,f5⟩:=hf it (by simp)
  exact wpAny_pyNext_range_end (I.ok.hd hc) st (by have:n<=i:=hg;lia) fun h' eb=>⟨rfl,I.turned (fun b o hb e=>eb b o hb e) f0 f1 f3 f4 f5⟩
 self:=fun _ _ _ _ _ st h=>wpAny_pyIter_rangeiter st h
def ziy(K:Ybf)(tl:TE):TI:=fun σ H R=>tl σ H fun x H1=>∃ a,x=.ref a/\(∃ xs,SqL K H1 a xs)/\R (Itl K a) H1
def iTup(K:Ybf)(tl:TE):TI:=fun σ H R=>tl σ H fun x H1=>∃ a,x=.ref a/\(∃ xs,SqT K H1 a xs)/\R (Itt K a) H1
theorem zbP(n:PE X l tl):PI X tg l (ziy X.K tl):=by
 intro g s σ H R I h;refine thn (n _ s σ H _ I h) fun v y ⟨x,j,c,m,u⟩=>?_
 obtain⟨a,e,⟨z,w⟩,q⟩:=u;subst e;cases m;obtain⟨i,B,p,A⟩:=c.list w;refine wpAny_pyIter_list p.isList ?_;refine⟨_,_,_,_,j,rfl,c.kept fun b o e=>YaW _ e,zmA a _,⟨_,Yan _ rfl,rfl,rfl⟩,fun b r=>?_,q⟩
 have e:=by simpa using r
 subst e;exact c.fpOk (YaY _) (c.hok.fresh (YaY _))
theorem zmU(n:PE X l tl):PI X tg l (iTup X.K tl):=by
 intro g s σ H R I h;refine thn (n _ s σ H _ I h) fun v y ⟨x,j,c,m,u⟩=>?_
 obtain⟨a,e,⟨z,w⟩,q⟩:=u;subst e;cases m;obtain⟨i,B,p,A⟩:=c.tuple w;refine wpAny_pyIter_tuple (p) ?_;refine⟨_,_,_,_,j,rfl,c.kept fun b o e=>YaW _ e,ziA a _,⟨_,Yan _ rfl,rfl,rfl⟩,fun b r=>?_,q⟩
 have e:=by simpa using r
 subst e;exact c.fpOk (YaY _) (c.hok.fresh (YaY _))
theorem zfQ{lo:Int}{u v:Tok}(I:Inv X pins σ H s)(h1:-(2 ^ 62)<=lo)(h2:lo<2 ^ 62)(h3:-(2 ^ 62)<=hi)(h4:hi<2 ^ 62)
 (q:R (Itr lo (hi - lo).toNat) H):wpAny (model X.prog X.w) X.A (pyIter (.ref s.heap.objs.size)) (PIE X pins σ tg R) E { s with heap:=s.heap.push { cls:=.type "range", data:=.fields #[.int lo t,.int hi u,.int 1 v] },toks:=tk }:=by
 refine wpAny_pyIter_range (IsRange.new ..) (small_one h1 h2 h3 h4) ?_
 have I1:Inv X _ σ H { s with heap:=s.heap.push { cls:=.type "range", data:=.fields #[.int lo t,.int hi u,.int 1 v] },toks:=tk }:=I.kept fun b o e=>YaW _ e
 refine⟨_,_,_,_,H,rfl,
  I1.kept fun b o e=>YaW _ e,zk2 _ lo _,?_,fun b hb=>?_,q⟩
 . have e1:lo+((0:Nat))*1=lo:=by simp
   have e2:(((hi - lo).toNat)) - ((0:Nat))=Builtin.Range.rangeSize lo hi 1:=by rw [rangeSize_one];grind
   rw [e1,e2];exact Yan _ rfl
 . have e:b=(s.heap.push { cls:=.type "range", data:=.fields #[.int lo t,.int hi u,.int 1 v] }).objs.size:=by simpa using hb
   subst e;exact I1.fpOk (YaY _) (I1.hok.fresh (YaY _))
def zlB(ta:TA):TI:=fun σ H R=>ta σ H fun vs H1=>∃ j:Int,vs=[.int j]/\-(2 ^ 62)<=j/\j<2 ^ 62/\R (Itr 0 j.toNat) H1
def zmP(ta:TA):TI:=fun σ H R=>ta σ H fun vs H1=>∃ i j:Int,vs=[.int i,.int j]/\(-(2 ^ 62)<=i/\i<2 ^ 62/\-(2 ^ 62)<=j/\j<2 ^ 62)/\R (Itr i (j - i).toNat) H1
theorem zcF{ta:TA}(m:Gl X "range")(i:X.mg "range" = none)(o:PA X [a] ta)(u:starEach [a] X.env=[(false,eval a X.env)]:=by rfl):PI X tg (.Call (.Name "range" p) [a] [] pos) (zlB ta):=by
 intro c s σ H R I h;refine Call_ (Jr I m i boot_range (Wab (thn (o pos _ s σ H _ I h) fun A y ⟨z,w,g,n,b⟩=>?_) u rfl))
 obtain⟨j,e,b,l,q⟩:=b;subst e;cases n with
 | cons r v=>
  cases v;obtain⟨t,rfl⟩:=r
  exact call_range_1 (zfQ g #[0] #[0] b l (by simp_all))
theorem zmW{ta:TA}(hg:Gl X "range")(hm:X.mg "range" = none)(ha:PA X [a,b] ta)(hs:starEach [a,b] X.env=[(false,eval a X.env),(false,eval b X.env)]:=by rfl)(hs2:starEach [b] X.env=[(false,eval b X.env)]:=by rfl) :
 PI X tg (.Call (.Name "range" p) [a,b] [] pos) (zmP ta):=by
 intro pins s σ H R I h;refine Call_ (Jr I hg hm boot_range (Wab (thn (ha pos _ s σ H _ I h) fun us s1 ⟨vs,H1,I1,r1,q1⟩=>?_) (by rw [hs,hs2]) (by rw [hs2];rfl)))
 obtain⟨i,j,e,⟨q1,q2,q3,q4⟩,q⟩:=q1;subst e;cases r1 with
 | cons r rr=>
  cases rr with
  | cons r' rr=>
   cases rr;obtain⟨t,rfl⟩:=r
   obtain⟨t',rfl⟩:=r';exact call_range_2 (zfQ I1 q1 q2 q3 q4 q)
def tFor(wi:TI)(g:TG)(tb:TS):TS:=fun D σ H=>wi σ H fun J H1=>∃ W:Nat->Nat->St->Hp->Prop,(∃ m,W 0 m σ H1)/\∀ i m σ H,W i m σ H->
 (J.stop i H/\D.nx σ H)\/(J.go i H/\∃ N:St->Hp->Prop,(∀ σ' H',N σ' H'->∃ m',m'<m/\W (i+1) m' σ' H')/\∀ x H',J.yld i H x H'->g x σ H' fun σ2 H2=>tb { D with nx:=N,ct:=N,bk:=D.nx } σ2 H2)
noncomputable def zbl(fp:List Addr)(h:Heap):List (Addr×Obj):=fp.filterMap fun b=>(h.get? b).map fun o=>(b,o)
theorem zbt{b:Addr}{o:Obj}(a:b∈fp)(e:h.get? b=some o):(b,o)∈zbl fp h:=List.mem_filterMap.mpr ⟨b,a,by rw [e];rfl⟩
theorem zhX{p:Addr×Obj}(hp:p∈zbl fp h):p.1∈fp/\h.get? p.1=some p.2:=by
 obtain⟨b,hb,e⟩:=List.mem_filterMap.mp hp;cases q:h.get? b with
 | none=>simp_all
 | some o=>
  rw [q] at e;have e':=WaU e;subst e';exact⟨hb,q⟩
theorem Inv.pinned(I:Inv X pins σ H s)(hf:∀ b∈fp,FpOk X pins H b)(ho:∀ b∈fp,∃ o,s.heap.get? b=some o/\∀ v,o.data≠.cell v):Inv X (pins++zbl fp s.heap) σ H s:=
 I.pins_of fun p hp=>(Ya3.mp hp).elim (fun z=>I.pin p (Yaa _ z)) fun z=>by
  obtain⟨hb,e⟩:=zhX z;obtain⟨f0,f1,f2,_⟩:=hf p.1 hb;obtain⟨o,e',d⟩:=ho p.1 hb
  simp_all
theorem Inv.unpinned(I:Inv X (pins++pl) σ H s):Inv X pins σ H s:=I.pins_of fun p a=>I.pin p (Yaa _ (Yai _ a))
theorem Zi(M:PassesOwn (model X.prog X.w) X.A X.env X.xe)(hc:X.calm=true)(hi:PI X tg iter wi)(hg:PG X tg g)(w:PSs X body tb)
 (hs:∀ x,foldedSetIterable iter X.env x=pure x:=by intro _;rfl):PS X (.For tg iter body [] pos) (tFor wi g tb):=by
 intro c s σ H D I h;refine wpAny_For (thn (hi c s σ H _ I h) fun v s1 h1=>thn h1 fun a0 s2 h2=>?_) hs
 obtain⟨it,P,tn,J,H2,e,I2,T,U,f2,W,⟨m0,w0⟩,F⟩:=h2;subst e;have l:∀ {A:Hp},(∀ b∈P,A b=none)->∀ b∈P,FpOk X c A b:=fun hn b w=>⟨hn b w,(f2 b w).2⟩
 refine codeAny_forLoop_any (fun n s'=>∃ i q A,Inv X c q A s'/\tn i s'.heap/\(∀ b∈P,A b=none)/\W i n q A) ?_ m0 ⟨0,σ,H2,I2,U,fun b w=>(f2 b w).1,w0⟩
 rintro n s3 ⟨i,y,Q,I3,G,O,w3⟩
 rcases F i n y Q w3 with ⟨E,qn⟩|⟨go,N,hN,K⟩
 . refine wpAny_passesOwn M (thn (T.done X rfl rfl rfl hc i c s3 y Q X.xe I3 (l O) G E) fun r s4 ⟨Y,I4⟩=>?_)
   subst Y;exact wpAny_execs_nil ⟨y,Q,I4,qn⟩
 . refine wpAny_passesOwn M (thn (T.item X rfl rfl rfl hc i c s3 y Q X.xe I3 (l O) G go) fun r s4 ⟨u,Y,h4⟩=>?_)
   subst Y;refine wpAny_passesOwn M (thn h4 fun _ s5 ⟨x,H5,I5,r5,y5,C,S⟩=>?_)
   have Z:=I5.pinned (l S) (T.obj _ _ C);refine wpAny_passesOwn M (thn (hg _ s5 y H5 x u _ Z r5 (K x H5 y5)) fun _ s6 ⟨R,H6,I6,q6⟩=>?_)
   refine wpAny_passesOwn M (thn (w _ s6 R H6 _ I6 q6) fun f s7 B=>?_)
   have j:∀ {a:St} {z:Hp},Inv X _ a z s7->N a z->∃ m,m<n/\∃ i q A,Inv X c q A s7/\tn i _/\(∀ b∈P,A b=none)/\W i m q A:=fun {a z} p L=>by
    obtain⟨m',hm,w7⟩:=hN a z L;refine⟨m',hm,i+1,a,z,p.unpinned,T.keep _ _ _ C fun b w o e=>(p.pin (b,o) (Yaa _ (Yaa _ (zbt w e)))).1,fun b w=>?_,w7⟩
    obtain⟨o,e,d⟩:=T.obj _ _ C b w;exact(p.pin _ (Yaa _ (Yaa _ (zbt w e)))).2.1
   cases f with
   | next=>obtain⟨a,z,p,L⟩:=B;exact j p L
   | cont=>obtain⟨a,z,p,L⟩:=B;exact j p L
   | brk=>obtain⟨a,z,p,B⟩:=B;exact⟨a,z,p.unpinned,B⟩
   | ret v=>obtain⟨x7,a,z,p,r7,B⟩:=B;exact⟨x7,a,z,p.unpinned,r7,B⟩
abbrev R2:=V->V->Hp->VK->Prop
def OpR(X:Cx)(f:Value->Value->Sem Value)(r:R2):Prop:=
 ∀ (pins:List (Addr×Obj)) (s:Shared) (σ : St) (H:Hp) (x y:V) (v u:Value) (Q:VK),Inv X pins σ H s->RelV x v->RelV y u->r x y H Q->
  wpAny (model X.prog X.w) X.A (f v u) (EP X pins σ Q) X.xe s
def UnR(X:Cx)(f:Value->Sem Value)(r:V->Hp->VK->Prop):Prop:=
 ∀ (pins:List (Addr×Obj)) (s:Shared) (σ : St) (H:Hp) (x:V) (v:Value) (Q:VK),Inv X pins σ H s->RelV x v->r x H Q->
  wpAny (model X.prog X.w) X.A (f v) (EP X pins σ Q) X.xe s
def zO(X:Cx)(f:Value)(r:List V->Hp->VK->Prop):Prop:=
 ∀ (pins:List (Addr×Obj)) (s:Shared) (σ : St) (H:Hp) (xs:List V) (us:List Value) (Q:VK),Inv X pins σ H s->Vals xs us->r xs H Q->
  wpAny (model X.prog X.w) X.A (call f us) (EP X pins σ Q) X.xe s
def tOp(r:R2)(ta tb:TE):TE:=fun σ H Q=>ta σ H fun x H1=>tb σ H1 fun y H2=>r x y H2 Q
def tUn(r:V->Hp->VK->Prop)(ta:TE):TE:=fun σ H Q=>ta σ H fun x H1=>r x H1 Q
def rI(C:Int->Int->Prop)(g:Int->Int->V):R2:=fun x y H Q=>∃ i j,x=.int i/\y=.int j/\C i j/\Q (g i j) H
def rI0(g:Int->Int->V):R2:=fun x y H Q=>∃ i j,x=.int i/\y=.int j/\Q (g i j) H
def rU(g:Int->V):V->Hp->VK->Prop:=fun x H Q=>∃ i,x=.int i/\Q (g i) H
section
variable{tb tc:TE}
theorem binT(l:PE X a ta)(p:PE X b tb){R:V->V->Hp->Prop}(I:Inv X pins σ H s)
 (h:ta σ H fun x H1=>tb σ H1 fun y H2=>R x y H2)  {f:Value->Value->Sem Value}
 (c:∀ v u s2 x y H2,Inv X pins σ H2 s2->RelV x v->RelV y u->R x y H2->wpAny (model X.prog X.w) X.A (f v u) Q X.xe s2) :
 wpAny (model X.prog X.w) X.A (eval a X.env) (fun v s₁=>wpAny (model X.prog X.w) X.A (eval b X.env) (fun u s₂=>wpAny (model X.prog X.w) X.A (f v u) Q X.xe s₂) X.xe s₁) X.xe s:=by
 refine thn (l _ s σ H _ I h) fun v i ⟨x,H1,e,m,o⟩=>?_
 refine thn (p _ i σ H1 _ e o) fun u s2 ⟨y,H2,n,g,j⟩=>?_
 exact c v u s2 x y H2 n m g j
theorem Jy{op:Operator}(g:OpR X (binaryOp op) r)(m:PE X a ta)(l:PE X b tb):PE X (.BinOp a op b pos) (tOp r ta tb):=by
 intro c s σ H Q I h;exact wpAny_BinOp (binT m l I h fun v u e x y i n j o q=>g _ e σ i x y v u Q n j o q)
theorem ziI{op:UnaryOp}(ho:UnR X (unaryOp op) r)(ha:PE X a ta):PE X (.UnaryOp op a pos) (tUn r ta):=by
 intro pins s σ H Q I h;exact UnaryOp_ (thn (ha _ s σ H _ I h) fun v s1 zz0=>by obtain⟨x,H1,I1,r1,q1⟩:=zz0;exact ho _ s1 σ H1 x v Q I1 r1 q1)
theorem opI{f:Value->Value->Sem Value}{C:Int->Int->Prop}{g:Int->Int->Int}
 (a:∀ (i j:Int) (t u:Tok) (s:Shared) (Q:Value->Shared->Prop) (E:Value->Shared->Prop),C i j->Q (.int (g i j) s.toks) { s with toks:=s.toks+1 }->wpAny (model X.prog X.w) X.A (f (.int i t) (.int j u)) Q E s) :
 OpR X f (rI C fun i j=>.int (g i j)):=by
 intro b s σ H x y v u Q I l c h;obtain⟨i,j,rfl,rfl,m,q⟩:=h;obtain⟨t,rfl⟩:=l;obtain⟨e,rfl⟩:=c;exact a i j t e s _ _ m ⟨.int _,H,I.tok _,⟨_,rfl⟩,q⟩
theorem opI0{f:Value->Value->Sem Value}{g:Int->Int->Int}
 (a:∀ (i j:Int) (t u:Tok) (s:Shared) (Q:Value->Shared->Prop) (E:Value->Shared->Prop),Q (.int (g i j) s.toks) { s with toks:=s.toks+1 }->wpAny (model X.prog X.w) X.A (f (.int i t) (.int j u)) Q E s) :
 OpR X f (rI0 fun i j=>.int (g i j)):=by
 intro b s σ H x y v u Q I l c h;obtain⟨i,j,rfl,rfl,q⟩:=h;obtain⟨t,rfl⟩:=l;obtain⟨e,rfl⟩:=c;exact a i j t e s _ _ ⟨.int _,H,I.tok _,⟨_,rfl⟩,q⟩
theorem opB0{f:Value->Value->Sem Value}{g:Int->Int->Bool}
 (a:∀ (i j:Int) (t u:Tok) (s:Shared) (Q:Value->Shared->Prop) (E:Value->Shared->Prop),Q (.bool (g i j)) s->wpAny (model X.prog X.w) X.A (f (.int i t) (.int j u)) Q E s) :
 OpR X f (rI0 fun i j=>.bl (g i j)):=by
 intro b s σ H x y v u Q I l c h;obtain⟨i,j,rfl,rfl,q⟩:=h;obtain⟨t,rfl⟩:=l;obtain⟨e,rfl⟩:=c;exact a i j t e s _ _ ⟨.bl _,H,I,rfl,q⟩
theorem zc5:OpR X (binaryOp .Add) (rI0 fun i j=>.int (i+j)):=opI0 fun _ _ _ _ _ _ _ q=>add_int q
theorem ZG:OpR X (binaryOp .Sub) (rI0 fun i j=>.int (i - j)):=opI0 fun _ _ _ _ _ _ _ q=>sub_int q
theorem zkC:OpR X (binaryOp .Mod) (rI (fun _ j=>0<j) fun i j=>.int (i%j)):=opI fun i j _ _ _ _ _ a q=>mod_int' #[94] (by rw [Int.fmod_eq_emod_of_nonneg i #[94]];exact q)
theorem unI{f:Value->Sem Value}{g:Int->Int}
 (a:∀ (i:Int) (t:Tok) (s:Shared) (Q:Value->Shared->Prop) (E:Value->Shared->Prop),Q (.int (g i) s.toks) { s with toks:=s.toks+1 }->wpAny (model X.prog X.w) X.A (f (.int i t)) Q E s) :
 UnR X f (rU fun i=>.int (g i)):=by
 intro b s σ H x v Q I c h;obtain⟨i,rfl,q⟩:=h;obtain⟨t,rfl⟩:=c;exact a i t s _ _ ⟨.int _,H,I.tok _,⟨_,rfl⟩,q⟩
theorem zix:UnR X (unaryOp .USub) (rU fun i=>.int (-i)):=unI fun _ _ _ _ _ q=>neg_int q
end
noncomputable def scal:V->V->Bool
 | .non,.non=>true|.non,.int _=>true|.int _,.non=>true|.non,.bl _=>true|.bl _,.non=>true|.non,.str _=>true|.str _,.non=>true
 | .int _,.int _=>true|.bl _,.bl _=>true|.str _,.str _=>true|.byt _,.byt _=>true
 | .int _,.str _=>true|.str _,.int _=>true|.bl _,.str _=>true|.str _,.bl _=>true
 | _,_=>false
def rEq:R2:=fun x y H Q=>scal x y=true/\Q (.bl (decide (x=y))) H
def rNe:R2:=fun x y H Q=>scal x y=true/\Q (.bl (!decide (x=y))) H
theorem zgb{i:Int}:decide (V.int i=V.int j)=(i==j):=by
 rw [Bool.eq_iff_iff]
 simp
theorem zgU{i:Bool}:decide (V.bl i=V.bl j)=(i==j):=by
 rw [Bool.eq_iff_iff]
 simp
theorem zen{i:Str}:decide (V.str i=V.str j)=(i==j):=by
 rw [Bool.eq_iff_iff]
 simp
theorem zeG{i:Array UInt8}:decide (V.byt i=V.byt j)=(i.toList==j.toList):=by
 rw [Bool.eq_iff_iff]
 simp_all
section
variable{tb tc:TE}
theorem zM{Q:VK}(I:Inv X pins σ H s)(q:Q (.bl k) H)(e:k=k'):EP X pins σ Q (.bool k') s:=by
 subst e;exact⟨.bl k,H,I,rfl,q⟩
theorem zf5:OpR X (compareOp .Eq) rEq:=by
 intro g s σ H x y v u Q I e a h;obtain⟨c,q⟩:=h;cases x with
 | non=>
  cases e;cases y with
  | non=>cases a;exact PySem.EqNone.eq_none_none (zM I q (by simp))
  | bl j=>cases a;exact PySem.EqNone.eq_none_bool (zM I q (by simp))
  | int j=>obtain⟨b,rfl⟩:=a;exact PySem.EqNone.eq_none_int (zM I q (by simp))
  | str j=>obtain⟨b,rfl⟩:=a;exact PySem.EqNone.eq_none_str (zM I q (by simp))
  | _=>exact absurd (show false=true from c) Yal
 | bl i=>
  cases e;cases y with
  | non=>cases a;exact PySem.EqNone.eq_bool_none (zM I q (by simp))
  | bl j=>cases a;exact eq_bool (zM I q zgU)
  | str j=>obtain⟨b,rfl⟩:=a;exact PySem.EqMixed.eq_bool_str (zM I q (by simp))
  | _=>exact absurd (show false=true from c) Yal
 | int i=>
  obtain⟨t,rfl⟩:=e;cases y with
  | non=>cases a;exact PySem.EqNone.eq_int_none (zM I q (by simp))
  | int j=>obtain⟨b,rfl⟩:=a;exact eq_int (zM I q zgb)
  | str j=>obtain⟨b,rfl⟩:=a;exact PySem.EqMixed.eq_int_str (zM I q (by simp))
  | _=>exact absurd (show false=true from c) Yal
 | str i=>
  obtain⟨t,rfl⟩:=e;cases y with
  | non=>cases a;exact PySem.EqNone.eq_str_none (zM I q (by simp))
  | bl j=>cases a;exact PySem.EqMixed.eq_str_bool (zM I q (by simp))
  | int j=>obtain⟨b,rfl⟩:=a;exact PySem.EqMixed.eq_str_int (zM I q (by simp))
  | str j=>obtain⟨b,rfl⟩:=a;exact eq_str (zM I q zen)
  | _=>exact absurd (show false=true from c) Yal
 | byt i=>
  obtain⟨t,rfl⟩:=e;cases y with
  | byt j=>obtain⟨b,rfl⟩:=a;exact PySem.W.eq_bytes (zM I q zeG)
  | _=>exact absurd (show false=true from c) Yal
 | _=>cases y<;>exact absurd (show false=true from c) Yal
theorem zfd:OpR X (compareOp .NotEq) rNe:=by
 intro g s σ H x y v u Q I e a h;obtain⟨c,q⟩:=h;cases x with
 | non=>
  cases e;cases y with
  | non=>cases a;exact PySem.EqNone.ne_none_none (zM I q (by simp))
  | bl j=>cases a;exact PySem.EqNone.ne_none_bool (zM I q (by simp))
  | int j=>obtain⟨b,rfl⟩:=a;exact PySem.EqNone.ne_none_int (zM I q (by simp))
  | str j=>obtain⟨b,rfl⟩:=a;exact PySem.EqNone.ne_none_str (zM I q (by simp))
  | _=>exact absurd (show false=true from c) Yal
 | bl i=>
  cases e;cases y with
  | non=>cases a;exact PySem.EqNone.ne_bool_none (zM I q (by simp))
  | bl j=>cases a;exact ne_bool (zM I q (congrArg not zgU))
  | str j=>obtain⟨b,rfl⟩:=a;exact PySem.EqMixed.ne_bool_str (zM I q (by simp))
  | _=>exact absurd (show false=true from c) Yal
 | int i=>
  obtain⟨t,rfl⟩:=e;cases y with
  | non=>cases a;exact PySem.EqNone.ne_int_none (zM I q (by simp))
  | int j=>obtain⟨b,rfl⟩:=a;exact ne_int (zM I q (congrArg not zgb))
  | str j=>obtain⟨b,rfl⟩:=a;exact PySem.EqMixed.ne_int_str (zM I q (by simp))
  | _=>exact absurd (show false=true from c) Yal
 | str i=>
  obtain⟨t,rfl⟩:=e;cases y with
  | non=>cases a;exact PySem.EqNone.ne_str_none (zM I q (by simp))
  | bl j=>cases a;exact PySem.EqMixed.ne_str_bool (zM I q (by simp))
  | int j=>obtain⟨b,rfl⟩:=a;exact PySem.EqMixed.ne_str_int (zM I q (by simp))
  | str j=>obtain⟨b,rfl⟩:=a;exact ne_str (zM I q (congrArg not zen))
  | _=>exact absurd (show false=true from c) Yal
 | byt i=>
  obtain⟨t,rfl⟩:=e;cases y with
  | byt j=>obtain⟨b,rfl⟩:=a;exact PySem.W.ne_bytes (zM I q (congrArg not zeG))
  | _=>exact absurd (show false=true from c) Yal
 | _=>cases y<;>exact absurd (show false=true from c) Yal
theorem zgq:OpR X (compareOp .Lt) (rI0 fun i j=>.bl (decide (i<j))):=opB0 fun _ _ _ _ _ _ _ q=>lt_int q
theorem zii:OpR X (compareOp .LtE) (rI0 fun i j=>.bl (decide (i<=j))):=opB0 fun _ _ _ _ _ _ _ q=>le_int q
theorem zhB:OpR X (compareOp .Gt) (rI0 fun i j=>.bl (decide (j<i))):=opB0 fun _ _ _ _ _ _ _ q=>gt_int q
theorem zkT:OpR X (compareOp .GtE) (rI0 fun i j=>.bl (decide (j<=i))):=opB0 fun _ _ _ _ _ _ _ q=>ge_int q
theorem zjQ:OpR X (compareOp .IsNot) (fun x y H Q=>y=.non/\Q (.bl (!decide (x=.non))) H):=by
 intro a s σ H x y v u Q I c b h;obtain⟨rfl,q⟩:=h;cases b;refine isnot_none_gen (zM I q ?_);cases x<;>first
  | (rfl)
  | (obtain⟨t,rfl⟩:=c;rfl)
theorem OpR.or(h:OpR X f r)(h':OpR X f r'):OpR X f (fun x y H Q=>r x y H Q\/r' x y H Q):=by
 intro b s σ H x y v u Q I c a q
 rcases q with q|q
 . exact h _ s σ H x y v u Q I c a q
 . exact h' _ s σ H x y v u Q I c a q
theorem nomark(b)(h:op≠.In:=by decide)(e:op≠.NotIn:=by decide):behindInMarks op b=false:=by
 have a:(op==CmpOp.In)=false:=by grind
 have c:(op==CmpOp.NotIn)=false:=by grind
 cases b<;>simp [behindInMarks,a,c]
theorem zkA(g:OpR X (compareOp op) r)(n:PE X a ta)(m:PE X b tb)(i:behindInMarks op b=false):PE X (.Compare a [op] [b] pos) (tOp r ta tb):=by
 intro c s σ H Q I h;exact wpAny_Compare1 (binT n m I h fun v u e x y j o l p q=>g _ e σ j x y v u Q o l p q) i
def zat(t:TE):TT:=fun σ H Q=>t σ H fun x H'=>∃ k,x=.bl k/\Q k H'
theorem zbH(n:OpR X (compareOp op) r)(B:PE X a ta)(A:PE X b tb)(o:behindInMarks op b=false):PT X (.Compare a [op] [b] pos) (zat (tOp r ta tb)):=by
 intro g s σ H Q I h;refine wpAny_isTrue_Compare1 (thn (B _ s σ H _ I h) fun v p ⟨x,m,i,w,K⟩=>thn (A _ p σ m _ i K) fun u l ⟨y,F,J,E,q⟩=>
  thn (n _ l σ F x y v u _ J w E q) fun c M ⟨z,G,L,C,k,e,j⟩=>?_) o
 subst e;cases C;exact wpAny_truthy_bool ⟨G,L,j⟩
def zfZ(r r':R2)(ta tb tc:TE):TE:=fun σ H Q=>ta σ H fun x H1=>tb σ H1 fun y H2=>r x y H2 fun z H3=>∃ k,z=.bl k/\
 (if k=true then tc σ H3 fun w' H4=>r' y w' H4 Q else Q (.bl false) H3)
theorem zmS(A:OpR X (compareOp op) r)(g:OpR X (compareOp op') r')(N:PE X a ta)(M:PE X b tb)(hc:PE X c tc)
 (C:lastMarks [op,op'] [b,c]=false:=by with_unfolding_all rfl):PT X (.Compare a [op,op'] [b,c] pos) (zat (zfZ r r' ta tb tc)):=by
 intro n s σ H Q I h;refine isTrue_chain (thn (N _ s σ H _ I h) fun v F ⟨x,q,o,L,Z⟩=>test_link (thn (M _ F σ q _ o Z) fun u p ⟨y,U,Y,j,G⟩=>
  thn (A _ p σ U x y v u _ Y L j G) fun d E ⟨z,l,m,R,k,e,i⟩=>?_)) C
 subst e;cases R;refine wpAny_truthy_bool ?_;cases k with
 | false=>
  obtain⟨k',e',B⟩:=i;cases e';exact ite_ff ⟨l,m,B⟩
 | true=>
  refine ite_tt (test_last (thn (hc _ E σ l _ m i) fun S s4 ⟨z',H4,P,O,q4⟩=>thn (g _ s4 σ H4 y z' u S _ P j O q4) fun d' s5 ⟨z2,T,J,W,k2,w,K⟩=>?_))
  subst w;cases W;exact wpAny_truthy_bool ⟨T,J,K⟩
theorem Jq:(sizeLine:Nat)<2 ^ 63:=by rw [sizeLine_eq];decide
theorem zk7:OpR X (binaryOp .Add) (fun x y H Q=>∃ i j,x=.str i/\y=.str j/\i.length+j.length<=sizeLine/\Q (.str (i++j)) H):=by
 intro a s σ H x y v u Q I g b h;obtain⟨i,j,rfl,rfl,c,q⟩:=h;obtain⟨t,rfl⟩:=g;obtain⟨e,rfl⟩:=b;exact add_str (fun e l=>⟨.str _,H,I.tok _,⟨_,rfl⟩,q⟩) c
theorem Jj(r:Vals [x] us):∃ u,us=[u]/\RelV x u:=by
 cases r with
 | cons r1 r2=>cases r2;exact⟨_,rfl,r1⟩
theorem zca(r:Vals [x,y] us):∃ u w',us=[u,w']/\RelV x u/\RelV y w':=by
 cases r with
 | cons a b=>
  cases b with
  | cons c e=>cases e;exact⟨_,_,rfl,a,c⟩
theorem zlV:zO X (.builtin "abs") (fun xs H Q=>∃ i,xs=[.int i]/\Q (.int (if i<0 then -i else i)) H):=by
 intro a s σ H xs b Q I r h;obtain⟨i,rfl,q⟩:=h;obtain⟨u,rfl,t,rfl⟩:=Jj r;exact call_abs_int fun u c=>⟨.int _,H,I.tok _,⟨_,rfl⟩,q⟩
theorem zjD(c:X.calm=true):zO X (.builtin "max") (fun xs H Q=>∃ i j,xs=[.int i,.int j]/\Q (.int (if j > i then j else i)) H):=by
 intro b s σ H xs m Q I r h;obtain⟨i,j,rfl,q⟩:=h;obtain⟨u,e,rfl,⟨t,rfl⟩,⟨l,rfl⟩⟩:=zca r;refine max_two_ints (I.ok.hd c) fun g n k=>⟨_,H,I.kept k,?_,q⟩
 by_cases a:j > i
 . rw [if_pos a,if_pos a];exact⟨_,rfl⟩
 . rw [if_neg a,if_neg a];exact⟨_,rfl⟩
theorem zjh(c:X.calm=true):zO X (.builtin "min") (fun xs H Q=>∃ i j,xs=[.int i,.int j]/\Q (.int (if j<i then j else i)) H):=by
 intro b s σ H xs m Q I r h;obtain⟨i,j,rfl,q⟩:=h;obtain⟨u,e,rfl,⟨t,rfl⟩,⟨l,rfl⟩⟩:=zca r;refine min_two_ints (I.ok.hd c) fun g n k=>⟨_,H,I.kept k,?_,q⟩
 by_cases a:j<i
 . rw [if_pos a,if_pos a];exact⟨_,rfl⟩
 . rw [if_neg a,if_neg a];exact⟨_,rfl⟩
end
structure ObjM(h:Heap)(x dx C:Addr)(mA:Str->Option Value):Prop where
 obj:h.get? x=some (PySem.W.instObj C dx)
 ns:h.Ns1 dx mA
 ne:dx≠x
theorem zhN(n:h.Ns1 dx mA):∃ od,h.get? dx=some od/\∀ name,PySem.W.lookIn name od=some (mA name):=by
 obtain⟨o,es,ep,ho,hd,hk,_,hm⟩:=n;refine⟨o,ho,fun name=>?_⟩
 have e:=hm name;unfold nsFind findBy at e;rw [<-Array.find?_toList] at e;unfold PySem.W.lookIn;rw [hd];dsimp only
 split
 . rename_i y q
   rw [q] at e;exact congrArg some e
 . rename_i q
   rw [q] at e;have a:es.toList.any (·.refKey)=false:=by
    rw [List.any_eq_false];intro y hy;obtain⟨z,t,hkey⟩:=hk y (Array.mem_toList_iff.mp hy)
    simp [DictEntry.refKey,hkey]
   have a':¬es.toList.any (·.refKey)=true:=by rw [a];exact Yal
   rw [if_neg a'];exact congrArg some e
theorem ObjM.look(I:ObjM h x dx C mA):∃ od,PySem.W.InstAt h x (PySem.W.instObj C dx) C (some od)/\∀ name,PySem.W.lookIn name od=some (mA name):=
 let ⟨od,ho,hl⟩:=zhN I.ns
 ⟨od,⟨I.obj,rfl,rfl,ho⟩,hl⟩
section
variable{x f:Addr}{name:Str}
theorem zkS(X:K.In s.heap)(I:ObjM s.heap x dx C mA)(hg:PySem.W.plainGet K C name=true)(hh:PySem.W.hasDictIn K C=true)
 (ha:PySem.W.findIn K (.ref C) name=some none) (hv:mA name=some v) (hv':PySem.W.handedIn v=true) (h:Q v { s with toks:=s.toks+1 }) :
 wpAny (model prog w) A (getAttr (.ref x) name expr) Q E s:=by
 obtain⟨od,J,hl⟩:=I.look;exact PySem.W.get_value X J (PySem.W.plainGet_of hg).1 (PySem.W.findObj_own hh ha rfl (by rw [hl,hv])) hv' h
theorem zhS{Q:Unit->Shared->Prop}(X:K.In s.heap)(I:ObjM s.heap x dx C mA)
 (hs:PySem.W.findIn K (.ref C) "__setattr__" = some (some (.builtin "object.__setattr__"))) (hp:PySem.W.plainOver K C=true) (ht:PySem.W.takerIn K C name=some none) (hh:PySem.W.hasDictIn K C=true)
 (hw:PySem.Within mA ns) (hsz:ns.length<=sizeLine)
 (h:∀ h',ObjM h' x dx C (fun y=>if y=name then some v else mA y)->Heap.SameBut dx s.heap h'->Q () { s with heap:=h',toks:=s.toks+2 }) :
 wpAny (model prog w) A (setAttr (.ref x) name v) Q E s:=by
 obtain⟨od,J,hl⟩:=I.look;refine PySem.W.set_plain X J hs (PySem.W.osa_open (s:={ s with toks:=s.toks+1 }) (r:=none) X J hp ht fun b=>?_)
 obtain⟨cd,hc,hd'⟩:=PySem.W.any_some hh;have hx:s.heap.get? x=some ⟨.ref C,some dx,.plain,#[]⟩:=I.obj;refine wpAny_bind (wpAny_pure (wpAny_bind (wpAny_bind (wpAny_loadPart hx (wpAny_bind (PySem.W.Looks.here (s:={ s with toks:=s.toks+1 }) (PySem.W.looks_clsIn X hc) ?_))))))
 rw [hd'];refine wpAny_pure (a:=some dx) (wpAny_bind (wpAny_pure (wpAny_bind ?_)));refine wpAny_nsSet1 (s:={ s with toks:=s.toks+1 }) I.ns fun h' hn2 hs2=>?_
 obtain⟨oD,esD,epD,hoD,hdD,hcD⟩:=hn2.count (PySem.Within.cons name v hw);refine wpAny_bind (wpAny_lookBehind hoD (by rw [hdD];exact pastItsLine_dict (Ya5 hcD (by rw [List.length_cons];omega))) ?_)
 exact wpAny_pure (h _ ⟨(hs2.2 _ (Wbp I.ne)).trans I.obj,hn2,I.ne⟩ hs2)
theorem zhf{vs:List Value}(X:K.In s.heap)(c:PySem.W.makesIn K C=true)
 (e:PySem.W.findIn K (.ref C) "__init__" = some (some (.ref f))) (b:PySem.W.typeIn K (.ref f)=some (.type "function"))
 (h:codeAny (model prog w) (A.under (.builtin "type.__call__" ⟨.ref C::vs,kw⟩)) (.call (.ref f) ⟨.ref (s.heap.objs.size+1)::vs,kw⟩) (PySem.W.InitBack (s.heap.objs.size+1) R)
  { s with heap:=(s.heap.push PySem.W.emptyDict).push (PySem.W.instObj C s.heap.objs.size) }) :
 codeAny (model prog w) A (.call (.ref C) ⟨vs,kw⟩) R s:=PySem.W.make_core (PySem.W.makes_of X c) (PySem.W.looks_findIn X e) (fun a=>PySem.W.bind_fn X _ b) (.inl rfl) h
end
noncomputable def putF(f:Str)(v:V):List (Str×V)->List (Str×V)
 | []=>[(f,v)]
 | (g,x)::r=>if g=f then(g,v)::r else(g,x)::putF f v r
theorem zf9(f g:Str)(v:V):∀ fs:List (Str×V),(putF f v fs).lookup g=if g=f then some v else fs.lookup g
 | [] => by
  show List.lookup g [(f,v)]=_
  by_cases h:g=f
  . simp_all
  . have hb:=beq_eq_false_iff_ne.mpr h
    simp [List.lookup,hb,if_neg h]
 | (k, x) :: r => by
  have ih:=zf9 f g v r;rw [show putF f v _=(if k=f then(k,v)::r else(k,x)::putF f v r) from rfl]
  by_cases hk:k=f
  . rw [if_pos hk]
    by_cases h:g=k
    . simp_all
    . have hb:=beq_eq_false_iff_ne.mpr h
      simp [List.lookup,hb,if_neg (fun e:g=f=>h (e.trans hk.symm))]
  . rw [if_neg hk]
    by_cases h:g=k
    . simp_all
    . have hb:=beq_eq_false_iff_ne.mpr h
      simp [List.lookup,hb]
      exact ih
theorem zcy(f:Str)(v:V):∀ fs:List (Str×V),f∈(putF f v fs).map (·.1)/\∀ g,g∈fs.map (·.1)->g∈(putF f v fs).map (·.1)
 | []=>⟨by simp [putF],fun g h=>by simp at h⟩
 | (k, x) :: r => by
  obtain⟨a,b⟩:=zcy f v r;rw [show putF f v _=(if k=f then(k,v)::r else(k,x)::putF f v r) from rfl]
  grind
theorem zea(f:Str)(v:V):∀ fs:List (Str×V),(putF f v fs).length<=fs.length+1
 | []=>by simp [putF]
 | (k, x) :: r => by
  have ih:=zea f v r;rw [show putF f v ((k,x)::r)=(if k=f then(k,v)::r else(k,x)::putF f v r) from rfl]
  by_cases hk:k=f
  . rw [if_pos hk,List.length_cons,List.length_cons];omega
  . rw [if_neg hk,List.length_cons,List.length_cons];omega
theorem RelO.some_of{v:V}{o:Option Value}(r:RelO (some v) o):∃ u,o=some u/\RelV v u:=by
 cases o with
 | none=>exact(r).elim
 | some u=>exact⟨u,rfl,r⟩
theorem zg4{v:V}(r:RelV v u):PySem.W.handedIn u=true:=by
 cases v with
 | non=>cases(r);rfl
 | bl b=>cases(r);rfl
 | int i=>obtain⟨t,e⟩:=(r);cases e;rfl
 | str x=>obtain⟨t,e⟩:=(r);cases e;rfl
 | byt b=>obtain⟨t,e⟩:=(r);cases e;rfl
 | flt b=>obtain⟨t,e⟩:=(r);cases e;rfl
 | ref a=>cases(r);rfl
 | ty n=>cases(r);rfl
section
variable{H':Hp}{a:Addr}{fs fs':List (Str×V)}
theorem zgo(b:HOk P w H h)(e:H a=some (.ins C dx fs)):∃ mA,ObjM h a dx C mA/\(∀ f,RelO (fs.lookup f) (mA f))/\PySem.Within mA (fs.map (·.1))/\fs.length<=1000/\H dx=some (.own a):=by
 obtain⟨d,z,c,g,mA,n,r,q⟩:=(b a _ e);exact⟨mA,⟨g,n,c⟩,r,q,z,d⟩
end
structure Cls(K:Ybf)(C:Addr):Prop where
 pg:PySem.W.plainGet K C Str.empty=true
 hd:PySem.W.hasDictIn K C=true
 po:PySem.W.plainOver K C=true
 sa:PySem.W.findIn K (.ref C) "__setattr__" = some (some (.builtin "object.__setattr__"))
theorem Cls.get(c:Cls K C)(f):PySem.W.plainGet K C f=true:=c.pg
def zQ(K:Ybf)(C:Addr)(f:Str):Prop:=PySem.W.findIn K (.ref C) f=some none
theorem zQ.taker(n:zQ K C f):PySem.W.takerIn K C f=some none:=by
 unfold PySem.W.takerIn;rw [n]
 rfl
section
variable{a:Addr}{fs:List (Str×V)}{f:Str}{v:V}
theorem zlJ{b:Bool}(I:Inv X pins σ H s)(e:H a=some (.ins C dx fs))(c:Cls X.K C)(n:zQ X.K C f)(l:fs.lookup f=some v)
 (h:∀ u s',Inv X pins σ H s'->RelV v u->Q u s'):wpAny (model X.prog X.w) A (getAttr (.ref a) f b) Q E s:=by
 obtain⟨j,O,r,_,_,_⟩:=zgo I.hok e;obtain⟨u,i,g⟩:=RelO.some_of (by rw [<-l];exact r f)
 exact zkS I.kIn O (c.get f) c.hd n i (zg4 g) (h u _ (I.tok _) g)
theorem zhj{Q:Unit->Shared->Prop}(I:Inv X pins σ H s)(e:H a=some (.ins C dx fs))(c:Cls X.K C)(n:zQ X.K C f)(K:fs.length<1000)(w:RelV y u)
 (h:∀ s',Inv X pins σ (upd H a (.ins C dx (putF f y fs))) s'->Q () s'):wpAny (model X.prog X.w) A (setAttr (.ref a) f u) Q E s:=by
 obtain⟨J,O,r,l,_,j⟩:=zgo I.hok e;have B:(fs.map (·.1)).length<=sizeLine:=by rw [YaR,sizeLine_eq];omega
 refine zhS I.kIn O c.sa c.po n.taker c.hd l B fun m i F=>h _ ?_
 have G:∃ o,m.get? dx=some o:=let ⟨o,_,_,e',_⟩:=i.ns;⟨o,e'⟩;refine I.write (by rw [e];exact True.intro) (.inr j) (fun b q v z=>(F.2 b v).trans z) G ?_
 refine⟨by rw [zc O.ne];exact j,?_,O.ne,i.obj,_,i.ns,fun g=>?_,fun g p=>?_⟩
 . have:=zea f y fs;omega
 . rw [zf9]
   by_cases q:g=f
   . rw [if_pos q,if_pos q];exact w
   simp_all
 . by_cases q:g=f
   . rw [q];exact(zcy f y fs).1
   . refine(zcy f y fs).2 g (l g fun z=>p ?_)
     simp_all
theorem Inv.made(I:Inv X pins σ H s):Inv X pins σ (upd (upd H s.heap.objs.size (.own (s.heap.objs.size+1))) (s.heap.objs.size+1) (.ins C s.heap.objs.size []))
 { s with heap:=(s.heap.push PySem.W.emptyDict).push (PySem.W.instObj C s.heap.objs.size) }:=by
 have c:(s.heap.push PySem.W.emptyDict).get? _=some _:=Yan _ rfl;have j:=by
  have:=Yan (s.heap.push PySem.W.emptyDict) (o:=PySem.W.instObj C s.heap.objs.size) rfl;rwa [Wa1] at this
 have h:(s.heap.push _).Ns _ _:=⟨_,#[],_,c,rfl,(fun e i=>absurd i (by simp)),fun _=>rfl⟩
 have g:=I.laid (o:=.own (s.heap.objs.size+1)) (t':=s.toks) (fun b u q=>YaW _ q) (YaY _) ⟨_,c⟩
 refine g.laid (fun b u q=>YaW _ q) (Nat.le_of_eq (Wa1 _ _)) ?_
 have a:s.heap.objs.size≠s.heap.objs.size+1:=Yaf (WaL _);refine⟨by rw [zc a,zf],Wbm _,a,j,_,(Heap.Ns1.of_empty h).at fun o q=>YaW _ q,fun _=>True.intro,fun y l=>absurd rfl l⟩
theorem zjs(a:attributeBase e f env (eval e env)=eval e env)
 (h:wpAny (model prog w) A (eval e env) (fun o s₁=>wpAny (model prog w) A (getAttr o f true) Q E s₁) E s):wpAny (model prog w) A (eval (.Attribute e f pos) env) Q E s:=
 Attribute_any_ h (by rw [arm_eval_Attribute,a])
end
def tFld(K:Ybf)(ta:TE)(f:Str):TE:=fun σ H Q=>ta σ H fun x H1=>∃ a C dx fs v,x=.ref a/\H1 a=some (.ins C dx fs)/\Cls K C/\zQ K C f/\fs.lookup f=some v/\Q v H1
def sFld(K:Ybf)(ta tv:TE)(f:Str):TS:=fun D σ H=>tv σ H fun y H1=>ta σ H1 fun x H2=>∃ a C dx fs,x=.ref a/\H2 a=some (.ins C dx fs)/\Cls K C/\zQ K C f/\fs.length<1000/\
 D.nx σ (upd H2 a (.ins C dx (putF f y fs)))
section
variable{value:Expr}{f:Str}{tpos:Pos}{tv:TE}
theorem jG(j:PE X e ta)(y:attributeBase e f X.env (eval e X.env)=eval e X.env):PE X (.Attribute e f pos) (tFld X.K ta f):=by
 intro b s σ H Q I h;refine zjs y (thn (j _ s σ H _ I h) fun u B ⟨x,m,g,r,a,C,E,F,v,i,p,c,n,l,q⟩=>?_)
 subst i;obtain rfl:u=Value.ref a:=r;exact zlJ g p c n l fun A z w o=>⟨v,m,w,o,q⟩
theorem ZF(r:PE X o ta)(g:PE X value tv)(w:swapsWith value (some (.Attribute o f pos')) pos.line X.env=pure false):PS X (.Assign [.Attribute o f pos'] value pos) (sFld X.K ta tv f):=by
 intro b s σ H D I h;refine plainObj_wpAny_Assign_Attribute (thn (g _ s σ H _ I h) fun u m ⟨y,j,e,v,q⟩=>thn (r _ m σ j _ e q) fun z G ⟨x,K,E,B,a,C,L,M,i,A,c,n,l,p⟩=>?_) w
 subst i;obtain rfl:z=Value.ref a:=B;exact zhj E A c n l v fun J F=>⟨σ,_,F,p⟩
end
section
variable{c:Value}{b:Bool}
end
structure Room(k:Nat)(A:Around):Prop where
 hd:A.handled=none
 dp:A.depth+3*k+5<recursionLimit
 un:A.units+16*k+200<cLine
theorem Room.mono(r:Room k A)(h:j<=k):Room j A:=⟨r.hd,by have:=r.dp;lia,by have:=r.un;lia⟩
theorem Room.deeper(r:Room (k+1) A)(env):Room k (A.deeper env):=
 ⟨r.hd,by have:=r.dp;show A.depth+1+3*k+5<_;omega,by have:=r.un;show A.units+3+16*k+200<_;omega⟩
theorem Room.in1(r:Room (k+1) A):Room k A.in1:=
 ⟨r.hd,by have:=r.dp;show A.depth+3*k+5<_;lia,by have:=r.un;show A.units+1+16*k+200<_;lia⟩
theorem zmo:(A.under (.builtin "type.__call__" ⟨.ref C::us,kw⟩)).depth=A.depth+1:=by
 first|rfl|simp
theorem zi2:(A.under (.builtin "type.__call__" ⟨.ref C::us,kw⟩)).units=A.units+1:=by
 first|rfl|simp
theorem Room.make(r:Room (k+1) A)(C)(b)(a):Room k (A.under (.builtin "type.__call__" ⟨.ref C::b,a⟩)):=
 ⟨r.hd,by have:=r.dp;rw [zmo];omega,by have:=r.un;rw [zi2];omega⟩
theorem Room.depth(r:Room k A):A.depth<recursionLimit:=by have:=r.dp;omega
theorem Room.units(r:Room k A):A.units+64<cLine:=by have:=r.un;omega
def tNil:TA:=fun _ H Q=>Q [] H
def zhU(ta:TE)(tr:TA):TA:=fun σ H Q=>ta σ H fun x H1=>tr σ H1 fun xs H2=>Q (x::xs) H2
section
variable{t:TA}
theorem zK:PA X [] tNil:=fun _ _ _ _ H Q I h=>Calls.spliced_nil ⟨[],H,I,.nil,h⟩
theorem zn(ha:PE X e te)(hr:PA X es t)(hs:starEach (e::es) X.env=(false,eval e X.env)::starEach es X.env:=by rfl):PA X (e::es) (zhU te t):=by
 intro pos pins s σ H Q I h;rw [hs];show wpAny _ _ (spliced ((false,eval e _)::backTo pos _)) _ _ s;refine Calls.spliced_cons (thn (ha _ s σ H _ I h) fun u s1 ⟨x,H1,I1,r1,q1⟩=>?_)
 exact thn (hr pos _ s1 σ H1 _ I1 q1) fun us s2 zz0=>by obtain⟨xs,H2,I2,r2,q2⟩:=zz0;exact⟨_,H2,I2,.cons r1 r2,q2⟩
def tTup(t:TA):TE:=fun σ H Q=>t σ H fun xs H1=>xs.length<=sizeLine/\∀ p,H1 p=none->Q (.ref p) (upd H1 p (.tup xs))
def tLst(t:TA):TE:=fun σ H Q=>t σ H fun xs H1=>xs.length<=sizeLine/\∀ p,H1 p=none->Q (.ref p) (upd H1 p (.lst xs))
theorem zbY(h:PA X es t):PE X (.Tuple es x1 pos) (tTup t):=by
 intro c s σ H Q I j;refine wpAny_Tuple_spliced (thn (h pos _ s σ H _ I j) fun i m ⟨n,l,a,r,z,q⟩=>⟨by rw [<-r.length];exact z,?_⟩)
 have g:=a.hok.fresh (YaY _);refine⟨.ref _,_,a.laid (fun b u e=>YaW _ e) (YaY _) ?_,rfl,q _ g⟩
 exact⟨z,i,r,⟨_,Yan _ rfl,rfl,_,rfl⟩⟩
theorem zbB(h:PA X es t):PE X (.List es pos) (tLst t):=by
 intro c s σ H Q I j;refine wpAny_List_spliced (thn (h pos _ s σ H _ I j) fun i m ⟨n,l,a,r,z,q⟩=>⟨by rw [<-r.length];exact z,?_⟩)
 have g:=a.hok.fresh (YaY _);refine⟨.ref _,_,a.laid (fun b u e=>YaW _ e) (YaY _) ?_,rfl,q _ g⟩
 exact⟨z,i,0,r,Yan _ rfl⟩
end
abbrev Sp:=List V->Hp->VK->XK->Prop
abbrev CXT:=List Env->Hp->Shared->XK->Value->Shared->Prop
structure Env0(P:Program)(w:World)(K:Ybf)(mg:Str->Option Value)(base:Heap)(A:Around)(outer:List Env)(s:Shared)(H:Hp):Prop where
 frames:A.frames=some outer
 mod:Mod K mg base
 bs:∀ b o,base.get? b=some o->s.heap.get? b=some o/\H b=none
 bsz:base.objs.size<=s.heap.objs.size
 funs:s.heap.FunFrames base outer
 frf:∀ b∈frs outer,H b=none
 hok:HOk P w H s.heap
 bare:AllBare s.gens
def CE(outer:List Env)(P:Program)(w:World)(H:Hp)(s:Shared)(Q:VK)(u:Value)(s':Shared):Prop:=
 ∃ v H',s'.os=s.os/\AllBare s'.gens/\Un (frs outer) [] H H' s.heap s'.heap/\HOk P w H' s'.heap/\RelV v u/\Q v H'
def CR(CX:CXT)(outer:List Env)(P:Program)(w:World)(H:Hp)(s:Shared)(Q:VK)(E:XK)(r:Result)(s':Shared):Prop:=
 match r with
 | .ok (.ret u)=>CE outer P w H s Q u s'
 | .ok _=>False
 | .error e=>CX outer H s E e s'
structure FnOk(P:Program)(w:World)(K:Ybf)(mg:Str->Option Value)(base:Heap)(CX:CXT)(k:Nat)(f:Addr)(fd:FuncData)(ps:List Str)(sp:Sp):Prop where
 len:∀ vs H Q E,sp vs H Q E->vs.length=ps.length
 run:∀ (A:Around) (outer:List Env) (s:Shared) (H:Hp) (args:Args) (us:List Value) (vs:List V) (Q:VK) (E:XK),Room k A->Env0 P w K mg base A outer s H->BindsTo s fd args (ps.zip us)->Vals vs us->sp vs H Q E->
  codeAny (model P w) A (.call (.ref f) args) (CR CX outer P w H s Q E) s
theorem Env0.make(e:Env0 P w K mg base A outer s H)(C)(b)(a) :
 Env0 P w K mg base (A.under (.builtin "type.__call__" ⟨.ref C::b,a⟩)) outer s H:=⟨by first|exact e.frames|grind,e.mod,e.bs,e.bsz,e.funs,e.frf,e.hok,e.bare⟩
section
variable{s':Shared}
theorem Inv.env0(I:Inv X pins σ H s):Env0 X.prog X.w X.K X.mg X.base X.A X.stack s H:=
 ⟨I.ok.frames,I.ok.mod,I.bs,Ya5 I.ok.bsz I.sz,I.stack,I.stkFree,I.hok,I.bare⟩
theorem Inv.after{Q:VK}(I:Inv X pins σ H s)(h:CE X.stack X.prog X.w H s Q u s'):EP X pins σ Q u s':=by
 obtain⟨v,i,j,a,l,e,r,q⟩:=h;obtain⟨m,g,d,t,c⟩:=s';obtain rfl:c=s.os:=j;exact⟨v,i,I.call l e a (fun b z=>absurd z (by simp)),r,q⟩
end
def zfM(sp:Sp)(dvs:List V)(E:XK)(t:TA):TE:=fun σ H Q=>t σ H fun vs H1=>sp (vs++dvs) H1 Q E
def zhw(C:Addr)(sp:Sp)(dvs:List V)(E:XK)(t:TA):TE:=fun σ H Q=>t σ H fun vs H1=>∀ x dx,H1 x=none->H1 dx=none->dx≠x->
 sp (.ref x::(vs++dvs)) (upd (upd H1 dx (.own x)) x (.ins C dx [])) (fun v H2=>v=.non/\Q (.ref x) H2) E
def Binds(K:Ybf)(fd:FuncData)(ps:List Str)(ds:List Value):Prop:=
 ∀ (s:Shared) (us:List Value),K.In s.heap->(us++ds).length=ps.length->BindsTo s fd ⟨us,[]⟩ (ps.zip (us++ds))
theorem Binds.all(h:∀ us:List Value,us.length=ps.length->bindArgs fd ⟨us,[]⟩=pure (ps.zip us)):Binds K fd ps []:=fun s us _ a=>by
 rw [Yao] at a ⊢;exact .of_eq (h us a)
def Passes(CX:CXT)(X:Cx)(E:XK):Prop:=∀ (pins:List (Addr×Obj)) (σ : St) (H:Hp) (s:Shared) (e:Value) (s':Shared),Inv X pins σ H s->CX X.stack H s E e s'->X.xe e s'
section
variable{CX:CXT}{k:Nat}{f:Addr}{sp:Sp}{dvs:List V}{ds:List Value}{E:XK}{x m:Str}{apos:Pos}{t:TA}
theorem zmg{Q:VK}(F:FnOk X.prog X.w X.K X.mg X.base CX k f fd ps sp)(i:Room k X.A)(n:Binds X.K fd ps ds)(j:Vals dvs ds)(g:Passes CX X E)
 (I:Inv X pins σ H s) (r:Vals vs us) (h:sp (vs++dvs) H Q E):wpAny (model X.prog X.w) X.A (call (.ref f) us) (EP X pins σ Q) X.xe s:=by
 have b:=r.append j;have m:(us++ds).length=ps.length:=by rw [<-b.length];exact F.len _ _ _ _ h
 refine wpAny_call (codeAny_mono (F.run X.A _ s H _ _ _ Q E i I.env0 (n s us I.kIn m) b h) fun r c a=>?_)
 cases r with
 | error e=>exact g _ σ H s e c I a
 | ok l=>
  cases l with
  | ret u=>exact I.after a
  | next=>exact False.elim a
  | brk=>exact False.elim a
  | cont=>exact False.elim a
theorem zkt(F:FnOk X.prog X.w X.K X.mg X.base CX k f fd ps sp)(v:Room k X.A)(n:Gl X x)(l:X.mg x=some (.ref f))(i:PySem.W.keepIn X.K (.ref f)=true)(u:Binds X.K fd ps ds)(w:Vals dvs ds)(m:Passes CX X E)
 (o:PA X (e::es) t) (b:(x==("__debug__" : Str))=false:=by decide) (j:starEach (e::es) X.env=(false,eval e X.env)::starEach es X.env:=by rfl) (a:(backTo pos (starEach es X.env)).any (·.1)=false:=by rfl) :
 PE X (.Call (.Name x p) (e::es) [] pos) (zfM sp dvs E t):=by
 intro g s σ H Q I h;refine wpAny_Call_Name_kw (zbJ I n l ?_ b);refine PySem.W.callWith_K I.ok.mod.kin i (thn (o pos _ s σ H _ I h) fun B z ⟨A,y,c,r,q⟩=>⟨c.kIn,?_⟩) j a
 exact zmg F v u w m c r q
structure Mk(K:Ybf)(C f:Addr):Prop where
 makes:PySem.W.makesIn K C=true
 init:PySem.W.findIn K (.ref C) "__init__" = some (some (.ref f))
 fn:PySem.W.isFn K (.ref f)=true
 kp:PySem.W.keepIn K (.ref C)=true
theorem zke{Q:VK}(M:Mk X.K C f)(F:FnOk X.prog X.w X.K X.mg X.base CX k f fd ps sp)(hr:Room (k+1) X.A)(hb:Binds X.K fd ps ds)(hd:Vals dvs ds)
 (hx:Passes CX X E) (I:Inv X pins σ H s) (r:Vals vs us)
 (h:∀ x dx,H x=none->H dx=none->dx≠x->sp (.ref x::(vs++dvs)) (upd (upd H dx (.own x)) x (.ins C dx [])) (fun v H2=>v=.non/\Q (.ref x) H2) E) :
 wpAny (model X.prog X.w) X.A (call (.ref C) us) (EP X pins σ Q) X.xe s:=by
 have hq:=h (s.heap.objs.size+1) s.heap.objs.size (I.hok.fresh (Nat.le_succ _)) (I.hok.fresh (YaY _)) (Yaf (WaL _));have I2:=Inv.made (C:=C) I;have r2:Vals (V.ref (s.heap.objs.size+1)::(vs++dvs)) (Value.ref (s.heap.objs.size+1)::(us++ds)):=.cons rfl (r.append hd);have hl:(Value.ref (s.heap.objs.size+1)::us++ds).length=ps.length:=by
  have e:=r2.length;rw [F.len _ _ _ _ hq] at e;exact e.symm
 refine wpAny_call (zhf (f:=f) I.kIn M.makes M.init (beq_iff_eq.mp M.fn) (codeAny_mono (F.run _ X.stack _ _ ⟨Value.ref (s.heap.objs.size+1)::us,[]⟩ (Value.ref (s.heap.objs.size+1)::(us++ds)) _ _ E (hr.make C us [])
  (I2.env0.make C us []) (hb _ (Value.ref (s.heap.objs.size+1)::us) I2.kIn hl) r2 hq) fun r s' hq'=>?_))
 cases r with
 | error e=>exact hx pins σ _ _ e s' I2 hq'
 | ok fl=>
  cases fl with
  | ret u=>
   obtain⟨v,H',I3,rv,ev,q3⟩:=I2.after hq';subst ev;exact⟨rv,⟨V.ref (s.heap.objs.size+1),H',I3,rfl,q3⟩⟩
  | next=>exact False.elim hq'
  | brk=>exact False.elim hq'
  | cont=>exact False.elim hq'
theorem zlo(M:Mk X.K C f)(F:FnOk X.prog X.w X.K X.mg X.base CX k f fd ps sp)(u:Room (k+1) X.A)(m:Gl X x)(j:X.mg x=some (.ref C))(o:Binds X.K fd ps ds)(v:Vals dvs ds)(l:Passes CX X E)
 (n:PA X (e::es) t) (b:(x==("__debug__" : Str))=false:=by decide) (i:starEach (e::es) X.env=(false,eval e X.env)::starEach es X.env:=by rfl) (a:(backTo pos (starEach es X.env)).any (·.1)=false:=by rfl) :
 PE X (.Call (.Name x p) (e::es) [] pos) (zhw C sp dvs E t):=by
 intro g s σ H Q I h;refine wpAny_Call_Name_kw (zbJ I m j ?_ b);refine PySem.W.callWith_K I.ok.mod.kin M.kp (thn (n pos _ s σ H _ I h) fun A y ⟨z,w,c,r,q⟩=>⟨c.kIn,?_⟩) i a
 exact zke M F u o v l c r q
end
section
variable{CX:CXT}{k:Nat}{f:Addr}{ks:List Str}{sp:Sp}{E:XK}{x m:Str}{apos kpos:Pos}{kws:List Keyword}{t tk:TA}{nm:Option Str}
variable{g:List Value->List Value->List Value}{gV:List V->List V->List V}
end
structure FnScope(N P:List Str)(sc:Scope):Prop where
 kind:sc.kind=.function
 co:sc.isCoroutine=false
 gen:sc.isGenerator=false
 nd:N.Nodup
 pre:N.take P.length=P
 par:∀ x∈P,sc.names.lookup x=some .local\/sc.names.lookup x=some .cell
 nofree:∀ y∈sc.names,y.2≠.free
theorem zfB{kindOf:Str->Option NameKind}{x:Str}:∀ {binds:List (Str×Value)} {m:Str->Option Value},(∀ v,(x,v)∉binds)->bindL kindOf binds m x=m x
 | [],_,_=>rfl
 | (n, v) :: r, m, h => by
  unfold bindL;rw [zfB fun w hw=>h w (YaT _ hw)]
  split
  . have:x≠n:=by rintro rfl;exact h v YaV
    simp [this]
  . rfl
theorem zdZ{kindOf:Str->Option NameKind}{x:Str}:∀ {binds:List (Str×Value)} {m:Str->Option Value},(∀ v,(x,v)∉binds)->bindC kindOf binds m x=m x
 | [],_,_=>rfl
 | (n, v) :: r, m, h => by
  unfold bindC;rw [zdZ fun w hw=>h w (YaT _ hw)]
  split
  . rfl
  . have:x≠n:=by rintro rfl;exact h v YaV
    simp [this]
theorem zeR{kindOf:Str->Option NameKind}{x:Str}{v:Value}:∀ {P:List Str} {vs:List Value} {i:Nat} {m:Str->Option Value},P.Nodup->P[i]?=some x->vs[i]?=some v->kindOf x=some .local->
 bindL kindOf (P.zip vs) m x=some v
 | [],_,_,_,_,h,_,_=>by simp at h
 | _::_,[],_,_,_,_,h,_=>by simp at h
 | p :: P, w :: vs, 0, m, nd, h1, h2, hk => by
  simp at h1 h2;subst h1;subst h2
  show bindL _ ((p,w)::P.zip vs) m p=_
  unfold bindL;rw [zfB fun v a=>(YaB.mp nd).1 (WaV a).1,if_pos hk]
  simp
 | p :: P, w :: vs, i + 1, m, nd, h1, h2, hk => by
  unfold bindL;exact zeR (YaB.mp nd).2 (by simpa using h1) (by simpa using h2) hk
theorem zf1{kindOf:Str->Option NameKind}{x:Str}{v:Value}:∀ {P:List Str} {vs:List Value} {i:Nat} {m:Str->Option Value},P.Nodup->P[i]?=some x->vs[i]?=some v->kindOf x≠some .local->
 bindC kindOf (P.zip vs) m x=some v
 | [],_,_,_,_,h,_,_=>by simp at h
 | _::_,[],_,_,_,_,h,_=>by simp at h
 | p :: P, w :: vs, 0, m, nd, h1, h2, hk => by
  simp at h1 h2;subst h1;subst h2
  show bindC _ ((p,w)::P.zip vs) m p=_
  unfold bindC;rw [zdZ fun v a=>(YaB.mp nd).1 (WaV a).1,if_neg hk]
  simp
 | p :: P, w :: vs, i + 1, m, nd, h1, h2, hk => by
  unfold bindC;exact zf1 (YaB.mp nd).2 (by simpa using h1) (by simpa using h2) hk
noncomputable def start(N:List Str)(vs:List V):St:=vs.map some++List.replicate (N.length - vs.length) none
noncomputable def cxOf(CX:CXT)(P:Program)(w:World)(K:Ybf)(mg:Str->Option Value)(base:Heap)(N:List Str)(qual:Str)(scope:Scope)(f:Addr)(cd:Value)(A:Around)(outer:List Env)(s:Shared)(H:Hp)(E:XK):Cx where
 prog:=P
 w:=w
 K:=K
 mg:=mg
 base:=base
 A:=A.deeper (envOfC qual scope s.heap.objs.size f cd)
 N:=N
 s₀:=s
 H₀:=H
 env:=envOfC qual scope s.heap.objs.size f cd
 outer:=outer
 stack:=envOfC qual scope s.heap.objs.size f cd::outer
 ex:=[]
 calm:=true
 fn:=fun _=>true
 pn:=[]
 xe:=fun e s'=>wpAny (model P w) (A.deeper (envOfC qual scope s.heap.objs.size f cd)) (leaving (envOfC qual scope s.heap.objs.size f cd) e) (fun _ s''=>CX outer H s E e s'') (fun e' s''=>CX outer H s E e' s'') s'
theorem zfV{sc:Scope}(h:sc.names.lookup x=some .cell):∃ c,(cellsFrom n sc.names []).lookup x=some c:=by
 have q:=Waj _ n [] (.inl h);exact Wag.mp q
theorem zi6{E:XK}
 (S:FnScope N ps scope) (L:A.handled=none) (a:Env0 P w K mg base A outer s H) (M:vs.length=ps.length) (r:Vals vs us)
 (x:InCallC s s.heap.objs.size (bindL (envOfC qual scope s.heap.objs.size f cd).kindOf (ps.zip us) fun _=>none) (cellsFrom (s.heap.objs.size+1) scope.names []) (bindC (envOfC qual scope s.heap.objs.size f cd).kindOf (ps.zip us) fun _=>none) s1) :
 Inv (cxOf CX P w K mg base N qual scope f cd A outer s H E) [] (start N vs) H s1:=by
 have I:ps.length<=N.length:=by have:=congrArg List.length S.pre;grind
 obtain⟨B,Q,rfl,C⟩:=x.done;have g:∀ b:Addr,b∉(cxOf CX P w K mg base N qual scope f cd A outer s H E).ex:=fun b z=>absurd (show b∈([]:List Addr) from z) (by simp)
 refine⟨⟨a.mod,S.kind,rfl,rfl,YaY _,fun y z c B j=>?_,fun y n=>?_,fun y c _ h=>?_,fun _=>L,Around.frames_deeper a.frames,.inr ⟨rfl,rfl⟩,fun b z=>absurd z (g b),a.bs,a.bsz,fun b _ _=>g b,fun b z=>absurd z (g b),a.funs,a.frf⟩,
  rfl,a.bare,Un.kept C,⟨_,x.toInCall.ns,fun i y v B j O=>?_⟩,fun y c h=>⟨_,x.cell y c h⟩,a.hok.fresh (YaY _),fun y c h=>?_,fun p l=>absurd (show p∈([]) from l) (by simp),a.hok.kept C,?_⟩
 . exact name_of_addr x.apart (Wap B) (Wap j)
 . rcases n with n|n
   . exact zfV n
   . exact absurd rfl (S.nofree _ (Wap n))
 . exact Wbd (x.above y c (Wap h))
 . have o:i<vs.length:=by
    unfold start at j
    by_cases o:i<vs.length
    . exact o
    . rw [Yae (by simpa using o)] at j
      rw [Yad] at j
      simp_all
   have J:vs[i]?=some v:=by
    unfold start at j;rw [Yab (by simpa using o)] at j
    simp_all
   obtain⟨u,F,G⟩:=r.get J;have l:ps[i]?=some y:=by
    rw [<-S.pre,List.getElem?_take_of_lt #[94]];exact B
   have m:ps.Nodup:=by rw [<-S.pre];exact S.nd.sublist (List.take_sublist _ _)
   refine⟨u,G,?_⟩
   rcases S.par y (Yah l) with k|k
   . exact .inl ⟨k,zeR m l F k⟩
   . obtain⟨c,e⟩:=zfV k
     refine .inr ⟨.inl k,c,e,?_⟩
     have q:=x.cell y c e;rw [zf1 m l F (by show scope.names.lookup y≠_;rw [k];decide)] at q
     exact q
 . exact a.hok.fresh (Wbd (x.above y c (Wap h)))
 . unfold start
   show _=N.length
   grind
theorem zbm{kV:Value}
   {sp:Sp} (T:K.lookup f=some ⟨oc,od,.func (PySem.W.fnOf name qual params body scope dV kV doc pm an cdv ct),osl⟩) (p:PySem.W.codeIn K cdv qual=true) (S:FnScope N ps scope)
 (l:∀ vs H Q E,sp vs H Q E->vs.length=ps.length)
 (c:∀ (A:Around) (outer:List Env) (s:Shared) (H:Hp) (vs:List V) (Q:VK) (E:XK),Room k (A.deeper (envOfC qual scope s.heap.objs.size f cdv))->sp vs H Q E->
  ∃ t,PSs (cxOf CX P w K mg base N qual scope f cdv A outer s H E) body t/\t { nx:=fun _ H'=>Q .non H',rt:=Q } (start N vs) H) :
 FnOk P w K mg base CX (k+1) f (PySem.W.fnOf name qual params body scope dV kV doc pm an cdv ct) ps sp:=by
 refine⟨l,fun A outer s H M us vs Q E C i R r j=>?_⟩
 have Y:=l _ _ _ _ j;have L:=i.mod.kin.keeps fun b o e=>(i.bs b o e).1
 have z:=i.mod.nolimit.keeps fun b o e=>(i.bs b o e).1
 have g:∀ y∈ps.zip us,scope.names.lookup y.1=some _\/(scope.names.lookup y.1=some _/\((cellsFrom (s.heap.objs.size+1) _ []).lookup y.1).isSome=true):=fun⟨n,v⟩ hy=>by
  rcases S.par n (WaV hy).1 with q|q
  . exact .inl q
  . exact .inr ⟨q,Waj _ _ _ (.inl q)⟩
 refine codeAny_call_function C.depth (L _ _ T) rfl S.co S.gen rfl (PySem.W.codeRec_of L p) (R _ _ _ _ ?_)
 refine wpAny_newFunctionEnv_cells S.kind g fun Z O G x=>?_
 subst O;refine⟨z.keeps x.toInCall.keep,codeAny_func ?_⟩;obtain⟨t,X,U⟩:=c A _ s H vs Q E (C.deeper _) j;have I:Inv (cxOf CX P w K mg _ N qual _ f cdv A _ s H E) [] _ H G:=zi6 S C.hd i Y r x;refine wpAny_mono (X [] G _ H _ I U) (fun W B h=>?_) fun e B h=>h
 have m:∀ {a:St} {H':Hp} {v:V} {u:Value},Inv (cxOf CX P w K mg base N qual scope f cdv A outer s H E) [] a H' B->RelV v u->Q v H'->CE _ P w H s Q u B:=
  fun {a H' v u} J F q=>⟨v,H',J.os,J.bare,J.base,J.hok,F,q⟩
 cases W with
 | ret u=>
  obtain⟨v,a,H',J,F,q⟩:=h;exact m J F q
 | next=>
  obtain⟨a,H',J,q⟩:=h;exact m (v:=V.non) J rfl q
 | brk=>
  obtain⟨_,_,_,q⟩:=h
  simp_all
 | cont=>
  obtain⟨_,_,_,q⟩:=h
  simp_all
section
variable{x:Str}{t:TA}{id T:String}{r:List V->Hp->VK->Prop}
def tCB(r:List V->Hp->VK->Prop)(t:TA):TE:=fun σ H Q=>t σ H fun vs H1=>r vs H1 Q
theorem JR(hc:zO X (.builtin id) r)(hg:Gl X x)(hm:X.mg x=none)(hv:bootBuiltins x=some (.builtin id))(ha:PA X (e::es) t)(hn:x≠"__name__":=by decide)(hdb:(x==("__debug__" : Str))=false:=by decide)
 (he:starEach (e::es) X.env=(false,eval e X.env)::starEach es X.env:=by rfl) (hpl:(backTo pos (starEach es X.env)).any (·.1)=false:=by rfl):PE X (.Call (.Name x p) (e::es) [] pos) (tCB r t):=by
 intro pins s σ H Q I h;refine wpAny_Call_Name_kw (Jr I hg hm hv ?_ hn hdb);exact PyProof.Rows.callWith_builtin1 (thn (ha pos _ s σ H _ I h) fun us s1 zz0=>by obtain⟨vs,H1,I1,r1,q1⟩:=zz0;exact hc _ s1 σ H1 vs us Q I1 r1 q1) he hpl
theorem zfL(hc:zO X (.type T) r)(hg:Gl X x)(hm:X.mg x=none)(hv:bootBuiltins x=some (.type T))(ha:PA X (e::es) t)(hn:x≠"__name__":=by decide)(hdb:(x==("__debug__" : Str))=false:=by decide)
 (he:starEach (e::es) X.env=(false,eval e X.env)::starEach es X.env:=by rfl) (hpl:(backTo pos (starEach es X.env)).any (·.1)=false:=by rfl):PE X (.Call (.Name x p) (e::es) [] pos) (tCB r t):=by
 intro pins s σ H Q I h;refine wpAny_Call_Name_kw (Jr I hg hm hv ?_ hn hdb);exact Wab (thn (ha pos _ s σ H _ I h) fun us s1 zz0=>by obtain⟨vs,H1,I1,r1,q1⟩:=zz0;exact hc _ s1 σ H1 vs us Q I1 r1 q1) he hpl
end
end L2
namespace HT
open PySem PyProof.Rows
section
open PySem.SeqAt
open PySem.AutoSeq1 (wpAny_loadPart')
open PySem.MeetsSeq PySem.MeetsSeq2 PySem.MeetsSeq3
end
section
variable{prog:Program}{w:World}{A:Around}{E:Value->Shared->Prop}{s:Shared}
noncomputable def sIx(n d:Nat):Option Int->Nat
 | none=>d
 | some v=>if v<0 then(v+(n:Int)).toNat else min v.toNat n
theorem sIx_nat(n d k:Nat):sIx n d (some (k:Int))=min k n:=by
 show(if(k)<0 then((k)+(n:Int)).toNat else min _ n)=min k n
 simp_all
end
end HT
namespace L2
open PySem PySem.Spec PyProof.Rows
abbrev TO:=St->Hp->(Option Int->Hp->Prop)->Prop
def PO(X:Cx)(e:Option Expr)(t:TO):Prop:=
 ∀ (pins:List (Addr×Obj)) (s:Shared) (σ : St) (H:Hp) (Q:Option Int->Hp->Prop),Inv X pins σ H s->t σ H Q->
  wpAny (model X.prog X.w) X.A (evalPart e X.env) (fun u s'=>∃ o H',Inv X pins σ H' s'/\IsPart u o/\Q o H') X.xe s
def zjx(t:TE):TO:=fun σ H Q=>t σ H fun x H1=>∃ i,x=.int i/\Q (some i) H1
theorem zbs:∀ {us:List Value},Vals (ns.map V.int) us->IntsAre us ns:=by
 induction ns with
 | nil=>intro us r;cases r;exact .nil
 | cons n ns a=>
  intro us r;cases r with
  | cons b c=>
   obtain⟨t,e⟩:=b;subst e;exact .cons n t (a c)
section
variable{X:Cx}{e:Expr}{te:TE}{lo hi:Option Expr}{tl th:TO}{pos p2:Pos}
theorem ziH(h:PE X e te):PO X (some e) (zjx te):=by
 intro a s σ H Q I l;refine thn (h _ s σ H _ I l) fun u m ⟨x,c,b,g,j⟩=>?_
 obtain⟨i,rfl,q⟩:=j;obtain⟨t,rfl⟩:=g;exact⟨_,c,b,.int i t,q⟩
def SlR(X:Cx)(r:V->Option Int->Option Int->Hp->VK->Prop):Prop:=
 ∀ (pins:List (Addr×Obj)) (s:Shared) (σ : St) (H:Hp) (x:V) (v vl vu:Value) (lo hi:Option Int) (sl:Addr) (Q:VK),Inv X pins σ H s->RelV x v->s.heap.IsSliceOf sl vl vu .none->IsPart vl lo->IsPart vu hi->r x lo hi H Q->
  ∃ T id,typeLookup (.type T) "__getitem__" = pure (some (.builtin id))/\s.TypeIs v T/\wpAny (model X.prog X.w) X.A (getItem v (.ref sl)) (EP X pins σ Q) X.xe s
def tSl(r:V->Option Int->Option Int->Hp->VK->Prop)(te:TE)(tl th:TO):TE:=fun σ H Q=>te σ H fun x H1=>tl σ H1 fun l H2=>th σ H2 fun u H3=>r x l u H3 Q
theorem zmz(R:SlR X r)(w:PE X e te)(O:PO X lo tl)(z:PO X hi th):PE X (.Subscript e (.Slice lo hi none p2) pos) (tSl r te tl th):=by
 intro j s σ H Q I h;refine Subscript_ (thn (w _ s σ H _ I h) fun v A ⟨x,y,m,E,N⟩=>?_)
 refine wpAny_Slice (thn (O _ A σ y _ m N) fun g p ⟨l,K,M,n,B⟩=>thn (z _ p σ K _ M B) fun i a ⟨u,c,P,L,o⟩=>?_)
 refine wpAny_pure ?_
 have F:Inv X _ σ c { a with heap:=a.heap.push { cls:=.type "slice", data:=.fields #[g,i,.none] } }:=P.kept fun b S q=>YaW _ q
 obtain⟨T,id,J,G,C⟩:=R _ _ σ c x v g i l u _ Q F E (Heap.IsSliceOf.new ..) n L o;exact tail_any G J C (by with_unfolding_all rfl)
noncomputable def cutV(xs:List V)(lo hi:Option Int):List V:=(xs.drop (HT.sIx xs.length 0 lo)).take (HT.sIx xs.length xs.length hi - HT.sIx xs.length 0 lo)
theorem zh9(xs)(lo a):(cutV xs lo a).length<=xs.length:=by
 unfold cutV;rw [WaM,List.length_drop]
 lia
end
noncomputable def ixN(n:Nat)(i:Int):Option Nat:=if 0<=i then(if i<n then some i.toNat else none) else if -(n:Int)<=i then some (i+n).toNat else none
noncomputable def atI{α : Type}(xs:List α)(i:Int):Option α:=(ixN xs.length i).bind fun j=>xs[j]?
theorem zfC(h:ixN n i=some j):seqIndex? i n=some j/\j<n/\-(n:Int)<=i/\i<n:=by
 unfold ixN at h
 by_cases b:0<=i
 . rw [if_pos b] at h
   by_cases a:i<n
   . rw [if_pos a] at h
     have e:=WaU h;exact⟨by rw [seqIndex_of b a,e],#[0],#[0],a⟩
   simp_all
 . rw [if_neg b] at h
   by_cases a:-(n)<=i
   . rw [if_pos a] at h
     have e:=WaU h;exact⟨by rw [seqIndex_neg #[0] a,e],#[0],a,#[0]⟩
   simp_all
theorem zbq{xs:List α}{v:α}(h:atI xs i=some v):∃ j,seqIndex? i xs.length=some j/\xs[j]?=some v/\j<xs.length/\-(xs.length:Int)<=i/\i<xs.length:=by
 unfold atI at h;cases e:ixN xs.length i with
 | none=>simp_all
 | some j=>
  rw [e] at h;obtain⟨a,b,c,g⟩:=zfC e;exact⟨j,a,h,b,c,g⟩
theorem jb{xs:List α}{j:Nat}{v:α}(h:xs[j]?=some v):atI xs (j:Int)=some v:=by
 have a:=(Ya8.mp h).1;have e:ixN xs.length (j)=some j:=by
  unfold ixN
  simp_all
 unfold atI;rw [e];exact h
def Zk(b:Expr):Prop:=∀ o i,subscripted b false o i=operate [o,i] (getItem o i)
def IxR(X:Cx)(r:R2):Prop:=
 ∀ (value slice:Expr) (pins:List (Addr×Obj)) (s:Shared) (σ : St) (H:Hp) (x y:V) (v u:Value) (Q:VK),Inv X pins σ H s->RelV x v->RelV y u->r x y H Q->
  subscripted slice false v u=operate [v,u] (getItem v u)->wpAny (model X.prog X.w) X.A (subscriptTail value slice v u) (EP X pins σ Q) X.xe s
def MtR(X:Cx)(id:String)(r:V->List V->Hp->VK->Prop):Prop:=
 ∀ (pins:List (Addr×Obj)) (s:Shared) (σ : St) (H:Hp) (x:V) (xs:List V) (v:Value) (us:List Value) (Q:VK),Inv X pins σ H s->RelV x v->Vals xs us->r x xs H Q->
  wpAny (model X.prog X.w) X.A (call (.builtin id) (v::us)) (EP X pins σ Q) X.xe s
section
variable{X:Cx}{a b:Expr}{ta tb:TE}{pos:Pos}
theorem IxR.or(h:IxR X r)(h':IxR X r'):IxR X (fun x y H Q=>r x y H Q\/r' x y H Q):=by
 intro a b c s σ H x y v u Q I i e q g
 rcases q with q|q
 . exact h a b _ s σ H x y v u Q I i e q g
 . exact h' a b _ s σ H x y v u Q I i e q g
theorem jH(o:IxR X r)(l:PE X a ta)(j:PE X b tb)(p:Zk b):PE X (.Subscript a b pos) (tOp r ta tb):=by
 intro c s σ H Q I h;exact Subscript_ (binT l j I h fun v u e x y g m i n q=>o a b _ e σ g x y v u Q m i n q (p _ _))
def rIxL(K:Ybf):R2:=fun x y H Q=>∃ p xs i v,x=.ref p/\y=.int i/\SqL K H p xs/\atI xs i=some v/\Q v H
def rIxT(K:Ybf):R2:=fun x y H Q=>∃ p xs i v,x=.ref p/\y=.int i/\SqT K H p xs/\atI xs i=some v/\Q v H
def rIxS:R2:=fun x y H Q=>∃ z i c,x=.str z/\y=.int i/\z.length<=sizeLine/\atI z.cps.toList i=some c/\Q (.str ⟨#[c]⟩) H
theorem j8:IxR X (rIxL X.K):=by
 intro value slice pins s σ H x y v u Q I rx ry h hs;obtain⟨p,xs,i,z,rfl,rfl,hq,he,q⟩:=h;cases rx;obtain⟨t,rfl⟩:=ry;obtain⟨its,r,pl,hz⟩:=I.list hq;obtain⟨j,h1,h2,h3,h4,h5⟩:=zbq he;obtain⟨w,ew,rw'⟩:=r.get h2;have hl:=r.length;have hn:=Jq;have fin:EP X _ σ Q w s:=⟨z,H,I,rw',q⟩
 by_cases h0:0<=i
 . have hj:=by
    rw [seqIndex_of h0 h5] at h1;exact WaU h1
   exact item_listR pl.isList h0 #[0] (by rw [hj];simpa using ew) fin hs
 . have hj:(i+(its.toArray.size)).toNat=j:=by
    rw [seqIndex_neg #[0] h4] at h1
    rw [YaZ,<-hl];exact WaU h1
   exact subscriptTail_builtinR pl.isList.typeIs slot_list_getitem.lookup
    (wpAny_getItem_list_neg pl.isList #[0] (by simp_all) #[0] (by rw [hj];simpa using ew) ⟨rfl,fin⟩) hs
theorem zbj:IxR X (rIxT X.K):=by
 intro a b l s σ H x y v u Q I E n h A;obtain⟨p,M,i,z,rfl,rfl,B,m,q⟩:=h;cases E;obtain⟨t,rfl⟩:=n;obtain⟨C,r,g,P⟩:=I.tuple B;obtain⟨j,N,o,J,K,L⟩:=zbq m;obtain⟨w,F,c⟩:=r.get o;have O:=r.length;have G:=Jq;have e:EP X _ σ Q w s:=⟨z,H,I,c,q⟩;exact subscriptTail_builtinR g.typeIs slot_tuple_getitem.lookup
  (getItem_tuple (j:=j) g #[0] #[0] (by simp_all) (by simpa using F) ⟨rfl,e⟩) A
theorem zid:IxR X rIxS:=by
 intro a b g s σ H x y v u Q I w m h r;obtain⟨z,i,c,rfl,rfl,E,l,q⟩:=h;obtain⟨t,rfl⟩:=w;obtain⟨F,rfl⟩:=m;obtain⟨j,e,p,C,n,o⟩:=zbq l;have A:z.cps.toList.length=z.length:=by simp [Str.length]
 rw [A] at e n o;have B:=Jq;exact tail_any (typeIs_str s z t) slot_str_getitem.lookup (getItem_str (by
  grind) (by rw [e];simpa using p) ⟨.str _,H,I.tok _,⟨_,rfl⟩,q⟩) r
def rIx(K:Ybf):R2:=fun x y H Q=>rIxL K x y H Q\/rIxT K x y H Q\/rIxS x y H Q
theorem zlr:IxR X (rIx X.K):=j8.or (zbj.or zid)
theorem zl2(its:List Value)(n j)(u):Obj.mapSeq (·.setIfInBounds j u) { cls:=.type "list", data:=.seq its.toArray n } = { cls:=.type "list", data:=.seq (its.set j u).toArray n }:=by
 simp [Obj.mapSeq]
theorem Inv.lst{σ : St}(I:Inv X pins σ H s)(h:H p=some (.lst xs)) :
 ∃ (its:List Value) (n:Nat),Vals xs its/\s.heap.get? p=some { cls:=.type "list", data:=.seq its.toArray n }/\xs.length<=sizeLine:=by
 obtain⟨z,its,n,r,e⟩:=I.hok p _ h;exact⟨its,n,r,e,z⟩
theorem Inv.lstUpd{σ : St}{its:List Value}(I:Inv X pins σ H s)(h:H p=some (.lst xs))
 (g:s.heap.get? p=some { cls:=.type "list", data:=.seq its.toArray n }) (a:f { cls:=.type "list", data:=.seq its.toArray n } = { cls:=.type "list", data:=.seq its'.toArray n' }) (r:Vals ys its') (c:ys.length<=sizeLine) (t) :
 Inv X pins σ (upd H p (.lst ys)) { s with heap:=s.heap.update p f,toks:=t }:=by
 have e:(s.heap.update p f).get? p=some { cls:=.type "list", data:=.seq its'.toArray n' }:=by
  rw [Heap.get?_update_self f g (by rw [a]<;>rfl),a]
 refine I.write (by rw [h];trivial) (.inl rfl) (fun b u i q=>(Heap.get?_update_other _ _ (Wbp i)).trans q) ⟨_,e⟩ ?_
 exact⟨c,its',n',r,e⟩
def rSetL:V->V->V->Hp->(Hp->Prop)->Prop:=fun o i v H Q=>∃ p xs k j,o=.ref p/\i=.int k/\H p=some (.lst xs)/\ixN xs.length k=some j/\Q (upd H p (.lst (xs.set j v)))
theorem Z4:PSet X rSetL:=by
 intro pins s σ H o i v ov iv u Q I ro ri rv h;obtain⟨p,xs,k,j,rfl,rfl,hp,hj,q⟩:=h;cases ro;obtain⟨t,rfl⟩:=ri;obtain⟨its,n,r,ho,hz⟩:=I.lst hp;obtain⟨h1,h2,h3,h4⟩:=zfC hj;have hl:=r.length;have hn:=Jq;have I':=
  I.lstUpd hp ho (zl2 its n j u) (r.set rv j) (by rw [YaN];exact hz) s.toks
 by_cases h0:0<=k
 . have hk:=by
    rw [seqIndex_of h0 h4] at h1;exact WaU h1
   exact PySem.W.ki_setAt ho h0 #[0] (by simp_all) (by rw [hk];exact⟨_,I',q⟩)
 . have hk:(k+(its.toArray.size)).toNat=j:=by
    rw [seqIndex_neg #[0] h3] at h1
    rw [YaZ,<-hl];exact WaU h1
   exact PySem.W.ki_setBack ho #[0] (by simp_all) #[0] (by rw [hk];exact⟨_,I',q⟩)
theorem zlM(lo hi)(n):(sliceBounds lo hi none n).1=((HT.sIx n 0 lo:Nat):Int)/\(sliceBounds lo hi none n).2.1=((HT.sIx n n hi:Nat):Int)/\(sliceBounds lo hi none n).2.2=1:=by
 refine⟨?_,?_,rfl⟩
 . cases lo with
   | none=>simp [sliceBounds,HT.sIx]
   | some i=>
    simp [sliceBounds,HT.sIx]
    by_cases h:i<0
    . simp only [h,if_true]<;>lia
    . simp only [h,if_false]<;>lia
 . cases hi with
   | none=>simp [sliceBounds,HT.sIx]
   | some i=>
    simp [sliceBounds,HT.sIx]
    by_cases h:i<0
    . simp only [h,if_true]<;>lia
    . simp only [h,if_false]<;>lia
theorem zh3(its:List Value)(lo a):slicePick its.toArray lo a none=((its.drop (HT.sIx its.length 0 lo)).take (HT.sIx its.length its.length a - HT.sIx its.length 0 lo)).toArray:=by
 obtain⟨b,e,c⟩:=zlM lo a _;unfold slicePick;rw [b,e,c];simp only [sliceRange_one,pick_run]<;>rfl
def rSlL(K:Ybf):V->Option Int->Option Int->Hp->VK->Prop:=fun x lo hi H Q=>∃ a xs,x=.ref a/\SqL K H a xs/\∀ p,H p=none->Q (.ref p) (upd H p (.lst (cutV xs lo hi)))
theorem zlE:SlR X (rSlL X.K):=by
 intro g s σ H x v z B p l A Q I u y i n h;obtain⟨a,o,rfl,m,q⟩:=h;cases u;obtain⟨j,r,e,w⟩:=I.list m;have c:=r.length;refine⟨_,_,rfl,e.isList.typeIs,?_⟩;refine wpAny_getItem_list_slice e.isList y i n .none (by simp) ?_ (by grind)
 rw [zh3,<-c];refine⟨.ref _,_,I.laid (fun b C q=>YaW _ q) (YaY _) ?_,rfl,q _ (I.hok.fresh (YaY _))⟩
 exact⟨Ya5 (zh9 o p l) w,_,0,(r.drop _).take _,Yan _ rfl⟩
theorem ZT:zO X (.builtin "len") (fun xs H Q=>∃ p ys,xs=[.ref p]/\(SqL X.K H p ys\/SqT X.K H p ys)/\Q (.int ys.length) H):=by
 intro pins s σ H xs us Q I r h;obtain⟨p,ys,rfl,hq,q⟩:=h;obtain⟨u,rfl,rx⟩:=Jj r;cases rx;have hn:=Jq
 rcases hq with hq|hq
 . obtain⟨its,r',pl,hz⟩:=I.list hq
   have hlen:=r'.length;exact Calls.call_len_list pl.isList (by simp only [YaZ]<;>lia) ⟨.int _,H,I.tok _,⟨_,by rw [YaZ,hlen]⟩,q⟩
 . obtain⟨its,r',pl,hz⟩:=I.tuple hq
   have hlen:=r'.length;exact len_tuple pl (by simp only [YaZ]<;>lia) ⟨.int _,H,I.tok _,⟨_,by rw [YaZ,hlen]⟩,q⟩
theorem zkl:zO X (.builtin "len") (fun xs H Q=>∃ z,xs=[.str z]/\z.length<=sizeLine/\Q (.int z.length) H):=by
 intro a s σ H xs e Q I r h;obtain⟨z,rfl,c,q⟩:=h;obtain⟨u,rfl,t,rfl⟩:=Jj r;have b:=Jq;exact len_str #[0] ⟨.int _,H,I.tok _,⟨_,rfl⟩,q⟩
theorem zO.or(h:zO X f r)(h':zO X f r'):zO X f (fun xs H Q=>r xs H Q\/r' xs H Q):=by
 intro c s σ H xs b Q I a q
 rcases q with q|q
 . exact h _ s σ H xs b Q I a q
 . exact h' _ s σ H xs b Q I a q
theorem zhh:zO X (.type "list") (fun xs H Q=>∃ p ys,xs=[.ref p]/\(SqL X.K H p ys\/SqT X.K H p ys)/\∀ l,H l=none->Q (.ref l) (upd H l (.lst ys))):=by
 intro F s σ H xs J Q I r h;obtain⟨p,ys,rfl,w,q⟩:=h;obtain⟨u,rfl,G⟩:=Jj r;cases G;have v:∀ (a:List Value),Vals ys a->ys.length<=sizeLine->∀ (c:Heap) (i:Nat),(∀ b E,s.heap.get? b=some E->c.get? b=some E)->
  c.get? _=some _->EP X _ σ Q _ _:=fun a g m c i j e=>
  ⟨.ref _,_,I.laid (t':=s.toks) j (YaY _) (show zV _ X.w _ c _ (.lst ys) from⟨m,a,i,g,e⟩),rfl,q _ (I.hok.fresh (YaY _))⟩
 rcases w with w|w
 . obtain⟨a,g,z,m⟩:=I.list w
   have y:=g.length;obtain⟨o,A,B,n,C⟩:=z.isList;exact call_list_seq p (.inl rfl) A B C (fun c i j e=>v a g m c i j e) (by grind)
 . obtain⟨a,g,z,m⟩:=I.tuple w
   have y:=g.length;obtain⟨o,A,B,n,C⟩:=z;exact call_list_seq p (.inr rfl) A B C (fun c i j e=>v a g m c i j e) (by simp_all)
def tyV(K:Ybf)(T:String)(x:V)(H:Hp):Prop:=match x with
 | .str _=>T = "str"
 | .int _=>T = "int"
 | .ref p => (T = "list" /\ ∃ xs, SqL K H p xs) \/ (T = "tuple" /\ ∃ o, K.lookup p = some o /\ o.cls = .type "tuple" /\ o.dict = none) \/
  (T = "dict"/\((∃ kvs,H p=some (.dK kvs))\/∃ kvs,H p=some (.dT kvs)))\/(T = "set"/\∃ S n,H p=some (.set S n))
 | _=>False
theorem zk8{σ : St}(I:Inv X pins σ H s)(r:RelV x v)(h:tyV X.K T x H) :
 s.TypeIs v T/\∀ a,v=.ref a->∃ ob,s.heap.get? a=some ob/\ob.dict=none:=by
 cases x with
 | str z=>
  obtain⟨t,rfl⟩:=r;cases(h);exact⟨rfl,fun _ e=>nomatch e⟩
 | int i=>
  obtain⟨t,rfl⟩:=r;cases(h);exact⟨rfl,fun _ e=>nomatch e⟩
 | ref p=>
  cases r
  rcases h with ⟨rfl,A,y⟩|⟨rfl,o,b,w,m⟩|⟨rfl,b⟩|⟨rfl,S,n,b⟩
  . obtain⟨u,_,q,_⟩:=I.list y
    refine⟨q.isList.typeIs,fun a e=>?_⟩
    cases e;obtain⟨o,n,e,c,m,_⟩:=q
    exact⟨o,e,m⟩
  . refine⟨⟨o,I.kIn p o b,w⟩,fun a e=>?_⟩
    cases e;exact⟨o,I.kIn _ o b,m⟩
  . have z:∃ o,s.heap.get? p=some o/\o.ExactDict:=by
     rcases b with ⟨l,b⟩|⟨l,b⟩
     . obtain⟨_,_,_,_,o,_,_,e,g,_⟩:=I.hok p _ b
       exact⟨o,e,g⟩
     . obtain⟨_,_,_,_,o,_,_,e,g,_⟩:=I.hok p _ b
       exact⟨o,e,g⟩
    obtain⟨o,e,g⟩:=z;refine⟨⟨o,e,g.1⟩,fun a j=>?_⟩
    cases j;exact⟨o,e,g.2.1⟩
  . obtain⟨o,_,_,_,e,g,_⟩:=I.hok p _ b
    refine⟨⟨o,e,g.1⟩,fun a j=>?_⟩
    cases j;exact⟨o,e,g.2.1⟩
 | _=>exact False.elim h
def tBM(K:Ybf)(T:String)(r:V->List V->Hp->VK->Prop)(to:TE)(t:TA):TE:=fun σ H Q=>to σ H fun x H1=>tyV K T x H1/\t σ H1 fun xs H2=>r x xs H2 Q
variable{o e:Expr}{es:List Expr}{to:TE}{t:TA}{name:Str}{apos cpos:Pos}{T id:String}{r:V->List V->Hp->VK->Prop}
theorem zdQ(pa:PlainAttrs T)(slot:Slot T name id)(hty:typeOf (.builtin id)=pure (.type "method_descriptor"))(hm:MtR X id r)(ho:PE X o to)(ha:PA X (e::es) t)
 (hbase:attributeBase o name X.env (eval o X.env)=eval o X.env:=by rfl)
 (hfew:((backTo cpos (starEach (e::es) X.env)).all (fun x=>!x.1)&&(backToKw cpos (keywordEach [] X.env)).all (fun x=>x.1.isSome)
  && decide ((e::es).length+([]:List Keyword).length+(if([]:List Keyword).isEmpty then 0 else 1)<30))=true:=by rfl)
 (hline:(apos.endLine==cpos.line)=true:=by rfl) (hs:starEach (e::es) X.env=(false,eval e X.env)::starEach es X.env:=by rfl) (hplain:(backTo cpos (starEach es X.env)).any (·.1)=false:=by rfl) :
 PE X (.Call (.Attribute o name apos) (e::es) [] cpos) (tBM X.K T r to t):=by
 intro pins s σ H Q I h;refine wpAny_Call_method_late hbase hfew hline rfl (thn (ho _ s σ H _ I h) fun v s1 ⟨x,H1,I1,r1,ty,q1⟩=>?_)
 obtain⟨h1,h2⟩:=zk8 I1 r1 ty;refine⟨T,id,pa,slot,hty,h1,h2,?_⟩;have hA:=ha cpos _ s1 σ H1 _ I1 q1;rw [hs] at hA ⊢;refine Calls.callWith_builtin (by show(false||(backTo cpos _).any _)=false;rw [hplain]<;>rfl) (Calls.evalArgs_plain ?_)
 exact thn hA fun us s2 zz0=>by obtain⟨vs,H2,I2,r2,q2⟩:=zz0;exact hm _ s2 σ H2 x vs v us Q I2 r1 r2 q2
end
def MtM(X:Cx)(id:String)(r:V->List V->Hp->VK->Prop):Prop:=
 ∀ (pins:List (Addr×Obj)) (s:Shared) (σ : St) (H:Hp) (x:V) (xs:List V) (v:Value) (us:List Value) (Q:VK),Inv X pins σ H s->RelV x v->Vals xs us->r x xs H Q->
  wpAny (model X.prog X.w) X.A (call (.builtin id) (v::us)) (EP X pins σ Q) X.xe s
theorem Vals.one:∀ {x:V} {us:List Value},Vals [x] us->∃ u,us=[u]/\RelV x u
 | _,_,.cons r .nil=>⟨_,rfl,r⟩
section
variable{X:Cx}{pins:List (Addr×Obj)}{σ: St}{H:Hp}{s:Shared}{l b:Addr}{xs ys zs:List V}
theorem Inv.lset{its:List Value}(I:Inv X pins σ H s)(g:H l=some (.lst xs))
 (e:s.heap.get? l=some { cls:=.type "list", data:=.seq its.toArray n }) (a:f its.toArray=its'.toArray) (b:Vals ys its') (c:ys.length<=sizeLine) :
 Inv X pins σ (upd H l (.lst ys)) { s with heap:=s.heap.update l (Obj.mapSeq f),toks:=t' }:=by
 have q:=PySem.IsL.update e f;rw [a] at q;refine I.write (by rw [g];exact trivial) (.inl rfl) (fun j u i h=>(Heap.get?_update_other _ _ (Wbp i)).trans h) ⟨_,q⟩ ?_
 exact⟨c,its',_,b,q⟩
theorem Inv.lnew(I:Inv X pins σ H s)(a:Vals ys its)(b:ys.length<=sizeLine) :
 Inv X pins σ (upd H s.heap.objs.size (.lst ys)) { s with heap:=s.heap.push { cls:=.type "list", data:=.seq its.toArray },toks:=t' }:=
 I.laid (fun _ _ q=>YaW _ q) (YaY _) ⟨b,its,0,a,Yan _ rfl⟩
theorem Inv.fresh(I:Inv X pins σ H s):H s.heap.objs.size=none:=I.hok.fresh (YaY _)
theorem Inv.lstM(I:Inv X pins σ H s)(a:H l=some (.lst xs)):xs.length<=sizeLine/\∃ (its:List Value) (n:Nat),Vals xs its/\xs.length=its.length/\s.heap.get? l=some { cls:=.type "list", data:=.seq its.toArray n }:=by
 obtain⟨z,its,n,r,e⟩:=I.hok l _ a;exact⟨z,its,n,r,r.length,e⟩
theorem zmv(h:n<=sizeLine):Builtin.List.listTooLong n=false:=decide_eq_false #[94]
end
section
variable{X:Cx}
def rAppend:V->List V->Hp->VK->Prop:=fun x vs H Q=>∃ l xs y,x=.ref l/\vs=[y]/\H l=some (.lst xs)/\xs.length<sizeLine/\Q .non (upd H l (.lst (xs++[y])))
theorem zfu:MtM X "list.append" rAppend:=by
 intro pins s σ H x vs v us Q I rx rv h;obtain⟨l,xs,y,rfl,rfl,hH,hz,q⟩:=h;cases rx;obtain⟨u,rfl,ru⟩:=rv.one;obtain⟨z,its,n,r,hl,e⟩:=I.lstM hH;refine call_meets F.slot_list_append ⟨_,e,rfl⟩ F.entry_list_append (F.args_list_append_2 _ _) (PySem.list_append l its.toArray n u (by rw [YaZ];omega)) ⟨e,?_⟩
 refine⟨.non,_,I.lset (its':=its++[u]) hH e (by simp) (r.append (.cons ru .nil)) ?_,rfl,q⟩
 rw [YaS,List.length_singleton]
 omega
def rExtend:V->List V->Hp->VK->Prop:=fun x vs H Q=>∃ l b xs zs,x=.ref l/\vs=[.ref b]/\H l=some (.lst xs)/\H b=some (.lst zs)/\xs.length+zs.length<=sizeLine/\Q .non (upd H l (.lst (xs++zs)))
theorem zh7:MtM X "list.extend" rExtend:=by
 intro pins s σ H x vs v us Q I rx rv h;obtain⟨l,b,xs,zs,rfl,rfl,hH,hB,hz,q⟩:=h;cases rx;obtain⟨u,rfl,ru⟩:=rv.one;cases ru;obtain⟨z,its,n,r,hl,e⟩:=I.lstM hH;obtain⟨z2,its2,n2,r2,hl2,e2⟩:=I.lstM hB;have hsz:its.toArray.size+its2.toArray.size<=sizeLine:=by grind
 have hlong:¬(!its.toArray.isEmpty&&Builtin.List.listTooLong (its.toArray.size+its2.toArray.size))=true:=by
  rw [zmv hsz,Bool.and_false]
  simp_all
 refine call_meets F.slot_list_extend ⟨_,e,rfl⟩ F.entry_list_extend (F.args_list_extend_2 _ _)
  (AutoSeq1.list_extend_list_list_0 l _ n b _ n2 hlong (by grind) #[94]) ⟨e,e2,?_⟩
 refine⟨.non,_,I.lset hH e (by simp) (r.append r2) ?_,rfl,q⟩
 rw [YaS]
 lia
end
section
variable{prog:Program}{w:World}{A:Around}{E:Value->Shared->Prop}{s:Shared}
end
section
variable{X:Cx}
end
end L2
namespace Att
open PySem PySem.W PySem.Calls PyProof.Rows
theorem zha:∀ (ns:List Int) (vs:List Value),WellAll P h vs (ns.map WData.int)->IntsAre vs ns:=by
 intro ns
 induction ns with
 | nil=>
  intro vs w;cases w;exact .nil
 | cons n ns c=>
  intro vs w;cases w with
  | cons a b=>
   cases a;exact .cons _ _ (c _ b)
theorem ziv{l:OpenLaw}(hn:l.most=some n)
 (hpre:l.row.toRowW.claim.pre args=true) (hwl:WellAll P h vals args) :
 ∃ a vs ns,vals=[Value.ref a]/\args=[WData.list (ns.map WData.int)]/\h.get? a=some { cls:=.type "list", data:=.seq vs.toArray }/\IntsAre vs ns/\ns.length<=n:=by
 have hsh:WShape.hasAll [] args [.list .int]=true:=(pre_splitW hpre).1;have hc:l.pre.holds [] _=true:=(pre_splitW hpre).2;obtain⟨d,r,rfl,h1,h2⟩:=hasAllW_cons hsh;obtain rfl:=hasAllW_nil h2;obtain⟨xs,rfl,h3⟩:=hasW_list h1;obtain⟨ns,rfl⟩:=items_int h3;have hlen:=by
  have h4:=by
   have h4:=(holds_andW hc).1;rw [hn] at h4;exact h4
  have h5:=condW_of h4 (w_not (w_lt w_lit (w_len_list (w_arg rfl))))
  first
   | grind
   | (simp at h5;omega)
 cases hwl with
 | cons w1 w2=>
  cases w2;cases w1 with
  | list ho hall=>exact⟨_,_,ns,rfl,rfl,ho,zha ns _ hall,hlen⟩
theorem zjo(l:OpenLaw)(a):l.row.toRowW.claim.post a (.bool true) a=true:=
 postW_of
  (by first|rfl|decide|simp)
  (w_eq_bool (w_res rfl) w_lit) rfl
theorem attach_call{l:OpenLaw}
 (H:l.most=some n) (p:d.params.defaults=[])
 (e:∀ (w:World) (s₀ s₁ : Shared) (mg mb:Str->Option Value) (fa:Addr) (o:Obj) (pm cd doc:Value) (a:Addr) (vs:List Value) (ns:List Int),
  Ground q loose [] XP w s₀ mg mb s₁.heap->YP w s₁.heap->
  s₁.heap.get? fa=some o->o.data=.func (docDef d.name d.params d.body d.scope pm cd doc)->s₁.heap.CodeRec cd d.name->mg d.name=some (.ref fa)->
  s₁.heap.get? a=some { cls:=.type "list", data:=.seq vs.toArray }->IntsAre vs ns->ns.length<=n->s₁.gens = #[]->
  codeAny (model l.prog w) callerA (.call (.ref fa) ⟨[.ref a],[]⟩) (fun r s'=>r=.ok (.ret (.bool true))/\OldK s₁.heap s'.heap/\s'.os=s₁.os/\AllBare s'.gens) s₁) :
 WalkO q loose XP YP l.row.toRowW d [] (fun f vs=>PySem.call f vs):=by
 intro w s₀ s₁ mg mb G Y fa o pm cd doc F E z M j v i C u y O g s B m L;obtain rfl:F=.none:=Dflts.none v p;obtain rfl:E=.none:=Dflts.noKw v;obtain⟨a,vs,ns,rfl,rfl,c,b,h⟩:=ziv H g m;refine enter_call (codeAny_mono (e w s₀ s₁ mg mb fa o pm cd doc a vs ns G Y z (fd_plain M) j i c b h C) fun r s' N=>?_)
 obtain⟨rfl,K,I,J⟩:=N;exact⟨.inl ⟨_,_,[],rfl,fun _=>rfl,.bool true,zjo l _,fun _=>⟨List.Pairwise.nil,fun _ A=>(nomatch A)⟩⟩,K,I,J⟩
section
variable{prog:Program}{w:World}{A:Around}{E:Value->Shared->Prop}{s:Shared}{K:Frag}
end
end Att
namespace L2
open PySem PySem.Spec PyProof.Rows
theorem zcM:∀ {vs:List Value} {ns:List Int},IntsAre vs ns->Vals (ns.map V.int) vs
 | _,_,.nil=>.nil
 | _,_,.cons n t h=>.cons ⟨t,rfl⟩ (zcM h)
noncomputable def JL(s:Stmt):Arguments:=match s with
 | .FunctionDef _ a _ _ _ _ _ _ _ _=>a
 | _=>{ posonlyargs:=[],args:=[],vararg:=none,kwonlyargs:=[],kw_defaults:=[],kwarg:=none,defaults:=[] }
noncomputable def jO(s:Stmt):List Stmt:=match s with
 | .FunctionDef _ _ b _ _ _ _ _ _ _=>b
 | _=>[]
noncomputable def zh(s:Stmt):Scope:=match s with
 | .FunctionDef _ _ _ _ _ _ sc _ _ _=>sc
 | _=>{ kind:=.function,names:=[],isGenerator:=false,isCoroutine:=false }
structure Fun(K:Ybf)(x qual:Str)(st:Stmt)(f:Addr)(fd:FuncData):Prop where
 ex:∃ (oc:Value) (od:Option Addr) (kV doc pm:Value) (an:Option Addr) (cdv ct:Value) (osl:Array (Option Value)),
  fd=PySem.W.fnOf x qual (JL st) (jO st) (zh st) .none kV doc pm an cdv ct/\K.lookup f=some ⟨oc,od,.func fd,osl⟩/\PySem.W.codeIn K cdv qual=true
 kp:PySem.W.keepIn K (.ref f)=true
section
variable{P:Program}{w:World}{K:Ybf}{mg:Str->Option Value}{base:Heap}
theorem Fun.binds{st:Stmt}{ps:List Str}(F:Fun K x qual st f fd)
 (h:∀ (kV doc pm:Value) (an:Option Addr) (cdv ct:Value) (us:List Value),us.length=ps.length->bindArgs (PySem.W.fnOf x qual (JL st) (jO st) (zh st) .none kV doc pm an cdv ct) ⟨us,[]⟩=pure (ps.zip us)):Binds K fd ps []:=by
 obtain⟨g,c,kV,doc,pm,an,cdv,ct,b,rfl,e,a⟩:=F.ex;exact .all (h kV doc pm an cdv ct)
theorem zbL{st:Stmt}{kV:Value}(l:K.lookup f=some ⟨oc,od,.func (PySem.W.fnOf x qual (JL st) (jO st) (zh st) .none kV doc pm an cdv ct),osl⟩)
 (c:PySem.W.codeIn K cdv qual=true) (k:PySem.W.keepIn K (.ref f)=true):Fun K x qual st f (PySem.W.fnOf x qual (JL st) (jO st) (zh st) .none kV doc pm an cdv ct):=⟨⟨oc,od,kV,doc,pm,an,cdv,ct,osl,rfl,l,c⟩,k⟩
end
theorem z7(a:Room k A):A.units+1<cLine:=War (Nat.add_le_add_left (by decide:1<=64) _) a.units
section
variable{X:Cx}
theorem pv(i)(c:X.N[i]?=some x:=by rfl)(b:Vis X.env.scope x:=by first|exact Or.inl rfl|exact Or.inr (Or.inl rfl)|exact Or.inr (Or.inr rfl))(e:(x==("__debug__" : Str))=false:=by decide)
 (a:(x==("__classdict__" : Str))=false:=by decide):PE X (.Name x pos) (tVar i):=jx c b e a
end
theorem ite2{c A B:Prop}[Decidable c](a:c->A)(b:¬c->B):if c then A else B:=by
 simp_all
def Same(H H':Hp):Prop:=∀ b o,H b=some o->H' b=some o
theorem Same.refl(H):Same H H:=fun _ _ h=>h
theorem Same.trans(a:Same H H1)(b:Same H1 H2):Same H H2:=fun c o h=>b c o (a c o h)
theorem Same.free(e:Same H H')(h:H' l=Option.none):H l=Option.none:=by
 cases q:H l with
 | none=>rfl
 | some o=>
  rw [e l o q] at h;cases h
theorem Same.seq{K:Ybf}(e:Same H H')(h:SqL K H a xs):SqL K H' a xs:=by
 rcases h with (h|⟨o,h⟩)|h
 . exact .inl (.inl (e _ _ h))
 . exact .inl (.inr ⟨o,e _ _ h⟩)
 . exact .inr h
end L2
end
variable{K:Ybf}{kvs:List (List L2.Key×L2.V)}{H0 H G H' G0 G' H1 G1 H2:L2.Hp}{mg:PySem.Str->Option PySem.Value}{pins:List (PySem.Addr×PySem.Obj)}{X:L2.Cx}{row ws sh ns done ks path r R row0:List Int}{P prog:PySem.Program}{vs xs ys zs:List L2.V}{i n j B T m ep t':Nat}{pos pos' np spos apos cpos tpos kp:PySem.Pos}{w:PySem.World}{fd:PySem.FuncData}{a l C tb c0 it:PySem.Addr}{ch rows tv:List (List Int)}{E Q:PySem.Value->PySem.Shared->Prop}{s:PySem.Shared}{es elts ifs:List PySem.Expr}{b b' lo:Int}{scope:PySem.Scope}{v:L2.V}{e tg iter elt e0:PySem.Expr}{base h h':PySem.Heap}{σ:L2.St}{Ed Ch:Int->Int->Prop}{js:List Nat}{p:List Int×List (List Int)}{A:PySem.Around}{ps as:List PySem.Addr}{ds:List PySem.PyData}{st:PySem.Stmt}{u cd:PySem.Value}{N loose tn fn:List PySem.Str}{XP:(PySem.Str->Option PySem.Value)->PySem.Heap->Prop}{W:Int->Int×Option Int}{c:Int->Int->Int}{o:L2.HO}{params:PySem.Arguments}{qual y:PySem.Str}{YP:PySem.World->PySem.Heap->Prop}{E3:PySem.Addr->Prop}{es0:Array PySem.DictEntry}{sl:Array (Option PySem.Value)}{p0 tp' vp' tp vp:Int->Int}{g:Bool}{env:PySem.Env}{body:List PySem.Stmt}{room:Int×Int}{kf:Nat->Int}{op:PySem.CmpOp}{te tl:L2.TE}{ta:L2.TA}{wi:L2.TI}{tt:L2.TT}
set_option Elab.async false
set_option linter.all false
set_option maxRecDepth 100000
namespace L2
open PySem PySem.Spec PyProof.Rows
def Bits(k:Nat)(x:Int):Prop:=x.natAbs<2 ^ k
theorem Bits.mono(h:Bits j x)(a:j<=k):Bits k x:=YaU h (Nat.pow_le_pow_right #[1] a)
theorem Bits.mul{y:Int}(h:Bits j x)(h':Bits k y):Bits (j+k) (x*y):=by
 unfold Bits at *;rw [Int.natAbs_mul,Nat.pow_add];exact Nat.mul_lt_mul'' h h'
theorem Bits.neg(h:Bits k x):Bits k (-x):=by unfold Bits at *;rw [Int.natAbs_neg];exact h
theorem Bits.add{y:Int}(h:Bits k x)(h':Bits k y):Bits (k+1) (x+y):=by
 unfold Bits at *;have:=Int.natAbs_add_le x y;rw [Nat.pow_succ];lia
theorem Bits.sub{y:Int}(h:Bits k x)(h':Bits k y):Bits (k+1) (x - y):=by
 have:=h.add h'.neg;rwa [<-Int.sub_eq_add_neg] at this
theorem Bits.le{y:Int}(h:Bits k x)(a:y.natAbs<=x.natAbs):Bits k y:=War a h
theorem Bits.log2(h:Bits k x)(hk:0<k):x.natAbs.log2<k:=by
 rcases Nat.eq_zero_or_pos x.natAbs with h0|hp
 . rw [h0];exact hk
 . exact(Nat.log2_lt (Wbe hp)).mpr h
theorem Bits.bits(h:Bits k x):Builtin.Int.intBits x<=k:=by
 unfold Builtin.Int.intBits
 split
 . simp_all
 . have a:x.natAbs≠0:=by
    simp_all
   exact(Nat.log2_lt a).mpr h
theorem Bits.mulOk{y:Int}(h:Bits j x)(h':Bits k y)(a:j+k<=134217728):IntMulOk x y:=by
 unfold IntMulOk;have c:=h.bits;have b:=h'.bits;have e:Builtin.Int.intTooBig ((Builtin.Int.intBits x)+(Builtin.Int.intBits y))=false:=by
  refine decide_eq_false ?_
  have:(bitsLine)=134217728:=#[1]
  lia
 simp_all
theorem zja:OpR X (binaryOp .Mult) (rI IntMulOk fun i j=>.int (i*j)):=opI fun _ _ _ _ _ _ _ a q=>mul_int q a
def J9(i j:Int):Prop:=0<=j/\(Builtin.Int.intBits i:Int)*j<=134217728
theorem zhg:OpR X (binaryOp .Pow) (rI J9 fun i j=>.int (i ^ j.toNat)):=opI fun i j _ _ _ _ _ a q=>by
 refine pow_int a.1 ?_ q
 exact a.2
theorem zV.got(x:zV P w H h a o):∃ ob,h.get? a=some ob:=by
 cases o with
 | lst xs=>obtain⟨_,_,_,_,e⟩:=x;exact⟨_,e⟩
 | tup xs=>obtain⟨_,_,_,ob,e,_⟩:=x;exact⟨_,e⟩
 | dK kvs=>obtain⟨_,_,_,_,o,_,_,e,_⟩:=x;exact⟨_,e⟩
 | dT kvs=>obtain⟨_,_,_,_,o,_,_,e,_⟩:=x;exact⟨_,e⟩
 | set S n=>obtain⟨o,_,_,_,e,_⟩:=x;exact⟨_,e⟩
 | ins C dx fs=>obtain⟨_,_,_,e,_⟩:=x;exact⟨_,e⟩
 | own y=>obtain⟨_,e⟩:=x;exact⟨_,e⟩
 | xd fs=>obtain⟨_,⟨_,_,_,e,_⟩,_⟩:=x;exact⟨_,e⟩
 | rng lo hi=>obtain⟨_,_,_,e⟩:=x;exact⟨_,e⟩
 | frz ob u=>obtain⟨e,_⟩:=x;exact⟨_,e⟩
 | tbl ps=>exact⟨_,(x)⟩
 | met f y=>exact⟨_,(x)⟩
 | ext φ=>obtain⟨_,⟨_,e⟩,_⟩:=x;exact⟨_,e⟩
theorem HOk.through{B:Heap}(x:HOk P w H h)(k:B.StaysIn h)(k':B.StaysIn h')(t:∀ b o,H b=some o->∃ o',B.get? b=some o'):HOk P w H h':=fun a o e=>
 (x a o e).stay (fun b u hb q=>by
  have hB:∃ ob,B.get? b=some ob:=by
   rcases hb with z|z
   . exact t b o (z ▸ e)
   . exact t b _ z
  obtain⟨ob,hob⟩:=hB;have e1:=k b ob hob;rw [q] at e1;cases e1;exact k' b _ hob) (fun _ q=>q) fun _ _ q=>q
theorem Un.through{B:Heap}(un:Un fs [] H H' h h1)(cov:∀ b o,h.get? b=some o->b∉fs->∃ o',B.get? b=some o')(k:B.StaysIn h1)(k':B.StaysIn h2)
 (fr:∀ b∈fs,∀ o,h1.get? b=some o->∃ sl,h2.get? b=some { o with slots:=sl }):Un fs [] H H' h h2 where
 keep:=fun b o q n hb hx=>by
  obtain⟨o',ho⟩:=cov b o q hb;have e:=un.keep b o q n hb hx;have e1:=k b o' ho;rw [e] at e1;cases e1;exact k' b _ ho
 slot:=fun b o q n hb hx=>by
  obtain⟨sl,e⟩:=un.slot b o q n hb hx;obtain⟨sl',e'⟩:=fr b hb _ e;exact⟨sl',e'⟩
 free:=un.free
 there:=fun b o q hx=>by
  by_cases hb:b∈fs
  . obtain⟨o',e⟩:=un.there b o q hx
    obtain⟨sl,e'⟩:=fr b hb _ e;exact⟨_,e'⟩
  . obtain⟨o',ho⟩:=cov b o q hb
    exact⟨o',k' b _ ho⟩
 tups:=un.tups
 frzs:=un.frzs
 tbls:=un.tbls
structure Fly(P:Program)(w:World)(stack:List Env)(H:Hp)(s:Shared)(ea C:Addr)(H':Hp)(s':Shared):Prop where
 os:s'.os=s.os
 bare:AllBare s'.gens
 un:Un (frs stack) [] H H' s.heap s'.heap
 hok:HOk P w H' s'.heap
 fly:∃ B a0,Heap.FlyingW B stack ea (.ref C) a0 s'.heap/\(∀ b o,s.heap.get? b=some o->b∉frs stack->∃ o',B.get? b=some o')/\(∀ b o,H' b=some o->∃ o',B.get? b=some o')
def CXR(P:Program)(w:World):CXT:=fun outer H s E e s'=>∃ ea C H',e=.ref ea/\Fly P w outer H s ea C H' s'/\E (.ref C) none H'
theorem zjv{B:Heap}{l:List Env}(i:h.FunFrames B l)(g:h.UpToSlots h'):∀ b∈frs l,∀ o,h.get? b=some o->∃ sl,h'.get? b=some { o with slots:=sl }:=fun b j o c=>by
 obtain⟨_,m,a,e⟩:=i.mem j;rw [c] at a;cases a;exact g b o c e
section
variable{f:Addr}{outer:List Env}{s₀: Shared}{H₀: Hp}{E:XK}{CX:CXT}
theorem zeT(I:Inv (cxOf CX P w K mg base N qual scope f cd A outer s₀ H₀ E) pins σ H s){b:Addr}{o:Obj}(q:s₀.heap.get? b=some o)(c:b∉frs outer) :
 b∉frs (cxOf CX P w K mg base N qual scope f cd A outer s₀ H₀ E).stack:=fun z=>by
 rcases Wa5.mp (I.stkSub b z) with e|e
 . have a:=YaX q
   rw [e] at a;exact Yap _ a
 . exact c e
theorem zeZ(I:Inv (cxOf CX P w K mg base N qual scope f cd A outer s₀ H₀ E) pins σ H s){b:Addr}{o:Obj}(q:s₀.heap.get? b=some o):∃ o',s.heap.get? b=some o':=
 I.base.there b o q (fun z=>absurd (show b∈([]) from z) (by simp))
theorem zm:Passes (CXR P w) (cxOf (CXR P w) P w K mg base N qual scope f cd A outer s₀ H₀ E) E:=by
 intro l σ H s e O I h;obtain⟨r,C,n,rfl,F,q⟩:=h;obtain⟨B,m,i,j,g⟩:=F.fly;have J:=I.call' F.os F.un F.hok F.bare (fun b z=>absurd z (by simp))
 have a:∀ b o,s₀.heap.get? b=some o->b∉frs outer->∃ u,B.get? b=some u:=fun b o z y=>by
  obtain⟨p,v⟩:=zeZ I z;exact j b p v (zeT I z y)
 refine wpAny_leaves_onW I.ok.frames rfl i fun M c G=>?_
 have L:=zjv (i.2.2.1).2.2 G;exact⟨r,C,n,rfl,⟨J.os,F.bare,J.base.through a i.1 c.1 L,F.hok.through i.1 c.1 g,B,m,c,a,g⟩,q⟩
def Flies(X:Cx)(E:XK):Prop:=∀ (pins:List (Addr×Obj)) (σ : St) (H:Hp) (s:Shared) (e C:Addr) (vs:List Value) (h1:Heap),Inv X pins σ H s->Heap.MadeExcOf s.heap h1 e (.ref C) vs->E (.ref C) none H->X.xe (.ref e) { s with heap:=h1 }
theorem ju:Flies (cxOf (CXR P w) P w K mg base N qual scope f cd A outer s₀ H₀ E) E:=by
 intro u σ H s e C Q r I M q;have j:(PySem.W.hideAll s.heap (frs (cxOf (CXR P w) P w K mg base N qual scope f cd A outer s₀ H₀ E).stack)).StaysIn _:=fun b o z=>PySem.W.of_hideAll _ z
 have h:∀ b o,H b=some o->∃ m,(PySem.W.hideAll _ _).get? b=some m:=fun b o z=>by
  obtain⟨B,l⟩:=(I.hok b o z).got;exact⟨B,PySem.W.hideAll_get _ l fun y=>by rw [I.stkFree b y] at z;cases z⟩
 have g:∀ b o,s₀.heap.get? b=some o->b∉frs outer->∃ m,(PySem.W.hideAll _ _).get? b=some m:=fun b o z c=>by
  obtain⟨F,r⟩:=zeZ I z;exact⟨F,PySem.W.hideAll_get _ r (zeT I z c)⟩
 refine wpAny_leaves_madeW I.ok.frames rfl j
  (PySem.W.funFrames_hide I.stack fun n v b c=>List.mem_filterMap.mpr ⟨n,v,c⟩) M fun G t i U S J=>?_
 have O:∀ b∈frs outer,∀ o,s.heap.get? b=some o->∃ T,G.get? b=some _:=fun b c o p=>by
  obtain⟨_,R,a,L⟩:=I.funs.mem c;rw [p] at a;cases a;exact J b o (M.keeps b o p) L
 exact⟨e,C,H,rfl,⟨I.os,I.bare,I.base.through g j i.1 O,I.hok.through j i.1 h,_,_,i,g,h⟩,q⟩
end
noncomputable def bmVE:List Value:=[.type "ValueError", .type "Exception", .type "BaseException", .type "object"]
theorem zkz(X:K.In h)(q:PySem.W.excIn K C bmVE "ValueError.__new__" = true) :
 ∃ bm N nm qn bs hdct sn sub ab col dd k0 k1 k2 k3 k5 mN,h.get? C=some (excClassObj nm qn C N bs bm hdct sn sub ab col dd k0 k1 k2 k3 k5 "ValueError.__new__")/\h.Ns N mN/\mN "__init__" = none/\OwnTail h bmVE bm:=by
 unfold PySem.W.excIn at q
 split at q
 . rename_i dd b s o
   split at q
   . rename_i E bm k0 k1 k2 k3 n k5 e g
     rw [Yak,Yak,Yak,Yak,Yak] at q;obtain⟨⟨⟨⟨⟨r,p⟩,c⟩,v⟩,a⟩,z⟩:=q;have y:=beq_iff_eq.mp r;have m:=beq_iff_eq.mp p;have i:=beq_iff_eq.mp z;obtain⟨nm,bs,B,u,qn,A,sn,sub,ab,col,w⟩:=b;obtain⟨l⟩:=s;dsimp only at e c a i g;have j:=by simpa using c
     subst y m j e g;exact⟨bm,u,nm,qn,bs,A,sn,sub,ab,col,dd,k0,k1,k2,k3,k5,_,X _ _ o,.of_isNs (PySem.W.isNs_of_in X a),PySem.W.nsMap_none_of_in X a i,PySem.W.tail_of_in X v⟩
   . cases q
 . cases q
def zk6(C:Addr)(E:XK)(t:TA):TS:=fun _ σ H=>t σ H fun vs H1=>vs.length<=sizeLine/\E (.ref C) none H1
theorem ziK{E:XK}(A:Flies X E)(F:X.calm=true)(v:Gl X x)(p:X.mg x=some (.ref C))(u:PySem.W.excIn X.K C bmVE "ValueError.__new__" = true)(w:PA X [e0] t)
 (c:(x==("__debug__" : Str))=false:=by decide) (i:starEach [e0] X.env=[(false,eval e0 X.env)]:=by rfl):PS X (.Raise (some (.Call (.Name x np) [e0] [] cpos)) none pos) (zk6 C E t):=by
 intro g s σ H D I h;obtain⟨O,o,nm,q,bs,hdct,sn,sub,ab,col,dd,k0,k1,k2,k3,k5,L,y,J,b,T⟩:=zkz I.ok.mod.kin u;refine wpAny_Raise_call_subT (nm:=nm) (q:=q) (N:=o) (bs:=bs) (hdct:=hdct) (sn:=sn) (sub:=sub) (ab:=ab) (col:=col) (dd:=dd) (k0:=k0) (k1:=k1) (k2:=k2) (k3:=k3) (k5:=k5)
  PySem.F.excBase_ValueError (T.hasType rfl) (I.ok.hd F) (by rw [i];rfl) b (zbJ I v p ⟨rfl,?_⟩ c)
 have j:=w cpos _ s σ H _ I h;rw [i] at j ⊢;refine Calls.evalArgs_plain (wpAny_mono j (fun G l z=>?_) fun _ _ z=>z)
 obtain⟨K,n,a,r,z,m⟩:=z;exact⟨rfl,by rw [<-r.length];exact z,a.bk _ _ y,J.keeps a.bk,T.keeps a.bk,fun B e M=>A _ σ n l e C G B a M m⟩
theorem Fun.okR{ps:List Str}{sp:Sp}(F:Fun K x qual st f fd)(S:FnScope N ps (zh st))(c:∀ vs H Q E,sp vs H Q E->vs.length=ps.length)
 (a:∀ (cdv:Value) (A:Around) (outer:List Env) (s:Shared) (H:Hp) (vs:List V) (Q:VK) (E:XK),Room k (A.deeper (envOfC qual (zh st) s.heap.objs.size f cdv))->sp vs H Q E->
  ∃ t,PSs (cxOf (CXR P w) P w K mg base N qual (zh st) f cdv A outer s H E) (jO st) t/\t { nx:=fun _ H'=>Q .non H',rt:=Q } (start N vs) H):FnOk P w K mg base (CXR P w) (k+1) f fd ps sp:=by
 obtain⟨o,m,q,g,n,l,cdv,p,j,rfl,i,e⟩:=F.ex;exact zbm i e S c fun A outer s H vs Q E h b=>a cdv A outer s H vs Q E h b
noncomputable def excO(ea C:Addr):HO:=.ext fun h=>∃ o vs,h.get? ea=some o/\o.cls=.ref C/\o.data=.fields vs
theorem HOk.track(x:HOk P w H h)(g:H a=none)(j:zV P w (upd H a o) h a o):HOk P w (upd H a o) h:=fun b u e=>by
 by_cases i:b=a
 . subst i;rw [zf] at e;grind
 . rw [zc i] at e
   exact(x b u e).stay (fun c v _ q=>q) (fun c q=>by rw [zc (jd q g)];exact q) fun c l q=>by rw [zc (jd q g)];exact q
theorem zev:bootBuiltins "int" = some (.type "int"):=#[3]
theorem zmL:bootBuiltins "bool" = some (.type "bool"):=#[3]
theorem Js:bootBuiltins "list" = some (.type "list"):=#[3]
theorem zk1:bootBuiltins "zip" = some (.type "zip"):=#[3]
theorem zkj:bootBuiltins "isinstance" = some (.builtin "isinstance"):=#[3]
theorem zv:bootBuiltins "len" = some (.builtin "len"):=#[3]
theorem zcw:bootBuiltins "abs" = some (.builtin "abs"):=#[3]
theorem zdk:bootBuiltins "max" = some (.builtin "max"):=#[3]
theorem zeA:bootBuiltins "min" = some (.builtin "min"):=#[3]
theorem JU:bootBuiltins "sum" = some (.builtin "sum"):=#[3]
section
variable{ea:Addr}
end
noncomputable def isB(t n:String):Option Bool:=
 if t = "int"/\n = "int" then some true else if t = "int"/\n = "bool" then some false else if t = "tuple"/\n = "tuple" then some true else if t = "list"/\n = "list" then some true
 else if t = "str"/\n = "str" then some true else if t = "bool"/\n = "bool" then some true else none
theorem zmG{n:String}{b:Bool}(h:isB t n=some b):PySem.W.kitOne K (.type t) (.type n)=some b:=by
 unfold isB at h
 split at h
 . rename_i e;obtain⟨rfl,rfl⟩:=e;cases h;rfl
 split at h
 . rename_i e;obtain⟨rfl,rfl⟩:=e;cases h;rfl
 split at h
 . rename_i e;obtain⟨rfl,rfl⟩:=e;cases h;rfl
 split at h
 . rename_i e;obtain⟨rfl,rfl⟩:=e;cases h;rfl
 split at h
 . rename_i e;obtain⟨rfl,rfl⟩:=e;cases h;rfl
 split at h
 . rename_i e;obtain⟨rfl,rfl⟩:=e;cases h;rfl
 cases h
mutual
inductive RdV(K:Ybf)(H:Hp):V->PyData->Prop
 | non:RdV K H .non .none
 | bl (b:_):RdV K H (.bl b) (.bool b)
 | int (i:_):RdV K H (.int i) (.int i)
 | str (x:_):RdV K H (.str x) (.str x)
 | lst {a xs ds:_}:SqL K H a xs->RdVs K H xs ds->RdV K H (.ref a) (.list ds)
 | tup {a xs ds:_}:SqT K H a xs->RdVs K H xs ds->RdV K H (.ref a) (.tuple ds)
inductive RdVs(K:Ybf)(H:Hp):List V->List PyData->Prop
 | nil:RdVs K H [] []
 | cons {x xs d ds:_}:RdV K H x d->RdVs K H xs ds->RdVs K H (x::xs) (d::ds)
end
mutual
theorem RdV.reads(I:Inv X pins σ H s):∀ {x:V} {d:PyData} {u:Value},RdV X.K H x d->RelV x u->∃ as,Reads s.heap u d as
 | _,_,_,.non,r=>by cases r;exact⟨_,.none⟩
 | _,_,_,.bl b,r=>by cases r;exact⟨_,.bool b⟩
 | _,_,_,.int i,r=>by obtain⟨t,rfl⟩:=r;exact⟨_,.int i t⟩
 | _,_,_,.str x,r=>by obtain⟨t,rfl⟩:=r;exact⟨_,.str x t⟩
 | _, _, _, .lst hq hs, r => by
  cases r;obtain⟨its,rv,⟨o,n,ho,hc,_,hd⟩,_⟩:=I.list hq
  obtain⟨as,q⟩:=RdVs.reads I hs rv;exact⟨_,.list ho hc hd q⟩
 | _, _, _, .tup hq hs, r => by
  cases r;obtain⟨its,rv,⟨o,ho,hc,n,hd⟩,_⟩:=I.tuple hq
  obtain⟨as,q⟩:=RdVs.reads I hs rv;exact⟨_,.tuple ho hc hd q⟩
theorem RdVs.reads(I:Inv X pins σ H s):∀ {xs:List V} {ds:List PyData} {us:List Value},RdVs X.K H xs ds->Vals xs us->∃ as,ReadsAll s.heap us ds as
 | _,_,_,.nil,.nil=>⟨_,.nil⟩
 | _, _, _, .cons h hs, .cons r t => by
  obtain⟨as,q⟩:=RdV.reads I h r;obtain⟨bs,p⟩:=RdVs.reads I hs t;exact⟨_,.cons q p⟩
end
def rEqD(K:Ybf):R2:=fun x y H Q=>∃ d e,RdV K H x d/\RdV K H y e/\SeqAt.shaped d=true/\SeqAt.shaped e=true/\Q (.bl (PyData.eqv d e)) H
def rNeD(K:Ybf):R2:=fun x y H Q=>∃ d e,RdV K H x d/\RdV K H y e/\SeqAt.shaped d=true/\SeqAt.shaped e=true/\Q (.bl (!PyData.eqv d e)) H
theorem zkv(g:X.A.units+64<cLine):OpR X (compareOp .Eq) (rEqD X.K):=by
 intro a s σ H x y v u Q I m n h;obtain⟨d,e,l,o,i,b,q⟩:=h;obtain⟨p,j⟩:=l.reads I m;obtain⟨r,c⟩:=o.reads I n;exact eq_dataH j c i b g ⟨.bl _,H,I,rfl,q⟩
theorem zj0(g:X.A.units+64<cLine):OpR X (compareOp .NotEq) (rNeD X.K):=by
 intro a s σ H x y v u Q I m n h;obtain⟨d,e,l,o,i,b,q⟩:=h;obtain⟨p,j⟩:=l.reads I m;obtain⟨r,c⟩:=o.reads I n;exact ne_dataH j c i b g ⟨.bl _,H,I,rfl,q⟩
def jU(_ j:Int):Prop:=0<j/\Bits 9000 j
theorem zik:OpR X (binaryOp .FloorDiv) (rI jU fun i j=>.int (i/j)):=opI fun i j _ _ _ _ _ a q=>
 floordiv_int (by have:=a.1;lia) (by rw [Int.fdiv_eq_ediv_of_nonneg i (by have:=a.1;lia)];exact q) (.inl (PyProof.noPylong_of_log2 (a.2.log2 #[1])))
def Df(P:Program)(w:World)(K:Ybf)(mg:Str->Option Value)(base:Heap)(k:Nat)(x:Str)(ps:List Str)(sp:Sp):Prop:=
 ∃ f fd,FnOk P w K mg base (CXR P w) k f fd ps sp/\Binds K fd ps []/\PySem.W.keepIn K (.ref f)=true/\mg x=some (.ref f)
section
variable{k:Nat}{ps:List Str}{sp:Sp}{x:Str}{p:Pos}{t:TA}{E:XK}
theorem jE(G:Df X.prog X.w X.K X.mg X.base k x ps sp)(j:Room k X.A)(m:Gl X x)(l:Passes (CXR X.prog X.w) X E)(n:PA X (e::es) t)(b:(x==("__debug__" : Str))=false:=by decide)
 (g:starEach (e::es) X.env=(false,eval e X.env)::starEach es X.env:=by rfl) (a:(backTo pos (starEach es X.env)).any (·.1)=false:=by rfl):PE X (.Call (.Name x p) (e::es) [] pos) (zfM sp [] E t):=by
 obtain⟨f,o,F,h,c,i⟩:=G;exact zkt F j m i c h .nil l n b g a
end
section
variable{o:Expr}{to:TE}{t:TA}
theorem zdc(i:PE X o to)(j:PA X [e] t)(c:attributeBase o "append" X.env (eval o X.env)=eval o X.env:=by rfl)
 (a:((backTo pos (starEach [e] X.env)).all (fun x=>!x.1)&&(backToKw pos (keywordEach [] X.env)).all (fun x=>x.1.isSome)&&decide ([e].length+([]:List Keyword).length+(if([]:List Keyword).isEmpty then 0 else 1)<30))=true:=by rfl)
 (h:(apos.endLine==pos.line)=true:=by rfl) (g:starEach [e] X.env=(false,eval e X.env)::starEach [] X.env:=by rfl) (b:(backTo pos (starEach [] X.env)).any (·.1)=false:=by rfl) :
 PE X (.Call (.Attribute o "append" apos) [e] [] pos) (tBM X.K "list" rAppend to t):=
 zdQ Wai PySem.F.slot_list_append PySem.F.type_list_append zfu i j c a h g b
theorem zdf{p:Addr}(h:H p=some (.lst xs)):tyV K "list" (.ref p) H:=.inl ⟨rfl,_,SqL.of h⟩
end
section
variable{g:TG}{tb:TS}{D:Ends}
end
theorem zG{p:Addr}(h:H p=none)(o):Same H (upd H p o):=fun b u q=>by rw [zc (jd q h)];exact q
theorem Same.tup(e:Same H H')(h:SqT K H a xs):SqT K H' a xs:=by
 rcases h with (h|⟨o,h⟩)|h
 . exact .inl (.inl (e _ _ h))
 . exact .inl (.inr ⟨o,e _ _ h⟩)
 . exact .inr h
theorem atI0{x:α}{xs:List α}:atI (x::xs) 0=some x:=jb (j:=0) rfl
theorem atI1{x y:α}{xs:List α}:atI (x::y::xs) 1=some y:=jb (j:=1) rfl
end L2
section
open PySem PySem.Spec PyProof.Rows L2
namespace L2
end L2
namespace L2
theorem Bits.emod{m:Int}(a:Bits k m)(b:0<m)(x):Bits k (x%m):=a.le (by
 have c:=Ybc x (by omega:m≠0)
 have e:=Ybd x b
 omega)
theorem Bits.lit(k)(h:x.natAbs<2 ^ 64:=by decide)(a:64<=k:=by decide):Bits k x:=Bits.mono h a
theorem divP{i j:Int}(a:0<j:=by decide)(h:j.natAbs<2 ^ 64:=by decide):jU i j:=⟨a,Bits.lit _ h #[1]⟩
theorem powB{i j:Int}(h:Bits k i)(a:0<=j)(c:k*j.toNat<=134217728):J9 i j:=⟨a,by
 have e:=h.bits;have b:(Builtin.Int.intBits i)*j<=(k)*j:=Ybe #[94] a
 grind⟩
end L2
end
namespace L2
open PySem PySem.Spec PyProof.Rows
noncomputable def zeD(osc scope:Scope)(tn fn:List Str):Bool:=
 decide (scope.kind=.function)&&scope.names.all (fun x=>!decide (x.2=.local)||decide (scope.names.lookup x.1=some .local)) &&
 scope.names.all (fun x=>!decide (x.2=.cell)||decide (scope.names.lookup x.1=some .cell)) &&
 scope.names.all (fun x=>!decide (x.2=.free)||decide (osc.names.lookup x.1=some .cell)||decide (osc.names.lookup x.1=some .free)) &&
 tn.all (fun x=>decide (scope.names.lookup x=some .local)||decide (scope.names.lookup x=some .cell)) &&
 fn.all (fun x=>decide (scope.names.lookup x=some .free))&&decide ((tn++fn).Nodup)
structure CompSc(osc scope:Scope)(tn fn:List Str):Prop where
 kind:scope.kind=.function
 loc:∀ x∈scope.names,x.2=.local->scope.names.lookup x.1=some .local
 cell:∀ x∈scope.names,x.2=.cell->scope.names.lookup x.1=some .cell
 free:∀ x∈scope.names,x.2=.free->osc.names.lookup x.1=some .cell\/osc.names.lookup x.1=some .free
 frees:∀ x∈fn,scope.names.lookup x=some .free
 nd:(tn++fn).Nodup
theorem zX(h:zeD osc scope tn fn=true):CompSc osc scope tn fn:=by
 unfold zeD at h;simp only [Yak,decide_eq_true_eq,WaN,Bool.or_eq_true,Waz,decide_eq_false_iff_not] at h;obtain⟨⟨⟨⟨⟨⟨h1,h2⟩,h3⟩,h4⟩,h5⟩,h6⟩,h7⟩:=h;refine⟨h1,fun x hx e=>(h2 x hx).resolve_left (fun n=>n e),fun x hx e=>(h3 x hx).resolve_left (fun n=>n e),fun x hx e=>?_,h6,h7⟩
 rcases h4 x hx with (n|q)|q
 . exact absurd e n
 . exact .inl q
 . exact .inr q
theorem zdb(env:Env):∀ (names:List (Str×NameKind)) (x:Str),
 (names.map fun(n,k)=>if(k==NameKind.free&&env.scope.kind==.function&&env.kindOf n==some .cell) then(n,NameKind.cell) else(n,k)).lookup x =
  (names.lookup x).map fun k=>if(k==NameKind.free&&env.scope.kind==.function&&env.kindOf x==some .cell) then NameKind.cell else k
 | [],x=>rfl
 | (n, k) :: r, x => by
  have ih:=zdb env r x
  by_cases hx:x=n
  . subst hx
    show List.lookup x ((if(k==NameKind.free&&env.scope.kind==.function&&env.kindOf x==some .cell)=true then(x,NameKind.cell) else(x,k))::_)=_
    split
    . rename_i hc;rw [List.lookup_cons,List.lookup_cons];simp only [beq_self_eq_true,Option.map_some,if_pos hc]
    . rename_i hc;rw [List.lookup_cons,List.lookup_cons];simp only [beq_self_eq_true,Option.map_some,if_neg hc]
  . have hb:=beq_eq_false_iff_ne.mpr hx
    show List.lookup x ((if(k==NameKind.free&&env.scope.kind==.function&&env.kindOf n==some .cell)=true then(n,NameKind.cell) else(n,k))::_)=_
    split
    . simp only [List.lookup_cons,hb];exact ih
    . simp only [List.lookup_cons,hb];exact ih
theorem zfR(h:(relabel scope env).names.lookup x=some k):∃ k',scope.names.lookup x=some k'/\(k'=k\/(k'=.free/\k=.cell)):=by
 have e:=zdb env scope.names x;have h':(scope.names.map _).lookup x=some k:=h;rw [h'] at e;cases q:scope.names.lookup x with
 | none=>simp_all
 | some k'=>
  rw [q] at e;have e':=WaU e;refine⟨k',rfl,?_⟩;dsimp only at e'
  split at e'
  . simp_all
  . exact .inl e'.symm
theorem zhD(h:scope.names.lookup x=some .free):(relabel scope env).names.lookup x=some .cell\/(relabel scope env).names.lookup x=some .free:=by
 have e:=zdb env scope.names x;rw [h] at e;have e':(relabel scope env).names.lookup x=some _:=e;rw [e']
 by_cases c:(NameKind.free==NameKind.free&&env.scope.kind==.function&&env.kindOf x==some .cell)=true
 . left;simp only ;rw [if_pos c]
 . right;simp only ;rw [if_neg c]
theorem JG:∀ (names:List (Str×NameKind)) (n:Nat) (acc:List (Str×Addr)),cellsFrom n names acc=cellsFrom n names []++acc
 | [],_,acc=>rfl
 | (x, k) :: r, n, acc => by
  unfold cellsFrom
  split
  . rw [JG r _ _,JG r _ [(x,n)],Yag];rfl
  . exact JG r n acc
theorem zcf:∀ (names:List (Str×NameKind)) (n:Nat) (x:Str) (c:Addr),(x,c)∈cellsFrom n names []->(x,NameKind.cell)∈names
 | [],_,_,_,h=>by cases h
 | (y, k) :: r, n, x, c, h => by
  unfold cellsFrom at h
  split at h
  . rw [JG] at h
    rcases Ya3.mp h with q|q
    . exact YaT _ (zcf r _ x c q)
    grind
  . exact YaT _ (zcf r _ x c h)
theorem zmO(h:∀ x∈scope.names,x.2=.free->∃ c,env.cells.lookup x.1=some c) :
 ∃ cl,closureFor scope env=pure cl/\(∀ x c,cl.lookup x=some c->env.cells.lookup x=some c)/\∀ x,(x,NameKind.free)∈scope.names->∃ c,cl.lookup x=some c:=by
 have key:∀ (f:Str×NameKind->List (Str×Addr)->Sem (ForInStep (List (Str×Addr)))),(∀ n k cs,f (n,k) cs=if k==.free then(do let a <-cellOf env n;pure (ForInStep.yield ((n,a)::cs))) else pure (ForInStep.yield cs))->
  ∀ (names:List (Str×NameKind)) (acc:List (Str×Addr)),(∀ x∈names,x.2=.free->∃ c,env.cells.lookup x.1=some c)->(∀ x c,acc.lookup x=some c->env.cells.lookup x=some c)->
  ∃ cl,(forIn names acc f)=pure cl/\(∀ x c,cl.lookup x=some c->env.cells.lookup x=some c)/\
   (∀ x,(x,NameKind.free)∈names->∃ c,cl.lookup x=some c)/\∀ x,(∃ c,acc.lookup x=some c)->∃ c,cl.lookup x=some c:=by
  intro f hf names
  induction names with
  | nil=>intro acc _ ha;exact⟨acc,rfl,ha,fun x hx=>(by cases hx),fun x q=>q⟩
  | cons y r ih=>
   intro acc hn ha;obtain⟨n,k⟩:=y
   by_cases hk:k=.free
   . subst hk
     obtain⟨c,hc⟩:=hn (n,.free) YaV rfl;have hc':=hc;obtain⟨cl,e1,e2,e3,e4⟩:=ih ((n,c)::acc) (fun x hx=>hn x (YaT _ hx)) (fun x c' q=>by
      rw [List.lookup_cons] at q
      by_cases hx:x=n
      . subst hx;simp at q;subst q;exact hc'
      . rw [beq_eq_false_iff_ne.mpr hx] at q;exact ha x c' q)
     refine⟨cl,?_,e2,fun x hx=>?_,fun x q=>e4 x ?_⟩
     . rw [List.forIn_cons,hf]
       have ec:cellOf env n=pure c:=by unfold cellOf;rw [hc']
       simp only [beq_self_eq_true,if_true,ec];exact e1
     . rcases Wa5.mp hx with e|e
       . cases e;exact e4 n ⟨c,by simp [List.lookup_cons]⟩
       . exact e3 x e
     . obtain⟨c',q⟩:=q
       by_cases hx:x=n
       . subst hx;exact⟨c,by simp [List.lookup_cons]⟩
       . exact⟨c',by rw [List.lookup_cons,beq_eq_false_iff_ne.mpr hx];exact q⟩
   . obtain⟨cl,e1,e2,e3,e4⟩:=ih acc (fun x hx=>hn x (YaT _ hx)) ha
     refine⟨cl,?_,e2,fun x hx=>?_,e4⟩
     . simp_all
     . rcases Wa5.mp hx with e|e
       . cases e;exact absurd rfl hk
       . exact e3 x e
 unfold closureFor;obtain⟨cl,e1,e2,e3,_⟩:=key (fun x r=>match x with|(name,kind)=>if kind==.free then(do let a <-cellOf env name;pure (ForInStep.yield ((name,a)::r))) else pure (ForInStep.yield r)) (fun _ _ _=>rfl) scope.names [] h (fun x c q=>by cases q)
 refine⟨cl,?_,e2,e3⟩
 have e:∀ (x:Sem (List (Str×Addr))),x=pure cl->(x >>= fun r=>pure r)=pure cl:=fun x q=>by rw [q];rfl
 exact e _ e1
noncomputable def zmT(scope:Scope)(C:Addr)(cells:List (Str×Addr))(env:Env):Env:=
 { scope:=relabel scope env,locals:=C,globals:=env.globals,cells:=cells,qual:=env.qual,func:=none,code:=env.code,frame:=env.frame,builtins:=env.builtins }
noncomputable def Cx.comp(X:Cx)(scope:Scope)(N:List Str)(s:Shared)(H:Hp)(fp:List Addr)(cl:List (Str×Addr)):Cx where
 prog:=X.prog
 w:=X.w
 K:=X.K
 mg:=X.mg
 base:=X.base
 A:=X.A
 N:=N
 s₀:=s
 H₀:=H
 env:=zmT scope s.heap.objs.size (cellsFrom (s.heap.objs.size+1) scope.names cl) X.env
 outer:=X.stack
 stack:=X.stack
 ex:=fp
 fn:=fun x=>decide (scope.names.lookup x=some .cell)
 calm:=X.calm
 pn:=[]
 xe:=fun _ _=>False
noncomputable def cst(n:Nat)(js:List Nat)(σ : St):St:=List.replicate n none++js.map fun j=>(σ[j]?).join
theorem ziU{fp:List Addr}{cl:List (Str×Addr)}(I:Inv X pins σ H s)(S:CompSc X.env.scope scope tn fn)
 (hj:js.map (fun j=>X.N[j]?)=fn.map some) (C:∀ b∈fp,FpOk X pins H b) (M:∀ b∈fp,b<s.heap.objs.size)
 (L:∀ x c,cl.lookup x=some c->X.env.cells.lookup x=some c) (F:∀ x,(x,NameKind.free)∈scope.names->∃ c,cl.lookup x=some c) :
 Inv (X.comp scope (tn++fn) s H fp cl) [] (cst tn.length js σ) H { s with heap:=pushCells (s.heap.push { cls:=.type "dict", data:=.dict #[] }) scope.names }:=by
 have Q:=cellsFrom_ok scope.names (s.heap.push { cls:=.type "dict", data:=.dict #[] }) (s.heap.objs.size+1) [] ⟨fun _ _ hm=>(nomatch hm),List.Pairwise.nil⟩ (by rw [Wa1];exact YaY _)
 rw [Wa1] at Q;have w:∀ b o,s.heap.get? b=some o->(pushCells (s.heap.push { cls:=.type "dict", data:=.dict #[] }) scope.names).get? b=some o:=fun b o e=>pushCells_keeps _ _ b o (YaW _ e)
 have h:∀ x c,(cellsFrom (s.heap.objs.size+1) scope.names cl).lookup x=some c->((x,c)∈cellsFrom (s.heap.objs.size+1) scope.names [])\/X.env.cells.lookup x=some c:=fun x c e=>by
  rw [JG,List.lookup_append] at e;cases q:(cellsFrom (s.heap.objs.size+1) scope.names []).lookup x with
  | some c'=>rw [q] at e;cases e;exact .inl (Wap q)
  | none=>rw [q] at e;exact .inr (L x c e)
 have g:∀ x c,X.env.cells.lookup x=some c->c<s.heap.objs.size:=fun x c e=>by
  obtain⟨v,q⟩:=I.cell x c e;exact q.lt
 have a:=fun x c e=>(Q.empty x c e).2
 refine⟨⟨I.ok.mod,S.kind,I.ok.glob,I.ok.blt,YaY _,fun x y c N A=>?_,fun x K=>?_,fun x c N A=>?_,I.ok.hd,I.ok.frames,.inl rfl,fun b E=>⟨Yaf (M b E),fun x c e=>?_⟩,fun b o e=>I.bs b o e,Ya5 I.ok.bsz I.sz,fun b o e E=>?_,fun b E hz=>?_,I.stack,I.stkFree⟩,
  rfl,I.bare,Un.kept w,⟨fun _=>none,?_,fun i x v N A h3=>?_⟩,fun x c e=>?_,I.hok.fresh (YaY _),fun x c e=>?_,fun p hp=>?_,I.hok.kept w,?_⟩
 . rcases h x c N with q|q<;>rcases h y c A with r|r
   . exact name_of_addr Q.apart q r
   . exact absurd (Nat.lt_trans (g y c r) (a x c q)) (Yap _)
   . exact absurd (Nat.lt_trans (g x c q) (a y c r)) (Yap _)
   . exact I.ok.inj x y c q r
 . have G:∀ k,scope.names.lookup x=some k->k=.cell\/k=.free->∃ c,(cellsFrom (s.heap.objs.size+1) scope.names cl).lookup x=some c:=fun k W U=>by
    refine Wag.mp (Waj _ _ _ ?_)
    rcases U with rfl|rfl
    . exact .inl W
    . obtain⟨c,q⟩:=F x (Wap W)
      exact .inr (by rw [q];rfl)
   rcases K with K|K
   . obtain⟨P,e,q|q⟩:=zfR (scope:=scope) (env:=X.env) K
     . subst q;exact G _ e (.inl rfl)
     . exact G _ e (.inr q.1)
   . obtain⟨P,e,q|q⟩:=zfR (scope:=scope) (env:=X.env) K
     . subst q;exact G _ e (.inr rfl)
     . cases q.2
 . have hc:scope.names.lookup x=some .cell:=of_decide_eq_true N
   rcases h x c A with q|q
   . exact Wbd (a x c q)
   . exfalso
     have n:(cellsFrom (s.heap.objs.size+1) scope.names cl).lookup x=some c:=A;rw [JG,List.lookup_append] at n;obtain⟨c',Y⟩:=Wag.mp (Waj scope.names (s.heap.objs.size+1) [] (.inl hc));rw [Y] at n;cases n;exact absurd (Nat.lt_trans (g x c q) (a x c (Wap Y))) (Yap _)
 . rcases h x c e with q|q
   . intro z;subst z
     exact absurd (Nat.lt_trans (M c E) (a x c q)) (Yap _)
   . exact(C b E).2.2.2.2.1 x c q
 . rcases(C b E).2.2.2.1 with z|z
   . exact I.ok.noex b o e z
   . exact absurd (YaU (YaX (I.ok.bs b o e).1) z) (Yap _)
 . rcases Wa5.mp (I.stkSub b hz) with z|z
   . exact(C b E).2.1 z
   . exact(C b E).2.2.1 z
 . exact(Heap.Ns.new s.heap (.type "dict")).keeps (pushCells_keeps _ _)
 . unfold cst at A
   by_cases R:i<tn.length
   . rw [Yab (by simpa using R),Yad,if_pos R] at A
     cases A
   . rw [Yae (by simpa using R),Ybb,Ya0] at A
     cases ej:js[i - tn.length]? with
     | none=>rw [ej] at A;cases A
     | some j=>
      rw [ej] at A;have n:(σ[j]?).join=some v:=WaU A;have T:σ[j]?=some (some v):=by
       cases q:σ[j]? with
       | none=>rw [q] at n;cases n
       | some o => rw [q] at n; cases o with
        | none=>cases n
        | some v'=>cases n;rfl
      have J:(tn++fn)[i]?=some x:=N;rw [Yae #[0]] at J
      have hN:X.N[j]?=some x:=by
       have e:=congrArg (fun l=>l[i - tn.length]?) hj
       simp only [Ya0,ej,J,Option.map_some] at e;exact WaU e
      have B:scope.names.lookup x=some .free:=S.frees x (Yah J);obtain⟨m,hn,hl⟩:=I.loc;have ok:=S.free (x,.free) (Wap B) rfl;obtain⟨u,r,l⟩:=hl j x v hN T (by rcases ok with z|z;exact .inr (.inl z);exact .inr (.inr z))
      refine⟨u,r,.inr ⟨zhD B,?_⟩⟩
      rcases l with ⟨k,_⟩|⟨_,c,ec,q⟩
      . have P:X.env.scope.names.lookup x=some .local:=k
        rcases ok with z|z<;>rw [z] at P<;>cases P
      . refine⟨c,?_,q.keeps w⟩
        show(cellsFrom (s.heap.objs.size+1) scope.names cl).lookup x=some c
        rw [JG,List.lookup_append];have e1:(cellsFrom (s.heap.objs.size+1) scope.names []).lookup x=none:=by
         cases q1:(cellsFrom (s.heap.objs.size+1) scope.names []).lookup x with
         | none=>rfl
         | some c1=>
          have e2:=S.cell (x,.cell) (zcf _ _ _ _ (Wap q1)) rfl;have O:scope.names.lookup x=some .cell:=e2;rw [B] at O;cases O
        obtain⟨c2,Z⟩:=F x (Wap B);have:=L x c2 Z;rw [ec] at this;cases this;rw [e1,Z];rfl
 . rcases h x c e with q|q
   . exact⟨_,(Q.empty x c q).1⟩
   . obtain⟨v,z⟩:=I.cell x c q
     exact⟨v,z.keeps w⟩
 . rcases h x c e with q|q
   . exact I.hok.fresh (Wbd (a x c q))
   . exact I.freeC x c q
 . exact absurd (show p∈([]:List (Addr×Obj)) from hp) (by simp)
 . unfold cst
   show _=(tn++fn).length
   have:js.length=fn.length:=by have:=congrArg List.length hj;simpa using this
   rw [YaS,Ybb,YaR,YaS,this]
theorem Inv.turnedL{ch:List Addr}(I:Inv X pins σ H s)(k:∀ b o,b∉ch->s.heap.get? b=some o->h'.get? b=some o)(hf:∀ b∈ch,FpOk X pins H b):Inv X pins σ H { s with heap:=h',toks:=t' }:=by
 have nit:∀ b u,H b=some u->b∉ch:=fun b u e z=>by have:=(hf b z).1;grind
 refine I.step (fun b hb=>⟨(hf b hb).2.2.2.1,(hf b hb).2.1,(hf b hb).2.2.2.2.1,(hf b hb).2.2.2.2.2⟩) (fun b o _ _ hc e _=>k b o hc e) (fun b o _ _ hc e _=>⟨_,k b o hc e⟩) (fun _ _ _ _ n=>n)
  (fun b o hc e=>⟨o,k b o hc e⟩) (fun _ _ e=>e) (fun _ _ _ e=>e) (fun b ps e=>⟨#[],by rw [e];simp⟩) (fun m hm=>?_) (fun b u e=>?_) I.bare
 . obtain⟨o,es,ep,ho,r⟩:=hm
   exact⟨o,es,ep,k _ o (fun z=>(hf _ z).2.1 rfl) ho,r⟩
 . refine(I.hok b u e).stay (fun c v hc q=>k c v ?_ q) (fun _ q=>q) fun _ _ q=>q
   rcases hc with z|z
   . rw [z];exact nit b u e
   . exact nit c _ z
theorem Inv.track{a:Addr}{o:HO}(I:Inv X pins σ H s)(i:H a=none)(E:X.s₀.heap.objs.size<=a)(F:a≠X.env.locals)(C:∀ x c,X.env.cells.lookup x=some c->c≠a)(v:∀ p∈X.pn++pins,p.1≠a)(l:zV X.prog X.w (upd H a o) s.heap a o):Inv X pins σ (upd H a o) s:=by
 have j:∀ b g,X.s₀.heap.get? b=some g->b≠a:=fun b g e=>Yaf (YaU (YaX e) E)
 refine⟨I.ok,I.os,I.bare,⟨I.base.keep,I.base.slot,fun b g q n w=>?_,I.base.there,fun b A q=>?_,fun b g u q=>?_,fun b z q=>?_⟩,I.loc,I.cell,?_,fun x c e=>?_,fun p h=>?_,I.hok.track i l,I.len⟩
 . rw [zc (j b g q)];exact I.base.free b g q n w
 . have e:=I.base.tups b A q;rw [zc (jd e i)];exact e
 . have e:=I.base.frzs b g u q;rw [zc (jd e i)];exact e
 . obtain⟨m,e⟩:=I.base.tbls b z q;exact⟨m,by rw [zc (jd e i)];exact e⟩
 . rw [zc (Wbp F)];exact I.free
 . rw [zc (C x c e)];exact I.freeC x c e
 . obtain⟨B,y,r⟩:=I.pin p h
   exact⟨B,by rw [zc (v p h)];exact y,r⟩
def tTrue:TT:=fun _ H Q=>Q true H
def zb5(wi:TI)(g:TG)(tt:TT)(te:TE)(n:Nat)(js:List Nat):TE:=fun σ H Q=>wi σ H fun J H1=>∀ D,H1 D=none->∃ W:Nat->Nat->List V->St->Hp->Prop,(∃ m,W 0 m [] (cst n js σ) (upd H1 D (.lst [])))/\∀ i m ys σ1 H2,W i m ys σ1 H2->
 (J.stop i H2/\Q (.ref D) H2)\/(J.go i H2/\∀ x H3,J.yld i H2 x H3->g x σ1 H3 fun σ4 H4=>tt σ4 H4 fun b H5=>if b=true then te σ4 H5 fun y H6=>H6 D=some (.lst ys)/\ys.length<sizeLine/\∃ m',m'<m/\W (i+1) m' (ys++[y]) σ4 (upd H6 D (.lst (ys++[y]))) else ∃ m',m'<m/\W (i+1) m' ys σ4 H5)
def PTs(X:Cx)(ifs:List Expr)(t:TT):Prop:=
 ∀ (pins:List (Addr×Obj)) (s:Shared) (σ : St) (H:Hp) (Q:Bool->Hp->Prop),Inv X pins σ H s->t σ H Q->
  wpAny (model X.prog X.w) X.A (forIn ifs true fun c r=>if r=true then do let ok <-isTrue c X.env (eval c X.env);pure (ForInStep.yield ok) else pure (ForInStep.yield r)) (TP X pins σ Q) X.xe s
theorem zaR:PTs X [] tTrue:=fun _ _ _ H _ I h=>wpAny_tests_nil ⟨H,I,h⟩
theorem zc0{c:Expr}(h:PT X c t):PTs X [c] t:=fun a s σ H Q I q=>wpAny_tests_one (h a s σ H Q I q)
theorem zeP{g:TG}(tn fn)(js)(hcalm:X.calm=true)(S:CompSc X.env.scope scope tn fn)(hj:js.map (fun j=>X.N[j]?)=fn.map some)(hi:PI X tg iter wi)
 (hb:∀ s H fp cl,PG (X.comp scope (tn++fn) s H fp cl) tg g/\PTs (X.comp scope (tn++fn) s H fp cl) ifs tt/\PE (X.comp scope (tn++fn) s H fp cl) elt te)
 (hs:∀ x,foldedSetIterable iter X.env x=pure x)     {Q:VK} (I:Inv X pins σ H s) (h:zb5 wi g tt te tn.length js σ H Q)
 (fin:∀ (D C:Addr) (s6:Shared) (H5:Hp) (m6:Str->Option Value),s6.heap.Ns C m6->FpOk X pins H5 C->Inv X pins σ H5 s6->Q (.ref D) H5->compPost (model X.prog X.w) X.A X.xe use Qc (.ref D) C (.ok .next) s6) :
 wpAny (model X.prog X.w) X.A (comprehension (.ListComp elt [⟨tg,iter,ifs,0⟩] scope pos) scope X.env pos' (newList []) false (eval iter X.env) use) Qc X.xe s:=by
 obtain⟨cl,R,ap,hcl2⟩:=zmO (env:=X.env) (scope:=scope) (fun x hx e=>I.ok.has x.1 (S.free x hx e))
 refine wpAny_comprehension_free (use:=use) rfl hs R S.kind S.loc (thn (hi pins s σ H _ I h) fun v s1 h1=>thn h1 fun itv s2 h2=>?_)
 obtain⟨it,fp,Z,J,H2,e,I2,T,aa,f2,k⟩:=h2;subst e;have hD:H2 s2.heap.objs.size=none:=I2.fresh;obtain⟨W,⟨m0,w0⟩,turn⟩:=k _ hD;refine wpAny_newObj_type ?_;have I3:=I2.lnew (t':=s2.toks) (ys:=[]) (its:=[]) .nil (Wbm _);generalize an:({ s2 with heap:=s2.heap.push { cls:=.type "list", data:=.seq ([]:List Value).toArray } }:Shared)=l at I3
 have ae:l.heap.objs.size=s2.heap.objs.size+1:=by rw [<-an];exact Wa1 ..
 have au:∀ b o,s2.heap.get? b=some o->l.heap.get? b=some o:=fun b o e=>by rw [<-an];exact YaW _ e
 have am:∀ b∈fp,b<s2.heap.objs.size:=fun b hb=>by
  obtain⟨o,e,_⟩:=T.obj _ _ aa b hb;exact YaX e
 generalize b9:s2.heap.objs.size=D at *;have f3:∀ b∈fp,FpOk X pins (upd H2 D (.lst [])) b:=fun b hb=>⟨by rw [zc (Yaf (am b hb))];exact(f2 b hb).1,(f2 b hb).2⟩
 have P:∀ b∈fp,b<l.heap.objs.size:=fun b hb=>by rw [ae];exact Nat.lt_succ_of_lt (am b hb)
 have I4:=ziU I3 S hj f3 P ap hcl2;have ai:Z 0 (pushCells (l.heap.push { cls:=.type "dict", data:=.dict #[] }) scope.names):=T.keep _ _ _ aa fun b _ o e=>pushCells_keeps _ _ b o (YaW _ (au b o e))
 obtain⟨pg,pt,pe⟩:=hb l (upd H2 D (.lst [])) fp cl;generalize q:X.comp scope (tn++fn) l (upd H2 D (.lst [])) fp cl=Y at I4 pg pt pe;have Yp:Y.prog=X.prog:=by rw [<-q];rfl
 have Yw:Y.w=X.w:=by rw [<-q];rfl
 have YK:Y.K=X.K:=by rw [<-q];rfl
 have YA:Y.A=X.A:=by rw [<-q];rfl
 have Yc:Y.calm=true:=by rw [<-q];exact hcalm
 have F:Y.xe=fun _ _=>False:=by rw [<-q];rfl
 have K:Y.ex=fp:=by rw [<-q];rfl
 have aq:Y.fs=frs X.stack:=by rw [<-q];rfl
 have az:Y.pn=[]:=by rw [<-q];rfl
 have Ys:Y.s₀ = l:=by rw [<-q];rfl
 have YH:Y.H₀ = upd H2 D (.lst []):=by rw [<-q];rfl
 have YC:Y.env.locals=l.heap.objs.size:=by rw [<-q];rfl
 have ab:({ scope:=relabel scope X.env,locals:=l.heap.objs.size,globals:=X.env.globals,cells:=cellsFrom (l.heap.objs.size+1) scope.names cl,qual:=X.env.qual,func:=none,code:=X.env.code,frame:=X.env.frame,builtins:=X.env.builtins }:Env)=Y.env:=by rw [<-q];rfl
 have B:∀ {H':Hp},(∀ b∈fp,H' b=none)->∀ b∈fp,FpOk Y [] H' b:=fun hn b hb=>by
  refine⟨hn b hb,?_,?_,.inl (by rw [K];exact hb),fun x c e=>(I4.ok.exf b (by rw [K];exact hb)).2 x c e,fun p hp=>?_⟩
  . rw [YC];exact Yaf (P b hb)
  . exact I4.ok.exfs b (by rw [K];exact hb)
  . rw [az] at hp;exact absurd (show p∈([]:List (Addr×Obj)) from hp) (by simp)
 have L:codeAny (model X.prog X.w) X.A (.compLoop (.ListComp elt [⟨tg,iter,ifs,0⟩] scope pos) 0 (.ref it) (.ref D) Y.env) (compPost (model X.prog X.w) X.A X.xe use Qc (.ref D) l.heap.objs.size)
  { l with heap:=pushCells (l.heap.push { cls:=.type "dict", data:=.dict #[] }) scope.names }:=by
  refine codeAny_loop rfl (fun n s'=>∃ i ys E H',Inv Y [] E H' s'/\Z i s'.heap/\(∀ b∈fp,H' b=none)/\W i n ys E H') (fun n s5 hI=>?_) m0 ⟨0,[],_,_,I4,ai,fun b hb=>(f3 b hb).1,w0⟩
  obtain⟨i,ys,σ5,H5,I5,a3,ah,w5⟩:=hI;show wpAny _ X.A ((compTurn (.ListComp elt [⟨tg,iter,ifs,0⟩] scope pos) 0 (.ref it) (.ref D) Y.env).onRaise (fun x=>do noteFrame x Y.env;theTreesLotGoes x)) _ _ s5
  refine wpAny_noted ?_
  rw [compTurn_list];refine wpAny_bind (wpAny_standAt (wpAny_bind ?_))
  rcases turn i n ys σ5 H5 w5 with ⟨a4,qn⟩|⟨go,step⟩
  . have d:=T.done Y Yp Yw YK Yc i [] s5 σ5 H5 (fun _ _=>False) I5 (B ah) a3 a4
    rw [YA] at d;refine wpAny_mono d (fun r s6 ⟨hr,I6⟩=>?_) fun _ _ z=>z.elim
    subst hr;refine wpAny_pure ?_;obtain⟨m6,aj,_⟩:=I6.loc;rw [YC] at aj;have hC:H5 l.heap.objs.size=none:=by have:=I6.free;rwa [YC] at this
    have u6:=I6.base;rw [aq,K,YH,Ys] at u6;have a7:=I6.os;rw [Ys] at a7;have O:=I6.hok;rw [Yp,Yw] at O;have IX:Inv X pins σ H5 s6:=I3.call' (s':=s6) a7 u6 O I6.bare (fun b hb=>⟨(f3 b hb).2.2.2.1,(f3 b hb).2.1,(f3 b hb).2.2.2.2.1,(f3 b hb).2.2.2.2.2⟩)
    exact fin D l.heap.objs.size s6 H5 m6 aj (I3.fpOk (H':=H5) (YaY _) hC) IX qn
  . have d:=T.item Y Yp Yw YK Yc i [] s5 σ5 H5 (fun _ _=>False) I5 (B ah) a3 go
    rw [YA] at d;refine wpAny_mono d (fun r s6 ⟨u,hr,h6⟩=>?_) fun _ _ z=>z.elim
    subst hr;refine wpAny_bind (wpAny_mono h6 (fun _ s7 ⟨x,H7,I7,r7,y7,a1,aw⟩=>?_) fun _ _ z=>z.elim)
    have ar:=I7.pinned (B aw) (T.obj _ _ a1);have a8:=pg _ s7 σ5 H7 x u _ ar r7 (step x H7 y7);rw [YA,Yp,Yw,F] at a8;refine wpAny_bind (wpAny_mono a8 (fun _ s8 ⟨w,H8,I8,q8⟩=>?_) fun _ _ z=>z.elim)
    have a9:=pt _ s8 w H8 _ I8 q8;rw [YA,Yp,Yw,F] at a9;have again:∀ {H':Hp} {s':Shared} {a0:List V} {m':Nat},m'<n->Inv Y ([]++zbl fp s7.heap) w H' s'->W (i+1) m' a0 w H'->∃ m,m<n/\∃ i ys E H',Inv Y [] E H' s'/\Z i s'.heap/\(∀ b∈fp,H' b=none)/\W i m ys E H':=fun {H' s' a0 m'} hm I' w'=>by
     refine⟨m',hm,i+1,a0,w,H',I'.unpinned,T.keep _ _ _ a1 fun b hb o e=>(I'.pin (b,o) (Yaa _ (Yaa _ (zbt hb e)))).1,fun b hb=>?_,w'⟩
     obtain⟨o,e,d⟩:=T.obj _ _ a1 b hb;exact(I'.pin (b,o) (Yaa _ (Yaa _ (zbt hb e)))).2.1
    refine wpAny_bind (wpAny_mono a9 (fun ok s9 ⟨H9,I9,q9⟩=>?_) fun _ _ z=>z.elim)
    cases ok with
    | false=>
     obtain⟨m',hm,w9⟩:=q9;exact wpAny_pure ⟨rfl,again hm I9 w9⟩
    | true=>
     have a5:=pe _ s9 w H9 _ I9 q9;rw [YA,Yp,Yw,F] at a5;refine wpAny_bind (wpAny_bind (wpAny_mono a5 (fun y10 ay ⟨y,al,b4,b0,e10,hz,m',hm,w10⟩=>?_) fun _ _ z=>z.elim))
     have af:=zfu (X:=Y) _ ay w al (.ref D) [y] (.ref D) [y10] (fun _ H'=>H'=upd al D (.lst (ys++[y]))) b4 rfl (.cons b0 .nil) ⟨D,ys,y,rfl,rfl,e10,hz,rfl⟩
     rw [YA,Yp,Yw,F] at af;refine wpAny_bind (wpAny_mono af (fun _ b7 ⟨_,b8,b2,_,av⟩=>?_) fun _ _ z=>z.elim)
     subst av;exact wpAny_pure (wpAny_pure ⟨rfl,again hm b2 w10⟩)
 have ad:wpAny (model X.prog X.w) X.A (newFunctionEnv scope X.env.globals cl [] X.env.qual none .none (some X.env)) (fun M s₄=>
  codeAny (model X.prog X.w) X.A (.compStart (.ListComp elt [⟨tg,iter,ifs,0⟩] scope pos) 0 (.ref it) (.ref D) { M with scope:=relabel scope X.env }) (compPost (model X.prog X.w) X.A X.xe use Qc (.ref D) M.locals) s₄) X.xe l:=by
  simp only [newFunctionEnv,Option.isSome_some,if_true];refine wpAny_bind (wpAny_alloc ?_);refine wpAny_bind (wpAny_layCells _ (fun b5 kind cells=>by cases hkc:kind==NameKind.cell<;>simp [hkc]) _ _ _ _ ?_)
  rw [List.forIn_nil];refine wpAny_bind (wpAny_pure (wpAny_pure ?_));rw [Wa1 ..];dsimp only;rw [ab];exact codeAny_compStart_list L (T.self _ 0 _ _ _ ai L)
 exact ad
theorem zaL{g:TG}(tn fn)(js)(hcalm:X.calm=true)(S:CompSc X.env.scope scope tn fn)(hj:js.map (fun j=>X.N[j]?)=fn.map some)(hi:PI X tg iter wi)
 (hb:∀ s H fp cl,PG (X.comp scope (tn++fn) s H fp cl) tg g/\PTs (X.comp scope (tn++fn) s H fp cl) ifs tt/\PE (X.comp scope (tn++fn) s H fp cl) elt te)
 (hs:∀ x,foldedSetIterable iter X.env x=pure x:=by intro _;rfl) :
 PE X (.ListComp elt [⟨tg,iter,ifs,0⟩] scope pos) (zb5 wi g tt te tn.length js):=by
 intro pins s σ H Q I h;refine zeP tn fn js hcalm S hj hi hb hs I h fun D C s6 H5 m6 ns6 hC I6 q=>⟨m6,ns6,fun h' sb=>⟨.ref D,H5,?_,rfl,q⟩⟩
 exact I6.turnedL (ch:=[C]) (fun b o hb e=>sb.extBut b o (by simpa using hb) e) fun b hb=>by
  simp_all
theorem zb3{g:TG}(hN:X.N.Nodup)(hix:X.N[i]?=some x)(hx:Loc X.env.scope x)(tn fn)(js)(hcalm:X.calm=true)(S:CompSc X.env.scope scope tn fn)(hj:js.map (fun j=>X.N[j]?)=fn.map some)(hi:PI X tg iter wi)
 (hb:∀ s H fp cl,PG (X.comp scope (tn++fn) s H fp cl) tg g/\PTs (X.comp scope (tn++fn) s H fp cl) ifs tt/\PE (X.comp scope (tn++fn) s H fp cl) elt te)
 (hs:∀ x,foldedSetIterable iter X.env x=pure x:=by intro _;rfl)
 (hsw:swapsWith (.ListComp elt [⟨tg,iter,ifs,0⟩] scope pos) (some (.Name x pos')) spos.line X.env=pure true:=by rfl) (hf:X.fn x=true\/X.env.scope.names.lookup x=some .local:=by first|exact .inl rfl|exact .inr rfl|assumption) :
 PS X (.Assign [.Name x pos'] (.ListComp elt [⟨tg,iter,ifs,0⟩] scope pos) spos) (tAsg (zb5 wi g tt te tn.length js) (zbv i)):=by
 intro pins s σ H D I h;rw [exec_Assign_Name_used _ _ _ _ hsw];refine wpAny_bind (wpAny_standAt (wpAny_bind ?_));refine wpAny_bind (wpAny_mono (zeP tn fn js hcalm S hj hi hb hs I h fun L C s6 H5 m6 ns6 hC I6 q=>?_) (fun _ s' hq=>wpAny_pure (wpAny_pure hq)) fun _ _ e=>e)
 refine wpAny_assign_Name (zeI I6 hN hix hx (v:=.ref L) rfl (fun s7 I7 k7=>?_) hf)
 have kC:∃ m7,s7.heap.Ns C m7:=by
  obtain⟨a,sb,ha⟩:=k7;refine⟨m6,ns6.sameBut sb fun z=>?_⟩
  rcases ha with e|e
  . exact hC.2.1 (z.trans e)
  . exact hC.2.2.2.2.1 x a e z.symm
 obtain⟨m7,ns7⟩:=kC;refine⟨m7,ns7,fun h' sb=>⟨_,H5,I7.turnedL (ch:=[C]) (fun b o hb e=>sb.extBut b o (by simpa using hb) e) fun b hb=>?_,q⟩⟩
 simp_all
theorem RdVs.length(h:RdVs K H xs ds):xs.length=ds.length:=by
 induction xs generalizing ds with
 | nil=>cases h;rfl
 | cons x xs ih=>cases h with|cons a b=>rw [List.length_cons,List.length_cons,ih b]
theorem RdVs.get(h:RdVs K H xs ds)(e:ds[i]?=some d):∃ x,xs[i]?=some x/\RdV K H x d:=by
 induction xs generalizing ds i with
 | nil=>cases h;simp at e
 | cons x xs ih=>
  cases h with
  | cons a b=>
   cases i with
   | zero=>simp_all
   | succ i=>
    obtain⟨x,h1,h2⟩:=ih b (by simpa using e)
    exact⟨x,by simpa using h1,h2⟩
theorem RdVs.append{es:List PyData}(h:RdVs K H xs ds)(h':RdVs K H ys es):RdVs K H (xs++ys) (ds++es):=by
 induction xs generalizing ds with
 | nil=>cases h;exact h'
 | cons x xs c=>cases h with|cons a b=>exact .cons a (c b)
theorem RdVs.set(h:RdV K H x d)(i)(r:RdVs K H xs ds):RdVs K H (xs.set i x) (ds.set i d):=by
 induction xs generalizing ds i with
 | nil=>cases r;exact .nil
 | cons y xs c=>
  cases r with
  | cons a b=>
   cases i with
   | zero=>exact .cons h b
   | succ i=>exact .cons a (c i b)
theorem RdVs.take(i)(r:RdVs K H xs ds):RdVs K H (xs.take i) (ds.take i):=by
 induction xs generalizing ds i with
 | nil=>cases r;rw [List.take_nil,List.take_nil];exact .nil
 | cons y xs c=>
  cases r with
  | cons a b=>
   cases i with
   | zero=>exact .nil
   | succ i=>exact .cons a (c i b)
theorem RdVs.drop(i)(r:RdVs K H xs ds):RdVs K H (xs.drop i) (ds.drop i):=by
 induction xs generalizing ds i with
 | nil=>cases r;rw [List.drop_nil,List.drop_nil];exact .nil
 | cons y xs c=>
  cases r with
  | cons a b=>
   cases i with
   | zero=>exact .cons a b
   | succ i=>exact c i b
def tab0(P:Addr):HO:=.ext fun h=>h.get? P=some (PySem.W.tabObj #[])
noncomputable def tabA(P c':Addr)(pos:Pos):HO:=.ext fun h=>∃ ps,h.get? P=some (PySem.W.tabObj ps)/\TriplesOk ps.toList/\codeAmong pos ps.toList=some (.ref c')
noncomputable def Jc(c':Addr)(q:Str):HO:=.ext fun h=>h.CodeRec (.ref c') q
class LamW where
 pos:Pos
 q:Str
def Lk[LamW](P:Addr)(H:Hp):Prop:=∃ c',H P=some (tabA P c' LamW.pos)/\H c'=some (Jc c' LamW.q)
variable[LamW]
def zi(H H':Hp):Prop:=∀ b o,H b=some o->H' b=some o\/(o=tab0 b/\((∀ C,tab0 b≠excO b C)/\∀ q,tab0 b≠Jc b q)/\Lk b H')
theorem Same.x{H H':Hp}(s:Same H H'):zi H H':=fun b o h=>.inl (s b o h)
theorem zi.refl(H:Hp):zi H H:=(Same.refl H).x
theorem zi.free{H H':Hp}(e:zi H H'){l:Addr}(h:H' l=none):H l=none:=by
 cases q:H l with
 | none=>rfl
 | some o=>
  rcases e l o q with z|⟨_,_,a,z,_⟩
  . grind
  grind
theorem zi.at{H H':Hp}(e:zi H H'){b:Addr}{o:HO}(h:H b=some o)(n:∀ f,o≠.ext f:=by intro f z;cases z):H' b=some o:=by
 rcases e b o h with z|⟨z,_⟩
 . exact z
 . exact absurd z (n _)
theorem zi.exc{H H':Hp}(e:zi H H'){a C:Addr}(h:H a=some (excO a C)):H' a=some (excO a C):=by
 rcases e a _ h with z|⟨z,n,_⟩
 . exact z
 . exact absurd z.symm (n.1 C)
theorem zi.code{H H':Hp}(e:zi H H'){a:Addr}{q:Str}(h:H a=some (Jc a q)):H' a=some (Jc a q):=by
 rcases e a _ h with z|⟨z,n,_⟩
 . exact z
 . exact absurd z.symm (n.2 q)
theorem Lk.same{P:Addr}{H H':Hp}(l:Lk P H)(e:zi H H'):Lk P H':=by
 obtain⟨a,b,c⟩:=l
 rcases e P _ b with z|⟨_,_,z⟩
 . exact⟨a,z,e.code c⟩
 . exact z
theorem zi.trans{H H1 H2:Hp}(a:zi H H1)(b:zi H1 H2):zi H H2:=fun c o h=>by
 rcases a c o h with z|⟨e,n,l⟩
 . exact b c o z
 . exact .inr ⟨e,n,l.same b⟩
def TabU(P:Addr)(H:Hp):Prop:=H P=some (tab0 P)\/Lk P H
theorem TabU.same{P:Addr}{H H':Hp}(t:TabU P H)(e:zi H H'):TabU P H':=by
 rcases t with h|h
 . rcases e P _ h with z|⟨_,_,l⟩
   . exact .inl z
   . exact .inr l
 . exact .inr (h.same e)
structure Sub(G H:Hp):Prop where
 s:Same G H
 cl:∀ a f,G a≠some (.ext f)
theorem Sub.free{G H:Hp}(e:Sub G H){l:Addr}(h:H l=none):G l=none:=e.s.free h
theorem Sub.seq{K:Ybf}{G H:Hp}{a:Addr}{xs:List V}(e:Sub G H)(h:SqL K G a xs):SqL K H a xs:=e.s.seq h
theorem Sub.tup{K:Ybf}{G H:Hp}{a:Addr}{xs:List V}(e:Sub G H)(h:SqT K G a xs):SqT K H a xs:=e.s.tup h
theorem Sub.trans{G H H':Hp}(e:Sub G H)(x:zi H H'):Sub G H':=⟨fun b o h=>x.at (e.s b o h) (fun f z=>by rw [z] at h;exact e.cl b f h),e.cl⟩
theorem Lk.upd{b D:Addr}{H:Hp}{o:HO}(l:Lk b H)(h:b≠D)(c:∀ f,H D≠some (.ext f)):Lk b (upd H D o):=by
 obtain⟨e,g,a⟩:=l;exact⟨e,by rw [zc h];exact g,by rw [zc (fun y=>by rw [y] at a;exact c _ a)];exact a⟩
theorem zi.chg{H0 H:Hp}{l:Addr}{o us:HO}(s:zi H0 H)(i:H0 l=none)(h:H l=some us)(c:∀ f,us≠.ext f):zi H0 (upd H l o):=fun b u e=>by
 have g:=jd e i
 rcases s b u e with z|⟨z,n,j,m,a⟩
 . exact .inl (by rw [zc g];exact z)
 . refine .inr ⟨z,n,j,by rw [zc g];exact m,?_⟩
   rw [zc (fun y=>by rw [y,h] at a;exact c _ (WaU a))];exact a
theorem zi.seq{K:Ybf}{H H':Hp}{a:Addr}{xs:List V}(e:zi H H')(h:SqL K H a xs):SqL K H' a xs:=by
 rcases h with (h|⟨o,h⟩)|h
 . exact .inl (.inl (e.at h))
 . exact .inl (.inr ⟨o,e.at h⟩)
 . exact .inr h
theorem zi.tup{K:Ybf}{H H':Hp}{a:Addr}{xs:List V}(e:zi H H')(h:SqT K H a xs):SqT K H' a xs:=by
 rcases h with (h|⟨o,h⟩)|h
 . exact .inl (.inl (e.at h))
 . exact .inl (.inr ⟨o,e.at h⟩)
 . exact .inr h
noncomputable def cln(H:Hp):Hp:=fun a=>match H a with
 | some (.ext _)=>none
 | o=>o
theorem zbW(h:H a=some o)(n:∀ f,o≠.ext f:=by intro f z;cases z):cln H a=some o:=by
 unfold cln;rw [h];cases o<;>first|rfl|exact absurd rfl (n _)
theorem zg2(H):Sub (cln H) H:=by
 refine⟨fun b o h=>?_,fun a f h=>?_⟩
 . unfold cln at h
   cases e:H b with
   | none=>simp_all
   | some u=>rw [e] at h;cases u<;>first|exact h|cases h
 . unfold cln at h
   cases e:H a with
   | none=>simp_all
   | some u=>rw [e] at h;cases u<;>cases h
end L2
namespace L3
open PySem PySem.Spec PyProof.Rows L2
variable[LamW]
abbrev D:=PyData
noncomputable def keyD:Key->D
 | .inl i=>.int i
 | .inr x=>.str x
set_option genInjectivity true
inductive Cl where
 | sh (f:Bool) (d:D)
 | ow (f:Bool) (ds:List D)
 | tr (ps:List Addr) (ms:List (List D))
 | dt (ds:List (List Key×D))
 | dk (ks:List Int)
 | fd (ds:List (List Key×D))
 | tk (k:List Key)
 | dm (a:Addr) (ds:List (Int×Int))
 | ex (C:Addr)
set_option genInjectivity false
noncomputable def Cl.d:Cl->D
 | .sh _ d=>d
 | .ow _ ds=>.list ds
 | .tr _ _=>.none
 | .dt _=>.none
 | .dk _=>.none
 | .fd _=>.none
 | .tk k=>.tuple (k.map keyD)
 | .dm _ _=>.none
 | .ex _=>.none
noncomputable def Cl.f:Cl->Bool
 | .sh f _=>f
 | .ow f _=>f
 | .tr _ _=>false
 | .dt _=>false
 | .dk _=>false
 | .fd _=>false
 | .tk _=>true
 | .dm _ _=>false
 | .ex _=>false
noncomputable def zx:D->Bool
 | .int _=>true|.bool _=>true|.str _=>true|.none=>true|_=>false
abbrev Env3:=List (Option Cl)
structure Gr(G H G' H':Hp):Prop where
 g:Same G G'
 h:zi H H'
 sub:Sub G' H'
 new:∀ b o,G' b=some o->G b=some o\/H b=none\/∃ xs,o=.tup xs
theorem Gr.refl{G H:Hp}(s:Sub G H):Gr G H G H:=⟨Same.refl _,zi.refl _,s,fun _ _ e=>.inl e⟩
theorem Gr.trans{G H G1 H1 G2 H2:Hp}(a:Gr G H G1 H1)(b:Gr G1 H1 G2 H2):Gr G H G2 H2:=
 ⟨a.g.trans b.g,a.h.trans b.h,b.sub,fun c o e=>by
  rcases b.new c o e with q|q|q
  . exact a.new c o q
  . exact .inr (.inl (a.h.free q))
  . exact .inr (.inr q)⟩
theorem Gr.put{G H:Hp}{p:Addr}{o:HO}(s:Sub G H)(hp:H p=none)(ho:∀ f,o≠.ext f:=by intro f z;cases z):Gr G H (upd G p o) (upd H p o):=
 ⟨zG (s.free hp) o,(zG hp o).x,⟨fun b u e=>by
  by_cases hb:b=p
  . subst hb;rw [zf] at e ⊢;exact e
  . rw [zc hb] at e ⊢;exact s.s b u e,fun b f e=>by
  by_cases hb:b=p
  . subst hb;rw [zf] at e;exact ho f (WaU e)
  . rw [zc hb] at e;exact s.cl b f e⟩,fun b u e=>by
  by_cases hb:b=p
  . subst hb;exact .inr (.inl hp)
  . rw [zc hb] at e;exact .inl e⟩
theorem Gr.apart{G H:Hp}{p:Addr}{o:HO}(s:Sub G H)(a:H p=none):Gr G H G (upd H p o):=
 ⟨Same.refl _,(zG a o).x,s.trans (zG a o).x,fun _ _ e=>.inl e⟩
mutual
theorem Zh{K:Ybf}{H H':Hp}(e:Same H H'):∀ {x:V} {d:D},RdV K H x d->RdV K H' x d
 | _,_,.non=>.non
 | _,_,.bl b=>.bl b
 | _,_,.int i=>.int i
 | _,_,.str x=>.str x
 | _,_,.lst q r=>.lst (e.seq q) (rdvs_same e r)
 | _,_,.tup q r=>.tup (e.tup q) (rdvs_same e r)
theorem rdvs_same{K:Ybf}{H H':Hp}(e:Same H H'):∀ {xs:List V} {ds:List D},RdVs K H xs ds->RdVs K H' xs ds
 | _,_,.nil=>.nil
 | _,_,.cons a b=>.cons (Zh e a) (rdvs_same e b)
end
theorem zko(h:SqL K H a xs):SqL K (cln H) a xs:=by
 rcases h with (h|⟨o,h⟩)|h
 . exact .inl (.inl (zbW h))
 . exact .inl (.inr ⟨o,zbW h⟩)
 . exact .inr h
theorem zjC(h:SqT K H a xs):SqT K (cln H) a xs:=by
 rcases h with (h|⟨o,h⟩)|h
 . exact .inl (.inl (zbW h))
 . exact .inl (.inr ⟨o,zbW h⟩)
 . exact .inr h
mutual
theorem zjy{K:Ybf}{H:Hp}:∀ {x:V} {d:D},RdV K H x d->RdV K (cln H) x d
 | _,_,.non=>.non
 | _,_,.bl b=>.bl b
 | _,_,.int i=>.int i
 | _,_,.str x=>.str x
 | _,_,.lst q r=>.lst (zko q) (rdvs_cln r)
 | _,_,.tup q r=>.tup (zjC q) (rdvs_cln r)
theorem rdvs_cln{K:Ybf}{H:Hp}:∀ {xs:List V} {ds:List D},RdVs K H xs ds->RdVs K (cln H) xs ds
 | _,_,.nil=>.nil
 | _,_,.cons a b=>.cons (zjy a) (rdvs_cln b)
end
mutual
inductive RdN(K:Ybf)(H0 G:Hp):V->D->Prop
 | non:RdN K H0 G .non .none
 | bl (b:_):RdN K H0 G (.bl b) (.bool b)
 | int (i:_):RdN K H0 G (.int i) (.int i)
 | str (x:_):RdN K H0 G (.str x) (.str x)
 | lst {a xs ds:_}:G a=some (.lst xs)->H0 a=none->RdNs K H0 G xs ds->RdN K H0 G (.ref a) (.list ds)
 | tup {a xs ds:_}:G a=some (.tup xs)->RdNs K H0 G xs ds->RdN K H0 G (.ref a) (.tuple ds)
inductive RdNs(K:Ybf)(H0 G:Hp):List V->List D->Prop
 | nil:RdNs K H0 G [] []
 | cons {x xs d ds:_}:RdN K H0 G x d->RdNs K H0 G xs ds->RdNs K H0 G (x::xs) (d::ds)
end
mutual
theorem zdD{K:Ybf}{H0 G:Hp}:∀ {x:V} {d:D},RdN K H0 G x d->RdV K G x d
 | _,_,.non=>.non
 | _,_,.bl b=>.bl b
 | _,_,.int i=>.int i
 | _,_,.str x=>.str x
 | _,_,.lst q _ r=>.lst (SqL.of q) (rdns_rd r)
 | _,_,.tup q r=>.tup (SqT.of q) (rdns_rd r)
theorem rdns_rd{K:Ybf}{H0 G:Hp}:∀ {xs:List V} {ds:List D},RdNs K H0 G xs ds->RdVs K G xs ds
 | _,_,.nil=>.nil
 | _,_,.cons a b=>.cons (zdD a) (rdns_rd b)
end
mutual
theorem jY{K:Ybf}{H0 H1 G G':Hp}(e:Same G G')(h:∀ a o,G a=some o->H0 a=none->H1 a=none):∀ {x:V} {d:D},RdN K H0 G x d->RdN K H1 G' x d
 | _,_,.non=>.non
 | _,_,.bl b=>.bl b
 | _,_,.int i=>.int i
 | _,_,.str x=>.str x
 | _,_,.lst q n r=>.lst (e _ _ q) (h _ _ q n) (rdns_mono e h r)
 | _,_,.tup q r=>.tup (e _ _ q) (rdns_mono e h r)
theorem rdns_mono{K:Ybf}{H0 H1 G G':Hp}(e:Same G G')(h:∀ a o,G a=some o->H0 a=none->H1 a=none):∀ {xs:List V} {ds:List D},RdNs K H0 G xs ds->RdNs K H1 G' xs ds
 | _,_,.nil=>.nil
 | _,_,.cons a b=>.cons (jY e h a) (rdns_mono e h b)
end
theorem zaX(h:zx d=true)(r:RdV K G v d):RdN K H0 G v d:=by
 cases r with
 | non=>exact .non
 | bl b=>exact .bl b
 | int i=>exact .int i
 | str s=>exact .str s
 | lst _ _=>cases h
 | tup _ _=>cases h
structure Rf(K:Ybf)(H0 G:Hp)(f:Bool)(v:V)(d:D):Prop where
 rd:RdV K G v d
 nw:f=true->RdN K H0 G v d
structure Rfs(K:Ybf)(H0 G:Hp)(f:Bool)(v:List V)(d:List D):Prop where
 rd:RdVs K G v d
 nw:f=true->RdNs K H0 G v d
theorem Rf.same(r:Rf K H0 G f v d)(e:Same G G'):Rf K H0 G' f v d:=⟨Zh e r.rd,fun h=>jY e (fun _ _ _ n=>n) (r.nw h)⟩
theorem Rfs.same{v:List V}(r:Rfs K H0 G f v d)(e:Same G G'):Rfs K H0 G' f v d:=⟨rdvs_same e r.rd,fun h=>rdns_mono e (fun _ _ _ n=>n) (r.nw h)⟩
theorem Rf.sc(h:zx d=true)(r:RdV K G v d):Rf K H0 G f v d:=⟨r,fun _=>zaX h r⟩
theorem Rf.or(r:Rf K H0 G f v d):Rf K H0 G (f||zx d) v d:=⟨r.rd,fun h=>by
 cases f with
 | true=>exact r.nw rfl
 | false=>exact zaX (by simpa using h) r.rd⟩
theorem Rfs.nil{K:Ybf}{H0 G:Hp}{f:Bool}:Rfs K H0 G f [] []:=⟨.nil,fun _=>.nil⟩
theorem Rfs.cons{K:Ybf}{H0 G:Hp}{f g:Bool}{v:V}{d:D}{vs:List V}{ds:List D}(r:Rf K H0 G f v d)(a:Rfs K H0 G g vs ds):Rfs K H0 G (f&&g) (v::vs) (d::ds):=⟨.cons r.rd a.rd,fun h=>by
 rw [Yak] at h;exact .cons (r.nw h.1) (a.nw h.2)⟩
theorem zmV{ds:List D}(r:RdNs K H0 H xs ds)(e:xs[i]?=some x)(e':ds[i]?=some d):RdN K H0 H x d:=by
 induction xs generalizing ds i with
 | nil=>simp at e
 | cons y xs ih=>
  cases r with
  | cons a b=>
   cases i with
   | zero=>simp_all
   | succ i=>exact ih b (by simpa using e) (by simpa using e')
theorem Rfs.get{K:Ybf}{H0 G:Hp}{f:Bool}{vs:List V}{ds:List D}{i:Nat}{d:D}(r:Rfs K H0 G f vs ds)(h:ds[i]?=some d):∃ v,vs[i]?=some v/\Rf K H0 G f v d:=by
 obtain⟨v,a,c⟩:=r.rd.get h;exact⟨v,a,c,fun b=>zmV (r.nw b) a h⟩
theorem zgI{ds:List D}(h:ds.all zx=true)(r:RdVs K G vs ds):RdNs K H0 G vs ds:=by
 induction vs generalizing ds with
 | nil=>cases r;exact .nil
 | cons v vs c=>
  cases r with
  | cons a b=>
   rw [List.all_cons,Yak] at h;exact .cons (zaX h.1 a) (c h.2 b)
theorem Rfs.or{ds:List D}(r:Rfs K H0 G f vs ds):Rfs K H0 G (f||ds.all zx) vs ds:=⟨r.rd,fun h=>by
 cases f with
 | true=>exact r.nw rfl
 | false=>exact zgI (by simpa using h) r.rd⟩
theorem zbA(ws:List Int):(ws.map PyData.int).all zx=true:=by
 rw [List.all_map];exact WaN.mpr fun _ _=>rfl
theorem Rfs.length{K:Ybf}{H0 G:Hp}{f:Bool}{vs:List V}{ds:List D}(r:Rfs K H0 G f vs ds):vs.length=ds.length:=r.rd.length
theorem zcB{ds es:List D}(h:RdNs K H0 H xs ds)(h':RdNs K H0 H ys es):RdNs K H0 H (xs++ys) (ds++es):=by
 induction xs generalizing ds with
 | nil=>cases h;exact h'
 | cons x xs c=>cases h with|cons a b=>exact .cons a (c b)
theorem zia(h:RdN K H0 H x d){ds:List D}(i)(r:RdNs K H0 H xs ds):RdNs K H0 H (xs.set i x) (ds.set i d):=by
 induction xs generalizing ds i with
 | nil=>cases r;exact .nil
 | cons y xs c=>
  cases r with
  | cons a b=>
   cases i with
   | zero=>exact .cons h b
   | succ i=>exact .cons a (c i b)
theorem zln{ds:List D}(i)(r:RdNs K H0 H xs ds):RdNs K H0 H (xs.take i) (ds.take i):=by
 induction xs generalizing ds i with
 | nil=>cases r;rw [List.take_nil,List.take_nil];exact .nil
 | cons y xs c=>
  cases r with
  | cons a b=>
   cases i with
   | zero=>exact .nil
   | succ i=>exact .cons a (c i b)
theorem zlW{ds:List D}(i)(r:RdNs K H0 H xs ds):RdNs K H0 H (xs.drop i) (ds.drop i):=by
 induction xs generalizing ds i with
 | nil=>cases r;rw [List.drop_nil,List.drop_nil];exact .nil
 | cons y xs c=>
  cases r with
  | cons a b=>
   cases i with
   | zero=>exact .cons a b
   | succ i=>exact c i b
theorem zjR{ds:List D}(i)(r:RdNs K H0 H xs ds):RdNs K H0 H (xs.eraseIdx i) (ds.eraseIdx i):=by
 induction xs generalizing ds i with
 | nil=>cases r;exact .nil
 | cons y xs c=>
  cases r with
  | cons a b=>
   cases i with
   | zero=>exact b
   | succ i=>exact .cons a (c i b)
theorem Rfs.snoc{ds:List D}(a:Rfs K H0 G g vs ds)(r:Rf K H0 G f v d):Rfs K H0 G (g&&f) (vs++[v]) (ds++[d]):=⟨a.rd.append (.cons r.rd .nil),fun h=>by
 rw [Yak] at h;exact zcB (a.nw h.1) (.cons (r.nw h.2) .nil)⟩
theorem Rfs.append{K:Ybf}{H0 G:Hp}{f g:Bool}{us:List V}{es:List D}{vs:List V}{ds:List D}(a:Rfs K H0 G g vs ds)(r:Rfs K H0 G f us es):Rfs K H0 G (g&&f) (vs++us) (ds++es):=⟨a.rd.append r.rd,fun h=>by
 rw [Yak] at h;exact zcB (a.nw h.1) (r.nw h.2)⟩
theorem Rfs.set{K:Ybf}{H0 G:Hp}{f g:Bool}{v:V}{d:D}{vs:List V}{ds:List D}(a:Rfs K H0 G g vs ds)(r:Rf K H0 G f v d)(i:Nat):Rfs K H0 G (g&&f) (vs.set i v) (ds.set i d):=⟨a.rd.set r.rd i,fun h=>by
 rw [Yak] at h;exact zia (r.nw h.2) i (a.nw h.1)⟩
theorem Rfs.take{K:Ybf}{H0 G:Hp}{g:Bool}{vs:List V}{ds:List D}(a:Rfs K H0 G g vs ds)(i:Nat):Rfs K H0 G g (vs.take i) (ds.take i):=⟨a.rd.take i,fun h=>zln i (a.nw h)⟩
theorem Rfs.drop{K:Ybf}{H0 G:Hp}{g:Bool}{vs:List V}{ds:List D}(a:Rfs K H0 G g vs ds)(i:Nat):Rfs K H0 G g (vs.drop i) (ds.drop i):=⟨a.rd.drop i,fun h=>zlW i (a.nw h)⟩
structure Tr(K:Ybf)(H0 G H:Hp)(l:Addr)(ps:List Addr)(ms:List (List D)):Prop where
 top:H l=some (.lst (ps.map V.ref))
 topG:G l=none
 nd:(l::ps).Nodup
 len:ps.length=ms.length
 item:∀ (k:Nat) (p:Addr) (m:List D),ps[k]?=some p->ms[k]?=some m->∃ vs,H p=some (.lst vs)/\G p=none/\Rfs K H0 G true vs m
inductive Dr(K:Ybf)(H0 G:Hp):List (List Key×V)->List (List Key×D)->Prop
 | nil:Dr K H0 G [] []
 | cons {k v d kvs ds:_}:Rf K H0 G true v d->Dr K H0 G kvs ds->Dr K H0 G ((k,v)::kvs) ((k,d)::ds)
theorem Dr.same{K:Ybf}{H0 G G':Hp}{kvs:List (List Key×V)}{ds:List (List Key×D)}(r:Dr K H0 G kvs ds)(e:Same G G'):Dr K H0 G' kvs ds:=by
 induction r with
 | nil=>exact .nil
 | cons a b c=>exact .cons (a.same e) c
def KAt(G:Hp)(o:Obj)(kvs:List (List Key×V)):Prop:=∃ (es:Array DictEntry) (ep:Nat) (as:List Addr),o.ExactDict/\o.data=.dict es ep/\es.toList.map (·.key)=as.map Value.ref/\as.length=kvs.length/\∀ (j:Nat) (a:Addr) (k:List Key) (v:V),as[j]?=some a->kvs[j]?=some (k,v)->G a=some (.tup (k.map kV))
theorem KAt.same{o:Obj}(h:KAt G o kvs)(g:Same G G'):KAt G' o kvs:=by
 obtain⟨r,p,b,n,q,m,i,l⟩:=h;exact⟨r,p,b,n,q,m,i,fun j a k v e c=>g _ _ (l j a k v e c)⟩
noncomputable def encM(ds:List (Int×Int)):List (Key×V):=ds.map fun p=>(Sum.inl p.1,V.int p.2)
inductive Vw(K:Ybf)(H0 G H:Hp):V->Cl->Prop
 | sh {v f d:_}:Rf K H0 G f v d->Vw K H0 G H v (.sh f d)
 | ow {l vs f ds:_}:H l=some (.lst vs)->Rfs K H0 G f vs ds->G l=none->Vw K H0 G H (.ref l) (.ow f ds)
 | tr {l ps ms:_}:Tr K H0 G H l ps ms->Vw K H0 G H (.ref l) (.tr ps ms)
 | dt {l kvs ds:_}:H l=some (.dT kvs)->Dr K H0 G kvs ds->G l=none->Vw K H0 G H (.ref l) (.dt ds)
 | dk {l ks:_}:H l=some (.dK (ks.map fun k=>(Sum.inl k,V.bl true)))->G l=none->Vw K H0 G H (.ref l) (.dk ks)
 | fd {l o kvs ds:_}:G l=some (.frz o (.dT kvs))->Dr K H0 G kvs ds->KAt G o kvs->Vw K H0 G H (.ref l) (.fd ds)
 | tk {b k:_}:G b=some (.tup (k.map kV))->Vw K H0 G H (.ref b) (.tk k)
 | dm {a ds:_}:H a=some (.dK (encM ds))->G a=none->Vw K H0 G H (.ref a) (.dm a ds)
 | ex {l C:_}:H l=some (excO l C)->Vw K H0 G H (.ref l) (.ex C)
noncomputable def Cl.dat:Cl->Bool
 | .ex _=>false
 | .tr _ _=>false
 | .dt _=>false
 | .dk _=>false
 | .fd _=>false
 | .dm _ _=>false
 | _=>true
def Has:Cl->V->Addr->Prop
 | .ow _ _,v,a=>v=.ref a
 | .tr ps _,v,a=>v=.ref a\/a∈ps
 | .dt _,v,a=>v=.ref a
 | .dk _,v,a=>v=.ref a
 | .dm _ _,v,a=>v=.ref a
 | _,_,_=>False
theorem Tr.at(t:Tr K H0 G H l ps ms){p:Addr}(h:p∈ps):∃ m vs,H p=some (.lst vs)/\G p=none/\Rfs K H0 G true vs m:=by
 obtain⟨k,hk,e⟩:=Yam h;have hk':k<ms.length:=by rw [<-t.len];exact hk
 obtain⟨vs,h1⟩:=t.item k p ms[k] (by rw [<-e];exact YaQ hk) (YaQ hk')
 exact⟨_,vs,h1⟩
theorem Vw.has{c:Cl}(w:Vw K H0 G H v c)(h:Has c v a):(∃ o,H a=some o/\∀ f,o≠.ext f)/\G a=none:=by
 cases w with
 | sh r=>exact False.elim h
 | ex e=>exact False.elim h
 | fd _ _ _=>exact False.elim h
 | tk _=>exact False.elim h
 | ow e r n=>cases h;exact⟨⟨_,e,fun C z=>by cases z⟩,n⟩
 | dt e r n=>cases h;exact⟨⟨_,e,fun C z=>by cases z⟩,n⟩
 | dk e n=>cases h;exact⟨⟨_,e,fun C z=>by cases z⟩,n⟩
 | dm e n=>cases h;exact⟨⟨_,e,fun C z=>by cases z⟩,n⟩
 | tr t=>
  rcases h with h|h
  . cases h;exact⟨⟨_,t.top,fun C z=>by cases z⟩,t.topG⟩
  . obtain⟨m,vs,h1,h2,_⟩:=t.at h
    exact⟨⟨_,h1,fun C z=>by cases z⟩,h2⟩
theorem Vw.turn{c:Cl}(w:Vw K H0 G H v c)(g:Same G G')(q:∀ a C,H a=some (excO a C)->H' a=some (excO a C))(i:∀ a,Has c v a->H' a=H a/\G' a=G a):Vw K H0 G' H' v c:=by
 cases w with
 | sh r=>exact .sh (r.same g)
 | ex h=>exact .ex (q _ _ h)
 | fd h r k=>exact .fd (g _ _ h) (r.same g) (k.same g)
 | tk h=>exact .tk (g _ _ h)
 | ow h r n=>
  obtain⟨b,e⟩:=i _ rfl;exact .ow (b.trans h) (r.same g) (e.trans n)
 | dt h r n=>
  obtain⟨b,e⟩:=i _ rfl;exact .dt (b.trans h) (r.same g) (e.trans n)
 | dk h n=>
  obtain⟨b,e⟩:=i _ rfl;exact .dk (b.trans h) (e.trans n)
 | dm h n=>
  obtain⟨b,e⟩:=i _ rfl;exact .dm (b.trans h) (e.trans n)
 | tr t=>
  obtain⟨b,e⟩:=i _ (.inl rfl);refine .tr ⟨b.trans t.top,e.trans t.topG,t.nd,t.len,fun k p m j o=>?_⟩
  obtain⟨u,y,s,l⟩:=t.item k p m j o;obtain⟨z,A⟩:=i p (.inr (Yah j));exact⟨u,z.trans y,A.trans s,l.same g⟩
theorem Vw.ntup{c:Cl}(w:Vw K H0 G H v c)(h:Has c v a):∀ xs,H a≠some (.tup xs):=by
 cases w with
 | sh r=>exact False.elim h
 | ex e=>exact False.elim h
 | fd _ _ _=>exact False.elim h
 | tk _=>exact False.elim h
 | ow e r n=>cases h;simp_all
 | dt e r n=>cases h;simp_all
 | dk e n=>cases h;simp_all
 | dm e n=>cases h;simp_all
 | tr t=>
  rcases h with h|h
  . cases h;intro xs z;rw [t.top] at z;cases z
  . obtain⟨m,g,i,b,_⟩:=t.at h
    simp_all
theorem Gr.hid{G H G' H':Hp}(g:Gr G H G' H'){l:Addr}{o:HO}(h:H l=some o)(n:G l=none)(a:∀ f,o≠.ext f)(b:∀ xs,H l≠some (.tup xs)):G' l=none:=by
 cases e:G' l with
 | none=>rfl
 | some o=>
  rcases g.new _ _ e with q|q|⟨xs,q⟩
  . grind
  . grind
  . have:=g.sub.s _ _ e
    rw [g.h.at h a] at this
    simp_all
theorem Vw.gr{K:Ybf}{H0 G H G' H':Hp}{v:V}{c:Cl}(w:Vw K H0 G H v c)(g:Gr G H G' H'):Vw K H0 G' H' v c:=
 w.turn g.g (fun a C e=>g.h.exc e) fun a h=>by
  obtain⟨⟨o,e,b⟩,n⟩:=w.has h;exact⟨(g.h.at e b).trans e.symm,(g.hid e n b (w.ntup h)).trans n.symm⟩
theorem Z3{K:Ybf}{G:Hp}:∀ k:List Key,RdVs K G (k.map kV) (k.map keyD)
 | []=>.nil
 | .inl i::r=>.cons (.int i) (Z3 r)
 | .inr x::r=>.cons (.str x) (Z3 r)
theorem zb2{K:Ybf}{H0 G:Hp}:∀ k:List Key,RdNs K H0 G (k.map kV) (k.map keyD)
 | []=>.nil
 | .inl i::r=>.cons (.int i) (zb2 r)
 | .inr x::r=>.cons (.str x) (zb2 r)
theorem Vw.rd{K:Ybf}{H0 G H:Hp}{v:V}{c:Cl}(w:Vw K H0 G H v c)(s:Sub G H)(a:c.dat=true):RdV K H v c.d:=by
 cases w with
 | sh r=>exact Zh s.s r.rd
 | ow h r n=>exact .lst (SqL.of h) (rdvs_same s.s r.rd)
 | tr t=>cases a
 | dt _ _ _=>cases a
 | dk _ _=>cases a
 | fd _ _ _=>cases a
 | tk h=>exact .tup (SqT.of (s.s _ _ h)) (Z3 _)
 | dm _ _=>cases a
 | ex h=>cases a
inductive Vws(K:Ybf)(H0 G H:Hp):List V->List Cl->Prop
 | nil:Vws K H0 G H [] []
 | cons {v c vs cs:_}:Vw K H0 G H v c->Vws K H0 G H vs cs->Vws K H0 G H (v::vs) (c::cs)
noncomputable def shs:List Cl->Option (Bool×List D)
 | []=>some (true,[])
 | .sh f d::r=>(shs r).map fun p=>((f&&p.1),d::p.2)
 | .ow _ _::_=>none
 | .tr _ _::_=>none
 | .dt _::_=>none
 | .dk _::_=>none
 | .fd _::_=>none
 | .tk _::_=>none
 | .dm _ _::_=>none
 | .ex _::_=>none
theorem Vws.shs{K:Ybf}{H0 G H:Hp}{vs:List V}{cs:List Cl}{p:Bool×List D}(h:Vws K H0 G H vs cs)(e:shs cs=some p):Rfs K H0 G p.1 vs p.2:=by
 induction h generalizing p with
 | nil=>cases e;exact .nil
 | cons a b g=>
  cases a with
  | sh r=>
   unfold L3.shs at e;rename_i c f d;cases q:L3.shs c with
   | none=>simp_all
   | some i=>rw [q] at e;cases e;exact .cons r (g q)
  | ow _ _ _=>cases e
  | tr _=>cases e
  | dt _ _ _=>cases e
  | dk _ _=>cases e
  | fd _ _ _=>cases e
  | tk _=>cases e
  | dm _ _=>cases e
  | ex _=>cases e
theorem Vws.rds(s:Sub G H)(h:Vws K H0 G H vs cs)(c:cs.all Cl.dat=true):RdVs K H vs (cs.map Cl.d):=by
 induction h with
 | nil=>exact .nil
 | cons a b e=>
  rw [List.all_cons,Yak] at c;exact .cons (a.rd s c.1) (e c.2)
structure Fr3(K:Ybf)(H0 G0:Hp)(ρ : Env3)(σ : L2.St)(G H:Hp):Prop where
 keep:zi H0 H
 sub:Sub G H
 old:∀ b o,G b=some o->G0 b=some o\/H0 b=none\/∃ xs,o=.tup xs
 g0:Same G0 G
 slot:∀ (i:Nat) (c:Cl),ρ[i]?=some (some c)->∃ v,σ[i]?=some (some v)/\Vw K H0 G H v c
 mine:∀ (i:Nat) (c:Cl) (v:V) (a:Addr),ρ[i]?=some (some c)->σ[i]?=some (some v)->Has c v a->H0 a=none
 apart:∀ (i j:Nat) (c c':Cl) (v v':V) (a:Addr),ρ[i]?=some (some c)->ρ[j]?=some (some c')->σ[i]?=some (some v)->σ[j]?=some (some v')->Has c v a->Has c' v' a->i=j
 len:ρ.length = σ.length
section
variable{ρ: Env3}
theorem Fr3.gr(F:Fr3 K H0 G0 ρ σ G H)(g:Gr G H G' H'):Fr3 K H0 G0 ρ σ G' H' where
 keep:=F.keep.trans g.h
 sub:=g.sub
 old:=fun b o e=>by
  rcases g.new b o e with q|q|q
  . exact F.old b o q
  . exact .inr (.inl (F.keep.free q))
  . exact .inr (.inr q)
 g0:=F.g0.trans g.g
 slot:=fun i c e=>by
  obtain⟨v,h1,h2⟩:=F.slot i c e;exact⟨v,h1,h2.gr g⟩
 mine:=F.mine
 apart:=F.apart
 len:=F.len
theorem zJ{α : Type}{l:List α}{x y:α}(h:(l.set i x)[j]?=some y):(i=j/\y=x/\i<l.length)\/(i≠j/\l[j]?=some y):=by
 by_cases e:i=j
 . subst e
   rw [List.getElem?_set_self'] at h;cases q:l[i]? with
   | none=>simp_all
   | some z=>
    rw [q] at h;cases h;exact .inl ⟨rfl,rfl,(Ya8.mp q).1⟩
 . rw [Yac e] at h
   exact .inr ⟨e,h⟩
theorem Fr3.vw(F:Fr3 K H0 G0 ρ σ G H){i:Nat}{c:Cl}{v:V}(h:ρ[i]?=some (some c))(h':σ[i]?=some (some v)):Vw K H0 G H v c:=by
 obtain⟨u,a,b⟩:=F.slot i c h
 grind
theorem Fr3.put(F:Fr3 K H0 G0 ρ σ G H){i:Nat}{v:V}{c:Cl}(s:zi H H')(w:Vw K H0 G H' v c)(hn:∀ a,Has c v a->H a=none):Fr3 K H0 G0 (ρ.set i (some c)) (σ.set i (some v)) G H':=by
 have F':=F.gr ⟨Same.refl _,s,F.sub.trans s,fun _ _ e=>.inl e⟩
 have ne:∀ (j:Nat) (c':Cl) (v':V) (a:Addr),ρ[j]?=some _->σ[j]?=some _->Has c' v' a->Has c v a->False:=fun j c' v' a e e' h h'=>by
  obtain⟨⟨o,q,_⟩,_⟩:=(F.vw e e').has h
  simp_all
 exact {
  keep:=F'.keep
  sub:=F'.sub
  old:=F'.old
  g0:=F'.g0
  slot:=fun j c' e=>by
   rcases zJ e with ⟨rfl,q,hl⟩|⟨n,q⟩
   . cases q
     exact⟨v,by rw [Yas (by rw [<-F.len];exact hl)],w⟩
   . obtain⟨v',h1,h2⟩:=F'.slot j c' q
     exact⟨v',by rw [Yac n];exact h1,h2⟩
  mine:=fun j c' v' a e e' h=>by
   rcases zJ e with ⟨rfl,q,hl⟩|⟨n,q⟩
   . cases q
     rw [Yas (by rw [<-F.len];exact hl)] at e'
     cases e';exact F.keep.free (hn a h)
   . rw [Yac n] at e'
     exact F.mine j c' v' a q e' h
  apart:=fun j k c1 c2 v1 v2 a e1 e2 e3 e4 h1 h2=>by
   rcases zJ e1 with ⟨rfl,q,hl⟩|⟨n,q⟩
   . rcases zJ e2 with ⟨rfl,q',hl'⟩|⟨n',q'⟩
     . rfl
     . cases q
       rw [Yas (by rw [<-F.len];exact hl)] at e3
       cases e3;rw [Yac n'] at e4
       exact(ne k c2 v2 a q' e4 h2 h1).elim
   . rcases zJ e2 with ⟨rfl,q',hl'⟩|⟨n',q'⟩
     . cases q'
       rw [Yas (by rw [<-F.len];exact hl')] at e4
       cases e4;rw [Yac n] at e3
       exact(ne j c1 v1 a q e3 h1 h2).elim
     . rw [Yac n] at e3
       rw [Yac n'] at e4;exact F.apart j k c1 c2 v1 v2 a q q' e3 e4 h1 h2
  len:=by rw [YaN,YaN];exact F.len }
theorem Fr3.set(F:Fr3 K H0 G0 ρ σ G H){i:Nat}{v:V}{f:Bool}{d:D}(r:Rf K H0 G f v d):Fr3 K H0 G0 (ρ.set i (some (.sh f d))) (σ.set i (some v)) G H:=F.put (zi.refl _) (.sh r) fun _ h=>False.elim h
theorem Fr3.own(F:Fr3 K H0 G0 ρ σ G H){i:Nat}{l:Addr}{vs:List V}{f:Bool}{ds:List D}(r:Rfs K H0 G f vs ds)(b:H l=none):Fr3 K H0 G0 (ρ.set i (some (.ow f ds))) (σ.set i (some (.ref l))) G (upd H l (.lst vs)):=
 F.put (zG b _).x (.ow zf r (F.sub.free b)) fun a h=>by cases h;exact b
theorem Fr3.chg(F:Fr3 K H0 G0 ρ σ G H){i:Nat}{l:Addr}{o:HO}{c c':Cl}{v:V}(r:ρ[i]?=some (some c))(g:σ[i]?=some (some v))(J:Has c v l)(I:∀ a,Has c' v a->Has c v a)(w:Vw K H0 G (upd H l o) v c'):Fr3 K H0 G0 (ρ.set i (some c')) σ G (upd H l o):=by
 have T:=F.mine i c v l r g J;obtain⟨⟨W,O,y⟩,S⟩:=(F.vw r g).has J;refine⟨F.keep.chg T O y,⟨fun b o e=>by rw [zc (jd e S)];exact F.sub.s b o e,F.sub.cl⟩,F.old,F.g0,fun j m e=>?_,fun j m E a e L h=>?_,fun j k M m Q E a R N A B s u=>?_,by rw [YaN];exact F.len⟩
 . rcases zJ e with ⟨rfl,q,_⟩|⟨n,q⟩
   . simp_all
   . obtain⟨P,s,u⟩:=F.slot j m q
     refine⟨P,s,u.turn (Same.refl _) (fun a C e=>?_) fun a h=>⟨?_,rfl⟩⟩
     . rw [zc (fun z=>by subst z;rw [O] at e;exact y _ (WaU e))];exact e
     . rw [zc (fun z=>by subst z;exact n (F.apart i j c m v P a r q g s J h))]
 . rcases zJ e with ⟨rfl,q,_⟩|⟨n,q⟩
   . cases q
     rw [g] at L;cases L;exact F.mine i c v a r g (I a h)
   . exact F.mine j m E a q L h
 . rcases zJ R with ⟨rfl,q,_⟩|⟨n,q⟩
   . rcases zJ N with ⟨rfl,p,_⟩|⟨U,p⟩
     . rfl
     . cases q
       rw [g] at A;cases A;exact F.apart i k c m v E a r p g B (I a s) u
   . rcases zJ N with ⟨rfl,p,_⟩|⟨U,p⟩
     . cases p
       rw [g] at B;cases B;exact F.apart j i M c Q v a q r A g s (I a u)
     . exact F.apart j k M m Q E a q p A B s u
theorem Fr3.change(F:Fr3 K H0 G0 ρ σ G H){i:Nat}{l:Addr}{vs:List V}{f f':Bool}{ds es:List D}(b:ρ[i]?=some (some (.ow f ds)))(a:σ[i]?=some (some (.ref l)))(r:Rfs K H0 G f' vs es):Fr3 K H0 G0 (ρ.set i (some (.ow f' es))) σ G (upd H l (.lst vs)):=
 F.chg b a rfl (fun _ h=>h) (.ow zf r ((F.vw b a).has rfl).2)
theorem Fr3.still(F:Fr3 K H0 G0 ρ σ G H){i:Nat}{c:Cl}{v:V}{f:Bool}{d:D}(s:ρ[i]?=some (some c))(m:σ[i]?=some (some v))(r:∀ G',Same G G'->(∀ a,Has c v a->G' a=H a/\H0 a=none)->Rf K H0 G' f v d):∃ G',Same G G'/\Fr3 K H0 G0 (ρ.set i (some (.sh f d))) σ G' H:=by
 have T:∀ b,Decidable (Has c v b):=fun b=>Classical.propDecidable _
 have w:=F.vw s m;have B:∀ b,Has c v b->(fun b=>if Has c v b then H b else G b) b=H b:=fun b h=>if_pos h
 have g:∀ b,¬Has c v b->(fun b=>if Has c v b then H b else G b) b=G b:=fun b h=>if_neg h
 generalize (fun b=>if Has c v b then H b else G b)=G' at B g
 have y:Same G G':=fun b o e=>by
  rw [g b (fun h=>by rw [(w.has h).2] at e;cases e)];exact e
 refine⟨G',y,F.keep,⟨fun b o e=>?_,fun b f e=>?_⟩,fun b o e=>?_,F.g0.trans y,fun j l e=>?_,fun j l C a e Q h=>?_,fun j k I l M C a O L J P p z=>?_,by rw [YaN];exact F.len⟩
 . by_cases h:Has c v b
   . rw [B b h] at e;exact e
   . rw [g b h] at e;exact F.sub.s b o e
 . by_cases h:Has c v b
   . obtain⟨⟨u,R,S⟩,_⟩:=w.has h
     simp_all
   . rw [g b h] at e;exact F.sub.cl b f e
 . by_cases h:Has c v b
   . exact .inr (.inl (F.mine i c v b s m h))
   . rw [g b h] at e;exact F.old b o e
 . rcases zJ e with ⟨rfl,q,_⟩|⟨n,q⟩
   . cases q
     exact⟨v,m,.sh (r G' y fun a h=>⟨B a h,F.mine i c v a s m h⟩)⟩
   . obtain⟨E,p,z⟩:=F.slot j l q
     exact⟨E,p,z.turn y (fun _ _ e=>e) fun a h=>⟨rfl,g a fun N=>n (F.apart i j c l v E a s q m p N h)⟩⟩
 . rcases zJ e with ⟨rfl,q,_⟩|⟨n,q⟩
   . cases q;exact False.elim h
   . exact F.mine j l C a q Q h
 . rcases zJ O with ⟨rfl,q,_⟩|⟨n,q⟩
   . cases q;exact False.elim p
   . rcases zJ L with ⟨rfl,A,_⟩|⟨U,A⟩
     . cases A;exact False.elim z
     . exact F.apart j k I l M C a q A J P p z
theorem Fr3.freeze(F:Fr3 K H0 G0 ρ σ G H){i:Nat}{f:Bool}{ds:List D}(c:ρ[i]?=some (some (.ow f ds))):∃ G',Same G G'/\Fr3 K H0 G0 (ρ.set i (some (.sh f (.list ds)))) σ G' H:=by
 obtain⟨v,g,w⟩:=F.slot i _ c;refine F.still c g fun G' b q=>?_
 cases w with
 | ow h r n=>
  obtain⟨a,j⟩:=q _ rfl;rw [h] at a;exact⟨.lst (SqL.of a) (rdvs_same b r.rd),fun e=>.lst a j (rdns_mono b (fun _ _ _ z=>z) (r.nw e))⟩
theorem zhC{ms:List (List D)}(hl:ps.length=ms.length)(h:∀ (k:Nat) (p:Addr) (m:List D),ps[k]?=some p->ms[k]?=some m->RdN K H0 G (.ref p) (.list m)):RdNs K H0 G (ps.map V.ref) (ms.map PyData.list):=by
 induction ps generalizing ms with
 | nil => cases ms with
  | nil=>exact .nil
  | cons m ms=>cases hl
 | cons p ps ih => cases ms with
  | nil=>cases hl
  | cons m ms=>exact .cons (h 0 p m rfl rfl) (ih (Nat.succ.inj hl) fun k q n h1 h2=>h (k+1) q n (by simpa using h1) (by simpa using h2))
theorem Fr3.freezeT(F:Fr3 K H0 G0 ρ σ G H){i:Nat}{ps:List Addr}{ms:List (List D)}(e:ρ[i]?=some (some (.tr ps ms))):∃ G',Same G G'/\Fr3 K H0 G0 (ρ.set i (some (.sh true (.list (ms.map PyData.list))))) σ G' H:=by
 obtain⟨v,h,w⟩:=F.slot i _ e;refine F.still e h fun G' r q=>?_
 cases w with
 | tr t=>
  obtain⟨o,l⟩:=q _ (.inl rfl);have n:RdN K H0 G' _ _:=.lst (o.trans t.top) l (zhC t.len fun k p m g u=>by
   obtain⟨y,a,b,c⟩:=t.item k p m g u;obtain⟨j,s⟩:=q p (.inr (Yah g));exact .lst (j.trans a) s (rdns_mono r (fun _ _ _ z=>z) (c.nw rfl)))
  exact⟨zdD n,fun _=>n⟩
theorem Fr3.rebase(F:Fr3 K H0 G0 ρ σ G H):Fr3 K H0 G ρ σ G H:=⟨F.keep,F.sub,fun _ _ e=>.inl e,Same.refl _,F.slot,F.mine,F.apart,F.len⟩
theorem Fr3.back{ρ1:Env3}{σ1:L2.St}{G1 H1:Hp}(F:Fr3 K H0 G1 ρ σ G H)(B:Fr3 K H0 G0 ρ1 σ1 G1 H1):Fr3 K H0 G0 ρ σ G H:=
 ⟨F.keep,F.sub,fun b o e=>(F.old b o e).elim (fun q=>B.old b o q) .inr,B.g0.trans F.g0,F.slot,F.mine,F.apart,F.len⟩
theorem Fr3.gr0(F:Fr3 K H0 G0 ρ σ G H):Gr G0 H0 G H:=⟨F.g0,F.keep,F.sub,F.old⟩
theorem Gr.back{ρ1:Env3}{σ1:L2.St}{G1 H1:Hp}(g:Gr G1 H0 G H)(B:Fr3 K H0 G0 ρ1 σ1 G1 H1):Gr G0 H0 G H:=
 ⟨B.g0.trans g.g,g.h,g.sub,fun b o e=>(g.new b o e).elim (fun q=>B.old b o q) .inr⟩
end
variable[LamW]
theorem el5{α β γ : Type}{P R:α->β->γ->Prop}{C:Prop}(f:∀ a b c,P a b c->R a b c->C)(h:∃ a b c,P a b c/\R a b c):C:=by
 obtain⟨a,b,c,x,y⟩:=h;exact f a b c x y
theorem el7{α β γ δ : Type}{P R S:α->β->γ->δ->Prop}{C:Prop}(f:∀ a b c d,P a b c d->R a b c d->S a b c d->C)(h:∃ a b c d,P a b c d/\R a b c d/\S a b c d):C:=by
 obtain⟨a,b,c,d,x,y,z⟩:=h;exact f a b c d x y z
theorem el2{α β : Type}{P R S:α->β->Prop}{C:Prop}(f:∀ a b,P a b->R a b->S a b->C)(h:∃ a b,P a b/\R a b/\S a b):C:=by
 obtain⟨a,b,x,y,z⟩:=h;exact f a b x y z
theorem el3{α β γ : Type}{P R S T:α->β->γ->Prop}{C:Prop}(f:∀ a b c,P a b c->R a b c->S a b c->T a b c->C)(h:∃ a b c,P a b c/\R a b c/\S a b c/\T a b c):C:=by
 obtain⟨a,b,c,x,y,z,w⟩:=h;exact f a b c x y z w
abbrev TE3:=Env3->(Cl->Prop)->Prop
abbrev TT3:=Env3->(Bool->Prop)->Prop
variable{ds:List D}{te ta tb tc:TE3}{A:Addr}{o:Option (Option Cl)}{P:Bool->List D->Prop}{tt:TT3}{c:Cl}{g:Int->Int->Int}{ps:List Str}{ρ:Env3}{a b:Expr}{p:Pos}
abbrev TA3:=Env3->(List Cl->Prop)->Prop
abbrev TN3:=Env3->(Bool->List D->Prop)->Prop
structure Ends3 where
 nx:Env3->Prop
 rt:Bool->D->Prop
 bk:Env3->Prop:=fun _=>False
 ct:Env3->Prop:=fun _=>False
 rm:Cl->Env3->Prop:=fun _ _=>False
abbrev TS3:=Ends3->Env3->Prop
def j0(K:Ybf)(H0:Hp)(t:TE3):TE:=fun σ H Q=>∃ G0 ρ G,Fr3 K H0 G0 ρ σ G H/\t ρ fun c=>∀ v G' H',Gr G H G' H'->Vw K H0 G' H' v c->Q v H'
def zfT(K:Ybf)(H0:Hp)(t:TN3):TE:=fun σ H Q=>∃ G0 ρ G,Fr3 K H0 G0 ρ σ G H/\t ρ fun f ds=>∀ l vs G' H',Gr G H G' H'->H' l=none->Rfs K H0 G' f vs ds->Q (.ref l) (upd H' l (.lst vs))
def Zg(K:Ybf)(H0:Hp)(t:TT3):TT:=fun σ H Q=>∃ G0 ρ G,Fr3 K H0 G0 ρ σ G H/\t ρ fun b=>∀ G' H',Gr G H G' H'->Q b H'
def zkc(K:Ybf)(H0:Hp)(t:TA3):TA:=fun σ H Q=>∃ G0 ρ G,Fr3 K H0 G0 ρ σ G H/\t ρ fun cs=>∀ vs G' H',Gr G H G' H'->Vws K H0 G' H' vs cs->Q vs H'
structure LD(K:Ybf)(H0 G0:Hp)(A:Ends3)(B:Ends):Prop where
 nx:∀ ρ σ G H,Fr3 K H0 G0 ρ σ G H->A.nx ρ->B.nx σ H
 rt:∀ f d v G H,Gr G0 H0 G H->Rf K H0 G f v d->A.rt f d->B.rt v H
 bk:∀ ρ σ G H,Fr3 K H0 G0 ρ σ G H->A.bk ρ->B.bk σ H
 ct:∀ ρ σ G H,Fr3 K H0 G0 ρ σ G H->A.ct ρ->B.ct σ H
 rm:∀ c v ρ σ G H,Fr3 K H0 G0 ρ σ G H->Vw K H0 G H v c->(∀ a,Has c v a->H0 a=none/\∀ (j:Nat) (c':Cl) (v':V),ρ[j]?=some (some c')->σ[j]?=some (some v')->¬Has c' v' a)->A.rm c ρ->B.rt v H
def zeE(K:Ybf)(H0:Hp)(t:TS3):TS:=fun B σ H=>∃ G0 A ρ G,Fr3 K H0 G0 ρ σ G H/\t A ρ/\LD K H0 G0 A B
structure PE3(X:Cx)(H0:Hp)(e:Expr)(t:TE3):Prop where
 mono:∀ ρ (Q Q':Cl->Prop),(∀ c,Q c->Q' c)->t ρ Q->t ρ Q'
 ok:PE X e (j0 X.K H0 t)
structure PN3(X:Cx)(H0:Hp)(e:Expr)(t:TN3):Prop where
 mono:∀ ρ (Q Q':Bool->List D->Prop),(∀ f c,Q f c->Q' f c)->t ρ Q->t ρ Q'
 ok:PE X e (zfT X.K H0 t)
structure PT3(X:Cx)(H0:Hp)(e:Expr)(t:TT3):Prop where
 mono:∀ ρ (Q Q':Bool->Prop),(∀ c,Q c->Q' c)->t ρ Q->t ρ Q'
 ok:PT X e (Zg X.K H0 t)
structure PW3(X:Cx)(H0:Hp)(e:Expr)(t:TT3):Prop where
 mono:∀ ρ (Q Q':Bool->Prop),(∀ c,Q c->Q' c)->t ρ Q->t ρ Q'
 ok:PW X e (Zg X.K H0 t)
structure PA3(X:Cx)(H0:Hp)(es:List Expr)(t:TA3):Prop where
 mono:∀ ρ (Q Q':List Cl->Prop),(∀ c,Q c->Q' c)->t ρ Q->t ρ Q'
 ok:PA X es (zkc X.K H0 t)
def PS3(X:Cx)(H0:Hp)(st:Stmt)(t:TS3):Prop:=PS X st (zeE X.K H0 t)
def PSs3(X:Cx)(H0:Hp)(st:List Stmt)(t:TS3):Prop:=PSs X st (zeE X.K H0 t)
theorem PE.imp{t':TE}(h:PE X e t)(i:∀ σ H Q,t' σ H Q->t σ H Q):PE X e t':=fun a s σ H Q I q=>h _ s σ H Q I (i _ _ _ q)
theorem PT.imp{t':TT}(h:PT X e t)(i:∀ σ H Q,t' σ H Q->t σ H Q):PT X e t':=fun a s σ H Q I q=>h _ s σ H Q I (i _ _ _ q)
theorem PW.imp{t':TT}(h:PW X e t)(i:∀ σ H Q,t' σ H Q->t σ H Q):PW X e t':=fun b a s σ H Q I q=>h b _ s σ H Q I (i _ _ _ q)
theorem PA.imp{e:List Expr}{t':TA}(h:PA X e t)(i:∀ σ H Q,t' σ H Q->t σ H Q):PA X e t':=fun a b s σ H Q I q=>h a _ s σ H Q I (i _ _ _ q)
theorem PS.imp{e:Stmt}{t':TS}(h:PS X e t)(i:∀ B σ H,t' B σ H->t B σ H):PS X e t':=fun a s σ H B I q=>h _ s σ H B I (i _ _ _ q)
theorem PSs.imp{e:List Stmt}{t':TS}(h:PSs X e t)(i:∀ B σ H,t' B σ H->t B σ H):PSs X e t':=fun a s σ H B I q=>h _ s σ H B I (i _ _ _ q)
section
variable{c:Expr}
def atV(o:Option (Option Cl))(P:Cl->Prop):Prop:=match o with
 | some (some c)=>P c
 | _=>False
theorem zek{P:Cl->Prop}(h:atV o P):∃ c,o=some (some c)/\P c:=by
 cases o with
 | none=>exact False.elim h
 | some x => cases x with
  | none=>exact False.elim h
  | some c=>exact⟨c,rfl,h⟩
def asS(c:Cl)(P:Bool->D->Prop):Prop:=match c with
 | .sh f d=>P f d
 | _=>False
theorem Ju{c:Cl}{P:Bool->D->Prop}(h:asS c P):∃ f d,c=.sh f d/\P f d:=by
 cases c with
 | sh f d=>exact⟨f,d,rfl,h⟩
 | _=>exact False.elim h
def asD(d:D)(P:Bool->Prop):Prop:=match d with
 | .bool k=>P k
 | _=>False
def asB(c:Cl)(P:Bool->Prop):Prop:=match c with
 | .sh true d=>asD d P
 | _=>False
theorem zgE{c:Cl}{P:Bool->Prop}(h:asB c P):∃ k,c=.sh true (.bool k)/\P k:=by
 cases c with
 | sh f d => cases f with
  | true => cases d with
   | bool k=>exact⟨k,rfl,h⟩
   | _=>exact False.elim h
  | false=>exact False.elim h
 | _=>exact False.elim h
def optP{α : Type}(o:Option α)(P:α->Prop):Prop:=match o with
 | some a=>P a
 | none=>False
theorem zbD{o:Option α}{P:α->Prop}(h:optP o P):∃ a,o=some a/\P a:=by
 cases o with
 | none=>exact False.elim h
 | some a=>exact⟨a,rfl,h⟩
def asT(d:D)(P:List D->Prop):Prop:=match d with
 | .tuple ds=>P ds
 | _=>False
theorem zb8{P:List D->Prop}(h:asT d P):∃ ds,d=.tuple ds/\P ds:=by
 cases d with
 | tuple ds=>exact⟨ds,rfl,h⟩
 | _=>exact False.elim h
def asLd(d:D)(P:List D->Prop):Prop:=match d with
 | .list ds=>P ds
 | _=>False
def asL(c:Cl)(P:Bool->List D->Prop):Prop:=match c with
 | .sh f d=>asLd d (P f)
 | _=>False
theorem ze7{c:Cl}(h:asL c P):∃ f ds,c=.sh f (.list ds)/\P f ds:=by
 cases c with
 | sh f d => cases d with
  | list ds=>exact⟨f,ds,rfl,h⟩
  | _=>exact False.elim h
 | _=>exact False.elim h
def atO(o:Option (Option Cl))(P:Bool->List D->Prop):Prop:=match o with
 | some (some (.ow f ds))=>P f ds
 | _=>False
theorem zg1(h:atO o P):∃ f ds,o=some (some (.ow f ds))/\P f ds:=by
 cases o with
 | none=>exact False.elim h
 | some x => cases x with
  | none=>exact False.elim h
  | some c => cases c with
   | ow f ds=>exact⟨f,ds,rfl,h⟩
   | _=>exact False.elim h
def Zl{α : Type}(l:List α)(P:α->List α->Prop):Prop:=match l with
 | d::r=>P d r
 | []=>False
theorem zd0{l:List α}{P:α->List α->Prop}(h:Zl l P):∃ d r,l=d::r/\P d r:=by
 cases l with
 | nil=>exact False.elim h
 | cons d r=>exact⟨d,r,rfl,h⟩
def nilP{α : Type}(l:List α)(P:Prop):Prop:=match l with
 | []=>P
 | _::_=>False
theorem zf8{l:List α}{P:Prop}(h:nilP l P):l=[]/\P:=by
 cases l with
 | nil=>exact⟨rfl,h⟩
 | cons d r=>exact False.elim h
def asId(d:D)(P:Int->Prop):Prop:=match d with
 | .int i=>P i
 | _=>False
def asI(c:Cl)(P:Int->Prop):Prop:=match c with
 | .sh true d=>asId d P
 | _=>False
theorem jK{c:Cl}{P:Int->Prop}(h:asI c P):∃ k,c=.sh true (.int k)/\P k:=by
 cases c with
 | sh f d => cases f with
  | true => cases d with
   | int k=>exact⟨k,rfl,h⟩
   | _=>exact False.elim h
  | false=>exact False.elim h
 | _=>exact False.elim h
def v3(i:Nat):TE3:=fun ρ Q=>atV ρ[i]? Q
def k3(d:D):TE3:=fun _ Q=>Q (.sh true d)
theorem n3(i:Nat){x:Str}(n:X.N[i]?=some x:=by rfl)(b:Vis X.env.scope x:=by first|exact Or.inl rfl|exact Or.inr (Or.inl rfl)|exact Or.inr (Or.inr rfl))(m:(x==("__debug__" : Str))=false:=by decide)(a:(x==("__classdict__" : Str))=false:=by decide) :
 PE3 X H0 (.Name x pos) (v3 i):=by
 refine⟨fun ρ Q g h q=>?_,PE.imp (jx n b m a) fun σ H Q=>el5 fun o ρ G F q=>?_⟩
 . obtain⟨c,e,q⟩:=zek q
   show atV _ g
   rw [e];exact h c q
 obtain⟨c,e,q⟩:=zek q;obtain⟨v,j,l⟩:=F.slot i c e;exact⟨v,j,q v G H (Gr.refl F.sub) l⟩
theorem zaN{v:V}{d:D}(h:PE X e (tC v))(r:∀ G,RdV X.K G v d)(a:zx d=true):PE3 X H0 e (k3 d):=
 ⟨fun ρ Q b h q=>h _ q,PE.imp h fun σ H Q=>el5 fun c ρ G F q=>q v G H (Gr.refl F.sub) (.sh (.sc a (r G)))⟩
theorem i3{i j pos}:PE3 X H0 (.Constant (.int i) j pos) (k3 (.int i)):=zaN jP (fun _=>.int i) rfl
theorem b3{i j pos}:PE3 X H0 (.Constant (.bool i) j pos) (k3 (.bool i)):=zaN zgm (fun _=>.bl i) rfl
theorem non3{j pos}:PE3 X H0 (.Constant .none j pos) (k3 .none):=zaN zlL (fun _=>.non) rfl
theorem s3{i j pos}:PE3 X H0 (.Constant (.str i) j pos) (k3 (.str i)):=zaN zgl (fun _=>.str i) rfl
theorem g3{x:Str}{v:V}{u:Value}{d:D}(c:Gl X x)(a:X.mg x=some u)(r:RelV v u)(g:∀ G,RdV X.K G v d)(e:zx d=true)(b:(x==("__debug__" : Str))=false:=by decide):PE3 X H0 (.Name x pos) (k3 d):=zaN (zgz c a r b) g e
def nw3(t:TN3):TE3:=fun ρ Q=>t ρ fun f ds=>Q (.sh f (.list ds))
theorem new3{t:TN3}(h:PN3 X H0 e t):PE3 X H0 e (nw3 t):=
 ⟨fun ρ Q n j q=>h.mono ρ _ _ (fun f i=>j _) q,PE.imp h.ok fun σ H Q=>el5 fun c ρ G F q=>⟨c,ρ,G,F,h.mono ρ _ _ (fun f i k l o p m g a r=>
  k _ _ _ (g.trans (Gr.put g.sub a)) (.sh ⟨.lst (SqL.of zf) (rdvs_same (zG (g.sub.free a) _) r.rd),fun b=>.lst zf ((F.keep.trans g.h).free a) (rdns_mono (zG (g.sub.free a) _) (fun _ _ _ z=>z) (r.nw b))⟩)) q⟩⟩
abbrev R3:=Cl->Cl->(Bool->D->Prop)->Prop
def zaU(K:Ybf)(H0:Hp)(r:R3):R2:=fun x y H Q=>∃ G a b,Sub G H/\Vw K H0 G H x a/\Vw K H0 G H y b/\r a b fun f d=>∀ v G' H',Gr G H G' H'->Rf K H0 G' f v d->Q v H'
structure OpOk(X:Cx)(f:Value->Value->Sem Value)(r:R3):Prop where
 mono:∀ a b (Q Q':Bool->D->Prop),(∀ f c,Q f c->Q' f c)->r a b Q->r a b Q'
 ok:∀ H0,OpR X f (zaU X.K H0 r)
theorem OpR.imp{r r':R2}(h:OpR X f r)(i:∀ x y H Q,r' x y H Q->r x y H Q):OpR X f r':=fun a s σ H x y v u Q I c b q=>h _ s σ H x y v u Q I c b (i _ _ _ _ q)
def o3(r:R3)(ta tb:TE3):TE3:=fun ρ Q=>ta ρ fun a=>tb ρ fun b=>r a b fun f d=>Q (.sh f d)
theorem zaP{r:R3}(e:∀ a b (Q Q':Bool->D->Prop),(∀ f c,Q f c->Q' f c)->r a b Q->r a b Q')(g:∀ ρ (Q Q':Cl->Prop),(∀ c,Q c->Q' c)->ta ρ Q->ta ρ Q')(i:∀ ρ (Q Q':Cl->Prop),(∀ c,Q c->Q' c)->tb ρ Q->tb ρ Q') :
 ∀ ρ (Q Q':Cl->Prop),(∀ c,Q c->Q' c)->o3 r ta tb ρ Q->o3 r ta tb ρ Q':=fun ρ Q Q' h q=>g ρ _ _ (fun a=>i ρ _ _ fun b=>e a b _ _ fun f d=>h _) q
theorem zbx{r:R3}{ta tb:TE3}(z:∀ a b (Q Q':Bool->D->Prop),(∀ f c,Q f c->Q' f c)->r a b Q->r a b Q')(s:∀ ρ (Q Q':Cl->Prop),(∀ c,Q c->Q' c)->ta ρ Q->ta ρ Q')(p:∀ ρ (Q Q':Cl->Prop),(∀ c,Q c->Q' c)->tb ρ Q->tb ρ Q'){K:Ybf} :
 ∀ σ H Q,j0 K H0 (o3 r ta tb) σ H Q->tOp (zaU K H0 r) (j0 K H0 ta) (j0 K H0 tb) σ H Q:=fun σ H Q=>el5 fun h ρ G F q=>
 ⟨h,ρ,G,F,s ρ _ _ (fun a m E n A i u=>⟨h,ρ,n,F.gr i,p ρ _ _ (fun b l C w B e o=>⟨w,a,b,e.sub,u.gr e,o,z a b _ _ (fun f d k v y j g r=>k v y j ((i.trans e).trans g) (.sh r)) l⟩) m⟩) q⟩
theorem op3{op:Operator}{r:R3}{ta tb:TE3}(e:OpOk X (binaryOp op) r)(g:PE3 X H0 a ta)(c:PE3 X H0 b tb):PE3 X H0 (.BinOp a op b pos) (o3 r ta tb):=
 ⟨zaP e.mono g.mono c.mono,PE.imp (Jy (e.ok H0) g.ok c.ok) (zbx e.mono g.mono c.mono)⟩
theorem cmp3{op:CmpOp}{r:R3}{ta tb:TE3}(e:OpOk X (compareOp op) r)(g:PE3 X H0 a ta)(c:PE3 X H0 b tb)(h:behindInMarks op b=false):PE3 X H0 (.Compare a [op] [b] pos) (o3 r ta tb):=
 ⟨zaP e.mono g.mono c.mono,PE.imp (zkA (e.ok H0) g.ok c.ok h) (zbx e.mono g.mono c.mono)⟩
def tt3(t:TE3):TT3:=fun ρ Q=>t ρ fun c=>asB c Q
theorem zdC(w:Vw K H0 G H v (.sh f (.bool k))):v=.bl k:=by
 cases w with
 | sh r=>cases r.rd;rfl
theorem zcD{t:TE3}{K:Ybf}(h:∀ ρ (Q Q':Cl->Prop),(∀ c,Q c->Q' c)->t ρ Q->t ρ Q'):∀ σ H Q,Zg K H0 (tt3 t) σ H Q->zat (j0 K H0 t) σ H Q:=fun σ H Q=>el5 fun b ρ G F q=>
 ⟨b,ρ,G,F,h ρ _ _ (fun c q v i a g w=>by obtain⟨k,e,q⟩:=zgE q;subst e;exact⟨k,zdC w,q i a g⟩) q⟩
theorem zbE{t:TE3}(a:∀ ρ (Q Q':Cl->Prop),(∀ c,Q c->Q' c)->t ρ Q->t ρ Q'):∀ ρ (Q Q':Bool->Prop),(∀ c,Q c->Q' c)->tt3 t ρ Q->tt3 t ρ Q':=fun ρ Q Q' h q=>a ρ _ _ (fun c q=>by obtain⟨k,e,q⟩:=zgE q;subst e;exact h k q) q
theorem zff{t t':TE}(h:∀ σ H Q,t' σ H Q->t σ H Q):∀ σ H Q,zat t' σ H Q->zat t σ H Q:=fun σ H Q q=>h _ _ _ q
theorem zt{op:CmpOp}{r:R3}{ta tb:TE3}(c:OpOk X (compareOp op) r)(e:PE3 X H0 a ta)(g:PE3 X H0 b tb)(h:behindInMarks op b=false):PT3 X H0 (.Compare a [op] [b] pos) (tt3 (o3 r ta tb)):=
 ⟨zbE (zaP c.mono e.mono g.mono),PT.imp (zbH (c.ok H0) e.ok g.ok h) fun σ H Q q=>zff (zbx c.mono e.mono g.mono) σ H Q (zcD (zaP c.mono e.mono g.mono) σ H Q q)⟩
def ch3(r r':R3)(ta tb tc:TE3):TE3:=fun ρ Q=>ta ρ fun x=>tb ρ fun y=>r x y fun _ z=>∃ k,z=.bool k/\if k=true then tc ρ fun w=>r' y w fun f d=>Q (.sh f d) else Q (.sh true (.bool false))
theorem zeB(w:RdV K G v (.bool k)):v=.bl k:=by cases w;rfl
theorem zgi{r r':R3}(hr:∀ a b (Q Q':Bool->D->Prop),(∀ f c,Q f c->Q' f c)->r a b Q->r a b Q')(hr':∀ a b (Q Q':Bool->D->Prop),(∀ f c,Q f c->Q' f c)->r' a b Q->r' a b Q')(ha:∀ ρ (Q Q':Cl->Prop),(∀ c,Q c->Q' c)->ta ρ Q->ta ρ Q')(hb:∀ ρ (Q Q':Cl->Prop),(∀ c,Q c->Q' c)->tb ρ Q->tb ρ Q')
 (hc:∀ ρ (Q Q':Cl->Prop),(∀ c,Q c->Q' c)->tc ρ Q->tc ρ Q'):∀ ρ (Q Q':Cl->Prop),(∀ c,Q c->Q' c)->ch3 r r' ta tb tc ρ Q->ch3 r r' ta tb tc ρ Q':=fun ρ Q Q' h q=>ha ρ _ _ (fun x=>hb ρ _ _ fun y=>hr x y _ _ fun _ z zz0=>by obtain⟨k,e,q⟩:=zz0;exact⟨k,e,by
 cases k with
 | true=>exact hc ρ _ _ (fun w=>hr' y w _ _ fun f d=>h _) q
 | false=>exact h _ q⟩) q
theorem zlQ{r r':R3}{ta tb tc:TE3}(T:∀ a b (Q Q':Bool->D->Prop),(∀ f c,Q f c->Q' f c)->r a b Q->r a b Q')(l:∀ a b (Q Q':Bool->D->Prop),(∀ f c,Q f c->Q' f c)->r' a b Q->r' a b Q')(C:∀ ρ (Q Q':Cl->Prop),(∀ c,Q c->Q' c)->ta ρ Q->ta ρ Q')(E:∀ ρ (Q Q':Cl->Prop),(∀ c,Q c->Q' c)->tb ρ Q->tb ρ Q')
 (N:∀ ρ (Q Q':Cl->Prop),(∀ c,Q c->Q' c)->tc ρ Q->tc ρ Q') {K:Ybf}:∀ σ H Q,j0 K H0 (ch3 r r' ta tb tc) σ H Q->zfZ (zaU K H0 r) (zaU K H0 r') (j0 K H0 ta) (j0 K H0 tb) (j0 K H0 tc) σ H Q:=fun σ H Q=>el5 fun m ρ G F q=>
 ⟨m,ρ,G,F,C ρ _ _ (fun x A Z B W i I=>⟨m,ρ,B,F.gr i,E ρ _ _ (fun y P Y J H2 h p=>⟨J,x,y,h.sub,I.gr h,p,T x y _ _ (fun _ z n v3 s M j L=>by
  obtain⟨k,e,q⟩:=n;subst e;refine⟨k,zeB L.rd,?_⟩;cases k with
  | false=>exact q _ s M ((i.trans h).trans j) (.sh (.sc rfl (.bl false)))
  | true=>exact⟨m,ρ,s,F.gr ((i.trans h).trans j),N ρ _ _ (fun w O X S H4 o U=>⟨S,y,w,o.sub,(p.gr j).gr o,U,l y w _ _ (fun f d k v R u g r=>k v R u ((((i.trans h).trans j).trans o).trans g) (.sh r)) O⟩) q⟩) P⟩) A⟩) q⟩
theorem JM{op op':CmpOp}{r r':R3}{ta tb tc:TE3}(g:OpOk X (compareOp op) r)(e:OpOk X (compareOp op') r')(h:PE3 X H0 a ta)(j:PE3 X H0 b tb)(i:PE3 X H0 c tc)(l:lastMarks [op,op'] [b,c]=false:=by with_unfolding_all rfl) :
 PT3 X H0 (.Compare a [op,op'] [b,c] pos) (tt3 (ch3 r r' ta tb tc)):=
 ⟨zbE (zgi g.mono e.mono h.mono j.mono i.mono),PT.imp (zmS (g.ok H0) (e.ok H0) h.ok j.ok i.ok l) fun σ H Q q=>zff (zlQ g.mono e.mono h.mono j.mono i.mono) σ H Q (zcD (zgi g.mono e.mono h.mono j.mono i.mono) σ H Q q)⟩
abbrev U3:=Cl->(Bool->D->Prop)->Prop
def zjB(K:Ybf)(H0:Hp)(r:U3):V->Hp->VK->Prop:=fun x H Q=>∃ G a,Sub G H/\Vw K H0 G H x a/\r a fun f d=>∀ v G' H',Gr G H G' H'->Rf K H0 G' f v d->Q v H'
structure UnOk(X:Cx)(f:Value->Sem Value)(r:U3):Prop where
 mono:∀ a (Q Q':Bool->D->Prop),(∀ f c,Q f c->Q' f c)->r a Q->r a Q'
 ok:∀ H0,UnR X f (zjB X.K H0 r)
def u3(r:U3)(ta:TE3):TE3:=fun ρ Q=>ta ρ fun a=>r a fun f d=>Q (.sh f d)
theorem un3{op:UnaryOp}{r:U3}{ta:TE3}(b:UnOk X (unaryOp op) r)(c:PE3 X H0 a ta):PE3 X H0 (.UnaryOp op a pos) (u3 r ta):=
 ⟨fun ρ Q p h q=>c.mono ρ _ _ (fun a=>b.mono a _ _ fun f d=>h _) q,PE.imp (ziI (b.ok H0) c.ok) fun σ H Q=>el5 fun j ρ G F q=>
  ⟨j,ρ,G,F,c.mono ρ _ _ (fun a l u m s e n=>⟨m,a,e.sub,n,b.mono a _ _ (fun f d k v o i g r=>k v o i (e.trans g) (.sh r)) l⟩) q⟩⟩
theorem val3{t:TE3}(h:PE3 X H0 e t)(a:∀ whole,isTrue e X.env whole=(do let v <-whole;standAt e.pos;holding [v] (truthy v)):=by intro _;rfl):PT3 X H0 e (tt3 t):=
 ⟨zbE h.mono,PT.imp (zhV h.ok a) (zcD h.mono)⟩
def and3(t u:TT3):TT3:=fun ρ Q=>t ρ fun k=>if k=true then u ρ Q else Q false
def or3(t u:TT3):TT3:=fun ρ Q=>t ρ fun k=>if k=true then Q true else u ρ Q
def not3(t:TT3):TT3:=fun ρ Q=>t ρ fun k=>Q (!k)
theorem jD{t:TT3}(h:PT3 X H0 a t):PT3 X H0 (.UnaryOp .Not a pos) (not3 t):=
 ⟨fun ρ Q e c q=>h.mono ρ _ _ (fun k=>c _) q,PT.imp (zi7 h.ok) fun σ H Q=>el5 fun b ρ G F q=>⟨b,ρ,G,F,q⟩⟩
theorem zcj{t:TT3}(h:PT3 X H0 a t):PW3 X H0 (.BoolOp .And [a] pos) t:=⟨h.mono,zkL h.ok⟩
theorem Ji{t:TT3}(h:PT3 X H0 a t):PW3 X H0 (.BoolOp .Or [a] pos) t:=⟨h.mono,zgF h.ok⟩
theorem zdE{rest:List Expr}{t u:TT3}(h:PT3 X H0 a t)(h':PW3 X H0 (.BoolOp .And (b::rest) pos) u):PW3 X H0 (.BoolOp .And (a::b::rest) pos) (and3 t u):=
 ⟨fun ρ Q p j q=>h.mono ρ _ _ (fun k=>by cases k;exact j _;exact h'.mono ρ _ _ j) q,PW.imp (zmJ h.ok h'.ok) fun σ H Q=>el5 fun e ρ G F q=>⟨e,ρ,G,F,h.mono ρ _ _ (fun k i g l c=>by
  cases k with
  | false=>exact i g l c
  | true=>exact⟨e,ρ,g,F.gr c,h'.mono ρ _ _ (fun k q o m n=>q o m (c.trans n)) i⟩) q⟩⟩
theorem jZ{rest:List Expr}{t u:TT3}(h:PT3 X H0 a t)(h':PW3 X H0 (.BoolOp .Or (b::rest) pos) u):PW3 X H0 (.BoolOp .Or (a::b::rest) pos) (or3 t u):=
 ⟨fun ρ Q p j q=>h.mono ρ _ _ (fun k=>by cases k;exact h'.mono ρ _ _ j;exact j _) q,PW.imp (zex h.ok h'.ok) fun σ H Q=>el5 fun e ρ G F q=>⟨e,ρ,G,F,h.mono ρ _ _ (fun k i g l c=>by
  cases k with
  | true=>exact i g l c
  | false=>exact⟨e,ρ,g,F.gr c,h'.mono ρ _ _ (fun k q o m n=>q o m (c.trans n)) i⟩) q⟩⟩
theorem pw3{t:TT3}(h:PW3 X H0 e t):PT3 X H0 e t:=⟨h.mono,h.ok.pt⟩
def zav(ta tb:TE3):TE3:=fun ρ Q=>ta ρ fun c=>∃ k,c=.sh true (.bool k)/\if k=true then tb ρ Q else Q (.sh true (.bool false))
def za0(ta:TE3):TE3:=fun ρ Q=>ta ρ fun c=>∃ k,c=.sh true (.bool k)/\Q (.sh true (.bool (!k)))
theorem one3{op}{t:TE3}(h:PE3 X H0 a t):PE3 X H0 (.BoolOp op [a] pos) t:=⟨h.mono,zkx h.ok⟩
theorem zkb{rest:List Expr}{ta tb:TE3}(h:PE3 X H0 a ta)(h':PE3 X H0 (.BoolOp .And (b::rest) pos) tb):PE3 X H0 (.BoolOp .And (a::b::rest) pos) (zav ta tb):=
 ⟨fun ρ Q Q' hq q=>h.mono ρ _ _ (fun c zz0=>by obtain⟨k,e,q⟩:=zz0;exact⟨k,e,by cases k;exact hq _ q;exact h'.mono ρ _ _ hq q⟩) q,PE.imp (zmf h.ok h'.ok) fun σ H Q=>el5 fun G0 ρ G F q=>⟨G0,ρ,G,F,h.mono ρ _ _ (fun c hyp v G1 H1 g1 w=>by
  obtain⟨k,e,qk⟩:=hyp;subst e;refine⟨k,zdC w,?_⟩;cases k with
  | false=>exact qk _ G1 H1 g1 (.sh (.sc rfl (.bl false)))
  | true=>exact⟨G0,ρ,G1,F.gr g1,h'.mono ρ _ _ (fun k q v G2 H2 g2=>q v G2 H2 (g1.trans g2)) qk⟩) q⟩⟩
theorem zil{ta:TE3}(h:PE3 X H0 a ta):PE3 X H0 (.UnaryOp .Not a pos) (za0 ta):=
 ⟨fun ρ Q Q' hq q=>h.mono ρ _ _ (fun c zz0=>by obtain⟨k,e,q⟩:=zz0;exact⟨k,e,hq _ q⟩) q,PE.imp (zmy h.ok) fun σ H Q=>el5 fun G0 ρ G F q=>⟨G0,ρ,G,F,h.mono ρ _ _ (fun c hyp v G1 H1 g1 w=>by
  obtain⟨k,e,qk⟩:=hyp;subst e;exact⟨k,zdC w,qk _ G1 H1 g1 (.sh (.sc rfl (.bl _)))⟩) q⟩⟩
def nil3:TA3:=fun _ Q=>Q []
def ZX(ta:TE3)(tr:TA3):TA3:=fun ρ Q=>ta ρ fun c=>tr ρ fun cs=>Q (c::cs)
theorem zb:PA3 X H0 [] nil3:=⟨fun ρ Q a h q=>h _ q,PA.imp zK fun σ H Q=>el5 fun b ρ G F q=>q [] G H (Gr.refl F.sub) .nil⟩
theorem za{es:List Expr}{ta:TE3}{tr:TA3}(a:PE3 X H0 e ta)(b:PA3 X H0 es tr)(u:starEach (e::es) X.env=(false,eval e X.env)::starEach es X.env:=by rfl):PA3 X H0 (e::es) (ZX ta tr):=
 ⟨fun ρ Q w h q=>a.mono ρ _ _ (fun c=>b.mono ρ _ _ fun n=>h _) q,PA.imp (zn a.ok b.ok u) fun σ H Q=>el5 fun g ρ G F q=>
  ⟨g,ρ,G,F,a.mono ρ _ _ (fun c l v o y j r=>⟨g,ρ,o,F.gr j,b.mono ρ _ _ (fun n k z s m i p=>k _ s m (j.trans i) (.cons (r.gr i) p)) l⟩) q⟩⟩
def tup3(t:TA3):TE3:=fun ρ Q=>t ρ fun cs=>optP (shs cs) fun p=>p.2.length<=sizeLine/\Q (.sh p.1 (.tuple p.2))
theorem zY{es:List Expr}{t:TA3}{x1}(h:PA3 X H0 es t):PE3 X H0 (.Tuple es x1 pos) (tup3 t):=
 ⟨fun ρ Q n m q=>h.mono ρ _ _ (fun j q=>by obtain⟨l,e,z,q⟩:=zbD q;rw [e];exact⟨z,m _ q⟩) q,PE.imp (zbY h.ok) fun σ H Q=>el5 fun i ρ G F q=>⟨i,ρ,G,F,h.mono ρ _ _ (fun j c s u o a w=>by
  obtain⟨l,e,z,k⟩:=zbD c;have r:=w.shs e;refine⟨by rw [r.length];exact z,fun p b=>k _ _ _ (a.trans (Gr.put a.sub b)) (.sh ⟨.tup (SqT.of zf) (rdvs_same (zG (a.sub.free b) _) r.rd),fun g=>.tup zf (rdns_mono (zG (a.sub.free b) _) (fun _ _ _ z=>z) (r.nw g))⟩)⟩) q⟩⟩
def lst3(t:TA3):TN3:=fun ρ Q=>t ρ fun cs=>optP (shs cs) fun p=>p.2.length<=sizeLine/\Q p.1 p.2
theorem z0{es:List Expr}{t:TA3}(h:PA3 X H0 es t):PN3 X H0 (.List es pos) (lst3 t):=
 ⟨fun ρ Q s o q=>h.mono ρ _ _ (fun j q=>by obtain⟨n,e,z,q⟩:=zbD q;rw [e];exact⟨z,o _ _ q⟩) q,PE.imp (zbB h.ok) fun σ H Q=>el5 fun b ρ G F q=>⟨b,ρ,G,F,h.mono ρ _ _ (fun j a i l c m w=>by
  obtain⟨n,e,z,k⟩:=zbD a;have r:=w.shs e;exact⟨by rw [r.length];exact z,fun p g=>k p i l c m g r⟩) q⟩⟩
abbrev C3:=List Cl->(Bool->D->Prop)->Prop
def zl8(K:Ybf)(H0:Hp)(r:C3):List V->Hp->VK->Prop:=fun xs H Q=>∃ G cs,Sub G H/\Vws K H0 G H xs cs/\r cs fun f d=>∀ v G' H',Gr G H G' H'->Rf K H0 G' f v d->Q v H'
structure CallOk(X:Cx)(f:Value)(r:C3):Prop where
 mono:∀ cs (Q Q':Bool->D->Prop),(∀ f c,Q f c->Q' f c)->r cs Q->r cs Q'
 ok:∀ H0,zO X f (zl8 X.K H0 r)
theorem zO.imp{r r':List V->Hp->VK->Prop}(h:zO X f r)(i:∀ xs H Q,r' xs H Q->r xs H Q):zO X f r':=fun a s σ H xs b Q I c q=>h _ s σ H xs b Q I c (i _ _ _ q)
def cb3(r:C3)(t:TA3):TE3:=fun ρ Q=>t ρ fun cs=>r cs fun f d=>Q (.sh f d)
variable{x:Str}{id T:String}
theorem zq{r:C3}{t:TA3}(i:CallOk X (.builtin id) r)(y:Gl X x)(u:X.mg x=none)(m:bootBuiltins x=some (.builtin id))(c:PA3 X H0 (e::es) t)(A:x≠"__name__":=by decide)(j:(x==("__debug__" : Str))=false:=by decide)
 (s:starEach (e::es) X.env=(false,eval e X.env)::starEach es X.env:=by rfl) (b:(backTo pos (starEach es X.env)).any (·.1)=false:=by rfl):PE3 X H0 (.Call (.Name x p) (e::es) [] pos) (cb3 r t):=
 ⟨fun ρ Q J h q=>c.mono ρ _ _ (fun a=>i.mono a _ _ fun f d=>h _) q,PE.imp (JR (i.ok H0) y u m c.ok A j s b) fun σ H Q=>el5 fun B ρ G F q=>⟨B,ρ,G,F,c.mono ρ _ _ (fun a o I z E l w=>⟨z,a,l.sub,w,i.mono a _ _ (fun f d k v C n g r=>k v C n (l.trans g) (.sh r)) o⟩) q⟩⟩
theorem zjT{r:C3}{t:TA3}(i:CallOk X (.type T) r)(y:Gl X x)(u:X.mg x=none)(m:bootBuiltins x=some (.type T))(c:PA3 X H0 (e::es) t)(A:x≠"__name__":=by decide)(j:(x==("__debug__" : Str))=false:=by decide)
 (s:starEach (e::es) X.env=(false,eval e X.env)::starEach es X.env:=by rfl) (b:(backTo pos (starEach es X.env)).any (·.1)=false:=by rfl):PE3 X H0 (.Call (.Name x p) (e::es) [] pos) (cb3 r t):=
 ⟨fun ρ Q J h q=>c.mono ρ _ _ (fun a=>i.mono a _ _ fun f d=>h _) q,PE.imp (zfL (i.ok H0) y u m c.ok A j s b) fun σ H Q=>el5 fun B ρ G F q=>⟨B,ρ,G,F,c.mono ρ _ _ (fun a o I z E l w=>⟨z,a,l.sub,w,i.mono a _ _ (fun f d k v C n g r=>k v C n (l.trans g) (.sh r)) o⟩) q⟩⟩
abbrev Sp3:=List D->(Bool->D->Prop)->(Addr->Prop)->Prop
def spL(K:Ybf)(sp:Sp3):Sp:=fun vs H Q E=>∃ G ds,Sub G H/\RdVs K G vs ds/\sp ds (fun f d=>∀ v G' H',Gr G H G' H'->Rf K H G' f v d->Q v H') fun C=>∀ H',zi H H'->E (.ref C) none H'
theorem zgd(h:zx d=true)(r:RdV K G v d):RdV K G' v d:=by
 cases r with
 | non=>exact .non
 | bl b=>exact .bl b
 | int i=>exact .int i
 | str s=>exact .str s
 | lst _ _=>cases h
 | tup _ _=>cases h
structure Df3(P:Program)(w:World)(K:Ybf)(mg:Str->Option Value)(base:Heap)(k:Nat)(x:Str)(ps:List Str)(sp:Sp3):Prop where
 mono:∀ ds (Q Q':Bool->D->Prop) (E E':Addr->Prop),(∀ f d,Q f d->Q' f d)->(∀ d,E d->E' d)->sp ds Q E->sp ds Q' E'
 ok:Df P w K mg base k x ps (spL K sp)
def Zm(sp:Sp3)(E:Addr->Prop)(t:TA3):TE3:=fun ρ Q=>t ρ fun cs=>cs.all Cl.dat=true/\sp (cs.map Cl.d) (fun f d=>((shs cs).isSome=true\/zx d=true)/\Q (.sh f d)) E
theorem zda:∀ {cs:List Cl} {p:Bool×List D},shs cs=some p->cs.map Cl.d=p.2
 | [],_,e=>by cases e;rfl
 | .sh _ d :: r, ds, e => by
  unfold shs at e;cases q:shs r with
  | none=>simp_all
  | some a=>rw [q] at e;cases e;rw [Ya1,zda q];rfl
 | .ow _ _::r,_,e=>by cases e
 | .tr _ _::r,_,e=>by cases e
 | .dt _::r,_,e=>by cases e
 | .dk _::r,_,e=>by cases e
 | .fd _::r,_,e=>by cases e
 | .tk _::r,_,e=>by cases e
 | .dm _ _::r,_,e=>by cases e
 | .ex _::r,_,e=>by cases e
theorem df3{k:Nat}{ps:List Str}{sp:Sp3}{E:XK}{E3:Addr->Prop}{t:TA3}(hE:∀ C H',E3 C->zi H0 H'->E (.ref C) none H')(Gd:Df3 X.prog X.w X.K X.mg X.base k x ps sp)(hr:Room k X.A)(hg:Gl X x)(hx:Passes (CXR X.prog X.w) X E)(ha:PA3 X H0 (e::es) t)(hdb:(x==("__debug__" : Str))=false:=by decide)
 (he:starEach (e::es) X.env=(false,eval e X.env)::starEach es X.env:=by rfl) (hpl:(backTo pos (starEach es X.env)).any (·.1)=false:=by rfl):PE3 X H0 (.Call (.Name x p) (e::es) [] pos) (Zm sp E3 t):=by
 refine⟨fun ρ Q Q' h q=>ha.mono ρ _ _ (fun cs zz0=>by obtain⟨hd,q⟩:=zz0;exact⟨hd,Gd.mono _ _ _ _ _ (fun f d zz0=>by obtain⟨a,b⟩:=zz0;exact⟨a,h _ b⟩) (fun _ z=>z) q⟩) q,PE.imp (jE Gd.ok hr hg hx ha.ok hdb he hpl) fun σ H Q=>el5 fun G0 ρ G F q=>⟨G0,ρ,G,F,ha.mono ρ _ _ (fun cs ⟨hd,qc⟩ vs G1 H1 g1 w=>?_) q⟩⟩
 show spL X.K sp _ H1 Q E
 rw [Yao];have kE:=fun C c H' s=>hE C H' c ((F.gr g1).keep.trans s)
 cases hs:shs cs with
 | some ds=>
  refine⟨G1,_,g1.sub,by rw [zda hs];exact(w.shs hs).rd,Gd.mono _ _ _ _ _ (fun f d ⟨_,k⟩ v G' H' g r=>k v G' H' (g1.trans g) (.sh ⟨r.rd,fun hf=>jY (Same.refl _) (fun _ _ _ z=>(F.gr g1).keep.free z) (r.nw hf)⟩)) kE qc⟩
 | none=>
  refine⟨_,_,zg2 H1,rdvs_cln (w.rds g1.sub hd),Gd.mono _ _ _ _ _ (fun f d ⟨s,k⟩ v G' H' g r=>?_) kE qc⟩
  have sc:=s.resolve_left (by rw [hs];simp)
  exact k v G1 H' (g1.trans ⟨Same.refl _,g.h,g1.sub.trans g.h,fun _ _ e=>.inl e⟩) (.sh (.sc sc (zgd sc r.rd)))
end
variable[LamW]
theorem zme{d:D}(r:RdVs K G vs (d::ds)):∃ v us,vs=v::us/\RdV K G v d/\RdVs K G us ds:=by
 cases r with
 | cons a b=>exact⟨_,_,rfl,a,b⟩
theorem zh6(r:RdV K G v (.tuple ds)):∃ a xs,v=.ref a/\SqT K G a xs/\RdVs K G xs ds:=by
 cases r with
 | tup a b=>exact⟨_,_,rfl,a,b⟩
theorem zj9(r:RdV K G v (.list ds)):∃ a xs,v=.ref a/\SqL K G a xs/\RdVs K G xs ds:=by
 cases r with
 | lst a b=>exact⟨_,_,rfl,a,b⟩
theorem zo(w:Vw K H0 G H v (.sh f d)):Rf K H0 G f v d:=by
 cases w with
 | sh r=>exact r
theorem zlT(r:Rfs K H0 G f vs (d::ds)):∃ v us,vs=v::us/\Rf K H0 G f v d/\Rfs K H0 G f us ds:=by
 obtain⟨v,us,rfl,a,b⟩:=zme r.rd;exact⟨v,us,rfl,⟨a,fun h=>by cases r.nw h with|cons x y=>exact x⟩,⟨b,fun h=>by cases r.nw h with|cons x y=>exact y⟩⟩
theorem zbn(r:Rf K H0 G f v (.tuple ds)):∃ a xs,v=.ref a/\SqT K G a xs/\Rfs K H0 G f xs ds:=by
 cases f with
 | false=>
  obtain⟨a,xs,rfl,h,b⟩:=zh6 r.rd;exact⟨a,xs,rfl,h,b,fun h=>by cases h⟩
 | true=>
  have n:=r.nw rfl;cases n with
  | tup h b=>exact⟨_,_,rfl,SqT.of h,rdns_rd b,fun _=>b⟩
theorem J3(r:Rf K H0 G f v (.list ds)):∃ a xs,v=.ref a/\SqL K G a xs/\Rfs K H0 G f xs ds:=by
 cases f with
 | false=>
  obtain⟨a,xs,rfl,h,b⟩:=zj9 r.rd;exact⟨a,xs,rfl,h,b,fun h=>by cases h⟩
 | true=>
  have n:=r.nw rfl;cases n with
  | lst h _ b=>exact⟨_,_,rfl,SqL.of h,rdns_rd b,fun _=>b⟩
section
variable{c:Expr}{rest:List Stmt}
def next3:TS3:=fun A ρ=>A.nx ρ
def seq3(t u:TS3):TS3:=fun A ρ=>t { A with nx:=u A } ρ
theorem zu:PSs3 X H0 [] next3:=PSs.imp zey fun B σ H=>el7 fun a A ρ G F q L=>L.nx ρ σ G H F q
theorem zd{t u:TS3}(h:PS3 X H0 st t)(j:PSs3 X H0 rest u):PSs3 X H0 (st::rest) (seq3 t u):=PSs.imp (zN h j) fun B σ H=>el7 fun b A ρ G F q L=>
 ⟨b,_,ρ,G,F,q,⟨fun a c i l g e=>⟨b,A,a,i,g,e,L⟩,L.rt,L.bk,L.ct,L.rm⟩⟩
theorem ze{t:TS3}(a:PS3 X H0 st t):PSs3 X H0 [st] t:=jh a
def Z5(te:TE3):TS3:=fun A ρ=>te ρ fun _=>A.nx ρ
theorem Zo{te:TE3}(a:PE3 X H0 e te)(j:swapsWith e none pos.line X.env=pure false:=by rfl):PS3 X H0 (.Expr e pos) (Z5 te):=PS.imp (jR a.ok j) fun B σ H=>el7 fun b A ρ G F q L=>
 ⟨b,ρ,G,F,a.mono ρ _ _ (fun c q v i h g w=>L.nx ρ σ i h (F.gr g) q) q⟩
def ret3(te:TE3):TS3:=fun A ρ=>te ρ fun c=>asS c A.rt
theorem zr{te:TE3}(b:PE3 X H0 e te):PS3 X H0 (.Return (some e) pos) (ret3 te):=PS.imp (JE b.ok) fun B σ H=>el7 fun i A ρ G F q L=>
 ⟨i,ρ,G,F,b.mono ρ _ _ (fun c a v l h g w=>by
  obtain⟨f,d,j,q⟩:=Ju a;subst j;exact L.rt f d v l h (F.gr g).gr0 (zo w) q) q⟩
def ifS3(t:TT3)(u v:TS3):TS3:=fun A ρ=>t ρ fun k=>if k=true then u A ρ else v A ρ
theorem s_if{xs ys:List Stmt}{t:TT3}{u v:TS3}(b:PT3 X H0 c t)(i:PSs3 X H0 xs u)(h:PSs3 X H0 ys v):PS3 X H0 (.If c xs ys pos) (ifS3 t u v):=PS.imp (zgZ b.ok i h) fun B σ H=>el7 fun a A ρ G F q L=>
 ⟨a,ρ,G,F,b.mono ρ _ _ (fun k q e j g=>by
  cases k with
  | true=>exact⟨a,A,ρ,e,F.gr g,q,L⟩
  | false=>exact⟨a,A,ρ,e,F.gr g,q,L⟩) q⟩
def set3(i:Nat)(te:TE3):TS3:=fun A ρ=>te ρ fun c=>asS c fun f d=>A.nx (ρ.set i (some (.sh f d)))
theorem zl{i:Nat}{x:Str}{te:TE3}{pos':Pos}(s:X.N.Nodup)(m:X.N[i]?=some x)(n:Loc X.env.scope x)(b:PE3 X H0 e te)(r:swapsWith e (some (.Name x pos')) pos.line X.env=pure false:=by rfl)
 (h:X.fn x=true\/X.env.scope.names.lookup x=some .local:=by first|exact .inl rfl|exact .inr rfl|assumption):PS3 X H0 (.Assign [.Name x pos'] e pos) (set3 i te):=PS.imp (jj s m n b.ok r h) fun B σ H=>el7 fun l A ρ G F q L=>
 ⟨l,ρ,G,F,b.mono ρ _ _ (fun c a v p j g w=>by
  obtain⟨f,d,o,q⟩:=Ju a;subst o;exact L.nx _ _ p j ((F.gr g).set (zo w)) q) q⟩
def own3(i:Nat)(tn:TN3):TS3:=fun A ρ=>tn ρ fun f ds=>A.nx (ρ.set i (some (.ow f ds)))
theorem ji{i:Nat}{x:Str}{tn:TN3}{pos':Pos}(p:X.N.Nodup)(h:X.N[i]?=some x)(j:Loc X.env.scope x)(a:PN3 X H0 e tn)(o:swapsWith e (some (.Name x pos')) pos.line X.env=pure false:=by rfl)
 (b:X.fn x=true\/X.env.scope.names.lookup x=some .local:=by first|exact .inl rfl|exact .inr rfl|assumption):PS3 X H0 (.Assign [.Name x pos'] e pos) (own3 i tn):=PS.imp (jj p h j a.ok o b) fun B σ H=>el7 fun c A ρ G F q L=>
 ⟨c,ρ,G,F,a.mono ρ _ _ (fun f v q l u n s g m r=>L.nx _ _ n _ ((F.gr g).own r m) q) q⟩
abbrev TG3:=Bool->D->Env3->(Env3->Prop)->Prop
abbrev TGs3:=Bool->List D->Env3->(Env3->Prop)->Prop
def zdP(K:Ybf)(H0:Hp)(g:TG3):TG:=fun v σ H Q=>∃ G0 ρ G f d,Fr3 K H0 G0 ρ σ G H/\Rf K H0 G f v d/\g f d ρ fun ρ'=>∀ σ' G' H',Fr3 K H0 G0 ρ' σ' G' H'->Same G G'->Gr G H G' H'->Q σ' H'
def zmd(K:Ybf)(H0:Hp)(g:TGs3):TGs:=fun vs σ H Q=>∃ G0 ρ G f ds,Fr3 K H0 G0 ρ σ G H/\Rfs K H0 G f vs ds/\g f ds ρ fun ρ'=>∀ σ' G' H',Fr3 K H0 G0 ρ' σ' G' H'->Same G G'->Gr G H G' H'->Q σ' H'
structure PG3(X:Cx)(H0:Hp)(tg:Expr)(g:TG3):Prop where
 mono:∀ f d ρ (Q Q':Env3->Prop),(∀ c,Q c->Q' c)->g f d ρ Q->g f d ρ Q'
 ok:PG X tg (zdP X.K H0 g)
structure PGs3(X:Cx)(H0:Hp)(tg:List Expr)(g:TGs3):Prop where
 mono:∀ f d ρ (Q Q':Env3->Prop),(∀ c,Q c->Q' c)->g f d ρ Q->g f d ρ Q'
 ok:PGs X tg (zmd X.K H0 g)
theorem PG.imp{t':TG}(h:PG X tg t)(i:∀ v σ H Q,t' v σ H Q->t v σ H Q):PG X tg t':=fun a s σ H v u Q I r q=>h _ s σ H v u Q I r (i _ _ _ _ q)
theorem PGs.imp{tg:List Expr}{t':TGs}(h:PGs X tg t)(i:∀ v σ H Q,t' v σ H Q->t v σ H Q):PGs X tg t':=fun a s σ H v u Q I r q=>h _ s σ H v u Q I r (i _ _ _ _ q)
def gn3(i:Nat):TG3:=fun f d ρ Q=>Q (ρ.set i (some (.sh (f||zx d) d)))
theorem zj{i:Nat}{x:Str}(hN:X.N.Nodup)(hi:X.N[i]?=some x)(hx:Loc X.env.scope x)(hf:X.fn x=true\/X.env.scope.names.lookup x=some .local:=by first|exact .inl rfl|exact .inr rfl|assumption):PG3 X H0 (.Name x pos) (gn3 i):=
 ⟨fun f d ρ Q Q' h q=>h _ q,PG.imp (jn hN hi hx hf) fun v σ H Q zz0=>by obtain⟨G0,ρ,G,f,d,F,r,q⟩:=zz0;exact q _ G H (F.set r.or) (Same.refl _) (Gr.refl F.sub)⟩
def gnil3:TGs3:=fun _ ds ρ Q=>nilP ds (Q ρ)
def za7(t:TG3)(u:TGs3):TGs3:=fun f ds ρ Q=>Zl ds fun d r=>t f d ρ fun ρ'=>u f r ρ' Q
theorem z8:PGs3 X H0 [] gnil3:=
 ⟨fun f d ρ Q c h q=>by obtain⟨e,q⟩:=zf8 q;subst e;exact h _ q,PGs.imp zbT fun g σ H Q a=>by
  obtain⟨b,ρ,G,f,i,F,r,q⟩:=a;obtain⟨e,q⟩:=zf8 q;subst e;cases r.rd;exact⟨rfl,q σ G H F (Same.refl _) (Gr.refl F.sub)⟩⟩
theorem zw{es:List Expr}{t:TG3}{u:TGs3}(g:PG3 X H0 e t)(c:PGs3 X H0 es u)(A:(assignEach (e::es) X.env).map (·.2)=assign e X.env::(assignEach es X.env).map (·.2):=by rfl):PGs3 X H0 (e::es) (za7 t u):=
 ⟨fun f d ρ Q O h q=>by obtain⟨x,r,e,q⟩:=zd0 q;subst e;exact g.mono f x ρ _ _ (fun a=>c.mono f r a _ _ h) q,PGs.imp (JZ g.ok c.ok A) fun M σ H Q i=>by
  obtain⟨l,ρ,G,f,N,F,r,q⟩:=i;obtain⟨x,y,e,q⟩:=zd0 q;subst e;obtain⟨v,K,rfl,p,B⟩:=zlT r;exact⟨v,K,rfl,l,ρ,G,f,x,F,p,g.mono f x ρ _ _ (fun a q E s L n j z=>⟨l,a,s,f,y,n,B.same j,c.mono f y a _ _ (fun J q b w C m o I=>q b w C m (j.trans o) (z.trans I)) q⟩) q⟩⟩
def zak(n:Nat)(t:TGs3):TG3:=fun f d ρ Q=>asT d fun ds=>ds.length=n/\t f ds ρ Q
theorem ja{es:List Expr}{k:Nat}{t:TGs3}{n:Nat}(s:X.calm=true)(h:PGs3 X H0 es t)(u:(assignEach es X.env).length=n:=by rfl)(b:(assignEach es X.env).findIdx? (·.1)=none:=by rfl):PG3 X H0 (.Tuple es k pos) (zak n t):=
 ⟨fun f d ρ Q w j q=>by obtain⟨i,e,l,c⟩:=zb8 q;subst e;exact⟨l,h.mono f i ρ _ _ j c⟩,PG.imp (zce s h.ok u b) fun v σ H Q g=>by
  obtain⟨o,ρ,G,f,d,F,r,q⟩:=g;obtain⟨i,e,l,c⟩:=zb8 q;subst e;obtain⟨a,p,rfl,j,m⟩:=zbn r;exact⟨a,p,rfl,F.sub.tup j,by rw [m.length];exact l,o,ρ,G,f,i,F,m,c⟩⟩
def asg3(te:TE3)(g:TG3):TS3:=fun A ρ=>te ρ fun c=>asS c fun f d=>g f d ρ A.nx
theorem zet{tg:Expr}{te:TE3}{g:TG3}(j:PE3 X H0 e te)(l:PG3 X H0 tg g)(z:swapsWithSole [tg] e pos.line X.env=pure false:=by rfl)(s:swappedStores [tg] e X.env=pure none:=by rfl)
 (o:(assignEach [tg] X.env).map (·.2)=[assign tg X.env]:=by rfl):PS3 X H0 (.Assign [tg] e pos) (asg3 te g):=PS.imp (zcl j.ok l.ok z s o) fun B σ H=>el7 fun i A ρ G F q L=>
 ⟨i,ρ,G,F,j.mono ρ _ _ (fun c h v u C y w=>by
  obtain⟨f,d,p,q⟩:=Ju h;subst p;exact⟨i,ρ,u,f,d,F.gr y,zo w,l.mono f d ρ _ _ (fun b q a r n m _ _=>L.nx b a r n m q) q⟩) q⟩
theorem zdl{K:Ybf}{G0:Hp}{ρ : Env3}{σ : L2.St}{G H:Hp}{i:Nat}{f:Bool}{ds:List D}(F:Fr3 K H0 G0 ρ σ G H)(h:ρ[i]?=some (some (.ow f ds))):∃ l vs,σ[i]?=some (some (.ref l))/\H l=some (.lst vs)/\Rfs K H0 G f vs ds:=by
 obtain⟨v,b,a⟩:=F.slot i _ h;cases a with
 | ow c r n=>exact⟨_,_,b,c,r⟩
def app3(i:Nat)(te:TE3):TS3:=fun A ρ=>atO ρ[i]? fun f ds=>te ρ fun c=>asS c fun g d=>ds.length<sizeLine/\A.nx (ρ.set i (some (.ow (f&&g) (ds++[d]))))
theorem jw{i:Nat}{te:TE3}{x:Str}{np apos cpos:Pos}(O:X.N[i]?=some x)(p:Vis X.env.scope x)(h:PE3 X H0 e te)(N:(x==("__debug__" : Str))=false:=by decide)(a:(x==("__classdict__" : Str))=false:=by decide)
 (z:attributeBase (.Name x np) "append" X.env (eval (.Name x np) X.env)=eval (.Name x np) X.env:=by rfl)
 (C:((backTo cpos (starEach [e] X.env)).all (fun x=>!x.1)&&(backToKw cpos (keywordEach [] X.env)).all (fun x=>x.1.isSome)&&decide ([e].length+([]:List Keyword).length+(if([]:List Keyword).isEmpty then 0 else 1)<30))=true:=by rfl)
 (I:(apos.endLine==cpos.line)=true:=by rfl) (n:starEach [e] X.env=(false,eval e X.env)::starEach [] X.env:=by rfl) (u:(backTo cpos (starEach [] X.env)).any (·.1)=false:=by rfl)
 (K:swapsWith (.Call (.Attribute (.Name x np) "append" apos) [e] [] cpos) none pos.line X.env=pure false:=by rfl):PS3 X H0 (.Expr (.Call (.Attribute (.Name x np) "append" apos) [e] [] cpos) pos) (app3 i te):=by
 refine PS.imp (jR (zdc (jx O p N a) (zn h.ok zK n) z C I n u) K) fun B σ H b=>?_
 obtain⟨E,A,ρ,G,F,q,L⟩:=b;obtain⟨f,Q,j,q⟩:=zg1 q;obtain⟨l,y,o,m,r⟩:=zdl F j;refine⟨_,o,zdf m,E,ρ,G,F,h.mono ρ _ _ (fun c q v S P g w=>?_) q⟩
 obtain⟨R,d,J,M,s⟩:=Ju q;subst J;exact⟨l,y,v,rfl,rfl,g.h.at m,by rw [r.length];exact M,L.nx _ _ _ _ ((F.gr g).change j o ((r.same g.g).snoc (zo w))) s⟩
def put3(i:Nat)(tk te:TE3):TS3:=fun A ρ=>atO ρ[i]? fun f ds=>te ρ fun c=>tk ρ fun k=>asS c fun g d=>asI k fun n=>∃ j,ixN ds.length n=some j/\A.nx (ρ.set i (some (.ow (f&&g) (ds.set j d))))
theorem JQ{i:Nat}{tk te:TE3}{x:Str}{np spos:Pos}{k:Expr}(W:X.N[i]?=some x)(w:Vis X.env.scope x)(o:PE3 X H0 k tk)(p:PE3 X H0 e te)(T:(x==("__debug__" : Str))=false:=by decide)(h:(x==("__classdict__" : Str))=false:=by decide)
 (O:swapsWithSole [.Subscript (.Name x np) k spos] e pos.line X.env=pure false:=by rfl) (S:swappedStores [.Subscript (.Name x np) k spos] e X.env=pure none:=by rfl)
 (b:(assignEach [.Subscript (.Name x np) k spos] X.env).map (·.2)=[assign (.Subscript (.Name x np) k spos) X.env]:=by rfl)
 (J:∀ v,assign (.Subscript (.Name x np) k spos) X.env v=(do
  let ov <-holding [v] (eval (.Name x np) X.env)
  let iv <-holding [v,ov] (eval k X.env)
  standAt spos
  holding [v,ov,iv] (setItem ov iv v)
  release [v,ov,iv] []):=by intro _;rfl):PS3 X H0 (.Assign [.Subscript (.Name x np) k spos] e pos) (put3 i tk te):=by
 refine PS.imp (zcl p.ok (zeL (jx W w T h) o.ok Z4 J) O S b) fun B σ H m=>?_
 obtain⟨u,A,ρ,G,F,q,L⟩:=m;obtain⟨f,ds,s,q⟩:=zg1 q;refine⟨u,ρ,G,F,p.mono ρ _ _ (fun c y v E Y a M=>?_) q⟩
 obtain⟨l,C,b,N,r⟩:=zdl F s;refine⟨_,b,u,ρ,E,F.gr a,o.mono ρ _ _ (fun kc q Z G2 H2 g I=>?_) y⟩
 obtain⟨f',d,Q,R⟩:=Ju q;obtain⟨n,K,j,U,z⟩:=jK R;subst Q K;have P:=(zo I).rd;cases P;refine⟨l,C,n,j,rfl,rfl,g.h.at (a.h.at N),by rw [r.length];exact U,L.nx _ _ _ _ (((F.gr a).gr g).change s b ((r.same (a.g.trans g.g)).set ((zo M).same g.g) j)) z⟩
noncomputable def frz1(i:Nat)(ρ : Env3):Env3:=match ρ[i]? with
 | some (some (.ow f ds))=>ρ.set i (some (.sh f (.list ds)))
 | some (some (.tr _ ms))=>ρ.set i (some (.sh true (.list (ms.map PyData.list))))
 | _=>ρ
noncomputable def frz:List Nat->Env3->Env3
 | [],ρ=>ρ
 | i::r,ρ=>frz r (frz1 i ρ)
theorem Fr3.frz1{K:Ybf}{G0:Hp}{ρ : Env3}{σ : L2.St}{G H:Hp}(F:Fr3 K H0 G0 ρ σ G H)(i:Nat):∃ G',Same G G'/\Fr3 K H0 G0 (L3.frz1 i ρ) σ G' H:=by
 unfold L3.frz1
 split
 . rename_i f b h;exact F.freeze h
 . rename_i c a h;exact F.freezeT h
 . exact⟨G,Same.refl _,F⟩
theorem Fr3.frz{K:Ybf}{G0:Hp}{σ : L2.St}{H:Hp}:∀ (is:List Nat) {ρ : Env3} {G:Hp},Fr3 K H0 G0 ρ σ G H->∃ G',Same G G'/\Fr3 K H0 G0 (L3.frz is ρ) σ G' H
 | [],ρ,G,F=>⟨G,Same.refl _,F⟩
 | i :: r, ρ, G, F => by
  obtain⟨h,e,b⟩:=F.frz1 i;obtain⟨c,g,a⟩:=Fr3.frz r b;exact⟨c,e.trans g,a⟩
def frzS(is:List Nat)(t:TS3):TS3:=fun A ρ=>t A (frz is ρ)
theorem jm(a:List Nat){t:TS3}(h:PS3 X H0 st t):PS3 X H0 st (frzS a t):=PS.imp h fun B σ H=>el7 fun b A ρ G F q L=>by
 obtain⟨c,g,e⟩:=F.frz a;exact⟨b,A,_,c,e,q,L⟩
def whN(c:TT3)(tb:TS3)(A:Ends3):Nat->Env3->Prop
 | 0,_=>False
 | n+1,ρ=>c ρ fun k=>if k=true then tb { A with nx:=whN c tb A n,ct:=whN c tb A n,bk:=A.nx } ρ else A.nx ρ
def zh4(c:TT3)(tb:TS3):TS3:=fun A ρ=>∃ n,whN c tb A n ρ
theorem zaT{body:List Stmt}{tc:TT3}{tb:TS3}(z:PassesOwn (model X.prog X.w) X.A X.env X.xe)(y:PT3 X H0 c tc)(C:PSs3 X H0 body tb):PS3 X H0 (.While c body [] pos) (zh4 tc tb):=PS.imp (zdU z y.ok C) fun B σ H o=>by
 obtain⟨i,A,ρ,G,F,⟨n,q⟩,L⟩:=o;refine⟨fun m b u=>∃ a r,Fr3 X.K H0 i a b r u/\whN tc tb A m a,⟨n,ρ,G,F,q⟩,?_⟩
 rintro m b u ⟨a,r,l,v⟩
 cases m with
 | zero=>exact v.elim
 | succ m=>
  refine⟨i,a,r,l,y.mono a _ _ (fun k q w J g=>?_) v⟩
  cases k with
  | false=>exact L.nx a b w J (l.gr g) q
  | true=>
   exact⟨_,fun I M E=>⟨m,WaL _,E⟩,
    i,_,a,w,l.gr g,q,⟨fun e h s K j p=>⟨e,s,j,p⟩,L.rt,L.nx,fun e h s K j p=>⟨e,s,j,p⟩,L.rm⟩⟩
structure ItOk(K:Ybf)(H0:Hp)(J:It)(fl:Bool)(ds:List D)(Gs:Hp):Prop where
 go:∀ (i:Nat) d G H,ds[i]?=some d->Same Gs G->Sub G H->J.go i H/\∀ x H',J.yld i H x H'->∃ G',Gr G H G' H'/\Rf K H0 G' fl x d
 stop:∀ (i:Nat) G H,i=ds.length->Same Gs G->Sub G H->J.stop i H
abbrev TI3:=Env3->(Bool->List D->Prop)->Prop
def zgP(K:Ybf)(H0:Hp)(t:TI3):TI:=fun σ H R=>∃ G0 ρ G,Fr3 K H0 G0 ρ σ G H/\t ρ fun f ds=>∀ J G' H',Gr G H G' H'->ItOk K H0 J f ds G'->R J H'
structure PI3(X:Cx)(H0:Hp)(tg iter:Expr)(t:TI3):Prop where
 mono:∀ ρ (Q Q':Bool->List D->Prop),(∀ f c,Q f c->Q' f c)->t ρ Q->t ρ Q'
 ok:PI X tg iter (zgP X.K H0 t)
def forL(g:TG3)(tb:TS3)(A:Ends3)(f:Bool):List D->Env3->Prop
 | [],ρ=>A.nx ρ
 | d::ds,ρ=>g f d ρ fun ρ'=>tb { A with nx:=forL g tb A f ds,ct:=forL g tb A f ds,bk:=A.nx } ρ'
def for3(ti:TI3)(g:TG3)(tb:TS3):TS3:=fun A ρ=>ti ρ fun f ds=>forL g tb A f ds ρ
theorem zz{tg iter:Expr}{body:List Stmt}{ti:TI3}{g:TG3}{tb:TS3}(hp:PassesOwn (model X.prog X.w) X.A X.env X.xe)(hc:X.calm=true)(O:PI3 X H0 tg iter ti)(P:PG3 X H0 tg g)(hb:PSs3 X H0 body tb)
 (W:∀ x,foldedSetIterable iter X.env x=pure x:=by intro _;rfl):PS3 X H0 (.For tg iter body [] pos) (for3 ti g tb):=PS.imp (Zi hp hc O.ok P.ok hb W) fun B σ H=>el7 fun Y A ρ G F q L=>by
 refine⟨Y,ρ,G,F,O.mono ρ _ _ (fun f I k J C H1 T R=>?_) q⟩
 have z:=F.gr T;refine⟨fun i m p u=>i<=I.length/\m=I.length - i/\∃ b w,Fr3 X.K H0 C b p w u/\forL g tb A f (I.drop i) b,⟨_,Wbm _,rfl,ρ,C,z.rebase,k⟩,?_⟩
 rintro i m p u ⟨K,rfl,b,w,s,E⟩
 by_cases j:i<I.length
 . right
   have hd:=YaQ j;obtain⟨M,hy⟩:=R.go i _ w u hd s.g0 s.sub;rw [List.drop_eq_getElem_cons j] at E;refine⟨M,_,fun σ2 Q U=>⟨_,Nat.sub_lt_sub_left j (WaL _),Nat.succ_le_of_lt j,rfl,U⟩,fun x Q y=>?_⟩
   obtain⟨G2,g2,Z⟩:=hy x Q y;refine⟨C,b,G2,f,_,s.gr g2,Z,P.mono f _ b _ _ (fun N S σ3 G3 H3 F3 _ _=>⟨C,_,N,G3,F3,S,?_⟩) E⟩
   exact⟨fun a h l r o n=>⟨a,l,o,n⟩,fun f d v l r g4 r4 n=>L.rt f d v l r (g4.back z) r4 n,fun a h l r o n=>L.nx a h l r (o.back z) n,fun a h l r o n=>⟨a,l,o,n⟩,fun c v a h l r o w4 n4 n=>L.rm c v a h l r (o.back z) w4 n4 n⟩
 . left
   have e:=Nat.le_antisymm K (Nat.not_lt.mp j);rw [e,List.drop_length] at E;exact⟨R.stop i w u e s.g0 s.sub,L.nx b p w u (s.back z) E⟩
theorem PI.imp{t':TI}(h:PI X tg iter t)(i:∀ σ H R,t' σ H R->t σ H R):PI X tg iter t':=fun a s σ H R I q=>h _ s σ H R I (i _ _ _ q)
def itL(te:TE3):TI3:=fun ρ Q=>te ρ fun c=>asL c Q
def itT(te:TE3):TI3:=fun ρ Q=>te ρ fun c=>∃ f ds,c=.sh f (.tuple ds)/\Q f ds
theorem zlm{K:Ybf}{H0 G:Hp}{a:Addr}{xs:List V}{f:Bool}{ds:List D}(g:SqL K G a xs)(r:Rfs K H0 G f xs ds):ItOk K H0 (Itl K a) f ds G where
 go:=fun i d j H n c b=>by
  obtain⟨x,h,l⟩:=r.get n;refine⟨⟨xs,x,(c.trans b.s).seq g,h⟩,fun y o ⟨e,m⟩=>?_⟩
  subst e;have:=m xs ((c.trans b.s).seq g);rw [h] at this;cases this;exact⟨j,Gr.refl b,l.same c⟩
 stop:=fun i j H p c b=>⟨xs,(c.trans b.s).seq g,by rw [r.length];simp_all⟩
theorem zl6{K:Ybf}{H0 G:Hp}{a:Addr}{xs:List V}{f:Bool}{ds:List D}(g:SqT K G a xs)(r:Rfs K H0 G f xs ds):ItOk K H0 (Itt K a) f ds G where
 go:=fun i d j H n c b=>by
  obtain⟨x,h,l⟩:=r.get n;refine⟨⟨xs,x,(c.trans b.s).tup g,h⟩,fun y o ⟨e,m⟩=>?_⟩
  subst e;have:=m xs ((c.trans b.s).tup g);rw [h] at this;cases this;exact⟨j,Gr.refl b,l.same c⟩
 stop:=fun i j H p c b=>⟨xs,(c.trans b.s).tup g,by rw [r.length];simp_all⟩
theorem zP{tg iter:Expr}{te:TE3}(h:PE3 X H0 iter te):PI3 X H0 tg iter (itL te):=
 ⟨fun ρ Q r b q=>h.mono ρ _ _ (fun c q=>by obtain⟨f,o,e,q⟩:=ze7 q;subst e;exact b _ _ q) q,PI.imp (zbP h.ok) fun σ H R=>el5 fun l ρ G F q=>⟨l,ρ,G,F,h.mono ρ _ _ (fun c i v n j g w=>by
  obtain⟨f,o,e,k⟩:=ze7 i;subst e;obtain⟨a,m,rfl,b,p⟩:=J3 (zo w);exact⟨a,rfl,⟨m,g.sub.seq b⟩,k _ n j g (zlm b p)⟩) q⟩⟩
theorem zi4{tg iter:Expr}{te:TE3}(h:PE3 X H0 iter te):PI3 X H0 tg iter (itT te):=
 ⟨fun ρ Q Q' hq q=>h.mono ρ _ _ (fun c zz0=>by obtain⟨f,ds,e,q⟩:=zz0;exact⟨f,ds,e,hq _ _ q⟩) q,PI.imp (zmU h.ok) fun σ H R=>el5 fun G0 ρ G F q=>⟨G0,ρ,G,F,h.mono ρ _ _ (fun c hyp v G' H' g w=>by
  obtain⟨f,ds,e,k⟩:=hyp;subst e;obtain⟨a,xs,rfl,hq,rs⟩:=zbn (zo w);exact⟨a,rfl,⟨xs,g.sub.tup hq⟩,k _ G' H' g (zl6 hq rs)⟩) q⟩⟩
noncomputable def nums(lo:Int)(n:Nat):List D:=(List.range n).map fun i=>.int (lo+(i:Nat))
theorem zd5{K:Ybf}{H0 G:Hp}{lo:Int}{n:Nat}:ItOk K H0 (Itr lo n) true (nums lo n) G where
 go:=fun i d G' H hd s1 s2=>by
  unfold nums at hd;rw [Ya0] at hd
  by_cases hi:i<n
  . rw [Yax hi] at hd
    cases hd;exact⟨hi,fun x H' zz0=>by obtain⟨e1,e2⟩:=zz0;exact by subst e1 e2;exact⟨G',Gr.refl s2,.sc rfl (.int _)⟩⟩
  simp_all
 stop:=fun i G' H hl s1 s2=>by unfold nums at hl;show n<=i;grind
theorem zy{i:Int}(r:RdV K G v (.int i)):v=.int i:=by cases r;rfl
theorem vws1{c:Cl}(w:Vws K H0 G H vs [c]):∃ v,vs=[v]/\Vw K H0 G H v c:=by
 cases w with
 | cons a b=>cases b;exact⟨_,rfl,a⟩
theorem vws2{c:Cl}(w:Vws K H0 G H vs [c,d]):∃ v u,vs=[v,u]/\Vw K H0 G H v c/\Vw K H0 G H u d:=by
 cases w with
 | cons a b=>obtain⟨u,rfl,h⟩:=vws1 b;exact⟨_,_,rfl,a,h⟩
def rg1(t:TA3):TI3:=fun ρ Q=>t ρ fun cs=>∃ j,cs=[.sh true (.int j)]/\(-(2 ^ 62)<=j/\j<2 ^ 62)/\Q true (nums 0 j.toNat)
def rg2(t:TA3):TI3:=fun ρ Q=>t ρ fun cs=>∃ i j,cs=[.sh true (.int i),.sh true (.int j)]/\(-(2 ^ 62)<=i/\i<2 ^ 62/\-(2 ^ 62)<=j/\j<2 ^ 62)/\Q true (nums i (j - i).toNat)
theorem z9{tg a:Expr}{t:TA3}{p:Pos}(hg:Gl X "range")(hm:X.mg "range" = none)(ha:PA3 X H0 [a] t)(hs:starEach [a] X.env=[(false,eval a X.env)]:=by rfl):PI3 X H0 tg (.Call (.Name "range" p) [a] [] pos) (rg1 t):=
 ⟨fun ρ Q Q' hq q=>ha.mono ρ _ _ (fun c zz0=>by obtain⟨j,e,b,q⟩:=zz0;exact⟨j,e,b,hq _ _ q⟩) q,PI.imp (zcF hg hm ha.ok hs) fun σ H R=>el5 fun G0 ρ G F q=>⟨G0,ρ,G,F,ha.mono ρ _ _ (fun c hyp vs G' H' g w=>by
  obtain⟨j,e,b,k⟩:=hyp;subst e;obtain⟨v,rfl,w1⟩:=vws1 w;cases zy (zo w1).rd;exact⟨j,rfl,b.1,b.2,k _ G' H' g zd5⟩) q⟩⟩
theorem Za{tg a b:Expr}{t:TA3}{p:Pos}(hg:Gl X "range")(hm:X.mg "range" = none)(ha:PA3 X H0 [a,b] t)(hs:starEach [a,b] X.env=[(false,eval a X.env),(false,eval b X.env)]:=by rfl)(hs2:starEach [b] X.env=[(false,eval b X.env)]:=by rfl):PI3 X H0 tg (.Call (.Name "range" p) [a,b] [] pos) (rg2 t):=
 ⟨fun ρ Q Q' hq q=>ha.mono ρ _ _ (fun c zz0=>by obtain⟨i,j,e,b,q⟩:=zz0;exact⟨i,j,e,b,hq _ _ q⟩) q,PI.imp (zmW hg hm ha.ok hs hs2) fun σ H R=>el5 fun G0 ρ G F q=>⟨G0,ρ,G,F,ha.mono ρ _ _ (fun c hyp vs G' H' g w=>by
  obtain⟨i,j,e,b,k⟩:=hyp;subst e;obtain⟨v,u,rfl,w1,w2⟩:=vws2 w;cases zy (zo w1).rd;cases zy (zo w2).rd;exact⟨i,j,rfl,b,k _ G' H' g zd5⟩) q⟩⟩
end
variable[LamW]
noncomputable def cst3(n:Nat)(js:List Nat)(ρ : Env3):Env3:=List.replicate n none++js.map fun j=>(ρ[j]?).join
noncomputable def er(D:Addr)(H:Hp):Hp:=fun b=>if b=D then none else H b
theorem za4{D:Addr}:er D H D=none:=by unfold er;rw [if_pos rfl]
theorem j6{D b:Addr}(h:b≠D):er D H b=H b:=by unfold er;rw [if_neg h]
theorem zk3{D b:Addr}{o:HO}(h:er D H b=some o):b≠D/\H b=some o:=by
 by_cases e:b=D
 . subst e;rw [za4] at h;cases h
 . rw [j6 e] at h;exact⟨e,h⟩
theorem zkD{D:Addr}{o:HO}(h:H D=some o):upd (er D H) D o=H:=by
 funext b
 by_cases e:b=D
 . subst e;rw [zf,h]
 . rw [zc e,j6 e]
theorem Gr.er{D:Addr}{G H G' H':Hp}(g:Gr G H G' H')(hD:G' D=none)(hx:∀ f,H' D≠some (.ext f)):Gr G (er D H) G' (er D H') where
 g:=g.g
 h:=fun b o e=>by
  obtain⟨n,e⟩:=zk3 e;rw [j6 n]
  rcases g.h b o e with z|⟨z,y,c',h1,h2⟩
  . exact .inl z
  . exact .inr ⟨z,y,c',by rw [j6 n];exact h1,by rw [j6 (fun w=>by rw [w] at h2;exact hx _ h2)];exact h2⟩
 sub:=⟨fun b o e=>by
  rw [j6 (jd e hD)];exact g.sub.s b o e,g.sub.cl⟩
 new:=fun b o e=>by
  rcases g.new b o e with q|q|q
  . exact .inl q
  . by_cases hb:b=D
    . simp_all
    . exact .inr (.inl (by rw [j6 hb];exact q))
  . exact .inr (.inr q)
theorem J5{α : Type}{l:List (Option α)}{x:α}(h:(List.replicate n none++js.map fun j=>(l[j]?).join)[i]?=some (some x)):∃ j,n<=i/\js[i - n]?=some j/\l[j]?=some (some x):=by
 by_cases hi:i<n
 . rw [Yab (by simp_all),Yad,if_pos hi] at h
   cases h
 . rw [Yae (by simpa using hi),Ybb,Ya0] at h
   cases ej:js[i - n]? with
   | none=>simp_all
   | some j=>
    rw [ej] at h;have h':(l[j]?).join=some x:=WaU h;refine⟨j,Nat.not_lt.mp hi,rfl,?_⟩;cases q:l[j]? with
    | none=>rw [q] at h';cases h'
    | some o=>simp_all
theorem zj3{α : Type}{l:List (Option α)}{x:α}(b:n<=i)(a:js[i - n]?=some j)(h:l[j]?=some (some x)):(List.replicate n none++js.map fun j=>(l[j]?).join)[i]?=some (some x):=by
 rw [Yae (by simp_all),Ybb,Ya0,a]
 simp [h]
theorem Rf.asideU(r:Rf K H0 G f v d)(b:G A=none):Rf K (upd H0 A (.lst ys)) G f v d:=⟨r.rd,fun h=>jY (Same.refl _) (fun a o e n=>by rw [zc (jd e b)];exact n) (r.nw h)⟩
theorem Rf.asideD(r:Rf K (upd H0 A (.lst ys)) G f v d):Rf K H0 G f v d:=⟨r.rd,fun h=>jY (Same.refl _) (fun a o e n=>by
 have b:a≠A:=fun z=>by subst z;rw [zf] at n;cases n
 rw [zc b] at n;exact n) (r.nw h)⟩
theorem Rf.aside(r:Rf K (upd H0 A (.lst ys)) G f v d)(a:G A=none):Rf K (upd H0 A (.lst zs)) G f v d:=r.asideD.asideU a
theorem Rfs.asideU{v:List V}(r:Rfs K H0 G f v d)(b:G A=none):Rfs K (upd H0 A (.lst ys)) G f v d:=⟨r.rd,fun h=>rdns_mono (Same.refl _) (fun a o e n=>by rw [zc (jd e b)];exact n) (r.nw h)⟩
theorem Rfs.aside{v:List V}(r:Rfs K (upd H0 A (.lst ys)) G f v d)(b:G A=none):Rfs K (upd H0 A (.lst zs)) G f v d:=⟨r.rd,fun h=>rdns_mono (Same.refl _) (fun a o e n=>by
 rw [zc (jd e b)] at n ⊢;exact n) (r.nw h)⟩
theorem Dr.asideU{K:Ybf}{H0 G:Hp}{A:Addr}{ys:List V}{kvs:List (List Key×V)}{ds:List (List Key×PyData)}(r:Dr K H0 G kvs ds)(c:G A=none):Dr K (upd H0 A (.lst ys)) G kvs ds:=by
 induction r with
 | nil=>exact .nil
 | cons a b e=>exact .cons (a.asideU c) e
theorem Dr.aside{K:Ybf}{H0 G:Hp}{A:Addr}{ys zs:List V}{kvs:List (List Key×V)}{ds:List (List Key×PyData)}(r:Dr K (upd H0 A (.lst ys)) G kvs ds)(c:G A=none):Dr K (upd H0 A (.lst zs)) G kvs ds:=by
 induction r with
 | nil=>exact .nil
 | cons a b e=>exact .cons (a.aside c) e
theorem Vw.rebase(w:Vw K H0 G (upd H A (.lst [])) v c)(s:Sub G H)(i:H A=none):Vw K (upd H0 A (.lst [])) G (upd H A (.lst [])) v c:=by
 have e:=s.free i;cases w with
 | sh r=>exact .sh (r.asideU e)
 | ow h r n=>exact .ow h (r.asideU e) n
 | tr t=>
  refine .tr ⟨t.top,t.topG,t.nd,t.len,fun k p m l g=>?_⟩
  obtain⟨j,a,b,c⟩:=t.item k p m l g;exact⟨j,a,b,c.asideU e⟩
 | dt h r n=>exact .dt h (r.asideU e) n
 | dk h n=>exact .dk h n
 | fd h r k=>exact .fd h (r.asideU e) k
 | tk h=>exact .tk h
 | dm h n=>exact .dm h n
 | ex h=>exact .ex h
section
variable{D:Addr}
theorem Fr3.comp(F:Fr3 K H0 G0 ρ σ G H)(n:Nat){js:List Nat}(hj:js.Nodup)(s:H D=none):Fr3 K (upd H0 D (.lst [])) G (cst3 n js ρ) (cst n js σ) G (upd H D (.lst [])) where
 keep:=fun b o e=>by
  by_cases C:b=D
  . subst C;rw [zf] at e ⊢;exact .inl e
  . rw [zc C] at e ⊢
    rcases F.keep b o e with z|⟨z,y,l⟩
    . exact .inl z
    . exact .inr ⟨z,y,l.same (zG s _).x⟩
 sub:=F.sub.trans (zG s _).x
 old:=fun b o e=>.inl e
 g0:=Same.refl _
 slot:=fun i c e=>by
  obtain⟨j,A,r,p⟩:=J5 e;obtain⟨v,E,u⟩:=F.slot j c p;exact⟨v,zj3 A r E,(u.gr (Gr.apart F.sub s)).rebase F.sub s⟩
 mine:=fun i c v a e Z h=>by
  obtain⟨j,A,r,p⟩:=J5 e;obtain⟨B,w,g,m⟩:=J5 Z;rw [r] at g;cases g;obtain⟨⟨o,q,_⟩,_⟩:=(F.vw p m).has h;rw [zc (jd q s)];exact F.mine j c v a p m h
 apart:=fun i k L Y S R a Q N M P X O=>by
  obtain⟨j,A,r,p⟩:=J5 Q;obtain⟨B,w,g,m⟩:=J5 N;obtain⟨j2,E,u,U⟩:=J5 M;obtain⟨j3,h7,I,W⟩:=J5 P;rw [r] at u;cases u;rw [g] at I;cases I;have e:=F.apart j B L Y S R a p m U W X O;subst e;have ei:i - n=k - n:=by
   obtain⟨a1,J⟩:=Ya8.mp r;obtain⟨a2,T⟩:=Ya8.mp g;exact(WaK hj).mp (J.trans T.symm)
  omega
 len:=by unfold cst3 cst;simp
theorem Fr3.aside{ys zs:List V}(F:Fr3 K (upd H0 D (.lst ys)) G0 ρ σ G H)(B:G0 D=none):Fr3 K (upd H0 D (.lst zs)) G0 ρ σ G (upd H D (.lst zs)):=by
 have A:=F.keep.at (b:=D) zf;have u:G D=none:=by
  cases e:G D with
  | none=>rfl
  | some o=>
   rcases F.old D o e with q|q|⟨Q,q⟩
   . rw [B] at q;cases q
   . rw [zf] at q;cases q
   . have:=F.sub.s _ _ e;rw [A,q] at this;cases this
 refine⟨fun b o e=>?_,⟨fun b o e=>by rw [zc (jd e u)];exact F.sub.s b o e,F.sub.cl⟩,fun b o e=>?_,F.g0,fun i c e=>?_,fun i c v a e N h=>?_,F.apart,F.len⟩
 . by_cases j:b=D
   . subst j;rw [zf] at e ⊢;exact .inl e
   . rw [zc j] at e ⊢
     rcases F.keep b o (by rw [zc j];exact e) with z|⟨z,y,l⟩
     . exact .inl z
     . exact .inr ⟨z,y,l.upd j fun f q=>by rw [A] at q;cases q⟩
 . rcases F.old b o e with q|q|q
   . exact .inl q
   . by_cases j:b=D
     . subst j;rw [zf] at q;cases q
     . rw [zc j] at q;exact .inr (.inl (by rw [zc j];exact q))
   . exact .inr (.inr q)
 . obtain⟨v,s,w⟩:=F.slot i c e
   refine⟨v,s,?_⟩
   cases w with
   | sh r=>exact .sh (r.aside u)
   | ow h r n=>
    rename_i l E f J;have g:l≠D:=fun z=>by
     subst z;have:=F.mine i _ _ l e s rfl;rw [zf] at this;cases this
    exact .ow (by rw [zc g];exact h) (r.aside u) n
   | dt h r n=>
    rename_i l O J;have g:l≠D:=fun z=>by
     simp_all
    exact .dt (by rw [zc g];exact h) (r.aside u) n
   | dk h n=>
    rename_i l P;have g:l≠D:=fun z=>by
     subst z;have:=F.mine i _ _ l e s rfl;rw [zf] at this;cases this
    exact .dk (by rw [zc g];exact h) n
   | fd h r k=>exact .fd h (r.aside u) k
   | tk h=>exact .tk h
   | dm h n=>
    rename_i l P;have g:l≠D:=fun z=>by
     subst z
     simp_all
    exact .dm (by rw [zc g];exact h) n
   | tr t=>
    rename_i l M L;have g:∀ a,Has (.tr M L) (.ref l) a->a≠D:=fun a I z=>by
     subst z;have:=F.mine i _ _ a e s I;rw [zf] at this;cases this
    refine .tr ⟨by rw [zc (g l (.inl rfl))];exact t.top,t.topG,t.nd,t.len,fun k p m s w=>?_⟩
    obtain⟨E,a,b,c⟩:=t.item k p m s w;exact⟨E,by rw [zc (g p (.inr (Yah s)))];exact a,b,c.aside u⟩
   | ex h=>
    rename_i l C;have g:l≠D:=fun z=>by subst z;rw [A] at h;cases h
    exact .ex (by rw [zc g];exact h)
 . have q:=F.mine i c v a e N h
   have g:a≠D:=fun z=>by subst z;rw [zf] at q;cases q
   rw [zc g] at q ⊢;exact q
theorem Fr3.atD{ys:List V}(F:Fr3 K (upd H0 D (.lst ys)) G0 ρ σ G H)(a:G0 D=none):G D=none/\H D=some (.lst ys):=by
 refine⟨?_,F.keep.at zf⟩
 cases e:G D with
 | none=>rfl
 | some o=>
  rcases F.old D o e with q|q|⟨c,q⟩
  . grind
  . rw [zf] at q;cases q
  . have g:=F.sub.s _ _ e
    have b:=F.keep.at zf
    grind
end
structure PTs3(X:Cx)(H0:Hp)(es:List Expr)(t:TT3):Prop where
 mono:∀ ρ (Q Q':Bool->Prop),(∀ c,Q c->Q' c)->t ρ Q->t ρ Q'
 ok:PTs X es (Zg X.K H0 t)
def true3:TT3:=fun _ Q=>Q true
theorem jC:PTs3 X H0 [] true3:=⟨fun ρ Q b h q=>h _ q,fun a s σ H Q I=>el5 fun c ρ G F q=>zaR _ s σ H Q I (q G H (Gr.refl F.sub))⟩
theorem zgk{c:Expr}{t:TT3}(h:PT3 X H0 c t):PTs3 X H0 [c] t:=⟨h.mono,zc0 h.ok⟩
def j7(g:TG3)(tt:TT3)(te:TE3)(f:Bool):List D->Bool->List D->Env3->(Bool->List D->Prop)->Prop
 | [],fa,acc,_,Q=>Q fa acc
 | d::ds,fa,acc,ρ,Q=>g f d ρ fun ρ'=>tt ρ' fun k=>if k=true then te ρ' fun c=>asS c fun fy y=>j7 g tt te f ds (fa&&fy) (acc++[y]) ρ' Q else j7 g tt te f ds fa acc ρ' Q
def Jz(ti:TI3)(g:TG3)(tt:TT3)(te:TE3)(n:Nat)(js:List Nat):TN3:=fun ρ Q=>ti ρ fun f ds=>ds.length<=sizeLine/\j7 g tt te f ds true [] (cst3 n js ρ) Q
theorem zc9{g:TG3}{tt:TT3}{te:TE3}(j:∀ f d ρ (Q Q':Env3->Prop),(∀ c,Q c->Q' c)->g f d ρ Q->g f d ρ Q')(b:∀ ρ (Q Q':Bool->Prop),(∀ c,Q c->Q' c)->tt ρ Q->tt ρ Q')(i:∀ ρ (Q Q':Cl->Prop),(∀ c,Q c->Q' c)->te ρ Q->te ρ Q')
 {f:Bool} {Q Q':Bool->List D->Prop} (h:∀ f c,Q f c->Q' f c):∀ ds fa acc ρ,j7 g tt te f ds fa acc ρ Q->j7 g tt te f ds fa acc ρ Q'
 | [],fa,acc,ρ,q=>h _ _ q
 | d :: ds, fa, acc, ρ, q => j f d ρ _ _ (fun a => b a _ _ fun k => by
  cases k with
  | true=>exact i a _ _ fun c q=>by obtain⟨l,y,e,q⟩:=Ju q;subst e;exact zc9 j b i h ds _ _ a q
  | false=>exact zc9 j b i h ds fa acc a) q
theorem zcV(nd:(tn++fn).Nodup)(hj:js.map (fun j=>N[j]?)=fn.map some):js.Nodup:=by
 have h1:(fn.map some).Nodup:=by
  have:=(WaA.mp nd).2.1;exact List.Pairwise.map some (fun a b h e=>h (WaU e)) this
 rw [<-hj] at h1;exact List.Pairwise.of_map _ (fun a b h e=>h (by rw [e])) h1
theorem zdm{elt tg:Expr}{ifs:List Expr}{scope:Scope}{N:List Str}{g:TG3}{tt:TT3}{te:TE3}
 (hb:∀ H0 s H fp cl,PG3 (X.comp scope N s H fp cl) H0 tg g/\PTs3 (X.comp scope N s H fp cl) H0 ifs tt/\PE3 (X.comp scope N s H fp cl) H0 elt te):∀ s H fp cl,PG (X.comp scope N s H fp cl) tg (fun v σ H Q=>∃ H0,zdP X.K H0 g v σ H Q)/\PTs (X.comp scope N s H fp cl) ifs (fun σ H Q=>∃ H0,Zg X.K H0 tt σ H Q)/\PE (X.comp scope N s H fp cl) elt (fun σ H Q=>∃ H0,j0 X.K H0 te σ H Q):=fun s H fp cl=>
 ⟨fun pins s' σ H' v u Q I r zz0=>by obtain⟨h0,q⟩:=zz0;exact(hb h0 s H fp cl).1.ok _ s' σ H' v u Q I r q,fun pins s' σ H' Q I zz0=>by obtain⟨h0,q⟩:=zz0;exact(hb h0 s H fp cl).2.1.ok _ s' σ H' Q I q,fun pins s' σ H' Q I zz0=>by obtain⟨h0,q⟩:=zz0;exact(hb h0 s H fp cl).2.2.ok _ s' σ H' Q I q⟩
theorem zdV{Y Y' Y'':Cx}{h1 h2 h3:Hp}{elt tg iter:Expr}{ifs:List Expr}{ti:TI3}{g:TG3}{tt:TT3}{te:TE3}{n:Nat}{js:List Nat}(S:js.Nodup)(hi:PI3 X H0 tg iter ti)(m1:PG3 Y h1 tg g)(m2:PTs3 Y' h2 ifs tt)(m3:PE3 Y'' h3 elt te) :
 ∀ σ H Q,zfT X.K H0 (Jz ti g tt te n js) σ H Q->zb5 (zgP X.K H0 ti) (fun v σ H Q=>∃ H0,zdP X.K H0 g v σ H Q) (fun σ H Q=>∃ H0,Zg X.K H0 tt σ H Q) (fun σ H Q=>∃ H0,j0 X.K H0 te σ H Q) n js σ H Q:=by
 rintro σ H Q ⟨G0,ρ,G,F,q⟩
 refine⟨G0,ρ,G,F,hi.mono ρ _ _ (fun U p ⟨hz,k⟩ J s H1 O ok A hA=>?_) q⟩
 have F1:=F.gr O;have K:s A=none:=O.sub.free hA;refine⟨fun i m l M w=>i<=p.length/\m=p.length - i/\l.length<=i/\∃ j u P I,Fr3 X.K (upd H0 A (.lst l)) s j M u w/\Rfs X.K H0 u P l I/\Gr s H1 u (er A w)/\j7 g tt te U (p.drop i) P I j _,
  ⟨p.length,Wbm _,rfl,YaY _,cst3 n js ρ,s,true,[],F1.comp n S hA,.nil,?_,k⟩,?_⟩
 . have e:er A (upd H1 A (.lst []))=H1:=by
    funext b
    by_cases o:b=A
    . subst o;rw [za4,hA]
    . rw [j6 o,zc o]
   rw [e];exact Gr.refl O.sub
 rintro i m l M w ⟨a0,rfl,E,j,u,P,I,B,Z,g2,N⟩
 obtain⟨a4,W⟩:=B.atD K
 by_cases a:i<p.length
 . right
   have hd:=YaQ a;obtain⟨a3,hy⟩:=ok.go i _ u w hd B.g0 B.sub;rw [List.drop_eq_getElem_cons a] at N;refine⟨a3,fun x H3 y=>?_⟩
   obtain⟨G3,g3,r3⟩:=hy x H3 y;have F3:=B.gr g3;refine⟨upd H0 A (.lst l),s,j,G3,U,_,F3,r3.asideU (F3.atD K).1,m1.mono U _ j _ _ (fun h q4 σ4 G4 H4 F4 s4 g4=>?_) N⟩
   refine⟨upd H0 A (.lst l),s,h,G4,F4,m2.mono h _ _ (fun b q5 G5 H5 g5=>?_) q4⟩
   have R:=F4.gr g5;have r:=(g3.trans g4).trans g5;cases b with
   | true=>
    refine⟨upd H0 A (.lst l),s,h,G5,R,m3.mono h _ _ (fun c q6 v G6 H6 g6 w6=>?_) q5⟩
    obtain⟨fy,y,hc,q6⟩:=Ju q6;subst hc;have F6:=R.gr g6;obtain⟨T,L⟩:=F6.atD K;have C:=r.trans g6;refine⟨L,YaU (War E a) hz,p.length - (i+1),Nat.sub_lt_sub_left a (WaL _),Nat.succ_le_of_lt a,rfl,by rw [YaS,List.length_singleton];omega,h,G6,_,I++[y],F6.aside K,(Z.same C.g).snoc ((zo w6).asideD),?_,q6⟩
    have e:er A (upd H6 A (.lst (l++[v])))=er A H6:=by
     funext b
     by_cases o:b=A
     . subst o;rw [za4,za4]
     . rw [j6 o,j6 o,zc o]
    rw [e];exact g2.trans (C.er T fun f z=>by rw [L] at z;cases z)
   | false=>
    obtain⟨a1,a2⟩:=R.atD K;exact⟨p.length - (i+1),Nat.sub_lt_sub_left a (WaL _),Nat.succ_le_of_lt a,rfl,Nat.le_succ_of_le E,h,G5,P,I,R,Z.same r.g,g2.trans (r.er a1 fun f z=>by rw [a2] at z;cases z),q5⟩
 . left
   have e:i=p.length:=Nat.le_antisymm a0 (Nat.not_lt.mp a);rw [e,List.drop_length] at N;refine⟨ok.stop i u w e B.g0 B.sub,?_⟩;have k3:=N A l u (er A w) (O.trans g2) za4 Z;rw [zkD W] at k3;exact k3
theorem jL{elt tg iter:Expr}{ifs:List Expr}{scope:Scope}{ti:TI3}{g:TG3}{tt:TT3}{te:TE3}(tn fn:List Str)(js:List Nat)(hcalm:X.calm=true)(S:CompSc X.env.scope scope tn fn)(hj:js.map (fun j=>X.N[j]?)=fn.map some)(hi:PI3 X H0 tg iter ti)
 (hb:∀ H0 s H fp cl,PG3 (X.comp scope (tn++fn) s H fp cl) H0 tg g/\PTs3 (X.comp scope (tn++fn) s H fp cl) H0 ifs tt/\PE3 (X.comp scope (tn++fn) s H fp cl) H0 elt te)
 (hs:∀ x,foldedSetIterable iter X.env x=pure x:=by intro _;rfl):PN3 X H0 (.ListComp elt [⟨tg,iter,ifs,0⟩] scope pos) (Jz ti g tt te tn.length js):=by
 obtain⟨m1,m2,m3⟩:=hb H0 X.s₀ X.H₀ [] [];have hjn:=zcV S.nd hj;refine⟨fun ρ Q Q' h q=>hi.mono ρ _ _ (fun f ds zz0=>by obtain⟨z,q⟩:=zz0;exact⟨z,zc9 m1.mono m2.mono m3.mono h ds _ _ _ q⟩) q,?_⟩
 exact PE.imp (zaL tn fn js hcalm S hj hi.ok (zdm hb) hs) (zdV hjn hi m1 m2 m3)
theorem zgA{elt tg iter:Expr}{ifs:List Expr}{scope:Scope}{spos pos':Pos}{i:Nat}{x:Str}{ti:TI3}{g:TG3}{tt:TT3}{te:TE3}(N:X.N.Nodup)(h:X.N[i]?=some x)(w:Loc X.env.scope x)(b c:List Str)(e:List Nat)(a:X.calm=true)(S:CompSc X.env.scope scope b c)(u:e.map (fun j=>X.N[j]?)=c.map some)(m:PI3 X H0 tg iter ti)
 (o:∀ H0 s H fp cl,PG3 (X.comp scope (b++c) s H fp cl) H0 tg g/\PTs3 (X.comp scope (b++c) s H fp cl) H0 ifs tt/\PE3 (X.comp scope (b++c) s H fp cl) H0 elt te)
 (v:∀ x,foldedSetIterable iter X.env x=pure x:=by intro _;rfl)
 (p:swapsWith (.ListComp elt [⟨tg,iter,ifs,0⟩] scope pos) (some (.Name x pos')) spos.line X.env=pure true:=by rfl) (E:X.fn x=true\/X.env.scope.names.lookup x=some .local:=by first|exact .inl rfl|exact .inr rfl|assumption) :
 PS3 X H0 (.Assign [.Name x pos'] (.ListComp elt [⟨tg,iter,ifs,0⟩] scope pos) spos) (own3 i (Jz ti g tt te b.length e)):=by
 obtain⟨C,K,y⟩:=o H0 X.s₀ X.H₀ [] [];have n:=zcV S.nd u;have z:=jL (pos:=pos) b c e a S u m o v;refine PS.imp (zb3 N h w b c e a S u m.ok (zdm o) v p E) fun B σ H=>el7 fun I A ρ G F q L=>?_
 exact zdV n m C K y σ H _ ⟨I,ρ,G,F,z.mono ρ _ _ (fun f Q q l P M O g J r=>L.nx _ _ M _ ((F.gr g).own r J) q) q⟩
theorem zbG{elt tg iter:Expr}{ifs:List Expr}{scope:Scope}{spos pos':Pos}{i:Nat}{x:Str}{ti:TI3}{g:TG3}{tt:TT3}{te:TE3}(N:X.N.Nodup)(m:X.N[i]?=some x)(C:Loc X.env.scope x)(b c:List Str)(e:List Nat)(a:X.calm=true)(S:CompSc X.env.scope scope b c)(w:e.map (fun j=>X.N[j]?)=c.map some)(n:PI3 X H0 tg iter ti)
 (p:∀ H0 s H fp cl,PG3 (X.comp scope (b++c) s H fp cl) H0 tg g/\PTs3 (X.comp scope (b++c) s H fp cl) H0 ifs tt/\PE3 (X.comp scope (b++c) s H fp cl) H0 elt te)
 (y:∀ x,foldedSetIterable iter X.env x=pure x:=by intro _;rfl)
 (v:swapsWith (.ListComp elt [⟨tg,iter,ifs,0⟩] scope pos) (some (.Name x pos')) spos.line X.env=pure true:=by rfl) (u:X.fn x=true\/X.env.scope.names.lookup x=some .local:=by first|exact .inl rfl|exact .inr rfl|assumption) :
 PS3 X H0 (.Assign [.Name x pos'] (.ListComp elt [⟨tg,iter,ifs,0⟩] scope pos) spos) (set3 i (nw3 (Jz ti g tt te b.length e))):=by
 obtain⟨J,M,E⟩:=p H0 X.s₀ X.H₀ [] [];have o:=zcV S.nd w;have I:=jL (pos:=pos) b c e a S w n p y;refine PS.imp (zb3 N m C b c e a S w n.ok (zdm p) y v u) fun B σ H=>el7 fun K A ρ G F q L=>?_
 refine zdV o n J M E σ H _ ⟨K,ρ,G,F,I.mono ρ _ _ (fun f Q q l P R O g h r=>?_) q⟩
 refine L.nx _ _ _ _ ((F.gr (g.trans (Gr.put g.sub h))).set ?_) q
 exact⟨.lst (SqL.of zf) (rdvs_same (zG (g.sub.free h) _) r.rd),fun u=>.lst zf ((F.keep.trans g.h).free h) (rdns_mono (zG (g.sub.free h) _) (fun _ _ _ z=>z) (r.nw u))⟩
noncomputable def Ja(N:List Str)(ds:List D):Env3:=ds.map (fun d=>some (.sh (zx d) d))++List.replicate (N.length - ds.length) none
theorem zfN{K:Ybf}{G H:Hp}{N:List Str}{vs:List V}{ds:List D}(s:Sub G H)(r:RdVs K G vs ds):Fr3 K H G (Ja N ds) (start N vs) G H:=by
 have at3:∀ (i:Nat) c,(Ja N ds)[i]?=some (some c)->∃ d,ds[i]?=some d/\c=.sh (zx d) d:=fun i c e=>by
  unfold Ja at e
  by_cases hi:i<ds.length
  . rw [Yab (by simp_all),Ya0] at e
    simp_all
  . rw [Yae (by simp_all),Yad] at e
    grind
 refine⟨zi.refl _,s,fun b o e=>.inl e,Same.refl _,fun i c e=>?_,fun i c v a e _ h=>?_,fun i j c c' v v' a e _ _ _ h _=>?_,?_⟩
 . obtain⟨d,hd,rfl⟩:=at3 i c e
   obtain⟨x,hx,rx⟩:=r.get hd;refine⟨x,?_,.sh ⟨rx,fun h=>zaX h rx⟩⟩
   unfold L2.start;have hi:=(Ya8.mp hx).1;rw [Yab (by simp_all),Ya0,hx];rfl
 . obtain⟨d,hd,z⟩:=at3 i _ e;subst z;exact False.elim h
 . obtain⟨d,hd,z⟩:=at3 i _ e;subst z;exact False.elim h
 . unfold Ja L2.start;simp [r.length]
theorem fn3{P:Program}{w:World}{K:Ybf}{mg:Str->Option Value}{base:Heap}{x qual:Str}{st:Stmt}{f:Addr}{fd:FuncData}{N ps:List Str}{k:Nat}{sp:Sp3}(F:Fun K x qual st f fd)(S:FnScope N ps (zh st))(b:∀ ds Q E,sp ds Q E->ds.length=ps.length)
 (a:∀ (cdv:Value) (A:Around) (outer:List Env) (s:Shared) (H:Hp) (E:XK) (E3:Addr->Prop),(∀ C H',E3 C->zi H H'->E (.ref C) none H')->Room k (A.deeper (envOfC qual (zh st) s.heap.objs.size f cdv))->
  ∃ t,PSs3 (cxOf (CXR P w) P w K mg base N qual (zh st) f cdv A outer s H E) H (jO st) t/\∀ ds Q,sp ds Q E3->t { nx:=fun _=>Q true .none,rt:=Q } (Ja N ds)):FnOk P w K mg base (CXR P w) (k+1) f fd ps (spL K sp):=by
 refine F.okR S (fun l H Q E h=>?_) (fun cdv A outer s H l Q E o h=>?_)
 . obtain⟨G,ds,_,r,h⟩:=h
   rw [r.length];exact b _ _ _ h
 . obtain⟨G,ds,n,r,h⟩:=h
   obtain⟨t,i,p⟩:=a cdv A outer s H E (fun C=>∀ H',zi H H'->E _ none H') (fun C H' e z=>e H' z) o
   refine⟨_,i,G,_,_,G,zfN n r,p ds _ h,⟨fun ρ σ c H' m q=>q .non c H' m.gr0 (.sc rfl .non),fun f d v c H' g j q=>q v c H' g j,fun _ _ _ _ _ q=>q.elim,fun _ _ _ _ _ q=>q.elim,fun _ _ _ _ _ _ _ _ _ q=>q.elim⟩⟩
def ZM(C:Addr)(E:Addr->Prop)(t:TA3):TS3:=fun _ ρ=>t ρ fun cs=>cs.length<=sizeLine/\E C
theorem zgJ(h:Vws K H0 G H vs cs):vs.length=cs.length:=by
 induction h with
 | nil=>rfl
 | cons _ _ a=>simp_all
theorem jq{X:Cx}{H0:Hp}{x:Str}{C:Addr}{e0:Expr}{t:TA3}{E:XK}{E3:Addr->Prop}{np cpos pos:Pos}(hE:∀ C H',E3 C->zi H0 H'->E (.ref C) none H')(hf:Flies X E)(hc:X.calm=true)(hg:Gl X x)(hm:X.mg x=some (.ref C))(hx:PySem.W.excIn X.K C bmVE "ValueError.__new__" = true)(ha:PA3 X H0 [e0] t)
 (hdb:(x==("__debug__" : Str))=false:=by decide) (hs:starEach [e0] X.env=[(false,eval e0 X.env)]:=by rfl):PS3 X H0 (.Raise (some (.Call (.Name x np) [e0] [] cpos)) none pos) (ZM C E3 t):=
 PS.imp (ziK hf hc hg hm hx ha.ok hdb hs) fun B σ H=>el7 fun G0 A ρ G F q L=>⟨G0,ρ,G,F,ha.mono ρ _ _ (fun cs zz0 vs G' H' g w=>by obtain⟨z,e⟩:=zz0;exact⟨by rw [zgJ w];exact z,hE C H' e (F.gr g).keep⟩) q⟩
variable[LamW]
theorem JH{i:Str}(r:RdV K G v (.str i)):v=.str i:=by cases r;rfl
theorem zmu(r:RdV K G v .none):v=.non:=by cases r;rfl
section
def add3:R3:=fun a b Q=>match a,b with
 | .sh _ (.int i),.sh _ (.int j)=>Q true (.int (i+j))
 | .sh _ (.str x),.sh _ (.str y)=>x.length+y.length<=sizeLine/\Q true (.str (x++y))
 | _,_=>False
def int3(C:Int->Int->Prop)(g:Int->Int->D):R3:=fun a b Q=>match a,b with
 | .sh _ (.int i),.sh _ (.int j)=>C i j/\Q true (g i j)
 | _,_=>False
def int0(g:Int->Int->D):R3:=fun a b Q=>match a,b with
 | .sh _ (.int i),.sh _ (.int j)=>Q true (g i j)
 | _,_=>False
theorem zU:OpOk X (binaryOp .Add) add3:=by
 refine⟨fun a b Q Q' h q=>?_,fun H0=>OpR.imp (zc5.or zk7) fun x y H Q=>el3 fun G a b s wa wb q=>?_⟩
 . unfold add3 at *;split at q
   . exact h _ _ q
   . exact⟨q.1,h _ _ q.2⟩
   . exact q
 . unfold add3 at q;split at q
   . cases zy (zo wa).rd;cases zy (zo wb).rd
     exact .inl ⟨_,_,rfl,rfl,q _ G H (Gr.refl s) (.sc rfl (.int _))⟩
   . cases JH (zo wa).rd;cases JH (zo wb).rd
     exact .inr ⟨_,_,rfl,rfl,q.1,q.2 _ G H (Gr.refl s) (.sc rfl (.str _))⟩
   simp_all
theorem opI3{f:Value->Value->Sem Value}{C:Int->Int->Prop}{g:Int->Int->Int}(h:OpR X f (rI C fun i j=>.int (g i j))):OpOk X f (int3 C fun i j=>.int (g i j)):=by
 refine⟨fun a b Q Q' h q=>?_,fun H0=>OpR.imp h fun x y H Q=>el3 fun G a b s wa wb q=>?_⟩
 . unfold int3 at *;split at q
   . exact⟨q.1,h _ _ q.2⟩
   . exact q
 . unfold int3 at q;split at q
   . cases zy (zo wa).rd;cases zy (zo wb).rd
     exact⟨_,_,rfl,rfl,q.1,q.2 _ G H (Gr.refl s) (.sc rfl (.int _))⟩
   simp_all
theorem zim{f:Value->Value->Sem Value}{g:Int->Int->Int}(h:OpR X f (rI0 fun i j=>.int (g i j))):OpOk X f (int0 fun i j=>.int (g i j)):=by
 refine⟨fun a b Q m h q=>?_,fun l=>OpR.imp h fun x y H Q=>el3 fun G a b s e c q=>?_⟩
 . unfold int0 at *;split at q
   . exact h _ _ q
   . exact q
 . unfold int0 at q;split at q
   . cases zy (zo e).rd;cases zy (zo c).rd
     exact⟨_,_,rfl,rfl,q _ G H (Gr.refl s) (.sc rfl (.int _))⟩
   simp_all
theorem zbX{f:Value->Value->Sem Value}{g:Int->Int->Bool}(h:OpR X f (rI0 fun i j=>.bl (g i j))):OpOk X f (int0 fun i j=>.bool (g i j)):=by
 refine⟨fun a b Q m h q=>?_,fun l=>OpR.imp h fun x y H Q=>el3 fun G a b s e c q=>?_⟩
 . unfold int0 at *;split at q
   . exact h _ _ q
   . exact q
 . unfold int0 at q;split at q
   . cases zy (zo e).rd;cases zy (zo c).rd
     exact⟨_,_,rfl,rfl,q _ G H (Gr.refl s) (.sc rfl (.bl _))⟩
   simp_all
theorem jF:OpOk X (binaryOp .Sub) (int0 fun i j=>.int (i - j)):=zim ZG
theorem zW:OpOk X (binaryOp .Mult) (int3 IntMulOk fun i j=>.int (i*j)):=opI3 zja
theorem zI:OpOk X (binaryOp .FloorDiv) (int3 jU fun i j=>.int (i/j)):=opI3 zik
theorem zL:OpOk X (binaryOp .Mod) (int3 (fun _ j=>0<j) fun i j=>.int (i%j)):=opI3 zkC
theorem JB:OpOk X (binaryOp .Pow) (int3 J9 fun i j=>.int (i ^ j.toNat)):=opI3 zhg
theorem jW:OpOk X (compareOp .Lt) (int0 fun i j=>.bool (decide (i<j))):=zbX zgq
theorem j4:OpOk X (compareOp .LtE) (int0 fun i j=>.bool (decide (i<=j))):=zbX zii
theorem Jn:OpOk X (compareOp .Gt) (int0 fun i j=>.bool (decide (j<i))):=zbX zhB
theorem zfv:OpOk X (compareOp .GtE) (int0 fun i j=>.bool (decide (j<=i))):=zbX zkT
def neg3:U3:=fun a Q=>match a with
 | .sh _ (.int i)=>Q true (.int (-i))
 | _=>False
theorem UnR.imp{r r':V->Hp->VK->Prop}(h:UnR X f r)(i:∀ x H Q,r' x H Q->r x H Q):UnR X f r':=fun a s σ H x v Q I b q=>h _ s σ H x v Q I b (i _ _ _ q)
theorem zhq:UnOk X (unaryOp .USub) neg3:=by
 refine⟨fun a Q e h q=>?_,fun c=>UnR.imp zix fun x H Q ⟨G,a,s,b,q⟩=>?_⟩
 . unfold neg3 at *;split at q
   . exact h _ _ q
   . exact q
 . unfold neg3 at q;split at q
   . cases zy (zo b).rd
     exact⟨_,rfl,q _ G H (Gr.refl s) (.sc rfl (.int _))⟩
   simp_all
def eqOk:D->D->Prop
 | .str _,.str _=>True
 | .int _,.int _=>True
 | d,e=>SeqAt.shaped d=true/\SeqAt.shaped e=true
noncomputable def eqv3:D->D->Bool
 | .str x,.str y=>decide (x=y)
 | .int x,.int y=>decide (x=y)
 | d,e=>PyData.eqv d e
def eq3:R3:=fun a b Q=>a.dat=true/\b.dat=true/\eqOk a.d b.d/\Q true (.bool (eqv3 a.d b.d))
def ne3:R3:=fun a b Q=>a.dat=true/\b.dat=true/\eqOk a.d b.d/\Q true (.bool (!eqv3 a.d b.d))
theorem ze6{e:D}:(∃ x y,d=.str x/\e=.str y/\eqv3 d e=decide (V.str x=V.str y))\/(∃ x y,d=.int x/\e=.int y/\eqv3 d e=decide (V.int x=V.int y))\/(eqv3 d e=PyData.eqv d e/\(eqOk d e->SeqAt.shaped d=true/\SeqAt.shaped e=true)):=by
 cases d<;>cases e<;>first
  | exact .inr (.inr ⟨rfl,fun h=>h⟩)
  | exact .inl ⟨_,_,rfl,rfl,by simp [eqv3]⟩
  | exact .inr (.inl ⟨_,_,rfl,rfl,by simp [eqv3]⟩)
theorem jl(hu:X.A.units+64<cLine):OpOk X (compareOp .Eq) eq3:=by
 refine⟨fun a b Q Q' h zz0=>by obtain⟨x,y,z,q⟩:=zz0;exact⟨x,y,z,h _ _ q⟩,fun H0=>OpR.imp (zf5.or (zkv hu)) fun x y H Q ⟨G,a,b,s,wa,wb,ha,hb,ho,q⟩=>?_⟩
 have ra:=wa.rd s ha;have rb:=wb.rd s hb
 rcases ze6 (d:=a.d) (e:=b.d) with ⟨i,j,e1,e2,e3⟩|⟨i,j,e1,e2,e3⟩|⟨e3,hs⟩
 . rw [e1] at ra;rw [e2] at rb
   cases JH ra;cases JH rb
   exact .inl ⟨rfl,by rw [<-e3];exact q _ G H (Gr.refl s) (.sc rfl (.bl _))⟩
 . rw [e1] at ra;rw [e2] at rb
   cases zy ra;cases zy rb
   exact .inl ⟨rfl,by rw [<-e3];exact q _ G H (Gr.refl s) (.sc rfl (.bl _))⟩
 . exact .inr ⟨_,_,ra,rb,(hs ho).1,(hs ho).2,by rw [<-e3];exact q _ G H (Gr.refl s) (.sc rfl (.bl _))⟩
theorem jB(hu:X.A.units+64<cLine):OpOk X (compareOp .NotEq) ne3:=by
 refine⟨fun a b Q Q' h zz0=>by obtain⟨x,y,z,q⟩:=zz0;exact⟨x,y,z,h _ _ q⟩,fun H0=>OpR.imp (zfd.or (zj0 hu)) fun x y H Q ⟨G,a,b,s,wa,wb,ha,hb,ho,q⟩=>?_⟩
 have ra:=wa.rd s ha;have rb:=wb.rd s hb
 rcases ze6 (d:=a.d) (e:=b.d) with ⟨i,j,e1,e2,e3⟩|⟨i,j,e1,e2,e3⟩|⟨e3,hs⟩
 . rw [e1] at ra;rw [e2] at rb
   cases JH ra;cases JH rb
   exact .inl ⟨rfl,by rw [<-e3];exact q _ G H (Gr.refl s) (.sc rfl (.bl _))⟩
 . rw [e1] at ra;rw [e2] at rb
   cases zy ra;cases zy rb
   exact .inl ⟨rfl,by rw [<-e3];exact q _ G H (Gr.refl s) (.sc rfl (.bl _))⟩
 . exact .inr ⟨_,_,ra,rb,(hs ho).1,(hs ho).2,by rw [<-e3];exact q _ G H (Gr.refl s) (.sc rfl (.bl _))⟩
noncomputable def isNone:Cl->Bool
 | .sh _ .none=>true
 | _=>false
theorem zkW(w:Vw K H0 G H v c):decide (v=.non)=isNone c:=by
 cases w with
 | sh r=>cases r.rd<;>simp [isNone]
 | ow _ _ _=>simp [isNone]
 | tr _=>simp [isNone]
 | dt _ _ _=>simp [isNone]
 | dk _ _=>simp [isNone]
 | fd _ _ _=>simp [isNone]
 | tk _=>simp [isNone]
 | dm _ _=>simp [isNone]
 | ex _=>simp [isNone]
def notN3:R3:=fun a b Q=>b=.sh true .none/\Q true (.bool (!isNone a))
theorem zbR:OpOk X (compareOp .IsNot) notN3:=⟨fun a b Q Q' h zz0=>by obtain⟨e,q⟩:=zz0;exact⟨e,h _ _ q⟩,fun H0=>OpR.imp zjQ fun x y H Q hyp=>by
 obtain⟨G,a,b,s,wa,wb,e,q⟩:=hyp;subst e;exact⟨zmu (zo wb).rd,by rw [zkW wa];exact q _ G H (Gr.refl s) (.sc rfl (.bl _))⟩⟩
noncomputable def ixD:D->Int->Option D
 | .list ds,i=>atI ds i
 | .tuple ds,i=>atI ds i
 | .str z,i=>if z.length<=sizeLine then(atI z.cps.toList i).map fun c=>.str ⟨#[c]⟩ else none
 | _,_=>none
def ix3:R3:=fun a b Q=>match b with
 | .sh _ (.int i)=>a.dat=true/\∃ d,ixD a.d i=some d/\Q (a.f||zx d) d
 | _=>False
theorem zba{i:Int}(r:Rfs K H0 G f vs ds)(h:atI ds i=some d):∃ v,atI vs i=some v/\Rf K H0 G f v d:=by
 unfold atI at *;rw [r.length];cases e:ixN _ i with
 | none=>simp_all
 | some j=>
  rw [e] at h;obtain⟨x,hx,rx⟩:=r.get (h);exact⟨x,hx,rx⟩
theorem IxR.imp{r r':R2}(h:IxR X r)(i:∀ x y H Q,r' x y H Q->r x y H Q):IxR X r':=fun e f a s σ H x y v u Q I c b q z=>h e f _ s σ H x y v u Q I c b (i _ _ _ _ q) z
theorem zi5(H0:Hp):IxR X (zaU X.K H0 ix3):=IxR.imp zlr fun x y H Q=>el3 fun G a b s wa wb q=>by
 unfold ix3 at q;split at q
 . obtain⟨ha,d,hd,q⟩:=q
   rename_i i;cases zy (zo wb).rd;cases wa with
   | @sh v0 f d0 r=>
    cases d0 with
    | list ds=>
     obtain⟨a,xs,rfl,hq,rs⟩:=J3 r;obtain⟨v,hv,rv⟩:=zba rs (show atI ds i=some d from hd)
     exact .inl ⟨_,_,_,v,rfl,rfl,s.seq hq,hv,q v G H (Gr.refl s) rv.or⟩
    | tuple ds=>
     obtain⟨a,xs,rfl,hq,rs⟩:=zbn r;obtain⟨v,hv,rv⟩:=zba rs (hd);exact .inr (.inl ⟨_,_,_,v,rfl,rfl,s.tup hq,hv,q v G H (Gr.refl s) rv.or⟩)
    | str z=>
     cases JH r.rd
     have hd':(if z.length<=sizeLine then(atI _ i).map _ else none)=some d:=hd
     split at hd'
     . rename_i hz
       cases e:atI _ i with
       | none=>rw [e] at hd';cases hd'
       | some c=>
        rw [e] at hd';cases hd';exact .inr (.inr ⟨z,i,c,rfl,rfl,hz,e,q _ G H (Gr.refl s) (.sc rfl (.str _))⟩)
     . cases hd'
    | _=>cases hd
   | ow h rs n=>
    obtain⟨v,hv,rv⟩:=zba rs (hd);exact .inl ⟨_,_,_,v,rfl,rfl,SqL.of h,hv,q v G H (Gr.refl s) rv.or⟩
   | tr h=>cases ha
   | dt _ _ _=>cases ha
   | dk _ _=>cases ha
   | fd _ _ _=>cases ha
   | tk h=>
    obtain⟨v,hv,rv⟩:=zba (⟨Z3 _,fun _=>zb2 _⟩) (hd)
    exact .inr (.inl ⟨_,_,_,v,rfl,rfl,s.tup (SqT.of h),hv,q v G H (Gr.refl s) rv.or⟩)
   | dm _ _=>cases ha
   | ex h=>cases ha
 simp_all
theorem zgj:∀ a b (Q Q':Bool->D->Prop),(∀ f c,Q f c->Q' f c)->ix3 a b Q->ix3 a b Q':=fun a b Q Q' h q=>by
 unfold ix3 at *;split at q
 . obtain⟨x,d,e,q⟩:=q;exact⟨x,d,e,h _ _ q⟩
 . exact q
theorem at3{H0:Hp}{a b:Expr}{pos:Pos}{ta tb:TE3}(e:PE3 X H0 a ta)(c:PE3 X H0 b tb)(g:Zk b):PE3 X H0 (.Subscript a b pos) (o3 ix3 ta tb):=
 ⟨zaP zgj e.mono c.mono,PE.imp (jH (zi5 H0) e.ok c.ok g) (zbx zgj e.mono c.mono)⟩
abbrev TO3:=Env3->(Option Int->Prop)->Prop
def zg9(K:Ybf)(H0:Hp)(t:TO3):TO:=fun σ H Q=>∃ G0 ρ G,Fr3 K H0 G0 ρ σ G H/\t ρ fun o=>∀ G' H',Gr G H G' H'->Q o H'
structure PO3(X:Cx)(H0:Hp)(e:Option Expr)(t:TO3):Prop where
 mono:∀ ρ (Q Q':Option Int->Prop),(∀ c,Q c->Q' c)->t ρ Q->t ρ Q'
 ok:PO X e (zg9 X.K H0 t)
theorem PO.imp{e:Option Expr}{t':TO}(h:PO X e t)(i:∀ σ H Q,t' σ H Q->t σ H Q):PO X e t':=fun a s σ H Q I q=>h _ s σ H Q I (i _ _ _ q)
def zas(t:TE3):TO3:=fun ρ Q=>t ρ fun c=>∃ i,c=.sh true (.int i)/\Q (some i)
variable{p2:Pos}
theorem zfX{e:Expr}{t:TE3}(h:PE3 X H0 e t):PO3 X H0 (some e) (zas t):=⟨fun ρ Q Q' hq q=>h.mono ρ _ _ (fun c zz0=>by obtain⟨i,e,q⟩:=zz0;exact⟨i,e,hq _ q⟩) q,PO.imp (ziH h.ok) fun σ H Q=>el5 fun G0 ρ G F q=>⟨G0,ρ,G,F,h.mono ρ _ _ (fun c hyp v G' H' g w=>by
 obtain⟨i,e,q⟩:=hyp;subst e;exact⟨i,zy (zo w).rd,q G' H' g⟩) q⟩⟩
noncomputable def cut{α : Type}(xs:List α)(lo hi:Option Int):List α:=(xs.drop (HT.sIx xs.length 0 lo)).take (HT.sIx xs.length xs.length hi - HT.sIx xs.length 0 lo)
def slL3(te:TE3)(tl th:TO3):TN3:=fun ρ Q=>te ρ fun c=>tl ρ fun l=>th ρ fun u=>match c with
 | .sh f (.list ds)=>Q (f||ds.all zx) (cut ds l u)
 | .ow f ds=>Q (f||ds.all zx) (cut ds l u)
 | _=>False
theorem zgV(r:Rfs K H0 G f vs ds)(lo a):Rfs K H0 G f (cutV vs lo a) (cut ds lo a):=by
 unfold cutV cut;rw [r.length];exact(r.drop _).take _
theorem ziE{e:Expr}{lo hi:Option Expr}{te:TE3}{tl th:TO3}(b:PE3 X H0 e te)(s:PO3 X H0 lo tl)(i:PO3 X H0 hi th):PN3 X H0 (.Subscript e (.Slice lo hi none p2) pos) (slL3 te tl th):=by
 refine⟨fun ρ Q P h q=>b.mono ρ _ _ (fun c=>s.mono ρ _ _ fun l=>i.mono ρ _ _ fun u q=>?_) q,PE.imp (zmz zlE b.ok s.ok i.ok) fun σ H Q=>el5 fun o ρ G F q=>?_⟩
 . split at q
   . exact h _ _ q
   . exact h _ _ q
   . exact q
 . refine⟨o,ρ,G,F,b.mono ρ _ _ (fun c E v I O j K=>⟨o,ρ,I,F.gr j,s.mono ρ _ _ (fun l J L R r=>⟨o,ρ,L,F.gr (j.trans r),i.mono ρ _ _ (fun u w C B m=>?_) J⟩) E⟩) q⟩
   have A:=(K.gr r).gr m;have z:=(j.trans r).trans m
   split at w
   . obtain⟨a,N,rfl,M,y⟩:=J3 (zo A)
     exact⟨a,N,rfl,m.sub.seq M,fun p g=>w p _ C B z g (zgV y.or _ _)⟩
   . cases A with
     | ow h y n=>exact⟨_,_,rfl,SqL.of h,fun p g=>w p _ C B z g (zgV y.or _ _)⟩
   simp_all
noncomputable def lenD:D->Option Nat
 | .list ds=>some ds.length
 | .tuple ds=>some ds.length
 | .str z=>if z.length<=sizeLine then some z.length else none
 | _=>none
def len3:C3:=fun cs Q=>match cs with
 | [c]=>c.dat=true/\∃ n,lenD c.d=some n/\Q true (.int n)
 | _=>False
theorem zA:CallOk X (.builtin "len") len3:=by
 refine⟨fun cs Q Q' h q=>?_,fun H0=>zO.imp (zO.or ZT zkl) fun xs H Q=>el2 fun G cs s w q=>?_⟩
 . unfold len3 at *;split at q
   . obtain⟨a,n,e,q⟩:=q;exact⟨a,n,e,h _ _ q⟩
   . exact q
 . unfold len3 at q;split at q
   . obtain⟨v,rfl,w1⟩:=vws1 w
     obtain⟨ha,n,hn,q⟩:=q;have r:=w1.rd s ha;generalize e:Cl.d _=d at r hn;cases r with
     | lst hq rs=>cases hn;exact .inl ⟨_,_,rfl,.inl hq,by rw [rs.length];exact q _ G H (Gr.refl s) (.sc rfl (.int _))⟩
     | tup hq rs=>cases hn;exact .inl ⟨_,_,rfl,.inr hq,by rw [rs.length];exact q _ G H (Gr.refl s) (.sc rfl (.int _))⟩
     | str z=>
      have hn':(if z.length<=sizeLine then some _ else none)=some n:=hn
      split at hn'
      . rename_i hz;cases hn';exact .inr ⟨z,rfl,hz,q _ G H (Gr.refl s) (.sc rfl (.int _))⟩
      . cases hn'
     | _=>cases hn
   simp_all
def abs3:C3:=fun cs Q=>match cs with
 | [.sh _ (.int i)]=>Q true (.int (if i<0 then -i else i))
 | _=>False
theorem zc2:CallOk X (.builtin "abs") abs3:=by
 refine⟨fun b Q e h q=>?_,fun c=>zO.imp zlV fun g H Q=>el2 fun G b s w q=>?_⟩
 . unfold abs3 at *;split at q
   . exact h _ _ q
   . exact q
 . unfold abs3 at q;split at q
   . obtain⟨v,rfl,a⟩:=vws1 w
     cases zy (zo a).rd
     exact⟨_,rfl,q _ G H (Gr.refl s) (.sc rfl (.int _))⟩
   simp_all
def max23:C3:=fun cs Q=>match cs with
 | [.sh _ (.int i),.sh _ (.int j)]=>Q true (.int (if j > i then j else i))
 | _=>False
theorem zfx(b:X.calm=true):CallOk X (.builtin "max") max23:=by
 refine⟨fun a Q g h q=>?_,fun j=>zO.imp (zjD b) fun i H Q=>el2 fun G a s w q=>?_⟩
 . unfold max23 at *;split at q
   . exact h _ _ q
   . exact q
 . unfold max23 at q;split at q
   . obtain⟨v,u,rfl,e,c⟩:=vws2 w
     cases zy (zo e).rd;cases zy (zo c).rd
     exact⟨_,_,rfl,q _ G H (Gr.refl s) (.sc rfl (.int _))⟩
   simp_all
def min23:C3:=fun cs Q=>match cs with
 | [.sh _ (.int i),.sh _ (.int j)]=>Q true (.int (if j<i then j else i))
 | _=>False
theorem zeU(b:X.calm=true):CallOk X (.builtin "min") min23:=by
 refine⟨fun a Q g h q=>?_,fun j=>zO.imp (zjh b) fun i H Q=>el2 fun G a s w q=>?_⟩
 . unfold min23 at *;split at q
   . exact h _ _ q
   . exact q
 . unfold min23 at q;split at q
   . obtain⟨v,u,rfl,e,c⟩:=vws2 w
     cases zy (zo e).rd;cases zy (zo c).rd
     exact⟨_,_,rfl,q _ G H (Gr.refl s) (.sc rfl (.int _))⟩
   simp_all
end
end L3
variable{ds:List (List L2.Key×L3.D)}{v:Int}{xs:List (List L2.Key×PySem.Addr×PySem.Value)}{cs:List L3.Cl}{ms:List (List L3.D)}{o:Option L2.V}{g:L3.TG3}{m:List L3.D}{body:PySem.Expr}{sp:L3.Sp3}
namespace L2
open PySem PySem.Spec PyProof.Rows
noncomputable def Itz(K:Ybf)(a b:Addr):It:=
 ⟨fun i H=>∃ xs ys x y,SqL K H a xs/\SqL K H b ys/\xs[i]?=some x/\ys[i]?=some y,
  fun i H v H'=>∃ p x y,H p=none/\v=.ref p/\H'=upd H p (.tup [x,y])/\∀ xs ys,SqL K H a xs->SqL K H b ys->xs[i]?=some x/\ys[i]?=some y,
  fun i H=>∃ xs ys,SqL K H a xs/\SqL K H b ys/\i=min xs.length ys.length⟩
theorem zku{TI TO:Addr}(D:ZipApart z TI TO i1 i2 l1 l2) :
 Turn P w K (.Tuple elts k pos) (Itz K l1 l2) [z,TI,TO,i1,i2] z (fun i h=>IsZip h z TI TO .none/\IsPair h TI (.ref i1) (.ref i2)/\(∃ a b,IsPair h TO a b)/\h.IsListIter i1 l1 i/\h.IsListIter i2 l2 i) where
 mem:=by simp
 obj:=fun i h hyp c hc=>by
  obtain⟨hz,hTI,⟨a,b,hTO⟩,⟨o1,e1,c1,d1⟩,⟨o2,e2,c2,d2⟩⟩:=hyp;have hc':=by simpa using hc
  rcases hc' with rfl|rfl|rfl|rfl|rfl
  . exact⟨_,hz,fun v z=>by cases(show Data.fields _=Data.cell v from z)⟩
  . exact⟨_,hTI,fun v z=>by cases(show Data.seq _ _=Data.cell v from z)⟩
  . exact⟨_,hTO,fun v z=>by cases(show Data.seq _ _=Data.cell v from z)⟩
  . exact⟨o1,e1,fun v z=>by rw [d1] at z;cases z⟩
  . exact⟨o2,e2,fun v z=>by rw [d2] at z;cases z⟩
 keep:=fun i h h' zz0 kk=>by obtain⟨hz,hTI,⟨a,b,hTO⟩,h1,h2⟩:=zz0;exact⟨kk z (by simp) _ hz,kk TI (by simp) _ hTI,⟨a,b,kk TO (by simp) _ hTO⟩,h1.at fun o e=>kk i1 (by simp) o e,h2.at fun o e=>kk i2 (by simp) o e⟩
 item:=by
  intro X hP hw hK hc i pins s σ H E I hf st hg;subst hP hw hK;obtain⟨xs,ys,x,y,q1,q2,hx,hy⟩:=hg;obtain⟨its1,r1,p1,_⟩:=I.list q1;obtain⟨its2,r2,p2,_⟩:=I.list q2;obtain⟨u,hu,ru⟩:=r1.get hx;obtain⟨v,hv,rv⟩:=r2.get hy;have W:=WalksT.zip2 (prog:=X.prog) (w:=X.w) (I.ok.hd hc) z TI TO i1 i2 l1 l2 D its1.toArray its2.toArray;have hi:i<min its1.toArray.size its2.toArray.size:=by
   have a1:=(Ya8.mp hu).1;have a2:=(Ya8.mp hv).1;simp only [YaZ];omega
  obtain⟨hz,hTI,hTO,h1,h2⟩:=st;have olt:∀ b∈[z,TI,TO,i1,i2],b<s.heap.objs.size:=fun b hb=>by
   obtain⟨a,b',hTO'⟩:=hTO;have hc':=by simpa using hb
   rcases hc' with rfl|rfl|rfl|rfl|rfl
   . exact YaX hz
   . exact YaX hTI
   . exact YaX hTO'
   . obtain⟨_,e,_⟩:=h1;exact YaX e
   . obtain⟨_,e,_⟩:=h2;exact YaX e
  refine W.item i s _ _ hi ⟨hz,hTI,hTO,h1,h2,p1.isList,p2.isList⟩ fun T vals h1' tk hv' hT hTup mid kp=>?_
  obtain⟨u',v',hu',hv'',e⟩:=hv';subst e;have eu:u'=u:=by
   have:its1[i]?=some u':=by simpa using hu'
   rw [hu] at this;cases this;rfl
  have ev:v'=v:=by
   have:its2[i]?=some v':=by simpa using hv''
   rw [hv] at this;cases this;rfl
  subst eu ev;refine⟨_,rfl,W.go elts k pos i T _ _ _ mid fun h2' st2 kp2=>?_⟩
  have sub:∀ b∈[z,TO,i1,i2],b∈[z,TI,TO,i1,i2]:=fun b hb=>by
   have hc':b=z\/b=TO\/b=i1\/b=i2:=by simpa using hb
   rcases hc' with rfl|rfl|rfl|rfl<;>simp
  have I1:Inv X pins σ H { s with heap:=h2',toks:=tk }:=I.turnedL (ch:=[z,TO,i1,i2]) (fun b o hb e=>kp2 b o hb (kp b o hb e)) fun b hb=>hf b (sub b hb)
  have hTn:H T=none:=I.hok.fresh hT;obtain⟨o,ho,oc,on,od⟩:=hTup;have ho2:=kp2 T o (W.apart i T _ mid) ho;have I2:Inv X pins σ (upd H T (.tup [x,y])) { s with heap:=h2',toks:=tk }:=I1.track hTn (Ya5 I.sz hT) (Wbe (YaU I.lt hT)) (fun n c e z=>by
   obtain⟨vv,q⟩:=I.cell n c e;exact absurd (YaU q.lt (by rw [z];exact hT)) (Yap _)) (fun p hp z=>absurd (YaU (YaX (I.pin p hp).1) (by rw [z];exact hT)) (Yap _))
   ⟨by show 2<=sizeLine;decide,[u',v'],.cons ru (.cons rv .nil),o,ho2,oc,on,od⟩
  refine⟨.ref T,_,I2,rfl,⟨T,x,y,hTn,rfl,rfl,fun xs' ys' z1 z2=>?_⟩,⟨st2.1,st2.2.1,st2.2.2.1,st2.2.2.2.1,st2.2.2.2.2.1⟩,fun b hb=>?_⟩
  . rw [I.list_inj z1 q1,I.list_inj z2 q2];exact⟨hx,hy⟩
  . rw [zc (Yaf (YaU (olt b hb) hT))];exact(hf b hb).1
 done:=by
  intro X hP hw hK hc i pins s σ H E I hf st hg;subst hP hw hK;obtain⟨xs,ys,q1,q2,hi⟩:=hg;obtain⟨its1,r1,p1,_⟩:=I.list q1;obtain⟨its2,r2,p2,_⟩:=I.list q2;have W:=WalksT.zip2 (prog:=X.prog) (w:=X.w) (I.ok.hd hc) z TI TO i1 i2 l1 l2 D its1.toArray its2.toArray;obtain⟨hz,hTI,hTO,h1,h2⟩:=st;have ei:i=min its1.toArray.size its2.toArray.size:=by simp only [YaZ];rw [<-r1.length,<-r2.length];exact hi
  subst ei;refine W.done s _ _ ⟨hz,hTI,hTO,h1,h2,p1.isList,p2.isList⟩ fun h' tk kp=>⟨rfl,?_⟩
  exact I.turnedL (ch:=[z,TO,i1,i2]) kp fun b hb=>hf b (by
   have hc':b=z\/b=TO\/b=i1\/b=i2:=by simpa using hb
   rcases hc' with rfl|rfl|rfl|rfl<;>simp)
 self:=fun _ _ _ _ _ st h=>wpAny_pyIter_zip st.1 h
def iZip(K:Ybf)(ta:TA):TI:=fun σ H R=>ta σ H fun vs H1=>∃ a b,vs=[.ref a,.ref b]/\(∃ xs,SqL K H1 a xs)/\(∃ ys,SqL K H1 b ys)/\R (Itz K a b) H1
theorem zci{a b:Expr}{p:Pos}(hg:Gl X "zip")(hm:X.mg "zip" = none)(ha:PA X [a,b] ta)(hs:starEach [a,b] X.env=[(false,eval a X.env),(false,eval b X.env)]:=by rfl)
 (hs2:starEach [b] X.env=[(false,eval b X.env)]:=by rfl):PI X (.Tuple elts k tpos) (.Call (.Name "zip" p) [a,b] [] pos) (iZip X.K ta):=by
 intro pins s σ H R I h;refine Call_ (Jr I hg hm zk1 (Wab (thn (ha pos _ s σ H _ I h) fun us s1 ⟨vs,H1,I1,r1,q1⟩=>?_) (by rw [hs,hs2]) (by rw [hs2];rfl)))
 obtain⟨l1,l2,e,⟨xs,hx⟩,⟨ys,hy⟩,q⟩:=q1;subst e;obtain⟨u,v,rfl,ru,rv⟩:=zca r1;cases(ru);cases(rv);obtain⟨its1,_,p1,_⟩:=I1.list hx;obtain⟨its2,_,p2,_⟩:=I1.list hy;have lt1:l1<s1.heap.objs.size:=by obtain⟨o,e,_⟩:=p1.isList;exact YaX e
 have lt2:l2<s1.heap.objs.size:=by obtain⟨o,e,_⟩:=p2.isList;exact YaX e
 refine call_zip_2 p1.isList p2.isList fun h' hz hTI hTO hi1 hi2 hsz kp=>wpAny_pyIter_zip hz ?_
 have I2:=I1.kept (t':=s1.toks) kp;have D:=PySem.W.ktu_apart _ _ _ lt1 lt2;refine⟨_,_,_,_,H1,rfl,I2,zku D,⟨hz,hTI,⟨_,_,hTO⟩,hi1,hi2⟩,fun b hb=>?_,q⟩
 have hb':s1.heap.objs.size<=b:=by
  have hc':=by simpa using hb
  rcases hc' with rfl|rfl|rfl|rfl|rfl<;>first|exact YaY _|exact Nat.le_add_right _ _
 have f:=I1.fpOk hb' (I1.hok.fresh hb')
 grind
theorem zfb(h:IntsAre us ns):∃ xs:Array (Int×Tok),us.toArray=intItems xs/\xs.toList.map (·.1)=ns:=by
 obtain⟨xs,e⟩:=h.allInts.items;refine⟨xs,e,?_⟩;have a:=h.numsOf;have b:=by
  have:=congrArg Array.toList e
  simpa [intItems] using this
 rw [b,numsOf_map] at a;exact a
theorem zhp(l:X.calm=true):zO X (.builtin "sum") (fun xs H Q=>∃ (p:Addr) (ns:List Int),xs=[.ref p]/\SqL X.K H p (ns.map V.int)/\Q (.int ns.sum) H):=by
 intro b s σ H xs z Q I r h;obtain⟨p,ns,rfl,v,q⟩:=h;obtain⟨u,rfl,j⟩:=Jj r;cases(j);obtain⟨e,o,c,_⟩:=I.list v;obtain⟨y,m,i⟩:=zfb (zbs o);have a:=c.isList;rw [m] at a;refine sum_intListG (I.ok.hd l) a fun w A n g=>⟨.int _,H,I.kept g,⟨n,?_⟩,q⟩
 rw [preSum_eq,Wak (by simp),i]
noncomputable def maxL:List Int->Int
 | []=>0
 | x::xs=>xs.foldl (fun a b=>if b > a then b else a) x
theorem zlN{α β : Type}(f)(b:β)(l)(a:α):(l++[a]).foldl f b=f (l.foldl f b) a:=by simp_all
theorem zer(ns:List Int):∀ n,n<ns.length->ns.getD (argBest (fun i j=>decide (ns.getD i 0 > ns.getD j 0)) n) 0=maxL (ns.take (n+1))
 | 0, h => by
  cases ns with
  | nil=>simp at h
  | cons x xs=>simp [argBest,maxL]
 | n + 1, h => by
  have ih:=zer ns n #[0]
  have et:ns.take (n+1+1)=ns.take (n+1)++[ns.getD (n+1) 0]:=by
   simp_all
  rw [et];cases q:ns.take _ with
  | nil=>
   simp_all
  | cons x xs=>
   rw [q] at ih;have e1:maxL (x::xs++[ns.getD (n+1) 0])=if ns.getD (n+1) 0 > maxL (x::xs) then ns.getD (n+1) 0 else maxL (x::xs):=by
    show(xs++[ns.getD _ 0]).foldl _ x=_
    rw [zlN];rfl
   rw [e1,<-ih];show ns.getD (if decide _=true then n+1 else argBest _ n) 0=_
   by_cases hc:ns.getD (n+1) 0 > ns.getD (argBest (fun i j=>decide (ns.getD i 0 > ns.getD j 0)) n) 0
   . rw [if_pos (decide_eq_true hc),if_pos hc]
   . rw [if_neg (by simpa using hc),if_neg hc]
theorem zgO{xs:Array (Int×Tok)}{ns:List Int}(e:xs.toList.map (·.1)=ns):numAt xs=fun i=>ns.getD i 0:=by
 subst e;unfold numAt
 simp_all
theorem zif(hc:X.calm=true):zO X (.builtin "max") (fun xs H Q=>∃ (p:Addr) (ns:List Int),xs=[.ref p]/\ns≠[]/\SqL X.K H p (ns.map V.int)/\Q (.int (maxL ns)) H):=by
 intro pins s σ H xs us Q I r h;obtain⟨p,ns,rfl,hn,hq,q⟩:=h;obtain⟨u,rfl,ru⟩:=Jj r;cases(ru);obtain⟨its,rv,pl,_⟩:=I.list hq;obtain⟨ys,e1,e2⟩:=zfb (zbs rv);have hl:=pl.isList;rw [e1] at hl;have hs:ys.size=ns.length:=by rw [<-e2];simp
 have hp:=List.length_pos_iff.mpr hn;refine max_intList (I.ok.hd hc) hl #[0] fun v h' tk hv kp=>?_
 rw [zgO e2,hs] at hv;have hb:=zer ns (ns.length - 1) #[0]
 rw [show ns.length - 1+1=ns.length by omega,YaH] at hb
 generalize argBest _ _=k at hv hb;have hv':∃ a t,v=.int a t/\ns.getD k 0=a:=by
  unfold intItems at hv;rw [Array.getElem?_map] at hv;cases ek:ys[k]? with
  | none=>simp_all
  | some pr=>
   rw [ek] at hv;cases hv;refine⟨_,_,rfl,?_⟩;have:=congrFun (zgO e2) k;rw [<-this];unfold numAt;rw [ek];rfl
 obtain⟨a,t,rfl,ea⟩:=hv';exact⟨.int _,H,I.kept kp,⟨t,by rw [<-hb,ea]⟩,q⟩
noncomputable def isD:PyData->String->Option Bool
 | .int _,n=>if n = "int" then some true else if n = "bool" then some false else none
 | .tuple _,n=>if n = "tuple" then some true else none
 | .list _,n=>if n = "list" then some true else none
 | .str _,n=>if n = "str" then some true else none
 | .bool _,n=>if n = "bool" then some true else none
 | _,_=>none
noncomputable def tyD:PyData->String
 | .int _=>"int"
 | .tuple _=>"tuple"
 | .list _=>"list"
 | .str _=>"str"
 | .bool _=>"bool"
 | _=>"NoneType"
theorem zjE{n:String}{b:Bool}(h:isD d n=some b):isB (tyD d) n=some b:=by
 unfold isD at h
 split at h
 . split at h
   . rename_i e;subst e;cases h;rfl
   . split at h
     . rename_i e;subst e;cases h;rfl
     . cases h
 all_goals first
  | (split at h
     . rename_i e;subst e;cases h;rfl
     . cases h)
  | cases h
theorem zhl:zO X (.builtin "isinstance") (fun xs H Q=>∃ x n d b,xs=[x,.ty n]/\RdV X.K H x d/\isD d n=some b/\Q (.bl b) H):=by
 intro pins s σ H xs us Q I r h;obtain⟨x,n,d,b,rfl,rd,hb,q⟩:=h;obtain⟨u,c,rfl,rx,rc⟩:=zca r;cases(rc);have e:=zmG (K:=X.K) (zjE hb);have fin:∀ tk,EP X _ σ Q _ _:=fun tk=>⟨.bl b,H,I.tok tk,rfl,q⟩
 cases rd with
 | non=>cases hb
 | bl y=>cases(rx);exact WaW PySem.W.kitx_bool I.kIn True.intro e (fun z=>nomatch z) fin
 | int i=>obtain⟨t,q⟩:=(rx);cases q;exact WaW PySem.W.kitx_int I.kIn True.intro e (fun z=>nomatch z) fin
 | str y=>obtain⟨t,q⟩:=(rx);cases q;exact WaW PySem.W.kitx_str I.kIn True.intro e (fun z=>nomatch z) fin
 | lst hq rs=>
  cases rx;obtain⟨its,rv,⟨o,n,ho,hc,_,hd⟩,_⟩:=I.list hq
  exact WaW PySem.W.kitx_list I.kIn ⟨o,ho,hc⟩ e (fun z=>nomatch z) fin
 | tup hq rs=>
  cases rx;obtain⟨its,rv,⟨o,ho,hc,n,hd⟩,_⟩:=I.tuple hq
  exact WaW PySem.W.kitx_tuple I.kIn ⟨o,ho,hc⟩ e (fun z=>nomatch z) fin
end L2
namespace L3
open PySem PySem.Spec PyProof.Rows L2
variable[LamW]
section
variable{p:Pos}
noncomputable def Jf:List D->Option (List Int)
 | []=>some []
 | .int i::r=>(Jf r).map (i :: ·)
 | _::_=>none
theorem Jh(b):Jf (b.map .int)=some b:=by
 induction b with
 | nil=>rfl
 | cons a r c=>simp [Jf,c]
theorem zcq{ds:List D}(r:RdVs K G vs ds)(e:Jf ds=some ns):vs=ns.map V.int:=by
 induction vs generalizing ds ns with
 | nil=>cases r;cases e;rfl
 | cons v vs g=>
  cases r with
  | @cons _ _ d ds a b=>
   cases d with
   | int i=>
    have c:(Jf ds).map _=some ns:=e;cases q:Jf ds with
    | none=>simp_all
    | some h=>
     rw [q] at c;cases c;rw [Ya1,g b q,zy a]
   | _=>cases e
theorem JO{v:V}{c:Cl}{ds:List D}(w:Vw K H0 G H v c)(s:Sub G H)(b:c.dat=true)(h:c.d=.list ds):∃ a vs,v=.ref a/\SqL K H a vs/\Rfs K H0 G c.f vs ds:=by
 cases w with
 | sh r=>
  have j:=h;subst j;obtain⟨a,l,rfl,i,g⟩:=J3 r;exact⟨a,l,rfl,s.seq i,g⟩
 | ow e r n=>cases h;exact⟨_,_,rfl,SqL.of e,r⟩
 | tr e=>cases b
 | dt _ _ _=>cases b
 | dk _ _=>cases b
 | fd _ _ _=>cases b
 | tk _=>cases h
 | dm _ _=>cases b
 | ex e=>cases b
def sum3:C3:=fun cs Q=>match cs with
 | [c]=>c.dat=true/\∃ ds ns,c.d=.list ds/\Jf ds=some ns/\Q true (.int ns.sum)
 | _=>False
theorem J8(hc:X.calm=true):CallOk X (.builtin "sum") sum3:=by
 refine⟨fun cs Q Q' h q=>?_,fun H0=>zO.imp (zhp hc) fun xs H Q=>el2 fun G cs s w q=>?_⟩
 . unfold sum3 at *;split at q
   . obtain⟨a,ds,ns,h1,h2,q⟩:=q;exact⟨a,ds,ns,h1,h2,h _ _ q⟩
   . exact q
 . unfold sum3 at q;split at q
   . obtain⟨v,rfl,w1⟩:=vws1 w
     obtain⟨a,ds,ns,h1,h2,q⟩:=q;obtain⟨l,vs,rfl,hq,rs⟩:=JO w1 s a h1;cases zcq rs.rd h2;exact⟨l,ns,rfl,hq,q _ G H (Gr.refl s) (.sc rfl (.int _))⟩
   simp_all
def max3:C3:=fun cs Q=>match cs with
 | [c]=>c.dat=true/\∃ ds ns,c.d=.list ds/\Jf ds=some ns/\ns≠[]/\Q true (.int (maxL ns))
 | _=>False
theorem zin(hc:X.calm=true):CallOk X (.builtin "max") max3:=by
 refine⟨fun cs Q Q' h q=>?_,fun H0=>zO.imp (zif hc) fun xs H Q=>el2 fun G cs s w q=>?_⟩
 . unfold max3 at *;split at q
   . obtain⟨a,ds,ns,h1,h2,h3,q⟩:=q;exact⟨a,ds,ns,h1,h2,h3,h _ _ q⟩
   . exact q
 . unfold max3 at q;split at q
   . obtain⟨v,rfl,w1⟩:=vws1 w
     obtain⟨a,ds,ns,h1,h2,h3,q⟩:=q;obtain⟨l,vs,rfl,hq,rs⟩:=JO w1 s a h1;cases zcq rs.rd h2;exact⟨l,ns,rfl,h3,hq,q _ G H (Gr.refl s) (.sc rfl (.int _))⟩
   simp_all
def zaK(t:TA3):TN3:=fun ρ Q=>t ρ fun cs=>∃ c ds,cs=[c]/\c.dat=true/\(c.d=.list ds\/c.d=.tuple ds)/\Q (c.f||ds.all zx) ds
theorem J4{x:Str}{es:List Expr}{t:TA3}(hg:Gl X x)(hm:X.mg x=none)(hv:bootBuiltins x=some (.type "list"))(ha:PA3 X H0 (e::es) t)(hn:x≠"__name__":=by decide)(hdb:(x==("__debug__" : Str))=false:=by decide)
 (he:starEach (e::es) X.env=(false,eval e X.env)::starEach es X.env:=by rfl) (hpl:(backTo pos (starEach es X.env)).any (·.1)=false:=by rfl):PN3 X H0 (.Call (.Name x p) (e::es) [] pos) (zaK t):=
 ⟨fun ρ Q Q' h q=>ha.mono ρ _ _ (fun cs zz0=>by obtain⟨c,ds,a,b,d,q⟩:=zz0;exact⟨c,ds,a,b,d,h _ _ q⟩) q,PE.imp (zfL zhh hg hm hv ha.ok hn hdb he hpl) fun σ H Q=>el5 fun G0 ρ G F q=>⟨G0,ρ,G,F,ha.mono ρ _ _ (fun cs hyp vs G1 H1 g1 w=>by
  obtain⟨c,ds,a,b,d,k⟩:=hyp;subst a;obtain⟨v,rfl,w1⟩:=vws1 w
  rcases d with d|d
  . obtain⟨l,us,rfl,hq,rs⟩:=JO w1 g1.sub b d
    exact⟨l,us,rfl,.inl hq,fun l' hl=>k l' us G1 H1 g1 hl rs.or⟩
  . cases w1 with
    | sh r=>
     have d':=d;subst d';obtain⟨l,us,rfl,hq,rs⟩:=zbn r;exact⟨l,us,rfl,.inr (g1.sub.tup hq),fun l' hl=>k l' us G1 H1 g1 hl rs.or⟩
    | ow _ _ _=>cases d
    | tr _=>cases d
    | dt _ _ _=>cases d
    | dk _ _=>cases d
    | fd _ _ _=>cases d
    | tk h=>
     cases d;exact⟨_,_,rfl,.inr (g1.sub.tup (SqT.of h)),fun l' hl=>k l' _ G1 H1 g1 hl (⟨Z3 _,fun _=>zb2 _⟩:Rfs _ _ _ true _ _).or⟩
    | dm _ _=>cases b
    | ex _=>cases b) q⟩⟩
def catN(ta tb:TE3):TN3:=fun ρ Q=>ta ρ fun a=>tb ρ fun b=>∃ ds es,a.dat=true/\b.dat=true/\a.d=.list ds/\b.d=.list es/\ds.length+es.length<=sizeLine/\Q ((a.f||ds.all zx)&&(b.f||es.all zx)) (ds++es)
theorem ziS:OpR X (binaryOp .Add) (fun x y H Q=>∃ l b xs zs,x=.ref l/\y=.ref b/\SqL X.K H l xs/\SqL X.K H b zs/\xs.length+zs.length<=sizeLine/\∀ p,H p=none->Q (.ref p) (upd H p (.lst (xs++zs)))):=by
 intro pins s σ H x y v u Q I rx ry h;obtain⟨l,b,xs,zs,rfl,rfl,hl,hb,hz,k⟩:=h;cases rx;cases ry;obtain⟨its,rv,pl,_⟩:=I.list hl;obtain⟨its',rv',pl',_⟩:=I.list hb;obtain⟨⟨cls,dd,data,sl⟩,ho,hc,n,hd⟩:=pl.isList;obtain⟨⟨cls2,dd2,data2,sl2⟩,ho2,hc2,n2,hd2⟩:=pl'.isList
 simp at hc hd hc2 hd2
 subst hc hd hc2 hd2;have e:its.toArray++its'.toArray=(its++its').toArray:=by simp
 refine concat_meets ⟨_,ho,rfl⟩ ⟨_,ho2,rfl⟩ noFill_list_add seq_list_add PySem.F.slot_list_add PySem.F.entry_list_add (PySem.F.args_list_add_2 _ _) (list_addW l b _ _ n n2 dd dd2 sl sl2 (by rw [YaZ,YaZ,<-rv.length,<-rv'.length];exact hz)) ⟨ho,ho2,?_⟩
 rw [e];exact⟨.ref _,_,I.lnew (rv.append rv') (by simp_all),rfl,k _ I.fresh⟩
theorem cat3{a b:Expr}{ta tb:TE3}(ha:PE3 X H0 a ta)(hb:PE3 X H0 b tb):PN3 X H0 (.BinOp a .Add b pos) (catN ta tb):=
 ⟨fun ρ Q Q' h q=>ha.mono ρ _ _ (fun a=>hb.mono ρ _ _ fun b zz0=>by obtain⟨ds,es,h1,h2,h3,h4,h5,q⟩:=zz0;exact⟨ds,es,h1,h2,h3,h4,h5,h _ _ q⟩) q,PE.imp (Jy ziS ha.ok hb.ok) fun σ H Q=>el5 fun G0 ρ G F q=>⟨G0,ρ,G,F,ha.mono ρ _ _ (fun a qa v1 G1 H1 g1 w1=>⟨G0,ρ,G1,F.gr g1,hb.mono ρ _ _ (fun b hyp v2 G2 H2 g2 w2=>by
  obtain⟨ds,es,h1,h2,h3,h4,h5,k⟩:=hyp;obtain⟨l,us,rfl,hq,rs⟩:=JO (w1.gr g2) g2.sub h1 h3;obtain⟨m,us',rfl,hq',rs'⟩:=JO w2 g2.sub h2 h4;exact⟨l,m,us,us',rfl,rfl,hq,hq',by rw [rs.length,rs'.length];exact h5,fun p hp=>k p _ G2 H2 (g1.trans g2) hp (rs.or.append rs'.or)⟩) qa⟩) q⟩⟩
def ZW(n:String)(te:TE3):TE3:=fun ρ Q=>te ρ fun c=>∃ b,c.dat=true/\L2.isD c.d n=some b/\Q (.sh true (.bool b))
theorem zcJ{nf:Str}{n:String}{x:Str}{p2:Pos}{te:TE3}(hg:Gl X nf)(hm:X.mg nf=none)(hnf:nf = "isinstance")(hg2:Gl X x)(hm2:X.mg x=none)(hv:bootBuiltins x=some (.type n))(he:PE3 X H0 e te)(hn:x≠"__name__":=by decide)
 (h1:starEach [e,.Name x p2] X.env=(false,eval e X.env)::starEach [.Name x p2] X.env:=by rfl) (h2:starEach [.Name x p2] X.env=(false,eval (.Name x p2) X.env)::starEach [] X.env:=by rfl)
 (hpl:(backTo pos (starEach [.Name x p2] X.env)).any (·.1)=false:=by rfl) (hdx:(x==("__debug__" : Str))=false:=by decide):PE3 X H0 (.Call (.Name nf p) [e,.Name x p2] [] pos) (ZW n te):=by
 subst hnf;exact⟨fun ρ Q Q' h q=>he.mono ρ _ _ (fun c zz0=>by obtain⟨b,a,d,q⟩:=zz0;exact⟨b,a,d,h _ q⟩) q,PE.imp (JR zhl hg hm zkj (zn he.ok (zn (zis (v:=.ty n) hg2 hm2 hv rfl hn hdx) zK h2) h1) #[1] #[1] h1 hpl) fun σ H Q=>el5 fun G0 ρ G F q=>⟨G0,ρ,G,F,he.mono ρ _ _ (fun c zz0 v G1 H1 g1 w=>by obtain⟨b,hd,hb,k⟩:=zz0;exact⟨v,n,c.d,b,rfl,w.rd g1.sub hd,hb,k _ G1 H1 g1 (.sh (.sc rfl (.bl b)))⟩) q⟩⟩
noncomputable def zipD:List D->List D->List D
 | a::as,b::bs=>.tuple [a,b]::zipD as bs
 | _,_=>[]
theorem zeb:∀ as bs,(zipD as bs).length=min as.length bs.length
 | [],_=>by simp [zipD]
 | _::_,[]=>by simp [zipD]
 | a::as,b::bs=>by simp [zipD,zeb as bs]
theorem zeq:∀ {as bs:List D} {i:Nat} {d:D},(zipD as bs)[i]?=some d->∃ a b,d=.tuple [a,b]/\as[i]?=some a/\bs[i]?=some b
 | [],_,i,d,h=>by simp [zipD] at h
 | _::_,[],i,d,h=>by simp [zipD] at h
 | a::as,b::bs,0,d,h=>by cases h;exact⟨a,b,rfl,rfl,rfl⟩
 | a :: as, b :: bs, i + 1, d, h => by
  obtain⟨x,y,e,c,g⟩:=zeq (i:=i) (h);exact⟨x,y,e,c,g⟩
def itZ(t:TA3):TI3:=fun ρ Q=>t ρ fun cs=>∃ f g as bs,cs=[.sh f (.list as),.sh g (.list bs)]/\Q (f&&g) (zipD as bs)
theorem zlk{K:Ybf}{H0 G:Hp}{a b:Addr}{xs ys:List V}{f g:Bool}{as bs:List D}(r:SqL K G a xs)(w:Rfs K H0 G f xs as)(n:SqL K G b ys)(C:Rfs K H0 G g ys bs):ItOk K H0 (Itz K a b) (f&&g) (zipD as bs) G where
 go:=fun i d O H P c e=>by
  obtain⟨p,q,rfl,J,N⟩:=zeq P;obtain⟨x,u,E⟩:=w.get J;obtain⟨y,F,A⟩:=C.get N;have h:=c.trans e.s;refine⟨⟨xs,ys,x,y,h.seq r,h.seq n,u,F⟩,fun v Q ⟨l,R,S,j,M,I,L⟩=>?_⟩
  subst M I;obtain⟨B,s⟩:=L xs ys (h.seq r) (h.seq n);rw [u] at B;rw [F] at s;cases B;cases s;have m:=zG (e.free j) (.tup [x,y]);exact⟨_,Gr.put e j,⟨.tup (SqT.of zf) (.cons (Zh (c.trans m) E.rd) (.cons (Zh (c.trans m) A.rd) .nil)),fun o=>by
   rw [Yak] at o;exact .tup zf (.cons (jY (c.trans m) (fun _ _ _ z=>z) (E.nw o.1)) (.cons (jY (c.trans m) (fun _ _ _ z=>z) (A.nw o.2)) .nil))⟩⟩
 stop:=fun i O H j c e=>⟨xs,ys,(c.trans e.s).seq r,(c.trans e.s).seq n,by rw [j,zeb,w.length,C.length]⟩
theorem zl0{elts:List Expr}{k:Nat}{tpos:Pos}{a b:Expr}{t:TA3}(hg:Gl X "zip")(hm:X.mg "zip" = none)(ha:PA3 X H0 [a,b] t)(hs:starEach [a,b] X.env=[(false,eval a X.env),(false,eval b X.env)]:=by rfl)
 (hs2:starEach [b] X.env=[(false,eval b X.env)]:=by rfl):PI3 X H0 (.Tuple elts k tpos) (.Call (.Name "zip" p) [a,b] [] pos) (itZ t):=
 ⟨fun ρ Q Q' h q=>ha.mono ρ _ _ (fun cs zz0=>by obtain⟨f,g,as,bs,e,q⟩:=zz0;exact⟨f,g,as,bs,e,h _ _ q⟩) q,PI.imp (zci hg hm ha.ok hs hs2) fun σ H R=>el5 fun G0 ρ G F q=>⟨G0,ρ,G,F,ha.mono ρ _ _ (fun cs hyp vs G' H' g w=>by
  obtain⟨fl,fm,as,bs,e,k⟩:=hyp;subst e;obtain⟨v,u,rfl,w1,w2⟩:=vws2 w;obtain⟨x,xs,rfl,hx,rx⟩:=J3 (zo w1);obtain⟨y,ys,rfl,hy,ry⟩:=J3 (zo w2);exact⟨x,y,rfl,⟨xs,g.sub.seq hx⟩,⟨ys,g.sub.seq hy⟩,k _ G' H' g (zlk hx rx hy ry)⟩) q⟩⟩
end
variable[LamW]
section
variable{ρ: Env3}
end
section
variable{p:Pos}{x:Str}
end
variable[LamW]
theorem jI:Passes (CXR P w) X (fun _ _ _=>False):=fun _ _ _ _ _ _ _ zz0=>by obtain⟨_,_,_,_,_,h⟩:=zz0;exact h.elim
section
variable{x:Str}
theorem g3i{i:Int}(b:Gl X x)(a:∃ t,X.mg x=some (.int i t))(c:(x==("__debug__" : Str))=false:=by decide):PE3 X H0 (.Name x pos) (k3 (.int i)):=by
 obtain⟨t,a⟩:=a;exact g3 (v:=.int i) b a ⟨t,rfl⟩ (fun _=>.int i) rfl c
theorem g3s{i:Str}(b:Gl X x)(a:∃ t,X.mg x=some (.str i t))(c:(x==("__debug__" : Str))=false:=by decide):PE3 X H0 (.Name x pos) (k3 (.str i)):=by
 obtain⟨t,a⟩:=a;exact g3 (v:=.str i) b a ⟨t,rfl⟩ (fun _=>.str i) rfl c
end
theorem sz(h:n<=1000000):n<=sizeLine:=Ya5 h #[1]
theorem sz0:(0<=sizeLine)=True:=eq_true #[1]
theorem sz1:(1<=sizeLine)=True:=eq_true #[1]
theorem sz2:(2<=sizeLine)=True:=eq_true #[1]
theorem sz3:(3<=sizeLine)=True:=eq_true #[1]
theorem sz4:(4<=sizeLine)=True:=eq_true #[1]
theorem zcX{K:Ybf}{H:Hp}:∀ ns:List Int,RdVs K H (ns.map V.int) (ns.map PyData.int)
 | []=>.nil
 | a::r=>.cons (.int a) (zcX r)
theorem Zs{g:TG3}{tb:TS3}{A:Ends3}{f:Bool}(P:List D->Env3->Prop)(s:∀ d ds ρ,P (d::ds) ρ->∀ W:Env3->Prop,(∀ ρ',P ds ρ'->W ρ')->g f d ρ fun ρ'=>tb { A with nx:=W,ct:=W,bk:=A.nx } ρ')(e:∀ ρ,P [] ρ->A.nx ρ):∀ ds ρ,P ds ρ->forL g tb A f ds ρ
 | [],ρ,h=>e ρ h
 | d::ds,ρ,h=>s d ds ρ h _ fun ρ' p=>Zs P s e ds ρ' p
theorem zk{a b:TS3}{A:Ends3}(h:∀ N:Env3->Prop,(∀ ρ',b A ρ'->N ρ')->a { A with nx:=N } ρ):seq3 a b A ρ:=h (b A) fun _ z=>z
theorem z6{a b:TS3}{A:Ends3}(M:Env3->Prop)(c:∀ N:Env3->Prop,(∀ ρ',M ρ'->N ρ')->a { A with nx:=N } ρ)(e:∀ ρ',M ρ'->b A ρ'):seq3 a b A ρ:=c (b A) e
theorem zbF{c:TT3}{t u:TS3}{A:Ends3}(h:∀ Y N:Prop,(t A ρ->Y)->(u A ρ->N)->c ρ fun k=>if k=true then Y else N):ifS3 c t u A ρ:=h _ _ id id
theorem Zf{c:TT3}{tb:TS3}{A:Ends3}(P:Nat->Env3->Prop)(h:∀ n ρ,P n ρ->∀ W:Env3->Prop,(∀ m ρ',m<n->P m ρ'->W ρ')->c ρ fun k=>if k=true then tb { A with nx:=W,ct:=W,bk:=A.nx } ρ else A.nx ρ):∀ n ρ,P n ρ->whN c tb A (n+1) ρ
 | n, ρ, p => by
  have key:∀ k m ρ,m<=k->P m ρ->whN c tb A (k+1) ρ:=by
   intro k
   induction k with
   | zero=>intro m ρ hm p;exact h m ρ p _ (fun m' ρ' hlt _=>absurd hlt #[0])
   | succ k ih=>intro m ρ hm p;exact h m ρ p _ (fun m' ρ' hlt p'=>ih m' ρ' #[0] p')
  exact key n n ρ (YaY _) p
variable[LamW]
theorem jv{α : Type}{g:TG3}{tt:TT3}{te:TE3}{f:Bool}(enc out:α->D)(R:Env3->Prop):∀ (xs:List α),(∀ x∈xs,∀ ρ fa acc (K:Bool->List D->Env3->Prop),R ρ->(∀ ρ',R ρ'->K fa (acc++[out x]) ρ')->
 g f (enc x) ρ fun ρ'=>tt ρ' fun k=>if k=true then te ρ' fun c=>asS c fun fy y=>K (fa&&fy) (acc++[y]) ρ' else K fa acc ρ')->∀ fa acc ρ (Q:Bool->List D->Prop),R ρ->Q fa (acc++xs.map out)->j7 g tt te f (xs.map enc) fa acc ρ Q
 | [],_,fa,acc,ρ,Q,_,q=>by show Q fa acc;simpa using q
 | x::xs,s,fa,acc,ρ,Q,hR,q=>s x YaV ρ fa acc (fun fa acc ρ'=>j7 g tt te f _ fa acc ρ' Q) hR fun ρ' hR'=>
  jv enc out R xs (fun y hy=>s y (YaT _ hy)) fa _ ρ' Q hR' (by rw [Yag];exact q)
theorem zdB{α : Type}{g:TG3}{tt:TT3}{te:TE3}{f:Bool}(enc out:α->D)(keep:α->Bool)(R:Env3->Prop):∀ (xs:List α),(∀ x∈xs,∀ ρ fa acc (K:Bool->List D->Env3->Prop),R ρ->(∀ ρ',R ρ'->K fa (if keep x=true then acc++[out x] else acc) ρ')->
 g f (enc x) ρ fun ρ'=>tt ρ' fun k=>if k=true then te ρ' fun c=>asS c fun fy y=>K (fa&&fy) (acc++[y]) ρ' else K fa acc ρ')->∀ fa acc ρ (Q:Bool->List D->Prop),R ρ->Q fa (acc++(xs.filter keep).map out)->j7 g tt te f (xs.map enc) fa acc ρ Q
 | [],_,fa,acc,ρ,Q,_,q=>by show Q fa acc;simpa using q
 | x::xs,s,fa,acc,ρ,Q,hR,q=>s x YaV ρ fa acc (fun fa acc ρ'=>j7 g tt te f _ fa acc ρ' Q) hR fun ρ' hR'=>
  zdB enc out keep R xs (fun y hy=>s y (YaT _ hy)) fa _ ρ' Q hR' (by
   cases hk:keep x with
   | true=>simp_all
   | false=>simp_all)
theorem zd4{α β : Type}(a:α->D)(b:β->D):∀ (xs:List α) (ys:List β),zipD (xs.map a) (ys.map b)=(xs.zip ys).map fun p=>.tuple [a p.1,b p.2]
 | [],_=>by simp [zipD]
 | _::_,[]=>by simp [zipD]
 | x::xs,y::ys=>by simp [zipD,zd4 a b xs ys]
theorem Zr(e:α->β)(xs)(i):atI (xs.map e) i=(atI xs i).map e:=by
 unfold atI;rw [YaR];cases ixN _ i with
 | none=>rfl
 | some j=>simp
end L3
namespace L3
theorem zic(lo)(n):nums lo (n+1)=.int lo::nums (lo+1) n:=by
 unfold nums;rw [List.range_succ_eq_map,Ya1,YaD]
 congr 1
 . simp
 . apply Yat
   intro i _;simp only [Function.comp]
   congr 1
   omega
theorem je{tb:TS3}{A:Ends3}(P:Nat->Env3->Prop)(s:∀ k ρ,k<n->P k ρ->∀ W:Env3->Prop,(∀ ρ',P (k+1) ρ'->W ρ')->g f (.int (lo+k)) ρ fun ρ'=>tb { A with nx:=W,ct:=W,bk:=A.nx } ρ')(e:∀ ρ,P n ρ->A.nx ρ)(h:P 0 ρ):forL g tb A f (nums lo n) ρ:=by
 have key:∀ m k ρ,k+m=n->P k ρ->forL g tb A f (nums (lo+k) m) ρ:=by
  intro m
  induction m with
  | zero => intro k ρ hk p; have : k = n := by lia
            subst this;exact e ρ p
  | succ m ih=>
   intro k ρ hk p;rw [zic];refine s k ρ #[94] p _ fun ρ' p'=>?_
   have:=ih (k+1) ρ' #[94] p'
   rw [show lo+((k+1:Nat):Int)=lo+k+1 by lia] at this
   exact this
 have:=key n 0 ρ #[94] h
 simpa using this
theorem jp{α : Type}{tb:TS3}{A:Ends3}(enc:α->D)(l)(P:List α->Env3->Prop)(s:∀ done x rest ρ,l=done++x::rest->P done ρ->∀ W:Env3->Prop,(∀ ρ',P (done++[x]) ρ'->W ρ')->g f (enc x) ρ fun ρ'=>tb { A with nx:=W,ct:=W,bk:=A.nx } ρ')(e:∀ ρ,P l ρ->A.nx ρ)(h:P [] ρ):forL g tb A f (l.map enc) ρ:=by
 have key:∀ rest done ρ,l=done++rest->P done ρ->forL g tb A f (rest.map enc) ρ:=by
  intro rest
  induction rest with
  | nil=>intro done ρ hl p;rw [Yao] at hl;subst hl;exact e ρ p
  | cons x rest ih=>
   intro done ρ hl p;exact s done x rest ρ hl p _ fun ρ' p'=>ih _ ρ' (by simp_all) p'
 exact key l [] ρ rfl h
end L3
namespace L3
open PySem L2
mutual
theorem zfP:∀ {d:D},PyData.canLay0 d=true->PyData.eqv d d=true
 | .none,_=>by simp [PyData.eqv]
 | .bool b,_=>by simp [PyData.eqv]
 | .int i,_=>by simp [PyData.eqv]
 | .str x,_=>by simp [PyData.eqv]
 | .list xs, h => by
  have h':PyData.canLayAll0 xs=true:=by simpa [PyData.canLay0] using h
  simpa [PyData.eqv] using eqvAll_refl h'
 | .tuple xs, h => by
  have h':PyData.canLayAll0 xs=true:=by simpa [PyData.canLay0] using h
  simpa [PyData.eqv] using eqvAll_refl h'
 | .dict _,h=>by simp [PyData.canLay0] at h
theorem eqvAll_refl:∀ {ds:List D},PyData.canLayAll0 ds=true->PyData.eqvAll ds ds=true
 | [],_=>by simp [PyData.eqvAll]
 | d :: ds, h => by
  have h':PyData.canLay0 d=true/\PyData.canLayAll0 ds=true:=by simpa [PyData.canLayAll0] using h
  simp [PyData.eqvAll,zfP h'.1,eqvAll_refl h'.2]
end
def Plain(n:Nat)(d:D):Prop:=PyData.canLay0 d=true/\PyData.depth d<=n
theorem Plain.shaped{n:Nat}{d:D}(h:Plain n d)(hn:n<=64):SeqAt.shaped d=true:=by
 unfold SeqAt.shaped;rw [h.1];exact decide_eq_true (Ya5 h.2 hn)
theorem Plain.int(i):Plain 0 (.int i):=⟨by simp [PyData.canLay0],by simp [PyData.depth]⟩
theorem zch{n:Nat}:∀ {ds:List D},(∀ d∈ds,Plain n d)->PyData.canLayAll0 ds=true/\PyData.depthAll ds<=n
 | [],_=>by simp [PyData.canLayAll0,PyData.depthAll]
 | d :: ds, h => by
  obtain⟨b,e⟩:=h d YaV;obtain⟨c,g⟩:=zch fun x a=>h x (YaT _ a)
  simp [PyData.canLayAll0,PyData.depthAll,b,c]
  omega
theorem Plain.list{ds:List D}(h:∀ d∈ds,Plain n d):Plain (n+1) (.list ds):=by
 obtain⟨a,b⟩:=zch h;exact⟨by simp [PyData.canLay0,a],by simp [PyData.depth,b]⟩
theorem zaZ{xs:List α}{i:Int}(b:0<=i)(h:i<xs.length):∃ x,atI xs i=some x/\x∈xs/\xs[i.toNat]?=some x:=by
 have a:i.toNat<xs.length:=#[0]
 refine⟨_,?_,Ya4 a,YaQ a⟩
 have:=jb (YaQ a)
 grind
theorem j9{i:Int}(a:0<=i)(h:i<n):ixN n i=some i.toNat:=by
 unfold ixN;rw [if_pos a,if_pos h]
end L3
namespace L2
open PySem PySem.Spec PyProof.Rows
end L2
namespace L3
open PySem PySem.Spec PyProof.Rows L2
variable[LamW]
section
variable{p:Pos}
end
variable[LamW]
section
variable{ρ: Env3}
end
section
variable{p:Pos}{x:Str}
end
end L3
namespace L2
open PySem PySem.Spec PyProof.Rows
def zlh(K:Ybf):V->V->Hp->VK->Prop:=fun x y H Q=>∃ p xs i v,x=.ref p/\y=.int i/\0<=i/\SqL K H p xs/\atI xs i=some v/\Q v H
theorem zdT:PGet X (zlh X.K):=by
 intro e s σ H x y v u Q I C m h;obtain⟨p,J,i,z,rfl,rfl,c,A,l,q⟩:=h;cases C;obtain⟨t,rfl⟩:=m;obtain⟨B,r,g,K⟩:=I.list A;obtain⟨j,b,o,F,G,n⟩:=zbq l;obtain⟨w,M,a⟩:=r.get o;have E:=Jq;have L:=by
  rw [seqIndex_of c n] at b;exact WaU b
 exact wpAny_getItem_list g.isList c #[0] (by simp_all) ⟨z,H,I,a,q⟩
def zlq(K:Ybf):V->List V->Hp->VK->Prop:=fun x vs H Q=>∃ (p:Addr) (ns:List Int) (n:Int),x=.ref p/\vs=[.int n]/\SqL K H p (ns.map V.int)/\n∈ns/\Q (.int (ns.idxOf n:Nat)) H
theorem zmE:MtM X "list.index" (zlq X.K):=by
 intro pins s σ H x vs v us Q I rx rv h;obtain⟨p,ns,n,rfl,rfl,hq,hk,q⟩:=h;cases rx;obtain⟨u,rfl,t,rfl⟩:=rv.one;obtain⟨its,r,pl,hz⟩:=I.list hq;have hi:=zbs r;obtain⟨⟨cls,dd,data,sl⟩,ho,hc,n',hd⟩:=pl.isList
 simp at hc hd
 subst hc hd;have hlen:=hi.length;have hj:=List.idxOf_lt_length_iff.mpr hk;have hn:=Jq;rw [YaR] at hz;refine call_meets PySem.F.slot_list_index ⟨_,ho,rfl⟩ PySem.F.entry_list_index (PySem.F.args_list_index_2 _ _)
  (SeqAt.list_indexAt p _ n' dd sl _ _ _ (by simp_all) #[94] ?_ ?_) ⟨ho,fun y hy=>(eq_isInt n t hi y (by simpa using hy)).at _ _,⟨.int _,H,I.tok _,⟨_,rfl⟩,q⟩⟩
 . show isInt n its[ns.idxOf n]=true
   rw [isInt_at n hi _ _ hj]
   simp_all
 . intro j hjs hlt
   show isInt n its[j]=false
   rw [isInt_at n hi j _ #[94]]
   exact ne_of_lt_idxOf hlt _
end L2
namespace L3
open PySem PySem.Spec PyProof.Rows L2
variable[LamW]
def aug3(i:Nat)(te:TE3):TS3:=fun A ρ=>∃ f n,ρ[i]?=some (some (.sh f (.int n)))/\te ρ fun c=>∃ g m,c=.sh g (.int m)/\A.nx (ρ.set i (some (.sh true (.int (n+m)))))
theorem zfw{i:Nat}{x:Str}{te:TE3}{pos':Pos}(C:X.N.Nodup)(o:X.N[i]?=some x)(p:Loc X.env.scope x)(b:PE3 X H0 e te)
 (j:X.fn x=true\/X.env.scope.names.lookup x=some .local:=by first|exact .inl rfl|exact .inr rfl|assumption):PS3 X H0 (.AugAssign (.Name x pos') .Add e pos) (aug3 i te):=
 PS.imp (zj7 C o p b.ok zcr j) fun B σ H a=>by
  obtain⟨l,A,ρ,G,F,⟨f,n,h,q⟩,L⟩:=a;obtain⟨v,s,z⟩:=F.slot i _ h;have r:=zy (zo z).rd;subst r;refine⟨_,s,l,ρ,G,F,b.mono ρ _ _ (fun c ⟨g,m,u,q⟩ v I E y w=>?_) q⟩
  subst u;have r:=zy (zo w).rd;subst r;exact⟨n,m,rfl,rfl,L.nx _ _ _ _ ((F.gr y).set (.sc rfl (.int _))) q⟩
def par3(i j:Nat)(t:TA3):TS3:=fun A ρ=>t ρ fun cs=>∃ f a g b,cs=[.sh f a,.sh g b]/\A.nx ((ρ.set i (some (.sh f a))).set j (some (.sh g b)))
theorem zl3{i j:Nat}{x y:Str}{a b:Expr}{ta:TA3}{px py pt:Pos}{kt k2 pt2}(C:X.calm=true)(K:X.N.Nodup)(m:X.N[i]?=some x)(J:X.N[j]?=some y)(h:i≠j)
 (n:X.env.scope.names.lookup x=some .local) (I:X.env.scope.names.lookup y=some .local) (l:PA3 X H0 [a,b] ta)
 (E:swappedStores [.Tuple [.Name x px,.Name y py] kt pt] (.Tuple [a,b] k2 pt2) X.env=pure (some [x,y]):=by rfl)
 (s:swapsWithSole [.Tuple [.Name x px,.Name y py] kt pt] (.Tuple [a,b] k2 pt2) pos.line X.env=pure false:=by rfl) :
 PS3 X H0 (.Assign [.Tuple [.Name x px,.Name y py] kt pt] (.Tuple [a,b] k2 pt2) pos) (par3 i j ta):=
 PS.imp (zmx C K m J h n I l.ok E s) fun B σ H=>el7 fun z A ρ G F q L=>⟨z,ρ,G,F,l.mono ρ _ _ (fun O e N P M r w=>by
  obtain⟨f,a,g,b,c,q⟩:=e;subst c;obtain⟨v,u,rfl,p,o⟩:=vws2 w;exact⟨v,u,rfl,L.nx _ _ _ _ (((F.gr r).set (zo p)).set (zo o)) q⟩) q⟩
def idx3(to te:TE3):TE3:=fun ρ Q=>to ρ fun c=>∃ ds ns,c.dat=true/\c.d=.list ds/\Jf ds=some ns/\te ρ fun c2=>∃ g n,c2=.sh g (.int n)/\n∈ns/\Q (.sh true (.int (ns.idxOf n:Nat)))
theorem zkw{o:Expr}{apos:Pos}{to te:TE3}(ho:PE3 X H0 o to)(he:PE3 X H0 e te)(hb:attributeBase o "index" X.env (eval o X.env)=eval o X.env:=by rfl)
 (hf:((backTo pos (starEach [e] X.env)).all (fun x=>!x.1)&&(backToKw pos (keywordEach [] X.env)).all (fun x=>x.1.isSome)&&decide ([e].length+([]:List Keyword).length+(if([]:List Keyword).isEmpty then 0 else 1)<30))=true:=by rfl)
 (hl:(apos.endLine==pos.line)=true:=by rfl) (hs:starEach [e] X.env=(false,eval e X.env)::starEach [] X.env:=by rfl) (hp:(backTo pos (starEach [] X.env)).any (·.1)=false:=by rfl) :
 PE3 X H0 (.Call (.Attribute o "index" apos) [e] [] pos) (idx3 to te):=by
 refine⟨fun ρ Q Q' h q=>ho.mono ρ _ _ (fun c zz0=>by obtain⟨ds,ns,a,b,d,q⟩:=zz0;exact⟨ds,ns,a,b,d,he.mono ρ _ _ (fun c2 zz0=>by obtain⟨g,n,x,y,q⟩:=zz0;exact⟨g,n,x,y,h _ q⟩) q⟩) q,PE.imp (zdQ Wai PySem.F.slot_list_index PySem.F.type_list_index zmE ho.ok (zn he.ok zK hs) hb hf hl hs hp) fun σ H Q=>el5 fun G0 ρ G F q=>⟨G0,ρ,G,F,ho.mono ρ _ _ (fun c hc0 v G1 H1 g1 w=>?_) q⟩⟩
 obtain⟨ds,ns,hd,hc,hu,q⟩:=hc0;obtain⟨a,vs,rfl,hq,rs⟩:=JO w g1.sub hd hc;refine⟨.inl ⟨rfl,_,hq⟩,G0,ρ,G1,F.gr g1,he.mono ρ _ _ (fun c2 hc1 v2 G2 H2 g2 w2=>?_) q⟩
 obtain⟨g,n,rfl,hn,q⟩:=hc1;have r:=zy (zo w2).rd;subst r;have hvs:=zcq rs.rd hu;subst hvs;exact⟨a,ns,n,rfl,rfl,g2.h.seq hq,hn,q _ G2 H2 (g1.trans g2) (.sh (.sc rfl (.int _)))⟩
def ext3(i:Nat)(te:TE3):TS3:=fun A ρ=>∃ f ds,ρ[i]?=some (some (.ow f ds))/\te ρ fun c=>∃ es,c=.sh true (.list es)/\ds.length+es.length<=sizeLine/\A.nx (ρ.set i (some (.ow f (ds++es))))
theorem zkM{i:Nat}{te:TE3}{x:Str}{np apos cpos:Pos}(U:X.N[i]?=some x)(z:Vis X.env.scope x)(o:PE3 X H0 e te)(S:(x==("__debug__" : Str))=false:=by decide)(a:(x==("__classdict__" : Str))=false:=by decide)
 (I:attributeBase (.Name x np) "extend" X.env (eval (.Name x np) X.env)=eval (.Name x np) X.env:=by rfl)
 (h:((backTo cpos (starEach [e] X.env)).all (fun x=>!x.1)&&(backToKw cpos (keywordEach [] X.env)).all (fun x=>x.1.isSome)&&decide ([e].length+([]:List Keyword).length+(if([]:List Keyword).isEmpty then 0 else 1)<30))=true:=by rfl)
 (N:(apos.endLine==cpos.line)=true:=by rfl) (u:starEach [e] X.env=(false,eval e X.env)::starEach [] X.env:=by rfl) (C:(backTo cpos (starEach [] X.env)).any (·.1)=false:=by rfl)
 (P:swapsWith (.Call (.Attribute (.Name x np) "extend" apos) [e] [] cpos) none pos.line X.env=pure false:=by rfl):PS3 X H0 (.Expr (.Call (.Attribute (.Name x np) "extend" apos) [e] [] cpos) pos) (ext3 i te):=by
 refine PS.imp (jR (zdQ Wai PySem.F.slot_list_extend PySem.F.type_list_extend zh7 (jx U z S a) (zn o.ok zK u) I h N u C) P) fun B σ H j=>?_
 obtain⟨K,A,ρ,G,F,⟨f,ds,p,q⟩,L⟩:=j;obtain⟨l,E,y,s,r⟩:=zdl F p;refine⟨_,y,zdf s,K,ρ,G,F,o.mono ρ _ _ (fun c ⟨es,O,Q,q⟩ v R Y g w=>?_) q⟩
 subst O;have m:=zo w;have T:=m.nw rfl;cases T with
 | lst J Z n=>
  rename_i b M;have W:Rfs X.K H0 R f _ _:=⟨((r.same g.g).rd).append (rdns_rd n),fun h=>zcB ((r.same g.g).nw h) n⟩
  exact⟨l,b,E,M,rfl,rfl,g.h.at s,g.sub.s _ _ J,by rw [r.length,(rdns_rd n).length];exact Q,L.nx _ _ _ _ ((F.gr g).change p y W) q⟩
end L3
namespace L2
open PySem PySem.Spec PyProof.Rows
theorem zlH:bootBuiltins "enumerate" = some (.type "enumerate"):=by with_unfolding_all rfl
def Ite(K:Ybf)(a:Addr):It:=
 ⟨fun i H=>∃ xs x,SqL K H a xs/\xs[i]?=some x,
  fun i H v H'=>∃ p x,H p=none/\v=.ref p/\H'=upd H p (.tup [.int i,x])/\∀ xs,SqL K H a xs->xs[i]?=some x,
  fun i H=>∃ xs,SqL K H a xs/\i=xs.length⟩
theorem zkn{e:Addr}(hei:e≠it)(hle:l≠e)(hli:l≠it) :
 Turn P w K (.Tuple elts k pos) (Ite K l) [e,it] e (fun i h=>(∃ old,IsEnum h e it i old)/\h.IsListIter it l i) where
 mem:=by simp
 obj:=fun i h hyp c hc=>by
  obtain⟨⟨old,he⟩,⟨o1,e1,c1,d1⟩⟩:=hyp;have hc':c=e\/c=it:=by simpa using hc
  rcases hc' with rfl|rfl
  . exact⟨_,he,fun v z=>by cases(z)⟩
  . exact⟨o1,e1,fun v z=>by rw [d1] at z;cases z⟩
 keep:=fun i h h' zz0 kk=>by obtain⟨⟨old,he⟩,h1⟩:=zz0;exact⟨⟨old,kk e (by simp) _ he⟩,h1.at fun o e=>kk it (by simp) o e⟩
 item:=by
  intro X hP hw hK hc i pins s σ H E I hf st hg;subst hP hw hK;obtain⟨xs,x,q1,hx⟩:=hg;obtain⟨its1,r1,p1,_⟩:=I.list q1;obtain⟨u,hu,ru⟩:=r1.get hx;have W:=WalksT.enumerate (prog:=X.prog) (w:=X.w) (A:=X.A) (I.ok.hd hc) e it l hei hle hli its1.toArray;have hi:=by
   have a1:=(Ya8.mp hu).1
   omega
  obtain⟨he,h1⟩:=st;have olt:∀ b∈[e,it],b<s.heap.objs.size:=fun b hb=>by
   obtain⟨old,he'⟩:=he;have hc':b=e\/b=it:=by simpa using hb
   rcases hc' with rfl|rfl
   . exact YaX he'
   . obtain⟨_,e,_⟩:=h1;exact YaX e
  refine W.item i s _ _ hi ⟨he,h1,p1.isList⟩ fun T vals h1' tk hv' hT hTup mid kp=>?_
  obtain⟨t',u',hu',e'⟩:=hv';subst e';have eu:u'=u:=by
   have:=by simpa using hu'
   rw [hu] at this;cases this;rfl
  subst eu;refine⟨_,rfl,W.go elts k pos i T _ _ _ mid fun h2' st2 kp2=>?_⟩
  have I1:Inv X pins σ H { s with heap:=h2',toks:=tk }:=I.turnedL (ch:=[e,it]) (fun b o hb e=>kp2 b o hb (kp b o hb e)) fun b hb=>hf b hb
  have hTn:H T=none:=I.hok.fresh hT;obtain⟨o,ho,oc,on,od⟩:=hTup;have ho2:=kp2 T o (W.apart i T _ mid) ho;have I2:Inv X pins σ (upd H T (.tup [.int i,x])) { s with heap:=h2',toks:=tk }:=I1.track hTn (Ya5 I.sz hT) (Wbe (YaU I.lt hT)) (fun n c e z=>by
   obtain⟨vv,q⟩:=I.cell n c e;exact absurd (YaU q.lt (by rw [z];exact hT)) (Yap _)) (fun p hp z=>absurd (YaU (YaX (I.pin p hp).1) (by rw [z];exact hT)) (Yap _))
   ⟨by show 2<=sizeLine;decide,[.int i t',u'],.cons ⟨t',rfl⟩ (.cons ru .nil),o,ho2,oc,on,od⟩
  refine⟨.ref T,_,I2,rfl,⟨T,x,hTn,rfl,rfl,fun xs' z1=>?_⟩,⟨st2.1,st2.2.1⟩,fun b hb=>?_⟩
  . rw [I.list_inj z1 q1];exact hx
  . rw [zc (Yaf (YaU (olt b hb) hT))];exact(hf b hb).1
 done:=by
  intro X hP hw hK hc i pins s σ H E I hf st hg;subst hP hw hK;obtain⟨xs,q1,hi⟩:=hg;obtain⟨its1,r1,p1,_⟩:=I.list q1;have W:=WalksT.enumerate (prog:=X.prog) (w:=X.w) (A:=X.A) (I.ok.hd hc) e it l hei hle hli its1.toArray;obtain⟨he,h1⟩:=st;have ei:i=its1.toArray.size:=by simp only [YaZ];rw [<-r1.length];exact hi
  subst ei;refine W.done s _ _ ⟨he,h1,p1.isList⟩ fun h' tk kp=>⟨rfl,?_⟩
  exact I.turnedL (ch:=[e,it]) kp fun b hb=>hf b hb
 self:=fun _ _ _ _ _ st h=>by obtain⟨⟨old,he⟩,_⟩:=st;exact wpAny_pyIter_enum he h
def zkU(K:Ybf)(ta:TA):TI:=fun σ H R=>ta σ H fun vs H1=>∃ a,vs=[.ref a]/\(∃ xs,SqL K H1 a xs)/\R (Ite K a) H1
theorem ziC{a:Expr}{p:Pos}(hg:Gl X "enumerate")(hm:X.mg "enumerate" = none)(ha:PA X [a] ta)(hs:starEach [a] X.env=[(false,eval a X.env)]:=by rfl):PI X (.Tuple elts k tpos) (.Call (.Name "enumerate" p) [a] [] pos) (zkU X.K ta):=by
 intro pins s σ H R I h;refine Call_ (Jr I hg hm zlH (Wab (thn (ha pos pins s σ H _ I h) fun us s1 ⟨vs,H1,I1,r1,q1⟩=>?_) (by rw [hs];rfl) rfl))
 obtain⟨l1,e,⟨xs,hx⟩,q⟩:=q1;subst e;obtain⟨u,rfl,ru⟩:=Jj r1;cases(show u=Value.ref l1 from ru)
 obtain⟨its1,_,p1,_⟩:=I1.list hx;have lt1:l1<s1.heap.objs.size:=by obtain⟨o,e,_⟩:=p1.isList;exact YaX e
 refine call_enumerate_list p1.isList fun h' he hi1 hsz kp=>wpAny_pyIter_enum he ?_
 have I2:Inv X pins σ H1 { s1 with heap:=h' }:=I1.kept (t':=s1.toks) kp
 refine⟨_,[s1.heap.objs.size+1,s1.heap.objs.size],_,Ite X.K l1,H1,rfl,I2,zkn (Nat.succ_ne_self _) (Yaf (Nat.lt_succ_of_lt lt1)) (Yaf lt1),⟨⟨_,he⟩,hi1⟩,fun b hb=>?_,q⟩
 have hb':s1.heap.objs.size<=b:=by
  have hc':b=s1.heap.objs.size+1\/b=s1.heap.objs.size:=by simpa using hb
  rcases hc' with rfl|rfl<;>omega
 have f:=I1.fpOk (H':=H1) hb' (I1.hok.fresh hb');exact⟨f.1,f.2.1,f.2.2.1,f.2.2.2.1,f.2.2.2.2.1,f.2.2.2.2.2⟩
end L2
namespace L3
open PySem PySem.Spec PyProof.Rows L2
variable[LamW]
section
variable{p:Pos}
noncomputable def jQ(ds:List D):List D:=(List.range ds.length).map fun i=>.tuple [.int (i:Nat),ds.getD i .none]
theorem zmN(a):(jQ a).length=a.length:=by unfold jQ;simp
theorem zje{ds:List D}(h:(jQ ds)[i]?=some d):∃ a,d=.tuple [.int (i:Nat),a]/\ds[i]?=some a:=by
 unfold jQ at h;rw [Ya0] at h
 by_cases hi:i<ds.length
 . simp_all
 simp_all
def itE(t:TA3):TI3:=fun ρ Q=>t ρ fun cs=>∃ f as,cs=[.sh f (.list as)]/\Q f (jQ as)
theorem zhR{K:Ybf}{H0 G:Hp}{a:Addr}{xs:List V}{f:Bool}{as:List D}(g:SqL K G a xs)(j:Rfs K H0 G f xs as):ItOk K H0 (Ite K a) f (jQ as) G where
 go:=fun i d y H A c b=>by
  obtain⟨q,rfl,B⟩:=zje A;obtain⟨x,h,n⟩:=j.get B;have m:=c.trans b.s;refine⟨⟨xs,x,m.seq g,h⟩,fun v C ⟨l,E,e,w,s,u⟩=>?_⟩
  subst w s;have p:=u xs (m.seq g);rw [h] at p;cases p;have o:=zG (b.free e) (.tup [.int i,x]);exact⟨_,Gr.put b e,⟨.tup (SqT.of zf) (.cons (.int _) (.cons (Zh (c.trans o) n.rd) .nil)),fun r=>
   .tup zf (.cons (.int _) (.cons (jY (c.trans o) (fun _ _ _ z=>z) (n.nw r)) .nil))⟩⟩
 stop:=fun i y H e c b=>⟨xs,(c.trans b.s).seq g,by rw [e,zmN,j.length]⟩
theorem zbC{elts:List Expr}{k:Nat}{tpos:Pos}{a:Expr}{t:TA3}(hg:Gl X "enumerate")(hm:X.mg "enumerate" = none)(ha:PA3 X H0 [a] t)(hs:starEach [a] X.env=[(false,eval a X.env)]:=by rfl):PI3 X H0 (.Tuple elts k tpos) (.Call (.Name "enumerate" p) [a] [] pos) (itE t):=
 ⟨fun ρ Q Q' h q=>ha.mono ρ _ _ (fun cs zz0=>by obtain⟨f,as,e,q⟩:=zz0;exact⟨f,as,e,h _ _ q⟩) q,PI.imp (ziC hg hm ha.ok hs) fun σ H R=>el5 fun G0 ρ G F q=>⟨G0,ρ,G,F,ha.mono ρ _ _ (fun cs hyp vs G1 H1 g1 w=>by
  obtain⟨f,as,e,k⟩:=hyp;subst e;obtain⟨v,rfl,w1⟩:=vws1 w;obtain⟨a,xs,rfl,hq,rs⟩:=J3 (zo w1);exact⟨a,rfl,⟨xs,g1.sub.seq hq⟩,k _ G1 H1 g1 (zhR hq rs)⟩) q⟩⟩
end
variable[LamW]
def TupI(K:Ybf)(a:Addr)(ns:List Int):Prop:=∃ (o:Obj) (its:Array Value) (n:Nat),K.lookup a=some o/\o.cls=.type "tuple"/\o.data=.seq its n/\its.size<=sizeLine/\Vals (ns.map V.int) its.toList
section
variable{x:Str}
def k3f(d:D):TE3:=fun _ Q=>Q (.sh false d)
theorem g3t{ns:List Int}(g:Gl X x)(b:∃ a,X.mg x=some (.ref a)/\TupI X.K a ns)(e:(x==("__debug__" : Str))=false:=by decide):PE3 X H0 (.Name x pos) (k3f (.tuple (ns.map .int))):=by
 obtain⟨a,b,c⟩:=b;exact⟨fun ρ Q i h q=>h _ q,PE.imp (zgz (v:=.ref a) g b rfl e) fun σ H Q=>el5 fun j ρ G F q=>q _ G H (Gr.refl F.sub) (.sh ⟨.tup (.inr c) (zcX ns),fun z=>by cases z⟩)⟩
end
variable[LamW]
section
variable{ρ: Env3}
theorem JN(F:Fr3 K H0 G0 ρ σ G H){i:Nat}{ps:List Addr}{ms:List (List D)}(h:ρ[i]?=some (some (.tr ps ms))):∃ l,σ[i]?=some (some (.ref l))/\Tr K H0 G H l ps ms:=by
 obtain⟨v,b,a⟩:=F.slot i _ h;cases a with
 | tr t=>exact⟨_,b,t⟩
theorem Tr.ix(t:Tr K H0 G H l ps ms){n:Int}(h:atI ms n=some m):∃ a p vs,ixN ms.length n=some a/\ms[a]?=some m/\ps[a]?=some p/\atI (ps.map V.ref) n=some (.ref p)/\H p=some (.lst vs)/\G p=none/\Rfs K H0 G true vs m:=by
 unfold atI at *;rw [YaR,t.len];cases e:ixN _ n with
 | none=>simp_all
 | some a=>
  rw [e] at h;have b:=h;have o:a<ps.length:=by rw [t.len];exact(Ya8.mp b).1
  have c:=YaQ o;obtain⟨vs,i,g,j⟩:=t.item a _ m c b;exact⟨a,ps[a],vs,rfl,b,c,by simp_all,i,g,j⟩
theorem Tr.change(t:Tr K H0 G H l ps ms){a:Nat}{p:Addr}(hp:ps[a]?=some p)(r:Rfs K H0 G true vs m):Tr K H0 G (upd H p (.lst vs)) l ps (ms.set a m):=by
 have hpm:=Yah hp;have hn:=YaB.mp t.nd;have hlp:l≠p:=fun z=>by subst z;exact hn.1 hpm
 refine⟨by rw [zc hlp];exact t.top,t.topG,t.nd,by rw [YaN];exact t.len,fun k q m' h1 h2=>?_⟩
 rcases zJ h2 with ⟨rfl,e,_⟩|⟨n,e⟩
 . rw [hp] at h1;cases h1
   rw [e];exact⟨vs,zf,((t.at hpm).choose_spec.choose_spec).2.1,r⟩
 . obtain⟨us,a1,a2,a3⟩:=t.item k q m' h1 e
   have hq:q≠p:=fun z=>by
    subst z;obtain⟨b1,c1⟩:=Ya8.mp h1;obtain⟨b2,c2⟩:=Ya8.mp hp;exact n ((WaK hn.2).mp (c2.trans c1.symm))
   exact⟨us,by rw [zc hq];exact a1,a2,a3⟩
theorem Fr3.chgT(F:Fr3 K H0 G0 ρ σ G H){i:Nat}{l:Addr}{ps:List Addr}{ms:List (List D)}{a:Nat}{p:Addr}{vs:List V}{m:List D}(c:ρ[i]?=some (some (.tr ps ms)))(g:σ[i]?=some (some (.ref l)))(e:ps[a]?=some p)(r:Rfs K H0 G true vs m):Fr3 K H0 G0 (ρ.set i (some (.tr ps (ms.set a m)))) σ G (upd H p (.lst vs)):=by
 obtain⟨j,b,t⟩:=JN F c;rw [g] at b;cases b;exact F.chg c g (.inr (Yah e)) (fun _ h=>h) (.tr (t.change e r))
end
section
variable{k j:Expr}{x:Str}
def ix2(i:Nat)(tk tj:TE3):TE3:=fun ρ Q=>∃ ps ms,ρ[i]?=some (some (.tr ps ms))/\tk ρ fun kc=>∃ n m,kc=.sh true (.int n)/\atI ms n=some m/\tj ρ fun jc=>∃ b d,jc=.sh true (.int b)/\atI m b=some d/\Q (.sh true d)
theorem at2{np kp:Pos}{tk tj:TE3}(hN:X.N[i]?=some x)(g:Vis X.env.scope x)(o:PE3 X H0 k tk)(C:PE3 X H0 j tj)(A:Zk k)(y:Zk j)(hd:(x==("__debug__" : Str))=false:=by decide)(u:(x==("__classdict__" : Str))=false:=by decide) :
 PE3 X H0 (.Subscript (.Subscript (.Name x np) k kp) j pos) (ix2 i tk tj):=by
 refine⟨fun ρ Q Q' h q=>?_,PE.imp (jH j8 (jH j8 (jx hN g hd u) o.ok A) C.ok y) fun σ H Q=>el5 fun K ρ G F q=>?_⟩
 . obtain⟨M,L,e,q⟩:=q
   refine⟨M,L,e,o.mono ρ _ _ (fun kc q=>?_) q⟩
   obtain⟨n,m,z,s,q⟩:=q;refine⟨n,m,z,s,C.mono ρ _ _ (fun P q=>?_) q⟩
   obtain⟨b,d,r,w,q⟩:=q;exact⟨b,d,r,w,h _ q⟩
 . obtain⟨M,L,e,q⟩:=q
   obtain⟨l,N,t⟩:=JN F e;refine⟨_,N,K,ρ,G,F,o.mono ρ _ _ (fun kc q v1 S H1 J U=>?_) q⟩
   obtain⟨n,m,z,s,q⟩:=q;subst z;cases zy (zo U).rd;have E:=F.gr J;obtain⟨l',c,I⟩:=JN E e;rw [N] at c;cases c;obtain⟨a,p,R,h1,h2,h3,Y,Z,h6,O⟩:=I.ix s;refine⟨l,_,n,_,rfl,rfl,SqL.of I.top,Y,K,ρ,S,E,C.mono ρ _ _ (fun P q v2 W H2 B T=>?_) q⟩
   obtain⟨b,d,r,w,q⟩:=q;subst r;cases zy (zo T).rd;obtain⟨v,g,rv⟩:=zba (O.same B.g) w;exact⟨p,R,b,v,rfl,rfl,SqL.of (B.h.at Z),g,q v W H2 (J.trans B) (.sh rv)⟩
def put2(i:Nat)(tk tj te:TE3):TS3:=fun A ρ=>∃ ps ms,ρ[i]?=some (some (.tr ps ms))/\te ρ fun c=>tk ρ fun kc=>∃ n m,kc=.sh true (.int n)/\atI ms n=some m/\tj ρ fun jc=>∃ b d a q,jc=.sh true (.int b)/\c=.sh true d/\ixN ms.length n=some a/\ixN m.length b=some q/\A.nx (ρ.set i (some (.tr ps (ms.set a (m.set q d)))))
theorem zeM{tk tj te:TE3}{np kp spos:Pos}(hN:X.N[i]?=some x)(Q:Vis X.env.scope x)(M:PE3 X H0 k tk)(K:PE3 X H0 j tj)(E:PE3 X H0 e te)(u:Zk k)(hd:(x==("__debug__" : Str))=false:=by decide)(y:(x==("__classdict__" : Str))=false:=by decide)
 (hs:swapsWithSole [.Subscript (.Subscript (.Name x np) k kp) j spos] e pos.line X.env=pure false:=by rfl) (hw:swappedStores [.Subscript (.Subscript (.Name x np) k kp) j spos] e X.env=pure none:=by rfl)
 (h1:(assignEach [.Subscript (.Subscript (.Name x np) k kp) j spos] X.env).map (·.2)=[assign (.Subscript (.Subscript (.Name x np) k kp) j spos) X.env]:=by rfl)
 (ha:∀ v,assign (.Subscript (.Subscript (.Name x np) k kp) j spos) X.env v=(do
  let ov <-holding [v] (eval (.Subscript (.Name x np) k kp) X.env)
  let iv <-holding [v,ov] (eval j X.env)
  standAt spos
  holding [v,ov,iv] (setItem ov iv v)
  release [v,ov,iv] []):=by intro _;rfl):PS3 X H0 (.Assign [.Subscript (.Subscript (.Name x np) k kp) j spos] e pos) (put2 i tk tj te):=by
 refine PS.imp (zcl E.ok (zeL (jH j8 (jx hN Q hd y) M.ok u) K.ok Z4 ha) hs hw h1) fun B σ H s=>?_
 obtain⟨r,A,ρ,G,F,⟨ps,ms,o,q⟩,L⟩:=s;obtain⟨l,C,t⟩:=JN F o;refine⟨r,ρ,G,F,E.mono ρ _ _ (fun c q v T H1 Y w1=>?_) q⟩
 have N:=F.gr Y;refine⟨.ref l,C,r,ρ,T,N,M.mono ρ _ _ (fun kc q v2 G2 H2 P w2=>?_) q⟩
 obtain⟨n,m,Z,R,q⟩:=q;subst Z;cases zy (zo w2).rd;have w:=N.gr P;obtain⟨l',g,I⟩:=JN w o;rw [C] at g;cases g;obtain⟨a,p,S,k1,k2,U,k4,k5,k6,J⟩:=I.ix R;refine⟨l,_,n,_,rfl,rfl,SqL.of I.top,k4,r,ρ,G2,w,K.mono ρ _ _ (fun jc q v3 G3 H3 h w3=>?_) q⟩
 obtain⟨b,d,a',z,e3,W,O,e6,q⟩:=q;subst e3 W;cases zy (zo w3).rd;rw [k1] at O;cases O;refine⟨p,S,b,z,rfl,rfl,h.h.at k5,by rw [J.length];exact e6,L.nx _ _ _ _ ((w.gr h).chgT o C U ((J.same h.g).set ((zo w1).same (P.g.trans h.g)) z)) q⟩
def app2(i:Nat)(tk te:TE3):TS3:=fun A ρ=>∃ ps ms,ρ[i]?=some (some (.tr ps ms))/\tk ρ fun kc=>∃ n m a,kc=.sh true (.int n)/\atI ms n=some m/\ixN ms.length n=some a/\m.length<sizeLine/\te ρ fun c=>∃ d,c=.sh true d/\A.nx (ρ.set i (some (.tr ps (ms.set a (m++[d])))))
theorem zhr{tk te:TE3}{np kp apos cpos:Pos}(hN:X.N[i]?=some x)(M:Vis X.env.scope x)(J:PE3 X H0 k tk)(w:PE3 X H0 e te)(r:Zk k)(hd:(x==("__debug__" : Str))=false:=by decide)(u:(x==("__classdict__" : Str))=false:=by decide)
 (hb:attributeBase (.Subscript (.Name x np) k kp) "append" X.env (eval (.Subscript (.Name x np) k kp) X.env)=eval (.Subscript (.Name x np) k kp) X.env:=by rfl)
 (S:((backTo cpos (starEach [e] X.env)).all (fun x=>!x.1)&&(backToKw cpos (keywordEach [] X.env)).all (fun x=>x.1.isSome)&&decide ([e].length+([]:List Keyword).length+(if([]:List Keyword).isEmpty then 0 else 1)<30))=true:=by rfl)
 (g:(apos.endLine==cpos.line)=true:=by rfl) (y:starEach [e] X.env=(false,eval e X.env)::starEach [] X.env:=by rfl) (Y:(backTo cpos (starEach [] X.env)).any (·.1)=false:=by rfl)
 (T:swapsWith (.Call (.Attribute (.Subscript (.Name x np) k kp) "append" apos) [e] [] cpos) none pos.line X.env=pure false:=by rfl):PS3 X H0 (.Expr (.Call (.Attribute (.Subscript (.Name x np) k kp) "append" apos) [e] [] cpos) pos) (app2 i tk te):=by
 refine PS.imp (jR (zdc (jH j8 (jx hN M hd u) J.ok r) (zn w.ok zK y) hb S g y Y) T) fun B σ H o=>?_
 obtain⟨z,A,ρ,G,F,⟨ps,ms,h,q⟩,L⟩:=o;obtain⟨l,g,t⟩:=JN F h;refine⟨_,g,z,ρ,G,F,J.mono ρ _ _ (fun kc q v2 G2 H2 g2 Z=>?_) q⟩
 obtain⟨n,m,a',Q,N,K,e6,q⟩:=q;subst Q;cases zy (zo Z).rd;have s:=F.gr g2;obtain⟨l',b,C⟩:=JN s h;rw [g] at b;cases b;obtain⟨a,p,O,U,k2,P,k4,E,k6,I⟩:=C.ix N;rw [U] at K;cases K;refine⟨l,_,n,_,rfl,rfl,SqL.of C.top,k4,zdf E,z,ρ,G2,s,w.mono ρ _ _ (fun c q v G3 H3 j R=>?_) q⟩
 obtain⟨d,W,q⟩:=q;subst W;exact⟨p,O,v,rfl,rfl,j.h.at E,by rw [I.length];exact e6,L.nx _ _ _ _ ((s.gr j).chgT h g P ((I.same j.g).snoc (zo R))) q⟩
def za2(i:Nat)(ti:TI3)(m:List D):TS3:=fun A ρ=>ti ρ fun _ ds=>ds.length<=1000000/\∀ ps:List Addr,ps.length=ds.length->A.nx (ρ.set i (some (.tr ps (List.replicate ds.length m))))
theorem zbo(lo)(n):(nums lo n).length=n:=by unfold nums;rw [YaR,YaG]
theorem zeH{es:List Expr}{kn:Str}{kp lp:Pos}{iter:Expr}{scope:Scope}{spos pos':Pos}{ti:TI3}{te:TE}{vs:List V}{m:List D}(hN:X.N.Nodup)(a2:X.N[i]?=some x)(hx:Loc X.env.scope x)(U M:List Str)(js:List Nat)(w:X.calm=true)(S:CompSc X.env.scope scope U M)(hj:js.map (fun j=>X.N[j]?)=M.map some)
 (hi:PI3 X H0 (.Name kn kp) iter ti)
 (E:∀ s H fp cl,PG (X.comp scope (U++M) s H fp cl) (.Name kn kp) (zbv 0)/\PE (X.comp scope (U++M) s H fp cl) (.List es lp) te)
 (ht:∀ σ H Q,(∀ p,H p=none->Q (.ref p) (upd H p (.lst vs)))->te σ H Q) (hr:∀ G,RdVs X.K G vs m) (a4:m.all zx=true)
 (hs:∀ x,foldedSetIterable iter X.env x=pure x:=by intro _;rfl)
 (a5:swapsWith (.ListComp (.List es lp) [⟨.Name kn kp,iter,[],0⟩] scope pos) (some (.Name x pos')) spos.line X.env=pure true:=by rfl) (hf:X.fn x=true\/X.env.scope.names.lookup x=some .local:=by first|exact .inl rfl|exact .inr rfl|assumption) :
 PS3 X H0 (.Assign [.Name x pos'] (.ListComp (.List es lp) [⟨.Name kn kp,iter,[],0⟩] scope pos) spos) (za2 i ti m):=by
 refine PS.imp (zb3 hN a2 hx U M js w S hj hi.ok (fun s H fp cl=>⟨(E s H fp cl).1,zaR,(E s H fp cl).2⟩) hs a5 hf) fun B σ H a1=>?_
 obtain⟨G0,A,ρ,G,F,q,L⟩:=a1;refine⟨G0,ρ,G,F,hi.mono ρ _ _ (fun fl W q J K H1 R ok D T=>?_) q⟩
 obtain⟨e2,q⟩:=q;generalize hn:W.length=n at e2 q;have F1:=F.gr R;have gD:K D=none:=R.sub.free T;refine⟨fun c r ys σ2 u=>c<=n/\r=n - c/\zi H1 u/\∃ y:List Addr,ys=y.map V.ref/\y.length=c/\u D=some (.lst ys)/\(D::y).Nodup/\∀ p∈y,H1 p=none/\u p=some (.lst vs),
  ⟨n,Wbm _,rfl,(zG T _).x,[],rfl,rfl,zf,by simp,fun p g=>by cases g⟩,?_⟩
 rintro c r ys σ2 u ⟨Z,rfl,O,y,rfl,l,I,v,e⟩
 have sG:Sub K u:=R.sub.trans O
 by_cases N:c<n
 . right
   have a0:c<W.length:=by rw [hn];exact N
   have hd:W[c]?=some W[c]:=YaQ a0;obtain⟨a6,hy⟩:=ok.go c _ K u hd (Same.refl _) sG;refine⟨a6,fun x3 H3 y3=>?_⟩
   obtain⟨G3,C,_⟩:=hy x3 H3 y3;show te _ H3 _;refine ht _ _ _ fun p g=>?_
   have o:=C.h.at I;have P:p≠D:=fun z=>by subst z;rw [g] at o;cases o
   have p1:H1 p=none:=(O.trans C.h).free g;refine⟨by rw [zc (Wbp P)];exact o,?_,n - (c+1),#[0],#[0],rfl,?_,y++[p],by rw [Ya2];rfl,by rw [YaS,l];rfl,zf,?_,?_⟩
   . rw [YaR,l]
     exact YaU (show c<1000001 by omega) #[1]
   . exact((O.trans C.h).trans (zG g _).x).chg T (by rw [zc (Wbp P)];exact o) fun f z=>by cases z
   . refine WaA.mpr ⟨v,by simp,fun a ha b E=>?_⟩
     cases Ya6.mp E
     intro z;subst z
     rcases Wa5.mp ha with h|h
     . exact P h
     . have:=C.h.at (e a h).2
       rw [g] at this;cases this
   . intro b E
     rcases Ya3.mp E with h|h
     . have a3:b≠D:=fun z=>by subst z;exact(YaB.mp v).1 h
       have a7:b≠p:=fun z=>by
        subst z;have:=C.h.at (e b h).2;rw [g] at this;cases this
       exact⟨(e b h).1,by rw [zc a3,zc a7];exact C.h.at (e b h).2⟩
     . cases Ya6.mp h
       exact⟨p1,by rw [zc P];exact zf⟩
 . left
   have ec:c=n:=Nat.le_antisymm Z (Nat.not_lt.mp N);subst ec;refine⟨ok.stop c K u hn.symm (Same.refl _) sG,?_⟩;refine L.nx _ _ K u (F1.put O (.tr ⟨I,gD,v,by rw [l,Ybb],fun k p m' h1 h2=>?_⟩) fun a h=>?_) (q y l)
   . have Y:m'=m:=by
      have:=Yah h2;exact Wah this
     subst Y;have g:=Yah h1;exact⟨vs,(e p g).2,R.sub.free (e p g).1,hr _,fun _=>zgI a4 (hr _)⟩
   . rcases h with h|h
     . cases h;exact T
     . exact(e a h).1
end
end L3
namespace L2
open PySem PySem.Spec PyProof.Rows
section
variable{κ: Type}[DecidableEq κ]
noncomputable def valV(kvs:List (κ×V))(k:κ):Option V:=(kvs.find? fun kv=>decide (kv.1=k)).map (·.2)
noncomputable def putK(kvs:List (κ×V))(k:κ)(v:V):List (κ×V):=
 if(kvs.any fun kv=>decide (kv.1=k))=true then kvs.map (fun kv=>if kv.1=k then(kv.1,v) else kv) else kvs++[(k,v)]
noncomputable def zeS(kvs:List (κ×V))(k:κ):List (κ×V):=kvs.filter fun kv=>decide (kv.1≠k)
theorem zaV{p:κ×V}{r:List (κ×V)}{k:κ}(e:p.1=k):valV (p::r) k=some p.2:=by simp [valV,List.find?_cons,e]
theorem za8{p:κ×V}{r:List (κ×V)}{k:κ}(e:¬p.1=k):valV (p::r) k=valV r k:=by simp [valV,List.find?_cons,e]
theorem zgM(k:κ):∀ kvs:List (κ×V),(kvs.any fun kv=>decide (kv.1=k))=(valV kvs k).isSome
 | []=>rfl
 | p :: r => by
  rw [List.any_cons]
  by_cases e:p.1=k
  . simp [zaV e,decide_eq_true e]
  . rw [za8 e,decide_eq_false e];exact zgM k r
theorem zeC(kvs:List (κ×V))(k:κ)(v:V):(putK kvs k v).length<=kvs.length+1:=by
 unfold putK
 split
 . rw [YaR];lia
 . rw [YaS,List.length_cons,List.length_nil];lia
theorem RelO.isSome_eq{u:Option Value}(r:RelO o u):o.isSome=u.isSome:=by
 cases o with
 | none => cases u with
  | none=>rfl
  | some _=>exact(r).elim
 | some _ => cases u with
  | none=>exact(r).elim
  | some _=>rfl
theorem RelO.getD{u:Option Value}(r:RelO o u)(a:RelV d d'):RelV (o.getD d) (u.getD d'):=by
 cases o with
 | none => cases u with
  | none=>exact a
  | some _=>exact(r).elim
 | some _ => cases u with
  | none=>exact(r).elim
  | some _=>exact r
theorem KV.val{kvs:List (κ×V)}{vs:List (κ×Value)}(r:KV kvs vs)(k:κ):RelO (valV kvs k) (valueAt vs k):=by
 induction r with
 | nil=>exact True.intro
 | @cons p q l c h t i=>
  obtain⟨g,j⟩:=h
  by_cases e:p.1=k
  . have a:=g.symm.trans e
    have b:valueAt (q::c) k=some q.2:=by simp [valueAt,a]
    rw [zaV e,b];exact j
  . have a:¬q.1=k:=fun z=>e (g.trans z)
    have b:valueAt (q::c) k=valueAt c k:=by simp [valueAt,a]
    rw [za8 e,b];exact i
theorem KV.any{kvs:List (κ×V)}{vs:List (κ×Value)}(r:KV kvs vs)(k:κ):(kvs.any fun kv=>decide (kv.1=k))=vs.any fun kv=>decide (kv.1=k):=by
 induction r with
 | nil=>rfl
 | cons h t a=>simp_all
theorem KV.repl{kvs:List (κ×V)}{vs:List (κ×Value)}(r:KV kvs vs)(k:κ){y:V}{u:Value}(ry:RelV y u) :
 KV (kvs.map fun kv=>if kv.1=k then(kv.1,y) else kv) (vs.map fun kv=>if kv.1=k then(kv.1,u) else kv):=by
 induction r with
 | nil=>exact .nil
 | @cons p q ps qs h t ih=>
  rw [Ya1,Ya1];refine .cons ?_ ih;obtain⟨h1,h2⟩:=h
  by_cases e:p.1=k
  . rw [if_pos e,if_pos (h1.symm.trans e)];exact⟨h1,ry⟩
  . rw [if_neg e,if_neg (fun z=>e (h1.trans z))];exact⟨h1,h2⟩
theorem KV.put{kvs:List (κ×V)}{vs:List (κ×Value)}(r:KV kvs vs)(k:κ){y:V}{u:Value}(a:RelV y u):KV (putK kvs k y) (stored vs k u):=by
 unfold putK stored;rw [r.any k]
 by_cases e:(vs.any fun b=>decide (b.1=k))=true
 . rw [if_pos e,if_pos e];exact r.repl k a
 . rw [if_neg e,if_neg e];exact Paired.snoc r ⟨rfl,a⟩
theorem KV.length{kvs:List (κ×V)}{vs:List (κ×Value)}(r:KV kvs vs):kvs.length=vs.length:=Wa4 r
end
theorem Zn(r:RelV (kV k) u):(jf P w).is k u=true:=by
 cases k with
 | inl i=>obtain⟨t,e⟩:=(r);subst e;exact zhs P w i t
 | inr x=>obtain⟨t,e⟩:=(r);subst e;exact zj1 P w x t
theorem zeh{P:Program}{w:World}:∀ {ks:List Key} {us:List Value},Vals (ks.map kV) us->ItemsAre (jf P w) ks us
 | [],_,r=>by cases r;exact .nil
 | k :: ks, _, r => by
  cases r with
  | cons h t=>exact .cons (Zn h) (zeh t)
abbrev KT(H:Hp):List (List Key×V)->List (List Key×Addr×Value)->Prop:=Paired fun p q=>p.1=q.1/\H q.2.1=some (.tup (p.1.map kV))/\RelV p.2 q.2.2
theorem KT.val(r:KT H kvs xs)(k):RelO (valV kvs k) ((atKey xs k).map (·.2)):=by
 induction r with
 | nil=>exact True.intro
 | @cons p q l c h t i=>
  obtain⟨g,_,j⟩:=h
  by_cases e:p.1=k
  . have a:=g.symm.trans e
    have b:atKey (q::c) k=some q.2:=by simp [atKey,a]
    rw [zaV e,b];exact j
  . have a:¬q.1=k:=fun z=>e (g.trans z)
    have b:atKey (q::c) k=atKey c k:=by simp [atKey,a]
    rw [za8 e,b];exact i
theorem KT.repl(r:KT H kvs xs)(k){y:V}(ry:RelV y u) :
 KT H (kvs.map fun kv=>if kv.1=k then(kv.1,y) else kv) (xs.map (putAt k u)):=by
 induction r with
 | nil=>exact .nil
 | @cons p q ps qs h t ih=>
  rw [Ya1];refine .cons ?_ ih;obtain⟨h1,h2,h3⟩:=h;unfold putAt
  by_cases e:p.1=k
  . rw [if_pos e,if_pos (h1.symm.trans e)];exact⟨h1,h2,ry⟩
  . rw [if_neg e,if_neg (fun z=>e (h1.trans z))];exact⟨h1,h2,h3⟩
theorem KT.put(r:KT H kvs xs)(k){b:Addr}{y:V}(g:H b=some (.tup (k.map kV)))(a:RelV y u) :
 KT H (putK kvs k y) (storedH xs k b u):=by
 have e:(kvs.any fun c=>decide (c.1=k))=(atKey xs k).isSome:=by
  rw [zgM,(r.val k).isSome_eq,WaB]
 unfold putK storedH;rw [e]
 by_cases q:(atKey xs k).isSome=true
 . rw [if_pos q,if_pos q];exact r.repl k a
 . rw [if_neg q,if_neg q];exact Paired.snoc r ⟨rfl,g,a⟩
theorem KT.keeps(r:KT H kvs xs)(a:∀ b ys,H b=some (.tup ys)->H' b=some (.tup ys)):KT H' kvs xs:=
 Paired.mapP r fun _ _ z=>⟨z.1,a _ _ z.2.1,z.2.2⟩
theorem zd6{u:HO}(b:HOk P w H h)(e:Rd H a u):zV P w H h a u:=e.ok b
theorem J6{kvs:List (Key×V)}(b:HOk P w H h)(e:Rd H a (.dK kvs)):kvs.length<=sizeLine/\(a==sysModules)=false/\∃ vs,KV kvs vs/\h.DictOf (jf P w) a vs:=
 zd6 b e
theorem zlF{kvs:List (Key×V)}(b:HOk P w H h)(e:H a=some (.dK kvs)):kvs.length<=sizeLine/\(a==sysModules)=false/\∃ vs,KV kvs vs/\h.DictOf (jf P w) a vs:=J6 b (.inl e)
theorem Zb{ks:List Key}(j:HOk P w H h)(e:H a=some (.tup (ks.map kV))):(tupleKind (jf P w)).is h ks a:=by
 obtain⟨_,b,r,o,i,g,n,c⟩:=(j a _ e);exact⟨o,_,n,i,g,c,by simpa using zeh r⟩
theorem JT(g:HOk P w H h)(e:Rd H a (.dT kvs)):kvs.length<=sizeLine/\(a==sysModules)=false/\
 ∃ xs,KT H kvs xs/\h.DictOfH (tupleKind (jf P w)) a xs:=by
 obtain⟨z,y,xs,r,o,n,i,j,B,u,v,A⟩:=(zd6 g e);refine⟨z,y,xs,r,o,n,i,j,B,u,v,fun x b=>?_,A⟩
 have c:∀ {l:List _} {m:List _},KT H l m->∀ x∈m,(tupleKind (jf P w)).is h x.1 x.2.1:=by
  intro l m q
  induction q with
  | nil=>simp_all
  | @cons p q E C F t s=>
   intro x b
   rcases Wa5.mp b with e|b
   . exact Zb g (by simp_all)
   . exact s x b
 exact c r x b
theorem zi3(b:HOk P w H h)(e:H a=some (.dT kvs)):kvs.length<=sizeLine/\(a==sysModules)=false/\
 ∃ xs,KT H kvs xs/\h.DictOfH (tupleKind (jf P w)) a xs:=JT b (.inl e)
def DGet(H:Hp)(a:Addr)(y:V)(r:Option V):Prop:=
 (∃ kvs k,Rd H a (.dK kvs)/\y=kV k/\r=valV kvs k)\/∃ kvs k b,Rd H a (.dT kvs)/\y=.ref b/\H b=some (.tup (k.map kV))/\r=valV kvs k
def DPut(H:Hp)(a:Addr)(y v:V)(H':Hp):Prop:=
 (∃ kvs k,H a=some (.dK kvs)/\y=kV k/\kvs.length<sizeLine/\H'=upd H a (.dK (putK kvs k v)))\/
 ∃ kvs k b,H a=some (.dT kvs)/\y=.ref b/\H b=some (.tup (k.map kV))/\kvs.length<sizeLine/\H'=upd H a (.dT (putK kvs k v))
theorem DGet.k{kvs:List (Key×V)}{k:Key}(e:H a=some (.dK kvs)):DGet H a (kV k) (valV kvs k):=.inl ⟨kvs,k,.inl e,rfl,rfl⟩
theorem DPut.k{kvs:List (Key×V)}{k:Key}{v:V}(e:H a=some (.dK kvs))(b:kvs.length<sizeLine):DPut H a (kV k) v (upd H a (.dK (putK kvs k v))):=.inl ⟨kvs,k,e,rfl,b,rfl⟩
theorem DPut.t{b:Addr}{k:List Key}{v:V}(e:H a=some (.dT kvs))(c:H b=some (.tup (k.map kV)))(g:kvs.length<sizeLine) :
 DPut H a (.ref b) v (upd H a (.dT (putK kvs k v))):=.inr ⟨kvs,k,b,e,rfl,c,g,rfl⟩
section
variable{y v:V}{r:Value}
theorem Inv.big(I:Inv X pins σ H s):sysModules<s.heap.objs.size:=by
 have h:=(I.mod.glob.keeps I.bk).lt;exact Nat.lt_trans #[1] h
theorem zjm(B:A.units+1<cLine)(I:Inv X pins σ H s)(g:DGet H a y (some v))(r:RelV y u)(h:∀ w' s',Inv X pins σ H s'->RelV v w'->Q w' s') :
 wpAny (model X.prog X.w) A (getItem (.ref a) u) Q E s:=by
 rcases g with ⟨q,k,e,j,l⟩|⟨q,k,b,e,j,C,l⟩
 . subst j
   obtain⟨z,F,G,c,m⟩:=J6 I.hok e;obtain⟨w',n,i⟩:=RelO.some_of (by rw [l];exact c.val k)
   exact wpAny_getItem_of (Zn r) m.mapOf n (h w' _ (I.tok _) i)
 . subst j
   cases(r)
   obtain⟨z,F,J,c,m⟩:=JT I.hok e;obtain⟨w',n,i⟩:=RelO.some_of (by rw [l];exact c.val k)
   obtain⟨p,w,o⟩:=Option.map_eq_some_iff.mp n;refine wpAny_getItem_heap (tupleKind_room_in1 B) (Zb I.hok C) m w ?_;rw [o];exact h w' _ (I.tok _) i
theorem d_in(r:A.units+1<cLine)(I:Inv X pins σ H s)(g:DGet H a y o)(p:RelV y u)(h:∀ s',Inv X pins σ H s'->Q (.bool o.isSome) s') :
 wpAny (model X.prog X.w) A (compareOp .In u (.ref a)) Q E s:=by
 rcases g with ⟨n,k,e,i,l⟩|⟨n,k,b,e,i,v,l⟩
 . subst i
   obtain⟨z,m,w,c,j⟩:=J6 I.hok e;refine wpAny_in_of (Zn p) m j.mapOf ?_;rw [<-(c.val k).isSome_eq,<-l];exact h _ (I.tok _)
 . subst i
   cases(p)
   obtain⟨z,m,B,c,j⟩:=JT I.hok e;refine wpAny_in_heap (tupleKind_room_in1 r) (Zb I.hok v) m j ?_;have q:=(c.val k).isSome_eq;rw [WaB] at q;rw [<-q,<-l];exact h _ (I.tok _)
theorem zks(r:A.units+1<cLine)(I:Inv X pins σ H s)(g:DGet H a y o)(p:RelV y u)(h:∀ s',Inv X pins σ H s'->Q (.bool (!o.isSome)) s') :
 wpAny (model X.prog X.w) A (compareOp .NotIn u (.ref a)) Q E s:=by
 rcases g with ⟨n,k,e,i,l⟩|⟨n,k,b,e,i,v,l⟩
 . subst i
   obtain⟨z,m,w,c,j⟩:=J6 I.hok e;refine wpAny_notIn_of (Zn p) m j.mapOf ?_;rw [<-(c.val k).isSome_eq,<-l];exact h _ (I.tok _)
 . subst i
   cases(p)
   obtain⟨z,m,B,c,j⟩:=JT I.hok e;refine wpAny_notIn_heap (tupleKind_room_in1 r) (Zb I.hok v) m j ?_;have q:=(c.val k).isSome_eq;rw [WaB] at q;rw [<-q,<-l];exact h _ (I.tok _)
theorem zgt(I:Inv X pins σ H s)(h:Mut (H a))(g:Heap.SameBut a s.heap h')(e:∃ q,h'.get? a=some q)(c:zV X.prog X.w (upd H a ob) h' a ob) :
 Inv X pins σ (upd H a ob) { s with heap:=h',toks:=t' }:=
 I.write h (.inl rfl) (fun b q i z=>(g.2 b i).trans z) e c
theorem zky{kvs:List (Key×V)}{vs:List (Key×Value)}(z:kvs.length<=sizeLine)(c:(a==sysModules)=false)(b:KV kvs vs)(dd:h'.DictOf (jf P w) a vs) :
 zV P w H' h' a (.dK kvs):=⟨z,c,vs,b,dd⟩
theorem ziJ{Q:Unit->Shared->Prop}(P:A.units+1<cLine)(I:Inv X pins σ H s)(g:DPut H a y v H')(ry:RelV y u)(rv:RelV v r)(h:∀ s',Inv X pins σ H' s'->Q () s') :
 wpAny (model X.prog X.w) A (setItem (.ref a) u r) Q E s:=by
 rcases g with ⟨j,k,e,p,l,G⟩|⟨j,k,b,e,p,M,l,G⟩
 . subst p G
   obtain⟨z,F,R,i,C⟩:=zlF I.hok e;have hz:R.length<=sizeLine:=by rw [<-i.length];exact z
   have hl:(putK j k v).length<=sizeLine:=by have:=zeC j k v;lia
   refine wpAny_setItem_pairs (Zn ry) C fun L m w=>h _ ?_
   have O:∃ q,L.get? a=some q:=let ⟨q,_,_,o,_⟩:=m;⟨q,o⟩;exact zgt I (by rw [e];exact True.intro) w O (zky hl F (i.put k rv) m)
 . subst p G
   cases(ry)
   obtain⟨z,F,Z,i,C⟩:=zi3 I.hok e;have hz:Z.length<=sizeLine:=by rw [<-Wa4 i];exact z
   have hl:(putK j k v).length<=sizeLine:=by have:=zeC j k v;lia
   refine wpAny_setItem_heap (tupleKind_room_in1 P) (Zb I.hok M) C fun L m w=>h _ ?_
   obtain⟨q,es,ep,o,h2,T,U,_,W⟩:=m;refine zgt I (by rw [e];exact True.intro) w ⟨q,o⟩ ⟨hl,F,_,(i.put k M rv).keeps fun c ys K=>?_,q,es,ep,o,h2,T,U,W⟩
   rw [zc (zmH K e (fun z=>nomatch z))]
   exact K
end
section
variable{kvs:List (Key×V)}{k:Key}
end
def NoSl(i:Expr):Prop:=∀ ov iv,subscripted i false ov iv=operate [ov,iv] (getItem ov iv)
theorem ziO{T id:String}
 (m:typeLookup (.type T) "__getitem__" = pure (some (.builtin id))) (l:NoSl slice)
 (h:wpAny (model prog w) A (eval value env) (fun o s₁=>wpAny (model prog w) A (eval slice env) (fun i s₂=>s₂.TypeIs o T/\wpAny (model prog w) A (getItem o i) Q E s₂) E s₁) E s) :
 wpAny (model prog w) A (eval (.Subscript value slice pos) env) Q E s:=by
 refine Subscript_ (wpAny_mono h (fun o s₁ c=>wpAny_mono c (fun i s₂ a=>?_) fun _ _ x=>x) fun _ _ x=>x)
 obtain⟨j,a⟩:=a;refine wpAny_bind ?_;refine wpAny_bind (wpAny_specialOf j m ?_);have g:wpAny (model prog w) A (subscripted slice false o i) (fun r b=>wpAny (model prog w) A (letTemporaryGo value o r >>= fun _=>pure r) Q E b) E s₂:=by
  rw [l o i];exact wpAny_operating (wpAny_mono a (fun r b e=>wpAny_bind (wpAny_letTemporaryGo (wpAny_pure e))) fun _ _ x=>x)
 first
  | exact wpAny_pure (wpAny_bind g)
  | grind
  | grind
theorem zir{y:V}(I:Inv X pins σ H s)(g:DGet H a y o):s.TypeIs (.ref a) "dict":=by
 rcases g with ⟨h,k,e,_,_⟩|⟨h,k,b,e,_,_,_⟩
 . obtain⟨_,_,i,_,c⟩:=J6 I.hok e
   exact c.typeIs
 . obtain⟨_,_,j,_,c⟩:=JT I.hok e
   exact c.typeIs
def zkG(td ty:TE):TE:=fun σ H Q=>td σ H fun x H1=>ty σ H1 fun y H2=>∃ a v,x=.ref a/\DGet H2 a y (some v)/\Q v H2
def tDIn(ty td:TE):TE:=fun σ H Q=>ty σ H fun y H1=>td σ H1 fun x H2=>∃ a o,x=.ref a/\DGet H2 a y o/\Q (.bl o.isSome) H2
def zhk(ty td:TE):TE:=fun σ H Q=>ty σ H fun y H1=>td σ H1 fun x H2=>∃ a o,x=.ref a/\DGet H2 a y o/\Q (.bl (!o.isSome)) H2
def zdF(td ty tv:TE):TS:=fun D σ H=>tv σ H fun v H1=>td σ H1 fun x H2=>ty σ H2 fun y H3=>∃ a H4,x=.ref a/\DPut H3 a y v H4/\D.nx σ H4
section
variable{o i value:Expr}{td ty tv:TE}
theorem jX(q:X.A.units+1<cLine)(n:PE X o td)(p:PE X i ty)(A:NoSl i):PE X (.Subscript o i pos) (zkG td ty):=by
 intro e s σ H Q I h;refine ziO PySem.F.slot_dict_getitem.lookup A (thn (n _ s σ H _ I h) fun u r ⟨x,m,j,C,E⟩=>thn (p _ r σ m _ j E) fun K G ⟨y,B,c,z,a,v,l,g,w⟩=>?_)
 subst l;obtain rfl:u=Value.ref a:=C;exact⟨zir c g,zjm q c g z fun L J F b=>⟨v,B,F,b,w⟩⟩
theorem zlj(n:X.A.units+1<cLine)(m:PE X i ty)(l:PE X o td):PC X .In i o (tDIn ty td):=by
 intro b s σ H Q I h;refine thn (m _ s σ H _ I h) fun E p ⟨y,j,c,A,z⟩=>thn (l _ p σ j _ c z) fun u F ⟨x,r,w,v,a,C,e,g,q⟩=>?_
 subst e;obtain rfl:u=Value.ref a:=v;exact d_in n w g A fun G B=>⟨.bl _,r,B,rfl,q⟩
theorem zbN(n:X.A.units+1<cLine)(m:PE X i ty)(l:PE X o td):PC X .NotIn i o (zhk ty td):=by
 intro b s σ H Q I h;refine thn (m _ s σ H _ I h) fun E p ⟨y,j,c,A,z⟩=>thn (l _ p σ j _ c z) fun u F ⟨x,r,w,v,a,C,e,g,q⟩=>?_
 subst e;obtain rfl:u=Value.ref a:=v;exact zks n w g A fun G B=>⟨.bl _,r,B,rfl,q⟩
theorem Jv(z:X.A.units+1<cLine)(q:PE X o td)(w:PE X i ty)(e:PE X value tv)(F:swapsWith value (some (.Subscript o i pos')) pos.line X.env=pure false) :
 PS X (.Assign [.Subscript o i pos'] value pos) (zdF td ty tv):=by
 intro b s σ H D I h;refine wpAny_Assign_Subscript (thn (e _ s σ H _ I h) fun r A ⟨v,p,c,l,L⟩=>thn (q _ A σ p _ c L) fun u n ⟨x,G,K,J,B⟩=>thn (w _ n σ G _ K B) fun P O ⟨y,Q,M,C,a,N,j,g,m⟩=>?_) F
 subst j;obtain rfl:u=Value.ref a:=J;exact ziJ z M g C l fun R E=>⟨σ,N,E,m⟩
end
theorem zkI(h:Heap)(a:sysModules<h.objs.size):zV P w H (h.push { cls:=.type "dict", data:=.dict #[] }) h.objs.size (.dK []):=
 ⟨Wbm _,beq_eq_false_iff_ne.mpr (Wbp (Yaf a)),[],.nil,Heap.DictOf.new h⟩
theorem zmt(h:Heap)(a:sysModules<h.objs.size):zV P w H (h.push { cls:=.type "dict", data:=.dict #[] }) h.objs.size (.dT []):=
 ⟨Wbm _,beq_eq_false_iff_ne.mpr (Wbp (Yaf a)),[],.nil,_,#[],0,Yan _ rfl,⟨rfl,rfl,rfl⟩,rfl,rfl,Wa2⟩
def tDNewK:TE:=fun _ H Q=>∀ p,H p=none->Q (.ref p) (upd H p (.dK []))
def tDNewT:TE:=fun _ H Q=>∀ p,H p=none->Q (.ref p) (upd H p (.dT []))
theorem JP:PE X (.Dict [] [] pos) tDNewK:=fun a s σ H Q I h=>
 wpAny_Dict_empty ⟨.ref _,_,I.laid (fun _ _ q=>YaW _ q) (YaY _) (zkI _ I.big),rfl,h _ (I.hok.fresh (YaY _))⟩
theorem zjF:PE X (.Dict [] [] pos) tDNewT:=fun a s σ H Q I h=>
 wpAny_Dict_empty ⟨.ref _,_,I.laid (fun _ _ q=>YaW _ q) (YaY _) (zmt _ I.big),rfl,h _ (I.hok.fresh (YaY _))⟩
end L2
namespace L3
open PySem PySem.Spec PyProof.Rows L2
variable[LamW]
noncomputable def getT(ds:List (List Key×D))(k:List Key):Option D:=(ds.find? fun kv=>decide (kv.1=k)).map (·.2)
noncomputable def putT(ds:List (List Key×D))(k:List Key)(d:D):List (List Key×D):=
 if(ds.any fun kv=>decide (kv.1=k))=true then ds.map (fun kv=>if kv.1=k then(kv.1,d) else kv) else ds++[(k,d)]
theorem Jt:getT ((k,d)::ds) k=some d:=by simp [getT]
theorem Je(e:¬k'=k):getT ((k',d)::ds) k=getT ds k:=by simp [getT,e]
section
variable{ρ: Env3}
theorem Dr.some(r:Dr K H0 G kvs ds)(k):(valV kvs k).isSome=(getT ds k).isSome:=by
 induction r with
 | nil=>rfl
 | cons a b h=>
  rename_i i l j c g
  by_cases e:i=k
  . subst e;rw [zaV rfl,Jt];rfl
  . rw [za8 e,Je e];exact h
theorem Dr.any(r:Dr K H0 G kvs ds)(k):(kvs.any fun kv=>decide (kv.1=k))=ds.any fun kv=>decide (kv.1=k):=by
 induction r with
 | nil=>rfl
 | cons a b c=>simp_all
theorem Dr.snoc(r:Dr K H0 G kvs ds){v:V}(a:Rf K H0 G true v d):Dr K H0 G (kvs++[(k,v)]) (ds++[(k,d)]):=by
 induction r with
 | nil=>exact .cons a .nil
 | cons a b c=>exact .cons a c
theorem Dr.repl(r:Dr K H0 G kvs ds){v:V}(a:Rf K H0 G true v d):Dr K H0 G (kvs.map fun kv=>if kv.1=k then(kv.1,v) else kv) (ds.map fun kv=>if kv.1=k then(kv.1,d) else kv):=by
 induction r with
 | nil=>exact .nil
 | cons b c g=>
  rename_i j m l h i;rw [Ya1,Ya1]
  by_cases e:j=k
  . rw [if_pos e,if_pos e];exact .cons a g
  . rw [if_neg e,if_neg e];exact .cons b g
theorem Dr.put(r:Dr K H0 G kvs ds){v:V}(a:Rf K H0 G true v d):Dr K H0 G (putK kvs k v) (putT ds k d):=by
 unfold putK putT;rw [r.any]
 split
 . exact r.repl a
 . exact r.snoc a
theorem Dr.length(r:Dr K H0 G kvs ds):kvs.length=ds.length:=by
 induction r with
 | nil=>rfl
 | cons a b c=>simp_all
theorem zdI(F:Fr3 K H0 G0 ρ σ G H){i:Nat}{ds:List (List Key×D)}(h:ρ[i]?=.some (.some (.dt ds))):∃ l kvs,σ[i]?=.some (.some (.ref l))/\H l=.some (.dT kvs)/\Dr K H0 G kvs ds/\G l=none:=by
 obtain⟨v,g,e⟩:=F.slot i _ h;cases e with
 | dt a b c=>exact⟨_,_,g,a,b,c⟩
end
section
variable{a b:Expr}{x:Str}
def ZZ(i:Nat):TS3:=fun A ρ=>A.nx (ρ.set i (some (.dt [])))
theorem zkQ{pos' p:Pos}(l:X.N.Nodup)(e:X.N[i]?=some x)(g:Loc X.env.scope x)(j:swapsWith (.Dict [] [] p) (some (.Name x pos')) pos.line X.env=pure false:=by rfl)
 (c:X.fn x=true\/X.env.scope.names.lookup x=some .local:=by first|exact .inl rfl|exact .inr rfl|assumption):PS3 X H0 (.Assign [.Name x pos'] (.Dict [] [] p) pos) (ZZ i):=PS.imp (jj l e g zjF j c) fun B σ H=>el7 fun m A ρ G F q L=>
 fun p b=>L.nx _ _ G _ (F.put (zG b _).x (.dt zf .nil (F.sub.free b)) fun a h=>by cases h;exact b) q
noncomputable abbrev kk(a b:Int):List Key:=[.inl a,.inl b]
def zaO(i:Nat)(ta tb te:TE3):TS3:=fun A ρ=>∃ ds,ρ[i]?=some (some (.dt ds))/\te ρ fun c=>ta ρ fun ka=>tb ρ fun kb=>∃ d m n,c=.sh true d/\ka=.sh true (.int m)/\kb=.sh true (.int n)/\ds.length<sizeLine/\A.nx (ρ.set i (some (.dt (putT ds (kk m n) d))))
theorem zlY{ta tb te:TE3}{np tp spos:Pos}{k1}(hu:X.A.units+1<cLine)(hN:X.N[i]?=some x)(hv:Vis X.env.scope x)(ha:PE3 X H0 a ta)(hb:PE3 X H0 b tb)(he:PE3 X H0 e te)(hd:(x==("__debug__" : Str))=false:=by decide)(hcd:(x==("__classdict__" : Str))=false:=by decide)
 (hs1:starEach [a,b] X.env=(false,eval a X.env)::starEach [b] X.env:=by rfl) (hs2:starEach [b] X.env=(false,eval b X.env)::starEach [] X.env:=by rfl)
 (hs:swapsWith e (some (.Subscript (.Name x np) (.Tuple [a,b] k1 tp) spos)) pos.line X.env=pure false:=by rfl):PS3 X H0 (.Assign [.Subscript (.Name x np) (.Tuple [a,b] k1 tp) spos] e pos) (zaO i ta tb te):=by
 refine PS.imp (Jv hu (jx hN hv hd hcd) (zbY (zn ha.ok (zn hb.ok zK hs2) hs1)) he.ok hs) fun B σ H hyp=>?_
 obtain⟨G0,A,ρ,G,F,⟨ds,hi,q⟩,L⟩:=hyp;refine⟨G0,ρ,G,F,he.mono ρ _ _ (fun c q1 v G1 H1 g1 w1=>?_) q⟩
 have F1:=F.gr g1;obtain⟨l,kvs,hl,_,_,_⟩:=zdI F1 hi;refine⟨.ref l,hl,G0,ρ,G1,F1,ha.mono ρ _ _ (fun ka q2 v2 G2 H2 g2 w2=>?_) q1⟩
 refine⟨G0,ρ,G2,F1.gr g2,hb.mono ρ _ _ (fun kb q3 v3 G3 H3 g3 w3=>?_) q2⟩
 obtain⟨d,m,n,e1,e2,e3,e4,q4⟩:=q3;subst e1 e2 e3;cases zy (zo w2).rd;cases zy (zo w3).rd;refine⟨show 2<=sizeLine by decide,fun p hp=>?_⟩
 have F3:=((F1.gr g2).gr g3).gr (Gr.apart (o:=.tup [.int m,.int n]) g3.sub hp);obtain⟨l',kvs',hl',k2,k3,k4⟩:=zdI F3 hi;rw [hl] at hl';cases hl';have rv:=(zo w1).same (g2.g.trans g3.g);exact⟨l,_,rfl,DPut.t k2 zf (by rw [k3.length];exact e4),L.nx _ _ _ _ (F3.chg (c':=.dt (putT ds _ d)) hi hl rfl (fun _ h=>h) (.dt zf (k3.put rv) k4)) q4⟩
end
end L3
namespace PySem
open Sem (wp)
open AutoSeq1 (wpAny_loadPart')
end PySem
namespace L2
open PySem PySem.Spec PyProof.Rows
end L2
namespace L3
open PySem PySem.Spec PyProof.Rows L2
variable[LamW]
section
variable{p:Pos}
end
variable[LamW]
section
variable{ρ: Env3}
end
end L3
namespace L2
open PySem PySem.Spec PyProof.Rows
end L2
namespace L3
open PySem PySem.Spec PyProof.Rows L2
variable[LamW]
section
variable{a b:Expr}
end
end L3
namespace L2
open PySem PySem.Spec PyProof.Rows
theorem zjf:zO X (.type "int") (fun xs H Q=>∃ b:Bool,xs=[.bl b]/\Q (.int (if b then 1 else 0)) H):=by
 intro a s σ H xs e Q I r h;obtain⟨b,rfl,q⟩:=h;obtain⟨u,rfl,c⟩:=Jj r;cases c;exact call_int_bool ⟨.int _,H,I.tok _,⟨_,rfl⟩,q⟩
end L2
namespace L3
open PySem PySem.Spec PyProof.Rows L2
variable[LamW]
def intB3:C3:=fun cs Q=>match cs with
 | [.sh _ (.bool b)]=>Q true (.int (if b then 1 else 0))
 | _=>False
theorem zkd:CallOk X (.type "int") intB3:=by
 refine⟨fun b Q e h q=>?_,fun c=>zO.imp zjf fun g H Q=>el2 fun G b s w q=>?_⟩
 . unfold intB3 at *;split at q
   . exact h _ _ q
   . exact q
 . unfold intB3 at q;split at q
   . obtain⟨v,rfl,a⟩:=vws1 w
     have r:=(zo a).rd;cases r;exact⟨_,rfl,q _ G H (Gr.refl s) (.sc rfl (.int _))⟩
   simp_all
end L3
namespace L2
open PySem PySem.Spec PyProof.Rows
theorem zeN{α β : Type}{F:α->β->Prop}:∀ {l:List α} {m:List β},Paired F l m->∀ {j:Nat} {a:α} {b:β},l[j]?=some a->m[j]?=some b->F a b
 | _,_,.nil,_,_,_,h,_=>by simp at h
 | _, _, .cons x r, 0, _, _, h, h' => by
  simp_all
 | _,_,.cons x r,j+1,_,_,h,h'=>zeN r h h'
theorem zjr(h:PS X st t):PS X st (fun B σ H=>∃ l kvs,H l=some (.dT kvs)/\∀ (o:Obj) (es:Array DictEntry) (ep:Nat) (as:List Addr),o.ExactDict->o.data=.dict es ep->es.toList.map (·.key)=as.map Value.ref->as.length=kvs.length->(∀ (j:Nat) (a:Addr) (k:List Key) (v:V),as[j]?=some a->kvs[j]?=some (k,v)->H a=some (.tup (k.map kV)))->t B σ (upd H l (.frz o (.dT kvs)))):=by
 intro pins s σ H B I hyp;obtain⟨l,kvs,hl,q⟩:=hyp;obtain⟨hz,hs,xs,hp,o,es,ep,ho,hx,he,hes,hnd⟩:=(I.hok l _ hl);have hlen:=Wa4 hp;have hat:∀ (j:Nat) (a:Addr) (k:List Key) (v:V),(xs.map (·.2.1))[j]?=some a->kvs[j]?=some (k,v)->H a=some (.tup (k.map kV)):=fun j a k v ha hk=>by
  rw [Ya0] at ha;cases e:xs[j]? with
  | none=>simp_all
  | some y=>
   rw [e] at ha;cases ha;exact(zeN hp hk e).2.1
 have I':Inv X pins σ (upd H l (.frz o (.dT kvs))) s:=by
  refine I.write (by rw [hl];exact True.intro) (.inl rfl) (fun _ _ _ e=>e) ⟨o,ho⟩ ⟨ho,hz,hs,xs,Paired.mapP hp fun p y zz0=>by obtain⟨h1,h2,h3⟩:=zz0;exact⟨h1,(zc (fun z=>by rw [z,hl] at h2;cases h2)).trans h2,h3⟩,o,es,ep,ho,hx,he,hes,hnd⟩
 refine h _ s σ _ B I' (q o es ep _ hx he ?_ (by rw [YaR];exact hlen.symm) hat)
 rw [hes,YaD,YaD]
 rfl
structure M1(X:Cx)(o:Expr)(m:Str)(apos:Pos)(e:Expr)(cpos:Pos):Prop where
 base:attributeBase o m X.env (eval o X.env)=eval o X.env
 few:((backTo cpos (starEach [e] X.env)).all (fun x=>!x.1)&&(backToKw cpos (keywordEach [] X.env)).all (fun x=>x.1.isSome)
  && decide (([e]:List Expr).length+([]:List Keyword).length+(if([]:List Keyword).isEmpty then 0 else 1)<30))=true
 line:(apos.endLine==cpos.line)=true
 trees:backTo cpos (starEach [e] X.env)=[(false,eval e X.env)]
def IsD(H:Hp)(a:Addr):Prop:=(∃ kvs,Rd H a (.dK kvs))\/∃ kvs,Rd H a (.dT kvs)
theorem zjc(I:Inv X pins σ H s)(d:IsD H a) :
 s.TypeIs (.ref a) "dict"/\(∀ b,Value.ref a=.ref b->∃ ob,s.heap.get? b=some ob/\ob.dict=none)/\(a==sysModules)=false:=by
 rcases d with ⟨j,e⟩|⟨j,e⟩
 . obtain⟨_,i,l,_,c⟩:=J6 I.hok e
   refine⟨c.typeIs,fun b q=>?_,i⟩
   cases q;obtain⟨ob,_,_,g,h,_⟩:=c
   exact⟨ob,g,h.2.1⟩
 . obtain⟨_,i,m,_,c⟩:=JT I.hok e
   refine⟨c.typeIs,fun b q=>?_,i⟩
   cases q;obtain⟨ob,_,_,g,h,_⟩:=c
   exact⟨ob,g,h.2.1⟩
section
variable{y d:V}{r:Value}
theorem zjt(q:A.units+1<cLine)(I:Inv X pins σ H s)(g:DGet H a y o)(p:RelV y u)(h:∀ w' s',Inv X pins σ H s'->RelV (o.getD .non) w'->Q w' s') :
 wpAny (model X.prog X.w) A (call (.builtin "dict.get") [.ref a,u]) Q E s:=by
 rcases g with ⟨n,k,e,j,l⟩|⟨n,k,b,e,j,v,l⟩
 . subst j
   obtain⟨z,m,w,c,i⟩:=J6 I.hok e;refine call_meetsIn PySem.F.slot_dict_get i.typeIs PySem.F.entry_dict_get (PySem.F.args_dict_get_2 _ _) (meets_dict_get _ a (Zn p) m) ⟨_,i.mapOf,h _ _ (I.tok _) ?_⟩;rw [l];exact(c.val k).getD rfl
 . subst j
   cases(p)
   obtain⟨z,m,r,c,i⟩:=JT I.hok e;refine call_meetsIn PySem.F.slot_dict_get i.typeIs PySem.F.entry_dict_get (PySem.F.args_dict_get_2 _ _) (meetsH_dict_get _ a b m) ⟨tupleKind_room_in1 q,k,r,Zb I.hok v,i,h _ _ (I.tok _) ?_⟩;rw [l];exact(c.val k).getD rfl
end
def zhy(td ty:TE):TE:=fun σ H Q=>td σ H fun x H1=>∃ a,x=.ref a/\IsD H1 a/\ty σ H1 fun y H2=>∃ o,DGet H2 a y o/\Q (o.getD .non) H2
section
variable{o f:Expr}{td ty tx:TE}
theorem zgS(r:X.A.units+1<cLine)(p:PE X o td)(l:PE X e ty)(m:M1 X o "get" apos e cpos):PE X (.Call (.Attribute o "get" apos) [e] [] cpos) (zhy td ty):=by
 intro i s σ H Q I h;refine wpAny_Call_method m.base m.few m.line PySem.F.plainAttrs_dict PySem.F.slot_dict_get PySem.F.type_dict_get (thn (p _ s σ H _ I h) fun u v ⟨x,n,c,E,a,j,d,F⟩=>?_)
 subst j;obtain rfl:u=Value.ref a:=E;obtain⟨q,A,_⟩:=zjc c d;refine⟨q,A,?_⟩;rw [m.trees];refine Calls.callWith_builtin rfl (Calls.evalArgs_plain (Calls.spliced_cons (thn (l _ v σ n _ c F) fun M J ⟨y,B,C,z,L,g,w⟩=>Calls.spliced_nil ?_)))
 exact zjt r C g z fun N K G b=>⟨_,B,G,b,w⟩
end
end L2
namespace L3
open PySem PySem.Spec PyProof.Rows L2
variable[LamW]
section
variable{ρ: Env3}
theorem Fr3.frzD(F:Fr3 K H0 G0 ρ σ G H){i:Nat}{ds:List (List Key×D)}{l:Addr}{kvs:List (List Key×V)}(S:ρ[i]?=some (some (.dt ds)))(L:σ[i]?=some (some (.ref l)))(Q:H l=some (.dT kvs))(r:Dr K H0 G kvs ds)(hG:G l=none){o:Obj}{es:Array DictEntry}{ep:Nat}{as:List Addr}(hx:o.ExactDict)(he:o.data=.dict es ep)(ha:es.toList.map (·.key)=as.map Value.ref)(hn:as.length=kvs.length)
 (R:∀ (j:Nat) (a:Addr) (k:List Key) (v:V),as[j]?=some a->kvs[j]?=some (k,v)->H a=some (.tup (k.map kV))):∃ G',Same G G'/\Fr3 K H0 G0 (ρ.set i (some (.fd ds))) σ G' (upd H l (.frz o (.dT kvs))):=by
 have g:∀ a∈as,∃ p,H a=some (.tup p):=fun a h=>by
  obtain⟨j,hj,e⟩:=Yam h;have P:j<kvs.length:=#[94]
  exact⟨_,R j a kvs[j].1 kvs[j].2 (by rw [YaQ hj,e]) (YaQ P)⟩
 have M:l∉as:=fun h=>by
  obtain⟨p,e⟩:=g l h;rw [Q] at e;cases e
 have Y:H0 l=none:=F.mine i _ _ l S L rfl;have J:(fun b=>if b=l then some (.frz o (.dT kvs)) else if b∈as then H b else G b:Hp) l=some (.frz o (.dT kvs)):=if_pos rfl
 have w:∀ b,b≠l->b∈as->(fun b=>if b=l then some (.frz o (.dT kvs)) else if b∈as then H b else G b:Hp) b=H b:=fun b n m=>by simp only [if_neg n,if_pos m]
 have s:∀ b,b≠l->b∉as->(fun b=>if b=l then some (.frz o (.dT kvs)) else if b∈as then H b else G b:Hp) b=G b:=fun b n m=>by simp only [if_neg n,if_neg m]
 generalize (fun b=>if b=l then some (.frz o (.dT kvs)) else if b∈as then H b else G b:Hp)=G' at J w s
 have I:Same G G':=fun b u e=>by
  have c:b≠l:=(fun z=>by rw [z,hG] at e;cases e)
  by_cases m:b∈as
  . rw [w b c m];exact F.sub.s b u e
  . rw [s b c m];exact e
 refine⟨G',I,F.keep.chg Y Q (fun f z=>by cases z),⟨fun b u e=>?_,fun b f e=>?_⟩,fun b u e=>?_,F.g0.trans I,fun j A e=>?_,fun j A O a e e' h=>?_,fun j k Z A v1 O a q1 q2 q3 q4 E B=>?_,by rw [YaN];exact F.len⟩
 . by_cases c:b=l
   . subst c;rw [J] at e;rw [zf];exact e
   . rw [zc c]
     by_cases m:b∈as
     . rw [w b c m] at e;exact e
     . rw [s b c m] at e;exact F.sub.s b u e
 . by_cases c:b=l
   . subst c;rw [J] at e;cases e
   . by_cases m:b∈as
     . obtain⟨p,z⟩:=g b m
       rw [w b c m,z] at e;cases e
     . rw [s b c m] at e;exact F.sub.cl b f e
 . by_cases c:b=l
   . subst c;exact .inr (.inl Y)
   . by_cases m:b∈as
     . obtain⟨p,z⟩:=g b m
       rw [w b c m,z] at e;exact .inr (.inr ⟨p,(WaU e).symm⟩)
     . rw [s b c m] at e;exact F.old b u e
 . rcases zJ e with ⟨rfl,q,_⟩|⟨n,q⟩
   . cases q
     refine⟨_,L,.fd J (r.same I) ⟨es,ep,as,hx,he,ha,hn,fun j a k v W z2=>?_⟩⟩
     have T:a∈as:=Yah W;rw [w a (fun z=>M (z ▸ T)) T]
     exact R j a k v W z2
   . obtain⟨X,E,B⟩:=F.slot j A q
     refine⟨X,E,B.turn I (fun a C z=>?_) fun a U=>?_⟩
     . rw [zc (fun y=>by rw [y,Q] at z;cases z)];exact z
     . have c:a≠l:=fun z=>n (F.apart i j _ A _ X a S q L E (by rw [z];rfl) U)
       refine⟨zc c,s a c fun m=>?_⟩
       obtain⟨p,z⟩:=g a m;exact B.ntup U p z
 . rcases zJ e with ⟨rfl,q,_⟩|⟨n,q⟩
   . cases q;exact False.elim h
   . exact F.mine j A O a q e' h
 . rcases zJ q1 with ⟨rfl,q,_⟩|⟨n,q⟩
   . cases q;exact False.elim E
   . rcases zJ q2 with ⟨rfl,N,_⟩|⟨n',N⟩
     . cases N;exact False.elim B
     . exact F.apart j k Z A v1 O a q N q3 q4 E B
theorem zmR(F:Fr3 K H0 G0 ρ σ G H){i:Nat}{ds:List (List Key×D)}(h:ρ[i]?=some (some (.fd ds))):∃ l o kvs,σ[i]?=some (some (.ref l))/\G l=some (.frz o (.dT kvs))/\Dr K H0 G kvs ds/\KAt G o kvs:=by
 obtain⟨v,g,e⟩:=F.slot i _ h;cases e with
 | fd a b c=>exact⟨_,_,_,g,a,b,c⟩
end
section
variable{x:Str}
def frzD(i:Nat)(t:TS3):TS3:=fun A ρ=>∃ ds,ρ[i]?=some (some (.dt ds))/\t A (ρ.set i (some (.fd ds)))
theorem zlv(i:Nat){t:TS3}(h:PS3 X H0 st t):PS3 X H0 st (frzD i t):=PS.imp (zjr h) fun B σ H a=>by
 obtain⟨m,A,ρ,G,F,⟨J,c,q⟩,L⟩:=a;obtain⟨l,b,g,e,r,w⟩:=zdI F c;refine⟨l,b,e,fun o E C z p n u v j=>?_⟩
 obtain⟨y,I,s⟩:=F.frzD c g e r w p n u v j;exact⟨m,A,_,y,s,q,L⟩
end
section
variable{ρ: Env3}
end
section
variable{x:Str}
end
variable[LamW]
abbrev Tb:=List (Int×Int)
noncomputable def dms:List Cl->List Addr
 | []=>[]
 | .dm a _::r=>a::dms r
 | .sh _ _::r=>dms r
 | .ow _ _::r=>dms r
 | .tr _ _::r=>dms r
 | .dt _::r=>dms r
 | .dk _::r=>dms r
 | .fd _::r=>dms r
 | .tk _::r=>dms r
 | .ex _::r=>dms r
noncomputable def jy:Cl->Bool
 | .sh _ _=>true
 | .dm _ _=>true
 | .fd ds=>ds.all fun p=>zx p.2
 | .ow _ _=>false
 | .tr _ _=>false
 | .dt _=>false
 | .dk _=>false
 | .tk _=>false
 | .ex _=>false
noncomputable def argC:Cl->Cl
 | .sh _ d=>.sh (zx d) d
 | .dm a ds=>.dm a ds
 | .fd ds=>.fd ds
 | .ow f ds=>.ow f ds
 | .tr a b=>.tr a b
 | .dt a=>.dt a
 | .dk a=>.dk a
 | .tk a=>.tk a
 | .ex a=>.ex a
noncomputable def JS:Cl->Bool
 | .sh _ _=>true
 | .dt _=>true
 | .dm _ _=>false
 | .fd _=>false
 | .ow _ _=>false
 | .tr _ _=>false
 | .dk _=>false
 | .tk _=>false
 | .ex _=>false
theorem zf6(a):dms (a.map argC)=dms a:=by
 induction a with
 | nil=>rfl
 | cons c r b=>cases c<;>first|exact b|exact congrArg (List.cons _) b
theorem zcp{ds:Tb}(h:cs[i]?=some (.dm a ds)):a∈dms cs:=by
 induction cs generalizing i with
 | nil=>simp at h
 | cons c r b=>
  cases i with
  | zero=>cases h;exact YaV
  | succ i=>
   have:=b (by simpa using h)
   cases c<;>first|exact this|exact YaT _ this
theorem zhz{ds es:Tb}(b:(dms cs).Nodup)(h:cs[i]?=some (.dm a ds))(h':cs[j]?=some (.dm a es)):i=j:=by
 induction cs generalizing i j with
 | nil=>simp at h
 | cons c r g=>
  cases i with
  | zero=>
   cases h;cases j with
   | zero=>rfl
   | succ j=>exact absurd (zcp (by simpa using h')) (YaB.mp b).1
  | succ i=>
   cases j with
   | zero=>
    cases h';exact absurd (zcp (by simpa using h)) (YaB.mp b).1
   | succ j=>
    have e:(dms r).Nodup:=by cases c<;>first|exact b|exact(YaB.mp b).2
    rw [g e (i:=i) (by simpa using h) (by simpa using h')]
noncomputable def bar(H:Hp)(as:List Addr):Hp:=fun b=>if b∈as then none else H b
theorem jJ{b:Addr}(h:b∈as):bar H as b=none:=if_pos h
theorem z5{b:Addr}(h:b∉as):bar H as b=H b:=if_neg h
theorem ZA(H)(a):Same (bar H a) H:=fun b o e=>by
 by_cases h:b∈a
 . rw [jJ h] at e;cases e
 . rwa [z5 h] at e
theorem zcx{b:Addr}(h:bar H as b=none):b∈as\/H b=none:=by
 by_cases z:b∈as
 . exact .inl z
 . rw [z5 z] at h;exact .inr h
def Bk(G H:Hp):List Addr->List Tb->Prop
 | [],[]=>True
 | a::as,m::ms=>(H a=some (.dK (encM m))/\G a=none)/\Bk G H as ms
 | _,_=>False
abbrev SpC:=List Cl->(Cl->List Tb->Prop)->Prop
def spC(K:Ybf)(sp:SpC):Sp:=fun vs H Q _=>∃ G cs,Sub G H/\Vws K (bar H (dms cs)) G H vs cs/\(dms cs).Nodup/\
 sp cs fun c ms=>∀ v G' H',Gr G (bar H (dms cs)) G' H'->Vw K (bar H (dms cs)) G' H' v c->(∀ a,Has c v a->H a=none)->Bk G' H' (dms cs) ms->JS c=true->Q v H'
structure DfC(P:Program)(w:World)(K:Ybf)(mg:Str->Option Value)(base:Heap)(k:Nat)(x:Str)(ps:List Str)(sp:SpC):Prop where
 mono:∀ cs (Q Q':Cl->List Tb->Prop),(∀ c ms,Q c ms->Q' c ms)->sp cs Q->sp cs Q'
 ok:Df P w K mg base k x ps (spC K sp)
noncomputable def Jk(N:List Str)(cs:List Cl):Env3:=cs.map some++List.replicate (N.length - cs.length) none
def finM:List Nat->List Addr->Env3->(List Tb->Prop)->Prop
 | [],[],_,Q=>Q []
 | j::js,a::as,ρ,Q=>∃ m,ρ[j]?=some (some (.dm a m))/\finM js as ρ fun ms=>Q (m::ms)
 | _,_,_,_=>False
theorem Vws.length(h:Vws K H0 G H vs cs):vs.length=cs.length:=zgJ h
theorem Vws.get(h:Vws K H0 G H vs cs){c:Cl}(e:cs[i]?=some c):∃ v,vs[i]?=some v/\Vw K H0 G H v c:=by
 induction h generalizing i with
 | nil=>simp at e
 | cons a b ih=>
  cases i with
  | zero=>simp_all
  | succ i=>exact ih (by simpa using e)
section
variable{ρ: Env3}
theorem jz(F:Fr3 K H0 G0 ρ σ G H){i:Nat}{a:Addr}{ds:Tb}(h:ρ[i]?=some (some (.dm a ds))):σ[i]?=some (some (.ref a))/\H a=some (.dK (encM ds))/\G a=none:=by
 obtain⟨v,c,b⟩:=F.slot i _ h;cases b with
 | dm x y=>exact⟨c,x,y⟩
theorem zc8(F:Fr3 K H0 G0 ρ σ G H):∀ {js:List Nat} {as:List Addr} {R:List Tb->Prop},finM js as ρ R->(∃ ms,Bk G H as ms/\R ms)/\∀ a∈as,∃ (j:Nat) (m:Tb),ρ[j]?=some (some (Cl.dm a m))
 | [],[],R,h=>⟨⟨[],True.intro,h⟩,fun a z=>by cases z⟩
 | j :: js, a :: as, R, ⟨m, hj, h⟩ => by
  obtain⟨⟨ms,h1,h2⟩,h3⟩:=zc8 F h;refine⟨⟨m::ms,⟨(jz F hj).2,h1⟩,h2⟩,fun b hb=>?_⟩
  rcases Wa5.mp hb with e|hb
  . rw [e];exact⟨j,m,hj⟩
  . exact h3 b hb
 | [],_::_,_,h=>h.elim
 | _::_,[],_,h=>h.elim
end
theorem zki{K:Ybf}{G H:Hp}{N:List Str}{vs:List V}{cs:List Cl}(s:Sub G H)(w:Vws K (bar H (dms cs)) G H vs cs)(J:(dms cs).Nodup)(O:∀ c∈cs,jy c=true):Fr3 K (bar H (dms cs)) G (Jk N cs) (start N vs) G H:=by
 have g:∀ (i:Nat) c,(Jk N cs)[i]?=some (some c)->cs[i]?=some c:=fun i c e=>by
  unfold Jk at e
  by_cases y:i<cs.length
  . rw [Yab (by simpa using y),Ya0] at e
    grind
  . rw [Yae (by simpa using y),Yad] at e
    grind
 have n:∀ (i:Nat) c v a,cs[i]?=some c->Vw K (bar H (dms cs)) G H v c->Has c v a->∃ E,c=.dm a E:=fun i c v a e m h=>by
  have:=O c (Yah e);cases m with
  | dm _ _=>cases h;exact⟨_,rfl⟩
  | sh _=>exact False.elim h
  | fd _ _ _=>exact False.elim h
  | _=>cases this
 have C:=w.length;have l:∀ (i:Nat) c,cs[i]?=some c->∃ v,(start N vs)[i]?=some _/\Vw K _ G H v c:=fun i c e=>by
  obtain⟨v,F,m⟩:=w.get e;refine⟨v,?_,m⟩;unfold L2.start;have y:=(Ya8.mp F).1;rw [Yab (by simpa using y),Ya0,F];rfl
 refine⟨(ZA _ _).x,s,fun b o e=>.inl e,Same.refl _,fun i c e=>l i c (g i c e),fun i c v a e q h=>?_,fun i j c A v I a e q z M h L=>?_,?_⟩
 . obtain⟨I,p,m⟩:=l i c (g i c e)
   rw [q] at p;cases p;obtain⟨E,rfl⟩:=n i c v a (g i c e) m h;exact jJ (zcp (g i _ e))
 . obtain⟨u,p,m⟩:=l i c (g i c e)
   rw [z] at p;cases p;obtain⟨P,r,B⟩:=l j A (g j A q);rw [M] at r;cases r;obtain⟨E,rfl⟩:=n i c v a (g i c e) m h;obtain⟨Q,rfl⟩:=n j A I a (g j A q) B L;exact zhz J (g i _ e) (g j _ q)
 . unfold Jk L2.start;simp [C]
theorem fnC{P:Program}{w:World}{K:Ybf}{mg:Str->Option Value}{base:Heap}{x qual:Str}{st:Stmt}{f:Addr}{fd:FuncData}{N ps:List Str}{k:Nat}{sp:SpC}(M:List Nat)(F:Fun K x qual st f fd)(S:FnScope N ps (zh st))(o:∀ cs Q,sp cs Q->cs.length=ps.length/\∀ c∈cs,jy c=true)
 (i:∀ (cdv:Value) (A:Around) (outer:List Env) (s:Shared) (H H0:Hp) (E:XK) (E3:Addr->Prop),(∀ C H',E3 C->zi H0 H'->E (.ref C) none H')->Room k (A.deeper (envOfC qual (zh st) s.heap.objs.size f cdv))->
  ∃ t,PSs3 (cxOf (CXR P w) P w K mg base N qual (zh st) f cdv A outer s H E) H0 (jO st) t/\∀ cs Q,sp cs Q->t { nx:=fun ρ=>finM M (dms cs) ρ (Q (.sh true .none)),rt:=fun _ _=>False,rm:=fun c ρ=>JS c=true/\finM M (dms cs) ρ (Q c) } (Jk N cs)):FnOk P w K mg base (CXR P w) (k+1) f fd ps (spC K sp):=by
 refine F.okR S (fun I H Q E h=>?_) (fun cdv A outer s H I Q E Y h=>?_)
 . obtain⟨G,cs,_,r,_,h⟩:=h
   rw [r.length];exact(o _ _ h).1
 . obtain⟨G,cs,X,r,T,h⟩:=h
   obtain⟨t,U,L⟩:=i cdv A outer s H _ E (fun _=>False) (fun C H' e _=>e.elim) Y
   refine⟨_,U,G,_,_,G,zki X r T (o _ _ h).2,L cs _ h,⟨fun ρ σ p H' l q=>?_,fun f d v p H' g rd q=>q.elim,fun _ _ _ _ _ q=>q.elim,fun _ _ _ _ _ q=>q.elim,fun c v ρ σ p H' l R Z q=>?_⟩⟩
   . obtain⟨⟨W,b,q⟩,_⟩:=zc8 l q
     exact q .non p H' l.gr0 (.sh (.sc rfl .non)) (fun a z=>False.elim z) b rfl
   . obtain⟨n,q⟩:=q
     obtain⟨⟨W,b,q⟩,J⟩:=zc8 l q;refine q v p H' l.gr0 R (fun a z=>?_) b n
     obtain⟨B,O⟩:=Z a z
     rcases zcx B with y|y
     . obtain⟨j,m,u⟩:=J a y
       exact absurd rfl (O j _ _ u (jz l u).1)
     . exact y
variable[LamW]
def holds(ρ : Env3):List Nat->List Addr->Prop
 | [],[]=>True
 | j::js,a::as=>(∃ m,ρ[j]?=some (some (.dm a m)))/\holds ρ js as
 | _,_=>False
noncomputable def updM:List Nat->List Addr->List Tb->Env3->Env3
 | j::js,a::as,m::ms,ρ=>updM js as ms (ρ.set j (some (.dm a m)))
 | _,_,_,ρ=>ρ
section
variable{ρ: Env3}
theorem ZY{ρ : Env3}:∀ {js:List Nat} {as:List Addr},holds ρ js as->∀ a∈as,∃ (j:Nat) (m:Tb),j∈js/\ρ[j]?=some (some (Cl.dm a m))
 | [],[],_,a,h=>by cases h
 | j :: js, a :: as, ⟨⟨m, hm⟩, h⟩, b, hb => by
  rcases Wa5.mp hb with e|hb
  . rw [e];exact⟨j,m,YaV,hm⟩
  . obtain⟨i,n,h1,h2⟩:=ZY h b hb
    exact⟨i,n,YaT _ h1,h2⟩
 | [],_::_,h,_,_=>h.elim
 | _::_,[],h,_,_=>h.elim
theorem zgh(F:Fr3 K H0 G0 ρ σ G H):∀ {js:List Nat} {as:List Addr},js.Nodup->holds ρ js as->as.Nodup
 | [],[],_,_=>Wa2
 | j :: js, a :: as, nd, ⟨⟨m, hm⟩, h⟩ => by
  obtain⟨n1,n2⟩:=YaB.mp nd;refine YaB.mpr ⟨fun z=>?_,zgh F n2 h⟩
  obtain⟨i,n,h1,h2⟩:=ZY h a z;have e:=F.apart j i _ _ _ _ a hm h2 (jz F hm).1 (jz F h2).1 rfl rfl;exact n1 (e ▸ h1)
 | [],_::_,_,h=>h.elim
 | _::_,[],_,h=>h.elim
theorem zfW{ρ : Env3}{j:Nat}{o:Option Cl}:∀ {js:List Nat} {as:List Addr},j∉js->holds ρ js as->holds (ρ.set j o) js as
 | [],[],_,_=>True.intro
 | i::js,a::as,n,⟨⟨m,hm⟩,h⟩=>⟨⟨m,by simp_all⟩,zfW (fun z=>n (YaT _ z)) h⟩
 | [],_::_,_,h=>h.elim
 | _::_,[],_,h=>h.elim
theorem zeQ:∀ (js:List Nat) (as:List Addr) (ms:List Tb) (ρ : Env3),(updM js as ms ρ).length = ρ.length
 | [],_,_,_=>rfl
 | _::_,[],_,_=>rfl
 | _::_,_::_,[],_=>rfl
 | j::js,a::as,m::ms,ρ=>by show(updM js as ms _).length=_;rw [zeQ,YaN]
theorem zcL{G' H':Hp}:∀ {js:List Nat} {as:List Addr} {ms:List Tb} {ρ : Env3},js.Nodup->holds ρ js as->Bk G' H' as ms->∀ (i:Nat) (c:Cl),(updM js as ms ρ)[i]?=some (some c)->
 (i∉js/\ρ[i]?=some (some c))\/∃ a m m0,c=.dm a m/\a∈as/\ρ[i]?=some (some (.dm a m0))/\H' a=some (.dK (encM m))/\G' a=none
 | [],[],[],ρ,_,_,_,i,c,e=>.inl ⟨by simp,e⟩
 | j :: js, a :: as, m :: ms, ρ, nd, ⟨⟨m0, hm⟩, h⟩, ⟨b0, b⟩, i, c, e => by
  obtain⟨n1,n2⟩:=YaB.mp nd
  rcases zcL n2 (zfW n1 h) b i c e with ⟨h1,h2⟩|⟨a',m',m0',h1,h2,h3,h4⟩
  . rcases zJ h2 with ⟨rfl,q,_⟩|⟨n,q⟩
    . cases q
      exact .inr ⟨a,m,m0,rfl,YaV,hm,b0⟩
    . exact .inl ⟨fun z=>by
       rcases Wa5.mp z with z|z
       . exact n z.symm
       . exact h1 z,q⟩
  . rcases zJ h3 with ⟨rfl,q,_⟩|⟨n,q⟩
    . cases q
      exact .inr ⟨a,m',m0,h1,YaV,hm,h4⟩
    . exact .inr ⟨a',m',m0',h1,YaT _ h2,q,h4⟩
 | [],_::_,_,_,_,h,_,_,_,_=>h.elim
 | _::_,[],_,_,_,h,_,_,_,_=>h.elim
 | _::_,_::_,[],_,_,_,b,_,_,_=>b.elim
 | [],[],_::_,_,_,_,b,_,_,_=>b.elim
theorem Fr3.called(F:Fr3 K H0 G0 ρ σ G H){js:List Nat}{as:List Addr}{ms:List Tb}(nd:js.Nodup)(u:holds ρ js as)(g:Gr G (bar H as) G' H')(b:Bk G' H' as ms):Fr3 K H0 G0 (updM js as ms ρ) σ G' H':=by
 have p:∀ a∈as,H0 a=none/\∃ m:Tb,H a=some _:=fun a h=>by
  obtain⟨j,m,_,E⟩:=ZY u a h;obtain⟨r,l,h3⟩:=jz F E;exact⟨F.mine j _ _ a E r rfl,m,l⟩
 have s:=fun i c=>zcL nd u b i c
 have I:∀ (i:Nat) (c:Cl) (v:V) (a:Addr),i∉js->ρ[i]?=some (some c)->σ[i]?=some (some v)->Has c v a->a∉as:=fun i c v a n e B h z=>by
  obtain⟨j,m,E,w⟩:=ZY u a z;have:=F.apart i j _ _ _ _ a e w B (jz F w).1 h rfl;exact n (this ▸ E)
 have kp:zi H0 H':=fun c o e=>by
  have R:c∉as:=fun z=>by rw [(p c z).1] at e;cases e
  rcases F.keep c o e with z|⟨z,n,A,r,l⟩
  . exact g.h c o ((z5 R).trans z)
  . refine .inr ⟨z,n,Lk.same ⟨A,(z5 R).trans r,(z5 fun y=>?_).trans l⟩ g.h⟩
    obtain⟨m,w⟩:=(p A y).2;rw [w] at l;cases l
 refine⟨kp,g.sub,fun c o e=>?_,F.g0.trans g.g,fun i c e=>?_,fun i c v a e B h=>?_,fun i j c A v S a e1 e2 Z e4 r l=>?_,by rw [zeQ];exact F.len⟩
 . rcases g.new c o e with q|q|q
   . exact F.old c o q
   . rcases zcx q with y|y
     . exact .inr (.inl (p c y).1)
     . exact .inr (.inl (F.keep.free y))
   . exact .inr (.inr q)
 . rcases s i c e with ⟨n,q⟩|⟨a,m,T,rfl,O,q,r,l⟩
   . obtain⟨v,L,J⟩:=F.slot i c q
     refine⟨v,L,J.turn g.g (fun a C z=>?_) fun a h=>?_⟩
     . refine g.h.exc ((z5 fun y=>?_).trans z)
       obtain⟨m,w⟩:=(p a y).2;rw [w] at z;cases z
     . have M:=I i c v a n q L h
       obtain⟨⟨o,u,U⟩,Q⟩:=J.has h;have P:=(z5 M).trans u;refine⟨(g.h.at P U).trans u.symm,(g.hid P Q U fun xs z=>?_).trans Q.symm⟩
       exact J.ntup h xs ((z5 M).symm.trans z)
   . exact⟨_,(jz F q).1,.dm r l⟩
 . rcases s i c e with ⟨n,q⟩|⟨a',m,T,rfl,O,q,r,l⟩
   . exact F.mine i c v a q B h
   . exact F.mine i _ v a q B h
 . have N:∀ (i:Nat) (c:Cl) (v:V) (a:Addr),(updM js as ms ρ)[i]?=some (some c)->Has c v a->∃ W,ρ[i]?=some _/\Has W v a:=fun i c v a e h=>by
    rcases s i c e with ⟨n,q⟩|⟨a',m,T,rfl,O,q,r,l⟩
    . exact⟨c,q,h⟩
    . exact⟨_,q,h⟩
   obtain⟨X,q1,k1⟩:=N i c v a e1 r;obtain⟨c2,q2,Y⟩:=N j A S a e2 l;exact F.apart i j X c2 v S a q1 q2 Z e4 k1 Y
theorem zml(F:Fr3 K H0 G0 ρ σ G H){js:List Nat}{as:List Addr}{ms:List Tb}(l:js.Nodup)(j:holds ρ js as)(b:Bk G' H' as ms){i:Nat}{c:Cl}{v:V}{a:Addr}(e:(updM js as ms ρ)[i]?=some (some c))(p:σ[i]?=some (some v))(h:Has c v a):H a≠none:=by
 have:∃ g,ρ[i]?=some (some g)/\Has g v a:=by
  rcases zcL l j b i c e with ⟨n,q⟩|⟨r,m,s,rfl,y,q,w,u⟩
  . exact⟨c,q,h⟩
  . exact⟨_,q,h⟩
 obtain⟨g,q,k⟩:=this;obtain⟨⟨o,j,_⟩,_⟩:=(F.vw q p).has k
 grind
theorem Fr3.putN(F:Fr3 K H0 G0 ρ σ G H){i:Nat}{v:V}{c:Cl}(w:Vw K H0 G H v c)(M:∀ a,Has c v a->H0 a=none)(A:∀ (a:Addr) (j:Nat) (c':Cl) (v':V),Has c v a->ρ[j]?=some (some c')->σ[j]?=some (some v')->¬Has c' v' a):Fr3 K H0 G0 (ρ.set i (some c)) (σ.set i (some v)) G H:=by
 have b:∀ {k:Nat} {c':Cl},(ρ.set i (some c))[k]?=some (some c')->(k=i/\c'=c/\(σ.set i _)[k]?=some (some v))\/(k≠i/\ρ[k]?=some _/\(σ.set i (some v))[k]? = σ[k]?):=fun {k c'} e=>by
  rcases zJ e with ⟨rfl,q,I⟩|⟨n,q⟩
  . cases q
    exact .inl ⟨rfl,rfl,Yas (by rw [<-F.len];exact I)⟩
  . exact .inr ⟨Wbp n,q,Yac n⟩
 refine⟨F.keep,F.sub,F.old,F.g0,fun k c' e=>?_,fun k c' v' a e B h=>?_,fun k m s y E C a L u l g p r=>?_,by rw [YaN,YaN];exact F.len⟩
 . rcases b e with ⟨rfl,rfl,q⟩|⟨n,q,z⟩
   . exact⟨v,q,w⟩
   . obtain⟨v',p,r⟩:=F.slot k c' q
     exact⟨v',by rw [z];exact p,r⟩
 . rcases b e with ⟨rfl,rfl,q⟩|⟨n,q,z⟩
   . simp_all
   . rw [z] at B;exact F.mine k c' v' a q B h
 . rcases b L with ⟨rfl,rfl,q⟩|⟨n,q,z⟩
   . rw [q] at l;cases l
     rcases b u with ⟨rfl,_,_⟩|⟨n,o,z⟩
     . rfl
     . rw [z] at g;exact absurd r (A a m y C p o g)
   . rw [z] at l
     rcases b u with ⟨rfl,rfl,o⟩|⟨N,o,J⟩
     . rw [o] at g;cases g;exact absurd p (A a k s E r q l)
     . rw [J] at g;exact F.apart k m s y E C a q o l g p r
theorem Fr3.forget(F:Fr3 K H0 G0 ρ σ G H)(i:Nat):Fr3 K H0 G0 (ρ.set i none) σ G H:=by
 have b:∀ {k:Nat} {g:Cl},(ρ.set i none)[k]?=some (some g)->k≠i/\ρ[k]?=some _:=fun {k g} e=>by
  rcases zJ e with ⟨rfl,q,B⟩|⟨n,q⟩
  . cases q
  . exact⟨Wbp n,q⟩
 exact⟨F.keep,F.sub,F.old,F.g0,fun k c e=>F.slot k c (b e).2,fun k c v a e u h=>F.mine k c v a (b e).2 u h,fun k m j r A z a w o l s p y=>F.apart k m j r A z a (b w).2 (b o).2 l s p y,by rw [YaN];exact F.len⟩
theorem Dr.scal(r:Dr K H0 G kvs ds)(h:(ds.all fun p=>zx p.2)=true):Dr K H1 G kvs ds:=by
 induction r with
 | nil=>exact .nil
 | cons a b c=>
  rw [List.all_cons,Yak] at h;exact .cons (.sc h.1 a.rd) (c h.2)
theorem Dr.older(g:∀ a,H0 a=none->H1 a=none)(r:Dr K H0 G kvs ds):Dr K H1 G kvs ds:=by
 induction r with
 | nil=>exact .nil
 | cons a b e=>exact .cons ⟨a.rd,fun c=>jY (Same.refl _) (fun x _ _ z=>g x z) (a.nw c)⟩ e
theorem Vw.arg{v:V}{c:Cl}(w:Vw K H0 G H v c)(h:jy c=true):Vw K H1 G H v (argC c):=by
 cases w with
 | sh r=>exact .sh ⟨r.rd,fun h=>zaX h r.rd⟩
 | dm a b=>exact .dm a b
 | fd a b c=>exact .fd a (b.scal h) c
 | _=>cases h
theorem Vws.arg{H1:Hp}{vs:List V}{cs:List Cl}(w:Vws K H0 G H vs cs)(h:cs.all jy=true):Vws K H1 G H vs (cs.map argC):=by
 induction w with
 | nil=>exact .nil
 | cons a b c=>
  rw [List.all_cons,Yak] at h;exact .cons (a.arg h.1) (c h.2)
theorem Vw.res{v:V}{c:Cl}(w:Vw K H0 G H v c)(e:∀ a,H0 a=none->H1 a=none)(h:JS c=true):Vw K H1 G H v c:=by
 cases w with
 | sh r=>exact .sh ⟨r.rd,fun g=>jY (Same.refl _) (fun x _ _ z=>e x z) (r.nw g)⟩
 | dt a b c=>exact .dt a (b.older e) c
 | _=>cases h
theorem zdu{sp:SpC}(l:∀ cs (Q Q':Cl->List Tb->Prop),(∀ c ms,Q c ms->Q' c ms)->sp cs Q->sp cs Q')(F:Fr3 K H0 G0 ρ σ G H){vs:List V}{cs:List Cl}(w:Vws K H0 G H vs cs){js:List Nat}(o:js.Nodup)(A:cs.all jy=true)(n:holds ρ js (dms cs)){R:Cl->Env3->Prop}(h:sp (cs.map argC) fun c ms=>R c (updM js (dms cs) ms ρ)){Q:VK}{E:XK}
 (q:∀ c ρ' v G' H',Fr3 K H0 G0 ρ' σ G' H'->zi (bar H (dms cs)) H'->Gr G (bar H (dms cs)) G' H'->Vw K H0 G' H' v c->(∀ a,Has c v a->H0 a=none/\∀ (j:Nat) (c':Cl) (v':V),ρ'[j]?=some (some c')->σ[j]?=some (some v')->¬Has c' v' a)->R c ρ'->Q v H'):spC K sp vs H Q E:=by
 have u:∀ a,bar H _ a=none->H0 a=none:=fun a z=>by
  rcases zcx z with y|y
  . obtain⟨j,m,_,r⟩:=ZY n a y
    exact F.mine j _ _ a r (jz F r).1 rfl
  . exact F.keep.free y
 refine⟨G,_,F.sub,w.arg A,by rw [zf6];exact zgh F o n,l _ _ _ (fun c ms k v G' H' g p s b i=>?_) h⟩
 rw [zf6] at g p b;refine q c _ v G' H' (F.called o n g b) g.h g (p.res u i) (fun a z=>⟨F.keep.free (s a z),fun j c' v' e B y=>zml F o n b e B y (s a z)⟩) k
end
section
variable{p:Pos}{x:Str}{k:Nat}{ps:List Str}{sp:SpC}{E:XK}{t:TA3}
def Zv(sp:SpC)(t:TA3)(js:List Nat)(R:Cl->Env3->Prop)(ρ : Env3):Prop:=t ρ fun cs=>cs.all jy=true/\holds ρ js (dms cs)/\sp (cs.map argC) fun c ms=>R c (updM js (dms cs) ms ρ)
def ZQ(i:Nat)(sp:SpC)(t:TA3)(js:List Nat):TS3:=fun A ρ=>Zv sp t js (fun c ρ'=>A.nx (ρ'.set i (some c))) ρ
theorem zcO{i:Nat}{pos' spos:Pos}(l:List Nat)(T:l.Nodup)(hN:X.N.Nodup)(u:X.N[i]?=some y)(hy:Loc X.env.scope y)(o:DfC X.prog X.w X.K X.mg X.base k x ps sp)(hr:Room k X.A)(I:Gl X x)(C:Passes (CXR X.prog X.w) X E)(m:PA3 X H0 (e::es) t)(h:(x==("__debug__" : Str))=false:=by decide)
 (s:starEach (e::es) X.env=(false,eval e X.env)::starEach es X.env:=by rfl) (b:(backTo pos (starEach es X.env)).any (·.1)=false:=by rfl) (O:swapsWith (.Call (.Name x p) (e::es) [] pos) (some (.Name y pos')) spos.line X.env=pure false:=by rfl)
 (Q:X.fn y=true\/X.env.scope.names.lookup y=some .local:=by first|exact .inl rfl|exact .inr rfl|assumption):PS3 X H0 (.Assign [.Name y pos'] (.Call (.Name x p) (e::es) [] pos) spos) (ZQ i sp t l):=
 PS.imp (jj hN u hy (jE o.ok hr I C m.ok h s b) O Q) fun B σ H=>el7 fun S A ρ G F q L=>⟨S,ρ,G,F,m.mono ρ _ _ (fun cs g vs G1 H1 M w=>by
  obtain⟨Y,N,K⟩:=g;rw [Yao];exact zdu o.mono (F.gr M) w T Y N K fun c U v Z r W _ _ R n k=>L.nx _ _ Z r (W.putN R (fun a z=>(n a z).1) fun a j J P z=>(n a z).2 j J P) k) q⟩
def zbf(sp:SpC)(t:TA3)(js:List Nat):TS3:=fun A ρ=>Zv sp t js (fun _ ρ'=>A.nx ρ') ρ
theorem zk0{spos:Pos}(h:List Nat)(C:h.Nodup)(j:DfC X.prog X.w X.K X.mg X.base k x ps sp)(N:Room k X.A)(o:Gl X x)(n:Passes (CXR X.prog X.w) X E)(i:PA3 X H0 (e::es) t)(g:(x==("__debug__" : Str))=false:=by decide)
 (m:starEach (e::es) X.env=(false,eval e X.env)::starEach es X.env:=by rfl) (a:(backTo pos (starEach es X.env)).any (·.1)=false:=by rfl) (y:swapsWith (.Call (.Name x p) (e::es) [] pos) none spos.line X.env=pure false:=by rfl):PS3 X H0 (.Expr (.Call (.Name x p) (e::es) [] pos) spos) (zbf sp t h):=
 PS.imp (jR (jE j.ok N o n i.ok g m a) y) fun B σ H=>el7 fun z A ρ G F q L=>⟨z,ρ,G,F,i.mono ρ _ _ (fun Q b P R O s w=>by
  obtain⟨K,u,r⟩:=b;rw [Yao];exact zdu j.mono (F.gr s) w C K u r fun c I v M l J _ _ S T k=>L.nx _ _ M l J k) q⟩
def zaj(sp:SpC)(t:TA3):TE3:=fun ρ Q=>t ρ fun cs=>cs.all jy=true/\dms cs=[]/\sp (cs.map argC) fun c _=>∃ f d,c=.sh f d/\Q (.sh f d)
theorem dfX{E:XK}(Gd:DfC X.prog X.w X.K X.mg X.base k x ps sp)(hr:Room k X.A)(hg:Gl X x)(hx:Passes (CXR X.prog X.w) X E)(ha:PA3 X H0 (e::es) t)(hdb:(x==("__debug__" : Str))=false:=by decide)
 (he:starEach (e::es) X.env=(false,eval e X.env)::starEach es X.env:=by rfl) (hpl:(backTo pos (starEach es X.env)).any (·.1)=false:=by rfl):PE3 X H0 (.Call (.Name x p) (e::es) [] pos) (zaj sp t):=by
 refine⟨fun ρ Q Q' h q=>ha.mono ρ _ _ (fun cs zz0=>by obtain⟨a,b,q⟩:=zz0;exact⟨a,b,Gd.mono _ _ _ (fun c ms zz0=>by obtain⟨f,d,e,q⟩:=zz0;exact⟨f,d,e,h _ q⟩) q⟩) q,PE.imp (jE Gd.ok hr hg hx ha.ok hdb he hpl) fun σ H Q=>el5 fun G0 ρ G F q=>⟨G0,ρ,G,F,ha.mono ρ _ _ (fun cs hyp vs G1 H1 g1 w=>?_) q⟩⟩
 obtain⟨h1,h2,h3⟩:=hyp;rw [Yao];refine zdu Gd.mono (F.gr g1) w Wa2 h1 (by rw [h2];exact True.intro) (R:=fun c _=>∃ f d,c=.sh f d/\∀ (v:V) (G' H':Hp),Gr G H G' H'->Vw X.K H0 G' H' v (.sh f d)->Q v H') h3 fun c ρ' v G' H' F' _ g' w' n' k=>?_
 obtain⟨f,d,rfl,k⟩:=k;rw [h2] at g';exact k v G' H' (g1.trans g') w'
def zaM(te:TE3):TS3:=fun A ρ=>te ρ fun c=>asS c fun f d=>A.rm (.sh f d) ρ
theorem zbV{te:TE3}(h:PE3 X H0 e te):PS3 X H0 (.Return (some e) pos) (zaM te):=PS.imp (JE h.ok) fun B σ H=>el7 fun j A ρ G F q L=>
 ⟨j,ρ,G,F,h.mono ρ _ _ (fun c b v m i g w=>by
  obtain⟨f,d,l,q⟩:=Ju b;subst l;exact L.rm _ v ρ σ m i (F.gr g) w (fun a z=>False.elim z) q) q⟩
def zbb(i:Nat):TS3:=fun A ρ=>∃ ds,ρ[i]?=some (some (.dt ds))/\A.rm (.dt ds) (ρ.set i none)
theorem zkh{i:Nat}{np:Pos}(r:X.N[i]?=some x)(l:Vis X.env.scope x)(p:(x==("__debug__" : Str))=false:=by decide)(c:(x==("__classdict__" : Str))=false:=by decide):PS3 X H0 (.Return (some (.Name x np)) pos) (zbb i):=PS.imp (JE (jx r l p c)) fun B σ H h=>by
 obtain⟨s,A,ρ,G,F,⟨w,b,q⟩,L⟩:=h;obtain⟨v,g,o⟩:=F.slot i _ b;refine⟨v,g,L.rm _ v _ σ G H (F.forget i) o (fun a z=>⟨F.mine i _ v a b g z,fun j u C e m y=>?_⟩) q⟩
 rcases zJ e with ⟨rfl,q,_⟩|⟨n,q⟩
 . cases q
 . exact n (F.apart i j _ _ _ _ a b q g m z y)
end
end L3
namespace L2
open PySem PySem.Spec PyProof.Rows L3
theorem zh2(hc:X.calm=true):zO X (.builtin "sorted") (fun xs H Q=>∃ (p:Addr) (ns:List Int),xs=[.ref p]/\SqL X.K H p (ns.map V.int)/\ns.length<64/\∀ ms:List Int,ms.Perm ns->ms.Pairwise (·<=·)->∀ l,H l=none->Q (.ref l) (upd H l (.lst (ms.map V.int)))):=by
 intro pins s σ H xs us Q I r h;obtain⟨p,ns,rfl,hq,hlt,q⟩:=h;obtain⟨u,rfl,ru⟩:=Jj r;cases(show u=Value.ref p from ru)
 obtain⟨its,rv,pl,_⟩:=I.list hq;have hI:=zbs rv;have hln:=hI.length;refine sorted_ints pl.isList hI (by rw [hln];exact hlt) fun out ms a1 a2 a3=>?_
 obtain⟨e,he⟩:=sortedAll_at s.heap its out;have hl2:=a2.length_eq;refine⟨.ref (s.heap.objs.size+1),_,I.laid (t':=s.toks) (o:=.lst (ms.map V.int)) (fun b ob q=>sortedAll_old q) (Nat.le_succ _) ⟨?_,out.toList,e,zcM a1,he⟩,rfl,q ms a2 a3 _ (I.hok.fresh (Nat.le_succ _))⟩
 rw [YaR,hl2,sizeLine_eq];lia
end L2
namespace L3
open PySem PySem.Spec PyProof.Rows L2
variable[LamW]
noncomputable def getM(ds:Tb)(k:Int):Option Int:=(ds.find? fun p=>decide (p.1=k)).map (·.2)
noncomputable def putM(ds:Tb)(k v:Int):Tb:=if(ds.any fun p=>decide (p.1=k))=true then ds.map (fun p=>if p.1=k then(p.1,v) else p) else ds++[(k,v)]
def optI:Option Int->D
 | none=>.none
 | some i=>.int i
theorem zdJ(a k):decide ((Sum.inl a:Key)=Sum.inl k)=decide (a=k):=by
 simp_all
theorem jt(ds:Tb)(k):valV (encM ds) (Sum.inl k)=(getM ds k).map V.int:=by
 unfold valV getM encM
 induction ds with
 | nil=>rfl
 | cons p r ih=>
  rw [Ya1,List.find?_cons,List.find?_cons,zdJ]
  by_cases e:p.1=k
  . rw [decide_eq_true e];rfl
  . rw [decide_eq_false e];exact ih
theorem ZB(ds:Tb)(k v):putK (encM ds) (Sum.inl k) (.int v)=encM (putM ds k v):=by
 have ha:((encM ds).any fun kv=>decide (kv.1=(Sum.inl k)))=ds.any fun p=>decide (p.1=k):=by
  unfold encM;rw [List.any_map]
  congr 1
  funext p
  exact zdJ p.1 k
 unfold putK putM;rw [ha]
 split
 . unfold encM
   rw [YaD,YaD];refine Yat fun p _=>?_
   by_cases e:p.1=k
   . simp [Function.comp,if_pos e]
   . simp [Function.comp,if_neg e]
 . unfold encM
   rw [Ya2];rfl
theorem Zj(a:Tb):(encM a).length=a.length:=YaR _
section
variable{a b:Expr}{x:Str}
def Z1(i:Nat):TS3:=fun A ρ=>∀ a,A.nx (ρ.set i (some (.dm a [])))
theorem zcG{pos' p:Pos}(l:X.N.Nodup)(e:X.N[i]?=some x)(g:Loc X.env.scope x)(j:swapsWith (.Dict [] [] p) (some (.Name x pos')) pos.line X.env=pure false:=by rfl)
 (c:X.fn x=true\/X.env.scope.names.lookup x=some .local:=by first|exact .inl rfl|exact .inr rfl|assumption):PS3 X H0 (.Assign [.Name x pos'] (.Dict [] [] p) pos) (Z1 i):=PS.imp (jj l e g JP j c) fun B σ H=>el7 fun m A ρ G F q L=>
 fun p b=>L.nx _ _ G _ (F.put (zG b _).x (.dm zf (F.sub.free b)) fun a h=>by cases h;exact b) (q p)
def zao(i:Nat)(ta te:TE3):TS3:=fun A ρ=>∃ l ds,ρ[i]?=some (some (.dm l ds))/\te ρ fun c=>ta ρ fun ck=>asI ck fun k=>asI c fun v=>ds.length<sizeLine/\A.nx (ρ.set i (some (.dm l (putM ds k v))))
theorem zco{ta te:TE3}{np spos:Pos}(y:X.A.units+1<cLine)(U:X.N[i]?=some x)(s:Vis X.env.scope x)(p:PE3 X H0 a ta)(o:PE3 X H0 e te)(T:(x==("__debug__" : Str))=false:=by decide)(j:(x==("__classdict__" : Str))=false:=by decide)
 (N:swapsWith e (some (.Subscript (.Name x np) a spos)) pos.line X.env=pure false:=by rfl):PS3 X H0 (.Assign [.Subscript (.Name x np) a spos] e pos) (zao i ta te):=by
 refine PS.imp (Jv y (jx U s T j) p.ok o.ok N) fun B σ H m=>?_
 obtain⟨r,A,ρ,G,F,⟨l,M,g,q⟩,L⟩:=m;refine⟨r,ρ,G,F,o.mono ρ _ _ (fun c P v1 C W K I=>?_) q⟩
 have b:=F.gr K;refine⟨_,(jz b g).1,r,ρ,C,b,p.mono ρ _ _ (fun ck z Z Y H2 O E=>?_) P⟩
 obtain⟨k,rfl,w⟩:=jK z;obtain⟨v,rfl,J,R⟩:=jK w;cases zy (zo I).rd;cases zy (zo E).rd;have n:=b.gr O;obtain⟨Q,u,S⟩:=jz n g;exact⟨l,_,rfl,DPut.k (k:=Sum.inl k) u (by rw [Zj];exact J),L.nx _ _ _ _ (n.chg (c':=.dm l (putM M k v)) g Q rfl (fun _ h=>h) (.dm (by rw [zf,ZB]) S)) R⟩
def ZO(i:Nat)(ta:TE3):TE3:=fun ρ Q=>∃ l ds,ρ[i]?=some (some (.dm l ds))/\ta ρ fun c=>asI c fun k=>∃ v,getM ds k=some v/\Q (.sh true (.int v))
theorem zcI{ta:TE3}{np:Pos}(s:X.A.units+1<cLine)(E:X.N[i]?=some x)(p:Vis X.env.scope x)(m:PE3 X H0 a ta)(C:(x==("__debug__" : Str))=false:=by decide)(j:(x==("__classdict__" : Str))=false:=by decide)(z:NoSl a:=by exact fun _ _=>rfl):PE3 X H0 (.Subscript (.Name x np) a pos) (ZO i ta):=by
 refine⟨fun ρ Q J h ⟨l,n,b,q⟩=>⟨l,n,b,m.mono ρ _ _ (fun c q=>?_) q⟩,PE.imp (jX s (jx E p C j) m.ok z) fun σ H Q=>el5 fun A ρ G F q=>?_⟩
 . obtain⟨k,rfl,v,e,q⟩:=jK q
   exact⟨v,e,h _ q⟩
 obtain⟨l,n,b,q⟩:=q;refine⟨_,(jz F b).1,A,ρ,G,F,m.mono ρ _ _ (fun c u I y B o w=>?_) q⟩
 obtain⟨k,rfl,v,e,q⟩:=jK u;cases zy (zo w).rd;obtain⟨_,r,_⟩:=jz (F.gr o) b;have g:=DGet.k (k:=Sum.inl k) r;rw [jt,e] at g;exact⟨l,_,rfl,g,q _ y B o (.sh (.sc rfl (.int v)))⟩
def ZC(i:Nat)(ta:TE3):TE3:=fun ρ Q=>∃ l ds,ρ[i]?=some (some (.dm l ds))/\ta ρ fun c=>asI c fun k=>Q (.sh true (optI (getM ds k)))
theorem zmQ{ta:TE3}{np apos cpos:Pos}(y:X.A.units+1<cLine)(J:X.N[i]?=some x)(u:Vis X.env.scope x)(n:PE3 X H0 a ta)(m:M1 X (.Name x np) "get" apos a cpos:=by exact⟨rfl,rfl,rfl,rfl⟩)(I:(x==("__debug__" : Str))=false:=by decide)(j:(x==("__classdict__" : Str))=false:=by decide):PE3 X H0 (.Call (.Attribute (.Name x np) "get" apos) [a] [] cpos) (ZC i ta):=by
 refine⟨fun ρ Q L h ⟨l,o,b,q⟩=>⟨l,o,b,n.mono ρ _ _ (fun c q=>?_) q⟩,PE.imp (zgS y (jx J u I j) n.ok m) fun σ H Q=>el5 fun C ρ G F q=>?_⟩
 . obtain⟨k,rfl,q⟩:=jK q
   exact h _ q
 obtain⟨l,o,b,q⟩:=q;obtain⟨E,B,_⟩:=jz F b;refine⟨_,E,l,rfl,.inl ⟨_,.inl B⟩,C,ρ,G,F,n.mono ρ _ _ (fun c z K r s p A=>?_) q⟩
 obtain⟨k,rfl,q⟩:=jK z;cases zy (zo A).rd;obtain⟨_,w,_⟩:=jz (F.gr p) b;have g:=DGet.k (k:=Sum.inl k) w;rw [jt] at g;refine⟨_,g,?_⟩;cases e:getM o k with
 | none=>rw [e] at q;exact q _ r s p (.sh (.sc rfl .non))
 | some v=>rw [e] at q;exact q _ r s p (.sh (.sc rfl (.int v)))
def Z2(i:Nat)(ta:TE3):TE3:=fun ρ Q=>∃ l ds,ρ[i]?=some (some (.dm l ds))/\ta ρ fun c=>asI c fun k=>Q (.sh true (.bool (!(getM ds k).isSome)))
theorem zcH{ta:TE3}{np:Pos}(u:X.A.units+1<cLine)(A:X.N[i]?=some x)(o:Vis X.env.scope x)(j:PE3 X H0 a ta)(s:behindInMarks .NotIn (.Name x np)=false:=by rfl)(z:(x==("__debug__" : Str))=false:=by decide)(e:(x==("__classdict__" : Str))=false:=by decide):PT3 X H0 (.Compare a [.NotIn] [.Name x np] pos) (tt3 (Z2 i ta)):=by
 refine⟨zbE fun ρ Q B h q=>?_,PT.imp (Zx (zbN u j.ok (jx A o z e)) s) fun σ H Q=>el5 fun r ρ G F q=>?_⟩
 . obtain⟨l,n,b,q⟩:=q
   refine⟨l,n,b,j.mono ρ _ _ (fun c q=>?_) q⟩
   obtain⟨k,rfl,q⟩:=jK q;exact h _ q
 obtain⟨l,n,b,q⟩:=q;refine⟨r,ρ,G,F,j.mono ρ _ _ (fun c v I E C m w=>?_) q⟩
 obtain⟨k,rfl,q⟩:=jK v;cases zy (zo w).rd;obtain⟨y,p,_⟩:=jz (F.gr m) b;have g:=DGet.k (k:=Sum.inl k) p;rw [jt] at g;exact⟨_,y,l,_,rfl,g,_,rfl,by rw [WaB];exact q _ _ m⟩
def srtL(ta:TA3):TN3:=fun ρ Q=>ta ρ fun cs=>∃ c,cs=[c]/\c.dat=true/\∃ ns:List Int,c.d=.list (ns.map .int)/\ns.length<64/\∀ ms:List Int,ms.Perm ns->ms.Pairwise (·<=·)->Q true (ms.map PyData.int)
theorem zej{K:Ybf}{G:Hp}:∀ {ns:List Int} {xs:List V},RdVs K G xs (ns.map PyData.int)->xs=ns.map V.int
 | [],_,.nil=>rfl
 | n :: r, _, .cons a t => by
  cases a;rw [zej t];rfl
theorem zl9(b:List Int):Rfs K H0 G true (b.map V.int) (b.map PyData.int):=by
 induction b with
 | nil=>exact Rfs.nil
 | cons a r c=>exact Rfs.cons (f:=true) (.sc rfl (.int a)) c
theorem zit{np:Pos}{ta:TA3}(hc:X.calm=true)(hg:Gl X "sorted")(hm:X.mg "sorted" = none)(ha:PA3 X H0 [a] ta)
 (he:starEach [a] X.env=(false,eval a X.env)::starEach [] X.env:=by rfl) (hpl:(backTo pos (starEach [] X.env)).any (·.1)=false:=by rfl):PN3 X H0 (.Call (.Name "sorted" np) [a] [] pos) (srtL ta):=by
 refine⟨fun ρ Q Q' h q=>ha.mono ρ _ _ (fun cs zz0=>by obtain⟨c,h0,h1,ns,h2,h3,q⟩:=zz0;exact⟨c,h0,h1,ns,h2,h3,fun ms a b=>h _ _ (q ms a b)⟩) q,PE.imp (JR (zh2 hc) hg hm (by rfl) ha.ok #[1] #[1] he hpl) fun σ H Q=>el5 fun G0 ρ G F q=>⟨G0,ρ,G,F,ha.mono ρ _ _ (fun cs hyp vs G1 H1 g1 w=>?_) q⟩⟩
 obtain⟨c,rfl,h1,ns,h2,h3,q⟩:=hyp;obtain⟨v,rfl,w1⟩:=vws1 w;obtain⟨l,us,rfl,hq,rs⟩:=JO w1 g1.sub h1 h2;cases zej rs.rd;exact⟨l,ns,rfl,hq,h3,fun ms p1 p2 p hp=>q ms p1 p2 p _ G1 H1 g1 hp (zl9 ms)⟩
def ninT3:R3:=fun a b Q=>a.dat=true/\b.dat=true/\asT b.d fun xs=>SeqAt.shaped a.d=true/\SeqAt.shaped (.tuple xs)=true/\Q true (.bool (!xs.any fun y=>PyData.eqv y a.d))
theorem zig(n:X.A.units+65<cLine):OpOk X (compareOp .NotIn) ninT3:=by
 refine⟨fun a b Q O h q=>?_,fun R=>?_⟩
 . obtain⟨F,C,q⟩:=q
   obtain⟨K,e,A,B,q⟩:=zb8 q;refine⟨F,C,?_⟩;rw [e];exact⟨A,B,h _ _ q⟩
 intro l s σ H x y v u Q I J z c;obtain⟨G,a,b,g,o,L,r,w,q⟩:=c;have M:=o.rd g r;have j:=L.rd g w;obtain⟨K,e,i,m,q⟩:=zb8 q;rw [e] at j;obtain⟨P,p⟩:=M.reads I J;obtain⟨N,E⟩:=j.reads I z;exact SeqAt.notIn_tuple_reads E p (SeqAt.canLay_of_shaped m) (SeqAt.canLay_of_shaped i) (room_in_shaped i n) ⟨.bl _,H,I,rfl,q _ G H (Gr.refl g) (.sc rfl (.bl _))⟩
def zaY(i:Nat)(ta tb:TE3):TE3:=fun ρ Q=>∃ ds,ρ[i]?=some (some (.fd ds))/\ta ρ fun ka=>tb ρ fun kb=>asI ka fun m=>asI kb fun n=>Q (.sh true (.bool (!(getT ds (kk m n)).isSome)))
theorem zjZ{ta tb:TE3}{np tp:Pos}{k1}(L:X.A.units+1<cLine)(hN:X.N[i]?=some x)(J:Vis X.env.scope x)(s:PE3 X H0 a ta)(u:PE3 X H0 b tb)(K:behindInMarks .NotIn (.Name x np)=false:=by rfl)(hd:(x==("__debug__" : Str))=false:=by decide)(j:(x==("__classdict__" : Str))=false:=by decide)
 (y:starEach [a,b] X.env=(false,eval a X.env)::starEach [b] X.env:=by rfl) (w:starEach [b] X.env=(false,eval b X.env)::starEach [] X.env:=by rfl) :
 PE3 X H0 (.Compare (.Tuple [a,b] k1 tp) [.NotIn] [.Name x np] pos) (zaY i ta tb):=by
 refine⟨fun ρ Q Q' h q=>?_,PE.imp (zjp (zbN L (zbY (zn s.ok (zn u.ok zK w) y)) (jx hN J hd j)) K) fun σ H Q=>el5 fun C ρ G F q=>?_⟩
 . obtain⟨B,e,q⟩:=q
   refine⟨B,e,s.mono ρ _ _ (fun T q=>u.mono ρ _ _ (fun U Y=>?_) q) q⟩
   obtain⟨m,rfl,r⟩:=jK Y;obtain⟨n,rfl,c⟩:=jK r;exact h _ c
 obtain⟨B,e,q⟩:=q;refine⟨C,ρ,G,F,s.mono ρ _ _ (fun T r v2 O H2 z N=>?_) q⟩
 refine⟨C,ρ,O,F.gr z,u.mono ρ _ _ (fun U c v3 Z H3 v S=>?_) r⟩
 obtain⟨m,rfl,q⟩:=jK c;obtain⟨n,rfl,q⟩:=jK q;cases zy (zo N).rd;cases zy (zo S).rd;refine⟨show 2<=sizeLine by decide,fun p M=>?_⟩
 have I:=Gr.apart (o:=.tup [.int m,.int n]) v.sub M;have E:=((F.gr z).gr v).gr I;obtain⟨l,o,A,W,R,P,_⟩:=zmR E e;have g:DGet _ l _ _:=.inr ⟨A,kk m n,p,.inr ⟨o,E.sub.s _ _ R⟩,rfl,zf,rfl⟩;refine⟨.ref l,W,l,_,rfl,g,?_⟩;rw [P.some];exact q _ Z _ ((z.trans v).trans I) (.sh (.sc rfl (.bl _)))
end
variable[LamW]
section
variable{x:Str}{J:List Nat}{l:List Stmt}{u:Env3->D->TS3}
variable{w:Env3->TS3}{jr:Nat}
end
end L3
namespace L2
open PySem PySem.Spec PyProof.Rows
theorem zeu(h:(jf P w).is k u=true):RelV (kV k) u:=by
 rcases j5 h with ⟨i,t,rfl,rfl⟩|⟨x,t,rfl,rfl⟩
 . exact⟨t,rfl⟩
 . exact⟨t,rfl⟩
theorem zdq{α β : Type}{F:α->β->Prop}:∀ {l:List α} {m:List β},Paired F l m->∀ {j:Nat} {a:α},l[j]?=some a->∃ b,m[j]?=some b/\F a b
 | _,_,.nil,_,_,h=>by simp at h
 | _, _, .cons x r, 0, _, h => by
  simp_all
 | _, _, .cons x r, j + 1, _, h => by
  obtain⟨b,c,e⟩:=zdq r h;exact⟨b,c,e⟩
theorem Zt(I:Inv X pins σ H s){o:Obj}{kvs:List (Key×V)}(h:H d=some (.frz o (.dK kvs))):∃ vs ep es,s.heap.get? d=some o/\o.ExactDict/\o.data=.dict es ep/\(d==sysModules)=false/\KV kvs vs/\s.heap.DictAt (jf X.prog X.w) d vs ep/\s.heap.DictOf (jf X.prog X.w) d vs:=by
 obtain⟨i,_,l,vs,a,c,es,ep,j,g,b,r⟩:=(I.hok d _ h);have e:c=o:=by simp_all
 subst e;exact⟨vs,ep,es,i,g,b,l,a,⟨c,es,i,g,b,r⟩,⟨c,es,ep,i,g,b,r⟩⟩
theorem ziu:entryFor table "dict_itemiterator.__iter__" = some Builtin.«dict_keyiterator.__iter__»:=
 entryFor_alias (id':="dict_keyiterator.__iter__") (by kernel_rfl) rfl #[3] (by kernel_rfl)
noncomputable def Iti(d:Addr)(o:Obj)(kvs:List (Key×V)):It:=
 ⟨fun i H=>(∃ p,kvs[i]?=some p)/\H d=some (.frz o (.dK kvs)),
  fun i H x H'=>∃ a k v,H a=none/\x=.ref a/\kvs[i]?=some (k,v)/\H'=upd H a (.tup [kV k,v]),
  fun i H=>i=kvs.length/\H d=some (.frz o (.dK kvs))⟩
theorem zkJ{o:Obj}{kvs:List (Key×V)}(he:o.data=.dict es0 ep):Turn P w K (.Tuple elts n pos) (Iti d o kvs) [it] it (fun i h=>∃ ok ov,IsItemIter h it d i kvs.length ep ok ov) where
 mem:=by simp
 obj:=fun i h st b hb=>by
  have e:b=it:=by simpa using hb
  subst e;obtain⟨ok,ov,st⟩:=st;exact⟨_,st,fun v z=>by cases(z)⟩
 keep:=fun i h h' zz0 k=>by obtain⟨ok,ov,st⟩:=zz0;exact⟨ok,ov,k it (by simp) _ st⟩
 item:=by
  intro X hP hw hK hc i pins s σ H E I hf st hg;subst hP hw hK;obtain⟨⟨⟨k,x⟩,hx⟩,hH⟩:=hg;obtain⟨vs,ep',es,hd,hex,he',hs,hkv,hdict,_⟩:=Zt I hH;have eep:ep'=ep:=by rw [he] at he';cases he';rfl
  subst eep;have hl:kvs.length=vs.length:=Wa4 hkv;obtain⟨⟨k',u⟩,hu,hk,ru⟩:=zdq hkv hx;subst hk;obtain⟨ok,ov,st⟩:=st;rw [hl] at st;obtain⟨f0,f1,f2,f3,f4,f5⟩:=hf it (by simp)
  have hlt:=YaX st;refine wpAny_pyNext_items_item st hdict hu fun key h' hkey out tup sz kp=>⟨_,rfl,wpAny_letOwnedTupleGo_items out fun h2 st2 sb=>?_⟩
  have I1:Inv X pins σ H { s with heap:=h2,toks:=s.toks }:=I.turned (fun b o hb e=>(sb.2 b hb).trans (kp b o hb e)) f0 f1 f3 f4 f5
  have hT:=YaY s.heap.objs.size;have hTn:=I.hok.fresh hT;have ho2:=(sb.2 s.heap.objs.size (Wbe hlt)).trans tup;have I2:Inv X pins σ (upd H s.heap.objs.size (.tup [kV k,x])) _:=I1.track hTn (Ya5 I.sz hT) (Wbe (YaU I.lt hT)) (fun n c e z=>by
   obtain⟨vv,q⟩:=I.cell n c e;exact absurd (YaU q.lt (by rw [z];exact hT)) (Yap _)) (fun p hp z=>absurd (YaU (YaX (I.pin p hp).1) (by rw [z];exact hT)) (Yap _))
   ⟨by show 2<=sizeLine;decide,[key,u],.cons (zeu hkey) (.cons ru .nil),_,ho2,rfl,_,rfl⟩
  refine⟨.ref s.heap.objs.size,_,I2,rfl,⟨_,k,x,hTn,rfl,hx,rfl⟩,⟨key,u,by rw [hl];exact st2⟩,fun b hb=>?_⟩
  have e:b=it:=by simpa using hb
  subst e;rw [zc (Yaf hlt)];exact f0
 done:=by
  intro X hP hw hK hc i pins s σ H E I hf st hg;subst hP hw hK;obtain⟨hi,hH⟩:=hg;obtain⟨vs,ep',es,hd,hex,he',hs,hkv,hdict,_⟩:=Zt I hH;have eep:ep'=ep:=by rw [he] at he';cases he';rfl
  subst eep;have hl:=Wa4 hkv;obtain⟨ok,ov,st⟩:=st;rw [hl] at st hi;obtain⟨f0,f1,f2,f3,f4,f5⟩:=hf it (by simp)
  exact wpAny_pyNext_items_end (I.ok.hd hc) st hdict (by rw [hi];exact Wan (YaY _)) fun h' eb=>⟨rfl,I.turned (t':=s.toks) (fun b o hb e=>eb b o hb e) f0 f1 f3 f4 f5⟩
 self:=fun A i s Q E ⟨ok,ov,st⟩ h=>by
  have ht:s.TypeIs (.ref it) "dict_itemiterator":=⟨_,st,rfl⟩;refine wpAny_pyIter_slot ht PySem.F.slot_dict_itemiterator_iter (wpAny_call_entry PySem.F.slot_dict_itemiterator_iter ht ziu ?_ (PySem.F.args_dict_itemiterator_iter_1 _));exact wpAny_pure ⟨_,rfl,"dict_itemiterator", _,ht,PySem.F.slot_dict_itemiterator_next.lookup,h⟩
def zhv(tl:TE):TI:=fun σ H R=>tl σ H fun v H1=>∃ d o kvs,v=.ref d/\H1 d=some (.frz o (.dK kvs))/\R (Iti d o kvs) H1
theorem zkN{l:Expr}(J:PE X l tl)(p:attributeBase l "items" X.env (eval l X.env)=eval l X.env:=by rfl)(i:(apos.endLine==pos.line)=true:=by rfl):PI X (.Tuple elts n tpos) (.Call (.Attribute l "items" apos) [] [] pos) (zhv tl):=by
 intro c s σ H R I h;refine wpAny_Call_method (T:="dict") (id:="dict.items") p rfl i PySem.F.plainAttrs_dict PySem.F.slot_dict_items PySem.F.type_dict_items (wpAny_mono (J c s σ H _ I h) (fun v j q=>?_) fun _ _ z=>z)
 obtain⟨x,A,y,C,d,o,kvs,rfl,E,q⟩:=q;cases(show v=Value.ref d from C)
 obtain⟨m,ep,L,M,G,B,F,r,g,a⟩:=Zt y E;have w:kvs.length=m.length:=Wa4 r;refine⟨a.typeIs,a.mapOf.noDict,?_⟩;refine method_meetsIn PySem.F.slot_dict_items PySem.F.entry_dict_items rfl (PyProof.Rows.evalArgs_none ⟨rfl,a.typeIs,PySem.F.args_dict_items_1 _,_,meets_dict_items (jf X.prog X.w) d F,⟨m,a⟩,?_⟩);have u:Inv X c σ A { j with heap:=j.heap.push { cls:=.type "dict_items", data:=.fields #[.ref d] },toks:=j.toks }:=y.kept fun b o e=>YaW _ e
 refine wpAny_pyIter_items (knd:=jf X.prog X.w) (d:=d) (kvs:=m) (ep:=ep) ⟨_,Yan _ rfl,rfl,rfl⟩ (g.push _) ?_
 have K:=u.kept (t':=j.toks) (h':=(j.heap.push { cls:=.type "dict_items", data:=.fields #[.ref d] }).push { cls:=.type "dict_itemiterator", data:=.fields #[.none,.bool false,.ref d,.int 0 0,.int m.length 0,.int ep 0,.none,.none] }) fun b o e=>YaW _ e
 refine⟨_,_,_,Iti d o kvs,A,rfl,K,zkJ B,⟨.none,.none,by rw [w];exact Yan _ rfl⟩,fun b p=>?_,q⟩
 have e:b=(j.heap.push { cls:=.type "dict_items", data:=.fields #[.ref d] }).objs.size:=by simpa using p
 subst e;exact u.fpOk (YaY _) (u.hok.fresh (YaY _))
def Itk(d:Addr)(o:Obj)(kvs:List (Key×V)):It:=
 ⟨fun i H=>(∃ p,kvs[i]?=some p)/\H d=some (.frz o (.dK kvs)),
  fun i H x H'=>H'=H/\∃ k v,kvs[i]?=some (k,v)/\x=kV k,
  fun i H=>i=kvs.length/\H d=some (.frz o (.dK kvs))⟩
theorem ziW{o:Obj}{kvs:List (Key×V)}(he:o.data=.dict es0 ep):Turn P w K tg (Itk d o kvs) [it] it (fun i h=>h.IsKeyIter it d i kvs.length ep) where
 mem:=by simp
 obj:=fun i h st b hb=>by
  have e:=by simpa using hb
  subst e;obtain⟨o,e,c,d⟩:=st
  simp_all
 keep:=fun i h h' st k=>by
  obtain⟨o,e,c,d⟩:=st;exact⟨o,k it (by simp) o e,c,d⟩
 item:=by
  intro X hP hw hK hc i pins s σ H E I hf st hg;subst hP hw hK;obtain⟨⟨⟨k,x⟩,hx⟩,hH⟩:=hg;obtain⟨vs,ep',es,hd,hex,he',hs,hkv,hdict,_⟩:=Zt I hH;have eep:ep'=ep:=by rw [he] at he';cases he';rfl
  subst eep;have hl:=Wa4 hkv;obtain⟨⟨k',u⟩,hu,hk,ru⟩:=zdq hkv hx;subst hk;rw [hl] at st;obtain⟨f0,f1,f2,f3,f4,f5⟩:=hf it (by simp)
  refine wpAny_pyNext_dict_item st hdict hu fun key h' hkey st' sb=>?_
  have I1:Inv X pins σ H { s with heap:=h',toks:=s.toks }:=I.turned (fun b o hb e=>(sb.2 b hb).trans e) f0 f1 f3 f4 f5
  exact⟨_,rfl,letGo_keyiter st' ⟨kV k,H,I1,zeu hkey,⟨rfl,k,x,hx,rfl⟩,by rw [hl];exact st',fun b hb=>(hf b hb).1⟩⟩
 done:=by
  intro X hP hw hK hc i pins s σ H E I hf st hg;subst hP hw hK;obtain⟨hi,hH⟩:=hg;obtain⟨vs,ep',es,hd,hex,he',hs,hkv,hdict,_⟩:=Zt I hH;have eep:ep'=ep:=by rw [he] at he';cases he';rfl
  subst eep;have hl:kvs.length=vs.length:=Wa4 hkv;rw [hl] at st hi;obtain⟨f0,f1,f2,f3,f4,f5⟩:=hf it (by simp)
  exact wpAny_pyNext_dict_end (I.ok.hd hc) st hdict (by simp_all) fun h' eb=>⟨rfl,I.turned (fun b o hb e=>eb b o hb e) f0 f1 f3 f4 f5⟩
 self:=fun _ _ _ _ _ st h=>wpAny_pyIter_keyiter st h
def zhm(tl:TE):TI:=fun σ H R=>tl σ H fun v H1=>∃ d o kvs,v=.ref d/\H1 d=some (.frz o (.dK kvs))/\R (Itk d o kvs) H1
theorem ze5{l:Expr}(A:PE X l tl):PI X tg l (zhm tl):=by
 intro j s σ H R I h;refine thn (A _ s σ H _ I h) fun v C ⟨x,n,c,p,z⟩=>?_
 obtain⟨d,o,B,rfl,u,q⟩:=z;cases(p);obtain⟨E,F,G,J,y,m,w,g,a,_⟩:=Zt c u;have i:=Wa4 g;refine wpAny_pyIter_dict w a ?_;refine⟨_,_,_,_,n,rfl,c.kept fun b o e=>YaW _ e,ziW m,⟨_,Yan _ rfl,rfl,by rw [i];rfl⟩,fun b r=>?_,q⟩
 have e:=by simpa using r
 subst e;exact c.fpOk (YaY _) (c.hok.fresh (YaY _))
theorem Inv.frzK(I:Inv X pins σ H s){kvs:List (Key×V)}(b:H l=some (.dK kvs)):∃ o,Inv X pins σ (upd H l (.frz o (.dK kvs))) s:=by
 obtain⟨c,m,i,g,o,n,j,a,h,r⟩:=(I.hok l _ b);exact⟨o,I.write (by rw [b];exact True.intro) (.inl rfl) (fun _ _ _ e=>e) ⟨o,a⟩ ⟨a,c,m,i,g,o,n,j,a,h,r⟩⟩
theorem Inv.thawK(I:Inv X pins σ H s){o:Obj}{kvs:List (Key×V)}(hl:H l=some (.frz o (.dK kvs)))(h0:∀ o u,X.H₀ l≠some (.frz o u)):Inv X pins σ (upd H l (.dK kvs)) s:=by
 obtain⟨ho,hz,hs,vs,hp,o',es,ep,ho',hx,r⟩:=(I.hok l _ hl);have nn:∀ b,H b=none->b≠l:=fun b e z=>by simp_all
 refine⟨I.ok,I.os,I.bare,⟨I.base.keep,I.base.slot,fun b ob q n hx=>?_,I.base.there,fun b xs q=>?_,fun b ob u q=>?_,fun b ps q=>?_⟩,I.loc,I.cell,?_,fun x c e=>?_,fun p h=>?_,fun b u q=>?_,I.len⟩
 . have e:=I.base.free b ob q n hx;rw [zc (nn b e)];exact e
 . have e:=I.base.tups b xs q;rw [zc (fun z=>by rw [z,hl] at e;cases e)];exact e
 . have e:=I.base.frzs b ob u q;rw [zc (fun z=>by rw [z] at q;exact h0 _ _ q)];exact e
 . obtain⟨m,e⟩:=I.base.tbls b ps q;exact⟨m,by rw [zc (fun z=>by simp_all)];exact e⟩
 . rw [zc (nn _ I.free)];exact I.free
 . rw [zc (nn _ (I.freeC x c e))];exact I.freeC x c e
 . obtain⟨a1,a2,a3⟩:=I.pin p h
   exact⟨a1,by rw [zc (nn _ a2)];exact a2,a3⟩
 . by_cases hb:b=l
   . subst hb
     rw [zf] at q;cases q;exact⟨hz,hs,vs,hp,o',es,ep,ho',hx,r⟩
   . rw [zc hb] at q
     exact(I.hok b u q).stay (fun c v _ r=>r) (fun c r=>by rw [zc (fun z=>by simp_all)];exact r) fun c xs r=>by rw [zc (fun z=>by rw [z,hl] at r;cases r)];exact r
noncomputable def Z6(X:Cx)(N:List Str)(qual:Str)(scope:Scope)(f:Addr)(cd:Value)(cl:List (Str×Addr))(A:Around)(s:Shared)(H:Hp):Cx where
 prog:=X.prog
 w:=X.w
 K:=X.K
 mg:=X.mg
 base:=X.base
 A:=A.deeper (PySem.W.envX qual scope s.heap.objs.size f cd cl)
 N:=N
 s₀:=s
 H₀:=H
 env:=PySem.W.envX qual scope s.heap.objs.size f cd cl
 outer:=X.stack
 stack:=PySem.W.envX qual scope s.heap.objs.size f cd cl::X.stack
 ex:=[]
 calm:=true
 fn:=fun _=>false
 pn:=[]
 xe:=fun _ _=>False
structure LamSc(sc:Scope)(x y:Str):Prop where
 kind:sc.kind=.function
 co:sc.isCoroutine=false
 gen:sc.isGenerator=false
 nocell:∀ z∈sc.names,z.2≠.cell
 par:sc.names.lookup x=some .local
 cap:sc.names.lookup y=some .free
 only:∀ z,sc.names.lookup z=some .free->z=y
theorem LamSc.of{sc:Scope}{x y:Str}(only:(sc.names.all fun p=>(p.2 != .free||p.1==y)&&p.2 != .cell)=true)(kind:sc.kind=.function)(co:sc.isCoroutine=false)(gen:sc.isGenerator=false)(par:sc.names.lookup x=some .local)(cap:sc.names.lookup y=some .free)(_:True):LamSc sc x y where
 kind:=kind
 co:=co
 gen:=gen
 nocell:=fun z hz e=>by
  have:=WaN.mp only z hz
  simp_all
 par:=par
 cap:=cap
 only:=fun z hz=>by
  have:=WaN.mp only _ (Wap hz)
  simp at this
  exact this
theorem zft{α β : Type}[BEq α][LawfulBEq α]{l:List (α×β)}{a:α}{b:β}(h:l.lookup a=some b):(a,b)∈l:=by
 induction l with
 | nil=>cases h
 | cons p r ih=>
  obtain⟨c,d⟩:=p;rw [List.lookup_cons] at h;cases e:a==c with
  | true=>simp_all
  | false=>rw [e] at h;exact .tail _ (ih h)
section
variable{x:Str}{sc:Scope}{f c:Addr}{tu:Value}{v tv:V}
theorem zk9(S:LamSc sc x y)(G:x≠y)(I:Inv X pins σ H s)(N:A.frames=some X.stack)(M:A.handled=none)(J:RelV v u)(O:RelV tv tu)(L:s.heap.IsCell c (some tu))(B:H c=none){h₁ : Heap}
 (E:h₁.Ns s.heap.objs.size fun z=>[(x,u)].reverse.lookup z) (r:∀ b o,s.heap.get? b=some o->h₁.get? b=some o) :
 Inv (Z6 X [x,y] qual sc f cd [(y,c)] A s H) [] [some v,some tv] H { s with heap:=h₁,toks:=tk }:=by
 have n:h₁.IsCell c (some tu):=by obtain⟨o,e,d⟩:=L;exact⟨o,r _ _ e,d⟩
 have q:∀ z C,([(y,c)]).lookup z=some C->z=y/\C=c:=fun z C e=>by
  have:=zft e
  simp at this
  exact this
 have l:∀ b:Addr,b∉(Z6 X [x,y] qual sc f cd [(y,c)] A s H).ex:=fun b z=>absurd (show b∈([]) from z) (by simp)
 refine⟨⟨I.ok.mod,S.kind,rfl,rfl,YaY _,fun a b d g j=>?_,fun a m=>?_,fun a d F _=>absurd (show false=true from F) (by simp),fun _=>M,Around.frames_deeper N,.inr ⟨rfl,rfl⟩,fun b z=>absurd z (l b),I.bs,Ya5 I.ok.bsz I.sz,fun b _ _=>l b,fun b z=>absurd z (l b),I.stack,I.stkFree⟩,
  rfl,I.bare,Un.kept r,⟨_,E,fun i z w g j P=>?_⟩,fun a d h=>?_,I.hok.fresh (YaY _),fun a d h=>?_,fun p K=>absurd (show p∈([]) from K) (by simp),I.hok.kept r,rfl⟩
 . rw [(q _ _ g).1,(q _ _ j).1]
 . rcases m with m|m
   . exact absurd rfl (S.nocell _ (zft m))
   . rw [S.only a m];exact⟨c,by show List.lookup y [(y,c)]=_;simp⟩
 . have g:([x,y])[i]?=some z:=g
   match i,g,j with
   | 0,g,j=>
    cases g;cases j
    exact⟨u,J,.inl ⟨S.par,by simp⟩⟩
   | 1,g,j=>
    cases g;cases j
    exact⟨tu,O,.inr ⟨.inr S.cap,c,by show List.lookup y [(y,c)]=_;simp,n⟩⟩
   | i+2,g,j=>simp at g
 . have:=(q _ _ h).2;rw [this];exact⟨_,n⟩
 . have:=(q _ _ h).2;rw [this];exact B
theorem zhP(S:LamSc sc x y)(l:x≠y)(I:Inv X pins σ H s)(M:A.frames=some X.stack)(J:A.handled=none)(a:A.depth<recursionLimit)(F:RelV v u)(N:RelV tv tu)(G:s.heap.IsCell c (some tu))(m:H c=none)
       {Q:VK}
 (B:s.heap.get? f=some (PySem.W.kla_obj name qual params body sc [(y,c)] pm cd' ctv)) (n:s.heap.CodeRec (.ref cd') qual)
 (g:bindArgs (PySem.W.kla_fn name qual params body sc [(y,c)] pm (.ref cd') ctv) ⟨[u],[]⟩=pure [(x,u)])
 (K:PE (Z6 X [x,y] qual sc f (.ref cd') [(y,c)] A s H) body t) (E:t [some v,some tv] H Q) :
 wpAny (model X.prog X.w) A (call (.ref f) [u]) (fun r s'=>∃ v' H',Inv X pins σ H' s'/\Un (frs X.stack) [] H H' s.heap s'.heap/\RelV v' r/\Q v' H') (fun _ _=>False) s:=by
 refine wpAny_call (PySem.W.kla_callFunE a B rfl S.co S.gen rfl n ?_)
 rw [g];refine wpAny_pure (wpAny_newFunctionEnv S.nocell (fun z L=>?_) (fun w p i=>⟨I.nolimit.fresh _ i,?_⟩) S.kind)
 . obtain rfl:z=(x,u):=Ya6.mp L
   exact S.par
 have h:=fun b o e=>i.extBut b o (Yaf (YaX e)) (YaW _ e)
 have C:=zk9 (cd:=.ref cd') (f:=f) (qual:=qual) (tk:=s.toks+[(x,u)].length) S l I M J F N G m p h;refine PySem.W.kla_codeExpr (wpAny_mono (K [] _ _ H Q C E) (fun r s' O=>?_) fun _ _ z=>z.elim)
 obtain⟨v',H',j,P,q⟩:=O;exact⟨v',H',I.call' j.os j.base j.hok j.bare (fun b z=>absurd (show b∈([]) from z) (by simp)),j.base,P,q⟩
end
variable[LamW]
def TabS(b:Bool)(P:Addr)(H:Hp):Prop:=match b with
 | true=>H P=some (tab0 P)
 | false=>Lk P H
def MvS(b:Bool)(P:Addr)(H H1:Hp):Prop:=match b with
 | true=>(∃ c',H c'=none/\H1=upd (upd H P (tabA P c' LamW.pos)) c' (Jc c' LamW.q))/\(∀ C,tab0 P≠excO P C)/\∀ q,tab0 P≠Jc P q
 | false=>H1=H
theorem TabS.at{b:Bool}{P:Addr}{H:Hp}(h:TabS b P H):∃ o,H P=some o:=by
 cases b with
 | true=>exact⟨_,h⟩
 | false=>
  obtain⟨_,h,_⟩:=h;exact⟨_,h⟩
theorem MvS.x{b:Bool}{P:Addr}{H H1:Hp}(l:TabS b P H)(m:MvS b P H H1):zi H H1:=by
 cases b with
 | true=>
  obtain⟨⟨c,j,rfl⟩,n⟩:=m;have l:H P=some _:=l;have g:P≠c:=fun z=>by grind
  intro a o e;have i:a≠c:=fun z=>by grind
  by_cases h:a=P
  . subst h
    rw [l] at e;cases e;exact .inr ⟨rfl,n,c,by rw [zc g,zf],zf⟩
  . exact .inl (by rw [zc i,zc h];exact e)
 | false=>
  cases(m)
  exact zi.refl _
theorem zhF{P:Addr}(a:h.get? P=some (PySem.W.tabObj #[])):(∀ C,tab0 P≠excO P C)/\∀ q,tab0 P≠Jc P q:=by
 refine⟨fun C z=>?_,fun q z=>?_⟩
 . have e:=HO.ext.inj z
   have y:=(congrFun e h).mp a
   simp_all
 . have e:=HO.ext.inj z
   have y:=(congrFun e h).mp a;obtain⟨b,m,l,t,g,i,j,c⟩:=y
   simp_all
theorem zjK(r:h.CodeRec (.ref c') q):zV P w H h c' (Jc c' q):=by
 obtain⟨c2,oc,vs,t,e,ho,hd,hv⟩:=id r;cases e;exact⟨r,⟨oc,ho⟩,fun h1 h2 zz0 k=>by obtain⟨c2,oc,vs,t,e,ho,hd,hv⟩:=zz0;exact by cases e;exact⟨_,oc,vs,t,rfl,k _ ho,hd,hv⟩⟩
section
variable{sc:Scope}{b:Bool}
theorem zkH(I:Inv X pins σ H s){P:Addr}{c0:Addr}{params:Arguments}{body:Expr}{pos:Pos}{clos:List (Str×Addr)}(hpos:pos=LamW.pos)(hqn:X.env.qual ++ "<lambda>" = LamW.q){Q:Value->Shared->Prop}{E:Value->Shared->Prop}
 (hP:TabS b P H) (hC:PySem.W.CodeHd X.base c0 P) (hcode:X.env.code=.ref c0) (hB:∃ bm o,X.mg "__builtins__" = some (.ref bm)/\bm≠builtinsNs/\bm≠mainGlobals/\X.base.get? bm=some o/\o.cls=.type "module"/\o.dict=some builtinsNs/\o.data=.plain)
 (hdef:defaultsOf params X.env=([],[])) (hcl:closureFor sc X.env=pure clos)
 (h:∀ f c' ctv s' H1,MvS b P H H1->H1 c'=some (Jc c' (X.env.qual ++ "<lambda>"))->s.heap.objs.size<=f->
  Inv X (pins++[(f,PySem.W.kla_obj "<lambda>" (X.env.qual ++ "<lambda>") params body sc clos ((X.mg "__name__").getD .none) c' ctv)]) σ H1 s'->Q (.ref f) s') :
 wpAny (model X.prog X.w) A (eval (.Lambda params body sc pos) X.env) Q E s:=by
 have hPn:∃ o,H P=some o:=hP.at;have ne0:∀ b o,X.base.get? b=some o->b≠P:=fun b o e z=>by
  have:=(I.bs b o e).2;obtain⟨u,hu⟩:=hPn;rw [z,hu] at this;cases this
 have hg:=I.ok.mod.glob.keeps I.bk;have hgP:mainGlobals≠P:=by
  obtain⟨o,es,ep,e,_⟩:=I.ok.mod.glob;exact ne0 _ _ e
 obtain⟨bm,ob,b1,b2,b3,b4,b5⟩:=hB;cases b with
 | true=>
  obtain⟨hp0,_,_⟩:=I.hok P _ hP;refine PySem.W.kla_eval hdef (PySem.W.kla_makeFunction (mg:=X.mg) hcl I.ok.glob hg hcode (hC.keeps I.bk) hp0 trivial rfl hgP ⟨bm,ob,b1,b2,b3,ne0 _ _ b4,I.bk _ _ b4,b5⟩ fun c' ctv h' tk hx hge hlt hrec htb=>?_)
  have hk:∀ (o:Obj) b u,b≠P->s.heap.get? b=some u->(h'.push o).get? b=some u:=fun o b u hb e=>YaW _ (hx b u hb e)
  have hPlt:P<s.heap.objs.size:=YaX hp0;have hsz:=Wbd (War hge hlt);have htb2:∀ o:Obj,(h'.push o).get? P=some _:=fun o=>YaW _ (by simpa using htb)
  have I1:Inv X pins σ (upd H P (tabA P c' pos)) { s with heap:=h'.push (PySem.W.kla_obj "<lambda>" (X.env.qual ++ "<lambda>") params body sc clos ((X.mg "__name__").getD .none) c' ctv),toks:=tk }:=
   I.write (by rw [hP];trivial) (.inl rfl) (fun b u hb e=>hk _ b u hb e) ⟨_,htb2 _⟩ ⟨⟨_,htb2 _,by simpa using TriplesOk_snoc pos.line pos.col (.ref c') [] trivial,by simpa using codeAmong_snoc (pos:=pos) (c:=.ref c') [] trivial rfl⟩,⟨_,htb2 _⟩,fun h1 h2 zz0 k=>by obtain⟨ps,e,r⟩:=zz0;exact⟨ps,k _ e,r⟩⟩
  have hcn:H c'=none:=I.hok.fresh hge;have hcn1:upd H P (tabA P c' pos) c'=none:=by rw [zc (Wbe (YaU hPlt hge))];exact hcn
  have I2:=I1.track hcn1 (Ya5 I.sz hge) (Wbe (YaU I.lt hge)) (fun z c e q=>by
   obtain⟨v,o,ho,_⟩:=I.cell z c e;exact absurd (YaU (YaX ho) hge) (by rw [q];exact Yap _))
   (fun p hp q=>absurd (YaU (YaX (I.pin p hp).1) hge) (by rw [q];exact Yap _)) (zjK (by
    obtain⟨c2,oc,vs,t,e,ho,hd,hv⟩:=hrec;cases e;exact⟨_,oc,vs,t,rfl,YaW _ ho,hd,hv⟩))
  have hfn:upd (upd H P (tabA P c' pos)) c' (Jc c' (X.env.qual ++ "<lambda>")) h'.objs.size=none:=by
   rw [zc (Wbe hlt),zc (Wbe (YaU hPlt hsz))];exact I.hok.fresh hsz
  refine h h'.objs.size c' ctv _ _ ⟨⟨c',hcn,by rw [hqn,hpos]⟩,zhF hp0⟩ zf hsz (I2.pins_of fun p hp=>?_)
  rcases Ya3.mp hp with hp|hp
  . exact I2.pin p (Yaa _ hp)
  . obtain rfl:=Ya6.mp hp
    exact⟨Yan _ rfl,hfn,Wbe (YaU I.lt hsz),I.nofs hsz,fun v z=>by cases z⟩
 | false=>
  obtain⟨c',hP,hc'⟩:=hP;rw [<-hpos] at hP;rw [<-hqn] at hc';obtain⟨⟨ps,hp0,ht,hf⟩,_,_⟩:=I.hok P _ hP;refine PySem.W.kla_eval hdef (PySem.W.kla_makeFunctionHit (mg:=X.mg) hcl I.ok.glob hg hcode (hC.keeps I.bk) hp0 ht hf ⟨bm,ob,b1,b2,b3,ne0 _ _ b4,I.bk _ _ b4,b5⟩ fun ctv h' tk hk hsz=>?_)
  have I1:Inv X pins σ H { s with heap:=h'.push (PySem.W.kla_obj "<lambda>" (X.env.qual ++ "<lambda>") params body sc clos ((X.mg "__name__").getD .none) c' ctv),toks:=tk }:=I.kept (t':=tk) fun b o e=>YaW _ (hk b o e)
  refine h h'.objs.size c' ctv _ H rfl hc' hsz (I1.pins_of fun p hp=>?_)
  rcases Ya3.mp hp with hp|hp
  . exact I1.pin p (Yaa _ hp)
  . obtain rfl:=Ya6.mp hp
    exact⟨Yan _ rfl,I.hok.fresh hsz,Wbe (YaU I.lt hsz),I.nofs hsz,fun v z=>by cases z⟩
end
end L2
namespace L3
open PySem PySem.Spec PyProof.Rows L2
variable[LamW]
def BMod(mg:Str->Option Value)(base:Heap):Prop:=∃ bm o,mg "__builtins__" = some (.ref bm)/\bm≠builtinsNs/\bm≠mainGlobals/\base.get? bm=some o/\o.cls=.type "module"/\o.dict=some builtinsNs/\o.data=.plain
structure LamIn(X:Cx)(P c0 cy:Addr)(x y:Str)(it:Nat)(params:Arguments)(body:Expr)(sc:Scope):Prop where
 S:LamSc sc x y
 ne:x≠y
 ix:X.N[it]?=some y
 kd:X.env.kindOf y=some .cell
 lk:X.env.cells.lookup y=some cy
 hd:PySem.W.CodeHd X.base c0 P
 code:X.env.code=.ref c0
 bm:BMod X.mg X.base
 defs:defaultsOf params X.env=([],[])
 clos:closureFor sc X.env=pure [(y,cy)]
 bind:∀ pm cd ctv u,bindArgs (PySem.W.kla_fn "<lambda>" (X.env.qual ++ "<lambda>") params body sc [(y,cy)] pm cd ctv) ⟨[u],[]⟩=pure [(x,u)]
def spU(P:Addr)(K:Ybf)(sp:Sp3):Sp:=fun vs H Q E=>TabU P H/\spL K sp vs H Q E
structure DfU(tb:Addr)(P:Program)(w:World)(K:Ybf)(mg:Str->Option Value)(base:Heap)(k:Nat)(x:Str)(ps:List Str)(sp:Sp3):Prop where
 mono:∀ ds (Q Q':Bool->D->Prop) (E E':Addr->Prop),(∀ f d,Q f d->Q' f d)->(∀ d,E d->E' d)->sp ds Q E->sp ds Q' E'
 ok:Df P w K mg base k x ps (spU tb K sp)
theorem fnU{P:Program}{w:World}{K:Ybf}{mg:Str->Option Value}{base:Heap}{x qual:Str}{st:Stmt}{f tb:Addr}{fd:FuncData}{N ps:List Str}{k:Nat}{sp:Sp3}{cv:Value->Prop}(F:Fun K x qual st f fd)(i:cv fd.code)(S:FnScope N ps (zh st))(b:∀ ds Q E,sp ds Q E->ds.length=ps.length)
 (a:∀ (cdv:Value) (A:Around) (outer:List Env) (s:Shared) (H:Hp) (E:XK) (E3:Addr->Prop),cv cdv->TabU tb H->(∀ C H',E3 C->zi H H'->E (.ref C) none H')->Room k (A.deeper (envOfC qual (zh st) s.heap.objs.size f cdv))->
  ∃ t,PSs3 (cxOf (CXR P w) P w K mg base N qual (zh st) f cdv A outer s H E) H (jO st) t/\∀ ds Q,sp ds Q E3->t { nx:=fun _=>Q true .none,rt:=Q } (Ja N ds)):FnOk P w K mg base (CXR P w) (k+1) f fd ps (spU tb K sp):=by
 obtain⟨U,T,W,m,M,R,cdv,O,L,rfl,n,c⟩:=F.ex;refine zbm n c S (fun l H Q E h=>?_) (fun A outer s H l Q E J h=>?_)
 . obtain⟨_,G,ds,_,r,h⟩:=h
   rw [r.length];exact b _ _ _ h
 . obtain⟨u,G,ds,I,r,h⟩:=h
   obtain⟨t,p,o⟩:=a cdv A outer s H E (fun C=>∀ H',zi H H'->E _ none H') i u (fun C H' e z=>e H' z) J
   exact⟨_,p,G,_,_,G,zfN I r,o ds _ h,⟨fun ρ σ j H' B q=>q .non j H' B.gr0 (.sc rfl .non),fun f d v j H' g y q=>q v j H' g y,fun _ _ _ _ _ q=>q.elim,fun _ _ _ _ _ q=>q.elim,fun _ _ _ _ _ _ _ _ _ q=>q.elim⟩⟩
end L3
namespace L2
open PySem PySem.Spec PyProof.Rows
section
variable{q I S:Addr}{N:Nat}{Rv:Nat->Value->Prop}{R:Result->Shared->Prop}
def Best(kf:Nat->Int)(n i:Nat):Prop:=∀ j,j<n->kf i<=kf j/\(j<i->kf i<kf j)
structure MinJ(prog:Program)(w:World)(A:Around)(l q:Addr)(N:Nat)(Rv:Nat->Value->Prop)(kf:Nat->Int)(I S:Addr)(J:Shared->Prop):Prop where
 list:∀ s,J s->∃ vs:List Value,vs.length=N/\s.heap.IsList l vs.toArray/\∀ i v,vs[i]?=some v->Rv i v
 own:∀ b s h' tk',J s->b=I\/b=S->(∀ c o,c≠b->s.heap.get? c=some o->h'.get? c=some o)->J { s with heap:=h',toks:=tk' }
 turn:∀ i v s,i<N->Rv i v->J s->(∃ o,s.heap.get? I=some o)->(∃ o,s.heap.get? S=some o)->
  wpAny (model prog w) A (call (.ref q) [v]) (fun x s'=>(∃ t,x=.int (kf i) t)/\J s'/\s'.heap.get? I=s.heap.get? I/\s'.heap.get? S=s.heap.get? S) (fun _ _=>False) s
theorem zlO(hh:A.handled=none)(Y:l≠I)(B:S≠I)(M:MinJ prog w A.in1 l q N Rv kf I S J)(hR:∀ i v s,i<N->Rv i v->Best kf N i->J s->R (.ok (.ret v)) s) :
 ∀ (r j i:Nat) (s:Shared) (vb:Value) (tb:Tok) (c:Nat),N - (j+1)=r->j+1<=N->J s->s.heap.get? S=some (seqObj "list" #[vb,.int (kf i) tb] c)->s.heap.IsListIter I l (j+1)->Rv i vb->i<=j->Best kf (j+1) i->
  codeAny (model prog w) A (.builtin "min.loop" ⟨[.ref I,.ref q,.ref S],[]⟩) R s:=by
 have m:(toString "min" ++ toString ".loop" : String) = "min.loop":=#[1]
 intro r
 induction r with
 | zero=>
  intro j i s vb tb c hr hj hJ L y H a6 a;have T:j+1=N:=#[0]
  obtain⟨z,E,hl,a0⟩:=M.list _ hJ;have W:=Walks.list (prog:=prog) (w:=w) (A:=A.in1) hh I l Y z.toArray;have F:z.toArray.size=z.length:=YaZ ..;refine codeAny_builtin Wal ?_;rw [Around.under_plainId Wam _];show wpAny _ A.in1 (seqItems? (.ref S) >>= _) _ _ _;refine wpAny_bind (wpAny_seqItems L rfl ?_);show wpAny _ A.in1 (tryCatch (pyNext (.ref I)) _ >>= _) _ _ _
  refine wpAny_bind (wpAny_tryCatch (W.done _ _ _ ⟨by rw [F,E,<-T];exact y,hl⟩ fun h' G g=>?_))
  have J1:=M.own I s h' G hJ (.inl rfl) fun b o n e=>g b o (by simpa using n) e
  have s1:=Heap.SameBut.update h' S (Obj.mapSeq fun _=>(#[]:Array Value))
  show wpAny _ A.in1 (updateSeq S (fun _=>#[]) >>= _) _ _ _
  refine wpAny_bind ?_
  refine wpAny_updateSeq (g S _ (by simpa using B) L) rfl (wpAny_bind (wpAny_letGo (wpAny_pure ?_)))
  exact hR i vb _ #[0] H (T ▸ a) (M.own S _ _ _ J1 (.inr rfl) fun b o n e=>(s1.2 b n).trans e)
 | succ r ih=>
  intro j i s vb tb c hr hj hJ L y H a6 a;have p:j+1<N:=#[0]
  obtain⟨z,E,hl,a0⟩:=M.list _ hJ;have W:=Walks.list (prog:=prog) (w:=w) (A:=A.in1) hh I l Y z.toArray;have F:z.toArray.size=z.length:=YaZ ..;refine codeAny_builtin Wal ?_;rw [Around.under_plainId Wam _];show wpAny _ A.in1 (seqItems? (.ref S) >>= _) _ _ _;refine wpAny_bind (wpAny_seqItems L rfl ?_);show wpAny _ A.in1 (tryCatch (pyNext (.ref I)) _ >>= _) _ _ _
  refine wpAny_bind (wpAny_tryCatch (W.item (j+1) _ _ _ (by rw [F,E];exact p) ⟨y,hl⟩ fun v h' G hP a2 g=>?_))
  have hv:Rv (j+1) v:=a0 _ _ (by simpa using hP)
  obtain⟨a1,u,Z,X⟩:=id a2.1;have J1:=M.own I s h' G hJ (.inl rfl) fun b o n e=>g b o (by simpa using n) e
  have O:=g S _ (by simpa using B) L
  show wpAny _ A.in1 (tryCatch (holding [v] (call (.ref q) [v])) _ >>= _) _ _ _
  refine wpAny_bind (wpAny_tryCatch (wpAny_holding (wpAny_mono (M.turn (j+1) v _ p hv J1 ⟨_,u⟩ ⟨_,O⟩) (fun x s2 he=>?_) fun _ _ hF=>hF.elim)))
  obtain⟨⟨K,rfl⟩,J2,eI,eS⟩:=he;have a3:=eI.trans u;have C:=eS.trans O;refine wpAny_bind (wpAny_tryCatch (wpAny_holding (wpAny_bind (CmpOf.ints_lt (prog:=prog) (w:=w) (A:=A.in1) (P:=fun i v=>∃ t,v=.int (kf i) t) kf (fun i v h=>h) (j+1) i _ _ _ _ _ ⟨K,rfl⟩ ⟨tb,rfl⟩ ?_))))
  refine wpAny_bind (wpAny_holding (wpAny_truthy_bool ?_))
  refine wpAny_bind (wpAny_letGo (wpAny_pure ?_))
  by_cases U:kf (j+1)<kf i
  . have s1:=Heap.SameBut.update s2.heap S (Obj.mapSeq fun _=>#[v,.int (kf (j+1)) K])
    obtain⟨c2,a4⟩:∃ c2,(s2.heap.update S (Obj.mapSeq fun _=>#[v,.int (kf (j+1)) K])).get? S=some (seqObj "list" #[v,.int (kf (j+1)) K] c2):=⟨_,get?_update_seq C fun _=>#[v,.int (kf (j+1)) K]⟩
    simp only [U,decide_true,if_true];refine wpAny_bind ?_;refine wpAny_updateSeq C rfl (wpAny_bind (wpAny_letGo ?_));rw [m];refine wpAny_pure ⟨plainId_quiet Wam _,ih (j+1) (j+1) _ v K c2 #[0] p (M.own S _ _ _ J2 (.inr rfl) fun b o n e=>(s1.2 b n).trans e) a4 ⟨a1,(s1.2 I B.symm).trans a3,Z,X⟩ hv (YaY _) fun Q a5=>?_⟩
    by_cases e:Q=j+1
    . subst e
      exact⟨#[0],fun _=>by omega⟩
    . have a7:=(a Q #[0]).1
      exact⟨#[0],fun _=>by omega⟩
  . simp only [U,decide_false,Was,if_false]
    refine wpAny_bind (wpAny_letGo ?_)
    rw [m];refine wpAny_pure ⟨plainId_quiet Wam _,ih (j+1) i _ vb tb c #[0] p J2 C ⟨a1,a3,Z,X⟩ H #[0] fun Q a5=>?_⟩
    by_cases e:Q=j+1
    . subst e
      exact⟨#[0],fun _=>by omega⟩
    . exact a Q #[0]
theorem ziD{s:Shared}{kf:Nat->Int}{J:Addr->Addr->Shared->Prop}(hh:A.handled=none){vs0:List Value}(hl:s.heap.IsList l vs0.toArray)(hne:0<N)
 (M:∀ I S,s.heap.objs.size<=I->I<S->MinJ prog w A.in1 l q N Rv kf I S (J I S))
 (h0:∀ I S h',(∀ b o,s.heap.get? b=some o->h'.get? b=some o)->s.heap.objs.size<=I->I<S->J I S { s with heap:=h' })
 (hQ:∀ I S i v s',i<N->Rv i v->Best kf N i->J I S s'->Q v s') :
 wpAny (model prog w) A (call (.builtin "min") [.ref l] [(Str.ofString "key", .ref q)]) Q E s:=by
 have hname:(toString "min" ++ toString ".loop" : String) = "min.loop":=#[1]
 obtain⟨ol,hol,_⟩:=id hl;have hlI:l≠s.heap.objs.size:=Yaf (YaX hol);refine kmk_tree PySem.F.kind_min PySem.F.plain_min PySem.F.entry_min (kmk_min_key _ _) ?_;refine wpAny_bind (wpAny_of_eq (show Builtin.Builtins.bindParams "min" ["key", "default"] 0 ⟨[],[(Str.ofString "key", .ref q)]⟩=pure [some (.ref q),none] from rfl) ?_)
 refine wpAny_bind (wpAny_pure ?_)
 refine wpAny_bind (wpAny_pyIter_list hl ?_)
 refine wpAny_bind (wpAny_newList ?_ (Wbm _))
 rw [hname];have hS:(s.heap.push { cls:=.type "list_iterator", data:=.fields #[.ref l,.int 0 0] }).objs.size=s.heap.objs.size+1:=size_push' ..;have hSI:(s.heap.push { cls:=.type "list_iterator", data:=.fields #[.ref l,.int 0 0] }).objs.size≠s.heap.objs.size:=by rw [hS];exact Wbe (WaL _)
 refine wpAny_pure ⟨plainId_quiet Wam _,?_⟩
 have M:=M s.heap.objs.size (s.heap.push { cls:=.type "list_iterator", data:=.fields #[.ref l,.int 0 0] }).objs.size (YaY _) (by rw [hS];exact WaL _)
 have J0:=h0 s.heap.objs.size (s.heap.push { cls:=.type "list_iterator", data:=.fields #[.ref l,.int 0 0] }).objs.size ((s.heap.push { cls:=.type "list_iterator", data:=.fields #[.ref l,.int 0 0] }).push (seqObj "list" #[] 0)) (fun b x e=>YaW _ (YaW _ e)) (YaY _) (by rw [hS];exact WaL _)
 have gI:((s.heap.push { cls:=.type "list_iterator", data:=.fields #[.ref l,.int 0 0] }).push (seqObj "list" #[] 0)).get? s.heap.objs.size=some { cls:=.type "list_iterator", data:=.fields #[.ref l,.int 0 0] }:=
  YaW _ (Yan _ rfl)
 have gS:((s.heap.push { cls:=.type "list_iterator", data:=.fields #[.ref l,.int 0 0] }).push (seqObj "list" #[] 0)).get? (s.heap.push { cls:=.type "list_iterator", data:=.fields #[.ref l,.int 0 0] }).objs.size=some (seqObj "list" #[] 0):=Yan _ rfl;generalize (s.heap.push { cls:=.type "list_iterator", data:=.fields #[.ref l,.int 0 0] }).objs.size=S at *;generalize hI:s.heap.objs.size=I at *
 obtain⟨vs,hvl,hl,hvr⟩:=M.list _ J0;have W:=Walks.list (prog:=prog) (w:=w) (A:=A.in1) hh I l hlI vs.toArray;have hsz:vs.toArray.size=vs.length:=YaZ ..;refine codeAny_builtin Wal ?_;rw [Around.under_plainId Wam _];show wpAny _ A.in1 (seqItems? (.ref S) >>= _) _ _ _;refine wpAny_bind (wpAny_seqItems gS rfl ?_);refine wpAny_bind (wpAny_tryCatch (W.item 0 _ _ _ (by rw [hsz,hvl];exact hne) ⟨⟨_,gI,rfl,rfl⟩,hl⟩ fun v h' tk' hP hst' hk'=>?_))
 have hv:Rv 0 v:=hvr _ _ (by simpa using hP)
 obtain⟨oI',hoI',hoc,hod⟩:=id hst'.1;have J1:=M.own I _ h' tk' J0 (.inl rfl) fun b o n e=>hk' b o (by simpa using n) e
 have hS1:=hk' S _ (by simpa using hSI) gS
 refine wpAny_bind (wpAny_tryCatch (wpAny_holding (wpAny_mono (M.turn 0 v _ hne hv J1 ⟨_,hoI'⟩ ⟨_,hS1⟩) (fun x s2 he=>?_) fun _ _ hF=>hF.elim)))
 obtain⟨⟨t2,rfl⟩,J2,eI,eS⟩:=he;have hI2:=eI.trans hoI';have hS2:=eS.trans hS1;have s1:=Heap.SameBut.update s2.heap S (Obj.mapSeq fun _=>#[v,.int (kf 0) t2])
 obtain⟨c2,hc2⟩:∃ c2,(s2.heap.update S (Obj.mapSeq fun _=>#[v,.int (kf 0) t2])).get? S=some (seqObj "list" #[v,.int (kf 0) t2] c2):=⟨_,get?_update_seq hS2 fun _=>#[v,.int (kf 0) t2]⟩
 refine wpAny_bind ?_
 refine wpAny_updateSeq hS2 rfl ?_
 rw [hname];refine wpAny_pure ⟨plainId_quiet Wam _,zlO hh hlI hSI M (fun i v s' a b c d=>hQ I S i v s' a b c d) _ 0 0 _ v t2 c2 rfl hne (M.own S _ _ _ J2 (.inr rfl) fun b o n e=>(s1.2 b n).trans e) hc2 ⟨oI',(s1.2 _ hSI.symm).trans hI2,hoc,hod⟩ hv (YaY _) fun j' hj'=>?_⟩
 have e:j'=0:=#[0]
 subst e;exact⟨#[0],fun h=>absurd h (Yap _)⟩
end
end L2
namespace L3
open PySem PySem.Spec PyProof.Rows L2
variable[LamW]
def rMin(P:Addr)(it:Nat)(tb:TE)(σ : L2.St)(Q:VK):V->Hp->Prop:=fun v H1=>TabU P H1/\∃ (l:Addr) (ns:List Int) (tv:V) (g:Int->Int),v=.ref l/\H1 l=some (.lst (ns.map .int))/\0<ns.length/\σ[it]?=some (some tv)/\
 (∀ n∈ns,∀ H2,zi H1 H2->tb [some (.int n),some tv] H2 fun v' H'=>v'=.int (g n)/\zi H2 H')/\∀ n H2,n∈ns->(∀ m∈ns,g n<=g m)->zi H1 H2->Q (.int n) H2
def zlR(P:Addr)(it:Nat)(tl tb:TE):TE:=fun σ H Q=>tl σ H (rMin P it tb σ Q)
def one1(r:V->Hp->Prop):List V->Hp->Prop:=fun vs H=>match vs with
 | [v]=>r v H
 | _=>False
section
variable{P cy:Addr}{x:Str}{it k:Nat}{sc:Scope}{gens:List Comprehension}{csc:Scope}{cp:Pos}{tb:TE}{lp:Pos}
theorem zkk(hpos:lp=LamW.pos)(hqn:X.env.qual ++ "<lambda>" = LamW.q)(L:LamIn X P c0 cy x y it params body sc)(hr:Room (k+2) X.A)(hl:PE X (.ListComp elt gens csc cp) tl)
 (hb:∀ f cd' s H',Room k (Z6 X [x,y] (X.env.qual ++ "<lambda>") sc f cd' [(y,cy)] X.A.in1 s H').A->PE (Z6 X [x,y] (X.env.qual ++ "<lambda>") sc f cd' [(y,cy)] X.A.in1 s H') body tb)
 (hg:Gl X "min") (hm:X.mg "min" = none):PE X (.Call (.Name "min" np) [.ListComp elt gens csc cp] [⟨some "key", .Lambda params body sc lp,kp⟩] cpos) (zlR P it tl tb):=by
 intro pins s σ H Q I hyp;refine wpAny_Call_Name_kw (Jr I hg hm (show bootBuiltins "min" = some (.builtin "min") by rfl) ?_)
 refine callWith_kw ?_
 refine thn ((zn hl zK) cpos pins s σ H (one1 (rMin P it tb σ Q)) I hyp) fun us s1 h1=>?_
 obtain⟨vs,H1,I1,rv,e1⟩:=h1
 match vs,rv,e1 with
 | [],_,e1=>exact e1.elim
 | _::_::_,_,e1=>exact e1.elim
 | [v],rv,e1=>
 have e1:rMin P it tb σ Q v H1:=e1;obtain⟨tu,l,ns,tv,g,rfl,hl1,hne,htσ,hkey,cont⟩:=e1;obtain rfl:us=[.ref l]:=by
  cases rv with
  | cons a b=>cases b;cases a;rfl
 obtain⟨b,hPH⟩:∃ b,TabS b P H1:=tu.elim (fun h=>⟨true,h⟩) fun h=>⟨false,h⟩
 refine wpAny_evalAll_cons (wpAny_bind (zkH I1 hpos hqn hPH L.hd L.code L.bm L.defs L.clos fun fa c' ctv s2 HM mv hcH hf I2=>wpAny_bind (wpAny_standAt (wpAny_pure (wpAny_evalAll_nil ?_)))))
 show wpAny _ _ (call (.builtin "min") [.ref l] [(Str.ofString "key", .ref fa)]) _ _ s2
 have mx:zi H1 HM:=MvS.x hPH mv;have hlM:HM l=some (.lst (ns.map .int)):=mx.at hl1;obtain⟨its,rV,hpl,hz⟩:=I2.list (SqL.of hlM);have hl2:its.length=ns.length:=by rw [<-rV.length,YaR]
 have nw:∀ b:Addr,s2.heap.objs.size<=b->X.s₀.heap.objs.size<=b/\b≠X.env.locals/\(∀ z c,X.env.cells.lookup z=some c->c≠b)/\(∀ p∈X.pn++(pins++[(fa,PySem.W.kla_obj "<lambda>" (X.env.qual ++ "<lambda>") params body sc [(y,cy)] ((X.mg "__name__").getD .none) c' ctv)]),p.1≠b)/\b∉frs X.stack:=fun b hb=>by
  refine⟨Ya5 I2.sz hb,Wbe (YaU I2.lt hb),fun z c e=>?_,fun p hp=>?_,fun z=>?_⟩
  . obtain⟨v,o,ho,_⟩:=I2.cell z c e
    exact Yaf (YaU (YaX ho) hb)
  . exact Yaf (YaU (YaX (I2.pin p hp).1) hb)
  . rcases Wa5.mp (I2.stkSub b z) with q|q
    . exact Wbe (YaU I2.lt hb) q
    . exact I2.nofs hb q
 have lst:∀ {H':Hp} {s':Shared} {pl:List (Addr×Obj)},Inv X pl σ H' s'->zi HM H'->∃ vs:List Value,vs.length=ns.length/\s'.heap.IsList l vs.toArray/\∀ i v,vs[i]?=some v->RelV (.int (ns.getD i 0)) v:=fun I' sm=>by
  obtain⟨its',rV',hpl',_⟩:=I'.list (SqL.of (sm.at hlM));have hl3:its'.length=ns.length:=by rw [<-rV'.length,YaR]
  refine⟨its',hl3,hpl'.isList,fun i v hv=>?_⟩
  have hi:i<ns.length:=by rw [<-hl3];exact(Ya8.mp hv).1
  obtain⟨u,hu,ru⟩:=rV'.get (i:=i) (x:=.int ns[i]) (by rw [Ya0,YaQ hi];rfl)
  rw [hv] at hu;cases hu;rw [YaP,YaQ hi];exact ru
 refine ziD (N:=ns.length) (Rv:=fun i v=>RelV (.int (ns.getD i 0)) v) (q:=fa) (kf:=fun i=>g (ns.getD i 0))
  (J:=fun D kS s'=>∃ H',Inv X (pins++[(fa,PySem.W.kla_obj "<lambda>" (X.env.qual ++ "<lambda>") params body sc [(y,cy)] ((X.mg "__name__").getD .none) c' ctv)]) σ H' s'/\zi HM H'/\H' D=none/\H' kS=none)
  hr.hd hpl.isList hne (fun D kS hD hlt=>?_) (fun D kS h' hk hD hlt=>?_) (fun D kS i v s' hi ru hbest hJ=>?_)
 . have hkS:s2.heap.objs.size<=kS:=Ya5 hD (Wbd hlt)
   refine⟨fun s' zz0=>by obtain⟨H',I',sm,_⟩:=zz0;exact lst I' sm,fun b s' h' tk' hJ hb sb=>?_,fun i v s' hi ru hJ hoD hoK=>?_⟩
   . obtain⟨H',I',sm,n1,n2⟩:=hJ
     have hbb:H' b=none/\s2.heap.objs.size<=b:=by
      rcases hb with rfl|rfl
      . exact⟨n1,hD⟩
      . exact⟨n2,hkS⟩
     obtain⟨w1,w2,w3,w4,_⟩:=nw b hbb.2;exact⟨H',I'.turned (t':=tk') (fun c o ne e=>sb c o ne e) hbb.1 w2 (.inr w1) w3 w4,sm,n1,n2⟩
   . obtain⟨H',I',sm,n1,n2⟩:=hJ
     obtain⟨oD,eD⟩:=hoD;obtain⟨oK,eK⟩:=hoK;have hnm:ns.getD i 0∈ns:=by rw [YaP,YaQ hi];exact Ya4 hi
     have ru:RelV (.int (ns.getD i 0)) v:=ru;obtain⟨m,hns,hloc⟩:=id I'.loc;obtain⟨tu,rt,lk⟩:=hloc it y tv L.ix htσ (.inr (.inl L.kd));have hcell:s'.heap.IsCell cy (some tu):=by
      rcases lk with ⟨z,_⟩|⟨_,c,hc,z⟩
      . rw [L.kd] at z;cases z
      . rw [L.lk] at hc;cases hc;exact z
     have hfo:=(I'.pin (fa,PySem.W.kla_obj "<lambda>" (X.env.qual ++ "<lambda>") params body sc [(y,cy)] ((X.mg "__name__").getD .none) c' ctv) (by simp)).1
     have hco:s'.heap.CodeRec (.ref c') (X.env.qual ++ "<lambda>"):=(I'.hok c' _ (sm.code hcH)).1;have hrm:Room (k+1) X.A.in1:=hr.in1;have pb:=hb fa (.ref c') s' H' (hrm.deeper _);refine wpAny_mono (zhP (A:=X.A.in1) L.S L.ne I' I'.ok.frames hrm.hd hrm.depth ru rt hcell (I'.freeC y cy L.lk) hfo hco (L.bind _ _ _ _) pb (hkey _ hnm H' (mx.trans sm))) (fun r s'' hr'=>?_) fun _ _ z=>z
     obtain⟨v',H'',I'',un,rv',rfl,hS⟩:=hr';obtain⟨t,rfl⟩:=rv';exact⟨⟨t,rfl⟩,⟨H'',I'',sm.trans hS,un.free D oD eD n1 (by simp),un.free kS oK eK n2 (by simp)⟩,(un.keep D oD eD n1 (nw D hD).2.2.2.2 (by simp)).trans eD.symm,(un.keep kS oK eK n2 (nw kS hkS).2.2.2.2 (by simp)).trans eK.symm⟩
 . exact⟨_,I2.kept (t':=s2.toks) hk,zi.refl _,I2.hok.fresh hD,I2.hok.fresh (Ya5 hD (Wbd hlt))⟩
 . obtain⟨H',I',sm,n1,n2⟩:=hJ
   have hnm:ns.getD i 0∈ns:=by rw [YaP,YaQ hi];exact Ya4 hi
   refine⟨.int (ns.getD i 0),H',I'.unpinned,ru,cont _ H' hnm (fun m hm=>?_) (mx.trans sm)⟩
   obtain⟨j,hj,rfl⟩:=List.mem_iff_getElem.mp hm;have:g (ns.getD i 0)<=g (ns.getD j 0):=(hbest j hj).1;rwa [show ns.getD j 0=ns[j] by rw [YaP,YaQ hj];rfl] at this
end
variable[LamW]
section
variable{k:Nat}{x:Str}{ps:List Str}{t:TA3}{p:Pos}
theorem dfU{E:XK}{E3:Addr->Prop}(tu:TabU tb H0)(hE:∀ C H',E3 C->zi H0 H'->E (.ref C) none H')(Gd:DfU tb X.prog X.w X.K X.mg X.base k x ps sp)(hr:Room k X.A)(hg:Gl X x)(hx:Passes (CXR X.prog X.w) X E)(ha:PA3 X H0 (e::es) t)(hdb:(x==("__debug__" : Str))=false:=by decide)
 (he:starEach (e::es) X.env=(false,eval e X.env)::starEach es X.env:=by rfl) (hpl:(backTo pos (starEach es X.env)).any (·.1)=false:=by rfl):PE3 X H0 (.Call (.Name x p) (e::es) [] pos) (Zm sp E3 t):=by
 refine⟨fun ρ Q Q' h q=>ha.mono ρ _ _ (fun cs zz0=>by obtain⟨hd,q⟩:=zz0;exact⟨hd,Gd.mono _ _ _ _ _ (fun f d zz0=>by obtain⟨a,b⟩:=zz0;exact⟨a,h _ b⟩) (fun _ z=>z) q⟩) q,PE.imp (jE Gd.ok hr hg hx ha.ok hdb he hpl) fun σ H Q=>el5 fun G0 ρ G F q=>⟨G0,ρ,G,F,ha.mono ρ _ _ (fun cs ⟨hd,qc⟩ vs G1 H1 g1 w=>?_) q⟩⟩
 show spU tb X.K sp _ H1 Q E
 rw [Yao];refine⟨tu.same (F.gr g1).keep,?_⟩;have kE:=fun C c H' s=>hE C H' c ((F.gr g1).keep.trans s)
 cases hs:shs cs with
 | some ds=>
  refine⟨G1,_,g1.sub,by rw [zda hs];exact(w.shs hs).rd,Gd.mono _ _ _ _ _ (fun f d ⟨_,k⟩ v G' H' g r=>k v G' H' (g1.trans g) (.sh ⟨r.rd,fun hf=>jY (Same.refl _) (fun _ _ _ z=>(F.gr g1).keep.free z) (r.nw hf)⟩)) kE qc⟩
 | none=>
  refine⟨_,_,zg2 H1,rdvs_cln (w.rds g1.sub hd),Gd.mono _ _ _ _ _ (fun f d ⟨s,k⟩ v G' H' g r=>?_) kE qc⟩
  have sc:=s.resolve_left (by rw [hs];simp)
  exact k v G1 H' (g1.trans ⟨Same.refl _,g.h,g1.sub.trans g.h,fun _ _ e=>.inl e⟩) (.sh (.sc sc (zgd sc r.rd)))
end
theorem zhe{p:Program}(T:Top p loose mean mg mb h):BMod mg h:=by
 obtain⟨j,m,a,b,i,g,l,c⟩:=T.bmain;refine⟨j,m,a,b,fun q=>?_,i,g,l,c⟩
 obtain⟨o,n,s,e,r,_⟩:=T.g
 grind
theorem zlA{vs:Array Value}(a:PySem.W.nsIn K mainGlobals x=some (some (.ref f)))(l:K.lookup f=some ⟨oc,od,.func fd,sl⟩)(c:fd.code=.ref c0)
 (b:K.lookup c0=some ⟨oc',od',.fields vs,sl'⟩) (e:vs[11]?=some (.ref tb)):PySem.W.tabIn K x=some (c0,tb):=by
 unfold PySem.W.tabIn
 simp_all
theorem zkE{P:Program}{w:World}{K:Ybf}{mg mb:Str->Option Value}{k:Nat}{fa a c0 tb:Addr}{fd:FuncData}{x:Str}{sp:Sp3}{s₁ : Shared}{vs:List Value}{ns:List Int}
 (KX:K.In s₁.heap) (hns:s₁.heap.Ns mainGlobals mg) (hb:s₁.heap.Ns builtinsNs mb) (hbb:∀ x:Str,x≠"__name__"->mb x=bootBuiltins x) (hlim:s₁.heap.NoLimit) (hg:s₁.gens = #[])
 (ha:s₁.heap.get? a=some { cls:=.type "list", data:=.seq vs.toArray }) (hi:IntsAre vs ns) (hl:ns.length<=sizeLine) (hr:Room k callerA)
 (ht:s₁.heap.get? tb=some (PySem.W.tabObj #[])) (hcd:PySem.W.CodeHd s₁.heap c0 tb) (hbm:BMod mg s₁.heap) (hKt:K.lookup tb=none)
 (F:∀ base:Heap,K.In base->BMod mg base->FnOk P w K mg base (CXR P w) k fa fd [x] (spU tb K sp)) (hbind:∀ (s:Shared) (u:Value),BindsTo s fd ⟨[u],[]⟩ [(x,u)])
 (hsp:∀ (Q:Bool->D->Prop) (E:Addr->Prop),(∀ f,Q f (.bool true))->sp [.list (ns.map .int)] Q E) :
 codeAny (model P w) callerA (.call (.ref fa) ⟨[.ref a],[]⟩) (fun r s'=>r=.ok (.ret (.bool true))/\OldK s₁.heap s'.heap/\s'.os=s₁.os/\AllBare s'.gens) s₁:=by
 have rv:=zcM hi;have lenV:=hi.length;have hat:a≠tb:=fun e=>by rw [e,ht] at ha;cases ha
 have core:∀ H:Hp,SqL K H a (ns.map V.int)->HOk P w H s₁.heap->(∀ b o,H b=some o->(b=tb/\o=tab0 tb)\/(b=a/\K.lookup a=none/\∃ ob xs,o=.frz ob (.lst xs)))->H tb=some (tab0 tb)->
  codeAny (model P w) callerA (.call (.ref fa) ⟨[.ref a],[]⟩) (fun r s'=>r=.ok (.ret (.bool true))/\OldK s₁.heap s'.heap/\s'.os=s₁.os/\AllBare s'.gens) s₁:=by
  intro H hS hok hO hT;have noD:∀ {b:Addr} {o:Obj},s₁.heap.get? b=some o->(∀ xs n,o.data≠.seq xs n)->o.cls≠.none->H b=none:=fun {b o} e d c=>by
   cases q:H b with
   | none=>rfl
   | some u=>
    rcases hO b u q with ⟨rfl,_⟩|⟨rfl,_⟩
    . rw [ht] at e;cases e;exact absurd rfl c
    . rw [ha] at e;cases e;exact absurd rfl (d _ _)
  have noA:∀ {b:Addr} {o:Obj} {es:Array DictEntry} {ep:Nat},s₁.heap.get? b=some o->o.data=.dict es ep->H b=none:=fun {b o es ep} e d=>by
   cases q:H b with
   | none=>rfl
   | some u=>
    rcases hO b u q with ⟨rfl,_⟩|⟨rfl,_⟩
    . rw [ht] at e;cases e;cases d
    . rw [ha] at e;cases e;cases d
  have base_of:∀ {b:Addr} {o:Obj},s₁.heap.get? b=some o->H b=none->(hidT s₁.heap H).get? b=some o:=fun e n=>zh0 e n
  have nsK:∀ {b:Addr} {m:Str->Option Value},s₁.heap.Ns b m->(hidT s₁.heap H).Ns b m:=fun {b m} zz0=>by obtain⟨o,es,ep,e,d,r⟩:=zz0;exact⟨o,es,ep,base_of e (noA e d),d,r⟩
  have hKb:K.In (hidT s₁.heap H):=fun b o e=>base_of (KX b o e) (by
   cases q:H b with
   | none=>rfl
   | some u=>
    rcases hO b u q with ⟨rfl,_⟩|⟨rfl,h2,_⟩
    . rw [hKt] at e;cases e
    . rw [h2] at e;cases e)
  have hM:Mod K mg (hidT s₁.heap H):=⟨hKb,nsK hns,⟨mb,nsK hb,hbb⟩,let ⟨mc,h1,h2⟩:=hlim;⟨mc,nsK h1,h2⟩⟩;have hB:BMod mg (hidT s₁.heap H):=by
   obtain⟨bm,o,h1,h2,h3,h4,h5,h6,h7⟩:=hbm;exact⟨bm,o,h1,h2,h3,base_of h4 (noD h4 (fun xs n z=>by rw [h7] at z;cases z) (by rw [h5];nofun)),h5,h6,h7⟩
  have e0:Env0 P w K mg (hidT s₁.heap H) callerA [] s₁ H:=⟨rfl,hM,fun b o e=>zlI e,Nat.le_of_eq (zhc _ _),trivial,fun b hb=>absurd (show b∈([]:List Addr) from hb) (by simp),hok,.of_eq hg⟩
  have sG0:Same (fun b=>if b=tb then none else H b) H:=fun b o e=>by
   by_cases hb:b=tb
   . have e:(if b=tb then none else H b)=some o:=e
     rw [if_pos hb] at e;cases e
   . have e:(if b=tb then none else H b)=some o:=e
     rw [if_neg hb] at e;exact e
  have sG:Sub (fun b=>if b=tb then none else H b) H:=⟨sG0,fun b f e=>by
   rcases hO b _ (sG0 b _ e) with ⟨z,_⟩|⟨_,_,_,_,z⟩
   . rw [if_pos z] at e;cases e
   . cases z⟩
  have hSG:SqL K (fun b=>if b=tb then none else H b) a (ns.map V.int):=by
   rcases hS with (h|⟨o,h⟩)|h
   . exact .inl (.inl ((if_neg hat).trans h))
   . exact .inl (.inr ⟨o,(if_neg hat).trans h⟩)
   . exact .inr h
  refine codeAny_mono ((F _ hKb hB).run callerA [] s₁ H ⟨[.ref a],[]⟩ [.ref a] [.ref a] (fun v H'=>v=.bl true/\TabU tb H') (fun _ _ _=>False) hr e0 (hbind s₁ (.ref a)) (.cons rfl .nil) ⟨.inl hT,fun b=>if b=tb then none else H b,[.list (ns.map .int)],sG,.cons (.lst hSG (zcX ns)) .nil,hsp _ _ fun f v G' H' g r=>⟨zeB r.rd,(show TabU tb H from .inl hT).same g.h⟩⟩) fun r s' h=>?rs
  cases r with
  | error e=>
   obtain⟨_,_,_,_,_,hf⟩:=h;exact hf.elim
  | ok fl=>
   cases fl with
   | next=>exact False.elim h
   | brk=>exact False.elim h
   | cont=>exact False.elim h
   | ret u=>
    obtain⟨v,H',os,bare,un,hok',r',q⟩:=h;obtain⟨q',hT'⟩:v=.bl true/\TabU tb H':=q;subst q';obtain rfl:u=Value.bool true:=r';have keepB:=fun b o hb e=>by
     cases q:H b with
     | none=>exact un.keep b o e q (by intro z;exact absurd (show b∈([]:List Addr) from z) (by simp)) (by simp)
     | some u=>
      rcases hO b u q with ⟨z,_⟩|⟨_,_,ob,xs,z⟩
      . exact absurd z hb
      . rw [z] at q
        have z2:=un.frzs b ob _ q;obtain⟨e1,_⟩:=hok b _ q;obtain⟨e2,_⟩:=hok' b _ z2;rw [e] at e1;cases e1;exact e2
    obtain⟨ps,ep⟩:∃ ps,s'.heap.get? tb=some (PySem.W.tabObj ps):=by
     rcases hT' with z|⟨c',z,_⟩
     . exact⟨#[],(hok' tb _ z).1⟩
     . obtain⟨⟨ps,ep,_⟩,_,_⟩:=hok' tb _ z
       exact⟨ps,ep⟩
    refine⟨rfl,⟨fun b o e=>?_,fun b o e=>?_⟩,os,bare⟩
    . by_cases hb:b=tb
      . subst hb
        rw [ht] at e;cases e;exact .inr (.inl ⟨(hcd.tab ht).isCodeTable,rfl,#[],ps,rfl,by rw [ep];simp⟩)
      . exact .inl (keepB b o hb e)
    . by_cases hb:b=tb
      . subst hb;exact⟨_,ep⟩
      . exact⟨o,keepB b o hb e⟩
 have tok:∀ (H:Hp),zV P w H s₁.heap tb (tab0 tb):=fun H=>⟨ht,⟨_,ht⟩,fun h1 h2 e k=>k _ e⟩
 cases hk:K.lookup a with
 | some o=>
  have e:=KX a o hk;rw [ha] at e;cases e;refine core (fun b=>if b=tb then some (tab0 tb) else none) (.inr ⟨_,vs.toArray,_,hk,rfl,rfl,rfl,by rw [YaZ,lenV];exact hl,by simpa using rv⟩) (fun b u z=>?_) (fun b o z=>?_) (if_pos rfl)
  . by_cases hb:b=tb
    . have z':=(if_pos hb).symm.trans z
      cases z';subst hb
      exact tok _
    . have z':=(if_neg hb).symm.trans z
      cases z'
  . by_cases hb:b=tb
    . have z':=(if_pos hb).symm.trans z
      cases z';exact .inl ⟨hb,rfl⟩
    . have z':=(if_neg hb).symm.trans z
      cases z'
 | none=>
  refine core (fun b=>if b=tb then some (tab0 tb) else if b=a then some (.frz { cls:=.type "list", data:=.seq vs.toArray } (.lst (ns.map V.int))) else none) (.inl (.inr ⟨{ cls:=.type "list", data:=.seq vs.toArray },(if_neg hat).trans (if_pos rfl)⟩)) (fun b u z=>?_) (fun b o z=>?_) (if_pos rfl)
  . by_cases hb:b=tb
    . have z':=(if_pos hb).symm.trans z
      cases z';subst hb
      exact tok _
    . have z1:=(if_neg hb).symm.trans z
      by_cases hb:b=a
      . have z':=(if_pos hb).symm.trans z1
        cases z';subst hb
        exact⟨ha,by rw [YaR];exact hl,vs,_,rv,ha⟩
      . have z':=(if_neg hb).symm.trans z1
        cases z'
  . by_cases hb:b=tb
    . have z':=(if_pos hb).symm.trans z
      cases z';exact .inl ⟨hb,rfl⟩
    . have z1:=(if_neg hb).symm.trans z
      by_cases hb:b=a
      . have z':=(if_pos hb).symm.trans z1
        cases z';exact .inr ⟨hb,hk,_,_,rfl⟩
      . have z':=(if_neg hb).symm.trans z1
        cases z'
theorem zhW{l:PySem.W.OpenLaw}{n k:Nat}{q:Program}{loose:List Str}{XP:(Str->Option Value)->Heap->Prop}{YP:World->Heap->Prop}{d dd:DefRec}{K:Params->Ybf}{sp:Sp3}{x dn:Str}
 (M:l.most=some n) (r:n<=sizeLine) (v:d.params.defaults=[]) (R:Room k callerA) (I:∀ (w:World) (h:Heap),YP w h->(K w.params).In h) (g:(recsOf q).find? (fun e=>e.name==dn)=some dd)
 (F:∀ (w:World) (mg:Str->Option Value) (fa:Addr) (h:Heap),(K w.params).In h->h.Ns mainGlobals mg->mg d.name=some (.ref fa)->
  ∃ (fd:FuncData) (c0 tb:Addr),(∀ (s:Shared) (u:Value),BindsTo s fd ⟨[u],[]⟩ [(x,u)])/\PySem.W.tabIn (K w.params) dn=some (c0,tb)/\(K w.params).lookup tb=none/\
   ∀ base:Heap,(K w.params).In base->BMod mg base->FnOk l.prog w (K w.params) mg base (CXR l.prog w) k fa fd [x] (spU tb (K w.params) sp))
 (p:∀ (ns:List Int),ns.length<=n->∀ (Q:Bool->D->Prop) (E:Addr->Prop),(∀ f,Q f (.bool true))->sp [.list (ns.map .int)] Q E) :
 PySem.W.WalkO q loose XP YP l.row.toRowW d [] (fun f vs=>PySem.call f vs):=by
 refine Att.attach_call M v fun w B A mg W fa o T U L a vs ns G Y S X C y i c b H=>?_
 have z:=I w _ Y;obtain⟨fd,c0,tb,J,j,m,P⟩:=F w mg fa _ z G.T.g y;obtain⟨O,N⟩:=PySem.W.tab_of G.T z g j;exact zkE z G.T.g G.T.b G.T.builtins G.T.nolimit H i c (Ya5 b r) R N O (zhe G.T) m P J (p ns b)
end L3
open PySem PySem.Spec PyProof.Rows L2
namespace Law
open PySem L2 L3
theorem zk5{α : Type}{us:List α}(h:us.length=1):∃ a0,us=[a0]:=match us,h with|[a0],_=>⟨a0,rfl⟩
theorem zan{α : Type}{us:List α}(h:us.length=2):∃ a0 a1,us=[a0,a1]:=match us,h with|[a0,a1],_=>⟨a0,a1,rfl⟩
theorem zap{α : Type}{us:List α}(h:us.length=3):∃ a0 a1 a2,us=[a0,a1,a2]:=match us,h with|[a0,a1,a2],_=>⟨a0,a1,a2,rfl⟩
theorem zad{α : Type}{us:List α}(h:us.length=4):∃ a0 a1 a2 a3,us=[a0,a1,a2,a3]:=match us,h with|[a0,a1,a2,a3],_=>⟨a0,a1,a2,a3,rfl⟩
theorem zdR{α : Type}{us:List α}(h:us.length=5):∃ a0 a1 a2 a3 a4,us=[a0,a1,a2,a3,a4]:=match us,h with|[a0,a1,a2,a3,a4],_=>⟨a0,a1,a2,a3,a4,rfl⟩
noncomputable def top(i:Nat):Stmt:=PySem.Challenge.pw_chairclans_k36_what_keeps_is_not_changed.main.body.getD i (.Pass ⟨0,0,0,0⟩)
abbrev zbZ:Stmt:=top 65
abbrev zb4:Stmt:=top 66
abbrev zbO:Stmt:=top 31
abbrev zbK:Stmt:=top 41
abbrev zaw:Stmt:=top 43
abbrev jT:Stmt:=top 51
abbrev ZK:Stmt:=top 54
abbrev zac:Stmt:=top 72
noncomputable def zmi(s:Stmt):Stmt:=match s with
 | .ClassDef _ _ _ b _ _ _ _ _ _ _=>b.getD 0 (.Pass ⟨0,0,0,0⟩)
 | s=>s
abbrev Jm:Stmt:=zmi (top 49)
noncomputable abbrev lamP:Pos:=⟨228,66,228,90⟩
noncomputable abbrev lamQ:Str:=(envOfC "nearest" (zh jT) 0 0 .none).qual ++ "<lambda>"
instance:LamW:=⟨lamP,lamQ⟩
structure Cl where
 ClanError:Addr
 NoSpell:Addr
 NoRow:Addr
 NoBounds:Addr
 NoRule:Addr
 Market:Addr
 c0:Addr
 tb:Addr
def DA(K:Ybf)(mg:Str->Option Value)(x:Str)(st:Stmt):Prop:=∃ f fd,Fun K x x st f fd/\mg x=some (.ref f)
structure TxtD(K:Ybf)(mg:Str->Option Value):Prop where
 d_first_price:DA K mg "first_price" (top 48)
 d_law_cell_at:DA K mg "_law_cell_at" (top 57)
 d_law_mixed:DA K mg "_law_mixed" (top 58)
 d_law_wide:DA K mg "_law_wide" (top 59)
 d_law_spells:DA K mg "_law_spells" (top 60)
 d_law_long:DA K mg "_law_long" (top 61)
 d_law_quotas:DA K mg "_law_quotas" (top 62)
 d_law_row:DA K mg "_law_row" zbZ
 d_law_ratio:DA K mg "_law_ratio" (top 63)
 d_law_limits:DA K mg "_law_limits" zb4
 d_law_kept_rules:DA K mg "_law_kept_rules" (top 71)
 d_check_weights:DA K mg "check_weights" (top 25)
 d_all_turns:DA K mg "all_turns" (top 26)
 d_check_spells:DA K mg "check_spells" (top 27)
 d_common_divisor:DA K mg "common_divisor" (top 7)
 d_divisor_of_all:DA K mg "divisor_of_all" (top 28)
 d_least_bottom:DA K mg "least_bottom" (top 29)
 d_shares_over:DA K mg "shares_over" (top 30)
 d_quotas:DA K mg "quotas" zbO
 d_first_turn:DA K mg "first_turn" (top 33)
 d_window_of:DA K mg "window_of" (top 34)
 d_windows_of_clan:DA K mg "windows_of_clan" (top 35)
 d_windows_within:DA K mg "windows_within" (top 36)
 d_check_turn:DA K mg "check_turn" (top 18)
 d_check_rules:DA K mg "check_rules" (top 19)
 d_forbidden:DA K mg "forbidden" (top 20)
 d_may_come:DA K mg "may_come" (top 38)
 d_choices_of_turns:DA K mg "choices_of_turns" (top 39)
 d_check_row:DA K mg "check_row" (top 45)
 d_choices_of_visits:DA K mg "choices_of_visits" (top 40)
 d_move_along:DA K mg "move_along" zbK
 d_settle:DA K mg "settle" (top 42)
 d_place_visits:DA K mg "place_visits" zaw
 d_costs_of_turns:DA K mg "costs_of_turns" (top 47)
 d_look_from:DA K mg "look_from" (top 50)
 d_change_prices:DA K mg "change_prices" (top 52)
 d_serve:DA K mg "serve" (top 53)
 d_mend_visits:DA K mg "mend_visits" ZK
 d_less:DA K mg "less" (top 8)
 d_check_bounds:DA K mg "check_bounds" (top 12)
 d_room_at_most:DA K mg "room_at_most" (top 13)
 d_rooms_of:DA K mg "rooms_of" (top 14)
 d_mended:DA K mg "mended" (top 55)
 d_law_keeps:DA K mg "_law_keeps" (top 69)
 d_law_rules:DA K mg "_law_rules" (top 67)
 d_law_whole:DA K mg "_law_whole" (top 64)
 d_law_is_row:DA K mg "_law_is_row" (top 70)
 d_law_lets:DA K mg "_law_lets" (top 68)
 d_law:DA K mg "law" zac
 n_abs:mg "abs" = none
 n_bool:mg "bool" = none
 n_enumerate:mg "enumerate" = none
 n_int:mg "int" = none
 n_isinstance:mg "isinstance" = none
 n_len:mg "len" = none
 n_list:mg "list" = none
 n_max:mg "max" = none
 n_min:mg "min" = none
 n_range:mg "range" = none
 n_sorted:mg "sorted" = none
 n_sum:mg "sum" = none
 n_zip:mg "zip" = none
structure Txt(c:Law.Cl)(K:Ybf)(mg:Str->Option Value):Prop extends TxtD K mg where
 d_nearest:DA K mg "nearest" jT
 x_nearest:∃ f fd,Fun K "nearest" "nearest" jT f fd/\mg "nearest" = some (.ref f)/\fd.code=.ref c.c0
 hdC:∀ h,K.In h->PySem.W.CodeHd h c.c0 c.tb
 tab:PySem.W.tabIn K "nearest" = some (c.c0,c.tb)
 nop:K.lookup c.tb=none
 m_ClanError:mg "ClanError" = some (.ref c.ClanError)
 m_NoSpell:mg "NoSpell" = some (.ref c.NoSpell)
 m_NoRow:mg "NoRow" = some (.ref c.NoRow)
 m_NoBounds:mg "NoBounds" = some (.ref c.NoBounds)
 m_NoRule:mg "NoRule" = some (.ref c.NoRule)
 m_Market:mg "Market" = some (.ref c.Market)
 x_init:∃ fi fdi,Fun K "__init__" "Market.__init__" Jm fi fdi/\Mk K c.Market fi
 cl_M:Cls K c.Market
 na_costs:zQ K c.Market "costs"
 na_turn_prices:zQ K c.Market "turn_prices"
 na_visit_prices:zQ K c.Market "visit_prices"
 na_taken:zQ K c.Market "taken"
 na_holders:zQ K c.Market "holders"
 e_NoSpell:PySem.W.excIn K c.NoSpell bmVE "ValueError.__new__" = true
 e_NoBounds:PySem.W.excIn K c.NoBounds bmVE "ValueError.__new__" = true
 e_NoRule:PySem.W.excIn K c.NoRule bmVE "ValueError.__new__" = true
 e_NoRow:PySem.W.excIn K c.NoRow bmVE "ValueError.__new__" = true
 m_LEAST_BOUND:∃ a,mg "LEAST_BOUND" = some (.ref a)/\TupI K a [0,1]
 m_MOST_BOUND:∃ a,mg "MOST_BOUND" = some (.ref a)/\TupI K a [10,1]
 m_FIXED:∃ t,mg "FIXED" = some (.str "fixed" t)
 m_BARRED:∃ t,mg "BARRED" = some (.str "barred" t)
 m_MOST_SPELLS:∃ t,mg "MOST_SPELLS" = some (.int 8 t)
 m_MOST_CLANS:∃ t,mg "MOST_CLANS" = some (.int 8 t)
 m_MOST_TURNS:∃ t,mg "MOST_TURNS" = some (.int 60 t)
theorem zfc{g l:Int}(a:0<=g)(b:0<l):Int.gcd l (g%l)=Int.gcd g l:=by
 obtain⟨m,rfl⟩:=Int.eq_ofNat_of_zero_le a;obtain⟨n,rfl⟩:=Int.eq_ofNat_of_zero_le (Wbf b);rw [<-Int.natCast_emod,Int.gcd_natCast_natCast,Int.gcd_natCast_natCast,Nat.gcd_comm n,<-Nat.gcd_rec,Nat.gcd_comm]
theorem zgN{g:Int}(a:0<=g):(Int.gcd g 0:Int)=g:=by
 rw [Int.gcd_zero_right];omega
theorem zd1(a b):Int.gcd (if a<0 then -a else a) (if b<0 then -b else b)=Int.gcd a b:=by
 split<;>split<;>simp
noncomputable def dR(a b:Int):D:=.tuple [.int (a/(Int.gcd a b:Int)),.int (b/(Int.gcd a b:Int))]
theorem zcs{a:Int}(h:0<b):0<(Int.gcd a b:Int):=by
 have:0<Int.gcd a b:=Waa _ #[94]
 lia
theorem zkK{a:Int}(h:0<b)(c:Bits k b):Bits k (Int.gcd a b:Int):=by
 refine c.le ?_
 have:=Int.gcd_le_right a (h)
 lia
theorem zfs{a:Int}(h:0<b)(c:Bits 9000 b):jU x (Int.gcd a b:Int):=⟨zcs h,zkK h c⟩
abbrev Spell:=Int×List Int
noncomputable def dI(ns:List Int):D:=.list (ns.map .int)
noncomputable def dS(s:Spell):D:=.tuple [.int s.1,dI s.2]
noncomputable def dSs(l:List Spell):D:=.list (l.map dS)
def okW(ws:List Int):Prop:=(1<=ws.length/\ws.length<=8)/\(∀ w∈ws,0<=w/\w<10 ^ 30)/\ws.sum≠0
noncomputable def tot(l:List Spell):Int:=(l.map (·.1)).sum
noncomputable def many(l:List Spell):Nat:=(l.headD (0,[])).2.length
def okS(l:List Spell):Prop:=(1<=l.length/\l.length<=8)/\(∀ s∈l,1<=s.1/\okW s.2/\s.2.length=many l)/\tot l<=60
theorem p30:J9 10 30:=powB (k:=4) (by unfold Bits;decide) #[1] #[1]
theorem Zy:∀ {ws:List Int},(∀ w∈ws,0<=w)->0<=ws.sum
 | [],_=>by simp
 | w :: ws, h => by
  rw [List.sum_cons];have:=Zy fun x a=>h x (YaT _ a)
  have:=h w YaV
  omega
theorem zgD{B:Int}:∀ {ws:List Int},(∀ w∈ws,w<B)->ws.sum<=ws.length*B
 | [],_=>by simp
 | w :: ws, h => by
  rw [List.sum_cons,List.length_cons];have:=zgD fun x a=>h x (YaT _ a)
  have:=h w YaV
  grind
theorem jN(h:okW ws):0<ws.sum:=by
 have:=Zy fun w a=>(h.2.1 w a).1
 have:=h.2.2
 lia
theorem zjW(h:okW ws):ws.sum<=8*10 ^ 30:=by
 have b:=zgD fun w a=>(h.2.1 w a).2
 have c:(ws.length:Int)*10 ^ 30<=8*10 ^ 30:=Ybe (by have:=h.1.2;lia) #[1]
 lia
theorem zfS{B:Int}(b:0<=x)(h:x<=B)(a:B.natAbs<2 ^ k):Bits k x:=by
 unfold Bits
 omega
theorem Zd(h:okW ws):Bits 103 ws.sum:=zfS (Wbf (jN h)) (zjW h) #[1]
theorem zdW(h:okW ws){w:Int}(a:w∈ws):Bits 100 w:=zfS (h.2.1 w a).1 (Wbf (h.2.1 w a).2) #[1]
noncomputable def gcdL(ws:List Int):Int:=ws.foldl (fun a b=>(Int.gcd a b:Int)) 0
noncomputable def parts(ws:List Int):Int:=ws.sum/gcdL ws
noncomputable def bot1(b:Int)(s:Spell):Int:=b*parts s.2/(Int.gcd b (parts s.2):Int)
noncomputable def bot(l:List Spell):Int:=l.foldl bot1 1
theorem zcn:∀ (ws:List Int) (a:Int),0<=a->0<=ws.foldl (fun a b=>(Int.gcd a b:Int)) a/\ws.foldl (fun a b=>(Int.gcd a b:Int)) a∣a/\∀ w∈ws,ws.foldl (fun a b=>(Int.gcd a b:Int)) a∣w
 | [],a,h=>⟨h,Int.dvd_refl _,fun w hw=>by cases hw⟩
 | w :: ws, a, h => by
  obtain⟨h1,h2,h3⟩:=zcn ws (Int.gcd a w) #[0]
  refine⟨h1,Wa7 h2 (WaO a w),fun x hx=>?_⟩
  rcases Wa5.mp hx with rfl|hx
  . exact Wa7 h2 (WaC a x)
  . exact h3 x hx
theorem zio(ws):0<=gcdL ws:=(zcn ws 0 #[1]).1
theorem ze0{w:Int}(h:w∈ws):gcdL ws∣w:=(zcn ws 0 #[1]).2.2 w h
theorem zeX{d:Int}:∀ {ws:List Int},(∀ w∈ws,d∣w)->d∣ws.sum
 | [],_=>by simp
 | w::ws,h=>Int.dvd_add (h w YaV) (zeX fun x a=>h x (YaT _ a))
theorem zdw(ws):gcdL ws∣ws.sum:=zeX fun w a=>ze0 a
theorem zdy(h:okW ws):0<gcdL ws:=by
 have a:=zio ws;have c:=jN h;have b:=zdw ws
 by_cases e:gcdL ws=0
 . simp_all
 . lia
theorem zkY(h:okW ws):gcdL ws<=ws.sum:=Int.le_of_dvd (jN h) (zdw ws)
theorem zc1:parts ws*gcdL ws=ws.sum:=Yaw (zdw ws)
theorem JV(h:okW ws):0<parts ws:=by
 have a:=zdy h;have c:=jN h;have b:=zc1 (ws:=ws)
 by_cases e:0<parts ws
 . exact e
 . have:parts ws*gcdL ws<=0:=Int.mul_nonpos_of_nonpos_of_nonneg #[94] #[94]
   lia
theorem zij(h:okW ws):parts ws<=ws.sum:=Int.ediv_le_self _ (Wbf (jN h))
theorem zdv(h:okW ws):Bits 103 (parts ws):=(Zd h).le (by have:=JV h;have:=zij h;omega)
theorem zep{p:Int}(h:0<p):(0:Int)<(Int.gcd b p:Int):=by
 have:=Waa b (show p≠0 by omega)
 omega
theorem zmw{p:Int}(h:0<p):(Int.gcd b p:Int)<=p:=Int.le_of_dvd h (WaC b p)
theorem zgv{s:Spell}(g:0<b)(h:okW s.2):0<bot1 b s:=by
 have a:=JV h;have c:(Int.gcd b (parts s.2):Int)∣b*parts s.2:=Wa7 (WaO _ _) (Int.dvd_mul_right _ _);have j:=Yaw c;have i:=Int.mul_pos g a
 by_cases e:0<b*parts s.2/(Int.gcd b (parts s.2))
 . exact e
 . have:b*parts s.2/(Int.gcd b (parts s.2))*(Int.gcd b (parts s.2))<=0:=Int.mul_nonpos_of_nonpos_of_nonneg #[94] #[94]
   lia
theorem zjg{s:Spell}(a:0<b)(e:Bits k b)(h:okW s.2):Bits (k+103) (bot1 b s):=(e.mul (zdv h)).le (by
 have c:=Int.mul_pos a (JV h);have i:=zgv a h;have g:bot1 b s<=b*parts s.2:=Int.ediv_le_self _ (Wbf c)
 lia)
theorem zbQ:∀ (l:List Spell) (b:Int) (k:Nat),(∀ s∈l,okW s.2)->0<b->Bits k b->0<l.foldl bot1 b/\Bits (k+103*l.length) (l.foldl bot1 b)
 | [],b,k,_,h,h'=>⟨h,by simpa using h'⟩
 | s :: l, b, k, hs, h, h' => by
  have hw:=hs s YaV;have:=zbQ l (bot1 b s) (k+103) (fun x hx=>hs x (YaT _ hx)) (zgv h hw) (zjg h h' hw)
  refine⟨this.1,this.2.mono ?_⟩
  rw [List.length_cons];omega
theorem zcc{l:List Spell}(h:okS l):0<bot l:=(zbQ l 1 1 (fun s a=>(h.2.1 s a).2.1) #[1] (by unfold Bits;decide)).1
theorem ze4{l:List Spell}(h:okS l):Bits 900 (bot l):=(zbQ l 1 1 (fun s a=>(h.2.1 s a).2.1) #[1] (by unfold Bits;decide)).2.mono (by have:=h.1.2;omega)
noncomputable def shares(b:Int)(ws:List Int):List Int:=ws.map fun w=>w*b/ws.sum
noncomputable def addL(xs ys:List Int):List Int:=(xs.zip ys).map fun p=>p.1+p.2
noncomputable def zD(sh:List Int)(p:List Int×List (List Int)):List Int×List (List Int):=(addL p.1 sh,p.2++[addL p.1 sh])
noncomputable def rep{α : Type}(f:α->α):Nat->α->α
 | 0,x=>x
 | n+1,x=>rep f n (f x)
noncomputable def runQ(b:Int)(l:List Spell)(p:List Int×List (List Int)):List Int×List (List Int):=l.foldl (fun p s=>rep (zD (shares b s.2)) s.1.toNat p) p
noncomputable def zeros(l:List Spell):List Int:=List.replicate (many l) 0
noncomputable def quo(l:List Spell):List (List Int):=(runQ (bot l) l (zeros l,[zeros l])).2
theorem ZD(a:List Int):∀ n p,(rep (zD a) n p).2.length=p.2.length+n
 | 0,p=>rfl
 | n+1,p=>by rw [rep,ZD a n];simp [zD];omega
theorem Jg{l:List Spell}(h:∀ s∈l,1<=s.1):0<=tot l:=Zy fun w hw=>by
 obtain⟨s,hs,rfl⟩:=Ya7.mp hw;have:=h s hs;lia
theorem zgK{l:List Spell}(h:∀ s∈l,1<=s.1){s:Spell}(hs:s∈l):s.1<=tot l:=by
 unfold tot
 induction l with
 | nil=>cases hs
 | cons a l ih=>
  rw [Ya1,List.sum_cons];have h1:0<=(l.map (·.1)).sum:=Jg fun x hx=>h x (YaT _ hx)
  have h2:=h a YaV
  rcases Wa5.mp hs with rfl|hs
  . lia
  . have:=ih (fun x hx=>h x (YaT _ hx)) hs
    lia
theorem zcd{l:List Spell}(h:okS l):((quo l).length:Int)=tot l+1:=by
 have key:∀ (l:List Spell) (b:Int) (p:List Int×List (List Int)),(∀ s∈l,1<=s.1)->((runQ b l p).2.length:Int)=p.2.length+tot l:=by
  intro l
  induction l with
  | nil=>intro b p _;simp [runQ,tot]
  | cons s l ih=>
   intro b p hs;have h1:=hs s YaV;have:=ih b (rep (zD (shares b s.2)) s.1.toNat p) fun x hx=>hs x (YaT _ hx)
   show((runQ b l (rep (zD (shares b s.2)) s.1.toNat p)).2.length:Int)=_
   rw [this,ZD];unfold tot;rw [Ya1,List.sum_cons]
   omega
 have:=key l (bot l) (zeros l,[zeros l]) fun s hs=>(h.2.1 s hs).1
 unfold quo;rw [this];simp;omega
theorem zhM(e:α->β)(xs)(lo a):cut (xs.map e) lo a=(cut xs lo a).map e:=by
 unfold cut
 simp_all
theorem zdL:∀ (xs:List Int) (x:Int),(xs.foldl (fun a b=>if b > a then b else a) x∈x::xs)/\x<=xs.foldl (fun a b=>if b > a then b else a) x/\∀ w∈xs,w<=xs.foldl (fun a b=>if b > a then b else a) x
 | [],x=>⟨by simp,Wbn _,fun w h=>by cases h⟩
 | y :: ys, x => by
  rw [List.foldl_cons]
  by_cases h:y > x
  . rw [if_pos h]
    obtain⟨h1,h2,h3⟩:=zdL ys y;exact⟨YaT _ h1,#[0],fun w hw=>by
     rcases Wa5.mp hw with rfl|hw
     . exact h2
     . exact h3 w hw⟩
  . rw [if_neg h]
    obtain⟨h1,h2,h3⟩:=zdL ys x;refine⟨?_,h2,fun w hw=>?_⟩
    . rcases Wa5.mp h1 with z|z
      . rw [z];exact YaV
      . exact YaT _ (YaT _ z)
    . rcases Wa5.mp hw with rfl|hw
      . omega
      . exact h3 w hw
theorem zfa(h:ws≠[]):maxL ws∈ws:=by
 cases ws with
 | nil=>exact absurd rfl h
 | cons x xs=>exact(zdL xs x).1
theorem ziw{s:Spell}(h:okW s.2):parts s.2∣bot1 b s:=by
 unfold bot1;rw [Wbg,Int.mul_ediv_assoc _ (WaO b _)]
 simp_all
theorem zhH{s:Spell}:b∣bot1 b s:=by
 unfold bot1;rw [Int.mul_ediv_assoc _ (WaC b _)]
 simp_all
theorem zcb{a b:List Int}(h:a.length=b.length):(addL a b).length=a.length:=by unfold addL;grind
theorem zdz(b)(ws):(shares b ws).length=ws.length:=YaR ..
theorem zef:∀ (l:List Spell) (b:Int),b∣l.foldl bot1 b
 | [],b=>Int.dvd_refl b
 | s::l,b=>Wa7 zhH (zef l _)
theorem zgy:∀ (l:List Spell) (b:Int),(∀ s∈l,okW s.2)->∀ s∈l,parts s.2∣l.foldl bot1 b
 | [],b,_,s,h=>by cases h
 | a :: l, b, hok, s, h => by
  rcases Wa5.mp h with rfl|h
  . exact Wa7 (ziw (hok s YaV)) (zef l _)
  . exact zgy l _ (fun x c=>hok x (YaT _ c)) s h
theorem zgx{w:Int}(h:okW ws)(hd:parts ws∣b)(hw:w∈ws):w*b/ws.sum*ws.sum=w*b:=by
 apply Yaw
 obtain⟨k,rfl⟩:=hd;obtain⟨j,hj⟩:=ze0 hw;have hp:=zc1 (ws:=ws);refine⟨j*k,?_⟩;rw [<-hp,hj]
 simp [Wa8,Int.mul_left_comm]
theorem zlZ(h:okW ws)(hd:parts ws∣b)(hd':parts ws∣b'):(shares b ws).map (· * b')=(shares b' ws).map (· * b):=by
 unfold shares;rw [YaD,YaD]
 apply Yat
 intro w hw
 simp
 have h1:=zgx h hd hw;have h2:=zgx h hd' hw;have hs:=jN h
 apply Int.eq_of_mul_eq_mul_right (show ws.sum≠0 by lia)
 generalize w*b/ws.sum=x at h1;generalize w*b'/ws.sum=y at h2;have e1:x*b'*ws.sum=x*ws.sum*b':=by simp [Wa8,Wbg]
 have e2:y*b*ws.sum=y*ws.sum*b:=by simp [Wa8,Wbg]
 rw [e1,e2,h1,h2]
 simp [Wbg,Int.mul_left_comm]
def J7(b b':Int)(p p':List Int×List (List Int)):Prop:=p.1.map (· * b')=p'.1.map (· * b)/\p.2.map (List.map (· * b'))=p'.2.map (List.map (· * b))
theorem zfr(c)(a d):(addL a d).map (· * c)=addL (a.map (· * c)) (d.map (· * c)):=by
 unfold addL;rw [List.zip_map,YaD,YaD]
 apply Yat
 intro p _
 simp [Int.add_mul]
theorem zmX(a:sh.map (· * b')=sh'.map (· * b))(h:J7 b b' p p'):J7 b b' (zD sh p) (zD sh' p'):=by
 have e:(addL p.1 sh).map (· * b')=(addL p'.1 sh').map (· * b):=by rw [zfr,zfr,h.1,a]
 refine⟨e,?_⟩
 show(p.2++[addL p.1 sh]).map _=(p'.2++[addL p'.1 sh']).map _
 rw [Ya2,Ya2,h.2,Ya1,e];rfl
theorem zfJ{b b':Int}{sh sh':List Int}(a:sh.map (· * b')=sh'.map (· * b)):∀ (n:Nat) {p p':List Int×List (List Int)},J7 b b' p p'->J7 b b' (rep (zD sh) n p) (rep (zD sh') n p')
 | 0,_,_,h=>h
 | n+1,_,_,h=>zfJ a n (zmX a h)
theorem zgf{b b':Int}:∀ (l:List Spell),(∀ s∈l,okW s.2/\parts s.2∣b/\parts s.2∣b')->∀ {p p':List Int×List (List Int)},J7 b b' p p'->J7 b b' (runQ b l p) (runQ b' l p')
 | [],_,_,_,h=>h
 | s :: l, hs, p, p', h => by
  obtain⟨e,a,g⟩:=hs s YaV;exact zgf l (fun x c=>hs x (YaT _ c)) (zfJ (zlZ e a g) _ h)
noncomputable def zg(l:List Spell):Int:=l.foldl (fun b s=>b*s.2.sum) 1
noncomputable def quoB(b:Int)(l:List Spell):List (List Int):=(runQ b l (zeros l,[zeros l])).2
theorem zfo:∀ (l:List Spell) (b:Int),b∣l.foldl (fun b s=>b*s.2.sum) b
 | [],b=>Int.dvd_refl b
 | s::l,b=>Wa7 (Int.dvd_mul_right b _) (zfo l _)
theorem zfi{l:List Spell}{s:Spell}(h:s∈l):s.2.sum∣zg l:=by
 have:∀ (l:List Spell) (b:Int),s∈l->s.2.sum∣l.foldl (fun b s=>b*s.2.sum) b:=by
  intro l
  induction l with
  | nil=>simp_all
  | cons a l c=>
   intro b h
   rcases Wa5.mp h with rfl|h
   . exact Wa7 (Int.dvd_mul_left b _) (zfo l _)
   . exact c _ h
 exact this l 1 h
theorem zbI:∀ (l:List Spell) (b:Int) (k:Nat),(∀ s∈l,okW s.2)->0<b->Bits k b->0<l.foldl (fun b s=>b*s.2.sum) b/\Bits (k+103*l.length) (l.foldl (fun b s=>b*s.2.sum) b)
 | [],b,k,_,h,hb=>⟨h,hb.mono (by simp)⟩
 | s :: l, b, k, hs, h, hb => by
  have h1:=hs s YaV;have:=zbI l (b*s.2.sum) (k+103) (fun t ht=>hs t (YaT _ ht)) (Int.mul_pos h (jN h1)) (hb.mul (Zd h1))
  exact⟨this.1,this.2.mono (by rw [List.length_cons];omega)⟩
theorem zal{l:List Spell}(h:okS l):0<zg l:=(zbI l 1 1 (fun s a=>(h.2.1 s a).2.1) #[1] (by unfold Bits;decide)).1
theorem zcY{l:List Spell}(h:okS l):Bits 900 (zg l):=(zbI l 1 1 (fun s a=>(h.2.1 s a).2.1) #[1] (by unfold Bits;decide)).2.mono (by have:=h.1.2;omega)
theorem zjn(ws):parts ws∣ws.sum:=⟨gcdL ws,zc1.symm⟩
theorem ziV{l:List Spell}(h:okS l):(quo l).map (List.map (· * zg l))=(quoB (zg l) l).map (List.map (· * bot l)):=by
 have:=zgf l (fun s a=>⟨(h.2.1 s a).2.1,zgy l 1 (fun t b=>(h.2.1 t b).2.1) s a,Wa7 (zjn s.2) (zfi a)⟩) (p:=(zeros l,[zeros l])) (p':=(zeros l,[zeros l])) ?_
 . exact this.2
 . unfold J7 zeros;simp
theorem zji(b):∀ (l:List Spell) (p:List Int×List (List Int)),(∀ s∈l,1<=s.1)->((runQ b l p).2.length:Int)=p.2.length+tot l:=by
 intro l
 induction l with
 | nil=>intro p _;simp [runQ,tot]
 | cons s l ih=>
  intro p hs;have h1:=hs s YaV;have:=ih (rep (zD (shares b s.2)) s.1.toNat p) fun x hx=>hs x (YaT _ hx)
  show((runQ b l (rep (zD (shares b s.2)) s.1.toNat p)).2.length:Int)=_
  rw [this,ZD];unfold tot;rw [Ya1,List.sum_cons]
  omega
theorem zct{l:List Spell}(h:okS l)(b):((quoB b l).length:Int)=tot l+1:=by
 unfold quoB;rw [zji b l _ fun s hs=>(h.2.1 s hs).1]
 simp;lia
def Jw(n:Nat)(p:List Int×List (List Int)):Prop:=p.1.length=n/\∀ r∈p.2,r.length=n
theorem zgw{n:Nat}{sh:List Int}(hs:sh.length=n):∀ (k:Nat) (p:List Int×List (List Int)),Jw n p->Jw n (rep (zD sh) k p)
 | 0,p,h=>h
 | k + 1, p, h => zgw hs k _ (by
  have e:(addL p.1 sh).length=n:=by rw [zcb (by rw [h.1,hs]),h.1]
  refine⟨e,fun r hr=>?_⟩
  rcases Ya3.mp hr with z|z
  . exact h.2 r z
  . rw [Ya6.mp z];exact e)
theorem zd2{n:Nat}(b:Int):∀ (l:List Spell) (p:List Int×List (List Int)),(∀ s∈l,s.2.length=n)->Jw n p->Jw n (runQ b l p)
 | [],p,_,h=>h
 | s::l,p,hs,h=>zd2 b l _ (fun t a=>hs t (YaT _ a)) (zgw (by rw [zdz];exact hs s YaV) _ _ h)
theorem zaJ{l:List Spell}(h:okS l)(a:r∈quoB b l):r.length=many l:=
 (zd2 b l _ (fun s c=>(h.2.1 s c).2.2) ⟨by unfold zeros;simp,fun r a=>by rw [Ya6.mp a];unfold zeros;simp⟩).2 r a
theorem zbk{l:List Spell}(h:okS l):1<=many l/\many l<=8:=by
 cases l with
 | nil=>have:=h.1.1;simp at this
 | cons a r=>exact(h.2.1 a YaV).2.1.1
theorem ziT(b):∀ (l:List Spell) (p:List Int×List (List Int)) (x:List Int) (r:List (List Int)),p.2=x::r->∃ r',(runQ b l p).2=x::r':=by
 have a:∀ (e:List Int) (k:Nat) (p:List Int×List _) (x:List Int) (r:List _),p.2=x::r->∃ r',(rep (zD e) k p).2=x::r':=by
  intro e k
  induction k with
  | zero=>intro p x r h;exact⟨r,h⟩
  | succ k c=>intro p x r h;exact c _ x _ (by show p.2++[_]=_;rw [h];rfl)
 intro l
 induction l with
 | nil=>intro p x r h;exact⟨r,h⟩
 | cons s l c=>
  intro p x r h;obtain⟨r',g⟩:=a _ _ p x r h;exact c _ x r' g
theorem zmD(b)(l):∃ r,quoB b l=zeros l::r:=ziT b l _ _ [] rfl
noncomputable def had1(b:Int)(h:List Int)(c:Int):List Int:=h.set c.toNat (h.getD c.toNat 0+b)
noncomputable def hadN(b:Int)(n:Nat)(row:List Int):List Int:=row.foldl (had1 b) (List.replicate n 0)
theorem zkg(b)(h)(c):(had1 b h c).length=h.length:=by unfold had1;rw [YaN]
theorem Jx(b)(n)(row):(hadN b n row).length=n:=by
 have:∀ (row:List Int) (h:List Int),(row.foldl (had1 b) h).length=h.length:=by
  intro row
  induction row with
  | nil=>intro h;rfl
  | cons c r ih=>intro h;rw [List.foldl_cons,ih,zkg]
 unfold hadN;simp_all
theorem zkF(b)(h)(c):had1 b (h.map (· * b)) c=(had1 1 h c).map (· * b):=by
 unfold had1;rw [YaP,Ya0,YaP];cases h[c.toNat]? with
 | none=>simp
 | some x=>simp [Int.add_mul]
theorem zfq(b)(n)(row):hadN b n row=(hadN 1 n row).map (· * b):=by
 have:∀ (row:List Int) (h:List Int),row.foldl (had1 b) (h.map (· * b))=(row.foldl (had1 1) h).map (· * b):=by
  intro row
  induction row with
  | nil=>intro h;rfl
  | cons c r ih=>intro h;rw [List.foldl_cons,List.foldl_cons,zkF,ih]
 unfold hadN;rw [<-this]
 simp
theorem zcz(b)(n)(row)(c):hadN b n (row++[c])=had1 b (hadN b n row) c:=by unfold hadN;simp_all
noncomputable def subL(a b:List Int):List Int:=(a.zip b).map fun p=>p.1 - p.2
noncomputable def jg(b:Int)(n:Nat)(q:List (List Int))(row:List Int)(t:Nat):List Int:=subL (hadN b n (row.take (t+1))) (q.getD (t+1) [])
noncomputable def zaB(b:Int)(n:Nat)(q:List (List Int))(row:List Int)(k:Nat):List (List Int):=(List.range k).map (jg b n q row)
theorem zlG{c:Int}{h y:List Int}(e:x.map (· * c)=y.map (· * b)):(subL (h.map (· * b)) x).map (· * c)=(subL (h.map (· * c)) y).map (· * b):=by
 induction h generalizing x y with
 | nil=>simp [subL]
 | cons a h ih=>
  cases x with
  | nil=>
   cases y with
   | nil=>simp [subL]
   | cons _ _=>simp at e
  | cons p x=>
   cases y with
   | nil=>simp at e
   | cons q y=>
    simp at e
    have:=ih e.2;simp only [subL,Ya1,List.zip_cons_cons,WaX] at this ⊢;refine⟨?_,this⟩;rw [Int.sub_mul,Int.sub_mul,e.1,Wat]
theorem Zq{a:Int}(h:0<b):0<b/(Int.gcd a b:Int)/\Int.gcd (a/(Int.gcd a b:Int)) (b/(Int.gcd a b:Int))=1/\a/(Int.gcd a b:Int)*(Int.gcd a b:Int)=a/\b/(Int.gcd a b:Int)*(Int.gcd a b:Int)=b:=by
 have e:0<Int.gcd a b:=Waa _ #[0]
 have g:=WaO a b;have c:=WaC a b;exact⟨Int.ediv_pos_of_pos_of_dvd h #[0] c,Int.gcd_ediv_gcd_ediv_gcd e,Yaw g,Yaw c⟩
def jk(n:Nat)(T:Nat)(row:List Int):Prop:=row.length=T/\∀ c∈row,0<=c/\c<(n:Int)
theorem zmm(h:∀ w∈ws,0<=w)(h1:(1:Int)∈ws):ws.sum≠0:=by
 induction ws with
 | nil=>cases h1
 | cons a r ih=>
  rw [List.sum_cons];have h2:=Zy (ws:=r) fun w hw=>h w (YaT _ hw)
  have h3:=h a YaV
  rcases Wa5.mp h1 with rfl|h1
  . lia
  . have:=ih (fun w hw=>h w (YaT _ hw)) h1
    lia
theorem ziz{l:List Spell}{B:Int}(h:∀ s∈l,s.1<=B):tot l<=l.length*B:=by
 unfold tot
 induction l with
 | nil=>simp
 | cons a r ih=>
  have h1:=h a YaV;have h2:=ih fun s hs=>h s (YaT _ hs)
  rw [Ya1,List.sum_cons,List.length_cons,Int.natCast_succ,Int.add_mul]
  lia
theorem zhQ(l)(s):zg (l++[s])=zg l*s.2.sum:=by unfold zg;rw [WaD];rfl
theorem zfy{α : Type}(f:α->α):∀ (n:Nat) (x:α),rep f (n+1) x=f (rep f n x)
 | 0,x=>rfl
 | n+1,x=>zfy f n (f x)
theorem zgp(xs)(x:α):atI (xs++[x]) (-1)=some x:=by
 unfold atI ixN;rw [if_neg #[1],if_pos (by rw [YaS];simp;lia),YaS]
 have:(-1+((xs.length+[x].length:Nat):Int)).toNat=xs.length:=(by simp;omega)
 rw [this]
 simp
theorem zbw{xs:List Int}(h:i<xs.length):atI (xs.map PyData.int) (0+(i:Int))=some (PyData.int xs[i]):=by
 rw [Wbh];have:(xs.map PyData.int)[i]?=some (PyData.int xs[i]):=by rw [Ya0,YaQ h];rfl
 exact jb this
theorem c64:J9 10 64:=powB (k:=4) (by unfold Bits;decide) #[1] #[1]
abbrev Rat2:=Int×Int
noncomputable def dQ(r:Rat2):D:=.tuple [.int r.1,.int r.2]
noncomputable def dP(p:Rat2×Rat2):D:=.tuple [dQ p.1,dQ p.2]
noncomputable def dPs(l:List (Rat2×Rat2)):D:=.list (l.map dP)
def okQ(r:Rat2):Prop:=0<r.2/\Bits 1200 r.1/\Bits 1200 r.2
def inQ(r:Rat2):Prop:=0<=r.1/\r.1<=10*r.2
def okB(n:Nat)(l:List (Rat2×Rat2)):Prop:=l.length=n/\∀ p∈l,inQ p.1/\inQ p.2
noncomputable def jA(b:Int)(r:Rat2):Int:=r.1*b/r.2
theorem JY(h:i<rows.length):atI (rows.map dI) (i:Int)=some (PyData.list (rows[i].map PyData.int)):=by
 have:(rows.map dI)[i]?=some (PyData.list (rows[i].map PyData.int)):=by rw [Ya0,YaQ h];rfl
 exact jb this
theorem jo{xs:List Int}{i:Int}(c:0<=i)(h:i<xs.length):atI (xs.map PyData.int) i=some (PyData.int (xs.getD i.toNat 0)):=by
 obtain⟨x,a,_,b⟩:=zaZ c h;rw [Zr,a,YaP,b];rfl
def jM(p:Int×Int):D:=.tuple [.int p.1,.int p.2]
noncomputable def zE(b:Int)(l:List (Rat2×Rat2)):List (Int×Int):=l.map fun p=>(jA b p.1,jA b p.2)
theorem zh5(h:∀ w∈ws,0<=w){w:Int}(hw:w∈ws):w<=ws.sum:=by
 induction ws with
 | nil=>cases hw
 | cons a r ih=>
  rw [List.sum_cons];have h2:=Zy (ws:=r) fun w hw=>h w (YaT _ hw)
  have h3:=h a YaV
  rcases Wa5.mp hw with rfl|hw
  . lia
  . have:=ih (fun w hw=>h w (YaT _ hw)) hw
    lia
theorem zhn(h:okW ws)(g:0<=b)(c:x∈shares b ws):x<=b:=by
 obtain⟨w,a,rfl⟩:=Ya7.mp c;have e:=zh5 (fun w a=>(h.2.1 w a).1) a
 refine Int.ediv_le_of_le_mul (jN h) ?_
 rw [Wbg w b];exact Int.mul_le_mul_of_nonneg_left e g
def leP(b:Int)(p:List Int×List (List Int)):Prop:=1<=p.2.length/\(∀ x∈p.1,x<=((p.2.length:Int) - 1)*b)/\∀ r∈p.2,∀ x∈r,x<=((p.2.length:Int) - 1)*b
theorem zlC(hb:0<=b)(hs:∀ x∈sh,x<=b)(h:leP b p):leP b (zD sh p):=by
 obtain⟨h1,h2,h3⟩:=h;have e:(((zD sh p).2.length:Nat):Int) - 1=p.2.length:=by show(((p.2++[_]).length:Nat):Int) - 1=_;rw [YaS];simp
 have hm:((p.2.length:Int) - 1)*b+b=(p.2.length:Int)*b:=by rw [Int.sub_mul,Wbo];lia
 have ha:∀ x∈addL p.1 sh,x<=(p.2.length:Int)*b:=fun x hx=>by
  unfold addL at hx;obtain⟨q,hq,rfl⟩:=Ya7.mp hx;obtain⟨q1,q2⟩:=WaV (a:=q.1) (b:=q.2) hq;have:=h2 _ q1;have:=hs _ q2
  lia
 refine⟨by show 1<=(p.2++[_]).length;rw [YaS];simp,by rw [e];exact ha,fun r hr x hx=>?_⟩
 rw [e]
 rcases Ya3.mp hr with z|z
 . have:=h3 r z x hx;lia
 . rw [Ya6.mp z] at hx;exact ha x hx
theorem zeF{b:Int}{sh:List Int}(c:0<=b)(a:∀ x∈sh,x<=b):∀ (n:Nat) {p:List Int×List (List Int)},leP b p->leP b (rep (zD sh) n p)
 | 0,_,h=>h
 | n+1,_,h=>zeF c a n (zlC c a h)
theorem zgn{b:Int}(a:0<=b):∀ (l:List Spell) {p:List Int×List (List Int)},(∀ s∈l,okW s.2)->leP b p->leP b (runQ b l p)
 | [],_,_,h=>h
 | s::l,p,hl,h=>zgn a l (fun t e=>hl t (YaT _ e)) (zeF a (fun x c=>zhn (hl s YaV) a c) _ h)
theorem zdj{l:List Spell}(h:okS l)(j:0<b):∀ r∈quoB b l,∀ x∈r,x<=tot l*b:=fun r c x a=>by
 have:=zgn (b:=b) #[0] l (p:=(zeros l,[zeros l])) (fun s e=>(h.2.1 s e).2.1) ⟨by simp,fun x a=>by
  have:=Wah a
  simp_all,fun r c x a=>by
  rw [Ya6.mp c] at a;have:=Wah a
  simp_all⟩
 have i:=this.2.2 r c x a;have g:=zct h b;unfold quoB at g
 simp_all
def nnP(p:List Int×List (List Int)):Prop:=(∀ x∈p.1,0<=x)/\∀ r∈p.2,∀ x∈r,0<=x
theorem zlP(hs:∀ x∈sh,0<=x)(h:nnP p):nnP (zD sh p):=by
 have ha:∀ x∈addL p.1 sh,0<=x:=fun x hx=>by
  unfold addL at hx;obtain⟨q,hq,rfl⟩:=Ya7.mp hx;obtain⟨q1,q2⟩:=WaV (a:=q.1) (b:=q.2) hq;have:=h.1 _ q1;have:=hs _ q2
  lia
 refine⟨ha,fun r hr x hx=>?_⟩
 rcases Ya3.mp hr with z|z
 . exact h.2 r z x hx
 . rw [Ya6.mp z] at hx;exact ha x hx
theorem zfY{sh:List Int}(a:∀ x∈sh,0<=x):∀ (n:Nat) {p:List Int×List (List Int)},nnP p->nnP (rep (zD sh) n p)
 | 0,_,h=>h
 | n+1,_,h=>zfY a n (zlP a h)
theorem zf0{b:Int}(c:0<=b):∀ (l:List Spell) {p:List Int×List (List Int)},(∀ s∈l,okW s.2)->nnP p->nnP (runQ b l p)
 | [],_,_,h=>h
 | s :: l, p, hl, h => zf0 c l (fun t e => hl t (YaT _ e)) (zfY (fun x i => by
  obtain⟨w,g,rfl⟩:=Ya7.mp i;have a:=hl s YaV;exact WaY (YaK (a.2.1 w g).1 c) (by have:=jN a;omega)) _ h)
theorem zeo{l:List Spell}(h:okS l)(g:0<=b):∀ r∈quoB b l,∀ x∈r,0<=x:=
 (zf0 g l (fun s e=>(h.2.1 s e).2.1) ⟨fun x a=>by rw [Wah a];decide,fun r c x a=>by
  rw [Ya6.mp c] at a;rw [Wah a];decide⟩).2
theorem zcS{tb:TS3}{A:Ends3}{enc:Nat->D}(P:Nat->Env3->Prop)(s:∀ k ρ,k<n->P k ρ->∀ W:Env3->Prop,(∀ ρ',P (k+1) ρ'->W ρ')->g f (enc k) ρ fun ρ'=>tb { A with nx:=W,ct:=W,bk:=A.nx } ρ')(e:∀ ρ,P n ρ->A.nx ρ)(h:P 0 ρ):forL g tb A f ((List.range n).map enc) ρ:=by
 refine jp enc _ (fun done ρ=>P done.length ρ) (fun done x rest ρ hd hp W hW=>?_) (fun ρ hp=>e ρ (by simp_all)) h
 have hx:=by
  have h1:(List.range n)[done.length]?=some x:=by rw [hd];simp
  have h2:done.length<n:=by have:=congrArg List.length hd;simp at this;omega
  rw [Yax h2] at h1;exact(WaU h1).symm
 subst hx;have h2:done.length<n:=by have:=congrArg List.length hd;simp at this;omega
 exact s _ ρ h2 hp W fun ρ' hp'=>hW ρ' (by simp_all)
noncomputable def JA(p:Nat->Bool):Nat->Nat->Nat
 | i,0=>i
 | i,m+1=>if p i=true then i else JA p (i+1) m
noncomputable def zF(n:Nat)(p:Nat->Bool):Nat:=JA p 1 (n - 1)
theorem zls(p):∀ (m i:Nat),i<=JA p i m/\JA p i m<=i+m/\(∀ t,i<=t->t<JA p i m->p t=false)/\(JA p i m<i+m->p (JA p i m)=true):=by
 intro m
 induction m with
 | zero=>intro i;exact⟨YaY _,YaY _,fun t h1 h2=>absurd h2 (by show ¬t<i;omega),fun h=>absurd h (by show ¬i<i+0;omega)⟩
 | succ m ih=>
  intro i;unfold JA
  by_cases h:p i=true
  . rw [if_pos h];exact⟨YaY _,#[0],fun t h1 h2=>absurd h2 #[0],fun _=>h⟩
  . rw [if_neg h]
    obtain⟨a1,a2,a3,a4⟩:=ih (i+1);refine⟨#[0],#[0],fun t h1 h2=>?_,fun hh=>a4 #[0]⟩
    by_cases e:t=i
    . subst e;simpa using h
    . exact a3 t #[0] h2
theorem jS(e:1<=n)(p):1<=zF n p/\zF n p<=n/\(∀ t,1<=t->t<zF n p->p t=false)/\(zF n p<n->p (zF n p)=true):=by
 obtain⟨c,g,b,a⟩:=zls p _ 1;exact⟨c,by unfold zF;omega,b,fun h=>a (by unfold zF at h;omega)⟩
theorem zeg(a:1<=n){p:Nat->Bool}{r:Nat}(i:1<=r)(g:r<=n)(e:∀ t,1<=t->t<r->p t=false)(c:r<n->p r=true):zF n p=r:=by
 obtain⟨j,l,b,h⟩:=jS a p
 rcases Nat.lt_trichotomy (zF n p) r with z|z|z
 . grind
 . exact z
 grind
abbrev Win:=Int×Int×Int×Option Int
variable{W:List (List Win)}{l:List Spell}{A m:Nat}{U:List Win}{may:Win->Nat->Prop}{h ca far came:Tb}{s a g:Int}{ρ:Env3}
noncomputable def dO:Option Int->D
 | none=>.none
 | some i=>.int i
theorem zhG(f)(o):isNone (Cl.sh f (dO o))=o.isNone:=by cases o<;>rfl
noncomputable def dW(w:Win):D:=.tuple [.int w.1,.int w.2.1,.int w.2.2.1,dO w.2.2.2]
noncomputable def winP(n:Nat)(e l:Nat->Bool):Int×Option Int:=(zF n e,if zF n l=n then none else some (zF n l:Nat))
def JF(n:Nat)(w:Int×Option Int):Prop:=w.1<n\/w.2≠none
def IsW(n:Nat)(k:Int)(W:Int->Int×Option Int):Int->List Win->Prop
 | j,[]=>¬JF n (W j)
 | j,w::r=>JF n (W j)/\w=(k,j,(W j).1,(W j).2)/\IsW n k W (j+1) r
noncomputable def zp(q:List (List Int))(k:Nat):List Int:=q.map fun r=>r.getD k 0
noncomputable def winB(b:Int)(path:List Int)(room:Int×Int)(j:Int):Int×Option Int:=winP path.length (fun t=>decide (j*b - room.2<=path.getD t 0)) (fun t=>decide ((j - 1)*b+room.1+1<=path.getD t 0))
theorem zlu(hb:0<b)(h1:1<=path.length)(hp:∀ t,path.getD t 0+room.2<=M*b)(hr:0<=room.2)(hr1:0<=room.1)(j)(h:JF path.length (winB b path room j)):j<=M+1:=by
 have key:=fun x hx=>by
  have:x*b<=(M+1)*b:=by rw [Int.add_mul,Wbo];exact hx
  exact YaF this hb
 rcases h with h|h
 . obtain⟨_,_,_,a4⟩:=jS h1 (fun t=>decide (j*b - room.2<=path.getD t 0))
   have := of_decide_eq_true (a4 (by have : ((zF _ _) : Int) < path.length := h
                                     lia))
   have h2:=hp (zF path.length fun t=>decide (j*b - room.2<=path.getD t 0))
   exact key j #[94]
 . obtain⟨_,a2,_,a4⟩:=jS h1 (fun t=>decide ((j - 1)*b+room.1+1<=path.getD t 0))
   have hne:zF _ _≠path.length:=fun z=>h (if_pos z)
   have:=of_decide_eq_true (a4 #[94])
   have h2:=hp (zF path.length fun t=>decide ((j - 1)*b+room.1+1<=path.getD t 0))
   have h3:(j - 1)*b=j*b - b:=by rw [Int.sub_mul,Wbo]
   exact key j #[94]
def zdi(L:List (List Int))(R:List (Int×Int)):Prop:=∀ ld∈L,∀ (i:Nat) (x:Int) (p:Int×Int),ld[i]?=some x->R[i]?=some p->-p.1<=x/\x<=p.2
noncomputable def mxO(a y:Int):Int:=if a<y then y else a
noncomputable def mx(ld:Nat->Nat->Int)(k:Nat):Nat->Int×Int
 | 0=>(0,0)
 | t+1=>(mxO (mx ld k t).1 (-(ld t k)),mxO (mx ld k t).2 (ld t k))
noncomputable def ldF(b:Int)(n:Nat)(q:List (List Int))(row:List Int)(t k:Nat):Int:=(jg b n q row t).getD k 0
theorem zb7(ld)(k)(t):0<=(mx ld k t).1/\0<=(mx ld k t).2/\(∀ s,s<t->-(ld s k)<=(mx ld k t).1/\ld s k<=(mx ld k t).2)/\((mx ld k t).1=0\/∃ s,s<t/\(mx ld k t).1 = -(ld s k))/\((mx ld k t).2=0\/∃ s,s<t/\(mx ld k t).2=ld s k):=by
 induction t with
 | zero=>exact⟨Wbn 0,Wbn 0,fun s h=>absurd h #[94],.inl rfl,.inl rfl⟩
 | succ t ih=>
  obtain⟨h1,h2,h3,h4,h5⟩:=ih;have e1:(mx ld k (t+1)).1=mxO (mx ld k t).1 (-(ld t k)):=rfl;have e2:(mx ld k (t+1)).2=mxO (mx ld k t).2 (ld t k):=rfl;rw [e1,e2];unfold mxO;refine⟨by split<;>lia,by split<;>lia,fun s hs=>?_,?_,?_⟩
  . by_cases e:s=t
    . subst e;constructor<;>split<;>lia
    . have:=h3 s #[94]
      constructor<;>split<;>lia
  . split
    . exact .inr ⟨t,#[94],rfl⟩
    . rcases h4 with z|⟨s,z,w⟩
      . exact .inl z
      . exact .inr ⟨s,#[94],w⟩
  . split
    . exact .inr ⟨t,#[94],rfl⟩
    . rcases h5 with z|⟨s,z,w⟩
      . exact .inl z
      . exact .inr ⟨s,#[94],w⟩
theorem zdX{c y u:Int}(hb:0<b)(hc:0<c)(hu:0<u)(e:x*c=y*b):x<=v*b/u↔y*u<=v*c:=by
 rw [Int.le_ediv_iff_mul_le hu]
 constructor
 . intro h
   have h1:=Ybe h (show 0<=c by omega)
   have e1:x*u*c=y*u*b:=by rw [Wat,e,Wat]
   have e2:v*b*c=v*c*b:=by ac_rfl
   simp_all
 . intro h
   have h1:=Ybe h (show 0<=b by omega)
   have e1:x*u*c=y*u*b:=by rw [Wat,e,Wat]
   have e2:v*b*c=v*c*b:=by ac_rfl
   rw [<-e1,<-e2] at h1;exact YaF h1 hc
theorem ziX{c:Int}(e:q.map (List.map (· * c))=q'.map (List.map (· * b)))(t k):ldF b n q row t k*c=ldF c n q' row t k*b:=by
 have h:(jg b n q row t).map (· * c)=(jg c n q' row t).map (· * b):=by
  unfold jg;rw [zfq b,zfq c]
  apply zlG
  have h:=congrArg (fun z=>z.getD (t+1) []) e
  simp
  cases h1:q[t+1]? <;> cases h2:q'[t+1]? <;> simp [h1,h2] at h ⊢
  . exact h
  . exact h
  . exact h
 have a:=congrArg (fun z=>z.getD k 0) h
 unfold ldF
 simp
 cases h1:(jg b n q row t)[k]? <;> cases h2:(jg c n q' row t)[k]? <;> simp [h1,h2] at a ⊢
 . exact a
 . exact a
 . exact a
noncomputable def pr2(p:Int×Int):List D:=[.int p.1,.int p.2]
theorem zc4{α: Type}(f:α->β){xs:List α}(h:i<xs.length):atI (xs.map f) (0+(i:Int))=some (f xs[i]):=by
 rw [Wbh];exact jb (by rw [Ya0,YaQ h];rfl)
theorem zmp{α : Type}(f)(n i)(v:α):((List.range n).map f).set i v=(List.range n).map fun k=>if k=i then v else f k:=by
 refine List.ext_getElem (by simp) fun k h1 h2=>?_
 rw [List.getElem_set]
 by_cases e:i=k
 . subst e;simp
 . rw [if_neg e];simp [Wbp e]
theorem IsW.mem{n:Nat}{k:Int}{W:Int->Int×Option Int}{w:Win}:∀ {ws:List Win} {j:Int},IsW n k W j ws->w∈ws->∃ i,j<=i/\w=(k,i,(W i).1,(W i).2)
 | [],j,_,hw=>by cases hw
 | v :: r, j, h, hw => by
  rcases Wa5.mp hw with z|z
  . exact⟨j,Wbn _,by rw [z];exact h.2.1⟩
  . obtain⟨i,a,b⟩:=IsW.mem h.2.2 z
    exact⟨i,#[94],b⟩
theorem zjV{w:Win}(h:w∈W.flatten):∃ k,k<W.length/\w∈W.getD k []:=by
 obtain⟨l,b,c⟩:=List.mem_flatten.mp h;obtain⟨k,a,e⟩:=Yam b;refine⟨k,a,?_⟩
 simp_all
theorem zf2{w:Win}(a:k<W.length)(h:w∈W.getD k []):w∈W.flatten:=by
 rw [YaP,YaQ a] at h;exact List.mem_flatten.mpr ⟨W[k],Ya4 a,h⟩
noncomputable def tk(p:Nat->Bool)(t:Nat):List Nat:=(List.range t).filter p
theorem Jp(p)(t):tk p (t+1)=tk p t++if p t=true then [t] else []:=by
 unfold tk;rw [List.range_succ];cases h:p t<;>simp [h]
theorem zdH(p){s:Nat}(h:s<=t):∃ r,tk p t=tk p s++r/\∀ x∈r,s<=x:=by
 induction t with
 | zero=>simp_all
 | succ t ih=>
  by_cases e:s=t+1
  . simp_all
  . obtain⟨r,h1,h2⟩:=ih #[0]
    refine⟨_,by rw [Jp,h1,Yag],fun x hx=>?_⟩
    rcases Ya3.mp hx with z|z
    . exact h2 x z
    . split at z
      . rw [Ya6.mp z];omega
      . cases z
theorem zbc(p){s:Nat}(h:s<=t):(tk p s).length<=(tk p t).length:=by
 obtain⟨r,h1,_⟩:=zdH p h;rw [h1,YaS];lia
theorem zhE(p)(h:x∈tk p t):x<t:=Yba.mp (Ya9.mp h).1
theorem Zp(p:Nat->Bool):∀ {t j i:Nat},(tk p t)[j]?=some i->i<t/\(tk p i).length=j/\(tk p (i+1)).length=j+1
 | 0,j,i,h=>by simp [tk] at h
 | t + 1, j, i, h => by
  rw [Jp] at h
  by_cases hj:j<(tk p t).length
  . rw [Yab hj] at h
    obtain⟨a,b⟩:=Zp p h;exact⟨#[0],b⟩
  . rw [Yae #[0]] at h
    split at h
    . rename_i hp
      cases e:j - (tk p t).length with
      | zero=>
       rw [e] at h;cases h;have ej:(tk p t).length=j:=#[0]
       exact⟨#[0],ej,by rw [Jp,if_pos hp,YaS,ej];rfl⟩
      | succ m=>rw [e] at h;simp at h
    . simp at h
theorem zmB(p){s:Nat}(h:s<=t)(a:j<(tk p s).length):∃ i,i<s/\(tk p t)[j]?=some i:=by
 obtain⟨r,b,_⟩:=zdH p h;refine⟨_,zhE p (Ya4 a),?_⟩;rw [b,Yab a,YaQ a]
def okV(pos:List Nat)(w:Win):Prop:=if w.2.1<=pos.length then w.2.2.1<=((pos.getD (w.2.1 - 1).toNat 0+1:Nat):Int)/\∀ x,w.2.2.2=some x->((pos.getD (w.2.1 - 1).toNat 0+1:Nat):Int)<=x else w.2.2.2=none
theorem IsW.at{n:Nat}{k:Int}{W:Int->Int×Option Int}:∀ {ws:List Win} {j:Int} {i:Nat},IsW n k W j ws->i<ws.length->ws[i]?=some (k,j+i,(W (j+i)).1,(W (j+i)).2)
 | [],j,i,_,h=>by simp at h
 | v :: r, j, 0, h, _ => by
  rw [h.2.1];show some _=some _;rw [show j+((0:Nat):Int)=j by omega]
 | v :: r, j, i + 1, h, hi => by
  have:=IsW.at (i:=i) h.2.2 (by simpa using hi)
  rw [List.getElem?_cons_succ,this,show j+1+(i:Int)=j+((i+1:Nat):Int) by omega]
theorem IsW.long{n:Nat}{k:Int}{W:Int->Int×Option Int}{m:Nat}:∀ {ws:List Win} {j:Int},IsW n k W j ws->(∀ x:Nat,x<m->JF n (W (j+x)))->m<=ws.length
 | [], j, h, ht => by
  cases m with
  | zero=>exact YaY _
  | succ m=>exact absurd (by have:=ht 0 #[94];grind) h
 | v :: r, j, h, ht => by
  cases m with
  | zero=>exact Wbm _
  | succ m=>
   have:=IsW.long (m:=m) h.2.2 fun x hx=>by
    grind
   grind
theorem zdN(a:1<=n){p:Nat->Bool}(e:1<=t)(h:p t=true):zF n p<=t:=by
 obtain⟨g,i,c,b⟩:=jS a p
 grind
theorem zmr(hb:0<b)(R:path.length=T+1)(q:∀ s t,s<=t->t<=T->path.getD s 0<=path.getD t 0)(h0:0<=path.getD 0 0)(a0:0<=r1)(X:0<=r2)(p){ws:List Win}(J:IsW (T+1) k (winB b path (r1,r2)) 1 ws) :
 (∀ t,t<T->-r1<=((tk p (t+1)).length:Int)*b - path.getD (t+1) 0/\((tk p (t+1)).length:Int)*b - path.getD (t+1) 0<=r2)↔((∀ w∈ws,okV (tk p T) w)/\(tk p T).length<=ws.length):=by
 have B:1<=T+1:=#[0]
 have L:∀ j,(winB b path (r1,r2) j).1=((zF (T+1) (fun t=>decide (j*b - r2<=path.getD t 0)):Nat):Int):=fun j=>by unfold winB winP;rw [R]
 have A:∀ j,(winB b path (r1,r2) j).2=if zF (T+1) (fun t=>decide ((j - 1)*b+r1+1<=path.getD t 0))=T+1 then none else some ((zF (T+1) (fun t=>decide ((j - 1)*b+r1+1<=path.getD t 0)):Nat):Int):=fun j=>by unfold winB winP;rw [R]
 have r:∀ x y:Int,x<=y->x*b<=y*b:=fun x y h=>Ybe h #[0]
 constructor
 . intro N
   have O:∀ (j i:Nat),(tk p T)[j]?=some i->zF (T+1) (fun t=>decide (((j:Int)+1)*b - r2<=path.getD t 0))<=i+1:=fun j i h=>by
    obtain⟨E,F,H⟩:=Zp p h;have:=(N i E).2;rw [H] at this;refine zdN B #[0] (decide_eq_true ?_)
    have e:((j+1:Nat):Int)*b=((j:Int)+1)*b:=by rw [Int.natCast_succ]
    omega
   have Q:∀ (j:Int),1<=j->zF (T+1) (fun t=>decide ((j - 1)*b+r1+1<=path.getD t 0))≠T+1->j<=((tk p (zF (T+1) (fun t=>decide ((j - 1)*b+r1+1<=path.getD t 0)))).length:Int):=fun j M n=>by
    obtain⟨E,F,H,K⟩:=jS B (fun t=>decide ((j - 1)*b+r1+1<=path.getD t 0))
    generalize zF (T+1) (fun t=>decide ((j - 1)*b+r1+1<=path.getD t 0))=f at *
    have I:=of_decide_eq_true (K #[0])
    have u:=(N (f - 1) #[0]).1
    rw [show f - 1+1=f by omega] at u
    by_cases z:j<=((tk p f).length:Int)
    . exact z
    . have:=r ((tk p f).length:Int) (j - 1) #[0]
      omega
   refine⟨fun w hw=>?_,?_⟩
   . obtain⟨j,M,rfl⟩:=J.mem hw
     unfold okV;dsimp only
     by_cases G:j<=((tk p T).length:Int)
     . rw [if_pos G]
       have v:(j - 1).toNat<(tk p T).length:=#[0]
       have g:(tk p T)[(j - 1).toNat]?=some (tk p T)[(j - 1).toNat]:=YaQ v;have m:(tk p T).getD (j - 1).toNat 0=(tk p T)[(j - 1).toNat]:=by rw [YaP,g];rfl
       rw [m];generalize (tk p T)[(j - 1).toNat]=i at g;obtain⟨E,F,H⟩:=Zp p g;have Z:(((j - 1).toNat:Nat):Int)+1=j:=#[0]
       refine⟨?_,fun x o=>?_⟩
       . have:=O _ _ g
         rw [Z] at this;rw [L];omega
       . rw [A] at o
         split at o
         . cases o
         . rename_i n
           have:=Q j M n;cases o;generalize zF (T+1) (fun t=>decide ((j - 1)*b+r1+1<=path.getD t 0))=f at *
           by_cases z:f<i+1
           . have:=zbc p (show f<=i by omega)
             omega
           . omega
     . rw [if_neg G,A]
       split
       . rfl
       . rename_i n
         have I:=Q j M n;obtain⟨_,F,_,_⟩:=jS B (fun t=>decide ((j - 1)*b+r1+1<=path.getD t 0))
         have:=zbc p (show zF (T+1) (fun t=>decide ((j - 1)*b+r1+1<=path.getD t 0))<=T by omega)
         omega
   . refine J.long fun x o=>.inl ?_
     have g:(tk p T)[x]?=some (tk p T)[x]:=YaQ o;have I:=O _ _ g;have u:=(Zp p g).1;rw [L,show(1:Int)+(x:Int)=(x:Int)+1 by omega]
     omega
 . rintro⟨U,hm⟩ t ht
   have C:∀ i:Nat,i<ws.length->okV (tk p T) (k,1+(i:Int),(winB b path (r1,r2) (1+(i:Int))).1,(winB b path (r1,r2) (1+(i:Int))).2):=fun i P=>U _ (Yah (J.at P))
   constructor
   . -- not too far behind
     by_cases z:-r1<=((tk p (t+1)).length:Int)*b - path.getD (t+1) 0
     . exact z
     . exfalso
       have l:∀ x:Nat,x<=(tk p (t+1)).length->zF (T+1) (fun s=>decide (((1+(x:Int)) - 1)*b+r1+1<=path.getD s 0))<=t+1:=fun x o=>by
        refine zdN B #[0] (decide_eq_true ?_)
        have:=r (1+(x:Int) - 1) ((tk p (t+1)).length:Int) #[0]
        omega
       have S:(tk p (t+1)).length+1<=ws.length:=J.long fun x o=>.inr (by
        rw [A,if_neg (by have:=l x #[0];omega)];simp)
       have c:=C (tk p (t+1)).length #[0]
       have I:=l (tk p (t+1)).length (YaY _);unfold okV at c;dsimp only at c
       by_cases G:1+((tk p (t+1)).length:Int)<=((tk p T).length:Int)
       . rw [if_pos G,A,if_neg #[0]] at c
         have u:=c.2 _ rfl;have e:(1+((tk p (t+1)).length:Int) - 1).toNat=(tk p (t+1)).length:=#[0]
         rw [e] at u;have v:(tk p (t+1)).length<(tk p T).length:=#[0]
         have g:(tk p T)[(tk p (t+1)).length]?=some (tk p T)[(tk p (t+1)).length]:=YaQ v;have m:(tk p T).getD (tk p (t+1)).length 0=(tk p T)[(tk p (t+1)).length]:=by rw [YaP,g];rfl
         rw [m] at u;generalize (tk p T)[(tk p (t+1)).length]=i at g u;obtain⟨E,F,H⟩:=Zp p g;have:=zbc p (show i+1<=t+1 by omega)
         omega
       . rw [if_neg G,A,if_neg #[0]] at c
         cases c
   . -- not too far ahead
     by_cases hz:(tk p (t+1)).length=0
     . have:=q 0 (t+1) #[0] #[0]
       rw [hz];have e:((0:Nat):Int)*b=0:=by simp
       omega
     . obtain⟨i,P,g⟩:=zmB p (s:=t+1) (t:=T) (j:=(tk p (t+1)).length - 1) #[0] #[0]
       have Y:=zbc p (show t+1<=T by omega)
       have c:=C ((tk p (t+1)).length - 1) #[0]
       unfold okV at c;dsimp only at c;rw [if_pos #[0]] at c
       have e:(1+(((tk p (t+1)).length - 1:Nat):Int) - 1).toNat=(tk p (t+1)).length - 1:=#[0]
       have m:(tk p T).getD ((tk p (t+1)).length - 1) 0=i:=by rw [YaP,g];rfl
       rw [e,m,L] at c;have W:1+(((tk p (t+1)).length - 1:Nat):Int)=((tk p (t+1)).length:Int):=#[0]
       rw [W] at c;obtain⟨E,F,H,K⟩:=jS B (fun s=>decide (((tk p (t+1)).length:Int)*b - r2<=path.getD s 0))
       have I:=of_decide_eq_true (K #[0])
       have u:=q (zF (T+1) (fun s=>decide (((tk p (t+1)).length:Int)*b - r2<=path.getD s 0))) (t+1) #[0] #[0]
       omega
def moP(n:Nat)(p:List Int×List (List Int)):Prop:=p.1.length=n/\∀ k,(∀ i j,i<=j->j<p.2.length->(p.2.getD i []).getD k 0<=(p.2.getD j []).getD k 0)/\∀ i,i<p.2.length->(p.2.getD i []).getD k 0<=p.1.getD k 0
theorem zlw{a:List Int}(hl:sh.length=a.length)(hs:∀ x∈sh,0<=x)(k):a.getD k 0<=(addL a sh).getD k 0:=by
 have hal:=zcb hl.symm
 by_cases hk:k<a.length
 . have hz:(a.zip sh)[k]?=some (a[k],sh[k]'(by omega)):=Wad.mpr ⟨YaQ hk,YaQ _⟩
   have h1:(addL a sh).getD k 0=a[k]+sh[k]'(by omega):=by
    unfold addL;rw [YaP,Ya0,hz];rfl
   have h2:a.getD k 0=a[k]:=by simp_all
   have h3:=hs _ (Ya4 (show k<sh.length by omega))
   grind
 grind
theorem zkZ{α : Type}{l:List α}{x d:α}:(l++[x]).getD i d=if i<l.length then l.getD i d else if i=l.length then x else d:=by
 rw [YaP,YaP]
 by_cases h:i<l.length
 . rw [if_pos h,Yab h]
 . rw [if_neg h]
   by_cases e:i=l.length
   . subst e;simp
   . rw [if_neg e,Wan (by grind)];rfl
theorem zkf(hl:sh.length=n)(hs:∀ x∈sh,0<=x)(h:moP n p):moP n (zD sh p):=by
 have ha:=zlw (a:=p.1) (by rw [hl,h.1]) hs
 refine⟨by show(addL p.1 sh).length=n;rw [zcb (by rw [hl,h.1]),h.1],fun k=>?_⟩
 obtain⟨h1,h2⟩:=h.2 k;have hlen:(zD sh p).2.length=p.2.length+1:=by show(p.2++[_]).length=_;rw [YaS];rfl
 have hget:∀ i,i<=p.2.length->((zD sh p).2.getD i []).getD k 0=if i<p.2.length then(p.2.getD i []).getD k 0 else(addL p.1 sh).getD k 0:=fun i hi=>by
  show((p.2++[addL p.1 sh]).getD i []).getD k 0=_
  rw [zkZ]
  by_cases z:i<p.2.length
  . rw [if_pos z,if_pos z]
  . rw [if_neg z,if_neg z,if_pos #[0]]
 have hk:=ha k;refine⟨fun i j hij hj=>?_,fun i hi=>?_⟩
 . rw [hlen] at hj
   rw [hget i #[0],hget j #[0]]
   by_cases z:j<p.2.length
   . rw [if_pos z,if_pos #[0]];exact h1 i j hij z
   . rw [if_neg z]
     by_cases y:i<p.2.length
     . rw [if_pos y];have:=h2 i y;omega
     . rw [if_neg y];exact Wbn _
 . rw [hlen] at hi
   rw [hget i #[0]]
   show _<=(addL p.1 sh).getD k 0
   by_cases y:i<p.2.length
   . rw [if_pos y];have:=h2 i y;omega
   . rw [if_neg y];exact Wbn _
theorem zgG{n:Nat}{sh:List Int}(b:sh.length=n)(a:∀ x∈sh,0<=x):∀ (m:Nat) {p:List Int×List (List Int)},moP n p->moP n (rep (zD sh) m p)
 | 0,_,h=>h
 | m+1,_,h=>zgG b a m (zkf b a h)
theorem zfz{n:Nat}{b:Int}(c:0<=b):∀ (l:List Spell) {p:List Int×List (List Int)},(∀ s∈l,okW s.2/\s.2.length=n)->moP n p->moP n (runQ b l p)
 | [],_,_,h=>h
 | s :: l, p, hl, h => zfz c l (fun t e => hl t (YaT _ e)) (zgG (by rw [zdz]; exact (hl s YaV).2) (fun x i => by
  obtain⟨w,g,rfl⟩:=Ya7.mp i;have a:=(hl s YaV).1;exact WaY (YaK (a.2.1 w g).1 c) (by have:=jN a;omega)) _ h)
theorem zbM(q)(k s):(zp q k).getD s 0=(q.getD s []).getD k 0:=by
 unfold zp
 simp
 cases q[s]? <;> simp
theorem zlt(h:okS l)(m:0<=b)(k s t)(a:s<=t)(e:t<(quoB b l).length):(zp (quoB b l) k).getD s 0<=(zp (quoB b l) k).getD t 0:=by
 have g:=zfz m l (p:=(zeros l,[zeros l])) (fun s c=>⟨(h.2.1 s c).2.1,(h.2.1 s c).2.2⟩) ⟨by unfold zeros;simp,fun k=>⟨fun i j _ o=>?_,fun i n=>?_⟩⟩
 . rw [zbM,zbM]
   exact(g.2 k).1 s t a e
 . simp_all
 simp_all
noncomputable def posP(row:List Int)(c:Int)(i:Nat):Bool:=decide (row.getD i 0=c)
theorem zb1(b){c:Nat}(hc:c<n)(hr:∀ x∈row,0<=x/\x<(n:Int)):∀ t,t<=row.length->(hadN b n (row.take t)).getD c 0=((tk (posP row c) t).length:Int)*b:=by
 intro t
 induction t with
 | zero=>
  intro _;show(List.replicate n (0)).getD c 0=_;rw [YaP,Yad,if_pos hc]
  simp [tk]
 | succ t ih=>
  intro ht;have hlt:=#[94]
  have hx:=hr _ (Ya4 hlt);have hp:posP row c t=decide (row[t]=(c)):=by
   unfold posP;rw [YaP,YaQ hlt];rfl
  have ihh:=ih #[94]
  have hhl:=Jx b n (row.take t);rw [Yav hlt,zcz,Jp,hp];unfold had1
  by_cases e:row[t]=(c)
  . have e1:row[t].toNat=c:=#[94]
    rw [e1,decide_eq_true e,if_pos rfl,YaP,Yas #[94],YaS,List.length_singleton,Int.natCast_succ,Int.add_mul,Wbo,<-ihh]
    rfl
  . have e1:row[t].toNat≠c:=#[94]
    rw [decide_eq_false e,YaP,Yac e1,<-YaP,ihh]
    simp
noncomputable def posL(row:List Int)(c:Int):List Nat:=tk (posP row c) row.length
theorem zfK(ns):Plain 1 (dI ns):=Plain.list fun d hd=>by
 obtain⟨i,_,rfl⟩:=Ya7.mp hd;exact Plain.int i
noncomputable def lowQ(a b:Int):Rat2:=(a/(Int.gcd a b:Int),b/(Int.gcd a b:Int))
theorem zdp(h:0<b)(c:Bits 1100 a)(e:Bits 1100 b):okQ (lowQ a b):=by
 obtain⟨g,_,_,_⟩:=Zq h;exact⟨g,(c.le (Yay _ _)).mono #[1],(e.le (Yay _ _)).mono #[1]⟩
theorem zcK(hb:0<b)(h0:0<=a)(h1:a<=10*b):inQ (lowQ a b):=by
 obtain⟨l1,l2,l3,l4⟩:=Zq (a:=a) hb;have hg:=zcs (a:=a) hb;refine⟨WaY h0 #[94],?_⟩
 show a/(Int.gcd a b)<=10*(b/(Int.gcd a b))
 refine YaF ?_ hg
 rw [Wa8,l3,l4];exact h1
noncomputable def minO(m c:Int):Int:=if c<m then c else m
theorem zgT{m B:Int}(hB:0<B)(hm:0<=m)(hb:Bits 900 B):0<=minO m (10*B)/\minO m (10*B)<=10*B/\Bits 1000 (minO m (10*B)):=by
 have h:0<=minO m (10*B)/\minO m (10*B)<=10*B:=by unfold minO;split<;>lia
 have hb2:Bits 1000 (10*B):=((Bits.lit (x:=10) 64).mul hb).mono #[1]
 exact⟨h.1,h.2,hb2.le #[94]⟩
theorem JD{α : Type}[DecidableEq α]:∀ {L M:List α},L.Nodup->(∀ x∈L,x∈M)->L.length<=M.length
 | [],_,_,_=>Wbm _
 | a :: L, M, nd, h => by
  have ha:=h a YaV;have:=JD (L:=L) (M:=M.erase a) (YaB.mp nd).2 fun x hx=>by
   have hne:x≠a:=fun e=>(YaB.mp nd).1 (e ▸ hx)
   exact(List.mem_erase_of_ne hne).mpr (h x (YaT _ hx))
  rw [List.length_erase_of_mem ha] at this;have h1:0<M.length:=YaO ha;rw [List.length_cons];omega
noncomputable def cnt(row:List Int)(c:Int):Int:=((row.filter fun x=>decide (x=c)).length:Int)
theorem zlU(c):cnt [] c=0:=rfl
theorem zmI(r)(x c):cnt (r++[x]) c=cnt r c+if x=c then 1 else 0:=by
 unfold cnt
 by_cases e:x=c
 . simp [e]
 . simp [e]
theorem zhA(r s)(c):cnt r c<=cnt (r++s) c:=by
 unfold cnt;rw [Wau,YaS];lia
theorem zj8(r:List Int)(h:i<=j)(c):cnt (r.take i) c<=cnt (r.take j) c:=by
 have:=by
  have:=List.take_append_drop i (r.take j);rw [List.take_take,Nat.min_eq_left h] at this;exact this.symm
 rw [this];exact zhA _ _ _
theorem zlp(h:k<r.length):r.take (k+1)=r.take k++[r.getD k 0]:=by
 simp_all
theorem ZH(h:k<r.length)(c):cnt (r.take (k+1)) c=cnt (r.take k) c+if r.getD k 0=c then 1 else 0:=by
 rw [zlp h,zmI]
noncomputable def keyR(row:List Int)(k:Nat):Int×Int:=(row.getD k 0,cnt (row.take (k+1)) (row.getD k 0))
noncomputable def keyW(v:Win):Int×Int:=(v.1,v.2.1)
def JC(t:Int):Option Int->Prop
 | none=>True
 | some x=>t<=x
def JJ(V:List Win)(row:List Int):Prop:=
 (∀ k,k<row.length->∃ v∈V,keyW v=keyR row k/\v.2.2.1<=(k:Int)+1/\JC ((k:Int)+1) v.2.2.2)/\∀ v∈V,v.2.2.2≠none->v.2.1<=cnt row v.1
theorem zbp(hj:j<row.length)(h:i<j):keyR row i≠keyR row j:=fun e=>by
 have e1:row.getD i 0=row.getD j 0:=congrArg Prod.fst e;have e2:cnt _ _=cnt _ _:=congrArg Prod.snd e;rw [e1,ZH hj,if_pos rfl] at e2;have:=zj8 row (show i+1<=j by omega) (row.getD j 0)
 omega
theorem zdO{row:List Int}{c:Int}:∀ (n:Nat),n<=row.length->∀ j:Int,1<=j->j<=cnt (row.take n) c->∃ k,k<n/\keyR row k=(c,j)
 | 0,_,j,h1,h2=>by rw [List.take_zero,zlU] at h2;omega
 | n + 1, hn, j, h1, h2 => by
  have hs:=ZH (r:=row) (k:=n) #[0] c
  by_cases hj:j<=cnt (row.take n) c
  . obtain⟨k,hk,e⟩:=zdO n #[0] j h1 hj
    grind
  . by_cases hc:row.getD n 0=c
    . rw [if_pos hc] at hs
      refine⟨n,#[0],?_⟩
      unfold keyR
      grind
    . rw [if_neg hc] at hs;omega
noncomputable def kl(T:Int)(v:Win):Int:=v.2.2.2.getD (T+1)
structure OkVs(T:Int)(V:List Win):Prop where
 nd:(V.map keyW).Nodup
 one:∀ v∈V,1<=v.2.1/\1<=v.2.2.1
 pre:∀ v∈V,∀ i,1<=i->i<v.2.1->∃ u∈V,keyW u=(v.1,i)
 ord:∀ u∈V,∀ v∈V,u.1=v.1->u.2.1<v.2.1->u.2.2.1<=v.2.2.1/\kl T u<=kl T v
 top:∀ v∈V,∀ x,v.2.2.2=some x->x<=T
theorem zaW{V:List Win}(nd:(V.map keyW).Nodup){u v:Win}(hu:u∈V)(hv:v∈V)(e:keyW u=keyW v):u=v:=by
 induction V with
 | nil=>cases hu
 | cons a r ih=>
  rw [Ya1,YaB] at nd
  rcases Wa5.mp hu with hu|hu<;>rcases Wa5.mp hv with hv|hv
  . rw [hu,hv]
  . exact absurd (Ya7.mpr ⟨v,hv,by rw [<-e,hu]⟩) nd.1
  . exact absurd (Ya7.mpr ⟨u,hu,by rw [e,hv]⟩) nd.1
  . exact ih nd.2 hu hv
def IsWs(l:List Spell)(bs:List (Rat2×Rat2))(W:List (List Win)):Prop:=W.length=many l/\∀ k,k<many l->IsW (quo l).length k (winB (bot l) (zp (quo l) k) ((zE (bot l) bs).getD k (0,0))) 1 (W.getD k [])
def kp1(b:Int)(n:Nat)(q:List (List Int))(row:List Int)(t k:Nat)(p:Rat2×Rat2):Prop:=-(ldF b n q row t k)*p.1.2<=p.1.1*b/\ldF b n q row t k*p.2.2<=p.2.1*b
def kpP(b:Int)(n:Nat)(q:List (List Int))(row:List Int)(bs:List (Rat2×Rat2)):Prop:=∀ t,t<row.length->∀ (k:Nat) (p:Rat2×Rat2),bs[k]?=some p->kp1 b n q row t k p
theorem zfF(a:1<=n){p q:Nat->Bool}(h:∀ t,q t=true->p t=true):zF n p<=zF n q:=by
 obtain⟨c,g,_,b⟩:=jS a q
 by_cases z:zF n q<n
 . exact zdN a c (h _ (b z))
 . obtain⟨_,e,_,_⟩:=jS a p
   lia
theorem zde{j:Int}(hl:path.length=T+1):(winB b path room j).2.getD ((T:Int)+1)=((zF (T+1) (fun t=>decide ((j - 1)*b+room.1+1<=path.getD t 0)):Nat):Int):=by
 unfold winB winP;rw [hl];dsimp only
 split
 . rename_i h;rw [h];simp
 . rfl
theorem IsWs.get(h:IsWs l bs W){w:Win}(a:w∈W.flatten):∃ k,k<many l/\∃ i:Nat,i<(W.getD k []).length/\w=((k:Int),1+(i:Int),(winB (bot l) (zp (quo l) k) ((zE (bot l) bs).getD k (0,0)) (1+(i:Int))).1,(winB (bot l) (zp (quo l) k) ((zE (bot l) bs).getD k (0,0)) (1+(i:Int))).2):=by
 obtain⟨k,b,a⟩:=zjV a;rw [h.1] at b;obtain⟨i,c,e⟩:=Yam a;have:=(h.2 k b).at c;rw [YaQ c,e] at this;exact⟨k,b,i,c,WaU this⟩
theorem IsWs.has(h:IsWs l bs W)(a:k<many l)(b:i<(W.getD k []).length):((k:Int),1+(i:Int),(winB (bot l) (zp (quo l) k) ((zE (bot l) bs).getD k (0,0)) (1+(i:Int))).1,(winB (bot l) (zp (quo l) k) ((zE (bot l) bs).getD k (0,0)) (1+(i:Int))).2)∈W.flatten:=
 zf2 (by rw [h.1];exact a) (Yah ((h.2 k a).at b))
theorem zge(w:okS l)(h:IsWs l bs W):OkVs (tot l) W.flatten:=by
 have Z:=zcd w;have a0:=Jg fun s hs=>(w.2.1 s hs).1
 have a3:=zcc w;obtain⟨T,hT⟩:∃ T:Nat,tot l=(T:Int):=⟨(tot l).toNat,#[94]⟩
 have a:∀ k,(zp (quo l) k).length=T+1:=fun k=>by unfold zp;rw [YaR];lia
 have M:1<=T+1:=#[94]
 refine⟨?_,fun v r=>?_,fun v r i h1 N=>?_,fun u R v r e G=>?_,fun v r x g=>?_⟩
 . rw [Wac,WaE,List.pairwise_flatten]
   refine⟨fun ws K=>?_,?_⟩
   . obtain⟨k,c,e⟩:=Yam K
     have C:k<many l:=by rw [<-h.1];exact c
     have A:=h.2 k C;have I:W.getD k []=ws:=by rw [YaP,YaQ c];exact e
     rw [I] at A;rw [List.pairwise_iff_getElem];intro i j B H J z;have O:=A.at B;have P:=A.at H;rw [YaQ B] at O;rw [YaQ H] at P;rw [WaU O,WaU P] at z;have L:=congrArg Prod.snd z;have L:(1+(i:Int))=1+(j:Int):=L
     lia
   . rw [List.pairwise_iff_getElem]
     intro i j B H J x g y hy z;have m:∀ (k:Nat) (c:k<W.length) (x:Win),x∈W[k]->x.1=(k:Int):=fun k c x g=>by
      have I:W.getD k []=W[k]:=by rw [YaP,YaQ c];rfl
      obtain⟨j,_,rfl⟩:=(h.2 k (by rw [<-h.1];exact c)).mem (by rw [I];exact g)
      rfl
     have Y:x.1=y.1:=congrArg (fun p:Int×Int=>p.1) z
     rw [m i B x g,m j H y hy] at Y
     lia
 . obtain⟨k,c,i,B,rfl⟩:=h.get r
   refine⟨by show 1<=1+(i:Int);lia,?_⟩
   show 1<=(winB _ _ _ _).1
   unfold winB winP;have:=(jS (n:=(zp (quo l) k).length) (by rw [a];lia) fun t=>decide ((1+(i:Int))*bot l - ((zE (bot l) bs).getD k (0,0)).2<=(zp (quo l) k).getD t 0)).1
   dsimp only
   lia
 . obtain⟨k,c,m,Q,rfl⟩:=h.get r
   have N:i<1+(m:Int):=N;refine⟨_,h.has c (i:=(i - 1).toNat) #[94],?_⟩
   show((k:Int),1+(((i - 1).toNat:Nat):Int))=((k:Int),i)
   rw [show 1+(((i - 1).toNat:Nat):Int)=i by lia]
 . obtain⟨k,c,m,Q,rfl⟩:=h.get R
   obtain⟨U,C,F,S,rfl⟩:=h.get r;obtain rfl:k=U:=#[94]
   have G:1+(m:Int)<1+(F:Int):=G;have o:∀ x y:Int,x<=y->x*bot l<=y*bot l:=fun x y h=>Ybe h #[94]
   refine⟨?_,?_⟩
   . unfold winB winP
     dsimp only;have:=zfF (n:=(zp (quo l) k).length) (by rw [a];lia) (p:=fun t=>decide ((1+(m:Int))*bot l - ((zE (bot l) bs).getD k (0,0)).2<=(zp (quo l) k).getD t 0)) (q:=fun t=>decide ((1+(F:Int))*bot l - ((zE (bot l) bs).getD k (0,0)).2<=(zp (quo l) k).getD t 0)) fun t E=>by
      have E:=of_decide_eq_true E;have:=o (1+m) (1+F) #[94]
      exact decide_eq_true #[94]
     lia
   . unfold kl
     dsimp only;rw [hT,zde (a k),zde (a k)];have:=zfF (n:=T+1) M (p:=fun t=>decide ((1+(m:Int) - 1)*bot l+((zE (bot l) bs).getD k (0,0)).1+1<=(zp (quo l) k).getD t 0)) (q:=fun t=>decide ((1+(F:Int) - 1)*bot l+((zE (bot l) bs).getD k (0,0)).1+1<=(zp (quo l) k).getD t 0)) fun t E=>by
      have E:=of_decide_eq_true E;have:=o (1+m - 1) (1+F - 1) #[94]
      exact decide_eq_true #[94]
     lia
 . obtain⟨k,c,i,B,rfl⟩:=h.get r
   have e:=zde (b:=bot l) (room:=(zE (bot l) bs).getD k (0,0)) (j:=1+(i:Int)) (a k);rw [g] at e;have e:x=_:=e;unfold winB winP at g;rw [a] at g;dsimp only at g;have:=(jS M fun t=>decide ((1+(i:Int) - 1)*bot l+((zE (bot l) bs).getD k (0,0)).1+1<=(zp (quo l) k).getD t 0)).2.1
   split at g
   . cases g
   . rename_i X
     lia
theorem zms(m:okS l)(M:okB (many l) bs)(S:∀ p∈bs,okQ p.1/\okQ p.2)(o:jk (many l) (tot l).toNat row)(a0:W.length=many l)(L:∀ k,k<many l->IsW (quo l).length k (winB (bot l) (zp (quo l) k) ((zE (bot l) bs).getD k (0,0))) 1 (W.getD k [])) :
 zdi (zaB (bot l) (many l) (quo l) row row.length) (zE (bot l) bs)↔∀ k,k<many l->((∀ w∈W.getD k [],okV (posL row k) w)/\(posL row k).length<=(W.getD k []).length):=by
 have P:=zcc m;have T:=zcd m;have X:=Jg fun s U=>(m.2.1 s U).1
 have Y:row.length=(tot l).toNat:=o.1;have E:(quo l).length=row.length+1:=#[0]
 have B:∀ r∈quo l,r.length=many l:=fun r O=>zaJ m (b:=bot l) O
 have I:∀ k,(zp (quo l) k).length=row.length+1:=fun k=>by unfold zp;rw [YaR,E]
 have c:∀ k,k<many l->(zE (bot l) bs)[k]?=some ((zE (bot l) bs).getD k (0,0))/\0<=((zE (bot l) bs).getD k (0,0)).1/\0<=((zE (bot l) bs).getD k (0,0)).2:=fun k g=>by
  have u:k<bs.length:=by rw [M.1];exact g
  have e:(zE (bot l) bs)[k]?=some (jA (bot l) bs[k].1,jA (bot l) bs[k].2):=by unfold zE;rw [Ya0,YaQ u];rfl
  have R:(zE (bot l) bs).getD k (0,0)=(jA (bot l) bs[k].1,jA (bot l) bs[k].2):=by rw [YaP,e];rfl
  rw [R];have z:=M.2 bs[k] (Ya4 u);have y:=S bs[k] (Ya4 u);exact⟨e,WaY (YaK z.1.1 #[0]) (by have:=y.1.1;omega),WaY (YaK z.2.1 #[0]) (by have:=y.2.1;omega)⟩
 have v:∀ k,0<=(zp (quo l) k).getD 0 0:=fun k=>by
  obtain⟨r,O⟩:=zmD (bot l) l;have:quo l=quoB (bot l) l:=rfl;rw [this,zbM,O];show 0<=(zeros l).getD k 0;unfold zeros;rw [YaP,Yad]
  split<;>simp
 have j:=fun(k:Nat) (g:k<many l)=>zmr P (I k) (fun s t J A=>zlt m (b:=bot l) #[0] k s t J (by show t<(quo l).length;omega)) (v k) (c k g).2.1 (c k g).2.2 (posP row k) (ws:=W.getD k []) (k:=k) (by rw [<-E];exact L k g)
 have n:∀ (t k:Nat),t<row.length->k<many l->(jg (bot l) (many l) (quo l) row t)[k]?=some (((tk (posP row k) (t+1)).length:Int)*bot l - (zp (quo l) k).getD (t+1) 0):=fun t k A g=>by
  have G:(quo l).getD (t+1) []∈quo l:=by
   rw [YaP,YaQ #[0]];exact Ya4 _
  have h2:=B _ G;have h3:=Jx (bot l) (many l) (row.take (t+1));unfold jg subL;have Z:((hadN (bot l) (many l) (row.take (t+1))).zip ((quo l).getD (t+1) []))[k]?=some ((hadN (bot l) (many l) (row.take (t+1)))[k]'(by omega),((quo l).getD (t+1) [])[k]'(by omega)):=Wad.mpr ⟨YaQ #[0],YaQ #[0]⟩
  rw [Ya0,Z,<-zb1 (bot l) g o.2 (t+1) #[0],zbM]
  simp [YaP,YaQ (show k<(hadN (bot l) (many l) (row.take (t+1))).length by omega),YaQ (show t+1<(quo l).length by omega)]
  have N:k<((quo l)[t+1]'(by omega)).length:=by rw [B _ (Ya4 _)];exact g
  have e:=YaQ N;rw [e]
  rfl
 have q:zdi (zaB (bot l) (many l) (quo l) row row.length) (zE (bot l) bs)↔∀ k,k<many l->((∀ w∈W.getD k [],okV (tk (posP row k) row.length) w)/\(tk (posP row k) row.length).length<=(W.getD k []).length):=by
  constructor
  . intro h k g
    refine(j k g).mp fun t A=>?_
    exact h _ (by unfold zaB;exact Ya7.mpr ⟨t,Yba.mpr A,rfl⟩) k _ _ (n t k A g) (c k g).1
  . intro h ld C i x p Q K
    unfold zaB at C;obtain⟨t,A,rfl⟩:=Ya7.mp C;have F:=Yba.mp A;have H:i<many l:=by
     have:=(Ya8.mp K).1;unfold zE at this;rw [YaR,M.1] at this;exact this
    rw [n t i F H] at Q;rw [(c i H).1] at K;cases Q;cases K;exact(j i H).mpr (h i H) t F
 exact q
theorem zb6(row:List Int)(c:Int):∀ m,m<=row.length->cnt (row.take m) c=((tk (posP row c) m).length:Int)
 | 0,_=>by simp [cnt,tk]
 | m + 1, h => by
  rw [ZH #[0],zb6 row c m #[0],Jp,YaS]
  unfold posP
  by_cases e:row.getD m 0=c
  . rw [if_pos e,decide_eq_true e];rfl
  . rw [if_neg e,decide_eq_false e];rfl
theorem zmC(p)(c:t<T)(a:p t=true):(tk p T)[(tk p t).length]?=some t:=by
 obtain⟨r,b,_⟩:=zdH p (show t+1<=T by omega)
 rw [b,Jp,if_pos a,Yag,Yae (YaY _),Wbi]
 rfl
theorem zhI(K:okS l)(h:IsWs l bs W)(I:jk (many l) (tot l).toNat row):JJ W.flatten row↔∀ k,k<many l->((∀ w∈W.getD k [],okV (posL row k) w)/\(posL row k).length<=(W.getD k []).length):=by
 have X:=zge K h;have p:=fun c=>by
  have:=zb6 row c row.length (YaY _);rw [YaH] at this;exact this
 have U:∀ (k:Nat),k<many l->∀ w∈W.getD k [],∃ j:Int,1<=j/\w=((k:Int),j,(winB (bot l) (zp (quo l) k) ((zE (bot l) bs).getD k (0,0)) j).1,(winB (bot l) (zp (quo l) k) ((zE (bot l) bs).getD k (0,0)) j).2):=fun k m w B=>(h.2 k m).mem B
 have F:∀ (c:Int) (j:Int),1<=j->j<=((posL row c).length:Int)->∃ t,t<row.length/\(posL row c)[(j - 1).toNat]?=some t/\keyR row t=(c,j):=fun c j S R=>by
  have N:(j - 1).toNat<(posL row c).length:=#[94]
  have u:=YaQ N;generalize (posL row c)[(j - 1).toNat]=t at u;unfold posL at u;obtain⟨Y,a2,T⟩:=Zp (posP row c) u;refine⟨t,Y,u,?_⟩;have A:posP row c t=true:=by
   cases z:posP row c t with
   | true=>rfl
   | false=>rw [Jp,z,if_neg #[1],Yao] at T;lia
  have A:row.getD t 0=c:=of_decide_eq_true A;unfold keyR;rw [A,zb6 row c (t+1) #[94],T]
  congr 1
  lia
 constructor
 . intro M k m
   have O:∀ j:Int,∀ v∈W.flatten,keyW v=((k:Int),j)->∃ i:Nat,i<(W.getD k []).length/\j=1+(i:Int)/\v∈W.getD k []:=fun j v s e=>by
    obtain⟨J,L,i,q,rfl⟩:=h.get s;have e1:(J:Int)=(k:Int):=congrArg Prod.fst e;have P:1+(i:Int)=j:=congrArg Prod.snd e;obtain rfl:J=k:=#[94]
    exact⟨i,q,P.symm,Yah ((h.2 J L).at q)⟩
   refine⟨fun w B=>?_,?_⟩
   . obtain⟨j,hj,rfl⟩:=U k m w B
     have H:_∈W.flatten:=zf2 (by rw [h.1];exact m) B
     unfold okV;dsimp only
     by_cases r:j<=((posL row k).length:Int)
     . rw [if_pos r]
       obtain⟨t,y,u,g⟩:=F k j hj r;obtain⟨v,s,e,o,C⟩:=M.1 t y;have:v=_:=zaW X.nd s H (e.trans g);rw [this] at o C;have Z:(posL row k).getD (j - 1).toNat 0=t:=by rw [YaP,u];rfl
       rw [Z];dsimp only at o C;refine⟨#[94],fun x Q=>?_⟩
       rw [Q] at C;have C:(t:Int)+1<=x:=C
       lia
     . rw [if_neg r]
       cases hl:(winB (bot l) (zp (quo l) k) ((zE (bot l) bs).getD k (0,0)) j).2 with
       | none=>rfl
       | some x=>
        have:=M.2 _ H (by dsimp only;rw [hl];nofun)
        dsimp only at this;rw [p] at this;exact absurd this r
   . by_cases z:(posL row k).length=0
     . lia
     . obtain⟨t,y,u,g⟩:=F k ((posL row k).length:Int) #[94] (Wbn _)
       obtain⟨v,s,e,_⟩:=M.1 t y;obtain⟨i,q,P,_⟩:=O _ v s (e.trans g)
       lia
 . intro r
   refine⟨fun t y=>?_,fun v s E=>?_⟩
   . have Q:=I.2 row[t] (Ya4 y)
     have G:row.getD t 0=row[t]:=by rw [YaP,YaQ y];rfl
     obtain⟨k,m⟩:∃ k:Nat,row[t]=(k:Int):=⟨row[t].toNat,#[94]⟩
     have n:k<many l:=#[94]
     have A:posP row k t=true:=decide_eq_true (by rw [G,m])
     have S:(tk (posP row k) (t+1)).length=(tk (posP row k) t).length+1:=by rw [Jp,if_pos A,YaS];rfl
     have R:=zbc (posP row k) (show t+1<=row.length by lia)
     have h3:(posL row k).length<=(W.getD k []).length:=(r k n).2;have h4:(tk (posP row k) (t+1)).length<=(posL row k).length:=R;have q:(tk (posP row k) t).length<(W.getD k []).length:=#[94]
     have B:=(h.2 k n).at q;have b:=(r k n).1 _ (Yah B);unfold okV at b;dsimp only at b;rw [if_pos #[94]] at b
     have ix:(posL row k).getD (1+((tk (posP row k) t).length:Int) - 1).toNat 0=t:=by
      rw [show(1+((tk (posP row k) t).length:Int) - 1).toNat=(tk (posP row k) t).length by lia,YaP]
      unfold posL;rw [zmC (posP row k) y A];rfl
     rw [ix] at b;refine⟨_,h.has n q,?_,by have:=b.1;lia,?_⟩
     . unfold keyR keyW
       dsimp only;rw [G,m,zb6 row k (t+1) #[94],S]
       congr 1
       lia
     . dsimp only
       cases hl:(winB (bot l) (zp (quo l) k) ((zE (bot l) bs).getD k (0,0)) (1+((tk (posP row k) t).length:Int))).2 with
       | none=>trivial
       | some x=>
        have:=b.2 x hl;show(t:Int)+1<=x
        lia
   . obtain⟨k,m,i,q,rfl⟩:=h.get s
     have b:=(r k m).1 _ (Yah ((h.2 k m).at q));unfold okV at b;dsimp only at b E ⊢;rw [p]
     by_cases z:1+(i:Int)<=((posL row k).length:Int)
     . exact z
     . rw [if_neg z] at b
       exact absurd b E
theorem zg7{c:Int}{bs:List (Rat2×Rat2)}(B:0<b)(A:0<c)(e:q.map (List.map (· * c))=q'.map (List.map (· * b)))(I:bs.length=n)(E:∀ p∈bs,okQ p.1/\okQ p.2)(L:∀ t,t<row.length->(jg b n q row t).length=n) :
 zdi (zaB b n q row row.length) (zE b bs)↔kpP c n q' row bs:=by
 have l:∀ k p,bs[k]?=some p->∀ t,t<row.length->((-(jA b p.1)<=ldF b n q row t k↔-(ldF c n q' row t k)*p.1.2<=p.1.1*c)/\(ldF b n q row t k<=jA b p.2↔ldF c n q' row t k*p.2.2<=p.2.1*c)):=fun k p a t j=>by
  obtain⟨C,F⟩:=E p (Yah a);have z:=ziX (n:=n) (row:=row) e t k;have G:=zdX (x:=-(ldF b n q row t k)) (v:=p.1.1) B A C.1 (by rw [Int.neg_mul,Int.neg_mul,z])
  have H:=zdX (v:=p.2.1) B A F.1 z;refine⟨Iff.trans ?_ G,H⟩;unfold jA
  constructor<;>intro h<;>lia
 constructor
 . intro h t j k p a
   have J:k<n:=by rw [<-I];exact(Ya8.mp a).1
   have u:(jg b n q row t)[k]?=some (ldF b n q row t k):=by
    unfold ldF
    simp_all
   have i:(zE b bs)[k]?=some (jA b p.1,jA b p.2):=by unfold zE;rw [Ya0,a];rfl
   have:=h _ (Ya7.mpr ⟨t,Yba.mpr j,rfl⟩) k _ _ u i;have o:=l k p a t j;exact⟨o.1.mp this.1,o.2.mp this.2⟩
 . intro h K s k x r u i
   obtain⟨t,j,rfl⟩:=Ya7.mp s;have m:=Yba.mp j;unfold zE at i;rw [Ya0] at i;cases a:bs[k]? with
   | none=>rw [a] at i;cases i
   | some p=>
    rw [a] at i;have y:=(WaU i).symm;subst y;have w:x=ldF b n q row t k:=by unfold ldF;rw [YaP,u];rfl
    have o:=l k p a t m;have g:=h t m k p a;rw [w];exact⟨o.1.mpr g.1,o.2.mpr g.2⟩
theorem zga(c:∀ x∈row,0<=x/\x<(n:Int))(a:t<=row.length)(b:k<n):0<=(hadN 1 n (row.take t)).getD k 0/\(hadN 1 n (row.take t)).getD k 0<=(t:Int):=by
 rw [zb1 1 b c t a];have:(tk (posP row k) t).length<=t:=by
  have:=Wao (posP row k) (List.range t);rw [YaG] at this;exact this
 omega
theorem zd7(c:∀ x∈row,0<=x/\x<(n:Int))(m:t<row.length)(l:t+1<rows.length)(j:rows[t+1].length=n)(h:i<n):ldF b n rows row t i=(hadN 1 n (row.take (t+1))).getD i 0*b - rows[t+1].getD i 0:=by
 have g:=Jx b n (row.take (t+1));have e:(hadN b n (row.take (t+1))).getD i 0=(hadN 1 n (row.take (t+1))).getD i 0*b:=by
  rw [zb1 b h c _ #[0],zb1 1 h c _ #[0],Int.mul_one]
 have a:jg b n rows row t=subL (hadN b n (row.take (t+1))) rows[t+1]:=by
  unfold jg
  simp_all
 unfold ldF;rw [a];unfold subL
 simp_all
theorem atI2{x y z:α}{xs:List α}:atI (x::y::z::xs) 2=some z:=jb (j:=2) rfl
theorem atI3{x y z w:α}{xs:List α}:atI (x::y::z::w::xs) 3=some w:=jb (j:=3) rfl
theorem hu65{A:Around}(a:Room k A):A.units+65<cLine:=by have:=a.un;lia
abbrev Rule:=Str×Int×Int
noncomputable def dRl(r:Rule):D:=.tuple [.str r.1,.int r.2.1,.int r.2.2]
noncomputable def dRs(rs:List Rule):D:=.list (rs.map dRl)
def okRl(T n:Int)(r:Rule):Prop:=(r.1 = "fixed"\/r.1 = "barred")/\(1<=r.2.1/\r.2.1<=T)/\0<=r.2.2/\r.2.2<n
def okRs(T n:Int)(rs:List Rule):Prop:=∀ r∈rs,okRl T n r
def txtR(rs:List Rule):Prop:=∀ r∈rs,SeqAt.shaped (.str r.1)=true
theorem zS(t)(k v k'):getM (putM t k v) k'=if k=k' then some v else getM t k':=by
 unfold putM
 split
 . rename_i h
   induction t with
   | nil=>cases h
   | cons p r ih=>
    unfold getM at ih ⊢;rw [Ya1,List.find?_cons,List.find?_cons]
    by_cases e:p.1=k
    . rw [if_pos e]
      by_cases e':k=k'
      . simp_all
      . have e2:¬p.1=k':=fun z=>e' (e.symm.trans z)
        simp only [e2,decide_false]
        by_cases hr:(r.any fun p=>decide (p.1=k))=true
        . exact ih hr
        . rw [if_neg e']
          have hm:r.map (fun p=>if p.1=k then(p.1,v) else p)=r:=by
           refine(Yat fun p hp=>?_).trans (List.map_id r)
           have:=fun z=>hr (WaP.mpr ⟨p,hp,decide_eq_true z⟩)
           simp_all
          rw [hm]
    . rw [if_neg e]
      rw [List.any_cons,decide_eq_false e] at h
      by_cases e':p.1=k'
      . have e2:¬k=k':=fun z=>e (e'.trans z.symm)
        simp [e',e2]
      . simp only [e',decide_false]
        exact ih h
 . rename_i h
   unfold getM;rw [List.find?_append]
   by_cases e:k=k'
   . subst e
     have:=Wav.mpr fun p hp z=>h (WaP.mpr ⟨p,hp,z⟩)
     rw [this];simp
   simp_all
theorem JK(h:getM t k=some v):(k,v)∈t:=by
 unfold getM at h;cases e:t.find? _ with
 | none=>rw [e] at h;cases h
 | some r=>
  rw [e] at h;have h1:=List.mem_of_find?_eq_some e;have h2:=List.find?_some e;have h3:=of_decide_eq_true h2;have h4:=WaU h;rw [<-h3,<-h4];exact h1
def InR(x:Int)(A:Nat):Prop:=0<=x/\x<(A:Int)
theorem Zu{L:List Int}(a:L.Nodup)(h:∀ x∈L,InR x A):L.length<=A:=by
 have:=JD (M:=(List.range A).map fun i:Nat=>(i:Int)) a fun x b=>by
  obtain⟨c,e⟩:=h x b;exact Ya7.mpr ⟨x.toNat,Yba.mpr #[0],#[0]⟩
 simp_all
structure TbOk(t:Tb)(A B:Nat):Prop where
 nd:(t.map (·.1)).Nodup
 inn:∀ p∈t,InR p.1 A/\InR p.2 B
theorem TbOk.nil(A B):TbOk [] A B:=⟨Wa2,fun p h=>by cases h⟩
theorem TbOk.len(h:TbOk t A B):t.length<=A:=by
 have:=Zu h.nd fun x b=>by
  obtain⟨p,a,rfl⟩:=Ya7.mp b;exact(h.inn p a).1
 simp_all
theorem TbOk.get(h:TbOk t A B)(e:getM t k=some v):InR k A/\InR v B:=h.inn _ (JK e)
theorem zlb(t)(k v):(putM t k v).map (·.1)=if k∈t.map (·.1) then t.map (·.1) else t.map (·.1)++[k]:=by
 have ha:((t.any fun p=>decide (p.1=k))=true)↔k∈t.map (·.1):=by
  grind
 unfold putM
 by_cases h:k∈t.map (·.1)
 . rw [if_pos (ha.mpr h),if_pos h,YaD]
   refine Yat fun p _=>?_
   show(if p.1=k then(p.1,v) else p).1=p.1
   split<;>rfl
 . rw [if_neg (fun z=>h (ha.mp z)),if_neg h,Ya2];rfl
theorem TbOk.put(h:TbOk t A B)(hk:InR k A)(hv:InR v B):TbOk (putM t k v) A B:=by
 refine⟨?_,fun p hp=>?_⟩
 . rw [zlb]
   split
   . exact h.nd
   . rename_i n
     exact WaA.mpr ⟨h.nd,by simp,fun a ha b hb z=>n (by rw [Ya6.mp hb] at z;rw [<-z];exact ha)⟩
 . unfold putM at hp
   split at hp
   . obtain⟨q,hq,rfl⟩:=Ya7.mp hp
     have:=h.inn q hq
     split
     . exact⟨this.1,hv⟩
     . exact this
   . rcases Ya3.mp hp with z|z
     . exact h.inn p z
     . rw [Ya6.mp z];exact⟨hk,hv⟩
theorem zg5(h:getM t k=none):(putM t k v).length=t.length+1:=by
 unfold putM;rw [if_neg,YaS]
 . rfl
 . intro z
   obtain⟨p,a,e⟩:=WaP.mp z;have e:=of_decide_eq_true e;unfold getM at h;have:(t.find? fun p=>decide (p.1=k)).isSome=true:=List.find?_isSome.mpr ⟨p,a,decide_eq_true e⟩
   cases y:t.find? _ with
   | none=>rw [y] at this;cases this
   | some r=>simp_all
def Mat(t h:Tb):Prop:=∀ s c,getM t s=some c↔getM h c=some s
def MatB(t h:Tb)(c:Int):Prop:=(∀ s x,x≠c->(getM t s=some x↔getM h x=some s))/\∀ s,getM t s≠some c
theorem MatB.step{c:Int}(m:MatB t h c):(getM t s=none->Mat (putM t s c) (putM h c s))/\∀ c',getM t s=some c'->MatB (putM t s c) (putM h c s) c':=by
 obtain⟨m1,m2⟩:=m
 constructor
 . intro e s' x
   rw [zS,zS]
   by_cases hx:c=x
   . simp_all
   . rw [if_neg hx]
     by_cases hs:s=s'
     . subst hs
       rw [if_pos rfl];refine⟨fun z=>absurd (WaU z) hx,fun z=>?_⟩
       have:=(m1 s x (Wbp hx)).mpr z
       grind
     . rw [if_neg hs];exact m1 s' x (Wbp hx)
 . intro c' e
   have hc:c'≠c:=fun z=>m2 s (z ▸ e)
   refine⟨fun s' x hx'=>?_,fun s' z=>?_⟩
   . rw [zS,zS]
     by_cases hx:c=x
     . simp_all
     . rw [if_neg hx]
       by_cases hs:s=s'
       . subst hs
         rw [if_pos rfl];refine⟨fun z=>absurd (WaU z) hx,fun z=>?_⟩
         have:=(m1 s x (Wbp hx)).mpr z
         simp_all
       . rw [if_neg hs];exact m1 s' x (Wbp hx)
   . rw [zS] at z
     by_cases hs:s=s'
     . simp_all
     simp_all
structure Way(Ed:Int->Int->Prop)(ca t:Tb)(r:Int->Nat)(start:Int)(A B:Nat):Prop where
 inn:∀ c s,getM ca c=some s->InR s A/\InR c B
 ed:∀ c s,getM ca c=some s->Ed s c
 back:∀ c s c',getM ca c=some s->getM t s=some c'->∃ s',getM ca c'=some s'/\r s'<r s
 first:∀ c s,getM ca c=some s->getM t s=none->s=start
structure Moved(Ed:Int->Int->Prop)(t h t' h':Tb)(start:Int)(A B:Nat):Prop where
 ed:∀ s c,getM t' s=some c->Ed s c
 mat:Mat t' h'
 ot:TbOk t' A B
 oh:TbOk h' B A
 dt:∀ s,(getM t' s).isSome=true↔(getM t s).isSome=true\/s=start
 dh:∀ c,(getM h c).isSome=true->(getM h' c).isSome=true
structure OnWay(Ed:Int->Int->Prop)(ca t0 h0 t h:Tb)(r:Int->Nat)(c:Int)(A B m:Nat):Prop where
 ed:∀ s c,getM t s=some c->Ed s c
 mat:MatB t h c
 ot:TbOk t A B
 oh:TbOk h B A
 came:∃ s,getM ca c=some s/\r s=m
 same:∀ s,r s<=m->getM t s=getM t0 s
 dt:∀ s,(getM t s).isSome=true↔(getM t0 s).isSome=true
 dh:∀ c,(getM h0 c).isSome=true->(getM h c).isSome=true
theorem OnWay.step{Ed:Int->Int->Prop}{ca t0 h0 t h:Tb}{r:Int->Nat}{c start:Int}{A B m:Nat}(w:Way Ed ca t0 r start A B)(o:OnWay Ed ca t0 h0 t h r c A B m){s:Int}(hs:getM ca c=some s):(getM t s=none->Moved Ed t0 h0 (putM t s c) (putM h c s) start A B)/\∀ c',getM t s=some c'->∃ m',m'<m/\OnWay Ed ca t0 h0 (putM t s c) (putM h c s) r c' A B m':=by
 have ed':∀ s' c',getM (putM t s c) s'=some c'->Ed s' c':=fun s' c' e=>by
  rw [zS] at e
  split at e
  . rename_i z
    rw [<-WaU e,<-z];exact w.ed c s hs
  . exact o.ed s' c' e
 obtain⟨i1,i2⟩:=w.inn c s hs;have hrm:r s=m:=by
  obtain⟨s',e,h⟩:=o.came;rw [hs] at e;rw [WaU e];exact h
 have ts:getM t s=getM t0 s:=o.same s #[94]
 have dh':∀ x,(getM h0 x).isSome=true->(getM (putM h c s) x).isSome=true:=fun x hx=>by
  rw [zS]
  split
  . rfl
  . exact o.dh x hx
 constructor
 . intro e
   have e0:s=start:=w.first c s hs (ts ▸ e);refine⟨ed',(o.mat.step).1 e,o.ot.put i1 i2,o.oh.put i2 i1,fun x=>?_,dh'⟩
   rw [zS]
   by_cases hx:s=x
   . rw [if_pos hx];exact⟨fun _=>.inr (hx.symm.trans e0),fun _=>rfl⟩
   . rw [if_neg hx,o.dt x]
     exact⟨.inl,fun z=>z.elim id fun y=>absurd (e0.trans y.symm) hx⟩
 . intro c' e
   obtain⟨s',h1,h2⟩:=w.back c s c' hs (ts ▸ e);refine⟨r s',#[94],ed',(o.mat.step).2 c' e,o.ot.put i1 i2,o.oh.put i2 i1,⟨s',h1,rfl⟩,fun x hx=>?_,fun x=>?_,dh'⟩
   . have:s≠x:=fun z=>by rw [<-z] at hx;lia
     rw [zS,if_neg this];exact o.same x #[94]
   . rw [zS]
     by_cases hx:s=x
     . rw [if_pos hx,<-hx,<-ts,e]
       exact⟨fun _=>rfl,fun _=>rfl⟩
     . rw [if_neg hx];exact o.dt x
structure Rea(Ed:Int->Int->Prop)(start:Int)(t h ca:Tb)(R:List Int)(A B:Nat):Prop where
 ed:∀ c s,getM ca c=some s->Ed s c
 nd:R.Nodup
 hd:R[0]?=some start
 inn:∀ x∈R,InR x A
 oc:TbOk ca B A
 len:R.length=ca.length+1
 from_:∀ c s,getM ca c=some s->s∈R
 by_:∀ (i:Nat) (x:Int),R[i]?=some x->i=0\/∃ c s,∃ j:Nat,getM t x=some c/\getM ca c=some s/\R[j]?=some s/\j<i
theorem Rea.start{start:Int}(hs:InR start A):Rea Ed start t h [] [start] A B:=by
 refine⟨fun c s e=>(by cases e),by simp,rfl,fun x hx=>by rw [Ya6.mp hx];exact hs,TbOk.nil B A,rfl,fun c s e=>(by cases e),fun i x e=>?_⟩
 cases i with
 | zero=>exact .inl rfl
 | succ i=>simp at e
theorem Rea.more{start:Int}(r:Rea Ed start t h ca R A B)(m:Mat t h)(S:getM t start=none){c:Int}(q:s∈R)(O:Ed s c)(K:InR c B)(w:getM ca c=none)(v:getM h c=some x)(E:TbOk h B A):Rea Ed start t h (putM ca c s) (R++[x]) A B:=by
 have F:=(m x c).mpr v;have J:=(E.get v).2;have l:∀ d,d≠c->getM (putM ca c s) d=getM ca d:=fun d N=>by rw [zS,if_neg (Wbp N)]
 have G:x∉R:=fun z=>by
  obtain⟨i,o,e⟩:=Yam z;have e:R[i]?=some x:=by rw [YaQ o,e]
  rcases r.by_ i x e with y|⟨d,g,j,C,n,_⟩
  . subst y
    rw [r.hd] at e
    grind
  grind
 refine⟨fun d g e=>?_,WaA.mpr ⟨r.nd,by simp,fun a Q b P z=>G (by simp_all)⟩,?_,fun y M=>?_,r.oc.put K (r.inn s q),?_,fun d g e=>?_,fun i y e=>?_⟩
 . rw [zS] at e
   split at e
   . simp_all
   . exact r.ed d g e
 . rw [Yab (by have:=r.len;lia)];exact r.hd
 . rcases Ya3.mp M with z|z
   . exact r.inn y z
   . rw [Ya6.mp z];exact J
 . rw [zg5 w,YaS,r.len];rfl
 . rw [zS] at e
   split at e
   . exact Yai _ (by rw [<-WaU e];exact q)
   . exact Yai _ (r.from_ d g e)
 . by_cases o:i<R.length
   . rw [Yab o] at e
     rcases r.by_ i y e with z|⟨d,g,j,C,n,H,L⟩
     . exact .inl z
     . refine .inr ⟨d,g,j,C,?_,?_,L⟩
       . rw [l d fun z=>by rw [z,w] at n;cases n];exact n
       . rw [Yab #[94]];exact H
   . have p:i=R.length:=by
      have:=(Ya8.mp e).1;rw [YaS,List.length_singleton] at this
      lia
     subst p;rw [Yae (YaY _),Wbi] at e;have e:x=y:=WaU e;subst e;obtain⟨j,u,I⟩:=Yam q;refine .inr ⟨c,s,j,F,by rw [zS,if_pos rfl],?_,u⟩
     rw [Yab u,YaQ u,I]
theorem Rea.seen{start:Int}(r:Rea Ed start t h ca R A B)(H:getM t start=none){c:Int}(L:s∈R)(I:Ed s c)(K:InR c B)(G:getM ca c=none):Way Ed (putM ca c s) t (fun x=>R.idxOf x) start A B:=by
 have b:∀ d a,getM (putM ca c s) d=some a->a∈R/\InR d B:=fun d a e=>by
  rw [zS] at e
  split at e
  . simp_all
  . exact⟨r.from_ d a e,(r.oc.get e).1⟩
 have C:∀ (i:Nat) x,R[i]?=some x->R.idxOf x=i:=fun i x e=>by
  obtain⟨o,e⟩:=Ya8.mp e;rw [<-e];exact r.nd.idxOf_getElem i o
 have v:∀ x∈R,getM t x≠none->∃ d a j,getM t x=some d/\getM ca d=some a/\R[j]?=some a/\j<R.idxOf x:=fun x F n=>by
  obtain⟨i,o,e⟩:=Yam F;have e:R[i]?=some x:=by rw [YaQ o,e]
  rcases r.by_ i x e with y|⟨d,a,j,l,m,w,u⟩
  . subst y
    rw [r.hd] at e;rw [<-WaU e] at n;exact absurd H n
  . exact⟨d,a,j,l,m,w,by rw [C i x e];exact u⟩
 refine⟨fun d a e=>⟨r.inn a (b d a e).1,(b d a e).2⟩,fun d a e=>?_,fun d a J e q=>?_,fun d a e q=>?_⟩
 . rw [zS] at e
   split at e
   . simp_all
   . exact r.ed d a e
 . obtain⟨E,g,j,l,m,w,u⟩:=v a (b d a e).1 (by rw [q];simp)
   rw [q] at l;rw [<-WaU l] at m;refine⟨g,?_,?_⟩
   . rw [zS,if_neg fun z=>by rw [<-z,G] at m;cases m];exact m
   . rw [C j g w];exact u
 . rcases Wbj _ with z|z
   . exact z
   . exfalso
     obtain⟨i,o,p⟩:=Yam (b d a e).1;have p:R[i]?=some a:=by simp_all
     rcases r.by_ i a p with y|⟨E,g,j,l,_⟩
     . subst y
       rw [r.hd] at p;exact z (WaU p).symm
     . rw [q] at l;cases l
theorem Mat.free(m:Mat t h){c:Int}(e:getM h c=none):MatB t h c:=⟨fun s x _=>m s x,fun s z=>by rw [(m s c).mp z] at e;cases e⟩
theorem Rea.seeks{start:Int}(r:Rea Ed start t h ca R A B):∀ x∈R,x=start\/(getM t x).isSome=true:=fun x hx=>by
 obtain⟨i,hi,e⟩:=Yam hx;have e:R[i]?=some x:=by simp_all
 rcases r.by_ i x e with y|⟨d,s',j,g1,_⟩
 . subst y
   rw [r.hd] at e;exact .inl (WaU e).symm
 simp_all
theorem ZN(h:(getM t k).isSome=true):k∈t.map (·.1):=by
 obtain⟨v,a⟩:=Wag.mp h;exact Ya7.mpr ⟨_,JK a,rfl⟩
theorem zfp(k j:List Key)(d:D):∀ ds:List (List Key×D),getT (ds.map fun kv=>if kv.1=k then(kv.1,d) else kv) j=if j=k then(if(ds.any fun kv=>decide (kv.1=k))=true then some d else none) else getT ds j
 | []=>by split<;>rfl
 | (k', d') :: ds => by
  have ih:=zfp k j d ds;rw [Ya1,List.any_cons]
  by_cases e:k'=k
  . rw [if_pos e]
    by_cases ej:j=k
    . rw [if_pos ej]
      have:=e.trans ej.symm;subst this;rw [Jt]
      simp [e]
    . rw [if_neg ej,Je (fun z=>ej (z.symm.trans e)),Je (fun z=>ej (z.symm.trans e)),ih,if_neg ej]
  . rw [if_neg e]
    by_cases ej:j=k
    . rw [if_pos ej] at ih ⊢
      rw [Je (fun z=>e (z.trans ej)),ih,decide_eq_false e,Wa9]
    . rw [if_neg ej] at ih ⊢
      by_cases e2:k'=j
      . subst e2;rw [Jt,Jt]
      . rw [Je e2,Je e2,ih]
theorem zfO(k j:List Key)(d:D):∀ ds:List (List Key×D),(ds.any fun kv=>decide (kv.1=k))=false->getT (ds++[(k,d)]) j=if j=k then some d else getT ds j
 | [], _ => by
  by_cases ej:j=k
  . subst ej;rw [if_pos rfl];exact Jt
  . rw [if_neg ej,List.nil_append,Je (fun z=>ej z.symm)]
 | (k', d') :: ds, h => by
  rw [List.any_cons,Bool.or_eq_false_iff] at h;have ih:=zfO k j d ds h.2;have e:¬k'=k:=of_decide_eq_false h.1;rw [List.cons_append]
  by_cases e2:k'=j
  . subst e2;rw [Jt,Jt,if_neg e]
  . rw [Je e2,Je e2,ih]
theorem zjP(a)(k j)(d):getT (putT a k d) j=if j=k then some d else getT a j:=by
 unfold putT
 split
 . rename_i h;rw [zfp,if_pos h]
 . rename_i h;exact zfO k j d a (Bool.eq_false_iff.mpr h)
theorem ze2{g:TG3}{P:Env3->Prop}(h:∀ N:Env3->Prop,(∀ ρ',P ρ'->N ρ')->g f d ρ N):g f d ρ P:=h P fun _ z=>z
theorem Mat.symm{t h:Tb}(m:Mat t h):Mat h t:=fun s c=>(m c s).symm
theorem zkq(h:(ds.all fun p=>zx p.2)=true)(hd:zx d=true):((putT ds k d).all fun p=>zx p.2)=true:=by
 rw [WaN] at h ⊢;intro p hp;unfold putT at hp
 split at hp
 . obtain⟨q,hq,rfl⟩:=Ya7.mp hp
   split
   . exact hd
   . exact h q hq
 . rcases Ya3.mp hp with z|z
   . exact h p z
   . rw [Ya6.mp z];exact hd
theorem zjb(ds)(k)(d):(putT ds k d).length<=ds.length+1:=by
 unfold putT
 split
 . rw [YaR];omega
 . rw [YaS];simp
theorem zhb:SeqAt.shaped (.tuple [.str "fixed", .str "barred"])=true:=#[3]
theorem zew(x):((([PyData.str "fixed", PyData.str "barred"]:List D).any fun y=>PyData.eqv y (.str x))=false)↔¬(x = "fixed"\/x = "barred"):=by
 have e:∀ a, PyData.eqv (.str a) (.str x)=decide (x=a):=fun a=>by
  by_cases h:x=a
  . subst h;simp [PyData.eqv]
  . rw [decide_eq_false h]
    have:¬a=x:=fun z=>h z.symm
    simp [PyData.eqv,this]
 grind
theorem zgL(V:List Win):jQ (V.map dW)=(List.range V.length).map fun i=>PyData.tuple [PyData.int (i:Nat),dW (V.getD i (0,0,0,none))]:=by
 unfold jQ
 simp_all
theorem zkR(ch:List (List Int)):jQ (ch.map dI)=(List.range ch.length).map fun i=>PyData.tuple [PyData.int (i:Nat),dI (ch.getD i [])]:=by
 unfold jQ
 simp_all
theorem Jl{α : Type}{L:List α}{d:α}(h:i<L.length):L.getD i d∈L:=by
 simp_all
theorem zbU{L:List α}{d:α}(h:InR x L.length):atI L x=some (L.getD x.toNat d)/\L.getD x.toNat d∈L:=by
 have a:x.toNat<L.length:=by have:=h.1;have:=h.2;lia
 have:=jb (YaQ a);rw [show((x.toNat))=x by have:=h.1;lia] at this
 simp_all
def jV(rs:List Rule)(t k:Int):Prop:=∃ r∈rs,r.2.1=t/\(k=r.2.2↔r.1 = "barred")
def Jd(rs:List Rule)(n:Nat)(ds:List (List Key×D)):Prop:=∀ t k:Int,0<=k->k<(n:Int)->((getT ds (kk t k)).isSome=true↔jV rs t k)
theorem Jd.nil(n):Jd [] n []:=fun t k _ _=>⟨fun z=>(by cases z),fun zz0=>by obtain⟨r,h,_⟩:=zz0;exact(by cases h)⟩
def Jb(rs:List Rule)(r:Rule)(n j:Nat)(ds:List (List Key×D)):Prop:=∀ t k:Int,0<=k->k<(n:Int)->((getT ds (kk t k)).isSome=true↔jV rs t k\/(k<(j:Int)/\r.2.1=t/\(k=r.2.2↔r.1 = "barred")))
theorem Jd.part{r:Rule}(h:Jd rs n ds):Jb rs r n 0 ds:=fun t k h0 h1=>by
 rw [h t k h0 h1];exact⟨.inl,fun z=>z.elim id fun y=>absurd y.1 #[94]⟩
theorem Jb.whole{r:Rule}(h:Jb rs r n n ds):Jd (rs++[r]) n ds:=fun t k h0 h1=>by
 rw [h t k h0 h1]
 constructor
 . rintro(⟨x,hx,e⟩|⟨_,e⟩)
   . exact⟨x,Yai _ hx,e⟩
   . exact⟨r,by simp,e⟩
 . rintro⟨x,hx,e⟩
   rcases Ya3.mp hx with z|z
   . exact .inl ⟨x,z,e⟩
   . rw [Ya6.mp z] at e;exact .inr ⟨h1,e⟩
theorem zmq{c:Int}(h:kk a b=kk c d):a=c/\b=d:=by
 unfold kk at h
 injection h with h1 h2
 injection h2 with h2 _
 exact⟨Sum.inl.inj h1,Sum.inl.inj h2⟩
theorem zfn(a b):(PyData.eqv (.bool a) (.bool b)=true)↔a=b:=by cases a<;>cases b<;>decide +kernel
theorem Jb.put{r:Rule}(h:Jb rs r n j ds)(e:PyData.eqv (.bool (decide (0+(j:Int)=r.2.2))) (.bool (decide (r.1 = "barred")))=true):Jb rs r n (j+1) (putT ds (kk r.2.1 (0+(j:Int))) (.bool true)):=fun t k h0 h1=>by
 have e':(j:Int)=r.2.2↔r.1 = "barred":=by
  have:=(zfn _ _).mp e;rw [Wbh] at this;rw [decide_eq_decide] at this;exact this
 rw [zjP,Wbh]
 by_cases z:kk t k=kk r.2.1 (j:Int)
 . rw [if_pos z]
   obtain⟨z1,z2⟩:=zmq z;subst z2;exact⟨fun _=>.inr ⟨#[0],z1.symm,e'⟩,fun _=>rfl⟩
 . rw [if_neg z,h t k h0 h1]
   constructor
   . rintro(y|⟨y1,y2⟩)
     . exact .inl y
     . exact .inr ⟨#[0],y2⟩
   . rintro(y|⟨y1,y2,y3⟩)
     . exact .inl y
     . refine .inr ⟨?_,y2,y3⟩
       have:k≠(j:Int):=fun w=>z (by rw [w,y2])
       omega
theorem Jb.skip{r:Rule}(h:Jb rs r n j ds)(e:¬PyData.eqv (.bool (decide (0+(j:Int)=r.2.2))) (.bool (decide (r.1 = "barred")))=true):Jb rs r n (j+1) ds:=fun t k h0 h1=>by
 have e':=fun w=>e ((zfn _ _).mpr (by rw [Wbh,decide_eq_decide];exact w))
 rw [h t k h0 h1]
 constructor
 . rintro(y|⟨y1,y2⟩)
   . exact .inl y
   . exact .inr ⟨#[0],y2⟩
 . rintro(y|⟨y1,y2,y3⟩)
   . exact .inl y
   . refine .inr ⟨?_,y2,y3⟩
     grind
noncomputable def mayD(ds:List (List Key×D))(v:Win)(t:Int):Bool:=if t<v.2.2.1 then false else match v.2.2.2 with
 | none=>!(getT ds (kk t v.1)).isSome
 | some x=>if x<t then false else !(getT ds (kk t v.1)).isSome
def mayP(rs:List Rule)(v:Win)(t:Int):Prop:=v.2.2.1<=t/\JC t v.2.2.2/\¬jV rs t v.1
theorem zlS(hF:Jd rs n ds){v:Win}(hv:InR v.1 n):mayD ds v t=true↔mayP rs v t:=by
 have hf:=hF t v.1 hv.1 hv.2;have e2:((!(getT ds (kk t v.1)).isSome)=true)↔¬jV rs t v.1:=by
  rw [<-hf];cases(getT ds (kk t v.1)).isSome<;>simp
 unfold mayD mayP
 by_cases h1:t<v.2.2.1
 . rw [if_pos h1]
   exact⟨fun z=>(by cases z),fun z=>absurd z.1 #[0]⟩
 . rw [if_neg h1]
   cases hl:v.2.2.2 with
   | none=>exact e2.trans ⟨fun z=>⟨#[0],True.intro,z⟩,fun z=>z.2.2⟩
   | some x=>
    dsimp only
    by_cases h2:x<t
    . rw [if_pos h2]
      exact⟨fun z=>(by cases z),fun z=>absurd (show t<=x from z.2.1) #[0]⟩
    . rw [if_neg h2]
      exact e2.trans ⟨fun z=>⟨#[0],show t<=x by omega,z⟩,fun z=>z.2.2⟩
def ChOk(rs:List Rule)(V:List Win)(ch:List (List Int)):Prop:=∀ k,k<ch.length->∀ i,i<V.length->(((i:Nat):Int)∈ch.getD k []↔mayP rs (V.getD i (0,0,0,none)) ((k:Int)+1))
theorem ChOk.snoc{V:List Win}(h:ChOk rs V ch)(hr:∀ i,i<V.length->(((i:Nat):Int)∈row↔mayP rs (V.getD i (0,0,0,none)) ((ch.length:Int)+1))):ChOk rs V (ch++[row]):=fun k hk i hi=>by
 rw [YaS,List.length_singleton] at hk;rw [YaP]
 by_cases e:k<ch.length
 . rw [Yab e];exact h k e i hi
 . have:k=ch.length:=#[0]
   subst this;rw [Yae (YaY _),Wbi];exact hr i hi
def TvOk(m:Nat)(ch:List (List Int))(k:Nat)(done:List Int)(tv:List (List Int)):Prop:=∀ i,i<m->∀ j:Nat,((j:Int)∈tv.getD i []↔(j<k/\(i:Int)∈ch.getD j [])\/(j=k/\(i:Int)∈done))
theorem TvOk.nil(m)(ch):TvOk m ch 0 [] (List.replicate m []):=fun i a j=>by
 simp_all
theorem TvOk.step(h:TvOk m ch k done tv)(hx:InR x tv.length)(hl:tv.length=m):TvOk m ch k (done++[x]) (tv.set x.toNat (tv.getD x.toNat []++[(k:Int)])):=fun i hi j=>by
 have hxl:x.toNat<tv.length:=by have:=hx.1;have:=hx.2;lia
 have hx0:=hx.1;rw [YaP,List.getElem?_set]
 by_cases e:x.toNat=i
 . subst e
   rw [if_pos rfl,if_pos hxl];show(j:Int)∈tv.getD x.toNat []++[(k:Int)]↔_;rw [Ya3,h x.toNat hi j,Ya6]
   constructor
   . rintro((y|y)|y)
     . exact .inl y
     . exact .inr ⟨y.1,Yai _ y.2⟩
     . exact .inr ⟨#[94],by rw [show((x.toNat:Nat):Int)=x by lia];simp⟩
   . rintro(y|⟨y1,y2⟩)
     . exact .inl (.inl y)
     . exact .inr #[94]
 . rw [if_neg e,<-YaP,h i hi j]
   constructor
   . rintro(y|y)
     . exact .inl y
     . exact .inr ⟨y.1,Yai _ y.2⟩
   . rintro(y|⟨y1,y2⟩)
     . exact .inl y
     . rcases Ya3.mp y2 with z|z
       . exact .inr ⟨y1,z⟩
       . have:=Ya6.mp z;lia
theorem TvOk.whole(h:TvOk m ch k row tv)(e:ch.getD k []=row):TvOk m ch (k+1) [] tv:=fun i hi j=>by
 rw [h i hi j]
 constructor
 . rintro(y|⟨y1,y2⟩)
   . exact .inl ⟨#[0],y.2⟩
   . subst y1;exact .inl ⟨#[0],by rw [e];exact y2⟩
 . rintro(⟨y1,y2⟩|y)
   . by_cases z:j<k
     . exact .inl ⟨z,y2⟩
     . have:j=k:=#[0]
       subst this;exact .inr ⟨rfl,by rw [<-e];exact y2⟩
   . cases y.2
theorem TvOk.fin(h:TvOk m ch ch.length [] tv):∀ i,i<m->∀ j,j<ch.length->((j:Int)∈tv.getD i []↔(i:Int)∈ch.getD j []):=fun i a j b=>by
 rw [h i a j]
 simp_all
theorem zdY(h:(getM t x).isSome=true):(getM (putM t k v) x).isSome=true:=by
 rw [zS]
 split
 . rfl
 . exact h
theorem zmn(h:∀ c∈done,(getM ca c).isSome=true)(hn:¬(getM ca x).isSome=false):∀ c∈done++[x],(getM ca c).isSome=true:=fun c hc=>by
 rcases Ya3.mp hc with z|z
 . exact h c z
 . rw [Ya6.mp z]
   exact Bool.not_eq_false _ ▸ hn
theorem zdo{c:TT3}{P R:Prop}(h:∀ Y N:Prop,(P->Y)->(R->N)->c ρ fun k=>if k=true then Y else N):c ρ fun k=>if k=true then P else R:=h P R id id
noncomputable def z4:Win:=(0,0,0,none)
def JI(V:List Win)(T:Nat)(may:Nat->Nat->Prop)(d:D):Prop:=
 (∃ f:Nat->Nat,(∀ k,k<T->f k<V.length/\may k (f k))/\(∀ i j,i<T->j<T->f i=f j->i=j)/\(∀ i,i<V.length->(V.getD i z4).2.2.2≠none->∃ k,k<T/\f k=i)/\d=.tuple [.str "row", .list ((List.range T).map fun k=>.int (V.getD (f k) z4).1)])
 \/(∃ S:List Int,S.Nodup/\S.Pairwise (·<=·)/\(S≠[]/\S.length<64)/\(∀ x∈S,InR x V.length/\(V.getD x.toNat z4).2.2.2≠none)/\(∃ C:List Int,C.length<S.length/\∀ x∈S,∀ k,k<T->may k x.toNat->(k:Int)∈C)/\d=.tuple [.str "visits", .list (S.map fun x=>.tuple [.int (V.getD x.toNat z4).1,.int (V.getD x.toNat z4).2.1])])
 \/(∃ S:List Int,S.Nodup/\S.Pairwise (·<=·)/\(S≠[]/\S.length<64)/\(∀ x∈S,InR x T)/\(∃ C:List Int,C.length<S.length/\∀ x∈S,∀ i,i<V.length->may x.toNat i->(i:Int)∈C)/\d=.tuple [.str "turns", .list (S.map fun x=>.int (x+1))])
theorem ziF{V:List Win}(m:Mat t h)(r:TbOk h ch.length V.length)(n:∀ s c,getM h s=some c->c∈ch.getD s.toNat [])(o:∀ i,i<V.length->(V.getD i z4).2.2.2≠none->(getM t (i:Int)).isSome=true)(E:∀ k:Int,0<=k->k<(ch.length:Int)->(getM h k).isSome=true) :
 (∀ k,k<ch.length->((getM h (0+(k:Int))).getD 0).toNat<V.length/\((((getM h (0+(k:Int))).getD 0).toNat:Nat):Int)∈ch.getD k [])/\(∀ i j,i<ch.length->j<ch.length->((getM h (0+(i:Int))).getD 0).toNat=((getM h (0+(j:Int))).getD 0).toNat->i=j)/\(∀ i,i<V.length->(V.getD i z4).2.2.2≠none->∃ k,k<ch.length/\((getM h (0+(k:Int))).getD 0).toNat=i)/\
 PyData.tuple [.str "row", .list ([]++(List.range ch.length).map fun i:Nat=>.int (V.getD ((getM h (0+(i:Int))).getD 0).toNat (0,0,0,none)).1)]=PyData.tuple [.str "row", .list ((List.range ch.length).map fun k:Nat=>.int (V.getD ((getM h (0+(k:Int))).getD 0).toNat z4).1)]:=by
 have b:∀ k,k<ch.length->∃ y,getM h (0+(k:Int))=some y/\InR y V.length:=fun k p=>by
  obtain⟨y,a⟩:=Wag.mp (E (0+(k:Int)) #[0] #[0])
  exact⟨y,a,(r.get a).2⟩
 refine⟨fun k p=>?_,fun i j l C e=>?_,fun i l g=>?_,rfl⟩
 . obtain⟨y,a,w,F⟩:=b k p
   rw [a];show y.toNat<_/\((y.toNat:Nat):Int)∈_;have:=n _ _ a;rw [show(0+(k:Int)).toNat=k by omega] at this
   exact⟨#[0],by rw [show((y.toNat:Nat):Int)=y by omega];exact this⟩
 . obtain⟨y,a,w,F⟩:=b i l
   obtain⟨z,u,J,I⟩:=b j C;rw [a,u] at e;have e:y.toNat=z.toNat:=e;have A:y=z:=#[0]
   subst A;have v:=(m y _).mpr a;rw [(m y _).mpr u] at v;have:=WaU v
   omega
 . obtain⟨c,B⟩:=Wag.mp (o i l g)
   have q:=(m _ _).mp B;obtain⟨G,H⟩:=(r.get q).1;refine⟨c.toNat,#[0],?_⟩
   rw [show(0+((c.toNat:Nat):Int))=c by omega,q]
   show(i:Int).toNat=i
   omega
theorem JI.imp{V:List Win}{may may':Nat->Nat->Prop}(h:∀ k,k<T->∀ i,i<V.length->(may k i↔may' k i))(p:JI V T may d):JI V T may' d:=by
 rcases p with ⟨f,e,m,l,g⟩|⟨S,e,m,l,g,⟨C,r,q⟩,n⟩|⟨S,e,m,l,g,⟨C,r,q⟩,n⟩
 . exact .inl ⟨f,fun k c=>⟨(e k c).1,(h k c _ (e k c).1).mp (e k c).2⟩,m,l,g⟩
 . refine .inr (.inl ⟨S,e,m,l,g,⟨C,r,fun x j k c o=>q x j k c ((h k c _ ?_).mpr o)⟩,n⟩)
   obtain⟨⟨a,b⟩,_⟩:=g x j;omega
 . refine .inr (.inr ⟨S,e,m,l,g,⟨C,r,fun x j i s o=>q x j i s ((h _ ?_ i s).mpr o)⟩,n⟩)
   obtain⟨a,b⟩:=g x j;omega
noncomputable def posC(row:List Int)(c:Int)(k:Nat):List Nat:=(List.range k).filter fun i=>decide (row.getD i 0=c)
theorem zaD{row:List Int}{c:Int}:∀ k,k<=row.length->((posC row c k).length:Int)=cnt (row.take k) c
 | 0,_=>rfl
 | k + 1, h => by
  have ih:=zaD (row:=row) (c:=c) k #[0]
  unfold posC at ih ⊢;rw [List.range_succ,Wau,YaS,ZH #[0]]
  by_cases e:row.getD k 0=c
  . rw [YaM,decide_eq_true e,if_pos rfl,if_pos e,List.filter_nil,List.length_singleton];omega
  . rw [YaM,decide_eq_false e,if_neg #[1],if_neg e,List.filter_nil,List.length_nil];omega
theorem zb0{c:Int}:i∈posC row c k↔i<k/\row.getD i 0=c:=by
 unfold posC;rw [Ya9,Yba,decide_eq_true_eq]
noncomputable def upTo(j:Nat):List Int:=(List.range j).map fun i:Nat=>(i:Int)+1
theorem ze9(j):(upTo j).length=j:=by unfold upTo;simp
theorem zgR:x∈upTo j↔1<=x/\x<=(j:Int):=by
 unfold upTo;rw [Ya7]
 constructor
 . rintro⟨i,hi,rfl⟩
   have:=Yba.mp hi
   lia
 . intro h
   exact⟨(x - 1).toNat,Yba.mpr #[94],#[94]⟩
theorem zld(j):(upTo j).Nodup:=by
 unfold upTo;rw [Wac,WaE];exact(List.pairwise_lt_range).imp fun h=>by omega
structure Given(V:List Win)(row:List Int)(f:Nat->Win):Prop where
 at_:∀ k,k<row.length->f k∈V/\(f k).1=row.getD k 0/\(f k).2.2.1<=(k:Int)+1/\JC ((k:Int)+1) (f k).2.2.2
 inj:∀ i j,i<row.length->j<row.length->f i=f j->i=j
 due:∀ v∈V,v.2.2.2≠none->∃ k,k<row.length/\f k=v
theorem zeV{T:Int}{V:List Win}(ok:OkVs T V)(g:Given V row f){v:Win}(hv:v∈V)(hx:v.2.2.2=some x)(hk:k<=row.length)(hxk:x<=(k:Int)\/k=row.length):v.2.1<=cnt (row.take k) v.1:=by
 have h1:=(ok.one v hv).1;have key:∀ i, 1<=i->i<=v.2.1->∃ p,p<k/\row.getD p 0=v.1/\(f p).2.1=i:=fun i i1 i2=>by
  obtain⟨u,hu,e1,e2,hkl⟩:∃ u∈V,u.1=v.1/\u.2.1=i/\kl T u<=kl T v:=by
   by_cases e:i=v.2.1
   . exact⟨v,hv,rfl,e.symm,Wbn _⟩
   . obtain⟨u,hu,eu⟩:=ok.pre v hv i i1 #[94]
     have a1:=congrArg Prod.fst eu;have a2:(keyW u).2=i:=congrArg _ eu;have a2:u.2.1=i:=a2;exact⟨u,hu,a1,a2,(ok.ord u hu v hv a1 #[94]).2⟩
  have hvk:kl T v=x:=by unfold kl;rw [hx];rfl
  have hxT:=ok.top v hv x hx;have hul:∃ y,u.2.2.2=some y/\y<=x:=by
   cases e:u.2.2.2 with
   | none => have : kl T u = T + 1 := by unfold kl; rw [e]; rfl
             lia
   | some y => have : kl T u = y := by unfold kl; rw [e]; rfl
               grind
  obtain⟨y,hy,hyx⟩:=hul;obtain⟨p,hp,ep⟩:=g.due u hu (by grind)
  obtain⟨_,g2,_,g4⟩:=g.at_ p hp;rw [ep] at g2 g4;rw [hy] at g4;have g4:(p)+1<=y:=g4
  grind
 have hl:=JD (L:=upTo v.2.1.toNat) (zld _) fun i hi=>by
  obtain⟨i1,i2⟩:=zgR.mp hi;obtain⟨p,hp,e1,e2⟩:=key i i1 #[94]
  exact Ya7.mpr ⟨p,zb0.mpr ⟨hp,e1⟩,e2⟩
 rw [ze9,YaR] at hl;have:=zaD (c:=v.1) k hk
 lia
theorem zjX{T:Int}{V:List Win}(w:OkVs T V)(g:Given V row f):JJ V row:=by
 refine⟨fun k E=>?_,fun v q X=>?_⟩
 . obtain⟨j,Y⟩:∃ j:Nat,(j:Int)=cnt (row.take (k+1)) (row.getD k 0):=⟨_,zaD (row:=row) (c:=row.getD k 0) (k+1) #[0]⟩
   have u:=ZH (r:=row) (k:=k) E (row.getD k 0);rw [if_pos rfl] at u;have F:=zaD (row:=row) (c:=row.getD k 0) (k+1) #[0]
   have R:1<=j:=by
    have:=zaD (row:=row) (c:=row.getD k 0) k #[0]
    omega
   obtain⟨i,hi,s,N⟩:∃ i,i<k+1/\row.getD i 0=row.getD k 0/\(j:Int)<=(f i).2.1:=by
    rcases Wbj _ with z|z
    . exact z
    . exfalso
      have P:((posC row (row.getD k 0) (k+1)).map fun p=>(f p).2.1).Nodup:=by
       rw [Wac,WaE];have:(posC row (row.getD k 0) (k+1)).Pairwise (· < ·):=List.Pairwise.filter _ (List.pairwise_lt_range (n:=k+1));refine this.imp_of_mem fun {a b} K J L e=>?_
       obtain⟨h,l⟩:=zb0.mp K;obtain⟨Z,O⟩:=zb0.mp J;obtain⟨U,W,_⟩:=g.at_ a #[0]
       obtain⟨S,I,_⟩:=g.at_ b #[0]
       have:=g.inj a b #[0] #[0] (zaW w.nd U S (by unfold keyW;rw [W,I,l,O,e]))
       omega
      have A:=JD (M:=upTo (j - 1)) P fun x H=>by
       obtain⟨p,G,rfl⟩:=Ya7.mp H;obtain⟨h,l⟩:=zb0.mp G;have o:=(w.one _ (g.at_ p #[0]).1).1
       have:¬(j:Int)<=(f p).2.1:=fun y=>z ⟨p,h,l,y⟩
       exact zgR.mpr ⟨o,#[0]⟩
      rw [ze9,YaR] at A
      omega
   obtain⟨B,C,u3,u4⟩:=g.at_ i #[0]
   obtain⟨v,q,m,Q⟩:∃ v∈V,keyW v=(row.getD k 0,(j:Int))/\v.2.2.1<=(f i).2.2.1:=by
    by_cases e:(f i).2.1=(j:Int)
    . exact⟨f i,B,by unfold keyW;rw [C,s,e],Wbn _⟩
    . obtain⟨v,q,m⟩:=w.pre (f i) B j #[0] #[0]
      rw [C,s] at m;have h:(keyW v).1=row.getD k 0:=congrArg Prod.fst m;have l:(keyW v).2=(j:Int):=congrArg Prod.snd m;have h:v.1=row.getD k 0:=h;have l:v.2.1=(j:Int):=l;exact⟨v,q,m,(w.ord v q (f i) B (by rw [h,C,s]) #[0]).1⟩
   refine⟨v,q,by rw [m];unfold keyR;rw [Y],#[0],?_⟩
   cases A:v.2.2.2 with
   | none=>exact True.intro
   | some x=>
    rcases Int.lt_or_le x ((k:Int)+1) with z|z
    . exfalso
      have:=zeV w g q A (k:=k) #[0] (.inl #[0])
      have h:=congrArg Prod.fst m;have l:(keyW v).2=(j:Int):=congrArg Prod.snd m;have h:v.1=row.getD k 0:=h;have l:v.2.1=(j:Int):=l;rw [h,l] at this
      omega
    . exact z
 . cases A:v.2.2.2 with
   | none=>exact absurd A X
   | some x=>
    have:=zeV w g q A (k:=row.length) (YaY _) (.inr rfl);rwa [YaH] at this
theorem zmb{T:Int}{V:List Win}(j:OkVs T V)(n:JJ V row)(c:∀ k,k<row.length->∀ v∈V,keyW v=keyR row k->v.2.2.1<=(k:Int)+1->JC ((k:Int)+1) v.2.2.2->may v k){S:List Win}(q:S.Nodup)(h:∀ v∈S,v∈V/\v.2.2.2≠none){C:List Nat}(B:∀ v∈S,∀ k,k<row.length->may v k->k∈C):S.length<=C.length:=by
 have m:(S.map keyW).Nodup:=by
  rw [Wac,WaE];exact(Wac.mp q).imp_of_mem fun {a b} z A l e=>l (zaW j.nd (h a z).1 (h b A).1 e)
 have:=JD m fun x w=>by
  obtain⟨v,o,rfl⟩:=Ya7.mp w;obtain⟨g,F⟩:=h v o;have E:=n.2 v g F;obtain⟨k,i,e⟩:=zdO _ (YaY _) v.2.1 (j.one v g).1 (by rw [YaH];exact E)
  obtain⟨u,s,p,r,y⟩:=n.1 k i;have:=zaW j.nd s g (p.trans e);subst this;exact Ya7.mpr ⟨k,B u o k i (c k i u g p r y),e⟩
 simp_all
theorem zh8{V:List Win}(m:JJ V row)(c:∀ k,k<row.length->∀ v∈V,keyW v=keyR row k->v.2.2.1<=(k:Int)+1->JC ((k:Int)+1) v.2.2.2->may v k){S:List Nat}(n:S.Nodup)(g:∀ k∈S,k<row.length){C:List Win}(u:∀ k∈S,∀ v∈V,may v k->v∈C):S.length<=C.length:=by
 have j:(S.map (keyR row)).Nodup:=by
  rw [Wac,WaE];refine(Wac.mp n).imp_of_mem fun {a b} r s i e=>?_
  rcases Nat.lt_or_gt_of_ne i with z|z
  . exact zbp (g b s) z e
  . exact zbp (g a r) z e.symm
 have:=JD j fun x p=>by
  obtain⟨k,h,rfl⟩:=Ya7.mp p;obtain⟨v,l,e,o,q⟩:=m.1 k (g k h);exact Ya7.mpr ⟨v,u k h v l (c k (g k h) v l e o q),e⟩
 simp_all
def RowK(rs:List Rule)(row:List Int):Prop:=∀ r∈rs,(r.1 = "fixed"↔row.getD (r.2.1 - 1).toNat 0=r.2.2)
theorem JW:("fixed" : Str)≠"barred":=#[3]
theorem zcm{T n:Int}(g:okRs T n rs)(h:RowK rs row){k:Nat}:¬jV rs ((k:Int)+1) (row.getD k 0):=fun⟨r,c,e,z⟩=>by
 have b:=h r c;rw [e,show((k:Int)+1 - 1).toNat=k by omega] at b
 rcases(g r c).1 with w|w
 . have a:=b.mp w
   have:=z.mp a;rw [w] at this;exact JW this
 . have a:=z.mpr w
   have:=b.mpr a;rw [w] at this;exact JW this.symm
theorem zi1{T n:Int}(g:okRs T n rs)(m:(row.length:Int)=T)(h:∀ k,k<row.length->¬jV rs ((k:Int)+1) (row.getD k 0)):RowK rs row:=fun r b=>by
 obtain⟨i,⟨j,l⟩,_⟩:=g r b;have e:(r.2.1 - 1).toNat<row.length:=#[94]
 have c:=h _ e;rw [show(((r.2.1 - 1).toNat))+1=r.2.1 by lia] at c
 have a:=fun z=>c ⟨r,b,rfl,z⟩
 rcases i with w|w
 . refine⟨fun _=>?_,fun _=>w⟩
   rcases Wbj _ with y|y
   . exact y
   . exact absurd ⟨fun z=>absurd z y,fun z=>absurd (w.symm.trans z) JW⟩ a
 . refine⟨fun z=>absurd (z.symm.trans w) JW,fun z=>absurd ⟨fun _=>w,fun _=>z⟩ a⟩
theorem zdg{V:List Win}(b:V.Nodup)(c:i<V.length)(a:j<V.length)(e:V.getD i z4=V.getD j z4):i=j:=by
 rw [YaP,YaP,YaQ c,YaQ a] at e;exact(WaK b).mp e
theorem zcN{V:List Win}{v:Win}(h:v∈V):∃ i,i<V.length/\V.getD i z4=v:=by
 obtain⟨i,a,e⟩:=Yam h;exact⟨i,a,by simp_all⟩
theorem zjH{V:List Win}(ok:OkVs (T:Int) V)(hc:∀ v∈V,InR v.1 n)(hR:okRs (T:Int) n rs)(hl0:row0.length=T)(hf0:JJ V row0)(hk0:RowK rs row0)(hd:JI V T (fun k i=>mayP rs (V.getD i z4) ((k:Int)+1)) d):∃ row:List Int,jk n T row/\JJ V row/\RowK rs row/\d=.tuple [.str "row", .list (row.map .int)]:=by
 have ndV:V.Nodup:=by
  have:=Wac.mp ok.nd;rw [WaE] at this;exact Wac.mpr (this.imp fun h e=>h (by rw [e]))
 have hmay:∀ k,k<row0.length->∀ v∈V,keyW v=keyR row0 k->v.2.2.1<=(k:Int)+1->JC ((k:Int)+1) v.2.2.2->mayP rs v ((k:Int)+1):=fun k hk v hv e h1 h2=>by
  have e1:=congrArg Prod.fst e;have e1:v.1=row0.getD k 0:=e1;exact⟨h1,h2,by rw [e1];exact zcm hR hk0⟩
 rcases hd with ⟨f,h1,h2,h3,h4⟩|⟨S,h1,h2,h3,h4,⟨C,h5,h6⟩,h7⟩|⟨S,h1,h2,h3,h4,⟨C,h5,h6⟩,h7⟩
 . have hg:∀ k,k<T->(((List.range T).map fun k=>(V.getD (f k) z4).1).getD k 0)=(V.getD (f k) z4).1:=fun k hk=>by
    rw [YaP,Ya0,Yax hk];rfl
   have hlen:((List.range T).map fun k=>(V.getD (f k) z4).1).length=T:=by simp
   have g:Given V ((List.range T).map fun k=>(V.getD (f k) z4).1) (fun k=>V.getD (f k) z4):=by
    refine⟨fun k hk=>?_,fun i j hi hj e=>?_,fun v hv hdv=>?_⟩
    . rw [hlen] at hk
      obtain⟨a,b1,b2,_⟩:=h1 k hk;exact⟨Jl a,(hg k hk).symm,b1,b2⟩
    . rw [hlen] at hi hj
      exact h2 i j hi hj (zdg ndV (h1 i hi).1 (h1 j hj).1 e)
    . obtain⟨i,hi,e⟩:=zcN hv
      obtain⟨k,hk,e2⟩:=h3 i hi (by rw [e];exact hdv)
      exact⟨k,by rw [hlen];exact hk,by rw [e2,e]⟩
   refine⟨_,⟨hlen,fun c hc'=>?_⟩,zjX ok g,zi1 hR (by rw [hlen]) fun k hk=>?_,?_⟩
   . obtain⟨k,hk,rfl⟩:=Ya7.mp hc'
     exact hc _ (Jl (h1 k (Yba.mp hk)).1)
   . rw [hlen] at hk
     rw [hg k hk];exact(h1 k hk).2.2.2
   . rw [h4,YaD];rfl
 . exfalso
   have:=zmb ok hf0 hmay (S:=S.map fun x=>V.getD x.toNat z4) (C:=C.map Int.toNat) (by
    rw [Wac,WaE];refine(Wac.mp h1).imp_of_mem fun {a b} ha hb hab e=>hab ?_
    obtain⟨a1,a2⟩:=(h4 a ha).1;obtain⟨b1,b2⟩:=(h4 b hb).1;have:=zdg ndV #[0] #[0] e
    omega) (fun v hv=>by
    obtain⟨x,hx,rfl⟩:=Ya7.mp hv;obtain⟨⟨a1,a2⟩,a3⟩:=h4 x hx;exact⟨Jl #[0],a3⟩) (fun v hv k hk hm=>by
    obtain⟨x,hx,rfl⟩:=Ya7.mp hv;exact Ya7.mpr ⟨_,h6 x hx k #[0] hm,#[0]⟩)
   rw [YaR,YaR] at this
   omega
 . exfalso
   have:=zh8 hf0 hmay (S:=S.map Int.toNat) (C:=C.map fun i=>V.getD i.toNat z4) (by
    rw [Wac,WaE];refine(Wac.mp h1).imp_of_mem fun {a b} ha hb hab e=>hab ?_
    obtain⟨a1,a2⟩:=h4 a ha;obtain⟨b1,b2⟩:=h4 b hb
    omega) (fun k hk=>by
    obtain⟨x,hx,rfl⟩:=Ya7.mp hk;obtain⟨a1,a2⟩:=h4 x hx
    omega) (fun k hk v hv hm=>by
    obtain⟨x,hx,rfl⟩:=Ya7.mp hk;obtain⟨i,hi,e⟩:=zcN hv;refine Ya7.mpr ⟨_,h6 x hx i hi (by show mayP rs (V.getD i z4) _;rw [e];exact hm),?_⟩
    rw [Int.toNat_natCast];exact e)
   rw [YaR,YaR] at this
   omega
theorem zi8(a:okS l):∀ r∈quoB (zg l) l,r.length=many l/\∀ x∈r,Bits 1000 x:=fun r b=>⟨zaJ a b,fun x e=>by
 have c:=zal a;have i:=zdj a c r b x e;have g:=zeo a #[94] r b x e
 have h:tot l*zg l<=60*zg l:=Ybe a.2.2 #[94]
 exact(((Bits.lit (x:=60) 64).mul (zcY a)).le #[94]).mono #[1]⟩
theorem zf7(a:okS l)(g:okB (many l) bs)(h:∀ p∈bs,okQ p.1/\okQ p.2)(e:IsWs l bs W):∀ row':List Int,jk (many l) (tot l).toNat row'->(kpP (zg l) (many l) (quoB (zg l) l) row' bs↔JJ W.flatten row'):=fun row' b=>
 (zg7 (zcc a) (zal a) (ziV a) g.1 h fun t n=>by
  have j:=zcd a;have i:=b.1;have c:(quo l).getD (t+1) []∈quo l:=by
   rw [YaP,YaQ #[0]];simp_all
  have m:=zaJ a c;unfold jg subL;rw [YaR,List.length_zip,Jx,m,Nat.min_self]).symm.trans ((zms a g h b e.1 e.2).trans (zhI a e b).symm)
theorem zkr:SeqAt.shaped (.str "fixed")=true:=#[3]
theorem zd8:SeqAt.shaped (.str "barred")=true:=#[3]
theorem zjw(h:okS l):1<=tot l:=by
 obtain⟨⟨e,_⟩,b,_⟩:=h;cases l with
 | nil=>simp at e
 | cons a r=>
  have:=zgK (fun t c=>(b t c).1) (YaV)
  have:=(b a YaV).1
  lia
structure Mend(Ch:Int->Int->Prop)(c:Int->Int->Int)(p0:Int->Int)(A B s:Nat)(tp vp:Int->Int)(t h:Tb):Prop where
 mat:Mat t h
 ot:TbOk t A B
 oh:TbOk h B A
 dom:∀ x,(getM t x).isSome=true↔0<=x/\x<(s:Int)
 ed:∀ x v,getM t x=some v->Ch x v/\tp x+vp v=c x v
 low:∀ x v,0<=x->x<(s:Int)->Ch x v->tp x+vp v<=c x v
 free:∀ v,getM h v=none->vp v=p0 v
 zero:∀ x,(s:Int)<=x->tp x=0
 top:∀ v,vp v<=p0 v
def Lab(h far:Tb)(start:Int)(done:List Int)(r g:Int):Prop:=(r=start/\g=0)\/∃ u∈done,getM h u=some r/\getM far u=some g
structure Sea(Ch:Int->Int->Prop)(c:Int->Int->Int)(tp vp:Int->Int)(h:Tb)(start:Int)(far came:Tb)(done:List Int):Prop where
 nd:done.Nodup
 held:∀ u∈done,(getM h u).isSome=true/\(getM far u).isSome=true
 all:∀ r g v,Lab h far start done r g->Ch r v->∃ x,getM far v=some x/\x<=g+c r v - tp r - vp v
 one:∀ v x,getM far v=some x->∃ r g,getM came v=some r/\Lab h far start done r g/\Ch r v/\x=g+c r v - tp r - vp v
 ord:∀ (i:Nat) v,done[i]?=some v->∃ r,getM came v=some r/\(r=start\/∃ (j:Nat) (u:Int),j<i/\done[j]?=some u/\getM h u=some r)
 least:∀ u∈done,∀ v,v∉done->∀ x y,getM far u=some x->getM far v=some y->x<=y
def Looked(Ch:Int->Int->Prop)(c:Int->Int->Int)(tp vp:Int->Int)(r g:Int)(far came far' came':Tb):Prop:=∀ v,
 (¬Ch r v->getM far' v=getM far v/\getM came' v=getM came v)/\
 (Ch r v->(∃ x,getM far v=some x/\x<=g+c r v - tp r - vp v/\getM far' v=some x/\getM came' v=getM came v)\/
  ((∀ x,getM far v=some x->g+c r v - tp r - vp v<x)/\getM far' v=some (g+c r v - tp r - vp v)/\getM came' v=some r))
section
variable{s:Nat}{t far' came':Tb}{start:Int}
theorem Sea.begin_(hl:Looked Ch c tp vp start 0 [] [] far came):Sea Ch c tp vp h start far came []:=by
 refine⟨Wa2,fun u hu=>(by cases hu),fun r g v hr hc=>?_,fun v x e=>?_,fun i v e=>(by simp at e),fun u hu=>(by cases hu)⟩
 . rcases hr with ⟨rfl,rfl⟩|⟨u,hu,_⟩
   . rcases(hl v).2 hc with ⟨x,e,_⟩|⟨_,e,_⟩
     . cases e
     . exact⟨_,e,Wbn _⟩
   . cases hu
 . by_cases hc:Ch start v
   . rcases(hl v).2 hc with ⟨x,e',_⟩|⟨_,e1,e2⟩
     . cases e'
     . rw [e] at e1
       exact⟨start,0,e2,.inl ⟨rfl,rfl⟩,hc,WaU e1⟩
   . rw [((hl v).1 hc).1] at e;cases e
theorem Sea.next(S:Sea Ch c tp vp h start far came done)(M:Mend Ch c p0 A B s tp vp t h){u r:Int}(hu:u∉done)(L:getM far u=some g)(I:∀ v,v∉done->∀ y,getM far v=some y->g<=y)(Z:getM h u=some r)
 (G:Looked Ch c tp vp r g far came far' came'):Sea Ch c tp vp h start far' came' (done++[u]):=by
 have tr:getM t r=some u:=(M.mat r u).mpr Z;have O:0<=r/\r<(s:Int):=(M.dom r).mp (by rw [tr];rfl)
 have Y:=fun v o=>by have:=M.low r v O.1 O.2 o;omega
 have X:∀ w∈done++[u],∀ x,getM far w=some x->x<=g:=fun w n x e=>by
  rcases Ya3.mp n with z|z
  . exact S.least w z u hu x g e L
  . rw [Ya6.mp z,L] at e;rw [WaU e];exact Wbn _
 have a6:∀ w∈done++[u],∃ x,getM far w=some x:=fun w n=>by
  rcases Ya3.mp n with z|z
  . exact Wag.mp (S.held w z).2
  . rw [Ya6.mp z];exact⟨g,L⟩
 have l:∀ w∈done++[u],getM far' w=getM far w/\getM came' w=getM came w:=fun w n=>by
  by_cases o:Ch r w
  . rcases(G w).2 o with ⟨x,q,_,m,p⟩|⟨q,_,_⟩
    . exact⟨m.trans q.symm,p⟩
    . obtain⟨x,e⟩:=a6 w n
      have F:=q x e;have E:=X w n x e;have h3:=Y w o
      omega
  . exact(G w).1 o
 have a7:∀ J N,Lab h far start done J N->Lab h far' start (done++[u]) J N:=fun J N z=>by
  rcases z with z|⟨w,n,F,E⟩
  . exact .inl z
  . exact .inr ⟨w,Yai _ n,F,by rw [(l w (Yai _ n)).1];exact E⟩
 have P:Lab h far' start (done++[u]) r g:=.inr ⟨u,by simp,Z,by rw [(l u (by simp)).1];exact L⟩
 refine⟨WaA.mpr ⟨S.nd,by simp,fun a ha b hb e=>hu (by rw [Ya6.mp hb] at e;rw [<-e];exact ha)⟩,fun w n=>?_,fun J N v a5 o=>?_,fun v x e=>?_,fun i v e=>?_,fun w n v hv x y q C=>?_⟩
 . rw [(l w n).1]
   rcases Ya3.mp n with z|z
   . exact S.held w z
   . rw [Ya6.mp z,Z,L];exact⟨rfl,rfl⟩
 . have Q:Lab h far start done J N->∃ x,getM far' v=some x/\x<=N+c J v - tp J - vp v:=fun z=>by
    obtain⟨x,q,C⟩:=S.all J N v z o
    by_cases W:Ch r v
    . rcases(G v).2 W with ⟨x',m,_,p,_⟩|⟨m,p,_⟩
      . rw [q] at m;rw [<-WaU m] at p;exact⟨x,p,C⟩
      . have:=m x q;exact⟨_,p,#[0]⟩
    . exact⟨x,by rw [((G v).1 W).1];exact q,C⟩
   rcases a5 with z|⟨w,n,F,E⟩
   . exact Q (.inl z)
   . rw [(l w n).1] at E
     rcases Ya3.mp n with z|z
     . exact Q (.inr ⟨w,z,F,E⟩)
     . rw [Ya6.mp z] at F E
       rw [Z] at F;rw [L] at E;have F:=WaU F;have E:=WaU E;subst F E
       rcases(G v).2 o with ⟨x,_,C,m,_⟩|⟨_,m,_⟩
       . exact⟨x,m,C⟩
       . exact⟨_,m,Wbn _⟩
 . have K:getM far' v=getM far v->getM came' v=getM came v->∃ r g,getM came' v=some r/\Lab h far' start (done++[u]) r g/\Ch r v/\x=g+c r v - tp r - vp v:=fun q C=>by
    obtain⟨U,g0,R,H,a3,a4⟩:=S.one v x (q ▸ e);exact⟨U,g0,C.trans R,a7 _ _ H,a3,a4⟩
   by_cases o:Ch r v
   . rcases(G v).2 o with ⟨x',q,_,m,p⟩|⟨_,m,p⟩
     . exact K (m.trans q.symm) p
     . rw [e] at m
       exact⟨r,g,p,P,o,WaU m⟩
   . exact K ((G v).1 o).1 ((G v).1 o).2
 . by_cases hi:i<done.length
   . rw [Yab hi] at e
     have hv:=Yah e;obtain⟨U,R,H⟩:=S.ord i v e;refine⟨U,by rw [(l v (Yai _ hv)).2];exact R,?_⟩
     rcases H with H|⟨j,w,b1,b2,b3⟩
     . exact .inl H
     . exact .inr ⟨j,w,b1,by rw [Yab #[0]];exact b2,b3⟩
   . have a0:i=done.length:=by
      have:=(Ya8.mp e).1;rw [YaS,List.length_singleton] at this
      omega
     subst a0;rw [Yae (YaY _),Wbi] at e;have e:u=v:=WaU e;subst e;obtain⟨U,g0,R,H,_,_⟩:=S.one u g L;refine⟨U,by rw [(l u (by simp)).2];exact R,?_⟩
     rcases H with ⟨H,_⟩|⟨w,b1,b2,_⟩
     . exact .inl H
     . obtain⟨j,hj,ej⟩:=Yam b1
       exact .inr ⟨j,w,hj,by rw [Yab hj,YaQ hj,ej],b2⟩
 . rw [(l w n).1] at q
   have F:=X w n x q;have T:v∉done:=fun z=>hv (Yai _ z)
   by_cases o:Ch r v
   . rcases(G v).2 o with ⟨x',m,_,p,_⟩|⟨_,p,_⟩
     . rw [C] at p
       rw [<-WaU p] at m;have:=I v T y m
       omega
     . rw [C] at p
       have:=WaU p;have:=Y v o
       omega
   . rw [((G v).1 o).1] at C
     have:=I v T y C
     omega
structure WayP(P:Int->Prop)(Ed:Int->Int->Prop)(ca t:Tb)(r:Int->Nat)(start:Int)(A B:Nat):Prop where
 inn:∀ c s,P c->getM ca c=some s->InR s A/\InR c B
 ed:∀ c s,P c->getM ca c=some s->Ed s c
 back:∀ c s c',P c->getM ca c=some s->getM t s=some c'->P c'/\∃ s',getM ca c'=some s'/\r s'<r s
 first:∀ c s,P c->getM ca c=some s->getM t s=none->s=start
structure Paid(h far:Tb)(start:Int)(done:List Int)(whole:Int)(tp vp tp' vp':Int->Int):Prop where
 st:tp' start=tp start+whole
 re:∀ u∈done,∀ r y,getM h u=some r->getM far u=some y->tp' r=tp r+(whole - y)/\vp' u=vp u - (whole - y)
 to:∀ x,x≠start->(∀ u∈done,getM h u≠some x)->tp' x=tp x
 vo:∀ v,v∉done->vp' v=vp v
theorem Paid.lab(p:Paid h far start done whole tp vp tp' vp'){r:Int}(l:Lab h far start done r g):tp' r=tp r+(whole - g):=by
 rcases l with ⟨rfl,rfl⟩|⟨u,c,a,b⟩
 . rw [p.st];lia
 . exact(p.re u c r g a b).1
theorem Sea.open_(S:Sea Ch c tp vp h start far came done)(M:Mend Ch c p0 A B s tp vp t h)(hst:InR start A)(h0:getM t start=none){f:Int->Int}(hf:∀ x,InR x A->Ch x (f x))(inj:∀ x y,InR x A->InR y A->f x=f y->x=y):∃ v x,v∉done/\getM far v=some x:=by
 refine Wae fun hno=>?_
 have hin:=fun v x e=>Wae fun z=>hno ⟨v,x,z,e⟩
 have hh:∀ u∈done,getM h u=some ((getM h u).getD 0):=fun u hu=>by
  obtain⟨r,e⟩:=Wag.mp (S.held u hu).1;rw [e];rfl
 have ht:=fun u hu=>(M.mat _ u).mpr (hh u hu)
 have hR:∀ r∈start::done.map (fun u=>(getM h u).getD 0),InR r A/\∃ g,Lab h far start done r g:=fun r hr=>by
  rcases Wa5.mp hr with rfl|hr
  . exact⟨hst,0,.inl ⟨rfl,rfl⟩⟩
  . obtain⟨u,hu,rfl⟩:=Ya7.mp hr
    obtain⟨x,e⟩:=Wag.mp (S.held u hu).2;exact⟨(M.oh.get (hh u hu)).2,x,.inr ⟨u,hu,hh u hu,e⟩⟩
 have nd:(start::done.map (fun u=>(getM h u).getD 0)).Nodup:=by
  refine YaB.mpr ⟨fun z=>?_,?_⟩
  . obtain⟨u,hu,e⟩:=Ya7.mp z
    have:=ht u hu
    grind
  . rw [Wac,WaE]
    refine(Wac.mp S.nd).imp_of_mem fun {a b} ha hb hab e=>hab ?_
    have h1:=ht a ha;rw [e,ht b hb] at h1;exact(WaU h1).symm
 have nd2:((start::done.map (fun u=>(getM h u).getD 0)).map f).Nodup:=by
  rw [Wac,WaE];exact(Wac.mp nd).imp_of_mem fun {a b} ha hb hab e=>hab (inj a b (hR a ha).1 (hR b hb).1 e)
 have:=JD nd2 fun y hy=>by
  obtain⟨r,hr,rfl⟩:=Ya7.mp hy;obtain⟨h1,g,h2⟩:=hR r hr;obtain⟨x,e,_⟩:=S.all r g (f r) h2 (hf r h1);exact hin _ x e
 rw [YaR,List.length_cons,YaR] at this
 lia
theorem Mend.next(M:Mend Ch c p0 A B s tp vp t h)(S:Sea Ch c tp vp h (s:Int) far came done)(hv:v∉done)(hw:getM far v=some whole)(hmin:∀ u,u∉done->∀ y,getM far u=some y->whole<=y)(p:Paid h far (s:Int) done whole tp vp tp' vp'){t' h':Tb}(mv:Moved (fun x v=>Ch x v/\tp' x+vp' v=c x v) t h t' h' (s:Int) A B):Mend Ch c p0 A B (s+1) tp' vp' t' h':=by
 have hdn:∀ u∈done,∃ r y,getM h u=some r/\getM far u=some y/\y<=whole/\0<=r/\r<(s:Int):=fun u hu=>by
  obtain⟨r,e1⟩:=Wag.mp (S.held u hu).1;obtain⟨y,e2⟩:=Wag.mp (S.held u hu).2;have:=(M.dom r).mp (by rw [(M.mat r u).mpr e1];rfl)
  exact⟨r,y,e1,e2,S.least u hu v hv y whole e2 hw,this.1,this.2⟩
 have hle:∀ u,vp' u<=vp u:=fun u=>by
  by_cases hu:u∈done
  . obtain⟨r,y,e1,e2,e3,_⟩:=hdn u hu
    rw [(p.re u hu r y e1 e2).2];lia
  . rw [p.vo u hu];exact Wbn _
 refine⟨mv.mat,mv.ot,mv.oh,fun x=>?_,mv.ed,fun x u x0 x1 hc=>?_,fun u hu=>?_,fun x hx=>?_,fun u=>?_⟩
 . rw [mv.dt,M.dom];lia
 . rcases Wbj (∃ g,Lab h far (s:Int) done x g) with ⟨g,l⟩|nl
   . obtain⟨y,e1,e2⟩:=S.all x g u l hc
     rw [p.lab l]
     by_cases hu:u∈done
     . obtain⟨r,y',a1,a2,_⟩:=hdn u hu
       rw [e1] at a2;rw [(p.re u hu r y a1 e1).2];lia
     . rw [p.vo u hu]
       have:=hmin u hu y e1
       lia
   . have hx:x≠(s:Int):=fun z=>nl ⟨0,.inl ⟨z,rfl⟩⟩
     have:tp' x=tp x:=p.to x hx fun w hw' e=>by
      obtain⟨r,y,_,a2,_⟩:=hdn w hw';exact nl ⟨y,.inr ⟨w,hw',e,a2⟩⟩
     have h1:=M.low x u x0 #[94] hc
     have h2:=hle u
     lia
 . have h1:getM h u=none:=by
    cases e:getM h u with
    | none=>rfl
    | some r=>have:=mv.dh u (by rw [e];rfl);rw [hu] at this;cases this
   rw [p.vo u fun z=>by have:=(S.held u z).1;rw [h1] at this;cases this]
   exact M.free u h1
 . rw [p.to x #[94] fun w hw' e=>by
    obtain⟨r,y,a1,_,_,_,a3⟩:=hdn w hw';rw [e] at a1;have:=WaU a1
    lia]
   exact M.zero x #[94]
 . exact Int.le_trans (hle u) (M.top u)
theorem Sea.way(S:Sea Ch c tp vp h start far came done)(M:Mend Ch c p0 A B s tp vp t h)(N:InR start A)(h0:getM t start=none)(P:∀ x v,Ch x v->InR v B)(hv:v∉done)(W:getM far v=some whole)(p:Paid h far start done whole tp vp tp' vp') :
 WayP (fun u=>u∈done\/u=v) (fun x v=>Ch x v/\tp' x+vp' v=c x v) came t (fun x=>if x=start then 0 else(done.map fun u=>(getM h u).getD 0).idxOf x+1) start A B/\∃ r,getM came v=some r:=by
 have Z:∀ u∈done,getM h u=some ((getM h u).getD 0):=fun u l=>by
  obtain⟨r,e⟩:=Wag.mp (S.held u l).1;rw [e];rfl
 have K:=fun u l=>(M.mat _ u).mpr (Z u l)
 have m:∀ u,u∈done\/u=v->∃ y,getM far u=some y:=fun u l=>by
  rcases l with l|rfl
  . exact Wag.mp (S.held u l).2
  . exact⟨whole,W⟩
 have Q:(done.map fun u=>(getM h u).getD 0).Nodup:=by
  rw [Wac,WaE];refine(Wac.mp S.nd).imp_of_mem fun {a b} ha hb O e=>O ?_
  have h1:=K a ha;rw [e,K b hb] at h1;exact(WaU h1).symm
 have rk:∀ (j:Nat) (u:Int),done[j]?=some u->(if(getM h u).getD 0=start then 0 else(done.map fun u=>(getM h u).getD 0).idxOf ((getM h u).getD 0)+1)=j+1:=fun j u e=>by
  have l:=Yah e;rw [if_neg fun z=>by have:=K u l;rw [z,h0] at this;cases this]
  obtain⟨X,U⟩:=Ya8.mp e;have R:j<(done.map fun u=>(getM h u).getD 0).length:=by rw [YaR];exact X
  have:=Q.idxOf_getElem j R;rw [List.getElem_map,U] at this;rw [this]
 have C:∀ u r,u∈done\/u=v->getM came u=some r->r=start\/∃ (j:Nat) (w:Int),done[j]?=some w/\getM h w=some r:=fun u r l e=>by
  obtain⟨y,o⟩:=m u l;obtain⟨G,g,n,J,_⟩:=S.one u y o;rw [e] at n;rw [WaU n]
  rcases J with ⟨z,_⟩|⟨w,E,q,_⟩
  . exact .inl z
  . obtain⟨j,X,U⟩:=Yam E
    exact .inr ⟨j,w,by rw [YaQ X,U],q⟩
 refine⟨⟨fun u r l e=>?_,fun u r l e=>?_,fun u r T l e F=>?_,fun u r l e F=>?_⟩,?_⟩
 . obtain⟨y,o⟩:=m u l
   obtain⟨G,g,n,J,L,_⟩:=S.one u y o;rw [e] at n;refine⟨?_,P _ _ L⟩
   rcases C u r l e with z|⟨j,w,_,q⟩
   . rw [z];exact N
   . exact(M.oh.get q).2
 . obtain⟨y,o⟩:=m u l
   obtain⟨G,g,n,J,L,a4⟩:=S.one u y o;rw [e] at n;rw [<-WaU n] at J L a4;refine⟨L,?_⟩;rw [p.lab J]
   rcases l with l|rfl
   . rw [(p.re u l _ y (Z u l) o).2];lia
   . rw [p.vo u hv]
     rw [W] at o;have:=WaU o
     lia
 . rcases C u r l e with z|⟨j,w,E,q⟩
   . rw [z,h0] at F;cases F
   . have H:=Yah E
     have I:(getM h w).getD 0=r:=by rw [q];rfl
     have:T=w:=by
      have:=K w H;rw [I,F] at this;exact WaU this
     subst this;obtain⟨G,c1,c2⟩:=S.ord j T E;refine⟨.inl H,G,c1,?_⟩;have e1:=rk j T E;rw [I] at e1;rw [e1]
     rcases c2 with z|⟨i,x,d1,d2,d3⟩
     . rw [if_pos z];lia
     . have Y:=rk i x d2
       rw [show(getM h x).getD 0=G by rw [d3];rfl] at Y
       rw [Y];lia
 . rcases C u r l e with z|⟨j,w,E,q⟩
   . exact z
   . rw [(M.mat r w).mpr q] at F;cases F
 . obtain⟨r,g,n,_⟩:=S.one v whole W
   exact⟨r,n⟩
end
noncomputable def sumF(n:Nat)(F:Int->Int):Int:=((List.range n).map fun i:Nat=>F (i:Int)).sum
theorem zg8{l m:List Int}(h:l.Perm m):l.sum=m.sum:=by
 induction h with
 | nil=>rfl
 | cons x _ ih=>simp_all
 | swap x y l=>rw [List.sum_cons,List.sum_cons,List.sum_cons,List.sum_cons];lia
 | trans _ _ h1 h2=>exact h1.trans h2
theorem zcQ{α : Type}{f g:α->Int}:∀ {l:List α},(∀ x∈l,f x<=g x)->(l.map f).sum<=(l.map g).sum
 | [],_=>Wbn _
 | x :: r, h => by
  have h1:=h x YaV;have h2:=zcQ fun y hy=>h y (YaT _ hy)
  rw [Ya1,Ya1,List.sum_cons,List.sum_cons];omega
theorem zf4{α : Type}{f g:α->Int}:∀ {l:List α},(l.map fun x=>f x+g x).sum=(l.map f).sum+(l.map g).sum
 | []=>rfl
 | x :: r => by
  have:=zf4 (f:=f) (g:=g) (l:=r);rw [Ya1,Ya1,Ya1,List.sum_cons,List.sum_cons,List.sum_cons];omega
theorem zc7{α : Type}{f:α->Int}:∀ {l:List α},(∀ x∈l,f x=0)->(l.map f).sum=0
 | [],_=>rfl
 | x::r,h=>by rw [Ya1,List.sum_cons,h x YaV,zc7 fun y a=>h y (YaT _ a)];rfl
theorem zgc{α : Type}{f:α->Int}:∀ {l:List α},(∀ x∈l,f x<=1)->(l.map f).sum<=(l.length:Int)
 | [],_=>Wbn _
 | x :: r, h => by
  have h1:=h x YaV;have h2:=zgc fun y hy=>h y (YaT _ hy)
  rw [Ya1,List.sum_cons,List.length_cons];omega
theorem zdh{α : Type}{f:α->Int}:∀ {l:List α},(∀ x∈l,0<=f x)->0<=(l.map f).sum/\∀ x∈l,f x<=(l.map f).sum
 | [],_=>⟨Wbn _,fun x h=>by cases h⟩
 | x :: r, h => by
  have h1:=h x YaV;obtain⟨h2,h3⟩:=zdh (l:=r) fun y hy=>h y (YaT _ hy)
  rw [Ya1,List.sum_cons];refine⟨#[0],fun y hy=>?_⟩
  rcases Wa5.mp hy with z|z
  . rw [z];omega
  . have:=h3 y z;omega
theorem zgr{g:Int->Int}(l:∀ x,InR x A->InR (g x) B)(q:∀ x y,InR x A->InR y A->g x=g y->x=y)(F):∃ L:List Nat,sumF B F=sumF A (fun x=>F (g x))+(L.map fun i:Nat=>F (i:Int)).sum/\∀ i,i∈L↔i<B/\∀ x,InR x A->g x≠(i:Int):=by
 have m:∀ i:Nat,i<A->InR (i:Int) A:=fun i n=>⟨#[0],#[0]⟩
 have I:∀ i:Nat,Decidable (∀ x,InR x A->g x≠(i:Int)):=fun _=>Classical.propDecidable _
 have w:((List.range A).map fun i:Nat=>(g (i:Int)).toNat).Nodup:=by
  rw [Wac,WaE];refine(Wac.mp WaQ).imp_of_mem fun {a b} j h r e=>r ?_
  have j:=m a (Yba.mp j);have h:=m b (Yba.mp h);obtain⟨v,u⟩:=l _ j;obtain⟨G,C⟩:=l _ h;have:=q _ _ j h #[0]
  omega
 have p:(List.range B).Perm (((List.range A).map fun i:Nat=>(g (i:Int)).toNat)++(List.range B).filter fun i:Nat=>decide (∀ x,InR x A->g x≠(i:Int))):=by
  refine(List.perm_ext_iff_of_nodup WaQ (WaA.mpr ⟨w,WaQ.filter _,fun a j b h e=>?_⟩)).mpr fun i=>?_
  . obtain⟨k,c,rfl⟩:=Ya7.mp j
    have c:=m k (Yba.mp c);have z:=of_decide_eq_true (Ya9.mp h).2;obtain⟨v,u⟩:=l _ c;exact z _ c #[0]
  . rw [Ya3,Ya7,Ya9,Yba]
    constructor
    . intro n
      rcases Wbj (∃ x,InR x A/\g x=(i:Int)) with ⟨x,o,e⟩|s
      . obtain⟨E,H⟩:=o
        exact .inl ⟨x.toNat,Yba.mpr #[0],by rw [show((x.toNat:Nat):Int)=x by omega,e];omega⟩
      . exact .inr ⟨n,decide_eq_true fun x o e=>s ⟨x,o,e⟩⟩
    . rintro(⟨k,c,rfl⟩|⟨n,_⟩)
      . obtain⟨v,u⟩:=l _ (m k (Yba.mp c));omega
      . exact n
 refine⟨(List.range B).filter fun i:Nat=>decide (∀ x,InR x A->g x≠(i:Int)),?_,fun i=>?_⟩
 . unfold sumF
   rw [zg8 (p.map _),Ya2,WaZ,YaD]
   congr 2
   refine Yat fun k c=>?_
   obtain⟨v,u⟩:=l _ (m k (Yba.mp c))
   grind
 . rw [Ya9,Yba,decide_eq_true_eq]
theorem Mend.fair(M:Mend Ch c p0 A B A tp vp t h)(R:∀ x v,0<=c x v/\c x v<=1){due:Int->Prop}(o:∀ v,(due v->p0 v=(A:Int)+1)/\(¬due v->p0 v=0))
 (I:∀ x v,Ch x v->InR v B) {f:Int->Int} (Q:∀ x,InR x A->Ch x (f x)) (w:∀ x y,InR x A->InR y A->f x=f y->x=y) (E:∀ v,InR v B->due v->∃ x,InR x A/\f x=v) :
 (∀ v,InR v B->due v->(getM h v).isSome=true)/\sumF A tp+sumF B vp=sumF A (fun x=>c x ((getM t x).getD 0))/\sumF A (fun x=>c x ((getM t x).getD 0))<=sumF A (fun x=>c x (f x)):=by
 have n:∀ x,InR x A->getM t x=some ((getM t x).getD 0):=fun x a=>by
  obtain⟨v,e⟩:=Wag.mp ((M.dom x).mpr a);rw [e];rfl
 have m:∀ {F G:Int->Int},(∀ x,InR x A->F x<=G x)->sumF A F<=sumF A G:=fun {F G} K=>zcQ fun i b=>K _ ⟨#[0],by have:=Yba.mp b;omega⟩
 have q:∀ {F G:Int->Int},sumF A (fun x=>F x+G x)=sumF A F+sumF A G:=zf4
 have O:∀ i:Nat,i<B->InR (i:Int) B:=fun i b=>⟨#[0],#[0]⟩
 have U:∀ v,0<=p0 v:=fun v=>by
  rcases Wbj (due v) with z|z
  . rw [(o v).1 z];omega
  . rw [(o v).2 z];exact Wbn _
 obtain⟨p,C,J⟩:=zgr (A:=A) (B:=B) (fun x a=>(M.ot.get (n x a)).2) (fun x y a Y e=>by
  have s:=(M.mat _ _).mp (n x a);have H:=(M.mat _ _).mp (n y Y);rw [e,H] at s;exact(WaU s).symm) vp
 obtain⟨L2,L,W⟩:=zgr (A:=A) (B:=B) (g:=f) (fun x a=>I _ _ (Q x a)) w vp
 have r:∀ i∈p,getM h (i:Int)=none:=fun i b=>by
  cases e:getM h (i:Int) with
  | none=>rfl
  | some x=>
   have a:=(M.oh.get e).2;have:=(M.mat x (i:Int)).mpr e;exact absurd (by rw [this];rfl) (((J i).mp b).2 x a)
 have u:(p.map fun i:Nat=>vp (i:Int)).sum=(p.map fun i:Nat=>p0 (i:Int)).sum:=by
  congr 1
  exact Yat fun i b=>M.free _ (r i b)
 have s2:=by
  have:=zcQ fun i b=>by
   obtain⟨s,H⟩:=(W i).mp b;have P:=M.top (i:Int);rw [(o (i:Int)).2 fun z=>by obtain⟨x,a,e⟩:=E _ (O i s) z;exact H x a e] at P
   exact P
  rw [zc7 fun _ _=>rfl] at this
  exact this
 have t1:sumF A tp+sumF A (fun x=>vp ((getM t x).getD 0))=sumF A (fun x=>c x ((getM t x).getD 0)):=by
  rw [<-q];refine Int.le_antisymm (m fun x a=>?_) (m fun x a=>?_)
  . exact Int.le_of_eq (M.ed x _ (n x a)).2
  . exact Int.le_of_eq (M.ed x _ (n x a)).2.symm
 have t2:sumF A tp+sumF A (fun x=>vp (f x))<=sumF A (fun x=>c x (f x)):=by
  rw [<-q];exact m fun x a=>M.low x _ a.1 a.2 (Q x a)
 have t3:sumF A (fun x=>c x (f x))<=(A:Int):=by
  have:=zgc (l:=List.range A) (f:=fun i:Nat=>c (i:Int) (f (i:Int))) fun i _=>(R _ _).2
  rw [YaG] at this;exact this
 have t4:0<=sumF A (fun x=>c x ((getM t x).getD 0)):=(zdh (l:=List.range A) fun i _=>(R _ _).1).1
 obtain⟨p1,X⟩:=zdh (l:=p) (f:=fun i:Nat=>p0 (i:Int)) fun i _=>U _
 have j:∀ v,InR v B->due v->(getM h v).isSome=true:=fun v S Z=>by
  cases e:getM h v with
  | some _=>rfl
  | none=>
   exfalso
   obtain⟨v0,v1⟩:=S;have T:v.toNat∈p:=(J _).mpr ⟨#[0],fun x a z=>by
    have:=(M.mat x _).mp (n x a);rw [show(((v.toNat:Nat):Int))=v by omega] at z
    have z:(getM t x).getD 0=v:=z;rw [z,e] at this;cases this⟩
   have:=X _ T;rw [show(((v.toNat:Nat):Int))=v by omega,(o v).1 Z] at this
   rw [C,u] at L
   omega
 have N:=zc7 fun i b=>(o _).2 fun z=>by
  have:=j _ (O i ((J i).mp b).1) z;rw [r i b] at this;cases this
 refine⟨j,?_,?_⟩
 . rw [C,u,N];omega
 . rw [C,u,N] at L;omega
section
open PySem.Spec PyProof.Rows
structure MkD where
 dx:Addr
 aC:Addr
 aT:Addr
 aV:Addr
 aK:Addr
 aH:Addr
 dcs:List Addr
 cs:List Tb
 tp:List Int
 vp:List Int
 tk:Tb
 hd:Tb
noncomputable def mfs(M:MkD):List (Str×V):=[("costs", .ref M.aC),("turn_prices", .ref M.aT),("visit_prices", .ref M.aV),("taken", .ref M.aK),("holders", .ref M.aH)]
structure Mkt(C:Addr)(H:Hp)(m:Addr)(M:MkD):Prop where
 ins:H m=some (.ins C M.dx (mfs M))
 own:H M.dx=some (.own m)
 lc:H M.aC=some (.lst (M.dcs.map .ref))
 len:M.dcs.length=M.cs.length
 dc:∀ (i:Nat) d,M.dcs[i]?=some d->∃ o,H d=some (.frz o (.dK (encM (M.cs.getD i []))))
 lt:H M.aT=some (.lst (M.tp.map .int))
 lv:H M.aV=some (.lst (M.vp.map .int))
 dk:H M.aK=some (.dK (encM M.tk))
 dh:H M.aH=some (.dK (encM M.hd))
theorem Mkt.keep{m:Addr}(k:Mkt C H m M)(s:∀ b o,H b=some o->(∀ f,o≠.ext f)->H' b=some o):Mkt C H' m M where
 ins:=s _ _ k.ins (by simp_all)
 own:=s _ _ k.own (by simp_all)
 lc:=s _ _ k.lc (by simp_all)
 len:=k.len
 dc:=fun i d e=>let ⟨o,h⟩:=k.dc i d e;⟨o,s _ _ h (by intro _ z;cases z)⟩
 lt:=s _ _ k.lt (by simp_all)
 lv:=s _ _ k.lv (by simp_all)
 dk:=s _ _ k.dk (by simp_all)
 dh:=s _ _ k.dh (by simp_all)
noncomputable def zB(L:Int->Int->Int)(t:Int)(fc:Tb×Tb)(p:Int×Int):Tb×Tb:=
 match getM fc.1 p.1 with
 | none=>(putM fc.1 p.1 (L p.1 p.2),putM fc.2 p.1 t)
 | some x=>if L p.1 p.2<x then(putM fc.1 p.1 (L p.1 p.2),putM fc.2 p.1 t) else fc
theorem zbz(L:Int->Int->Int)(t:Int):∀ (l:Tb) (fc:Tb×Tb),(l.foldl (zB L t) fc).1.length<=fc.1.length+l.length/\(l.foldl (zB L t) fc).2.length<=fc.2.length+l.length
 | [],fc=>⟨YaY _,YaY _⟩
 | p :: r, fc => by
  have h:=zbz L t r (zB L t fc p);have h1:(zB L t fc p).1.length<=fc.1.length+1/\(zB L t fc p).2.length<=fc.2.length+1:=by
   have pl:∀ (d:Tb) (k v:Int),(putM d k v).length<=d.length+1:=fun d k v=>by
    unfold putM;split
    . rw [YaR];omega
    . rw [YaS];exact YaY _
   unfold zB
   split
   . exact⟨pl _ _ _,pl _ _ _⟩
   . split
     . exact⟨pl _ _ _,pl _ _ _⟩
     . exact⟨Nat.le_succ _,Nat.le_succ _⟩
  rw [List.foldl_cons,List.length_cons]
  omega
noncomputable def zH(M:MkD)(t g:Int)(v x:Int):Int:=g+x - M.tp.getD t.toNat 0 - M.vp.getD v.toNat 0
def zcC(C:Addr):Sp:=fun vs H Q E=>∃ m t g f c M far came,vs=[.ref m,.int t,.int g,.ref f,.ref c]/\Mkt C H m M/\0<=t/\t<(M.cs.length:Int)/\t<(M.tp.length:Int)/\(∀ p∈M.cs.getD t.toNat [],InR p.1 M.vp.length)/\
 H f=some (.dK (encM far))/\H c=some (.dK (encM came))/\f≠c/\far.length+(M.cs.getD t.toNat []).length<sizeLine/\came.length+(M.cs.getD t.toNat []).length<sizeLine/\
 ∀ H',zi (bar H [f,c]) H'->H' f=some (.dK (encM ((M.cs.getD t.toNat []).foldl (zB (zH M t g) t) (far,came)).1))->H' c=some (.dK (encM ((M.cs.getD t.toNat []).foldl (zB (zH M t g) t) (far,came)).2))->Q .non H'
theorem zle(cl:Cls K C)(n1:zQ K C "costs")(n2:zQ K C "turn_prices")(n3:zQ K C "visit_prices")(F:Fun K "look_from" "look_from" (top 50) f fd):FnOk P w K mg base (CXR P w) 1 f fd ["market", "turn", "gone", "far", "came"] (zcC C):=by
 have S:FnScope ["market", "turn", "gone", "far", "came", "visit", "cost", "length"] ["market", "turn", "gone", "far", "came"] (zh (top 50)):=⟨rfl,rfl,rfl,#[3],rfl,#[3],#[3]⟩
 refine F.okR S (fun vs H Q E h=>?_) (fun ag A ab s H vs Q E hr h=>?_)
 . obtain⟨_,_,_,_,_,_,_,_,rfl,_⟩:=h;rfl
 have hu:=z7 hr;refine⟨_,jh (Zi WaF rfl (zkN (jH j8 (jG (pv 0) rfl) (pv 1) (fun _ _=>rfl))) (zce rfl (JZ (jn (i:=5) S.nd rfl (.inl rfl)) (JZ (jn (i:=6) S.nd rfl (.inl rfl)) zbT)))
  (zN (jj (i:=7) S.nd rfl (.inl rfl) (Jy ZG (Jy ZG (Jy zc5 (pv 2) (pv 6)) (jH j8 (jG (pv 0) rfl) (pv 1) (fun _ _=>rfl))) (jH j8 (jG (pv 0) rfl) (pv 5) (fun _ _=>rfl))))
   (jh (zgZ (PW.pt (zex (Zx (zbN hu (pv 5) (pv 3))) (zgF (zbH zgq (pv 7) (jX hu (pv 3) (pv 5) (fun _ _=>rfl)) (nomark _))))) (zN (Jv hu (pv 3) (pv 5) (pv 7) rfl) (jh (Jv hu (pv 4) (pv 5) (pv 1) rfl))) zey)))),?_⟩
 obtain⟨m,t,g,l,r,M,far,came,rfl,hM,t0,t1,t2,a3,hf,hc,Z,ah,ai,q⟩:=h;have a1:t.toNat<M.dcs.length:=by rw [hM.len];omega
 obtain⟨o,ho⟩:=hM.dc t.toNat M.dcs[t.toNat] (YaQ a1);have ad:atI (M.dcs.map V.ref) t=some (.ref M.dcs[t.toNat]):=by
  have:=jb (xs:=M.dcs.map V.ref) (j:=t.toNat) (v:=.ref M.dcs[t.toNat]) (by rw [Ya0,YaQ a1];rfl)
  rwa [show((t.toNat:Nat):Int)=t by omega] at this
 have a5:atI (M.tp.map V.int) t=some (.int (M.tp.getD t.toNat 0)):=by
  have:=jb (xs:=M.tp.map V.int) (j:=t.toNat) (v:=.int (M.tp.getD t.toNat 0)) (by rw [Ya0,YaQ (show t.toNat<M.tp.length by omega),YaP,YaQ (show t.toNat<M.tp.length by omega)];rfl)
  rwa [show((t.toNat:Nat):Int)=t by omega] at this
 refine⟨.ref m,rfl,m,C,M.dx,mfs M,.ref M.aC,rfl,hM.ins,cl,n1,rfl,.int t,rfl,M.aC,_,t,.ref M.dcs[t.toNat],rfl,rfl,SqL.of hM.lc,ad,M.dcs[t.toNat],o,_,rfl,ho,?_⟩
 generalize af:M.cs.getD t.toNat []=c at *;refine⟨fun i n σ' I=>i<=c.length/\n=c.length - i/\(∃ O J L,σ'=[some (.ref m),some (.int t),some (.int g),some (.ref l),some (.ref r),O,J,L])/\zi (bar H [l,r]) I/\I l=some (.dK (encM ((c.take i).foldl (zB (zH M t g) t) (far,came)).1))/\I r=some (.dK (encM ((c.take i).foldl (zB (zH M t g) t) (far,came)).2)),
  ⟨_,Wbm _,rfl,⟨none,none,none,rfl⟩,(ZA _ _).x,hf,hc⟩,?_⟩
 rintro i n σ' I ⟨hi,rfl,⟨O,J,L,rfl⟩,hs,h1,h2⟩
 have kp:∀ b R,H b=some R->(∀ kv,R≠.dK kv)->(∀ x,R≠.ext x)->I b=some R:=fun b R e n1 n2=>by
  refine hs.at ((z5 fun z=>?_).trans e) n2
  rcases Wa5.mp z with z|z
  . rw [z,hf] at e;exact n1 _ (WaU e).symm
  . rw [Ya6.mp z,hc] at e;exact n1 _ (WaU e).symm
 have hd:I M.dcs[t.toNat]=some (.frz o (.dK (encM c))):=kp _ _ ho (by intro kv z;cases z) (by intro x z;cases z)
 by_cases U:i<c.length
 . have hx:(L3.encM c)[i]?=some (Sum.inl c[i].1,.int c[i].2):=by unfold L3.encM;rw [Ya0,YaQ U];rfl
   refine .inr ⟨⟨⟨_,hx⟩,hd⟩,fun T W=>(∃ O J L,T=[some (.ref m),some (.int t),some (.int g),some (.ref l),some (.ref r),O,J,L])/\zi (bar H [l,r]) W/\W l=some (.dK (encM ((c.take (i+1)).foldl (zB (zH M t g) t) (far,came)).1))/\W r=some (.dK (encM ((c.take (i+1)).foldl (zB (zH M t g) t) (far,came)).2)),fun T W z=>⟨c.length - (i+1),#[0],U,rfl,z⟩,?_⟩
   rintro x Y ⟨a,k,v,hn,rfl,hk,rfl⟩
   rw [hx] at hk;cases hk;have a2:c[i]∈c:=Ya4 U;have a9:c.take (i+1)=c.take i++[c[i]]:=by rw [WaG,YaQ U];rfl
   rw [a9,WaD];have a8:(c.take i).length=i:=by rw [WaM];omega
   have B:=zbz (zH M t g) t (c.take i) (far,came);generalize (c.take i).foldl (zB (zH M t g) t) (far,came)=fc at h1 h2 B;obtain⟨u,G⟩:=fc;rw [a8] at B;have ae:u.length<sizeLine:=War B.1 (by show far.length+i<_;omega)
   have ac:G.length<sizeLine:=War B.2 (by show came.length+i<_;omega)
   generalize c[i]=p at a2;obtain⟨v,x⟩:=p;obtain⟨v0,v1⟩:=a3 _ a2;have v0:0<=v:=v0;have v1:v<(M.vp.length:Int):=v1;have a4:atI (M.vp.map V.int) v=some (.int (M.vp.getD v.toNat 0)):=by
    have:=jb (xs:=M.vp.map V.int) (j:=v.toNat) (v:=.int (M.vp.getD v.toNat 0)) (by rw [Ya0,YaQ (show v.toNat<M.vp.length by omega),YaP,YaQ (show v.toNat<M.vp.length by omega)];rfl)
    rwa [show((v.toNat:Nat):Int)=v by omega] at this
   have up:∀ b R,I b=some R->upd I a (.tup [kV (Sum.inl v),.int x]) b=some R:=fun b R e=>by rw [zc (fun z=>by rw [z,hn] at e;cases e)];exact e
   have X:=up _ _ (kp _ _ hM.ins (by intro kv z;cases z) (by intro x z;cases z))
   have a7:=up _ _ (kp _ _ hM.lt (by intro kv z;cases z) (by intro x z;cases z))
   have a6:=up _ _ (kp _ _ hM.lv (by intro kv z;cases z) (by intro x z;cases z))
   have f3:=up _ _ h1;have c3:=up _ _ h2;have a0:=hs.trans (zG hn (.tup [kV (Sum.inl v),.int x])).x;have bf:bar H [l,r] l=none:=jJ (by simp)
   have bc:bar H [l,r] r=none:=jJ (by simp)
   have hG:SqT K (upd I a (.tup [kV (Sum.inl v),.int x])) a [.int v,.int x]:=SqT.of zf;generalize upd I a (.tup [kV (Sum.inl v),.int x])=Y at *;refine⟨a,[.int v,.int x],rfl,hG,rfl,_,_,rfl,_,_,rfl,rfl,?_⟩;refine⟨.int g,rfl,.int x,rfl,g,x,rfl,rfl,.ref m,rfl,m,C,M.dx,mfs M,.ref M.aT,rfl,X,cl,n2,rfl,.int t,rfl,M.aT,_,t,_,rfl,rfl,SqL.of a7,a5,_,_,rfl,rfl,.ref m,rfl,m,C,M.dx,mfs M,.ref M.aV,rfl,X,cl,n3,rfl,.int v,rfl,M.aV,_,v,_,rfl,rfl,SqL.of a6,a4,_,_,rfl,rfl,?_⟩
   have aa:∀ (N:Prop),((∃ O J L,([some (V.ref m),some (.int t),some (.int g),some (.ref l),some (.ref r),some (.int v),some (.int x),some (.int (g+x - M.tp.getD t.toNat 0 - M.vp.getD v.toNat 0))]:List (Option V))=[some (.ref m),some (.int t),some (.int g),some (.ref l),some (.ref r),O,J,L])/\zi (bar H [l,r]) (upd (upd Y l (.dK (L3.encM (putM u v (zH M t g v x))))) r (.dK (L3.encM (putM G v t))))/\upd (upd Y l (.dK (L3.encM (putM u v (zH M t g v x))))) r (.dK (L3.encM (putM G v t))) l=some (.dK (L3.encM (putM u v (zH M t g v x))))/\upd (upd Y l (.dK (L3.encM (putM u v (zH M t g v x))))) r (.dK (L3.encM (putM G v t))) r=some (.dK (L3.encM (putM G v t)))->N)->N:=fun N k=>k ⟨⟨_,_,_,rfl⟩,(a0.chg bf f3 (by intro _ z;cases z)).chg bc ((zc Z.symm).trans c3) (by intro _ z;cases z),(zc Z).trans zf,zf⟩
   refine⟨.int v,rfl,.ref l,rfl,l,_,rfl,DGet.k (k:=Sum.inl v) f3,_,rfl,?_⟩
   rw [jt];have go:zB (zH M t g) t (u,G) (v,x)=(putM u v (zH M t g v x),putM G v t)->∀ D:L2.Ends,D.nx=(fun T W=>(∃ O J L,T=[some (V.ref m),some (.int t),some (.int g),some (.ref l),some (.ref r),O,J,L])/\zi (bar H [l,r]) W/\W l=some (.dK (L3.encM (zB (zH M t g) t (u,G) (v,x)).1))/\W r=some (.dK (L3.encM (zB (zH M t g) t (u,G) (v,x)).2)))->
    tSeq (zdF (tVar 3) (tVar 5) (tVar 7)) (zdF (tVar 4) (tVar 5) (tVar 1)) D [some (V.ref m),some (.int t),some (.int g),some (.ref l),some (.ref r),some (.int v),some (.int x),some (.int (g+x - M.tp.getD t.toNat 0 - M.vp.getD v.toNat 0))] Y:=fun e D hD=>by
    refine⟨.int _,rfl,.ref l,rfl,.int v,rfl,l,_,rfl,DPut.k (k:=Sum.inl v) f3 (by rw [Zj];exact ae),?_⟩
    refine⟨.int t,rfl,.ref r,rfl,.int v,rfl,r,_,rfl,DPut.k (k:=Sum.inl v) ((zc Z.symm).trans c3) (by rw [Zj];exact ac),?_⟩
    rw [hD,ZB,ZB,e];exact aa _ id
   have no:zB (zH M t g) t (u,G) (v,x)=(u,G)->(∃ O J L,([some (V.ref m),some (.int t),some (.int g),some (.ref l),some (.ref r),some (.int v),some (.int x),some (.int (g+x - M.tp.getD t.toNat 0 - M.vp.getD v.toNat 0))]:List (Option V))=[some (.ref m),some (.int t),some (.int g),some (.ref l),some (.ref r),O,J,L])/\zi (bar H [l,r]) Y/\Y l=some (.dK (L3.encM (zB (zH M t g) t (u,G) (v,x)).1))/\Y r=some (.dK (L3.encM (zB (zH M t g) t (u,G) (v,x)).2)):=fun e=>by
    rw [e];exact⟨⟨_,_,_,rfl⟩,a0,f3,c3⟩
   cases hg:getM u v with
   | none=>exact go (by unfold zB;dsimp only;rw [hg]) _ rfl
   | some y=>
    refine⟨.int _,rfl,.ref l,rfl,.int v,rfl,l,.int y,rfl,by have:=DGet.k (k:=Sum.inl v) f3;rw [jt,hg] at this;exact this,_,_,rfl,rfl,_,rfl,?_⟩
    by_cases hy:zH M t g v x<y
    . show if decide (zH M t g v x<y)=true then _ else _
      rw [if_pos (decide_eq_true hy)];exact go (by unfold zB;dsimp only;rw [hg];dsimp only;rw [if_pos hy]) _ rfl
    . show if decide (zH M t g v x<y)=true then _ else _
      rw [if_neg (by rw [decide_eq_false hy];decide)]
      exact no (by unfold zB;dsimp only;rw [hg];dsimp only;rw [if_neg hy])
 . have e:i=c.length:=#[0]
   subst e;rw [YaH] at h1 h2;refine .inl ⟨⟨by unfold L3.encM;rw [YaR],hd⟩,q I hs h1 h2⟩
theorem zc6(h:PS X st t):PS X st (fun B σ H=>∃ l kvs,H l=some (.dK kvs)/\∀ o,t B σ (upd H l (.frz o (.dK kvs)))):=fun b s σ H B I a=>by
 obtain⟨l,kvs,c,q⟩:=a;obtain⟨o,e⟩:=I.frzK c;exact h _ s σ _ B e (q o)
noncomputable def pay1(far hd:Tb)(w:Int)(p:List Int×List Int)(k:Int):List Int×List Int:=
 (p.1.set ((getM hd k).getD 0).toNat (p.1.getD ((getM hd k).getD 0).toNat 0+(w - (getM far k).getD 0)),p.2.set k.toNat (p.2.getD k.toNat 0 - (w - (getM far k).getD 0)))
theorem zdn(a b:Tb)(w:Int):∀ (ks:List Int) (p:List Int×List Int),(ks.foldl (pay1 a b w) p).1.length=p.1.length/\(ks.foldl (pay1 a b w) p).2.length=p.2.length
 | [],p=>⟨rfl,rfl⟩
 | k :: r, p => by
  have:=zdn a b w r (pay1 a b w p k);rw [List.foldl_cons,this.1,this.2];exact⟨YaN,YaN⟩
theorem zdG{xs:List Int}(h:InR k xs.length):atI (xs.map V.int) k=some (.int (xs.getD k.toNat 0)):=by
 obtain⟨b,a⟩:=h;have:=jb (xs:=xs.map V.int) (j:=k.toNat) (v:=.int (xs.getD k.toNat 0)) (by simp_all)
 grind
noncomputable def encK(ks:List Int):List (Key×V):=ks.map fun k=>(Sum.inl k,V.bl true)
def zcE(C:Addr):Sp:=fun vs H Q E=>∃ m s w f d M far ks,vs=[.ref m,.int s,.int w,.ref f,.ref d]/\Mkt C H m M/\InR s M.tp.length/\H f=some (.dK (encM far))/\H d=some (.dK (encK ks))/\(∀ k∈ks,InR k M.vp.length/\∃ r y,getM M.hd k=some r/\getM far k=some y/\InR r M.tp.length)/\M.aT≠M.aV/\d≠f/\d≠M.aH/\
 ∀ H',zi (bar H [M.aT,M.aV,d]) H'->H' M.aT=some (.lst ((ks.foldl (pay1 far M.hd w) (M.tp.set s.toNat (M.tp.getD s.toNat 0+w),M.vp)).1.map .int))->H' M.aV=some (.lst ((ks.foldl (pay1 far M.hd w) (M.tp.set s.toNat (M.tp.getD s.toNat 0+w),M.vp)).2.map .int))->Q .non H'
theorem ziM(cl:Cls K C)(n2:zQ K C "turn_prices")(n3:zQ K C "visit_prices")(n4:zQ K C "holders")(F:Fun K "change_prices" "change_prices" (top 52) f fd):FnOk P w K mg base (CXR P w) 1 f fd ["market", "start", "whole", "far", "done"] (zcE C):=by
 have S:FnScope ["market", "start", "whole", "far", "done", "visit"] ["market", "start", "whole", "far", "done"] (zh (top 52)):=⟨rfl,rfl,rfl,#[3],rfl,#[3],#[3]⟩
 refine F.okR S (fun vs H Q E h=>?_) (fun ab A a9 s H vs Q E hr h=>?_)
 . obtain⟨_,_,_,_,_,_,_,_,rfl,_⟩:=h;rfl
 have hu:=z7 hr;refine⟨_,zN (zck (jG (pv 0) rfl) (pv 1) zdT (pv 2) zcr Z4) (jh (zc6 (Zi WaF rfl (ze5 (pv 4)) (jn (i:=5) S.nd rfl (.inl rfl))
  (zN (zck (jG (pv 0) rfl) (jX hu (jG (pv 0) rfl) (pv 5) (fun _ _=>rfl)) zdT (Jy ZG (pv 2) (jX hu (pv 3) (pv 5) (fun _ _=>rfl))) zcr Z4)
   (jh (zck (jG (pv 0) rfl) (pv 5) zdT (Jy ZG (pv 2) (jX hu (pv 3) (pv 5) (fun _ _=>rfl))) zkP Z4)))))),?_⟩
 obtain⟨m,s,w,T,d,M,far,a,rfl,c,J,hf,hd,hk,u,a3,a7,q⟩:=h;have I:M.aT≠d:=fun z=>by have:=c.lt;rw [z,hd] at this;cases this
 have a0:M.aV≠d:=fun z=>by have:=c.lv;rw [z,hd] at this;cases this
 refine⟨.ref m,rfl,m,C,M.dx,mfs M,.ref M.aT,rfl,c.ins,cl,n2,rfl,.int s,rfl,M.aT,_,s,_,rfl,rfl,J.1,SqL.of c.lt,zdG J,.int w,rfl,_,_,rfl,rfl,M.aT,_,s,s.toNat,rfl,rfl,c.lt,j9 J.1 (by rw [YaR];exact J.2),d,_,(zc I.symm).trans hd,fun o=>?_⟩
 have hb:bar H [M.aT,M.aV,d] M.aT=none:=jJ (by simp)
 have a4:bar H [M.aT,M.aV,d] M.aV=none:=jJ (by simp)
 have a8:bar H [M.aT,M.aV,d] d=none:=jJ (by simp)
 refine⟨.ref d,rfl,d,o,_,rfl,zf,fun i n σ' N=>i<=a.length/\n=a.length - i/\(∃ t5,σ'=[some (.ref m),some (.int s),some (.int w),some (.ref T),some (.ref d),t5])/\zi (bar H [M.aT,M.aV,d]) N/\N d=some (.frz o (.dK (encK a)))/\N M.aT=some (.lst (((a.take i).foldl (pay1 far M.hd w) (M.tp.set s.toNat (M.tp.getD s.toNat 0+w),M.vp)).1.map .int))/\N M.aV=some (.lst (((a.take i).foldl (pay1 far M.hd w) (M.tp.set s.toNat (M.tp.getD s.toNat 0+w),M.vp)).2.map .int)),
  ⟨_,Wbm _,rfl,⟨none,rfl⟩,((ZA _ _).x.chg hb c.lt (by intro _ z;cases z)).chg a8 ((zc I.symm).trans hd) (by intro _ z;cases z),zf,?_,?_⟩,?_⟩
 . rw [zc I,zf,List.take_zero,List.foldl_nil,Wbk]
 . rw [zc a0,zc u.symm];exact c.lv
 rintro i n σ' N ⟨hi,rfl,⟨t5,rfl⟩,hs,h0,X,W⟩
 have kp:∀ b O,H b=some O->b≠M.aT->b≠M.aV->b≠d->(∀ x,O≠.ext x)->N b=some O:=fun b O e e1 e2 e3 n2=>hs.at ((z5 fun z=>by
  rcases Wa5.mp z with z|z
  . exact e1 z
  . rcases Wa5.mp z with z|z
    . exact e2 z
    . exact e3 (Ya6.mp z)).trans e) n2
 by_cases L:i<a.length
 . have hx:(encK a)[i]?=some (Sum.inl a[i],.bl true):=by unfold encK;rw [Ya0,YaQ L];rfl
   refine .inr ⟨⟨⟨_,hx⟩,h0⟩,_,fun σ2 H2 z=>⟨a.length - (i+1),#[0],L,rfl,z⟩,?_⟩
   rintro x H3 ⟨e3,k,v,Y,rfl⟩
   have e3:=e3.symm;subst e3;rw [hx] at Y;cases Y;have a1:a[i]∈a:=Ya4 L;have a6:a.take (i+1)=a.take i++[a[i]]:=by rw [WaG,YaQ L];rfl
   rw [a6,WaD];have g:=zdn far M.hd w (a.take i) (M.tp.set s.toNat (M.tp.getD s.toNat 0+w),M.vp);generalize (a.take i).foldl (pay1 far M.hd w) (M.tp.set s.toNat (M.tp.getD s.toNat 0+w),M.vp)=fc at X W g;obtain⟨T1,V1⟩:=fc;rw [YaN] at g;generalize a[i]=k at a1;obtain⟨j,r,y,Z,U,p⟩:=hk _ a1;have p:InR r T1.length:=by rw [show T1.length=_ from g.1];exact p
   have j:InR k V1.length:=by rw [show V1.length=_ from g.2];exact j
   have R:∀ {b:Addr} {O:HO},H b=some O->(∀ l,O≠.lst l)->b≠M.aT/\b≠M.aV:=fun {b O} e n=>⟨fun z=>by rw [z,c.lt] at e;exact n _ (WaU e).symm,fun z=>by rw [z,c.lv] at e;exact n _ (WaU e).symm⟩
   have B:N m=_:=kp _ _ c.ins (R c.ins (by intro _ z;cases z)).1 (R c.ins (by intro _ z;cases z)).2 (fun z=>by have:=c.ins;rw [z,hd] at this;cases this) (by intro x z;cases z)
   have f3:=kp _ _ hf (R hf (by intro _ z;cases z)).1 (R hf (by intro _ z;cases z)).2 a3.symm (by intro x z;cases z)
   have a5:=kp _ _ c.dh (R c.dh (by intro _ z;cases z)).1 (R c.dh (by intro _ z;cases z)).2 a7.symm (by intro x z;cases z)
   have aa:=(R c.ins (by intro _ z;cases z)).1
   have a2:=(R hf (by intro _ z;cases z)).1
   have g1:∀ {G:Hp},G T=some (.dK (encM far))->DGet G T (.int k) (some (.int y)):=fun e=>by have:=DGet.k (k:=Sum.inl k) e;rwa [jt,U] at this
   have g2:∀ {G:Hp},G M.aH=some (.dK (encM M.hd))->DGet G M.aH (.int k) (some (.int r)):=fun e=>by have:=DGet.k (k:=Sum.inl k) e;rwa [jt,Z] at this
   refine⟨.ref m,rfl,m,C,M.dx,mfs M,.ref M.aT,rfl,B,cl,n2,rfl,.ref m,rfl,m,C,M.dx,mfs M,.ref M.aH,rfl,B,cl,n4,rfl,.int k,rfl,M.aH,_,rfl,g2 a5,M.aT,_,r,_,rfl,rfl,p.1,SqL.of X,zdG p,.int w,rfl,.ref T,rfl,.int k,rfl,T,_,rfl,g1 f3,_,_,rfl,rfl,_,_,rfl,rfl,M.aT,_,r,r.toNat,rfl,rfl,X,j9 p.1 (by rw [YaR];exact p.2),?_⟩
   refine⟨.ref m,rfl,m,C,M.dx,mfs M,.ref M.aV,rfl,(zc aa).trans B,cl,n3,rfl,.int k,rfl,M.aV,_,k,_,rfl,rfl,j.1,SqL.of ((zc u.symm).trans W),zdG j,.int w,rfl,.ref T,rfl,.int k,rfl,T,_,rfl,g1 ((zc a2).trans f3),_,_,rfl,rfl,_,_,rfl,rfl,M.aV,_,k,k.toNat,rfl,rfl,(zc u.symm).trans W,j9 j.1 (by rw [YaR];exact j.2),?_⟩
   refine⟨⟨_,rfl⟩,(hs.chg hb X (by intro _ z;cases z)).chg a4 ((zc u.symm).trans W) (by intro _ z;cases z),?_,?_,?_⟩
   . rw [zc a0.symm,zc I.symm];exact h0
   . rw [zc u,zf,List.foldl_cons,List.foldl_nil]
     unfold pay1;rw [Z,U,Wbk];rfl
   . rw [zf,List.foldl_cons,List.foldl_nil]
     unfold pay1;rw [U,Wbk];rfl
 . have e:i=a.length:=#[0]
   subst e;rw [YaH] at X W;exact .inl ⟨⟨by unfold encK;rw [YaR],h0⟩,q N hs X W⟩
def zjU(X:Cx)(t:TE):TE:=fun σ H Q=>t σ H fun v H1=>∃ l o kvs,H1 l=some (.frz o (.dK kvs))/\(∀ o u,X.H₀ l≠some (.frz o u))/\Q v (upd H1 l (.dK kvs))
theorem zjj(h:PE X e t):PE X e (zjU X t):=fun pins s σ H Q I hyp=>
 wpAny_mono (h _ s σ H _ I hyp) (fun v s1 zz0=>by obtain⟨x,H1,I1,r1,l,o,kvs,hl,h0,q⟩:=zz0;exact⟨x,_,I1.thawK hl h0,r1,q⟩) fun _ _ z=>z
theorem zi9:(valV (encK ks) (Sum.inl k)).isSome=decide (k∈ks):=by
 unfold valV encK
 induction ks with
 | nil=>rfl
 | cons p r ih=>
  rw [Ya1,List.find?_cons,zdJ]
  by_cases e:p=k
  . rw [decide_eq_true e,e,decide_eq_true (YaV)];rfl
  . rw [decide_eq_false e,show decide _=decide (k∈r) by simp [Wbp e]];exact ih
theorem zah(h:k∈t.map (·.1)):∃ y,getM t k=some y:=by
 unfold getM;cases e:t.find? _ with
 | some p=>exact⟨p.2,rfl⟩
 | none=>
  obtain⟨p,hp,rfl⟩:=Ya7.mp h;have:=Wav.mp e p hp
  simp at this
noncomputable def sel(ks:List Int)(t:Tb):List Int:=(t.map (·.1)).filter fun k=>!decide (k∈ks)
theorem zbi:k∈sel ks t↔k∈t.map (·.1)/\k∉ks:=by unfold sel;rw [Ya9];simp
def zcA(tb:Addr):Sp:=fun vs H Q E=>∃ f d far ks,vs=[.ref f,.ref d]/\TabU tb H/\H f=some (.dK (encM far))/\H d=some (.dK (encK ks))/\f≠d/\far.length<sizeLine/\(∃ v y,getM far v=some y/\v∉ks)/\
 ∀ v y H',getM far v=some y->v∉ks->(∀ u z,getM far u=some z->u∉ks->y<=z)->zi H H'->Q (.int v) H'
theorem zho(M:lamP=LamW.pos)(a9:lamQ=LamW.q)(hC:PySem.W.CodeHd base c0 tb)(hB:BMod mg base)(hm:mg "min" = none)(F:Fun K "nearest" "nearest" jT f fd)(r:fd.code=.ref c0):FnOk P w K mg base (CXR P w) 4 f fd ["far", "done"] (zcA tb):=by
 have S:FnScope ["far", "done"] ["far", "done"] (zh jT):=⟨rfl,rfl,rfl,#[3],rfl,#[3],#[3]⟩
 obtain⟨oc,od,kV,ad,pm,an,a3,ct,ab,rfl,lk,J⟩:=F.ex;have r:a3=.ref c0:=r;subst r;refine zbm lk J S (fun vs H Q E h=>?_) (fun A a7 s H vs Q E hr h=>?_)
 . obtain⟨_,_,_,_,rfl,_⟩:=h;rfl
 have hu:=z7 hr;refine⟨_,jh (zc6 (JE (zjj (zkk (it:=0) (k:=1) M a9 ⟨.of #[3] rfl rfl rfl rfl rfl trivial,#[1],rfl,rfl,rfl,hC,rfl,hB,rfl,rfl,fun _ _ _ _=>rfl⟩ (hr.mono #[1])
  (zaL ["visit"] ["done"] [1] rfl (zX (osc:=zh jT) #[3]) rfl (ze5 (pv 0)) (fun s H fp cl=>⟨jn (i:=0) (show((["visit"]:List PySem.Str)++(["done"]:List PySem.Str)).Nodup by decide) rfl (.inl rfl),zc0 (Zx (zbN hu (pv 0) (pv 1))),pv 0⟩))
  (fun f ac s H' hr=>jX (z7 hr) (pv 1) (pv 0) (fun _ _=>rfl)) rfl hm)))),?_⟩
 obtain⟨a,d,far,B,rfl,tu,X,hd,a0,aa,⟨v0,y0,a4,U⟩,q⟩:=h;refine⟨a,_,X,fun o=>⟨.ref a,rfl,a,o,_,rfl,zf,fun D G=>?_⟩⟩
 have p:D≠a:=(fun z=>by rw [z,zf] at G;cases G)
 have G:H D=none:=by rwa [zc p] at G
 have a8:d≠D:=(fun z=>by rw [z,G] at hd;cases hd)
 refine⟨fun i m ys R O=>i<=far.length/\m=far.length - i/\(∃ t0,R=[t0,some (.ref d)])/\ys=(sel B (far.take i)).map .int/\O D=some (.lst ys)/\O a=some (.frz o (.dK (encM far)))/\∀ b,b≠D->b≠a->O b=H b,
  ⟨_,Wbm _,rfl,⟨none,rfl⟩,rfl,zf,(zc p.symm).trans zf,fun b Z b2=>by rw [zc Z,zc b2]⟩,?_⟩
 rintro i m ys R O ⟨hi,rfl,⟨t0,rfl⟩,rfl,h1,C,h3⟩
 by_cases l:i<far.length
 . have hx:(L3.encM far)[i]?=some (Sum.inl far[i].1,.int far[i].2):=by unfold L3.encM;rw [Ya0,YaQ l];rfl
   refine .inr ⟨⟨⟨_,hx⟩,C⟩,?_⟩
   rintro x H3 ⟨e3,k,v,L,rfl⟩
   have e3:=e3.symm;subst e3;rw [hx] at L;cases L;have a6:far.take (i+1)=far.take i++[far[i]]:=by rw [WaG,YaQ l];rfl
   have a5:=(h3 d a8 a0.symm).trans hd;have g:sel B (far.take (i+1))=sel B (far.take i)++if far[i].1∈B then [] else [far[i].1]:=by
    unfold sel;rw [a6,Ya2,Wau]
    by_cases e:far[i].1∈B
    . rw [if_pos e];simp [e]
    . rw [if_neg e];simp [e]
   generalize far[i].1=k at g;refine⟨.int k,rfl,.ref d,rfl,d,_,rfl,DGet.k (k:=Sum.inl k) a5,_,rfl,?_⟩;rw [zi9]
   by_cases hk:k∈B
   . rw [decide_eq_true hk]
     show if(!true)=true then _ else _
     rw [if_neg #[1]]
     rw [if_pos hk,Yao] at g;exact⟨far.length - (i+1),#[0],l,rfl,⟨_,rfl⟩,by rw [g],h1,C,h3⟩
   . rw [decide_eq_false hk]
     show if(!false)=true then _ else _
     rw [if_pos #[1]]
     rw [if_neg hk] at g;refine⟨.int k,rfl,h1,?_,far.length - (i+1),#[0],l,rfl,⟨_,rfl⟩,by rw [g,Ya2];rfl,zf,(zc p.symm).trans C,fun b Z b2=>by rw [zc Z];exact h3 b Z b2⟩
     unfold sel;rw [YaR];refine War (Wao _ _) ?_;rw [YaR,WaM]
     omega
 . have e:i=far.length:=#[0]
   subst e;rw [YaH] at h1;have j:∀ b I,H b=some I->b≠a->O b=some I:=fun b I e n=>(h3 b (fun z=>by rw [z,G] at e;cases e) n).trans e
   have c:∀ b x,H b=some (.ext x)->b≠a:=fun b x e z=>by rw [z,X] at e;cases e
   refine .inl ⟨⟨by unfold L3.encM;rw [YaR],C⟩,?_,D,sel B far,.ref a,fun n=>(getM far n).getD 0,rfl,h1,?_,rfl,fun n hn H3 Y=>?_,fun n H3 hn N Y=>?_⟩
   . rcases tu with tu|⟨c',a1,a2⟩
     . exact .inl (j _ _ tu (c _ _ tu))
     . exact .inr ⟨c',j _ _ a1 (c _ _ a1),j _ _ a2 (c _ _ a2)⟩
   . exact YaO (zbi.mpr ⟨ZN (by rw [a4];rfl),U⟩)
   . obtain⟨y,W⟩:=zah (zbi.mp hn).1
     refine⟨.ref a,rfl,.int n,rfl,a,.int y,rfl,.inl ⟨L3.encM far,Sum.inl n,.inr ⟨o,Y.at C⟩,rfl,by rw [jt,W];rfl⟩,by show V.int y=V.int ((getM far n).getD 0);rw [W];rfl,zi.refl _⟩
   . obtain⟨y,W⟩:=zah (zbi.mp hn).1
     have T:=Y.at C;refine⟨a,o,_,T,fun o u z=>(by have z:H a=_:=z;rw [X] at z;cases z),q n y _ W (zbi.mp hn).2 (fun u z hz hu=>?_) fun b I e=>?_⟩
     . have:(getM far n).getD 0<=(getM far u).getD 0:=N u (zbi.mpr ⟨ZN (by rw [hz];rfl),hu⟩)
       rwa [W,hz] at this
     . by_cases hb:b=a
       . subst hb
         rw [X] at e;cases e;exact .inl zf
       . rw [zc hb]
         rcases Y b I (j b I e hb) with z|⟨z1,z2,c',z3,z4⟩
         . exact .inl z
         . refine .inr ⟨z1,z2,c',by rw [zc hb];exact z3,?_⟩
           rw [zc (fun z=>by rw [z,T] at z4;cases z4)]
           exact z4
theorem WayP.way{P:Int->Prop}{r:Int->Nat}{start:Int}(w:WayP P Ed ca t r start A B):∃ ca',(∀ c s,getM ca' c=some s↔P c/\getM ca c=some s)/\Way Ed ca' t r start A B:=by
 have dc:∀ c,Decidable (P c):=fun _=>Classical.propDecidable _
 have key:∀ c s,getM _ c=some s↔P c/\getM ca c=some s:=fun c s=>by
  unfold getM;rw [List.find?_filter]
  by_cases hc:P c
  . rw [show(fun a:Int×Int=>decide (decide (P a.1)=true/\decide _=true))=fun a=>decide (a.1=c) from funext fun a=>by
     by_cases e:a.1=c
     . rw [e];simp [hc]
     . simp [e]]
    exact⟨fun z=>⟨hc,z⟩,fun z=>z.2⟩
  . rw [show(fun a:Int×Int=>decide _)=fun _=>false from funext fun a=>by
     by_cases e:a.1=c
     . rw [e];simp [hc]
     . simp [e]]
    refine⟨fun z=>?_,fun z=>absurd z.1 hc⟩
    rw [Wav.mpr (by simp)] at z
    cases z
 refine⟨_,key,fun c s e=>?_,fun c s e=>?_,fun c s c' e e'=>?_,fun c s e e'=>?_⟩
 . obtain⟨h1,h2⟩:=(key c s).mp e;exact w.inn c s h1 h2
 . obtain⟨h1,h2⟩:=(key c s).mp e;exact w.ed c s h1 h2
 . obtain⟨h1,h2⟩:=(key c s).mp e
   obtain⟨h3,s',h4,h5⟩:=w.back c s c' h1 h2 e';exact⟨s',(key c' s').mpr ⟨h3,h4⟩,h5⟩
 . obtain⟨h1,h2⟩:=(key c s).mp e;exact w.first c s h1 h2 e'
def spMove:Sp:=fun vs H Q E=>∃ (x:Int) (a1 a2 a3:Addr) (ca ca' t h:Tb) (Ed:Int->Int->Prop) (r:Int->Nat) (start:Int) (A B m:Nat),vs=[.int x,.ref a1,.ref a2,.ref a3]/\(∀ c s,getM ca' c=some s->getM ca c=some s)/\Way Ed ca' t r start A B/\OnWay Ed ca' t h t h r x A B m/\A<=2000/\B<=2000/\
 H a1=some (.dK (encM ca))/\H a2=some (.dK (encM t))/\H a3=some (.dK (encM h))/\a1≠a2/\a1≠a3/\a2≠a3/\
 ∀ t' h' H',Moved Ed t h t' h' start A B->zi (bar H [a2,a3]) H'->H' a2=some (.dK (encM t'))->H' a3=some (.dK (encM h'))->Q .non H'
theorem zjY(F:Fun K "move_along" "move_along" zbK f fd):FnOk P w K mg base (CXR P w) 1 f fd ["choice", "came", "taken", "holders"] spMove:=by
 have S:FnScope ["choice", "came", "taken", "holders", "taker", "former"] ["choice", "came", "taken", "holders"] (zh zbK):=⟨rfl,rfl,rfl,#[3],rfl,#[3],#[3]⟩
 refine F.okR S (fun vs H Q E h=>?_) (fun a4 A X s H vs Q E hr h=>?_)
 . obtain⟨_,_,_,_,_,_,_,_,_,_,_,_,_,_,rfl,_⟩:=h;rfl
 have L:=z7 hr;refine⟨_,jh (zdU WaF (Zx (zlK (pv 0))) (zN (jj (i:=4) S.nd rfl (.inl rfl) (jX L (pv 1) (pv 0) (fun _ _=>rfl)))
  (zN (jj (i:=5) S.nd rfl (.inl rfl) (zgS L (pv 2) (pv 4) ⟨rfl,rfl,rfl,rfl⟩)) (zN (Jv L (pv 2) (pv 4) (pv 0) rfl) (zN (Jv L (pv 3) (pv 0) (pv 4) rfl)
   (jh (jj (i:=0) S.nd rfl (.inl rfl) (pv 5)))))))),?_⟩
 obtain⟨x,B,a,b,ca,N,t,h,Z,r,o,A',B',m,rfl,G,hw,u,hA,hB,h1,h2,h3,O,T,p,q⟩:=h;have b2:bar H [a,b] a=none:=jJ (by simp)
 have b3:bar H [a,b] b=none:=jJ (by simp)
 refine⟨fun k n g=>((∃ (x:Int) (c l:Tb) (C J:Option V) (j:Nat),n=[some (.int x),some (.ref B),some (.ref a),some (.ref b),C,J]/\OnWay Z N t h c l r x A' B' j/\k=j+1/\g a=some (.dK (encM c))/\g b=some (.dK (encM l)))\/∃ (c l:Tb) (C J:Option V),n=[some .non,some (.ref B),some (.ref a),some (.ref b),C,J]/\Moved Z t h c l o A' B'/\g a=some (.dK (encM c))/\g b=some (.dK (encM l)))/\zi (bar H [a,b]) g,
  ⟨m+1,.inl ⟨x,t,h,none,none,m,rfl,u,rfl,h2,h3⟩,(ZA _ _).x⟩,?_⟩
 rintro k n g ⟨⟨x,c,l,C,J,j,rfl,u,rfl,v,M⟩|⟨c,l,C,J,rfl,hm,v,M⟩,R⟩
 . obtain⟨s,I,_⟩:=u.came
   obtain⟨Y,U⟩:=u.step hw I;have l1:=u.ot.len;have l2:=u.oh.len;have g1:g B=some (.dK (encM ca)):=R.at ((z5 (by simp [O,T])).trans h1)
   refine⟨.int x,rfl,_,rfl,?_⟩
   refine⟨_,fun n g z=>z,?_⟩
   refine⟨.ref B,rfl,.int x,rfl,B,.int s,rfl,by have:=DGet.k (k:=Sum.inl x) g1;rwa [jt,G _ _ I] at this,?_⟩
   refine⟨.ref a,rfl,a,rfl,.inl ⟨_,.inl v⟩,.int s,rfl,_,DGet.k (k:=Sum.inl s) v,?_⟩
   refine⟨.int x,rfl,.ref a,rfl,.int s,rfl,a,_,rfl,DPut.k (k:=Sum.inl s) v (by rw [Zj];exact YaU (show _<1000000 by omega) #[1]),?_⟩
   refine⟨.int s,rfl,.ref b,rfl,.int x,rfl,b,_,rfl,DPut.k (k:=Sum.inl x) ((zc p.symm).trans M) (by rw [Zj];exact YaU (show _<1000000 by omega) #[1]),?_⟩
   rw [ZB,ZB,jt];have y:zi (bar H [a,b]) (upd (upd g a (.dK (L3.encM (putM c s x)))) b (.dK (L3.encM (putM l x s)))):=(R.chg b2 v (by intro _ z;cases z)).chg b3 ((zc p.symm).trans M) (by intro _ z;cases z)
   have e2:upd (upd g a (.dK (L3.encM (putM c s x)))) b (.dK (L3.encM (putM l x s))) a=some (.dK (L3.encM (putM c s x))):=(zc p).trans zf;cases e:getM c s with
   | none=>exact⟨.non,rfl,0,#[0],.inr ⟨_,_,_,_,rfl,Y e,e2,zf⟩,y⟩
   | some W=>
    obtain⟨m',a0,o'⟩:=U W e;exact⟨.int W,rfl,m'+1,#[0],.inl ⟨W,_,_,_,_,m',rfl,o',rfl,e2,zf⟩,y⟩
 . refine⟨.non,rfl,_,rfl,?_⟩
   show if(!decide (V.non=V.non))=true then _ else _
   rw [if_neg (by rw [decide_eq_true rfl];decide)]
   exact q c l g hm R v M
noncomputable def at0(l:List Int)(x:Int):Int:=if 0<=x then l.getD x.toNat 0 else 0
theorem Jo{l:List Int}{i:Int}(h:InR i l.length):at0 (l.set i.toNat a) x=if x=i then a else at0 l x:=by
 obtain⟨h0,h1⟩:=h;unfold at0
 by_cases hx:0<=x
 . rw [if_pos hx,if_pos hx,YaP,YaP,List.getElem?_set]
   by_cases e:x=i
   . rw [if_pos e,if_pos #[0],if_pos #[0]];rfl
   . rw [if_neg e,if_neg #[0]]
 . rw [if_neg hx,if_neg #[0],if_neg hx]
theorem zgH{p:Int×Int}(h:v≠p.1):getM (zB L t fc p).1 v=getM fc.1 v/\getM (zB L t fc p).2 v=getM fc.2 v:=by
 have e:∀ (d:Tb) (y:Int),getM (putM d p.1 y) v=getM d v:=fun d y=>by rw [zS,if_neg (Wbp h)]
 unfold zB
 split
 . exact⟨e _ _,e _ _⟩
 . split
   . exact⟨e _ _,e _ _⟩
   . exact⟨rfl,rfl⟩
theorem zem(L:Int->Int->Int)(t:Int):∀ (its:Tb) (fc:Tb×Tb),(its.map (·.1)).Nodup->∀ v,
 (v∉its.map (·.1)->getM (its.foldl (zB L t) fc).1 v=getM fc.1 v/\getM (its.foldl (zB L t) fc).2 v=getM fc.2 v)/\
 ∀ x,(v,x)∈its->(∃ y,getM fc.1 v=some y/\y<=L v x/\getM (its.foldl (zB L t) fc).1 v=some y/\getM (its.foldl (zB L t) fc).2 v=getM fc.2 v)\/
  ((∀ y,getM fc.1 v=some y->L v x<y)/\getM (its.foldl (zB L t) fc).1 v=some (L v x)/\getM (its.foldl (zB L t) fc).2 v=some t)
 | [],fc,_,v=>⟨fun _=>⟨rfl,rfl⟩,fun x h=>by cases h⟩
 | p :: r, fc, nd, v => by
  rw [Ya1,YaB] at nd;obtain⟨n1,n2⟩:=nd;have ih:=zem L t r (zB L t fc p) n2 v;rw [List.foldl_cons];refine⟨fun hv=>?_,fun x hx=>?_⟩
  . rw [Ya1,Wa5,not_or] at hv
    obtain⟨i1,i2⟩:=ih.1 hv.2;obtain⟨l1,l2⟩:=zgH (t:=t) hv.1;exact⟨i1.trans l1,i2.trans l2⟩
  . by_cases hv:v=p.1
    . have hvr:=hv ▸ n1
      obtain⟨i1,i2⟩:=ih.1 hvr;have hxp:x=p.2:=by
       rcases Wa5.mp hx with e|e
       . exact congrArg Prod.snd e
       . exact absurd (Ya7.mpr ⟨_,e,rfl⟩) hvr
      rw [i1,i2];have hv:=hv.symm;obtain⟨k,z⟩:=p;have hv:k=v:=hv;subst hv hxp;unfold zB;cases e:getM fc.1 k with
      | none=>exact .inr ⟨fun y hy=>(by cases hy),by rw [zS,if_pos rfl],by rw [zS,if_pos rfl]⟩
      | some y=>
       by_cases hy:L k x<y
       . dsimp only
         rw [if_pos hy];exact .inr ⟨fun y' e'=>by rw [<-WaU e'];exact hy,by rw [zS,if_pos rfl],by rw [zS,if_pos rfl]⟩
       . dsimp only
         rw [if_neg hy];exact .inl ⟨y,rfl,#[0],e,rfl⟩
    . obtain⟨l1,l2⟩:=zgH (L:=L) (p:=p) hv
      have:=ih.2 x (by
       rcases Wa5.mp hx with e|e
       . exact absurd (congrArg Prod.fst e) hv
       . exact e)
      rw [l1,l2] at this;exact this
def ChM(M:MkD)(x v:Int):Prop:=InR x M.cs.length/\(getM (M.cs.getD x.toNat []) v).isSome=true
noncomputable def cM(M:MkD)(x v:Int):Int:=(getM (M.cs.getD x.toNat []) v).getD 0
theorem looked{g:Int}{far came:Tb}(a:InR t M.cs.length)(j:((M.cs.getD t.toNat []).map (·.1)).Nodup)(n:∀ v,ChM M t v->0<=v):Looked (ChM M) (cM M) (at0 M.tp) (at0 M.vp) t g far came ((M.cs.getD t.toNat []).foldl (zB (zH M t g) t) (far,came)).1 ((M.cs.getD t.toNat []).foldl (zB (zH M t g) t) (far,came)).2:=fun v=>by
 have h:=zem (zH M t g) t _ (far,came) j v;refine⟨fun i=>h.1 fun l=>i ⟨a,?_⟩,fun b=>?_⟩
 . obtain⟨y,e⟩:=zah l;rw [e];rfl
 . obtain⟨x,e⟩:=Wag.mp b.2
   have c:=n v b;have:=h.2 x (JK e);have m:zH M t g v x=g+cM M t v - at0 M.tp t - at0 M.vp v:=by unfold zH cM at0;rw [e,if_pos a.1,if_pos c];rfl
   rw [m] at this;exact this
theorem zgX(c e:Tb)(w:Int):∀ (ks:List Int) (T V:List Int),ks.Nodup->(∀ k∈ks,InR k V.length/\∃ r y,getM e k=some r/\getM c k=some y/\InR r T.length)->(∀ k∈ks,∀ l∈ks,getM e k=getM e l->k=l)->
 (∀ u∈ks,∀ r y,getM e u=some r->getM c u=some y->at0 (ks.foldl (pay1 c e w) (T,V)).1 r=at0 T r+(w - y)/\at0 (ks.foldl (pay1 c e w) (T,V)).2 u=at0 V u - (w - y))/\
 (∀ x,(∀ u∈ks,getM e u≠some x)->at0 (ks.foldl (pay1 c e w) (T,V)).1 x=at0 T x)/\∀ v,v∉ks->at0 (ks.foldl (pay1 c e w) (T,V)).2 v=at0 V v
 | [],T,V,_,_,_=>⟨fun u i=>(by cases i),fun _ _=>rfl,fun _ _=>rfl⟩
 | k :: ks, T, V, nd, hk, inj => by
  rw [YaB] at nd;obtain⟨g,r,y,m,s,h⟩:=hk k YaV;have F:pay1 c e w (T,V) k=(T.set r.toNat (at0 T r+(w - y)),V.set k.toNat (at0 V k - (w - y))):=by
   unfold pay1 at0;rw [m,s,if_pos h.1,if_pos g.1];rfl
  rw [List.foldl_cons,F];obtain⟨K,C,B⟩:=zgX c e w ks (T.set r.toNat (at0 T r+(w - y))) (V.set k.toNat (at0 V k - (w - y))) nd.2 (fun l H=>by rw [YaN,YaN];exact hk l (YaT _ H)) (fun a J b I=>inj a (YaT _ J) b (YaT _ I))
  have j:∀ u∈ks,getM e u≠some r:=fun u i z=>by
   have:=inj u (YaT _ i) k YaV (z.trans m.symm);exact nd.1 (this ▸ i)
  refine⟨fun u i M L n p=>?_,fun x A=>?_,fun v o=>?_⟩
  . rcases Wa5.mp i with z|z
    . subst z
      rw [m] at n;rw [s] at p;cases n;cases p;rw [C r j,B u nd.1,Jo h,Jo g,if_pos rfl,if_pos rfl];exact⟨rfl,rfl⟩
    . obtain⟨E,G⟩:=K u z M L n p
      rw [E,G,Jo h,Jo g,if_neg (fun q=>j u z (by rw [<-q];exact n)),if_neg (fun q:u=k=>nd.1 (q ▸ z))]
      exact⟨rfl,rfl⟩
  . rw [C x fun u i=>A u (YaT _ i),Jo h,if_neg fun q=>A k YaV (by rw [q];exact m)]
  . rw [Wa5,not_or] at o
    rw [B v o.2,Jo g,if_neg o.1]
theorem paid{w:Int}{T V:List Int}(nd:ks.Nodup)(hs:InR s T.length)(hk:∀ k∈ks,InR k V.length/\∃ r y,getM hd k=some r/\getM far k=some y/\InR r T.length)(inj:∀ k∈ks,∀ l∈ks,getM hd k=getM hd l->k=l)(hn:∀ k∈ks,getM hd k≠some s) :
 Paid hd far s ks w (at0 T) (at0 V) (at0 (ks.foldl (pay1 far hd w) (T.set s.toNat (T.getD s.toNat 0+w),V)).1) (at0 (ks.foldl (pay1 far hd w) (T.set s.toNat (T.getD s.toNat 0+w),V)).2):=by
 obtain⟨i1,i2,i3⟩:=zgX far hd w ks (T.set s.toNat (T.getD _ 0+w)) V nd (fun l hl=>by rw [YaN];exact hk l hl) inj
 refine⟨?_,fun u hu r y a1 a2=>?_,fun x hx hu=>?_,i3⟩
 . rw [i2 s hn,Jo hs,if_pos rfl]
   unfold at0;rw [if_pos hs.1]
 . obtain⟨j1,j2⟩:=i1 u hu r y a1 a2
   rw [j1,j2,Jo hs,if_neg fun q=>hn u hu (by rw [<-q];exact a1)]
   exact⟨rfl,rfl⟩
 . rw [i2 x hu,Jo hs,if_neg hx]
theorem zi.via(q:zi H H1)(u:∀ a∈as,H a=none)(j:∀ a∈as,∃ o,H1 a=some o/\∀ f,o≠.ext f)(l:zi (bar H1 as) H2):zi H H2:=by
 refine zi.trans (fun b o e=>?_) l
 have h:b∉as:=fun z=>by simp_all
 rw [z5 h]
 rcases q b o e with z|⟨r,p,g,m,c⟩
 . exact .inl z
 . refine .inr ⟨r,p,g,by rw [z5 h];exact m,?_⟩
   rw [z5 fun z=>by obtain⟨s,i,n⟩:=j g z;rw [c] at i;exact n _ (WaU i).symm]
   exact c
theorem zmk(h:k∉ks):putK (encK ks) (Sum.inl k) (.bl true)=encK (ks++[k]):=by
 have:((encK ks).any fun kv=>decide (kv.1=Sum.inl k))=false:=by
  rw [List.any_eq_false];intro kv hkv;obtain⟨l,hl,rfl⟩:=Ya7.mp hkv
  grind
 unfold putK;rw [this];unfold encK;rw [Ya2];rfl
theorem zmc:(encK ks).length=ks.length:=by unfold encK;rw [YaR]
section
variable{s:Nat}{t:Tb}{start:Int}
theorem Sea.len(S:Sea Ch c tp vp h start far came done)(M:Mend Ch c p0 A B s tp vp t h):done.length<=A:=by
 have hh:∀ u∈done,getM t ((getM h u).getD 0)=some u:=fun u hu=>by
  obtain⟨r,e⟩:=Wag.mp (S.held u hu).1;rw [e];exact(M.mat _ u).mpr e
 have nd:(done.map fun u=>(getM h u).getD 0).Nodup:=by
  rw [Wac,WaE];refine(Wac.mp S.nd).imp_of_mem fun {a b} ha hb hab e=>hab ?_
  have h1:=hh a ha
  simp_all
 have:=JD nd fun x hx=>by
  obtain⟨u,hu,rfl⟩:=Ya7.mp hx;exact ZN (by rw [hh u hu];rfl)
 rw [YaR,YaR] at this;exact Ya5 this M.ot.len
theorem Mend.still(M:Mend Ch c p0 A B s tp vp t h)(S:Sea Ch c tp vp h start far came done)(h0:getM t start=none)(p:Paid h far start done whole tp vp tp' vp'):∀ x v,getM t x=some v->Ch x v/\tp' x+vp' v=c x v:=fun x v e=>by
 obtain⟨e1,e2⟩:=M.ed x v e;refine⟨e1,?_⟩;have hx:=(M.mat x v).mp e
 by_cases hv:v∈done
 . obtain⟨y,hy⟩:=Wag.mp (S.held v hv).2
   obtain⟨a1,a2⟩:=p.re v hv x y hx hy;rw [a1,a2];lia
 . rw [p.vo v hv,p.to x (fun z=>by rw [z,h0] at e;cases e) fun u hu z=>?_]
   . exact e2
   . have:=(M.mat x u).mpr z
     rw [e] at this;exact hv (by rw [WaU this];exact hu)
end
structure Sep(M:MkD):Prop where
 ct:M.aC≠M.aT
 cv:M.aC≠M.aV
 tv:M.aT≠M.aV
 kh:M.aK≠M.aH
structure Fits(M:MkD)(A B:Nat):Prop where
 cl:M.cs.length=A
 tl:M.tp.length=A
 vl:M.vp.length=B
 nd:∀ its∈M.cs,(its.map (·.1)).Nodup
 inn:∀ its∈M.cs,∀ p∈its,InR p.1 B
 hA:A<=60
 hB:B<=2000
def zcW(C tb:Addr):Sp:=fun vs H Q E=>∃ (m:Addr) (s A B:Nat) (M:MkD) (p0 f:Int->Int),vs=[.ref m,.int (s:Int)]/\TabU tb H/\Mkt C H m M/\Sep M/\Fits M A B/\s<A/\Mend (ChM M) (cM M) p0 A B s (at0 M.tp) (at0 M.vp) M.tk M.hd/\(∀ x,InR x A->ChM M x (f x))/\(∀ x y,InR x A->InR y A->f x=f y->x=y)/\
 ∀ tp' vp' tk' hd' H',tp'.length=A->vp'.length=B->Mend (ChM M) (cM M) p0 A B (s+1) (at0 tp') (at0 vp') tk' hd'->zi (bar H [M.aT,M.aV,M.aK,M.aH]) H'->Mkt C H' m { M with tp:=tp',vp:=vp',tk:=tk',hd:=hd' }->Q .non H'
theorem zhd(cl:Cls K C)(n5:zQ K C "taken")(n4:zQ K C "holders")(GL:Df P w K mg base 1 "look_from" ["market", "turn", "gone", "far", "came"] (zcC C))(GN:Df P w K mg base 4 "nearest" ["far", "done"] (zcA tb))(GP:Df P w K mg base 1 "change_prices" ["market", "start", "whole", "far", "done"] (zcE C))(GM:Df P w K mg base 1 "move_along" ["choice", "came", "taken", "holders"] spMove)
   (F:Fun K "serve" "serve" (top 53) f fd):FnOk P w K mg base (CXR P w) 5 f fd ["market", "start"] (zcW C tb):=by
 have S:FnScope ["market", "start", "far", "came", "done", "visit"] ["market", "start"] (zh (top 53)):=⟨rfl,rfl,rfl,#[3],rfl,#[3],#[3]⟩
 refine F.okR S (fun vs H Q E h=>?_) (fun b9 A b0 s H vs Q E N h=>?_)
 . obtain⟨_,_,_,_,_,_,_,rfl,_⟩:=h;rfl
 have hu:=z7 N;refine⟨_,zN (jj (i:=2) S.nd rfl (.inl rfl) JP) (zN (jj (i:=3) S.nd rfl (.inl rfl) JP) (zN (jj (i:=4) S.nd rfl (.inl rfl) JP)
  (zN (jR (jE GL (N.mono #[1]) rfl jI (zn (pv 0) (zn (pv 1) (zn jP (zn (pv 2) (zn (pv 3) zK))))))) (zN (jj (i:=5) S.nd rfl (.inl rfl) (jE GN (N.mono #[1]) rfl jI (zn (pv 2) (zn (pv 4) zK))))
  (zN (zdU WaF (Zx (zlj hu (pv 5) (jG (pv 0) rfl)))
   (zN (Jv hu (pv 4) (pv 5) zgm rfl) (zN (jR (jE GL (N.mono #[1]) rfl jI (zn (pv 0) (zn (jX hu (jG (pv 0) rfl) (pv 5) (fun _ _=>rfl)) (zn (jX hu (pv 2) (pv 5) (fun _ _=>rfl)) (zn (pv 2) (zn (pv 3) zK)))))))
    (jh (jj (i:=5) S.nd rfl (.inl rfl) (jE GN (N.mono #[1]) rfl jI (zn (pv 2) (zn (pv 4) zK))))))))
  (zN (jR (jE GP (N.mono #[1]) rfl jI (zn (pv 0) (zn (pv 1) (zn (jX hu (pv 2) (pv 5) (fun _ _=>rfl)) (zn (pv 2) (zn (pv 4) zK)))))))
   (jh (jR (jE GM (N.mono #[1]) rfl jI (zn (pv 5) (zn (pv 3) (zn (jG (pv 0) rfl) (zn (jG (pv 0) rfl) zK))))))))))))),?_⟩
 obtain⟨m,n,A',B',M,p0,g,rfl,tu,I,a9,B,hs,j,hg,ac,q⟩:=h;have T:InR (n:Int) A':=⟨#[94],#[94]⟩
 have h0:getM M.tk (n:Int)=none:=by
  cases e:getM M.tk (n:Int) with
  | none=>rfl
  | some v=>have:=(j.dom n).mp (by rw [e];rfl);lia
 have a4:∀ r,InR r A'->M.cs.getD r.toNat []∈M.cs:=fun r N=>by
  obtain⟨r0,r1⟩:=N;have:=B.cl;rw [YaP,YaQ (show r.toNat<M.cs.length by lia)]
  exact Ya4 _
 have a1:∀ r,InR r A'->(M.cs.getD r.toNat []).length<=B':=fun r N=>by
  have:=Zu (B.nd _ (a4 r N)) fun x hx=>by
   obtain⟨p,hp,rfl⟩:=Ya7.mp hx;exact B.inn _ (a4 r N) p hp
  rwa [YaR] at this
 have an:∀ x v,ChM M x v->InR v B':=fun x v hc=>by
  obtain⟨y,e⟩:=Wag.mp hc.2;exact B.inn _ (a4 x (B.cl ▸ hc.1)) _ (JK e)
 have au:∀ r O far came,InR r A'->Looked (ChM M) (cM M) (at0 M.tp) (at0 M.vp) r O far came ((M.cs.getD r.toNat []).foldl (zB (zH M r O) r) (far,came)).1 ((M.cs.getD r.toNat []).foldl (zB (zH M r O) r) (far,came)).2:=fun r O far came N=>looked (B.cl ▸ N) (B.nd _ (a4 r N)) fun v hc=>(an r v hc).1
 have a0:∀ {x:Nat},x<=200000->x<sizeLine:=fun {x} hx=>War hx #[1]
 refine fun G aj R a3 J U=>?_
 have a6:R≠G:=(fun z=>by rw [z,zf] at a3;cases a3)
 have a2:J≠R:=(fun z=>by rw [z,zf] at U;cases U)
 have Y:J≠G:=fun z=>by rw [z,zc a6.symm,zf] at U;cases U
 have s3:=((zG aj (.dK [])).trans ((zG a3 (.dK [])).trans (zG U (.dK [])))).x;have f3:upd (upd (upd H G (.dK [])) R (.dK [])) J (.dK []) G=some (.dK (encM [])):=by rw [zc Y.symm,zc a6.symm,zf];rfl
 have c3:upd (upd (upd H G (.dK [])) R (.dK [])) J (.dK []) R=some (.dK (encM [])):=by rw [zc a2.symm,zf];rfl
 have d3:upd (upd (upd H G (.dK [])) R (.dK [])) J (.dK []) J=some (.dK (encK [])):=zf;rw [zc a6] at a3;rw [zc a2,zc Y] at U;generalize upd (upd (upd H G (.dK [])) R (.dK [])) J (.dK [])=H3 at *;have mk:∀ {H':Hp},zi H H'->Mkt C H' m M:=fun sx=>I.keep fun b o e nx=>sx.at e nx
 have ad:∀ r,InR r A'->0<=r/\r<(M.cs.length:Int)/\r<(M.tp.length:Int)/\∀ p∈M.cs.getD r.toNat [],InR p.1 M.vp.length:=fun r N=>⟨N.1,by rw [B.cl];exact N.2,by rw [B.tl];exact N.2,fun p hp=>by rw [B.vl];exact B.inn _ (a4 r N) p hp⟩
 obtain⟨p1,p2,p3,p4⟩:=ad n T;have hB:=B.hB;have hA:=B.hA;have aa:∀ {H1 H2:Hp} {x y:HO},zi H H1->H1 G=some x->(∀ f,x≠.ext f)->H1 R=some y->(∀ f,y≠.ext f)->zi (bar H1 [G,R]) H2->zi H H2:=fun sx e1 n1 e2 n2 s2=>zi.via sx (fun a ha=>by
  rcases Wa5.mp ha with z|z
  . rw [z];exact aj
  . rw [Ya6.mp z];exact a3) (fun a ha=>by
  rcases Wa5.mp ha with z|z
  . rw [z];exact⟨_,e1,n1⟩
  . rw [Ya6.mp z];exact⟨_,e2,n2⟩) s2
 refine⟨.ref m,rfl,.int n,rfl,.ref G,rfl,.ref R,rfl,m,n,0,G,R,M,[],[],rfl,mk s3,p1,p2,p3,p4,f3,c3,a6.symm,?_,?_,fun H4 s4 f4 c4=>?_⟩
 . have:=a1 n T;exact a0 (by simp only [List.length_nil];lia)
 . have:=a1 n T;exact a0 (by simp only [List.length_nil];lia)
 have d4:H4 J=some (.dK (encK [])):=s4.at ((z5 (by simp [Y,a2])).trans d3)
 have s4:=aa s3 f3 (by intro _ z;cases z) c3 (by intro _ z;cases z) s4
 have S0:=Sea.begin_ (h:=M.hd) (au n 0 [] [] T);have l0:=zbz (zH M n 0) n (M.cs.getD (n:Int).toNat []) ([],[]);have r0:=a1 n T;generalize (M.cs.getD (n:Int).toNat []).foldl (zB (zH M n 0) n) ([],[])=fc at *;obtain⟨far,came⟩:=fc;simp only [List.length_nil,Nat.zero_add] at l0;obtain⟨v0,x0,ao,am⟩:=S0.open_ j T h0 hg ac;refine⟨.ref G,rfl,.ref J,rfl,G,J,far,[],rfl,tu.same s4,f4,d4,Y.symm,a0 (by have:=l0.1;lia),⟨v0,x0,am,ao⟩,fun v O H5 hv Z W s5=>?_⟩
 refine⟨fun k σ' H'=>∃ (far came:Tb) (done:List Int) (v O:Int),σ'=[some (.ref m),some (.int n),some (.ref G),some (.ref R),some (.ref J),some (.int v)]/\k=A'+1 - done.length/\Sea (ChM M) (cM M) (at0 M.tp) (at0 M.vp) M.hd n far came done/\v∉done/\getM far v=some O/\(∀ u z,getM far u=some z->u∉done->O<=z)/\far.length<=(done.length+1)*B'/\came.length<=(done.length+1)*B'/\zi H H'/\H' G=some (.dK (encM far))/\H' R=some (.dK (encM came))/\H' J=some (.dK (encK done)),
  ⟨_,far,came,[],v,O,rfl,rfl,S0,Z,hv,W,by have:=l0.1;simp only [List.length_nil];lia,by have:=l0.2;simp only [List.length_nil];lia,s4.trans s5,s5.at f4,s5.at c4,s5.at d4⟩,?_⟩
 clear S0 l0 r0 ao am W hv Z s5 f4 c4 d4 s4 f3 c3 d3 s3
 rintro k σ' H5 ⟨far,came,done,v,O,rfl,rfl,Se,Z,hv,W,lf,lc,s5,f5,c5,d5⟩
 have M5:=mk s5;have b8:=Se.len j;have dB:(done.length+1)*B'<=61*B':=Nat.mul_le_mul_right _ #[94]
 have dg:DGet H5 G (.int v) (some (.int O)):=by have:=DGet.k (k:=Sum.inl v) f5;rwa [jt,hv] at this
 refine⟨.int v,rfl,.ref m,rfl,m,C,M.dx,mfs M,.ref M.aH,rfl,M5.ins,cl,n4,rfl,M.aH,_,rfl,DGet.k (k:=Sum.inl v) M5.dh,_,rfl,?_⟩
 rw [jt];cases N:getM M.hd v with
 | some r=>
  show if true=true then _ else _
  rw [if_pos rfl];have al:InR r A':=(j.oh.get N).2;refine⟨_,fun σ' H' z=>z,?_⟩
  refine⟨.ref J,rfl,.int v,rfl,J,_,rfl,DPut.k (k:=Sum.inl v) d5 (by rw [zmc];exact a0 #[94]),?_⟩
  rw [zmk Z];have s6:=s5.chg (o:=.dK (encK (done++[v]))) U d5 (by intro _ z;cases z)
  have f6:upd H5 J (.dK (encK (done++[v]))) G=some (.dK (encM far)):=(zc Y.symm).trans f5;have c6:upd H5 J (.dK (encK (done++[v]))) R=some (.dK (encM came)):=(zc a2.symm).trans c5;have d6:upd H5 J (.dK (encK (done++[v]))) J=some (.dK (encK (done++[v]))):=zf;generalize upd H5 J (.dK (encK (done++[v])))=H6 at *;have M6:=mk s6;have b6:DGet H6 G (.int v) (some (.int O)):=by have:=DGet.k (k:=Sum.inl v) f6;rwa [jt,hv] at this
  have b5:DGet H6 M.aH (.int v) (some (.int r)):=by have:=DGet.k (k:=Sum.inl v) M6.dh;rwa [jt,N] at this
  obtain⟨p1,p2,p3,p4⟩:=ad r al;have rl:=a1 r al;refine⟨.ref m,rfl,.ref m,rfl,m,C,M.dx,mfs M,.ref M.aH,rfl,M6.ins,cl,n4,rfl,.int v,rfl,M.aH,.int r,rfl,b5,.ref G,rfl,.int v,rfl,G,.int O,rfl,b6,.ref G,rfl,.ref R,rfl,m,r,O,G,R,M,far,came,rfl,M6,p1,p2,p3,p4,f6,c6,a6.symm,a0 #[94],a0 #[94],fun H7 s7 f7 c7=>?_⟩
  have d7:H7 J=some (.dK (encK (done++[v]))):=s7.at ((z5 (by simp [Y,a2])).trans d6)
  have s7:=aa s6 f6 (by intro _ z;cases z) c6 (by intro _ z;cases z) s7
  have S1:=Se.next j Z hv (fun u hu y e=>W u y e hu) N (au r O far came al)
  have l1:=zbz (zH M r O) r (M.cs.getD r.toNat []) (far,came);generalize (M.cs.getD r.toNat []).foldl (zB (zH M r O) r) (far,came)=fc at *;obtain⟨a7,a5⟩:=fc;obtain⟨l1,l2⟩:=l1;have l1:a7.length<=far.length+(M.cs.getD r.toNat []).length:=l1;have l2:a5.length<=came.length+(M.cs.getD r.toNat []).length:=l2;have b7:=S1.len j;rw [YaS,List.length_singleton] at b7;have ms:(done.length+1+1)*B'=(done.length+1)*B'+B':=Nat.succ_mul _ _
  obtain⟨v1,x1,b1,b2⟩:=S1.open_ j T h0 hg ac;refine⟨.ref G,rfl,.ref J,rfl,G,J,a7,done++[v],rfl,tu.same s7,f7,d7,Y.symm,a0 #[94],⟨v1,x1,b2,b1⟩,fun v2 az H8 b4 ap ak s8=>?_⟩
  refine⟨A'+1 - (done++[v]).length,by rw [YaS,List.length_singleton];lia,a7,a5,done++[v],v2,az,rfl,rfl,S1,ap,b4,ak,?_,?_,s7.trans s8,s8.at f7,s8.at c7,s8.at d7⟩
  . rw [YaS,List.length_singleton];lia
  . rw [YaS,List.length_singleton];lia
 | none=>
  show if false=true then _ else _
  rw [if_neg #[1]]
  have hk:∀ k∈done,InR k M.vp.length/\∃ r y,getM M.hd k=some r/\getM far k=some y/\InR r M.tp.length:=fun k hk=>by
   obtain⟨r,e1⟩:=Wag.mp (Se.held k hk).1;obtain⟨y,e2⟩:=Wag.mp (Se.held k hk).2;rw [B.vl,B.tl];exact⟨(j.oh.get e1).1,r,y,e1,e2,(j.oh.get e1).2⟩
  have ae:InR (n:Int) M.tp.length:=by rw [B.tl];exact T
  have pd:=paid (w:=O) Se.nd ae hk (fun k aw l hl e=>by
   obtain⟨_,r,y,e1,_⟩:=hk k aw;have h1:=(j.mat r k).mpr e1;have h2:=(j.mat r l).mpr (e ▸ e1);rw [h1] at h2;exact WaU h2) (fun k _ e=>by
   have:=(j.mat _ k).mpr e;rw [h0] at this;cases this)
  have pl:=zdn far M.hd O done (M.tp.set (n:Int).toNat (M.tp.getD (n:Int).toNat 0+O),M.vp);have X:∀ {a:Addr} {o:HO},H a=some o->a≠G/\a≠R/\a≠J:=fun e=>⟨fun z=>(by rw [z,aj] at e;cases e),fun z=>(by rw [z,a3] at e;cases e),fun z=>(by rw [z,U] at e;cases e)⟩
  refine⟨.ref m,rfl,.int n,rfl,.ref G,rfl,.int v,rfl,G,.int O,rfl,dg,.ref G,rfl,.ref J,rfl,m,n,O,G,J,M,far,done,rfl,M5,ae,f5,d5,hk,a9.tv,Y,(X I.dh).2.2.symm,fun H6 s6 t6 v6=>?_⟩
  generalize done.foldl (pay1 far M.hd O) (M.tp.set (n:Int).toNat (M.tp.getD (n:Int).toNat 0+O),M.vp)=fc at *;obtain⟨T',V'⟩:=fc;obtain⟨ah,ag⟩:=pl;have ah:T'.length=A':=by rw [show T'.length=_ from ah,YaN,B.tl]
  have ag:V'.length=B':=(show V'.length=_ from ag).trans B.vl
  obtain⟨wp,r0,ay⟩:=Se.way j T h0 an Z hv pd;obtain⟨av,af,wy⟩:=wp.way;have a8:∀ {b:Addr} {o:HO},H5 b=some o->(∀ f,o≠.ext f)->b≠M.aT->b≠M.aV->b≠J->H6 b=some o:=fun e nx e1 e2 e3=>s6.at ((z5 (by simp [e1,e2,e3])).trans e) nx
  have nT:∀ {b:Addr} {o:HO},H b=some o->(∀ l,o≠.lst l)->b≠M.aT/\b≠M.aV:=fun e nl=>⟨fun z=>by rw [z,I.lt] at e;exact nl _ (WaU e).symm,fun z=>by rw [z,I.lv] at e;exact nl _ (WaU e).symm⟩
  have nD:∀ {b:Addr} {o:HO},H b=some o->(∀ l,o≠.dK l)->b≠M.aK/\b≠M.aH:=fun e nl=>⟨fun z=>by rw [z,I.dk] at e;exact nl _ (WaU e).symm,fun z=>by rw [z,I.dh] at e;exact nl _ (WaU e).symm⟩
  have ab:H6 m=some (.ins C M.dx (mfs M)):=a8 M5.ins (by intro _ z;cases z) (nT I.ins (by intro _ z;cases z)).1 (nT I.ins (by intro _ z;cases z)).2 (X I.ins).2.2
  have k6:H6 M.aK=some (.dK (encM M.tk)):=a8 M5.dk (by intro _ z;cases z) (nT I.dk (by intro _ z;cases z)).1 (nT I.dk (by intro _ z;cases z)).2 (X I.dk).2.2
  have h6:H6 M.aH=some (.dK (encM M.hd)):=a8 M5.dh (by intro _ z;cases z) (nT I.dh (by intro _ z;cases z)).1 (nT I.dh (by intro _ z;cases z)).2 (X I.dh).2.2
  have c6:H6 R=some (.dK (encM came)):=a8 c5 (by intro _ z;cases z) (X I.lt).2.1.symm (X I.lv).2.1.symm a2.symm
  have aq:=nT I.dk (by intro _ z;cases z)
  have ar:=nT I.dh (by intro _ z;cases z)
  refine⟨.int v,rfl,.ref R,rfl,.ref m,rfl,m,C,M.dx,mfs M,.ref M.aK,rfl,ab,cl,n5,rfl,.ref m,rfl,m,C,M.dx,mfs M,.ref M.aH,rfl,ab,cl,n4,rfl,v,R,M.aK,M.aH,came,av,M.tk,M.hd,_,_,n,A',B',_,rfl,fun c s e=>((af c s).mp e).2,wy,
   ⟨j.still Se h0 pd,⟨fun s x _=>j.mat s x,fun s e=>by have:=(j.mat s v).mp e;rw [N] at this;cases this⟩,j.ot,j.oh,⟨r0,(af v r0).mpr ⟨.inr rfl,ay⟩,rfl⟩,fun _ _=>rfl,fun _=>Iff.rfl,fun _ z=>z⟩,#[94],hB,c6,k6,h6,(X I.dk).2.1.symm,(X I.dh).2.1.symm,a9.kh,fun t' h' H7 mv s7 k7 h7=>?_⟩
  have bn:∀ {a:Addr} {L:List Addr},H a=none->bar H L a=none:=fun {a L} e=>by unfold bar;split<;>first|rfl|exact e
  have ax:zi (bar H [M.aT,M.aV,M.aK,M.aH]) H6:=zi.via ((ZA _ _).x.trans s5) (fun a ha=>by
   rcases Wa5.mp ha with z|z
   . exact jJ (by rw [z];simp)
   . rcases Wa5.mp z with z|z
     . exact jJ (by rw [z];simp)
     . rw [Ya6.mp z];exact bn U) (fun a ha=>by
   rcases Wa5.mp ha with z|z
   . rw [z];exact⟨_,M5.lt,(by intro _ z;cases z)⟩
   . rcases Wa5.mp z with z|z
     . rw [z];exact⟨_,M5.lv,(by intro _ z;cases z)⟩
     . rw [Ya6.mp z];exact⟨_,d5,(by intro _ z;cases z)⟩) s6
  have sF:zi (bar H [M.aT,M.aV,M.aK,M.aH]) H7:=zi.via ax (fun a ha=>jJ (by
   rcases Wa5.mp ha with z|z
   . rw [z];simp
   . rw [Ya6.mp z];simp)) (fun a ha=>by
   rcases Wa5.mp ha with z|z
   . rw [z];exact⟨_,k6,(by intro _ z;cases z)⟩
   . rw [Ya6.mp z];exact⟨_,h6,(by intro _ z;cases z)⟩) s7
  have as:∀ {b:Addr} {o:HO},H b=some o->(∀ f,o≠.ext f)->b≠M.aT->b≠M.aV->b≠M.aK->b≠M.aH->H7 b=some o:=fun e nx e1 e2 e3 e4=>sF.at ((z5 (by simp [e1,e2,e3,e4])).trans e) nx
  have ai:∀ {b:Addr} {o:HO},H b=some o->(∀ f,o≠.ext f)->(∀ l,o≠.lst l)->(∀ l,o≠.dK l)->H7 b=some o:=fun e nx nl nd=>as e nx (nT e nl).1 (nT e nl).2 (nD e nd).1 (nD e nd).2
  refine q T' V' t' h' H7 ah ag (j.next Se Z hv (fun u hu y e=>W u y e hu) pd mv) sF ⟨?_,?_,?_,I.len,fun i d e=>?_,?_,?_,k7,h7⟩
  . exact ai I.ins (by intro _ z;cases z) (by intro _ z;cases z) (by intro _ z;cases z)
  . exact ai I.own (by intro _ z;cases z) (by intro _ z;cases z) (by intro _ z;cases z)
  . have:=nD I.lc (by intro _ z;cases z)
    exact as I.lc (by intro _ z;cases z) a9.ct a9.cv this.1 this.2
  . obtain⟨o,ho⟩:=I.dc i d e
    exact⟨o,ai ho (by intro _ z;cases z) (by intro _ z;cases z) (by intro _ z;cases z)⟩
  . exact s7.at ((z5 (by simp [aq.1.symm,ar.1.symm])).trans t6)
  . exact s7.at ((z5 (by simp [aq.2.symm,ar.2.symm])).trans v6)
noncomputable def cst1(V:List Win)(clan p:Int):Int:=if(V.getD p.toNat (0,0,0,none)).1=clan then 0 else 1
noncomputable def zT(V:List Win)(clan:Int)(pl:List Int):Tb:=pl.map fun p=>(p,cst1 V clan p)
noncomputable def csOf(V:List Win)(row:List Int)(ch:List (List Int)):List Tb:=List.zipWith (zT V) row ch
theorem zby{G:Hp}:∀ {xs:List V} {l:List Int},RdVs K G xs (l.map .int)->xs=l.map .int
 | [],[],_=>rfl
 | [],_::_,h=>by cases h
 | _::_,[],h=>by cases h
 | x :: xs, n :: l, h => by
  cases h with
  | cons a b=>cases a;rw [zby b];rfl
theorem ziB(h:getM t k=none):putM t k v=t++[(k,v)]:=by
 unfold putM;rw [if_neg];intro z;obtain⟨p,a,e⟩:=WaP.mp z;unfold getM at h;rw [Option.map_eq_none_iff,Wav] at h;exact h p a e
theorem zib{l:List Int}(c:l.Nodup)(g:j<l.length):l[j]∉l.take j:=fun a=>by
 obtain⟨k,b,e⟩:=Yam a;rw [List.getElem_take] at e;rw [WaM] at b;have:=(WaK c).mp e
 lia
def zdS(K:Ybf):Sp:=fun vs H Q E=>∃ (v c r:Addr) (G:Hp) (V:List Win) (ch:List (List Int)) (row:List Int),vs=[.ref v,.ref c,.ref r]/\Sub G H/\RdV K G (.ref v) (.list (V.map dW))/\RdV K G (.ref c) (.list (ch.map dI))/\RdV K G (.ref r) (dI row)/\row.length=ch.length/\ch.length<=60/\(∀ pl∈ch,pl.Nodup/\pl.length<=2000/\∀ x∈pl,InR x V.length)/\
 ∀ (aC:Addr) (dcs:List Addr) H',zi H H'->H aC=none->H' aC=some (.lst (dcs.map .ref))->dcs.length=ch.length->(∀ (i:Nat) d,dcs[i]?=some d->∃ o,H' d=some (.frz o (.dK (encM ((csOf V row ch).getD i [])))))->Q (.ref aC) H'
theorem zkX(hz:mg "zip" = none)(F:Fun K "costs_of_turns" "costs_of_turns" (top 47) f fd):FnOk P w K mg base (CXR P w) 1 f fd ["visits", "choices", "row"] (zdS K):=by
 have S:FnScope ["visits", "choices", "row", "found", "clan", "places", "costs", "place"] ["visits", "choices", "row"] (zh (top 47)):=⟨rfl,rfl,rfl,#[3],rfl,#[3],#[3]⟩
 refine F.okR S (fun vs H Q E h=>?_) (fun az A al s H vs Q E hr h=>?_)
 . obtain⟨_,_,_,_,_,_,_,rfl,_⟩:=h;rfl
 have hu:=z7 hr;refine⟨_,zN (jj (i:=3) S.nd rfl (.inl rfl) (zbB zK)) (zN (Zi WaF rfl (zci rfl hz (zn (pv 2) (zn (pv 1) zK))) (zce rfl (JZ (jn (i:=4) S.nd rfl (.inl rfl)) (JZ (jn (i:=5) S.nd rfl (.inl rfl)) zbT)))
  (zN (jj (i:=6) S.nd rfl (.inl rfl) JP) (zN (Zi WaF rfl (zbP (pv 5)) (jn (i:=7) S.nd rfl (.inl rfl))
   (jh (Jv hu (pv 6) (pv 7) (zfH (zbH zf5 (jH zbj (jH j8 (pv 0) (pv 7) (fun _ _=>rfl)) jP (fun _ _=>rfl)) (pv 4) (nomark _)) jP jP) rfl)))
   (jh (zc6 (jR (zdc (pv 3) (zn (pv 6) zK)))))))) (jh (JE (pv 3)))),?_⟩
 obtain⟨v,c,r,G,U,ch,row,rfl,sG,rv,rc,rr,hl,av,ai,q⟩:=h;obtain⟨xv,qv,ao⟩:∃ xs,SqL K G v xs/\RdVs K G xs (U.map dW):=by cases rv with|lst a b=>exact⟨_,a,b⟩
 obtain⟨xc,qc,rcs⟩:∃ xs,SqL K G c xs/\RdVs K G xs (ch.map dI):=by cases rc with|lst a b=>exact⟨_,a,b⟩
 obtain⟨xr,qr,rrs⟩:∃ xs,SqL K G r xs/\RdVs K G xs (row.map .int):=by cases rr with|lst a b=>exact⟨_,a,b⟩
 have rrs:=zby rrs;subst rrs;refine⟨Wbm _,fun I hC=>?_⟩
 have s1:=(zG hC (.lst [])).x;refine⟨.ref r,rfl,.ref c,rfl,r,c,rfl,⟨_,(sG.trans s1).seq qr⟩,⟨_,(sG.trans s1).seq qc⟩,fun i n Y L=>i<=ch.length/\n=ch.length - i/\(∃ t4 t5 t6 W,Y=[some (.ref v),some (.ref c),some (.ref r),some (.ref I),t4,t5,t6,W])/\zi H L/\∃ B:List Addr,L I=some (.lst (B.map .ref))/\B.length=i/\∀ (j:Nat) d,B[j]?=some d->∃ o,L d=some (.frz o (.dK (encM ((csOf U row ch).getD j [])))),
  ⟨_,Wbm _,rfl,⟨none,none,none,none,rfl⟩,s1,[],zf,rfl,fun j d e=>by simp at e⟩,?_⟩
 rintro i n Y L ⟨hi,rfl,⟨t4,t5,t6,W,rfl⟩,s',B,R,X,ag⟩
 have g':=sG.trans s'
 by_cases a0:i<ch.length
 . have a9:i<row.length:=#[94]
   obtain⟨y,hy,ry⟩:=rcs.get (i:=i) (d:=dI ch[i]) (by rw [Ya0,YaQ a0];rfl)
   obtain⟨pa,zs,rfl,qz,rz⟩:∃ pa zs,y=.ref pa/\SqL K G pa zs/\RdVs K G zs (ch[i].map .int):=by
    unfold dI at ry;cases ry with
    | lst a b=>exact⟨_,_,rfl,a,b⟩
   have rz:=zby rz;subst rz;have aa:(row.map V.int)[i]?=some (.int row[i]):=by rw [Ya0,YaQ a9];rfl
   obtain⟨nd,ay,am⟩:=ai _ (Ya4 a0);have ak:(csOf U row ch).getD i []=zT U row[i] ch[i]:=by
    unfold csOf;rw [YaP,List.getElem?_zipWith,YaQ a9,YaQ a0];rfl
   generalize ch[i]=l at *;generalize row[i]=clan at *;refine .inr ⟨⟨_,_,_,_,g'.seq qr,g'.seq qc,aa,hy⟩,fun Y L=>(∃ t4 t5 t6 W,Y=[some (.ref v),some (.ref c),some (.ref r),some (.ref I),t4,t5,t6,W])/\zi H L/\∃ B:List Addr,L I=some (.lst (B.map .ref))/\B.length=i+1/\∀ (j:Nat) d,B[j]?=some d->∃ o,L d=some (.frz o (.dK (encM ((csOf U row ch).getD j [])))),fun O H2 z=>⟨ch.length - (i+1),#[94],a0,rfl,z⟩,?_⟩
   rintro x H3 ⟨p,x',y',hp,rfl,rfl,hall⟩
   obtain⟨e1,e2⟩:=hall _ _ (g'.seq qr) (g'.seq qc);rw [aa] at e1;rw [hy] at e2;cases e1;cases e2;refine⟨p,[.int clan,.ref pa],rfl,SqT.of zf,rfl,_,_,rfl,_,_,rfl,rfl,?_⟩;refine fun u a1=>?_
   have as:u≠p:=(fun z=>by rw [z,zf] at a1;cases a1)
   have N:L u=none:=by rwa [zc as] at a1
   have s4:=s'.trans ((zG hp (.tup [.int clan,.ref pa])).trans (zG a1 (.dK []))).x;have u4:∀ b o,L b=some o->upd (upd L p (.tup [.int clan,.ref pa])) u (.dK []) b=some o:=fun b o e=>by
    rw [zc (fun z=>by rw [z,N] at e;cases e),zc (fun z=>by rw [z,hp] at e;cases e)];exact e
   have hd4:upd (upd L p (.tup [.int clan,.ref pa])) u (.dK [])=upd (upd L p (.tup [.int clan,.ref pa])) u (.dK (encM (zT U clan []))):=rfl;have n0:H u=none:=s'.free N;have a5:I≠u:=(fun z=>by rw [z,N] at R;cases R)
   generalize hH4:upd (upd L p (.tup [.int clan,.ref pa])) u (.dK [])=H4 at *;have h4:H4 u=some (.dK []):=by rw [<-hH4];exact zf
   have sU:∀ o,zi H (upd H4 u o):=fun o=>s4.chg n0 h4 (by intro _ z;cases z)
   refine⟨.ref pa,rfl,pa,rfl,⟨_,(sG.trans s4).seq qz⟩,fun j m O H2=>j<=l.length/\m=l.length - j/\(∃ W,O=[some (.ref v),some (.ref c),some (.ref r),some (.ref I),some (.int clan),some (.ref pa),some (.ref u),W])/\H2=upd H4 u (.dK (encM (zT U clan (l.take j)))),
    ⟨_,Wbm _,rfl,⟨_,rfl⟩,by rw [<-hH4,Zw];rfl⟩,?_⟩
   rintro j m O H2 ⟨hj,rfl,⟨ax,rfl⟩,rfl⟩
   have g2:=sG.trans (sU (.dK (encM (zT U clan (l.take j)))))
   by_cases J:j<l.length
   . have a6:(l.map V.int)[j]?=some (.int l[j]):=by rw [Ya0,YaQ J];rfl
     refine .inr ⟨⟨_,_,g2.seq qz,a6⟩,fun O H2=>(∃ W,O=[some (.ref v),some (.ref c),some (.ref r),some (.ref I),some (.int clan),some (.ref pa),some (.ref u),W])/\H2=upd H4 u (.dK (encM (zT U clan (l.take (j+1))))),fun O H2 z=>⟨l.length - (j+1),#[94],J,rfl,z⟩,?_⟩
     rintro x H5 ⟨e5,hall⟩
     have e5:=e5.symm;subst e5;have e:=hall _ (g2.seq qz);rw [a6] at e;cases e;have a8:=am _ (Ya4 J);have htk:l.take (j+1)=l.take j++[l[j]]:=by rw [WaG,YaQ J];rfl
     have ad:getM (zT U clan (l.take j)) l[j]=none:=by
      cases e:getM (zT U clan (l.take j)) l[j] with
      | none=>rfl
      | some z=>
       have:=ZN (t:=zT U clan (l.take j)) (k:=l[j]) (by rw [e];rfl)
       unfold zT at this;rw [YaD] at this;obtain⟨k,hk,ek⟩:=Ya7.mp this;have ek:k=l[j]:=ek;exact absurd (ek ▸ hk) (zib nd J)
     have ac:(zT U clan (l.take j)).length<sizeLine:=by
      unfold zT;rw [YaR,WaM];exact War (show _<=2000 by lia) #[1]
     have ah:putM (zT U clan (l.take j)) l[j] (cst1 U clan l[j])=zT U clan (l.take (j+1)):=by
      rw [ziB ad,htk];unfold zT;rw [Ya2];rfl
     have au:(U.map dW)[l[j].toNat]?=some (dW (U.getD l[j].toNat (0,0,0,none))):=by
      obtain⟨i0,i1⟩:=a8;rw [Ya0,YaP,YaQ (show l[j].toNat<U.length by lia)];rfl
     have a2:cst1 U clan l[j]=if(U.getD l[j].toNat (0,0,0,none)).1=clan then 0 else 1:=rfl
     generalize l[j]=k at *;generalize U.getD k.toNat (0,0,0,none)=wn at *;obtain⟨wv,ap,rw'⟩:=ao.get au;obtain⟨wa,ws,rfl,qw,aq⟩:∃ wa ws,wv=.ref wa/\SqT K G wa ws/\RdVs K G ws [.int wn.1,.int wn.2.1,.int wn.2.2.1,dO wn.2.2.2]:=by
      unfold dW at rw';cases rw' with
      | tup a b=>exact⟨_,_,rfl,a,b⟩
     obtain⟨ae,rfl⟩:∃ ae,ws=.int wn.1::ae:=by
      cases aq with
      | cons a b=>cases a;exact⟨_,rfl⟩
     have hat:atI xv k=some (.ref wa):=by
      have:=jb (xs:=xv) (j:=k.toNat) (v:=.ref wa) ap;rwa [show((k.toNat:Nat):Int)=k from Waq a8.1] at this
     refine⟨.ref v,rfl,.int k,rfl,v,xv,k,.ref wa,rfl,rfl,g2.seq qv,hat,wa,_,0,.int wn.1,rfl,rfl,g2.tup qw,jb (j:=0) rfl,.int clan,rfl,rfl,_,rfl,?_⟩
     have go:∀ x,x=cst1 U clan k->∃ y,([some (V.ref v),some (.ref c),some (.ref r),some (.ref I),some (.int clan),some (.ref pa),some (.ref u),some (.int k)]:L2.St)[6]?=some (some y)/\∃ z,([some (V.ref v),some (.ref c),some (.ref r),some (.ref I),some (.int clan),some (.ref pa),some (.ref u),some (.int k)]:L2.St)[7]?=some (some z)/\∃ a H6,y=.ref a/\DPut (upd H4 u (.dK (encM (zT U clan (l.take j))))) a z (.int x) H6/\(∃ W,([some (V.ref v),some (.ref c),some (.ref r),some (.ref I),some (.int clan),some (.ref pa),some (.ref u),some (.int k)]:L2.St)=[some (.ref v),some (.ref c),some (.ref r),some (.ref I),some (.int clan),some (.ref pa),some (.ref u),W])/\H6=upd H4 u (.dK (encM (zT U clan (l.take (j+1))))):=fun x hx=>
      ⟨.ref u,rfl,.int k,rfl,u,_,rfl,DPut.k (k:=Sum.inl k) zf (by rw [Zj];exact ac),⟨_,rfl⟩,by rw [ZB,Zw,hx,ah]⟩
     show if decide (V.int wn.1=V.int clan)=true then _ else _
     by_cases hcl:wn.1=clan
     . rw [if_pos (by rw [hcl];exact decide_eq_true rfl)]
       exact go 0 (by rw [a2,if_pos hcl])
     . rw [if_neg (fun z=>hcl (by have z:=of_decide_eq_true z;cases z;rfl))]
       exact go 1 (by rw [a2,if_neg hcl])
   . have e:j=l.length:=#[94]
     subst e;rw [YaH] at g2 ⊢;refine .inl ⟨⟨_,g2.seq qz,by rw [YaR];exact YaY _⟩,u,_,zf,fun o=>?_⟩
     rw [Zw];have a4:upd H4 u (.frz o (.dK (encM (zT U clan l)))) I=some (.lst (B.map .ref)):=(zc a5).trans (u4 _ _ R);refine⟨.ref I,rfl,.inl ⟨rfl,_,SqL.of a4⟩,.ref u,rfl,I,_,.ref u,rfl,rfl,a4,by rw [YaR,X];exact War (show _<=60 by lia) #[1],⟨_,_,_,_,rfl⟩,(sU _).chg hC a4 (by intro _ z;cases z),B++[u],by rw [zf,Ya2];rfl,by rw [YaS,X];rfl,fun j d e=>?_⟩
     by_cases J:j<B.length
     . rw [Yab J] at e
       obtain⟨o',ho⟩:=ag j d e;refine⟨o',?_⟩;rw [zc (fun z=>by rw [z,R] at ho;cases ho),zc (fun z=>by rw [z,N] at ho;cases ho)]
       exact u4 _ _ ho
     . have hj':j=i:=by
        have:=(Ya8.mp e).1;rw [YaS,List.length_singleton] at this
        lia
       subst hj';rw [<-X,Yae (YaY _),Wbi] at e;have e:u=d:=WaU e;subst e;rw [ak];exact⟨o,by rw [zc a5.symm];exact zf⟩
 . have e:i=ch.length:=#[94]
   subst e;have lx:xc.length=ch.length:=by rw [rcs.length,YaR]
   exact .inl ⟨⟨_,_,g'.seq qr,g'.seq qc,by rw [YaR,lx,hl,Nat.min_self]⟩,.ref I,rfl,q I B L s' hC R X ag⟩
noncomputable def zZ(n:Int)(wn:Win):Int:=if wn.2.2.2=none then 0 else n+1
def zcg(K:Ybf):Sp:=fun vs H Q E=>∃ (wa:Addr) (n:Int) (G:Hp) (wn:Win),vs=[.ref wa,.int n]/\Sub G H/\RdV K G (.ref wa) (dW wn)/\Q (.int (zZ n wn)) H
theorem zjd(F:Fun K "first_price" "first_price" (top 48) f fd):FnOk P w K mg base (CXR P w) 1 f fd ["visit", "turns"] (zcg K):=by
 have S:FnScope ["visit", "turns"] ["visit", "turns"] (zh (top 48)):=⟨rfl,rfl,rfl,#[3],rfl,#[3],#[3]⟩
 refine F.okR S (fun l H Q E h=>?_) (fun j A g s H l Q E C h=>?_)
 . obtain⟨_,_,_,_,rfl,_⟩:=h;rfl
 refine⟨_,jh (JE (zfH (Zx (zhi (jH zbj (pv 0) jP (fun _ _=>rfl)))) jP (Jy zc5 (pv 1) jP))),?_⟩
 obtain⟨p,n,G,v,rfl,y,r,q⟩:=h;obtain⟨c,a,b,o⟩:=v;cases r with
 | tup u e=>
  cases e with
  | cons B e=>
   cases e with
   | cons z e=>
    cases e with
    | cons I e=>
     cases e with
     | @cons m _ _ _ i e=>
      refine⟨_,rfl,p,_,3,m,rfl,rfl,y.tup u,jb rfl,_,rfl,?_⟩
      cases o with
      | none=>
       cases i;exact q
      | some k=>
       cases i;exact⟨.int n,rfl,n,1,rfl,rfl,q⟩
def zbu(K:Ybf):List V->Hp->VK->Prop:=fun xs H Q=>∃ p ys,xs=[V.ref p]/\(SqL K H p ys\/SqT K H p ys)/\Q (V.int ys.length) H
def zei(K:Ybf)(C:Addr):Sp:=fun vs H Q E=>∃ (m dx v aC:Addr) (G:Hp) (U:List Win) (dcs:List Addr),vs=[.ref m,.ref v,.ref aC]/\H m=some (.ins C dx [])/\Sub G (bar H [m])/\RdV K G (.ref v) (.list (U.map dW))/\H aC=some (.lst (dcs.map .ref))/\dcs.length<=60/\U.length<=2000/\
 ∀ (aT aV aK aH:Addr) H',zi (bar H [m]) H'->H aT=none->H aV=none->H aK=none->H aH=none->aT≠aV->aK≠aH->
  H' m=some (.ins C dx [("costs", .ref aC),("turn_prices", .ref aT),("visit_prices", .ref aV),("taken", .ref aK),("holders", .ref aH)])->
  H' aT=some (.lst ((List.replicate dcs.length (0:Int)).map .int))->H' aV=some (.lst ((U.map (zZ dcs.length)).map .int))->H' aK=some (.dK [])->H' aH=some (.dK [])->Q .non H'
theorem zlX(W:Cls K C)(n1:zQ K C "costs")(n2:zQ K C "turn_prices")(n3:zQ K C "visit_prices")(n5:zQ K C "taken")(n4:zQ K C "holders")(a6:mg "len" = none)(GF:Df P w K mg base 1 "first_price" ["visit", "turns"] (zcg K))(F:Fun K "__init__" "Market.__init__" Jm f fd):FnOk P w K mg base (CXR P w) 2 f fd ["self", "visits", "costs"] (zei K C):=by
 have S:FnScope ["self", "visits", "costs"] ["self", "visits", "costs"] (zh Jm):=⟨rfl,rfl,rfl,#[3],rfl,#[3],#[3]⟩
 refine F.okR S (fun vs H Q E h=>?_) (fun ai A ab s H vs Q E hr h=>?_)
 . obtain⟨_,_,_,_,_,_,_,rfl,_⟩:=h;rfl
 refine⟨_,zN (ZF (pv 0) (pv 2) rfl) (zN (ZF (pv 0) (zaL ["turn"] [] [] rfl (zX (osc:=zh Jm) #[3]) rfl (zbP (pv 2)) (fun s H fp W=>⟨jn (i:=0) (show((["turn"]:List PySem.Str)++([]:List PySem.Str)).Nodup by decide) rfl (.inl rfl),zaR,jP⟩)) rfl)
  (zN (ZF (pv 0) (zaL ["visit"] ["costs"] [2] rfl (zX (osc:=zh Jm) #[3]) rfl (zbP (pv 1)) (fun s H fp W=>⟨jn (i:=0) (show((["visit"]:List PySem.Str)++(["costs"]:List PySem.Str)).Nodup by decide) rfl (.inl rfl),zaR,jE GF hr rfl jI (zn (pv 0) (zn (JR (r:=zbu K) ZT rfl a6 zv (zn (pv 1) zK)) zK))⟩)) rfl)
   (zN (ZF (pv 0) JP rfl) (jh (ZF (pv 0) JP rfl))))),?_⟩
 obtain⟨m,n,v,g,G,U,c,rfl,hm,sG,rv,hC,ah,aj,q⟩:=h;obtain⟨xv,qv,a5⟩:∃ xs,SqL K G v xs/\RdVs K G xs (U.map dW):=by cases rv with|lst a b=>exact⟨_,a,b⟩
 have bm:bar H [m] m=none:=jJ (by simp)
 have a4:g≠m:=(fun z=>by rw [z,hm] at hC;cases hC)
 have sL:=(ZA H [m]).x;have nx:∀ {o:HO},(∀ l,o≠.ext l)->∀ f,o≠.ext f:=fun h=>h
 refine⟨.ref g,rfl,.ref m,rfl,m,C,n,[],rfl,hm,W,n1,by simp,?_⟩
 have s1:=sL.chg (o:=.ins C n (putF "costs" (.ref g) [])) bm hm (by intro _ z;cases z)
 have m1:upd H m (.ins C n (putF "costs" (.ref g) [])) m=some (.ins C n [("costs", .ref g)]):=zf;have c1:upd H m (.ins C n (putF "costs" (.ref g) [])) g=some (.lst (c.map .ref)):=(zc a4).trans hC;have f1:∀ b,upd H m (.ins C n (putF "costs" (.ref g) [])) b=none->H b=none:=fun b e=>by
  by_cases z:b=m
  . rw [z,zf] at e;cases e
  . rwa [zc z] at e
 generalize upd H m (.ins C n (putF "costs" (.ref g) []))=H1 at *;refine⟨.ref g,rfl,g,rfl,⟨_,SqL.of c1⟩,fun j hT=>⟨fun i k ys I M=>i<=c.length/\k=c.length - i/\(∃ t0,I=[t0])/\ys=(List.replicate i (0:Int)).map .int/\M=upd H1 j (.lst ys),⟨_,Wbm _,rfl,⟨none,rfl⟩,rfl,rfl⟩,?_⟩⟩
 rintro i k ys I M ⟨hi,rfl,⟨t0,rfl⟩,rfl,rfl⟩
 have ag:g≠j:=(fun z=>by rw [z,hT] at c1;cases c1)
 have L:m≠j:=(fun z=>by rw [z,hT] at m1;cases m1)
 have c2:∀ o,upd H1 j o g=some (.lst (c.map .ref)):=fun o=>(zc ag).trans c1
 by_cases u:i<c.length
 . refine .inr ⟨⟨_,.ref c[i],SqL.of (c2 _),by rw [Ya0,YaQ u];rfl⟩,?_⟩
   rintro x R ⟨Z,_⟩
   have Z:=Z.symm;subst Z;have e:(List.replicate i (0:Int)).map V.int++[.int 0]=(List.replicate (i+1) (0:Int)).map V.int:=by rw [List.replicate_succ',Ya2];rfl
   refine⟨zf,by rw [YaR,Ybb];exact War (show _<=60 by omega) #[1],c.length - (i+1),#[0],u,rfl,⟨_,rfl⟩,e,Zw⟩
 have e:i=c.length:=#[0]
 subst e;clear hi u;refine .inl ⟨⟨_,SqL.of (c2 _),by rw [YaR];exact YaY _⟩,?_⟩
 have ae:=f1 _ hT;have s2:=s1.trans (zG hT (.lst ((List.replicate c.length (0:Int)).map .int))).x;have m2:upd H1 j (.lst ((List.replicate c.length (0:Int)).map .int)) m=some (.ins C n [("costs", .ref g)]):=(zc L).trans m1;have t2:upd H1 j (.lst ((List.replicate c.length (0:Int)).map .int)) j=some (.lst ((List.replicate c.length (0:Int)).map .int)):=zf;have c2:=c2 (.lst ((List.replicate c.length (0:Int)).map .int))
 have f2:∀ b,upd H1 j (.lst ((List.replicate c.length (0:Int)).map .int)) b=none->H b=none:=fun b e=>by
  by_cases z:b=j
  . rw [z,zf] at e;cases e
  . rw [zc z] at e;exact f1 b e
 generalize upd H1 j (.lst ((List.replicate c.length (0:Int)).map .int))=M at *;refine⟨.ref m,rfl,m,C,n,_,rfl,m2,W,n2,by simp,?_⟩
 have s3:=s2.chg (o:=.ins C n [("costs", .ref g),("turn_prices", .ref j)]) bm m2 (by intro _ z;cases z)
 show tSeq _ _ _ _ (upd M m (.ins C n [("costs", .ref g),("turn_prices", .ref j)]))
 have m3:upd M m (.ins C n [("costs", .ref g),("turn_prices", .ref j)]) m=some (.ins C n [("costs", .ref g),("turn_prices", .ref j)]):=zf;have c3:upd M m (.ins C n [("costs", .ref g),("turn_prices", .ref j)]) g=some (.lst (c.map .ref)):=(zc a4).trans c2;have t3:upd M m (.ins C n [("costs", .ref g),("turn_prices", .ref j)]) j=some (.lst ((List.replicate c.length (0:Int)).map .int)):=(zc L.symm).trans t2
 have f3:∀ b,upd M m (.ins C n [("costs", .ref g),("turn_prices", .ref j)]) b=none->H b=none:=fun b e=>by
  by_cases z:b=m
  . rw [z,zf] at e;cases e
  . rw [zc z] at e;exact f2 b e
 generalize upd M m (.ins C n [("costs", .ref g),("turn_prices", .ref j)])=R at *;refine⟨.ref v,rfl,v,rfl,⟨_,(sG.trans s3).seq qv⟩,fun p hV=>⟨fun i k ys I H4=>i<=U.length/\k=U.length - i/\(∃ t0,I=[t0,some (.ref g)])/\ys=((U.take i).map (zZ c.length)).map .int/\H4=upd R p (.lst ys),⟨_,Wbm _,rfl,⟨none,rfl⟩,rfl,rfl⟩,?_⟩⟩
 rintro i k ys I H4 ⟨hi,rfl,⟨t0,rfl⟩,rfl,rfl⟩
 have af:g≠p:=(fun z=>by rw [z,hV] at c3;cases c3)
 have N:m≠p:=(fun z=>by rw [z,hV] at m3;cases m3)
 have a2:j≠p:=(fun z=>by rw [z,hV] at t3;cases t3)
 have Y:∀ o,zi (bar H [m]) (upd R p o):=fun o=>s3.trans (zG hV o).x
 have lx:xv.length=U.length:=by rw [a5.length,YaR]
 by_cases u:i<U.length
 . obtain⟨y,hy,ry⟩:=a5.get (i:=i) (d:=dW U[i]) (by rw [Ya0,YaQ u];rfl)
   obtain⟨wa,rfl⟩:∃ wa,y=.ref wa:=by
    have r2:=ry;unfold dW at r2;cases r2 with
    | tup a b=>exact⟨_,rfl⟩
   refine .inr ⟨⟨_,_,(sG.trans (Y _)).seq qv,hy⟩,?_⟩
   rintro x H5 ⟨Z,a3⟩
   have Z:=Z.symm;subst Z;have e:=a3 _ ((sG.trans (Y _)).seq qv);rw [hy] at e;cases e;have aa:((U.take i).map (zZ c.length)).map V.int++[.int (zZ c.length U[i])]=((U.take (i+1)).map (zZ c.length)).map V.int:=by rw [WaG,YaQ u,Ya2,Ya2];rfl
   refine⟨.ref wa,rfl,.ref g,rfl,g,_,rfl,.inl (SqL.of ((zc af).trans c3)),wa,_,G,U[i],rfl,sG.trans (Y _),ry,?_⟩
   rw [show(c.map V.ref).length=c.length from YaR ..]
   refine⟨zf,?_,U.length - (i+1),#[0],u,rfl,⟨_,rfl⟩,aa,Zw⟩
   rw [YaR,YaR,WaM];exact War (show _<=2000 by omega) #[1]
 have e:i=U.length:=#[0]
 subst e;clear hi u;rw [YaH];refine .inl ⟨⟨_,(sG.trans (Y _)).seq qv,by rw [lx];exact YaY _⟩,?_⟩
 have ad:=f3 _ hV;have Y:=Y (.lst ((U.map (zZ c.length)).map .int));have m4:upd R p (.lst ((U.map (zZ c.length)).map .int)) m=some (.ins C n [("costs", .ref g),("turn_prices", .ref j)]):=(zc N).trans m3;have t4:upd R p (.lst ((U.map (zZ c.length)).map .int)) j=some (.lst ((List.replicate c.length (0:Int)).map .int)):=(zc a2).trans t3;have v4:upd R p (.lst ((U.map (zZ c.length)).map .int)) p=some (.lst ((U.map (zZ c.length)).map .int)):=zf
 have f4:∀ b,upd R p (.lst ((U.map (zZ c.length)).map .int)) b=none->H b=none:=fun b e=>by
  by_cases z:b=p
  . rw [z,zf] at e;cases e
  . rw [zc z] at e;exact f3 b e
 generalize upd R p (.lst ((U.map (zZ c.length)).map .int))=H4 at *;refine⟨.ref m,rfl,m,C,n,_,rfl,m4,W,n3,by simp,fun O hK=>⟨.ref m,rfl,m,C,n,[("costs", .ref g),("turn_prices", .ref j),("visit_prices", .ref p)],rfl,?_,W,n5,by simp,fun X hH=>⟨.ref m,rfl,m,C,n,[("costs", .ref g),("turn_prices", .ref j),("visit_prices", .ref p),("taken", .ref O)],rfl,?_,W,n4,by simp,?_⟩⟩⟩
 all_goals
  have B:O≠m:=(fun z=>by rw [z,zf] at hK;cases hK)
  have T:H4 O=none:=by rwa [zc B] at hK
 . exact(zc B.symm).trans zf
 all_goals
  have J:X≠m:=(fun z=>by rw [z,zf] at hH;cases hH)
  have a0:X≠O:=fun z=>by rw [z,zc B,zf] at hH;cases hH
  have a1:H4 X=none:=by rwa [zc J,zc a0,zc J] at hH
 . exact(zc J.symm).trans zf
 have a8:j≠O:=(fun z=>by rw [z,T] at t4;cases t4)
 have a9:j≠X:=(fun z=>by rw [z,a1] at t4;cases t4)
 have ac:p≠O:=(fun z=>by rw [z,T] at v4;cases v4)
 have a7:p≠X:=(fun z=>by rw [z,a1] at v4;cases v4)
 have s5:=Y.chg (o:=.ins C n (putF "visit_prices" (.ref p) [("costs", .ref g),("turn_prices", .ref j)])) bm m4 (by intro _ z;cases z)
 have s6:=s5.trans (zG hK (.dK [])).x;have s7:=s6.chg (o:=.ins C n (putF "taken" (.ref O) [("costs", .ref g),("turn_prices", .ref j),("visit_prices", .ref p)])) bm ((zc B.symm).trans zf) (by intro _ z;cases z)
 have s8:=s7.trans (zG hH (.dK [])).x;have s9:=s8.chg (o:=.ins C n (putF "holders" (.ref X) [("costs", .ref g),("turn_prices", .ref j),("visit_prices", .ref p),("taken", .ref O)])) bm ((zc J.symm).trans zf) (by intro _ z;cases z)
 refine q j p O X _ s9 ae ad (f4 _ T) (f4 _ a1) a2 a0.symm zf ?_ ?_ ?_ ?_
 . rw [zc L.symm,zc a9,zc L.symm,zc a8,zc L.symm];exact t4
 . rw [zc N.symm,zc a7,zc N.symm,zc ac,zc N.symm];exact v4
 . rw [zc B,zc a0.symm,zc B,zf]
 . rw [zc J,zf]
noncomputable def Mk0(cs:List Tb):MkD:=⟨0,0,0,0,0,0,[],cs,[],[],[],[]⟩
noncomputable def zR(U:List Win)(tk:Tb)(A:Nat):List Int:=(List.range A).map fun i:Nat=>(U.getD ((getM tk (i:Int)).getD 0).toNat (0,0,0,none)).1
noncomputable def zC(new row:List Int):List Int:=((new.zip row).filter fun p=>!decide (p.1=p.2)).map (·.1)
def Ze:Sp3:=fun ds Q E=>∃ (U:List Win) (ch:List (List Int)) (row:List Int) (f:Int->Int),ds=[.list (U.map dW),.list (ch.map dI),dI row]/\row.length=ch.length/\ch.length<=60/\U.length<=2000/\(∀ pl∈ch,pl.Nodup/\pl.length<=2000/\∀ x∈pl,InR x U.length)/\(∀ x,InR x ch.length->f x∈ch.getD x.toNat [])/\(∀ x y,InR x ch.length->InR y ch.length->f x=f y->x=y)/\
 ∀ (tk hd:Tb) (tp vp:List Int),tp.length=ch.length->vp.length=U.length->Mend (ChM (Mk0 (csOf U row ch))) (cM (Mk0 (csOf U row ch))) (at0 (U.map (zZ ch.length))) ch.length U.length ch.length (at0 tp) (at0 vp) tk hd->
  Q true (.tuple [.str "row", dI (zR U tk ch.length),.int (zC (zR U tk ch.length) row).length,dI tp,dI vp])
theorem ziR{ta:TE}(K)(a:PE X e ta)(c:attributeBase e f X.env (eval e X.env)=eval e X.env)(b:X.K=K:=by rfl):PE X (.Attribute e f pos) (tFld K ta f):=b ▸ jG a c
theorem ziG{X:Cx}{es:List Expr}{pos:Pos}(K)(n)(c:X.calm=true)(h:PGs X es t)(b:(assignEach es X.env).length=n:=by rfl)(a:(assignEach es X.env).findIdx? (·.1)=none:=by rfl)(e:X.K=K:=by rfl):PG X (.Tuple es k pos) (gTup K n t):=e ▸ zce c h b a
theorem zb9(h:row.length=ch.length):(csOf U row ch).length=ch.length:=by unfold csOf;simp_all
theorem zae(h:row.length=ch.length)(a:i<ch.length):(csOf U row ch).getD i []=zT U (row.getD i 0) (ch.getD i []):=by
 unfold csOf
 simp_all
theorem zfl(h:row.length=ch.length)(c:its∈csOf U row ch):∃ pl∈ch,its.map (·.1)=pl:=by
 obtain⟨i,b,e⟩:=Yam c;rw [zb9 h] at b;have a:(csOf U row ch).getD i []=its:=by simp_all
 rw [zae h b] at a;refine⟨ch.getD i [],by simp_all,?_⟩
 rw [<-a];unfold zT;rw [YaD];exact List.map_id' _
theorem Mend.zero0{l:List Int}:Mend Ch c (at0 l) A B 0 (at0 (List.replicate n 0)) (at0 l) [] [] where
 mat:=fun s c=>⟨fun e=>(by cases e),fun e=>(by cases e)⟩
 ot:=TbOk.nil _ _
 oh:=TbOk.nil _ _
 dom:=fun x=>⟨fun e=>(by cases e),fun e=>#[94]⟩
 ed:=fun x v e=>by cases e
 low:=fun x v h1 h2=>by lia
 free:=fun _ _=>rfl
 zero:=fun x _=>by
  unfold at0
  split
  . rw [YaP,Yad];split<;>rfl
  . rfl
 top:=fun _=>Wbn _
theorem zbr{K:Ybf}{H0 G:Hp}:∀ {l:List Int},RdNs K H0 G (l.map .int) (l.map .int)
 | []=>.nil
 | n::l=>.cons (.int n) zbr
theorem zjl(cl:Cls K C)(n2:zQ K C "turn_prices")(n3:zQ K C "visit_prices")(n5:zQ K C "taken")(hlen:mg "len" = none)(am:mg "range" = none)(hz:mg "zip" = none)(hC:mg "Market" = some (.ref C))(MK:Mk K C fi)(FI:FnOk P w K mg base (CXR P w) 2 fi fdi ["self", "visits", "costs"] (zei K C))(BI:Binds K fdi ["self", "visits", "costs"] [])
 (GC:Df P w K mg base 1 "costs_of_turns" ["visits", "choices", "row"] (zdS K)) (GS:Df P w K mg base 5 "serve" ["market", "start"] (zcW C tb))
   (F:Fun K "mend_visits" "mend_visits" ZK f fd):FnOk P w K mg base (CXR P w) 6 f fd ["visits", "choices", "row"] (spU tb K Ze):=by
 have S:FnScope ["visits", "choices", "row", "market", "turn", "new", "changes"] ["visits", "choices", "row"] (zh ZK):=⟨rfl,rfl,rfl,#[3],rfl,#[3],#[3]⟩
 refine F.okR S (fun vs H Q E h=>?_) (fun c1 A bg s H vs Q E hr h=>?_)
 . obtain⟨_,_,_,_,r,_,_,_,_,rfl,_⟩:=h;exact r.length
 have hu:=z7 hr;refine⟨_,zN (jj (i:=3) S.nd rfl (.inr rfl) (zlo MK FI (hr.mono #[1]) rfl hC BI .nil jI (zn (pv 0) (zn (jE GC (hr.mono #[1]) rfl jI (zn (pv 0) (zn (pv 1) (zn (pv 2) zK)))) zK))))
  (zN (Zi WaF rfl (zcF rfl am (zn (JR (r:=zbu K) ZT rfl hlen zv (zn (pv 2) zK)) zK)) (jn (i:=4) S.nd rfl (.inl rfl)) (jh (jR (jE GS (hr.mono #[1]) rfl jI (zn (pv 3) (zn (pv 4) zK))))))
  (zN (by exact zb3 (i:=5) S.nd rfl (.inl rfl) ["turn"] ["visits", "market"] [0,3] rfl (zX (osc:=zh ZK) #[3]) rfl (zcF rfl am (zn (JR (r:=zbu K) ZT rfl hlen zv (zn (pv 2) zK)) zK)) (fun s H fp cl=>⟨jn (i:=0) (show((["turn"]:List PySem.Str)++(["visits", "market"]:List PySem.Str)).Nodup by decide) rfl (.inl rfl),zaR,jH (r:=rIxT K) zbj (jH (r:=rIxL K) j8 (pv 1) (jX hu (ziR K (pv 2) rfl) (pv 0) (fun _ _=>rfl)) (fun _ _=>rfl)) jP (fun _ _=>rfl)⟩))
  (zN (jj (i:=6) S.nd rfl (.inl rfl) (JR (r:=zbu K) ZT rfl hlen zv (zn (by exact zaL ["clan", "former"] [] [] rfl (zX (osc:=zh ZK) #[3]) rfl (zci rfl hz (zn (pv 5) (zn (pv 2) zK))) (fun s H fp cl=>⟨ziG K 2 rfl (JZ (jn (i:=0) (show((["clan", "former"]:List PySem.Str)++([]:List PySem.Str)).Nodup by decide) rfl (.inl rfl)) (JZ (jn (i:=1) (show((["clan", "former"]:List PySem.Str)++([]:List PySem.Str)).Nodup by decide) rfl (.inl rfl)) zbT)),zc0 (zbH zfd (pv 0) (pv 1) (nomark _)),pv 0⟩)) zK)))
   (jh (JE (zbY (zn zgl (zn (pv 5) (zn (pv 6) (zn (jG (pv 3) rfl) (zn (jG (pv 3) rfl) zK))))))))))),?_⟩
 obtain⟨tu,G,ds,sG,rds,U,n,row,g,rfl,hl,ak,as,hpl,hg,ax,q⟩:=h;obtain⟨v,c,r,rfl,rv,rc,rr⟩:∃ v c r,vs=[.ref v,.ref c,.ref r]/\RdV K G (.ref v) (.list (U.map dW))/\RdV K G (.ref c) (.list (n.map dI))/\RdV K G (.ref r) (dI row):=by
  cases rds with
  | cons a rds=>
   cases rds with
   | cons b rds=>
    cases rds with
    | cons d rds=>
     cases rds;have a2:=a
     have b2:=b;have d2:=d;unfold dI at d2;cases a2 with
     | lst _ _=>
      cases b2 with
      | lst _ _=>
       cases d2 with
       | lst _ _=>exact⟨_,_,_,rfl,a,b,d⟩
 obtain⟨xv,qv,rvs⟩:∃ xs,SqL K G v xs/\RdVs K G xs (U.map dW):=by cases rv with|lst a b=>exact⟨_,a,b⟩
 obtain⟨xr,qr,ae⟩:∃ xs,SqL K G r xs/\RdVs K G xs (row.map .int):=by cases rr with|lst a b=>exact⟨_,a,b⟩
 have ae:=zby ae;subst ae;refine⟨.ref v,rfl,.ref v,rfl,.ref c,rfl,.ref r,rfl,v,c,r,G,U,n,row,rfl,sG,rv,rc,rr,hl,ak,hpl,fun aC O H1 s1 c2 hC1 hdl bw m M ag a6 ndx=>?_⟩
 have g1:=sG.trans s1;have up:∀ b o,H1 b=some o->bar (upd (upd H1 M (.own m)) m (.ins C M [])) [m] b=some o:=fun b o e=>by
  have nm:b≠m:=(fun z=>by rw [z,ag] at e;cases e)
  rw [z5 (by simp [nm]),zc nm,zc (fun z=>by rw [z,a6] at e;cases e)];exact e
 have bt:aC≠m:=(fun z=>by rw [z,ag] at hC1;cases hC1)
 have nCd:aC≠M:=(fun z=>by rw [z,a6] at hC1;cases hC1)
 have C1:upd (upd H1 M (.own m)) m (.ins C M []) aC=some (.lst (O.map .ref)):=by rw [zc bt,zc nCd];exact hC1
 have aa:∀ b,upd (upd H1 M (.own m)) m (.ins C M []) b=none->H1 b=none:=fun b e=>by
  by_cases z:b=m
  . rw [z];exact ag
  . rw [zc z] at e
    by_cases y:b=M
    . rw [y];exact a6
    . rwa [zc y] at e
 refine⟨m,M,v,aC,G,U,O,rfl,zf,⟨fun b o e=>up b o (g1.s b o e),g1.cl⟩,rv,C1,#[0],as,fun aT u aK aH H2 s2 ao b4 hK0 bi bb bp m2 t2 v2 k2 h2=>⟨rfl,?_⟩⟩
 have af:zi H1 H2:=(show Same H1 _ from up).x.trans s2
 have ar:H2 M=some (.own m):=s2.at ((z5 (by simp [ndx])).trans ((zc ndx).trans zf))
 have hT:H aT=none:=s1.free (aa _ ao);have hV:H u=none:=s1.free (aa _ b4);have hK:H aK=none:=s1.free (aa _ hK0);have hH:H aH=none:=s1.free (aa _ bi);have bc:aC≠aT:=(fun z=>by rw [z,ao] at C1;cases C1)
 have nCV:aC≠u:=(fun z=>by rw [z,b4] at C1;cases C1)
 have C2:H2 aC=some (.lst (O.map .ref)):=af.at hC1;have b1:=s1.trans af;rw [hdl] at t2 v2;have bj:Mkt C H2 m ⟨M,aC,aT,u,aK,aH,O,csOf U row n,List.replicate n.length 0,U.map (zZ n.length),[],[]⟩:=⟨m2,ar,C2,by rw [zb9 hl];exact hdl,fun i d e=>let ⟨o,ho⟩:=bw i d e;⟨o,af.at ho⟩,t2,v2,k2,h2⟩
 have ac:=zb9 (U:=U) hl;have ba:∀ x,InR x n.length->ChM (Mk0 (csOf U row n)) x (g x):=fun x hx=>by
  obtain⟨x0,x1⟩:=hx;refine⟨by show InR x (csOf U row n).length;rw [ac];exact⟨x0,x1⟩,?_⟩
  show(getM ((csOf U row n).getD x.toNat []) (g x)).isSome=true
  rw [zae hl #[0]]
  obtain⟨y,e⟩:=zah (t:=zT U (row.getD x.toNat 0) (n.getD x.toNat [])) (k:=g x) (by
   unfold zT;rw [YaD];exact Ya7.mpr ⟨g x,hg x ⟨x0,x1⟩,rfl⟩)
  rw [e];rfl
 have aw:(((row.map V.int).length:Nat):Int).toNat=n.length:=by rw [Int.toNat_natCast,YaR,hl]
 have hj1:-(2 ^ 62)<=(((row.map V.int).length:Nat):Int):=#[0]
 have aj:(((row.map V.int).length:Nat):Int)<2 ^ 62:=by rw [YaR,hl];omega
 refine⟨.ref r,rfl,r,_,rfl,.inl ((sG.trans b1).seq qr),_,rfl,hj1,aj,?_⟩
 rw [aw];refine⟨fun i k σ' H'=>i<=n.length/\k=n.length - i/\(∃ t4,σ'=[some (.ref v),some (.ref c),some (.ref r),some (.ref m),t4,none,none])/\zi H H'/\∃ (Y vp:List Int) (L hd:Tb),Y.length=n.length/\vp.length=U.length/\Mkt C H' m ⟨M,aC,aT,u,aK,aH,O,csOf U row n,Y,vp,L,hd⟩/\Mend (ChM (Mk0 (csOf U row n))) (cM (Mk0 (csOf U row n))) (at0 (U.map (zZ n.length))) n.length U.length i (at0 Y) (at0 vp) L hd,
  ⟨_,Wbm _,rfl,⟨none,rfl⟩,b1,_,_,_,_,Ybb,YaR ..,bj,Mend.zero0⟩,?_⟩
 rintro i k σ' H3 ⟨hi,rfl,⟨t4,rfl⟩,s3,Y,vp,L,hd,l1,l2,J,me3⟩
 by_cases B:i<n.length
 . refine .inr ⟨B,fun σ' H'=>(∃ t4,σ'=[some (.ref v),some (.ref c),some (.ref r),some (.ref m),t4,none,none])/\zi H H'/\∃ (Y vp:List Int) (L hd:Tb),Y.length=n.length/\vp.length=U.length/\Mkt C H' m ⟨M,aC,aT,u,aK,aH,O,csOf U row n,Y,vp,L,hd⟩/\Mend (ChM (Mk0 (csOf U row n))) (cM (Mk0 (csOf U row n))) (at0 (U.map (zZ n.length))) n.length U.length (i+1) (at0 Y) (at0 vp) L hd,fun σ2 H2 z=>⟨n.length - (i+1),#[0],B,rfl,z⟩,?_⟩
   rintro x H4 ⟨e4,ex⟩
   rw [Wbh] at ex;have e4:=e4.symm;subst ex e4;refine⟨.ref m,rfl,.int i,rfl,m,i,n.length,U.length,⟨M,aC,aT,u,aK,aH,O,csOf U row n,Y,vp,L,hd⟩,_,g,rfl,tu.same s3,J,⟨bc,nCV,bb,bp⟩,⟨ac,l1,l2,fun bx h=>?_,fun bx h p hp=>?_,ak,as⟩,B,me3,ba,ax,fun bu bf br bn T a1 a2 a3 a4 a5=>⟨⟨_,rfl⟩,zi.via s3 (fun a ha=>?_) (fun a ha=>?_) a4,bu,bf,br,bn,a1,a2,a5,a3⟩⟩
   . obtain⟨pl,h1,h2⟩:=zfl hl h
     rw [h2];exact(hpl pl h1).1
   . obtain⟨pl,h1,h2⟩:=zfl hl h
     exact(hpl pl h1).2.2 _ (by rw [<-h2];exact Ya7.mpr ⟨p,hp,rfl⟩)
   . simp only [Wa5,WaR,or_false] at ha
     rcases ha with rfl|rfl|rfl|rfl
     . exact hT
     . exact hV
     . exact hK
     . exact hH
   . simp only [Wa5,WaR,or_false] at ha
     rcases ha with rfl|rfl|rfl|rfl
     . exact⟨_,J.lt,(by intro _ z;cases z)⟩
     . exact⟨_,J.lv,(by intro _ z;cases z)⟩
     . exact⟨_,J.dk,(by intro _ z;cases z)⟩
     . exact⟨_,J.dh,(by intro _ z;cases z)⟩
 have e:i=n.length:=#[0]
 subst e;clear hi B;refine .inl ⟨YaY _,.ref r,rfl,r,_,rfl,.inl ((sG.trans s3).seq qr),_,rfl,hj1,aj,fun D hD=>?_⟩
 rw [aw];have au:=s3.free hD;have s4:∀ o,zi H (upd H3 D o):=fun o=>s3.trans (zG hD o).x
 have u4:∀ {b:Addr} {o o':HO},H3 b=some o'->upd H3 D o b=some o':=fun {b o o'} e=>(zc (fun z=>by rw [z,hD] at e;cases e)).trans e
 refine⟨fun i k ys Z H4=>i<=n.length/\k=n.length - i/\(∃ t0,Z=[t0,some (.ref v),some (.ref m)])/\ys=(zR U L i).map .int/\H4=upd H3 D (.lst ys),⟨_,Wbm _,rfl,⟨none,rfl⟩,rfl,rfl⟩,?_⟩
 rintro i k ys Z H4 ⟨hi,rfl,⟨t0,rfl⟩,rfl,rfl⟩
 have ab:∀ i,(zR U L i).length=i:=fun i=>by unfold zR;rw [YaR,YaG]
 by_cases B:i<n.length
 . refine .inr ⟨B,?_⟩
   rintro x T ⟨e5,ex⟩
   rw [Wbh] at ex;have e5:=e5.symm;subst ex e5;obtain⟨X,ai⟩:=Wag.mp ((me3.dom i).mpr ⟨#[0],#[0]⟩)
   obtain⟨k0,k1⟩:=(me3.ot.get ai).2;have hcd:(U.map dW)[X.toNat]?=some (dW (U.getD X.toNat (0,0,0,none))):=by rw [Ya0,YaP,YaQ (show X.toNat<U.length by omega)];rfl
   have b7:zR U L (i+1)=zR U L i++[(U.getD X.toNat (0,0,0,none)).1]:=by
    unfold zR;rw [List.range_succ,Ya2,List.map_singleton,ai];rfl
   generalize U.getD X.toNat (0,0,0,none)=wn at *;obtain⟨wv,bo,rw'⟩:=rvs.get hcd;obtain⟨wa,ws,rfl,qw,rws⟩:∃ wa ws,wv=.ref wa/\SqT K G wa ws/\RdVs K G ws [.int wn.1,.int wn.2.1,.int wn.2.2.1,dO wn.2.2.2]:=by
    unfold dW at rw';cases rw' with
    | tup a b=>exact⟨_,_,rfl,a,b⟩
   obtain⟨ws',rfl⟩:∃ ws',ws=.int wn.1::ws':=by
    cases rws with
    | cons a b=>cases a;exact⟨_,rfl⟩
   have bl:atI xv X=some (.ref wa):=by
    have:=jb (xs:=xv) (j:=X.toNat) (v:=.ref wa) bo;rwa [show((X.toNat:Nat):Int)=X from Waq k0] at this
   refine⟨.ref v,rfl,.ref m,rfl,m,C,M,_,.ref aK,rfl,u4 J.ins,cl,n5,rfl,.int i,rfl,aK,.int X,rfl,?_,v,xv,X,.ref wa,rfl,rfl,(sG.trans (s4 _)).seq qv,bl,wa,_,0,.int wn.1,rfl,rfl,(sG.trans (s4 _)).tup qw,jb (j:=0) rfl,zf,?_,n.length - (i+1),#[0],B,rfl,⟨_,rfl⟩,by rw [b7,Ya2];rfl,Zw⟩
   . have:=DGet.k (k:=Sum.inl (i:Int)) (u4 (o:=.lst ((zR U L i).map .int)) J.dk)
     rwa [jt,show getM _ (i:Int)=some X from ai] at this
   . rw [YaR,ab]
     exact War (show _<=60 by omega) #[1]
 have e:i=n.length:=#[0]
 subst e;clear hi B;refine .inl ⟨YaY _,?_⟩;have nl:=ab n.length;have s4:=s4 (.lst ((zR U L n.length).map .int));have D4:upd H3 D (.lst ((zR U L n.length).map .int)) D=some (.lst ((zR U L n.length).map .int)):=zf;have m4:=u4 (o:=.lst ((zR U L n.length).map .int)) J.ins;have bz:=u4 (o:=.lst ((zR U L n.length).map .int)) J.lt;have b8:=u4 (o:=.lst ((zR U L n.length).map .int)) J.lv
 generalize upd H3 D (.lst ((zR U L n.length).map .int))=H4 at *;generalize ay:zR U L n.length=new at *;refine⟨.ref D,rfl,.ref r,rfl,D,r,rfl,⟨_,SqL.of D4⟩,⟨_,(sG.trans s4).seq qr⟩,fun D2 hD2=>?_⟩
 have c3:D≠D2:=(fun z=>by rw [z,hD2] at D4;cases D4)
 refine⟨fun i k ys Z T=>i<=n.length/\k=n.length - i/\(∃ t0 t1,Z=[t0,t1])/\ys=(zC (new.take i) (row.take i)).map .int/\T D2=some (.lst ys)/\zi H4 T,⟨_,Wbm _,rfl,⟨none,none,rfl⟩,rfl,zf,(zG hD2 _).x⟩,?_⟩
 rintro i k ys Z T ⟨hi,rfl,⟨t0,t1,rfl⟩,rfl,a7,s5⟩
 have q1:SqL K T D (new.map .int):=SqL.of (s5.at D4);have q2:SqL K T r (row.map .int):=(sG.trans (s4.trans s5)).seq qr
 by_cases B:i<n.length
 . have h1:(new.map V.int)[i]?=some (.int new[i]):=by rw [Ya0,YaQ #[0]];rfl
   have h2:(row.map V.int)[i]?=some (.int row[i]):=by rw [Ya0,YaQ #[0]];rfl
   have a8:zC (new.take (i+1)) (row.take (i+1))=zC (new.take i) (row.take i)++if new[i]=row[i] then [] else [new[i]]:=by
    unfold zC;rw [WaG,WaG,YaQ (show i<new.length by omega),YaQ (show i<row.length by omega)]
    rw [show(some new[i]).toList=[new[i]] from rfl,show(some row[i]).toList=[row[i]] from rfl,List.zip_append (by rw [WaM,WaM];omega),Wau,Ya2]
    by_cases e:new[i]=row[i]
    . rw [if_pos e];simp [e]
    . rw [if_neg e];simp [e]
   have hcl:(zC (new.take i) (row.take i)).length<sizeLine:=by
    unfold zC;rw [YaR];refine War (Ya5 (Wao _ _) ?_) (show 60<sizeLine by decide)
    rw [List.length_zip,WaM,WaM];omega
   generalize new[i]=a at *;generalize row[i]=b at *;refine .inr ⟨⟨_,_,_,_,q1,q2,h1,h2⟩,?_⟩
   rintro x H6 ⟨p,x',y',hp,rfl,rfl,b0⟩
   obtain⟨e1,R⟩:=b0 _ _ q1 q2;rw [h1] at e1;rw [h2] at R;cases e1;cases R;have s6:=s5.trans (zG hp (.tup [.int a,.int b])).x;have D6:upd T p (.tup [.int a,.int b]) D2=some (.lst ((zC (new.take i) (row.take i)).map .int)):=(zc (fun z=>by rw [z,hp] at a7;cases a7)).trans a7
   refine⟨p,[.int a,.int b],rfl,SqT.of zf,rfl,_,_,rfl,_,_,rfl,rfl,.int a,rfl,.int b,rfl,rfl,_,rfl,?_⟩
   show if(!decide (V.int a=V.int b))=true then _ else _
   by_cases e:a=b
   . rw [if_pos e,Yao] at a8
     rw [if_neg (by rw [e,decide_eq_true rfl];decide)]
     exact⟨n.length - (i+1),#[0],B,rfl,⟨_,_,rfl⟩,by rw [a8],D6,s6⟩
   . rw [if_neg e] at a8
     rw [if_pos (by rw [decide_eq_false (fun z=>e (by cases z;rfl))];rfl)]
     exact⟨.int a,rfl,D6,by rw [YaR];exact hcl,n.length - (i+1),#[0],B,rfl,⟨_,_,rfl⟩,by rw [a8,Ya2];rfl,zf,s6.chg hD2 D6 (by intro _ z;cases z)⟩
 have e:i=n.length:=#[0]
 subst e;clear hi B;rw [show new.take n.length=new by rw [<-nl];exact YaH,show row.take n.length=row by rw [<-hl];exact YaH] at a7
 rw [show new.take n.length=new by rw [<-nl];exact YaH,show row.take n.length=row by rw [<-hl];exact YaH]
 refine .inl ⟨⟨_,_,q1,q2,by rw [YaR,YaR,nl,hl,Nat.min_self]⟩,D2,_,rfl,.inl (SqL.of a7),?_⟩
 rw [YaR];have b6:=s4.trans s5;refine⟨.ref D,rfl,.int _,rfl,.ref m,rfl,m,C,M,_,.ref aT,rfl,s5.at m4,cl,n2,rfl,.ref m,rfl,m,C,M,_,.ref u,rfl,s5.at m4,cl,n3,rfl,by show 5<=sizeLine;decide,fun p hp=>?_⟩
 have be:=b6.free hp;have s6:=b6.trans (zG hp (.tup [.str "row", .ref D,.int ((zC new row).length:Nat),.ref aT,.ref u])).x;have u6:∀ {b:Addr} {o o':HO},T b=some o'->upd T p o b=some o':=fun {b o o'} e=>(zc (fun z=>by rw [z,hp] at e;cases e)).trans e
 have D6:=u6 (o:=.tup [.str "row", .ref D,.int ((zC new row).length:Nat),.ref aT,.ref u]) (s5.at D4);have T6:=u6 (o:=.tup [.str "row", .ref D,.int ((zC new row).length:Nat),.ref aT,.ref u]) (s5.at bz);have V6:=u6 (o:=.tup [.str "row", .ref D,.int ((zC new row).length:Nat),.ref aT,.ref u]) (s5.at b8);have P6:upd T p (.tup [.str "row", .ref D,.int ((zC new row).length:Nat),.ref aT,.ref u]) p=some (.tup [.str "row", .ref D,.int ((zC new row).length:Nat),.ref aT,.ref u]):=zf
 show Q (.ref p) (upd T p (.tup [.str "row", .ref D,.int ((zC new row).length:Nat),.ref aT,.ref u]))
 generalize upd T p (.tup [.str "row", .ref D,.int ((zC new row).length:Nat),.ref aT,.ref u])=H6 at *;have g6:=sG.trans s6;have an:∀ b∈[D,aT,u,p],H b=none:=fun b hb=>by
  simp only [Wa5,WaR,or_false] at hb
  rcases hb with rfl|rfl|rfl|rfl
  . exact au
  . exact hT
  . exact hV
  . exact be
 refine q L hd Y vp l1 l2 me3 (.ref p) (fun b=>if b∈[D,aT,u,p] then H6 b else G b) H6 ⟨fun b o e=>?_,s6,⟨fun b o e=>?_,fun b x e=>?_⟩,fun b o e=>?_⟩ ?_
 . show(if b∈[D,aT,u,p] then H6 b else G b)=some o
   rw [if_neg fun z=>by have:=an b z;rw [sG.s b o e] at this;cases this];exact e
 . have e:(if b∈[D,aT,u,p] then H6 b else G b)=some o:=e
   split at e
   . exact e
   . exact g6.s b o e
 . have R:(if b∈[D,aT,u,p] then H6 b else G b)=some (.ext x):=e
   clear e
   by_cases hb:b∈[D,aT,u,p]
   . rw [if_pos hb] at R
     simp only [Wa5,WaR,or_false] at hb
     rcases hb with rfl|rfl|rfl|rfl
     . rw [D6] at R;cases R
     . rw [T6] at R;cases R
     . rw [V6] at R;cases R
     . rw [P6] at R;cases R
   . rw [if_neg hb] at R
     exact sG.cl b x R
 . have e:(if b∈[D,aT,u,p] then H6 b else G b)=some o:=e
   split at e
   . rename_i hb;exact .inr (.inl (an b hb))
   . exact .inl e
 . have ap:∀ {b:Addr} {o:HO},b∈[D,aT,u,p]->H6 b=some o->(if b∈[D,aT,u,p] then H6 b else G b)=some o:=fun hb e=>by rw [if_pos hb];exact e
   have nw:RdN K H (fun b=>if b∈[D,aT,u,p] then H6 b else G b) (.ref p) (.tuple [.str "row", dI new,.int (zC new row).length,dI Y,dI vp]):=.tup (ap (by simp) P6) (.cons (.str _) (.cons (.lst (ap (by simp) D6) au zbr) (.cons (.int _) (.cons (.lst (ap (by simp) T6) hT zbr) (.cons (.lst (ap (by simp) V6) hV zbr) .nil)))))
   rw [ay];exact⟨zdD nw,fun _=>nw⟩
end
theorem zka{l:List Nat}(h:l.Nodup):(l.map fun i:Nat=>(i:Int)).Nodup:=by
 rw [Wac,WaE];exact(Wac.mp h).imp fun {a b} hab e=>hab #[0]
def zeW(U:List Win)(ch:List (List Int))(row:List Int)(d:D):Prop:=
 (JI U ch.length (fun k i=>(i:Int)∈ch.getD k []) d/\∀ x,d≠.tuple (.str "row" :: x))\/
 ∃ (f:Nat->Nat) (tk hd:Tb) (tp vp:List Int),(∀ k,k<ch.length->f k<U.length/\((f k:Nat):Int)∈ch.getD k [])/\(∀ i j,i<ch.length->j<ch.length->f i=f j->i=j)/\(∀ i,i<U.length->(U.getD i z4).2.2.2≠none->∃ k,k<ch.length/\f k=i)/\tp.length=ch.length/\vp.length=U.length/\
  Mend (ChM (Mk0 (csOf U row ch))) (cM (Mk0 (csOf U row ch))) (at0 (U.map (zZ ch.length))) ch.length U.length ch.length (at0 tp) (at0 vp) tk hd/\
  d=.tuple [.str "row", dI (zR U tk ch.length),.int (zC (zR U tk ch.length) row).length,dI tp,dI vp]
noncomputable def lE(b:Int)(rows:List (List Int))(row:List Int)(cc:Int)(own:Bool)(n:Nat)(hd:List Int)(ps:List Addr)(g:Nat->Int×Int)(r:Env3):Env3:=[some (.sh true (.int b)),some (.sh false (.list (rows.map dI))),some (.sh false (.list (row.map PyData.int))),some (.sh true (.int cc)),some (.sh true (.bool own)),some (.sh true (.int n)),some (.ow true (hd.map PyData.int)),some (.tr ps ((List.range n).map fun k=>pr2 (g k)))]++r
noncomputable def gE(ns:List Int)(l:List Spell)(B:Int)(qs:List (List Int))(row:List Int)(r:Env3):Env3:=[some (.sh false (.list (ns.map .int))),some (.sh true (.list (l.map dS))),some (.sh true (.int B)),some (.sh true (.list (qs.map dI))),some (.sh true (.list (row.map .int)))]++r
noncomputable def kE(b:Int)(rows:List (List Int))(bs:List (Rat2×Rat2))(row:List Int)(r:Env3):Env3:=[some (.sh true (.int b)),some (.sh false (.list (rows.map dI))),some (.sh false (.list (bs.map dP))),some (.sh false (.list (row.map PyData.int)))]++r
noncomputable def ownB(b:Int)(n:Nat)(rows:List (List Int))(row:List Int):List (Rat2×Rat2):=(List.range n).map fun k=>(lowQ (minO (mx (ldF b n rows row) k row.length).1 (10*b)) b,lowQ (minO (mx (ldF b n rows row) k row.length).2 (10*b)) b)
theorem ziN(h:v∈pl):getM (zT U clan pl) v=some (cst1 U clan v):=by
 obtain⟨y,e⟩:=zah (t:=zT U clan pl) (k:=v) (by unfold zT;simp_all)
 obtain⟨p,_,a⟩:=Ya7.mp (JK e)
 injection a with h1 h2
 simp_all
theorem zbS:∀ {new row:List Int},new.length=row.length->((zC new row).length:Int)=((List.range new.length).map fun i=>if new.getD i 0=row.getD i 0 then(0:Int) else 1).sum
 | [],[],_=>rfl
 | a :: new, b :: row, h => by
  have ih:=zbS (new:=new) (row:=row) (by simpa using h)
  rw [List.length_cons,List.range_succ_eq_map,Ya1,YaD,List.sum_cons];show _=(if a=b then(0:Int) else 1)+((List.range new.length).map fun i=>if new.getD i 0=row.getD i 0 then(0:Int) else 1).sum
  rw [<-ih];unfold zC;rw [List.zip_cons_cons,YaM]
  by_cases e:a=b
  . rw [if_pos e,if_neg (by simp [e])];omega
  . rw [if_neg e,if_pos (by simp [e]),Ya1,List.length_cons];omega
theorem zjN(u:row.length=ch.length)(q:∀ pl∈ch,∀ x∈pl,InR x U.length){f:Nat->Nat}{tk:Tb}{tp vp:List Int}(J:∀ k,k<ch.length->f k<U.length/\((f k:Nat):Int)∈ch.getD k [])(Q:∀ i j,i<ch.length->j<ch.length->f i=f j->i=j)(P:∀ i,i<U.length->(U.getD i z4).2.2.2≠none->∃ k,k<ch.length/\f k=i)
 (M:Mend (ChM (Mk0 (csOf U row ch))) (cM (Mk0 (csOf U row ch))) (at0 (U.map (zZ ch.length))) ch.length U.length ch.length (at0 tp) (at0 vp) tk hd) :
 (∀ k,k<ch.length->∃ i:Nat,i<U.length/\getM tk (k:Int)=some (i:Int)/\(i:Int)∈ch.getD k [])/\(∀ i,i<U.length->(U.getD i z4).2.2.2≠none->∃ k:Nat,k<ch.length/\getM tk (k:Int)=some (i:Int))/\
 (((zC (zR U tk ch.length) row).length:Nat):Int)<=((List.range ch.length).map fun k=>if(U.getD (f k) z4).1=row.getD k 0 then(0:Int) else 1).sum:=by
 have g:=zb9 (U:=U) u;have X:∀ (l:List Int) (i:Nat),at0 l (i:Int)=l.getD i 0:=fun l i=>by unfold at0;rw [if_pos #[0],Int.toNat_natCast]
 have S:∀ i,i<U.length->at0 (U.map (zZ ch.length)) (i:Int)=zZ ch.length (U.getD i z4):=fun i b=>by
  rw [X,YaP,Ya0,YaP,YaQ b];rfl
 have s:∀ (x v:Int),ChM (Mk0 (csOf U row ch)) x v->InR x ch.length/\v∈ch.getD x.toNat []:=fun x v A=>by
  have c:InR x ch.length:=by have:=A.1;rwa [show(Mk0 (csOf U row ch)).cs.length=ch.length from g] at this
  refine⟨c,?_⟩
  obtain⟨y,e⟩:=Wag.mp A.2;have e:getM ((csOf U row ch).getD x.toNat []) v=some y:=e;rw [zae u (by have:=c.1;have:=c.2;omega)] at e
  obtain⟨p,N,o⟩:=Ya7.mp (JK e)
  injection o with e3
  rw [<-e3];exact N
 have m:∀ (t:Nat) (v:Int),t<ch.length->v∈ch.getD t []->ChM (Mk0 (csOf U row ch)) t v/\cM (Mk0 (csOf U row ch)) t v=cst1 U (row.getD t 0) v:=fun t v T a=>by
  have e:getM ((csOf U row ch).getD ((t:Int)).toNat []) v=some (cst1 U (row.getD t 0) v):=by
   rw [Int.toNat_natCast,zae u T,ziN a]
  refine⟨⟨⟨#[0],by show(t:Int)<(csOf U row ch).length;rw [g];omega⟩,?_⟩,?_⟩
  . show(getM ((csOf U row ch).getD ((t:Int)).toNat []) v).isSome=true
    rw [e];rfl
  . show(getM ((csOf U row ch).getD ((t:Int)).toNat []) v).getD 0=_
    rw [e];rfl
 have F:=M.fair (fun x v=>?_) (due:=fun v=>InR v U.length/\(U.getD v.toNat z4).2.2.2≠none) (fun v=>?_) (fun x v A=>?_) (f:=fun x=>((f x.toNat:Nat):Int)) (fun x c=>?_) (fun x y c W e=>?_) (fun v a hd=>?_)
 . have r:∀ k:Nat,k<ch.length->∃ i:Nat,i<U.length/\getM tk (k:Int)=some (i:Int)/\(i:Int)∈ch.getD k []:=fun k G=>by
    obtain⟨v,e⟩:=Wag.mp ((M.dom k).mpr ⟨#[0],#[0]⟩)
    obtain⟨_,n⟩:=s _ _ (M.ed _ _ e).1;rw [Int.toNat_natCast] at n;obtain⟨K,v1⟩:=q _ (by rw [YaP,YaQ G];exact Ya4 _) v n
    refine⟨v.toNat,#[0],?_,?_⟩
    . rw [e,Waq K]
    . rw [Waq K];exact n
   refine⟨r,fun i b O=>?_,?_⟩
   . have:=F.1 (i:Int) ⟨#[0],#[0]⟩ ⟨⟨#[0],#[0]⟩,by rw [Int.toNat_natCast];exact O⟩
     obtain⟨x,e⟩:=Wag.mp this;have o:=(M.mat x i).mpr e;have c:=(M.dom x).mp (by rw [o];rfl)
     exact⟨x.toNat,#[0],by rw [Waq c.1];exact o⟩
   . have I:(zR U tk ch.length).length=ch.length:=by unfold zR;rw [YaR,YaG]
     rw [zbS (by rw [I,u]),I]
     have E:=F.2.2;unfold sumF at E;refine Int.le_trans (Int.le_of_eq ?_) (Int.le_trans E (Int.le_of_eq ?_))
     . congr 1
       refine Yat fun i b=>?_
       have b:=Yba.mp b;obtain⟨v,a,e,n⟩:=r i b;show _=cM (Mk0 (csOf U row ch)) i ((getM tk i).getD 0);rw [e,Option.getD_some,(m i v b n).2];have R:(zR U tk ch.length).getD i 0=(U.getD ((v:Int)).toNat (0,0,0,none)).1:=by
        unfold zR;rw [YaP,Ya0,Yax b];show(U.getD ((getM tk (i:Int)).getD 0).toNat (0,0,0,none)).1=_;rw [e];rfl
       rw [R];rfl
     . congr 1
       refine Yat fun i b=>?_
       have b:=Yba.mp b;show cM (Mk0 (csOf U row ch)) i ((f ((i:Int)).toNat:Nat):Int)=_;rw [Int.toNat_natCast,(m i _ b (J i b).2).2];unfold cst1;rw [Int.toNat_natCast];rfl
 . show 0<=(getM ((csOf U row ch).getD x.toNat []) v).getD 0/\(getM ((csOf U row ch).getD x.toNat []) v).getD 0<=1
   cases e:getM ((csOf U row ch).getD x.toNat []) v with
   | none=>exact⟨#[1],#[1]⟩
   | some y=>
    have w:=JK e
    by_cases c:x.toNat<ch.length
    . rw [zae u c] at w
      obtain⟨p,_,o⟩:=Ya7.mp w
      injection o with e3 e4
      show 0<=y/\y<=1
      rw [<-e4];unfold cst1;split<;>exact⟨#[1],#[1]⟩
    . rw [YaP,Wan #[0]] at w;cases w
 . by_cases a:InR v U.length
   . have:=S v.toNat (by have:=a.1;have:=a.2;omega)
     rw [show((v.toNat:Nat):Int)=v from Waq a.1] at this
     rw [this];unfold zZ;exact⟨fun h=>if_neg h.2,fun h=>if_pos (Wae fun z=>h ⟨a,z⟩)⟩
   . refine⟨fun h=>absurd h.1 a,fun _=>?_⟩
     unfold at0
     by_cases C:0<=v
     . rw [if_pos C,YaP,Wan];rfl
       rw [YaR];have:¬v<(U.length:Int):=fun z=>a ⟨C,z⟩
       omega
     . rw [if_neg C]
 . obtain⟨L,n⟩:=s _ _ A
   refine q _ ?_ v n
   obtain⟨B,H⟩:=L;rw [YaP,YaQ (show x.toNat<ch.length by omega)];exact Ya4 _
 . obtain⟨B,H⟩:=c
   have:=(m x.toNat _ #[0] (J x.toNat #[0]).2).1
   rwa [show((x.toNat:Nat):Int)=x from Waq B] at this
 . obtain⟨B,H⟩:=c
   obtain⟨Y,Z⟩:=W;have:=Q _ _ #[0] #[0] (Int.ofNat.inj e)
   omega
 . obtain⟨k,G,e⟩:=P v.toNat (by have:=a.1;have:=a.2;omega) hd.2
   refine⟨k,⟨#[0],#[0]⟩,?_⟩
   show((f ((k:Int)).toNat:Nat):Int)=v
   rw [Int.toNat_natCast,e];exact Waq a.1
theorem zez(w:okS l)(hB:okB (many l) bs)(ho:∀ p∈bs,okQ p.1/\okQ p.2)(L:IsWs l bs W)(hR:okRs (tot l) (many l) rs)(q:jk (many l) (tot l).toNat row0)(R:kpP (zg l) (many l) (quoB (zg l) l) row0 bs)(J:RowK rs row0)(m:ch.length=(tot l).toNat)(a0:∀ pl∈ch,∀ x∈pl,InR x W.flatten.length)(F:ChOk rs W.flatten ch){g:List Int}(hg:g.length=ch.length)(hd:zeW W.flatten ch g d) :
 ∃ new tp vp:List Int,jk (many l) (tot l).toNat new/\kpP (zg l) (many l) (quoB (zg l) l) new bs/\RowK rs new/\(zC new g).length<=(zC row0 g).length/\d=.tuple [.str "row", dI new,.int (zC new g).length,dI tp,dI vp]:=by
 have a4:=Jg fun s hs=>(w.2.1 s hs).1
 have eT:(((tot l).toNat:Nat):Int)=tot l:=#[94]
 have M:=zge w L;have G:=(zf7 w hB ho L row0 q).mp R;have hc:∀ v∈W.flatten,InR v.1 (many l):=fun v C=>by
  obtain⟨k,n,i,_,e⟩:=L.get C;rw [e];exact⟨by show(0:Int)<=(k:Int);lia,by show(k:Int)<_;lia⟩
 have B:=fun {d} p=>zjH (T:=(tot l).toNat) (by rw [eT];exact M) hc (by rw [eT];exact hR) q.1 G J (d:=d) p
 have a3:=fun I a2=>(zf7 w hB ho L I a2).mpr
 generalize W.flatten=V at *;have P:V.Nodup:=by
  have:=Wac.mp M.nd;rw [WaE] at this;exact Wac.mpr (this.imp fun h e=>h (by rw [e]))
 rcases hd with ⟨X,a1⟩|⟨f,H,a5,tp,vp,h1,h2,h3,l1,l2,S,rfl⟩
 . obtain⟨r,_,_,_,e⟩:=B (by rw [<-m];exact X.imp fun k n i o=>F k n i o)
   exact absurd e (a1 _)
 have ex:∀ k,k<ch.length->∃ i,i<V.length/\keyW (V.getD i z4)=keyR row0 k/\(V.getD i z4).2.2.1<=(k:Int)+1/\JC ((k:Int)+1) (V.getD i z4).2.2.2:=fun k n=>by
  obtain⟨v,C,E,e2,U⟩:=G.1 k (by rw [q.1,<-m];exact n)
  obtain⟨i,o,e⟩:=zcN C;exact⟨i,o,by rw [e];exact⟨E,e2,U⟩⟩
 obtain⟨y,u⟩:∃ y:Nat->Nat,∀ k,k<ch.length->y k<V.length/\keyW (V.getD (y k) z4)=keyR row0 k/\(V.getD (y k) z4).2.2.1<=(k:Int)+1/\JC ((k:Int)+1) (V.getD (y k) z4).2.2.2:=by
  classical
  exact⟨fun k=>if h:k<ch.length then Classical.choose (ex k h) else 0,fun k n=>by
   dsimp only;rw [dif_pos n];exact Classical.choose_spec (ex k n)⟩
 have cl:∀ k,k<ch.length->(V.getD (y k) z4).1=row0.getD k 0:=fun k n=>congrArg Prod.fst (u k n).2.1
 obtain⟨O,n2,n3⟩:=zjN hg a0 (f:=y) (fun k n=>⟨(u k n).1,(F k n _ (u k n).1).mpr ⟨(u k n).2.2.1,(u k n).2.2.2,by
  show ¬jV rs _ (V.getD (y k) z4).1
  rw [cl k n];exact zcm hR J⟩⟩) (fun i j o K e=>by
  have E:=(u i o).2.1;rw [e,(u j K).2.1] at E
  rcases Nat.lt_trichotomy i j with z|z|z
  . exact absurd E.symm (zbp (by rw [q.1,<-m];exact K) z)
  . exact z
  . exact absurd E (zbp (by rw [q.1,<-m];exact o) z)) (fun i o Z=>by
  have C:=Jl (d:=z4) o;obtain⟨k,n,e⟩:=zdO (row:=row0) (c:=(V.getD i z4).1) row0.length (YaY _) (V.getD i z4).2.1 (M.one _ C).1 (by rw [YaH];exact G.2 _ C Z)
  have n:k<ch.length:=by rw [m,<-q.1];exact n
  exact⟨k,n,zdg P (u k n).1 o (zaW M.nd (Jl (u k n).1) C ((u k n).2.1.trans e))⟩) S
 have N:∀ k:Nat,k<ch.length->∀ i:Nat,getM H (k:Int)=some (i:Int)->((getM H (k:Int)).getD 0).toNat=i:=fun k _ i e=>by rw [e];exact Int.toNat_natCast i
 have X:JI V (tot l).toNat (fun k i=>mayP rs (V.getD i z4) ((k:Int)+1)) (.tuple [.str "row", .list ((List.range (tot l).toNat).map fun k:Nat=>.int (V.getD ((getM H (k:Int)).getD 0).toNat z4).1)]):=by
  refine .inl ⟨fun k=>((getM H (k:Int)).getD 0).toNat,fun k n=>?_,fun i j o K e=>?_,fun i o Z=>?_,rfl⟩
  . obtain⟨i,o,e,hm⟩:=O k (by rw [m];exact n)
    dsimp only;rw [N k (by rw [m];exact n) i e]
    exact⟨o,(F k (by rw [m];exact n) i o).mp hm⟩
  . obtain⟨a,ha,ea,_⟩:=O i (by rw [m];exact o)
    obtain⟨b,hb,eb,_⟩:=O j (by rw [m];exact K)
    dsimp only at e;rw [N i (by rw [m];exact o) a ea,N j (by rw [m];exact K) b eb] at e
    subst e;have u1:=(S.mat _ _).mp ea;rw [(S.mat _ _).mp eb] at u1;have:=WaU u1
    lia
  . obtain⟨k,n,e⟩:=n2 i o Z
    exact⟨k,by rw [<-m];exact n,N k n i e⟩
 obtain⟨row,r1,r2,r3,A⟩:=B X;have Q:row=zR V H ch.length:=by
  injection A with A
  injection A with _ A
  injection A with A
  injection A with A
  have:=congrArg (List.map fun d:D=>match d with|.int i=>i|_=>0) A
  rw [YaD,YaD] at this;have E:(List.map ((fun d:D=>match d with|.int i=>i|_=>0)∘PyData.int) row)=row:=by
   exact List.map_id row
  rw [E] at this;rw [<-this,m];rfl
 refine⟨zR V H ch.length,tp,vp,Q ▸ r1,Q ▸ a3 row r1 r2,Q ▸ r3,?_,rfl⟩
 have Y:row0.length=g.length:=by rw [q.1,hg,m]
 have h0:=zbS Y;rw [show row0.length=ch.length by rw [q.1,m]] at h0
 have U:((List.range ch.length).map fun k=>if(V.getD (y k) z4).1=g.getD k 0 then(0:Int) else 1)=(List.range ch.length).map fun i=>if row0.getD i 0=g.getD i 0 then(0:Int) else 1:=Yat fun k n=>by rw [cl k (Yba.mp n)]
 rw [U,<-h0] at n3
 lia
def Wid(bs bs':List (Rat2×Rat2)):Prop:=bs'.length=bs.length/\∀ (k:Nat) (p:Rat2×Rat2),bs[k]?=some p->∃ top:Int,bs'[k]?=some (p.1,lowQ top p.2.2)/\p.2.1<=top/\top<=10*p.2.2
theorem ze1(hb:0<b)(h:x<=a){c:Int}(hc:0<=c):x*c*(lowQ a b).2<=(lowQ a b).1*(c*b):=by
 obtain⟨l1,l2,l3,l4⟩:=Zq hb;show x*c*(b/(Int.gcd a b))<=a/(Int.gcd a b)*(c*b);generalize (Int.gcd a b:Int)=g at *;generalize a/g=u at *;generalize b/g=v at *;subst l3 l4;have h1:x*(c*v)<=u*g*(c*v):=Ybe h (YaK hc #[0])
 rw [Wa8];have e:u*(c*(v*g))=u*g*(c*v):=by
  grind
 simp_all
theorem zl1(hok:okS l)(hr:jk (many l) (tot l).toNat row)(h10:row.length<=10)(hw:Wid (ownB (zg l) (many l) (quoB (zg l) l) row) bs):kpP (zg l) (many l) (quoB (zg l) l) row bs:=by
 have hb:=zal hok;have hql:=zct hok (zg l);have hrl:=hr.1;have far:∀ s,s<row.length->∀ k,k<many l->-(ldF (zg l) (many l) (quoB (zg l) l) row s k)<=10*zg l/\ldF (zg l) (many l) (quoB (zg l) l) row s k<=10*zg l:=fun s hs k hk=>by
  have hk1:s+1<(quoB (zg l) l).length:=#[94]
  have hrn:=zaJ hok (Ya4 hk1);have e:=zd7 (b:=zg l) hr.2 hs hk1 hrn hk;obtain⟨h1,h2⟩:=zga hr.2 (t:=s+1) #[94] hk
  have hm:(quoB (zg l) l)[s+1].getD k 0∈(quoB (zg l) l)[s+1]:=Jl #[94]
  have q1:=zdj hok hb _ (Ya4 hk1) _ hm;have q2:=zeo hok (Wbf hb) _ (Ya4 hk1) _ hm;generalize (hadN 1 (many l) (row.take (s+1))).getD k 0=hv at *;have a1:hv*zg l<=10*zg l:=Ybe #[94] #[94]
  have a2:0<=hv*zg l:=YaK h1 #[94]
  have a3:tot l*zg l<=10*zg l:=Ybe #[94] #[94]
  rw [e];exact⟨#[94],#[94]⟩
 intro t ht k p hp;have hkn:k<many l:=by
  have:=(Ya8.mp hp).1;rw [hw.1] at this;unfold ownB at this;rwa [YaR,YaG] at this
 obtain⟨m1,m2,m3,m4,m5⟩:=zb7 (ldF (zg l) (many l) (quoB (zg l) l) row) k row.length;have b1:(mx (ldF (zg l) (many l) (quoB (zg l) l) row) k row.length).1<=10*zg l:=by
  rcases m4 with z|⟨s,hs,z⟩
  . lia
  . rw [z];exact(far s hs k hkn).1
 have b2:(mx (ldF (zg l) (many l) (quoB (zg l) l) row) k row.length).2<=10*zg l:=by
  rcases m5 with z|⟨s,hs,z⟩
  . lia
  . rw [z];exact(far s hs k hkn).2
 obtain⟨top,e,t1,t2⟩:=hw.2 k (lowQ _ (zg l),lowQ _ (zg l)) (by
  unfold ownB;rw [Ya0,Yax hkn];rfl)
 rw [hp] at e;have e:=WaU e;subst e;obtain⟨m6,m7⟩:=m3 t ht;have mi:∀ m:Int,m<=10*zg l->minO m (10*zg l)=m:=fun m h=>by unfold minO;rw [if_neg #[94]]
 rw [mi _ b2] at t1;unfold kp1;rw [mi _ b1,mi _ b2];generalize ldF (zg l) (many l) (quoB (zg l) l) row t k=ld at *;generalize (mx _ k row.length).2=v at *;generalize zg l=b at *
 constructor
 . have:=ze1 (x:=-ld) hb m6 (c:=1) #[1]
   rw [Int.mul_one,Wbo] at this;exact this
 . have h1:=ze1 (x:=ld) hb m7 (c:=1) #[1]
   rw [Int.mul_one,Wbo] at h1;have hq:0<(lowQ v b).2:=(Zq (a:=v) hb).1;generalize (lowQ v b).2=q at *;have h2:=Int.le_trans h1 (Ybe t1 #[94])
   obtain⟨l1,l2,l3,l4⟩:=Zq (a:=top) hq;have hg:=zcs (a:=top) hq;show ld*(q/(Int.gcd top q:Int))<=top/(Int.gcd top q:Int)*b;generalize (Int.gcd top q:Int)=g at *;generalize top/g=x at *;generalize q/g=y at *;subst l3 l4;refine YaF (a:=g) ?_ hg;rw [Wa8,Wa8,Wbg b g,<-Wa8 x g b];exact h2
theorem zfm(hb:0<b)(hbb:Bits 900 b):(ownB b n rows row).length=n/\∀ p∈ownB b n rows row,(okQ p.1/\inQ p.1)/\(okQ p.2/\inQ p.2)/\0<p.2.2/\Bits 1000 p.2.2:=by
 refine⟨by unfold ownB;simp_all,fun p hp=>?_⟩
 obtain⟨k,_,rfl⟩:=Ya7.mp hp;obtain⟨m1,m2,_⟩:=zb7 _ k _;obtain⟨x1,x2,x3⟩:=zgT hb m1 hbb;obtain⟨y1,y2,y3⟩:=zgT hb m2 hbb;have hB:Bits 1100 b:=hbb.mono #[1]
 refine⟨⟨zdp hb (x3.mono #[1]) hB,zcK hb x1 x2⟩,⟨zdp hb (y3.mono #[1]) hB,zcK hb y1 y2⟩,(Zq hb).1,?_⟩
 exact(hbb.le (Yay _ _)).mono #[1]
theorem Wid.nil:Wid [] []:=⟨rfl,fun k p h=>by simp at h⟩
theorem Wid.snoc{a b:List (Rat2×Rat2)}(h:Wid a b){p:Rat2×Rat2}{top:Int}(h1:p.2.1<=top)(h2:top<=10*p.2.2):Wid (a++[p]) (b++[(p.1,lowQ top p.2.2)]):=by
 refine⟨by rw [YaS,YaS,h.1];rfl,fun k q e=>?_⟩
 by_cases z:k<a.length
 . rw [Yab z] at e
   obtain⟨t,e1,e2⟩:=h.2 k q e;exact⟨t,by rw [Yab (by rw [h.1];exact z)];exact e1,e2⟩
 . have hk:=(Ya8.mp e).1
   rw [YaS,List.length_singleton] at hk;have hk:k=a.length:=#[0]
   subst hk;rw [Yae (YaY _),Wbi] at e;have e:=WaU e;subst e;refine⟨top,?_,h1,h2⟩;rw [Yae (by rw [h.1];exact YaY _),h.1,Wbi];rfl
theorem zk4(hl:new.length=row.length)(h:(zC new row).length=0):new=row:=by
 refine List.ext_getElem hl fun i h1 h2=>Wae fun z=>?_
 have:(new[i],row[i])∈(new.zip row).filter fun p=>!decide (p.1=p.2):=Ya9.mpr ⟨List.mem_iff_getElem.mpr ⟨i,by grind,by simp_all⟩,by simp [z]⟩
 unfold zC at h;rw [YaR] at h;rw [List.eq_nil_of_length_eq_zero h] at this;cases this
theorem zhx(row):(zC row row).length=0:=by
 unfold zC;rw [YaR,List.length_eq_zero_iff,List.filter_eq_nil_iff];intro p hp;obtain⟨i,hi,e⟩:=List.mem_iff_getElem.mp hp;rw [<-e];simp
theorem zfU(p:Nat->Bool):∀ l:List Nat,((l.filter p).length:Int)=(l.map fun i=>if p i=true then(1:Int) else 0).sum
 | []=>rfl
 | x :: r => by
  rw [Ya1,List.sum_cons,<-zfU p r,YaM]
  by_cases h:p x=true
  . rw [if_pos h,if_pos h,List.length_cons];omega
  . rw [if_neg h,if_neg h];omega
theorem zma{sp:List Int}(h:row.length=sp.length):(((List.range row.length).filter fun i=>!decide (sp.getD i 0=row.getD i 0)).length:Int)=((zC row sp).length:Nat):=by
 rw [zfU,zbS h]
 congr 1
 refine Yat fun i _=>?_
 by_cases e:row.getD i 0=sp.getD i 0
 . rw [if_pos e,if_neg (by rw [decide_eq_true e.symm];decide)]
 . rw [if_neg e,if_pos (by rw [decide_eq_false fun z=>e z.symm];rfl)]
section
variable{c:Law.Cl}
def Z8:Sp3:=fun ds Q E=>∃ ns k,ds=[dI ns,.int k]/\0<=k/\∀ v:Int,Q true (.int v)
def zbd:Sp3:=fun ds Q E=>∃ cc k,ds=[.int cc,.int k]/\0<=k/\k<100000/\∀ v:Int,Q true (.int v)
def ZP:Sp3:=fun ds Q E=>∃ cc k,ds=[.int cc,.int k]/\0<=k/\k<100000/\∀ v:Int,Q true (.int v)
def Z0:Sp3:=fun ds Q E=>∃ ns m,ds=[dI ns,.int m]/\4<=m/\m<=60/\∀ l,okS l->(∀ s∈l,∀ w∈s.2,w<10 ^ 6)->Q true (dSs l)
def zaa:Sp3:=fun ds Q E=>∃ ns m,ds=[dI ns,.int m]/\4<=m/\m<=60/\∀ l,okS l->Q true (dSs l)
def zbh:Sp3:=fun ds Q E=>∃ l,ds=[dSs l]/\okS l/\Q true (.tuple [.int (zg l),.list ((quoB (zg l) l).map dI)])
def za1:Sp3:=fun ds Q E=>∃ (b:Int) (rows:List (List Int)) (cc:Int) (n:Nat),ds=[.int b,.list (rows.map dI),.int cc]/\1<=n/\n<=8/\1<=rows.length/\rows.length<=61/\(∀ r∈rows,r.length=n)/\∀ row:List Int,row.length+1=rows.length->(∀ c∈row,0<=c/\c<n)->Q true (dI row)
def ZE:Sp3:=fun ds Q E=>∃ a b,ds=[.int a,.int b]/\0<b/\Bits 9000 b/\Q true (dR a b)
def zaE:Sp3:=fun ds Q E=>∃ (b:Int) (rows:List (List Int)) (row:List Int) (cc:Int) (n:Nat),ds=[.int b,.list (rows.map dI),dI row,.int cc,.bool true]/\0<b/\Bits 900 b/\1<=n/\n<=8/\rows.length<=61/\row.length+1=rows.length/\(∀ r∈rows,r.length=n)/\(∀ c∈row,0<=c/\c<n)/\Q true (dPs (ownB b n rows row))
def zaA:Sp3:=fun ds Q E=>∃ (rs:List Rule) (row:List Int) (n:Nat),ds=[dRs rs,dI row,.int n]/\okRs row.length n rs/\txtR rs/\rs.length<=100/\1<=n/\(∀ c∈row,0<=c/\c<n)/\∀ f rs',okRs row.length n rs'->txtR rs'->rs'.length<=100->RowK rs' row->Q f (dRs rs')
def Z7(c:Law.Cl):Sp3:=fun ds Q E=>∃ ws,ds=[dI ws]/\(okW ws->Q true .none)/\(¬okW ws->E c.NoSpell)
def zaf:Sp3:=fun ds Q E=>∃ l,ds=[dSs l]/\l.length<=1000/\Q true (.int (tot l))
def zai(c:Law.Cl):Sp3:=fun ds Q E=>∃ l,ds=[dSs l]/\(okS l->Q true .none)/\(¬okS l->E c.NoSpell)
def ZU:Sp3:=fun ds Q _=>∃ a b,ds=[.int a,.int b]/\Q true (.int (Int.gcd a b))
def ZV:Sp3:=fun ds Q E=>∃ ws,ds=[dI ws]/\Q true (.int (gcdL ws))
def zaQ:Sp3:=fun ds Q E=>∃ l,ds=[dSs l]/\okS l/\Q true (.int (bot l))
def zbe:Sp3:=fun ds Q E=>∃ b ws,ds=[.int b,dI ws]/\okW ws/\Bits 2000 b/\Q true (dI (shares b ws))
def za5(c:Law.Cl):Sp3:=fun ds Q E=>∃ l,ds=[dSs l]/\(okS l->Q true (.tuple [.int (bot l),.list ((quo l).map dI)]))/\(¬okS l->E c.NoSpell)
def zaz:Sp3:=fun ds Q E=>∃ (path:List Int) (w:Int),ds=[dI path,.int w]/\path.length<=61/\1<=path.length/\Q true (.int (zF path.length fun t=>decide (w<=path.getD t 0)))
def za3:Sp3:=fun ds Q E=>∃ (b:Int) (path:List Int) (j:Int) (room:Int×Int),ds=[.int b,dI path,.int j,jM room]/\path.length<=61/\1<=path.length/\Bits 2000 b/\Bits 64 j/\Q true (.tuple [.int (winB b path room j).1,dO (winB b path room j).2])
def za6:Sp3:=fun ds Q E=>∃ (b:Int) (q:List (List Int)) (k:Nat) (room:Int×Int) (n:Nat),ds=[.tuple [.int b,.list (q.map dI)],.int k,jM room]/\0<b/\Bits 2000 b/\k<n/\q.length<=61/\1<=q.length/\(∀ r∈q,r.length=n)/\(∀ r∈q,r.getD k 0+room.2<=80*b)/\0<=room.1/\0<=room.2/\room.2<=80*b/\∀ ws,IsW q.length k (winB b (zp q k) room) 1 ws->ws.length<=200->Q true (.list (ws.map dW))
def ZR:Sp3:=fun ds Q E=>∃ (b:Int) (q:List (List Int)) (rooms:List (Int×Int)) (n:Nat),ds=[.tuple [.int b,.list (q.map dI)],.list (rooms.map jM)]/\0<b/\Bits 2000 b/\rooms.length=n/\n<=8/\q.length<=61/\1<=q.length/\(∀ r∈q,r.length=n)/\(∀ r∈q,∀ x∈r,x<=60*b)/\(∀ p∈rooms,0<=p.1/\0<=p.2/\p.2<=20*b)/\∀ W:List (List Win),W.length=n->(∀ k,k<n->IsW q.length k (winB b (zp q k) (rooms.getD k (0,0))) 1 (W.getD k []))->W.flatten.length<=2000->Q true (.list (W.flatten.map dW))
def zax(c:Law.Cl):Sp3:=fun ds Q E=>∃ t T:Int,ds=[.int t,.int T]/\(1<=t/\t<=T->Q true .none)/\(¬(1<=t/\t<=T)->E c.NoRule)
def zaG(c:Law.Cl):Sp3:=fun ds Q E=>∃ (rs:List Rule) (T n:Int),ds=[dRs rs,.int T,.int n]/\txtR rs/\(okRs T n rs->Q true .none)/\(¬okRs T n rs->E c.NoRule)
def ZI:SpC:=fun cs Q=>∃ (rs:List Rule) (n:Nat),cs=[.sh false (dRs rs),.sh true (.int n)]/\n<=8/\rs.length<=1000/\∀ ds,(ds.all fun p=>zx p.2)=true->Jd rs n ds->Q (.dt ds) []
def zbg:SpC:=fun cs Q=>∃ (v:Win) (t:Int) (ds:List (List Key×D)),cs=[.sh false (dW v),.sh true (.int t),.fd ds]/\(ds.all fun p=>zx p.2)=true/\Q (.sh true (.bool (mayD ds v t))) []
def zam(c:Law.Cl):Sp3:=fun ds Q E=>∃ (b:Int) (q:List (List Int)) (V:List Win) (rs:List Rule) (n T:Nat),ds=[.tuple [.int b,.list (q.map dI)],.list (V.map dW),dRs rs]/\q.length=T+1/\T<=60/\(∀ r∈q,r.length=n)/\n<=8/\V.length<=2000/\(∀ v∈V,InR v.1 n)/\rs.length<=1000/\txtR rs/\(okRs T n rs->∀ ch:List (List Int),ch.length=T->(∀ row∈ch,row.length<=2000/\row.Nodup/\∀ x∈row,InR x V.length)->ChOk rs V ch->Q true (.list (ch.map dI)))/\(¬okRs T n rs->E c.NoRule)
def ZS(c:Law.Cl):Sp3:=fun ds Q E=>∃ (row:List Int) (T n:Nat),ds=[dI row,.int T,.int n]/\(jk n T row->Q true .none)/\(¬jk n T row->E c.NoRow)
def zag:Sp3:=fun ds Q E=>∃ (V:List Win) (ch:List (List Int)),ds=[.list (V.map dW),.list (ch.map dI)]/\V.length<=2000/\ch.length<=60/\(∀ row∈ch,row.length<=2000/\∀ x∈row,InR x V.length)/\∀ tv:List (List Int),tv.length=V.length->(∀ row∈tv,∀ x∈row,InR x ch.length)->(∀ i,i<V.length->∀ j,j<ch.length->((j:Int)∈tv.getD i []↔(i:Int)∈ch.getD j []))->Q true (.list (tv.map dI))
def ZJ:SpC:=fun cs Q=>∃ (x:Int) (a1 a2 a3:Addr) (ca t h:Tb) (r:Int->Nat) (start:Int) (A B m:Nat) (Ed:Int->Int->Prop),cs=[.sh true (.int x),.dm a1 ca,.dm a2 t,.dm a3 h]/\Way Ed ca t r start A B/\OnWay Ed ca t h t h r x A B m/\A<=2000/\B<=2000/\∀ t' h',Moved Ed t h t' h' start A B->Q (.sh true .none) [ca,t',h']
def zaq:SpC:=fun cs Q=>∃ (start:Int) (ch:List (List Int)) (a2 a3:Addr) (t h:Tb) (A B:Nat),cs=[.sh true (.int start),.sh false (.list (ch.map dI)),.dm a2 t,.dm a3 h]/\ch.length=A/\A<=2000/\B<=2000/\(A<=62\/B<=62)/\InR start A/\(∀ row∈ch,∀ x∈row,InR x B)/\Mat t h/\TbOk t A B/\TbOk h B A/\getM t start=none/\(∀ s c,getM t s=some c->c∈ch.getD s.toNat [])/\(∀ t' h',Moved (fun s c=>c∈ch.getD s.toNat []) t h t' h' start A B->Q (.sh true (.list [])) [t',h'])/\∀ rs:List Int,rs.Nodup->rs.Pairwise (·<=·)->rs.length<64->(∀ x∈rs,InR x A/\(x=start\/(getM t x).isSome=true))->start∈rs->(∃ C:List Int,C.length<rs.length/\∀ x∈rs,∀ c∈ch.getD x.toNat [],c∈C)->Q (.sh true (dI rs)) [t,h]
def zay:Sp3:=fun ds Q E=>∃ (V:List Win) (ch:List (List Int)),ds=[.list (V.map dW),.list (ch.map dI)]/\V.length<=2000/\ch.length<=60/\(∀ row∈ch,row.length<=2000/\∀ x∈row,InR x V.length)/\∀ d,JI V ch.length (fun k i=>(i:Int)∈ch.getD k []) d->Q true d
def zab:Sp3:=fun ds Q E=>∃ a b:Rat2,ds=[dQ a,dQ b]/\okQ a/\okQ b/\Q true (.bool (decide (a.1*b.2<b.1*a.2)))
def zaH(c:Law.Cl):Sp3:=fun ds Q E=>∃ (l:List (Rat2×Rat2)) (n:Nat),ds=[dPs l,.int n]/\(∀ p∈l,okQ p.1/\okQ p.2)/\(okB n l->Q true .none)/\(¬okB n l->E c.NoBounds)
def zaS:Sp3:=fun ds Q E=>∃ (b:Int) (r:Rat2),ds=[.int b,dQ r]/\Bits 2000 b/\okQ r/\Q true (.int (jA b r))
def zaI(c:Law.Cl):Sp3:=fun ds Q E=>∃ (b:Int) (q:List (List Int)) (l:List (Rat2×Rat2)) (n:Nat),ds=[.tuple [.int b,.list (q.map dI)],dPs l]/\Bits 2000 b/\1<=q.length/\(∀ r∈q,r.length=n)/\n<=8/\l.length<=1000/\(∀ p∈l,okQ p.1/\okQ p.2)/\(okB n l->Q true (.list ((zE b l).map jM)))/\(¬okB n l->E c.NoBounds)
def Zz(c:Law.Cl):Sp3:=fun ds Q E=>∃ (l:List Spell) (bs:List (Rat2×Rat2)) (rs:List Rule) (row:List Int),ds=[dSs l,dPs bs,dRs rs,dI row]/\bs.length<=1000/\(∀ p∈bs,okQ p.1/\okQ p.2)/\rs.length<=1000/\txtR rs/\row.length<=1000/\(okS l->okB (many l) bs->okRs (tot l) (many l) rs->jk (many l) (tot l).toNat row->∀ W:List (List Win),IsWs l bs W->∀ ch:List (List Int),ch.length=(tot l).toNat->(∀ pl∈ch,∀ x∈pl,InR x W.flatten.length)->ChOk rs W.flatten ch->∀ d,zeW W.flatten ch row d->Q true d)/\(¬okS l->E c.NoSpell)/\(okS l->¬okB (many l) bs->E c.NoBounds)/\(okS l->okB (many l) bs->¬okRs (tot l) (many l) rs->E c.NoRule)/\(okS l->okB (many l) bs->okRs (tot l) (many l) rs->¬jk (many l) (tot l).toNat row->E c.NoRow)
def Z9:Sp3:=fun ds Q E=>∃ (b:Int) (rows:List (List Int)) (bs:List (Rat2×Rat2)) (row:List Int) (n:Nat),ds=[.int b,.list (rows.map dI),dPs bs,dI row]/\1<=n/\n<=8/\rows.length=row.length+1/\rows.length<=61/\(∀ r∈rows,r.length=n/\∀ x∈r,Bits 1000 x)/\(∀ c∈row,0<=c/\c<n)/\Bits 900 b/\bs.length=n/\(∀ p∈bs,okQ p.1/\okQ p.2)/\∀ r:Bool,(r=true↔kpP b n rows row bs)->Q true (.bool r)
def za9:Sp3:=fun ds Q E=>∃ (T n cc:Int),ds=[.int T,.int n,.int cc]/\1<=T/\T<=60/\1<=n/\n<=8/\∀ rs:List Rule,okRs T n rs->txtR rs->rs.length<=8->Q true (dRs rs)
def zar:Sp3:=fun ds Q E=>∃ i,ds=[.int i]/\Q true (.bool true)
def zaC:Sp3:=fun ds Q E=>∃ (row:List Int) (n t:Nat),ds=[dI row,.int t,.int n]/\jk n t row/\t<=1000/\Q true (.bool true)
def zaF:Sp3:=fun ds Q E=>∃ (rs:List Rule) (t c:Int),ds=[dRs rs,.int t,.int c]/\txtR rs/\(∀ r∈rs,r.1 = "fixed"\/r.1 = "barred")/\∀ b:Bool,(b=true↔¬jV rs t c)->Q true (.bool b)
def JX:Sp3:=fun ds Q E=>∃ ns,ds=[dI ns]/\ns.length<=63/\Q true (.bool true)
section
variable(c:Law.Cl)(P:Program)(w:World)(K:Ybf)(mg:Str->Option Value)(base:Heap)
abbrev dd_law_cell_at:=Df3 P w K mg base 1 "_law_cell_at" ["_law_script", "_law_k"] Z8
abbrev dd_law_mixed:=Df3 P w K mg base 1 "_law_mixed" ["_law_cell", "_law_k"] zbd
abbrev dd_law_wide:=Df3 P w K mg base 2 "_law_wide" ["_law_cell", "_law_k"] ZP
abbrev dd_law_spells:=Df3 P w K mg base 3 "_law_spells" ["_law_script", "_law_most"] Z0
abbrev dd_law_long:=Df3 P w K mg base 4 "_law_long" ["_law_script", "_law_most"] zaa
abbrev dd_law_quotas:=Df3 P w K mg base 1 "_law_quotas" ["_law_spells_here"] zbh
abbrev dd_law_row:=Df3 P w K mg base 3 "_law_row" ["_law_bottom", "_law_rows", "_law_cell"] za1
abbrev dd_law_ratio:=Df3 P w K mg base 1 "_law_ratio" ["_law_top", "_law_bottom"] ZE
abbrev dd_law_limits:=Df3 P w K mg base 3 "_law_limits" ["_law_bottom", "_law_rows", "_law_row_here", "_law_cell", "_law_own"] zaE
abbrev dd_law_kept_rules:=Df3 P w K mg base 1 "_law_kept_rules" ["_law_rules_here", "_law_row_here", "_law_clans"] zaA
abbrev dd_check_weights:=Df3 P w K mg base 1 "check_weights" ["weights"] (Z7 c)
abbrev dd_all_turns:=Df3 P w K mg base 1 "all_turns" ["spells"] zaf
abbrev dd_check_spells:=Df3 P w K mg base 2 "check_spells" ["spells"] (zai c)
abbrev dd_common_divisor:=Df3 P w K mg base 1 "common_divisor" ["one", "other"] ZU
abbrev dd_divisor_of_all:=Df3 P w K mg base 2 "divisor_of_all" ["weights"] ZV
abbrev dd_least_bottom:=Df3 P w K mg base 3 "least_bottom" ["spells"] zaQ
abbrev dd_shares_over:=Df3 P w K mg base 1 "shares_over" ["bottom", "weights"] zbe
abbrev dd_quotas:=Df3 P w K mg base 4 "quotas" ["spells"] (za5 c)
abbrev dd_first_turn:=Df3 P w K mg base 1 "first_turn" ["path", "wanted"] zaz
abbrev dd_window_of:=Df3 P w K mg base 2 "window_of" ["bottom", "path", "j", "room"] za3
abbrev dd_windows_of_clan:=Df3 P w K mg base 3 "windows_of_clan" ["told", "clan", "room"] za6
abbrev dd_windows_within:=Df3 P w K mg base 4 "windows_within" ["told", "rooms"] ZR
abbrev dd_check_turn:=Df3 P w K mg base 1 "check_turn" ["turn", "turns"] (zax c)
abbrev dd_check_rules:=Df3 P w K mg base 2 "check_rules" ["rules", "turns", "clans"] (zaG c)
abbrev dd_forbidden:=DfC P w K mg base 1 "forbidden" ["rules", "clans"] ZI
abbrev dd_may_come:=DfC P w K mg base 1 "may_come" ["visit", "turn", "barred"] zbg
abbrev dd_choices_of_turns:=Df3 P w K mg base 3 "choices_of_turns" ["told", "visits", "rules"] (zam c)
abbrev dd_check_row:=Df3 P w K mg base 1 "check_row" ["row", "turns", "clans"] (ZS c)
abbrev dd_choices_of_visits:=Df3 P w K mg base 1 "choices_of_visits" ["visits", "choices"] zag
abbrev dd_move_along:=DfC P w K mg base 1 "move_along" ["choice", "came", "taken", "holders"] ZJ
abbrev dd_settle:=DfC P w K mg base 2 "settle" ["start", "choices", "taken", "holders"] zaq
abbrev dd_place_visits:=Df3 P w K mg base 3 "place_visits" ["visits", "choices"] zay
abbrev dd_mend_visits:=DfU c.tb P w K mg base 6 "mend_visits" ["visits", "choices", "row"] Ze
abbrev dd_less:=Df3 P w K mg base 1 "less" ["one", "other"] zab
abbrev dd_check_bounds:=Df3 P w K mg base 2 "check_bounds" ["bounds", "clans"] (zaH c)
abbrev dd_room_at_most:=Df3 P w K mg base 1 "room_at_most" ["bottom", "bound"] zaS
abbrev dd_rooms_of:=Df3 P w K mg base 3 "rooms_of" ["told", "bounds"] (zaI c)
abbrev dd_mended:=DfU c.tb P w K mg base 7 "mended" ["spells", "bounds", "rules", "row"] (Zz c)
abbrev dd_law_keeps:=Df3 P w K mg base 1 "_law_keeps" ["_law_bottom", "_law_rows", "_law_bounds", "_law_row_here"] Z9
abbrev dd_law_rules:=Df3 P w K mg base 3 "_law_rules" ["_law_turns", "_law_clans", "_law_cell"] za9
abbrev dd_law_whole:=Df3 P w K mg base 1 "_law_whole" ["_law_found"] zar
abbrev dd_law_is_row:=Df3 P w K mg base 2 "_law_is_row" ["_law_row_here", "_law_turns", "_law_clans"] zaC
abbrev dd_law_lets:=Df3 P w K mg base 1 "_law_lets" ["_law_rules_here", "_law_t", "_law_clan"] zaF
end
local macro_rules | `(tactic| walk_at $w:str)=>do
 let ws:=w.getString.splitOn " "
 if ws.head? == some "o" then return (<-`(tactic| first|exact Or.inl rfl|exact Or.inr rfl|exact Or.inr (Or.inl rfl)|exact Or.inr (Or.inr rfl)))
 unless ws.head? == some "rd" do Lean.Macro.throwUnsupported
 let ds <-("seq3,next3,set3,own3,ret3,ifS3,tt3,o3,u3,v3,atV,asS,asB,asD,optP,asT,asLd,asL,atO,Zl,nilP,asId,asI,k3,nw3,add3,int3,int0,neg3,eq3,ne3,eqOk,eqv3,notN3,isNone,ix3,ixD,ZX,nil3,Zm,cb3,len3,lenD,abs3,max23,min23,sum3,max3,and3,or3,not3,zav,za0,ch3,tup3,lst3,zaK,catN,slL3,zas,ZW,L2.isD,Z5,asg3,gn3,zak,za7,gnil3,app3,put3,frzS,frz,frz1,for3,itL,itT,itZ,rg1,rg2,Jz,true3,cst3,ZM,Ja,shs,Cl.d,Cl.dat,Cl.f,zbA,zx,Option.map_some,Option.map_none,Option.isSome_some,Option.isSome_none,Option.join_some,Option.join_none,List.all_cons,List.all_nil,Bool.true_and,Wa9,Bool.true_or,Ya1,Wbl,List.length_cons,List.length_nil,Nat.reduceAdd,Nat.reduceSub,List.replicate,List.cons_append,List.nil_append,List.getElem?_cons_zero,List.getElem?_cons_succ,List.set_cons_zero,List.set_cons_succ,Wba,Wa3,par3,aug3,idx3,ext3,itE,k3f,za2,put2,app2,ix2,ZZ,zaO,intB3,frzD,dms,jy,argC,JS,Jk,finM,holds,updM,Zv,ZQ,zbf,zaj,zaM,zbb,Z1,zao,ZO,ZC,Z2,srtL,ninT3,zaY,List.foldl_cons,List.foldl_nil,Z8,zbd,ZP,Z0,zaa,zbh,za1,ZE,zaE,zaA,Z7,zaf,zai,ZU,ZV,zaQ,zbe,za5,zaz,za3,za6,ZR,zax,zaG,ZI,zbg,zam,ZS,zag,ZJ,zaq,zay,zab,zaH,zaS,zaI,Zz,Z9,za9,zar,zaC,zaF,JX,dSs,dS,dI,zx,dQ,dP,dPs,jM,dW,dRs,dRl,Ze,lE,kE,gE".splitOn ",").toArray.mapM fun s=>`(Lean.Parser.Tactic.simpLemma| $(Lean.mkIdent s.toName):term)
 let rs <-(("Wbb,Wa6,Bool.or_false,Bool.or_true,Wbi,Yao,WaH,Cl.sh.injEq,Cl.ow.injEq,WaS,WaI,WaT,WaJ,Waw,WaX,reduceCtorEq,and_assoc,and_true,true_and,and_self,exists_eq_left,exists_eq_left',exists_eq',exists_eq_right,exists_eq_right',exists_and_left,exists_const,exists_false,false_and,and_false,or_false,false_or,or_true,true_or,decide_true,decide_false,decide_eq_true_eq,Was,Wax,if_true,if_false,ite_true,ite_false,Waz,decide_eq_false_iff_not,eq_self_iff_true,not_true_eq_false,not_false_eq_true,sz0,sz1,sz2,sz3,sz4,Cl.tr.injEq,Cl.dt.injEq,Cl.fd.injEq,Cl.dm.injEq,atI0,atI1,atI2,atI3".splitOn ",")++ws.tail).toArray.mapM fun s=>`(Lean.Parser.Tactic.simpLemma| $(Lean.mkIdent s.toName):term)
 let ls:=ds++rs
 `(tactic| ((try dsimp only [$ds:simpLemma,*]);try simp (config:={ maxSteps:=2000000 }) only [$ls:simpLemma,*]))
theorem zdd(T:Txt c K mg):dd_law_cell_at P w K mg base:=by
 obtain⟨f,fd,F,hm⟩:=T.d_law_cell_at;have S:FnScope ["_law_script", "_law_k"] ["_law_script", "_law_k"] (zh (top 57)):=⟨rfl,rfl,rfl,#[3],rfl,#[3],#[3]⟩
 refine⟨fun ds Q Q' E E' hQ hE h=>?_,⟨f,fd,fn3 F S (fun ds Q E h=>?_) (fun cdv A outer s H E E3 hE hr=>?_),F.binds fun _ _ _ _ _ _ us hl=>by obtain⟨_,_,rfl⟩:=zan hl;rfl,F.kp,hm⟩⟩
 . revert h;repeat' (first|exact fun h=>h|exact hQ _ _|exact hE _|refine Exists.imp fun _=>?_|refine And.imp ?_ ?_|refine forall_imp fun _=>?_)
 . obtain⟨_,_,rfl,_⟩:=h;rfl
 refine⟨_,(zd (s_if (zt jW (n3 1) (zq zA rfl T.n_len zv (za (n3 0) zb)) (nomark _)) (ze (zr (op3 zL (at3 (n3 0) (n3 1) (fun _ _=>rfl)) (op3 JB i3 i3)))) zu)
  (ze (zr i3))),fun i Q h=>?_⟩
 obtain⟨a,k,rfl,hk,q⟩:=h
 walk_at "rd"
 rw [YaR]
 by_cases h:k<a.length
 . rw [if_pos h]
   obtain⟨x,e,_⟩:=zaZ (xs:=a) hk h;refine⟨.int x,by rw [Zr,e];rfl,c64,?_⟩
   exact⟨#[1],q _⟩
 . rw [if_neg h]
   exact q _
theorem ziq(T:Txt c K mg):dd_law_mixed P w K mg base:=by
 obtain⟨f,fd,F,hm⟩:=T.d_law_mixed;have S:FnScope ["_law_cell", "_law_k", "_law_one"] ["_law_cell", "_law_k"] (zh (top 58)):=⟨rfl,rfl,rfl,#[3],rfl,#[3],#[3]⟩
 refine⟨fun ds Q Q' E E' hQ hE h=>?_,⟨f,fd,fn3 F S (fun ds Q E h=>?_) (fun cdv A outer s H E E3 hE hr=>?_),F.binds fun _ _ _ _ _ _ us hl=>by obtain⟨_,_,rfl⟩:=zan hl;rfl,F.kp,hm⟩⟩
 . revert h;repeat' (first|exact fun h=>h|exact hQ _ _|exact hE _|refine Exists.imp fun _=>?_|refine And.imp ?_ ?_|refine forall_imp fun _=>?_)
 . obtain⟨_,_,rfl,_⟩:=h;rfl
 refine⟨_,(zd ((zl (i:=2) S.nd rfl #[2]) (op3 zL (op3 zW (op3 zU (op3 zL (n3 0) (op3 JB i3 i3)) (op3 zW i3 (op3 zU (n3 1) i3))) i3) (op3 JB i3 i3)))
  (ze (zr (op3 zL (op3 zI (op3 zW (n3 2) (n3 2)) (op3 JB i3 i3)) (op3 JB i3 i3))))),fun v Q h=>?_⟩
 obtain⟨e,k,rfl,A,u,q⟩:=h
 walk_at "rd"
 have cp:∀ n:Int,0<=n->n<=100->J9 10 n:=fun n h r=>powB (k:=4) (by unfold Bits;decide) h #[0]
 have g:Bits 64 (k+1):=by unfold Bits;omega
 have l:Bits 128 (e%10 ^ Int.toNat 18):=(Bits.emod (Bits.lit 64) #[1] _).mono #[1]
 have p:=(Bits.lit (x:=1442695040888963407) 64).mul g;have b3:=l.add p;generalize e%10 ^ Int.toNat 18+1442695040888963407*(k+1)=y at b3 ⊢;have b:Bits 130 (y*6364136223846793005%10 ^ Int.toNat 37):=Bits.emod (by unfold Bits;decide) #[1] _
 generalize y*6364136223846793005%10 ^ Int.toNat 37=z at b ⊢;exact⟨cp 18 #[1] #[1],#[1],(Bits.lit (x:=1442695040888963407) 64).mulOk g #[1],b3.mulOk (Bits.lit 64) #[1],cp 37 #[1] #[1],#[1],b.mulOk b #[1],cp 17 #[1] #[1],divP,cp 56 #[1] #[1],#[1],q _⟩
theorem ZL(T:Txt c K mg):dd_law_wide P w K mg base:=by
 have znd:dd_law_mixed P w K mg base:=ziq T;obtain⟨f,fd,F,hm⟩:=T.d_law_wide;have S:FnScope ["_law_cell", "_law_k"] ["_law_cell", "_law_k"] (zh (top 59)):=⟨rfl,rfl,rfl,#[3],rfl,#[3],#[3]⟩
 refine⟨fun ds Q Q' E E' hQ hE h=>?_,⟨f,fd,fn3 F S (fun ds Q E h=>?_) (fun cdv A outer s H E E3 hE hr=>?_),F.binds fun _ _ _ _ _ _ us hl=>by obtain⟨_,_,rfl⟩:=zan hl;rfl,F.kp,hm⟩⟩
 . revert h;repeat' (first|exact fun h=>h|exact hQ _ _|exact hE _|refine Exists.imp fun _=>?_|refine And.imp ?_ ?_|refine forall_imp fun _=>?_)
 . obtain⟨_,_,rfl,_⟩:=h;rfl
 refine⟨_,(zd (s_if (zt jW (n3 0) (op3 JB i3 i3) (nomark _)) (ze (zr (df3 hE znd (hr.mono #[1]) rfl zm (za (n3 0) (za (n3 1) zb))))) zu)
  (ze (zr (n3 0)))),fun j Q h=>?_⟩
 obtain⟨g,k,rfl,b,h1,q⟩:=h
 walk_at "rd"
 refine⟨powB (k:=4) (by unfold Bits;decide) #[1] #[1],ite2 (fun _=>⟨b,h1,q⟩) fun _=>q _⟩
theorem zmF(T:Txt c K mg):dd_law_spells P w K mg base:=by
 have zm6:dd_law_cell_at P w K mg base:=zdd T;have znk:dd_law_wide P w K mg base:=ZL T;obtain⟨f,fd,F,hm⟩:=T.d_law_spells;have S:FnScope ["_law_script", "_law_most", "_law_first", "_law_clans", "_law_count", "_law_spells_here", "_law_k", "_law_cell", "_law_length", "_law_size", "_law_weights", "_law_i"] ["_law_script", "_law_most"] (zh (top 60)):=⟨rfl,rfl,rfl,#[3],rfl,#[3],#[3]⟩
 refine⟨fun ds Q Q' E E' hQ hE h=>?_,⟨f,fd,fn3 F S (fun ds Q E h=>?_) (fun cdv A outer s H E E3 hE hr=>?_),F.binds fun _ _ _ _ _ _ us hl=>by obtain⟨_,_,rfl⟩:=zan hl;rfl,F.kp,hm⟩⟩
 . revert h;repeat' (first|exact fun h=>h|exact hQ _ _|exact hE _|refine Exists.imp fun _=>?_|refine And.imp ?_ ?_|refine forall_imp fun _=>?_)
 . obtain⟨_,_,rfl,_⟩:=h;rfl
 refine⟨_,(zd ((zl (i:=2) S.nd rfl #[2]) (df3 hE zm6 (hr.mono #[1]) rfl zm (za (n3 0) (za i3 zb))))
  (zd ((zl (i:=3) S.nd rfl #[2]) (op3 zU i3 (op3 zL (n3 2) i3)))
  (zd ((zl (i:=4) S.nd rfl #[2]) (op3 zU i3 (op3 zL (op3 zI (n3 2) i3) i3)))
  (zd ((ji (i:=5) S.nd rfl #[2]) (z0 zb))
  (zd (zz WaF rfl (z9 rfl T.n_range (za (n3 4) zb)) (zj (i:=6) S.nd rfl #[2]) (zd ((zl (i:=7) S.nd rfl #[2]) (df3 hE znk (hr.mono #[1]) rfl zm (za (df3 hE zm6 (hr.mono #[1]) rfl zm (za (n3 0) (za (op3 zU i3 (n3 6)) zb))) (za (op3 zU (op3 zL (n3 2) i3) (op3 zW i3 (n3 6))) zb))))
   (zd ((zl (i:=8) S.nd rfl #[2]) (op3 zU i3 (op3 zL (n3 7) (op3 zI (n3 1) (n3 4)))))
   (zd ((zl (i:=7) S.nd rfl #[2]) (op3 zI (n3 7) (op3 zI (n3 1) (n3 4))))
   (zd ((zl (i:=9) S.nd rfl #[2]) (at3 (new3 (z0 (za i3 (za i3 (za i3 (za (op3 JB i3 i3) zb)))))) (op3 zL (n3 7) i3) (fun _ _=>rfl)))
   (zd ((zl (i:=7) S.nd rfl #[2]) (op3 zI (n3 7) i3))
   (zd ((ji (i:=10) S.nd rfl #[2]) (z0 zb))
   (zd (zz WaF rfl (z9 rfl T.n_range (za (n3 3) zb)) (zj (i:=11) S.nd rfl #[2]) (zd (jw (i:=10) rfl #[2] (op3 zL (n3 7) (n3 9)))
    (ze ((zl (i:=7) S.nd rfl #[2]) (op3 zI (n3 7) (n3 9))))))
   (zd (s_if (zt (jl hr.units) (zq (J8 rfl) rfl T.n_sum JU (za (n3 10) zb)) i3 (nomark _)) (ze (JQ (i:=10) rfl #[2] (op3 zL (n3 7) (n3 3)) i3)) zu)
   (ze (jm [10] (jw (i:=5) rfl #[2] (zY (za (n3 8) (za (n3 10) zb)))))))))))))))
  (ze (jm [5] (zr (n3 5))))))))),fun ds Q h=>?_⟩
 obtain⟨ns,m,rfl,h4,h60,q⟩:=h
 walk_at "rd"
 refine⟨ns,rfl,#[1],fun v=>⟨#[1],divP,#[1],#[0],#[0],?_⟩⟩
 obtain⟨n,hn⟩:∃ n:Nat,1+v%8=(n:Int):=⟨(1+v%8).toNat,#[0]⟩
 obtain⟨cn,hcn⟩:∃ n:Nat,1+v/8%4=(n:Int):=⟨(1+v/8%4).toNat,#[0]⟩
 have hn8:1<=n/\n<=8:=#[0]
 have hc4:1<=cn/\cn<=4:=#[0]
 rw [hn,hcn,Int.toNat_natCast];have hmul:(cn:Int)*(m/cn)<=m:=Int.mul_ediv_self_le #[0]
 have hper:1<=m/(cn:Int):=Int.le_ediv_of_mul_le #[0] #[0]
 have hper2:m/(cn:Int)<=60:=Int.le_trans (Int.ediv_le_self _ #[0]) h60
 have dcn:jU m (cn:Int):=⟨#[0],Bits.lit (x:=(cn:Int)) 9000 #[0]⟩
 generalize hp:m/(cn:Int)=per at hmul hper hper2;have c6:J9 10 6:=powB (k:=4) (by unfold Bits;decide) #[1] #[1]
 refine je (fun k ρ=>∃ (l:List Spell) (t1 t2 t3 t4 t5 t6:Option L3.Cl),ρ = [some (.sh false (.list (ns.map .int))),some (.sh true (.int m)),some (.sh true (.int v)),some (.sh true (.int n)),some (.sh true (.int cn)),some (.ow true (l.map dS)),t1,t2,t3,t4,t5,t6]/\l.length=k/\∀ s∈l,1<=s.1/\s.1<=per/\okW s.2/\s.2.length=n/\∀ w∈s.2,w<10 ^ 6) ?_ ?_ ⟨[],none,none,none,none,none,none,rfl,rfl,fun s h=>by cases h⟩
 . rintro k ρ hk ⟨l,t1,t2,t3,t4,t5,t6,rfl,hl,hs⟩ W hW
   walk_at "rd"
   rw [hp];refine⟨ns,rfl,#[0],fun v1=>⟨#[1],(Bits.lit (x:=64) 64).mulOk (Bits.lit (x:=0+(k:Int)) 64 #[0]) #[1],#[0],#[0],fun v2=>⟨dcn,#[0],dcn,⟨#[0],Bits.lit (x:=per) 9000 #[0]⟩,c6,#[1],?_⟩⟩⟩
   obtain⟨d,hd,hm,_⟩:=zaZ (xs:=[PyData.int 3,PyData.int 11,PyData.int 2,PyData.int (10 ^ Int.toNat 6)]) (i:=v2/per%4) #[0] (by show v2/per%4<4;omega)
   obtain⟨sz',rfl,hs2,hs30⟩:∃ z,d=PyData.int z/\2<=z/\z<=10 ^ 6:=by
    simp only [Wa5,WaR,or_false] at hm
    rcases hm with rfl|rfl|rfl|rfl<;>exact⟨_,rfl,#[1],#[1]⟩
   refine⟨_,hd,?_⟩
   walk_at "rd"
   refine⟨divP,#[0],#[0],?_⟩
   have hsb:Bits 9000 sz':=Bits.lit (x:=sz') 9000 #[0]
   have hlen0:=Ybc v2 (show per≠0 by omega)
   have hlen1:=Ybd v2 (show 0<per by omega)
   rw [Int.toNat_natCast];refine je (fun j ρ=>∃ (ws:List Int) (c':Int) (t:Option L3.Cl),ρ = [some (.sh false (.list (ns.map .int))),some (.sh true (.int m)),some (.sh true (.int v)),some (.sh true (.int n)),some (.sh true (.int cn)),some (.ow true (l.map dS)),some (.sh true (.int (0+k))),some (.sh true (.int c')),some (.sh true (.int (1+v2%per))),some (.sh true (.int sz')),some (.ow true (ws.map .int)),t]/\ws.length=j/\∀ w∈ws,0<=w/\w<10 ^ 6) ?_ ?_ ⟨[],_,t6,rfl,rfl,fun _ h=>by cases h⟩
   . rintro j ρ hj ⟨ws,c',t,rfl,hl',hw⟩ W' hW'
     walk_at "rd"
     rw [YaR];refine⟨#[0],YaU (show _<1000000 by omega) #[1],⟨#[0],hsb⟩,hW' _ ⟨ws++[c'%sz'],_,_,by rw [Ya2];rfl,by simp [hl'],fun w hw'=>?_⟩⟩
     rcases Ya3.mp hw' with z|z
     . exact hw w z
     . rw [Ya6.mp z]
       have:=Ybc c' (show sz'≠0 by omega)
       have:=Ybd c' (show 0<sz' by omega)
       exact⟨#[0],#[0]⟩
   . rintro ρ ⟨ws,c',t,rfl,hl',hw⟩
     have e6:(10:Int) ^ 6<=10 ^ 30:=#[1]
     have fin:∀ ws':List Int,ws'.length=n->(∀ w∈ws',0<=w/\w<10 ^ 6)->ws'.sum≠0->∀ t t7,W [some (.sh false (.list (ns.map .int))),some (.sh true (.int m)),some (.sh true (.int v)),some (.sh true (.int n)),some (.sh true (.int cn)),some (.ow true (l.map dS++[.tuple [.int (1+v2%per),.list (ws'.map .int)]])),some (.sh true (.int (0+k))),some (.sh true (.int c')),some (.sh true (.int (1+v2%per))),some (.sh true (.int sz')),t7,t]:=fun ws' h1 h2 h3 t t7=>hW _ ⟨l++[(1+v2%per,ws')],_,_,_,_,_,_,by rw [Ya2];rfl,by simp [hl],fun s hs'=>by
      rcases Ya3.mp hs' with z|z
      . exact hs s z
      . rw [Ya6.mp z]
        exact⟨by show 1<=1+v2%per;omega,by show 1+v2%per<=per;omega,⟨by show 1<=ws'.length/\ws'.length<=8;omega,fun w hw=>⟨(h2 w hw).1,by have:=(h2 w hw).2;omega⟩,h3⟩,h1,fun w hw=>(h2 w hw).2⟩⟩
     walk_at "rd"
     refine⟨ws,Jh _,?_⟩
     by_cases hz:ws.sum=0
     . rw [if_pos hz]
       have m0:=Ybc c' (show(n:Int)≠0 by omega)
       have m1:=Ybd c' (show 0<(n:Int) by omega)
       have hi:ixN (ws.map PyData.int).length (c'%n)=some (c'%n).toNat:=by
        rw [YaR];exact j9 m0 #[0]
       have e:(ws.map PyData.int).set (c'%n).toNat (PyData.int 1)=(ws.set (c'%n).toNat 1).map PyData.int:=by rw [Wbk]
       have hw':∀ w∈ws.set (c'%n).toNat 1,0<=w/\w<10 ^ 6:=fun w h=>by
        rcases Waf h with z|z
        . exact hw w z
        . subst z;exact⟨#[1],#[1]⟩
       refine⟨#[0],_,hi,?_⟩
       rw [e];exact⟨YaU (show _<1000000 by rw [YaR];omega) #[1],fin _ (by rw [YaN];exact hl') hw' (zmm (fun w h=>(hw' w h).1) (List.mem_set #[0] 1)) _ _⟩
     . rw [if_neg hz]
       exact⟨YaU (show _<1000000 by rw [YaR];omega) #[1],fin ws hl' hw hz _ _⟩
 . rintro ρ ⟨l,t1,t2,t3,t4,t5,t6,rfl,hl,hs⟩
   walk_at "rd"
   have hmany:∀ s∈l,s.2.length=many l:=fun s hs'=>by
    cases l with
    | nil=>cases hs'
    | cons a r=>exact(hs s hs').2.2.2.1.trans (hs a YaV).2.2.2.1.symm
   refine q l ⟨#[0],fun s hs'=>⟨(hs s hs').1,(hs s hs').2.2.1,hmany s hs'⟩,?_⟩ fun s hs'=>(hs s hs').2.2.2.2
   have:=ziz (l:=l) (B:=per) fun s hs'=>(hs s hs').2.1
   have h2:(l.length:Int)*per<=cn*per:=by rw [hl];exact Wbn _
   omega
theorem zj2(T:Txt c K mg):dd_law_long P w K mg base:=by
 have zni:dd_law_spells P w K mg base:=zmF T;have znk:dd_law_wide P w K mg base:=ZL T;have zm6:dd_law_cell_at P w K mg base:=zdd T;obtain⟨f,fd,F,hm⟩:=T.d_law_long;have S:FnScope ["_law_script", "_law_most", "_law_spells_here", "_law_length", "_law_weights"] ["_law_script", "_law_most"] (zh (top 61)):=⟨rfl,rfl,rfl,#[3],rfl,#[3],#[3]⟩
 refine⟨fun ds Q Q' E E' hQ hE h=>?_,⟨f,fd,fn3 F S (fun ds Q E h=>?_) (fun cdv A outer s H E E3 hE hr=>?_),F.binds fun _ _ _ _ _ _ us hl=>by obtain⟨_,_,rfl⟩:=zan hl;rfl,F.kp,hm⟩⟩
 . revert h;repeat' (first|exact fun h=>h|exact hQ _ _|exact hE _|refine Exists.imp fun _=>?_|refine And.imp ?_ ?_|refine forall_imp fun _=>?_)
 . obtain⟨_,_,rfl,_⟩:=h;rfl
 refine⟨_,(zd (s_if (zt (jB hr.units) (op3 zL (op3 zI (df3 hE znk (hr.mono #[1]) rfl zm (za (df3 hE zm6 (hr.mono #[1]) rfl zm (za (n3 0) (za i3 zb))) (za i3 zb))) i3) i3) i3 (nomark _)) (ze (zr (df3 hE zni (hr.mono #[1]) rfl zm (za (n3 0) (za (n3 1) zb))))) zu)
  (zd ((ji (i:=2) S.nd rfl #[2]) (z0 zb))
  (zd (zz WaF rfl (zP (df3 hE zni (hr.mono #[1]) rfl zm (za (n3 0) (za i3 zb)))) (ja (n:=2) rfl (zw (zj (i:=3) S.nd rfl #[2]) (zw (zj (i:=4) S.nd rfl #[2]) z8))) (ze (jw (i:=2) rfl #[2] (zY (za (n3 3) (za (new3 (cat3 (new3 (z0 (za (op3 zU (at3 (n3 4) i3 (fun _ _=>rfl)) i3) zb))) (new3 (ziE (n3 4) (zfX i3) (zfX i3))))) zb))))))
  (ze (jm [2] (zr (n3 2))))))),fun ds Q h=>?_⟩
 obtain⟨ns,m,rfl,h4,h60,q⟩:=h
 walk_at "rd"
 refine⟨ns,rfl,#[1],fun _=>⟨#[1],#[1],fun v=>⟨divP,#[1],ite2 (fun _=>⟨ns,rfl,h4,h60,fun l hl _=>q l hl⟩) fun _=>⟨ns,rfl,#[1],#[1],fun l hok hlt=>?_⟩⟩⟩⟩
 refine jp dS l (fun done ρ=>∃ (l':List Spell) (t u:Option L3.Cl),ρ = [some (.sh false (.list (ns.map .int))),some (.sh true (.int m)),some (.ow true (l'.map dS)),t,u]/\l'=done.map fun s=>(s.1,(s.2.getD 0 0+1)::(s.2.drop 1).take 1)) ?_ ?_ ⟨[],none,none,rfl,rfl⟩
 . rintro done s rest ρ hd ⟨l',t,u,rfl,hl'⟩ W hW
   have hs:s∈l:=by rw [hd];simp
   obtain⟨hs1,hsok,hsn⟩:=hok.2.1 s hs;have hg:=jo (xs:=s.2) (i:=0) #[1] (by have:=hsok.1.1;lia)
   rw [show(0:Int).toNat=0 from rfl] at hg
   have hdl:done.length<=8:=by have:=hok.1.2;rw [hd,YaS] at this;lia
   walk_at "rd hg"
   have hcut:cut (s.2.map PyData.int) (some 1) (some 2)=((s.2.drop 1).take 1).map PyData.int:=by
    rw [zhM]
    congr 1
    have hl1:=hsok.1.1;unfold cut;have e1:HT.sIx s.2.length 0 (some 1)=1:=by
     have:=HT.sIx_nat s.2.length 0 1;rw [show((1:Nat):Int)=1 from rfl] at this
     rw [this];lia
    have e2:HT.sIx s.2.length s.2.length (some 2)=min 2 s.2.length:=by
     have:=HT.sIx_nat s.2.length s.2.length 2;rw [show((2:Nat):Int)=2 from rfl] at this
     rw [this]
    rw [e1,e2]
    by_cases h2:2<=s.2.length
    . rw [Nat.min_eq_left h2]
    . have e3:s.2.length=1:=#[94]
      rw [e3];have:s.2.drop 1=[]:=List.drop_eq_nil_of_le #[94]
      rw [this];rfl
   rw [hcut];refine⟨sz (by rw [YaR,WaM];lia),YaU (show _<1000 by rw [YaR,hl',YaR];lia) #[1],hW _ ⟨l'++[(s.1,(s.2.getD 0 0+1)::(s.2.drop 1).take 1)],_,_,by rw [Ya2];rfl,by rw [hl',Ya2];rfl⟩⟩
 . rintro ρ ⟨l',t,u,rfl,hl'⟩
   walk_at "rd"
   refine q l' ?_
   have hm:∀ s∈l,((s.2.getD 0 0+1)::(s.2.drop 1).take 1).length=1+min 1 (many l - 1):=fun s hs=>by
    have:=(hok.2.1 s hs).2.2;rw [List.length_cons,WaM,List.length_drop,this];lia
   have hmany:many l'=1+min 1 (many l - 1):=by
    cases l with
    | nil=>have:=hok.1.1;simp at this
    | cons a r=>rw [hl'];exact hm a YaV
   have hmk:=zbk hok;refine⟨by rw [hl',YaR];exact hok.1,fun s hs=>?_,?_⟩
   . rw [hl'] at hs
     obtain⟨s0,hs0,rfl⟩:=Ya7.mp hs;obtain⟨a1,a2,a3⟩:=hok.2.1 s0 hs0;have hmem:s0.2.getD 0 0∈s0.2:=by
      rw [YaP,YaQ (by have:=a2.1.1;lia)];exact Ya4 _
     have h0:=a2.2.1 _ hmem;refine⟨a1,⟨by rw [hm s0 hs0];lia,fun w hw=>?_,?_⟩,by rw [hmany];exact hm s0 hs0⟩
     . rcases Wa5.mp hw with z|z
       . subst z
         have h6:=hlt s0 hs0 _ hmem
         lia
       . exact a2.2.1 w (List.mem_of_mem_drop (List.mem_of_mem_take z))
     . rw [List.sum_cons]
       have:=Zy (ws:=(s0.2.drop 1).take 1) fun w hw=>(a2.2.1 w (List.mem_of_mem_drop (List.mem_of_mem_take hw))).1
       lia
   . have:tot l'=tot l:=by
      unfold tot;rw [hl',YaD];rfl
     rw [this];exact hok.2.2
theorem zg3(T:Txt c K mg):dd_law_quotas P w K mg base:=by
 obtain⟨f,fd,F,hm⟩:=T.d_law_quotas;have S:FnScope ["_law_spells_here", "_law_bottom", "_law_length", "_law_weights", "_law_rows", "_law_turn", "_law_row_here", "_law_k", "_law_share"] ["_law_spells_here"] (zh (top 62)):=⟨rfl,rfl,rfl,#[3],rfl,#[3],#[3]⟩
 refine⟨fun ds Q Q' E E' hQ hE h=>?_,⟨f,fd,fn3 F S (fun ds Q E h=>?_) (fun cdv A outer s H E E3 hE hr=>?_),F.binds fun _ _ _ _ _ _ us hl=>by obtain⟨_,rfl⟩:=zk5 hl;rfl,F.kp,hm⟩⟩
 . revert h;repeat' (first|exact fun h=>h|exact hQ _ _|exact hE _|refine Exists.imp fun _=>?_|refine And.imp ?_ ?_|refine forall_imp fun _=>?_)
 . obtain⟨_,rfl,_⟩:=h;rfl
 refine⟨_,(zd ((zl (i:=1) S.nd rfl #[2]) i3)
  (zd (zz WaF rfl (zP (n3 0)) (ja (n:=2) rfl (zw (zj (i:=2) S.nd rfl #[2]) (zw (zj (i:=3) S.nd rfl #[2]) z8))) (ze ((zl (i:=1) S.nd rfl #[2]) (op3 zW (n3 1) (zq (J8 rfl) rfl T.n_sum JU (za (n3 3) zb))))))
  (zd ((ji (i:=4) S.nd rfl #[2]) (z0 (za (new3 (jL ["_law_weight"] [] [] rfl (zX (osc:=zh (top 62)) #[3]) rfl (zP (at3 (at3 (n3 0) i3 (fun _ _=>rfl)) i3 (fun _ _=>rfl))) (fun H0 s H fp cl=>⟨(zj (i:=0) (show((["_law_weight"]:List PySem.Str)++([]:List PySem.Str)).Nodup by decide) rfl #[2]),jC,i3⟩))) zb)))
  (zd (zz WaF rfl (zP (n3 0)) (ja (n:=2) rfl (zw (zj (i:=2) S.nd rfl #[2]) (zw (zj (i:=3) S.nd rfl #[2]) z8))) (ze (zz WaF rfl (z9 rfl T.n_range (za (n3 2) zb)) (zj (i:=5) S.nd rfl #[2]) (zd ((ji (i:=6) S.nd rfl #[2]) (z0 zb))
   (zd (zz WaF rfl (z9 rfl T.n_range (za (zq zA rfl T.n_len zv (za (n3 3) zb)) zb)) (zj (i:=7) S.nd rfl #[2]) (zd ((zl (i:=8) S.nd rfl #[2]) (op3 zW (at3 (n3 3) (n3 7) (fun _ _=>rfl)) (op3 zI (n3 1) (zq (J8 rfl) rfl T.n_sum JU (za (n3 3) zb)))))
    (ze (jw (i:=6) rfl #[2] (op3 zU (at3 (at3 (n3 4) (un3 zhq i3) (fun _ _=>rfl)) (n3 7) (fun _ _=>rfl)) (n3 8))))))
   (ze (jm [6] (jw (i:=4) rfl #[2] (n3 6)))))))))
  (ze (jm [4] (zr (zY (za (n3 1) (za (n3 4) zb)))))))))),fun ds Q h=>?_⟩
 obtain⟨l,rfl,y,q⟩:=h;have hm:=zbk y;have hB:=zal y;have a5:=zcY y;have ad:l≠[]:=fun z=>by have:=y.1.1;rw [z] at this;simp at this
 have ah:atI (l.map dS) 0=some (dS (l.headD (0,[]))):=by
  cases l with
  | nil=>exact absurd rfl ad
  | cons a r=>exact atI0
 walk_at "rd"
 refine jp dS l (fun b ρ=>∃ t u,ρ = [some (.sh false (.list (l.map dS))),some (.sh true (.int (zg b))),t,u,none,none,none,none,none]) ?_ ?_ ⟨none,none,rfl⟩
 . rintro b s J ρ hd ⟨t,u,rfl⟩ W hW
   have M:s∈l:=by rw [hd];simp
   have A:=(y.2.1 s M).2.1;have a9:=zbI b 1 1 (fun t ht=>(y.2.1 t (by rw [hd];exact Yai _ ht)).2.1) #[1] (by unfold Bits;decide)
   have am:b.length<=8:=by have:=y.1.2;rw [hd,YaS] at this;lia
   walk_at "rd"
   refine⟨s.2,Jh _,(a9.2.mono (k:=900) #[94]).mulOk (Zd A) #[1],?_⟩
   rw [<-zhQ];exact hW _ ⟨_,_,rfl⟩
 rintro ρ ⟨t,u,rfl⟩
 walk_at "rd ah atI1 YaR"
 refine⟨sz (by have:=hm.2;unfold many at this;lia),?_⟩
 refine jv PyData.int (fun _=>.int 0) (fun ρ=>∃ t,ρ = [t]) (l.headD (0,[])).2 ?_ _ _ _ _ ⟨none,rfl⟩ ?_
 . rintro w hw ρ fa ak K ⟨t,rfl⟩ k
   walk_at "rd"
   exact k _ ⟨_,rfl⟩
 have hz:(l.headD (0,[])).2.map (fun _=>PyData.int 0)=(zeros l).map .int:=by
  unfold zeros many;rw [Yaz,Wa0]
 rw [List.nil_append,hz];have ac:Jw (many l) (zeros l,[zeros l]):=⟨by unfold zeros;simp,fun r hr=>by rw [Ya6.mp hr];unfold zeros;simp⟩
 refine jp dS l (fun b ρ=>∃ t1 t2 t3 t4 Z Y r,ρ = [some (.sh false (.list (l.map dS))),some (.sh true (.int (zg l))),t1,t2,some (.ow true ((runQ (zg l) b (zeros l,[zeros l])).2.map dI)),t3,t4,Z,Y]/\Jw (many l) (runQ (zg l) b (zeros l,[zeros l]))/\(runQ (zg l) b (zeros l,[zeros l])).2=r++[(runQ (zg l) b (zeros l,[zeros l])).1]/\((runQ (zg l) b (zeros l,[zeros l])).2.length:Int)=1+tot b) ?_ ?_ ⟨_,_,none,none,none,none,[],rfl,ac,rfl,rfl⟩
 . rintro b s J ρ hd ⟨t1,t2,t3,t4,Z,Y,r,rfl,U,C,N⟩ W hW
   have M:s∈l:=by rw [hd];simp
   obtain⟨al,A,ab⟩:=y.2.1 s M;have X:s.2.length=many l:=ab;have aa:∀ s∈l,1<=s.1:=fun s M=>(y.2.1 s M).1
   have ai:tot b+s.1<=60:=by
    have aj:=y.2.2;have e:tot l=tot b+(s.1+tot J):=by unfold tot;rw [hd,Ya2,WaZ,Ya1,List.sum_cons]
    have:0<=tot J:=Jg fun s M=>aa s (by rw [hd];exact Yaa _ (YaT _ M))
    lia
   have af:s.2.sum∣zg l:=zfi M;have a3:=jN A;generalize hp:runQ (zg l) b (zeros l,[zeros l])=p at U C N;have er:runQ (zg l) (b++[s]) (zeros l,[zeros l])=rep (zD (shares (zg l) s.2)) s.1.toNat p:=by
    unfold runQ at hp ⊢;rw [WaD,hp];rfl
   have et:tot (b++[s])=tot b+s.1:=by unfold tot;rw [Ya2,WaZ];simp
   rw [er,et] at hW;have a2:∀ i (O:i<s.2.length),s.2[i]*(zg l/s.2.sum)=(shares (zg l) s.2).getD i 0:=fun i O=>by
    unfold shares;rw [YaP,Ya0,YaQ O];show _=s.2[i]*zg l/s.2.sum;rw [Int.mul_ediv_assoc _ af]
   have I:(shares (zg l) s.2).length=many l:=by rw [zdz];exact X
   generalize shares (zg l) s.2=E at hW a2 I er
   walk_at "rd"
   refine⟨#[94],#[94],?_⟩
   refine je (fun j ρ=>∃ t3 t4 Z Y r,ρ = [some (.sh false (.list (l.map dS))),some (.sh true (.int (zg l))),some (.sh true (.int (s.1))),some (.sh false (.list (s.2.map .int))),some (.ow true ((rep (zD E) j p).2.map dI)),t3,t4,Z,Y]/\Jw (many l) (rep (zD E) j p)/\(rep (zD E) j p).2=r++[(rep (zD E) j p).1]/\((rep (zD E) j p).2.length:Int)=1+tot b+j) ?_ ?_ ⟨_,_,_,_,r,rfl,U,C,by show(p.2.length:Int)=_;lia⟩
   . rintro j ρ hj ⟨y3,y4,y5,y6,r,rfl,v,g,L⟩ W' a0
     rw [zfy] at a0;generalize rep (zD E) j p=B at v g L a0;have G:(addL B.1 E).length=many l:=by rw [zcb (by rw [v.1,I]),v.1]
     have a7:atI (B.2.map dI) (-1)=some (PyData.list (B.1.map PyData.int)):=by
      rw [g,Ya2,Ya1,Wbl,zgp];rfl
     walk_at "rd"
     rw [YaR,X];refine⟨#[94],#[94],?_⟩
     rw [Int.toNat_natCast];refine je (fun i ρ=>∃ Z Y,ρ = [some (.sh false (.list (l.map dS))),some (.sh true (.int (zg l))),some (.sh true (.int (s.1))),some (.sh false (.list (s.2.map .int))),some (.ow true (B.2.map dI)),some (.sh true (.int (0+j))),some (.ow true (((addL B.1 E).take i).map .int)),Z,Y]) ?_ ?_ ⟨_,_,rfl⟩
     . rintro i ρ O ⟨v5,v6,rfl⟩ W2 a1
       have R:i<s.2.length:=by rw [X];exact O
       have ae:i<B.1.length:=by rw [v.1];exact O
       have a4:i<E.length:=by rw [I];exact O
       have hw:atI (s.2.map PyData.int) (0+(i:Int))=some (PyData.int s.2[i]):=zbw R;have hq:atI (B.1.map PyData.int) (0+(i:Int))=some (PyData.int B.1[i]):=zbw ae;have a8:(addL B.1 E).take (i+1)=(addL B.1 E).take i++[B.1[i]+E.getD i 0]:=by
        rw [Yav (by rw [G];exact O)]
        congr 2
        unfold addL
        simp [a4]
       rw [a8,Ya2] at a1;have a6:Bits 900 (zg l/s.2.sum):=a5.le (Yay _ _)
       walk_at "rd hw a7 hq"
       refine⟨s.2,Jh _,⟨a3,(Zd A).mono #[1]⟩,(zdW A (Ya4 R)).mulOk a6 #[1],YaU (show _<1000000 by rw [YaR,WaM];lia) #[1],?_⟩
       rw [a2 i R];exact a1 _ ⟨_,_,rfl⟩
     . rintro ρ ⟨v5,v6,rfl⟩
       walk_at "rd"
       refine⟨YaU (show _<1000000 by rw [YaR];lia) #[1],?_⟩
       rw [Wak (by rw [G];exact YaY _)]
       have ag:Jw (many l) (zD E B):=⟨G,fun r hr=>by
        rcases Ya3.mp hr with z|z
        . exact v.2 r z
        . rw [Ya6.mp z];exact G⟩
       exact a0 _ ⟨_,_,_,_,B.2,by show _=[_,_,_,_,some (Cl.ow true ((B.2++[addL B.1 E]).map dI)),_,_,_,_];rw [Ya2];rfl,ag,rfl,by show((B.2++[_]).length:Int)=_;rw [YaS];simp;lia⟩
   . rintro ρ ⟨y3,y4,y5,y6,r,rfl,v,g,L⟩
     exact hW _ ⟨_,_,_,_,_,_,r,rfl,v,g,#[94]⟩
 . rintro ρ ⟨t1,t2,t3,t4,Z,Y,r,rfl,U,C,N⟩
   walk_at "rd"
   exact q
theorem zkV(T:Txt c K mg):dd_law_row P w K mg base:=by
 have r:dd_law_wide P w K mg base:=ZL T;obtain⟨f,fd,F,hm⟩:=T.d_law_row;have S:FnScope ["_law_bottom", "_law_rows", "_law_cell", "_law_way", "_law_clans", "_law_had", "_law_row_here", "_law_t", "_law_behind", "_law_clan"] ["_law_bottom", "_law_rows", "_law_cell"] (zh zbZ):=⟨rfl,rfl,rfl,#[3],rfl,#[3],#[3]⟩
 refine⟨fun ds Q Q' E E' hQ hE h=>?_,⟨f,fd,fn3 F S (fun ds Q E h=>?_) (fun cdv A outer s H E E3 hE hr=>?_),F.binds fun _ _ _ _ _ _ us hl=>by obtain⟨_,_,_,rfl⟩:=zap hl;rfl,F.kp,hm⟩⟩
 . revert h;repeat' (first|exact fun h=>h|exact hQ _ _|exact hE _|refine Exists.imp fun _=>?_|refine And.imp ?_ ?_|refine forall_imp fun _=>?_)
 . obtain⟨_,_,_,_,rfl,_⟩:=h;rfl
 refine⟨_,(zd ((zl (i:=2) S.nd rfl #[2]) (df3 hE r (hr.mono #[1]) rfl zm (za (n3 2) (za i3 zb))))
  (zd ((zl (i:=3) S.nd rfl #[2]) (op3 zL (n3 2) i3))
  (zd ((zl (i:=2) S.nd rfl #[2]) (op3 zI (n3 2) i3))
  (zd ((zl (i:=4) S.nd rfl #[2]) (zq zA rfl T.n_len zv (za (at3 (n3 1) i3 (fun _ _=>rfl)) zb)))
  (zd ((ji (i:=5) S.nd rfl #[2]) (jL ["_law_k"] [] [] rfl (zX (osc:=zh zbZ) #[3]) rfl (z9 rfl T.n_range (za (n3 4) zb)) (fun H0 s H fp l=>⟨(zj (i:=0) (show((["_law_k"]:List PySem.Str)++([]:List PySem.Str)).Nodup by decide) rfl #[2]),jC,i3⟩)))
  (zd ((ji (i:=6) S.nd rfl #[2]) (z0 zb))
  (zd (zz WaF rfl (Za rfl T.n_range (za i3 (za (zq zA rfl T.n_len zv (za (n3 1) zb)) zb))) (zj (i:=7) S.nd rfl #[2]) (zd ((zbG (i:=8) S.nd rfl #[2]) ["_law_k"] ["_law_rows", "_law_t", "_law_had"] [1,7,5] rfl (zX (osc:=zh zbZ) #[3]) rfl (z9 rfl T.n_range (za (n3 4) zb)) (fun H0 s H fp l=>⟨(zj (i:=0) (show((["_law_k"]:List PySem.Str)++(["_law_rows", "_law_t", "_law_had"]:List PySem.Str)).Nodup by decide) rfl #[2]),jC,(op3 jF (at3 (at3 (n3 1) (n3 2) (fun _ _=>rfl)) (n3 0) (fun _ _=>rfl)) (at3 (n3 3) (n3 0) (fun _ _=>rfl)))⟩))
   (zd ((zl (i:=9) S.nd rfl #[2]) (zkw (n3 8) (zq (zin rfl) rfl T.n_max zdk (za (n3 8) zb))))
   (zd (s_if (zt (jl hr.units) (n3 3) i3 (nomark _)) (zd ((zl (i:=9) S.nd rfl #[2]) (op3 zL (n3 2) (n3 4)))
    (ze ((zl (i:=2) S.nd rfl #[2]) (op3 zI (n3 2) (n3 4))))) zu)
   (zd (s_if (zt (jl hr.units) (n3 3) i3 (nomark _)) (zd (s_if (zt (jl hr.units) (op3 zL (n3 2) i3) i3 (nomark _)) (ze ((zl (i:=9) S.nd rfl #[2]) (op3 zL (op3 zU (n3 9) i3) (n3 4)))) zu)
    (ze ((zl (i:=2) S.nd rfl #[2]) (op3 zI (n3 2) i3)))) zu)
   (zd (JQ (i:=5) rfl #[2] (n3 9) (op3 zU (at3 (n3 5) (n3 9) (fun _ _=>rfl)) (n3 0)))
   (ze (jw (i:=6) rfl #[2] (n3 9)))))))))
  (ze (jm [6] (zr (n3 6))))))))))),fun ds Q h=>?_⟩
 obtain⟨b,a,cc,n,rfl,h1,h8,a5,a3,X,q⟩:=h;have G:∀ i (L:i<a.length),a[i].length=n:=fun i L=>X _ (Ya4 L)
 have a2:atI (a.map dI) 0=some (PyData.list (a[0].map PyData.int)):=JY (i:=0) #[0]
 have a1:=G 0 #[0]
 walk_at "rd a2 YaR a1"
 refine⟨#[1],#[1],fun v=>⟨#[1],divP,#[0],#[0],sz (by unfold nums;simp;omega),?_⟩⟩
 rw [Int.toNat_natCast];unfold nums;refine jv (fun i:Nat=>PyData.int (0+(i:Nat))) (fun _=>PyData.int 0) (fun ρ=>∃ t,ρ = [t]) (List.range n) ?_ _ _ _ _ ⟨none,rfl⟩ ?_
 . rintro i L ρ fa Y K ⟨t,rfl⟩ k
   walk_at "rd"
   exact k _ ⟨_,rfl⟩
 have hz:[]++(List.range n).map (fun _=>PyData.int 0)=(List.replicate n (0:Int)).map PyData.int:=by
  rw [List.nil_append,Wa0,YaG,Yaz]
 rw [hz];refine⟨#[1],#[1],#[0],#[0],?_⟩
 have e1:((a.length:Int) - 1).toNat=a.length - 1:=#[0]
 rw [e1];refine je (lo:=1) (fun k ρ=>∃ (e j:List Int) (M:Int) (t u w:Option L3.Cl),ρ = [some (.sh true (.int b)),some (.sh false (.list (a.map dI))),some (.sh true (.int M)),some (.sh true (.int (v%3))),some (.sh true (.int n)),some (.ow true (e.map PyData.int)),some (.ow true (j.map PyData.int)),t,u,w]/\e.length=n/\j.length=k/\∀ c∈j,0<=c/\c<(n:Int)) ?_ ?_ ⟨_,[],_,none,none,none,rfl,by simp,rfl,fun c h=>by cases h⟩
 . rintro k ρ hk ⟨e,j,M,t,u,w,rfl,J,I,B⟩ W hW
   have R:k+1<a.length:=#[0]
   have Z:atI (a.map dI) (1+(k:Int))=some (PyData.list (a[k+1].map PyData.int)):=by
    rw [show(1+(k:Int))=((k+1:Nat):Int) by omega];exact JY R
   have a6:=G (k+1) R;have dn:∀ z:Int,jU z (n:Int):=fun z=>⟨#[0],Bits.lit (x:=(n:Int)) 9000 #[0]⟩
   ((try dsimp only [lE,kE,gn3,List.cons_append,List.nil_append,List.set_cons_zero,List.set_cons_succ,zx,Wa9,Bool.true_or]);try simp only [lE,kE,gn3,List.cons_append,List.nil_append,List.set_cons_zero,List.set_cons_succ,zx,Bool.or_true])
   refine z6 (fun y=>∃ E:List Int,y=[some (.sh true (.int b)),some (.sh false (.list (a.map dI))),some (.sh true (.int M)),some (.sh true (.int (v%3))),some (.sh true (.int n)),some (.ow true (e.map PyData.int)),some (.ow true (j.map PyData.int)),some (.sh true (.int (1+k))),some (.sh true (.list (E.map .int))),w]/\E.length=n) (fun N C=>?_) ?_
   . walk_at "rd"
     refine⟨#[0],#[0],sz (by unfold nums;simp;omega),?_⟩
     rw [Int.toNat_natCast];unfold nums;refine jv (fun i:Nat=>PyData.int (0+(i:Nat))) (fun i=>PyData.int (a[k+1].getD i 0 - e.getD i 0)) (fun ρ=>∃ t,ρ = [t,some (.sh false (.list (a.map dI))),some (.sh true (.int (1+k))),some (.ow true (e.map .int))]) (List.range n) ?_ _ _ _ _ ⟨none,rfl⟩ ?_
     . rintro i L ρ fa Y K ⟨t,rfl⟩ kk
       have a4:=Yba.mp L;have ha:=jo (xs:=a[k+1]) (i:=0+(i:Int)) #[0] #[0]
       have hb:=jo (xs:=e) (i:=0+(i:Int)) #[0] #[0]
       rw [show(0+(i:Int)).toNat=i by omega] at ha hb
       walk_at "rd Z ha hb"
       exact kk _ ⟨_,rfl⟩
     . refine C _ ⟨(List.range n).map fun i=>a[k+1].getD i 0 - e.getD i 0,?_,by simp⟩
       rw [List.nil_append,YaD];rfl
   rintro ρ ⟨E,rfl,U⟩
   have A:E≠[]:=fun z=>by rw [z] at U;simp at U;omega
   refine z6 (fun y=>∃ l:Int,y=[some (.sh true (.int b)),some (.sh false (.list (a.map dI))),some (.sh true (.int M)),some (.sh true (.int (v%3))),some (.sh true (.int n)),some (.ow true (e.map PyData.int)),some (.ow true (j.map PyData.int)),some (.sh true (.int (1+k))),some (.sh true (.list (E.map .int))),some (.sh true (.int l))]/\0<=l/\l<n) (fun N C=>?_) ?_
   . walk_at "rd"
     refine⟨E,Jh _,E,Jh _,A,zfa A,C _ ⟨_,rfl,#[0],?_⟩⟩
     have:=List.idxOf_lt_length_iff.mpr (zfa A)
     omega
   rintro ρ ⟨l,rfl,p⟩
   refine z6 (fun y=>∃ O l:Int,y=[some (.sh true (.int b)),some (.sh false (.list (a.map dI))),some (.sh true (.int O)),some (.sh true (.int (v%3))),some (.sh true (.int n)),some (.ow true (e.map PyData.int)),some (.ow true (j.map PyData.int)),some (.sh true (.int (1+k))),some (.sh true (.list (E.map .int))),some (.sh true (.int l))]/\0<=l/\l<n) (fun N C=>?_) ?_
   . walk_at "rd"
     refine ite2 (fun _=>⟨#[0],dn _,C _ ⟨_,_,rfl,Ybc _ #[0],Ybd _ #[0]⟩⟩) fun _=>C _ ⟨_,_,rfl,p⟩
   clear p
   rintro ρ ⟨O,l,rfl,p⟩
   refine z6 (fun y=>∃ O l:Int,y=[some (.sh true (.int b)),some (.sh false (.list (a.map dI))),some (.sh true (.int O)),some (.sh true (.int (v%3))),some (.sh true (.int n)),some (.ow true (e.map PyData.int)),some (.ow true (j.map PyData.int)),some (.sh true (.int (1+k))),some (.sh true (.list (E.map .int))),some (.sh true (.int l))]/\0<=l/\l<n) (fun N C=>?_) ?_
   . walk_at "rd"
     refine ite2 (fun _=>⟨#[1],ite2 (fun _=>⟨#[0],divP,C _ ⟨_,_,rfl,Ybc _ #[0],Ybd _ #[0]⟩⟩) fun _=>⟨divP,C _ ⟨_,_,rfl,p⟩⟩⟩) fun _=>C _ ⟨_,_,rfl,p⟩
   clear p
   rintro ρ ⟨O,l,rfl,p⟩
   have hg:=jo (xs:=e) (i:=l) p.1 #[0]
   have a0:ixN (e.map PyData.int).length l=some l.toNat:=by rw [YaR];exact j9 p.1 #[0]
   walk_at "rd hg a0"
   refine⟨YaU (show _<1000000 by rw [YaR];omega) #[1],hW _ ⟨e.set l.toNat (e.getD l.toNat 0+b),j++[l],_,_,_,_,by rw [Wbk,Ya2];rfl,by rw [YaN];exact J,by simp [I],fun x hx=>?_⟩⟩
   rcases Ya3.mp hx with z|z
   . exact B x z
   . rw [Ya6.mp z];exact p
 . rintro ρ ⟨e,j,M,t,u,w,rfl,J,I,B⟩
   walk_at "rd"
   exact q j #[0] B
theorem zed(T:Txt c K mg):dd_law_ratio P w K mg base:=by
 obtain⟨f,fd,F,hm⟩:=T.d_law_ratio;have S:FnScope ["_law_top", "_law_bottom", "_law_one", "_law_other"] ["_law_top", "_law_bottom"] (zh (top 63)):=⟨rfl,rfl,rfl,#[3],rfl,#[3],#[3]⟩
 refine⟨fun ds Q Q' E E' hQ hE h=>?_,⟨f,fd,fn3 F S (fun ds Q E h=>?_) (fun cdv A outer s H E E3 hE hr=>?_),F.binds fun _ _ _ _ _ _ us hl=>by obtain⟨_,_,rfl⟩:=zan hl;rfl,F.kp,hm⟩⟩
 . revert h;repeat' (first|exact fun h=>h|exact hQ _ _|exact hE _|refine Exists.imp fun _=>?_|refine And.imp ?_ ?_|refine forall_imp fun _=>?_)
 . obtain⟨_,_,rfl,_⟩:=h;rfl
 refine⟨_,(zd ((zl (i:=2) S.nd rfl #[2]) (zq zc2 rfl T.n_abs zcw (za (n3 0) zb)))
  (zd ((zl (i:=3) S.nd rfl #[2]) (n3 1))
  (zd (zaT WaF (zt Jn (n3 3) i3 (nomark _)) (ze (zl3 (i:=2) (j:=3) rfl S.nd rfl rfl #[1] rfl rfl (za (n3 3) (za (op3 zL (n3 2) (n3 3)) zb)))))
  (ze (zr (zY (za (op3 zI (n3 0) (n3 2)) (za (op3 zI (n3 1) (n3 2)) zb)))))))),fun G Q h=>?_⟩
 obtain⟨a,b,rfl,s,u,q⟩:=h
 walk_at "rd"
 refine⟨_,Zf (fun n ρ=>∃ g l,ρ = [some (.sh true (.int a)),some (.sh true (.int b)),some (.sh true (.int g)),some (.sh true (.int l))]/\0<=g/\0<=l/\Int.gcd g l=Int.gcd a b/\n=l.toNat) ?_ _ _ ⟨_,_,rfl,by split<;>omega,#[0],?_,rfl⟩⟩
 . rintro n ρ ⟨g,l,rfl,hg,z,hG,rfl⟩ W A
   walk_at "rd"
   by_cases h0:0<l
   . rw [if_pos h0]
     have h1:=Ybc g (show l≠0 by omega)
     have E:=Ybd g h0;exact⟨h0,A (g%l).toNat _ #[0] ⟨l,g%l,rfl,z,h1,(zfc hg h0).trans hG,rfl⟩⟩
   . rw [if_neg h0]
     have hz:l=0:=#[0]
     subst hz;have e:g=(Int.gcd a b:Int):=by rw [<-hG,zgN hg]
     subst e;exact⟨zfs s u,zfs s u,q⟩
 . have:=zd1 a b
   rw [if_neg (show ¬b<0 by omega)] at this
   exact this
theorem zjS(T:Txt c K mg):dd_law_limits P w K mg base:=by
 have znk:dd_law_wide P w K mg base:=ZL T;have znf:dd_law_ratio P w K mg base:=zed T;obtain⟨f,fd,F,hm⟩:=T.d_law_limits;have S:FnScope ["_law_bottom", "_law_rows", "_law_row_here", "_law_cell", "_law_own", "_law_clans", "_law_had", "_law_most", "_law_t", "_law_k", "_law_bounds", "_law_pair", "_law_side", "_law_under"] ["_law_bottom", "_law_rows", "_law_row_here", "_law_cell", "_law_own"] (zh zb4):=⟨rfl,rfl,rfl,#[3],rfl,#[3],#[3]⟩
 refine⟨fun ds Q Q' E E' hQ hE h=>?_,⟨f,fd,fn3 F S (fun ds Q E h=>?_) (fun cdv A outer s H E E3 hE hr=>?_),F.binds fun _ _ _ _ _ _ us hl=>by obtain⟨_,_,_,_,_,rfl⟩:=zdR hl;rfl,F.kp,hm⟩⟩
 . revert h;repeat' (first|exact fun h=>h|exact hQ _ _|exact hE _|refine Exists.imp fun _=>?_|refine And.imp ?_ ?_|refine forall_imp fun _=>?_)
 . obtain⟨_,_,_,_,_,rfl,_⟩:=h;rfl
 refine⟨_,(zd ((zl (i:=5) S.nd rfl #[2]) (zq zA rfl T.n_len zv (za (at3 (n3 1) i3 (fun _ _=>rfl)) zb)))
  (zd ((zgA (i:=6) S.nd rfl #[2]) ["_law_k"] [] [] rfl (zX (osc:=zh zb4) #[3]) rfl (z9 rfl T.n_range (za (n3 5) zb)) (fun H0 s H fp cl=>⟨(zj (i:=0) (show((["_law_k"]:List PySem.Str)++([]:List PySem.Str)).Nodup by decide) rfl #[2]),jC,i3⟩))
  (zd ((zeH (i:=7) S.nd rfl #[2]) ["_law_k"] [] [] rfl (zX (osc:=zh zb4) #[3]) rfl (z9 rfl T.n_range (za (n3 5) zb)) (fun s H fp cl=>⟨jn (i:=0) (show((["_law_k"]:List PySem.Str)++([]:List PySem.Str)).Nodup by decide) rfl #[2] (by first|exact .inl rfl|exact .inr rfl),zbB (zn jP (zn jP zK))⟩) (fun σ H Q h=>⟨show 2<=sizeLine by decide,h⟩) (fun G=>(RdVs.cons (RdV.int 0) (RdVs.cons (RdV.int 0) RdVs.nil))) rfl)
  (zd (zz WaF rfl (Za rfl T.n_range (za i3 (za (zq zA rfl T.n_len zv (za (n3 1) zb)) zb))) (zj (i:=8) S.nd rfl #[2]) (zd (JQ (i:=6) rfl #[2] (at3 (n3 2) (op3 jF (n3 8) i3) (fun _ _=>rfl)) (op3 zU (at3 (n3 6) (at3 (n3 2) (op3 jF (n3 8) i3) (fun _ _=>rfl)) (fun _ _=>rfl)) (n3 0)))
   (ze (zz WaF rfl (z9 rfl T.n_range (za (n3 5) zb)) (zj (i:=9) S.nd rfl #[2]) (zd (zeM (i:=7) rfl #[2] (n3 9) i3 (zq (zfx rfl) rfl T.n_max zdk (za (at2 (i:=7) rfl #[2] (n3 9) i3 (fun _ _=>rfl) (fun _ _=>rfl)) (za (op3 jF (at3 (at3 (n3 1) (n3 8) (fun _ _=>rfl)) (n3 9) (fun _ _=>rfl)) (at3 (n3 6) (n3 9) (fun _ _=>rfl))) zb))) (fun _ _=>rfl))
    (ze (zeM (i:=7) rfl #[2] (n3 9) i3 (zq (zfx rfl) rfl T.n_max zdk (za (at2 (i:=7) rfl #[2] (n3 9) i3 (fun _ _=>rfl) (fun _ _=>rfl)) (za (op3 jF (at3 (n3 6) (n3 9) (fun _ _=>rfl)) (at3 (at3 (n3 1) (n3 8) (fun _ _=>rfl)) (n3 9) (fun _ _=>rfl))) zb))) (fun _ _=>rfl))))))))
  (zd ((ji (i:=10) S.nd rfl #[2]) (z0 zb))
  (zd ((zl (i:=3) S.nd rfl #[2]) (df3 hE znk (hr.mono #[1]) rfl zm (za (n3 3) (za i3 zb))))
  (zd (zz WaF rfl (z9 rfl T.n_range (za (n3 5) zb)) (zj (i:=9) S.nd rfl #[2]) (zd ((ji (i:=11) S.nd rfl #[2]) (z0 (za (zY (za i3 (za i3 zb))) (za (zY (za i3 (za i3 zb))) zb))))
   (zd (zz WaF rfl (z9 rfl T.n_range (za i3 zb)) (zj (i:=12) S.nd rfl #[2]) (zd ((zl (i:=13) S.nd rfl #[2]) (op3 zU i3 (op3 zL (op3 zI (n3 3) i3) i3)))
    (zd (s_if (pw3 (jZ (zt (jl hr.units) (op3 zL (n3 3) i3) i3 (nomark _)) (Ji (val3 (n3 4))))) (ze (JQ (i:=11) rfl #[2] (n3 12) (df3 hE znf (hr.mono #[1]) rfl zm (za (zq (zeU rfl) rfl T.n_min zeA (za (at2 (i:=7) rfl #[2] (n3 9) (n3 12) (fun _ _=>rfl) (fun _ _=>rfl)) (za (op3 zW i3 (n3 0)) zb))) (za (n3 0) zb))))) zu)
    (zd (s_if (pw3 (zdE (zt (jl hr.units) (op3 zL (n3 3) i3) i3 (nomark _)) (zcj (jD (val3 (n3 4)))))) (ze (JQ (i:=11) rfl #[2] (n3 12) (df3 hE znf (hr.mono #[1]) rfl zm (za (op3 zL (op3 zI (n3 3) i3) (op3 zW i3 (n3 13))) (za (n3 13) zb))))) zu)
    (ze ((zl (i:=3) S.nd rfl #[2]) (op3 zI (op3 zI (n3 3) i3) (op3 zW i3 (n3 13)))))))))
   (ze (jw (i:=10) rfl #[2] (zY (za (at3 (n3 11) i3 (fun _ _=>rfl)) (za (at3 (n3 11) i3 (fun _ _=>rfl)) zb))))))))
  (ze (jm [10] (zr (n3 10))))))))))),fun ds Q h=>?_⟩
 obtain⟨b,rows,row,cc,n,rfl,hb0,hbb,h1,h8,hr61,hrl,hrn,hc,q⟩:=h;have hmax:∀ i (hi:i<rows.length),rows[i].length=n:=fun i hi=>hrn _ (Ya4 hi)
 have hd0:atI (rows.map dI) 0=some (PyData.list (rows[0].map PyData.int)):=JY (i:=0) #[0]
 have h0n:=hmax 0 #[0]
 refine zk fun N hN=>?_
 walk_at "rd hd0 YaR h0n"
 refine hN _ ?_;clear hN N;refine zk fun N hN=>?_;walk_at "rd"
 refine⟨#[0],#[0],sz (by unfold nums;simp;omega),?_⟩
 rw [Int.toNat_natCast];unfold nums;refine jv (fun i:Nat=>PyData.int (0+(i:Nat))) (fun _=>PyData.int 0) (fun ρ=>∃ t,ρ = [t]) (List.range n) ?_ _ _ _ _ ⟨none,rfl⟩ ?_
 . rintro i hi ρ fa acc K ⟨t,rfl⟩ k
   walk_at "rd"
   exact k _ ⟨_,rfl⟩
 have hz:[]++(List.range n).map (fun _=>PyData.int 0)=(hadN b n []).map PyData.int:=by
  unfold hadN;rw [List.nil_append,List.foldl_nil,Yaz,Wa0,YaG]
 rw [hz];(refine hN _ ?_;clear hN N;refine zk fun N hN=>?_;walk_at "rd")
 refine⟨#[0],#[0],by rw [zbo];omega,fun ps hps=>hN _ ?_⟩
 clear hN N;rw [zbo,Int.toNat_natCast];have hm0:List.replicate n [PyData.int 0,PyData.int 0]=(List.range n).map fun k=>pr2 (mx (ldF b n rows row) k 0):=by
  show _=(List.range n).map fun k=>[PyData.int 0,PyData.int 0]
  rw [Wa0,YaG]
 rw [hm0];have e1:((rows.length:Int) - 1).toNat=row.length:=#[0]
 refine z6 (fun ρ=>∃ (hd:List Int) (t8 t9:Option L3.Cl),ρ = lE b rows row cc true n hd ps (fun k=>mx (ldF b n rows row) k row.length) [t8,t9,none,none,none,none]) (fun N hN=>?_) ?_
 . walk_at "rd"
   rw [YaR,e1];refine⟨#[1],#[1],#[0],#[0],?_⟩
   refine je (lo:=1) (fun t ρ=>∃ (t8 t9:Option L3.Cl),ρ = lE b rows row cc true n (hadN b n (row.take t)) ps (fun k=>mx (ldF b n rows row) k t) [t8,t9,none,none,none,none]) ?_ (fun ρ ⟨t8,t9,h⟩=>hN ρ ⟨_,t8,t9,h⟩) ⟨none,none,rfl⟩
   rintro t ρ ht ⟨t8,t9,rfl⟩ W hW
   have hk1:t+1<rows.length:=#[0]
   have hck:=hc row[t] (Ya4 ht);have hrk:atI (row.map PyData.int) (1+(t:Int) - 1)=some (PyData.int row[t]):=by
    rw [show 1+(t:Int) - 1=0+(t:Int) by omega];exact zbw ht
   have hrr:atI (rows.map dI) (1+(t:Int))=some (PyData.list (rows[t+1].map PyData.int)):=by
    rw [show(1+(t:Int))=((t+1:Nat):Int) by omega];exact JY hk1
   have hrl:=hmax (t+1) hk1;have hhl:=Jx b n (row.take t);have hg:=jo (xs:=hadN b n (row.take t)) (i:=row[t]) hck.1 #[0]
   have hix:ixN ((hadN b n (row.take t)).map PyData.int).length row[t]=some row[t].toNat:=by rw [YaR];exact j9 hck.1 #[0]
   have htk:row.take (t+1)=row.take t++[row[t]]:=Yav ht;have hset:((hadN b n (row.take t)).map PyData.int).set row[t].toNat (PyData.int ((hadN b n (row.take t)).getD row[t].toNat 0+b))=(hadN b n (row.take (t+1))).map PyData.int:=by
    rw [htk,zcz];unfold had1;rw [Wbk]
   have hld:jg b n rows row t=subL (hadN b n (row.take (t+1))) rows[t+1]:=by
    unfold jg;rw [YaP,YaQ hk1];rfl
   have hhl1:=Jx b n (row.take (t+1));have hld2:∀ i,i<n->ldF b n rows row t i=(hadN b n (row.take (t+1))).getD i 0 - rows[t+1].getD i 0:=fun i hi=>by
    unfold ldF;rw [hld];unfold subL;have hz:((hadN b n (row.take (t+1))).zip rows[t+1])[i]?=some ((hadN b n (row.take (t+1)))[i]'(by omega),rows[t+1][i]'(by omega)):=Wad.mpr ⟨YaQ #[0],YaQ #[0]⟩
    rw [YaP,Ya0,hz]
    simp [YaP,YaQ (show i<rows[t+1].length by omega),YaQ (show i<(hadN b n (row.take (t+1))).length by omega)]
   ((try dsimp only [lE,kE,gn3,List.cons_append,List.nil_append,List.set_cons_zero,List.set_cons_succ,zx,Wa9,Bool.true_or]);try simp only [lE,kE,gn3,List.cons_append,List.nil_append,List.set_cons_zero,List.set_cons_succ,zx,Bool.or_true])
   refine zk fun N hN=>?_
   walk_at "rd hrk hg hix hset"
   refine hN _ ?_;clear hN N
   walk_at "rd"
   refine⟨#[0],#[0],?_⟩
   rw [Int.toNat_natCast];refine je (fun i ρ=>∃ (g:Nat->Int×Int) (t9:Option L3.Cl),ρ = lE b rows row cc true n (hadN b n (row.take (t+1))) ps g [some (.sh true (.int (1+t))),t9,none,none,none,none]/\∀ k,g k=if k<i then mx (ldF b n rows row) k (t+1) else mx (ldF b n rows row) k t) ?_ ?_ ⟨fun k=>mx (ldF b n rows row) k t,_,rfl,fun k=>by simp⟩
   . rintro i ρ hi ⟨g,t9,rfl,hgk⟩ W' hW'
     have ha:=jo (xs:=rows[t+1]) (i:=0+(i:Int)) #[0] #[0]
     have hb:=jo (xs:=hadN b n (row.take (t+1))) (i:=0+(i:Int)) #[0] #[0]
     rw [show(0+(i:Int)).toNat=i by omega] at ha hb
     have hli:=hld2 i hi;generalize (hadN b n (row.take (t+1))).getD i 0=hv at hb hli;generalize rows[t+1].getD i 0=rv at ha hli;have hixn:∀ {α : Type} (f:Nat->α),ixN ((List.range n).map f).length (0+(i:Int))=some i:=fun f=>by
      rw [YaR,YaG,j9 #[0] #[0]];congr 1;omega
     have hat:∀ {α : Type} (f:Nat->α),atI ((List.range n).map f) (0+(i:Int))=some (f i):=fun f=>by
      rw [zc4 f (xs:=List.range n) (by rw [YaG];exact hi),List.getElem_range]
     have p0:∀ p:Int×Int,atI (pr2 p) 0=some (PyData.int p.1):=fun _=>rfl
     have p1:∀ p:Int×Int,atI (pr2 p) 1=some (PyData.int p.2):=fun _=>rfl
     have x0:∀ p:Int×Int,ixN (pr2 p).length 0=some 0:=fun _=>rfl
     have x1:∀ p:Int×Int,ixN (pr2 p).length 1=some 1:=fun _=>rfl
     have s0:∀ (p:Int×Int) (y:Int),(pr2 p).set 0 (PyData.int y)=pr2 (y,p.2):=fun _ _=>rfl
     have s1:∀ (p:Int×Int) (y:Int),(pr2 p).set 1 (PyData.int y)=pr2 (p.1,y):=fun _ _=>rfl
     have hms:∀ (g:Nat->Int×Int) (p:Int×Int),((List.range n).map fun k=>pr2 (g k)).set i (pr2 p)=(List.range n).map fun k=>pr2 (if k=i then p else g k):=fun g p=>by
      rw [zmp]
      congr 1
      funext k
      split<;>rfl
     ((try dsimp only [lE,kE,gn3,List.cons_append,List.nil_append,List.set_cons_zero,List.set_cons_succ,zx,Wa9,Bool.true_or]);try simp only [lE,kE,gn3,List.cons_append,List.nil_append,List.set_cons_zero,List.set_cons_succ,zx,Bool.or_true])
     refine z6 (fun ρ'=>∃ g2:Nat->Int×Int,ρ'=lE b rows row cc true n (hadN b n (row.take (t+1))) ps g2 [some (.sh true (.int (1+t))),some (.sh true (.int (0+i))),none,none,none,none]/\∀ k,g2 k=if k=i then(mxO (g i).1 (rv - hv),(g i).2) else g k) (fun N hN=>?_) ?_
     . walk_at "rd hrr ha hb hixn hat p0 p1 x0 x1 s0 s1 hms"
       exact hN _ ⟨_,rfl,fun k=>rfl⟩
     rintro ρ ⟨g2,rfl,hg2⟩
     walk_at "rd hrr ha hb hixn hat p0 p1 x0 x1 s0 s1 hms"
     refine hW' _ ⟨_,_,rfl,fun k=>?_⟩
     have gi:g i=mx (ldF b n rows row) i t:=by rw [hgk,if_neg #[0]]
     by_cases e:k=i
     . subst e
       rw [if_pos (show k<k+1 by omega),if_pos (show k=k from rfl),hg2,if_pos (show k=k from rfl),gi]
       show _=(mxO (mx (ldF b n rows row) k t).1 (-(ldF b n rows row t k)),mxO (mx (ldF b n rows row) k t).2 (ldF b n rows row t k))
       rw [hli,Int.neg_sub]
       rfl
     . rw [if_neg e,hg2,if_neg e,hgk]
       by_cases h2:k<i
       . rw [if_pos h2,if_pos #[0]]
       . rw [if_neg h2,if_neg #[0]]
   . rintro ρ ⟨g,t9,rfl,hgk⟩
     refine hW _ ⟨some (.sh true (.int (1+t))),t9,?_⟩
     have e3:((List.range n).map fun k=>pr2 (g k))=(List.range n).map fun k=>pr2 (mx (ldF b n rows row) k (t+1)):=Yat fun k hk=>by
      rw [hgk,if_pos (Yba.mp hk)]
     unfold lE;rw [e3]
 rintro ρ ⟨hd,t8,t9,rfl⟩
 have hg:∀ k,0<=(mx (ldF b n rows row) k row.length).1/\0<=(mx (ldF b n rows row) k row.length).2:=fun k=>⟨(zb7 _ k _).1,(zb7 _ k _).2.1⟩
 have hown:∀ k,k<n->(ownB b n rows row).getD k ((1,1),(1,1))=(lowQ (minO (mx (ldF b n rows row) k row.length).1 (10*b)) b,lowQ (minO (mx (ldF b n rows row) k row.length).2 (10*b)) b):=fun k hk=>by
  unfold ownB;rw [YaP,Ya0,Yax hk];rfl
 have hol:(ownB b n rows row).length=n:=by unfold ownB;rw [YaR,YaG]
 generalize ownB b n rows row=oB at hown hol q;generalize hgg:(fun k=>mx (ldF b n rows row) k row.length)=g
 have hown:∀ k,k<n->oB.getD k ((1,1),(1,1))=(lowQ (minO (g k).1 (10*b)) b,lowQ (minO (g k).2 (10*b)) b):=fun k hk=>by rw [hown k hk,<-hgg]
 refine zk fun N hN=>?_;walk_at "rd"
 refine hN _ ?_;clear hN N;refine zk fun N hN=>?_;walk_at "rd"
 refine⟨#[1],#[1],fun v=>hN _ ?_⟩
 clear hN N
 walk_at "rd"
 refine⟨#[0],#[0],?_⟩
 rw [Int.toNat_natCast];refine je (fun k ρ=>∃ (c':Int) (t9 t11 t12 t13:Option L3.Cl),ρ = lE b rows row c' true n hd ps g [t8,t9,some (.ow true ((oB.take k).map dP)),t11,t12,t13]) ?_ ?_ ⟨_,_,none,none,none,rfl⟩
 . rintro k ρ hk ⟨c',t9,t11,t12,t13,rfl⟩ W hW
   have hmu:IntMulOk 10 b:=(Bits.lit (x:=10) 64).mulOk hbb #[1]
   have hb9:Bits 9000 b:=hbb.mono #[1]
   have hat:∀ {α : Type} (f:Nat->α),atI ((List.range n).map f) (0+(k:Int))=some (f k):=fun f=>by
    rw [zc4 f (xs:=List.range n) (by rw [YaG];exact hk),List.getElem_range]
   ((try dsimp only [lE,kE,gn3,List.cons_append,List.nil_append,List.set_cons_zero,List.set_cons_succ,zx,Wa9,Bool.true_or]);try simp only [lE,kE,gn3,List.cons_append,List.nil_append,List.set_cons_zero,List.set_cons_succ,zx,Bool.or_true])
   refine zk fun N hN=>?_;walk_at "rd"
   (refine hN _ ?_;clear hN N);refine z6 (fun ρ'=>∃ (c':Int) (t12 t13:Option L3.Cl),ρ'=lE b rows row c' true n hd ps g [t8,some (.sh true (.int (0+k))),some (.ow true ((oB.take k).map dP)),some (.ow true [dQ (lowQ (minO (g k).1 (10*b)) b),dQ (lowQ (minO (g k).2 (10*b)) b)]),t12,t13]) (fun N hN=>?_) ?_
   . walk_at "rd"
     refine⟨#[1],#[1],?_⟩
     rw [show(2:Int).toNat=2 from rfl]
     refine je (fun i ρ=>∃ (c':Int) (t12 t13:Option L3.Cl),ρ = lE b rows row c' true n hd ps g [t8,some (.sh true (.int (0+k))),some (.ow true ((oB.take k).map dP)),some (.ow true [dQ (if 0<i then lowQ (minO (g k).1 (10*b)) b else(1,1)),dQ (if 1<i then lowQ (minO (g k).2 (10*b)) b else(1,1))]),t12,t13]) ?_ (fun ρ ⟨c',t12,t13,h⟩=>hN ρ ⟨c',t12,t13,h⟩) ⟨_,_,_,rfl⟩
     rintro i ρ hi ⟨c',t12,t13,rfl⟩ W' hW'
     have hu:1<=1+c'/3%6/\1+c'/3%6<=6:=#[0]
     ((try dsimp only [lE,kE,gn3,List.cons_append,List.nil_append,List.set_cons_zero,List.set_cons_succ,zx,Wa9,Bool.true_or]);try simp only [lE,kE,gn3,List.cons_append,List.nil_append,List.set_cons_zero,List.set_cons_succ,zx,Bool.or_true])
     refine zk fun N hN=>?_;walk_at "rd"
     refine⟨divP,#[1],hN _ ?_⟩
     clear hN N;generalize 1+c'/3%6=ud at hu ⊢;have hmu2:IntMulOk 2 ud:=(Bits.lit (x:=2) 64).mulOk (Bits.lit (x:=ud) 64 #[0]) #[1]
     have dd:jU (c'/18) (2*ud):=⟨#[0],Bits.lit (x:=2*ud) 9000 #[0]⟩
     rcases(show i=0\/i=1 by omega) with rfl|rfl
     . have p0:atI (pr2 (g k)) (0+((0:Nat):Int))=some (PyData.int (g k).1):=rfl
       walk_at "rd hat p0"
       refine⟨#[1],ite2 (fun _=>⟨hmu,hb0,hb9,0,rfl,#[1],?_⟩) fun _=>⟨hmu,hb0,hb9,0,rfl,#[1],?_⟩⟩<;>exact ite2 (fun _=>⟨divP,hmu2,dd,hW' _ ⟨_,_,_,rfl⟩⟩) fun _=>⟨divP,hmu2,dd,hW' _ ⟨_,_,_,rfl⟩⟩
     . have p0:atI (pr2 (g k)) (0+((1:Nat):Int))=some (PyData.int (g k).2):=rfl
       walk_at "rd hat p0"
       refine⟨#[1],ite2 (fun _=>⟨hmu,hb0,hb9,1,rfl,#[1],?_⟩) fun _=>⟨hmu,hb0,hb9,1,rfl,#[1],?_⟩⟩<;>exact ite2 (fun _=>⟨divP,hmu2,dd,hW' _ ⟨_,_,_,rfl⟩⟩) fun _=>⟨divP,hmu2,dd,hW' _ ⟨_,_,_,rfl⟩⟩
   rintro ρ ⟨c',t12,t13,rfl⟩
   have eo:=hown k hk;rw [YaP,YaQ (show k<oB.length by omega)] at eo
   have eo:oB[k]=_:=eo;have eo2:(oB.take (k+1)).map dP=(oB.take k).map dP++[dP (lowQ (minO (g k).1 (10*b)) b,lowQ (minO (g k).2 (10*b)) b)]:=by
    rw [WaG,YaQ (show k<oB.length by omega),Ya2,eo];rfl
   walk_at "rd atI0 atI1 YaR WaM"
   exact⟨YaU (show _<1000 by omega) #[1],hW _ ⟨_,_,_,_,_,by rw [eo2];rfl⟩⟩
 . rintro ρ ⟨c',t9,t11,t12,t13,rfl⟩
   walk_at "rd"
   rw [Wak #[0]]
   exact q
theorem zhK(T:Txt c K mg):dd_law_kept_rules P w K mg base:=by
 obtain⟨f,fd,F,hm⟩:=T.d_law_kept_rules;have S:FnScope ["_law_rules_here", "_law_row_here", "_law_clans", "_law_some", "_law_word", "_law_t", "_law_clan", "_law_who"] ["_law_rules_here", "_law_row_here", "_law_clans"] (zh (top 71)):=⟨rfl,rfl,rfl,#[3],rfl,#[3],#[3]⟩
 refine⟨fun ds Q Q' E E' hQ hE h=>?_,⟨f,fd,fn3 F S (fun ds Q E h=>?_) (fun cdv A outer s H E E3 hE hr=>?_),F.binds fun _ _ _ _ _ _ us hl=>by obtain⟨_,_,_,rfl⟩:=zap hl;rfl,F.kp,hm⟩⟩
 . revert h;repeat' (first|exact fun h=>h|exact hQ _ _|exact hE _|refine Exists.imp fun _=>?_|refine And.imp ?_ ?_|refine forall_imp fun _=>?_)
 . obtain⟨_,_,_,rfl,_⟩:=h;rfl
 refine⟨_,(zd ((ji (i:=3) S.nd rfl #[2]) (z0 zb))
  (zd (zz WaF rfl (zP (n3 0)) (ja (n:=3) rfl (zw (zj (i:=4) S.nd rfl #[2]) (zw (zj (i:=5) S.nd rfl #[2]) (zw (zj (i:=6) S.nd rfl #[2]) z8)))) (zd ((zl (i:=7) S.nd rfl #[2]) (at3 (n3 1) (op3 jF (n3 5) i3) (fun _ _=>rfl)))
   (ze (s_if (zt (jl hr.units) (n3 4) s3 (nomark _)) (ze (jw (i:=3) rfl #[2] (zY (za (n3 4) (za (n3 5) (za (n3 7) zb)))))) (ze (s_if (pw3 (jZ (zt (jB hr.units) (n3 6) (n3 7) (nomark _)) (Ji (zt Jn (n3 2) i3 (nomark _))))) (ze (jw (i:=3) rfl #[2] (zY (za (n3 4) (za (n3 5) (za (at3 (new3 (z0 (za (n3 6) (za (op3 zL (op3 zU (n3 6) i3) (n3 2)) zb)))) (zjT zkd rfl T.n_int zev (za (cmp3 (jl hr.units) (n3 6) (n3 7) (nomark _)) zb)) (fun _ _=>rfl)) zb)))))) zu))))))
  (ze (jm [3] (zr (n3 3)))))),fun ds Q h=>?_⟩
 obtain⟨rs,row,n,rfl,hok,htx,hl,hn,hrow,q⟩:=h;(refine zk fun N hN=>?_;walk_at "rd")
 refine hN _ ?_;clear hN N
 walk_at "rd"
 refine jp dRl rs (fun done ρ=>∃ (f:Bool) (rs':List Rule) (t4 t5 t6 t7:Option L3.Cl),ρ = [some (.sh false (.list (rs.map dRl))),some (.sh false (.list (row.map .int))),some (.sh true (.int n)),some (.ow f (rs'.map dRl)),t4,t5,t6,t7]/\okRs row.length n rs'/\txtR rs'/\RowK rs' row/\rs'.length<=done.length) ?_ ?_ ⟨_,[],none,none,none,none,rfl,fun r h=>(by cases h),fun r h=>(by cases h),fun r h=>(by cases h),YaY _⟩
 . rintro done r rest ρ hd ⟨f,rs',t4,t5,t6,t7,rfl,ho',ht',hk',hl'⟩ W hW
   have hr:r∈rs:=by rw [hd];simp
   obtain⟨hw,⟨ht1,ht2⟩,hc1,hc2⟩:=hok r hr;have hdl:done.length<100:=by have:=congrArg List.length hd;rw [YaS,List.length_cons] at this;omega
   have hat:atI (row.map PyData.int) (r.2.1 - 1)=some (PyData.int (row.getD (r.2.1 - 1).toNat 0)):=jo (xs:=row) #[0] #[0]
   have hwho:=hrow _ (Jl (d:=0) (show(r.2.1 - 1).toNat<row.length by omega))
   ((try dsimp only [lE,kE,gn3,List.cons_append,List.nil_append,List.set_cons_zero,List.set_cons_succ,zx,Wa9,Bool.true_or]);try simp only [lE,kE,gn3,List.cons_append,List.nil_append,List.set_cons_zero,List.set_cons_succ,zx,Bool.or_true])
   generalize hwe:row.getD (r.2.1 - 1).toNat 0=who at hat hwho;have more:∀ x:Int,(0<=x/\x<n)->(r.1 = "fixed"↔who=x)->okRs row.length n (rs'++[(r.1,r.2.1,x)])/\txtR (rs'++[(r.1,r.2.1,x)])/\RowK (rs'++[(r.1,r.2.1,x)]) row/\(rs'++[(r.1,r.2.1,x)]).length<=(done++[r]).length:=fun x hx hk=>by
    refine⟨fun y hy=>?_,fun y hy=>?_,fun y hy=>?_,(by simp;omega)⟩
    . rcases Ya3.mp hy with z|z
      . exact ho' y z
      . rw [Ya6.mp z];exact⟨hw,⟨ht1,ht2⟩,hx.1,hx.2⟩
    . rcases Ya3.mp hy with z|z
      . exact ht' y z
      . rw [Ya6.mp z];exact htx r hr
    . rcases Ya3.mp hy with z|z
      . exact hk' y z
      . rw [Ya6.mp z]
        show r.1 = "fixed"↔row.getD (r.2.1 - 1).toNat 0=x
        rw [hwe];exact hk
   have hsz:(List.map dRl rs').length<sizeLine:=YaU (show _<1000 by rw [YaR];omega) #[1]
   have go:∀ x:Int,(0<=x/\x<n)->(r.1 = "fixed"↔who=x)->W [some (.sh false (.list (rs.map dRl))),some (.sh false (.list (row.map .int))),some (.sh true (.int n)),some (.ow f (rs'.map dRl++[.tuple [.str r.1,.int r.2.1,.int x]])),some (.sh true (.str r.1)),some (.sh true (.int (r.2.1))),some (.sh true (.int (r.2.2))),some (.sh true (.int who))]:=fun x hx hk=>hW _ ⟨_,rs'++[(r.1,r.2.1,x)],_,_,_,_,by rw [Ya2];rfl,more x hx hk⟩
   walk_at "rd hat"
   refine ite2 (fun e=>⟨hsz,go who hwho ⟨fun _=>rfl,fun _=>e⟩⟩) fun e=>ite2 (fun z=>⟨#[0],_,by rw [if_neg z];rfl,hsz,go _ ⟨hc1,hc2⟩ ⟨fun y=>absurd y e,fun y=>absurd y.symm z⟩⟩) fun z=>?_
   have z:=Classical.not_not.mp z;refine ite2 (fun y=>⟨#[0],_,by rw [if_pos z];rfl,hsz,go _ ⟨Ybc _ #[0],Ybd _ #[0]⟩ ⟨fun u=>absurd u e,fun u=>absurd u ?_⟩⟩) fun y=>hW _ ⟨_,rs',_,_,_,_,rfl,ho',ht',hk',(by simp;omega)⟩
   intro u;rw [z] at u
   by_cases h:who+1<n
   . rw [Int.emod_eq_of_lt #[0] h] at u;omega
   . rw [show who+1=(n:Int) by omega,Int.emod_self] at u;omega
 . rintro ρ ⟨f,rs',t4,t5,t6,t7,rfl,ho',ht',hk',hl'⟩
   walk_at "rd"
   exact q _ rs' ho' ht' #[0] hk'
theorem zht(T:Txt c K mg):dd_check_weights c P w K mg base:=by
 obtain⟨f,fd,F,hm⟩:=T.d_check_weights;have S:FnScope ["weights", "weight"] ["weights"] (zh (top 25)):=⟨rfl,rfl,rfl,#[3],rfl,#[3],#[3]⟩
 refine⟨fun ds Q Q' E E' hQ hE h=>?_,⟨f,fd,fn3 F S (fun ds Q E h=>?_) (fun cdv A outer s H E E3 hE hr=>?_),F.binds fun _ _ _ _ _ _ us hl=>by obtain⟨_,rfl⟩:=zk5 hl;rfl,F.kp,hm⟩⟩
 . revert h;repeat' (first|exact fun h=>h|exact hQ _ _|exact hE _|refine Exists.imp fun _=>?_|refine And.imp ?_ ?_|refine forall_imp fun _=>?_)
 . obtain⟨_,rfl,_⟩:=h;rfl
 refine⟨_,(zd (s_if (jD (JM j4 j4 i3 (zq zA rfl T.n_len zv (za (n3 0) zb)) (g3i rfl T.m_MOST_CLANS))) (ze (jq hE ju rfl rfl T.m_NoSpell T.e_NoSpell (za s3 zb))) zu)
  (zd (zz WaF rfl (zP (n3 0)) (zj (i:=1) S.nd rfl #[2]) (zd (s_if (zt jW (n3 1) i3 (nomark _)) (ze (jq hE ju rfl rfl T.m_NoSpell T.e_NoSpell (za s3 zb))) zu)
   (ze (s_if (zt zfv (n3 1) (op3 JB i3 i3) (nomark _)) (ze (jq hE ju rfl rfl T.m_NoSpell T.e_NoSpell (za s3 zb))) zu))))
  (ze (s_if (zt (jl hr.units) (zq (J8 rfl) rfl T.n_sum JU (za (n3 0) zb)) i3 (nomark _)) (ze (jq hE ju rfl rfl T.m_NoSpell T.e_NoSpell (za s3 zb))) zu)))),fun y Q h=>?_⟩
 obtain⟨j,rfl,q,hE'⟩:=h
 walk_at "rd"
 simp only [YaR]
 by_cases s:1<=(j.length:Int)
 case neg=>rw [if_neg s];exact hE' fun z=>s (by have:=z.1.1;lia)
 rw [if_pos s]
 by_cases h2:(j.length:Int)<=8
 case neg=>rw [if_pos h2];exact hE' fun z=>h2 (by have:=z.1.2;lia)
 rw [if_neg (fun z=>z h2)]
 refine Zs (fun y ρ=>∃ a t,y=a.map PyData.int/\ρ = [some (.sh false (.list (j.map .int))),t]/\(∀ w∈a,w∈j)/\∀ w∈j,w∈a\/(0<=w/\w<10 ^ 30)) ?_ ?_ _ _ ⟨j,none,rfl,rfl,fun _ h=>h,fun _ h=>.inl h⟩
 . rintro d y ρ ⟨a,t,e,rfl,l,hall⟩ W A
   cases a with
   | nil=>cases e
   | cons w a=>
    cases e;have hw:=l w YaV
    walk_at "rd"
    by_cases h3:w<0
    . rw [if_pos h3];exact hE' fun z=>by have:=(z.2.1 w hw).1;lia
    rw [if_neg h3];refine⟨p30,?_⟩
    by_cases h4:(10:Int) ^ Int.toNat 30<=w
    . rw [if_pos h4];exact hE' fun z=>by have:=(z.2.1 w hw).2;exact absurd h4 (by have e:(10:Int) ^ Int.toNat 30=10 ^ 30:=rfl;lia)
    rw [if_neg h4];refine A _ ⟨a,_,rfl,rfl,fun x r=>l x (YaT _ r),fun x r=>?_⟩
    rcases hall x r with z|z
    . rcases Wa5.mp z with rfl|z
      . exact .inr ⟨#[94],by have e:(10:Int) ^ Int.toNat 30=10 ^ 30:=rfl;lia⟩
      . exact .inl z
    . exact .inr z
 . rintro ρ ⟨a,t,e,rfl,l,hall⟩
   cases a with
   | cons _ _=>cases e
   | nil=>
    walk_at "rd"
    refine⟨j,Jh j,?_⟩
    by_cases h3:j.sum=0
    . rw [if_pos h3];exact hE' fun z=>z.2.2 h3
    . rw [if_neg h3]
      exact q ⟨⟨#[94],#[94]⟩,fun w hw=>(hall w hw).resolve_left (by simp),h3⟩
theorem zlz(T:Txt c K mg):dd_all_turns P w K mg base:=by
 obtain⟨f,fd,F,hm⟩:=T.d_all_turns;have S:FnScope ["spells"] ["spells"] (zh (top 26)):=⟨rfl,rfl,rfl,#[3],rfl,#[3],#[3]⟩
 refine⟨fun ds Q Q' E E' hQ hE h=>?_,⟨f,fd,fn3 F S (fun ds Q E h=>?_) (fun cdv A outer s H E E3 hE hr=>?_),F.binds fun _ _ _ _ _ _ us hl=>by obtain⟨_,rfl⟩:=zk5 hl;rfl,F.kp,hm⟩⟩
 . revert h;repeat' (first|exact fun h=>h|exact hQ _ _|exact hE _|refine Exists.imp fun _=>?_|refine And.imp ?_ ?_|refine forall_imp fun _=>?_)
 . obtain⟨_,rfl,_⟩:=h;rfl
 refine⟨_,(ze (zr (zq (J8 rfl) rfl T.n_sum JU (za (new3 (jL ["spell"] [] [] rfl (zX (osc:=zh (top 26)) #[3]) rfl (zP (n3 0)) (fun H0 s H fp cl=>⟨(zj (i:=0) (show((["spell"]:List PySem.Str)++([]:List PySem.Str)).Nodup by decide) rfl #[2]),jC,(at3 (n3 0) i3 (fun _ _=>rfl))⟩))) zb)))),fun ds Q h=>?_⟩
 obtain⟨l,rfl,hz,q⟩:=h
 walk_at "rd"
 rw [YaR];refine⟨sz #[0],?_⟩
 refine jv (f:=false) dS (fun s=>.int s.1) (fun ρ=>∃ t,ρ = [t]) l ?_ _ _ _ _ ⟨none,rfl⟩ ?_
 . rintro s hs ρ fa acc K ⟨t,rfl⟩ k
   simp only [seq3,next3,set3,own3,ret3,ifS3,tt3,o3,u3,v3,atV,asS,asB,asD,optP,asT,asLd,asL,atO,Zl,nilP,asId,asI,k3,nw3,add3,int3,int0,neg3,eq3,ne3,eqOk,eqv3,notN3,isNone,ix3,ixD,ZX,nil3,Zm,cb3,len3,lenD,abs3,max23,min23,sum3,max3,and3,or3,not3,zav,za0,ch3,tup3,lst3,zaK,catN,slL3,zas,ZW,L2.isD,Z5,asg3,gn3,zak,za7,gnil3,app3,put3,frzS,frz,frz1,for3,itL,itT,itZ,rg1,rg2,Jz,true3,cst3,ZM,Ja,shs,Cl.d,Cl.dat,Cl.f,zbA,zx,Option.map_some,Option.map_none,Option.isSome_some,Option.isSome_none,Option.join_some,Option.join_none,List.all_cons,List.all_nil,Wbb,Bool.true_and,Wa6,Bool.or_false,Wa9,Bool.or_true,Bool.true_or,Ya1,Wbl,List.length_cons,List.length_nil,Nat.reduceAdd,Nat.reduceSub,Wbi,List.replicate,List.cons_append,List.nil_append,Yao,List.getElem?_cons_zero,List.getElem?_cons_succ,List.set_cons_zero,List.set_cons_succ,WaH,Cl.sh.injEq,Cl.ow.injEq,WaS,WaI,WaT,WaJ,Waw,WaX,reduceCtorEq,and_assoc,and_true,true_and,and_self,exists_eq_left,exists_eq_left',exists_eq',exists_eq_right,exists_eq_right',exists_and_left,exists_const,exists_false,false_and,and_false,or_false,false_or,or_true,true_or,decide_true,decide_false,decide_eq_true_eq,Wba,Wa3,Was,Wax,if_true,if_false,ite_true,ite_false,Waz,decide_eq_false_iff_not,eq_self_iff_true,not_true_eq_false,not_false_eq_true,sz0,sz1,sz2,sz3,sz4,par3,aug3,idx3,ext3,itE,k3f,za2,put2,app2,ix2,Cl.tr.injEq,ZZ,zaO,Cl.dt.injEq,intB3,frzD,Cl.fd.injEq,dms,jy,argC,JS,Jk,finM,Cl.dm.injEq,holds,updM,Zv,ZQ,zbf,zaj,zaM,zbb,Z1,zao,ZO,ZC,Z2,srtL,ninT3,zaY,List.foldl_cons,List.foldl_nil,Z8,zbd,ZP,Z0,zaa,zbh,za1,ZE,zaE,zaA,Z7,zaf,zai,ZU,ZV,zaQ,zbe,za5,zaz,za3,za6,ZR,zax,zaG,ZI,zbg,zam,ZS,zag,ZJ,zaq,zay,zab,zaH,zaS,zaI,Zz,Z9,za9,zar,zaC,zaF,JX,dSs,dS,dI,zx,dQ,dP,dPs,jM,dW,atI0,atI1,atI2,atI3,dRs,dRl,Ze,lE,kE,gE,atI0]
   exact k _ ⟨_,rfl⟩
 . walk_at "rd"
   refine⟨l.map (fun s:Spell=>s.1),?_,q⟩
   rw [<-Jh (l.map (fun s:Spell=>s.1)),YaD]
   rfl
theorem zmj(T:Txt c K mg):dd_check_spells c P w K mg base:=by
 have zm1:dd_check_weights c P w K mg base:=zht T;have zmY:dd_all_turns P w K mg base:=zlz T;obtain⟨f,fd,F,hm⟩:=T.d_check_spells;have S:FnScope ["spells", "turns", "weights"] ["spells"] (zh (top 27)):=⟨rfl,rfl,rfl,#[3],rfl,#[3],#[3]⟩
 refine⟨fun ds Q Q' E E' hQ hE h=>?_,⟨f,fd,fn3 F S (fun ds Q E h=>?_) (fun cdv A outer s H E E3 hE hr=>?_),F.binds fun _ _ _ _ _ _ us hl=>by obtain⟨_,rfl⟩:=zk5 hl;rfl,F.kp,hm⟩⟩
 . revert h;repeat' (first|exact fun h=>h|exact hQ _ _|exact hE _|refine Exists.imp fun _=>?_|refine And.imp ?_ ?_|refine forall_imp fun _=>?_)
 . obtain⟨_,rfl,_⟩:=h;rfl
 refine⟨_,(zd (s_if (jD (JM j4 j4 i3 (zq zA rfl T.n_len zv (za (n3 0) zb)) (g3i rfl T.m_MOST_SPELLS))) (ze (jq hE ju rfl rfl T.m_NoSpell T.e_NoSpell (za s3 zb))) zu)
  (zd (zz WaF rfl (zP (n3 0)) (ja (n:=2) rfl (zw (zj (i:=1) S.nd rfl #[2]) (zw (zj (i:=2) S.nd rfl #[2]) z8))) (zd (s_if (zt jW (n3 1) i3 (nomark _)) (ze (jq hE ju rfl rfl T.m_NoSpell T.e_NoSpell (za s3 zb))) zu)
   (zd (Zo (df3 hE zm1 (hr.mono #[1]) rfl zm (za (n3 2) zb)))
   (ze (s_if (zt (jB hr.units) (zq zA rfl T.n_len zv (za (n3 2) zb)) (zq zA rfl T.n_len zv (za (at3 (at3 (n3 0) i3 (fun _ _=>rfl)) i3 (fun _ _=>rfl)) zb)) (nomark _)) (ze (jq hE ju rfl rfl T.m_NoSpell T.e_NoSpell (za s3 zb))) zu)))))
  (ze (s_if (zt Jn (df3 hE zmY (hr.mono #[1]) rfl zm (za (n3 0) zb)) (g3i rfl T.m_MOST_TURNS) (nomark _)) (ze (jq hE ju rfl rfl T.m_NoSpell T.e_NoSpell (za s3 zb))) zu)))),fun ds Q h=>?_⟩
 obtain⟨l,rfl,q,hE'⟩:=h
 walk_at "rd"
 simp only [YaR]
 by_cases h1:1<=(l.length:Int)
 case neg=>rw [if_neg h1];exact hE' fun z=>h1 (by have:=z.1.1;omega)
 rw [if_pos h1]
 by_cases h2:(l.length:Int)<=8
 case neg=>rw [if_pos h2];exact hE' fun z=>h2 (by have:=z.1.2;omega)
 rw [if_neg (fun z=>z h2)]
 have hd0:atI (l.map dS) 0=some (dS (l.headD (0,[]))):=by
  cases l with
  | nil=>simp at h1
  | cons a r=>exact atI0
 refine Zs (fun ds ρ=>∃ rest t u,ds=rest.map dS/\ρ = [some (.sh false (.list (l.map dS))),t,u]/\(∀ w∈rest,w∈l)/\∀ w∈l,w∈rest\/(1<=w.1/\okW w.2/\w.2.length=many l)) ?_ ?_ _ _ ⟨l,none,none,rfl,rfl,fun _ h=>h,fun _ h=>.inl h⟩
 . rintro d ds ρ ⟨rest,t,u,e,rfl,hin,hall⟩ W hW
   cases rest with
   | nil=>cases e
   | cons w rest=>
    cases e;have hw:=hin w YaV
    walk_at "rd"
    by_cases h3:w.1<1
    . rw [if_pos h3];exact hE' fun z=>by have:=(z.2.1 w hw).1;omega
    rw [if_neg h3];refine⟨w.2,rfl,fun hok=>?_,fun hno=>hE' fun z=>hno (z.2.1 w hw).2.1⟩
    simp only [seq3,next3,set3,own3,ret3,ifS3,tt3,o3,u3,v3,atV,asS,asB,asD,optP,asT,asLd,asL,atO,Zl,nilP,asId,asI,k3,nw3,add3,int3,int0,neg3,eq3,ne3,eqOk,eqv3,notN3,isNone,ix3,ixD,ZX,nil3,Zm,cb3,len3,lenD,abs3,max23,min23,sum3,max3,and3,or3,not3,zav,za0,ch3,tup3,lst3,zaK,catN,slL3,zas,ZW,L2.isD,Z5,asg3,gn3,zak,za7,gnil3,app3,put3,frzS,frz,frz1,for3,itL,itT,itZ,rg1,rg2,Jz,true3,cst3,ZM,Ja,shs,Cl.d,Cl.dat,Cl.f,zbA,zx,Option.map_some,Option.map_none,Option.isSome_some,Option.isSome_none,Option.join_some,Option.join_none,List.all_cons,List.all_nil,Wbb,Bool.true_and,Wa6,Bool.or_false,Wa9,Bool.or_true,Bool.true_or,Ya1,Wbl,List.length_cons,List.length_nil,Nat.reduceAdd,Nat.reduceSub,Wbi,List.replicate,List.cons_append,List.nil_append,Yao,List.getElem?_cons_zero,List.getElem?_cons_succ,List.set_cons_zero,List.set_cons_succ,WaH,Cl.sh.injEq,Cl.ow.injEq,WaS,WaI,WaT,WaJ,Waw,WaX,reduceCtorEq,and_assoc,and_true,true_and,and_self,exists_eq_left,exists_eq_left',exists_eq',exists_eq_right,exists_eq_right',exists_and_left,exists_const,exists_false,false_and,and_false,or_false,false_or,or_true,true_or,decide_true,decide_false,decide_eq_true_eq,Wba,Wa3,Was,Wax,if_true,if_false,ite_true,ite_false,Waz,decide_eq_false_iff_not,eq_self_iff_true,not_true_eq_false,not_false_eq_true,sz0,sz1,sz2,sz3,sz4,par3,aug3,idx3,ext3,itE,k3f,za2,put2,app2,ix2,Cl.tr.injEq,ZZ,zaO,Cl.dt.injEq,intB3,frzD,Cl.fd.injEq,dms,jy,argC,JS,Jk,finM,Cl.dm.injEq,holds,updM,Zv,ZQ,zbf,zaj,zaM,zbb,Z1,zao,ZO,ZC,Z2,srtL,ninT3,zaY,List.foldl_cons,List.foldl_nil,Z8,zbd,ZP,Z0,zaa,zbh,za1,ZE,zaE,zaA,Z7,zaf,zai,ZU,ZV,zaQ,zbe,za5,zaz,za3,za6,ZR,zax,zaG,ZI,zbg,zam,ZS,zag,ZJ,zaq,zay,zab,zaH,zaS,zaI,Zz,Z9,za9,zar,zaC,zaF,JX,dSs,dS,dI,zx,dQ,dP,dPs,jM,dW,atI0,atI1,atI2,atI3,dRs,dRl,Ze,lE,kE,gE,atI0,atI1,hd0,YaR]
    by_cases h4:(w.2.length:Int)=(l.headD (0,[])).2.length
    . rw [if_neg (fun z=>z h4)]
      refine hW _ ⟨rest,_,_,rfl,rfl,fun x hx=>hin x (YaT _ hx),fun x hx=>?_⟩
      rcases hall x hx with z|z
      . rcases Wa5.mp z with rfl|z
        . exact .inr ⟨#[0],hok,by unfold many;omega⟩
        . exact .inl z
      . exact .inr z
    . rw [if_pos h4]
      exact hE' fun z=>h4 (by have:=(z.2.1 w hw).2.2;unfold many at this;omega)
 . rintro ρ ⟨rest,t,u,e,rfl,hin,hall⟩
   cases rest with
   | cons _ _=>cases e
   | nil=>
    walk_at "rd"
    refine⟨l,rfl,#[0],?_⟩
    by_cases h3:60<tot l
    . rw [if_pos h3];exact hE' fun z=>by have:=z.2.2;omega
    . rw [if_neg h3]
      exact q ⟨⟨#[0],#[0]⟩,fun w hw=>(hall w hw).resolve_left (by simp),#[0]⟩
theorem zd9(T:Txt c K mg):dd_common_divisor P w K mg base:=by
 obtain⟨f,fd,F,hm⟩:=T.d_common_divisor;have S:FnScope ["one", "other", "greater", "lesser", "rest"] ["one", "other"] (zh (top 7)):=⟨rfl,rfl,rfl,#[3],rfl,#[3],#[3]⟩
 refine⟨fun ds Q Q' E E' hQ hE h=>?_,⟨f,fd,fn3 F S (fun ds Q E h=>?_) (fun cdv A outer s H E E3 hE hr=>?_),F.binds fun _ _ _ _ _ _ us hl=>by obtain⟨_,_,rfl⟩:=zan hl;rfl,F.kp,hm⟩⟩
 . revert h;repeat' (first|exact fun h=>h|exact hQ _ _|exact hE _|refine Exists.imp fun _=>?_|refine And.imp ?_ ?_|refine forall_imp fun _=>?_)
 . obtain⟨_,_,rfl,_⟩:=h;rfl
 refine⟨_,(zd ((zl (i:=2) S.nd rfl #[2]) (zq zc2 rfl T.n_abs zcw (za (n3 0) zb)))
  (zd ((zl (i:=3) S.nd rfl #[2]) (zq zc2 rfl T.n_abs zcw (za (n3 1) zb)))
  (zd (zaT WaF (zt (jB hr.units) (n3 3) i3 (nomark _)) (zd ((zl (i:=4) S.nd rfl #[2]) (op3 zL (n3 2) (n3 3)))
   (zd ((zl (i:=2) S.nd rfl #[2]) (n3 3))
   (ze ((zl (i:=3) S.nd rfl #[2]) (n3 4))))))
  (ze (zr (n3 2)))))),fun C Q h=>?_⟩
 obtain⟨a,b,rfl,q⟩:=h
 walk_at "rd"
 refine⟨_,Zf (fun n ρ=>∃ g l r,ρ = [some (.sh true (.int a)),some (.sh true (.int b)),some (.sh true (.int g)),some (.sh true (.int l)),r]/\0<=g/\0<=l/\Int.gcd g l=Int.gcd a b/\n=l.toNat) ?_ _ _ ⟨_,_,_,rfl,by split<;>omega,by split<;>omega,zd1 a b,rfl⟩⟩
 rintro n ρ ⟨g,l,r,rfl,hg,v,hG,rfl⟩ W hW
 walk_at "rd"
 by_cases e:l=0
 . rw [if_neg (fun z=>z e)]
   subst e;rw [<-hG,zgN hg] at q;exact q
 . rw [if_pos e]
   have j:0<l:=#[0]
   have u:=Ybc g e;have B:=Ybd g j;exact⟨j,hW (g%l).toNat _ #[0] ⟨l,g%l,_,rfl,v,u,(zfc hg j).trans hG,rfl⟩⟩
theorem zhu(T:Txt c K mg):dd_divisor_of_all P w K mg base:=by
 have zm2:dd_common_divisor P w K mg base:=zd9 T;obtain⟨f,fd,F,hm⟩:=T.d_divisor_of_all;have S:FnScope ["weights", "divisor", "weight"] ["weights"] (zh (top 28)):=⟨rfl,rfl,rfl,#[3],rfl,#[3],#[3]⟩
 refine⟨fun ds Q Q' E E' hQ hE h=>?_,⟨f,fd,fn3 F S (fun ds Q E h=>?_) (fun cdv A outer s H E E3 hE hr=>?_),F.binds fun _ _ _ _ _ _ us hl=>by obtain⟨_,rfl⟩:=zk5 hl;rfl,F.kp,hm⟩⟩
 . revert h;repeat' (first|exact fun h=>h|exact hQ _ _|exact hE _|refine Exists.imp fun _=>?_|refine And.imp ?_ ?_|refine forall_imp fun _=>?_)
 . obtain⟨_,rfl,_⟩:=h;rfl
 refine⟨_,(zd ((zl (i:=1) S.nd rfl #[2]) i3)
  (zd (zz WaF rfl (zP (n3 0)) (zj (i:=2) S.nd rfl #[2]) (ze ((zl (i:=1) S.nd rfl #[2]) (df3 hE zm2 (hr.mono #[1]) rfl zm (za (n3 1) (za (n3 2) zb))))))
  (ze (zr (n3 1))))),fun ds Q h=>?_⟩
 obtain⟨n,rfl,q⟩:=h
 walk_at "rd"
 refine Zs (fun ds ρ=>∃ g b t,ds=b.map PyData.int/\n=g++b/\ρ = [some (.sh false (.list (n.map .int))),some (.sh true (.int (gcdL g))),t]) ?_ ?_ _ _ ⟨[],n,none,rfl,rfl,rfl⟩
 . rintro d ds ρ ⟨g,b,t,e,hws,rfl⟩ W p
   cases b with
   | nil=>cases e
   | cons w b=>
    cases e
    walk_at "rd"
    exact p _ ⟨g++[w],b,_,rfl,by rw [hws,Yag];rfl,by unfold gcdL;rw [WaD];rfl⟩
 . rintro ρ ⟨g,b,t,e,hws,rfl⟩
   cases b with
   | cons _ _=>cases e
   | nil=>
    walk_at "rd"
    rw [Yao] at hws;subst hws;exact q
theorem zie(T:Txt c K mg):dd_least_bottom P w K mg base:=by
 have zm3:dd_divisor_of_all P w K mg base:=zhu T;have zm2:dd_common_divisor P w K mg base:=zd9 T;obtain⟨f,fd,F,hm⟩:=T.d_least_bottom;have S:FnScope ["spells", "bottom", "spell", "parts"] ["spells"] (zh (top 29)):=⟨rfl,rfl,rfl,#[3],rfl,#[3],#[3]⟩
 refine⟨fun ds Q Q' E E' hQ hE h=>?_,⟨f,fd,fn3 F S (fun ds Q E h=>?_) (fun cdv A outer s H E E3 hE hr=>?_),F.binds fun _ _ _ _ _ _ us hl=>by obtain⟨_,rfl⟩:=zk5 hl;rfl,F.kp,hm⟩⟩
 . revert h;repeat' (first|exact fun h=>h|exact hQ _ _|exact hE _|refine Exists.imp fun _=>?_|refine And.imp ?_ ?_|refine forall_imp fun _=>?_)
 . obtain⟨_,rfl,_⟩:=h;rfl
 refine⟨_,(zd ((zl (i:=1) S.nd rfl #[2]) i3)
  (zd (zz WaF rfl (zP (n3 0)) (zj (i:=2) S.nd rfl #[2]) (zd ((zl (i:=3) S.nd rfl #[2]) (op3 zI (zq (J8 rfl) rfl T.n_sum JU (za (at3 (n3 2) i3 (fun _ _=>rfl)) zb)) (df3 hE zm3 (hr.mono #[1]) rfl zm (za (at3 (n3 2) i3 (fun _ _=>rfl)) zb))))
   (ze ((zl (i:=1) S.nd rfl #[2]) (op3 zI (op3 zW (n3 1) (n3 3)) (df3 hE zm2 (hr.mono #[1]) rfl zm (za (n3 1) (za (n3 3) zb))))))))
  (ze (zr (n3 1))))),fun ds Q h=>?_⟩
 obtain⟨l,rfl,hok,q⟩:=h
 walk_at "rd"
 refine Zs (fun ds ρ=>∃ done rest t u,ds=rest.map dS/\l=done++rest/\ρ = [some (.sh false (.list (l.map dS))),some (.sh true (.int (bot done))),t,u]) ?_ ?_ _ _ ⟨[],l,none,none,rfl,rfl,rfl⟩
 . rintro d ds ρ ⟨done,rest,t,u,e,hl,rfl⟩ W hW
   cases rest with
   | nil=>cases e
   | cons w rest=>
    cases e;have hw:w∈l:=by rw [hl];simp
    have hwok:=(hok.2.1 w hw).2.1;have hdone:0<bot done/\Bits (1+103*done.length) (bot done):=zbQ done 1 1 (fun s hs=>(hok.2.1 s (by rw [hl];exact Yai _ hs)).2.1) #[1] (by unfold Bits;decide)
    have hlen:done.length<=8:=by have:=hok.1.2;rw [hl,YaS] at this;omega
    have hb:Bits 900 (bot done):=hdone.2.mono #[0]
    simp only [seq3,next3,set3,own3,ret3,ifS3,tt3,o3,u3,v3,atV,asS,asB,asD,optP,asT,asLd,asL,atO,Zl,nilP,asId,asI,k3,nw3,add3,int3,int0,neg3,eq3,ne3,eqOk,eqv3,notN3,isNone,ix3,ixD,ZX,nil3,Zm,cb3,len3,lenD,abs3,max23,min23,sum3,max3,and3,or3,not3,zav,za0,ch3,tup3,lst3,zaK,catN,slL3,zas,ZW,L2.isD,Z5,asg3,gn3,zak,za7,gnil3,app3,put3,frzS,frz,frz1,for3,itL,itT,itZ,rg1,rg2,Jz,true3,cst3,ZM,Ja,shs,Cl.d,Cl.dat,Cl.f,zbA,zx,Option.map_some,Option.map_none,Option.isSome_some,Option.isSome_none,Option.join_some,Option.join_none,List.all_cons,List.all_nil,Wbb,Bool.true_and,Wa6,Bool.or_false,Wa9,Bool.or_true,Bool.true_or,Ya1,Wbl,List.length_cons,List.length_nil,Nat.reduceAdd,Nat.reduceSub,Wbi,List.replicate,List.cons_append,List.nil_append,Yao,List.getElem?_cons_zero,List.getElem?_cons_succ,List.set_cons_zero,List.set_cons_succ,WaH,Cl.sh.injEq,Cl.ow.injEq,WaS,WaI,WaT,WaJ,Waw,WaX,reduceCtorEq,and_assoc,and_true,true_and,and_self,exists_eq_left,exists_eq_left',exists_eq',exists_eq_right,exists_eq_right',exists_and_left,exists_const,exists_false,false_and,and_false,or_false,false_or,or_true,true_or,decide_true,decide_false,decide_eq_true_eq,Wba,Wa3,Was,Wax,if_true,if_false,ite_true,ite_false,Waz,decide_eq_false_iff_not,eq_self_iff_true,not_true_eq_false,not_false_eq_true,sz0,sz1,sz2,sz3,sz4,par3,aug3,idx3,ext3,itE,k3f,za2,put2,app2,ix2,Cl.tr.injEq,ZZ,zaO,Cl.dt.injEq,intB3,frzD,Cl.fd.injEq,dms,jy,argC,JS,Jk,finM,Cl.dm.injEq,holds,updM,Zv,ZQ,zbf,zaj,zaM,zbb,Z1,zao,ZO,ZC,Z2,srtL,ninT3,zaY,List.foldl_cons,List.foldl_nil,Z8,zbd,ZP,Z0,zaa,zbh,za1,ZE,zaE,zaA,Z7,zaf,zai,ZU,ZV,zaQ,zbe,za5,zaz,za3,za6,ZR,zax,zaG,ZI,zbg,zam,ZS,zag,ZJ,zaq,zay,zab,zaH,zaS,zaI,Zz,Z9,za9,zar,zaC,zaF,JX,dSs,dS,dI,zx,dQ,dP,dPs,jM,dW,atI0,atI1,atI2,atI3,dRs,dRl,Ze,lE,kE,gE,atI0,atI1]
    refine⟨w.2,Jh _,w.2,rfl,⟨zdy hwok,((Zd hwok).le (by have:=zkY hwok;have:=zdy hwok;omega)).mono #[1]⟩,?_⟩
    have hgb:Bits 9000 (Int.gcd (bot done) (parts w.2):Int):=((zdv hwok).le (by have:=zmw (b:=bot done) (JV hwok);have:=zep (b:=bot done) (JV hwok);have:=JV hwok;omega)).mono #[1]
    refine⟨hb.mulOk (zdv hwok) #[1],⟨zep (JV hwok),hgb⟩,?_⟩
    exact hW _ ⟨done++[w],rest,_,_,rfl,by rw [hl,Yag];rfl,by unfold bot;rw [WaD];rfl⟩
 . rintro ρ ⟨done,rest,t,u,e,hl,rfl⟩
   cases rest with
   | cons _ _=>cases e
   | nil=>
    walk_at "rd"
    rw [Yao] at hl;subst hl;exact q
theorem zkm(T:Txt c K mg):dd_shares_over P w K mg base:=by
 obtain⟨f,fd,F,hm⟩:=T.d_shares_over;have S:FnScope ["bottom", "weights", "total"] ["bottom", "weights"] (zh (top 30)):=⟨rfl,rfl,rfl,#[3],rfl,#[3],#[3]⟩
 refine⟨fun ds Q Q' E E' hQ hE h=>?_,⟨f,fd,fn3 F S (fun ds Q E h=>?_) (fun cdv A outer s H E E3 hE hr=>?_),F.binds fun _ _ _ _ _ _ us hl=>by obtain⟨_,_,rfl⟩:=zan hl;rfl,F.kp,hm⟩⟩
 . revert h;repeat' (first|exact fun h=>h|exact hQ _ _|exact hE _|refine Exists.imp fun _=>?_|refine And.imp ?_ ?_|refine forall_imp fun _=>?_)
 . obtain⟨_,_,rfl,_⟩:=h;rfl
 refine⟨_,(zd ((zl (i:=2) S.nd rfl #[2]) (zq (J8 rfl) rfl T.n_sum JU (za (n3 1) zb)))
  (ze (zr (new3 (jL ["weight"] ["bottom", "total"] [0,2] rfl (zX (osc:=zh (top 30)) #[3]) rfl (zP (n3 1)) (fun y s H u z=>⟨(zj (i:=0) (show((["weight"]:List PySem.Str)++(["bottom", "total"]:List PySem.Str)).Nodup by decide) rfl #[2]),jC,(op3 zI (op3 zW (n3 0) (n3 1)) (n3 2))⟩)))))),fun A Q h=>?_⟩
 obtain⟨b,ws,rfl,a,l,q⟩:=h
 walk_at "rd"
 refine⟨ws,Jh _,?_⟩
 refine⟨sz (by rw [YaR];have:=a.1.2;omega),?_⟩
 refine jv (f:=false) PyData.int (fun w=>.int (w*b/ws.sum)) (fun ρ=>∃ t,ρ = [t,some (.sh true (.int b)),some (.sh true (.int (ws.sum)))]) ws ?_ _ _ _ _ ⟨none,rfl⟩ ?_
 . rintro w hw ρ p g K ⟨t,rfl⟩ k
   have j:IntMulOk w b:=(zdW a hw).mulOk l #[1]
   have r:jU (w*b) ws.sum:=⟨jN a,(Zd a).mono #[1]⟩
   show IntMulOk w b/\jU (w*b) ws.sum/\K (p&&true) (g++[.int (w*b/ws.sum)]) [some (.sh true (.int w)),some (.sh true (.int b)),some (.sh true (.int (ws.sum)))]
   rw [Wbb];exact⟨j,r,k _ ⟨_,rfl⟩⟩
 . unfold dI shares at q
   rw [YaD] at q;exact q
theorem zg6(T:Txt c K mg):dd_quotas c P w K mg base:=by
 have zmZ:dd_check_spells c P w K mg base:=zmj T;have j:dd_least_bottom P w K mg base:=zie T;have znq:dd_shares_over P w K mg base:=zkm T;obtain⟨f,fd,F,hm⟩:=T.d_quotas;have S:FnScope ["spells", "bottom", "latest", "told", "turns", "weights", "shares", "turn"] ["spells"] (zh zbO):=⟨rfl,rfl,rfl,#[3],rfl,#[3],#[3]⟩
 refine⟨fun ds Q Q' E E' hQ hE h=>?_,⟨f,fd,fn3 F S (fun ds Q E h=>?_) (fun cdv A outer s H E E3 hE hr=>?_),F.binds fun _ _ _ _ _ _ us hl=>by obtain⟨_,rfl⟩:=zk5 hl;rfl,F.kp,hm⟩⟩
 . revert h;repeat' (first|exact fun h=>h|exact hQ _ _|exact hE _|refine Exists.imp fun _=>?_|refine And.imp ?_ ?_|refine forall_imp fun _=>?_)
 . obtain⟨_,rfl,_⟩:=h;rfl
 refine⟨_,(zd (Zo (df3 hE zmZ (hr.mono #[1]) rfl zm (za (n3 0) zb)))
  (zd ((zl (i:=1) S.nd rfl #[2]) (df3 hE j (hr.mono #[1]) rfl zm (za (n3 0) zb)))
  (zd ((zbG (i:=2) S.nd rfl #[2]) ["weight"] [] [] rfl (zX (osc:=zh zbO) #[3]) rfl (zP (at3 (at3 (n3 0) i3 (fun _ _=>rfl)) i3 (fun _ _=>rfl))) (fun H0 s H fp cl=>⟨(zj (i:=0) (show((["weight"]:List PySem.Str)++([]:List PySem.Str)).Nodup by decide) rfl #[2]),jC,i3⟩))
  (zd ((ji (i:=3) S.nd rfl #[2]) (z0 (za (n3 2) zb)))
  (zd (zz WaF rfl (zP (n3 0)) (ja (n:=2) rfl (zw (zj (i:=4) S.nd rfl #[2]) (zw (zj (i:=5) S.nd rfl #[2]) z8))) (zd ((zl (i:=6) S.nd rfl #[2]) (df3 hE znq (hr.mono #[1]) rfl zm (za (n3 1) (za (n3 5) zb))))
   (ze (zz WaF rfl (z9 rfl T.n_range (za (n3 4) zb)) (zj (i:=7) S.nd rfl #[2]) (zd ((zbG (i:=2) S.nd rfl #[2]) ["quota", "share"] [] [] rfl (zX (osc:=zh zbO) #[3]) rfl (zl0 rfl T.n_zip (za (n3 2) (za (n3 6) zb))) (fun H0 s H fp cl=>⟨(ja (n:=2) rfl (zw (zj (i:=0) (show((["quota", "share"]:List PySem.Str)++([]:List PySem.Str)).Nodup by decide) rfl #[2]) (zw (zj (i:=1) (show((["quota", "share"]:List PySem.Str)++([]:List PySem.Str)).Nodup by decide) rfl #[2]) z8))),jC,(op3 zU (n3 0) (n3 1))⟩))
    (ze (jw (i:=3) rfl #[2] (n3 2))))))))
  (ze (jm [3] (zr (zY (za (n3 1) (za (n3 3) zb))))))))))),fun Z Q h=>?_⟩
 obtain⟨l,rfl,q,hE'⟩:=h;refine zk fun N C=>?_
 walk_at "rd"
 refine⟨l,rfl,fun B=>C _ ?_,hE'⟩
 clear C N;have O:l≠[]:=fun z=>by have:=B.1.1;rw [z] at this;simp at this
 have hd0:atI (l.map dS) 0=some (dS (l.headD (0,[]))):=by
  cases l with
  | nil=>exact absurd rfl O
  | cons a r=>exact atI0
 have hmany:many l<=8:=by
  cases l with
  | nil=>exact absurd rfl O
  | cons a r=>exact(B.2.1 a YaV).2.1.1.2
 refine zk fun N C=>?_
 walk_at "rd"
 refine⟨l,rfl,B,C _ ?_⟩
 clear C N;refine zk fun N C=>?_
 walk_at "rd hd0 atI1 YaR"
 refine⟨sz (by unfold many at hmany;omega),?_⟩
 refine jv PyData.int (fun _=>.int 0) (fun ρ=>∃ t,ρ = [t]) (l.headD (0,[])).2 ?_ _ _ _ _ ⟨none,rfl⟩ ?_
 . rintro w R ρ fa Y K ⟨t,rfl⟩ k
   walk_at "rd"
   exact k _ ⟨_,rfl⟩
 have hz:(l.headD (0,[])).2.map (fun _=>PyData.int 0)=(zeros l).map .int:=by
  unfold zeros many;rw [Yaz,Wa0]
 rw [List.nil_append,hz];refine C _ ?_;clear C N;refine zk fun N C=>?_
 walk_at "rd"
 refine C _ ?_
 clear C N
 walk_at "rd"
 refine Zs (fun Z ρ=>∃ done g t u v w,Z=g.map dS/\l=done++g/\ρ = [some (.sh false (.list (l.map dS))),some (.sh true (.int (bot l))),some (.sh true (dI (runQ (bot l) done (zeros l,[zeros l])).1)),some (.ow true ((runQ (bot l) done (zeros l,[zeros l])).2.map dI)),t,u,v,w]/\(runQ (bot l) done (zeros l,[zeros l])).2.length<=1+(tot done).toNat) ?_ ?_ _ _ ⟨[],l,none,none,none,none,rfl,rfl,rfl,by simp [runQ]⟩
 . rintro d Z ρ ⟨done,g,t,u,v,w',e,I,rfl,J⟩ W hW
   cases g with
   | nil=>cases e
   | cons w g=>
    cases e;have R:w∈l:=by rw [I];simp
    have hwok:=(B.2.1 w R).2.1;have h1t:∀ s∈l,1<=s.1:=fun s hs=>(B.2.1 s hs).1
    have a6:=zgK h1t R;have a7:=h1t w R;have hdt:tot done<=60 - w.1:=by
     have h60:=B.2.2;have e:tot l=tot done+(w.1+tot g):=by unfold tot;rw [I,Ya2,WaZ,Ya1,List.sum_cons]
     have:0<=tot g:=Jg fun s hs=>h1t s (by rw [I];exact Yaa _ (YaT _ hs))
     omega
    have a2:0<=tot done:=Jg fun s hs=>h1t s (by rw [I];exact Yai _ hs)
    walk_at "rd"
    refine⟨w.2,rfl,hwok,(ze4 B).mono #[1],#[0],by have:=B.2.2;omega,?_⟩
    generalize hp:runQ (bot l) done (zeros l,[zeros l])=p at J ⊢;refine je (fun k ρ=>∃ t,ρ = [some (.sh false (.list (l.map dS))),some (.sh true (.int (bot l))),some (.sh true (dI (rep (zD (shares (bot l) w.2)) k p).1)),some (.ow true ((rep (zD (shares (bot l) w.2)) k p).2.map dI)),some (.sh true (.int (w.1))),some (.sh false (dI w.2)),some (.sh true (dI (shares (bot l) w.2))),t]) ?_ ?_ ⟨w',rfl⟩
    . rintro k ρ hk ⟨t,rfl⟩ W' hW'
      have hr:∀ k p,rep (zD (shares (bot l) w.2)) (k+1) p=zD (shares (bot l) w.2) (rep (zD (shares (bot l) w.2)) k p):=fun k=>by
       induction k with
       | zero=>intro p;rfl
       | succ k ih=>intro p;rw [rep,ih];rfl
      have a3:=ZD (shares (bot l) w.2) k p
      walk_at "rd"
      rw [zd4,YaR];refine⟨sz (by rw [List.length_zip];unfold shares;rw [YaR];have:=hwok.1.2;omega),?_⟩
      refine jv _ (fun p=>.int (p.1+p.2)) (fun ρ=>∃ t u,ρ = [t,u]) _ ?_ _ _ _ _ ⟨none,none,rfl⟩ ?_
      . rintro x hx ρ fa Y K ⟨t,u,rfl⟩ k
        walk_at "rd"
        exact k _ ⟨_,_,rfl⟩
      . walk_at "rd"
        rw [YaR];refine⟨YaU (show _<1000000 by omega) #[1],hW' _ ⟨?w,?h⟩⟩
        case h=>
        rw [hr];unfold zD addL dI;simp only [Ya2,Ya1,Wbl,YaD,List.nil_append]
        rfl
    . rintro ρ ⟨t,rfl⟩
      have er:runQ (bot l) (done++[w]) (zeros l,[zeros l])=rep (zD (shares (bot l) w.2)) w.1.toNat p:=by
       unfold runQ at hp ⊢;rw [WaD,hp];rfl
      have et:tot (done++[w])=tot done+w.1:=by unfold tot;rw [Ya2,WaZ];simp
      refine hW _ ⟨done++[w],g,some (.sh true (.int (w.1))),some (.sh false (dI w.2)),some (.sh true (dI (shares (bot l) w.2))),t,rfl,by rw [I,Yag];rfl,by rw [er],?_⟩
      rw [er,ZD,et];omega
 . rintro ρ ⟨done,g,t,u,v,w,e,I,rfl,J⟩
   cases g with
   | cons _ _=>cases e
   | nil=>
    walk_at "rd"
    rw [Yao] at I;subst I;exact q B
theorem zlx(T:Txt c K mg):dd_first_turn P w K mg base:=by
 obtain⟨f,fd,F,hm⟩:=T.d_first_turn;have S:FnScope ["path", "wanted", "turn"] ["path", "wanted"] (zh (top 33)):=⟨rfl,rfl,rfl,#[3],rfl,#[3],#[3]⟩
 refine⟨fun ds Q Q' E E' hQ hE h=>?_,⟨f,fd,fn3 F S (fun ds Q E h=>?_) (fun cdv A outer s H E E3 hE hr=>?_),F.binds fun _ _ _ _ _ _ us hl=>by obtain⟨_,_,rfl⟩:=zan hl;rfl,F.kp,hm⟩⟩
 . revert h;repeat' (first|exact fun h=>h|exact hQ _ _|exact hE _|refine Exists.imp fun _=>?_|refine And.imp ?_ ?_|refine forall_imp fun _=>?_)
 . obtain⟨_,_,rfl,_⟩:=h;rfl
 refine⟨_,(zd (zz WaF rfl (Za rfl T.n_range (za i3 (za (zq zA rfl T.n_len zv (za (n3 0) zb)) zb))) (zj (i:=2) S.nd rfl #[2]) (ze (s_if (zt zfv (at3 (n3 0) (n3 2) (fun _ _=>rfl)) (n3 1) (nomark _)) (ze (zr (n3 2))) zu)))
  (ze (zr (zq zA rfl T.n_len zv (za (n3 0) zb))))),fun A Q h=>?_⟩
 obtain⟨path,x,rfl,h61,l,q⟩:=h
 walk_at "rd"
 rw [YaR];refine⟨#[1],#[1],#[0],#[0],?_⟩
 have s:((path.length:Int) - 1).toNat=path.length - 1:=#[0]
 rw [s];refine je (lo:=1) (fun k ρ=>∃ t,ρ = [some (.sh false (.list (path.map .int))),some (.sh true (.int x)),t]/\∀ i,1<=i->i<1+k->¬x<=path.getD i 0) ?_ ?_ ⟨none,rfl,fun i l h2=>absurd h2 #[0]⟩
 . rintro k ρ hk ⟨t,rfl,hno⟩ W hW
   have hg:=jo (xs:=path) (i:=1+(k:Int)) #[0] #[0]
   rw [show(1+(k:Int)).toNat=1+k by omega] at hg
   walk_at "rd hg"
   by_cases h:x<=path.getD (1+k) 0
   . rw [if_pos h]
     have:zF path.length (fun t=>decide (x<=path.getD t 0))=1+k:=zeg l #[0] #[0] (fun t a b=>decide_eq_false (hno t a b)) fun _=>decide_eq_true h
     rw [this] at q;have e:((1+k:Nat):Int)=1+(k:Int):=#[0]
     rw [e] at q;exact q
   . rw [if_neg h]
     refine hW _ ⟨_,rfl,fun i a b=>?_⟩
     by_cases e:i=1+k
     . rw [e];exact h
     . exact hno i a #[0]
 . rintro ρ ⟨t,rfl,hno⟩
   walk_at "rd"
   rw [YaR];have:zF path.length (fun t=>decide (x<=path.getD t 0))=path.length:=zeg l l (YaY _) (fun t a b=>decide_eq_false (hno t a #[0])) fun z=>absurd z #[0]
   rw [this] at q;exact q
theorem zli(T:Txt c K mg):dd_window_of P w K mg base:=by
 have zm4:dd_first_turn P w K mg base:=zlx T;obtain⟨f,fd,F,hm⟩:=T.d_window_of;have S:FnScope ["bottom", "path", "j", "room", "opens", "last"] ["bottom", "path", "j", "room"] (zh (top 34)):=⟨rfl,rfl,rfl,#[3],rfl,#[3],#[3]⟩
 refine⟨fun ds Q Q' E E' hQ hE h=>?_,⟨f,fd,fn3 F S (fun ds Q E h=>?_) (fun cdv A outer s H E E3 hE hr=>?_),F.binds fun _ _ _ _ _ _ us hl=>by obtain⟨_,_,_,_,rfl⟩:=zad hl;rfl,F.kp,hm⟩⟩
 . revert h;repeat' (first|exact fun h=>h|exact hQ _ _|exact hE _|refine Exists.imp fun _=>?_|refine And.imp ?_ ?_|refine forall_imp fun _=>?_)
 . obtain⟨_,_,_,_,rfl,_⟩:=h;rfl
 refine⟨_,(zd ((zl (i:=4) S.nd rfl #[2]) (df3 hE zm4 (hr.mono #[1]) rfl zm (za (n3 1) (za (op3 jF (op3 zW (n3 2) (n3 0)) (at3 (n3 3) i3 (fun _ _=>rfl))) zb))))
  (zd ((zl (i:=5) S.nd rfl #[2]) (df3 hE zm4 (hr.mono #[1]) rfl zm (za (n3 1) (za (op3 zU (op3 zU (op3 zW (op3 jF (n3 2) i3) (n3 0)) (at3 (n3 3) i3 (fun _ _=>rfl))) i3) zb))))
  (zd (s_if (zt (jl hr.units) (n3 5) (zq zA rfl T.n_len zv (za (n3 1) zb)) (nomark _)) (ze (zr (zY (za (n3 4) (za non3 zb))))) zu)
  (ze (zr (zY (za (n3 4) (za (n3 5) zb)))))))),fun ds Q h=>?_⟩
 obtain⟨b,path,j,room,rfl,l,h1,hb,s,q⟩:=h
 walk_at "rd atI0 atI1"
 have hj1:Bits 65 (j - 1):=s.sub (Bits.lit (x:=1) 64);refine⟨s.mulOk hb #[1],path,rfl,l,h1,hj1.mulOk hb #[1],path,rfl,l,h1,?_⟩
 rw [YaR];unfold winB winP at q;dsimp only at q
 by_cases h:zF path.length (fun t=>decide ((j - 1)*b+room.1+1<=path.getD t 0))=path.length
 . rw [if_pos (by rw [h])]
   rw [if_pos h] at q;exact q
 . rw [if_neg (fun z=>h #[0])]
   rw [if_neg h] at q;exact q
theorem zkB(T:Txt c K mg):dd_windows_of_clan P w K mg base:=by
 have g:dd_window_of P w K mg base:=zli T;obtain⟨f,fd,F,hm⟩:=T.d_windows_of_clan;have S:FnScope ["told", "clan", "room", "path", "found", "j", "window"] ["told", "clan", "room"] (zh (top 35)):=⟨rfl,rfl,rfl,#[3],rfl,#[3],#[3]⟩
 refine⟨fun ds Q Q' E E' hQ hE h=>?_,⟨f,fd,fn3 F S (fun ds Q E h=>?_) (fun cdv A outer s H E E3 hE hr=>?_),F.binds fun _ _ _ _ _ _ us hl=>by obtain⟨_,_,_,rfl⟩:=zap hl;rfl,F.kp,hm⟩⟩
 . revert h;repeat' (first|exact fun h=>h|exact hQ _ _|exact hE _|refine Exists.imp fun _=>?_|refine And.imp ?_ ?_|refine forall_imp fun _=>?_)
 . obtain⟨_,_,_,_,_,rfl,_⟩:=h;rfl
 refine⟨_,(zd ((zbG (i:=3) S.nd rfl #[2]) ["latest"] ["clan"] [1] rfl (zX (osc:=zh (top 35)) #[3]) rfl (zP (at3 (n3 0) i3 (fun _ _=>rfl))) (fun H0 s H fp cl=>⟨(zj (i:=0) (show((["latest"]:List PySem.Str)++(["clan"]:List PySem.Str)).Nodup by decide) rfl #[2]),jC,(at3 (n3 0) (n3 1) (fun _ _=>rfl))⟩))
  (zd ((ji (i:=4) S.nd rfl #[2]) (z0 zb))
  (zd ((zl (i:=5) S.nd rfl #[2]) i3)
  (zd ((zl (i:=6) S.nd rfl #[2]) (df3 hE g (hr.mono #[1]) rfl zm (za (at3 (n3 0) i3 (fun _ _=>rfl)) (za (n3 3) (za (n3 5) (za (n3 2) zb))))))
  (zd (zaT WaF (pw3 (jZ (zt jW (at3 (n3 6) i3 (fun _ _=>rfl)) (zq zA rfl T.n_len zv (za (n3 3) zb)) (nomark _)) (Ji (zt zbR (at3 (n3 6) i3 (fun _ _=>rfl)) non3 (nomark _))))) (zd (jw (i:=4) rfl #[2] (zY (za (n3 1) (za (n3 5) (za (at3 (n3 6) i3 (fun _ _=>rfl)) (za (at3 (n3 6) i3 (fun _ _=>rfl)) zb))))))
   (zd ((zfw (i:=5) S.nd rfl #[2]) i3)
   (ze ((zl (i:=6) S.nd rfl #[2]) (df3 hE g (hr.mono #[1]) rfl zm (za (at3 (n3 0) i3 (fun _ _=>rfl)) (za (n3 3) (za (n3 5) (za (n3 2) zb))))))))))
  (ze (jm [4] (zr (n3 4))))))))),fun ds Q h=>?_⟩
 obtain⟨b,e,k,room,n,rfl,X,O,hk,a6,h1,a0,hbd,Y,U,a1,q⟩:=h;refine zk fun N l=>?_
 walk_at "rd atI0 atI1"
 refine⟨sz (by rw [YaR];omega),?_⟩
 refine jv dI (fun r=>PyData.int (r.getD k 0)) (fun ρ=>∃ t,ρ = [t,some (.sh true (.int k))]) e ?_ _ _ _ _ ⟨none,rfl⟩ ?_
 . rintro r hr ρ fa a5 K ⟨t,rfl⟩ kk
   have hg:=jo (xs:=r) (i:=(k:Int)) #[0] (by rw [a0 r hr];omega)
   rw [Int.toNat_natCast] at hg
   walk_at "rd hg"
   exact kk _ ⟨_,rfl⟩
 have E:[]++e.map (fun r=>PyData.int (r.getD k 0))=(zp e k).map PyData.int:=by unfold zp;rw [List.nil_append,YaD];rfl
 rw [E];refine l _ ?_;clear l N;have A:(zp e k).length=e.length:=by unfold zp;rw [YaR]
 have hcb:∀ t,(zp e k).getD t 0+room.2<=80*b:=fun t=>by
  unfold zp;rw [YaP,Ya0];cases L:e[t]? with
  | none=>
   show 0+room.2<=80*b
   omega
  | some r=>exact hbd r (Yah L)
 have hM:∀ j,JF e.length (winB b (zp e k) room j)->j<=81:=fun j h=>zlu (M:=80) X #[0] hcb U Y j (by rw [A];exact h)
 refine zk fun N l=>?_
 walk_at "rd"
 refine l _ ?_
 clear l N;refine zk fun N l=>?_
 walk_at "rd"
 refine l _ ?_
 clear l N;refine zk fun N l=>?_
 walk_at "rd atI0 atI1"
 refine⟨zp e k,rfl,room,rfl,rfl,#[0],#[0],O,Bits.lit (x:=1) 64,l _ ?_⟩
 clear l N
 walk_at "rd"
 refine⟨_,Zf (fun m ρ=>∃ (ws:List Win) (j:Int),ρ = [some (.sh false (.tuple [.int b,.list (e.map dI)])),some (.sh true (.int k)),some (.sh false (.tuple [.int room.1,.int room.2])),some (.sh true (.list ((zp e k).map .int))),some (.ow true (ws.map dW)),some (.sh true (.int j)),some (.sh true (.tuple [.int (winB b (zp e k) room j).1,dO (winB b (zp e k) room j).2]))]/\1<=j/\j<=82/\(ws.length:Int)=j - 1/\(∀ G,IsW e.length k (winB b (zp e k) room) j G->IsW e.length k (winB b (zp e k) room) 1 (ws++G))/\m=(82 - j).toNat) ?_ _ _ ⟨[],1,rfl,#[1],#[1],rfl,fun G h=>h,rfl⟩⟩
 rintro m ρ ⟨ws,j,rfl,a4,hj2,a2,v,rfl⟩ W hW
 walk_at "rd atI0 atI1"
 rw [YaR,A];have u:JF e.length (winB b (zp e k) room j)->W [some (.sh false (.tuple [.int b,.list (e.map dI)])),some (.sh true (.int k)),some (.sh false (.tuple [.int room.1,.int room.2])),some (.sh true (.list ((zp e k).map .int))),some (.ow true (ws.map dW++[.tuple [.int k,.int j,.int (winB b (zp e k) room j).1,dO (winB b (zp e k) room j).2]])),some (.sh true (.int (j+1))),some (.sh true (.tuple [.int (winB b (zp e k) room (j+1)).1,dO (winB b (zp e k) room (j+1)).2]))]:=fun L=>by
  have hj:=hM j L;refine hW (82 - (j+1)).toNat _ #[0] ⟨ws++[((k:Int),j,(winB b (zp e k) room j).1,(winB b (zp e k) room j).2)],j+1,by rw [Ya2];rfl,#[0],#[0],by rw [YaS];simp;omega,fun G h=>?_,rfl⟩
  have:=v (((k:Int),j,(winB b (zp e k) room j).1,(winB b (zp e k) room j).2)::G) ⟨L,rfl,h⟩
  simpa using this
 have C:(List.map dW ws).length<sizeLine:=YaU (show _<1000 by rw [YaR];omega) #[1]
 have hbj:Bits 64 (j+1):=Bits.lit (x:=j+1) 64 #[0]
 by_cases ho:(winB b (zp e k) room j).1<(e.length:Int)
 . rw [if_pos ho]
   exact⟨C,_,rfl,room,rfl,rfl,#[0],#[0],O,hbj,u (.inl ho)⟩
 . rw [if_neg ho]
   change if isNone (Cl.sh true (dO (winB b (zp e k) room j).2))=false then _ else _
   rw [zhG]
   by_cases J:(winB b (zp e k) room j).2=none
   . rw [if_neg (by rw [J];decide)]
     have:=v [] (fun z=>z.elim ho fun y=>y J)
     rw [Yao] at this;exact q ws this #[0]
   . rw [if_pos (by cases h:(winB b (zp e k) room j).2 with|none=>exact absurd h J|some i=>rfl)]
     exact⟨C,_,rfl,room,rfl,rfl,#[0],#[0],O,hbj,u (.inr J)⟩
theorem zj5(T:Txt c K mg):dd_windows_within P w K mg base:=by
 have znr:dd_windows_of_clan P w K mg base:=zkB T;obtain⟨f,fd,F,hm⟩:=T.d_windows_within;have S:FnScope ["told", "rooms", "found", "clan", "room"] ["told", "rooms"] (zh (top 36)):=⟨rfl,rfl,rfl,#[3],rfl,#[3],#[3]⟩
 refine⟨fun ds Q Q' E E' hQ hE h=>?_,⟨f,fd,fn3 F S (fun ds Q E h=>?_) (fun cdv A outer s H E E3 hE hr=>?_),F.binds fun _ _ _ _ _ _ us hl=>by obtain⟨_,_,rfl⟩:=zan hl;rfl,F.kp,hm⟩⟩
 . revert h;repeat' (first|exact fun h=>h|exact hQ _ _|exact hE _|refine Exists.imp fun _=>?_|refine And.imp ?_ ?_|refine forall_imp fun _=>?_)
 . obtain⟨_,_,_,_,rfl,_⟩:=h;rfl
 refine⟨_,(zd ((ji (i:=2) S.nd rfl #[2]) (z0 zb))
  (zd (zz WaF rfl (zbC rfl T.n_enumerate (za (n3 1) zb)) (ja (n:=2) rfl (zw (zj (i:=3) S.nd rfl #[2]) (zw (zj (i:=4) S.nd rfl #[2]) z8))) (ze (zkM (i:=2) rfl #[2] (df3 hE znr (hr.mono #[1]) rfl zm (za (n3 0) (za (n3 3) (za (n3 4) zb)))))))
  (ze (jm [2] (zr (n3 2)))))),fun ds Q h=>?_⟩
 obtain⟨b,y,rooms,n,rfl,hb0,hb,I,hn8,h61,h1,hqn,hq60,C,q⟩:=h
 walk_at "rd"
 have he:jQ (rooms.map jM)=(List.range n).map fun i=>PyData.tuple [PyData.int (i:Nat),jM (rooms.getD i (0,0))]:=by
  unfold jQ;rw [YaR,I]
  apply Yat
  intro i hi;have:=Yba.mp hi;rw [YaP,Ya0,YaP,YaQ #[0]];rfl
 rw [he];refine zcS (fun k ρ=>∃ (W:List (List Win)) (t u:Option L3.Cl),ρ = [some (.sh false (.tuple [.int b,.list (y.map dI)])),some (.sh false (.list (rooms.map jM))),some (.ow true (W.flatten.map dW)),t,u]/\W.length=k/\(∀ i,i<k->IsW y.length i (winB b (zp y i) (rooms.getD i (0,0))) 1 (W.getD i []))/\W.flatten.length<=200*k) ?_ ?_ ⟨[],none,none,rfl,rfl,fun i h=>absurd h #[0],by simp⟩
 . rintro k ρ hk ⟨W,t,u,rfl,l,hWi,hWf⟩ W' hW'
   have hrk:=C (rooms.getD k (0,0)) (by rw [YaP,YaQ #[0]];exact Ya4 _)
   have hbd:∀ r∈y,r.getD k 0+(rooms.getD k (0,0)).2<=80*b:=fun r hr=>by
    have h1:=hq60 r hr (r.getD k 0) (by
     rw [YaP,YaQ (by rw [hqn r hr];exact hk)];exact Ya4 _)
    omega
   walk_at "rd"
   refine⟨y,rfl,k,rfl,rooms.getD k (0,0),rfl,rfl,hb0,hb,n,hk,h61,h1,hqn,hbd,hrk.1,hrk.2.1,#[0],fun ws N a1=>⟨sz (by rw [YaR,YaR];omega),?_⟩⟩
   have X:(W++[ws]).flatten=W.flatten++ws:=by rw [List.flatten_append];simp
   rw [<-Ya2,<-X];refine hW' _ ⟨W++[ws],_,_,rfl,by simp [l],fun i hi=>?_,by rw [X,YaS];omega⟩
   by_cases e:i=k
   . subst e
     have g1:(W++[ws]).getD i []=ws:=by rw [<-l];simp
     rw [g1];exact N
   . have g2:(W++[ws]).getD i []=W.getD i []:=by
      have hlt:i<W.length:=#[0]
      simp [Yab hlt]
     rw [g2];exact hWi i #[0]
 . rintro ρ ⟨W,t,u,rfl,l,hWi,hWf⟩
   walk_at "rd"
   exact q W l hWi #[0]
theorem ziP(T:Txt c K mg):dd_check_turn c P w K mg base:=by
 obtain⟨f,fd,F,hm⟩:=T.d_check_turn;have S:FnScope ["turn", "turns"] ["turn", "turns"] (zh (top 18)):=⟨rfl,rfl,rfl,#[3],rfl,#[3],#[3]⟩
 refine⟨fun ds Q Q' E E' hQ hE h=>?_,⟨f,fd,fn3 F S (fun ds Q E h=>?_) (fun cdv A outer s H E E3 hE hr=>?_),F.binds fun _ _ _ _ _ _ us hl=>by obtain⟨_,_,rfl⟩:=zan hl;rfl,F.kp,hm⟩⟩
 . revert h;repeat' (first|exact fun h=>h|exact hQ _ _|exact hE _|refine Exists.imp fun _=>?_|refine And.imp ?_ ?_|refine forall_imp fun _=>?_)
 . obtain⟨_,_,rfl,_⟩:=h;rfl
 refine⟨_,(ze (s_if (jD (JM j4 j4 i3 (n3 0) (n3 1))) (ze (jq hE ju rfl rfl T.m_NoRule T.e_NoRule (za s3 zb))) zu)),fun i Q h=>?_⟩
 obtain⟨t,e,rfl,q,a⟩:=h
 walk_at "rd"
 by_cases h1:1<=t
 . rw [if_pos h1]
   exact ite2 (fun z=>a fun y=>z y.2) fun z=>q ⟨h1,Decidable.not_not.mp z⟩
 . rw [if_neg h1]
   exact a fun y=>h1 y.1
theorem ziY(T:Txt c K mg):dd_check_rules c P w K mg base:=by
 have zm0:dd_check_turn c P w K mg base:=ziP T;obtain⟨f,fd,F,hm⟩:=T.d_check_rules;have S:FnScope ["rules", "turns", "clans", "word", "turn", "clan"] ["rules", "turns", "clans"] (zh (top 19)):=⟨rfl,rfl,rfl,#[3],rfl,#[3],#[3]⟩
 refine⟨fun ds Q Q' E E' hQ hE h=>?_,⟨f,fd,fn3 F S (fun ds Q E h=>?_) (fun cdv A outer s H E E3 hE hr=>?_),F.binds fun _ _ _ _ _ _ us hl=>by obtain⟨_,_,_,rfl⟩:=zap hl;rfl,F.kp,hm⟩⟩
 . revert h;repeat' (first|exact fun h=>h|exact hQ _ _|exact hE _|refine Exists.imp fun _=>?_|refine And.imp ?_ ?_|refine forall_imp fun _=>?_)
 . obtain⟨_,_,_,rfl,_⟩:=h;rfl
 refine⟨_,(ze (zz WaF rfl (zP (n3 0)) (ja (n:=3) rfl (zw (zj (i:=3) S.nd rfl #[2]) (zw (zj (i:=4) S.nd rfl #[2]) (zw (zj (i:=5) S.nd rfl #[2]) z8)))) (zd (s_if (zt (zig (hu65 hr)) (n3 3) (zY (za (g3s rfl T.m_FIXED) (za (g3s rfl T.m_BARRED) zb))) (by with_unfolding_all rfl)) (ze (jq hE ju rfl rfl T.m_NoRule T.e_NoRule (za s3 zb))) zu)
  (zd (Zo (df3 hE zm0 (hr.mono #[1]) rfl zm (za (n3 4) (za (n3 1) zb))))
  (ze (s_if (jD (JM j4 jW i3 (n3 5) (n3 2))) (ze (jq hE ju rfl rfl T.m_NoRule T.e_NoRule (za s3 zb))) zu)))))),fun M Q h=>?_⟩
 obtain⟨rs,E,n,rfl,v,q,b⟩:=h
 walk_at "rd"
 refine jp dRl rs (fun done ρ=>∃ t3 B s:Option L3.Cl,ρ = [some (.sh false (.list (rs.map dRl))),some (.sh true (.int E)),some (.sh true (.int n)),t3,B,s]/\okRs E n done) ?_ ?_ ⟨none,none,none,rfl,fun r h=>by cases h⟩
 . rintro done r rest ρ J ⟨t3,B,s,rfl,g⟩ W hW
   have hr:r∈rs:=by rw [J];simp
   walk_at "rd"
   refine⟨v r hr,zhb,ite2 (fun z=>b fun y=>(zew _).mp z (y r hr).1) fun z=>⟨fun h1=>?_,fun h1=>b fun y=>h1 (y r hr).2.1⟩⟩
   by_cases l:0<=r.2.2
   . rw [if_pos l]
     refine ite2 (fun h3=>b fun y=>h3 (y r hr).2.2.2) fun h3=>hW _ ⟨_,_,_,rfl,fun x H=>?_⟩
     rcases Ya3.mp H with y|y
     . exact g x y
     . rw [Ya6.mp y]
       exact⟨Decidable.not_not.mp fun y=>z ((zew _).mpr y),h1,l,Decidable.not_not.mp h3⟩
   . rw [if_neg l]
     exact b fun y=>l (y r hr).2.2.1
 . rintro ρ ⟨t3,B,s,rfl,g⟩
   exact q g
theorem zih(T:Txt c K mg):dd_forbidden P w K mg base:=by
 obtain⟨f,fd,F,Y⟩:=T.d_forbidden;have S:FnScope ["rules", "clans", "found", "word", "turn", "clan", "other"] ["rules", "clans"] (zh (top 20)):=⟨rfl,rfl,rfl,#[3],rfl,#[3],#[3]⟩
 refine⟨fun b Q Q' hQ h=>?_,⟨f,fd,fnC [] F S (fun b Q h=>?_) (fun cdv A outer s H H0 E E3 hE hr=>?_),F.binds fun _ _ _ _ _ _ us U=>by obtain⟨_,_,rfl⟩:=zan U;rfl,F.kp,Y⟩⟩
 . revert h;repeat' (first|exact fun h=>h|exact hQ _ _|exact hE _|refine Exists.imp fun _=>?_|refine And.imp ?_ ?_|refine forall_imp fun _=>?_)
 . obtain⟨_,_,rfl,_⟩:=h;exact⟨rfl,by simp [jy]⟩
 refine⟨_,(zd (zkQ (i:=2) S.nd rfl #[2])
  (zd (zz WaF rfl (zP (n3 0)) (ja (n:=3) rfl (zw (zj (i:=3) S.nd rfl #[2]) (zw (zj (i:=4) S.nd rfl #[2]) (zw (zj (i:=5) S.nd rfl #[2]) z8)))) (ze (zz WaF rfl (z9 rfl T.n_range (za (n3 1) zb)) (zj (i:=6) S.nd rfl #[2]) (ze (s_if (zt (jl hr.units) (cmp3 (jl hr.units) (n3 6) (n3 5) (nomark _)) (cmp3 (jl hr.units) (n3 3) (g3s rfl T.m_BARRED) (nomark _)) (nomark _)) (ze (zlY (i:=2) (z7 hr) rfl #[2] (n3 4) (n3 6) b3)) zu)))))
  (ze (zkh (i:=2) rfl #[2])))),fun b Q h=>?_⟩
 obtain⟨C,n,rfl,h8,U,q⟩:=h;refine zk fun N L=>?_
 walk_at "rd"
 refine L _ ?_
 clear L N;refine z6 (fun ρ=>∃ (b:List (List Key×D)) (t3 z v l:Option L3.Cl),ρ = [some (.sh false (.list (C.map dRl))),some (.sh true (.int n)),some (.dt b),t3,z,v,l]/\(b.all fun p=>zx p.2)=true/\Jd C n b) (fun N L=>?_) ?_
 . walk_at "rd"
   refine jp dRl C (fun done ρ=>∃ (b:List (List Key×D)) (t3 z v l:Option L3.Cl),ρ = [some (.sh false (.list (C.map dRl))),some (.sh true (.int n)),some (.dt b),t3,z,v,l]/\(b.all fun p=>zx p.2)=true/\b.length<=8*done.length/\Jd done n b) ?_ (fun ρ ⟨b,t3,z,v,l,e,h1,_,h2⟩=>L _ ⟨b,t3,z,v,l,e,h1,h2⟩) ⟨[],none,none,none,none,rfl,rfl,Wbm _,Jd.nil n⟩
   rintro done r rest ρ hd ⟨b,t3,z,v,l,rfl,hs,hdl,O⟩ W hW
   have a0:done.length<C.length:=by rw [hd,YaS,List.length_cons];omega
   walk_at "rd"
   refine⟨#[0],#[0],?_⟩
   rw [Int.toNat_natCast];refine je (fun j ρ=>∃ (b:List (List Key×D)) (l:Option L3.Cl),ρ = [some (.sh false (.list (C.map dRl))),some (.sh true (.int n)),some (.dt b),some (.sh true (.str r.1)),some (.sh true (.int (r.2.1))),some (.sh true (.int (r.2.2))),l]/\(b.all fun p=>zx p.2)=true/\b.length<=8*done.length+j/\Jb done r n j b) ?_ ?_ ⟨b,_,rfl,hs,hdl,O.part⟩
   . rintro j ρ hj ⟨b,l,rfl,hs,hdl,I⟩ V hV
     walk_at "rd"
     refine⟨by rfl,by rfl,ite2 (fun e=>⟨YaU (show _<1000000 by omega) #[1],hV _ ⟨_,_,rfl,zkq hs rfl,?_,I.put e⟩⟩) fun e=>hV _ ⟨_,_,rfl,hs,#[0],I.skip e⟩⟩
     have:=zjb b (kk r.2.1 (0+(j:Int))) (.bool true)
     omega
   . rintro ρ ⟨b,l,rfl,hs,hdl,I⟩
     refine hW _ ⟨b,_,_,_,_,rfl,hs,?_,I.whole⟩
     rw [YaS,List.length_singleton]
     omega
 rintro ρ ⟨b,t3,z,v,l,rfl,hs,O⟩
 walk_at "rd"
 exact q b hs O
theorem ziQ(T:Txt c K mg):dd_may_come P w K mg base:=by
 obtain⟨f,u,F,l⟩:=T.d_may_come;have S:FnScope ["visit", "turn", "barred"] ["visit", "turn", "barred"] (zh (top 38)):=⟨rfl,rfl,rfl,#[3],rfl,#[3],#[3]⟩
 refine⟨fun b Q v hQ h=>?_,⟨f,u,fnC [] F S (fun b Q h=>?_) (fun cdv A a s H J E B G hr=>?_),F.binds fun _ _ _ _ _ _ C p=>by obtain⟨_,_,_,rfl⟩:=zap p;rfl,F.kp,l⟩⟩
 . revert h;repeat' (first|exact fun h=>h|exact hQ _ _|exact hE _|refine Exists.imp fun _=>?_|refine And.imp ?_ ?_|refine forall_imp fun _=>?_)
 . obtain⟨_,_,_,rfl,g,_⟩:=h;exact⟨rfl,by simpa [jy] using g⟩
 refine⟨_,(zd (s_if (pw3 (jZ (zt jW (n3 1) (at3 (n3 0) i3 (fun _ _=>rfl)) (nomark _)) (Ji (pw3 (zdE (zt zbR (at3 (n3 0) i3 (fun _ _=>rfl)) non3 (nomark _)) (zcj (zt Jn (n3 1) (at3 (n3 0) i3 (fun _ _=>rfl)) (nomark _)))))))) (ze (zbV b3)) zu)
  (ze (zbV (zjZ (i:=2) (z7 hr) rfl #[2] (n3 1) (at3 (n3 0) i3 (fun _ _=>rfl)))))),fun b Q h=>?_⟩
 obtain⟨⟨vc,y,L,n⟩,t,b,rfl,g,q⟩:=h;unfold mayD at q;dsimp only at q;cases n with
 | none=>
  walk_at "rd dO"
  refine ite2 (fun e=>?_) fun e=>?_
  . rw [if_pos e] at q;exact q
  . rw [if_neg e] at q;exact q
 | some x=>
  walk_at "rd dO"
  refine ite2 (fun e=>?_) fun e=>?_
  . rw [if_pos e] at q;exact q
  . rw [if_neg e] at q
    dsimp only at q;refine ite2 (fun e=>?_) fun e=>?_
    . rw [if_pos e] at q;exact q
    . rw [if_neg e] at q;exact q
theorem zjk(T:Txt c K mg):dd_choices_of_turns c P w K mg base:=by
 have l:dd_check_rules c P w K mg base:=ziY T;have zm5:dd_forbidden P w K mg base:=zih T;have znl:dd_may_come P w K mg base:=ziQ T;obtain⟨f,fd,F,hm⟩:=T.d_choices_of_turns;have S:FnScope ["told", "visits", "rules", "turns", "clans", "barred", "found", "turn"] ["told", "visits", "rules"] (zh (top 39)):=⟨rfl,rfl,rfl,#[3],rfl,#[3],#[3]⟩
 refine⟨fun ds Q Q' E E' hQ hE h=>?_,⟨f,fd,fn3 F S (fun ds Q E h=>?_) (fun cdv A outer s H E E3 hE hr=>?_),F.binds fun _ _ _ _ _ _ us hl=>by obtain⟨_,_,_,rfl⟩:=zap hl;rfl,F.kp,hm⟩⟩
 . revert h;repeat' (first|exact fun h=>h|exact hQ _ _|exact hE _|refine Exists.imp fun _=>?_|refine And.imp ?_ ?_|refine forall_imp fun _=>?_)
 . obtain⟨_,_,_,_,_,_,rfl,_⟩:=h;rfl
 refine⟨_,(zd ((zl (i:=3) S.nd rfl #[2]) (op3 jF (zq zA rfl T.n_len zv (za (at3 (n3 0) i3 (fun _ _=>rfl)) zb)) i3))
  (zd ((zl (i:=4) S.nd rfl #[2]) (zq zA rfl T.n_len zv (za (at3 (at3 (n3 0) i3 (fun _ _=>rfl)) i3 (fun _ _=>rfl)) zb)))
  (zd (Zo (df3 hE l (hr.mono #[1]) rfl zm (za (n3 2) (za (n3 3) (za (n3 4) zb)))))
  (zd (zcO (i:=5) [] #[1] S.nd rfl #[2] zm5 (hr.mono #[1]) rfl zm (za (n3 2) (za (n3 4) zb)))
  (zd ((ji (i:=6) S.nd rfl #[2]) (z0 zb))
  (zd (zlv 5 (zz WaF rfl (Za rfl T.n_range (za i3 (za (op3 zU (n3 3) i3) zb))) (zj (i:=7) S.nd rfl #[2]) (ze (jw (i:=6) rfl #[2] (new3 (jL ["place", "visit"] ["turn", "barred"] [7,5] rfl (zX (osc:=zh (top 39)) #[3]) rfl (zbC rfl T.n_enumerate (za (n3 1) zb)) (fun H0 s H fp cl=>⟨(ja (n:=2) rfl (zw (zj (i:=0) (show((["place", "visit"]:List PySem.Str)++(["turn", "barred"]:List PySem.Str)).Nodup by decide) rfl #[2]) (zw (zj (i:=1) (show((["place", "visit"]:List PySem.Str)++(["turn", "barred"]:List PySem.Str)).Nodup by decide) rfl #[2]) z8))),(zgk (val3 (dfX (E:=fun _ _ _=>False) znl (hr.mono #[1]) rfl jI (za (n3 1) (za (n3 2) (za (n3 3) zb)))))),(n3 0)⟩)))))))
  (ze (jm [6] (zr (n3 6)))))))))),fun ds Q h=>?_⟩
 obtain⟨b,L,V,rs,n,T',rfl,hq,hT,hn,h8,hV,hVc,hrl,a0,q,hE'⟩:=h;have hd0:atI (L.map dI) 0=some (PyData.list ((L[0]'(by omega)).map PyData.int)):=JY (i:=0) #[0]
 have a4:(L[0]'(by omega)).length=n:=hn _ (Ya4 _)
 have et:((L.length:Int) - 1)=(T':Int):=#[0]
 refine zk fun N v=>?_
 walk_at "rd YaR et"
 refine v _ ?_
 clear v N;refine zk fun N v=>?_
 walk_at "rd hd0 YaR a4"
 refine v _ ?_
 clear v N;refine zk fun N v=>?_
 walk_at "rd"
 refine⟨rs,rfl,a0,fun hok=>v _ ?_,hE'⟩
 clear v N;refine zk fun N v=>?_
 walk_at "rd"
 refine⟨rs,rfl,n,rfl,h8,hrl,fun ds hds hF=>v _ ?_⟩
 clear v N;refine zk fun N v=>?_
 walk_at "rd"
 refine v _ ?_
 clear v N;refine z6 (fun ρ=>∃ (ch:List (List Int)) (t7:Option L3.Cl), ρ = [some (.sh false (.tuple [.int b,.list (L.map dI)])),some (.sh false (.list (V.map dW))),some (.sh false (.list (rs.map dRl))),some (.sh true (.int T')),some (.sh true (.int n)),some (.fd ds),some (.ow true (ch.map dI)),t7]/\ch.length=T'/\(∀ row∈ch,row.length<=2000/\row.Nodup/\∀ x∈row,InR x V.length)/\ChOk rs V ch) (fun N v=>?_) ?_
 . walk_at "rd"
   refine⟨#[1],#[1],#[0],#[0],?_⟩
   rw [show((T':Int)+1 - 1).toNat=T' by omega]
   refine je (fun k ρ=>∃ (ch:List (List Int)) (t7:Option L3.Cl), ρ = [some (.sh false (.tuple [.int b,.list (L.map dI)])),some (.sh false (.list (V.map dW))),some (.sh false (.list (rs.map dRl))),some (.sh true (.int T')),some (.sh true (.int n)),some (.fd ds),some (.ow true (ch.map dI)),t7]/\ch.length=k/\(∀ row∈ch,row.length<=2000/\row.Nodup/\∀ x∈row,InR x V.length)/\ChOk rs V ch) ?_ (fun ρ h=>v ρ h) ⟨[],_,rfl,rfl,fun row h=>(by cases h),fun k h=>absurd h (Nat.not_lt_zero _)⟩
   rintro k ρ hk ⟨ch,t7,rfl,C,hrow,hch⟩ W hW
   walk_at "rd"
   rw [zgL];refine⟨sz (by rw [YaR,YaG];omega),?_⟩
   refine zdB (fun i:Nat=>PyData.tuple [PyData.int (i:Nat),dW (V.getD i (0,0,0,none))]) (fun i:Nat=>PyData.int (i:Nat)) (fun i:Nat=>mayD ds (V.getD i (0,0,0,none)) (1+(k:Int))) (fun ρ=>∃ t0 t1,ρ = [t0,t1,some (.sh true (.int (1+(k:Int)))),some (.fd ds)]) (List.range V.length) ?_ _ _ _ _ ⟨none,none,rfl⟩ ?_
   . rintro i hi ρ fa acc K ⟨t0,t1,rfl⟩ U
     walk_at "rd"
     refine⟨hds,V.getD i (0,0,0,none),rfl,rfl,rfl,rfl,hds,?_⟩
     by_cases e:mayD ds (V.getD i (0,0,0,none)) (1+(k:Int))=true
     . rw [if_pos e] at U
       rw [if_pos e];exact U _ ⟨_,_,rfl⟩
     . rw [if_neg e] at U
       rw [if_neg e];exact U _ ⟨_,_,rfl⟩
   . have hm:((List.range V.length).filter fun i:Nat=>mayD ds (V.getD i (0,0,0,none)) (1+(k:Int))).map (fun i:Nat=>PyData.int (i:Nat))=(((List.range V.length).filter fun i:Nat=>mayD ds (V.getD i (0,0,0,none)) (1+(k:Int))).map fun i:Nat=>(i:Int)).map PyData.int:=by rw [YaD];rfl
     have hyl:=Wao (fun i:Nat=>mayD ds (V.getD i (0,0,0,none)) (1+(k:Int))) (List.range V.length)
     rw [YaG] at hyl;rw [List.nil_append,hm];refine⟨YaU (show _<1000 by rw [YaR];omega) #[1],hW _ ⟨ch++[((List.range V.length).filter fun i:Nat=>mayD ds (V.getD i (0,0,0,none)) (1+(k:Int))).map fun i:Nat=>(i:Int)],_,by rw [Ya2];rfl,by simp [C],fun row hr=>?_,?_⟩⟩
     rcases Ya3.mp hr with z|z
     . exact hrow row z
     . rw [Ya6.mp z]
       refine⟨by rw [YaR];omega,zka (WaQ.filter _),fun x hx=>?_⟩
       obtain⟨i,hi,rfl⟩:=Ya7.mp hx;have:=Yba.mp (Ya9.mp hi).1;exact⟨#[0],#[0]⟩
     . refine hch.snoc fun i hi=>?_
       rw [C,<-zlS hF (hVc _ (Jl hi)),show(((k:Nat):Int)+1)=1+(k:Int) by omega]
       constructor
       . intro z
         obtain⟨j,hj,e⟩:=Ya7.mp z;have:j=i:=#[0]
         subst this;exact(Ya9.mp hj).2
       . intro z
         exact Ya7.mpr ⟨i,Ya9.mpr ⟨Yba.mpr hi,z⟩,rfl⟩
 rintro ρ ⟨ch,t7,rfl,C,hrow,hch⟩
 walk_at "rd"
 exact q hok ch C hrow hch
theorem zl7(T:Txt c K mg):dd_check_row c P w K mg base:=by
 obtain⟨f,fd,F,hm⟩:=T.d_check_row;have S:FnScope ["row", "turns", "clans", "clan"] ["row", "turns", "clans"] (zh (top 45)):=⟨rfl,rfl,rfl,#[3],rfl,#[3],#[3]⟩
 refine⟨fun ds Q Q' E E' hQ hE h=>?_,⟨f,fd,fn3 F S (fun ds Q E h=>?_) (fun cdv A outer s H E E3 hE hr=>?_),F.binds fun _ _ _ _ _ _ us hl=>by obtain⟨_,_,_,rfl⟩:=zap hl;rfl,F.kp,hm⟩⟩
 . revert h;repeat' (first|exact fun h=>h|exact hQ _ _|exact hE _|refine Exists.imp fun _=>?_|refine And.imp ?_ ?_|refine forall_imp fun _=>?_)
 . obtain⟨_,_,_,rfl,_⟩:=h;rfl
 refine⟨_,(zd (s_if (zt (jB hr.units) (zq zA rfl T.n_len zv (za (n3 0) zb)) (n3 1) (nomark _)) (ze (jq hE ju rfl rfl T.m_NoRow T.e_NoRow (za s3 zb))) zu)
  (ze (zz WaF rfl (zP (n3 0)) (zj (i:=3) S.nd rfl #[2]) (ze (s_if (jD (JM j4 jW i3 (n3 3) (n3 2))) (ze (jq hE ju rfl rfl T.m_NoRow T.e_NoRow (za s3 zb))) zu))))),fun E Q h=>?_⟩
 obtain⟨row,T',n,rfl,q,hE'⟩:=h
 walk_at "rd"
 rw [YaR]
 by_cases p:(row.length:Int)=T'
 case neg=>rw [if_pos p];exact hE' fun z=>p (by rw [z.1])
 rw [if_neg (fun z=>z p)]
 refine jp PyData.int row (fun e ρ=>∃ t,ρ = [some (.sh false (.list (row.map .int))),some (.sh true (.int T')),some (.sh true (.int n)),t]/\∀ x∈e,0<=x/\x<(n:Int)) ?_ ?_ ⟨none,rfl,fun x h=>by cases h⟩
 . rintro e x rest ρ hd ⟨t,rfl,hall⟩ W v
   have hx:x∈row:=by rw [hd];simp
   walk_at "rd"
   by_cases h2:0<=x
   case neg=>rw [if_neg h2];exact hE' fun z=>h2 (z.2 x hx).1
   rw [if_pos h2]
   by_cases h3:x<(n:Int)
   case neg=>rw [if_pos h3];exact hE' fun z=>h3 (z.2 x hx).2
   rw [if_neg (fun z=>z h3)]
   exact v _ ⟨_,rfl,fun y hy=>by
    rcases Ya3.mp hy with z|z
    . exact hall y z
    . rw [Ya6.mp z];exact⟨h2,h3⟩⟩
 . rintro ρ ⟨t,rfl,hall⟩
   exact q ⟨#[0],hall⟩
theorem zla(T:Txt c K mg):dd_choices_of_visits P w K mg base:=by
 obtain⟨f,fd,F,hm⟩:=T.d_choices_of_visits;have S:FnScope ["visits", "choices", "found", "turn", "places", "place"] ["visits", "choices"] (zh (top 40)):=⟨rfl,rfl,rfl,#[3],rfl,#[3],#[3]⟩
 refine⟨fun ds Q Q' E E' hQ hE h=>?_,⟨f,fd,fn3 F S (fun ds Q E h=>?_) (fun cdv A outer s H E E3 hE hr=>?_),F.binds fun _ _ _ _ _ _ us hl=>by obtain⟨_,_,rfl⟩:=zan hl;rfl,F.kp,hm⟩⟩
 . revert h;repeat' (first|exact fun h=>h|exact hQ _ _|exact hE _|refine Exists.imp fun _=>?_|refine And.imp ?_ ?_|refine forall_imp fun _=>?_)
 . obtain⟨_,_,rfl,_⟩:=h;rfl
 refine⟨_,(zd ((zeH (i:=2) S.nd rfl #[2]) ["visit"] [] [] rfl (zX (osc:=zh (top 40)) #[3]) rfl (zP (n3 0)) (fun s H fp cl=>⟨jn (i:=0) (show((["visit"]:List PySem.Str)++([]:List PySem.Str)).Nodup by decide) rfl #[2] (by first|exact .inl rfl|exact .inr rfl),zbB zK⟩) (fun σ H Q h=>⟨show 0<=sizeLine by decide,h⟩) (fun G=>RdVs.nil) rfl)
  (zd (zz WaF rfl (zbC rfl T.n_enumerate (za (n3 1) zb)) (ja (n:=2) rfl (zw (zj (i:=3) S.nd rfl #[2]) (zw (zj (i:=4) S.nd rfl #[2]) z8))) (ze (zz WaF rfl (zP (n3 4)) (zj (i:=5) S.nd rfl #[2]) (ze (zhr (i:=2) rfl #[2] (n3 5) (n3 3) (fun _ _=>rfl))))))
  (ze (jm [2] (zr (n3 2)))))),fun ds Q h=>?_⟩
 obtain⟨V,v,rfl,hV,hT,L,q⟩:=h;(refine zk fun N hN=>?_)
 walk_at "rd YaR"
 refine⟨#[0],fun ps hps=>hN _ ?_⟩
 clear hN N;have e0:List.replicate V.length ([]:List D)=(List.replicate V.length ([]:List Int)).map fun r=>r.map PyData.int:=by rw [Yaz];rfl
 rw [e0];refine z6 (fun ρ=>∃ (g:List (List Int)) (E t4 t5:Option L3.Cl),ρ = [some (.sh false (.list (V.map dW))),some (.sh false (.list (v.map dI))),some (.tr ps (g.map fun r=>r.map PyData.int)),E,t4,t5]/\g.length=V.length/\(∀ row∈g,∀ x∈row,InR x v.length)/\TvOk V.length v v.length [] g) (fun N hN=>?_) ?_
 . walk_at "rd"
   rw [zkR];refine zcS (fun k ρ=>∃ (g:List (List Int)) (E t4 t5:Option L3.Cl),ρ = [some (.sh false (.list (V.map dW))),some (.sh false (.list (v.map dI))),some (.tr ps (g.map fun r=>r.map PyData.int)),E,t4,t5]/\g.length=V.length/\(∀ row∈g,∀ x∈row,InR x v.length)/\(∀ row∈g,row.length<=2000*k)/\TvOk V.length v k [] g) ?_ (fun ρ ⟨g,E,t4,t5,e,h1,h2,_,h3⟩=>hN ρ ⟨g,E,t4,t5,e,h1,h2,h3⟩) ⟨List.replicate V.length [],none,none,none,rfl,by simp,fun row h x hx=>(by rw [Wah h] at hx;cases hx),fun row h=>(by rw [Wah h];exact Wbm _),TvOk.nil _ _⟩
   rintro k ρ hk ⟨g,E,t4,t5,rfl,C,hin,j,htv⟩ W hW
   obtain⟨r1,r2⟩:=L (v.getD k []) (Jl hk);generalize X:v.getD k []=row at r1 r2
   walk_at "rd"
   refine jp PyData.int row (fun u ρ=>∃ (g:List (List Int)) (t5:Option L3.Cl),ρ = [some (.sh false (.list (V.map dW))),some (.sh false (.list (v.map dI))),some (.tr ps (g.map fun r=>r.map PyData.int)),some (.sh true (.int (k:Int))),some (.sh false (.list (row.map .int))),t5]/\g.length=V.length/\(∀ row∈g,∀ x∈row,InR x v.length)/\(∀ row∈g,row.length<=2000*k+u.length)/\TvOk V.length v k u g) ?_ ?_ ⟨g,_,rfl,C,hin,j,htv⟩
   . rintro u x a0 ρ hd ⟨g,t5,rfl,C,hin,j,htv⟩ V' U
     have hx:InR x g.length:=by rw [C];exact r2 x (by rw [hd];simp)
     have a5:u.length<row.length:=by rw [hd,YaS,List.length_cons];omega
     obtain⟨a1,a2⟩:=zbU (d:=[]) hx;have a3:=hin _ a2;have a4:=j _ a2;generalize hrv:g.getD x.toNat []=M at a1 a2 a3 a4;have b1:atI (g.map fun r=>r.map PyData.int) x=some (M.map PyData.int):=by rw [Zr,a1];rfl
     have b2:ixN (g.map fun r=>r.map PyData.int).length x=some x.toNat:=j9 hx.1 (by rw [YaR];exact hx.2)
     walk_at "rd"
     refine⟨_,b1,_,b2,YaU (show _<1000000 by rw [YaR];omega) #[1],U _ ⟨g.set x.toNat (M++[(k:Int)]),_,by rw [Wbk,Ya2];rfl,by rw [YaN];exact C,fun r hr y hy=>?_,fun r hr=>?_,hrv ▸ htv.step hx C⟩⟩
     . rcases Waf hr with z|z
       . exact hin r z y hy
       . rw [z] at hy
         rcases Ya3.mp hy with w|w
         . exact a3 y w
         . rw [Ya6.mp w];exact⟨#[0],#[0]⟩
     . rw [YaS,List.length_singleton]
       rcases Waf hr with z|z
       . have:=j r z;omega
       . rw [z,YaS,List.length_singleton];omega
   . rintro ρ ⟨g,t5,rfl,C,hin,j,htv⟩
     exact hW _ ⟨g,_,_,_,rfl,C,hin,fun r hr=>(by have:=j r hr;omega),htv.whole X⟩
 rintro ρ ⟨g,E,t4,t5,rfl,C,hin,htv⟩
 walk_at "rd"
 have:=q g C hin htv.fin;rw [YaD];exact this
theorem zlc(T:Txt c K mg):dd_move_along P w K mg base:=by
 obtain⟨f,fd,F,z⟩:=T.d_move_along;have S:FnScope ["choice", "came", "taken", "holders", "taker", "former"] ["choice", "came", "taken", "holders"] (zh zbK):=⟨rfl,rfl,rfl,#[3],rfl,#[3],#[3]⟩
 refine⟨fun O Q Q' hQ h=>?_,⟨f,fd,fnC [1,2,3] F S (fun O Q h=>?_) (fun a4 A C s H H0 E E3 hE y=>?_),F.binds fun _ _ _ _ _ _ us hl=>by obtain⟨_,_,_,_,rfl⟩:=zad hl;rfl,F.kp,z⟩⟩
 . revert h;repeat' (first|exact fun h=>h|exact hQ _ _|exact hE _|refine Exists.imp fun _=>?_|refine And.imp ?_ ?_|refine forall_imp fun _=>?_)
 . obtain⟨_,_,_,_,_,_,_,_,_,_,_,_,_,rfl,_⟩:=h;exact⟨rfl,by simp [jy]⟩
 refine⟨_,(ze (zaT WaF (zt zbR (n3 0) non3 (nomark _)) (zd ((zl (i:=4) S.nd rfl #[2]) (zcI (i:=1) (z7 y) rfl #[2] (n3 0)))
  (zd ((zl (i:=5) S.nd rfl #[2]) (zmQ (i:=2) (z7 y) rfl #[2] (n3 4)))
  (zd (zco (i:=2) (z7 y) rfl #[2] (n3 4) (n3 0))
  (zd (zco (i:=3) (z7 y) rfl #[2] (n3 0) (n3 4))
  (ze ((zl (i:=0) S.nd rfl #[2]) (n3 5))))))))),fun O Q h=>?_⟩
 obtain⟨x,U,a2,a3,G,t,h,r,l,Z,B',m,L,rfl,hw,p,hA,hB,q⟩:=h
 walk_at "rd"
 refine⟨_,Zf (fun k ρ=>(∃ (x:Int) (b g:Tb) (v u:Option L3.Cl) (j:Nat),ρ = [some (.sh true (.int x)),some (.dm U G),some (.dm a2 b),some (.dm a3 g),v,u]/\OnWay L G t h b g r x Z B' j/\k=j+1)\/∃ (b g:Tb) (v u:Option L3.Cl),ρ = [some (.sh true .none),some (.dm U G),some (.dm a2 b),some (.dm a3 g),v,u]/\Moved L t h b g l Z B') ?_ _ _ (.inl ⟨x,t,h,_,_,m,rfl,p,rfl⟩)⟩
 rintro k ρ (⟨x,b,g,v,u,j,rfl,p,rfl⟩|⟨b,g,v,u,rfl,z⟩) W hW
 . obtain⟨s,R,_⟩:=p.came
   obtain⟨I,J⟩:=p.step hw R;have l1:=p.ot.len;have l2:=p.oh.len;refine zdo fun Y N' B n=>?_
   walk_at "rd"
   refine B ?_
   clear B n Y N';refine zk fun N a=>?_
   walk_at "rd R"
   refine a _ ?_
   clear a N;refine zk fun N a=>?_
   walk_at "rd"
   refine a _ ?_
   clear a N;refine zk fun N a=>?_
   walk_at "rd"
   refine⟨YaU (show _<1000000 by omega) #[1],a _ ?_⟩
   clear a N;refine zk fun N a=>?_
   walk_at "rd"
   refine⟨YaU (show _<1000000 by omega) #[1],a _ ?_⟩
   clear a N;cases e:getM b s with
   | none=>
    walk_at "rd optI"
    exact hW 0 _ #[0] (.inr ⟨_,_,_,_,rfl,I e⟩)
   | some M=>
    obtain⟨X,a0,o'⟩:=J M e
    walk_at "rd optI"
    exact hW (X+1) _ #[0] (.inl ⟨M,_,_,_,_,X,rfl,o',rfl⟩)
 . refine zdo fun Y N' B n=>?_
   walk_at "rd"
   refine n ?_
   walk_at "rd"
   exact q b g z
theorem zjO(T:Txt c K mg):dd_settle P w K mg base:=by
 have n:dd_move_along P w K mg base:=zlc T;obtain⟨f,fd,F,hm⟩:=T.d_settle;have S:FnScope ["start", "choices", "taken", "holders", "reached", "came", "place", "seeker", "choice"] ["start", "choices", "taken", "holders"] (zh (top 42)):=⟨rfl,rfl,rfl,#[3],rfl,#[3],#[3]⟩
 refine⟨fun ds Q Q' hQ h=>?_,⟨f,fd,fnC [2,3] F S (fun ds Q h=>?_) (fun cdv A aq s H H0 E E3 hE hr=>?_),F.binds fun _ _ _ _ _ _ us hl=>by obtain⟨_,_,_,_,rfl⟩:=zad hl;rfl,F.kp,hm⟩⟩
 . revert h;repeat' (first|exact fun h=>h|exact hQ _ _|exact hE _|refine Exists.imp fun _=>?_|refine And.imp ?_ ?_|refine forall_imp fun _=>?_)
 . obtain⟨_,_,_,_,_,_,_,_,rfl,_⟩:=h;exact⟨rfl,by simp [jy]⟩
 refine⟨_,(zd ((ji (i:=4) S.nd rfl #[2]) (z0 (za (n3 0) zb)))
  (zd (zcG (i:=5) S.nd rfl #[2])
  (zd ((zl (i:=6) S.nd rfl #[2]) i3)
  (zd (zaT WaF (zt jW (n3 6) (zq zA rfl T.n_len zv (za (n3 4) zb)) (nomark _)) (zd ((zl (i:=7) S.nd rfl #[2]) (at3 (n3 4) (n3 6) (fun _ _=>rfl)))
   (zd (zz WaF rfl (zP (at3 (n3 1) (n3 7) (fun _ _=>rfl))) (zj (i:=8) S.nd rfl #[2]) (ze (s_if (zcH (i:=5) (z7 hr) rfl #[2] (n3 8)) (zd (zco (i:=5) (z7 hr) rfl #[2] (n3 8) (n3 7))
    (zd (s_if (zcH (i:=3) (z7 hr) rfl #[2] (n3 8)) (zd (zk0 [5,2,3] #[1] n (hr.mono #[1]) rfl zm (za (n3 8) (za (n3 5) (za (n3 2) (za (n3 3) zb)))))
     (ze (zbV (new3 (z0 zb))))) zu)
    (ze (jw (i:=4) rfl #[2] (zcI (i:=3) (z7 hr) rfl #[2] (n3 8)))))) zu)))
   (ze ((zfw (i:=6) S.nd rfl #[2]) i3)))))
  (ze (zbV (new3 (zit rfl rfl T.n_sorted (za (n3 4) zb))))))))),fun ds Q h=>?_⟩
 obtain⟨start,v,a2,a3,t,h,A',B',rfl,ao,hA,hB,h62,hst,ae,hm,ht,hh,h0,hte,q1,q2⟩:=h;generalize hEd:(fun s c:Int=>c∈v.getD s.toNat [])=Ed at q1
 have hte:∀ s c,getM t s=some c->Ed s c:=fun s c e=>by rw [<-hEd];exact hte s c e
 refine zk fun N hN=>?_;walk_at "rd"
 refine hN _ ?_;clear hN N;refine zk fun N hN=>?_;walk_at "rd"
 refine fun ac=>hN _ ?_
 clear hN N;refine zk fun N hN=>?_;walk_at "rd"
 (refine hN _ ?_;clear hN N);refine z6 (fun ρ=>∃ (R:List Int) (b:Tb) (p:Nat) (t7 M:Option L3.Cl),ρ = [some (.sh true (.int start)),some (.sh false (.list (v.map dI))),some (.dm a2 t),some (.dm a3 h),some (.ow true (R.map .int)),some (.dm ac b),some (.sh true (.int (p:Int))),t7,M]/\Rea Ed start t h b R A' B'/\(∀ x∈R,∀ c∈v.getD x.toNat [],(getM b c).isSome=true)) (fun N hN=>?_) ?_
 . walk_at "rd"
   refine⟨_,Zf (fun k ρ=>∃ (R:List Int) (b:Tb) (p:Nat) (t7 M:Option L3.Cl),ρ = [some (.sh true (.int start)),some (.sh false (.list (v.map dI))),some (.dm a2 t),some (.dm a3 h),some (.ow true (R.map .int)),some (.dm ac b),some (.sh true (.int (p:Int))),t7,M]/\Rea Ed start t h b R A' B'/\(∀ x∈R.take p,∀ c∈v.getD x.toNat [],(getM b c).isSome=true)/\p<=R.length/\k=A' - p) ?_ _ _ ⟨[start],[],0,_,_,rfl,Rea.start hst,fun x hx=>(by cases hx),Wbm _,rfl⟩⟩
   rintro k ρ ⟨R,b,p,t7,M,rfl,hR,hdn,hp,rfl⟩ W hW
   have a5:=Zu hR.nd hR.inn;refine zdo fun Y N' U hN'=>?_
   walk_at "rd YaR"
   refine ite2 (fun hlt=>U ?_) fun az=>hN' (hN _ ⟨R,b,p,t7,M,rfl,hR,by rw [Wak #[0]] at hdn;exact hdn⟩)
   clear U hN' Y N';have hlt:p<R.length:=#[0]
   have a7:atI (R.map PyData.int) (p:Int)=some (PyData.int (R[p]'hlt)):=jb (by rw [Ya0,YaQ hlt];rfl)
   have C:R[p]'hlt∈R:=Ya4 _;have r:R[p]?=some (R[p]'hlt):=YaQ hlt;generalize R[p]'hlt=s at a7 C r;refine zk fun N1 Z=>?_
   walk_at "rd a7"
   refine Z _ ?_
   clear Z N1;obtain⟨r1,r2⟩:=zbU (L:=v) (d:=[]) (ao ▸ hR.inn s C);have r1':atI (v.map dI) s=some (.list ((v.getD s.toNat []).map .int)):=by rw [Zr,r1];rfl
   have r3:=ae _ r2;have ag:∀ c,c∈v.getD s.toNat []->Ed s c:=fun c I=>by rw [<-hEd];exact I
   generalize am:v.getD s.toNat []=a9 at r1' r3 ag;refine z6 (fun ρ=>∃ (R:List Int) (b:Tb) (M:Option L3.Cl),ρ = [some (.sh true (.int start)),some (.sh false (.list (v.map dI))),some (.dm a2 t),some (.dm a3 h),some (.ow true (R.map .int)),some (.dm ac b),some (.sh true (.int (p:Int))),some (.sh true (.int s)),M]/\Rea Ed start t h b R A' B'/\(∀ x∈R.take p,∀ c∈v.getD x.toNat [],(getM b c).isSome=true)/\R[p]?=some s/\∀ c∈a9,(getM b c).isSome=true) (fun N1 Z=>?_) ?_
   . walk_at "rd r1'"
     refine jp PyData.int a9 (fun done ρ=>∃ (R:List Int) (b:Tb) (M:Option L3.Cl),ρ = [some (.sh true (.int start)),some (.sh false (.list (v.map dI))),some (.dm a2 t),some (.dm a3 h),some (.ow true (R.map .int)),some (.dm ac b),some (.sh true (.int (p:Int))),some (.sh true (.int s)),M]/\Rea Ed start t h b R A' B'/\(∀ x∈R.take p,∀ c∈v.getD x.toNat [],(getM b c).isSome=true)/\R[p]?=some s/\∀ c∈done,(getM b c).isSome=true) ?_ (fun ρ h=>Z ρ h) ⟨R,b,_,rfl,hR,hdn,r,fun c I=>(by cases I)⟩
     clear hR a5 hp hlt a7 C hdn r
     rintro done x rest ρ hd ⟨R,b,M,rfl,hR,hdn,r,ai⟩ V hV
     have C:s∈R:=Yah r;have hlt:p<R.length:=(Ya8.mp r).1;have ab:Ed s x:=ag x (by rw [hd];simp)
     have hx:InR x B':=r3 x (by rw [hd];simp)
     have a5:=Zu hR.nd hR.inn;have hcl:=hR.oc.len
     ((try dsimp only [lE,kE,gn3,List.cons_append,List.nil_append,List.set_cons_zero,List.set_cons_succ,zx,Wa9,Bool.true_or]);try simp only [lE,kE,gn3,List.cons_append,List.nil_append,List.set_cons_zero,List.set_cons_succ,zx,Bool.or_true])
     refine zbF fun Y N' U hN'=>?_
     walk_at "rd"
     refine ite2 (fun hn=>U ?_) fun hn=>hN' (by walk_at "rd";exact hV _ ⟨R,b,_,rfl,hR,hdn,r,zmn ai hn⟩)
     clear U hN' Y N';have hn:getM b x=none:=by cases e:getM b x with|none=>rfl|some _=>rw [e] at hn;cases hn
     refine zk fun N2 hN2=>?_
     walk_at "rd"
     refine⟨YaU (show _<1000000 by omega) #[1],hN2 _ ?_⟩
     clear hN2 N2;refine zk fun N2 hN2=>?_
     refine zbF fun Y N' U hN'=>?_
     walk_at "rd"
     refine ite2 (fun hf=>U ?_) fun hf=>hN' ?_
     . clear U hN' Y N' hN2
       have hf:getM h x=none:=by cases e:getM h x with|none=>rfl|some _=>rw [e] at hf;cases hf
       have hway:=hR.seen h0 C ab hx hn;refine zk fun N3 ak=>?_
       walk_at "rd"
       refine⟨fun y=>R.idxOf y,start,A',B',R.idxOf s,Ed,hway,⟨hte,hm.free hf,ht,hh,⟨s,by rw [zS,if_pos rfl],rfl⟩,fun _ _=>rfl,fun _=>Iff.rfl,fun _ z=>z⟩,hA,hB,fun t' h' hmv=>ak _ ?_⟩
       walk_at "rd"
       exact q1 t' h' hmv
     . have hf:∃ y,getM h x=some y:=by cases e:getM h x with|none=>rw [e] at hf;exact absurd rfl hf|some y=>exact⟨y,rfl⟩
       obtain⟨y,hy⟩:=hf
       walk_at "rd"
       refine hN2 _ ?_
       clear U hN' Y N' hN2 N2
       walk_at "rd hy YaR"
       refine⟨YaU (show _<1000000 by omega) #[1],hV _ ⟨R++[y],putM b x s,_,by rw [Ya2];rfl,hR.more hm h0 C ab hx hn hy hh,fun z hz c I=>?_,by rw [Yab hlt];exact r,fun c I=>?_⟩⟩
       . rw [List.take_append_of_le_length #[0]] at hz
         exact zdY (hdn z hz c I)
       . rcases Ya3.mp I with z|z
         . exact zdY (ai c z)
         . rw [Ya6.mp z,zS,if_pos rfl];rfl
   rintro ρ ⟨R',ca',t8',rfl,hR',hdn',a1,hdo'⟩
   have hRA':=Zu hR'.nd hR'.inn;have av:p<R'.length:=(Ya8.mp a1).1
   walk_at "rd"
   refine hW (A' - (p+1)) _ #[0] ⟨R',ca',p+1,_,_,rfl,hR',fun x hx c I=>?_,#[0],rfl⟩
   rw [WaG,a1] at hx
   rcases Ya3.mp hx with z|z
   . exact hdn' x z c I
   . have z:x=s:=Ya6.mp z
     rw [z,am] at I;exact hdo' c I
 rintro ρ ⟨R,b,p,t7,M,rfl,hR,hall⟩
 have a5:=Zu hR.nd hR.inn;have hcl:=hR.oc.len;have ax:=hR.len
 walk_at "rd"
 refine⟨R,rfl,#[0],fun ms p as=>?_⟩
 have b1:=p.length_eq;refine q2 ms (p.nodup_iff.mpr hR.nd) as #[0] (fun x hx=>⟨hR.inn x (p.mem_iff.mp hx),hR.seeks x (p.mem_iff.mp hx)⟩) (p.mem_iff.mpr (Yah hR.hd)) ⟨b.map (·.1),by rw [YaR];omega,fun x hx c I=>ZN (hall x (p.mem_iff.mp hx) c I)⟩
theorem zjG(T:Txt c K mg):dd_place_visits P w K mg base:=by
 have a:dd_choices_of_visits P w K mg base:=zla T;have r:dd_settle P w K mg base:=zjO T;obtain⟨f,fd,F,hm⟩:=T.d_place_visits;have S:FnScope ["visits", "choices", "turn_of_visit", "visit_of_turn", "turns_for", "place", "visit", "stuck", "turn"] ["visits", "choices"] (zh zaw):=⟨rfl,rfl,rfl,#[3],rfl,#[3],#[3]⟩
 refine⟨fun ds Q Q' E E' hQ hE h=>?_,⟨f,fd,fn3 F S (fun ds Q E h=>?_) (fun cdv A outer s H E E3 hE hr=>?_),F.binds fun _ _ _ _ _ _ us hl=>by obtain⟨_,_,rfl⟩:=zan hl;rfl,F.kp,hm⟩⟩
 . revert h;repeat' (first|exact fun h=>h|exact hQ _ _|exact hE _|refine Exists.imp fun _=>?_|refine And.imp ?_ ?_|refine forall_imp fun _=>?_)
 . obtain⟨_,_,rfl,_⟩:=h;rfl
 refine⟨_,(zd (zcG (i:=2) S.nd rfl #[2])
  (zd (zcG (i:=3) S.nd rfl #[2])
  (zd ((zl (i:=4) S.nd rfl #[2]) (df3 hE a (hr.mono #[1]) rfl zm (za (n3 0) (za (n3 1) zb))))
  (zd (zz WaF rfl (zbC rfl T.n_enumerate (za (n3 0) zb)) (ja (n:=2) rfl (zw (zj (i:=5) S.nd rfl #[2]) (zw (zj (i:=6) S.nd rfl #[2]) z8))) (ze (s_if (zt zbR (at3 (n3 6) i3 (fun _ _=>rfl)) non3 (nomark _)) (zd (zcO (i:=7) [2,3] #[1] S.nd rfl #[2] r (hr.mono #[1]) rfl zm (za (n3 5) (za (n3 4) (za (n3 2) (za (n3 3) zb)))))
   (ze (s_if (zt Jn (zq zA rfl T.n_len zv (za (n3 7) zb)) i3 (nomark _)) (ze (zr (zY (za s3 (za (new3 (jL ["other"] ["visits"] [0] rfl (zX (osc:=zh zaw) #[3]) rfl (zP (n3 7)) (fun H0 s H fp cl=>⟨(zj (i:=0) (show((["other"]:List PySem.Str)++(["visits"]:List PySem.Str)).Nodup by decide) rfl #[2]),jC,(zY (za (at3 (at3 (n3 1) (n3 0) (fun _ _=>rfl)) i3 (fun _ _=>rfl)) (za (at3 (at3 (n3 1) (n3 0) (fun _ _=>rfl)) i3 (fun _ _=>rfl)) zb)))⟩))) zb))))) zu))) zu)))
  (zd (zz WaF rfl (z9 rfl T.n_range (za (zq zA rfl T.n_len zv (za (n3 1) zb)) zb)) (zj (i:=8) S.nd rfl #[2]) (ze (s_if (zcH (i:=3) (z7 hr) rfl #[2] (n3 8)) (zd (zcO (i:=7) [3,2] #[1] S.nd rfl #[2] r (hr.mono #[1]) rfl zm (za (n3 8) (za (n3 1) (za (n3 3) (za (n3 2) zb)))))
   (ze (s_if (zt Jn (zq zA rfl T.n_len zv (za (n3 7) zb)) i3 (nomark _)) (ze (zr (zY (za s3 (za (new3 (jL ["other"] [] [] rfl (zX (osc:=zh zaw) #[3]) rfl (zP (n3 7)) (fun H0 s H fp cl=>⟨(zj (i:=0) (show((["other"]:List PySem.Str)++([]:List PySem.Str)).Nodup by decide) rfl #[2]),jC,(op3 zU (n3 0) i3)⟩))) zb))))) zu))) zu)))
  (ze (zr (zY (za s3 (za (new3 (jL ["turn"] ["visits", "visit_of_turn"] [0,3] rfl (zX (osc:=zh zaw) #[3]) rfl (z9 rfl T.n_range (za (zq zA rfl T.n_len zv (za (n3 1) zb)) zb)) (fun H0 s H fp cl=>⟨(zj (i:=0) (show((["turn"]:List PySem.Str)++(["visits", "visit_of_turn"]:List PySem.Str)).Nodup by decide) rfl #[2]),jC,(at3 (at3 (n3 1) (zcI (i:=2) (z7 hr) rfl #[2] (n3 0)) (fun _ _=>rfl)) i3 (fun _ _=>rfl))⟩))) zb)))))))))),fun ds Q h=>?_⟩
 obtain⟨V,u,rfl,hV,hT,a1,q⟩:=h;refine zk fun N U=>?_
 walk_at "rd"
 refine fun a2=>U _ ?_
 clear U N;refine zk fun N U=>?_
 walk_at "rd"
 refine fun a3=>U _ ?_
 clear U N;refine zk fun N U=>?_
 walk_at "rd"
 refine⟨V,rfl,u,rfl,hV,hT,a1,fun tv Z htv htc=>U _ ?_⟩
 clear U N;refine z6 (fun ρ=>∃ (t h:Tb) (G A E:Option L3.Cl),ρ = [some (.sh false (.list (V.map dW))),some (.sh false (.list (u.map dI))),some (.dm a2 t),some (.dm a3 h),some (.sh true (.list (tv.map dI))),G,A,E,none]/\Mat t h/\TbOk t V.length u.length/\TbOk h u.length V.length/\(∀ s c,getM t s=some c->c∈tv.getD s.toNat [])/\∀ i,i<V.length->(V.getD i z4).2.2.2≠none->(getM t (i:Int)).isSome=true) (fun N U=>?_) ?_
 . walk_at "rd"
   rw [zgL];refine zcS (fun k ρ=>∃ (t h:Tb) (G A E:Option L3.Cl),ρ = [some (.sh false (.list (V.map dW))),some (.sh false (.list (u.map dI))),some (.dm a2 t),some (.dm a3 h),some (.sh true (.list (tv.map dI))),G,A,E,none]/\Mat t h/\TbOk t V.length u.length/\TbOk h u.length V.length/\(∀ s,(getM t s).isSome=true->s<(k:Int)/\(V.getD s.toNat z4).2.2.2≠none)/\(∀ s c,getM t s=some c->c∈tv.getD s.toNat [])/\∀ i,i<k->(V.getD i z4).2.2.2≠none->(getM t (i:Int)).isSome=true) ?_ (fun ρ ⟨t,h,G,A,E,e,h1,h2,h3,_,h4,h5⟩=>U ρ ⟨t,h,G,A,E,e,h1,h2,h3,h4,h5⟩) ⟨[],[],none,none,none,rfl,fun s c=>⟨fun z=>(by cases z),fun z=>(by cases z)⟩,TbOk.nil _ _,TbOk.nil _ _,fun s z=>(by cases z),fun s c z=>(by cases z),fun i hi=>absurd hi (Nat.not_lt_zero _)⟩
   rintro k ρ hk ⟨t,h,G,A,E,rfl,hm,ht,L,hd,M,hdu⟩ W hW
   have hvk:V.getD k z4=V.getD k (0,0,0,none):=rfl;generalize V.getD k (0,0,0,none)=v at hvk;obtain⟨vc,vj,vo,vl⟩:=v;have h0:getM t (k:Int)=none:=by
    cases e:getM t (k:Int) with
    | none=>rfl
    | some y=>have:=(hd (k:Int) (by rw [e];rfl)).1;omega
   have up:∀ s,(getM t s).isSome=true->s<((k+1:Nat):Int)/\(V.getD s.toNat z4).2.2.2≠none:=fun s z=>⟨by have:=(hd s z).1;omega,(hd s z).2⟩
   refine ze2 fun N1 l=>?_
   walk_at "rd"
   refine l _ ?_
   clear l N1;refine zbF fun Y N' hY hN'=>?_
   have no:vl=none->N':=fun X=>hN' (by
    walk_at "rd"
    refine hW _ ⟨t,h,_,_,_,rfl,hm,ht,L,up,M,fun i hi I=>?_⟩
    by_cases e:i=k
    . rw [e,hvk,X] at I;exact absurd rfl I
    . exact hdu i #[0] I)
   have ah:vl≠none->Y:=fun X=>by
    have af:(V.getD k z4).2.2.2≠none:=by rw [hvk];exact X
    refine hY ?_
    clear hY hN' no;refine zk fun N1 l=>?_
    walk_at "rd"
    rw [<-Z] at ht L;refine⟨tv,rfl,#[0],u.length,#[0],.inr #[0],⟨#[0],#[0]⟩,htv,hm,ht,L,h0,M,fun t' h' b=>l _ ?_,fun rs a4 a9 a5 O a7 hC=>l _ ?_⟩
    . clear l N1
      walk_at "rd"
      rw [if_neg #[1]]
      refine hW _ ⟨t',h',_,_,_,rfl,b.mat,Z ▸ b.ot,Z ▸ b.oh,fun s z=>?_,b.ed,fun i hi I=>(b.dt _).mpr ?_⟩
      . rcases(b.dt s).mp z with y|y
        . exact up s y
        . rw [y,Int.toNat_natCast];exact⟨#[0],af⟩
      . by_cases e:i=k
        . exact .inr (by rw [e])
        . exact .inl (hdu i #[0] I)
    . clear l N1
      have hz:0<rs.length:=YaO a7
      walk_at "rd YaR"
      rw [if_pos #[0]]
      refine⟨sz #[0],?_⟩
      obtain⟨C,hC1,a8⟩:=hC;refine jv PyData.int (fun x=>.tuple [.int (V.getD x.toNat (0,0,0,none)).1,.int (V.getD x.toNat (0,0,0,none)).2.1]) (fun ρ=>∃ t,ρ = [t,some (.sh false (.list (V.map dW)))]) rs ?_ _ _ _ _ ⟨none,rfl⟩ (q _ (.inr (.inl ⟨rs,a4,a9,⟨fun z=>(by rw [z] at hz;simp at hz),a5⟩,fun x hx=>⟨Z ▸ (O x hx).1,?_⟩,⟨C,hC1,fun x hx j hj hm=>a8 x hx _ ?_⟩,rfl⟩)))
      rotate_left
      . rcases(O x hx).2 with y|y
        . rw [y,Int.toNat_natCast];exact af
        . exact(hd x y).2
      . have ad:=(O x hx).1
        exact(htc x.toNat (by have:=ad.1;have:=ad.2;omega) j hj).mpr hm
      rintro x hx ρ fa ac K ⟨t,rfl⟩ kk
      have ab:atI (V.map dW) x=some (dW (V.getD x.toNat (0,0,0,none))):=by rw [Zr,(zbU (d:=(0,0,0,none)) (Z ▸ (O x hx).1)).1];rfl
      walk_at "rd ab"
      exact kk _ ⟨_,rfl⟩
   clear hY hN';cases vl with
   | none=>walk_at "rd dO";exact no rfl
   | some e=>walk_at "rd dO";exact ah (by nofun)
 rintro ρ ⟨t,h,G,A,E,rfl,hm,ht,L,M,hdu⟩
 refine z6 (fun ρ=>∃ (t h:Tb) (G A E t8:Option L3.Cl),ρ = [some (.sh false (.list (V.map dW))),some (.sh false (.list (u.map dI))),some (.dm a2 t),some (.dm a3 h),some (.sh true (.list (tv.map dI))),G,A,E,t8]/\Mat t h/\TbOk h u.length V.length/\(∀ s c,getM h s=some c->c∈u.getD s.toNat [])/\(∀ i,i<V.length->(V.getD i z4).2.2.2≠none->(getM t (i:Int)).isSome=true)/\∀ k:Int,0<=k->k<(u.length:Int)->(getM h k).isSome=true) (fun N U=>?_) ?_
 . have hhe:∀ s c,getM h s=some c->c∈u.getD s.toNat []:=fun s c e=>by
    have h1:=M c s ((hm c s).mpr e);obtain⟨⟨i1,i2⟩,j1,j2⟩:=L.get e;have:=(htc c.toNat #[0] s.toNat #[0]).mp (by rw [show((s.toNat:Nat):Int)=s by omega];exact h1)
    rwa [show((c.toNat:Nat):Int)=c by omega] at this
   walk_at "rd YaR"
   refine⟨#[0],#[0],?_⟩
   rw [Int.toNat_natCast];refine je (fun k ρ=>∃ (t h:Tb) (G A E t8:Option L3.Cl),ρ = [some (.sh false (.list (V.map dW))),some (.sh false (.list (u.map dI))),some (.dm a2 t),some (.dm a3 h),some (.sh true (.list (tv.map dI))),G,A,E,t8]/\Mat t h/\TbOk t V.length u.length/\TbOk h u.length V.length/\(∀ s c,getM h s=some c->c∈u.getD s.toNat [])/\(∀ i,i<V.length->(V.getD i z4).2.2.2≠none->(getM t (i:Int)).isSome=true)/\∀ i:Int,0<=i->i<(k:Int)->(getM h i).isSome=true) ?_ (fun ρ ⟨t,h,G,A,E,t8,e,h1,h2,h3,h4,h5,h6⟩=>U ρ ⟨t,h,G,A,E,t8,e,h1,h3,h4,h5,h6⟩) ⟨t,h,_,_,_,_,rfl,hm,ht,L,hhe,hdu,fun i h0 h1=>absurd h1 #[0]⟩
   clear hm ht L M hdu hhe t h G A E
   rintro k ρ hk ⟨t,h,G,A,E,t8,rfl,hm,ht,L,hhe,hdu,hd⟩ W hW
   ((try dsimp only [lE,kE,gn3,List.cons_append,List.nil_append,List.set_cons_zero,List.set_cons_succ,zx,Wa9,Bool.true_or]);try simp only [lE,kE,gn3,List.cons_append,List.nil_append,List.set_cons_zero,List.set_cons_succ,zx,Bool.or_true])
   refine zbF fun Y N' hY hN'=>?_
   walk_at "rd"
   refine ite2 (fun hn=>hY ?_) fun hn=>hN' ?_
   . have h0:getM h (0+(k:Int))=none:=by cases e:getM h (0+(k:Int)) with|none=>rfl|some _=>rw [e] at hn;cases hn
     refine zk fun N1 l=>?_
     walk_at "rd"
     refine⟨u,rfl,#[0],V.length,#[0],.inl #[0],⟨#[0],#[0]⟩,fun ag hr=>(a1 ag hr).2,hm.symm,L,ht,h0,hhe,fun h' t' b=>l _ ?_,fun rs a4 a9 a5 O a7 hC=>l _ ?_⟩
     . clear l N1
       walk_at "rd"
       rw [if_neg #[1]]
       refine hW _ ⟨t',h',_,_,_,_,rfl,b.mat.symm,b.oh,b.ot,b.ed,fun i hi I=>b.dh _ (hdu i hi I),fun i i0 i1=>(b.dt i).mpr ?_⟩
       by_cases e:i=(k:Int)
       . exact .inr #[0]
       . exact .inl (hd i i0 #[0])
     . clear l N1
       have hz:0<rs.length:=YaO a7
       walk_at "rd YaR"
       rw [if_pos #[0]]
       refine⟨sz #[0],?_⟩
       obtain⟨C,hC1,a8⟩:=hC;refine jv PyData.int (fun x=>.int (x+1)) (fun ρ=>∃ t,ρ = [t]) rs ?_ _ _ _ _ ⟨none,rfl⟩ (q _ (.inr (.inr ⟨rs,a4,a9,⟨fun z=>(by rw [z] at hz;simp at hz),a5⟩,fun x hx=>(O x hx).1,⟨C,hC1,fun x hx i hi hm=>a8 x hx _ hm⟩,rfl⟩)))
       rintro x hx ρ fa ac K ⟨t,rfl⟩ kk
       walk_at "rd"
       exact kk _ ⟨_,rfl⟩
   . walk_at "rd"
     refine hW _ ⟨t,h,_,_,_,_,rfl,hm,ht,L,hhe,hdu,fun i i0 i1=>?_⟩
     by_cases e:i=(k:Int)
     . rw [e]
       rw [Wbh] at hn;cases z:getM h (k:Int) with|none=>rw [z] at hn;exact absurd rfl hn|some _=>rfl
     . exact hd i i0 #[0]
 clear hm ht L M hdu t h G A E
 rintro ρ ⟨t,h,G,A,E,t8,rfl,hm,L,hhe,hdu,hd⟩
 walk_at "rd YaR"
 rw [Int.toNat_natCast];refine⟨#[0],#[0],sz (by rw [zbo];omega),?_⟩
 refine jv (fun i:Nat=>PyData.int (0+(i:Nat))) (fun i:Nat=>.int (V.getD ((getM h (0+(i:Int))).getD 0).toNat (0,0,0,none)).1) (fun ρ=>∃ t,ρ = [t,some (.sh false (.list (V.map dW))),some (.dm a3 h)]) (List.range u.length) ?_ _ _ _ _ ⟨none,rfl⟩ (q _ (.inl ⟨fun k=>((getM h (0+(k:Int))).getD 0).toNat,ziF hm L hhe hdu hd⟩))
 rintro i hi ρ fa ac K ⟨t,rfl⟩ kk
 have hi:=Yba.mp hi;obtain⟨y,hy⟩:=Wag.mp (hd (0+(i:Int)) #[0] #[0])
 rw [hy] at kk;have ab:atI (V.map dW) y=some (dW (V.getD y.toNat (0,0,0,none))):=by rw [Zr,(zbU (d:=(0,0,0,none)) (L.get hy).2).1];rfl
 walk_at "rd hy ab"
 exact kk _ ⟨_,rfl⟩
theorem ziL(T:Txt c K mg)(hB:BMod mg base)(kb:K.In base):dd_mend_visits c P w K mg base:=by
 have H:=T.hdC base kb;obtain⟨f1,d1,F1,h1⟩:=T.d_look_from;have GL:Df P w K mg base 1 "look_from" ["market", "turn", "gone", "far", "came"] (zcC c.Market):=⟨f1,d1,zle T.cl_M T.na_costs T.na_turn_prices T.na_visit_prices F1,F1.binds fun _ _ _ _ _ _ m l=>by obtain⟨_,_,_,_,_,rfl⟩:=zdR l;rfl,F1.kp,h1⟩
 obtain⟨f2,d2,q,M,u⟩:=T.x_nearest;have X:Df P w K mg base 4 "nearest" ["far", "done"] (zcA c.tb):=⟨f2,d2,zho rfl rfl H hB T.n_min q u,q.binds fun _ _ _ _ _ _ m l=>by obtain⟨_,_,rfl⟩:=zan l;rfl,q.kp,M⟩
 obtain⟨Y,B,F3,h3⟩:=T.d_change_prices;have GP:Df P w K mg base 1 "change_prices" ["market", "start", "whole", "far", "done"] (zcE c.Market):=⟨Y,B,ziM T.cl_M T.na_turn_prices T.na_visit_prices T.na_holders F3,F3.binds fun _ _ _ _ _ _ m l=>by obtain⟨_,_,_,_,_,rfl⟩:=zdR l;rfl,F3.kp,h3⟩
 obtain⟨f4,R,o,h4⟩:=T.d_move_along;have GM:Df P w K mg base 1 "move_along" ["choice", "came", "taken", "holders"] spMove:=⟨f4,R,zjY o,o.binds fun _ _ _ _ _ _ m l=>by obtain⟨_,_,_,_,rfl⟩:=zad l;rfl,o.kp,h4⟩
 obtain⟨f5,d5,z,L⟩:=T.d_serve;have GS:Df P w K mg base 5 "serve" ["market", "start"] (zcW c.Market c.tb):=⟨f5,d5,zhd T.cl_M T.na_taken T.na_holders GL X GP GM z,z.binds fun _ _ _ _ _ _ m l=>by obtain⟨_,_,rfl⟩:=zan l;rfl,z.kp,L⟩
 obtain⟨O,d6,v,Z⟩:=T.d_costs_of_turns;have GC:Df P w K mg base 1 "costs_of_turns" ["visits", "choices", "row"] (zdS K):=⟨O,d6,zkX T.n_zip v,v.binds fun _ _ _ _ _ _ m l=>by obtain⟨_,_,_,rfl⟩:=zap l;rfl,v.kp,Z⟩
 obtain⟨f7,d7,s,h7⟩:=T.d_first_price;have J:Df P w K mg base 1 "first_price" ["visit", "turns"] (zcg K):=⟨f7,d7,zjd s,s.binds fun _ _ _ _ _ _ m l=>by obtain⟨_,_,rfl⟩:=zan l;rfl,s.kp,h7⟩
 obtain⟨fi,di,A,MK⟩:=T.x_init;obtain⟨f8,S,p,h8⟩:=T.d_mend_visits;refine⟨fun ds Q Q' E E' hQ hE h=>?_,⟨f8,S,zjl T.cl_M T.na_turn_prices T.na_visit_prices T.na_taken T.n_len T.n_range T.n_zip T.m_Market MK (zlX T.cl_M T.na_costs T.na_turn_prices T.na_visit_prices T.na_taken T.na_holders T.n_len J A) (A.binds fun _ _ _ _ _ _ m l=>by obtain⟨_,_,_,rfl⟩:=zap l;rfl) GC GS p,p.binds fun _ _ _ _ _ _ m l=>by obtain⟨_,_,_,rfl⟩:=zap l;rfl,p.kp,h8⟩⟩
 obtain⟨U,ch,row,f,e,G,x2,x3,F,x5,x6,h⟩:=h;exact⟨U,ch,row,f,e,G,x2,x3,F,x5,x6,fun a b d g i j k=>hQ _ _ (h a b d g i j k)⟩
theorem zh1(T:Txt c K mg):dd_less P w K mg base:=by
 obtain⟨f,fd,F,hm⟩:=T.d_less;have S:FnScope ["one", "other"] ["one", "other"] (zh (top 8)):=⟨rfl,rfl,rfl,#[3],rfl,#[3],#[3]⟩
 refine⟨fun ds Q Q' E E' hQ hE h=>?_,⟨f,fd,fn3 F S (fun ds Q E h=>?_) (fun cdv A outer s H E E3 hE hr=>?_),F.binds fun _ _ _ _ _ _ us hl=>by obtain⟨_,_,rfl⟩:=zan hl;rfl,F.kp,hm⟩⟩
 . revert h;repeat' (first|exact fun h=>h|exact hQ _ _|exact hE _|refine Exists.imp fun _=>?_|refine And.imp ?_ ?_|refine forall_imp fun _=>?_)
 . obtain⟨_,_,rfl,_⟩:=h;rfl
 refine⟨_,(ze (zr (cmp3 jW (op3 zW (at3 (n3 0) i3 (fun _ _=>rfl)) (at3 (n3 1) i3 (fun _ _=>rfl))) (op3 zW (at3 (n3 1) i3 (fun _ _=>rfl)) (at3 (n3 0) i3 (fun _ _=>rfl))) (nomark _)))),fun j Q h=>?_⟩
 obtain⟨a,b,rfl,g,hb,q⟩:=h
 walk_at "rd atI0 atI1"
 exact⟨g.2.1.mulOk hb.2.2 #[1],hb.2.1.mulOk g.2.2 #[1],q⟩
theorem zl5(T:Txt c K mg):dd_check_bounds c P w K mg base:=by
 have b:dd_less P w K mg base:=zh1 T;obtain⟨f,fd,F,hm⟩:=T.d_check_bounds;have S:FnScope ["bounds", "clans", "below", "above", "bound"] ["bounds", "clans"] (zh (top 12)):=⟨rfl,rfl,rfl,#[3],rfl,#[3],#[3]⟩
 refine⟨fun ds Q Q' E E' hQ hE h=>?_,⟨f,fd,fn3 F S (fun ds Q E h=>?_) (fun cdv A outer s H E E3 hE hr=>?_),F.binds fun _ _ _ _ _ _ us hl=>by obtain⟨_,_,rfl⟩:=zan hl;rfl,F.kp,hm⟩⟩
 . revert h;repeat' (first|exact fun h=>h|exact hQ _ _|exact hE _|refine Exists.imp fun _=>?_|refine And.imp ?_ ?_|refine forall_imp fun _=>?_)
 . obtain⟨_,_,rfl,_⟩:=h;rfl
 refine⟨_,(zd (s_if (zt (jB hr.units) (zq zA rfl T.n_len zv (za (n3 0) zb)) (n3 1) (nomark _)) (ze (jq hE ju rfl rfl T.m_NoBounds T.e_NoBounds (za s3 zb))) zu)
  (ze (zz WaF rfl (zP (n3 0)) (ja (n:=2) rfl (zw (zj (i:=2) S.nd rfl #[2]) (zw (zj (i:=3) S.nd rfl #[2]) z8))) (ze (zz WaF rfl (zi4 (zY (za (n3 2) (za (n3 3) zb)))) (zj (i:=4) S.nd rfl #[2]) (ze (s_if (pw3 (jZ (val3 (df3 hE b (hr.mono #[1]) rfl zm (za (n3 4) (za (g3t rfl T.m_LEAST_BOUND) zb)))) (Ji (val3 (df3 hE b (hr.mono #[1]) rfl zm (za (g3t rfl T.m_MOST_BOUND) (za (n3 4) zb))))))) (ze (jq hE ju rfl rfl T.m_NoBounds T.e_NoBounds (za s3 zb))) zu))))))),fun ds Q h=>?_⟩
 obtain⟨l,n,rfl,hq,q,s⟩:=h
 walk_at "rd"
 rw [YaR]
 by_cases L:(l.length:Int)=n
 case neg=>rw [if_pos L];exact s fun z=>L (by rw [z.1])
 rw [if_neg (fun z=>z L)]
 refine jp dP l (fun done ρ=>∃ t u v,ρ = [some (.sh false (.list (l.map dP))),some (.sh true (.int n)),t,u,v]/\∀ p∈done,inQ p.1/\inQ p.2) ?_ ?_ ⟨none,none,none,rfl,fun x h=>by cases h⟩
 . rintro done x R ρ hd ⟨t,u,v,rfl,g⟩ W Y
   have H:x∈l:=by rw [hd];simp
   obtain⟨G,E⟩:=hq x H
   walk_at "rd"
   refine jp dQ [x.1,x.2] (fun e ρ=>∃ v,ρ = [some (.sh false (.list (l.map dP))),some (.sh true (.int n)),some (.sh false (dQ x.1)),some (.sh false (dQ x.2)),v]/\∀ r∈e,inQ r) ?_ ?_ ⟨_,rfl,fun x h=>by cases h⟩
   . rintro e r J ρ A ⟨v,rfl,hall'⟩ W' hW'
     have hr:okQ r:=by
      have:r∈[x.1,x.2]:=by rw [A];simp
      rcases Wa5.mp this with z|z
      . rw [z];exact G
      . rw [Ya6.mp z];exact E
     have B:inQ r\/¬okB n l:=by
      by_cases z:inQ r
      . exact .inl z
      . right
        intro y;have:r∈[x.1,x.2]:=by rw [A];simp
        rcases Wa5.mp this with w|w
        . rw [w] at z;exact z (y.2 x H).1
        . rw [Ya6.mp w] at z;exact z (y.2 x H).2
     have M:okQ (0,1):=⟨#[1],Bits.lit (x:=0) 1200,Bits.lit (x:=1) 1200⟩
     have O:okQ (10,1):=⟨#[1],Bits.lit (x:=10) 1200,Bits.lit (x:=1) 1200⟩
     walk_at "rd"
     refine⟨r,rfl,rfl,(0,1),rfl,rfl,hr,M,ite2 (fun h=>s (B.elim (fun z=>absurd h (by have:=z.1;show ¬r.1*1<0*r.2;omega)) id)) fun h=>⟨(10,1),rfl,rfl,r,rfl,rfl,O,hr,ite2 (fun h2=>s (B.elim (fun z=>absurd h2 (by have:=z.2;show ¬10*r.2<r.1*1;omega)) id)) fun h2=>hW' _ ⟨_,rfl,fun y Z=>?_⟩⟩⟩
     rcases Ya3.mp Z with z|z
     . exact hall' y z
     . rw [Ya6.mp z]
       have e1:¬r.1*1<0*r.2:=h;have e2:¬10*r.2<r.1*1:=h2;exact⟨#[0],#[0]⟩
   . rintro ρ ⟨v,rfl,hall'⟩
     exact Y _ ⟨_,_,_,rfl,fun p U=>by
      rcases Ya3.mp U with z|z
      . exact g p z
      . rw [Ya6.mp z];exact⟨hall' _ (by simp),hall' _ (by simp)⟩⟩
 . rintro ρ ⟨t,u,v,rfl,g⟩
   exact q ⟨#[0],g⟩
theorem zju(T:Txt c K mg):dd_room_at_most P w K mg base:=by
 obtain⟨f,fd,F,hm⟩:=T.d_room_at_most;have S:FnScope ["bottom", "bound"] ["bottom", "bound"] (zh (top 13)):=⟨rfl,rfl,rfl,#[3],rfl,#[3],#[3]⟩
 refine⟨fun ds Q Q' E E' hQ hE h=>?_,⟨f,fd,fn3 F S (fun ds Q E h=>?_) (fun cdv A outer s H E E3 hE hr=>?_),F.binds fun _ _ _ _ _ _ us hl=>by obtain⟨_,_,rfl⟩:=zan hl;rfl,F.kp,hm⟩⟩
 . revert h;repeat' (first|exact fun h=>h|exact hQ _ _|exact hE _|refine Exists.imp fun _=>?_|refine And.imp ?_ ?_|refine forall_imp fun _=>?_)
 . obtain⟨_,_,rfl,_⟩:=h;rfl
 refine⟨_,(ze (zr (op3 zI (op3 zW (at3 (n3 1) i3 (fun _ _=>rfl)) (n3 0)) (at3 (n3 1) i3 (fun _ _=>rfl))))),fun j Q h=>?_⟩
 obtain⟨b,r,rfl,e,a,q⟩:=h
 walk_at "rd atI0 atI1"
 exact⟨a.2.1.mulOk e #[1],⟨a.1,a.2.2.mono #[1]⟩,q⟩
theorem zlD(T:Txt c K mg):dd_rooms_of c P w K mg base:=by
 have e:dd_check_bounds c P w K mg base:=zl5 T;have a:dd_room_at_most P w K mg base:=zju T;obtain⟨f,fd,F,hm⟩:=T.d_rooms_of;have S:FnScope ["told", "bounds", "bottom"] ["told", "bounds"] (zh (top 14)):=⟨rfl,rfl,rfl,#[3],rfl,#[3],#[3]⟩
 refine⟨fun ds Q Q' E E' hQ hE h=>?_,⟨f,fd,fn3 F S (fun ds Q E h=>?_) (fun cdv A outer s H E E3 hE hr=>?_),F.binds fun _ _ _ _ _ _ us hl=>by obtain⟨_,_,rfl⟩:=zan hl;rfl,F.kp,hm⟩⟩
 . revert h;repeat' (first|exact fun h=>h|exact hQ _ _|exact hE _|refine Exists.imp fun _=>?_|refine And.imp ?_ ?_|refine forall_imp fun _=>?_)
 . obtain⟨_,_,_,_,rfl,_⟩:=h;rfl
 refine⟨_,(zd ((zl (i:=2) S.nd rfl #[2]) (at3 (n3 0) i3 (fun _ _=>rfl)))
  (zd (Zo (df3 hE e (hr.mono #[1]) rfl zm (za (n3 1) (za (zq zA rfl T.n_len zv (za (at3 (at3 (n3 0) i3 (fun _ _=>rfl)) i3 (fun _ _=>rfl)) zb)) zb))))
  (ze (zr (new3 (jL ["below", "above"] ["bottom"] [2] rfl (zX (osc:=zh (top 14)) #[3]) rfl (zP (n3 1)) (fun H0 s H W Y=>⟨(ja (n:=2) rfl (zw (zj (i:=0) (show((["below", "above"]:List PySem.Str)++(["bottom"]:List PySem.Str)).Nodup by decide) rfl #[2]) (zw (zj (i:=1) (show((["below", "above"]:List PySem.Str)++(["bottom"]:List PySem.Str)).Nodup by decide) rfl #[2]) z8))),jC,(zY (za (df3 (E:=fun _ _ _=>False) (E3:=fun _=>False) (fun _ _ z _=>z) a (hr.mono #[1]) rfl jI (za (n3 2) (za (n3 0) zb))) (za (df3 (E:=fun _ _ _=>False) (E3:=fun _=>False) (fun _ _ z _=>z) a (hr.mono #[1]) rfl jI (za (n3 2) (za (n3 1) zb))) zb)))⟩))))))),fun ds Q h=>?_⟩
 obtain⟨b,y,l,n,rfl,hb,M,C,U,hl,J,q,v⟩:=h;have B:atI (y.map dI) 0=some (PyData.list (y[0].map PyData.int)):=JY (i:=0) #[0]
 have h0n:=C y[0] (Ya4 #[0])
 refine zk fun N g=>?_
 walk_at "rd atI0"
 refine g _ ?_
 clear g N;refine zk fun N g=>?_
 walk_at "rd atI1 B YaR h0n"
 refine⟨l,rfl,n,rfl,J,fun hok=>g _ ?_,v⟩
 clear g N
 walk_at "rd YaR"
 refine⟨sz #[0],?_⟩
 refine jv dP (fun p=>jM (jA b p.1,jA b p.2)) (fun ρ=>∃ t u,ρ = [t,u,some (.sh true (.int b))]) l ?_ _ _ _ _ ⟨none,none,rfl⟩ ?_
 . rintro p L ρ Z R K ⟨t,u,rfl⟩ kk
   obtain⟨r,G⟩:=J p L
   walk_at "rd"
   exact⟨p.1,rfl,rfl,hb,r,p.2,rfl,rfl,hb,G,kk _ ⟨_,_,rfl⟩⟩
 . have:=q hok
   unfold zE at this;rw [YaD] at this;exact this
theorem zjq:FnScope ["spells", "bounds", "rules", "row", "told", "visits", "choices", "found"] ["spells", "bounds", "rules", "row"] (zh (top 55)):=⟨rfl,rfl,rfl,#[3],rfl,#[3],#[3]⟩
theorem zhY(T:Txt c K mg)(J:dd_quotas c P w K mg base)(j:dd_windows_within P w K mg base)(g:dd_choices_of_turns c P w K mg base)(B:dd_check_row c P w K mg base)(n:dd_place_visits P w K mg base)(u:dd_mend_visits c P w K mg base)(C:dd_rooms_of c P w K mg base)(F:Fun K "mended" "mended" (top 55) f fd):FnOk P w K mg base (CXR P w) 7 f fd ["spells", "bounds", "rules", "row"] (spU c.tb K (Zz c)):=by
 have S:=zjq;refine fnU (cv:=fun v=>True) F trivial S (fun ds Q E h=>?_) (fun aj A ae s H E E3 ak tu Y G=>?_)
 . obtain⟨_,_,_,_,rfl,_⟩:=h;rfl
 refine⟨_,(zd ((zl (i:=4) S.nd rfl #[2]) (df3 Y J (G.mono #[1]) rfl zm (za (n3 0) zb)))
  (zd ((zl (i:=5) S.nd rfl #[2]) (df3 Y j (G.mono #[1]) rfl zm (za (n3 4) (za (df3 Y C (G.mono #[1]) rfl zm (za (n3 4) (za (n3 1) zb))) zb))))
  (zd ((zl (i:=6) S.nd rfl #[2]) (df3 Y g (G.mono #[1]) rfl zm (za (n3 4) (za (n3 5) (za (n3 2) zb)))))
  (zd (Zo (df3 Y B (G.mono #[1]) rfl zm (za (n3 3) (za (zq zA rfl T.n_len zv (za (n3 6) zb)) (za (zq zA rfl T.n_len zv (za (n3 1) zb)) zb)))))
  (zd ((zl (i:=7) S.nd rfl #[2]) (df3 Y n (G.mono #[1]) rfl zm (za (n3 5) (za (n3 6) zb))))
  (zd (s_if (zt (jB G.units) (at3 (n3 7) i3 (fun _ _=>rfl)) s3 (nomark _)) (ze (zr (n3 7))) zu)
  (ze (zr (dfU tu Y u (G.mono #[1]) rfl zm (za (n3 5) (za (n3 6) (za (n3 3) zb)))))))))))),fun ds Q h=>?_⟩
 obtain⟨l,bs,rs,row,rfl,al,ho,ab,aa,ah,q,ac,a9,a7,af⟩:=h;refine zk fun N I=>?_
 walk_at "rd"
 refine⟨l,rfl,fun m=>I _ ?_,ac⟩
 clear I N;have hm:=zbk m;have a6:=zcc m;have ai:=zcd m;have am:=Jg fun s hs=>(m.2.1 s hs).1
 have a8:=m.2.2;have Z:∀ r∈quo l,r.length=many l:=fun r G=>zaJ m (b:=bot l) G
 have a0:Bits 2000 (bot l):=(ze4 m).mono #[1]
 refine zk fun N I=>?_
 walk_at "rd"
 refine⟨quo l,rfl,bs,rfl,a0,#[0],many l,Z,hm.2,#[0],ho,fun hB=>?_,fun z=>a9 m z⟩
 have M:(zE (bot l) bs).length=many l:=by unfold zE;rw [YaR];exact hB.1
 refine⟨quo l,rfl,zE (bot l) bs,rfl,a6,a0,#[0],#[0],#[0],fun r G=>by rw [M];exact Z r G,fun r G x hx=>?_,fun p O=>?_,fun W w1 w2 w3=>I _ ?_⟩
 . have h1:=zdj m a6 r G x hx
   have h2:tot l*bot l<=60*bot l:=Ybe a8 #[0]
   omega
 . unfold zE at O
   obtain⟨z,hz,rfl⟩:=Ya7.mp O;obtain⟨z1,z2⟩:=hB.2 z hz;obtain⟨y1,y2⟩:=ho z hz;refine⟨WaY (YaK z1.1 #[0]) (by have:=y1.1;omega),WaY (YaK z2.1 #[0]) (by have:=y2.1;omega),?_⟩
   refine Int.ediv_le_of_le_mul y2.1 ?_
   have h1:z.2.1*bot l<=10*z.2.2*bot l:=Ybe z2.2 #[0]
   have h2:0<=z.2.2*bot l:=YaK (by have:=y2.1;omega) #[0]
   have e1:10*z.2.2*bot l=10*(z.2.2*bot l):=Wa8 _ _ _;have e2:20*bot l*z.2.2=20*(z.2.2*bot l):=by rw [Wa8,Wbg (bot l)]
   omega
 clear I N;have hW:IsWs l bs W:=⟨by rw [<-M];exact w1,fun k hk=>w2 k (by rw [M];exact hk)⟩
 clear w1 w2;have ad:∀ v∈W.flatten,InR v.1 (many l):=fun v hv=>by
  obtain⟨k,hk,i,_,rfl⟩:=hW.get hv;exact⟨by show(0:Int)<=(k:Int);omega,by show(k:Int)<_;omega⟩
 have eT:(((tot l).toNat:Nat):Int)=tot l:=#[0]
 refine zk fun N I=>?_
 walk_at "rd"
 refine⟨quo l,rfl,W.flatten,rfl,rs,rfl,many l,(tot l).toNat,#[0],#[0],Z,hm.2,w3,ad,ab,aa,fun hR ch R L ag=>I _ ?_,fun hR=>a7 m hB fun z=>hR (by rw [eT];exact z)⟩
 clear I N;have a4:okRs (tot l) (many l) rs:=by rw [<-eT];exact hR
 refine zk fun N I=>?_
 walk_at "rd YaR"
 refine⟨row,rfl,ch.length,rfl,bs.length,rfl,fun a5=>I _ ?_,fun z=>af m hB a4 fun y=>z (by rw [R,hB.1];exact y)⟩
 clear I N;have U:jk (many l) (tot l).toNat row:=by rw [<-R,<-hB.1];exact a5
 have q:=q m hB a4 U W hW ch R (fun X O=>(L X O).2.2) ag
 refine zk fun N I=>?_
 walk_at "rd"
 refine⟨W.flatten,rfl,ch,rfl,w3,#[0],fun X O=>⟨(L X O).1,(L X O).2.2⟩,fun d hd=>I _ ?_⟩
 clear I N
 rcases id hd with ⟨f,h1,h2,h3,rfl⟩|⟨S,_,_,_,_,_,rfl⟩|⟨S,_,_,_,_,_,rfl⟩
 . walk_at "rd"
   refine⟨W.flatten,rfl,ch,rfl,row,rfl,by rw [U.1,R],#[0],w3,fun X O=>⟨(L X O).2.1,(L X O).1,(L X O).2.2⟩,fun x=>((f x.toNat:Nat):Int),fun x hx=>(h1 x.toNat (by obtain⟨a,b⟩:=hx;omega)).2,fun x y hx hy e=>?_,fun tk hd tp vp a1 a2 a3=>q _ (.inr ⟨f,tk,hd,tp,vp,h1,h2,h3,a1,a2,a3,rfl⟩)⟩
   obtain⟨x0,x1⟩:=hx;obtain⟨y0,y1⟩:=hy;have e:f x.toNat=f y.toNat:=Int.ofNat.inj e;have:=h2 _ _ #[0] #[0] e
   omega
 . walk_at "rd"
   rw [if_pos #[1]]
   exact q _ (.inl ⟨hd,fun x z=>by injection z with z;injection z with z;injection z with z;exact absurd z #[1]⟩)
 . walk_at "rd"
   rw [if_pos #[1]]
   exact q _ (.inl ⟨hd,fun x z=>by injection z with z;injection z with z;injection z with z;exact absurd z #[1]⟩)
theorem zj4(T:Txt c K mg)(zno:dd_quotas c P w K mg base)(zns:dd_windows_within P w K mg base)(a:dd_choices_of_turns c P w K mg base)(i:dd_check_row c P w K mg base)(znn:dd_place_visits P w K mg base)(g:dd_mend_visits c P w K mg base)(znp:dd_rooms_of c P w K mg base):dd_mended c P w K mg base:=by
 obtain⟨f,fd,F,n⟩:=T.d_mended;have hb:=F.binds (ps:=["spells", "bounds", "rules", "row"]) fun _ _ _ _ _ _ z o=>by obtain⟨_,_,_,_,rfl⟩:=zad o;rfl
 refine⟨fun y Q r E s hQ hE h=>?_,⟨f,fd,zhY T zno zns a i znn g znp F,hb,F.kp,n⟩⟩
 revert h;repeat' (first|exact fun h=>h|exact hQ _ _|exact hE _|refine Exists.imp fun _=>?_|refine And.imp ?_ ?_|refine forall_imp fun _=>?_)
theorem zll(T:Txt c K mg):dd_law_keeps P w K mg base:=by
 obtain⟨f,fd,F,hm⟩:=T.d_law_keeps;have S:FnScope ["_law_bottom", "_law_rows", "_law_bounds", "_law_row_here", "_law_had", "_law_t", "_law_k", "_law_below", "_law_above"] ["_law_bottom", "_law_rows", "_law_bounds", "_law_row_here"] (zh (top 69)):=⟨rfl,rfl,rfl,#[3],rfl,#[3],#[3]⟩
 refine⟨fun ds Q Q' E E' hQ hE h=>?_,⟨f,fd,fn3 F S (fun ds Q E h=>?_) (fun cdv A outer s H E E3 hE hr=>?_),F.binds fun _ _ _ _ _ _ us hl=>by obtain⟨_,_,_,_,rfl⟩:=zad hl;rfl,F.kp,hm⟩⟩
 . revert h;repeat' (first|exact fun h=>h|exact hQ _ _|exact hE _|refine Exists.imp fun _=>?_|refine And.imp ?_ ?_|refine forall_imp fun _=>?_)
 . obtain⟨_,_,_,_,_,rfl,_⟩:=h;rfl
 refine⟨_,(zd ((zgA (i:=4) S.nd rfl #[2]) ["_law_k"] [] [] rfl (zX (osc:=zh (top 69)) #[3]) rfl (zP (n3 2)) (fun H0 s H fp cl=>⟨(zj (i:=0) (show((["_law_k"]:List PySem.Str)++([]:List PySem.Str)).Nodup by decide) rfl #[2]),jC,i3⟩))
  (zd (zz WaF rfl (Za rfl T.n_range (za i3 (za (zq zA rfl T.n_len zv (za (n3 1) zb)) zb))) (zj (i:=5) S.nd rfl #[2]) (zd (JQ (i:=4) rfl #[2] (at3 (n3 3) (op3 jF (n3 5) i3) (fun _ _=>rfl)) (op3 zU (at3 (n3 4) (at3 (n3 3) (op3 jF (n3 5) i3) (fun _ _=>rfl)) (fun _ _=>rfl)) (n3 0)))
   (ze (zz WaF rfl (z9 rfl T.n_range (za (zq zA rfl T.n_len zv (za (n3 2) zb)) zb)) (zj (i:=6) S.nd rfl #[2]) (zd (zet (at3 (n3 2) (n3 6) (fun _ _=>rfl)) (ja (n:=2) rfl (zw (zj (i:=7) S.nd rfl #[2]) (zw (zj (i:=8) S.nd rfl #[2]) z8))))
    (zd (s_if (zt Jn (op3 zW (op3 jF (at3 (at3 (n3 1) (n3 5) (fun _ _=>rfl)) (n3 6) (fun _ _=>rfl)) (at3 (n3 4) (n3 6) (fun _ _=>rfl))) (at3 (n3 7) i3 (fun _ _=>rfl))) (op3 zW (at3 (n3 7) i3 (fun _ _=>rfl)) (n3 0)) (nomark _)) (ze (zr b3)) zu)
    (ze (s_if (zt Jn (op3 zW (op3 jF (at3 (n3 4) (n3 6) (fun _ _=>rfl)) (at3 (at3 (n3 1) (n3 5) (fun _ _=>rfl)) (n3 6) (fun _ _=>rfl))) (at3 (n3 8) i3 (fun _ _=>rfl))) (op3 zW (at3 (n3 8) i3 (fun _ _=>rfl)) (n3 0)) (nomark _)) (ze (zr b3)) zu))))))))
  (ze (zr b3)))),fun ds Q h=>?_⟩
 obtain⟨b,rows,bs,row,n,rfl,h1,h8,hrl,hr61,hrn,hall,hb,hbs,hq,q⟩:=h;have hc:=hall;have hmax:∀ i (hi:i<rows.length),rows[i].length=n:=fun i hi=>(hrn _ (Ya4 hi)).1
 refine zk fun N hN=>?_
 walk_at "rd YaR"
 refine⟨sz #[0],?_⟩
 refine jv dP (fun _=>.int 0) (fun ρ=>∃ t,ρ = [t]) bs ?_ _ _ _ _ ⟨none,rfl⟩ ?_
 . rintro w hw ρ fa acc K ⟨t,rfl⟩ k
   walk_at "rd"
   exact k _ ⟨_,rfl⟩
 have hz:[]++bs.map (fun _=>PyData.int 0)=(hadN b n (row.take 0)).map PyData.int:=by
  rw [List.nil_append,Wa0,hbs,List.take_zero];unfold hadN;rw [List.foldl_nil,Yaz]
 rw [hz];(refine hN _ ?_;clear hN N;refine zk fun N hN=>?_)
 walk_at "rd YaR"
 refine⟨#[1],#[1],#[0],#[0],?_⟩
 rw [show((rows.length:Int) - 1).toNat=row.length by omega]
 refine je (lo:=1) (fun t ρ=>∃ (t5 t6 t7 t8:Option L3.Cl),ρ = kE b rows bs row [some (.ow true ((hadN b n (row.take t)).map .int)),t5,t6,t7,t8]/\∀ s,s<t->∀ (k:Nat) (p:Rat2×Rat2),bs[k]?=some p->kp1 b n rows row s k p) ?_ ?_ ⟨none,none,none,none,rfl,fun s h=>absurd h #[0]⟩
 . rintro t ρ ht ⟨t5,t6,t7,t8,rfl,hgood⟩ W hW
   have hk1:t+1<rows.length:=#[0]
   have hck:=hc row[t] (Ya4 ht);have hrk:atI (row.map PyData.int) (1+(t:Int) - 1)=some (PyData.int row[t]):=by
    rw [show 1+(t:Int) - 1=0+(t:Int) by omega];exact zbw ht
   have hrr:atI (rows.map dI) (1+(t:Int))=some (PyData.list (rows[t+1].map PyData.int)):=by
    rw [show(1+(t:Int))=((t+1:Nat):Int) by omega];exact JY hk1
   have hrl:=hmax (t+1) hk1;have hhl:=Jx b n (row.take t);have hg:=jo (xs:=hadN b n (row.take t)) (i:=row[t]) hck.1 #[0]
   have hix:ixN ((hadN b n (row.take t)).map PyData.int).length row[t]=some row[t].toNat:=by rw [YaR];exact j9 hck.1 #[0]
   have htk:row.take (t+1)=row.take t++[row[t]]:=Yav ht;have hset:((hadN b n (row.take t)).map PyData.int).set row[t].toNat (PyData.int ((hadN b n (row.take t)).getD row[t].toNat 0+b))=(hadN b n (row.take (t+1))).map PyData.int:=by
    rw [htk,zcz];unfold had1;rw [Wbk]
   have hld:jg b n rows row t=subL (hadN b n (row.take (t+1))) rows[t+1]:=by
    unfold jg;rw [YaP,YaQ hk1];rfl
   have hhl1:=Jx b n (row.take (t+1));have hld2:∀ i,i<n->ldF b n rows row t i=(hadN b n (row.take (t+1))).getD i 0 - rows[t+1].getD i 0:=fun i hi=>by
    unfold ldF;rw [hld];unfold subL;have hz:((hadN b n (row.take (t+1))).zip rows[t+1])[i]?=some ((hadN b n (row.take (t+1)))[i]'(by omega),rows[t+1][i]'(by omega)):=Wad.mpr ⟨YaQ #[0],YaQ #[0]⟩
    rw [YaP,Ya0,hz]
    simp [YaP,YaQ (show i<rows[t+1].length by omega),YaQ (show i<(hadN b n (row.take (t+1))).length by omega)]
   ((try dsimp only [lE,kE,gn3,List.cons_append,List.nil_append,List.set_cons_zero,List.set_cons_succ,zx,Wa9,Bool.true_or]);try simp only [lE,kE,gn3,List.cons_append,List.nil_append,List.set_cons_zero,List.set_cons_succ,zx,Bool.or_true])
   refine zk fun N' hN'=>?_
   walk_at "rd hrk hg hix hset"
   refine hN' _ ?_
   clear hN' N'
   walk_at "rd YaR hbs"
   refine⟨#[0],#[0],?_⟩
   rw [Int.toNat_natCast];refine je (fun i ρ=>∃ (t6 t7 t8:Option L3.Cl),ρ = kE b rows bs row [some (.ow true ((hadN b n (row.take (t+1))).map .int)),some (.sh true (.int (1+(t:Int)))),t6,t7,t8]/\∀ (k:Nat) (p:Rat2×Rat2),k<i->bs[k]?=some p->kp1 b n rows row t k p) ?_ ?_ ⟨_,_,_,rfl,fun k p h=>absurd h #[0]⟩
   . rintro i ρ hi ⟨t6,t7,t8,rfl,hgi⟩ W' hW'
     have hib:i<bs.length:=#[0]
     have hbi:=zc4 dP hib;have hqi:=hq _ (Ya4 hib);have hpi:bs[i]?=some bs[i]:=YaQ hib;have ha:=jo (xs:=rows[t+1]) (i:=0+(i:Int)) #[0] #[0]
     have hb':=jo (xs:=hadN b n (row.take (t+1))) (i:=0+(i:Int)) #[0] #[0]
     rw [show(0+(i:Int)).toNat=i by omega] at ha hb'
     have hle:=zga hall (t:=t+1) #[0] hi
     have hld:=zd7 (b:=b) (rows:=rows) hall ht hk1 (hmax _ hk1) hi;have hli:=hld2 i hi;have hxb:Bits 1000 (rows[t+1].getD i 0):=(hrn _ (Ya4 hk1)).2 _ (by rw [YaP,YaQ #[0]];exact Ya4 _)
     generalize (hadN 1 n (row.take (t+1))).getD i 0=hv1 at hle hld;generalize (hadN b n (row.take (t+1))).getD i 0=hv at hb' hli;generalize rows[t+1].getD i 0=rv at ha hld hli hxb;generalize bs[i]=p at hbi hqi hpi;have hvb:Bits 64 hv1:=Bits.lit (x:=hv1) 64 #[0]
     have hvB:Bits 1000 hv:=by rw [show hv=hv1*b by omega];exact(hvb.mul hb).mono #[1]
     have hab:=hxb.sub hvB;have hba:=hvB.sub hxb
     ((try dsimp only [lE,kE,gn3,List.cons_append,List.nil_append,List.set_cons_zero,List.set_cons_succ,zx,Wa9,Bool.true_or]);try simp only [lE,kE,gn3,List.cons_append,List.nil_append,List.set_cons_zero,List.set_cons_succ,zx,Bool.or_true])
     refine zk fun N' hN'=>?_
     walk_at "rd hbi"
     refine hN' _ ?_
     clear hN' N';have bad:¬kp1 b n rows row t i p->Q true (PyData.bool false):=fun z=>q false ⟨(fun y=>by cases y),fun y=>absurd (y t ht i p hpi) z⟩
     have good:kp1 b n rows row t i p->∀ (k:Nat) (p:Rat2×Rat2),k<i+1->bs[k]?=some p->kp1 b n rows row t k p:=fun z k p' hk hp=>by
      by_cases e:k<i
      . exact hgi k p' e hp
      . obtain rfl:k=i:=#[0]
        rw [hpi] at hp;cases hp;exact z
     have kpe:kp1 b n rows row t i p↔(rv - hv)*p.1.2<=p.1.1*b/\(hv - rv)*p.2.2<=p.2.1*b:=by
      unfold kp1;rw [hli,Int.neg_sub]
     rw [kpe] at bad good
     walk_at "rd hrr ha hb'"
     refine⟨hab.mulOk hqi.1.2.2 #[1],hqi.1.2.1.mulOk hb #[1],ite2 (fun h=>bad fun z=>absurd z.1 #[0]) fun h=>⟨hba.mulOk hqi.2.2.2 #[1],hqi.2.2.1.mulOk hb #[1],ite2 (fun h2=>bad fun z=>absurd z.2 #[0]) fun h2=>hW' _ ⟨_,_,_,rfl,good ⟨#[0],#[0]⟩⟩⟩⟩
   . rintro ρ ⟨t6,t7,t8,rfl,hgi⟩
     refine hW _ ⟨_,_,_,_,rfl,fun s hs k p hp=>?_⟩
     by_cases e:s<t
     . exact hgood s e k p hp
     . obtain rfl:s=t:=#[0]
       exact hgi k p (by have:=(Ya8.mp hp).1;omega) hp
 . rintro ρ ⟨t5,t6,t7,t8,rfl,hgood⟩
   refine hN _ ?_
   walk_at "rd"
   exact q true ⟨fun _=>hgood,fun _=>rfl⟩
theorem zi0(T:Txt c K mg):dd_law_rules P w K mg base:=by
 have a:dd_law_wide P w K mg base:=ZL T;obtain⟨f,fd,F,hm⟩:=T.d_law_rules;have S:FnScope ["_law_turns", "_law_clans", "_law_cell", "_law_rules_here", "_law_count", "_law_k", "_law_word"] ["_law_turns", "_law_clans", "_law_cell"] (zh (top 67)):=⟨rfl,rfl,rfl,#[3],rfl,#[3],#[3]⟩
 refine⟨fun ds Q Q' E E' hQ hE h=>?_,⟨f,fd,fn3 F S (fun ds Q E h=>?_) (fun cdv A outer s H E E3 hE hr=>?_),F.binds fun _ _ _ _ _ _ us hl=>by obtain⟨_,_,_,rfl⟩:=zap hl;rfl,F.kp,hm⟩⟩
 . revert h;repeat' (first|exact fun h=>h|exact hQ _ _|exact hE _|refine Exists.imp fun _=>?_|refine And.imp ?_ ?_|refine forall_imp fun _=>?_)
 . obtain⟨_,_,_,rfl,_⟩:=h;rfl
 refine⟨_,(zd ((ji (i:=3) S.nd rfl #[2]) (z0 zb))
  (zd ((zl (i:=2) S.nd rfl #[2]) (df3 hE a (hr.mono #[1]) rfl zm (za (n3 2) (za i3 zb))))
  (zd ((zl (i:=4) S.nd rfl #[2]) (op3 zL (n3 2) i3))
  (zd ((zl (i:=2) S.nd rfl #[2]) (op3 zI (n3 2) i3))
  (zd (zz WaF rfl (z9 rfl T.n_range (za (n3 4) zb)) (zj (i:=5) S.nd rfl #[2]) (zd ((zl (i:=6) S.nd rfl #[2]) (at3 (new3 (z0 (za s3 (za s3 (za s3 zb))))) (op3 zL (n3 2) i3) (fun _ _=>rfl)))
   (zd (jw (i:=3) rfl #[2] (zY (za (n3 6) (za (op3 zU i3 (op3 zL (op3 zI (n3 2) i3) (n3 0))) (za (op3 zL (op3 zI (op3 zI (n3 2) i3) (n3 0)) (n3 1)) zb)))))
   (ze ((zl (i:=2) S.nd rfl #[2]) (op3 zI (op3 zI (op3 zI (n3 2) i3) (n3 0)) (n3 1)))))))
  (ze (jm [3] (zr (n3 3))))))))),fun ds Q h=>?_⟩
 obtain⟨b,n,cc,rfl,hT1,Z,hn1,L,q⟩:=h;(refine zk fun N hN=>?_;walk_at "rd")
 refine hN _ ?_;clear hN N;refine zk fun N hN=>?_;walk_at "rd"
 refine⟨#[1],#[1],fun v=>hN _ ?_⟩
 clear hN N;refine zk fun N hN=>?_;walk_at "rd"
 refine⟨#[1],hN _ ?_⟩
 clear hN N;have hc8:0<=v%8/\v%8<8:=#[0]
 generalize v%8=U at hc8 ⊢;(refine zk fun N hN=>?_;walk_at "rd")
 refine⟨divP,hN _ ?_⟩
 clear hN N
 walk_at "rd"
 refine⟨#[0],#[0],?_⟩
 refine je (fun k ρ=>∃ (rs:List Rule) (E:Int) (A y:Option L3.Cl),ρ = [some (.sh true (.int b)),some (.sh true (.int n)),some (.sh true (.int E)),some (.ow true (rs.map dRl)),some (.sh true (.int U)),A,y]/\okRs b n rs/\txtR rs/\rs.length=k) ?_ ?_ ⟨[],_,none,none,rfl,fun r h=>(by cases h),fun r h=>(by cases h),rfl⟩
 . rintro k ρ hk ⟨rs,x,A,y,rfl,l,p,G⟩ W hW
   ((try dsimp only [lE,kE,gn3,List.cons_append,List.nil_append,List.set_cons_zero,List.set_cons_succ,zx,Wa9,Bool.true_or]);try simp only [lE,kE,gn3,List.cons_append,List.nil_append,List.set_cons_zero,List.set_cons_succ,zx,Bool.or_true])
   obtain⟨d,hd,hm,_⟩:=zaZ (xs:=[PyData.str "barred", PyData.str "fixed", PyData.str "barred"]) (i:=x%3) #[0] (by show x%3<3;omega)
   obtain⟨w,rfl,hw,R⟩:∃ z:Str,d=PyData.str z/\(z = "fixed"\/z = "barred")/\SeqAt.shaped (.str z)=true:=by
    simp only [Wa5,WaR,or_false] at hm
    rcases hm with rfl|rfl|rfl
    . exact⟨_,rfl,.inr rfl,zd8⟩
    . exact⟨_,rfl,.inl rfl,zkr⟩
    . exact⟨_,rfl,.inr rfl,zd8⟩
   refine zk fun N hN=>?_;walk_at "rd"
   refine⟨#[1],_,hd,hN _ ?_⟩
   clear hN N hd hm;have e1:=Ybc (x/3) (show b≠0 by omega)
   have e2:=Ybd (x/3) (show 0<b by omega)
   have J:=Ybc (x/3/b) (show n≠0 by omega)
   have e4:=Ybd (x/3/b) (show 0<n by omega)
   walk_at "rd YaR"
   have dT:jU (x/3) b:=⟨#[0],Bits.lit (x:=b) 9000 #[0]⟩
   have dn:jU (x/3/b) n:=⟨#[0],Bits.lit (x:=n) 9000 #[0]⟩
   refine⟨divP,#[0],divP,dT,#[0],YaU (show _<1000 by omega) #[1],divP,dT,dn,hW _ ⟨rs++[(w,1+x/3%b,x/3/b%n)],_,_,_,by rw [Ya2];rfl,fun r hr=>?_,fun r hr=>?_,by simp [G]⟩⟩
   . rcases Ya3.mp hr with z|z
     . exact l r z
     . rw [Ya6.mp z]
       exact⟨hw,⟨by show 1<=1+x/3%b;omega,by show 1+x/3%b<=b;omega⟩,J,e4⟩
   . rcases Ya3.mp hr with z|z
     . exact p r z
     . rw [Ya6.mp z];exact R
 rintro ρ ⟨rs,E,A,y,rfl,l,p,G⟩
 walk_at "rd"
 exact q rs l p #[0]
theorem zeY(T:Txt c K mg):dd_law_whole P w K mg base:=by
 obtain⟨f,fd,F,hm⟩:=T.d_law_whole;have S:FnScope ["_law_found"] ["_law_found"] (zh (top 64)):=⟨rfl,rfl,rfl,#[3],rfl,#[3],#[3]⟩
 refine⟨fun ds Q Q' E E' hQ hE h=>?_,⟨f,fd,fn3 F S (fun ds Q E h=>?_) (fun cdv A outer s H E E3 hE hr=>?_),F.binds fun _ _ _ _ _ _ us hl=>by obtain⟨_,rfl⟩:=zk5 hl;rfl,F.kp,hm⟩⟩
 . revert h;repeat' (first|exact fun h=>h|exact hQ _ _|exact hE _|refine Exists.imp fun _=>?_|refine And.imp ?_ ?_|refine forall_imp fun _=>?_)
 . obtain⟨_,rfl,_⟩:=h;rfl
 refine⟨_,(ze (zr (zkb (zcJ rfl T.n_isinstance rfl rfl T.n_int zev (n3 0)) (one3 (zil (zcJ rfl T.n_isinstance rfl rfl T.n_bool zmL (n3 0))))))),fun ds Q h=>?_⟩
 obtain⟨i,rfl,q⟩:=h
 walk_at "rd"
 exact⟨false,by simp,q⟩
theorem zhJ(T:Txt c K mg):dd_law_is_row P w K mg base:=by
 have znj:dd_law_whole P w K mg base:=zeY T;obtain⟨f,fd,F,hm⟩:=T.d_law_is_row;have S:FnScope ["_law_row_here", "_law_turns", "_law_clans", "_law_clan"] ["_law_row_here", "_law_turns", "_law_clans"] (zh (top 70)):=⟨rfl,rfl,rfl,#[3],rfl,#[3],#[3]⟩
 refine⟨fun ds Q Q' E E' hQ hE h=>?_,⟨f,fd,fn3 F S (fun ds Q E h=>?_) (fun cdv A outer s H E E3 hE hr=>?_),F.binds fun _ _ _ _ _ _ us hl=>by obtain⟨_,_,_,rfl⟩:=zap hl;rfl,F.kp,hm⟩⟩
 . revert h;repeat' (first|exact fun h=>h|exact hQ _ _|exact hE _|refine Exists.imp fun _=>?_|refine And.imp ?_ ?_|refine forall_imp fun _=>?_)
 . obtain⟨_,_,_,rfl,_⟩:=h;rfl
 refine⟨_,(zd (s_if (pw3 (jZ (jD (val3 (zcJ rfl T.n_isinstance rfl rfl T.n_list Js (n3 0)))) (Ji (zt (jB hr.units) (zq zA rfl T.n_len zv (za (n3 0) zb)) (n3 1) (nomark _))))) (ze (zr b3)) zu)
  (zd (zz WaF rfl (zP (n3 0)) (zj (i:=3) S.nd rfl #[2]) (ze (s_if (pw3 (jZ (jD (val3 (df3 hE znj (hr.mono #[1]) rfl zm (za (n3 3) zb)))) (Ji (jD (JM j4 jW i3 (n3 3) (n3 2)))))) (ze (zr b3)) zu)))
  (ze (zr b3)))),fun ds Q h=>?_⟩
 obtain⟨row,n,t,rfl,hok,ht,q⟩:=h;have hl:=hok.1;(refine zk fun N hN=>?_)
 walk_at "rd YaR hl"
 refine hN _ ?_;clear hN N
 walk_at "rd"
 refine jp PyData.int row (fun done ρ=>∃ u:Option L3.Cl,ρ = [some (.sh false (.list (row.map PyData.int))),some (.sh true (.int t)),some (.sh true (.int n)),u]) ?_ ?_ ⟨none,rfl⟩
 . rintro done x rest ρ hd ⟨u,rfl⟩ W hW
   have hx:=hok.2 x (by rw [hd];simp)
   walk_at "rd"
   rw [if_pos hx.1,if_neg fun z=>z hx.2]
   exact hW _ ⟨_,rfl⟩
 . rintro ρ ⟨u,rfl⟩
   walk_at "rd"
   exact q
theorem zmh(T:Txt c K mg):dd_law_lets P w K mg base:=by
 obtain⟨f,fd,F,hm⟩:=T.d_law_lets;have S:FnScope ["_law_rules_here", "_law_t", "_law_clan", "_law_word", "_law_turn", "_law_who"] ["_law_rules_here", "_law_t", "_law_clan"] (zh (top 68)):=⟨rfl,rfl,rfl,#[3],rfl,#[3],#[3]⟩
 refine⟨fun ds Q Q' E E' hQ hE h=>?_,⟨f,fd,fn3 F S (fun ds Q E h=>?_) (fun cdv A outer s H E E3 hE hr=>?_),F.binds fun _ _ _ _ _ _ us hl=>by obtain⟨_,_,_,rfl⟩:=zap hl;rfl,F.kp,hm⟩⟩
 . revert h;repeat' (first|exact fun h=>h|exact hQ _ _|exact hE _|refine Exists.imp fun _=>?_|refine And.imp ?_ ?_|refine forall_imp fun _=>?_)
 . obtain⟨_,_,_,rfl,_⟩:=h;rfl
 refine⟨_,(zd (zz WaF rfl (zP (n3 0)) (ja (n:=3) rfl (zw (zj (i:=3) S.nd rfl #[2]) (zw (zj (i:=4) S.nd rfl #[2]) (zw (zj (i:=5) S.nd rfl #[2]) z8)))) (ze (s_if (pw3 (zdE (zt (jl hr.units) (n3 4) (n3 1) (nomark _)) (zcj (zt (jB hr.units) (cmp3 (jl hr.units) (n3 3) s3 (nomark _)) (cmp3 (jl hr.units) (n3 5) (n3 2) (nomark _)) (nomark _))))) (ze (zr b3)) zu)))
  (ze (zr b3))),fun Y Q h=>?_⟩
 obtain⟨l,t,c,rfl,M,R,q⟩:=h;refine z6 (fun ρ=>(∃ s t4 t5:Option L3.Cl,ρ = [some (.sh false (.list (l.map dRl))),some (.sh true (.int t)),some (.sh true (.int c)),s,t4,t5])/\¬jV l t c) (fun N W=>?_) ?_
 . walk_at "rd"
   refine jp dRl l (fun g ρ=>(∃ s t4 t5:Option L3.Cl,ρ = [some (.sh false (.list (l.map dRl))),some (.sh true (.int t)),some (.sh true (.int c)),s,t4,t5])/\¬jV g t c) ?_ (fun ρ h=>W ρ h) ⟨⟨none,none,none,rfl⟩,fun⟨r,h,_⟩=>by cases h⟩
   rintro g r rest ρ hd ⟨⟨s,t4,t5,rfl⟩,hf⟩ V hV
   have hr:r∈l:=by rw [hd];simp
   have B:=R r hr;have no:¬(r.2.1=t/\(c=r.2.2↔r.1 = "barred"))->¬jV (g++[r]) t c:=fun h ⟨x,hx,e⟩=>by
    rcases Ya3.mp hx with z|z
    . exact hf ⟨x,z,e⟩
    . rw [Ya6.mp z] at e;exact h e
   have v:r.2.1=t/\(c=r.2.2↔r.1 = "barred")->Q true (.bool false):=fun h=>q false ⟨fun z=>(by cases z),fun z=>absurd ⟨r,hr,h⟩ z⟩
   have go:¬(r.2.1=t/\(c=r.2.2↔r.1 = "barred"))->V [some (.sh false (.list (l.map dRl))),some (.sh true (.int t)),some (.sh true (.int c)),some (.sh true (.str r.1)),some (.sh true (.int (r.2.1))),some (.sh true (.int (r.2.2)))]:=fun h=>hV _ ⟨⟨_,_,_,rfl⟩,no h⟩
   have J:∀ a b:Bool,PyData.eqv (.bool a) (.bool b)=(a==b):=#[3]
   have H:∀ b:Bool,SeqAt.shaped (.bool b)=true:=#[3]
   have E:(c=r.2.2↔r.1 = "barred")↔((decide (r.1 = "fixed")==decide (r.2.2=c))=false):=by
    rcases B with w|w
    . rw [decide_eq_true w]
      by_cases z:r.2.2=c
      . rw [decide_eq_true z];exact⟨fun h=>absurd (w.symm.trans (h.mp z.symm)) JW,fun h=>by cases h⟩
      . rw [decide_eq_false z];exact⟨fun _=>rfl,fun _=>⟨fun y=>absurd y.symm z,fun y=>absurd (w.symm.trans y) JW⟩⟩
    . rw [decide_eq_false fun y=>JW (y.symm.trans w)]
      by_cases z:r.2.2=c
      . rw [decide_eq_true z];exact⟨fun _=>rfl,fun _=>⟨fun _=>w,fun _=>z.symm⟩⟩
      . rw [decide_eq_false z];exact⟨fun h=>absurd (h.mpr w).symm z,fun h=>by cases h⟩
   walk_at "rd"
   rw [J];exact ite2 (fun e=>⟨H _,H _,ite2 (fun z=>v ⟨e,E.mpr z⟩) fun z=>go fun h=>z (E.mp h.2)⟩) fun e=>go fun h=>e h.1
 . rintro ρ ⟨⟨s,t4,t5,rfl⟩,hf⟩
   walk_at "rd"
   exact q true ⟨fun _=>hf,fun _=>rfl⟩
theorem ziZ:FnScope ["_law_script", "_law_spells_here", "_law_bottom", "_law_rows", "_law_row_here", "_law_cell", "_law_bounds", "_law_below", "_law_above", "_law_wide_here", "_law_top", "_law_rules_here", "_law_found", "_law_spoilt", "_law_turn", "_law_changed", "_law_t"] ["_law_script"] (zh zac):=⟨rfl,rfl,rfl,#[3],rfl,#[3],#[3]⟩
theorem zjM(T:Txt c K mg)(znc:dd_law_long P w K mg base)(zne:dd_law_quotas P w K mg base)(zng:dd_law_row P w K mg base)(zm6:dd_law_cell_at P w K mg base)(znb:dd_law_limits P w K mg base)(zm9:dd_law_kept_rules P w K mg base)(znm:dd_mended c P w K mg base)(zm8:dd_law_keeps P w K mg base)(znh:dd_law_rules P w K mg base)(zm7:dd_law_is_row P w K mg base)(znj:dd_law_whole P w K mg base)(zna:dd_law_lets P w K mg base)(znf:dd_law_ratio P w K mg base)(F:Fun K "law" "law" zac f fd):FnOk P w K mg base (CXR P w) 8 f fd ["_law_script"] (spU c.tb K JX):=by
 have S:=ziZ;refine fnU (cv:=fun v=>True) F trivial S (fun ds Q E h=>?_) (fun cdv A outer s H E E3 hcv tu hE hr=>?_)
 . obtain⟨_,rfl,_⟩:=h;rfl
 refine⟨_,(zd ((zl (i:=1) S.nd rfl #[2]) (df3 hE znc (hr.mono #[1]) rfl zm (za (n3 0) (za i3 zb))))
  (zd (zet (df3 hE zne (hr.mono #[1]) rfl zm (za (n3 1) zb)) (ja (n:=2) rfl (zw (zj (i:=2) S.nd rfl #[2]) (zw (zj (i:=3) S.nd rfl #[2]) z8))))
  (zd ((zl (i:=4) S.nd rfl #[2]) (df3 hE zng (hr.mono #[1]) rfl zm (za (n3 2) (za (n3 3) (za (op3 zU (df3 hE zm6 (hr.mono #[1]) rfl zm (za (n3 0) (za i3 zb))) i3) zb)))))
  (zd ((zl (i:=5) S.nd rfl #[2]) (df3 hE zm6 (hr.mono #[1]) rfl zm (za (n3 0) (za i3 zb))))
  (zd ((ji (i:=6) S.nd rfl #[2]) (z0 zb))
  (zd (zz WaF rfl (zP (df3 hE znb (hr.mono #[1]) rfl zm (za (n3 2) (za (n3 3) (za (n3 4) (za i3 (za b3 zb))))))) (ja (n:=2) rfl (zw (zj (i:=7) S.nd rfl #[2]) (zw (zj (i:=8) S.nd rfl #[2]) z8))) (zd ((zl (i:=9) S.nd rfl #[2]) (at3 (new3 (z0 (za i3 (za i3 (za i3 (za i3 zb)))))) (op3 zL (n3 5) i3) (fun _ _=>rfl)))
   (zd ((zl (i:=10) S.nd rfl #[2]) (zq (zeU rfl) rfl T.n_min zeA (za (op3 zW i3 (at3 (n3 8) i3 (fun _ _=>rfl))) (za (op3 zU (at3 (n3 8) i3 (fun _ _=>rfl)) (op3 zI (op3 zW (n3 9) (at3 (n3 8) i3 (fun _ _=>rfl))) i3)) zb))))
   (zd (jw (i:=6) rfl #[2] (zY (za (n3 7) (za (df3 hE znf (hr.mono #[1]) rfl zm (za (n3 10) (za (at3 (n3 8) i3 (fun _ _=>rfl)) zb))) zb))))
   (ze ((zl (i:=5) S.nd rfl #[2]) (op3 zI (n3 5) i3)))))))
  (zd (jm [6] (s_if (jD (val3 (df3 hE zm8 (hr.mono #[1]) rfl zm (za (n3 2) (za (n3 3) (za (n3 6) (za (n3 4) zb))))))) (ze (zr (cmp3 Jn (zq zA rfl T.n_len zv (za (n3 4) zb)) i3 (nomark _)))) zu))
  (zd ((zl (i:=11) S.nd rfl #[2]) (df3 hE zm9 (hr.mono #[1]) rfl zm (za (df3 hE znh (hr.mono #[1]) rfl zm (za (zq zA rfl T.n_len zv (za (n3 4) zb)) (za (zq zA rfl T.n_len zv (za (n3 6) zb)) (za (df3 hE zm6 (hr.mono #[1]) rfl zm (za (n3 0) (za i3 zb))) zb)))) (za (n3 4) (za (zq zA rfl T.n_len zv (za (n3 6) zb)) zb)))))
  (zd ((zl (i:=12) S.nd rfl #[2]) (dfU tu hE znm (hr.mono #[1]) rfl zm (za (n3 1) (za (new3 (J4 rfl T.n_list Js (za (n3 6) zb))) (za (new3 (J4 rfl T.n_list Js (za (n3 11) zb))) (za (new3 (J4 rfl T.n_list Js (za (n3 4) zb))) zb))))))
  (zd (s_if (pw3 (jZ (zt (jB hr.units) (at3 (n3 12) i3 (fun _ _=>rfl)) s3 (nomark _)) (jZ (zt (jB hr.units) (at3 (n3 12) i3 (fun _ _=>rfl)) (n3 4) (nomark _)) (jZ (zt (jB hr.units) (at3 (n3 12) i3 (fun _ _=>rfl)) i3 (nomark _)) (Ji (jD (val3 (df3 hE znj (hr.mono #[1]) rfl zm (za (at3 (n3 12) i3 (fun _ _=>rfl)) zb))))))))) (ze (zr b3)) zu)
  (zd ((zl (i:=5) S.nd rfl #[2]) (df3 hE zm6 (hr.mono #[1]) rfl zm (za (n3 0) (za i3 zb))))
  (zd ((ji (i:=13) S.nd rfl #[2]) (J4 rfl T.n_list Js (za (n3 4) zb)))
  (zd (zz WaF rfl (z9 rfl T.n_range (za (op3 zU i3 (op3 zL (n3 5) i3)) zb)) (zj (i:=14) S.nd rfl #[2]) (ze (JQ (i:=13) rfl #[2] (op3 zL (op3 zU (op3 zI (n3 5) i3) (op3 zW i3 (n3 14))) (zq zA rfl T.n_len zv (za (n3 4) zb))) (op3 zL (op3 zI (n3 5) i3) (zq zA rfl T.n_len zv (za (n3 6) zb))))))
  (zd ((zl (i:=15) S.nd rfl #[2]) (zq zA rfl T.n_len zv (za (new3 (jL ["_law_t"] ["_law_spoilt", "_law_row_here"] [13,4] rfl (zX (osc:=zh zac) #[3]) rfl (z9 rfl T.n_range (za (zq zA rfl T.n_len zv (za (n3 4) zb)) zb)) (fun H0 s H fp cl=>⟨(zj (i:=0) (show((["_law_t"]:List PySem.Str)++(["_law_spoilt", "_law_row_here"]:List PySem.Str)).Nodup by decide) rfl #[2]),(zgk (zt (jB hr.units) (at3 (n3 1) (n3 0) (fun _ _=>rfl)) (at3 (n3 2) (n3 0) (fun _ _=>rfl)) (nomark _))),(n3 0)⟩))) zb)))
  (zd ((zl (i:=12) S.nd rfl #[2]) (dfU tu hE znm (hr.mono #[1]) rfl zm (za (n3 1) (za (new3 (J4 rfl T.n_list Js (za (n3 6) zb))) (za (new3 (J4 rfl T.n_list Js (za (n3 11) zb))) (za (new3 (J4 rfl T.n_list Js (za (n3 13) zb))) zb))))))
  (zd (s_if (pw3 (jZ (zt (jB hr.units) (at3 (n3 12) i3 (fun _ _=>rfl)) s3 (nomark _)) (Ji (jD (JM j4 j4 i3 (at3 (n3 12) i3 (fun _ _=>rfl)) (n3 15)))))) (ze (zr b3)) zu)
  (zd (s_if (jD (val3 (df3 hE zm7 (hr.mono #[1]) rfl zm (za (at3 (n3 12) i3 (fun _ _=>rfl)) (za (zq zA rfl T.n_len zv (za (n3 4) zb)) (za (zq zA rfl T.n_len zv (za (n3 6) zb)) zb)))))) (ze (zr b3)) zu)
  (zd (zz WaF rfl (Za rfl T.n_range (za i3 (za (zq zA rfl T.n_len zv (za (n3 3) zb)) zb))) (zj (i:=16) S.nd rfl #[2]) (ze (s_if (jD (val3 (df3 hE zna (hr.mono #[1]) rfl zm (za (n3 11) (za (n3 16) (za (at3 (at3 (n3 12) i3 (fun _ _=>rfl)) (op3 jF (n3 16) i3) (fun _ _=>rfl)) zb)))))) (ze (zr b3)) zu)))
  (ze (jm [6] (zr (df3 hE zm8 (hr.mono #[1]) rfl zm (za (n3 2) (za (n3 3) (za (n3 6) (za (at3 (n3 12) i3 (fun _ _=>rfl)) zb)))))))))))))))))))))))))),fun ds Q h=>?_⟩
 obtain⟨ns,rfl,h63,q⟩:=h;(refine zk fun N hN=>?_;walk_at "rd")
 refine⟨ns,rfl,#[1],#[1],fun l hok=>hN _ ?_⟩
 clear hN N;have hm:=zbk hok;have htn:=Jg fun s hs=>(hok.2.1 s hs).1
 have h60:=hok.2.2;have hql:=zct hok (zg l);have hqb:=zi8 hok;have ht1:=zjw hok;have hpp:=zal hok;have hpb:=zcY hok;(refine zk fun N hN=>?_;walk_at "rd")
 refine⟨l,rfl,hok,hN _ ?_⟩
 clear hN N;refine zk fun N hN=>?_;walk_at "rd"
 refine⟨ns,rfl,#[1],fun v=>⟨quoB (zg l) l,rfl,many l,hm.1,hm.2,#[0],#[0],fun r hr=>(hqb r hr).1,fun row hrow hall=>hN _ ?_⟩⟩
 clear hN N;have hokr:jk (many l) (tot l).toNat row:=⟨#[0],hall⟩
 refine zk fun N hN=>?_;walk_at "rd"
 refine⟨ns,rfl,#[1],fun c6=>hN _ ?_⟩
 clear hN N;refine zk fun N hN=>?_;walk_at "rd"
 (refine hN _ ?_;clear hN N);refine z6 (fun ρ=>∃ (bs:List (Rat2×Rat2)) (c':Int) (t7 t8 t9 t10:Option L3.Cl),ρ = gE ns l (zg l) (quoB (zg l) l) row [some (.sh true (.int c')),some (.ow true (bs.map dP)),t7,t8,t9,t10,none,none,none,none,none,none]/\Wid (ownB (zg l) (many l) (quoB (zg l) l) row) bs/\∀ p∈bs,(okQ p.1/\okQ p.2)/\inQ p.1/\inQ p.2) (fun N hN=>?_) ?_
 . walk_at "rd"
   refine⟨quoB (zg l) l,rfl,row,rfl,hpp,hpb,many l,hm.1,hm.2,#[0],#[0],fun r hr=>(hqb r hr).1,hall,?_⟩
   obtain⟨ol,oo⟩:=zfm (n:=many l) (rows:=quoB (zg l) l) (row:=row) hpp hpb;refine jp dP (ownB (zg l) (many l) (quoB (zg l) l) row) (fun done ρ=>∃ (bs:List (Rat2×Rat2)) (c':Int) (t7 t8 t9 t10:Option L3.Cl),ρ = gE ns l (zg l) (quoB (zg l) l) row [some (.sh true (.int c')),some (.ow true (bs.map dP)),t7,t8,t9,t10,none,none,none,none,none,none]/\Wid done bs/\∀ p∈bs,(okQ p.1/\okQ p.2)/\inQ p.1/\inQ p.2) ?_ (fun ρ ⟨bs,c',t7,t8,t9,t10,e,h1,h2⟩=>hN ρ ⟨bs,c',t7,t8,t9,t10,e,h1,h2⟩) ⟨[],c6,none,none,none,none,rfl,Wid.nil,fun p h=>by cases h⟩
   rintro done p rest ρ hd ⟨bs,c',t7,t8,t9,t10,rfl,hwd,hok'⟩ W hW
   have hp:p∈ownB (zg l) (many l) (quoB (zg l) l) row:=by rw [hd];simp
   obtain⟨⟨p1,p2⟩,⟨p3,p4⟩,p5,p6⟩:=oo p hp;have hlen:bs.length<=8:=by
    have:=congrArg List.length hd;rw [YaS,ol] at this;have:=hwd.1
    omega
   obtain⟨d,hd',hmm,_⟩:=zaZ (xs:=[PyData.int 0,PyData.int 1,PyData.int 0,PyData.int 2]) (i:=c'%4) #[0] (by show c'%4<4;omega)
   obtain⟨w,rfl,w0,w2⟩:∃ w:Int,d=PyData.int w/\0<=w/\w<=2:=by
    simp only [Wa5,WaR,or_false] at hmm
    rcases hmm with rfl|rfl|rfl|rfl<;>exact⟨_,rfl,#[1],#[1]⟩
   refine ze2 fun N1 hN1=>?_
   walk_at "rd"
   refine hN1 _ ?_
   clear hN1 N1;refine zk fun N1 hN1=>?_
   walk_at "rd"
   refine⟨#[1],_,hd',hN1 _ ?_⟩
   clear hN1 N1 hd' hmm;have wa:Bits 64 w:=Bits.lit (x:=w) 64 #[0]
   have wq:0<=w*p.2.2:=YaK w0 #[0]
   have i4:p.2.1<=10*p.2.2:=p4.2;refine z6 (fun ρ=>∃ (top:Int),ρ = gE ns l (zg l) (quoB (zg l) l) row [some (.sh true (.int c')),some (.ow true (bs.map dP)),some (.sh true (dQ p.1)),some (.sh true (dQ p.2)),some (.sh true (.int w)),some (.sh true (.int top)),none,none,none,none,none,none]/\p.2.1<=top/\top<=10*p.2.2) (fun N1 hN1=>?_) ?_
   . walk_at "rd atI0 atI1"
     exact⟨(Bits.lit (x:=10) 64).mulOk p6 #[1],wa.mulOk p6 #[1],divP,hN1 _ ⟨_,rfl,by split<;>omega,by split<;>omega⟩⟩
   rintro ρ ⟨top,rfl,tp1,tp2⟩
   have tb:Bits 1100 top:=(((Bits.lit (x:=10) 64).mul p6).le (by have:=p4.1;have h0:0<=p.2.1:=p4.1;omega)).mono #[1]
   refine zk fun N1 hN1=>?_
   walk_at "rd atI1 YaR"
   refine⟨p5,p6.mono #[1],YaU (show _<1000 by omega) #[1],hN1 _ ?_⟩
   clear hN1 N1
   walk_at "rd"
   refine⟨divP,hW _ ⟨bs++[(p.1,lowQ top p.2.2)],_,_,_,_,_,by rw [Ya2];rfl,hwd.snoc tp1 tp2,fun x hx=>?_⟩⟩
   rcases Ya3.mp hx with z|z
   . exact hok' x z
   . rw [Ya6.mp z]
     exact⟨⟨p1,zdp p5 tb (p6.mono #[1])⟩,p2,zcK p5 (by have h0:0<=p.2.1:=p4.1;omega) tp2⟩
 rintro ρ ⟨bs,c',t7,t8,t9,t10,rfl,hwd,hbq⟩
 have hB:okB (many l) bs:=⟨by rw [hwd.1];exact(zfm hpp hpb).1,fun p hp=>(hbq p hp).2⟩
 have ho:∀ p∈bs,okQ p.1/\okQ p.2:=fun p hp=>(hbq p hp).1
 have hbl:=hB.1;(refine zk fun N hN=>?_)
 walk_at "rd YaR"
 refine⟨quoB (zg l) l,rfl,bs,rfl,row,rfl,many l,hm.1,hm.2,#[0],#[0],hqb,hall,hpb,hbl,ho,fun r hr=>ite2 (fun z=>?_) fun z=>hN _ ?_⟩
 . have h10:10<row.length:=Nat.lt_of_not_le fun h=>by
    have:=hr.mpr (zl1 hok hokr h hwd);rw [z] at this;cases this
   rw [decide_eq_true #[0]]
   exact q
 clear hN N;have hk0:=hr.mp (by cases r<;>simp at z ⊢)
 clear hr z r hwd hbq;(refine zk fun N hN=>?_)
 walk_at "rd YaR"
 refine⟨ns,rfl,#[1],fun v7=>⟨#[0],#[0],#[0],#[0],fun rs0 hrs0 htx0 hrl0=>⟨rs0,rfl,row,rfl,bs.length,rfl,hrs0,htx0,#[0],#[0],fun c hc=>by rw [hbl];exact hall c hc,fun f11 rs hrs htx hrl hrk=>hN _ ?_⟩⟩⟩
 clear hN N hrs0 htx0 hrl0 rs0;rw [show(row.length:Int)=tot l by omega,hbl] at hrs
 have a2:∀ {α : Type} {x y z u v:α},atI [x,y,z,u,v] 2=some z:=rfl;refine z6 (fun ρ=>∃ (c':Int) (tp vp:List Int),ρ = gE ns l (zg l) (quoB (zg l) l) row [some (.sh true (.int c')),some (.sh true (.list (bs.map dP))),t7,t8,t9,t10,some (.sh f11 (.list (rs.map dRl))),some (.sh true (.tuple [.str "row", .list (row.map .int),.int 0,.list (tp.map .int),.list (vp.map .int)])),none,none,none,none]) (fun N hN=>?_) ?_
 . walk_at "rd"
   refine⟨l,rfl,bs,rfl,rs,rfl,row,rfl,#[0],ho,#[0],htx,#[0],fun _ _ _ _ W hW ch h1 h2 h3 d hd=>?_,fun z=>absurd hok z,fun _ z=>absurd hB z,fun _ _ z=>absurd hrs z,fun _ _ _ z=>absurd hokr z⟩
   obtain⟨new,tp,vp,r1,r2,r3,r4,rfl⟩:=zez hok hB ho hW hrs hokr hk0 hrk h1 h2 h3 (by rw [hokr.1,h1]) hd
   rw [zhx] at r4;have r5:(zC new row).length=0:=#[0]
   rw [r5,zk4 (by rw [r1.1,hokr.1]) r5]
   exact hN _ ⟨_,tp,vp,rfl⟩
 rintro ρ ⟨c',tp,vp,rfl⟩
 have hsr:SeqAt.shaped (.list (row.map PyData.int))=true:=(zfK row).shaped #[1]
 have her:PyData.eqv (.list (row.map PyData.int)) (.list (row.map PyData.int))=true:=zfP (zfK row).1;(refine zk fun N hN=>?_)
 walk_at "rd atI0 atI1 a2 hsr her"
 refine hN _ ?_
 clear hN N hsr her;(refine zk fun N hN=>?_;walk_at "rd")
 refine⟨ns,rfl,#[1],fun c8=>hN _ ?_⟩
 clear hN N;refine zk fun N hN=>?_;walk_at "rd"
 (refine hN _ ?_;clear hN N);refine z6 (fun ρ=>∃ (sp:List Int) (d:D) (t14:Option L3.Cl),ρ = gE ns l (zg l) (quoB (zg l) l) row [some (.sh true (.int c8)),some (.sh true (.list (bs.map dP))),t7,t8,t9,t10,some (.sh f11 (.list (rs.map dRl))),some (.sh true d),some (.ow true (sp.map .int)),t14,none,none]/\jk (many l) (tot l).toNat sp) (fun N hN=>?_) ?_
 . walk_at "rd"
   refine⟨#[1],#[0],#[0],?_⟩
   refine je (fun k ρ=>∃ (sp:List Int) (d:D) (t14:Option L3.Cl),ρ = gE ns l (zg l) (quoB (zg l) l) row [some (.sh true (.int c8)),some (.sh true (.list (bs.map dP))),t7,t8,t9,t10,some (.sh f11 (.list (rs.map dRl))),some (.sh true d),some (.ow true (sp.map .int)),t14,none,none]/\jk (many l) (tot l).toNat sp) ?_ (fun ρ h=>hN ρ h) ⟨row,_,none,rfl,hokr⟩
   rintro k ρ hk ⟨sp,d,t14,rfl,hsp⟩ W hW
   have e0:=Ybc (c8/2+5*(0+(k:Int))) (show(row.length:Int)≠0 by omega)
   have e1:=Ybd (c8/2+5*(0+(k:Int))) (show 0<(row.length:Int) by omega)
   have v0:=Ybc (c8/40) (show(bs.length:Int)≠0 by omega)
   have v1:=Ybd (c8/40) (show 0<(bs.length:Int) by omega)
   have hspl:=hsp.1;have hix:ixN sp.length ((c8/2+5*(0+(k:Int)))%(row.length:Int))=some ((c8/2+5*(0+(k:Int)))%(row.length:Int)).toNat:=j9 e0 #[0]
   walk_at "rd YaR hix"
   refine⟨divP,#[0],divP,(Bits.lit (x:=5) 64).mulOk (Bits.lit (x:=0+(k:Int)) 64 #[0]) #[1],#[0],hW _ ⟨sp.set ((c8/2+5*(0+(k:Int)))%(row.length:Int)).toNat (c8/40%(bs.length:Int)),_,_,by rw [Wbk];rfl,by rw [YaN];exact hspl,fun c hc=>?_⟩⟩
   rcases Waf hc with z|z
   . exact hsp.2 c z
   . rw [z];omega
 rintro ρ ⟨sp,d,t14,rfl,hsp⟩
 have hspl:=hsp.1;(refine zk fun N hN=>?_)
 walk_at "rd YaR"
 refine⟨#[0],#[0],sz (by rw [zbo];omega),?_⟩
 rw [Int.toNat_natCast];refine zdB (fun i:Nat=>PyData.int (0+(i:Nat))) (fun i:Nat=>PyData.int (0+(i:Nat))) (fun i=>!decide (sp.getD i 0=row.getD i 0)) (fun ρ=>∃ t,ρ = [t,some (.ow true (sp.map .int)),some (.sh true (.list (row.map .int)))]) (List.range row.length) ?_ _ _ _ _ ⟨none,rfl⟩ ?_
 . rintro i hi ρ fa acc K ⟨t,rfl⟩ kk
   have hi:=Yba.mp hi;have g1:=jo (xs:=sp) (i:=0+(i:Int)) #[0] #[0]
   have g2:=jo (xs:=row) (i:=0+(i:Int)) #[0] #[0]
   rw [show(0+(i:Int)).toNat=i by omega] at g1 g2
   walk_at "rd g1 g2"
   refine ite2 (fun e=>?_) fun e=>?_
   . simp only [decide_eq_false e,Wa3,if_true] at kk
     exact kk _ ⟨_,rfl⟩
   . simp only [decide_eq_true (Classical.not_not.mp e),Wba,Was,if_false] at kk
     exact kk _ ⟨_,rfl⟩
 rw [List.nil_append,YaR,zma #[0]]
 (refine hN _ ?_;clear hN N);refine z6 (fun ρ=>∃ (new tp vp:List Int),ρ = gE ns l (zg l) (quoB (zg l) l) row [some (.sh true (.int c8)),some (.sh true (.list (bs.map dP))),t7,t8,t9,t10,some (.sh f11 (.list (rs.map dRl))),some (.sh true (.tuple [.str "row", .list (new.map .int),.int ((zC new sp).length:Nat),.list (tp.map .int),.list (vp.map .int)])),some (.ow true (sp.map .int)),t14,some (.sh true (.int ((zC row sp).length:Nat))),none]/\jk (many l) (tot l).toNat new/\kpP (zg l) (many l) (quoB (zg l) l) new bs/\RowK rs new/\(zC new sp).length<=(zC row sp).length) (fun N hN=>?_) ?_
 . walk_at "rd"
   refine⟨l,rfl,bs,rfl,rs,rfl,sp,rfl,#[0],ho,#[0],htx,#[0],fun _ _ _ _ W hW ch h1 h2 h3 d hd=>?_,fun z=>absurd hok z,fun _ z=>absurd hB z,fun _ _ z=>absurd hrs z,fun _ _ _ z=>absurd hsp z⟩
   obtain⟨new,tp,vp,r1,r2,r3,r4,rfl⟩:=zez hok hB ho hW hrs hokr hk0 hrk h1 h2 h3 (by rw [hspl,h1]) hd
   exact hN _ ⟨new,tp,vp,rfl,r1,r2,r3,r4⟩
 rintro ρ ⟨new,tp,vp,rfl,r1,r2,r3,r4⟩
 have hnl:=r1.1;(refine zk fun N hN=>?_)
 walk_at "rd atI0 a2"
 rw [if_pos #[0],if_neg #[0]]
 refine hN _ ?_;clear hN N;refine zk fun N hN=>?_
 walk_at "rd atI1 YaR"
 refine⟨new,rfl,bs.length,row.length,rfl,rfl,by rw [hbl,show row.length=(tot l).toNat by omega];exact r1,#[0],hN _ ?_⟩
 clear hN N;refine z6 (fun ρ=>∃ t16:Option L3.Cl,ρ = gE ns l (zg l) (quoB (zg l) l) row [some (.sh true (.int c8)),some (.sh true (.list (bs.map dP))),t7,t8,t9,t10,some (.sh f11 (.list (rs.map dRl))),some (.sh true (.tuple [.str "row", .list (new.map .int),.int ((zC new sp).length:Nat),.list (tp.map .int),.list (vp.map .int)])),some (.ow true (sp.map .int)),t14,some (.sh true (.int ((zC row sp).length:Nat))),t16]) (fun N hN=>?_) ?_
 . walk_at "rd YaR"
   refine⟨#[1],#[1],#[0],#[0],?_⟩
   rw [show(((quoB (zg l) l).length:Int) - 1).toNat=new.length by omega]
   refine je (lo:=1) (fun k ρ=>∃ t16:Option L3.Cl,ρ = gE ns l (zg l) (quoB (zg l) l) row [some (.sh true (.int c8)),some (.sh true (.list (bs.map dP))),t7,t8,t9,t10,some (.sh f11 (.list (rs.map dRl))),some (.sh true (.tuple [.str "row", .list (new.map .int),.int ((zC new sp).length:Nat),.list (tp.map .int),.list (vp.map .int)])),some (.ow true (sp.map .int)),t14,some (.sh true (.int ((zC row sp).length:Nat))),t16]) ?_ (fun ρ h=>hN ρ h) ⟨none,rfl⟩
   rintro k ρ hk ⟨t16,rfl⟩ W hW
   have g1:atI (new.map PyData.int) (1+(k:Int) - 1)=some (PyData.int (new.getD k 0)):=by
    have:=jo (xs:=new) (i:=1+(k:Int) - 1) #[0] #[0]
    rwa [show(1+(k:Int) - 1).toNat=k by omega] at this
   walk_at "rd atI1 g1"
   refine⟨rs,rfl,htx,fun r hr=>(hrs r hr).1,fun b hb=>?_⟩
   have hb:b=true:=hb.mpr (by rw [show 1+(k:Int)=(k:Int)+1 by omega];exact zcm hrs r3)
   rw [hb,if_neg #[1]]
   exact hW _ ⟨_,rfl⟩
 rintro ρ ⟨t16,rfl⟩
 walk_at "rd atI1"
 exact⟨quoB (zg l) l,rfl,bs,rfl,new,rfl,many l,hm.1,hm.2,#[0],#[0],hqb,r1.2,hpb,hbl,ho,fun r hr=>by rw [hr.mpr r2];exact q⟩
end
theorem zjA{h:Heap}(X:K.In h)(G:h.Ns mainGlobals mg){kV:Value}(a:PySem.W.nsIn K mainGlobals x=some (some (.ref f)))(l:K.lookup f=some ⟨oc,od,.func (PySem.W.fnOf x x (JL st) (jO st) (zh st) .none kV dc pm an cd ct),sl⟩)(c:PySem.W.codeIn K cd x=true)(k:PySem.W.keepIn K (.ref f)=true):DA K mg x st:=⟨f,_,zbL l c k,Wbc X G a⟩
theorem zmM{h:Heap}(X:K.In h)(G:h.Ns mainGlobals mg)
       {ix2:Int} 
 
 
 
 
 
 
 
 
 
 
    
     
     
 
 
 
 
 
 (D:TxtD K mg)
 (a35:PySem.W.nsIn K mainGlobals "nearest" = some (some (.ref f35)))
 (l35:K.lookup f35=some ⟨oc35,od35,.func (PySem.W.fnOf "nearest" "nearest" (JL jT) (jO jT) (zh jT) .none kV35 dc35 pm35 an35 (.ref cx0) ct35),sl35⟩)
 (c35:PySem.W.codeIn K (.ref cx0) "nearest" = true)
 (k35:PySem.W.keepIn K (.ref f35)=true)
 (q1:K.lookup cx0=some ⟨.type "code", odx,.fields vsx,slx⟩)
 (q2:vsx[11]?=some (.ref tbx))
 (q3:vsx.getD 11 .none=.ref tbx)
 (q4:vsx.getD 18 .none=.str flx tx1)
 (q5:vsx.getD 7 .none=.int ix1 tx2)
 (q6:vsx.getD 9 .none=.bool bx)
 (q7:vsx.getD 10 .none=.int ix2 tx3)
 (q8:cx0≠tbx)
 (q9:K.lookup tbx=none)
 (m_ClanError:PySem.W.nsIn K mainGlobals "ClanError" = some (some (.ref c_ClanError)))
 (m_NoSpell:PySem.W.nsIn K mainGlobals "NoSpell" = some (some (.ref c_NoSpell)))
 (m_NoRow:PySem.W.nsIn K mainGlobals "NoRow" = some (some (.ref c_NoRow)))
 (m_NoBounds:PySem.W.nsIn K mainGlobals "NoBounds" = some (some (.ref c_NoBounds)))
 (m_NoRule:PySem.W.nsIn K mainGlobals "NoRule" = some (some (.ref c_NoRule)))
 (m_Market:PySem.W.nsIn K mainGlobals "Market" = some (some (.ref c_Market)))
 (mI2:PySem.W.findIn K (.ref c_Market) "__init__" = some (some (.ref fI)))
 (lI:K.lookup fI=some ⟨ocI,odI,.func (PySem.W.fnOf "__init__" "Market.__init__" (JL Jm) (jO Jm) (zh Jm) .none kVI dcI pmI anI cdI ctI),slI⟩)
 (cI:PySem.W.codeIn K cdI "Market.__init__" = true)
 (kI:PySem.W.keepIn K (.ref fI)=true)
 (mI1:PySem.W.makesIn K c_Market=true)
 (mI3:PySem.W.isFn K (.ref fI)=true)
 (mI4:PySem.W.keepIn K (.ref c_Market)=true)
 (cI1:PySem.W.plainGet K c_Market Str.empty=true)
 (cI2:PySem.W.hasDictIn K c_Market=true)
 (cI3:PySem.W.plainOver K c_Market=true)
 (cI4:PySem.W.findIn K (.ref c_Market) "__setattr__" = some (some (.builtin "object.__setattr__")))
 (nI_costs:PySem.W.findIn K (.ref c_Market) "costs" = some none)
 (nI_turn_prices:PySem.W.findIn K (.ref c_Market) "turn_prices" = some none)
 (nI_visit_prices:PySem.W.findIn K (.ref c_Market) "visit_prices" = some none)
 (nI_taken:PySem.W.findIn K (.ref c_Market) "taken" = some none)
 (nI_holders:PySem.W.findIn K (.ref c_Market) "holders" = some none)
 (e_NoSpell:PySem.W.excIn K c_NoSpell [.type "ValueError", .type "Exception", .type "BaseException", .type "object"] "ValueError.__new__" = true)
 (e_NoBounds:PySem.W.excIn K c_NoBounds [.type "ValueError", .type "Exception", .type "BaseException", .type "object"] "ValueError.__new__" = true)
 (e_NoRule:PySem.W.excIn K c_NoRule [.type "ValueError", .type "Exception", .type "BaseException", .type "object"] "ValueError.__new__" = true)
 (e_NoRow:PySem.W.excIn K c_NoRow [.type "ValueError", .type "Exception", .type "BaseException", .type "object"] "ValueError.__new__" = true)
 (m_LEAST_BOUND:PySem.W.nsIn K mainGlobals "LEAST_BOUND" = some (some (.ref t_LEAST_BOUND)))
 (q_LEAST_BOUND:K.lookup t_LEAST_BOUND=some ⟨.type "tuple", od_LEAST_BOUND,.seq #[.int 0 u0_LEAST_BOUND,.int 1 u1_LEAST_BOUND] n_LEAST_BOUND,sl_LEAST_BOUND⟩)
 (m_MOST_BOUND:PySem.W.nsIn K mainGlobals "MOST_BOUND" = some (some (.ref t_MOST_BOUND)))
 (q_MOST_BOUND:K.lookup t_MOST_BOUND=some ⟨.type "tuple", od_MOST_BOUND,.seq #[.int 10 u0_MOST_BOUND,.int 1 u1_MOST_BOUND] n_MOST_BOUND,sl_MOST_BOUND⟩)
 (m_FIXED:PySem.W.nsIn K mainGlobals "FIXED" = some (some (.str "fixed" t_FIXED)))
 (m_BARRED:PySem.W.nsIn K mainGlobals "BARRED" = some (some (.str "barred" t_BARRED)))
 (m_MOST_SPELLS:PySem.W.nsIn K mainGlobals "MOST_SPELLS" = some (some (.int 8 t_MOST_SPELLS)))
 (m_MOST_CLANS:PySem.W.nsIn K mainGlobals "MOST_CLANS" = some (some (.int 8 t_MOST_CLANS)))
 (m_MOST_TURNS:PySem.W.nsIn K mainGlobals "MOST_TURNS" = some (some (.int 60 t_MOST_TURNS))):∃ c:Law.Cl,Txt c K mg:=
 ⟨⟨c_ClanError,c_NoSpell,c_NoRow,c_NoBounds,c_NoRule,c_Market,cx0,tbx⟩,{
  toTxtD:=D,
  d_nearest:=⟨f35,_,zbL (st:=jT) l35 c35 k35,Wbc X G a35⟩,
  x_nearest:=⟨f35,_,zbL (st:=jT) l35 c35 k35,Wbc X G a35,rfl⟩,
  hdC:=fun h kh=>⟨_,vsx,flx,tx1,ix1,tx2,bx,ix2,tx3,kh _ _ q1,rfl,rfl,q2,q3,q4,q5,q6,q7,q8⟩,
  tab:=zlA a35 l35 rfl q1 q2,
  nop:=q9,
  m_ClanError:=Wbc X G m_ClanError,
  m_NoSpell:=Wbc X G m_NoSpell,
  m_NoRow:=Wbc X G m_NoRow,
  m_NoBounds:=Wbc X G m_NoBounds,
  m_NoRule:=Wbc X G m_NoRule,
  m_Market:=Wbc X G m_Market,
  x_init:=⟨fI,_,zbL (st:=Jm) lI cI kI,⟨mI1,mI2,mI3,mI4⟩⟩,
  cl_M:=⟨cI1,cI2,cI3,cI4⟩,
  na_costs:=nI_costs,
  na_turn_prices:=nI_turn_prices,
  na_visit_prices:=nI_visit_prices,
  na_taken:=nI_taken,
  na_holders:=nI_holders,
  e_NoSpell:=e_NoSpell,
  e_NoBounds:=e_NoBounds,
  e_NoRule:=e_NoRule,
  e_NoRow:=e_NoRow,
  m_LEAST_BOUND:=⟨_,Wbc X G m_LEAST_BOUND,_,_,_,q_LEAST_BOUND,rfl,rfl,by show(2:Nat)<=sizeLine;decide,(.cons ⟨_,rfl⟩ (.cons ⟨_,rfl⟩ .nil))⟩,
  m_MOST_BOUND:=⟨_,Wbc X G m_MOST_BOUND,_,_,_,q_MOST_BOUND,rfl,rfl,by show(2:Nat)<=sizeLine;decide,(.cons ⟨_,rfl⟩ (.cons ⟨_,rfl⟩ .nil))⟩,
  m_FIXED:=⟨_,Wbc X G m_FIXED⟩,
  m_BARRED:=⟨_,Wbc X G m_BARRED⟩,
  m_MOST_SPELLS:=⟨_,Wbc X G m_MOST_SPELLS⟩,
  m_MOST_CLANS:=⟨_,Wbc X G m_MOST_CLANS⟩,
  m_MOST_TURNS:=⟨_,Wbc X G m_MOST_TURNS⟩ }⟩
section
variable{c:Law.Cl}
theorem zkp(T:Txt c K mg)(a:BMod mg base)(b:K.In base):dd_mend_visits c P w K mg base:=ziL T a b
theorem zmK(T:Txt c K mg)(a:BMod mg base)(b:K.In base):dd_mended c P w K mg base:=zj4 T (zg6 T) (zj5 T) (zjk T) (zl7 T) (zjG T) (zkp T a b) (zlD T)
theorem zjL(T:Txt c K mg)(hB:BMod mg base)(kb:K.In base)(F:Fun K "law" "law" zac f fd):FnOk P w K mg base (CXR P w) 8 f fd ["_law_script"] (spU c.tb K JX):=zjM T (zj2 T) (zg3 T) (zkV T) (zdd T) (zjS T) (zhK T) (zmK T hB kb) (zll T) (zi0 T) (zhJ T) (zeY T) (zmh T) (zed T) F
end
theorem walk{l:PySem.W.OpenLaw}{loose:List Str}{XP:(Str->Option Value)->Heap->Prop}{YP:World->Heap->Prop}{d:DefRec}{K:Params->Ybf}(z:l.most=some 63)(g:d.params.defaults=[])(i:d.name = "law")
 (a:(recsOf q).find? (fun e=>e.name==("nearest" : Str))=some dd) (r:∀ (w:World) (h:Heap),YP w h->(K w.params).In h)
 (F:∀ (w:World) (mg:Str->Option Value) (h:Heap),(K w.params).In h->h.Ns mainGlobals mg->∃ c,Txt c (K w.params) mg) :
 PySem.W.WalkO q loose XP YP l.row.toRowW d [] (fun f vs=>PySem.call f vs):=by
 refine L3.zhW (k:=8) (x:="_law_script") (sp:=JX) z #[1] g ⟨rfl,#[1],#[1]⟩ r a (fun w mg R h I G b=>?_) (fun A J Q E C=>⟨A,rfl,J,C _⟩)
 obtain⟨c,T⟩:=F w mg h I G;obtain⟨f,X,n,o⟩:=T.d_law;rw [i,o] at b;cases b;have j:=n;obtain⟨U,P,W,v,M,O,H,N,L,rfl,S,p⟩:=n.ex;exact⟨_,c.c0,c.tb,fun s u=>.of_eq rfl,T.tab,T.nop,fun m B y=>zjL T y B j⟩
end Law
namespace PySem.W.Fast
local macro_rules|`(command|#print $s:str)=>do
 let (_,_,a):=s.getString.foldl (fun(k,n,a) c=>let n:=n*91+(c.toNat-35-c.toNat/93);if k==9 then (0,0,a.push n) else (k+1,n,a)) (0,0,(#[] : Array Nat))
 return Lean.mkNullNode (<-a.mapM fun n=>`(command|theorem $(mI (.mkSimple s!"tw{n}")):ident:True:=trivial))
#print ":HE+*)D5E8:Hk3V*`Bq=:avy>6A/EG:wZ+IRjge2:y7|&zl@<&;*SDYK%Kx+;5?A,0G9[&;C[_cB_G0@;W]b&?i#>v;[*2Mz$]$9;]4<Rb0mWw;_e6,Zy%5[%O$YW,p'pR;r(/$sMgTx;yc#f;Uaa&;zZDzI7kc-<'[G*9R0WK<'bIFgveS^<-{;2K$VY-%R?]>:[Ds*<63cEO{L@+<<@wwwXu[E=*@{33SAF%=*q'%K|=gi==>t=LkSx7=?gmE;76y-=B2lbP/p[@=D1MX*6Zr;=Fndv4#)Po=cVgtAx.Z_#;EH1():x0=n}p8S4U1r=tMz?L|muz%c/5[grC|o={.MxvUzu_>$m:P%o23d>&s;<dQh6t>2@3$nF-wu>3h:i@oDNU>B$5PQTN4*>T)w;M$<|L>_n>Upy47C>`AD)b@<r6>a9(lj[$y+?*<C)J<IF]?_cH;/H;ht?`+(h9Kl?S?i5.K(m~j2?oYn?O;(Qu@#nmN[8{)$#=^<<wu4]g@=r%Hcmh;(@Op|Kmy1'F@W5,sE-&`w@boj3CJ6G3%}25Xu_1+V%};Lw6Z/YB@oK?p'(St/@|fi&]jzY3A#ZWDjkJ#}A3cFb/5:iTA8Lq;??72`A9qr]&q=lzA?s-B|#kkBAA44?<V5QlAC/hNb$B(2AI?Jf),QCKAUCNyDITziA]QHfNQ<'+AcIAz>e(XkAsM,O59+bHAvny$;fHtvB*0f5^Twsx&.))*U:1=uBAYL#Y<r>~BC-}w8micCBG8_#6Rp)kBInQgy,oY'#?]]$K?cYXBQP=y|=#$8BZEYk,|6[|B^uu0=.eEbBl2vJc[EHaBlWOF`2,h?Bq[=?ce*seBrr<c=?*ZBBr}|i&]-d+BtDs{%P11fBz^n@_MGw*B|j:@C2=BtC%i>Y'(l_`C)}]+IWV%dC-{vW43~',CA$W=@6KmUCB[1O<}$:(CRrBG5.<y8CSLa;ugC$&CVh,v*3Lq/CXJn*K?WLVCr|p$/*X=OD,B03r;Ym]D-Z91G8TwjD.%;y@J_&YD.Dkg%g;|4D.b6l`0kFcDB{g25?&)$DG=:)`aZ[p&C*Ze~>5?ODc[/ZA.:SnDdu',h1TXoDed.sib4Nk&FVatw+B1jDw'Vbo^>z'E0brXM.cQG&Hxgo2644:ES|`:|;#HtE[DAJejet?EbIki<pTVL&O0ni>2Em4EsOR-MiPn5EwIm`_$8U5Ex[gN]H7K{E{`T@_Fe+=F#z9i%'lGCF')mLh=W_RF,q0Dk@UZnF1*xubd8~-F:cYPK51=dFE./L.Se$:FNsKzlHoDoFPWChUqXT]FQ=nw&_'9~FdFc3-:NHkFeQaU&2GVUFi%Vsan4h*Fzx1M_:HR[G)y4xUG#?qG+zw4zD_[XGdVmr4#{_xGdlt[rb(j+H#Z]<`1IQpH#rzBB]^|6H&*&v}.TEiH&=NROO4yP&d+%pT~0'MH.V`3=38/9H>pymKCltkH@Blo[vo1%H@VJ%)RF'nHH.GqlNo7U#E'ed)(mm|HLfxiMLb~,HMe'M[f+Pj&h,w=;6]zSHRI;m-,96|HSjo@~`f.bH]1^ZFe:1%&ihtsPxP<gHe6i,JgYYdHkgdO5gHh7Ho/0D~N_+~Hp.nM|S-:iHudE&}eCNgH}6k}EOsp&&m1Y{cUP$cI)[m*7(@hVI8b#2.>/^]&o9;msO?n$I@8l:@{&U}IF8440z$@bIay`Z~pSfeIc2YlRX&;ZIhYH*~;+#GIi*NU)G_rW&t-ty2v.ktIn.6sK|=8i&vfd(?{+9YJ0]MA535KKJ<jkm]bc[eJ?9H`Iq;0kJA9i;2nm6/&yAHQy6.AgJI#,;1l+l9&z&5DdgJ&_JW:JzHuPshJt'pU@QEeWK3n&z7F6(1KF7fKB=pY'KJ`33J&]``KQA)LIma^?KRP2%L(/N>Ki<De'WLd.Kl5ks%`TZRKy/MkoMVE^KyGC4gpW`0KziDN:z1%mL)vy8>7biSL<KL+q}z@eL>UU_KFN`0'/ix`).Ly)LPSt1S?SEKLQtp6--uPzL_`?.ohZ|KLapC6i}=wlLd.M]u0#N(Lobixq~:sGLyX]{`s'_fM)EL6Uj'x'M/s(_c7;rWM2oNr-G$WJM:'U7sgToRMC1Ia,(JasME.})W(JT}':;mf9D})aMYlB6-f`HAMYp<7]iMYXM]LK<NpN'|MdTA^e>w*ZMhd1&bGrRX'<m#~LDHKnMpPB0JP<u?Mv[>:8}H6SM{.H.4pCUAN#t0*Iv)bJ'>G&Xi=S%='I_Kof8xBa'KhTfd<f_T#O8=C1Rq#2'sBP<-ICK('u>#9Ce57m'y@kX*o|m'#P%4v{={@2(67pdmvjaG(F*>,Az,6Q(`?GP{v?Ed(oCxWV=Drj)'u7[qW|./)*ZFNwZwuV).XoN4xC)4)8XLd=sr{:)9j_>r[9>I)<671~#MfN)Q0-750[xZ#(x,2NBddQ)RIhbS&f3*)|}=+;B@{y*#7aD3$+<>#dB;g]EUX%*/t;^umn:|*0xeJHX|?6*;)`3E(S*F*;J9n-VS@l*MK#`]&}/R*MkCe)1/-n+:9Hr5)@^)+AVzp^#(;A+P:'6|*_6s#qx&;L{ZWI#r72sG$nhT+]GsvavFU_+^1E*-Q$ZT+ge_E?awAt,$DrFkG&l%,/Cwe{pr,',5f<Z4&p{6,91GLE_PJ&,HMI`ynfqV#z.8CVqxY`,QzzcES=md,U8s,aO==W,lOcmR/(g,,v@Kjd:yZd,xS{-8}P0?-&G^4p&fp1-(CO3SUqtN-);RG7Bt;3-6r~5:HmoW-@/ND>WV9$-F4>UV^K$V$)&y=;0Z;q-zs$G,PCt;.E(<+1yWAH.S0:Sx^-)u.T~7_(?0ha.]lXd~%h7^.kMTRu2<RW.uS>@f=B2@/0Kx0F8Tr9/;L(y6_~3T/A[Mt%DBWL/DD9UwaK4(/H9S1TN7]y/L&gdsQ'k-/MP<V}oW3>/Qq>6>c3wP/_K>sUkAcD/b/d/f'_H[/cf&#yLmuY/e7L#UF[fZ/g*lI7l02'0$^1eu^<v80'Vgg@+KEE0,,p7EpM,C0A`gNQea(Q0Swutay%)}0W~R<yc9~Y$C_8-,I{)s$D#]P-**d70]qZQ*y'ir0`sMEGh<z:0jpH9l:GF5$EHA,GiHFE0pPg;Cko6J1+}J0,B?_#1<vAul2hzI1CC#Rg)KuX1CVl,.8UGj1O~RuVe5~r1Qk/`>JJ_e1X9bGx<6f%1^:oQ<ol,t1m$45?$fpb1o4T0k%+lu1xoa;eJC/82DxCp+UCde2utZEQ9?)J3Gtj&7;Fi93T%P,Y0v=13VN6]E@]gs3q$qfkB6}M3w<G7LTkyr4+c9=Q?V-]40Afa~|/l'$e.(Q6/ws:49RYJ)2C3g$g4`]r-JPK4rrrpNOz&*4s?d'J6'{&4uHue~]d#~4zkNWnmQu14|~=JoqJ+o5$Yn}|ey-h5BP)pvS0=($p&NPIx@=.5CVr,XgM%%5HqX_tZ'}Y5js_;~2$C?$t+Jo^lE0k5z0,ndjbBP5zGgiE>PRB5{}W'@>M,B6$'_SyjTxb6%:sWSiO/A66GGYl(ox'6DDX#zMI~76kZqLWaVIn6m_duaAwu77$<g~2T-t/7$ZBlSi?*/%&+'/xJ,sT7C?ouy}`G?7Ez9w,d$Y%%'i`gr.w=O7S-O:-3i'$7^hz1r2BZn%)Wq;,pv_d7zO9hZUP?J8#[u6QWWlb83u[Nt9jLP8>vGND<p?n8@mTNu${wB8ev&m09Cr18g#YI<<v6O8vk~6;sn'D8{KbjCaf]n8~#X8sv|e/94MpDv>`g#9Krv7PH1;+9gP<uR'AHC9qjEFqZC](9rxXXKB8L@9vfpg@dL#v9{$5^l_su`:*pU_vWf~1:+Y$DVMAn7:.4_.7tIw_:8)*u[_+:}:<;/G%YFm`:<LIq]n`a-"
end PySem.W.Fast
theorem PySem.W.Fast.te17518785275887861888:True:=trivial
abbrev PySem.W.Fast.tw4091860620887923357:PySem.Program:=PySem.Challenge.pw_chairclans_k36_what_keeps_is_not_changed
theorem PySem.W.Fast.te4091860620887923357:PySem.Challenge.pw_chairclans_k36_what_keeps_is_not_changed=PySem.W.Fast.tw4091860620887923357:=rfl
open PySem PySem.W PyProof.Rows
set_option maxRecDepth 100000 in
set_option maxHeartbeats 0 in
theorem PySem.Challenge.cw_chairclans_k36_what_keeps_is_not_changed_holds : PySem.Challenge.rw_chairclans_k36_what_keeps_is_not_changed.Holds := by
 w_on;o_law;k_head;(case hw=>w_witness2)
 k_fill
 refine Law.walk (l:=PySem.Challenge.rw_chairclans_k36_what_keeps_is_not_changed) rfl rfl rfl rfl (fun w h Y=>PySem.W.km_in_of Y) ?F
 case F=>
  intro w mg h KX G;refine' Law.zmM KX G ?D ?a35 ?l35 ?c35 ?k35 ?q1 ?q2 ?q3 ?q4 ?q5 ?q6 ?q7 ?q8 ?q9 ?m_ClanError ?m_NoSpell ?m_NoRow ?m_NoBounds ?m_NoRule ?m_Market ?mI2 ?lI ?cI ?kI ?mI1 ?mI3 ?mI4 ?cI1 ?cI2 ?cI3 ?cI4 ?nI_costs ?nI_turn_prices ?nI_visit_prices ?nI_taken ?nI_holders ?e_NoSpell ?e_NoBounds ?e_NoRule ?e_NoRow ?m_LEAST_BOUND ?q_LEAST_BOUND ?m_MOST_BOUND ?q_MOST_BOUND ?m_FIXED ?m_BARRED ?m_MOST_SPELLS ?m_MOST_CLANS ?m_MOST_TURNS
  (case D=>constructor<;>first|(refine' Law.zjA KX G ?a ?l ?c ?k;(case a|l|c|k=>k_is))|exact PySem.W.mg_none_of KX G (by k_is))
  (case a35|l35|c35|k35|q1=>k_is)
  (case q2|q3|q4|q5|q6|q7=>rfl)
  (case q8=>decide)
  (case q9=>kernel_rfl)
  (case m_ClanError|m_NoSpell|m_NoRow|m_NoBounds|m_NoRule|m_Market|mI2|lI|cI|kI|mI1|mI3|mI4|cI1|cI2|cI3|cI4|nI_costs|nI_turn_prices|nI_visit_prices|nI_taken|nI_holders=>k_is)
  (case e_NoSpell|e_NoBounds|e_NoRule|e_NoRow=>k_exc)
  (case m_LEAST_BOUND|q_LEAST_BOUND|m_MOST_BOUND|q_MOST_BOUND|m_FIXED|m_BARRED|m_MOST_SPELLS|m_MOST_CLANS|m_MOST_TURNS=>k_is)