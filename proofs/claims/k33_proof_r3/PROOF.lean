import PyProof.Rows.All
import Wide.All
import OpenK.AllK
import Wide.FinOn
import Lean
import PyProof.EqAt
import PyProof.EqKinds
import PyProof.TupleCall
import PySem.Challenge.RW_chairclans_k33_placed_refused
set_option maxHeartbeats 4000000
set_option maxHeartbeats 4000000
local macro_rules | `(tactic| omega)=>`(tactic| first | lia | omega +splitDisjunctions | (dsimp only;omega +splitDisjunctions))
local macro_rules|`(#[0])=>`(by omega)|`(#[1])=>`(by decide)|`(#[2])=>`(by walk_at "o")|`(#[3])=>`(by decide +kernel)|`(#[4])=>`(fun _ _=>rfl)|`(#[5,$x])=>`(some (.sh true (.int $x)))|`(#[6])=>`(by simp;omega)|`(#[8,$x])=>`($x $(Lean.mkIdent `P) $(Lean.mkIdent `w) $(Lean.mkIdent `K) $(Lean.mkIdent `mg) $(Lean.mkIdent `base))
noncomputable section
abbrev Waa:=@Int.gcd_pos_of_ne_zero_right
abbrev Wab:=@PyProof.Rows.callWith_type1
abbrev Wac:=@List.mem_or_eq_of_mem_set
abbrev Wad:=@Option.isSome_iff_exists
abbrev Wae:=@List.eq_of_mem_replicate
abbrev Waf:=@PySem.W.cellsFrom_some
abbrev Wag:=@PySem.mem_of_lookup
abbrev Wah:=@Bool.false_eq_true
abbrev Wai:=@PySem.PyData.tuple.injEq
abbrev Waj:=@Bool.true_eq_false
abbrev Wak:=@PySem.W.mg_none_of
abbrev Wal:=@Bool.not_eq_true'
abbrev Wam:=@Option.some.injEq
abbrev Wan:=@List.nodup_append
abbrev Wao:=@PySem.PyData.bool.injEq
abbrev Wap:=@PySem.PyData.list.injEq
abbrev Waq:=@PySem.PassesOwn.leaving
abbrev War:=@Nat.lt_succ_self
abbrev Was:=@PySem.W.Looks.at
abbrev Wat:=@List.all_eq_true
abbrev Wau:=@List.any_eq_true
abbrev Wav:=@List.not_mem_nil
abbrev Waw:=@PySem.PyData.int.injEq
abbrev Wax:=@PySem.PyData.str.injEq
abbrev Waz:=@Option.some.inj
abbrev WaA:=@PySem.Heap.size_push
abbrev WaB:=@List.mem_cons
abbrev WaC:=@Bool.or_false
abbrev WaD:=@Bool.true_and
abbrev WaE:=@Bool.false_or
abbrev WaF:=@Bool.and_self
abbrev WaG:=@Bool.and_true
abbrev WaH:=@PySem.W.mg_of
abbrev WaI:=@List.map_nil
abbrev WaJ:=@Bool.or_true
abbrev WaK:=@Nat.zero_le
abbrev WaL:=@Ne.symm
abbrev Yaa:=@List.mem_append_right
abbrev Yab:=@List.getElem?_append_left
abbrev Yac:=@List.getElem?_set_ne
abbrev Yad:=@List.getElem?_replicate
abbrev Yae:=@List.getElem?_append_right
abbrev Yaf:=@Nat.ne_of_lt
abbrev Yag:=@List.append_assoc
abbrev Yah:=@List.mem_of_getElem?
abbrev Yai:=@List.mem_append_left
abbrev Yak:=@Bool.and_eq_true
abbrev Yal:=@Bool.false_ne_true
abbrev Yam:=@List.getElem_of_mem
abbrev Yan:=@PySem.Heap.get?_push_size
abbrev Yao:=@List.append_nil
abbrev Yap:=@Nat.lt_irrefl
abbrev Yas:=@List.getElem?_set_self
abbrev Yat:=@List.map_congr_left
abbrev Yaw:=@Int.ediv_mul_cancel
abbrev YaB:=@List.nodup_cons
abbrev YaD:=@List.map_map
abbrev YaG:=@List.length_range
abbrev YaK:=@Int.mul_nonneg
abbrev YaN:=@List.length_set
abbrev YaP:=@List.getD_eq_getElem?_getD
abbrev YaQ:=@List.getElem?_eq_getElem
abbrev YaR:=@List.length_map
abbrev YaS:=@List.length_append
abbrev YaT:=@List.mem_cons_of_mem
abbrev YaU:=@Nat.lt_of_lt_of_le
abbrev YaV:=@List.mem_cons_self
abbrev YaW:=@PySem.Heap.get?_push_of_some
abbrev YaX:=@PySem.Heap.lt_size
abbrev YaY:=@Nat.le_refl
abbrev YaZ:=@List.size_toArray
abbrev Ya0:=@List.getElem?_map
abbrev Ya1:=@List.map_cons
abbrev Ya2:=@List.map_append
abbrev Ya3:=@List.mem_append
abbrev Ya4:=@List.getElem_mem
abbrev Ya5:=@Nat.le_trans
abbrev Ya6:=@List.mem_singleton
abbrev Ya7:=@List.mem_map
abbrev Ya8:=@List.getElem?_eq_some_iff
abbrev Yba:=@List.mem_range
abbrev Ybb:=@List.length_replicate
abbrev Ybc:=@Int.emod_nonneg
abbrev Ybd:=@Int.emod_lt_of_pos
abbrev Ybe:=@Int.mul_le_mul_of_nonneg_right
abbrev Ybf:=PySem.W.Frag
section
set_option Elab.async false
set_option linter.all false
set_option maxRecDepth 100000
namespace L2
open PySem PySem.Spec PyProof.Rows
abbrev Key:=Sum Int Str
def J1:Key->Value->Bool
 | .inl k,v=>Value.isInt k v
 | .inr x,v=>Value.isStrOf x v
def keyH(w:World):Key->Int
 | .inl k=>hashInt k
 | .inr x=>hashStr w x
theorem jA:∀ {k:Key} {v:Value},J1 k v=true->(∃ i t,k=Sum.inl i/\v=Value.int i t)\/(∃ x t,k=Sum.inr x/\v=Value.str x t)
 | .inl i, v, h => by
  obtain⟨t,e⟩:=Value.isInt_shape (k:=i) (v:=v) h;exact .inl ⟨i,t,rfl,e⟩
 | .inr x, v, h => by
  obtain⟨t,e⟩:=Value.isStrOf_shape (x:=x) (v:=v) h;exact .inr ⟨x,t,rfl,e⟩
theorem zjv(i:Int)(t:Tok):J1 (.inl i) (.int i t)=true:=by simp [J1,Value.isInt]
theorem zfA(x:Str)(t:Tok):J1 (.inr x) (.str x t)=true:=by simp [J1,Value.isStrOf]
theorem zit(a b:Int):decide ((Sum.inl a:Key)=Sum.inl b)=(a==b):=by
 by_cases e:a=b
 . subst e;simp
 . have h:¬(Sum.inl a:Key)=Sum.inl b:=fun q=>e (Sum.inl.inj q)
   rw [decide_eq_false h];exact(beq_eq_false_iff_ne.mpr e).symm
theorem zi1(a b:Str):decide ((Sum.inr a:Key)=Sum.inr b)=decide (a=b):=by
 by_cases e:a=b
 . subst e;simp
 . have h:¬(Sum.inr a:Key)=Sum.inr b:=fun q=>e (Sum.inr.inj q)
   rw [decide_eq_false h,decide_eq_false e]
theorem zeS(a:Int)(b:Str):decide ((Sum.inl a:Key)=Sum.inr b)=false:=decide_eq_false (fun q=>nomatch q)
theorem zgr(a:Str)(b:Int):decide ((Sum.inr a:Key)=Sum.inl b)=false:=decide_eq_false (fun q=>nomatch q)
def jc(prog:Program)(w:World):PySem.KeyKind prog w Key where
 is:=J1
 hash:=keyH w
 inj:=fun v a b ha hb=>by
  rcases jA ha with ⟨i,t,rfl,rfl⟩|⟨x,t,rfl,rfl⟩
  . rcases jA hb with ⟨j,u,rfl,e⟩|⟨y,u,rfl,e⟩
    . injection e with e1 _;rw [e1]
    . exact nomatch e
  . rcases jA hb with ⟨j,u,rfl,e⟩|⟨y,u,rfl,e⟩
    . exact nomatch e
    . injection e with e1 _;rw [e1]
 byValue:=fun k v h=>by
  rcases jA h with ⟨i,t,rfl,rfl⟩|⟨x,t,rfl,rfl⟩<;>rfl
 pyHash:=fun hv h=>by
  rcases jA hv with ⟨i,t,rfl,rfl⟩|⟨x,t,rfl,rfl⟩
  . exact wpAny_pyHash_int h
  . exact wpAny_pyHash_str h
 eqBool:=fun hu hv h=>by
  rcases jA hu with ⟨i,t,rfl,rfl⟩|⟨x,t,rfl,rfl⟩
  . rcases jA hv with ⟨j,u,rfl,rfl⟩|⟨y,u,rfl,rfl⟩
    . rw [zit] at h;exact wpAny_eqBool_int h
    . rw [zeS] at h;exact SeqAt.EqAt.int_str i t y u _ _ _ _ h
  . rcases jA hv with ⟨j,u,rfl,rfl⟩|⟨y,u,rfl,rfl⟩
    . rw [zgr] at h;exact SeqAt.EqAt.str_int x t j u _ _ _ _ h
    . rw [zi1] at h;exact wpAny_eqBool_str h
 «strs»:=fun k x t v h=>by
  rcases jA h with ⟨i,u,rfl,e⟩|⟨y,u,rfl,e⟩
  . exact nomatch e
  . injection e with e1 _
    subst e1;cases v<;>rfl
theorem zfc(prog:Program)(w:World)(i:Int)(t:Tok):(jc prog w).is (.inl i) (.int i t)=true:=zjv i t
theorem ziP(prog:Program)(w:World)(x:Str)(t:Tok):(jc prog w).is (.inr x) (.str x t)=true:=zfA x t
inductive V where
 | non|bl (b:Bool)|int (i:Int)|str (x:Str)|byt (b:Array UInt8)|flt (b:UInt64)|ref (a:Addr)|ty (n:String)
 deriving DecidableEq
def RelV:V->Value->Prop
 | .non,u=>u=Value.none
 | .bl b,u=>u=Value.bool b
 | .int i,u=>∃ t,u=Value.int i t
 | .str x,u=>∃ t,u=Value.str x t
 | .byt b,u=>∃ t,u=Value.bytes b t
 | .flt b,u=>∃ t,u=Value.float b t
 | .ref a,u=>u=Value.ref a
 | .ty n,u=>u=Value.type n
abbrev Vals:List V->List Value->Prop:=Paired RelV
theorem Vals.length{xs:List V}{us:List Value}(r:Vals xs us):xs.length=us.length:=Paired.length r
theorem Vals.get:∀ {xs:List V} {us:List Value} {i:Nat} {x:V},Vals xs us->xs[i]?=some x->∃ u,us[i]?=some u/\RelV x u
 | _,_,_,_,.nil,e=>by simp at e
 | _,_,0,_,.cons r _,e=>by simp at e;subst e;exact⟨_,rfl,r⟩
 | _, _, i + 1, x, .cons _ t, e => by
  obtain⟨u,h1,h2⟩:=Vals.get (i:=i) (x:=x) t (by simpa using e)
  exact⟨u,by simpa using h1,h2⟩
theorem Vals.set{x:V}{u:Value}(r:RelV x u):∀ {xs:List V} {us:List Value} (i:Nat),Vals xs us->Vals (xs.set i x) (us.set i u)
 | _,_,_,.nil=>.nil
 | _,_,0,.cons _ t=>.cons r t
 | _,_,i+1,.cons q t=>.cons q (Vals.set r i t)
theorem Vals.append:∀ {xs ys:List V} {us ws:List Value},Vals xs us->Vals ys ws->Vals (xs++ys) (us++ws)
 | _,_,_,_,.nil,s=>s
 | _,_,_,_,.cons r t,s=>.cons r (Vals.append t s)
theorem Vals.take:∀ {xs:List V} {us:List Value} (n:Nat),Vals xs us->Vals (xs.take n) (us.take n)
 | _,_,0,_=>.nil
 | _,_,_+1,.nil=>.nil
 | _,_,n+1,.cons r t=>.cons r (Vals.take n t)
theorem Vals.drop:∀ {xs:List V} {us:List Value} (n:Nat),Vals xs us->Vals (xs.drop n) (us.drop n)
 | _,_,0,r=>r
 | _,_,_+1,.nil=>.nil
 | _,_,n+1,.cons _ t=>Vals.drop n t
theorem Vals.none_of:∀ {xs:List V} {us:List Value} {i:Nat},Vals xs us->xs[i]?=none->us[i]?=none:=fun {xs us i} r e=>by
 have h1:=r.length;have h2:xs.length<=i:=List.getElem?_eq_none_iff.mp e;exact List.getElem?_eq_none_iff.mpr #[0]
def RelO:Option V->Option Value->Prop
 | some v,some u=>RelV v u
 | none,none=>True
 | _,_=>False
def KV{κ : Type}:List (κ×V)->List (κ×Value)->Prop:=Paired fun(p:κ×V) (q:κ×Value)=>p.1=q.1/\RelV p.2 q.2
def kV:Key->V
 | .inl i=>.int i
 | .inr x=>.str x
inductive HO where
 | lst (xs:List V)
 | tup (xs:List V)
 | dK (kvs:List (Key×V))|dT (kvs:List (List Key×V))
 | set (S:Int->Bool) (n:Nat)
 | ins (C dx:Addr) (fs:List (Str×V))
 | own (x:Addr)
 | xd (fs:List (Str×V))
 | met (f x:Addr)
 | rng (lo hi:Int)
 | frz (o:Obj) (u:HO)
 | tbl (ps:Array Value)
 | ext (φ : Heap->Prop)
abbrev Hp:=Addr->Option HO
def upd(H:Hp)(a:Addr)(o:HO):Hp:=fun b=>if b=a then some o else H b
theorem zp{H:Hp}{a:Addr}{o:HO}:upd H a o a=some o:=by unfold upd;rw [if_pos rfl]
theorem zh{H:Hp}{a b:Addr}{o:HO}(h:b≠a):upd H a o b=H b:=by unfold upd;rw [if_neg h]
theorem zgk{H:Hp}{a b:Addr}{o u:HO}(h:H a=some o)(h':H b=some u)(d:o≠u):a≠b:=by
 intro e;subst e;rw [h] at h';exact d (Waz h')
theorem zP{H:Hp}{a b:Addr}{o:HO}(h:H a=some o)(h':H b=none):a≠b:=by
 intro e;subst e;rw [h] at h';cases h'
section
variable(P:Program)(w:World)
def zJ(H:Hp)(h:Heap)(a:Addr):HO->Prop
 | .lst xs=>xs.length<=sizeLine/\∃ (its:List Value) (n:Nat),Vals xs its/\h.get? a=some { cls:=.type "list", data:=.seq its.toArray n }
 | .tup xs=>xs.length<=sizeLine/\∃ its:List Value,Vals xs its/\IsTup h a its.toArray
 | .dK kvs=>kvs.length<=sizeLine/\(a==sysModules)=false/\∃ vs,KV kvs vs/\h.DictOf (jc P w) a vs
 | .dT kvs => kvs.length <= sizeLine /\ (a == sysModules) = false /\ ∃ xs : List (List Key × Addr × Value),
  Paired (fun(p:List Key×V) (q:List Key×Addr×Value)=>p.1=q.1/\H q.2.1=some (.tup (p.1.map kV))/\RelV p.2 q.2.2) kvs xs/\
  ∃ o es ep,h.get? a=some o/\o.ExactDict/\o.data=.dict es ep/\es.toList=xs.map (entryOfKey (tupleKind (jc P w)))/\(xs.map (·.1)).Nodup
 | .set S n=>h.SetOf (intKind P w) a S n
 | .ins C dx fs => H dx = some (.own a) /\ fs.length <= 1000 /\ dx ≠ a /\ h.get? a = some (PySem.W.instObj C dx) /\
  ∃ mA,h.Ns1 dx mA/\(∀ f,RelO (fs.lookup f) (mA f))/\PySem.Within mA (fs.map (·.1))
 | .own _=>∃ o,h.get? a=some o
 | .xd fs=>∃ mA,h.Ns1 a mA/\∀ f,RelO (fs.lookup f) (mA f)
 | .rng lo hi=>∃ t u v,h.get? a=some { cls:=.type "range", data:=.fields #[.int lo t,.int hi u,.int 1 v] }
 | .frz o u=>h.get? a=some o/\zJ H h a u
 | .tbl ps=>h.get? a=some { cls:=.none,data:=.fields ps }
 | .met f x=>h.get? a=some (PySem.W.methodObj (.ref f) (.ref x))
 | .ext φ=>φ h/\(∃ o,h.get? a=some o)/\∀ h1 h2:Heap,φ h1->(∀ o,h1.get? a=some o->h2.get? a=some o)->φ h2
def HOk(H:Hp)(h:Heap):Prop:=∀ a o,H a=some o->zJ P w H h a o
end
section
variable{P:Program}{w:World}{H H':Hp}{h h':Heap}{a:Addr}{o:HO}
theorem zJ.lt(x:zJ P w H h a o):a<h.objs.size:=by
 cases o with
 | lst xs=>obtain⟨_,_,_,_,e⟩:=x;exact YaX e
 | tup xs=>obtain⟨_,_,_,p⟩:=x;exact p.lt
 | dK kvs=>obtain⟨_,_,_,_,o,_,_,e,_⟩:=x;exact YaX e
 | dT kvs=>obtain⟨_,_,_,_,o,_,_,e,_⟩:=x;exact YaX e
 | set S n=>obtain⟨o,_,_,_,e,_⟩:=x;exact YaX e
 | ins C dx fs=>obtain⟨_,_,_,e,_⟩:=x;exact YaX e
 | own y=>obtain⟨_,e⟩:=x;exact YaX e
 | xd fs=>obtain⟨_,⟨_,_,_,e,_⟩,_⟩:=x;exact YaX e
 | rng lo hi=>obtain⟨_,_,_,e⟩:=x;exact YaX e
 | frz ob u=>obtain⟨e,_⟩:=x;exact YaX e
 | tbl ps=>exact YaX (show h.get? a=some _ from x)
 | met f y=>exact YaX (show h.get? a=some _ from x)
 | ext φ=>obtain⟨_,⟨_,e⟩,_⟩:=x;exact YaX e
theorem Paired.mapP{α β : Type}{F G:α->β->Prop}:∀ {l₁ : List α} {l₂ : List β},Paired F l₁ l₂->(∀ a b,F a b->G a b)->Paired G l₁ l₂
 | _,_,.nil,_=>.nil
 | _,_,.cons r t,f=>.cons (f _ _ r) (Paired.mapP t f)
theorem zJ.stay(x:zJ P w H h a o)(k:∀ b u,(b=a\/H b=some (.own a))->h.get? b=some u->h'.get? b=some u)
 (ho:∀ b,H b=some (.own a)->H' b=some (.own a)) (ht:∀ b xs,H b=some (.tup xs)->H' b=some (.tup xs)):zJ P w H' h' a o:=by
 induction o with
 | lst xs=>obtain⟨z,its,n,r,e⟩:=x;exact⟨z,its,n,r,k _ _ (.inl rfl) e⟩
 | tup xs=>obtain⟨z,its,r,ob,e,c⟩:=x;exact⟨z,its,r,ob,k _ _ (.inl rfl) e,c⟩
 | dK kvs=>obtain⟨z,y,vs,r,ob,es,ep,e,c⟩:=x;exact⟨z,y,vs,r,ob,es,ep,k _ _ (.inl rfl) e,c⟩
 | dT kvs=>
  obtain⟨z,y,xs,r,ob,es,ep,e,c⟩:=x;exact⟨z,y,xs,Paired.mapP r fun p q z=>⟨z.1,ht _ _ z.2.1,z.2.2⟩,ob,es,ep,k _ _ (.inl rfl) e,c⟩
 | set S n=>obtain⟨ob,es,ep,t,e,c⟩:=x;exact⟨ob,es,ep,t,k _ _ (.inl rfl) e,c⟩
 | ins C dx fs=>
  obtain⟨d,z,ne,e,mA,⟨od,es,ep,e2,c⟩,r⟩:=x;exact⟨ho _ d,z,ne,k _ _ (.inl rfl) e,mA,⟨od,es,ep,k _ _ (.inr d) e2,c⟩,r⟩
 | own y=>obtain⟨ob,e⟩:=x;exact⟨ob,k _ _ (.inl rfl) e⟩
 | xd fs=>obtain⟨mA,⟨od,es,ep,e,c⟩,r⟩:=x;exact⟨mA,⟨od,es,ep,k _ _ (.inl rfl) e,c⟩,r⟩
 | rng lo hi=>obtain⟨t,u,v,e⟩:=x;exact⟨t,u,v,k _ _ (.inl rfl) e⟩
 | frz ob u ih=>obtain⟨e,q⟩:=x;exact⟨k _ _ (.inl rfl) e,ih q⟩
 | tbl ps=>
  have e:h.get? a=some { cls:=.none,data:=.fields ps }:=x;show h'.get? a=some { cls:=.none,data:=.fields ps };exact k a _ (.inl rfl) e
 | met f y=>
  have e:h.get? a=some (PySem.W.methodObj (.ref f) (.ref y)):=x;show h'.get? a=some (PySem.W.methodObj (.ref f) (.ref y));exact k a _ (.inl rfl) e
 | ext φ=>obtain⟨p,⟨o,e⟩,st⟩:=x;exact⟨st _ _ p fun o q=>k _ _ (.inl rfl) q,⟨o,k _ _ (.inl rfl) e⟩,st⟩
theorem HOk.lt(x:HOk P w H h)(e:H a=some o):a<h.objs.size:=(x a o e).lt
theorem HOk.fresh(x:HOk P w H h)(e:h.objs.size<=a):H a=none:=by
 cases q:H a with
 | none=>rfl
 | some u=>exact absurd (YaU (x.lt q) e) (Yap _)
theorem HOk.kept(x:HOk P w H h)(k:∀ b u,h.get? b=some u->h'.get? b=some u):HOk P w H h':=fun a o e=>
 (x a o e).stay (fun b u _ q=>k b u q) (fun _ q=>q) fun _ _ q=>q
theorem HOk.laid(x:HOk P w H h)(k:∀ b u,h.get? b=some u->h'.get? b=some u)(hp:h.objs.size<=a)(new:zJ P w (upd H a o) h' a o):HOk P w (upd H a o) h':=fun b u e=>by
 have hn:=x.fresh hp
 by_cases hb:b=a
 . subst hb;rw [zp] at e;cases e;exact new
 . rw [zh hb] at e
   exact(x b u e).stay (fun c v _ q=>k c v q) (fun c q=>by rw [zh (zP q hn)];exact q) fun c xs q=>by rw [zh (zP q hn)];exact q
end
def Rd(H:Hp)(a:Addr)(u:HO):Prop:=H a=some u\/∃ o,H a=some (.frz o u)
theorem Rd.of{H:Hp}{a:Addr}{u:HO}(h:H a=some u):Rd H a u:=.inl h
theorem Rd.ok{P:Program}{w:World}{H:Hp}{h:Heap}{a:Addr}{u:HO}(r:Rd H a u)(x:HOk P w H h):zJ P w H h a u:=by
 rcases r with r|⟨o,r⟩
 . exact x a u r
 . obtain⟨_,q⟩:=x a _ r
   exact q
def Mut:Option HO->Prop
 | some (.lst _)=>True
 | some (.dK _)=>True
 | some (.dT _)=>True
 | some (.set _ _)=>True
 | some (.ins _ _ _)=>True
 | some (.ext _)=>True
 | _=>False
section
variable{P:Program}{w:World}{H:Hp}{h h':Heap}{x e:Addr}{o':HO}
theorem HOk.write(ok:HOk P w H h)(mu:Mut (H x))(he:e=x\/H e=some (.own x))(k:∀ b u,b≠e->h.get? b=some u->h'.get? b=some u)(heo:∃ u,h'.get? e=some u)
 (new:zJ P w (upd H x o') h' x o'):HOk P w (upd H x o') h':=fun b u q=>by
 have nown:∀ c y,H c=some (.own y)->c≠x:=fun c y r z=>by subst z;rw [r] at mu;exact mu
 have ntup:∀ c xs,H c=some (.tup xs)->c≠x:=fun c xs r z=>by subst z;rw [r] at mu;exact mu
 by_cases hb:b=x
 . subst hb;rw [zp] at q;cases q;exact new
 . rw [zh hb] at q
   by_cases hbe:b=e
   . have q':H b=some (.own x):=by
      rcases he with z|z
      . exact absurd (hbe.trans z) hb
      . rw [hbe];exact z
     rw [q] at q';cases q';obtain⟨v,hv⟩:=heo;exact⟨v,by rw [hbe];exact hv⟩
   . refine(ok b u q).stay (fun c v hc r=>k c v ?_ r) (fun c r=>by rw [zh (nown c b r)];exact r) fun c xs r=>by rw [zh (ntup c xs r)];exact r
     rcases hc with rfl|hc
     . exact hbe
     . rintro rfl
       rcases he with z|z
       . exact nown c b hc z
       . rw [hc] at z;cases z;exact hb rfl
end
structure Un(fs ex:List Addr)(H H':Hp)(h h':Heap):Prop where
 keep:∀ b o,h.get? b=some o->H b=none->b∉fs->b∉ex->h'.get? b=some o
 slot:∀ b o,h.get? b=some o->H b=none->b∈fs->b∉ex->∃ sl,h'.get? b=some { o with slots:=sl }
 free:∀ b o,h.get? b=some o->H b=none->b∉ex->H' b=none
 there:∀ b o,h.get? b=some o->b∉ex->∃ o',h'.get? b=some o'
 tups:∀ b xs,H b=some (.tup xs)->H' b=some (.tup xs)
 frzs:∀ b o u,H b=some (.frz o u)->H' b=some (.frz o u)
 tbls:∀ b ps,H b=some (.tbl ps)->∃ more,H' b=some (.tbl (ps++more))
section
variable{fs fs' ex ex':List Addr}{H H1 H2:Hp}{h h1 h2 h':Heap}{a x e:Addr}{o:HO}
theorem Un.any(u:Un fs ex H H1 h h1){b:Addr}{ob:Obj}(q:h.get? b=some ob)(n:H b=none)(hx:b∉ex):∃ sl,h1.get? b=some { ob with slots:=sl }:=by
 by_cases hb:b∈fs
 . exact u.slot b ob q n hb hx
 . exact⟨ob.slots,u.keep b ob q n hb hx⟩
theorem Un.trans(a:Un fs ex H H1 h h1)(b:Un fs ex H1 H2 h1 h2):Un fs ex H H2 h h2 where
 keep:=fun c ob q n hc hx=>b.keep c ob (a.keep c ob q n hc hx) (a.free c ob q n hx) hc hx
 slot:=fun c ob q n hc hx=>by
  obtain⟨sl,e1⟩:=a.slot c ob q n hc hx;obtain⟨sl',e2⟩:=b.slot c _ e1 (a.free c ob q n hx) hc hx;exact⟨sl',e2⟩
 free:=fun c ob q n hx=>by
  obtain⟨o',e1⟩:=a.there c ob q hx;exact b.free c o' e1 (a.free c ob q n hx) hx
 there:=fun c ob q hx=>by
  obtain⟨o',e1⟩:=a.there c ob q hx;exact b.there c o' e1 hx
 tups:=fun c xs q=>b.tups c xs (a.tups c xs q)
 frzs:=fun c ob xs q=>b.frzs c ob xs (a.frzs c ob xs q)
 tbls:=fun c ps q=>by
  obtain⟨m1,e1⟩:=a.tbls c ps q;obtain⟨m2,e2⟩:=b.tbls c _ e1;exact⟨m1++m2,by rw [e2,Array.append_assoc]⟩
theorem Un.kept(k:∀ b u,h.get? b=some u->h'.get? b=some u):Un fs ex H H h h':=
 ⟨fun b ob q _ _ _=>k b ob q,fun b ob q _ _ _=>⟨ob.slots,k b ob q⟩,fun _ _ _ n _=>n,fun b ob q _=>⟨ob,k b ob q⟩,fun _ _ q=>q,fun _ _ _ q=>q,fun _ ps q=>⟨#[],by rw [q];simp⟩⟩
theorem Un.refl:Un fs ex H H h h:=Un.kept fun _ _ q=>q
theorem Un.laid(k:∀ b u,h.get? b=some u->h'.get? b=some u)(hp:h.objs.size<=a)(hn:H a=none):Un fs ex H (upd H a o) h h' where
 keep:=fun b u q _ _ _=>k b u q
 slot:=fun b u q _ _ _=>⟨u.slots,k b u q⟩
 free:=fun b u q n _=>by rw [zh (Yaf (YaU (YaX q) hp))];exact n
 there:=fun b u q _=>⟨u,k b u q⟩
 tups:=fun b xs q=>by rw [zh (zP q hn)];exact q
 frzs:=fun b u xs q=>by rw [zh (zP q hn)];exact q
 tbls:=fun b ps q=>⟨#[],by rw [zh (zP q hn),q];simp⟩
theorem Un.write(mu:Mut (H x))(he:e=x\/H e=some (.own x))(k:∀ b u,b≠e->h.get? b=some u->h'.get? b=some u)(heo:∃ u,h'.get? e=some u):Un fs ex H (upd H x o) h h':=by
 have hx:∀ b,H b=none->b≠x:=fun b n z=>by subst z;rw [n] at mu;exact mu
 have hb:∀ b,H b=none->b≠e:=fun b n z=>by
  subst z
  rcases he with r|r
  . exact hx b n r
  . rw [n] at r;cases r
 have hm:∀ b u,H b=some u->¬Mut (some u)->b≠x:=fun b u q nm z=>by subst z;rw [q] at mu;exact nm mu
 refine⟨fun b u q n _ _=>k b u (hb b n) q,fun b u q n _ _=>⟨u.slots,k b u (hb b n) q⟩,fun b u q n _=>by rw [zh (hx b n)];exact n,fun b u q _=>?_,
  fun b xs q=>by rw [zh (hm b _ q fun z=>z)];exact q,fun b u xs q=>by rw [zh (hm b _ q fun z=>z)];exact q,fun b ps q=>⟨#[],by rw [zh (hm b _ q fun z=>z),q];simp⟩⟩
 by_cases hbe:b=e
 . subst hbe;exact heo
 . exact⟨u,k b u hbe q⟩
theorem Un.mono(u:Un fs ex H H1 h h1)(hs:∀ b∈fs,b∈fs')(hx:∀ b∈ex,b∈ex'):Un fs' ex' H H1 h h1:=
 ⟨fun b ob q n hb he=>u.keep b ob q n (fun z=>hb (hs b z)) fun z=>he (hx b z),fun _ _ q n _ he=>u.any q n fun z=>he (hx _ z),fun b ob q n he=>u.free b ob q n fun z=>he (hx b z),fun b ob q he=>u.there b ob q fun z=>he (hx b z),u.tups,u.frzs,u.tbls⟩
end
def trk(h:Heap)(H:Hp):List Addr:=(List.range h.objs.size).filter fun a=>(H a).isSome
def hidT(h:Heap)(H:Hp):Heap:=PySem.W.hideAll h (trk h H)
theorem zkA(h:Heap)(H:Hp):(hidT h H).objs.size=h.objs.size:=PySem.W.hideAll_size _ _
theorem zhs{h:Heap}{H:Hp}{b:Addr}{o:Obj}(e:h.get? b=some o)(n:H b=none):(hidT h H).get? b=some o:=
 PySem.W.hideAll_get _ e fun hm=>by
  have q:(H b).isSome=true:=(List.mem_filter.mp hm).2;rw [n] at q;simp at q
theorem zkS{h:Heap}{H:Hp}{b:Addr}{o:Obj}(e:(hidT h H).get? b=some o):h.get? b=some o/\H b=none:=by
 have e':h.get? b=some o:=PySem.W.of_hideAll (trk h H) e;refine⟨e',?_⟩;cases q:H b with
 | none=>rfl
 | some x=>
  have hm:b∈trk h H:=List.mem_filter.mpr ⟨Yba.mpr (YaX e'),by simp [q]⟩
  have z:(hidT h H).get? b=none:=PySem.W.hideAll_none (trk h H) hm;rw [z] at e;cases e
def zhi(g h:Heap)(L:Addr):List (Addr×Obj):=(List.range h.objs.size).filterMap fun a=>if a=L\/(g.get? a).isSome=true then none else(h.get? a).map fun o=>(a,o)
def rest(g h:Heap)(L d:Addr):List (Addr×Obj):=(zhi g h L).filter fun p=>decide (p.1≠d)
structure Mod(K:Ybf)(mg:Str->Option Value)(base:Heap):Prop where
 kin:K.In base
 glob:base.Ns mainGlobals mg
 blt:∃ mb,base.Ns builtinsNs mb/\∀ x:Str,x≠"__name__"->mb x=bootBuiltins x
 nolimit:base.NoLimit
structure Cx where
 prog:Program
 w:World
 K:Ybf
 mg:Str->Option Value
 base:Heap
 A:Around
 N:List Str
 s₀ : Shared
 H₀ : Hp
 env:Env
 outer:List Env
 stack:List Env
 ex:List Addr
 fn:Str->Bool
 calm:Bool
 pn:List (Addr×Obj)
 xe:Value->Shared->Prop
def frs(l:List Env):List Addr:=l.filterMap (·.frame)
abbrev Cx.fs(X:Cx):List Addr:=frs X.outer
def Vis(sc:Scope)(x:Str):Prop:=sc.names.lookup x=some .local\/sc.names.lookup x=some .cell\/sc.names.lookup x=some .free
def Loc(sc:Scope)(x:Str):Prop:=sc.names.lookup x=some .local\/sc.names.lookup x=some .cell
def Look(env:Env)(h:Heap)(m:Str->Option Value)(x:Str)(u:Value):Prop:=
 (env.kindOf x=some .local/\m x=some u)\/((env.kindOf x=some .cell\/env.kindOf x=some .free)/\∃ c,env.cells.lookup x=some c/\h.IsCell c (some u))
structure Cx.Ok(X:Cx):Prop where
 mod:Mod X.K X.mg X.base
 kind:X.env.scope.kind=.function
 glob:X.env.globals=mainGlobals
 blt:X.env.builtins=builtinsNs
 above:X.s₀.heap.objs.size<=X.env.locals
 inj:∀ x y c,X.env.cells.lookup x=some c->X.env.cells.lookup y=some c->x=y
 has:∀ x,(X.env.kindOf x=some .cell\/X.env.kindOf x=some .free)->∃ c,X.env.cells.lookup x=some c
 cab:∀ x c,X.fn x=true->X.env.cells.lookup x=some c->X.s₀.heap.objs.size<=c
 hd:X.calm=true->X.A.handled=none
 frames:X.A.frames=some X.stack
 stk:X.stack=X.outer\/(X.stack=X.env::X.outer/\X.env.frame=some X.env.locals)
 exf:∀ b∈X.ex,b≠X.env.locals/\∀ x c,X.env.cells.lookup x=some c->c≠b
 bs:∀ b o,X.base.get? b=some o->X.s₀.heap.get? b=some o/\X.H₀ b=none
 bsz:X.base.objs.size<=X.s₀.heap.objs.size
 noex:∀ b o,X.base.get? b=some o->b∉X.ex
 exfs:∀ b∈X.ex,b∉X.fs
 funs:X.s₀.heap.FunFrames X.base X.outer
 frf:∀ b∈X.fs,X.H₀ b=none
structure Inv(X:Cx)(pins:List (Addr×Obj))(σ : List (Option V))(H:Hp)(s:Shared):Prop where
 ok:X.Ok
 os:s.os=X.s₀.os
 bare:AllBare s.gens
 base:Un X.fs X.ex X.H₀ H X.s₀.heap s.heap
 loc:∃ m,s.heap.Ns X.env.locals m/\∀ (i:Nat) (x:Str) (v:V),X.N[i]?=some x->σ[i]?=some (some v)->Vis X.env.scope x->∃ u,RelV v u/\Look X.env s.heap m x u
 cell:∀ x c,X.env.cells.lookup x=some c->∃ v,s.heap.IsCell c v
 free:H X.env.locals=none
 freeC:∀ x c,X.env.cells.lookup x=some c->H c=none
 pin:∀ p∈X.pn++pins,s.heap.get? p.1=some p.2/\H p.1=none/\p.1≠X.env.locals/\p.1∉X.fs/\∀ v,p.2.data≠.cell v
 hok:HOk X.prog X.w H s.heap
 len:σ.length=X.N.length
section
variable{X:Cx}{pins:List (Addr×Obj)}{σ : List (Option V)}{H H':Hp}{s:Shared}{h':Heap}
theorem Cx.Ok.nofr(ok:X.Ok){b:Addr}{o:Obj}(e:X.base.get? b=some o):b∉X.fs:=fun hb=>by
 have:=(ok.funs.mem hb).1;rw [e] at this;cases this
theorem Inv.bs(I:Inv X pins σ H s):∀ b o,X.base.get? b=some o->s.heap.get? b=some o/\H b=none:=fun b o e=>
 ⟨I.base.keep b o (I.ok.bs b o e).1 (I.ok.bs b o e).2 (I.ok.nofr e) (I.ok.noex b o e),I.base.free b o (I.ok.bs b o e).1 (I.ok.bs b o e).2 (I.ok.noex b o e)⟩
theorem Inv.bk(I:Inv X pins σ H s):∀ b o,X.base.get? b=some o->s.heap.get? b=some o:=fun b o e=>(I.bs b o e).1
theorem Inv.mod(I:Inv X pins σ H s):Mod X.K X.mg X.base:=I.ok.mod
theorem Inv.kIn(I:Inv X pins σ H s):X.K.In s.heap:=I.ok.mod.kin.keeps I.bk
theorem Inv.nolimit(I:Inv X pins σ H s):s.heap.NoLimit:=I.ok.mod.nolimit.keeps I.bk
theorem Inv.fr(I:Inv X pins σ H s):∃ m,Fr X.base X.env.locals s.heap m:=
 let ⟨m,hn,_⟩:=I.loc
 ⟨m,hn,I.bk,Ya5 I.ok.bsz I.ok.above⟩
theorem Inv.lt(I:Inv X pins σ H s):X.env.locals<s.heap.objs.size:=let ⟨_,hn,_⟩:=I.loc;hn.lt
theorem Inv.sz(I:Inv X pins σ H s):X.s₀.heap.objs.size<=s.heap.objs.size:=Ya5 I.ok.above (Nat.le_of_lt I.lt)
theorem Inv.nofs(I:Inv X pins σ H s){a:Addr}(h:s.heap.objs.size<=a):a∉X.fs:=fun hb=>by
 obtain⟨_,o,ho,_⟩:=I.ok.funs.mem hb;exact absurd (YaU (YaX ho) (Ya5 I.sz h)) (Yap _)
theorem Inv.cne(I:Inv X pins σ H s):∀ x c,X.env.cells.lookup x=some c->c≠X.env.locals:=fun x c e z=>by
 obtain⟨v,o,ho,hd⟩:=I.cell x c e;obtain⟨m,⟨o',es,ep,ho',hd',_⟩,_⟩:=I.loc;rw [z,ho'] at ho;cases ho;rw [hd'] at hd;cases hd
theorem Inv.funs(I:Inv X pins σ H s):s.heap.FunFrames X.base X.outer:=by
 have all:∀ (l:List Env),(∀ b∈frs l,b∈X.fs)->X.s₀.heap.FunFrames X.base l->s.heap.FunFrames X.base l:=by
  intro l
  induction l with
  | nil=>intro _ _;trivial
  | cons env r ih=>
   intro hs hl;obtain⟨hk,⟨L,o,hf,hn,ho,hd⟩,hr⟩:=hl;have hL:L∈X.fs:=hs L (by unfold frs;rw [List.filterMap_cons,hf];exact YaV)
   obtain⟨sl,e⟩:=I.base.slot L o ho (I.ok.frf L hL) hL fun z=>I.ok.exfs L z hL
   exact⟨hk,⟨L,_,hf,hn,e,hd⟩,ih (fun b hb=>hs b (by unfold frs;rw [List.filterMap_cons,hf];exact YaT _ hb)) hr⟩
 exact all X.outer (fun _ hb=>hb) I.ok.funs
theorem Inv.stack(I:Inv X pins σ H s):s.heap.FunFrames X.base X.stack:=by
 rcases I.ok.stk with e|⟨e,hf⟩
 . rw [e];exact I.funs
 . rw [e]
   obtain⟨m,hn,_⟩:=I.loc;refine .cons (by rw [I.ok.kind];decide) hf hn ?_ I.funs
   exact Heap.get?_none_of_le (Ya5 I.ok.bsz I.ok.above)
theorem Inv.stkSub(I:Inv X pins σ H s):∀ b∈frs X.stack,b∈X.env.locals::X.fs:=fun b hb=>by
 rcases I.ok.stk with e|⟨e,hf⟩
 . rw [e] at hb;exact YaT _ hb
 . rw [e] at hb
   unfold frs at hb;rw [List.filterMap_cons,hf] at hb;exact hb
theorem Inv.stkFree(I:Inv X pins σ H s):∀ b∈frs X.stack,H b=none:=fun b hb=>by
 rcases WaB.mp (I.stkSub b hb) with e|hb
 . rw [e];exact I.free
 . obtain⟨_,o,ho,_⟩:=I.ok.funs.mem hb
   exact I.base.free b o ho (I.ok.frf b hb) fun z=>I.ok.exfs b z hb
theorem Inv.step{g':Array GenState}{t':Nat}{d':Drawn}{ch:List Addr}(I:Inv X pins σ H s)
 (hch:∀ b∈ch,(b∈X.ex\/X.s₀.heap.objs.size<=b)/\b≠X.env.locals/\(∀ x c,X.env.cells.lookup x=some c->c≠b)/\∀ p∈X.pn++pins,p.1≠b)
 (keep:∀ b o,b≠X.env.locals->b∉X.fs->b∉ch->s.heap.get? b=some o->H b=none->h'.get? b=some o)
 (slot:∀ b o,b≠X.env.locals->b∈X.fs->b∉ch->s.heap.get? b=some o->H b=none->∃ sl,h'.get? b=some { o with slots:=sl }) (free:∀ b o,b∉ch->s.heap.get? b=some o->H b=none->H' b=none)
 (there:∀ b o,b∉ch->s.heap.get? b=some o->∃ o',h'.get? b=some o')
 (tups:∀ b xs,H b=some (.tup xs)->H' b=some (.tup xs)) (frzs:∀ b o u,H b=some (.frz o u)->H' b=some (.frz o u)) (tbls:∀ b ps,H b=some (.tbl ps)->∃ more,H' b=some (.tbl (ps++more)))
 (ns:∀ m,s.heap.Ns X.env.locals m->h'.Ns X.env.locals m) (hok:HOk X.prog X.w H' h') (hg:AllBare g') :
 Inv X pins σ H' { s with heap:=h',gens:=g',drawn:=d',toks:=t' }:=by
 have neL:∀ b o,X.s₀.heap.get? b=some o->b≠X.env.locals:=fun b o e=>Yaf (YaU (YaX e) I.ok.above)
 have neC:∀ b o,X.s₀.heap.get? b=some o->b∉X.ex->b∉ch:=fun b o e hx hb=>by
  rcases(hch b hb).1 with z|z
  . exact hx z
  . exact absurd (YaU (YaX e) z) (Yap _)
 have cellK:∀ x c,X.env.cells.lookup x=some c->∀ v,s.heap.IsCell c v->h'.IsCell c v:=fun x c e v ⟨o,ho,hd⟩=>by
  have nch:c∉ch:=fun z=>(hch c z).2.2.1 x c e rfl
  by_cases hc:c∈X.fs
  . obtain⟨sl,q⟩:=slot c o (I.cne x c e) hc nch ho (I.freeC x c e)
    exact⟨_,q,hd⟩
  . exact⟨o,keep c o (I.cne x c e) hc nch ho (I.freeC x c e),hd⟩
 refine⟨I.ok,I.os,hg,⟨fun b o e n hb hx=>?_,fun b o e n hb hx=>?_,fun b o e n hx=>?_,fun b o e hx=>?_,fun b xs e=>tups b xs (I.base.tups b xs e),fun b o xs e=>frzs b o xs (I.base.frzs b o xs e),fun b ps e=>?_⟩,?_,fun x c e=>?_,?_,fun x c e=>?_,fun p hp=>?_,hok,I.len⟩
 . exact keep b o (neL b o e) hb (neC b o e hx) (I.base.keep b o e n hb hx) (I.base.free b o e n hx)
 . obtain⟨sl,e1⟩:=I.base.slot b o e n hb hx
   obtain⟨sl',e2⟩:=slot b _ (neL b o e) hb (neC b o e hx) e1 (I.base.free b o e n hx);exact⟨sl',e2⟩
 . obtain⟨o',e1⟩:=I.base.there b o e hx
   exact free b o' (neC b o e hx) e1 (I.base.free b o e n hx)
 . obtain⟨o',e1⟩:=I.base.there b o e hx
   exact there b o' (neC b o e hx) e1
 . obtain⟨m1,e1⟩:=I.base.tbls b ps e
   obtain⟨m2,e2⟩:=tbls b _ e1;exact⟨m1++m2,by rw [e2,Array.append_assoc]⟩
 . obtain⟨m,hn,hl⟩:=I.loc
   refine⟨m,ns m hn,fun i x v e1 e2 e3=>?_⟩
   obtain⟨u,r,l⟩:=hl i x v e1 e2 e3;refine⟨u,r,?_⟩
   rcases l with l|⟨k,c,e,z⟩
   . exact .inl l
   . exact .inr ⟨k,c,e,cellK x c e _ z⟩
 . obtain⟨v,z⟩:=I.cell x c e
   exact⟨v,cellK x c e v z⟩
 . obtain⟨m,⟨o,_,_,ho,_⟩,_⟩:=I.loc
   exact free _ o (fun z=>(hch _ z).2.1 rfl) ho I.free
 . obtain⟨v,o,ho,hd⟩:=I.cell x c e
   exact free c o (fun z=>(hch c z).2.2.1 x c e rfl) ho (I.freeC x c e)
 . obtain⟨e,n,ne,nf,d⟩:=I.pin p hp
   have nch:p.1∉ch:=fun z=>(hch p.1 z).2.2.2 p hp rfl
   exact⟨keep p.1 p.2 ne nf nch e n,free p.1 p.2 nch e n,ne,nf,d⟩
theorem Inv.un{t':Nat}(I:Inv X pins σ H s)(u:Un X.fs [] H H' s.heap h')(hok:HOk X.prog X.w H' h'):Inv X pins σ H' { s with heap:=h',toks:=t' }:=by
 obtain⟨m,⟨o,es,ep,ho,r⟩,_⟩:=id I.loc;obtain⟨sl,hL⟩:=u.any ho I.free (by simp)
 exact I.step (g':=s.gens) (d':=s.drawn) (ch:=[]) (fun _ z=>nomatch z) (fun b o _ hb _ e n=>u.keep b o e n hb (by simp)) (fun b o _ hb _ e n=>u.slot b o e n hb (by simp)) (fun b o _ e n=>u.free b o e n (by simp)) (fun b o _ e=>u.there b o e (by simp)) u.tups u.frzs u.tbls (fun m' hm=>by
  obtain⟨o',es',ep',ho',r'⟩:=hm;rw [ho] at ho';cases ho';exact⟨_,es',ep',hL,r'⟩) hok I.bare
theorem Inv.call{g':Array GenState}{t':Nat}{d':Drawn}{ch:List Addr}(I:Inv X pins σ H s)(u:Un (frs X.stack) ch H H' s.heap h')(hok:HOk X.prog X.w H' h')(hg:AllBare g')
 (hch:∀ b∈ch,(b∈X.ex\/X.s₀.heap.objs.size<=b)/\b≠X.env.locals/\(∀ x c,X.env.cells.lookup x=some c->c≠b)/\∀ p∈X.pn++pins,p.1≠b) :
 Inv X pins σ H' { s with heap:=h',gens:=g',drawn:=d',toks:=t' }:=by
 obtain⟨m,⟨o,es,ep,ho,r⟩,_⟩:=id I.loc;obtain⟨sl,hL⟩:=u.any ho I.free fun z=>(hch _ z).2.1 rfl
 exact I.step (ch:=ch) hch (fun b o hL hb hc e n=>u.keep b o e n (fun z=>(WaB.mp (I.stkSub b z)).elim hL hb) hc) (fun b o _ _ hc e n=>u.any e n hc) (fun b o hc e n=>u.free b o e n hc) (fun b o hc e=>u.there b o e hc) u.tups u.frzs u.tbls (fun m' hm=>by
  obtain⟨o',es',ep',ho',r'⟩:=hm;rw [ho] at ho';cases ho';exact⟨_,es',ep',hL,r'⟩) hok hg
theorem Inv.turned{t':Nat}{it:Addr}(I:Inv X pins σ H s)(k:∀ b o,b≠it->s.heap.get? b=some o->h'.get? b=some o)(hn:H it=none)(hL:it≠X.env.locals)
 (h1:it∈X.ex\/X.s₀.heap.objs.size<=it) (h2:∀ x c,X.env.cells.lookup x=some c->c≠it) (h3:∀ p∈X.pn++pins,p.1≠it):Inv X pins σ H { s with heap:=h',toks:=t' }:=by
 have nit:∀ b u,H b=some u->b≠it:=fun b u e z=>by rw [z,hn] at e;cases e
 refine I.step (g':=s.gens) (d':=s.drawn) (ch:=[it]) (fun b hb=>?_) (fun b o _ _ hc e _=>k b o (fun z=>hc (by simp [z])) e) (fun b o _ _ hc e _=>⟨o.slots,k b o (fun z=>hc (by simp [z])) e⟩) (fun _ _ _ _ n=>n)
  (fun b o hc e=>⟨o,k b o (fun z=>hc (by simp [z])) e⟩) (fun _ _ e=>e) (fun _ _ _ e=>e) (fun b ps e=>⟨#[],by rw [e];simp⟩) (fun m hm=>?_) (fun b u e=>?_) I.bare
 . have e:b=it:=by simpa using hb
   subst e;exact⟨h1,hL,h2,h3⟩
 . obtain⟨o,es,ep,ho,r⟩:=hm
   exact⟨o,es,ep,k _ o (WaL hL) ho,r⟩
 . refine(I.hok b u e).stay (fun c v hc q=>k c v ?_ q) (fun _ q=>q) fun _ _ q=>q
   rcases hc with z|z
   . rw [z];exact nit b u e
   . exact nit c _ z
theorem Inv.tok(I:Inv X pins σ H s)(t:Nat):Inv X pins σ H { s with toks:=t }:=I.un (h':=s.heap) (t':=t) Un.refl I.hok
theorem Inv.kept{t':Nat}(I:Inv X pins σ H s)(k:∀ b u,s.heap.get? b=some u->h'.get? b=some u):Inv X pins σ H { s with heap:=h',toks:=t' }:=I.un (Un.kept k) (I.hok.kept k)
theorem Inv.laid{a:Addr}{o:HO}{t':Nat}(I:Inv X pins σ H s)(k:∀ b u,s.heap.get? b=some u->h'.get? b=some u)(hp:s.heap.objs.size<=a)(new:zJ X.prog X.w (upd H a o) h' a o) :
 Inv X pins σ (upd H a o) { s with heap:=h',toks:=t' }:=I.un (Un.laid k hp (I.hok.fresh hp)) (I.hok.laid k hp new)
theorem Inv.write{x e:Addr}{o:HO}{t':Nat}(I:Inv X pins σ H s)(mu:Mut (H x))(he:e=x\/H e=some (.own x))(k:∀ b u,b≠e->s.heap.get? b=some u->h'.get? b=some u)(heo:∃ u,h'.get? e=some u)
 (new:zJ X.prog X.w (upd H x o) h' x o):Inv X pins σ (upd H x o) { s with heap:=h',toks:=t' }:=I.un (Un.write mu he k heo) (I.hok.write mu he k heo new)
theorem Inv.pins_of{pins':List (Addr×Obj)}(I:Inv X pins σ H s)(h:∀ p∈pins',s.heap.get? p.1=some p.2/\H p.1=none/\p.1≠X.env.locals/\p.1∉X.fs/\∀ v,p.2.data≠.cell v):Inv X pins' σ H s:=
 ⟨I.ok,I.os,I.bare,I.base,I.loc,I.cell,I.free,I.freeC,fun p hp=>(Ya3.mp hp).elim (fun z=>I.pin p (Yai _ z)) (h p),I.hok,I.len⟩
theorem za7{N:List Str}(hN:N.Nodup){i j:Nat}{x:Str}(a:N[i]?=some x)(b:N[j]?=some x):i=j:=by
 obtain⟨h1,e1⟩:=Ya8.mp a;obtain⟨h2,e2⟩:=Ya8.mp b;exact(List.getElem_inj hN).mp (e1.trans e2.symm)
theorem zcE{M:Model}{A:Around}{E:Value->Shared->Prop}{i:Nat}{x:Str}{v:V}{u:Value}{Q:Unit->Shared->Prop}(I:Inv X pins σ H s)(hN:X.N.Nodup)(hi:X.N[i]?=some x)(hx:Loc X.env.scope x)(r:RelV v u)
 (h:∀ s',Inv X pins (σ.set i (some v)) H s'->(∃ a,Heap.SameBut a s.heap s'.heap/\(a=X.env.locals\/X.env.cells.lookup x=some a))->Q () s') (hf:X.fn x=true\/X.env.scope.names.lookup x=some .local:=by first|exact .inl rfl|exact .inr rfl|assumption):wpAny M A (storeName X.env x u) Q E s:=by
 obtain⟨m,hn,hl⟩:=id I.loc;have hcls:(X.env.scope.kind==.class||(X.env.scope.kind==.module&&X.env.locals != X.env.globals))=false:=by rw [I.ok.kind];rfl
 have hiσ : i < σ.length:=by rw [I.len];exact(Ya8.mp hi).1
 have cne:=I.cne;have tracked:∀ {a:Addr} {h':Heap},(∃ o,s.heap.get? a=some o/\H a=none)->Heap.SameBut a s.heap h'->HOk X.prog X.w H h':=fun {a h'} ha hs b ob e=>by
  obtain⟨_,_,hfree⟩:=ha;refine(I.hok b ob e).stay (fun c w' hc q=>(hs.2 c ?_).trans q) (fun _ q=>q) fun _ _ q=>q
  rintro rfl
  rcases hc with rfl|hc
  . rw [hfree] at e;cases e
  . rw [hfree] at hc;cases hc
 rcases hx with hk|hk
 . refine wpAny_storeName_local hk hn (fun h' hn' hs=>?_) hcls
   obtain⟨oL,_,_,hoL,_⟩:=id hn;refine h _ ⟨I.ok,I.os,I.bare,⟨fun b o e n hb hx=>?_,fun b o e n hb hx=>?_,I.base.free,fun b o e hx=>?_,I.base.tups,I.base.frzs,I.base.tbls⟩,⟨_,hn',fun j y v' e1 e2 e3=>?_⟩,fun y c e=>?_,I.free,I.freeC,fun p hp=>?_,tracked ⟨oL,hoL,I.free⟩ hs,by simpa using I.len⟩ ⟨_,hs,.inl rfl⟩
   . exact(hs.2 b (Yaf (YaU (YaX e) I.ok.above))).trans (I.base.keep b o e n hb hx)
   . obtain⟨sl,e1⟩:=I.base.slot b o e n hb hx
     exact⟨sl,(hs.2 b (Yaf (YaU (YaX e) I.ok.above))).trans e1⟩
   . obtain⟨o',e1⟩:=I.base.there b o e hx
     exact⟨o',(hs.2 b (Yaf (YaU (YaX e) I.ok.above))).trans e1⟩
   . by_cases hj:j=i
     . subst hj
       rw [hi] at e1;cases e1;rw [Yas hiσ] at e2;cases e2;exact⟨u,r,.inl ⟨hk,by simp⟩⟩
     . rw [Yac (WaL hj)] at e2
       obtain⟨u',r',q⟩:=hl j y v' e1 e2 e3;refine⟨u',r',?_⟩
       rcases q with ⟨k,e⟩|⟨k,c,e,z⟩
       . refine .inl ⟨k,?_⟩
         have:y≠x:=fun e=>hj (za7 hN e1 (e ▸ hi))
         simp [this,e]
       . exact .inr ⟨k,c,e,z.sameBut hs (cne y c e)⟩
   . obtain⟨w',z⟩:=I.cell y c e
     exact⟨w',z.sameBut hs (cne y c e)⟩
   . obtain⟨e,n,ne,nf,d⟩:=I.pin p hp
     exact⟨(hs.2 p.1 ne).trans e,n,ne,nf,d⟩
 . have hfn:X.fn x=true:=by
    rcases hf with z|z
    . exact z
    . rw [z] at hk;cases hk
   obtain⟨c,hc⟩:=I.ok.has x (.inl hk);obtain⟨w',z⟩:=I.cell x c hc;refine wpAny_storeName_cell I.ok.kind hk hc z (fun h' hc' hs=>?_)
   obtain⟨oc,hoc,hocd⟩:=id z;refine h { s with heap:=h' } ⟨I.ok,I.os,I.bare,⟨fun b o e n hb hx=>?_,fun b o e n hb hx=>?_,I.base.free,fun b o e hx=>?_,I.base.tups,I.base.frzs,I.base.tbls⟩,⟨m,hn.sameBut hs (WaL (cne x c hc)),fun j y v' e1 e2 e3=>?_⟩,fun y c' e=>?_,I.free,I.freeC,fun p hp=>?_,tracked ⟨oc,hoc,I.freeC x c hc⟩ hs,by simpa using I.len⟩ ⟨c,hs,.inr hc⟩
   . exact(hs.2 b (Yaf (YaU (YaX e) (I.ok.cab x c hfn hc)))).trans (I.base.keep b o e n hb hx)
   . obtain⟨sl,e1⟩:=I.base.slot b o e n hb hx
     exact⟨sl,(hs.2 b (Yaf (YaU (YaX e) (I.ok.cab x c hfn hc)))).trans e1⟩
   . obtain⟨o',e1⟩:=I.base.there b o e hx
     exact⟨o',(hs.2 b (Yaf (YaU (YaX e) (I.ok.cab x c hfn hc)))).trans e1⟩
   . by_cases hj:j=i
     . subst hj
       rw [hi] at e1;cases e1;rw [Yas hiσ] at e2;cases e2;exact⟨u,r,.inr ⟨.inl hk,c,hc,hc'⟩⟩
     . rw [Yac (WaL hj)] at e2
       obtain⟨u',r',q⟩:=hl j y v' e1 e2 e3;refine⟨u',r',?_⟩
       rcases q with q|⟨k,c',e,z'⟩
       . exact .inl q
       . refine .inr ⟨k,c',e,z'.sameBut hs ?_⟩
         rintro rfl
         exact hj (za7 hN e1 (I.ok.inj _ _ _ e hc ▸ hi))
   . by_cases hcc:c'=c
     . subst hcc;exact⟨_,hc'⟩
     . obtain⟨w2,z2⟩:=I.cell y c' e
       exact⟨w2,z2.sameBut hs hcc⟩
   . obtain⟨e,n,ne,nf,d⟩:=I.pin p hp
     refine⟨(hs.2 p.1 ?_).trans e,n,ne,nf,d⟩
     intro q;rw [q,hoc] at e;have q':oc=p.2:=Waz e;exact d w' (by rw [<-q'];exact hocd)
theorem J2{M:Model}{A:Around}{E:Value->Shared->Prop}{i:Nat}{x:Str}{v:V}{u:Value}{Q:Unit->Shared->Prop}(I:Inv X pins σ H s)(hN:X.N.Nodup)(hi:X.N[i]?=some x)(hx:Loc X.env.scope x)(r:RelV v u)
 (h:∀ s',Inv X pins (σ.set i (some v)) H s'->Q () s') (hf:X.fn x=true\/X.env.scope.names.lookup x=some .local:=by first|exact .inl rfl|exact .inr rfl|assumption):wpAny M A (storeName X.env x u) Q E s:=
 zcE I hN hi hx r (fun s' I' _=>h s' I') hf
theorem Inv.call'{s':Shared}{ch:List Addr}(I:Inv X pins σ H s)(ho:s'.os=s.os)(u:Un (frs X.stack) ch H H' s.heap s'.heap)(hok:HOk X.prog X.w H' s'.heap)(hg:AllBare s'.gens)
 (hch:∀ b∈ch,(b∈X.ex\/X.s₀.heap.objs.size<=b)/\b≠X.env.locals/\(∀ x c,X.env.cells.lookup x=some c->c≠b)/\∀ p∈X.pn++pins,p.1≠b):Inv X pins σ H' s':=by
 obtain⟨h',g',d',t',o'⟩:=s';have e:o'=s.os:=ho;subst e;exact I.call (g':=g') (t':=t') (d':=d') u hok hg hch
end
abbrev XK:=Value->Option Addr->Hp->Prop
abbrev St:=List (Option V)
abbrev VK:=V->Hp->Prop
abbrev TE:=St->Hp->VK->Prop
abbrev TT:=St->Hp->(Bool->Hp->Prop)->Prop
abbrev TA:=St->Hp->(List V->Hp->Prop)->Prop
structure Ends where
 nx:St->Hp->Prop
 rt:VK
 bk:St->Hp->Prop:=fun _ _=>False
 ct:St->Hp->Prop:=fun _ _=>False
abbrev TS:=Ends->St->Hp->Prop
def EP(X:Cx)(pins:List (Addr×Obj))(σ : St)(Q:VK)(u:Value)(s':Shared):Prop:=∃ v H',Inv X pins σ H' s'/\RelV v u/\Q v H'
def TP(X:Cx)(pins:List (Addr×Obj))(σ : St)(Q:Bool->Hp->Prop)(b:Bool)(s':Shared):Prop:=∃ H',Inv X pins σ H' s'/\Q b H'
def AP(X:Cx)(pins:List (Addr×Obj))(σ : St)(Q:List V->Hp->Prop)(us:List Value)(s':Shared):Prop:=∃ vs H',Inv X pins σ H' s'/\Vals vs us/\Q vs H'
def SP(X:Cx)(pins:List (Addr×Obj))(D:Ends)(f:Flow)(s':Shared):Prop:=
 match f with
 | .next=>∃ σ' H',Inv X pins σ' H' s'/\D.nx σ' H'
 | .brk=>∃ σ' H',Inv X pins σ' H' s'/\D.bk σ' H'
 | .cont=>∃ σ' H',Inv X pins σ' H' s'/\D.ct σ' H'
 | .ret u=>∃ v σ' H',Inv X pins σ' H' s'/\RelV v u/\D.rt v H'
def PE(X:Cx)(e:Expr)(t:TE):Prop:=
 ∀ (pins:List (Addr×Obj)) (s:Shared) (σ : St) (H:Hp) (Q:VK),Inv X pins σ H s->t σ H Q->wpAny (model X.prog X.w) X.A (eval e X.env) (EP X pins σ Q) X.xe s
def PT(X:Cx)(e:Expr)(t:TT):Prop:=
 ∀ (pins:List (Addr×Obj)) (s:Shared) (σ : St) (H:Hp) (Q:Bool->Hp->Prop),Inv X pins σ H s->t σ H Q->wpAny (model X.prog X.w) X.A (isTrue e X.env (eval e X.env)) (TP X pins σ Q) X.xe s
def PW(X:Cx)(e:Expr)(t:TT):Prop:=
 ∀ (whole:Sem Value) (pins:List (Addr×Obj)) (s:Shared) (σ : St) (H:Hp) (Q:Bool->Hp->Prop),Inv X pins σ H s->t σ H Q->wpAny (model X.prog X.w) X.A (isTrue e X.env whole) (TP X pins σ Q) X.xe s
theorem PW.pt{X:Cx}{e:Expr}{t:TT}(h:PW X e t):PT X e t:=h _
def PA(X:Cx)(es:List Expr)(t:TA):Prop:=
 ∀ (pos:Pos) (pins:List (Addr×Obj)) (s:Shared) (σ : St) (H:Hp) (Q:List V->Hp->Prop),Inv X pins σ H s->t σ H Q->wpAny (model X.prog X.w) X.A (spliced (backTo pos (starEach es X.env))) (AP X pins σ Q) X.xe s
def PS(X:Cx)(st:Stmt)(t:TS):Prop:=
 ∀ (pins:List (Addr×Obj)) (s:Shared) (σ : St) (H:Hp) (D:Ends),Inv X pins σ H s->t D σ H->wpAny (model X.prog X.w) X.A (exec st X.env) (SP X pins D) X.xe s
def PSs(X:Cx)(st:List Stmt)(t:TS):Prop:=
 ∀ (pins:List (Addr×Obj)) (s:Shared) (σ : St) (H:Hp) (D:Ends),Inv X pins σ H s->t D σ H->wpAny (model X.prog X.w) X.A (execs st X.env) (SP X pins D) X.xe s
theorem thn{α : Type}{t:Sem α}{Q Q':α->Shared->Prop}{M:Model}{A:Around}{E:Value->Shared->Prop}{s:Shared}(h:wpAny M A t Q E s)(hQ:∀ a s,Q a s->Q' a s):wpAny M A t Q' E s:=wpAny_mono h hQ fun _ _ x=>x
section
variable{X:Cx}
def tVar(i:Nat):TE:=fun σ H Q=>∃ v,σ[i]?=some (some v)/\Q v H
def tC(v:V):TE:=fun _ H Q=>Q v H
theorem jn{i:Nat}{x:Str}{pos:Pos}(hN:X.N[i]?=some x)(hv:Vis X.env.scope x)(hd:(x==("__debug__" : Str))=false:=by decide)(hcd:(x==("__classdict__" : Str))=false:=by decide):PE X (.Name x pos) (tVar i):=by
 intro pins s σ H Q I h;obtain⟨v,e,h⟩:=h;obtain⟨m,hn,hl⟩:=I.loc;obtain⟨u,r,l⟩:=hl i x v hN e hv;have fin:EP X pins σ Q u s:=⟨v,H,I,r,h⟩
 rcases l with ⟨hk,hm⟩|⟨hk,c,hc,hcell⟩
 . exact wpAny_Name (wpAny_loadName_local I.ok.kind hk hn hm fin) hd
 . rcases hk with hk|hk
   . exact wpAny_Name (wpAny_loadName_cell I.ok.kind hk hc hcell fin) hd
   . exact wpAny_Name (wpAny_loadName_free I.ok.kind hk hc hcell fin hcd) hd
theorem zhq{i j pos}:PE X (.Constant (.int i) j pos) (tC (.int i)):=fun _ _ _ H _ I h=>wpAny_Constant_int ⟨.int i,H,I.tok _,⟨_,rfl⟩,h⟩
theorem zeo{b j pos}:PE X (.Constant (.bool b) j pos) (tC (.bl b)):=fun _ _ _ H _ I h=>Constant_bool ⟨.bl b,H,I,rfl,h⟩
theorem zeW{j pos}:PE X (.Constant .none j pos) (tC .non):=fun _ _ _ H _ I h=>Constant_none ⟨.non,H,I,rfl,h⟩
theorem zf8{x j pos}:PE X (.Constant (.str x) j pos) (tC (.str x)):=fun _ _ _ H _ I h=>Calls.Constant_str ⟨.str x,H,I.tok _,⟨_,rfl⟩,h⟩
def Gl(X:Cx)(x:Str):Prop:=X.env.kindOf x=some .globalImplicit
theorem zac{E:Value->Shared->Prop}{pins:List (Addr×Obj)}{s:Shared}{σ : St}{H:Hp}{x:Str}{u:Value}{pos:Pos}{Q:Value->Shared->Prop}(I:Inv X pins σ H s)(hg:Gl X x)(hm:X.mg x=some u)(h:Q u s)
 (hd:(x==("__debug__" : Str))=false:=by decide):wpAny (model X.prog X.w) X.A (eval (.Name x pos) X.env) Q E s:=
 Calls.Name_function_global I.ok.kind hg (Calls.loadGlobal_global (by rw [I.ok.glob];exact I.mod.glob.keeps I.bk) hm h) hd
theorem j8{E:Value->Shared->Prop}{pins:List (Addr×Obj)}{s:Shared}{σ : St}{H:Hp}{x:Str}{u:Value}{pos:Pos}{Q:Value->Shared->Prop}(I:Inv X pins σ H s)(hg:Gl X x)(hm:X.mg x=none)(hv:bootBuiltins x=some u)(h:Q u s)
 (hn:x≠"__name__":=by decide) (hd:(x==("__debug__" : Str))=false:=by decide):wpAny (model X.prog X.w) X.A (eval (.Name x pos) X.env) Q E s:=by
 obtain⟨mb,h1,h2⟩:=I.mod.blt;exact Calls.Name_function_global I.ok.kind hg (Calls.loadGlobal_builtin (by rw [I.ok.glob];exact I.mod.glob.keeps I.bk) hm (by rw [I.ok.blt];exact h1.keeps I.bk) ((h2 x hn).trans hv) h) hd
theorem zaA{x:Str}{v:V}{u:Value}{pos:Pos}(hg:Gl X x)(hm:X.mg x=some u)(r:RelV v u)(hd:(x==("__debug__" : Str))=false:=by decide):PE X (.Name x pos) (tC v):=
 fun _ _ _ H _ I h=>zac I hg hm ⟨v,H,I,r,h⟩ hd
theorem zg4{x:Str}{v:V}{u:Value}{pos:Pos}(hg:Gl X x)(hm:X.mg x=none)(hv:bootBuiltins x=some u)(r:RelV v u)(hn:x≠"__name__":=by decide)(hd:(x==("__debug__" : Str))=false:=by decide):PE X (.Name x pos) (tC v):=
 fun _ _ _ H _ I h=>j8 I hg hm hv ⟨v,H,I,r,h⟩ hn hd
variable{a b:Expr}{ta tb:TE}{pos:Pos}
def PC(X:Cx)(op:CmpOp)(a b:Expr)(t:TE):Prop:=
 ∀ (pins:List (Addr×Obj)) (s:Shared) (σ : St) (H:Hp) (Q:VK),Inv X pins σ H s->t σ H Q->
  wpAny (model X.prog X.w) X.A (eval a X.env) (fun v s₁=>wpAny (model X.prog X.w) X.A (eval b X.env) (fun u s₂=>wpAny (model X.prog X.w) X.A (compareOp op v u) (EP X pins σ Q) X.xe s₂) X.xe s₁) X.xe s
theorem nobehind(b:Expr){op:CmpOp}(h:op≠.In)(h2:op≠.NotIn):behindInMarks op b=false:=by
 have e1:(op==CmpOp.In)=false:=by cases op<;>first|rfl|exact absurd rfl h
 have e2:(op==CmpOp.NotIn)=false:=by cases op<;>first|rfl|exact absurd rfl h2
 cases b<;>simp [behindInMarks,e1,e2]
def tB(t:TE):TT:=fun σ H Q=>t σ H fun x H1=>∃ c,x=.bl c/\Q c H1
theorem zkm{op:CmpOp}{t:TE}(h:PC X op a b t)(h1:behindInMarks op b=false:=by first|exact nobehind _ #[1] (by decide)|rfl):PE X (.Compare a [op] [b] pos) t:=fun pins s σ H Q I hw=>wpAny_Compare1 (h pins s σ H Q I hw) h1
theorem zf9{op:CmpOp}{t:TE}(h:PC X op a b t)(h1:behindInMarks op b=false:=by first|exact nobehind _ #[1] (by decide)|rfl):PT X (.Compare a [op] [b] pos) (tB t):=by
 intro pins s σ H Q I hw;refine wpAny_isTrue_Compare1 (thn (h pins s σ H _ I hw) fun v s1 h1=>thn h1 fun u s2 h2=>thn h2 fun c s3 ⟨x,H1,I1,r1,q1⟩=>?_) h1
 obtain⟨d,rfl,q⟩:=q1;cases r1;exact wpAny_truthy_bool ⟨H1,I1,q⟩
theorem zhS{e:Expr}{t:TE}(h:PE X e t)(he:∀ whole,isTrue e X.env whole=(do let v <-whole;standAt e.pos;holding [v] (truthy v)):=by intro _;rfl):PT X e (tB t):=by
 intro pins s σ H Q I hw;refine isTrue_plain (thn (h pins s σ H _ I hw) fun v s1 ⟨x,H1,I1,r1,q1⟩=>?_) (he _)
 obtain⟨d,rfl,q⟩:=q1;cases r1;exact wpAny_truthy_bool ⟨H1,I1,q⟩
variable{tA tB':TT}{rest:List Expr}
def tAnd(t u:TT):TT:=fun σ H Q=>t σ H fun c H1=>if c=true then u σ H1 Q else Q false H1
def tOr(t u:TT):TT:=fun σ H Q=>t σ H fun c H1=>if c=true then Q true H1 else u σ H1 Q
def tNot(t:TT):TT:=fun σ H Q=>t σ H fun c H1=>Q (!c) H1
theorem zhe(ha:PT X a tA):PW X (.BoolOp .And [a] pos) tA:=by
 intro wh pins s σ H Q I h;refine isTrue_and (thn (ha pins s σ H Q I h) fun c s1 e=>?_)
 cases c with
 | true=>exact isTrue_and_nil e
 | false=>exact e
theorem zik(ha:PT X a tA):PW X (.BoolOp .Or [a] pos) tA:=by
 intro wh pins s σ H Q I h;refine isTrue_or (thn (ha pins s σ H Q I h) fun c s1 e=>?_)
 cases c with
 | false=>exact isTrue_or_nil e
 | true=>exact e
theorem zdW(ha:PT X a tA)(hb:PW X (.BoolOp .And (b::rest) pos) tB'):PW X (.BoolOp .And (a::b::rest) pos) (tAnd tA tB'):=by
 intro wh pins s σ H Q I h;refine isTrue_and (thn (ha pins s σ H _ I h) fun c s1 ⟨H1,I1,q1⟩=>?_)
 cases c with
 | true=>exact hb wh pins s1 σ H1 Q I1 q1
 | false=>exact⟨H1,I1,q1⟩
theorem zfB(ha:PT X a tA)(hb:PW X (.BoolOp .Or (b::rest) pos) tB'):PW X (.BoolOp .Or (a::b::rest) pos) (tOr tA tB'):=by
 intro wh pins s σ H Q I h;refine isTrue_or (thn (ha pins s σ H _ I h) fun c s1 ⟨H1,I1,q1⟩=>?_)
 cases c with
 | true=>exact⟨H1,I1,q1⟩
 | false=>exact hb wh pins s1 σ H1 Q I1 q1
theorem zeQ(ha:PT X a tA):PT X (.UnaryOp .Not a pos) (tNot tA):=by
 intro pins s σ H Q I h;exact isTrue_not (ha pins s σ H (fun c H1=>Q (!c) H1) I h)
def zfW(ta tb:TE):TE:=fun σ H Q=>ta σ H fun x H1=>∃ c,x=.bl c/\if c=true then tb σ H1 Q else Q (.bl false) H1
def tOrV(ta tb:TE):TE:=fun σ H Q=>ta σ H fun x H1=>∃ c,x=.bl c/\if c=true then Q (.bl true) H1 else tb σ H1 Q
theorem zgO{op}{t:TE}(h:PE X a t):PE X (.BoolOp op [a] pos) t:=fun pins s σ H Q I hw=>BoolOp_one (h pins s σ H Q I hw)
theorem zjy(ha:PE X a ta)(hb:PE X (.BoolOp .And (b::rest) pos) tb):PE X (.BoolOp .And (a::b::rest) pos) (zfW ta tb):=by
 intro pins s σ H Q I h;refine BoolOp_and (thn (ha pins s σ H _ I h) fun v s1 ⟨x,H1,I1,r1,q1⟩=>?_)
 obtain⟨c,rfl,q1⟩:=q1;cases r1;refine wpAny_truthy_bool ?_;cases c with
 | true=>exact hb pins s1 σ H1 Q I1 q1
 | false=>exact⟨.bl false,H1,I1,rfl,q1⟩
theorem zjZ(ha:PE X a ta)(hb:PE X (.BoolOp .Or (b::rest) pos) tb):PE X (.BoolOp .Or (a::b::rest) pos) (tOrV ta tb):=by
 intro pins s σ H Q I h;refine BoolOp_or (thn (ha pins s σ H _ I h) fun v s1 ⟨x,H1,I1,r1,q1⟩=>?_)
 obtain⟨c,rfl,q1⟩:=q1;cases r1;refine wpAny_truthy_bool ?_;cases c with
 | false=>exact hb pins s1 σ H1 Q I1 q1
 | true=>exact⟨.bl true,H1,I1,rfl,q1⟩
end
def SqL(K:Ybf)(H:Hp)(a:Addr)(xs:List V):Prop:=
 Rd H a (.lst xs)\/
  ∃ (o:Obj) (its:Array Value) (n:Nat),K.lookup a=some o/\o.cls=.type "list"/\o.dict=none/\o.data=.seq its n/\its.size<=sizeLine/\Vals xs its.toList
def SqT(K:Ybf)(H:Hp)(a:Addr)(xs:List V):Prop:=
 Rd H a (.tup xs)\/
  ∃ (o:Obj) (its:Array Value) (n:Nat),K.lookup a=some o/\o.cls=.type "tuple"/\o.data=.seq its n/\its.size<=sizeLine/\Vals xs its.toList
def absV:Value->Option V
 | .none=>some .non
 | .bool b=>some (.bl b)
 | .int i _=>some (.int i)
 | .str x _=>some (.str x)
 | .bytes b _=>some (.byt b)
 | .float b _=>some (.flt b)
 | .ref a=>some (.ref a)
 | .type n=>some (.ty n)
 | _=>none
theorem RelV.abs{x:V}{u:Value}(r:RelV x u):absV u=some x:=by
 cases x with
 | non=>cases r;rfl
 | bl _=>cases r;rfl
 | int _=>obtain⟨t,rfl⟩:=r;rfl
 | str _=>obtain⟨t,rfl⟩:=r;rfl
 | byt _=>obtain⟨t,rfl⟩:=r;rfl
 | flt _=>obtain⟨t,rfl⟩:=r;rfl
 | ref _=>cases r;rfl
 | ty _=>cases r;rfl
theorem RelV.inj{x y:V}{u:Value}(r:RelV x u)(q:RelV y u):x=y:=Waz (r.abs.symm.trans q.abs)
theorem Vals.inj:∀ {xs ys:List V} {us:List Value},Vals xs us->Vals ys us->xs=ys
 | _,_,_,.nil,.nil=>rfl
 | _,_,_,.cons r t,.cons r' t'=>by rw [r.inj r',Vals.inj t t']
section
variable{X:Cx}{pins:List (Addr×Obj)}{σ : St}{H:Hp}{s:Shared}{a:Addr}{xs ys:List V}
theorem SqL.of{K:Ybf}(h:H a=some (.lst xs)):SqL K H a xs:=.inl (.inl h)
theorem SqT.of{K:Ybf}(h:H a=some (.tup xs)):SqT K H a xs:=.inl (.inl h)
theorem Inv.list(I:Inv X pins σ H s)(h:SqL X.K H a xs):∃ its:List Value,Vals xs its/\PlainL s.heap a its.toArray/\xs.length<=sizeLine:=by
 rcases h with h|⟨o,its,n,hk,hc,hd,hs,hz,r⟩
 . obtain⟨z,its,n,r,e⟩:=h.ok I.hok
   exact⟨its,r,⟨_,n,e,rfl,rfl,rfl⟩,z⟩
 . refine⟨its.toList,r,⟨o,n,I.kIn a o hk,hc,hd,by simpa using hs⟩,?_⟩
   have e:=r.length;simp only [Array.length_toList] at e
   omega
theorem Inv.tuple(I:Inv X pins σ H s)(h:SqT X.K H a xs):∃ its:List Value,Vals xs its/\IsTup s.heap a its.toArray/\xs.length<=sizeLine:=by
 rcases h with h|⟨o,its,n,hk,hc,hs,hz,r⟩
 . obtain⟨z,its,r,p⟩:=h.ok I.hok
   exact⟨its,r,p,z⟩
 . refine⟨its.toList,r,⟨o,I.kIn a o hk,hc,n,by simpa using hs⟩,?_⟩
   have e:=r.length;simp only [Array.length_toList] at e
   omega
theorem Inv.list_inj(I:Inv X pins σ H s)(h:SqL X.K H a xs)(h':SqL X.K H a ys):xs=ys:=by
 obtain⟨its,r,⟨o,n,e,_,_,d⟩,_⟩:=I.list h;obtain⟨its',r',⟨o',n',e',_,_,d'⟩,_⟩:=I.list h';rw [e] at e';cases e';rw [d] at d'
 injection d' with d1 _
 have:its=its':=by simpa using congrArg Array.toList d1
 subst this;exact r.inj r'
theorem Inv.tuple_inj(I:Inv X pins σ H s)(h:SqT X.K H a xs)(h':SqT X.K H a ys):xs=ys:=by
 obtain⟨its,r,⟨o,e,_,n,d⟩,_⟩:=I.tuple h;obtain⟨its',r',⟨o',e',_,n',d'⟩,_⟩:=I.tuple h';rw [e] at e';cases e';rw [d] at d'
 injection d' with d1 _
 have:its=its':=by simpa using congrArg Array.toList d1
 subst this;exact r.inj r'
end
abbrev Cx.wish(X:Cx)(E:Value->Shared->Prop):Cx:={ X with xe:=E }
abbrev Cx.nox(X:Cx):Cx:=X.wish fun _ _=>False
theorem Cx.Ok.wish{X:Cx}(ok:X.Ok)(E:Value->Shared->Prop):(X.wish E).Ok:=
 ⟨ok.mod,ok.kind,ok.glob,ok.blt,ok.above,ok.inj,ok.has,ok.cab,ok.hd,ok.frames,ok.stk,ok.exf,ok.bs,ok.bsz,ok.noex,ok.exfs,ok.funs,ok.frf⟩
theorem Cx.Ok.unwish{X:Cx}{E:Value->Shared->Prop}(ok:(X.wish E).Ok):X.Ok:=
 ⟨ok.mod,ok.kind,ok.glob,ok.blt,ok.above,ok.inj,ok.has,ok.cab,ok.hd,ok.frames,ok.stk,ok.exf,ok.bs,ok.bsz,ok.noex,ok.exfs,ok.funs,ok.frf⟩
section
variable{X:Cx}{pins:List (Addr×Obj)}{σ : St}{H:Hp}{s:Shared}{E:Value->Shared->Prop}
theorem Inv.wish(I:Inv X pins σ H s)(E:Value->Shared->Prop):Inv (X.wish E) pins σ H s:=⟨I.ok.wish E,I.os,I.bare,I.base,I.loc,I.cell,I.free,I.freeC,I.pin,I.hok,I.len⟩
theorem Inv.unwish(I:Inv (X.wish E) pins σ H s):Inv X pins σ H s:=⟨I.ok.unwish,I.os,I.bare,I.base,I.loc,I.cell,I.free,I.freeC,I.pin,I.hok,I.len⟩
theorem SP.unwish{D:Ends}{f:Flow}{s':Shared}(h:SP (X.wish E) pins D f s'):SP X pins D f s':=by
 cases f with
 | next=>obtain⟨σ',H',I,q⟩:=h;exact⟨σ',H',I.unwish,q⟩
 | brk=>obtain⟨σ',H',I,q⟩:=h;exact⟨σ',H',I.unwish,q⟩
 | cont=>obtain⟨σ',H',I,q⟩:=h;exact⟨σ',H',I.unwish,q⟩
 | ret u=>obtain⟨v,σ',H',I,r,q⟩:=h;exact⟨v,σ',H',I.unwish,r,q⟩
theorem PE.nox{e:Expr}{t:TE}(h:PE X.nox e t):PE X e t:=fun pins s σ H Q I hw=>
 wpAny_mono (h pins s σ H Q (I.wish _) hw) (fun _ _ ⟨v,H',I',r,q⟩=>⟨v,H',I'.unwish,r,q⟩) fun _ _ z=>False.elim z
theorem PT.nox{e:Expr}{t:TT}(h:PT X.nox e t):PT X e t:=fun pins s σ H Q I hw=>
 wpAny_mono (h pins s σ H Q (I.wish _) hw) (fun _ _ ⟨H',I',q⟩=>⟨H',I'.unwish,q⟩) fun _ _ z=>False.elim z
theorem PSs.nox{st:List Stmt}{t:TS}(h:PSs X.nox st t):PSs X st t:=fun pins s σ H D I hw=>
 wpAny_mono (h pins s σ H D (I.wish _) hw) (fun _ _ q=>q.unwish) fun _ _ z=>False.elim z
end
section
variable{X:Cx}{st:Stmt}{rest:List Stmt}{t u:TS}{e:Expr}{te:TE}{pos:Pos}
def tNext:TS:=fun D σ H=>D.nx σ H
def tSeq(t u:TS):TS:=fun D σ H=>t { D with nx:=u D } σ H
theorem zhf:PSs X [] tNext:=fun _ _ σ H _ I h=>wpAny_execs_nil ⟨σ,H,I,h⟩
theorem zfe(h1:PS X st t)(h2:PSs X rest u):PSs X (st::rest) (tSeq t u):=by
 intro pins s σ H D I h;refine wpAny_execs_cons (thn (h1 pins s σ H { D with nx:=u D } I h) fun f s1 q=>?_)
 cases f with
 | next=>
  obtain⟨σ',H',I',q⟩:=q;exact h2 pins s1 σ' H' D I' q
 | ret v=>exact q
 | brk=>exact q
 | cont=>exact q
theorem zjk(h1:PS X st t):PSs X [st] t:=by
 intro pins s σ H D I h;refine wpAny_execs_cons (thn (h1 pins s σ H D I h) fun f s1 q=>?_)
 cases f with
 | next=>exact wpAny_execs_nil q
 | ret v=>exact q
 | brk=>exact q
 | cont=>exact q
theorem Inv.quiet{pins:List (Addr×Obj)}{σ : St}{H:Hp}{s:Shared}(I:Inv X pins σ H s):interactive X.env=false:=by simp [interactive,I.ok.kind]
def zj4(te:TE):TS:=fun D σ H=>te σ H fun _ H1=>D.nx σ H1
theorem zam(he:PE X e te)(hs:swapsWith e none pos.line X.env=pure false:=by rfl):PS X (.Expr e pos) (zj4 te):=by
 intro pins s σ H D I h;exact wpAny_Expr_any (thn (he pins s σ H _ I h) fun v s1 ⟨x,H1,I1,r1,q1⟩=>⟨σ,H1,I1,q1⟩) I.quiet hs
def tRet(te:TE):TS:=fun D σ H=>te σ H D.rt
theorem zbT(he:PE X e te):PS X (.Return (some e) pos) (tRet te):=by
 intro pins s σ H D I h;exact wpAny_Return_some (thn (he pins s σ H _ I h) fun v s1 ⟨x,H1,I1,r1,q1⟩=>⟨x,σ,H1,I1,r1,q1⟩)
def tIfS(c:TT)(t u:TS):TS:=fun D σ H=>c σ H fun b H1=>if b=true then t D σ H1 else u D σ H1
theorem ziY{c:Expr}{a b:List Stmt}{tc:TT}(hc:PT X c tc)(ha:PSs X a t)(hb:PSs X b u):PS X (.If c a b pos) (tIfS tc t u):=by
 intro pins s σ H D I h;refine wpAny_If (thn (hc pins s σ H _ I h) fun d s1 ⟨H1,I1,q1⟩=>?_)
 cases d with
 | true=>exact ha pins s1 σ H1 D I1 q1
 | false=>exact hb pins s1 σ H1 D I1 q1
end
abbrev TG:=V->St->Hp->(St->Hp->Prop)->Prop
abbrev TGs:=List V->St->Hp->(St->Hp->Prop)->Prop
def PG(X:Cx)(target:Expr)(t:TG):Prop:=
 ∀ (pins:List (Addr×Obj)) (s:Shared) (σ : St) (H:Hp) (v:V) (u:Value) (Q:St->Hp->Prop),Inv X pins σ H s->RelV v u->t v σ H Q->
  wpAny (model X.prog X.w) X.A (assign target X.env u) (fun _ s'=>∃ σ' H',Inv X pins σ' H' s'/\Q σ' H') X.xe s
def PGs(X:Cx)(ts:List Expr)(t:TGs):Prop:=
 ∀ (pins:List (Addr×Obj)) (s:Shared) (σ : St) (H:Hp) (vs:List V) (us:List Value) (Q:St->Hp->Prop),Inv X pins σ H s->Vals vs us->t vs σ H Q->
  wpAny (model X.prog X.w) X.A (assignInOrder ((assignEach ts X.env).map (·.2)) us) (fun _ s'=>∃ σ' H',Inv X pins σ' H' s'/\Q σ' H') X.xe s
abbrev TSet:=V->V->V->Hp->(Hp->Prop)->Prop
def PSet(X:Cx)(t:TSet):Prop:=
 ∀ (pins:List (Addr×Obj)) (s:Shared) (σ : St) (H:Hp) (o i v:V) (ov iv u:Value) (Q:Hp->Prop),Inv X pins σ H s->RelV o ov->RelV i iv->RelV v u->t o i v H Q->
  wpAny (model X.prog X.w) X.A (setItem ov iv u) (fun _ s'=>∃ H',Inv X pins σ H' s'/\Q H') X.xe s
abbrev TIp:=V->V->Hp->VK->Prop
def PIp(X:Cx)(op:Operator)(t:TIp):Prop:=
 ∀ (pins:List (Addr×Obj)) (s:Shared) (σ : St) (H:Hp) (x y:V) (v u:Value) (Q:VK),Inv X pins σ H s->RelV x v->RelV y u->t x y H Q->
  wpAny (model X.prog X.w) X.A (inplaceOp op v u) (EP X pins σ Q) X.xe s
section
variable{X:Cx}{pos:Pos}
def zaD(i:Nat):TG:=fun v σ H Q=>Q (σ.set i (some v)) H
theorem zcu{i:Nat}{x:Str}(hN:X.N.Nodup)(hi:X.N[i]?=some x)(hx:Loc X.env.scope x)(hf:X.fn x=true\/X.env.scope.names.lookup x=some .local:=by first|exact .inl rfl|exact .inr rfl|assumption):PG X (.Name x pos) (zaD i):=by
 intro pins s σ H v u Q I r h;exact wpAny_assign_Name (J2 I hN hi hx r (fun s' I'=>⟨_,H,I',h⟩) hf)
def gNil:TGs:=fun vs σ H Q=>vs=[]/\Q σ H
def zfD(t:TG)(u:TGs):TGs:=fun vs σ H Q=>∃ v r,vs=v::r/\t v σ H fun σ' H'=>u r σ' H' Q
theorem zgZ:PGs X [] gNil:=by
 intro pins s σ H vs us Q I r h;obtain⟨e,h⟩:=h;subst e;cases r;exact assignInOrder_nil ⟨σ,H,I,h⟩
theorem zkF{e:Expr}{es:List Expr}{t:TG}{u:TGs}(h1:PG X e t)(h2:PGs X es u)
 (hs:(assignEach (e::es) X.env).map (·.2)=assign e X.env::(assignEach es X.env).map (·.2):=by rfl):PGs X (e::es) (zfD t u):=by
 intro pins s σ H vs us Q I r h;obtain⟨v,vr,e1,h⟩:=h;subst e1;cases r with
 | cons r rr=>
  rw [hs];refine assignInOrder_cons (thn (h1 pins s σ H _ _ _ I r h) fun _ s1 ⟨σ1,H1,I1,q1⟩=>?_)
  exact h2 pins s1 σ1 H1 _ _ Q I1 rr q1
def gTup(K:Ybf)(n:Nat)(t:TGs):TG:=fun v σ H Q=>∃ a xs,v=.ref a/\SqT K H a xs/\xs.length=n/\t xs σ H Q
theorem zfN{es:List Expr}{k:Nat}{t:TGs}{n:Nat}(hc:X.calm=true)(h:PGs X es t)
 (hn:(assignEach es X.env).length=n:=by rfl) (hst:(assignEach es X.env).findIdx? (·.1)=none:=by rfl):PG X (.Tuple es k pos) (gTup X.K n t):=by
 intro pins s σ H v u Q I r hw;obtain⟨a,xs,e1,hq,hl,hw⟩:=hw;subst e1;cases r;obtain⟨its,rv,ht,hz⟩:=I.tuple hq;refine assign_Tuple_tuple (I.ok.hd hc) ht (by simp [hn,<-hl,rv.length]) hst fun h' hx=>?_
 have I1:Inv X pins σ H { s with heap:=h' }:=I.kept (t':=s.toks) fun b o e=>hx b o (Yaf (YaX e)) e
 exact h pins _ σ H xs _ Q I1 (by simpa using rv) hw
def gSub(to ti:TE)(t:TSet):TG:=fun v σ H Q=>to σ H fun o H1=>ti σ H1 fun i H2=>t o i v H2 fun H3=>Q σ H3
theorem zfF{o i:Expr}{to ti:TE}{t:TSet}(ho:PE X o to)(hi:PE X i ti)(hs:PSet X t)
 (ha:∀ v,assign (.Subscript o i pos) X.env v=(do
  let ov <-holding [v] (eval o X.env)
  let iv <-holding [v,ov] (eval i X.env)
  standAt pos
  holding [v,ov,iv] (setItem ov iv v)
  release [v,ov,iv] []):=by intro _;rfl):PG X (.Subscript o i pos) (gSub to ti t):=by
 intro pins s σ H v u Q I r h;rw [ha];refine wpAny_bind (wpAny_holding (thn (ho pins s σ H _ I h) fun ov s1 ⟨x,H1,I1,r1,q1⟩=>?_))
 refine wpAny_bind (wpAny_holding (thn (hi pins s1 σ H1 _ I1 q1) fun iv s2 ⟨y,H2,I2,r2,q2⟩=>?_))
 refine wpAny_bind (wpAny_standAt (wpAny_bind (wpAny_holding (thn (hs pins s2 σ H2 x y v ov iv u _ I2 r1 r2 r q2) fun _ s3 ⟨H3,I3,q3⟩=>?_))))
 exact wpAny_release ⟨σ,H3,I3,q3⟩
def tAsg(te:TE)(g:TG):TS:=fun D σ H=>te σ H fun x H1=>g x σ H1 D.nx
theorem zc1{tg e:Expr}{te:TE}{g:TG}(he:PE X e te)(hg:PG X tg g)(hs:swapsWithSole [tg] e pos.line X.env=pure false:=by rfl)(hw:swappedStores [tg] e X.env=pure none:=by rfl)
 (h1:(assignEach [tg] X.env).map (·.2)=[assign tg X.env]:=by rfl):PS X (.Assign [tg] e pos) (tAsg te g):=by
 intro pins s σ H D I h;refine wpAny_Assign_stores (thn (he pins s σ H _ I h) fun v s1 ⟨x,H1,I1,r1,q1⟩=>?_) hs hw
 rw [h1];exact thn (hg pins s1 σ H1 x v _ I1 r1 q1) fun _ s2 q=>q
theorem ZQ{i:Nat}{x:Str}{e:Expr}{te:TE}{pos':Pos}(hN:X.N.Nodup)(hi:X.N[i]?=some x)(hx:Loc X.env.scope x)(he:PE X e te)(hs:swapsWith e (some (.Name x pos')) pos.line X.env=pure false:=by rfl)(hf:X.fn x=true\/X.env.scope.names.lookup x=some .local:=by first|exact .inl rfl|exact .inr rfl|assumption) :
 PS X (.Assign [.Name x pos'] e pos) (tAsg te (zaD i)):=by
 intro pins s σ H D I h;refine wpAny_Assign_Name (thn (he pins s σ H _ I h) fun v s1 ⟨y,H1,I1,r1,q1⟩=>?_) hs
 exact J2 I1 hN hi hx r1 (fun s2 I2=>⟨_,H1,I2,q1⟩) hf
def tPar(i j:Nat)(ta:TA):TS:=fun D σ H=>ta σ H fun vs H1=>∃ v w,vs=[v,w]/\D.nx ((σ.set i (some v)).set j (some w)) H1
theorem zew{i j:Nat}{x y:Str}{a b:Expr}{ta:TA}{px py pt:Pos}{kt k2 pt2}(hc:X.calm=true)(hN:X.N.Nodup)(hi:X.N[i]?=some x)(hj:X.N[j]?=some y)(hij:i≠j)
 (hx:X.env.scope.names.lookup x=some .local) (hy:X.env.scope.names.lookup y=some .local) (ha:PA X [a,b] ta)
 (hw:swappedStores [.Tuple [.Name x px,.Name y py] kt pt] (.Tuple [a,b] k2 pt2) X.env=pure (some [x,y]))
 (hs:swapsWithSole [.Tuple [.Name x px,.Name y py] kt pt] (.Tuple [a,b] k2 pt2) pos.line X.env=pure false:=by rfl) :
 PS X (.Assign [.Tuple [.Name x px,.Name y py] kt pt] (.Tuple [a,b] k2 pt2) pos) (tPar i j ta):=by
 intro pins s σ H D I h;rw [exec_Assign_arm];refine wpAny_bind (wpAny_standAt ?_);rw [hs];refine wpAny_bind (wpAny_pure ?_);rw [if_neg #[1]]
 refine wpAny_bind (Tuple_ (thn (ha _ pins s σ H _ I h) fun us s1 ⟨vs,H1,I1,r1,q1⟩=>?_))
 obtain⟨v,w,e1,q1⟩:=q1;subst e1;obtain⟨u1,u2,rfl,rv,rw'⟩:∃ u1 u2,us=[u1,u2]/\RelV v u1/\RelV w u2:=by
  cases r1 with
  | cons p q=>
   cases q with
   | cons p' q'=>
    cases q';exact⟨_,_,rfl,p,p'⟩
 refine wpAny_newObj_type ?_ (by show 2<=sizeLine;decide)
 have I2:Inv X pins σ H1 { s1 with heap:=s1.heap.push { cls:=.type "tuple", data:=.seq [u1,u2].toArray } }:=I1.kept (t':=s1.toks) fun b o e=>YaW _ e
 rw [hw];refine wpAny_bind (wpAny_pure ?_);show wpAny (model X.prog X.w) X.A (do rule "assign.swapped-stores";let items <-unpackItems (.ref s1.heap.objs.size) 2 none;assignInOrder [fun v=>bindName X.env y v,fun v=>bindName X.env x v] items.reverse;pure Flow.next) _ _ _
 refine wpAny_bind (wpAny_rule (wpAny_bind (unpackItems_tuple (items:=#[u1,u2]) (I.ok.hd hc) (IsTup.new s1.heap _) fun h' hx'=>?_)))
 have I3:=I2.kept (h':=h') (t':=s1.toks) fun b o e=>hx' b o (Yaf (YaX e)) e
 show wpAny _ _ (assignInOrder [fun v=>bindName X.env y v,fun v=>bindName X.env x v] [u2,u1] >>= fun _=>pure Flow.next) _ _ _
 refine wpAny_bind (assignInOrder_cons (wpAny_bindName (J2 I3 hN hj (.inl hy) rw' (fun s2 I4=>?_) (.inr hy))))
 refine assignInOrder_cons (wpAny_bindName (J2 I4 hN hi (.inl hx) rv (fun s3 I5=>assignInOrder_nil (wpAny_pure ?_)) (.inr hx)))
 rw [List.set_comm _ _ (WaL hij)] at I5;exact⟨_,H1,I5,q1⟩
def tAug(i:Nat)(te:TE)(ti:TIp):TS:=fun D σ H=>∃ x,σ[i]?=some (some x)/\te σ H fun y H1=>ti x y H1 fun z H2=>D.nx (σ.set i (some z)) H2
theorem zg5{i:Nat}{x:Str}{e:Expr}{te:TE}{op:Operator}{ti:TIp}{pos':Pos}(hN:X.N.Nodup)(hi:X.N[i]?=some x)(hx:Loc X.env.scope x)(he:PE X e te)(ho:PIp X op ti)(hf:X.fn x=true\/X.env.scope.names.lookup x=some .local:=by first|exact .inl rfl|exact .inr rfl|assumption) :
 PS X (.AugAssign (.Name x pos') op e pos) (tAug i te ti):=by
 intro pins s σ H D I h;obtain⟨v,e1,h⟩:=h;obtain⟨m,hn,hl⟩:=I.loc;have vis:Vis X.env.scope x:=by rcases hx with k|k;exact .inl k;exact .inr (.inl k)
 obtain⟨u,r,l⟩:=hl i x v hi e1 vis;refine wpAny_AugAssign_Name ?_;have go:wpAny (model X.prog X.w) X.A (eval e X.env) (fun w s₂=>wpAny (model X.prog X.w) X.A (inplaceOp op u w) (fun r s₃=>wpAny (model X.prog X.w) X.A (storeName X.env x r) (fun _=>SP X pins D .next) X.xe s₃) X.xe s₂) X.xe s:=by
  refine thn (he pins s σ H _ I h) fun w s1 ⟨y,H1,I1,r1,q1⟩=>?_
  refine thn (ho pins s1 σ H1 v y u w _ I1 r r1 q1) fun z s2 ⟨zv,H2,I2,r2,q2⟩=>?_
  exact J2 I2 hN hi hx r2 (fun s3 I3=>⟨_,H2,I3,q2⟩) hf
 rcases l with ⟨hk,hm⟩|⟨hk,c,hc,hcell⟩
 . exact wpAny_loadName_local I.ok.kind hk hn hm go
 . rcases hk with hk|hk
   . exact wpAny_loadName_cell I.ok.kind hk hc hcell go
   . rcases hx with k|k
     . have:X.env.scope.names.lookup x=some .free:=hk
       rw [k] at this;cases this
     . have:X.env.scope.names.lookup x=some .free:=hk
       rw [k] at this;cases this
def ipI(f:Int->Int->Int):TIp:=fun x y H Q=>∃ i j,x=.int i/\y=.int j/\Q (.int (f i j)) H
theorem zhv:PIp X .Add (ipI fun i j=>i+j):=by
 intro pins s σ H x y v u Q I r1 r2 h;obtain⟨i,j,e1,e2,q⟩:=h;subst e1;subst e2;obtain⟨t,rfl⟩:=r1;obtain⟨t',rfl⟩:=r2;exact iadd_int ⟨.int _,H,I.tok _,⟨_,rfl⟩,q⟩
end
section
variable{X:Cx}{pos:Pos}
def zcm(c:TT)(tb:TS):TS:=fun D σ H=>∃ W:Nat->St->Hp->Prop,(∃ m,W m σ H)/\∀ m σ H,W m σ H->
 c σ H fun b H1=>if b=true then ∃ N:St->Hp->Prop,(∀ σ' H',N σ' H'->∃ m',m'<m/\W m' σ' H')/\tb { D with nx:=N,ct:=N,bk:=D.nx } σ H1 else D.nx σ H1
theorem zgQ{c:Expr}{body:List Stmt}{tc:TT}{tb:TS}(hp:PassesOwn (model X.prog X.w) X.A X.env X.xe)(hc:PT X c tc)(hb:PSs X body tb):PS X (.While c body [] pos) (zcm tc tb):=by
 intro pins s σ H D I h;obtain⟨W,⟨m0,w0⟩,turn⟩:=h;refine wpAny_While (codeAny_whileLoop (fun n s'=>∃ σ' H',Inv X pins σ' H' s'/\W n σ' H') ?_ m0 ⟨σ,H,I,w0⟩)
 rintro n s1 ⟨σ1,H1,I1,w1⟩
 refine wpAny_passesOwn hp (thn (hc pins s1 σ1 H1 _ I1 (turn n σ1 H1 w1)) fun b s2 ⟨H2,I2,q2⟩=>?_)
 cases b with
 | true=>
  obtain⟨N,hN,q2⟩:=q2;rw [if_pos rfl];refine wpAny_passesOwn hp (thn (hb pins s2 σ1 H2 _ I2 q2) fun f s3 q3=>?_)
  cases f with
  | next=>
   obtain⟨σ3,H3,I3,n3⟩:=q3;obtain⟨m',hm,w3⟩:=hN σ3 H3 n3;exact⟨m',hm,σ3,H3,I3,w3⟩
  | cont=>
   obtain⟨σ3,H3,I3,n3⟩:=q3;obtain⟨m',hm,w3⟩:=hN σ3 H3 n3;exact⟨m',hm,σ3,H3,I3,w3⟩
  | brk=>exact q3
  | ret v=>exact q3
 | false=>
  rw [if_neg Yal];exact wpAny_execs_nil ⟨σ1,H2,I2,q2⟩
end
structure It where
 go:Nat->Hp->Prop
 yld:Nat->Hp->V->Hp->Prop
 stop:Nat->Hp->Prop
def FpOk(X:Cx)(pins:List (Addr×Obj))(H:Hp)(b:Addr):Prop:=
 H b=none/\b≠X.env.locals/\b∉X.fs/\(b∈X.ex\/X.s₀.heap.objs.size<=b)/\(∀ x c,X.env.cells.lookup x=some c->c≠b)/\∀ p∈X.pn++pins,p.1≠b
theorem Inv.fpOk{X:Cx}{pins:List (Addr×Obj)}{σ : St}{H H':Hp}{s:Shared}{b:Addr}(I:Inv X pins σ H s)(hb:s.heap.objs.size<=b)(hn:H' b=none):FpOk X pins H' b:=by
 refine⟨hn,Nat.ne_of_gt (YaU I.lt hb),I.nofs hb,.inr (Ya5 I.sz hb),fun x c e z=>?_,fun p hp z=>?_⟩
 . obtain⟨v,q⟩:=I.cell x c e
   exact absurd (YaU q.lt (by rw [z];exact hb)) (Yap _)
 . exact absurd (YaU (YaX (I.pin p hp).1) (by rw [z];exact hb)) (Yap _)
structure Turn(P:Program)(w:World)(K:Ybf)(tg:Expr)(J:It)(fp:List Addr)(it:Addr)(tn:Nat->Heap->Prop):Prop where
 mem:it∈fp
 obj:∀ i h,tn i h->∀ b∈fp,∃ o,h.get? b=some o/\∀ v,o.data≠.cell v
 keep:∀ i h h',tn i h->(∀ b∈fp,∀ o,h.get? b=some o->h'.get? b=some o)->tn i h'
 item:∀ (X:Cx),X.prog=P->X.w=w->X.K=K->X.calm=true->∀ (i:Nat) (pins:List (Addr×Obj)) (s:Shared) (σ : St) (H:Hp) (E:Value->Shared->Prop),Inv X pins σ H s->(∀ b∈fp,FpOk X pins H b)->tn i s.heap->J.go i H->
  wpAny (model P w) X.A (pyNext (.ref it)) (fun r s1=>∃ u,r=some u/\
   wpAny (model P w) X.A (letOwnedTupleGo tg (.ref it) u) (fun _ s2=>∃ x H',Inv X pins σ H' s2/\RelV x u/\J.yld i H x H'/\tn (i+1) s2.heap/\∀ b∈fp,H' b=none) E s1) E s
 done:∀ (X:Cx),X.prog=P->X.w=w->X.K=K->X.calm=true->∀ (i:Nat) (pins:List (Addr×Obj)) (s:Shared) (σ : St) (H:Hp) (E:Value->Shared->Prop),Inv X pins σ H s->(∀ b∈fp,FpOk X pins H b)->tn i s.heap->J.stop i H->
  wpAny (model P w) X.A (pyNext (.ref it)) (fun r s1=>r=none/\Inv X pins σ H s1) E s
 self:∀ (A:Around) (i:Nat) (s:Shared) (Q:Value->Shared->Prop) (E:Value->Shared->Prop),tn i s.heap->Q (.ref it) s->wpAny (model P w) A (pyIter (.ref it)) Q E s
abbrev TI:=St->Hp->(It->Hp->Prop)->Prop
def PIE(X:Cx)(pins:List (Addr×Obj))(σ : St)(tg:Expr)(R:It->Hp->Prop)(itv:Value)(s2:Shared):Prop:=
 ∃ (it:Addr) (fp:List Addr) (tn:Nat->Heap->Prop) (J:It) (H':Hp),itv=.ref it/\Inv X pins σ H' s2/\Turn X.prog X.w X.K tg J fp it tn/\tn 0 s2.heap/\(∀ b∈fp,FpOk X pins H' b)/\R J H'
def PI(X:Cx)(tg iter:Expr)(wi:TI):Prop:=
 ∀ (pins:List (Addr×Obj)) (s:Shared) (σ : St) (H:Hp) (R:It->Hp->Prop),Inv X pins σ H s->wi σ H R->
  wpAny (model X.prog X.w) X.A (eval iter X.env) (fun v s1=>wpAny (model X.prog X.w) X.A (pyIter v) (PIE X pins σ tg R) X.xe s1) X.xe s
theorem zbo{M:Model}{A:Around}{E:Value->Shared->Prop}{s:Shared}{tg:Expr}{it:Addr}{u:Value}{o:Obj}{n:String}{vs:Array Value}{Q:Unit->Shared->Prop}(ho:s.heap.get? it=some o)(hc:o.cls=.type n)(hd:o.data=.fields vs)
 (hn:["enumerate", "zip", "dict_itemiterator", "dict_reverseitemiterator", "odict_iterator", "itertools.zip_longest", "itertools.pairwise"].contains n=false) (hQ:Q () s):wpAny M A (letOwnedTupleGo tg (.ref it) u) Q E s:=by
 unfold letOwnedTupleGo;cases tg<;>first
  | exact wpAny_pure hQ
  | (cases u <;> first
   | exact wpAny_pure hQ
   | (refine wpAny_bind (wpAny_load ho ?_)
      rw [hc,hd];show wpAny M A (if(["enumerate", "zip", "dict_itemiterator", "dict_reverseitemiterator", "odict_iterator", "itertools.zip_longest", "itertools.pairwise"].contains n&&vs[0]? == some (rawInt _))=true then _ else _) Q E s
      rw [if_neg (by intro h;rw [hn,Bool.false_and] at h;cases h)]
      exact wpAny_pure hQ))
def Itl(K:Ybf)(a:Addr):It:=
 ⟨fun i H=>∃ xs x,SqL K H a xs/\xs[i]?=some x,fun i H x H'=>H'=H/\∀ xs,SqL K H a xs->xs[i]?=some x,fun i H=>∃ xs,SqL K H a xs/\xs.length<=i⟩
def Itt(K:Ybf)(a:Addr):It:=
 ⟨fun i H=>∃ xs x,SqT K H a xs/\xs[i]?=some x,fun i H x H'=>H'=H/\∀ xs,SqT K H a xs->xs[i]?=some x,fun i H=>∃ xs,SqT K H a xs/\xs.length<=i⟩
def Itr(lo:Int)(n:Nat):It:=⟨fun i _=>i<n,fun i H x H'=>H'=H/\x=.int (lo+i),fun i _=>n<=i⟩
theorem zhA{P:Program}{w:World}{K:Ybf}{tg:Expr}(a it:Addr):Turn P w K tg (Itl K a) [it] it (fun i h=>h.IsListIter it a i) where
 mem:=by simp
 obj:=fun i h st b hb=>by
  have e:b=it:=by simpa using hb
  subst e;obtain⟨o,e,c,d⟩:=st;exact⟨o,e,fun v z=>by rw [d] at z;cases z⟩
 keep:=fun i h h' st k=>st.at fun o e=>k it (by simp) o e
 item:=by
  intro X hP hw hK hc i pins s σ H E I hf st hg;subst hP hw hK;obtain⟨xs,x,hq,hx⟩:=hg;obtain⟨its,rv,p,hz⟩:=I.list hq;obtain⟨u,hu,ru⟩:=rv.get hx;obtain⟨f0,f1,f2,f3,f4,f5⟩:=hf it (by simp)
  refine wpAny_pyNext_list_item st p.isList (x:=u) (by simpa using hu) fun h' st' sb=>?_
  have I1:Inv X pins σ H { s with heap:=h' }:=I.turned (t':=s.toks) (fun b o hb e=>(sb.2 b hb).trans e) f0 f1 f3 f4 f5
  obtain⟨o,e,c,d⟩:=id st';exact⟨u,rfl,zbo (s:={ s with heap:=h' }) e c d #[1] ⟨x,H,I1,ru,⟨rfl,fun ys hy=>by rw [I.list_inj hy hq];exact hx⟩,st',fun b hb=>(hf b hb).1⟩⟩
 done:=by
  intro X hP hw hK hc i pins s σ H E I hf st hg;subst hP hw hK;obtain⟨xs,hq,hx⟩:=hg;obtain⟨its,rv,p,hz⟩:=I.list hq;obtain⟨f0,f1,f2,f3,f4,f5⟩:=hf it (by simp)
  have hl:=rv.length;exact wpAny_pyNext_list_end (I.ok.hd hc) st p.isList #[6] fun h' eb=>⟨rfl,I.turned (t':=s.toks) (fun b o hb e=>eb b o hb e) f0 f1 f3 f4 f5⟩
 self:=fun _ _ _ _ _ st h=>wpAny_pyIter_listiter st h
theorem zfI{P:Program}{w:World}{K:Ybf}{tg:Expr}(a it:Addr):Turn P w K tg (Itt K a) [it] it (fun i h=>h.IsTupleIter it a i) where
 mem:=by simp
 obj:=fun i h st b hb=>by
  have e:b=it:=by simpa using hb
  subst e;obtain⟨o,e,c,d⟩:=st;exact⟨o,e,fun v z=>by rw [d] at z;cases z⟩
 keep:=fun i h h' st k=>st.at fun o e=>k it (by simp) o e
 item:=by
  intro X hP hw hK hc i pins s σ H E I hf st hg;subst hP hw hK;obtain⟨xs,x,hq,hx⟩:=hg;obtain⟨its,rv,p,hz⟩:=I.tuple hq;obtain⟨u,hu,ru⟩:=rv.get hx;obtain⟨f0,f1,f2,f3,f4,f5⟩:=hf it (by simp)
  refine wpAny_pyNext_tuple_item st (show s.heap.IsTuple a its.toArray from p) (x:=u) (by simpa using hu) fun h' st' sb=>?_
  have I1:Inv X pins σ H { s with heap:=h' }:=I.turned (t':=s.toks) (fun b o hb e=>(sb.2 b hb).trans e) f0 f1 f3 f4 f5
  obtain⟨o,e,c,d⟩:=id st';exact⟨u,rfl,zbo (s:={ s with heap:=h' }) e c d #[1] ⟨x,H,I1,ru,⟨rfl,fun ys hy=>by rw [I.tuple_inj hy hq];exact hx⟩,st',fun b hb=>(hf b hb).1⟩⟩
 done:=by
  intro X hP hw hK hc i pins s σ H E I hf st hg;subst hP hw hK;obtain⟨xs,hq,hx⟩:=hg;obtain⟨its,rv,p,hz⟩:=I.tuple hq;obtain⟨f0,f1,f2,f3,f4,f5⟩:=hf it (by simp)
  have hl:=rv.length;exact wpAny_pyNext_tuple_end (I.ok.hd hc) st (show s.heap.IsTuple a its.toArray from p) #[6] fun h' eb=>⟨rfl,I.turned (t':=s.toks) (fun b o hb e=>eb b o hb e) f0 f1 f3 f4 f5⟩
 self:=fun _ _ _ _ _ st h=>wpAny_pyIter_tupleiter st h
theorem zh9{P:Program}{w:World}{K:Ybf}{tg:Expr}(it:Addr)(lo:Int)(n:Nat):Turn P w K tg (Itr lo n) [it] it (fun i h=>IsRangeIter h it (lo+(i:Nat)*1) ((n:Int) - (i:Nat)) 1) where
 mem:=by simp
 obj:=fun i h st b hb=>by
  have e:b=it:=by simpa using hb
  subst e;exact⟨_,st,fun v z=>by
   have z':Data.fields _=Data.cell v:=z;cases z'⟩
 keep:=fun i h h' st k=>k it (by simp) _ st
 item:=by
  intro X hP hw hK hc i pins s σ H E I hf st hg;subst hP hw hK;obtain⟨f0,f1,f2,f3,f4,f5⟩:=hf it (by simp)
  have W:=Walks.range (prog:=X.prog) (w:=X.w) (I.ok.hd hc) it lo 1 n;refine W.item i s _ _ hg st fun v h' tk hv st' kk=>?_
  obtain⟨t,rfl⟩:=hv;have I1:Inv X pins σ H { s with heap:=h',toks:=tk }:=I.turned (fun b o hb e=>kk b o (by simpa using hb) e) f0 f1 f3 f4 f5
  refine⟨_,rfl,zbo (s:={ s with heap:=h',toks:=tk }) (n:="range_iterator") st' rfl rfl #[1] ⟨.int (lo+i),H,I1,⟨t,?_⟩,⟨rfl,rfl⟩,st',fun b hb=>(hf b hb).1⟩⟩
  rw [Int.mul_one]
 done:=by
  intro X hP hw hK hc i pins s σ H E I hf st hg;subst hP hw hK;obtain⟨f0,f1,f2,f3,f4,f5⟩:=hf it (by simp)
  exact wpAny_pyNext_range_end (I.ok.hd hc) st (by have:n<=i:=hg;omega) fun h' eb=>⟨rfl,I.turned (t':=s.toks) (fun b o hb e=>eb b o hb e) f0 f1 f3 f4 f5⟩
 self:=fun _ _ _ _ _ st h=>wpAny_pyIter_rangeiter st h
section
variable{X:Cx}{tg:Expr}
def zfr(K:Ybf)(tl:TE):TI:=fun σ H R=>tl σ H fun x H1=>∃ a,x=.ref a/\(∃ xs,SqL K H1 a xs)/\R (Itl K a) H1
def iTup(K:Ybf)(tl:TE):TI:=fun σ H R=>tl σ H fun x H1=>∃ a,x=.ref a/\(∃ xs,SqT K H1 a xs)/\R (Itt K a) H1
theorem zhm{l:Expr}{tl:TE}(hl:PE X l tl):PI X tg l (zfr X.K tl):=by
 intro pins s σ H R I h;refine thn (hl pins s σ H _ I h) fun v s1 ⟨x,H1,I1,r1,q1⟩=>?_
 obtain⟨a,e,⟨xs,hq⟩,q⟩:=q1;subst e;cases r1;obtain⟨its,rv,p,hz⟩:=I1.list hq;refine wpAny_pyIter_list p.isList ?_;refine⟨s1.heap.objs.size,[s1.heap.objs.size],_,_,H1,rfl,I1.kept (t':=s1.toks) fun b o e=>YaW _ e,zhA a _,⟨_,Yan _ rfl,rfl,rfl⟩,fun b hb=>?_,q⟩
 have e:b=s1.heap.objs.size:=by simpa using hb
 subst e;exact I1.fpOk (YaY _) (I1.hok.fresh (YaY _))
theorem zhB{l:Expr}{tl:TE}(hl:PE X l tl):PI X tg l (iTup X.K tl):=by
 intro pins s σ H R I h;refine thn (hl pins s σ H _ I h) fun v s1 ⟨x,H1,I1,r1,q1⟩=>?_
 obtain⟨a,e,⟨xs,hq⟩,q⟩:=q1;subst e;cases r1;obtain⟨its,rv,p,hz⟩:=I1.tuple hq;refine wpAny_pyIter_tuple (show s1.heap.IsTuple a its.toArray from p) ?_
 refine⟨s1.heap.objs.size,[s1.heap.objs.size],_,_,H1,rfl,I1.kept (t':=s1.toks) fun b o e=>YaW _ e,zfI a _,⟨_,Yan _ rfl,rfl,rfl⟩,fun b hb=>?_,q⟩
 have e:b=s1.heap.objs.size:=by simpa using hb
 subst e;exact I1.fpOk (YaY _) (I1.hok.fresh (YaY _))
theorem zdl{pins:List (Addr×Obj)}{σ : St}{H:Hp}{s:Shared}{R:It->Hp->Prop}{E:Value->Shared->Prop}{lo hi:Int}{t u v:Tok}{tk:Nat}(I:Inv X pins σ H s)(h1:-(2 ^ 62)<=lo)(h2:lo<2 ^ 62)(h3:-(2 ^ 62)<=hi)(h4:hi<2 ^ 62)
 (q:R (Itr lo (hi - lo).toNat) H):wpAny (model X.prog X.w) X.A (pyIter (.ref s.heap.objs.size)) (PIE X pins σ tg R) E { s with heap:=s.heap.push { cls:=.type "range", data:=.fields #[.int lo t,.int hi u,.int 1 v] },toks:=tk }:=by
 refine wpAny_pyIter_range (IsRange.new ..) (small_one h1 h2 h3 h4) ?_
 have I1:Inv X pins σ H { s with heap:=s.heap.push { cls:=.type "range", data:=.fields #[.int lo t,.int hi u,.int 1 v] },toks:=tk }:=I.kept fun b o e=>YaW _ e
 refine⟨(s.heap.push { cls:=.type "range", data:=.fields #[.int lo t,.int hi u,.int 1 v] }).objs.size,[(s.heap.push { cls:=.type "range", data:=.fields #[.int lo t,.int hi u,.int 1 v] }).objs.size],_,_,H,rfl,
  I1.kept (t':=tk) fun b o e=>YaW _ e,zh9 _ lo (hi - lo).toNat,?_,fun b hb=>?_,q⟩
 . have e1:lo+((0:Nat):Int)*1=lo:=by simp
   have e2:(((hi - lo).toNat:Nat):Int) - ((0:Nat):Int)=Builtin.Range.rangeSize lo hi 1:=by rw [rangeSize_one];split<;>omega
   show IsRangeIter _ _ (lo+((0:Nat):Int)*1) ((((hi - lo).toNat:Nat):Int) - ((0:Nat):Int)) 1
   rw [e1,e2];exact Yan _ rfl
 . have e:b=(s.heap.push { cls:=.type "range", data:=.fields #[.int lo t,.int hi u,.int 1 v] }).objs.size:=by simpa using hb
   subst e;exact I1.fpOk (YaY _) (I1.hok.fresh (YaY _))
def zgm(ta:TA):TI:=fun σ H R=>ta σ H fun vs H1=>∃ j:Int,vs=[.int j]/\-(2 ^ 62)<=j/\j<2 ^ 62/\R (Itr 0 j.toNat) H1
def zf7(ta:TA):TI:=fun σ H R=>ta σ H fun vs H1=>∃ i j:Int,vs=[.int i,.int j]/\(-(2 ^ 62)<=i/\i<2 ^ 62/\-(2 ^ 62)<=j/\j<2 ^ 62)/\R (Itr i (j - i).toNat) H1
theorem zel{a:Expr}{ta:TA}{p pos:Pos}(hg:Gl X "range")(hm:X.mg "range" = none)(ha:PA X [a] ta)(hs:starEach [a] X.env=[(false,eval a X.env)]:=by rfl):PI X tg (.Call (.Name "range" p) [a] [] pos) (zgm ta):=by
 intro pins s σ H R I h;refine Call_ (j8 I hg hm boot_range (Wab (thn (ha pos pins s σ H _ I h) fun us s1 ⟨vs,H1,I1,r1,q1⟩=>?_) hs rfl))
 obtain⟨j,e,q1,q2,q⟩:=q1;subst e;cases r1 with
 | cons r rr=>
  cases rr;obtain⟨t,rfl⟩:=r
  exact call_range_1 (zdl I1 #[0] #[0] q1 q2 (by simpa using q))
theorem zja{a b:Expr}{ta:TA}{p pos:Pos}(hg:Gl X "range")(hm:X.mg "range" = none)(ha:PA X [a,b] ta)(hs:starEach [a,b] X.env=[(false,eval a X.env),(false,eval b X.env)]:=by rfl)(hs2:starEach [b] X.env=[(false,eval b X.env)]:=by rfl) :
 PI X tg (.Call (.Name "range" p) [a,b] [] pos) (zf7 ta):=by
 intro pins s σ H R I h;refine Call_ (j8 I hg hm boot_range (Wab (thn (ha pos pins s σ H _ I h) fun us s1 ⟨vs,H1,I1,r1,q1⟩=>?_) (by rw [hs,hs2]) (by rw [hs2];rfl)))
 obtain⟨i,j,e,⟨q1,q2,q3,q4⟩,q⟩:=q1;subst e;cases r1 with
 | cons r rr=>
  cases rr with
  | cons r' rr=>
   cases rr;obtain⟨t,rfl⟩:=r
   obtain⟨t',rfl⟩:=r';exact call_range_2 (zdl I1 q1 q2 q3 q4 q)
def tFor(wi:TI)(g:TG)(tb:TS):TS:=fun D σ H=>wi σ H fun J H1=>∃ W:Nat->Nat->St->Hp->Prop,(∃ m,W 0 m σ H1)/\∀ i m σ H,W i m σ H->
 (J.stop i H/\D.nx σ H)\/(J.go i H/\∃ N:St->Hp->Prop,(∀ σ' H',N σ' H'->∃ m',m'<m/\W (i+1) m' σ' H')/\∀ x H',J.yld i H x H'->g x σ H' fun σ2 H2=>tb { D with nx:=N,ct:=N,bk:=D.nx } σ2 H2)
def Z9(fp:List Addr)(h:Heap):List (Addr×Obj):=fp.filterMap fun b=>(h.get? b).map fun o=>(b,o)
theorem zaP{fp:List Addr}{h:Heap}{b:Addr}{o:Obj}(hb:b∈fp)(e:h.get? b=some o):(b,o)∈Z9 fp h:=List.mem_filterMap.mpr ⟨b,hb,by rw [e];rfl⟩
theorem zhN{fp:List Addr}{h:Heap}{p:Addr×Obj}(hp:p∈Z9 fp h):p.1∈fp/\h.get? p.1=some p.2:=by
 obtain⟨b,hb,e⟩:=List.mem_filterMap.mp hp;cases q:h.get? b with
 | none=>rw [q] at e;cases e
 | some o=>
  rw [q] at e;have e':(b,o)=p:=Waz e;subst e';exact⟨hb,q⟩
theorem Inv.pinned{pins:List (Addr×Obj)}{σ : St}{H:Hp}{s:Shared}{fp:List Addr}(I:Inv X pins σ H s)(hf:∀ b∈fp,FpOk X pins H b)(ho:∀ b∈fp,∃ o,s.heap.get? b=some o/\∀ v,o.data≠.cell v):Inv X (pins++Z9 fp s.heap) σ H s:=
 I.pins_of fun p hp=>(Ya3.mp hp).elim (fun z=>I.pin p (Yaa _ z)) fun z=>by
  obtain⟨hb,e⟩:=zhN z;obtain⟨f0,f1,f2,_⟩:=hf p.1 hb;obtain⟨o,e',d⟩:=ho p.1 hb;rw [e] at e';cases e';exact⟨e,f0,f1,f2,d⟩
theorem Inv.unpinned{pins pl:List (Addr×Obj)}{σ : St}{H:Hp}{s:Shared}(I:Inv X (pins++pl) σ H s):Inv X pins σ H s:=I.pins_of fun p hp=>I.pin p (Yaa _ (Yai _ hp))
theorem zfR{iter:Expr}{body:List Stmt}{wi:TI}{g:TG}{tb:TS}{pos:Pos}(hp:PassesOwn (model X.prog X.w) X.A X.env X.xe)(hc:X.calm=true)(hi:PI X tg iter wi)(hg:PG X tg g)(hb:PSs X body tb)
 (hs:∀ x,foldedSetIterable iter X.env x=pure x:=by intro _;rfl):PS X (.For tg iter body [] pos) (tFor wi g tb):=by
 intro pins s σ H D I h;refine wpAny_For (thn (hi pins s σ H _ I h) fun v s1 h1=>thn h1 fun itv s2 h2=>?_) hs
 obtain⟨it,fp,tn,J,H2,e,I2,T,st2,f2,W,⟨m0,w0⟩,turn⟩:=h2;subst e;have stat:∀ {H':Hp},(∀ b∈fp,H' b=none)->∀ b∈fp,FpOk X pins H' b:=fun hn b hb=>⟨hn b hb,(f2 b hb).2⟩
 refine codeAny_forLoop_any (fun n s'=>∃ i σ' H',Inv X pins σ' H' s'/\tn i s'.heap/\(∀ b∈fp,H' b=none)/\W i n σ' H') ?_ m0 ⟨0,σ,H2,I2,st2,fun b hb=>(f2 b hb).1,w0⟩
 rintro n s3 ⟨i,σ3,H3,I3,st3,fr3,w3⟩
 rcases turn i n σ3 H3 w3 with ⟨stop,qn⟩|⟨go,N,hN,step⟩
 . refine wpAny_passesOwn hp (thn (T.done X rfl rfl rfl hc i pins s3 σ3 H3 X.xe I3 (stat fr3) st3 stop) fun r s4 ⟨hr,I4⟩=>?_)
   subst hr;exact wpAny_execs_nil ⟨σ3,H3,I4,qn⟩
 . refine wpAny_passesOwn hp (thn (T.item X rfl rfl rfl hc i pins s3 σ3 H3 X.xe I3 (stat fr3) st3 go) fun r s4 ⟨u,hr,h4⟩=>?_)
   subst hr;refine wpAny_passesOwn hp (thn h4 fun _ s5 ⟨x,H5,I5,r5,y5,st5,fr5⟩=>?_)
   have I5':=I5.pinned (stat fr5) (T.obj _ _ st5);refine wpAny_passesOwn hp (thn (hg _ s5 σ3 H5 x u _ I5' r5 (step x H5 y5)) fun _ s6 ⟨σ6,H6,I6,q6⟩=>?_)
   refine wpAny_passesOwn hp (thn (hb _ s6 σ6 H6 _ I6 q6) fun f s7 q7=>?_)
   have again:∀ {σ7:St} {H7:Hp},Inv X (pins++Z9 fp s5.heap) σ7 H7 s7->N σ7 H7->∃ m,m<n/\∃ i σ' H',Inv X pins σ' H' s7/\tn i s7.heap/\(∀ b∈fp,H' b=none)/\W i m σ' H':=fun {σ7 H7} I7 n7=>by
    obtain⟨m',hm,w7⟩:=hN σ7 H7 n7;refine⟨m',hm,i+1,σ7,H7,I7.unpinned,T.keep _ _ _ st5 fun b hb o e=>(I7.pin (b,o) (Yaa _ (Yaa _ (zaP hb e)))).1,fun b hb=>?_,w7⟩
    obtain⟨o,e,d⟩:=T.obj _ _ st5 b hb;exact(I7.pin (b,o) (Yaa _ (Yaa _ (zaP hb e)))).2.1
   cases f with
   | next=>obtain⟨σ7,H7,I7,n7⟩:=q7;exact again I7 n7
   | cont=>obtain⟨σ7,H7,I7,n7⟩:=q7;exact again I7 n7
   | brk=>obtain⟨σ7,H7,I7,q7⟩:=q7;exact⟨σ7,H7,I7.unpinned,q7⟩
   | ret v=>obtain⟨x7,σ7,H7,I7,r7,q7⟩:=q7;exact⟨x7,σ7,H7,I7.unpinned,r7,q7⟩
end
theorem jG{K:Ybf}{a:Addr}{xs:List V}{g:TG}{tb:TS}{D:Ends}{σ : St}{H:Hp}(Pv:Nat->St->Hp->Prop)(h0:Pv 0 σ H)(hl:∀ i σ H,i<=xs.length->Pv i σ H->SqL K H a xs)
 (hs:∀ i x σ H,xs[i]?=some x->Pv i σ H->g x σ H fun σ2 H2=>tb { D with nx:=Pv (i+1),ct:=Pv (i+1),bk:=D.nx } σ2 H2) (hd:∀ σ H,Pv xs.length σ H->D.nx σ H) :
 ∃ W:Nat->Nat->St->Hp->Prop,(∃ m,W 0 m σ H)/\∀ i m σ H,W i m σ H->
  ((Itl K a).stop i H/\D.nx σ H)\/((Itl K a).go i H/\∃ N:St->Hp->Prop,(∀ σ' H',N σ' H'->∃ m',m'<m/\W (i+1) m' σ' H')/\∀ x H',(Itl K a).yld i H x H'->g x σ H' fun σ2 H2=>tb { D with nx:=N,ct:=N,bk:=D.nx } σ2 H2):=by
 refine⟨fun i m σ H=>m=xs.length - i/\i<=xs.length/\Pv i σ H,⟨xs.length,by simp,WaK _,h0⟩,?_⟩
 rintro i m σ H ⟨rfl,hi,p⟩
 have q:=hl i σ H hi p
 by_cases hlt:i<xs.length
 . refine .inr ⟨⟨xs,xs[i],q,by simp [hlt]⟩,Pv (i+1),fun σ' H' p'=>⟨xs.length - (i+1),#[0],rfl,hlt,p'⟩,fun x H' y=>?_⟩
   obtain⟨e,y⟩:=y;subst e;exact hs i x σ _ (y xs q) p
 . have e:i=xs.length:=#[0]
   subst e;exact .inl ⟨⟨xs,q,YaY _⟩,hd σ H p⟩
theorem Zg{c:TT}{tb:TS}{D:Ends}{σ : St}{H:Hp}(Pv:St->Hp->Prop)(μ : St->Hp->Nat)(h0:Pv σ H)
 (hs:∀ σ H,Pv σ H->c σ H fun b H1=>if b=true then tb { D with nx:=fun σ' H'=>Pv σ' H'/\μ σ' H' < μ σ H,ct:=fun σ' H'=>Pv σ' H'/\μ σ' H' < μ σ H,bk:=D.nx } σ H1 else D.nx σ H1)
 (mono:∀ σ H Q Q',(∀ b H1,Q b H1->Q' b H1)->c σ H Q->c σ H Q'):zcm c tb D σ H:=by
 refine⟨fun m σ H=>m = μ σ H/\Pv σ H,⟨_,rfl,h0⟩,?_⟩
 rintro m σ H ⟨rfl,p⟩
 refine mono σ H _ _ (fun b H1 q=>?_) (hs σ H p)
 cases b with
 | true=>exact⟨_,fun σ' H' ⟨p',l⟩=>⟨_,l,rfl,p'⟩,q⟩
 | false=>exact q
abbrev R2:=V->V->Hp->VK->Prop
def OpR(X:Cx)(f:Value->Value->Sem Value)(r:R2):Prop:=
 ∀ (pins:List (Addr×Obj)) (s:Shared) (σ : St) (H:Hp) (x y:V) (v u:Value) (Q:VK),Inv X pins σ H s->RelV x v->RelV y u->r x y H Q->
  wpAny (model X.prog X.w) X.A (f v u) (EP X pins σ Q) X.xe s
def UnR(X:Cx)(f:Value->Sem Value)(r:V->Hp->VK->Prop):Prop:=
 ∀ (pins:List (Addr×Obj)) (s:Shared) (σ : St) (H:Hp) (x:V) (v:Value) (Q:VK),Inv X pins σ H s->RelV x v->r x H Q->
  wpAny (model X.prog X.w) X.A (f v) (EP X pins σ Q) X.xe s
def zK(X:Cx)(f:Value)(r:List V->Hp->VK->Prop):Prop:=
 ∀ (pins:List (Addr×Obj)) (s:Shared) (σ : St) (H:Hp) (xs:List V) (us:List Value) (Q:VK),Inv X pins σ H s->Vals xs us->r xs H Q->
  wpAny (model X.prog X.w) X.A (call f us) (EP X pins σ Q) X.xe s
def tOp(r:R2)(ta tb:TE):TE:=fun σ H Q=>ta σ H fun x H1=>tb σ H1 fun y H2=>r x y H2 Q
def rI(C:Int->Int->Prop)(g:Int->Int->V):R2:=fun x y H Q=>∃ i j,x=.int i/\y=.int j/\C i j/\Q (g i j) H
def rI0(g:Int->Int->V):R2:=fun x y H Q=>∃ i j,x=.int i/\y=.int j/\Q (g i j) H
section
variable{X:Cx}{a b c:Expr}{ta tb tc:TE}{pos:Pos}
theorem binT(ha:PE X a ta)(hb:PE X b tb){pins:List (Addr×Obj)}{s:Shared}{σ : St}{H:Hp}{R:V->V->Hp->Prop}(I:Inv X pins σ H s)
 (h:ta σ H fun x H1=>tb σ H1 fun y H2=>R x y H2) {Q:Value->Shared->Prop} {f:Value->Value->Sem Value}
 (hf:∀ v u s2 x y H2,Inv X pins σ H2 s2->RelV x v->RelV y u->R x y H2->wpAny (model X.prog X.w) X.A (f v u) Q X.xe s2) :
 wpAny (model X.prog X.w) X.A (eval a X.env) (fun v s₁=>wpAny (model X.prog X.w) X.A (eval b X.env) (fun u s₂=>wpAny (model X.prog X.w) X.A (f v u) Q X.xe s₂) X.xe s₁) X.xe s:=by
 refine thn (ha pins s σ H _ I h) fun v s1 ⟨x,H1,I1,r1,q1⟩=>?_
 refine thn (hb pins s1 σ H1 _ I1 q1) fun u s2 ⟨y,H2,I2,r2,q2⟩=>?_
 exact hf v u s2 x y H2 I2 r1 r2 q2
theorem zbw{op:Operator}{r:R2}(ho:OpR X (binaryOp op) r)(ha:PE X a ta)(hb:PE X b tb):PE X (.BinOp a op b pos) (tOp r ta tb):=by
 intro pins s σ H Q I h;exact wpAny_BinOp (binT ha hb I h fun v u s2 x y H2 I2 rx ry q=>ho pins s2 σ H2 x y v u Q I2 rx ry q)
theorem opI{f:Value->Value->Sem Value}{C:Int->Int->Prop}{g:Int->Int->Int}
 (rule:∀ (i j:Int) (t u:Tok) (s:Shared) (Q:Value->Shared->Prop) (E:Value->Shared->Prop),C i j->Q (.int (g i j) s.toks) { s with toks:=s.toks+1 }->wpAny (model X.prog X.w) X.A (f (.int i t) (.int j u)) Q E s) :
 OpR X f (rI C fun i j=>.int (g i j)):=by
 intro pins s σ H x y v u Q I rx ry h;obtain⟨i,j,rfl,rfl,hc,q⟩:=h;obtain⟨t,rfl⟩:=rx;obtain⟨t',rfl⟩:=ry;exact rule i j t t' s _ _ hc ⟨.int (g i j),H,I.tok _,⟨_,rfl⟩,q⟩
theorem opI0{f:Value->Value->Sem Value}{g:Int->Int->Int}
 (rule:∀ (i j:Int) (t u:Tok) (s:Shared) (Q:Value->Shared->Prop) (E:Value->Shared->Prop),Q (.int (g i j) s.toks) { s with toks:=s.toks+1 }->wpAny (model X.prog X.w) X.A (f (.int i t) (.int j u)) Q E s) :
 OpR X f (rI0 fun i j=>.int (g i j)):=by
 intro pins s σ H x y v u Q I rx ry h;obtain⟨i,j,rfl,rfl,q⟩:=h;obtain⟨t,rfl⟩:=rx;obtain⟨t',rfl⟩:=ry;exact rule i j t t' s _ _ ⟨.int (g i j),H,I.tok _,⟨_,rfl⟩,q⟩
theorem opB0{f:Value->Value->Sem Value}{g:Int->Int->Bool}
 (rule:∀ (i j:Int) (t u:Tok) (s:Shared) (Q:Value->Shared->Prop) (E:Value->Shared->Prop),Q (.bool (g i j)) s->wpAny (model X.prog X.w) X.A (f (.int i t) (.int j u)) Q E s) :
 OpR X f (rI0 fun i j=>.bl (g i j)):=by
 intro pins s σ H x y v u Q I rx ry h;obtain⟨i,j,rfl,rfl,q⟩:=h;obtain⟨t,rfl⟩:=rx;obtain⟨t',rfl⟩:=ry;exact rule i j t t' s _ _ ⟨.bl (g i j),H,I,rfl,q⟩
def CMul(i j:Int):Prop:=(-(2 ^ 64)<i/\i<2 ^ 64)\/(-(2 ^ 64)<j/\j<2 ^ 64)
theorem CMul.ok{i j:Int}(h:CMul i j):IntMulOk i j:=by
 rcases h with ⟨h1,h2⟩|⟨h1,h2⟩
 . exact .of_left (intBits_le_64 h1 h2)
 . exact .of_right (intBits_le_64 h1 h2)
theorem zjM:OpR X (binaryOp .Add) (rI0 fun i j=>.int (i+j)):=opI0 fun _ _ _ _ _ _ _ q=>add_int q
theorem zg6:OpR X (binaryOp .Sub) (rI0 fun i j=>.int (i - j)):=opI0 fun _ _ _ _ _ _ _ q=>sub_int q
theorem zj7:OpR X (binaryOp .Mod) (rI (fun _ j=>0<j) fun i j=>.int (i%j)):=opI fun i j _ _ _ _ _ hc q=>by
 have h1:(0:Int)<j:=hc;exact mod_int' #[0] (by rw [Int.fmod_eq_emod_of_nonneg i #[0]];exact q)
end
def scal:V->V->Bool
 | .non,.non=>true|.non,.int _=>true|.int _,.non=>true|.non,.bl _=>true|.bl _,.non=>true|.non,.str _=>true|.str _,.non=>true
 | .int _,.int _=>true|.bl _,.bl _=>true|.str _,.str _=>true|.byt _,.byt _=>true
 | .int _,.str _=>true|.str _,.int _=>true|.bl _,.str _=>true|.str _,.bl _=>true
 | _,_=>false
def rEq:R2:=fun x y H Q=>scal x y=true/\Q (.bl (decide (x=y))) H
def rNe:R2:=fun x y H Q=>scal x y=true/\Q (.bl (!decide (x=y))) H
theorem zc0{i j:Int}:decide (V.int i=V.int j)=(i==j):=by
 rw [Bool.eq_iff_iff]
 simp
theorem zcN{i j:Bool}:decide (V.bl i=V.bl j)=(i==j):=by
 rw [Bool.eq_iff_iff]
 simp
theorem zc8{i j:Str}:decide (V.str i=V.str j)=(i==j):=by
 rw [Bool.eq_iff_iff]
 simp
theorem zdP{i j:Array UInt8}:decide (V.byt i=V.byt j)=(i.toList==j.toList):=by
 rw [Bool.eq_iff_iff];cases i;cases j
 simp
section
variable{X:Cx}{a b c:Expr}{ta tb tc:TE}{pos:Pos}
theorem zG{pins:List (Addr×Obj)}{σ : St}{H:Hp}{s:Shared}{Q:VK}{k k':Bool}(I:Inv X pins σ H s)(q:Q (.bl k) H)(e:k=k'):EP X pins σ Q (.bool k') s:=by
 subst e;exact⟨.bl k,H,I,rfl,q⟩
theorem zfK:OpR X (compareOp .Eq) rEq:=by
 intro pins s σ H x y v u Q I rx ry h;obtain⟨hs,q⟩:=h;cases x with
 | non=>
  cases rx;cases y with
  | non=>cases ry;exact PySem.EqNone.eq_none_none (zG I q (by simp))
  | bl j=>cases ry;exact PySem.EqNone.eq_none_bool (zG I q (by simp))
  | int j=>obtain⟨t',rfl⟩:=ry;exact PySem.EqNone.eq_none_int (zG I q (by simp))
  | str j=>obtain⟨t',rfl⟩:=ry;exact PySem.EqNone.eq_none_str (zG I q (by simp))
  | _=>exact absurd (show false=true from hs) Yal
 | bl i=>
  cases rx;cases y with
  | non=>cases ry;exact PySem.EqNone.eq_bool_none (zG I q (by simp))
  | bl j=>cases ry;exact eq_bool (zG I q zcN)
  | str j=>obtain⟨t',rfl⟩:=ry;exact PySem.EqMixed.eq_bool_str (zG I q (by simp))
  | _=>exact absurd (show false=true from hs) Yal
 | int i=>
  obtain⟨t,rfl⟩:=rx;cases y with
  | non=>cases ry;exact PySem.EqNone.eq_int_none (zG I q (by simp))
  | int j=>obtain⟨t',rfl⟩:=ry;exact eq_int (zG I q zc0)
  | str j=>obtain⟨t',rfl⟩:=ry;exact PySem.EqMixed.eq_int_str (zG I q (by simp))
  | _=>exact absurd (show false=true from hs) Yal
 | str i=>
  obtain⟨t,rfl⟩:=rx;cases y with
  | non=>cases ry;exact PySem.EqNone.eq_str_none (zG I q (by simp))
  | bl j=>cases ry;exact PySem.EqMixed.eq_str_bool (zG I q (by simp))
  | int j=>obtain⟨t',rfl⟩:=ry;exact PySem.EqMixed.eq_str_int (zG I q (by simp))
  | str j=>obtain⟨t',rfl⟩:=ry;exact eq_str (zG I q zc8)
  | _=>exact absurd (show false=true from hs) Yal
 | byt i=>
  obtain⟨t,rfl⟩:=rx;cases y with
  | byt j=>obtain⟨t',rfl⟩:=ry;exact PySem.W.eq_bytes (zG I q zdP)
  | _=>exact absurd (show false=true from hs) Yal
 | _=>cases y<;>exact absurd (show false=true from hs) Yal
theorem zkj:OpR X (compareOp .NotEq) rNe:=by
 intro pins s σ H x y v u Q I rx ry h;obtain⟨hs,q⟩:=h;cases x with
 | non=>
  cases rx;cases y with
  | non=>cases ry;exact PySem.EqNone.ne_none_none (zG I q (by simp))
  | bl j=>cases ry;exact PySem.EqNone.ne_none_bool (zG I q (by simp))
  | int j=>obtain⟨t',rfl⟩:=ry;exact PySem.EqNone.ne_none_int (zG I q (by simp))
  | str j=>obtain⟨t',rfl⟩:=ry;exact PySem.EqNone.ne_none_str (zG I q (by simp))
  | _=>exact absurd (show false=true from hs) Yal
 | bl i=>
  cases rx;cases y with
  | non=>cases ry;exact PySem.EqNone.ne_bool_none (zG I q (by simp))
  | bl j=>cases ry;exact ne_bool (zG I q (congrArg not zcN))
  | str j=>obtain⟨t',rfl⟩:=ry;exact PySem.EqMixed.ne_bool_str (zG I q (by simp))
  | _=>exact absurd (show false=true from hs) Yal
 | int i=>
  obtain⟨t,rfl⟩:=rx;cases y with
  | non=>cases ry;exact PySem.EqNone.ne_int_none (zG I q (by simp))
  | int j=>obtain⟨t',rfl⟩:=ry;exact ne_int (zG I q (congrArg not zc0))
  | str j=>obtain⟨t',rfl⟩:=ry;exact PySem.EqMixed.ne_int_str (zG I q (by simp))
  | _=>exact absurd (show false=true from hs) Yal
 | str i=>
  obtain⟨t,rfl⟩:=rx;cases y with
  | non=>cases ry;exact PySem.EqNone.ne_str_none (zG I q (by simp))
  | bl j=>cases ry;exact PySem.EqMixed.ne_str_bool (zG I q (by simp))
  | int j=>obtain⟨t',rfl⟩:=ry;exact PySem.EqMixed.ne_str_int (zG I q (by simp))
  | str j=>obtain⟨t',rfl⟩:=ry;exact ne_str (zG I q (congrArg not zc8))
  | _=>exact absurd (show false=true from hs) Yal
 | byt i=>
  obtain⟨t,rfl⟩:=rx;cases y with
  | byt j=>obtain⟨t',rfl⟩:=ry;exact PySem.W.ne_bytes (zG I q (congrArg not zdP))
  | _=>exact absurd (show false=true from hs) Yal
 | _=>cases y<;>exact absurd (show false=true from hs) Yal
theorem zek:OpR X (compareOp .Lt) (rI0 fun i j=>.bl (decide (i<j))):=opB0 fun _ _ _ _ _ _ _ q=>lt_int q
theorem zfd:OpR X (compareOp .LtE) (rI0 fun i j=>.bl (decide (i<=j))):=opB0 fun _ _ _ _ _ _ _ q=>le_int q
theorem zhI:OpR X (compareOp .Gt) (rI0 fun i j=>.bl (decide (j<i))):=opB0 fun _ _ _ _ _ _ _ q=>gt_int q
theorem zif:OpR X (compareOp .GtE) (rI0 fun i j=>.bl (decide (j<=i))):=opB0 fun _ _ _ _ _ _ _ q=>ge_int q
theorem zjh:OpR X (compareOp .IsNot) (fun x y H Q=>y=.non/\Q (.bl (!decide (x=.non))) H):=by
 intro pins s σ H x y v u Q I rx ry h;obtain⟨rfl,q⟩:=h;cases ry;refine isnot_none_gen (zG I q ?_);cases x<;>first
  | (cases rx;rfl)
  | (obtain⟨t,rfl⟩:=rx;rfl)
theorem OpR.or{f:Value->Value->Sem Value}{r r':R2}(h:OpR X f r)(h':OpR X f r'):OpR X f (fun x y H Q=>r x y H Q\/r' x y H Q):=by
 intro pins s σ H x y v u Q I rx ry q
 rcases q with q|q
 . exact h pins s σ H x y v u Q I rx ry q
 . exact h' pins s σ H x y v u Q I rx ry q
theorem nomark(b:Expr){op:CmpOp}(h:op≠.In:=by decide)(h2:op≠.NotIn:=by decide):behindInMarks op b=false:=by
 have e1:(op==CmpOp.In)=false:=by cases op<;>first|rfl|exact absurd rfl h
 have e2:(op==CmpOp.NotIn)=false:=by cases op<;>first|rfl|exact absurd rfl h2
 cases b<;>simp [behindInMarks,e1,e2]
theorem zjj{op:CmpOp}{r:R2}(ho:OpR X (compareOp op) r)(ha:PE X a ta)(hb:PE X b tb)(hm:behindInMarks op b=false):PE X (.Compare a [op] [b] pos) (tOp r ta tb):=by
 intro pins s σ H Q I h;exact wpAny_Compare1 (binT ha hb I h fun v u s2 x y H2 I2 rx ry q=>ho pins s2 σ H2 x y v u Q I2 rx ry q) hm
def ZU(t:TE):TT:=fun σ H Q=>t σ H fun x H'=>∃ k,x=.bl k/\Q k H'
theorem zj1{op:CmpOp}{r:R2}(ho:OpR X (compareOp op) r)(ha:PE X a ta)(hb:PE X b tb)(hm:behindInMarks op b=false):PT X (.Compare a [op] [b] pos) (ZU (tOp r ta tb)):=by
 intro pins s σ H Q I h;refine wpAny_isTrue_Compare1 (thn (ha pins s σ H _ I h) fun v s1 ⟨x,H1,I1,r1,q1⟩=>thn (hb pins s1 σ H1 _ I1 q1) fun u s2 ⟨y,H2,I2,r2,q2⟩=>
  thn (ho pins s2 σ H2 x y v u _ I2 r1 r2 q2) fun c s3 ⟨z,H3,I3,r3,k,e,q3⟩=>?_) hm
 subst e;cases r3;exact wpAny_truthy_bool ⟨H3,I3,q3⟩
def zcK(r r':R2)(ta tb tc:TE):TE:=fun σ H Q=>ta σ H fun x H1=>tb σ H1 fun y H2=>r x y H2 fun z H3=>∃ k,z=.bl k/\
 (if k=true then tc σ H3 fun w' H4=>r' y w' H4 Q else Q (.bl false) H3)
theorem zgy{op op':CmpOp}{r r':R2}(ho:OpR X (compareOp op) r)(ho':OpR X (compareOp op') r')(ha:PE X a ta)(hb:PE X b tb)(hc:PE X c tc)
 (hm:lastMarks [op,op'] [b,c]=false:=by with_unfolding_all rfl):PT X (.Compare a [op,op'] [b,c] pos) (ZU (zcK r r' ta tb tc)):=by
 intro pins s σ H Q I h;refine isTrue_chain (thn (ha pins s σ H _ I h) fun v s1 ⟨x,H1,I1,r1,q1⟩=>test_link (thn (hb pins s1 σ H1 _ I1 q1) fun u s2 ⟨y,H2,I2,r2,q2⟩=>
  thn (ho pins s2 σ H2 x y v u _ I2 r1 r2 q2) fun d s3 ⟨z,H3,I3,r3,k,e,q3⟩=>?_)) hm
 subst e;cases r3;refine wpAny_truthy_bool ?_;cases k with
 | false=>
  obtain⟨k',e',q'⟩:=q3;cases e';exact ite_ff ⟨H3,I3,q'⟩
 | true=>
  refine ite_tt (test_last (thn (hc pins s3 σ H3 _ I3 q3) fun w' s4 ⟨z',H4,I4,r4,q4⟩=>thn (ho' pins s4 σ H4 y z' u w' _ I4 r2 r4 q4) fun d' s5 ⟨z2,H5,I5,r5,k2,e2,q5⟩=>?_))
  subst e2;cases r5;exact wpAny_truthy_bool ⟨H5,I5,q5⟩
theorem ZC:(sizeLine:Nat)<2 ^ 63:=by rw [sizeLine_eq];decide
theorem zgi:OpR X (binaryOp .Add) (fun x y H Q=>∃ i j,x=.str i/\y=.str j/\i.length+j.length<=sizeLine/\Q (.str (i++j)) H):=by
 intro pins s σ H x y v u Q I rx ry h;obtain⟨i,j,rfl,rfl,hz,q⟩:=h;obtain⟨t,rfl⟩:=rx;obtain⟨t',rfl⟩:=ry;exact add_str (fun t' tk=>⟨.str (i++j),H,I.tok _,⟨_,rfl⟩,q⟩) hz
theorem Ji{x:V}{us:List Value}(r:Vals [x] us):∃ u,us=[u]/\RelV x u:=by
 cases r with
 | cons r1 r2=>cases r2;exact⟨_,rfl,r1⟩
theorem zai{x y:V}{us:List Value}(r:Vals [x,y] us):∃ u w',us=[u,w']/\RelV x u/\RelV y w':=by
 cases r with
 | cons r1 r2=>
  cases r2 with
  | cons r3 r4=>cases r4;exact⟨_,_,rfl,r1,r3⟩
theorem ze6:zK X (.builtin "abs") (fun xs H Q=>∃ i,xs=[.int i]/\Q (.int (if i<0 then -i else i)) H):=by
 intro pins s σ H xs us Q I r h;obtain⟨i,rfl,q⟩:=h;obtain⟨u,rfl,t,rfl⟩:=Ji r;exact call_abs_int fun u tk=>⟨.int (if i<0 then -i else i),H,I.tok _,⟨_,rfl⟩,q⟩
theorem zeb(hc:X.calm=true):zK X (.builtin "min") (fun xs H Q=>∃ i j,xs=[.int i,.int j]/\Q (.int (if j<i then j else i)) H):=by
 intro pins s σ H xs us Q I r h;obtain⟨i,j,rfl,q⟩:=h;obtain⟨u,w',rfl,⟨t,rfl⟩,⟨t',rfl⟩⟩:=zai r;refine min_two_ints (I.ok.hd hc) fun h' tk k=>⟨_,H,I.kept k,?_,q⟩
 by_cases hj:j<i
 . rw [if_pos hj,if_pos hj];exact⟨_,rfl⟩
 . rw [if_neg hj,if_neg hj];exact⟨_,rfl⟩
end
structure ObjM(h:Heap)(x dx C:Addr)(mA:Str->Option Value):Prop where
 obj:h.get? x=some (PySem.W.instObj C dx)
 ns:h.Ns1 dx mA
 ne:dx≠x
theorem zgC{h:Heap}{dx:Addr}{mA:Str->Option Value}(n:h.Ns1 dx mA):∃ od,h.get? dx=some od/\∀ name,PySem.W.lookIn name od=some (mA name):=by
 obtain⟨o,es,ep,ho,hd,hk,_,hm⟩:=n;refine⟨o,ho,fun name=>?_⟩
 have e:=hm name;unfold nsFind findBy at e;rw [<-Array.find?_toList] at e;unfold PySem.W.lookIn;rw [hd];dsimp only
 split
 . rename_i y q
   rw [q] at e;exact congrArg some e
 . rename_i q
   rw [q] at e;have a:es.toList.any (·.refKey)=false:=by
    rw [List.any_eq_false];intro y hy;obtain⟨z,t,hkey⟩:=hk y (Array.mem_toList_iff.mp hy)
    simp [DictEntry.refKey,hkey]
   have a':¬es.toList.any (·.refKey)=true:=by rw [a];exact Yal
   rw [if_neg a'];exact congrArg some e
theorem ObjM.look{h:Heap}{x dx C:Addr}{mA:Str->Option Value}(I:ObjM h x dx C mA):∃ od,PySem.W.InstAt h x (PySem.W.instObj C dx) C (some od)/\∀ name,PySem.W.lookIn name od=some (mA name):=
 let ⟨od,ho,hl⟩:=zgC I.ns
 ⟨od,⟨I.obj,rfl,rfl,ho⟩,hl⟩
section
variable{prog:Program}{w:World}{A:Around}{E:Value->Shared->Prop}{s:Shared}{K:Ybf}{x dx C f:Addr}{mA:Str->Option Value}{name:Str}{v:Value}
end
theorem RelO.some_of{v:V}{o:Option Value}(r:RelO (some v) o):∃ u,o=some u/\RelV v u:=by
 cases o with
 | none=>exact(show False from r).elim
 | some u=>exact⟨u,rfl,r⟩
theorem RelO.none_of{o:Option Value}(r:RelO none o):o=none:=by
 cases o with
 | none=>rfl
 | some u=>exact(show False from r).elim
section
variable{P:Program}{w:World}{H H':Hp}{h h':Heap}{a C dx:Addr}{fs fs':List (Str×V)}
end
structure Cls(K:Ybf)(C:Addr):Prop where
 pg:PySem.W.plainGet K C Str.empty=true
 hd:PySem.W.hasDictIn K C=true
 po:PySem.W.plainOver K C=true
 sa:PySem.W.findIn K (.ref C) "__setattr__" = some (some (.builtin "object.__setattr__"))
theorem Cls.get{K:Ybf}{C:Addr}(c:Cls K C)(f:Str):PySem.W.plainGet K C f=true:=c.pg
def zcG(K:Ybf)(C:Addr)(f:Str):Prop:=PySem.W.findIn K (.ref C) f=some none
theorem zcG.taker{K:Ybf}{C:Addr}{f:Str}(n:zcG K C f):PySem.W.takerIn K C f=some none:=by
 unfold PySem.W.takerIn;rw [show PySem.W.findIn K (.ref C) f=some none from n]
 rfl
section
variable{X:Cx}{pins:List (Addr×Obj)}{σ : St}{H:Hp}{s:Shared}{a C dx:Addr}{fs:List (Str×V)}{f:Str}{v:V}{A:Around}{E:Value->Shared->Prop}
theorem Inv.made(I:Inv X pins σ H s):Inv X pins σ (upd (upd H s.heap.objs.size (.own (s.heap.objs.size+1))) (s.heap.objs.size+1) (.ins C s.heap.objs.size []))
 { s with heap:=(s.heap.push PySem.W.emptyDict).push (PySem.W.instObj C s.heap.objs.size) }:=by
 have e1:(s.heap.push PySem.W.emptyDict).get? s.heap.objs.size=some PySem.W.emptyDict:=Yan s.heap rfl;have e2:((s.heap.push PySem.W.emptyDict).push (PySem.W.instObj C s.heap.objs.size)).get? (s.heap.objs.size+1)=some (PySem.W.instObj C s.heap.objs.size):=by
  have:=Yan (s.heap.push PySem.W.emptyDict) (o:=PySem.W.instObj C s.heap.objs.size) rfl;rwa [WaA] at this
 have e3:(s.heap.push PySem.W.emptyDict).Ns s.heap.objs.size (fun _=>none):=⟨PySem.W.emptyDict,#[],_,e1,rfl,(fun e he=>absurd he (by simp)),fun _=>rfl⟩
 have I1:=I.laid (a:=s.heap.objs.size) (o:=.own (s.heap.objs.size+1)) (h':=s.heap.push PySem.W.emptyDict) (t':=s.toks) (fun b u q=>YaW _ q) (YaY _) ⟨_,e1⟩
 refine I1.laid (a:=s.heap.objs.size+1) (o:=.ins C s.heap.objs.size []) (t':=s.toks) (fun b u q=>YaW _ q) (Nat.le_of_eq (WaA _ _)) ?_
 have ne:s.heap.objs.size≠s.heap.objs.size+1:=Yaf (War _);refine⟨by rw [zh ne,zp],WaK _,ne,e2,fun _=>none,(Heap.Ns1.of_empty e3).at fun o q=>YaW _ q,fun _=>True.intro,fun y hy=>absurd rfl hy⟩
end
section
variable{X:Cx}{o e value:Expr}{f:Str}{pos pos' tpos:Pos}{ta tv:TE}
end
section
variable{X:Cx}{pins:List (Addr×Obj)}{σ : St}{H:Hp}{s:Shared}{A:Around}{E:Value->Shared->Prop}{Q:Value->Shared->Prop}{c:Value}{b:Bool}
end
structure Room(k:Nat)(A:Around):Prop where
 hd:A.handled=none
 dp:A.depth+3*k+5<recursionLimit
 un:A.units+16*k+200<cLine
theorem Room.mono{j k:Nat}{A:Around}(r:Room k A)(h:j<=k):Room j A:=⟨r.hd,by have:=r.dp;omega,by have:=r.un;omega⟩
theorem Room.deeper{k:Nat}{A:Around}(r:Room (k+1) A)(env:Env):Room k (A.deeper env):=
 ⟨r.hd,by have:=r.dp;show A.depth+1+3*k+5<_;omega,by have:=r.un;show A.units+3+16*k+200<_;omega⟩
theorem Room.in1{k:Nat}{A:Around}(r:Room (k+1) A):Room k A.in1:=
 ⟨r.hd,by have:=r.dp;show A.depth+3*k+5<_;omega,by have:=r.un;show A.units+1+16*k+200<_;omega⟩
theorem zjc{A:Around}{C:Addr}{us:List Value}{kw:List (Str×Value)}:(A.under (.builtin "type.__call__" ⟨.ref C::us,kw⟩)).depth=A.depth+1:=by
 first|rfl|simp [Around.under,Code.weight,Code.isCreation,Code.isGuard,Code.isCaller,Code.frames,Code.isFrame,guardIds]
theorem zkR{A:Around}{C:Addr}{us:List Value}{kw:List (Str×Value)}:(A.under (.builtin "type.__call__" ⟨.ref C::us,kw⟩)).units=A.units+1:=by
 first|rfl|simp [Around.under,Code.cUnits,Code.frames,Code.isFrame]
theorem Room.make{k:Nat}{A:Around}(r:Room (k+1) A)(C:Addr)(us:List Value)(kw:List (Str×Value)):Room k (A.under (.builtin "type.__call__" ⟨.ref C::us,kw⟩)):=
 ⟨r.hd,by have:=r.dp;rw [zjc];omega,by have:=r.un;rw [zkR];omega⟩
theorem Room.depth{k:Nat}{A:Around}(r:Room k A):A.depth<recursionLimit:=by have:=r.dp;omega
theorem Room.units{k:Nat}{A:Around}(r:Room k A):A.units+64<cLine:=by have:=r.un;omega
def tNil:TA:=fun _ H Q=>Q [] H
def zi2(ta:TE)(tr:TA):TA:=fun σ H Q=>ta σ H fun x H1=>tr σ H1 fun xs H2=>Q (x::xs) H2
section
variable{X:Cx}{e:Expr}{es:List Expr}{te:TE}{t:TA}{pos:Pos}
theorem jt:PA X [] tNil:=fun _ _ _ _ H Q I h=>Calls.spliced_nil ⟨[],H,I,.nil,h⟩
theorem z9(ha:PE X e te)(hr:PA X es t)(hs:starEach (e::es) X.env=(false,eval e X.env)::starEach es X.env:=by rfl):PA X (e::es) (zi2 te t):=by
 intro pos pins s σ H Q I h;rw [hs];show wpAny _ _ (spliced ((false,eval e X.env)::backTo pos (starEach es X.env))) _ _ s;refine Calls.spliced_cons (thn (ha pins s σ H _ I h) fun u s1 ⟨x,H1,I1,r1,q1⟩=>?_)
 exact thn (hr pos pins s1 σ H1 _ I1 q1) fun us s2 ⟨xs,H2,I2,r2,q2⟩=>⟨x::xs,H2,I2,.cons r1 r2,q2⟩
def tTup(t:TA):TE:=fun σ H Q=>t σ H fun xs H1=>xs.length<=sizeLine/\∀ p,H1 p=none->Q (.ref p) (upd H1 p (.tup xs))
def tLst(t:TA):TE:=fun σ H Q=>t σ H fun xs H1=>xs.length<=sizeLine/\∀ p,H1 p=none->Q (.ref p) (upd H1 p (.lst xs))
theorem zaN{x1}(h:PA X es t):PE X (.Tuple es x1 pos) (tTup t):=by
 intro pins s σ H Q I hq;refine wpAny_Tuple_spliced (thn (h pos pins s σ H _ I hq) fun us s1 ⟨xs,H1,I1,r,z,q⟩=>⟨by rw [<-r.length];exact z,?_⟩)
 have hf:H1 s1.heap.objs.size=none:=I1.hok.fresh (YaY _);refine⟨.ref s1.heap.objs.size,upd H1 s1.heap.objs.size (.tup xs),I1.laid (t':=s1.toks) (fun b u e=>YaW _ e) (YaY _) ?_,rfl,q _ hf⟩
 exact⟨z,us,r,⟨_,Yan _ rfl,rfl,_,rfl⟩⟩
theorem zcJ(h:PA X es t):PE X (.List es pos) (tLst t):=by
 intro pins s σ H Q I hq;refine wpAny_List_spliced (thn (h pos pins s σ H _ I hq) fun us s1 ⟨xs,H1,I1,r,z,q⟩=>⟨by rw [<-r.length];exact z,?_⟩)
 have hf:H1 s1.heap.objs.size=none:=I1.hok.fresh (YaY _);refine⟨.ref s1.heap.objs.size,upd H1 s1.heap.objs.size (.lst xs),I1.laid (t':=s1.toks) (fun b u e=>YaW _ e) (YaY _) ?_,rfl,q _ hf⟩
 exact⟨z,us,0,r,Yan _ rfl⟩
end
abbrev Sp:=List V->Hp->VK->XK->Prop
abbrev CXT:=List Env->Hp->Shared->XK->Value->Shared->Prop
structure Env0(P:Program)(w:World)(K:Ybf)(mg:Str->Option Value)(base:Heap)(A:Around)(outer:List Env)(s:Shared)(H:Hp):Prop where
 frames:A.frames=some outer
 mod:Mod K mg base
 bs:∀ b o,base.get? b=some o->s.heap.get? b=some o/\H b=none
 bsz:base.objs.size<=s.heap.objs.size
 funs:s.heap.FunFrames base outer
 frf:∀ b∈frs outer,H b=none
 hok:HOk P w H s.heap
 bare:AllBare s.gens
def CE(outer:List Env)(P:Program)(w:World)(H:Hp)(s:Shared)(Q:VK)(u:Value)(s':Shared):Prop:=
 ∃ v H',s'.os=s.os/\AllBare s'.gens/\Un (frs outer) [] H H' s.heap s'.heap/\HOk P w H' s'.heap/\RelV v u/\Q v H'
def CR(CX:CXT)(outer:List Env)(P:Program)(w:World)(H:Hp)(s:Shared)(Q:VK)(E:XK)(r:Result)(s':Shared):Prop:=
 match r with
 | .ok (.ret u)=>CE outer P w H s Q u s'
 | .ok _=>False
 | .error e=>CX outer H s E e s'
structure FnOk(P:Program)(w:World)(K:Ybf)(mg:Str->Option Value)(base:Heap)(CX:CXT)(k:Nat)(f:Addr)(fd:FuncData)(ps:List Str)(sp:Sp):Prop where
 len:∀ vs H Q E,sp vs H Q E->vs.length=ps.length
 run:∀ (A:Around) (outer:List Env) (s:Shared) (H:Hp) (args:Args) (us:List Value) (vs:List V) (Q:VK) (E:XK),Room k A->Env0 P w K mg base A outer s H->BindsTo s fd args (ps.zip us)->Vals vs us->sp vs H Q E->
  codeAny (model P w) A (.call (.ref f) args) (CR CX outer P w H s Q E) s
theorem FnOk.mono{P:Program}{w:World}{K:Ybf}{mg:Str->Option Value}{base:Heap}{CX:CXT}{j k:Nat}{f:Addr}{fd:FuncData}{ps:List Str}{sp:Sp}(F:FnOk P w K mg base CX j f fd ps sp)(h:j<=k) :
 FnOk P w K mg base CX k f fd ps sp:=⟨F.len,fun A outer s H args us vs Q E hr=>F.run A outer s H args us vs Q E (hr.mono h)⟩
theorem FnOk.imp{P:Program}{w:World}{K:Ybf}{mg:Str->Option Value}{base:Heap}{CX:CXT}{k:Nat}{f:Addr}{fd:FuncData}{ps:List Str}{sp sp':Sp}(F:FnOk P w K mg base CX k f fd ps sp)
 (h:∀ vs H Q E,sp' vs H Q E->sp vs H Q E):FnOk P w K mg base CX k f fd ps sp':=
 ⟨fun vs H Q E q=>F.len vs H Q E (h _ _ _ _ q),fun A outer s H args us vs Q E hr he hb hv hs=>F.run A outer s H args us vs Q E hr he hb hv (h _ _ _ _ hs)⟩
theorem Env0.make{P:Program}{w:World}{K:Ybf}{mg:Str->Option Value}{base:Heap}{A:Around}{outer:List Env}{s:Shared}{H:Hp}(e:Env0 P w K mg base A outer s H)(C:Addr)(us:List Value)(kw:List (Str×Value)) :
 Env0 P w K mg base (A.under (.builtin "type.__call__" ⟨.ref C::us,kw⟩)) outer s H:=⟨by first|exact e.frames|(simpa [Around.under,Code.envs,Code.isFrame,pushEnvs] using e.frames),e.mod,e.bs,e.bsz,e.funs,e.frf,e.hok,e.bare⟩
theorem Env0.in1{P:Program}{w:World}{K:Ybf}{mg:Str->Option Value}{base:Heap}{A:Around}{outer:List Env}{s:Shared}{H:Hp}(e:Env0 P w K mg base A outer s H) :
 Env0 P w K mg base A.in1 outer s H:=⟨e.frames,e.mod,e.bs,e.bsz,e.funs,e.frf,e.hok,e.bare⟩
section
variable{X:Cx}{pins:List (Addr×Obj)}{σ : St}{H:Hp}{s s':Shared}
theorem Inv.env0(I:Inv X pins σ H s):Env0 X.prog X.w X.K X.mg X.base X.A X.stack s H:=
 ⟨I.ok.frames,I.ok.mod,I.bs,Ya5 I.ok.bsz I.sz,I.stack,I.stkFree,I.hok,I.bare⟩
theorem Inv.after{Q:VK}{u:Value}(I:Inv X pins σ H s)(h:CE X.stack X.prog X.w H s Q u s'):EP X pins σ Q u s':=by
 obtain⟨v,H',os,bare,un,hok,r,q⟩:=h;obtain⟨hh,g,d,t,os'⟩:=s';obtain rfl:os'=s.os:=os;exact⟨v,H',I.call (h':=hh) (g':=g) (d':=d) (t':=t) (ch:=[]) un hok bare (fun b z=>absurd z (by simp)),r,q⟩
end
def zdJ(sp:Sp)(dvs:List V)(E:XK)(t:TA):TE:=fun σ H Q=>t σ H fun vs H1=>sp (vs++dvs) H1 Q E
def Binds(K:Ybf)(fd:FuncData)(ps:List Str)(ds:List Value):Prop:=
 ∀ (s:Shared) (us:List Value),K.In s.heap->(us++ds).length=ps.length->BindsTo s fd ⟨us,[]⟩ (ps.zip (us++ds))
theorem Binds.all{K:Ybf}{fd:FuncData}{ps:List Str}(h:∀ us:List Value,us.length=ps.length->bindArgs fd ⟨us,[]⟩=pure (ps.zip us)):Binds K fd ps []:=fun s us _ hl=>by
 rw [Yao] at hl ⊢;exact .of_eq (h us hl)
def Passes(CX:CXT)(X:Cx)(E:XK):Prop:=∀ (pins:List (Addr×Obj)) (σ : St) (H:Hp) (s:Shared) (e:Value) (s':Shared),Inv X pins σ H s->CX X.stack H s E e s'->X.xe e s'
section
variable{X:Cx}{CX:CXT}{k:Nat}{f C:Addr}{fd:FuncData}{ps:List Str}{sp:Sp}{dvs:List V}{ds:List Value}{E:XK}{x m:Str}{p pos apos:Pos}{e o:Expr}{es:List Expr}{ta:TE}{t:TA}
theorem zeJ{pins:List (Addr×Obj)}{σ : St}{H:Hp}{s:Shared}{Q:VK}{us:List Value}{vs:List V}(F:FnOk X.prog X.w X.K X.mg X.base CX k f fd ps sp)(hr:Room k X.A)(hb:Binds X.K fd ps ds)(hd:Vals dvs ds)(hx:Passes CX X E)
 (I:Inv X pins σ H s) (r:Vals vs us) (h:sp (vs++dvs) H Q E):wpAny (model X.prog X.w) X.A (call (.ref f) us) (EP X pins σ Q) X.xe s:=by
 have r2:Vals (vs++dvs) (us++ds):=r.append hd;have hl:(us++ds).length=ps.length:=by rw [<-r2.length];exact F.len _ _ _ _ h
 refine wpAny_call (codeAny_mono (F.run X.A X.stack s H ⟨us,[]⟩ (us++ds) (vs++dvs) Q E hr I.env0 (hb s us I.kIn hl) r2 h) fun r s' hq=>?_)
 cases r with
 | error e=>exact hx pins σ H s e s' I hq
 | ok fl=>
  cases fl with
  | ret u=>exact I.after hq
  | next=>exact False.elim hq
  | brk=>exact False.elim hq
  | cont=>exact False.elim hq
theorem zfG(F:FnOk X.prog X.w X.K X.mg X.base CX k f fd ps sp)(hr:Room k X.A)(hg:Gl X x)(hm:X.mg x=some (.ref f))(hk:PySem.W.keepIn X.K (.ref f)=true)(hb:Binds X.K fd ps ds)(hd:Vals dvs ds)(hx:Passes CX X E)
 (ha:PA X (e::es) t) (hdb:(x==("__debug__" : Str))=false:=by decide) (he:starEach (e::es) X.env=(false,eval e X.env)::starEach es X.env:=by rfl) (hpl:(backTo pos (starEach es X.env)).any (·.1)=false:=by rfl) :
 PE X (.Call (.Name x p) (e::es) [] pos) (zdJ sp dvs E t):=by
 intro pins s σ H Q I h;refine wpAny_Call_Name_kw (zac I hg hm ?_ hdb);refine PySem.W.callWith_K (h₀:=X.base) I.ok.mod.kin hk (thn (ha pos pins s σ H _ I h) fun us s1 ⟨vs,H1,I1,r,q⟩=>⟨I1.kIn,?_⟩) he hpl
 exact zeJ F hr hb hd hx I1 r q
end
section
variable{X:Cx}{CX:CXT}{k:Nat}{f C:Addr}{fd:FuncData}{ps ks:List Str}{sp:Sp}{E:XK}{x m:Str}{p pos apos kpos:Pos}{e o:Expr}{es:List Expr}{kws:List Keyword}{te ta:TE}{t tk:TA}{nm:Option Str}
variable{g:List Value->List Value->List Value}{gV:List V->List V->List V}
end
structure FnScope(N P:List Str)(sc:Scope):Prop where
 kind:sc.kind=.function
 co:sc.isCoroutine=false
 gen:sc.isGenerator=false
 nd:N.Nodup
 pre:N.take P.length=P
 par:∀ x∈P,sc.names.lookup x=some .local\/sc.names.lookup x=some .cell
 nofree:∀ y∈sc.names,y.2≠.free
theorem zdq{kindOf:Str->Option NameKind}{x:Str}:∀ {binds:List (Str×Value)} {m:Str->Option Value},(∀ v,(x,v)∉binds)->bindL kindOf binds m x=m x
 | [],_,_=>rfl
 | (n, v) :: r, m, h => by
  unfold bindL;rw [zdq fun w hw=>h w (YaT _ hw)]
  split
  . have:x≠n:=by rintro rfl;exact h v YaV
    simp [this]
  . rfl
theorem zde{kindOf:Str->Option NameKind}{x:Str}:∀ {binds:List (Str×Value)} {m:Str->Option Value},(∀ v,(x,v)∉binds)->bindC kindOf binds m x=m x
 | [],_,_=>rfl
 | (n, v) :: r, m, h => by
  unfold bindC;rw [zde fun w hw=>h w (YaT _ hw)]
  split
  . rfl
  . have:x≠n:=by rintro rfl;exact h v YaV
    simp [this]
theorem zcH{kindOf:Str->Option NameKind}{x:Str}{v:Value}:∀ {P:List Str} {vs:List Value} {i:Nat} {m:Str->Option Value},P.Nodup->P[i]?=some x->vs[i]?=some v->kindOf x=some .local->
 bindL kindOf (P.zip vs) m x=some v
 | [],_,_,_,_,h,_,_=>by simp at h
 | _::_,[],_,_,_,_,h,_=>by simp at h
 | p :: P, w :: vs, 0, m, nd, h1, h2, hk => by
  simp at h1 h2;subst h1;subst h2
  show bindL kindOf ((p,w)::P.zip vs) m p=_
  unfold bindL;rw [zdq fun v hv=>(YaB.mp nd).1 (List.of_mem_zip hv).1,if_pos hk]
  simp
 | p :: P, w :: vs, i + 1, m, nd, h1, h2, hk => by
  show bindL kindOf ((p,w)::P.zip vs) m x=_
  unfold bindL;exact zcH (i:=i) (YaB.mp nd).2 (by simpa using h1) (by simpa using h2) hk
theorem zcr{kindOf:Str->Option NameKind}{x:Str}{v:Value}:∀ {P:List Str} {vs:List Value} {i:Nat} {m:Str->Option Value},P.Nodup->P[i]?=some x->vs[i]?=some v->kindOf x≠some .local->
 bindC kindOf (P.zip vs) m x=some v
 | [],_,_,_,_,h,_,_=>by simp at h
 | _::_,[],_,_,_,_,h,_=>by simp at h
 | p :: P, w :: vs, 0, m, nd, h1, h2, hk => by
  simp at h1 h2;subst h1;subst h2
  show bindC kindOf ((p,w)::P.zip vs) m p=_
  unfold bindC;rw [zde fun v hv=>(YaB.mp nd).1 (List.of_mem_zip hv).1,if_neg hk]
  simp
 | p :: P, w :: vs, i + 1, m, nd, h1, h2, hk => by
  show bindC kindOf ((p,w)::P.zip vs) m x=_
  unfold bindC;exact zcr (i:=i) (YaB.mp nd).2 (by simpa using h1) (by simpa using h2) hk
def start(N:List Str)(vs:List V):St:=vs.map some++List.replicate (N.length - vs.length) none
def cxOf(CX:CXT)(P:Program)(w:World)(K:Ybf)(mg:Str->Option Value)(base:Heap)(N:List Str)(qual:Str)(scope:Scope)(f:Addr)(cd:Value)(A:Around)(outer:List Env)(s:Shared)(H:Hp)(E:XK):Cx where
 prog:=P
 w:=w
 K:=K
 mg:=mg
 base:=base
 A:=A.deeper (envOfC qual scope s.heap.objs.size f cd)
 N:=N
 s₀:=s
 H₀:=H
 env:=envOfC qual scope s.heap.objs.size f cd
 outer:=outer
 stack:=envOfC qual scope s.heap.objs.size f cd::outer
 ex:=[]
 calm:=true
 fn:=fun _=>true
 pn:=[]
 xe:=fun e s'=>wpAny (model P w) (A.deeper (envOfC qual scope s.heap.objs.size f cd)) (leaving (envOfC qual scope s.heap.objs.size f cd) e) (fun _ s''=>CX outer H s E e s'') (fun e' s''=>CX outer H s E e' s'') s'
theorem zcw{sc:Scope}{n:Nat}{x:Str}(h:sc.names.lookup x=some .cell):∃ c,(cellsFrom n sc.names []).lookup x=some c:=by
 have q:=Waf sc.names n [] (.inl h);exact Wad.mp q
theorem zir{CX:CXT}{P:Program}{w:World}{K:Ybf}{mg:Str->Option Value}{base:Heap}{N ps:List Str}{qual:Str}{scope:Scope}{f:Addr}{cd:Value}{A:Around}{outer:List Env}{s s1:Shared}{H:Hp}{E:XK}{us:List Value}{vs:List V}
 (S:FnScope N ps scope) (hd:A.handled=none) (e0:Env0 P w K mg base A outer s H) (hl:vs.length=ps.length) (r:Vals vs us)
 (x:InCallC s s.heap.objs.size (bindL (envOfC qual scope s.heap.objs.size f cd).kindOf (ps.zip us) fun _=>none) (cellsFrom (s.heap.objs.size+1) scope.names []) (bindC (envOfC qual scope s.heap.objs.size f cd).kindOf (ps.zip us) fun _=>none) s1) :
 Inv (cxOf CX P w K mg base N qual scope f cd A outer s H E) [] (start N vs) H s1:=by
 have hpl:ps.length<=N.length:=by have:=congrArg List.length S.pre;rw [List.length_take] at this;omega
 obtain⟨h1,tk,rfl,hk⟩:=x.done;have noA:∀ b:Addr,b∉(cxOf CX P w K mg base N qual scope f cd A outer s H E).ex:=fun b z=>absurd (show b∈([]:List Addr) from z) (by simp)
 refine⟨⟨e0.mod,S.kind,rfl,rfl,YaY _,fun y z c h1 h2=>?_,fun y hy=>?_,fun y c _ h=>?_,fun _=>hd,Around.frames_deeper e0.frames,.inr ⟨rfl,rfl⟩,fun b z=>absurd z (noA b),e0.bs,e0.bsz,fun b _ _=>noA b,fun b z=>absurd z (noA b),e0.funs,e0.frf⟩,
  rfl,e0.bare,Un.kept hk,⟨_,x.toInCall.ns,fun i y v h1 h2 h3=>?_⟩,fun y c h=>⟨_,x.cell y c h⟩,e0.hok.fresh (YaY _),fun y c h=>?_,fun p hp=>absurd (show p∈([]:List (Addr×Obj)) from hp) (by simp),e0.hok.kept hk,?_⟩
 . exact name_of_addr x.apart (Wag h1) (Wag h2)
 . have hy:scope.names.lookup y=some .cell\/scope.names.lookup y=some .free:=hy
   rcases hy with hy|hy
   . exact zcw hy
   . exact absurd rfl (S.nofree _ (Wag hy))
 . exact Nat.le_of_lt (x.above y c (Wag h))
 . have hi:i<vs.length:=by
    unfold start at h2
    by_cases hi:i<vs.length
    . exact hi
    . rw [Yae (by simpa using hi)] at h2
      rw [Yad] at h2
      split at h2<;>cases h2
   have ha:vs[i]?=some v:=by
    unfold start at h2;rw [Yab (by simpa using hi),Ya0] at h2
    cases e:vs[i]? with
    | none=>rw [e] at h2;cases h2
    | some a=>rw [e] at h2;cases h2;rfl
   obtain⟨u,hu,rv⟩:=r.get ha;have hp:ps[i]?=some y:=by
    rw [<-S.pre,List.getElem?_take_of_lt #[0]];exact h1
   have ndP:ps.Nodup:=by rw [<-S.pre];exact S.nd.sublist (List.take_sublist _ _)
   refine⟨u,rv,?_⟩
   rcases S.par y (Yah hp) with k|k
   . exact .inl ⟨k,zcH ndP hp hu k⟩
   . obtain⟨c,e⟩:=zcw (n:=s.heap.objs.size+1) k
     refine .inr ⟨.inl k,c,e,?_⟩
     have q:=x.cell y c e;rw [zcr ndP hp hu (by show scope.names.lookup y≠_;rw [k];decide)] at q
     exact q
 . exact e0.hok.fresh (Nat.le_of_lt (x.above y c (Wag h)))
 . unfold start
   show _=N.length
   rw [YaS,YaR,Ybb]
   omega
theorem zct{CX:CXT}{P:Program}{w:World}{K:Ybf}{mg:Str->Option Value}{base:Heap}{k:Nat}{f:Addr}{name qual:Str}{params:Arguments}{body:List Stmt}{scope:Scope}{dV kV doc pm cdv ct oc:Value}{an od:Option Addr}
 {osl:Array (Option Value)} {N ps:List Str} {sp:Sp} (lk:K.lookup f=some ⟨oc,od,.func (PySem.W.fnOf name qual params body scope dV kV doc pm an cdv ct),osl⟩) (hcd:PySem.W.codeIn K cdv qual=true) (S:FnScope N ps scope)
 (len:∀ vs H Q E,sp vs H Q E->vs.length=ps.length)
 (hbody:∀ (A:Around) (outer:List Env) (s:Shared) (H:Hp) (vs:List V) (Q:VK) (E:XK),Room k (A.deeper (envOfC qual scope s.heap.objs.size f cdv))->sp vs H Q E->
  ∃ t,PSs (cxOf CX P w K mg base N qual scope f cdv A outer s H E) body t/\t { nx:=fun _ H'=>Q .non H',rt:=Q } (start N vs) H) :
 FnOk P w K mg base CX (k+1) f (PySem.W.fnOf name qual params body scope dV kV doc pm an cdv ct) ps sp:=by
 refine⟨len,fun A outer s H args us vs Q E hr e0 hb r hsp=>?_⟩
 have hl:=len _ _ _ _ hsp;have KX:K.In s.heap:=e0.mod.kin.keeps fun b o e=>(e0.bs b o e).1
 have lim:s.heap.NoLimit:=e0.mod.nolimit.keeps fun b o e=>(e0.bs b o e).1
 have hkind:∀ y∈ps.zip us,scope.names.lookup y.1=some .local\/(scope.names.lookup y.1=some .cell/\((cellsFrom (s.heap.objs.size+1) scope.names []).lookup y.1).isSome=true):=fun⟨n,v⟩ hy=>by
  rcases S.par n (List.of_mem_zip hy).1 with q|q
  . exact .inl q
  . exact .inr ⟨q,Waf _ _ _ (.inl q)⟩
 refine codeAny_call_function hr.depth (KX _ _ lk) rfl S.co S.gen rfl (PySem.W.codeRec_of KX hcd) (hb _ _ _ _ ?_)
 refine wpAny_newFunctionEnv_cells S.kind hkind fun env he s1 x=>?_
 subst he;refine⟨lim.keeps x.toInCall.keep,codeAny_func ?_⟩;obtain⟨t,ht,hq⟩:=hbody A outer s H vs Q E (hr.deeper _) hsp;have I:Inv (cxOf CX P w K mg base N qual scope f cdv A outer s H E) [] (start N vs) H s1:=zir S hr.hd e0 hl r x;refine wpAny_mono (ht [] s1 (start N vs) H _ I hq) (fun fl s' hs=>?_) fun e s' hs=>hs
 have fin:∀ {σ':St} {H':Hp} {v:V} {u:Value},Inv (cxOf CX P w K mg base N qual scope f cdv A outer s H E) [] σ' H' s'->RelV v u->Q v H'->CE outer P w H s Q u s':=
  fun {σ' H' v u} J rv q=>⟨v,H',J.os,J.bare,J.base,J.hok,rv,q⟩
 cases fl with
 | ret u=>
  obtain⟨v,σ',H',J,rv,q⟩:=hs;exact fin J rv q
 | next=>
  obtain⟨σ',H',J,q⟩:=hs;exact fin (v:=V.non) (u:=Value.none) J rfl q
 | brk=>
  obtain⟨_,_,_,q⟩:=hs;exact False.elim q
 | cont=>
  obtain⟨_,_,_,q⟩:=hs;exact False.elim q
section
variable{X:Cx}{x:Str}{p pos:Pos}{e:Expr}{es:List Expr}{t:TA}{id T:String}{r:List V->Hp->VK->Prop}
def tCB(r:List V->Hp->VK->Prop)(t:TA):TE:=fun σ H Q=>t σ H fun vs H1=>r vs H1 Q
theorem ZM(hc:zK X (.builtin id) r)(hg:Gl X x)(hm:X.mg x=none)(hv:bootBuiltins x=some (.builtin id))(ha:PA X (e::es) t)(hn:x≠"__name__":=by decide)(hdb:(x==("__debug__" : Str))=false:=by decide)
 (he:starEach (e::es) X.env=(false,eval e X.env)::starEach es X.env:=by rfl) (hpl:(backTo pos (starEach es X.env)).any (·.1)=false:=by rfl):PE X (.Call (.Name x p) (e::es) [] pos) (tCB r t):=by
 intro pins s σ H Q I h;refine wpAny_Call_Name_kw (j8 I hg hm hv ?_ hn hdb);exact PyProof.Rows.callWith_builtin1 (thn (ha pos pins s σ H _ I h) fun us s1 ⟨vs,H1,I1,r1,q1⟩=>hc pins s1 σ H1 vs us Q I1 r1 q1) he hpl
theorem ziv(hc:zK X (.type T) r)(hg:Gl X x)(hm:X.mg x=none)(hv:bootBuiltins x=some (.type T))(ha:PA X (e::es) t)(hn:x≠"__name__":=by decide)(hdb:(x==("__debug__" : Str))=false:=by decide)
 (he:starEach (e::es) X.env=(false,eval e X.env)::starEach es X.env:=by rfl) (hpl:(backTo pos (starEach es X.env)).any (·.1)=false:=by rfl):PE X (.Call (.Name x p) (e::es) [] pos) (tCB r t):=by
 intro pins s σ H Q I h;refine wpAny_Call_Name_kw (j8 I hg hm hv ?_ hn hdb);exact Wab (thn (ha pos pins s σ H _ I h) fun us s1 ⟨vs,H1,I1,r1,q1⟩=>hc pins s1 σ H1 vs us Q I1 r1 q1) he hpl
end
end L2
namespace HT
open PySem PyProof.Rows
section
open PySem.SeqAt
open PySem.AutoSeq1 (wpAny_loadPart')
open PySem.MeetsSeq PySem.MeetsSeq2 PySem.MeetsSeq3
end
section
variable{prog:Program}{w:World}{A:Around}{E:Value->Shared->Prop}{s:Shared}
def sIx(n d:Nat):Option Int->Nat
 | none=>d
 | some v=>if v<0 then(v+(n:Int)).toNat else min v.toNat n
theorem sIx_none(n d:Nat):sIx n d none=d:=rfl
theorem sIx_nat(n d k:Nat):sIx n d (some (k:Int))=min k n:=by
 show(if(k:Int)<0 then((k:Int)+(n:Int)).toNat else min (k:Int).toNat n)=min k n
 rw [if_neg #[0],Int.toNat_natCast]
end
end HT
namespace L2
open PySem PySem.Spec PyProof.Rows
abbrev TO:=St->Hp->(Option Int->Hp->Prop)->Prop
def PO(X:Cx)(e:Option Expr)(t:TO):Prop:=
 ∀ (pins:List (Addr×Obj)) (s:Shared) (σ : St) (H:Hp) (Q:Option Int->Hp->Prop),Inv X pins σ H s->t σ H Q->
  wpAny (model X.prog X.w) X.A (evalPart e X.env) (fun u s'=>∃ o H',Inv X pins σ H' s'/\IsPart u o/\Q o H') X.xe s
def tNoPart:TO:=fun _ H Q=>Q none H
def zeu(t:TE):TO:=fun σ H Q=>t σ H fun x H1=>∃ i,x=.int i/\Q (some i) H1
theorem zdv{ns:List Int}:∀ {us:List Value},Vals (ns.map V.int) us->IntsAre us ns:=by
 induction ns with
 | nil=>intro us r;rw [WaI] at r;cases r;exact .nil
 | cons n ns ih=>
  intro us r;rw [Ya1] at r;cases r with
  | cons r1 r2=>
   obtain⟨t,e⟩:=r1;subst e;exact .cons n t (ih r2)
section
variable{X:Cx}{e:Expr}{te:TE}{lo hi:Option Expr}{tl th:TO}{pos p2:Pos}
theorem ziV:PO X none tNoPart:=by
 intro pins s σ H Q I h;rw [evalPart_none];exact wpAny_pure ⟨none,H,I,.none,h⟩
theorem zhb(h:PE X e te):PO X (some e) (zeu te):=by
 intro pins s σ H Q I hw;rw [evalPart_some];refine thn (h pins s σ H _ I hw) fun u s1 ⟨x,H1,I1,r1,q1⟩=>?_
 obtain⟨i,rfl,q⟩:=q1;obtain⟨t,rfl⟩:=r1;exact⟨some i,H1,I1,.int i t,q⟩
def SlR(X:Cx)(r:V->Option Int->Option Int->Hp->VK->Prop):Prop:=
 ∀ (pins:List (Addr×Obj)) (s:Shared) (σ : St) (H:Hp) (x:V) (v vl vu:Value) (lo hi:Option Int) (sl:Addr) (Q:VK),Inv X pins σ H s->RelV x v->s.heap.IsSliceOf sl vl vu .none->IsPart vl lo->IsPart vu hi->r x lo hi H Q->
  ∃ T id,typeLookup (.type T) "__getitem__" = pure (some (.builtin id))/\s.TypeIs v T/\wpAny (model X.prog X.w) X.A (getItem v (.ref sl)) (EP X pins σ Q) X.xe s
theorem SlR.or{r r':V->Option Int->Option Int->Hp->VK->Prop}(h:SlR X r)(h':SlR X r'):SlR X (fun x lo hi H Q=>r x lo hi H Q\/r' x lo hi H Q):=by
 intro pins s σ H x v vl vu lo hi sl Q I rx hs pl pu q
 rcases q with q|q
 . exact h pins s σ H x v vl vu lo hi sl Q I rx hs pl pu q
 . exact h' pins s σ H x v vl vu lo hi sl Q I rx hs pl pu q
def tSl(r:V->Option Int->Option Int->Hp->VK->Prop)(te:TE)(tl th:TO):TE:=fun σ H Q=>te σ H fun x H1=>tl σ H1 fun l H2=>th σ H2 fun u H3=>r x l u H3 Q
theorem zkH{r:V->Option Int->Option Int->Hp->VK->Prop}(hr:SlR X r)(he:PE X e te)(hl:PO X lo tl)(hu:PO X hi th):PE X (.Subscript e (.Slice lo hi none p2) pos) (tSl r te tl th):=by
 intro pins s σ H Q I h;refine Subscript_ (thn (he pins s σ H _ I h) fun v s1 ⟨x,H1,I1,r1,q1⟩=>?_)
 refine wpAny_Slice (thn (hl pins s1 σ H1 _ I1 q1) fun vl s2 ⟨l,H2,I2,pl,q2⟩=>thn (hu pins s2 σ H2 _ I2 q2) fun vu s3 ⟨u,H3,I3,pu,q3⟩=>?_)
 rw [evalPart_none];refine wpAny_pure ?_;have I4:Inv X pins σ H3 { s3 with heap:=s3.heap.push { cls:=.type "slice", data:=.fields #[vl,vu,.none] } }:=I3.kept (t':=s3.toks) fun b ob q=>YaW _ q
 obtain⟨T,id,hT,ht,hg⟩:=hr pins { s3 with heap:=s3.heap.push { cls:=.type "slice", data:=.fields #[vl,vu,.none] } } σ H3 x v vl vu l u s3.heap.objs.size Q I4 r1 (Heap.IsSliceOf.new ..) pl pu q3
 show wpAny (model X.prog X.w) X.A (subscriptTail e (.Slice lo hi none p2) v (.ref s3.heap.objs.size)) (EP X pins σ Q) X.xe { s3 with heap:=s3.heap.push { cls:=.type "slice", data:=.fields #[vl,vu,.none] } }
 exact tail_any (ops:=[.ref s3.heap.objs.size,v]) ht hT hg (by with_unfolding_all rfl)
def cutV(xs:List V)(lo hi:Option Int):List V:=(xs.drop (HT.sIx xs.length 0 lo)).take (HT.sIx xs.length xs.length hi - HT.sIx xs.length 0 lo)
theorem zig(xs:List V)(lo hi:Option Int):(cutV xs lo hi).length<=xs.length:=by
 unfold cutV;rw [List.length_take,List.length_drop]
 omega
end
def ixN(n:Nat)(i:Int):Option Nat:=if 0<=i then(if i<n then some i.toNat else none) else if -(n:Int)<=i then some (i+n).toNat else none
def atI{α : Type}(xs:List α)(i:Int):Option α:=(ixN xs.length i).bind fun j=>xs[j]?
theorem zcS{n:Nat}{i:Int}{j:Nat}(h:ixN n i=some j):seqIndex? i n=some j/\j<n/\-(n:Int)<=i/\i<n:=by
 unfold ixN at h
 by_cases h0:0<=i
 . rw [if_pos h0] at h
   by_cases h1:i<n
   . rw [if_pos h1] at h
     have e:i.toNat=j:=Waz h;exact⟨by rw [seqIndex_of h0 h1,e],#[0],#[0],h1⟩
   . rw [if_neg h1] at h;cases h
 . rw [if_neg h0] at h
   by_cases h1:-(n:Int)<=i
   . rw [if_pos h1] at h
     have e:(i+n).toNat=j:=Waz h;exact⟨by rw [seqIndex_neg #[0] h1,e],#[0],h1,#[0]⟩
   . rw [if_neg h1] at h;cases h
theorem zbs{α : Type}{xs:List α}{i:Int}{v:α}(h:atI xs i=some v):∃ j,seqIndex? i xs.length=some j/\xs[j]?=some v/\j<xs.length/\-(xs.length:Int)<=i/\i<xs.length:=by
 unfold atI at h;cases e:ixN xs.length i with
 | none=>rw [e] at h;cases h
 | some j=>
  rw [e] at h;obtain⟨h1,h2,h3,h4⟩:=zcS e;exact⟨j,h1,h,h2,h3,h4⟩
theorem jB{α : Type}{xs:List α}{j:Nat}{v:α}(h:xs[j]?=some v):atI xs (j:Int)=some v:=by
 have hj:j<xs.length:=(Ya8.mp h).1;have e:ixN xs.length (j:Int)=some j:=by
  unfold ixN;rw [if_pos #[0],if_pos #[0]];simp
 unfold atI;rw [e];exact h
theorem zjD{α : Type}(xs:List α)(v:α):atI (xs++[v]) (-1)=some v:=by
 have hl:(xs++[v]).length=xs.length+1:=by simp
 have e:ixN (xs++[v]).length (-1)=some xs.length:=by
  unfold ixN;rw [hl,if_neg #[1],if_pos #[0]]
  congr 1
  omega
 unfold atI;rw [e];show(xs++[v])[xs.length]?=some v
 simp
def zba(b:Expr):Prop:=∀ o i,subscripted b false o i=operate [o,i] (getItem o i)
def IxR(X:Cx)(r:R2):Prop:=
 ∀ (value slice:Expr) (pins:List (Addr×Obj)) (s:Shared) (σ : St) (H:Hp) (x y:V) (v u:Value) (Q:VK),Inv X pins σ H s->RelV x v->RelV y u->r x y H Q->
  subscripted slice false v u=operate [v,u] (getItem v u)->wpAny (model X.prog X.w) X.A (subscriptTail value slice v u) (EP X pins σ Q) X.xe s
def MtR(X:Cx)(id:String)(r:V->List V->Hp->VK->Prop):Prop:=
 ∀ (pins:List (Addr×Obj)) (s:Shared) (σ : St) (H:Hp) (x:V) (xs:List V) (v:Value) (us:List Value) (Q:VK),Inv X pins σ H s->RelV x v->Vals xs us->r x xs H Q->
  wpAny (model X.prog X.w) X.A (call (.builtin id) (v::us)) (EP X pins σ Q) X.xe s
section
variable{X:Cx}{a b:Expr}{ta tb:TE}{pos:Pos}
theorem IxR.or{r r':R2}(h:IxR X r)(h':IxR X r'):IxR X (fun x y H Q=>r x y H Q\/r' x y H Q):=by
 intro value slice pins s σ H x y v u Q I rx ry q hs
 rcases q with q|q
 . exact h value slice pins s σ H x y v u Q I rx ry q hs
 . exact h' value slice pins s σ H x y v u Q I rx ry q hs
theorem MtR.or{id:String}{r r':V->List V->Hp->VK->Prop}(h:MtR X id r)(h':MtR X id r'):MtR X id (fun x xs H Q=>r x xs H Q\/r' x xs H Q):=by
 intro pins s σ H x xs v us Q I rx rs q
 rcases q with q|q
 . exact h pins s σ H x xs v us Q I rx rs q
 . exact h' pins s σ H x xs v us Q I rx rs q
theorem zcO{r:R2}(hr:IxR X r)(ha:PE X a ta)(hb:PE X b tb)(hs:zba b):PE X (.Subscript a b pos) (tOp r ta tb):=by
 intro pins s σ H Q I h;exact Subscript_ (binT ha hb I h fun v u s2 x y H2 I2 rx ry q=>hr a b pins s2 σ H2 x y v u Q I2 rx ry q (hs _ _))
def rIxL(K:Ybf):R2:=fun x y H Q=>∃ p xs i v,x=.ref p/\y=.int i/\SqL K H p xs/\atI xs i=some v/\Q v H
def rIxT(K:Ybf):R2:=fun x y H Q=>∃ p xs i v,x=.ref p/\y=.int i/\SqT K H p xs/\atI xs i=some v/\Q v H
def rIxS:R2:=fun x y H Q=>∃ z i c,x=.str z/\y=.int i/\z.length<=sizeLine/\atI z.cps.toList i=some c/\Q (.str ⟨#[c]⟩) H
theorem zcI:IxR X (rIxL X.K):=by
 intro value slice pins s σ H x y v u Q I rx ry h hs;obtain⟨p,xs,i,z,rfl,rfl,hq,he,q⟩:=h;cases rx;obtain⟨t,rfl⟩:=ry;obtain⟨its,r,pl,hz⟩:=I.list hq;obtain⟨j,h1,h2,h3,h4,h5⟩:=zbs he;obtain⟨w,ew,rw'⟩:=r.get h2;have hl:=r.length;have hn:=ZC;have fin:EP X pins σ Q w s:=⟨z,H,I,rw',q⟩
 by_cases h0:0<=i
 . have hj:i.toNat=j:=by
    rw [seqIndex_of h0 h5] at h1;exact Waz h1
   exact item_listR pl.isList h0 #[0] (by rw [hj];simpa using ew) fin hs
 . have hj:(i+(its.toArray.size:Int)).toNat=j:=by
    rw [seqIndex_neg #[0] h4] at h1
    rw [YaZ,<-hl];exact Waz h1
   exact subscriptTail_builtinR (x:=w) pl.isList.typeIs slot_list_getitem.lookup
    (wpAny_getItem_list_neg (Q:=fun r s'=>r=w/\EP X pins σ Q r s') pl.isList #[0] (by rw [YaZ]<;>omega) #[0] (by rw [hj];simpa using ew) ⟨rfl,fin⟩) hs
theorem zgV:IxR X (rIxT X.K):=by
 intro value slice pins s σ H x y v u Q I rx ry h hs;obtain⟨p,xs,i,z,rfl,rfl,hq,he,q⟩:=h;cases rx;obtain⟨t,rfl⟩:=ry;obtain⟨its,r,pl,hz⟩:=I.tuple hq;obtain⟨j,h1,h2,h3,h4,h5⟩:=zbs he;obtain⟨w,ew,rw'⟩:=r.get h2;have hl:=r.length;have hn:=ZC;have fin:EP X pins σ Q w s:=⟨z,H,I,rw',q⟩;exact subscriptTail_builtinR (x:=w) pl.typeIs slot_tuple_getitem.lookup
  (getItem_tuple (j:=j) (Q:=fun r s'=>r=w/\EP X pins σ Q r s') pl #[0] #[0] (by rw [YaZ,<-hl];exact h1) (by simpa using ew) ⟨rfl,fin⟩) hs
theorem zhM:IxR X rIxS:=by
 intro value slice pins s σ H x y v u Q I rx ry h hs;obtain⟨z,i,c,rfl,rfl,hz,he,q⟩:=h;obtain⟨t,rfl⟩:=rx;obtain⟨t',rfl⟩:=ry;obtain⟨j,h1,h2,h3,h4,h5⟩:=zbs he;have hl:z.cps.toList.length=z.length:=by simp [Str.length]
 rw [hl] at h1 h4 h5;have hn:=ZC;exact tail_any (typeIs_str s z t) slot_str_getitem.lookup (getItem_str (c:=c) (by
  have e1:decide (i < -(2 ^ 63:Int))=false:=decide_eq_false #[0]
  have e2:decide (i>=2 ^ 63)=false:=decide_eq_false #[0]
  rw [e1,e2,WaC]) (by rw [h1];simpa using h2) ⟨.str ⟨#[c]⟩,H,I.tok _,⟨_,rfl⟩,q⟩) hs
def rIx(K:Ybf):R2:=fun x y H Q=>rIxL K x y H Q\/rIxT K x y H Q\/rIxS x y H Q
theorem zfT:IxR X (rIx X.K):=zcI.or (zgV.or zhM)
theorem zg2(its:List Value)(n j:Nat)(u:Value):Obj.mapSeq (·.setIfInBounds j u) { cls:=.type "list", data:=.seq its.toArray n } = { cls:=.type "list", data:=.seq (its.set j u).toArray n }:=by
 simp [Obj.mapSeq]
theorem Inv.lst{pins:List (Addr×Obj)}{σ : St}{H:Hp}{s:Shared}{p:Addr}{xs:List V}(I:Inv X pins σ H s)(h:H p=some (.lst xs)) :
 ∃ (its:List Value) (n:Nat),Vals xs its/\s.heap.get? p=some { cls:=.type "list", data:=.seq its.toArray n }/\xs.length<=sizeLine:=by
 obtain⟨z,its,n,r,e⟩:=I.hok p _ h;exact⟨its,n,r,e,z⟩
theorem Inv.lstUpd{pins:List (Addr×Obj)}{σ : St}{H:Hp}{s:Shared}{p:Addr}{xs ys:List V}{its its':List Value}{n n':Nat}{f:Obj->Obj}(I:Inv X pins σ H s)(h:H p=some (.lst xs))
 (ho:s.heap.get? p=some { cls:=.type "list", data:=.seq its.toArray n }) (hf:f { cls:=.type "list", data:=.seq its.toArray n } = { cls:=.type "list", data:=.seq its'.toArray n' }) (r:Vals ys its') (hz:ys.length<=sizeLine) (t:Nat) :
 Inv X pins σ (upd H p (.lst ys)) { s with heap:=s.heap.update p f,toks:=t }:=by
 have e:(s.heap.update p f).get? p=some { cls:=.type "list", data:=.seq its'.toArray n' }:=by
  rw [Heap.get?_update_self f ho (by rw [hf]<;>rfl),hf]
 refine I.write (x:=p) (e:=p) (by rw [h];trivial) (.inl rfl) (fun b u hb q=>(Heap.get?_update_other _ _ (WaL hb)).trans q) ⟨_,e⟩ ?_
 exact⟨hz,its',n',r,e⟩
def rSetL:V->V->V->Hp->(Hp->Prop)->Prop:=fun o i v H Q=>∃ p xs k j,o=.ref p/\i=.int k/\H p=some (.lst xs)/\ixN xs.length k=some j/\Q (upd H p (.lst (xs.set j v)))
theorem zgl:PSet X rSetL:=by
 intro pins s σ H o i v ov iv u Q I ro ri rv h;obtain⟨p,xs,k,j,rfl,rfl,hp,hj,q⟩:=h;cases ro;obtain⟨t,rfl⟩:=ri;obtain⟨its,n,r,ho,hz⟩:=I.lst hp;obtain⟨h1,h2,h3,h4⟩:=zcS hj;have hl:=r.length;have hn:=ZC;have I':Inv X pins σ (upd H p (.lst (xs.set j v))) { s with heap:=s.heap.update p (Obj.mapSeq (·.setIfInBounds j u)) }:=
  I.lstUpd hp ho (zg2 its n j u) (r.set rv j) (by rw [YaN];exact hz) s.toks
 by_cases h0:0<=k
 . have hk:k.toNat=j:=by
    rw [seqIndex_of h0 h4] at h1;exact Waz h1
   exact PySem.W.ki_setAt ho h0 #[0] (by rw [YaZ,<-hl];exact h4) (by rw [hk];exact⟨_,I',q⟩)
 . have hk:(k+(its.toArray.size:Int)).toNat=j:=by
    rw [seqIndex_neg #[0] h3] at h1
    rw [YaZ,<-hl];exact Waz h1
   exact PySem.W.ki_setBack ho #[0] (by rw [YaZ,<-hl];exact h3) #[0] (by rw [hk];exact⟨_,I',q⟩)
theorem ziC(lo hi:Option Int)(n:Nat):(sliceBounds lo hi none n).1=((HT.sIx n 0 lo:Nat):Int)/\(sliceBounds lo hi none n).2.1=((HT.sIx n n hi:Nat):Int)/\(sliceBounds lo hi none n).2.2=1:=by
 refine⟨?_,?_,rfl⟩
 . cases lo with
   | none=>simp [sliceBounds,HT.sIx]
   | some i=>
    simp only [sliceBounds,HT.sIx,Option.getD_none,show(1:Int) > 0 by decide,if_true]
    by_cases h:i<0
    . simp only [h,if_true]<;>omega
    . simp only [h,if_false]<;>omega
 . cases hi with
   | none=>simp [sliceBounds,HT.sIx]
   | some i=>
    simp only [sliceBounds,HT.sIx,Option.getD_none,show(1:Int) > 0 by decide,if_true]
    by_cases h:i<0
    . simp only [h,if_true]<;>omega
    . simp only [h,if_false]<;>omega
theorem zd2(its:List Value)(lo hi:Option Int):slicePick its.toArray lo hi none=((its.drop (HT.sIx its.length 0 lo)).take (HT.sIx its.length its.length hi - HT.sIx its.length 0 lo)).toArray:=by
 obtain⟨h1,h2,h3⟩:=ziC lo hi its.toArray.size;unfold slicePick;rw [h1,h2,h3];simp only [sliceRange_one,pick_run,YaZ]<;>rfl
def rSlL(K:Ybf):V->Option Int->Option Int->Hp->VK->Prop:=fun x lo hi H Q=>∃ a xs,x=.ref a/\SqL K H a xs/\∀ p,H p=none->Q (.ref p) (upd H p (.lst (cutV xs lo hi)))
theorem zhz:SlR X (rSlL X.K):=by
 intro pins s σ H x v vl vu lo hi sl Q I rx hs pl pu h;obtain⟨a,xs,rfl,hx,q⟩:=h;cases rx;obtain⟨its,r,ht,hz⟩:=I.list hx;have hlen:=r.length;refine⟨"list", _,slot_list_getitem.lookup,ht.isList.typeIs,?_⟩;refine wpAny_getItem_list_slice ht.isList hs pl pu .none (by simp) ?_ (by rw [YaZ]<;>omega)
 rw [zd2,<-hlen];refine⟨.ref s.heap.objs.size,_,I.laid (t':=s.toks) (o:=.lst (cutV xs lo hi)) (fun b ob q=>YaW _ q) (YaY _) ?_,rfl,q _ (I.hok.fresh (YaY _))⟩
 exact⟨Ya5 (zig xs lo hi) hz,_,0,(r.drop (HT.sIx xs.length 0 lo)).take (HT.sIx xs.length xs.length hi - HT.sIx xs.length 0 lo),Yan _ rfl⟩
theorem zjx:zK X (.builtin "len") (fun xs H Q=>∃ p ys,xs=[.ref p]/\(SqL X.K H p ys\/SqT X.K H p ys)/\Q (.int ys.length) H):=by
 intro pins s σ H xs us Q I r h;obtain⟨p,ys,rfl,hq,q⟩:=h;obtain⟨u,rfl,rx⟩:=Ji r;cases rx;have hn:=ZC
 rcases hq with hq|hq
 . obtain⟨its,r',pl,hz⟩:=I.list hq
   have hlen:=r'.length;exact Calls.call_len_list pl.isList (by simp only [YaZ]<;>omega) ⟨.int ys.length,H,I.tok _,⟨s.toks+1,by rw [YaZ,hlen]⟩,q⟩
 . obtain⟨its,r',pl,hz⟩:=I.tuple hq
   have hlen:=r'.length;exact len_tuple pl (by simp only [YaZ]<;>omega) ⟨.int ys.length,H,I.tok _,⟨s.toks+1,by rw [YaZ,hlen]⟩,q⟩
theorem zkC:zK X (.builtin "len") (fun xs H Q=>∃ z,xs=[.str z]/\z.length<=sizeLine/\Q (.int z.length) H):=by
 intro pins s σ H xs us Q I r h;obtain⟨z,rfl,hz,q⟩:=h;obtain⟨u,rfl,t,rfl⟩:=Ji r;have hn:=ZC;exact len_str #[0] ⟨.int z.length,H,I.tok _,⟨_,rfl⟩,q⟩
theorem zK.or{f:Value}{r r':List V->Hp->VK->Prop}(h:zK X f r)(h':zK X f r'):zK X f (fun xs H Q=>r xs H Q\/r' xs H Q):=by
 intro pins s σ H xs us Q I rs q
 rcases q with q|q
 . exact h pins s σ H xs us Q I rs q
 . exact h' pins s σ H xs us Q I rs q
theorem zki:zK X (.type "list") (fun xs H Q=>∃ p ys,xs=[.ref p]/\(SqL X.K H p ys\/SqT X.K H p ys)/\∀ l,H l=none->Q (.ref l) (upd H l (.lst ys))):=by
 intro pins s σ H xs us Q I r h;obtain⟨p,ys,rfl,hq,q⟩:=h;obtain⟨u,rfl,rx⟩:=Ji r;cases rx;have fin:∀ (its:List Value),Vals ys its->ys.length<=sizeLine->∀ (h':Heap) (c':Nat),(∀ b o',s.heap.get? b=some o'->h'.get? b=some o')->
  h'.get? s.heap.objs.size=some { cls:=.type "list", dict:=none,data:=.seq its.toArray c',slots:=#[] }->EP X pins σ Q (.ref s.heap.objs.size) { s with heap:=h' }:=fun its r' hz h' c' kp e=>
  ⟨.ref s.heap.objs.size,_,I.laid (t':=s.toks) kp (YaY _) (show zJ X.prog X.w _ h' _ (.lst ys) from⟨hz,its,c',r',e⟩),rfl,q _ (I.hok.fresh (YaY _))⟩
 rcases hq with hq|hq
 . obtain⟨its,r',pl,hz⟩:=I.list hq
   have hlen:=r'.length;obtain⟨o,ho,hc,n,hd⟩:=pl.isList;exact call_list_seq p (.inl rfl) ho hc hd (fun h' c' kp e=>fin its r' hz h' c' kp e) (by simp only [YaZ]<;>omega)
 . obtain⟨its,r',pl,hz⟩:=I.tuple hq
   have hlen:=r'.length;obtain⟨o,ho,hc,n,hd⟩:=pl;exact call_list_seq p (.inr rfl) ho hc hd (fun h' c' kp e=>fin its r' hz h' c' kp e) (by simp only [YaZ]<;>omega)
def tyV(K:Ybf)(T:String)(x:V)(H:Hp):Prop:=match x with
 | .str _=>T = "str"
 | .int _=>T = "int"
 | .ref p => (T = "list" /\ ∃ xs, SqL K H p xs) \/ (T = "tuple" /\ ∃ o, K.lookup p = some o /\ o.cls = .type "tuple" /\ o.dict = none) \/
  (T = "dict"/\((∃ kvs,H p=some (.dK kvs))\/∃ kvs,H p=some (.dT kvs)))\/(T = "set"/\∃ S n,H p=some (.set S n))
 | _=>False
theorem ziM{pins:List (Addr×Obj)}{σ : St}{H:Hp}{s:Shared}{T:String}{x:V}{v:Value}(I:Inv X pins σ H s)(r:RelV x v)(ty:tyV X.K T x H) :
 s.TypeIs v T/\∀ a,v=.ref a->∃ ob,s.heap.get? a=some ob/\ob.dict=none:=by
 cases x with
 | str z=>
  obtain⟨t,rfl⟩:=r;cases(show T = "str" from ty)
  exact⟨typeIs_str s z t,fun _ e=>nomatch e⟩
 | int i=>
  obtain⟨t,rfl⟩:=r;cases(show T = "int" from ty)
  exact⟨typeIs_int s i t,fun _ e=>nomatch e⟩
 | ref p=>
  cases r
  rcases ty with ⟨rfl,xs,hq⟩|⟨rfl,o,hk,hc,hd⟩|⟨rfl,hk⟩|⟨rfl,S,n,hk⟩
  . obtain⟨its,_,pl,_⟩:=I.list hq
    refine⟨pl.isList.typeIs,fun a e=>?_⟩
    cases e;obtain⟨o,n,e,c,hd,_⟩:=pl
    exact⟨o,e,hd⟩
  . refine⟨⟨o,I.kIn p o hk,hc⟩,fun a e=>?_⟩
    cases e;exact⟨o,I.kIn _ o hk,hd⟩
  . have z:∃ o,s.heap.get? p=some o/\o.ExactDict:=by
     rcases hk with ⟨kvs,hk⟩|⟨kvs,hk⟩
     . obtain⟨_,_,_,_,o,_,_,e,ex,_⟩:=I.hok p _ hk
       exact⟨o,e,ex⟩
     . obtain⟨_,_,_,_,o,_,_,e,ex,_⟩:=I.hok p _ hk
       exact⟨o,e,ex⟩
    obtain⟨o,e,ex⟩:=z;refine⟨⟨o,e,ex.1⟩,fun a e2=>?_⟩
    cases e2;exact⟨o,e,ex.2.1⟩
  . obtain⟨o,_,_,_,e,ex,_⟩:=I.hok p _ hk
    refine⟨⟨o,e,ex.1⟩,fun a e2=>?_⟩
    cases e2;exact⟨o,e,ex.2.1⟩
 | _=>exact False.elim ty
def tBM(K:Ybf)(T:String)(r:V->List V->Hp->VK->Prop)(to:TE)(t:TA):TE:=fun σ H Q=>to σ H fun x H1=>tyV K T x H1/\t σ H1 fun xs H2=>r x xs H2 Q
variable{o e:Expr}{es:List Expr}{to:TE}{t:TA}{name:Str}{apos cpos:Pos}{T id:String}{r:V->List V->Hp->VK->Prop}
theorem zdN(pa:PlainAttrs T)(slot:Slot T name id)(hty:typeOf (.builtin id)=pure (.type "method_descriptor"))(hm:MtR X id r)(ho:PE X o to)(ha:PA X (e::es) t)
 (hbase:attributeBase o name X.env (eval o X.env)=eval o X.env:=by rfl)
 (hfew:((backTo cpos (starEach (e::es) X.env)).all (fun x=>!x.1)&&(backToKw cpos (keywordEach [] X.env)).all (fun x=>x.1.isSome)
  && decide ((e::es).length+([]:List Keyword).length+(if([]:List Keyword).isEmpty then 0 else 1)<30))=true:=by rfl)
 (hline:(apos.endLine==cpos.line)=true:=by rfl) (hs:starEach (e::es) X.env=(false,eval e X.env)::starEach es X.env:=by rfl) (hplain:(backTo cpos (starEach es X.env)).any (·.1)=false:=by rfl) :
 PE X (.Call (.Attribute o name apos) (e::es) [] cpos) (tBM X.K T r to t):=by
 intro pins s σ H Q I h;refine wpAny_Call_method_late hbase hfew hline rfl (thn (ho pins s σ H _ I h) fun v s1 ⟨x,H1,I1,r1,ty,q1⟩=>?_)
 obtain⟨h1,h2⟩:=ziM I1 r1 ty;refine⟨T,id,pa,slot,hty,h1,h2,?_⟩;have hA:=ha cpos pins s1 σ H1 _ I1 q1;rw [hs] at hA ⊢;refine Calls.callWith_builtin (by show(false||(backTo cpos (starEach es X.env)).any (·.1))=false;rw [hplain]<;>rfl) (Calls.evalArgs_plain ?_)
 exact thn hA fun us s2 ⟨vs,H2,I2,r2,q2⟩=>hm pins s2 σ H2 x vs v us Q I2 r1 r2 q2
end
def MtM(X:Cx)(id:String)(r:V->List V->Hp->VK->Prop):Prop:=
 ∀ (pins:List (Addr×Obj)) (s:Shared) (σ : St) (H:Hp) (x:V) (xs:List V) (v:Value) (us:List Value) (Q:VK),Inv X pins σ H s->RelV x v->Vals xs us->r x xs H Q->
  wpAny (model X.prog X.w) X.A (call (.builtin id) (v::us)) (EP X pins σ Q) X.xe s
theorem Vals.one:∀ {x:V} {us:List Value},Vals [x] us->∃ u,us=[u]/\RelV x u
 | _,_,.cons r .nil=>⟨_,rfl,r⟩
theorem Vals.zero:∀ {us:List Value},Vals [] us->us=[]
 | _,.nil=>rfl
theorem Vals.eraseIdx:∀ {xs:List V} {us:List Value} (i:Nat),Vals xs us->Vals (xs.eraseIdx i) (us.eraseIdx i)
 | _,_,_,.nil=>.nil
 | _,_,0,.cons _ t=>t
 | _,_,i+1,.cons r t=>.cons r (Vals.eraseIdx i t)
theorem Vals.rep{xs:List V}{us:List Value}(h:Vals xs us):∀ k:Nat,Vals (List.replicate k xs).flatten (List.replicate k us).flatten
 | 0=>.nil
 | k + 1 => by
  rw [List.replicate_succ,List.replicate_succ,List.flatten_cons,List.flatten_cons];exact Vals.append h (Vals.rep h k)
theorem zdp(its:List Value):∀ (k:Nat) (acc:List Value),
 List.foldl (fun x1 x2=>x1++x2) acc.toArray (List.replicate k its.toArray)=(acc++(List.replicate k its).flatten).toArray
 | 0,acc=>by simp
 | k + 1, acc => by
  have e:acc.toArray++its.toArray=(acc++its).toArray:=by simp
  have e2:(acc++its)++(List.replicate k its).flatten=acc++(List.replicate (k+1) its).flatten:=by
   rw [List.replicate_succ,List.flatten_cons,Yag]
  rw [<-e2,<-zdp its k (acc++its),<-e,List.replicate_succ,List.foldl_cons]
section
variable{X:Cx}{pins:List (Addr×Obj)}{σ : St}{H:Hp}{s:Shared}{l b:Addr}{xs ys zs:List V}
theorem Inv.lset{its its':List Value}{n:Nat}{f:Array Value->Array Value}{t':Nat}(I:Inv X pins σ H s)(hH:H l=some (.lst xs))
 (e:s.heap.get? l=some { cls:=.type "list", data:=.seq its.toArray n }) (hf:f its.toArray=its'.toArray) (hv:Vals ys its') (hz:ys.length<=sizeLine) :
 Inv X pins σ (upd H l (.lst ys)) { s with heap:=s.heap.update l (Obj.mapSeq f),toks:=t' }:=by
 have q:=PySem.IsL.update e f;rw [hf] at q;refine I.write (x:=l) (e:=l) (by rw [hH];exact trivial) (.inl rfl) (fun b' u hb hu=>(Heap.get?_update_other s.heap (Obj.mapSeq f) (WaL hb)).trans hu) ⟨_,q⟩ ?_
 exact⟨hz,its',_,hv,q⟩
theorem Inv.lnew{its:List Value}{t':Nat}(I:Inv X pins σ H s)(hv:Vals ys its)(hz:ys.length<=sizeLine) :
 Inv X pins σ (upd H s.heap.objs.size (.lst ys)) { s with heap:=s.heap.push { cls:=.type "list", data:=.seq its.toArray },toks:=t' }:=
 I.laid (fun _ _ q=>YaW _ q) (YaY _) ⟨hz,its,0,hv,Yan _ rfl⟩
theorem Inv.fresh(I:Inv X pins σ H s):H s.heap.objs.size=none:=I.hok.fresh (YaY _)
theorem Inv.lstM(I:Inv X pins σ H s)(hH:H l=some (.lst xs)):xs.length<=sizeLine/\∃ (its:List Value) (n:Nat),Vals xs its/\xs.length=its.length/\s.heap.get? l=some { cls:=.type "list", data:=.seq its.toArray n }:=by
 obtain⟨z,its,n,r,e⟩:=I.hok l _ hH;exact⟨z,its,n,r,r.length,e⟩
theorem zch{n:Nat}(h:n<=sizeLine):Builtin.List.listTooLong n=false:=by
 unfold Builtin.List.listTooLong;exact decide_eq_false #[0]
end
section
variable{X:Cx}
def rAppend:V->List V->Hp->VK->Prop:=fun x vs H Q=>∃ l xs y,x=.ref l/\vs=[y]/\H l=some (.lst xs)/\xs.length<sizeLine/\Q .non (upd H l (.lst (xs++[y])))
theorem zdr:MtM X "list.append" rAppend:=by
 intro pins s σ H x vs v us Q I rx rv h;obtain⟨l,xs,y,rfl,rfl,hH,hz,q⟩:=h;cases rx;obtain⟨u,rfl,ru⟩:=rv.one;obtain⟨z,its,n,r,hl,e⟩:=I.lstM hH;refine call_meets F.slot_list_append ⟨_,e,rfl⟩ F.entry_list_append (F.args_list_append_2 _ _) (PySem.list_append l its.toArray n u (by rw [YaZ];omega)) ⟨e,?_⟩
 refine⟨.non,_,I.lset (its':=its++[u]) hH e (by simp) (r.append (.cons ru .nil)) ?_,rfl,q⟩
 rw [YaS,List.length_singleton]
 omega
def rExtend:V->List V->Hp->VK->Prop:=fun x vs H Q=>∃ l b xs zs,x=.ref l/\vs=[.ref b]/\H l=some (.lst xs)/\H b=some (.lst zs)/\xs.length+zs.length<=sizeLine/\Q .non (upd H l (.lst (xs++zs)))
theorem zjG:MtM X "list.extend" rExtend:=by
 intro pins s σ H x vs v us Q I rx rv h;obtain⟨l,b,xs,zs,rfl,rfl,hH,hB,hz,q⟩:=h;cases rx;obtain⟨u,rfl,ru⟩:=rv.one;cases ru;obtain⟨z,its,n,r,hl,e⟩:=I.lstM hH;obtain⟨z2,its2,n2,r2,hl2,e2⟩:=I.lstM hB;have hsz:its.toArray.size+its2.toArray.size<=sizeLine:=by rw [YaZ,YaZ];omega
 have hlong:¬(!its.toArray.isEmpty&&Builtin.List.listTooLong (its.toArray.size+its2.toArray.size))=true:=by
  rw [zch hsz,Bool.and_false];exact Yal
 refine call_meets F.slot_list_extend ⟨_,e,rfl⟩ F.entry_list_extend (F.args_list_extend_2 _ _)
  (AutoSeq1.list_extend_list_list_0 l its.toArray n b its2.toArray n2 hlong (by rw [YaZ];omega) #[0]) ⟨e,e2,?_⟩
 refine⟨.non,_,I.lset (its':=its++its2) hH e (by simp) (r.append r2) ?_,rfl,q⟩
 rw [YaS]
 omega
def rRep:R2:=fun x y H Q=>∃ l k xs,x=.ref l/\y=.int k/\H l=some (.lst xs)/\-(2 ^ 63)<=k/\k<2 ^ 63/\xs.length*k.toNat<=sizeLine/\
 ∀ p,H p=none->Q (.ref p) (upd H p (.lst (List.replicate k.toNat xs).flatten))
theorem ze9{α : Type}(xs:List α)(k:Nat):(List.replicate k xs).flatten.length=k*xs.length:=by
 induction k with
 | zero=>simp
 | succ k ih=>rw [List.replicate_succ,List.flatten_cons,YaS,ih,Nat.succ_mul,Nat.add_comm]
theorem zje:OpR X (binaryOp .Mult) rRep:=by
 intro pins s σ H x y v u Q I rx ry h;obtain⟨l,k,xs,rfl,rfl,hH,h1,h2,hz,q⟩:=h;cases rx;obtain⟨t,rfl⟩:=ry;obtain⟨z,its,n,r,hl,e⟩:=I.lstM hH;have hlen:its.toArray.size*k.toNat<=sizeLine:=by rw [YaZ,<-hl];exact hz
 have hcap:¬its.toArray.size*k.toNat > (2 ^ 63 - 1)/8:=by
  have:(sizeLine:Nat)<=(2 ^ 63 - 1)/8:=#[1]
  omega
 have hfit:¬(!Builtin.List.listFitsIndex k)=true:=by
  rw [fitsIndex_both h1 h2];exact Yal
 have hlong:¬Builtin.List.listTooLong (its.toArray.size*k.toNat)=true:=by
  rw [zch hlen];exact Yal
 have hnew:List.foldl (fun x1 x2=>x1++x2) #[] (List.replicate (if its.toArray.isEmpty=true then 0 else k.toNat) its.toArray)=(List.replicate k.toNat its).flatten.toArray:=by
  have f0:∀ m:Nat,List.foldl (fun x1 x2=>x1++x2) #[] (List.replicate m its.toArray)=(List.replicate m its).flatten.toArray:=fun m=>by
   have:=zdp its m [];rw [List.nil_append] at this;exact this
  rw [f0];cases its with
  | nil=>simp
  | cons a r'=>rw [if_neg (by simp)]
 refine wpAny_binaryOp_repeat_ref (T:="list") (U:="int") #[1] ⟨_,e,rfl⟩ (fun s'=>typeIs_int s' k t) noFill_list_mul F.fills_int_mul F.slot_int_rmul repeat_list F.slot_int_index.lookup
  (call_meets F.slot_int_rmul (typeIs_int s k t) F.entry_int_rmul (F.args_int_rmul_2 _ _) (int___rmul___int_list k t l its.toArray n)
   ⟨e,rfl,⟨_,e,rfl⟩,call_meets F.slot_list_mul ⟨_,e,rfl⟩ F.entry_list_mul (F.args_list_mul_2 _ _) (AutoListH.list___mul___list_int_3 l its.toArray n k t hfit hcap hlong) ⟨e,?_⟩⟩)
 rw [hnew];exact⟨.ref _,_,I.lnew (t':=s.toks) (r.rep k.toNat) (by rw [ze9,Nat.mul_comm];exact hz),rfl,q _ I.fresh⟩
end
section
variable{prog:Program}{w:World}{A:Around}{E:Value->Shared->Prop}{s:Shared}
end
section
variable{X:Cx}
end
end L2
namespace Att
open PySem PySem.W PySem.Calls PyProof.Rows
theorem zeC{P:Params}{h:Heap}:∀ (ns:List Int) (vs:List Value),WellAll P h vs (ns.map WData.int)->IntsAre vs ns:=by
 intro ns
 induction ns with
 | nil=>
  intro vs w;rw [WaI] at w;cases w;exact .nil
 | cons n ns ih=>
  intro vs w;rw [Ya1] at w;cases w with
  | cons a b=>
   cases a;exact .cons _ _ (ih _ b)
theorem zdZ{l:OpenLaw}{n:Nat}(hn:l.most=some n){P:Params}{h:Heap}{args:List WData}{vals:List Value}
 (hpre:l.row.toRowW.claim.pre args=true) (hwl:WellAll P h vals args) :
 ∃ a vs ns,vals=[Value.ref a]/\args=[WData.list (ns.map WData.int)]/\h.get? a=some { cls:=.type "list", data:=.seq vs.toArray }/\IntsAre vs ns/\ns.length<=n:=by
 have hsh:WShape.hasAll [] args [.list .int]=true:=(pre_splitW hpre).1;have hc:l.pre.holds [] { args:=args }=true:=(pre_splitW hpre).2;obtain⟨d,r,rfl,h1,h2⟩:=hasAllW_cons hsh;obtain rfl:=hasAllW_nil h2;obtain⟨xs,rfl,h3⟩:=hasW_list h1;obtain⟨ns,rfl⟩:=items_int h3;have hlen:ns.length<=n:=by
  unfold OpenLaw.pre at hc;have h4:(WTm.not (.lt (.lit (.int (n:Int))) (.len (.arg 0)))).holds [] { args:=[.list (ns.map .int)] }=true:=by
   have h4:=(holds_andW hc).1;rw [hn] at h4;exact h4
  have h5:=condW_of h4 (w_not (w_lt w_lit (w_len_list (w_arg rfl))));rw [YaR] at h5;refine Nat.le_of_not_lt fun q=>?_
  have q':(n:Int)<((ns.length:Nat):Int):=#[0]
  first
   | (rw [decide_eq_true q'] at h5;exact absurd h5 #[1])
   | (simp at h5;omega)
 cases hwl with
 | cons w1 w2=>
  cases w2;cases w1 with
  | list ho hall=>exact⟨_,_,ns,rfl,rfl,ho,zeC ns _ hall,hlen⟩
theorem ze0(l:OpenLaw)(args:List WData):l.row.toRowW.claim.post args (.bool true) args=true:=
 postW_of (r:=l.row.toRowW) (X:=(true==true))
  (show WShape.has [] (.bool true) .bool=true by first|rfl|decide|simp [WShape.has,WShape.arms,WShape.armsAll])
  (show(WTm.eq .res (.lit (.bool true))).value [] { args:=args,res:=some (.bool true),after:=args }=some (.bool (true==true)) from w_eq_bool (w_res rfl) w_lit) rfl
theorem attach_call{l:OpenLaw}{n:Nat}{q:Program}{loose:List Str}{XP:(Str->Option Value)->Heap->Prop}{YP:World->Heap->Prop}{d:DefRec}
 (hn:l.most=some n) (hdf:d.params.defaults=[])
 (call:∀ (w:World) (s₀ s₁ : Shared) (mg mb:Str->Option Value) (fa:Addr) (o:Obj) (pm cd doc:Value) (a:Addr) (vs:List Value) (ns:List Int),
  Ground q loose [] XP w s₀ mg mb s₁.heap->YP w s₁.heap->
  s₁.heap.get? fa=some o->o.data=.func (docDef d.name d.params d.body d.scope pm cd doc)->s₁.heap.CodeRec cd d.name->mg d.name=some (.ref fa)->
  s₁.heap.get? a=some { cls:=.type "list", data:=.seq vs.toArray }->IntsAre vs ns->ns.length<=n->s₁.gens = #[]->
  codeAny (model l.prog w) callerA (.call (.ref fa) ⟨[.ref a],[]⟩) (fun r s'=>r=.ok (.ret (.bool true))/\OldK s₁.heap s'.heap/\s'.os=s₁.os/\AllBare s'.gens) s₁) :
 WalkO q loose XP YP l.row.toRowW d [] (fun f vs=>PySem.call f vs):=by
 intro w s₀ s₁ mg mb G Y fa o pm cd doc dV kV ho hd hcd hD hmg hg args vals as hpre hlay hrd hwl hlo;obtain rfl:dV=.none:=Dflts.none hD hdf;obtain rfl:kV=.none:=Dflts.noKw hD;obtain⟨a,vs,ns,rfl,rfl,hobj,hints,hlen⟩:=zdZ hn hpre hwl;refine enter_call (codeAny_mono (call w s₀ s₁ mg mb fa o pm cd doc a vs ns G Y ho (fd_plain hd) hcd hmg hobj hints hlen hg) fun r s' hq=>?_)
 obtain⟨rfl,h2,h3,h4⟩:=hq;exact⟨.inl ⟨.bool true,.bool true,[],rfl,fun _=>rfl,.bool true,ze0 l _,fun _=>⟨List.Pairwise.nil,fun _ hm=>(nomatch hm)⟩⟩,h2,h3,h4⟩
section
variable{prog:Program}{w:World}{A:Around}{E:Value->Shared->Prop}{s:Shared}{K:Frag}
end
end Att
namespace L2
open PySem PySem.Spec PyProof.Rows
theorem zbv:∀ {vs:List Value} {ns:List Int},IntsAre vs ns->Vals (ns.map V.int) vs
 | _,_,.nil=>.nil
 | _,_,.cons n t h=>.cons ⟨t,rfl⟩ (zbv h)
def Only(H:Hp):Prop:=∀ b,H b=none\/∃ o xs,H b=some (.frz o (.lst xs))
theorem zgw{P:Program}{w:World}{K:Ybf}{mg mb:Str->Option Value}{CX:CXT}{k:Nat}{fa a:Addr}{fd:FuncData}{x:Str}{sp:Sp}{s₁ : Shared}{vs:List Value}{ns:List Int}
 (KX:K.In s₁.heap) (hns:s₁.heap.Ns mainGlobals mg) (hb:s₁.heap.Ns builtinsNs mb) (hbb:∀ x:Str,x≠"__name__"->mb x=bootBuiltins x) (hlim:s₁.heap.NoLimit) (hg:s₁.gens = #[])
 (ha:s₁.heap.get? a=some { cls:=.type "list", data:=.seq vs.toArray }) (hi:IntsAre vs ns) (hl:ns.length<=sizeLine) (hr:Room k callerA)
 (F:∀ base:Heap,K.In base->base.Ns mainGlobals mg->FnOk P w K mg base CX k fa fd [x] sp) (hbind:∀ (s:Shared) (u:Value),BindsTo s fd ⟨[u],[]⟩ [(x,u)])
 (hsp:∀ H:Hp,Only H->SqL K H a (ns.map V.int)->sp [.ref a] H (fun v _=>v=.bl true) fun _ _ _=>False)
 (hCX:∀ H e s',CX [] H s₁ (fun _ _ _=>False) e s'->False) :
 codeAny (model P w) callerA (.call (.ref fa) ⟨[.ref a],[]⟩) (fun r s'=>r=.ok (.ret (.bool true))/\OldK s₁.heap s'.heap/\s'.os=s₁.os/\AllBare s'.gens) s₁:=by
 have rv:=zbv hi;have lenV:=hi.length;have core:∀ H:Hp,Only H->SqL K H a (ns.map V.int)->HOk P w H s₁.heap->(∀ b,H b≠none->b=a)->(H a≠none->K.lookup a=none)->
  codeAny (model P w) callerA (.call (.ref fa) ⟨[.ref a],[]⟩) (fun r s'=>r=.ok (.ret (.bool true))/\OldK s₁.heap s'.heap/\s'.os=s₁.os/\AllBare s'.gens) s₁:=by
  intro H hO hS hok hA hK;have base_of:∀ {b:Addr} {o:Obj},s₁.heap.get? b=some o->H b=none->(hidT s₁.heap H).get? b=some o:=fun e n=>zhs e n
  have noA:∀ {b:Addr} {o:Obj} {es:Array DictEntry} {ep:Nat},s₁.heap.get? b=some o->o.data=.dict es ep->H b=none:=fun {b o es ep} e d=>by
   cases q:H b with
   | none=>rfl
   | some u=>
    have e':b=a:=hA b (by rw [q];simp)
    subst e';rw [ha] at e;cases e;have d':Data.seq vs.toArray _=Data.dict es ep:=d;cases d'
  have nsK:∀ {b:Addr} {m:Str->Option Value},s₁.heap.Ns b m->(hidT s₁.heap H).Ns b m:=fun {b m} ⟨o,es,ep,e,d,r⟩=>⟨o,es,ep,base_of e (noA e d),d,r⟩
  have hKb:K.In (hidT s₁.heap H):=fun b o e=>base_of (KX b o e) (by
   cases q:H b with
   | none=>rfl
   | some u=>
    have e':b=a:=hA b (by rw [q];simp)
    subst e';rw [hK (by rw [q];simp)] at e;cases e)
  have hM:Mod K mg (hidT s₁.heap H):=⟨hKb,nsK hns,⟨mb,nsK hb,hbb⟩,let ⟨mc,h1,h2⟩:=hlim;⟨mc,nsK h1,h2⟩⟩;have e0:Env0 P w K mg (hidT s₁.heap H) callerA [] s₁ H:=⟨rfl,hM,fun b o e=>zkS e,Nat.le_of_eq (zkA _ _),trivial,fun b hb=>absurd (show b∈([]:List Addr) from hb) (by simp),hok,.of_eq hg⟩
  refine codeAny_mono ((F _ hKb (nsK hns)).run callerA [] s₁ H ⟨[.ref a],[]⟩ [.ref a] [.ref a] _ _ hr e0 (hbind s₁ (.ref a)) (.cons rfl .nil) (hsp H hO hS)) fun r s' h=>?_
  cases r with
  | error e=>exact(hCX H e s' h).elim
  | ok fl=>
   cases fl with
   | next=>exact False.elim h
   | brk=>exact False.elim h
   | cont=>exact False.elim h
   | ret u=>
    obtain⟨v,H',os,bare,un,hok',r',q⟩:=h;have q':v=.bl true:=q;subst q';obtain rfl:u=Value.bool true:=r';refine⟨rfl,OldK.of_keep fun b o e=>?_,os,bare⟩
    cases q:H b with
    | none=>exact un.keep b o e q (by intro z;exact absurd (show b∈([]:List Addr) from z) (by simp)) (by simp)
    | some u=>
     rcases hO b with z|⟨ob,xs,z⟩
     . rw [q] at z;cases z
     . have z2:=un.frzs b ob _ z
       obtain⟨e1,_⟩:=hok b _ z;obtain⟨e2,_⟩:=hok' b _ z2;rw [e] at e1;cases e1;exact e2
 cases hk:K.lookup a with
 | some o=>
  have e:=KX a o hk;rw [ha] at e;cases e;refine core (fun _=>none) (fun _=>.inl rfl) (.inr ⟨_,vs.toArray,_,hk,rfl,rfl,rfl,by rw [YaZ,lenV];exact hl,by simpa using rv⟩) (fun b u z=>by have z':(none:Option HO)=some u:=z;cases z') (fun b z=>absurd rfl z) fun z=>absurd rfl z
 | none=>
  refine core (fun b=>if b=a then some (.frz { cls:=.type "list", data:=.seq vs.toArray } (.lst (ns.map V.int))) else none) (fun b=>?_) (.inl (.inr ⟨{ cls:=.type "list", data:=.seq vs.toArray },if_pos rfl⟩)) (fun b u z=>?_) (fun b z=>?_) fun _=>hk
  . by_cases hb:b=a
    . exact .inr ⟨_,_,if_pos hb⟩
    . exact .inl (if_neg hb)
  . by_cases hb:b=a
    . have z':=(if_pos hb).symm.trans z
      cases z';subst hb
      exact⟨ha,by rw [YaR];exact hl,vs,_,rv,ha⟩
    . have z':=(if_neg hb).symm.trans z
      cases z'
  . by_cases hb:b=a
    . exact hb
    . exact absurd (if_neg hb) z
theorem zf0{l:PySem.W.OpenLaw}{n k:Nat}{q:Program}{loose:List Str}{XP:(Str->Option Value)->Heap->Prop}{YP:World->Heap->Prop}{d:DefRec}{K:Params->Ybf}{CX:World->CXT}{sp:World->Sp}{x:Str}
 (hn:l.most=some n) (hn2:n<=sizeLine) (hdf:d.params.defaults=[]) (hr:Room k callerA)
 (hY:∀ (w:World) (h:Heap),YP w h->(K w.params).In h)
 (F:∀ (w:World) (mg:Str->Option Value) (fa:Addr) (h:Heap),(K w.params).In h->h.Ns mainGlobals mg->mg d.name=some (.ref fa)->
  ∃ fd:FuncData,(∀ (s:Shared) (u:Value),BindsTo s fd ⟨[u],[]⟩ [(x,u)])/\
   ∀ base:Heap,(K w.params).In base->base.Ns mainGlobals mg->FnOk l.prog w (K w.params) mg base (CX w) k fa fd [x] (sp w))
 (hsp:∀ (w:World) (H:Hp) (a:Addr) (ns:List Int),ns.length<=n->Only H->SqL (K w.params) H a (ns.map V.int)->sp w [.ref a] H (fun v _=>v=.bl true) fun _ _ _=>False)
 (hCX:∀ (w:World) (H:Hp) (s:Shared) (e:Value) (s':Shared),CX w [] H s (fun _ _ _=>False) e s'->False) :
 PySem.W.WalkO q loose XP YP l.row.toRowW d [] (fun f vs=>PySem.call f vs):=by
 refine Att.attach_call hn hdf fun w s₀ s₁ mg mb fa o pm cd doc a vs ns G Y ho hd hcd hmg hobj hints hlen hg=>?_
 have KX:=hY w _ Y;obtain⟨fd,hb,hF⟩:=F w mg fa _ KX G.T.g hmg;exact zgw KX G.T.g G.T.b G.T.builtins G.T.nolimit hg hobj hints (Ya5 hlen hn2) hr hF hb (fun H hO hS=>hsp w H a ns hlen hO hS) fun H e s'=>hCX w H s₁ e s'
def zt(s:Stmt):Arguments:=match s with
 | .FunctionDef _ a _ _ _ _ _ _ _ _=>a
 | _=>{ posonlyargs:=[],args:=[],vararg:=none,kwonlyargs:=[],kw_defaults:=[],kwarg:=none,defaults:=[] }
def zq(s:Stmt):List Stmt:=match s with
 | .FunctionDef _ _ b _ _ _ _ _ _ _=>b
 | _=>[]
def ze(s:Stmt):Scope:=match s with
 | .FunctionDef _ _ _ _ _ _ sc _ _ _=>sc
 | _=>{ kind:=.function,names:=[],isGenerator:=false,isCoroutine:=false }
abbrev CX0:CXT:=fun _ _ _ _ _ _=>False
structure Fun(K:Ybf)(x qual:Str)(st:Stmt)(f:Addr)(fd:FuncData):Prop where
 ex:∃ (oc:Value) (od:Option Addr) (kV doc pm:Value) (an:Option Addr) (cdv ct:Value) (osl:Array (Option Value)),
  fd=PySem.W.fnOf x qual (zt st) (zq st) (ze st) .none kV doc pm an cdv ct/\K.lookup f=some ⟨oc,od,.func fd,osl⟩/\PySem.W.codeIn K cdv qual=true
 kp:PySem.W.keepIn K (.ref f)=true
section
variable{P:Program}{w:World}{K:Ybf}{mg:Str->Option Value}{base:Heap}
theorem Fun.ok{x qual:Str}{st:Stmt}{f:Addr}{fd:FuncData}{N ps:List Str}{k:Nat}{sp:Sp}(F:Fun K x qual st f fd)(S:FnScope N ps (ze st))(len:∀ vs H Q E,sp vs H Q E->vs.length=ps.length)
 (hbody:∀ (cdv:Value) (A:Around) (outer:List Env) (s:Shared) (H:Hp) (vs:List V) (Q:VK) (E:XK),Room k (A.deeper (envOfC qual (ze st) s.heap.objs.size f cdv))->sp vs H Q E->
  ∃ t,PSs (cxOf CX0 P w K mg base N qual (ze st) f cdv A outer s H E).nox (zq st) t/\t { nx:=fun _ H'=>Q .non H',rt:=Q } (start N vs) H):FnOk P w K mg base CX0 (k+1) f fd ps sp:=by
 obtain⟨oc,od,kV,doc,pm,an,cdv,ct,osl,rfl,lk,hcd⟩:=F.ex;refine zct lk hcd S len fun A outer s H vs Q E hr hsp=>?_
 obtain⟨t,h,q⟩:=hbody cdv A outer s H vs Q E hr hsp;exact⟨t,h.nox,q⟩
theorem Fun.binds{x qual:Str}{st:Stmt}{f:Addr}{fd:FuncData}{ps:List Str}(F:Fun K x qual st f fd)
 (h:∀ (kV doc pm:Value) (an:Option Addr) (cdv ct:Value) (us:List Value),us.length=ps.length->bindArgs (PySem.W.fnOf x qual (zt st) (zq st) (ze st) .none kV doc pm an cdv ct) ⟨us,[]⟩=pure (ps.zip us)):Binds K fd ps []:=by
 obtain⟨oc,od,kV,doc,pm,an,cdv,ct,osl,rfl,lk,hcd⟩:=F.ex;exact .all (h kV doc pm an cdv ct)
theorem zx{x qual:Str}{st:Stmt}{f:Addr}{oc:Value}{od an:Option Addr}{osl:Array (Option Value)}{kV doc pm cdv ct:Value}(l:K.lookup f=some ⟨oc,od,.func (PySem.W.fnOf x qual (zt st) (zq st) (ze st) .none kV doc pm an cdv ct),osl⟩)
 (c:PySem.W.codeIn K cdv qual=true) (k:PySem.W.keepIn K (.ref f)=true):Fun K x qual st f (PySem.W.fnOf x qual (zt st) (zq st) (ze st) .none kV doc pm an cdv ct):=⟨⟨oc,od,kV,doc,pm,an,cdv,ct,osl,rfl,l,c⟩,k⟩
end
theorem jj{A:Around}{k:Nat}(hr:Room k A):A.units+1<cLine:=Nat.lt_of_le_of_lt (Nat.add_le_add_left (by decide:1<=64) _) hr.units
section
variable{X:Cx}
end
theorem ite2{c A B:Prop}[Decidable c](h1:c->A)(h2:¬c->B):if c then A else B:=by
 by_cases h:c
 . rw [if_pos h]
   exact h1 h
 . rw [if_neg h]
   exact h2 h
def Same(H H':Hp):Prop:=∀ b o,H b=some o->H' b=some o
theorem Same.refl(H:Hp):Same H H:=fun _ _ h=>h
theorem Same.trans{H H1 H2:Hp}(a:Same H H1)(b:Same H1 H2):Same H H2:=fun c o h=>b c o (a c o h)
theorem Same.free{H H':Hp}(e:Same H H'){l:Addr}(h:H' l=Option.none):H l=Option.none:=by
 cases q:H l with
 | none=>rfl
 | some o=>
  rw [e l o q] at h;cases h
theorem Same.seq{K:Ybf}{H H':Hp}{a:Addr}{xs:List V}(e:Same H H')(h:SqL K H a xs):SqL K H' a xs:=by
 rcases h with (h|⟨o,h⟩)|h
 . exact .inl (.inl (e _ _ h))
 . exact .inl (.inr ⟨o,e _ _ h⟩)
 . exact .inr h
end L2
end
set_option Elab.async false
set_option linter.all false
set_option maxRecDepth 100000
namespace L2
open PySem PySem.Spec PyProof.Rows
def Bits(k:Nat)(x:Int):Prop:=x.natAbs<2 ^ k
theorem Bits.mono{j k:Nat}{x:Int}(h:Bits j x)(hk:j<=k):Bits k x:=YaU h (Nat.pow_le_pow_right #[1] hk)
theorem Bits.mul{j k:Nat}{x y:Int}(h:Bits j x)(h':Bits k y):Bits (j+k) (x*y):=by
 unfold Bits at *;rw [Int.natAbs_mul,Nat.pow_add];exact Nat.mul_lt_mul'' h h'
theorem Bits.neg{k:Nat}{x:Int}(h:Bits k x):Bits k (-x):=by unfold Bits at *;rw [Int.natAbs_neg];exact h
theorem Bits.add{k:Nat}{x y:Int}(h:Bits k x)(h':Bits k y):Bits (k+1) (x+y):=by
 unfold Bits at *;have:=Int.natAbs_add_le x y;rw [Nat.pow_succ];omega
theorem Bits.sub{k:Nat}{x y:Int}(h:Bits k x)(h':Bits k y):Bits (k+1) (x - y):=by
 have:=h.add h'.neg;rwa [<-Int.sub_eq_add_neg] at this
theorem Bits.le{k:Nat}{x y:Int}(h:Bits k x)(hy:y.natAbs<=x.natAbs):Bits k y:=Nat.lt_of_le_of_lt hy h
theorem Bits.log2{k:Nat}{x:Int}(h:Bits k x)(hk:0<k):x.natAbs.log2<k:=by
 rcases Nat.eq_zero_or_pos x.natAbs with h0|hp
 . rw [h0];exact hk
 . exact(Nat.log2_lt (Nat.ne_of_gt hp)).mpr h
theorem Bits.bits{k:Nat}{x:Int}(h:Bits k x):Builtin.Int.intBits x<=k:=by
 unfold Builtin.Int.intBits
 split
 . exact WaK _
 . rename_i hx
   have hx':x.natAbs≠0:=by
    intro e;apply hx;rw [Int.natAbs_eq_zero.mp e];rfl
   exact(Nat.log2_lt hx').mpr h
theorem Bits.mulOk{j k:Nat}{x y:Int}(h:Bits j x)(h':Bits k y)(hk:j+k<=134217728):IntMulOk x y:=by
 unfold IntMulOk;have e1:=h.bits;have e2:=h'.bits;have e:Builtin.Int.intTooBig ((Builtin.Int.intBits x:Int)+(Builtin.Int.intBits y:Int))=false:=by
  unfold Builtin.Int.intTooBig;refine decide_eq_false ?_;have:(bitsLine:Nat)=134217728:=by unfold bitsLine;decide
  omega
 intro z;rw [Yak] at z;have z2:=z.2;rw [e] at z2;cases z2
section
variable{X:Cx}
theorem zie:OpR X (binaryOp .Mult) (rI IntMulOk fun i j=>.int (i*j)):=opI fun _ _ _ _ _ _ _ hc q=>mul_int q hc
def Je(i j:Int):Prop:=0<=j/\(Builtin.Int.intBits i:Int)*j<=134217728
theorem zh4:OpR X (binaryOp .Pow) (rI Je fun i j=>.int (i ^ j.toNat)):=opI fun i j _ _ _ _ _ hc q=>by
 refine pow_int hc.1 ?_ q
 have e:((2:Int) ^ 27)=134217728:=#[1]
 rw [e];exact hc.2
end
theorem zJ.got{P:Program}{w:World}{H:Hp}{h:Heap}{a:Addr}{o:HO}(x:zJ P w H h a o):∃ ob,h.get? a=some ob:=by
 cases o with
 | lst xs=>obtain⟨_,_,_,_,e⟩:=x;exact⟨_,e⟩
 | tup xs=>obtain⟨_,_,_,ob,e,_⟩:=x;exact⟨_,e⟩
 | dK kvs=>obtain⟨_,_,_,_,o,_,_,e,_⟩:=x;exact⟨_,e⟩
 | dT kvs=>obtain⟨_,_,_,_,o,_,_,e,_⟩:=x;exact⟨_,e⟩
 | set S n=>obtain⟨o,_,_,_,e,_⟩:=x;exact⟨_,e⟩
 | ins C dx fs=>obtain⟨_,_,_,e,_⟩:=x;exact⟨_,e⟩
 | own y=>obtain⟨_,e⟩:=x;exact⟨_,e⟩
 | xd fs=>obtain⟨_,⟨_,_,_,e,_⟩,_⟩:=x;exact⟨_,e⟩
 | rng lo hi=>obtain⟨_,_,_,e⟩:=x;exact⟨_,e⟩
 | frz ob u=>obtain⟨e,_⟩:=x;exact⟨_,e⟩
 | tbl ps=>exact⟨_,(show h.get? a=some _ from x)⟩
 | met f y=>exact⟨_,(show h.get? a=some _ from x)⟩
 | ext φ=>obtain⟨_,⟨_,e⟩,_⟩:=x;exact⟨_,e⟩
theorem HOk.through{P:Program}{w:World}{H:Hp}{B h h':Heap}(x:HOk P w H h)(k:B.StaysIn h)(k':B.StaysIn h')(t:∀ b o,H b=some o->∃ o',B.get? b=some o'):HOk P w H h':=fun a o e=>
 (x a o e).stay (fun b u hb q=>by
  have hB:∃ ob,B.get? b=some ob:=by
   rcases hb with z|z
   . exact t b o (z ▸ e)
   . exact t b _ z
  obtain⟨ob,hob⟩:=hB;have e1:=k b ob hob;rw [q] at e1;cases e1;exact k' b _ hob) (fun _ q=>q) fun _ _ q=>q
theorem Un.through{fs:List Addr}{H H':Hp}{B h h1 h2:Heap}(un:Un fs [] H H' h h1)(cov:∀ b o,h.get? b=some o->b∉fs->∃ o',B.get? b=some o')(k:B.StaysIn h1)(k':B.StaysIn h2)
 (fr:∀ b∈fs,∀ o,h1.get? b=some o->∃ sl,h2.get? b=some { o with slots:=sl }):Un fs [] H H' h h2 where
 keep:=fun b o q n hb hx=>by
  obtain⟨o',ho⟩:=cov b o q hb;have e:=un.keep b o q n hb hx;have e1:=k b o' ho;rw [e] at e1;cases e1;exact k' b _ ho
 slot:=fun b o q n hb hx=>by
  obtain⟨sl,e⟩:=un.slot b o q n hb hx;obtain⟨sl',e'⟩:=fr b hb _ e;exact⟨sl',e'⟩
 free:=un.free
 there:=fun b o q hx=>by
  by_cases hb:b∈fs
  . obtain⟨o',e⟩:=un.there b o q hx
    obtain⟨sl,e'⟩:=fr b hb _ e;exact⟨_,e'⟩
  . obtain⟨o',ho⟩:=cov b o q hb
    exact⟨o',k' b _ ho⟩
 tups:=un.tups
 frzs:=un.frzs
 tbls:=un.tbls
structure Fly(P:Program)(w:World)(stack:List Env)(H:Hp)(s:Shared)(ea C:Addr)(H':Hp)(s':Shared):Prop where
 os:s'.os=s.os
 bare:AllBare s'.gens
 un:Un (frs stack) [] H H' s.heap s'.heap
 hok:HOk P w H' s'.heap
 fly:∃ B a0,Heap.FlyingW B stack ea (.ref C) a0 s'.heap/\(∀ b o,s.heap.get? b=some o->b∉frs stack->∃ o',B.get? b=some o')/\(∀ b o,H' b=some o->∃ o',B.get? b=some o')
def CXR(P:Program)(w:World):CXT:=fun outer H s E e s'=>∃ ea C H',e=.ref ea/\Fly P w outer H s ea C H' s'/\E (.ref C) none H'
theorem zbk{B h h':Heap}{l:List Env}(fr:h.FunFrames B l)(sm:h.UpToSlots h'):∀ b∈frs l,∀ o,h.get? b=some o->∃ sl,h'.get? b=some { o with slots:=sl }:=fun b hb o ho=>by
 obtain⟨_,o2,ho2,hd⟩:=fr.mem hb;rw [ho] at ho2;cases ho2;exact sm b o ho hd
section
variable{P:Program}{w:World}{K:Ybf}{mg:Str->Option Value}{base:Heap}{N:List Str}{qual:Str}{scope:Scope}{f:Addr}{cd:Value}{A:Around}{outer:List Env}{s₀ : Shared}{H₀ : Hp}{E:XK}{CX:CXT}
theorem zcb{pins:List (Addr×Obj)}{σ : St}{H:Hp}{s:Shared}(I:Inv (cxOf CX P w K mg base N qual scope f cd A outer s₀ H₀ E) pins σ H s){b:Addr}{o:Obj}(q:s₀.heap.get? b=some o)(hb:b∉frs outer) :
 b∉frs (cxOf CX P w K mg base N qual scope f cd A outer s₀ H₀ E).stack:=fun z=>by
 rcases WaB.mp (I.stkSub b z) with e|e
 . have h1:=YaX q
   rw [show b=s₀.heap.objs.size from e] at h1
   exact Yap _ h1
 . exact hb e
theorem zcV{pins:List (Addr×Obj)}{σ : St}{H:Hp}{s:Shared}(I:Inv (cxOf CX P w K mg base N qual scope f cd A outer s₀ H₀ E) pins σ H s){b:Addr}{o:Obj}(q:s₀.heap.get? b=some o):∃ o',s.heap.get? b=some o':=
 I.base.there b o q (fun z=>absurd (show b∈([]:List Addr) from z) (by simp))
theorem zm:Passes (CXR P w) (cxOf (CXR P w) P w K mg base N qual scope f cd A outer s₀ H₀ E) E:=by
 intro pins σ H s e s' I h;obtain⟨ea,C,H',rfl,F,q⟩:=h;obtain⟨B,a0,fl,cov,trk⟩:=F.fly;have J:=I.call' (ch:=[]) F.os F.un F.hok F.bare (fun b z=>absurd z (by simp))
 have cov':∀ b o,s₀.heap.get? b=some o->b∉frs outer->∃ o',B.get? b=some o':=fun b o z hb=>by
  obtain⟨o1,h1⟩:=zcV I z;exact cov b o1 h1 (zcb I z hb)
 refine wpAny_leaves_onW (base:=B) (outer:=outer) (L:=s₀.heap.objs.size) I.ok.frames rfl fl fun h' fl' sm=>?_
 have fr:=zbk (fl.2.2.1).2.2 sm;exact⟨ea,C,H',rfl,⟨J.os,F.bare,J.base.through cov' fl.1 fl'.1 fr,F.hok.through fl.1 fl'.1 trk,B,a0,fl',cov',trk⟩,q⟩
def Flies(X:Cx)(E:XK):Prop:=∀ (pins:List (Addr×Obj)) (σ : St) (H:Hp) (s:Shared) (e C:Addr) (vs:List Value) (h1:Heap),Inv X pins σ H s->Heap.MadeExcOf s.heap h1 e (.ref C) vs->E (.ref C) none H->X.xe (.ref e) { s with heap:=h1 }
theorem jh:Flies (cxOf (CXR P w) P w K mg base N qual scope f cd A outer s₀ H₀ E) E:=by
 intro pins σ H s e C vs h1 I M q;have kB:(PySem.W.hideAll s.heap (frs (cxOf (CXR P w) P w K mg base N qual scope f cd A outer s₀ H₀ E).stack)).StaysIn s.heap:=fun b o z=>PySem.W.of_hideAll _ z
 have trk:∀ b o,H b=some o->∃ o',(PySem.W.hideAll s.heap (frs (cxOf (CXR P w) P w K mg base N qual scope f cd A outer s₀ H₀ E).stack)).get? b=some o':=fun b o z=>by
  obtain⟨ob,hob⟩:=(I.hok b o z).got;exact⟨ob,PySem.W.hideAll_get _ hob fun hm=>by rw [I.stkFree b hm] at z;cases z⟩
 have cov:∀ b o,s₀.heap.get? b=some o->b∉frs outer->∃ o',(PySem.W.hideAll s.heap (frs (cxOf (CXR P w) P w K mg base N qual scope f cd A outer s₀ H₀ E).stack)).get? b=some o':=fun b o z hb=>by
  obtain⟨o1,h1⟩:=zcV I z;exact⟨o1,PySem.W.hideAll_get _ h1 (zcb I z hb)⟩
 refine wpAny_leaves_madeW (base:=PySem.W.hideAll s.heap (frs (cxOf (CXR P w) P w K mg base N qual scope f cd A outer s₀ H₀ E).stack)) (h:=s.heap) (outer:=outer) (L:=s₀.heap.objs.size) I.ok.frames rfl kB
  (PySem.W.funFrames_hide I.stack fun env he b hb=>List.mem_filterMap.mpr ⟨env,he,hb⟩) M fun h' t fl tu bt sm=>?_
 have fr:∀ b∈frs outer,∀ o,s.heap.get? b=some o->∃ sl,h'.get? b=some { o with slots:=sl }:=fun b hb o ho=>by
  obtain⟨_,o2,ho2,hd⟩:=I.funs.mem hb;rw [ho] at ho2;cases ho2;exact sm b o (M.keeps b o ho) hd
 exact⟨e,C,H,rfl,⟨I.os,I.bare,I.base.through cov kB fl.1 fr,I.hok.through kB fl.1 trk,_,_,fl,cov,trk⟩,q⟩
end
def bmVE:List Value:=[.type "ValueError", .type "Exception", .type "BaseException", .type "object"]
theorem zd6{K:Ybf}{h:Heap}{C:Addr}(X:K.In h)(q:PySem.W.excIn K C bmVE "ValueError.__new__" = true) :
 ∃ bm N nm qn bs hdct sn sub ab col dd k0 k1 k2 k3 k5 mN,h.get? C=some (excClassObj nm qn C N bs bm hdct sn sub ab col dd k0 k1 k2 k3 k5 "ValueError.__new__")/\h.Ns N mN/\mN "__init__" = none/\OwnTail h bmVE bm:=by
 unfold PySem.W.excIn at q
 split at q
 . rename_i dd cdx sl ho
   split at q
   . rename_i C' bm k0 k1 k2 k3 n k5 hm hs
     rw [Yak,Yak,Yak,Yak,Yak] at q;obtain⟨⟨⟨⟨⟨q1,q2⟩,q3⟩,q4⟩,q5⟩,q6⟩:=q;have e1:C'=C:=beq_iff_eq.mp q1;have e2:n = "ValueError.__new__":=beq_iff_eq.mp q2;have e6:=beq_iff_eq.mp q6;obtain⟨nm,bs,mro,ns,qn,hd,sn,sub,ab,col,del⟩:=cdx;obtain⟨l⟩:=sl;dsimp only at hm q3 q5 e6 hs;have e3:del=false:=by simpa using q3
     subst e1 e2 e3 hm hs;exact⟨bm,ns,nm,qn,bs,hd,sn,sub,ab,col,dd,k0,k1,k2,k3,k5,_,X _ _ ho,.of_isNs (PySem.W.isNs_of_in X q5),PySem.W.nsMap_none_of_in X q5 e6,PySem.W.tail_of_in X q4⟩
   . cases q
 . cases q
def zfq(C:Addr)(E:XK)(t:TA):TS:=fun _ σ H=>t σ H fun vs H1=>vs.length<=sizeLine/\E (.ref C) none H1
theorem zhg{X:Cx}{x:Str}{C:Addr}{e0:Expr}{t:TA}{E:XK}{np cpos pos:Pos}(hf:Flies X E)(hc:X.calm=true)(hg:Gl X x)(hm:X.mg x=some (.ref C))(hx:PySem.W.excIn X.K C bmVE "ValueError.__new__" = true)(ha:PA X [e0] t)
 (hdb:(x==("__debug__" : Str))=false:=by decide) (hs:starEach [e0] X.env=[(false,eval e0 X.env)]:=by rfl):PS X (.Raise (some (.Call (.Name x np) [e0] [] cpos)) none pos) (zfq C E t):=by
 intro pins s σ H D I h;obtain⟨bm,Nn,nm,q,bs,hdct,sn,sub,ab,col,dd,k0,k1,k2,k3,k5,mN,hC,hN,hni,T⟩:=zd6 I.ok.mod.kin hx;refine wpAny_Raise_call_subT (C:=C) (nm:=nm) (q:=q) (N:=Nn) (bs:=bs) (bm:=bm) (hdct:=hdct) (sn:=sn) (sub:=sub) (ab:=ab) (col:=col) (dd:=dd) (k0:=k0) (k1:=k1) (k2:=k2) (k3:=k3) (k5:=k5)
  PySem.F.excBase_ValueError (mN:=mN) (T.hasType rfl) (I.ok.hd hc) (by rw [hs];rfl) hni (zac I hg hm ⟨rfl,?_⟩ hdb)
 have h1:=ha cpos pins s σ H _ I h;rw [hs] at h1 ⊢;refine Calls.evalArgs_plain (wpAny_mono h1 (fun us s2 z=>?_) fun _ _ z=>z)
 obtain⟨vs,H1,I1,r,z,qE⟩:=z;exact⟨rfl,by show us.length<=sizeLine;rw [<-r.length];exact z,I1.bk _ _ hC,hN.keeps I1.bk,T.keeps I1.bk,fun h' e M=>hf pins σ H1 s2 e C us h' I1 M qE⟩
theorem Fun.okR{P:Program}{w:World}{K:Ybf}{mg:Str->Option Value}{base:Heap}{x qual:Str}{st:Stmt}{f:Addr}{fd:FuncData}{N ps:List Str}{k:Nat}{sp:Sp}(F:Fun K x qual st f fd)(S:FnScope N ps (ze st))(len:∀ vs H Q E,sp vs H Q E->vs.length=ps.length)
 (hbody:∀ (cdv:Value) (A:Around) (outer:List Env) (s:Shared) (H:Hp) (vs:List V) (Q:VK) (E:XK),Room k (A.deeper (envOfC qual (ze st) s.heap.objs.size f cdv))->sp vs H Q E->
  ∃ t,PSs (cxOf (CXR P w) P w K mg base N qual (ze st) f cdv A outer s H E) (zq st) t/\t { nx:=fun _ H'=>Q .non H',rt:=Q } (start N vs) H):FnOk P w K mg base (CXR P w) (k+1) f fd ps sp:=by
 obtain⟨oc,od,kV,doc,pm,an,cdv,ct,osl,rfl,lk,hcd⟩:=F.ex;exact zct lk hcd S len fun A outer s H vs Q E hr hsp=>hbody cdv A outer s H vs Q E hr hsp
abbrev TX:=Ends->(Addr->Hp->Prop)->St->Hp->Prop
def XE(X:Cx)(pins:List (Addr×Obj))(σ : St)(E:Addr->Hp->Prop)(e:Value)(s':Shared):Prop:=
 ∃ ea C H1 s1 H',e=.ref ea/\Inv X pins σ H1 s1/\Fly X.prog X.w X.stack H1 s1 ea C H' s'/\E C H'
def PX(X:Cx)(st:List Stmt)(t:TX):Prop:=
 ∀ (pins:List (Addr×Obj)) (s:Shared) (σ : St) (H:Hp) (D:Ends) (E:Addr->Hp->Prop),Inv X pins σ H s->t D E σ H->wpAny (model X.prog X.w) X.A (execs st X.env) (SP X pins D) (XE X pins σ E) s
def zdM(sp:Sp)(t:TA):TX:=fun D E σ H=>t σ H fun vs H1=>sp vs H1 (fun _ H2=>D.nx σ H2) (fun c _ H2=>∃ C,c=.ref C/\E C H2)
theorem PA.nox{X:Cx}{es:List Expr}{t:TA}(h:PA X.nox es t)(pos:Pos){pins:List (Addr×Obj)}{s:Shared}{σ : St}{H:Hp}{Q:List V->Hp->Prop}{E:Value->Shared->Prop}(I:Inv X pins σ H s)(q:t σ H Q) :
 wpAny (model X.prog X.w) X.A (spliced (backTo pos (starEach es X.env))) (AP X pins σ Q) E s:=
 wpAny_mono (h pos pins s σ H Q (I.wish _) q) (fun us s1 ⟨vs,H1,I1,r,q1⟩=>⟨vs,H1,I1.unwish,r,q1⟩) fun _ _ z=>z.elim
theorem zhQ{X:Cx}{k:Nat}{f:Addr}{fd:FuncData}{ps:List Str}{sp:Sp}{x:Str}{p pos pos':Pos}{e:Expr}{es:List Expr}{t:TA}(F:FnOk X.prog X.w X.K X.mg X.base (CXR X.prog X.w) k f fd ps sp)(hr:Room k X.A)(hg:Gl X x)
 (hm:X.mg x=some (.ref f)) (hk:PySem.W.keepIn X.K (.ref f)=true) (hb:Binds X.K fd ps []) (ha:PA X.nox (e::es) t) (hdb:(x==("__debug__" : Str))=false:=by decide)
 (he:starEach (e::es) X.env=(false,eval e X.env)::starEach es X.env:=by rfl) (hpl:(backTo pos (starEach es X.env)).any (·.1)=false:=by rfl)
 (hs:swapsWith (.Call (.Name x p) (e::es) [] pos) none pos'.line X.env=pure false:=by rfl):PX X [.Expr (.Call (.Name x p) (e::es) [] pos) pos'] (zdM sp t):=by
 intro pins s σ H D E I h;refine wpAny_execs_cons (wpAny_Expr_any (wpAny_Call_Name_kw (zac I hg hm ?_ hdb)) I.quiet hs);refine PySem.W.callWith_K (h₀:=X.base) I.ok.mod.kin hk (wpAny_mono (PA.nox ha pos I h) (fun us s1 z=>?_) fun _ _ z=>z) he hpl
 obtain⟨vs,H1,I1,r,q⟩:=z;refine⟨I1.kIn,?_⟩;have hl:us.length=ps.length:=by rw [<-r.length];exact F.len _ _ _ _ q
 have hb1:BindsTo s1 fd ⟨us,[]⟩ (ps.zip us):=by
  have:=hb s1 us I1.kIn (by rw [Yao];exact hl)
  rwa [Yao] at this
 refine wpAny_call (codeAny_mono (F.run X.A X.stack s1 H1 ⟨us,[]⟩ us vs _ _ hr I1.env0 hb1 r q) fun r' s' hq=>?_)
 cases r' with
 | error e=>
  obtain⟨ea,C,H',rfl,F',C',e',hE⟩:=hq;cases e';exact⟨ea,C,H1,s1,H',rfl,I1,F',hE⟩
 | ok fl=>
  cases fl with
  | ret u=>
   obtain⟨v,H2,I2,_,q2⟩:=I1.after hq;exact wpAny_execs_nil ⟨σ,H2,I2,q2⟩
  | next=>exact False.elim hq
  | brk=>exact False.elim hq
  | cont=>exact False.elim hq
def excO(ea C:Addr):HO:=.ext fun h=>∃ o vs,h.get? ea=some o/\o.cls=.ref C/\o.data=.fields vs
abbrev Cx.inExc(X:Cx)(ea:Addr):Cx:={ X with A:=X.A.mark (some (.ref ea)),calm:=false,xe:=fun _ _=>False }
section
variable{X:Cx}{pins:List (Addr×Obj)}{σ : St}{H:Hp}{s:Shared}
theorem Inv.exc(I:Inv X pins σ H s)(ea:Addr):Inv (X.inExc ea) pins σ H s:=
 ⟨⟨I.ok.mod,I.ok.kind,I.ok.glob,I.ok.blt,I.ok.above,I.ok.inj,I.ok.has,I.ok.cab,(fun z=>absurd z Yal),I.ok.frames,I.ok.stk,I.ok.exf,I.ok.bs,I.ok.bsz,I.ok.noex,I.ok.exfs,I.ok.funs,I.ok.frf⟩,
  I.os,I.bare,I.base,I.loc,I.cell,I.free,I.freeC,I.pin,I.hok,I.len⟩
theorem Inv.unexc{ea:Addr}(I:Inv (X.inExc ea) pins σ H s)(ok:X.Ok):Inv X pins σ H s:=⟨ok,I.os,I.bare,I.base,I.loc,I.cell,I.free,I.freeC,I.pin,I.hok,I.len⟩
theorem zaC{M:Model}{A:Around}{E:Value->Shared->Prop}{i:Nat}{n:Str}{pos:Pos}{Q:Unit->Shared->Prop}(I:Inv X pins σ H s)(hN:X.N.Nodup)(hi:X.N[i]?=some n)(hk:X.env.scope.names.lookup n=some .local)
 (h:∀ s',Inv X pins (σ.set i none) H s'->Q () s'):wpAny M A (do bindName X.env n .none;unbindBehindTheSuite X.env n pos) Q E s:=by
 obtain⟨m,hn,hl⟩:=id I.loc;refine wpAny_nameGoes_keeps hk hn (by rw [I.ok.kind];rfl) fun h' v hn' hs=>h _ ?_
 have old:∀ {b:Addr} {o:Obj},X.s₀.heap.get? b=some o->b≠X.env.locals:=fun e=>Yaf (YaU (YaX e) I.ok.above)
 refine⟨I.ok,I.os,I.bare,⟨fun b o e n hb hx=>(hs.2 b (old e)).trans (I.base.keep b o e n hb hx),fun b o e n hb hx=>?_,I.base.free,fun b o e hx=>?_,I.base.tups,I.base.frzs,I.base.tbls⟩,⟨_,hn',fun j y v' e1 e2 e3=>?_⟩,fun y c e=>?_,I.free,I.freeC,fun p hp=>?_,fun b ob e=>?_,by simpa using I.len⟩
 . obtain⟨sl,e1⟩:=I.base.slot b o e n hb hx
   exact⟨sl,(hs.2 b (old e)).trans e1⟩
 . obtain⟨o',e1⟩:=I.base.there b o e hx
   exact⟨o',(hs.2 b (old e)).trans e1⟩
 . by_cases hj:j=i
   . subst hj
     have hiσ : j < σ.length:=by rw [I.len];exact(Ya8.mp hi).1
     rw [Yas hiσ] at e2;cases e2
   . rw [Yac (WaL hj)] at e2
     obtain⟨u',r',q⟩:=hl j y v' e1 e2 e3;refine⟨u',r',?_⟩
     rcases q with ⟨k,e⟩|⟨k,c,e,z⟩
     . refine .inl ⟨k,?_⟩
       have:y≠n:=fun e=>hj (za7 hN e1 (e ▸ hi))
       simp [this,e]
     . exact .inr ⟨k,c,e,z.sameBut hs (I.cne y c e)⟩
 . obtain⟨w',z⟩:=I.cell y c e
   exact⟨w',z.sameBut hs (I.cne y c e)⟩
 . obtain⟨e,n,ne,nf,d⟩:=I.pin p hp
   exact⟨(hs.2 p.1 ne).trans e,n,ne,nf,d⟩
 . refine(I.hok b ob e).stay (fun c w' hc q=>(hs.2 c ?_).trans q) (fun _ q=>q) fun _ _ q=>q
   rintro rfl
   rcases hc with z|z
   . have:=I.free;rw [z,e] at this;cases this
   . have:=I.free;rw [z] at this;cases this
end
theorem HOk.track{P:Program}{w:World}{H:Hp}{h:Heap}{a:Addr}{o:HO}(x:HOk P w H h)(hn:H a=none)(new:zJ P w (upd H a o) h a o):HOk P w (upd H a o) h:=fun b u e=>by
 by_cases hb:b=a
 . subst hb;rw [zp] at e;cases e;exact new
 . rw [zh hb] at e
   exact(x b u e).stay (fun c v _ q=>q) (fun c q=>by rw [zh (zP q hn)];exact q) fun c xs q=>by rw [zh (zP q hn)];exact q
theorem Un.track{fs:List Addr}{H H':Hp}{h h':Heap}{a:Addr}{o:HO}(un:Un fs [] H H' h h')(hn:H' a=none)(ha:h.get? a=none):Un fs [] H (upd H' a o) h h' where
 keep:=un.keep
 slot:=un.slot
 free:=fun b ob q n hx=>by
  rw [zh (fun z=>by subst z;rw [q] at ha;cases ha)]
  exact un.free b ob q n hx
 there:=un.there
 tups:=fun b xs q=>by have e:=un.tups b xs q;rw [zh (zP e hn)];exact e
 frzs:=fun b ob u q=>by have e:=un.frzs b ob u q;rw [zh (zP e hn)];exact e
 tbls:=fun b ps q=>by obtain⟨m,e⟩:=un.tbls b ps q;exact⟨m,by rw [zh (zP e hn)];exact e⟩
def tTry(K:Ybf)(CC:Addr)(i:Nat)(tx:TX)(th:Addr->TS):TS:=fun D σ H=>tx D (fun C H1=>PySem.W.exmOne K (.ref C) (.ref CC)=some true/\∀ ea,H1 ea=none->
 th ea { nx:=fun σ' H'=>D.nx (σ'.set i none) H',rt:=D.rt,bk:=fun σ' H'=>D.bk (σ'.set i none) H',ct:=fun σ' H'=>D.ct (σ'.set i none) H' } (σ.set i (some (.ref ea))) (upd H1 ea (excO ea C))) σ H
theorem zko{X:Cx}{rest:List ExceptHandler}{body:List Stmt}{b₀ : Stmt}{suite:List Stmt}{cx n:Str}{CC:Addr}{i:Nat}{np hpos pos:Pos}{tx:TX}{th:Addr->TS}(hst:X.stack=X.env::X.outer)(hfr:X.env.frame=some X.env.locals)(hN:X.N.Nodup)(hi:X.N[i]?=some n)
 (hk:X.env.scope.names.lookup n=some .local) (hg:Gl X cx) (hm:X.mg cx=some (.ref CC)) (hb:PX X body tx) (hh:∀ ea,PSs (X.inExc ea) (b₀ :: suite) (th ea)) (hdb:(cx==("__debug__" : Str))=false:=by decide) :
 PS X (.Try body (.ExceptHandler (some (.Name cx np)) (some n) (b₀ :: suite) hpos::rest) [] [] pos) (tTry X.K CC i tx th):=by
 intro pins s σ H D I h;refine wpAny_Try_except (wpAny_mono (hb pins s σ H D _ I h) (fun fl s1 q=>?_) fun e s' z=>?_)
 . cases fl with
   | next=>exact wpAny_execs_nil q
   | ret v=>exact q
   | brk=>exact q
   | cont=>exact q
 obtain⟨ea,C,H1,s1,H',rfl,I1,F,hx,hth⟩:=z;obtain⟨B,a0,fl,cov,trk⟩:=F.fly;have fr0:X.A.frames=some (X.env::X.outer):=by rw [<-hst];exact I.ok.frames
 have flx:Heap.FlyingW B (X.env::X.outer) ea (.ref C) a0 s'.heap:=hst ▸ fl;have hea:H' ea=none:=by
  cases q:H' ea with
  | none=>rfl
  | some o=>
   obtain⟨o',e⟩:=trk ea o q;have:=fl.2.1;rw [e] at this;cases this
 have hs1:s1.heap.get? ea=none:=by
  cases q:s1.heap.get? ea with
  | none=>rfl
  | some o=>
   exfalso
   by_cases hm:ea∈frs X.stack
   . obtain⟨_,o2,ho2,hd2⟩:=fl.2.2.1.mem hm
     obtain⟨oe,vs,T,oT,ts,he,_,hd,_⟩:=fl.2.2.2;rw [he] at ho2;cases ho2;exact hd2 _ hd
   . obtain⟨o',e⟩:=cov ea o q hm
     have:=fl.2.1;rw [e] at this;cases this
 refine wpAny_looks_onW fr0 hfr flx fun h4 held sm4=>?_
 refine wpAny_landsW held fun h5 fl5 sm5=>?_
 have un5:Un (frs X.stack) [] H1 H' s1.heap h5:=F.un.through cov fl.1 fl5.1 (zbk fl.2.2.1 (sm4.trans sm5));have I5:Inv X pins σ H' { s' with heap:=h5 }:=I1.call' (ch:=[]) F.os un5 (F.hok.through fl.1 fl5.1 trk) F.bare (fun b z=>absurd z (by simp))
 refine wpAny_handleBy_cons (codeAny_handlers_test (zac (I5.exc ea) hg hm ?_ hdb)) (by intro q;cases q)
 have LT:PySem.W.Looks (model X.prog X.w) h5 (typeOf (.ref ea)) (.ref C):=by
  obtain⟨ob,hob,hc⟩:=fl5.there;rw [<-hc];exact(PySem.W.Looks.ld hob).andThen .now
 refine PySem.W.Looks.here (s:={ s' with heap:=h5 }) (PySem.W.exm_one I5.kIn LT hx) ?_
 refine codeAny_handlers_suite_as (lands_againW fl5 fun h6 fl6 sm6=>?_)
 have un6:Un (frs X.stack) [] H1 H' s1.heap h6:=F.un.through cov fl.1 fl6.1 (zbk fl.2.2.1 ((sm4.trans sm5).trans sm6));have hokx:HOk X.prog X.w (upd H' ea (excO ea C)) h6:=(F.hok.through fl.1 fl6.1 trk).track hea (by
  obtain⟨oe,vs,T,oT,ts,he,⟨hc,_⟩,hd,_⟩:=fl6.2.2.2;exact⟨⟨oe,vs,he,hc,hd⟩,⟨oe,he⟩,fun x1 x2 ⟨o,ws,y1,y2,y3⟩ kk=>⟨o,ws,kk o y1,y2,y3⟩⟩)
 have I6:Inv X pins σ (upd H' ea (excO ea C)) { s' with heap:=h6 }:=I1.call' (ch:=[]) F.os (un6.track hea hs1) hokx F.bare (fun b z=>absurd z (by simp))
 refine J2 (X:=X.inExc ea) (i:=i) (x:=n) (v:=.ref ea) (I6.exc ea) hN hi (.inl hk) rfl (fun s7 I7=>?_) (.inr hk)
 refine wpAny_mono (hh ea pins s7 _ _ _ I7 (hth ea hea)) (fun f8 s8 q8=>?_) fun _ _ z=>z.elim
 show wpAny (model X.prog X.w) X.A (do bindName X.env n .none;unbindBehindTheSuite X.env n hpos) (fun _ s9=>SP X pins D f8 s9) X.xe s8
 cases f8 with
 | next=>obtain⟨σ8,H8,I8,q⟩:=q8;exact zaC (I8.unexc I.ok) hN hi hk fun s9 I9=>⟨_,_,I9,q⟩
 | brk=>obtain⟨σ8,H8,I8,q⟩:=q8;exact zaC (I8.unexc I.ok) hN hi hk fun s9 I9=>⟨_,_,I9,q⟩
 | cont=>obtain⟨σ8,H8,I8,q⟩:=q8;exact zaC (I8.unexc I.ok) hN hi hk fun s9 I9=>⟨_,_,I9,q⟩
 | ret u=>obtain⟨v,σ8,H8,I8,r,q⟩:=q8;exact zaC (I8.unexc I.ok) hN hi hk fun s9 I9=>⟨v,_,_,I9,r,q⟩
theorem JG:bootBuiltins "list" = some (.type "list"):=#[3]
theorem zgF:bootBuiltins "zip" = some (.type "zip"):=#[3]
theorem zeq:bootBuiltins "ValueError" = some (.type "ValueError"):=#[3]
theorem zbC:bootBuiltins "isinstance" = some (.builtin "isinstance"):=#[3]
theorem zO:bootBuiltins "len" = some (.builtin "len"):=#[3]
theorem za9:bootBuiltins "abs" = some (.builtin "abs"):=#[3]
theorem zdn:bootBuiltins "min" = some (.builtin "min"):=#[3]
theorem Zk:bootBuiltins "sum" = some (.builtin "sum"):=#[3]
structure XAttr(K:Ybf)(C:Addr):Prop where
 ga:PySem.W.findIn K (.ref C) "__getattribute__" = some (some (.builtin "BaseException.__getattribute__"))
 gt:PySem.W.findIn K (.ref C) "__getattr__" = some none
 cl:PySem.W.findIn K (.ref C) "__class__" = some (some (.builtin "object.__class__"))
 ob:PySem.W.mroIn K C (.type "object")=some true
 be:PySem.W.mroIn K C (.type "BaseException")=some true
 ty:PySem.W.isClsIn K C=true
def XAt(ea C:Addr)(h:Heap):Prop:=∃ o vs,h.get? ea=some o/\o.cls=.ref C/\o.data=.fields vs
section
variable{prog:Program}{w:World}{A:Around}{E:Value->Shared->Prop}{s:Shared}{K:Ybf}{ea C:Addr}
theorem zbj{M:Model}{h:Heap}(p:XAt ea C h):PySem.W.Looks M h (typeOf (.ref ea)) (.ref C):=by
 obtain⟨o,_,h1,h2,_⟩:=p;rw [<-h2];exact(PySem.W.Looks.ld h1).andThen .now
theorem zjm{R:Result->Shared->Prop}{tp:Value}(Y:XAttr K C)(X:K.In s.heap)(p:XAt ea C s.heap)(h:R (.ok (.ret (.ref C))) s) :
 codeAny (model prog w) A (.call (.builtin "getset_descriptor.__get__") ⟨[.builtin "object.__class__", .ref ea,tp],[]⟩) R s:=by
 obtain⟨hh,g,dr,t,os⟩:=s;have L0:=zbj (M:=model prog w) p;have L1:=PySem.W.looks_mroIn (M:=model prog w) X Y.ob;refine codeAny_call_builtin PySem.W.KF.slot_gs.plain PySem.W.KF.entry_gs (PySem.W.KF.slot_gs.check _ _ _ _ _ _ _ _ PySem.W.KF.type_class (PySem.W.KF.args_gs _ _ _) ?_);unfold Builtin.«getset_descriptor.__get__» Builtin.Getset_descriptor.descrGet;rw [PySem.W.dga_obj];refine wpAny_bind (wpAny_pure ?_)
 unfold Builtin.Getset_descriptor.descrGetter Builtin.Getset_descriptor.descrCheckInstance Builtin.Getset_descriptor.descrNameAndClass isInstance;simp only [PySem.W.KF.owner_class]
 repeat lk
 refine⟨Code.quiet_builtin _ #[3],codeAny_builtin PySem.W.KF.entry_class ?_⟩
 unfold Builtin.«object.__class__» shownTypeOf
 repeat lk
 exact h
theorem zj5{M:Model}{nameV:Value}{Q:Unit->Shared->Prop}(Y:XAttr K C)(X:K.In s.heap)(p:XAt ea C s.heap)(hq:Q () s):wpAny M A (checkBuiltinCall "BaseException.__getattribute__" ⟨[.ref ea,nameV],[]⟩) Q E s:=by
 have hk:builtinKind "BaseException.__getattribute__" = some .slot:=#[3]
 have hsplit:splitId "BaseException.__getattribute__" = some ("BaseException", "__getattribute__"):=#[3]
 have ha:=F.args_bexc_ga (.ref ea) nameV;obtain⟨hh,g,d,t,os⟩:=s;have L0:=zbj (M:=M) p;have L1:=PySem.W.looks_mroIn (M:=M) X Y.be;simp only [checkBuiltinCall,hk,hsplit];refine wpAny_bind ?_;unfold isInstance
 repeat (first|with_reducible refine Was L0 ?_|with_reducible refine Was L1 ?_|wp_step)
 exact hq
theorem zhx{tk:Tok}{Q:Fin->Shared->Prop}(Y:XAttr K C)(X:K.In s.heap)(p:XAt ea C s.heap)(hq:Q (.done (.ret (.ref C))) s) :
 wpAny (model prog w) A (Builtin.«object.__getattribute__» ⟨[.ref ea,.str "__class__" tk],[]⟩) Q E s:=by
 have p':=p;obtain⟨o,vs,hx,hc,hd⟩:=p;obtain⟨h,g,d,t,os⟩:=s;have hT5:(⟨h,g,d,t,os⟩:Shared).TypeIs (.builtin "object.__class__") "getset_descriptor":=F.typeOf_object_class;have f5:=F.typeOf_object_class;have f6:=F.slot_gs_get.lookup;have f7:=F.slot_gs_set.lookup;have L1:=PySem.W.looks_findIn (M:=model prog w) X Y.cl
 repeat (any_goals (first|assumption|(with_reducible refine wpAny_loadPart_at hx ?_;rw [hc])|with_reducible refine Was L1 ?_|wp_step))
 refine zjm (s:=⟨h,g,d,t,os⟩) Y X p' ?_
 repeat (any_goals (first|assumption|wp_step))
theorem zi5{tk:Tok}{fill expr:Bool}{Q:Value->Shared->Prop}(Y:XAttr K C)(X:K.In s.heap)(p:XAt ea C s.heap)(hq:Q (.ref C) s) :
 wpAny (model prog w) A (getAttrBy (.ref ea) (.str "__class__" tk) fill expr) Q E s:=by
 have p':=p;obtain⟨o,vs,hx,hc,hd⟩:=p;obtain⟨h,g,d,t,os⟩:=s;have f3:=F.excAttr_ValueError.ga.bind (.ref ea);have hx0:(expr&&onTheHeap (Value.builtin "BaseException.__getattribute__"))=false:=by cases expr<;>rfl
 have hx2:(Value.builtin "BaseException.__getattribute__" == Value.builtin "object.__getattribute__")=false:=#[3]
 have hx1:(onTheHeap (Value.ref C)&&Value.builtin "BaseException.__getattribute__" == Value.builtin "object.__getattribute__")=false:=by rw [hx2];rfl
 have L1:=PySem.W.looks_findIn (M:=model prog w) X Y.ga;have L2:=PySem.W.looks_findIn (M:=model prog w) X Y.gt
 repeat (any_goals (first|assumption|(with_reducible refine wpAny_loadPart_at hx ?_;rw [hc])|with_reducible refine Was L1 ?_|with_reducible refine Was L2 ?_|wp_step))
 refine codeAny_call_builtin F.excAttr_ValueError.ga.plain F.entry_bexc_ga (zj5 (s:=⟨h,g,d,t,os⟩) Y X p' (zhx (s:=⟨h,g,d,t,os⟩) Y X p' ?_))
 repeat (any_goals (first|assumption|wp_step))
theorem zji{Q:Option Value->Shared->Prop}(Y:XAttr K C)(X:K.In s.heap)(p:XAt ea C s.heap)(hq:Q (some (.ref C)) { s with toks:=s.toks+1 }):wpAny (model prog w) A (getAttr? (.ref ea) "__class__") Q E s:=by
 obtain⟨h,g,d,t,os⟩:=s;unfold getAttr? getAttrBy?
 repeat (any_goals (first|assumption|with_reducible apply zi5 (s:=⟨h,g,d,t+1,os⟩) Y X p|wp_step))
theorem zbK(Y:XAttr K C):PySem.W.KitX K (.ref ea) (.ref C) (XAt ea C) where
 ty:=fun _ _ _ p=>zbj p
 it:=fun M h X _=>by
  have e:=Y.ty;unfold PySem.W.isClsIn PySem.W.clsIn at e
  split at e
  . rename_i c' d' cd' sl' ho
    intro A' Q' E' s' k q;unfold isType loadHead;exact wpAny_bind (wpAny_loadPart (k _ _ (X _ _ ho)) (wpAny_pure q))
  . cases e
 ne:=fun h tp dd its n sl X htp=>by
  have e:=Y.ty;unfold PySem.W.isClsIn PySem.W.clsIn at e
  split at e
  . rename_i c' d' cd' sl' ho
    refine Bool.eq_false_iff.mpr fun q=>?_
    have e:C=tp:=Value.ref.inj (beq_iff_eq.mp q);subst e;have z:=(X _ _ ho).symm.trans htp;cases z
  . cases e
 ca:=fun X p k=>zji Y X p k
end
section
variable{X:Cx}
theorem zbQ{pins:List (Addr×Obj)}{σ : St}{H:Hp}{s:Shared}{ea C:Addr}(I:Inv X pins σ H s)(h:H ea=some (excO ea C)):XAt ea C s.heap:=by
 obtain⟨p,_⟩:=(show zJ X.prog X.w H s.heap ea (excO ea C) from I.hok ea _ h)
 exact p
def zjU(K:Ybf):List V->Hp->VK->Prop:=fun xs H Q=>∃ (ea C tp:Addr) (cs:List Addr) (b:Bool),xs=[.ref ea,.ref tp]/\H ea=some (excO ea C)/\XAttr K C/\H tp=some (.tup (cs.map V.ref))/\PySem.W.kitAny K (.ref C) (cs.map Value.ref)=some b/\Q (.bl b) H
theorem zdS:∀ {cs:List Addr} {us:List Value},Vals (cs.map V.ref) us->us=cs.map Value.ref
 | [],_,.nil=>rfl
 | a :: cs, _, .cons r t => by
  have e:=zdS (cs:=cs) t;rw [e];cases(show _=Value.ref a from r)
  rfl
theorem zhW:zK X (.builtin "isinstance") (zjU X.K):=by
 intro pins s σ H xs us Q I r h;obtain⟨ea,C,tp,cs,b,rfl,h1,Y,h2,h3,q⟩:=h;obtain⟨u,c,rfl,rx,rc⟩:=zai r;cases(show u=Value.ref ea from rx)
 cases(show c=Value.ref tp from rc)
 obtain⟨its,rv,⟨o,ho,hc,n,hd⟩,_⟩:=I.tuple (SqT.of h2);have e:=zdS rv;subst e;obtain⟨oc,od,dt,sl⟩:=o;dsimp only at hc hd;subst hc hd;exact PySem.W.kia_tup (zbK Y) I.kIn (zbQ I h1) ho h3 (fun z=>nomatch z) fun tk=>⟨.bl b,H,I.tok tk,rfl,q⟩
def zfJ(K:Ybf):List V->Hp->VK->Prop:=fun xs H Q=>∃ ea C D b,xs=[.ref ea,.ref D]/\H ea=some (excO ea C)/\XAttr K C/\PySem.W.kitOne K (.ref C) (.ref D)=some b/\Q (.bl b) H
theorem zgg:zK X (.builtin "isinstance") (zfJ X.K):=by
 intro pins s σ H xs us Q I r h;obtain⟨ea,C,D,b,rfl,h1,Y,h3,q⟩:=h;obtain⟨u,c,rfl,rx,rc⟩:=zai r;cases(show u=Value.ref ea from rx)
 cases(show c=Value.ref D from rc)
 exact PySem.W.kia_one (zbK Y) I.kIn (zbQ I h1) h3 (fun z=>nomatch z) fun tk=>⟨.bl b,H,I.tok tk,rfl,q⟩
def zgz(K:Ybf):List V->Hp->VK->Prop:=fun xs H Q=>∃ ea C n b,xs=[.ref ea,.ty n]/\H ea=some (excO ea C)/\XAttr K C/\PySem.W.kitOne K (.ref C) (.type n)=some b/\Q (.bl b) H
theorem ziL:zK X (.builtin "isinstance") (zgz X.K):=by
 intro pins s σ H xs us Q I r h;obtain⟨ea,C,n,b,rfl,h1,Y,h3,q⟩:=h;obtain⟨u,c,rfl,rx,rc⟩:=zai r;cases(show u=Value.ref ea from rx)
 cases(show c=Value.type n from rc)
 exact PySem.W.kia_one (zbK Y) I.kIn (zbQ I h1) h3 (fun z=>nomatch z) fun tk=>⟨.bl b,H,I.tok tk,rfl,q⟩
end
mutual
inductive RdV(K:Ybf)(H:Hp):V->PyData->Prop
 | non:RdV K H .non .none
 | bl (b):RdV K H (.bl b) (.bool b)
 | int (i):RdV K H (.int i) (.int i)
 | str (x):RdV K H (.str x) (.str x)
 | lst {a xs ds}:SqL K H a xs->RdVs K H xs ds->RdV K H (.ref a) (.list ds)
 | tup {a xs ds}:SqT K H a xs->RdVs K H xs ds->RdV K H (.ref a) (.tuple ds)
inductive RdVs(K:Ybf)(H:Hp):List V->List PyData->Prop
 | nil:RdVs K H [] []
 | cons {x xs d ds}:RdV K H x d->RdVs K H xs ds->RdVs K H (x::xs) (d::ds)
end
section
variable{X:Cx}{pins:List (Addr×Obj)}{σ : St}{H:Hp}{s:Shared}
mutual
theorem RdV.reads(I:Inv X pins σ H s):∀ {x:V} {d:PyData} {u:Value},RdV X.K H x d->RelV x u->∃ as,Reads s.heap u d as
 | _,_,_,.non,r=>by cases r;exact⟨_,.none⟩
 | _,_,_,.bl b,r=>by cases r;exact⟨_,.bool b⟩
 | _,_,_,.int i,r=>by obtain⟨t,rfl⟩:=r;exact⟨_,.int i t⟩
 | _,_,_,.str x,r=>by obtain⟨t,rfl⟩:=r;exact⟨_,.str x t⟩
 | _, _, _, .lst hq hs, r => by
  cases r;obtain⟨its,rv,⟨o,n,ho,hc,_,hd⟩,_⟩:=I.list hq
  obtain⟨as,q⟩:=RdVs.reads I hs rv;exact⟨_,.list ho hc hd q⟩
 | _, _, _, .tup hq hs, r => by
  cases r;obtain⟨its,rv,⟨o,ho,hc,n,hd⟩,_⟩:=I.tuple hq
  obtain⟨as,q⟩:=RdVs.reads I hs rv;exact⟨_,.tuple ho hc hd q⟩
theorem RdVs.reads(I:Inv X pins σ H s):∀ {xs:List V} {ds:List PyData} {us:List Value},RdVs X.K H xs ds->Vals xs us->∃ as,ReadsAll s.heap us ds as
 | _,_,_,.nil,.nil=>⟨_,.nil⟩
 | _, _, _, .cons h hs, .cons r t => by
  obtain⟨as,q⟩:=RdV.reads I h r;obtain⟨bs,p⟩:=RdVs.reads I hs t;exact⟨_,.cons q p⟩
end
end
section
variable{X:Cx}
def rEqD(K:Ybf):R2:=fun x y H Q=>∃ d e,RdV K H x d/\RdV K H y e/\SeqAt.shaped d=true/\SeqAt.shaped e=true/\Q (.bl (PyData.eqv d e)) H
def rNeD(K:Ybf):R2:=fun x y H Q=>∃ d e,RdV K H x d/\RdV K H y e/\SeqAt.shaped d=true/\SeqAt.shaped e=true/\Q (.bl (!PyData.eqv d e)) H
theorem zge(hu:X.A.units+64<cLine):OpR X (compareOp .Eq) (rEqD X.K):=by
 intro pins s σ H x y v u Q I rx ry h;obtain⟨d,e,h1,h2,s1,s2,q⟩:=h;obtain⟨as,r1⟩:=h1.reads I rx;obtain⟨bs,r2⟩:=h2.reads I ry;exact eq_dataH r1 r2 s1 s2 hu ⟨.bl _,H,I,rfl,q⟩
theorem zeD(hu:X.A.units+64<cLine):OpR X (compareOp .NotEq) (rNeD X.K):=by
 intro pins s σ H x y v u Q I rx ry h;obtain⟨d,e,h1,h2,s1,s2,q⟩:=h;obtain⟨as,r1⟩:=h1.reads I rx;obtain⟨bs,r2⟩:=h2.reads I ry;exact ne_dataH r1 r2 s1 s2 hu ⟨.bl _,H,I,rfl,q⟩
def jM(_ j:Int):Prop:=0<j/\Bits 9000 j
theorem zei:OpR X (binaryOp .FloorDiv) (rI jM fun i j=>.int (i/j)):=opI fun i j _ _ _ _ _ hc q=>
 floordiv_int (by have:=hc.1;omega) (by rw [Int.fdiv_eq_ediv_of_nonneg i (by have:=hc.1;omega)];exact q) (.inl (PyProof.noPylong_of_log2 (hc.2.log2 #[1])))
end
def Df(P:Program)(w:World)(K:Ybf)(mg:Str->Option Value)(base:Heap)(k:Nat)(x:Str)(ps:List Str)(sp:Sp):Prop:=
 ∃ f fd,FnOk P w K mg base (CXR P w) k f fd ps sp/\Binds K fd ps []/\PySem.W.keepIn K (.ref f)=true/\mg x=some (.ref f)
section
variable{X:Cx}{k:Nat}{ps:List Str}{sp:Sp}{x:Str}{p pos pos':Pos}{e:Expr}{es:List Expr}{t:TA}{E:XK}
theorem zaw(G:Df X.prog X.w X.K X.mg X.base k x ps sp)(hr:Room k X.A)(hg:Gl X x)(hx:Passes (CXR X.prog X.w) X E)(ha:PA X (e::es) t)(hdb:(x==("__debug__" : Str))=false:=by decide)
 (he:starEach (e::es) X.env=(false,eval e X.env)::starEach es X.env:=by rfl) (hpl:(backTo pos (starEach es X.env)).any (·.1)=false:=by rfl):PE X (.Call (.Name x p) (e::es) [] pos) (zdJ sp [] E t):=by
 obtain⟨f,fd,F,hb,hk,hm⟩:=G;exact zfG F hr hg hm hk hb .nil hx ha hdb he hpl
theorem zkw(G:Df X.prog X.w X.K X.mg X.base k x ps sp)(hr:Room k X.A)(hg:Gl X x)(ha:PA X.nox (e::es) t)(hdb:(x==("__debug__" : Str))=false:=by decide)
 (he:starEach (e::es) X.env=(false,eval e X.env)::starEach es X.env:=by rfl) (hpl:(backTo pos (starEach es X.env)).any (·.1)=false:=by rfl)
 (hs:swapsWith (.Call (.Name x p) (e::es) [] pos) none pos'.line X.env=pure false:=by rfl):PX X [.Expr (.Call (.Name x p) (e::es) [] pos) pos'] (zdM sp t):=by
 obtain⟨f,fd,F,hb,hk,hm⟩:=G;exact zhQ F hr hg hm hk hb ha hdb he hpl hs
end
section
variable{X:Cx}{o e:Expr}{to:TE}{t:TA}{apos pos:Pos}
theorem zcX(ho:PE X o to)(ha:PA X [e] t)(hb:attributeBase o "append" X.env (eval o X.env)=eval o X.env:=by rfl)
 (hf:((backTo pos (starEach [e] X.env)).all (fun x=>!x.1)&&(backToKw pos (keywordEach [] X.env)).all (fun x=>x.1.isSome)&&decide ([e].length+([]:List Keyword).length+(if([]:List Keyword).isEmpty then 0 else 1)<30))=true:=by rfl)
 (hl:(apos.endLine==pos.line)=true:=by rfl) (hs:starEach [e] X.env=(false,eval e X.env)::starEach [] X.env:=by rfl) (hp:(backTo pos (starEach [] X.env)).any (·.1)=false:=by rfl) :
 PE X (.Call (.Attribute o "append" apos) [e] [] pos) (tBM X.K "list" rAppend to t):=
 zdN PySem.F.plainAttrs_list PySem.F.slot_list_append PySem.F.type_list_append zdr ho ha hb hf hl hs hp
theorem zbM{K:Ybf}{H:Hp}{p:Addr}{xs:List V}(h:H p=some (.lst xs)):tyV K "list" (.ref p) H:=.inl ⟨rfl,_,SqL.of h⟩
end
section
variable{ta:TA}{tl:TE}{g:TG}{tb:TS}{D:Ends}{σ : St}{H:Hp}{K:Ybf}
end
theorem zS{H:Hp}{p:Addr}(h:H p=none)(o:HO):Same H (upd H p o):=fun b u q=>by rw [zh (zP q h)];exact q
theorem Same.tup{K:Ybf}{H H':Hp}{a:Addr}{xs:List V}(e:Same H H')(h:SqT K H a xs):SqT K H' a xs:=by
 rcases h with (h|⟨o,h⟩)|h
 . exact .inl (.inl (e _ _ h))
 . exact .inl (.inr ⟨o,e _ _ h⟩)
 . exact .inr h
section
variable{X:Cx}
end
theorem atI0{α : Type}{x:α}{xs:List α}:atI (x::xs) 0=some x:=jB (j:=0) rfl
theorem atI1{α : Type}{x y:α}{xs:List α}:atI (x::y::xs) 1=some y:=jB (j:=1) rfl
end L2
section
open PySem PySem.Spec PyProof.Rows L2
namespace L2
end L2
namespace L2
theorem Bits.emod{k:Nat}{m:Int}(hm:Bits k m)(h0:0<m)(x:Int):Bits k (x%m):=hm.le (by
 have h1:=Ybc x (by omega:m≠0)
 have h2:=Ybd x h0
 omega)
theorem Bits.lit{x:Int}(k:Nat)(h:x.natAbs<2 ^ 64:=by decide)(hk:64<=k:=by decide):Bits k x:=Bits.mono (j:=64) h hk
theorem divP{i j:Int}(h0:0<j:=by decide)(h:j.natAbs<2 ^ 64:=by decide):jM i j:=⟨h0,Bits.lit _ h #[1]⟩
theorem powB{i j:Int}{k:Nat}(h:Bits k i)(h0:0<=j)(hk:k*j.toNat<=134217728):Je i j:=⟨h0,by
 have e1:=h.bits;have e2:(Builtin.Int.intBits i:Int)*j<=(k:Int)*j:=Ybe #[0] h0
 have e3:(k:Int)*j=((k*j.toNat:Nat):Int):=by rw [Int.natCast_mul];congr 1;omega
 omega⟩
end L2
end
namespace L2
open PySem PySem.Spec PyProof.Rows
def zcf(osc scope:Scope)(tn fn:List Str):Bool:=
 decide (scope.kind=.function)&&scope.names.all (fun x=>!decide (x.2=.local)||decide (scope.names.lookup x.1=some .local)) &&
 scope.names.all (fun x=>!decide (x.2=.cell)||decide (scope.names.lookup x.1=some .cell)) &&
 scope.names.all (fun x=>!decide (x.2=.free)||decide (osc.names.lookup x.1=some .cell)||decide (osc.names.lookup x.1=some .free)) &&
 tn.all (fun x=>decide (scope.names.lookup x=some .local)||decide (scope.names.lookup x=some .cell)) &&
 fn.all (fun x=>decide (scope.names.lookup x=some .free))&&decide ((tn++fn).Nodup)
structure CompSc(osc scope:Scope)(tn fn:List Str):Prop where
 kind:scope.kind=.function
 loc:∀ x∈scope.names,x.2=.local->scope.names.lookup x.1=some .local
 cell:∀ x∈scope.names,x.2=.cell->scope.names.lookup x.1=some .cell
 free:∀ x∈scope.names,x.2=.free->osc.names.lookup x.1=some .cell\/osc.names.lookup x.1=some .free
 frees:∀ x∈fn,scope.names.lookup x=some .free
 nd:(tn++fn).Nodup
theorem zU{osc scope:Scope}{tn fn:List Str}(h:zcf osc scope tn fn=true):CompSc osc scope tn fn:=by
 unfold zcf at h;simp only [Yak,decide_eq_true_eq,Wat,Bool.or_eq_true,Wal,decide_eq_false_iff_not] at h;obtain⟨⟨⟨⟨⟨⟨h1,h2⟩,h3⟩,h4⟩,h5⟩,h6⟩,h7⟩:=h;refine⟨h1,fun x hx e=>(h2 x hx).resolve_left (fun n=>n e),fun x hx e=>(h3 x hx).resolve_left (fun n=>n e),fun x hx e=>?_,h6,h7⟩
 rcases h4 x hx with (n|q)|q
 . exact absurd e n
 . exact .inl q
 . exact .inr q
theorem zbU(env:Env):∀ (names:List (Str×NameKind)) (x:Str),
 (names.map fun(n,k)=>if(k==NameKind.free&&env.scope.kind==.function&&env.kindOf n==some .cell) then(n,NameKind.cell) else(n,k)).lookup x =
  (names.lookup x).map fun k=>if(k==NameKind.free&&env.scope.kind==.function&&env.kindOf x==some .cell) then NameKind.cell else k
 | [],x=>rfl
 | (n, k) :: r, x => by
  have ih:=zbU env r x;rw [Ya1]
  by_cases hx:x=n
  . subst hx
    show List.lookup x ((if(k==NameKind.free&&env.scope.kind==.function&&env.kindOf x==some .cell)=true then(x,NameKind.cell) else(x,k))::_)=_
    split
    . rename_i hc;rw [List.lookup_cons,List.lookup_cons];simp only [beq_self_eq_true,Option.map_some,if_pos hc]
    . rename_i hc;rw [List.lookup_cons,List.lookup_cons];simp only [beq_self_eq_true,Option.map_some,if_neg hc]
  . have hb:(x==n)=false:=beq_eq_false_iff_ne.mpr hx
    show List.lookup x ((if(k==NameKind.free&&env.scope.kind==.function&&env.kindOf n==some .cell)=true then(n,NameKind.cell) else(n,k))::_)=_
    split
    . simp only [List.lookup_cons,hb];exact ih
    . simp only [List.lookup_cons,hb];exact ih
theorem zdu{scope:Scope}{env:Env}{x:Str}{k:NameKind}(h:(relabel scope env).names.lookup x=some k):∃ k',scope.names.lookup x=some k'/\(k'=k\/(k'=.free/\k=.cell)):=by
 have e:=zbU env scope.names x;have h':(scope.names.map fun(n,k)=>if(k==NameKind.free&&env.scope.kind==.function&&env.kindOf n==some .cell) then(n,NameKind.cell) else(n,k)).lookup x=some k:=h
 rw [h'] at e;cases q:scope.names.lookup x with
 | none=>rw [q] at e;cases e
 | some k'=>
  rw [q] at e;have e':=Waz e;refine⟨k',rfl,?_⟩;dsimp only at e'
  split at e'
  . rename_i hc
    simp only [Yak,beq_iff_eq] at hc;exact .inr ⟨hc.1.1,e'⟩
  . exact .inl e'.symm
theorem zhc{scope:Scope}{env:Env}{x:Str}(h:scope.names.lookup x=some .free):(relabel scope env).names.lookup x=some .cell\/(relabel scope env).names.lookup x=some .free:=by
 have e:=zbU env scope.names x;rw [h] at e;have e':(relabel scope env).names.lookup x=some _:=e;rw [e']
 by_cases c:(NameKind.free==NameKind.free&&env.scope.kind==.function&&env.kindOf x==some .cell)=true
 . left;simp only [Wam];rw [if_pos c]
 . right;simp only [Wam];rw [if_neg c]
theorem Jn:∀ (names:List (Str×NameKind)) (n:Nat) (acc:List (Str×Addr)),cellsFrom n names acc=cellsFrom n names []++acc
 | [],_,acc=>rfl
 | (x, k) :: r, n, acc => by
  unfold cellsFrom
  split
  . rw [Jn r (n+1) ((x,n)::acc),Jn r (n+1) [(x,n)],Yag];rfl
  . exact Jn r n acc
theorem zbE:∀ (names:List (Str×NameKind)) (n:Nat) (x:Str) (c:Addr),(x,c)∈cellsFrom n names []->(x,NameKind.cell)∈names
 | [],_,_,_,h=>by cases h
 | (y, k) :: r, n, x, c, h => by
  unfold cellsFrom at h
  split at h
  . rename_i hk
    rw [Jn] at h
    rcases Ya3.mp h with q|q
    . exact YaT _ (zbE r _ x c q)
    . cases Ya6.mp q
      have:k=.cell:=by simpa using hk
      subst this;exact YaV
  . exact YaT _ (zbE r _ x c h)
theorem zj8{env:Env}{scope:Scope}(h:∀ x∈scope.names,x.2=.free->∃ c,env.cells.lookup x.1=some c) :
 ∃ cl,closureFor scope env=pure cl/\(∀ x c,cl.lookup x=some c->env.cells.lookup x=some c)/\∀ x,(x,NameKind.free)∈scope.names->∃ c,cl.lookup x=some c:=by
 have key:∀ (f:Str×NameKind->List (Str×Addr)->Sem (ForInStep (List (Str×Addr)))),(∀ n k cs,f (n,k) cs=if k==.free then(do let a <-cellOf env n;pure (ForInStep.yield ((n,a)::cs))) else pure (ForInStep.yield cs))->
  ∀ (names:List (Str×NameKind)) (acc:List (Str×Addr)),(∀ x∈names,x.2=.free->∃ c,env.cells.lookup x.1=some c)->(∀ x c,acc.lookup x=some c->env.cells.lookup x=some c)->
  ∃ cl,(forIn names acc f:Sem (List (Str×Addr)))=pure cl/\(∀ x c,cl.lookup x=some c->env.cells.lookup x=some c)/\
   (∀ x,(x,NameKind.free)∈names->∃ c,cl.lookup x=some c)/\∀ x,(∃ c,acc.lookup x=some c)->∃ c,cl.lookup x=some c:=by
  intro f hf names
  induction names with
  | nil=>intro acc _ ha;exact⟨acc,rfl,ha,fun x hx=>(by cases hx),fun x q=>q⟩
  | cons y r ih=>
   intro acc hn ha;obtain⟨n,k⟩:=y
   by_cases hk:k=.free
   . subst hk
     obtain⟨c,hc⟩:=hn (n,.free) YaV rfl;have hc':env.cells.lookup n=some c:=hc;obtain⟨cl,e1,e2,e3,e4⟩:=ih ((n,c)::acc) (fun x hx=>hn x (YaT _ hx)) (fun x c' q=>by
      rw [List.lookup_cons] at q
      by_cases hx:x=n
      . subst hx;simp at q;subst q;exact hc'
      . rw [beq_eq_false_iff_ne.mpr hx] at q;exact ha x c' q)
     refine⟨cl,?_,e2,fun x hx=>?_,fun x q=>e4 x ?_⟩
     . rw [List.forIn_cons,hf]
       have ec:cellOf env n=pure c:=by unfold cellOf;rw [hc']
       simp only [beq_self_eq_true,if_true,ec];exact e1
     . rcases WaB.mp hx with e|e
       . cases e;exact e4 n ⟨c,by simp [List.lookup_cons]⟩
       . exact e3 x e
     . obtain⟨c',q⟩:=q
       by_cases hx:x=n
       . subst hx;exact⟨c,by simp [List.lookup_cons]⟩
       . exact⟨c',by rw [List.lookup_cons,beq_eq_false_iff_ne.mpr hx];exact q⟩
   . obtain⟨cl,e1,e2,e3,e4⟩:=ih acc (fun x hx=>hn x (YaT _ hx)) ha
     refine⟨cl,?_,e2,fun x hx=>?_,e4⟩
     . rw [List.forIn_cons,hf]
       have:(k==NameKind.free)=false:=by simpa using hk
       simp only [this,Wah,if_false];exact e1
     . rcases WaB.mp hx with e|e
       . cases e;exact absurd rfl hk
       . exact e3 x e
 unfold closureFor;obtain⟨cl,e1,e2,e3,_⟩:=key (fun x r=>match x with|(name,kind)=>if kind==.free then(do let a <-cellOf env name;pure (ForInStep.yield ((name,a)::r))) else pure (ForInStep.yield r)) (fun _ _ _=>rfl) scope.names [] h (fun x c q=>by cases q)
 refine⟨cl,?_,e2,e3⟩
 have e:∀ (x:Sem (List (Str×Addr))),x=pure cl->(x >>= fun r=>pure r)=pure cl:=fun x q=>by rw [q];rfl
 exact e _ e1
def zh5(scope:Scope)(C:Addr)(cells:List (Str×Addr))(env:Env):Env:=
 { scope:=relabel scope env,locals:=C,globals:=env.globals,cells:=cells,qual:=env.qual,func:=none,code:=env.code,frame:=env.frame,builtins:=env.builtins }
def Cx.comp(X:Cx)(scope:Scope)(N:List Str)(s:Shared)(H:Hp)(fp:List Addr)(cl:List (Str×Addr)):Cx where
 prog:=X.prog
 w:=X.w
 K:=X.K
 mg:=X.mg
 base:=X.base
 A:=X.A
 N:=N
 s₀:=s
 H₀:=H
 env:=zh5 scope s.heap.objs.size (cellsFrom (s.heap.objs.size+1) scope.names cl) X.env
 outer:=X.stack
 stack:=X.stack
 ex:=fp
 fn:=fun x=>decide (scope.names.lookup x=some .cell)
 calm:=X.calm
 pn:=[]
 xe:=fun _ _=>False
def cst(n:Nat)(js:List Nat)(σ : St):St:=List.replicate n none++js.map fun j=>(σ[j]?).join
theorem zkK{X:Cx}{pins:List (Addr×Obj)}{σ : St}{H:Hp}{s:Shared}{scope:Scope}{tn fn:List Str}{js:List Nat}{fp:List Addr}{cl:List (Str×Addr)}(I:Inv X pins σ H s)(S:CompSc X.env.scope scope tn fn)
 (hj:js.map (fun j=>X.N[j]?)=fn.map some) (hfp:∀ b∈fp,FpOk X pins H b) (hlt:∀ b∈fp,b<s.heap.objs.size)
 (hcl:∀ x c,cl.lookup x=some c->X.env.cells.lookup x=some c) (hcl2:∀ x,(x,NameKind.free)∈scope.names->∃ c,cl.lookup x=some c) :
 Inv (X.comp scope (tn++fn) s H fp cl) [] (cst tn.length js σ) H { s with heap:=pushCells (s.heap.push { cls:=.type "dict", data:=.dict #[] }) scope.names }:=by
 have hC:=cellsFrom_ok scope.names (s.heap.push { cls:=.type "dict", data:=.dict #[] }) (s.heap.objs.size+1) [] ⟨fun _ _ hm=>(nomatch hm),List.Pairwise.nil⟩ (by rw [WaA];exact YaY _)
 rw [WaA] at hC;have keep:∀ b o,s.heap.get? b=some o->(pushCells (s.heap.push { cls:=.type "dict", data:=.dict #[] }) scope.names).get? b=some o:=fun b o e=>pushCells_keeps _ _ b o (YaW _ e)
 have look:∀ x c,(cellsFrom (s.heap.objs.size+1) scope.names cl).lookup x=some c->((x,c)∈cellsFrom (s.heap.objs.size+1) scope.names [])\/X.env.cells.lookup x=some c:=fun x c e=>by
  rw [Jn,List.lookup_append] at e;cases q:(cellsFrom (s.heap.objs.size+1) scope.names []).lookup x with
  | some c'=>rw [q] at e;cases e;exact .inl (Wag q)
  | none=>rw [q] at e;exact .inr (hcl x c e)
 have outerLt:∀ x c,X.env.cells.lookup x=some c->c<s.heap.objs.size:=fun x c e=>by
  obtain⟨v,q⟩:=I.cell x c e;exact q.lt
 have ownGe:∀ x c,(x,c)∈cellsFrom (s.heap.objs.size+1) scope.names []->s.heap.objs.size+1<=c:=fun x c e=>(hC.empty x c e).2
 refine⟨⟨I.ok.mod,S.kind,I.ok.glob,I.ok.blt,YaY _,fun x y c h1 h2=>?_,fun x hx=>?_,fun x c h1 h2=>?_,I.ok.hd,I.ok.frames,.inl rfl,fun b hb=>⟨Yaf (hlt b hb),fun x c e=>?_⟩,fun b o e=>I.bs b o e,Ya5 I.ok.bsz I.sz,fun b o e hb=>?_,fun b hb hz=>?_,I.stack,I.stkFree⟩,
  rfl,I.bare,Un.kept keep,⟨fun _=>none,?_,fun i x v h1 h2 h3=>?_⟩,fun x c e=>?_,I.hok.fresh (YaY _),fun x c e=>?_,fun p hp=>?_,I.hok.kept keep,?_⟩
 . rcases look x c h1 with q|q<;>rcases look y c h2 with r|r
   . exact name_of_addr hC.apart q r
   . exact absurd (Nat.lt_trans (outerLt y c r) (ownGe x c q)) (Yap _)
   . exact absurd (Nat.lt_trans (outerLt x c q) (ownGe y c r)) (Yap _)
   . exact I.ok.inj x y c q r
 . have own:∀ k,scope.names.lookup x=some k->k=.cell\/k=.free->∃ c,(cellsFrom (s.heap.objs.size+1) scope.names cl).lookup x=some c:=fun k hk hkk=>by
    refine Wad.mp (Waf _ _ _ ?_)
    rcases hkk with rfl|rfl
    . exact .inl hk
    . obtain⟨c,q⟩:=hcl2 x (Wag hk)
      exact .inr (by rw [q];rfl)
   rcases hx with hx|hx
   . obtain⟨k',e,q|q⟩:=zdu (scope:=scope) (env:=X.env) hx
     . subst q;exact own _ e (.inl rfl)
     . exact own _ e (.inr q.1)
   . obtain⟨k',e,q|q⟩:=zdu (scope:=scope) (env:=X.env) hx
     . subst q;exact own _ e (.inr rfl)
     . cases q.2
 . have hc:scope.names.lookup x=some .cell:=of_decide_eq_true h1
   rcases look x c h2 with q|q
   . exact Nat.le_of_lt (ownGe x c q)
   . exfalso
     have h2':(cellsFrom (s.heap.objs.size+1) scope.names cl).lookup x=some c:=h2;rw [Jn,List.lookup_append] at h2';obtain⟨c',q'⟩:=Wad.mp (Waf scope.names (s.heap.objs.size+1) [] (.inl hc));rw [q'] at h2';cases h2';exact absurd (Nat.lt_trans (outerLt x c q) (ownGe x c (Wag q'))) (Yap _)
 . rcases look x c e with q|q
   . intro z;subst z
     exact absurd (Nat.lt_trans (hlt c hb) (ownGe x c q)) (Yap _)
   . exact(hfp b hb).2.2.2.2.1 x c q
 . rcases(hfp b hb).2.2.2.1 with z|z
   . exact I.ok.noex b o e z
   . exact absurd (YaU (YaX (I.ok.bs b o e).1) z) (Yap _)
 . rcases WaB.mp (I.stkSub b hz) with z|z
   . exact(hfp b hb).2.1 z
   . exact(hfp b hb).2.2.1 z
 . exact(Heap.Ns.new s.heap (.type "dict")).keeps (pushCells_keeps _ _)
 . unfold cst at h2
   by_cases hi:i<tn.length
   . rw [Yab (by simpa using hi),Yad,if_pos hi] at h2
     cases h2
   . rw [Yae (by simpa using hi),Ybb,Ya0] at h2
     cases ej:js[i - tn.length]? with
     | none=>rw [ej] at h2;cases h2
     | some j=>
      rw [ej] at h2;have h2':(σ[j]?).join=some v:=Waz h2;have hσ : σ[j]?=some (some v):=by
       cases q:σ[j]? with
       | none=>rw [q] at h2';cases h2'
       | some o => rw [q] at h2'; cases o with
        | none=>cases h2'
        | some v'=>cases h2';rfl
      have h1':(tn++fn)[i]?=some x:=h1;rw [Yae #[0]] at h1'
      have hN:X.N[j]?=some x:=by
       have e:=congrArg (fun l=>l[i - tn.length]?) hj
       simp only [Ya0,ej,h1',Option.map_some] at e;exact Waz e
      have hfx:scope.names.lookup x=some .free:=S.frees x (Yah h1');obtain⟨m,hn,hl⟩:=I.loc;have ok:X.env.scope.names.lookup x=some .cell\/X.env.scope.names.lookup x=some .free:=S.free (x,.free) (Wag hfx) rfl;obtain⟨u,r,l⟩:=hl j x v hN hσ (by rcases ok with z|z;exact .inr (.inl z);exact .inr (.inr z))
      refine⟨u,r,.inr ⟨zhc hfx,?_⟩⟩
      rcases l with ⟨k,_⟩|⟨_,c,ec,q⟩
      . have k':X.env.scope.names.lookup x=some .local:=k
        rcases ok with z|z<;>rw [z] at k'<;>cases k'
      . refine⟨c,?_,q.keeps keep⟩
        show(cellsFrom (s.heap.objs.size+1) scope.names cl).lookup x=some c
        rw [Jn,List.lookup_append];have e1:(cellsFrom (s.heap.objs.size+1) scope.names []).lookup x=none:=by
         cases q1:(cellsFrom (s.heap.objs.size+1) scope.names []).lookup x with
         | none=>rfl
         | some c1=>
          have e2:=S.cell (x,.cell) (zbE _ _ _ _ (Wag q1)) rfl;have e2':scope.names.lookup x=some .cell:=e2;rw [hfx] at e2';cases e2'
        obtain⟨c2,q2⟩:=hcl2 x (Wag hfx);have:=hcl x c2 q2;rw [ec] at this;cases this;rw [e1,q2];rfl
 . rcases look x c e with q|q
   . exact⟨_,(hC.empty x c q).1⟩
   . obtain⟨v,z⟩:=I.cell x c q
     exact⟨v,z.keeps keep⟩
 . rcases look x c e with q|q
   . exact I.hok.fresh (Nat.le_of_lt (ownGe x c q))
   . exact I.freeC x c q
 . exact absurd (show p∈([]:List (Addr×Obj)) from hp) (by simp)
 . unfold cst
   show _=(tn++fn).length
   have:js.length=fn.length:=by have:=congrArg List.length hj;simpa using this
   rw [YaS,Ybb,YaR,YaS,this]
section
variable{X:Cx}{pins:List (Addr×Obj)}{σ : L2.St}{H:Hp}{s:Shared}{h':Heap}
theorem Inv.turnedL{t':Nat}{ch:List Addr}(I:Inv X pins σ H s)(k:∀ b o,b∉ch->s.heap.get? b=some o->h'.get? b=some o)(hf:∀ b∈ch,FpOk X pins H b):Inv X pins σ H { s with heap:=h',toks:=t' }:=by
 have nit:∀ b u,H b=some u->b∉ch:=fun b u e z=>by have:=(hf b z).1;rw [e] at this;cases this
 refine I.step (g':=s.gens) (d':=s.drawn) (ch:=ch) (fun b hb=>⟨(hf b hb).2.2.2.1,(hf b hb).2.1,(hf b hb).2.2.2.2.1,(hf b hb).2.2.2.2.2⟩) (fun b o _ _ hc e _=>k b o hc e) (fun b o _ _ hc e _=>⟨o.slots,k b o hc e⟩) (fun _ _ _ _ n=>n)
  (fun b o hc e=>⟨o,k b o hc e⟩) (fun _ _ e=>e) (fun _ _ _ e=>e) (fun b ps e=>⟨#[],by rw [e];simp⟩) (fun m hm=>?_) (fun b u e=>?_) I.bare
 . obtain⟨o,es,ep,ho,r⟩:=hm
   exact⟨o,es,ep,k _ o (fun z=>(hf _ z).2.1 rfl) ho,r⟩
 . refine(I.hok b u e).stay (fun c v hc q=>k c v ?_ q) (fun _ q=>q) fun _ _ q=>q
   rcases hc with z|z
   . rw [z];exact nit b u e
   . exact nit c _ z
theorem Inv.track{a:Addr}{o:HO}(I:Inv X pins σ H s)(hn:H a=none)(h0:X.s₀.heap.objs.size<=a)(hL:a≠X.env.locals)(hc:∀ x c,X.env.cells.lookup x=some c->c≠a)(hp:∀ p∈X.pn++pins,p.1≠a)(new:zJ X.prog X.w (upd H a o) s.heap a o):Inv X pins σ (upd H a o) s:=by
 have no0:∀ b ob,X.s₀.heap.get? b=some ob->b≠a:=fun b ob e=>Yaf (YaU (YaX e) h0)
 refine⟨I.ok,I.os,I.bare,⟨I.base.keep,I.base.slot,fun b ob q n hx=>?_,I.base.there,fun b xs q=>?_,fun b ob u q=>?_,fun b ps q=>?_⟩,I.loc,I.cell,?_,fun x c e=>?_,fun p h=>?_,I.hok.track hn new,I.len⟩
 . rw [zh (no0 b ob q)];exact I.base.free b ob q n hx
 . have e:=I.base.tups b xs q;rw [zh (zP e hn)];exact e
 . have e:=I.base.frzs b ob u q;rw [zh (zP e hn)];exact e
 . obtain⟨m,e⟩:=I.base.tbls b ps q;exact⟨m,by rw [zh (zP e hn)];exact e⟩
 . rw [zh (WaL hL)];exact I.free
 . rw [zh (hc x c e)];exact I.freeC x c e
 . obtain⟨q1,q2,q3⟩:=I.pin p h
   exact⟨q1,by rw [zh (hp p h)];exact q2,q3⟩
end
def tTrue:TT:=fun _ H Q=>Q true H
def zaF(wi:TI)(g:TG)(tt:TT)(te:TE)(n:Nat)(js:List Nat):TE:=fun σ H Q=>wi σ H fun J H1=>∀ D,H1 D=none->∃ W:Nat->Nat->List V->St->Hp->Prop,(∃ m,W 0 m [] (cst n js σ) (upd H1 D (.lst [])))/\∀ i m ys σ1 H2,W i m ys σ1 H2->
 (J.stop i H2/\Q (.ref D) H2)\/(J.go i H2/\∀ x H3,J.yld i H2 x H3->g x σ1 H3 fun σ4 H4=>tt σ4 H4 fun b H5=>if b=true then te σ4 H5 fun y H6=>H6 D=some (.lst ys)/\ys.length<sizeLine/\∃ m',m'<m/\W (i+1) m' (ys++[y]) σ4 (upd H6 D (.lst (ys++[y]))) else ∃ m',m'<m/\W (i+1) m' ys σ4 H5)
def PTs(X:Cx)(ifs:List Expr)(t:TT):Prop:=
 ∀ (pins:List (Addr×Obj)) (s:Shared) (σ : St) (H:Hp) (Q:Bool->Hp->Prop),Inv X pins σ H s->t σ H Q->
  wpAny (model X.prog X.w) X.A (forIn ifs true fun c r=>if r=true then do let ok <-isTrue c X.env (eval c X.env);pure (ForInStep.yield ok) else pure (ForInStep.yield r)) (TP X pins σ Q) X.xe s
theorem zcn{X:Cx}:PTs X [] tTrue:=fun _ _ _ H _ I h=>wpAny_tests_nil ⟨H,I,h⟩
theorem ze4{X:Cx}{c:Expr}{t:TT}(h:PT X c t):PTs X [c] t:=fun pins s σ H Q I q=>wpAny_tests_one (h pins s σ H Q I q)
theorem zcM{X:Cx}{elt tg iter:Expr}{ifs:List Expr}{scope:Scope}{pos pos':Pos}{wi:TI}{g:TG}{tt:TT}{te:TE}{use:Option (Value->Sem Unit)}{Qc:Value->Shared->Prop}(tn fn:List Str)(js:List Nat)(hcalm:X.calm=true)(S:CompSc X.env.scope scope tn fn)(hj:js.map (fun j=>X.N[j]?)=fn.map some)(hi:PI X tg iter wi)
 (hb:∀ s H fp cl,PG (X.comp scope (tn++fn) s H fp cl) tg g/\PTs (X.comp scope (tn++fn) s H fp cl) ifs tt/\PE (X.comp scope (tn++fn) s H fp cl) elt te)
 (hs:∀ x,foldedSetIterable iter X.env x=pure x) {pins:List (Addr×Obj)} {s:Shared} {σ : L2.St} {H:Hp} {Q:VK} (I:Inv X pins σ H s) (h:zaF wi g tt te tn.length js σ H Q)
 (fin:∀ (D C:Addr) (s6:Shared) (H5:Hp) (m6:Str->Option Value),s6.heap.Ns C m6->FpOk X pins H5 C->Inv X pins σ H5 s6->Q (.ref D) H5->compPost (model X.prog X.w) X.A X.xe use Qc (.ref D) C (.ok .next) s6) :
 wpAny (model X.prog X.w) X.A (comprehension (.ListComp elt [⟨tg,iter,ifs,0⟩] scope pos) scope X.env pos' (newList []) false (eval iter X.env) use) Qc X.xe s:=by
 obtain⟨cl,hclos,hcl,hcl2⟩:=zj8 (env:=X.env) (scope:=scope) (fun x hx e=>I.ok.has x.1 (S.free x hx e))
 refine wpAny_comprehension_free (use:=use) rfl hs hclos S.kind S.loc (thn (hi pins s σ H _ I h) fun v s1 h1=>thn h1 fun itv s2 h2=>?_)
 obtain⟨it,fp,tn',J,H2,e,I2,T,st2,f2,k⟩:=h2;subst e;have hD:H2 s2.heap.objs.size=none:=I2.fresh;obtain⟨W,⟨m0,w0⟩,turn⟩:=k _ hD;refine wpAny_newObj_type ?_;have I3:Inv X pins σ (upd H2 s2.heap.objs.size (.lst [])) { s2 with heap:=s2.heap.push { cls:=.type "list", data:=.seq ([]:List Value).toArray } }:=I2.lnew (t':=s2.toks) (ys:=[]) (its:=[]) .nil (WaK _)
 generalize hs3:({ s2 with heap:=s2.heap.push { cls:=.type "list", data:=.seq ([]:List Value).toArray } }:Shared)=s3 at I3
 have hs3':s3.heap.objs.size=s2.heap.objs.size+1:=by rw [<-hs3];exact WaA ..
 have up3:∀ b o,s2.heap.get? b=some o->s3.heap.get? b=some o:=fun b o e=>by rw [<-hs3];exact YaW _ e
 have flt:∀ b∈fp,b<s2.heap.objs.size:=fun b hb=>by
  obtain⟨o,e,_⟩:=T.obj _ _ st2 b hb;exact YaX e
 generalize hDn:s2.heap.objs.size=D at *;have f3:∀ b∈fp,FpOk X pins (upd H2 D (.lst [])) b:=fun b hb=>⟨by rw [zh (Yaf (flt b hb))];exact(f2 b hb).1,(f2 b hb).2⟩
 have flt3:∀ b∈fp,b<s3.heap.objs.size:=fun b hb=>by rw [hs3'];exact Nat.lt_succ_of_lt (flt b hb)
 have I4:=zkK I3 S hj f3 flt3 hcl hcl2;have st4:tn' 0 (pushCells (s3.heap.push { cls:=.type "dict", data:=.dict #[] }) scope.names):=T.keep _ _ _ st2 fun b _ o e=>pushCells_keeps _ _ b o (YaW _ (up3 b o e))
 obtain⟨pg,pt,pe⟩:=hb s3 (upd H2 D (.lst [])) fp cl;generalize hX:X.comp scope (tn++fn) s3 (upd H2 D (.lst [])) fp cl=Y at I4 pg pt pe;have Yp:Y.prog=X.prog:=by rw [<-hX];rfl
 have Yw:Y.w=X.w:=by rw [<-hX];rfl
 have YK:Y.K=X.K:=by rw [<-hX];rfl
 have YA:Y.A=X.A:=by rw [<-hX];rfl
 have Yc:Y.calm=true:=by rw [<-hX];exact hcalm
 have Yxe:Y.xe=fun _ _=>False:=by rw [<-hX];rfl
 have Yex:Y.ex=fp:=by rw [<-hX];rfl
 have Yfs:Y.fs=frs X.stack:=by rw [<-hX];rfl
 have Ypn:Y.pn=[]:=by rw [<-hX];rfl
 have Ys:Y.s₀ = s3:=by rw [<-hX];rfl
 have YH:Y.H₀ = upd H2 D (.lst []):=by rw [<-hX];rfl
 have YC:Y.env.locals=s3.heap.objs.size:=by rw [<-hX];rfl
 have Yenv:({ scope:=relabel scope X.env,locals:=s3.heap.objs.size,globals:=X.env.globals,cells:=cellsFrom (s3.heap.objs.size+1) scope.names cl,qual:=X.env.qual,func:=none,code:=X.env.code,frame:=X.env.frame,builtins:=X.env.builtins }:Env)=Y.env:=by rw [<-hX];rfl
 have stat:∀ {H':Hp},(∀ b∈fp,H' b=none)->∀ b∈fp,FpOk Y [] H' b:=fun hn b hb=>by
  refine⟨hn b hb,?_,?_,.inl (by rw [Yex];exact hb),fun x c e=>(I4.ok.exf b (by rw [Yex];exact hb)).2 x c e,fun p hp=>?_⟩
  . rw [YC];exact Yaf (flt3 b hb)
  . exact I4.ok.exfs b (by rw [Yex];exact hb)
  . rw [Ypn] at hp;exact absurd (show p∈([]:List (Addr×Obj)) from hp) (by simp)
 have loop:codeAny (model X.prog X.w) X.A (.compLoop (.ListComp elt [⟨tg,iter,ifs,0⟩] scope pos) 0 (.ref it) (.ref D) Y.env) (compPost (model X.prog X.w) X.A X.xe use Qc (.ref D) s3.heap.objs.size)
  { s3 with heap:=pushCells (s3.heap.push { cls:=.type "dict", data:=.dict #[] }) scope.names }:=by
  refine codeAny_loop rfl (fun n s'=>∃ i ys σ' H',Inv Y [] σ' H' s'/\tn' i s'.heap/\(∀ b∈fp,H' b=none)/\W i n ys σ' H') (fun n s5 hI=>?_) m0 ⟨0,[],_,_,I4,st4,fun b hb=>(f3 b hb).1,w0⟩
  obtain⟨i,ys,σ5,H5,I5,st5,fr5,w5⟩:=hI;show wpAny _ X.A ((compTurn (.ListComp elt [⟨tg,iter,ifs,0⟩] scope pos) 0 (.ref it) (.ref D) Y.env).onRaise (fun x=>do noteFrame x Y.env;theTreesLotGoes x)) _ _ s5
  refine wpAny_noted ?_
  rw [compTurn_list];refine wpAny_bind (wpAny_standAt (wpAny_bind ?_))
  rcases turn i n ys σ5 H5 w5 with ⟨stop,qn⟩|⟨go,step⟩
  . have d:=T.done Y Yp Yw YK Yc i [] s5 σ5 H5 (fun _ _=>False) I5 (stat fr5) st5 stop
    rw [YA] at d;refine wpAny_mono d (fun r s6 ⟨hr,I6⟩=>?_) fun _ _ z=>z.elim
    subst hr;refine wpAny_pure ?_;obtain⟨m6,ns6,_⟩:=I6.loc;rw [YC] at ns6;have hC:H5 s3.heap.objs.size=none:=by have:=I6.free;rwa [YC] at this
    have u6:=I6.base;rw [Yfs,Yex,YH,Ys] at u6;have os6:=I6.os;rw [Ys] at os6;have hok6:=I6.hok;rw [Yp,Yw] at hok6;have IX:Inv X pins σ H5 s6:=I3.call' (s':=s6) os6 u6 hok6 I6.bare (fun b hb=>⟨(f3 b hb).2.2.2.1,(f3 b hb).2.1,(f3 b hb).2.2.2.2.1,(f3 b hb).2.2.2.2.2⟩)
    exact fin D s3.heap.objs.size s6 H5 m6 ns6 (I3.fpOk (H':=H5) (YaY _) hC) IX qn
  . have d:=T.item Y Yp Yw YK Yc i [] s5 σ5 H5 (fun _ _=>False) I5 (stat fr5) st5 go
    rw [YA] at d;refine wpAny_mono d (fun r s6 ⟨u,hr,h6⟩=>?_) fun _ _ z=>z.elim
    subst hr;refine wpAny_bind (wpAny_mono h6 (fun _ s7 ⟨x,H7,I7,r7,y7,st7,fr7⟩=>?_) fun _ _ z=>z.elim)
    have I7':=I7.pinned (stat fr7) (T.obj _ _ st7);have a8:=pg _ s7 σ5 H7 x u _ I7' r7 (step x H7 y7);rw [YA,Yp,Yw,Yxe] at a8;refine wpAny_bind (wpAny_mono a8 (fun _ s8 ⟨σ8,H8,I8,q8⟩=>?_) fun _ _ z=>z.elim)
    have a9:=pt _ s8 σ8 H8 _ I8 q8;rw [YA,Yp,Yw,Yxe] at a9;have again:∀ {H':Hp} {s':Shared} {ys':List V} {m':Nat},m'<n->Inv Y ([]++Z9 fp s7.heap) σ8 H' s'->W (i+1) m' ys' σ8 H'->∃ m,m<n/\∃ i ys σ' H',Inv Y [] σ' H' s'/\tn' i s'.heap/\(∀ b∈fp,H' b=none)/\W i m ys σ' H':=fun {H' s' ys' m'} hm I' w'=>by
     refine⟨m',hm,i+1,ys',σ8,H',I'.unpinned,T.keep _ _ _ st7 fun b hb o e=>(I'.pin (b,o) (Yaa _ (Yaa _ (zaP hb e)))).1,fun b hb=>?_,w'⟩
     obtain⟨o,e,d⟩:=T.obj _ _ st7 b hb;exact(I'.pin (b,o) (Yaa _ (Yaa _ (zaP hb e)))).2.1
    refine wpAny_bind (wpAny_mono a9 (fun ok s9 ⟨H9,I9,q9⟩=>?_) fun _ _ z=>z.elim)
    cases ok with
    | false=>
     obtain⟨m',hm,w9⟩:=q9;exact wpAny_pure ⟨rfl,again hm I9 w9⟩
    | true=>
     have a10:=pe _ s9 σ8 H9 _ I9 q9;rw [YA,Yp,Yw,Yxe] at a10;refine wpAny_bind (wpAny_bind (wpAny_mono a10 (fun y10 s10 ⟨y,H10,I10,r10,e10,hz,m',hm,w10⟩=>?_) fun _ _ z=>z.elim))
     have a11:=zdr (X:=Y) _ s10 σ8 H10 (.ref D) [y] (.ref D) [y10] (fun _ H'=>H'=upd H10 D (.lst (ys++[y]))) I10 rfl (.cons r10 .nil) ⟨D,ys,y,rfl,rfl,e10,hz,rfl⟩
     rw [YA,Yp,Yw,Yxe] at a11;refine wpAny_bind (wpAny_mono a11 (fun _ s11 ⟨_,H11,I11,_,e11⟩=>?_) fun _ _ z=>z.elim)
     subst e11;exact wpAny_pure (wpAny_pure ⟨rfl,again hm I11 w10⟩)
 have env4:wpAny (model X.prog X.w) X.A (newFunctionEnv scope X.env.globals cl [] X.env.qual none .none (some X.env)) (fun cenv s₄=>
  codeAny (model X.prog X.w) X.A (.compStart (.ListComp elt [⟨tg,iter,ifs,0⟩] scope pos) 0 (.ref it) (.ref D) { cenv with scope:=relabel scope X.env }) (compPost (model X.prog X.w) X.A X.xe use Qc (.ref D) cenv.locals) s₄) X.xe s3:=by
  simp only [newFunctionEnv,Option.isSome_some,if_true];refine wpAny_bind (wpAny_alloc ?_);refine wpAny_bind (wpAny_layCells _ (fun name kind cells=>by cases hkc:kind==NameKind.cell<;>simp [hkc]) _ _ _ _ ?_)
  rw [List.forIn_nil];refine wpAny_bind (wpAny_pure (wpAny_pure ?_));rw [show({ s3 with heap:=s3.heap.push { cls:=.type "dict", data:=.dict #[] } }:Shared).heap.objs.size=s3.heap.objs.size+1 from WaA ..]
  dsimp only;rw [Yenv];exact codeAny_compStart_list loop (T.self _ 0 _ _ _ st4 loop)
 exact env4
theorem zgS{X:Cx}{elt tg iter:Expr}{ifs:List Expr}{scope:Scope}{pos:Pos}{wi:TI}{g:TG}{tt:TT}{te:TE}(tn fn:List Str)(js:List Nat)(hcalm:X.calm=true)(S:CompSc X.env.scope scope tn fn)(hj:js.map (fun j=>X.N[j]?)=fn.map some)(hi:PI X tg iter wi)
 (hb:∀ s H fp cl,PG (X.comp scope (tn++fn) s H fp cl) tg g/\PTs (X.comp scope (tn++fn) s H fp cl) ifs tt/\PE (X.comp scope (tn++fn) s H fp cl) elt te)
 (hs:∀ x,foldedSetIterable iter X.env x=pure x:=by intro _;rfl) :
 PE X (.ListComp elt [⟨tg,iter,ifs,0⟩] scope pos) (zaF wi g tt te tn.length js):=by
 intro pins s σ H Q I h;rw [eval_ListComp];refine zcM (use:=none) tn fn js hcalm S hj hi hb hs I h fun D C s6 H5 m6 ns6 hC I6 q=>⟨m6,ns6,fun h' sb=>⟨.ref D,H5,?_,rfl,q⟩⟩
 exact I6.turnedL (t':=s6.toks) (ch:=[C]) (fun b o hb e=>sb.extBut b o (by simpa using hb) e) fun b hb=>by
  have e:b=C:=by simpa using hb
  subst e;exact hC
theorem zdy{X:Cx}{elt tg iter:Expr}{ifs:List Expr}{scope:Scope}{pos spos pos':Pos}{wi:TI}{g:TG}{tt:TT}{te:TE}{i:Nat}{x:Str}(hN:X.N.Nodup)(hix:X.N[i]?=some x)(hx:Loc X.env.scope x)(tn fn:List Str)(js:List Nat)(hcalm:X.calm=true)(S:CompSc X.env.scope scope tn fn)(hj:js.map (fun j=>X.N[j]?)=fn.map some)(hi:PI X tg iter wi)
 (hb:∀ s H fp cl,PG (X.comp scope (tn++fn) s H fp cl) tg g/\PTs (X.comp scope (tn++fn) s H fp cl) ifs tt/\PE (X.comp scope (tn++fn) s H fp cl) elt te)
 (hs:∀ x,foldedSetIterable iter X.env x=pure x:=by intro _;rfl)
 (hsw:swapsWith (.ListComp elt [⟨tg,iter,ifs,0⟩] scope pos) (some (.Name x pos')) spos.line X.env=pure true:=by rfl) (hf:X.fn x=true\/X.env.scope.names.lookup x=some .local:=by first|exact .inl rfl|exact .inr rfl|assumption) :
 PS X (.Assign [.Name x pos'] (.ListComp elt [⟨tg,iter,ifs,0⟩] scope pos) spos) (tAsg (zaF wi g tt te tn.length js) (zaD i)):=by
 intro pins s σ H D I h;rw [exec_Assign_Name_used _ _ _ _ hsw];refine wpAny_bind (wpAny_standAt (wpAny_bind ?_));show wpAny _ X.A (do let _ <-comprehension (.ListComp elt [⟨tg,iter,ifs,0⟩] scope pos) scope X.env _ (newList []) false (eval iter X.env) (some (assign (.Name x pos') X.env))) _ _ s
 refine wpAny_bind (wpAny_mono (zcM (use:=some (assign (.Name x pos') X.env)) (Qc:=fun _ s'=>SP X pins D .next s') tn fn js hcalm S hj hi hb hs I h fun L C s6 H5 m6 ns6 hC I6 q=>?_) (fun _ s' hq=>wpAny_pure (wpAny_pure hq)) fun _ _ e=>e)
 show wpAny _ X.A (assign (.Name x pos') X.env (.ref L)) _ _ s6
 refine wpAny_assign_Name (zcE I6 hN hix hx (v:=.ref L) rfl (fun s7 I7 k7=>?_) hf)
 have kC:∃ m7,s7.heap.Ns C m7:=by
  obtain⟨a,sb,ha⟩:=k7;refine⟨m6,ns6.sameBut sb fun z=>?_⟩
  rcases ha with e|e
  . exact hC.2.1 (z.trans e)
  . exact hC.2.2.2.2.1 x a e z.symm
 obtain⟨m7,ns7⟩:=kC;refine⟨m7,ns7,fun h' sb=>⟨_,H5,I7.turnedL (t':=s7.toks) (ch:=[C]) (fun b o hb e=>sb.extBut b o (by simpa using hb) e) fun b hb=>?_,q⟩⟩
 have e:b=C:=by simpa using hb
 subst e;exact hC
theorem RdVs.length{K:Ybf}{H:Hp}{xs:List V}{ds:List PyData}(h:RdVs K H xs ds):xs.length=ds.length:=by
 induction xs generalizing ds with
 | nil=>cases h;rfl
 | cons x xs ih=>cases h with|cons a b=>rw [List.length_cons,List.length_cons,ih b]
theorem RdVs.get{K:Ybf}{H:Hp}{xs:List V}{ds:List PyData}{i:Nat}{d:PyData}(h:RdVs K H xs ds)(e:ds[i]?=some d):∃ x,xs[i]?=some x/\RdV K H x d:=by
 induction xs generalizing ds i with
 | nil=>cases h;simp at e
 | cons x xs ih=>
  cases h with
  | cons a b=>
   cases i with
   | zero=>cases e;exact⟨_,rfl,a⟩
   | succ i=>
    obtain⟨x,h1,h2⟩:=ih b (i:=i) (by simpa using e)
    exact⟨x,by simpa using h1,h2⟩
theorem RdVs.append{K:Ybf}{H:Hp}{xs ys:List V}{ds es:List PyData}(h:RdVs K H xs ds)(h':RdVs K H ys es):RdVs K H (xs++ys) (ds++es):=by
 induction xs generalizing ds with
 | nil=>cases h;exact h'
 | cons x xs ih=>cases h with|cons a b=>exact .cons a (ih b)
theorem RdVs.set{K:Ybf}{H:Hp}{x:V}{d:PyData}(h:RdV K H x d){xs:List V}{ds:List PyData}(i:Nat)(r:RdVs K H xs ds):RdVs K H (xs.set i x) (ds.set i d):=by
 induction xs generalizing ds i with
 | nil=>cases r;exact .nil
 | cons y xs ih=>
  cases r with
  | cons a b=>
   cases i with
   | zero=>exact .cons h b
   | succ i=>exact .cons a (ih i b)
theorem RdVs.take{K:Ybf}{H:Hp}{xs:List V}{ds:List PyData}(i:Nat)(r:RdVs K H xs ds):RdVs K H (xs.take i) (ds.take i):=by
 induction xs generalizing ds i with
 | nil=>cases r;rw [List.take_nil,List.take_nil];exact .nil
 | cons y xs ih=>
  cases r with
  | cons a b=>
   cases i with
   | zero=>exact .nil
   | succ i=>exact .cons a (ih i b)
theorem RdVs.drop{K:Ybf}{H:Hp}{xs:List V}{ds:List PyData}(i:Nat)(r:RdVs K H xs ds):RdVs K H (xs.drop i) (ds.drop i):=by
 induction xs generalizing ds i with
 | nil=>cases r;rw [List.drop_nil,List.drop_nil];exact .nil
 | cons y xs ih=>
  cases r with
  | cons a b=>
   cases i with
   | zero=>exact .cons a b
   | succ i=>exact ih i b
theorem RdVs.eraseIdx{K:Ybf}{H:Hp}{xs:List V}{ds:List PyData}(i:Nat)(r:RdVs K H xs ds):RdVs K H (xs.eraseIdx i) (ds.eraseIdx i):=by
 induction xs generalizing ds i with
 | nil=>cases r;exact .nil
 | cons y xs ih=>
  cases r with
  | cons a b=>
   cases i with
   | zero=>exact b
   | succ i=>exact .cons a (ih i b)
def tab0(P:Addr):HO:=.ext fun h=>h.get? P=some (PySem.W.tabObj #[])
def tabA(P c':Addr)(pos:Pos):HO:=.ext fun h=>∃ ps,h.get? P=some (PySem.W.tabObj ps)/\TriplesOk ps.toList/\codeAmong pos ps.toList=some (.ref c')
def zaX(c':Addr)(q:Str):HO:=.ext fun h=>h.CodeRec (.ref c') q
class LamW where
 pos:Pos
 q:Str
def Lk[LamW](P:Addr)(H:Hp):Prop:=∃ c',H P=some (tabA P c' LamW.pos)/\H c'=some (zaX c' LamW.q)
variable[LamW]
def zu(H H':Hp):Prop:=∀ b o,H b=some o->H' b=some o\/(o=tab0 b/\((∀ C,tab0 b≠excO b C)/\∀ q,tab0 b≠zaX b q)/\Lk b H')
theorem Same.x{H H':Hp}(s:Same H H'):zu H H':=fun b o h=>.inl (s b o h)
theorem zu.refl(H:Hp):zu H H:=(Same.refl H).x
theorem zu.free{H H':Hp}(e:zu H H'){l:Addr}(h:H' l=none):H l=none:=by
 cases q:H l with
 | none=>rfl
 | some o=>
  rcases e l o q with z|⟨_,_,c',z,_⟩
  . rw [h] at z;cases z
  . rw [h] at z;cases z
theorem zu.at{H H':Hp}(e:zu H H'){b:Addr}{o:HO}(h:H b=some o)(n:∀ f,o≠.ext f:=by intro f z;cases z):H' b=some o:=by
 rcases e b o h with z|⟨z,_⟩
 . exact z
 . exact absurd z (n _)
theorem zu.exc{H H':Hp}(e:zu H H'){a C:Addr}(h:H a=some (excO a C)):H' a=some (excO a C):=by
 rcases e a _ h with z|⟨z,n,_⟩
 . exact z
 . exact absurd z.symm (n.1 C)
theorem zu.code{H H':Hp}(e:zu H H'){a:Addr}{q:Str}(h:H a=some (zaX a q)):H' a=some (zaX a q):=by
 rcases e a _ h with z|⟨z,n,_⟩
 . exact z
 . exact absurd z.symm (n.2 q)
theorem Lk.same{P:Addr}{H H':Hp}(l:Lk P H)(e:zu H H'):Lk P H':=by
 obtain⟨c',h1,h2⟩:=l
 rcases e P _ h1 with z|⟨_,_,z⟩
 . exact⟨c',z,e.code h2⟩
 . exact z
theorem zu.trans{H H1 H2:Hp}(a:zu H H1)(b:zu H1 H2):zu H H2:=fun c o h=>by
 rcases a c o h with z|⟨e,n,l⟩
 . exact b c o z
 . exact .inr ⟨e,n,l.same b⟩
def TabU(P:Addr)(H:Hp):Prop:=H P=some (tab0 P)\/Lk P H
theorem TabU.same{P:Addr}{H H':Hp}(t:TabU P H)(e:zu H H'):TabU P H':=by
 rcases t with h|h
 . rcases e P _ h with z|⟨_,_,l⟩
   . exact .inl z
   . exact .inr l
 . exact .inr (h.same e)
structure Sub(G H:Hp):Prop where
 s:Same G H
 cl:∀ a f,G a≠some (.ext f)
theorem Sub.free{G H:Hp}(e:Sub G H){l:Addr}(h:H l=none):G l=none:=e.s.free h
theorem Sub.seq{K:Ybf}{G H:Hp}{a:Addr}{xs:List V}(e:Sub G H)(h:SqL K G a xs):SqL K H a xs:=e.s.seq h
theorem Sub.tup{K:Ybf}{G H:Hp}{a:Addr}{xs:List V}(e:Sub G H)(h:SqT K G a xs):SqT K H a xs:=e.s.tup h
theorem Sub.trans{G H H':Hp}(e:Sub G H)(x:zu H H'):Sub G H':=⟨fun b o h=>x.at (e.s b o h) (fun f z=>by rw [z] at h;exact e.cl b f h),e.cl⟩
theorem Lk.upd{b D:Addr}{H:Hp}{o:HO}(l:Lk b H)(nb:b≠D)(hD:∀ f,H D≠some (.ext f)):Lk b (upd H D o):=by
 obtain⟨c',h1,h2⟩:=l;exact⟨c',by rw [zh nb];exact h1,by rw [zh (fun y=>by rw [y] at h2;exact hD _ h2)];exact h2⟩
theorem zu.chg{H0 H:Hp}{l:Addr}{o us:HO}(s:zu H0 H)(h0:H0 l=none)(hu:H l=some us)(hux:∀ f,us≠.ext f):zu H0 (upd H l o):=fun b u e=>by
 have nb:=zP e h0
 rcases s b u e with z|⟨z,n,c',h1,h2⟩
 . exact .inl (by rw [zh nb];exact z)
 . refine .inr ⟨z,n,c',by rw [zh nb];exact h1,?_⟩
   rw [zh (fun y=>by rw [y,hu] at h2;exact hux _ (Waz h2))];exact h2
theorem zu.tup{K:Ybf}{H H':Hp}{a:Addr}{xs:List V}(e:zu H H')(h:SqT K H a xs):SqT K H' a xs:=by
 rcases h with (h|⟨o,h⟩)|h
 . exact .inl (.inl (e.at h))
 . exact .inl (.inr ⟨o,e.at h⟩)
 . exact .inr h
def cln(H:Hp):Hp:=fun a=>match H a with
 | some (.ext _)=>none
 | o=>o
theorem zaV{H:Hp}{a:Addr}{o:HO}(h:H a=some o)(n:∀ f,o≠.ext f:=by intro f z;cases z):cln H a=some o:=by
 unfold cln;rw [h];cases o<;>first|rfl|exact absurd rfl (n _)
theorem zbR(H:Hp):Sub (cln H) H:=by
 refine⟨fun b o h=>?_,fun a f h=>?_⟩
 . unfold cln at h
   cases e:H b with
   | none=>rw [e] at h;cases h
   | some u=>rw [e] at h;cases u<;>first|exact h|cases h
 . unfold cln at h
   cases e:H a with
   | none=>rw [e] at h;cases h
   | some u=>rw [e] at h;cases u<;>cases h
end L2
namespace L3
open PySem PySem.Spec PyProof.Rows L2
variable[LamW]
abbrev D:=PyData
def keyD:Key->D
 | .inl i=>.int i
 | .inr x=>.str x
inductive Cl where
 | sh (f:Bool) (d:D)
 | ow (f:Bool) (ds:List D)
 | tr (ps:List Addr) (ms:List (List D))
 | dt (ds:List (List Key×D))
 | dk (ks:List Int)
 | fd (ds:List (List Key×D))
 | tk (k:List Key)
 | dm (a:Addr) (ds:List (Int×Int))
 | ex (C:Addr)
def Cl.d:Cl->D
 | .sh _ d=>d
 | .ow _ ds=>.list ds
 | .tr _ _=>.none
 | .dt _=>.none
 | .dk _=>.none
 | .fd _=>.none
 | .tk k=>.tuple (k.map keyD)
 | .dm _ _=>.none
 | .ex _=>.none
def Cl.f:Cl->Bool
 | .sh f _=>f
 | .ow f _=>f
 | .tr _ _=>false
 | .dt _=>false
 | .dk _=>false
 | .fd _=>false
 | .tk _=>true
 | .dm _ _=>false
 | .ex _=>false
def zo:D->Bool
 | .int _=>true|.bool _=>true|.str _=>true|.none=>true|_=>false
abbrev Env3:=List (Option Cl)
structure Gr(G H G' H':Hp):Prop where
 g:Same G G'
 h:zu H H'
 sub:Sub G' H'
 new:∀ b o,G' b=some o->G b=some o\/H b=none\/∃ xs,o=.tup xs
theorem Gr.refl{G H:Hp}(s:Sub G H):Gr G H G H:=⟨Same.refl _,zu.refl _,s,fun _ _ e=>.inl e⟩
theorem Gr.trans{G H G1 H1 G2 H2:Hp}(a:Gr G H G1 H1)(b:Gr G1 H1 G2 H2):Gr G H G2 H2:=
 ⟨a.g.trans b.g,a.h.trans b.h,b.sub,fun c o e=>by
  rcases b.new c o e with q|q|q
  . exact a.new c o q
  . exact .inr (.inl (a.h.free q))
  . exact .inr (.inr q)⟩
theorem Gr.put{G H:Hp}{p:Addr}{o:HO}(s:Sub G H)(hp:H p=none)(ho:∀ f,o≠.ext f:=by intro f z;cases z):Gr G H (upd G p o) (upd H p o):=
 ⟨zS (s.free hp) o,(zS hp o).x,⟨fun b u e=>by
  by_cases hb:b=p
  . subst hb;rw [zp] at e ⊢;exact e
  . rw [zh hb] at e ⊢;exact s.s b u e,fun b f e=>by
  by_cases hb:b=p
  . subst hb;rw [zp] at e;exact ho f (Waz e)
  . rw [zh hb] at e;exact s.cl b f e⟩,fun b u e=>by
  by_cases hb:b=p
  . subst hb;exact .inr (.inl hp)
  . rw [zh hb] at e;exact .inl e⟩
theorem Gr.apart{G H:Hp}{p:Addr}{o:HO}(s:Sub G H)(hp:H p=none):Gr G H G (upd H p o):=
 ⟨Same.refl _,(zS hp o).x,s.trans (zS hp o).x,fun _ _ e=>.inl e⟩
mutual
theorem J8{K:Ybf}{H H':Hp}(e:Same H H'):∀ {x:V} {d:D},RdV K H x d->RdV K H' x d
 | _,_,.non=>.non
 | _,_,.bl b=>.bl b
 | _,_,.int i=>.int i
 | _,_,.str x=>.str x
 | _,_,.lst q r=>.lst (e.seq q) (rdvs_same e r)
 | _,_,.tup q r=>.tup (e.tup q) (rdvs_same e r)
theorem rdvs_same{K:Ybf}{H H':Hp}(e:Same H H'):∀ {xs:List V} {ds:List D},RdVs K H xs ds->RdVs K H' xs ds
 | _,_,.nil=>.nil
 | _,_,.cons a b=>.cons (J8 e a) (rdvs_same e b)
end
theorem zdC{K:Ybf}{H:Hp}{a:Addr}{xs:List V}(h:SqL K H a xs):SqL K (cln H) a xs:=by
 rcases h with (h|⟨o,h⟩)|h
 . exact .inl (.inl (zaV h))
 . exact .inl (.inr ⟨o,zaV h⟩)
 . exact .inr h
theorem zjQ{K:Ybf}{H:Hp}{a:Addr}{xs:List V}(h:SqT K H a xs):SqT K (cln H) a xs:=by
 rcases h with (h|⟨o,h⟩)|h
 . exact .inl (.inl (zaV h))
 . exact .inl (.inr ⟨o,zaV h⟩)
 . exact .inr h
mutual
theorem zh6{K:Ybf}{H:Hp}:∀ {x:V} {d:D},RdV K H x d->RdV K (cln H) x d
 | _,_,.non=>.non
 | _,_,.bl b=>.bl b
 | _,_,.int i=>.int i
 | _,_,.str x=>.str x
 | _,_,.lst q r=>.lst (zdC q) (rdvs_cln r)
 | _,_,.tup q r=>.tup (zjQ q) (rdvs_cln r)
theorem rdvs_cln{K:Ybf}{H:Hp}:∀ {xs:List V} {ds:List D},RdVs K H xs ds->RdVs K (cln H) xs ds
 | _,_,.nil=>.nil
 | _,_,.cons a b=>.cons (zh6 a) (rdvs_cln b)
end
mutual
inductive RdN(K:Ybf)(H0 G:Hp):V->D->Prop
 | non:RdN K H0 G .non .none
 | bl (b):RdN K H0 G (.bl b) (.bool b)
 | int (i):RdN K H0 G (.int i) (.int i)
 | str (x):RdN K H0 G (.str x) (.str x)
 | lst {a xs ds}:G a=some (.lst xs)->H0 a=none->RdNs K H0 G xs ds->RdN K H0 G (.ref a) (.list ds)
 | tup {a xs ds}:G a=some (.tup xs)->RdNs K H0 G xs ds->RdN K H0 G (.ref a) (.tuple ds)
inductive RdNs(K:Ybf)(H0 G:Hp):List V->List D->Prop
 | nil:RdNs K H0 G [] []
 | cons {x xs d ds}:RdN K H0 G x d->RdNs K H0 G xs ds->RdNs K H0 G (x::xs) (d::ds)
end
mutual
theorem zdk{K:Ybf}{H0 G:Hp}:∀ {x:V} {d:D},RdN K H0 G x d->RdV K G x d
 | _,_,.non=>.non
 | _,_,.bl b=>.bl b
 | _,_,.int i=>.int i
 | _,_,.str x=>.str x
 | _,_,.lst q _ r=>.lst (SqL.of q) (rdns_rd r)
 | _,_,.tup q r=>.tup (SqT.of q) (rdns_rd r)
theorem rdns_rd{K:Ybf}{H0 G:Hp}:∀ {xs:List V} {ds:List D},RdNs K H0 G xs ds->RdVs K G xs ds
 | _,_,.nil=>.nil
 | _,_,.cons a b=>.cons (zdk a) (rdns_rd b)
end
mutual
theorem jx{K:Ybf}{H0 H1 G G':Hp}(e:Same G G')(h:∀ a o,G a=some o->H0 a=none->H1 a=none):∀ {x:V} {d:D},RdN K H0 G x d->RdN K H1 G' x d
 | _,_,.non=>.non
 | _,_,.bl b=>.bl b
 | _,_,.int i=>.int i
 | _,_,.str x=>.str x
 | _,_,.lst q n r=>.lst (e _ _ q) (h _ _ q n) (rdns_mono e h r)
 | _,_,.tup q r=>.tup (e _ _ q) (rdns_mono e h r)
theorem rdns_mono{K:Ybf}{H0 H1 G G':Hp}(e:Same G G')(h:∀ a o,G a=some o->H0 a=none->H1 a=none):∀ {xs:List V} {ds:List D},RdNs K H0 G xs ds->RdNs K H1 G' xs ds
 | _,_,.nil=>.nil
 | _,_,.cons a b=>.cons (jx e h a) (rdns_mono e h b)
end
theorem zak{K:Ybf}{H0 G:Hp}{v:V}{d:D}(h:zo d=true)(r:RdV K G v d):RdN K H0 G v d:=by
 cases r with
 | non=>exact .non
 | bl b=>exact .bl b
 | int i=>exact .int i
 | str s=>exact .str s
 | lst _ _=>cases h
 | tup _ _=>cases h
structure Rf(K:Ybf)(H0 G:Hp)(f:Bool)(v:V)(d:D):Prop where
 rd:RdV K G v d
 nw:f=true->RdN K H0 G v d
structure Rfs(K:Ybf)(H0 G:Hp)(f:Bool)(v:List V)(d:List D):Prop where
 rd:RdVs K G v d
 nw:f=true->RdNs K H0 G v d
theorem Rf.same{K:Ybf}{H0 G G':Hp}{f:Bool}{v:V}{d:D}(r:Rf K H0 G f v d)(e:Same G G'):Rf K H0 G' f v d:=⟨J8 e r.rd,fun h=>jx e (fun _ _ _ n=>n) (r.nw h)⟩
theorem Rfs.same{K:Ybf}{H0 G G':Hp}{f:Bool}{v:List V}{d:List D}(r:Rfs K H0 G f v d)(e:Same G G'):Rfs K H0 G' f v d:=⟨rdvs_same e r.rd,fun h=>rdns_mono e (fun _ _ _ n=>n) (r.nw h)⟩
theorem Rf.sc{K:Ybf}{H0 G:Hp}{f:Bool}{v:V}{d:D}(h:zo d=true)(r:RdV K G v d):Rf K H0 G f v d:=⟨r,fun _=>zak h r⟩
theorem Rf.no{K:Ybf}{H0 G:Hp}{v:V}{d:D}(r:RdV K G v d):Rf K H0 G false v d:=⟨r,fun h=>by cases h⟩
theorem Rf.or{K:Ybf}{H0 G:Hp}{f:Bool}{v:V}{d:D}(r:Rf K H0 G f v d):Rf K H0 G (f||zo d) v d:=⟨r.rd,fun h=>by
 cases f with
 | true=>exact r.nw rfl
 | false=>exact zak (by simpa using h) r.rd⟩
theorem Rfs.nil{K:Ybf}{H0 G:Hp}{f:Bool}:Rfs K H0 G f [] []:=⟨.nil,fun _=>.nil⟩
theorem Rfs.cons{K:Ybf}{H0 G:Hp}{f g:Bool}{v:V}{d:D}{vs:List V}{ds:List D}(r:Rf K H0 G f v d)(rs:Rfs K H0 G g vs ds):Rfs K H0 G (f&&g) (v::vs) (d::ds):=⟨.cons r.rd rs.rd,fun h=>by
 rw [Yak] at h;exact .cons (r.nw h.1) (rs.nw h.2)⟩
theorem zgI{K:Ybf}{H0 H:Hp}{xs:List V}{ds:List D}{i:Nat}{x:V}{d:D}(r:RdNs K H0 H xs ds)(e:xs[i]?=some x)(e':ds[i]?=some d):RdN K H0 H x d:=by
 induction xs generalizing ds i with
 | nil=>simp at e
 | cons y xs ih=>
  cases r with
  | cons a b=>
   cases i with
   | zero=>cases e;cases e';exact a
   | succ i=>exact ih b (i:=i) (by simpa using e) (by simpa using e')
theorem Rfs.get{K:Ybf}{H0 G:Hp}{f:Bool}{vs:List V}{ds:List D}{i:Nat}{d:D}(r:Rfs K H0 G f vs ds)(h:ds[i]?=some d):∃ v,vs[i]?=some v/\Rf K H0 G f v d:=by
 obtain⟨v,h1,h2⟩:=r.rd.get h;exact⟨v,h1,h2,fun hf=>zgI (r.nw hf) h1 h⟩
theorem zcP{K:Ybf}{H0 G:Hp}{vs:List V}{ds:List D}(h:ds.all zo=true)(r:RdVs K G vs ds):RdNs K H0 G vs ds:=by
 induction vs generalizing ds with
 | nil=>cases r;exact .nil
 | cons v vs ih=>
  cases r with
  | cons a b=>
   rw [List.all_cons,Yak] at h;exact .cons (zak h.1 a) (ih h.2 b)
theorem Rfs.or{K:Ybf}{H0 G:Hp}{f:Bool}{vs:List V}{ds:List D}(r:Rfs K H0 G f vs ds):Rfs K H0 G (f||ds.all zo) vs ds:=⟨r.rd,fun h=>by
 cases f with
 | true=>exact r.nw rfl
 | false=>exact zcP (by simpa using h) r.rd⟩
theorem zaW(ws:List Int):(ws.map PyData.int).all zo=true:=by
 rw [List.all_map];exact Wat.mpr fun _ _=>rfl
theorem Rfs.length{K:Ybf}{H0 G:Hp}{f:Bool}{vs:List V}{ds:List D}(r:Rfs K H0 G f vs ds):vs.length=ds.length:=r.rd.length
theorem zbN{K:Ybf}{H0 H:Hp}{xs ys:List V}{ds es:List D}(h:RdNs K H0 H xs ds)(h':RdNs K H0 H ys es):RdNs K H0 H (xs++ys) (ds++es):=by
 induction xs generalizing ds with
 | nil=>cases h;exact h'
 | cons x xs ih=>cases h with|cons a b=>exact .cons a (ih b)
theorem zia{K:Ybf}{H0 H:Hp}{x:V}{d:D}(h:RdN K H0 H x d){xs:List V}{ds:List D}(i:Nat)(r:RdNs K H0 H xs ds):RdNs K H0 H (xs.set i x) (ds.set i d):=by
 induction xs generalizing ds i with
 | nil=>cases r;exact .nil
 | cons y xs ih=>
  cases r with
  | cons a b=>
   cases i with
   | zero=>exact .cons h b
   | succ i=>exact .cons a (ih i b)
theorem zgu{K:Ybf}{H0 H:Hp}{xs:List V}{ds:List D}(i:Nat)(r:RdNs K H0 H xs ds):RdNs K H0 H (xs.take i) (ds.take i):=by
 induction xs generalizing ds i with
 | nil=>cases r;rw [List.take_nil,List.take_nil];exact .nil
 | cons y xs ih=>
  cases r with
  | cons a b=>
   cases i with
   | zero=>exact .nil
   | succ i=>exact .cons a (ih i b)
theorem zea{K:Ybf}{H0 H:Hp}{xs:List V}{ds:List D}(i:Nat)(r:RdNs K H0 H xs ds):RdNs K H0 H (xs.drop i) (ds.drop i):=by
 induction xs generalizing ds i with
 | nil=>cases r;rw [List.drop_nil,List.drop_nil];exact .nil
 | cons y xs ih=>
  cases r with
  | cons a b=>
   cases i with
   | zero=>exact .cons a b
   | succ i=>exact ih i b
theorem zgE{K:Ybf}{H0 H:Hp}{xs:List V}{ds:List D}(i:Nat)(r:RdNs K H0 H xs ds):RdNs K H0 H (xs.eraseIdx i) (ds.eraseIdx i):=by
 induction xs generalizing ds i with
 | nil=>cases r;exact .nil
 | cons y xs ih=>
  cases r with
  | cons a b=>
   cases i with
   | zero=>exact b
   | succ i=>exact .cons a (ih i b)
theorem Rfs.snoc{K:Ybf}{H0 G:Hp}{f g:Bool}{v:V}{d:D}{vs:List V}{ds:List D}(rs:Rfs K H0 G g vs ds)(r:Rf K H0 G f v d):Rfs K H0 G (g&&f) (vs++[v]) (ds++[d]):=⟨rs.rd.append (.cons r.rd .nil),fun h=>by
 rw [Yak] at h;exact zbN (rs.nw h.1) (.cons (r.nw h.2) .nil)⟩
theorem Rfs.append{K:Ybf}{H0 G:Hp}{f g:Bool}{us:List V}{es:List D}{vs:List V}{ds:List D}(rs:Rfs K H0 G g vs ds)(r:Rfs K H0 G f us es):Rfs K H0 G (g&&f) (vs++us) (ds++es):=⟨rs.rd.append r.rd,fun h=>by
 rw [Yak] at h;exact zbN (rs.nw h.1) (r.nw h.2)⟩
theorem Rfs.set{K:Ybf}{H0 G:Hp}{f g:Bool}{v:V}{d:D}{vs:List V}{ds:List D}(rs:Rfs K H0 G g vs ds)(r:Rf K H0 G f v d)(i:Nat):Rfs K H0 G (g&&f) (vs.set i v) (ds.set i d):=⟨rs.rd.set r.rd i,fun h=>by
 rw [Yak] at h;exact zia (r.nw h.2) i (rs.nw h.1)⟩
theorem Rfs.take{K:Ybf}{H0 G:Hp}{g:Bool}{vs:List V}{ds:List D}(rs:Rfs K H0 G g vs ds)(i:Nat):Rfs K H0 G g (vs.take i) (ds.take i):=⟨rs.rd.take i,fun h=>zgu i (rs.nw h)⟩
theorem Rfs.drop{K:Ybf}{H0 G:Hp}{g:Bool}{vs:List V}{ds:List D}(rs:Rfs K H0 G g vs ds)(i:Nat):Rfs K H0 G g (vs.drop i) (ds.drop i):=⟨rs.rd.drop i,fun h=>zea i (rs.nw h)⟩
theorem Rfs.eraseIdx{K:Ybf}{H0 G:Hp}{g:Bool}{vs:List V}{ds:List D}(rs:Rfs K H0 G g vs ds)(i:Nat):Rfs K H0 G g (vs.eraseIdx i) (ds.eraseIdx i):=⟨rs.rd.eraseIdx i,fun h=>zgE i (rs.nw h)⟩
structure Tr(K:Ybf)(H0 G H:Hp)(l:Addr)(ps:List Addr)(ms:List (List D)):Prop where
 top:H l=some (.lst (ps.map V.ref))
 topG:G l=none
 nd:(l::ps).Nodup
 len:ps.length=ms.length
 item:∀ (k:Nat) (p:Addr) (m:List D),ps[k]?=some p->ms[k]?=some m->∃ vs,H p=some (.lst vs)/\G p=none/\Rfs K H0 G true vs m
inductive Dr(K:Ybf)(H0 G:Hp):List (List Key×V)->List (List Key×D)->Prop
 | nil:Dr K H0 G [] []
 | cons {k v d kvs ds}:Rf K H0 G true v d->Dr K H0 G kvs ds->Dr K H0 G ((k,v)::kvs) ((k,d)::ds)
theorem Dr.same{K:Ybf}{H0 G G':Hp}{kvs:List (List Key×V)}{ds:List (List Key×D)}(r:Dr K H0 G kvs ds)(e:Same G G'):Dr K H0 G' kvs ds:=by
 induction r with
 | nil=>exact .nil
 | cons a b ih=>exact .cons (a.same e) ih
def KAt(G:Hp)(o:Obj)(kvs:List (List Key×V)):Prop:=∃ (es:Array DictEntry) (ep:Nat) (as:List Addr),o.ExactDict/\o.data=.dict es ep/\es.toList.map (·.key)=as.map Value.ref/\as.length=kvs.length/\∀ (j:Nat) (a:Addr) (k:List Key) (v:V),as[j]?=some a->kvs[j]?=some (k,v)->G a=some (.tup (k.map kV))
theorem KAt.same{G G':Hp}{o:Obj}{kvs:List (List Key×V)}(h:KAt G o kvs)(g:Same G G'):KAt G' o kvs:=by
 obtain⟨es,ep,as,h0,h1,h2,h3,h4⟩:=h;exact⟨es,ep,as,h0,h1,h2,h3,fun j a k v e1 e2=>g _ _ (h4 j a k v e1 e2)⟩
def encM(ds:List (Int×Int)):List (Key×V):=ds.map fun p=>(Sum.inl p.1,V.int p.2)
inductive Vw(K:Ybf)(H0 G H:Hp):V->Cl->Prop
 | sh {v f d}:Rf K H0 G f v d->Vw K H0 G H v (.sh f d)
 | ow {l vs f ds}:H l=some (.lst vs)->Rfs K H0 G f vs ds->G l=none->Vw K H0 G H (.ref l) (.ow f ds)
 | tr {l ps ms}:Tr K H0 G H l ps ms->Vw K H0 G H (.ref l) (.tr ps ms)
 | dt {l kvs ds}:H l=some (.dT kvs)->Dr K H0 G kvs ds->G l=none->Vw K H0 G H (.ref l) (.dt ds)
 | dk {l ks}:H l=some (.dK (ks.map fun k=>(Sum.inl k,V.bl true)))->G l=none->Vw K H0 G H (.ref l) (.dk ks)
 | fd {l o kvs ds}:G l=some (.frz o (.dT kvs))->Dr K H0 G kvs ds->KAt G o kvs->Vw K H0 G H (.ref l) (.fd ds)
 | tk {b k}:G b=some (.tup (k.map kV))->Vw K H0 G H (.ref b) (.tk k)
 | dm {a ds}:H a=some (.dK (encM ds))->G a=none->Vw K H0 G H (.ref a) (.dm a ds)
 | ex {l C}:H l=some (excO l C)->Vw K H0 G H (.ref l) (.ex C)
def Cl.dat:Cl->Bool
 | .ex _=>false
 | .tr _ _=>false
 | .dt _=>false
 | .dk _=>false
 | .fd _=>false
 | .dm _ _=>false
 | _=>true
def Has:Cl->V->Addr->Prop
 | .ow _ _,v,a=>v=.ref a
 | .tr ps _,v,a=>v=.ref a\/a∈ps
 | .dt _,v,a=>v=.ref a
 | .dk _,v,a=>v=.ref a
 | .dm _ _,v,a=>v=.ref a
 | _,_,_=>False
theorem Tr.at{K:Ybf}{H0 G H:Hp}{l:Addr}{ps:List Addr}{ms:List (List D)}(t:Tr K H0 G H l ps ms){p:Addr}(h:p∈ps):∃ m vs,H p=some (.lst vs)/\G p=none/\Rfs K H0 G true vs m:=by
 obtain⟨k,hk,e⟩:=Yam h;have hk':k<ms.length:=by rw [<-t.len];exact hk
 obtain⟨vs,h1⟩:=t.item k p ms[k] (by rw [<-e];exact YaQ hk) (YaQ hk')
 exact⟨_,vs,h1⟩
theorem Vw.has{K:Ybf}{H0 G H:Hp}{v:V}{c:Cl}{a:Addr}(w:Vw K H0 G H v c)(h:Has c v a):(∃ o,H a=some o/\∀ f,o≠.ext f)/\G a=none:=by
 cases w with
 | sh r=>exact False.elim h
 | ex e=>exact False.elim h
 | fd _ _ _=>exact False.elim h
 | tk _=>exact False.elim h
 | ow e r n=>cases h;exact⟨⟨_,e,fun C z=>by cases z⟩,n⟩
 | dt e r n=>cases h;exact⟨⟨_,e,fun C z=>by cases z⟩,n⟩
 | dk e n=>cases h;exact⟨⟨_,e,fun C z=>by cases z⟩,n⟩
 | dm e n=>cases h;exact⟨⟨_,e,fun C z=>by cases z⟩,n⟩
 | tr t=>
  rcases h with h|h
  . cases h;exact⟨⟨_,t.top,fun C z=>by cases z⟩,t.topG⟩
  . obtain⟨m,vs,h1,h2,_⟩:=t.at h
    exact⟨⟨_,h1,fun C z=>by cases z⟩,h2⟩
theorem Vw.turn{K:Ybf}{H0 G H G' H':Hp}{v:V}{c:Cl}(w:Vw K H0 G H v c)(g:Same G G')(hx:∀ a C,H a=some (excO a C)->H' a=some (excO a C))(hh:∀ a,Has c v a->H' a=H a/\G' a=G a):Vw K H0 G' H' v c:=by
 cases w with
 | sh r=>exact .sh (r.same g)
 | ex h=>exact .ex (hx _ _ h)
 | fd h r k=>exact .fd (g _ _ h) (r.same g) (k.same g)
 | tk h=>exact .tk (g _ _ h)
 | ow h r n=>
  obtain⟨h1,h2⟩:=hh _ rfl;exact .ow (h1.trans h) (r.same g) (h2.trans n)
 | dt h r n=>
  obtain⟨h1,h2⟩:=hh _ rfl;exact .dt (h1.trans h) (r.same g) (h2.trans n)
 | dk h n=>
  obtain⟨h1,h2⟩:=hh _ rfl;exact .dk (h1.trans h) (h2.trans n)
 | dm h n=>
  obtain⟨h1,h2⟩:=hh _ rfl;exact .dm (h1.trans h) (h2.trans n)
 | tr t=>
  obtain⟨h1,h2⟩:=hh _ (.inl rfl);refine .tr ⟨h1.trans t.top,h2.trans t.topG,t.nd,t.len,fun k p m hp hm=>?_⟩
  obtain⟨vs,q1,q2,q3⟩:=t.item k p m hp hm;obtain⟨h3,h4⟩:=hh p (.inr (Yah hp));exact⟨vs,h3.trans q1,h4.trans q2,q3.same g⟩
theorem Vw.ntup{K:Ybf}{H0 G H:Hp}{v:V}{c:Cl}{a:Addr}(w:Vw K H0 G H v c)(h:Has c v a):∀ xs,H a≠some (.tup xs):=by
 cases w with
 | sh r=>exact False.elim h
 | ex e=>exact False.elim h
 | fd _ _ _=>exact False.elim h
 | tk _=>exact False.elim h
 | ow e r n=>cases h;intro xs z;rw [e] at z;cases z
 | dt e r n=>cases h;intro xs z;rw [e] at z;cases z
 | dk e n=>cases h;intro xs z;rw [e] at z;cases z
 | dm e n=>cases h;intro xs z;rw [e] at z;cases z
 | tr t=>
  rcases h with h|h
  . cases h;intro xs z;rw [t.top] at z;cases z
  . obtain⟨m,vs,h1,h2,_⟩:=t.at h
    intro xs z;rw [h1] at z;cases z
theorem Gr.hid{G H G' H':Hp}(g:Gr G H G' H'){l:Addr}{o:HO}(h:H l=some o)(n:G l=none)(hx:∀ f,o≠.ext f)(ht:∀ xs,H l≠some (.tup xs)):G' l=none:=by
 cases e:G' l with
 | none=>rfl
 | some o=>
  rcases g.new _ _ e with q|q|⟨xs,q⟩
  . rw [n] at q;cases q
  . rw [h] at q;cases q
  . have:=g.sub.s _ _ e
    rw [g.h.at h hx,q] at this;exact absurd (h.trans this) (ht xs)
theorem Vw.gr{K:Ybf}{H0 G H G' H':Hp}{v:V}{c:Cl}(w:Vw K H0 G H v c)(g:Gr G H G' H'):Vw K H0 G' H' v c:=
 w.turn g.g (fun a C e=>g.h.exc e) fun a h=>by
  obtain⟨⟨o,e,no⟩,n⟩:=w.has h;exact⟨(g.h.at e no).trans e.symm,(g.hid e n no (w.ntup h)).trans n.symm⟩
theorem Z2{K:Ybf}{G:Hp}:∀ k:List Key,RdVs K G (k.map kV) (k.map keyD)
 | []=>.nil
 | .inl i::r=>.cons (.int i) (Z2 r)
 | .inr x::r=>.cons (.str x) (Z2 r)
theorem zav{K:Ybf}{H0 G:Hp}:∀ k:List Key,RdNs K H0 G (k.map kV) (k.map keyD)
 | []=>.nil
 | .inl i::r=>.cons (.int i) (zav r)
 | .inr x::r=>.cons (.str x) (zav r)
theorem Vw.rd{K:Ybf}{H0 G H:Hp}{v:V}{c:Cl}(w:Vw K H0 G H v c)(s:Sub G H)(hc:c.dat=true):RdV K H v c.d:=by
 cases w with
 | sh r=>exact J8 s.s r.rd
 | ow h r n=>exact .lst (SqL.of h) (rdvs_same s.s r.rd)
 | tr t=>cases hc
 | dt _ _ _=>cases hc
 | dk _ _=>cases hc
 | fd _ _ _=>cases hc
 | tk h=>exact .tup (SqT.of (s.s _ _ h)) (Z2 _)
 | dm _ _=>cases hc
 | ex h=>cases hc
inductive Vws(K:Ybf)(H0 G H:Hp):List V->List Cl->Prop
 | nil:Vws K H0 G H [] []
 | cons {v c vs cs}:Vw K H0 G H v c->Vws K H0 G H vs cs->Vws K H0 G H (v::vs) (c::cs)
def shs:List Cl->Option (Bool×List D)
 | []=>some (true,[])
 | .sh f d::r=>(shs r).map fun p=>((f&&p.1),d::p.2)
 | .ow _ _::_=>none
 | .tr _ _::_=>none
 | .dt _::_=>none
 | .dk _::_=>none
 | .fd _::_=>none
 | .tk _::_=>none
 | .dm _ _::_=>none
 | .ex _::_=>none
theorem Vws.shs{K:Ybf}{H0 G H:Hp}{vs:List V}{cs:List Cl}{p:Bool×List D}(h:Vws K H0 G H vs cs)(e:shs cs=some p):Rfs K H0 G p.1 vs p.2:=by
 induction h generalizing p with
 | nil=>cases e;exact .nil
 | cons a b ih=>
  cases a with
  | sh r=>
   unfold L3.shs at e;rename_i cs' f d;cases q:L3.shs cs' with
   | none=>rw [q] at e;cases e
   | some ds=>rw [q] at e;cases e;exact .cons r (ih q)
  | ow _ _ _=>cases e
  | tr _=>cases e
  | dt _ _ _=>cases e
  | dk _ _=>cases e
  | fd _ _ _=>cases e
  | tk _=>cases e
  | dm _ _=>cases e
  | ex _=>cases e
theorem Vws.rds{K:Ybf}{H0 G H:Hp}(s:Sub G H){vs:List V}{cs:List Cl}(h:Vws K H0 G H vs cs)(hd:cs.all Cl.dat=true):RdVs K H vs (cs.map Cl.d):=by
 induction h with
 | nil=>exact .nil
 | cons a b ih=>
  rw [List.all_cons,Yak] at hd;exact .cons (a.rd s hd.1) (ih hd.2)
structure Fr3(K:Ybf)(H0 G0:Hp)(ρ : Env3)(σ : L2.St)(G H:Hp):Prop where
 keep:zu H0 H
 sub:Sub G H
 old:∀ b o,G b=some o->G0 b=some o\/H0 b=none\/∃ xs,o=.tup xs
 g0:Same G0 G
 slot:∀ (i:Nat) (c:Cl),ρ[i]?=some (some c)->∃ v,σ[i]?=some (some v)/\Vw K H0 G H v c
 mine:∀ (i:Nat) (c:Cl) (v:V) (a:Addr),ρ[i]?=some (some c)->σ[i]?=some (some v)->Has c v a->H0 a=none
 apart:∀ (i j:Nat) (c c':Cl) (v v':V) (a:Addr),ρ[i]?=some (some c)->ρ[j]?=some (some c')->σ[i]?=some (some v)->σ[j]?=some (some v')->Has c v a->Has c' v' a->i=j
 len:ρ.length = σ.length
section
variable{K:Ybf}{H0 G0:Hp}{ρ : Env3}{σ : L2.St}{G H G' H':Hp}
theorem Fr3.gr(F:Fr3 K H0 G0 ρ σ G H)(g:Gr G H G' H'):Fr3 K H0 G0 ρ σ G' H' where
 keep:=F.keep.trans g.h
 sub:=g.sub
 old:=fun b o e=>by
  rcases g.new b o e with q|q|q
  . exact F.old b o q
  . exact .inr (.inl (F.keep.free q))
  . exact .inr (.inr q)
 g0:=F.g0.trans g.g
 slot:=fun i c e=>by
  obtain⟨v,h1,h2⟩:=F.slot i c e;exact⟨v,h1,h2.gr g⟩
 mine:=F.mine
 apart:=F.apart
 len:=F.len
theorem zD{α : Type}{l:List α}{i j:Nat}{x y:α}(h:(l.set i x)[j]?=some y):(i=j/\y=x/\i<l.length)\/(i≠j/\l[j]?=some y):=by
 by_cases e:i=j
 . subst e
   rw [List.getElem?_set_self'] at h;cases q:l[i]? with
   | none=>rw [q] at h;cases h
   | some z=>
    rw [q] at h;cases h;exact .inl ⟨rfl,rfl,(Ya8.mp q).1⟩
 . rw [Yac e] at h
   exact .inr ⟨e,h⟩
theorem Fr3.vw(F:Fr3 K H0 G0 ρ σ G H){i:Nat}{c:Cl}{v:V}(h:ρ[i]?=some (some c))(h':σ[i]?=some (some v)):Vw K H0 G H v c:=by
 obtain⟨u,h1,h2⟩:=F.slot i c h;rw [h'] at h1;cases h1;exact h2
theorem Fr3.put(F:Fr3 K H0 G0 ρ σ G H){i:Nat}{v:V}{c:Cl}(s:zu H H')(w:Vw K H0 G H' v c)(hn:∀ a,Has c v a->H a=none):Fr3 K H0 G0 (ρ.set i (some c)) (σ.set i (some v)) G H':=by
 have F':=F.gr (G':=G) (H':=H') ⟨Same.refl _,s,F.sub.trans s,fun _ _ e=>.inl e⟩
 have ne:∀ (j:Nat) (c':Cl) (v':V) (a:Addr),ρ[j]?=some (some c')->σ[j]?=some (some v')->Has c' v' a->Has c v a->False:=fun j c' v' a e e' h h'=>by
  obtain⟨⟨o,q,_⟩,_⟩:=(F.vw e e').has h;rw [hn a h'] at q;cases q
 exact {
  keep:=F'.keep
  sub:=F'.sub
  old:=F'.old
  g0:=F'.g0
  slot:=fun j c' e=>by
   rcases zD e with ⟨rfl,q,hl⟩|⟨n,q⟩
   . cases q
     exact⟨v,by rw [Yas (by rw [<-F.len];exact hl)],w⟩
   . obtain⟨v',h1,h2⟩:=F'.slot j c' q
     exact⟨v',by rw [Yac n];exact h1,h2⟩
  mine:=fun j c' v' a e e' h=>by
   rcases zD e with ⟨rfl,q,hl⟩|⟨n,q⟩
   . cases q
     rw [Yas (by rw [<-F.len];exact hl)] at e'
     cases e';exact F.keep.free (hn a h)
   . rw [Yac n] at e'
     exact F.mine j c' v' a q e' h
  apart:=fun j k c1 c2 v1 v2 a e1 e2 e3 e4 h1 h2=>by
   rcases zD e1 with ⟨rfl,q,hl⟩|⟨n,q⟩
   . rcases zD e2 with ⟨rfl,q',hl'⟩|⟨n',q'⟩
     . rfl
     . cases q
       rw [Yas (by rw [<-F.len];exact hl)] at e3
       cases e3;rw [Yac n'] at e4
       exact(ne k c2 v2 a q' e4 h2 h1).elim
   . rcases zD e2 with ⟨rfl,q',hl'⟩|⟨n',q'⟩
     . cases q'
       rw [Yas (by rw [<-F.len];exact hl')] at e4
       cases e4;rw [Yac n] at e3
       exact(ne j c1 v1 a q e3 h1 h2).elim
     . rw [Yac n] at e3
       rw [Yac n'] at e4;exact F.apart j k c1 c2 v1 v2 a q q' e3 e4 h1 h2
  len:=by rw [YaN,YaN];exact F.len }
theorem Fr3.set(F:Fr3 K H0 G0 ρ σ G H){i:Nat}{v:V}{f:Bool}{d:D}(r:Rf K H0 G f v d):Fr3 K H0 G0 (ρ.set i (some (.sh f d))) (σ.set i (some v)) G H:=F.put (zu.refl _) (.sh r) fun _ h=>False.elim h
theorem Fr3.drop(F:Fr3 K H0 G0 ρ σ G H){i:Nat}:Fr3 K H0 G0 (ρ.set i none) σ G H where
 keep:=F.keep
 sub:=F.sub
 old:=F.old
 g0:=F.g0
 slot:=fun j c e=>by
  rcases zD e with ⟨rfl,q,hl⟩|⟨n,q⟩
  . cases q
  . exact F.slot j c q
 mine:=fun j c v a e e' h=>by
  rcases zD e with ⟨rfl,q,hl⟩|⟨n,q⟩
  . cases q
  . exact F.mine j c v a q e' h
 apart:=fun j k c1 c2 v1 v2 a e1 e2 e3 e4 h1 h2=>by
  rcases zD e1 with ⟨rfl,q,hl⟩|⟨n,q⟩
  . cases q
  . rcases zD e2 with ⟨rfl,q',hl⟩|⟨n',q'⟩
    . cases q'
    . exact F.apart j k c1 c2 v1 v2 a q q' e3 e4 h1 h2
 len:=by rw [YaN];exact F.len
theorem Fr3.own(F:Fr3 K H0 G0 ρ σ G H){i:Nat}{l:Addr}{vs:List V}{f:Bool}{ds:List D}(r:Rfs K H0 G f vs ds)(hl:H l=none):Fr3 K H0 G0 (ρ.set i (some (.ow f ds))) (σ.set i (some (.ref l))) G (upd H l (.lst vs)):=
 F.put (zS hl _).x (.ow zp r (F.sub.free hl)) fun a h=>by cases h;exact hl
theorem Fr3.chg(F:Fr3 K H0 G0 ρ σ G H){i:Nat}{l:Addr}{o:HO}{c c':Cl}{v:V}(hi:ρ[i]?=some (some c))(hv:σ[i]?=some (some v))(hl:Has c v l)(hc:∀ a,Has c' v a->Has c v a)(w:Vw K H0 G (upd H l o) v c'):Fr3 K H0 G0 (ρ.set i (some c')) σ G (upd H l o):=by
 have h0:H0 l=none:=F.mine i c v l hi hv hl;obtain⟨⟨us,hu,hux⟩,gl⟩:=(F.vw hi hv).has hl;refine⟨F.keep.chg h0 hu hux,⟨fun b o e=>by rw [zh (zP e gl)];exact F.sub.s b o e,F.sub.cl⟩,F.old,F.g0,fun j c2 e=>?_,fun j c2 v2 a e e' h=>?_,fun j k c1 c2 v1 v2 a e1 e2 e3 e4 h1 h2=>?_,by rw [YaN];exact F.len⟩
 . rcases zD e with ⟨rfl,q,_⟩|⟨n,q⟩
   . cases q
     exact⟨v,hv,w⟩
   . obtain⟨v',h1,h2⟩:=F.slot j c2 q
     refine⟨v',h1,h2.turn (Same.refl _) (fun a C e=>?_) fun a h=>⟨?_,rfl⟩⟩
     . rw [zh (fun z=>by subst z;rw [hu] at e;exact hux _ (Waz e))];exact e
     . rw [zh (fun z=>by subst z;exact n (F.apart i j c c2 v v' a hi q hv h1 hl h))]
 . rcases zD e with ⟨rfl,q,_⟩|⟨n,q⟩
   . cases q
     rw [hv] at e';cases e';exact F.mine i c v a hi hv (hc a h)
   . exact F.mine j c2 v2 a q e' h
 . rcases zD e1 with ⟨rfl,q,_⟩|⟨n,q⟩
   . rcases zD e2 with ⟨rfl,q',_⟩|⟨n',q'⟩
     . rfl
     . cases q
       rw [hv] at e3;cases e3;exact F.apart i k c c2 v v2 a hi q' hv e4 (hc a h1) h2
   . rcases zD e2 with ⟨rfl,q',_⟩|⟨n',q'⟩
     . cases q'
       rw [hv] at e4;cases e4;exact F.apart j i c1 c v1 v a q hi e3 hv h1 (hc a h2)
     . exact F.apart j k c1 c2 v1 v2 a q q' e3 e4 h1 h2
theorem Fr3.change(F:Fr3 K H0 G0 ρ σ G H){i:Nat}{l:Addr}{vs:List V}{f f':Bool}{ds es:List D}(hi:ρ[i]?=some (some (.ow f ds)))(hl:σ[i]?=some (some (.ref l)))(r:Rfs K H0 G f' vs es):Fr3 K H0 G0 (ρ.set i (some (.ow f' es))) σ G (upd H l (.lst vs)):=
 F.chg hi hl rfl (fun _ h=>h) (.ow zp r ((F.vw hi hl).has rfl).2)
theorem Fr3.still(F:Fr3 K H0 G0 ρ σ G H){i:Nat}{c:Cl}{v:V}{f:Bool}{d:D}(hi:ρ[i]?=some (some c))(hv:σ[i]?=some (some v))(r:∀ G',Same G G'->(∀ a,Has c v a->G' a=H a/\H0 a=none)->Rf K H0 G' f v d):∃ G',Same G G'/\Fr3 K H0 G0 (ρ.set i (some (.sh f d))) σ G' H:=by
 have hd:∀ b,Decidable (Has c v b):=fun b=>Classical.propDecidable _
 have w:=F.vw hi hv;have e1:∀ b,Has c v b->(fun b=>if Has c v b then H b else G b) b=H b:=fun b h=>if_pos h
 have e2:∀ b,¬Has c v b->(fun b=>if Has c v b then H b else G b) b=G b:=fun b h=>if_neg h
 generalize (fun b=>if Has c v b then H b else G b)=G' at e1 e2
 have gg:Same G G':=fun b o e=>by
  rw [e2 b (fun h=>by rw [(w.has h).2] at e;cases e)];exact e
 refine⟨G',gg,F.keep,⟨fun b o e=>?_,fun b f e=>?_⟩,fun b o e=>?_,F.g0.trans gg,fun j c2 e=>?_,fun j c2 v2 a e e' h=>?_,fun j k c1 c2 v1 v2 a q1 q2 q3 q4 h1 h2=>?_,by rw [YaN];exact F.len⟩
 . by_cases h:Has c v b
   . rw [e1 b h] at e;exact e
   . rw [e2 b h] at e;exact F.sub.s b o e
 . by_cases h:Has c v b
   . rw [e1 b h] at e
     obtain⟨⟨u,hu,hn⟩,_⟩:=w.has h;rw [hu] at e;exact hn f (Waz e)
   . rw [e2 b h] at e;exact F.sub.cl b f e
 . by_cases h:Has c v b
   . exact .inr (.inl (F.mine i c v b hi hv h))
   . rw [e2 b h] at e;exact F.old b o e
 . rcases zD e with ⟨rfl,q,_⟩|⟨n,q⟩
   . cases q
     exact⟨v,hv,.sh (r G' gg fun a h=>⟨e1 a h,F.mine i c v a hi hv h⟩)⟩
   . obtain⟨v',h1,h2⟩:=F.slot j c2 q
     exact⟨v',h1,h2.turn gg (fun _ _ e=>e) fun a h=>⟨rfl,e2 a fun h'=>n (F.apart i j c c2 v v' a hi q hv h1 h' h)⟩⟩
 . rcases zD e with ⟨rfl,q,_⟩|⟨n,q⟩
   . cases q;exact False.elim h
   . exact F.mine j c2 v2 a q e' h
 . rcases zD q1 with ⟨rfl,q,_⟩|⟨n,q⟩
   . cases q;exact False.elim h1
   . rcases zD q2 with ⟨rfl,q',_⟩|⟨n',q'⟩
     . cases q';exact False.elim h2
     . exact F.apart j k c1 c2 v1 v2 a q q' q3 q4 h1 h2
theorem Fr3.freeze(F:Fr3 K H0 G0 ρ σ G H){i:Nat}{f:Bool}{ds:List D}(hi:ρ[i]?=some (some (.ow f ds))):∃ G',Same G G'/\Fr3 K H0 G0 (ρ.set i (some (.sh f (.list ds)))) σ G' H:=by
 obtain⟨v,hv,w⟩:=F.slot i _ hi;refine F.still hi hv fun G' gg q=>?_
 cases w with
 | ow h r n=>
  obtain⟨q1,q2⟩:=q _ rfl;rw [h] at q1;exact⟨.lst (SqL.of q1) (rdvs_same gg r.rd),fun hf=>.lst q1 q2 (rdns_mono gg (fun _ _ _ z=>z) (r.nw hf))⟩
theorem zjK{ps:List Addr}{ms:List (List D)}(hl:ps.length=ms.length)(h:∀ (k:Nat) (p:Addr) (m:List D),ps[k]?=some p->ms[k]?=some m->RdN K H0 G (.ref p) (.list m)):RdNs K H0 G (ps.map V.ref) (ms.map PyData.list):=by
 induction ps generalizing ms with
 | nil => cases ms with
  | nil=>exact .nil
  | cons m ms=>cases hl
 | cons p ps ih => cases ms with
  | nil=>cases hl
  | cons m ms=>exact .cons (h 0 p m rfl rfl) (ih (Nat.succ.inj hl) fun k q n h1 h2=>h (k+1) q n (by simpa using h1) (by simpa using h2))
theorem Fr3.freezeT(F:Fr3 K H0 G0 ρ σ G H){i:Nat}{ps:List Addr}{ms:List (List D)}(hi:ρ[i]?=some (some (.tr ps ms))):∃ G',Same G G'/\Fr3 K H0 G0 (ρ.set i (some (.sh true (.list (ms.map PyData.list))))) σ G' H:=by
 obtain⟨v,hv,w⟩:=F.slot i _ hi;refine F.still hi hv fun G' gg q=>?_
 cases w with
 | tr t=>
  obtain⟨q1,q2⟩:=q _ (.inl rfl);have n:RdN K H0 G' (.ref _) (.list (ms.map PyData.list)):=.lst (q1.trans t.top) q2 (zjK t.len fun k p m h1 h2=>by
   obtain⟨vs,a,b,c⟩:=t.item k p m h1 h2;obtain⟨q3,q4⟩:=q p (.inr (Yah h1));exact .lst (q3.trans a) q4 (rdns_mono gg (fun _ _ _ z=>z) (c.nw rfl)))
  exact⟨zdk n,fun _=>n⟩
theorem Fr3.rebase(F:Fr3 K H0 G0 ρ σ G H):Fr3 K H0 G ρ σ G H:=⟨F.keep,F.sub,fun _ _ e=>.inl e,Same.refl _,F.slot,F.mine,F.apart,F.len⟩
theorem Fr3.back{ρ1:Env3}{σ1:L2.St}{G1 H1:Hp}(F:Fr3 K H0 G1 ρ σ G H)(B:Fr3 K H0 G0 ρ1 σ1 G1 H1):Fr3 K H0 G0 ρ σ G H:=
 ⟨F.keep,F.sub,fun b o e=>(F.old b o e).elim (fun q=>B.old b o q) .inr,B.g0.trans F.g0,F.slot,F.mine,F.apart,F.len⟩
theorem Fr3.gr0(F:Fr3 K H0 G0 ρ σ G H):Gr G0 H0 G H:=⟨F.g0,F.keep,F.sub,F.old⟩
theorem Gr.back{ρ1:Env3}{σ1:L2.St}{G1 H1:Hp}(g:Gr G1 H0 G H)(B:Fr3 K H0 G0 ρ1 σ1 G1 H1):Gr G0 H0 G H:=
 ⟨B.g0.trans g.g,g.h,g.sub,fun b o e=>(g.new b o e).elim (fun q=>B.old b o q) .inr⟩
end
variable[LamW]
theorem el5{α β γ : Type}{P R:α->β->γ->Prop}{C:Prop}(f:∀ a b c,P a b c->R a b c->C)(h:∃ a b c,P a b c/\R a b c):C:=by
 obtain⟨a,b,c,x,y⟩:=h;exact f a b c x y
theorem el7{α β γ δ : Type}{P R S:α->β->γ->δ->Prop}{C:Prop}(f:∀ a b c d,P a b c d->R a b c d->S a b c d->C)(h:∃ a b c d,P a b c d/\R a b c d/\S a b c d):C:=by
 obtain⟨a,b,c,d,x,y,z⟩:=h;exact f a b c d x y z
theorem el2{α β : Type}{P R S:α->β->Prop}{C:Prop}(f:∀ a b,P a b->R a b->S a b->C)(h:∃ a b,P a b/\R a b/\S a b):C:=by
 obtain⟨a,b,x,y,z⟩:=h;exact f a b x y z
theorem el3{α β γ : Type}{P R S T:α->β->γ->Prop}{C:Prop}(f:∀ a b c,P a b c->R a b c->S a b c->T a b c->C)(h:∃ a b c,P a b c/\R a b c/\S a b c/\T a b c):C:=by
 obtain⟨a,b,c,x,y,z,w⟩:=h;exact f a b c x y z w
abbrev TE3:=Env3->(Cl->Prop)->Prop
abbrev TT3:=Env3->(Bool->Prop)->Prop
abbrev TA3:=Env3->(List Cl->Prop)->Prop
abbrev TN3:=Env3->(Bool->List D->Prop)->Prop
structure Ends3 where
 nx:Env3->Prop
 rt:Bool->D->Prop
 bk:Env3->Prop:=fun _=>False
 ct:Env3->Prop:=fun _=>False
 rm:Cl->Env3->Prop:=fun _ _=>False
abbrev TS3:=Ends3->Env3->Prop
def jg(K:Ybf)(H0:Hp)(t:TE3):TE:=fun σ H Q=>∃ G0 ρ G,Fr3 K H0 G0 ρ σ G H/\t ρ fun c=>∀ v G' H',Gr G H G' H'->Vw K H0 G' H' v c->Q v H'
def zcY(K:Ybf)(H0:Hp)(t:TN3):TE:=fun σ H Q=>∃ G0 ρ G,Fr3 K H0 G0 ρ σ G H/\t ρ fun f ds=>∀ l vs G' H',Gr G H G' H'->H' l=none->Rfs K H0 G' f vs ds->Q (.ref l) (upd H' l (.lst vs))
def jP(K:Ybf)(H0:Hp)(t:TT3):TT:=fun σ H Q=>∃ G0 ρ G,Fr3 K H0 G0 ρ σ G H/\t ρ fun b=>∀ G' H',Gr G H G' H'->Q b H'
def zh2(K:Ybf)(H0:Hp)(t:TA3):TA:=fun σ H Q=>∃ G0 ρ G,Fr3 K H0 G0 ρ σ G H/\t ρ fun cs=>∀ vs G' H',Gr G H G' H'->Vws K H0 G' H' vs cs->Q vs H'
structure LD(K:Ybf)(H0 G0:Hp)(A:Ends3)(B:Ends):Prop where
 nx:∀ ρ σ G H,Fr3 K H0 G0 ρ σ G H->A.nx ρ->B.nx σ H
 rt:∀ f d v G H,Gr G0 H0 G H->Rf K H0 G f v d->A.rt f d->B.rt v H
 bk:∀ ρ σ G H,Fr3 K H0 G0 ρ σ G H->A.bk ρ->B.bk σ H
 ct:∀ ρ σ G H,Fr3 K H0 G0 ρ σ G H->A.ct ρ->B.ct σ H
 rm:∀ c v ρ σ G H,Fr3 K H0 G0 ρ σ G H->Vw K H0 G H v c->(∀ a,Has c v a->H0 a=none/\∀ (j:Nat) (c':Cl) (v':V),ρ[j]?=some (some c')->σ[j]?=some (some v')->¬Has c' v' a)->A.rm c ρ->B.rt v H
def zbX(K:Ybf)(H0:Hp)(t:TS3):TS:=fun B σ H=>∃ G0 A ρ G,Fr3 K H0 G0 ρ σ G H/\t A ρ/\LD K H0 G0 A B
structure PE3(X:Cx)(H0:Hp)(e:Expr)(t:TE3):Prop where
 mono:∀ ρ (Q Q':Cl->Prop),(∀ c,Q c->Q' c)->t ρ Q->t ρ Q'
 ok:PE X e (jg X.K H0 t)
structure PN3(X:Cx)(H0:Hp)(e:Expr)(t:TN3):Prop where
 mono:∀ ρ (Q Q':Bool->List D->Prop),(∀ f c,Q f c->Q' f c)->t ρ Q->t ρ Q'
 ok:PE X e (zcY X.K H0 t)
structure PT3(X:Cx)(H0:Hp)(e:Expr)(t:TT3):Prop where
 mono:∀ ρ (Q Q':Bool->Prop),(∀ c,Q c->Q' c)->t ρ Q->t ρ Q'
 ok:PT X e (jP X.K H0 t)
structure PW3(X:Cx)(H0:Hp)(e:Expr)(t:TT3):Prop where
 mono:∀ ρ (Q Q':Bool->Prop),(∀ c,Q c->Q' c)->t ρ Q->t ρ Q'
 ok:PW X e (jP X.K H0 t)
structure PA3(X:Cx)(H0:Hp)(es:List Expr)(t:TA3):Prop where
 mono:∀ ρ (Q Q':List Cl->Prop),(∀ c,Q c->Q' c)->t ρ Q->t ρ Q'
 ok:PA X es (zh2 X.K H0 t)
def PS3(X:Cx)(H0:Hp)(st:Stmt)(t:TS3):Prop:=PS X st (zbX X.K H0 t)
def PSs3(X:Cx)(H0:Hp)(st:List Stmt)(t:TS3):Prop:=PSs X st (zbX X.K H0 t)
theorem PE.imp{X:Cx}{e:Expr}{t t':TE}(h:PE X e t)(i:∀ σ H Q,t' σ H Q->t σ H Q):PE X e t':=fun pins s σ H Q I q=>h pins s σ H Q I (i _ _ _ q)
theorem PT.imp{X:Cx}{e:Expr}{t t':TT}(h:PT X e t)(i:∀ σ H Q,t' σ H Q->t σ H Q):PT X e t':=fun pins s σ H Q I q=>h pins s σ H Q I (i _ _ _ q)
theorem PW.imp{X:Cx}{e:Expr}{t t':TT}(h:PW X e t)(i:∀ σ H Q,t' σ H Q->t σ H Q):PW X e t':=fun wh pins s σ H Q I q=>h wh pins s σ H Q I (i _ _ _ q)
theorem PA.imp{X:Cx}{e:List Expr}{t t':TA}(h:PA X e t)(i:∀ σ H Q,t' σ H Q->t σ H Q):PA X e t':=fun pos pins s σ H Q I q=>h pos pins s σ H Q I (i _ _ _ q)
theorem PS.imp{X:Cx}{e:Stmt}{t t':TS}(h:PS X e t)(i:∀ B σ H,t' B σ H->t B σ H):PS X e t':=fun pins s σ H B I q=>h pins s σ H B I (i _ _ _ q)
theorem PSs.imp{X:Cx}{e:List Stmt}{t t':TS}(h:PSs X e t)(i:∀ B σ H,t' B σ H->t B σ H):PSs X e t':=fun pins s σ H B I q=>h pins s σ H B I (i _ _ _ q)
section
variable{X:Cx}{H0:Hp}{e a b c:Expr}{pos:Pos}
def atV(o:Option (Option Cl))(P:Cl->Prop):Prop:=match o with
 | some (some c)=>P c
 | _=>False
theorem zdV{o:Option (Option Cl)}{P:Cl->Prop}(h:atV o P):∃ c,o=some (some c)/\P c:=by
 cases o with
 | none=>exact False.elim h
 | some x => cases x with
  | none=>exact False.elim h
  | some c=>exact⟨c,rfl,h⟩
def asS(c:Cl)(P:Bool->D->Prop):Prop:=match c with
 | .sh f d=>P f d
 | _=>False
theorem jW{c:Cl}{P:Bool->D->Prop}(h:asS c P):∃ f d,c=.sh f d/\P f d:=by
 cases c with
 | sh f d=>exact⟨f,d,rfl,h⟩
 | _=>exact False.elim h
def asD(d:D)(P:Bool->Prop):Prop:=match d with
 | .bool k=>P k
 | _=>False
def asB(c:Cl)(P:Bool->Prop):Prop:=match c with
 | .sh true d=>asD d P
 | _=>False
theorem zcs{c:Cl}{P:Bool->Prop}(h:asB c P):∃ k,c=.sh true (.bool k)/\P k:=by
 cases c with
 | sh f d => cases f with
  | true => cases d with
   | bool k=>exact⟨k,rfl,h⟩
   | _=>exact False.elim h
  | false=>exact False.elim h
 | _=>exact False.elim h
def optP{α : Type}(o:Option α)(P:α->Prop):Prop:=match o with
 | some a=>P a
 | none=>False
theorem zas{α : Type}{o:Option α}{P:α->Prop}(h:optP o P):∃ a,o=some a/\P a:=by
 cases o with
 | none=>exact False.elim h
 | some a=>exact⟨a,rfl,h⟩
def asT(d:D)(P:List D->Prop):Prop:=match d with
 | .tuple ds=>P ds
 | _=>False
theorem zaI{d:D}{P:List D->Prop}(h:asT d P):∃ ds,d=.tuple ds/\P ds:=by
 cases d with
 | tuple ds=>exact⟨ds,rfl,h⟩
 | _=>exact False.elim h
def asLd(d:D)(P:List D->Prop):Prop:=match d with
 | .list ds=>P ds
 | _=>False
def asL(c:Cl)(P:Bool->List D->Prop):Prop:=match c with
 | .sh f d=>asLd d (P f)
 | _=>False
theorem zdI{c:Cl}{P:Bool->List D->Prop}(h:asL c P):∃ f ds,c=.sh f (.list ds)/\P f ds:=by
 cases c with
 | sh f d => cases d with
  | list ds=>exact⟨f,ds,rfl,h⟩
  | _=>exact False.elim h
 | _=>exact False.elim h
def atO(o:Option (Option Cl))(P:Bool->List D->Prop):Prop:=match o with
 | some (some (.ow f ds))=>P f ds
 | _=>False
theorem zdQ{o:Option (Option Cl)}{P:Bool->List D->Prop}(h:atO o P):∃ f ds,o=some (some (.ow f ds))/\P f ds:=by
 cases o with
 | none=>exact False.elim h
 | some x => cases x with
  | none=>exact False.elim h
  | some c => cases c with
   | ow f ds=>exact⟨f,ds,rfl,h⟩
   | _=>exact False.elim h
def ZF{α : Type}(l:List α)(P:α->List α->Prop):Prop:=match l with
 | d::r=>P d r
 | []=>False
theorem zcD{α : Type}{l:List α}{P:α->List α->Prop}(h:ZF l P):∃ d r,l=d::r/\P d r:=by
 cases l with
 | nil=>exact False.elim h
 | cons d r=>exact⟨d,r,rfl,h⟩
def nilP{α : Type}(l:List α)(P:Prop):Prop:=match l with
 | []=>P
 | _::_=>False
theorem zcl{α : Type}{l:List α}{P:Prop}(h:nilP l P):l=[]/\P:=by
 cases l with
 | nil=>exact⟨rfl,h⟩
 | cons d r=>exact False.elim h
def asId(d:D)(P:Int->Prop):Prop:=match d with
 | .int i=>P i
 | _=>False
def asI(c:Cl)(P:Int->Prop):Prop:=match c with
 | .sh true d=>asId d P
 | _=>False
theorem jf{c:Cl}{P:Int->Prop}(h:asI c P):∃ k,c=.sh true (.int k)/\P k:=by
 cases c with
 | sh f d => cases f with
  | true => cases d with
   | int k=>exact⟨k,rfl,h⟩
   | _=>exact False.elim h
  | false=>exact False.elim h
 | _=>exact False.elim h
def v3(i:Nat):TE3:=fun ρ Q=>atV ρ[i]? Q
def k3(d:D):TE3:=fun _ Q=>Q (.sh true d)
theorem n3(i:Nat){x:Str}(hN:X.N[i]?=some x:=by rfl)(hv:Vis X.env.scope x:=by first|exact Or.inl rfl|exact Or.inr (Or.inl rfl)|exact Or.inr (Or.inr rfl))(hd:(x==("__debug__" : Str))=false:=by decide)(hcd:(x==("__classdict__" : Str))=false:=by decide) :
 PE3 X H0 (.Name x pos) (v3 i):=by
 refine⟨fun ρ Q Q' h q=>?_,PE.imp (jn hN hv hd hcd) fun σ H Q=>el5 fun G0 ρ G F q=>?_⟩
 . obtain⟨c,e,q⟩:=zdV q
   show atV ρ[i]? Q'
   rw [e];exact h c q
 obtain⟨c,e,q⟩:=zdV q;obtain⟨v,h1,h2⟩:=F.slot i c e;exact⟨v,h1,q v G H (Gr.refl F.sub) h2⟩
theorem ZX{v:V}{d:D}(h:PE X e (tC v))(r:∀ G,RdV X.K G v d)(hs:zo d=true):PE3 X H0 e (k3 d):=
 ⟨fun ρ Q Q' h q=>h _ q,PE.imp h fun σ H Q=>el5 fun G0 ρ G F q=>q v G H (Gr.refl F.sub) (.sh (.sc hs (r G)))⟩
theorem i3{i j pos}:PE3 X H0 (.Constant (.int i) j pos) (k3 (.int i)):=ZX zhq (fun _=>.int i) rfl
theorem b3{i j pos}:PE3 X H0 (.Constant (.bool i) j pos) (k3 (.bool i)):=ZX zeo (fun _=>.bl i) rfl
theorem non3{j pos}:PE3 X H0 (.Constant .none j pos) (k3 .none):=ZX zeW (fun _=>.non) rfl
theorem s3{i j pos}:PE3 X H0 (.Constant (.str i) j pos) (k3 (.str i)):=ZX zf8 (fun _=>.str i) rfl
theorem g3{x:Str}{v:V}{u:Value}{d:D}(hg:Gl X x)(hm:X.mg x=some u)(r:RelV v u)(rd:∀ G,RdV X.K G v d)(hs:zo d=true)(hd:(x==("__debug__" : Str))=false:=by decide):PE3 X H0 (.Name x pos) (k3 d):=ZX (zaA hg hm r hd) rd hs
def nw3(t:TN3):TE3:=fun ρ Q=>t ρ fun f ds=>Q (.sh f (.list ds))
theorem new3{t:TN3}(h:PN3 X H0 e t):PE3 X H0 e (nw3 t):=
 ⟨fun ρ Q Q' hq q=>h.mono ρ _ _ (fun f ds=>hq _) q,PE.imp h.ok fun σ H Q=>el5 fun G0 ρ G F q=>⟨G0,ρ,G,F,h.mono ρ _ _ (fun f ds k l vs G' H' g hl r=>
  k (.ref l) (upd G' l (.lst vs)) (upd H' l (.lst vs)) (g.trans (Gr.put g.sub hl)) (.sh ⟨.lst (SqL.of zp) (rdvs_same (zS (g.sub.free hl) _) r.rd),fun hf=>.lst zp ((F.keep.trans g.h).free hl) (rdns_mono (zS (g.sub.free hl) _) (fun _ _ _ z=>z) (r.nw hf))⟩)) q⟩⟩
abbrev R3:=Cl->Cl->(Bool->D->Prop)->Prop
def Z0(K:Ybf)(H0:Hp)(r:R3):R2:=fun x y H Q=>∃ G a b,Sub G H/\Vw K H0 G H x a/\Vw K H0 G H y b/\r a b fun f d=>∀ v G' H',Gr G H G' H'->Rf K H0 G' f v d->Q v H'
structure OpOk(X:Cx)(f:Value->Value->Sem Value)(r:R3):Prop where
 mono:∀ a b (Q Q':Bool->D->Prop),(∀ f c,Q f c->Q' f c)->r a b Q->r a b Q'
 ok:∀ H0,OpR X f (Z0 X.K H0 r)
theorem OpR.imp{f:Value->Value->Sem Value}{r r':R2}(h:OpR X f r)(i:∀ x y H Q,r' x y H Q->r x y H Q):OpR X f r':=fun pins s σ H x y v u Q I rx ry q=>h pins s σ H x y v u Q I rx ry (i _ _ _ _ q)
def o3(r:R3)(ta tb:TE3):TE3:=fun ρ Q=>ta ρ fun a=>tb ρ fun b=>r a b fun f d=>Q (.sh f d)
theorem zaq{r:R3}{ta tb:TE3}(hr:∀ a b (Q Q':Bool->D->Prop),(∀ f c,Q f c->Q' f c)->r a b Q->r a b Q')(ha:∀ ρ (Q Q':Cl->Prop),(∀ c,Q c->Q' c)->ta ρ Q->ta ρ Q')(hb:∀ ρ (Q Q':Cl->Prop),(∀ c,Q c->Q' c)->tb ρ Q->tb ρ Q') :
 ∀ ρ (Q Q':Cl->Prop),(∀ c,Q c->Q' c)->o3 r ta tb ρ Q->o3 r ta tb ρ Q':=fun ρ Q Q' h q=>ha ρ _ _ (fun a=>hb ρ _ _ fun b=>hr a b _ _ fun f d=>h _) q
theorem za1{r:R3}{ta tb:TE3}(hr:∀ a b (Q Q':Bool->D->Prop),(∀ f c,Q f c->Q' f c)->r a b Q->r a b Q')(ha:∀ ρ (Q Q':Cl->Prop),(∀ c,Q c->Q' c)->ta ρ Q->ta ρ Q')(hb:∀ ρ (Q Q':Cl->Prop),(∀ c,Q c->Q' c)->tb ρ Q->tb ρ Q'){K:Ybf} :
 ∀ σ H Q,jg K H0 (o3 r ta tb) σ H Q->tOp (Z0 K H0 r) (jg K H0 ta) (jg K H0 tb) σ H Q:=fun σ H Q=>el5 fun G0 ρ G F q=>
 ⟨G0,ρ,G,F,ha ρ _ _ (fun a qa v1 G1 H1 g1 w1=>⟨G0,ρ,G1,F.gr g1,hb ρ _ _ (fun b qb v2 G2 H2 g2 w2=>⟨G2,a,b,g2.sub,w1.gr g2,w2,hr a b _ _ (fun f d k v G' H' g r=>k v G' H' ((g1.trans g2).trans g) (.sh r)) qb⟩) qa⟩) q⟩
theorem op3{op:Operator}{r:R3}{ta tb:TE3}(ho:OpOk X (binaryOp op) r)(ha:PE3 X H0 a ta)(hb:PE3 X H0 b tb):PE3 X H0 (.BinOp a op b pos) (o3 r ta tb):=
 ⟨zaq ho.mono ha.mono hb.mono,PE.imp (zbw (ho.ok H0) ha.ok hb.ok) (za1 ho.mono ha.mono hb.mono)⟩
theorem cmp3{op:CmpOp}{r:R3}{ta tb:TE3}(ho:OpOk X (compareOp op) r)(ha:PE3 X H0 a ta)(hb:PE3 X H0 b tb)(hm:behindInMarks op b=false):PE3 X H0 (.Compare a [op] [b] pos) (o3 r ta tb):=
 ⟨zaq ho.mono ha.mono hb.mono,PE.imp (zjj (ho.ok H0) ha.ok hb.ok hm) (za1 ho.mono ha.mono hb.mono)⟩
def tt3(t:TE3):TT3:=fun ρ Q=>t ρ fun c=>asB c Q
theorem zbY{K:Ybf}{H0 G H:Hp}{v:V}{f k:Bool}(w:Vw K H0 G H v (.sh f (.bool k))):v=.bl k:=by
 cases w with
 | sh r=>cases r.rd;rfl
theorem zbu{t:TE3}{K:Ybf}(ht:∀ ρ (Q Q':Cl->Prop),(∀ c,Q c->Q' c)->t ρ Q->t ρ Q'):∀ σ H Q,jP K H0 (tt3 t) σ H Q->ZU (jg K H0 t) σ H Q:=fun σ H Q=>el5 fun G0 ρ G F q=>
 ⟨G0,ρ,G,F,ht ρ _ _ (fun c q v G' H' g w=>by obtain⟨k,e,q⟩:=zcs q;subst e;exact⟨k,zbY w,q G' H' g⟩) q⟩
theorem zaQ{t:TE3}(ht:∀ ρ (Q Q':Cl->Prop),(∀ c,Q c->Q' c)->t ρ Q->t ρ Q'):∀ ρ (Q Q':Bool->Prop),(∀ c,Q c->Q' c)->tt3 t ρ Q->tt3 t ρ Q':=fun ρ Q Q' h q=>ht ρ _ _ (fun c q=>by obtain⟨k,e,q⟩:=zcs q;subst e;exact h k q) q
theorem zcd{t t':TE}(h:∀ σ H Q,t' σ H Q->t σ H Q):∀ σ H Q,ZU t' σ H Q->ZU t σ H Q:=fun σ H Q q=>h _ _ _ q
theorem zk{op:CmpOp}{r:R3}{ta tb:TE3}(ho:OpOk X (compareOp op) r)(ha:PE3 X H0 a ta)(hb:PE3 X H0 b tb)(hm:behindInMarks op b=false):PT3 X H0 (.Compare a [op] [b] pos) (tt3 (o3 r ta tb)):=
 ⟨zaQ (zaq ho.mono ha.mono hb.mono),PT.imp (zj1 (ho.ok H0) ha.ok hb.ok hm) fun σ H Q q=>zcd (za1 ho.mono ha.mono hb.mono) σ H Q (zbu (zaq ho.mono ha.mono hb.mono) σ H Q q)⟩
def ch3(r r':R3)(ta tb tc:TE3):TE3:=fun ρ Q=>ta ρ fun x=>tb ρ fun y=>r x y fun _ z=>∃ k,z=.bool k/\if k=true then tc ρ fun w=>r' y w fun f d=>Q (.sh f d) else Q (.sh true (.bool false))
theorem zcU{K:Ybf}{G:Hp}{v:V}{k:Bool}(w:RdV K G v (.bool k)):v=.bl k:=by cases w;rfl
theorem zcW{r r':R3}{ta tb tc:TE3}(hr:∀ a b (Q Q':Bool->D->Prop),(∀ f c,Q f c->Q' f c)->r a b Q->r a b Q')(hr':∀ a b (Q Q':Bool->D->Prop),(∀ f c,Q f c->Q' f c)->r' a b Q->r' a b Q')(ha:∀ ρ (Q Q':Cl->Prop),(∀ c,Q c->Q' c)->ta ρ Q->ta ρ Q')(hb:∀ ρ (Q Q':Cl->Prop),(∀ c,Q c->Q' c)->tb ρ Q->tb ρ Q')
 (hc:∀ ρ (Q Q':Cl->Prop),(∀ c,Q c->Q' c)->tc ρ Q->tc ρ Q'):∀ ρ (Q Q':Cl->Prop),(∀ c,Q c->Q' c)->ch3 r r' ta tb tc ρ Q->ch3 r r' ta tb tc ρ Q':=fun ρ Q Q' h q=>ha ρ _ _ (fun x=>hb ρ _ _ fun y=>hr x y _ _ fun _ z ⟨k,e,q⟩=>⟨k,e,by
 cases k with
 | true=>exact hc ρ _ _ (fun w=>hr' y w _ _ fun f d=>h _) q
 | false=>exact h _ q⟩) q
theorem zio{r r':R3}{ta tb tc:TE3}(hr:∀ a b (Q Q':Bool->D->Prop),(∀ f c,Q f c->Q' f c)->r a b Q->r a b Q')(hr':∀ a b (Q Q':Bool->D->Prop),(∀ f c,Q f c->Q' f c)->r' a b Q->r' a b Q')(ha:∀ ρ (Q Q':Cl->Prop),(∀ c,Q c->Q' c)->ta ρ Q->ta ρ Q')(hb:∀ ρ (Q Q':Cl->Prop),(∀ c,Q c->Q' c)->tb ρ Q->tb ρ Q')
 (hc:∀ ρ (Q Q':Cl->Prop),(∀ c,Q c->Q' c)->tc ρ Q->tc ρ Q') {K:Ybf}:∀ σ H Q,jg K H0 (ch3 r r' ta tb tc) σ H Q->zcK (Z0 K H0 r) (Z0 K H0 r') (jg K H0 ta) (jg K H0 tb) (jg K H0 tc) σ H Q:=fun σ H Q=>el5 fun G0 ρ G F q=>
 ⟨G0,ρ,G,F,ha ρ _ _ (fun x qx v1 G1 H1 g1 w1=>⟨G0,ρ,G1,F.gr g1,hb ρ _ _ (fun y qy v2 G2 H2 g2 w2=>⟨G2,x,y,g2.sub,w1.gr g2,w2,hr x y _ _ (fun _ z hyp v3 G3 H3 g3 r3=>by
  obtain⟨k,e,q⟩:=hyp;subst e;refine⟨k,zcU r3.rd,?_⟩;cases k with
  | false=>exact q _ G3 H3 ((g1.trans g2).trans g3) (.sh (.sc rfl (.bl false)))
  | true=>exact⟨G0,ρ,G3,F.gr ((g1.trans g2).trans g3),hc ρ _ _ (fun w qw v4 G4 H4 g4 w4=>⟨G4,y,w,g4.sub,(w2.gr g3).gr g4,w4,hr' y w _ _ (fun f d k v G' H' g r=>k v G' H' ((((g1.trans g2).trans g3).trans g4).trans g) (.sh r)) qw⟩) q⟩) qy⟩) qx⟩) q⟩
theorem zaG{op op':CmpOp}{r r':R3}{ta tb tc:TE3}(ho:OpOk X (compareOp op) r)(ho':OpOk X (compareOp op') r')(ha:PE3 X H0 a ta)(hb:PE3 X H0 b tb)(hc:PE3 X H0 c tc)(hm:lastMarks [op,op'] [b,c]=false:=by with_unfolding_all rfl) :
 PT3 X H0 (.Compare a [op,op'] [b,c] pos) (tt3 (ch3 r r' ta tb tc)):=
 ⟨zaQ (zcW ho.mono ho'.mono ha.mono hb.mono hc.mono),PT.imp (zgy (ho.ok H0) (ho'.ok H0) ha.ok hb.ok hc.ok hm) fun σ H Q q=>zcd (zio ho.mono ho'.mono ha.mono hb.mono hc.mono) σ H Q (zbu (zcW ho.mono ho'.mono ha.mono hb.mono hc.mono) σ H Q q)⟩
theorem val3{t:TE3}(h:PE3 X H0 e t)(he:∀ whole,isTrue e X.env whole=(do let v <-whole;standAt e.pos;holding [v] (truthy v)):=by intro _;rfl):PT3 X H0 e (tt3 t):=
 ⟨zaQ h.mono,PT.imp (zhS h.ok he) (zbu h.mono)⟩
def and3(t u:TT3):TT3:=fun ρ Q=>t ρ fun k=>if k=true then u ρ Q else Q false
def or3(t u:TT3):TT3:=fun ρ Q=>t ρ fun k=>if k=true then Q true else u ρ Q
def not3(t:TT3):TT3:=fun ρ Q=>t ρ fun k=>Q (!k)
theorem zaY{t:TT3}(h:PT3 X H0 a t):PT3 X H0 (.UnaryOp .Not a pos) (not3 t):=
 ⟨fun ρ Q Q' hq q=>h.mono ρ _ _ (fun k=>hq _) q,PT.imp (zeQ h.ok) fun σ H Q=>el5 fun G0 ρ G F q=>⟨G0,ρ,G,F,q⟩⟩
theorem zbA{t:TT3}(h:PT3 X H0 a t):PW3 X H0 (.BoolOp .And [a] pos) t:=⟨h.mono,zhe h.ok⟩
theorem zaK{t:TT3}(h:PT3 X H0 a t):PW3 X H0 (.BoolOp .Or [a] pos) t:=⟨h.mono,zik h.ok⟩
theorem zbe{rest:List Expr}{t u:TT3}(h:PT3 X H0 a t)(h':PW3 X H0 (.BoolOp .And (b::rest) pos) u):PW3 X H0 (.BoolOp .And (a::b::rest) pos) (and3 t u):=
 ⟨fun ρ Q Q' hq q=>h.mono ρ _ _ (fun k=>by cases k;exact hq _;exact h'.mono ρ _ _ hq) q,PW.imp (zdW h.ok h'.ok) fun σ H Q=>el5 fun G0 ρ G F q=>⟨G0,ρ,G,F,h.mono ρ _ _ (fun k qk G1 H1 g1=>by
  cases k with
  | false=>exact qk G1 H1 g1
  | true=>exact⟨G0,ρ,G1,F.gr g1,h'.mono ρ _ _ (fun k q G2 H2 g2=>q G2 H2 (g1.trans g2)) qk⟩) q⟩⟩
theorem zax{rest:List Expr}{t u:TT3}(h:PT3 X H0 a t)(h':PW3 X H0 (.BoolOp .Or (b::rest) pos) u):PW3 X H0 (.BoolOp .Or (a::b::rest) pos) (or3 t u):=
 ⟨fun ρ Q Q' hq q=>h.mono ρ _ _ (fun k=>by cases k;exact h'.mono ρ _ _ hq;exact hq _) q,PW.imp (zfB h.ok h'.ok) fun σ H Q=>el5 fun G0 ρ G F q=>⟨G0,ρ,G,F,h.mono ρ _ _ (fun k qk G1 H1 g1=>by
  cases k with
  | true=>exact qk G1 H1 g1
  | false=>exact⟨G0,ρ,G1,F.gr g1,h'.mono ρ _ _ (fun k q G2 H2 g2=>q G2 H2 (g1.trans g2)) qk⟩) q⟩⟩
theorem pw3{t:TT3}(h:PW3 X H0 e t):PT3 X H0 e t:=⟨h.mono,h.ok.pt⟩
def Zs(ta tb:TE3):TE3:=fun ρ Q=>ta ρ fun c=>∃ k,c=.sh true (.bool k)/\if k=true then tb ρ Q else Q (.sh true (.bool false))
def orV3(ta tb:TE3):TE3:=fun ρ Q=>ta ρ fun c=>∃ k,c=.sh true (.bool k)/\if k=true then Q (.sh true (.bool true)) else tb ρ Q
theorem one3{op}{t:TE3}(h:PE3 X H0 a t):PE3 X H0 (.BoolOp op [a] pos) t:=⟨h.mono,zgO h.ok⟩
theorem zff{rest:List Expr}{ta tb:TE3}(h:PE3 X H0 a ta)(h':PE3 X H0 (.BoolOp .And (b::rest) pos) tb):PE3 X H0 (.BoolOp .And (a::b::rest) pos) (Zs ta tb):=
 ⟨fun ρ Q Q' hq q=>h.mono ρ _ _ (fun c ⟨k,e,q⟩=>⟨k,e,by cases k;exact hq _ q;exact h'.mono ρ _ _ hq q⟩) q,PE.imp (zjy h.ok h'.ok) fun σ H Q=>el5 fun G0 ρ G F q=>⟨G0,ρ,G,F,h.mono ρ _ _ (fun c hyp v G1 H1 g1 w=>by
  obtain⟨k,e,qk⟩:=hyp;subst e;refine⟨k,zbY w,?_⟩;cases k with
  | false=>exact qk _ G1 H1 g1 (.sh (.sc rfl (.bl false)))
  | true=>exact⟨G0,ρ,G1,F.gr g1,h'.mono ρ _ _ (fun k q v G2 H2 g2=>q v G2 H2 (g1.trans g2)) qk⟩) q⟩⟩
theorem zev{rest:List Expr}{ta tb:TE3}(h:PE3 X H0 a ta)(h':PE3 X H0 (.BoolOp .Or (b::rest) pos) tb):PE3 X H0 (.BoolOp .Or (a::b::rest) pos) (orV3 ta tb):=
 ⟨fun ρ Q Q' hq q=>h.mono ρ _ _ (fun c ⟨k,e,q⟩=>⟨k,e,by cases k;exact h'.mono ρ _ _ hq q;exact hq _ q⟩) q,PE.imp (zjZ h.ok h'.ok) fun σ H Q=>el5 fun G0 ρ G F q=>⟨G0,ρ,G,F,h.mono ρ _ _ (fun c hyp v G1 H1 g1 w=>by
  obtain⟨k,e,qk⟩:=hyp;subst e;refine⟨k,zbY w,?_⟩;cases k with
  | true=>exact qk _ G1 H1 g1 (.sh (.sc rfl (.bl true)))
  | false=>exact⟨G0,ρ,G1,F.gr g1,h'.mono ρ _ _ (fun k q v G2 H2 g2=>q v G2 H2 (g1.trans g2)) qk⟩) q⟩⟩
def nil3:TA3:=fun _ Q=>Q []
def j0(ta:TE3)(tr:TA3):TA3:=fun ρ Q=>ta ρ fun c=>tr ρ fun cs=>Q (c::cs)
theorem zb:PA3 X H0 [] nil3:=⟨fun ρ Q Q' h q=>h _ q,PA.imp jt fun σ H Q=>el5 fun G0 ρ G F q=>q [] G H (Gr.refl F.sub) .nil⟩
theorem za{es:List Expr}{ta:TE3}{tr:TA3}(ha:PE3 X H0 e ta)(hr:PA3 X H0 es tr)(hs:starEach (e::es) X.env=(false,eval e X.env)::starEach es X.env:=by rfl):PA3 X H0 (e::es) (j0 ta tr):=
 ⟨fun ρ Q Q' h q=>ha.mono ρ _ _ (fun c=>hr.mono ρ _ _ fun cs=>h _) q,PA.imp (z9 ha.ok hr.ok hs) fun σ H Q=>el5 fun G0 ρ G F q=>
  ⟨G0,ρ,G,F,ha.mono ρ _ _ (fun c qc v G1 H1 g1 w1=>⟨G0,ρ,G1,F.gr g1,hr.mono ρ _ _ (fun cs k vs G2 H2 g2 w2=>k (v::vs) G2 H2 (g1.trans g2) (.cons (w1.gr g2) w2)) qc⟩) q⟩⟩
def tup3(t:TA3):TE3:=fun ρ Q=>t ρ fun cs=>optP (shs cs) fun p=>p.2.length<=sizeLine/\Q (.sh p.1 (.tuple p.2))
theorem zF{es:List Expr}{t:TA3}{x1}(h:PA3 X H0 es t):PE3 X H0 (.Tuple es x1 pos) (tup3 t):=
 ⟨fun ρ Q Q' hq q=>h.mono ρ _ _ (fun cs q=>by obtain⟨ds,e,z,q⟩:=zas q;rw [e];exact⟨z,hq _ q⟩) q,PE.imp (zaN h.ok) fun σ H Q=>el5 fun G0 ρ G F q=>⟨G0,ρ,G,F,h.mono ρ _ _ (fun cs hyp vs G1 H1 g1 w=>by
  obtain⟨ds,e,z,k⟩:=zas hyp;have r:=w.shs e;refine⟨by rw [r.length];exact z,fun p hp=>k (.ref p) (upd G1 p (.tup vs)) (upd H1 p (.tup vs)) (g1.trans (Gr.put g1.sub hp)) (.sh ⟨.tup (SqT.of zp) (rdvs_same (zS (g1.sub.free hp) _) r.rd),fun hf=>.tup zp (rdns_mono (zS (g1.sub.free hp) _) (fun _ _ _ z=>z) (r.nw hf))⟩)⟩) q⟩⟩
def lst3(t:TA3):TN3:=fun ρ Q=>t ρ fun cs=>optP (shs cs) fun p=>p.2.length<=sizeLine/\Q p.1 p.2
theorem zA{es:List Expr}{t:TA3}(h:PA3 X H0 es t):PN3 X H0 (.List es pos) (lst3 t):=
 ⟨fun ρ Q Q' hq q=>h.mono ρ _ _ (fun cs q=>by obtain⟨ds,e,z,q⟩:=zas q;rw [e];exact⟨z,hq _ _ q⟩) q,PE.imp (zcJ h.ok) fun σ H Q=>el5 fun G0 ρ G F q=>⟨G0,ρ,G,F,h.mono ρ _ _ (fun cs hyp vs G1 H1 g1 w=>by
  obtain⟨ds,e,z,k⟩:=zas hyp;have r:=w.shs e;exact⟨by rw [r.length];exact z,fun p hp=>k p vs G1 H1 g1 hp r⟩) q⟩⟩
abbrev C3:=List Cl->(Bool->D->Prop)->Prop
def zeV(K:Ybf)(H0:Hp)(r:C3):List V->Hp->VK->Prop:=fun xs H Q=>∃ G cs,Sub G H/\Vws K H0 G H xs cs/\r cs fun f d=>∀ v G' H',Gr G H G' H'->Rf K H0 G' f v d->Q v H'
structure CallOk(X:Cx)(f:Value)(r:C3):Prop where
 mono:∀ cs (Q Q':Bool->D->Prop),(∀ f c,Q f c->Q' f c)->r cs Q->r cs Q'
 ok:∀ H0,zK X f (zeV X.K H0 r)
theorem zK.imp{f:Value}{r r':List V->Hp->VK->Prop}(h:zK X f r)(i:∀ xs H Q,r' xs H Q->r xs H Q):zK X f r':=fun pins s σ H xs us Q I rv q=>h pins s σ H xs us Q I rv (i _ _ _ q)
def cb3(r:C3)(t:TA3):TE3:=fun ρ Q=>t ρ fun cs=>r cs fun f d=>Q (.sh f d)
variable{x:Str}{p:Pos}{es:List Expr}{id T:String}
theorem zB{r:C3}{t:TA3}(hc:CallOk X (.builtin id) r)(hg:Gl X x)(hm:X.mg x=none)(hv:bootBuiltins x=some (.builtin id))(ha:PA3 X H0 (e::es) t)(hn:x≠"__name__":=by decide)(hdb:(x==("__debug__" : Str))=false:=by decide)
 (he:starEach (e::es) X.env=(false,eval e X.env)::starEach es X.env:=by rfl) (hpl:(backTo pos (starEach es X.env)).any (·.1)=false:=by rfl):PE3 X H0 (.Call (.Name x p) (e::es) [] pos) (cb3 r t):=
 ⟨fun ρ Q Q' h q=>ha.mono ρ _ _ (fun cs=>hc.mono cs _ _ fun f d=>h _) q,PE.imp (ZM (hc.ok H0) hg hm hv ha.ok hn hdb he hpl) fun σ H Q=>el5 fun G0 ρ G F q=>⟨G0,ρ,G,F,ha.mono ρ _ _ (fun cs qc vs G1 H1 g1 w=>⟨G1,cs,g1.sub,w,hc.mono cs _ _ (fun f d k v G' H' g r=>k v G' H' (g1.trans g) (.sh r)) qc⟩) q⟩⟩
abbrev Sp3:=List D->(Bool->D->Prop)->(Addr->Prop)->Prop
def spL(K:Ybf)(sp:Sp3):Sp:=fun vs H Q E=>∃ G ds,Sub G H/\RdVs K G vs ds/\sp ds (fun f d=>∀ v G' H',Gr G H G' H'->Rf K H G' f v d->Q v H') fun C=>∀ H',zu H H'->E (.ref C) none H'
theorem ziQ{K:Ybf}{G G':Hp}{v:V}{d:D}(h:zo d=true)(r:RdV K G v d):RdV K G' v d:=by
 cases r with
 | non=>exact .non
 | bl b=>exact .bl b
 | int i=>exact .int i
 | str s=>exact .str s
 | lst _ _=>cases h
 | tup _ _=>cases h
structure Df3(P:Program)(w:World)(K:Ybf)(mg:Str->Option Value)(base:Heap)(k:Nat)(x:Str)(ps:List Str)(sp:Sp3):Prop where
 mono:∀ ds (Q Q':Bool->D->Prop) (E E':Addr->Prop),(∀ f d,Q f d->Q' f d)->(∀ d,E d->E' d)->sp ds Q E->sp ds Q' E'
 ok:Df P w K mg base k x ps (spL K sp)
def zar(sp:Sp3)(E:Addr->Prop)(t:TA3):TE3:=fun ρ Q=>t ρ fun cs=>cs.all Cl.dat=true/\sp (cs.map Cl.d) (fun f d=>((shs cs).isSome=true\/zo d=true)/\Q (.sh f d)) E
theorem zb8:∀ {cs:List Cl} {p:Bool×List D},shs cs=some p->cs.map Cl.d=p.2
 | [],_,e=>by cases e;rfl
 | .sh _ d :: r, ds, e => by
  unfold shs at e;cases q:shs r with
  | none=>rw [q] at e;cases e
  | some es=>rw [q] at e;cases e;rw [Ya1,zb8 q];rfl
 | .ow _ _::r,_,e=>by cases e
 | .tr _ _::r,_,e=>by cases e
 | .dt _::r,_,e=>by cases e
 | .dk _::r,_,e=>by cases e
 | .fd _::r,_,e=>by cases e
 | .tk _::r,_,e=>by cases e
 | .dm _ _::r,_,e=>by cases e
 | .ex _::r,_,e=>by cases e
theorem df3{k:Nat}{ps:List Str}{sp:Sp3}{E:XK}{E3:Addr->Prop}{t:TA3}(hE:∀ C H',E3 C->zu H0 H'->E (.ref C) none H')(Gd:Df3 X.prog X.w X.K X.mg X.base k x ps sp)(hr:Room k X.A)(hg:Gl X x)(hx:Passes (CXR X.prog X.w) X E)(ha:PA3 X H0 (e::es) t)(hdb:(x==("__debug__" : Str))=false:=by decide)
 (he:starEach (e::es) X.env=(false,eval e X.env)::starEach es X.env:=by rfl) (hpl:(backTo pos (starEach es X.env)).any (·.1)=false:=by rfl):PE3 X H0 (.Call (.Name x p) (e::es) [] pos) (zar sp E3 t):=by
 refine⟨fun ρ Q Q' h q=>ha.mono ρ _ _ (fun cs ⟨hd,q⟩=>⟨hd,Gd.mono _ _ _ _ _ (fun f d ⟨a,b⟩=>⟨a,h _ b⟩) (fun _ z=>z) q⟩) q,PE.imp (zaw Gd.ok hr hg hx ha.ok hdb he hpl) fun σ H Q=>el5 fun G0 ρ G F q=>⟨G0,ρ,G,F,ha.mono ρ _ _ (fun cs ⟨hd,qc⟩ vs G1 H1 g1 w=>?_) q⟩⟩
 show spL X.K sp (vs++[]) H1 Q E
 rw [Yao];have kE:∀ C,E3 C->∀ H',zu H1 H'->E (.ref C) none H':=fun C c H' s=>hE C H' c ((F.gr g1).keep.trans s)
 cases hs:shs cs with
 | some ds=>
  refine⟨G1,cs.map Cl.d,g1.sub,by rw [zb8 hs];exact(w.shs hs).rd,Gd.mono _ _ _ _ _ (fun f d ⟨_,k⟩ v G' H' g r=>k v G' H' (g1.trans g) (.sh ⟨r.rd,fun hf=>jx (Same.refl _) (fun _ _ _ z=>(F.gr g1).keep.free z) (r.nw hf)⟩)) kE qc⟩
 | none=>
  refine⟨cln H1,cs.map Cl.d,zbR H1,rdvs_cln (w.rds g1.sub hd),Gd.mono _ _ _ _ _ (fun f d ⟨s,k⟩ v G' H' g r=>?_) kE qc⟩
  have sc:zo d=true:=s.resolve_left (by rw [hs];simp)
  exact k v G1 H' (g1.trans ⟨Same.refl _,g.h,g1.sub.trans g.h,fun _ _ e=>.inl e⟩) (.sh (.sc sc (ziQ sc r.rd)))
end
variable[LamW]
theorem zgA{K:Ybf}{G:Hp}{vs:List V}{d:D}{ds:List D}(r:RdVs K G vs (d::ds)):∃ v us,vs=v::us/\RdV K G v d/\RdVs K G us ds:=by
 cases r with
 | cons a b=>exact⟨_,_,rfl,a,b⟩
theorem zg8{K:Ybf}{G:Hp}{v:V}{ds:List D}(r:RdV K G v (.tuple ds)):∃ a xs,v=.ref a/\SqT K G a xs/\RdVs K G xs ds:=by
 cases r with
 | tup a b=>exact⟨_,_,rfl,a,b⟩
theorem ziB{K:Ybf}{G:Hp}{v:V}{ds:List D}(r:RdV K G v (.list ds)):∃ a xs,v=.ref a/\SqL K G a xs/\RdVs K G xs ds:=by
 cases r with
 | lst a b=>exact⟨_,_,rfl,a,b⟩
theorem zn{K:Ybf}{H0 G H:Hp}{v:V}{f:Bool}{d:D}(w:Vw K H0 G H v (.sh f d)):Rf K H0 G f v d:=by
 cases w with
 | sh r=>exact r
theorem zke{K:Ybf}{H0 G:Hp}{f:Bool}{vs:List V}{d:D}{ds:List D}(r:Rfs K H0 G f vs (d::ds)):∃ v us,vs=v::us/\Rf K H0 G f v d/\Rfs K H0 G f us ds:=by
 obtain⟨v,us,rfl,a,b⟩:=zgA r.rd;exact⟨v,us,rfl,⟨a,fun h=>by cases r.nw h with|cons x y=>exact x⟩,⟨b,fun h=>by cases r.nw h with|cons x y=>exact y⟩⟩
theorem zaz{K:Ybf}{H0 G:Hp}{f:Bool}{v:V}{ds:List D}(r:Rf K H0 G f v (.tuple ds)):∃ a xs,v=.ref a/\SqT K G a xs/\Rfs K H0 G f xs ds:=by
 cases f with
 | false=>
  obtain⟨a,xs,rfl,h,rs⟩:=zg8 r.rd;exact⟨a,xs,rfl,h,rs,fun h=>by cases h⟩
 | true=>
  have n:=r.nw rfl;cases n with
  | tup h rs=>exact⟨_,_,rfl,SqT.of h,rdns_rd rs,fun _=>rs⟩
theorem Jl{K:Ybf}{H0 G:Hp}{f:Bool}{v:V}{ds:List D}(r:Rf K H0 G f v (.list ds)):∃ a xs,v=.ref a/\SqL K G a xs/\Rfs K H0 G f xs ds:=by
 cases f with
 | false=>
  obtain⟨a,xs,rfl,h,rs⟩:=ziB r.rd;exact⟨a,xs,rfl,h,rs,fun h=>by cases h⟩
 | true=>
  have n:=r.nw rfl;cases n with
  | lst h _ rs=>exact⟨_,_,rfl,SqL.of h,rdns_rd rs,fun _=>rs⟩
section
variable{X:Cx}{H0:Hp}{e a b c:Expr}{pos:Pos}{st:Stmt}{rest:List Stmt}
def next3:TS3:=fun A ρ=>A.nx ρ
def seq3(t u:TS3):TS3:=fun A ρ=>t { A with nx:=u A } ρ
theorem zj:PSs3 X H0 [] next3:=PSs.imp zhf fun B σ H=>el7 fun G0 A ρ G F q L=>L.nx ρ σ G H F q
theorem zc{t u:TS3}(h1:PS3 X H0 st t)(h2:PSs3 X H0 rest u):PSs3 X H0 (st::rest) (seq3 t u):=PSs.imp (zfe h1 h2) fun B σ H=>el7 fun G0 A ρ G F q L=>
 ⟨G0,{ A with nx:=u A },ρ,G,F,q,⟨fun ρ' σ' G' H' F' q'=>⟨G0,A,ρ',G',F',q',L⟩,L.rt,L.bk,L.ct,L.rm⟩⟩
theorem zd{t:TS3}(h1:PS3 X H0 st t):PSs3 X H0 [st] t:=zjk h1
def zaf(te:TE3):TS3:=fun A ρ=>te ρ fun _=>A.nx ρ
theorem zaa{te:TE3}(he:PE3 X H0 e te)(hs:swapsWith e none pos.line X.env=pure false:=by rfl):PS3 X H0 (.Expr e pos) (zaf te):=PS.imp (zam he.ok hs) fun B σ H=>el7 fun G0 A ρ G F q L=>
 ⟨G0,ρ,G,F,he.mono ρ _ _ (fun c q v G' H' g w=>L.nx ρ σ G' H' (F.gr g) q) q⟩
def ret3(te:TE3):TS3:=fun A ρ=>te ρ fun c=>asS c A.rt
theorem zr{te:TE3}(he:PE3 X H0 e te):PS3 X H0 (.Return (some e) pos) (ret3 te):=PS.imp (zbT he.ok) fun B σ H=>el7 fun G0 A ρ G F q L=>
 ⟨G0,ρ,G,F,he.mono ρ _ _ (fun c hyp v G' H' g w=>by
  obtain⟨f,d,hc,q⟩:=jW hyp;subst hc;exact L.rt f d v G' H' (F.gr g).gr0 (zn w) q) q⟩
def ifS3(t:TT3)(u v:TS3):TS3:=fun A ρ=>t ρ fun k=>if k=true then u A ρ else v A ρ
theorem s_if{xs ys:List Stmt}{t:TT3}{u v:TS3}(hc:PT3 X H0 c t)(ha:PSs3 X H0 xs u)(hb:PSs3 X H0 ys v):PS3 X H0 (.If c xs ys pos) (ifS3 t u v):=PS.imp (ziY hc.ok ha hb) fun B σ H=>el7 fun G0 A ρ G F q L=>
 ⟨G0,ρ,G,F,hc.mono ρ _ _ (fun k q G' H' g=>by
  cases k with
  | true=>exact⟨G0,A,ρ,G',F.gr g,q,L⟩
  | false=>exact⟨G0,A,ρ,G',F.gr g,q,L⟩) q⟩
def set3(i:Nat)(te:TE3):TS3:=fun A ρ=>te ρ fun c=>asS c fun f d=>A.nx (ρ.set i (some (.sh f d)))
theorem zf{i:Nat}{x:Str}{te:TE3}{pos':Pos}(hN:X.N.Nodup)(hi:X.N[i]?=some x)(hx:Loc X.env.scope x)(he:PE3 X H0 e te)(hs:swapsWith e (some (.Name x pos')) pos.line X.env=pure false:=by rfl)
 (hf:X.fn x=true\/X.env.scope.names.lookup x=some .local:=by first|exact .inl rfl|exact .inr rfl|assumption):PS3 X H0 (.Assign [.Name x pos'] e pos) (set3 i te):=PS.imp (ZQ hN hi hx he.ok hs hf) fun B σ H=>el7 fun G0 A ρ G F q L=>
 ⟨G0,ρ,G,F,he.mono ρ _ _ (fun c hyp v G' H' g w=>by
  obtain⟨f,d,hc,q⟩:=jW hyp;subst hc;exact L.nx _ _ G' H' ((F.gr g).set (zn w)) q) q⟩
def own3(i:Nat)(tn:TN3):TS3:=fun A ρ=>tn ρ fun f ds=>A.nx (ρ.set i (some (.ow f ds)))
theorem jk{i:Nat}{x:Str}{tn:TN3}{pos':Pos}(hN:X.N.Nodup)(hi:X.N[i]?=some x)(hx:Loc X.env.scope x)(he:PN3 X H0 e tn)(hs:swapsWith e (some (.Name x pos')) pos.line X.env=pure false:=by rfl)
 (hf:X.fn x=true\/X.env.scope.names.lookup x=some .local:=by first|exact .inl rfl|exact .inr rfl|assumption):PS3 X H0 (.Assign [.Name x pos'] e pos) (own3 i tn):=PS.imp (ZQ hN hi hx he.ok hs hf) fun B σ H=>el7 fun G0 A ρ G F q L=>
 ⟨G0,ρ,G,F,he.mono ρ _ _ (fun f ds q l vs G' H' g hl r=>L.nx _ _ G' _ ((F.gr g).own r hl) q) q⟩
abbrev TG3:=Bool->D->Env3->(Env3->Prop)->Prop
abbrev TGs3:=Bool->List D->Env3->(Env3->Prop)->Prop
def Z5(K:Ybf)(H0:Hp)(g:TG3):TG:=fun v σ H Q=>∃ G0 ρ G f d,Fr3 K H0 G0 ρ σ G H/\Rf K H0 G f v d/\g f d ρ fun ρ'=>∀ σ' G' H',Fr3 K H0 G0 ρ' σ' G' H'->Same G G'->Gr G H G' H'->Q σ' H'
def zeg(K:Ybf)(H0:Hp)(g:TGs3):TGs:=fun vs σ H Q=>∃ G0 ρ G f ds,Fr3 K H0 G0 ρ σ G H/\Rfs K H0 G f vs ds/\g f ds ρ fun ρ'=>∀ σ' G' H',Fr3 K H0 G0 ρ' σ' G' H'->Same G G'->Gr G H G' H'->Q σ' H'
structure PG3(X:Cx)(H0:Hp)(tg:Expr)(g:TG3):Prop where
 mono:∀ f d ρ (Q Q':Env3->Prop),(∀ c,Q c->Q' c)->g f d ρ Q->g f d ρ Q'
 ok:PG X tg (Z5 X.K H0 g)
structure PGs3(X:Cx)(H0:Hp)(tg:List Expr)(g:TGs3):Prop where
 mono:∀ f d ρ (Q Q':Env3->Prop),(∀ c,Q c->Q' c)->g f d ρ Q->g f d ρ Q'
 ok:PGs X tg (zeg X.K H0 g)
theorem PG.imp{tg:Expr}{t t':TG}(h:PG X tg t)(i:∀ v σ H Q,t' v σ H Q->t v σ H Q):PG X tg t':=fun pins s σ H v u Q I r q=>h pins s σ H v u Q I r (i _ _ _ _ q)
theorem PGs.imp{tg:List Expr}{t t':TGs}(h:PGs X tg t)(i:∀ v σ H Q,t' v σ H Q->t v σ H Q):PGs X tg t':=fun pins s σ H v u Q I r q=>h pins s σ H v u Q I r (i _ _ _ _ q)
def gn3(i:Nat):TG3:=fun f d ρ Q=>Q (ρ.set i (some (.sh (f||zo d) d)))
theorem zi{i:Nat}{x:Str}(hN:X.N.Nodup)(hi:X.N[i]?=some x)(hx:Loc X.env.scope x)(hf:X.fn x=true\/X.env.scope.names.lookup x=some .local:=by first|exact .inl rfl|exact .inr rfl|assumption):PG3 X H0 (.Name x pos) (gn3 i):=
 ⟨fun f d ρ Q Q' h q=>h _ q,PG.imp (zcu hN hi hx hf) fun v σ H Q ⟨G0,ρ,G,f,d,F,r,q⟩=>q _ G H (F.set r.or) (Same.refl _) (Gr.refl F.sub)⟩
def gnil3:TGs3:=fun _ ds ρ Q=>nilP ds (Q ρ)
def zap(t:TG3)(u:TGs3):TGs3:=fun f ds ρ Q=>ZF ds fun d r=>t f d ρ fun ρ'=>u f r ρ' Q
theorem zV:PGs3 X H0 [] gnil3:=
 ⟨fun f d ρ Q Q' h q=>by obtain⟨e,q⟩:=zcl q;subst e;exact h _ q,PGs.imp zgZ fun vs σ H Q hyp=>by
  obtain⟨G0,ρ,G,f,ds,F,r,q⟩:=hyp;obtain⟨e,q⟩:=zcl q;subst e;cases r.rd;exact⟨rfl,q σ G H F (Same.refl _) (Gr.refl F.sub)⟩⟩
theorem zy{es:List Expr}{t:TG3}{u:TGs3}(h1:PG3 X H0 e t)(h2:PGs3 X H0 es u)(hs:(assignEach (e::es) X.env).map (·.2)=assign e X.env::(assignEach es X.env).map (·.2):=by rfl):PGs3 X H0 (e::es) (zap t u):=
 ⟨fun f d ρ Q Q' h q=>by obtain⟨x,r,e,q⟩:=zcD q;subst e;exact h1.mono f x ρ _ _ (fun ρ'=>h2.mono f r ρ' _ _ h) q,PGs.imp (zkF h1.ok h2.ok hs) fun vs σ H Q hyp=>by
  obtain⟨G0,ρ,G,f,ds,F,r,q⟩:=hyp;obtain⟨x,y,e,q⟩:=zcD q;subst e;obtain⟨v,us,rfl,r1,r2⟩:=zke r;exact⟨v,us,rfl,G0,ρ,G,f,x,F,r1,h1.mono f x ρ _ _ (fun ρ' q σ1 G1 H1 F1 s1 g1=>⟨G0,ρ',G1,f,y,F1,r2.same s1,h2.mono f y ρ' _ _ (fun ρ2 q σ2 G2 H2 F2 s2 g2=>q σ2 G2 H2 F2 (s1.trans s2) (g1.trans g2)) q⟩) q⟩⟩
def ZT(n:Nat)(t:TGs3):TG3:=fun f d ρ Q=>asT d fun ds=>ds.length=n/\t f ds ρ Q
theorem zW{es:List Expr}{k:Nat}{t:TGs3}{n:Nat}(hc:X.calm=true)(h:PGs3 X H0 es t)(hn:(assignEach es X.env).length=n:=by rfl)(hst:(assignEach es X.env).findIdx? (·.1)=none:=by rfl):PG3 X H0 (.Tuple es k pos) (ZT n t):=
 ⟨fun f d ρ Q Q' hq q=>by obtain⟨ds,e,l,q'⟩:=zaI q;subst e;exact⟨l,h.mono f ds ρ _ _ hq q'⟩,PG.imp (zfN hc h.ok hn hst) fun v σ H Q hyp=>by
  obtain⟨G0,ρ,G,f,d,F,r,q⟩:=hyp;obtain⟨ds,e,l,q'⟩:=zaI q;subst e;obtain⟨a,xs,rfl,hq,rs⟩:=zaz r;exact⟨a,xs,rfl,F.sub.tup hq,by rw [rs.length];exact l,G0,ρ,G,f,ds,F,rs,q'⟩⟩
def asg3(te:TE3)(g:TG3):TS3:=fun A ρ=>te ρ fun c=>asS c fun f d=>g f d ρ A.nx
theorem zc5{tg:Expr}{te:TE3}{g:TG3}(he:PE3 X H0 e te)(hg:PG3 X H0 tg g)(hs:swapsWithSole [tg] e pos.line X.env=pure false:=by rfl)(hw:swappedStores [tg] e X.env=pure none:=by rfl)
 (h1:(assignEach [tg] X.env).map (·.2)=[assign tg X.env]:=by rfl):PS3 X H0 (.Assign [tg] e pos) (asg3 te g):=PS.imp (zc1 he.ok hg.ok hs hw h1) fun B σ H=>el7 fun G0 A ρ G F q L=>
 ⟨G0,ρ,G,F,he.mono ρ _ _ (fun c hyp v G' H' g' w=>by
  obtain⟨f,d,hc,q⟩:=jW hyp;subst hc;exact⟨G0,ρ,G',f,d,F.gr g',zn w,hg.mono f d ρ _ _ (fun ρ2 q σ2 G2 H2 F2 _ _=>L.nx ρ2 σ2 G2 H2 F2 q) q⟩) q⟩
theorem zb0{K:Ybf}{G0:Hp}{ρ : Env3}{σ : L2.St}{G H:Hp}{i:Nat}{f:Bool}{ds:List D}(F:Fr3 K H0 G0 ρ σ G H)(h:ρ[i]?=some (some (.ow f ds))):∃ l vs,σ[i]?=some (some (.ref l))/\H l=some (.lst vs)/\Rfs K H0 G f vs ds:=by
 obtain⟨v,h1,h2⟩:=F.slot i _ h;cases h2 with
 | ow hh r n=>exact⟨_,_,h1,hh,r⟩
def app3(i:Nat)(te:TE3):TS3:=fun A ρ=>atO ρ[i]? fun f ds=>te ρ fun c=>asS c fun g d=>ds.length<sizeLine/\A.nx (ρ.set i (some (.ow (f&&g) (ds++[d]))))
theorem jK{i:Nat}{te:TE3}{x:Str}{np apos cpos:Pos}(hN:X.N[i]?=some x)(hv:Vis X.env.scope x)(he:PE3 X H0 e te)(hd:(x==("__debug__" : Str))=false:=by decide)(hcd:(x==("__classdict__" : Str))=false:=by decide)
 (hb:attributeBase (.Name x np) "append" X.env (eval (.Name x np) X.env)=eval (.Name x np) X.env:=by rfl)
 (hf:((backTo cpos (starEach [e] X.env)).all (fun x=>!x.1)&&(backToKw cpos (keywordEach [] X.env)).all (fun x=>x.1.isSome)&&decide ([e].length+([]:List Keyword).length+(if([]:List Keyword).isEmpty then 0 else 1)<30))=true:=by rfl)
 (hl:(apos.endLine==cpos.line)=true:=by rfl) (hs:starEach [e] X.env=(false,eval e X.env)::starEach [] X.env:=by rfl) (hp:(backTo cpos (starEach [] X.env)).any (·.1)=false:=by rfl)
 (hw:swapsWith (.Call (.Attribute (.Name x np) "append" apos) [e] [] cpos) none pos.line X.env=pure false:=by rfl):PS3 X H0 (.Expr (.Call (.Attribute (.Name x np) "append" apos) [e] [] cpos) pos) (app3 i te):=by
 refine PS.imp (zam (zcX (jn hN hv hd hcd) (z9 he.ok jt hs) hb hf hl hs hp) hw) fun B σ H hyp=>?_
 obtain⟨G0,A,ρ,G,F,q,L⟩:=hyp;obtain⟨f,ds,hi,q⟩:=zdQ q;obtain⟨l,vs,h1,h2,r⟩:=zb0 F hi;refine⟨.ref l,h1,zbM h2,G0,ρ,G,F,he.mono ρ _ _ (fun c q v G' H' g w=>?_) q⟩
 obtain⟨f',d,hc,hz,q'⟩:=jW q;subst hc;exact⟨l,vs,v,rfl,rfl,g.h.at h2,by rw [r.length];exact hz,L.nx _ _ _ _ ((F.gr g).change hi h1 ((r.same g.g).snoc (zn w))) q'⟩
def put3(i:Nat)(tk te:TE3):TS3:=fun A ρ=>atO ρ[i]? fun f ds=>te ρ fun c=>tk ρ fun k=>asS c fun g d=>asI k fun n=>∃ j,ixN ds.length n=some j/\A.nx (ρ.set i (some (.ow (f&&g) (ds.set j d))))
theorem zaH{i:Nat}{tk te:TE3}{x:Str}{np spos:Pos}{k:Expr}(hN:X.N[i]?=some x)(hv:Vis X.env.scope x)(hk:PE3 X H0 k tk)(he:PE3 X H0 e te)(hd:(x==("__debug__" : Str))=false:=by decide)(hcd:(x==("__classdict__" : Str))=false:=by decide)
 (hs:swapsWithSole [.Subscript (.Name x np) k spos] e pos.line X.env=pure false:=by rfl) (hw:swappedStores [.Subscript (.Name x np) k spos] e X.env=pure none:=by rfl)
 (h1:(assignEach [.Subscript (.Name x np) k spos] X.env).map (·.2)=[assign (.Subscript (.Name x np) k spos) X.env]:=by rfl)
 (ha:∀ v,assign (.Subscript (.Name x np) k spos) X.env v=(do
  let ov <-holding [v] (eval (.Name x np) X.env)
  let iv <-holding [v,ov] (eval k X.env)
  standAt spos
  holding [v,ov,iv] (setItem ov iv v)
  release [v,ov,iv] []):=by intro _;rfl):PS3 X H0 (.Assign [.Subscript (.Name x np) k spos] e pos) (put3 i tk te):=by
 refine PS.imp (zc1 he.ok (zfF (jn hN hv hd hcd) hk.ok zgl ha) hs hw h1) fun B σ H hyp=>?_
 obtain⟨G0,A,ρ,G,F,q,L⟩:=hyp;obtain⟨f,ds,hi,q⟩:=zdQ q;refine⟨G0,ρ,G,F,he.mono ρ _ _ (fun c qc v G1 H1 g1 w1=>?_) q⟩
 obtain⟨l,vs,h1,h2,r⟩:=zb0 F hi;refine⟨.ref l,h1,G0,ρ,G1,F.gr g1,hk.mono ρ _ _ (fun kc q kv G2 H2 g2 w2=>?_) qc⟩
 obtain⟨f',d,hc,q1⟩:=jW q;obtain⟨n,hn,j,hj,q'⟩:=jf q1;subst hc hn;have rk:=(zn w2).rd;cases rk;refine⟨l,vs,n,j,rfl,rfl,g2.h.at (g1.h.at h2),by rw [r.length];exact hj,L.nx _ _ _ _ (((F.gr g1).gr g2).change hi h1 ((r.same (g1.g.trans g2.g)).set ((zn w1).same g2.g) j)) q'⟩
def frz1(i:Nat)(ρ : Env3):Env3:=match ρ[i]? with
 | some (some (.ow f ds))=>ρ.set i (some (.sh f (.list ds)))
 | some (some (.tr _ ms))=>ρ.set i (some (.sh true (.list (ms.map PyData.list))))
 | _=>ρ
def frz:List Nat->Env3->Env3
 | [],ρ=>ρ
 | i::r,ρ=>frz r (frz1 i ρ)
theorem Fr3.frz1{K:Ybf}{G0:Hp}{ρ : Env3}{σ : L2.St}{G H:Hp}(F:Fr3 K H0 G0 ρ σ G H)(i:Nat):∃ G',Same G G'/\Fr3 K H0 G0 (L3.frz1 i ρ) σ G' H:=by
 unfold L3.frz1
 split
 . rename_i f ds h;exact F.freeze h
 . rename_i ps ms h;exact F.freezeT h
 . exact⟨G,Same.refl _,F⟩
theorem Fr3.frz{K:Ybf}{G0:Hp}{σ : L2.St}{H:Hp}:∀ (is:List Nat) {ρ : Env3} {G:Hp},Fr3 K H0 G0 ρ σ G H->∃ G',Same G G'/\Fr3 K H0 G0 (L3.frz is ρ) σ G' H
 | [],ρ,G,F=>⟨G,Same.refl _,F⟩
 | i :: r, ρ, G, F => by
  obtain⟨G1,s1,F1⟩:=F.frz1 i;obtain⟨G2,s2,F2⟩:=Fr3.frz r F1;exact⟨G2,s1.trans s2,F2⟩
def frzS(is:List Nat)(t:TS3):TS3:=fun A ρ=>t A (frz is ρ)
theorem jv(is:List Nat){t:TS3}(h:PS3 X H0 st t):PS3 X H0 st (frzS is t):=PS.imp h fun B σ H=>el7 fun G0 A ρ G F q L=>by
 obtain⟨G',s',F'⟩:=F.frz is;exact⟨G0,A,frz is ρ,G',F',q,L⟩
def whN(c:TT3)(tb:TS3)(A:Ends3):Nat->Env3->Prop
 | 0,_=>False
 | n+1,ρ=>c ρ fun k=>if k=true then tb { A with nx:=whN c tb A n,ct:=whN c tb A n,bk:=A.nx } ρ else A.nx ρ
def zgW(c:TT3)(tb:TS3):TS3:=fun A ρ=>∃ n,whN c tb A n ρ
theorem ZS{body:List Stmt}{tc:TT3}{tb:TS3}(hp:PassesOwn (model X.prog X.w) X.A X.env X.xe)(hc:PT3 X H0 c tc)(hb:PSs3 X H0 body tb):PS3 X H0 (.While c body [] pos) (zgW tc tb):=PS.imp (zgQ hp hc.ok hb) fun B σ H hyp=>by
 obtain⟨G0,A,ρ,G,F,⟨n,q⟩,L⟩:=hyp;refine⟨fun m σ' H'=>∃ ρ' G',Fr3 X.K H0 G0 ρ' σ' G' H'/\whN tc tb A m ρ',⟨n,ρ,G,F,q⟩,?_⟩
 rintro m σ' H' ⟨ρ',G',F',q'⟩
 cases m with
 | zero=>exact q'.elim
 | succ m=>
  refine⟨G0,ρ',G',F',hc.mono ρ' _ _ (fun k q G2 H2 g=>?_) q'⟩
  cases k with
  | false=>exact L.nx ρ' σ' G2 H2 (F'.gr g) q
  | true=>
   exact⟨fun σ3 H3=>∃ ρ3 G3,Fr3 X.K H0 G0 ρ3 σ3 G3 H3/\whN tc tb A m ρ3,fun σ3 H3 h3=>⟨m,War _,h3⟩,
    G0,_,ρ',G2,F'.gr g,q,⟨fun ρ4 σ4 G4 H4 F4 q4=>⟨ρ4,G4,F4,q4⟩,L.rt,L.nx,fun ρ4 σ4 G4 H4 F4 q4=>⟨ρ4,G4,F4,q4⟩,L.rm⟩⟩
structure ItOk(K:Ybf)(H0:Hp)(J:It)(fl:Bool)(ds:List D)(Gs:Hp):Prop where
 go:∀ (i:Nat) d G H,ds[i]?=some d->Same Gs G->Sub G H->J.go i H/\∀ x H',J.yld i H x H'->∃ G',Gr G H G' H'/\Rf K H0 G' fl x d
 stop:∀ (i:Nat) G H,i=ds.length->Same Gs G->Sub G H->J.stop i H
abbrev TI3:=Env3->(Bool->List D->Prop)->Prop
def zaZ(K:Ybf)(H0:Hp)(t:TI3):TI:=fun σ H R=>∃ G0 ρ G,Fr3 K H0 G0 ρ σ G H/\t ρ fun f ds=>∀ J G' H',Gr G H G' H'->ItOk K H0 J f ds G'->R J H'
structure PI3(X:Cx)(H0:Hp)(tg iter:Expr)(t:TI3):Prop where
 mono:∀ ρ (Q Q':Bool->List D->Prop),(∀ f c,Q f c->Q' f c)->t ρ Q->t ρ Q'
 ok:PI X tg iter (zaZ X.K H0 t)
def forL(g:TG3)(tb:TS3)(A:Ends3)(f:Bool):List D->Env3->Prop
 | [],ρ=>A.nx ρ
 | d::ds,ρ=>g f d ρ fun ρ'=>tb { A with nx:=forL g tb A f ds,ct:=forL g tb A f ds,bk:=A.nx } ρ'
def for3(ti:TI3)(g:TG3)(tb:TS3):TS3:=fun A ρ=>ti ρ fun f ds=>forL g tb A f ds ρ
theorem zM{tg iter:Expr}{body:List Stmt}{ti:TI3}{g:TG3}{tb:TS3}(hp:PassesOwn (model X.prog X.w) X.A X.env X.xe)(hc:X.calm=true)(hi:PI3 X H0 tg iter ti)(hg:PG3 X H0 tg g)(hb:PSs3 X H0 body tb)
 (hs:∀ x,foldedSetIterable iter X.env x=pure x:=by intro _;rfl):PS3 X H0 (.For tg iter body [] pos) (for3 ti g tb):=PS.imp (zfR hp hc hi.ok hg.ok hb hs) fun B σ H=>el7 fun G0 A ρ G F q L=>by
 refine⟨G0,ρ,G,F,hi.mono ρ _ _ (fun f ds k J G1 H1 g1 ok=>?_) q⟩
 have B1:Fr3 X.K H0 G0 ρ σ G1 H1:=F.gr g1;refine⟨fun i m σ' H'=>i<=ds.length/\m=ds.length - i/\∃ ρ' G',Fr3 X.K H0 G1 ρ' σ' G' H'/\forL g tb A f (ds.drop i) ρ',⟨ds.length,WaK _,rfl,ρ,G1,B1.rebase,k⟩,?_⟩
 rintro i m σ' H' ⟨hil,rfl,ρ',G',F',k'⟩
 by_cases hlt:i<ds.length
 . right
   have hd:ds[i]?=some ds[i]:=YaQ hlt;obtain⟨hgo,hy⟩:=ok.go i _ G' H' hd F'.g0 F'.sub;rw [List.drop_eq_getElem_cons hlt] at k';refine⟨hgo,fun σ2 H2=>∃ ρ2 G2,Fr3 X.K H0 G1 ρ2 σ2 G2 H2/\forL g tb A f (ds.drop (i+1)) ρ2,fun σ2 H2 h2=>⟨_,Nat.sub_lt_sub_left hlt (War _),Nat.succ_le_of_lt hlt,rfl,h2⟩,fun x H2 y=>?_⟩
   obtain⟨G2,g2,r2⟩:=hy x H2 y;refine⟨G1,ρ',G2,f,_,F'.gr g2,r2,hg.mono f _ ρ' _ _ (fun ρ3 q3 σ3 G3 H3 F3 _ _=>⟨G1,_,ρ3,G3,F3,q3,?_⟩) k'⟩
   exact⟨fun ρ4 σ4 G4 H4 F4 q4=>⟨ρ4,G4,F4,q4⟩,fun f d v G4 H4 g4 r4 q4=>L.rt f d v G4 H4 (g4.back B1) r4 q4,fun ρ4 σ4 G4 H4 F4 q4=>L.nx ρ4 σ4 G4 H4 (F4.back B1) q4,fun ρ4 σ4 G4 H4 F4 q4=>⟨ρ4,G4,F4,q4⟩,fun c v ρ4 σ4 G4 H4 F4 w4 n4 q4=>L.rm c v ρ4 σ4 G4 H4 (F4.back B1) w4 n4 q4⟩
 . left
   have e:i=ds.length:=Nat.le_antisymm hil (Nat.not_lt.mp hlt);rw [e,List.drop_length] at k';exact⟨ok.stop i G' H' e F'.g0 F'.sub,L.nx ρ' σ' G' H' (F'.back B1) k'⟩
theorem PI.imp{tg iter:Expr}{t t':TI}(h:PI X tg iter t)(i:∀ σ H R,t' σ H R->t σ H R):PI X tg iter t':=fun pins s σ H R I q=>h pins s σ H R I (i _ _ _ q)
def itL(te:TE3):TI3:=fun ρ Q=>te ρ fun c=>asL c Q
def itT(te:TE3):TI3:=fun ρ Q=>te ρ fun c=>∃ f ds,c=.sh f (.tuple ds)/\Q f ds
theorem ziE{K:Ybf}{H0 G:Hp}{a:Addr}{xs:List V}{f:Bool}{ds:List D}(hq:SqL K G a xs)(r:Rfs K H0 G f xs ds):ItOk K H0 (Itl K a) f ds G where
 go:=fun i d G' H hd s1 s2=>by
  obtain⟨x,hx,rx⟩:=r.get hd;refine⟨⟨xs,x,(s1.trans s2.s).seq hq,hx⟩,fun y H' ⟨e,hy⟩=>?_⟩
  subst e;have:=hy xs ((s1.trans s2.s).seq hq);rw [hx] at this;cases this;exact⟨G',Gr.refl s2,rx.same s1⟩
 stop:=fun i G' H hl s1 s2=>⟨xs,(s1.trans s2.s).seq hq,by rw [r.length,hl];exact YaY _⟩
theorem zfH{K:Ybf}{H0 G:Hp}{a:Addr}{xs:List V}{f:Bool}{ds:List D}(hq:SqT K G a xs)(r:Rfs K H0 G f xs ds):ItOk K H0 (Itt K a) f ds G where
 go:=fun i d G' H hd s1 s2=>by
  obtain⟨x,hx,rx⟩:=r.get hd;refine⟨⟨xs,x,(s1.trans s2.s).tup hq,hx⟩,fun y H' ⟨e,hy⟩=>?_⟩
  subst e;have:=hy xs ((s1.trans s2.s).tup hq);rw [hx] at this;cases this;exact⟨G',Gr.refl s2,rx.same s1⟩
 stop:=fun i G' H hl s1 s2=>⟨xs,(s1.trans s2.s).tup hq,by rw [r.length,hl];exact YaY _⟩
theorem zN{tg iter:Expr}{te:TE3}(h:PE3 X H0 iter te):PI3 X H0 tg iter (itL te):=
 ⟨fun ρ Q Q' hq q=>h.mono ρ _ _ (fun c q=>by obtain⟨f,ds,e,q⟩:=zdI q;subst e;exact hq _ _ q) q,PI.imp (zhm h.ok) fun σ H R=>el5 fun G0 ρ G F q=>⟨G0,ρ,G,F,h.mono ρ _ _ (fun c hyp v G' H' g w=>by
  obtain⟨f,ds,e,k⟩:=zdI hyp;subst e;obtain⟨a,xs,rfl,hq,rs⟩:=Jl (zn w);exact⟨a,rfl,⟨xs,g.sub.seq hq⟩,k _ G' H' g (ziE hq rs)⟩) q⟩⟩
theorem zi0{tg iter:Expr}{te:TE3}(h:PE3 X H0 iter te):PI3 X H0 tg iter (itT te):=
 ⟨fun ρ Q Q' hq q=>h.mono ρ _ _ (fun c ⟨f,ds,e,q⟩=>⟨f,ds,e,hq _ _ q⟩) q,PI.imp (zhB h.ok) fun σ H R=>el5 fun G0 ρ G F q=>⟨G0,ρ,G,F,h.mono ρ _ _ (fun c hyp v G' H' g w=>by
  obtain⟨f,ds,e,k⟩:=hyp;subst e;obtain⟨a,xs,rfl,hq,rs⟩:=zaz (zn w);exact⟨a,rfl,⟨xs,g.sub.tup hq⟩,k _ G' H' g (zfH hq rs)⟩) q⟩⟩
def nums(lo:Int)(n:Nat):List D:=(List.range n).map fun i=>.int (lo+(i:Nat))
theorem zb6{K:Ybf}{H0 G:Hp}{lo:Int}{n:Nat}:ItOk K H0 (Itr lo n) true (nums lo n) G where
 go:=fun i d G' H hd s1 s2=>by
  unfold nums at hd;rw [Ya0] at hd
  by_cases hi:i<n
  . rw [List.getElem?_range hi] at hd
    cases hd;exact⟨hi,fun x H' ⟨e1,e2⟩=>by subst e1 e2;exact⟨G',Gr.refl s2,.sc rfl (.int _)⟩⟩
  . rw [List.getElem?_eq_none (by simpa using hi)] at hd;cases hd
 stop:=fun i G' H hl s1 s2=>by unfold nums at hl;show n<=i;simp at hl;omega
theorem zC{K:Ybf}{G:Hp}{v:V}{i:Int}(r:RdV K G v (.int i)):v=.int i:=by cases r;rfl
theorem vws1{K:Ybf}{H0 G H:Hp}{vs:List V}{c:Cl}(w:Vws K H0 G H vs [c]):∃ v,vs=[v]/\Vw K H0 G H v c:=by
 cases w with
 | cons a b=>cases b;exact⟨_,rfl,a⟩
theorem vws2{K:Ybf}{H0 G H:Hp}{vs:List V}{c d:Cl}(w:Vws K H0 G H vs [c,d]):∃ v u,vs=[v,u]/\Vw K H0 G H v c/\Vw K H0 G H u d:=by
 cases w with
 | cons a b=>obtain⟨u,rfl,h⟩:=vws1 b;exact⟨_,_,rfl,a,h⟩
def rg1(t:TA3):TI3:=fun ρ Q=>t ρ fun cs=>∃ j,cs=[.sh true (.int j)]/\(-(2 ^ 62)<=j/\j<2 ^ 62)/\Q true (nums 0 j.toNat)
def rg2(t:TA3):TI3:=fun ρ Q=>t ρ fun cs=>∃ i j,cs=[.sh true (.int i),.sh true (.int j)]/\(-(2 ^ 62)<=i/\i<2 ^ 62/\-(2 ^ 62)<=j/\j<2 ^ 62)/\Q true (nums i (j - i).toNat)
theorem jH{tg a:Expr}{t:TA3}{p:Pos}(hg:Gl X "range")(hm:X.mg "range" = none)(ha:PA3 X H0 [a] t)(hs:starEach [a] X.env=[(false,eval a X.env)]:=by rfl):PI3 X H0 tg (.Call (.Name "range" p) [a] [] pos) (rg1 t):=
 ⟨fun ρ Q Q' hq q=>ha.mono ρ _ _ (fun c ⟨j,e,b,q⟩=>⟨j,e,b,hq _ _ q⟩) q,PI.imp (zel hg hm ha.ok hs) fun σ H R=>el5 fun G0 ρ G F q=>⟨G0,ρ,G,F,ha.mono ρ _ _ (fun c hyp vs G' H' g w=>by
  obtain⟨j,e,b,k⟩:=hyp;subst e;obtain⟨v,rfl,w1⟩:=vws1 w;cases zC (zn w1).rd;exact⟨j,rfl,b.1,b.2,k _ G' H' g zb6⟩) q⟩⟩
theorem za5{tg a b:Expr}{t:TA3}{p:Pos}(hg:Gl X "range")(hm:X.mg "range" = none)(ha:PA3 X H0 [a,b] t)(hs:starEach [a,b] X.env=[(false,eval a X.env),(false,eval b X.env)]:=by rfl)(hs2:starEach [b] X.env=[(false,eval b X.env)]:=by rfl):PI3 X H0 tg (.Call (.Name "range" p) [a,b] [] pos) (rg2 t):=
 ⟨fun ρ Q Q' hq q=>ha.mono ρ _ _ (fun c ⟨i,j,e,b,q⟩=>⟨i,j,e,b,hq _ _ q⟩) q,PI.imp (zja hg hm ha.ok hs hs2) fun σ H R=>el5 fun G0 ρ G F q=>⟨G0,ρ,G,F,ha.mono ρ _ _ (fun c hyp vs G' H' g w=>by
  obtain⟨i,j,e,b,k⟩:=hyp;subst e;obtain⟨v,u,rfl,w1,w2⟩:=vws2 w;cases zC (zn w1).rd;cases zC (zn w2).rd;exact⟨i,j,rfl,b,k _ G' H' g zb6⟩) q⟩⟩
end
variable[LamW]
def cst3(n:Nat)(js:List Nat)(ρ : Env3):Env3:=List.replicate n none++js.map fun j=>(ρ[j]?).join
def er(D:Addr)(H:Hp):Hp:=fun b=>if b=D then none else H b
theorem Zj{D:Addr}{H:Hp}:er D H D=none:=by unfold er;rw [if_pos rfl]
theorem ju{D b:Addr}{H:Hp}(h:b≠D):er D H b=H b:=by unfold er;rw [if_neg h]
theorem zf6{D b:Addr}{H:Hp}{o:HO}(h:er D H b=some o):b≠D/\H b=some o:=by
 by_cases e:b=D
 . subst e;rw [Zj] at h;cases h
 . rw [ju e] at h;exact⟨e,h⟩
theorem zgd{D:Addr}{H:Hp}{o:HO}(h:H D=some o):upd (er D H) D o=H:=by
 funext b
 by_cases e:b=D
 . subst e;rw [zp,h]
 . rw [zh e,ju e]
theorem Gr.er{D:Addr}{G H G' H':Hp}(g:Gr G H G' H')(hD:G' D=none)(hx:∀ f,H' D≠some (.ext f)):Gr G (er D H) G' (er D H') where
 g:=g.g
 h:=fun b o e=>by
  obtain⟨n,e⟩:=zf6 e;rw [ju n]
  rcases g.h b o e with z|⟨z,y,c',h1,h2⟩
  . exact .inl z
  . exact .inr ⟨z,y,c',by rw [ju n];exact h1,by rw [ju (fun w=>by rw [w] at h2;exact hx _ h2)];exact h2⟩
 sub:=⟨fun b o e=>by
  rw [ju (zP e hD)];exact g.sub.s b o e,g.sub.cl⟩
 new:=fun b o e=>by
  rcases g.new b o e with q|q|q
  . exact .inl q
  . by_cases hb:b=D
    . subst hb;exact .inr (.inl Zj)
    . exact .inr (.inl (by rw [ju hb];exact q))
  . exact .inr (.inr q)
theorem Jp{α : Type}{n i:Nat}{js:List Nat}{l:List (Option α)}{x:α}(h:(List.replicate n none++js.map fun j=>(l[j]?).join)[i]?=some (some x)):∃ j,n<=i/\js[i - n]?=some j/\l[j]?=some (some x):=by
 by_cases hi:i<n
 . rw [Yab (by simpa using hi),Yad,if_pos hi] at h
   cases h
 . rw [Yae (by simpa using hi),Ybb,Ya0] at h
   cases ej:js[i - n]? with
   | none=>rw [ej] at h;cases h
   | some j=>
    rw [ej] at h;have h':(l[j]?).join=some x:=Waz h;refine⟨j,Nat.not_lt.mp hi,rfl,?_⟩;cases q:l[j]? with
    | none=>rw [q] at h';cases h'
    | some o => rw [q] at h'; cases o with
     | none=>cases h'
     | some v=>cases h';rfl
theorem zgf{α : Type}{n i j:Nat}{js:List Nat}{l:List (Option α)}{x:α}(hi:n<=i)(hj:js[i - n]?=some j)(h:l[j]?=some (some x)):(List.replicate n none++js.map fun j=>(l[j]?).join)[i]?=some (some x):=by
 rw [Yae (by simpa using hi),Ybb,Ya0,hj]
 simp [h]
theorem Rf.asideU{K:Ybf}{H0 G:Hp}{A:Addr}{ys:List V}{f:Bool}{v:V}{d:D}(r:Rf K H0 G f v d)(hA:G A=none):Rf K (upd H0 A (.lst ys)) G f v d:=⟨r.rd,fun h=>jx (Same.refl _) (fun a o e n=>by rw [zh (zP e hA)];exact n) (r.nw h)⟩
theorem Rf.asideD{K:Ybf}{H0 G:Hp}{A:Addr}{ys:List V}{f:Bool}{v:V}{d:D}(r:Rf K (upd H0 A (.lst ys)) G f v d):Rf K H0 G f v d:=⟨r.rd,fun h=>jx (Same.refl _) (fun a o e n=>by
 have ha:a≠A:=fun z=>by subst z;rw [zp] at n;cases n
 rw [zh ha] at n;exact n) (r.nw h)⟩
theorem Rf.aside{K:Ybf}{H0 G:Hp}{A:Addr}{ys zs:List V}{f:Bool}{v:V}{d:D}(r:Rf K (upd H0 A (.lst ys)) G f v d)(hA:G A=none):Rf K (upd H0 A (.lst zs)) G f v d:=r.asideD.asideU hA
theorem Rfs.asideU{K:Ybf}{H0 G:Hp}{A:Addr}{ys:List V}{f:Bool}{v:List V}{d:List D}(r:Rfs K H0 G f v d)(hA:G A=none):Rfs K (upd H0 A (.lst ys)) G f v d:=⟨r.rd,fun h=>rdns_mono (Same.refl _) (fun a o e n=>by rw [zh (zP e hA)];exact n) (r.nw h)⟩
theorem Rfs.aside{K:Ybf}{H0 G:Hp}{A:Addr}{ys zs:List V}{f:Bool}{v:List V}{d:List D}(r:Rfs K (upd H0 A (.lst ys)) G f v d)(hA:G A=none):Rfs K (upd H0 A (.lst zs)) G f v d:=⟨r.rd,fun h=>rdns_mono (Same.refl _) (fun a o e n=>by
 rw [zh (zP e hA)] at n ⊢;exact n) (r.nw h)⟩
theorem Dr.asideU{K:Ybf}{H0 G:Hp}{A:Addr}{ys:List V}{kvs:List (List Key×V)}{ds:List (List Key×PyData)}(r:Dr K H0 G kvs ds)(hA:G A=none):Dr K (upd H0 A (.lst ys)) G kvs ds:=by
 induction r with
 | nil=>exact .nil
 | cons a b ih=>exact .cons (a.asideU hA) ih
theorem Dr.aside{K:Ybf}{H0 G:Hp}{A:Addr}{ys zs:List V}{kvs:List (List Key×V)}{ds:List (List Key×PyData)}(r:Dr K (upd H0 A (.lst ys)) G kvs ds)(hA:G A=none):Dr K (upd H0 A (.lst zs)) G kvs ds:=by
 induction r with
 | nil=>exact .nil
 | cons a b ih=>exact .cons (a.aside hA) ih
theorem Vw.rebase{K:Ybf}{H0 G H:Hp}{A:Addr}{v:V}{c:Cl}(w:Vw K H0 G (upd H A (.lst [])) v c)(s:Sub G H)(hA:H A=none):Vw K (upd H0 A (.lst [])) G (upd H A (.lst [])) v c:=by
 have gA:G A=none:=s.free hA;cases w with
 | sh r=>exact .sh (r.asideU gA)
 | ow h r n=>exact .ow h (r.asideU gA) n
 | tr t=>
  refine .tr ⟨t.top,t.topG,t.nd,t.len,fun k p m h1 h2=>?_⟩
  obtain⟨vs,a,b,c⟩:=t.item k p m h1 h2;exact⟨vs,a,b,c.asideU gA⟩
 | dt h r n=>exact .dt h (r.asideU gA) n
 | dk h n=>exact .dk h n
 | fd h r k=>exact .fd h (r.asideU gA) k
 | tk h=>exact .tk h
 | dm h n=>exact .dm h n
 | ex h=>exact .ex h
section
variable{K:Ybf}{H0 G0:Hp}{ρ : Env3}{σ : L2.St}{G H:Hp}{D:Addr}
theorem Fr3.comp(F:Fr3 K H0 G0 ρ σ G H)(n:Nat){js:List Nat}(hj:js.Nodup)(hD:H D=none):Fr3 K (upd H0 D (.lst [])) G (cst3 n js ρ) (cst n js σ) G (upd H D (.lst [])) where
 keep:=fun b o e=>by
  by_cases hb:b=D
  . subst hb;rw [zp] at e ⊢;exact .inl e
  . rw [zh hb] at e ⊢
    rcases F.keep b o e with z|⟨z,y,l⟩
    . exact .inl z
    . exact .inr ⟨z,y,l.same (zS hD _).x⟩
 sub:=F.sub.trans (zS hD _).x
 old:=fun b o e=>.inl e
 g0:=Same.refl _
 slot:=fun i c e=>by
  obtain⟨j,h1,h2,h3⟩:=Jp e;obtain⟨v,h4,h5⟩:=F.slot j c h3;exact⟨v,zgf h1 h2 h4,(h5.gr (Gr.apart F.sub hD)).rebase F.sub hD⟩
 mine:=fun i c v a e e' h=>by
  obtain⟨j,h1,h2,h3⟩:=Jp e;obtain⟨j',h1',h2',h3'⟩:=Jp e';rw [h2] at h2';cases h2';obtain⟨⟨o,q,_⟩,_⟩:=(F.vw h3 h3').has h;rw [zh (zP q hD)];exact F.mine j c v a h3 h3' h
 apart:=fun i k c1 c2 v1 v2 a e1 e2 e3 e4 q1 q2=>by
  obtain⟨j,h1,h2,h3⟩:=Jp e1;obtain⟨j',h1',h2',h3'⟩:=Jp e2;obtain⟨j2,h4,h5,h6⟩:=Jp e3;obtain⟨j3,h7,h8,h9⟩:=Jp e4;rw [h2] at h5;cases h5;rw [h2'] at h8;cases h8;have e:=F.apart j j' c1 c2 v1 v2 a h3 h3' h6 h9 q1 q2;subst e;have ei:i - n=k - n:=by
   obtain⟨a1,b1⟩:=Ya8.mp h2;obtain⟨a2,b2⟩:=Ya8.mp h2';exact(List.getElem_inj hj).mp (b1.trans b2.symm)
  omega
 len:=by unfold cst3 cst;simp
theorem Fr3.aside{ys zs:List V}(F:Fr3 K (upd H0 D (.lst ys)) G0 ρ σ G H)(hG0:G0 D=none):Fr3 K (upd H0 D (.lst zs)) G0 ρ σ G (upd H D (.lst zs)):=by
 have hD:H D=some (.lst ys):=F.keep.at (b:=D) zp;have hG:G D=none:=by
  cases e:G D with
  | none=>rfl
  | some o=>
   rcases F.old D o e with q|q|⟨xs,q⟩
   . rw [hG0] at q;cases q
   . rw [zp] at q;cases q
   . have:=F.sub.s _ _ e;rw [hD,q] at this;cases this
 refine⟨fun b o e=>?_,⟨fun b o e=>by rw [zh (zP e hG)];exact F.sub.s b o e,F.sub.cl⟩,fun b o e=>?_,F.g0,fun i c e=>?_,fun i c v a e e' h=>?_,F.apart,F.len⟩
 . by_cases hb:b=D
   . subst hb;rw [zp] at e ⊢;exact .inl e
   . rw [zh hb] at e ⊢
     rcases F.keep b o (by rw [zh hb];exact e) with z|⟨z,y,l⟩
     . exact .inl z
     . exact .inr ⟨z,y,l.upd hb fun f q=>by rw [hD] at q;cases q⟩
 . rcases F.old b o e with q|q|q
   . exact .inl q
   . by_cases hb:b=D
     . subst hb;rw [zp] at q;cases q
     . rw [zh hb] at q;exact .inr (.inl (by rw [zh hb];exact q))
   . exact .inr (.inr q)
 . obtain⟨v,h1,h2⟩:=F.slot i c e
   refine⟨v,h1,?_⟩
   cases h2 with
   | sh r=>exact .sh (r.aside hG)
   | ow h r n=>
    rename_i l vs f ds;have hl:l≠D:=fun z=>by
     subst z;have:=F.mine i _ _ l e h1 rfl;rw [zp] at this;cases this
    exact .ow (by rw [zh hl];exact h) (r.aside hG) n
   | dt h r n=>
    rename_i l kvs ds;have hl:l≠D:=fun z=>by
     subst z;have:=F.mine i _ _ l e h1 rfl;rw [zp] at this;cases this
    exact .dt (by rw [zh hl];exact h) (r.aside hG) n
   | dk h n=>
    rename_i l ks;have hl:l≠D:=fun z=>by
     subst z;have:=F.mine i _ _ l e h1 rfl;rw [zp] at this;cases this
    exact .dk (by rw [zh hl];exact h) n
   | fd h r k=>exact .fd h (r.aside hG) k
   | tk h=>exact .tk h
   | dm h n=>
    rename_i l ks;have hl:l≠D:=fun z=>by
     subst z;have:=F.mine i _ _ l e h1 rfl;rw [zp] at this;cases this
    exact .dm (by rw [zh hl];exact h) n
   | tr t=>
    rename_i l ps ms;have hl:∀ a,Has (.tr ps ms) (.ref l) a->a≠D:=fun a ha z=>by
     subst z;have:=F.mine i _ _ a e h1 ha;rw [zp] at this;cases this
    refine .tr ⟨by rw [zh (hl l (.inl rfl))];exact t.top,t.topG,t.nd,t.len,fun k p m h1 h2=>?_⟩
    obtain⟨vs,a,b,c⟩:=t.item k p m h1 h2;exact⟨vs,by rw [zh (hl p (.inr (Yah h1)))];exact a,b,c.aside hG⟩
   | ex h=>
    rename_i l C;have hl:l≠D:=fun z=>by subst z;rw [hD] at h;cases h
    exact .ex (by rw [zh hl];exact h)
 . have q:=F.mine i c v a e e' h
   have hl:a≠D:=fun z=>by subst z;rw [zp] at q;cases q
   rw [zh hl] at q ⊢;exact q
theorem Fr3.atD{ys:List V}(F:Fr3 K (upd H0 D (.lst ys)) G0 ρ σ G H)(hG0:G0 D=none):G D=none/\H D=some (.lst ys):=by
 refine⟨?_,F.keep.at (b:=D) zp⟩
 cases e:G D with
 | none=>rfl
 | some o=>
  rcases F.old D o e with q|q|⟨xs,q⟩
  . rw [hG0] at q;cases q
  . rw [zp] at q;cases q
  . have h1:=F.sub.s _ _ e
    have h2:=F.keep.at (b:=D) zp;rw [h2,q] at h1;cases h1
end
section
variable{X:Cx}{H0:Hp}{pos:Pos}
structure PTs3(X:Cx)(H0:Hp)(es:List Expr)(t:TT3):Prop where
 mono:∀ ρ (Q Q':Bool->Prop),(∀ c,Q c->Q' c)->t ρ Q->t ρ Q'
 ok:PTs X es (jP X.K H0 t)
def true3:TT3:=fun _ Q=>Q true
theorem zY:PTs3 X H0 [] true3:=⟨fun ρ Q Q' h q=>h _ q,fun pins s σ H Q I=>el5 fun G0 ρ G F q=>zcn pins s σ H Q I (q G H (Gr.refl F.sub))⟩
theorem zho{c:Expr}{t:TT3}(h:PT3 X H0 c t):PTs3 X H0 [c] t:=⟨h.mono,ze4 h.ok⟩
def jo(g:TG3)(tt:TT3)(te:TE3)(f:Bool):List D->Bool->List D->Env3->(Bool->List D->Prop)->Prop
 | [],fa,acc,_,Q=>Q fa acc
 | d::ds,fa,acc,ρ,Q=>g f d ρ fun ρ'=>tt ρ' fun k=>if k=true then te ρ' fun c=>asS c fun fy y=>jo g tt te f ds (fa&&fy) (acc++[y]) ρ' Q else jo g tt te f ds fa acc ρ' Q
def Jg(ti:TI3)(g:TG3)(tt:TT3)(te:TE3)(n:Nat)(js:List Nat):TN3:=fun ρ Q=>ti ρ fun f ds=>ds.length<=sizeLine/\jo g tt te f ds true [] (cst3 n js ρ) Q
theorem zbf{g:TG3}{tt:TT3}{te:TE3}(hg:∀ f d ρ (Q Q':Env3->Prop),(∀ c,Q c->Q' c)->g f d ρ Q->g f d ρ Q')(ht:∀ ρ (Q Q':Bool->Prop),(∀ c,Q c->Q' c)->tt ρ Q->tt ρ Q')(he:∀ ρ (Q Q':Cl->Prop),(∀ c,Q c->Q' c)->te ρ Q->te ρ Q')
 {f:Bool} {Q Q':Bool->List D->Prop} (h:∀ f c,Q f c->Q' f c):∀ ds fa acc ρ,jo g tt te f ds fa acc ρ Q->jo g tt te f ds fa acc ρ Q'
 | [],fa,acc,ρ,q=>h _ _ q
 | d :: ds, fa, acc, ρ, q => hg f d ρ _ _ (fun ρ' => ht ρ' _ _ fun k => by
  cases k with
  | true=>exact he ρ' _ _ fun c q=>by obtain⟨fy,y,e,q⟩:=jW q;subst e;exact zbf hg ht he h ds _ _ ρ' q
  | false=>exact zbf hg ht he h ds fa acc ρ') q
theorem zb9{tn fn N:List Str}{js:List Nat}(nd:(tn++fn).Nodup)(hj:js.map (fun j=>N[j]?)=fn.map some):js.Nodup:=by
 have h1:(fn.map some).Nodup:=by
  have:=(Wan.mp nd).2.1;exact List.Pairwise.map some (fun a b h e=>h (Waz e)) this
 rw [<-hj] at h1;exact List.Pairwise.of_map _ (fun a b h e=>h (by rw [e])) h1
theorem zdF{elt tg:Expr}{ifs:List Expr}{scope:Scope}{N:List Str}{g:TG3}{tt:TT3}{te:TE3}
 (hb:∀ H0 s H fp cl,PG3 (X.comp scope N s H fp cl) H0 tg g/\PTs3 (X.comp scope N s H fp cl) H0 ifs tt/\PE3 (X.comp scope N s H fp cl) H0 elt te):∀ s H fp cl,PG (X.comp scope N s H fp cl) tg (fun v σ H Q=>∃ H0,Z5 X.K H0 g v σ H Q)/\PTs (X.comp scope N s H fp cl) ifs (fun σ H Q=>∃ H0,jP X.K H0 tt σ H Q)/\PE (X.comp scope N s H fp cl) elt (fun σ H Q=>∃ H0,jg X.K H0 te σ H Q):=fun s H fp cl=>
 ⟨fun pins s' σ H' v u Q I r ⟨h0,q⟩=>(hb h0 s H fp cl).1.ok pins s' σ H' v u Q I r q,fun pins s' σ H' Q I ⟨h0,q⟩=>(hb h0 s H fp cl).2.1.ok pins s' σ H' Q I q,fun pins s' σ H' Q I ⟨h0,q⟩=>(hb h0 s H fp cl).2.2.ok pins s' σ H' Q I q⟩
theorem zdB{Y Y' Y'':Cx}{h1 h2 h3:Hp}{elt tg iter:Expr}{ifs:List Expr}{ti:TI3}{g:TG3}{tt:TT3}{te:TE3}{n:Nat}{js:List Nat}(hjn:js.Nodup)(hi:PI3 X H0 tg iter ti)(m1:PG3 Y h1 tg g)(m2:PTs3 Y' h2 ifs tt)(m3:PE3 Y'' h3 elt te) :
 ∀ σ H Q,zcY X.K H0 (Jg ti g tt te n js) σ H Q->zaF (zaZ X.K H0 ti) (fun v σ H Q=>∃ H0,Z5 X.K H0 g v σ H Q) (fun σ H Q=>∃ H0,jP X.K H0 tt σ H Q) (fun σ H Q=>∃ H0,jg X.K H0 te σ H Q) n js σ H Q:=by
 rintro σ H Q ⟨G0,ρ,G,F,q⟩
 refine⟨G0,ρ,G,F,hi.mono ρ _ _ (fun fl ds ⟨hz,k⟩ J G1 H1 g1 ok A hA=>?_) q⟩
 have F1:=F.gr g1;have gA:G1 A=none:=g1.sub.free hA;have h0A:H0 A=none:=F1.keep.free hA;refine⟨fun i m ys σ2 H2=>i<=ds.length/\m=ds.length - i/\ys.length<=i/\∃ ρ2 G2 fe es,Fr3 X.K (upd H0 A (.lst ys)) G1 ρ2 σ2 G2 H2/\Rfs X.K H0 G2 fe ys es/\Gr G1 H1 G2 (er A H2)/\jo g tt te fl (ds.drop i) fe es ρ2 (fun f ds=>∀ l vs G' H',Gr G H G' H'->H' l=none->Rfs X.K H0 G' f vs ds->Q (.ref l) (upd H' l (.lst vs))),
  ⟨ds.length,WaK _,rfl,YaY _,cst3 n js ρ,G1,true,[],F1.comp n hjn hA,.nil,?_,k⟩,?_⟩
 . have e:er A (upd H1 A (.lst []))=H1:=by
    funext b
    by_cases hb:b=A
    . subst hb;rw [Zj,hA]
    . rw [ju hb,zh hb]
   rw [e];exact Gr.refl g1.sub
 rintro i m ys σ2 H2 ⟨hil,rfl,hyl,ρ2,G2,fe,es,F2,r2,g2,k2⟩
 obtain⟨hG2,hH2⟩:=F2.atD gA
 by_cases hlt:i<ds.length
 . right
   have hd:ds[i]?=some ds[i]:=YaQ hlt;obtain⟨hgo,hy⟩:=ok.go i _ G2 H2 hd F2.g0 F2.sub;rw [List.drop_eq_getElem_cons hlt] at k2;refine⟨hgo,fun x H3 y=>?_⟩
   obtain⟨G3,g3,r3⟩:=hy x H3 y;have F3:=F2.gr g3;refine⟨upd H0 A (.lst ys),G1,ρ2,G3,fl,_,F3,r3.asideU (F3.atD gA).1,m1.mono fl _ ρ2 _ _ (fun ρ4 q4 σ4 G4 H4 F4 s4 g4=>?_) k2⟩
   refine⟨upd H0 A (.lst ys),G1,ρ4,G4,F4,m2.mono ρ4 _ _ (fun b q5 G5 H5 g5=>?_) q4⟩
   have F5:=F4.gr g5;have gg5:=(g3.trans g4).trans g5;cases b with
   | true=>
    refine⟨upd H0 A (.lst ys),G1,ρ4,G5,F5,m3.mono ρ4 _ _ (fun c q6 v G6 H6 g6 w6=>?_) q5⟩
    obtain⟨fy,y,hc,q6⟩:=jW q6;subst hc;have F6:=F5.gr g6;obtain⟨hG6,hH6⟩:=F6.atD gA;have gg6:=gg5.trans g6;refine⟨hH6,YaU (Nat.lt_of_le_of_lt hyl hlt) hz,ds.length - (i+1),Nat.sub_lt_sub_left hlt (War _),Nat.succ_le_of_lt hlt,rfl,by rw [YaS,List.length_singleton];omega,ρ4,G6,_,es++[y],F6.aside gA,(r2.same gg6.g).snoc ((zn w6).asideD),?_,q6⟩
    have e:er A (upd H6 A (.lst (ys++[v])))=er A H6:=by
     funext b
     by_cases hb:b=A
     . subst hb;rw [Zj,Zj]
     . rw [ju hb,ju hb,zh hb]
    rw [e];exact g2.trans (gg6.er hG6 fun f z=>by rw [hH6] at z;cases z)
   | false=>
    obtain⟨hG5,hH5⟩:=F5.atD gA;exact⟨ds.length - (i+1),Nat.sub_lt_sub_left hlt (War _),Nat.succ_le_of_lt hlt,rfl,Nat.le_succ_of_le hyl,ρ4,G5,fe,es,F5,r2.same gg5.g,g2.trans (gg5.er hG5 fun f z=>by rw [hH5] at z;cases z),q5⟩
 . left
   have e:i=ds.length:=Nat.le_antisymm hil (Nat.not_lt.mp hlt);rw [e,List.drop_length] at k2;refine⟨ok.stop i G2 H2 e F2.g0 F2.sub,?_⟩;have k3:=k2 A ys G2 (er A H2) (g1.trans g2) Zj r2;rw [zgd hH2] at k3;exact k3
theorem z8{elt tg iter:Expr}{ifs:List Expr}{scope:Scope}{ti:TI3}{g:TG3}{tt:TT3}{te:TE3}(tn fn:List Str)(js:List Nat)(hcalm:X.calm=true)(S:CompSc X.env.scope scope tn fn)(hj:js.map (fun j=>X.N[j]?)=fn.map some)(hi:PI3 X H0 tg iter ti)
 (hb:∀ H0 s H fp cl,PG3 (X.comp scope (tn++fn) s H fp cl) H0 tg g/\PTs3 (X.comp scope (tn++fn) s H fp cl) H0 ifs tt/\PE3 (X.comp scope (tn++fn) s H fp cl) H0 elt te)
 (hs:∀ x,foldedSetIterable iter X.env x=pure x:=by intro _;rfl):PN3 X H0 (.ListComp elt [⟨tg,iter,ifs,0⟩] scope pos) (Jg ti g tt te tn.length js):=by
 obtain⟨m1,m2,m3⟩:=hb H0 X.s₀ X.H₀ [] [];have hjn:=zb9 S.nd hj;refine⟨fun ρ Q Q' h q=>hi.mono ρ _ _ (fun f ds ⟨z,q⟩=>⟨z,zbf m1.mono m2.mono m3.mono h ds _ _ _ q⟩) q,?_⟩
 exact PE.imp (zgS (wi:=zaZ X.K H0 ti) (g:=fun v σ H Q=>∃ H0,Z5 X.K H0 g v σ H Q) (tt:=fun σ H Q=>∃ H0,jP X.K H0 tt σ H Q) (te:=fun σ H Q=>∃ H0,jg X.K H0 te σ H Q) tn fn js hcalm S hj hi.ok (zdF hb) hs) (zdB hjn hi m1 m2 m3)
theorem za8{elt tg iter:Expr}{ifs:List Expr}{scope:Scope}{spos pos':Pos}{i:Nat}{x:Str}{ti:TI3}{g:TG3}{tt:TT3}{te:TE3}(hN:X.N.Nodup)(hix:X.N[i]?=some x)(hx:Loc X.env.scope x)(tn fn:List Str)(js:List Nat)(hcalm:X.calm=true)(S:CompSc X.env.scope scope tn fn)(hj:js.map (fun j=>X.N[j]?)=fn.map some)(hi:PI3 X H0 tg iter ti)
 (hb:∀ H0 s H fp cl,PG3 (X.comp scope (tn++fn) s H fp cl) H0 tg g/\PTs3 (X.comp scope (tn++fn) s H fp cl) H0 ifs tt/\PE3 (X.comp scope (tn++fn) s H fp cl) H0 elt te)
 (hs:∀ x,foldedSetIterable iter X.env x=pure x:=by intro _;rfl)
 (hsw:swapsWith (.ListComp elt [⟨tg,iter,ifs,0⟩] scope pos) (some (.Name x pos')) spos.line X.env=pure true:=by rfl) (hf:X.fn x=true\/X.env.scope.names.lookup x=some .local:=by first|exact .inl rfl|exact .inr rfl|assumption) :
 PS3 X H0 (.Assign [.Name x pos'] (.ListComp elt [⟨tg,iter,ifs,0⟩] scope pos) spos) (set3 i (nw3 (Jg ti g tt te tn.length js))):=by
 obtain⟨m1,m2,m3⟩:=hb H0 X.s₀ X.H₀ [] [];have hjn:=zb9 S.nd hj;have pn:=z8 (pos:=pos) tn fn js hcalm S hj hi hb hs;refine PS.imp (zdy hN hix hx (wi:=zaZ X.K H0 ti) (g:=fun v σ H Q=>∃ H0,Z5 X.K H0 g v σ H Q) (tt:=fun σ H Q=>∃ H0,jP X.K H0 tt σ H Q) (te:=fun σ H Q=>∃ H0,jg X.K H0 te σ H Q) tn fn js hcalm S hj hi.ok (zdF hb) hs hsw hf) fun B σ H=>el7 fun G0 A ρ G F q L=>?_
 refine zdB hjn hi m1 m2 m3 σ H _ ⟨G0,ρ,G,F,pn.mono ρ _ _ (fun f ds q l vs G' H' g hl r=>?_) q⟩
 refine L.nx _ _ (upd G' l (.lst vs)) _ ((F.gr (g.trans (Gr.put g.sub hl))).set ?_) q
 exact⟨.lst (SqL.of zp) (rdvs_same (zS (g.sub.free hl) _) r.rd),fun hf=>.lst zp ((F.keep.trans g.h).free hl) (rdns_mono (zS (g.sub.free hl) _) (fun _ _ _ z=>z) (r.nw hf))⟩
end
def jw(N:List Str)(ds:List D):Env3:=ds.map (fun d=>some (.sh (zo d) d))++List.replicate (N.length - ds.length) none
theorem zg9{K:Ybf}{G H:Hp}{N:List Str}{vs:List V}{ds:List D}(s:Sub G H)(r:RdVs K G vs ds):Fr3 K H G (jw N ds) (start N vs) G H:=by
 have at3:∀ (i:Nat) c,(jw N ds)[i]?=some (some c)->∃ d,ds[i]?=some d/\c=.sh (zo d) d:=fun i c e=>by
  unfold jw at e
  by_cases hi:i<ds.length
  . rw [Yab (by simpa using hi),Ya0] at e
    cases q:ds[i]? with
    | none=>rw [q] at e;cases e
    | some d=>rw [q] at e;cases e;exact⟨d,rfl,rfl⟩
  . rw [Yae (by simpa using hi),Yad] at e
    split at e<;>cases e
 refine⟨zu.refl _,s,fun b o e=>.inl e,Same.refl _,fun i c e=>?_,fun i c v a e _ h=>?_,fun i j c c' v v' a e _ _ _ h _=>?_,?_⟩
 . obtain⟨d,hd,rfl⟩:=at3 i c e
   obtain⟨x,hx,rx⟩:=r.get hd;refine⟨x,?_,.sh ⟨rx,fun h=>zak h rx⟩⟩
   unfold L2.start;have hi:i<vs.length:=(Ya8.mp hx).1;rw [Yab (by simpa using hi),Ya0,hx];rfl
 . obtain⟨d,hd,z⟩:=at3 i _ e;subst z;exact False.elim h
 . obtain⟨d,hd,z⟩:=at3 i _ e;subst z;exact False.elim h
 . unfold jw L2.start;simp [r.length]
theorem fn3{P:Program}{w:World}{K:Ybf}{mg:Str->Option Value}{base:Heap}{x qual:Str}{st:Stmt}{f:Addr}{fd:FuncData}{N ps:List Str}{k:Nat}{sp:Sp3}(F:Fun K x qual st f fd)(S:FnScope N ps (ze st))(len:∀ ds Q E,sp ds Q E->ds.length=ps.length)
 (hbody:∀ (cdv:Value) (A:Around) (outer:List Env) (s:Shared) (H:Hp) (E:XK) (E3:Addr->Prop),(∀ C H',E3 C->zu H H'->E (.ref C) none H')->Room k (A.deeper (envOfC qual (ze st) s.heap.objs.size f cdv))->
  ∃ t,PSs3 (cxOf (CXR P w) P w K mg base N qual (ze st) f cdv A outer s H E) H (zq st) t/\∀ ds Q,sp ds Q E3->t { nx:=fun _=>Q true .none,rt:=Q } (jw N ds)):FnOk P w K mg base (CXR P w) (k+1) f fd ps (spL K sp):=by
 refine F.okR S (fun vs H Q E h=>?_) (fun cdv A outer s H vs Q E hr h=>?_)
 . obtain⟨G,ds,_,r,h⟩:=h
   rw [r.length];exact len _ _ _ h
 . obtain⟨G,ds,sG,r,h⟩:=h
   obtain⟨t,ht,hq⟩:=hbody cdv A outer s H E (fun C=>∀ H',zu H H'->E (.ref C) none H') (fun C H' e z=>e H' z) hr
   refine⟨_,ht,G,_,jw N ds,G,zg9 sG r,hq ds _ h,⟨fun ρ σ G' H' F' q=>q .non G' H' F'.gr0 (.sc rfl .non),fun f d v G' H' g rd q=>q v G' H' g rd,fun _ _ _ _ _ q=>q.elim,fun _ _ _ _ _ q=>q.elim,fun _ _ _ _ _ _ _ _ _ q=>q.elim⟩⟩
def Z3(C:Addr)(E:Addr->Prop)(t:TA3):TS3:=fun _ ρ=>t ρ fun cs=>cs.length<=sizeLine/\E C
theorem zci{K:Ybf}{H0 G H:Hp}{vs:List V}{cs:List Cl}(h:Vws K H0 G H vs cs):vs.length=cs.length:=by
 induction h with
 | nil=>rfl
 | cons _ _ ih=>rw [List.length_cons,List.length_cons,ih]
theorem ji{X:Cx}{H0:Hp}{x:Str}{C:Addr}{e0:Expr}{t:TA3}{E:XK}{E3:Addr->Prop}{np cpos pos:Pos}(hE:∀ C H',E3 C->zu H0 H'->E (.ref C) none H')(hf:Flies X E)(hc:X.calm=true)(hg:Gl X x)(hm:X.mg x=some (.ref C))(hx:PySem.W.excIn X.K C bmVE "ValueError.__new__" = true)(ha:PA3 X H0 [e0] t)
 (hdb:(x==("__debug__" : Str))=false:=by decide) (hs:starEach [e0] X.env=[(false,eval e0 X.env)]:=by rfl):PS3 X H0 (.Raise (some (.Call (.Name x np) [e0] [] cpos)) none pos) (Z3 C E3 t):=
 PS.imp (zhg hf hc hg hm hx ha.ok hdb hs) fun B σ H=>el7 fun G0 A ρ G F q L=>⟨G0,ρ,G,F,ha.mono ρ _ _ (fun cs ⟨z,e⟩ vs G' H' g w=>⟨by rw [zci w];exact z,hE C H' e (F.gr g).keep⟩) q⟩
variable[LamW]
theorem Jk{K:Ybf}{G:Hp}{v:V}{i:Str}(r:RdV K G v (.str i)):v=.str i:=by cases r;rfl
theorem zep{K:Ybf}{G:Hp}{v:V}(r:RdV K G v .none):v=.non:=by cases r;rfl
section
variable{X:Cx}
def add3:R3:=fun a b Q=>match a,b with
 | .sh _ (.int i),.sh _ (.int j)=>Q true (.int (i+j))
 | .sh _ (.str x),.sh _ (.str y)=>x.length+y.length<=sizeLine/\Q true (.str (x++y))
 | _,_=>False
def int3(C:Int->Int->Prop)(g:Int->Int->D):R3:=fun a b Q=>match a,b with
 | .sh _ (.int i),.sh _ (.int j)=>C i j/\Q true (g i j)
 | _,_=>False
def int0(g:Int->Int->D):R3:=fun a b Q=>match a,b with
 | .sh _ (.int i),.sh _ (.int j)=>Q true (g i j)
 | _,_=>False
theorem zz:OpOk X (binaryOp .Add) add3:=by
 refine⟨fun a b Q Q' h q=>?_,fun H0=>OpR.imp (zjM.or zgi) fun x y H Q=>el3 fun G a b s wa wb q=>?_⟩
 . unfold add3 at *;split at q
   . exact h _ _ q
   . exact⟨q.1,h _ _ q.2⟩
   . exact q
 . unfold add3 at q;split at q
   . cases zC (zn wa).rd;cases zC (zn wb).rd
     exact .inl ⟨_,_,rfl,rfl,q _ G H (Gr.refl s) (.sc rfl (.int _))⟩
   . cases Jk (zn wa).rd;cases Jk (zn wb).rd
     exact .inr ⟨_,_,rfl,rfl,q.1,q.2 _ G H (Gr.refl s) (.sc rfl (.str _))⟩
   . exact q.elim
theorem opI3{f:Value->Value->Sem Value}{C:Int->Int->Prop}{g:Int->Int->Int}(h:OpR X f (rI C fun i j=>.int (g i j))):OpOk X f (int3 C fun i j=>.int (g i j)):=by
 refine⟨fun a b Q Q' h q=>?_,fun H0=>OpR.imp h fun x y H Q=>el3 fun G a b s wa wb q=>?_⟩
 . unfold int3 at *;split at q
   . exact⟨q.1,h _ _ q.2⟩
   . exact q
 . unfold int3 at q;split at q
   . cases zC (zn wa).rd;cases zC (zn wb).rd
     exact⟨_,_,rfl,rfl,q.1,q.2 _ G H (Gr.refl s) (.sc rfl (.int _))⟩
   . exact q.elim
theorem zfu{f:Value->Value->Sem Value}{g:Int->Int->Int}(h:OpR X f (rI0 fun i j=>.int (g i j))):OpOk X f (int0 fun i j=>.int (g i j)):=by
 refine⟨fun a b Q Q' h q=>?_,fun H0=>OpR.imp h fun x y H Q=>el3 fun G a b s wa wb q=>?_⟩
 . unfold int0 at *;split at q
   . exact h _ _ q
   . exact q
 . unfold int0 at q;split at q
   . cases zC (zn wa).rd;cases zC (zn wb).rd
     exact⟨_,_,rfl,rfl,q _ G H (Gr.refl s) (.sc rfl (.int _))⟩
   . exact q.elim
theorem zaJ{f:Value->Value->Sem Value}{g:Int->Int->Bool}(h:OpR X f (rI0 fun i j=>.bl (g i j))):OpOk X f (int0 fun i j=>.bool (g i j)):=by
 refine⟨fun a b Q Q' h q=>?_,fun H0=>OpR.imp h fun x y H Q=>el3 fun G a b s wa wb q=>?_⟩
 . unfold int0 at *;split at q
   . exact h _ _ q
   . exact q
 . unfold int0 at q;split at q
   . cases zC (zn wa).rd;cases zC (zn wb).rd
     exact⟨_,_,rfl,rfl,q _ G H (Gr.refl s) (.sc rfl (.bl _))⟩
   . exact q.elim
theorem je:OpOk X (binaryOp .Sub) (int0 fun i j=>.int (i - j)):=zfu zg6
theorem z6:OpOk X (binaryOp .Mult) (int3 IntMulOk fun i j=>.int (i*j)):=opI3 zie
theorem zE:OpOk X (binaryOp .FloorDiv) (int3 jM fun i j=>.int (i/j)):=opI3 zei
theorem zl:OpOk X (binaryOp .Mod) (int3 (fun _ j=>0<j) fun i j=>.int (i%j)):=opI3 zj7
theorem jp:OpOk X (binaryOp .Pow) (int3 Je fun i j=>.int (i ^ j.toNat)):=opI3 zh4
theorem jC:OpOk X (compareOp .Lt) (int0 fun i j=>.bool (decide (i<j))):=zaJ zek
theorem JD:OpOk X (compareOp .LtE) (int0 fun i j=>.bool (decide (i<=j))):=zaJ zfd
theorem jR:OpOk X (compareOp .Gt) (int0 fun i j=>.bool (decide (j<i))):=zaJ zhI
theorem zdx:OpOk X (compareOp .GtE) (int0 fun i j=>.bool (decide (j<=i))):=zaJ zif
theorem UnR.imp{f:Value->Sem Value}{r r':V->Hp->VK->Prop}(h:UnR X f r)(i:∀ x H Q,r' x H Q->r x H Q):UnR X f r':=fun pins s σ H x v Q I rx q=>h pins s σ H x v Q I rx (i _ _ _ q)
def eqOk:D->D->Prop
 | .str _,.str _=>True
 | .int _,.int _=>True
 | d,e=>SeqAt.shaped d=true/\SeqAt.shaped e=true
def eqv3:D->D->Bool
 | .str x,.str y=>decide (x=y)
 | .int x,.int y=>decide (x=y)
 | d,e=>PyData.eqv d e
def eq3:R3:=fun a b Q=>a.dat=true/\b.dat=true/\eqOk a.d b.d/\Q true (.bool (eqv3 a.d b.d))
def ne3:R3:=fun a b Q=>a.dat=true/\b.dat=true/\eqOk a.d b.d/\Q true (.bool (!eqv3 a.d b.d))
theorem zb4{d e:D}:(∃ x y,d=.str x/\e=.str y/\eqv3 d e=decide (V.str x=V.str y))\/(∃ x y,d=.int x/\e=.int y/\eqv3 d e=decide (V.int x=V.int y))\/(eqv3 d e=PyData.eqv d e/\(eqOk d e->SeqAt.shaped d=true/\SeqAt.shaped e=true)):=by
 cases d<;>cases e<;>first
  | exact .inr (.inr ⟨rfl,fun h=>h⟩)
  | exact .inl ⟨_,_,rfl,rfl,by simp [eqv3]⟩
  | exact .inr (.inl ⟨_,_,rfl,rfl,by simp [eqv3]⟩)
theorem zw(hu:X.A.units+64<cLine):OpOk X (compareOp .Eq) eq3:=by
 refine⟨fun a b Q Q' h ⟨x,y,z,q⟩=>⟨x,y,z,h _ _ q⟩,fun H0=>OpR.imp (zfK.or (zge hu)) fun x y H Q ⟨G,a,b,s,wa,wb,ha,hb,ho,q⟩=>?_⟩
 have ra:=wa.rd s ha;have rb:=wb.rd s hb
 rcases zb4 (d:=a.d) (e:=b.d) with ⟨i,j,e1,e2,e3⟩|⟨i,j,e1,e2,e3⟩|⟨e3,hs⟩
 . rw [e1] at ra;rw [e2] at rb
   cases Jk ra;cases Jk rb
   exact .inl ⟨rfl,by rw [<-e3];exact q _ G H (Gr.refl s) (.sc rfl (.bl _))⟩
 . rw [e1] at ra;rw [e2] at rb
   cases zC ra;cases zC rb
   exact .inl ⟨rfl,by rw [<-e3];exact q _ G H (Gr.refl s) (.sc rfl (.bl _))⟩
 . exact .inr ⟨_,_,ra,rb,(hs ho).1,(hs ho).2,by rw [<-e3];exact q _ G H (Gr.refl s) (.sc rfl (.bl _))⟩
theorem zat(hu:X.A.units+64<cLine):OpOk X (compareOp .NotEq) ne3:=by
 refine⟨fun a b Q Q' h ⟨x,y,z,q⟩=>⟨x,y,z,h _ _ q⟩,fun H0=>OpR.imp (zkj.or (zeD hu)) fun x y H Q ⟨G,a,b,s,wa,wb,ha,hb,ho,q⟩=>?_⟩
 have ra:=wa.rd s ha;have rb:=wb.rd s hb
 rcases zb4 (d:=a.d) (e:=b.d) with ⟨i,j,e1,e2,e3⟩|⟨i,j,e1,e2,e3⟩|⟨e3,hs⟩
 . rw [e1] at ra;rw [e2] at rb
   cases Jk ra;cases Jk rb
   exact .inl ⟨rfl,by rw [<-e3];exact q _ G H (Gr.refl s) (.sc rfl (.bl _))⟩
 . rw [e1] at ra;rw [e2] at rb
   cases zC ra;cases zC rb
   exact .inl ⟨rfl,by rw [<-e3];exact q _ G H (Gr.refl s) (.sc rfl (.bl _))⟩
 . exact .inr ⟨_,_,ra,rb,(hs ho).1,(hs ho).2,by rw [<-e3];exact q _ G H (Gr.refl s) (.sc rfl (.bl _))⟩
def isNone:Cl->Bool
 | .sh _ .none=>true
 | _=>false
theorem ziW{K:Ybf}{H0 G H:Hp}{v:V}{c:Cl}(w:Vw K H0 G H v c):decide (v=.non)=isNone c:=by
 cases w with
 | sh r=>cases r.rd<;>simp [isNone]
 | ow _ _ _=>simp [isNone]
 | tr _=>simp [isNone]
 | dt _ _ _=>simp [isNone]
 | dk _ _=>simp [isNone]
 | fd _ _ _=>simp [isNone]
 | tk _=>simp [isNone]
 | dm _ _=>simp [isNone]
 | ex _=>simp [isNone]
def notN3:R3:=fun a b Q=>b=.sh true .none/\Q true (.bool (!isNone a))
theorem zau:OpOk X (compareOp .IsNot) notN3:=⟨fun a b Q Q' h ⟨e,q⟩=>⟨e,h _ _ q⟩,fun H0=>OpR.imp zjh fun x y H Q hyp=>by
 obtain⟨G,a,b,s,wa,wb,e,q⟩:=hyp;subst e;exact⟨zep (zn wb).rd,by rw [ziW wa];exact q _ G H (Gr.refl s) (.sc rfl (.bl _))⟩⟩
def ixD:D->Int->Option D
 | .list ds,i=>atI ds i
 | .tuple ds,i=>atI ds i
 | .str z,i=>if z.length<=sizeLine then(atI z.cps.toList i).map fun c=>.str ⟨#[c]⟩ else none
 | _,_=>none
def ix3:R3:=fun a b Q=>match b with
 | .sh _ (.int i)=>a.dat=true/\∃ d,ixD a.d i=some d/\Q (a.f||zo d) d
 | _=>False
theorem zaR{K:Ybf}{H0 G:Hp}{f:Bool}{vs:List V}{ds:List D}{i:Int}{d:D}(r:Rfs K H0 G f vs ds)(h:atI ds i=some d):∃ v,atI vs i=some v/\Rf K H0 G f v d:=by
 unfold atI at *;rw [r.length];cases e:ixN ds.length i with
 | none=>rw [e] at h;cases h
 | some j=>
  rw [e] at h;obtain⟨x,hx,rx⟩:=r.get (i:=j) (show ds[j]?=some d from h)
  exact⟨x,hx,rx⟩
theorem IxR.imp{r r':R2}(h:IxR X r)(i:∀ x y H Q,r' x y H Q->r x y H Q):IxR X r':=fun e f pins s σ H x y v u Q I rx ry q z=>h e f pins s σ H x y v u Q I rx ry (i _ _ _ _ q) z
theorem zgt(H0:Hp):IxR X (Z0 X.K H0 ix3):=IxR.imp zfT fun x y H Q=>el3 fun G a b s wa wb q=>by
 unfold ix3 at q;split at q
 . obtain⟨ha,d,hd,q⟩:=q
   rename_i i;cases zC (zn wb).rd;cases wa with
   | @sh v0 f d0 r=>
    cases d0 with
    | list ds=>
     obtain⟨a,xs,rfl,hq,rs⟩:=Jl r;obtain⟨v,hv,rv⟩:=zaR rs (show atI ds i=some d from hd)
     exact .inl ⟨_,_,_,v,rfl,rfl,s.seq hq,hv,q v G H (Gr.refl s) rv.or⟩
    | tuple ds=>
     obtain⟨a,xs,rfl,hq,rs⟩:=zaz r;obtain⟨v,hv,rv⟩:=zaR rs (show atI ds i=some d from hd)
     exact .inr (.inl ⟨_,_,_,v,rfl,rfl,s.tup hq,hv,q v G H (Gr.refl s) rv.or⟩)
    | str z=>
     cases Jk r.rd
     have hd':(if z.length<=sizeLine then(atI z.cps.toList i).map fun c=>PyData.str ⟨#[c]⟩ else none)=some d:=hd
     split at hd'
     . rename_i hz
       cases e:atI z.cps.toList i with
       | none=>rw [e] at hd';cases hd'
       | some c=>
        rw [e] at hd';cases hd';exact .inr (.inr ⟨z,i,c,rfl,rfl,hz,e,q _ G H (Gr.refl s) (.sc rfl (.str _))⟩)
     . cases hd'
    | _=>cases hd
   | ow h rs n=>
    obtain⟨v,hv,rv⟩:=zaR rs (show atI _ i=some d from hd)
    exact .inl ⟨_,_,_,v,rfl,rfl,SqL.of h,hv,q v G H (Gr.refl s) rv.or⟩
   | tr h=>cases ha
   | dt _ _ _=>cases ha
   | dk _ _=>cases ha
   | fd _ _ _=>cases ha
   | tk h=>
    obtain⟨v,hv,rv⟩:=zaR (⟨Z2 _,fun _=>zav _⟩:Rfs _ _ _ true _ _) (show atI _ i=some d from hd)
    exact .inr (.inl ⟨_,_,_,v,rfl,rfl,s.tup (SqT.of h),hv,q v G H (Gr.refl s) rv.or⟩)
   | dm _ _=>cases ha
   | ex h=>cases ha
 . exact q.elim
theorem zdi:∀ a b (Q Q':Bool->D->Prop),(∀ f c,Q f c->Q' f c)->ix3 a b Q->ix3 a b Q':=fun a b Q Q' h q=>by
 unfold ix3 at *;split at q
 . obtain⟨x,d,e,q⟩:=q;exact⟨x,d,e,h _ _ q⟩
 . exact q
theorem at3{H0:Hp}{a b:Expr}{pos:Pos}{ta tb:TE3}(ha:PE3 X H0 a ta)(hb:PE3 X H0 b tb)(hs:zba b):PE3 X H0 (.Subscript a b pos) (o3 ix3 ta tb):=
 ⟨zaq zdi ha.mono hb.mono,PE.imp (zcO (zgt H0) ha.ok hb.ok hs) (za1 zdi ha.mono hb.mono)⟩
abbrev TO3:=Env3->(Option Int->Prop)->Prop
def zeM(K:Ybf)(H0:Hp)(t:TO3):TO:=fun σ H Q=>∃ G0 ρ G,Fr3 K H0 G0 ρ σ G H/\t ρ fun o=>∀ G' H',Gr G H G' H'->Q o H'
structure PO3(X:Cx)(H0:Hp)(e:Option Expr)(t:TO3):Prop where
 mono:∀ ρ (Q Q':Option Int->Prop),(∀ c,Q c->Q' c)->t ρ Q->t ρ Q'
 ok:PO X e (zeM X.K H0 t)
theorem PO.imp{e:Option Expr}{t t':TO}(h:PO X e t)(i:∀ σ H Q,t' σ H Q->t σ H Q):PO X e t':=fun pins s σ H Q I q=>h pins s σ H Q I (i _ _ _ q)
def no3:TO3:=fun _ Q=>Q none
def zal(t:TE3):TO3:=fun ρ Q=>t ρ fun c=>∃ i,c=.sh true (.int i)/\Q (some i)
variable{H0:Hp}{pos p2:Pos}
theorem zZ:PO3 X H0 none no3:=⟨fun ρ Q Q' h q=>h _ q,PO.imp ziV fun σ H Q=>el5 fun G0 ρ G F q=>q G H (Gr.refl F.sub)⟩
theorem ja{e:Expr}{t:TE3}(h:PE3 X H0 e t):PO3 X H0 (some e) (zal t):=⟨fun ρ Q Q' hq q=>h.mono ρ _ _ (fun c ⟨i,e,q⟩=>⟨i,e,hq _ q⟩) q,PO.imp (zhb h.ok) fun σ H Q=>el5 fun G0 ρ G F q=>⟨G0,ρ,G,F,h.mono ρ _ _ (fun c hyp v G' H' g w=>by
 obtain⟨i,e,q⟩:=hyp;subst e;exact⟨i,zC (zn w).rd,q G' H' g⟩) q⟩⟩
def cut{α : Type}(xs:List α)(lo hi:Option Int):List α:=(xs.drop (HT.sIx xs.length 0 lo)).take (HT.sIx xs.length xs.length hi - HT.sIx xs.length 0 lo)
def slL3(te:TE3)(tl th:TO3):TN3:=fun ρ Q=>te ρ fun c=>tl ρ fun l=>th ρ fun u=>match c with
 | .sh f (.list ds)=>Q (f||ds.all zo) (cut ds l u)
 | .ow f ds=>Q (f||ds.all zo) (cut ds l u)
 | _=>False
theorem SlR.imp{r r':V->Option Int->Option Int->Hp->VK->Prop}(h:SlR X r)(i:∀ x lo hi H Q,r' x lo hi H Q->r x lo hi H Q):SlR X r':=by
 unfold SlR at *;intros
 apply h<;>first|assumption|skip
 apply i;assumption
theorem zc3{K:Ybf}{H0 G:Hp}{f:Bool}{vs:List V}{ds:List D}(r:Rfs K H0 G f vs ds)(lo hi:Option Int):Rfs K H0 G f (cutV vs lo hi) (cut ds lo hi):=by
 unfold cutV cut;rw [r.length];exact(r.drop _).take _
theorem jd{e:Expr}{lo hi:Option Expr}{te:TE3}{tl th:TO3}(he:PE3 X H0 e te)(hl:PO3 X H0 lo tl)(hh:PO3 X H0 hi th):PN3 X H0 (.Subscript e (.Slice lo hi none p2) pos) (slL3 te tl th):=by
 refine⟨fun ρ Q Q' h q=>he.mono ρ _ _ (fun c=>hl.mono ρ _ _ fun l=>hh.mono ρ _ _ fun u q=>?_) q,PE.imp (zkH zhz he.ok hl.ok hh.ok) fun σ H Q=>el5 fun G0 ρ G F q=>?_⟩
 . split at q
   . exact h _ _ q
   . exact h _ _ q
   . exact q
 . refine⟨G0,ρ,G,F,he.mono ρ _ _ (fun c qc v G1 H1 g1 w1=>⟨G0,ρ,G1,F.gr g1,hl.mono ρ _ _ (fun l ql G2 H2 g2=>⟨G0,ρ,G2,F.gr (g1.trans g2),hh.mono ρ _ _ (fun u qu G3 H3 g3=>?_) ql⟩) qc⟩) q⟩
   have w3:=(w1.gr g2).gr g3;have gg:=(g1.trans g2).trans g3
   split at qu
   . obtain⟨a,xs,rfl,hq,rs⟩:=Jl (zn w3)
     exact⟨a,xs,rfl,g3.sub.seq hq,fun p hp=>qu p _ G3 H3 gg hp (zc3 rs.or _ _)⟩
   . cases w3 with
     | ow h rs n=>exact⟨_,_,rfl,SqL.of h,fun p hp=>qu p _ G3 H3 gg hp (zc3 rs.or _ _)⟩
   . exact qu.elim
def lenD:D->Option Nat
 | .list ds=>some ds.length
 | .tuple ds=>some ds.length
 | .str z=>if z.length<=sizeLine then some z.length else none
 | _=>none
def len3:C3:=fun cs Q=>match cs with
 | [c]=>c.dat=true/\∃ n,lenD c.d=some n/\Q true (.int n)
 | _=>False
theorem zL:CallOk X (.builtin "len") len3:=by
 refine⟨fun cs Q Q' h q=>?_,fun H0=>zK.imp (zK.or zjx zkC) fun xs H Q=>el2 fun G cs s w q=>?_⟩
 . unfold len3 at *;split at q
   . obtain⟨a,n,e,q⟩:=q;exact⟨a,n,e,h _ _ q⟩
   . exact q
 . unfold len3 at q;split at q
   . obtain⟨v,rfl,w1⟩:=vws1 w
     obtain⟨ha,n,hn,q⟩:=q;have r:=w1.rd s ha;generalize e:Cl.d _=d at r hn;cases r with
     | lst hq rs=>cases hn;exact .inl ⟨_,_,rfl,.inl hq,by rw [rs.length];exact q _ G H (Gr.refl s) (.sc rfl (.int _))⟩
     | tup hq rs=>cases hn;exact .inl ⟨_,_,rfl,.inr hq,by rw [rs.length];exact q _ G H (Gr.refl s) (.sc rfl (.int _))⟩
     | str z=>
      have hn':(if z.length<=sizeLine then some z.length else none)=some n:=hn
      split at hn'
      . rename_i hz;cases hn';exact .inr ⟨z,rfl,hz,q _ G H (Gr.refl s) (.sc rfl (.int _))⟩
      . cases hn'
     | _=>cases hn
   . exact q.elim
def abs3:C3:=fun cs Q=>match cs with
 | [.sh _ (.int i)]=>Q true (.int (if i<0 then -i else i))
 | _=>False
theorem zbO:CallOk X (.builtin "abs") abs3:=by
 refine⟨fun cs Q Q' h q=>?_,fun H0=>zK.imp ze6 fun xs H Q=>el2 fun G cs s w q=>?_⟩
 . unfold abs3 at *;split at q
   . exact h _ _ q
   . exact q
 . unfold abs3 at q;split at q
   . obtain⟨v,rfl,w1⟩:=vws1 w
     cases zC (zn w1).rd
     exact⟨_,rfl,q _ G H (Gr.refl s) (.sc rfl (.int _))⟩
   . exact q.elim
def min23:C3:=fun cs Q=>match cs with
 | [.sh _ (.int i),.sh _ (.int j)]=>Q true (.int (if j<i then j else i))
 | _=>False
theorem zb7(hc:X.calm=true):CallOk X (.builtin "min") min23:=by
 refine⟨fun cs Q Q' h q=>?_,fun H0=>zK.imp (zeb hc) fun xs H Q=>el2 fun G cs s w q=>?_⟩
 . unfold min23 at *;split at q
   . exact h _ _ q
   . exact q
 . unfold min23 at q;split at q
   . obtain⟨v,u,rfl,w1,w2⟩:=vws2 w
     cases zC (zn w1).rd;cases zC (zn w2).rd
     exact⟨_,_,rfl,q _ G H (Gr.refl s) (.sc rfl (.int _))⟩
   . exact q.elim
end
end L3
namespace L2
open PySem PySem.Spec PyProof.Rows
def Itz(K:Ybf)(a b:Addr):It:=
 ⟨fun i H=>∃ xs ys x y,SqL K H a xs/\SqL K H b ys/\xs[i]?=some x/\ys[i]?=some y,
  fun i H v H'=>∃ p x y,H p=none/\v=.ref p/\H'=upd H p (.tup [x,y])/\∀ xs ys,SqL K H a xs->SqL K H b ys->xs[i]?=some x/\ys[i]?=some y,
  fun i H=>∃ xs ys,SqL K H a xs/\SqL K H b ys/\i=min xs.length ys.length⟩
theorem ziU{P:Program}{w:World}{K:Ybf}{elts:List Expr}{k:Nat}{pos:Pos}{z TI TO i1 i2 l1 l2:Addr}(D:ZipApart z TI TO i1 i2 l1 l2) :
 Turn P w K (.Tuple elts k pos) (Itz K l1 l2) [z,TI,TO,i1,i2] z (fun i h=>IsZip h z TI TO .none/\IsPair h TI (.ref i1) (.ref i2)/\(∃ a b,IsPair h TO a b)/\h.IsListIter i1 l1 i/\h.IsListIter i2 l2 i) where
 mem:=by simp
 obj:=fun i h hyp c hc=>by
  obtain⟨hz,hTI,⟨a,b,hTO⟩,⟨o1,e1,c1,d1⟩,⟨o2,e2,c2,d2⟩⟩:=hyp;have hc':c=z\/c=TI\/c=TO\/c=i1\/c=i2:=by simpa using hc
  rcases hc' with rfl|rfl|rfl|rfl|rfl
  . exact⟨_,hz,fun v z=>by cases(show Data.fields _=Data.cell v from z)⟩
  . exact⟨_,hTI,fun v z=>by cases(show Data.seq _ _=Data.cell v from z)⟩
  . exact⟨_,hTO,fun v z=>by cases(show Data.seq _ _=Data.cell v from z)⟩
  . exact⟨o1,e1,fun v z=>by rw [d1] at z;cases z⟩
  . exact⟨o2,e2,fun v z=>by rw [d2] at z;cases z⟩
 keep:=fun i h h' ⟨hz,hTI,⟨a,b,hTO⟩,h1,h2⟩ kk=>
  ⟨kk z (by simp) _ hz,kk TI (by simp) _ hTI,⟨a,b,kk TO (by simp) _ hTO⟩,h1.at fun o e=>kk i1 (by simp) o e,h2.at fun o e=>kk i2 (by simp) o e⟩
 item:=by
  intro X hP hw hK hc i pins s σ H E I hf st hg;subst hP hw hK;obtain⟨xs,ys,x,y,q1,q2,hx,hy⟩:=hg;obtain⟨its1,r1,p1,_⟩:=I.list q1;obtain⟨its2,r2,p2,_⟩:=I.list q2;obtain⟨u,hu,ru⟩:=r1.get hx;obtain⟨v,hv,rv⟩:=r2.get hy;have W:=WalksT.zip2 (prog:=X.prog) (w:=X.w) (I.ok.hd hc) z TI TO i1 i2 l1 l2 D its1.toArray its2.toArray;have hi:i<min its1.toArray.size its2.toArray.size:=by
   have a1:=(Ya8.mp hu).1;have a2:=(Ya8.mp hv).1;simp only [YaZ];omega
  obtain⟨hz,hTI,hTO,h1,h2⟩:=st;have olt:∀ b∈[z,TI,TO,i1,i2],b<s.heap.objs.size:=fun b hb=>by
   obtain⟨a,b',hTO'⟩:=hTO;have hc':b=z\/b=TI\/b=TO\/b=i1\/b=i2:=by simpa using hb
   rcases hc' with rfl|rfl|rfl|rfl|rfl
   . exact YaX hz
   . exact YaX hTI
   . exact YaX hTO'
   . obtain⟨_,e,_⟩:=h1;exact YaX e
   . obtain⟨_,e,_⟩:=h2;exact YaX e
  refine W.item i s _ _ hi ⟨hz,hTI,hTO,h1,h2,p1.isList,p2.isList⟩ fun T vals h1' tk hv' hT hTup mid kp=>?_
  obtain⟨u',v',hu',hv'',e⟩:=hv';subst e;have eu:u'=u:=by
   have:its1[i]?=some u':=by simpa using hu'
   rw [hu] at this;cases this;rfl
  have ev:v'=v:=by
   have:its2[i]?=some v':=by simpa using hv''
   rw [hv] at this;cases this;rfl
  subst eu ev;refine⟨_,rfl,W.go elts k pos i T _ _ _ mid fun h2' st2 kp2=>?_⟩
  have sub:∀ b∈[z,TO,i1,i2],b∈[z,TI,TO,i1,i2]:=fun b hb=>by
   have hc':b=z\/b=TO\/b=i1\/b=i2:=by simpa using hb
   rcases hc' with rfl|rfl|rfl|rfl<;>simp
  have I1:Inv X pins σ H { s with heap:=h2',toks:=tk }:=I.turnedL (ch:=[z,TO,i1,i2]) (fun b o hb e=>kp2 b o hb (kp b o hb e)) fun b hb=>hf b (sub b hb)
  have hTn:H T=none:=I.hok.fresh hT;obtain⟨o,ho,oc,on,od⟩:=hTup;have ho2:=kp2 T o (W.apart i T _ mid) ho;have I2:Inv X pins σ (upd H T (.tup [x,y])) { s with heap:=h2',toks:=tk }:=I1.track hTn (Ya5 I.sz hT) (Nat.ne_of_gt (YaU I.lt hT)) (fun n c e z=>by
   obtain⟨vv,q⟩:=I.cell n c e;exact absurd (YaU q.lt (by rw [z];exact hT)) (Yap _)) (fun p hp z=>absurd (YaU (YaX (I.pin p hp).1) (by rw [z];exact hT)) (Yap _))
   ⟨by show 2<=sizeLine;decide,[u',v'],.cons ru (.cons rv .nil),o,ho2,oc,on,od⟩
  refine⟨.ref T,_,I2,rfl,⟨T,x,y,hTn,rfl,rfl,fun xs' ys' z1 z2=>?_⟩,⟨st2.1,st2.2.1,st2.2.2.1,st2.2.2.2.1,st2.2.2.2.2.1⟩,fun b hb=>?_⟩
  . rw [I.list_inj z1 q1,I.list_inj z2 q2];exact⟨hx,hy⟩
  . rw [zh (Yaf (YaU (olt b hb) hT))];exact(hf b hb).1
 done:=by
  intro X hP hw hK hc i pins s σ H E I hf st hg;subst hP hw hK;obtain⟨xs,ys,q1,q2,hi⟩:=hg;obtain⟨its1,r1,p1,_⟩:=I.list q1;obtain⟨its2,r2,p2,_⟩:=I.list q2;have W:=WalksT.zip2 (prog:=X.prog) (w:=X.w) (I.ok.hd hc) z TI TO i1 i2 l1 l2 D its1.toArray its2.toArray;obtain⟨hz,hTI,hTO,h1,h2⟩:=st;have ei:i=min its1.toArray.size its2.toArray.size:=by simp only [YaZ];rw [<-r1.length,<-r2.length];exact hi
  subst ei;refine W.done s _ _ ⟨hz,hTI,hTO,h1,h2,p1.isList,p2.isList⟩ fun h' tk kp=>⟨rfl,?_⟩
  exact I.turnedL (ch:=[z,TO,i1,i2]) kp fun b hb=>hf b (by
   have hc':b=z\/b=TO\/b=i1\/b=i2:=by simpa using hb
   rcases hc' with rfl|rfl|rfl|rfl<;>simp)
 self:=fun _ _ _ _ _ st h=>wpAny_pyIter_zip st.1 h
def iZip(K:Ybf)(ta:TA):TI:=fun σ H R=>ta σ H fun vs H1=>∃ a b,vs=[.ref a,.ref b]/\(∃ xs,SqL K H1 a xs)/\(∃ ys,SqL K H1 b ys)/\R (Itz K a b) H1
theorem zi9{X:Cx}{elts:List Expr}{k:Nat}{tpos:Pos}{a b:Expr}{ta:TA}{p pos:Pos}(hg:Gl X "zip")(hm:X.mg "zip" = none)(ha:PA X [a,b] ta)(hs:starEach [a,b] X.env=[(false,eval a X.env),(false,eval b X.env)]:=by rfl)
 (hs2:starEach [b] X.env=[(false,eval b X.env)]:=by rfl):PI X (.Tuple elts k tpos) (.Call (.Name "zip" p) [a,b] [] pos) (iZip X.K ta):=by
 intro pins s σ H R I h;refine Call_ (j8 I hg hm zgF (Wab (thn (ha pos pins s σ H _ I h) fun us s1 ⟨vs,H1,I1,r1,q1⟩=>?_) (by rw [hs,hs2]) (by rw [hs2];rfl)))
 obtain⟨l1,l2,e,⟨xs,hx⟩,⟨ys,hy⟩,q⟩:=q1;subst e;obtain⟨u,v,rfl,ru,rv⟩:=zai r1;cases(show u=Value.ref l1 from ru)
 cases(show v=Value.ref l2 from rv)
 obtain⟨its1,_,p1,_⟩:=I1.list hx;obtain⟨its2,_,p2,_⟩:=I1.list hy;have lt1:l1<s1.heap.objs.size:=by obtain⟨o,e,_⟩:=p1.isList;exact YaX e
 have lt2:l2<s1.heap.objs.size:=by obtain⟨o,e,_⟩:=p2.isList;exact YaX e
 refine call_zip_2 p1.isList p2.isList fun h' hz hTI hTO hi1 hi2 hsz kp=>wpAny_pyIter_zip hz ?_
 have I2:Inv X pins σ H1 { s1 with heap:=h' }:=I1.kept (t':=s1.toks) kp
 have D:ZipApart (s1.heap.objs.size+4) (s1.heap.objs.size+2) (s1.heap.objs.size+3) s1.heap.objs.size (s1.heap.objs.size+1) l1 l2:=PySem.W.ktu_apart _ _ _ lt1 lt2;refine⟨_,[s1.heap.objs.size+4,s1.heap.objs.size+2,s1.heap.objs.size+3,s1.heap.objs.size,s1.heap.objs.size+1],_,Itz X.K l1 l2,H1,rfl,I2,ziU D,⟨hz,hTI,⟨_,_,hTO⟩,hi1,hi2⟩,fun b hb=>?_,q⟩
 have hb':s1.heap.objs.size<=b:=by
  have hc':b=s1.heap.objs.size+4\/b=s1.heap.objs.size+2\/b=s1.heap.objs.size+3\/b=s1.heap.objs.size\/b=s1.heap.objs.size+1:=by simpa using hb
  rcases hc' with rfl|rfl|rfl|rfl|rfl<;>first|exact YaY _|exact Nat.le_add_right _ _
 have f:=I1.fpOk (H':=H1) hb' (I1.hok.fresh hb');exact⟨f.1,f.2.1,f.2.2.1,f.2.2.2.1,f.2.2.2.2.1,f.2.2.2.2.2⟩
section
variable{X:Cx}
theorem zft{us:List Value}{ns:List Int}(h:IntsAre us ns):∃ xs:Array (Int×Tok),us.toArray=intItems xs/\xs.toList.map (·.1)=ns:=by
 obtain⟨xs,e⟩:=h.allInts.items;refine⟨xs,e,?_⟩;have e1:=h.numsOf;have e2:us=xs.toList.map fun p=>Value.int p.1 p.2:=by
  have:=congrArg Array.toList e
  simpa [intItems] using this
 rw [e2,numsOf_map] at e1;exact e1
theorem zhn(hc:X.calm=true):zK X (.builtin "sum") (fun xs H Q=>∃ (p:Addr) (ns:List Int),xs=[.ref p]/\SqL X.K H p (ns.map V.int)/\Q (.int ns.sum) H):=by
 intro pins s σ H xs us Q I r h;obtain⟨p,ns,rfl,hq,q⟩:=h;obtain⟨u,rfl,ru⟩:=Ji r;cases(show u=Value.ref p from ru)
 obtain⟨its,rv,pl,_⟩:=I.list hq;obtain⟨ys,e1,e2⟩:=zft (zdv rv);have hl:=pl.isList;rw [e1] at hl;refine sum_intListG (I.ok.hd hc) hl fun h' tk t' kp=>⟨.int ns.sum,H,I.kept (t':=tk) kp,⟨t',?_⟩,q⟩
 rw [preSum_eq,List.take_of_length_le (by simp),e2]
end
section
variable{X:Cx}
end
end L2
namespace L3
open PySem PySem.Spec PyProof.Rows L2
variable[LamW]
section
variable{X:Cx}{H0:Hp}{pos p:Pos}{e:Expr}
def Jy:List D->Option (List Int)
 | []=>some []
 | .int i::r=>(Jy r).map (i :: ·)
 | _::_=>none
theorem Zc(ns:List Int):Jy (ns.map .int)=some ns:=by
 induction ns with
 | nil=>rfl
 | cons a r ih=>simp [Jy,ih]
theorem zgN{K:Ybf}{G:Hp}{vs:List V}{ds:List D}{ns:List Int}(r:RdVs K G vs ds)(e:Jy ds=some ns):vs=ns.map V.int:=by
 induction vs generalizing ds ns with
 | nil=>cases r;cases e;rfl
 | cons v vs ih=>
  cases r with
  | @cons _ _ d ds a b=>
   cases d with
   | int i=>
    have e':(Jy ds).map (i :: ·)=some ns:=e;cases q:Jy ds with
    | none=>rw [q] at e';cases e'
    | some ms=>
     rw [q] at e';cases e';rw [Ya1,ih b q,zC a]
   | _=>cases e
theorem ZP{K:Ybf}{H0 G H:Hp}{v:V}{c:Cl}{ds:List D}(w:Vw K H0 G H v c)(s:Sub G H)(hd:c.dat=true)(h:c.d=.list ds):∃ a vs,v=.ref a/\SqL K H a vs/\Rfs K H0 G c.f vs ds:=by
 cases w with
 | sh r=>
  have h':_=PyData.list ds:=h;subst h';obtain⟨a,xs,rfl,hq,rs⟩:=Jl r;exact⟨a,xs,rfl,s.seq hq,rs⟩
 | ow hh r n=>cases h;exact⟨_,_,rfl,SqL.of hh,r⟩
 | tr hh=>cases hd
 | dt _ _ _=>cases hd
 | dk _ _=>cases hd
 | fd _ _ _=>cases hd
 | tk _=>cases h
 | dm _ _=>cases hd
 | ex hh=>cases hd
def sum3:C3:=fun cs Q=>match cs with
 | [c]=>c.dat=true/\∃ ds ns,c.d=.list ds/\Jy ds=some ns/\Q true (.int ns.sum)
 | _=>False
theorem JR(hc:X.calm=true):CallOk X (.builtin "sum") sum3:=by
 refine⟨fun cs Q Q' h q=>?_,fun H0=>zK.imp (zhn hc) fun xs H Q=>el2 fun G cs s w q=>?_⟩
 . unfold sum3 at *;split at q
   . obtain⟨a,ds,ns,h1,h2,q⟩:=q;exact⟨a,ds,ns,h1,h2,h _ _ q⟩
   . exact q
 . unfold sum3 at q;split at q
   . obtain⟨v,rfl,w1⟩:=vws1 w
     obtain⟨a,ds,ns,h1,h2,q⟩:=q;obtain⟨l,vs,rfl,hq,rs⟩:=ZP w1 s a h1;cases zgN rs.rd h2;exact⟨l,ns,rfl,hq,q _ G H (Gr.refl s) (.sc rfl (.int _))⟩
   . exact q.elim
def ZO(t:TA3):TN3:=fun ρ Q=>t ρ fun cs=>∃ c ds,cs=[c]/\c.dat=true/\(c.d=.list ds\/c.d=.tuple ds)/\Q (c.f||ds.all zo) ds
theorem Jq{x:Str}{es:List Expr}{t:TA3}(hg:Gl X x)(hm:X.mg x=none)(hv:bootBuiltins x=some (.type "list"))(ha:PA3 X H0 (e::es) t)(hn:x≠"__name__":=by decide)(hdb:(x==("__debug__" : Str))=false:=by decide)
 (he:starEach (e::es) X.env=(false,eval e X.env)::starEach es X.env:=by rfl) (hpl:(backTo pos (starEach es X.env)).any (·.1)=false:=by rfl):PN3 X H0 (.Call (.Name x p) (e::es) [] pos) (ZO t):=
 ⟨fun ρ Q Q' h q=>ha.mono ρ _ _ (fun cs ⟨c,ds,a,b,d,q⟩=>⟨c,ds,a,b,d,h _ _ q⟩) q,PE.imp (ziv zki hg hm hv ha.ok hn hdb he hpl) fun σ H Q=>el5 fun G0 ρ G F q=>⟨G0,ρ,G,F,ha.mono ρ _ _ (fun cs hyp vs G1 H1 g1 w=>by
  obtain⟨c,ds,a,b,d,k⟩:=hyp;subst a;obtain⟨v,rfl,w1⟩:=vws1 w
  rcases d with d|d
  . obtain⟨l,us,rfl,hq,rs⟩:=ZP w1 g1.sub b d
    exact⟨l,us,rfl,.inl hq,fun l' hl=>k l' us G1 H1 g1 hl rs.or⟩
  . cases w1 with
    | sh r=>
     have d':_=PyData.tuple ds:=d;subst d';obtain⟨l,us,rfl,hq,rs⟩:=zaz r;exact⟨l,us,rfl,.inr (g1.sub.tup hq),fun l' hl=>k l' us G1 H1 g1 hl rs.or⟩
    | ow _ _ _=>cases d
    | tr _=>cases d
    | dt _ _ _=>cases d
    | dk _ _=>cases d
    | fd _ _ _=>cases d
    | tk h=>
     cases d;exact⟨_,_,rfl,.inr (g1.sub.tup (SqT.of h)),fun l' hl=>k l' _ G1 H1 g1 hl (⟨Z2 _,fun _=>zav _⟩:Rfs _ _ _ true _ _).or⟩
    | dm _ _=>cases b
    | ex _=>cases b) q⟩⟩
def catN(ta tb:TE3):TN3:=fun ρ Q=>ta ρ fun a=>tb ρ fun b=>∃ ds es,a.dat=true/\b.dat=true/\a.d=.list ds/\b.d=.list es/\ds.length+es.length<=sizeLine/\Q ((a.f||ds.all zo)&&(b.f||es.all zo)) (ds++es)
theorem zic:OpR X (binaryOp .Add) (fun x y H Q=>∃ l b xs zs,x=.ref l/\y=.ref b/\SqL X.K H l xs/\SqL X.K H b zs/\xs.length+zs.length<=sizeLine/\∀ p,H p=none->Q (.ref p) (upd H p (.lst (xs++zs)))):=by
 intro pins s σ H x y v u Q I rx ry h;obtain⟨l,b,xs,zs,rfl,rfl,hl,hb,hz,k⟩:=h;cases rx;cases ry;obtain⟨its,rv,pl,_⟩:=I.list hl;obtain⟨its',rv',pl',_⟩:=I.list hb;obtain⟨⟨cls,dd,data,sl⟩,ho,hc,n,hd⟩:=pl.isList;obtain⟨⟨cls2,dd2,data2,sl2⟩,ho2,hc2,n2,hd2⟩:=pl'.isList;simp only at hc hd hc2 hd2;subst hc hd hc2 hd2;have e:its.toArray++its'.toArray=(its++its').toArray:=by simp
 refine concat_meets ⟨_,ho,rfl⟩ ⟨_,ho2,rfl⟩ noFill_list_add seq_list_add PySem.F.slot_list_add PySem.F.entry_list_add (PySem.F.args_list_add_2 _ _) (list_addW l b its.toArray its'.toArray n n2 dd dd2 sl sl2 (by rw [YaZ,YaZ,<-rv.length,<-rv'.length];exact hz)) ⟨ho,ho2,?_⟩
 rw [e];exact⟨.ref _,_,I.lnew (t':=s.toks) (rv.append rv') (by rw [YaS];exact hz),rfl,k _ I.fresh⟩
theorem cat3{a b:Expr}{ta tb:TE3}(ha:PE3 X H0 a ta)(hb:PE3 X H0 b tb):PN3 X H0 (.BinOp a .Add b pos) (catN ta tb):=
 ⟨fun ρ Q Q' h q=>ha.mono ρ _ _ (fun a=>hb.mono ρ _ _ fun b ⟨ds,es,h1,h2,h3,h4,h5,q⟩=>⟨ds,es,h1,h2,h3,h4,h5,h _ _ q⟩) q,PE.imp (zbw zic ha.ok hb.ok) fun σ H Q=>el5 fun G0 ρ G F q=>⟨G0,ρ,G,F,ha.mono ρ _ _ (fun a qa v1 G1 H1 g1 w1=>⟨G0,ρ,G1,F.gr g1,hb.mono ρ _ _ (fun b hyp v2 G2 H2 g2 w2=>by
  obtain⟨ds,es,h1,h2,h3,h4,h5,k⟩:=hyp;obtain⟨l,us,rfl,hq,rs⟩:=ZP (w1.gr g2) g2.sub h1 h3;obtain⟨m,us',rfl,hq',rs'⟩:=ZP w2 g2.sub h2 h4;exact⟨l,m,us,us',rfl,rfl,hq,hq',by rw [rs.length,rs'.length];exact h5,fun p hp=>k p _ G2 H2 (g1.trans g2) hp (rs.or.append rs'.or)⟩) qa⟩) q⟩⟩
def zipD:List D->List D->List D
 | a::as,b::bs=>.tuple [a,b]::zipD as bs
 | _,_=>[]
theorem zdH:∀ as bs,(zipD as bs).length=min as.length bs.length
 | [],_=>by simp [zipD]
 | _::_,[]=>by simp [zipD]
 | a::as,b::bs=>by simp [zipD,zdH as bs,Nat.succ_min_succ]
theorem zdT:∀ {as bs:List D} {i:Nat} {d:D},(zipD as bs)[i]?=some d->∃ a b,d=.tuple [a,b]/\as[i]?=some a/\bs[i]?=some b
 | [],_,i,d,h=>by simp [zipD] at h
 | _::_,[],i,d,h=>by simp [zipD] at h
 | a::as,b::bs,0,d,h=>by cases h;exact⟨a,b,rfl,rfl,rfl⟩
 | a :: as, b :: bs, i + 1, d, h => by
  obtain⟨x,y,h1,h2,h3⟩:=zdT (i:=i) (show(zipD as bs)[i]?=some d from h)
  exact⟨x,y,h1,h2,h3⟩
def itZ(t:TA3):TI3:=fun ρ Q=>t ρ fun cs=>∃ f g as bs,cs=[.sh f (.list as),.sh g (.list bs)]/\Q (f&&g) (zipD as bs)
theorem zjd{K:Ybf}{H0 G:Hp}{a b:Addr}{xs ys:List V}{f g:Bool}{as bs:List D}(h1:SqL K G a xs)(r1:Rfs K H0 G f xs as)(h2:SqL K G b ys)(r2:Rfs K H0 G g ys bs):ItOk K H0 (Itz K a b) (f&&g) (zipD as bs) G where
 go:=fun i d G' H hd s1 s2=>by
  obtain⟨p,q,rfl,hp,hq⟩:=zdT hd;obtain⟨x,hx,rx⟩:=r1.get hp;obtain⟨y,hy,ry⟩:=r2.get hq;have ss:=s1.trans s2.s;refine⟨⟨xs,ys,x,y,ss.seq h1,ss.seq h2,hx,hy⟩,fun v H' ⟨l,x',y',hl,e1,e2,hh⟩=>?_⟩
  subst e1 e2;obtain⟨z1,z2⟩:=hh xs ys (ss.seq h1) (ss.seq h2);rw [hx] at z1;rw [hy] at z2;cases z1;cases z2;have gl:=zS (s2.free hl) (.tup [x,y]);exact⟨upd G' l (.tup [x,y]),Gr.put s2 hl,⟨.tup (SqT.of zp) (.cons (J8 (s1.trans gl) rx.rd) (.cons (J8 (s1.trans gl) ry.rd) .nil)),fun hf=>by
   rw [Yak] at hf;exact .tup zp (.cons (jx (s1.trans gl) (fun _ _ _ z=>z) (rx.nw hf.1)) (.cons (jx (s1.trans gl) (fun _ _ _ z=>z) (ry.nw hf.2)) .nil))⟩⟩
 stop:=fun i G' H hl s1 s2=>⟨xs,ys,(s1.trans s2.s).seq h1,(s1.trans s2.s).seq h2,by rw [hl,zdH,r1.length,r2.length]⟩
theorem zjp{elts:List Expr}{k:Nat}{tpos:Pos}{a b:Expr}{t:TA3}(hg:Gl X "zip")(hm:X.mg "zip" = none)(ha:PA3 X H0 [a,b] t)(hs:starEach [a,b] X.env=[(false,eval a X.env),(false,eval b X.env)]:=by rfl)
 (hs2:starEach [b] X.env=[(false,eval b X.env)]:=by rfl):PI3 X H0 (.Tuple elts k tpos) (.Call (.Name "zip" p) [a,b] [] pos) (itZ t):=
 ⟨fun ρ Q Q' h q=>ha.mono ρ _ _ (fun cs ⟨f,g,as,bs,e,q⟩=>⟨f,g,as,bs,e,h _ _ q⟩) q,PI.imp (zi9 hg hm ha.ok hs hs2) fun σ H R=>el5 fun G0 ρ G F q=>⟨G0,ρ,G,F,ha.mono ρ _ _ (fun cs hyp vs G' H' g w=>by
  obtain⟨fl,fm,as,bs,e,k⟩:=hyp;subst e;obtain⟨v,u,rfl,w1,w2⟩:=vws2 w;obtain⟨x,xs,rfl,hx,rx⟩:=Jl (zn w1);obtain⟨y,ys,rfl,hy,ry⟩:=Jl (zn w2);exact⟨x,y,rfl,⟨xs,g.sub.seq hx⟩,⟨ys,g.sub.seq hy⟩,k _ G' H' g (zjd hx rx hy ry)⟩) q⟩⟩
end
variable[LamW]
section
variable{K:Ybf}{H0 G0:Hp}{ρ : Env3}{σ : L2.St}{G H:Hp}
theorem Fr3.exc(F:Fr3 K H0 G0 ρ σ G H){i:Nat}{a C:Addr}(h:H a=some (excO a C)):Fr3 K H0 G0 (ρ.set i (some (.ex C))) (σ.set i (some (.ref a))) G H:=F.put (zu.refl _) (.ex h) fun _ h=>False.elim h
theorem Fr3.gone(F:Fr3 K H0 G0 ρ σ G H){i:Nat}:Fr3 K H0 G0 (ρ.set i none) (σ.set i none) G H where
 keep:=F.keep
 sub:=F.sub
 old:=F.old
 g0:=F.g0
 slot:=fun j c e=>by
  rcases zD e with ⟨rfl,q,hl⟩|⟨n,q⟩
  . cases q
  . obtain⟨v',h1,h2⟩:=F.slot j c q
    exact⟨v',by rw [Yac n];exact h1,h2⟩
 mine:=fun j c v a e e' h=>by
  rcases zD e with ⟨rfl,q,hl⟩|⟨n,q⟩
  . cases q
  . rw [Yac n] at e'
    exact F.mine j c v a q e' h
 apart:=fun j k c1 c2 v1 v2 a e1 e2 e3 e4 h1 h2=>by
  rcases zD e1 with ⟨rfl,q,hl⟩|⟨n,q⟩
  . cases q
  . rcases zD e2 with ⟨rfl,q',hl⟩|⟨n',q'⟩
    . cases q'
    . rw [Yac n] at e3
      rw [Yac n'] at e4;exact F.apart j k c1 c2 v1 v2 a q q' e3 e4 h1 h2
 len:=by rw [YaN,YaN];exact F.len
end
abbrev TX3:=Ends3->(Addr->Prop)->Env3->Prop
def ze2(K:Ybf)(H0:Hp)(t:TX3):TX:=fun B E σ H=>∃ G0 A E3 ρ G,Fr3 K H0 G0 ρ σ G H/\t A E3 ρ/\LD K H0 G0 A B/\∀ C H',E3 C->zu H H'->E C H'
def PX3(X:Cx)(H0:Hp)(st:List Stmt)(t:TX3):Prop:=PX X st (ze2 X.K H0 t)
theorem PX.imp{X:Cx}{e:List Stmt}{t t':TX}(h:PX X e t)(i:∀ B E σ H,t' B E σ H->t B E σ H):PX X e t':=fun pins s σ H B E I q=>h pins s σ H B E I (i _ _ _ _ q)
section
variable{X:Cx}{H0:Hp}{pos pos' p:Pos}{e:Expr}{es:List Expr}{x:Str}
def ZV(sp:Sp3)(ta:TA3):TX3:=fun A E ρ=>ta ρ fun cs=>cs.all Cl.dat=true/\sp (cs.map Cl.d) (fun _ _=>A.nx ρ) E
theorem zfw{k:Nat}{ps:List Str}{sp:Sp3}{t:TA3}(Gd:Df3 X.prog X.w X.K X.mg X.base k x ps sp)(hr:Room k X.A)(hg:Gl X x)(ha:PA3 X.nox H0 (e::es) t)(hdb:(x==("__debug__" : Str))=false:=by decide)
 (he:starEach (e::es) X.env=(false,eval e X.env)::starEach es X.env:=by rfl) (hpl:(backTo pos (starEach es X.env)).any (·.1)=false:=by rfl)
 (hs:swapsWith (.Call (.Name x p) (e::es) [] pos) none pos'.line X.env=pure false:=by rfl):PX3 X H0 [.Expr (.Call (.Name x p) (e::es) [] pos) pos'] (ZV sp t):=
 PX.imp (zkw Gd.ok hr hg ha.ok hdb he hpl hs) fun B E σ H ⟨G0,A,E3,ρ,G,F,q,L,hE⟩=>⟨G0,ρ,G,F,ha.mono ρ _ _ (fun cs ⟨hd,qc⟩ vs G1 H1 g1 w=>⟨cln H1,cs.map Cl.d,zbR H1,rdvs_cln (w.rds g1.sub hd),
  Gd.mono _ _ _ _ _ (fun f d k v G' H' g r=>L.nx ρ σ G1 H' ((F.gr g1).gr ⟨Same.refl _,g.h,g1.sub.trans g.h,fun _ _ e=>.inl e⟩) k) (fun C c H' s=>⟨C,rfl,hE C H' c (g1.h.trans s)⟩) qc⟩) q⟩
def try3(K:Ybf)(CC:Addr)(i:Nat)(tx:TX3)(th:TS3):TS3:=fun A ρ=>tx A (fun C=>PySem.W.exmOne K (.ref C) (.ref CC)=some true/\
 th { nx:=fun ρ'=>A.nx (ρ'.set i none),rt:=A.rt,bk:=fun ρ'=>A.bk (ρ'.set i none),ct:=fun ρ'=>A.ct (ρ'.set i none),rm:=fun _ _=>False } (ρ.set i (some (.ex C)))) ρ
theorem zgc{rest:List ExceptHandler}{body:List Stmt}{b₀ : Stmt}{suite:List Stmt}{cx n:Str}{CC:Addr}{i:Nat}{np hpos:Pos}{tx:TX3}{th:TS3}(hst:X.stack=X.env::X.outer)(hfr:X.env.frame=some X.env.locals)(hN:X.N.Nodup)(hi:X.N[i]?=some n)
 (hk:X.env.scope.names.lookup n=some .local) (hg:Gl X cx) (hm:X.mg cx=some (.ref CC)) (hb:PX3 X H0 body tx) (hh:∀ ea,PSs3 (X.inExc ea) H0 (b₀ :: suite) th) (hdb:(cx==("__debug__" : Str))=false:=by decide) :
 PS3 X H0 (.Try body (.ExceptHandler (some (.Name cx np)) (some n) (b₀ :: suite) hpos::rest) [] [] pos) (try3 X.K CC i tx th):=
 PS.imp (zko (th:=fun ea=>zbX X.K H0 th) hst hfr hN hi hk hg hm hb hh hdb) fun B σ H=>el7 fun G0 A ρ G F q L=>
  ⟨G0,A,_,ρ,G,F,q,L,fun C H1 ⟨hx,hth⟩ s1=>⟨hx,fun ea hea=>by
   have g1:Gr G H G H1:=⟨Same.refl _,s1,F.sub.trans s1,fun _ _ e=>.inl e⟩
   have g2:Gr G H1 G (upd H1 ea (excO ea C)):=Gr.apart g1.sub hea;exact⟨G0,_,ρ.set i (some (.ex C)),G,((F.gr g1).gr g2).exc zp,hth,⟨fun ρ' σ' G' H' F' q'=>L.nx _ _ _ _ F'.gone q',L.rt,fun ρ' σ' G' H' F' q'=>L.bk _ _ _ _ F'.gone q',fun ρ' σ' G' H' F' q'=>L.ct _ _ _ _ F'.gone q',fun _ _ _ _ _ _ _ _ _ q=>q.elim⟩⟩⟩⟩
def isxr(K:Ybf)(A:Addr)(te:TE3):TE3:=fun ρ Q=>te ρ fun c=>∃ C b,c=.ex C/\XAttr K C/\PySem.W.kitOne K (.ref C) (.ref A)=some b/\Q (.sh true (.bool b))
def isxy(K:Ybf)(n:String)(te:TE3):TE3:=fun ρ Q=>te ρ fun c=>∃ C b,c=.ex C/\XAttr K C/\PySem.W.kitOne K (.ref C) (.type n)=some b/\Q (.sh true (.bool b))
def isxt(K:Ybf)(As:List Addr)(te:TE3):TE3:=fun ρ Q=>te ρ fun c=>∃ C b,c=.ex C/\XAttr K C/\PySem.W.kitAny K (.ref C) (As.map Value.ref)=some b/\Q (.sh true (.bool b))
theorem zbr{K:Ybf}{H0 G H:Hp}{v:V}{C:Addr}(w:Vw K H0 G H v (.ex C)):∃ a,v=.ref a/\H a=some (excO a C):=by
 cases w with
 | ex h=>exact⟨_,rfl,h⟩
theorem zbP{nf:Str}{K':Ybf}(hK:X.K=K'){A:Addr}{p2:Pos}{te:TE3}(hg:Gl X nf)(hm:X.mg nf=none)(hnf:nf = "isinstance")(hg2:Gl X x)(hm2:X.mg x=some (.ref A))(he:PE3 X H0 e te)
 (h1:starEach [e,.Name x p2] X.env=(false,eval e X.env)::starEach [.Name x p2] X.env:=by rfl) (h2:starEach [.Name x p2] X.env=(false,eval (.Name x p2) X.env)::starEach [] X.env:=by rfl)
 (hpl:(backTo pos (starEach [.Name x p2] X.env)).any (·.1)=false:=by rfl) (hdx:(x==("__debug__" : Str))=false:=by decide):PE3 X H0 (.Call (.Name nf p) [e,.Name x p2] [] pos) (isxr K' A te):=by
 subst hK;subst hnf;exact⟨fun ρ Q Q' h q=>he.mono ρ _ _ (fun c ⟨C,b,a,d,f,q⟩=>⟨C,b,a,d,f,h _ q⟩) q,PE.imp (ZM (x:="isinstance") zgg hg hm zbC (z9 he.ok (z9 (zaA (v:=.ref A) hg2 hm2 rfl hdx) jt h2) h1) #[1] #[1] h1 hpl) fun σ H Q=>el5 fun G0 ρ G F q=>⟨G0,ρ,G,F,he.mono ρ _ _ (fun c hyp v G1 H1 g1 w=>by
  obtain⟨C,b,hc,Y,hk,k⟩:=hyp;subst hc;obtain⟨a,rfl,ha⟩:=zbr w;exact⟨a,C,A,b,rfl,ha,Y,hk,k _ G1 H1 g1 (.sh (.sc rfl (.bl b)))⟩) q⟩⟩
theorem zeP{nf:Str}{K':Ybf}(hK:X.K=K'){n:String}{p2:Pos}{te:TE3}(hg:Gl X nf)(hm:X.mg nf=none)(hnf:nf = "isinstance")(hg2:Gl X x)(hm2:X.mg x=none)(hv:bootBuiltins x=some (.type n))(he:PE3 X H0 e te)(hn:x≠"__name__":=by decide)
 (h1:starEach [e,.Name x p2] X.env=(false,eval e X.env)::starEach [.Name x p2] X.env:=by rfl) (h2:starEach [.Name x p2] X.env=(false,eval (.Name x p2) X.env)::starEach [] X.env:=by rfl)
 (hpl:(backTo pos (starEach [.Name x p2] X.env)).any (·.1)=false:=by rfl) (hdx:(x==("__debug__" : Str))=false:=by decide):PE3 X H0 (.Call (.Name nf p) [e,.Name x p2] [] pos) (isxy K' n te):=by
 subst hK;subst hnf;exact⟨fun ρ Q Q' h q=>he.mono ρ _ _ (fun c ⟨C,b,a,d,f,q⟩=>⟨C,b,a,d,f,h _ q⟩) q,PE.imp (ZM (x:="isinstance") ziL hg hm zbC (z9 he.ok (z9 (zg4 (v:=.ty n) hg2 hm2 hv rfl hn hdx) jt h2) h1) #[1] #[1] h1 hpl) fun σ H Q=>el5 fun G0 ρ G F q=>⟨G0,ρ,G,F,he.mono ρ _ _ (fun c hyp v G1 H1 g1 w=>by
  obtain⟨C,b,hc,Y,hk,k⟩:=hyp;subst hc;obtain⟨a,rfl,ha⟩:=zbr w;exact⟨a,C,n,b,rfl,ha,Y,hk,k _ G1 H1 g1 (.sh (.sc rfl (.bl b)))⟩) q⟩⟩
def PCl(X:Cx)(es:List Expr)(As:List Addr):Prop:=PA X es (fun _ H Q=>Q (As.map V.ref) H)
theorem zcj:PCl X [] []:=fun pos pins s σ H Q I h=>jt pos pins s σ H Q I h
theorem jq{A:Addr}{As:List Addr}{p2:Pos}(hg:Gl X x)(hm:X.mg x=some (.ref A))(h:PCl X es As)(hs:starEach (.Name x p2::es) X.env=(false,eval (.Name x p2) X.env)::starEach es X.env:=by rfl)(hdx:(x==("__debug__" : Str))=false:=by decide):PCl X (.Name x p2::es) (A::As):=
 fun pos pins s σ H Q I q=>z9 (zaA (v:=.ref A) hg hm rfl hdx) h hs pos pins s σ H Q I q
theorem zdO{nf:Str}{K':Ybf}(hK:X.K=K'){As:List Addr}{p2:Pos}{k2}{te:TE3}(hg:Gl X nf)(hm:X.mg nf=none)(hnf:nf = "isinstance")(hcl:PCl X es As)(hlen:As.length<=sizeLine)(he:PE3 X H0 e te)
 (h1:starEach [e,.Tuple es k2 p2] X.env=(false,eval e X.env)::starEach [.Tuple es k2 p2] X.env:=by rfl) (h2:starEach [.Tuple es k2 p2] X.env=(false,eval (.Tuple es k2 p2) X.env)::starEach [] X.env:=by rfl)
 (hpl:(backTo pos (starEach [.Tuple es k2 p2] X.env)).any (·.1)=false:=by rfl):PE3 X H0 (.Call (.Name nf p) [e,.Tuple es k2 p2] [] pos) (isxt K' As te):=by
 subst hK;subst hnf;exact⟨fun ρ Q Q' h q=>he.mono ρ _ _ (fun c ⟨C,b,a,d,f,q⟩=>⟨C,b,a,d,f,h _ q⟩) q,PE.imp (ZM (x:="isinstance") zhW hg hm zbC (z9 he.ok (z9 (zaN hcl) jt h2) h1) #[1] #[1] h1 hpl) fun σ H Q=>el5 fun G0 ρ G F q=>⟨G0,ρ,G,F,he.mono ρ _ _ (fun c hyp v G1 H1 g1 w=>by
  obtain⟨C,b,hc,Y,hk,k⟩:=hyp;subst hc;obtain⟨a,rfl,ha⟩:=zbr w;refine⟨by rw [YaR];exact hlen,fun tp htp=>⟨a,C,tp,As,b,rfl,?_,Y,zp,hk,k _ G1 _ (g1.trans (Gr.apart g1.sub htp)) (.sh (.sc rfl (.bl b)))⟩⟩
  rw [zh (zP ha htp)];exact ha) q⟩⟩
end
variable[LamW]
theorem zaS{P:Program}{w:World}{X:Cx}:Passes (CXR P w) X (fun _ _ _=>False):=fun _ _ _ _ _ _ _ ⟨_,_,_,_,_,h⟩=>h.elim
section
variable{X:Cx}{H0:Hp}{pos:Pos}{x:Str}
theorem g3i{i:Int}(hg:Gl X x)(hm:∃ t,X.mg x=some (.int i t))(hd:(x==("__debug__" : Str))=false:=by decide):PE3 X H0 (.Name x pos) (k3 (.int i)):=by
 obtain⟨t,hm⟩:=hm;exact g3 (v:=.int i) hg hm ⟨t,rfl⟩ (fun _=>.int i) rfl hd
theorem g3s{i:Str}(hg:Gl X x)(hm:∃ t,X.mg x=some (.str i t))(hd:(x==("__debug__" : Str))=false:=by decide):PE3 X H0 (.Name x pos) (k3 (.str i)):=by
 obtain⟨t,hm⟩:=hm;exact g3 (v:=.str i) hg hm ⟨t,rfl⟩ (fun _=>.str i) rfl hd
end
theorem sz{n:Nat}(h:n<=1000000):n<=sizeLine:=Ya5 h #[1]
theorem sz0:(0<=sizeLine)=True:=eq_true #[1]
theorem sz1:(1<=sizeLine)=True:=eq_true #[1]
theorem sz2:(2<=sizeLine)=True:=eq_true #[1]
theorem sz3:(3<=sizeLine)=True:=eq_true #[1]
theorem sz4:(4<=sizeLine)=True:=eq_true #[1]
theorem sz5:(5<=sizeLine)=True:=eq_true #[1]
theorem zbx{K:Ybf}{H:Hp}:∀ ns:List Int,RdVs K H (ns.map V.int) (ns.map PyData.int)
 | []=>.nil
 | a::r=>.cons (.int a) (zbx r)
theorem ZA{g:TG3}{tb:TS3}{A:Ends3}{f:Bool}(P:List D->Env3->Prop)(s:∀ d ds ρ,P (d::ds) ρ->∀ W:Env3->Prop,(∀ ρ',P ds ρ'->W ρ')->g f d ρ fun ρ'=>tb { A with nx:=W,ct:=W,bk:=A.nx } ρ')(e:∀ ρ,P [] ρ->A.nx ρ):∀ ds ρ,P ds ρ->forL g tb A f ds ρ
 | [],ρ,h=>e ρ h
 | d::ds,ρ,h=>s d ds ρ h _ fun ρ' p=>ZA P s e ds ρ' p
theorem zg{a b:TS3}{A:Ends3}{ρ : Env3}(h:∀ N:Env3->Prop,(∀ ρ',b A ρ'->N ρ')->a { A with nx:=N } ρ):seq3 a b A ρ:=h (b A) fun _ z=>z
theorem zH{a b:TS3}{A:Ends3}{ρ : Env3}(M:Env3->Prop)(h1:∀ N:Env3->Prop,(∀ ρ',M ρ'->N ρ')->a { A with nx:=N } ρ)(h2:∀ ρ',M ρ'->b A ρ'):seq3 a b A ρ:=h1 (b A) h2
theorem j1{c:TT3}{t u:TS3}{A:Ends3}{ρ : Env3}(h:∀ Y N:Prop,(t A ρ->Y)->(u A ρ->N)->c ρ fun k=>if k=true then Y else N):ifS3 c t u A ρ:=h (t A ρ) (u A ρ) id id
theorem Zg{c:TT3}{tb:TS3}{A:Ends3}(P:Nat->Env3->Prop)(h:∀ n ρ,P n ρ->∀ W:Env3->Prop,(∀ m ρ',m<n->P m ρ'->W ρ')->c ρ fun k=>if k=true then tb { A with nx:=W,ct:=W,bk:=A.nx } ρ else A.nx ρ):∀ n ρ,P n ρ->whN c tb A (n+1) ρ
 | n, ρ, p => by
  have key:∀ k m ρ,m<=k->P m ρ->whN c tb A (k+1) ρ:=by
   intro k
   induction k with
   | zero=>intro m ρ hm p;exact h m ρ p _ (fun m' ρ' hlt _=>absurd hlt #[0])
   | succ k ih=>intro m ρ hm p;exact h m ρ p _ (fun m' ρ' hlt p'=>ih m' ρ' #[0] p')
  exact key n n ρ (YaY _) p
variable[LamW]
theorem zX{α : Type}{g:TG3}{tt:TT3}{te:TE3}{f:Bool}(enc out:α->D)(R:Env3->Prop):∀ (xs:List α),(∀ x∈xs,∀ ρ fa acc (K:Bool->List D->Env3->Prop),R ρ->(∀ ρ',R ρ'->K fa (acc++[out x]) ρ')->
 g f (enc x) ρ fun ρ'=>tt ρ' fun k=>if k=true then te ρ' fun c=>asS c fun fy y=>K (fa&&fy) (acc++[y]) ρ' else K fa acc ρ')->∀ fa acc ρ (Q:Bool->List D->Prop),R ρ->Q fa (acc++xs.map out)->jo g tt te f (xs.map enc) fa acc ρ Q
 | [],_,fa,acc,ρ,Q,_,q=>by show Q fa acc;simpa using q
 | x::xs,s,fa,acc,ρ,Q,hR,q=>s x YaV ρ fa acc (fun fa acc ρ'=>jo g tt te f (xs.map enc) fa acc ρ' Q) hR fun ρ' hR'=>
  zX enc out R xs (fun y hy=>s y (YaT _ hy)) fa (acc++[out x]) ρ' Q hR' (by rw [Yag];exact q)
theorem zdt{α β : Type}(e1:α->D)(e2:β->D):∀ (xs:List α) (ys:List β),zipD (xs.map e1) (ys.map e2)=(xs.zip ys).map fun p=>.tuple [e1 p.1,e2 p.2]
 | [],_=>by simp [zipD]
 | _::_,[]=>by simp [zipD]
 | x::xs,y::ys=>by simp [zipD,zdt e1 e2 xs ys]
theorem jO{α β : Type}(e:α->β)(xs:List α)(i:Int):atI (xs.map e) i=(atI xs i).map e:=by
 unfold atI;rw [YaR];cases ixN xs.length i with
 | none=>rfl
 | some j=>simp
end L3
namespace L3
theorem zgB(lo:Int)(n:Nat):nums lo (n+1)=.int lo::nums (lo+1) n:=by
 unfold nums;rw [List.range_succ_eq_map,Ya1,YaD]
 congr 1
 . simp
 . apply Yat
   intro i _;simp only [Function.comp]
   congr 1
   omega
theorem jE{g:TG3}{tb:TS3}{A:Ends3}{f:Bool}{lo:Int}{n:Nat}(P:Nat->Env3->Prop)(s:∀ k ρ,k<n->P k ρ->∀ W:Env3->Prop,(∀ ρ',P (k+1) ρ'->W ρ')->g f (.int (lo+k)) ρ fun ρ'=>tb { A with nx:=W,ct:=W,bk:=A.nx } ρ')(e:∀ ρ,P n ρ->A.nx ρ){ρ : Env3}(h:P 0 ρ):forL g tb A f (nums lo n) ρ:=by
 have key:∀ m k ρ,k+m=n->P k ρ->forL g tb A f (nums (lo+k) m) ρ:=by
  intro m
  induction m with
  | zero => intro k ρ hk p; have : k = n := by omega
            subst this;exact e ρ p
  | succ m ih=>
   intro k ρ hk p;rw [zgB];refine s k ρ #[0] p _ fun ρ' p'=>?_
   have:=ih (k+1) ρ' #[0] p'
   rw [show lo+((k+1:Nat):Int)=lo+k+1 by omega] at this
   exact this
 have:=key n 0 ρ #[0] h
 simpa using this
theorem jG{α : Type}{g:TG3}{tb:TS3}{A:Ends3}{f:Bool}(enc:α->D)(l:List α)(P:List α->Env3->Prop)(s:∀ done x rest ρ,l=done++x::rest->P done ρ->∀ W:Env3->Prop,(∀ ρ',P (done++[x]) ρ'->W ρ')->g f (enc x) ρ fun ρ'=>tb { A with nx:=W,ct:=W,bk:=A.nx } ρ')(e:∀ ρ,P l ρ->A.nx ρ){ρ : Env3}(h:P [] ρ):forL g tb A f (l.map enc) ρ:=by
 have key:∀ rest done ρ,l=done++rest->P done ρ->forL g tb A f (rest.map enc) ρ:=by
  intro rest
  induction rest with
  | nil=>intro done ρ hl p;rw [Yao] at hl;subst hl;exact e ρ p
  | cons x rest ih=>
   intro done ρ hl p;exact s done x rest ρ hl p _ fun ρ' p'=>ih (done++[x]) ρ' (by rw [hl,Yag];rfl) p'
 exact key l [] ρ rfl h
end L3
namespace L3
open PySem L2
mutual
theorem zdf:∀ {d:D},PyData.canLay0 d=true->PyData.eqv d d=true
 | .none,_=>by simp [PyData.eqv]
 | .bool b,_=>by simp [PyData.eqv]
 | .int i,_=>by simp [PyData.eqv]
 | .str x,_=>by simp [PyData.eqv]
 | .list xs, h => by
  have h':PyData.canLayAll0 xs=true:=by simpa [PyData.canLay0] using h
  simpa [PyData.eqv] using eqvAll_refl h'
 | .tuple xs, h => by
  have h':PyData.canLayAll0 xs=true:=by simpa [PyData.canLay0] using h
  simpa [PyData.eqv] using eqvAll_refl h'
 | .dict _,h=>by simp [PyData.canLay0] at h
theorem eqvAll_refl:∀ {ds:List D},PyData.canLayAll0 ds=true->PyData.eqvAll ds ds=true
 | [],_=>by simp [PyData.eqvAll]
 | d :: ds, h => by
  have h':PyData.canLay0 d=true/\PyData.canLayAll0 ds=true:=by simpa [PyData.canLayAll0] using h
  simp [PyData.eqvAll,zdf h'.1,eqvAll_refl h'.2]
end
def Plain(n:Nat)(d:D):Prop:=PyData.canLay0 d=true/\PyData.depth d<=n
theorem Plain.shaped{n:Nat}{d:D}(h:Plain n d)(hn:n<=64):SeqAt.shaped d=true:=by
 unfold SeqAt.shaped;rw [h.1,WaD];exact decide_eq_true (Ya5 h.2 hn)
theorem Plain.int(i:Int):Plain 0 (.int i):=⟨by simp [PyData.canLay0],by simp [PyData.depth]⟩
theorem Plain.bool(i:Bool):Plain 0 (.bool i):=⟨by simp [PyData.canLay0],by simp [PyData.depth]⟩
theorem Plain.none:Plain 0 .none:=⟨by simp [PyData.canLay0],by simp [PyData.depth]⟩
theorem zby{n:Nat}:∀ {ds:List D},(∀ d∈ds,Plain n d)->PyData.canLayAll0 ds=true/\PyData.depthAll ds<=n
 | [],_=>by simp [PyData.canLayAll0,PyData.depthAll]
 | d :: ds, h => by
  obtain⟨h1,h2⟩:=h d YaV;obtain⟨h3,h4⟩:=zby (ds:=ds) fun x hx=>h x (YaT _ hx)
  simp [PyData.canLayAll0,PyData.depthAll,h1,h3]
  omega
theorem Plain.list{n:Nat}{ds:List D}(h:∀ d∈ds,Plain n d):Plain (n+1) (.list ds):=by
 obtain⟨h1,h2⟩:=zby h;exact⟨by simp [PyData.canLay0,h1],by simp [PyData.depth,h2]⟩
theorem Plain.tuple{n:Nat}{ds:List D}(h:∀ d∈ds,Plain n d):Plain (n+1) (.tuple ds):=by
 obtain⟨h1,h2⟩:=zby h;exact⟨by simp [PyData.canLay0,h1],by simp [PyData.depth,h2]⟩
theorem Plain.mono{m n:Nat}{d:D}(h:Plain m d)(hn:m<=n):Plain n d:=⟨h.1,Ya5 h.2 hn⟩
theorem j7{α : Type}{xs:List α}{i:Int}(h0:0<=i)(h:i<xs.length):∃ x,atI xs i=some x/\x∈xs/\xs[i.toNat]?=some x:=by
 have hk:i.toNat<xs.length:=#[0]
 refine⟨xs[i.toNat],?_,Ya4 hk,YaQ hk⟩
 have:=jB (xs:=xs) (j:=i.toNat) (YaQ hk);rwa [show((i.toNat:Nat):Int)=i by omega] at this
theorem zcv{n:Nat}{i:Int}(h0:0<=i)(h:i<n):ixN n i=some i.toNat:=by
 unfold ixN;rw [if_pos h0,if_pos h]
end L3
namespace L2
open PySem PySem.Spec PyProof.Rows
section
variable{X:Cx}
end
end L2
namespace L3
open PySem PySem.Spec PyProof.Rows L2
variable[LamW]
section
variable{X:Cx}{H0:Hp}{e:Expr}{pos p:Pos}
end
variable[LamW]
section
variable{K:Ybf}{H0 G0:Hp}{ρ : Env3}{σ : L2.St}{G H G' H':Hp}
end
section
variable{X:Cx}{H0:Hp}{e:Expr}{es:List Expr}{pos p:Pos}{x:Str}
end
section
variable{X:Cx}
end
end L3
namespace L2
open PySem PySem.Spec PyProof.Rows
section
variable{X:Cx}
end
end L2
namespace L3
open PySem PySem.Spec PyProof.Rows L2
variable[LamW]
section
variable{X:Cx}{H0:Hp}{e:Expr}{pos:Pos}
def aug3(i:Nat)(te:TE3):TS3:=fun A ρ=>∃ f n,ρ[i]?=some (some (.sh f (.int n)))/\te ρ fun c=>∃ g m,c=.sh g (.int m)/\A.nx (ρ.set i (#[5,n+m]))
theorem zc7{i:Nat}{x:Str}{te:TE3}{pos':Pos}(hN:X.N.Nodup)(hi:X.N[i]?=some x)(hx:Loc X.env.scope x)(he:PE3 X H0 e te)
 (hf:X.fn x=true\/X.env.scope.names.lookup x=some .local:=by first|exact .inl rfl|exact .inr rfl|assumption):PS3 X H0 (.AugAssign (.Name x pos') .Add e pos) (aug3 i te):=
 PS.imp (zg5 hN hi hx he.ok zhv hf) fun B σ H hyp=>by
  obtain⟨G0,A,ρ,G,F,⟨f,n,h,q⟩,L⟩:=hyp;obtain⟨v,h1,h2⟩:=F.slot i _ h;have r:=zC (zn h2).rd;subst r;refine⟨_,h1,G0,ρ,G,F,he.mono ρ _ _ (fun c ⟨g,m,hc,q⟩ v G1 H1 g1 w=>?_) q⟩
  subst hc;have r:=zC (zn w).rd;subst r;exact⟨n,m,rfl,rfl,L.nx _ _ _ _ ((F.gr g1).set (.sc rfl (.int _))) q⟩
def par3(i j:Nat)(t:TA3):TS3:=fun A ρ=>t ρ fun cs=>∃ f a g b,cs=[.sh f a,.sh g b]/\A.nx ((ρ.set i (some (.sh f a))).set j (some (.sh g b)))
theorem zgv{i j:Nat}{x y:Str}{a b:Expr}{ta:TA3}{px py pt:Pos}{kt k2 pt2}(hc:X.calm=true)(hN:X.N.Nodup)(hi:X.N[i]?=some x)(hj:X.N[j]?=some y)(hij:i≠j)
 (hx:X.env.scope.names.lookup x=some .local) (hy:X.env.scope.names.lookup y=some .local) (ha:PA3 X H0 [a,b] ta)
 (hw:swappedStores [.Tuple [.Name x px,.Name y py] kt pt] (.Tuple [a,b] k2 pt2) X.env=pure (some [x,y]):=by rfl)
 (hs:swapsWithSole [.Tuple [.Name x px,.Name y py] kt pt] (.Tuple [a,b] k2 pt2) pos.line X.env=pure false:=by rfl) :
 PS3 X H0 (.Assign [.Tuple [.Name x px,.Name y py] kt pt] (.Tuple [a,b] k2 pt2) pos) (par3 i j ta):=
 PS.imp (zew hc hN hi hj hij hx hy ha.ok hw hs) fun B σ H=>el7 fun G0 A ρ G F q L=>⟨G0,ρ,G,F,ha.mono ρ _ _ (fun cs hyp vs G1 H1 g1 w=>by
  obtain⟨f,a,g,b,hcs,q⟩:=hyp;subst hcs;obtain⟨v,u,rfl,w1,w2⟩:=vws2 w;exact⟨v,u,rfl,L.nx _ _ _ _ (((F.gr g1).set (zn w1)).set (zn w2)) q⟩) q⟩
def ext3(i:Nat)(te:TE3):TS3:=fun A ρ=>∃ f ds,ρ[i]?=some (some (.ow f ds))/\te ρ fun c=>∃ es,c=.sh true (.list es)/\ds.length+es.length<=sizeLine/\A.nx (ρ.set i (some (.ow f (ds++es))))
theorem zd3{i:Nat}{te:TE3}{x:Str}{np apos cpos:Pos}(hN:X.N[i]?=some x)(hv:Vis X.env.scope x)(he:PE3 X H0 e te)(hd:(x==("__debug__" : Str))=false:=by decide)(hcd:(x==("__classdict__" : Str))=false:=by decide)
 (hb:attributeBase (.Name x np) "extend" X.env (eval (.Name x np) X.env)=eval (.Name x np) X.env:=by rfl)
 (hf:((backTo cpos (starEach [e] X.env)).all (fun x=>!x.1)&&(backToKw cpos (keywordEach [] X.env)).all (fun x=>x.1.isSome)&&decide ([e].length+([]:List Keyword).length+(if([]:List Keyword).isEmpty then 0 else 1)<30))=true:=by rfl)
 (hl:(apos.endLine==cpos.line)=true:=by rfl) (hs:starEach [e] X.env=(false,eval e X.env)::starEach [] X.env:=by rfl) (hp:(backTo cpos (starEach [] X.env)).any (·.1)=false:=by rfl)
 (hw:swapsWith (.Call (.Attribute (.Name x np) "extend" apos) [e] [] cpos) none pos.line X.env=pure false:=by rfl):PS3 X H0 (.Expr (.Call (.Attribute (.Name x np) "extend" apos) [e] [] cpos) pos) (ext3 i te):=by
 refine PS.imp (zam (zdN PySem.F.plainAttrs_list PySem.F.slot_list_extend PySem.F.type_list_extend zjG (jn hN hv hd hcd) (z9 he.ok jt hs) hb hf hl hs hp) hw) fun B σ H hyp=>?_
 obtain⟨G0,A,ρ,G,F,⟨f,ds,hi,q⟩,L⟩:=hyp;obtain⟨l,vs,h1,h2,r⟩:=zb0 F hi;refine⟨.ref l,h1,zbM h2,G0,ρ,G,F,he.mono ρ _ _ (fun c ⟨es,hc,hz,q⟩ v G' H' g w=>?_) q⟩
 subst hc;have rw':=zn w;have rn:=rw'.nw rfl;cases rn with
 | lst hG hn rs=>
  rename_i b xs;have ra:Rfs X.K H0 G' f (vs++xs) (ds++es):=⟨((r.same g.g).rd).append (rdns_rd rs),fun hf=>zbN ((r.same g.g).nw hf) rs⟩
  exact⟨l,b,vs,xs,rfl,rfl,g.h.at h2,g.sub.s _ _ hG,by rw [r.length,(rdns_rd rs).length];exact hz,L.nx _ _ _ _ ((F.gr g).change hi h1 ra) q⟩
end
end L3
namespace L2
open PySem PySem.Spec PyProof.Rows
theorem zed:bootBuiltins "enumerate" = some (.type "enumerate"):=by with_unfolding_all rfl
def Ite(K:Ybf)(a:Addr):It:=
 ⟨fun i H=>∃ xs x,SqL K H a xs/\xs[i]?=some x,
  fun i H v H'=>∃ p x,H p=none/\v=.ref p/\H'=upd H p (.tup [.int i,x])/\∀ xs,SqL K H a xs->xs[i]?=some x,
  fun i H=>∃ xs,SqL K H a xs/\i=xs.length⟩
theorem ze5{P:Program}{w:World}{K:Ybf}{elts:List Expr}{k:Nat}{pos:Pos}{e it l:Addr}(hei:e≠it)(hle:l≠e)(hli:l≠it) :
 Turn P w K (.Tuple elts k pos) (Ite K l) [e,it] e (fun i h=>(∃ old,IsEnum h e it i old)/\h.IsListIter it l i) where
 mem:=by simp
 obj:=fun i h hyp c hc=>by
  obtain⟨⟨old,he⟩,⟨o1,e1,c1,d1⟩⟩:=hyp;have hc':c=e\/c=it:=by simpa using hc
  rcases hc' with rfl|rfl
  . exact⟨_,he,fun v z=>by cases(show Data.fields _=Data.cell v from z)⟩
  . exact⟨o1,e1,fun v z=>by rw [d1] at z;cases z⟩
 keep:=fun i h h' ⟨⟨old,he⟩,h1⟩ kk=>⟨⟨old,kk e (by simp) _ he⟩,h1.at fun o e=>kk it (by simp) o e⟩
 item:=by
  intro X hP hw hK hc i pins s σ H E I hf st hg;subst hP hw hK;obtain⟨xs,x,q1,hx⟩:=hg;obtain⟨its1,r1,p1,_⟩:=I.list q1;obtain⟨u,hu,ru⟩:=r1.get hx;have W:=WalksT.enumerate (prog:=X.prog) (w:=X.w) (A:=X.A) (I.ok.hd hc) e it l hei hle hli its1.toArray;have hi:i<its1.toArray.size:=by
   have a1:=(Ya8.mp hu).1;simp only [YaZ];omega
  obtain⟨he,h1⟩:=st;have olt:∀ b∈[e,it],b<s.heap.objs.size:=fun b hb=>by
   obtain⟨old,he'⟩:=he;have hc':b=e\/b=it:=by simpa using hb
   rcases hc' with rfl|rfl
   . exact YaX he'
   . obtain⟨_,e,_⟩:=h1;exact YaX e
  refine W.item i s _ _ hi ⟨he,h1,p1.isList⟩ fun T vals h1' tk hv' hT hTup mid kp=>?_
  obtain⟨t',u',hu',e'⟩:=hv';subst e';have eu:u'=u:=by
   have:its1[i]?=some u':=by simpa using hu'
   rw [hu] at this;cases this;rfl
  subst eu;refine⟨_,rfl,W.go elts k pos i T _ _ _ mid fun h2' st2 kp2=>?_⟩
  have I1:Inv X pins σ H { s with heap:=h2',toks:=tk }:=I.turnedL (ch:=[e,it]) (fun b o hb e=>kp2 b o hb (kp b o hb e)) fun b hb=>hf b hb
  have hTn:H T=none:=I.hok.fresh hT;obtain⟨o,ho,oc,on,od⟩:=hTup;have ho2:=kp2 T o (W.apart i T _ mid) ho;have I2:Inv X pins σ (upd H T (.tup [.int i,x])) { s with heap:=h2',toks:=tk }:=I1.track hTn (Ya5 I.sz hT) (Nat.ne_of_gt (YaU I.lt hT)) (fun n c e z=>by
   obtain⟨vv,q⟩:=I.cell n c e;exact absurd (YaU q.lt (by rw [z];exact hT)) (Yap _)) (fun p hp z=>absurd (YaU (YaX (I.pin p hp).1) (by rw [z];exact hT)) (Yap _))
   ⟨by show 2<=sizeLine;decide,[.int i t',u'],.cons ⟨t',rfl⟩ (.cons ru .nil),o,ho2,oc,on,od⟩
  refine⟨.ref T,_,I2,rfl,⟨T,x,hTn,rfl,rfl,fun xs' z1=>?_⟩,⟨st2.1,st2.2.1⟩,fun b hb=>?_⟩
  . rw [I.list_inj z1 q1];exact hx
  . rw [zh (Yaf (YaU (olt b hb) hT))];exact(hf b hb).1
 done:=by
  intro X hP hw hK hc i pins s σ H E I hf st hg;subst hP hw hK;obtain⟨xs,q1,hi⟩:=hg;obtain⟨its1,r1,p1,_⟩:=I.list q1;have W:=WalksT.enumerate (prog:=X.prog) (w:=X.w) (A:=X.A) (I.ok.hd hc) e it l hei hle hli its1.toArray;obtain⟨he,h1⟩:=st;have ei:i=its1.toArray.size:=by simp only [YaZ];rw [<-r1.length];exact hi
  subst ei;refine W.done s _ _ ⟨he,h1,p1.isList⟩ fun h' tk kp=>⟨rfl,?_⟩
  exact I.turnedL (ch:=[e,it]) kp fun b hb=>hf b hb
 self:=fun _ _ _ _ _ st h=>by obtain⟨⟨old,he⟩,_⟩:=st;exact wpAny_pyIter_enum he h
def zhy(K:Ybf)(ta:TA):TI:=fun σ H R=>ta σ H fun vs H1=>∃ a,vs=[.ref a]/\(∃ xs,SqL K H1 a xs)/\R (Ite K a) H1
theorem zkr{X:Cx}{elts:List Expr}{k:Nat}{tpos:Pos}{a:Expr}{ta:TA}{p pos:Pos}(hg:Gl X "enumerate")(hm:X.mg "enumerate" = none)(ha:PA X [a] ta)(hs:starEach [a] X.env=[(false,eval a X.env)]:=by rfl):PI X (.Tuple elts k tpos) (.Call (.Name "enumerate" p) [a] [] pos) (zhy X.K ta):=by
 intro pins s σ H R I h;refine Call_ (j8 I hg hm zed (Wab (thn (ha pos pins s σ H _ I h) fun us s1 ⟨vs,H1,I1,r1,q1⟩=>?_) (by rw [hs];rfl) rfl))
 obtain⟨l1,e,⟨xs,hx⟩,q⟩:=q1;subst e;obtain⟨u,rfl,ru⟩:=Ji r1;cases(show u=Value.ref l1 from ru)
 obtain⟨its1,_,p1,_⟩:=I1.list hx;have lt1:l1<s1.heap.objs.size:=by obtain⟨o,e,_⟩:=p1.isList;exact YaX e
 refine call_enumerate_list p1.isList fun h' he hi1 hsz kp=>wpAny_pyIter_enum he ?_
 have I2:Inv X pins σ H1 { s1 with heap:=h' }:=I1.kept (t':=s1.toks) kp
 refine⟨_,[s1.heap.objs.size+1,s1.heap.objs.size],_,Ite X.K l1,H1,rfl,I2,ze5 (Nat.succ_ne_self _) (Yaf (Nat.lt_succ_of_lt lt1)) (Yaf lt1),⟨⟨_,he⟩,hi1⟩,fun b hb=>?_,q⟩
 have hb':s1.heap.objs.size<=b:=by
  have hc':b=s1.heap.objs.size+1\/b=s1.heap.objs.size:=by simpa using hb
  rcases hc' with rfl|rfl<;>omega
 have f:=I1.fpOk (H':=H1) hb' (I1.hok.fresh hb');exact⟨f.1,f.2.1,f.2.2.1,f.2.2.2.1,f.2.2.2.2.1,f.2.2.2.2.2⟩
end L2
namespace L3
open PySem PySem.Spec PyProof.Rows L2
variable[LamW]
section
variable{X:Cx}{H0:Hp}{pos p:Pos}
def jl(ds:List D):List D:=(List.range ds.length).map fun i=>.tuple [.int (i:Nat),ds.getD i .none]
theorem zkO(ds:List D):(jl ds).length=ds.length:=by unfold jl;simp
theorem zfo{ds:List D}{i:Nat}{d:D}(h:(jl ds)[i]?=some d):∃ a,d=.tuple [.int (i:Nat),a]/\ds[i]?=some a:=by
 unfold jl at h;rw [Ya0] at h
 by_cases hi:i<ds.length
 . rw [List.getElem?_range hi] at h
   cases h;exact⟨ds[i],by simp [hi],YaQ hi⟩
 . rw [List.getElem?_eq_none #[6]] at h;cases h
def itE(t:TA3):TI3:=fun ρ Q=>t ρ fun cs=>∃ f as,cs=[.sh f (.list as)]/\Q f (jl as)
theorem zjE{K:Ybf}{H0 G:Hp}{a:Addr}{xs:List V}{f:Bool}{as:List D}(h1:SqL K G a xs)(r1:Rfs K H0 G f xs as):ItOk K H0 (Ite K a) f (jl as) G where
 go:=fun i d G' H hd s1 s2=>by
  obtain⟨q,rfl,hq⟩:=zfo hd;obtain⟨x,hx,rx⟩:=r1.get hq;have ss:=s1.trans s2.s;refine⟨⟨xs,x,ss.seq h1,hx⟩,fun v H' ⟨l,x',hl,e1,e2,hh⟩=>?_⟩
  subst e1 e2;have z1:=hh xs (ss.seq h1);rw [hx] at z1;cases z1;have gl:=zS (s2.free hl) (.tup [.int i,x]);exact⟨upd G' l (.tup [.int i,x]),Gr.put s2 hl,⟨.tup (SqT.of zp) (.cons (.int _) (.cons (J8 (s1.trans gl) rx.rd) .nil)),fun hf=>
   .tup zp (.cons (.int _) (.cons (jx (s1.trans gl) (fun _ _ _ z=>z) (rx.nw hf)) .nil))⟩⟩
 stop:=fun i G' H hl s1 s2=>⟨xs,(s1.trans s2.s).seq h1,by rw [hl,zkO,r1.length]⟩
theorem zaL{elts:List Expr}{k:Nat}{tpos:Pos}{a:Expr}{t:TA3}(hg:Gl X "enumerate")(hm:X.mg "enumerate" = none)(ha:PA3 X H0 [a] t)(hs:starEach [a] X.env=[(false,eval a X.env)]:=by rfl):PI3 X H0 (.Tuple elts k tpos) (.Call (.Name "enumerate" p) [a] [] pos) (itE t):=
 ⟨fun ρ Q Q' h q=>ha.mono ρ _ _ (fun cs ⟨f,as,e,q⟩=>⟨f,as,e,h _ _ q⟩) q,PI.imp (zkr hg hm ha.ok hs) fun σ H R=>el5 fun G0 ρ G F q=>⟨G0,ρ,G,F,ha.mono ρ _ _ (fun cs hyp vs G1 H1 g1 w=>by
  obtain⟨f,as,e,k⟩:=hyp;subst e;obtain⟨v,rfl,w1⟩:=vws1 w;obtain⟨a,xs,rfl,hq,rs⟩:=Jl (zn w1);exact⟨a,rfl,⟨xs,g1.sub.seq hq⟩,k _ G1 H1 g1 (zjE hq rs)⟩) q⟩⟩
end
variable[LamW]
def TupI(K:Ybf)(a:Addr)(ns:List Int):Prop:=∃ (o:Obj) (its:Array Value) (n:Nat),K.lookup a=some o/\o.cls=.type "tuple"/\o.data=.seq its n/\its.size<=sizeLine/\Vals (ns.map V.int) its.toList
section
variable{X:Cx}{H0:Hp}{e:Expr}{pos:Pos}{x:Str}
def k3f(d:D):TE3:=fun _ Q=>Q (.sh false d)
theorem g3t{ns:List Int}(hg:Gl X x)(hm:∃ a,X.mg x=some (.ref a)/\TupI X.K a ns)(hd:(x==("__debug__" : Str))=false:=by decide):PE3 X H0 (.Name x pos) (k3f (.tuple (ns.map .int))):=by
 obtain⟨a,hm,ht⟩:=hm;exact⟨fun ρ Q Q' h q=>h _ q,PE.imp (zaA (v:=.ref a) hg hm rfl hd) fun σ H Q=>el5 fun G0 ρ G F q=>q (.ref a) G H (Gr.refl F.sub) (.sh ⟨.tup (.inr ht) (zbx ns),fun z=>by cases z⟩)⟩
end
variable[LamW]
section
variable{K:Ybf}{H0 G0:Hp}{ρ : Env3}{σ : L2.St}{G H:Hp}
theorem zbV(F:Fr3 K H0 G0 ρ σ G H){i:Nat}{ps:List Addr}{ms:List (List D)}(h:ρ[i]?=some (some (.tr ps ms))):∃ l,σ[i]?=some (some (.ref l))/\Tr K H0 G H l ps ms:=by
 obtain⟨v,h1,h2⟩:=F.slot i _ h;cases h2 with
 | tr t=>exact⟨_,h1,t⟩
theorem Tr.ix{l:Addr}{ps:List Addr}{ms:List (List D)}(t:Tr K H0 G H l ps ms){n:Int}{m:List D}(h:atI ms n=some m):∃ a p vs,ixN ms.length n=some a/\ms[a]?=some m/\ps[a]?=some p/\atI (ps.map V.ref) n=some (.ref p)/\H p=some (.lst vs)/\G p=none/\Rfs K H0 G true vs m:=by
 unfold atI at *;rw [YaR,t.len];cases e:ixN ms.length n with
 | none=>rw [e] at h;cases h
 | some a=>
  rw [e] at h;have h':ms[a]?=some m:=h;have ha:a<ps.length:=by rw [t.len];exact(Ya8.mp h').1
  have hp:ps[a]?=some ps[a]:=YaQ ha;obtain⟨vs,h1,h2,h3⟩:=t.item a _ m hp h';exact⟨a,ps[a],vs,rfl,h',hp,by rw [Option.bind_some,Ya0,hp];rfl,h1,h2,h3⟩
theorem Tr.change{l:Addr}{ps:List Addr}{ms:List (List D)}(t:Tr K H0 G H l ps ms){a:Nat}{p:Addr}{vs:List V}{m:List D}(hp:ps[a]?=some p)(r:Rfs K H0 G true vs m):Tr K H0 G (upd H p (.lst vs)) l ps (ms.set a m):=by
 have hpm:p∈ps:=Yah hp;have hn:=YaB.mp t.nd;have hlp:l≠p:=fun z=>by subst z;exact hn.1 hpm
 refine⟨by rw [zh hlp];exact t.top,t.topG,t.nd,by rw [YaN];exact t.len,fun k q m' h1 h2=>?_⟩
 rcases zD h2 with ⟨rfl,e,_⟩|⟨n,e⟩
 . rw [hp] at h1;cases h1
   rw [e];exact⟨vs,zp,((t.at hpm).choose_spec.choose_spec).2.1,r⟩
 . obtain⟨us,a1,a2,a3⟩:=t.item k q m' h1 e
   have hq:q≠p:=fun z=>by
    subst z;obtain⟨b1,c1⟩:=Ya8.mp h1;obtain⟨b2,c2⟩:=Ya8.mp hp;exact n ((List.getElem_inj hn.2).mp (c2.trans c1.symm))
   exact⟨us,by rw [zh hq];exact a1,a2,a3⟩
theorem Fr3.chgT(F:Fr3 K H0 G0 ρ σ G H){i:Nat}{l:Addr}{ps:List Addr}{ms:List (List D)}{a:Nat}{p:Addr}{vs:List V}{m:List D}(hi:ρ[i]?=some (some (.tr ps ms)))(hl:σ[i]?=some (some (.ref l)))(hp:ps[a]?=some p)(r:Rfs K H0 G true vs m):Fr3 K H0 G0 (ρ.set i (some (.tr ps (ms.set a m)))) σ G (upd H p (.lst vs)):=by
 obtain⟨l',hl',t⟩:=zbV F hi;rw [hl] at hl';cases hl';exact F.chg hi hl (.inr (Yah hp)) (fun _ h=>h) (.tr (t.change hp r))
end
section
variable{X:Cx}{H0:Hp}{e k j:Expr}{pos:Pos}{x:Str}{i:Nat}
def app2(i:Nat)(tk te:TE3):TS3:=fun A ρ=>∃ ps ms,ρ[i]?=some (some (.tr ps ms))/\tk ρ fun kc=>∃ n m a,kc=.sh true (.int n)/\atI ms n=some m/\ixN ms.length n=some a/\m.length<sizeLine/\te ρ fun c=>∃ d,c=.sh true d/\A.nx (ρ.set i (some (.tr ps (ms.set a (m++[d])))))
theorem zf2{tk te:TE3}{np kp apos cpos:Pos}(hN:X.N[i]?=some x)(hv:Vis X.env.scope x)(hk:PE3 X H0 k tk)(he:PE3 X H0 e te)(hsk:zba k)(hd:(x==("__debug__" : Str))=false:=by decide)(hcd:(x==("__classdict__" : Str))=false:=by decide)
 (hb:attributeBase (.Subscript (.Name x np) k kp) "append" X.env (eval (.Subscript (.Name x np) k kp) X.env)=eval (.Subscript (.Name x np) k kp) X.env:=by rfl)
 (hf:((backTo cpos (starEach [e] X.env)).all (fun x=>!x.1)&&(backToKw cpos (keywordEach [] X.env)).all (fun x=>x.1.isSome)&&decide ([e].length+([]:List Keyword).length+(if([]:List Keyword).isEmpty then 0 else 1)<30))=true:=by rfl)
 (hl:(apos.endLine==cpos.line)=true:=by rfl) (hs:starEach [e] X.env=(false,eval e X.env)::starEach [] X.env:=by rfl) (hp:(backTo cpos (starEach [] X.env)).any (·.1)=false:=by rfl)
 (hw:swapsWith (.Call (.Attribute (.Subscript (.Name x np) k kp) "append" apos) [e] [] cpos) none pos.line X.env=pure false:=by rfl):PS3 X H0 (.Expr (.Call (.Attribute (.Subscript (.Name x np) k kp) "append" apos) [e] [] cpos) pos) (app2 i tk te):=by
 refine PS.imp (zam (zcX (zcO zcI (jn hN hv hd hcd) hk.ok hsk) (z9 he.ok jt hs) hb hf hl hs hp) hw) fun B σ H hyp=>?_
 obtain⟨G0,A,ρ,G,F,⟨ps,ms,hi,q⟩,L⟩:=hyp;obtain⟨l,hl,t⟩:=zbV F hi;refine⟨.ref l,hl,G0,ρ,G,F,hk.mono ρ _ _ (fun kc q v2 G2 H2 g2 w2=>?_) q⟩
 obtain⟨n,m,a',e1,e2,e5,e6,q⟩:=q;subst e1;cases zC (zn w2).rd;have F2:=F.gr g2;obtain⟨l',hl',t2⟩:=zbV F2 hi;rw [hl] at hl';cases hl';obtain⟨a,p,vs,k1,k2,k3,k4,k5,k6,k7⟩:=t2.ix e2;rw [k1] at e5;cases e5;refine⟨l,_,n,.ref p,rfl,rfl,SqL.of t2.top,k4,zbM k5,G0,ρ,G2,F2,he.mono ρ _ _ (fun c q v G3 H3 g3 w3=>?_) q⟩
 obtain⟨d,e3,q⟩:=q;subst e3;exact⟨p,vs,v,rfl,rfl,g3.h.at k5,by rw [k7.length];exact e6,L.nx _ _ _ _ ((F2.gr g3).chgT hi hl k3 ((k7.same g3.g).snoc (zn w3))) q⟩
def ZW(i:Nat)(ti:TI3)(m:List D):TS3:=fun A ρ=>ti ρ fun _ ds=>ds.length<=1000000/\∀ ps:List Addr,ps.length=ds.length->A.nx (ρ.set i (some (.tr ps (List.replicate ds.length m))))
theorem zcR(lo:Int)(n:Nat):(nums lo n).length=n:=by unfold nums;rw [YaR,YaG]
theorem zgT{es:List Expr}{kn:Str}{kp lp:Pos}{iter:Expr}{scope:Scope}{spos pos':Pos}{ti:TI3}{te:TE}{vs:List V}{m:List D}(hN:X.N.Nodup)(hix:X.N[i]?=some x)(hx:Loc X.env.scope x)(tn fn:List Str)(js:List Nat)(hcalm:X.calm=true)(S:CompSc X.env.scope scope tn fn)(hj:js.map (fun j=>X.N[j]?)=fn.map some)
 (hi:PI3 X H0 (.Name kn kp) iter ti)
 (hb:∀ s H fp cl,PG (X.comp scope (tn++fn) s H fp cl) (.Name kn kp) (zaD 0)/\PE (X.comp scope (tn++fn) s H fp cl) (.List es lp) te)
 (ht:∀ σ H Q,(∀ p,H p=none->Q (.ref p) (upd H p (.lst vs)))->te σ H Q) (hr:∀ G,RdVs X.K G vs m) (hsc:m.all zo=true)
 (hs:∀ x,foldedSetIterable iter X.env x=pure x:=by intro _;rfl)
 (hsw:swapsWith (.ListComp (.List es lp) [⟨.Name kn kp,iter,[],0⟩] scope pos) (some (.Name x pos')) spos.line X.env=pure true:=by rfl) (hf:X.fn x=true\/X.env.scope.names.lookup x=some .local:=by first|exact .inl rfl|exact .inr rfl|assumption) :
 PS3 X H0 (.Assign [.Name x pos'] (.ListComp (.List es lp) [⟨.Name kn kp,iter,[],0⟩] scope pos) spos) (ZW i ti m):=by
 refine PS.imp (zdy hN hix hx tn fn js hcalm S hj hi.ok (fun s H fp cl=>⟨(hb s H fp cl).1,zcn,(hb s H fp cl).2⟩) hs hsw hf) fun B σ H hyp=>?_
 obtain⟨G0,A,ρ,G,F,q,L⟩:=hyp;refine⟨G0,ρ,G,F,hi.mono ρ _ _ (fun fl ds q J G1 H1 g1 ok D hD=>?_) q⟩
 obtain⟨e2,q⟩:=q;generalize hn:ds.length=n at e2 q;have F1:=F.gr g1;have gD:G1 D=none:=g1.sub.free hD;refine⟨fun c r ys σ2 H2=>c<=n/\r=n - c/\zu H1 H2/\∃ ps:List Addr,ys=ps.map V.ref/\ps.length=c/\H2 D=some (.lst ys)/\(D::ps).Nodup/\∀ p∈ps,H1 p=none/\H2 p=some (.lst vs),
  ⟨n,WaK _,rfl,(zS hD _).x,[],rfl,rfl,zp,by simp,fun p hp=>by cases hp⟩,?_⟩
 rintro c r ys σ2 H2 ⟨hcn,rfl,s2,ps,rfl,hpl,hHD,hnd,hps⟩
 have sG:Sub G1 H2:=g1.sub.trans s2
 by_cases hlt:c<n
 . right
   have hc':c<ds.length:=by rw [hn];exact hlt
   have hd:ds[c]?=some ds[c]:=YaQ hc';obtain⟨hgo,hy⟩:=ok.go c _ G1 H2 hd (Same.refl _) sG;refine⟨hgo,fun x3 H3 y3=>?_⟩
   obtain⟨G3,g3,_⟩:=hy x3 H3 y3;show te _ H3 _;refine ht _ _ _ fun p hp=>?_
   have h3D:H3 D=some (.lst (ps.map V.ref)):=g3.h.at hHD;have pD:p≠D:=fun z=>by subst z;rw [hp] at h3D;cases h3D
   have p1:H1 p=none:=(s2.trans g3.h).free hp;refine⟨by rw [zh (WaL pD)];exact h3D,?_,n - (c+1),#[0],#[0],rfl,?_,ps++[p],by rw [Ya2];rfl,by rw [YaS,hpl];rfl,zp,?_,?_⟩
   . rw [YaR,hpl]
     exact YaU (show c<1000001 by omega) #[1]
   . exact((s2.trans g3.h).trans (zS hp _).x).chg hD (by rw [zh (WaL pD)];exact h3D) fun f z=>by cases z
   . rw [<-List.cons_append]
     refine Wan.mpr ⟨hnd,by simp,fun a ha b hb=>?_⟩
     cases Ya6.mp hb
     intro z;subst z
     rcases WaB.mp ha with h|h
     . exact pD h
     . have:=g3.h.at (hps a h).2
       rw [hp] at this;cases this
   . intro b hb
     rcases Ya3.mp hb with h|h
     . have hbD:b≠D:=fun z=>by subst z;exact(YaB.mp hnd).1 h
       have hbp:b≠p:=fun z=>by
        subst z;have:=g3.h.at (hps b h).2;rw [hp] at this;cases this
       exact⟨(hps b h).1,by rw [zh hbD,zh hbp];exact g3.h.at (hps b h).2⟩
     . cases Ya6.mp h
       exact⟨p1,by rw [zh pD];exact zp⟩
 . left
   have ec:c=n:=Nat.le_antisymm hcn (Nat.not_lt.mp hlt);subst ec;refine⟨ok.stop c G1 H2 hn.symm (Same.refl _) sG,?_⟩;refine L.nx _ _ G1 H2 (F1.put s2 (.tr ⟨hHD,gD,hnd,by rw [hpl,Ybb],fun k p m' h1 h2=>?_⟩) fun a h=>?_) (q ps hpl)
   . have hm':m'=m:=by
      have:=Yah h2;exact Wae this
     subst hm';have hp:=Yah h1;exact⟨vs,(hps p hp).2,g1.sub.free (hps p hp).1,hr _,fun _=>zcP hsc (hr _)⟩
   . rcases h with h|h
     . cases h;exact hD
     . exact(hps a h).1
end
end L3
namespace L2
open PySem PySem.Spec PyProof.Rows
section
variable{κ : Type}[DecidableEq κ]
def valV(kvs:List (κ×V))(k:κ):Option V:=(kvs.find? fun kv=>decide (kv.1=k)).map (·.2)
def putK(kvs:List (κ×V))(k:κ)(v:V):List (κ×V):=
 if(kvs.any fun kv=>decide (kv.1=k))=true then kvs.map (fun kv=>if kv.1=k then(kv.1,v) else kv) else kvs++[(k,v)]
def zb3(kvs:List (κ×V))(k:κ):List (κ×V):=kvs.filter fun kv=>decide (kv.1≠k)
theorem ZZ{p:κ×V}{r:List (κ×V)}{k:κ}(e:p.1=k):valV (p::r) k=some p.2:=by simp [valV,List.find?_cons,e]
theorem ZL{p:κ×V}{r:List (κ×V)}{k:κ}(e:¬p.1=k):valV (p::r) k=valV r k:=by simp [valV,List.find?_cons,e]
theorem zb2(k:κ):∀ kvs:List (κ×V),(kvs.any fun kv=>decide (kv.1=k))=(valV kvs k).isSome
 | []=>rfl
 | p :: r => by
  rw [List.any_cons]
  by_cases e:p.1=k
  . simp only [ZZ e,decide_eq_true e,Bool.true_or,Option.isSome_some]
  . rw [ZL e,decide_eq_false e,WaE];exact zb2 k r
theorem zdm(kvs:List (κ×V))(k:κ)(v:V):(putK kvs k v).length<=kvs.length+1:=by
 unfold putK
 split
 . rw [YaR];omega
 . rw [YaS,List.length_cons,List.length_nil];omega
theorem RelO.isSome_eq{o:Option V}{u:Option Value}(r:RelO o u):o.isSome=u.isSome:=by
 cases o with
 | none => cases u with
  | none=>rfl
  | some _=>exact(show False from r).elim
 | some _ => cases u with
  | none=>exact(show False from r).elim
  | some _=>rfl
theorem RelO.getD{o:Option V}{u:Option Value}{d:V}{d':Value}(r:RelO o u)(rd:RelV d d'):RelV (o.getD d) (u.getD d'):=by
 cases o with
 | none => cases u with
  | none=>exact rd
  | some _=>exact(show False from r).elim
 | some _ => cases u with
  | none=>exact(show False from r).elim
  | some _=>exact r
theorem KV.val{kvs:List (κ×V)}{vs:List (κ×Value)}(r:KV kvs vs)(k:κ):RelO (valV kvs k) (valueAt vs k):=by
 unfold KV at r
 induction r with
 | nil=>exact True.intro
 | @cons p q ps qs h t ih=>
  obtain⟨h1,h2⟩:=h
  by_cases e:p.1=k
  . have e':q.1=k:=h1.symm.trans e
    have b:valueAt (q::qs) k=some q.2:=by simp [valueAt,List.find?_cons,e']
    rw [ZZ e,b];exact h2
  . have e':¬q.1=k:=fun z=>e (h1.trans z)
    have b:valueAt (q::qs) k=valueAt qs k:=by simp [valueAt,List.find?_cons,e']
    rw [ZL e,b];exact ih
theorem KV.any{kvs:List (κ×V)}{vs:List (κ×Value)}(r:KV kvs vs)(k:κ):(kvs.any fun kv=>decide (kv.1=k))=vs.any fun kv=>decide (kv.1=k):=by
 unfold KV at r
 induction r with
 | nil=>rfl
 | cons h t ih=>rw [List.any_cons,List.any_cons,ih,h.1]
theorem KV.repl{kvs:List (κ×V)}{vs:List (κ×Value)}(r:KV kvs vs)(k:κ){y:V}{u:Value}(ry:RelV y u) :
 KV (kvs.map fun kv=>if kv.1=k then(kv.1,y) else kv) (vs.map fun kv=>if kv.1=k then(kv.1,u) else kv):=by
 unfold KV at r ⊢
 induction r with
 | nil=>exact .nil
 | @cons p q ps qs h t ih=>
  rw [Ya1,Ya1];refine .cons ?_ ih;obtain⟨h1,h2⟩:=h
  by_cases e:p.1=k
  . rw [if_pos e,if_pos (h1.symm.trans e)];exact⟨h1,ry⟩
  . rw [if_neg e,if_neg (fun z=>e (h1.trans z))];exact⟨h1,h2⟩
theorem KV.put{kvs:List (κ×V)}{vs:List (κ×Value)}(r:KV kvs vs)(k:κ){y:V}{u:Value}(ry:RelV y u):KV (putK kvs k y) (stored vs k u):=by
 unfold putK stored;rw [r.any k]
 by_cases e:(vs.any fun kv=>decide (kv.1=k))=true
 . rw [if_pos e,if_pos e];exact r.repl k ry
 . rw [if_neg e,if_neg e];exact Paired.snoc r ⟨rfl,ry⟩
theorem KV.drop{kvs:List (κ×V)}{vs:List (κ×Value)}(r:KV kvs vs)(k:κ):KV (zb3 kvs k) (without vs k):=by
 unfold KV at r ⊢;unfold zb3 without
 induction r with
 | nil=>exact .nil
 | @cons p q ps qs h t ih=>
  obtain⟨h1,h2⟩:=h;rw [List.filter_cons,List.filter_cons]
  by_cases e:p.1=k
  . have a:¬decide (p.1≠k)=true:=by simp [e]
    have b:¬decide (q.1≠k)=true:=by simp [h1.symm.trans e]
    rw [if_neg a,if_neg b];exact ih
  . have e':¬q.1=k:=fun z=>e (h1.trans z)
    have a:decide (p.1≠k)=true:=by simp [e]
    have b:decide (q.1≠k)=true:=by simp [e']
    rw [if_pos a,if_pos b];exact .cons ⟨h1,h2⟩ ih
theorem KV.keys{kvs:List (κ×V)}{vs:List (κ×Value)}(r:KV kvs vs):kvs.map (·.1)=vs.map (·.1):=by
 unfold KV at r
 induction r with
 | nil=>rfl
 | cons h t ih=>rw [Ya1,Ya1,ih,h.1]
theorem KV.length{kvs:List (κ×V)}{vs:List (κ×Value)}(r:KV kvs vs):kvs.length=vs.length:=Paired.length r
end
theorem zah{P:Program}{w:World}{k:Key}{u:Value}(r:RelV (kV k) u):(jc P w).is k u=true:=by
 cases k with
 | inl i=>obtain⟨t,e⟩:=(show ∃ t,u=Value.int i t from r);subst e;exact zfc P w i t
 | inr x=>obtain⟨t,e⟩:=(show ∃ t,u=Value.str x t from r);subst e;exact ziP P w x t
theorem zds{P:Program}{w:World}:∀ {ks:List Key} {us:List Value},Vals (ks.map kV) us->ItemsAre (jc P w) ks us
 | [],_,r=>by rw [WaI] at r;cases r;exact .nil
 | k :: ks, _, r => by
  rw [Ya1] at r;cases r with
  | cons h t=>exact .cons (zah h) (zds t)
abbrev KT(H:Hp):List (List Key×V)->List (List Key×Addr×Value)->Prop:=Paired fun p q=>p.1=q.1/\H q.2.1=some (.tup (p.1.map kV))/\RelV p.2 q.2.2
theorem KT.val{H:Hp}{kvs:List (List Key×V)}{xs:List (List Key×Addr×Value)}(r:KT H kvs xs)(k:List Key):RelO (valV kvs k) ((atKey xs k).map (·.2)):=by
 induction r with
 | nil=>exact True.intro
 | @cons p q ps qs h t ih=>
  obtain⟨h1,_,h2⟩:=h
  by_cases e:p.1=k
  . have e':q.1=k:=h1.symm.trans e
    have b:atKey (q::qs) k=some q.2:=by simp [atKey,List.find?_cons,e']
    rw [ZZ e,b];exact h2
  . have e':¬q.1=k:=fun z=>e (h1.trans z)
    have b:atKey (q::qs) k=atKey qs k:=by simp [atKey,List.find?_cons,e']
    rw [ZL e,b];exact ih
theorem KT.repl{H:Hp}{kvs:List (List Key×V)}{xs:List (List Key×Addr×Value)}(r:KT H kvs xs)(k:List Key){y:V}{u:Value}(ry:RelV y u) :
 KT H (kvs.map fun kv=>if kv.1=k then(kv.1,y) else kv) (xs.map (putAt k u)):=by
 induction r with
 | nil=>exact .nil
 | @cons p q ps qs h t ih=>
  rw [Ya1,Ya1];refine .cons ?_ ih;obtain⟨h1,h2,h3⟩:=h;unfold putAt
  by_cases e:p.1=k
  . rw [if_pos e,if_pos (h1.symm.trans e)];exact⟨h1,h2,ry⟩
  . rw [if_neg e,if_neg (fun z=>e (h1.trans z))];exact⟨h1,h2,h3⟩
theorem KT.put{H:Hp}{kvs:List (List Key×V)}{xs:List (List Key×Addr×Value)}(r:KT H kvs xs)(k:List Key){b:Addr}{y:V}{u:Value}(hb:H b=some (.tup (k.map kV)))(ry:RelV y u) :
 KT H (putK kvs k y) (storedH xs k b u):=by
 have e:(kvs.any fun kv=>decide (kv.1=k))=(atKey xs k).isSome:=by
  rw [zb2,(r.val k).isSome_eq,Option.isSome_map]
 unfold putK storedH;rw [e]
 by_cases q:(atKey xs k).isSome=true
 . rw [if_pos q,if_pos q];exact r.repl k ry
 . rw [if_neg q,if_neg q];exact Paired.snoc r ⟨rfl,hb,ry⟩
theorem KT.keeps{H H':Hp}{kvs:List (List Key×V)}{xs:List (List Key×Addr×Value)}(r:KT H kvs xs)(ht:∀ b ys,H b=some (.tup ys)->H' b=some (.tup ys)):KT H' kvs xs:=
 Paired.mapP r fun _ _ z=>⟨z.1,ht _ _ z.2.1,z.2.2⟩
section
variable{P:Program}{w:World}{H:Hp}{h:Heap}{a:Addr}
theorem zdR{u:HO}(ok:HOk P w H h)(e:Rd H a u):zJ P w H h a u:=e.ok ok
theorem J6{kvs:List (Key×V)}(ok:HOk P w H h)(e:Rd H a (.dK kvs)):kvs.length<=sizeLine/\(a==sysModules)=false/\∃ vs,KV kvs vs/\h.DictOf (jc P w) a vs:=
 show zJ P w H h a (.dK kvs) from zdR ok e
theorem zhY{kvs:List (Key×V)}(ok:HOk P w H h)(e:H a=some (.dK kvs)):kvs.length<=sizeLine/\(a==sysModules)=false/\∃ vs,KV kvs vs/\h.DictOf (jc P w) a vs:=J6 ok (.inl e)
theorem zao{ks:List Key}(ok:HOk P w H h)(e:H a=some (.tup (ks.map kV))):(tupleKind (jc P w)).is h ks a:=by
 obtain⟨_,its,r,o,h1,h2,n,h3⟩:=(show zJ P w H h a (.tup (ks.map kV)) from ok a _ e)
 exact⟨o,its.toArray,n,h1,h2,h3,by simpa using zds r⟩
theorem ZB{kvs:List (List Key×V)}(ok:HOk P w H h)(e:Rd H a (.dT kvs)):kvs.length<=sizeLine/\(a==sysModules)=false/\
 ∃ xs,KT H kvs xs/\h.DictOfH (tupleKind (jc P w)) a xs:=by
 obtain⟨z,y,xs,r,o,es,ep,h1,h2,h3,h4,h5⟩:=(show zJ P w H h a (.dT kvs) from zdR ok e)
 refine⟨z,y,xs,r,o,es,ep,h1,h2,h3,h4,fun x hx=>?_,h5⟩
 have all:∀ {l:List (List Key×V)} {m:List (List Key×Addr×Value)},KT H l m->∀ x∈m,(tupleKind (jc P w)).is h x.1 x.2.1:=by
  intro l m q
  induction q with
  | nil=>intro x hx;exact nomatch hx
  | @cons p q ps qs hq t ih=>
   intro x hx
   rcases WaB.mp hx with e|hx
   . subst e
     exact zao ok (by rw [<-hq.1];exact hq.2.1)
   . exact ih x hx
 exact all r x hx
theorem zgX{kvs:List (List Key×V)}(ok:HOk P w H h)(e:H a=some (.dT kvs)):kvs.length<=sizeLine/\(a==sysModules)=false/\
 ∃ xs,KT H kvs xs/\h.DictOfH (tupleKind (jc P w)) a xs:=ZB ok (.inl e)
end
def DGet(H:Hp)(a:Addr)(y:V)(r:Option V):Prop:=
 (∃ kvs k,Rd H a (.dK kvs)/\y=kV k/\r=valV kvs k)\/∃ kvs k b,Rd H a (.dT kvs)/\y=.ref b/\H b=some (.tup (k.map kV))/\r=valV kvs k
def DPut(H:Hp)(a:Addr)(y v:V)(H':Hp):Prop:=
 (∃ kvs k,H a=some (.dK kvs)/\y=kV k/\kvs.length<sizeLine/\H'=upd H a (.dK (putK kvs k v)))\/
 ∃ kvs k b,H a=some (.dT kvs)/\y=.ref b/\H b=some (.tup (k.map kV))/\kvs.length<sizeLine/\H'=upd H a (.dT (putK kvs k v))
theorem DGet.k{H:Hp}{a:Addr}{kvs:List (Key×V)}{k:Key}(e:H a=some (.dK kvs)):DGet H a (kV k) (valV kvs k):=.inl ⟨kvs,k,.inl e,rfl,rfl⟩
theorem DGet.t{H:Hp}{a b:Addr}{kvs:List (List Key×V)}{k:List Key}(e:H a=some (.dT kvs))(eb:H b=some (.tup (k.map kV))):DGet H a (.ref b) (valV kvs k):=.inr ⟨kvs,k,b,.inl e,rfl,eb,rfl⟩
theorem DPut.k{H:Hp}{a:Addr}{kvs:List (Key×V)}{k:Key}{v:V}(e:H a=some (.dK kvs))(hl:kvs.length<sizeLine):DPut H a (kV k) v (upd H a (.dK (putK kvs k v))):=.inl ⟨kvs,k,e,rfl,hl,rfl⟩
theorem DPut.t{H:Hp}{a b:Addr}{kvs:List (List Key×V)}{k:List Key}{v:V}(e:H a=some (.dT kvs))(eb:H b=some (.tup (k.map kV)))(hl:kvs.length<sizeLine) :
 DPut H a (.ref b) v (upd H a (.dT (putK kvs k v))):=.inr ⟨kvs,k,b,e,rfl,eb,hl,rfl⟩
section
variable{X:Cx}{pins:List (Addr×Obj)}{σ : St}{H:Hp}{s:Shared}{a:Addr}{y v:V}{u r:Value}{o:Option V}{A:Around}{E:Value->Shared->Prop}
theorem Inv.big(I:Inv X pins σ H s):sysModules<s.heap.objs.size:=by
 have h:mainGlobals<s.heap.objs.size:=(I.mod.glob.keeps I.bk).lt;exact Nat.lt_trans #[1] h
theorem zkD{Q:Value->Shared->Prop}(hu:A.units+1<cLine)(I:Inv X pins σ H s)(g:DGet H a y (some v))(ry:RelV y u)(h:∀ w' s',Inv X pins σ H s'->RelV v w'->Q w' s') :
 wpAny (model X.prog X.w) A (getItem (.ref a) u) Q E s:=by
 rcases g with ⟨kvs,k,e,ey,l⟩|⟨kvs,k,b,e,ey,eb,l⟩
 . subst ey
   obtain⟨z,hd,vs,rel,dd⟩:=J6 I.hok e;obtain⟨w',hw,rw'⟩:=RelO.some_of (v:=v) (o:=valueAt vs k) (by rw [l];exact rel.val k)
   exact wpAny_getItem_of (zah ry) dd.mapOf hw (h w' _ (I.tok _) rw')
 . subst ey
   cases(show u=Value.ref b from ry)
   obtain⟨z,hd,xs,rel,dd⟩:=ZB I.hok e;obtain⟨w',hw,rw'⟩:=RelO.some_of (v:=v) (o:=(atKey xs k).map (·.2)) (by rw [l];exact rel.val k)
   obtain⟨p,hp,hp2⟩:=Option.map_eq_some_iff.mp hw;refine wpAny_getItem_heap (tupleKind_room_in1 hu) (zao I.hok eb) dd hp ?_;rw [hp2];exact h w' _ (I.tok _) rw'
theorem ziR{Q:Value->Shared->Prop}(hu:A.units+1<cLine)(I:Inv X pins σ H s)(g:DGet H a y o)(ry:RelV y u)(h:∀ s',Inv X pins σ H s'->Q (.bool (!o.isSome)) s') :
 wpAny (model X.prog X.w) A (compareOp .NotIn u (.ref a)) Q E s:=by
 rcases g with ⟨kvs,k,e,ey,l⟩|⟨kvs,k,b,e,ey,eb,l⟩
 . subst ey
   obtain⟨z,hd,vs,rel,dd⟩:=J6 I.hok e;refine wpAny_notIn_of (zah ry) hd dd.mapOf ?_;rw [<-(rel.val k).isSome_eq,<-l];exact h _ (I.tok _)
 . subst ey
   cases(show u=Value.ref b from ry)
   obtain⟨z,hd,xs,rel,dd⟩:=ZB I.hok e;refine wpAny_notIn_heap (tupleKind_room_in1 hu) (zao I.hok eb) hd dd ?_;have q:=(rel.val k).isSome_eq;rw [Option.isSome_map] at q;rw [<-q,<-l];exact h _ (I.tok _)
theorem zdE{h':Heap}{t':Nat}{ob:HO}(I:Inv X pins σ H s)(mu:Mut (H a))(hs:Heap.SameBut a s.heap h')(he:∃ q,h'.get? a=some q)(new:zJ X.prog X.w (upd H a ob) h' a ob) :
 Inv X pins σ (upd H a ob) { s with heap:=h',toks:=t' }:=
 I.write (x:=a) (e:=a) mu (.inl rfl) (fun b q hb z=>(hs.2 b hb).trans z) he new
theorem zd4{P:Program}{w:World}{H':Hp}{h':Heap}{kvs:List (Key×V)}{vs:List (Key×Value)}(z:kvs.length<=sizeLine)(hd:(a==sysModules)=false)(rel:KV kvs vs)(dd:h'.DictOf (jc P w) a vs) :
 zJ P w H' h' a (.dK kvs):=⟨z,hd,vs,rel,dd⟩
theorem zh0{H':Hp}{Q:Unit->Shared->Prop}(hu:A.units+1<cLine)(I:Inv X pins σ H s)(g:DPut H a y v H')(ry:RelV y u)(rv:RelV v r)(h:∀ s',Inv X pins σ H' s'->Q () s') :
 wpAny (model X.prog X.w) A (setItem (.ref a) u r) Q E s:=by
 rcases g with ⟨kvs,k,e,ey,l,eH⟩|⟨kvs,k,b,e,ey,eb,l,eH⟩
 . subst ey eH
   obtain⟨z,hd,vs,rel,dd⟩:=zhY I.hok e;have hz:vs.length<=sizeLine:=by rw [<-rel.length];exact z
   have hl:(putK kvs k v).length<=sizeLine:=by have:=zdm kvs k v;omega
   refine wpAny_setItem_pairs (hsz:=hz) (zah ry) dd fun h' dd' hs=>h _ ?_
   have he:∃ q,h'.get? a=some q:=let ⟨q,_,_,hq,_⟩:=dd';⟨q,hq⟩;exact zdE I (by rw [e];exact True.intro) hs he (zd4 hl hd (rel.put k rv) dd')
 . subst ey eH
   cases(show u=Value.ref b from ry)
   obtain⟨z,hd,xs,rel,dd⟩:=zgX I.hok e;have hz:xs.length<=sizeLine:=by rw [<-Paired.length rel];exact z
   have hl:(putK kvs k v).length<=sizeLine:=by have:=zdm kvs k v;omega
   refine wpAny_setItem_heap (hsz:=hz) (tupleKind_room_in1 hu) (zao I.hok eb) dd fun h' dd' hs=>h _ ?_
   obtain⟨q,es,ep,hq,h2,h3,h4,_,h5⟩:=dd';refine zdE I (by rw [e];exact True.intro) hs ⟨q,hq⟩ ⟨hl,hd,_,(rel.put k eb rv).keeps fun c ys ec=>?_,q,es,ep,hq,h2,h3,h4,h5⟩
   rw [zh (zgk ec e (fun z=>nomatch z))]
   exact ec
end
section
variable{X:Cx}{pins:List (Addr×Obj)}{σ : St}{H:Hp}{s:Shared}{a:Addr}{kvs:List (Key×V)}{k:Key}{u:Value}{A:Around}{E:Value->Shared->Prop}
end
def NoSl(i:Expr):Prop:=∀ ov iv,subscripted i false ov iv=operate [ov,iv] (getItem ov iv)
theorem zh1{prog:Program}{w:World}{A:Around}{E:Value->Shared->Prop}{s:Shared}{env:Env}{value slice:Expr}{pos:Pos}{T id:String}{Q:Value->Shared->Prop}
 (hl:typeLookup (.type T) "__getitem__" = pure (some (.builtin id))) (hs:NoSl slice)
 (h:wpAny (model prog w) A (eval value env) (fun o s₁=>wpAny (model prog w) A (eval slice env) (fun i s₂=>s₂.TypeIs o T/\wpAny (model prog w) A (getItem o i) Q E s₂) E s₁) E s) :
 wpAny (model prog w) A (eval (.Subscript value slice pos) env) Q E s:=by
 refine Subscript_ (wpAny_mono h (fun o s₁ h₁=>wpAny_mono h₁ (fun i s₂ h₂=>?_) fun _ _ x=>x) fun _ _ x=>x)
 obtain⟨hT,h₂⟩:=h₂;unfold subscriptTail;refine wpAny_bind ?_;rw [getitemInPython_of_ne hT.not_modules];refine wpAny_bind (wpAny_specialOf hT hl ?_);have fin:wpAny (model prog w) A (subscripted slice false o i) (fun r s₃=>wpAny (model prog w) A (letTemporaryGo value o r >>= fun _=>pure r) Q E s₃) E s₂:=by
  rw [hs o i];exact wpAny_operating (wpAny_mono h₂ (fun r s₃ h₃=>wpAny_bind (wpAny_letTemporaryGo (wpAny_pure h₃))) fun _ _ x=>x)
 first
  | exact wpAny_pure (wpAny_bind fin)
  | exact wpAny_bind (wpAny_pure (wpAny_bind fin))
  | exact wpAny_bind fin
theorem zkn{X:Cx}{pins:List (Addr×Obj)}{σ : St}{H:Hp}{s:Shared}{a:Addr}{y:V}{o:Option V}(I:Inv X pins σ H s)(g:DGet H a y o):s.TypeIs (.ref a) "dict":=by
 rcases g with ⟨kvs,k,e,_,_⟩|⟨kvs,k,b,e,_,_,_⟩
 . obtain⟨_,_,vs,_,dd⟩:=J6 I.hok e
   exact dd.typeIs
 . obtain⟨_,_,xs,_,dd⟩:=ZB I.hok e
   exact dd.typeIs
def zfP(td ty:TE):TE:=fun σ H Q=>td σ H fun x H1=>ty σ H1 fun y H2=>∃ a v,x=.ref a/\DGet H2 a y (some v)/\Q v H2
def zeN(ty td:TE):TE:=fun σ H Q=>ty σ H fun y H1=>td σ H1 fun x H2=>∃ a o,x=.ref a/\DGet H2 a y o/\Q (.bl (!o.isSome)) H2
def zem(td ty tv:TE):TS:=fun D σ H=>tv σ H fun v H1=>td σ H1 fun x H2=>ty σ H2 fun y H3=>∃ a H4,x=.ref a/\DPut H3 a y v H4/\D.nx σ H4
section
variable{X:Cx}{o i e value:Expr}{pos pos' tpos:Pos}{td ty tv:TE}
theorem zhC(hu:X.A.units+1<cLine)(ho:PE X o td)(hi:PE X i ty)(hs:NoSl i):PE X (.Subscript o i pos) (zfP td ty):=by
 intro pins s σ H Q I h;refine zh1 PySem.F.slot_dict_getitem.lookup hs (thn (ho pins s σ H _ I h) fun u s1 ⟨x,H1,I1,rx,q1⟩=>thn (hi pins s1 σ H1 _ I1 q1) fun iv s2 ⟨y,H2,I2,ry,a,v,ex,g,q2⟩=>?_)
 subst ex;obtain rfl:u=Value.ref a:=rx;exact⟨zkn I2 g,zkD hu I2 g ry fun w' s3 I3 rw'=>⟨v,H2,I3,rw',q2⟩⟩
theorem zcQ(hu:X.A.units+1<cLine)(hi:PE X i ty)(ho:PE X o td):PC X .NotIn i o (zeN ty td):=by
 intro pins s σ H Q I h;refine thn (hi pins s σ H _ I h) fun iv s1 ⟨y,H1,I1,ry,q1⟩=>thn (ho pins s1 σ H1 _ I1 q1) fun u s2 ⟨x,H2,I2,rx,a,ov,ex,g,q2⟩=>?_
 subst ex;obtain rfl:u=Value.ref a:=rx;exact ziR hu I2 g ry fun s3 I3=>⟨.bl (!ov.isSome),H2,I3,rfl,q2⟩
theorem zda(hu:X.A.units+1<cLine)(ho:PE X o td)(hi:PE X i ty)(hv:PE X value tv)(hs:swapsWith value (some (.Subscript o i pos')) pos.line X.env=pure false) :
 PS X (.Assign [.Subscript o i pos'] value pos) (zem td ty tv):=by
 intro pins s σ H D I h;refine wpAny_Assign_Subscript (thn (hv pins s σ H _ I h) fun r s1 ⟨v,H1,I1,rv,q1⟩=>thn (ho pins s1 σ H1 _ I1 q1) fun u s2 ⟨x,H2,I2,rx,q2⟩=>thn (hi pins s2 σ H2 _ I2 q2) fun iv s3 ⟨y,H3,I3,ry,a,H4,ex,g,q3⟩=>?_) hs
 subst ex;obtain rfl:u=Value.ref a:=rx;exact zh0 hu I3 g ry rv fun s4 I4=>⟨σ,H4,I4,q3⟩
end
theorem zfO{P:Program}{w:World}{H:Hp}(h:Heap)(hb:sysModules<h.objs.size):zJ P w H (h.push { cls:=.type "dict", data:=.dict #[] }) h.objs.size (.dK []):=
 ⟨WaK _,beq_eq_false_iff_ne.mpr (WaL (Yaf hb)),[],.nil,Heap.DictOf.new h⟩
theorem zis{P:Program}{w:World}{H:Hp}(h:Heap)(hb:sysModules<h.objs.size):zJ P w H (h.push { cls:=.type "dict", data:=.dict #[] }) h.objs.size (.dT []):=
 ⟨WaK _,beq_eq_false_iff_ne.mpr (WaL (Yaf hb)),[],.nil,_,#[],0,Yan _ rfl,⟨rfl,rfl,rfl⟩,rfl,rfl,List.nodup_nil⟩
def tDNewK:TE:=fun _ H Q=>∀ p,H p=none->Q (.ref p) (upd H p (.dK []))
def tDNewT:TE:=fun _ H Q=>∀ p,H p=none->Q (.ref p) (upd H p (.dT []))
section
variable{X:Cx}{pos:Pos}
theorem zhF:PE X (.Dict [] [] pos) tDNewK:=fun pins s σ H Q I h=>
 wpAny_Dict_empty ⟨.ref s.heap.objs.size,_,I.laid (a:=s.heap.objs.size) (o:=.dK []) (t':=s.toks) (fun _ _ q=>YaW _ q) (YaY _) (zfO s.heap I.big),rfl,h _ (I.hok.fresh (YaY _))⟩
theorem zeO:PE X (.Dict [] [] pos) tDNewT:=fun pins s σ H Q I h=>
 wpAny_Dict_empty ⟨.ref s.heap.objs.size,_,I.laid (a:=s.heap.objs.size) (o:=.dT []) (t':=s.toks) (fun _ _ q=>YaW _ q) (YaY _) (zis s.heap I.big),rfl,h _ (I.hok.fresh (YaY _))⟩
end
end L2
namespace L3
open PySem PySem.Spec PyProof.Rows L2
variable[LamW]
def getT(ds:List (List Key×D))(k:List Key):Option D:=(ds.find? fun kv=>decide (kv.1=k)).map (·.2)
def putT(ds:List (List Key×D))(k:List Key)(d:D):List (List Key×D):=
 if(ds.any fun kv=>decide (kv.1=k))=true then ds.map (fun kv=>if kv.1=k then(kv.1,d) else kv) else ds++[(k,d)]
theorem zcT{k:List Key}{d:D}{ds:List (List Key×D)}:getT ((k,d)::ds) k=some d:=by simp [getT]
theorem zdd{k' k:List Key}{d:D}{ds:List (List Key×D)}(e:¬k'=k):getT ((k',d)::ds) k=getT ds k:=by simp [getT,List.find?_cons,e]
section
variable{K:Ybf}{H0 G0:Hp}{ρ : Env3}{σ : L2.St}{G H:Hp}
theorem Dr.get{kvs:List (List Key×V)}{ds:List (List Key×D)}(r:Dr K H0 G kvs ds){k:List Key}{d:D}(h:getT ds k=some d):∃ v,valV kvs k=some v/\Rf K H0 G true v d:=by
 induction r with
 | nil=>cases h
 | cons a b ih=>
  rename_i k' v' d' kvs' ds'
  by_cases e:k'=k
  . subst e
    rw [zcT] at h;cases h;exact⟨v',ZZ rfl,a⟩
  . rw [zdd e] at h
    obtain⟨v,h1,h2⟩:=ih h;exact⟨v,by rw [ZL e];exact h1,h2⟩
theorem Dr.some{kvs:List (List Key×V)}{ds:List (List Key×D)}(r:Dr K H0 G kvs ds)(k:List Key):(valV kvs k).isSome=(getT ds k).isSome:=by
 induction r with
 | nil=>rfl
 | cons a b ih=>
  rename_i k' v' d' kvs' ds'
  by_cases e:k'=k
  . subst e;rw [ZZ rfl,zcT];rfl
  . rw [ZL e,zdd e];exact ih
theorem Dr.any{kvs:List (List Key×V)}{ds:List (List Key×D)}(r:Dr K H0 G kvs ds)(k:List Key):(kvs.any fun kv=>decide (kv.1=k))=ds.any fun kv=>decide (kv.1=k):=by
 induction r with
 | nil=>rfl
 | cons a b ih=>rw [List.any_cons,List.any_cons,ih]
theorem Dr.snoc{kvs:List (List Key×V)}{ds:List (List Key×D)}(r:Dr K H0 G kvs ds){k:List Key}{v:V}{d:D}(a:Rf K H0 G true v d):Dr K H0 G (kvs++[(k,v)]) (ds++[(k,d)]):=by
 induction r with
 | nil=>exact .cons a .nil
 | cons a b ih=>exact .cons a ih
theorem Dr.repl{kvs:List (List Key×V)}{ds:List (List Key×D)}(r:Dr K H0 G kvs ds){k:List Key}{v:V}{d:D}(a:Rf K H0 G true v d):Dr K H0 G (kvs.map fun kv=>if kv.1=k then(kv.1,v) else kv) (ds.map fun kv=>if kv.1=k then(kv.1,d) else kv):=by
 induction r with
 | nil=>exact .nil
 | cons b c ih=>
  rename_i k' v' d' kvs' ds';rw [Ya1,Ya1]
  by_cases e:k'=k
  . rw [if_pos e,if_pos e];exact .cons a ih
  . rw [if_neg e,if_neg e];exact .cons b ih
theorem Dr.put{kvs:List (List Key×V)}{ds:List (List Key×D)}(r:Dr K H0 G kvs ds){k:List Key}{v:V}{d:D}(a:Rf K H0 G true v d):Dr K H0 G (putK kvs k v) (putT ds k d):=by
 unfold putK putT;rw [r.any]
 split
 . exact r.repl a
 . exact r.snoc a
theorem Dr.length{kvs:List (List Key×V)}{ds:List (List Key×D)}(r:Dr K H0 G kvs ds):kvs.length=ds.length:=by
 induction r with
 | nil=>rfl
 | cons a b ih=>rw [List.length_cons,List.length_cons,ih]
theorem zbd(F:Fr3 K H0 G0 ρ σ G H){i:Nat}{ds:List (List Key×D)}(h:ρ[i]?=.some (.some (.dt ds))):∃ l kvs,σ[i]?=.some (.some (.ref l))/\H l=.some (.dT kvs)/\Dr K H0 G kvs ds/\G l=none:=by
 obtain⟨v,h1,h2⟩:=F.slot i _ h;cases h2 with
 | dt a b c=>exact⟨_,_,h1,a,b,c⟩
end
section
variable{X:Cx}{H0:Hp}{e a b:Expr}{pos:Pos}{x:Str}{i:Nat}
def Z4(i:Nat):TS3:=fun A ρ=>A.nx (ρ.set i (some (.dt [])))
theorem zfj{pos' p:Pos}(hN:X.N.Nodup)(hi:X.N[i]?=some x)(hx:Loc X.env.scope x)(hs:swapsWith (.Dict [] [] p) (some (.Name x pos')) pos.line X.env=pure false:=by rfl)
 (hf:X.fn x=true\/X.env.scope.names.lookup x=some .local:=by first|exact .inl rfl|exact .inr rfl|assumption):PS3 X H0 (.Assign [.Name x pos'] (.Dict [] [] p) pos) (Z4 i):=PS.imp (ZQ hN hi hx zeO hs hf) fun B σ H=>el7 fun G0 A ρ G F q L=>
 fun p hp=>L.nx _ _ G _ (F.put (zS hp _).x (.dt zp .nil (F.sub.free hp)) fun a h=>by cases h;exact hp) q
abbrev kk(a b:Int):List Key:=[.inl a,.inl b]
def ZN(i:Nat)(ta tb te:TE3):TS3:=fun A ρ=>∃ ds,ρ[i]?=some (some (.dt ds))/\te ρ fun c=>ta ρ fun ka=>tb ρ fun kb=>∃ d m n,c=.sh true d/\ka=.sh true (.int m)/\kb=.sh true (.int n)/\ds.length<sizeLine/\A.nx (ρ.set i (some (.dt (putT ds (kk m n) d))))
theorem zjw{ta tb te:TE3}{np tp spos:Pos}{k1}(hu:X.A.units+1<cLine)(hN:X.N[i]?=some x)(hv:Vis X.env.scope x)(ha:PE3 X H0 a ta)(hb:PE3 X H0 b tb)(he:PE3 X H0 e te)(hd:(x==("__debug__" : Str))=false:=by decide)(hcd:(x==("__classdict__" : Str))=false:=by decide)
 (hs1:starEach [a,b] X.env=(false,eval a X.env)::starEach [b] X.env:=by rfl) (hs2:starEach [b] X.env=(false,eval b X.env)::starEach [] X.env:=by rfl)
 (hs:swapsWith e (some (.Subscript (.Name x np) (.Tuple [a,b] k1 tp) spos)) pos.line X.env=pure false:=by rfl):PS3 X H0 (.Assign [.Subscript (.Name x np) (.Tuple [a,b] k1 tp) spos] e pos) (ZN i ta tb te):=by
 refine PS.imp (zda hu (jn hN hv hd hcd) (zaN (z9 ha.ok (z9 hb.ok jt hs2) hs1)) he.ok hs) fun B σ H hyp=>?_
 obtain⟨G0,A,ρ,G,F,⟨ds,hi,q⟩,L⟩:=hyp;refine⟨G0,ρ,G,F,he.mono ρ _ _ (fun c q1 v G1 H1 g1 w1=>?_) q⟩
 have F1:=F.gr g1;obtain⟨l,kvs,hl,_,_,_⟩:=zbd F1 hi;refine⟨.ref l,hl,G0,ρ,G1,F1,ha.mono ρ _ _ (fun ka q2 v2 G2 H2 g2 w2=>?_) q1⟩
 refine⟨G0,ρ,G2,F1.gr g2,hb.mono ρ _ _ (fun kb q3 v3 G3 H3 g3 w3=>?_) q2⟩
 obtain⟨d,m,n,e1,e2,e3,e4,q4⟩:=q3;subst e1 e2 e3;cases zC (zn w2).rd;cases zC (zn w3).rd;refine⟨show 2<=sizeLine by decide,fun p hp=>?_⟩
 have F3:=((F1.gr g2).gr g3).gr (Gr.apart (o:=.tup [.int m,.int n]) g3.sub hp);obtain⟨l',kvs',hl',k2,k3,k4⟩:=zbd F3 hi;rw [hl] at hl';cases hl';have rv:=(zn w1).same (g2.g.trans g3.g);exact⟨l,_,rfl,DPut.t (k:=kk m n) k2 zp (by rw [k3.length];exact e4),L.nx _ _ _ _ (F3.chg (c':=.dt (putT ds (kk m n) d)) hi hl rfl (fun _ h=>h) (.dt zp (k3.put rv) k4)) q4⟩
end
end L3
namespace PySem
open Sem (wp)
open AutoSeq1 (wpAny_loadPart')
section
variable{prog:Program}{w:World}{A:Around}{E:Value->Shared->Prop}{s:Shared}
end
end PySem
namespace L2
open PySem PySem.Spec PyProof.Rows
end L2
namespace L3
open PySem PySem.Spec PyProof.Rows L2
variable[LamW]
section
variable{X:Cx}{H0:Hp}{pos p:Pos}
end
variable[LamW]
section
variable{K:Ybf}{H0 G0 G G' H:Hp}{ρ : Env3}{σ : L2.St}
end
section
variable{X:Cx}{H0:Hp}{e:Expr}
end
end L3
namespace L2
open PySem PySem.Spec PyProof.Rows
section
variable{X:Cx}
end
end L2
namespace L3
open PySem PySem.Spec PyProof.Rows L2
variable[LamW]
section
variable{X:Cx}{H0:Hp}{e a b:Expr}{pos:Pos}
def repN(ta:TN3)(tb:TE3):TN3:=fun ρ Q=>ta ρ fun f ds=>tb ρ fun c=>asI c fun k=>(-(2 ^ 63)<=k/\k<2 ^ 63)/\ds.length*k.toNat<=sizeLine/\Q f (List.replicate k.toNat ds).flatten
theorem Rfs.rep{K:Ybf}{H0 G:Hp}{f:Bool}{vs:List V}{ds:List D}(r:Rfs K H0 G f vs ds)(n:Nat):Rfs K H0 G f (List.replicate n vs).flatten (List.replicate n ds).flatten:=by
 induction n with
 | zero=>exact Rfs.nil
 | succ n ih=>
  rw [List.replicate_succ,List.replicate_succ,List.flatten_cons,List.flatten_cons];have:=Rfs.append r ih;rwa [WaF] at this
theorem rep3{ta:TN3}{tb:TE3}(ha:PN3 X H0 a ta)(hb:PE3 X H0 b tb):PN3 X H0 (.BinOp a .Mult b pos) (repN ta tb):=
 ⟨fun ρ Q Q' h q=>ha.mono ρ _ _ (fun f ds=>hb.mono ρ _ _ fun c q=>by obtain⟨k,rfl,h1,h2,q⟩:=jf q;exact⟨h1,h2,h _ _ q⟩) q,
  PE.imp (zbw zje ha.ok hb.ok) fun σ H Q=>el5 fun G0 ρ G F q=>⟨G0,ρ,G,F,ha.mono ρ _ _ (fun f ds qa l vs G1 H1 g1 hl r=>⟨G0,ρ,upd G1 l (.lst vs),F.gr (g1.trans (Gr.put g1.sub hl)),hb.mono ρ _ _ (fun c hyp v2 G2 H2 g2 w2=>by
   obtain⟨k,rfl,⟨h1,h2⟩,h3,q⟩:=jf hyp;have e:=zC (zn w2).rd;subst e;refine⟨l,k,vs,rfl,rfl,g2.h.at zp,h1,h2,by rw [r.length];exact h3,fun p hp=>q p _ G2 H2 ((g1.trans (Gr.put g1.sub hl)).trans g2) hp (((r.same (zS (g1.sub.free hl) _)).same g2.g).rep _)⟩) qa⟩) q⟩⟩
end
end L3
namespace L2
open PySem PySem.Spec PyProof.Rows
theorem zdc{α β : Type}{F:α->β->Prop}:∀ {l:List α} {m:List β},Paired F l m->∀ {j:Nat} {a:α} {b:β},l[j]?=some a->m[j]?=some b->F a b
 | _,_,.nil,_,_,_,h,_=>by simp at h
 | _, _, .cons x r, 0, _, _, h, h' => by
  rw [List.getElem?_cons_zero] at h h';cases h;cases h';exact x
 | _, _, .cons x r, j + 1, _, _, h, h' => by
  rw [List.getElem?_cons_succ] at h h';exact zdc r h h'
theorem ziX{X:Cx}{st:Stmt}{t:TS}(h:PS X st t):PS X st (fun B σ H=>∃ l kvs,H l=some (.dT kvs)/\∀ (o:Obj) (es:Array DictEntry) (ep:Nat) (as:List Addr),o.ExactDict->o.data=.dict es ep->es.toList.map (·.key)=as.map Value.ref->as.length=kvs.length->(∀ (j:Nat) (a:Addr) (k:List Key) (v:V),as[j]?=some a->kvs[j]?=some (k,v)->H a=some (.tup (k.map kV)))->t B σ (upd H l (.frz o (.dT kvs)))):=by
 intro pins s σ H B I hyp;obtain⟨l,kvs,hl,q⟩:=hyp;obtain⟨hz,hs,xs,hp,o,es,ep,ho,hx,he,hes,hnd⟩:=(show zJ X.prog X.w H s.heap l (.dT kvs) from I.hok l _ hl)
 have hlen:kvs.length=xs.length:=Paired.length hp;have hat:∀ (j:Nat) (a:Addr) (k:List Key) (v:V),(xs.map (·.2.1))[j]?=some a->kvs[j]?=some (k,v)->H a=some (.tup (k.map kV)):=fun j a k v ha hk=>by
  rw [Ya0] at ha;cases e:xs[j]? with
  | none=>rw [e] at ha;cases ha
  | some y=>
   rw [e] at ha;cases ha;exact(zdc hp hk e).2.1
 have I':Inv X pins σ (upd H l (.frz o (.dT kvs))) s:=by
  refine I.write (h':=s.heap) (t':=s.toks) (e:=l) (by rw [hl];exact True.intro) (.inl rfl) (fun _ _ _ e=>e) ⟨o,ho⟩ ⟨ho,hz,hs,xs,Paired.mapP hp fun p y ⟨h1,h2,h3⟩=>⟨h1,(zh (fun z=>by rw [z,hl] at h2;cases h2)).trans h2,h3⟩,o,es,ep,ho,hx,he,hes,hnd⟩
 refine h pins s σ _ B I' (q o es ep (xs.map (·.2.1)) hx he ?_ (by rw [YaR];exact hlen.symm) hat)
 rw [hes,YaD,YaD]
 rfl
structure M1(X:Cx)(o:Expr)(m:Str)(apos:Pos)(e:Expr)(cpos:Pos):Prop where
 base:attributeBase o m X.env (eval o X.env)=eval o X.env
 few:((backTo cpos (starEach [e] X.env)).all (fun x=>!x.1)&&(backToKw cpos (keywordEach [] X.env)).all (fun x=>x.1.isSome)
  && decide (([e]:List Expr).length+([]:List Keyword).length+(if([]:List Keyword).isEmpty then 0 else 1)<30))=true
 line:(apos.endLine==cpos.line)=true
 trees:backTo cpos (starEach [e] X.env)=[(false,eval e X.env)]
def IsD(H:Hp)(a:Addr):Prop:=(∃ kvs,Rd H a (.dK kvs))\/∃ kvs,Rd H a (.dT kvs)
theorem zeH{X:Cx}{pins:List (Addr×Obj)}{σ : St}{H:Hp}{s:Shared}{a:Addr}(I:Inv X pins σ H s)(d:IsD H a) :
 s.TypeIs (.ref a) "dict"/\(∀ b,Value.ref a=.ref b->∃ ob,s.heap.get? b=some ob/\ob.dict=none)/\(a==sysModules)=false:=by
 rcases d with ⟨kvs,e⟩|⟨kvs,e⟩
 . obtain⟨_,hd,vs,_,dd⟩:=J6 I.hok e
   refine⟨dd.typeIs,fun b q=>?_,hd⟩
   cases q;obtain⟨ob,_,_,h1,h2,_⟩:=dd
   exact⟨ob,h1,h2.2.1⟩
 . obtain⟨_,hd,xs,_,dd⟩:=ZB I.hok e
   refine⟨dd.typeIs,fun b q=>?_,hd⟩
   cases q;obtain⟨ob,_,_,h1,h2,_⟩:=dd
   exact⟨ob,h1,h2.2.1⟩
section
variable{X:Cx}{pins:List (Addr×Obj)}{σ : St}{H:Hp}{s:Shared}{a:Addr}{y d:V}{u r:Value}{o:Option V}{A:Around}{E:Value->Shared->Prop}
theorem zhr{Q:Value->Shared->Prop}(hu:A.units+1<cLine)(I:Inv X pins σ H s)(g:DGet H a y o)(ry:RelV y u)(h:∀ w' s',Inv X pins σ H s'->RelV (o.getD .non) w'->Q w' s') :
 wpAny (model X.prog X.w) A (call (.builtin "dict.get") [.ref a,u]) Q E s:=by
 rcases g with ⟨kvs,k,e,ey,l⟩|⟨kvs,k,b,e,ey,eb,l⟩
 . subst ey
   obtain⟨z,hd,vs,rel,dd⟩:=J6 I.hok e;refine call_meetsIn PySem.F.slot_dict_get dd.typeIs PySem.F.entry_dict_get (PySem.F.args_dict_get_2 _ _) (meets_dict_get (jc X.prog X.w) a (zah ry) hd) ⟨_,dd.mapOf,h _ _ (I.tok _) ?_⟩;rw [l];exact(rel.val k).getD rfl
 . subst ey
   cases(show u=Value.ref b from ry)
   obtain⟨z,hd,xs,rel,dd⟩:=ZB I.hok e;refine call_meetsIn PySem.F.slot_dict_get dd.typeIs PySem.F.entry_dict_get (PySem.F.args_dict_get_2 _ _) (meetsH_dict_get (tupleKind (jc X.prog X.w)) a b hd) ⟨tupleKind_room_in1 hu,k,xs,zao I.hok eb,dd,h _ _ (I.tok _) ?_⟩;rw [l];exact(rel.val k).getD rfl
end
def zjz(td ty:TE):TE:=fun σ H Q=>td σ H fun x H1=>∃ a,x=.ref a/\IsD H1 a/\ty σ H1 fun y H2=>∃ o,DGet H2 a y o/\Q (o.getD .non) H2
section
variable{X:Cx}{o e f:Expr}{apos cpos:Pos}{td ty tx:TE}
theorem zkq(hu:X.A.units+1<cLine)(ho:PE X o td)(he:PE X e ty)(m:M1 X o "get" apos e cpos):PE X (.Call (.Attribute o "get" apos) [e] [] cpos) (zjz td ty):=by
 intro pins s σ H Q I h;refine wpAny_Call_method m.base m.few m.line PySem.F.plainAttrs_dict PySem.F.slot_dict_get PySem.F.type_dict_get (thn (ho pins s σ H _ I h) fun u s1 ⟨x,H1,I1,rx,a,ex,d,q1⟩=>?_)
 subst ex;obtain rfl:u=Value.ref a:=rx;obtain⟨t1,t2,_⟩:=zeH I1 d;refine⟨t1,t2,?_⟩;rw [m.trees];refine Calls.callWith_builtin rfl (Calls.evalArgs_plain (Calls.spliced_cons (thn (he pins s1 σ H1 _ I1 q1) fun iv s2 ⟨y,H2,I2,ry,ov,g,q2⟩=>Calls.spliced_nil ?_)))
 exact zhr hu I2 g ry fun w' s3 I3 rw'=>⟨_,H2,I3,rw',q2⟩
end
end L2
namespace L3
open PySem PySem.Spec PyProof.Rows L2
variable[LamW]
section
variable{K:Ybf}{H0 G0:Hp}{ρ : Env3}{σ : L2.St}{G H:Hp}
theorem Fr3.frzD(F:Fr3 K H0 G0 ρ σ G H){i:Nat}{ds:List (List Key×D)}{l:Addr}{kvs:List (List Key×V)}(hi:ρ[i]?=some (some (.dt ds)))(hv:σ[i]?=some (some (.ref l)))(hl:H l=some (.dT kvs))(r:Dr K H0 G kvs ds)(hG:G l=none){o:Obj}{es:Array DictEntry}{ep:Nat}{as:List Addr}(hx:o.ExactDict)(he:o.data=.dict es ep)(ha:es.toList.map (·.key)=as.map Value.ref)(hn:as.length=kvs.length)
 (hk:∀ (j:Nat) (a:Addr) (k:List Key) (v:V),as[j]?=some a->kvs[j]?=some (k,v)->H a=some (.tup (k.map kV))):∃ G',Same G G'/\Fr3 K H0 G0 (ρ.set i (some (.fd ds))) σ G' (upd H l (.frz o (.dT kvs))):=by
 have hat:∀ a∈as,∃ xs,H a=some (.tup xs):=fun a h=>by
  obtain⟨j,hj,e⟩:=Yam h;have hj':j<kvs.length:=#[0]
  exact⟨_,hk j a kvs[j].1 kvs[j].2 (by rw [YaQ hj,e]) (YaQ hj')⟩
 have hla:l∉as:=fun h=>by
  obtain⟨xs,e⟩:=hat l h;rw [hl] at e;cases e
 have h0:H0 l=none:=F.mine i _ _ l hi hv rfl;have e1:(fun b=>if b=l then some (.frz o (.dT kvs)) else if b∈as then H b else G b:Hp) l=some (.frz o (.dT kvs)):=if_pos rfl
 have e2:∀ b,b≠l->b∈as->(fun b=>if b=l then some (.frz o (.dT kvs)) else if b∈as then H b else G b:Hp) b=H b:=fun b n m=>by simp only [if_neg n,if_pos m]
 have e3:∀ b,b≠l->b∉as->(fun b=>if b=l then some (.frz o (.dT kvs)) else if b∈as then H b else G b:Hp) b=G b:=fun b n m=>by simp only [if_neg n,if_neg m]
 generalize (fun b=>if b=l then some (.frz o (.dT kvs)) else if b∈as then H b else G b:Hp)=G' at e1 e2 e3
 have gg:Same G G':=fun b u e=>by
  have nb:b≠l:=fun z=>by rw [z,hG] at e;cases e
  by_cases m:b∈as
  . rw [e2 b nb m];exact F.sub.s b u e
  . rw [e3 b nb m];exact e
 refine⟨G',gg,F.keep.chg h0 hl (fun f z=>by cases z),⟨fun b u e=>?_,fun b f e=>?_⟩,fun b u e=>?_,F.g0.trans gg,fun j c2 e=>?_,fun j c2 v2 a e e' h=>?_,fun j k c1 c2 v1 v2 a q1 q2 q3 q4 h1 h2=>?_,by rw [YaN];exact F.len⟩
 . by_cases nb:b=l
   . subst nb;rw [e1] at e;rw [zp];exact e
   . rw [zh nb]
     by_cases m:b∈as
     . rw [e2 b nb m] at e;exact e
     . rw [e3 b nb m] at e;exact F.sub.s b u e
 . by_cases nb:b=l
   . subst nb;rw [e1] at e;cases e
   . by_cases m:b∈as
     . obtain⟨xs,z⟩:=hat b m
       rw [e2 b nb m,z] at e;cases e
     . rw [e3 b nb m] at e;exact F.sub.cl b f e
 . by_cases nb:b=l
   . subst nb;exact .inr (.inl h0)
   . by_cases m:b∈as
     . obtain⟨xs,z⟩:=hat b m
       rw [e2 b nb m,z] at e;exact .inr (.inr ⟨xs,(Waz e).symm⟩)
     . rw [e3 b nb m] at e;exact F.old b u e
 . rcases zD e with ⟨rfl,q,_⟩|⟨n,q⟩
   . cases q
     refine⟨_,hv,.fd e1 (r.same gg) ⟨es,ep,as,hx,he,ha,hn,fun j a k v z1 z2=>?_⟩⟩
     have hm:a∈as:=Yah z1;rw [e2 a (fun z=>hla (z ▸ hm)) hm]
     exact hk j a k v z1 z2
   . obtain⟨v',h1,h2⟩:=F.slot j c2 q
     refine⟨v',h1,h2.turn gg (fun a C z=>?_) fun a h3=>?_⟩
     . rw [zh (fun y=>by rw [y,hl] at z;cases z)];exact z
     . have nb:a≠l:=fun z=>n (F.apart i j _ c2 _ v' a hi q hv h1 (by rw [z];rfl) h3)
       refine⟨zh nb,e3 a nb fun m=>?_⟩
       obtain⟨xs,z⟩:=hat a m;exact h2.ntup h3 xs z
 . rcases zD e with ⟨rfl,q,_⟩|⟨n,q⟩
   . cases q;exact False.elim h
   . exact F.mine j c2 v2 a q e' h
 . rcases zD q1 with ⟨rfl,q,_⟩|⟨n,q⟩
   . cases q;exact False.elim h1
   . rcases zD q2 with ⟨rfl,q',_⟩|⟨n',q'⟩
     . cases q';exact False.elim h2
     . exact F.apart j k c1 c2 v1 v2 a q q' q3 q4 h1 h2
theorem ze3(F:Fr3 K H0 G0 ρ σ G H){i:Nat}{ds:List (List Key×D)}(h:ρ[i]?=some (some (.fd ds))):∃ l o kvs,σ[i]?=some (some (.ref l))/\G l=some (.frz o (.dT kvs))/\Dr K H0 G kvs ds/\KAt G o kvs:=by
 obtain⟨v,h1,h2⟩:=F.slot i _ h;cases h2 with
 | fd a b c=>exact⟨_,_,_,h1,a,b,c⟩
theorem Dr.keys{kvs:List (List Key×V)}{ds:List (List Key×D)}(r:Dr K H0 G kvs ds):kvs.map (·.1)=ds.map (·.1):=by
 induction r with
 | nil=>rfl
 | cons a b ih=>rw [Ya1,Ya1,ih]
end
section
variable{X:Cx}{H0:Hp}{st:Stmt}{pos:Pos}{x:Str}{i:Nat}
def frzD(i:Nat)(t:TS3):TS3:=fun A ρ=>∃ ds,ρ[i]?=some (some (.dt ds))/\t A (ρ.set i (some (.fd ds)))
theorem zhw(i:Nat){t:TS3}(h:PS3 X H0 st t):PS3 X H0 st (frzD i t):=PS.imp (ziX h) fun B σ H hyp=>by
 obtain⟨G0,A,ρ,G,F,⟨ds,hi,q⟩,L⟩:=hyp;obtain⟨l,kvs,hv,hl,r,hG⟩:=zbd F hi;refine⟨l,kvs,hl,fun o es ep as hx he ha hn hk=>?_⟩
 obtain⟨G',gg,F'⟩:=F.frzD hi hv hl r hG hx he ha hn hk;exact⟨G0,A,_,G',F',q,L⟩
end
section
variable{K:Ybf}{H0 G0:Hp}{ρ : Env3}{σ : L2.St}{G H:Hp}
end
section
variable{X:Cx}{H0:Hp}{pos:Pos}{x y:Str}{i j:Nat}
end
variable[LamW]
abbrev Tb:=List (Int×Int)
def dms:List Cl->List Addr
 | []=>[]
 | .dm a _::r=>a::dms r
 | .sh _ _::r=>dms r
 | .ow _ _::r=>dms r
 | .tr _ _::r=>dms r
 | .dt _::r=>dms r
 | .dk _::r=>dms r
 | .fd _::r=>dms r
 | .tk _::r=>dms r
 | .ex _::r=>dms r
def z7:Cl->Bool
 | .sh _ _=>true
 | .dm _ _=>true
 | .fd ds=>ds.all fun p=>zo p.2
 | .ow _ _=>false
 | .tr _ _=>false
 | .dt _=>false
 | .dk _=>false
 | .tk _=>false
 | .ex _=>false
def argC:Cl->Cl
 | .sh _ d=>.sh (zo d) d
 | .dm a ds=>.dm a ds
 | .fd ds=>.fd ds
 | .ow f ds=>.ow f ds
 | .tr a b=>.tr a b
 | .dt a=>.dt a
 | .dk a=>.dk a
 | .tk a=>.tk a
 | .ex a=>.ex a
def Jd:Cl->Bool
 | .sh _ _=>true
 | .dt _=>true
 | .dm _ _=>false
 | .fd _=>false
 | .ow _ _=>false
 | .tr _ _=>false
 | .dk _=>false
 | .tk _=>false
 | .ex _=>false
theorem zbb(cs:List Cl):dms (cs.map argC)=dms cs:=by
 induction cs with
 | nil=>rfl
 | cons c r ih=>cases c<;>first|exact ih|exact congrArg (List.cons _) ih
theorem zbD{cs:List Cl}{i:Nat}{a:Addr}{ds:Tb}(h:cs[i]?=some (.dm a ds)):a∈dms cs:=by
 induction cs generalizing i with
 | nil=>simp at h
 | cons c r ih=>
  cases i with
  | zero=>cases h;exact YaV
  | succ i=>
   have:=ih (i:=i) (by simpa using h)
   cases c<;>first|exact this|exact YaT _ this
theorem zeB{cs:List Cl}{i j:Nat}{a:Addr}{ds es:Tb}(nd:(dms cs).Nodup)(h:cs[i]?=some (.dm a ds))(h':cs[j]?=some (.dm a es)):i=j:=by
 induction cs generalizing i j with
 | nil=>simp at h
 | cons c r ih=>
  cases i with
  | zero=>
   cases h;cases j with
   | zero=>rfl
   | succ j=>exact absurd (zbD (i:=j) (by simpa using h')) (YaB.mp nd).1
  | succ i=>
   cases j with
   | zero=>
    cases h';exact absurd (zbD (i:=i) (by simpa using h)) (YaB.mp nd).1
   | succ j=>
    have nd':(dms r).Nodup:=by cases c<;>first|exact nd|exact(YaB.mp nd).2
    rw [ih nd' (i:=i) (j:=j) (by simpa using h) (by simpa using h')]
def bar(H:Hp)(as:List Addr):Hp:=fun b=>if b∈as then none else H b
theorem zdg{H:Hp}{as:List Addr}{b:Addr}(h:b∈as):bar H as b=none:=if_pos h
theorem jI{H:Hp}{as:List Addr}{b:Addr}(h:b∉as):bar H as b=H b:=if_neg h
theorem zgP(H:Hp)(as:List Addr):Same (bar H as) H:=fun b o e=>by
 by_cases h:b∈as
 . rw [zdg h] at e;cases e
 . rwa [jI h] at e
theorem zbt{H:Hp}{as:List Addr}{b:Addr}(h:bar H as b=none):b∈as\/H b=none:=by
 by_cases z:b∈as
 . exact .inl z
 . rw [jI z] at h;exact .inr h
def Bk(G H:Hp):List Addr->List Tb->Prop
 | [],[]=>True
 | a::as,m::ms=>(H a=some (.dK (encM m))/\G a=none)/\Bk G H as ms
 | _,_=>False
abbrev SpC:=List Cl->(Cl->List Tb->Prop)->Prop
def spC(K:Ybf)(sp:SpC):Sp:=fun vs H Q _=>∃ G cs,Sub G H/\Vws K (bar H (dms cs)) G H vs cs/\(dms cs).Nodup/\
 sp cs fun c ms=>∀ v G' H',Gr G (bar H (dms cs)) G' H'->Vw K (bar H (dms cs)) G' H' v c->(∀ a,Has c v a->H a=none)->Bk G' H' (dms cs) ms->Jd c=true->Q v H'
structure DfC(P:Program)(w:World)(K:Ybf)(mg:Str->Option Value)(base:Heap)(k:Nat)(x:Str)(ps:List Str)(sp:SpC):Prop where
 mono:∀ cs (Q Q':Cl->List Tb->Prop),(∀ c ms,Q c ms->Q' c ms)->sp cs Q->sp cs Q'
 ok:Df P w K mg base k x ps (spC K sp)
def jz(N:List Str)(cs:List Cl):Env3:=cs.map some++List.replicate (N.length - cs.length) none
def finM:List Nat->List Addr->Env3->(List Tb->Prop)->Prop
 | [],[],_,Q=>Q []
 | j::js,a::as,ρ,Q=>∃ m,ρ[j]?=some (some (.dm a m))/\finM js as ρ fun ms=>Q (m::ms)
 | _,_,_,_=>False
theorem Vws.length{K:Ybf}{H0 G H:Hp}{vs:List V}{cs:List Cl}(h:Vws K H0 G H vs cs):vs.length=cs.length:=zci h
theorem Vws.get{K:Ybf}{H0 G H:Hp}{vs:List V}{cs:List Cl}(h:Vws K H0 G H vs cs){i:Nat}{c:Cl}(e:cs[i]?=some c):∃ v,vs[i]?=some v/\Vw K H0 G H v c:=by
 induction h generalizing i with
 | nil=>simp at e
 | cons a b ih=>
  cases i with
  | zero=>cases e;exact⟨_,rfl,a⟩
  | succ i=>exact ih (i:=i) (by simpa using e)
section
variable{K:Ybf}{H0 G0:Hp}{ρ : Env3}{σ : L2.St}{G H:Hp}
theorem jb(F:Fr3 K H0 G0 ρ σ G H){i:Nat}{a:Addr}{ds:Tb}(h:ρ[i]?=some (some (.dm a ds))):σ[i]?=some (some (.ref a))/\H a=some (.dK (encM ds))/\G a=none:=by
 obtain⟨v,h1,h2⟩:=F.slot i _ h;cases h2 with
 | dm x y=>exact⟨h1,x,y⟩
theorem zbG(F:Fr3 K H0 G0 ρ σ G H):∀ {js:List Nat} {as:List Addr} {R:List Tb->Prop},finM js as ρ R->(∃ ms,Bk G H as ms/\R ms)/\∀ a∈as,∃ (j:Nat) (m:Tb),ρ[j]?=some (some (Cl.dm a m))
 | [],[],R,h=>⟨⟨[],True.intro,h⟩,fun a z=>by cases z⟩
 | j :: js, a :: as, R, ⟨m, hj, h⟩ => by
  obtain⟨⟨ms,h1,h2⟩,h3⟩:=zbG F h;refine⟨⟨m::ms,⟨(jb F hj).2,h1⟩,h2⟩,fun b hb=>?_⟩
  rcases WaB.mp hb with e|hb
  . rw [e];exact⟨j,m,hj⟩
  . exact h3 b hb
 | [],_::_,_,h=>h.elim
 | _::_,[],_,h=>h.elim
end
theorem ziH{K:Ybf}{G H:Hp}{N:List Str}{vs:List V}{cs:List Cl}(s:Sub G H)(w:Vws K (bar H (dms cs)) G H vs cs)(nd:(dms cs).Nodup)(hd:∀ c∈cs,z7 c=true):Fr3 K (bar H (dms cs)) G (jz N cs) (start N vs) G H:=by
 have at3:∀ (i:Nat) c,(jz N cs)[i]?=some (some c)->cs[i]?=some c:=fun i c e=>by
  unfold jz at e
  by_cases hi:i<cs.length
  . rw [Yab (by simpa using hi),Ya0] at e
    cases q:cs[i]? with
    | none=>rw [q] at e;cases e
    | some d=>rw [q] at e;cases e;rfl
  . rw [Yae (by simpa using hi),Yad] at e
    split at e<;>cases e
 have own:∀ (i:Nat) c v a,cs[i]?=some c->Vw K (bar H (dms cs)) G H v c->Has c v a->∃ ds,c=.dm a ds:=fun i c v a e hw h=>by
  have:=hd c (Yah e);cases hw with
  | dm _ _=>cases h;exact⟨_,rfl⟩
  | sh _=>exact False.elim h
  | fd _ _ _=>exact False.elim h
  | _=>cases this
 have len:=w.length;have σat:∀ (i:Nat) c,cs[i]?=some c->∃ v,(start N vs)[i]?=some (some v)/\Vw K (bar H (dms cs)) G H v c:=fun i c e=>by
  obtain⟨v,hv,hw⟩:=w.get e;refine⟨v,?_,hw⟩;unfold L2.start;have hi:i<vs.length:=(Ya8.mp hv).1;rw [Yab (by simpa using hi),Ya0,hv];rfl
 refine⟨(zgP _ _).x,s,fun b o e=>.inl e,Same.refl _,fun i c e=>σat i c (at3 i c e),fun i c v a e e' h=>?_,fun i j c c' v v' a e e' z z' h h'=>?_,?_⟩
 . obtain⟨v',h1,hw⟩:=σat i c (at3 i c e)
   rw [e'] at h1;cases h1;obtain⟨ds,rfl⟩:=own i c v a (at3 i c e) hw h;exact zdg (zbD (at3 i _ e))
 . obtain⟨u,h1,hw⟩:=σat i c (at3 i c e)
   rw [z] at h1;cases h1;obtain⟨u',h1',hw'⟩:=σat j c' (at3 j c' e');rw [z'] at h1';cases h1';obtain⟨ds,rfl⟩:=own i c v a (at3 i c e) hw h;obtain⟨es,rfl⟩:=own j c' v' a (at3 j c' e') hw' h';exact zeB nd (at3 i _ e) (at3 j _ e')
 . unfold jz L2.start;simp [len]
theorem fnC{P:Program}{w:World}{K:Ybf}{mg:Str->Option Value}{base:Heap}{x qual:Str}{st:Stmt}{f:Addr}{fd:FuncData}{N ps:List Str}{k:Nat}{sp:SpC}(M:List Nat)(F:Fun K x qual st f fd)(S:FnScope N ps (ze st))(len:∀ cs Q,sp cs Q->cs.length=ps.length/\∀ c∈cs,z7 c=true)
 (hbody:∀ (cdv:Value) (A:Around) (outer:List Env) (s:Shared) (H H0:Hp) (E:XK) (E3:Addr->Prop),(∀ C H',E3 C->zu H0 H'->E (.ref C) none H')->Room k (A.deeper (envOfC qual (ze st) s.heap.objs.size f cdv))->
  ∃ t,PSs3 (cxOf (CXR P w) P w K mg base N qual (ze st) f cdv A outer s H E) H0 (zq st) t/\∀ cs Q,sp cs Q->t { nx:=fun ρ=>finM M (dms cs) ρ (Q (.sh true .none)),rt:=fun _ _=>False,rm:=fun c ρ=>Jd c=true/\finM M (dms cs) ρ (Q c) } (jz N cs)):FnOk P w K mg base (CXR P w) (k+1) f fd ps (spC K sp):=by
 refine F.okR S (fun vs H Q E h=>?_) (fun cdv A outer s H vs Q E hr h=>?_)
 . obtain⟨G,cs,_,r,_,h⟩:=h
   rw [r.length];exact(len _ _ h).1
 . obtain⟨G,cs,sG,r,nd,h⟩:=h
   obtain⟨t,ht,hq⟩:=hbody cdv A outer s H (bar H (dms cs)) E (fun _=>False) (fun C H' e _=>e.elim) hr
   refine⟨_,ht,G,_,jz N cs,G,ziH sG r nd (len _ _ h).2,hq cs _ h,⟨fun ρ σ G' H' F' q=>?_,fun f d v G' H' g rd q=>q.elim,fun _ _ _ _ _ q=>q.elim,fun _ _ _ _ _ q=>q.elim,fun c v ρ σ G' H' F' w' n' q=>?_⟩⟩
   . obtain⟨⟨ms,b,q⟩,_⟩:=zbG F' q
     exact q .non G' H' F'.gr0 (.sh (.sc rfl .non)) (fun a z=>False.elim z) b rfl
   . obtain⟨hres,q⟩:=q
     obtain⟨⟨ms,b,q⟩,hh⟩:=zbG F' q;refine q v G' H' F'.gr0 w' (fun a z=>?_) b hres
     obtain⟨n1,n2⟩:=n' a z
     rcases zbt n1 with y|y
     . obtain⟨j,m,hj⟩:=hh a y
       exact absurd rfl (n2 j _ _ hj (jb F' hj).1)
     . exact y
variable[LamW]
def holds(ρ : Env3):List Nat->List Addr->Prop
 | [],[]=>True
 | j::js,a::as=>(∃ m,ρ[j]?=some (some (.dm a m)))/\holds ρ js as
 | _,_=>False
def updM:List Nat->List Addr->List Tb->Env3->Env3
 | j::js,a::as,m::ms,ρ=>updM js as ms (ρ.set j (some (.dm a m)))
 | _,_,_,ρ=>ρ
section
variable{K:Ybf}{H0 G0:Hp}{ρ : Env3}{σ : L2.St}{G H G' H':Hp}
theorem Z7{ρ : Env3}:∀ {js:List Nat} {as:List Addr},holds ρ js as->∀ a∈as,∃ (j:Nat) (m:Tb),j∈js/\ρ[j]?=some (some (Cl.dm a m))
 | [],[],_,a,h=>by cases h
 | j :: js, a :: as, ⟨⟨m, hm⟩, h⟩, b, hb => by
  rcases WaB.mp hb with e|hb
  . rw [e];exact⟨j,m,YaV,hm⟩
  . obtain⟨i,n,h1,h2⟩:=Z7 h b hb
    exact⟨i,n,YaT _ h1,h2⟩
 | [],_::_,h,_,_=>h.elim
 | _::_,[],h,_,_=>h.elim
theorem zc6(F:Fr3 K H0 G0 ρ σ G H):∀ {js:List Nat} {as:List Addr},js.Nodup->holds ρ js as->as.Nodup
 | [],[],_,_=>List.nodup_nil
 | j :: js, a :: as, nd, ⟨⟨m, hm⟩, h⟩ => by
  obtain⟨n1,n2⟩:=YaB.mp nd;refine YaB.mpr ⟨fun z=>?_,zc6 F n2 h⟩
  obtain⟨i,n,h1,h2⟩:=Z7 h a z;have e:=F.apart j i _ _ _ _ a hm h2 (jb F hm).1 (jb F h2).1 rfl rfl;exact n1 (e ▸ h1)
 | [],_::_,_,h=>h.elim
 | _::_,[],_,h=>h.elim
theorem zc9{ρ : Env3}{j:Nat}{o:Option Cl}:∀ {js:List Nat} {as:List Addr},j∉js->holds ρ js as->holds (ρ.set j o) js as
 | [],[],_,_=>True.intro
 | i::js,a::as,n,⟨⟨m,hm⟩,h⟩=>⟨⟨m,by rw [Yac (show j≠i from fun z=>n (by rw [z];exact YaV))];exact hm⟩,zc9 (fun z=>n (YaT _ z)) h⟩
 | [],_::_,_,h=>h.elim
 | _::_,[],_,h=>h.elim
theorem zdU:∀ (js:List Nat) (as:List Addr) (ms:List Tb) (ρ : Env3),(updM js as ms ρ).length = ρ.length
 | [],_,_,_=>rfl
 | _::_,[],_,_=>rfl
 | _::_,_::_,[],_=>rfl
 | j::js,a::as,m::ms,ρ=>by show(updM js as ms (ρ.set j _)).length=_;rw [zdU,YaN]
theorem zbF{G' H':Hp}:∀ {js:List Nat} {as:List Addr} {ms:List Tb} {ρ : Env3},js.Nodup->holds ρ js as->Bk G' H' as ms->∀ (i:Nat) (c:Cl),(updM js as ms ρ)[i]?=some (some c)->
 (i∉js/\ρ[i]?=some (some c))\/∃ a m m0,c=.dm a m/\a∈as/\ρ[i]?=some (some (.dm a m0))/\H' a=some (.dK (encM m))/\G' a=none
 | [],[],[],ρ,_,_,_,i,c,e=>.inl ⟨by simp,e⟩
 | j :: js, a :: as, m :: ms, ρ, nd, ⟨⟨m0, hm⟩, h⟩, ⟨b0, b⟩, i, c, e => by
  obtain⟨n1,n2⟩:=YaB.mp nd
  rcases zbF n2 (zc9 n1 h) b i c e with ⟨h1,h2⟩|⟨a',m',m0',h1,h2,h3,h4⟩
  . rcases zD h2 with ⟨rfl,q,_⟩|⟨n,q⟩
    . cases q
      exact .inr ⟨a,m,m0,rfl,YaV,hm,b0⟩
    . exact .inl ⟨fun z=>by
       rcases WaB.mp z with z|z
       . exact n z.symm
       . exact h1 z,q⟩
  . rcases zD h3 with ⟨rfl,q,_⟩|⟨n,q⟩
    . cases q
      exact .inr ⟨a,m',m0,h1,YaV,hm,h4⟩
    . exact .inr ⟨a',m',m0',h1,YaT _ h2,q,h4⟩
 | [],_::_,_,_,_,h,_,_,_,_=>h.elim
 | _::_,[],_,_,_,h,_,_,_,_=>h.elim
 | _::_,_::_,[],_,_,_,b,_,_,_=>b.elim
 | [],[],_::_,_,_,_,b,_,_,_=>b.elim
theorem Fr3.called(F:Fr3 K H0 G0 ρ σ G H){js:List Nat}{as:List Addr}{ms:List Tb}(nd:js.Nodup)(ho:holds ρ js as)(g:Gr G (bar H as) G' H')(b:Bk G' H' as ms):Fr3 K H0 G0 (updM js as ms ρ) σ G' H':=by
 have mem:∀ a∈as,H0 a=none/\∃ m:Tb,H a=some (.dK (encM m)):=fun a h=>by
  obtain⟨j,m,_,hj⟩:=Z7 ho a h;obtain⟨h1,h2,h3⟩:=jb F hj;exact⟨F.mine j _ _ a hj h1 rfl,m,h2⟩
 have key:=fun i c=>zbF (ρ:=ρ) nd ho b i c
 have oth:∀ (i:Nat) (c:Cl) (v:V) (a:Addr),i∉js->ρ[i]?=some (some c)->σ[i]?=some (some v)->Has c v a->a∉as:=fun i c v a n e e' h z=>by
  obtain⟨j,m,hj,hm⟩:=Z7 ho a z;have:=F.apart i j _ _ _ _ a e hm e' (jb F hm).1 h rfl;exact n (this ▸ hj)
 have kp:zu H0 H':=fun c o e=>by
  have nc:c∉as:=fun z=>by rw [(mem c z).1] at e;cases e
  rcases F.keep c o e with z|⟨z,n,c',h1,h2⟩
  . exact g.h c o ((jI nc).trans z)
  . refine .inr ⟨z,n,Lk.same ⟨c',(jI nc).trans h1,(jI fun y=>?_).trans h2⟩ g.h⟩
    obtain⟨m,hm⟩:=(mem c' y).2;rw [hm] at h2;cases h2
 refine⟨kp,g.sub,fun c o e=>?_,F.g0.trans g.g,fun i c e=>?_,fun i c v a e e' h=>?_,fun i j c c' v v' a e1 e2 e3 e4 h1 h2=>?_,by rw [zdU];exact F.len⟩
 . rcases g.new c o e with q|q|q
   . exact F.old c o q
   . rcases zbt q with y|y
     . exact .inr (.inl (mem c y).1)
     . exact .inr (.inl (F.keep.free y))
   . exact .inr (.inr q)
 . rcases key i c e with ⟨n,q⟩|⟨a,m,m0,rfl,ha,q,h1,h2⟩
   . obtain⟨v,hv,hw⟩:=F.slot i c q
     refine⟨v,hv,hw.turn g.g (fun a C z=>?_) fun a h=>?_⟩
     . refine g.h.exc ((jI fun y=>?_).trans z)
       obtain⟨m,hm⟩:=(mem a y).2;rw [hm] at z;cases z
     . have na:=oth i c v a n q hv h
       obtain⟨⟨o,ho,no⟩,hG⟩:=hw.has h;have hb:bar H as a=some o:=(jI na).trans ho;refine⟨(g.h.at hb no).trans ho.symm,(g.hid hb hG no fun xs z=>?_).trans hG.symm⟩
       exact hw.ntup h xs ((jI na).symm.trans z)
   . exact⟨_,(jb F q).1,.dm h1 h2⟩
 . rcases key i c e with ⟨n,q⟩|⟨a',m,m0,rfl,ha,q,h1,h2⟩
   . exact F.mine i c v a q e' h
   . exact F.mine i _ v a q e' h
 . have up:∀ (i:Nat) (c:Cl) (v:V) (a:Addr),(updM js as ms ρ)[i]?=some (some c)->Has c v a->∃ c0,ρ[i]?=some (some c0)/\Has c0 v a:=fun i c v a e h=>by
    rcases key i c e with ⟨n,q⟩|⟨a',m,m0,rfl,ha,q,h1,h2⟩
    . exact⟨c,q,h⟩
    . exact⟨_,q,h⟩
   obtain⟨c1,q1,k1⟩:=up i c v a e1 h1;obtain⟨c2,q2,k2⟩:=up j c' v' a e2 h2;exact F.apart i j c1 c2 v v' a q1 q2 e3 e4 k1 k2
theorem zeL(F:Fr3 K H0 G0 ρ σ G H){js:List Nat}{as:List Addr}{ms:List Tb}(nd:js.Nodup)(ho:holds ρ js as)(b:Bk G' H' as ms){i:Nat}{c:Cl}{v:V}{a:Addr}(e:(updM js as ms ρ)[i]?=some (some c))(e':σ[i]?=some (some v))(h:Has c v a):H a≠none:=by
 have:∃ c0,ρ[i]?=some (some c0)/\Has c0 v a:=by
  rcases zbF (ρ:=ρ) nd ho b i c e with ⟨n,q⟩|⟨a',m,m0,rfl,ha,q,h1,h2⟩
  . exact⟨c,q,h⟩
  . exact⟨_,q,h⟩
 obtain⟨c0,q,k⟩:=this;obtain⟨⟨o,ho,_⟩,_⟩:=(F.vw q e').has k;rw [ho];intro z;cases z
theorem Fr3.putN(F:Fr3 K H0 G0 ρ σ G H){i:Nat}{v:V}{c:Cl}(w:Vw K H0 G H v c)(h0:∀ a,Has c v a->H0 a=none)(hn:∀ (a:Addr) (j:Nat) (c':Cl) (v':V),Has c v a->ρ[j]?=some (some c')->σ[j]?=some (some v')->¬Has c' v' a):Fr3 K H0 G0 (ρ.set i (some c)) (σ.set i (some v)) G H:=by
 have key:∀ {k:Nat} {c':Cl},(ρ.set i (some c))[k]?=some (some c')->(k=i/\c'=c/\(σ.set i (some v))[k]?=some (some v))\/(k≠i/\ρ[k]?=some (some c')/\(σ.set i (some v))[k]? = σ[k]?):=fun {k c'} e=>by
  rcases zD e with ⟨rfl,q,hl⟩|⟨n,q⟩
  . cases q
    exact .inl ⟨rfl,rfl,Yas (by rw [<-F.len];exact hl)⟩
  . exact .inr ⟨WaL n,q,Yac n⟩
 refine⟨F.keep,F.sub,F.old,F.g0,fun k c' e=>?_,fun k c' v' a e e' h=>?_,fun k m c1 c2 v1 v2 a e1 e2 e3 e4 h1 h2=>?_,by rw [YaN,YaN];exact F.len⟩
 . rcases key e with ⟨rfl,rfl,q⟩|⟨n,q,z⟩
   . exact⟨v,q,w⟩
   . obtain⟨v',h1,h2⟩:=F.slot k c' q
     exact⟨v',by rw [z];exact h1,h2⟩
 . rcases key e with ⟨rfl,rfl,q⟩|⟨n,q,z⟩
   . rw [q] at e';cases e';exact h0 a h
   . rw [z] at e';exact F.mine k c' v' a q e' h
 . rcases key e1 with ⟨rfl,rfl,q⟩|⟨n,q,z⟩
   . rw [q] at e3;cases e3
     rcases key e2 with ⟨rfl,_,_⟩|⟨n,q',z⟩
     . rfl
     . rw [z] at e4;exact absurd h2 (hn a m c2 v2 h1 q' e4)
   . rw [z] at e3
     rcases key e2 with ⟨rfl,rfl,q'⟩|⟨n',q',z'⟩
     . rw [q'] at e4;cases e4;exact absurd h1 (hn a k c1 v1 h2 q e3)
     . rw [z'] at e4;exact F.apart k m c1 c2 v1 v2 a q q' e3 e4 h1 h2
theorem Fr3.forget(F:Fr3 K H0 G0 ρ σ G H)(i:Nat):Fr3 K H0 G0 (ρ.set i none) σ G H:=by
 have key:∀ {k:Nat} {c':Cl},(ρ.set i none)[k]?=some (some c')->k≠i/\ρ[k]?=some (some c'):=fun {k c'} e=>by
  rcases zD e with ⟨rfl,q,hl⟩|⟨n,q⟩
  . cases q
  . exact⟨WaL n,q⟩
 exact⟨F.keep,F.sub,F.old,F.g0,fun k c e=>F.slot k c (key e).2,fun k c v a e e' h=>F.mine k c v a (key e).2 e' h,fun k m c1 c2 v1 v2 a e1 e2 e3 e4 h1 h2=>F.apart k m c1 c2 v1 v2 a (key e1).2 (key e2).2 e3 e4 h1 h2,by rw [YaN];exact F.len⟩
theorem Dr.scal{H1:Hp}{kvs:List (List Key×V)}{ds:List (List Key×D)}(r:Dr K H0 G kvs ds)(h:(ds.all fun p=>zo p.2)=true):Dr K H1 G kvs ds:=by
 induction r with
 | nil=>exact .nil
 | cons a b ih=>
  rw [List.all_cons,Yak] at h;exact .cons (.sc h.1 a.rd) (ih h.2)
theorem Dr.older{H1:Hp}(hh:∀ a,H0 a=none->H1 a=none){kvs:List (List Key×V)}{ds:List (List Key×D)}(r:Dr K H0 G kvs ds):Dr K H1 G kvs ds:=by
 induction r with
 | nil=>exact .nil
 | cons a b ih=>exact .cons ⟨a.rd,fun hf=>jx (Same.refl _) (fun x _ _ z=>hh x z) (a.nw hf)⟩ ih
theorem Vw.arg{H1:Hp}{v:V}{c:Cl}(w:Vw K H0 G H v c)(h:z7 c=true):Vw K H1 G H v (argC c):=by
 cases w with
 | sh r=>exact .sh ⟨r.rd,fun h=>zak h r.rd⟩
 | dm a b=>exact .dm a b
 | fd a b c=>exact .fd a (b.scal h) c
 | _=>cases h
theorem Vws.arg{H1:Hp}{vs:List V}{cs:List Cl}(w:Vws K H0 G H vs cs)(h:cs.all z7=true):Vws K H1 G H vs (cs.map argC):=by
 induction w with
 | nil=>exact .nil
 | cons a b ih=>
  rw [List.all_cons,Yak] at h;exact .cons (a.arg h.1) (ih h.2)
theorem Vw.res{H1:Hp}{v:V}{c:Cl}(w:Vw K H0 G H v c)(hh:∀ a,H0 a=none->H1 a=none)(h:Jd c=true):Vw K H1 G H v c:=by
 cases w with
 | sh r=>exact .sh ⟨r.rd,fun hf=>jx (Same.refl _) (fun x _ _ z=>hh x z) (r.nw hf)⟩
 | dt a b c=>exact .dt a (b.older hh) c
 | _=>cases h
theorem zbp{sp:SpC}(mono:∀ cs (Q Q':Cl->List Tb->Prop),(∀ c ms,Q c ms->Q' c ms)->sp cs Q->sp cs Q')(F:Fr3 K H0 G0 ρ σ G H){vs:List V}{cs:List Cl}(w:Vws K H0 G H vs cs){js:List Nat}(nd:js.Nodup)(ha:cs.all z7=true)(ho:holds ρ js (dms cs)){R:Cl->Env3->Prop}(h:sp (cs.map argC) fun c ms=>R c (updM js (dms cs) ms ρ)){Q:VK}{E:XK}
 (q:∀ c ρ' v G' H',Fr3 K H0 G0 ρ' σ G' H'->zu (bar H (dms cs)) H'->Gr G (bar H (dms cs)) G' H'->Vw K H0 G' H' v c->(∀ a,Has c v a->H0 a=none/\∀ (j:Nat) (c':Cl) (v':V),ρ'[j]?=some (some c')->σ[j]?=some (some v')->¬Has c' v' a)->R c ρ'->Q v H'):spC K sp vs H Q E:=by
 have hh:∀ a,bar H (dms cs) a=none->H0 a=none:=fun a z=>by
  rcases zbt z with y|y
  . obtain⟨j,m,_,hj⟩:=Z7 ho a y
    exact F.mine j _ _ a hj (jb F hj).1 rfl
  . exact F.keep.free y
 refine⟨G,cs.map argC,F.sub,by rw [zbb];exact w.arg ha,by rw [zbb];exact zc6 F nd ho,mono _ _ _ (fun c ms k v G' H' g w' n' b hres=>?_) h⟩
 rw [zbb] at g w' b;refine q c _ v G' H' (F.called nd ho g b) g.h g (w'.res hh hres) (fun a z=>⟨F.keep.free (n' a z),fun j c' v' e e' y=>zeL F nd ho b e e' y (n' a z)⟩) k
end
section
variable{X:Cx}{H0:Hp}{e:Expr}{es:List Expr}{pos p:Pos}{x y:Str}{k:Nat}{ps:List Str}{sp:SpC}{E:XK}{t:TA3}
def Ze(sp:SpC)(t:TA3)(js:List Nat)(R:Cl->Env3->Prop)(ρ : Env3):Prop:=t ρ fun cs=>cs.all z7=true/\holds ρ js (dms cs)/\sp (cs.map argC) fun c ms=>R c (updM js (dms cs) ms ρ)
def ZY(i:Nat)(sp:SpC)(t:TA3)(js:List Nat):TS3:=fun A ρ=>Ze sp t js (fun c ρ'=>A.nx (ρ'.set i (some c))) ρ
theorem za4{i:Nat}{pos' spos:Pos}(js:List Nat)(nd:js.Nodup)(hN:X.N.Nodup)(hi:X.N[i]?=some y)(hy:Loc X.env.scope y)(Gd:DfC X.prog X.w X.K X.mg X.base k x ps sp)(hr:Room k X.A)(hg:Gl X x)(hx:Passes (CXR X.prog X.w) X E)(ha:PA3 X H0 (e::es) t)(hdb:(x==("__debug__" : Str))=false:=by decide)
 (he:starEach (e::es) X.env=(false,eval e X.env)::starEach es X.env:=by rfl) (hpl:(backTo pos (starEach es X.env)).any (·.1)=false:=by rfl) (hs:swapsWith (.Call (.Name x p) (e::es) [] pos) (some (.Name y pos')) spos.line X.env=pure false:=by rfl)
 (hf:X.fn y=true\/X.env.scope.names.lookup y=some .local:=by first|exact .inl rfl|exact .inr rfl|assumption):PS3 X H0 (.Assign [.Name y pos'] (.Call (.Name x p) (e::es) [] pos) spos) (ZY i sp t js):=
 PS.imp (ZQ hN hi hy (zaw Gd.ok hr hg hx ha.ok hdb he hpl) hs hf) fun B σ H=>el7 fun G0 A ρ G F q L=>⟨G0,ρ,G,F,ha.mono ρ _ _ (fun cs hyp vs G1 H1 g1 w=>by
  obtain⟨h1,h2,h3⟩:=hyp;show spC X.K sp (vs++[]) H1 _ E;rw [Yao];exact zbp (R:=fun c ρ'=>A.nx (ρ'.set i (some c))) Gd.mono (F.gr g1) w nd h1 h2 h3 fun c ρ' v G' H' F' _ _ w' n' k=>L.nx _ _ G' H' (F'.putN w' (fun a z=>(n' a z).1) fun a j c' v' z=>(n' a z).2 j c' v') k) q⟩
def ZH(sp:SpC)(t:TA3)(js:List Nat):TS3:=fun A ρ=>Ze sp t js (fun _ ρ'=>A.nx ρ') ρ
theorem zjP{spos:Pos}(js:List Nat)(nd:js.Nodup)(Gd:DfC X.prog X.w X.K X.mg X.base k x ps sp)(hr:Room k X.A)(hg:Gl X x)(hx:Passes (CXR X.prog X.w) X E)(ha:PA3 X H0 (e::es) t)(hdb:(x==("__debug__" : Str))=false:=by decide)
 (he:starEach (e::es) X.env=(false,eval e X.env)::starEach es X.env:=by rfl) (hpl:(backTo pos (starEach es X.env)).any (·.1)=false:=by rfl) (hs:swapsWith (.Call (.Name x p) (e::es) [] pos) none spos.line X.env=pure false:=by rfl):PS3 X H0 (.Expr (.Call (.Name x p) (e::es) [] pos) spos) (ZH sp t js):=
 PS.imp (zam (zaw Gd.ok hr hg hx ha.ok hdb he hpl) hs) fun B σ H=>el7 fun G0 A ρ G F q L=>⟨G0,ρ,G,F,ha.mono ρ _ _ (fun cs hyp vs G1 H1 g1 w=>by
  obtain⟨h1,h2,h3⟩:=hyp;show spC X.K sp (vs++[]) H1 _ E;rw [Yao];exact zbp (R:=fun _ ρ'=>A.nx ρ') Gd.mono (F.gr g1) w nd h1 h2 h3 fun c ρ' v G' H' F' _ _ w' n' k=>L.nx _ _ G' H' F' k) q⟩
def Z1(sp:SpC)(t:TA3):TE3:=fun ρ Q=>t ρ fun cs=>cs.all z7=true/\dms cs=[]/\sp (cs.map argC) fun c _=>∃ f d,c=.sh f d/\Q (.sh f d)
theorem dfX{E:XK}(Gd:DfC X.prog X.w X.K X.mg X.base k x ps sp)(hr:Room k X.A)(hg:Gl X x)(hx:Passes (CXR X.prog X.w) X E)(ha:PA3 X H0 (e::es) t)(hdb:(x==("__debug__" : Str))=false:=by decide)
 (he:starEach (e::es) X.env=(false,eval e X.env)::starEach es X.env:=by rfl) (hpl:(backTo pos (starEach es X.env)).any (·.1)=false:=by rfl):PE3 X H0 (.Call (.Name x p) (e::es) [] pos) (Z1 sp t):=by
 refine⟨fun ρ Q Q' h q=>ha.mono ρ _ _ (fun cs ⟨a,b,q⟩=>⟨a,b,Gd.mono _ _ _ (fun c ms ⟨f,d,e,q⟩=>⟨f,d,e,h _ q⟩) q⟩) q,PE.imp (zaw Gd.ok hr hg hx ha.ok hdb he hpl) fun σ H Q=>el5 fun G0 ρ G F q=>⟨G0,ρ,G,F,ha.mono ρ _ _ (fun cs hyp vs G1 H1 g1 w=>?_) q⟩⟩
 obtain⟨h1,h2,h3⟩:=hyp;show spC X.K sp (vs++[]) H1 Q E;rw [Yao];refine zbp (js:=[]) Gd.mono (F.gr g1) w List.nodup_nil h1 (by rw [h2];exact True.intro) (R:=fun c _=>∃ f d,c=.sh f d/\∀ (v:V) (G' H':Hp),Gr G H G' H'->Vw X.K H0 G' H' v (.sh f d)->Q v H') h3 fun c ρ' v G' H' F' _ g' w' n' k=>?_
 obtain⟨f,d,rfl,k⟩:=k;rw [h2] at g';have e:bar H1 []=H1:=funext fun b=>jI (by simp)
 rw [e] at g';exact k v G' H' (g1.trans g') w'
def zab(te:TE3):TS3:=fun A ρ=>te ρ fun c=>asS c fun f d=>A.rm (.sh f d) ρ
theorem za0{te:TE3}(he:PE3 X H0 e te):PS3 X H0 (.Return (some e) pos) (zab te):=PS.imp (zbT he.ok) fun B σ H=>el7 fun G0 A ρ G F q L=>
 ⟨G0,ρ,G,F,he.mono ρ _ _ (fun c hyp v G' H' g w=>by
  obtain⟨f,d,hc,q⟩:=jW hyp;subst hc;exact L.rm _ v ρ σ G' H' (F.gr g) w (fun a z=>False.elim z) q) q⟩
def zan(i:Nat):TS3:=fun A ρ=>∃ ds,ρ[i]?=some (some (.dt ds))/\A.rm (.dt ds) (ρ.set i none)
theorem zen{i:Nat}{np:Pos}(hN:X.N[i]?=some x)(hv:Vis X.env.scope x)(hd:(x==("__debug__" : Str))=false:=by decide)(hcd:(x==("__classdict__" : Str))=false:=by decide):PS3 X H0 (.Return (some (.Name x np)) pos) (zan i):=PS.imp (zbT (jn hN hv hd hcd)) fun B σ H hyp=>by
 obtain⟨G0,A,ρ,G,F,⟨ds,hi,q⟩,L⟩:=hyp;obtain⟨v,h1,h2⟩:=F.slot i _ hi;refine⟨v,h1,L.rm _ v _ σ G H (F.forget i) h2 (fun a z=>⟨F.mine i _ v a hi h1 z,fun j c' v' e e' y=>?_⟩) q⟩
 rcases zD e with ⟨rfl,q,_⟩|⟨n,q⟩
 . cases q
 . exact n (F.apart i j _ _ _ _ a hi q h1 e' z y)
end
end L3
namespace L2
open PySem PySem.Spec PyProof.Rows L3
section
variable{X:Cx}
theorem zfk(hc:X.calm=true):zK X (.builtin "sorted") (fun xs H Q=>∃ (p:Addr) (ns:List Int),xs=[.ref p]/\SqL X.K H p (ns.map V.int)/\ns.length<64/\∀ ms:List Int,ms.Perm ns->ms.Pairwise (·<=·)->∀ l,H l=none->Q (.ref l) (upd H l (.lst (ms.map V.int)))):=by
 intro pins s σ H xs us Q I r h;obtain⟨p,ns,rfl,hq,hlt,q⟩:=h;obtain⟨u,rfl,ru⟩:=Ji r;cases(show u=Value.ref p from ru)
 obtain⟨its,rv,pl,_⟩:=I.list hq;have hI:=zdv rv;have hln:=hI.length;refine sorted_ints pl.isList hI (by rw [hln];exact hlt) fun out ms a1 a2 a3=>?_
 obtain⟨e,he⟩:=sortedAll_at s.heap its out;have hl2:=a2.length_eq;refine⟨.ref (s.heap.objs.size+1),_,I.laid (t':=s.toks) (o:=.lst (ms.map V.int)) (fun b ob q=>sortedAll_old q) (Nat.le_succ _) ⟨?_,out.toList,e,zbv a1,he⟩,rfl,q ms a2 a3 _ (I.hok.fresh (Nat.le_succ _))⟩
 rw [YaR,hl2,sizeLine_eq];omega
end
end L2
namespace L3
open PySem PySem.Spec PyProof.Rows L2
variable[LamW]
def getM(ds:Tb)(k:Int):Option Int:=(ds.find? fun p=>decide (p.1=k)).map (·.2)
def putM(ds:Tb)(k v:Int):Tb:=if(ds.any fun p=>decide (p.1=k))=true then ds.map (fun p=>if p.1=k then(p.1,v) else p) else ds++[(k,v)]
def optI:Option Int->D
 | none=>.none
 | some i=>.int i
theorem zdG(a k:Int):decide ((Sum.inl a:Key)=Sum.inl k)=decide (a=k):=by
 by_cases e:a=k
 . rw [e];simp
 . rw [decide_eq_false e,decide_eq_false fun z=>e (Sum.inl.inj z)]
theorem zbI(ds:Tb)(k:Int):valV (encM ds) (Sum.inl k)=(getM ds k).map V.int:=by
 unfold valV getM encM
 induction ds with
 | nil=>rfl
 | cons p r ih=>
  rw [Ya1,List.find?_cons,List.find?_cons,zdG]
  by_cases e:p.1=k
  . rw [decide_eq_true e];rfl
  . rw [decide_eq_false e];exact ih
theorem zkM(ds:Tb)(k v:Int):putK (encM ds) (Sum.inl k) (.int v)=encM (putM ds k v):=by
 have ha:((encM ds).any fun kv=>decide (kv.1=(Sum.inl k:Key)))=ds.any fun p=>decide (p.1=k):=by
  unfold encM;rw [List.any_map]
  congr 1
  funext p
  exact zdG p.1 k
 unfold putK putM;rw [ha]
 split
 . unfold encM
   rw [YaD,YaD];refine Yat fun p _=>?_
   show(if(Sum.inl p.1:Key)=Sum.inl k then _ else _)=_
   by_cases e:p.1=k
   . rw [if_pos (by rw [e])]
     simp only [Function.comp,if_pos e]
   . rw [if_neg fun z=>e (Sum.inl.inj z)]
     simp only [Function.comp,if_neg e]
 . unfold encM
   rw [Ya2];rfl
theorem zhO(ds:Tb):(encM ds).length=ds.length:=YaR _
section
variable{X:Cx}{H0:Hp}{e a b:Expr}{pos:Pos}{x:Str}{i:Nat}
def ZR(i:Nat):TS3:=fun A ρ=>∀ a,A.nx (ρ.set i (some (.dm a [])))
theorem zbh{pos' p:Pos}(hN:X.N.Nodup)(hi:X.N[i]?=some x)(hx:Loc X.env.scope x)(hs:swapsWith (.Dict [] [] p) (some (.Name x pos')) pos.line X.env=pure false:=by rfl)
 (hf:X.fn x=true\/X.env.scope.names.lookup x=some .local:=by first|exact .inl rfl|exact .inr rfl|assumption):PS3 X H0 (.Assign [.Name x pos'] (.Dict [] [] p) pos) (ZR i):=PS.imp (ZQ hN hi hx zhF hs hf) fun B σ H=>el7 fun G0 A ρ G F q L=>
 fun p hp=>L.nx _ _ G _ (F.put (zS hp _).x (.dm (ds:=[]) zp (F.sub.free hp)) fun a h=>by cases h;exact hp) (q p)
def zad(i:Nat)(ta te:TE3):TS3:=fun A ρ=>∃ l ds,ρ[i]?=some (some (.dm l ds))/\te ρ fun c=>ta ρ fun ck=>asI ck fun k=>asI c fun v=>ds.length<sizeLine/\A.nx (ρ.set i (some (.dm l (putM ds k v))))
theorem zbZ{ta te:TE3}{np spos:Pos}(hu:X.A.units+1<cLine)(hN:X.N[i]?=some x)(hv:Vis X.env.scope x)(ha:PE3 X H0 a ta)(he:PE3 X H0 e te)(hd:(x==("__debug__" : Str))=false:=by decide)(hcd:(x==("__classdict__" : Str))=false:=by decide)
 (hs:swapsWith e (some (.Subscript (.Name x np) a spos)) pos.line X.env=pure false:=by rfl):PS3 X H0 (.Assign [.Subscript (.Name x np) a spos] e pos) (zad i ta te):=by
 refine PS.imp (zda hu (jn hN hv hd hcd) ha.ok he.ok hs) fun B σ H hyp=>?_
 obtain⟨G0,A,ρ,G,F,⟨l,ds,hi,q⟩,L⟩:=hyp;refine⟨G0,ρ,G,F,he.mono ρ _ _ (fun c q1 v1 G1 H1 g1 w1=>?_) q⟩
 have F1:=F.gr g1;refine⟨.ref l,(jb F1 hi).1,G0,ρ,G1,F1,ha.mono ρ _ _ (fun ck q2 v2 G2 H2 g2 w2=>?_) q1⟩
 obtain⟨k,rfl,q3⟩:=jf q2;obtain⟨v,rfl,e4,q4⟩:=jf q3;cases zC (zn w1).rd;cases zC (zn w2).rd;have F2:=F1.gr g2;obtain⟨hl,k2,k4⟩:=jb F2 hi;exact⟨l,_,rfl,DPut.k (k:=Sum.inl k) k2 (by rw [zhO];exact e4),L.nx _ _ _ _ (F2.chg (c':=.dm l (putM ds k v)) hi hl rfl (fun _ h=>h) (.dm (by rw [zp,zkM]) k4)) q4⟩
def zae(i:Nat)(ta:TE3):TE3:=fun ρ Q=>∃ l ds,ρ[i]?=some (some (.dm l ds))/\ta ρ fun c=>asI c fun k=>∃ v,getM ds k=some v/\Q (.sh true (.int v))
theorem zbq{ta:TE3}{np:Pos}(hu:X.A.units+1<cLine)(hN:X.N[i]?=some x)(hv:Vis X.env.scope x)(ha:PE3 X H0 a ta)(hd:(x==("__debug__" : Str))=false:=by decide)(hcd:(x==("__classdict__" : Str))=false:=by decide)(hs:NoSl a:=by exact fun _ _=>rfl):PE3 X H0 (.Subscript (.Name x np) a pos) (zae i ta):=by
 refine⟨fun ρ Q Q' h ⟨l,ds,hi,q⟩=>⟨l,ds,hi,ha.mono ρ _ _ (fun c q=>?_) q⟩,PE.imp (zhC hu (jn hN hv hd hcd) ha.ok hs) fun σ H Q=>el5 fun G0 ρ G F q=>?_⟩
 . obtain⟨k,rfl,v,e,q⟩:=jf q
   exact⟨v,e,h _ q⟩
 obtain⟨l,ds,hi,q⟩:=q;refine⟨.ref l,(jb F hi).1,G0,ρ,G,F,ha.mono ρ _ _ (fun c q2 v2 G2 H2 g2 w2=>?_) q⟩
 obtain⟨k,rfl,v,e,q⟩:=jf q2;cases zC (zn w2).rd;obtain⟨_,k2,_⟩:=jb (F.gr g2) hi;have g:=DGet.k (k:=Sum.inl k) k2;rw [zbI,e] at g;exact⟨l,_,rfl,g,q _ G2 H2 g2 (.sh (.sc rfl (.int v)))⟩
def Z6(i:Nat)(ta:TE3):TE3:=fun ρ Q=>∃ l ds,ρ[i]?=some (some (.dm l ds))/\ta ρ fun c=>asI c fun k=>Q (.sh true (optI (getM ds k)))
theorem ziq{ta:TE3}{np apos cpos:Pos}(hu:X.A.units+1<cLine)(hN:X.N[i]?=some x)(hv:Vis X.env.scope x)(ha:PE3 X H0 a ta)(m:M1 X (.Name x np) "get" apos a cpos:=by exact⟨rfl,rfl,rfl,rfl⟩)(hd:(x==("__debug__" : Str))=false:=by decide)(hcd:(x==("__classdict__" : Str))=false:=by decide):PE3 X H0 (.Call (.Attribute (.Name x np) "get" apos) [a] [] cpos) (Z6 i ta):=by
 refine⟨fun ρ Q Q' h ⟨l,ds,hi,q⟩=>⟨l,ds,hi,ha.mono ρ _ _ (fun c q=>?_) q⟩,PE.imp (zkq hu (jn hN hv hd hcd) ha.ok m) fun σ H Q=>el5 fun G0 ρ G F q=>?_⟩
 . obtain⟨k,rfl,q⟩:=jf q
   exact h _ q
 obtain⟨l,ds,hi,q⟩:=q;obtain⟨hl,h2,_⟩:=jb F hi;refine⟨.ref l,hl,l,rfl,.inl ⟨_,.inl h2⟩,G0,ρ,G,F,ha.mono ρ _ _ (fun c q2 v2 G2 H2 g2 w2=>?_) q⟩
 obtain⟨k,rfl,q⟩:=jf q2;cases zC (zn w2).rd;obtain⟨_,k2,_⟩:=jb (F.gr g2) hi;have g:=DGet.k (k:=Sum.inl k) k2;rw [zbI] at g;refine⟨_,g,?_⟩;cases e:getM ds k with
 | none=>rw [e] at q;exact q _ G2 H2 g2 (.sh (.sc rfl .non))
 | some v=>rw [e] at q;exact q _ G2 H2 g2 (.sh (.sc rfl (.int v)))
def zaj(i:Nat)(ta:TE3):TE3:=fun ρ Q=>∃ l ds,ρ[i]?=some (some (.dm l ds))/\ta ρ fun c=>asI c fun k=>Q (.sh true (.bool (!(getM ds k).isSome)))
theorem zbL{ta:TE3}{np:Pos}(hu:X.A.units+1<cLine)(hN:X.N[i]?=some x)(hv:Vis X.env.scope x)(ha:PE3 X H0 a ta)(hm:behindInMarks .NotIn (.Name x np)=false:=by rfl)(hd:(x==("__debug__" : Str))=false:=by decide)(hcd:(x==("__classdict__" : Str))=false:=by decide):PT3 X H0 (.Compare a [.NotIn] [.Name x np] pos) (tt3 (zaj i ta)):=by
 refine⟨zaQ fun ρ Q Q' h q=>?_,PT.imp (zf9 (zcQ hu ha.ok (jn hN hv hd hcd)) hm) fun σ H Q=>el5 fun G0 ρ G F q=>?_⟩
 . obtain⟨l,ds,hi,q⟩:=q
   refine⟨l,ds,hi,ha.mono ρ _ _ (fun c q=>?_) q⟩
   obtain⟨k,rfl,q⟩:=jf q;exact h _ q
 obtain⟨l,ds,hi,q⟩:=q;refine⟨G0,ρ,G,F,ha.mono ρ _ _ (fun c q2 v2 G2 H2 g2 w2=>?_) q⟩
 obtain⟨k,rfl,q⟩:=jf q2;cases zC (zn w2).rd;obtain⟨hl,k2,_⟩:=jb (F.gr g2) hi;have g:=DGet.k (k:=Sum.inl k) k2;rw [zbI] at g;exact⟨.ref l,hl,l,_,rfl,g,_,rfl,by rw [Option.isSome_map];exact q _ _ g2⟩
def srtL(ta:TA3):TN3:=fun ρ Q=>ta ρ fun cs=>∃ c,cs=[c]/\c.dat=true/\∃ ns:List Int,c.d=.list (ns.map .int)/\ns.length<64/\∀ ms:List Int,ms.Perm ns->ms.Pairwise (·<=·)->Q true (ms.map PyData.int)
theorem zce{K:Ybf}{G:Hp}:∀ {ns:List Int} {xs:List V},RdVs K G xs (ns.map PyData.int)->xs=ns.map V.int
 | [],_,.nil=>rfl
 | n :: r, _, .cons a t => by
  cases a;rw [zce t];rfl
theorem ziZ{K:Ybf}{H0 G:Hp}(ns:List Int):Rfs K H0 G true (ns.map V.int) (ns.map PyData.int):=by
 induction ns with
 | nil=>exact Rfs.nil
 | cons a r ih=>exact Rfs.cons (f:=true) (.sc rfl (.int a)) ih
theorem zgL{np:Pos}{ta:TA3}(hc:X.calm=true)(hg:Gl X "sorted")(hm:X.mg "sorted" = none)(ha:PA3 X H0 [a] ta)
 (he:starEach [a] X.env=(false,eval a X.env)::starEach [] X.env:=by rfl) (hpl:(backTo pos (starEach [] X.env)).any (·.1)=false:=by rfl):PN3 X H0 (.Call (.Name "sorted" np) [a] [] pos) (srtL ta):=by
 refine⟨fun ρ Q Q' h q=>ha.mono ρ _ _ (fun cs ⟨c,h0,h1,ns,h2,h3,q⟩=>⟨c,h0,h1,ns,h2,h3,fun ms a b=>h _ _ (q ms a b)⟩) q,PE.imp (ZM (x:="sorted") (zfk hc) hg hm (show bootBuiltins "sorted" = some (.builtin "sorted") by rfl) ha.ok #[1] #[1] he hpl) fun σ H Q=>el5 fun G0 ρ G F q=>⟨G0,ρ,G,F,ha.mono ρ _ _ (fun cs hyp vs G1 H1 g1 w=>?_) q⟩⟩
 obtain⟨c,rfl,h1,ns,h2,h3,q⟩:=hyp;obtain⟨v,rfl,w1⟩:=vws1 w;obtain⟨l,us,rfl,hq,rs⟩:=ZP w1 g1.sub h1 h2;cases zce rs.rd;exact⟨l,ns,rfl,hq,h3,fun ms p1 p2 p hp=>q ms p1 p2 p _ G1 H1 g1 hp (ziZ ms)⟩
def ninT3:R3:=fun a b Q=>a.dat=true/\b.dat=true/\asT b.d fun xs=>SeqAt.shaped a.d=true/\SeqAt.shaped (.tuple xs)=true/\Q true (.bool (!xs.any fun y=>PyData.eqv y a.d))
theorem zj9(hu:X.A.units+65<cLine):OpOk X (compareOp .NotIn) ninT3:=by
 refine⟨fun a b Q Q' h q=>?_,fun H0=>?_⟩
 . obtain⟨h1,h2,q⟩:=q
   obtain⟨xs,e,h3,h4,q⟩:=zaI q;refine⟨h1,h2,?_⟩;rw [e];exact⟨h3,h4,h _ _ q⟩
 intro pins s σ H x y v u Q I rx ry hyp;obtain⟨G,a,b,sm,wa,wb,ha,hb,q⟩:=hyp;have ra:=wa.rd sm ha;have rb:=wb.rd sm hb;obtain⟨xs,e,s1,s2,q⟩:=zaI q;rw [e] at rb;obtain⟨as,r1⟩:=ra.reads I rx;obtain⟨bs,r2⟩:=rb.reads I ry;exact SeqAt.notIn_tuple_reads r2 r1 (SeqAt.canLay_of_shaped s2) (SeqAt.canLay_of_shaped s1) (room_in_shaped s1 hu) ⟨.bl _,H,I,rfl,q _ G H (Gr.refl sm) (.sc rfl (.bl _))⟩
def ZI(i:Nat)(ta tb:TE3):TE3:=fun ρ Q=>∃ ds,ρ[i]?=some (some (.fd ds))/\ta ρ fun ka=>tb ρ fun kb=>asI ka fun m=>asI kb fun n=>Q (.sh true (.bool (!(getT ds (kk m n)).isSome)))
theorem zjC{ta tb:TE3}{np tp:Pos}{k1}(hu:X.A.units+1<cLine)(hN:X.N[i]?=some x)(hv:Vis X.env.scope x)(ha:PE3 X H0 a ta)(hb:PE3 X H0 b tb)(hm:behindInMarks .NotIn (.Name x np)=false:=by rfl)(hd:(x==("__debug__" : Str))=false:=by decide)(hcd:(x==("__classdict__" : Str))=false:=by decide)
 (hs1:starEach [a,b] X.env=(false,eval a X.env)::starEach [b] X.env:=by rfl) (hs2:starEach [b] X.env=(false,eval b X.env)::starEach [] X.env:=by rfl) :
 PE3 X H0 (.Compare (.Tuple [a,b] k1 tp) [.NotIn] [.Name x np] pos) (ZI i ta tb):=by
 refine⟨fun ρ Q Q' h q=>?_,PE.imp (zkm (zcQ hu (zaN (z9 ha.ok (z9 hb.ok jt hs2) hs1)) (jn hN hv hd hcd)) hm) fun σ H Q=>el5 fun G0 ρ G F q=>?_⟩
 . obtain⟨ds,hi,q⟩:=q
   refine⟨ds,hi,ha.mono ρ _ _ (fun ka q=>hb.mono ρ _ _ (fun kb q1=>?_) q) q⟩
   obtain⟨m,rfl,q2⟩:=jf q1;obtain⟨n,rfl,q3⟩:=jf q2;exact h _ q3
 obtain⟨ds,hi,q⟩:=q;refine⟨G0,ρ,G,F,ha.mono ρ _ _ (fun ka q2 v2 G2 H2 g2 w2=>?_) q⟩
 refine⟨G0,ρ,G2,F.gr g2,hb.mono ρ _ _ (fun kb q3 v3 G3 H3 g3 w3=>?_) q2⟩
 obtain⟨m,rfl,q⟩:=jf q3;obtain⟨n,rfl,q⟩:=jf q;cases zC (zn w2).rd;cases zC (zn w3).rd;refine⟨show 2<=sizeLine by decide,fun p hp=>?_⟩
 have g4:=Gr.apart (o:=.tup [.int m,.int n]) g3.sub hp;have F3:=((F.gr g2).gr g3).gr g4;obtain⟨l,o,kvs,h1,h2,h3,_⟩:=ze3 F3 hi;have g:DGet (upd H3 p (.tup [.int m,.int n])) l (.ref p) (valV kvs (kk m n)):=.inr ⟨kvs,kk m n,p,.inr ⟨o,F3.sub.s _ _ h2⟩,rfl,zp,rfl⟩;refine⟨.ref l,h1,l,_,rfl,g,?_⟩;rw [h3.some];exact q _ G3 _ ((g2.trans g3).trans g4) (.sh (.sc rfl (.bl _)))
end
end L3
open PySem PySem.Spec PyProof.Rows L2
namespace Law
open PySem L2 L3
theorem JZ{α : Type}{us:List α}(h:us.length=1):∃ a0,us=[a0]:=match us,h with|[a0],_=>⟨a0,rfl⟩
theorem zR{α : Type}{us:List α}(h:us.length=2):∃ a0 a1,us=[a0,a1]:=match us,h with|[a0,a1],_=>⟨a0,a1,rfl⟩
theorem jY{α : Type}{us:List α}(h:us.length=3):∃ a0 a1 a2,us=[a0,a1,a2]:=match us,h with|[a0,a1,a2],_=>⟨a0,a1,a2,rfl⟩
theorem zaM{α : Type}{us:List α}(h:us.length=4):∃ a0 a1 a2 a3,us=[a0,a1,a2,a3]:=match us,h with|[a0,a1,a2,a3],_=>⟨a0,a1,a2,a3,rfl⟩
def top(i:Nat):Stmt:=PySem.Challenge.pw_chairclans_k33_placed_refused.main.body.getD i (.Pass ⟨0,0,0,0⟩)
abbrev Jo:Stmt:=top 56
abbrev Ja:Stmt:=top 57
abbrev JE:Stmt:=top 59
abbrev Jc:Stmt:=top 60
abbrev Jz:Stmt:=top 61
abbrev JB:Stmt:=top 65
abbrev Jw:Stmt:=top 64
abbrev jL:Stmt:=top 58
abbrev jr:Stmt:=top 62
abbrev Jm:Stmt:=top 63
abbrev Jb:Stmt:=top 66
abbrev j9:Stmt:=top 35
abbrev jX:Stmt:=top 36
abbrev JJ:Stmt:=top 37
abbrev JH:Stmt:=top 17
abbrev j6:Stmt:=top 38
abbrev Jx:Stmt:=top 39
abbrev jU:Stmt:=top 40
abbrev jD:Stmt:=top 41
abbrev Jr:Stmt:=top 43
abbrev JL:Stmt:=top 44
abbrev j4:Stmt:=top 45
abbrev Ju:Stmt:=top 46
abbrev jQ:Stmt:=top 50
abbrev JF:Stmt:=top 51
abbrev Jv:Stmt:=top 52
abbrev jy:Stmt:=top 53
abbrev JI:Stmt:=top 18
abbrev JO:Stmt:=top 22
abbrev Js:Stmt:=top 23
abbrev jN:Stmt:=top 24
abbrev Jf:Stmt:=top 28
abbrev JA:Stmt:=top 29
abbrev JM:Stmt:=top 30
abbrev Jj:Stmt:=top 48
abbrev jS:Stmt:=top 49
abbrev j5:Stmt:=top 54
abbrev jV:Stmt:=top 67
abbrev jJ:Stmt:=top 68
instance:LamW:=⟨⟨0,0,0,0⟩,""⟩
structure Cl where
 ClanError:Addr
 NoRatio:Addr
 NoText:Addr
 NoSpell:Addr
 NoRow:Addr
 NoBounds:Addr
 NoDistance:Addr
 NoClan:Addr
 TooLong:Addr
 NoRule:Addr
 NoLine:Addr
 NoNumber:Addr
 NoName:Addr
 Known:Addr
 TooMany:Addr
structure Txt(c:Law.Cl)(K:Ybf)(mg:Str->Option Value):Prop where
 d_law_cell_at:∃ f fd,Fun K "_law_cell_at" "_law_cell_at" Jo f fd/\mg "_law_cell_at" = some (.ref f)
 d_law_drawn_at:∃ f fd,Fun K "_law_drawn_at" "_law_drawn_at" Ja f fd/\mg "_law_drawn_at" = some (.ref f)
 d_law_weights:∃ f fd,Fun K "_law_weights" "_law_weights" JE f fd/\mg "_law_weights" = some (.ref f)
 d_law_spells:∃ f fd,Fun K "_law_spells" "_law_spells" Jc f fd/\mg "_law_spells" = some (.ref f)
 d_law_ratio:∃ f fd,Fun K "_law_ratio" "_law_ratio" Jz f fd/\mg "_law_ratio" = some (.ref f)
 d_law_bounds:∃ f fd,Fun K "_law_bounds" "_law_bounds" JB f fd/\mg "_law_bounds" = some (.ref f)
 d_law_rules:∃ f fd,Fun K "_law_rules" "_law_rules" Jw f fd/\mg "_law_rules" = some (.ref f)
 d_law_cells:∃ f fd,Fun K "_law_cells" "_law_cells" jL f fd/\mg "_law_cells" = some (.ref f)
 d_law_bad_spells:∃ f fd,Fun K "_law_bad_spells" "_law_bad_spells" jr f fd/\mg "_law_bad_spells" = some (.ref f)
 d_law_bad_bounds:∃ f fd,Fun K "_law_bad_bounds" "_law_bad_bounds" Jm f fd/\mg "_law_bad_bounds" = some (.ref f)
 d_law_bad_rule:∃ f fd,Fun K "_law_bad_rule" "_law_bad_rule" Jb f fd/\mg "_law_bad_rule" = some (.ref f)
 d_check_weights:∃ f fd,Fun K "check_weights" "check_weights" j9 f fd/\mg "check_weights" = some (.ref f)
 d_all_turns:∃ f fd,Fun K "all_turns" "all_turns" jX f fd/\mg "all_turns" = some (.ref f)
 d_check_spells:∃ f fd,Fun K "check_spells" "check_spells" JJ f fd/\mg "check_spells" = some (.ref f)
 d_common_divisor:∃ f fd,Fun K "common_divisor" "common_divisor" JH f fd/\mg "common_divisor" = some (.ref f)
 d_divisor_of_all:∃ f fd,Fun K "divisor_of_all" "divisor_of_all" j6 f fd/\mg "divisor_of_all" = some (.ref f)
 d_least_bottom:∃ f fd,Fun K "least_bottom" "least_bottom" Jx f fd/\mg "least_bottom" = some (.ref f)
 d_shares_over:∃ f fd,Fun K "shares_over" "shares_over" jU f fd/\mg "shares_over" = some (.ref f)
 d_quotas:∃ f fd,Fun K "quotas" "quotas" jD f fd/\mg "quotas" = some (.ref f)
 d_first_turn:∃ f fd,Fun K "first_turn" "first_turn" Jr f fd/\mg "first_turn" = some (.ref f)
 d_window_of:∃ f fd,Fun K "window_of" "window_of" JL f fd/\mg "window_of" = some (.ref f)
 d_windows_of_clan:∃ f fd,Fun K "windows_of_clan" "windows_of_clan" j4 f fd/\mg "windows_of_clan" = some (.ref f)
 d_windows_within:∃ f fd,Fun K "windows_within" "windows_within" Ju f fd/\mg "windows_within" = some (.ref f)
 d_choices_of_visits:∃ f fd,Fun K "choices_of_visits" "choices_of_visits" jQ f fd/\mg "choices_of_visits" = some (.ref f)
 d_move_along:∃ f fd,Fun K "move_along" "move_along" JF f fd/\mg "move_along" = some (.ref f)
 d_settle:∃ f fd,Fun K "settle" "settle" Jv f fd/\mg "settle" = some (.ref f)
 d_place_visits:∃ f fd,Fun K "place_visits" "place_visits" jy f fd/\mg "place_visits" = some (.ref f)
 d_less:∃ f fd,Fun K "less" "less" JI f fd/\mg "less" = some (.ref f)
 d_check_bounds:∃ f fd,Fun K "check_bounds" "check_bounds" JO f fd/\mg "check_bounds" = some (.ref f)
 d_room_at_most:∃ f fd,Fun K "room_at_most" "room_at_most" Js f fd/\mg "room_at_most" = some (.ref f)
 d_rooms_of:∃ f fd,Fun K "rooms_of" "rooms_of" jN f fd/\mg "rooms_of" = some (.ref f)
 d_check_turn:∃ f fd,Fun K "check_turn" "check_turn" Jf f fd/\mg "check_turn" = some (.ref f)
 d_check_rules:∃ f fd,Fun K "check_rules" "check_rules" JA f fd/\mg "check_rules" = some (.ref f)
 d_forbidden:∃ f fd,Fun K "forbidden" "forbidden" JM f fd/\mg "forbidden" = some (.ref f)
 d_may_come:∃ f fd,Fun K "may_come" "may_come" Jj f fd/\mg "may_come" = some (.ref f)
 d_choices_of_turns:∃ f fd,Fun K "choices_of_turns" "choices_of_turns" jS f fd/\mg "choices_of_turns" = some (.ref f)
 d_placed:∃ f fd,Fun K "placed" "placed" j5 f fd/\mg "placed" = some (.ref f)
 d_law_kinds:∃ f fd,Fun K "_law_kinds" "_law_kinds" jV f fd/\mg "_law_kinds" = some (.ref f)
 d_law:∃ f fd,Fun K "law" "law" jJ f fd/\mg "law" = some (.ref f)
 m_ClanError:mg "ClanError" = some (.ref c.ClanError)
 m_NoRatio:mg "NoRatio" = some (.ref c.NoRatio)
 m_NoText:mg "NoText" = some (.ref c.NoText)
 m_NoSpell:mg "NoSpell" = some (.ref c.NoSpell)
 m_NoRow:mg "NoRow" = some (.ref c.NoRow)
 m_NoBounds:mg "NoBounds" = some (.ref c.NoBounds)
 m_NoDistance:mg "NoDistance" = some (.ref c.NoDistance)
 m_NoClan:mg "NoClan" = some (.ref c.NoClan)
 m_TooLong:mg "TooLong" = some (.ref c.TooLong)
 m_NoRule:mg "NoRule" = some (.ref c.NoRule)
 m_NoLine:mg "NoLine" = some (.ref c.NoLine)
 m_NoNumber:mg "NoNumber" = some (.ref c.NoNumber)
 m_NoName:mg "NoName" = some (.ref c.NoName)
 m_Known:mg "Known" = some (.ref c.Known)
 m_TooMany:mg "TooMany" = some (.ref c.TooMany)
 e_NoSpell:PySem.W.excIn K c.NoSpell bmVE "ValueError.__new__" = true
 e_NoBounds:PySem.W.excIn K c.NoBounds bmVE "ValueError.__new__" = true
 e_NoRule:PySem.W.excIn K c.NoRule bmVE "ValueError.__new__" = true
 k_NoSpell:XAttr K c.NoSpell/\PySem.W.exmOne K (.ref c.NoSpell) (.ref c.ClanError)=some true/\PySem.W.kitAny K (.ref c.NoSpell) ([c.Known,c.NoClan,c.NoDistance,c.NoLine,c.NoName,c.NoNumber,c.NoRatio].map Value.ref)=some false/\PySem.W.kitAny K (.ref c.NoSpell) ([c.NoRow,c.NoText,c.TooLong,c.TooMany].map Value.ref)=some false/\PySem.W.kitOne K (.ref c.NoSpell) (.ref c.NoSpell)=some true/\PySem.W.kitOne K (.ref c.NoSpell) (.ref c.NoBounds)=some false/\PySem.W.kitOne K (.ref c.NoSpell) (.ref c.NoRule)=some false/\PySem.W.kitOne K (.ref c.NoSpell) (.type "ValueError")=some true
 k_NoBounds:XAttr K c.NoBounds/\PySem.W.exmOne K (.ref c.NoBounds) (.ref c.ClanError)=some true/\PySem.W.kitAny K (.ref c.NoBounds) ([c.Known,c.NoClan,c.NoDistance,c.NoLine,c.NoName,c.NoNumber,c.NoRatio].map Value.ref)=some false/\PySem.W.kitAny K (.ref c.NoBounds) ([c.NoRow,c.NoText,c.TooLong,c.TooMany].map Value.ref)=some false/\PySem.W.kitOne K (.ref c.NoBounds) (.ref c.NoSpell)=some false/\PySem.W.kitOne K (.ref c.NoBounds) (.ref c.NoBounds)=some true/\PySem.W.kitOne K (.ref c.NoBounds) (.ref c.NoRule)=some false/\PySem.W.kitOne K (.ref c.NoBounds) (.type "ValueError")=some true
 k_NoRule:XAttr K c.NoRule/\PySem.W.exmOne K (.ref c.NoRule) (.ref c.ClanError)=some true/\PySem.W.kitAny K (.ref c.NoRule) ([c.Known,c.NoClan,c.NoDistance,c.NoLine,c.NoName,c.NoNumber,c.NoRatio].map Value.ref)=some false/\PySem.W.kitAny K (.ref c.NoRule) ([c.NoRow,c.NoText,c.TooLong,c.TooMany].map Value.ref)=some false/\PySem.W.kitOne K (.ref c.NoRule) (.ref c.NoSpell)=some false/\PySem.W.kitOne K (.ref c.NoRule) (.ref c.NoBounds)=some false/\PySem.W.kitOne K (.ref c.NoRule) (.ref c.NoRule)=some true/\PySem.W.kitOne K (.ref c.NoRule) (.type "ValueError")=some true
 n_ValueError:mg "ValueError" = none
 n_abs:mg "abs" = none
 n_enumerate:mg "enumerate" = none
 n_isinstance:mg "isinstance" = none
 n_len:mg "len" = none
 n_list:mg "list" = none
 n_min:mg "min" = none
 n_range:mg "range" = none
 n_sorted:mg "sorted" = none
 n_sum:mg "sum" = none
 n_zip:mg "zip" = none
 m_LEAST_BOUND:∃ a,mg "LEAST_BOUND" = some (.ref a)/\TupI K a [0,1]
 m_MOST_BOUND:∃ a,mg "MOST_BOUND" = some (.ref a)/\TupI K a [10,1]
 m_FIXED:∃ t,mg "FIXED" = some (.str "fixed" t)
 m_BARRED:∃ t,mg "BARRED" = some (.str "barred" t)
 m_MOST_SPELLS:∃ t,mg "MOST_SPELLS" = some (.int 8 t)
 m_MOST_CLANS:∃ t,mg "MOST_CLANS" = some (.int 8 t)
 m_MOST_TURNS:∃ t,mg "MOST_TURNS" = some (.int 60 t)
theorem zco{g l:Int}(hg:0<=g)(hl:0<l):Int.gcd l (g%l)=Int.gcd g l:=by
 obtain⟨m,rfl⟩:=Int.eq_ofNat_of_zero_le hg;obtain⟨n,rfl⟩:=Int.eq_ofNat_of_zero_le (Int.le_of_lt hl);rw [<-Int.natCast_emod,Int.gcd_natCast_natCast,Int.gcd_natCast_natCast,Nat.gcd_comm n,<-Nat.gcd_rec,Nat.gcd_comm]
theorem zcq{g:Int}(hg:0<=g):(Int.gcd g 0:Int)=g:=by
 rw [Int.gcd_zero_right];omega
theorem zdo(a b:Int):Int.gcd (if a<0 then -a else a) (if b<0 then -b else b)=Int.gcd a b:=by
 split<;>split<;>simp
def dR(a b:Int):D:=.tuple [.int (a/(Int.gcd a b:Int)),.int (b/(Int.gcd a b:Int))]
theorem za6{a b:Int}(h:0<b):0<(Int.gcd a b:Int):=by
 have:0<Int.gcd a b:=Waa _ #[0]
 omega
theorem zez{a b:Int}{k:Nat}(h:0<b)(hb:Bits k b):Bits k (Int.gcd a b:Int):=by
 refine hb.le ?_
 have:=Int.gcd_le_right a (show 0<b from h)
 omega
theorem zcc{x a b:Int}(h:0<b)(hb:Bits 9000 b):jM x (Int.gcd a b:Int):=⟨za6 h,zez h hb⟩
abbrev Spell:=Int×List Int
def dI(ns:List Int):D:=.list (ns.map .int)
def dS(s:Spell):D:=.tuple [.int s.1,dI s.2]
def dSs(l:List Spell):D:=.list (l.map dS)
def okW(ws:List Int):Prop:=(1<=ws.length/\ws.length<=8)/\(∀ w∈ws,0<=w/\w<10 ^ 30)/\ws.sum≠0
def tot(l:List Spell):Int:=(l.map (·.1)).sum
def many(l:List Spell):Nat:=(l.headD (0,[])).2.length
def okS(l:List Spell):Prop:=(1<=l.length/\l.length<=8)/\(∀ s∈l,1<=s.1/\okW s.2/\s.2.length=many l)/\tot l<=60
theorem p30:Je 10 30:=powB (k:=4) (by unfold Bits;decide) #[1] #[1]
theorem zay:∀ {ws:List Int},(∀ w∈ws,0<=w)->0<=ws.sum
 | [],_=>by simp
 | w :: ws, h => by
  rw [List.sum_cons];have:=zay (ws:=ws) fun x hx=>h x (YaT _ hx)
  have:=h w YaV
  omega
theorem zc4{B:Int}:∀ {ws:List Int},(∀ w∈ws,w<B)->ws.sum<=ws.length*B
 | [],_=>by simp
 | w :: ws, h => by
  rw [List.sum_cons,List.length_cons];have:=zc4 (ws:=ws) fun x hx=>h x (YaT _ hx)
  have:=h w YaV;have e:((ws.length+1:Nat):Int)*B=ws.length*B+B:=by rw [Int.natCast_add,Int.add_mul];simp
  omega
theorem Jh{ws:List Int}(h:okW ws):0<ws.sum:=by
 have:=zay fun w hw=>(h.2.1 w hw).1
 have:=h.2.2
 omega
theorem zjq{ws:List Int}(h:okW ws):ws.sum<=8*10 ^ 30:=by
 have h1:=zc4 (B:=10 ^ 30) fun w hw=>(h.2.1 w hw).2
 have h2:(ws.length:Int)*10 ^ 30<=8*10 ^ 30:=Ybe (by have:=h.1.2;omega) #[1]
 omega
theorem zc2{x B:Int}{k:Nat}(h0:0<=x)(h:x<=B)(hB:B.natAbs<2 ^ k):Bits k x:=by
 unfold Bits
 omega
theorem zb1{ws:List Int}(h:okW ws):Bits 103 ws.sum:=zc2 (Int.le_of_lt (Jh h)) (zjq h) #[1]
theorem zer{ws:List Int}(h:okW ws){w:Int}(hw:w∈ws):Bits 100 w:=zc2 (h.2.1 w hw).1 (Int.le_of_lt (h.2.1 w hw).2) #[1]
def gcdL(ws:List Int):Int:=ws.foldl (fun a b=>(Int.gcd a b:Int)) 0
def parts(ws:List Int):Int:=ws.sum/gcdL ws
def bot1(b:Int)(s:Spell):Int:=b*parts s.2/(Int.gcd b (parts s.2):Int)
def bot(l:List Spell):Int:=l.foldl bot1 1
theorem za2:∀ (ws:List Int) (a:Int),0<=a->0<=ws.foldl (fun a b=>(Int.gcd a b:Int)) a/\ws.foldl (fun a b=>(Int.gcd a b:Int)) a∣a/\∀ w∈ws,ws.foldl (fun a b=>(Int.gcd a b:Int)) a∣w
 | [],a,h=>⟨h,Int.dvd_refl _,fun w hw=>by cases hw⟩
 | w :: ws, a, h => by
  obtain⟨h1,h2,h3⟩:=za2 ws (Int.gcd a w:Int) #[0]
  refine⟨h1,Int.dvd_trans h2 (Int.gcd_dvd_left a w),fun x hx=>?_⟩
  rcases WaB.mp hx with rfl|hx
  . exact Int.dvd_trans h2 (Int.gcd_dvd_right a x)
  . exact h3 x hx
theorem zfQ(ws:List Int):0<=gcdL ws:=(za2 ws 0 #[1]).1
theorem ziA{ws:List Int}{w:Int}(h:w∈ws):gcdL ws∣w:=(za2 ws 0 #[1]).2.2 w h
theorem zca{d:Int}:∀ {ws:List Int},(∀ w∈ws,d∣w)->d∣ws.sum
 | [],_=>by simp
 | w :: ws, h => by
  rw [List.sum_cons];exact Int.dvd_add (h w YaV) (zca fun x hx=>h x (YaT _ hx))
theorem zbc(ws:List Int):gcdL ws∣ws.sum:=zca fun w hw=>ziA hw
theorem zbl{ws:List Int}(h:okW ws):0<gcdL ws:=by
 have h1:=zfQ ws;have h2:=Jh h;have h3:=zbc ws
 by_cases e:gcdL ws=0
 . rw [e] at h3
   have:=Int.zero_dvd.mp h3
   omega
 . omega
theorem zhJ{ws:List Int}(h:okW ws):gcdL ws<=ws.sum:=Int.le_of_dvd (Jh h) (zbc ws)
theorem zd0{ws:List Int}:parts ws*gcdL ws=ws.sum:=Yaw (zbc ws)
theorem JN{ws:List Int}(h:okW ws):0<parts ws:=by
 have h1:=zbl h;have h2:=Jh h;have h3:=zd0 (ws:=ws)
 by_cases e:0<parts ws
 . exact e
 . have:parts ws*gcdL ws<=0:=Int.mul_nonpos_of_nonpos_of_nonneg #[0] #[0]
   omega
theorem zfx{ws:List Int}(h:okW ws):parts ws<=ws.sum:=Int.ediv_le_self _ (Int.le_of_lt (Jh h))
theorem zbW{ws:List Int}(h:okW ws):Bits 103 (parts ws):=(zb1 h).le (by have:=JN h;have:=zfx h;omega)
theorem zbm{b p:Int}(h:0<p):(0:Int)<(Int.gcd b p:Int):=by
 have:=Waa b (show p≠0 by omega)
 omega
theorem zkU{b p:Int}(h:0<p):(Int.gcd b p:Int)<=p:=Int.le_of_dvd h (Int.gcd_dvd_right b p)
theorem zdK{b:Int}{s:Spell}(hb:0<b)(h:okW s.2):0<bot1 b s:=by
 have h1:=JN h;have h2:=zbm (b:=b) h1;have h3:(Int.gcd b (parts s.2):Int)∣b*parts s.2:=Int.dvd_trans (Int.gcd_dvd_left _ _) (Int.dvd_mul_right _ _);have h4:=Yaw h3;have h5:0<b*parts s.2:=Int.mul_pos hb h1;unfold bot1
 by_cases e:0<b*parts s.2/(Int.gcd b (parts s.2):Int)
 . exact e
 . have:b*parts s.2/(Int.gcd b (parts s.2):Int)*(Int.gcd b (parts s.2):Int)<=0:=Int.mul_nonpos_of_nonpos_of_nonneg #[0] #[0]
   omega
theorem zfv{b:Int}{s:Spell}{k:Nat}(hb:0<b)(hk:Bits k b)(h:okW s.2):Bits (k+103) (bot1 b s):=(hk.mul (zbW h)).le (by
 have h5:0<b*parts s.2:=Int.mul_pos hb (JN h);have h6:=zdK hb h;have h7:bot1 b s<=b*parts s.2:=Int.ediv_le_self _ (Int.le_of_lt h5)
 omega)
theorem zaB:∀ (l:List Spell) (b:Int) (k:Nat),(∀ s∈l,okW s.2)->0<b->Bits k b->0<l.foldl bot1 b/\Bits (k+103*l.length) (l.foldl bot1 b)
 | [],b,k,_,h,h'=>⟨h,by simpa using h'⟩
 | s :: l, b, k, hs, h, h' => by
  have hw:=hs s YaV;have:=zaB l (bot1 b s) (k+103) (fun x hx=>hs x (YaT _ hx)) (zdK h hw) (zfv h h' hw)
  refine⟨this.1,this.2.mono ?_⟩
  rw [List.length_cons];omega
theorem zeI{l:List Spell}(h:okS l):0<bot l:=(zaB l 1 1 (fun s hs=>(h.2.1 s hs).2.1) #[1] (by unfold Bits;decide)).1
theorem zcx{l:List Spell}(h:okS l):Bits 900 (bot l):=(zaB l 1 1 (fun s hs=>(h.2.1 s hs).2.1) #[1] (by unfold Bits;decide)).2.mono (by have:=h.1.2;omega)
def shares(b:Int)(ws:List Int):List Int:=ws.map fun w=>w*b/ws.sum
def addL(xs ys:List Int):List Int:=(xs.zip ys).map fun p=>p.1+p.2
def zT(sh:List Int)(p:List Int×List (List Int)):List Int×List (List Int):=(addL p.1 sh,p.2++[addL p.1 sh])
def rep{α : Type}(f:α->α):Nat->α->α
 | 0,x=>x
 | n+1,x=>rep f n (f x)
def runQ(b:Int)(l:List Spell)(p:List Int×List (List Int)):List Int×List (List Int):=l.foldl (fun p s=>rep (zT (shares b s.2)) s.1.toNat p) p
def zeros(l:List Spell):List Int:=List.replicate (many l) 0
def quo(l:List Spell):List (List Int):=(runQ (bot l) l (zeros l,[zeros l])).2
theorem ZJ(sh:List Int):∀ n p,(rep (zT sh) n p).2.length=p.2.length+n
 | 0,p=>rfl
 | n+1,p=>by rw [rep,ZJ sh n];simp [zT];omega
theorem zaO{l:List Spell}(h:∀ s∈l,1<=s.1):0<=tot l:=zay fun w hw=>by
 obtain⟨s,hs,rfl⟩:=Ya7.mp hw;have:=h s hs;omega
theorem zbn{l:List Spell}(h:∀ s∈l,1<=s.1){s:Spell}(hs:s∈l):s.1<=tot l:=by
 unfold tot
 induction l with
 | nil=>cases hs
 | cons a l ih=>
  rw [Ya1,List.sum_cons];have h1:0<=(l.map (·.1)).sum:=zaO fun x hx=>h x (YaT _ hx)
  have h2:=h a YaV
  rcases WaB.mp hs with rfl|hs
  . omega
  . have:=ih (fun x hx=>h x (YaT _ hx)) hs
    omega
theorem zet{l:List Spell}(h:okS l):((quo l).length:Int)=tot l+1:=by
 have key:∀ (l:List Spell) (b:Int) (p:List Int×List (List Int)),(∀ s∈l,1<=s.1)->((runQ b l p).2.length:Int)=p.2.length+tot l:=by
  intro l
  induction l with
  | nil=>intro b p _;simp [runQ,tot]
  | cons s l ih=>
   intro b p hs;have h1:=hs s YaV;have:=ih b (rep (zT (shares b s.2)) s.1.toNat p) fun x hx=>hs x (YaT _ hx)
   show((runQ b l (rep (zT (shares b s.2)) s.1.toNat p)).2.length:Int)=_
   rw [this,ZJ];unfold tot;rw [Ya1,List.sum_cons]
   omega
 have:=key l (bot l) (zeros l,[zeros l]) fun s hs=>(h.2.1 s hs).1
 unfold quo;rw [this];simp;omega
theorem jF{α β : Type}(e:α->β)(xs:List α)(lo hi:Option Int):cut (xs.map e) lo hi=(cut xs lo hi).map e:=by
 unfold cut;rw [YaR,List.map_take,List.map_drop]
theorem zag{α : Type}(xs:List α){i:Int}(h:0<=i)(h':i<=xs.length):cut xs none (some i)=xs.take i.toNat:=by
 unfold cut;have e:HT.sIx xs.length xs.length (some i)=i.toNat:=by
  have:=HT.sIx_nat xs.length xs.length i.toNat;rw [show((i.toNat:Nat):Int)=i by omega] at this
  rw [this];omega
 rw [e];simp [HT.sIx_none]
theorem zaE{α : Type}(xs:List α){i:Int}(h:0<=i)(h':i<=xs.length):cut xs (some i) none=xs.drop i.toNat:=by
 unfold cut;have e:HT.sIx xs.length 0 (some i)=i.toNat:=by
  have:=HT.sIx_nat xs.length 0 i.toNat;rw [show((i.toNat:Nat):Int)=i by omega] at this
  rw [this];omega
 rw [e,HT.sIx_none]
 apply List.take_of_length_le
 rw [List.length_drop];omega
theorem J5(ws:List Int):(ws.map PyData.int).all zo=true:=by
 rw [Wat];intro x hx;obtain⟨i,_,rfl⟩:=Ya7.mp hx;rfl
theorem zgH{a b:List Int}(h:a.length=b.length):(addL a b).length=a.length:=by unfold addL;rw [YaR,List.length_zip];omega
theorem zgD(b:Int)(ws:List Int):(shares b ws).length=ws.length:=YaR ..
def quoB(b:Int)(l:List Spell):List (List Int):=(runQ b l (zeros l,[zeros l])).2
theorem zid(b:Int):∀ (l:List Spell) (p:List Int×List (List Int)),(∀ s∈l,1<=s.1)->((runQ b l p).2.length:Int)=p.2.length+tot l:=by
 intro l
 induction l with
 | nil=>intro p _;simp [runQ,tot]
 | cons s l ih=>
  intro p hs;have h1:=hs s YaV;have:=ih (rep (zT (shares b s.2)) s.1.toNat p) fun x hx=>hs x (YaT _ hx)
  show((runQ b l (rep (zT (shares b s.2)) s.1.toNat p)).2.length:Int)=_
  rw [this,ZJ];unfold tot;rw [Ya1,List.sum_cons]
  omega
theorem zix{l:List Spell}(h:okS l)(b:Int):((quoB b l).length:Int)=tot l+1:=by
 unfold quoB;rw [zid b l _ fun s hs=>(h.2.1 s hs).1]
 simp;omega
def zaT(n:Nat)(p:List Int×List (List Int)):Prop:=p.1.length=n/\∀ r∈p.2,r.length=n
theorem zdA{n:Nat}{sh:List Int}(hs:sh.length=n):∀ (k:Nat) (p:List Int×List (List Int)),zaT n p->zaT n (rep (zT sh) k p)
 | 0,p,h=>h
 | k + 1, p, h => zdA hs k _ (by
  have e:(addL p.1 sh).length=n:=by rw [zgH (by rw [h.1,hs]),h.1]
  refine⟨e,fun r hr=>?_⟩
  rcases Ya3.mp hr with z|z
  . exact h.2 r z
  . rw [Ya6.mp z];exact e)
theorem zdD{n:Nat}(b:Int):∀ (l:List Spell) (p:List Int×List (List Int)),(∀ s∈l,s.2.length=n)->zaT n p->zaT n (runQ b l p)
 | [],p,_,h=>h
 | s::l,p,hs,h=>zdD b l _ (fun t ht=>hs t (YaT _ ht)) (zdA (by rw [zgD];exact hs s YaV) _ _ h)
theorem zeT{l:List Spell}(h:okS l){b:Int}{r:List Int}(hr:r∈quoB b l):r.length=many l:=
 (zdD b l (zeros l,[zeros l]) (fun s hs=>(h.2.1 s hs).2.2) ⟨by unfold zeros;simp,fun r hr=>by rw [Ya6.mp hr];unfold zeros;simp⟩).2 r hr
theorem zck{l:List Spell}(h:okS l):1<=many l/\many l<=8:=by
 cases l with
 | nil=>have:=h.1.1;simp at this
 | cons a r=>exact(h.2.1 a YaV).2.1.1
def Far(S:List Int)(n:Int):Prop:=0<=n/\(∀ x∈S,x<=n/\-x<=n)/\(n=0\/n∈S\/-n∈S)
theorem Far.le{S:List Int}{n m:Int}(h:Far S n)(h':Far S m):n<=m:=by
 rcases h.2.2 with z|z|z
 . rw [z];exact h'.1
 . exact(h'.2.1 n z).1
 . have:=(h'.2.1 (-n) z).2;omega
theorem Far.uniq{S:List Int}{n m:Int}(h:Far S n)(h':Far S m):n=m:=Int.le_antisymm (h.le h') (h'.le h)
theorem Far.nil:Far [] 0:=⟨#[1],fun x h=>absurd h (by simp),.inl rfl⟩
theorem zbz{a b:Int}(h:0<b):0<b/(Int.gcd a b:Int)/\Int.gcd (a/(Int.gcd a b:Int)) (b/(Int.gcd a b:Int))=1/\a/(Int.gcd a b:Int)*(Int.gcd a b:Int)=a/\b/(Int.gcd a b:Int)*(Int.gcd a b:Int)=b:=by
 have hg:0<Int.gcd a b:=Waa _ #[0]
 have h1:(Int.gcd a b:Int)∣a:=Int.gcd_dvd_left a b;have h2:(Int.gcd a b:Int)∣b:=Int.gcd_dvd_right a b;exact⟨Int.ediv_pos_of_pos_of_dvd h #[0] h2,Int.gcd_ediv_gcd_ediv_gcd hg,Yaw h1,Yaw h2⟩
theorem zjD{α : Type}(xs:List α)(x:α):atI (xs++[x]) (-1)=some x:=by
 unfold atI ixN;rw [if_neg #[1],if_pos (by rw [YaS];simp;omega),YaS]
 have:(-1+((xs.length+[x].length:Nat):Int)).toNat=xs.length:=#[6]
 rw [this]
 simp
theorem c64:Je 10 64:=powB (k:=4) (by unfold Bits;decide) #[1] #[1]
abbrev Rat2:=Int×Int
def dQ(r:Rat2):D:=.tuple [.int r.1,.int r.2]
def dP(p:Rat2×Rat2):D:=.tuple [dQ p.1,dQ p.2]
def dPs(l:List (Rat2×Rat2)):D:=.list (l.map dP)
def okQ(r:Rat2):Prop:=0<r.2/\Bits 1200 r.1/\Bits 1200 r.2
def inQ(r:Rat2):Prop:=0<=r.1/\r.1<=10*r.2
def okB(n:Nat)(l:List (Rat2×Rat2)):Prop:=l.length=n/\∀ p∈l,inQ p.1/\inQ p.2
def Z8(b:Int)(r:Rat2):Int:=r.1*b/r.2
theorem zcA{rows:List (List Int)}{i:Nat}(h:i<rows.length):atI (rows.map dI) (i:Int)=some (PyData.list (rows[i].map PyData.int)):=by
 have:(rows.map dI)[i]?=some (PyData.list (rows[i].map PyData.int)):=by rw [Ya0,YaQ h];rfl
 exact jB this
theorem zcB{xs:List Int}{i:Int}(h0:0<=i)(h:i<xs.length):atI (xs.map PyData.int) i=some (PyData.int (xs.getD i.toNat 0)):=by
 obtain⟨x,h1,_,h2⟩:=j7 (xs:=xs) h0 h;rw [jO,h1,YaP,h2];rfl
def jm(p:Int×Int):D:=.tuple [.int p.1,.int p.2]
def J0(b:Int)(l:List (Rat2×Rat2)):List (Int×Int):=l.map fun p=>(Z8 b p.1,Z8 b p.2)
theorem zdb{ws:List Int}(h:∀ w∈ws,0<=w){w:Int}(hw:w∈ws):w<=ws.sum:=by
 induction ws with
 | nil=>cases hw
 | cons a r ih=>
  rw [List.sum_cons];have h2:=zay (ws:=r) fun w hw=>h w (YaT _ hw)
  have h3:=h a YaV
  rcases WaB.mp hw with rfl|hw
  . omega
  . have:=ih (fun w hw=>h w (YaT _ hw)) hw
    omega
theorem zgb{b:Int}{ws:List Int}(h:okW ws)(hb:0<=b){x:Int}(hx:x∈shares b ws):x<=b:=by
 unfold shares at hx;obtain⟨w,hw,rfl⟩:=Ya7.mp hx;have h1:=zdb (fun w hw=>(h.2.1 w hw).1) hw
 refine Int.ediv_le_of_le_mul (Jh h) ?_
 rw [Int.mul_comm w b];exact Int.mul_le_mul_of_nonneg_left h1 hb
def leP(b:Int)(p:List Int×List (List Int)):Prop:=1<=p.2.length/\(∀ x∈p.1,x<=((p.2.length:Int) - 1)*b)/\∀ r∈p.2,∀ x∈r,x<=((p.2.length:Int) - 1)*b
theorem zee{b:Int}{sh:List Int}(hb:0<=b)(hs:∀ x∈sh,x<=b){p:List Int×List (List Int)}(h:leP b p):leP b (zT sh p):=by
 obtain⟨h1,h2,h3⟩:=h;have e:(((zT sh p).2.length:Nat):Int) - 1=p.2.length:=by show(((p.2++[_]).length:Nat):Int) - 1=_;rw [YaS];simp
 have hm:((p.2.length:Int) - 1)*b+b=(p.2.length:Int)*b:=by rw [Int.sub_mul,Int.one_mul];omega
 have ha:∀ x∈addL p.1 sh,x<=(p.2.length:Int)*b:=fun x hx=>by
  unfold addL at hx;obtain⟨q,hq,rfl⟩:=Ya7.mp hx;obtain⟨q1,q2⟩:=List.of_mem_zip (a:=q.1) (b:=q.2) hq;have:=h2 _ q1;have:=hs _ q2
  omega
 refine⟨by show 1<=(p.2++[_]).length;rw [YaS];simp,by rw [e];exact ha,fun r hr x hx=>?_⟩
 rw [e]
 rcases Ya3.mp hr with z|z
 . have:=h3 r z x hx;omega
 . rw [Ya6.mp z] at hx;exact ha x hx
theorem zdj{b:Int}{sh:List Int}(hb:0<=b)(hs:∀ x∈sh,x<=b):∀ (n:Nat) {p:List Int×List (List Int)},leP b p->leP b (rep (zT sh) n p)
 | 0,_,h=>h
 | n+1,_,h=>zdj hb hs n (zee hb hs h)
theorem zdh{b:Int}(hb:0<=b):∀ (l:List Spell) {p:List Int×List (List Int)},(∀ s∈l,okW s.2)->leP b p->leP b (runQ b l p)
 | [],_,_,h=>h
 | s::l,p,hl,h=>zdh hb l (p:=rep (zT (shares b s.2)) s.1.toNat p) (fun t ht=>hl t (YaT _ ht)) (zdj hb (fun x hx=>zgb (hl s YaV) hb hx) _ h)
theorem zib{l:List Spell}(h:okS l){b:Int}(hb:0<b):∀ r∈quoB b l,∀ x∈r,x<=tot l*b:=fun r hr x hx=>by
 have:=zdh (b:=b) #[0] l (p:=(zeros l,[zeros l])) (fun s hs=>(h.2.1 s hs).2.1) ⟨by simp,fun x hx=>by
  have:x=0:=Wae hx;rw [this];simp,fun r hr x hx=>by
  rw [Ya6.mp hr] at hx;have:x=0:=Wae hx;rw [this];simp⟩
 have h2:=this.2.2 r hr x hx;have h3:=zix h b;unfold quoB at h3;have e:(((runQ b l (zeros l,[zeros l])).2.length:Nat):Int) - 1=tot l:=#[0]
 rw [e] at h2;exact h2
theorem zbB{g:TG3}{tb:TS3}{A:Ends3}{f:Bool}{enc:Nat->D}{n:Nat}(P:Nat->Env3->Prop)(s:∀ k ρ,k<n->P k ρ->∀ W:Env3->Prop,(∀ ρ',P (k+1) ρ'->W ρ')->g f (enc k) ρ fun ρ'=>tb { A with nx:=W,ct:=W,bk:=A.nx } ρ')(e:∀ ρ,P n ρ->A.nx ρ){ρ : Env3}(h:P 0 ρ):forL g tb A f ((List.range n).map enc) ρ:=by
 refine jG enc (List.range n) (fun done ρ=>P done.length ρ) (fun done x rest ρ hd hp W hW=>?_) (fun ρ hp=>e ρ (by rw [YaG] at hp;exact hp)) h
 have hx:x=done.length:=by
  have h1:(List.range n)[done.length]?=some x:=by rw [hd];simp
  have h2:done.length<n:=by have:=congrArg List.length hd;simp at this;omega
  rw [List.getElem?_range h2] at h1;exact(Waz h1).symm
 subst hx;have h2:done.length<n:=by have:=congrArg List.length hd;simp at this;omega
 exact s done.length ρ h2 hp W fun ρ' hp'=>hW ρ' (by rw [YaS];exact hp')
def jZ(p:Nat->Bool):Nat->Nat->Nat
 | i,0=>i
 | i,m+1=>if p i=true then i else jZ p (i+1) m
def zQ(n:Nat)(p:Nat->Bool):Nat:=jZ p 1 (n - 1)
theorem zgh(p:Nat->Bool):∀ (m i:Nat),i<=jZ p i m/\jZ p i m<=i+m/\(∀ t,i<=t->t<jZ p i m->p t=false)/\(jZ p i m<i+m->p (jZ p i m)=true):=by
 intro m
 induction m with
 | zero=>intro i;exact⟨YaY _,YaY _,fun t h1 h2=>absurd h2 (by show ¬t<i;omega),fun h=>absurd h (by show ¬i<i+0;omega)⟩
 | succ m ih=>
  intro i;unfold jZ
  by_cases h:p i=true
  . rw [if_pos h];exact⟨YaY _,#[0],fun t h1 h2=>absurd h2 #[0],fun _=>h⟩
  . rw [if_neg h]
    obtain⟨a1,a2,a3,a4⟩:=ih (i+1);refine⟨#[0],#[0],fun t h1 h2=>?_,fun hh=>a4 #[0]⟩
    by_cases e:t=i
    . subst e;simpa using h
    . exact a3 t #[0] h2
theorem zbg{n:Nat}(hn:1<=n)(p:Nat->Bool):1<=zQ n p/\zQ n p<=n/\(∀ t,1<=t->t<zQ n p->p t=false)/\(zQ n p<n->p (zQ n p)=true):=by
 obtain⟨a1,a2,a3,a4⟩:=zgh p (n - 1) 1;exact⟨a1,by unfold zQ;omega,a3,fun h=>a4 (by unfold zQ at h;omega)⟩
theorem zcZ{n:Nat}(hn:1<=n){p:Nat->Bool}{r:Nat}(h1:1<=r)(h2:r<=n)(h3:∀ t,1<=t->t<r->p t=false)(h4:r<n->p r=true):zQ n p=r:=by
 obtain⟨a1,a2,a3,a4⟩:=zbg hn p
 rcases Nat.lt_trichotomy (zQ n p) r with z|z|z
 . have:=h3 _ a1 z;rw [a4 #[0]] at this;cases this
 . exact z
 . have:=a3 _ h1 z;rw [h4 #[0]] at this;cases this
abbrev Win:=Int×Int×Int×Option Int
def dO:Option Int->D
 | none=>.none
 | some i=>.int i
theorem zfX(f:Bool)(o:Option Int):isNone (Cl.sh f (dO o))=o.isNone:=by cases o<;>rfl
def dW(w:Win):D:=.tuple [.int w.1,.int w.2.1,.int w.2.2.1,dO w.2.2.2]
def winP(n:Nat)(e l:Nat->Bool):Int×Option Int:=(zQ n e,if zQ n l=n then none else some (zQ n l:Nat))
def jT(n:Nat)(w:Int×Option Int):Prop:=w.1<n\/w.2≠none
def IsW(n:Nat)(k:Int)(W:Int->Int×Option Int):Int->List Win->Prop
 | j,[]=>¬jT n (W j)
 | j,w::r=>jT n (W j)/\w=(k,j,(W j).1,(W j).2)/\IsW n k W (j+1) r
theorem IsW.uniq{n:Nat}{k:Int}{W W':Int->Int×Option Int}:∀ {ws ws':List Win} {j:Int},(∀ i,j<=i->W i=W' i)->IsW n k W j ws->IsW n k W' j ws'->ws=ws'
 | [],[],_,_,_,_=>rfl
 | [], w :: r, j, e, h, h' => by
  have h1:¬jT n (W j):=h;have h2:=h'.1;rw [<-e j (Int.le_refl j)] at h2;exact absurd h2 h1
 | w :: r, [], j, e, h, h' => by
  have h1:¬jT n (W' j):=h';have h2:=h.1;rw [e j (Int.le_refl j)] at h2;exact absurd h2 h1
 | w :: r, w' :: r', j, e, h, h' => by
  have e1:=h.2.1;have e2:=h'.2.1;rw [<-e j (Int.le_refl j)] at e2;rw [e1,e2,IsW.uniq (fun i hi=>e i #[0]) h.2.2 h'.2.2]
theorem IsW.len{n:Nat}{k:Int}{W:Int->Int×Option Int}{M:Int}(hM:∀ i,jT n (W i)->i<=M):∀ {ws:List Win} {j:Int},IsW n k W j ws->j<=M+1->(ws.length:Int)<=M+1 - j
 | [],j,_,hj=>by simp;omega
 | w :: r, j, h, hj => by
  have h1:=hM j h.1;have:=IsW.len hM h.2.2 #[0]
  rw [List.length_cons];omega
def zI(q:List (List Int))(k:Nat):List Int:=q.map fun r=>r.getD k 0
def winB(b:Int)(path:List Int)(room:Int×Int)(j:Int):Int×Option Int:=winP path.length (fun t=>decide (j*b - room.2<=path.getD t 0)) (fun t=>decide ((j - 1)*b+room.1+1<=path.getD t 0))
theorem zjX{b:Int}{path:List Int}{room:Int×Int}{M:Int}(hb:0<b)(h1:1<=path.length)(hp:∀ t,path.getD t 0+room.2<=M*b)(hr:0<=room.2)(hr1:0<=room.1)(j:Int)(h:jT path.length (winB b path room j)):j<=M+1:=by
 have key:∀ x:Int,x*b<=M*b+b->x<=M+1:=fun x hx=>by
  have:x*b<=(M+1)*b:=by rw [Int.add_mul,Int.one_mul];exact hx
  exact Int.le_of_mul_le_mul_right this hb
 rcases h with h|h
 . obtain⟨_,_,_,a4⟩:=zbg h1 (fun t=>decide (j*b - room.2<=path.getD t 0))
   have := of_decide_eq_true (a4 (by have : ((zQ path.length fun t => decide (j * b - room.2 <= path.getD t 0) : Nat) : Int) < path.length := h
                                     omega))
   have h2:=hp (zQ path.length fun t=>decide (j*b - room.2<=path.getD t 0))
   exact key j #[0]
 . obtain⟨_,a2,_,a4⟩:=zbg h1 (fun t=>decide ((j - 1)*b+room.1+1<=path.getD t 0))
   have hne:zQ path.length (fun t=>decide ((j - 1)*b+room.1+1<=path.getD t 0))≠path.length:=fun z=>h (if_pos z)
   have:=of_decide_eq_true (a4 #[0])
   have h2:=hp (zQ path.length fun t=>decide ((j - 1)*b+room.1+1<=path.getD t 0))
   have h3:(j - 1)*b=j*b - b:=by rw [Int.sub_mul,Int.one_mul]
   exact key j #[0]
theorem IsW.mem{n:Nat}{k:Int}{W:Int->Int×Option Int}{w:Win}:∀ {ws:List Win} {j:Int},IsW n k W j ws->w∈ws->∃ i,j<=i/\w=(k,i,(W i).1,(W i).2)
 | [],j,_,hw=>by cases hw
 | v :: r, j, h, hw => by
  rcases WaB.mp hw with z|z
  . exact⟨j,Int.le_refl _,by rw [z];exact h.2.1⟩
  . obtain⟨i,a,b⟩:=IsW.mem h.2.2 z
    exact⟨i,#[0],b⟩
def tk(p:Nat->Bool)(t:Nat):List Nat:=(List.range t).filter p
theorem IsW.at{n:Nat}{k:Int}{W:Int->Int×Option Int}:∀ {ws:List Win} {j:Int} {i:Nat},IsW n k W j ws->i<ws.length->ws[i]?=some (k,j+i,(W (j+i)).1,(W (j+i)).2)
 | [],j,i,_,h=>by simp at h
 | v :: r, j, 0, h, _ => by
  rw [h.2.1];show some _=some _;rw [show j+((0:Nat):Int)=j by omega]
 | v :: r, j, i + 1, h, hi => by
  have:=IsW.at (i:=i) h.2.2 (by simpa using hi)
  rw [List.getElem?_cons_succ,this,show j+1+(i:Int)=j+((i+1:Nat):Int) by omega]
theorem zks(ns:List Int):Plain 1 (dI ns):=Plain.list fun d hd=>by
 obtain⟨i,_,rfl⟩:=Ya7.mp hd;exact Plain.int i
theorem zgY(s:Spell):Plain 2 (dS s):=Plain.tuple fun d hd=>by
 rcases WaB.mp hd with rfl|hd
 . exact(Plain.int _).mono #[1]
 . rw [Ya6.mp hd];exact zks _
theorem ze8(l:List Spell):Plain 3 (dSs l):=Plain.list fun d hd=>by
 obtain⟨s,_,rfl⟩:=Ya7.mp hd;exact zgY s
def lowQ(a b:Int):Rat2:=(a/(Int.gcd a b:Int),b/(Int.gcd a b:Int))
theorem zcF{a b:Int}(hb:0<b)(ha:Bits 1100 a)(hB:Bits 1100 b):okQ (lowQ a b):=by
 obtain⟨l1,_,_,_⟩:=zbz (a:=a) hb;exact⟨l1,(ha.le (Int.natAbs_ediv_le_natAbs _ _)).mono #[1],(hB.le (Int.natAbs_ediv_le_natAbs _ _)).mono #[1]⟩
theorem zj6{a b:Int}(hb:0<b)(h0:0<=a)(h1:a<=10*b):inQ (lowQ a b):=by
 obtain⟨l1,l2,l3,l4⟩:=zbz (a:=a) hb;have hg:=za6 (a:=a) hb;refine⟨Int.ediv_nonneg h0 #[0],?_⟩
 show a/(Int.gcd a b:Int)<=10*(b/(Int.gcd a b:Int))
 generalize (Int.gcd a b:Int)=g at *;generalize a/g=x at *;generalize b/g=y at *;refine Int.le_of_mul_le_mul_right (a:=g) ?_ hg;rw [Int.mul_assoc,l3,l4];exact h1
theorem divQ{i j:Int}(h:0<j:=by decide)(hb:j.natAbs<2 ^ 64:=by decide):jM i j:=⟨h,Bits.mono (j:=64) hb #[1]⟩
theorem zdL{α : Type}[DecidableEq α]:∀ {L M:List α},L.Nodup->(∀ x∈L,x∈M)->L.length<=M.length
 | [],_,_,_=>WaK _
 | a :: L, M, nd, h => by
  have ha:=h a YaV;have:=zdL (L:=L) (M:=M.erase a) (YaB.mp nd).2 fun x hx=>by
   have hne:x≠a:=fun e=>(YaB.mp nd).1 (e ▸ hx)
   exact(List.mem_erase_of_ne hne).mpr (h x (YaT _ hx))
  rw [List.length_erase_of_mem ha] at this;have h1:0<M.length:=List.length_pos_of_mem ha;rw [List.length_cons];omega
theorem zcL(r:Rat2):Plain 1 (dQ r):=Plain.tuple fun d hd=>by
 rcases WaB.mp hd with rfl|hd
 . exact Plain.int _
 . rw [Ya6.mp hd];exact Plain.int _
theorem zfL(p:Rat2×Rat2):Plain 2 (dP p):=Plain.tuple fun d hd=>by
 rcases WaB.mp hd with rfl|hd
 . exact zcL _
 . rw [Ya6.mp hd];exact zcL _
theorem zkL(l:List (Rat2×Rat2)):Plain 3 (dPs l):=Plain.list fun d hd=>by
 obtain⟨s,_,rfl⟩:=Ya7.mp hd;exact zfL s
theorem zbH{α : Type}(m:List α)(x:α)(at_:Int):x∈m.take at_.toNat++[x]++m.drop (at_+1).toNat:=by simp
theorem zd5{l:List Spell}{at_:Int}{Q:Bool->D->Prop}(hsz:∀ n:Nat,n<=1000->n<=sizeLine)(hat0:0<=at_)(hl:l.length<=8)(q:∀ f l',¬okS l'->l'.length<=100->Q f (dSs l')):∀ (m:List Spell) (x:Spell),m.length<=9->at_<m.length->¬okS (m.take at_.toNat++[x]++m.drop (at_+1).toNat)->(cut (m.map dS) none (some at_)).length+1<=sizeLine/\(cut (m.map dS) none (some at_)++[dS x]).length+(cut (m.map dS) (some (at_+1)) none).length<=sizeLine/\∀ f,Q f (PyData.list (cut (m.map dS) none (some at_)++[dS x]++cut (m.map dS) (some (at_+1)) none)):=fun m x hm9 hm hno=>by
 rw [jF,jF,zag m hat0 #[0],zaE m #[0] #[0]]
 refine⟨hsz _ #[6],hsz _ #[6],fun f=>?_⟩
 have:=q f _ hno #[6]
 simpa [dSs,Ya2] using this
theorem zkI{l:List Spell}{s:Spell}{at_:Int}(hok:okS l)(hat0:0<=at_)(hat1:at_<l.length)(hs:s.2.length=many l):∀ x:Spell,x.2.length≠s.2.length->2<=l.length->¬okS (l.take at_.toNat++[x]++l.drop (at_+1).toNat):=fun x hx h2=>by
 obtain⟨t,ht,hm⟩:∃ t,t∈l.take at_.toNat++[x]++l.drop (at_+1).toNat/\t∈l:=by
  by_cases z:at_=0
  . refine⟨l[1]'(by omega),?_,Ya4 _⟩
    subst z;refine Yaa _ ?_;rw [show((0:Int)+1).toNat=1 from rfl]
    exact List.mem_iff_getElem.mpr ⟨0,#[6],by simp⟩
  . refine⟨l[0]'(by omega),?_,Ya4 _⟩
    refine Yai _ (Yai _ ?_)
    exact List.mem_iff_getElem.mpr ⟨0,#[6],by simp⟩
 exact fun w=>hx ((w.2.1 x (zbH l x at_)).2.2.trans ((w.2.1 t ht).2.2.symm.trans ((hok.2.1 t hm).2.2.trans hs.symm)))
theorem zfi(ws:List Int):(ws.map fun _=>(0:Int)).sum=0:=by
 induction ws with
 | nil=>rfl
 | cons a r ih=>rw [Ya1,List.sum_cons,ih];rfl
theorem zf4{l:List Spell}{s:Spell}(hs:s∈l)(h:¬(1<=s.1/\okW s.2)):¬okS l:=fun z=>h ⟨(z.2.1 s hs).1,(z.2.1 s hs).2.1⟩
theorem zg3{K:Ybf}{CC:Addr}{i:Nat}{tx:TX3}{th:TS3}{A:Ends3}{ρ : Env3}(h:∀ E':Addr->Prop,(∀ C,(PySem.W.exmOne K (.ref C) (.ref CC)=some true/\th { nx:=fun ρ'=>A.nx (ρ'.set i none),rt:=A.rt,bk:=fun ρ'=>A.bk (ρ'.set i none),ct:=fun ρ'=>A.ct (ρ'.set i none) } (ρ.set i (some (.ex C))))->E' C)->tx A E' ρ):try3 K CC i tx th A ρ:=h _ fun _ z=>z
theorem z0(t:Tb)(k v k':Int):getM (putM t k v) k'=if k=k' then some v else getM t k':=by
 unfold putM
 split
 . rename_i h
   induction t with
   | nil=>cases h
   | cons p r ih=>
    unfold getM at ih ⊢;rw [Ya1,List.find?_cons,List.find?_cons]
    by_cases e:p.1=k
    . rw [if_pos e]
      by_cases e':k=k'
      . subst e'
        simp [e]
      . have e2:¬p.1=k':=fun z=>e' (e.symm.trans z)
        simp only [e2,decide_false]
        by_cases hr:(r.any fun p=>decide (p.1=k))=true
        . exact ih hr
        . rw [if_neg e']
          have hm:r.map (fun p=>if p.1=k then(p.1,v) else p)=r:=by
           refine(Yat fun p hp=>?_).trans (List.map_id r)
           have:¬p.1=k:=fun z=>hr (Wau.mpr ⟨p,hp,decide_eq_true z⟩)
           rw [if_neg this];rfl
          rw [hm]
    . rw [if_neg e]
      rw [List.any_cons,decide_eq_false e,WaE] at h
      by_cases e':p.1=k'
      . have e2:¬k=k':=fun z=>e (e'.trans z.symm)
        simp [e',e2]
      . simp only [e',decide_false]
        exact ih h
 . rename_i h
   unfold getM;rw [List.find?_append]
   by_cases e:k=k'
   . subst e
     have:t.find? (fun p=>decide (p.1=k))=none:=List.find?_eq_none.mpr fun p hp z=>h (Wau.mpr ⟨p,hp,z⟩)
     rw [this];simp
   . rw [if_neg e]
     have:([(k,v)]:Tb).find? (fun p=>decide (p.1=k'))=none:=by simp [e]
     rw [this,Option.or_none]
theorem zjB{t:Tb}{k v:Int}(h:getM t k=some v):(k,v)∈t:=by
 unfold getM at h;cases e:t.find? (fun p=>decide (p.1=k)) with
 | none=>rw [e] at h;cases h
 | some r=>
  rw [e] at h;have h1:=List.mem_of_find?_eq_some e;have h2:=List.find?_some e;have h3:r.1=k:=of_decide_eq_true h2;have h4:r.2=v:=Waz h;rw [<-h3,<-h4];exact h1
def InR(x:Int)(A:Nat):Prop:=0<=x/\x<(A:Int)
theorem ZK{L:List Int}{A:Nat}(nd:L.Nodup)(h:∀ x∈L,InR x A):L.length<=A:=by
 have:=zdL (M:=(List.range A).map fun i:Nat=>(i:Int)) nd fun x hx=>by
  obtain⟨h0,h1⟩:=h x hx;exact Ya7.mpr ⟨x.toNat,Yba.mpr #[0],#[0]⟩
 simpa using this
structure TbOk(t:Tb)(A B:Nat):Prop where
 nd:(t.map (·.1)).Nodup
 inn:∀ p∈t,InR p.1 A/\InR p.2 B
theorem TbOk.nil(A B:Nat):TbOk [] A B:=⟨List.nodup_nil,fun p h=>by cases h⟩
theorem TbOk.len{t:Tb}{A B:Nat}(h:TbOk t A B):t.length<=A:=by
 have:=ZK h.nd fun x hx=>by
  obtain⟨p,hp,rfl⟩:=Ya7.mp hx;exact(h.inn p hp).1
 simpa using this
theorem TbOk.get{t:Tb}{A B:Nat}(h:TbOk t A B){k v:Int}(e:getM t k=some v):InR k A/\InR v B:=h.inn _ (zjB e)
theorem zh3(t:Tb)(k v:Int):(putM t k v).map (·.1)=if k∈t.map (·.1) then t.map (·.1) else t.map (·.1)++[k]:=by
 have ha:((t.any fun p=>decide (p.1=k))=true)↔k∈t.map (·.1):=by
  rw [Wau,Ya7];exact⟨fun⟨p,h1,h2⟩=>⟨p,h1,of_decide_eq_true h2⟩,fun⟨p,h1,h2⟩=>⟨p,h1,decide_eq_true h2⟩⟩
 unfold putM
 by_cases h:k∈t.map (·.1)
 . rw [if_pos (ha.mpr h),if_pos h,YaD]
   refine Yat fun p _=>?_
   show(if p.1=k then(p.1,v) else p).1=p.1
   split<;>rfl
 . rw [if_neg (fun z=>h (ha.mp z)),if_neg h,Ya2];rfl
theorem TbOk.put{t:Tb}{A B:Nat}(h:TbOk t A B){k v:Int}(hk:InR k A)(hv:InR v B):TbOk (putM t k v) A B:=by
 refine⟨?_,fun p hp=>?_⟩
 . rw [zh3]
   split
   . exact h.nd
   . rename_i n
     exact Wan.mpr ⟨h.nd,by simp,fun a ha b hb z=>n (by rw [Ya6.mp hb] at z;rw [<-z];exact ha)⟩
 . unfold putM at hp
   split at hp
   . obtain⟨q,hq,rfl⟩:=Ya7.mp hp
     have:=h.inn q hq
     split
     . exact⟨this.1,hv⟩
     . exact this
   . rcases Ya3.mp hp with z|z
     . exact h.inn p z
     . rw [Ya6.mp z];exact⟨hk,hv⟩
theorem zkz{t:Tb}{k v:Int}(h:getM t k=none):(putM t k v).length=t.length+1:=by
 unfold putM;rw [if_neg,YaS]
 . rfl
 . intro z
   obtain⟨p,hp,e⟩:=Wau.mp z;have e:p.1=k:=of_decide_eq_true e;unfold getM at h;have:(t.find? fun p=>decide (p.1=k)).isSome=true:=List.find?_isSome.mpr ⟨p,hp,decide_eq_true e⟩
   cases y:t.find? (fun p=>decide (p.1=k)) with
   | none=>rw [y] at this;cases this
   | some r=>rw [y] at h;cases h
def Mat(t h:Tb):Prop:=∀ s c,getM t s=some c↔getM h c=some s
def MatB(t h:Tb)(c:Int):Prop:=(∀ s x,x≠c->(getM t s=some x↔getM h x=some s))/\∀ s,getM t s≠some c
theorem MatB.step{t h:Tb}{c s:Int}(m:MatB t h c):(getM t s=none->Mat (putM t s c) (putM h c s))/\∀ c',getM t s=some c'->MatB (putM t s c) (putM h c s) c':=by
 obtain⟨m1,m2⟩:=m
 constructor
 . intro e s' x
   rw [z0,z0]
   by_cases hx:c=x
   . subst hx
     rw [if_pos rfl]
     by_cases hs:s=s'
     . subst hs;rw [if_pos rfl];simp
     . rw [if_neg hs]
       exact⟨fun z=>absurd z (m2 s'),fun z=>absurd (Waz z) hs⟩
   . rw [if_neg hx]
     by_cases hs:s=s'
     . subst hs
       rw [if_pos rfl];refine⟨fun z=>absurd (Waz z) hx,fun z=>?_⟩
       have:=(m1 s x (WaL hx)).mpr z;rw [e] at this;cases this
     . rw [if_neg hs];exact m1 s' x (WaL hx)
 . intro c' e
   have hc:c'≠c:=fun z=>m2 s (z ▸ e)
   refine⟨fun s' x hx'=>?_,fun s' z=>?_⟩
   . rw [z0,z0]
     by_cases hx:c=x
     . subst hx
       rw [if_pos rfl]
       by_cases hs:s=s'
       . subst hs;rw [if_pos rfl];simp
       . rw [if_neg hs]
         exact⟨fun z=>absurd z (m2 s'),fun z=>absurd (Waz z) hs⟩
     . rw [if_neg hx]
       by_cases hs:s=s'
       . subst hs
         rw [if_pos rfl];refine⟨fun z=>absurd (Waz z) hx,fun z=>?_⟩
         have:=(m1 s x (WaL hx)).mpr z;rw [e] at this;exact absurd (Waz this).symm hx'
       . rw [if_neg hs];exact m1 s' x (WaL hx)
   . rw [z0] at z
     by_cases hs:s=s'
     . rw [if_pos hs] at z
       exact hc (Waz z).symm
     . rw [if_neg hs] at z
       have z1:=(m1 s' c' hc).mp z;rw [(m1 s c' hc).mp e] at z1;exact hs (Waz z1)
structure Way(ca t:Tb)(r:Int->Nat)(start:Int)(A B:Nat):Prop where
 inn:∀ c s,getM ca c=some s->InR s A/\InR c B
 back:∀ c s c',getM ca c=some s->getM t s=some c'->∃ s',getM ca c'=some s'/\r s'<r s
 first:∀ c s,getM ca c=some s->getM t s=none->s=start
structure Moved(t h t' h':Tb)(start:Int)(A B:Nat):Prop where
 mat:Mat t' h'
 ot:TbOk t' A B
 oh:TbOk h' B A
 dt:∀ s,(getM t' s).isSome=true↔(getM t s).isSome=true\/s=start
 dh:∀ c,(getM h c).isSome=true->(getM h' c).isSome=true
structure OnWay(ca t0 h0 t h:Tb)(r:Int->Nat)(c:Int)(A B m:Nat):Prop where
 mat:MatB t h c
 ot:TbOk t A B
 oh:TbOk h B A
 came:∃ s,getM ca c=some s/\r s=m
 same:∀ s,r s<=m->getM t s=getM t0 s
 dt:∀ s,(getM t s).isSome=true↔(getM t0 s).isSome=true
 dh:∀ c,(getM h0 c).isSome=true->(getM h c).isSome=true
theorem OnWay.step{ca t0 h0 t h:Tb}{r:Int->Nat}{c start:Int}{A B m:Nat}(w:Way ca t0 r start A B)(o:OnWay ca t0 h0 t h r c A B m){s:Int}(hs:getM ca c=some s):(getM t s=none->Moved t0 h0 (putM t s c) (putM h c s) start A B)/\∀ c',getM t s=some c'->∃ m',m'<m/\OnWay ca t0 h0 (putM t s c) (putM h c s) r c' A B m':=by
 obtain⟨i1,i2⟩:=w.inn c s hs;have hrm:r s=m:=by
  obtain⟨s',e,h⟩:=o.came;rw [hs] at e;rw [Waz e];exact h
 have ts:getM t s=getM t0 s:=o.same s #[0]
 have dh':∀ x,(getM h0 x).isSome=true->(getM (putM h c s) x).isSome=true:=fun x hx=>by
  rw [z0]
  split
  . rfl
  . exact o.dh x hx
 constructor
 . intro e
   have e0:s=start:=w.first c s hs (ts ▸ e);refine⟨(o.mat.step).1 e,o.ot.put i1 i2,o.oh.put i2 i1,fun x=>?_,dh'⟩
   rw [z0]
   by_cases hx:s=x
   . rw [if_pos hx];exact⟨fun _=>.inr (hx.symm.trans e0),fun _=>rfl⟩
   . rw [if_neg hx,o.dt x]
     exact⟨.inl,fun z=>z.elim id fun y=>absurd (e0.trans y.symm) hx⟩
 . intro c' e
   obtain⟨s',h1,h2⟩:=w.back c s c' hs (ts ▸ e);refine⟨r s',#[0],(o.mat.step).2 c' e,o.ot.put i1 i2,o.oh.put i2 i1,⟨s',h1,rfl⟩,fun x hx=>?_,fun x=>?_,dh'⟩
   . have:s≠x:=fun z=>by rw [<-z] at hx;omega
     rw [z0,if_neg this];exact o.same x #[0]
   . rw [z0]
     by_cases hx:s=x
     . rw [if_pos hx,<-hx,<-ts,e]
       exact⟨fun _=>rfl,fun _=>rfl⟩
     . rw [if_neg hx];exact o.dt x
structure Rea(start:Int)(t h ca:Tb)(R:List Int)(A B:Nat):Prop where
 nd:R.Nodup
 hd:R[0]?=some start
 inn:∀ x∈R,InR x A
 oc:TbOk ca B A
 len:R.length=ca.length+1
 from_:∀ c s,getM ca c=some s->s∈R
 by_:∀ (i:Nat) (x:Int),R[i]?=some x->i=0\/∃ c s,∃ j:Nat,getM t x=some c/\getM ca c=some s/\R[j]?=some s/\j<i
theorem Rea.start{start:Int}{t h:Tb}{A B:Nat}(hs:InR start A):Rea start t h [] [start] A B:=by
 refine⟨by simp,rfl,fun x hx=>by rw [Ya6.mp hx];exact hs,TbOk.nil B A,rfl,fun c s e=>(by cases e),fun i x e=>?_⟩
 cases i with
 | zero=>exact .inl rfl
 | succ i=>simp at e
theorem Rea.more{start:Int}{t h ca:Tb}{R:List Int}{A B:Nat}(r:Rea start t h ca R A B)(m:Mat t h)(h0:getM t start=none){c s x:Int}(hs:s∈R)(hc:InR c B)(hn:getM ca c=none)(hx:getM h c=some x)(oh:TbOk h B A):Rea start t h (putM ca c s) (R++[x]) A B:=by
 have tx:getM t x=some c:=(m x c).mpr hx;have ix:InR x A:=(oh.get hx).2;have keep:∀ d,d≠c->getM (putM ca c s) d=getM ca d:=fun d hd=>by rw [z0,if_neg (WaL hd)]
 have nx:x∉R:=fun z=>by
  obtain⟨i,hi,e⟩:=Yam z;have e:R[i]?=some x:=by rw [YaQ hi,e]
  rcases r.by_ i x e with y|⟨d,s',j,g1,g2,_⟩
  . subst y
    rw [r.hd] at e;rw [<-Waz e,h0] at tx;cases tx
  . rw [tx] at g1
    rw [<-Waz g1,hn] at g2;cases g2
 refine⟨Wan.mpr ⟨r.nd,by simp,fun a ha b hb z=>nx (by rw [Ya6.mp hb] at z;rw [<-z];exact ha)⟩,?_,fun y hy=>?_,r.oc.put hc (r.inn s hs),?_,fun d s' e=>?_,fun i y e=>?_⟩
 . rw [Yab (by have:=r.len;omega)];exact r.hd
 . rcases Ya3.mp hy with z|z
   . exact r.inn y z
   . rw [Ya6.mp z];exact ix
 . rw [zkz hn,YaS,r.len];rfl
 . rw [z0] at e
   split at e
   . exact Yai _ (by rw [<-Waz e];exact hs)
   . exact Yai _ (r.from_ d s' e)
 . by_cases hi:i<R.length
   . rw [Yab hi] at e
     rcases r.by_ i y e with z|⟨d,s',j,g1,g2,g3,g4⟩
     . exact .inl z
     . refine .inr ⟨d,s',j,g1,?_,?_,g4⟩
       . rw [keep d fun z=>by rw [z,hn] at g2;cases g2];exact g2
       . rw [Yab #[0]];exact g3
   . have hi':i=R.length:=by
      have:=(Ya8.mp e).1;rw [YaS,List.length_singleton] at this
      omega
     subst hi';rw [Yae (YaY _),Nat.sub_self] at e;have e:x=y:=Waz e;subst e;obtain⟨j,hj,ej⟩:=Yam hs;refine .inr ⟨c,s,j,tx,by rw [z0,if_pos rfl],?_,hj⟩
     rw [Yab hj,YaQ hj,ej]
theorem Rea.seen{start:Int}{t h ca:Tb}{R:List Int}{A B:Nat}(r:Rea start t h ca R A B)(h0:getM t start=none){c s:Int}(hs:s∈R)(hc:InR c B)(hn:getM ca c=none):Way (putM ca c s) t (fun x=>R.idxOf x) start A B:=by
 have inR:∀ d s',getM (putM ca c s) d=some s'->s'∈R/\InR d B:=fun d s' e=>by
  rw [z0] at e
  split at e
  . rename_i z
    rw [<-Waz e,<-z];exact⟨hs,hc⟩
  . exact⟨r.from_ d s' e,(r.oc.get e).1⟩
 have ix:∀ (i:Nat) x,R[i]?=some x->R.idxOf x=i:=fun i x e=>by
  obtain⟨hi,e⟩:=Ya8.mp e;rw [<-e];exact r.nd.idxOf_getElem i hi
 have at_:∀ x∈R,getM t x≠none->∃ d s' j,getM t x=some d/\getM ca d=some s'/\R[j]?=some s'/\j<R.idxOf x:=fun x hx hne=>by
  obtain⟨i,hi,e⟩:=Yam hx;have e:R[i]?=some x:=by rw [YaQ hi,e]
  rcases r.by_ i x e with y|⟨d,s',j,g1,g2,g3,g4⟩
  . subst y
    rw [r.hd] at e;rw [<-Waz e] at hne;exact absurd h0 hne
  . exact⟨d,s',j,g1,g2,g3,by rw [ix i x e];exact g4⟩
 refine⟨fun d s' e=>⟨r.inn s' (inR d s' e).1,(inR d s' e).2⟩,fun d s' c' e e'=>?_,fun d s' e e'=>?_⟩
 . obtain⟨d',s'',j,g1,g2,g3,g4⟩:=at_ s' (inR d s' e).1 (by rw [e'];simp)
   rw [e'] at g1;rw [<-Waz g1] at g2;refine⟨s'',?_,?_⟩
   . rw [z0,if_neg fun z=>by rw [<-z,hn] at g2;cases g2];exact g2
   . show R.idxOf s''<R.idxOf s'
     rw [ix j s'' g3];exact g4
 . rcases Classical.em (s'=start) with z|z
   . exact z
   . exfalso
     obtain⟨i,hi,ei⟩:=Yam (inR d s' e).1;have ei:R[i]?=some s':=by rw [YaQ hi,ei]
     rcases r.by_ i s' ei with y|⟨d',s'',j,g1,_⟩
     . subst y
       rw [r.hd] at ei;exact z (Waz ei).symm
     . rw [e'] at g1;cases g1
theorem Mat.free{t h:Tb}(m:Mat t h){c:Int}(e:getM h c=none):MatB t h c:=⟨fun s x _=>m s x,fun s z=>by rw [(m s c).mp z] at e;cases e⟩
theorem atI2{α : Type}{x y z:α}{xs:List α}:atI (x::y::z::xs) 2=some z:=jB (j:=2) rfl
theorem atI3{α : Type}{x y z w:α}{xs:List α}:atI (x::y::z::w::xs) 3=some w:=jB (j:=3) rfl
theorem hu65{A:Around}{k:Nat}(hr:Room k A):A.units+65<cLine:=by have:=hr.un;omega
abbrev Rule:=Str×Int×Int
def dRl(r:Rule):D:=.tuple [.str r.1,.int r.2.1,.int r.2.2]
def dRs(rs:List Rule):D:=.list (rs.map dRl)
def okRl(T n:Int)(r:Rule):Prop:=(r.1 = "fixed"\/r.1 = "barred")/\(1<=r.2.1/\r.2.1<=T)/\0<=r.2.2/\r.2.2<n
def okRs(T n:Int)(rs:List Rule):Prop:=∀ r∈rs,okRl T n r
def txtR(rs:List Rule):Prop:=∀ r∈rs,SeqAt.shaped (.str r.1)=true
theorem zbi{α : Type}{g:TG3}{tt:TT3}{te:TE3}{f:Bool}(enc out:α->D)(R:Env3->Prop):∀ (xs:List α),(∀ x∈xs,∀ ρ fa acc (K:Bool->List D->Env3->Prop),R ρ->(∀ ρ',R ρ'->K fa (acc++[out x]) ρ')->(∀ ρ',R ρ'->K fa acc ρ')->
 g f (enc x) ρ fun ρ'=>tt ρ' fun k=>if k=true then te ρ' fun c=>asS c fun fy y=>K (fa&&fy) (acc++[y]) ρ' else K fa acc ρ')->∀ fa acc ρ (Q:Bool->List D->Prop),R ρ->(∀ ys:List α,ys.Sublist xs->Q fa (acc++ys.map out))->jo g tt te f (xs.map enc) fa acc ρ Q
 | [], _, fa, acc, ρ, Q, _, q => by
  have:=q [] (List.Sublist.refl _);rw [WaI,Yao] at this;exact this
 | x :: xs, s, fa, acc, ρ, Q, hR, q => s x YaV ρ fa acc (fun fa acc ρ' => jo g tt te f (xs.map enc) fa acc ρ' Q) hR
  (fun ρ' hR'=>zbi enc out R xs (fun y hy=>s y (YaT _ hy)) fa (acc++[out x]) ρ' Q hR' fun ys hys=>by
   have:=q (x::ys) (hys.cons₂ x);rw [Yag];exact this)
  fun ρ' hR'=>zbi enc out R xs (fun y hy=>s y (YaT _ hy)) fa acc ρ' Q hR' fun ys hys=>q ys (hys.cons x)
theorem zhd{g:TG3}{f:Bool}{d:D}{ρ : Env3}{P:Env3->Prop}(h:∀ N:Env3->Prop,(∀ ρ',P ρ'->N ρ')->g f d ρ N):g f d ρ P:=h P fun _ z=>z
theorem Mat.symm{t h:Tb}(m:Mat t h):Mat h t:=fun s c=>(m c s).symm
theorem zfg{ds:List (List Key×D)}{k:List Key}{d:D}(h:(ds.all fun p=>zo p.2)=true)(hd:zo d=true):((putT ds k d).all fun p=>zo p.2)=true:=by
 rw [Wat] at h ⊢;intro p hp;unfold putT at hp
 split at hp
 . obtain⟨q,hq,rfl⟩:=Ya7.mp hp
   split
   . exact hd
   . exact h q hq
 . rcases Ya3.mp hp with z|z
   . exact h p z
   . rw [Ya6.mp z];exact hd
theorem zhT(ds:List (List Key×D))(k:List Key)(d:D):(putT ds k d).length<=ds.length+1:=by
 unfold putT
 split
 . rw [YaR];omega
 . rw [YaS];simp
theorem zi4:SeqAt.shaped (.tuple [.str "fixed", .str "barred"])=true:=#[3]
theorem zb5(x:Str):((([PyData.str "fixed", PyData.str "barred"]:List D).any fun y=>PyData.eqv y (.str x))=false)↔¬(x = "fixed"\/x = "barred"):=by
 have e:∀ a:Str,PyData.eqv (.str a) (.str x)=decide (x=a):=fun a=>by
  by_cases h:x=a
  . subst h;simp [PyData.eqv]
  . rw [decide_eq_false h]
    have:¬a=x:=fun z=>h z.symm
    simp [PyData.eqv,this]
 rw [List.any_cons,List.any_cons,List.any_nil,WaC,e,e]
 by_cases h1:x = "fixed"
 . simp [h1]
 . by_cases h2:x = "barred"
   . simp [h2]
   . simp [h1,h2]
theorem zdz(V:List Win):jl (V.map dW)=(List.range V.length).map fun i=>PyData.tuple [PyData.int (i:Nat),dW (V.getD i (0,0,0,none))]:=by
 unfold jl;rw [YaR];refine Yat fun i hi=>?_
 have hi:=Yba.mp hi;rw [YaP,Ya0,YaP,YaQ hi];rfl
theorem zht(ch:List (List Int)):jl (ch.map dI)=(List.range ch.length).map fun i=>PyData.tuple [PyData.int (i:Nat),dI (ch.getD i [])]:=by
 unfold jl;rw [YaR];refine Yat fun i hi=>?_
 have hi:=Yba.mp hi;rw [YaP,Ya0,YaP,YaQ hi];rfl
theorem zcz{α : Type}{L:List α}{i:Nat}{d:α}(h:i<L.length):L.getD i d∈L:=by
 rw [YaP,YaQ h];exact Ya4 _
theorem zaU{α : Type}{L:List α}{x:Int}{d:α}(h:InR x L.length):atI L x=some (L.getD x.toNat d)/\L.getD x.toNat d∈L:=by
 have hx:x.toNat<L.length:=by have:=h.1;have:=h.2;omega
 refine⟨?_,zcz hx⟩
 have:=jB (xs:=L) (j:=x.toNat) (YaQ hx);rw [show((x.toNat:Nat):Int)=x by have:=h.1;omega] at this
 rw [this,YaP,YaQ hx];rfl
theorem zbJ{c:TT3}{ρ : Env3}{P R:Prop}(h:∀ Y N:Prop,(P->Y)->(R->N)->c ρ fun k=>if k=true then Y else N):c ρ fun k=>if k=true then P else R:=h P R id id
theorem zcg{α : Type}{g:TG3}{tt:TT3}{te:TE3}{f:Bool}(enc:α->D)(R:Env3->Prop):∀ (xs:List α),(∀ x∈xs,∀ ρ fa acc (K:Bool->List D->Env3->Prop),R ρ->(∀ ρ' (v:Int),R ρ'->K fa (acc++[PyData.int v]) ρ')->
 g f (enc x) ρ fun ρ'=>tt ρ' fun k=>if k=true then te ρ' fun c=>asS c fun fy y=>K (fa&&fy) (acc++[y]) ρ' else K fa acc ρ')->∀ fa acc ρ (Q:Bool->List D->Prop),R ρ->(∀ vs:List Int,vs.length=xs.length->Q fa (acc++vs.map PyData.int))->jo g tt te f (xs.map enc) fa acc ρ Q
 | [], _, fa, acc, ρ, Q, _, q => by
  have:=q [] rfl;rw [WaI,Yao] at this;exact this
 | x :: xs, s, fa, acc, ρ, Q, hR, q => s x YaV ρ fa acc (fun fa acc ρ' => jo g tt te f (xs.map enc) fa acc ρ' Q) hR
  fun ρ' v hR'=>zcg enc R xs (fun y hy=>s y (YaT _ hy)) fa (acc++[PyData.int v]) ρ' Q hR' fun vs hvs=>by
   have:=q (v::vs) (by rw [List.length_cons,List.length_cons,hvs])
   rw [Yag];exact this
theorem q10:okQ (10,1):=⟨#[1],Bits.lit (x:=10) 1200,Bits.lit (x:=1) 1200⟩
theorem i10:inQ (10,1):=⟨#[1],#[1]⟩
theorem zcy:SeqAt.shaped (.str "fixed")=true:=#[3]
theorem zdw:SeqAt.shaped (.str "barred")=true:=#[3]
theorem ziy{rs:List Rule}(h:txtR rs):Plain 3 (.list (rs.map dRl)):=(Plain.list (n:=1) fun d hd=>by
 obtain⟨r,hr,rfl⟩:=Ya7.mp hd;refine Plain.tuple (n:=0) fun x hx=>?_
 rcases WaB.mp hx with rfl|hx
 . have:=h r hr
   unfold SeqAt.shaped at this;rw [Yak] at this;exact⟨this.1,by simp [PyData.depth]⟩
 . rcases WaB.mp hx with rfl|hx
   . exact Plain.int _
   . rw [Ya6.mp hx];exact Plain.int _).mono #[1]
theorem zkv{l:List Spell}(h:okS l):1<=tot l:=by
 obtain⟨⟨h1,_⟩,h2,_⟩:=h;cases l with
 | nil=>simp at h1
 | cons a r=>
  have:=zbn (fun t ht=>(h2 t ht).1) (YaV (a:=a) (l:=r))
  have:=(h2 a YaV).1
  omega
def dueD(i:Nat):List D:=[.bool (decide (0+(i:Int)=0)),.bool (decide (0+(i:Int)=1)),.bool (decide (0+(i:Int)=2)),.bool true,.bool false]
def Due(wr:Nat->Bool)(k:Nat)(due:List D):Prop:=(due=[]/\∀ i,i<k->wr i=false)\/∃ i,i<k/\wr i=true/\(∀ j,j<i->wr j=false)/\due=dueD i
theorem zgx(i:Nat):Plain 1 (.list (dueD i)):=Plain.list fun d hd=>by
 unfold dueD at hd;simp only [WaB,Wav,or_false] at hd
 rcases hd with rfl|rfl|rfl|rfl|rfl<;>exact Plain.bool _
theorem Due.shp{wr:Nat->Bool}{k:Nat}{due:List D}(h:Due wr k due):SeqAt.shaped (.list due)=true:=by
 rcases h with ⟨rfl,_⟩|⟨i,_,_,_,rfl⟩
 . decide +kernel
 . exact(zgx i).shaped #[1]
theorem Due.no{wr:Nat->Bool}{k:Nat}{due:List D}(h:Due wr k due)(hw:wr k=false):Due wr (k+1) due:=by
 rcases h with ⟨h1,h2⟩|⟨i,h1,h2⟩
 . exact .inl ⟨h1,fun i hi=>by
    by_cases e:i=k
    . rw [e];exact hw
    . exact h2 i #[0]⟩
 . exact .inr ⟨i,#[0],h2⟩
theorem Due.yes{wr:Nat->Bool}{k:Nat}{due:List D}(h:Due wr k due)(hw:wr k=true):(PyData.eqv (.list due) (.list [])=true->Due wr (k+1) (dueD k))/\(¬PyData.eqv (.list due) (.list [])=true->Due wr (k+1) due):=by
 rcases h with ⟨rfl,h2⟩|⟨i,h1,h2,h3,rfl⟩
 . refine⟨fun _=>.inr ⟨k,#[0],hw,h2,rfl⟩,fun z=>absurd #[3] z⟩
 . refine⟨fun z=>?_,fun _=>.inr ⟨i,#[0],h2,h3,rfl⟩⟩
   unfold dueD at z
   simp [PyData.eqv,PyData.eqvAll] at z
theorem zi8{ta tb:TE3}{ρ : Env3}{Q:L3.Cl->Prop}(h:∀ Y:Prop,(tb ρ Q->Y)->ta ρ fun c=>∃ k,c=.sh true (.bool k)/\if k=true then Y else Q (.sh true (.bool false))):Zs ta tb ρ Q:=h (tb ρ Q) id
theorem zj2{w0 w1 w2:Bool}{due:List D}{l l':List Spell}{bs bs':List (Rat2×Rat2)}{rs rs':List Rule}(h:Due (fun i=>[w0,w1,w2].getD i false) 3 due)(hok:okS l)(hB:okB (many l) bs)(hR:okRs (tot l) (many l) rs)
 (s1:w0=true->¬okS l') (s2:w0=false->l'=l) (b1:w1=true->¬okB (many l) bs') (b2:w1=false->bs'=bs) (r1:w2=true->¬okRs (tot l) (many l) rs') (r2:w2=false->rs'=rs) :
 (okS l'->okB (many l') bs'->okRs (tot l') (many l') rs'->due=[])/\(¬okS l'->due=[.bool true,.bool false,.bool false,.bool true,.bool false])/\(okS l'->¬okB (many l') bs'->due=[.bool false,.bool true,.bool false,.bool true,.bool false])/\(okS l'->okB (many l') bs'->¬okRs (tot l') (many l') rs'->due=[.bool false,.bool false,.bool true,.bool true,.bool false]):=by
 rcases h with ⟨rfl,h0⟩|⟨i,hi,h1,h2,rfl⟩
 . have e0:w0=false:=h0 0 #[1]
   have e1:w1=false:=h0 1 #[1]
   have e2:w2=false:=h0 2 #[1]
   rw [s2 e0,b2 e1,r2 e2];exact⟨fun _ _ _=>rfl,fun z=>absurd hok z,fun _ z=>absurd hB z,fun _ _ z=>absurd hR z⟩
 . match i,hi with
   | 0,_=>
    have e0:w0=true:=h1;have n:=s1 e0;exact⟨fun z=>absurd z n,fun _=>rfl,fun z=>absurd z n,fun z=>absurd z n⟩
   | 1,_=>
    have e0:w0=false:=h2 0 #[1]
    have n:=b1 h1;rw [s2 e0];exact⟨fun _ z=>absurd z n,fun z=>absurd hok z,fun _ _=>rfl,fun _ z=>absurd z n⟩
   | 2,_=>
    have e0:w0=false:=h2 0 #[1]
    have e1:w1=false:=h2 1 #[1]
    have n:=r1 h1;rw [s2 e0,b2 e1];exact⟨fun _ _ z=>absurd z n,fun z=>absurd hok z,fun _ z=>absurd hB z,fun _ _ _=>rfl⟩
theorem ziN{T n:Int}{rs:List Rule}{r:Rule}{i:Nat}(h:¬okRl T n r):¬okRs T n (rs.take i++[r]++rs.drop i):=fun z=>h (z r (by simp))
section
variable{P:Program}{w:World}{c:Law.Cl}{K:Ybf}{mg:Str->Option Value}{base:Heap}
def Zx:Sp3:=fun ds Q E=>∃ ns k,ds=[dI ns,.int k]/\0<=k/\∀ v:Int,Q true (.int v)
def Za:Sp3:=fun ds Q E=>∃ ns k,ds=[dI ns,.int k]/\0<=k/\k<=64/\∀ v:Int,0<=v->Q true (.int v)
def ZD:Sp3:=fun ds Q E=>∃ (cc:Int) (n:Nat),ds=[.int cc,.int n]/\1<=n/\n<=8/\∀ ws:List Int,okW ws->ws.length=n->Q true (dI ws)
def JP:Sp3:=fun ds Q E=>∃ (ns:List Int) (n:Nat),ds=[dI ns,.int n,.int 16]/\1<=n/\n<=8/\∀ l:List Spell,okS l->many l=n->Q true (dSs l)
def Zu:Sp3:=fun ds Q E=>∃ a b,ds=[.int a,.int b]/\0<b/\Bits 9000 b/\Q true (dR a b)
def ZE:Sp3:=fun ds Q E=>∃ (cc:Int) (n:Nat),ds=[.int cc,.int n]/\n<=8/\∀ l:List (Rat2×Rat2),okB n l->(∀ p∈l,okQ p.1/\okQ p.2)->Q true (dPs l)
def Zh:Sp3:=fun ds Q E=>∃ (xs:List Int) (T n:Int),ds=[dI xs,.int T,.int n]/\xs.length<=63/\1<=T/\T<=60/\1<=n/\n<=8/\∀ rs:List Rule,okRs T n rs->txtR rs->rs.length<=63->Q true (dRs rs)
def Zb:Sp3:=fun ds Q E=>∃ (ns:List Int) (m:Int),ds=[dI ns,.int m]/\ns.length<=63/\0<=m/\m<=63/\∀ xs:List Int,xs.length<=63->Q true (dI xs)
def Zn:Sp3:=fun ds Q E=>∃ l cc,ds=[dSs l,.int cc]/\okS l/\∀ f l',¬okS l'->l'.length<=100->Q f (dSs l')
def Zf:Sp3:=fun ds Q E=>∃ (l:List (Rat2×Rat2)) (cc:Int) (n:Nat),ds=[dPs l,.int cc]/\okB n l/\1<=n/\n<=8/\(∀ p∈l,okQ p.1/\okQ p.2)/\∀ f l',¬okB n l'->(∀ p∈l',okQ p.1/\okQ p.2)->l'.length<=100->Q f (dPs l')
def Zd:Sp3:=fun ds Q E=>∃ (rs:List Rule) (T n cc:Int),ds=[dRs rs,.int T,.int n,.int cc]/\rs.length<=63/\txtR rs/\1<=T/\T<=60/\1<=n/\n<=8/\∀ f rs',¬okRs T n rs'->txtR rs'->rs'.length<=100->Q f (dRs rs')
def Zz(c:Law.Cl):Sp3:=fun ds Q E=>∃ ws,ds=[dI ws]/\(okW ws->Q true .none)/\(¬okW ws->E c.NoSpell)
def JT:Sp3:=fun ds Q E=>∃ l,ds=[dSs l]/\l.length<=1000/\Q true (.int (tot l))
def JX(c:Law.Cl):Sp3:=fun ds Q E=>∃ l,ds=[dSs l]/\(okS l->Q true .none)/\(¬okS l->E c.NoSpell)
def Jt:Sp3:=fun ds Q _=>∃ a b,ds=[.int a,.int b]/\Q true (.int (Int.gcd a b))
def JC:Sp3:=fun ds Q E=>∃ ws,ds=[dI ws]/\Q true (.int (gcdL ws))
def JU:Sp3:=fun ds Q E=>∃ l,ds=[dSs l]/\okS l/\Q true (.int (bot l))
def Zl:Sp3:=fun ds Q E=>∃ b ws,ds=[.int b,dI ws]/\okW ws/\Bits 2000 b/\Q true (dI (shares b ws))
def Zw(c:Law.Cl):Sp3:=fun ds Q E=>∃ l,ds=[dSs l]/\(okS l->Q true (.tuple [.int (bot l),.list ((quo l).map dI)]))/\(¬okS l->E c.NoSpell)
def J3:Sp3:=fun ds Q E=>∃ (path:List Int) (w:Int),ds=[dI path,.int w]/\path.length<=61/\1<=path.length/\Q true (.int (zQ path.length fun t=>decide (w<=path.getD t 0)))
def JY:Sp3:=fun ds Q E=>∃ (b:Int) (path:List Int) (j:Int) (room:Int×Int),ds=[.int b,dI path,.int j,jm room]/\path.length<=61/\1<=path.length/\Bits 2000 b/\Bits 64 j/\Q true (.tuple [.int (winB b path room j).1,dO (winB b path room j).2])
def J9:Sp3:=fun ds Q E=>∃ (b:Int) (q:List (List Int)) (k:Nat) (room:Int×Int) (n:Nat),ds=[.tuple [.int b,.list (q.map dI)],.int k,jm room]/\0<b/\Bits 2000 b/\k<n/\q.length<=61/\1<=q.length/\(∀ r∈q,r.length=n)/\(∀ r∈q,r.getD k 0+room.2<=80*b)/\0<=room.1/\0<=room.2/\room.2<=80*b/\∀ ws,IsW q.length k (winB b (zI q k) room) 1 ws->ws.length<=200->Q true (.list (ws.map dW))
def Zi:Sp3:=fun ds Q E=>∃ (b:Int) (q:List (List Int)) (rooms:List (Int×Int)) (n:Nat),ds=[.tuple [.int b,.list (q.map dI)],.list (rooms.map jm)]/\0<b/\Bits 2000 b/\rooms.length=n/\n<=8/\q.length<=61/\1<=q.length/\(∀ r∈q,r.length=n)/\(∀ r∈q,∀ x∈r,x<=60*b)/\(∀ p∈rooms,0<=p.1/\0<=p.2/\p.2<=20*b)/\∀ W:List (List Win),W.length=n->(∀ k,k<n->IsW q.length k (winB b (zI q k) (rooms.getD k (0,0))) 1 (W.getD k []))->W.flatten.length<=2000->Q true (.list (W.flatten.map dW))
def Zo:Sp3:=fun ds Q E=>∃ (V:List Win) (ch:List (List Int)),ds=[.list (V.map dW),.list (ch.map dI)]/\V.length<=2000/\ch.length<=60/\(∀ row∈ch,row.length<=2000/\∀ x∈row,InR x V.length)/\∀ tv:List (List Int),tv.length=V.length->(∀ row∈tv,∀ x∈row,InR x ch.length)->Q true (.list (tv.map dI))
def Zp:SpC:=fun cs Q=>∃ (x:Int) (a1 a2 a3:Addr) (ca t h:Tb) (r:Int->Nat) (start:Int) (A B m:Nat),cs=[.sh true (.int x),.dm a1 ca,.dm a2 t,.dm a3 h]/\Way ca t r start A B/\OnWay ca t h t h r x A B m/\A<=2000/\B<=2000/\∀ t' h',Moved t h t' h' start A B->Q (.sh true .none) [ca,t',h']
def J4:SpC:=fun cs Q=>∃ (start:Int) (ch:List (List Int)) (a2 a3:Addr) (t h:Tb) (A B:Nat),cs=[.sh true (.int start),.sh false (.list (ch.map dI)),.dm a2 t,.dm a3 h]/\ch.length=A/\A<=2000/\B<=2000/\(A<=62\/B<=62)/\InR start A/\(∀ row∈ch,∀ x∈row,InR x B)/\Mat t h/\TbOk t A B/\TbOk h B A/\getM t start=none/\(∀ t' h',Moved t h t' h' start A B->Q (.sh true (.list [])) [t',h'])/\∀ rs:List Int,rs≠[]->rs.length<64->(∀ x∈rs,InR x A)->Q (.sh true (dI rs)) [t,h]
def Zq:Sp3:=fun ds Q E=>∃ (V:List Win) (ch:List (List Int)),ds=[.list (V.map dW),.list (ch.map dI)]/\V.length<=2000/\ch.length<=60/\(∀ row∈ch,row.length<=2000/\∀ x∈row,InR x V.length)/\∀ d,Q true d
def Zy:Sp3:=fun ds Q E=>∃ a b:Rat2,ds=[dQ a,dQ b]/\okQ a/\okQ b/\Q true (.bool (decide (a.1*b.2<b.1*a.2)))
def JV(c:Law.Cl):Sp3:=fun ds Q E=>∃ (l:List (Rat2×Rat2)) (n:Nat),ds=[dPs l,.int n]/\(∀ p∈l,okQ p.1/\okQ p.2)/\(okB n l->Q true .none)/\(¬okB n l->E c.NoBounds)
def Zt:Sp3:=fun ds Q E=>∃ (b:Int) (r:Rat2),ds=[.int b,dQ r]/\Bits 2000 b/\okQ r/\Q true (.int (Z8 b r))
def Zv(c:Law.Cl):Sp3:=fun ds Q E=>∃ (b:Int) (q:List (List Int)) (l:List (Rat2×Rat2)) (n:Nat),ds=[.tuple [.int b,.list (q.map dI)],dPs l]/\Bits 2000 b/\1<=q.length/\(∀ r∈q,r.length=n)/\n<=8/\l.length<=1000/\(∀ p∈l,okQ p.1/\okQ p.2)/\(okB n l->Q true (.list ((J0 b l).map jm)))/\(¬okB n l->E c.NoBounds)
def Zr(c:Law.Cl):Sp3:=fun ds Q E=>∃ t T:Int,ds=[.int t,.int T]/\(1<=t/\t<=T->Q true .none)/\(¬(1<=t/\t<=T)->E c.NoRule)
def JQ(c:Law.Cl):Sp3:=fun ds Q E=>∃ (rs:List Rule) (T n:Int),ds=[dRs rs,.int T,.int n]/\txtR rs/\(okRs T n rs->Q true .none)/\(¬okRs T n rs->E c.NoRule)
def JW:SpC:=fun cs Q=>∃ (rs:List Rule) (n:Nat),cs=[.sh false (dRs rs),.sh true (.int n)]/\n<=8/\rs.length<=1000/\∀ ds,(ds.all fun p=>zo p.2)=true->Q (.dt ds) []
def Zm:SpC:=fun cs Q=>∃ (v:Win) (t:Int) (ds:List (List Key×D)),cs=[.sh false (dW v),.sh true (.int t),.fd ds]/\(ds.all fun p=>zo p.2)=true/\∀ b,Q (.sh true (.bool b)) []
def JS(c:Law.Cl):Sp3:=fun ds Q E=>∃ (b:Int) (q:List (List Int)) (V:List Win) (rs:List Rule) (n T:Nat),ds=[.tuple [.int b,.list (q.map dI)],.list (V.map dW),dRs rs]/\q.length=T+1/\T<=60/\(∀ r∈q,r.length=n)/\n<=8/\V.length<=2000/\rs.length<=1000/\txtR rs/\(okRs T n rs->∀ ch:List (List Int),ch.length=T->(∀ row∈ch,row.length<=2000/\∀ x∈row,InR x V.length)->Q true (.list (ch.map dI)))/\(¬okRs T n rs->E c.NoRule)
def J7(c:Law.Cl):Sp3:=fun ds Q E=>∃ (l:List Spell) (bs:List (Rat2×Rat2)) (rs:List Rule),ds=[dSs l,dPs bs,dRs rs]/\bs.length<=1000/\(∀ p∈bs,okQ p.1/\okQ p.2)/\rs.length<=1000/\txtR rs/\(okS l->okB (many l) bs->okRs (tot l) (many l) rs->∀ d,Q true d)/\(¬okS l->E c.NoSpell)/\(okS l->¬okB (many l) bs->E c.NoBounds)/\(okS l->okB (many l) bs->¬okRs (tot l) (many l) rs->E c.NoRule)
def ZG:Sp3:=fun ds Q E=>∃ (l:List Spell) (bs:List (Rat2×Rat2)) (rs:List Rule),ds=[dSs l,dPs bs,dRs rs]/\l.length<=1000/\bs.length<=1000/\(∀ p∈bs,okQ p.1/\okQ p.2)/\rs.length<=1000/\txtR rs/\(okS l->okB (many l) bs->okRs (tot l) (many l) rs->Q true (.list []))/\(¬okS l->Q true (.list [.bool true,.bool false,.bool false,.bool true,.bool false]))/\(okS l->¬okB (many l) bs->Q true (.list [.bool false,.bool true,.bool false,.bool true,.bool false]))/\(okS l->okB (many l) bs->¬okRs (tot l) (many l) rs->Q true (.list [.bool false,.bool false,.bool true,.bool true,.bool false]))
def JK:Sp3:=fun ds Q E=>∃ ns,ds=[dI ns]/\ns.length<=63/\Q true (.bool true)
section
variable(c:Law.Cl)(P:Program)(w:World)(K:Ybf)(mg:Str->Option Value)(base:Heap)
abbrev dd_law_cell_at:=Df3 P w K mg base 1 "_law_cell_at" ["_law_script", "_law_k"] Zx
abbrev dd_law_drawn_at:=Df3 P w K mg base 2 "_law_drawn_at" ["_law_script", "_law_k"] Za
abbrev dd_law_weights:=Df3 P w K mg base 1 "_law_weights" ["_law_cell", "_law_clans"] ZD
abbrev dd_law_spells:=Df3 P w K mg base 3 "_law_spells" ["_law_script", "_law_clans", "_law_most"] JP
abbrev dd_law_ratio:=Df3 P w K mg base 1 "_law_ratio" ["_law_top", "_law_bottom"] Zu
abbrev dd_law_bounds:=Df3 P w K mg base 2 "_law_bounds" ["_law_cell", "_law_clans"] ZE
abbrev dd_law_rules:=Df3 P w K mg base 1 "_law_rules" ["_law_cells_here", "_law_turns", "_law_clans"] Zh
abbrev dd_law_cells:=Df3 P w K mg base 3 "_law_cells" ["_law_script", "_law_most"] Zb
abbrev dd_law_bad_spells:=Df3 P w K mg base 1 "_law_bad_spells" ["_law_spells_here", "_law_cell"] Zn
abbrev dd_law_bad_bounds:=Df3 P w K mg base 2 "_law_bad_bounds" ["_law_bounds_here", "_law_cell"] Zf
abbrev dd_law_bad_rule:=Df3 P w K mg base 1 "_law_bad_rule" ["_law_rules_here", "_law_turns", "_law_clans", "_law_cell"] Zd
abbrev dd_check_weights:=Df3 P w K mg base 1 "check_weights" ["weights"] (Zz c)
abbrev dd_all_turns:=Df3 P w K mg base 1 "all_turns" ["spells"] JT
abbrev dd_check_spells:=Df3 P w K mg base 2 "check_spells" ["spells"] (JX c)
abbrev dd_common_divisor:=Df3 P w K mg base 1 "common_divisor" ["one", "other"] Jt
abbrev dd_divisor_of_all:=Df3 P w K mg base 2 "divisor_of_all" ["weights"] JC
abbrev dd_least_bottom:=Df3 P w K mg base 3 "least_bottom" ["spells"] JU
abbrev dd_shares_over:=Df3 P w K mg base 1 "shares_over" ["bottom", "weights"] Zl
abbrev dd_quotas:=Df3 P w K mg base 4 "quotas" ["spells"] (Zw c)
abbrev dd_first_turn:=Df3 P w K mg base 1 "first_turn" ["path", "wanted"] J3
abbrev dd_window_of:=Df3 P w K mg base 2 "window_of" ["bottom", "path", "j", "room"] JY
abbrev dd_windows_of_clan:=Df3 P w K mg base 3 "windows_of_clan" ["told", "clan", "room"] J9
abbrev dd_windows_within:=Df3 P w K mg base 4 "windows_within" ["told", "rooms"] Zi
abbrev dd_choices_of_visits:=Df3 P w K mg base 1 "choices_of_visits" ["visits", "choices"] Zo
abbrev dd_move_along:=DfC P w K mg base 1 "move_along" ["choice", "came", "taken", "holders"] Zp
abbrev dd_settle:=DfC P w K mg base 2 "settle" ["start", "choices", "taken", "holders"] J4
abbrev dd_place_visits:=Df3 P w K mg base 3 "place_visits" ["visits", "choices"] Zq
abbrev dd_less:=Df3 P w K mg base 1 "less" ["one", "other"] Zy
abbrev dd_check_bounds:=Df3 P w K mg base 2 "check_bounds" ["bounds", "clans"] (JV c)
abbrev dd_room_at_most:=Df3 P w K mg base 1 "room_at_most" ["bottom", "bound"] Zt
abbrev dd_rooms_of:=Df3 P w K mg base 3 "rooms_of" ["told", "bounds"] (Zv c)
abbrev dd_check_turn:=Df3 P w K mg base 1 "check_turn" ["turn", "turns"] (Zr c)
abbrev dd_check_rules:=Df3 P w K mg base 2 "check_rules" ["rules", "turns", "clans"] (JQ c)
abbrev dd_forbidden:=DfC P w K mg base 1 "forbidden" ["rules", "clans"] JW
abbrev dd_may_come:=DfC P w K mg base 1 "may_come" ["visit", "turn", "barred"] Zm
abbrev dd_choices_of_turns:=Df3 P w K mg base 3 "choices_of_turns" ["told", "visits", "rules"] (JS c)
abbrev dd_placed:=Df3 P w K mg base 5 "placed" ["spells", "bounds", "rules"] (J7 c)
abbrev dd_law_kinds:=Df3 P w K mg base 6 "_law_kinds" ["_law_spells_here", "_law_bounds_here", "_law_rules_here"] ZG
end
local macro_rules | `(tactic| walk_at $w:str)=>do
 let ws:=w.getString.splitOn " "
 if ws.head? == some "o" then return (<-`(tactic| first|exact Or.inl rfl|exact Or.inr rfl|exact Or.inr (Or.inl rfl)|exact Or.inr (Or.inr rfl)))
 unless ws.head? == some "rd" do Lean.Macro.throwUnsupported
 let ds <-("seq3,next3,set3,own3,ret3,ifS3,tt3,o3,v3,atV,asS,asB,asD,optP,asT,asLd,asL,atO,ZF,nilP,asId,asI,k3,nw3,add3,int3,int0,eq3,ne3,eqOk,eqv3,notN3,isNone,ix3,ixD,j0,nil3,zar,cb3,len3,lenD,abs3,min23,sum3,and3,or3,not3,Zs,orV3,ch3,tup3,lst3,ZO,catN,slL3,no3,zal,zaf,asg3,gn3,ZT,zap,gnil3,app3,put3,frzS,frz,frz1,for3,itL,itT,itZ,rg1,rg2,Jg,true3,cst3,Z3,try3,ZV,isxr,isxy,isxt,jw,shs,Cl.d,Cl.dat,Cl.f,zaW,zo,Option.map_some,Option.map_none,Option.isSome_some,Option.isSome_none,Option.join_some,Option.join_none,List.all_cons,List.all_nil,WaD,WaE,Bool.true_or,Ya1,WaI,List.length_cons,List.length_nil,Nat.reduceAdd,Nat.reduceSub,List.replicate,List.cons_append,List.nil_append,List.getElem?_cons_zero,List.getElem?_cons_succ,List.set_cons_zero,List.set_cons_succ,Bool.not_true,Bool.not_false,par3,aug3,ext3,itE,k3f,ZW,app2,Z4,ZN,repN,frzD,dms,z7,argC,Jd,jz,finM,holds,updM,Ze,ZY,ZH,Z1,zab,zan,ZR,zad,zae,Z6,zaj,srtL,ninT3,ZI,Zx,Za,ZD,JP,Zu,ZE,Zh,Zb,Zn,Zf,Zd,Zz,JT,JX,Jt,JC,JU,Zl,Zw,J3,JY,J9,Zi,Zo,Zp,J4,Zq,Zy,JV,Zt,Zv,Zr,JQ,JW,Zm,JS,J7,ZG,JK,dSs,dS,dI,zo,dQ,dP,dPs,jm,dW,dRs,dRl".splitOn ",").toArray.mapM fun s=>`(Lean.Parser.Tactic.simpLemma| $(Lean.mkIdent s.toName):term)
 let rs <-(("WaG,WaF,WaC,WaJ,Nat.sub_self,Yao,Wam,Cl.sh.injEq,Cl.ow.injEq,Cl.ex.injEq,Waw,Wao,Wax,Wap,Wai,List.cons.injEq,reduceCtorEq,and_assoc,and_true,true_and,and_self,exists_eq_left,exists_eq_left',exists_eq',exists_eq_right,exists_eq_right',exists_and_left,exists_const,exists_false,false_and,and_false,or_false,false_or,or_true,true_or,decide_true,decide_false,decide_eq_true_eq,Wah,Waj,if_true,if_false,ite_true,ite_false,Wal,decide_eq_false_iff_not,eq_self_iff_true,not_true_eq_false,not_false_eq_true,sz0,sz1,sz2,sz3,sz4,sz5,Cl.tr.injEq,Cl.dt.injEq,Cl.fd.injEq,Cl.dm.injEq,atI0,atI1,atI2,atI3".splitOn ",")++ws.tail).toArray.mapM fun s=>`(Lean.Parser.Tactic.simpLemma| $(Lean.mkIdent s.toName):term)
 let ls:=ds++rs
 `(tactic| ((try dsimp only [$ds:simpLemma,*]);try simp (config:={ maxSteps:=2000000 }) only [$ls:simpLemma,*]))
theorem zjJ:FnScope ["_law_script", "_law_k"] ["_law_script", "_law_k"] (ze Jo):=⟨rfl,rfl,rfl,#[3],rfl,#[3],#[3]⟩
theorem zjO(T:Txt c K mg){f:Addr}{fd:FuncData}(F:Fun K "_law_cell_at" "_law_cell_at" Jo f fd):FnOk P w K mg base (CXR P w) 1 f fd ["_law_script", "_law_k"] (spL K Zx):=by
 have S:=zjJ;refine fn3 F S (fun ds Q E h=>?_) (fun cdv A outer s H E E3 hE hr=>?_)
 . obtain⟨_,_,rfl,_⟩:=h;rfl
 refine⟨_,(zc (s_if (zk jC (n3 1) (zB zL rfl T.n_len zO (za (n3 0) zb)) (nomark _)) (zd (zr (at3 (n3 0) (n3 1) #[4]))) zj)
  (zd (zr i3))),fun ds Q h=>?_⟩
 obtain⟨ns,k,rfl,hk,q⟩:=h
 walk_at "rd"
 rw [YaR]
 by_cases h:k<ns.length
 . rw [if_pos h]
   obtain⟨x,h1,_⟩:=j7 (xs:=ns) hk h;exact⟨.int x,by rw [jO,h1];rfl,q _⟩
 . rw [if_neg h]
   exact q _
theorem zkd(T:Txt c K mg) : dd_law_cell_at P w K mg base:=by
 obtain⟨f,fd,F,hm⟩:=T.d_law_cell_at;have hb:=F.binds (ps:=["_law_script", "_law_k"]) fun _ _ _ _ _ _ us hl=>by obtain⟨_,_,rfl⟩:=zR hl;rfl
 refine⟨fun ds Q Q' E E' hQ hE h=>?_,⟨f,fd,zjO T F,hb,F.kp,hm⟩⟩
 obtain⟨a,b,e,z,h⟩:=h;exact⟨a,b,e,z,fun v=>hQ _ _ (h v)⟩
theorem zeF:FnScope ["_law_script", "_law_k", "_law_cell", "_law_place"] ["_law_script", "_law_k"] (ze Ja):=⟨rfl,rfl,rfl,#[3],rfl,#[3],#[3]⟩
theorem zhH(T:Txt c K mg)(zlb:#[8,dd_law_cell_at]){f:Addr}{fd:FuncData}(F:Fun K "_law_drawn_at" "_law_drawn_at" Ja f fd):FnOk P w K mg base (CXR P w) 2 f fd ["_law_script", "_law_k"] (spL K Za):=by
 have S:=zeF;refine fn3 F S (fun ds Q E h=>?_) (fun cdv A outer s H E E3 hE hr=>?_)
 . obtain⟨_,_,rfl,_⟩:=h;rfl
 refine⟨_,(zc (zf (i:=2) S.nd rfl #[2] (op3 zl (df3 hE zlb (hr.mono #[1]) rfl zm (za (n3 0) (za (n3 1) zb))) (op3 jp i3 i3)))
  (zc (s_if (zk jC (n3 2) (op3 jp i3 i3) (nomark _)) (zc (zf (i:=3) S.nd rfl #[2] (op3 zz (n3 1) (op3 z6 i3 (op3 zl (df3 hE zlb (hr.mono #[1]) rfl zm (za (n3 0) (za i3 zb))) i3))))
   (zc (zf (i:=2) S.nd rfl #[2] (op3 zl (op3 z6 (op3 zz (n3 2) (op3 z6 i3 (op3 zz (n3 3) i3))) i3) (op3 jp i3 i3)))
   (zd (zf (i:=2) S.nd rfl #[2] (op3 zl (op3 zE (op3 z6 (n3 2) (n3 2)) (op3 jp i3 i3)) (op3 jp i3 i3)))))) zj)
  (zd (zr (n3 2))))),fun ds Q h=>?_⟩
 obtain⟨ns,k,rfl,h0,h64,q⟩:=h
 walk_at "rd"
 have cp:∀ n:Int,0<=n->n<=100->Je 10 n:=fun n h h'=>powB (k:=4) (by unfold Bits;decide) h #[0]
 refine⟨ns,rfl,h0,fun v=>⟨c64,#[1],cp 12 #[1] #[1],?_⟩⟩
 have hv:=Ybc v (show(10:Int) ^ Int.toNat 64≠0 by decide)
 have b1:Bits 256 (v%10 ^ Int.toNat 64):=Bits.emod (by unfold Bits;decide) #[1] _
 generalize v%10 ^ Int.toNat 64=y at hv b1 ⊢;refine ite2 (fun _=>⟨ns,rfl,#[1],fun u=>?_⟩) fun _=>q _ hv
 have hu:0<=u%64/\u%64<64:=#[0]
 generalize u%64=m at hu ⊢;have hk:Bits 64 (k+64*m+1):=by unfold Bits;omega
 have b2:=((Bits.lit (x:=1442695040888963407) 64).mul hk).mono (show 64+64<=256 by decide)
 have b3:=b1.add b2;have hm:=(Bits.lit (x:=1442695040888963407) 64).mulOk hk #[1]
 have hl:=(Bits.lit (x:=64) 64).mulOk (Bits.lit (x:=m) 64 #[0]) #[1]
 generalize y+1442695040888963407*(k+64*m+1)=z at b3 ⊢;have hz:=Ybc (z*6364136223846793005) (show(10:Int) ^ Int.toNat 37≠0 by decide)
 have b4:Bits 130 (z*6364136223846793005%10 ^ Int.toNat 37):=Bits.emod (by unfold Bits;decide) #[1] _
 have hm2:=b3.mulOk (Bits.lit (x:=6364136223846793005) 64) #[1]
 generalize z*6364136223846793005%10 ^ Int.toNat 37=x at hz b4 ⊢;exact⟨#[1],hl,hm,hm2,cp 37 #[1] #[1],#[1],b4.mulOk b4 #[1],cp 17 #[1] #[1],divQ,cp 56 #[1] #[1],#[1],q _ (Ybc _ #[1])⟩
theorem zjF(T:Txt c K mg)(zlb:#[8,dd_law_cell_at]):dd_law_drawn_at P w K mg base:=by
 obtain⟨f,fd,F,hm⟩:=T.d_law_drawn_at;have hb:=F.binds (ps:=["_law_script", "_law_k"]) fun _ _ _ _ _ _ us hl=>by obtain⟨_,_,rfl⟩:=zR hl;rfl
 refine⟨fun ds Q Q' E E' hQ hE h=>?_,⟨f,fd,zhH T zlb F,hb,F.kp,hm⟩⟩
 obtain⟨a,b,e,z,y,h⟩:=h;exact⟨a,b,e,z,y,fun v x=>hQ _ _ (h v x)⟩
theorem zgn:FnScope ["_law_cell", "_law_clans", "_law_most", "_law_rest", "_law_weights_here", "_law_clan"] ["_law_cell", "_law_clans"] (ze JE):=⟨rfl,rfl,rfl,#[3],rfl,#[3],#[3]⟩
theorem zjY(T:Txt c K mg){f:Addr}{fd:FuncData}(F:Fun K "_law_weights" "_law_weights" JE f fd):FnOk P w K mg base (CXR P w) 1 f fd ["_law_cell", "_law_clans"] (spL K ZD):=by
 have S:=zgn;refine fn3 F S (fun ds Q E h=>?_) (fun cdv A outer s H E E3 hE hr=>?_)
 . obtain⟨_,_,rfl,_⟩:=h;rfl
 refine⟨_,(zc (zf (i:=2) S.nd rfl #[2] (at3 (new3 (zA (za i3 (za i3 (za i3 (za (op3 jp i3 i3) zb)))))) (op3 zl (n3 0) i3) #[4]))
  (zc (zf (i:=3) S.nd rfl #[2] (op3 zE (n3 0) i3))
  (zc (jk (i:=4) S.nd rfl #[2] (zA zb))
  (zc (zM Waq rfl (jH rfl T.n_range (za (n3 1) zb)) (zi (i:=5) S.nd rfl #[2]) (zc (jK (i:=4) rfl #[2] (op3 zl (n3 3) (n3 2)))
   (zd (zf (i:=3) S.nd rfl #[2] (op3 zE (n3 3) (n3 2))))))
  (zc (s_if (zk (zw hr.units) (zB (JR rfl) rfl T.n_sum Zk (za (n3 4) zb)) i3 (nomark _)) (zd (zaH (i:=4) rfl #[2] (op3 zl (op3 zE (n3 0) i3) (n3 1)) (op3 zz i3 (op3 zl (op3 zE (n3 0) i3) i3)))) zj)
  (zd (jv [4] (zr (n3 4))))))))),fun ds Q h=>?_⟩
 obtain⟨cc,n,rfl,h1,h8,q⟩:=h;have c6:Je 10 6:=powB (k:=4) (by unfold Bits;decide) #[1] #[1]
 refine zg fun N hN=>?_
 walk_at "rd"
 obtain⟨d,hd,hm,_⟩:=j7 (xs:=[PyData.int 2,PyData.int 4,PyData.int 13,PyData.int (10 ^ Int.toNat 6)]) (i:=cc%4) #[0] (by show cc%4<4;omega)
 obtain⟨mo,rfl,hs2,hs30⟩:∃ z,d=PyData.int z/\2<=z/\z<=10 ^ 6:=by
  simp only [WaB,Wav,or_false] at hm
  rcases hm with rfl|rfl|rfl|rfl<;>exact⟨_,rfl,#[1],#[1]⟩
 refine⟨c6,#[1],_,hd,hN _ ?_⟩
 clear hN N hd hm;have hsb:∀ z:Int,jM z mo:=fun z=>⟨#[0],Bits.lit (x:=mo) 9000 #[0]⟩
 refine zg fun N hN=>?_
 walk_at "rd"
 refine⟨divQ,hN _ ?_⟩
 clear hN N;refine zg fun N hN=>?_
 walk_at "rd"
 refine hN _ ?_
 clear hN N;refine zH (fun ρ'=>∃ (ws:List Int) (r:Int) (t5:Option L3.Cl),ρ'=[#[5,cc],#[5,n],#[5,mo],#[5,r],some (.ow true (ws.map .int)),t5]/\ws.length=n/\∀ w∈ws,0<=w/\w<10 ^ 6) (fun N hN=>?_) ?_
 . walk_at "rd"
   refine⟨#[0],#[0],?_⟩
   rw [Int.toNat_natCast];refine jE (fun j ρ=>∃ (ws:List Int) (r:Int) (t5:Option L3.Cl),ρ = [#[5,cc],#[5,n],#[5,mo],#[5,r],some (.ow true (ws.map .int)),t5]/\ws.length=j/\∀ w∈ws,0<=w/\w<10 ^ 6) ?_ ?_ ⟨[],_,none,rfl,rfl,fun _ h=>by cases h⟩
   . rintro j ρ hj ⟨ws,r,t5,rfl,hl,hw⟩ W hW
     walk_at "rd YaR"
     refine⟨#[0],YaU (show _<1000000 by omega) #[1],hsb _,hW _ ⟨ws++[r%mo],_,_,by rw [Ya2];rfl,by simp [hl],fun w hw'=>?_⟩⟩
     rcases Ya3.mp hw' with z|z
     . exact hw w z
     . rw [Ya6.mp z]
       have:=Ybc r (show mo≠0 by omega)
       have:=Ybd r (show 0<mo by omega)
       omega
   . rintro ρ ⟨ws,r,t5,rfl,hl,hw⟩
     exact hN _ ⟨_,_,_,rfl,hl,hw⟩
 rintro ρ ⟨ws,r,t5,rfl,hl,hw⟩
 refine zH (fun ρ'=>∃ (ws:List Int) (r:Int) (t5:Option L3.Cl),ρ'=[#[5,cc],#[5,n],#[5,mo],#[5,r],some (.ow true (ws.map .int)),t5]/\ws.length=n/\(∀ w∈ws,0<=w/\w<10 ^ 6)/\ws.sum≠0) (fun N hN=>?_) ?_
 . walk_at "rd"
   refine⟨ws,Zc _,?_⟩
   by_cases hz:ws.sum=0
   . rw [if_pos hz]
     have m0:=Ybc (cc/8) (show(n:Int)≠0 by omega)
     have m1:=Ybd (cc/8) (show 0<(n:Int) by omega)
     have hi:ixN (ws.map PyData.int).length (cc/8%n)=some (cc/8%n).toNat:=by
      rw [YaR];exact zcv m0 #[0]
     have hv:1<=1+cc/64%5/\1+cc/64%5<=5:=#[0]
     have e:(ws.map PyData.int).set (cc/8%n).toNat (PyData.int (1+cc/64%5))=(ws.set (cc/8%n).toNat (1+cc/64%5)).map PyData.int:=by rw [List.map_set]
     have hw':∀ w∈ws.set (cc/8%n).toNat (1+cc/64%5),0<=w/\w<10 ^ 6:=fun w h=>by
      rcases Wac h with z|z
      . exact hw w z
      . subst z;omega
     refine⟨divQ,#[1],divQ,#[0],_,hi,?_⟩
     rw [e];refine hN _ ⟨_,_,_,rfl,by rw [YaN];exact hl,hw',?_⟩
     have h1':(1+cc/64%5)∈ws.set (cc/8%n).toNat (1+cc/64%5):=List.mem_set #[0] _
     have:=zdb (fun w hw=>(hw' w hw).1) h1'
     omega
   . rw [if_neg hz]
     exact hN _ ⟨_,_,_,rfl,hl,hw,hz⟩
 rintro ρ ⟨ws',r',t5',rfl,hl',hw',hz'⟩
 walk_at "rd"
 exact q ws' ⟨#[0],fun w hw=>⟨(hw' w hw).1,Int.lt_of_lt_of_le (hw' w hw).2 #[1]⟩,hz'⟩ hl'
theorem zhL(T:Txt c K mg) : dd_law_weights P w K mg base:=by
 obtain⟨f,fd,F,hm⟩:=T.d_law_weights;have hb:=F.binds (ps:=["_law_cell", "_law_clans"]) fun _ _ _ _ _ _ us hl=>by obtain⟨_,_,rfl⟩:=zR hl;rfl
 refine⟨fun ds Q Q' E E' hQ hE h=>?_,⟨f,fd,zjY T F,hb,F.kp,hm⟩⟩
 obtain⟨a,b,e,x1,x2,h⟩:=h;exact⟨a,b,e,x1,x2,fun r y z=>hQ _ _ (h r y z)⟩
theorem zfM:FnScope ["_law_script", "_law_clans", "_law_most", "_law_made", "_law_left_over", "_law_k", "_law_cell", "_law_turns"] ["_law_script", "_law_clans", "_law_most"] (ze Jc):=⟨rfl,rfl,rfl,#[3],rfl,#[3],#[3]⟩
theorem zhl(T:Txt c K mg)(zld:#[8,dd_law_drawn_at])(zlb:#[8,dd_law_cell_at])(zli:#[8,dd_law_weights]){f:Addr}{fd:FuncData}(F:Fun K "_law_spells" "_law_spells" Jc f fd):FnOk P w K mg base (CXR P w) 3 f fd ["_law_script", "_law_clans", "_law_most"] (spL K JP):=by
 have S:=zfM;refine fn3 F S (fun ds Q E h=>?_) (fun cdv A outer s H E E3 hE hr=>?_)
 . obtain⟨_,_,rfl,_⟩:=h;rfl
 refine⟨_,(zc (jk (i:=3) S.nd rfl #[2] (zA zb))
  (zc (zf (i:=4) S.nd rfl #[2] (n3 2))
  (zc (zM Waq rfl (jH rfl T.n_range (za (op3 zz i3 (op3 zl (op3 zE (df3 hE zlb (hr.mono #[1]) rfl zm (za (n3 0) (za i3 zb))) i3) i3)) zb)) (zi (i:=5) S.nd rfl #[2]) (zc (zf (i:=6) S.nd rfl #[2] (df3 hE zld (hr.mono #[1]) rfl zm (za (n3 0) (za (op3 zz i3 (n3 5)) zb))))
   (zc (zf (i:=7) S.nd rfl #[2] (zB (zb7 rfl) rfl T.n_min zdn (za (n3 4) (za (op3 zz i3 (op3 zl (n3 6) i3)) zb))))
   (zd (s_if (zk jR (n3 7) i3 (nomark _)) (zc (jK (i:=3) rfl #[2] (zF (za (n3 7) (za (df3 hE zli (hr.mono #[1]) rfl zm (za (op3 zE (n3 6) i3) (za (n3 1) zb))) zb))))
    (zd (zf (i:=4) S.nd rfl #[2] (op3 je (n3 4) (n3 7))))) zj)))))
  (zd (jv [3] (zr (n3 3))))))),fun ds Q h=>?_⟩
 obtain⟨ns,n,rfl,h1,h8,q⟩:=h;refine zg fun N hN=>?_
 walk_at "rd"
 refine hN _ ?_
 clear hN N;refine zg fun N hN=>?_
 walk_at "rd"
 refine hN _ ?_
 clear hN N;refine zg fun N hN=>?_
 walk_at "rd"
 refine⟨ns,rfl,#[1],fun v=>⟨divQ,#[1],#[0],#[0],?_⟩⟩
 obtain⟨cn,hcn⟩:∃ n:Nat,1+v/8%4=(n:Int):=⟨(1+v/8%4).toNat,#[0]⟩
 have hc4:1<=cn/\cn<=4:=#[0]
 rw [hcn,Int.toNat_natCast];refine jE (fun k ρ=>∃ (l:List Spell) (t5 t6 t7:Option L3.Cl),ρ = [some (.sh false (.list (ns.map .int))),#[5,n],#[5,16],some (.ow true (l.map dS)),#[5,16 - tot l],t5,t6,t7]/\l.length<=k/\(1<=k->1<=l.length)/\tot l<=16/\∀ s∈l,1<=s.1/\okW s.2/\s.2.length=n) ?_ ?_ ⟨[],none,none,none,rfl,YaY _,fun h=>absurd h #[0],by show(0:Int)<=16;decide,fun s h=>by cases h⟩
 . rintro k ρ hk ⟨l,t5,t6,t7,rfl,hl,hl1,htl,hs⟩ W hW
   simp only [gn3,List.set_cons_zero,List.set_cons_succ,zo,WaJ];refine zg fun N' hN'=>?_
   walk_at "rd"
   refine⟨ns,rfl,#[0],#[0],fun cc hcc=>hN' _ ?_⟩
   clear hN' N';refine zg fun N' hN'=>?_
   walk_at "rd"
   refine⟨#[1],hN' _ ?_⟩
   clear hN' N';have hb:0<=(if 1+cc%20<16 - tot l then 1+cc%20 else 16 - tot l)/\(if 1+cc%20<16 - tot l then 1+cc%20 else 16 - tot l)<=16 - tot l/\(tot l<16->1<=(if 1+cc%20<16 - tot l then 1+cc%20 else 16 - tot l)):=by split<;>omega
   generalize (if 1+cc%20<16 - tot l then 1+cc%20 else 16 - tot l)=tn at hb ⊢
   walk_at "rd YaR"
   by_cases h0:0<tn
   . rw [if_pos h0]
     refine⟨divQ,n,rfl,h1,h8,fun ws hw hwl=>⟨YaU (show _<1000 by omega) #[1],?_⟩⟩
     have et:16 - tot l - tn=16 - tot (l++[(tn,ws)]):=by unfold tot;rw [Ya2,List.sum_append];simp;omega
     rw [et];refine hW _ ⟨l++[(tn,ws)],_,_,_,by rw [Ya2];rfl,#[6],fun _=>by simp,#[0],fun s hs'=>?_⟩
     rcases Ya3.mp hs' with z|z
     . exact hs s z
     . rw [Ya6.mp z];exact⟨by show 1<=tn;omega,hw,hwl⟩
   . rw [if_neg h0]
     refine hW _ ⟨l,_,_,_,rfl,#[0],fun _=>?_,htl,hs⟩
     cases l with
     | nil=>have:(1:Int)<=tn:=hb.2.2 (by show(0:Int)<16;decide);omega
     | cons a r=>simp
 . rintro ρ ⟨l,t5,t6,t7,rfl,hl,hl1,htl,hs⟩
   refine hN _ ?_
   walk_at "rd"
   have hm:many l=n:=by
    cases l with
    | nil=>have:=hl1 #[0];simp at this
    | cons a r=>exact(hs a YaV).2.2
   exact q l ⟨⟨hl1 #[0],#[0]⟩,fun s h=>⟨(hs s h).1,(hs s h).2.1,by rw [hm];exact(hs s h).2.2⟩,#[0]⟩ hm
theorem zfl(T:Txt c K mg)(zld:#[8,dd_law_drawn_at])(zlb:#[8,dd_law_cell_at])(zli:#[8,dd_law_weights]):dd_law_spells P w K mg base:=by
 obtain⟨f,fd,F,hm⟩:=T.d_law_spells;have hb:=F.binds (ps:=["_law_script", "_law_clans", "_law_most"]) fun _ _ _ _ _ _ us hl=>by obtain⟨_,_,_,rfl⟩:=jY hl;rfl
 refine⟨fun ds Q Q' E E' hQ hE h=>?_,⟨f,fd,zhl T zld zlb zli F,hb,F.kp,hm⟩⟩
 obtain⟨a,b,e,x1,x2,h⟩:=h;exact⟨a,b,e,x1,x2,fun r y z=>hQ _ _ (h r y z)⟩
theorem zgR:FnScope ["_law_top", "_law_bottom", "_law_one", "_law_other"] ["_law_top", "_law_bottom"] (ze Jz):=⟨rfl,rfl,rfl,#[3],rfl,#[3],#[3]⟩
theorem zi6(T:Txt c K mg){f:Addr}{fd:FuncData}(F:Fun K "_law_ratio" "_law_ratio" Jz f fd):FnOk P w K mg base (CXR P w) 1 f fd ["_law_top", "_law_bottom"] (spL K Zu):=by
 have S:=zgR;refine fn3 F S (fun ds Q E h=>?_) (fun cdv A outer s H E E3 hE hr=>?_)
 . obtain⟨_,_,rfl,_⟩:=h;rfl
 refine⟨_,(zc (zf (i:=2) S.nd rfl #[2] (zB zbO rfl T.n_abs za9 (za (n3 0) zb)))
  (zc (zf (i:=3) S.nd rfl #[2] (n3 1))
  (zc (ZS Waq (zk jR (n3 3) i3 (nomark _)) (zd (zgv (i:=2) (j:=3) rfl S.nd rfl rfl #[1] rfl rfl (za (n3 3) (za (op3 zl (n3 2) (n3 3)) zb)))))
  (zd (zr (zF (za (op3 zE (n3 0) (n3 2)) (za (op3 zE (n3 1) (n3 2)) zb)))))))),fun ds Q h=>?_⟩
 obtain⟨a,b,rfl,hb,hB,q⟩:=h
 walk_at "rd"
 refine⟨_,Zg (fun n ρ=>∃ g l,ρ = [#[5,a],#[5,b],#[5,g],#[5,l]]/\0<=g/\0<=l/\Int.gcd g l=Int.gcd a b/\n=l.toNat) ?_ _ _ ⟨_,_,rfl,by split<;>omega,#[0],?_,rfl⟩⟩
 . rintro n ρ ⟨g,l,rfl,hg,hl,hG,rfl⟩ W hW
   walk_at "rd"
   by_cases h0:0<l
   . rw [if_pos h0]
     have h1:=Ybc g (show l≠0 by omega)
     have h2:=Ybd g h0;exact⟨h0,hW (g%l).toNat _ #[0] ⟨l,g%l,rfl,hl,h1,(zco hg h0).trans hG,rfl⟩⟩
   . rw [if_neg h0]
     have hz:l=0:=#[0]
     subst hz;have e:g=(Int.gcd a b:Int):=by rw [<-hG,zcq hg]
     subst e;exact⟨zcc hb hB,zcc hb hB,q⟩
 . have:=zdo a b
   rw [if_neg (show ¬b<0 by omega)] at this
   exact this
theorem zes(T:Txt c K mg) : dd_law_ratio P w K mg base:=by
 obtain⟨f,fd,F,hm⟩:=T.d_law_ratio;have hb:=F.binds (ps:=["_law_top", "_law_bottom"]) fun _ _ _ _ _ _ us hl=>by obtain⟨_,_,rfl⟩:=zR hl;rfl
 refine⟨fun ds Q Q' E E' hQ hE h=>?_,⟨f,fd,zi6 T F,hb,F.kp,hm⟩⟩
 obtain⟨a,b,e,z,y,h⟩:=h;exact⟨a,b,e,z,y,hQ _ _ h⟩
theorem zfY:FnScope ["_law_cell", "_law_clans", "_law_made", "_law_clan", "_law_parts", "_law_rest", "_law_below", "_law_above"] ["_law_cell", "_law_clans"] (ze JB):=⟨rfl,rfl,rfl,#[3],rfl,#[3],#[3]⟩
theorem zfa(T:Txt c K mg)(zlf:#[8,dd_law_ratio]){f:Addr}{fd:FuncData}(F:Fun K "_law_bounds" "_law_bounds" JB f fd):FnOk P w K mg base (CXR P w) 2 f fd ["_law_cell", "_law_clans"] (spL K ZE):=by
 have S:=zfY;refine fn3 F S (fun ds Q E h=>?_) (fun cdv A outer s H E E3 hE hr=>?_)
 . obtain⟨_,_,rfl,_⟩:=h;rfl
 refine⟨_,(zc (jk (i:=2) S.nd rfl #[2] (zA zb))
  (zc (zM Waq rfl (jH rfl T.n_range (za (n3 1) zb)) (zi (i:=3) S.nd rfl #[2]) (zc (zf (i:=4) S.nd rfl #[2] (op3 zz i3 (op3 zl (n3 0) i3)))
   (zc (zf (i:=5) S.nd rfl #[2] (op3 zE (n3 0) i3))
   (zc (zf (i:=6) S.nd rfl #[2] (df3 hE zlf (hr.mono #[1]) rfl zm (za (op3 zl (n3 5) (op3 zz (op3 z6 i3 (n3 4)) i3)) (za (n3 4) zb))))
   (zc (zf (i:=7) S.nd rfl #[2] (df3 hE zlf (hr.mono #[1]) rfl zm (za (op3 zl (op3 zE (n3 5) i3) (op3 zz (op3 z6 i3 (n3 4)) i3)) (za (n3 4) zb))))
   (zc (s_if (zk (zw hr.units) (op3 zl (op3 zE (n3 5) i3) i3) i3 (nomark _)) (zd (zf (i:=7) S.nd rfl #[2] (zF (za i3 (za i3 zb))))) zj)
   (zc (jK (i:=2) rfl #[2] (zF (za (n3 6) (za (n3 7) zb))))
   (zd (zf (i:=0) S.nd rfl #[2] (op3 zE (n3 5) i3))))))))))
  (zd (jv [2] (zr (n3 2)))))),fun ds Q h=>?_⟩
 obtain⟨cc,n,rfl,h8,q⟩:=h;refine zg fun N hN=>?_
 walk_at "rd"
 refine hN _ ?_
 clear hN N
 walk_at "rd"
 refine⟨#[0],#[0],?_⟩
 rw [Int.toNat_natCast];refine jE (fun k ρ=>∃ (l:List (Rat2×Rat2)) (c':Int) (t3 t4 t5 t6 t7:Option L3.Cl),ρ = [#[5,c'],#[5,n],some (.ow true (l.map dP)),t3,t4,t5,t6,t7]/\l.length=k/\∀ p∈l,(okQ p.1/\okQ p.2)/\inQ p.1/\inQ p.2) ?_ ?_ ⟨[],_,none,none,none,none,none,rfl,rfl,fun p h=>by cases h⟩
 . rintro k ρ hk ⟨l,c',t3,t4,t5,t6,t7,rfl,hl,hall⟩ W hW
   have m12:1<=1+c'%12/\1+c'%12<=12:=#[0]
   simp only [gn3,List.set_cons_zero,List.set_cons_succ,zo,WaJ];refine zg fun N hN=>?_
   walk_at "rd"
   refine⟨#[1],hN _ ?_⟩
   clear hN N;generalize 1+c'%12=bt at m12 ⊢;have bq:∀ x:Int,okQ (lowQ (x%(2*bt+1)) bt)/\inQ (lowQ (x%(2*bt+1)) bt):=fun x=>by
    have a0:=Ybc x (show 2*bt+1≠0 by omega)
    have a1:=Ybd x (show 0<2*bt+1 by omega)
    exact⟨zcF #[0] (Bits.lit (x:=x%(2*bt+1)) 1100 #[0]) (Bits.lit (x:=bt) 1100 #[0]),zj6 #[0] a0 #[0]⟩
   have bm:IntMulOk 2 bt:=(Bits.lit (x:=2) 64).mulOk (Bits.lit (x:=bt) 64 #[0]) #[1]
   have bb:Bits 9000 bt:=Bits.lit (x:=bt) 9000 #[0]
   have e1:∀ x,dR x bt=dQ (lowQ x bt):=fun _=>rfl
   refine zg fun N hN=>?_
   walk_at "rd"
   refine⟨divP,hN _ ?_⟩
   clear hN N;generalize c'/12=re;obtain⟨o1,i1⟩:=bq re;obtain⟨o2,i2⟩:=bq (re/30);refine zg fun N hN=>?_
   walk_at "rd"
   refine⟨bm,#[0],#[0],bb,hN _ ?_⟩
   clear hN N;refine zg fun N hN=>?_
   walk_at "rd"
   refine⟨divP,bm,#[0],#[0],bb,hN _ ?_⟩
   clear hN N;rw [e1,e1];generalize lowQ (re%(2*bt+1)) bt=p1 at o1 i1;generalize lowQ (re/30%(2*bt+1)) bt=p2 at o2 i2;refine zH (fun ρ=>∃ (p2:Rat2),ρ = [#[5,c'],#[5,n],some (.ow true (l.map dP)),#[5,(0+(k:Int))],#[5,bt],#[5,re],some (.sh true (dQ p1)),some (.sh true (dQ p2))]/\okQ p2/\inQ p2) (fun N hN=>?_) ?_
   . walk_at "rd"
     exact⟨divP,#[1],ite2 (fun _=>hN _ ⟨(10,1),rfl,q10,i10⟩) fun _=>hN _ ⟨p2,rfl,o2,i2⟩⟩
   clear o2 i2
   rintro ρ ⟨p2,rfl,o2,i2⟩
   walk_at "rd YaR"
   refine⟨YaU (show _<1000 by omega) #[1],divP,hW _ ⟨l++[(p1,p2)],_,_,_,_,_,_,by rw [Ya2];rfl,by simp [hl],fun p hp=>?_⟩⟩
   rcases Ya3.mp hp with z|z
   . exact hall p z
   . rw [Ya6.mp z];exact⟨⟨o1,o2⟩,i1,i2⟩
 . rintro ρ ⟨l,c',t3,t4,t5,t6,t7,rfl,hl,hall⟩
   walk_at "rd"
   exact q l ⟨hl,fun p hp=>(hall p hp).2⟩ fun p hp=>(hall p hp).1
theorem zj3(T:Txt c K mg)(zlf:#[8,dd_law_ratio]):dd_law_bounds P w K mg base:=by
 obtain⟨f,fd,F,hm⟩:=T.d_law_bounds;have hb:=F.binds (ps:=["_law_cell", "_law_clans"]) fun _ _ _ _ _ _ us hl=>by obtain⟨_,_,rfl⟩:=zR hl;rfl
 refine⟨fun ds Q Q' E E' hQ hE h=>?_,⟨f,fd,zfa T zlf F,hb,F.kp,hm⟩⟩
 obtain⟨a,b,e,x1,h⟩:=h;exact⟨a,b,e,x1,fun l y z=>hQ _ _ (h l y z)⟩
theorem ziz:FnScope ["_law_cells_here", "_law_turns", "_law_clans", "_law_made", "_law_cell", "_law_word"] ["_law_cells_here", "_law_turns", "_law_clans"] (ze Jw):=⟨rfl,rfl,rfl,#[3],rfl,#[3],#[3]⟩
theorem zin(T:Txt c K mg){f:Addr}{fd:FuncData}(F:Fun K "_law_rules" "_law_rules" Jw f fd):FnOk P w K mg base (CXR P w) 1 f fd ["_law_cells_here", "_law_turns", "_law_clans"] (spL K Zh):=by
 have S:=ziz;refine fn3 F S (fun ds Q E h=>?_) (fun cdv A outer s H E E3 hE hr=>?_)
 . obtain⟨_,_,_,rfl,_⟩:=h;rfl
 refine⟨_,(zc (jk (i:=3) S.nd rfl #[2] (zA zb))
  (zc (zM Waq rfl (zN (n3 0)) (zi (i:=4) S.nd rfl #[2]) (zc (zf (i:=5) S.nd rfl #[2] s3)
   (zc (s_if (zk (zw hr.units) (op3 zl (n3 4) i3) i3 (nomark _)) (zd (zf (i:=5) S.nd rfl #[2] s3)) zj)
   (zd (jK (i:=3) rfl #[2] (zF (za (n3 5) (za (op3 zz i3 (op3 zl (op3 zE (n3 4) i3) (n3 1))) (za (op3 zl (op3 zE (op3 zE (n3 4) i3) (n3 1)) (n3 2)) zb)))))))))
  (zd (jv [3] (zr (n3 3)))))),fun ds Q h=>?_⟩
 obtain⟨xs,T',n,rfl,hx,hT1,hT2,hn1,hn2,q⟩:=h;refine zg fun N hN=>?_
 walk_at "rd"
 refine hN _ ?_
 clear hN N;refine zH (fun ρ=>∃ (rs:List Rule) (t4 t5:Option L3.Cl),ρ = [some (.sh false (.list (xs.map .int))),#[5,T'],#[5,n],some (.ow true (rs.map dRl)),t4,t5]/\okRs T' n rs/\txtR rs/\rs.length=xs.length) (fun N hN=>?_) ?_
 . walk_at "rd"
   refine jG PyData.int xs (fun done ρ=>∃ (rs:List Rule) (t4 t5:Option L3.Cl),ρ = [some (.sh false (.list (xs.map .int))),#[5,T'],#[5,n],some (.ow true (rs.map dRl)),t4,t5]/\okRs T' n rs/\txtR rs/\rs.length=done.length) ?_ (fun ρ h=>hN ρ h) ⟨[],none,none,rfl,fun r h=>(by cases h),fun r h=>(by cases h),rfl⟩
   rintro done x rest ρ hd ⟨rs,t4,t5,rfl,hok,htx,hl⟩ W hW
   have hdn:done.length<xs.length:=by rw [hd,YaS,List.length_cons];omega
   simp only [gn3,List.set_cons_zero,List.set_cons_succ,zo,WaJ];refine zg fun N1 hN1=>?_
   walk_at "rd"
   refine hN1 _ ?_
   clear hN1 N1;refine zH (fun ρ=>∃ w:Str,ρ = [some (.sh false (.list (xs.map .int))),#[5,T'],#[5,n],some (.ow true (rs.map dRl)),#[5,x],some (.sh true (.str w))]/\(w = "fixed"\/w = "barred")/\SeqAt.shaped (.str w)=true) (fun N1 hN1=>?_) ?_
   . walk_at "rd"
     exact⟨#[1],ite2 (fun _=>hN1 _ ⟨_,rfl,.inl rfl,zcy⟩) fun _=>hN1 _ ⟨_,rfl,.inr rfl,zdw⟩⟩
   rintro ρ ⟨w,rfl,hw,hs⟩
   have e1:=Ybc (x/3) (show T'≠0 by omega)
   have e2:=Ybd (x/3) (show 0<T' by omega)
   have e3:=Ybc (x/3/T') (show n≠0 by omega)
   have e4:=Ybd (x/3/T') (show 0<n by omega)
   walk_at "rd YaR"
   refine⟨divP,#[0],divP,⟨#[0],Bits.lit (x:=T') 9000 #[0]⟩,#[0],YaU (show _<1000 by omega) #[1],hW _ ⟨rs++[(w,1+x/3%T',x/3/T'%n)],_,_,by rw [Ya2];rfl,fun r hr=>?_,fun r hr=>?_,by simp [hl]⟩⟩
   . rcases Ya3.mp hr with z|z
     . exact hok r z
     . rw [Ya6.mp z]
       exact⟨hw,⟨by show 1<=1+x/3%T';omega,by show 1+x/3%T'<=T';omega⟩,e3,e4⟩
   . rcases Ya3.mp hr with z|z
     . exact htx r z
     . rw [Ya6.mp z];exact hs
 rintro ρ ⟨rs,t4,t5,rfl,hok,htx,hl⟩
 walk_at "rd"
 exact q rs hok htx #[0]
theorem ziF(T:Txt c K mg) : dd_law_rules P w K mg base:=by
 obtain⟨f,fd,F,hm⟩:=T.d_law_rules;have hb:=F.binds (ps:=["_law_cells_here", "_law_turns", "_law_clans"]) fun _ _ _ _ _ _ us hl=>by obtain⟨_,_,_,rfl⟩:=jY hl;rfl
 refine⟨fun ds Q Q' E E' hQ hE h=>?_,⟨f,fd,zin T F,hb,F.kp,hm⟩⟩
 obtain⟨a,b,d,e,x1,x2,x3,x4,x5,h1⟩:=h;exact⟨a,b,d,e,x1,x2,x3,x4,x5,fun u v w z=>hQ _ _ (h1 u v w z)⟩
theorem ze1:FnScope ["_law_script", "_law_most"] ["_law_script", "_law_most"] (ze jL):=⟨rfl,rfl,rfl,#[3],rfl,#[3],#[3]⟩
theorem zkc(T:Txt c K mg)(zld:#[8,dd_law_drawn_at]){f:Addr}{fd:FuncData}(F:Fun K "_law_cells" "_law_cells" jL f fd):FnOk P w K mg base (CXR P w) 3 f fd ["_law_script", "_law_most"] (spL K Zb):=by
 have S:=ze1;refine fn3 F S (fun ds Q E h=>?_) (fun cdv A outer s H E E3 hE hr=>?_)
 . obtain⟨_,_,rfl,_⟩:=h;rfl
 refine⟨_,(zd (zr (new3 (z8 ["_law_k"] ["_law_script"] [0] rfl (zU (osc:=ze jL) #[3]) rfl (za5 rfl T.n_range (za i3 (za (zB (zb7 rfl) rfl T.n_min zdn (za (zB zL rfl T.n_len zO (za (n3 0) zb)) (za (n3 1) zb))) zb))) (fun H0 s H fp cl=>⟨(zi (i:=0) (show((["_law_k"]:List PySem.Str)++(["_law_script"]:List PySem.Str)).Nodup by decide) rfl #[2]),zY,(df3 (E:=fun _ _ _=>False) (E3:=fun _=>False) (fun _ _ z _=>z) zld (hr.mono #[1]) rfl zaS (za (n3 1) (za (n3 0) zb)))⟩))))),fun ds Q h=>?_⟩
 obtain⟨ns,m,rfl,h63,m0,m1,q⟩:=h
 walk_at "rd YaR"
 have hb:(if m<(ns.length:Int) then m else(ns.length:Int))<=63/\0<=(if m<(ns.length:Int) then m else(ns.length:Int)):=by split<;>omega
 generalize (if m<(ns.length:Int) then m else(ns.length:Int))=hi at hb
 refine⟨#[1],#[1],#[0],#[0],sz (by rw [zcR];omega),?_⟩
 refine zcg (fun i:Nat=>PyData.int (8+(i:Nat))) (fun ρ=>∃ t,ρ = [t,some (.sh false (.list (ns.map .int)))]) (List.range (hi - 8).toNat) ?_ _ _ _ _ ⟨none,rfl⟩ fun vs hvs=>?_
 . rintro i hi' ρ fa acc K ⟨t,rfl⟩ kk
   have hi':=Yba.mp hi'
   walk_at "rd"
   exact⟨ns,rfl,#[0],#[0],fun v _=>kk _ v ⟨_,rfl⟩⟩
 . rw [YaG] at hvs
   exact q vs #[0]
theorem zg7(T:Txt c K mg)(zld:#[8,dd_law_drawn_at]):dd_law_cells P w K mg base:=by
 obtain⟨f,fd,F,hm⟩:=T.d_law_cells;have hb:=F.binds (ps:=["_law_script", "_law_most"]) fun _ _ _ _ _ _ us hl=>by obtain⟨_,_,rfl⟩:=zR hl;rfl
 refine⟨fun ds Q Q' E E' hQ hE h=>?_,⟨f,fd,zkc T zld F,hb,F.kp,hm⟩⟩
 obtain⟨a,b,e,x1,x2,x3,h1⟩:=h;exact⟨a,b,e,x1,x2,x3,fun u v=>hQ _ _ (h1 u v)⟩
theorem zgJ:FnScope ["_law_spells_here", "_law_cell", "_law_at", "_law_far", "_law_way", "_law_turns", "_law_weights_here", "_law_who"] ["_law_spells_here", "_law_cell"] (ze jr):=⟨rfl,rfl,rfl,#[3],rfl,#[3],#[3]⟩
theorem zhU(T:Txt c K mg){f:Addr}{fd:FuncData}(F:Fun K "_law_bad_spells" "_law_bad_spells" jr f fd):FnOk P w K mg base (CXR P w) 1 f fd ["_law_spells_here", "_law_cell"] (spL K Zn):=by
 have S:=zgJ;refine fn3 F S (fun ds Q E h=>?_) (fun cdv A outer s H E E3 hE hr=>?_)
 . obtain⟨_,_,rfl,_⟩:=h;rfl
 refine⟨_,(zc (zf (i:=2) S.nd rfl #[2] (op3 zl (op3 zE (n3 1) i3) (zB zL rfl T.n_len zO (za (n3 0) zb))))
  (zc (zf (i:=3) S.nd rfl #[2] (op3 zl (op3 zE (n3 1) i3) (op3 jp i3 i3)))
  (zc (zf (i:=4) S.nd rfl #[2] (op3 zl (n3 1) i3))
  (zc (zc5 (at3 (n3 0) (n3 2) #[4]) (zW (n:=2) rfl (zy (zi (i:=5) S.nd rfl #[2]) (zy (zi (i:=6) S.nd rfl #[2]) zV))))
  (zc (zf (i:=7) S.nd rfl #[2] (op3 zl (n3 3) (zB zL rfl T.n_len zO (za (n3 6) zb))))
  (zc (s_if (zk (zw hr.units) (n3 4) i3 (nomark _)) (zd (zr (new3 (zA zb)))) zj)
  (zc (s_if (zk (zw hr.units) (n3 4) i3 (nomark _)) (zd (zr (new3 (z8 ["_law_k"] ["_law_weights_here"] [6] rfl (zU (osc:=ze jr) #[3]) rfl (jH rfl T.n_range (za (op3 zz i3 (op3 zl (n3 3) i3)) zb)) (fun H0 s H fp cl=>⟨(zi (i:=0) (show((["_law_k"]:List PySem.Str)++(["_law_weights_here"]:List PySem.Str)).Nodup by decide) rfl #[2]),zY,(zF (za i3 (za (new3 (Jq rfl T.n_list JG (za (n3 1) zb))) zb)))⟩))))) zj)
  (zc (s_if (pw3 (zbe (zk (zw hr.units) (n3 4) i3 (nomark _)) (zbA (zk jR (zB zL rfl T.n_len zO (za (n3 0) zb)) i3 (nomark _))))) (zd (zr (new3 (cat3 (new3 (cat3 (new3 (jd (n3 0) zZ (ja (n3 2)))) (new3 (zA (za (zF (za (n3 5) (za (new3 (cat3 (n3 6) (new3 (zA (za i3 zb))))) zb))) zb))))) (new3 (jd (n3 0) (ja (op3 zz (n3 2) i3)) zZ)))))) zj)
  (zc (s_if (pw3 (zax (zk (zw hr.units) (n3 4) i3 (nomark _)) (zaK (zk (zw hr.units) (n3 4) i3 (nomark _))))) (zd (zr (new3 (z8 ["_law_one", "_law_some"] [] [] rfl (zU (osc:=ze jr) #[3]) rfl (zN (n3 0)) (fun H0 s H fp cl=>⟨(zW (n:=2) rfl (zy (zi (i:=0) (show((["_law_one", "_law_some"]:List PySem.Str)++([]:List PySem.Str)).Nodup by decide) rfl #[2]) (zy (zi (i:=1) (show((["_law_one", "_law_some"]:List PySem.Str)++([]:List PySem.Str)).Nodup by decide) rfl #[2]) zV))),zY,(zF (za (n3 0) (za (new3 (jd (new3 (cat3 (n3 1) (new3 (rep3 (zA (za i3 zb)) i3)))) zZ (ja i3))) zb)))⟩))))) zj)
  (zc (s_if (zk (zw hr.units) (n3 4) i3 (nomark _)) (zd (zr (new3 (z8 ["_law_one", "_law_some"] [] [] rfl (zU (osc:=ze jr) #[3]) rfl (zN (n3 0)) (fun H0 s H fp cl=>⟨(zW (n:=2) rfl (zy (zi (i:=0) (show((["_law_one", "_law_some"]:List PySem.Str)++([]:List PySem.Str)).Nodup by decide) rfl #[2]) (zy (zi (i:=1) (show((["_law_one", "_law_some"]:List PySem.Str)++([]:List PySem.Str)).Nodup by decide) rfl #[2]) zV))),zY,(zF (za (n3 0) (za (new3 (zA zb)) zb)))⟩))))) zj)
  (zc (s_if (zk (zw hr.units) (n3 4) i3 (nomark _)) (zd (zr (new3 (zA (za (zF (za i3 (za (new3 (Jq rfl T.n_list JG (za (n3 6) zb))) zb))) (za (zF (za (op3 zz i3 (op3 zl (n3 3) i3)) (za (new3 (Jq rfl T.n_list JG (za (n3 6) zb))) zb))) zb)))))) zj)
  (zc (s_if (zk (zw hr.units) (n3 4) i3 (nomark _)) (zd (zf (i:=5) S.nd rfl #[2] (op3 je i3 (op3 zl (n3 3) i3)))) zj)
  (zc (s_if (zk (zw hr.units) (n3 4) i3 (nomark _)) (zd (zf (i:=5) S.nd rfl #[2] (op3 zz i3 (n3 3)))) zj)
  (zc (s_if (zk (zw hr.units) (n3 4) i3 (nomark _)) (zd (zf (i:=6) S.nd rfl #[2] (new3 (cat3 (new3 (cat3 (new3 (jd (n3 6) zZ (ja (n3 7)))) (new3 (zA (za (op3 je (op3 je i3 i3) (n3 3)) zb))))) (new3 (jd (n3 6) (ja (op3 zz (n3 7) i3)) zZ)))))) zj)
  (zc (s_if (zk (zw hr.units) (n3 4) i3 (nomark _)) (zd (zf (i:=6) S.nd rfl #[2] (new3 (z8 ["_law_one"] [] [] rfl (zU (osc:=ze jr) #[3]) rfl (zN (n3 6)) (fun H0 s H fp cl=>⟨(zi (i:=0) (show((["_law_one"]:List PySem.Str)++([]:List PySem.Str)).Nodup by decide) rfl #[2]),zY,i3⟩))))) zj)
  (zc (s_if (zk (zw hr.units) (n3 4) i3 (nomark _)) (zd (zf (i:=6) S.nd rfl #[2] (new3 (cat3 (new3 (cat3 (new3 (jd (n3 6) zZ (ja (n3 7)))) (new3 (zA (za (op3 zz (op3 jp i3 i3) (n3 3)) zb))))) (new3 (jd (n3 6) (ja (op3 zz (n3 7) i3)) zZ)))))) zj)
  (zd (zr (new3 (cat3 (new3 (cat3 (new3 (jd (n3 0) zZ (ja (n3 2)))) (new3 (zA (za (zF (za (n3 5) (za (new3 (Jq rfl T.n_list JG (za (n3 6) zb))) zb))) zb))))) (new3 (jd (n3 0) (ja (op3 zz (n3 2) i3)) zZ)))))))))))))))))))))),fun ds Q h=>?_⟩
 obtain⟨l,cc,rfl,hok,q⟩:=h;have hl:1<=l.length/\l.length<=8:=by have:=hok.1;omega
 have hat0:=Ybc (cc/11) (show(l.length:Int)≠0 by omega)
 have hat1:=Ybd (cc/11) (show 0<(l.length:Int) by omega)
 obtain⟨s,hs1,hs2,hs3⟩:=j7 hat0 hat1;have hs1':atI (List.map dS l) (cc/11%(l.length:Int))=some (PyData.tuple [PyData.int s.1,PyData.list (s.2.map PyData.int)]):=by rw [jO,hs1];rfl
 have hsz:∀ n:Nat,n<=1000->n<=sizeLine:=fun n h=>Ya5 h #[1]
 have hLM:(List.map dS l).length=l.length:=YaR ..;have hwl:(List.map PyData.int s.2).length=s.2.length:=YaR ..;have hsok:=hok.2.1 s hs2;have hw:=hsok.2.1.1;have mk:=zd5 (l:=l) hsz hat0 hl.2 q;have hdif:=zkI hok hat0 hat1 hsok.2.2;have hf0:=Ybc (cc/88) (show(10 ^ Int.toNat 20:Int)≠0 by decide)
 refine zg fun N hN=>?_
 walk_at "rd hLM"
 refine⟨divP,#[0],hN _ ?_⟩
 clear hN N;refine zg fun N hN=>?_
 walk_at "rd"
 refine⟨divP,powB (k:=4) (by unfold Bits;decide) #[1] #[1],#[1],hN _ ?_⟩
 clear hN N;refine zg fun N hN=>?_
 walk_at "rd"
 refine⟨#[1],hN _ ?_⟩
 clear hN N;refine zg fun N hN=>?_
 walk_at "rd hs1' J5"
 refine hN _ ?_
 clear hN N hs1';generalize cc/11%(l.length:Int)=at_ at *;generalize cc/88%10 ^ Int.toNat 20=far at *;have hkd:0<=cc%11/\cc%11<11:=#[0]
 generalize cc%11=kd at *;refine zg fun N hN=>?_
 walk_at "rd hwl"
 refine⟨#[0],hN _ ?_⟩
 clear hN N;have hw0:=Ybc far (show(s.2.length:Int)≠0 by omega)
 have hw1:=Ybd far (show 0<(s.2.length:Int) by omega)
 generalize far%(s.2.length:Int)=who at *;have put:∀ (t:Int) (ws:List Int),¬okS (l.take at_.toNat++[(t,ws)]++l.drop (at_+1).toNat)->(cut (List.map dS l) none (some at_)).length+1<=sizeLine/\(cut (List.map dS l) none (some at_)++[PyData.tuple [PyData.int t,PyData.list (ws.map PyData.int)]]).length+(cut (List.map dS l) (some (at_+1)) none).length<=sizeLine/\∀ f,Q f (PyData.list (cut (List.map dS l) none (some at_)++[PyData.tuple [PyData.int t,PyData.list (ws.map PyData.int)]]++cut (List.map dS l) (some (at_+1)) none)):=fun t ws h=>mk l (t,ws) #[0] #[0] h
 have hws:∀ (ws:List Int) (x:Int),List.map PyData.int ws++[PyData.int x]=(ws++[x]).map PyData.int:=fun ws x=>by rw [Ya2];rfl
 have hc1:cut (List.map PyData.int s.2) none (some who)=(s.2.take who.toNat).map PyData.int:=by rw [jF,zag s.2 hw0 #[0]]
 have hc2:cut (List.map PyData.int s.2) (some (who+1)) none=(s.2.drop (who+1).toNat).map PyData.int:=by rw [jF,zaE s.2 #[0] #[0]]
 refine zg fun N hN=>?_
 walk_at "rd"
 refine ite2 (fun e=>q _ [] (fun z=>by have:=z.1.1;simp at this) (by simp)) fun e0=>hN _ ?_
 clear hN N;refine zg fun N hN=>?_
 walk_at "rd"
 refine ite2 (fun e=>?_) fun e1=>hN _ ?_
 . refine⟨#[1],#[0],#[0],hsz _ (by unfold nums;simp;omega),?_⟩
   refine zX (fun i:Nat=>PyData.int (0+(i:Nat))) (fun _=>dS (1,s.2)) (fun ρ=>∃ t f,ρ = [t,some (.sh f (PyData.list (List.map PyData.int s.2)))]) (List.range (9+far%3).toNat) ?_ _ _ _ _ ⟨none,_,rfl⟩ ?_
   . rintro i hi ρ fa acc K ⟨t,f,rfl⟩ k
     walk_at "rd J5"
     exact k _ ⟨_,_,rfl⟩
   . have:=q true ((List.range (9+far%3).toNat).map fun _=>(1,s.2)) (fun z=>by have:=z.1.2;simp at this;omega) #[6]
     rw [dSs,YaD] at this;exact this
 clear hN N;refine zg fun N hN=>?_
 walk_at "rd hLM hwl hws"
 have sev:(1<(l.length:Int)->kd=7->s.2.length+1<=sizeLine/\(cut (List.map dS l) none (some at_)).length+1<=sizeLine/\(cut (List.map dS l) none (some at_)++[PyData.tuple [PyData.int s.1,PyData.list ((s.2++[1]).map PyData.int)]]).length+(cut (List.map dS l) (some (at_+1)) none).length<=sizeLine/\∀ f,Q f (PyData.list (cut (List.map dS l) none (some at_)++[PyData.tuple [PyData.int s.1,PyData.list ((s.2++[1]).map PyData.int)]]++cut (List.map dS l) (some (at_+1)) none))):=fun h _=>⟨hsz _ #[0],put s.1 (s.2++[1]) (hdif (s.1,s.2++[1]) (by simp) #[0])⟩
 by_cases e7:kd=7/\1<(l.length:Int)
 . rw [if_pos e7.1,if_pos e7.2]
   obtain⟨m0,m1,m2,m3⟩:=sev e7.2 e7.1;exact⟨m0,m1,m2,m3 _⟩
 have go:∀ P R:Prop,(R->(if kd=7 then(if 1<(l.length:Int) then P else R) else R)):=fun P R h=>by
  by_cases z:kd=7
  . rw [if_pos z,if_neg (fun y=>e7 ⟨z,y⟩)];exact h
  . rw [if_neg z];exact h
 refine go _ _ (hN _ ?_)
 clear hN N sev go hdif;refine zg fun N hN=>?_
 refine j1 fun Y M hY hM=>?_
 walk_at "rd"
 by_cases e78:kd=7\/kd=8
 . have hy:Y:=by
    refine hY ?_
    walk_at "rd hLM"
    refine⟨hsz _ #[0],?_⟩
    refine zX dS (fun s=>dS (s.1,(s.2++List.replicate 9 1).take 9)) (fun ρ=>∃ t u,ρ = [t,u]) l ?_ _ _ _ _ ⟨none,none,rfl⟩ ?_
    . rintro s hs ρ fa acc K ⟨t,u,rfl⟩ k
      have h8:=(hok.2.1 s hs).2.1.1;have er:(List.replicate (Int.toNat 9) [PyData.int 1]).flatten=(List.replicate 9 (1:Int)).map PyData.int:=rfl;have hl':(List.map PyData.int s.2).length=s.2.length:=YaR ..;have e9:cut (List.map PyData.int s.2++(List.replicate 9 (1:Int)).map PyData.int) none (some 9)=((s.2++List.replicate 9 1).take 9).map PyData.int:=by
       rw [<-Ya2,jF,zag _ #[1] (by rw [YaS,Ybb];omega)];rfl
      walk_at "rd J5"
      rw [hl',er,e9];exact⟨#[1],#[1],#[1],hsz _ (by rw [YaR,Ybb];omega),k _ ⟨_,_,rfl⟩⟩
    . have:=q true (l.map fun s=>(s.1,(s.2++List.replicate 9 1).take 9)) (fun z=>by
       have:=(z.2.1 _ (Ya7.mpr ⟨s,hs2,rfl⟩)).2.1.1.2;rw [List.length_take,YaS,Ybb] at this
       omega) #[6]
      rw [dSs,YaD] at this;exact this
   by_cases z:kd=7
   . rw [if_pos z];exact hy
   . rw [if_neg z,if_pos (e78.resolve_left z)];exact hy
 rw [if_neg (fun z=>e78 (.inl z)),if_neg (fun z=>e78 (.inr z))]
 refine hM ?_
 walk_at "rd"
 refine hN _ ?_
 clear hN N hY hM Y M;refine zg fun N hN=>?_
 walk_at "rd hLM"
 refine ite2 (fun e=>?_) fun e9=>hN _ ?_
 . refine⟨hsz _ #[0],?_⟩
   refine zX dS (fun s=>dS (s.1,[])) (fun ρ=>∃ t u,ρ = [t,u]) l ?_ _ _ _ _ ⟨none,none,rfl⟩ ?_
   . rintro s hs ρ fa acc K ⟨t,u,rfl⟩ k
     walk_at "rd"
     exact k _ ⟨_,_,rfl⟩
   . have:=q true (l.map fun s=>(s.1,[])) (fun z=>by have:=(z.2.1 (s.1,[]) (Ya7.mpr ⟨s,hs2,rfl⟩)).2.1.1.1;simp at this) #[6]
     rw [dSs,YaD] at this;exact this
 clear hN N;refine zg fun N hN=>?_
 walk_at "rd J5"
 refine ite2 (fun e=>?_) fun e10=>hN _ ?_
 . refine⟨#[1],?_⟩
   exact q true [(30,s.2),(31+far%30,s.2)] (fun z=>by
    have h3:=z.2.2;have h4:tot [(30,s.2),(31+far%30,s.2)]=30+(31+far%30):=by unfold tot;simp
    omega) (by simp)
 clear hN N;have bad0:∀ t ws,¬(1<=t/\okW ws)\/60<t->¬okS (l.take at_.toNat++[(t,ws)]++l.drop (at_+1).toNat):=fun t ws h z=>by
  rcases h with h|h
  . exact zf4 (zbH l (t,ws) at_) h z
  . have h1:=zbn (fun t ht=>(z.2.1 t ht).1) (zbH l (t,ws) at_)
    have h2:=z.2.2;have h3:t<=_:=h1
    omega
 refine zH (fun ρ'=>∃ (t:Int) (f:Bool) (ws:List Int),ρ'=[some (.sh false (.list (l.map dS))),#[5,cc],#[5,at_],#[5,far],#[5,kd],#[5,t],some (.sh f (.list (ws.map PyData.int))),#[5,who]]/\ws.length<=100/\((2<kd/\ws=s.2)\/(kd<=2/\(¬(1<=t/\okW ws)\/60<t)))) (fun N hN=>?_) ?_
 . walk_at "rd"
   refine ite2 (fun e=>⟨#[1],hN _ ⟨_,_,s.2,rfl,#[0],.inr ⟨#[0],.inl fun z=>by have:=z.1;omega⟩⟩⟩) fun e=>hN _ ⟨_,_,s.2,rfl,#[0],.inl ⟨#[0],rfl⟩⟩
 rintro ρ ⟨t,f1,ws,rfl,hwl1,hst⟩
 refine zH (fun ρ'=>∃ (t:Int) (f:Bool) (ws:List Int),ρ'=[some (.sh false (.list (l.map dS))),#[5,cc],#[5,at_],#[5,far],#[5,kd],#[5,t],some (.sh f (.list (ws.map PyData.int))),#[5,who]]/\ws.length<=100/\((3<kd/\ws=s.2)\/(kd<=3/\(¬(1<=t/\okW ws)\/60<t)))) (fun N hN=>?_) ?_
 . walk_at "rd"
   refine ite2 (fun e=>hN _ ⟨_,_,ws,rfl,hwl1,.inr ⟨#[0],.inr #[0]⟩⟩) fun e=>hN _ ⟨_,_,ws,rfl,hwl1,hst.elim (fun z=>.inl ⟨#[0],z.2⟩) fun z=>.inr ⟨#[0],z.2⟩⟩
 clear hst hwl1
 rintro ρ ⟨t,f1,ws,rfl,hwl1,hst⟩
 refine zH (fun ρ'=>∃ (t:Int) (f:Bool) (ws:List Int),ρ'=[some (.sh false (.list (l.map dS))),#[5,cc],#[5,at_],#[5,far],#[5,kd],#[5,t],some (.sh f (.list (ws.map PyData.int))),#[5,who]]/\ws.length<=100/\((4<kd/\ws=s.2)\/(kd<=4/\(¬(1<=t/\okW ws)\/60<t)))) (fun N hN=>?_) ?_
 . refine j1 fun Y M hY hM=>?_
   walk_at "rd"
   refine ite2 (fun e=>hY ?_) fun e=>hM ?_
   . rcases hst with ⟨_,rfl⟩|hst
     case inr=>exact absurd hst.1 #[0]
     walk_at "rd hc1 hc2 J5"
     refine⟨hsz _ #[6],hsz _ #[6],?_⟩
     rw [show List.map PyData.int (s.2.take who.toNat)++[PyData.int (0 - 1 - far)]++List.map PyData.int (s.2.drop (who+1).toNat)=(s.2.take who.toNat++[0 - 1 - far]++s.2.drop (who+1).toNat).map PyData.int by rw [Ya2,Ya2];rfl]
     exact hN _ ⟨_,_,_,rfl,#[6],.inr ⟨#[0],.inl fun z=>by
      have h1:=z.2.2.1 (0 - 1 - far) (by simp)
      omega⟩⟩
   . walk_at "rd"
     exact hN _ ⟨_,_,ws,rfl,hwl1,hst.elim (fun z=>.inl ⟨#[0],z.2⟩) fun z=>.inr ⟨#[0],z.2⟩⟩
 clear hst hwl1
 rintro ρ ⟨t,f1,ws,rfl,hwl1,hst⟩
 refine zH (fun ρ'=>∃ (t:Int) (f:Bool) (ws:List Int),ρ'=[some (.sh false (.list (l.map dS))),#[5,cc],#[5,at_],#[5,far],#[5,kd],#[5,t],some (.sh f (.list (ws.map PyData.int))),#[5,who]]/\ws.length<=100/\((5<kd/\ws=s.2)\/(kd<=5/\(¬(1<=t/\okW ws)\/60<t)))) (fun N hN=>?_) ?_
 . refine j1 fun Y M hY hM=>?_
   walk_at "rd"
   refine ite2 (fun e=>hY ?_) fun e=>hM ?_
   . rcases hst with ⟨_,rfl⟩|hst
     case inr=>exact absurd hst.1 #[0]
     walk_at "rd hwl"
     refine⟨hsz _ #[0],?_⟩
     refine zX PyData.int (fun _=>PyData.int 0) (fun ρ=>∃ t,ρ = [t]) s.2 ?_ _ _ _ _ ⟨none,rfl⟩ ?_
     . rintro x hx ρ fa acc K ⟨t,rfl⟩ k
       walk_at "rd"
       exact k _ ⟨_,rfl⟩
     refine hN _ ⟨t,true,s.2.map fun _=>0,?_,by rw [YaR];omega,.inr ⟨#[0],.inl fun z=>z.2.2.2 (zfi s.2)⟩⟩
     rw [List.nil_append,YaD];rfl
   . walk_at "rd"
     exact hN _ ⟨_,_,ws,rfl,hwl1,hst.elim (fun z=>.inl ⟨#[0],z.2⟩) fun z=>.inr ⟨#[0],z.2⟩⟩
 clear hst hwl1
 rintro ρ ⟨t,f1,ws,rfl,hwl1,hst⟩
 refine zH (fun ρ'=>∃ (t:Int) (f:Bool) (ws:List Int),ρ'=[some (.sh false (.list (l.map dS))),#[5,cc],#[5,at_],#[5,far],#[5,kd],#[5,t],some (.sh f (.list (ws.map PyData.int))),#[5,who]]/\ws.length<=100/\((6<kd/\ws=s.2)\/(kd<=6/\(¬(1<=t/\okW ws)\/60<t)))) (fun N hN=>?_) ?_
 . refine j1 fun Y M hY hM=>?_
   walk_at "rd"
   refine ite2 (fun e=>hY ?_) fun e=>hM ?_
   . rcases hst with ⟨_,rfl⟩|hst
     case inr=>exact absurd hst.1 #[0]
     walk_at "rd hc1 hc2 J5"
     refine⟨p30,hsz _ #[6],hsz _ #[6],?_⟩
     rw [show List.map PyData.int (s.2.take who.toNat)++[PyData.int (10 ^ Int.toNat 30+far)]++List.map PyData.int (s.2.drop (who+1).toNat)=(s.2.take who.toNat++[10 ^ Int.toNat 30+far]++s.2.drop (who+1).toNat).map PyData.int by rw [Ya2,Ya2];rfl]
     exact hN _ ⟨_,_,_,rfl,#[6],.inr ⟨#[0],.inl fun z=>by
      have h1:=z.2.2.1 (10 ^ Int.toNat 30+far) (by simp)
      have e:(10 ^ Int.toNat 30:Int)=10 ^ 30:=rfl;omega⟩⟩
   . walk_at "rd"
     exact hN _ ⟨_,_,ws,rfl,hwl1,hst.elim (fun z=>.inl ⟨#[0],z.2⟩) fun z=>.inr ⟨#[0],z.2⟩⟩
 clear hst hwl1
 rintro ρ ⟨t,f1,ws,rfl,hwl1,hst⟩
 rcases hst with z|⟨_,hst⟩
 . exact absurd z.1 #[0]
 obtain⟨m1,m2,m3⟩:=put t ws (bad0 t ws hst)
 walk_at "rd"
 exact⟨m1,m2,m3 _⟩
theorem zf1(T:Txt c K mg) : dd_law_bad_spells P w K mg base:=by
 obtain⟨f,fd,F,hm⟩:=T.d_law_bad_spells;have hb:=F.binds (ps:=["_law_spells_here", "_law_cell"]) fun _ _ _ _ _ _ us hl=>by obtain⟨_,_,rfl⟩:=zR hl;rfl
 refine⟨fun ds Q Q' E E' hQ hE h=>?_,⟨f,fd,zhU T F,hb,F.kp,hm⟩⟩
 obtain⟨a,b,e,x,h⟩:=h;exact⟨a,b,e,x,fun f l y z=>hQ _ _ (h f l y z)⟩
theorem zdY:FnScope ["_law_bounds_here", "_law_cell", "_law_at", "_law_far", "_law_below", "_law_above"] ["_law_bounds_here", "_law_cell"] (ze Jm):=⟨rfl,rfl,rfl,#[3],rfl,#[3],#[3]⟩
theorem ziG(T:Txt c K mg)(zlf:#[8,dd_law_ratio]){f:Addr}{fd:FuncData}(F:Fun K "_law_bad_bounds" "_law_bad_bounds" Jm f fd):FnOk P w K mg base (CXR P w) 2 f fd ["_law_bounds_here", "_law_cell"] (spL K Zf):=by
 have S:=zdY;refine fn3 F S (fun ds Q E h=>?_) (fun cdv A outer s H E E3 hE hr=>?_)
 . obtain⟨_,_,_,rfl,_⟩:=h;rfl
 refine⟨_,(zc (zf (i:=2) S.nd rfl #[2] (op3 zl (op3 zE (n3 1) i3) (zB zL rfl T.n_len zO (za (n3 0) zb))))
  (zc (zf (i:=3) S.nd rfl #[2] (op3 zl (op3 zE (n3 1) i3) (op3 jp i3 i3)))
  (zc (zc5 (at3 (n3 0) (n3 2) #[4]) (zW (n:=2) rfl (zy (zi (i:=4) S.nd rfl #[2]) (zy (zi (i:=5) S.nd rfl #[2]) zV))))
  (zc (s_if (zk (zw hr.units) (op3 zl (n3 1) i3) i3 (nomark _)) (zd (zr (new3 (cat3 (n3 0) (new3 (zA (za (zF (za (zF (za i3 (za i3 zb))) (za (zF (za i3 (za i3 zb))) zb))) zb))))))) zj)
  (zc (s_if (zk (zw hr.units) (op3 zl (n3 1) i3) i3 (nomark _)) (zd (zr (new3 (cat3 (new3 (jd (n3 0) zZ (ja (n3 2)))) (new3 (jd (n3 0) (ja (op3 zz (n3 2) i3)) zZ)))))) zj)
  (zc (s_if (zk (zw hr.units) (op3 zl (n3 1) i3) i3 (nomark _)) (zd (zf (i:=4) S.nd rfl #[2] (zF (za (op3 je (op3 je i3 i3) (n3 3)) (za i3 zb))))) zj)
  (zc (s_if (zk (zw hr.units) (op3 zl (n3 1) i3) i3 (nomark _)) (zd (zf (i:=5) S.nd rfl #[2] (df3 hE zlf (hr.mono #[1]) rfl zm (za (op3 je (op3 je i3 i3) (n3 3)) (za i3 zb))))) zj)
  (zc (s_if (zk (zw hr.units) (op3 zl (n3 1) i3) i3 (nomark _)) (zd (zf (i:=4) S.nd rfl #[2] (zF (za (op3 zz i3 (n3 3)) (za i3 zb))))) zj)
  (zc (s_if (zk (zw hr.units) (op3 zl (n3 1) i3) i3 (nomark _)) (zd (zf (i:=5) S.nd rfl #[2] (df3 hE zlf (hr.mono #[1]) rfl zm (za (op3 zz (op3 z6 i3 (op3 zz i3 (n3 3))) i3) (za (op3 zz i3 (n3 3)) zb))))) zj)
  (zd (zr (new3 (cat3 (new3 (cat3 (new3 (jd (n3 0) zZ (ja (n3 2)))) (new3 (zA (za (zF (za (n3 4) (za (n3 5) zb))) zb))))) (new3 (jd (n3 0) (ja (op3 zz (n3 2) i3)) zZ))))))))))))))),fun ds Q h=>?_⟩
 obtain⟨l,cc,n,rfl,hok,h1,h8,ho,q⟩:=h;have hl:=hok.1;have hat0:=Ybc (cc/6) (show(l.length:Int)≠0 by omega)
 have hat1:=Ybd (cc/6) (show 0<(l.length:Int) by omega)
 obtain⟨s,hs1,hs2,hs3⟩:=j7 hat0 hat1;have hs1':atI (List.map dP l) (cc/6%(l.length:Int))=some (PyData.tuple [dQ s.1,dQ s.2]):=by rw [jO,hs1];rfl
 have hsz:∀ n:Nat,n<=1000->n<=sizeLine:=fun n h=>Ya5 h #[1]
 have hLM:(List.map dP l).length=l.length:=YaR ..;have hc1:cut (List.map dP l) none (some (cc/6%(l.length:Int)))=(l.take (cc/6%(l.length:Int)).toNat).map dP:=by rw [jF,zag l hat0 #[0]]
 have hc2:cut (List.map dP l) (some (cc/6%(l.length:Int)+1)) none=(l.drop (cc/6%(l.length:Int)+1).toNat).map dP:=by rw [jF,zaE l #[0] #[0]]
 obtain⟨s1,s2⟩:=ho s hs2;refine zg fun N hN=>?_
 walk_at "rd hLM"
 refine⟨divP,#[0],hN _ ?_⟩
 clear hN N;refine zg fun N hN=>?_
 walk_at "rd"
 refine⟨divP,powB (k:=4) (by unfold Bits;decide) #[1] #[1],#[1],hN _ ?_⟩
 clear hN N;refine zg fun N hN=>?_
 walk_at "rd hs1'"
 refine hN _ ?_
 clear hN N;have hf0:=Ybc (cc/48) (show(10 ^ Int.toNat 20:Int)≠0 by decide)
 have hf1:cc/48%10 ^ Int.toNat 20<10 ^ 20:=Ybd (cc/48) (show(0:Int)<10 ^ Int.toNat 20 by decide)
 generalize cc/48%10 ^ Int.toNat 20=far at *;generalize cc/6%(l.length:Int)=at_ at *;have hkd:0<=cc%6/\cc%6<6:=#[0]
 have put:∀ p:Rat2×Rat2,okQ p.1->okQ p.2->¬(inQ p.1/\inQ p.2)->(List.map dP (l.take at_.toNat)).length+1<=sizeLine/\(List.map dP (l.take at_.toNat)++[dP p]).length+(List.map dP (l.drop (at_+1).toNat)).length<=sizeLine/\∀ f,Q f (PyData.list (List.map dP (l.take at_.toNat)++[dP p]++List.map dP (l.drop (at_+1).toNat))):=fun p p1 p2 hp=>by
  refine⟨hsz _ #[6],hsz _ #[6],fun f=>?_⟩
  have:=q f (l.take at_.toNat++[p]++l.drop (at_+1).toNat) (fun z=>hp (z.2 p (by simp))) (fun x hx=>by
   rcases Ya3.mp hx with hx|hx
   . rcases Ya3.mp hx with hx|hx
     . exact ho x (List.mem_of_mem_take hx)
     . rw [Ya6.mp hx];exact⟨p1,p2⟩
   . exact ho x (List.mem_of_mem_drop hx)) #[6]
  rw [dPs,Ya2,Ya2] at this;exact this
 have bb:∀ x y:Int,0<y->-(10 ^ 25)<=x->x<=10 ^ 25->y<=10 ^ 25->okQ (x,y)/\okQ (lowQ x y):=fun x y h h1 h2 h3=>by
  have bx:Bits 90 x:=by unfold Bits;omega
  have bY:Bits 90 y:=by unfold Bits;omega
  exact⟨⟨h,bx.mono #[1],bY.mono #[1]⟩,zcF h (bx.mono #[1]) (bY.mono #[1])⟩
 have ln:∀ a b:Int,0<b->(a<0\/10*b<a)->¬inQ (lowQ a b):=fun a b hb h z=>by
  obtain⟨l1,l2,l3,l4⟩:=zbz (a:=a) hb;have hg:=za6 (a:=a) hb;have z1:0<=a/(Int.gcd a b:Int):=z.1;have z2:a/(Int.gcd a b:Int)<=10*(b/(Int.gcd a b:Int)):=z.2;have y1:=YaK z1 (show 0<=(Int.gcd a b:Int) by omega)
  have y2:=Ybe z2 (show 0<=(Int.gcd a b:Int) by omega)
  rw [l3] at y1 y2;rw [Int.mul_assoc,l4] at y2
  omega
 refine zg fun N hN=>?_
 walk_at "rd hLM"
 refine⟨#[1],ite2 (fun e=>?_) fun e0=>hN _ ?_⟩
 . refine⟨hsz _ #[0],?_⟩
   have:=q ((List.map dP l).all zo) (l++[((1,1),(1,1))]) (fun z=>by have:=z.1;simp at this;omega) (fun x hx=>by
    rcases Ya3.mp hx with hx|hx
    . exact ho x hx
    . rw [Ya6.mp hx];exact⟨(bb 1 1 #[1] #[1] #[1] #[1]).1,(bb 1 1 #[1] #[1] #[1] #[1]).1⟩) #[6]
   rw [dPs,Ya2] at this;exact this
 clear hN N;refine zg fun N hN=>?_
 walk_at "rd hc1 hc2 hLM"
 refine⟨#[1],ite2 (fun e=>?_) fun e1=>hN _ ?_⟩
 . refine⟨hsz _ #[6],?_⟩
   rw [<-Ya2];exact q _ _ (fun z=>by have:=z.1;simp at this;omega) (fun x hx=>by
    rcases Ya3.mp hx with hx|hx
    . exact ho x (List.mem_of_mem_take hx)
    . exact ho x (List.mem_of_mem_drop hx)) #[6]
 clear hN N;have e6:1<cc%6:=#[0]
 refine zH (fun ρ'=>∃ (f g:Bool) (p:Rat2×Rat2),ρ'=[some (.sh false (.list (l.map dP))),#[5,cc],#[5,at_],#[5,far],some (.sh f (dQ p.1)),some (.sh g (dQ p.2))]/\(okQ p.1/\okQ p.2)/\(2<cc%6\/¬(inQ p.1/\inQ p.2))) (fun N hN=>?_) ?_
 . walk_at "rd"
   refine⟨#[1],ite2 (fun e=>hN _ ⟨_,_,((0 - 1 - far,1),s.2),rfl,⟨(bb (0 - 1 - far) 1 #[1] #[0] #[0] #[1]).1,s2⟩,.inr fun z=>by have h:0<=0 - 1 - far:=z.1.1;omega⟩) fun e=>hN _ ⟨_,_,s,rfl,⟨s1,s2⟩,.inl #[0]⟩⟩
 rintro ρ ⟨f1,g1,p,rfl,hp,hst⟩
 refine zH (fun ρ'=>∃ (f g:Bool) (p:Rat2×Rat2),ρ'=[some (.sh false (.list (l.map dP))),#[5,cc],#[5,at_],#[5,far],some (.sh f (dQ p.1)),some (.sh g (dQ p.2))]/\(okQ p.1/\okQ p.2)/\(3<cc%6\/¬(inQ p.1/\inQ p.2))) (fun N hN=>?_) ?_
 . walk_at "rd"
   refine⟨#[1],ite2 (fun e=>⟨#[1],Bits.lit (x:=2) 9000,hN _ ⟨_,_,(p.1,lowQ (0 - 1 - far) 2),rfl,⟨hp.1,(bb (0 - 1 - far) 2 #[1] #[0] #[0] #[1]).2⟩,.inr fun z=>ln (0 - 1 - far) 2 #[1] #[0] z.2⟩⟩) fun e=>hN _ ⟨_,_,p,rfl,hp,hst.elim (fun z=>.inl #[0]) .inr⟩⟩
 clear hst hp p
 rintro ρ ⟨f1,g1,p,rfl,hp,hst⟩
 refine zH (fun ρ'=>∃ (f g:Bool) (p:Rat2×Rat2),ρ'=[some (.sh false (.list (l.map dP))),#[5,cc],#[5,at_],#[5,far],some (.sh f (dQ p.1)),some (.sh g (dQ p.2))]/\(okQ p.1/\okQ p.2)/\(4<cc%6\/¬(inQ p.1/\inQ p.2))) (fun N hN=>?_) ?_
 . walk_at "rd"
   refine⟨#[1],ite2 (fun e=>hN _ ⟨_,_,((11+far,1),p.2),rfl,⟨(bb (11+far) 1 #[1] #[0] #[0] #[1]).1,hp.2⟩,.inr fun z=>by have h:11+far<=10*1:=z.1.2;omega⟩) fun e=>hN _ ⟨_,_,p,rfl,hp,hst.elim (fun z=>.inl #[0]) .inr⟩⟩
 clear hst hp p
 rintro ρ ⟨f1,g1,p,rfl,hp,hst⟩
 refine zH (fun ρ'=>∃ (f g:Bool) (p:Rat2×Rat2),ρ'=[some (.sh false (.list (l.map dP))),#[5,cc],#[5,at_],#[5,far],some (.sh f (dQ p.1)),some (.sh g (dQ p.2))]/\(okQ p.1/\okQ p.2)/\(5<cc%6\/¬(inQ p.1/\inQ p.2))) (fun N hN=>?_) ?_
 . walk_at "rd"
   refine⟨#[1],ite2 (fun e=>⟨(Bits.lit (x:=10) 90).mulOk (show Bits 90 (1+far) by unfold Bits;omega) #[1],#[0],(show Bits 90 (1+far) by unfold Bits;omega).mono #[1],hN _ ⟨_,_,(p.1,lowQ (10*(1+far)+1) (1+far)),rfl,⟨hp.1,(bb (10*(1+far)+1) (1+far) #[0] #[0] #[0] #[0]).2⟩,.inr fun z=>ln (10*(1+far)+1) (1+far) #[0] #[0] z.2⟩⟩) fun e=>hN _ ⟨_,_,p,rfl,hp,hst.elim (fun z=>.inl #[0]) .inr⟩⟩
 clear hst hp p
 rintro ρ ⟨f1,g1,p,rfl,hp,hst⟩
 obtain⟨m1,m2,m3⟩:=put p hp.1 hp.2 (hst.resolve_left #[0])
 walk_at "rd hc1 hc2"
 exact⟨m1,m2,m3 _⟩
theorem zjI(T:Txt c K mg)(zlf:#[8,dd_law_ratio]):dd_law_bad_bounds P w K mg base:=by
 obtain⟨f,fd,F,hm⟩:=T.d_law_bad_bounds;have hb:=F.binds (ps:=["_law_bounds_here", "_law_cell"]) fun _ _ _ _ _ _ us hl=>by obtain⟨_,_,rfl⟩:=zR hl;rfl
 refine⟨fun ds Q Q' E E' hQ hE h=>?_,⟨f,fd,ziG T zlf F,hb,F.kp,hm⟩⟩
 obtain⟨a,b,n,e,x1,x2,x3,x4,h⟩:=h;exact⟨a,b,n,e,x1,x2,x3,x4,fun f l y z w=>hQ _ _ (h f l y z w)⟩
theorem zjW:FnScope ["_law_rules_here", "_law_turns", "_law_clans", "_law_cell", "_law_far", "_law_word", "_law_turn", "_law_clan", "_law_at"] ["_law_rules_here", "_law_turns", "_law_clans", "_law_cell"] (ze Jb):=⟨rfl,rfl,rfl,#[3],rfl,#[3],#[3]⟩
theorem zhG(T:Txt c K mg){f:Addr}{fd:FuncData}(F:Fun K "_law_bad_rule" "_law_bad_rule" Jb f fd):FnOk P w K mg base (CXR P w) 1 f fd ["_law_rules_here", "_law_turns", "_law_clans", "_law_cell"] (spL K Zd):=by
 have S:=zjW;refine fn3 F S (fun ds Q E h=>?_) (fun cdv A outer s H E E3 hE hr=>?_)
 . obtain⟨_,_,_,_,rfl,_⟩:=h;rfl
 refine⟨_,(zc (zf (i:=4) S.nd rfl #[2] (op3 zl (op3 zE (n3 3) i3) (op3 jp i3 i3)))
  (zc (zf (i:=5) S.nd rfl #[2] (at3 (new3 (zA (za s3 (za s3 zb)))) (op3 zl (op3 zE (n3 3) i3) i3) #[4]))
  (zc (zf (i:=6) S.nd rfl #[2] (op3 zz i3 (op3 zl (n3 4) (n3 1))))
  (zc (zf (i:=7) S.nd rfl #[2] (op3 zl (n3 4) (n3 2)))
  (zc (s_if (zk (zw hr.units) (op3 zl (n3 3) i3) i3 (nomark _)) (zd (zf (i:=5) S.nd rfl #[2] (at3 (new3 (zA (za s3 (za s3 (za s3 (za s3 (za s3 zb))))))) (op3 zl (n3 4) i3) #[4]))) zj)
  (zc (s_if (zk (zw hr.units) (op3 zl (n3 3) i3) i3 (nomark _)) (zd (zf (i:=6) S.nd rfl #[2] (op3 je i3 (op3 zl (n3 4) i3)))) zj)
  (zc (s_if (zk (zw hr.units) (op3 zl (n3 3) i3) i3 (nomark _)) (zd (zf (i:=6) S.nd rfl #[2] (op3 zz (op3 zz (n3 1) i3) (n3 4)))) zj)
  (zc (s_if (zk (zw hr.units) (op3 zl (n3 3) i3) i3 (nomark _)) (zd (zf (i:=7) S.nd rfl #[2] (op3 je (op3 je i3 i3) (n3 4)))) zj)
  (zc (s_if (zk jR (op3 zl (n3 3) i3) i3 (nomark _)) (zd (zf (i:=7) S.nd rfl #[2] (op3 zz (n3 2) (op3 z6 (n3 4) (op3 je (op3 zl (n3 3) i3) i3))))) zj)
  (zc (zf (i:=8) S.nd rfl #[2] (op3 zl (op3 zE (n3 3) i3) (op3 zz (zB zL rfl T.n_len zO (za (n3 0) zb)) i3)))
  (zd (zr (new3 (cat3 (new3 (cat3 (new3 (jd (n3 0) zZ (ja (n3 8)))) (new3 (zA (za (zF (za (n3 5) (za (n3 6) (za (n3 7) zb)))) zb))))) (new3 (jd (n3 0) (ja (n3 8)) zZ)))))))))))))))),fun ds Q h=>?_⟩
 obtain⟨rs,T',n,cc,rfl,hl,htx,hT1,hT2,hn1,hn2,q⟩:=h;have hf0:=Ybc (cc/120) (show(10 ^ Int.toNat 20:Int)≠0 by decide)
 have hf1:=Ybd (cc/120) (show(0:Int)<10 ^ Int.toNat 20 by decide)
 refine zg fun N hN=>?_
 walk_at "rd"
 refine⟨divP,powB (k:=4) (by unfold Bits;decide) #[1] #[1],#[1],hN _ ?_⟩
 clear hN N;generalize cc/120%10 ^ Int.toNat 20=far at hf0 hf1;obtain⟨d,hd,hm,_⟩:=j7 (xs:=[PyData.str "fixed", PyData.str "barred"]) (i:=cc/6%2) #[0] (by show cc/6%2<2;omega)
 obtain⟨w,rfl,hw⟩:∃ z:Str,d=PyData.str z/\SeqAt.shaped (.str z)=true:=by
  simp only [WaB,Wav,or_false] at hm
  rcases hm with rfl|rfl
  . exact⟨_,rfl,zcy⟩
  . exact⟨_,rfl,zdw⟩
 refine zg fun N hN=>?_
 walk_at "rd"
 refine⟨divP,#[1],_,hd,hN _ ?_⟩
 clear hN N hd hm;refine zg fun N hN=>?_
 walk_at "rd"
 refine⟨#[0],hN _ ?_⟩
 clear hN N;refine zg fun N hN=>?_
 walk_at "rd"
 refine⟨#[0],hN _ ?_⟩
 clear hN N;generalize 1+far%T'=tn;generalize far%n=cl;have hk6:0<=cc%6/\cc%6<6:=#[0]
 refine zH (fun ρ=>∃ w:Str,ρ = [some (.sh false (.list (rs.map dRl))),#[5,T'],#[5,n],#[5,cc],#[5,far],some (.sh true (.str w)),#[5,tn],#[5,cl],none]/\SeqAt.shaped (.str w)=true/\(cc%6=0->¬(w = "fixed"\/w = "barred"))) (fun N hN=>?_) ?_
 . obtain⟨d,hd,hm,_⟩:=j7 (xs:=[PyData.str "fix", PyData.str "Fixed", PyData.str "bar", PyData.str "", PyData.str "barred "]) (i:=far%5) #[0] (by show far%5<5;omega)
   obtain⟨w',rfl,hw',hn'⟩:∃ z:Str,d=PyData.str z/\SeqAt.shaped (.str z)=true/\¬(z = "fixed"\/z = "barred"):=by
    simp only [WaB,Wav,or_false] at hm
    rcases hm with rfl|rfl|rfl|rfl|rfl<;>exact⟨_,rfl,#[3],#[3]⟩
   walk_at "rd"
   exact⟨#[1],ite2 (fun _=>⟨#[1],_,hd,hN _ ⟨w',rfl,hw',fun _=>hn'⟩⟩) fun z=>hN _ ⟨w,rfl,hw,fun y=>absurd y z⟩⟩
 rintro ρ ⟨w,rfl,hw,hb0⟩
 refine zH (fun ρ=>∃ tn:Int,ρ = [some (.sh false (.list (rs.map dRl))),#[5,T'],#[5,n],#[5,cc],#[5,far],some (.sh true (.str w)),#[5,tn],#[5,cl],none]/\(cc%6=1->tn<1)) (fun N hN=>?_) ?_
 . walk_at "rd"
   exact⟨#[1],ite2 (fun _=>⟨#[1],hN _ ⟨_,rfl,fun _=>by omega⟩⟩) fun z=>hN _ ⟨_,rfl,fun y=>absurd y z⟩⟩
 rintro ρ ⟨tn1,rfl,hb1⟩
 refine zH (fun ρ=>∃ tn:Int,ρ = [some (.sh false (.list (rs.map dRl))),#[5,T'],#[5,n],#[5,cc],#[5,far],some (.sh true (.str w)),#[5,tn],#[5,cl],none]/\(cc%6=1->tn<1)/\(cc%6=2->T'<tn)) (fun N hN=>?_) ?_
 . walk_at "rd"
   exact⟨#[1],ite2 (fun e=>hN _ ⟨_,rfl,fun y=>absurd y #[0],fun _=>by omega⟩) fun z=>hN _ ⟨_,rfl,hb1,fun y=>absurd y z⟩⟩
 clear hb1
 rintro ρ ⟨tn2,rfl,hb1,hb2⟩
 refine zH (fun ρ=>∃ cl:Int,ρ = [some (.sh false (.list (rs.map dRl))),#[5,T'],#[5,n],#[5,cc],#[5,far],some (.sh true (.str w)),#[5,tn2],#[5,cl],none]/\(cc%6=3->cl<0)) (fun N hN=>?_) ?_
 . walk_at "rd"
   exact⟨#[1],ite2 (fun e=>hN _ ⟨_,rfl,fun _=>by omega⟩) fun z=>hN _ ⟨_,rfl,fun y=>absurd y z⟩⟩
 rintro ρ ⟨cl1,rfl,hb3⟩
 refine zH (fun ρ=>∃ cl:Int,ρ = [some (.sh false (.list (rs.map dRl))),#[5,T'],#[5,n],#[5,cc],#[5,far],some (.sh true (.str w)),#[5,tn2],#[5,cl],none]/\(cc%6=3->cl<0)/\(3<cc%6->n<=cl)) (fun N hN=>?_) ?_
 . have hmu:3<cc%6->0<=far*(cc%6 - 4):=fun e=>YaK hf0 #[0]
   have hfb:Bits 100 far:=by
    have h2:(10:Int) ^ Int.toNat 20=100000000000000000000:=#[1]
    rw [h2] at hf1;unfold Bits
    omega
   have hmb:IntMulOk far (cc%6 - 4):=hfb.mulOk (Bits.lit (x:=cc%6 - 4) 64 #[0]) #[1]
   walk_at "rd"
   exact⟨#[1],ite2 (fun e=>⟨#[1],hmb,hN _ ⟨_,rfl,fun y=>absurd y #[0],fun _=>by have:=hmu e;omega⟩⟩) fun z=>hN _ ⟨_,rfl,hb3,fun y=>absurd y z⟩⟩
 clear hb3
 rintro ρ ⟨cl2,rfl,hb3,hb4⟩
 have hbad:¬okRl T' n (w,tn2,cl2):=fun z=>by
  obtain⟨z1,⟨z2,z3⟩,z4,z5⟩:=z;have z2:1<=tn2:=z2;have z3:tn2<=T':=z3;have z4:0<=cl2:=z4;have z5:cl2<n:=z5
  by_cases e0:cc%6=0
  . exact hb0 e0 z1
  . by_cases e1:cc%6=1
    . have:=hb1 e1;omega
    . by_cases e2:cc%6=2
      . have:=hb2 e2;omega
      . by_cases e3:cc%6=3
        . have:=hb3 e3;omega
        . have:=hb4 #[0];omega
 refine zg fun N hN=>?_
 walk_at "rd YaR"
 refine⟨divP,#[0],hN _ ?_⟩
 clear hN N;have a0:=Ybc (cc/12) (show(rs.length:Int)+1≠0 by omega)
 have a1:=Ybd (cc/12) (show 0<(rs.length:Int)+1 by omega)
 generalize cc/12%((rs.length:Int)+1)=at_ at a0 a1;have c1:cut (rs.map dRl) none (some at_)=(rs.take at_.toNat).map dRl:=by rw [jF,zag rs a0 #[0]]
 have c2:cut (rs.map dRl) (some at_) none=(rs.drop at_.toNat).map dRl:=by rw [jF,zaE rs a0 #[0]]
 have hb:=ziN (rs:=rs) (i:=at_.toNat) hbad
 walk_at "rd c1 c2"
 have l1:=List.length_take_le at_.toNat rs;have l2:=List.length_drop (i:=at_.toNat) (l:=rs);refine⟨sz (by rw [YaR];omega),sz (by rw [YaS,YaR,YaR,List.length_singleton];omega),?_⟩
 have e:List.map dRl (rs.take at_.toNat)++[PyData.tuple [PyData.str w,PyData.int tn2,PyData.int cl2]]++List.map dRl (rs.drop at_.toNat)=(rs.take at_.toNat++[(w,tn2,cl2)]++rs.drop at_.toNat).map dRl:=by rw [Ya2,Ya2];rfl
 rw [e];refine q _ _ hb (fun r hr=>?_) ?_
 . rcases Ya3.mp hr with z|z
   . rcases Ya3.mp z with y|y
     . exact htx r (List.mem_of_mem_take y)
     . rw [Ya6.mp y];exact hw
   . exact htx r (List.mem_of_mem_drop z)
 . rw [YaS,YaS,List.length_singleton];omega
theorem zkP(T:Txt c K mg) : dd_law_bad_rule P w K mg base:=by
 obtain⟨f,fd,F,hm⟩:=T.d_law_bad_rule;have hb:=F.binds (ps:=["_law_rules_here", "_law_turns", "_law_clans", "_law_cell"]) fun _ _ _ _ _ _ us hl=>by obtain⟨_,_,_,_,rfl⟩:=zaM hl;rfl
 refine⟨fun ds Q Q' E E' hQ hE h=>?_,⟨f,fd,zhG T F,hb,F.kp,hm⟩⟩
 obtain⟨a,b,d,f,e,x1,x2,x3,x4,x5,x6,h1⟩:=h;exact⟨a,b,d,f,e,x1,x2,x3,x4,x5,x6,fun u v w z y=>hQ _ _ (h1 u v w z y)⟩
theorem zhh:FnScope ["weights", "weight"] ["weights"] (ze j9):=⟨rfl,rfl,rfl,#[3],rfl,#[3],#[3]⟩
theorem zim(T:Txt c K mg){f:Addr}{fd:FuncData}(F:Fun K "check_weights" "check_weights" j9 f fd):FnOk P w K mg base (CXR P w) 1 f fd ["weights"] (spL K (Zz c)):=by
 have S:=zhh;refine fn3 F S (fun ds Q E h=>?_) (fun cdv A outer s H E E3 hE hr=>?_)
 . obtain⟨_,rfl,_⟩:=h;rfl
 refine⟨_,(zc (s_if (zaY (zaG JD JD i3 (zB zL rfl T.n_len zO (za (n3 0) zb)) (g3i rfl T.m_MOST_CLANS))) (zd (ji hE jh rfl rfl T.m_NoSpell T.e_NoSpell (za s3 zb))) zj)
  (zc (zM Waq rfl (zN (n3 0)) (zi (i:=1) S.nd rfl #[2]) (zc (s_if (zk jC (n3 1) i3 (nomark _)) (zd (ji hE jh rfl rfl T.m_NoSpell T.e_NoSpell (za s3 zb))) zj)
   (zd (s_if (zk zdx (n3 1) (op3 jp i3 i3) (nomark _)) (zd (ji hE jh rfl rfl T.m_NoSpell T.e_NoSpell (za s3 zb))) zj))))
  (zd (s_if (zk (zw hr.units) (zB (JR rfl) rfl T.n_sum Zk (za (n3 0) zb)) i3 (nomark _)) (zd (ji hE jh rfl rfl T.m_NoSpell T.e_NoSpell (za s3 zb))) zj)))),fun ds Q h=>?_⟩
 obtain⟨ws,rfl,q,hE'⟩:=h
 walk_at "rd"
 simp only [YaR]
 by_cases h1:1<=(ws.length:Int)
 case neg=>rw [if_neg h1];exact hE' fun z=>h1 (by have:=z.1.1;omega)
 rw [if_pos h1]
 by_cases h2:(ws.length:Int)<=8
 case neg=>rw [if_pos h2];exact hE' fun z=>h2 (by have:=z.1.2;omega)
 rw [if_neg (fun z=>z h2)]
 refine ZA (fun ds ρ=>∃ rest t,ds=rest.map PyData.int/\ρ = [some (.sh false (.list (ws.map .int))),t]/\(∀ w∈rest,w∈ws)/\∀ w∈ws,w∈rest\/(0<=w/\w<10 ^ 30)) ?_ ?_ _ _ ⟨ws,none,rfl,rfl,fun _ h=>h,fun _ h=>.inl h⟩
 . rintro d ds ρ ⟨rest,t,e,rfl,hin,hall⟩ W hW
   cases rest with
   | nil=>cases e
   | cons w rest=>
    cases e;have hw:=hin w YaV
    walk_at "rd"
    by_cases h3:w<0
    . rw [if_pos h3];exact hE' fun z=>by have:=(z.2.1 w hw).1;omega
    rw [if_neg h3];refine⟨p30,?_⟩
    by_cases h4:(10:Int) ^ Int.toNat 30<=w
    . rw [if_pos h4];exact hE' fun z=>by have:=(z.2.1 w hw).2;exact absurd h4 (by have e:(10:Int) ^ Int.toNat 30=10 ^ 30:=rfl;omega)
    rw [if_neg h4];refine hW _ ⟨rest,_,rfl,rfl,fun x hx=>hin x (YaT _ hx),fun x hx=>?_⟩
    rcases hall x hx with z|z
    . rcases WaB.mp z with rfl|z
      . exact .inr ⟨#[0],by have e:(10:Int) ^ Int.toNat 30=10 ^ 30:=rfl;omega⟩
      . exact .inl z
    . exact .inr z
 . rintro ρ ⟨rest,t,e,rfl,hin,hall⟩
   cases rest with
   | cons _ _=>cases e
   | nil=>
    walk_at "rd"
    refine⟨ws,Zc ws,?_⟩
    by_cases h3:ws.sum=0
    . rw [if_pos h3];exact hE' fun z=>z.2.2 h3
    . rw [if_neg h3]
      exact q ⟨⟨#[0],#[0]⟩,fun w hw=>(hall w hw).resolve_left (by simp),h3⟩
theorem zhp(T:Txt c K mg) : dd_check_weights c P w K mg base:=by
 obtain⟨f,fd,F,hm⟩:=T.d_check_weights;have hb:=F.binds (ps:=["weights"]) fun _ _ _ _ _ _ us hl=>by obtain⟨_,rfl⟩:=JZ hl;rfl
 refine⟨fun ds Q Q' E E' hQ hE h=>?_,⟨f,fd,zim T F,hb,F.kp,hm⟩⟩
 obtain⟨l,e,h1,h2⟩:=h;exact⟨l,e,fun z=>hQ _ _ (h1 z),fun z=>hE _ (h2 z)⟩
theorem zef:FnScope ["spells"] ["spells"] (ze jX):=⟨rfl,rfl,rfl,#[3],rfl,#[3],#[3]⟩
theorem ziJ(T:Txt c K mg){f:Addr}{fd:FuncData}(F:Fun K "all_turns" "all_turns" jX f fd):FnOk P w K mg base (CXR P w) 1 f fd ["spells"] (spL K JT):=by
 have S:=zef;refine fn3 F S (fun ds Q E h=>?_) (fun cdv A outer s H E E3 hE hr=>?_)
 . obtain⟨_,rfl,_⟩:=h;rfl
 refine⟨_,(zd (zr (zB (JR rfl) rfl T.n_sum Zk (za (new3 (z8 ["spell"] [] [] rfl (zU (osc:=ze jX) #[3]) rfl (zN (n3 0)) (fun H0 s H fp cl=>⟨(zi (i:=0) (show((["spell"]:List PySem.Str)++([]:List PySem.Str)).Nodup by decide) rfl #[2]),zY,(at3 (n3 0) i3 #[4])⟩))) zb)))),fun ds Q h=>?_⟩
 obtain⟨l,rfl,hz,q⟩:=h
 walk_at "rd"
 rw [YaR];refine⟨sz #[0],?_⟩
 refine zX (f:=false) dS (fun s=>.int s.1) (fun ρ=>∃ t,ρ = [t]) l ?_ _ _ _ _ ⟨none,rfl⟩ ?_
 . rintro s hs ρ fa acc K ⟨t,rfl⟩ k
   simp only [seq3,next3,set3,own3,ret3,ifS3,tt3,o3,v3,atV,asS,asB,asD,optP,asT,asLd,asL,atO,ZF,nilP,asId,asI,k3,nw3,add3,int3,int0,eq3,ne3,eqOk,eqv3,notN3,isNone,ix3,ixD,j0,nil3,zar,cb3,len3,lenD,abs3,min23,sum3,and3,or3,not3,Zs,orV3,ch3,tup3,lst3,ZO,catN,slL3,no3,zal,zaf,asg3,gn3,ZT,zap,gnil3,app3,put3,frzS,frz,frz1,for3,itL,itT,itZ,rg1,rg2,Jg,true3,cst3,Z3,try3,ZV,isxr,isxy,isxt,jw,shs,Cl.d,Cl.dat,Cl.f,zaW,zo,Option.map_some,Option.map_none,Option.isSome_some,Option.isSome_none,Option.join_some,Option.join_none,List.all_cons,List.all_nil,WaG,WaD,WaF,WaC,WaE,WaJ,Bool.true_or,Ya1,WaI,List.length_cons,List.length_nil,Nat.reduceAdd,Nat.reduceSub,Nat.sub_self,List.replicate,List.cons_append,List.nil_append,Yao,List.getElem?_cons_zero,List.getElem?_cons_succ,List.set_cons_zero,List.set_cons_succ,Wam,Cl.sh.injEq,Cl.ow.injEq,Cl.ex.injEq,Waw,Wao,Wax,Wap,Wai,List.cons.injEq,reduceCtorEq,and_assoc,and_true,true_and,and_self,exists_eq_left,exists_eq_left',exists_eq',exists_eq_right,exists_eq_right',exists_and_left,exists_const,exists_false,false_and,and_false,or_false,false_or,or_true,true_or,decide_true,decide_false,decide_eq_true_eq,Bool.not_true,Bool.not_false,Wah,Waj,if_true,if_false,ite_true,ite_false,Wal,decide_eq_false_iff_not,eq_self_iff_true,not_true_eq_false,not_false_eq_true,sz0,sz1,sz2,sz3,sz4,sz5,par3,aug3,ext3,itE,k3f,ZW,app2,Cl.tr.injEq,Z4,ZN,Cl.dt.injEq,repN,frzD,Cl.fd.injEq,dms,z7,argC,Jd,jz,finM,Cl.dm.injEq,holds,updM,Ze,ZY,ZH,Z1,zab,zan,ZR,zad,zae,Z6,zaj,srtL,ninT3,ZI,Zx,Za,ZD,JP,Zu,ZE,Zh,Zb,Zn,Zf,Zd,Zz,JT,JX,Jt,JC,JU,Zl,Zw,J3,JY,J9,Zi,Zo,Zp,J4,Zq,Zy,JV,Zt,Zv,Zr,JQ,JW,Zm,JS,J7,ZG,JK,dSs,dS,dI,zo,dQ,dP,dPs,jm,dW,atI0,atI1,atI2,atI3,dRs,dRl,atI0]
   exact k _ ⟨_,rfl⟩
 . walk_at "rd"
   refine⟨l.map (fun s:Spell=>s.1),?_,q⟩
   rw [<-Zc (l.map (fun s:Spell=>s.1)),YaD]
   rfl
theorem ziS(T:Txt c K mg) : dd_all_turns P w K mg base:=by
 obtain⟨f,fd,F,hm⟩:=T.d_all_turns;have hb:=F.binds (ps:=["spells"]) fun _ _ _ _ _ _ us hl=>by obtain⟨_,rfl⟩:=JZ hl;rfl
 refine⟨fun ds Q Q' E E' hQ hE h=>?_,⟨f,fd,ziJ T F,hb,F.kp,hm⟩⟩
 obtain⟨l,e,z,h⟩:=h;exact⟨l,e,z,hQ _ _ h⟩
theorem zd7:FnScope ["spells", "turns", "weights"] ["spells"] (ze JJ):=⟨rfl,rfl,rfl,#[3],rfl,#[3],#[3]⟩
theorem zfC(T:Txt c K mg)(zk0:#[8,dd_check_weights c])(zkV:#[8,dd_all_turns]){f:Addr}{fd:FuncData}(F:Fun K "check_spells" "check_spells" JJ f fd):FnOk P w K mg base (CXR P w) 2 f fd ["spells"] (spL K (JX c)):=by
 have S:=zd7;refine fn3 F S (fun ds Q E h=>?_) (fun cdv A outer s H E E3 hE hr=>?_)
 . obtain⟨_,rfl,_⟩:=h;rfl
 refine⟨_,(zc (s_if (zaY (zaG JD JD i3 (zB zL rfl T.n_len zO (za (n3 0) zb)) (g3i rfl T.m_MOST_SPELLS))) (zd (ji hE jh rfl rfl T.m_NoSpell T.e_NoSpell (za s3 zb))) zj)
  (zc (zM Waq rfl (zN (n3 0)) (zW (n:=2) rfl (zy (zi (i:=1) S.nd rfl #[2]) (zy (zi (i:=2) S.nd rfl #[2]) zV))) (zc (s_if (zk jC (n3 1) i3 (nomark _)) (zd (ji hE jh rfl rfl T.m_NoSpell T.e_NoSpell (za s3 zb))) zj)
   (zc (zaa (df3 hE zk0 (hr.mono #[1]) rfl zm (za (n3 2) zb)))
   (zd (s_if (zk (zat hr.units) (zB zL rfl T.n_len zO (za (n3 2) zb)) (zB zL rfl T.n_len zO (za (at3 (at3 (n3 0) i3 #[4]) i3 #[4]) zb)) (nomark _)) (zd (ji hE jh rfl rfl T.m_NoSpell T.e_NoSpell (za s3 zb))) zj)))))
  (zd (s_if (zk jR (df3 hE zkV (hr.mono #[1]) rfl zm (za (n3 0) zb)) (g3i rfl T.m_MOST_TURNS) (nomark _)) (zd (ji hE jh rfl rfl T.m_NoSpell T.e_NoSpell (za s3 zb))) zj)))),fun ds Q h=>?_⟩
 obtain⟨l,rfl,q,hE'⟩:=h
 walk_at "rd"
 simp only [YaR]
 by_cases h1:1<=(l.length:Int)
 case neg=>rw [if_neg h1];exact hE' fun z=>h1 (by have:=z.1.1;omega)
 rw [if_pos h1]
 by_cases h2:(l.length:Int)<=8
 case neg=>rw [if_pos h2];exact hE' fun z=>h2 (by have:=z.1.2;omega)
 rw [if_neg (fun z=>z h2)]
 have hd0:atI (l.map dS) 0=some (dS (l.headD (0,[]))):=by
  cases l with
  | nil=>simp at h1
  | cons a r=>exact atI0
 refine ZA (fun ds ρ=>∃ rest t u,ds=rest.map dS/\ρ = [some (.sh false (.list (l.map dS))),t,u]/\(∀ w∈rest,w∈l)/\∀ w∈l,w∈rest\/(1<=w.1/\okW w.2/\w.2.length=many l)) ?_ ?_ _ _ ⟨l,none,none,rfl,rfl,fun _ h=>h,fun _ h=>.inl h⟩
 . rintro d ds ρ ⟨rest,t,u,e,rfl,hin,hall⟩ W hW
   cases rest with
   | nil=>cases e
   | cons w rest=>
    cases e;have hw:=hin w YaV
    walk_at "rd"
    by_cases h3:w.1<1
    . rw [if_pos h3];exact hE' fun z=>by have:=(z.2.1 w hw).1;omega
    rw [if_neg h3];refine⟨w.2,rfl,fun hok=>?_,fun hno=>hE' fun z=>hno (z.2.1 w hw).2.1⟩
    simp only [seq3,next3,set3,own3,ret3,ifS3,tt3,o3,v3,atV,asS,asB,asD,optP,asT,asLd,asL,atO,ZF,nilP,asId,asI,k3,nw3,add3,int3,int0,eq3,ne3,eqOk,eqv3,notN3,isNone,ix3,ixD,j0,nil3,zar,cb3,len3,lenD,abs3,min23,sum3,and3,or3,not3,Zs,orV3,ch3,tup3,lst3,ZO,catN,slL3,no3,zal,zaf,asg3,gn3,ZT,zap,gnil3,app3,put3,frzS,frz,frz1,for3,itL,itT,itZ,rg1,rg2,Jg,true3,cst3,Z3,try3,ZV,isxr,isxy,isxt,jw,shs,Cl.d,Cl.dat,Cl.f,zaW,zo,Option.map_some,Option.map_none,Option.isSome_some,Option.isSome_none,Option.join_some,Option.join_none,List.all_cons,List.all_nil,WaG,WaD,WaF,WaC,WaE,WaJ,Bool.true_or,Ya1,WaI,List.length_cons,List.length_nil,Nat.reduceAdd,Nat.reduceSub,Nat.sub_self,List.replicate,List.cons_append,List.nil_append,Yao,List.getElem?_cons_zero,List.getElem?_cons_succ,List.set_cons_zero,List.set_cons_succ,Wam,Cl.sh.injEq,Cl.ow.injEq,Cl.ex.injEq,Waw,Wao,Wax,Wap,Wai,List.cons.injEq,reduceCtorEq,and_assoc,and_true,true_and,and_self,exists_eq_left,exists_eq_left',exists_eq',exists_eq_right,exists_eq_right',exists_and_left,exists_const,exists_false,false_and,and_false,or_false,false_or,or_true,true_or,decide_true,decide_false,decide_eq_true_eq,Bool.not_true,Bool.not_false,Wah,Waj,if_true,if_false,ite_true,ite_false,Wal,decide_eq_false_iff_not,eq_self_iff_true,not_true_eq_false,not_false_eq_true,sz0,sz1,sz2,sz3,sz4,sz5,par3,aug3,ext3,itE,k3f,ZW,app2,Cl.tr.injEq,Z4,ZN,Cl.dt.injEq,repN,frzD,Cl.fd.injEq,dms,z7,argC,Jd,jz,finM,Cl.dm.injEq,holds,updM,Ze,ZY,ZH,Z1,zab,zan,ZR,zad,zae,Z6,zaj,srtL,ninT3,ZI,Zx,Za,ZD,JP,Zu,ZE,Zh,Zb,Zn,Zf,Zd,Zz,JT,JX,Jt,JC,JU,Zl,Zw,J3,JY,J9,Zi,Zo,Zp,J4,Zq,Zy,JV,Zt,Zv,Zr,JQ,JW,Zm,JS,J7,ZG,JK,dSs,dS,dI,zo,dQ,dP,dPs,jm,dW,atI0,atI1,atI2,atI3,dRs,dRl,atI0,atI1,hd0,YaR]
    by_cases h4:(w.2.length:Int)=(l.headD (0,[])).2.length
    . rw [if_neg (fun z=>z h4)]
      refine hW _ ⟨rest,_,_,rfl,rfl,fun x hx=>hin x (YaT _ hx),fun x hx=>?_⟩
      rcases hall x hx with z|z
      . rcases WaB.mp z with rfl|z
        . exact .inr ⟨#[0],hok,by unfold many;omega⟩
        . exact .inl z
      . exact .inr z
    . rw [if_pos h4]
      exact hE' fun z=>h4 (by have:=(z.2.1 w hw).2.2;unfold many at this;omega)
 . rintro ρ ⟨rest,t,u,e,rfl,hin,hall⟩
   cases rest with
   | cons _ _=>cases e
   | nil=>
    walk_at "rd"
    refine⟨l,rfl,#[0],?_⟩
    by_cases h3:60<tot l
    . rw [if_pos h3];exact hE' fun z=>by have:=z.2.2;omega
    . rw [if_neg h3]
      exact q ⟨⟨#[0],#[0]⟩,fun w hw=>(hall w hw).resolve_left (by simp),#[0]⟩
theorem zd9(T:Txt c K mg)(zk0:#[8,dd_check_weights c])(zkV:#[8,dd_all_turns]):dd_check_spells c P w K mg base:=by
 obtain⟨f,fd,F,hm⟩:=T.d_check_spells;have hb:=F.binds (ps:=["spells"]) fun _ _ _ _ _ _ us hl=>by obtain⟨_,rfl⟩:=JZ hl;rfl
 refine⟨fun ds Q Q' E E' hQ hE h=>?_,⟨f,fd,zfC T zk0 zkV F,hb,F.kp,hm⟩⟩
 obtain⟨l,e,h1,h2⟩:=h;exact⟨l,e,fun z=>hQ _ _ (h1 z),fun z=>hE _ (h2 z)⟩
theorem ze7:FnScope ["one", "other", "greater", "lesser", "rest"] ["one", "other"] (ze JH):=⟨rfl,rfl,rfl,#[3],rfl,#[3],#[3]⟩
theorem zjL(T:Txt c K mg){f:Addr}{fd:FuncData}(F:Fun K "common_divisor" "common_divisor" JH f fd):FnOk P w K mg base (CXR P w) 1 f fd ["one", "other"] (spL K Jt):=by
 have S:=ze7;refine fn3 F S (fun ds Q E h=>?_) (fun cdv A outer s H E E3 hE hr=>?_)
 . obtain⟨_,_,rfl,_⟩:=h;rfl
 refine⟨_,(zc (zf (i:=2) S.nd rfl #[2] (zB zbO rfl T.n_abs za9 (za (n3 0) zb)))
  (zc (zf (i:=3) S.nd rfl #[2] (zB zbO rfl T.n_abs za9 (za (n3 1) zb)))
  (zc (ZS Waq (zk (zat hr.units) (n3 3) i3 (nomark _)) (zc (zf (i:=4) S.nd rfl #[2] (op3 zl (n3 2) (n3 3)))
   (zc (zf (i:=2) S.nd rfl #[2] (n3 3))
   (zd (zf (i:=3) S.nd rfl #[2] (n3 4))))))
  (zd (zr (n3 2)))))),fun ds Q h=>?_⟩
 obtain⟨a,b,rfl,q⟩:=h
 walk_at "rd"
 refine⟨_,Zg (fun n ρ=>∃ g l r,ρ = [#[5,a],#[5,b],#[5,g],#[5,l],r]/\0<=g/\0<=l/\Int.gcd g l=Int.gcd a b/\n=l.toNat) ?_ _ _ ⟨_,_,_,rfl,by split<;>omega,by split<;>omega,zdo a b,rfl⟩⟩
 rintro n ρ ⟨g,l,r,rfl,hg,hl,hG,rfl⟩ W hW
 walk_at "rd"
 by_cases h0:l=0
 . rw [if_neg (fun z=>z h0)]
   subst h0;rw [<-hG,zcq hg] at q;exact q
 . rw [if_pos h0]
   have hp:0<l:=#[0]
   have h1:=Ybc g h0;have h2:=Ybd g hp;exact⟨hp,hW (g%l).toNat _ #[0] ⟨l,g%l,_,rfl,hl,h1,(zco hg hp).trans hG,rfl⟩⟩
theorem zfU(T:Txt c K mg) : dd_common_divisor P w K mg base:=by
 obtain⟨f,fd,F,hm⟩:=T.d_common_divisor;have hb:=F.binds (ps:=["one", "other"]) fun _ _ _ _ _ _ us hl=>by obtain⟨_,_,rfl⟩:=zR hl;rfl
 refine⟨fun ds Q Q' E E' hQ hE h=>?_,⟨f,fd,zjL T F,hb,F.kp,hm⟩⟩
 first|(obtain⟨a0,a1,e,h⟩:=h;exact⟨a0,a1,e,hQ _ h⟩)|(unfold Jt at *;grind)
theorem zju:FnScope ["weights", "divisor", "weight"] ["weights"] (ze j6):=⟨rfl,rfl,rfl,#[3],rfl,#[3],#[3]⟩
theorem zeY(T:Txt c K mg)(zk3:#[8,dd_common_divisor]){f:Addr}{fd:FuncData}(F:Fun K "divisor_of_all" "divisor_of_all" j6 f fd):FnOk P w K mg base (CXR P w) 2 f fd ["weights"] (spL K JC):=by
 have S:=zju;refine fn3 F S (fun ds Q E h=>?_) (fun cdv A outer s H E E3 hE hr=>?_)
 . obtain⟨_,rfl,_⟩:=h;rfl
 refine⟨_,(zc (zf (i:=1) S.nd rfl #[2] i3)
  (zc (zM Waq rfl (zN (n3 0)) (zi (i:=2) S.nd rfl #[2]) (zd (zf (i:=1) S.nd rfl #[2] (df3 hE zk3 (hr.mono #[1]) rfl zm (za (n3 1) (za (n3 2) zb))))))
  (zd (zr (n3 1))))),fun ds Q h=>?_⟩
 obtain⟨ws,rfl,q⟩:=h
 walk_at "rd"
 refine ZA (fun ds ρ=>∃ done rest t,ds=rest.map PyData.int/\ws=done++rest/\ρ = [some (.sh false (.list (ws.map .int))),#[5,gcdL done],t]) ?_ ?_ _ _ ⟨[],ws,none,rfl,rfl,rfl⟩
 . rintro d ds ρ ⟨done,rest,t,e,hws,rfl⟩ W hW
   cases rest with
   | nil=>cases e
   | cons w rest=>
    cases e
    walk_at "rd"
    exact hW _ ⟨done++[w],rest,_,rfl,by rw [hws,Yag];rfl,by unfold gcdL;rw [List.foldl_append];rfl⟩
 . rintro ρ ⟨done,rest,t,e,hws,rfl⟩
   cases rest with
   | cons _ _=>cases e
   | nil=>
    walk_at "rd"
    rw [Yao] at hws;subst hws;exact q
theorem zku(T:Txt c K mg)(zk3:#[8,dd_common_divisor]):dd_divisor_of_all P w K mg base:=by
 obtain⟨f,fd,F,hm⟩:=T.d_divisor_of_all;have hb:=F.binds (ps:=["weights"]) fun _ _ _ _ _ _ us hl=>by obtain⟨_,rfl⟩:=JZ hl;rfl
 refine⟨fun ds Q Q' E E' hQ hE h=>?_,⟨f,fd,zeY T zk3 F,hb,F.kp,hm⟩⟩
 first|(obtain⟨a0,e,h⟩:=h;exact⟨a0,e,hQ _ h⟩)|(unfold JC at *;grind)
theorem zej:FnScope ["spells", "bottom", "spell", "parts"] ["spells"] (ze Jx):=⟨rfl,rfl,rfl,#[3],rfl,#[3],#[3]⟩
theorem zkh(T:Txt c K mg)(zk4:#[8,dd_divisor_of_all])(zk3:#[8,dd_common_divisor]){f:Addr}{fd:FuncData}(F:Fun K "least_bottom" "least_bottom" Jx f fd):FnOk P w K mg base (CXR P w) 3 f fd ["spells"] (spL K JU):=by
 have S:=zej;refine fn3 F S (fun ds Q E h=>?_) (fun cdv A outer s H E E3 hE hr=>?_)
 . obtain⟨_,rfl,_⟩:=h;rfl
 refine⟨_,(zc (zf (i:=1) S.nd rfl #[2] i3)
  (zc (zM Waq rfl (zN (n3 0)) (zi (i:=2) S.nd rfl #[2]) (zc (zf (i:=3) S.nd rfl #[2] (op3 zE (zB (JR rfl) rfl T.n_sum Zk (za (at3 (n3 2) i3 #[4]) zb)) (df3 hE zk4 (hr.mono #[1]) rfl zm (za (at3 (n3 2) i3 #[4]) zb))))
   (zd (zf (i:=1) S.nd rfl #[2] (op3 zE (op3 z6 (n3 1) (n3 3)) (df3 hE zk3 (hr.mono #[1]) rfl zm (za (n3 1) (za (n3 3) zb))))))))
  (zd (zr (n3 1))))),fun ds Q h=>?_⟩
 obtain⟨l,rfl,hok,q⟩:=h
 walk_at "rd"
 refine ZA (fun ds ρ=>∃ done rest t u,ds=rest.map dS/\l=done++rest/\ρ = [some (.sh false (.list (l.map dS))),#[5,bot done],t,u]) ?_ ?_ _ _ ⟨[],l,none,none,rfl,rfl,rfl⟩
 . rintro d ds ρ ⟨done,rest,t,u,e,hl,rfl⟩ W hW
   cases rest with
   | nil=>cases e
   | cons w rest=>
    cases e;have hw:w∈l:=by rw [hl];simp
    have hwok:=(hok.2.1 w hw).2.1;have hdone:0<bot done/\Bits (1+103*done.length) (bot done):=zaB done 1 1 (fun s hs=>(hok.2.1 s (by rw [hl];exact Yai _ hs)).2.1) #[1] (by unfold Bits;decide)
    have hlen:done.length<=8:=by have:=hok.1.2;rw [hl,YaS] at this;omega
    have hb:Bits 900 (bot done):=hdone.2.mono #[0]
    simp only [seq3,next3,set3,own3,ret3,ifS3,tt3,o3,v3,atV,asS,asB,asD,optP,asT,asLd,asL,atO,ZF,nilP,asId,asI,k3,nw3,add3,int3,int0,eq3,ne3,eqOk,eqv3,notN3,isNone,ix3,ixD,j0,nil3,zar,cb3,len3,lenD,abs3,min23,sum3,and3,or3,not3,Zs,orV3,ch3,tup3,lst3,ZO,catN,slL3,no3,zal,zaf,asg3,gn3,ZT,zap,gnil3,app3,put3,frzS,frz,frz1,for3,itL,itT,itZ,rg1,rg2,Jg,true3,cst3,Z3,try3,ZV,isxr,isxy,isxt,jw,shs,Cl.d,Cl.dat,Cl.f,zaW,zo,Option.map_some,Option.map_none,Option.isSome_some,Option.isSome_none,Option.join_some,Option.join_none,List.all_cons,List.all_nil,WaG,WaD,WaF,WaC,WaE,WaJ,Bool.true_or,Ya1,WaI,List.length_cons,List.length_nil,Nat.reduceAdd,Nat.reduceSub,Nat.sub_self,List.replicate,List.cons_append,List.nil_append,Yao,List.getElem?_cons_zero,List.getElem?_cons_succ,List.set_cons_zero,List.set_cons_succ,Wam,Cl.sh.injEq,Cl.ow.injEq,Cl.ex.injEq,Waw,Wao,Wax,Wap,Wai,List.cons.injEq,reduceCtorEq,and_assoc,and_true,true_and,and_self,exists_eq_left,exists_eq_left',exists_eq',exists_eq_right,exists_eq_right',exists_and_left,exists_const,exists_false,false_and,and_false,or_false,false_or,or_true,true_or,decide_true,decide_false,decide_eq_true_eq,Bool.not_true,Bool.not_false,Wah,Waj,if_true,if_false,ite_true,ite_false,Wal,decide_eq_false_iff_not,eq_self_iff_true,not_true_eq_false,not_false_eq_true,sz0,sz1,sz2,sz3,sz4,sz5,par3,aug3,ext3,itE,k3f,ZW,app2,Cl.tr.injEq,Z4,ZN,Cl.dt.injEq,repN,frzD,Cl.fd.injEq,dms,z7,argC,Jd,jz,finM,Cl.dm.injEq,holds,updM,Ze,ZY,ZH,Z1,zab,zan,ZR,zad,zae,Z6,zaj,srtL,ninT3,ZI,Zx,Za,ZD,JP,Zu,ZE,Zh,Zb,Zn,Zf,Zd,Zz,JT,JX,Jt,JC,JU,Zl,Zw,J3,JY,J9,Zi,Zo,Zp,J4,Zq,Zy,JV,Zt,Zv,Zr,JQ,JW,Zm,JS,J7,ZG,JK,dSs,dS,dI,zo,dQ,dP,dPs,jm,dW,atI0,atI1,atI2,atI3,dRs,dRl,atI0,atI1]
    refine⟨w.2,Zc _,w.2,rfl,⟨zbl hwok,((zb1 hwok).le (by have:=zhJ hwok;have:=zbl hwok;omega)).mono #[1]⟩,?_⟩
    have hgb:Bits 9000 (Int.gcd (bot done) (parts w.2):Int):=((zbW hwok).le (by have:=zkU (b:=bot done) (JN hwok);have:=zbm (b:=bot done) (JN hwok);have:=JN hwok;omega)).mono #[1]
    refine⟨hb.mulOk (zbW hwok) #[1],⟨zbm (JN hwok),hgb⟩,?_⟩
    exact hW _ ⟨done++[w],rest,_,_,rfl,by rw [hl,Yag];rfl,by unfold bot;rw [List.foldl_append];rfl⟩
 . rintro ρ ⟨done,rest,t,u,e,hl,rfl⟩
   cases rest with
   | cons _ _=>cases e
   | nil=>
    walk_at "rd"
    rw [Yao] at hl;subst hl;exact q
theorem zd8(T:Txt c K mg)(zk4:#[8,dd_divisor_of_all])(zk3:#[8,dd_common_divisor]):dd_least_bottom P w K mg base:=by
 obtain⟨f,fd,F,hm⟩:=T.d_least_bottom;have hb:=F.binds (ps:=["spells"]) fun _ _ _ _ _ _ us hl=>by obtain⟨_,rfl⟩:=JZ hl;rfl
 refine⟨fun ds Q Q' E E' hQ hE h=>?_,⟨f,fd,zkh T zk4 zk3 F,hb,F.kp,hm⟩⟩
 obtain⟨l,e,o,h⟩:=h;exact⟨l,e,o,hQ _ _ h⟩
theorem zf5:FnScope ["bottom", "weights", "total"] ["bottom", "weights"] (ze jU):=⟨rfl,rfl,rfl,#[3],rfl,#[3],#[3]⟩
theorem zhP(T:Txt c K mg){f:Addr}{fd:FuncData}(F:Fun K "shares_over" "shares_over" jU f fd):FnOk P w K mg base (CXR P w) 1 f fd ["bottom", "weights"] (spL K Zl):=by
 have S:=zf5;refine fn3 F S (fun ds Q E h=>?_) (fun cdv A outer s H E E3 hE hr=>?_)
 . obtain⟨_,_,rfl,_⟩:=h;rfl
 refine⟨_,(zc (zf (i:=2) S.nd rfl #[2] (zB (JR rfl) rfl T.n_sum Zk (za (n3 1) zb)))
  (zd (zr (new3 (z8 ["weight"] ["bottom", "total"] [0,2] rfl (zU (osc:=ze jU) #[3]) rfl (zN (n3 1)) (fun H0 s H fp cl=>⟨(zi (i:=0) (show((["weight"]:List PySem.Str)++(["bottom", "total"]:List PySem.Str)).Nodup by decide) rfl #[2]),zY,(op3 zE (op3 z6 (n3 0) (n3 1)) (n3 2))⟩)))))),fun ds Q h=>?_⟩
 obtain⟨b,ws,rfl,hok,hb,q⟩:=h
 walk_at "rd"
 refine⟨ws,Zc _,?_⟩
 refine⟨sz (by rw [YaR];have:=hok.1.2;omega),?_⟩
 refine zX (f:=false) PyData.int (fun w=>.int (w*b/ws.sum)) (fun ρ=>∃ t,ρ = [t,#[5,b],#[5,ws.sum]]) ws ?_ _ _ _ _ ⟨none,rfl⟩ ?_
 . rintro w hw ρ fa acc K ⟨t,rfl⟩ k
   have h1:IntMulOk w b:=(zer hok hw).mulOk hb #[1]
   have h2:jM (w*b) ws.sum:=⟨Jh hok,(zb1 hok).mono #[1]⟩
   show IntMulOk w b/\jM (w*b) ws.sum/\K (fa&&true) (acc++[.int (w*b/ws.sum)]) [#[5,w],#[5,b],#[5,ws.sum]]
   rw [WaG];exact⟨h1,h2,k _ ⟨_,rfl⟩⟩
 . unfold dI shares at q
   rw [YaD] at q;exact q
theorem zex(T:Txt c K mg) : dd_shares_over P w K mg base:=by
 obtain⟨f,fd,F,hm⟩:=T.d_shares_over;have hb:=F.binds (ps:=["bottom", "weights"]) fun _ _ _ _ _ _ us hl=>by obtain⟨_,_,rfl⟩:=zR hl;rfl
 refine⟨fun ds Q Q' E E' hQ hE h=>?_,⟨f,fd,zhP T F,hb,F.kp,hm⟩⟩
 obtain⟨b,l,e,o,p,h⟩:=h;exact⟨b,l,e,o,p,hQ _ _ h⟩
theorem zkN:FnScope ["spells", "bottom", "latest", "told", "turns", "weights", "shares", "turn"] ["spells"] (ze jD):=⟨rfl,rfl,rfl,#[3],rfl,#[3],#[3]⟩
theorem zkQ(T:Txt c K mg)(zkY:#[8,dd_check_spells c])(zlj:#[8,dd_least_bottom])(zlt:#[8,dd_shares_over]){f:Addr}{fd:FuncData}(F:Fun K "quotas" "quotas" jD f fd):FnOk P w K mg base (CXR P w) 4 f fd ["spells"] (spL K (Zw c)):=by
 have S:=zkN;refine fn3 F S (fun ds Q E h=>?_) (fun cdv A outer s H E E3 hE hr=>?_)
 . obtain⟨_,rfl,_⟩:=h;rfl
 refine⟨_,(zc (zaa (df3 hE zkY (hr.mono #[1]) rfl zm (za (n3 0) zb)))
  (zc (zf (i:=1) S.nd rfl #[2] (df3 hE zlj (hr.mono #[1]) rfl zm (za (n3 0) zb)))
  (zc (za8 (i:=2) S.nd rfl #[2] ["weight"] [] [] rfl (zU (osc:=ze jD) #[3]) rfl (zN (at3 (at3 (n3 0) i3 #[4]) i3 #[4])) (fun H0 s H fp cl=>⟨(zi (i:=0) (show((["weight"]:List PySem.Str)++([]:List PySem.Str)).Nodup by decide) rfl #[2]),zY,i3⟩))
  (zc (jk (i:=3) S.nd rfl #[2] (zA (za (n3 2) zb)))
  (zc (zM Waq rfl (zN (n3 0)) (zW (n:=2) rfl (zy (zi (i:=4) S.nd rfl #[2]) (zy (zi (i:=5) S.nd rfl #[2]) zV))) (zc (zf (i:=6) S.nd rfl #[2] (df3 hE zlt (hr.mono #[1]) rfl zm (za (n3 1) (za (n3 5) zb))))
   (zd (zM Waq rfl (jH rfl T.n_range (za (n3 4) zb)) (zi (i:=7) S.nd rfl #[2]) (zc (za8 (i:=2) S.nd rfl #[2] ["quota", "share"] [] [] rfl (zU (osc:=ze jD) #[3]) rfl (zjp rfl T.n_zip (za (n3 2) (za (n3 6) zb))) (fun H0 s H fp cl=>⟨(zW (n:=2) rfl (zy (zi (i:=0) (show((["quota", "share"]:List PySem.Str)++([]:List PySem.Str)).Nodup by decide) rfl #[2]) (zy (zi (i:=1) (show((["quota", "share"]:List PySem.Str)++([]:List PySem.Str)).Nodup by decide) rfl #[2]) zV))),zY,(op3 zz (n3 0) (n3 1))⟩))
    (zd (jK (i:=3) rfl #[2] (n3 2))))))))
  (zd (jv [3] (zr (zF (za (n3 1) (za (n3 3) zb))))))))))),fun ds Q h=>?_⟩
 obtain⟨l,rfl,q,hE'⟩:=h;refine zg fun N hN=>?_
 walk_at "rd"
 refine⟨l,rfl,fun hok=>hN _ ?_,hE'⟩
 clear hN N;have hl0:l≠[]:=fun z=>by have:=hok.1.1;rw [z] at this;simp at this
 have hd0:atI (l.map dS) 0=some (dS (l.headD (0,[]))):=by
  cases l with
  | nil=>exact absurd rfl hl0
  | cons a r=>exact atI0
 have hmany:many l<=8:=by
  cases l with
  | nil=>exact absurd rfl hl0
  | cons a r=>exact(hok.2.1 a YaV).2.1.1.2
 refine zg fun N hN=>?_
 walk_at "rd"
 refine⟨l,rfl,hok,hN _ ?_⟩
 clear hN N;refine zg fun N hN=>?_
 walk_at "rd hd0 atI1 YaR"
 refine⟨sz (by unfold many at hmany;omega),?_⟩
 refine zX PyData.int (fun _=>.int 0) (fun ρ=>∃ t,ρ = [t]) (l.headD (0,[])).2 ?_ _ _ _ _ ⟨none,rfl⟩ ?_
 . rintro w hw ρ fa acc K ⟨t,rfl⟩ k
   walk_at "rd"
   exact k _ ⟨_,rfl⟩
 have hz:(l.headD (0,[])).2.map (fun _=>PyData.int 0)=(zeros l).map .int:=by
  unfold zeros many;rw [List.map_replicate,List.map_const']
 rw [List.nil_append,hz];refine hN _ ?_;clear hN N;refine zg fun N hN=>?_
 walk_at "rd"
 refine hN _ ?_
 clear hN N
 walk_at "rd"
 refine ZA (fun ds ρ=>∃ done rest t u v w,ds=rest.map dS/\l=done++rest/\ρ = [some (.sh false (.list (l.map dS))),#[5,bot l],some (.sh true (dI (runQ (bot l) done (zeros l,[zeros l])).1)),some (.ow true ((runQ (bot l) done (zeros l,[zeros l])).2.map dI)),t,u,v,w]/\(runQ (bot l) done (zeros l,[zeros l])).2.length<=1+(tot done).toNat) ?_ ?_ _ _ ⟨[],l,none,none,none,none,rfl,rfl,rfl,by simp [runQ]⟩
 . rintro d ds ρ ⟨done,rest,t,u,v,w',e,hl,rfl,hlen⟩ W hW
   cases rest with
   | nil=>cases e
   | cons w rest=>
    cases e;have hw:w∈l:=by rw [hl];simp
    have hwok:=(hok.2.1 w hw).2.1;have h1t:∀ s∈l,1<=s.1:=fun s hs=>(hok.2.1 s hs).1
    have hwt:=zbn h1t hw;have hw1:=h1t w hw;have hdt:tot done<=60 - w.1:=by
     have h60:=hok.2.2;have e:tot l=tot done+(w.1+tot rest):=by unfold tot;rw [hl,Ya2,List.sum_append,Ya1,List.sum_cons]
     have:0<=tot rest:=zaO fun s hs=>h1t s (by rw [hl];exact Yaa _ (YaT _ hs))
     omega
    have hd0':0<=tot done:=zaO fun s hs=>h1t s (by rw [hl];exact Yai _ hs)
    walk_at "rd"
    refine⟨w.2,rfl,hwok,(zcx hok).mono #[1],#[0],by have:=hok.2.2;omega,?_⟩
    generalize hp:runQ (bot l) done (zeros l,[zeros l])=p at hlen ⊢;refine jE (fun k ρ=>∃ t,ρ = [some (.sh false (.list (l.map dS))),#[5,bot l],some (.sh true (dI (rep (zT (shares (bot l) w.2)) k p).1)),some (.ow true ((rep (zT (shares (bot l) w.2)) k p).2.map dI)),#[5,w.1],some (.sh false (dI w.2)),some (.sh true (dI (shares (bot l) w.2))),t]) ?_ ?_ ⟨w',rfl⟩
    . rintro k ρ hk ⟨t,rfl⟩ W' hW'
      have hr:∀ k p,rep (zT (shares (bot l) w.2)) (k+1) p=zT (shares (bot l) w.2) (rep (zT (shares (bot l) w.2)) k p):=fun k=>by
       induction k with
       | zero=>intro p;rfl
       | succ k ih=>intro p;rw [rep,ih];rfl
      have hlk:=ZJ (shares (bot l) w.2) k p
      walk_at "rd"
      rw [zdt,YaR];refine⟨sz (by rw [List.length_zip];unfold shares;rw [YaR];have:=hwok.1.2;omega),?_⟩
      refine zX _ (fun p=>.int (p.1+p.2)) (fun ρ=>∃ t u,ρ = [t,u]) _ ?_ _ _ _ _ ⟨none,none,rfl⟩ ?_
      . rintro x hx ρ fa acc K ⟨t,u,rfl⟩ k
        walk_at "rd"
        exact k _ ⟨_,_,rfl⟩
      . walk_at "rd"
        rw [YaR];refine⟨YaU (show _<1000000 by omega) #[1],hW' _ ⟨?w,?h⟩⟩
        case h=>
        rw [hr];unfold zT addL dI;simp only [Ya2,Ya1,WaI,YaD,List.nil_append]
        rfl
    . rintro ρ ⟨t,rfl⟩
      have er:runQ (bot l) (done++[w]) (zeros l,[zeros l])=rep (zT (shares (bot l) w.2)) w.1.toNat p:=by
       unfold runQ at hp ⊢;rw [List.foldl_append,hp];rfl
      have et:tot (done++[w])=tot done+w.1:=by unfold tot;rw [Ya2,List.sum_append];simp
      refine hW _ ⟨done++[w],rest,#[5,w.1],some (.sh false (dI w.2)),some (.sh true (dI (shares (bot l) w.2))),t,rfl,by rw [hl,Yag];rfl,by rw [er],?_⟩
      rw [er,ZJ,et];omega
 . rintro ρ ⟨done,rest,t,u,v,w,e,hl,rfl,hlen⟩
   cases rest with
   | cons _ _=>cases e
   | nil=>
    walk_at "rd"
    rw [Yao] at hl;subst hl;exact q hok
theorem zjb(T:Txt c K mg)(zkY:#[8,dd_check_spells c])(zlj:#[8,dd_least_bottom])(zlt:#[8,dd_shares_over]):dd_quotas c P w K mg base:=by
 obtain⟨f,fd,F,hm⟩:=T.d_quotas;have hb:=F.binds (ps:=["spells"]) fun _ _ _ _ _ _ us hl=>by obtain⟨_,rfl⟩:=JZ hl;rfl
 refine⟨fun ds Q Q' E E' hQ hE h=>?_,⟨f,fd,zkQ T zkY zlj zlt F,hb,F.kp,hm⟩⟩
 obtain⟨l,e,h1,h2⟩:=h;exact⟨l,e,fun z=>hQ _ _ (h1 z),fun z=>hE _ (h2 z)⟩
theorem zhE:FnScope ["path", "wanted", "turn"] ["path", "wanted"] (ze Jr):=⟨rfl,rfl,rfl,#[3],rfl,#[3],#[3]⟩
theorem zhD(T:Txt c K mg){f:Addr}{fd:FuncData}(F:Fun K "first_turn" "first_turn" Jr f fd):FnOk P w K mg base (CXR P w) 1 f fd ["path", "wanted"] (spL K J3):=by
 have S:=zhE;refine fn3 F S (fun ds Q E h=>?_) (fun cdv A outer s H E E3 hE hr=>?_)
 . obtain⟨_,_,rfl,_⟩:=h;rfl
 refine⟨_,(zc (zM Waq rfl (za5 rfl T.n_range (za i3 (za (zB zL rfl T.n_len zO (za (n3 0) zb)) zb))) (zi (i:=2) S.nd rfl #[2]) (zd (s_if (zk zdx (at3 (n3 0) (n3 2) #[4]) (n3 1) (nomark _)) (zd (zr (n3 2))) zj)))
  (zd (zr (zB zL rfl T.n_len zO (za (n3 0) zb))))),fun ds Q h=>?_⟩
 obtain⟨path,x,rfl,h61,h1,q⟩:=h
 walk_at "rd"
 rw [YaR];refine⟨#[1],#[1],#[0],#[0],?_⟩
 have e1:((path.length:Int) - 1).toNat=path.length - 1:=#[0]
 rw [e1];refine jE (lo:=1) (fun k ρ=>∃ t,ρ = [some (.sh false (.list (path.map .int))),#[5,x],t]/\∀ i,1<=i->i<1+k->¬x<=path.getD i 0) ?_ ?_ ⟨none,rfl,fun i h1 h2=>absurd h2 #[0]⟩
 . rintro k ρ hk ⟨t,rfl,hno⟩ W hW
   have hg:=zcB (xs:=path) (i:=1+(k:Int)) #[0] #[0]
   rw [show(1+(k:Int)).toNat=1+k by omega] at hg
   walk_at "rd hg"
   by_cases h:x<=path.getD (1+k) 0
   . rw [if_pos h]
     have:zQ path.length (fun t=>decide (x<=path.getD t 0))=1+k:=zcZ h1 #[0] #[0] (fun t a b=>decide_eq_false (hno t a b)) fun _=>decide_eq_true h
     rw [this] at q;have e:((1+k:Nat):Int)=1+(k:Int):=#[0]
     rw [e] at q;exact q
   . rw [if_neg h]
     refine hW _ ⟨_,rfl,fun i a b=>?_⟩
     by_cases e:i=1+k
     . rw [e];exact h
     . exact hno i a #[0]
 . rintro ρ ⟨t,rfl,hno⟩
   walk_at "rd"
   rw [YaR];have:zQ path.length (fun t=>decide (x<=path.getD t 0))=path.length:=zcZ h1 h1 (YaY _) (fun t a b=>decide_eq_false (hno t a #[0])) fun z=>absurd z #[0]
   rw [this] at q;exact q
theorem zky(T:Txt c K mg) : dd_first_turn P w K mg base:=by
 obtain⟨f,fd,F,hm⟩:=T.d_first_turn;have hb:=F.binds (ps:=["path", "wanted"]) fun _ _ _ _ _ _ us hl=>by obtain⟨_,_,rfl⟩:=zR hl;rfl
 refine⟨fun ds Q Q' E E' hQ hE h=>?_,⟨f,fd,zhD T F,hb,F.kp,hm⟩⟩
 obtain⟨a,b,e,x,y,h⟩:=h;exact⟨a,b,e,x,y,hQ _ _ h⟩
theorem zjT:FnScope ["bottom", "path", "j", "room", "opens", "last"] ["bottom", "path", "j", "room"] (ze JL):=⟨rfl,rfl,rfl,#[3],rfl,#[3],#[3]⟩
theorem zij(T:Txt c K mg)(zk5:#[8,dd_first_turn]){f:Addr}{fd:FuncData}(F:Fun K "window_of" "window_of" JL f fd):FnOk P w K mg base (CXR P w) 2 f fd ["bottom", "path", "j", "room"] (spL K JY):=by
 have S:=zjT;refine fn3 F S (fun ds Q E h=>?_) (fun cdv A outer s H E E3 hE hr=>?_)
 . obtain⟨_,_,_,_,rfl,_⟩:=h;rfl
 refine⟨_,(zc (zf (i:=4) S.nd rfl #[2] (df3 hE zk5 (hr.mono #[1]) rfl zm (za (n3 1) (za (op3 je (op3 z6 (n3 2) (n3 0)) (at3 (n3 3) i3 #[4])) zb))))
  (zc (zf (i:=5) S.nd rfl #[2] (df3 hE zk5 (hr.mono #[1]) rfl zm (za (n3 1) (za (op3 zz (op3 zz (op3 z6 (op3 je (n3 2) i3) (n3 0)) (at3 (n3 3) i3 #[4])) i3) zb))))
  (zc (s_if (zk (zw hr.units) (n3 5) (zB zL rfl T.n_len zO (za (n3 1) zb)) (nomark _)) (zd (zr (zF (za (n3 4) (za non3 zb))))) zj)
  (zd (zr (zF (za (n3 4) (za (n3 5) zb)))))))),fun ds Q h=>?_⟩
 obtain⟨b,path,j,room,rfl,h61,h1,hb,hj,q⟩:=h
 walk_at "rd atI0 atI1"
 have hj1:Bits 65 (j - 1):=hj.sub (Bits.lit (x:=1) 64);refine⟨hj.mulOk hb #[1],path,rfl,h61,h1,hj1.mulOk hb #[1],path,rfl,h61,h1,?_⟩
 rw [YaR];unfold winB winP at q;dsimp only at q
 by_cases h:zQ path.length (fun t=>decide ((j - 1)*b+room.1+1<=path.getD t 0))=path.length
 . rw [if_pos (by rw [h])]
   rw [if_pos h] at q;exact q
 . rw [if_neg (fun z=>h #[0])]
   rw [if_neg h] at q;exact q
theorem zgs(T:Txt c K mg)(zk5:#[8,dd_first_turn]):dd_window_of P w K mg base:=by
 obtain⟨f,fd,F,hm⟩:=T.d_window_of;have hb:=F.binds (ps:=["bottom", "path", "j", "room"]) fun _ _ _ _ _ _ us hl=>by obtain⟨_,_,_,_,rfl⟩:=zaM hl;rfl
 refine⟨fun ds Q Q' E E' hQ hE h=>?_,⟨f,fd,zij T zk5 F,hb,F.kp,hm⟩⟩
 obtain⟨a,b,d,n,e,x1,x2,x3,x4,h⟩:=h;exact⟨a,b,d,n,e,x1,x2,x3,x4,hQ _ _ h⟩
theorem zey:FnScope ["told", "clan", "room", "path", "found", "j", "window"] ["told", "clan", "room"] (ze j4):=⟨rfl,rfl,rfl,#[3],rfl,#[3],#[3]⟩
theorem zjf(T:Txt c K mg)(zlu:#[8,dd_window_of]){f:Addr}{fd:FuncData}(F:Fun K "windows_of_clan" "windows_of_clan" j4 f fd):FnOk P w K mg base (CXR P w) 3 f fd ["told", "clan", "room"] (spL K J9):=by
 have S:=zey;refine fn3 F S (fun ds Q E h=>?_) (fun cdv A outer s H E E3 hE hr=>?_)
 . obtain⟨_,_,_,_,_,rfl,_⟩:=h;rfl
 refine⟨_,(zc (za8 (i:=3) S.nd rfl #[2] ["latest"] ["clan"] [1] rfl (zU (osc:=ze j4) #[3]) rfl (zN (at3 (n3 0) i3 #[4])) (fun H0 s H fp cl=>⟨(zi (i:=0) (show((["latest"]:List PySem.Str)++(["clan"]:List PySem.Str)).Nodup by decide) rfl #[2]),zY,(at3 (n3 0) (n3 1) #[4])⟩))
  (zc (jk (i:=4) S.nd rfl #[2] (zA zb))
  (zc (zf (i:=5) S.nd rfl #[2] i3)
  (zc (zf (i:=6) S.nd rfl #[2] (df3 hE zlu (hr.mono #[1]) rfl zm (za (at3 (n3 0) i3 #[4]) (za (n3 3) (za (n3 5) (za (n3 2) zb))))))
  (zc (ZS Waq (pw3 (zax (zk jC (at3 (n3 6) i3 #[4]) (zB zL rfl T.n_len zO (za (n3 3) zb)) (nomark _)) (zaK (zk zau (at3 (n3 6) i3 #[4]) non3 (nomark _))))) (zc (jK (i:=4) rfl #[2] (zF (za (n3 1) (za (n3 5) (za (at3 (n3 6) i3 #[4]) (za (at3 (n3 6) i3 #[4]) zb))))))
   (zc (zc7 (i:=5) S.nd rfl #[2] i3)
   (zd (zf (i:=6) S.nd rfl #[2] (df3 hE zlu (hr.mono #[1]) rfl zm (za (at3 (n3 0) i3 #[4]) (za (n3 3) (za (n3 5) (za (n3 2) zb))))))))))
  (zd (jv [4] (zr (n3 4))))))))),fun ds Q h=>?_⟩
 obtain⟨b,qs,k,room,n,rfl,hb0,hb,hk,h61,h1,hqn,hbd,hr0,hr1,hr80,q⟩:=h;refine zg fun N hN=>?_
 walk_at "rd atI0 atI1"
 refine⟨sz (by rw [YaR];omega),?_⟩
 refine zX dI (fun r=>PyData.int (r.getD k 0)) (fun ρ=>∃ t,ρ = [t,#[5,k]]) qs ?_ _ _ _ _ ⟨none,rfl⟩ ?_
 . rintro r hr ρ fa acc K ⟨t,rfl⟩ kk
   have hg:=zcB (xs:=r) (i:=(k:Int)) #[0] (by rw [hqn r hr];omega)
   rw [Int.toNat_natCast] at hg
   walk_at "rd hg"
   exact kk _ ⟨_,rfl⟩
 have hcol:[]++qs.map (fun r=>PyData.int (r.getD k 0))=(zI qs k).map PyData.int:=by unfold zI;rw [List.nil_append,YaD];rfl
 rw [hcol];refine hN _ ?_;clear hN N;have hcl:(zI qs k).length=qs.length:=by unfold zI;rw [YaR]
 have hcb:∀ t,(zI qs k).getD t 0+room.2<=80*b:=fun t=>by
  unfold zI;rw [YaP,Ya0];cases ht:qs[t]? with
  | none=>
   show 0+room.2<=80*b
   omega
  | some r=>exact hbd r (Yah ht)
 have hM:∀ j,jT qs.length (winB b (zI qs k) room j)->j<=81:=fun j h=>zjX (M:=80) hb0 #[0] hcb hr1 hr0 j (by rw [hcl];exact h)
 refine zg fun N hN=>?_
 walk_at "rd"
 refine hN _ ?_
 clear hN N;refine zg fun N hN=>?_
 walk_at "rd"
 refine hN _ ?_
 clear hN N;refine zg fun N hN=>?_
 walk_at "rd atI0 atI1"
 refine⟨zI qs k,rfl,room,rfl,rfl,#[0],#[0],hb,Bits.lit (x:=1) 64,hN _ ?_⟩
 clear hN N
 walk_at "rd"
 refine⟨_,Zg (fun m ρ=>∃ (ws:List Win) (j:Int),ρ = [some (.sh false (.tuple [.int b,.list (qs.map dI)])),#[5,k],some (.sh false (.tuple [.int room.1,.int room.2])),some (.sh true (.list ((zI qs k).map .int))),some (.ow true (ws.map dW)),#[5,j],some (.sh true (.tuple [.int (winB b (zI qs k) room j).1,dO (winB b (zI qs k) room j).2]))]/\1<=j/\j<=82/\(ws.length:Int)=j - 1/\(∀ us,IsW qs.length k (winB b (zI qs k) room) j us->IsW qs.length k (winB b (zI qs k) room) 1 (ws++us))/\m=(82 - j).toNat) ?_ _ _ ⟨[],1,rfl,#[1],#[1],rfl,fun us h=>h,rfl⟩⟩
 rintro m ρ ⟨ws,j,rfl,hj1,hj2,hlen,hpre,rfl⟩ W hW
 walk_at "rd atI0 atI1"
 rw [YaR,hcl];have step:jT qs.length (winB b (zI qs k) room j)->W [some (.sh false (.tuple [.int b,.list (qs.map dI)])),#[5,k],some (.sh false (.tuple [.int room.1,.int room.2])),some (.sh true (.list ((zI qs k).map .int))),some (.ow true (ws.map dW++[.tuple [.int k,.int j,.int (winB b (zI qs k) room j).1,dO (winB b (zI qs k) room j).2]])),#[5,j+1],some (.sh true (.tuple [.int (winB b (zI qs k) room (j+1)).1,dO (winB b (zI qs k) room (j+1)).2]))]:=fun ht=>by
  have hj:=hM j ht;refine hW (82 - (j+1)).toNat _ #[0] ⟨ws++[((k:Int),j,(winB b (zI qs k) room j).1,(winB b (zI qs k) room j).2)],j+1,by rw [Ya2];rfl,#[0],#[0],by rw [YaS];simp;omega,fun us h=>?_,rfl⟩
  have:=hpre (((k:Int),j,(winB b (zI qs k) room j).1,(winB b (zI qs k) room j).2)::us) ⟨ht,rfl,h⟩
  simpa using this
 have hsz:(List.map dW ws).length<sizeLine:=YaU (show _<1000 by rw [YaR];omega) #[1]
 have hbj:Bits 64 (j+1):=Bits.lit (x:=j+1) 64 #[0]
 by_cases ho:(winB b (zI qs k) room j).1<(qs.length:Int)
 . rw [if_pos ho]
   exact⟨hsz,_,rfl,room,rfl,rfl,#[0],#[0],hb,hbj,step (.inl ho)⟩
 . rw [if_neg ho]
   change if isNone (Cl.sh true (dO (winB b (zI qs k) room j).2))=false then _ else _
   rw [zfX]
   by_cases hs:(winB b (zI qs k) room j).2=none
   . rw [if_neg (by rw [hs];decide)]
     have:=hpre [] (fun z=>z.elim ho fun y=>y hs)
     rw [Yao] at this;exact q ws this #[0]
   . rw [if_pos (by cases h:(winB b (zI qs k) room j).2 with|none=>exact absurd h hs|some i=>rfl)]
     exact⟨hsz,_,rfl,room,rfl,rfl,#[0],#[0],hb,hbj,step (.inr hs)⟩
theorem zkx(T:Txt c K mg)(zlu:#[8,dd_window_of]):dd_windows_of_clan P w K mg base:=by
 obtain⟨f,fd,F,hm⟩:=T.d_windows_of_clan;have hb:=F.binds (ps:=["told", "clan", "room"]) fun _ _ _ _ _ _ us hl=>by obtain⟨_,_,_,rfl⟩:=jY hl;rfl
 refine⟨fun ds Q Q' E E' hQ hE h=>?_,⟨f,fd,zjf T zlu F,hb,F.kp,hm⟩⟩
 obtain⟨a,b,d,n,m,e,x1,x2,x3,x4,x5,x6,x7,x8,x9,x10,h⟩:=h;exact⟨a,b,d,n,m,e,x1,x2,x3,x4,x5,x6,x7,x8,x9,x10,fun w y z=>hQ _ _ (h w y z)⟩
theorem zjN:FnScope ["told", "rooms", "found", "clan", "room"] ["told", "rooms"] (ze Ju):=⟨rfl,rfl,rfl,#[3],rfl,#[3],#[3]⟩
theorem zgp(T:Txt c K mg)(zlv:#[8,dd_windows_of_clan]){f:Addr}{fd:FuncData}(F:Fun K "windows_within" "windows_within" Ju f fd):FnOk P w K mg base (CXR P w) 4 f fd ["told", "rooms"] (spL K Zi):=by
 have S:=zjN;refine fn3 F S (fun ds Q E h=>?_) (fun cdv A outer s H E E3 hE hr=>?_)
 . obtain⟨_,_,_,_,rfl,_⟩:=h;rfl
 refine⟨_,(zc (jk (i:=2) S.nd rfl #[2] (zA zb))
  (zc (zM Waq rfl (zaL rfl T.n_enumerate (za (n3 1) zb)) (zW (n:=2) rfl (zy (zi (i:=3) S.nd rfl #[2]) (zy (zi (i:=4) S.nd rfl #[2]) zV))) (zd (zd3 (i:=2) rfl #[2] (df3 hE zlv (hr.mono #[1]) rfl zm (za (n3 0) (za (n3 3) (za (n3 4) zb)))))))
  (zd (jv [2] (zr (n3 2)))))),fun ds Q h=>?_⟩
 obtain⟨b,qs,rooms,n,rfl,hb0,hb,hrl,hn8,h61,h1,hqn,hq60,hrm,q⟩:=h
 walk_at "rd"
 have he:jl (rooms.map jm)=(List.range n).map fun i=>PyData.tuple [PyData.int (i:Nat),jm (rooms.getD i (0,0))]:=by
  unfold jl;rw [YaR,hrl]
  apply Yat
  intro i hi;have:=Yba.mp hi;rw [YaP,Ya0,YaP,YaQ #[0]];rfl
 rw [he];refine zbB (fun k ρ=>∃ (W:List (List Win)) (t u:Option L3.Cl),ρ = [some (.sh false (.tuple [.int b,.list (qs.map dI)])),some (.sh false (.list (rooms.map jm))),some (.ow true (W.flatten.map dW)),t,u]/\W.length=k/\(∀ i,i<k->IsW qs.length i (winB b (zI qs i) (rooms.getD i (0,0))) 1 (W.getD i []))/\W.flatten.length<=200*k) ?_ ?_ ⟨[],none,none,rfl,rfl,fun i h=>absurd h #[0],by simp⟩
 . rintro k ρ hk ⟨W,t,u,rfl,hWl,hWi,hWf⟩ W' hW'
   have hrk:=hrm (rooms.getD k (0,0)) (by rw [YaP,YaQ #[0]];exact Ya4 _)
   have hbd:∀ r∈qs,r.getD k 0+(rooms.getD k (0,0)).2<=80*b:=fun r hr=>by
    have h1:=hq60 r hr (r.getD k 0) (by
     rw [YaP,YaQ (by rw [hqn r hr];exact hk)];exact Ya4 _)
    omega
   walk_at "rd"
   refine⟨qs,rfl,k,rfl,rooms.getD k (0,0),rfl,rfl,hb0,hb,n,hk,h61,h1,hqn,hbd,hrk.1,hrk.2.1,#[0],fun ws hws hwl=>⟨sz (by rw [YaR,YaR];omega),?_⟩⟩
   have ef:(W++[ws]).flatten=W.flatten++ws:=by rw [List.flatten_append];simp
   rw [<-Ya2,<-ef];refine hW' _ ⟨W++[ws],_,_,rfl,by simp [hWl],fun i hi=>?_,by rw [ef,YaS];omega⟩
   by_cases e:i=k
   . subst e
     have g1:(W++[ws]).getD i []=ws:=by rw [<-hWl];simp
     rw [g1];exact hws
   . have g2:(W++[ws]).getD i []=W.getD i []:=by
      have hlt:i<W.length:=#[0]
      simp [Yab hlt]
     rw [g2];exact hWi i #[0]
 . rintro ρ ⟨W,t,u,rfl,hWl,hWi,hWf⟩
   walk_at "rd"
   exact q W hWl hWi #[0]
theorem zgq(T:Txt c K mg)(zlv:#[8,dd_windows_of_clan]):dd_windows_within P w K mg base:=by
 obtain⟨f,fd,F,hm⟩:=T.d_windows_within;have hb:=F.binds (ps:=["told", "rooms"]) fun _ _ _ _ _ _ us hl=>by obtain⟨_,_,rfl⟩:=zR hl;rfl
 refine⟨fun ds Q Q' E E' hQ hE h=>?_,⟨f,fd,zgp T zlv F,hb,F.kp,hm⟩⟩
 obtain⟨a,b,d,n,e,x1,x2,x3,x4,x5,x6,x7,x8,x9,h⟩:=h;exact⟨a,b,d,n,e,x1,x2,x3,x4,x5,x6,x7,x8,x9,fun w x y z=>hQ _ _ (h w x y z)⟩
theorem zha:FnScope ["visits", "choices", "found", "turn", "places", "place"] ["visits", "choices"] (ze jQ):=⟨rfl,rfl,rfl,#[3],rfl,#[3],#[3]⟩
theorem zhV(T:Txt c K mg){f:Addr}{fd:FuncData}(F:Fun K "choices_of_visits" "choices_of_visits" jQ f fd):FnOk P w K mg base (CXR P w) 1 f fd ["visits", "choices"] (spL K Zo):=by
 have S:=zha;refine fn3 F S (fun ds Q E h=>?_) (fun cdv A outer s H E E3 hE hr=>?_)
 . obtain⟨_,_,rfl,_⟩:=h;rfl
 refine⟨_,(zc (zgT (i:=2) S.nd rfl #[2] ["visit"] [] [] rfl (zU (osc:=ze jQ) #[3]) rfl (zN (n3 0)) (fun s H fp cl=>⟨zcu (i:=0) (show((["visit"]:List PySem.Str)++([]:List PySem.Str)).Nodup by decide) rfl #[2] (by first|exact .inl rfl|exact .inr rfl),zcJ jt⟩) (fun σ H Q h=>⟨show 0<=sizeLine by decide,h⟩) (fun G=>RdVs.nil) rfl)
  (zc (zM Waq rfl (zaL rfl T.n_enumerate (za (n3 1) zb)) (zW (n:=2) rfl (zy (zi (i:=3) S.nd rfl #[2]) (zy (zi (i:=4) S.nd rfl #[2]) zV))) (zd (zM Waq rfl (zN (n3 4)) (zi (i:=5) S.nd rfl #[2]) (zd (zf2 (i:=2) rfl #[2] (n3 5) (n3 3) #[4])))))
  (zd (jv [2] (zr (n3 2)))))),fun ds Q h=>?_⟩
 obtain⟨V,ch,rfl,hV,hT,hrow,q⟩:=h;refine zg fun N hN=>?_
 walk_at "rd YaR"
 refine⟨#[0],fun ps hps=>hN _ ?_⟩
 clear hN N;have e0:List.replicate V.length ([]:List D)=(List.replicate V.length ([]:List Int)).map fun r=>r.map PyData.int:=by rw [List.map_replicate];rfl
 rw [e0];refine zH (fun ρ=>∃ (tv:List (List Int)) (t3 t4 t5:Option L3.Cl),ρ = [some (.sh false (.list (V.map dW))),some (.sh false (.list (ch.map dI))),some (.tr ps (tv.map fun r=>r.map PyData.int)),t3,t4,t5]/\tv.length=V.length/\∀ row∈tv,∀ x∈row,InR x ch.length) (fun N hN=>?_) ?_
 . walk_at "rd"
   rw [zht];refine zbB (fun k ρ=>∃ (tv:List (List Int)) (t3 t4 t5:Option L3.Cl),ρ = [some (.sh false (.list (V.map dW))),some (.sh false (.list (ch.map dI))),some (.tr ps (tv.map fun r=>r.map PyData.int)),t3,t4,t5]/\tv.length=V.length/\(∀ row∈tv,∀ x∈row,InR x ch.length)/\∀ row∈tv,row.length<=2000*k) ?_ (fun ρ ⟨tv,t3,t4,t5,e,h1,h2,_⟩=>hN ρ ⟨tv,t3,t4,t5,e,h1,h2⟩) ⟨List.replicate V.length [],none,none,none,rfl,by simp,fun row h x hx=>(by rw [Wae h] at hx;cases hx),fun row h=>(by rw [Wae h];exact WaK _)⟩
   rintro k ρ hk ⟨tv,t3,t4,t5,rfl,hl,hin,hlen⟩ W hW
   obtain⟨r1,r2⟩:=hrow (ch.getD k []) (zcz hk);generalize ch.getD k []=row at r1 r2
   walk_at "rd"
   refine jG PyData.int row (fun done ρ=>∃ (tv:List (List Int)) (t5:Option L3.Cl),ρ = [some (.sh false (.list (V.map dW))),some (.sh false (.list (ch.map dI))),some (.tr ps (tv.map fun r=>r.map PyData.int)),#[5,(k:Int)],some (.sh false (.list (row.map .int))),t5]/\tv.length=V.length/\(∀ row∈tv,∀ x∈row,InR x ch.length)/\∀ row∈tv,row.length<=2000*k+done.length) ?_ ?_ ⟨tv,_,rfl,hl,hin,hlen⟩
   . rintro done x rest ρ hd ⟨tv,t5,rfl,hl,hin,hlen⟩ V' hV'
     have hx:InR x tv.length:=by rw [hl];exact r2 x (by rw [hd];simp)
     have hdn:done.length<row.length:=by rw [hd,YaS,List.length_cons];omega
     obtain⟨a1,a2⟩:=zaU (d:=[]) hx;have a3:=hin _ a2;have a4:=hlen _ a2;generalize tv.getD x.toNat []=rw_ at a1 a2 a3 a4;have b1:atI (tv.map fun r=>r.map PyData.int) x=some (rw_.map PyData.int):=by rw [jO,a1];rfl
     have b2:ixN (tv.map fun r=>r.map PyData.int).length x=some x.toNat:=zcv hx.1 (by rw [YaR];exact hx.2)
     walk_at "rd"
     refine⟨_,b1,_,b2,YaU (show _<1000000 by rw [YaR];omega) #[1],hV' _ ⟨tv.set x.toNat (rw_++[(k:Int)]),_,by rw [List.map_set,Ya2];rfl,by rw [YaN];exact hl,fun r hr y hy=>?_,fun r hr=>?_⟩⟩
     . rcases Wac hr with z|z
       . exact hin r z y hy
       . rw [z] at hy
         rcases Ya3.mp hy with w|w
         . exact a3 y w
         . rw [Ya6.mp w];exact⟨#[0],#[0]⟩
     . rw [YaS,List.length_singleton]
       rcases Wac hr with z|z
       . have:=hlen r z;omega
       . rw [z,YaS,List.length_singleton];omega
   . rintro ρ ⟨tv,t5,rfl,hl,hin,hlen⟩
     exact hW _ ⟨tv,_,_,_,rfl,hl,hin,fun r hr=>by have:=hlen r hr;omega⟩
 rintro ρ ⟨tv,t3,t4,t5,rfl,hl,hin⟩
 walk_at "rd"
 have:=q tv hl hin;rw [YaD];exact this
theorem zjn(T:Txt c K mg) : dd_choices_of_visits P w K mg base:=by
 obtain⟨f,fd,F,hm⟩:=T.d_choices_of_visits;have hb:=F.binds (ps:=["visits", "choices"]) fun _ _ _ _ _ _ us hl=>by obtain⟨_,_,rfl⟩:=zR hl;rfl
 refine⟨fun ds Q Q' E E' hQ hE h=>?_,⟨f,fd,zhV T F,hb,F.kp,hm⟩⟩
 obtain⟨a,b,e,x1,x2,x3,h1⟩:=h;exact⟨a,b,e,x1,x2,x3,fun u v w=>hQ _ _ (h1 u v w)⟩
theorem zhu:FnScope ["choice", "came", "taken", "holders", "taker", "former"] ["choice", "came", "taken", "holders"] (ze JF):=⟨rfl,rfl,rfl,#[3],rfl,#[3],#[3]⟩
theorem zkk(T:Txt c K mg){f:Addr}{fd:FuncData}(F:Fun K "move_along" "move_along" JF f fd):FnOk P w K mg base (CXR P w) 1 f fd ["choice", "came", "taken", "holders"] (spC K Zp):=by
 have S:=zhu;refine fnC [1,2,3] F S (fun ds Q h=>?_) (fun cdv A outer s H H0 E E3 hE hr=>?_)
 . obtain⟨_,_,_,_,_,_,_,_,_,_,_,_,rfl,_⟩:=h;exact⟨rfl,by simp [z7]⟩
 refine⟨_,(zd (ZS Waq (zk zau (n3 0) non3 (nomark _)) (zc (zf (i:=4) S.nd rfl #[2] (zbq (i:=1) (jj hr) rfl #[2] (n3 0)))
  (zc (zf (i:=5) S.nd rfl #[2] (ziq (i:=2) (jj hr) rfl #[2] (n3 4)))
  (zc (zbZ (i:=2) (jj hr) rfl #[2] (n3 4) (n3 0))
  (zc (zbZ (i:=3) (jj hr) rfl #[2] (n3 0) (n3 4))
  (zd (zf (i:=0) S.nd rfl #[2] (n3 5))))))))),fun ds Q h=>?_⟩
 obtain⟨x,a1,a2,a3,ca,t,h,r,start,A',B',m,rfl,hw,ho,hA,hB,q⟩:=h
 walk_at "rd"
 refine⟨_,Zg (fun k ρ=>(∃ (x:Int) (t' h':Tb) (t4 t5:Option L3.Cl) (j:Nat),ρ = [#[5,x],some (.dm a1 ca),some (.dm a2 t'),some (.dm a3 h'),t4,t5]/\OnWay ca t h t' h' r x A' B' j/\k=j+1)\/∃ (t' h':Tb) (t4 t5:Option L3.Cl),ρ = [some (.sh true .none),some (.dm a1 ca),some (.dm a2 t'),some (.dm a3 h'),t4,t5]/\Moved t h t' h' start A' B') ?_ _ _ (.inl ⟨x,t,h,_,_,m,rfl,ho,rfl⟩)⟩
 rintro k ρ (⟨x,t',h',t4,t5,j,rfl,ho,rfl⟩|⟨t',h',t4,t5,rfl,hm⟩) W hW
 . obtain⟨s,hs,_⟩:=ho.came
   obtain⟨st1,st2⟩:=ho.step hw hs;have l1:=ho.ot.len;have l2:=ho.oh.len;refine zbJ fun Y N' hY hN'=>?_
   walk_at "rd"
   refine hY ?_
   clear hY hN' Y N';refine zg fun N hN=>?_
   walk_at "rd hs"
   refine hN _ ?_
   clear hN N;refine zg fun N hN=>?_
   walk_at "rd"
   refine hN _ ?_
   clear hN N;refine zg fun N hN=>?_
   walk_at "rd"
   refine⟨YaU (show _<1000000 by omega) #[1],hN _ ?_⟩
   clear hN N;refine zg fun N hN=>?_
   walk_at "rd"
   refine⟨YaU (show _<1000000 by omega) #[1],hN _ ?_⟩
   clear hN N;cases e:getM t' s with
   | none=>
    walk_at "rd optI"
    exact hW 0 _ #[0] (.inr ⟨_,_,_,_,rfl,st1 e⟩)
   | some c'=>
    obtain⟨m',hm',o'⟩:=st2 c' e
    walk_at "rd optI"
    exact hW (m'+1) _ #[0] (.inl ⟨c',_,_,_,_,m',rfl,o',rfl⟩)
 . refine zbJ fun Y N' hY hN'=>?_
   walk_at "rd"
   refine hN' ?_
   walk_at "rd"
   exact q t' h' hm
theorem zgM(T:Txt c K mg) : dd_move_along P w K mg base:=by
 obtain⟨f,fd,F,hm⟩:=T.d_move_along;have hb:=F.binds (ps:=["choice", "came", "taken", "holders"]) fun _ _ _ _ _ _ us hl=>by obtain⟨_,_,_,_,rfl⟩:=zaM hl;rfl
 refine⟨fun ds Q Q' hQ h=>?_,⟨f,fd,zkk T F,hb,F.kp,hm⟩⟩
 obtain⟨a,b,d,f,g,i,j,k,l,m,n,o,e,x1,x2,x3,x4,h1⟩:=h;exact⟨a,b,d,f,g,i,j,k,l,m,n,o,e,x1,x2,x3,x4,fun u v w=>hQ _ _ (h1 u v w)⟩
theorem zec:FnScope ["start", "choices", "taken", "holders", "reached", "came", "place", "seeker", "choice"] ["start", "choices", "taken", "holders"] (ze Jv):=⟨rfl,rfl,rfl,#[3],rfl,#[3],#[3]⟩
theorem zfn(T:Txt c K mg)(zlm:#[8,dd_move_along]){f:Addr}{fd:FuncData}(F:Fun K "settle" "settle" Jv f fd):FnOk P w K mg base (CXR P w) 2 f fd ["start", "choices", "taken", "holders"] (spC K J4):=by
 have S:=zec;refine fnC [2,3] F S (fun ds Q h=>?_) (fun cdv A outer s H H0 E E3 hE hr=>?_)
 . obtain⟨_,_,_,_,_,_,_,_,rfl,_⟩:=h;exact⟨rfl,by simp [z7]⟩
 refine⟨_,(zc (jk (i:=4) S.nd rfl #[2] (zA (za (n3 0) zb)))
  (zc (zbh (i:=5) S.nd rfl #[2])
  (zc (zf (i:=6) S.nd rfl #[2] i3)
  (zc (ZS Waq (zk jC (n3 6) (zB zL rfl T.n_len zO (za (n3 4) zb)) (nomark _)) (zc (zf (i:=7) S.nd rfl #[2] (at3 (n3 4) (n3 6) #[4]))
   (zc (zM Waq rfl (zN (at3 (n3 1) (n3 7) #[4])) (zi (i:=8) S.nd rfl #[2]) (zd (s_if (zbL (i:=5) (jj hr) rfl #[2] (n3 8)) (zc (zbZ (i:=5) (jj hr) rfl #[2] (n3 8) (n3 7))
    (zc (s_if (zbL (i:=3) (jj hr) rfl #[2] (n3 8)) (zc (zjP [5,2,3] #[1] zlm (hr.mono #[1]) rfl zm (za (n3 8) (za (n3 5) (za (n3 2) (za (n3 3) zb)))))
     (zd (za0 (new3 (zA zb))))) zj)
    (zd (jK (i:=4) rfl #[2] (zbq (i:=3) (jj hr) rfl #[2] (n3 8)))))) zj)))
   (zd (zc7 (i:=6) S.nd rfl #[2] i3)))))
  (zd (za0 (new3 (zgL rfl rfl T.n_sorted (za (n3 4) zb))))))))),fun ds Q h=>?_⟩
 obtain⟨start,ch,a2,a3,t,h,A',B',rfl,hch,hA,hB,h62,hst,hrow,hm,ht,hh,h0,q1,q2⟩:=h;refine zg fun N hN=>?_
 walk_at "rd"
 refine hN _ ?_
 clear hN N;refine zg fun N hN=>?_
 walk_at "rd"
 refine fun ac=>hN _ ?_
 clear hN N;refine zg fun N hN=>?_
 walk_at "rd"
 refine hN _ ?_
 clear hN N;refine zH (fun ρ=>∃ (R:List Int) (ca:Tb) (p:Nat) (t7 t8:Option L3.Cl),ρ = [#[5,start],some (.sh false (.list (ch.map dI))),some (.dm a2 t),some (.dm a3 h),some (.ow true (R.map .int)),some (.dm ac ca),#[5,(p:Int)],t7,t8]/\Rea start t h ca R A' B') (fun N hN=>?_) ?_
 . walk_at "rd"
   refine⟨_,Zg (fun k ρ=>∃ (R:List Int) (ca:Tb) (p:Nat) (t7 t8:Option L3.Cl),ρ = [#[5,start],some (.sh false (.list (ch.map dI))),some (.dm a2 t),some (.dm a3 h),some (.ow true (R.map .int)),some (.dm ac ca),#[5,(p:Int)],t7,t8]/\Rea start t h ca R A' B'/\p<=R.length/\k=A' - p) ?_ _ _ ⟨[start],[],0,_,_,rfl,Rea.start hst,WaK _,rfl⟩⟩
   rintro k ρ ⟨R,ca,p,t7,t8,rfl,hR,hp,rfl⟩ W hW
   have hRA:=ZK hR.nd hR.inn;refine zbJ fun Y N' hY hN'=>?_
   walk_at "rd YaR"
   refine ite2 (fun hlt=>hY ?_) fun _=>hN' (hN _ ⟨R,ca,p,t7,t8,rfl,hR⟩)
   clear hY hN' Y N';have hlt:p<R.length:=#[0]
   have hsk:atI (R.map PyData.int) (p:Int)=some (PyData.int (R[p]'hlt)):=jB (by rw [Ya0,YaQ hlt];rfl)
   have hsR:R[p]'hlt∈R:=Ya4 _;generalize R[p]'hlt=s at hsk hsR;refine zg fun N1 hN1=>?_
   walk_at "rd hsk"
   refine hN1 _ ?_
   clear hN1 N1;obtain⟨r1,r2⟩:=zaU (L:=ch) (d:=[]) (hch ▸ hR.inn s hsR);have r1':atI (ch.map dI) s=some (.list ((ch.getD s.toNat []).map .int)):=by rw [jO,r1];rfl
   have r3:=hrow _ r2;generalize ch.getD s.toNat []=row at r1' r3;refine zH (fun ρ=>∃ (R:List Int) (ca:Tb) (t8:Option L3.Cl),ρ = [#[5,start],some (.sh false (.list (ch.map dI))),some (.dm a2 t),some (.dm a3 h),some (.ow true (R.map .int)),some (.dm ac ca),#[5,(p:Int)],#[5,s],t8]/\Rea start t h ca R A' B'/\s∈R/\p<R.length) (fun N1 hN1=>?_) ?_
   . walk_at "rd r1'"
     refine jG PyData.int row (fun done ρ=>∃ (R:List Int) (ca:Tb) (t8:Option L3.Cl),ρ = [#[5,start],some (.sh false (.list (ch.map dI))),some (.dm a2 t),some (.dm a3 h),some (.ow true (R.map .int)),some (.dm ac ca),#[5,(p:Int)],#[5,s],t8]/\Rea start t h ca R A' B'/\s∈R/\p<R.length) ?_ (fun ρ h=>hN1 ρ h) ⟨R,ca,_,rfl,hR,hsR,hlt⟩
     clear hR hRA hp hlt hsk hsR
     rintro done x rest ρ hd ⟨R,ca,t8,rfl,hR,hsR,hlt⟩ V hV
     have hx:InR x B':=r3 x (by rw [hd];simp)
     have hRA:=ZK hR.nd hR.inn;have hcl:=hR.oc.len;simp only [gn3,List.set_cons_zero,List.set_cons_succ,zo,WaJ];refine j1 fun Y N' hY hN'=>?_
     walk_at "rd"
     refine ite2 (fun hn=>hY ?_) fun _=>hN' (by walk_at "rd";exact hV _ ⟨R,ca,_,rfl,hR,hsR,hlt⟩)
     clear hY hN' Y N';have hn:getM ca x=none:=by cases e:getM ca x with|none=>rfl|some _=>rw [e] at hn;cases hn
     refine zg fun N2 hN2=>?_
     walk_at "rd"
     refine⟨YaU (show _<1000000 by omega) #[1],hN2 _ ?_⟩
     clear hN2 N2;refine zg fun N2 hN2=>?_
     refine j1 fun Y N' hY hN'=>?_
     walk_at "rd"
     refine ite2 (fun hf=>hY ?_) fun hf=>hN' ?_
     . clear hY hN' Y N' hN2
       have hf:getM h x=none:=by cases e:getM h x with|none=>rfl|some _=>rw [e] at hf;cases hf
       have hway:=hR.seen h0 hsR hx hn;refine zg fun N3 hN3=>?_
       walk_at "rd"
       refine⟨fun y=>R.idxOf y,start,A',B',hway,R.idxOf s,⟨hm.free hf,ht,hh,⟨s,by rw [z0,if_pos rfl],rfl⟩,fun _ _=>rfl,fun _=>Iff.rfl,fun _ z=>z⟩,hA,hB,fun t' h' hmv=>hN3 _ ?_⟩
       walk_at "rd"
       exact q1 t' h' hmv
     . have hf:∃ y,getM h x=some y:=by cases e:getM h x with|none=>rw [e] at hf;exact absurd rfl hf|some y=>exact⟨y,rfl⟩
       obtain⟨y,hy⟩:=hf
       walk_at "rd"
       refine hN2 _ ?_
       clear hY hN' Y N' hN2 N2
       walk_at "rd hy YaR"
       refine⟨YaU (show _<1000000 by omega) #[1],hV _ ⟨R++[y],putM ca x s,_,by rw [Ya2];rfl,hR.more hm h0 hsR hx hn hy hh,Yai _ hsR,by rw [YaS];omega⟩⟩
   rintro ρ ⟨R',ca',t8',rfl,hR',hsR',hlt'⟩
   have hRA':=ZK hR'.nd hR'.inn
   walk_at "rd"
   exact hW (A' - (p+1)) _ #[0] ⟨R',ca',p+1,_,_,rfl,hR',#[0],rfl⟩
 rintro ρ ⟨R,ca,p,t7,t8,rfl,hR⟩
 have hRA:=ZK hR.nd hR.inn;have hcl:=hR.oc.len;have hln:=hR.len
 walk_at "rd"
 refine⟨R,rfl,#[0],fun ms p _=>q2 ms (fun z=>?_) (by have:=p.length_eq;omega) fun x hx=>hR.inn x (p.mem_iff.mp hx)⟩
 have:=p.length_eq;rw [z] at this
 simp at this
 omega
theorem zkg(T:Txt c K mg)(zlm:#[8,dd_move_along]):dd_settle P w K mg base:=by
 obtain⟨f,fd,F,hm⟩:=T.d_settle;have hb:=F.binds (ps:=["start", "choices", "taken", "holders"]) fun _ _ _ _ _ _ us hl=>by obtain⟨_,_,_,_,rfl⟩:=zaM hl;rfl
 refine⟨fun ds Q Q' hQ h=>?_,⟨f,fd,zfn T zlm F,hb,F.kp,hm⟩⟩
 obtain⟨a,b,d,f,g,i,j,k,e,x1,x2,x3,x4,x5,x6,x7,x8,x9,x10,h1,h2⟩:=h;exact⟨a,b,d,f,g,i,j,k,e,x1,x2,x3,x4,x5,x6,x7,x8,x9,x10,fun u v w=>hQ _ _ (h1 u v w),fun u v w z=>hQ _ _ (h2 u v w z)⟩
theorem zhk:FnScope ["visits", "choices", "turn_of_visit", "visit_of_turn", "turns_for", "place", "visit", "stuck", "turn"] ["visits", "choices"] (ze jy):=⟨rfl,rfl,rfl,#[3],rfl,#[3],#[3]⟩
theorem zfs(T:Txt c K mg)(zk2:#[8,dd_choices_of_visits])(zls:#[8,dd_settle]){f:Addr}{fd:FuncData}(F:Fun K "place_visits" "place_visits" jy f fd):FnOk P w K mg base (CXR P w) 3 f fd ["visits", "choices"] (spL K Zq):=by
 have S:=zhk;refine fn3 F S (fun ds Q E h=>?_) (fun cdv A outer s H E E3 hE hr=>?_)
 . obtain⟨_,_,rfl,_⟩:=h;rfl
 refine⟨_,(zc (zbh (i:=2) S.nd rfl #[2])
  (zc (zbh (i:=3) S.nd rfl #[2])
  (zc (zf (i:=4) S.nd rfl #[2] (df3 hE zk2 (hr.mono #[1]) rfl zm (za (n3 0) (za (n3 1) zb))))
  (zc (zM Waq rfl (zaL rfl T.n_enumerate (za (n3 0) zb)) (zW (n:=2) rfl (zy (zi (i:=5) S.nd rfl #[2]) (zy (zi (i:=6) S.nd rfl #[2]) zV))) (zd (s_if (zk zau (at3 (n3 6) i3 #[4]) non3 (nomark _)) (zc (za4 (i:=7) [2,3] #[1] S.nd rfl #[2] zls (hr.mono #[1]) rfl zm (za (n3 5) (za (n3 4) (za (n3 2) (za (n3 3) zb)))))
   (zd (s_if (zk jR (zB zL rfl T.n_len zO (za (n3 7) zb)) i3 (nomark _)) (zd (zr (zF (za s3 (za (new3 (z8 ["other"] ["visits"] [0] rfl (zU (osc:=ze jy) #[3]) rfl (zN (n3 7)) (fun H0 s H fp cl=>⟨(zi (i:=0) (show((["other"]:List PySem.Str)++(["visits"]:List PySem.Str)).Nodup by decide) rfl #[2]),zY,(zF (za (at3 (at3 (n3 1) (n3 0) #[4]) i3 #[4]) (za (at3 (at3 (n3 1) (n3 0) #[4]) i3 #[4]) zb)))⟩))) zb))))) zj))) zj)))
  (zc (zM Waq rfl (jH rfl T.n_range (za (zB zL rfl T.n_len zO (za (n3 1) zb)) zb)) (zi (i:=8) S.nd rfl #[2]) (zd (s_if (zbL (i:=3) (jj hr) rfl #[2] (n3 8)) (zc (za4 (i:=7) [3,2] #[1] S.nd rfl #[2] zls (hr.mono #[1]) rfl zm (za (n3 8) (za (n3 1) (za (n3 3) (za (n3 2) zb)))))
   (zd (s_if (zk jR (zB zL rfl T.n_len zO (za (n3 7) zb)) i3 (nomark _)) (zd (zr (zF (za s3 (za (new3 (z8 ["other"] [] [] rfl (zU (osc:=ze jy) #[3]) rfl (zN (n3 7)) (fun H0 s H fp cl=>⟨(zi (i:=0) (show((["other"]:List PySem.Str)++([]:List PySem.Str)).Nodup by decide) rfl #[2]),zY,(op3 zz (n3 0) i3)⟩))) zb))))) zj))) zj)))
  (zd (zr (zF (za s3 (za (new3 (z8 ["turn"] ["visits", "visit_of_turn"] [0,3] rfl (zU (osc:=ze jy) #[3]) rfl (jH rfl T.n_range (za (zB zL rfl T.n_len zO (za (n3 1) zb)) zb)) (fun H0 s H fp cl=>⟨(zi (i:=0) (show((["turn"]:List PySem.Str)++(["visits", "visit_of_turn"]:List PySem.Str)).Nodup by decide) rfl #[2]),zY,(at3 (at3 (n3 1) (zbq (i:=2) (jj hr) rfl #[2] (n3 0)) #[4]) i3 #[4])⟩))) zb)))))))))),fun ds Q h=>?_⟩
 obtain⟨V,ch,rfl,hV,hT,hrow,q⟩:=h;refine zg fun N hN=>?_
 walk_at "rd"
 refine fun a2=>hN _ ?_
 clear hN N;refine zg fun N hN=>?_
 walk_at "rd"
 refine fun a3=>hN _ ?_
 clear hN N;refine zg fun N hN=>?_
 walk_at "rd"
 refine⟨V,rfl,ch,rfl,hV,hT,hrow,fun tv hvl htv=>hN _ ?_⟩
 clear hN N;refine zH (fun ρ=>∃ (t h:Tb) (t5 t6 t7:Option L3.Cl),ρ = [some (.sh false (.list (V.map dW))),some (.sh false (.list (ch.map dI))),some (.dm a2 t),some (.dm a3 h),some (.sh true (.list (tv.map dI))),t5,t6,t7,none]/\Mat t h/\TbOk t V.length ch.length/\TbOk h ch.length V.length) (fun N hN=>?_) ?_
 . walk_at "rd"
   rw [zdz];refine zbB (fun k ρ=>∃ (t h:Tb) (t5 t6 t7:Option L3.Cl),ρ = [some (.sh false (.list (V.map dW))),some (.sh false (.list (ch.map dI))),some (.dm a2 t),some (.dm a3 h),some (.sh true (.list (tv.map dI))),t5,t6,t7,none]/\Mat t h/\TbOk t V.length ch.length/\TbOk h ch.length V.length/\∀ s,(getM t s).isSome=true->s<(k:Int)) ?_ (fun ρ ⟨t,h,t5,t6,t7,e,h1,h2,h3,_⟩=>hN ρ ⟨t,h,t5,t6,t7,e,h1,h2,h3⟩) ⟨[],[],none,none,none,rfl,fun s c=>⟨fun z=>(by cases z),fun z=>(by cases z)⟩,TbOk.nil _ _,TbOk.nil _ _,fun s z=>(by cases z)⟩
   rintro k ρ hk ⟨t,h,t5,t6,t7,rfl,hm,ht,hh,hd⟩ W hW
   generalize V.getD k (0,0,0,none)=v;obtain⟨vc,vj,vo,vl⟩:=v;have h0:getM t (k:Int)=none:=by
    cases e:getM t (k:Int) with
    | none=>rfl
    | some y=>have:=hd (k:Int) (by rw [e];rfl);omega
   have up:∀ s,(getM t s).isSome=true->s<((k+1:Nat):Int):=fun s z=>by have:=hd s z;omega
   refine zhd fun N1 hN1=>?_
   walk_at "rd"
   refine hN1 _ ?_
   clear hN1 N1;refine j1 fun Y N' hY hN'=>?_
   have no:N':=hN' (by walk_at "rd";exact hW _ ⟨t,h,_,_,_,rfl,hm,ht,hh,up⟩)
   have yes:Y:=by
    refine hY ?_
    clear hY hN' no;refine zg fun N1 hN1=>?_
    walk_at "rd"
    rw [<-hvl] at ht hh;refine⟨tv,rfl,#[0],ch.length,#[0],.inr #[0],⟨#[0],#[0]⟩,htv,hm,ht,hh,h0,fun t' h' hmv=>hN1 _ ?_,fun rs hne h64 hrs=>hN1 _ ?_⟩
    . clear hN1 N1
      walk_at "rd"
      rw [if_neg #[1]]
      refine hW _ ⟨t',h',_,_,_,rfl,hmv.mat,hvl ▸ hmv.ot,hvl ▸ hmv.oh,fun s z=>?_⟩
      rcases(hmv.dt s).mp z with y|y
      . exact up s y
      . rw [y];omega
    . clear hN1 N1
      have hz:0<rs.length:=List.length_pos_iff.mpr hne
      walk_at "rd YaR"
      rw [if_pos #[0]]
      refine⟨sz #[0],?_⟩
      refine zX PyData.int (fun x=>.tuple [.int (V.getD x.toNat (0,0,0,none)).1,.int (V.getD x.toNat (0,0,0,none)).2.1]) (fun ρ=>∃ t,ρ = [t,some (.sh false (.list (V.map dW)))]) rs ?_ _ _ _ _ ⟨none,rfl⟩ (q _)
      rintro x hx ρ fa acc K ⟨t,rfl⟩ kk
      have hat:atI (V.map dW) x=some (dW (V.getD x.toNat (0,0,0,none))):=by rw [jO,(zaU (d:=(0,0,0,none)) (hvl ▸ hrs x hx)).1];rfl
      walk_at "rd hat"
      exact kk _ ⟨_,rfl⟩
   clear hY hN';cases vl with
   | none=>walk_at "rd dO";exact no
   | some e=>walk_at "rd dO";exact yes
 rintro ρ ⟨t,h,t5,t6,t7,rfl,hm,ht,hh⟩
 refine zH (fun ρ=>∃ (t h:Tb) (t5 t6 t7 t8:Option L3.Cl),ρ = [some (.sh false (.list (V.map dW))),some (.sh false (.list (ch.map dI))),some (.dm a2 t),some (.dm a3 h),some (.sh true (.list (tv.map dI))),t5,t6,t7,t8]/\TbOk h ch.length V.length/\∀ k:Int,0<=k->k<(ch.length:Int)->(getM h k).isSome=true) (fun N hN=>?_) ?_
 . walk_at "rd YaR"
   refine⟨#[0],#[0],?_⟩
   rw [Int.toNat_natCast];refine jE (fun k ρ=>∃ (t h:Tb) (t5 t6 t7 t8:Option L3.Cl),ρ = [some (.sh false (.list (V.map dW))),some (.sh false (.list (ch.map dI))),some (.dm a2 t),some (.dm a3 h),some (.sh true (.list (tv.map dI))),t5,t6,t7,t8]/\Mat t h/\TbOk t V.length ch.length/\TbOk h ch.length V.length/\∀ i:Int,0<=i->i<(k:Int)->(getM h i).isSome=true) ?_ (fun ρ ⟨t,h,t5,t6,t7,t8,e,h1,h2,h3,h4⟩=>hN ρ ⟨t,h,t5,t6,t7,t8,e,h3,h4⟩) ⟨t,h,_,_,_,_,rfl,hm,ht,hh,fun i h0 h1=>absurd h1 #[0]⟩
   clear hm ht hh t h t5 t6 t7
   rintro k ρ hk ⟨t,h,t5,t6,t7,t8,rfl,hm,ht,hh,hd⟩ W hW
   simp only [gn3,List.set_cons_zero,List.set_cons_succ,zo,WaJ];refine j1 fun Y N' hY hN'=>?_
   walk_at "rd"
   refine ite2 (fun hn=>hY ?_) fun hn=>hN' ?_
   . have h0:getM h (0+(k:Int))=none:=by cases e:getM h (0+(k:Int)) with|none=>rfl|some _=>rw [e] at hn;cases hn
     refine zg fun N1 hN1=>?_
     walk_at "rd"
     refine⟨ch,rfl,#[0],V.length,#[0],.inl #[0],⟨#[0],#[0]⟩,fun row hr=>(hrow row hr).2,hm.symm,hh,ht,h0,fun h' t' hmv=>hN1 _ ?_,fun rs hne h64 hrs=>hN1 _ ?_⟩
     . clear hN1 N1
       walk_at "rd"
       rw [if_neg #[1]]
       refine hW _ ⟨t',h',_,_,_,_,rfl,hmv.mat.symm,hmv.oh,hmv.ot,fun i i0 i1=>(hmv.dt i).mpr ?_⟩
       by_cases e:i=(k:Int)
       . exact .inr #[0]
       . exact .inl (hd i i0 #[0])
     . clear hN1 N1
       have hz:0<rs.length:=List.length_pos_iff.mpr hne
       walk_at "rd YaR"
       rw [if_pos #[0]]
       refine⟨sz #[0],?_⟩
       refine zX PyData.int (fun x=>.int (x+1)) (fun ρ=>∃ t,ρ = [t]) rs ?_ _ _ _ _ ⟨none,rfl⟩ (q _)
       rintro x hx ρ fa acc K ⟨t,rfl⟩ kk
       walk_at "rd"
       exact kk _ ⟨_,rfl⟩
   . walk_at "rd"
     refine hW _ ⟨t,h,_,_,_,_,rfl,hm,ht,hh,fun i i0 i1=>?_⟩
     by_cases e:i=(k:Int)
     . rw [e]
       rw [Int.zero_add] at hn;cases z:getM h (k:Int) with|none=>rw [z] at hn;exact absurd rfl hn|some _=>rfl
     . exact hd i i0 #[0]
 clear hm ht hh t h t5 t6 t7
 rintro ρ ⟨t,h,t5,t6,t7,t8,rfl,hh,hd⟩
 walk_at "rd YaR"
 rw [Int.toNat_natCast];refine⟨#[0],#[0],sz (by rw [zcR];omega),?_⟩
 refine zX (fun i:Nat=>PyData.int (0+(i:Nat))) (fun i:Nat=>.int (V.getD ((getM h (0+(i:Int))).getD 0).toNat (0,0,0,none)).1) (fun ρ=>∃ t,ρ = [t,some (.sh false (.list (V.map dW))),some (.dm a3 h)]) (List.range ch.length) ?_ _ _ _ _ ⟨none,rfl⟩ (q _)
 rintro i hi ρ fa acc K ⟨t,rfl⟩ kk
 have hi:=Yba.mp hi;obtain⟨y,hy⟩:=Wad.mp (hd (0+(i:Int)) #[0] #[0])
 rw [hy] at kk;have hat:atI (V.map dW) y=some (dW (V.getD y.toNat (0,0,0,none))):=by rw [jO,(zaU (d:=(0,0,0,none)) (hh.get hy).2).1];rfl
 walk_at "rd hy hat"
 exact kk _ ⟨_,rfl⟩
theorem zeR(T:Txt c K mg)(zk2:#[8,dd_choices_of_visits])(zls:#[8,dd_settle]):dd_place_visits P w K mg base:=by
 obtain⟨f,fd,F,hm⟩:=T.d_place_visits;have hb:=F.binds (ps:=["visits", "choices"]) fun _ _ _ _ _ _ us hl=>by obtain⟨_,_,rfl⟩:=zR hl;rfl
 refine⟨fun ds Q Q' E E' hQ hE h=>?_,⟨f,fd,zfs T zk2 zls F,hb,F.kp,hm⟩⟩
 obtain⟨a,b,e,x1,x2,x3,h1⟩:=h;exact⟨a,b,e,x1,x2,x3,fun u=>hQ _ _ (h1 u)⟩
theorem zeA:FnScope ["one", "other"] ["one", "other"] (ze JI):=⟨rfl,rfl,rfl,#[3],rfl,#[3],#[3]⟩
theorem zhZ(T:Txt c K mg){f:Addr}{fd:FuncData}(F:Fun K "less" "less" JI f fd):FnOk P w K mg base (CXR P w) 1 f fd ["one", "other"] (spL K Zy):=by
 have S:=zeA;refine fn3 F S (fun ds Q E h=>?_) (fun cdv A outer s H E E3 hE hr=>?_)
 . obtain⟨_,_,rfl,_⟩:=h;rfl
 refine⟨_,(zd (zr (cmp3 jC (op3 z6 (at3 (n3 0) i3 #[4]) (at3 (n3 1) i3 #[4])) (op3 z6 (at3 (n3 1) i3 #[4]) (at3 (n3 0) i3 #[4])) (nomark _)))),fun ds Q h=>?_⟩
 obtain⟨a,b,rfl,ha,hb,q⟩:=h
 walk_at "rd atI0 atI1"
 exact⟨ha.2.1.mulOk hb.2.2 #[1],hb.2.1.mulOk ha.2.2 #[1],q⟩
theorem zjt(T:Txt c K mg) : dd_less P w K mg base:=by
 obtain⟨f,fd,F,hm⟩:=T.d_less;have hb:=F.binds (ps:=["one", "other"]) fun _ _ _ _ _ _ us hl=>by obtain⟨_,_,rfl⟩:=zR hl;rfl
 refine⟨fun ds Q Q' E E' hQ hE h=>?_,⟨f,fd,zhZ T F,hb,F.kp,hm⟩⟩
 obtain⟨a,b,e,x,y,h⟩:=h;exact⟨a,b,e,x,y,hQ _ _ h⟩
theorem zjV:FnScope ["bounds", "clans", "below", "above", "bound"] ["bounds", "clans"] (ze JO):=⟨rfl,rfl,rfl,#[3],rfl,#[3],#[3]⟩
theorem zfy(T:Txt c K mg)(zlk:#[8,dd_less]){f:Addr}{fd:FuncData}(F:Fun K "check_bounds" "check_bounds" JO f fd):FnOk P w K mg base (CXR P w) 2 f fd ["bounds", "clans"] (spL K (JV c)):=by
 have S:=zjV;refine fn3 F S (fun ds Q E h=>?_) (fun cdv A outer s H E E3 hE hr=>?_)
 . obtain⟨_,_,rfl,_⟩:=h;rfl
 refine⟨_,(zc (s_if (zk (zat hr.units) (zB zL rfl T.n_len zO (za (n3 0) zb)) (n3 1) (nomark _)) (zd (ji hE jh rfl rfl T.m_NoBounds T.e_NoBounds (za s3 zb))) zj)
  (zd (zM Waq rfl (zN (n3 0)) (zW (n:=2) rfl (zy (zi (i:=2) S.nd rfl #[2]) (zy (zi (i:=3) S.nd rfl #[2]) zV))) (zd (zM Waq rfl (zi0 (zF (za (n3 2) (za (n3 3) zb)))) (zi (i:=4) S.nd rfl #[2]) (zd (s_if (pw3 (zax (val3 (df3 hE zlk (hr.mono #[1]) rfl zm (za (n3 4) (za (g3t rfl T.m_LEAST_BOUND) zb)))) (zaK (val3 (df3 hE zlk (hr.mono #[1]) rfl zm (za (g3t rfl T.m_MOST_BOUND) (za (n3 4) zb))))))) (zd (ji hE jh rfl rfl T.m_NoBounds T.e_NoBounds (za s3 zb))) zj))))))),fun ds Q h=>?_⟩
 obtain⟨l,n,rfl,hq,q,hE'⟩:=h
 walk_at "rd"
 rw [YaR]
 by_cases h1:(l.length:Int)=n
 case neg=>rw [if_pos h1];exact hE' fun z=>h1 (by rw [z.1])
 rw [if_neg (fun z=>z h1)]
 refine jG dP l (fun done ρ=>∃ t u v,ρ = [some (.sh false (.list (l.map dP))),#[5,n],t,u,v]/\∀ p∈done,inQ p.1/\inQ p.2) ?_ ?_ ⟨none,none,none,rfl,fun x h=>by cases h⟩
 . rintro done x rest ρ hd ⟨t,u,v,rfl,hall⟩ W hW
   have hx:x∈l:=by rw [hd];simp
   obtain⟨hx1,hx2⟩:=hq x hx
   walk_at "rd"
   refine jG dQ [x.1,x.2] (fun done' ρ=>∃ v,ρ = [some (.sh false (.list (l.map dP))),#[5,n],some (.sh false (dQ x.1)),some (.sh false (dQ x.2)),v]/\∀ r∈done',inQ r) ?_ ?_ ⟨_,rfl,fun x h=>by cases h⟩
   . rintro done' r rest' ρ hd' ⟨v,rfl,hall'⟩ W' hW'
     have hr:okQ r:=by
      have:r∈[x.1,x.2]:=by rw [hd'];simp
      rcases WaB.mp this with z|z
      . rw [z];exact hx1
      . rw [Ya6.mp z];exact hx2
     have hrb:inQ r\/¬okB n l:=by
      by_cases z:inQ r
      . exact .inl z
      . right
        intro y;have:r∈[x.1,x.2]:=by rw [hd'];simp
        rcases WaB.mp this with w|w
        . rw [w] at z;exact z (y.2 x hx).1
        . rw [Ya6.mp w] at z;exact z (y.2 x hx).2
     have o01:okQ (0,1):=⟨#[1],Bits.lit (x:=0) 1200,Bits.lit (x:=1) 1200⟩
     have o10:okQ (10,1):=⟨#[1],Bits.lit (x:=10) 1200,Bits.lit (x:=1) 1200⟩
     walk_at "rd"
     refine⟨r,rfl,rfl,(0,1),rfl,rfl,hr,o01,ite2 (fun h=>hE' (hrb.elim (fun z=>absurd h (by have:=z.1;show ¬r.1*1<0*r.2;omega)) id)) fun h=>⟨(10,1),rfl,rfl,r,rfl,rfl,o10,hr,ite2 (fun h2=>hE' (hrb.elim (fun z=>absurd h2 (by have:=z.2;show ¬10*r.2<r.1*1;omega)) id)) fun h2=>hW' _ ⟨_,rfl,fun y hy=>?_⟩⟩⟩
     rcases Ya3.mp hy with z|z
     . exact hall' y z
     . rw [Ya6.mp z]
       have e1:¬r.1*1<0*r.2:=h;have e2:¬10*r.2<r.1*1:=h2;exact⟨#[0],#[0]⟩
   . rintro ρ ⟨v,rfl,hall'⟩
     exact hW _ ⟨_,_,_,rfl,fun p hp=>by
      rcases Ya3.mp hp with z|z
      . exact hall p z
      . rw [Ya6.mp z];exact⟨hall' _ (by simp),hall' _ (by simp)⟩⟩
 . rintro ρ ⟨t,u,v,rfl,hall⟩
   exact q ⟨#[0],hall⟩
theorem zga(T:Txt c K mg)(zlk:#[8,dd_less]):dd_check_bounds c P w K mg base:=by
 obtain⟨f,fd,F,hm⟩:=T.d_check_bounds;have hb:=F.binds (ps:=["bounds", "clans"]) fun _ _ _ _ _ _ us hl=>by obtain⟨_,_,rfl⟩:=zR hl;rfl
 refine⟨fun ds Q Q' E E' hQ hE h=>?_,⟨f,fd,zfy T zlk F,hb,F.kp,hm⟩⟩
 obtain⟨a,b,e,x,h1,h2⟩:=h;exact⟨a,b,e,x,fun z=>hQ _ _ (h1 z),fun z=>hE _ (h2 z)⟩
theorem zih:FnScope ["bottom", "bound"] ["bottom", "bound"] (ze Js):=⟨rfl,rfl,rfl,#[3],rfl,#[3],#[3]⟩
theorem zhj(T:Txt c K mg){f:Addr}{fd:FuncData}(F:Fun K "room_at_most" "room_at_most" Js f fd):FnOk P w K mg base (CXR P w) 1 f fd ["bottom", "bound"] (spL K Zt):=by
 have S:=zih;refine fn3 F S (fun ds Q E h=>?_) (fun cdv A outer s H E E3 hE hr=>?_)
 . obtain⟨_,_,rfl,_⟩:=h;rfl
 refine⟨_,(zd (zr (op3 zE (op3 z6 (at3 (n3 1) i3 #[4]) (n3 0)) (at3 (n3 1) i3 #[4])))),fun ds Q h=>?_⟩
 obtain⟨b,r,rfl,hb,hr,q⟩:=h
 walk_at "rd atI0 atI1"
 exact⟨hr.2.1.mulOk hb #[1],⟨hr.1,hr.2.2.mono #[1]⟩,q⟩
theorem zf3(T:Txt c K mg) : dd_room_at_most P w K mg base:=by
 obtain⟨f,fd,F,hm⟩:=T.d_room_at_most;have hb:=F.binds (ps:=["bottom", "bound"]) fun _ _ _ _ _ _ us hl=>by obtain⟨_,_,rfl⟩:=zR hl;rfl
 refine⟨fun ds Q Q' E E' hQ hE h=>?_,⟨f,fd,zhj T F,hb,F.kp,hm⟩⟩
 obtain⟨a,b,e,x,y,h⟩:=h;exact⟨a,b,e,x,y,hQ _ _ h⟩
theorem zfE:FnScope ["told", "bounds", "bottom"] ["told", "bounds"] (ze jN):=⟨rfl,rfl,rfl,#[3],rfl,#[3],#[3]⟩
theorem ziu(T:Txt c K mg)(zkW:#[8,dd_check_bounds c])(zlq:#[8,dd_room_at_most]){f:Addr}{fd:FuncData}(F:Fun K "rooms_of" "rooms_of" jN f fd):FnOk P w K mg base (CXR P w) 3 f fd ["told", "bounds"] (spL K (Zv c)):=by
 have S:=zfE;refine fn3 F S (fun ds Q E h=>?_) (fun cdv A outer s H E E3 hE hr=>?_)
 . obtain⟨_,_,_,_,rfl,_⟩:=h;rfl
 refine⟨_,(zc (zf (i:=2) S.nd rfl #[2] (at3 (n3 0) i3 #[4]))
  (zc (zaa (df3 hE zkW (hr.mono #[1]) rfl zm (za (n3 1) (za (zB zL rfl T.n_len zO (za (at3 (at3 (n3 0) i3 #[4]) i3 #[4]) zb)) zb))))
  (zd (zr (new3 (z8 ["below", "above"] ["bottom"] [2] rfl (zU (osc:=ze jN) #[3]) rfl (zN (n3 1)) (fun H0 s H fp cl=>⟨(zW (n:=2) rfl (zy (zi (i:=0) (show((["below", "above"]:List PySem.Str)++(["bottom"]:List PySem.Str)).Nodup by decide) rfl #[2]) (zy (zi (i:=1) (show((["below", "above"]:List PySem.Str)++(["bottom"]:List PySem.Str)).Nodup by decide) rfl #[2]) zV))),zY,(zF (za (df3 (E:=fun _ _ _=>False) (E3:=fun _=>False) (fun _ _ z _=>z) zlq (hr.mono #[1]) rfl zaS (za (n3 2) (za (n3 0) zb))) (za (df3 (E:=fun _ _ _=>False) (E3:=fun _=>False) (fun _ _ z _=>z) zlq (hr.mono #[1]) rfl zaS (za (n3 2) (za (n3 1) zb))) zb)))⟩))))))),fun ds Q h=>?_⟩
 obtain⟨b,qs,l,n,rfl,hb,hq1,hqn,hn8,hl,hq,q,hE'⟩:=h;have hd0:atI (qs.map dI) 0=some (PyData.list (qs[0].map PyData.int)):=zcA (i:=0) #[0]
 have h0n:=hqn qs[0] (Ya4 #[0])
 refine zg fun N hN=>?_
 walk_at "rd atI0"
 refine hN _ ?_
 clear hN N;refine zg fun N hN=>?_
 walk_at "rd atI1 hd0 YaR h0n"
 refine⟨l,rfl,n,rfl,hq,fun hok=>hN _ ?_,hE'⟩
 clear hN N
 walk_at "rd YaR"
 refine⟨sz #[0],?_⟩
 refine zX dP (fun p=>jm (Z8 b p.1,Z8 b p.2)) (fun ρ=>∃ t u,ρ = [t,u,#[5,b]]) l ?_ _ _ _ _ ⟨none,none,rfl⟩ ?_
 . rintro p hp ρ fa acc K ⟨t,u,rfl⟩ kk
   obtain⟨hp1,hp2⟩:=hq p hp
   walk_at "rd"
   exact⟨p.1,rfl,rfl,hb,hp1,p.2,rfl,rfl,hb,hp2,kk _ ⟨_,_,rfl⟩⟩
 . have:=q hok
   unfold J0 at this;rw [YaD] at this;exact this
theorem zjR(T:Txt c K mg)(zkW:#[8,dd_check_bounds c])(zlq:#[8,dd_room_at_most]):dd_rooms_of c P w K mg base:=by
 obtain⟨f,fd,F,hm⟩:=T.d_rooms_of;have hb:=F.binds (ps:=["told", "bounds"]) fun _ _ _ _ _ _ us hl=>by obtain⟨_,_,rfl⟩:=zR hl;rfl
 refine⟨fun ds Q Q' E E' hQ hE h=>?_,⟨f,fd,ziu T zkW zlq F,hb,F.kp,hm⟩⟩
 obtain⟨a,b,d,n,e,x1,x2,x3,x4,x5,x6,h1,h2⟩:=h;exact⟨a,b,d,n,e,x1,x2,x3,x4,x5,x6,fun z=>hQ _ _ (h1 z),fun z=>hE _ (h2 z)⟩
theorem zjg:FnScope ["turn", "turns"] ["turn", "turns"] (ze Jf):=⟨rfl,rfl,rfl,#[3],rfl,#[3],#[3]⟩
theorem zd1(T:Txt c K mg){f:Addr}{fd:FuncData}(F:Fun K "check_turn" "check_turn" Jf f fd):FnOk P w K mg base (CXR P w) 1 f fd ["turn", "turns"] (spL K (Zr c)):=by
 have S:=zjg;refine fn3 F S (fun ds Q E h=>?_) (fun cdv A outer s H E E3 hE hr=>?_)
 . obtain⟨_,_,rfl,_⟩:=h;rfl
 refine⟨_,(zd (s_if (zaY (zaG JD JD i3 (n3 0) (n3 1))) (zd (ji hE jh rfl rfl T.m_NoRule T.e_NoRule (za s3 zb))) zj)),fun ds Q h=>?_⟩
 obtain⟨t,T',rfl,q,hE'⟩:=h
 walk_at "rd"
 by_cases h1:1<=t
 . rw [if_pos h1]
   exact ite2 (fun z=>hE' fun y=>z y.2) fun z=>q ⟨h1,Decidable.not_not.mp z⟩
 . rw [if_neg h1]
   exact hE' fun y=>h1 y.1
theorem zdX(T:Txt c K mg) : dd_check_turn c P w K mg base:=by
 obtain⟨f,fd,F,hm⟩:=T.d_check_turn;have hb:=F.binds (ps:=["turn", "turns"]) fun _ _ _ _ _ _ us hl=>by obtain⟨_,_,rfl⟩:=zR hl;rfl
 refine⟨fun ds Q Q' E E' hQ hE h=>?_,⟨f,fd,zd1 T F,hb,F.kp,hm⟩⟩
 obtain⟨a,b,e,h1,h2⟩:=h;exact⟨a,b,e,fun z=>hQ _ _ (h1 z),fun z=>hE _ (h2 z)⟩
theorem zhK:FnScope ["rules", "turns", "clans", "word", "turn", "clan"] ["rules", "turns", "clans"] (ze JA):=⟨rfl,rfl,rfl,#[3],rfl,#[3],#[3]⟩
theorem zjA(T:Txt c K mg)(zkZ:#[8,dd_check_turn c]){f:Addr}{fd:FuncData}(F:Fun K "check_rules" "check_rules" JA f fd):FnOk P w K mg base (CXR P w) 2 f fd ["rules", "turns", "clans"] (spL K (JQ c)):=by
 have S:=zhK;refine fn3 F S (fun ds Q E h=>?_) (fun cdv A outer s H E E3 hE hr=>?_)
 . obtain⟨_,_,_,rfl,_⟩:=h;rfl
 refine⟨_,(zd (zM Waq rfl (zN (n3 0)) (zW (n:=3) rfl (zy (zi (i:=3) S.nd rfl #[2]) (zy (zi (i:=4) S.nd rfl #[2]) (zy (zi (i:=5) S.nd rfl #[2]) zV)))) (zc (s_if (zk (zj9 (hu65 hr)) (n3 3) (zF (za (g3s rfl T.m_FIXED) (za (g3s rfl T.m_BARRED) zb))) (by with_unfolding_all rfl)) (zd (ji hE jh rfl rfl T.m_NoRule T.e_NoRule (za s3 zb))) zj)
  (zc (zaa (df3 hE zkZ (hr.mono #[1]) rfl zm (za (n3 4) (za (n3 1) zb))))
  (zd (s_if (zaY (zaG JD jC i3 (n3 5) (n3 2))) (zd (ji hE jh rfl rfl T.m_NoRule T.e_NoRule (za s3 zb))) zj)))))),fun ds Q h=>?_⟩
 obtain⟨rs,T',n,rfl,htx,q,hE'⟩:=h
 walk_at "rd"
 refine jG dRl rs (fun done ρ=>∃ t3 t4 t5:Option L3.Cl,ρ = [some (.sh false (.list (rs.map dRl))),#[5,T'],#[5,n],t3,t4,t5]/\okRs T' n done) ?_ ?_ ⟨none,none,none,rfl,fun r h=>by cases h⟩
 . rintro done r rest ρ hd ⟨t3,t4,t5,rfl,hok⟩ W hW
   have hr:r∈rs:=by rw [hd];simp
   walk_at "rd"
   refine⟨htx r hr,zi4,ite2 (fun z=>hE' fun y=>(zb5 _).mp z (y r hr).1) fun z=>⟨fun h1=>?_,fun h1=>hE' fun y=>h1 (y r hr).2.1⟩⟩
   by_cases h2:0<=r.2.2
   . rw [if_pos h2]
     refine ite2 (fun h3=>hE' fun y=>h3 (y r hr).2.2.2) fun h3=>hW _ ⟨_,_,_,rfl,fun x hx=>?_⟩
     rcases Ya3.mp hx with y|y
     . exact hok x y
     . rw [Ya6.mp y]
       exact⟨Decidable.not_not.mp fun y=>z ((zb5 _).mpr y),h1,h2,Decidable.not_not.mp h3⟩
   . rw [if_neg h2]
     exact hE' fun y=>h2 (y r hr).2.2.1
 . rintro ρ ⟨t3,t4,t5,rfl,hok⟩
   exact q hok
theorem ziK(T:Txt c K mg)(zkZ:#[8,dd_check_turn c]):dd_check_rules c P w K mg base:=by
 obtain⟨f,fd,F,hm⟩:=T.d_check_rules;have hb:=F.binds (ps:=["rules", "turns", "clans"]) fun _ _ _ _ _ _ us hl=>by obtain⟨_,_,_,rfl⟩:=jY hl;rfl
 refine⟨fun ds Q Q' E E' hQ hE h=>?_,⟨f,fd,zjA T zkZ F,hb,F.kp,hm⟩⟩
 obtain⟨a,b,d,e,x,h1,h2⟩:=h;exact⟨a,b,d,e,x,fun z=>hQ _ _ (h1 z),fun z=>hE _ (h2 z)⟩
theorem zjr:FnScope ["rules", "clans", "found", "word", "turn", "clan", "other"] ["rules", "clans"] (ze JM):=⟨rfl,rfl,rfl,#[3],rfl,#[3],#[3]⟩
theorem zg0(T:Txt c K mg){f:Addr}{fd:FuncData}(F:Fun K "forbidden" "forbidden" JM f fd):FnOk P w K mg base (CXR P w) 1 f fd ["rules", "clans"] (spC K JW):=by
 have S:=zjr;refine fnC [] F S (fun ds Q h=>?_) (fun cdv A outer s H H0 E E3 hE hr=>?_)
 . obtain⟨_,_,rfl,_⟩:=h;exact⟨rfl,by simp [z7]⟩
 refine⟨_,(zc (zfj (i:=2) S.nd rfl #[2])
  (zc (zM Waq rfl (zN (n3 0)) (zW (n:=3) rfl (zy (zi (i:=3) S.nd rfl #[2]) (zy (zi (i:=4) S.nd rfl #[2]) (zy (zi (i:=5) S.nd rfl #[2]) zV)))) (zd (zM Waq rfl (jH rfl T.n_range (za (n3 1) zb)) (zi (i:=6) S.nd rfl #[2]) (zd (s_if (zk (zw hr.units) (cmp3 (zw hr.units) (n3 6) (n3 5) (nomark _)) (cmp3 (zw hr.units) (n3 3) (g3s rfl T.m_BARRED) (nomark _)) (nomark _)) (zd (zjw (i:=2) (jj hr) rfl #[2] (n3 4) (n3 6) b3)) zj)))))
  (zd (zen (i:=2) rfl #[2])))),fun ds Q h=>?_⟩
 obtain⟨rs,n,rfl,h8,hl,q⟩:=h;refine zg fun N hN=>?_
 walk_at "rd"
 refine hN _ ?_
 clear hN N;refine zH (fun ρ=>∃ (ds:List (List Key×D)) (t3 t4 t5 t6:Option L3.Cl),ρ = [some (.sh false (.list (rs.map dRl))),#[5,n],some (.dt ds),t3,t4,t5,t6]/\(ds.all fun p=>zo p.2)=true) (fun N hN=>?_) ?_
 . walk_at "rd"
   refine jG dRl rs (fun done ρ=>∃ (ds:List (List Key×D)) (t3 t4 t5 t6:Option L3.Cl),ρ = [some (.sh false (.list (rs.map dRl))),#[5,n],some (.dt ds),t3,t4,t5,t6]/\(ds.all fun p=>zo p.2)=true/\ds.length<=8*done.length) ?_ (fun ρ ⟨ds,t3,t4,t5,t6,e,h1,_⟩=>hN _ ⟨ds,t3,t4,t5,t6,e,h1⟩) ⟨[],none,none,none,none,rfl,rfl,WaK _⟩
   rintro done r rest ρ hd ⟨ds,t3,t4,t5,t6,rfl,hs,hdl⟩ W hW
   have hdn:done.length<rs.length:=by rw [hd,YaS,List.length_cons];omega
   walk_at "rd"
   refine⟨#[0],#[0],?_⟩
   rw [Int.toNat_natCast];refine jE (fun j ρ=>∃ (ds:List (List Key×D)) (t6:Option L3.Cl),ρ = [some (.sh false (.list (rs.map dRl))),#[5,n],some (.dt ds),some (.sh true (.str r.1)),#[5,r.2.1],#[5,r.2.2],t6]/\(ds.all fun p=>zo p.2)=true/\ds.length<=8*done.length+j) ?_ ?_ ⟨ds,_,rfl,hs,hdl⟩
   . rintro j ρ hj ⟨ds,t6,rfl,hs,hdl⟩ V hV
     walk_at "rd"
     refine⟨by rfl,by rfl,ite2 (fun _=>⟨YaU (show _<1000000 by omega) #[1],hV _ ⟨_,_,rfl,zfg hs rfl,?_⟩⟩) fun _=>hV _ ⟨_,_,rfl,hs,#[0]⟩⟩
     have:=zhT ds (kk r.2.1 (0+(j:Int))) (.bool true)
     omega
   . rintro ρ ⟨ds,t6,rfl,hs,hdl⟩
     refine hW _ ⟨ds,_,_,_,_,rfl,hs,?_⟩
     rw [YaS,List.length_singleton]
     omega
 rintro ρ ⟨ds,t3,t4,t5,t6,rfl,hs⟩
 walk_at "rd"
 exact q ds hs
theorem zfV(T:Txt c K mg) : dd_forbidden P w K mg base:=by
 obtain⟨f,fd,F,hm⟩:=T.d_forbidden;have hb:=F.binds (ps:=["rules", "clans"]) fun _ _ _ _ _ _ us hl=>by obtain⟨_,_,rfl⟩:=zR hl;rfl
 refine⟨fun ds Q Q' hQ h=>?_,⟨f,fd,zg0 T F,hb,F.kp,hm⟩⟩
 obtain⟨a,b,e,x,y,h1⟩:=h;exact⟨a,b,e,x,y,fun z w=>hQ _ _ (h1 z w)⟩
theorem zgj:FnScope ["visit", "turn", "barred"] ["visit", "turn", "barred"] (ze Jj):=⟨rfl,rfl,rfl,#[3],rfl,#[3],#[3]⟩
theorem zeK(T:Txt c K mg){f:Addr}{fd:FuncData}(F:Fun K "may_come" "may_come" Jj f fd):FnOk P w K mg base (CXR P w) 1 f fd ["visit", "turn", "barred"] (spC K Zm):=by
 have S:=zgj;refine fnC [] F S (fun ds Q h=>?_) (fun cdv A outer s H H0 E E3 hE hr=>?_)
 . obtain⟨_,_,_,rfl,hs,_⟩:=h;exact⟨rfl,by simpa [z7] using hs⟩
 refine⟨_,(zc (s_if (pw3 (zax (zk jC (n3 1) (at3 (n3 0) i3 #[4]) (nomark _)) (zaK (pw3 (zbe (zk zau (at3 (n3 0) i3 #[4]) non3 (nomark _)) (zbA (zk jR (n3 1) (at3 (n3 0) i3 #[4]) (nomark _)))))))) (zd (za0 b3)) zj)
  (zd (za0 (zjC (i:=2) (jj hr) rfl #[2] (n3 1) (at3 (n3 0) i3 #[4]))))),fun ds Q h=>?_⟩
 obtain⟨⟨vc,vj,vo,vl⟩,t,ds,rfl,hs,q⟩:=h;cases vl with
 | none=>
  walk_at "rd dO"
  exact ite2 (fun _=>q _) fun _=>q _
 | some e=>
  walk_at "rd dO"
  exact ite2 (fun _=>q _) fun _=>ite2 (fun _=>q _) fun _=>q _
theorem zkJ(T:Txt c K mg) : dd_may_come P w K mg base:=by
 obtain⟨f,fd,F,hm⟩:=T.d_may_come;have hb:=F.binds (ps:=["visit", "turn", "barred"]) fun _ _ _ _ _ _ us hl=>by obtain⟨_,_,_,rfl⟩:=jY hl;rfl
 refine⟨fun ds Q Q' hQ h=>?_,⟨f,fd,zeK T F,hb,F.kp,hm⟩⟩
 obtain⟨a,b,d,e,x,h1⟩:=h;exact⟨a,b,d,e,x,fun z=>hQ _ _ (h1 z)⟩
theorem zi7:FnScope ["told", "visits", "rules", "turns", "clans", "barred", "found", "turn"] ["told", "visits", "rules"] (ze jS):=⟨rfl,rfl,rfl,#[3],rfl,#[3],#[3]⟩
theorem zkT(T:Txt c K mg)(zkX:#[8,dd_check_rules c])(zk6:#[8,dd_forbidden])(zll:#[8,dd_may_come]){f:Addr}{fd:FuncData}(F:Fun K "choices_of_turns" "choices_of_turns" jS f fd):FnOk P w K mg base (CXR P w) 3 f fd ["told", "visits", "rules"] (spL K (JS c)):=by
 have S:=zi7;refine fn3 F S (fun ds Q E h=>?_) (fun cdv A outer s H E E3 hE hr=>?_)
 . obtain⟨_,_,_,_,_,_,rfl,_⟩:=h;rfl
 refine⟨_,(zc (zf (i:=3) S.nd rfl #[2] (op3 je (zB zL rfl T.n_len zO (za (at3 (n3 0) i3 #[4]) zb)) i3))
  (zc (zf (i:=4) S.nd rfl #[2] (zB zL rfl T.n_len zO (za (at3 (at3 (n3 0) i3 #[4]) i3 #[4]) zb)))
  (zc (zaa (df3 hE zkX (hr.mono #[1]) rfl zm (za (n3 2) (za (n3 3) (za (n3 4) zb)))))
  (zc (za4 (i:=5) [] #[1] S.nd rfl #[2] zk6 (hr.mono #[1]) rfl zm (za (n3 2) (za (n3 4) zb)))
  (zc (jk (i:=6) S.nd rfl #[2] (zA zb))
  (zc (zhw 5 (zM Waq rfl (za5 rfl T.n_range (za i3 (za (op3 zz (n3 3) i3) zb))) (zi (i:=7) S.nd rfl #[2]) (zd (jK (i:=6) rfl #[2] (new3 (z8 ["place", "visit"] ["turn", "barred"] [7,5] rfl (zU (osc:=ze jS) #[3]) rfl (zaL rfl T.n_enumerate (za (n3 1) zb)) (fun H0 s H fp cl=>⟨(zW (n:=2) rfl (zy (zi (i:=0) (show((["place", "visit"]:List PySem.Str)++(["turn", "barred"]:List PySem.Str)).Nodup by decide) rfl #[2]) (zy (zi (i:=1) (show((["place", "visit"]:List PySem.Str)++(["turn", "barred"]:List PySem.Str)).Nodup by decide) rfl #[2]) zV))),(zho (val3 (dfX (E:=fun _ _ _=>False) zll (hr.mono #[1]) rfl zaS (za (n3 1) (za (n3 2) (za (n3 3) zb)))))),(n3 0)⟩)))))))
  (zd (jv [6] (zr (n3 6)))))))))),fun ds Q h=>?_⟩
 obtain⟨b,qs,V,rs,n,T',rfl,hq,hT,hn,h8,hV,hrl,htx,q,hE'⟩:=h;have hd0:atI (qs.map dI) 0=some (PyData.list ((qs[0]'(by omega)).map PyData.int)):=zcA (i:=0) #[0]
 have h0n:(qs[0]'(by omega)).length=n:=hn _ (Ya4 _)
 have et:((qs.length:Int) - 1)=(T':Int):=#[0]
 refine zg fun N hN=>?_
 walk_at "rd YaR et"
 refine hN _ ?_
 clear hN N;refine zg fun N hN=>?_
 walk_at "rd hd0 YaR h0n"
 refine hN _ ?_
 clear hN N;refine zg fun N hN=>?_
 walk_at "rd"
 refine⟨rs,rfl,htx,fun hok=>hN _ ?_,hE'⟩
 clear hN N;refine zg fun N hN=>?_
 walk_at "rd"
 refine⟨rs,rfl,n,rfl,h8,hrl,fun ds hds=>hN _ ?_⟩
 clear hN N;refine zg fun N hN=>?_
 walk_at "rd"
 refine hN _ ?_
 clear hN N;refine zH (fun ρ=>∃ (ch:List (List Int)) (t7:Option L3.Cl), ρ = [some (.sh false (.tuple [.int b,.list (qs.map dI)])),some (.sh false (.list (V.map dW))),some (.sh false (.list (rs.map dRl))),#[5,T'],#[5,n],some (.fd ds),some (.ow true (ch.map dI)),t7]/\ch.length=T'/\∀ row∈ch,row.length<=2000/\∀ x∈row,InR x V.length) (fun N hN=>?_) ?_
 . walk_at "rd"
   refine⟨#[1],#[1],#[0],#[0],?_⟩
   rw [show((T':Int)+1 - 1).toNat=T' by omega]
   refine jE (fun k ρ=>∃ (ch:List (List Int)) (t7:Option L3.Cl), ρ = [some (.sh false (.tuple [.int b,.list (qs.map dI)])),some (.sh false (.list (V.map dW))),some (.sh false (.list (rs.map dRl))),#[5,T'],#[5,n],some (.fd ds),some (.ow true (ch.map dI)),t7]/\ch.length=k/\∀ row∈ch,row.length<=2000/\∀ x∈row,InR x V.length) ?_ (fun ρ h=>hN ρ h) ⟨[],_,rfl,rfl,fun row h=>by cases h⟩
   rintro k ρ hk ⟨ch,t7,rfl,hcl,hrow⟩ W hW
   walk_at "rd"
   rw [zdz];refine⟨sz (by rw [YaR,YaG];omega),?_⟩
   refine zbi (fun i:Nat=>PyData.tuple [PyData.int (i:Nat),dW (V.getD i (0,0,0,none))]) (fun i:Nat=>PyData.int (i:Nat)) (fun ρ=>∃ t0 t1,ρ = [t0,t1,#[5,(1+(k:Int))],some (.fd ds)]) (List.range V.length) ?_ _ _ _ _ ⟨none,none,rfl⟩ fun ys hys=>?_
   . rintro i hi ρ fa acc K ⟨t0,t1,rfl⟩ k1 k2
     walk_at "rd"
     exact⟨hds,_,rfl,rfl,rfl,rfl,hds,fun b=>ite2 (fun _=>k1 _ ⟨_,_,rfl⟩) fun _=>k2 _ ⟨_,_,rfl⟩⟩
   . have hm:ys.map (fun i:Nat=>PyData.int (i:Nat))=(ys.map fun i:Nat=>(i:Int)).map PyData.int:=by rw [YaD];rfl
     have hyl:=hys.length_le;rw [YaG] at hyl;rw [List.nil_append,hm];refine⟨YaU (show _<1000 by rw [YaR];omega) #[1],hW _ ⟨ch++[ys.map fun i:Nat=>(i:Int)],_,by rw [Ya2];rfl,by simp [hcl],fun row hr=>?_⟩⟩
     rcases Ya3.mp hr with z|z
     . exact hrow row z
     . rw [Ya6.mp z]
       refine⟨by rw [YaR];omega,fun x hx=>?_⟩
       obtain⟨i,hi,rfl⟩:=Ya7.mp hx;have:=Yba.mp (hys.subset hi);exact⟨#[0],#[0]⟩
 rintro ρ ⟨ch,t7,rfl,hcl,hrow⟩
 walk_at "rd"
 exact q hok ch hcl hrow
theorem zkp(T:Txt c K mg)(zkX:#[8,dd_check_rules c])(zk6:#[8,dd_forbidden])(zll:#[8,dd_may_come]):dd_choices_of_turns c P w K mg base:=by
 obtain⟨f,fd,F,hm⟩:=T.d_choices_of_turns;have hb:=F.binds (ps:=["told", "visits", "rules"]) fun _ _ _ _ _ _ us hl=>by obtain⟨_,_,_,rfl⟩:=jY hl;rfl
 refine⟨fun ds Q Q' E E' hQ hE h=>?_,⟨f,fd,zkT T zkX zk6 zll F,hb,F.kp,hm⟩⟩
 obtain⟨a,b,d,f,g,i,e,x1,x2,x3,x4,x5,x6,x7,h1,h2⟩:=h;exact⟨a,b,d,f,g,i,e,x1,x2,x3,x4,x5,x6,x7,fun z u v w=>hQ _ _ (h1 z u v w),fun z=>hE _ (h2 z)⟩
theorem zgo:FnScope ["spells", "bounds", "rules", "told", "visits"] ["spells", "bounds", "rules"] (ze j5):=⟨rfl,rfl,rfl,#[3],rfl,#[3],#[3]⟩
theorem zkE(T:Txt c K mg)(zlp:#[8,dd_quotas c])(zlw:#[8,dd_windows_within])(zln:#[8,dd_place_visits])(zlr:#[8,dd_rooms_of c])(zk1:#[8,dd_choices_of_turns c]){f:Addr}{fd:FuncData}(F:Fun K "placed" "placed" j5 f fd):FnOk P w K mg base (CXR P w) 5 f fd ["spells", "bounds", "rules"] (spL K (J7 c)):=by
 have S:=zgo;refine fn3 F S (fun ds Q E h=>?_) (fun cdv A outer s H E E3 hE hr=>?_)
 . obtain⟨_,_,_,rfl,_⟩:=h;rfl
 refine⟨_,(zc (zf (i:=3) S.nd rfl #[2] (df3 hE zlp (hr.mono #[1]) rfl zm (za (n3 0) zb)))
  (zc (zf (i:=4) S.nd rfl #[2] (df3 hE zlw (hr.mono #[1]) rfl zm (za (n3 3) (za (df3 hE zlr (hr.mono #[1]) rfl zm (za (n3 3) (za (n3 1) zb))) zb))))
  (zd (zr (df3 hE zln (hr.mono #[1]) rfl zm (za (n3 4) (za (df3 hE zk1 (hr.mono #[1]) rfl zm (za (n3 3) (za (n3 4) (za (n3 2) zb)))) zb))))))),fun ds Q h=>?_⟩
 obtain⟨l,bs,rs,rfl,hbl,ho,hrl,htx,q,hE1,hE2,hE3⟩:=h;refine zg fun N hN=>?_
 walk_at "rd"
 refine⟨l,rfl,fun hok=>hN _ ?_,hE1⟩
 clear hN N;have hm:=zck hok;have hbp:=zeI hok;have hql:=zet hok;have htn:=zaO fun s hs=>(hok.2.1 s hs).1
 have h60:=hok.2.2;have hqr:∀ r∈quo l,r.length=many l:=fun r hr=>zeT hok (b:=bot l) hr
 have hb2:Bits 2000 (bot l):=(zcx hok).mono #[1]
 refine zg fun N hN=>?_
 walk_at "rd"
 refine⟨quo l,rfl,bs,rfl,hb2,#[0],many l,hqr,hm.2,#[0],ho,fun hB=>?_,fun z=>hE2 hok z⟩
 have hrl':(J0 (bot l) bs).length=many l:=by unfold J0;rw [YaR];exact hB.1
 refine⟨quo l,rfl,J0 (bot l) bs,rfl,hbp,hb2,#[0],#[0],#[0],fun r hr=>by rw [hrl'];exact hqr r hr,fun r hr x hx=>?_,fun p hp=>?_,fun W w1 w2 w3=>hN _ ?_⟩
 . have h1:=zib hok hbp r hr x hx
   have h2:tot l*bot l<=60*bot l:=Ybe h60 #[0]
   omega
 . unfold J0 at hp
   obtain⟨z,hz,rfl⟩:=Ya7.mp hp;obtain⟨z1,z2⟩:=hB.2 z hz;obtain⟨y1,y2⟩:=ho z hz;refine⟨Int.ediv_nonneg (YaK z1.1 #[0]) (by have:=y1.1;omega),Int.ediv_nonneg (YaK z2.1 #[0]) (by have:=y2.1;omega),?_⟩
   refine Int.ediv_le_of_le_mul y2.1 ?_
   have h1:z.2.1*bot l<=10*z.2.2*bot l:=Ybe z2.2 #[0]
   have h2:0<=z.2.2*bot l:=YaK (by have:=y2.1;omega) #[0]
   have e1:10*z.2.2*bot l=10*(z.2.2*bot l):=Int.mul_assoc _ _ _;have e2:20*bot l*z.2.2=20*(z.2.2*bot l):=by rw [Int.mul_assoc,Int.mul_comm (bot l)]
   omega
 clear hN N w1 w2;have eT:(((tot l).toNat:Nat):Int)=tot l:=#[0]
 walk_at "rd"
 refine⟨quo l,rfl,W.flatten,rfl,rs,rfl,many l,(tot l).toNat,#[0],#[0],hqr,hm.2,w3,hrl,htx,fun hR ch hc1 hc2=>⟨W.flatten,rfl,ch,rfl,w3,#[0],hc2,q hok hB (by rw [<-eT];exact hR)⟩,fun hR=>hE3 hok hB fun z=>hR (by rw [eT];exact z)⟩
theorem zjl(T:Txt c K mg)(zlp:#[8,dd_quotas c])(zlw:#[8,dd_windows_within])(zln:#[8,dd_place_visits])(zlr:#[8,dd_rooms_of c])(zk1:#[8,dd_choices_of_turns c]):dd_placed c P w K mg base:=by
 obtain⟨f,fd,F,hm⟩:=T.d_placed;have hb:=F.binds (ps:=["spells", "bounds", "rules"]) fun _ _ _ _ _ _ us hl=>by obtain⟨_,_,_,rfl⟩:=jY hl;rfl
 refine⟨fun ds Q Q' E E' hQ hE h=>?_,⟨f,fd,zkE T zlp zlw zln zlr zk1 F,hb,F.kp,hm⟩⟩
 obtain⟨a,b,d,e,x1,x2,x3,x4,h1,h2,h3,h4⟩:=h;exact⟨a,b,d,e,x1,x2,x3,x4,fun u v w z=>hQ _ _ (h1 u v w z),fun u=>hE _ (h2 u),fun u v=>hE _ (h3 u v),fun u v w=>hE _ (h4 u v w)⟩
theorem zeh:FnScope ["_law_spells_here", "_law_bounds_here", "_law_rules_here", "_law_handed", "_law_kinds_here", "e", "_law_others"] ["_law_spells_here", "_law_bounds_here", "_law_rules_here"] (ze jV):=⟨rfl,rfl,rfl,#[3],rfl,#[3],#[3]⟩
theorem ziT(T:Txt c K mg)(zlo:#[8,dd_placed c]){f:Addr}{fd:FuncData}(F:Fun K "_law_kinds" "_law_kinds" jV f fd):FnOk P w K mg base (CXR P w) 6 f fd ["_law_spells_here", "_law_bounds_here", "_law_rules_here"] (spL K ZG):=by
 have S:=zeh;refine fn3 F S (fun ds Q E h=>?_) (fun cdv A outer s H E E3 hE hr=>?_)
 . obtain⟨_,_,_,rfl,_⟩:=h;rfl
 refine⟨_,(zc (zf (i:=3) S.nd rfl #[2] (new3 (zA (za (new3 (z8 ["_law_turns", "_law_weights_here"] [] [] rfl (zU (osc:=ze jV) #[3]) rfl (zN (n3 0)) (fun H0 s H fp cl=>⟨(zW (n:=2) rfl (zy (zi (i:=0) (show((["_law_turns", "_law_weights_here"]:List PySem.Str)++([]:List PySem.Str)).Nodup by decide) rfl #[2]) (zy (zi (i:=1) (show((["_law_turns", "_law_weights_here"]:List PySem.Str)++([]:List PySem.Str)).Nodup by decide) rfl #[2]) zV))),zY,(zF (za (n3 0) (za (new3 (Jq rfl T.n_list JG (za (n3 1) zb))) zb)))⟩))) (za (new3 (Jq rfl T.n_list JG (za (n3 1) zb))) (za (new3 (Jq rfl T.n_list JG (za (n3 2) zb))) zb))))))
  (zc (jk (i:=4) S.nd rfl #[2] (zA zb))
  (zc (zgc (i:=5) rfl rfl S.nd rfl rfl rfl T.m_ClanError (zfw zlo (hr.mono #[1]) rfl (za (at3 (n3 3) i3 #[4]) (za (at3 (n3 3) i3 #[4]) (za (at3 (n3 3) i3 #[4]) zb)))) (fun ea=>by exact(zc (jk (i:=4) S.nd rfl #[2] (zA (za (zbP (K':=K) rfl rfl T.n_isinstance rfl rfl T.m_NoSpell (n3 5)) (za (zbP (K':=K) rfl rfl T.n_isinstance rfl rfl T.m_NoBounds (n3 5)) (za (zbP (K':=K) rfl rfl T.n_isinstance rfl rfl T.m_NoRule (n3 5)) (za (zeP (K':=K) rfl rfl T.n_isinstance rfl rfl T.n_ValueError zeq (n3 5)) zb))))))
   (zc (zf (i:=6) S.nd rfl #[2] (zdO (K':=K) rfl rfl T.n_isinstance rfl (jq rfl T.m_Known (jq rfl T.m_NoClan (jq rfl T.m_NoDistance (jq rfl T.m_NoLine (jq rfl T.m_NoName (jq rfl T.m_NoNumber (jq rfl T.m_NoRatio zcj))))))) (sz (by simp)) (n3 5)))
   (zd (jK (i:=4) rfl #[2] (zev (n3 6) (one3 (zdO (K':=K) rfl rfl T.n_isinstance rfl (jq rfl T.m_NoRow (jq rfl T.m_NoText (jq rfl T.m_TooLong (jq rfl T.m_TooMany zcj)))) (sz (by simp)) (n3 5))))))))))
  (zc (s_if (zk (zat hr.units) (n3 3) (new3 (zA (za (n3 0) (za (n3 1) (za (n3 2) zb))))) (nomark _)) (zd (zr non3)) zj)
  (zd (jv [4] (zr (n3 4)))))))),fun ds Q h=>?_⟩
 obtain⟨l,bs,rs,rfl,hll,hbl,ho,hrl,htx,q1,q2,q3,q4⟩:=h;refine zg fun N hN=>?_
 walk_at "rd"
 refine⟨sz (by rw [YaR];omega),?_⟩
 refine zX dS dS (fun ρ=>∃ t u,ρ = [t,u]) l ?_ _ _ _ _ ⟨none,none,rfl⟩ ?_
 . rintro s hs ρ fa acc K ⟨t,u,rfl⟩ kk
   walk_at "rd"
   exact kk _ ⟨_,_,rfl⟩
 refine hN _ ?_
 clear hN N;rw [List.nil_append];have hph:Plain 4 (.list [.list (l.map dS),.list (bs.map dP),.list (rs.map dRl)]):=Plain.list fun d hd=>by
  rcases WaB.mp hd with rfl|hd
  . exact ze8 l
  . rcases WaB.mp hd with rfl|hd
    . exact zkL bs
    . rw [Ya6.mp hd];exact ziy htx
 have hev:PyData.eqv (.list [.list (l.map dS),.list (bs.map dP),.list (rs.map dRl)]) (.list [.list (l.map dS),.list (bs.map dP),.list (rs.map dRl)])=true:=zdf hph.1;have hsh:SeqAt.shaped (.list [.list (l.map dS),.list (bs.map dP),.list (rs.map dRl)])=true:=hph.shaped #[1]
 refine zg fun N hN=>?_
 walk_at "rd"
 refine hN _ ?_
 clear hN N;have fin:∀ (ks:List Bool) (f6:Option L3.Cl),Q true (.list (ks.map PyData.bool))->seq3 (ifS3 (tt3 (o3 ne3 (v3 3) (nw3 (lst3 (j0 (v3 0) (j0 (v3 1) (j0 (v3 2) nil3))))))) (ret3 (k3 PyData.none)) next3) (frzS [4] (ret3 (v3 4))) { nx:=fun x=>Q true PyData.none,rt:=Q } [some (.sh false (.list (l.map dS))),some (.sh false (.list (bs.map dP))),some (.sh false (.list (rs.map dRl))),some (.sh ((List.map dP bs).all zo&&(List.map dRl rs).all zo) (.list [.list (l.map dS),.list (bs.map dP),.list (rs.map dRl)])),some (.ow true (ks.map PyData.bool)),none,f6]:=fun ks f6 h=>by
  walk_at "rd hev hsh"
  exact h
 refine zg fun N hN=>?_
 refine zg3 fun E' hE'=>?_
 have hand:∀ (C:Addr) (a b d:Bool),XAttr K C/\PySem.W.exmOne K (.ref C) (.ref c.ClanError)=some true/\PySem.W.kitAny K (.ref C) ([c.Known,c.NoClan,c.NoDistance,c.NoLine,c.NoName,c.NoNumber,c.NoRatio].map Value.ref)=some false/\PySem.W.kitAny K (.ref C) ([c.NoRow,c.NoText,c.TooLong,c.TooMany].map Value.ref)=some false/\PySem.W.kitOne K (.ref C) (.ref c.NoSpell)=some a/\PySem.W.kitOne K (.ref C) (.ref c.NoBounds)=some b/\PySem.W.kitOne K (.ref C) (.ref c.NoRule)=some d/\PySem.W.kitOne K (.ref C) (.type "ValueError")=some true->Q true (.list [.bool a,.bool b,.bool d,.bool true,.bool false])->E' C:=fun C a b d ⟨x,hx,o7,o5,i1,i2,i3,v⟩ qt=>hE' C ⟨hx,by
  walk_at "rd"
  refine⟨x,_,i1,x,_,i2,x,_,i3,x,_,v,x,_,o7,?_⟩
  rw [if_neg #[1]]
  refine⟨x,_,o5,#[1],hN _ (fin [a,b,d,true,false] _ qt)⟩⟩
 walk_at "rd"
 exact⟨l,rfl,bs,rfl,rs,rfl,hbl,ho,hrl,htx,fun h1 h2 h3 _=>hN _ (fin [] _ (q1 h1 h2 h3)),fun h1=>hand _ _ _ _ T.k_NoSpell (q2 h1),fun h1 h2=>hand _ _ _ _ T.k_NoBounds (q3 h1 h2),fun h1 h2 h3=>hand _ _ _ _ T.k_NoRule (q4 h1 h2 h3)⟩
theorem zg1(T:Txt c K mg)(zlo:#[8,dd_placed c]):dd_law_kinds P w K mg base:=by
 obtain⟨f,fd,F,hm⟩:=T.d_law_kinds;have hb:=F.binds (ps:=["_law_spells_here", "_law_bounds_here", "_law_rules_here"]) fun _ _ _ _ _ _ us hl=>by obtain⟨_,_,_,rfl⟩:=jY hl;rfl
 refine⟨fun ds Q Q' E E' hQ hE h=>?_,⟨f,fd,ziT T zlo F,hb,F.kp,hm⟩⟩
 obtain⟨a,b,d,e,x1,x2,x3,x4,x5,h1,h2,h3,h4⟩:=h;exact⟨a,b,d,e,x1,x2,x3,x4,x5,fun u v w=>hQ _ _ (h1 u v w),fun u=>hQ _ _ (h2 u),fun u v=>hQ _ _ (h3 u v),fun u v w=>hQ _ _ (h4 u v w)⟩
theorem zi3:FnScope ["_law_script", "_law_clans", "_law_spells_here", "_law_turns", "_law_bounds_here", "_law_rules_here", "_law_cell", "_law_wrongs", "_law_odd", "_law_due", "_law_k"] ["_law_script"] (ze jJ):=⟨rfl,rfl,rfl,#[3],rfl,#[3],#[3]⟩
theorem zjH(T:Txt c K mg)(zlh:#[8,dd_law_spells])(zla:#[8,dd_law_bounds])(zlg:#[8,dd_law_rules])(zld:#[8,dd_law_drawn_at])(zlc:#[8,dd_law_cells])(zk9:#[8,dd_law_bad_spells])(zk7:#[8,dd_law_bad_bounds])(zk8:#[8,dd_law_bad_rule])(zlb:#[8,dd_law_cell_at])(zle:#[8,dd_law_kinds]){f:Addr}{fd:FuncData}(F:Fun K "law" "law" jJ f fd):FnOk P w K mg base (CXR P w) 7 f fd ["_law_script"] (spL K JK):=by
 have S:=zi3;refine fn3 F S (fun ds Q E h=>?_) (fun cdv A outer s H E E3 hE hr=>?_)
 . obtain⟨_,rfl,_⟩:=h;rfl
 refine⟨_,(zc (zf (i:=1) S.nd rfl #[2] (op3 zz i3 (op3 zl (df3 hE zlb (hr.mono #[1]) rfl zm (za (n3 0) (za i3 zb))) i3)))
  (zc (zf (i:=2) S.nd rfl #[2] (df3 hE zlh (hr.mono #[1]) rfl zm (za (n3 0) (za (n3 1) (za i3 zb)))))
  (zc (zf (i:=3) S.nd rfl #[2] (zB (JR rfl) rfl T.n_sum Zk (za (new3 (z8 ["_law_one", "_law_weights_here"] [] [] rfl (zU (osc:=ze jJ) #[3]) rfl (zN (n3 2)) (fun H0 s H fp cl=>⟨(zW (n:=2) rfl (zy (zi (i:=0) (show((["_law_one", "_law_weights_here"]:List PySem.Str)++([]:List PySem.Str)).Nodup by decide) rfl #[2]) (zy (zi (i:=1) (show((["_law_one", "_law_weights_here"]:List PySem.Str)++([]:List PySem.Str)).Nodup by decide) rfl #[2]) zV))),zY,(n3 0)⟩))) zb)))
  (zc (zf (i:=4) S.nd rfl #[2] (df3 hE zla (hr.mono #[1]) rfl zm (za (df3 hE zld (hr.mono #[1]) rfl zm (za (n3 0) (za i3 zb))) (za (n3 1) zb))))
  (zc (zf (i:=5) S.nd rfl #[2] (df3 hE zlg (hr.mono #[1]) rfl zm (za (df3 hE zlc (hr.mono #[1]) rfl zm (za (n3 0) (za i3 zb))) (za (n3 3) (za (n3 1) zb)))))
  (zc (zf (i:=6) S.nd rfl #[2] (df3 hE zld (hr.mono #[1]) rfl zm (za (n3 0) (za i3 zb))))
  (zc (zf (i:=7) S.nd rfl #[2] (new3 (zA (za (cmp3 (zw hr.units) (op3 zl (n3 6) i3) i3 (nomark _)) (za (cmp3 (zw hr.units) (op3 zl (op3 zE (n3 6) i3) i3) i3 (nomark _)) (za (cmp3 (zw hr.units) (op3 zl (op3 zE (n3 6) i3) i3) i3 (nomark _)) zb))))))
  (zc (jk (i:=8) S.nd rfl #[2] (zA (za (n3 2) (za (n3 4) (za (n3 5) zb)))))
  (zc (s_if (val3 (at3 (n3 7) i3 #[4])) (zd (zaH (i:=8) rfl #[2] i3 (df3 hE zk9 (hr.mono #[1]) rfl zm (za (n3 2) (za (op3 zE (n3 6) i3) zb))))) zj)
  (zc (s_if (val3 (at3 (n3 7) i3 #[4])) (zd (zaH (i:=8) rfl #[2] i3 (df3 hE zk7 (hr.mono #[1]) rfl zm (za (n3 4) (za (df3 hE zld (hr.mono #[1]) rfl zm (za (n3 0) (za i3 zb))) zb))))) zj)
  (zc (s_if (val3 (at3 (n3 7) i3 #[4])) (zd (zaH (i:=8) rfl #[2] i3 (df3 hE zk8 (hr.mono #[1]) rfl zm (za (n3 5) (za (n3 3) (za (n3 1) (za (op3 zE (df3 hE zld (hr.mono #[1]) rfl zm (za (n3 0) (za i3 zb))) i3) zb))))))) zj)
  (zc (zf (i:=9) S.nd rfl #[2] (new3 (zA zb)))
  (zc (zM Waq rfl (jH rfl T.n_range (za i3 zb)) (zi (i:=10) S.nd rfl #[2]) (zd (s_if (pw3 (zbe (val3 (at3 (n3 7) (n3 10) #[4])) (zbA (zk (zw hr.units) (n3 9) (new3 (zA zb)) (nomark _))))) (zd (zf (i:=9) S.nd rfl #[2] (new3 (zA (za (cmp3 (zw hr.units) (n3 10) i3 (nomark _)) (za (cmp3 (zw hr.units) (n3 10) i3 (nomark _)) (za (cmp3 (zw hr.units) (n3 10) i3 (nomark _)) (za b3 (za b3 zb))))))))) zj)))
  (zd (zr (zff (cmp3 (zw hr.units) (df3 hE zle (hr.mono #[1]) rfl zm (za (at3 (n3 8) i3 #[4]) (za (at3 (n3 8) i3 #[4]) (za (at3 (n3 8) i3 #[4]) zb)))) (n3 9) (nomark _)) (one3 (cmp3 (zw hr.units) (df3 hE zle (hr.mono #[1]) rfl zm (za (n3 2) (za (n3 4) (za (n3 5) zb)))) (new3 (zA zb)) (nomark _))))))))))))))))))),fun ds Q h=>?_⟩
 obtain⟨ns,rfl,h63,q⟩:=h;refine zg fun N hN=>?_
 walk_at "rd"
 refine⟨ns,rfl,#[1],fun v=>⟨#[1],hN _ ?_⟩⟩
 clear hN N;obtain⟨n,hn⟩:∃ n:Nat,1+v%8=(n:Int):=⟨(1+v%8).toNat,#[0]⟩
 have hn8:1<=n/\n<=8:=#[0]
 rw [hn];clear hn v;refine zg fun N hN=>?_
 walk_at "rd"
 refine⟨ns,rfl,n,rfl,hn8.1,hn8.2,fun l hok hml=>hN _ ?_⟩
 clear hN N;have htn:1<=tot l/\tot l<=60:=⟨zkv hok,hok.2.2⟩;have hm:=zck hok;have hll:=hok.1;refine zg fun N hN=>?_
 walk_at "rd"
 refine⟨sz (by rw [YaR];omega),?_⟩
 refine zX dS (fun s=>PyData.int s.1) (fun ρ=>∃ t u,ρ = [t,u]) l ?_ _ _ _ _ ⟨none,none,rfl⟩ ?_
 . rintro s hs ρ fa acc K ⟨t,u,rfl⟩ kk
   walk_at "rd"
   exact kk _ ⟨_,_,rfl⟩
 have eu:[]++l.map (fun s=>PyData.int s.1)=(l.map (·.1)).map PyData.int:=by rw [List.nil_append,YaD];rfl
 rw [eu];refine⟨l.map (·.1),Zc _,hN _ ?_⟩;clear hN N eu;rw [show(l.map (·.1)).sum=tot l from rfl]
 refine zg fun N hN=>?_
 walk_at "rd"
 refine⟨ns,rfl,#[1],#[1],fun v _=>⟨n,rfl,hn8.2,fun bs hB ho=>hN _ ?_⟩⟩
 clear hN N;rw [<-hml] at hB;have hbl:=hB.1;refine zg fun N hN=>?_
 walk_at "rd"
 refine⟨ns,rfl,h63,#[1],#[1],fun xs hxs=>⟨xs,rfl,hxs,htn.1,htn.2,#[0],#[0],fun rs hrs htx hrl=>hN _ ?_⟩⟩
 clear hN N;rw [<-hml] at hrs;refine zg fun N hN=>?_
 walk_at "rd"
 refine⟨ns,rfl,#[1],#[1],fun cc _=>hN _ ?_⟩
 clear hN N;refine zg fun N hN=>?_
 walk_at "rd"
 refine⟨#[1],divP,#[1],divP,#[1],hN _ ?_⟩
 clear hN N;generalize decide (cc%4=1)=w0;generalize decide (cc/4%3=1)=w1;generalize decide (cc/12%2=1)=w2;refine zg fun N hN=>?_
 walk_at "rd"
 refine hN _ ?_
 clear hN N;refine zH (fun ρ=>∃ (f:Bool) (l':List Spell),ρ = [some (.sh false (.list (ns.map .int))),#[5,n],some (.sh true (.list (l.map dS))),#[5,tot l],some (.sh true (.list (bs.map dP))),some (.sh true (.list (rs.map dRl))),#[5,cc],some (.sh true (.list [.bool w0,.bool w1,.bool w2])),some (.ow f [.list (l'.map dS),.list (bs.map dP),.list (rs.map dRl)]),none,none]/\l'.length<=100/\(w0=true->¬okS l')/\(w0=false->l'=l)) (fun N hN=>?_) ?_
 . walk_at "rd"
   exact ite2 (fun e=>⟨divP,l,rfl,hok,fun f l' h1 h2=>⟨0,rfl,hN _ ⟨_,l',rfl,h2,fun _=>h1,fun z=>absurd (e.symm.trans z) #[1]⟩⟩⟩) fun e=>hN _ ⟨_,l,rfl,#[0],fun z=>absurd z e,fun _=>rfl⟩
 rintro ρ ⟨f,l',rfl,hl',hS1,hS2⟩
 refine zH (fun ρ=>∃ (f:Bool) (bs':List (Rat2×Rat2)),ρ = [some (.sh false (.list (ns.map .int))),#[5,n],some (.sh true (.list (l.map dS))),#[5,tot l],some (.sh true (.list (bs.map dP))),some (.sh true (.list (rs.map dRl))),#[5,cc],some (.sh true (.list [.bool w0,.bool w1,.bool w2])),some (.ow f [.list (l'.map dS),.list (bs'.map dP),.list (rs.map dRl)]),none,none]/\bs'.length<=100/\(∀ p∈bs',okQ p.1/\okQ p.2)/\(w1=true->¬okB (many l) bs')/\(w1=false->bs'=bs)) (fun N hN=>?_) ?_
 . walk_at "rd"
   exact ite2 (fun e=>⟨ns,rfl,#[1],#[1],fun v _=>⟨bs,rfl,many l,hB,hm.1,hm.2,ho,fun f l' h1 h2 h3=>⟨1,rfl,hN _ ⟨_,l',rfl,h3,h2,fun _=>h1,fun z=>absurd (e.symm.trans z) #[1]⟩⟩⟩⟩) fun e=>hN _ ⟨_,bs,rfl,#[0],ho,fun z=>absurd z e,fun _=>rfl⟩
 clear f
 rintro ρ ⟨f,bs',rfl,hb',ho',hB1,hB2⟩
 refine zH (fun ρ=>∃ (f:Bool) (rs':List Rule),ρ = [some (.sh false (.list (ns.map .int))),#[5,n],some (.sh true (.list (l.map dS))),#[5,tot l],some (.sh true (.list (bs.map dP))),some (.sh true (.list (rs.map dRl))),#[5,cc],some (.sh true (.list [.bool w0,.bool w1,.bool w2])),some (.ow f [.list (l'.map dS),.list (bs'.map dP),.list (rs'.map dRl)]),none,none]/\rs'.length<=100/\txtR rs'/\(w2=true->¬okRs (tot l) (many l) rs')/\(w2=false->rs'=rs)) (fun N hN=>?_) ?_
 . walk_at "rd"
   exact ite2 (fun e=>⟨ns,rfl,#[1],#[1],fun v _=>⟨divP,rs,rfl,hrl,htx,htn.1,htn.2,#[0],#[0],fun f l' h1 h2 h3=>⟨2,rfl,hN _ ⟨_,l',rfl,h3,h2,fun _=>by rw [hml];exact h1,fun z=>absurd (e.symm.trans z) #[1]⟩⟩⟩⟩) fun e=>hN _ ⟨_,rs,rfl,#[0],htx,fun z=>absurd z e,fun _=>rfl⟩
 clear f
 rintro ρ ⟨f,rs',rfl,hr',htx',hR1,hR2⟩
 refine zg fun N hN=>?_
 walk_at "rd"
 refine hN _ ?_
 clear hN N;have shn:SeqAt.shaped (.list [])=true:=#[3]
 refine zH (fun ρ=>∃ (due:List D) (t10:Option L3.Cl),ρ = [some (.sh false (.list (ns.map .int))),#[5,n],some (.sh true (.list (l.map dS))),#[5,tot l],some (.sh true (.list (bs.map dP))),some (.sh true (.list (rs.map dRl))),#[5,cc],some (.sh true (.list [.bool w0,.bool w1,.bool w2])),some (.ow f [.list (l'.map dS),.list (bs'.map dP),.list (rs'.map dRl)]),some (.sh true (.list due)),t10]/\Due (fun i=>[w0,w1,w2].getD i false) 3 due) (fun N hN=>?_) ?_
 . walk_at "rd"
   refine⟨#[1],#[1],?_⟩
   refine jE (fun k ρ=>∃ (due:List D) (t10:Option L3.Cl),ρ = [some (.sh false (.list (ns.map .int))),#[5,n],some (.sh true (.list (l.map dS))),#[5,tot l],some (.sh true (.list (bs.map dP))),some (.sh true (.list (rs.map dRl))),#[5,cc],some (.sh true (.list [.bool w0,.bool w1,.bool w2])),some (.ow f [.list (l'.map dS),.list (bs'.map dP),.list (rs'.map dRl)]),some (.sh true (.list due)),t10]/\Due (fun i=>[w0,w1,w2].getD i false) k due) ?_ (fun ρ h=>hN ρ h) ⟨[],_,rfl,.inl ⟨rfl,fun i h=>absurd h #[0]⟩⟩
   rintro k ρ hk ⟨due,t10,rfl,hdu⟩ W hW
   have hk:k<3:=hk;have hat:atI [PyData.bool w0,PyData.bool w1,PyData.bool w2] (0+(k:Int))=some (PyData.bool ([w0,w1,w2].getD k false)):=by
    rw [Int.zero_add];refine jB ?_
    rcases Nat.lt_or_ge k 1 with z|z
    . rw [show k=0 by omega];rfl
    . rcases Nat.lt_or_ge k 2 with z|z
      . rw [show k=1 by omega];rfl
      . rw [show k=2 by omega];rfl
   have hds:=hdu.shp
   walk_at "rd hat shn hds"
   refine ite2 (fun e=>?_) fun e=>hW _ ⟨_,_,rfl,hdu.no (by simpa using e)⟩
   obtain⟨y1,y2⟩:=hdu.yes e;exact ite2 (fun z=>hW _ ⟨_,_,rfl,y1 z⟩) fun z=>hW _ ⟨_,_,rfl,y2 z⟩
 rintro ρ ⟨due,t10,rfl,hdu⟩
 have hds:=hdu.shp;obtain⟨d1,d2,d3,d4⟩:=zj2 hdu hok hB hrs hS1 hS2 hB1 hB2 hR1 hR2;have ev:∀ a b c:Bool,PyData.eqv (.list [.bool a,.bool b,.bool c,.bool true,.bool false]) (.list [.bool a,.bool b,.bool c,.bool true,.bool false])=true:=#[3]
 have en:PyData.eqv (.list []) (.list [])=true:=#[3]
 refine zi8 fun Y hY=>?_
 have hy:Y:=hY (by
  walk_at "rd shn en"
  exact⟨l,rfl,bs,rfl,rs,rfl,#[0],#[0],ho,#[0],htx,fun _ _ _=>q,fun z=>absurd hok z,fun _ z=>absurd hB z,fun _ _ z=>absurd hrs z⟩)
 have sh1:∀ a b c:Bool,SeqAt.shaped (.list [.bool a,.bool b,.bool c,.bool true,.bool false])=true:=#[3]
 walk_at "rd shn hds"
 refine⟨l',rfl,bs',rfl,rs',rfl,#[0],#[0],ho',#[0],htx',fun h1 h2 h3=>?_,fun h1=>⟨sh1 _ _ _,?_⟩,fun h1 h2=>⟨sh1 _ _ _,?_⟩,fun h1 h2 h3=>⟨sh1 _ _ _,?_⟩⟩
 . rw [d1 h1 h2 h3,if_pos en];exact hy
 . rw [d2 h1,if_pos (ev _ _ _)];exact hy
 . rw [d3 h1 h2,if_pos (ev _ _ _)];exact hy
 . rw [d4 h1 h2 h3,if_pos (ev _ _ _)];exact hy
end
theorem zgK{K:Ybf}{h:Heap}{mg:Str->Option Value}(X:K.In h)(G:h.Ns mainGlobals mg)
 {f0 f1 f2 f3 f4 f5 f6 f7 f8 f9 f10 f11 f12 f13 f14 f15 f16 f17 f18 f19 f20 f21 f22 f23 f24 f25 f26 f27 f28 f29 f30 f31 f32 f33 f34 f35 f36 f37 f38:Addr}
 {od0 an0 od1 an1 od2 an2 od3 an3 od4 an4 od5 an5 od6 an6 od7 an7 od8 an8 od9 an9 od10 an10 od11 an11 od12 an12 od13 an13 od14 an14 od15 an15 od16 an16 od17 an17 od18 an18 od19 an19 od20 an20 od21 an21 od22 an22 od23 an23 od24 an24 od25 an25 od26 an26 od27 an27 od28 an28 od29 an29 od30 an30 od31 an31 od32 an32 od33 an33 od34 an34 od35 an35 od36 an36 od37 an37 od38 an38:Option Addr}
 {sl0 sl1 sl2 sl3 sl4 sl5 sl6 sl7 sl8 sl9 sl10 sl11 sl12 sl13 sl14 sl15 sl16 sl17 sl18 sl19 sl20 sl21 sl22 sl23 sl24 sl25 sl26 sl27 sl28 sl29 sl30 sl31 sl32 sl33 sl34 sl35 sl36 sl37 sl38:Array (Option Value)}
 {oc0 kV0 dc0 pm0 ct0 cd0 oc1 kV1 dc1 pm1 ct1 cd1 oc2 kV2 dc2 pm2 ct2 cd2 oc3 kV3 dc3 pm3 ct3 cd3 oc4 kV4 dc4 pm4 ct4 cd4 oc5 kV5 dc5 pm5 ct5 cd5 oc6 kV6 dc6 pm6 ct6 cd6 oc7 kV7 dc7 pm7 ct7 cd7 oc8 kV8 dc8 pm8 ct8 cd8 oc9 kV9 dc9 pm9 ct9 cd9 oc10 kV10 dc10 pm10 ct10 cd10 oc11 kV11 dc11 pm11 ct11 cd11 oc12 kV12 dc12 pm12 ct12 cd12 oc13 kV13 dc13 pm13 ct13 cd13 oc14 kV14 dc14 pm14 ct14 cd14 oc15 kV15 dc15 pm15 ct15 cd15 oc16 kV16 dc16 pm16 ct16 cd16 oc17 kV17 dc17 pm17 ct17 cd17 oc18 kV18 dc18 pm18 ct18 cd18 oc19 kV19 dc19 pm19 ct19 cd19 oc20 kV20 dc20 pm20 ct20 cd20 oc21 kV21 dc21 pm21 ct21 cd21 oc22 kV22 dc22 pm22 ct22 cd22 oc23 kV23 dc23 pm23 ct23 cd23 oc24 kV24 dc24 pm24 ct24 cd24 oc25 kV25 dc25 pm25 ct25 cd25 oc26 kV26 dc26 pm26 ct26 cd26 oc27 kV27 dc27 pm27 ct27 cd27 oc28 kV28 dc28 pm28 ct28 cd28 oc29 kV29 dc29 pm29 ct29 cd29 oc30 kV30 dc30 pm30 ct30 cd30 oc31 kV31 dc31 pm31 ct31 cd31 oc32 kV32 dc32 pm32 ct32 cd32 oc33 kV33 dc33 pm33 ct33 cd33 oc34 kV34 dc34 pm34 ct34 cd34 oc35 kV35 dc35 pm35 ct35 cd35 oc36 kV36 dc36 pm36 ct36 cd36 oc37 kV37 dc37 pm37 ct37 cd37 oc38 kV38 dc38 pm38 ct38 cd38:Value}
 {c_ClanError:Addr}
 {c_NoRatio:Addr}
 {c_NoText:Addr}
 {c_NoSpell:Addr}
 {c_NoRow:Addr}
 {c_NoBounds:Addr}
 {c_NoDistance:Addr}
 {c_NoClan:Addr}
 {c_TooLong:Addr}
 {c_NoRule:Addr}
 {c_NoLine:Addr}
 {c_NoNumber:Addr}
 {c_NoName:Addr}
 {c_Known:Addr}
 {c_TooMany:Addr}
 {t_LEAST_BOUND:Addr} {od_LEAST_BOUND:Option Addr} {n_LEAST_BOUND:Nat} {sl_LEAST_BOUND:Array (Option Value)} {u0_LEAST_BOUND u1_LEAST_BOUND:Tok}
 {t_MOST_BOUND:Addr} {od_MOST_BOUND:Option Addr} {n_MOST_BOUND:Nat} {sl_MOST_BOUND:Array (Option Value)} {u0_MOST_BOUND u1_MOST_BOUND:Tok}
 {t_FIXED:Tok}
 {t_BARRED:Tok}
 {t_MOST_SPELLS:Tok}
 {t_MOST_CLANS:Tok}
 {t_MOST_TURNS:Tok}
 (a0:PySem.W.nsIn K mainGlobals "_law_cell_at" = some (some (.ref f0)))
 (l0:K.lookup f0=some ⟨oc0,od0,.func (PySem.W.fnOf "_law_cell_at" "_law_cell_at" (zt Jo) (zq Jo) (ze Jo) .none kV0 dc0 pm0 an0 cd0 ct0),sl0⟩)
 (c0:PySem.W.codeIn K cd0 "_law_cell_at" = true)
 (k0:PySem.W.keepIn K (.ref f0)=true)
 (a1:PySem.W.nsIn K mainGlobals "_law_drawn_at" = some (some (.ref f1)))
 (l1:K.lookup f1=some ⟨oc1,od1,.func (PySem.W.fnOf "_law_drawn_at" "_law_drawn_at" (zt Ja) (zq Ja) (ze Ja) .none kV1 dc1 pm1 an1 cd1 ct1),sl1⟩)
 (c1:PySem.W.codeIn K cd1 "_law_drawn_at" = true)
 (k1:PySem.W.keepIn K (.ref f1)=true)
 (a2:PySem.W.nsIn K mainGlobals "_law_weights" = some (some (.ref f2)))
 (l2:K.lookup f2=some ⟨oc2,od2,.func (PySem.W.fnOf "_law_weights" "_law_weights" (zt JE) (zq JE) (ze JE) .none kV2 dc2 pm2 an2 cd2 ct2),sl2⟩)
 (c2:PySem.W.codeIn K cd2 "_law_weights" = true)
 (k2:PySem.W.keepIn K (.ref f2)=true)
 (a3:PySem.W.nsIn K mainGlobals "_law_spells" = some (some (.ref f3)))
 (l3:K.lookup f3=some ⟨oc3,od3,.func (PySem.W.fnOf "_law_spells" "_law_spells" (zt Jc) (zq Jc) (ze Jc) .none kV3 dc3 pm3 an3 cd3 ct3),sl3⟩)
 (c3:PySem.W.codeIn K cd3 "_law_spells" = true)
 (k3:PySem.W.keepIn K (.ref f3)=true)
 (a4:PySem.W.nsIn K mainGlobals "_law_ratio" = some (some (.ref f4)))
 (l4:K.lookup f4=some ⟨oc4,od4,.func (PySem.W.fnOf "_law_ratio" "_law_ratio" (zt Jz) (zq Jz) (ze Jz) .none kV4 dc4 pm4 an4 cd4 ct4),sl4⟩)
 (c4:PySem.W.codeIn K cd4 "_law_ratio" = true)
 (k4:PySem.W.keepIn K (.ref f4)=true)
 (a5:PySem.W.nsIn K mainGlobals "_law_bounds" = some (some (.ref f5)))
 (l5:K.lookup f5=some ⟨oc5,od5,.func (PySem.W.fnOf "_law_bounds" "_law_bounds" (zt JB) (zq JB) (ze JB) .none kV5 dc5 pm5 an5 cd5 ct5),sl5⟩)
 (c5:PySem.W.codeIn K cd5 "_law_bounds" = true)
 (k5:PySem.W.keepIn K (.ref f5)=true)
 (a6:PySem.W.nsIn K mainGlobals "_law_rules" = some (some (.ref f6)))
 (l6:K.lookup f6=some ⟨oc6,od6,.func (PySem.W.fnOf "_law_rules" "_law_rules" (zt Jw) (zq Jw) (ze Jw) .none kV6 dc6 pm6 an6 cd6 ct6),sl6⟩)
 (c6:PySem.W.codeIn K cd6 "_law_rules" = true)
 (k6:PySem.W.keepIn K (.ref f6)=true)
 (a7:PySem.W.nsIn K mainGlobals "_law_cells" = some (some (.ref f7)))
 (l7:K.lookup f7=some ⟨oc7,od7,.func (PySem.W.fnOf "_law_cells" "_law_cells" (zt jL) (zq jL) (ze jL) .none kV7 dc7 pm7 an7 cd7 ct7),sl7⟩)
 (c7:PySem.W.codeIn K cd7 "_law_cells" = true)
 (k7:PySem.W.keepIn K (.ref f7)=true)
 (a8:PySem.W.nsIn K mainGlobals "_law_bad_spells" = some (some (.ref f8)))
 (l8:K.lookup f8=some ⟨oc8,od8,.func (PySem.W.fnOf "_law_bad_spells" "_law_bad_spells" (zt jr) (zq jr) (ze jr) .none kV8 dc8 pm8 an8 cd8 ct8),sl8⟩)
 (c8:PySem.W.codeIn K cd8 "_law_bad_spells" = true)
 (k8:PySem.W.keepIn K (.ref f8)=true)
 (a9:PySem.W.nsIn K mainGlobals "_law_bad_bounds" = some (some (.ref f9)))
 (l9:K.lookup f9=some ⟨oc9,od9,.func (PySem.W.fnOf "_law_bad_bounds" "_law_bad_bounds" (zt Jm) (zq Jm) (ze Jm) .none kV9 dc9 pm9 an9 cd9 ct9),sl9⟩)
 (c9:PySem.W.codeIn K cd9 "_law_bad_bounds" = true)
 (k9:PySem.W.keepIn K (.ref f9)=true)
 (a10:PySem.W.nsIn K mainGlobals "_law_bad_rule" = some (some (.ref f10)))
 (l10:K.lookup f10=some ⟨oc10,od10,.func (PySem.W.fnOf "_law_bad_rule" "_law_bad_rule" (zt Jb) (zq Jb) (ze Jb) .none kV10 dc10 pm10 an10 cd10 ct10),sl10⟩)
 (c10:PySem.W.codeIn K cd10 "_law_bad_rule" = true)
 (k10:PySem.W.keepIn K (.ref f10)=true)
 (a11:PySem.W.nsIn K mainGlobals "check_weights" = some (some (.ref f11)))
 (l11:K.lookup f11=some ⟨oc11,od11,.func (PySem.W.fnOf "check_weights" "check_weights" (zt j9) (zq j9) (ze j9) .none kV11 dc11 pm11 an11 cd11 ct11),sl11⟩)
 (c11:PySem.W.codeIn K cd11 "check_weights" = true)
 (k11:PySem.W.keepIn K (.ref f11)=true)
 (a12:PySem.W.nsIn K mainGlobals "all_turns" = some (some (.ref f12)))
 (l12:K.lookup f12=some ⟨oc12,od12,.func (PySem.W.fnOf "all_turns" "all_turns" (zt jX) (zq jX) (ze jX) .none kV12 dc12 pm12 an12 cd12 ct12),sl12⟩)
 (c12:PySem.W.codeIn K cd12 "all_turns" = true)
 (k12:PySem.W.keepIn K (.ref f12)=true)
 (a13:PySem.W.nsIn K mainGlobals "check_spells" = some (some (.ref f13)))
 (l13:K.lookup f13=some ⟨oc13,od13,.func (PySem.W.fnOf "check_spells" "check_spells" (zt JJ) (zq JJ) (ze JJ) .none kV13 dc13 pm13 an13 cd13 ct13),sl13⟩)
 (c13:PySem.W.codeIn K cd13 "check_spells" = true)
 (k13:PySem.W.keepIn K (.ref f13)=true)
 (a14:PySem.W.nsIn K mainGlobals "common_divisor" = some (some (.ref f14)))
 (l14:K.lookup f14=some ⟨oc14,od14,.func (PySem.W.fnOf "common_divisor" "common_divisor" (zt JH) (zq JH) (ze JH) .none kV14 dc14 pm14 an14 cd14 ct14),sl14⟩)
 (c14:PySem.W.codeIn K cd14 "common_divisor" = true)
 (k14:PySem.W.keepIn K (.ref f14)=true)
 (a15:PySem.W.nsIn K mainGlobals "divisor_of_all" = some (some (.ref f15)))
 (l15:K.lookup f15=some ⟨oc15,od15,.func (PySem.W.fnOf "divisor_of_all" "divisor_of_all" (zt j6) (zq j6) (ze j6) .none kV15 dc15 pm15 an15 cd15 ct15),sl15⟩)
 (c15:PySem.W.codeIn K cd15 "divisor_of_all" = true)
 (k15:PySem.W.keepIn K (.ref f15)=true)
 (a16:PySem.W.nsIn K mainGlobals "least_bottom" = some (some (.ref f16)))
 (l16:K.lookup f16=some ⟨oc16,od16,.func (PySem.W.fnOf "least_bottom" "least_bottom" (zt Jx) (zq Jx) (ze Jx) .none kV16 dc16 pm16 an16 cd16 ct16),sl16⟩)
 (c16:PySem.W.codeIn K cd16 "least_bottom" = true)
 (k16:PySem.W.keepIn K (.ref f16)=true)
 (a17:PySem.W.nsIn K mainGlobals "shares_over" = some (some (.ref f17)))
 (l17:K.lookup f17=some ⟨oc17,od17,.func (PySem.W.fnOf "shares_over" "shares_over" (zt jU) (zq jU) (ze jU) .none kV17 dc17 pm17 an17 cd17 ct17),sl17⟩)
 (c17:PySem.W.codeIn K cd17 "shares_over" = true)
 (k17:PySem.W.keepIn K (.ref f17)=true)
 (a18:PySem.W.nsIn K mainGlobals "quotas" = some (some (.ref f18)))
 (l18:K.lookup f18=some ⟨oc18,od18,.func (PySem.W.fnOf "quotas" "quotas" (zt jD) (zq jD) (ze jD) .none kV18 dc18 pm18 an18 cd18 ct18),sl18⟩)
 (c18:PySem.W.codeIn K cd18 "quotas" = true)
 (k18:PySem.W.keepIn K (.ref f18)=true)
 (a19:PySem.W.nsIn K mainGlobals "first_turn" = some (some (.ref f19)))
 (l19:K.lookup f19=some ⟨oc19,od19,.func (PySem.W.fnOf "first_turn" "first_turn" (zt Jr) (zq Jr) (ze Jr) .none kV19 dc19 pm19 an19 cd19 ct19),sl19⟩)
 (c19:PySem.W.codeIn K cd19 "first_turn" = true)
 (k19:PySem.W.keepIn K (.ref f19)=true)
 (a20:PySem.W.nsIn K mainGlobals "window_of" = some (some (.ref f20)))
 (l20:K.lookup f20=some ⟨oc20,od20,.func (PySem.W.fnOf "window_of" "window_of" (zt JL) (zq JL) (ze JL) .none kV20 dc20 pm20 an20 cd20 ct20),sl20⟩)
 (c20:PySem.W.codeIn K cd20 "window_of" = true)
 (k20:PySem.W.keepIn K (.ref f20)=true)
 (a21:PySem.W.nsIn K mainGlobals "windows_of_clan" = some (some (.ref f21)))
 (l21:K.lookup f21=some ⟨oc21,od21,.func (PySem.W.fnOf "windows_of_clan" "windows_of_clan" (zt j4) (zq j4) (ze j4) .none kV21 dc21 pm21 an21 cd21 ct21),sl21⟩)
 (c21:PySem.W.codeIn K cd21 "windows_of_clan" = true)
 (k21:PySem.W.keepIn K (.ref f21)=true)
 (a22:PySem.W.nsIn K mainGlobals "windows_within" = some (some (.ref f22)))
 (l22:K.lookup f22=some ⟨oc22,od22,.func (PySem.W.fnOf "windows_within" "windows_within" (zt Ju) (zq Ju) (ze Ju) .none kV22 dc22 pm22 an22 cd22 ct22),sl22⟩)
 (c22:PySem.W.codeIn K cd22 "windows_within" = true)
 (k22:PySem.W.keepIn K (.ref f22)=true)
 (a23:PySem.W.nsIn K mainGlobals "choices_of_visits" = some (some (.ref f23)))
 (l23:K.lookup f23=some ⟨oc23,od23,.func (PySem.W.fnOf "choices_of_visits" "choices_of_visits" (zt jQ) (zq jQ) (ze jQ) .none kV23 dc23 pm23 an23 cd23 ct23),sl23⟩)
 (c23:PySem.W.codeIn K cd23 "choices_of_visits" = true)
 (k23:PySem.W.keepIn K (.ref f23)=true)
 (a24:PySem.W.nsIn K mainGlobals "move_along" = some (some (.ref f24)))
 (l24:K.lookup f24=some ⟨oc24,od24,.func (PySem.W.fnOf "move_along" "move_along" (zt JF) (zq JF) (ze JF) .none kV24 dc24 pm24 an24 cd24 ct24),sl24⟩)
 (c24:PySem.W.codeIn K cd24 "move_along" = true)
 (k24:PySem.W.keepIn K (.ref f24)=true)
 (a25:PySem.W.nsIn K mainGlobals "settle" = some (some (.ref f25)))
 (l25:K.lookup f25=some ⟨oc25,od25,.func (PySem.W.fnOf "settle" "settle" (zt Jv) (zq Jv) (ze Jv) .none kV25 dc25 pm25 an25 cd25 ct25),sl25⟩)
 (c25:PySem.W.codeIn K cd25 "settle" = true)
 (k25:PySem.W.keepIn K (.ref f25)=true)
 (a26:PySem.W.nsIn K mainGlobals "place_visits" = some (some (.ref f26)))
 (l26:K.lookup f26=some ⟨oc26,od26,.func (PySem.W.fnOf "place_visits" "place_visits" (zt jy) (zq jy) (ze jy) .none kV26 dc26 pm26 an26 cd26 ct26),sl26⟩)
 (c26:PySem.W.codeIn K cd26 "place_visits" = true)
 (k26:PySem.W.keepIn K (.ref f26)=true)
 (a27:PySem.W.nsIn K mainGlobals "less" = some (some (.ref f27)))
 (l27:K.lookup f27=some ⟨oc27,od27,.func (PySem.W.fnOf "less" "less" (zt JI) (zq JI) (ze JI) .none kV27 dc27 pm27 an27 cd27 ct27),sl27⟩)
 (c27:PySem.W.codeIn K cd27 "less" = true)
 (k27:PySem.W.keepIn K (.ref f27)=true)
 (a28:PySem.W.nsIn K mainGlobals "check_bounds" = some (some (.ref f28)))
 (l28:K.lookup f28=some ⟨oc28,od28,.func (PySem.W.fnOf "check_bounds" "check_bounds" (zt JO) (zq JO) (ze JO) .none kV28 dc28 pm28 an28 cd28 ct28),sl28⟩)
 (c28:PySem.W.codeIn K cd28 "check_bounds" = true)
 (k28:PySem.W.keepIn K (.ref f28)=true)
 (a29:PySem.W.nsIn K mainGlobals "room_at_most" = some (some (.ref f29)))
 (l29:K.lookup f29=some ⟨oc29,od29,.func (PySem.W.fnOf "room_at_most" "room_at_most" (zt Js) (zq Js) (ze Js) .none kV29 dc29 pm29 an29 cd29 ct29),sl29⟩)
 (c29:PySem.W.codeIn K cd29 "room_at_most" = true)
 (k29:PySem.W.keepIn K (.ref f29)=true)
 (a30:PySem.W.nsIn K mainGlobals "rooms_of" = some (some (.ref f30)))
 (l30:K.lookup f30=some ⟨oc30,od30,.func (PySem.W.fnOf "rooms_of" "rooms_of" (zt jN) (zq jN) (ze jN) .none kV30 dc30 pm30 an30 cd30 ct30),sl30⟩)
 (c30:PySem.W.codeIn K cd30 "rooms_of" = true)
 (k30:PySem.W.keepIn K (.ref f30)=true)
 (a31:PySem.W.nsIn K mainGlobals "check_turn" = some (some (.ref f31)))
 (l31:K.lookup f31=some ⟨oc31,od31,.func (PySem.W.fnOf "check_turn" "check_turn" (zt Jf) (zq Jf) (ze Jf) .none kV31 dc31 pm31 an31 cd31 ct31),sl31⟩)
 (c31:PySem.W.codeIn K cd31 "check_turn" = true)
 (k31:PySem.W.keepIn K (.ref f31)=true)
 (a32:PySem.W.nsIn K mainGlobals "check_rules" = some (some (.ref f32)))
 (l32:K.lookup f32=some ⟨oc32,od32,.func (PySem.W.fnOf "check_rules" "check_rules" (zt JA) (zq JA) (ze JA) .none kV32 dc32 pm32 an32 cd32 ct32),sl32⟩)
 (c32:PySem.W.codeIn K cd32 "check_rules" = true)
 (k32:PySem.W.keepIn K (.ref f32)=true)
 (a33:PySem.W.nsIn K mainGlobals "forbidden" = some (some (.ref f33)))
 (l33:K.lookup f33=some ⟨oc33,od33,.func (PySem.W.fnOf "forbidden" "forbidden" (zt JM) (zq JM) (ze JM) .none kV33 dc33 pm33 an33 cd33 ct33),sl33⟩)
 (c33:PySem.W.codeIn K cd33 "forbidden" = true)
 (k33:PySem.W.keepIn K (.ref f33)=true)
 (a34:PySem.W.nsIn K mainGlobals "may_come" = some (some (.ref f34)))
 (l34:K.lookup f34=some ⟨oc34,od34,.func (PySem.W.fnOf "may_come" "may_come" (zt Jj) (zq Jj) (ze Jj) .none kV34 dc34 pm34 an34 cd34 ct34),sl34⟩)
 (c34:PySem.W.codeIn K cd34 "may_come" = true)
 (k34:PySem.W.keepIn K (.ref f34)=true)
 (a35:PySem.W.nsIn K mainGlobals "choices_of_turns" = some (some (.ref f35)))
 (l35:K.lookup f35=some ⟨oc35,od35,.func (PySem.W.fnOf "choices_of_turns" "choices_of_turns" (zt jS) (zq jS) (ze jS) .none kV35 dc35 pm35 an35 cd35 ct35),sl35⟩)
 (c35:PySem.W.codeIn K cd35 "choices_of_turns" = true)
 (k35:PySem.W.keepIn K (.ref f35)=true)
 (a36:PySem.W.nsIn K mainGlobals "placed" = some (some (.ref f36)))
 (l36:K.lookup f36=some ⟨oc36,od36,.func (PySem.W.fnOf "placed" "placed" (zt j5) (zq j5) (ze j5) .none kV36 dc36 pm36 an36 cd36 ct36),sl36⟩)
 (c36:PySem.W.codeIn K cd36 "placed" = true)
 (k36:PySem.W.keepIn K (.ref f36)=true)
 (a37:PySem.W.nsIn K mainGlobals "_law_kinds" = some (some (.ref f37)))
 (l37:K.lookup f37=some ⟨oc37,od37,.func (PySem.W.fnOf "_law_kinds" "_law_kinds" (zt jV) (zq jV) (ze jV) .none kV37 dc37 pm37 an37 cd37 ct37),sl37⟩)
 (c37:PySem.W.codeIn K cd37 "_law_kinds" = true)
 (k37:PySem.W.keepIn K (.ref f37)=true)
 (a38:PySem.W.nsIn K mainGlobals "law" = some (some (.ref f38)))
 (l38:K.lookup f38=some ⟨oc38,od38,.func (PySem.W.fnOf "law" "law" (zt jJ) (zq jJ) (ze jJ) .none kV38 dc38 pm38 an38 cd38 ct38),sl38⟩)
 (c38:PySem.W.codeIn K cd38 "law" = true)
 (k38:PySem.W.keepIn K (.ref f38)=true)
 (m_ClanError:PySem.W.nsIn K mainGlobals "ClanError" = some (some (.ref c_ClanError)))
 (m_NoRatio:PySem.W.nsIn K mainGlobals "NoRatio" = some (some (.ref c_NoRatio)))
 (m_NoText:PySem.W.nsIn K mainGlobals "NoText" = some (some (.ref c_NoText)))
 (m_NoSpell:PySem.W.nsIn K mainGlobals "NoSpell" = some (some (.ref c_NoSpell)))
 (m_NoRow:PySem.W.nsIn K mainGlobals "NoRow" = some (some (.ref c_NoRow)))
 (m_NoBounds:PySem.W.nsIn K mainGlobals "NoBounds" = some (some (.ref c_NoBounds)))
 (m_NoDistance:PySem.W.nsIn K mainGlobals "NoDistance" = some (some (.ref c_NoDistance)))
 (m_NoClan:PySem.W.nsIn K mainGlobals "NoClan" = some (some (.ref c_NoClan)))
 (m_TooLong:PySem.W.nsIn K mainGlobals "TooLong" = some (some (.ref c_TooLong)))
 (m_NoRule:PySem.W.nsIn K mainGlobals "NoRule" = some (some (.ref c_NoRule)))
 (m_NoLine:PySem.W.nsIn K mainGlobals "NoLine" = some (some (.ref c_NoLine)))
 (m_NoNumber:PySem.W.nsIn K mainGlobals "NoNumber" = some (some (.ref c_NoNumber)))
 (m_NoName:PySem.W.nsIn K mainGlobals "NoName" = some (some (.ref c_NoName)))
 (m_Known:PySem.W.nsIn K mainGlobals "Known" = some (some (.ref c_Known)))
 (m_TooMany:PySem.W.nsIn K mainGlobals "TooMany" = some (some (.ref c_TooMany)))
 (e_NoSpell:PySem.W.excIn K c_NoSpell [.type "ValueError", .type "Exception", .type "BaseException", .type "object"] "ValueError.__new__" = true)
 (e_NoBounds:PySem.W.excIn K c_NoBounds [.type "ValueError", .type "Exception", .type "BaseException", .type "object"] "ValueError.__new__" = true)
 (e_NoRule:PySem.W.excIn K c_NoRule [.type "ValueError", .type "Exception", .type "BaseException", .type "object"] "ValueError.__new__" = true)
 (k_NoSpell:XAttr K c_NoSpell/\PySem.W.exmOne K (.ref c_NoSpell) (.ref c_ClanError)=some true/\PySem.W.kitAny K (.ref c_NoSpell) [.ref c_Known,.ref c_NoClan,.ref c_NoDistance,.ref c_NoLine,.ref c_NoName,.ref c_NoNumber,.ref c_NoRatio]=some false/\PySem.W.kitAny K (.ref c_NoSpell) [.ref c_NoRow,.ref c_NoText,.ref c_TooLong,.ref c_TooMany]=some false/\PySem.W.kitOne K (.ref c_NoSpell) (.ref c_NoSpell)=some true/\PySem.W.kitOne K (.ref c_NoSpell) (.ref c_NoBounds)=some false/\PySem.W.kitOne K (.ref c_NoSpell) (.ref c_NoRule)=some false/\PySem.W.kitOne K (.ref c_NoSpell) (.type "ValueError")=some true)
 (k_NoBounds:XAttr K c_NoBounds/\PySem.W.exmOne K (.ref c_NoBounds) (.ref c_ClanError)=some true/\PySem.W.kitAny K (.ref c_NoBounds) [.ref c_Known,.ref c_NoClan,.ref c_NoDistance,.ref c_NoLine,.ref c_NoName,.ref c_NoNumber,.ref c_NoRatio]=some false/\PySem.W.kitAny K (.ref c_NoBounds) [.ref c_NoRow,.ref c_NoText,.ref c_TooLong,.ref c_TooMany]=some false/\PySem.W.kitOne K (.ref c_NoBounds) (.ref c_NoSpell)=some false/\PySem.W.kitOne K (.ref c_NoBounds) (.ref c_NoBounds)=some true/\PySem.W.kitOne K (.ref c_NoBounds) (.ref c_NoRule)=some false/\PySem.W.kitOne K (.ref c_NoBounds) (.type "ValueError")=some true)
 (k_NoRule:XAttr K c_NoRule/\PySem.W.exmOne K (.ref c_NoRule) (.ref c_ClanError)=some true/\PySem.W.kitAny K (.ref c_NoRule) [.ref c_Known,.ref c_NoClan,.ref c_NoDistance,.ref c_NoLine,.ref c_NoName,.ref c_NoNumber,.ref c_NoRatio]=some false/\PySem.W.kitAny K (.ref c_NoRule) [.ref c_NoRow,.ref c_NoText,.ref c_TooLong,.ref c_TooMany]=some false/\PySem.W.kitOne K (.ref c_NoRule) (.ref c_NoSpell)=some false/\PySem.W.kitOne K (.ref c_NoRule) (.ref c_NoBounds)=some false/\PySem.W.kitOne K (.ref c_NoRule) (.ref c_NoRule)=some true/\PySem.W.kitOne K (.ref c_NoRule) (.type "ValueError")=some true)
 (n_ValueError:PySem.W.nsIn K mainGlobals "ValueError" = some none)
 (n_abs:PySem.W.nsIn K mainGlobals "abs" = some none)
 (n_enumerate:PySem.W.nsIn K mainGlobals "enumerate" = some none)
 (n_isinstance:PySem.W.nsIn K mainGlobals "isinstance" = some none)
 (n_len:PySem.W.nsIn K mainGlobals "len" = some none)
 (n_list:PySem.W.nsIn K mainGlobals "list" = some none)
 (n_min:PySem.W.nsIn K mainGlobals "min" = some none)
 (n_range:PySem.W.nsIn K mainGlobals "range" = some none)
 (n_sorted:PySem.W.nsIn K mainGlobals "sorted" = some none)
 (n_sum:PySem.W.nsIn K mainGlobals "sum" = some none)
 (n_zip:PySem.W.nsIn K mainGlobals "zip" = some none)
 (m_LEAST_BOUND:PySem.W.nsIn K mainGlobals "LEAST_BOUND" = some (some (.ref t_LEAST_BOUND)))
 (q_LEAST_BOUND:K.lookup t_LEAST_BOUND=some ⟨.type "tuple", od_LEAST_BOUND,.seq #[.int 0 u0_LEAST_BOUND,.int 1 u1_LEAST_BOUND] n_LEAST_BOUND,sl_LEAST_BOUND⟩)
 (m_MOST_BOUND:PySem.W.nsIn K mainGlobals "MOST_BOUND" = some (some (.ref t_MOST_BOUND)))
 (q_MOST_BOUND:K.lookup t_MOST_BOUND=some ⟨.type "tuple", od_MOST_BOUND,.seq #[.int 10 u0_MOST_BOUND,.int 1 u1_MOST_BOUND] n_MOST_BOUND,sl_MOST_BOUND⟩)
 (m_FIXED:PySem.W.nsIn K mainGlobals "FIXED" = some (some (.str "fixed" t_FIXED)))
 (m_BARRED:PySem.W.nsIn K mainGlobals "BARRED" = some (some (.str "barred" t_BARRED)))
 (m_MOST_SPELLS:PySem.W.nsIn K mainGlobals "MOST_SPELLS" = some (some (.int 8 t_MOST_SPELLS)))
 (m_MOST_CLANS:PySem.W.nsIn K mainGlobals "MOST_CLANS" = some (some (.int 8 t_MOST_CLANS)))
 (m_MOST_TURNS:PySem.W.nsIn K mainGlobals "MOST_TURNS" = some (some (.int 60 t_MOST_TURNS))):∃ c:Law.Cl,Txt c K mg:=
 ⟨⟨c_ClanError,c_NoRatio,c_NoText,c_NoSpell,c_NoRow,c_NoBounds,c_NoDistance,c_NoClan,c_TooLong,c_NoRule,c_NoLine,c_NoNumber,c_NoName,c_Known,c_TooMany⟩,{
  d_law_cell_at:=⟨f0,_,zx (st:=Jo) l0 c0 k0,WaH X G a0⟩,
  d_law_drawn_at:=⟨f1,_,zx (st:=Ja) l1 c1 k1,WaH X G a1⟩,
  d_law_weights:=⟨f2,_,zx (st:=JE) l2 c2 k2,WaH X G a2⟩,
  d_law_spells:=⟨f3,_,zx (st:=Jc) l3 c3 k3,WaH X G a3⟩,
  d_law_ratio:=⟨f4,_,zx (st:=Jz) l4 c4 k4,WaH X G a4⟩,
  d_law_bounds:=⟨f5,_,zx (st:=JB) l5 c5 k5,WaH X G a5⟩,
  d_law_rules:=⟨f6,_,zx (st:=Jw) l6 c6 k6,WaH X G a6⟩,
  d_law_cells:=⟨f7,_,zx (st:=jL) l7 c7 k7,WaH X G a7⟩,
  d_law_bad_spells:=⟨f8,_,zx (st:=jr) l8 c8 k8,WaH X G a8⟩,
  d_law_bad_bounds:=⟨f9,_,zx (st:=Jm) l9 c9 k9,WaH X G a9⟩,
  d_law_bad_rule:=⟨f10,_,zx (st:=Jb) l10 c10 k10,WaH X G a10⟩,
  d_check_weights:=⟨f11,_,zx (st:=j9) l11 c11 k11,WaH X G a11⟩,
  d_all_turns:=⟨f12,_,zx (st:=jX) l12 c12 k12,WaH X G a12⟩,
  d_check_spells:=⟨f13,_,zx (st:=JJ) l13 c13 k13,WaH X G a13⟩,
  d_common_divisor:=⟨f14,_,zx (st:=JH) l14 c14 k14,WaH X G a14⟩,
  d_divisor_of_all:=⟨f15,_,zx (st:=j6) l15 c15 k15,WaH X G a15⟩,
  d_least_bottom:=⟨f16,_,zx (st:=Jx) l16 c16 k16,WaH X G a16⟩,
  d_shares_over:=⟨f17,_,zx (st:=jU) l17 c17 k17,WaH X G a17⟩,
  d_quotas:=⟨f18,_,zx (st:=jD) l18 c18 k18,WaH X G a18⟩,
  d_first_turn:=⟨f19,_,zx (st:=Jr) l19 c19 k19,WaH X G a19⟩,
  d_window_of:=⟨f20,_,zx (st:=JL) l20 c20 k20,WaH X G a20⟩,
  d_windows_of_clan:=⟨f21,_,zx (st:=j4) l21 c21 k21,WaH X G a21⟩,
  d_windows_within:=⟨f22,_,zx (st:=Ju) l22 c22 k22,WaH X G a22⟩,
  d_choices_of_visits:=⟨f23,_,zx (st:=jQ) l23 c23 k23,WaH X G a23⟩,
  d_move_along:=⟨f24,_,zx (st:=JF) l24 c24 k24,WaH X G a24⟩,
  d_settle:=⟨f25,_,zx (st:=Jv) l25 c25 k25,WaH X G a25⟩,
  d_place_visits:=⟨f26,_,zx (st:=jy) l26 c26 k26,WaH X G a26⟩,
  d_less:=⟨f27,_,zx (st:=JI) l27 c27 k27,WaH X G a27⟩,
  d_check_bounds:=⟨f28,_,zx (st:=JO) l28 c28 k28,WaH X G a28⟩,
  d_room_at_most:=⟨f29,_,zx (st:=Js) l29 c29 k29,WaH X G a29⟩,
  d_rooms_of:=⟨f30,_,zx (st:=jN) l30 c30 k30,WaH X G a30⟩,
  d_check_turn:=⟨f31,_,zx (st:=Jf) l31 c31 k31,WaH X G a31⟩,
  d_check_rules:=⟨f32,_,zx (st:=JA) l32 c32 k32,WaH X G a32⟩,
  d_forbidden:=⟨f33,_,zx (st:=JM) l33 c33 k33,WaH X G a33⟩,
  d_may_come:=⟨f34,_,zx (st:=Jj) l34 c34 k34,WaH X G a34⟩,
  d_choices_of_turns:=⟨f35,_,zx (st:=jS) l35 c35 k35,WaH X G a35⟩,
  d_placed:=⟨f36,_,zx (st:=j5) l36 c36 k36,WaH X G a36⟩,
  d_law_kinds:=⟨f37,_,zx (st:=jV) l37 c37 k37,WaH X G a37⟩,
  d_law:=⟨f38,_,zx (st:=jJ) l38 c38 k38,WaH X G a38⟩,
  m_ClanError:=WaH X G m_ClanError,
  m_NoRatio:=WaH X G m_NoRatio,
  m_NoText:=WaH X G m_NoText,
  m_NoSpell:=WaH X G m_NoSpell,
  m_NoRow:=WaH X G m_NoRow,
  m_NoBounds:=WaH X G m_NoBounds,
  m_NoDistance:=WaH X G m_NoDistance,
  m_NoClan:=WaH X G m_NoClan,
  m_TooLong:=WaH X G m_TooLong,
  m_NoRule:=WaH X G m_NoRule,
  m_NoLine:=WaH X G m_NoLine,
  m_NoNumber:=WaH X G m_NoNumber,
  m_NoName:=WaH X G m_NoName,
  m_Known:=WaH X G m_Known,
  m_TooMany:=WaH X G m_TooMany,
  e_NoSpell:=e_NoSpell,
  e_NoBounds:=e_NoBounds,
  e_NoRule:=e_NoRule,
  k_NoSpell:=k_NoSpell,
  k_NoBounds:=k_NoBounds,
  k_NoRule:=k_NoRule,
  n_ValueError:=Wak X G n_ValueError,
  n_abs:=Wak X G n_abs,
  n_enumerate:=Wak X G n_enumerate,
  n_isinstance:=Wak X G n_isinstance,
  n_len:=Wak X G n_len,
  n_list:=Wak X G n_list,
  n_min:=Wak X G n_min,
  n_range:=Wak X G n_range,
  n_sorted:=Wak X G n_sorted,
  n_sum:=Wak X G n_sum,
  n_zip:=Wak X G n_zip,
  m_LEAST_BOUND:=⟨_,WaH X G m_LEAST_BOUND,_,_,_,q_LEAST_BOUND,rfl,rfl,by show(2:Nat)<=sizeLine;decide,(.cons ⟨_,rfl⟩ (.cons ⟨_,rfl⟩ .nil))⟩,
  m_MOST_BOUND:=⟨_,WaH X G m_MOST_BOUND,_,_,_,q_MOST_BOUND,rfl,rfl,by show(2:Nat)<=sizeLine;decide,(.cons ⟨_,rfl⟩ (.cons ⟨_,rfl⟩ .nil))⟩,
  m_FIXED:=⟨_,WaH X G m_FIXED⟩,
  m_BARRED:=⟨_,WaH X G m_BARRED⟩,
  m_MOST_SPELLS:=⟨_,WaH X G m_MOST_SPELLS⟩,
  m_MOST_CLANS:=⟨_,WaH X G m_MOST_CLANS⟩,
  m_MOST_TURNS:=⟨_,WaH X G m_MOST_TURNS⟩ }⟩
section
variable{P:Program}{w:World}{c:Law.Cl}{K:Ybf}{mg:Str->Option Value}{base:Heap}
theorem zbS(T:Txt c K mg):dd_law_cell_at P w K mg base:=zkd T
theorem za3(T:Txt c K mg):dd_law_drawn_at P w K mg base:=zjF T (zbS T)
theorem zfS(T:Txt c K mg):dd_law_weights P w K mg base:=zhL T
theorem zj0(T:Txt c K mg):dd_law_spells P w K mg base:=zfl T (za3 T) (zbS T) (zfS T)
theorem zcp(T:Txt c K mg):dd_law_ratio P w K mg base:=zes T
theorem zh7(T:Txt c K mg):dd_law_bounds P w K mg base:=zj3 T (zcp T)
theorem zhR(T:Txt c K mg):dd_law_rules P w K mg base:=ziF T
theorem zh8(T:Txt c K mg):dd_law_cells P w K mg base:=zg7 T (za3 T)
theorem zkG(T:Txt c K mg):dd_law_bad_spells P w K mg base:=zf1 T
theorem zeX(T:Txt c K mg):dd_law_bad_bounds P w K mg base:=zjI T (zcp T)
theorem zfp(T:Txt c K mg):dd_law_bad_rule P w K mg base:=zkP T
theorem ziO(T:Txt c K mg):dd_check_weights c P w K mg base:=zhp T
theorem zjo(T:Txt c K mg):dd_all_turns P w K mg base:=ziS T
theorem zfZ(T:Txt c K mg):dd_check_spells c P w K mg base:=zd9 T (ziO T) (zjo T)
theorem zcC(T:Txt c K mg):dd_common_divisor P w K mg base:=zfU T
theorem zeU(T:Txt c K mg):dd_divisor_of_all P w K mg base:=zku T (zcC T)
theorem zfm(T:Txt c K mg):dd_least_bottom P w K mg base:=zd8 T (zeU T) (zcC T)
theorem zgG(T:Txt c K mg):dd_shares_over P w K mg base:=zex T
theorem zil(T:Txt c K mg):dd_quotas c P w K mg base:=zjb T (zfZ T) (zfm T) (zgG T)
theorem zka(T:Txt c K mg):dd_first_turn P w K mg base:=zky T
theorem zfb(T:Txt c K mg):dd_window_of P w K mg base:=zgs T (zka T)
theorem zkb(T:Txt c K mg):dd_windows_of_clan P w K mg base:=zkx T (zfb T)
theorem zeE(T:Txt c K mg):dd_windows_within P w K mg base:=zgq T (zkb T)
theorem zfh(T:Txt c K mg):dd_choices_of_visits P w K mg base:=zjn T
theorem zeG(T:Txt c K mg):dd_move_along P w K mg base:=zgM T
theorem zkl(T:Txt c K mg):dd_settle P w K mg base:=zkg T (zeG T)
theorem zkt(T:Txt c K mg):dd_place_visits P w K mg base:=zeR T (zfh T) (zkl T)
theorem ziD(T:Txt c K mg):dd_less P w K mg base:=zjt T
theorem zkf(T:Txt c K mg):dd_check_bounds c P w K mg base:=zga T (ziD T)
theorem zkB(T:Txt c K mg):dd_room_at_most P w K mg base:=zf3 T
theorem zeZ(T:Txt c K mg):dd_rooms_of c P w K mg base:=zjR T (zkf T) (zkB T)
theorem zgU(T:Txt c K mg):dd_check_turn c P w K mg base:=zdX T
theorem zfz(T:Txt c K mg):dd_check_rules c P w K mg base:=ziK T (zgU T)
theorem zjS(T:Txt c K mg):dd_forbidden P w K mg base:=zfV T
theorem zhX(T:Txt c K mg):dd_may_come P w K mg base:=zkJ T
theorem zii(T:Txt c K mg):dd_choices_of_turns c P w K mg base:=zkp T (zfz T) (zjS T) (zhX T)
theorem ziI(T:Txt c K mg):dd_placed c P w K mg base:=zjl T (zil T) (zeE T) (zkt T) (zeZ T) (zii T)
theorem ziw(T:Txt c K mg):dd_law_kinds P w K mg base:=zg1 T (ziI T)
theorem zjs(T:Txt c K mg){f:Addr}{fd:FuncData}(F:Fun K "law" "law" jJ f fd):FnOk P w K mg base (CXR P w) 7 f fd ["_law_script"] (spL K JK):=zjH T (zj0 T) (zh7 T) (zhR T) (za3 T) (zh8 T) (zkG T) (zeX T) (zfp T) (zbS T) (ziw T) F
end
theorem walk{l:PySem.W.OpenLaw}{q:Program}{loose:List Str}{XP:(Str->Option Value)->Heap->Prop}{YP:World->Heap->Prop}{d:DefRec}{K:Params->Ybf}(hn:l.most=some 63)(hdf:d.params.defaults=[])(hdn:d.name = "law")
 (hY:∀ (w:World) (h:Heap),YP w h->(K w.params).In h)
 (F:∀ (w:World) (mg:Str->Option Value) (h:Heap),(K w.params).In h->h.Ns mainGlobals mg->∃ c,Txt c (K w.params) mg) :
 PySem.W.WalkO q loose XP YP l.row.toRowW d [] (fun f vs=>PySem.call f vs):=by
 refine L2.zf0 (n:=63) (k:=7) (x:="_law_script") (CX:=fun w=>CXR l.prog w) (sp:=fun w=>spL (K w.params) JK) hn #[1] hdf ⟨rfl,#[1],#[1]⟩ hY (fun w mg fa h KX G hmg=>?_) (fun w H a ns hl _ hS=>⟨cln H,[.list (ns.map .int)],zbR H,.cons (.lst (zdC hS) (zbx ns)) .nil,ns,rfl,hl,fun v G' H' _ r=>zcU r.rd⟩) (fun w H s e s' z=>?_)
 . obtain⟨c,T⟩:=F w mg h KX G
   obtain⟨f,fd,Fn,hm⟩:=T.d_law;rw [hdn,hm] at hmg;cases hmg;have Fn':=Fn;obtain⟨oc,od,kV,doc,pm,an,cdv,ct,osl,rfl,lk,hcd⟩:=Fn.ex;exact⟨_,fun s u=>.of_eq rfl,fun base _ _=>zjs T Fn'⟩
 . obtain⟨_,_,_,_,_,hf⟩:=z
   exact hf
end Law
namespace PySem.W.Fast
theorem tw10030742589960199640:True:=trivial
theorem tw10051335332206304368:True:=trivial
theorem tw10534108912417034188:True:=trivial
theorem tw10828938459118213746:True:=trivial
theorem tw11099156247324677929:True:=trivial
theorem tw12069494090298565128:True:=trivial
theorem tw12620876781075982716:True:=trivial
theorem tw13078080310745195729:True:=trivial
theorem tw13140558112362978957:True:=trivial
theorem tw13166472580099836400:True:=trivial
theorem tw13502990185861698238:True:=trivial
theorem tw13572880000235984370:True:=trivial
theorem tw13880904518157061045:True:=trivial
theorem tw14543025186399520279:True:=trivial
theorem tw14545422701624668362:True:=trivial
theorem tw14976561848550824875:True:=trivial
theorem tw15498423771929265447:True:=trivial
theorem tw15719205110847271567:True:=trivial
theorem tw15783615949551372313:True:=trivial
theorem tw15932144672552011046:True:=trivial
theorem tw16133659540379814400:True:=trivial
theorem tw16986232814110730845:True:=trivial
theorem tw17150219411209406127:True:=trivial
theorem tw17443446540118924040:True:=trivial
theorem tw1762140565581070705:True:=trivial
theorem tw18409918403914004726:True:=trivial
theorem tw2605245316278954920:True:=trivial
theorem tw2624437461315216437:True:=trivial
theorem tw2637765309236614635:True:=trivial
theorem tw3196396611283005793:True:=trivial
theorem tw3247537111142582812:True:=trivial
theorem tw3385946126859370320:True:=trivial
theorem tw3471954866708982721:True:=trivial
theorem tw357089996817270751:True:=trivial
theorem tw3597997263445365686:True:=trivial
theorem tw3667953353564433507:True:=trivial
theorem tw4091316790749213844:True:=trivial
theorem tw4377222202513738181:True:=trivial
theorem tw4955559084119392982:True:=trivial
theorem tw5138897579568148230:True:=trivial
theorem tw5254945969789159434:True:=trivial
theorem tw5340068113344880318:True:=trivial
theorem tw6146086852253536643:True:=trivial
theorem tw6160219018689854205:True:=trivial
theorem tw6386621799859215135:True:=trivial
theorem tw667291145565450182:True:=trivial
theorem tw6874921986469354234:True:=trivial
theorem tw7094588519622262227:True:=trivial
theorem tw7169838710825215720:True:=trivial
theorem tw7959017661863472614:True:=trivial
theorem tw8064318159107813378:True:=trivial
theorem tw8070418581966691242:True:=trivial
theorem tw8209822839436136946:True:=trivial
theorem tw8342217340449239638:True:=trivial
theorem tw8486074861627446187:True:=trivial
theorem tw8609527668468109038:True:=trivial
theorem tw8693813751620935801:True:=trivial
theorem tw9030179756033794376:True:=trivial
theorem tw9059568694889350991:True:=trivial
theorem tw908194764393875428:True:=trivial
end PySem.W.Fast
theorem PySem.W.Fast.te8551462831559455362:True:=trivial
abbrev PySem.W.Fast.tw14149655033612729190:PySem.Program:=PySem.Challenge.pw_chairclans_k33_placed_refused
theorem PySem.W.Fast.te14149655033612729190:PySem.Challenge.pw_chairclans_k33_placed_refused=PySem.W.Fast.tw14149655033612729190:=rfl
open PySem PySem.W PyProof.Rows
set_option maxRecDepth 100000 in
set_option maxHeartbeats 0 in
theorem PySem.Challenge.cw_chairclans_k33_placed_refused_holds : PySem.Challenge.rw_chairclans_k33_placed_refused.Holds := by
 w_on;o_law;k_head;(case hw=>w_witness2)
 k_fill
 refine Law.walk (l:=PySem.Challenge.rw_chairclans_k33_placed_refused) rfl rfl rfl (fun w h Y=>PySem.W.kIn_of Y) ?F
 case F=>
  intro w mg h KX G;refine' Law.zgK KX G ?a0 ?l0 ?c0 ?k0 ?a1 ?l1 ?c1 ?k1 ?a2 ?l2 ?c2 ?k2 ?a3 ?l3 ?c3 ?k3 ?a4 ?l4 ?c4 ?k4 ?a5 ?l5 ?c5 ?k5 ?a6 ?l6 ?c6 ?k6 ?a7 ?l7 ?c7 ?k7 ?a8 ?l8 ?c8 ?k8 ?a9 ?l9 ?c9 ?k9 ?a10 ?l10 ?c10 ?k10 ?a11 ?l11 ?c11 ?k11 ?a12 ?l12 ?c12 ?k12 ?a13 ?l13 ?c13 ?k13 ?a14 ?l14 ?c14 ?k14 ?a15 ?l15 ?c15 ?k15 ?a16 ?l16 ?c16 ?k16 ?a17 ?l17 ?c17 ?k17 ?a18 ?l18 ?c18 ?k18 ?a19 ?l19 ?c19 ?k19 ?a20 ?l20 ?c20 ?k20 ?a21 ?l21 ?c21 ?k21 ?a22 ?l22 ?c22 ?k22 ?a23 ?l23 ?c23 ?k23 ?a24 ?l24 ?c24 ?k24 ?a25 ?l25 ?c25 ?k25 ?a26 ?l26 ?c26 ?k26 ?a27 ?l27 ?c27 ?k27 ?a28 ?l28 ?c28 ?k28 ?a29 ?l29 ?c29 ?k29 ?a30 ?l30 ?c30 ?k30 ?a31 ?l31 ?c31 ?k31 ?a32 ?l32 ?c32 ?k32 ?a33 ?l33 ?c33 ?k33 ?a34 ?l34 ?c34 ?k34 ?a35 ?l35 ?c35 ?k35 ?a36 ?l36 ?c36 ?k36 ?a37 ?l37 ?c37 ?k37 ?a38 ?l38 ?c38 ?k38 ?m_ClanError ?m_NoRatio ?m_NoText ?m_NoSpell ?m_NoRow ?m_NoBounds ?m_NoDistance ?m_NoClan ?m_TooLong ?m_NoRule ?m_NoLine ?m_NoNumber ?m_NoName ?m_Known ?m_TooMany ?e_NoSpell ?e_NoBounds ?e_NoRule ?k_NoSpell ?k_NoBounds ?k_NoRule ?n_ValueError ?n_abs ?n_enumerate ?n_isinstance ?n_len ?n_list ?n_min ?n_range ?n_sorted ?n_sum ?n_zip ?m_LEAST_BOUND ?q_LEAST_BOUND ?m_MOST_BOUND ?q_MOST_BOUND ?m_FIXED ?m_BARRED ?m_MOST_SPELLS ?m_MOST_CLANS ?m_MOST_TURNS
  (case a0|l0|c0|k0|a1|l1|c1|k1|a2|l2|c2|k2|a3|l3|c3|k3|a4|l4|c4|k4|a5|l5|c5|k5|a6|l6|c6|k6|a7|l7|c7|k7|a8|l8|c8|k8|a9|l9|c9|k9|a10|l10|c10|k10|a11|l11|c11|k11|a12|l12|c12|k12|a13|l13|c13|k13|a14|l14|c14|k14|a15|l15|c15|k15|a16|l16|c16|k16|a17|l17|c17|k17|a18|l18|c18|k18|a19|l19|c19|k19|a20|l20|c20|k20|a21|l21|c21|k21|a22|l22|c22|k22|a23|l23|c23|k23|a24|l24|c24|k24|a25|l25|c25|k25|a26|l26|c26|k26|a27|l27|c27|k27|a28|l28|c28|k28|a29|l29|c29|k29|a30|l30|c30|k30|a31|l31|c31|k31|a32|l32|c32|k32|a33|l33|c33|k33|a34|l34|c34|k34|a35|l35|c35|k35|a36|l36|c36|k36|a37|l37|c37|k37|a38|l38|c38|k38|m_ClanError|m_NoRatio|m_NoText|m_NoSpell|m_NoRow|m_NoBounds|m_NoDistance|m_NoClan|m_TooLong|m_NoRule|m_NoLine|m_NoNumber|m_NoName|m_Known|m_TooMany=>k_is)
  (case e_NoSpell|e_NoBounds|e_NoRule=>k_exc)
  (case k_NoSpell|k_NoBounds|k_NoRule=>exact⟨⟨by k_is,by k_is,by k_is,by k_is,by k_is,by k_is⟩,by kts_exm,by kit_is,by kit_is,by kit_is,by kit_is,by kit_is,by kit_is⟩)
  (case n_ValueError|n_abs|n_enumerate|n_isinstance|n_len|n_list|n_min|n_range|n_sorted|n_sum|n_zip|m_LEAST_BOUND|q_LEAST_BOUND|m_MOST_BOUND|q_MOST_BOUND|m_FIXED|m_BARRED|m_MOST_SPELLS|m_MOST_CLANS|m_MOST_TURNS=>k_is)