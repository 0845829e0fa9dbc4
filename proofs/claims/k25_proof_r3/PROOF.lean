import PyProof.Rows.All
import Wide.All
import OpenK.AllK
import Wide.FinOn
import Lean
import PyProof.EqAt
import PyProof.EqKinds
import PyProof.TupleCall
import PySem.Challenge.RW_chairclans_k25_a_row_that_comes_round
set_option maxHeartbeats 4000000
set_option maxHeartbeats 4000000
local macro_rules | `(tactic| omega)=>`(tactic| first | lia | omega +splitDisjunctions | (dsimp only;omega +splitDisjunctions))
local macro_rules|`(#[0])=>`(by omega)|`(#[1])=>`(by decide)|`(#[2])=>`(by walk_at "o")|`(#[3])=>`(by decide +kernel)|`(#[4])=>`(fun _ _=>rfl)|`(#[5,$x])=>`(some (.sh true (.int $x)))|`(#[6])=>`(by simp;omega)|`(#[8,$x])=>`($x $(Lean.mkIdent `P) $(Lean.mkIdent `w) $(Lean.mkIdent `K) $(Lean.mkIdent `mg) $(Lean.mkIdent `base))
noncomputable section
abbrev Waa:=@PyProof.Rows.slot_tuple_getitem
abbrev Wab:=@Int.gcd_pos_of_ne_zero_right
abbrev Wac:=@Int.lt_ediv_add_one_mul_self
abbrev Wad:=@PyProof.Rows.callWith_type1
abbrev Wae:=@Int.eq_of_mul_eq_mul_right
abbrev Waf:=@List.nodup_iff_pairwise_ne
abbrev Wag:=@Int.lt_of_mul_lt_mul_right
abbrev Wah:=@List.drop_eq_getElem_cons
abbrev Wai:=@List.pairwise_iff_getElem
abbrev Waj:=@List.getElem?_zip_eq_some
abbrev Wak:=@List.mem_or_eq_of_mem_set
abbrev Wal:=@Option.isSome_iff_exists
abbrev Wam:=@List.getElem?_take_of_lt
abbrev Wan:=@List.eq_of_mem_replicate
abbrev Wao:=@PySem.F.plainAttrs_list
abbrev Wap:=@List.length_eq_zero_iff
abbrev Waq:=@Int.eq_ofNat_of_zero_le
abbrev War:=@PySem.W.cellsFrom_some
abbrev Was:=@List.take_of_length_le
abbrev Wat:=@List.drop_eq_nil_of_le
abbrev Wau:=@List.getElem_cons_drop
abbrev Wav:=@Array.getElem?_toList
abbrev Waw:=@List.getElem?_eq_none
abbrev Wax:=@List.take_append_drop
abbrev Way:=@List.eq_nil_or_concat
abbrev Waz:=@List.concat_eq_append
abbrev WaA:=@Array.toList_extract
abbrev WaB:=@PySem.mem_of_lookup
abbrev WaC:=@Nat.sub_lt_sub_left
abbrev WaD:=@PySem.Heap.SameBut.update
abbrev WaE:=@Array.append_assoc
abbrev WaF:=@Nat.lt_of_le_of_lt
abbrev WaG:=@Bool.false_eq_true
abbrev WaH:=@Array.getElem?_map
abbrev WaI:=@List.filter_append
abbrev WaJ:=@PySem.PyData.tuple.injEq
abbrev WaK:=@Bool.true_eq_false
abbrev WaL:=@PySem.W.mg_none_of
abbrev WaM:=@Bool.not_eq_true'
abbrev WaN:=@Option.some.injEq
abbrev WaO:=@Nat.lt_succ_of_lt
abbrev WaP:=@Nat.succ_le_of_lt
abbrev WaQ:=@List.nodup_append
abbrev WaR:=@List.foldl_append
abbrev WaS:=@List.take_add_one
abbrev WaT:=@Array.toList_push
abbrev WaU:=@Array.map_reverse
abbrev WaV:=@PySem.Heap.get?_push_ne
abbrev WaW:=@List.pairwise_map
abbrev WaX:=@Int.gcd_dvd_right
abbrev WaY:=@Int.dvd_mul_right
abbrev WaZ:=@Int.mul_left_comm
abbrev Wa0:=@PySem.PyData.bool.injEq
abbrev Wa1:=@PySem.PyData.list.injEq
abbrev Wa2:=@PySem.PassesOwn.leaving
abbrev Wa3:=@List.getElem_inj
abbrev Wa4:=@Nat.lt_succ_self
abbrev Wa5:=@List.length_take
abbrev Wa6:=@List.all_eq_true
abbrev Wa7:=@List.drop_length
abbrev Wa8:=@Array.map_append
abbrev Wa9:=@PySem.Heap.size_update
abbrev Wba:=@Int.gcd_dvd_left
abbrev Wbb:=@List.mem_flatten
abbrev Wbc:=@PySem.PyData.int.injEq
abbrev Wbd:=@PySem.PyData.str.injEq
abbrev Wbe:=@Option.some.inj
abbrev Wbf:=@Int.ediv_nonneg
abbrev Wbg:=@PySem.W.kia_one
abbrev Wbh:=@List.length_zip
abbrev Wbi:=@List.range_succ
abbrev Wbj:=@List.cons.injEq
abbrev Wbk:=@List.sum_append
abbrev Wbl:=@List.map_const'
abbrev Wbm:=@PySem.Heap.size_push
abbrev Wbn:=@Array.size_map
abbrev Wbo:=@List.Perm.refl
abbrev Wbp:=@List.mem_cons
abbrev Wbq:=@Bool.or_false
abbrev Wbr:=@Bool.true_and
abbrev Wbs:=@Bool.false_or
abbrev Wbt:=@Bool.and_self
abbrev Wbu:=@Int.dvd_trans
abbrev Wbv:=@Int.le_of_dvd
abbrev Wbw:=@Int.mul_assoc
abbrev Wbx:=@Bool.and_true
abbrev Wby:=@PySem.W.mg_of
abbrev Wbz:=@Nat.le_of_lt
abbrev WbA:=@Nat.ne_of_gt
abbrev WbB:=@List.map_nil
abbrev WbC:=@Nat.zero_add
abbrev WbD:=@Nat.sub_self
abbrev WbE:=@Int.le_of_lt
abbrev WbF:=@Int.mul_comm
abbrev WbG:=@Bool.or_true
abbrev WbH:=@Nat.zero_le
abbrev WbI:=@Int.add_mul
abbrev WbJ:=@Int.le_refl
abbrev WbK:=@Int.sub_mul
abbrev WbL:=@Int.one_mul
abbrev WbM:=@Ne.symm
abbrev Yaa:=@List.mem_append_right
abbrev Yab:=@List.getElem?_append_left
abbrev Yac:=@List.getElem?_set_ne
abbrev Yad:=@List.getElem?_replicate
abbrev Yae:=@List.getElem?_append_right
abbrev Yaf:=@Nat.ne_of_lt
abbrev Yag:=@List.append_assoc
abbrev Yah:=@List.mem_of_getElem?
abbrev Yai:=@List.mem_append_left
abbrev Yaj:=@Array.getD_eq_getD_getElem?
abbrev Yak:=@Bool.and_eq_true
abbrev Yal:=@Bool.false_ne_true
abbrev Yam:=@List.getElem_of_mem
abbrev Yan:=@PySem.Heap.get?_push_size
abbrev Yao:=@List.append_nil
abbrev Yap:=@Nat.lt_irrefl
abbrev Yaq:=@Array.map_extract
abbrev Yar:=@Array.toList_append
abbrev Yas:=@List.getElem?_set_self
abbrev Yat:=@List.map_congr_left
abbrev Yau:=@Int.mul_le_mul_of_nonneg_left
abbrev Yav:=@List.take_succ_eq_append_getElem
abbrev Yaw:=@Int.ediv_mul_cancel
abbrev Yax:=@List.getElem?_range
abbrev Yay:=@Int.natAbs_ediv_le_natAbs
abbrev Yaz:=@List.map_replicate
abbrev YaB:=@List.nodup_cons
abbrev YaC:=@List.pairwise_cons
abbrev YaD:=@List.map_map
abbrev YaF:=@Int.le_of_mul_le_mul_right
abbrev YaG:=@List.length_range
abbrev YaH:=@List.take_length
abbrev YaJ:=@Option.map_eq_some_iff
abbrev YaK:=@Int.mul_nonneg
abbrev YaN:=@List.length_set
abbrev YaP:=@List.getD_eq_getElem?_getD
abbrev YaQ:=@List.getElem?_eq_getElem
abbrev YaR:=@List.length_map
abbrev YaS:=@List.length_append
abbrev YaT:=@List.mem_cons_of_mem
abbrev YaU:=@Nat.lt_of_lt_of_le
abbrev YaV:=@List.mem_cons_self
abbrev YaW:=@PySem.Heap.get?_push_of_some
abbrev YaX:=@PySem.Heap.lt_size
abbrev YaY:=@Nat.le_refl
abbrev YaZ:=@List.size_toArray
abbrev Ya0:=@List.getElem?_map
abbrev Ya1:=@List.map_cons
abbrev Ya2:=@List.map_append
abbrev Ya3:=@List.mem_append
abbrev Ya4:=@List.getElem_mem
abbrev Ya5:=@Nat.le_trans
abbrev Ya6:=@List.mem_singleton
abbrev Ya7:=@List.mem_map
abbrev Ya8:=@List.getElem?_eq_some_iff
abbrev Ya9:=@List.mem_filter
abbrev Yba:=@List.mem_range
abbrev Ybb:=@List.length_replicate
abbrev Ybc:=@Int.emod_nonneg
abbrev Ybd:=@Int.emod_lt_of_pos
abbrev Ybe:=@Int.mul_le_mul_of_nonneg_right
abbrev Ybf:=PySem.W.Frag
section
set_option Elab.async false
set_option linter.all false
set_option maxRecDepth 100000
namespace L2
open PySem PySem.Spec PyProof.Rows
abbrev Key:=Sum Int Str
def Zf:Key->Value->Bool
 | .inl k,v=>Value.isInt k v
 | .inr x,v=>Value.isStrOf x v
def keyH(w:World):Key->Int
 | .inl k=>hashInt k
 | .inr x=>hashStr w x
theorem jY:∀ {k:Key} {v:Value},Zf k v=true->(∃ i t,k=Sum.inl i/\v=Value.int i t)\/(∃ x t,k=Sum.inr x/\v=Value.str x t)
 | .inl i, v, h => by
  obtain⟨t,e⟩:=Value.isInt_shape (k:=i) (v:=v) h;exact .inl ⟨i,t,rfl,e⟩
 | .inr x, v, h => by
  obtain⟨t,e⟩:=Value.isStrOf_shape (x:=x) (v:=v) h;exact .inr ⟨x,t,rfl,e⟩
theorem ziE(i:Int)(t:Tok):Zf (.inl i) (.int i t)=true:=by simp [Zf,Value.isInt]
theorem zku(x:Str)(t:Tok):Zf (.inr x) (.str x t)=true:=by simp [Zf,Value.isStrOf]
theorem zl3(a b:Int):decide ((Sum.inl a:Key)=Sum.inl b)=(a==b):=by
 by_cases e:a=b
 . subst e;simp
 . have h:¬(Sum.inl a:Key)=Sum.inl b:=fun q=>e (Sum.inl.inj q)
   rw [decide_eq_false h];exact(beq_eq_false_iff_ne.mpr e).symm
theorem zjQ(a b:Str):decide ((Sum.inr a:Key)=Sum.inr b)=decide (a=b):=by
 by_cases e:a=b
 . subst e;simp
 . have h:¬(Sum.inr a:Key)=Sum.inr b:=fun q=>e (Sum.inr.inj q)
   rw [decide_eq_false h,decide_eq_false e]
theorem zhu(a:Int)(b:Str):decide ((Sum.inl a:Key)=Sum.inr b)=false:=decide_eq_false (fun q=>nomatch q)
theorem zi6(a:Str)(b:Int):decide ((Sum.inr a:Key)=Sum.inl b)=false:=decide_eq_false (fun q=>nomatch q)
def z9(prog:Program)(w:World):PySem.KeyKind prog w Key where
 is:=Zf
 hash:=keyH w
 inj:=fun v a b ha hb=>by
  rcases jY ha with ⟨i,t,rfl,rfl⟩|⟨x,t,rfl,rfl⟩
  . rcases jY hb with ⟨j,u,rfl,e⟩|⟨y,u,rfl,e⟩
    . injection e with e1 _;rw [e1]
    . exact nomatch e
  . rcases jY hb with ⟨j,u,rfl,e⟩|⟨y,u,rfl,e⟩
    . exact nomatch e
    . injection e with e1 _;rw [e1]
 byValue:=fun k v h=>by
  rcases jY h with ⟨i,t,rfl,rfl⟩|⟨x,t,rfl,rfl⟩<;>rfl
 pyHash:=fun hv h=>by
  rcases jY hv with ⟨i,t,rfl,rfl⟩|⟨x,t,rfl,rfl⟩
  . exact wpAny_pyHash_int h
  . exact wpAny_pyHash_str h
 eqBool:=fun hu hv h=>by
  rcases jY hu with ⟨i,t,rfl,rfl⟩|⟨x,t,rfl,rfl⟩
  . rcases jY hv with ⟨j,u,rfl,rfl⟩|⟨y,u,rfl,rfl⟩
    . rw [zl3] at h;exact wpAny_eqBool_int h
    . rw [zhu] at h;exact SeqAt.EqAt.int_str i t y u _ _ _ _ h
  . rcases jY hv with ⟨j,u,rfl,rfl⟩|⟨y,u,rfl,rfl⟩
    . rw [zi6] at h;exact SeqAt.EqAt.str_int x t j u _ _ _ _ h
    . rw [zjQ] at h;exact wpAny_eqBool_str h
 «strs»:=fun k x t v h=>by
  rcases jY h with ⟨i,u,rfl,e⟩|⟨y,u,rfl,e⟩
  . exact nomatch e
  . injection e with e1 _
    subst e1;cases v<;>rfl
theorem zhA(prog:Program)(w:World)(i:Int)(t:Tok):(z9 prog w).is (.inl i) (.int i t)=true:=ziE i t
theorem zgr(prog:Program)(w:World)(x:Str)(t:Tok):(z9 prog w).is (.inr x) (.str x t)=true:=zku x t
inductive V where
 | non|bl (b:Bool)|int (i:Int)|str (x:Str)|byt (b:Array UInt8)|flt (b:UInt64)|ref (a:Addr)|ty (n:String)
 deriving DecidableEq
def RelV:V->Value->Prop
 | .non,u=>u=Value.none
 | .bl b,u=>u=Value.bool b
 | .int i,u=>∃ t,u=Value.int i t
 | .str x,u=>∃ t,u=Value.str x t
 | .byt b,u=>∃ t,u=Value.bytes b t
 | .flt b,u=>∃ t,u=Value.float b t
 | .ref a,u=>u=Value.ref a
 | .ty n,u=>u=Value.type n
abbrev Vals:List V->List Value->Prop:=Paired RelV
theorem Vals.length{xs:List V}{us:List Value}(r:Vals xs us):xs.length=us.length:=Paired.length r
theorem Vals.get:∀ {xs:List V} {us:List Value} {i:Nat} {x:V},Vals xs us->xs[i]?=some x->∃ u,us[i]?=some u/\RelV x u
 | _,_,_,_,.nil,e=>by simp at e
 | _,_,0,_,.cons r _,e=>by simp at e;subst e;exact⟨_,rfl,r⟩
 | _, _, i + 1, x, .cons _ t, e => by
  obtain⟨u,h1,h2⟩:=Vals.get (i:=i) (x:=x) t (by simpa using e)
  exact⟨u,by simpa using h1,h2⟩
theorem Vals.set{x:V}{u:Value}(r:RelV x u):∀ {xs:List V} {us:List Value} (i:Nat),Vals xs us->Vals (xs.set i x) (us.set i u)
 | _,_,_,.nil=>.nil
 | _,_,0,.cons _ t=>.cons r t
 | _,_,i+1,.cons q t=>.cons q (Vals.set r i t)
theorem Vals.append:∀ {xs ys:List V} {us ws:List Value},Vals xs us->Vals ys ws->Vals (xs++ys) (us++ws)
 | _,_,_,_,.nil,s=>s
 | _,_,_,_,.cons r t,s=>.cons r (Vals.append t s)
theorem Vals.take:∀ {xs:List V} {us:List Value} (n:Nat),Vals xs us->Vals (xs.take n) (us.take n)
 | _,_,0,_=>.nil
 | _,_,_+1,.nil=>.nil
 | _,_,n+1,.cons r t=>.cons r (Vals.take n t)
theorem Vals.drop:∀ {xs:List V} {us:List Value} (n:Nat),Vals xs us->Vals (xs.drop n) (us.drop n)
 | _,_,0,r=>r
 | _,_,_+1,.nil=>.nil
 | _,_,n+1,.cons _ t=>Vals.drop n t
theorem Vals.none_of:∀ {xs:List V} {us:List Value} {i:Nat},Vals xs us->xs[i]?=none->us[i]?=none:=fun {xs us i} r e=>by
 have h1:=r.length;have h2:xs.length<=i:=List.getElem?_eq_none_iff.mp e;exact List.getElem?_eq_none_iff.mpr #[0]
def RelO:Option V->Option Value->Prop
 | some v,some u=>RelV v u
 | none,none=>True
 | _,_=>False
def KV{κ : Type}:List (κ×V)->List (κ×Value)->Prop:=Paired fun(p:κ×V) (q:κ×Value)=>p.1=q.1/\RelV p.2 q.2
def kV:Key->V
 | .inl i=>.int i
 | .inr x=>.str x
inductive HO where
 | lst (xs:List V)
 | tup (xs:List V)
 | dK (kvs:List (Key×V))|dT (kvs:List (List Key×V))
 | set (S:Int->Bool) (n:Nat)
 | ins (C dx:Addr) (fs:List (Str×V))
 | own (x:Addr)
 | xd (fs:List (Str×V))
 | met (f x:Addr)
 | rng (lo hi:Int)
 | frz (o:Obj) (u:HO)
 | tbl (ps:Array Value)
 | ext (φ : Heap->Prop)
abbrev Hp:=Addr->Option HO
def upd(H:Hp)(a:Addr)(o:HO):Hp:=fun b=>if b=a then some o else H b
theorem zo{H:Hp}{a:Addr}{o:HO}:upd H a o a=some o:=by unfold upd;rw [if_pos rfl]
theorem zg{H:Hp}{a b:Addr}{o:HO}(h:b≠a):upd H a o b=H b:=by unfold upd;rw [if_neg h]
theorem zk6{H:Hp}{a b:Addr}{o u:HO}(h:H a=some o)(h':H b=some u)(d:o≠u):a≠b:=by
 intro e;subst e;rw [h] at h';exact d (Wbe h')
theorem zS{H:Hp}{a b:Addr}{o:HO}(h:H a=some o)(h':H b=none):a≠b:=by
 intro e;subst e;rw [h] at h';cases h'
section
variable(P:Program)(w:World)
def zK(H:Hp)(h:Heap)(a:Addr):HO->Prop
 | .lst xs=>xs.length<=sizeLine/\∃ (its:List Value) (n:Nat),Vals xs its/\h.get? a=some { cls:=.type "list", data:=.seq its.toArray n }
 | .tup xs=>xs.length<=sizeLine/\∃ its:List Value,Vals xs its/\IsTup h a its.toArray
 | .dK kvs=>kvs.length<=sizeLine/\(a==sysModules)=false/\∃ vs,KV kvs vs/\h.DictOf (z9 P w) a vs
 | .dT kvs => kvs.length <= sizeLine /\ (a == sysModules) = false /\ ∃ xs : List (List Key × Addr × Value),
  Paired (fun(p:List Key×V) (q:List Key×Addr×Value)=>p.1=q.1/\H q.2.1=some (.tup (p.1.map kV))/\RelV p.2 q.2.2) kvs xs/\
  ∃ o es ep,h.get? a=some o/\o.ExactDict/\o.data=.dict es ep/\es.toList=xs.map (entryOfKey (tupleKind (z9 P w)))/\(xs.map (·.1)).Nodup
 | .set S n=>h.SetOf (intKind P w) a S n
 | .ins C dx fs => H dx = some (.own a) /\ fs.length <= 1000 /\ dx ≠ a /\ h.get? a = some (PySem.W.instObj C dx) /\
  ∃ mA,h.Ns1 dx mA/\(∀ f,RelO (fs.lookup f) (mA f))/\PySem.Within mA (fs.map (·.1))
 | .own _=>∃ o,h.get? a=some o
 | .xd fs=>∃ mA,h.Ns1 a mA/\∀ f,RelO (fs.lookup f) (mA f)
 | .rng lo hi=>∃ t u v,h.get? a=some { cls:=.type "range", data:=.fields #[.int lo t,.int hi u,.int 1 v] }
 | .frz o u=>h.get? a=some o/\zK H h a u
 | .tbl ps=>h.get? a=some { cls:=.none,data:=.fields ps }
 | .met f x=>h.get? a=some (PySem.W.methodObj (.ref f) (.ref x))
 | .ext φ=>φ h/\(∃ o,h.get? a=some o)/\∀ h1 h2:Heap,φ h1->(∀ o,h1.get? a=some o->h2.get? a=some o)->φ h2
def HOk(H:Hp)(h:Heap):Prop:=∀ a o,H a=some o->zK P w H h a o
end
section
variable{P:Program}{w:World}{H H':Hp}{h h':Heap}{a:Addr}{o:HO}
theorem zK.lt(x:zK P w H h a o):a<h.objs.size:=by
 cases o with
 | lst xs=>obtain⟨_,_,_,_,e⟩:=x;exact YaX e
 | tup xs=>obtain⟨_,_,_,p⟩:=x;exact p.lt
 | dK kvs=>obtain⟨_,_,_,_,o,_,_,e,_⟩:=x;exact YaX e
 | dT kvs=>obtain⟨_,_,_,_,o,_,_,e,_⟩:=x;exact YaX e
 | set S n=>obtain⟨o,_,_,_,e,_⟩:=x;exact YaX e
 | ins C dx fs=>obtain⟨_,_,_,e,_⟩:=x;exact YaX e
 | own y=>obtain⟨_,e⟩:=x;exact YaX e
 | xd fs=>obtain⟨_,⟨_,_,_,e,_⟩,_⟩:=x;exact YaX e
 | rng lo hi=>obtain⟨_,_,_,e⟩:=x;exact YaX e
 | frz ob u=>obtain⟨e,_⟩:=x;exact YaX e
 | tbl ps=>exact YaX (show h.get? a=some _ from x)
 | met f y=>exact YaX (show h.get? a=some _ from x)
 | ext φ=>obtain⟨_,⟨_,e⟩,_⟩:=x;exact YaX e
theorem Paired.mapP{α β : Type}{F G:α->β->Prop}:∀ {l₁ : List α} {l₂ : List β},Paired F l₁ l₂->(∀ a b,F a b->G a b)->Paired G l₁ l₂
 | _,_,.nil,_=>.nil
 | _,_,.cons r t,f=>.cons (f _ _ r) (Paired.mapP t f)
theorem zK.stay(x:zK P w H h a o)(k:∀ b u,(b=a\/H b=some (.own a))->h.get? b=some u->h'.get? b=some u)
 (ho:∀ b,H b=some (.own a)->H' b=some (.own a)) (ht:∀ b xs,H b=some (.tup xs)->H' b=some (.tup xs)):zK P w H' h' a o:=by
 induction o with
 | lst xs=>obtain⟨z,its,n,r,e⟩:=x;exact⟨z,its,n,r,k _ _ (.inl rfl) e⟩
 | tup xs=>obtain⟨z,its,r,ob,e,c⟩:=x;exact⟨z,its,r,ob,k _ _ (.inl rfl) e,c⟩
 | dK kvs=>obtain⟨z,y,vs,r,ob,es,ep,e,c⟩:=x;exact⟨z,y,vs,r,ob,es,ep,k _ _ (.inl rfl) e,c⟩
 | dT kvs=>
  obtain⟨z,y,xs,r,ob,es,ep,e,c⟩:=x;exact⟨z,y,xs,Paired.mapP r fun p q z=>⟨z.1,ht _ _ z.2.1,z.2.2⟩,ob,es,ep,k _ _ (.inl rfl) e,c⟩
 | set S n=>obtain⟨ob,es,ep,t,e,c⟩:=x;exact⟨ob,es,ep,t,k _ _ (.inl rfl) e,c⟩
 | ins C dx fs=>
  obtain⟨d,z,ne,e,mA,⟨od,es,ep,e2,c⟩,r⟩:=x;exact⟨ho _ d,z,ne,k _ _ (.inl rfl) e,mA,⟨od,es,ep,k _ _ (.inr d) e2,c⟩,r⟩
 | own y=>obtain⟨ob,e⟩:=x;exact⟨ob,k _ _ (.inl rfl) e⟩
 | xd fs=>obtain⟨mA,⟨od,es,ep,e,c⟩,r⟩:=x;exact⟨mA,⟨od,es,ep,k _ _ (.inl rfl) e,c⟩,r⟩
 | rng lo hi=>obtain⟨t,u,v,e⟩:=x;exact⟨t,u,v,k _ _ (.inl rfl) e⟩
 | frz ob u ih=>obtain⟨e,q⟩:=x;exact⟨k _ _ (.inl rfl) e,ih q⟩
 | tbl ps=>
  have e:h.get? a=some { cls:=.none,data:=.fields ps }:=x;show h'.get? a=some { cls:=.none,data:=.fields ps };exact k a _ (.inl rfl) e
 | met f y=>
  have e:h.get? a=some (PySem.W.methodObj (.ref f) (.ref y)):=x;show h'.get? a=some (PySem.W.methodObj (.ref f) (.ref y));exact k a _ (.inl rfl) e
 | ext φ=>obtain⟨p,⟨o,e⟩,st⟩:=x;exact⟨st _ _ p fun o q=>k _ _ (.inl rfl) q,⟨o,k _ _ (.inl rfl) e⟩,st⟩
theorem HOk.lt(x:HOk P w H h)(e:H a=some o):a<h.objs.size:=(x a o e).lt
theorem HOk.fresh(x:HOk P w H h)(e:h.objs.size<=a):H a=none:=by
 cases q:H a with
 | none=>rfl
 | some u=>exact absurd (YaU (x.lt q) e) (Yap _)
theorem HOk.kept(x:HOk P w H h)(k:∀ b u,h.get? b=some u->h'.get? b=some u):HOk P w H h':=fun a o e=>
 (x a o e).stay (fun b u _ q=>k b u q) (fun _ q=>q) fun _ _ q=>q
theorem HOk.laid(x:HOk P w H h)(k:∀ b u,h.get? b=some u->h'.get? b=some u)(hp:h.objs.size<=a)(new:zK P w (upd H a o) h' a o):HOk P w (upd H a o) h':=fun b u e=>by
 have hn:=x.fresh hp
 by_cases hb:b=a
 . subst hb;rw [zo] at e;cases e;exact new
 . rw [zg hb] at e
   exact(x b u e).stay (fun c v _ q=>k c v q) (fun c q=>by rw [zg (zS q hn)];exact q) fun c xs q=>by rw [zg (zS q hn)];exact q
end
def Rd(H:Hp)(a:Addr)(u:HO):Prop:=H a=some u\/∃ o,H a=some (.frz o u)
theorem Rd.of{H:Hp}{a:Addr}{u:HO}(h:H a=some u):Rd H a u:=.inl h
theorem Rd.ok{P:Program}{w:World}{H:Hp}{h:Heap}{a:Addr}{u:HO}(r:Rd H a u)(x:HOk P w H h):zK P w H h a u:=by
 rcases r with r|⟨o,r⟩
 . exact x a u r
 . obtain⟨_,q⟩:=x a _ r
   exact q
def Mut:Option HO->Prop
 | some (.lst _)=>True
 | some (.dK _)=>True
 | some (.dT _)=>True
 | some (.set _ _)=>True
 | some (.ins _ _ _)=>True
 | some (.ext _)=>True
 | _=>False
section
variable{P:Program}{w:World}{H:Hp}{h h':Heap}{x e:Addr}{o':HO}
theorem HOk.write(ok:HOk P w H h)(mu:Mut (H x))(he:e=x\/H e=some (.own x))(k:∀ b u,b≠e->h.get? b=some u->h'.get? b=some u)(heo:∃ u,h'.get? e=some u)
 (new:zK P w (upd H x o') h' x o'):HOk P w (upd H x o') h':=fun b u q=>by
 have nown:∀ c y,H c=some (.own y)->c≠x:=fun c y r z=>by subst z;rw [r] at mu;exact mu
 have ntup:∀ c xs,H c=some (.tup xs)->c≠x:=fun c xs r z=>by subst z;rw [r] at mu;exact mu
 by_cases hb:b=x
 . subst hb;rw [zo] at q;cases q;exact new
 . rw [zg hb] at q
   by_cases hbe:b=e
   . have q':H b=some (.own x):=by
      rcases he with z|z
      . exact absurd (hbe.trans z) hb
      . rw [hbe];exact z
     rw [q] at q';cases q';obtain⟨v,hv⟩:=heo;exact⟨v,by rw [hbe];exact hv⟩
   . refine(ok b u q).stay (fun c v hc r=>k c v ?_ r) (fun c r=>by rw [zg (nown c b r)];exact r) fun c xs r=>by rw [zg (ntup c xs r)];exact r
     rcases hc with rfl|hc
     . exact hbe
     . rintro rfl
       rcases he with z|z
       . exact nown c b hc z
       . rw [hc] at z;cases z;exact hb rfl
end
structure Un(fs ex:List Addr)(H H':Hp)(h h':Heap):Prop where
 keep:∀ b o,h.get? b=some o->H b=none->b∉fs->b∉ex->h'.get? b=some o
 slot:∀ b o,h.get? b=some o->H b=none->b∈fs->b∉ex->∃ sl,h'.get? b=some { o with slots:=sl }
 free:∀ b o,h.get? b=some o->H b=none->b∉ex->H' b=none
 there:∀ b o,h.get? b=some o->b∉ex->∃ o',h'.get? b=some o'
 tups:∀ b xs,H b=some (.tup xs)->H' b=some (.tup xs)
 frzs:∀ b o u,H b=some (.frz o u)->H' b=some (.frz o u)
 tbls:∀ b ps,H b=some (.tbl ps)->∃ more,H' b=some (.tbl (ps++more))
section
variable{fs fs' ex ex':List Addr}{H H1 H2:Hp}{h h1 h2 h':Heap}{a x e:Addr}{o:HO}
theorem Un.any(u:Un fs ex H H1 h h1){b:Addr}{ob:Obj}(q:h.get? b=some ob)(n:H b=none)(hx:b∉ex):∃ sl,h1.get? b=some { ob with slots:=sl }:=by
 by_cases hb:b∈fs
 . exact u.slot b ob q n hb hx
 . exact⟨ob.slots,u.keep b ob q n hb hx⟩
theorem Un.trans(a:Un fs ex H H1 h h1)(b:Un fs ex H1 H2 h1 h2):Un fs ex H H2 h h2 where
 keep:=fun c ob q n hc hx=>b.keep c ob (a.keep c ob q n hc hx) (a.free c ob q n hx) hc hx
 slot:=fun c ob q n hc hx=>by
  obtain⟨sl,e1⟩:=a.slot c ob q n hc hx;obtain⟨sl',e2⟩:=b.slot c _ e1 (a.free c ob q n hx) hc hx;exact⟨sl',e2⟩
 free:=fun c ob q n hx=>by
  obtain⟨o',e1⟩:=a.there c ob q hx;exact b.free c o' e1 (a.free c ob q n hx) hx
 there:=fun c ob q hx=>by
  obtain⟨o',e1⟩:=a.there c ob q hx;exact b.there c o' e1 hx
 tups:=fun c xs q=>b.tups c xs (a.tups c xs q)
 frzs:=fun c ob xs q=>b.frzs c ob xs (a.frzs c ob xs q)
 tbls:=fun c ps q=>by
  obtain⟨m1,e1⟩:=a.tbls c ps q;obtain⟨m2,e2⟩:=b.tbls c _ e1;exact⟨m1++m2,by rw [e2,WaE]⟩
theorem Un.kept(k:∀ b u,h.get? b=some u->h'.get? b=some u):Un fs ex H H h h':=
 ⟨fun b ob q _ _ _=>k b ob q,fun b ob q _ _ _=>⟨ob.slots,k b ob q⟩,fun _ _ _ n _=>n,fun b ob q _=>⟨ob,k b ob q⟩,fun _ _ q=>q,fun _ _ _ q=>q,fun _ ps q=>⟨#[],by rw [q];simp⟩⟩
theorem Un.refl:Un fs ex H H h h:=Un.kept fun _ _ q=>q
theorem Un.laid(k:∀ b u,h.get? b=some u->h'.get? b=some u)(hp:h.objs.size<=a)(hn:H a=none):Un fs ex H (upd H a o) h h' where
 keep:=fun b u q _ _ _=>k b u q
 slot:=fun b u q _ _ _=>⟨u.slots,k b u q⟩
 free:=fun b u q n _=>by rw [zg (Yaf (YaU (YaX q) hp))];exact n
 there:=fun b u q _=>⟨u,k b u q⟩
 tups:=fun b xs q=>by rw [zg (zS q hn)];exact q
 frzs:=fun b u xs q=>by rw [zg (zS q hn)];exact q
 tbls:=fun b ps q=>⟨#[],by rw [zg (zS q hn),q];simp⟩
theorem Un.write(mu:Mut (H x))(he:e=x\/H e=some (.own x))(k:∀ b u,b≠e->h.get? b=some u->h'.get? b=some u)(heo:∃ u,h'.get? e=some u):Un fs ex H (upd H x o) h h':=by
 have hx:∀ b,H b=none->b≠x:=fun b n z=>by subst z;rw [n] at mu;exact mu
 have hb:∀ b,H b=none->b≠e:=fun b n z=>by
  subst z
  rcases he with r|r
  . exact hx b n r
  . rw [n] at r;cases r
 have hm:∀ b u,H b=some u->¬Mut (some u)->b≠x:=fun b u q nm z=>by subst z;rw [q] at mu;exact nm mu
 refine⟨fun b u q n _ _=>k b u (hb b n) q,fun b u q n _ _=>⟨u.slots,k b u (hb b n) q⟩,fun b u q n _=>by rw [zg (hx b n)];exact n,fun b u q _=>?_,
  fun b xs q=>by rw [zg (hm b _ q fun z=>z)];exact q,fun b u xs q=>by rw [zg (hm b _ q fun z=>z)];exact q,fun b ps q=>⟨#[],by rw [zg (hm b _ q fun z=>z),q];simp⟩⟩
 by_cases hbe:b=e
 . subst hbe;exact heo
 . exact⟨u,k b u hbe q⟩
theorem Un.mono(u:Un fs ex H H1 h h1)(hs:∀ b∈fs,b∈fs')(hx:∀ b∈ex,b∈ex'):Un fs' ex' H H1 h h1:=
 ⟨fun b ob q n hb he=>u.keep b ob q n (fun z=>hb (hs b z)) fun z=>he (hx b z),fun _ _ q n _ he=>u.any q n fun z=>he (hx _ z),fun b ob q n he=>u.free b ob q n fun z=>he (hx b z),fun b ob q he=>u.there b ob q fun z=>he (hx b z),u.tups,u.frzs,u.tbls⟩
end
def trk(h:Heap)(H:Hp):List Addr:=(List.range h.objs.size).filter fun a=>(H a).isSome
def hidT(h:Heap)(H:Hp):Heap:=PySem.W.hideAll h (trk h H)
theorem zg1(h:Heap)(H:Hp):(hidT h H).objs.size=h.objs.size:=PySem.W.hideAll_size _ _
theorem zk1{h:Heap}{H:Hp}{b:Addr}{o:Obj}(e:h.get? b=some o)(n:H b=none):(hidT h H).get? b=some o:=
 PySem.W.hideAll_get _ e fun hm=>by
  have q:(H b).isSome=true:=(Ya9.mp hm).2;rw [n] at q;simp at q
theorem zjt{h:Heap}{H:Hp}{b:Addr}{o:Obj}(e:(hidT h H).get? b=some o):h.get? b=some o/\H b=none:=by
 have e':h.get? b=some o:=PySem.W.of_hideAll (trk h H) e;refine⟨e',?_⟩;cases q:H b with
 | none=>rfl
 | some x=>
  have hm:b∈trk h H:=Ya9.mpr ⟨Yba.mpr (YaX e'),by simp [q]⟩
  have z:(hidT h H).get? b=none:=PySem.W.hideAll_none (trk h H) hm;rw [z] at e;cases e
def zmF(g h:Heap)(L:Addr):List (Addr×Obj):=(List.range h.objs.size).filterMap fun a=>if a=L\/(g.get? a).isSome=true then none else(h.get? a).map fun o=>(a,o)
def rest(g h:Heap)(L d:Addr):List (Addr×Obj):=(zmF g h L).filter fun p=>decide (p.1≠d)
structure Mod(K:Ybf)(mg:Str->Option Value)(base:Heap):Prop where
 kin:K.In base
 glob:base.Ns mainGlobals mg
 blt:∃ mb,base.Ns builtinsNs mb/\∀ x:Str,x≠"__name__"->mb x=bootBuiltins x
 nolimit:base.NoLimit
structure Cx where
 prog:Program
 w:World
 K:Ybf
 mg:Str->Option Value
 base:Heap
 A:Around
 N:List Str
 s₀ : Shared
 H₀ : Hp
 env:Env
 outer:List Env
 stack:List Env
 ex:List Addr
 fn:Str->Bool
 calm:Bool
 pn:List (Addr×Obj)
 xe:Value->Shared->Prop
def frs(l:List Env):List Addr:=l.filterMap (·.frame)
abbrev Cx.fs(X:Cx):List Addr:=frs X.outer
def Vis(sc:Scope)(x:Str):Prop:=sc.names.lookup x=some .local\/sc.names.lookup x=some .cell\/sc.names.lookup x=some .free
def Loc(sc:Scope)(x:Str):Prop:=sc.names.lookup x=some .local\/sc.names.lookup x=some .cell
def Look(env:Env)(h:Heap)(m:Str->Option Value)(x:Str)(u:Value):Prop:=
 (env.kindOf x=some .local/\m x=some u)\/((env.kindOf x=some .cell\/env.kindOf x=some .free)/\∃ c,env.cells.lookup x=some c/\h.IsCell c (some u))
structure Cx.Ok(X:Cx):Prop where
 mod:Mod X.K X.mg X.base
 kind:X.env.scope.kind=.function
 glob:X.env.globals=mainGlobals
 blt:X.env.builtins=builtinsNs
 above:X.s₀.heap.objs.size<=X.env.locals
 inj:∀ x y c,X.env.cells.lookup x=some c->X.env.cells.lookup y=some c->x=y
 has:∀ x,(X.env.kindOf x=some .cell\/X.env.kindOf x=some .free)->∃ c,X.env.cells.lookup x=some c
 cab:∀ x c,X.fn x=true->X.env.cells.lookup x=some c->X.s₀.heap.objs.size<=c
 hd:X.calm=true->X.A.handled=none
 frames:X.A.frames=some X.stack
 stk:X.stack=X.outer\/(X.stack=X.env::X.outer/\X.env.frame=some X.env.locals)
 exf:∀ b∈X.ex,b≠X.env.locals/\∀ x c,X.env.cells.lookup x=some c->c≠b
 bs:∀ b o,X.base.get? b=some o->X.s₀.heap.get? b=some o/\X.H₀ b=none
 bsz:X.base.objs.size<=X.s₀.heap.objs.size
 noex:∀ b o,X.base.get? b=some o->b∉X.ex
 exfs:∀ b∈X.ex,b∉X.fs
 funs:X.s₀.heap.FunFrames X.base X.outer
 frf:∀ b∈X.fs,X.H₀ b=none
structure Inv(X:Cx)(pins:List (Addr×Obj))(σ : List (Option V))(H:Hp)(s:Shared):Prop where
 ok:X.Ok
 os:s.os=X.s₀.os
 bare:AllBare s.gens
 base:Un X.fs X.ex X.H₀ H X.s₀.heap s.heap
 loc:∃ m,s.heap.Ns X.env.locals m/\∀ (i:Nat) (x:Str) (v:V),X.N[i]?=some x->σ[i]?=some (some v)->Vis X.env.scope x->∃ u,RelV v u/\Look X.env s.heap m x u
 cell:∀ x c,X.env.cells.lookup x=some c->∃ v,s.heap.IsCell c v
 free:H X.env.locals=none
 freeC:∀ x c,X.env.cells.lookup x=some c->H c=none
 pin:∀ p∈X.pn++pins,s.heap.get? p.1=some p.2/\H p.1=none/\p.1≠X.env.locals/\p.1∉X.fs/\∀ v,p.2.data≠.cell v
 hok:HOk X.prog X.w H s.heap
 len:σ.length=X.N.length
section
variable{X:Cx}{pins:List (Addr×Obj)}{σ : List (Option V)}{H H':Hp}{s:Shared}{h':Heap}
theorem Cx.Ok.nofr(ok:X.Ok){b:Addr}{o:Obj}(e:X.base.get? b=some o):b∉X.fs:=fun hb=>by
 have:=(ok.funs.mem hb).1;rw [e] at this;cases this
theorem Inv.bs(I:Inv X pins σ H s):∀ b o,X.base.get? b=some o->s.heap.get? b=some o/\H b=none:=fun b o e=>
 ⟨I.base.keep b o (I.ok.bs b o e).1 (I.ok.bs b o e).2 (I.ok.nofr e) (I.ok.noex b o e),I.base.free b o (I.ok.bs b o e).1 (I.ok.bs b o e).2 (I.ok.noex b o e)⟩
theorem Inv.bk(I:Inv X pins σ H s):∀ b o,X.base.get? b=some o->s.heap.get? b=some o:=fun b o e=>(I.bs b o e).1
theorem Inv.mod(I:Inv X pins σ H s):Mod X.K X.mg X.base:=I.ok.mod
theorem Inv.kIn(I:Inv X pins σ H s):X.K.In s.heap:=I.ok.mod.kin.keeps I.bk
theorem Inv.nolimit(I:Inv X pins σ H s):s.heap.NoLimit:=I.ok.mod.nolimit.keeps I.bk
theorem Inv.fr(I:Inv X pins σ H s):∃ m,Fr X.base X.env.locals s.heap m:=
 let ⟨m,hn,_⟩:=I.loc
 ⟨m,hn,I.bk,Ya5 I.ok.bsz I.ok.above⟩
theorem Inv.lt(I:Inv X pins σ H s):X.env.locals<s.heap.objs.size:=let ⟨_,hn,_⟩:=I.loc;hn.lt
theorem Inv.sz(I:Inv X pins σ H s):X.s₀.heap.objs.size<=s.heap.objs.size:=Ya5 I.ok.above (Wbz I.lt)
theorem Inv.nofs(I:Inv X pins σ H s){a:Addr}(h:s.heap.objs.size<=a):a∉X.fs:=fun hb=>by
 obtain⟨_,o,ho,_⟩:=I.ok.funs.mem hb;exact absurd (YaU (YaX ho) (Ya5 I.sz h)) (Yap _)
theorem Inv.cne(I:Inv X pins σ H s):∀ x c,X.env.cells.lookup x=some c->c≠X.env.locals:=fun x c e z=>by
 obtain⟨v,o,ho,hd⟩:=I.cell x c e;obtain⟨m,⟨o',es,ep,ho',hd',_⟩,_⟩:=I.loc;rw [z,ho'] at ho;cases ho;rw [hd'] at hd;cases hd
theorem Inv.funs(I:Inv X pins σ H s):s.heap.FunFrames X.base X.outer:=by
 have all:∀ (l:List Env),(∀ b∈frs l,b∈X.fs)->X.s₀.heap.FunFrames X.base l->s.heap.FunFrames X.base l:=by
  intro l
  induction l with
  | nil=>intro _ _;trivial
  | cons env r ih=>
   intro hs hl;obtain⟨hk,⟨L,o,hf,hn,ho,hd⟩,hr⟩:=hl;have hL:L∈X.fs:=hs L (by unfold frs;rw [List.filterMap_cons,hf];exact YaV)
   obtain⟨sl,e⟩:=I.base.slot L o ho (I.ok.frf L hL) hL fun z=>I.ok.exfs L z hL
   exact⟨hk,⟨L,_,hf,hn,e,hd⟩,ih (fun b hb=>hs b (by unfold frs;rw [List.filterMap_cons,hf];exact YaT _ hb)) hr⟩
 exact all X.outer (fun _ hb=>hb) I.ok.funs
theorem Inv.stack(I:Inv X pins σ H s):s.heap.FunFrames X.base X.stack:=by
 rcases I.ok.stk with e|⟨e,hf⟩
 . rw [e];exact I.funs
 . rw [e]
   obtain⟨m,hn,_⟩:=I.loc;refine .cons (by rw [I.ok.kind];decide) hf hn ?_ I.funs
   exact Heap.get?_none_of_le (Ya5 I.ok.bsz I.ok.above)
theorem Inv.stkSub(I:Inv X pins σ H s):∀ b∈frs X.stack,b∈X.env.locals::X.fs:=fun b hb=>by
 rcases I.ok.stk with e|⟨e,hf⟩
 . rw [e] at hb;exact YaT _ hb
 . rw [e] at hb
   unfold frs at hb;rw [List.filterMap_cons,hf] at hb;exact hb
theorem Inv.stkFree(I:Inv X pins σ H s):∀ b∈frs X.stack,H b=none:=fun b hb=>by
 rcases Wbp.mp (I.stkSub b hb) with e|hb
 . rw [e];exact I.free
 . obtain⟨_,o,ho,_⟩:=I.ok.funs.mem hb
   exact I.base.free b o ho (I.ok.frf b hb) fun z=>I.ok.exfs b z hb
theorem Inv.step{g':Array GenState}{t':Nat}{d':Drawn}{ch:List Addr}(I:Inv X pins σ H s)
 (hch:∀ b∈ch,(b∈X.ex\/X.s₀.heap.objs.size<=b)/\b≠X.env.locals/\(∀ x c,X.env.cells.lookup x=some c->c≠b)/\∀ p∈X.pn++pins,p.1≠b)
 (keep:∀ b o,b≠X.env.locals->b∉X.fs->b∉ch->s.heap.get? b=some o->H b=none->h'.get? b=some o)
 (slot:∀ b o,b≠X.env.locals->b∈X.fs->b∉ch->s.heap.get? b=some o->H b=none->∃ sl,h'.get? b=some { o with slots:=sl }) (free:∀ b o,b∉ch->s.heap.get? b=some o->H b=none->H' b=none)
 (there:∀ b o,b∉ch->s.heap.get? b=some o->∃ o',h'.get? b=some o')
 (tups:∀ b xs,H b=some (.tup xs)->H' b=some (.tup xs)) (frzs:∀ b o u,H b=some (.frz o u)->H' b=some (.frz o u)) (tbls:∀ b ps,H b=some (.tbl ps)->∃ more,H' b=some (.tbl (ps++more)))
 (ns:∀ m,s.heap.Ns X.env.locals m->h'.Ns X.env.locals m) (hok:HOk X.prog X.w H' h') (hg:AllBare g') :
 Inv X pins σ H' { s with heap:=h',gens:=g',drawn:=d',toks:=t' }:=by
 have neL:∀ b o,X.s₀.heap.get? b=some o->b≠X.env.locals:=fun b o e=>Yaf (YaU (YaX e) I.ok.above)
 have neC:∀ b o,X.s₀.heap.get? b=some o->b∉X.ex->b∉ch:=fun b o e hx hb=>by
  rcases(hch b hb).1 with z|z
  . exact hx z
  . exact absurd (YaU (YaX e) z) (Yap _)
 have cellK:∀ x c,X.env.cells.lookup x=some c->∀ v,s.heap.IsCell c v->h'.IsCell c v:=fun x c e v ⟨o,ho,hd⟩=>by
  have nch:c∉ch:=fun z=>(hch c z).2.2.1 x c e rfl
  by_cases hc:c∈X.fs
  . obtain⟨sl,q⟩:=slot c o (I.cne x c e) hc nch ho (I.freeC x c e)
    exact⟨_,q,hd⟩
  . exact⟨o,keep c o (I.cne x c e) hc nch ho (I.freeC x c e),hd⟩
 refine⟨I.ok,I.os,hg,⟨fun b o e n hb hx=>?_,fun b o e n hb hx=>?_,fun b o e n hx=>?_,fun b o e hx=>?_,fun b xs e=>tups b xs (I.base.tups b xs e),fun b o xs e=>frzs b o xs (I.base.frzs b o xs e),fun b ps e=>?_⟩,?_,fun x c e=>?_,?_,fun x c e=>?_,fun p hp=>?_,hok,I.len⟩
 . exact keep b o (neL b o e) hb (neC b o e hx) (I.base.keep b o e n hb hx) (I.base.free b o e n hx)
 . obtain⟨sl,e1⟩:=I.base.slot b o e n hb hx
   obtain⟨sl',e2⟩:=slot b _ (neL b o e) hb (neC b o e hx) e1 (I.base.free b o e n hx);exact⟨sl',e2⟩
 . obtain⟨o',e1⟩:=I.base.there b o e hx
   exact free b o' (neC b o e hx) e1 (I.base.free b o e n hx)
 . obtain⟨o',e1⟩:=I.base.there b o e hx
   exact there b o' (neC b o e hx) e1
 . obtain⟨m1,e1⟩:=I.base.tbls b ps e
   obtain⟨m2,e2⟩:=tbls b _ e1;exact⟨m1++m2,by rw [e2,WaE]⟩
 . obtain⟨m,hn,hl⟩:=I.loc
   refine⟨m,ns m hn,fun i x v e1 e2 e3=>?_⟩
   obtain⟨u,r,l⟩:=hl i x v e1 e2 e3;refine⟨u,r,?_⟩
   rcases l with l|⟨k,c,e,z⟩
   . exact .inl l
   . exact .inr ⟨k,c,e,cellK x c e _ z⟩
 . obtain⟨v,z⟩:=I.cell x c e
   exact⟨v,cellK x c e v z⟩
 . obtain⟨m,⟨o,_,_,ho,_⟩,_⟩:=I.loc
   exact free _ o (fun z=>(hch _ z).2.1 rfl) ho I.free
 . obtain⟨v,o,ho,hd⟩:=I.cell x c e
   exact free c o (fun z=>(hch c z).2.2.1 x c e rfl) ho (I.freeC x c e)
 . obtain⟨e,n,ne,nf,d⟩:=I.pin p hp
   have nch:p.1∉ch:=fun z=>(hch p.1 z).2.2.2 p hp rfl
   exact⟨keep p.1 p.2 ne nf nch e n,free p.1 p.2 nch e n,ne,nf,d⟩
theorem Inv.un{t':Nat}(I:Inv X pins σ H s)(u:Un X.fs [] H H' s.heap h')(hok:HOk X.prog X.w H' h'):Inv X pins σ H' { s with heap:=h',toks:=t' }:=by
 obtain⟨m,⟨o,es,ep,ho,r⟩,_⟩:=id I.loc;obtain⟨sl,hL⟩:=u.any ho I.free (by simp)
 exact I.step (g':=s.gens) (d':=s.drawn) (ch:=[]) (fun _ z=>nomatch z) (fun b o _ hb _ e n=>u.keep b o e n hb (by simp)) (fun b o _ hb _ e n=>u.slot b o e n hb (by simp)) (fun b o _ e n=>u.free b o e n (by simp)) (fun b o _ e=>u.there b o e (by simp)) u.tups u.frzs u.tbls (fun m' hm=>by
  obtain⟨o',es',ep',ho',r'⟩:=hm;rw [ho] at ho';cases ho';exact⟨_,es',ep',hL,r'⟩) hok I.bare
theorem Inv.call{g':Array GenState}{t':Nat}{d':Drawn}{ch:List Addr}(I:Inv X pins σ H s)(u:Un (frs X.stack) ch H H' s.heap h')(hok:HOk X.prog X.w H' h')(hg:AllBare g')
 (hch:∀ b∈ch,(b∈X.ex\/X.s₀.heap.objs.size<=b)/\b≠X.env.locals/\(∀ x c,X.env.cells.lookup x=some c->c≠b)/\∀ p∈X.pn++pins,p.1≠b) :
 Inv X pins σ H' { s with heap:=h',gens:=g',drawn:=d',toks:=t' }:=by
 obtain⟨m,⟨o,es,ep,ho,r⟩,_⟩:=id I.loc;obtain⟨sl,hL⟩:=u.any ho I.free fun z=>(hch _ z).2.1 rfl
 exact I.step (ch:=ch) hch (fun b o hL hb hc e n=>u.keep b o e n (fun z=>(Wbp.mp (I.stkSub b z)).elim hL hb) hc) (fun b o _ _ hc e n=>u.any e n hc) (fun b o hc e n=>u.free b o e n hc) (fun b o hc e=>u.there b o e hc) u.tups u.frzs u.tbls (fun m' hm=>by
  obtain⟨o',es',ep',ho',r'⟩:=hm;rw [ho] at ho';cases ho';exact⟨_,es',ep',hL,r'⟩) hok hg
theorem Inv.turned{t':Nat}{it:Addr}(I:Inv X pins σ H s)(k:∀ b o,b≠it->s.heap.get? b=some o->h'.get? b=some o)(hn:H it=none)(hL:it≠X.env.locals)
 (h1:it∈X.ex\/X.s₀.heap.objs.size<=it) (h2:∀ x c,X.env.cells.lookup x=some c->c≠it) (h3:∀ p∈X.pn++pins,p.1≠it):Inv X pins σ H { s with heap:=h',toks:=t' }:=by
 have nit:∀ b u,H b=some u->b≠it:=fun b u e z=>by rw [z,hn] at e;cases e
 refine I.step (g':=s.gens) (d':=s.drawn) (ch:=[it]) (fun b hb=>?_) (fun b o _ _ hc e _=>k b o (fun z=>hc (by simp [z])) e) (fun b o _ _ hc e _=>⟨o.slots,k b o (fun z=>hc (by simp [z])) e⟩) (fun _ _ _ _ n=>n)
  (fun b o hc e=>⟨o,k b o (fun z=>hc (by simp [z])) e⟩) (fun _ _ e=>e) (fun _ _ _ e=>e) (fun b ps e=>⟨#[],by rw [e];simp⟩) (fun m hm=>?_) (fun b u e=>?_) I.bare
 . have e:b=it:=by simpa using hb
   subst e;exact⟨h1,hL,h2,h3⟩
 . obtain⟨o,es,ep,ho,r⟩:=hm
   exact⟨o,es,ep,k _ o (WbM hL) ho,r⟩
 . refine(I.hok b u e).stay (fun c v hc q=>k c v ?_ q) (fun _ q=>q) fun _ _ q=>q
   rcases hc with z|z
   . rw [z];exact nit b u e
   . exact nit c _ z
theorem Inv.tok(I:Inv X pins σ H s)(t:Nat):Inv X pins σ H { s with toks:=t }:=I.un (h':=s.heap) (t':=t) Un.refl I.hok
theorem Inv.kept{t':Nat}(I:Inv X pins σ H s)(k:∀ b u,s.heap.get? b=some u->h'.get? b=some u):Inv X pins σ H { s with heap:=h',toks:=t' }:=I.un (Un.kept k) (I.hok.kept k)
theorem Inv.laid{a:Addr}{o:HO}{t':Nat}(I:Inv X pins σ H s)(k:∀ b u,s.heap.get? b=some u->h'.get? b=some u)(hp:s.heap.objs.size<=a)(new:zK X.prog X.w (upd H a o) h' a o) :
 Inv X pins σ (upd H a o) { s with heap:=h',toks:=t' }:=I.un (Un.laid k hp (I.hok.fresh hp)) (I.hok.laid k hp new)
theorem Inv.write{x e:Addr}{o:HO}{t':Nat}(I:Inv X pins σ H s)(mu:Mut (H x))(he:e=x\/H e=some (.own x))(k:∀ b u,b≠e->s.heap.get? b=some u->h'.get? b=some u)(heo:∃ u,h'.get? e=some u)
 (new:zK X.prog X.w (upd H x o) h' x o):Inv X pins σ (upd H x o) { s with heap:=h',toks:=t' }:=I.un (Un.write mu he k heo) (I.hok.write mu he k heo new)
theorem Inv.pins_of{pins':List (Addr×Obj)}(I:Inv X pins σ H s)(h:∀ p∈pins',s.heap.get? p.1=some p.2/\H p.1=none/\p.1≠X.env.locals/\p.1∉X.fs/\∀ v,p.2.data≠.cell v):Inv X pins' σ H s:=
 ⟨I.ok,I.os,I.bare,I.base,I.loc,I.cell,I.free,I.freeC,fun p hp=>(Ya3.mp hp).elim (fun z=>I.pin p (Yai _ z)) (h p),I.hok,I.len⟩
theorem zfp{N:List Str}(hN:N.Nodup){i j:Nat}{x:Str}(a:N[i]?=some x)(b:N[j]?=some x):i=j:=by
 obtain⟨h1,e1⟩:=Ya8.mp a;obtain⟨h2,e2⟩:=Ya8.mp b;exact(Wa3 hN).mp (e1.trans e2.symm)
theorem zdG{M:Model}{A:Around}{E:Value->Shared->Prop}{i:Nat}{x:Str}{v:V}{u:Value}{Q:Unit->Shared->Prop}(I:Inv X pins σ H s)(hN:X.N.Nodup)(hi:X.N[i]?=some x)(hx:Loc X.env.scope x)(r:RelV v u)
 (h:∀ s',Inv X pins (σ.set i (some v)) H s'->(∃ a,Heap.SameBut a s.heap s'.heap/\(a=X.env.locals\/X.env.cells.lookup x=some a))->Q () s') (hf:X.fn x=true\/X.env.scope.names.lookup x=some .local:=by first|exact .inl rfl|exact .inr rfl|assumption):wpAny M A (storeName X.env x u) Q E s:=by
 obtain⟨m,hn,hl⟩:=id I.loc;have hcls:(X.env.scope.kind==.class||(X.env.scope.kind==.module&&X.env.locals != X.env.globals))=false:=by rw [I.ok.kind];rfl
 have hiσ : i < σ.length:=by rw [I.len];exact(Ya8.mp hi).1
 have cne:=I.cne;have tracked:∀ {a:Addr} {h':Heap},(∃ o,s.heap.get? a=some o/\H a=none)->Heap.SameBut a s.heap h'->HOk X.prog X.w H h':=fun {a h'} ha hs b ob e=>by
  obtain⟨_,_,hfree⟩:=ha;refine(I.hok b ob e).stay (fun c w' hc q=>(hs.2 c ?_).trans q) (fun _ q=>q) fun _ _ q=>q
  rintro rfl
  rcases hc with rfl|hc
  . rw [hfree] at e;cases e
  . rw [hfree] at hc;cases hc
 rcases hx with hk|hk
 . refine wpAny_storeName_local hk hn (fun h' hn' hs=>?_) hcls
   obtain⟨oL,_,_,hoL,_⟩:=id hn;refine h _ ⟨I.ok,I.os,I.bare,⟨fun b o e n hb hx=>?_,fun b o e n hb hx=>?_,I.base.free,fun b o e hx=>?_,I.base.tups,I.base.frzs,I.base.tbls⟩,⟨_,hn',fun j y v' e1 e2 e3=>?_⟩,fun y c e=>?_,I.free,I.freeC,fun p hp=>?_,tracked ⟨oL,hoL,I.free⟩ hs,by simpa using I.len⟩ ⟨_,hs,.inl rfl⟩
   . exact(hs.2 b (Yaf (YaU (YaX e) I.ok.above))).trans (I.base.keep b o e n hb hx)
   . obtain⟨sl,e1⟩:=I.base.slot b o e n hb hx
     exact⟨sl,(hs.2 b (Yaf (YaU (YaX e) I.ok.above))).trans e1⟩
   . obtain⟨o',e1⟩:=I.base.there b o e hx
     exact⟨o',(hs.2 b (Yaf (YaU (YaX e) I.ok.above))).trans e1⟩
   . by_cases hj:j=i
     . subst hj
       rw [hi] at e1;cases e1;rw [Yas hiσ] at e2;cases e2;exact⟨u,r,.inl ⟨hk,by simp⟩⟩
     . rw [Yac (WbM hj)] at e2
       obtain⟨u',r',q⟩:=hl j y v' e1 e2 e3;refine⟨u',r',?_⟩
       rcases q with ⟨k,e⟩|⟨k,c,e,z⟩
       . refine .inl ⟨k,?_⟩
         have:y≠x:=fun e=>hj (zfp hN e1 (e ▸ hi))
         simp [this,e]
       . exact .inr ⟨k,c,e,z.sameBut hs (cne y c e)⟩
   . obtain⟨w',z⟩:=I.cell y c e
     exact⟨w',z.sameBut hs (cne y c e)⟩
   . obtain⟨e,n,ne,nf,d⟩:=I.pin p hp
     exact⟨(hs.2 p.1 ne).trans e,n,ne,nf,d⟩
 . have hfn:X.fn x=true:=by
    rcases hf with z|z
    . exact z
    . rw [z] at hk;cases hk
   obtain⟨c,hc⟩:=I.ok.has x (.inl hk);obtain⟨w',z⟩:=I.cell x c hc;refine wpAny_storeName_cell I.ok.kind hk hc z (fun h' hc' hs=>?_)
   obtain⟨oc,hoc,hocd⟩:=id z;refine h { s with heap:=h' } ⟨I.ok,I.os,I.bare,⟨fun b o e n hb hx=>?_,fun b o e n hb hx=>?_,I.base.free,fun b o e hx=>?_,I.base.tups,I.base.frzs,I.base.tbls⟩,⟨m,hn.sameBut hs (WbM (cne x c hc)),fun j y v' e1 e2 e3=>?_⟩,fun y c' e=>?_,I.free,I.freeC,fun p hp=>?_,tracked ⟨oc,hoc,I.freeC x c hc⟩ hs,by simpa using I.len⟩ ⟨c,hs,.inr hc⟩
   . exact(hs.2 b (Yaf (YaU (YaX e) (I.ok.cab x c hfn hc)))).trans (I.base.keep b o e n hb hx)
   . obtain⟨sl,e1⟩:=I.base.slot b o e n hb hx
     exact⟨sl,(hs.2 b (Yaf (YaU (YaX e) (I.ok.cab x c hfn hc)))).trans e1⟩
   . obtain⟨o',e1⟩:=I.base.there b o e hx
     exact⟨o',(hs.2 b (Yaf (YaU (YaX e) (I.ok.cab x c hfn hc)))).trans e1⟩
   . by_cases hj:j=i
     . subst hj
       rw [hi] at e1;cases e1;rw [Yas hiσ] at e2;cases e2;exact⟨u,r,.inr ⟨.inl hk,c,hc,hc'⟩⟩
     . rw [Yac (WbM hj)] at e2
       obtain⟨u',r',q⟩:=hl j y v' e1 e2 e3;refine⟨u',r',?_⟩
       rcases q with q|⟨k,c',e,z'⟩
       . exact .inl q
       . refine .inr ⟨k,c',e,z'.sameBut hs ?_⟩
         rintro rfl
         exact hj (zfp hN e1 (I.ok.inj _ _ _ e hc ▸ hi))
   . by_cases hcc:c'=c
     . subst hcc;exact⟨_,hc'⟩
     . obtain⟨w2,z2⟩:=I.cell y c' e
       exact⟨w2,z2.sameBut hs hcc⟩
   . obtain⟨e,n,ne,nf,d⟩:=I.pin p hp
     refine⟨(hs.2 p.1 ?_).trans e,n,ne,nf,d⟩
     intro q;rw [q,hoc] at e;have q':oc=p.2:=Wbe e;exact d w' (by rw [<-q'];exact hocd)
theorem zaR{M:Model}{A:Around}{E:Value->Shared->Prop}{i:Nat}{x:Str}{v:V}{u:Value}{Q:Unit->Shared->Prop}(I:Inv X pins σ H s)(hN:X.N.Nodup)(hi:X.N[i]?=some x)(hx:Loc X.env.scope x)(r:RelV v u)
 (h:∀ s',Inv X pins (σ.set i (some v)) H s'->Q () s') (hf:X.fn x=true\/X.env.scope.names.lookup x=some .local:=by first|exact .inl rfl|exact .inr rfl|assumption):wpAny M A (storeName X.env x u) Q E s:=
 zdG I hN hi hx r (fun s' I' _=>h s' I') hf
theorem Inv.call'{s':Shared}{ch:List Addr}(I:Inv X pins σ H s)(ho:s'.os=s.os)(u:Un (frs X.stack) ch H H' s.heap s'.heap)(hok:HOk X.prog X.w H' s'.heap)(hg:AllBare s'.gens)
 (hch:∀ b∈ch,(b∈X.ex\/X.s₀.heap.objs.size<=b)/\b≠X.env.locals/\(∀ x c,X.env.cells.lookup x=some c->c≠b)/\∀ p∈X.pn++pins,p.1≠b):Inv X pins σ H' s':=by
 obtain⟨h',g',d',t',o'⟩:=s';have e:o'=s.os:=ho;subst e;exact I.call (g':=g') (t':=t') (d':=d') u hok hg hch
end
abbrev XK:=Value->Option Addr->Hp->Prop
abbrev St:=List (Option V)
abbrev VK:=V->Hp->Prop
abbrev TE:=St->Hp->VK->Prop
abbrev TT:=St->Hp->(Bool->Hp->Prop)->Prop
abbrev TA:=St->Hp->(List V->Hp->Prop)->Prop
structure Ends where
 nx:St->Hp->Prop
 rt:VK
 bk:St->Hp->Prop:=fun _ _=>False
 ct:St->Hp->Prop:=fun _ _=>False
abbrev TS:=Ends->St->Hp->Prop
def EP(X:Cx)(pins:List (Addr×Obj))(σ : St)(Q:VK)(u:Value)(s':Shared):Prop:=∃ v H',Inv X pins σ H' s'/\RelV v u/\Q v H'
def TP(X:Cx)(pins:List (Addr×Obj))(σ : St)(Q:Bool->Hp->Prop)(b:Bool)(s':Shared):Prop:=∃ H',Inv X pins σ H' s'/\Q b H'
def AP(X:Cx)(pins:List (Addr×Obj))(σ : St)(Q:List V->Hp->Prop)(us:List Value)(s':Shared):Prop:=∃ vs H',Inv X pins σ H' s'/\Vals vs us/\Q vs H'
def SP(X:Cx)(pins:List (Addr×Obj))(D:Ends)(f:Flow)(s':Shared):Prop:=
 match f with
 | .next=>∃ σ' H',Inv X pins σ' H' s'/\D.nx σ' H'
 | .brk=>∃ σ' H',Inv X pins σ' H' s'/\D.bk σ' H'
 | .cont=>∃ σ' H',Inv X pins σ' H' s'/\D.ct σ' H'
 | .ret u=>∃ v σ' H',Inv X pins σ' H' s'/\RelV v u/\D.rt v H'
def PE(X:Cx)(e:Expr)(t:TE):Prop:=
 ∀ (pins:List (Addr×Obj)) (s:Shared) (σ : St) (H:Hp) (Q:VK),Inv X pins σ H s->t σ H Q->wpAny (model X.prog X.w) X.A (eval e X.env) (EP X pins σ Q) X.xe s
def PT(X:Cx)(e:Expr)(t:TT):Prop:=
 ∀ (pins:List (Addr×Obj)) (s:Shared) (σ : St) (H:Hp) (Q:Bool->Hp->Prop),Inv X pins σ H s->t σ H Q->wpAny (model X.prog X.w) X.A (isTrue e X.env (eval e X.env)) (TP X pins σ Q) X.xe s
def PW(X:Cx)(e:Expr)(t:TT):Prop:=
 ∀ (whole:Sem Value) (pins:List (Addr×Obj)) (s:Shared) (σ : St) (H:Hp) (Q:Bool->Hp->Prop),Inv X pins σ H s->t σ H Q->wpAny (model X.prog X.w) X.A (isTrue e X.env whole) (TP X pins σ Q) X.xe s
theorem PW.pt{X:Cx}{e:Expr}{t:TT}(h:PW X e t):PT X e t:=h _
def PA(X:Cx)(es:List Expr)(t:TA):Prop:=
 ∀ (pos:Pos) (pins:List (Addr×Obj)) (s:Shared) (σ : St) (H:Hp) (Q:List V->Hp->Prop),Inv X pins σ H s->t σ H Q->wpAny (model X.prog X.w) X.A (spliced (backTo pos (starEach es X.env))) (AP X pins σ Q) X.xe s
def PS(X:Cx)(st:Stmt)(t:TS):Prop:=
 ∀ (pins:List (Addr×Obj)) (s:Shared) (σ : St) (H:Hp) (D:Ends),Inv X pins σ H s->t D σ H->wpAny (model X.prog X.w) X.A (exec st X.env) (SP X pins D) X.xe s
def PSs(X:Cx)(st:List Stmt)(t:TS):Prop:=
 ∀ (pins:List (Addr×Obj)) (s:Shared) (σ : St) (H:Hp) (D:Ends),Inv X pins σ H s->t D σ H->wpAny (model X.prog X.w) X.A (execs st X.env) (SP X pins D) X.xe s
theorem thn{α : Type}{t:Sem α}{Q Q':α->Shared->Prop}{M:Model}{A:Around}{E:Value->Shared->Prop}{s:Shared}(h:wpAny M A t Q E s)(hQ:∀ a s,Q a s->Q' a s):wpAny M A t Q' E s:=wpAny_mono h hQ fun _ _ x=>x
section
variable{X:Cx}
def tVar(i:Nat):TE:=fun σ H Q=>∃ v,σ[i]?=some (some v)/\Q v H
def tC(v:V):TE:=fun _ H Q=>Q v H
theorem jJ{i:Nat}{x:Str}{pos:Pos}(hN:X.N[i]?=some x)(hv:Vis X.env.scope x)(hd:(x==("__debug__" : Str))=false:=by decide)(hcd:(x==("__classdict__" : Str))=false:=by decide):PE X (.Name x pos) (tVar i):=by
 intro pins s σ H Q I h;obtain⟨v,e,h⟩:=h;obtain⟨m,hn,hl⟩:=I.loc;obtain⟨u,r,l⟩:=hl i x v hN e hv;have fin:EP X pins σ Q u s:=⟨v,H,I,r,h⟩
 rcases l with ⟨hk,hm⟩|⟨hk,c,hc,hcell⟩
 . exact wpAny_Name (wpAny_loadName_local I.ok.kind hk hn hm fin) hd
 . rcases hk with hk|hk
   . exact wpAny_Name (wpAny_loadName_cell I.ok.kind hk hc hcell fin) hd
   . exact wpAny_Name (wpAny_loadName_free I.ok.kind hk hc hcell fin hcd) hd
theorem zb6{i j pos}:PE X (.Constant (.int i) j pos) (tC (.int i)):=fun _ _ _ H _ I h=>wpAny_Constant_int ⟨.int i,H,I.tok _,⟨_,rfl⟩,h⟩
theorem zei{b j pos}:PE X (.Constant (.bool b) j pos) (tC (.bl b)):=fun _ _ _ H _ I h=>Constant_bool ⟨.bl b,H,I,rfl,h⟩
theorem zj6{j pos}:PE X (.Constant .none j pos) (tC .non):=fun _ _ _ H _ I h=>Constant_none ⟨.non,H,I,rfl,h⟩
theorem zgN{x j pos}:PE X (.Constant (.str x) j pos) (tC (.str x)):=fun _ _ _ H _ I h=>Calls.Constant_str ⟨.str x,H,I.tok _,⟨_,rfl⟩,h⟩
def Gl(X:Cx)(x:Str):Prop:=X.env.kindOf x=some .globalImplicit
theorem zcN{E:Value->Shared->Prop}{pins:List (Addr×Obj)}{s:Shared}{σ : St}{H:Hp}{x:Str}{u:Value}{pos:Pos}{Q:Value->Shared->Prop}(I:Inv X pins σ H s)(hg:Gl X x)(hm:X.mg x=some u)(h:Q u s)
 (hd:(x==("__debug__" : Str))=false:=by decide):wpAny (model X.prog X.w) X.A (eval (.Name x pos) X.env) Q E s:=
 Calls.Name_function_global I.ok.kind hg (Calls.loadGlobal_global (by rw [I.ok.glob];exact I.mod.glob.keeps I.bk) hm h) hd
theorem jW{E:Value->Shared->Prop}{pins:List (Addr×Obj)}{s:Shared}{σ : St}{H:Hp}{x:Str}{u:Value}{pos:Pos}{Q:Value->Shared->Prop}(I:Inv X pins σ H s)(hg:Gl X x)(hm:X.mg x=none)(hv:bootBuiltins x=some u)(h:Q u s)
 (hn:x≠"__name__":=by decide) (hd:(x==("__debug__" : Str))=false:=by decide):wpAny (model X.prog X.w) X.A (eval (.Name x pos) X.env) Q E s:=by
 obtain⟨mb,h1,h2⟩:=I.mod.blt;exact Calls.Name_function_global I.ok.kind hg (Calls.loadGlobal_builtin (by rw [I.ok.glob];exact I.mod.glob.keeps I.bk) hm (by rw [I.ok.blt];exact h1.keeps I.bk) ((h2 x hn).trans hv) h) hd
theorem zmg{x:Str}{v:V}{u:Value}{pos:Pos}(hg:Gl X x)(hm:X.mg x=some u)(r:RelV v u)(hd:(x==("__debug__" : Str))=false:=by decide):PE X (.Name x pos) (tC v):=
 fun _ _ _ H _ I h=>zcN I hg hm ⟨v,H,I,r,h⟩ hd
theorem znb{x:Str}{v:V}{u:Value}{pos:Pos}(hg:Gl X x)(hm:X.mg x=none)(hv:bootBuiltins x=some u)(r:RelV v u)(hn:x≠"__name__":=by decide)(hd:(x==("__debug__" : Str))=false:=by decide):PE X (.Name x pos) (tC v):=
 fun _ _ _ H _ I h=>jW I hg hm hv ⟨v,H,I,r,h⟩ hn hd
variable{a b:Expr}{ta tb:TE}{pos:Pos}
def tB(t:TE):TT:=fun σ H Q=>t σ H fun x H1=>∃ c,x=.bl c/\Q c H1
theorem zls{e:Expr}{t:TE}(h:PE X e t)(he:∀ whole,isTrue e X.env whole=(do let v <-whole;standAt e.pos;holding [v] (truthy v)):=by intro _;rfl):PT X e (tB t):=by
 intro pins s σ H Q I hw;refine isTrue_plain (thn (h pins s σ H _ I hw) fun v s1 ⟨x,H1,I1,r1,q1⟩=>?_) (he _)
 obtain⟨d,rfl,q⟩:=q1;cases r1;exact wpAny_truthy_bool ⟨H1,I1,q⟩
variable{tA tB':TT}{rest:List Expr}
def tAnd(t u:TT):TT:=fun σ H Q=>t σ H fun c H1=>if c=true then u σ H1 Q else Q false H1
def tOr(t u:TT):TT:=fun σ H Q=>t σ H fun c H1=>if c=true then Q true H1 else u σ H1 Q
def tNot(t:TT):TT:=fun σ H Q=>t σ H fun c H1=>Q (!c) H1
theorem znK(ha:PT X a tA):PW X (.BoolOp .And [a] pos) tA:=by
 intro wh pins s σ H Q I h;refine isTrue_and (thn (ha pins s σ H Q I h) fun c s1 e=>?_)
 cases c with
 | true=>exact isTrue_and_nil e
 | false=>exact e
theorem zk8(ha:PT X a tA):PW X (.BoolOp .Or [a] pos) tA:=by
 intro wh pins s σ H Q I h;refine isTrue_or (thn (ha pins s σ H Q I h) fun c s1 e=>?_)
 cases c with
 | false=>exact isTrue_or_nil e
 | true=>exact e
theorem znj(ha:PT X a tA)(hb:PW X (.BoolOp .And (b::rest) pos) tB'):PW X (.BoolOp .And (a::b::rest) pos) (tAnd tA tB'):=by
 intro wh pins s σ H Q I h;refine isTrue_and (thn (ha pins s σ H _ I h) fun c s1 ⟨H1,I1,q1⟩=>?_)
 cases c with
 | true=>exact hb wh pins s1 σ H1 Q I1 q1
 | false=>exact⟨H1,I1,q1⟩
theorem zhy(ha:PT X a tA)(hb:PW X (.BoolOp .Or (b::rest) pos) tB'):PW X (.BoolOp .Or (a::b::rest) pos) (tOr tA tB'):=by
 intro wh pins s σ H Q I h;refine isTrue_or (thn (ha pins s σ H _ I h) fun c s1 ⟨H1,I1,q1⟩=>?_)
 cases c with
 | true=>exact⟨H1,I1,q1⟩
 | false=>exact hb wh pins s1 σ H1 Q I1 q1
theorem zmK(ha:PT X a tA):PT X (.UnaryOp .Not a pos) (tNot tA):=by
 intro pins s σ H Q I h;exact isTrue_not (ha pins s σ H (fun c H1=>Q (!c) H1) I h)
def zlR(ta tb:TE):TE:=fun σ H Q=>ta σ H fun x H1=>∃ c,x=.bl c/\if c=true then tb σ H1 Q else Q (.bl false) H1
def znD(ta:TE):TE:=fun σ H Q=>ta σ H fun x H1=>∃ c,x=.bl c/\Q (.bl (!c)) H1
theorem znU{op}{t:TE}(h:PE X a t):PE X (.BoolOp op [a] pos) t:=fun pins s σ H Q I hw=>BoolOp_one (h pins s σ H Q I hw)
theorem zgs(ha:PE X a ta)(hb:PE X (.BoolOp .And (b::rest) pos) tb):PE X (.BoolOp .And (a::b::rest) pos) (zlR ta tb):=by
 intro pins s σ H Q I h;refine BoolOp_and (thn (ha pins s σ H _ I h) fun v s1 ⟨x,H1,I1,r1,q1⟩=>?_)
 obtain⟨c,rfl,q1⟩:=q1;cases r1;refine wpAny_truthy_bool ?_;cases c with
 | true=>exact hb pins s1 σ H1 Q I1 q1
 | false=>exact⟨.bl false,H1,I1,rfl,q1⟩
theorem zg9(ha:PE X a ta):PE X (.UnaryOp .Not a pos) (znD ta):=by
 intro pins s σ H Q I h;refine UnaryOp_ (thn (ha pins s σ H _ I h) fun v s1 ⟨x,H1,I1,r1,q1⟩=>?_)
 obtain⟨c,rfl,q1⟩:=q1;cases r1;exact not_of (wpAny_truthy_bool ⟨.bl (!c),H1,I1,rfl,q1⟩)
def tIf(t:TT)(ta tb:TE):TE:=fun σ H Q=>t σ H fun c H1=>if c=true then ta σ H1 Q else tb σ H1 Q
theorem zmC{c:Expr}(hc:PT X c tA)(ha:PE X a ta)(hb:PE X b tb):PE X (.IfExp c a b pos) (tIf tA ta tb):=by
 intro pins s σ H Q I h;refine wpAny_IfExp (thn (hc pins s σ H _ I h) fun d s1 ⟨H1,I1,q1⟩=>?_)
 cases d with
 | true=>exact ha pins s1 σ H1 Q I1 q1
 | false=>exact hb pins s1 σ H1 Q I1 q1
end
def SqL(K:Ybf)(H:Hp)(a:Addr)(xs:List V):Prop:=
 Rd H a (.lst xs)\/
  ∃ (o:Obj) (its:Array Value) (n:Nat),K.lookup a=some o/\o.cls=.type "list"/\o.dict=none/\o.data=.seq its n/\its.size<=sizeLine/\Vals xs its.toList
def SqT(K:Ybf)(H:Hp)(a:Addr)(xs:List V):Prop:=
 Rd H a (.tup xs)\/
  ∃ (o:Obj) (its:Array Value) (n:Nat),K.lookup a=some o/\o.cls=.type "tuple"/\o.data=.seq its n/\its.size<=sizeLine/\Vals xs its.toList
def absV:Value->Option V
 | .none=>some .non
 | .bool b=>some (.bl b)
 | .int i _=>some (.int i)
 | .str x _=>some (.str x)
 | .bytes b _=>some (.byt b)
 | .float b _=>some (.flt b)
 | .ref a=>some (.ref a)
 | .type n=>some (.ty n)
 | _=>none
theorem RelV.abs{x:V}{u:Value}(r:RelV x u):absV u=some x:=by
 cases x with
 | non=>cases r;rfl
 | bl _=>cases r;rfl
 | int _=>obtain⟨t,rfl⟩:=r;rfl
 | str _=>obtain⟨t,rfl⟩:=r;rfl
 | byt _=>obtain⟨t,rfl⟩:=r;rfl
 | flt _=>obtain⟨t,rfl⟩:=r;rfl
 | ref _=>cases r;rfl
 | ty _=>cases r;rfl
theorem RelV.inj{x y:V}{u:Value}(r:RelV x u)(q:RelV y u):x=y:=Wbe (r.abs.symm.trans q.abs)
theorem Vals.inj:∀ {xs ys:List V} {us:List Value},Vals xs us->Vals ys us->xs=ys
 | _,_,_,.nil,.nil=>rfl
 | _,_,_,.cons r t,.cons r' t'=>by rw [r.inj r',Vals.inj t t']
section
variable{X:Cx}{pins:List (Addr×Obj)}{σ : St}{H:Hp}{s:Shared}{a:Addr}{xs ys:List V}
theorem SqL.of{K:Ybf}(h:H a=some (.lst xs)):SqL K H a xs:=.inl (.inl h)
theorem SqT.of{K:Ybf}(h:H a=some (.tup xs)):SqT K H a xs:=.inl (.inl h)
theorem Inv.list(I:Inv X pins σ H s)(h:SqL X.K H a xs):∃ its:List Value,Vals xs its/\PlainL s.heap a its.toArray/\xs.length<=sizeLine:=by
 rcases h with h|⟨o,its,n,hk,hc,hd,hs,hz,r⟩
 . obtain⟨z,its,n,r,e⟩:=h.ok I.hok
   exact⟨its,r,⟨_,n,e,rfl,rfl,rfl⟩,z⟩
 . refine⟨its.toList,r,⟨o,n,I.kIn a o hk,hc,hd,by simpa using hs⟩,?_⟩
   have e:=r.length;simp only [Array.length_toList] at e
   omega
theorem Inv.tuple(I:Inv X pins σ H s)(h:SqT X.K H a xs):∃ its:List Value,Vals xs its/\IsTup s.heap a its.toArray/\xs.length<=sizeLine:=by
 rcases h with h|⟨o,its,n,hk,hc,hs,hz,r⟩
 . obtain⟨z,its,r,p⟩:=h.ok I.hok
   exact⟨its,r,p,z⟩
 . refine⟨its.toList,r,⟨o,I.kIn a o hk,hc,n,by simpa using hs⟩,?_⟩
   have e:=r.length;simp only [Array.length_toList] at e
   omega
theorem Inv.list_inj(I:Inv X pins σ H s)(h:SqL X.K H a xs)(h':SqL X.K H a ys):xs=ys:=by
 obtain⟨its,r,⟨o,n,e,_,_,d⟩,_⟩:=I.list h;obtain⟨its',r',⟨o',n',e',_,_,d'⟩,_⟩:=I.list h';rw [e] at e';cases e';rw [d] at d'
 injection d' with d1 _
 have:its=its':=by simpa using congrArg Array.toList d1
 subst this;exact r.inj r'
end
abbrev Cx.wish(X:Cx)(E:Value->Shared->Prop):Cx:={ X with xe:=E }
abbrev Cx.nox(X:Cx):Cx:=X.wish fun _ _=>False
theorem Cx.Ok.wish{X:Cx}(ok:X.Ok)(E:Value->Shared->Prop):(X.wish E).Ok:=
 ⟨ok.mod,ok.kind,ok.glob,ok.blt,ok.above,ok.inj,ok.has,ok.cab,ok.hd,ok.frames,ok.stk,ok.exf,ok.bs,ok.bsz,ok.noex,ok.exfs,ok.funs,ok.frf⟩
theorem Cx.Ok.unwish{X:Cx}{E:Value->Shared->Prop}(ok:(X.wish E).Ok):X.Ok:=
 ⟨ok.mod,ok.kind,ok.glob,ok.blt,ok.above,ok.inj,ok.has,ok.cab,ok.hd,ok.frames,ok.stk,ok.exf,ok.bs,ok.bsz,ok.noex,ok.exfs,ok.funs,ok.frf⟩
section
variable{X:Cx}{pins:List (Addr×Obj)}{σ : St}{H:Hp}{s:Shared}{E:Value->Shared->Prop}
theorem Inv.wish(I:Inv X pins σ H s)(E:Value->Shared->Prop):Inv (X.wish E) pins σ H s:=⟨I.ok.wish E,I.os,I.bare,I.base,I.loc,I.cell,I.free,I.freeC,I.pin,I.hok,I.len⟩
theorem Inv.unwish(I:Inv (X.wish E) pins σ H s):Inv X pins σ H s:=⟨I.ok.unwish,I.os,I.bare,I.base,I.loc,I.cell,I.free,I.freeC,I.pin,I.hok,I.len⟩
theorem SP.unwish{D:Ends}{f:Flow}{s':Shared}(h:SP (X.wish E) pins D f s'):SP X pins D f s':=by
 cases f with
 | next=>obtain⟨σ',H',I,q⟩:=h;exact⟨σ',H',I.unwish,q⟩
 | brk=>obtain⟨σ',H',I,q⟩:=h;exact⟨σ',H',I.unwish,q⟩
 | cont=>obtain⟨σ',H',I,q⟩:=h;exact⟨σ',H',I.unwish,q⟩
 | ret u=>obtain⟨v,σ',H',I,r,q⟩:=h;exact⟨v,σ',H',I.unwish,r,q⟩
theorem PE.nox{e:Expr}{t:TE}(h:PE X.nox e t):PE X e t:=fun pins s σ H Q I hw=>
 wpAny_mono (h pins s σ H Q (I.wish _) hw) (fun _ _ ⟨v,H',I',r,q⟩=>⟨v,H',I'.unwish,r,q⟩) fun _ _ z=>False.elim z
theorem PT.nox{e:Expr}{t:TT}(h:PT X.nox e t):PT X e t:=fun pins s σ H Q I hw=>
 wpAny_mono (h pins s σ H Q (I.wish _) hw) (fun _ _ ⟨H',I',q⟩=>⟨H',I'.unwish,q⟩) fun _ _ z=>False.elim z
theorem PSs.nox{st:List Stmt}{t:TS}(h:PSs X.nox st t):PSs X st t:=fun pins s σ H D I hw=>
 wpAny_mono (h pins s σ H D (I.wish _) hw) (fun _ _ q=>q.unwish) fun _ _ z=>False.elim z
end
section
variable{X:Cx}{st:Stmt}{rest:List Stmt}{t u:TS}{e:Expr}{te:TE}{pos:Pos}
def tNext:TS:=fun D σ H=>D.nx σ H
def tSeq(t u:TS):TS:=fun D σ H=>t { D with nx:=u D } σ H
theorem zc5:PSs X [] tNext:=fun _ _ σ H _ I h=>wpAny_execs_nil ⟨σ,H,I,h⟩
theorem zap(h1:PS X st t)(h2:PSs X rest u):PSs X (st::rest) (tSeq t u):=by
 intro pins s σ H D I h;refine wpAny_execs_cons (thn (h1 pins s σ H { D with nx:=u D } I h) fun f s1 q=>?_)
 cases f with
 | next=>
  obtain⟨σ',H',I',q⟩:=q;exact h2 pins s1 σ' H' D I' q
 | ret v=>exact q
 | brk=>exact q
 | cont=>exact q
theorem zeS(h1:PS X st t):PSs X [st] t:=by
 intro pins s σ H D I h;refine wpAny_execs_cons (thn (h1 pins s σ H D I h) fun f s1 q=>?_)
 cases f with
 | next=>exact wpAny_execs_nil q
 | ret v=>exact q
 | brk=>exact q
 | cont=>exact q
theorem Inv.quiet{pins:List (Addr×Obj)}{σ : St}{H:Hp}{s:Shared}(I:Inv X pins σ H s):interactive X.env=false:=by simp [interactive,I.ok.kind]
def zjw(te:TE):TS:=fun D σ H=>te σ H fun _ H1=>D.nx σ H1
theorem zaA(he:PE X e te)(hs:swapsWith e none pos.line X.env=pure false:=by rfl):PS X (.Expr e pos) (zjw te):=by
 intro pins s σ H D I h;exact wpAny_Expr_any (thn (he pins s σ H _ I h) fun v s1 ⟨x,H1,I1,r1,q1⟩=>⟨σ,H1,I1,q1⟩) I.quiet hs
def tRet(te:TE):TS:=fun D σ H=>te σ H D.rt
theorem zlP(he:PE X e te):PS X (.Return (some e) pos) (tRet te):=by
 intro pins s σ H D I h;exact wpAny_Return_some (thn (he pins s σ H _ I h) fun v s1 ⟨x,H1,I1,r1,q1⟩=>⟨x,σ,H1,I1,r1,q1⟩)
def tIfS(c:TT)(t u:TS):TS:=fun D σ H=>c σ H fun b H1=>if b=true then t D σ H1 else u D σ H1
theorem zfZ{c:Expr}{a b:List Stmt}{tc:TT}(hc:PT X c tc)(ha:PSs X a t)(hb:PSs X b u):PS X (.If c a b pos) (tIfS tc t u):=by
 intro pins s σ H D I h;refine wpAny_If (thn (hc pins s σ H _ I h) fun d s1 ⟨H1,I1,q1⟩=>?_)
 cases d with
 | true=>exact ha pins s1 σ H1 D I1 q1
 | false=>exact hb pins s1 σ H1 D I1 q1
end
abbrev TG:=V->St->Hp->(St->Hp->Prop)->Prop
abbrev TGs:=List V->St->Hp->(St->Hp->Prop)->Prop
def PG(X:Cx)(target:Expr)(t:TG):Prop:=
 ∀ (pins:List (Addr×Obj)) (s:Shared) (σ : St) (H:Hp) (v:V) (u:Value) (Q:St->Hp->Prop),Inv X pins σ H s->RelV v u->t v σ H Q->
  wpAny (model X.prog X.w) X.A (assign target X.env u) (fun _ s'=>∃ σ' H',Inv X pins σ' H' s'/\Q σ' H') X.xe s
def PGs(X:Cx)(ts:List Expr)(t:TGs):Prop:=
 ∀ (pins:List (Addr×Obj)) (s:Shared) (σ : St) (H:Hp) (vs:List V) (us:List Value) (Q:St->Hp->Prop),Inv X pins σ H s->Vals vs us->t vs σ H Q->
  wpAny (model X.prog X.w) X.A (assignInOrder ((assignEach ts X.env).map (·.2)) us) (fun _ s'=>∃ σ' H',Inv X pins σ' H' s'/\Q σ' H') X.xe s
abbrev TSet:=V->V->V->Hp->(Hp->Prop)->Prop
def PSet(X:Cx)(t:TSet):Prop:=
 ∀ (pins:List (Addr×Obj)) (s:Shared) (σ : St) (H:Hp) (o i v:V) (ov iv u:Value) (Q:Hp->Prop),Inv X pins σ H s->RelV o ov->RelV i iv->RelV v u->t o i v H Q->
  wpAny (model X.prog X.w) X.A (setItem ov iv u) (fun _ s'=>∃ H',Inv X pins σ H' s'/\Q H') X.xe s
abbrev TIp:=V->V->Hp->VK->Prop
def PIp(X:Cx)(op:Operator)(t:TIp):Prop:=
 ∀ (pins:List (Addr×Obj)) (s:Shared) (σ : St) (H:Hp) (x y:V) (v u:Value) (Q:VK),Inv X pins σ H s->RelV x v->RelV y u->t x y H Q->
  wpAny (model X.prog X.w) X.A (inplaceOp op v u) (EP X pins σ Q) X.xe s
section
variable{X:Cx}{pos:Pos}
def zci(i:Nat):TG:=fun v σ H Q=>Q (σ.set i (some v)) H
theorem zbl{i:Nat}{x:Str}(hN:X.N.Nodup)(hi:X.N[i]?=some x)(hx:Loc X.env.scope x)(hf:X.fn x=true\/X.env.scope.names.lookup x=some .local:=by first|exact .inl rfl|exact .inr rfl|assumption):PG X (.Name x pos) (zci i):=by
 intro pins s σ H v u Q I r h;exact wpAny_assign_Name (zaR I hN hi hx r (fun s' I'=>⟨_,H,I',h⟩) hf)
def gNil:TGs:=fun vs σ H Q=>vs=[]/\Q σ H
def znf(t:TG)(u:TGs):TGs:=fun vs σ H Q=>∃ v r,vs=v::r/\t v σ H fun σ' H'=>u r σ' H' Q
theorem zfV:PGs X [] gNil:=by
 intro pins s σ H vs us Q I r h;obtain⟨e,h⟩:=h;subst e;cases r;exact assignInOrder_nil ⟨σ,H,I,h⟩
theorem zc3{e:Expr}{es:List Expr}{t:TG}{u:TGs}(h1:PG X e t)(h2:PGs X es u)
 (hs:(assignEach (e::es) X.env).map (·.2)=assign e X.env::(assignEach es X.env).map (·.2):=by rfl):PGs X (e::es) (znf t u):=by
 intro pins s σ H vs us Q I r h;obtain⟨v,vr,e1,h⟩:=h;subst e1;cases r with
 | cons r rr=>
  rw [hs];refine assignInOrder_cons (thn (h1 pins s σ H _ _ _ I r h) fun _ s1 ⟨σ1,H1,I1,q1⟩=>?_)
  exact h2 pins s1 σ1 H1 _ _ Q I1 rr q1
def gTup(K:Ybf)(n:Nat)(t:TGs):TG:=fun v σ H Q=>∃ a xs,v=.ref a/\SqT K H a xs/\xs.length=n/\t xs σ H Q
theorem zdz{es:List Expr}{k:Nat}{t:TGs}{n:Nat}(hc:X.calm=true)(h:PGs X es t)
 (hn:(assignEach es X.env).length=n:=by rfl) (hst:(assignEach es X.env).findIdx? (·.1)=none:=by rfl):PG X (.Tuple es k pos) (gTup X.K n t):=by
 intro pins s σ H v u Q I r hw;obtain⟨a,xs,e1,hq,hl,hw⟩:=hw;subst e1;cases r;obtain⟨its,rv,ht,hz⟩:=I.tuple hq;refine assign_Tuple_tuple (I.ok.hd hc) ht (by simp [hn,<-hl,rv.length]) hst fun h' hx=>?_
 have I1:Inv X pins σ H { s with heap:=h' }:=I.kept (t':=s.toks) fun b o e=>hx b o (Yaf (YaX e)) e
 exact h pins _ σ H xs _ Q I1 (by simpa using rv) hw
def gSub(to ti:TE)(t:TSet):TG:=fun v σ H Q=>to σ H fun o H1=>ti σ H1 fun i H2=>t o i v H2 fun H3=>Q σ H3
theorem ziD{o i:Expr}{to ti:TE}{t:TSet}(ho:PE X o to)(hi:PE X i ti)(hs:PSet X t)
 (ha:∀ v,assign (.Subscript o i pos) X.env v=(do
  let ov <-holding [v] (eval o X.env)
  let iv <-holding [v,ov] (eval i X.env)
  standAt pos
  holding [v,ov,iv] (setItem ov iv v)
  release [v,ov,iv] []):=by intro _;rfl):PG X (.Subscript o i pos) (gSub to ti t):=by
 intro pins s σ H v u Q I r h;rw [ha];refine wpAny_bind (wpAny_holding (thn (ho pins s σ H _ I h) fun ov s1 ⟨x,H1,I1,r1,q1⟩=>?_))
 refine wpAny_bind (wpAny_holding (thn (hi pins s1 σ H1 _ I1 q1) fun iv s2 ⟨y,H2,I2,r2,q2⟩=>?_))
 refine wpAny_bind (wpAny_standAt (wpAny_bind (wpAny_holding (thn (hs pins s2 σ H2 x y v ov iv u _ I2 r1 r2 r q2) fun _ s3 ⟨H3,I3,q3⟩=>?_))))
 exact wpAny_release ⟨σ,H3,I3,q3⟩
def tAsg(te:TE)(g:TG):TS:=fun D σ H=>te σ H fun x H1=>g x σ H1 D.nx
theorem ze9{tg e:Expr}{te:TE}{g:TG}(he:PE X e te)(hg:PG X tg g)(hs:swapsWithSole [tg] e pos.line X.env=pure false:=by rfl)(hw:swappedStores [tg] e X.env=pure none:=by rfl)
 (h1:(assignEach [tg] X.env).map (·.2)=[assign tg X.env]:=by rfl):PS X (.Assign [tg] e pos) (tAsg te g):=by
 intro pins s σ H D I h;refine wpAny_Assign_stores (thn (he pins s σ H _ I h) fun v s1 ⟨x,H1,I1,r1,q1⟩=>?_) hs hw
 rw [h1];exact thn (hg pins s1 σ H1 x v _ I1 r1 q1) fun _ s2 q=>q
theorem JH{i:Nat}{x:Str}{e:Expr}{te:TE}{pos':Pos}(hN:X.N.Nodup)(hi:X.N[i]?=some x)(hx:Loc X.env.scope x)(he:PE X e te)(hs:swapsWith e (some (.Name x pos')) pos.line X.env=pure false:=by rfl)(hf:X.fn x=true\/X.env.scope.names.lookup x=some .local:=by first|exact .inl rfl|exact .inr rfl|assumption) :
 PS X (.Assign [.Name x pos'] e pos) (tAsg te (zci i)):=by
 intro pins s σ H D I h;refine wpAny_Assign_Name (thn (he pins s σ H _ I h) fun v s1 ⟨y,H1,I1,r1,q1⟩=>?_) hs
 exact zaR I1 hN hi hx r1 (fun s2 I2=>⟨_,H1,I2,q1⟩) hf
def tPar(i j:Nat)(ta:TA):TS:=fun D σ H=>ta σ H fun vs H1=>∃ v w,vs=[v,w]/\D.nx ((σ.set i (some v)).set j (some w)) H1
theorem zmQ{i j:Nat}{x y:Str}{a b:Expr}{ta:TA}{px py pt:Pos}{kt k2 pt2}(hc:X.calm=true)(hN:X.N.Nodup)(hi:X.N[i]?=some x)(hj:X.N[j]?=some y)(hij:i≠j)
 (hx:X.env.scope.names.lookup x=some .local) (hy:X.env.scope.names.lookup y=some .local) (ha:PA X [a,b] ta)
 (hw:swappedStores [.Tuple [.Name x px,.Name y py] kt pt] (.Tuple [a,b] k2 pt2) X.env=pure (some [x,y]))
 (hs:swapsWithSole [.Tuple [.Name x px,.Name y py] kt pt] (.Tuple [a,b] k2 pt2) pos.line X.env=pure false:=by rfl) :
 PS X (.Assign [.Tuple [.Name x px,.Name y py] kt pt] (.Tuple [a,b] k2 pt2) pos) (tPar i j ta):=by
 intro pins s σ H D I h;rw [exec_Assign_arm];refine wpAny_bind (wpAny_standAt ?_);rw [hs];refine wpAny_bind (wpAny_pure ?_);rw [if_neg #[1]]
 refine wpAny_bind (Tuple_ (thn (ha _ pins s σ H _ I h) fun us s1 ⟨vs,H1,I1,r1,q1⟩=>?_))
 obtain⟨v,w,e1,q1⟩:=q1;subst e1;obtain⟨u1,u2,rfl,rv,rw'⟩:∃ u1 u2,us=[u1,u2]/\RelV v u1/\RelV w u2:=by
  cases r1 with
  | cons p q=>
   cases q with
   | cons p' q'=>
    cases q';exact⟨_,_,rfl,p,p'⟩
 refine wpAny_newObj_type ?_ (by show 2<=sizeLine;decide)
 have I2:Inv X pins σ H1 { s1 with heap:=s1.heap.push { cls:=.type "tuple", data:=.seq [u1,u2].toArray } }:=I1.kept (t':=s1.toks) fun b o e=>YaW _ e
 rw [hw];refine wpAny_bind (wpAny_pure ?_);show wpAny (model X.prog X.w) X.A (do rule "assign.swapped-stores";let items <-unpackItems (.ref s1.heap.objs.size) 2 none;assignInOrder [fun v=>bindName X.env y v,fun v=>bindName X.env x v] items.reverse;pure Flow.next) _ _ _
 refine wpAny_bind (wpAny_rule (wpAny_bind (unpackItems_tuple (items:=#[u1,u2]) (I.ok.hd hc) (IsTup.new s1.heap _) fun h' hx'=>?_)))
 have I3:=I2.kept (h':=h') (t':=s1.toks) fun b o e=>hx' b o (Yaf (YaX e)) e
 show wpAny _ _ (assignInOrder [fun v=>bindName X.env y v,fun v=>bindName X.env x v] [u2,u1] >>= fun _=>pure Flow.next) _ _ _
 refine wpAny_bind (assignInOrder_cons (wpAny_bindName (zaR I3 hN hj (.inl hy) rw' (fun s2 I4=>?_) (.inr hy))))
 refine assignInOrder_cons (wpAny_bindName (zaR I4 hN hi (.inl hx) rv (fun s3 I5=>assignInOrder_nil (wpAny_pure ?_)) (.inr hx)))
 rw [List.set_comm _ _ (WbM hij)] at I5;exact⟨_,H1,I5,q1⟩
def tAug(i:Nat)(te:TE)(ti:TIp):TS:=fun D σ H=>∃ x,σ[i]?=some (some x)/\te σ H fun y H1=>ti x y H1 fun z H2=>D.nx (σ.set i (some z)) H2
theorem zi4{i:Nat}{x:Str}{e:Expr}{te:TE}{op:Operator}{ti:TIp}{pos':Pos}(hN:X.N.Nodup)(hi:X.N[i]?=some x)(hx:Loc X.env.scope x)(he:PE X e te)(ho:PIp X op ti)(hf:X.fn x=true\/X.env.scope.names.lookup x=some .local:=by first|exact .inl rfl|exact .inr rfl|assumption) :
 PS X (.AugAssign (.Name x pos') op e pos) (tAug i te ti):=by
 intro pins s σ H D I h;obtain⟨v,e1,h⟩:=h;obtain⟨m,hn,hl⟩:=I.loc;have vis:Vis X.env.scope x:=by rcases hx with k|k;exact .inl k;exact .inr (.inl k)
 obtain⟨u,r,l⟩:=hl i x v hi e1 vis;refine wpAny_AugAssign_Name ?_;have go:wpAny (model X.prog X.w) X.A (eval e X.env) (fun w s₂=>wpAny (model X.prog X.w) X.A (inplaceOp op u w) (fun r s₃=>wpAny (model X.prog X.w) X.A (storeName X.env x r) (fun _=>SP X pins D .next) X.xe s₃) X.xe s₂) X.xe s:=by
  refine thn (he pins s σ H _ I h) fun w s1 ⟨y,H1,I1,r1,q1⟩=>?_
  refine thn (ho pins s1 σ H1 v y u w _ I1 r r1 q1) fun z s2 ⟨zv,H2,I2,r2,q2⟩=>?_
  exact zaR I2 hN hi hx r2 (fun s3 I3=>⟨_,H2,I3,q2⟩) hf
 rcases l with ⟨hk,hm⟩|⟨hk,c,hc,hcell⟩
 . exact wpAny_loadName_local I.ok.kind hk hn hm go
 . rcases hk with hk|hk
   . exact wpAny_loadName_cell I.ok.kind hk hc hcell go
   . rcases hx with k|k
     . have:X.env.scope.names.lookup x=some .free:=hk
       rw [k] at this;cases this
     . have:X.env.scope.names.lookup x=some .free:=hk
       rw [k] at this;cases this
def ipI(f:Int->Int->Int):TIp:=fun x y H Q=>∃ i j,x=.int i/\y=.int j/\Q (.int (f i j)) H
theorem zmD:PIp X .Add (ipI fun i j=>i+j):=by
 intro pins s σ H x y v u Q I r1 r2 h;obtain⟨i,j,e1,e2,q⟩:=h;subst e1;subst e2;obtain⟨t,rfl⟩:=r1;obtain⟨t',rfl⟩:=r2;exact iadd_int ⟨.int _,H,I.tok _,⟨_,rfl⟩,q⟩
end
section
variable{X:Cx}{pos:Pos}
def zfj(c:TT)(tb:TS):TS:=fun D σ H=>∃ W:Nat->St->Hp->Prop,(∃ m,W m σ H)/\∀ m σ H,W m σ H->
 c σ H fun b H1=>if b=true then ∃ N:St->Hp->Prop,(∀ σ' H',N σ' H'->∃ m',m'<m/\W m' σ' H')/\tb { D with nx:=N,ct:=N,bk:=D.nx } σ H1 else D.nx σ H1
theorem zgA{c:Expr}{body:List Stmt}{tc:TT}{tb:TS}(hp:PassesOwn (model X.prog X.w) X.A X.env X.xe)(hc:PT X c tc)(hb:PSs X body tb):PS X (.While c body [] pos) (zfj tc tb):=by
 intro pins s σ H D I h;obtain⟨W,⟨m0,w0⟩,turn⟩:=h;refine wpAny_While (codeAny_whileLoop (fun n s'=>∃ σ' H',Inv X pins σ' H' s'/\W n σ' H') ?_ m0 ⟨σ,H,I,w0⟩)
 rintro n s1 ⟨σ1,H1,I1,w1⟩
 refine wpAny_passesOwn hp (thn (hc pins s1 σ1 H1 _ I1 (turn n σ1 H1 w1)) fun b s2 ⟨H2,I2,q2⟩=>?_)
 cases b with
 | true=>
  obtain⟨N,hN,q2⟩:=q2;rw [if_pos rfl];refine wpAny_passesOwn hp (thn (hb pins s2 σ1 H2 _ I2 q2) fun f s3 q3=>?_)
  cases f with
  | next=>
   obtain⟨σ3,H3,I3,n3⟩:=q3;obtain⟨m',hm,w3⟩:=hN σ3 H3 n3;exact⟨m',hm,σ3,H3,I3,w3⟩
  | cont=>
   obtain⟨σ3,H3,I3,n3⟩:=q3;obtain⟨m',hm,w3⟩:=hN σ3 H3 n3;exact⟨m',hm,σ3,H3,I3,w3⟩
  | brk=>exact q3
  | ret v=>exact q3
 | false=>
  rw [if_neg Yal];exact wpAny_execs_nil ⟨σ1,H2,I2,q2⟩
end
structure It where
 go:Nat->Hp->Prop
 yld:Nat->Hp->V->Hp->Prop
 stop:Nat->Hp->Prop
def FpOk(X:Cx)(pins:List (Addr×Obj))(H:Hp)(b:Addr):Prop:=
 H b=none/\b≠X.env.locals/\b∉X.fs/\(b∈X.ex\/X.s₀.heap.objs.size<=b)/\(∀ x c,X.env.cells.lookup x=some c->c≠b)/\∀ p∈X.pn++pins,p.1≠b
theorem Inv.fpOk{X:Cx}{pins:List (Addr×Obj)}{σ : St}{H H':Hp}{s:Shared}{b:Addr}(I:Inv X pins σ H s)(hb:s.heap.objs.size<=b)(hn:H' b=none):FpOk X pins H' b:=by
 refine⟨hn,WbA (YaU I.lt hb),I.nofs hb,.inr (Ya5 I.sz hb),fun x c e z=>?_,fun p hp z=>?_⟩
 . obtain⟨v,q⟩:=I.cell x c e
   exact absurd (YaU q.lt (by rw [z];exact hb)) (Yap _)
 . exact absurd (YaU (YaX (I.pin p hp).1) (by rw [z];exact hb)) (Yap _)
structure Turn(P:Program)(w:World)(K:Ybf)(tg:Expr)(J:It)(fp:List Addr)(it:Addr)(tn:Nat->Heap->Prop):Prop where
 mem:it∈fp
 obj:∀ i h,tn i h->∀ b∈fp,∃ o,h.get? b=some o/\∀ v,o.data≠.cell v
 keep:∀ i h h',tn i h->(∀ b∈fp,∀ o,h.get? b=some o->h'.get? b=some o)->tn i h'
 item:∀ (X:Cx),X.prog=P->X.w=w->X.K=K->X.calm=true->∀ (i:Nat) (pins:List (Addr×Obj)) (s:Shared) (σ : St) (H:Hp) (E:Value->Shared->Prop),Inv X pins σ H s->(∀ b∈fp,FpOk X pins H b)->tn i s.heap->J.go i H->
  wpAny (model P w) X.A (pyNext (.ref it)) (fun r s1=>∃ u,r=some u/\
   wpAny (model P w) X.A (letOwnedTupleGo tg (.ref it) u) (fun _ s2=>∃ x H',Inv X pins σ H' s2/\RelV x u/\J.yld i H x H'/\tn (i+1) s2.heap/\∀ b∈fp,H' b=none) E s1) E s
 done:∀ (X:Cx),X.prog=P->X.w=w->X.K=K->X.calm=true->∀ (i:Nat) (pins:List (Addr×Obj)) (s:Shared) (σ : St) (H:Hp) (E:Value->Shared->Prop),Inv X pins σ H s->(∀ b∈fp,FpOk X pins H b)->tn i s.heap->J.stop i H->
  wpAny (model P w) X.A (pyNext (.ref it)) (fun r s1=>r=none/\Inv X pins σ H s1) E s
 self:∀ (A:Around) (i:Nat) (s:Shared) (Q:Value->Shared->Prop) (E:Value->Shared->Prop),tn i s.heap->Q (.ref it) s->wpAny (model P w) A (pyIter (.ref it)) Q E s
abbrev TI:=St->Hp->(It->Hp->Prop)->Prop
def PIE(X:Cx)(pins:List (Addr×Obj))(σ : St)(tg:Expr)(R:It->Hp->Prop)(itv:Value)(s2:Shared):Prop:=
 ∃ (it:Addr) (fp:List Addr) (tn:Nat->Heap->Prop) (J:It) (H':Hp),itv=.ref it/\Inv X pins σ H' s2/\Turn X.prog X.w X.K tg J fp it tn/\tn 0 s2.heap/\(∀ b∈fp,FpOk X pins H' b)/\R J H'
def PI(X:Cx)(tg iter:Expr)(wi:TI):Prop:=
 ∀ (pins:List (Addr×Obj)) (s:Shared) (σ : St) (H:Hp) (R:It->Hp->Prop),Inv X pins σ H s->wi σ H R->
  wpAny (model X.prog X.w) X.A (eval iter X.env) (fun v s1=>wpAny (model X.prog X.w) X.A (pyIter v) (PIE X pins σ tg R) X.xe s1) X.xe s
theorem zct{M:Model}{A:Around}{E:Value->Shared->Prop}{s:Shared}{tg:Expr}{it:Addr}{u:Value}{o:Obj}{n:String}{vs:Array Value}{Q:Unit->Shared->Prop}(ho:s.heap.get? it=some o)(hc:o.cls=.type n)(hd:o.data=.fields vs)
 (hn:["enumerate", "zip", "dict_itemiterator", "dict_reverseitemiterator", "odict_iterator", "itertools.zip_longest", "itertools.pairwise"].contains n=false) (hQ:Q () s):wpAny M A (letOwnedTupleGo tg (.ref it) u) Q E s:=by
 unfold letOwnedTupleGo;cases tg<;>first
  | exact wpAny_pure hQ
  | (cases u <;> first
   | exact wpAny_pure hQ
   | (refine wpAny_bind (wpAny_load ho ?_)
      rw [hc,hd];show wpAny M A (if(["enumerate", "zip", "dict_itemiterator", "dict_reverseitemiterator", "odict_iterator", "itertools.zip_longest", "itertools.pairwise"].contains n&&vs[0]? == some (rawInt _))=true then _ else _) Q E s
      rw [if_neg (by intro h;rw [hn,Bool.false_and] at h;cases h)]
      exact wpAny_pure hQ))
def Itl(K:Ybf)(a:Addr):It:=
 ⟨fun i H=>∃ xs x,SqL K H a xs/\xs[i]?=some x,fun i H x H'=>H'=H/\∀ xs,SqL K H a xs->xs[i]?=some x,fun i H=>∃ xs,SqL K H a xs/\xs.length<=i⟩
def Itr(lo:Int)(n:Nat):It:=⟨fun i _=>i<n,fun i H x H'=>H'=H/\x=.int (lo+i),fun i _=>n<=i⟩
theorem zgc{P:Program}{w:World}{K:Ybf}{tg:Expr}(a it:Addr):Turn P w K tg (Itl K a) [it] it (fun i h=>h.IsListIter it a i) where
 mem:=by simp
 obj:=fun i h st b hb=>by
  have e:b=it:=by simpa using hb
  subst e;obtain⟨o,e,c,d⟩:=st;exact⟨o,e,fun v z=>by rw [d] at z;cases z⟩
 keep:=fun i h h' st k=>st.at fun o e=>k it (by simp) o e
 item:=by
  intro X hP hw hK hc i pins s σ H E I hf st hg;subst hP hw hK;obtain⟨xs,x,hq,hx⟩:=hg;obtain⟨its,rv,p,hz⟩:=I.list hq;obtain⟨u,hu,ru⟩:=rv.get hx;obtain⟨f0,f1,f2,f3,f4,f5⟩:=hf it (by simp)
  refine wpAny_pyNext_list_item st p.isList (x:=u) (by simpa using hu) fun h' st' sb=>?_
  have I1:Inv X pins σ H { s with heap:=h' }:=I.turned (t':=s.toks) (fun b o hb e=>(sb.2 b hb).trans e) f0 f1 f3 f4 f5
  obtain⟨o,e,c,d⟩:=id st';exact⟨u,rfl,zct (s:={ s with heap:=h' }) e c d #[1] ⟨x,H,I1,ru,⟨rfl,fun ys hy=>by rw [I.list_inj hy hq];exact hx⟩,st',fun b hb=>(hf b hb).1⟩⟩
 done:=by
  intro X hP hw hK hc i pins s σ H E I hf st hg;subst hP hw hK;obtain⟨xs,hq,hx⟩:=hg;obtain⟨its,rv,p,hz⟩:=I.list hq;obtain⟨f0,f1,f2,f3,f4,f5⟩:=hf it (by simp)
  have hl:=rv.length;exact wpAny_pyNext_list_end (I.ok.hd hc) st p.isList #[6] fun h' eb=>⟨rfl,I.turned (t':=s.toks) (fun b o hb e=>eb b o hb e) f0 f1 f3 f4 f5⟩
 self:=fun _ _ _ _ _ st h=>wpAny_pyIter_listiter st h
theorem zgW{P:Program}{w:World}{K:Ybf}{tg:Expr}(it:Addr)(lo:Int)(n:Nat):Turn P w K tg (Itr lo n) [it] it (fun i h=>IsRangeIter h it (lo+(i:Nat)*1) ((n:Int) - (i:Nat)) 1) where
 mem:=by simp
 obj:=fun i h st b hb=>by
  have e:b=it:=by simpa using hb
  subst e;exact⟨_,st,fun v z=>by
   have z':Data.fields _=Data.cell v:=z;cases z'⟩
 keep:=fun i h h' st k=>k it (by simp) _ st
 item:=by
  intro X hP hw hK hc i pins s σ H E I hf st hg;subst hP hw hK;obtain⟨f0,f1,f2,f3,f4,f5⟩:=hf it (by simp)
  have W:=Walks.range (prog:=X.prog) (w:=X.w) (I.ok.hd hc) it lo 1 n;refine W.item i s _ _ hg st fun v h' tk hv st' kk=>?_
  obtain⟨t,rfl⟩:=hv;have I1:Inv X pins σ H { s with heap:=h',toks:=tk }:=I.turned (fun b o hb e=>kk b o (by simpa using hb) e) f0 f1 f3 f4 f5
  refine⟨_,rfl,zct (s:={ s with heap:=h',toks:=tk }) (n:="range_iterator") st' rfl rfl #[1] ⟨.int (lo+i),H,I1,⟨t,?_⟩,⟨rfl,rfl⟩,st',fun b hb=>(hf b hb).1⟩⟩
  rw [Int.mul_one]
 done:=by
  intro X hP hw hK hc i pins s σ H E I hf st hg;subst hP hw hK;obtain⟨f0,f1,f2,f3,f4,f5⟩:=hf it (by simp)
  exact wpAny_pyNext_range_end (I.ok.hd hc) st (by have:n<=i:=hg;omega) fun h' eb=>⟨rfl,I.turned (t':=s.toks) (fun b o hb e=>eb b o hb e) f0 f1 f3 f4 f5⟩
 self:=fun _ _ _ _ _ st h=>wpAny_pyIter_rangeiter st h
section
variable{X:Cx}{tg:Expr}
def zlG(K:Ybf)(tl:TE):TI:=fun σ H R=>tl σ H fun x H1=>∃ a,x=.ref a/\(∃ xs,SqL K H1 a xs)/\R (Itl K a) H1
theorem zn8{l:Expr}{tl:TE}(hl:PE X l tl):PI X tg l (zlG X.K tl):=by
 intro pins s σ H R I h;refine thn (hl pins s σ H _ I h) fun v s1 ⟨x,H1,I1,r1,q1⟩=>?_
 obtain⟨a,e,⟨xs,hq⟩,q⟩:=q1;subst e;cases r1;obtain⟨its,rv,p,hz⟩:=I1.list hq;refine wpAny_pyIter_list p.isList ?_;refine⟨s1.heap.objs.size,[s1.heap.objs.size],_,_,H1,rfl,I1.kept (t':=s1.toks) fun b o e=>YaW _ e,zgc a _,⟨_,Yan _ rfl,rfl,rfl⟩,fun b hb=>?_,q⟩
 have e:b=s1.heap.objs.size:=by simpa using hb
 subst e;exact I1.fpOk (YaY _) (I1.hok.fresh (YaY _))
theorem zfm{pins:List (Addr×Obj)}{σ : St}{H:Hp}{s:Shared}{R:It->Hp->Prop}{E:Value->Shared->Prop}{lo hi:Int}{t u v:Tok}{tk:Nat}(I:Inv X pins σ H s)(h1:-(2 ^ 62)<=lo)(h2:lo<2 ^ 62)(h3:-(2 ^ 62)<=hi)(h4:hi<2 ^ 62)
 (q:R (Itr lo (hi - lo).toNat) H):wpAny (model X.prog X.w) X.A (pyIter (.ref s.heap.objs.size)) (PIE X pins σ tg R) E { s with heap:=s.heap.push { cls:=.type "range", data:=.fields #[.int lo t,.int hi u,.int 1 v] },toks:=tk }:=by
 refine wpAny_pyIter_range (IsRange.new ..) (small_one h1 h2 h3 h4) ?_
 have I1:Inv X pins σ H { s with heap:=s.heap.push { cls:=.type "range", data:=.fields #[.int lo t,.int hi u,.int 1 v] },toks:=tk }:=I.kept fun b o e=>YaW _ e
 refine⟨(s.heap.push { cls:=.type "range", data:=.fields #[.int lo t,.int hi u,.int 1 v] }).objs.size,[(s.heap.push { cls:=.type "range", data:=.fields #[.int lo t,.int hi u,.int 1 v] }).objs.size],_,_,H,rfl,
  I1.kept (t':=tk) fun b o e=>YaW _ e,zgW _ lo (hi - lo).toNat,?_,fun b hb=>?_,q⟩
 . have e1:lo+((0:Nat):Int)*1=lo:=by simp
   have e2:(((hi - lo).toNat:Nat):Int) - ((0:Nat):Int)=Builtin.Range.rangeSize lo hi 1:=by rw [rangeSize_one];split<;>omega
   show IsRangeIter _ _ (lo+((0:Nat):Int)*1) ((((hi - lo).toNat:Nat):Int) - ((0:Nat):Int)) 1
   rw [e1,e2];exact Yan _ rfl
 . have e:b=(s.heap.push { cls:=.type "range", data:=.fields #[.int lo t,.int hi u,.int 1 v] }).objs.size:=by simpa using hb
   subst e;exact I1.fpOk (YaY _) (I1.hok.fresh (YaY _))
def zns(ta:TA):TI:=fun σ H R=>ta σ H fun vs H1=>∃ j:Int,vs=[.int j]/\-(2 ^ 62)<=j/\j<2 ^ 62/\R (Itr 0 j.toNat) H1
def zgY(ta:TA):TI:=fun σ H R=>ta σ H fun vs H1=>∃ i j:Int,vs=[.int i,.int j]/\(-(2 ^ 62)<=i/\i<2 ^ 62/\-(2 ^ 62)<=j/\j<2 ^ 62)/\R (Itr i (j - i).toNat) H1
theorem zik{a:Expr}{ta:TA}{p pos:Pos}(hg:Gl X "range")(hm:X.mg "range" = none)(ha:PA X [a] ta)(hs:starEach [a] X.env=[(false,eval a X.env)]:=by rfl):PI X tg (.Call (.Name "range" p) [a] [] pos) (zns ta):=by
 intro pins s σ H R I h;refine Call_ (jW I hg hm boot_range (Wad (thn (ha pos pins s σ H _ I h) fun us s1 ⟨vs,H1,I1,r1,q1⟩=>?_) hs rfl))
 obtain⟨j,e,q1,q2,q⟩:=q1;subst e;cases r1 with
 | cons r rr=>
  cases rr;obtain⟨t,rfl⟩:=r
  exact call_range_1 (zfm I1 #[0] #[0] q1 q2 (by simpa using q))
theorem zjd{a b:Expr}{ta:TA}{p pos:Pos}(hg:Gl X "range")(hm:X.mg "range" = none)(ha:PA X [a,b] ta)(hs:starEach [a,b] X.env=[(false,eval a X.env),(false,eval b X.env)]:=by rfl)(hs2:starEach [b] X.env=[(false,eval b X.env)]:=by rfl) :
 PI X tg (.Call (.Name "range" p) [a,b] [] pos) (zgY ta):=by
 intro pins s σ H R I h;refine Call_ (jW I hg hm boot_range (Wad (thn (ha pos pins s σ H _ I h) fun us s1 ⟨vs,H1,I1,r1,q1⟩=>?_) (by rw [hs,hs2]) (by rw [hs2];rfl)))
 obtain⟨i,j,e,⟨q1,q2,q3,q4⟩,q⟩:=q1;subst e;cases r1 with
 | cons r rr=>
  cases rr with
  | cons r' rr=>
   cases rr;obtain⟨t,rfl⟩:=r
   obtain⟨t',rfl⟩:=r';exact call_range_2 (zfm I1 q1 q2 q3 q4 q)
def tFor(wi:TI)(g:TG)(tb:TS):TS:=fun D σ H=>wi σ H fun J H1=>∃ W:Nat->Nat->St->Hp->Prop,(∃ m,W 0 m σ H1)/\∀ i m σ H,W i m σ H->
 (J.stop i H/\D.nx σ H)\/(J.go i H/\∃ N:St->Hp->Prop,(∀ σ' H',N σ' H'->∃ m',m'<m/\W (i+1) m' σ' H')/\∀ x H',J.yld i H x H'->g x σ H' fun σ2 H2=>tb { D with nx:=N,ct:=N,bk:=D.nx } σ2 H2)
def zaE(fp:List Addr)(h:Heap):List (Addr×Obj):=fp.filterMap fun b=>(h.get? b).map fun o=>(b,o)
theorem zbC{fp:List Addr}{h:Heap}{b:Addr}{o:Obj}(hb:b∈fp)(e:h.get? b=some o):(b,o)∈zaE fp h:=List.mem_filterMap.mpr ⟨b,hb,by rw [e];rfl⟩
theorem zmd{fp:List Addr}{h:Heap}{p:Addr×Obj}(hp:p∈zaE fp h):p.1∈fp/\h.get? p.1=some p.2:=by
 obtain⟨b,hb,e⟩:=List.mem_filterMap.mp hp;cases q:h.get? b with
 | none=>rw [q] at e;cases e
 | some o=>
  rw [q] at e;have e':(b,o)=p:=Wbe e;subst e';exact⟨hb,q⟩
theorem Inv.pinned{pins:List (Addr×Obj)}{σ : St}{H:Hp}{s:Shared}{fp:List Addr}(I:Inv X pins σ H s)(hf:∀ b∈fp,FpOk X pins H b)(ho:∀ b∈fp,∃ o,s.heap.get? b=some o/\∀ v,o.data≠.cell v):Inv X (pins++zaE fp s.heap) σ H s:=
 I.pins_of fun p hp=>(Ya3.mp hp).elim (fun z=>I.pin p (Yaa _ z)) fun z=>by
  obtain⟨hb,e⟩:=zmd z;obtain⟨f0,f1,f2,_⟩:=hf p.1 hb;obtain⟨o,e',d⟩:=ho p.1 hb;rw [e] at e';cases e';exact⟨e,f0,f1,f2,d⟩
theorem Inv.unpinned{pins pl:List (Addr×Obj)}{σ : St}{H:Hp}{s:Shared}(I:Inv X (pins++pl) σ H s):Inv X pins σ H s:=I.pins_of fun p hp=>I.pin p (Yaa _ (Yai _ hp))
theorem zex{iter:Expr}{body:List Stmt}{wi:TI}{g:TG}{tb:TS}{pos:Pos}(hp:PassesOwn (model X.prog X.w) X.A X.env X.xe)(hc:X.calm=true)(hi:PI X tg iter wi)(hg:PG X tg g)(hb:PSs X body tb)
 (hs:∀ x,foldedSetIterable iter X.env x=pure x:=by intro _;rfl):PS X (.For tg iter body [] pos) (tFor wi g tb):=by
 intro pins s σ H D I h;refine wpAny_For (thn (hi pins s σ H _ I h) fun v s1 h1=>thn h1 fun itv s2 h2=>?_) hs
 obtain⟨it,fp,tn,J,H2,e,I2,T,st2,f2,W,⟨m0,w0⟩,turn⟩:=h2;subst e;have stat:∀ {H':Hp},(∀ b∈fp,H' b=none)->∀ b∈fp,FpOk X pins H' b:=fun hn b hb=>⟨hn b hb,(f2 b hb).2⟩
 refine codeAny_forLoop_any (fun n s'=>∃ i σ' H',Inv X pins σ' H' s'/\tn i s'.heap/\(∀ b∈fp,H' b=none)/\W i n σ' H') ?_ m0 ⟨0,σ,H2,I2,st2,fun b hb=>(f2 b hb).1,w0⟩
 rintro n s3 ⟨i,σ3,H3,I3,st3,fr3,w3⟩
 rcases turn i n σ3 H3 w3 with ⟨stop,qn⟩|⟨go,N,hN,step⟩
 . refine wpAny_passesOwn hp (thn (T.done X rfl rfl rfl hc i pins s3 σ3 H3 X.xe I3 (stat fr3) st3 stop) fun r s4 ⟨hr,I4⟩=>?_)
   subst hr;exact wpAny_execs_nil ⟨σ3,H3,I4,qn⟩
 . refine wpAny_passesOwn hp (thn (T.item X rfl rfl rfl hc i pins s3 σ3 H3 X.xe I3 (stat fr3) st3 go) fun r s4 ⟨u,hr,h4⟩=>?_)
   subst hr;refine wpAny_passesOwn hp (thn h4 fun _ s5 ⟨x,H5,I5,r5,y5,st5,fr5⟩=>?_)
   have I5':=I5.pinned (stat fr5) (T.obj _ _ st5);refine wpAny_passesOwn hp (thn (hg _ s5 σ3 H5 x u _ I5' r5 (step x H5 y5)) fun _ s6 ⟨σ6,H6,I6,q6⟩=>?_)
   refine wpAny_passesOwn hp (thn (hb _ s6 σ6 H6 _ I6 q6) fun f s7 q7=>?_)
   have again:∀ {σ7:St} {H7:Hp},Inv X (pins++zaE fp s5.heap) σ7 H7 s7->N σ7 H7->∃ m,m<n/\∃ i σ' H',Inv X pins σ' H' s7/\tn i s7.heap/\(∀ b∈fp,H' b=none)/\W i m σ' H':=fun {σ7 H7} I7 n7=>by
    obtain⟨m',hm,w7⟩:=hN σ7 H7 n7;refine⟨m',hm,i+1,σ7,H7,I7.unpinned,T.keep _ _ _ st5 fun b hb o e=>(I7.pin (b,o) (Yaa _ (Yaa _ (zbC hb e)))).1,fun b hb=>?_,w7⟩
    obtain⟨o,e,d⟩:=T.obj _ _ st5 b hb;exact(I7.pin (b,o) (Yaa _ (Yaa _ (zbC hb e)))).2.1
   cases f with
   | next=>obtain⟨σ7,H7,I7,n7⟩:=q7;exact again I7 n7
   | cont=>obtain⟨σ7,H7,I7,n7⟩:=q7;exact again I7 n7
   | brk=>obtain⟨σ7,H7,I7,q7⟩:=q7;exact⟨σ7,H7,I7.unpinned,q7⟩
   | ret v=>obtain⟨x7,σ7,H7,I7,r7,q7⟩:=q7;exact⟨x7,σ7,H7,I7.unpinned,r7,q7⟩
end
theorem j0{K:Ybf}{a:Addr}{xs:List V}{g:TG}{tb:TS}{D:Ends}{σ : St}{H:Hp}(Pv:Nat->St->Hp->Prop)(h0:Pv 0 σ H)(hl:∀ i σ H,i<=xs.length->Pv i σ H->SqL K H a xs)
 (hs:∀ i x σ H,xs[i]?=some x->Pv i σ H->g x σ H fun σ2 H2=>tb { D with nx:=Pv (i+1),ct:=Pv (i+1),bk:=D.nx } σ2 H2) (hd:∀ σ H,Pv xs.length σ H->D.nx σ H) :
 ∃ W:Nat->Nat->St->Hp->Prop,(∃ m,W 0 m σ H)/\∀ i m σ H,W i m σ H->
  ((Itl K a).stop i H/\D.nx σ H)\/((Itl K a).go i H/\∃ N:St->Hp->Prop,(∀ σ' H',N σ' H'->∃ m',m'<m/\W (i+1) m' σ' H')/\∀ x H',(Itl K a).yld i H x H'->g x σ H' fun σ2 H2=>tb { D with nx:=N,ct:=N,bk:=D.nx } σ2 H2):=by
 refine⟨fun i m σ H=>m=xs.length - i/\i<=xs.length/\Pv i σ H,⟨xs.length,by simp,WbH _,h0⟩,?_⟩
 rintro i m σ H ⟨rfl,hi,p⟩
 have q:=hl i σ H hi p
 by_cases hlt:i<xs.length
 . refine .inr ⟨⟨xs,xs[i],q,by simp [hlt]⟩,Pv (i+1),fun σ' H' p'=>⟨xs.length - (i+1),#[0],rfl,hlt,p'⟩,fun x H' y=>?_⟩
   obtain⟨e,y⟩:=y;subst e;exact hs i x σ _ (y xs q) p
 . have e:i=xs.length:=#[0]
   subst e;exact .inl ⟨⟨xs,q,YaY _⟩,hd σ H p⟩
theorem Jx{c:TT}{tb:TS}{D:Ends}{σ : St}{H:Hp}(Pv:St->Hp->Prop)(μ : St->Hp->Nat)(h0:Pv σ H)
 (hs:∀ σ H,Pv σ H->c σ H fun b H1=>if b=true then tb { D with nx:=fun σ' H'=>Pv σ' H'/\μ σ' H' < μ σ H,ct:=fun σ' H'=>Pv σ' H'/\μ σ' H' < μ σ H,bk:=D.nx } σ H1 else D.nx σ H1)
 (mono:∀ σ H Q Q',(∀ b H1,Q b H1->Q' b H1)->c σ H Q->c σ H Q'):zfj c tb D σ H:=by
 refine⟨fun m σ H=>m = μ σ H/\Pv σ H,⟨_,rfl,h0⟩,?_⟩
 rintro m σ H ⟨rfl,p⟩
 refine mono σ H _ _ (fun b H1 q=>?_) (hs σ H p)
 cases b with
 | true=>exact⟨_,fun σ' H' ⟨p',l⟩=>⟨_,l,rfl,p'⟩,q⟩
 | false=>exact q
abbrev R2:=V->V->Hp->VK->Prop
def OpR(X:Cx)(f:Value->Value->Sem Value)(r:R2):Prop:=
 ∀ (pins:List (Addr×Obj)) (s:Shared) (σ : St) (H:Hp) (x y:V) (v u:Value) (Q:VK),Inv X pins σ H s->RelV x v->RelV y u->r x y H Q->
  wpAny (model X.prog X.w) X.A (f v u) (EP X pins σ Q) X.xe s
def UnR(X:Cx)(f:Value->Sem Value)(r:V->Hp->VK->Prop):Prop:=
 ∀ (pins:List (Addr×Obj)) (s:Shared) (σ : St) (H:Hp) (x:V) (v:Value) (Q:VK),Inv X pins σ H s->RelV x v->r x H Q->
  wpAny (model X.prog X.w) X.A (f v) (EP X pins σ Q) X.xe s
def zI(X:Cx)(f:Value)(r:List V->Hp->VK->Prop):Prop:=
 ∀ (pins:List (Addr×Obj)) (s:Shared) (σ : St) (H:Hp) (xs:List V) (us:List Value) (Q:VK),Inv X pins σ H s->Vals xs us->r xs H Q->
  wpAny (model X.prog X.w) X.A (call f us) (EP X pins σ Q) X.xe s
def tOp(r:R2)(ta tb:TE):TE:=fun σ H Q=>ta σ H fun x H1=>tb σ H1 fun y H2=>r x y H2 Q
def tUn(r:V->Hp->VK->Prop)(ta:TE):TE:=fun σ H Q=>ta σ H fun x H1=>r x H1 Q
def rI(C:Int->Int->Prop)(g:Int->Int->V):R2:=fun x y H Q=>∃ i j,x=.int i/\y=.int j/\C i j/\Q (g i j) H
def rI0(g:Int->Int->V):R2:=fun x y H Q=>∃ i j,x=.int i/\y=.int j/\Q (g i j) H
def rU(g:Int->V):V->Hp->VK->Prop:=fun x H Q=>∃ i,x=.int i/\Q (g i) H
section
variable{X:Cx}{a b c:Expr}{ta tb tc:TE}{pos:Pos}
theorem binT(ha:PE X a ta)(hb:PE X b tb){pins:List (Addr×Obj)}{s:Shared}{σ : St}{H:Hp}{R:V->V->Hp->Prop}(I:Inv X pins σ H s)
 (h:ta σ H fun x H1=>tb σ H1 fun y H2=>R x y H2) {Q:Value->Shared->Prop} {f:Value->Value->Sem Value}
 (hf:∀ v u s2 x y H2,Inv X pins σ H2 s2->RelV x v->RelV y u->R x y H2->wpAny (model X.prog X.w) X.A (f v u) Q X.xe s2) :
 wpAny (model X.prog X.w) X.A (eval a X.env) (fun v s₁=>wpAny (model X.prog X.w) X.A (eval b X.env) (fun u s₂=>wpAny (model X.prog X.w) X.A (f v u) Q X.xe s₂) X.xe s₁) X.xe s:=by
 refine thn (ha pins s σ H _ I h) fun v s1 ⟨x,H1,I1,r1,q1⟩=>?_
 refine thn (hb pins s1 σ H1 _ I1 q1) fun u s2 ⟨y,H2,I2,r2,q2⟩=>?_
 exact hf v u s2 x y H2 I2 r1 r2 q2
theorem zcw{op:Operator}{r:R2}(ho:OpR X (binaryOp op) r)(ha:PE X a ta)(hb:PE X b tb):PE X (.BinOp a op b pos) (tOp r ta tb):=by
 intro pins s σ H Q I h;exact wpAny_BinOp (binT ha hb I h fun v u s2 x y H2 I2 rx ry q=>ho pins s2 σ H2 x y v u Q I2 rx ry q)
theorem zgL{op:UnaryOp}{r:V->Hp->VK->Prop}(ho:UnR X (unaryOp op) r)(ha:PE X a ta):PE X (.UnaryOp op a pos) (tUn r ta):=by
 intro pins s σ H Q I h;exact UnaryOp_ (thn (ha pins s σ H _ I h) fun v s1 ⟨x,H1,I1,r1,q1⟩=>ho pins s1 σ H1 x v Q I1 r1 q1)
theorem opI{f:Value->Value->Sem Value}{C:Int->Int->Prop}{g:Int->Int->Int}
 (rule:∀ (i j:Int) (t u:Tok) (s:Shared) (Q:Value->Shared->Prop) (E:Value->Shared->Prop),C i j->Q (.int (g i j) s.toks) { s with toks:=s.toks+1 }->wpAny (model X.prog X.w) X.A (f (.int i t) (.int j u)) Q E s) :
 OpR X f (rI C fun i j=>.int (g i j)):=by
 intro pins s σ H x y v u Q I rx ry h;obtain⟨i,j,rfl,rfl,hc,q⟩:=h;obtain⟨t,rfl⟩:=rx;obtain⟨t',rfl⟩:=ry;exact rule i j t t' s _ _ hc ⟨.int (g i j),H,I.tok _,⟨_,rfl⟩,q⟩
theorem opI0{f:Value->Value->Sem Value}{g:Int->Int->Int}
 (rule:∀ (i j:Int) (t u:Tok) (s:Shared) (Q:Value->Shared->Prop) (E:Value->Shared->Prop),Q (.int (g i j) s.toks) { s with toks:=s.toks+1 }->wpAny (model X.prog X.w) X.A (f (.int i t) (.int j u)) Q E s) :
 OpR X f (rI0 fun i j=>.int (g i j)):=by
 intro pins s σ H x y v u Q I rx ry h;obtain⟨i,j,rfl,rfl,q⟩:=h;obtain⟨t,rfl⟩:=rx;obtain⟨t',rfl⟩:=ry;exact rule i j t t' s _ _ ⟨.int (g i j),H,I.tok _,⟨_,rfl⟩,q⟩
theorem opB0{f:Value->Value->Sem Value}{g:Int->Int->Bool}
 (rule:∀ (i j:Int) (t u:Tok) (s:Shared) (Q:Value->Shared->Prop) (E:Value->Shared->Prop),Q (.bool (g i j)) s->wpAny (model X.prog X.w) X.A (f (.int i t) (.int j u)) Q E s) :
 OpR X f (rI0 fun i j=>.bl (g i j)):=by
 intro pins s σ H x y v u Q I rx ry h;obtain⟨i,j,rfl,rfl,q⟩:=h;obtain⟨t,rfl⟩:=rx;obtain⟨t',rfl⟩:=ry;exact rule i j t t' s _ _ ⟨.bl (g i j),H,I,rfl,q⟩
def CMul(i j:Int):Prop:=(-(2 ^ 64)<i/\i<2 ^ 64)\/(-(2 ^ 64)<j/\j<2 ^ 64)
theorem CMul.ok{i j:Int}(h:CMul i j):IntMulOk i j:=by
 rcases h with ⟨h1,h2⟩|⟨h1,h2⟩
 . exact .of_left (intBits_le_64 h1 h2)
 . exact .of_right (intBits_le_64 h1 h2)
theorem zjf:OpR X (binaryOp .Add) (rI0 fun i j=>.int (i+j)):=opI0 fun _ _ _ _ _ _ _ q=>add_int q
theorem zgo:OpR X (binaryOp .Sub) (rI0 fun i j=>.int (i - j)):=opI0 fun _ _ _ _ _ _ _ q=>sub_int q
theorem zju:OpR X (binaryOp .Mod) (rI (fun _ j=>0<j) fun i j=>.int (i%j)):=opI fun i j _ _ _ _ _ hc q=>by
 have h1:(0:Int)<j:=hc;exact mod_int' #[0] (by rw [Int.fmod_eq_emod_of_nonneg i #[0]];exact q)
theorem unI{f:Value->Sem Value}{g:Int->Int}
 (rule:∀ (i:Int) (t:Tok) (s:Shared) (Q:Value->Shared->Prop) (E:Value->Shared->Prop),Q (.int (g i) s.toks) { s with toks:=s.toks+1 }->wpAny (model X.prog X.w) X.A (f (.int i t)) Q E s) :
 UnR X f (rU fun i=>.int (g i)):=by
 intro pins s σ H x v Q I rx h;obtain⟨i,rfl,q⟩:=h;obtain⟨t,rfl⟩:=rx;exact rule i t s _ _ ⟨.int (g i),H,I.tok _,⟨_,rfl⟩,q⟩
theorem zgP:UnR X (unaryOp .USub) (rU fun i=>.int (-i)):=unI fun _ _ _ _ _ q=>neg_int q
end
def scal:V->V->Bool
 | .non,.non=>true|.non,.int _=>true|.int _,.non=>true|.non,.bl _=>true|.bl _,.non=>true|.non,.str _=>true|.str _,.non=>true
 | .int _,.int _=>true|.bl _,.bl _=>true|.str _,.str _=>true|.byt _,.byt _=>true
 | .int _,.str _=>true|.str _,.int _=>true|.bl _,.str _=>true|.str _,.bl _=>true
 | _,_=>false
def rEq:R2:=fun x y H Q=>scal x y=true/\Q (.bl (decide (x=y))) H
def rNe:R2:=fun x y H Q=>scal x y=true/\Q (.bl (!decide (x=y))) H
theorem zdZ{i j:Int}:decide (V.int i=V.int j)=(i==j):=by
 rw [Bool.eq_iff_iff]
 simp
theorem zfc{i j:Bool}:decide (V.bl i=V.bl j)=(i==j):=by
 rw [Bool.eq_iff_iff]
 simp
theorem zdk{i j:Str}:decide (V.str i=V.str j)=(i==j):=by
 rw [Bool.eq_iff_iff]
 simp
theorem zeT{i j:Array UInt8}:decide (V.byt i=V.byt j)=(i.toList==j.toList):=by
 rw [Bool.eq_iff_iff];cases i;cases j
 simp
section
variable{X:Cx}{a b c:Expr}{ta tb tc:TE}{pos:Pos}
theorem zD{pins:List (Addr×Obj)}{σ : St}{H:Hp}{s:Shared}{Q:VK}{k k':Bool}(I:Inv X pins σ H s)(q:Q (.bl k) H)(e:k=k'):EP X pins σ Q (.bool k') s:=by
 subst e;exact⟨.bl k,H,I,rfl,q⟩
theorem zjC:OpR X (compareOp .Eq) rEq:=by
 intro pins s σ H x y v u Q I rx ry h;obtain⟨hs,q⟩:=h;cases x with
 | non=>
  cases rx;cases y with
  | non=>cases ry;exact PySem.EqNone.eq_none_none (zD I q (by simp))
  | bl j=>cases ry;exact PySem.EqNone.eq_none_bool (zD I q (by simp))
  | int j=>obtain⟨t',rfl⟩:=ry;exact PySem.EqNone.eq_none_int (zD I q (by simp))
  | str j=>obtain⟨t',rfl⟩:=ry;exact PySem.EqNone.eq_none_str (zD I q (by simp))
  | _=>exact absurd (show false=true from hs) Yal
 | bl i=>
  cases rx;cases y with
  | non=>cases ry;exact PySem.EqNone.eq_bool_none (zD I q (by simp))
  | bl j=>cases ry;exact eq_bool (zD I q zfc)
  | str j=>obtain⟨t',rfl⟩:=ry;exact PySem.EqMixed.eq_bool_str (zD I q (by simp))
  | _=>exact absurd (show false=true from hs) Yal
 | int i=>
  obtain⟨t,rfl⟩:=rx;cases y with
  | non=>cases ry;exact PySem.EqNone.eq_int_none (zD I q (by simp))
  | int j=>obtain⟨t',rfl⟩:=ry;exact eq_int (zD I q zdZ)
  | str j=>obtain⟨t',rfl⟩:=ry;exact PySem.EqMixed.eq_int_str (zD I q (by simp))
  | _=>exact absurd (show false=true from hs) Yal
 | str i=>
  obtain⟨t,rfl⟩:=rx;cases y with
  | non=>cases ry;exact PySem.EqNone.eq_str_none (zD I q (by simp))
  | bl j=>cases ry;exact PySem.EqMixed.eq_str_bool (zD I q (by simp))
  | int j=>obtain⟨t',rfl⟩:=ry;exact PySem.EqMixed.eq_str_int (zD I q (by simp))
  | str j=>obtain⟨t',rfl⟩:=ry;exact eq_str (zD I q zdk)
  | _=>exact absurd (show false=true from hs) Yal
 | byt i=>
  obtain⟨t,rfl⟩:=rx;cases y with
  | byt j=>obtain⟨t',rfl⟩:=ry;exact PySem.W.eq_bytes (zD I q zeT)
  | _=>exact absurd (show false=true from hs) Yal
 | _=>cases y<;>exact absurd (show false=true from hs) Yal
theorem ziZ:OpR X (compareOp .NotEq) rNe:=by
 intro pins s σ H x y v u Q I rx ry h;obtain⟨hs,q⟩:=h;cases x with
 | non=>
  cases rx;cases y with
  | non=>cases ry;exact PySem.EqNone.ne_none_none (zD I q (by simp))
  | bl j=>cases ry;exact PySem.EqNone.ne_none_bool (zD I q (by simp))
  | int j=>obtain⟨t',rfl⟩:=ry;exact PySem.EqNone.ne_none_int (zD I q (by simp))
  | str j=>obtain⟨t',rfl⟩:=ry;exact PySem.EqNone.ne_none_str (zD I q (by simp))
  | _=>exact absurd (show false=true from hs) Yal
 | bl i=>
  cases rx;cases y with
  | non=>cases ry;exact PySem.EqNone.ne_bool_none (zD I q (by simp))
  | bl j=>cases ry;exact ne_bool (zD I q (congrArg not zfc))
  | str j=>obtain⟨t',rfl⟩:=ry;exact PySem.EqMixed.ne_bool_str (zD I q (by simp))
  | _=>exact absurd (show false=true from hs) Yal
 | int i=>
  obtain⟨t,rfl⟩:=rx;cases y with
  | non=>cases ry;exact PySem.EqNone.ne_int_none (zD I q (by simp))
  | int j=>obtain⟨t',rfl⟩:=ry;exact ne_int (zD I q (congrArg not zdZ))
  | str j=>obtain⟨t',rfl⟩:=ry;exact PySem.EqMixed.ne_int_str (zD I q (by simp))
  | _=>exact absurd (show false=true from hs) Yal
 | str i=>
  obtain⟨t,rfl⟩:=rx;cases y with
  | non=>cases ry;exact PySem.EqNone.ne_str_none (zD I q (by simp))
  | bl j=>cases ry;exact PySem.EqMixed.ne_str_bool (zD I q (by simp))
  | int j=>obtain⟨t',rfl⟩:=ry;exact PySem.EqMixed.ne_str_int (zD I q (by simp))
  | str j=>obtain⟨t',rfl⟩:=ry;exact ne_str (zD I q (congrArg not zdk))
  | _=>exact absurd (show false=true from hs) Yal
 | byt i=>
  obtain⟨t,rfl⟩:=rx;cases y with
  | byt j=>obtain⟨t',rfl⟩:=ry;exact PySem.W.ne_bytes (zD I q (congrArg not zeT))
  | _=>exact absurd (show false=true from hs) Yal
 | _=>cases y<;>exact absurd (show false=true from hs) Yal
theorem zn7:OpR X (compareOp .Lt) (rI0 fun i j=>.bl (decide (i<j))):=opB0 fun _ _ _ _ _ _ _ q=>lt_int q
theorem zjY:OpR X (compareOp .LtE) (rI0 fun i j=>.bl (decide (i<=j))):=opB0 fun _ _ _ _ _ _ _ q=>le_int q
theorem zoi:OpR X (compareOp .Gt) (rI0 fun i j=>.bl (decide (j<i))):=opB0 fun _ _ _ _ _ _ _ q=>gt_int q
theorem zge:OpR X (compareOp .GtE) (rI0 fun i j=>.bl (decide (j<=i))):=opB0 fun _ _ _ _ _ _ _ q=>ge_int q
theorem zhD:OpR X (compareOp .Is) (fun x y H Q=>y=.non/\Q (.bl (decide (x=.non))) H):=by
 intro pins s σ H x y v u Q I rx ry h;obtain⟨rfl,q⟩:=h;cases ry;refine is_none_gen (zD I q ?_);cases x<;>first
  | (cases rx;rfl)
  | (obtain⟨t,rfl⟩:=rx;rfl)
theorem zlp:OpR X (compareOp .IsNot) (fun x y H Q=>y=.non/\Q (.bl (!decide (x=.non))) H):=by
 intro pins s σ H x y v u Q I rx ry h;obtain⟨rfl,q⟩:=h;cases ry;refine isnot_none_gen (zD I q ?_);cases x<;>first
  | (cases rx;rfl)
  | (obtain⟨t,rfl⟩:=rx;rfl)
theorem OpR.or{f:Value->Value->Sem Value}{r r':R2}(h:OpR X f r)(h':OpR X f r'):OpR X f (fun x y H Q=>r x y H Q\/r' x y H Q):=by
 intro pins s σ H x y v u Q I rx ry q
 rcases q with q|q
 . exact h pins s σ H x y v u Q I rx ry q
 . exact h' pins s σ H x y v u Q I rx ry q
theorem nomark(b:Expr){op:CmpOp}(h:op≠.In:=by decide)(h2:op≠.NotIn:=by decide):behindInMarks op b=false:=by
 have e1:(op==CmpOp.In)=false:=by cases op<;>first|rfl|exact absurd rfl h
 have e2:(op==CmpOp.NotIn)=false:=by cases op<;>first|rfl|exact absurd rfl h2
 cases b<;>simp [behindInMarks,e1,e2]
theorem zhb{op:CmpOp}{r:R2}(ho:OpR X (compareOp op) r)(ha:PE X a ta)(hb:PE X b tb)(hm:behindInMarks op b=false):PE X (.Compare a [op] [b] pos) (tOp r ta tb):=by
 intro pins s σ H Q I h;exact wpAny_Compare1 (binT ha hb I h fun v u s2 x y H2 I2 rx ry q=>ho pins s2 σ H2 x y v u Q I2 rx ry q) hm
def zaO(t:TE):TT:=fun σ H Q=>t σ H fun x H'=>∃ k,x=.bl k/\Q k H'
theorem zh7{op:CmpOp}{r:R2}(ho:OpR X (compareOp op) r)(ha:PE X a ta)(hb:PE X b tb)(hm:behindInMarks op b=false):PT X (.Compare a [op] [b] pos) (zaO (tOp r ta tb)):=by
 intro pins s σ H Q I h;refine wpAny_isTrue_Compare1 (thn (ha pins s σ H _ I h) fun v s1 ⟨x,H1,I1,r1,q1⟩=>thn (hb pins s1 σ H1 _ I1 q1) fun u s2 ⟨y,H2,I2,r2,q2⟩=>
  thn (ho pins s2 σ H2 x y v u _ I2 r1 r2 q2) fun c s3 ⟨z,H3,I3,r3,k,e,q3⟩=>?_) hm
 subst e;cases r3;exact wpAny_truthy_bool ⟨H3,I3,q3⟩
def zfq(r r':R2)(ta tb tc:TE):TE:=fun σ H Q=>ta σ H fun x H1=>tb σ H1 fun y H2=>r x y H2 fun z H3=>∃ k,z=.bl k/\
 (if k=true then tc σ H3 fun w' H4=>r' y w' H4 Q else Q (.bl false) H3)
theorem zjM{op op':CmpOp}{r r':R2}(ho:OpR X (compareOp op) r)(ho':OpR X (compareOp op') r')(ha:PE X a ta)(hb:PE X b tb)(hc:PE X c tc)
 (hm:lastMarks [op,op'] [b,c]=false:=by with_unfolding_all rfl):PT X (.Compare a [op,op'] [b,c] pos) (zaO (zfq r r' ta tb tc)):=by
 intro pins s σ H Q I h;refine isTrue_chain (thn (ha pins s σ H _ I h) fun v s1 ⟨x,H1,I1,r1,q1⟩=>test_link (thn (hb pins s1 σ H1 _ I1 q1) fun u s2 ⟨y,H2,I2,r2,q2⟩=>
  thn (ho pins s2 σ H2 x y v u _ I2 r1 r2 q2) fun d s3 ⟨z,H3,I3,r3,k,e,q3⟩=>?_)) hm
 subst e;cases r3;refine wpAny_truthy_bool ?_;cases k with
 | false=>
  obtain⟨k',e',q'⟩:=q3;cases e';exact ite_ff ⟨H3,I3,q'⟩
 | true=>
  refine ite_tt (test_last (thn (hc pins s3 σ H3 _ I3 q3) fun w' s4 ⟨z',H4,I4,r4,q4⟩=>thn (ho' pins s4 σ H4 y z' u w' _ I4 r2 r4 q4) fun d' s5 ⟨z2,H5,I5,r5,k2,e2,q5⟩=>?_))
  subst e2;cases r5;exact wpAny_truthy_bool ⟨H5,I5,q5⟩
theorem JI:(sizeLine:Nat)<2 ^ 63:=by rw [sizeLine_eq];decide
theorem zob:OpR X (binaryOp .Add) (fun x y H Q=>∃ i j,x=.str i/\y=.str j/\i.length+j.length<=sizeLine/\Q (.str (i++j)) H):=by
 intro pins s σ H x y v u Q I rx ry h;obtain⟨i,j,rfl,rfl,hz,q⟩:=h;obtain⟨t,rfl⟩:=rx;obtain⟨t',rfl⟩:=ry;exact add_str (fun t' tk=>⟨.str (i++j),H,I.tok _,⟨_,rfl⟩,q⟩) hz
theorem j9{x:V}{us:List Value}(r:Vals [x] us):∃ u,us=[u]/\RelV x u:=by
 cases r with
 | cons r1 r2=>cases r2;exact⟨_,rfl,r1⟩
theorem zbt{x y:V}{us:List Value}(r:Vals [x,y] us):∃ u w',us=[u,w']/\RelV x u/\RelV y w':=by
 cases r with
 | cons r1 r2=>
  cases r2 with
  | cons r3 r4=>cases r4;exact⟨_,_,rfl,r1,r3⟩
theorem znd:zI X (.builtin "abs") (fun xs H Q=>∃ i,xs=[.int i]/\Q (.int (if i<0 then -i else i)) H):=by
 intro pins s σ H xs us Q I r h;obtain⟨i,rfl,q⟩:=h;obtain⟨u,rfl,t,rfl⟩:=j9 r;exact call_abs_int fun u tk=>⟨.int (if i<0 then -i else i),H,I.tok _,⟨_,rfl⟩,q⟩
theorem zkz(hc:X.calm=true):zI X (.builtin "max") (fun xs H Q=>∃ i j,xs=[.int i,.int j]/\Q (.int (if j > i then j else i)) H):=by
 intro pins s σ H xs us Q I r h;obtain⟨i,j,rfl,q⟩:=h;obtain⟨u,w',rfl,⟨t,rfl⟩,⟨t',rfl⟩⟩:=zbt r;refine max_two_ints (I.ok.hd hc) fun h' tk k=>⟨_,H,I.kept k,?_,q⟩
 by_cases hj:j > i
 . rw [if_pos hj,if_pos hj];exact⟨_,rfl⟩
 . rw [if_neg hj,if_neg hj];exact⟨_,rfl⟩
theorem zil(hc:X.calm=true):zI X (.builtin "min") (fun xs H Q=>∃ i j,xs=[.int i,.int j]/\Q (.int (if j<i then j else i)) H):=by
 intro pins s σ H xs us Q I r h;obtain⟨i,j,rfl,q⟩:=h;obtain⟨u,w',rfl,⟨t,rfl⟩,⟨t',rfl⟩⟩:=zbt r;refine min_two_ints (I.ok.hd hc) fun h' tk k=>⟨_,H,I.kept k,?_,q⟩
 by_cases hj:j<i
 . rw [if_pos hj,if_pos hj];exact⟨_,rfl⟩
 . rw [if_neg hj,if_neg hj];exact⟨_,rfl⟩
end
structure ObjM(h:Heap)(x dx C:Addr)(mA:Str->Option Value):Prop where
 obj:h.get? x=some (PySem.W.instObj C dx)
 ns:h.Ns1 dx mA
 ne:dx≠x
theorem zjq{h:Heap}{dx:Addr}{mA:Str->Option Value}(n:h.Ns1 dx mA):∃ od,h.get? dx=some od/\∀ name,PySem.W.lookIn name od=some (mA name):=by
 obtain⟨o,es,ep,ho,hd,hk,_,hm⟩:=n;refine⟨o,ho,fun name=>?_⟩
 have e:=hm name;unfold nsFind findBy at e;rw [<-Array.find?_toList] at e;unfold PySem.W.lookIn;rw [hd];dsimp only
 split
 . rename_i y q
   rw [q] at e;exact congrArg some e
 . rename_i q
   rw [q] at e;have a:es.toList.any (·.refKey)=false:=by
    rw [List.any_eq_false];intro y hy;obtain⟨z,t,hkey⟩:=hk y (Array.mem_toList_iff.mp hy)
    simp [DictEntry.refKey,hkey]
   have a':¬es.toList.any (·.refKey)=true:=by rw [a];exact Yal
   rw [if_neg a'];exact congrArg some e
theorem ObjM.look{h:Heap}{x dx C:Addr}{mA:Str->Option Value}(I:ObjM h x dx C mA):∃ od,PySem.W.InstAt h x (PySem.W.instObj C dx) C (some od)/\∀ name,PySem.W.lookIn name od=some (mA name):=
 let ⟨od,ho,hl⟩:=zjq I.ns
 ⟨od,⟨I.obj,rfl,rfl,ho⟩,hl⟩
section
variable{prog:Program}{w:World}{A:Around}{E:Value->Shared->Prop}{s:Shared}{K:Ybf}{x dx C f:Addr}{mA:Str->Option Value}{name:Str}{v:Value}
end
theorem RelO.none_of{o:Option Value}(r:RelO none o):o=none:=by
 cases o with
 | none=>rfl
 | some u=>exact(show False from r).elim
section
variable{P:Program}{w:World}{H H':Hp}{h h':Heap}{a C dx:Addr}{fs fs':List (Str×V)}
end
structure Cls(K:Ybf)(C:Addr):Prop where
 pg:PySem.W.plainGet K C Str.empty=true
 hd:PySem.W.hasDictIn K C=true
 po:PySem.W.plainOver K C=true
 sa:PySem.W.findIn K (.ref C) "__setattr__" = some (some (.builtin "object.__setattr__"))
theorem Cls.get{K:Ybf}{C:Addr}(c:Cls K C)(f:Str):PySem.W.plainGet K C f=true:=c.pg
section
variable{X:Cx}{pins:List (Addr×Obj)}{σ : St}{H:Hp}{s:Shared}{a C dx:Addr}{fs:List (Str×V)}{f:Str}{v:V}{A:Around}{E:Value->Shared->Prop}
theorem Inv.made(I:Inv X pins σ H s):Inv X pins σ (upd (upd H s.heap.objs.size (.own (s.heap.objs.size+1))) (s.heap.objs.size+1) (.ins C s.heap.objs.size []))
 { s with heap:=(s.heap.push PySem.W.emptyDict).push (PySem.W.instObj C s.heap.objs.size) }:=by
 have e1:(s.heap.push PySem.W.emptyDict).get? s.heap.objs.size=some PySem.W.emptyDict:=Yan s.heap rfl;have e2:((s.heap.push PySem.W.emptyDict).push (PySem.W.instObj C s.heap.objs.size)).get? (s.heap.objs.size+1)=some (PySem.W.instObj C s.heap.objs.size):=by
  have:=Yan (s.heap.push PySem.W.emptyDict) (o:=PySem.W.instObj C s.heap.objs.size) rfl;rwa [Wbm] at this
 have e3:(s.heap.push PySem.W.emptyDict).Ns s.heap.objs.size (fun _=>none):=⟨PySem.W.emptyDict,#[],_,e1,rfl,(fun e he=>absurd he (by simp)),fun _=>rfl⟩
 have I1:=I.laid (a:=s.heap.objs.size) (o:=.own (s.heap.objs.size+1)) (h':=s.heap.push PySem.W.emptyDict) (t':=s.toks) (fun b u q=>YaW _ q) (YaY _) ⟨_,e1⟩
 refine I1.laid (a:=s.heap.objs.size+1) (o:=.ins C s.heap.objs.size []) (t':=s.toks) (fun b u q=>YaW _ q) (Nat.le_of_eq (Wbm _ _)) ?_
 have ne:s.heap.objs.size≠s.heap.objs.size+1:=Yaf (Wa4 _);refine⟨by rw [zg ne,zo],WbH _,ne,e2,fun _=>none,(Heap.Ns1.of_empty e3).at fun o q=>YaW _ q,fun _=>True.intro,fun y hy=>absurd rfl hy⟩
end
section
variable{X:Cx}{o e value:Expr}{f:Str}{pos pos' tpos:Pos}{ta tv:TE}
end
section
variable{X:Cx}{pins:List (Addr×Obj)}{σ : St}{H:Hp}{s:Shared}{A:Around}{E:Value->Shared->Prop}{Q:Value->Shared->Prop}{c:Value}{b:Bool}
end
structure Room(k:Nat)(A:Around):Prop where
 hd:A.handled=none
 dp:A.depth+3*k+5<recursionLimit
 un:A.units+16*k+200<cLine
theorem Room.mono{j k:Nat}{A:Around}(r:Room k A)(h:j<=k):Room j A:=⟨r.hd,by have:=r.dp;omega,by have:=r.un;omega⟩
theorem Room.deeper{k:Nat}{A:Around}(r:Room (k+1) A)(env:Env):Room k (A.deeper env):=
 ⟨r.hd,by have:=r.dp;show A.depth+1+3*k+5<_;omega,by have:=r.un;show A.units+3+16*k+200<_;omega⟩
theorem Room.in1{k:Nat}{A:Around}(r:Room (k+1) A):Room k A.in1:=
 ⟨r.hd,by have:=r.dp;show A.depth+3*k+5<_;omega,by have:=r.un;show A.units+1+16*k+200<_;omega⟩
theorem zlf{A:Around}{C:Addr}{us:List Value}{kw:List (Str×Value)}:(A.under (.builtin "type.__call__" ⟨.ref C::us,kw⟩)).depth=A.depth+1:=by
 first|rfl|simp [Around.under,Code.weight,Code.isCreation,Code.isGuard,Code.isCaller,Code.frames,Code.isFrame,guardIds]
theorem zim{A:Around}{C:Addr}{us:List Value}{kw:List (Str×Value)}:(A.under (.builtin "type.__call__" ⟨.ref C::us,kw⟩)).units=A.units+1:=by
 first|rfl|simp [Around.under,Code.cUnits,Code.frames,Code.isFrame]
theorem Room.make{k:Nat}{A:Around}(r:Room (k+1) A)(C:Addr)(us:List Value)(kw:List (Str×Value)):Room k (A.under (.builtin "type.__call__" ⟨.ref C::us,kw⟩)):=
 ⟨r.hd,by have:=r.dp;rw [zlf];omega,by have:=r.un;rw [zim];omega⟩
theorem Room.depth{k:Nat}{A:Around}(r:Room k A):A.depth<recursionLimit:=by have:=r.dp;omega
theorem Room.units{k:Nat}{A:Around}(r:Room k A):A.units+64<cLine:=by have:=r.un;omega
def tNil:TA:=fun _ H Q=>Q [] H
def zhB(ta:TE)(tr:TA):TA:=fun σ H Q=>ta σ H fun x H1=>tr σ H1 fun xs H2=>Q (x::xs) H2
section
variable{X:Cx}{e:Expr}{es:List Expr}{te:TE}{t:TA}{pos:Pos}
theorem jD:PA X [] tNil:=fun _ _ _ _ H Q I h=>Calls.spliced_nil ⟨[],H,I,.nil,h⟩
theorem jv(ha:PE X e te)(hr:PA X es t)(hs:starEach (e::es) X.env=(false,eval e X.env)::starEach es X.env:=by rfl):PA X (e::es) (zhB te t):=by
 intro pos pins s σ H Q I h;rw [hs];show wpAny _ _ (spliced ((false,eval e X.env)::backTo pos (starEach es X.env))) _ _ s;refine Calls.spliced_cons (thn (ha pins s σ H _ I h) fun u s1 ⟨x,H1,I1,r1,q1⟩=>?_)
 exact thn (hr pos pins s1 σ H1 _ I1 q1) fun us s2 ⟨xs,H2,I2,r2,q2⟩=>⟨x::xs,H2,I2,.cons r1 r2,q2⟩
def tTup(t:TA):TE:=fun σ H Q=>t σ H fun xs H1=>xs.length<=sizeLine/\∀ p,H1 p=none->Q (.ref p) (upd H1 p (.tup xs))
def tLst(t:TA):TE:=fun σ H Q=>t σ H fun xs H1=>xs.length<=sizeLine/\∀ p,H1 p=none->Q (.ref p) (upd H1 p (.lst xs))
theorem zmz{x1}(h:PA X es t):PE X (.Tuple es x1 pos) (tTup t):=by
 intro pins s σ H Q I hq;refine wpAny_Tuple_spliced (thn (h pos pins s σ H _ I hq) fun us s1 ⟨xs,H1,I1,r,z,q⟩=>⟨by rw [<-r.length];exact z,?_⟩)
 have hf:H1 s1.heap.objs.size=none:=I1.hok.fresh (YaY _);refine⟨.ref s1.heap.objs.size,upd H1 s1.heap.objs.size (.tup xs),I1.laid (t':=s1.toks) (fun b u e=>YaW _ e) (YaY _) ?_,rfl,q _ hf⟩
 exact⟨z,us,r,⟨_,Yan _ rfl,rfl,_,rfl⟩⟩
theorem zks(h:PA X es t):PE X (.List es pos) (tLst t):=by
 intro pins s σ H Q I hq;refine wpAny_List_spliced (thn (h pos pins s σ H _ I hq) fun us s1 ⟨xs,H1,I1,r,z,q⟩=>⟨by rw [<-r.length];exact z,?_⟩)
 have hf:H1 s1.heap.objs.size=none:=I1.hok.fresh (YaY _);refine⟨.ref s1.heap.objs.size,upd H1 s1.heap.objs.size (.lst xs),I1.laid (t':=s1.toks) (fun b u e=>YaW _ e) (YaY _) ?_,rfl,q _ hf⟩
 exact⟨z,us,0,r,Yan _ rfl⟩
end
abbrev Sp:=List V->Hp->VK->XK->Prop
abbrev CXT:=List Env->Hp->Shared->XK->Value->Shared->Prop
structure Env0(P:Program)(w:World)(K:Ybf)(mg:Str->Option Value)(base:Heap)(A:Around)(outer:List Env)(s:Shared)(H:Hp):Prop where
 frames:A.frames=some outer
 mod:Mod K mg base
 bs:∀ b o,base.get? b=some o->s.heap.get? b=some o/\H b=none
 bsz:base.objs.size<=s.heap.objs.size
 funs:s.heap.FunFrames base outer
 frf:∀ b∈frs outer,H b=none
 hok:HOk P w H s.heap
 bare:AllBare s.gens
def CE(outer:List Env)(P:Program)(w:World)(H:Hp)(s:Shared)(Q:VK)(u:Value)(s':Shared):Prop:=
 ∃ v H',s'.os=s.os/\AllBare s'.gens/\Un (frs outer) [] H H' s.heap s'.heap/\HOk P w H' s'.heap/\RelV v u/\Q v H'
def CR(CX:CXT)(outer:List Env)(P:Program)(w:World)(H:Hp)(s:Shared)(Q:VK)(E:XK)(r:Result)(s':Shared):Prop:=
 match r with
 | .ok (.ret u)=>CE outer P w H s Q u s'
 | .ok _=>False
 | .error e=>CX outer H s E e s'
structure FnOk(P:Program)(w:World)(K:Ybf)(mg:Str->Option Value)(base:Heap)(CX:CXT)(k:Nat)(f:Addr)(fd:FuncData)(ps:List Str)(sp:Sp):Prop where
 len:∀ vs H Q E,sp vs H Q E->vs.length=ps.length
 run:∀ (A:Around) (outer:List Env) (s:Shared) (H:Hp) (args:Args) (us:List Value) (vs:List V) (Q:VK) (E:XK),Room k A->Env0 P w K mg base A outer s H->BindsTo s fd args (ps.zip us)->Vals vs us->sp vs H Q E->
  codeAny (model P w) A (.call (.ref f) args) (CR CX outer P w H s Q E) s
theorem FnOk.mono{P:Program}{w:World}{K:Ybf}{mg:Str->Option Value}{base:Heap}{CX:CXT}{j k:Nat}{f:Addr}{fd:FuncData}{ps:List Str}{sp:Sp}(F:FnOk P w K mg base CX j f fd ps sp)(h:j<=k) :
 FnOk P w K mg base CX k f fd ps sp:=⟨F.len,fun A outer s H args us vs Q E hr=>F.run A outer s H args us vs Q E (hr.mono h)⟩
theorem FnOk.imp{P:Program}{w:World}{K:Ybf}{mg:Str->Option Value}{base:Heap}{CX:CXT}{k:Nat}{f:Addr}{fd:FuncData}{ps:List Str}{sp sp':Sp}(F:FnOk P w K mg base CX k f fd ps sp)
 (h:∀ vs H Q E,sp' vs H Q E->sp vs H Q E):FnOk P w K mg base CX k f fd ps sp':=
 ⟨fun vs H Q E q=>F.len vs H Q E (h _ _ _ _ q),fun A outer s H args us vs Q E hr he hb hv hs=>F.run A outer s H args us vs Q E hr he hb hv (h _ _ _ _ hs)⟩
theorem Env0.make{P:Program}{w:World}{K:Ybf}{mg:Str->Option Value}{base:Heap}{A:Around}{outer:List Env}{s:Shared}{H:Hp}(e:Env0 P w K mg base A outer s H)(C:Addr)(us:List Value)(kw:List (Str×Value)) :
 Env0 P w K mg base (A.under (.builtin "type.__call__" ⟨.ref C::us,kw⟩)) outer s H:=⟨by first|exact e.frames|(simpa [Around.under,Code.envs,Code.isFrame,pushEnvs] using e.frames),e.mod,e.bs,e.bsz,e.funs,e.frf,e.hok,e.bare⟩
section
variable{X:Cx}{pins:List (Addr×Obj)}{σ : St}{H:Hp}{s s':Shared}
theorem Inv.env0(I:Inv X pins σ H s):Env0 X.prog X.w X.K X.mg X.base X.A X.stack s H:=
 ⟨I.ok.frames,I.ok.mod,I.bs,Ya5 I.ok.bsz I.sz,I.stack,I.stkFree,I.hok,I.bare⟩
theorem Inv.after{Q:VK}{u:Value}(I:Inv X pins σ H s)(h:CE X.stack X.prog X.w H s Q u s'):EP X pins σ Q u s':=by
 obtain⟨v,H',os,bare,un,hok,r,q⟩:=h;obtain⟨hh,g,d,t,os'⟩:=s';obtain rfl:os'=s.os:=os;exact⟨v,H',I.call (h':=hh) (g':=g) (d':=d) (t':=t) (ch:=[]) un hok bare (fun b z=>absurd z (by simp)),r,q⟩
end
def zfd(sp:Sp)(dvs:List V)(E:XK)(t:TA):TE:=fun σ H Q=>t σ H fun vs H1=>sp (vs++dvs) H1 Q E
def Binds(K:Ybf)(fd:FuncData)(ps:List Str)(ds:List Value):Prop:=
 ∀ (s:Shared) (us:List Value),K.In s.heap->(us++ds).length=ps.length->BindsTo s fd ⟨us,[]⟩ (ps.zip (us++ds))
theorem Binds.all{K:Ybf}{fd:FuncData}{ps:List Str}(h:∀ us:List Value,us.length=ps.length->bindArgs fd ⟨us,[]⟩=pure (ps.zip us)):Binds K fd ps []:=fun s us _ hl=>by
 rw [Yao] at hl ⊢;exact .of_eq (h us hl)
def Passes(CX:CXT)(X:Cx)(E:XK):Prop:=∀ (pins:List (Addr×Obj)) (σ : St) (H:Hp) (s:Shared) (e:Value) (s':Shared),Inv X pins σ H s->CX X.stack H s E e s'->X.xe e s'
section
variable{X:Cx}{CX:CXT}{k:Nat}{f C:Addr}{fd:FuncData}{ps:List Str}{sp:Sp}{dvs:List V}{ds:List Value}{E:XK}{x m:Str}{p pos apos:Pos}{e o:Expr}{es:List Expr}{ta:TE}{t:TA}
theorem zhR{pins:List (Addr×Obj)}{σ : St}{H:Hp}{s:Shared}{Q:VK}{us:List Value}{vs:List V}(F:FnOk X.prog X.w X.K X.mg X.base CX k f fd ps sp)(hr:Room k X.A)(hb:Binds X.K fd ps ds)(hd:Vals dvs ds)(hx:Passes CX X E)
 (I:Inv X pins σ H s) (r:Vals vs us) (h:sp (vs++dvs) H Q E):wpAny (model X.prog X.w) X.A (call (.ref f) us) (EP X pins σ Q) X.xe s:=by
 have r2:Vals (vs++dvs) (us++ds):=r.append hd;have hl:(us++ds).length=ps.length:=by rw [<-r2.length];exact F.len _ _ _ _ h
 refine wpAny_call (codeAny_mono (F.run X.A X.stack s H ⟨us,[]⟩ (us++ds) (vs++dvs) Q E hr I.env0 (hb s us I.kIn hl) r2 h) fun r s' hq=>?_)
 cases r with
 | error e=>exact hx pins σ H s e s' I hq
 | ok fl=>
  cases fl with
  | ret u=>exact I.after hq
  | next=>exact False.elim hq
  | brk=>exact False.elim hq
  | cont=>exact False.elim hq
theorem zmn(F:FnOk X.prog X.w X.K X.mg X.base CX k f fd ps sp)(hr:Room k X.A)(hg:Gl X x)(hm:X.mg x=some (.ref f))(hk:PySem.W.keepIn X.K (.ref f)=true)(hb:Binds X.K fd ps ds)(hd:Vals dvs ds)(hx:Passes CX X E)
 (ha:PA X (e::es) t) (hdb:(x==("__debug__" : Str))=false:=by decide) (he:starEach (e::es) X.env=(false,eval e X.env)::starEach es X.env:=by rfl) (hpl:(backTo pos (starEach es X.env)).any (·.1)=false:=by rfl) :
 PE X (.Call (.Name x p) (e::es) [] pos) (zfd sp dvs E t):=by
 intro pins s σ H Q I h;refine wpAny_Call_Name_kw (zcN I hg hm ?_ hdb);refine PySem.W.callWith_K (h₀:=X.base) I.ok.mod.kin hk (thn (ha pos pins s σ H _ I h) fun us s1 ⟨vs,H1,I1,r,q⟩=>⟨I1.kIn,?_⟩) he hpl
 exact zhR F hr hb hd hx I1 r q
end
section
variable{X:Cx}{CX:CXT}{k:Nat}{f C:Addr}{fd:FuncData}{ps ks:List Str}{sp:Sp}{E:XK}{x m:Str}{p pos apos kpos:Pos}{e o:Expr}{es:List Expr}{kws:List Keyword}{te ta:TE}{t tk:TA}{nm:Option Str}
variable{g:List Value->List Value->List Value}{gV:List V->List V->List V}
end
structure FnScope(N P:List Str)(sc:Scope):Prop where
 kind:sc.kind=.function
 co:sc.isCoroutine=false
 gen:sc.isGenerator=false
 nd:N.Nodup
 pre:N.take P.length=P
 par:∀ x∈P,sc.names.lookup x=some .local\/sc.names.lookup x=some .cell
 nofree:∀ y∈sc.names,y.2≠.free
theorem zeN{kindOf:Str->Option NameKind}{x:Str}:∀ {binds:List (Str×Value)} {m:Str->Option Value},(∀ v,(x,v)∉binds)->bindL kindOf binds m x=m x
 | [],_,_=>rfl
 | (n, v) :: r, m, h => by
  unfold bindL;rw [zeN fun w hw=>h w (YaT _ hw)]
  split
  . have:x≠n:=by rintro rfl;exact h v YaV
    simp [this]
  . rfl
theorem zfH{kindOf:Str->Option NameKind}{x:Str}:∀ {binds:List (Str×Value)} {m:Str->Option Value},(∀ v,(x,v)∉binds)->bindC kindOf binds m x=m x
 | [],_,_=>rfl
 | (n, v) :: r, m, h => by
  unfold bindC;rw [zfH fun w hw=>h w (YaT _ hw)]
  split
  . rfl
  . have:x≠n:=by rintro rfl;exact h v YaV
    simp [this]
theorem zeJ{kindOf:Str->Option NameKind}{x:Str}{v:Value}:∀ {P:List Str} {vs:List Value} {i:Nat} {m:Str->Option Value},P.Nodup->P[i]?=some x->vs[i]?=some v->kindOf x=some .local->
 bindL kindOf (P.zip vs) m x=some v
 | [],_,_,_,_,h,_,_=>by simp at h
 | _::_,[],_,_,_,_,h,_=>by simp at h
 | p :: P, w :: vs, 0, m, nd, h1, h2, hk => by
  simp at h1 h2;subst h1;subst h2
  show bindL kindOf ((p,w)::P.zip vs) m p=_
  unfold bindL;rw [zeN fun v hv=>(YaB.mp nd).1 (List.of_mem_zip hv).1,if_pos hk]
  simp
 | p :: P, w :: vs, i + 1, m, nd, h1, h2, hk => by
  show bindL kindOf ((p,w)::P.zip vs) m x=_
  unfold bindL;exact zeJ (i:=i) (YaB.mp nd).2 (by simpa using h1) (by simpa using h2) hk
theorem ze5{kindOf:Str->Option NameKind}{x:Str}{v:Value}:∀ {P:List Str} {vs:List Value} {i:Nat} {m:Str->Option Value},P.Nodup->P[i]?=some x->vs[i]?=some v->kindOf x≠some .local->
 bindC kindOf (P.zip vs) m x=some v
 | [],_,_,_,_,h,_,_=>by simp at h
 | _::_,[],_,_,_,_,h,_=>by simp at h
 | p :: P, w :: vs, 0, m, nd, h1, h2, hk => by
  simp at h1 h2;subst h1;subst h2
  show bindC kindOf ((p,w)::P.zip vs) m p=_
  unfold bindC;rw [zfH fun v hv=>(YaB.mp nd).1 (List.of_mem_zip hv).1,if_neg hk]
  simp
 | p :: P, w :: vs, i + 1, m, nd, h1, h2, hk => by
  show bindC kindOf ((p,w)::P.zip vs) m x=_
  unfold bindC;exact ze5 (i:=i) (YaB.mp nd).2 (by simpa using h1) (by simpa using h2) hk
def start(N:List Str)(vs:List V):St:=vs.map some++List.replicate (N.length - vs.length) none
def cxOf(CX:CXT)(P:Program)(w:World)(K:Ybf)(mg:Str->Option Value)(base:Heap)(N:List Str)(qual:Str)(scope:Scope)(f:Addr)(cd:Value)(A:Around)(outer:List Env)(s:Shared)(H:Hp)(E:XK):Cx where
 prog:=P
 w:=w
 K:=K
 mg:=mg
 base:=base
 A:=A.deeper (envOfC qual scope s.heap.objs.size f cd)
 N:=N
 s₀:=s
 H₀:=H
 env:=envOfC qual scope s.heap.objs.size f cd
 outer:=outer
 stack:=envOfC qual scope s.heap.objs.size f cd::outer
 ex:=[]
 calm:=true
 fn:=fun _=>true
 pn:=[]
 xe:=fun e s'=>wpAny (model P w) (A.deeper (envOfC qual scope s.heap.objs.size f cd)) (leaving (envOfC qual scope s.heap.objs.size f cd) e) (fun _ s''=>CX outer H s E e s'') (fun e' s''=>CX outer H s E e' s'') s'
theorem zef{sc:Scope}{n:Nat}{x:Str}(h:sc.names.lookup x=some .cell):∃ c,(cellsFrom n sc.names []).lookup x=some c:=by
 have q:=War sc.names n [] (.inl h);exact Wal.mp q
theorem zla{CX:CXT}{P:Program}{w:World}{K:Ybf}{mg:Str->Option Value}{base:Heap}{N ps:List Str}{qual:Str}{scope:Scope}{f:Addr}{cd:Value}{A:Around}{outer:List Env}{s s1:Shared}{H:Hp}{E:XK}{us:List Value}{vs:List V}
 (S:FnScope N ps scope) (hd:A.handled=none) (e0:Env0 P w K mg base A outer s H) (hl:vs.length=ps.length) (r:Vals vs us)
 (x:InCallC s s.heap.objs.size (bindL (envOfC qual scope s.heap.objs.size f cd).kindOf (ps.zip us) fun _=>none) (cellsFrom (s.heap.objs.size+1) scope.names []) (bindC (envOfC qual scope s.heap.objs.size f cd).kindOf (ps.zip us) fun _=>none) s1) :
 Inv (cxOf CX P w K mg base N qual scope f cd A outer s H E) [] (start N vs) H s1:=by
 have hpl:ps.length<=N.length:=by have:=congrArg List.length S.pre;rw [Wa5] at this;omega
 obtain⟨h1,tk,rfl,hk⟩:=x.done;have noA:∀ b:Addr,b∉(cxOf CX P w K mg base N qual scope f cd A outer s H E).ex:=fun b z=>absurd (show b∈([]:List Addr) from z) (by simp)
 refine⟨⟨e0.mod,S.kind,rfl,rfl,YaY _,fun y z c h1 h2=>?_,fun y hy=>?_,fun y c _ h=>?_,fun _=>hd,Around.frames_deeper e0.frames,.inr ⟨rfl,rfl⟩,fun b z=>absurd z (noA b),e0.bs,e0.bsz,fun b _ _=>noA b,fun b z=>absurd z (noA b),e0.funs,e0.frf⟩,
  rfl,e0.bare,Un.kept hk,⟨_,x.toInCall.ns,fun i y v h1 h2 h3=>?_⟩,fun y c h=>⟨_,x.cell y c h⟩,e0.hok.fresh (YaY _),fun y c h=>?_,fun p hp=>absurd (show p∈([]:List (Addr×Obj)) from hp) (by simp),e0.hok.kept hk,?_⟩
 . exact name_of_addr x.apart (WaB h1) (WaB h2)
 . have hy:scope.names.lookup y=some .cell\/scope.names.lookup y=some .free:=hy
   rcases hy with hy|hy
   . exact zef hy
   . exact absurd rfl (S.nofree _ (WaB hy))
 . exact Wbz (x.above y c (WaB h))
 . have hi:i<vs.length:=by
    unfold start at h2
    by_cases hi:i<vs.length
    . exact hi
    . rw [Yae (by simpa using hi)] at h2
      rw [Yad] at h2
      split at h2<;>cases h2
   have ha:vs[i]?=some v:=by
    unfold start at h2;rw [Yab (by simpa using hi),Ya0] at h2
    cases e:vs[i]? with
    | none=>rw [e] at h2;cases h2
    | some a=>rw [e] at h2;cases h2;rfl
   obtain⟨u,hu,rv⟩:=r.get ha;have hp:ps[i]?=some y:=by
    rw [<-S.pre,Wam #[0]];exact h1
   have ndP:ps.Nodup:=by rw [<-S.pre];exact S.nd.sublist (List.take_sublist _ _)
   refine⟨u,rv,?_⟩
   rcases S.par y (Yah hp) with k|k
   . exact .inl ⟨k,zeJ ndP hp hu k⟩
   . obtain⟨c,e⟩:=zef (n:=s.heap.objs.size+1) k
     refine .inr ⟨.inl k,c,e,?_⟩
     have q:=x.cell y c e;rw [ze5 ndP hp hu (by show scope.names.lookup y≠_;rw [k];decide)] at q
     exact q
 . exact e0.hok.fresh (Wbz (x.above y c (WaB h)))
 . unfold start
   show _=N.length
   rw [YaS,YaR,Ybb]
   omega
theorem zcE{CX:CXT}{P:Program}{w:World}{K:Ybf}{mg:Str->Option Value}{base:Heap}{k:Nat}{f:Addr}{name qual:Str}{params:Arguments}{body:List Stmt}{scope:Scope}{dV kV doc pm cdv ct oc:Value}{an od:Option Addr}
 {osl:Array (Option Value)} {N ps:List Str} {sp:Sp} (lk:K.lookup f=some ⟨oc,od,.func (PySem.W.fnOf name qual params body scope dV kV doc pm an cdv ct),osl⟩) (hcd:PySem.W.codeIn K cdv qual=true) (S:FnScope N ps scope)
 (len:∀ vs H Q E,sp vs H Q E->vs.length=ps.length)
 (hbody:∀ (A:Around) (outer:List Env) (s:Shared) (H:Hp) (vs:List V) (Q:VK) (E:XK),Room k (A.deeper (envOfC qual scope s.heap.objs.size f cdv))->sp vs H Q E->
  ∃ t,PSs (cxOf CX P w K mg base N qual scope f cdv A outer s H E) body t/\t { nx:=fun _ H'=>Q .non H',rt:=Q } (start N vs) H) :
 FnOk P w K mg base CX (k+1) f (PySem.W.fnOf name qual params body scope dV kV doc pm an cdv ct) ps sp:=by
 refine⟨len,fun A outer s H args us vs Q E hr e0 hb r hsp=>?_⟩
 have hl:=len _ _ _ _ hsp;have KX:K.In s.heap:=e0.mod.kin.keeps fun b o e=>(e0.bs b o e).1
 have lim:s.heap.NoLimit:=e0.mod.nolimit.keeps fun b o e=>(e0.bs b o e).1
 have hkind:∀ y∈ps.zip us,scope.names.lookup y.1=some .local\/(scope.names.lookup y.1=some .cell/\((cellsFrom (s.heap.objs.size+1) scope.names []).lookup y.1).isSome=true):=fun⟨n,v⟩ hy=>by
  rcases S.par n (List.of_mem_zip hy).1 with q|q
  . exact .inl q
  . exact .inr ⟨q,War _ _ _ (.inl q)⟩
 refine codeAny_call_function hr.depth (KX _ _ lk) rfl S.co S.gen rfl (PySem.W.codeRec_of KX hcd) (hb _ _ _ _ ?_)
 refine wpAny_newFunctionEnv_cells S.kind hkind fun env he s1 x=>?_
 subst he;refine⟨lim.keeps x.toInCall.keep,codeAny_func ?_⟩;obtain⟨t,ht,hq⟩:=hbody A outer s H vs Q E (hr.deeper _) hsp;have I:Inv (cxOf CX P w K mg base N qual scope f cdv A outer s H E) [] (start N vs) H s1:=zla S hr.hd e0 hl r x;refine wpAny_mono (ht [] s1 (start N vs) H _ I hq) (fun fl s' hs=>?_) fun e s' hs=>hs
 have fin:∀ {σ':St} {H':Hp} {v:V} {u:Value},Inv (cxOf CX P w K mg base N qual scope f cdv A outer s H E) [] σ' H' s'->RelV v u->Q v H'->CE outer P w H s Q u s':=
  fun {σ' H' v u} J rv q=>⟨v,H',J.os,J.bare,J.base,J.hok,rv,q⟩
 cases fl with
 | ret u=>
  obtain⟨v,σ',H',J,rv,q⟩:=hs;exact fin J rv q
 | next=>
  obtain⟨σ',H',J,q⟩:=hs;exact fin (v:=V.non) (u:=Value.none) J rfl q
 | brk=>
  obtain⟨_,_,_,q⟩:=hs;exact False.elim q
 | cont=>
  obtain⟨_,_,_,q⟩:=hs;exact False.elim q
section
variable{X:Cx}{x:Str}{p pos:Pos}{e:Expr}{es:List Expr}{t:TA}{id T:String}{r:List V->Hp->VK->Prop}
def tCB(r:List V->Hp->VK->Prop)(t:TA):TE:=fun σ H Q=>t σ H fun vs H1=>r vs H1 Q
theorem zbP(hc:zI X (.builtin id) r)(hg:Gl X x)(hm:X.mg x=none)(hv:bootBuiltins x=some (.builtin id))(ha:PA X (e::es) t)(hn:x≠"__name__":=by decide)(hdb:(x==("__debug__" : Str))=false:=by decide)
 (he:starEach (e::es) X.env=(false,eval e X.env)::starEach es X.env:=by rfl) (hpl:(backTo pos (starEach es X.env)).any (·.1)=false:=by rfl):PE X (.Call (.Name x p) (e::es) [] pos) (tCB r t):=by
 intro pins s σ H Q I h;refine wpAny_Call_Name_kw (jW I hg hm hv ?_ hn hdb);exact PyProof.Rows.callWith_builtin1 (thn (ha pos pins s σ H _ I h) fun us s1 ⟨vs,H1,I1,r1,q1⟩=>hc pins s1 σ H1 vs us Q I1 r1 q1) he hpl
theorem zlL(hc:zI X (.type T) r)(hg:Gl X x)(hm:X.mg x=none)(hv:bootBuiltins x=some (.type T))(ha:PA X (e::es) t)(hn:x≠"__name__":=by decide)(hdb:(x==("__debug__" : Str))=false:=by decide)
 (he:starEach (e::es) X.env=(false,eval e X.env)::starEach es X.env:=by rfl) (hpl:(backTo pos (starEach es X.env)).any (·.1)=false:=by rfl):PE X (.Call (.Name x p) (e::es) [] pos) (tCB r t):=by
 intro pins s σ H Q I h;refine wpAny_Call_Name_kw (jW I hg hm hv ?_ hn hdb);exact Wad (thn (ha pos pins s σ H _ I h) fun us s1 ⟨vs,H1,I1,r1,q1⟩=>hc pins s1 σ H1 vs us Q I1 r1 q1) he hpl
end
end L2
namespace HT
open PySem PyProof.Rows
section
open PySem.SeqAt
open PySem.AutoSeq1 (wpAny_loadPart')
open PySem.MeetsSeq PySem.MeetsSeq2 PySem.MeetsSeq3
end
section
variable{prog:Program}{w:World}{A:Around}{E:Value->Shared->Prop}{s:Shared}
theorem cat_tup{t b:Addr}{vs ws:List Value}{Q:Value->Shared->Prop}(ht:IsTup s.heap t vs.toArray)(hb:IsTup s.heap b ws.toArray)(hv:vs≠[])
 (h1:ws=[]->Q (.ref t) s) (h2:ws≠[]->Q (.ref s.heap.objs.size) { s with heap:=s.heap.push { cls:=.type "tuple", data:=.seq (vs++ws).toArray } })
 (hsz:vs.length+ws.length<=sizeLine):wpAny (model prog w) A (binaryOp .Add (.ref t) (.ref b)) Q E s:=by
 obtain⟨⟨cls,dd,data,sl⟩,ho,hc,n,hd⟩:=id ht;obtain⟨⟨cls2,dd2,data2,sl2⟩,ho2,hc2,n2,hd2⟩:=id hb;simp only at hc hd hc2 hd2;subst hc hd hc2 hd2;have e:vs.toArray++ws.toArray=(vs++ws).toArray:=by simp
 by_cases hw:ws=[]
 . exact concat_meets ⟨_,ho,rfl⟩ ⟨_,ho2,rfl⟩ noFill_tuple_add seq_tuple_add PySem.F.slot_tuple_add PySem.F.entry_tuple_add (PySem.F.args_tuple_add_2 _ _)
    (tuple_addW1 t b vs.toArray ws.toArray n n2 dd dd2 sl sl2 (by simpa using hv) (by simp [hw])) ⟨ho,ho2,h1 hw⟩
 . refine concat_meets ⟨_,ho,rfl⟩ ⟨_,ho2,rfl⟩ noFill_tuple_add seq_tuple_add PySem.F.slot_tuple_add PySem.F.entry_tuple_add (PySem.F.args_tuple_add_2 _ _)
    (tuple_addW2 t b vs.toArray ws.toArray n n2 dd dd2 sl sl2 (by simpa using hv) (by simpa using hw) (by rw [YaZ,YaZ];exact hsz)) ⟨ho,ho2,?_⟩
   rw [e];exact h2 hw
def sIx(n d:Nat):Option Int->Nat
 | none=>d
 | some v=>if v<0 then(v+(n:Int)).toNat else min v.toNat n
theorem zmM(n d:Nat)(hd:d<=n)(o:Option Int):sIx n d o<=n:=by
 cases o with
 | none=>exact hd
 | some v=>
  show(if v<0 then(v+(n:Int)).toNat else min v.toNat n)<=n
  by_cases hv:v<0
  . rw [if_pos hv];omega
  . rw [if_neg hv];exact Nat.min_le_right _ _
theorem zeH(v:Int)(n d:Nat):(if v<0 then max (v+(n:Int)) 0 else min v (n:Int))=((sIx n d (some v):Nat):Int):=by
 show(if v<0 then max (v+(n:Int)) 0 else min v (n:Int))=(((if v<0 then(v+(n:Int)).toNat else min v.toNat n):Nat):Int)
 by_cases hv:v<0
 . simp only [if_pos hv];omega
 . simp only [if_neg hv];omega
theorem zmp(lo hi:Option Int)(n:Nat):Builtin.Slice.sliceAdjust lo hi 1 (n:Int)=(((sIx n 0 lo:Nat):Int),((sIx n n hi:Nat):Int)):=by
 have h1:¬((1:Int)<0):=#[0]
 unfold Builtin.Slice.sliceAdjust;simp only [h1,if_false];refine Prod.ext ?_ ?_
 . cases lo with
   | none=>rfl
   | some v=>exact zeH v n 0
 . cases hi with
   | none=>rfl
   | some v=>exact zeH v n n
theorem zjG(i j:Nat):Builtin.Slice.slicePlaces (i:Int) (j:Int) 1=j - i:=by
 unfold Builtin.Slice.slicePlaces;have h1:(1:Int) > 0:=#[0]
 simp only [h1,if_true,Int.ediv_one]
 split<;>omega
theorem zfD{v:Value}{o:Option Int}{Q:Option Int->Shared->Prop}(p:IsPart v o)(h:Q o s):wpAny (model prog w) A (Builtin.Slice.slicePartIndex v) Q E s:=by
 cases p with
 | none=>exact slicePart_none h
 | int i t=>exact slicePart_int h
theorem zne{sl:Addr}{vl vu:Value}{lo hi:Option Int}{n:Nat}{Q:Int×Int×Nat->Shared->Prop}(hs:s.heap.IsSliceOf sl vl vu .none)(pl:IsPart vl lo)(pu:IsPart vu hi)
 (h:Q (((sIx n 0 lo:Nat):Int),1,sIx n n hi - sIx n 0 lo) s):wpAny (model prog w) A (Builtin.Slice.sliceApplied (.ref sl) (pure (n:Int))) Q E s:=by
 obtain⟨os,hos,hcs,hds⟩:=id hs;unfold Builtin.Slice.sliceApplied Builtin.Slice.sliceFields;refine wpAny_bind (wpAny_bind (wpAny_field hos hds (x:=vl) rfl (wpAny_bind (wpAny_field hos hds (x:=vu) rfl (wpAny_bind (wpAny_field hos hds (x:=.none) rfl (wpAny_pure ?_)))))));refine wpAny_bind (slicePart_none ?_);show wpAny _ _ (if((1:Int)==0)=true then _ else _) _ _ s
 rw [if_neg #[1]]
 refine wpAny_bind (zfD pl (wpAny_bind (zfD pu (wpAny_bind (wpAny_pure ?_)))))
 show wpAny _ _ (match Builtin.Slice.sliceAdjust lo hi 1 (n:Int) with|(lo,hi)=>pure (lo,(1:Int),Builtin.Slice.slicePlaces lo hi 1)) _ _ s
 rw [zmp lo hi n];show wpAny _ _ (pure (((sIx n 0 lo:Nat):Int),(1:Int),Builtin.Slice.slicePlaces ((sIx n 0 lo:Nat):Int) ((sIx n n hi:Nat):Int) 1)) _ _ s;rw [zjG];exact wpAny_pure h
theorem zhU(xs:Array Value)(i k:Nat):((List.range k).filterMap fun(m:Nat)=>xs[((i:Int)+(m:Int)*1).toNat]?).toArray=((xs.toList.drop i).take k).toArray:=by
 have e:(fun(m:Nat)=>xs[((i:Int)+(m:Int)*1).toNat]?)=fun m=>xs[i+m]?:=by
  funext m
  have:((i:Int)+(m:Int)*1).toNat=i+m:=#[0]
  rw [this]
 rw [e];have:=pick_run xs i k;rw [List.filterMap_map] at this;have e2:((fun x=>xs[x]?)∘fun x=>i+x)=fun m=>xs[i+m]?:=rfl
 rw [e2] at this;rw [this]
theorem getItem_tuple_cut{t sl:Addr}{items:Array Value}{vl vu:Value}{lo hi:Option Int}{Q:Value->Shared->Prop}(ht:IsTup s.heap t items)(hs:s.heap.IsSliceOf sl vl vu .none)(pl:IsPart vl lo)(pu:IsPart vu hi)
 (hw:¬(sIx items.size 0 lo=0/\sIx items.size items.size hi=items.size))
 (h:Q (.ref s.heap.objs.size) { s with heap:=s.heap.push { cls:=.type "tuple", data:=.seq ((items.toList.drop (sIx items.size 0 lo)).take (sIx items.size items.size hi - sIx items.size 0 lo)).toArray } })
 (hsz:items.size<=sizeLine):wpAny (model prog w) A (getItem (.ref t) (.ref sl)) Q E s:=by
 have htake:sizeOk (.seq ((items.toList.drop (sIx items.size 0 lo)).take (sIx items.size items.size hi - sIx items.size 0 lo)).toArray):=by
  show((items.toList.drop (sIx items.size 0 lo)).take (sIx items.size items.size hi - sIx items.size 0 lo)).toArray.size<=sizeLine
  rw [YaZ,Wa5,List.length_drop,Array.length_toList]
  omega
 have hj:sIx items.size items.size hi<=items.size:=zmM _ _ (YaY _) hi;obtain⟨os,hos,hcs,hds⟩:=id hs;have hTs:s.TypeIs (.ref sl) "slice":=⟨os,hos,hcs⟩;unfold getItem
 try with_reducible refine wpAny_holding ?_
 first|refine wpAny_bind (wpAny_pure ?_)|skip
 refine wpAny_bind (wpAny_sequenceKey ht.typeIs #[1] ?_)
 refine wpAny_bind (wpAny_callSpecial?_slot (name:=Str.ofString "__getitem__") ht.typeIs Waa
  (wpAny_call_entry Waa ht.typeIs entry_tuple_getitem ?_ (args_tuple_getitem _ _)))
 show wpAny _ _ (Builtin.Tuple.tupleItemsOf (.ref t) >>= _) _ _ s
 refine wpAny_bind (tupleItemsOf_ ht ?_)
 refine wpAny_bind (wpAny_typeOf hTs ?_)
 rw [if_pos #[1]]
 refine wpAny_bind (zne hs pl pu ?_)
 have hno:¬((((sIx items.size 0 lo:Nat):Int)==0&&(1:Int)==1&&(sIx items.size items.size hi - sIx items.size 0 lo)==items.size)=true):=by
  intro q;rw [Yak,Yak] at q;have q1:((sIx items.size 0 lo:Nat):Int)=0:=eq_of_beq q.1.1;have q2:sIx items.size items.size hi - sIx items.size 0 lo=items.size:=eq_of_beq q.2;exact hw ⟨#[0],#[0]⟩
 show wpAny _ _ (if(((sIx items.size 0 lo:Nat):Int)==0&&(1:Int)==1&&(sIx items.size items.size hi - sIx items.size 0 lo)==items.size)=true then _ else _) _ _ s
 rw [if_neg hno,zhU]
 first
  | exact wpAny_bind (m:=Builtin.Tuple.tupleExact _) (wpAny_newObj_type (wpAny_pure ⟨_,rfl,wpAny_pure h⟩) htake)
  | exact wpAny_bind (m:=Builtin.Tuple.tupleExact _) (wpAny_newObj_type (wpAny_bind (wpAny_pure (wpAny_pure ⟨_,rfl,wpAny_pure h⟩))) htake)
  | exact wpAny_bind (wpAny_bind (m:=Builtin.Tuple.tupleExact _) (wpAny_newObj_type (wpAny_pure (wpAny_pure ⟨_,rfl,wpAny_pure h⟩)) htake))
  | exact wpAny_bind (wpAny_bind (m:=Builtin.Tuple.tupleExact _) (wpAny_newObj_type (wpAny_pure ⟨_,rfl,wpAny_pure h⟩) htake))
end
end HT
namespace L2
open PySem PySem.Spec PyProof.Rows
abbrev TO:=St->Hp->(Option Int->Hp->Prop)->Prop
def PO(X:Cx)(e:Option Expr)(t:TO):Prop:=
 ∀ (pins:List (Addr×Obj)) (s:Shared) (σ : St) (H:Hp) (Q:Option Int->Hp->Prop),Inv X pins σ H s->t σ H Q->
  wpAny (model X.prog X.w) X.A (evalPart e X.env) (fun u s'=>∃ o H',Inv X pins σ H' s'/\IsPart u o/\Q o H') X.xe s
def tNoPart:TO:=fun _ H Q=>Q none H
def zm9(t:TE):TO:=fun σ H Q=>t σ H fun x H1=>∃ i,x=.int i/\Q (some i) H1
theorem za8{ns:List Int}:∀ {us:List Value},Vals (ns.map V.int) us->IntsAre us ns:=by
 induction ns with
 | nil=>intro us r;rw [WbB] at r;cases r;exact .nil
 | cons n ns ih=>
  intro us r;rw [Ya1] at r;cases r with
  | cons r1 r2=>
   obtain⟨t,e⟩:=r1;subst e;exact .cons n t (ih r2)
section
variable{X:Cx}{e:Expr}{te:TE}{lo hi:Option Expr}{tl th:TO}{pos p2:Pos}
theorem znM:PO X none tNoPart:=by
 intro pins s σ H Q I h;rw [evalPart_none];exact wpAny_pure ⟨none,H,I,.none,h⟩
theorem zki(h:PE X e te):PO X (some e) (zm9 te):=by
 intro pins s σ H Q I hw;rw [evalPart_some];refine thn (h pins s σ H _ I hw) fun u s1 ⟨x,H1,I1,r1,q1⟩=>?_
 obtain⟨i,rfl,q⟩:=q1;obtain⟨t,rfl⟩:=r1;exact⟨some i,H1,I1,.int i t,q⟩
def SlR(X:Cx)(r:V->Option Int->Option Int->Hp->VK->Prop):Prop:=
 ∀ (pins:List (Addr×Obj)) (s:Shared) (σ : St) (H:Hp) (x:V) (v vl vu:Value) (lo hi:Option Int) (sl:Addr) (Q:VK),Inv X pins σ H s->RelV x v->s.heap.IsSliceOf sl vl vu .none->IsPart vl lo->IsPart vu hi->r x lo hi H Q->
  ∃ T id,typeLookup (.type T) "__getitem__" = pure (some (.builtin id))/\s.TypeIs v T/\wpAny (model X.prog X.w) X.A (getItem v (.ref sl)) (EP X pins σ Q) X.xe s
theorem SlR.or{r r':V->Option Int->Option Int->Hp->VK->Prop}(h:SlR X r)(h':SlR X r'):SlR X (fun x lo hi H Q=>r x lo hi H Q\/r' x lo hi H Q):=by
 intro pins s σ H x v vl vu lo hi sl Q I rx hs pl pu q
 rcases q with q|q
 . exact h pins s σ H x v vl vu lo hi sl Q I rx hs pl pu q
 . exact h' pins s σ H x v vl vu lo hi sl Q I rx hs pl pu q
def tSl(r:V->Option Int->Option Int->Hp->VK->Prop)(te:TE)(tl th:TO):TE:=fun σ H Q=>te σ H fun x H1=>tl σ H1 fun l H2=>th σ H2 fun u H3=>r x l u H3 Q
theorem zlV{r:V->Option Int->Option Int->Hp->VK->Prop}(hr:SlR X r)(he:PE X e te)(hl:PO X lo tl)(hu:PO X hi th):PE X (.Subscript e (.Slice lo hi none p2) pos) (tSl r te tl th):=by
 intro pins s σ H Q I h;refine Subscript_ (thn (he pins s σ H _ I h) fun v s1 ⟨x,H1,I1,r1,q1⟩=>?_)
 refine wpAny_Slice (thn (hl pins s1 σ H1 _ I1 q1) fun vl s2 ⟨l,H2,I2,pl,q2⟩=>thn (hu pins s2 σ H2 _ I2 q2) fun vu s3 ⟨u,H3,I3,pu,q3⟩=>?_)
 rw [evalPart_none];refine wpAny_pure ?_;have I4:Inv X pins σ H3 { s3 with heap:=s3.heap.push { cls:=.type "slice", data:=.fields #[vl,vu,.none] } }:=I3.kept (t':=s3.toks) fun b ob q=>YaW _ q
 obtain⟨T,id,hT,ht,hg⟩:=hr pins { s3 with heap:=s3.heap.push { cls:=.type "slice", data:=.fields #[vl,vu,.none] } } σ H3 x v vl vu l u s3.heap.objs.size Q I4 r1 (Heap.IsSliceOf.new ..) pl pu q3
 show wpAny (model X.prog X.w) X.A (subscriptTail e (.Slice lo hi none p2) v (.ref s3.heap.objs.size)) (EP X pins σ Q) X.xe { s3 with heap:=s3.heap.push { cls:=.type "slice", data:=.fields #[vl,vu,.none] } }
 exact tail_any (ops:=[.ref s3.heap.objs.size,v]) ht hT hg (by with_unfolding_all rfl)
def cutV(xs:List V)(lo hi:Option Int):List V:=(xs.drop (HT.sIx xs.length 0 lo)).take (HT.sIx xs.length xs.length hi - HT.sIx xs.length 0 lo)
theorem znp(xs:List V)(lo hi:Option Int):(cutV xs lo hi).length<=xs.length:=by
 unfold cutV;rw [Wa5,List.length_drop]
 omega
def rSlT(K:Ybf):V->Option Int->Option Int->Hp->VK->Prop:=fun x lo hi H Q=>∃ a xs,x=.ref a/\SqT K H a xs/\
 ¬(HT.sIx xs.length 0 lo=0/\HT.sIx xs.length xs.length hi=xs.length)/\∀ p,H p=none->Q (.ref p) (upd H p (.tup (cutV xs lo hi)))
theorem zhP:SlR X (rSlT X.K):=by
 intro pins s σ H x v vl vu lo hi sl Q I rx hs pl pu h;obtain⟨a,xs,rfl,hx,hw,q⟩:=h;cases rx;obtain⟨its,r,ht,hz⟩:=I.tuple hx;have hlen:its.toArray.size=xs.length:=by rw [YaZ];exact r.length.symm
 refine⟨"tuple", _,Waa.lookup,ht.typeIs,?_⟩
 refine HT.getItem_tuple_cut ht hs pl pu (by rw [hlen];exact hw) ?_ (by rw [hlen];exact hz)
 rw [hlen];refine⟨.ref s.heap.objs.size,_,I.laid (t':=s.toks) (o:=.tup (cutV xs lo hi)) (fun b ob q=>YaW _ q) (YaY _) ?_,rfl,q _ (I.hok.fresh (YaY _))⟩
 exact⟨Ya5 (znp xs lo hi) hz,_,(r.drop (HT.sIx xs.length 0 lo)).take (HT.sIx xs.length xs.length hi - HT.sIx xs.length 0 lo),IsTup.new _ _⟩
def zkp(K:Ybf):R2:=fun x y H Q=>∃ a b xs ys,x=.ref a/\y=.ref b/\SqT K H a xs/\SqT K H b ys/\xs≠[]/\xs.length+ys.length<=sizeLine/\
 (ys=[]->Q (.ref a) H)/\(ys≠[]->∀ p,H p=none->Q (.ref p) (upd H p (.tup (xs++ys))))
theorem Vals.nil_iff{xs:List V}{us:List Value}(r:Vals xs us):us=[]↔xs=[]:=by
 cases r with
 | nil=>simp
 | cons _ _=>simp
theorem zhY:OpR X (binaryOp .Add) (zkp X.K):=by
 intro pins s σ H x y v u Q I rx ry h;obtain⟨a,b,xs,ys,rfl,rfl,ha,hb,hx,hz,q1,q2⟩:=h;cases rx;cases ry;obtain⟨its,r1,p1,_⟩:=I.tuple ha;obtain⟨its2,r2,p2,_⟩:=I.tuple hb;refine HT.cat_tup p1 p2 (fun z=>hx (r1.nil_iff.mp z)) (fun z=>⟨.ref a,H,I,rfl,q1 (r2.nil_iff.mp z)⟩) (fun z=>?_) (by rw [<-r1.length,<-r2.length];exact hz)
 refine⟨.ref s.heap.objs.size,_,I.laid (t':=s.toks) (o:=.tup (xs++ys)) (fun b ob q=>YaW _ q) (YaY _) ?_,rfl,q2 (fun w=>z (r2.nil_iff.mpr w)) _ (I.hok.fresh (YaY _))⟩
 exact⟨by rw [YaS];exact hz,_,r1.append r2,IsTup.new _ _⟩
end
def ixN(n:Nat)(i:Int):Option Nat:=if 0<=i then(if i<n then some i.toNat else none) else if -(n:Int)<=i then some (i+n).toNat else none
def atI{α : Type}(xs:List α)(i:Int):Option α:=(ixN xs.length i).bind fun j=>xs[j]?
theorem zc9{n:Nat}{i:Int}{j:Nat}(h:ixN n i=some j):seqIndex? i n=some j/\j<n/\-(n:Int)<=i/\i<n:=by
 unfold ixN at h
 by_cases h0:0<=i
 . rw [if_pos h0] at h
   by_cases h1:i<n
   . rw [if_pos h1] at h
     have e:i.toNat=j:=Wbe h;exact⟨by rw [seqIndex_of h0 h1,e],#[0],#[0],h1⟩
   . rw [if_neg h1] at h;cases h
 . rw [if_neg h0] at h
   by_cases h1:-(n:Int)<=i
   . rw [if_pos h1] at h
     have e:(i+n).toNat=j:=Wbe h;exact⟨by rw [seqIndex_neg #[0] h1,e],#[0],h1,#[0]⟩
   . rw [if_neg h1] at h;cases h
theorem zcC{α : Type}{xs:List α}{i:Int}{v:α}(h:atI xs i=some v):∃ j,seqIndex? i xs.length=some j/\xs[j]?=some v/\j<xs.length/\-(xs.length:Int)<=i/\i<xs.length:=by
 unfold atI at h;cases e:ixN xs.length i with
 | none=>rw [e] at h;cases h
 | some j=>
  rw [e] at h;obtain⟨h1,h2,h3,h4⟩:=zc9 e;exact⟨j,h1,h,h2,h3,h4⟩
theorem J0{α : Type}{xs:List α}{j:Nat}{v:α}(h:xs[j]?=some v):atI xs (j:Int)=some v:=by
 have hj:j<xs.length:=(Ya8.mp h).1;have e:ixN xs.length (j:Int)=some j:=by
  unfold ixN;rw [if_pos #[0],if_pos #[0]];simp
 unfold atI;rw [e];exact h
theorem zeQ{α : Type}(xs:List α)(v:α):atI (xs++[v]) (-1)=some v:=by
 have hl:(xs++[v]).length=xs.length+1:=by simp
 have e:ixN (xs++[v]).length (-1)=some xs.length:=by
  unfold ixN;rw [hl,if_neg #[1],if_pos #[0]]
  congr 1
  omega
 unfold atI;rw [e];show(xs++[v])[xs.length]?=some v
 simp
def zcU(b:Expr):Prop:=∀ o i,subscripted b false o i=operate [o,i] (getItem o i)
def IxR(X:Cx)(r:R2):Prop:=
 ∀ (value slice:Expr) (pins:List (Addr×Obj)) (s:Shared) (σ : St) (H:Hp) (x y:V) (v u:Value) (Q:VK),Inv X pins σ H s->RelV x v->RelV y u->r x y H Q->
  subscripted slice false v u=operate [v,u] (getItem v u)->wpAny (model X.prog X.w) X.A (subscriptTail value slice v u) (EP X pins σ Q) X.xe s
def MtR(X:Cx)(id:String)(r:V->List V->Hp->VK->Prop):Prop:=
 ∀ (pins:List (Addr×Obj)) (s:Shared) (σ : St) (H:Hp) (x:V) (xs:List V) (v:Value) (us:List Value) (Q:VK),Inv X pins σ H s->RelV x v->Vals xs us->r x xs H Q->
  wpAny (model X.prog X.w) X.A (call (.builtin id) (v::us)) (EP X pins σ Q) X.xe s
section
variable{X:Cx}{a b:Expr}{ta tb:TE}{pos:Pos}
theorem IxR.or{r r':R2}(h:IxR X r)(h':IxR X r'):IxR X (fun x y H Q=>r x y H Q\/r' x y H Q):=by
 intro value slice pins s σ H x y v u Q I rx ry q hs
 rcases q with q|q
 . exact h value slice pins s σ H x y v u Q I rx ry q hs
 . exact h' value slice pins s σ H x y v u Q I rx ry q hs
theorem MtR.or{id:String}{r r':V->List V->Hp->VK->Prop}(h:MtR X id r)(h':MtR X id r'):MtR X id (fun x xs H Q=>r x xs H Q\/r' x xs H Q):=by
 intro pins s σ H x xs v us Q I rx rs q
 rcases q with q|q
 . exact h pins s σ H x xs v us Q I rx rs q
 . exact h' pins s σ H x xs v us Q I rx rs q
theorem zes{r:R2}(hr:IxR X r)(ha:PE X a ta)(hb:PE X b tb)(hs:zcU b):PE X (.Subscript a b pos) (tOp r ta tb):=by
 intro pins s σ H Q I h;exact Subscript_ (binT ha hb I h fun v u s2 x y H2 I2 rx ry q=>hr a b pins s2 σ H2 x y v u Q I2 rx ry q (hs _ _))
def rIxL(K:Ybf):R2:=fun x y H Q=>∃ p xs i v,x=.ref p/\y=.int i/\SqL K H p xs/\atI xs i=some v/\Q v H
def rIxT(K:Ybf):R2:=fun x y H Q=>∃ p xs i v,x=.ref p/\y=.int i/\SqT K H p xs/\atI xs i=some v/\Q v H
def rIxS:R2:=fun x y H Q=>∃ z i c,x=.str z/\y=.int i/\z.length<=sizeLine/\atI z.cps.toList i=some c/\Q (.str ⟨#[c]⟩) H
theorem znR:IxR X (rIxL X.K):=by
 intro value slice pins s σ H x y v u Q I rx ry h hs;obtain⟨p,xs,i,z,rfl,rfl,hq,he,q⟩:=h;cases rx;obtain⟨t,rfl⟩:=ry;obtain⟨its,r,pl,hz⟩:=I.list hq;obtain⟨j,h1,h2,h3,h4,h5⟩:=zcC he;obtain⟨w,ew,rw'⟩:=r.get h2;have hl:=r.length;have hn:=JI;have fin:EP X pins σ Q w s:=⟨z,H,I,rw',q⟩
 by_cases h0:0<=i
 . have hj:i.toNat=j:=by
    rw [seqIndex_of h0 h5] at h1;exact Wbe h1
   exact item_listR pl.isList h0 #[0] (by rw [hj];simpa using ew) fin hs
 . have hj:(i+(its.toArray.size:Int)).toNat=j:=by
    rw [seqIndex_neg #[0] h4] at h1
    rw [YaZ,<-hl];exact Wbe h1
   exact subscriptTail_builtinR (x:=w) pl.isList.typeIs slot_list_getitem.lookup
    (wpAny_getItem_list_neg (Q:=fun r s'=>r=w/\EP X pins σ Q r s') pl.isList #[0] (by rw [YaZ]<;>omega) #[0] (by rw [hj];simpa using ew) ⟨rfl,fin⟩) hs
theorem zec:IxR X (rIxT X.K):=by
 intro value slice pins s σ H x y v u Q I rx ry h hs;obtain⟨p,xs,i,z,rfl,rfl,hq,he,q⟩:=h;cases rx;obtain⟨t,rfl⟩:=ry;obtain⟨its,r,pl,hz⟩:=I.tuple hq;obtain⟨j,h1,h2,h3,h4,h5⟩:=zcC he;obtain⟨w,ew,rw'⟩:=r.get h2;have hl:=r.length;have hn:=JI;have fin:EP X pins σ Q w s:=⟨z,H,I,rw',q⟩;exact subscriptTail_builtinR (x:=w) pl.typeIs slot_tuple_getitem.lookup
  (getItem_tuple (j:=j) (Q:=fun r s'=>r=w/\EP X pins σ Q r s') pl #[0] #[0] (by rw [YaZ,<-hl];exact h1) (by simpa using ew) ⟨rfl,fin⟩) hs
theorem znJ:IxR X rIxS:=by
 intro value slice pins s σ H x y v u Q I rx ry h hs;obtain⟨z,i,c,rfl,rfl,hz,he,q⟩:=h;obtain⟨t,rfl⟩:=rx;obtain⟨t',rfl⟩:=ry;obtain⟨j,h1,h2,h3,h4,h5⟩:=zcC he;have hl:z.cps.toList.length=z.length:=by simp [Str.length]
 rw [hl] at h1 h4 h5;have hn:=JI;exact tail_any (typeIs_str s z t) slot_str_getitem.lookup (getItem_str (c:=c) (by
  have e1:decide (i < -(2 ^ 63:Int))=false:=decide_eq_false #[0]
  have e2:decide (i>=2 ^ 63)=false:=decide_eq_false #[0]
  rw [e1,e2,Wbq]) (by rw [h1];simpa using h2) ⟨.str ⟨#[c]⟩,H,I.tok _,⟨_,rfl⟩,q⟩) hs
def rIx(K:Ybf):R2:=fun x y H Q=>rIxL K x y H Q\/rIxT K x y H Q\/rIxS x y H Q
theorem ziu:IxR X (rIx X.K):=znR.or (zec.or znJ)
theorem zjT(its:List Value)(n j:Nat)(u:Value):Obj.mapSeq (·.setIfInBounds j u) { cls:=.type "list", data:=.seq its.toArray n } = { cls:=.type "list", data:=.seq (its.set j u).toArray n }:=by
 simp [Obj.mapSeq]
theorem Inv.lst{pins:List (Addr×Obj)}{σ : St}{H:Hp}{s:Shared}{p:Addr}{xs:List V}(I:Inv X pins σ H s)(h:H p=some (.lst xs)) :
 ∃ (its:List Value) (n:Nat),Vals xs its/\s.heap.get? p=some { cls:=.type "list", data:=.seq its.toArray n }/\xs.length<=sizeLine:=by
 obtain⟨z,its,n,r,e⟩:=I.hok p _ h;exact⟨its,n,r,e,z⟩
theorem Inv.lstUpd{pins:List (Addr×Obj)}{σ : St}{H:Hp}{s:Shared}{p:Addr}{xs ys:List V}{its its':List Value}{n n':Nat}{f:Obj->Obj}(I:Inv X pins σ H s)(h:H p=some (.lst xs))
 (ho:s.heap.get? p=some { cls:=.type "list", data:=.seq its.toArray n }) (hf:f { cls:=.type "list", data:=.seq its.toArray n } = { cls:=.type "list", data:=.seq its'.toArray n' }) (r:Vals ys its') (hz:ys.length<=sizeLine) (t:Nat) :
 Inv X pins σ (upd H p (.lst ys)) { s with heap:=s.heap.update p f,toks:=t }:=by
 have e:(s.heap.update p f).get? p=some { cls:=.type "list", data:=.seq its'.toArray n' }:=by
  rw [Heap.get?_update_self f ho (by rw [hf]<;>rfl),hf]
 refine I.write (x:=p) (e:=p) (by rw [h];trivial) (.inl rfl) (fun b u hb q=>(Heap.get?_update_other _ _ (WbM hb)).trans q) ⟨_,e⟩ ?_
 exact⟨hz,its',n',r,e⟩
def rSetL:V->V->V->Hp->(Hp->Prop)->Prop:=fun o i v H Q=>∃ p xs k j,o=.ref p/\i=.int k/\H p=some (.lst xs)/\ixN xs.length k=some j/\Q (upd H p (.lst (xs.set j v)))
theorem zmA:PSet X rSetL:=by
 intro pins s σ H o i v ov iv u Q I ro ri rv h;obtain⟨p,xs,k,j,rfl,rfl,hp,hj,q⟩:=h;cases ro;obtain⟨t,rfl⟩:=ri;obtain⟨its,n,r,ho,hz⟩:=I.lst hp;obtain⟨h1,h2,h3,h4⟩:=zc9 hj;have hl:=r.length;have hn:=JI;have I':Inv X pins σ (upd H p (.lst (xs.set j v))) { s with heap:=s.heap.update p (Obj.mapSeq (·.setIfInBounds j u)) }:=
  I.lstUpd hp ho (zjT its n j u) (r.set rv j) (by rw [YaN];exact hz) s.toks
 by_cases h0:0<=k
 . have hk:k.toNat=j:=by
    rw [seqIndex_of h0 h4] at h1;exact Wbe h1
   exact PySem.W.ki_setAt ho h0 #[0] (by rw [YaZ,<-hl];exact h4) (by rw [hk];exact⟨_,I',q⟩)
 . have hk:(k+(its.toArray.size:Int)).toNat=j:=by
    rw [seqIndex_neg #[0] h3] at h1
    rw [YaZ,<-hl];exact Wbe h1
   exact PySem.W.ki_setBack ho #[0] (by rw [YaZ,<-hl];exact h3) #[0] (by rw [hk];exact⟨_,I',q⟩)
theorem zgG:zI X (.builtin "len") (fun xs H Q=>∃ p ys,xs=[.ref p]/\(SqL X.K H p ys\/SqT X.K H p ys)/\Q (.int ys.length) H):=by
 intro pins s σ H xs us Q I r h;obtain⟨p,ys,rfl,hq,q⟩:=h;obtain⟨u,rfl,rx⟩:=j9 r;cases rx;have hn:=JI
 rcases hq with hq|hq
 . obtain⟨its,r',pl,hz⟩:=I.list hq
   have hlen:=r'.length;exact Calls.call_len_list pl.isList (by simp only [YaZ]<;>omega) ⟨.int ys.length,H,I.tok _,⟨s.toks+1,by rw [YaZ,hlen]⟩,q⟩
 . obtain⟨its,r',pl,hz⟩:=I.tuple hq
   have hlen:=r'.length;exact len_tuple pl (by simp only [YaZ]<;>omega) ⟨.int ys.length,H,I.tok _,⟨s.toks+1,by rw [YaZ,hlen]⟩,q⟩
theorem zhw:zI X (.builtin "len") (fun xs H Q=>∃ z,xs=[.str z]/\z.length<=sizeLine/\Q (.int z.length) H):=by
 intro pins s σ H xs us Q I r h;obtain⟨z,rfl,hz,q⟩:=h;obtain⟨u,rfl,t,rfl⟩:=j9 r;have hn:=JI;exact len_str #[0] ⟨.int z.length,H,I.tok _,⟨_,rfl⟩,q⟩
theorem zI.or{f:Value}{r r':List V->Hp->VK->Prop}(h:zI X f r)(h':zI X f r'):zI X f (fun xs H Q=>r xs H Q\/r' xs H Q):=by
 intro pins s σ H xs us Q I rs q
 rcases q with q|q
 . exact h pins s σ H xs us Q I rs q
 . exact h' pins s σ H xs us Q I rs q
theorem zmo:zI X (.type "list") (fun xs H Q=>∃ p ys,xs=[.ref p]/\(SqL X.K H p ys\/SqT X.K H p ys)/\∀ l,H l=none->Q (.ref l) (upd H l (.lst ys))):=by
 intro pins s σ H xs us Q I r h;obtain⟨p,ys,rfl,hq,q⟩:=h;obtain⟨u,rfl,rx⟩:=j9 r;cases rx;have fin:∀ (its:List Value),Vals ys its->ys.length<=sizeLine->∀ (h':Heap) (c':Nat),(∀ b o',s.heap.get? b=some o'->h'.get? b=some o')->
  h'.get? s.heap.objs.size=some { cls:=.type "list", dict:=none,data:=.seq its.toArray c',slots:=#[] }->EP X pins σ Q (.ref s.heap.objs.size) { s with heap:=h' }:=fun its r' hz h' c' kp e=>
  ⟨.ref s.heap.objs.size,_,I.laid (t':=s.toks) kp (YaY _) (show zK X.prog X.w _ h' _ (.lst ys) from⟨hz,its,c',r',e⟩),rfl,q _ (I.hok.fresh (YaY _))⟩
 rcases hq with hq|hq
 . obtain⟨its,r',pl,hz⟩:=I.list hq
   have hlen:=r'.length;obtain⟨o,ho,hc,n,hd⟩:=pl.isList;exact call_list_seq p (.inl rfl) ho hc hd (fun h' c' kp e=>fin its r' hz h' c' kp e) (by simp only [YaZ]<;>omega)
 . obtain⟨its,r',pl,hz⟩:=I.tuple hq
   have hlen:=r'.length;obtain⟨o,ho,hc,n,hd⟩:=pl;exact call_list_seq p (.inr rfl) ho hc hd (fun h' c' kp e=>fin its r' hz h' c' kp e) (by simp only [YaZ]<;>omega)
def tyV(K:Ybf)(T:String)(x:V)(H:Hp):Prop:=match x with
 | .str _=>T = "str"
 | .int _=>T = "int"
 | .ref p => (T = "list" /\ ∃ xs, SqL K H p xs) \/ (T = "tuple" /\ ∃ o, K.lookup p = some o /\ o.cls = .type "tuple" /\ o.dict = none) \/
  (T = "dict"/\((∃ kvs,H p=some (.dK kvs))\/∃ kvs,H p=some (.dT kvs)))\/(T = "set"/\∃ S n,H p=some (.set S n))
 | _=>False
theorem zkc{pins:List (Addr×Obj)}{σ : St}{H:Hp}{s:Shared}{T:String}{x:V}{v:Value}(I:Inv X pins σ H s)(r:RelV x v)(ty:tyV X.K T x H) :
 s.TypeIs v T/\∀ a,v=.ref a->∃ ob,s.heap.get? a=some ob/\ob.dict=none:=by
 cases x with
 | str z=>
  obtain⟨t,rfl⟩:=r;cases(show T = "str" from ty)
  exact⟨typeIs_str s z t,fun _ e=>nomatch e⟩
 | int i=>
  obtain⟨t,rfl⟩:=r;cases(show T = "int" from ty)
  exact⟨typeIs_int s i t,fun _ e=>nomatch e⟩
 | ref p=>
  cases r
  rcases ty with ⟨rfl,xs,hq⟩|⟨rfl,o,hk,hc,hd⟩|⟨rfl,hk⟩|⟨rfl,S,n,hk⟩
  . obtain⟨its,_,pl,_⟩:=I.list hq
    refine⟨pl.isList.typeIs,fun a e=>?_⟩
    cases e;obtain⟨o,n,e,c,hd,_⟩:=pl
    exact⟨o,e,hd⟩
  . refine⟨⟨o,I.kIn p o hk,hc⟩,fun a e=>?_⟩
    cases e;exact⟨o,I.kIn _ o hk,hd⟩
  . have z:∃ o,s.heap.get? p=some o/\o.ExactDict:=by
     rcases hk with ⟨kvs,hk⟩|⟨kvs,hk⟩
     . obtain⟨_,_,_,_,o,_,_,e,ex,_⟩:=I.hok p _ hk
       exact⟨o,e,ex⟩
     . obtain⟨_,_,_,_,o,_,_,e,ex,_⟩:=I.hok p _ hk
       exact⟨o,e,ex⟩
    obtain⟨o,e,ex⟩:=z;refine⟨⟨o,e,ex.1⟩,fun a e2=>?_⟩
    cases e2;exact⟨o,e,ex.2.1⟩
  . obtain⟨o,_,_,_,e,ex,_⟩:=I.hok p _ hk
    refine⟨⟨o,e,ex.1⟩,fun a e2=>?_⟩
    cases e2;exact⟨o,e,ex.2.1⟩
 | _=>exact False.elim ty
def tBM(K:Ybf)(T:String)(r:V->List V->Hp->VK->Prop)(to:TE)(t:TA):TE:=fun σ H Q=>to σ H fun x H1=>tyV K T x H1/\t σ H1 fun xs H2=>r x xs H2 Q
variable{o e:Expr}{es:List Expr}{to:TE}{t:TA}{name:Str}{apos cpos:Pos}{T id:String}{r:V->List V->Hp->VK->Prop}
theorem za4(pa:PlainAttrs T)(slot:Slot T name id)(hty:typeOf (.builtin id)=pure (.type "method_descriptor"))(hm:MtR X id r)(ho:PE X o to)(ha:PA X (e::es) t)
 (hbase:attributeBase o name X.env (eval o X.env)=eval o X.env:=by rfl)
 (hfew:((backTo cpos (starEach (e::es) X.env)).all (fun x=>!x.1)&&(backToKw cpos (keywordEach [] X.env)).all (fun x=>x.1.isSome)
  && decide ((e::es).length+([]:List Keyword).length+(if([]:List Keyword).isEmpty then 0 else 1)<30))=true:=by rfl)
 (hline:(apos.endLine==cpos.line)=true:=by rfl) (hs:starEach (e::es) X.env=(false,eval e X.env)::starEach es X.env:=by rfl) (hplain:(backTo cpos (starEach es X.env)).any (·.1)=false:=by rfl) :
 PE X (.Call (.Attribute o name apos) (e::es) [] cpos) (tBM X.K T r to t):=by
 intro pins s σ H Q I h;refine wpAny_Call_method_late hbase hfew hline rfl (thn (ho pins s σ H _ I h) fun v s1 ⟨x,H1,I1,r1,ty,q1⟩=>?_)
 obtain⟨h1,h2⟩:=zkc I1 r1 ty;refine⟨T,id,pa,slot,hty,h1,h2,?_⟩;have hA:=ha cpos pins s1 σ H1 _ I1 q1;rw [hs] at hA ⊢;refine Calls.callWith_builtin (by show(false||(backTo cpos (starEach es X.env)).any (·.1))=false;rw [hplain]<;>rfl) (Calls.evalArgs_plain ?_)
 exact thn hA fun us s2 ⟨vs,H2,I2,r2,q2⟩=>hm pins s2 σ H2 x vs v us Q I2 r1 r2 q2
end
def MtM(X:Cx)(id:String)(r:V->List V->Hp->VK->Prop):Prop:=
 ∀ (pins:List (Addr×Obj)) (s:Shared) (σ : St) (H:Hp) (x:V) (xs:List V) (v:Value) (us:List Value) (Q:VK),Inv X pins σ H s->RelV x v->Vals xs us->r x xs H Q->
  wpAny (model X.prog X.w) X.A (call (.builtin id) (v::us)) (EP X pins σ Q) X.xe s
theorem Vals.one:∀ {x:V} {us:List Value},Vals [x] us->∃ u,us=[u]/\RelV x u
 | _,_,.cons r .nil=>⟨_,rfl,r⟩
theorem Vals.zero:∀ {us:List Value},Vals [] us->us=[]
 | _,.nil=>rfl
theorem Vals.eraseIdx:∀ {xs:List V} {us:List Value} (i:Nat),Vals xs us->Vals (xs.eraseIdx i) (us.eraseIdx i)
 | _,_,_,.nil=>.nil
 | _,_,0,.cons _ t=>t
 | _,_,i+1,.cons r t=>.cons r (Vals.eraseIdx i t)
theorem Vals.rep{xs:List V}{us:List Value}(h:Vals xs us):∀ k:Nat,Vals (List.replicate k xs).flatten (List.replicate k us).flatten
 | 0=>.nil
 | k + 1 => by
  rw [List.replicate_succ,List.replicate_succ,List.flatten_cons,List.flatten_cons];exact Vals.append h (Vals.rep h k)
theorem zfM{α : Type}:∀ (l:List α) (i:Nat),(l.eraseIdx i).length<=l.length
 | [],_=>YaY _
 | _::_,0=>Nat.le_succ _
 | _::r,i+1=>Nat.succ_le_succ (zfM r i)
theorem zeu(its:List Value):∀ (k:Nat) (acc:List Value),
 List.foldl (fun x1 x2=>x1++x2) acc.toArray (List.replicate k its.toArray)=(acc++(List.replicate k its).flatten).toArray
 | 0,acc=>by simp
 | k + 1, acc => by
  have e:acc.toArray++its.toArray=(acc++its).toArray:=by simp
  have e2:(acc++its)++(List.replicate k its).flatten=acc++(List.replicate (k+1) its).flatten:=by
   rw [List.replicate_succ,List.flatten_cons,Yag]
  rw [<-e2,<-zeu its k (acc++its),<-e,List.replicate_succ,List.foldl_cons]
section
variable{X:Cx}{pins:List (Addr×Obj)}{σ : St}{H:Hp}{s:Shared}{l b:Addr}{xs ys zs:List V}
theorem Inv.lset{its its':List Value}{n:Nat}{f:Array Value->Array Value}{t':Nat}(I:Inv X pins σ H s)(hH:H l=some (.lst xs))
 (e:s.heap.get? l=some { cls:=.type "list", data:=.seq its.toArray n }) (hf:f its.toArray=its'.toArray) (hv:Vals ys its') (hz:ys.length<=sizeLine) :
 Inv X pins σ (upd H l (.lst ys)) { s with heap:=s.heap.update l (Obj.mapSeq f),toks:=t' }:=by
 have q:=PySem.IsL.update e f;rw [hf] at q;refine I.write (x:=l) (e:=l) (by rw [hH];exact trivial) (.inl rfl) (fun b' u hb hu=>(Heap.get?_update_other s.heap (Obj.mapSeq f) (WbM hb)).trans hu) ⟨_,q⟩ ?_
 exact⟨hz,its',_,hv,q⟩
theorem Inv.lnew{its:List Value}{t':Nat}(I:Inv X pins σ H s)(hv:Vals ys its)(hz:ys.length<=sizeLine) :
 Inv X pins σ (upd H s.heap.objs.size (.lst ys)) { s with heap:=s.heap.push { cls:=.type "list", data:=.seq its.toArray },toks:=t' }:=
 I.laid (fun _ _ q=>YaW _ q) (YaY _) ⟨hz,its,0,hv,Yan _ rfl⟩
theorem Inv.fresh(I:Inv X pins σ H s):H s.heap.objs.size=none:=I.hok.fresh (YaY _)
theorem Inv.lstM(I:Inv X pins σ H s)(hH:H l=some (.lst xs)):xs.length<=sizeLine/\∃ (its:List Value) (n:Nat),Vals xs its/\xs.length=its.length/\s.heap.get? l=some { cls:=.type "list", data:=.seq its.toArray n }:=by
 obtain⟨z,its,n,r,e⟩:=I.hok l _ hH;exact⟨z,its,n,r,r.length,e⟩
theorem zdc{n:Nat}(h:n<=sizeLine):Builtin.List.listTooLong n=false:=by
 unfold Builtin.List.listTooLong;exact decide_eq_false #[0]
end
section
variable{X:Cx}
def rAppend:V->List V->Hp->VK->Prop:=fun x vs H Q=>∃ l xs y,x=.ref l/\vs=[y]/\H l=some (.lst xs)/\xs.length<sizeLine/\Q .non (upd H l (.lst (xs++[y])))
theorem zeX:MtM X "list.append" rAppend:=by
 intro pins s σ H x vs v us Q I rx rv h;obtain⟨l,xs,y,rfl,rfl,hH,hz,q⟩:=h;cases rx;obtain⟨u,rfl,ru⟩:=rv.one;obtain⟨z,its,n,r,hl,e⟩:=I.lstM hH;refine call_meets F.slot_list_append ⟨_,e,rfl⟩ F.entry_list_append (F.args_list_append_2 _ _) (PySem.list_append l its.toArray n u (by rw [YaZ];omega)) ⟨e,?_⟩
 refine⟨.non,_,I.lset (its':=its++[u]) hH e (by simp) (r.append (.cons ru .nil)) ?_,rfl,q⟩
 rw [YaS,List.length_singleton]
 omega
def rExtend:V->List V->Hp->VK->Prop:=fun x vs H Q=>∃ l b xs zs,x=.ref l/\vs=[.ref b]/\H l=some (.lst xs)/\H b=some (.lst zs)/\xs.length+zs.length<=sizeLine/\Q .non (upd H l (.lst (xs++zs)))
theorem zhg:MtM X "list.extend" rExtend:=by
 intro pins s σ H x vs v us Q I rx rv h;obtain⟨l,b,xs,zs,rfl,rfl,hH,hB,hz,q⟩:=h;cases rx;obtain⟨u,rfl,ru⟩:=rv.one;cases ru;obtain⟨z,its,n,r,hl,e⟩:=I.lstM hH;obtain⟨z2,its2,n2,r2,hl2,e2⟩:=I.lstM hB;have hsz:its.toArray.size+its2.toArray.size<=sizeLine:=by rw [YaZ,YaZ];omega
 have hlong:¬(!its.toArray.isEmpty&&Builtin.List.listTooLong (its.toArray.size+its2.toArray.size))=true:=by
  rw [zdc hsz,Bool.and_false];exact Yal
 refine call_meets F.slot_list_extend ⟨_,e,rfl⟩ F.entry_list_extend (F.args_list_extend_2 _ _)
  (AutoSeq1.list_extend_list_list_0 l its.toArray n b its2.toArray n2 hlong (by rw [YaZ];omega) #[0]) ⟨e,e2,?_⟩
 refine⟨.non,_,I.lset (its':=its++its2) hH e (by simp) (r.append r2) ?_,rfl,q⟩
 rw [YaS]
 omega
def rPopAt:V->List V->Hp->VK->Prop:=fun x vs H Q=>∃ l xs i k y,x=.ref l/\vs=[.int i]/\H l=some (.lst xs)/\-(2 ^ 63)<=i/\i<2 ^ 63/\seqIndex? i xs.length=some k/\xs[k]?=some y/\Q y (upd H l (.lst (xs.eraseIdx k)))
theorem zjW:MtM X "list.pop" rPopAt:=by
 intro pins s σ H x vs v us Q I rx rv h;obtain⟨l,xs,i,k,y,rfl,rfl,hH,h1,h2,hk,hy,q⟩:=h;cases rx;obtain⟨u,rfl,ru⟩:=rv.one;obtain⟨t,rfl⟩:=ru;obtain⟨z,its,n,r,hl,e⟩:=I.lstM hH;obtain⟨w,hw,rw'⟩:=r.get hy;refine call_meets F.slot_list_pop ⟨_,e,rfl⟩ F.entry_list_pop (F.args_list_pop_2 _ _)
  (MeetsSeq.list_pop_at l its.toArray n i t k w (fitsIndex_both h1 h2) (by rw [YaZ,<-hl];exact hk) (by rw [<-Wav];exact hw) (by rw [YaZ];omega)) ⟨e,?_⟩
 refine⟨y,_,I.lset (its':=its.eraseIdx k) hH e ?_ (r.eraseIdx k) ?_,rw',q⟩
 . show its.toArray.eraseIdxIfInBounds k=(its.eraseIdx k).toArray
   rw [List.eraseIdxIfInBounds_toArray]
 . have:=zfM xs k
   omega
def rRep:R2:=fun x y H Q=>∃ l k xs,x=.ref l/\y=.int k/\H l=some (.lst xs)/\-(2 ^ 63)<=k/\k<2 ^ 63/\xs.length*k.toNat<=sizeLine/\
 ∀ p,H p=none->Q (.ref p) (upd H p (.lst (List.replicate k.toNat xs).flatten))
theorem znA{α : Type}(xs:List α)(k:Nat):(List.replicate k xs).flatten.length=k*xs.length:=by
 induction k with
 | zero=>simp
 | succ k ih=>rw [List.replicate_succ,List.flatten_cons,YaS,ih,Nat.succ_mul,Nat.add_comm]
theorem zg3:OpR X (binaryOp .Mult) rRep:=by
 intro pins s σ H x y v u Q I rx ry h;obtain⟨l,k,xs,rfl,rfl,hH,h1,h2,hz,q⟩:=h;cases rx;obtain⟨t,rfl⟩:=ry;obtain⟨z,its,n,r,hl,e⟩:=I.lstM hH;have hlen:its.toArray.size*k.toNat<=sizeLine:=by rw [YaZ,<-hl];exact hz
 have hcap:¬its.toArray.size*k.toNat > (2 ^ 63 - 1)/8:=by
  have:(sizeLine:Nat)<=(2 ^ 63 - 1)/8:=#[1]
  omega
 have hfit:¬(!Builtin.List.listFitsIndex k)=true:=by
  rw [fitsIndex_both h1 h2];exact Yal
 have hlong:¬Builtin.List.listTooLong (its.toArray.size*k.toNat)=true:=by
  rw [zdc hlen];exact Yal
 have hnew:List.foldl (fun x1 x2=>x1++x2) #[] (List.replicate (if its.toArray.isEmpty=true then 0 else k.toNat) its.toArray)=(List.replicate k.toNat its).flatten.toArray:=by
  have f0:∀ m:Nat,List.foldl (fun x1 x2=>x1++x2) #[] (List.replicate m its.toArray)=(List.replicate m its).flatten.toArray:=fun m=>by
   have:=zeu its m [];rw [List.nil_append] at this;exact this
  rw [f0];cases its with
  | nil=>simp
  | cons a r'=>rw [if_neg (by simp)]
 refine wpAny_binaryOp_repeat_ref (T:="list") (U:="int") #[1] ⟨_,e,rfl⟩ (fun s'=>typeIs_int s' k t) noFill_list_mul F.fills_int_mul F.slot_int_rmul repeat_list F.slot_int_index.lookup
  (call_meets F.slot_int_rmul (typeIs_int s k t) F.entry_int_rmul (F.args_int_rmul_2 _ _) (int___rmul___int_list k t l its.toArray n)
   ⟨e,rfl,⟨_,e,rfl⟩,call_meets F.slot_list_mul ⟨_,e,rfl⟩ F.entry_list_mul (F.args_list_mul_2 _ _) (AutoListH.list___mul___list_int_3 l its.toArray n k t hfit hcap hlong) ⟨e,?_⟩⟩)
 rw [hnew];exact⟨.ref _,_,I.lnew (t':=s.toks) (r.rep k.toNat) (by rw [znA,Nat.mul_comm];exact hz),rfl,q _ I.fresh⟩
end
section
variable{prog:Program}{w:World}{A:Around}{E:Value->Shared->Prop}{s:Shared}
end
section
variable{X:Cx}
end
end L2
namespace Att
open PySem PySem.W PySem.Calls PyProof.Rows
theorem zmq{P:Params}{h:Heap}:∀ (ns:List Int) (vs:List Value),WellAll P h vs (ns.map WData.int)->IntsAre vs ns:=by
 intro ns
 induction ns with
 | nil=>
  intro vs w;rw [WbB] at w;cases w;exact .nil
 | cons n ns ih=>
  intro vs w;rw [Ya1] at w;cases w with
  | cons a b=>
   cases a;exact .cons _ _ (ih _ b)
theorem zgy{l:OpenLaw}{n:Nat}(hn:l.most=some n){P:Params}{h:Heap}{args:List WData}{vals:List Value}
 (hpre:l.row.toRowW.claim.pre args=true) (hwl:WellAll P h vals args) :
 ∃ a vs ns,vals=[Value.ref a]/\args=[WData.list (ns.map WData.int)]/\h.get? a=some { cls:=.type "list", data:=.seq vs.toArray }/\IntsAre vs ns/\ns.length<=n:=by
 have hsh:WShape.hasAll [] args [.list .int]=true:=(pre_splitW hpre).1;have hc:l.pre.holds [] { args:=args }=true:=(pre_splitW hpre).2;obtain⟨d,r,rfl,h1,h2⟩:=hasAllW_cons hsh;obtain rfl:=hasAllW_nil h2;obtain⟨xs,rfl,h3⟩:=hasW_list h1;obtain⟨ns,rfl⟩:=items_int h3;have hlen:ns.length<=n:=by
  unfold OpenLaw.pre at hc;have h4:(WTm.not (.lt (.lit (.int (n:Int))) (.len (.arg 0)))).holds [] { args:=[.list (ns.map .int)] }=true:=by
   have h4:=(holds_andW hc).1;rw [hn] at h4;exact h4
  have h5:=condW_of h4 (w_not (w_lt w_lit (w_len_list (w_arg rfl))));rw [YaR] at h5;refine Nat.le_of_not_lt fun q=>?_
  have q':(n:Int)<((ns.length:Nat):Int):=#[0]
  first
   | (rw [decide_eq_true q'] at h5;exact absurd h5 #[1])
   | (simp at h5;omega)
 cases hwl with
 | cons w1 w2=>
  cases w2;cases w1 with
  | list ho hall=>exact⟨_,_,ns,rfl,rfl,ho,zmq ns _ hall,hlen⟩
theorem zhH(l:OpenLaw)(args:List WData):l.row.toRowW.claim.post args (.bool true) args=true:=
 postW_of (r:=l.row.toRowW) (X:=(true==true))
  (show WShape.has [] (.bool true) .bool=true by first|rfl|decide|simp [WShape.has,WShape.arms,WShape.armsAll])
  (show(WTm.eq .res (.lit (.bool true))).value [] { args:=args,res:=some (.bool true),after:=args }=some (.bool (true==true)) from w_eq_bool (w_res rfl) w_lit) rfl
theorem attach_call{l:OpenLaw}{n:Nat}{q:Program}{loose:List Str}{XP:(Str->Option Value)->Heap->Prop}{YP:World->Heap->Prop}{d:DefRec}
 (hn:l.most=some n) (hdf:d.params.defaults=[])
 (call:∀ (w:World) (s₀ s₁ : Shared) (mg mb:Str->Option Value) (fa:Addr) (o:Obj) (pm cd doc:Value) (a:Addr) (vs:List Value) (ns:List Int),
  Ground q loose [] XP w s₀ mg mb s₁.heap->YP w s₁.heap->
  s₁.heap.get? fa=some o->o.data=.func (docDef d.name d.params d.body d.scope pm cd doc)->s₁.heap.CodeRec cd d.name->mg d.name=some (.ref fa)->
  s₁.heap.get? a=some { cls:=.type "list", data:=.seq vs.toArray }->IntsAre vs ns->ns.length<=n->s₁.gens = #[]->
  codeAny (model l.prog w) callerA (.call (.ref fa) ⟨[.ref a],[]⟩) (fun r s'=>r=.ok (.ret (.bool true))/\OldK s₁.heap s'.heap/\s'.os=s₁.os/\AllBare s'.gens) s₁) :
 WalkO q loose XP YP l.row.toRowW d [] (fun f vs=>PySem.call f vs):=by
 intro w s₀ s₁ mg mb G Y fa o pm cd doc dV kV ho hd hcd hD hmg hg args vals as hpre hlay hrd hwl hlo;obtain rfl:dV=.none:=Dflts.none hD hdf;obtain rfl:kV=.none:=Dflts.noKw hD;obtain⟨a,vs,ns,rfl,rfl,hobj,hints,hlen⟩:=zgy hn hpre hwl;refine enter_call (codeAny_mono (call w s₀ s₁ mg mb fa o pm cd doc a vs ns G Y ho (fd_plain hd) hcd hmg hobj hints hlen hg) fun r s' hq=>?_)
 obtain⟨rfl,h2,h3,h4⟩:=hq;exact⟨.inl ⟨.bool true,.bool true,[],rfl,fun _=>rfl,.bool true,zhH l _,fun _=>⟨List.Pairwise.nil,fun _ hm=>(nomatch hm)⟩⟩,h2,h3,h4⟩
section
variable{prog:Program}{w:World}{A:Around}{E:Value->Shared->Prop}{s:Shared}{K:Frag}
end
end Att
namespace L2
open PySem PySem.Spec PyProof.Rows
theorem zbR:∀ {vs:List Value} {ns:List Int},IntsAre vs ns->Vals (ns.map V.int) vs
 | _,_,.nil=>.nil
 | _,_,.cons n t h=>.cons ⟨t,rfl⟩ (zbR h)
def zw(s:Stmt):Arguments:=match s with
 | .FunctionDef _ a _ _ _ _ _ _ _ _=>a
 | _=>{ posonlyargs:=[],args:=[],vararg:=none,kwonlyargs:=[],kw_defaults:=[],kwarg:=none,defaults:=[] }
def zp(s:Stmt):List Stmt:=match s with
 | .FunctionDef _ _ b _ _ _ _ _ _ _=>b
 | _=>[]
def ze(s:Stmt):Scope:=match s with
 | .FunctionDef _ _ _ _ _ _ sc _ _ _=>sc
 | _=>{ kind:=.function,names:=[],isGenerator:=false,isCoroutine:=false }
abbrev CX0:CXT:=fun _ _ _ _ _ _=>False
structure Fun(K:Ybf)(x qual:Str)(st:Stmt)(f:Addr)(fd:FuncData):Prop where
 ex:∃ (oc:Value) (od:Option Addr) (kV doc pm:Value) (an:Option Addr) (cdv ct:Value) (osl:Array (Option Value)),
  fd=PySem.W.fnOf x qual (zw st) (zp st) (ze st) .none kV doc pm an cdv ct/\K.lookup f=some ⟨oc,od,.func fd,osl⟩/\PySem.W.codeIn K cdv qual=true
 kp:PySem.W.keepIn K (.ref f)=true
section
variable{P:Program}{w:World}{K:Ybf}{mg:Str->Option Value}{base:Heap}
theorem Fun.ok{x qual:Str}{st:Stmt}{f:Addr}{fd:FuncData}{N ps:List Str}{k:Nat}{sp:Sp}(F:Fun K x qual st f fd)(S:FnScope N ps (ze st))(len:∀ vs H Q E,sp vs H Q E->vs.length=ps.length)
 (hbody:∀ (cdv:Value) (A:Around) (outer:List Env) (s:Shared) (H:Hp) (vs:List V) (Q:VK) (E:XK),Room k (A.deeper (envOfC qual (ze st) s.heap.objs.size f cdv))->sp vs H Q E->
  ∃ t,PSs (cxOf CX0 P w K mg base N qual (ze st) f cdv A outer s H E).nox (zp st) t/\t { nx:=fun _ H'=>Q .non H',rt:=Q } (start N vs) H):FnOk P w K mg base CX0 (k+1) f fd ps sp:=by
 obtain⟨oc,od,kV,doc,pm,an,cdv,ct,osl,rfl,lk,hcd⟩:=F.ex;refine zcE lk hcd S len fun A outer s H vs Q E hr hsp=>?_
 obtain⟨t,h,q⟩:=hbody cdv A outer s H vs Q E hr hsp;exact⟨t,h.nox,q⟩
theorem Fun.binds{x qual:Str}{st:Stmt}{f:Addr}{fd:FuncData}{ps:List Str}(F:Fun K x qual st f fd)
 (h:∀ (kV doc pm:Value) (an:Option Addr) (cdv ct:Value) (us:List Value),us.length=ps.length->bindArgs (PySem.W.fnOf x qual (zw st) (zp st) (ze st) .none kV doc pm an cdv ct) ⟨us,[]⟩=pure (ps.zip us)):Binds K fd ps []:=by
 obtain⟨oc,od,kV,doc,pm,an,cdv,ct,osl,rfl,lk,hcd⟩:=F.ex;exact .all (h kV doc pm an cdv ct)
theorem zz{x qual:Str}{st:Stmt}{f:Addr}{oc:Value}{od an:Option Addr}{osl:Array (Option Value)}{kV doc pm cdv ct:Value}(l:K.lookup f=some ⟨oc,od,.func (PySem.W.fnOf x qual (zw st) (zp st) (ze st) .none kV doc pm an cdv ct),osl⟩)
 (c:PySem.W.codeIn K cdv qual=true) (k:PySem.W.keepIn K (.ref f)=true):Fun K x qual st f (PySem.W.fnOf x qual (zw st) (zp st) (ze st) .none kV doc pm an cdv ct):=⟨⟨oc,od,kV,doc,pm,an,cdv,ct,osl,rfl,l,c⟩,k⟩
end
theorem zeU{A:Around}{k:Nat}(hr:Room k A):A.units+1<cLine:=WaF (Nat.add_le_add_left (by decide:1<=64) _) hr.units
section
variable{X:Cx}
end
theorem ite2{c A B:Prop}[Decidable c](h1:c->A)(h2:¬c->B):if c then A else B:=by
 by_cases h:c
 . rw [if_pos h]
   exact h1 h
 . rw [if_neg h]
   exact h2 h
def Same(H H':Hp):Prop:=∀ b o,H b=some o->H' b=some o
theorem Same.refl(H:Hp):Same H H:=fun _ _ h=>h
theorem Same.trans{H H1 H2:Hp}(a:Same H H1)(b:Same H1 H2):Same H H2:=fun c o h=>b c o (a c o h)
theorem Same.free{H H':Hp}(e:Same H H'){l:Addr}(h:H' l=Option.none):H l=Option.none:=by
 cases q:H l with
 | none=>rfl
 | some o=>
  rw [e l o q] at h;cases h
theorem Same.seq{K:Ybf}{H H':Hp}{a:Addr}{xs:List V}(e:Same H H')(h:SqL K H a xs):SqL K H' a xs:=by
 rcases h with (h|⟨o,h⟩)|h
 . exact .inl (.inl (e _ _ h))
 . exact .inl (.inr ⟨o,e _ _ h⟩)
 . exact .inr h
end L2
end
set_option Elab.async false
set_option linter.all false
set_option maxRecDepth 100000
namespace L2
open PySem PySem.Spec PyProof.Rows
def Bits(k:Nat)(x:Int):Prop:=x.natAbs<2 ^ k
theorem Bits.mono{j k:Nat}{x:Int}(h:Bits j x)(hk:j<=k):Bits k x:=YaU h (Nat.pow_le_pow_right #[1] hk)
theorem Bits.mul{j k:Nat}{x y:Int}(h:Bits j x)(h':Bits k y):Bits (j+k) (x*y):=by
 unfold Bits at *;rw [Int.natAbs_mul,Nat.pow_add];exact Nat.mul_lt_mul'' h h'
theorem Bits.neg{k:Nat}{x:Int}(h:Bits k x):Bits k (-x):=by unfold Bits at *;rw [Int.natAbs_neg];exact h
theorem Bits.add{k:Nat}{x y:Int}(h:Bits k x)(h':Bits k y):Bits (k+1) (x+y):=by
 unfold Bits at *;have:=Int.natAbs_add_le x y;rw [Nat.pow_succ];omega
theorem Bits.sub{k:Nat}{x y:Int}(h:Bits k x)(h':Bits k y):Bits (k+1) (x - y):=by
 have:=h.add h'.neg;rwa [<-Int.sub_eq_add_neg] at this
theorem Bits.le{k:Nat}{x y:Int}(h:Bits k x)(hy:y.natAbs<=x.natAbs):Bits k y:=WaF hy h
theorem Bits.log2{k:Nat}{x:Int}(h:Bits k x)(hk:0<k):x.natAbs.log2<k:=by
 rcases Nat.eq_zero_or_pos x.natAbs with h0|hp
 . rw [h0];exact hk
 . exact(Nat.log2_lt (WbA hp)).mpr h
theorem Bits.bits{k:Nat}{x:Int}(h:Bits k x):Builtin.Int.intBits x<=k:=by
 unfold Builtin.Int.intBits
 split
 . exact WbH _
 . rename_i hx
   have hx':x.natAbs≠0:=by
    intro e;apply hx;rw [Int.natAbs_eq_zero.mp e];rfl
   exact(Nat.log2_lt hx').mpr h
theorem Bits.mulOk{j k:Nat}{x y:Int}(h:Bits j x)(h':Bits k y)(hk:j+k<=134217728):IntMulOk x y:=by
 unfold IntMulOk;have e1:=h.bits;have e2:=h'.bits;have e:Builtin.Int.intTooBig ((Builtin.Int.intBits x:Int)+(Builtin.Int.intBits y:Int))=false:=by
  unfold Builtin.Int.intTooBig;refine decide_eq_false ?_;have:(bitsLine:Nat)=134217728:=by unfold bitsLine;decide
  omega
 intro z;rw [Yak] at z;have z2:=z.2;rw [e] at z2;cases z2
section
variable{X:Cx}
theorem zkg:OpR X (binaryOp .Mult) (rI IntMulOk fun i j=>.int (i*j)):=opI fun _ _ _ _ _ _ _ hc q=>mul_int q hc
def Zz(i j:Int):Prop:=0<=j/\(Builtin.Int.intBits i:Int)*j<=134217728
theorem zha:OpR X (binaryOp .Pow) (rI Zz fun i j=>.int (i ^ j.toNat)):=opI fun i j _ _ _ _ _ hc q=>by
 refine pow_int hc.1 ?_ q
 have e:((2:Int) ^ 27)=134217728:=#[1]
 rw [e];exact hc.2
def Its(lo st:Int)(n:Nat):It:=⟨fun i _=>i<n,fun i H x H'=>H'=H/\x=.int (lo+i*st),fun i _=>n<=i⟩
theorem zjx{P:Program}{w:World}{K:Ybf}{tg:Expr}(it:Addr)(lo st:Int)(n:Nat):Turn P w K tg (Its lo st n) [it] it (fun i h=>IsRangeIter h it (lo+(i:Nat)*st) ((n:Int) - (i:Nat)) st) where
 mem:=by simp
 obj:=fun i h g b hb=>by
  have e:b=it:=by simpa using hb
  subst e;exact⟨_,g,fun v z=>by
   have z':Data.fields _=Data.cell v:=z;cases z'⟩
 keep:=fun i h h' g k=>k it (by simp) _ g
 item:=by
  intro X hP hw hK hc i pins s σ H E I hf g hg;subst hP hw hK;obtain⟨f0,f1,f2,f3,f4,f5⟩:=hf it (by simp)
  have W:=Walks.range (prog:=X.prog) (w:=X.w) (I.ok.hd hc) it lo st n;refine W.item i s _ _ hg g fun v h' tk hv g' kk=>?_
  obtain⟨t,rfl⟩:=hv;have I1:Inv X pins σ H { s with heap:=h',toks:=tk }:=I.turned (fun b o hb e=>kk b o (by simpa using hb) e) f0 f1 f3 f4 f5
  exact⟨_,rfl,zct (s:={ s with heap:=h',toks:=tk }) (n:="range_iterator") g' rfl rfl #[1] ⟨.int (lo+i*st),H,I1,⟨t,rfl⟩,⟨rfl,rfl⟩,g',fun b hb=>(hf b hb).1⟩⟩
 done:=by
  intro X hP hw hK hc i pins s σ H E I hf g hg;subst hP hw hK;obtain⟨f0,f1,f2,f3,f4,f5⟩:=hf it (by simp)
  exact wpAny_pyNext_range_end (I.ok.hd hc) g (by have:n<=i:=hg;omega) fun h' eb=>⟨rfl,I.turned (t':=s.toks) (fun b o hb e=>eb b o hb e) f0 f1 f3 f4 f5⟩
 self:=fun _ _ _ _ _ g h=>wpAny_pyIter_rangeiter g h
def stN(lo hi st:Int):Nat:=((hi - lo+st - 1)/st).toNat
def zgI(ta:TA):TI:=fun σ H R=>ta σ H fun vs H1=>∃ i j k:Int,vs=[.int i,.int j,.int k]/\(0<=i/\i<1000000/\0<=j/\j<1000000/\0<k/\k<1000000)/\R (Its i k (stN i j k)) H1
theorem zdS{lo hi st:Int}(h:0<st):Builtin.Range.rangeSize lo hi st=(stN lo hi st:Int):=by
 unfold Builtin.Range.rangeSize stN;rw [if_pos h]
 by_cases hl:lo<hi
 . rw [if_pos hl]
   have e:hi - lo+st - 1=(hi - lo - 1)+1*st:=#[0]
   rw [e,Int.add_mul_ediv_right _ _ #[0]]
   have:0<=(hi - lo - 1)/st:=Wbf #[0] #[0]
   omega
 . rw [if_neg hl]
   have:(hi - lo+st - 1)/st<=0:=by
    have h1:(hi - lo+st - 1)/st<1:=Int.ediv_lt_of_lt_mul h #[0]
    omega
   omega
theorem zgu{lo hi st:Int}(h0:0<=lo)(h1:lo<1000000)(h2:0<=hi)(h3:hi<1000000)(h4:0<st)(h5:st<1000000):Builtin.Range.small lo hi st=true:=by
 unfold Builtin.Range.small;rw [zdS h4];have e1:stN lo hi st<=1000000:=by
  unfold stN;have:(hi - lo+st - 1)/st<=1000000:=by
   by_cases hp:0<=hi - lo+st - 1
   . have:=Int.ediv_le_self st hp
     have h6:(hi - lo+st - 1)/st<1000000:=Int.ediv_lt_of_lt_mul h4 (by
      have:(1000000:Int)*1<=1000000*st:=Yau #[0] #[1]
      omega)
     omega
   . have:=Int.ediv_neg_of_neg_of_pos (by omega:hi - lo+st - 1<0) h4
     omega
  omega
 have e2:0<=(stN lo hi st:Int)*st:=YaK #[0] #[0]
 have e3:(stN lo hi st:Int)*st<=1000000*1000000:=Int.mul_le_mul #[0] #[0] #[0] #[1]
 simp only [Builtin.Range.rangeFitsLong,Yak,Bool.or_eq_true,decide_eq_true_eq,beq_iff_eq];rw [if_pos h4];simp only [Yak,decide_eq_true_eq]
 omega
theorem ziW{tg a b c:Expr}{ta:TA}{p pos:Pos}(hg:Gl X "range")(hm:X.mg "range" = none)(ha:PA X [a,b,c] ta)(hs:starEach [a,b,c] X.env=[(false,eval a X.env),(false,eval b X.env),(false,eval c X.env)]:=by rfl)
 (hs2:starEach [b,c] X.env=[(false,eval b X.env),(false,eval c X.env)]:=by rfl) :
 PI X tg (.Call (.Name "range" p) [a,b,c] [] pos) (zgI ta):=by
 intro pins s σ H R I h;refine Call_ (jW I hg hm boot_range (Wad (thn (ha pos pins s σ H _ I h) fun us s1 ⟨vs,H1,I1,r1,q1⟩=>?_) (by rw [hs,hs2]) (by rw [hs2];rfl)))
 obtain⟨i,j,k,e,⟨q1,q2,q3,q4,q5,q6⟩,q⟩:=q1;subst e;cases r1 with
 | cons r rr=>
  cases rr with
  | cons r' rr=>
   cases rr with
   | cons r'' rr=>
    cases rr;obtain⟨t,rfl⟩:=r
    obtain⟨t',rfl⟩:=r';obtain⟨t'',rfl⟩:=r'';refine call_range_3 #[0] ?_ (.inl (PyProof.noPylong_small #[0]))
    refine wpAny_pyIter_range (IsRange.new ..) (zgu q1 q2 q3 q4 q5 q6) ?_
    have I2:Inv X pins σ H1 { s1 with heap:=s1.heap.push { cls:=.type "range", data:=.fields #[.int i t,.int j t',.int k t''] } }:=I1.kept (t':=s1.toks) fun b o e=>YaW _ e
    refine⟨_,[_],_,_,H1,rfl,I2.kept (t':=s1.toks) fun b o e=>YaW _ e,zjx _ i k (stN i j k),?_,fun b hb=>?_,q⟩
    . have e1:i+((0:Nat):Int)*k=i:=by simp
      have e2:(((stN i j k):Nat):Int) - ((0:Nat):Int)=Builtin.Range.rangeSize i j k:=by rw [zdS q5];omega
      show IsRangeIter _ _ (i+((0:Nat):Int)*k) ((((stN i j k):Nat):Int) - ((0:Nat):Int)) k
      rw [e1,e2];exact Yan _ rfl
    . have e:b=(s1.heap.push { cls:=.type "range", data:=.fields #[.int i t,.int j t',.int k t''] }).objs.size:=by simpa using hb
      subst e;exact I2.fpOk (YaY _) (I2.hok.fresh (YaY _))
end
theorem zK.got{P:Program}{w:World}{H:Hp}{h:Heap}{a:Addr}{o:HO}(x:zK P w H h a o):∃ ob,h.get? a=some ob:=by
 cases o with
 | lst xs=>obtain⟨_,_,_,_,e⟩:=x;exact⟨_,e⟩
 | tup xs=>obtain⟨_,_,_,ob,e,_⟩:=x;exact⟨_,e⟩
 | dK kvs=>obtain⟨_,_,_,_,o,_,_,e,_⟩:=x;exact⟨_,e⟩
 | dT kvs=>obtain⟨_,_,_,_,o,_,_,e,_⟩:=x;exact⟨_,e⟩
 | set S n=>obtain⟨o,_,_,_,e,_⟩:=x;exact⟨_,e⟩
 | ins C dx fs=>obtain⟨_,_,_,e,_⟩:=x;exact⟨_,e⟩
 | own y=>obtain⟨_,e⟩:=x;exact⟨_,e⟩
 | xd fs=>obtain⟨_,⟨_,_,_,e,_⟩,_⟩:=x;exact⟨_,e⟩
 | rng lo hi=>obtain⟨_,_,_,e⟩:=x;exact⟨_,e⟩
 | frz ob u=>obtain⟨e,_⟩:=x;exact⟨_,e⟩
 | tbl ps=>exact⟨_,(show h.get? a=some _ from x)⟩
 | met f y=>exact⟨_,(show h.get? a=some _ from x)⟩
 | ext φ=>obtain⟨_,⟨_,e⟩,_⟩:=x;exact⟨_,e⟩
theorem HOk.through{P:Program}{w:World}{H:Hp}{B h h':Heap}(x:HOk P w H h)(k:B.StaysIn h)(k':B.StaysIn h')(t:∀ b o,H b=some o->∃ o',B.get? b=some o'):HOk P w H h':=fun a o e=>
 (x a o e).stay (fun b u hb q=>by
  have hB:∃ ob,B.get? b=some ob:=by
   rcases hb with z|z
   . exact t b o (z ▸ e)
   . exact t b _ z
  obtain⟨ob,hob⟩:=hB;have e1:=k b ob hob;rw [q] at e1;cases e1;exact k' b _ hob) (fun _ q=>q) fun _ _ q=>q
theorem Un.through{fs:List Addr}{H H':Hp}{B h h1 h2:Heap}(un:Un fs [] H H' h h1)(cov:∀ b o,h.get? b=some o->b∉fs->∃ o',B.get? b=some o')(k:B.StaysIn h1)(k':B.StaysIn h2)
 (fr:∀ b∈fs,∀ o,h1.get? b=some o->∃ sl,h2.get? b=some { o with slots:=sl }):Un fs [] H H' h h2 where
 keep:=fun b o q n hb hx=>by
  obtain⟨o',ho⟩:=cov b o q hb;have e:=un.keep b o q n hb hx;have e1:=k b o' ho;rw [e] at e1;cases e1;exact k' b _ ho
 slot:=fun b o q n hb hx=>by
  obtain⟨sl,e⟩:=un.slot b o q n hb hx;obtain⟨sl',e'⟩:=fr b hb _ e;exact⟨sl',e'⟩
 free:=un.free
 there:=fun b o q hx=>by
  by_cases hb:b∈fs
  . obtain⟨o',e⟩:=un.there b o q hx
    obtain⟨sl,e'⟩:=fr b hb _ e;exact⟨_,e'⟩
  . obtain⟨o',ho⟩:=cov b o q hb
    exact⟨o',k' b _ ho⟩
 tups:=un.tups
 frzs:=un.frzs
 tbls:=un.tbls
structure Fly(P:Program)(w:World)(stack:List Env)(H:Hp)(s:Shared)(ea C:Addr)(H':Hp)(s':Shared):Prop where
 os:s'.os=s.os
 bare:AllBare s'.gens
 un:Un (frs stack) [] H H' s.heap s'.heap
 hok:HOk P w H' s'.heap
 fly:∃ B a0,Heap.FlyingW B stack ea (.ref C) a0 s'.heap/\(∀ b o,s.heap.get? b=some o->b∉frs stack->∃ o',B.get? b=some o')/\(∀ b o,H' b=some o->∃ o',B.get? b=some o')
def CXR(P:Program)(w:World):CXT:=fun outer H s E e s'=>∃ ea C H',e=.ref ea/\Fly P w outer H s ea C H' s'/\E (.ref C) none H'
theorem zm0{B h h':Heap}{l:List Env}(fr:h.FunFrames B l)(sm:h.UpToSlots h'):∀ b∈frs l,∀ o,h.get? b=some o->∃ sl,h'.get? b=some { o with slots:=sl }:=fun b hb o ho=>by
 obtain⟨_,o2,ho2,hd⟩:=fr.mem hb;rw [ho] at ho2;cases ho2;exact sm b o ho hd
section
variable{P:Program}{w:World}{K:Ybf}{mg:Str->Option Value}{base:Heap}{N:List Str}{qual:Str}{scope:Scope}{f:Addr}{cd:Value}{A:Around}{outer:List Env}{s₀ : Shared}{H₀ : Hp}{E:XK}{CX:CXT}
theorem zd1{pins:List (Addr×Obj)}{σ : St}{H:Hp}{s:Shared}(I:Inv (cxOf CX P w K mg base N qual scope f cd A outer s₀ H₀ E) pins σ H s){b:Addr}{o:Obj}(q:s₀.heap.get? b=some o)(hb:b∉frs outer) :
 b∉frs (cxOf CX P w K mg base N qual scope f cd A outer s₀ H₀ E).stack:=fun z=>by
 rcases Wbp.mp (I.stkSub b z) with e|e
 . have h1:=YaX q
   rw [show b=s₀.heap.objs.size from e] at h1
   exact Yap _ h1
 . exact hb e
theorem zd2{pins:List (Addr×Obj)}{σ : St}{H:Hp}{s:Shared}(I:Inv (cxOf CX P w K mg base N qual scope f cd A outer s₀ H₀ E) pins σ H s){b:Addr}{o:Obj}(q:s₀.heap.get? b=some o):∃ o',s.heap.get? b=some o':=
 I.base.there b o q (fun z=>absurd (show b∈([]:List Addr) from z) (by simp))
theorem zl:Passes (CXR P w) (cxOf (CXR P w) P w K mg base N qual scope f cd A outer s₀ H₀ E) E:=by
 intro pins σ H s e s' I h;obtain⟨ea,C,H',rfl,F,q⟩:=h;obtain⟨B,a0,fl,cov,trk⟩:=F.fly;have J:=I.call' (ch:=[]) F.os F.un F.hok F.bare (fun b z=>absurd z (by simp))
 have cov':∀ b o,s₀.heap.get? b=some o->b∉frs outer->∃ o',B.get? b=some o':=fun b o z hb=>by
  obtain⟨o1,h1⟩:=zd2 I z;exact cov b o1 h1 (zd1 I z hb)
 refine wpAny_leaves_onW (base:=B) (outer:=outer) (L:=s₀.heap.objs.size) I.ok.frames rfl fl fun h' fl' sm=>?_
 have fr:=zm0 (fl.2.2.1).2.2 sm;exact⟨ea,C,H',rfl,⟨J.os,F.bare,J.base.through cov' fl.1 fl'.1 fr,F.hok.through fl.1 fl'.1 trk,B,a0,fl',cov',trk⟩,q⟩
def Flies(X:Cx)(E:XK):Prop:=∀ (pins:List (Addr×Obj)) (σ : St) (H:Hp) (s:Shared) (e C:Addr) (vs:List Value) (h1:Heap),Inv X pins σ H s->Heap.MadeExcOf s.heap h1 e (.ref C) vs->E (.ref C) none H->X.xe (.ref e) { s with heap:=h1 }
theorem jF:Flies (cxOf (CXR P w) P w K mg base N qual scope f cd A outer s₀ H₀ E) E:=by
 intro pins σ H s e C vs h1 I M q;have kB:(PySem.W.hideAll s.heap (frs (cxOf (CXR P w) P w K mg base N qual scope f cd A outer s₀ H₀ E).stack)).StaysIn s.heap:=fun b o z=>PySem.W.of_hideAll _ z
 have trk:∀ b o,H b=some o->∃ o',(PySem.W.hideAll s.heap (frs (cxOf (CXR P w) P w K mg base N qual scope f cd A outer s₀ H₀ E).stack)).get? b=some o':=fun b o z=>by
  obtain⟨ob,hob⟩:=(I.hok b o z).got;exact⟨ob,PySem.W.hideAll_get _ hob fun hm=>by rw [I.stkFree b hm] at z;cases z⟩
 have cov:∀ b o,s₀.heap.get? b=some o->b∉frs outer->∃ o',(PySem.W.hideAll s.heap (frs (cxOf (CXR P w) P w K mg base N qual scope f cd A outer s₀ H₀ E).stack)).get? b=some o':=fun b o z hb=>by
  obtain⟨o1,h1⟩:=zd2 I z;exact⟨o1,PySem.W.hideAll_get _ h1 (zd1 I z hb)⟩
 refine wpAny_leaves_madeW (base:=PySem.W.hideAll s.heap (frs (cxOf (CXR P w) P w K mg base N qual scope f cd A outer s₀ H₀ E).stack)) (h:=s.heap) (outer:=outer) (L:=s₀.heap.objs.size) I.ok.frames rfl kB
  (PySem.W.funFrames_hide I.stack fun env he b hb=>List.mem_filterMap.mpr ⟨env,he,hb⟩) M fun h' t fl tu bt sm=>?_
 have fr:∀ b∈frs outer,∀ o,s.heap.get? b=some o->∃ sl,h'.get? b=some { o with slots:=sl }:=fun b hb o ho=>by
  obtain⟨_,o2,ho2,hd⟩:=I.funs.mem hb;rw [ho] at ho2;cases ho2;exact sm b o (M.keeps b o ho) hd
 exact⟨e,C,H,rfl,⟨I.os,I.bare,I.base.through cov kB fl.1 fr,I.hok.through kB fl.1 trk,_,_,fl,cov,trk⟩,q⟩
end
def bmVE:List Value:=[.type "ValueError", .type "Exception", .type "BaseException", .type "object"]
theorem zgd{K:Ybf}{h:Heap}{C:Addr}(X:K.In h)(q:PySem.W.excIn K C bmVE "ValueError.__new__" = true) :
 ∃ bm N nm qn bs hdct sn sub ab col dd k0 k1 k2 k3 k5 mN,h.get? C=some (excClassObj nm qn C N bs bm hdct sn sub ab col dd k0 k1 k2 k3 k5 "ValueError.__new__")/\h.Ns N mN/\mN "__init__" = none/\OwnTail h bmVE bm:=by
 unfold PySem.W.excIn at q
 split at q
 . rename_i dd cdx sl ho
   split at q
   . rename_i C' bm k0 k1 k2 k3 n k5 hm hs
     rw [Yak,Yak,Yak,Yak,Yak] at q;obtain⟨⟨⟨⟨⟨q1,q2⟩,q3⟩,q4⟩,q5⟩,q6⟩:=q;have e1:C'=C:=beq_iff_eq.mp q1;have e2:n = "ValueError.__new__":=beq_iff_eq.mp q2;have e6:=beq_iff_eq.mp q6;obtain⟨nm,bs,mro,ns,qn,hd,sn,sub,ab,col,del⟩:=cdx;obtain⟨l⟩:=sl;dsimp only at hm q3 q5 e6 hs;have e3:del=false:=by simpa using q3
     subst e1 e2 e3 hm hs;exact⟨bm,ns,nm,qn,bs,hd,sn,sub,ab,col,dd,k0,k1,k2,k3,k5,_,X _ _ ho,.of_isNs (PySem.W.isNs_of_in X q5),PySem.W.nsMap_none_of_in X q5 e6,PySem.W.tail_of_in X q4⟩
   . cases q
 . cases q
def zgV(C:Addr)(E:XK)(t:TA):TS:=fun _ σ H=>t σ H fun vs H1=>vs.length<=sizeLine/\E (.ref C) none H1
theorem zhQ{X:Cx}{x:Str}{C:Addr}{e0:Expr}{t:TA}{E:XK}{np cpos pos:Pos}(hf:Flies X E)(hc:X.calm=true)(hg:Gl X x)(hm:X.mg x=some (.ref C))(hx:PySem.W.excIn X.K C bmVE "ValueError.__new__" = true)(ha:PA X [e0] t)
 (hdb:(x==("__debug__" : Str))=false:=by decide) (hs:starEach [e0] X.env=[(false,eval e0 X.env)]:=by rfl):PS X (.Raise (some (.Call (.Name x np) [e0] [] cpos)) none pos) (zgV C E t):=by
 intro pins s σ H D I h;obtain⟨bm,Nn,nm,q,bs,hdct,sn,sub,ab,col,dd,k0,k1,k2,k3,k5,mN,hC,hN,hni,T⟩:=zgd I.ok.mod.kin hx;refine wpAny_Raise_call_subT (C:=C) (nm:=nm) (q:=q) (N:=Nn) (bs:=bs) (bm:=bm) (hdct:=hdct) (sn:=sn) (sub:=sub) (ab:=ab) (col:=col) (dd:=dd) (k0:=k0) (k1:=k1) (k2:=k2) (k3:=k3) (k5:=k5)
  PySem.F.excBase_ValueError (mN:=mN) (T.hasType rfl) (I.ok.hd hc) (by rw [hs];rfl) hni (zcN I hg hm ⟨rfl,?_⟩ hdb)
 have h1:=ha cpos pins s σ H _ I h;rw [hs] at h1 ⊢;refine Calls.evalArgs_plain (wpAny_mono h1 (fun us s2 z=>?_) fun _ _ z=>z)
 obtain⟨vs,H1,I1,r,z,qE⟩:=z;exact⟨rfl,by show us.length<=sizeLine;rw [<-r.length];exact z,I1.bk _ _ hC,hN.keeps I1.bk,T.keeps I1.bk,fun h' e M=>hf pins σ H1 s2 e C us h' I1 M qE⟩
theorem Fun.okR{P:Program}{w:World}{K:Ybf}{mg:Str->Option Value}{base:Heap}{x qual:Str}{st:Stmt}{f:Addr}{fd:FuncData}{N ps:List Str}{k:Nat}{sp:Sp}(F:Fun K x qual st f fd)(S:FnScope N ps (ze st))(len:∀ vs H Q E,sp vs H Q E->vs.length=ps.length)
 (hbody:∀ (cdv:Value) (A:Around) (outer:List Env) (s:Shared) (H:Hp) (vs:List V) (Q:VK) (E:XK),Room k (A.deeper (envOfC qual (ze st) s.heap.objs.size f cdv))->sp vs H Q E->
  ∃ t,PSs (cxOf (CXR P w) P w K mg base N qual (ze st) f cdv A outer s H E) (zp st) t/\t { nx:=fun _ H'=>Q .non H',rt:=Q } (start N vs) H):FnOk P w K mg base (CXR P w) (k+1) f fd ps sp:=by
 obtain⟨oc,od,kV,doc,pm,an,cdv,ct,osl,rfl,lk,hcd⟩:=F.ex;exact zcE lk hcd S len fun A outer s H vs Q E hr hsp=>hbody cdv A outer s H vs Q E hr hsp
abbrev TX:=Ends->(Addr->Hp->Prop)->St->Hp->Prop
def XE(X:Cx)(pins:List (Addr×Obj))(σ : St)(E:Addr->Hp->Prop)(e:Value)(s':Shared):Prop:=
 ∃ ea C H1 s1 H',e=.ref ea/\Inv X pins σ H1 s1/\Fly X.prog X.w X.stack H1 s1 ea C H' s'/\E C H'
def PX(X:Cx)(st:List Stmt)(t:TX):Prop:=
 ∀ (pins:List (Addr×Obj)) (s:Shared) (σ : St) (H:Hp) (D:Ends) (E:Addr->Hp->Prop),Inv X pins σ H s->t D E σ H->wpAny (model X.prog X.w) X.A (execs st X.env) (SP X pins D) (XE X pins σ E) s
theorem PA.nox{X:Cx}{es:List Expr}{t:TA}(h:PA X.nox es t)(pos:Pos){pins:List (Addr×Obj)}{s:Shared}{σ : St}{H:Hp}{Q:List V->Hp->Prop}{E:Value->Shared->Prop}(I:Inv X pins σ H s)(q:t σ H Q) :
 wpAny (model X.prog X.w) X.A (spliced (backTo pos (starEach es X.env))) (AP X pins σ Q) E s:=
 wpAny_mono (h pos pins s σ H Q (I.wish _) q) (fun us s1 ⟨vs,H1,I1,r,q1⟩=>⟨vs,H1,I1.unwish,r,q1⟩) fun _ _ z=>z.elim
def excO(ea C:Addr):HO:=.ext fun h=>∃ o vs,h.get? ea=some o/\o.cls=.ref C/\o.data=.fields vs
abbrev Cx.inExc(X:Cx)(ea:Addr):Cx:={ X with A:=X.A.mark (some (.ref ea)),calm:=false,xe:=fun _ _=>False }
section
variable{X:Cx}{pins:List (Addr×Obj)}{σ : St}{H:Hp}{s:Shared}
theorem Inv.exc(I:Inv X pins σ H s)(ea:Addr):Inv (X.inExc ea) pins σ H s:=
 ⟨⟨I.ok.mod,I.ok.kind,I.ok.glob,I.ok.blt,I.ok.above,I.ok.inj,I.ok.has,I.ok.cab,(fun z=>absurd z Yal),I.ok.frames,I.ok.stk,I.ok.exf,I.ok.bs,I.ok.bsz,I.ok.noex,I.ok.exfs,I.ok.funs,I.ok.frf⟩,
  I.os,I.bare,I.base,I.loc,I.cell,I.free,I.freeC,I.pin,I.hok,I.len⟩
end
theorem HOk.track{P:Program}{w:World}{H:Hp}{h:Heap}{a:Addr}{o:HO}(x:HOk P w H h)(hn:H a=none)(new:zK P w (upd H a o) h a o):HOk P w (upd H a o) h:=fun b u e=>by
 by_cases hb:b=a
 . subst hb;rw [zo] at e;cases e;exact new
 . rw [zg hb] at e
   exact(x b u e).stay (fun c v _ q=>q) (fun c q=>by rw [zg (zS q hn)];exact q) fun c xs q=>by rw [zg (zS q hn)];exact q
theorem zfJ:bootBuiltins "int" = some (.type "int"):=#[3]
theorem zfb:bootBuiltins "bool" = some (.type "bool"):=#[3]
theorem za0:bootBuiltins "list" = some (.type "list"):=#[3]
theorem zdp:bootBuiltins "tuple" = some (.type "tuple"):=#[3]
theorem zi7:bootBuiltins "zip" = some (.type "zip"):=#[3]
theorem zln:bootBuiltins "isinstance" = some (.builtin "isinstance"):=#[3]
theorem zG:bootBuiltins "len" = some (.builtin "len"):=#[3]
theorem zbr:bootBuiltins "abs" = some (.builtin "abs"):=#[3]
theorem zcB:bootBuiltins "max" = some (.builtin "max"):=#[3]
theorem zjr:bootBuiltins "min" = some (.builtin "min"):=#[3]
theorem jG:bootBuiltins "sum" = some (.builtin "sum"):=#[3]
section
variable{prog:Program}{w:World}{A:Around}{E:Value->Shared->Prop}{s:Shared}{K:Ybf}{ea C:Addr}
end
section
variable{X:Cx}
def isB(t n:String):Option Bool:=
 if t = "int"/\n = "int" then some true else if t = "int"/\n = "bool" then some false else if t = "tuple"/\n = "tuple" then some true else if t = "list"/\n = "list" then some true
 else if t = "str"/\n = "str" then some true else if t = "bool"/\n = "bool" then some true else none
theorem zk5{K:Ybf}{t n:String}{b:Bool}(h:isB t n=some b):PySem.W.kitOne K (.type t) (.type n)=some b:=by
 unfold isB at h
 split at h
 . rename_i e;obtain⟨rfl,rfl⟩:=e;cases h;rfl
 split at h
 . rename_i e;obtain⟨rfl,rfl⟩:=e;cases h;rfl
 split at h
 . rename_i e;obtain⟨rfl,rfl⟩:=e;cases h;rfl
 split at h
 . rename_i e;obtain⟨rfl,rfl⟩:=e;cases h;rfl
 split at h
 . rename_i e;obtain⟨rfl,rfl⟩:=e;cases h;rfl
 split at h
 . rename_i e;obtain⟨rfl,rfl⟩:=e;cases h;rfl
 cases h
end
mutual
inductive RdV(K:Ybf)(H:Hp):V->PyData->Prop
 | non:RdV K H .non .none
 | bl (b):RdV K H (.bl b) (.bool b)
 | int (i):RdV K H (.int i) (.int i)
 | str (x):RdV K H (.str x) (.str x)
 | lst {a xs ds}:SqL K H a xs->RdVs K H xs ds->RdV K H (.ref a) (.list ds)
 | tup {a xs ds}:SqT K H a xs->RdVs K H xs ds->RdV K H (.ref a) (.tuple ds)
inductive RdVs(K:Ybf)(H:Hp):List V->List PyData->Prop
 | nil:RdVs K H [] []
 | cons {x xs d ds}:RdV K H x d->RdVs K H xs ds->RdVs K H (x::xs) (d::ds)
end
section
variable{X:Cx}{pins:List (Addr×Obj)}{σ : St}{H:Hp}{s:Shared}
mutual
theorem RdV.reads(I:Inv X pins σ H s):∀ {x:V} {d:PyData} {u:Value},RdV X.K H x d->RelV x u->∃ as,Reads s.heap u d as
 | _,_,_,.non,r=>by cases r;exact⟨_,.none⟩
 | _,_,_,.bl b,r=>by cases r;exact⟨_,.bool b⟩
 | _,_,_,.int i,r=>by obtain⟨t,rfl⟩:=r;exact⟨_,.int i t⟩
 | _,_,_,.str x,r=>by obtain⟨t,rfl⟩:=r;exact⟨_,.str x t⟩
 | _, _, _, .lst hq hs, r => by
  cases r;obtain⟨its,rv,⟨o,n,ho,hc,_,hd⟩,_⟩:=I.list hq
  obtain⟨as,q⟩:=RdVs.reads I hs rv;exact⟨_,.list ho hc hd q⟩
 | _, _, _, .tup hq hs, r => by
  cases r;obtain⟨its,rv,⟨o,ho,hc,n,hd⟩,_⟩:=I.tuple hq
  obtain⟨as,q⟩:=RdVs.reads I hs rv;exact⟨_,.tuple ho hc hd q⟩
theorem RdVs.reads(I:Inv X pins σ H s):∀ {xs:List V} {ds:List PyData} {us:List Value},RdVs X.K H xs ds->Vals xs us->∃ as,ReadsAll s.heap us ds as
 | _,_,_,.nil,.nil=>⟨_,.nil⟩
 | _, _, _, .cons h hs, .cons r t => by
  obtain⟨as,q⟩:=RdV.reads I h r;obtain⟨bs,p⟩:=RdVs.reads I hs t;exact⟨_,.cons q p⟩
end
end
section
variable{X:Cx}
def rEqD(K:Ybf):R2:=fun x y H Q=>∃ d e,RdV K H x d/\RdV K H y e/\SeqAt.shaped d=true/\SeqAt.shaped e=true/\Q (.bl (PyData.eqv d e)) H
def rNeD(K:Ybf):R2:=fun x y H Q=>∃ d e,RdV K H x d/\RdV K H y e/\SeqAt.shaped d=true/\SeqAt.shaped e=true/\Q (.bl (!PyData.eqv d e)) H
theorem zhm(hu:X.A.units+64<cLine):OpR X (compareOp .Eq) (rEqD X.K):=by
 intro pins s σ H x y v u Q I rx ry h;obtain⟨d,e,h1,h2,s1,s2,q⟩:=h;obtain⟨as,r1⟩:=h1.reads I rx;obtain⟨bs,r2⟩:=h2.reads I ry;exact eq_dataH r1 r2 s1 s2 hu ⟨.bl _,H,I,rfl,q⟩
theorem zld(hu:X.A.units+64<cLine):OpR X (compareOp .NotEq) (rNeD X.K):=by
 intro pins s σ H x y v u Q I rx ry h;obtain⟨d,e,h1,h2,s1,s2,q⟩:=h;obtain⟨as,r1⟩:=h1.reads I rx;obtain⟨bs,r2⟩:=h2.reads I ry;exact ne_dataH r1 r2 s1 s2 hu ⟨.bl _,H,I,rfl,q⟩
def ZQ(_ j:Int):Prop:=0<j/\Bits 9000 j
theorem zij:OpR X (binaryOp .FloorDiv) (rI ZQ fun i j=>.int (i/j)):=opI fun i j _ _ _ _ _ hc q=>
 floordiv_int (by have:=hc.1;omega) (by rw [Int.fdiv_eq_ediv_of_nonneg i (by have:=hc.1;omega)];exact q) (.inl (PyProof.noPylong_of_log2 (hc.2.log2 #[1])))
end
def Df(P:Program)(w:World)(K:Ybf)(mg:Str->Option Value)(base:Heap)(k:Nat)(x:Str)(ps:List Str)(sp:Sp):Prop:=
 ∃ f fd,FnOk P w K mg base (CXR P w) k f fd ps sp/\Binds K fd ps []/\PySem.W.keepIn K (.ref f)=true/\mg x=some (.ref f)
section
variable{X:Cx}{k:Nat}{ps:List Str}{sp:Sp}{x:Str}{p pos pos':Pos}{e:Expr}{es:List Expr}{t:TA}{E:XK}
theorem zcv(G:Df X.prog X.w X.K X.mg X.base k x ps sp)(hr:Room k X.A)(hg:Gl X x)(hx:Passes (CXR X.prog X.w) X E)(ha:PA X (e::es) t)(hdb:(x==("__debug__" : Str))=false:=by decide)
 (he:starEach (e::es) X.env=(false,eval e X.env)::starEach es X.env:=by rfl) (hpl:(backTo pos (starEach es X.env)).any (·.1)=false:=by rfl):PE X (.Call (.Name x p) (e::es) [] pos) (zfd sp [] E t):=by
 obtain⟨f,fd,F,hb,hk,hm⟩:=G;exact zmn F hr hg hm hk hb .nil hx ha hdb he hpl
end
section
variable{X:Cx}{o e:Expr}{to:TE}{t:TA}{apos pos:Pos}
theorem zck(ho:PE X o to)(ha:PA X [e] t)(hb:attributeBase o "append" X.env (eval o X.env)=eval o X.env:=by rfl)
 (hf:((backTo pos (starEach [e] X.env)).all (fun x=>!x.1)&&(backToKw pos (keywordEach [] X.env)).all (fun x=>x.1.isSome)&&decide ([e].length+([]:List Keyword).length+(if([]:List Keyword).isEmpty then 0 else 1)<30))=true:=by rfl)
 (hl:(apos.endLine==pos.line)=true:=by rfl) (hs:starEach [e] X.env=(false,eval e X.env)::starEach [] X.env:=by rfl) (hp:(backTo pos (starEach [] X.env)).any (·.1)=false:=by rfl) :
 PE X (.Call (.Attribute o "append" apos) [e] [] pos) (tBM X.K "list" rAppend to t):=
 za4 Wao PySem.F.slot_list_append PySem.F.type_list_append zeX ho ha hb hf hl hs hp
theorem ziU(ho:PE X o to)(ha:PA X [e] t)(hb:attributeBase o "pop" X.env (eval o X.env)=eval o X.env:=by rfl)
 (hf:((backTo pos (starEach [e] X.env)).all (fun x=>!x.1)&&(backToKw pos (keywordEach [] X.env)).all (fun x=>x.1.isSome)&&decide ([e].length+([]:List Keyword).length+(if([]:List Keyword).isEmpty then 0 else 1)<30))=true:=by rfl)
 (hl:(apos.endLine==pos.line)=true:=by rfl) (hs:starEach [e] X.env=(false,eval e X.env)::starEach [] X.env:=by rfl) (hp:(backTo pos (starEach [] X.env)).any (·.1)=false:=by rfl) :
 PE X (.Call (.Attribute o "pop" apos) [e] [] pos) (tBM X.K "list" rPopAt to t):=
 za4 Wao PySem.F.slot_list_pop PySem.F.type_list_pop zjW ho ha hb hf hl hs hp
theorem zaY{K:Ybf}{H:Hp}{p:Addr}{xs:List V}(h:H p=some (.lst xs)):tyV K "list" (.ref p) H:=.inl ⟨rfl,_,SqL.of h⟩
end
section
variable{ta:TA}{tl:TE}{g:TG}{tb:TS}{D:Ends}{σ : St}{H:Hp}{K:Ybf}
end
theorem zO{H:Hp}{p:Addr}(h:H p=none)(o:HO):Same H (upd H p o):=fun b u q=>by rw [zg (zS q h)];exact q
theorem Same.tup{K:Ybf}{H H':Hp}{a:Addr}{xs:List V}(e:Same H H')(h:SqT K H a xs):SqT K H' a xs:=by
 rcases h with (h|⟨o,h⟩)|h
 . exact .inl (.inl (e _ _ h))
 . exact .inl (.inr ⟨o,e _ _ h⟩)
 . exact .inr h
section
variable{X:Cx}
end
theorem atI0{α : Type}{x:α}{xs:List α}:atI (x::xs) 0=some x:=J0 (j:=0) rfl
theorem atI1{α : Type}{x y:α}{xs:List α}:atI (x::y::xs) 1=some y:=J0 (j:=1) rfl
end L2
section
open PySem PySem.Spec PyProof.Rows L2
namespace L2
end L2
namespace L2
theorem Bits.emod{k:Nat}{m:Int}(hm:Bits k m)(h0:0<m)(x:Int):Bits k (x%m):=hm.le (by
 have h1:=Ybc x (by omega:m≠0)
 have h2:=Ybd x h0
 omega)
theorem Bits.lit{x:Int}(k:Nat)(h:x.natAbs<2 ^ 64:=by decide)(hk:64<=k:=by decide):Bits k x:=Bits.mono (j:=64) h hk
theorem divP{i j:Int}(h0:0<j:=by decide)(h:j.natAbs<2 ^ 64:=by decide):ZQ i j:=⟨h0,Bits.lit _ h #[1]⟩
theorem powB{i j:Int}{k:Nat}(h:Bits k i)(h0:0<=j)(hk:k*j.toNat<=134217728):Zz i j:=⟨h0,by
 have e1:=h.bits;have e2:(Builtin.Int.intBits i:Int)*j<=(k:Int)*j:=Ybe #[0] h0
 have e3:(k:Int)*j=((k*j.toNat:Nat):Int):=by rw [Int.natCast_mul];congr 1;omega
 omega⟩
end L2
end
namespace L2
open PySem PySem.Spec PyProof.Rows
def ze7(osc scope:Scope)(tn fn:List Str):Bool:=
 decide (scope.kind=.function)&&scope.names.all (fun x=>!decide (x.2=.local)||decide (scope.names.lookup x.1=some .local)) &&
 scope.names.all (fun x=>!decide (x.2=.cell)||decide (scope.names.lookup x.1=some .cell)) &&
 scope.names.all (fun x=>!decide (x.2=.free)||decide (osc.names.lookup x.1=some .cell)||decide (osc.names.lookup x.1=some .free)) &&
 tn.all (fun x=>decide (scope.names.lookup x=some .local)||decide (scope.names.lookup x=some .cell)) &&
 fn.all (fun x=>decide (scope.names.lookup x=some .free))&&decide ((tn++fn).Nodup)
structure CompSc(osc scope:Scope)(tn fn:List Str):Prop where
 kind:scope.kind=.function
 loc:∀ x∈scope.names,x.2=.local->scope.names.lookup x.1=some .local
 cell:∀ x∈scope.names,x.2=.cell->scope.names.lookup x.1=some .cell
 free:∀ x∈scope.names,x.2=.free->osc.names.lookup x.1=some .cell\/osc.names.lookup x.1=some .free
 frees:∀ x∈fn,scope.names.lookup x=some .free
 nd:(tn++fn).Nodup
theorem jM{osc scope:Scope}{tn fn:List Str}(h:ze7 osc scope tn fn=true):CompSc osc scope tn fn:=by
 unfold ze7 at h;simp only [Yak,decide_eq_true_eq,Wa6,Bool.or_eq_true,WaM,decide_eq_false_iff_not] at h;obtain⟨⟨⟨⟨⟨⟨h1,h2⟩,h3⟩,h4⟩,h5⟩,h6⟩,h7⟩:=h;refine⟨h1,fun x hx e=>(h2 x hx).resolve_left (fun n=>n e),fun x hx e=>(h3 x hx).resolve_left (fun n=>n e),fun x hx e=>?_,h6,h7⟩
 rcases h4 x hx with (n|q)|q
 . exact absurd e n
 . exact .inl q
 . exact .inr q
theorem zcO(env:Env):∀ (names:List (Str×NameKind)) (x:Str),
 (names.map fun(n,k)=>if(k==NameKind.free&&env.scope.kind==.function&&env.kindOf n==some .cell) then(n,NameKind.cell) else(n,k)).lookup x =
  (names.lookup x).map fun k=>if(k==NameKind.free&&env.scope.kind==.function&&env.kindOf x==some .cell) then NameKind.cell else k
 | [],x=>rfl
 | (n, k) :: r, x => by
  have ih:=zcO env r x;rw [Ya1]
  by_cases hx:x=n
  . subst hx
    show List.lookup x ((if(k==NameKind.free&&env.scope.kind==.function&&env.kindOf x==some .cell)=true then(x,NameKind.cell) else(x,k))::_)=_
    split
    . rename_i hc;rw [List.lookup_cons,List.lookup_cons];simp only [beq_self_eq_true,Option.map_some,if_pos hc]
    . rename_i hc;rw [List.lookup_cons,List.lookup_cons];simp only [beq_self_eq_true,Option.map_some,if_neg hc]
  . have hb:(x==n)=false:=beq_eq_false_iff_ne.mpr hx
    show List.lookup x ((if(k==NameKind.free&&env.scope.kind==.function&&env.kindOf n==some .cell)=true then(n,NameKind.cell) else(n,k))::_)=_
    split
    . simp only [List.lookup_cons,hb];exact ih
    . simp only [List.lookup_cons,hb];exact ih
theorem zfx{scope:Scope}{env:Env}{x:Str}{k:NameKind}(h:(relabel scope env).names.lookup x=some k):∃ k',scope.names.lookup x=some k'/\(k'=k\/(k'=.free/\k=.cell)):=by
 have e:=zcO env scope.names x;have h':(scope.names.map fun(n,k)=>if(k==NameKind.free&&env.scope.kind==.function&&env.kindOf n==some .cell) then(n,NameKind.cell) else(n,k)).lookup x=some k:=h
 rw [h'] at e;cases q:scope.names.lookup x with
 | none=>rw [q] at e;cases e
 | some k'=>
  rw [q] at e;have e':=Wbe e;refine⟨k',rfl,?_⟩;dsimp only at e'
  split at e'
  . rename_i hc
    simp only [Yak,beq_iff_eq] at hc;exact .inr ⟨hc.1.1,e'⟩
  . exact .inl e'.symm
theorem zjK{scope:Scope}{env:Env}{x:Str}(h:scope.names.lookup x=some .free):(relabel scope env).names.lookup x=some .cell\/(relabel scope env).names.lookup x=some .free:=by
 have e:=zcO env scope.names x;rw [h] at e;have e':(relabel scope env).names.lookup x=some _:=e;rw [e']
 by_cases c:(NameKind.free==NameKind.free&&env.scope.kind==.function&&env.kindOf x==some .cell)=true
 . left;simp only [WaN];rw [if_pos c]
 . right;simp only [WaN];rw [if_neg c]
theorem JM:∀ (names:List (Str×NameKind)) (n:Nat) (acc:List (Str×Addr)),cellsFrom n names acc=cellsFrom n names []++acc
 | [],_,acc=>rfl
 | (x, k) :: r, n, acc => by
  unfold cellsFrom
  split
  . rw [JM r (n+1) ((x,n)::acc),JM r (n+1) [(x,n)],Yag];rfl
  . exact JM r n acc
theorem zb4:∀ (names:List (Str×NameKind)) (n:Nat) (x:Str) (c:Addr),(x,c)∈cellsFrom n names []->(x,NameKind.cell)∈names
 | [],_,_,_,h=>by cases h
 | (y, k) :: r, n, x, c, h => by
  unfold cellsFrom at h
  split at h
  . rename_i hk
    rw [JM] at h
    rcases Ya3.mp h with q|q
    . exact YaT _ (zb4 r _ x c q)
    . cases Ya6.mp q
      have:k=.cell:=by simpa using hk
      subst this;exact YaV
  . exact YaT _ (zb4 r _ x c h)
theorem zkj{env:Env}{scope:Scope}(h:∀ x∈scope.names,x.2=.free->∃ c,env.cells.lookup x.1=some c) :
 ∃ cl,closureFor scope env=pure cl/\(∀ x c,cl.lookup x=some c->env.cells.lookup x=some c)/\∀ x,(x,NameKind.free)∈scope.names->∃ c,cl.lookup x=some c:=by
 have key:∀ (f:Str×NameKind->List (Str×Addr)->Sem (ForInStep (List (Str×Addr)))),(∀ n k cs,f (n,k) cs=if k==.free then(do let a <-cellOf env n;pure (ForInStep.yield ((n,a)::cs))) else pure (ForInStep.yield cs))->
  ∀ (names:List (Str×NameKind)) (acc:List (Str×Addr)),(∀ x∈names,x.2=.free->∃ c,env.cells.lookup x.1=some c)->(∀ x c,acc.lookup x=some c->env.cells.lookup x=some c)->
  ∃ cl,(forIn names acc f:Sem (List (Str×Addr)))=pure cl/\(∀ x c,cl.lookup x=some c->env.cells.lookup x=some c)/\
   (∀ x,(x,NameKind.free)∈names->∃ c,cl.lookup x=some c)/\∀ x,(∃ c,acc.lookup x=some c)->∃ c,cl.lookup x=some c:=by
  intro f hf names
  induction names with
  | nil=>intro acc _ ha;exact⟨acc,rfl,ha,fun x hx=>(by cases hx),fun x q=>q⟩
  | cons y r ih=>
   intro acc hn ha;obtain⟨n,k⟩:=y
   by_cases hk:k=.free
   . subst hk
     obtain⟨c,hc⟩:=hn (n,.free) YaV rfl;have hc':env.cells.lookup n=some c:=hc;obtain⟨cl,e1,e2,e3,e4⟩:=ih ((n,c)::acc) (fun x hx=>hn x (YaT _ hx)) (fun x c' q=>by
      rw [List.lookup_cons] at q
      by_cases hx:x=n
      . subst hx;simp at q;subst q;exact hc'
      . rw [beq_eq_false_iff_ne.mpr hx] at q;exact ha x c' q)
     refine⟨cl,?_,e2,fun x hx=>?_,fun x q=>e4 x ?_⟩
     . rw [List.forIn_cons,hf]
       have ec:cellOf env n=pure c:=by unfold cellOf;rw [hc']
       simp only [beq_self_eq_true,if_true,ec];exact e1
     . rcases Wbp.mp hx with e|e
       . cases e;exact e4 n ⟨c,by simp [List.lookup_cons]⟩
       . exact e3 x e
     . obtain⟨c',q⟩:=q
       by_cases hx:x=n
       . subst hx;exact⟨c,by simp [List.lookup_cons]⟩
       . exact⟨c',by rw [List.lookup_cons,beq_eq_false_iff_ne.mpr hx];exact q⟩
   . obtain⟨cl,e1,e2,e3,e4⟩:=ih acc (fun x hx=>hn x (YaT _ hx)) ha
     refine⟨cl,?_,e2,fun x hx=>?_,e4⟩
     . rw [List.forIn_cons,hf]
       have:(k==NameKind.free)=false:=by simpa using hk
       simp only [this,WaG,if_false];exact e1
     . rcases Wbp.mp hx with e|e
       . cases e;exact absurd rfl hk
       . exact e3 x e
 unfold closureFor;obtain⟨cl,e1,e2,e3,_⟩:=key (fun x r=>match x with|(name,kind)=>if kind==.free then(do let a <-cellOf env name;pure (ForInStep.yield ((name,a)::r))) else pure (ForInStep.yield r)) (fun _ _ _=>rfl) scope.names [] h (fun x c q=>by cases q)
 refine⟨cl,?_,e2,e3⟩
 have e:∀ (x:Sem (List (Str×Addr))),x=pure cl->(x >>= fun r=>pure r)=pure cl:=fun x q=>by rw [q];rfl
 exact e _ e1
def zkh(scope:Scope)(C:Addr)(cells:List (Str×Addr))(env:Env):Env:=
 { scope:=relabel scope env,locals:=C,globals:=env.globals,cells:=cells,qual:=env.qual,func:=none,code:=env.code,frame:=env.frame,builtins:=env.builtins }
def Cx.comp(X:Cx)(scope:Scope)(N:List Str)(s:Shared)(H:Hp)(fp:List Addr)(cl:List (Str×Addr)):Cx where
 prog:=X.prog
 w:=X.w
 K:=X.K
 mg:=X.mg
 base:=X.base
 A:=X.A
 N:=N
 s₀:=s
 H₀:=H
 env:=zkh scope s.heap.objs.size (cellsFrom (s.heap.objs.size+1) scope.names cl) X.env
 outer:=X.stack
 stack:=X.stack
 ex:=fp
 fn:=fun x=>decide (scope.names.lookup x=some .cell)
 calm:=X.calm
 pn:=[]
 xe:=fun _ _=>False
def cst(n:Nat)(js:List Nat)(σ : St):St:=List.replicate n none++js.map fun j=>(σ[j]?).join
theorem zkS{X:Cx}{pins:List (Addr×Obj)}{σ : St}{H:Hp}{s:Shared}{scope:Scope}{tn fn:List Str}{js:List Nat}{fp:List Addr}{cl:List (Str×Addr)}(I:Inv X pins σ H s)(S:CompSc X.env.scope scope tn fn)
 (hj:js.map (fun j=>X.N[j]?)=fn.map some) (hfp:∀ b∈fp,FpOk X pins H b) (hlt:∀ b∈fp,b<s.heap.objs.size)
 (hcl:∀ x c,cl.lookup x=some c->X.env.cells.lookup x=some c) (hcl2:∀ x,(x,NameKind.free)∈scope.names->∃ c,cl.lookup x=some c) :
 Inv (X.comp scope (tn++fn) s H fp cl) [] (cst tn.length js σ) H { s with heap:=pushCells (s.heap.push { cls:=.type "dict", data:=.dict #[] }) scope.names }:=by
 have hC:=cellsFrom_ok scope.names (s.heap.push { cls:=.type "dict", data:=.dict #[] }) (s.heap.objs.size+1) [] ⟨fun _ _ hm=>(nomatch hm),List.Pairwise.nil⟩ (by rw [Wbm];exact YaY _)
 rw [Wbm] at hC;have keep:∀ b o,s.heap.get? b=some o->(pushCells (s.heap.push { cls:=.type "dict", data:=.dict #[] }) scope.names).get? b=some o:=fun b o e=>pushCells_keeps _ _ b o (YaW _ e)
 have look:∀ x c,(cellsFrom (s.heap.objs.size+1) scope.names cl).lookup x=some c->((x,c)∈cellsFrom (s.heap.objs.size+1) scope.names [])\/X.env.cells.lookup x=some c:=fun x c e=>by
  rw [JM,List.lookup_append] at e;cases q:(cellsFrom (s.heap.objs.size+1) scope.names []).lookup x with
  | some c'=>rw [q] at e;cases e;exact .inl (WaB q)
  | none=>rw [q] at e;exact .inr (hcl x c e)
 have outerLt:∀ x c,X.env.cells.lookup x=some c->c<s.heap.objs.size:=fun x c e=>by
  obtain⟨v,q⟩:=I.cell x c e;exact q.lt
 have ownGe:∀ x c,(x,c)∈cellsFrom (s.heap.objs.size+1) scope.names []->s.heap.objs.size+1<=c:=fun x c e=>(hC.empty x c e).2
 refine⟨⟨I.ok.mod,S.kind,I.ok.glob,I.ok.blt,YaY _,fun x y c h1 h2=>?_,fun x hx=>?_,fun x c h1 h2=>?_,I.ok.hd,I.ok.frames,.inl rfl,fun b hb=>⟨Yaf (hlt b hb),fun x c e=>?_⟩,fun b o e=>I.bs b o e,Ya5 I.ok.bsz I.sz,fun b o e hb=>?_,fun b hb hz=>?_,I.stack,I.stkFree⟩,
  rfl,I.bare,Un.kept keep,⟨fun _=>none,?_,fun i x v h1 h2 h3=>?_⟩,fun x c e=>?_,I.hok.fresh (YaY _),fun x c e=>?_,fun p hp=>?_,I.hok.kept keep,?_⟩
 . rcases look x c h1 with q|q<;>rcases look y c h2 with r|r
   . exact name_of_addr hC.apart q r
   . exact absurd (Nat.lt_trans (outerLt y c r) (ownGe x c q)) (Yap _)
   . exact absurd (Nat.lt_trans (outerLt x c q) (ownGe y c r)) (Yap _)
   . exact I.ok.inj x y c q r
 . have own:∀ k,scope.names.lookup x=some k->k=.cell\/k=.free->∃ c,(cellsFrom (s.heap.objs.size+1) scope.names cl).lookup x=some c:=fun k hk hkk=>by
    refine Wal.mp (War _ _ _ ?_)
    rcases hkk with rfl|rfl
    . exact .inl hk
    . obtain⟨c,q⟩:=hcl2 x (WaB hk)
      exact .inr (by rw [q];rfl)
   rcases hx with hx|hx
   . obtain⟨k',e,q|q⟩:=zfx (scope:=scope) (env:=X.env) hx
     . subst q;exact own _ e (.inl rfl)
     . exact own _ e (.inr q.1)
   . obtain⟨k',e,q|q⟩:=zfx (scope:=scope) (env:=X.env) hx
     . subst q;exact own _ e (.inr rfl)
     . cases q.2
 . have hc:scope.names.lookup x=some .cell:=of_decide_eq_true h1
   rcases look x c h2 with q|q
   . exact Wbz (ownGe x c q)
   . exfalso
     have h2':(cellsFrom (s.heap.objs.size+1) scope.names cl).lookup x=some c:=h2;rw [JM,List.lookup_append] at h2';obtain⟨c',q'⟩:=Wal.mp (War scope.names (s.heap.objs.size+1) [] (.inl hc));rw [q'] at h2';cases h2';exact absurd (Nat.lt_trans (outerLt x c q) (ownGe x c (WaB q'))) (Yap _)
 . rcases look x c e with q|q
   . intro z;subst z
     exact absurd (Nat.lt_trans (hlt c hb) (ownGe x c q)) (Yap _)
   . exact(hfp b hb).2.2.2.2.1 x c q
 . rcases(hfp b hb).2.2.2.1 with z|z
   . exact I.ok.noex b o e z
   . exact absurd (YaU (YaX (I.ok.bs b o e).1) z) (Yap _)
 . rcases Wbp.mp (I.stkSub b hz) with z|z
   . exact(hfp b hb).2.1 z
   . exact(hfp b hb).2.2.1 z
 . exact(Heap.Ns.new s.heap (.type "dict")).keeps (pushCells_keeps _ _)
 . unfold cst at h2
   by_cases hi:i<tn.length
   . rw [Yab (by simpa using hi),Yad,if_pos hi] at h2
     cases h2
   . rw [Yae (by simpa using hi),Ybb,Ya0] at h2
     cases ej:js[i - tn.length]? with
     | none=>rw [ej] at h2;cases h2
     | some j=>
      rw [ej] at h2;have h2':(σ[j]?).join=some v:=Wbe h2;have hσ : σ[j]?=some (some v):=by
       cases q:σ[j]? with
       | none=>rw [q] at h2';cases h2'
       | some o => rw [q] at h2'; cases o with
        | none=>cases h2'
        | some v'=>cases h2';rfl
      have h1':(tn++fn)[i]?=some x:=h1;rw [Yae #[0]] at h1'
      have hN:X.N[j]?=some x:=by
       have e:=congrArg (fun l=>l[i - tn.length]?) hj
       simp only [Ya0,ej,h1',Option.map_some] at e;exact Wbe e
      have hfx:scope.names.lookup x=some .free:=S.frees x (Yah h1');obtain⟨m,hn,hl⟩:=I.loc;have ok:X.env.scope.names.lookup x=some .cell\/X.env.scope.names.lookup x=some .free:=S.free (x,.free) (WaB hfx) rfl;obtain⟨u,r,l⟩:=hl j x v hN hσ (by rcases ok with z|z;exact .inr (.inl z);exact .inr (.inr z))
      refine⟨u,r,.inr ⟨zjK hfx,?_⟩⟩
      rcases l with ⟨k,_⟩|⟨_,c,ec,q⟩
      . have k':X.env.scope.names.lookup x=some .local:=k
        rcases ok with z|z<;>rw [z] at k'<;>cases k'
      . refine⟨c,?_,q.keeps keep⟩
        show(cellsFrom (s.heap.objs.size+1) scope.names cl).lookup x=some c
        rw [JM,List.lookup_append];have e1:(cellsFrom (s.heap.objs.size+1) scope.names []).lookup x=none:=by
         cases q1:(cellsFrom (s.heap.objs.size+1) scope.names []).lookup x with
         | none=>rfl
         | some c1=>
          have e2:=S.cell (x,.cell) (zb4 _ _ _ _ (WaB q1)) rfl;have e2':scope.names.lookup x=some .cell:=e2;rw [hfx] at e2';cases e2'
        obtain⟨c2,q2⟩:=hcl2 x (WaB hfx);have:=hcl x c2 q2;rw [ec] at this;cases this;rw [e1,q2];rfl
 . rcases look x c e with q|q
   . exact⟨_,(hC.empty x c q).1⟩
   . obtain⟨v,z⟩:=I.cell x c q
     exact⟨v,z.keeps keep⟩
 . rcases look x c e with q|q
   . exact I.hok.fresh (Wbz (ownGe x c q))
   . exact I.freeC x c q
 . exact absurd (show p∈([]:List (Addr×Obj)) from hp) (by simp)
 . unfold cst
   show _=(tn++fn).length
   have:js.length=fn.length:=by have:=congrArg List.length hj;simpa using this
   rw [YaS,Ybb,YaR,YaS,this]
section
variable{X:Cx}{pins:List (Addr×Obj)}{σ : L2.St}{H:Hp}{s:Shared}{h':Heap}
theorem Inv.turnedL{t':Nat}{ch:List Addr}(I:Inv X pins σ H s)(k:∀ b o,b∉ch->s.heap.get? b=some o->h'.get? b=some o)(hf:∀ b∈ch,FpOk X pins H b):Inv X pins σ H { s with heap:=h',toks:=t' }:=by
 have nit:∀ b u,H b=some u->b∉ch:=fun b u e z=>by have:=(hf b z).1;rw [e] at this;cases this
 refine I.step (g':=s.gens) (d':=s.drawn) (ch:=ch) (fun b hb=>⟨(hf b hb).2.2.2.1,(hf b hb).2.1,(hf b hb).2.2.2.2.1,(hf b hb).2.2.2.2.2⟩) (fun b o _ _ hc e _=>k b o hc e) (fun b o _ _ hc e _=>⟨o.slots,k b o hc e⟩) (fun _ _ _ _ n=>n)
  (fun b o hc e=>⟨o,k b o hc e⟩) (fun _ _ e=>e) (fun _ _ _ e=>e) (fun b ps e=>⟨#[],by rw [e];simp⟩) (fun m hm=>?_) (fun b u e=>?_) I.bare
 . obtain⟨o,es,ep,ho,r⟩:=hm
   exact⟨o,es,ep,k _ o (fun z=>(hf _ z).2.1 rfl) ho,r⟩
 . refine(I.hok b u e).stay (fun c v hc q=>k c v ?_ q) (fun _ q=>q) fun _ _ q=>q
   rcases hc with z|z
   . rw [z];exact nit b u e
   . exact nit c _ z
theorem Inv.track{a:Addr}{o:HO}(I:Inv X pins σ H s)(hn:H a=none)(h0:X.s₀.heap.objs.size<=a)(hL:a≠X.env.locals)(hc:∀ x c,X.env.cells.lookup x=some c->c≠a)(hp:∀ p∈X.pn++pins,p.1≠a)(new:zK X.prog X.w (upd H a o) s.heap a o):Inv X pins σ (upd H a o) s:=by
 have no0:∀ b ob,X.s₀.heap.get? b=some ob->b≠a:=fun b ob e=>Yaf (YaU (YaX e) h0)
 refine⟨I.ok,I.os,I.bare,⟨I.base.keep,I.base.slot,fun b ob q n hx=>?_,I.base.there,fun b xs q=>?_,fun b ob u q=>?_,fun b ps q=>?_⟩,I.loc,I.cell,?_,fun x c e=>?_,fun p h=>?_,I.hok.track hn new,I.len⟩
 . rw [zg (no0 b ob q)];exact I.base.free b ob q n hx
 . have e:=I.base.tups b xs q;rw [zg (zS e hn)];exact e
 . have e:=I.base.frzs b ob u q;rw [zg (zS e hn)];exact e
 . obtain⟨m,e⟩:=I.base.tbls b ps q;exact⟨m,by rw [zg (zS e hn)];exact e⟩
 . rw [zg (WbM hL)];exact I.free
 . rw [zg (hc x c e)];exact I.freeC x c e
 . obtain⟨q1,q2,q3⟩:=I.pin p h
   exact⟨q1,by rw [zg (hp p h)];exact q2,q3⟩
end
def tTrue:TT:=fun _ H Q=>Q true H
def zbN(wi:TI)(g:TG)(tt:TT)(te:TE)(n:Nat)(js:List Nat):TE:=fun σ H Q=>wi σ H fun J H1=>∀ D,H1 D=none->∃ W:Nat->Nat->List V->St->Hp->Prop,(∃ m,W 0 m [] (cst n js σ) (upd H1 D (.lst [])))/\∀ i m ys σ1 H2,W i m ys σ1 H2->
 (J.stop i H2/\Q (.ref D) H2)\/(J.go i H2/\∀ x H3,J.yld i H2 x H3->g x σ1 H3 fun σ4 H4=>tt σ4 H4 fun b H5=>if b=true then te σ4 H5 fun y H6=>H6 D=some (.lst ys)/\ys.length<sizeLine/\∃ m',m'<m/\W (i+1) m' (ys++[y]) σ4 (upd H6 D (.lst (ys++[y]))) else ∃ m',m'<m/\W (i+1) m' ys σ4 H5)
def PTs(X:Cx)(ifs:List Expr)(t:TT):Prop:=
 ∀ (pins:List (Addr×Obj)) (s:Shared) (σ : St) (H:Hp) (Q:Bool->Hp->Prop),Inv X pins σ H s->t σ H Q->
  wpAny (model X.prog X.w) X.A (forIn ifs true fun c r=>if r=true then do let ok <-isTrue c X.env (eval c X.env);pure (ForInStep.yield ok) else pure (ForInStep.yield r)) (TP X pins σ Q) X.xe s
theorem zg4{X:Cx}:PTs X [] tTrue:=fun _ _ _ H _ I h=>wpAny_tests_nil ⟨H,I,h⟩
theorem zdW{X:Cx}{elt tg iter:Expr}{ifs:List Expr}{scope:Scope}{pos pos':Pos}{wi:TI}{g:TG}{tt:TT}{te:TE}{use:Option (Value->Sem Unit)}{Qc:Value->Shared->Prop}(tn fn:List Str)(js:List Nat)(hcalm:X.calm=true)(S:CompSc X.env.scope scope tn fn)(hj:js.map (fun j=>X.N[j]?)=fn.map some)(hi:PI X tg iter wi)
 (hb:∀ s H fp cl,PG (X.comp scope (tn++fn) s H fp cl) tg g/\PTs (X.comp scope (tn++fn) s H fp cl) ifs tt/\PE (X.comp scope (tn++fn) s H fp cl) elt te)
 (hs:∀ x,foldedSetIterable iter X.env x=pure x) {pins:List (Addr×Obj)} {s:Shared} {σ : L2.St} {H:Hp} {Q:VK} (I:Inv X pins σ H s) (h:zbN wi g tt te tn.length js σ H Q)
 (fin:∀ (D C:Addr) (s6:Shared) (H5:Hp) (m6:Str->Option Value),s6.heap.Ns C m6->FpOk X pins H5 C->Inv X pins σ H5 s6->Q (.ref D) H5->compPost (model X.prog X.w) X.A X.xe use Qc (.ref D) C (.ok .next) s6) :
 wpAny (model X.prog X.w) X.A (comprehension (.ListComp elt [⟨tg,iter,ifs,0⟩] scope pos) scope X.env pos' (newList []) false (eval iter X.env) use) Qc X.xe s:=by
 obtain⟨cl,hclos,hcl,hcl2⟩:=zkj (env:=X.env) (scope:=scope) (fun x hx e=>I.ok.has x.1 (S.free x hx e))
 refine wpAny_comprehension_free (use:=use) rfl hs hclos S.kind S.loc (thn (hi pins s σ H _ I h) fun v s1 h1=>thn h1 fun itv s2 h2=>?_)
 obtain⟨it,fp,tn',J,H2,e,I2,T,st2,f2,k⟩:=h2;subst e;have hD:H2 s2.heap.objs.size=none:=I2.fresh;obtain⟨W,⟨m0,w0⟩,turn⟩:=k _ hD;refine wpAny_newObj_type ?_;have I3:Inv X pins σ (upd H2 s2.heap.objs.size (.lst [])) { s2 with heap:=s2.heap.push { cls:=.type "list", data:=.seq ([]:List Value).toArray } }:=I2.lnew (t':=s2.toks) (ys:=[]) (its:=[]) .nil (WbH _)
 generalize hs3:({ s2 with heap:=s2.heap.push { cls:=.type "list", data:=.seq ([]:List Value).toArray } }:Shared)=s3 at I3
 have hs3':s3.heap.objs.size=s2.heap.objs.size+1:=by rw [<-hs3];exact Wbm ..
 have up3:∀ b o,s2.heap.get? b=some o->s3.heap.get? b=some o:=fun b o e=>by rw [<-hs3];exact YaW _ e
 have flt:∀ b∈fp,b<s2.heap.objs.size:=fun b hb=>by
  obtain⟨o,e,_⟩:=T.obj _ _ st2 b hb;exact YaX e
 generalize hDn:s2.heap.objs.size=D at *;have f3:∀ b∈fp,FpOk X pins (upd H2 D (.lst [])) b:=fun b hb=>⟨by rw [zg (Yaf (flt b hb))];exact(f2 b hb).1,(f2 b hb).2⟩
 have flt3:∀ b∈fp,b<s3.heap.objs.size:=fun b hb=>by rw [hs3'];exact WaO (flt b hb)
 have I4:=zkS I3 S hj f3 flt3 hcl hcl2;have st4:tn' 0 (pushCells (s3.heap.push { cls:=.type "dict", data:=.dict #[] }) scope.names):=T.keep _ _ _ st2 fun b _ o e=>pushCells_keeps _ _ b o (YaW _ (up3 b o e))
 obtain⟨pg,pt,pe⟩:=hb s3 (upd H2 D (.lst [])) fp cl;generalize hX:X.comp scope (tn++fn) s3 (upd H2 D (.lst [])) fp cl=Y at I4 pg pt pe;have Yp:Y.prog=X.prog:=by rw [<-hX];rfl
 have Yw:Y.w=X.w:=by rw [<-hX];rfl
 have YK:Y.K=X.K:=by rw [<-hX];rfl
 have YA:Y.A=X.A:=by rw [<-hX];rfl
 have Yc:Y.calm=true:=by rw [<-hX];exact hcalm
 have Yxe:Y.xe=fun _ _=>False:=by rw [<-hX];rfl
 have Yex:Y.ex=fp:=by rw [<-hX];rfl
 have Yfs:Y.fs=frs X.stack:=by rw [<-hX];rfl
 have Ypn:Y.pn=[]:=by rw [<-hX];rfl
 have Ys:Y.s₀ = s3:=by rw [<-hX];rfl
 have YH:Y.H₀ = upd H2 D (.lst []):=by rw [<-hX];rfl
 have YC:Y.env.locals=s3.heap.objs.size:=by rw [<-hX];rfl
 have Yenv:({ scope:=relabel scope X.env,locals:=s3.heap.objs.size,globals:=X.env.globals,cells:=cellsFrom (s3.heap.objs.size+1) scope.names cl,qual:=X.env.qual,func:=none,code:=X.env.code,frame:=X.env.frame,builtins:=X.env.builtins }:Env)=Y.env:=by rw [<-hX];rfl
 have stat:∀ {H':Hp},(∀ b∈fp,H' b=none)->∀ b∈fp,FpOk Y [] H' b:=fun hn b hb=>by
  refine⟨hn b hb,?_,?_,.inl (by rw [Yex];exact hb),fun x c e=>(I4.ok.exf b (by rw [Yex];exact hb)).2 x c e,fun p hp=>?_⟩
  . rw [YC];exact Yaf (flt3 b hb)
  . exact I4.ok.exfs b (by rw [Yex];exact hb)
  . rw [Ypn] at hp;exact absurd (show p∈([]:List (Addr×Obj)) from hp) (by simp)
 have loop:codeAny (model X.prog X.w) X.A (.compLoop (.ListComp elt [⟨tg,iter,ifs,0⟩] scope pos) 0 (.ref it) (.ref D) Y.env) (compPost (model X.prog X.w) X.A X.xe use Qc (.ref D) s3.heap.objs.size)
  { s3 with heap:=pushCells (s3.heap.push { cls:=.type "dict", data:=.dict #[] }) scope.names }:=by
  refine codeAny_loop rfl (fun n s'=>∃ i ys σ' H',Inv Y [] σ' H' s'/\tn' i s'.heap/\(∀ b∈fp,H' b=none)/\W i n ys σ' H') (fun n s5 hI=>?_) m0 ⟨0,[],_,_,I4,st4,fun b hb=>(f3 b hb).1,w0⟩
  obtain⟨i,ys,σ5,H5,I5,st5,fr5,w5⟩:=hI;show wpAny _ X.A ((compTurn (.ListComp elt [⟨tg,iter,ifs,0⟩] scope pos) 0 (.ref it) (.ref D) Y.env).onRaise (fun x=>do noteFrame x Y.env;theTreesLotGoes x)) _ _ s5
  refine wpAny_noted ?_
  rw [compTurn_list];refine wpAny_bind (wpAny_standAt (wpAny_bind ?_))
  rcases turn i n ys σ5 H5 w5 with ⟨stop,qn⟩|⟨go,step⟩
  . have d:=T.done Y Yp Yw YK Yc i [] s5 σ5 H5 (fun _ _=>False) I5 (stat fr5) st5 stop
    rw [YA] at d;refine wpAny_mono d (fun r s6 ⟨hr,I6⟩=>?_) fun _ _ z=>z.elim
    subst hr;refine wpAny_pure ?_;obtain⟨m6,ns6,_⟩:=I6.loc;rw [YC] at ns6;have hC:H5 s3.heap.objs.size=none:=by have:=I6.free;rwa [YC] at this
    have u6:=I6.base;rw [Yfs,Yex,YH,Ys] at u6;have os6:=I6.os;rw [Ys] at os6;have hok6:=I6.hok;rw [Yp,Yw] at hok6;have IX:Inv X pins σ H5 s6:=I3.call' (s':=s6) os6 u6 hok6 I6.bare (fun b hb=>⟨(f3 b hb).2.2.2.1,(f3 b hb).2.1,(f3 b hb).2.2.2.2.1,(f3 b hb).2.2.2.2.2⟩)
    exact fin D s3.heap.objs.size s6 H5 m6 ns6 (I3.fpOk (H':=H5) (YaY _) hC) IX qn
  . have d:=T.item Y Yp Yw YK Yc i [] s5 σ5 H5 (fun _ _=>False) I5 (stat fr5) st5 go
    rw [YA] at d;refine wpAny_mono d (fun r s6 ⟨u,hr,h6⟩=>?_) fun _ _ z=>z.elim
    subst hr;refine wpAny_bind (wpAny_mono h6 (fun _ s7 ⟨x,H7,I7,r7,y7,st7,fr7⟩=>?_) fun _ _ z=>z.elim)
    have I7':=I7.pinned (stat fr7) (T.obj _ _ st7);have a8:=pg _ s7 σ5 H7 x u _ I7' r7 (step x H7 y7);rw [YA,Yp,Yw,Yxe] at a8;refine wpAny_bind (wpAny_mono a8 (fun _ s8 ⟨σ8,H8,I8,q8⟩=>?_) fun _ _ z=>z.elim)
    have a9:=pt _ s8 σ8 H8 _ I8 q8;rw [YA,Yp,Yw,Yxe] at a9;have again:∀ {H':Hp} {s':Shared} {ys':List V} {m':Nat},m'<n->Inv Y ([]++zaE fp s7.heap) σ8 H' s'->W (i+1) m' ys' σ8 H'->∃ m,m<n/\∃ i ys σ' H',Inv Y [] σ' H' s'/\tn' i s'.heap/\(∀ b∈fp,H' b=none)/\W i m ys σ' H':=fun {H' s' ys' m'} hm I' w'=>by
     refine⟨m',hm,i+1,ys',σ8,H',I'.unpinned,T.keep _ _ _ st7 fun b hb o e=>(I'.pin (b,o) (Yaa _ (Yaa _ (zbC hb e)))).1,fun b hb=>?_,w'⟩
     obtain⟨o,e,d⟩:=T.obj _ _ st7 b hb;exact(I'.pin (b,o) (Yaa _ (Yaa _ (zbC hb e)))).2.1
    refine wpAny_bind (wpAny_mono a9 (fun ok s9 ⟨H9,I9,q9⟩=>?_) fun _ _ z=>z.elim)
    cases ok with
    | false=>
     obtain⟨m',hm,w9⟩:=q9;exact wpAny_pure ⟨rfl,again hm I9 w9⟩
    | true=>
     have a10:=pe _ s9 σ8 H9 _ I9 q9;rw [YA,Yp,Yw,Yxe] at a10;refine wpAny_bind (wpAny_bind (wpAny_mono a10 (fun y10 s10 ⟨y,H10,I10,r10,e10,hz,m',hm,w10⟩=>?_) fun _ _ z=>z.elim))
     have a11:=zeX (X:=Y) _ s10 σ8 H10 (.ref D) [y] (.ref D) [y10] (fun _ H'=>H'=upd H10 D (.lst (ys++[y]))) I10 rfl (.cons r10 .nil) ⟨D,ys,y,rfl,rfl,e10,hz,rfl⟩
     rw [YA,Yp,Yw,Yxe] at a11;refine wpAny_bind (wpAny_mono a11 (fun _ s11 ⟨_,H11,I11,_,e11⟩=>?_) fun _ _ z=>z.elim)
     subst e11;exact wpAny_pure (wpAny_pure ⟨rfl,again hm I11 w10⟩)
 have env4:wpAny (model X.prog X.w) X.A (newFunctionEnv scope X.env.globals cl [] X.env.qual none .none (some X.env)) (fun cenv s₄=>
  codeAny (model X.prog X.w) X.A (.compStart (.ListComp elt [⟨tg,iter,ifs,0⟩] scope pos) 0 (.ref it) (.ref D) { cenv with scope:=relabel scope X.env }) (compPost (model X.prog X.w) X.A X.xe use Qc (.ref D) cenv.locals) s₄) X.xe s3:=by
  simp only [newFunctionEnv,Option.isSome_some,if_true];refine wpAny_bind (wpAny_alloc ?_);refine wpAny_bind (wpAny_layCells _ (fun name kind cells=>by cases hkc:kind==NameKind.cell<;>simp [hkc]) _ _ _ _ ?_)
  rw [List.forIn_nil];refine wpAny_bind (wpAny_pure (wpAny_pure ?_));rw [show({ s3 with heap:=s3.heap.push { cls:=.type "dict", data:=.dict #[] } }:Shared).heap.objs.size=s3.heap.objs.size+1 from Wbm ..]
  dsimp only;rw [Yenv];exact codeAny_compStart_list loop (T.self _ 0 _ _ _ st4 loop)
 exact env4
theorem zkE{X:Cx}{elt tg iter:Expr}{ifs:List Expr}{scope:Scope}{pos:Pos}{wi:TI}{g:TG}{tt:TT}{te:TE}(tn fn:List Str)(js:List Nat)(hcalm:X.calm=true)(S:CompSc X.env.scope scope tn fn)(hj:js.map (fun j=>X.N[j]?)=fn.map some)(hi:PI X tg iter wi)
 (hb:∀ s H fp cl,PG (X.comp scope (tn++fn) s H fp cl) tg g/\PTs (X.comp scope (tn++fn) s H fp cl) ifs tt/\PE (X.comp scope (tn++fn) s H fp cl) elt te)
 (hs:∀ x,foldedSetIterable iter X.env x=pure x:=by intro _;rfl) :
 PE X (.ListComp elt [⟨tg,iter,ifs,0⟩] scope pos) (zbN wi g tt te tn.length js):=by
 intro pins s σ H Q I h;rw [eval_ListComp];refine zdW (use:=none) tn fn js hcalm S hj hi hb hs I h fun D C s6 H5 m6 ns6 hC I6 q=>⟨m6,ns6,fun h' sb=>⟨.ref D,H5,?_,rfl,q⟩⟩
 exact I6.turnedL (t':=s6.toks) (ch:=[C]) (fun b o hb e=>sb.extBut b o (by simpa using hb) e) fun b hb=>by
  have e:b=C:=by simpa using hb
  subst e;exact hC
theorem zfO{X:Cx}{elt tg iter:Expr}{ifs:List Expr}{scope:Scope}{pos spos pos':Pos}{wi:TI}{g:TG}{tt:TT}{te:TE}{i:Nat}{x:Str}(hN:X.N.Nodup)(hix:X.N[i]?=some x)(hx:Loc X.env.scope x)(tn fn:List Str)(js:List Nat)(hcalm:X.calm=true)(S:CompSc X.env.scope scope tn fn)(hj:js.map (fun j=>X.N[j]?)=fn.map some)(hi:PI X tg iter wi)
 (hb:∀ s H fp cl,PG (X.comp scope (tn++fn) s H fp cl) tg g/\PTs (X.comp scope (tn++fn) s H fp cl) ifs tt/\PE (X.comp scope (tn++fn) s H fp cl) elt te)
 (hs:∀ x,foldedSetIterable iter X.env x=pure x:=by intro _;rfl)
 (hsw:swapsWith (.ListComp elt [⟨tg,iter,ifs,0⟩] scope pos) (some (.Name x pos')) spos.line X.env=pure true:=by rfl) (hf:X.fn x=true\/X.env.scope.names.lookup x=some .local:=by first|exact .inl rfl|exact .inr rfl|assumption) :
 PS X (.Assign [.Name x pos'] (.ListComp elt [⟨tg,iter,ifs,0⟩] scope pos) spos) (tAsg (zbN wi g tt te tn.length js) (zci i)):=by
 intro pins s σ H D I h;rw [exec_Assign_Name_used _ _ _ _ hsw];refine wpAny_bind (wpAny_standAt (wpAny_bind ?_));show wpAny _ X.A (do let _ <-comprehension (.ListComp elt [⟨tg,iter,ifs,0⟩] scope pos) scope X.env _ (newList []) false (eval iter X.env) (some (assign (.Name x pos') X.env))) _ _ s
 refine wpAny_bind (wpAny_mono (zdW (use:=some (assign (.Name x pos') X.env)) (Qc:=fun _ s'=>SP X pins D .next s') tn fn js hcalm S hj hi hb hs I h fun L C s6 H5 m6 ns6 hC I6 q=>?_) (fun _ s' hq=>wpAny_pure (wpAny_pure hq)) fun _ _ e=>e)
 show wpAny _ X.A (assign (.Name x pos') X.env (.ref L)) _ _ s6
 refine wpAny_assign_Name (zdG I6 hN hix hx (v:=.ref L) rfl (fun s7 I7 k7=>?_) hf)
 have kC:∃ m7,s7.heap.Ns C m7:=by
  obtain⟨a,sb,ha⟩:=k7;refine⟨m6,ns6.sameBut sb fun z=>?_⟩
  rcases ha with e|e
  . exact hC.2.1 (z.trans e)
  . exact hC.2.2.2.2.1 x a e z.symm
 obtain⟨m7,ns7⟩:=kC;refine⟨m7,ns7,fun h' sb=>⟨_,H5,I7.turnedL (t':=s7.toks) (ch:=[C]) (fun b o hb e=>sb.extBut b o (by simpa using hb) e) fun b hb=>?_,q⟩⟩
 have e:b=C:=by simpa using hb
 subst e;exact hC
theorem RdVs.length{K:Ybf}{H:Hp}{xs:List V}{ds:List PyData}(h:RdVs K H xs ds):xs.length=ds.length:=by
 induction xs generalizing ds with
 | nil=>cases h;rfl
 | cons x xs ih=>cases h with|cons a b=>rw [List.length_cons,List.length_cons,ih b]
theorem RdVs.get{K:Ybf}{H:Hp}{xs:List V}{ds:List PyData}{i:Nat}{d:PyData}(h:RdVs K H xs ds)(e:ds[i]?=some d):∃ x,xs[i]?=some x/\RdV K H x d:=by
 induction xs generalizing ds i with
 | nil=>cases h;simp at e
 | cons x xs ih=>
  cases h with
  | cons a b=>
   cases i with
   | zero=>cases e;exact⟨_,rfl,a⟩
   | succ i=>
    obtain⟨x,h1,h2⟩:=ih b (i:=i) (by simpa using e)
    exact⟨x,by simpa using h1,h2⟩
theorem RdVs.append{K:Ybf}{H:Hp}{xs ys:List V}{ds es:List PyData}(h:RdVs K H xs ds)(h':RdVs K H ys es):RdVs K H (xs++ys) (ds++es):=by
 induction xs generalizing ds with
 | nil=>cases h;exact h'
 | cons x xs ih=>cases h with|cons a b=>exact .cons a (ih b)
theorem RdVs.set{K:Ybf}{H:Hp}{x:V}{d:PyData}(h:RdV K H x d){xs:List V}{ds:List PyData}(i:Nat)(r:RdVs K H xs ds):RdVs K H (xs.set i x) (ds.set i d):=by
 induction xs generalizing ds i with
 | nil=>cases r;exact .nil
 | cons y xs ih=>
  cases r with
  | cons a b=>
   cases i with
   | zero=>exact .cons h b
   | succ i=>exact .cons a (ih i b)
theorem RdVs.take{K:Ybf}{H:Hp}{xs:List V}{ds:List PyData}(i:Nat)(r:RdVs K H xs ds):RdVs K H (xs.take i) (ds.take i):=by
 induction xs generalizing ds i with
 | nil=>cases r;rw [List.take_nil,List.take_nil];exact .nil
 | cons y xs ih=>
  cases r with
  | cons a b=>
   cases i with
   | zero=>exact .nil
   | succ i=>exact .cons a (ih i b)
theorem RdVs.drop{K:Ybf}{H:Hp}{xs:List V}{ds:List PyData}(i:Nat)(r:RdVs K H xs ds):RdVs K H (xs.drop i) (ds.drop i):=by
 induction xs generalizing ds i with
 | nil=>cases r;rw [List.drop_nil,List.drop_nil];exact .nil
 | cons y xs ih=>
  cases r with
  | cons a b=>
   cases i with
   | zero=>exact .cons a b
   | succ i=>exact ih i b
theorem RdVs.eraseIdx{K:Ybf}{H:Hp}{xs:List V}{ds:List PyData}(i:Nat)(r:RdVs K H xs ds):RdVs K H (xs.eraseIdx i) (ds.eraseIdx i):=by
 induction xs generalizing ds i with
 | nil=>cases r;exact .nil
 | cons y xs ih=>
  cases r with
  | cons a b=>
   cases i with
   | zero=>exact b
   | succ i=>exact .cons a (ih i b)
def tab0(P:Addr):HO:=.ext fun h=>h.get? P=some (PySem.W.tabObj #[])
def tabA(P c':Addr)(pos:Pos):HO:=.ext fun h=>∃ ps,h.get? P=some (PySem.W.tabObj ps)/\TriplesOk ps.toList/\codeAmong pos ps.toList=some (.ref c')
def jC(c':Addr)(q:Str):HO:=.ext fun h=>h.CodeRec (.ref c') q
class LamW where
 pos:Pos
 q:Str
def Lk[LamW](P:Addr)(H:Hp):Prop:=∃ c',H P=some (tabA P c' LamW.pos)/\H c'=some (jC c' LamW.q)
variable[LamW]
def zk(H H':Hp):Prop:=∀ b o,H b=some o->H' b=some o\/(o=tab0 b/\((∀ C,tab0 b≠excO b C)/\∀ q,tab0 b≠jC b q)/\Lk b H')
theorem Same.x{H H':Hp}(s:Same H H'):zk H H':=fun b o h=>.inl (s b o h)
theorem zk.refl(H:Hp):zk H H:=(Same.refl H).x
theorem zk.free{H H':Hp}(e:zk H H'){l:Addr}(h:H' l=none):H l=none:=by
 cases q:H l with
 | none=>rfl
 | some o=>
  rcases e l o q with z|⟨_,_,c',z,_⟩
  . rw [h] at z;cases z
  . rw [h] at z;cases z
theorem zk.at{H H':Hp}(e:zk H H'){b:Addr}{o:HO}(h:H b=some o)(n:∀ f,o≠.ext f:=by intro f z;cases z):H' b=some o:=by
 rcases e b o h with z|⟨z,_⟩
 . exact z
 . exact absurd z (n _)
theorem zk.exc{H H':Hp}(e:zk H H'){a C:Addr}(h:H a=some (excO a C)):H' a=some (excO a C):=by
 rcases e a _ h with z|⟨z,n,_⟩
 . exact z
 . exact absurd z.symm (n.1 C)
theorem zk.code{H H':Hp}(e:zk H H'){a:Addr}{q:Str}(h:H a=some (jC a q)):H' a=some (jC a q):=by
 rcases e a _ h with z|⟨z,n,_⟩
 . exact z
 . exact absurd z.symm (n.2 q)
theorem Lk.same{P:Addr}{H H':Hp}(l:Lk P H)(e:zk H H'):Lk P H':=by
 obtain⟨c',h1,h2⟩:=l
 rcases e P _ h1 with z|⟨_,_,z⟩
 . exact⟨c',z,e.code h2⟩
 . exact z
theorem zk.trans{H H1 H2:Hp}(a:zk H H1)(b:zk H1 H2):zk H H2:=fun c o h=>by
 rcases a c o h with z|⟨e,n,l⟩
 . exact b c o z
 . exact .inr ⟨e,n,l.same b⟩
def TabU(P:Addr)(H:Hp):Prop:=H P=some (tab0 P)\/Lk P H
theorem TabU.same{P:Addr}{H H':Hp}(t:TabU P H)(e:zk H H'):TabU P H':=by
 rcases t with h|h
 . rcases e P _ h with z|⟨_,_,l⟩
   . exact .inl z
   . exact .inr l
 . exact .inr (h.same e)
structure Sub(G H:Hp):Prop where
 s:Same G H
 cl:∀ a f,G a≠some (.ext f)
theorem Sub.free{G H:Hp}(e:Sub G H){l:Addr}(h:H l=none):G l=none:=e.s.free h
theorem Sub.seq{K:Ybf}{G H:Hp}{a:Addr}{xs:List V}(e:Sub G H)(h:SqL K G a xs):SqL K H a xs:=e.s.seq h
theorem Sub.tup{K:Ybf}{G H:Hp}{a:Addr}{xs:List V}(e:Sub G H)(h:SqT K G a xs):SqT K H a xs:=e.s.tup h
theorem Sub.trans{G H H':Hp}(e:Sub G H)(x:zk H H'):Sub G H':=⟨fun b o h=>x.at (e.s b o h) (fun f z=>by rw [z] at h;exact e.cl b f h),e.cl⟩
theorem Lk.upd{b D:Addr}{H:Hp}{o:HO}(l:Lk b H)(nb:b≠D)(hD:∀ f,H D≠some (.ext f)):Lk b (upd H D o):=by
 obtain⟨c',h1,h2⟩:=l;exact⟨c',by rw [zg nb];exact h1,by rw [zg (fun y=>by rw [y] at h2;exact hD _ h2)];exact h2⟩
theorem zk.chg{H0 H:Hp}{l:Addr}{o us:HO}(s:zk H0 H)(h0:H0 l=none)(hu:H l=some us)(hux:∀ f,us≠.ext f):zk H0 (upd H l o):=fun b u e=>by
 have nb:=zS e h0
 rcases s b u e with z|⟨z,n,c',h1,h2⟩
 . exact .inl (by rw [zg nb];exact z)
 . refine .inr ⟨z,n,c',by rw [zg nb];exact h1,?_⟩
   rw [zg (fun y=>by rw [y,hu] at h2;exact hux _ (Wbe h2))];exact h2
theorem zk.seq{K:Ybf}{H H':Hp}{a:Addr}{xs:List V}(e:zk H H')(h:SqL K H a xs):SqL K H' a xs:=by
 rcases h with (h|⟨o,h⟩)|h
 . exact .inl (.inl (e.at h))
 . exact .inl (.inr ⟨o,e.at h⟩)
 . exact .inr h
theorem zk.tup{K:Ybf}{H H':Hp}{a:Addr}{xs:List V}(e:zk H H')(h:SqT K H a xs):SqT K H' a xs:=by
 rcases h with (h|⟨o,h⟩)|h
 . exact .inl (.inl (e.at h))
 . exact .inl (.inr ⟨o,e.at h⟩)
 . exact .inr h
def cln(H:Hp):Hp:=fun a=>match H a with
 | some (.ext _)=>none
 | o=>o
theorem zbj{H:Hp}{a:Addr}{o:HO}(h:H a=some o)(n:∀ f,o≠.ext f:=by intro f z;cases z):cln H a=some o:=by
 unfold cln;rw [h];cases o<;>first|rfl|exact absurd rfl (n _)
theorem zdw(H:Hp):Sub (cln H) H:=by
 refine⟨fun b o h=>?_,fun a f h=>?_⟩
 . unfold cln at h
   cases e:H b with
   | none=>rw [e] at h;cases h
   | some u=>rw [e] at h;cases u<;>first|exact h|cases h
 . unfold cln at h
   cases e:H a with
   | none=>rw [e] at h;cases h
   | some u=>rw [e] at h;cases u<;>cases h
end L2
namespace L3
open PySem PySem.Spec PyProof.Rows L2
variable[LamW]
abbrev D:=PyData
inductive Cl where
 | sh (f:Bool) (d:D)
 | ow (f:Bool) (ds:List D)
 | tr (ps:List Addr) (ms:List (List D))
 | dt (ds:List (List Key×D))
 | dk (ks:List Int)
 | ex (C:Addr)
def Cl.d:Cl->D
 | .sh _ d=>d
 | .ow _ ds=>.list ds
 | .tr _ _=>.none
 | .dt _=>.none
 | .dk _=>.none
 | .ex _=>.none
def Cl.f:Cl->Bool
 | .sh f _=>f
 | .ow f _=>f
 | .tr _ _=>false
 | .dt _=>false
 | .dk _=>false
 | .ex _=>false
def zt:D->Bool
 | .int _=>true|.bool _=>true|.str _=>true|.none=>true|_=>false
abbrev Env3:=List (Option Cl)
structure Gr(G H G' H':Hp):Prop where
 g:Same G G'
 h:zk H H'
 sub:Sub G' H'
 new:∀ b o,G' b=some o->G b=some o\/H b=none
theorem Gr.refl{G H:Hp}(s:Sub G H):Gr G H G H:=⟨Same.refl _,zk.refl _,s,fun _ _ e=>.inl e⟩
theorem Gr.trans{G H G1 H1 G2 H2:Hp}(a:Gr G H G1 H1)(b:Gr G1 H1 G2 H2):Gr G H G2 H2:=
 ⟨a.g.trans b.g,a.h.trans b.h,b.sub,fun c o e=>by
  rcases b.new c o e with q|q
  . exact a.new c o q
  . exact .inr (a.h.free q)⟩
theorem Gr.put{G H:Hp}{p:Addr}{o:HO}(s:Sub G H)(hp:H p=none)(ho:∀ f,o≠.ext f:=by intro f z;cases z):Gr G H (upd G p o) (upd H p o):=
 ⟨zO (s.free hp) o,(zO hp o).x,⟨fun b u e=>by
  by_cases hb:b=p
  . subst hb;rw [zo] at e ⊢;exact e
  . rw [zg hb] at e ⊢;exact s.s b u e,fun b f e=>by
  by_cases hb:b=p
  . subst hb;rw [zo] at e;exact ho f (Wbe e)
  . rw [zg hb] at e;exact s.cl b f e⟩,fun b u e=>by
  by_cases hb:b=p
  . subst hb;exact .inr hp
  . rw [zg hb] at e;exact .inl e⟩
theorem Gr.apart{G H:Hp}{p:Addr}{o:HO}(s:Sub G H)(hp:H p=none):Gr G H G (upd H p o):=
 ⟨Same.refl _,(zO hp o).x,s.trans (zO hp o).x,fun _ _ e=>.inl e⟩
mutual
theorem JG{K:Ybf}{H H':Hp}(e:Same H H'):∀ {x:V} {d:D},RdV K H x d->RdV K H' x d
 | _,_,.non=>.non
 | _,_,.bl b=>.bl b
 | _,_,.int i=>.int i
 | _,_,.str x=>.str x
 | _,_,.lst q r=>.lst (e.seq q) (rdvs_same e r)
 | _,_,.tup q r=>.tup (e.tup q) (rdvs_same e r)
theorem rdvs_same{K:Ybf}{H H':Hp}(e:Same H H'):∀ {xs:List V} {ds:List D},RdVs K H xs ds->RdVs K H' xs ds
 | _,_,.nil=>.nil
 | _,_,.cons a b=>.cons (JG e a) (rdvs_same e b)
end
theorem zjE{K:Ybf}{H:Hp}{a:Addr}{xs:List V}(h:SqL K H a xs):SqL K (cln H) a xs:=by
 rcases h with (h|⟨o,h⟩)|h
 . exact .inl (.inl (zbj h))
 . exact .inl (.inr ⟨o,zbj h⟩)
 . exact .inr h
theorem zgm{K:Ybf}{H:Hp}{a:Addr}{xs:List V}(h:SqT K H a xs):SqT K (cln H) a xs:=by
 rcases h with (h|⟨o,h⟩)|h
 . exact .inl (.inl (zbj h))
 . exact .inl (.inr ⟨o,zbj h⟩)
 . exact .inr h
mutual
theorem zkN{K:Ybf}{H:Hp}:∀ {x:V} {d:D},RdV K H x d->RdV K (cln H) x d
 | _,_,.non=>.non
 | _,_,.bl b=>.bl b
 | _,_,.int i=>.int i
 | _,_,.str x=>.str x
 | _,_,.lst q r=>.lst (zjE q) (rdvs_cln r)
 | _,_,.tup q r=>.tup (zgm q) (rdvs_cln r)
theorem rdvs_cln{K:Ybf}{H:Hp}:∀ {xs:List V} {ds:List D},RdVs K H xs ds->RdVs K (cln H) xs ds
 | _,_,.nil=>.nil
 | _,_,.cons a b=>.cons (zkN a) (rdvs_cln b)
end
mutual
inductive RdN(K:Ybf)(H0 G:Hp):V->D->Prop
 | non:RdN K H0 G .non .none
 | bl (b):RdN K H0 G (.bl b) (.bool b)
 | int (i):RdN K H0 G (.int i) (.int i)
 | str (x):RdN K H0 G (.str x) (.str x)
 | lst {a xs ds}:G a=some (.lst xs)->H0 a=none->RdNs K H0 G xs ds->RdN K H0 G (.ref a) (.list ds)
 | tup {a xs ds}:SqT K G a xs->RdNs K H0 G xs ds->RdN K H0 G (.ref a) (.tuple ds)
inductive RdNs(K:Ybf)(H0 G:Hp):List V->List D->Prop
 | nil:RdNs K H0 G [] []
 | cons {x xs d ds}:RdN K H0 G x d->RdNs K H0 G xs ds->RdNs K H0 G (x::xs) (d::ds)
end
mutual
theorem ZE{K:Ybf}{H0 G:Hp}:∀ {x:V} {d:D},RdN K H0 G x d->RdV K G x d
 | _,_,.non=>.non
 | _,_,.bl b=>.bl b
 | _,_,.int i=>.int i
 | _,_,.str x=>.str x
 | _,_,.lst q _ r=>.lst (SqL.of q) (rdns_rd r)
 | _,_,.tup q r=>.tup q (rdns_rd r)
theorem rdns_rd{K:Ybf}{H0 G:Hp}:∀ {xs:List V} {ds:List D},RdNs K H0 G xs ds->RdVs K G xs ds
 | _,_,.nil=>.nil
 | _,_,.cons a b=>.cons (ZE a) (rdns_rd b)
end
mutual
theorem jk{K:Ybf}{H0 H1 G G':Hp}(e:Same G G')(h:∀ a o,G a=some o->H0 a=none->H1 a=none):∀ {x:V} {d:D},RdN K H0 G x d->RdN K H1 G' x d
 | _,_,.non=>.non
 | _,_,.bl b=>.bl b
 | _,_,.int i=>.int i
 | _,_,.str x=>.str x
 | _,_,.lst q n r=>.lst (e _ _ q) (h _ _ q n) (rdns_mono e h r)
 | _,_,.tup q r=>.tup (e.tup q) (rdns_mono e h r)
theorem rdns_mono{K:Ybf}{H0 H1 G G':Hp}(e:Same G G')(h:∀ a o,G a=some o->H0 a=none->H1 a=none):∀ {xs:List V} {ds:List D},RdNs K H0 G xs ds->RdNs K H1 G' xs ds
 | _,_,.nil=>.nil
 | _,_,.cons a b=>.cons (jk e h a) (rdns_mono e h b)
end
theorem ZX{K:Ybf}{H0 G:Hp}{v:V}{d:D}(h:zt d=true)(r:RdV K G v d):RdN K H0 G v d:=by
 cases r with
 | non=>exact .non
 | bl b=>exact .bl b
 | int i=>exact .int i
 | str s=>exact .str s
 | lst _ _=>cases h
 | tup _ _=>cases h
structure Rf(K:Ybf)(H0 G:Hp)(f:Bool)(v:V)(d:D):Prop where
 rd:RdV K G v d
 nw:f=true->RdN K H0 G v d
structure Rfs(K:Ybf)(H0 G:Hp)(f:Bool)(v:List V)(d:List D):Prop where
 rd:RdVs K G v d
 nw:f=true->RdNs K H0 G v d
theorem Rf.same{K:Ybf}{H0 G G':Hp}{f:Bool}{v:V}{d:D}(r:Rf K H0 G f v d)(e:Same G G'):Rf K H0 G' f v d:=⟨JG e r.rd,fun h=>jk e (fun _ _ _ n=>n) (r.nw h)⟩
theorem Rfs.same{K:Ybf}{H0 G G':Hp}{f:Bool}{v:List V}{d:List D}(r:Rfs K H0 G f v d)(e:Same G G'):Rfs K H0 G' f v d:=⟨rdvs_same e r.rd,fun h=>rdns_mono e (fun _ _ _ n=>n) (r.nw h)⟩
theorem Rf.sc{K:Ybf}{H0 G:Hp}{f:Bool}{v:V}{d:D}(h:zt d=true)(r:RdV K G v d):Rf K H0 G f v d:=⟨r,fun _=>ZX h r⟩
theorem Rf.no{K:Ybf}{H0 G:Hp}{v:V}{d:D}(r:RdV K G v d):Rf K H0 G false v d:=⟨r,fun h=>by cases h⟩
theorem Rf.or{K:Ybf}{H0 G:Hp}{f:Bool}{v:V}{d:D}(r:Rf K H0 G f v d):Rf K H0 G (f||zt d) v d:=⟨r.rd,fun h=>by
 cases f with
 | true=>exact r.nw rfl
 | false=>exact ZX (by simpa using h) r.rd⟩
theorem Rfs.nil{K:Ybf}{H0 G:Hp}{f:Bool}:Rfs K H0 G f [] []:=⟨.nil,fun _=>.nil⟩
theorem Rfs.cons{K:Ybf}{H0 G:Hp}{f g:Bool}{v:V}{d:D}{vs:List V}{ds:List D}(r:Rf K H0 G f v d)(rs:Rfs K H0 G g vs ds):Rfs K H0 G (f&&g) (v::vs) (d::ds):=⟨.cons r.rd rs.rd,fun h=>by
 rw [Yak] at h;exact .cons (r.nw h.1) (rs.nw h.2)⟩
theorem zms{K:Ybf}{H0 H:Hp}{xs:List V}{ds:List D}{i:Nat}{x:V}{d:D}(r:RdNs K H0 H xs ds)(e:xs[i]?=some x)(e':ds[i]?=some d):RdN K H0 H x d:=by
 induction xs generalizing ds i with
 | nil=>simp at e
 | cons y xs ih=>
  cases r with
  | cons a b=>
   cases i with
   | zero=>cases e;cases e';exact a
   | succ i=>exact ih b (i:=i) (by simpa using e) (by simpa using e')
theorem Rfs.get{K:Ybf}{H0 G:Hp}{f:Bool}{vs:List V}{ds:List D}{i:Nat}{d:D}(r:Rfs K H0 G f vs ds)(h:ds[i]?=some d):∃ v,vs[i]?=some v/\Rf K H0 G f v d:=by
 obtain⟨v,h1,h2⟩:=r.rd.get h;exact⟨v,h1,h2,fun hf=>zms (r.nw hf) h1 h⟩
theorem zng{K:Ybf}{H0 G:Hp}{vs:List V}{ds:List D}(h:ds.all zt=true)(r:RdVs K G vs ds):RdNs K H0 G vs ds:=by
 induction vs generalizing ds with
 | nil=>cases r;exact .nil
 | cons v vs ih=>
  cases r with
  | cons a b=>
   rw [List.all_cons,Yak] at h;exact .cons (ZX h.1 a) (ih h.2 b)
theorem Rfs.or{K:Ybf}{H0 G:Hp}{f:Bool}{vs:List V}{ds:List D}(r:Rfs K H0 G f vs ds):Rfs K H0 G (f||ds.all zt) vs ds:=⟨r.rd,fun h=>by
 cases f with
 | true=>exact r.nw rfl
 | false=>exact zng (by simpa using h) r.rd⟩
theorem zbL(ws:List Int):(ws.map PyData.int).all zt=true:=by
 rw [List.all_map];exact Wa6.mpr fun _ _=>rfl
theorem Rfs.length{K:Ybf}{H0 G:Hp}{f:Bool}{vs:List V}{ds:List D}(r:Rfs K H0 G f vs ds):vs.length=ds.length:=r.rd.length
theorem zb1{K:Ybf}{H0 H:Hp}{xs ys:List V}{ds es:List D}(h:RdNs K H0 H xs ds)(h':RdNs K H0 H ys es):RdNs K H0 H (xs++ys) (ds++es):=by
 induction xs generalizing ds with
 | nil=>cases h;exact h'
 | cons x xs ih=>cases h with|cons a b=>exact .cons a (ih b)
theorem zlz{K:Ybf}{H0 H:Hp}{x:V}{d:D}(h:RdN K H0 H x d){xs:List V}{ds:List D}(i:Nat)(r:RdNs K H0 H xs ds):RdNs K H0 H (xs.set i x) (ds.set i d):=by
 induction xs generalizing ds i with
 | nil=>cases r;exact .nil
 | cons y xs ih=>
  cases r with
  | cons a b=>
   cases i with
   | zero=>exact .cons h b
   | succ i=>exact .cons a (ih i b)
theorem zhs{K:Ybf}{H0 H:Hp}{xs:List V}{ds:List D}(i:Nat)(r:RdNs K H0 H xs ds):RdNs K H0 H (xs.take i) (ds.take i):=by
 induction xs generalizing ds i with
 | nil=>cases r;rw [List.take_nil,List.take_nil];exact .nil
 | cons y xs ih=>
  cases r with
  | cons a b=>
   cases i with
   | zero=>exact .nil
   | succ i=>exact .cons a (ih i b)
theorem zl7{K:Ybf}{H0 H:Hp}{xs:List V}{ds:List D}(i:Nat)(r:RdNs K H0 H xs ds):RdNs K H0 H (xs.drop i) (ds.drop i):=by
 induction xs generalizing ds i with
 | nil=>cases r;rw [List.drop_nil,List.drop_nil];exact .nil
 | cons y xs ih=>
  cases r with
  | cons a b=>
   cases i with
   | zero=>exact .cons a b
   | succ i=>exact ih i b
theorem zmS{K:Ybf}{H0 H:Hp}{xs:List V}{ds:List D}(i:Nat)(r:RdNs K H0 H xs ds):RdNs K H0 H (xs.eraseIdx i) (ds.eraseIdx i):=by
 induction xs generalizing ds i with
 | nil=>cases r;exact .nil
 | cons y xs ih=>
  cases r with
  | cons a b=>
   cases i with
   | zero=>exact b
   | succ i=>exact .cons a (ih i b)
theorem Rfs.snoc{K:Ybf}{H0 G:Hp}{f g:Bool}{v:V}{d:D}{vs:List V}{ds:List D}(rs:Rfs K H0 G g vs ds)(r:Rf K H0 G f v d):Rfs K H0 G (g&&f) (vs++[v]) (ds++[d]):=⟨rs.rd.append (.cons r.rd .nil),fun h=>by
 rw [Yak] at h;exact zb1 (rs.nw h.1) (.cons (r.nw h.2) .nil)⟩
theorem Rfs.append{K:Ybf}{H0 G:Hp}{f g:Bool}{us:List V}{es:List D}{vs:List V}{ds:List D}(rs:Rfs K H0 G g vs ds)(r:Rfs K H0 G f us es):Rfs K H0 G (g&&f) (vs++us) (ds++es):=⟨rs.rd.append r.rd,fun h=>by
 rw [Yak] at h;exact zb1 (rs.nw h.1) (r.nw h.2)⟩
theorem Rfs.set{K:Ybf}{H0 G:Hp}{f g:Bool}{v:V}{d:D}{vs:List V}{ds:List D}(rs:Rfs K H0 G g vs ds)(r:Rf K H0 G f v d)(i:Nat):Rfs K H0 G (g&&f) (vs.set i v) (ds.set i d):=⟨rs.rd.set r.rd i,fun h=>by
 rw [Yak] at h;exact zlz (r.nw h.2) i (rs.nw h.1)⟩
theorem Rfs.take{K:Ybf}{H0 G:Hp}{g:Bool}{vs:List V}{ds:List D}(rs:Rfs K H0 G g vs ds)(i:Nat):Rfs K H0 G g (vs.take i) (ds.take i):=⟨rs.rd.take i,fun h=>zhs i (rs.nw h)⟩
theorem Rfs.drop{K:Ybf}{H0 G:Hp}{g:Bool}{vs:List V}{ds:List D}(rs:Rfs K H0 G g vs ds)(i:Nat):Rfs K H0 G g (vs.drop i) (ds.drop i):=⟨rs.rd.drop i,fun h=>zl7 i (rs.nw h)⟩
theorem Rfs.eraseIdx{K:Ybf}{H0 G:Hp}{g:Bool}{vs:List V}{ds:List D}(rs:Rfs K H0 G g vs ds)(i:Nat):Rfs K H0 G g (vs.eraseIdx i) (ds.eraseIdx i):=⟨rs.rd.eraseIdx i,fun h=>zmS i (rs.nw h)⟩
structure Tr(K:Ybf)(H0 G H:Hp)(l:Addr)(ps:List Addr)(ms:List (List D)):Prop where
 top:H l=some (.lst (ps.map V.ref))
 topG:G l=none
 nd:(l::ps).Nodup
 len:ps.length=ms.length
 item:∀ (k:Nat) (p:Addr) (m:List D),ps[k]?=some p->ms[k]?=some m->∃ vs,H p=some (.lst vs)/\G p=none/\Rfs K H0 G true vs m
inductive Dr(K:Ybf)(H0 G:Hp):List (List Key×V)->List (List Key×D)->Prop
 | nil:Dr K H0 G [] []
 | cons {k v d kvs ds}:Rf K H0 G true v d->Dr K H0 G kvs ds->Dr K H0 G ((k,v)::kvs) ((k,d)::ds)
theorem Dr.same{K:Ybf}{H0 G G':Hp}{kvs:List (List Key×V)}{ds:List (List Key×D)}(r:Dr K H0 G kvs ds)(e:Same G G'):Dr K H0 G' kvs ds:=by
 induction r with
 | nil=>exact .nil
 | cons a b ih=>exact .cons (a.same e) ih
inductive Vw(K:Ybf)(H0 G H:Hp):V->Cl->Prop
 | sh {v f d}:Rf K H0 G f v d->Vw K H0 G H v (.sh f d)
 | ow {l vs f ds}:H l=some (.lst vs)->Rfs K H0 G f vs ds->G l=none->Vw K H0 G H (.ref l) (.ow f ds)
 | tr {l ps ms}:Tr K H0 G H l ps ms->Vw K H0 G H (.ref l) (.tr ps ms)
 | dt {l kvs ds}:H l=some (.dT kvs)->Dr K H0 G kvs ds->G l=none->Vw K H0 G H (.ref l) (.dt ds)
 | dk {l ks}:H l=some (.dK (ks.map fun k=>(Sum.inl k,V.bl true)))->G l=none->Vw K H0 G H (.ref l) (.dk ks)
 | ex {l C}:H l=some (excO l C)->Vw K H0 G H (.ref l) (.ex C)
def Cl.dat:Cl->Bool
 | .ex _=>false
 | .tr _ _=>false
 | .dt _=>false
 | .dk _=>false
 | _=>true
def Has:Cl->V->Addr->Prop
 | .ow _ _,v,a=>v=.ref a
 | .tr ps _,v,a=>v=.ref a\/a∈ps
 | .dt _,v,a=>v=.ref a
 | .dk _,v,a=>v=.ref a
 | _,_,_=>False
theorem Tr.at{K:Ybf}{H0 G H:Hp}{l:Addr}{ps:List Addr}{ms:List (List D)}(t:Tr K H0 G H l ps ms){p:Addr}(h:p∈ps):∃ m vs,H p=some (.lst vs)/\G p=none/\Rfs K H0 G true vs m:=by
 obtain⟨k,hk,e⟩:=Yam h;have hk':k<ms.length:=by rw [<-t.len];exact hk
 obtain⟨vs,h1⟩:=t.item k p ms[k] (by rw [<-e];exact YaQ hk) (YaQ hk')
 exact⟨_,vs,h1⟩
theorem Vw.has{K:Ybf}{H0 G H:Hp}{v:V}{c:Cl}{a:Addr}(w:Vw K H0 G H v c)(h:Has c v a):(∃ o,H a=some o/\∀ f,o≠.ext f)/\G a=none:=by
 cases w with
 | sh r=>exact False.elim h
 | ex e=>exact False.elim h
 | ow e r n=>cases h;exact⟨⟨_,e,fun C z=>by cases z⟩,n⟩
 | dt e r n=>cases h;exact⟨⟨_,e,fun C z=>by cases z⟩,n⟩
 | dk e n=>cases h;exact⟨⟨_,e,fun C z=>by cases z⟩,n⟩
 | tr t=>
  rcases h with h|h
  . cases h;exact⟨⟨_,t.top,fun C z=>by cases z⟩,t.topG⟩
  . obtain⟨m,vs,h1,h2,_⟩:=t.at h
    exact⟨⟨_,h1,fun C z=>by cases z⟩,h2⟩
theorem Vw.turn{K:Ybf}{H0 G H G' H':Hp}{v:V}{c:Cl}(w:Vw K H0 G H v c)(g:Same G G')(hx:∀ a C,H a=some (excO a C)->H' a=some (excO a C))(hh:∀ a,Has c v a->H' a=H a/\G' a=G a):Vw K H0 G' H' v c:=by
 cases w with
 | sh r=>exact .sh (r.same g)
 | ex h=>exact .ex (hx _ _ h)
 | ow h r n=>
  obtain⟨h1,h2⟩:=hh _ rfl;exact .ow (h1.trans h) (r.same g) (h2.trans n)
 | dt h r n=>
  obtain⟨h1,h2⟩:=hh _ rfl;exact .dt (h1.trans h) (r.same g) (h2.trans n)
 | dk h n=>
  obtain⟨h1,h2⟩:=hh _ rfl;exact .dk (h1.trans h) (h2.trans n)
 | tr t=>
  obtain⟨h1,h2⟩:=hh _ (.inl rfl);refine .tr ⟨h1.trans t.top,h2.trans t.topG,t.nd,t.len,fun k p m hp hm=>?_⟩
  obtain⟨vs,q1,q2,q3⟩:=t.item k p m hp hm;obtain⟨h3,h4⟩:=hh p (.inr (Yah hp));exact⟨vs,h3.trans q1,h4.trans q2,q3.same g⟩
theorem Gr.hid{G H G' H':Hp}(g:Gr G H G' H'){l:Addr}{o:HO}(h:H l=some o)(n:G l=none):G' l=none:=by
 cases e:G' l with
 | none=>rfl
 | some o=>
  rcases g.new _ _ e with q|q
  . rw [n] at q;cases q
  . rw [h] at q;cases q
theorem Vw.gr{K:Ybf}{H0 G H G' H':Hp}{v:V}{c:Cl}(w:Vw K H0 G H v c)(g:Gr G H G' H'):Vw K H0 G' H' v c:=
 w.turn g.g (fun a C e=>g.h.exc e) fun a h=>by
  obtain⟨⟨o,e,no⟩,n⟩:=w.has h;exact⟨(g.h.at e no).trans e.symm,(g.hid e n).trans n.symm⟩
theorem Vw.rd{K:Ybf}{H0 G H:Hp}{v:V}{c:Cl}(w:Vw K H0 G H v c)(s:Sub G H)(hc:c.dat=true):RdV K H v c.d:=by
 cases w with
 | sh r=>exact JG s.s r.rd
 | ow h r n=>exact .lst (SqL.of h) (rdvs_same s.s r.rd)
 | tr t=>cases hc
 | dt _ _ _=>cases hc
 | dk _ _=>cases hc
 | ex h=>cases hc
inductive Vws(K:Ybf)(H0 G H:Hp):List V->List Cl->Prop
 | nil:Vws K H0 G H [] []
 | cons {v c vs cs}:Vw K H0 G H v c->Vws K H0 G H vs cs->Vws K H0 G H (v::vs) (c::cs)
theorem Vws.gr{K:Ybf}{H0 G H G' H':Hp}(g:Gr G H G' H'){vs:List V}{cs:List Cl}(h:Vws K H0 G H vs cs):Vws K H0 G' H' vs cs:=by
 induction h with
 | nil=>exact .nil
 | cons a b ih=>exact .cons (a.gr g) ih
def shs:List Cl->Option (Bool×List D)
 | []=>some (true,[])
 | .sh f d::r=>(shs r).map fun p=>((f&&p.1),d::p.2)
 | .ow _ _::_=>none
 | .tr _ _::_=>none
 | .dt _::_=>none
 | .dk _::_=>none
 | .ex _::_=>none
theorem Vws.shs{K:Ybf}{H0 G H:Hp}{vs:List V}{cs:List Cl}{p:Bool×List D}(h:Vws K H0 G H vs cs)(e:shs cs=some p):Rfs K H0 G p.1 vs p.2:=by
 induction h generalizing p with
 | nil=>cases e;exact .nil
 | cons a b ih=>
  cases a with
  | sh r=>
   unfold L3.shs at e;rename_i cs' f d;cases q:L3.shs cs' with
   | none=>rw [q] at e;cases e
   | some ds=>rw [q] at e;cases e;exact .cons r (ih q)
  | ow _ _ _=>cases e
  | tr _=>cases e
  | dt _ _ _=>cases e
  | dk _ _=>cases e
  | ex _=>cases e
theorem Vws.rds{K:Ybf}{H0 G H:Hp}(s:Sub G H){vs:List V}{cs:List Cl}(h:Vws K H0 G H vs cs)(hd:cs.all Cl.dat=true):RdVs K H vs (cs.map Cl.d):=by
 induction h with
 | nil=>exact .nil
 | cons a b ih=>
  rw [List.all_cons,Yak] at hd;exact .cons (a.rd s hd.1) (ih hd.2)
structure Fr3(K:Ybf)(H0 G0:Hp)(ρ : Env3)(σ : L2.St)(G H:Hp):Prop where
 keep:zk H0 H
 sub:Sub G H
 old:∀ b o,G b=some o->G0 b=some o\/H0 b=none
 g0:Same G0 G
 slot:∀ (i:Nat) (c:Cl),ρ[i]?=some (some c)->∃ v,σ[i]?=some (some v)/\Vw K H0 G H v c
 mine:∀ (i:Nat) (c:Cl) (v:V) (a:Addr),ρ[i]?=some (some c)->σ[i]?=some (some v)->Has c v a->H0 a=none
 apart:∀ (i j:Nat) (c c':Cl) (v v':V) (a:Addr),ρ[i]?=some (some c)->ρ[j]?=some (some c')->σ[i]?=some (some v)->σ[j]?=some (some v')->Has c v a->Has c' v' a->i=j
 len:ρ.length = σ.length
section
variable{K:Ybf}{H0 G0:Hp}{ρ : Env3}{σ : L2.St}{G H G' H':Hp}
theorem Fr3.gr(F:Fr3 K H0 G0 ρ σ G H)(g:Gr G H G' H'):Fr3 K H0 G0 ρ σ G' H' where
 keep:=F.keep.trans g.h
 sub:=g.sub
 old:=fun b o e=>by
  rcases g.new b o e with q|q
  . exact F.old b o q
  . exact .inr (F.keep.free q)
 g0:=F.g0.trans g.g
 slot:=fun i c e=>by
  obtain⟨v,h1,h2⟩:=F.slot i c e;exact⟨v,h1,h2.gr g⟩
 mine:=F.mine
 apart:=F.apart
 len:=F.len
theorem zM{α : Type}{l:List α}{i j:Nat}{x y:α}(h:(l.set i x)[j]?=some y):(i=j/\y=x/\i<l.length)\/(i≠j/\l[j]?=some y):=by
 by_cases e:i=j
 . subst e
   rw [List.getElem?_set_self'] at h;cases q:l[i]? with
   | none=>rw [q] at h;cases h
   | some z=>
    rw [q] at h;cases h;exact .inl ⟨rfl,rfl,(Ya8.mp q).1⟩
 . rw [Yac e] at h
   exact .inr ⟨e,h⟩
theorem Fr3.vw(F:Fr3 K H0 G0 ρ σ G H){i:Nat}{c:Cl}{v:V}(h:ρ[i]?=some (some c))(h':σ[i]?=some (some v)):Vw K H0 G H v c:=by
 obtain⟨u,h1,h2⟩:=F.slot i c h;rw [h'] at h1;cases h1;exact h2
theorem Fr3.put(F:Fr3 K H0 G0 ρ σ G H){i:Nat}{v:V}{c:Cl}(s:zk H H')(w:Vw K H0 G H' v c)(hn:∀ a,Has c v a->H a=none):Fr3 K H0 G0 (ρ.set i (some c)) (σ.set i (some v)) G H':=by
 have F':=F.gr (G':=G) (H':=H') ⟨Same.refl _,s,F.sub.trans s,fun _ _ e=>.inl e⟩
 have ne:∀ (j:Nat) (c':Cl) (v':V) (a:Addr),ρ[j]?=some (some c')->σ[j]?=some (some v')->Has c' v' a->Has c v a->False:=fun j c' v' a e e' h h'=>by
  obtain⟨⟨o,q,_⟩,_⟩:=(F.vw e e').has h;rw [hn a h'] at q;cases q
 exact {
  keep:=F'.keep
  sub:=F'.sub
  old:=F'.old
  g0:=F'.g0
  slot:=fun j c' e=>by
   rcases zM e with ⟨rfl,q,hl⟩|⟨n,q⟩
   . cases q
     exact⟨v,by rw [Yas (by rw [<-F.len];exact hl)],w⟩
   . obtain⟨v',h1,h2⟩:=F'.slot j c' q
     exact⟨v',by rw [Yac n];exact h1,h2⟩
  mine:=fun j c' v' a e e' h=>by
   rcases zM e with ⟨rfl,q,hl⟩|⟨n,q⟩
   . cases q
     rw [Yas (by rw [<-F.len];exact hl)] at e'
     cases e';exact F.keep.free (hn a h)
   . rw [Yac n] at e'
     exact F.mine j c' v' a q e' h
  apart:=fun j k c1 c2 v1 v2 a e1 e2 e3 e4 h1 h2=>by
   rcases zM e1 with ⟨rfl,q,hl⟩|⟨n,q⟩
   . rcases zM e2 with ⟨rfl,q',hl'⟩|⟨n',q'⟩
     . rfl
     . cases q
       rw [Yas (by rw [<-F.len];exact hl)] at e3
       cases e3;rw [Yac n'] at e4
       exact(ne k c2 v2 a q' e4 h2 h1).elim
   . rcases zM e2 with ⟨rfl,q',hl'⟩|⟨n',q'⟩
     . cases q'
       rw [Yas (by rw [<-F.len];exact hl')] at e4
       cases e4;rw [Yac n] at e3
       exact(ne j c1 v1 a q e3 h1 h2).elim
     . rw [Yac n] at e3
       rw [Yac n'] at e4;exact F.apart j k c1 c2 v1 v2 a q q' e3 e4 h1 h2
  len:=by rw [YaN,YaN];exact F.len }
theorem Fr3.set(F:Fr3 K H0 G0 ρ σ G H){i:Nat}{v:V}{f:Bool}{d:D}(r:Rf K H0 G f v d):Fr3 K H0 G0 (ρ.set i (some (.sh f d))) (σ.set i (some v)) G H:=F.put (zk.refl _) (.sh r) fun _ h=>False.elim h
theorem Fr3.drop(F:Fr3 K H0 G0 ρ σ G H){i:Nat}:Fr3 K H0 G0 (ρ.set i none) σ G H where
 keep:=F.keep
 sub:=F.sub
 old:=F.old
 g0:=F.g0
 slot:=fun j c e=>by
  rcases zM e with ⟨rfl,q,hl⟩|⟨n,q⟩
  . cases q
  . exact F.slot j c q
 mine:=fun j c v a e e' h=>by
  rcases zM e with ⟨rfl,q,hl⟩|⟨n,q⟩
  . cases q
  . exact F.mine j c v a q e' h
 apart:=fun j k c1 c2 v1 v2 a e1 e2 e3 e4 h1 h2=>by
  rcases zM e1 with ⟨rfl,q,hl⟩|⟨n,q⟩
  . cases q
  . rcases zM e2 with ⟨rfl,q',hl⟩|⟨n',q'⟩
    . cases q'
    . exact F.apart j k c1 c2 v1 v2 a q q' e3 e4 h1 h2
 len:=by rw [YaN];exact F.len
theorem Fr3.own(F:Fr3 K H0 G0 ρ σ G H){i:Nat}{l:Addr}{vs:List V}{f:Bool}{ds:List D}(r:Rfs K H0 G f vs ds)(hl:H l=none):Fr3 K H0 G0 (ρ.set i (some (.ow f ds))) (σ.set i (some (.ref l))) G (upd H l (.lst vs)):=
 F.put (zO hl _).x (.ow zo r (F.sub.free hl)) fun a h=>by cases h;exact hl
theorem Fr3.chg(F:Fr3 K H0 G0 ρ σ G H){i:Nat}{l:Addr}{o:HO}{c c':Cl}{v:V}(hi:ρ[i]?=some (some c))(hv:σ[i]?=some (some v))(hl:Has c v l)(hc:∀ a,Has c' v a->Has c v a)(w:Vw K H0 G (upd H l o) v c'):Fr3 K H0 G0 (ρ.set i (some c')) σ G (upd H l o):=by
 have h0:H0 l=none:=F.mine i c v l hi hv hl;obtain⟨⟨us,hu,hux⟩,gl⟩:=(F.vw hi hv).has hl;refine⟨F.keep.chg h0 hu hux,⟨fun b o e=>by rw [zg (zS e gl)];exact F.sub.s b o e,F.sub.cl⟩,F.old,F.g0,fun j c2 e=>?_,fun j c2 v2 a e e' h=>?_,fun j k c1 c2 v1 v2 a e1 e2 e3 e4 h1 h2=>?_,by rw [YaN];exact F.len⟩
 . rcases zM e with ⟨rfl,q,_⟩|⟨n,q⟩
   . cases q
     exact⟨v,hv,w⟩
   . obtain⟨v',h1,h2⟩:=F.slot j c2 q
     refine⟨v',h1,h2.turn (Same.refl _) (fun a C e=>?_) fun a h=>⟨?_,rfl⟩⟩
     . rw [zg (fun z=>by subst z;rw [hu] at e;exact hux _ (Wbe e))];exact e
     . rw [zg (fun z=>by subst z;exact n (F.apart i j c c2 v v' a hi q hv h1 hl h))]
 . rcases zM e with ⟨rfl,q,_⟩|⟨n,q⟩
   . cases q
     rw [hv] at e';cases e';exact F.mine i c v a hi hv (hc a h)
   . exact F.mine j c2 v2 a q e' h
 . rcases zM e1 with ⟨rfl,q,_⟩|⟨n,q⟩
   . rcases zM e2 with ⟨rfl,q',_⟩|⟨n',q'⟩
     . rfl
     . cases q
       rw [hv] at e3;cases e3;exact F.apart i k c c2 v v2 a hi q' hv e4 (hc a h1) h2
   . rcases zM e2 with ⟨rfl,q',_⟩|⟨n',q'⟩
     . cases q'
       rw [hv] at e4;cases e4;exact F.apart j i c1 c v1 v a q hi e3 hv h1 (hc a h2)
     . exact F.apart j k c1 c2 v1 v2 a q q' e3 e4 h1 h2
theorem Fr3.change(F:Fr3 K H0 G0 ρ σ G H){i:Nat}{l:Addr}{vs:List V}{f f':Bool}{ds es:List D}(hi:ρ[i]?=some (some (.ow f ds)))(hl:σ[i]?=some (some (.ref l)))(r:Rfs K H0 G f' vs es):Fr3 K H0 G0 (ρ.set i (some (.ow f' es))) σ G (upd H l (.lst vs)):=
 F.chg hi hl rfl (fun _ h=>h) (.ow zo r ((F.vw hi hl).has rfl).2)
theorem Fr3.still(F:Fr3 K H0 G0 ρ σ G H){i:Nat}{c:Cl}{v:V}{f:Bool}{d:D}(hi:ρ[i]?=some (some c))(hv:σ[i]?=some (some v))(r:∀ G',Same G G'->(∀ a,Has c v a->G' a=H a/\H0 a=none)->Rf K H0 G' f v d):∃ G',Same G G'/\Fr3 K H0 G0 (ρ.set i (some (.sh f d))) σ G' H:=by
 have hd:∀ b,Decidable (Has c v b):=fun b=>Classical.propDecidable _
 have w:=F.vw hi hv;have e1:∀ b,Has c v b->(fun b=>if Has c v b then H b else G b) b=H b:=fun b h=>if_pos h
 have e2:∀ b,¬Has c v b->(fun b=>if Has c v b then H b else G b) b=G b:=fun b h=>if_neg h
 generalize (fun b=>if Has c v b then H b else G b)=G' at e1 e2
 have gg:Same G G':=fun b o e=>by
  rw [e2 b (fun h=>by rw [(w.has h).2] at e;cases e)];exact e
 refine⟨G',gg,F.keep,⟨fun b o e=>?_,fun b f e=>?_⟩,fun b o e=>?_,F.g0.trans gg,fun j c2 e=>?_,fun j c2 v2 a e e' h=>?_,fun j k c1 c2 v1 v2 a q1 q2 q3 q4 h1 h2=>?_,by rw [YaN];exact F.len⟩
 . by_cases h:Has c v b
   . rw [e1 b h] at e;exact e
   . rw [e2 b h] at e;exact F.sub.s b o e
 . by_cases h:Has c v b
   . rw [e1 b h] at e
     obtain⟨⟨u,hu,hn⟩,_⟩:=w.has h;rw [hu] at e;exact hn f (Wbe e)
   . rw [e2 b h] at e;exact F.sub.cl b f e
 . by_cases h:Has c v b
   . exact .inr (F.mine i c v b hi hv h)
   . rw [e2 b h] at e;exact F.old b o e
 . rcases zM e with ⟨rfl,q,_⟩|⟨n,q⟩
   . cases q
     exact⟨v,hv,.sh (r G' gg fun a h=>⟨e1 a h,F.mine i c v a hi hv h⟩)⟩
   . obtain⟨v',h1,h2⟩:=F.slot j c2 q
     exact⟨v',h1,h2.turn gg (fun _ _ e=>e) fun a h=>⟨rfl,e2 a fun h'=>n (F.apart i j c c2 v v' a hi q hv h1 h' h)⟩⟩
 . rcases zM e with ⟨rfl,q,_⟩|⟨n,q⟩
   . cases q;exact False.elim h
   . exact F.mine j c2 v2 a q e' h
 . rcases zM q1 with ⟨rfl,q,_⟩|⟨n,q⟩
   . cases q;exact False.elim h1
   . rcases zM q2 with ⟨rfl,q',_⟩|⟨n',q'⟩
     . cases q';exact False.elim h2
     . exact F.apart j k c1 c2 v1 v2 a q q' q3 q4 h1 h2
theorem Fr3.freeze(F:Fr3 K H0 G0 ρ σ G H){i:Nat}{f:Bool}{ds:List D}(hi:ρ[i]?=some (some (.ow f ds))):∃ G',Same G G'/\Fr3 K H0 G0 (ρ.set i (some (.sh f (.list ds)))) σ G' H:=by
 obtain⟨v,hv,w⟩:=F.slot i _ hi;refine F.still hi hv fun G' gg q=>?_
 cases w with
 | ow h r n=>
  obtain⟨q1,q2⟩:=q _ rfl;rw [h] at q1;exact⟨.lst (SqL.of q1) (rdvs_same gg r.rd),fun hf=>.lst q1 q2 (rdns_mono gg (fun _ _ _ z=>z) (r.nw hf))⟩
theorem zlS{ps:List Addr}{ms:List (List D)}(hl:ps.length=ms.length)(h:∀ (k:Nat) (p:Addr) (m:List D),ps[k]?=some p->ms[k]?=some m->RdN K H0 G (.ref p) (.list m)):RdNs K H0 G (ps.map V.ref) (ms.map PyData.list):=by
 induction ps generalizing ms with
 | nil => cases ms with
  | nil=>exact .nil
  | cons m ms=>cases hl
 | cons p ps ih => cases ms with
  | nil=>cases hl
  | cons m ms=>exact .cons (h 0 p m rfl rfl) (ih (Nat.succ.inj hl) fun k q n h1 h2=>h (k+1) q n (by simpa using h1) (by simpa using h2))
theorem Fr3.freezeT(F:Fr3 K H0 G0 ρ σ G H){i:Nat}{ps:List Addr}{ms:List (List D)}(hi:ρ[i]?=some (some (.tr ps ms))):∃ G',Same G G'/\Fr3 K H0 G0 (ρ.set i (some (.sh true (.list (ms.map PyData.list))))) σ G' H:=by
 obtain⟨v,hv,w⟩:=F.slot i _ hi;refine F.still hi hv fun G' gg q=>?_
 cases w with
 | tr t=>
  obtain⟨q1,q2⟩:=q _ (.inl rfl);have n:RdN K H0 G' (.ref _) (.list (ms.map PyData.list)):=.lst (q1.trans t.top) q2 (zlS t.len fun k p m h1 h2=>by
   obtain⟨vs,a,b,c⟩:=t.item k p m h1 h2;obtain⟨q3,q4⟩:=q p (.inr (Yah h1));exact .lst (q3.trans a) q4 (rdns_mono gg (fun _ _ _ z=>z) (c.nw rfl)))
  exact⟨ZE n,fun _=>n⟩
theorem Fr3.rebase(F:Fr3 K H0 G0 ρ σ G H):Fr3 K H0 G ρ σ G H:=⟨F.keep,F.sub,fun _ _ e=>.inl e,Same.refl _,F.slot,F.mine,F.apart,F.len⟩
theorem Fr3.back{ρ1:Env3}{σ1:L2.St}{G1 H1:Hp}(F:Fr3 K H0 G1 ρ σ G H)(B:Fr3 K H0 G0 ρ1 σ1 G1 H1):Fr3 K H0 G0 ρ σ G H:=
 ⟨F.keep,F.sub,fun b o e=>(F.old b o e).elim (fun q=>B.old b o q) .inr,B.g0.trans F.g0,F.slot,F.mine,F.apart,F.len⟩
theorem Fr3.gr0(F:Fr3 K H0 G0 ρ σ G H):Gr G0 H0 G H:=⟨F.g0,F.keep,F.sub,F.old⟩
theorem Gr.back{ρ1:Env3}{σ1:L2.St}{G1 H1:Hp}(g:Gr G1 H0 G H)(B:Fr3 K H0 G0 ρ1 σ1 G1 H1):Gr G0 H0 G H:=
 ⟨B.g0.trans g.g,g.h,g.sub,fun b o e=>(g.new b o e).elim (fun q=>B.old b o q) .inr⟩
end
variable[LamW]
theorem el5{α β γ : Type}{P R:α->β->γ->Prop}{C:Prop}(f:∀ a b c,P a b c->R a b c->C)(h:∃ a b c,P a b c/\R a b c):C:=by
 obtain⟨a,b,c,x,y⟩:=h;exact f a b c x y
theorem el7{α β γ δ : Type}{P R S:α->β->γ->δ->Prop}{C:Prop}(f:∀ a b c d,P a b c d->R a b c d->S a b c d->C)(h:∃ a b c d,P a b c d/\R a b c d/\S a b c d):C:=by
 obtain⟨a,b,c,d,x,y,z⟩:=h;exact f a b c d x y z
theorem el2{α β : Type}{P R S:α->β->Prop}{C:Prop}(f:∀ a b,P a b->R a b->S a b->C)(h:∃ a b,P a b/\R a b/\S a b):C:=by
 obtain⟨a,b,x,y,z⟩:=h;exact f a b x y z
theorem el3{α β γ : Type}{P R S T:α->β->γ->Prop}{C:Prop}(f:∀ a b c,P a b c->R a b c->S a b c->T a b c->C)(h:∃ a b c,P a b c/\R a b c/\S a b c/\T a b c):C:=by
 obtain⟨a,b,c,x,y,z,w⟩:=h;exact f a b c x y z w
abbrev TE3:=Env3->(Cl->Prop)->Prop
abbrev TT3:=Env3->(Bool->Prop)->Prop
abbrev TA3:=Env3->(List Cl->Prop)->Prop
abbrev TN3:=Env3->(Bool->List D->Prop)->Prop
structure Ends3 where
 nx:Env3->Prop
 rt:Bool->D->Prop
 bk:Env3->Prop:=fun _=>False
 ct:Env3->Prop:=fun _=>False
abbrev TS3:=Ends3->Env3->Prop
def je(K:Ybf)(H0:Hp)(t:TE3):TE:=fun σ H Q=>∃ G0 ρ G,Fr3 K H0 G0 ρ σ G H/\t ρ fun c=>∀ v G' H',Gr G H G' H'->Vw K H0 G' H' v c->Q v H'
def zev(K:Ybf)(H0:Hp)(t:TN3):TE:=fun σ H Q=>∃ G0 ρ G,Fr3 K H0 G0 ρ σ G H/\t ρ fun f ds=>∀ l vs G' H',Gr G H G' H'->H' l=none->Rfs K H0 G' f vs ds->Q (.ref l) (upd H' l (.lst vs))
def j4(K:Ybf)(H0:Hp)(t:TT3):TT:=fun σ H Q=>∃ G0 ρ G,Fr3 K H0 G0 ρ σ G H/\t ρ fun b=>∀ G' H',Gr G H G' H'->Q b H'
def zlr(K:Ybf)(H0:Hp)(t:TA3):TA:=fun σ H Q=>∃ G0 ρ G,Fr3 K H0 G0 ρ σ G H/\t ρ fun cs=>∀ vs G' H',Gr G H G' H'->Vws K H0 G' H' vs cs->Q vs H'
structure LD(K:Ybf)(H0 G0:Hp)(A:Ends3)(B:Ends):Prop where
 nx:∀ ρ σ G H,Fr3 K H0 G0 ρ σ G H->A.nx ρ->B.nx σ H
 rt:∀ f d v G H,Gr G0 H0 G H->Rf K H0 G f v d->A.rt f d->B.rt v H
 bk:∀ ρ σ G H,Fr3 K H0 G0 ρ σ G H->A.bk ρ->B.bk σ H
 ct:∀ ρ σ G H,Fr3 K H0 G0 ρ σ G H->A.ct ρ->B.ct σ H
def zfR(K:Ybf)(H0:Hp)(t:TS3):TS:=fun B σ H=>∃ G0 A ρ G,Fr3 K H0 G0 ρ σ G H/\t A ρ/\LD K H0 G0 A B
structure PE3(X:Cx)(H0:Hp)(e:Expr)(t:TE3):Prop where
 mono:∀ ρ (Q Q':Cl->Prop),(∀ c,Q c->Q' c)->t ρ Q->t ρ Q'
 ok:PE X e (je X.K H0 t)
structure PN3(X:Cx)(H0:Hp)(e:Expr)(t:TN3):Prop where
 mono:∀ ρ (Q Q':Bool->List D->Prop),(∀ f c,Q f c->Q' f c)->t ρ Q->t ρ Q'
 ok:PE X e (zev X.K H0 t)
structure PT3(X:Cx)(H0:Hp)(e:Expr)(t:TT3):Prop where
 mono:∀ ρ (Q Q':Bool->Prop),(∀ c,Q c->Q' c)->t ρ Q->t ρ Q'
 ok:PT X e (j4 X.K H0 t)
structure PW3(X:Cx)(H0:Hp)(e:Expr)(t:TT3):Prop where
 mono:∀ ρ (Q Q':Bool->Prop),(∀ c,Q c->Q' c)->t ρ Q->t ρ Q'
 ok:PW X e (j4 X.K H0 t)
structure PA3(X:Cx)(H0:Hp)(es:List Expr)(t:TA3):Prop where
 mono:∀ ρ (Q Q':List Cl->Prop),(∀ c,Q c->Q' c)->t ρ Q->t ρ Q'
 ok:PA X es (zlr X.K H0 t)
def PS3(X:Cx)(H0:Hp)(st:Stmt)(t:TS3):Prop:=PS X st (zfR X.K H0 t)
def PSs3(X:Cx)(H0:Hp)(st:List Stmt)(t:TS3):Prop:=PSs X st (zfR X.K H0 t)
theorem PE.imp{X:Cx}{e:Expr}{t t':TE}(h:PE X e t)(i:∀ σ H Q,t' σ H Q->t σ H Q):PE X e t':=fun pins s σ H Q I q=>h pins s σ H Q I (i _ _ _ q)
theorem PT.imp{X:Cx}{e:Expr}{t t':TT}(h:PT X e t)(i:∀ σ H Q,t' σ H Q->t σ H Q):PT X e t':=fun pins s σ H Q I q=>h pins s σ H Q I (i _ _ _ q)
theorem PW.imp{X:Cx}{e:Expr}{t t':TT}(h:PW X e t)(i:∀ σ H Q,t' σ H Q->t σ H Q):PW X e t':=fun wh pins s σ H Q I q=>h wh pins s σ H Q I (i _ _ _ q)
theorem PA.imp{X:Cx}{e:List Expr}{t t':TA}(h:PA X e t)(i:∀ σ H Q,t' σ H Q->t σ H Q):PA X e t':=fun pos pins s σ H Q I q=>h pos pins s σ H Q I (i _ _ _ q)
theorem PS.imp{X:Cx}{e:Stmt}{t t':TS}(h:PS X e t)(i:∀ B σ H,t' B σ H->t B σ H):PS X e t':=fun pins s σ H B I q=>h pins s σ H B I (i _ _ _ q)
theorem PSs.imp{X:Cx}{e:List Stmt}{t t':TS}(h:PSs X e t)(i:∀ B σ H,t' B σ H->t B σ H):PSs X e t':=fun pins s σ H B I q=>h pins s σ H B I (i _ _ _ q)
section
variable{X:Cx}{H0:Hp}{e a b c:Expr}{pos:Pos}
def atV(o:Option (Option Cl))(P:Cl->Prop):Prop:=match o with
 | some (some c)=>P c
 | _=>False
theorem zby{o:Option (Option Cl)}{P:Cl->Prop}(h:atV o P):∃ c,o=some (some c)/\P c:=by
 cases o with
 | none=>exact False.elim h
 | some x => cases x with
  | none=>exact False.elim h
  | some c=>exact⟨c,rfl,h⟩
def asS(c:Cl)(P:Bool->D->Prop):Prop:=match c with
 | .sh f d=>P f d
 | _=>False
theorem jf{c:Cl}{P:Bool->D->Prop}(h:asS c P):∃ f d,c=.sh f d/\P f d:=by
 cases c with
 | sh f d=>exact⟨f,d,rfl,h⟩
 | _=>exact False.elim h
def asD(d:D)(P:Bool->Prop):Prop:=match d with
 | .bool k=>P k
 | _=>False
def asB(c:Cl)(P:Bool->Prop):Prop:=match c with
 | .sh true d=>asD d P
 | _=>False
theorem zeb{c:Cl}{P:Bool->Prop}(h:asB c P):∃ k,c=.sh true (.bool k)/\P k:=by
 cases c with
 | sh f d => cases f with
  | true => cases d with
   | bool k=>exact⟨k,rfl,h⟩
   | _=>exact False.elim h
  | false=>exact False.elim h
 | _=>exact False.elim h
def optP{α : Type}(o:Option α)(P:α->Prop):Prop:=match o with
 | some a=>P a
 | none=>False
theorem zbF{α : Type}{o:Option α}{P:α->Prop}(h:optP o P):∃ a,o=some a/\P a:=by
 cases o with
 | none=>exact False.elim h
 | some a=>exact⟨a,rfl,h⟩
def asT(d:D)(P:List D->Prop):Prop:=match d with
 | .tuple ds=>P ds
 | _=>False
theorem j8{d:D}{P:List D->Prop}(h:asT d P):∃ ds,d=.tuple ds/\P ds:=by
 cases d with
 | tuple ds=>exact⟨ds,rfl,h⟩
 | _=>exact False.elim h
def asLd(d:D)(P:List D->Prop):Prop:=match d with
 | .list ds=>P ds
 | _=>False
def asL(c:Cl)(P:Bool->List D->Prop):Prop:=match c with
 | .sh f d=>asLd d (P f)
 | _=>False
theorem zcs{c:Cl}{P:Bool->List D->Prop}(h:asL c P):∃ f ds,c=.sh f (.list ds)/\P f ds:=by
 cases c with
 | sh f d => cases d with
  | list ds=>exact⟨f,ds,rfl,h⟩
  | _=>exact False.elim h
 | _=>exact False.elim h
def atO(o:Option (Option Cl))(P:Bool->List D->Prop):Prop:=match o with
 | some (some (.ow f ds))=>P f ds
 | _=>False
theorem ze6{o:Option (Option Cl)}{P:Bool->List D->Prop}(h:atO o P):∃ f ds,o=some (some (.ow f ds))/\P f ds:=by
 cases o with
 | none=>exact False.elim h
 | some x => cases x with
  | none=>exact False.elim h
  | some c => cases c with
   | ow f ds=>exact⟨f,ds,rfl,h⟩
   | _=>exact False.elim h
def Jg{α : Type}(l:List α)(P:α->List α->Prop):Prop:=match l with
 | d::r=>P d r
 | []=>False
theorem zbx{α : Type}{l:List α}{P:α->List α->Prop}(h:Jg l P):∃ d r,l=d::r/\P d r:=by
 cases l with
 | nil=>exact False.elim h
 | cons d r=>exact⟨d,r,rfl,h⟩
def nilP{α : Type}(l:List α)(P:Prop):Prop:=match l with
 | []=>P
 | _::_=>False
theorem zc2{α : Type}{l:List α}{P:Prop}(h:nilP l P):l=[]/\P:=by
 cases l with
 | nil=>exact⟨rfl,h⟩
 | cons d r=>exact False.elim h
def asId(d:D)(P:Int->Prop):Prop:=match d with
 | .int i=>P i
 | _=>False
def asI(c:Cl)(P:Int->Prop):Prop:=match c with
 | .sh true d=>asId d P
 | _=>False
theorem za1{c:Cl}{P:Int->Prop}(h:asI c P):∃ k,c=.sh true (.int k)/\P k:=by
 cases c with
 | sh f d => cases f with
  | true => cases d with
   | int k=>exact⟨k,rfl,h⟩
   | _=>exact False.elim h
  | false=>exact False.elim h
 | _=>exact False.elim h
def v3(i:Nat):TE3:=fun ρ Q=>atV ρ[i]? Q
def k3(d:D):TE3:=fun _ Q=>Q (.sh true d)
theorem n3(i:Nat){x:Str}(hN:X.N[i]?=some x:=by rfl)(hv:Vis X.env.scope x:=by first|exact Or.inl rfl|exact Or.inr (Or.inl rfl)|exact Or.inr (Or.inr rfl))(hd:(x==("__debug__" : Str))=false:=by decide)(hcd:(x==("__classdict__" : Str))=false:=by decide) :
 PE3 X H0 (.Name x pos) (v3 i):=by
 refine⟨fun ρ Q Q' h q=>?_,PE.imp (jJ hN hv hd hcd) fun σ H Q=>el5 fun G0 ρ G F q=>?_⟩
 . obtain⟨c,e,q⟩:=zby q
   show atV ρ[i]? Q'
   rw [e];exact h c q
 obtain⟨c,e,q⟩:=zby q;obtain⟨v,h1,h2⟩:=F.slot i c e;exact⟨v,h1,q v G H (Gr.refl F.sub) h2⟩
theorem zam{v:V}{d:D}(h:PE X e (tC v))(r:∀ G,RdV X.K G v d)(hs:zt d=true):PE3 X H0 e (k3 d):=
 ⟨fun ρ Q Q' h q=>h _ q,PE.imp h fun σ H Q=>el5 fun G0 ρ G F q=>q v G H (Gr.refl F.sub) (.sh (.sc hs (r G)))⟩
theorem i3{i j pos}:PE3 X H0 (.Constant (.int i) j pos) (k3 (.int i)):=zam zb6 (fun _=>.int i) rfl
theorem b3{i j pos}:PE3 X H0 (.Constant (.bool i) j pos) (k3 (.bool i)):=zam zei (fun _=>.bl i) rfl
theorem non3{j pos}:PE3 X H0 (.Constant .none j pos) (k3 .none):=zam zj6 (fun _=>.non) rfl
theorem s3{i j pos}:PE3 X H0 (.Constant (.str i) j pos) (k3 (.str i)):=zam zgN (fun _=>.str i) rfl
theorem g3{x:Str}{v:V}{u:Value}{d:D}(hg:Gl X x)(hm:X.mg x=some u)(r:RelV v u)(rd:∀ G,RdV X.K G v d)(hs:zt d=true)(hd:(x==("__debug__" : Str))=false:=by decide):PE3 X H0 (.Name x pos) (k3 d):=zam (zmg hg hm r hd) rd hs
def nw3(t:TN3):TE3:=fun ρ Q=>t ρ fun f ds=>Q (.sh f (.list ds))
theorem new3{t:TN3}(h:PN3 X H0 e t):PE3 X H0 e (nw3 t):=
 ⟨fun ρ Q Q' hq q=>h.mono ρ _ _ (fun f ds=>hq _) q,PE.imp h.ok fun σ H Q=>el5 fun G0 ρ G F q=>⟨G0,ρ,G,F,h.mono ρ _ _ (fun f ds k l vs G' H' g hl r=>
  k (.ref l) (upd G' l (.lst vs)) (upd H' l (.lst vs)) (g.trans (Gr.put g.sub hl)) (.sh ⟨.lst (SqL.of zo) (rdvs_same (zO (g.sub.free hl) _) r.rd),fun hf=>.lst zo ((F.keep.trans g.h).free hl) (rdns_mono (zO (g.sub.free hl) _) (fun _ _ _ z=>z) (r.nw hf))⟩)) q⟩⟩
abbrev R3:=Cl->Cl->(Bool->D->Prop)->Prop
def zaG(K:Ybf)(H0:Hp)(r:R3):R2:=fun x y H Q=>∃ G a b,Sub G H/\Vw K H0 G H x a/\Vw K H0 G H y b/\r a b fun f d=>∀ v G' H',Gr G H G' H'->Rf K H0 G' f v d->Q v H'
structure OpOk(X:Cx)(f:Value->Value->Sem Value)(r:R3):Prop where
 mono:∀ a b (Q Q':Bool->D->Prop),(∀ f c,Q f c->Q' f c)->r a b Q->r a b Q'
 ok:∀ H0,OpR X f (zaG X.K H0 r)
theorem OpR.imp{f:Value->Value->Sem Value}{r r':R2}(h:OpR X f r)(i:∀ x y H Q,r' x y H Q->r x y H Q):OpR X f r':=fun pins s σ H x y v u Q I rx ry q=>h pins s σ H x y v u Q I rx ry (i _ _ _ _ q)
def o3(r:R3)(ta tb:TE3):TE3:=fun ρ Q=>ta ρ fun a=>tb ρ fun b=>r a b fun f d=>Q (.sh f d)
theorem zaL{r:R3}{ta tb:TE3}(hr:∀ a b (Q Q':Bool->D->Prop),(∀ f c,Q f c->Q' f c)->r a b Q->r a b Q')(ha:∀ ρ (Q Q':Cl->Prop),(∀ c,Q c->Q' c)->ta ρ Q->ta ρ Q')(hb:∀ ρ (Q Q':Cl->Prop),(∀ c,Q c->Q' c)->tb ρ Q->tb ρ Q') :
 ∀ ρ (Q Q':Cl->Prop),(∀ c,Q c->Q' c)->o3 r ta tb ρ Q->o3 r ta tb ρ Q':=fun ρ Q Q' h q=>ha ρ _ _ (fun a=>hb ρ _ _ fun b=>hr a b _ _ fun f d=>h _) q
theorem za7{r:R3}{ta tb:TE3}(hr:∀ a b (Q Q':Bool->D->Prop),(∀ f c,Q f c->Q' f c)->r a b Q->r a b Q')(ha:∀ ρ (Q Q':Cl->Prop),(∀ c,Q c->Q' c)->ta ρ Q->ta ρ Q')(hb:∀ ρ (Q Q':Cl->Prop),(∀ c,Q c->Q' c)->tb ρ Q->tb ρ Q'){K:Ybf} :
 ∀ σ H Q,je K H0 (o3 r ta tb) σ H Q->tOp (zaG K H0 r) (je K H0 ta) (je K H0 tb) σ H Q:=fun σ H Q=>el5 fun G0 ρ G F q=>
 ⟨G0,ρ,G,F,ha ρ _ _ (fun a qa v1 G1 H1 g1 w1=>⟨G0,ρ,G1,F.gr g1,hb ρ _ _ (fun b qb v2 G2 H2 g2 w2=>⟨G2,a,b,g2.sub,w1.gr g2,w2,hr a b _ _ (fun f d k v G' H' g r=>k v G' H' ((g1.trans g2).trans g) (.sh r)) qb⟩) qa⟩) q⟩
theorem op3{op:Operator}{r:R3}{ta tb:TE3}(ho:OpOk X (binaryOp op) r)(ha:PE3 X H0 a ta)(hb:PE3 X H0 b tb):PE3 X H0 (.BinOp a op b pos) (o3 r ta tb):=
 ⟨zaL ho.mono ha.mono hb.mono,PE.imp (zcw (ho.ok H0) ha.ok hb.ok) (za7 ho.mono ha.mono hb.mono)⟩
theorem cmp3{op:CmpOp}{r:R3}{ta tb:TE3}(ho:OpOk X (compareOp op) r)(ha:PE3 X H0 a ta)(hb:PE3 X H0 b tb)(hm:behindInMarks op b=false):PE3 X H0 (.Compare a [op] [b] pos) (o3 r ta tb):=
 ⟨zaL ho.mono ha.mono hb.mono,PE.imp (zhb (ho.ok H0) ha.ok hb.ok hm) (za7 ho.mono ha.mono hb.mono)⟩
def tt3(t:TE3):TT3:=fun ρ Q=>t ρ fun c=>asB c Q
theorem zb3{K:Ybf}{H0 G H:Hp}{v:V}{f k:Bool}(w:Vw K H0 G H v (.sh f (.bool k))):v=.bl k:=by
 cases w with
 | sh r=>cases r.rd;rfl
theorem zcd{t:TE3}{K:Ybf}(ht:∀ ρ (Q Q':Cl->Prop),(∀ c,Q c->Q' c)->t ρ Q->t ρ Q'):∀ σ H Q,j4 K H0 (tt3 t) σ H Q->zaO (je K H0 t) σ H Q:=fun σ H Q=>el5 fun G0 ρ G F q=>
 ⟨G0,ρ,G,F,ht ρ _ _ (fun c q v G' H' g w=>by obtain⟨k,e,q⟩:=zeb q;subst e;exact⟨k,zb3 w,q G' H' g⟩) q⟩
theorem zcr{t:TE3}(ht:∀ ρ (Q Q':Cl->Prop),(∀ c,Q c->Q' c)->t ρ Q->t ρ Q'):∀ ρ (Q Q':Bool->Prop),(∀ c,Q c->Q' c)->tt3 t ρ Q->tt3 t ρ Q':=fun ρ Q Q' h q=>ht ρ _ _ (fun c q=>by obtain⟨k,e,q⟩:=zeb q;subst e;exact h k q) q
theorem zdK{t t':TE}(h:∀ σ H Q,t' σ H Q->t σ H Q):∀ σ H Q,zaO t' σ H Q->zaO t σ H Q:=fun σ H Q q=>h _ _ _ q
theorem zq{op:CmpOp}{r:R3}{ta tb:TE3}(ho:OpOk X (compareOp op) r)(ha:PE3 X H0 a ta)(hb:PE3 X H0 b tb)(hm:behindInMarks op b=false):PT3 X H0 (.Compare a [op] [b] pos) (tt3 (o3 r ta tb)):=
 ⟨zcr (zaL ho.mono ha.mono hb.mono),PT.imp (zh7 (ho.ok H0) ha.ok hb.ok hm) fun σ H Q q=>zdK (za7 ho.mono ha.mono hb.mono) σ H Q (zcd (zaL ho.mono ha.mono hb.mono) σ H Q q)⟩
def ch3(r r':R3)(ta tb tc:TE3):TE3:=fun ρ Q=>ta ρ fun x=>tb ρ fun y=>r x y fun _ z=>∃ k,z=.bool k/\if k=true then tc ρ fun w=>r' y w fun f d=>Q (.sh f d) else Q (.sh true (.bool false))
theorem zd0{K:Ybf}{G:Hp}{v:V}{k:Bool}(w:RdV K G v (.bool k)):v=.bl k:=by cases w;rfl
theorem zfL{r r':R3}{ta tb tc:TE3}(hr:∀ a b (Q Q':Bool->D->Prop),(∀ f c,Q f c->Q' f c)->r a b Q->r a b Q')(hr':∀ a b (Q Q':Bool->D->Prop),(∀ f c,Q f c->Q' f c)->r' a b Q->r' a b Q')(ha:∀ ρ (Q Q':Cl->Prop),(∀ c,Q c->Q' c)->ta ρ Q->ta ρ Q')(hb:∀ ρ (Q Q':Cl->Prop),(∀ c,Q c->Q' c)->tb ρ Q->tb ρ Q')
 (hc:∀ ρ (Q Q':Cl->Prop),(∀ c,Q c->Q' c)->tc ρ Q->tc ρ Q'):∀ ρ (Q Q':Cl->Prop),(∀ c,Q c->Q' c)->ch3 r r' ta tb tc ρ Q->ch3 r r' ta tb tc ρ Q':=fun ρ Q Q' h q=>ha ρ _ _ (fun x=>hb ρ _ _ fun y=>hr x y _ _ fun _ z ⟨k,e,q⟩=>⟨k,e,by
 cases k with
 | true=>exact hc ρ _ _ (fun w=>hr' y w _ _ fun f d=>h _) q
 | false=>exact h _ q⟩) q
theorem zlX{r r':R3}{ta tb tc:TE3}(hr:∀ a b (Q Q':Bool->D->Prop),(∀ f c,Q f c->Q' f c)->r a b Q->r a b Q')(hr':∀ a b (Q Q':Bool->D->Prop),(∀ f c,Q f c->Q' f c)->r' a b Q->r' a b Q')(ha:∀ ρ (Q Q':Cl->Prop),(∀ c,Q c->Q' c)->ta ρ Q->ta ρ Q')(hb:∀ ρ (Q Q':Cl->Prop),(∀ c,Q c->Q' c)->tb ρ Q->tb ρ Q')
 (hc:∀ ρ (Q Q':Cl->Prop),(∀ c,Q c->Q' c)->tc ρ Q->tc ρ Q') {K:Ybf}:∀ σ H Q,je K H0 (ch3 r r' ta tb tc) σ H Q->zfq (zaG K H0 r) (zaG K H0 r') (je K H0 ta) (je K H0 tb) (je K H0 tc) σ H Q:=fun σ H Q=>el5 fun G0 ρ G F q=>
 ⟨G0,ρ,G,F,ha ρ _ _ (fun x qx v1 G1 H1 g1 w1=>⟨G0,ρ,G1,F.gr g1,hb ρ _ _ (fun y qy v2 G2 H2 g2 w2=>⟨G2,x,y,g2.sub,w1.gr g2,w2,hr x y _ _ (fun _ z hyp v3 G3 H3 g3 r3=>by
  obtain⟨k,e,q⟩:=hyp;subst e;refine⟨k,zd0 r3.rd,?_⟩;cases k with
  | false=>exact q _ G3 H3 ((g1.trans g2).trans g3) (.sh (.sc rfl (.bl false)))
  | true=>exact⟨G0,ρ,G3,F.gr ((g1.trans g2).trans g3),hc ρ _ _ (fun w qw v4 G4 H4 g4 w4=>⟨G4,y,w,g4.sub,(w2.gr g3).gr g4,w4,hr' y w _ _ (fun f d k v G' H' g r=>k v G' H' ((((g1.trans g2).trans g3).trans g4).trans g) (.sh r)) qw⟩) q⟩) qy⟩) qx⟩) q⟩
theorem zbX{op op':CmpOp}{r r':R3}{ta tb tc:TE3}(ho:OpOk X (compareOp op) r)(ho':OpOk X (compareOp op') r')(ha:PE3 X H0 a ta)(hb:PE3 X H0 b tb)(hc:PE3 X H0 c tc)(hm:lastMarks [op,op'] [b,c]=false:=by with_unfolding_all rfl) :
 PT3 X H0 (.Compare a [op,op'] [b,c] pos) (tt3 (ch3 r r' ta tb tc)):=
 ⟨zcr (zfL ho.mono ho'.mono ha.mono hb.mono hc.mono),PT.imp (zjM (ho.ok H0) (ho'.ok H0) ha.ok hb.ok hc.ok hm) fun σ H Q q=>zdK (zlX ho.mono ho'.mono ha.mono hb.mono hc.mono) σ H Q (zcd (zfL ho.mono ho'.mono ha.mono hb.mono hc.mono) σ H Q q)⟩
abbrev U3:=Cl->(Bool->D->Prop)->Prop
def zlw(K:Ybf)(H0:Hp)(r:U3):V->Hp->VK->Prop:=fun x H Q=>∃ G a,Sub G H/\Vw K H0 G H x a/\r a fun f d=>∀ v G' H',Gr G H G' H'->Rf K H0 G' f v d->Q v H'
structure UnOk(X:Cx)(f:Value->Sem Value)(r:U3):Prop where
 mono:∀ a (Q Q':Bool->D->Prop),(∀ f c,Q f c->Q' f c)->r a Q->r a Q'
 ok:∀ H0,UnR X f (zlw X.K H0 r)
def u3(r:U3)(ta:TE3):TE3:=fun ρ Q=>ta ρ fun a=>r a fun f d=>Q (.sh f d)
theorem un3{op:UnaryOp}{r:U3}{ta:TE3}(ho:UnOk X (unaryOp op) r)(ha:PE3 X H0 a ta):PE3 X H0 (.UnaryOp op a pos) (u3 r ta):=
 ⟨fun ρ Q Q' h q=>ha.mono ρ _ _ (fun a=>ho.mono a _ _ fun f d=>h _) q,PE.imp (zgL (ho.ok H0) ha.ok) fun σ H Q=>el5 fun G0 ρ G F q=>
  ⟨G0,ρ,G,F,ha.mono ρ _ _ (fun a qa v1 G1 H1 g1 w1=>⟨G1,a,g1.sub,w1,ho.mono a _ _ (fun f d k v G' H' g r=>k v G' H' (g1.trans g) (.sh r)) qa⟩) q⟩⟩
theorem val3{t:TE3}(h:PE3 X H0 e t)(he:∀ whole,isTrue e X.env whole=(do let v <-whole;standAt e.pos;holding [v] (truthy v)):=by intro _;rfl):PT3 X H0 e (tt3 t):=
 ⟨zcr h.mono,PT.imp (zls h.ok he) (zcd h.mono)⟩
def and3(t u:TT3):TT3:=fun ρ Q=>t ρ fun k=>if k=true then u ρ Q else Q false
def or3(t u:TT3):TT3:=fun ρ Q=>t ρ fun k=>if k=true then Q true else u ρ Q
def not3(t:TT3):TT3:=fun ρ Q=>t ρ fun k=>Q (!k)
theorem z5{t:TT3}(h:PT3 X H0 a t):PT3 X H0 (.UnaryOp .Not a pos) (not3 t):=
 ⟨fun ρ Q Q' hq q=>h.mono ρ _ _ (fun k=>hq _) q,PT.imp (zmK h.ok) fun σ H Q=>el5 fun G0 ρ G F q=>⟨G0,ρ,G,F,q⟩⟩
theorem zen{t:TT3}(h:PT3 X H0 a t):PW3 X H0 (.BoolOp .And [a] pos) t:=⟨h.mono,znK h.ok⟩
theorem jQ{t:TT3}(h:PT3 X H0 a t):PW3 X H0 (.BoolOp .Or [a] pos) t:=⟨h.mono,zk8 h.ok⟩
theorem zeY{rest:List Expr}{t u:TT3}(h:PT3 X H0 a t)(h':PW3 X H0 (.BoolOp .And (b::rest) pos) u):PW3 X H0 (.BoolOp .And (a::b::rest) pos) (and3 t u):=
 ⟨fun ρ Q Q' hq q=>h.mono ρ _ _ (fun k=>by cases k;exact hq _;exact h'.mono ρ _ _ hq) q,PW.imp (znj h.ok h'.ok) fun σ H Q=>el5 fun G0 ρ G F q=>⟨G0,ρ,G,F,h.mono ρ _ _ (fun k qk G1 H1 g1=>by
  cases k with
  | false=>exact qk G1 H1 g1
  | true=>exact⟨G0,ρ,G1,F.gr g1,h'.mono ρ _ _ (fun k q G2 H2 g2=>q G2 H2 (g1.trans g2)) qk⟩) q⟩⟩
theorem jm{rest:List Expr}{t u:TT3}(h:PT3 X H0 a t)(h':PW3 X H0 (.BoolOp .Or (b::rest) pos) u):PW3 X H0 (.BoolOp .Or (a::b::rest) pos) (or3 t u):=
 ⟨fun ρ Q Q' hq q=>h.mono ρ _ _ (fun k=>by cases k;exact h'.mono ρ _ _ hq;exact hq _) q,PW.imp (zhy h.ok h'.ok) fun σ H Q=>el5 fun G0 ρ G F q=>⟨G0,ρ,G,F,h.mono ρ _ _ (fun k qk G1 H1 g1=>by
  cases k with
  | true=>exact qk G1 H1 g1
  | false=>exact⟨G0,ρ,G1,F.gr g1,h'.mono ρ _ _ (fun k q G2 H2 g2=>q G2 H2 (g1.trans g2)) qk⟩) q⟩⟩
theorem pw3{t:TT3}(h:PW3 X H0 e t):PT3 X H0 e t:=⟨h.mono,h.ok.pt⟩
def zaq(ta tb:TE3):TE3:=fun ρ Q=>ta ρ fun c=>∃ k,c=.sh true (.bool k)/\if k=true then tb ρ Q else Q (.sh true (.bool false))
def zav(ta:TE3):TE3:=fun ρ Q=>ta ρ fun c=>∃ k,c=.sh true (.bool k)/\Q (.sh true (.bool (!k)))
theorem one3{op}{t:TE3}(h:PE3 X H0 a t):PE3 X H0 (.BoolOp op [a] pos) t:=⟨h.mono,znU h.ok⟩
theorem zbf{rest:List Expr}{ta tb:TE3}(h:PE3 X H0 a ta)(h':PE3 X H0 (.BoolOp .And (b::rest) pos) tb):PE3 X H0 (.BoolOp .And (a::b::rest) pos) (zaq ta tb):=
 ⟨fun ρ Q Q' hq q=>h.mono ρ _ _ (fun c ⟨k,e,q⟩=>⟨k,e,by cases k;exact hq _ q;exact h'.mono ρ _ _ hq q⟩) q,PE.imp (zgs h.ok h'.ok) fun σ H Q=>el5 fun G0 ρ G F q=>⟨G0,ρ,G,F,h.mono ρ _ _ (fun c hyp v G1 H1 g1 w=>by
  obtain⟨k,e,qk⟩:=hyp;subst e;refine⟨k,zb3 w,?_⟩;cases k with
  | false=>exact qk _ G1 H1 g1 (.sh (.sc rfl (.bl false)))
  | true=>exact⟨G0,ρ,G1,F.gr g1,h'.mono ρ _ _ (fun k q v G2 H2 g2=>q v G2 H2 (g1.trans g2)) qk⟩) q⟩⟩
theorem zdX{ta:TE3}(h:PE3 X H0 a ta):PE3 X H0 (.UnaryOp .Not a pos) (zav ta):=
 ⟨fun ρ Q Q' hq q=>h.mono ρ _ _ (fun c ⟨k,e,q⟩=>⟨k,e,hq _ q⟩) q,PE.imp (zg9 h.ok) fun σ H Q=>el5 fun G0 ρ G F q=>⟨G0,ρ,G,F,h.mono ρ _ _ (fun c hyp v G1 H1 g1 w=>by
  obtain⟨k,e,qk⟩:=hyp;subst e;exact⟨k,zb3 w,qk _ G1 H1 g1 (.sh (.sc rfl (.bl _)))⟩) q⟩⟩
def if3(t:TT3)(ta tb:TE3):TE3:=fun ρ Q=>t ρ fun k=>if k=true then ta ρ Q else tb ρ Q
theorem zhp{t:TT3}{ta tb:TE3}(h:PT3 X H0 c t)(ha:PE3 X H0 a ta)(hb:PE3 X H0 b tb):PE3 X H0 (.IfExp c a b pos) (if3 t ta tb):=
 ⟨fun ρ Q Q' hq q=>h.mono ρ _ _ (fun k=>by cases k;exact hb.mono ρ _ _ hq;exact ha.mono ρ _ _ hq) q,PE.imp (zmC h.ok ha.ok hb.ok) fun σ H Q=>el5 fun G0 ρ G F q=>⟨G0,ρ,G,F,h.mono ρ _ _ (fun k qk G1 H1 g1=>by
  cases k with
  | true=>exact⟨G0,ρ,G1,F.gr g1,ha.mono ρ _ _ (fun k q v G2 H2 g2=>q v G2 H2 (g1.trans g2)) qk⟩
  | false=>exact⟨G0,ρ,G1,F.gr g1,hb.mono ρ _ _ (fun k q v G2 H2 g2=>q v G2 H2 (g1.trans g2)) qk⟩) q⟩⟩
def nil3:TA3:=fun _ Q=>Q []
def zaU(ta:TE3)(tr:TA3):TA3:=fun ρ Q=>ta ρ fun c=>tr ρ fun cs=>Q (c::cs)
theorem zb:PA3 X H0 [] nil3:=⟨fun ρ Q Q' h q=>h _ q,PA.imp jD fun σ H Q=>el5 fun G0 ρ G F q=>q [] G H (Gr.refl F.sub) .nil⟩
theorem za{es:List Expr}{ta:TE3}{tr:TA3}(ha:PE3 X H0 e ta)(hr:PA3 X H0 es tr)(hs:starEach (e::es) X.env=(false,eval e X.env)::starEach es X.env:=by rfl):PA3 X H0 (e::es) (zaU ta tr):=
 ⟨fun ρ Q Q' h q=>ha.mono ρ _ _ (fun c=>hr.mono ρ _ _ fun cs=>h _) q,PA.imp (jv ha.ok hr.ok hs) fun σ H Q=>el5 fun G0 ρ G F q=>
  ⟨G0,ρ,G,F,ha.mono ρ _ _ (fun c qc v G1 H1 g1 w1=>⟨G0,ρ,G1,F.gr g1,hr.mono ρ _ _ (fun cs k vs G2 H2 g2 w2=>k (v::vs) G2 H2 (g1.trans g2) (.cons (w1.gr g2) w2)) qc⟩) q⟩⟩
def tup3(t:TA3):TE3:=fun ρ Q=>t ρ fun cs=>optP (shs cs) fun p=>p.2.length<=sizeLine/\Q (.sh p.1 (.tuple p.2))
theorem zT{es:List Expr}{t:TA3}{x1}(h:PA3 X H0 es t):PE3 X H0 (.Tuple es x1 pos) (tup3 t):=
 ⟨fun ρ Q Q' hq q=>h.mono ρ _ _ (fun cs q=>by obtain⟨ds,e,z,q⟩:=zbF q;rw [e];exact⟨z,hq _ q⟩) q,PE.imp (zmz h.ok) fun σ H Q=>el5 fun G0 ρ G F q=>⟨G0,ρ,G,F,h.mono ρ _ _ (fun cs hyp vs G1 H1 g1 w=>by
  obtain⟨ds,e,z,k⟩:=zbF hyp;have r:=w.shs e;refine⟨by rw [r.length];exact z,fun p hp=>k (.ref p) (upd G1 p (.tup vs)) (upd H1 p (.tup vs)) (g1.trans (Gr.put g1.sub hp)) (.sh ⟨.tup (SqT.of zo) (rdvs_same (zO (g1.sub.free hp) _) r.rd),fun hf=>.tup (SqT.of zo) (rdns_mono (zO (g1.sub.free hp) _) (fun _ _ _ z=>z) (r.nw hf))⟩)⟩) q⟩⟩
def lst3(t:TA3):TN3:=fun ρ Q=>t ρ fun cs=>optP (shs cs) fun p=>p.2.length<=sizeLine/\Q p.1 p.2
theorem jx{es:List Expr}{t:TA3}(h:PA3 X H0 es t):PN3 X H0 (.List es pos) (lst3 t):=
 ⟨fun ρ Q Q' hq q=>h.mono ρ _ _ (fun cs q=>by obtain⟨ds,e,z,q⟩:=zbF q;rw [e];exact⟨z,hq _ _ q⟩) q,PE.imp (zks h.ok) fun σ H Q=>el5 fun G0 ρ G F q=>⟨G0,ρ,G,F,h.mono ρ _ _ (fun cs hyp vs G1 H1 g1 w=>by
  obtain⟨ds,e,z,k⟩:=zbF hyp;have r:=w.shs e;exact⟨by rw [r.length];exact z,fun p hp=>k p vs G1 H1 g1 hp r⟩) q⟩⟩
abbrev C3:=List Cl->(Bool->D->Prop)->Prop
def zgE(K:Ybf)(H0:Hp)(r:C3):List V->Hp->VK->Prop:=fun xs H Q=>∃ G cs,Sub G H/\Vws K H0 G H xs cs/\r cs fun f d=>∀ v G' H',Gr G H G' H'->Rf K H0 G' f v d->Q v H'
structure CallOk(X:Cx)(f:Value)(r:C3):Prop where
 mono:∀ cs (Q Q':Bool->D->Prop),(∀ f c,Q f c->Q' f c)->r cs Q->r cs Q'
 ok:∀ H0,zI X f (zgE X.K H0 r)
theorem zI.imp{f:Value}{r r':List V->Hp->VK->Prop}(h:zI X f r)(i:∀ xs H Q,r' xs H Q->r xs H Q):zI X f r':=fun pins s σ H xs us Q I rv q=>h pins s σ H xs us Q I rv (i _ _ _ q)
def cb3(r:C3)(t:TA3):TE3:=fun ρ Q=>t ρ fun cs=>r cs fun f d=>Q (.sh f d)
variable{x:Str}{p:Pos}{es:List Expr}{id T:String}
theorem zn{r:C3}{t:TA3}(hc:CallOk X (.builtin id) r)(hg:Gl X x)(hm:X.mg x=none)(hv:bootBuiltins x=some (.builtin id))(ha:PA3 X H0 (e::es) t)(hn:x≠"__name__":=by decide)(hdb:(x==("__debug__" : Str))=false:=by decide)
 (he:starEach (e::es) X.env=(false,eval e X.env)::starEach es X.env:=by rfl) (hpl:(backTo pos (starEach es X.env)).any (·.1)=false:=by rfl):PE3 X H0 (.Call (.Name x p) (e::es) [] pos) (cb3 r t):=
 ⟨fun ρ Q Q' h q=>ha.mono ρ _ _ (fun cs=>hc.mono cs _ _ fun f d=>h _) q,PE.imp (zbP (hc.ok H0) hg hm hv ha.ok hn hdb he hpl) fun σ H Q=>el5 fun G0 ρ G F q=>⟨G0,ρ,G,F,ha.mono ρ _ _ (fun cs qc vs G1 H1 g1 w=>⟨G1,cs,g1.sub,w,hc.mono cs _ _ (fun f d k v G' H' g r=>k v G' H' (g1.trans g) (.sh r)) qc⟩) q⟩⟩
abbrev Sp3:=List D->(Bool->D->Prop)->(Addr->Prop)->Prop
def spL(K:Ybf)(sp:Sp3):Sp:=fun vs H Q E=>∃ G ds,Sub G H/\RdVs K G vs ds/\sp ds (fun f d=>∀ v G' H',Gr G H G' H'->Rf K H G' f v d->Q v H') fun C=>∀ H',zk H H'->E (.ref C) none H'
theorem zbM{K:Ybf}{G G':Hp}{v:V}{d:D}(h:zt d=true)(r:RdV K G v d):RdV K G' v d:=by
 cases r with
 | non=>exact .non
 | bl b=>exact .bl b
 | int i=>exact .int i
 | str s=>exact .str s
 | lst _ _=>cases h
 | tup _ _=>cases h
structure Df3(P:Program)(w:World)(K:Ybf)(mg:Str->Option Value)(base:Heap)(k:Nat)(x:Str)(ps:List Str)(sp:Sp3):Prop where
 mono:∀ ds (Q Q':Bool->D->Prop) (E E':Addr->Prop),(∀ f d,Q f d->Q' f d)->(∀ d,E d->E' d)->sp ds Q E->sp ds Q' E'
 ok:Df P w K mg base k x ps (spL K sp)
def ZJ(sp:Sp3)(E:Addr->Prop)(t:TA3):TE3:=fun ρ Q=>t ρ fun cs=>cs.all Cl.dat=true/\sp (cs.map Cl.d) (fun f d=>((shs cs).isSome=true\/zt d=true)/\Q (.sh f d)) E
theorem zch:∀ {cs:List Cl} {p:Bool×List D},shs cs=some p->cs.map Cl.d=p.2
 | [],_,e=>by cases e;rfl
 | .sh _ d :: r, ds, e => by
  unfold shs at e;cases q:shs r with
  | none=>rw [q] at e;cases e
  | some es=>rw [q] at e;cases e;rw [Ya1,zch q];rfl
 | .ow _ _::r,_,e=>by cases e
 | .tr _ _::r,_,e=>by cases e
 | .dt _::r,_,e=>by cases e
 | .dk _::r,_,e=>by cases e
 | .ex _::r,_,e=>by cases e
theorem df3{k:Nat}{ps:List Str}{sp:Sp3}{E:XK}{E3:Addr->Prop}{t:TA3}(hE:∀ C H',E3 C->zk H0 H'->E (.ref C) none H')(Gd:Df3 X.prog X.w X.K X.mg X.base k x ps sp)(hr:Room k X.A)(hg:Gl X x)(hx:Passes (CXR X.prog X.w) X E)(ha:PA3 X H0 (e::es) t)(hdb:(x==("__debug__" : Str))=false:=by decide)
 (he:starEach (e::es) X.env=(false,eval e X.env)::starEach es X.env:=by rfl) (hpl:(backTo pos (starEach es X.env)).any (·.1)=false:=by rfl):PE3 X H0 (.Call (.Name x p) (e::es) [] pos) (ZJ sp E3 t):=by
 refine⟨fun ρ Q Q' h q=>ha.mono ρ _ _ (fun cs ⟨hd,q⟩=>⟨hd,Gd.mono _ _ _ _ _ (fun f d ⟨a,b⟩=>⟨a,h _ b⟩) (fun _ z=>z) q⟩) q,PE.imp (zcv Gd.ok hr hg hx ha.ok hdb he hpl) fun σ H Q=>el5 fun G0 ρ G F q=>⟨G0,ρ,G,F,ha.mono ρ _ _ (fun cs ⟨hd,qc⟩ vs G1 H1 g1 w=>?_) q⟩⟩
 show spL X.K sp (vs++[]) H1 Q E
 rw [Yao];have kE:∀ C,E3 C->∀ H',zk H1 H'->E (.ref C) none H':=fun C c H' s=>hE C H' c ((F.gr g1).keep.trans s)
 cases hs:shs cs with
 | some ds=>
  refine⟨G1,cs.map Cl.d,g1.sub,by rw [zch hs];exact(w.shs hs).rd,Gd.mono _ _ _ _ _ (fun f d ⟨_,k⟩ v G' H' g r=>k v G' H' (g1.trans g) (.sh ⟨r.rd,fun hf=>jk (Same.refl _) (fun _ _ _ z=>(F.gr g1).keep.free z) (r.nw hf)⟩)) kE qc⟩
 | none=>
  refine⟨cln H1,cs.map Cl.d,zdw H1,rdvs_cln (w.rds g1.sub hd),Gd.mono _ _ _ _ _ (fun f d ⟨s,k⟩ v G' H' g r=>?_) kE qc⟩
  have sc:zt d=true:=s.resolve_left (by rw [hs];simp)
  exact k v G1 H' (g1.trans ⟨Same.refl _,g.h,g1.sub.trans g.h,fun _ _ e=>.inl e⟩) (.sh (.sc sc (zbM sc r.rd)))
end
variable[LamW]
theorem zlb{K:Ybf}{G:Hp}{vs:List V}{d:D}{ds:List D}(r:RdVs K G vs (d::ds)):∃ v us,vs=v::us/\RdV K G v d/\RdVs K G us ds:=by
 cases r with
 | cons a b=>exact⟨_,_,rfl,a,b⟩
theorem zkM{K:Ybf}{G:Hp}{v:V}{ds:List D}(r:RdV K G v (.tuple ds)):∃ a xs,v=.ref a/\SqT K G a xs/\RdVs K G xs ds:=by
 cases r with
 | tup a b=>exact⟨_,_,rfl,a,b⟩
theorem ziR{K:Ybf}{G:Hp}{v:V}{ds:List D}(r:RdV K G v (.list ds)):∃ a xs,v=.ref a/\SqL K G a xs/\RdVs K G xs ds:=by
 cases r with
 | lst a b=>exact⟨_,_,rfl,a,b⟩
theorem zj{K:Ybf}{H0 G H:Hp}{v:V}{f:Bool}{d:D}(w:Vw K H0 G H v (.sh f d)):Rf K H0 G f v d:=by
 cases w with
 | sh r=>exact r
theorem zb9{K:Ybf}{H0 G:Hp}{f:Bool}{vs:List V}{d:D}{ds:List D}(r:Rfs K H0 G f vs (d::ds)):∃ v us,vs=v::us/\Rf K H0 G f v d/\Rfs K H0 G f us ds:=by
 obtain⟨v,us,rfl,a,b⟩:=zlb r.rd;exact⟨v,us,rfl,⟨a,fun h=>by cases r.nw h with|cons x y=>exact x⟩,⟨b,fun h=>by cases r.nw h with|cons x y=>exact y⟩⟩
theorem Zj{K:Ybf}{H0 G:Hp}{f:Bool}{v:V}{ds:List D}(r:Rf K H0 G f v (.tuple ds)):∃ a xs,v=.ref a/\SqT K G a xs/\Rfs K H0 G f xs ds:=by
 cases f with
 | false=>
  obtain⟨a,xs,rfl,h,rs⟩:=zkM r.rd;exact⟨a,xs,rfl,h,rs,fun h=>by cases h⟩
 | true=>
  have n:=r.nw rfl;cases n with
  | tup h rs=>exact⟨_,_,rfl,h,rdns_rd rs,fun _=>rs⟩
theorem JO{K:Ybf}{H0 G:Hp}{f:Bool}{v:V}{ds:List D}(r:Rf K H0 G f v (.list ds)):∃ a xs,v=.ref a/\SqL K G a xs/\Rfs K H0 G f xs ds:=by
 cases f with
 | false=>
  obtain⟨a,xs,rfl,h,rs⟩:=ziR r.rd;exact⟨a,xs,rfl,h,rs,fun h=>by cases h⟩
 | true=>
  have n:=r.nw rfl;cases n with
  | lst h _ rs=>exact⟨_,_,rfl,SqL.of h,rdns_rd rs,fun _=>rs⟩
section
variable{X:Cx}{H0:Hp}{e a b c:Expr}{pos:Pos}{st:Stmt}{rest:List Stmt}
def next3:TS3:=fun A ρ=>A.nx ρ
def seq3(t u:TS3):TS3:=fun A ρ=>t { A with nx:=u A } ρ
theorem zE:PSs3 X H0 [] next3:=PSs.imp zc5 fun B σ H=>el7 fun G0 A ρ G F q L=>L.nx ρ σ G H F q
theorem zc{t u:TS3}(h1:PS3 X H0 st t)(h2:PSs3 X H0 rest u):PSs3 X H0 (st::rest) (seq3 t u):=PSs.imp (zap h1 h2) fun B σ H=>el7 fun G0 A ρ G F q L=>
 ⟨G0,{ A with nx:=u A },ρ,G,F,q,⟨fun ρ' σ' G' H' F' q'=>⟨G0,A,ρ',G',F',q',L⟩,L.rt,L.bk,L.ct⟩⟩
theorem zd{t:TS3}(h1:PS3 X H0 st t):PSs3 X H0 [st] t:=zeS h1
def zaX(te:TE3):TS3:=fun A ρ=>te ρ fun _=>A.nx ρ
theorem zcx{te:TE3}(he:PE3 X H0 e te)(hs:swapsWith e none pos.line X.env=pure false:=by rfl):PS3 X H0 (.Expr e pos) (zaX te):=PS.imp (zaA he.ok hs) fun B σ H=>el7 fun G0 A ρ G F q L=>
 ⟨G0,ρ,G,F,he.mono ρ _ _ (fun c q v G' H' g w=>L.nx ρ σ G' H' (F.gr g) q) q⟩
def ret3(te:TE3):TS3:=fun A ρ=>te ρ fun c=>asS c A.rt
theorem zi{te:TE3}(he:PE3 X H0 e te):PS3 X H0 (.Return (some e) pos) (ret3 te):=PS.imp (zlP he.ok) fun B σ H=>el7 fun G0 A ρ G F q L=>
 ⟨G0,ρ,G,F,he.mono ρ _ _ (fun c hyp v G' H' g w=>by
  obtain⟨f,d,hc,q⟩:=jf hyp;subst hc;exact L.rt f d v G' H' (F.gr g).gr0 (zj w) q) q⟩
def ifS3(t:TT3)(u v:TS3):TS3:=fun A ρ=>t ρ fun k=>if k=true then u A ρ else v A ρ
theorem s_if{xs ys:List Stmt}{t:TT3}{u v:TS3}(hc:PT3 X H0 c t)(ha:PSs3 X H0 xs u)(hb:PSs3 X H0 ys v):PS3 X H0 (.If c xs ys pos) (ifS3 t u v):=PS.imp (zfZ hc.ok ha hb) fun B σ H=>el7 fun G0 A ρ G F q L=>
 ⟨G0,ρ,G,F,hc.mono ρ _ _ (fun k q G' H' g=>by
  cases k with
  | true=>exact⟨G0,A,ρ,G',F.gr g,q,L⟩
  | false=>exact⟨G0,A,ρ,G',F.gr g,q,L⟩) q⟩
def set3(i:Nat)(te:TE3):TS3:=fun A ρ=>te ρ fun c=>asS c fun f d=>A.nx (ρ.set i (some (.sh f d)))
theorem zh{i:Nat}{x:Str}{te:TE3}{pos':Pos}(hN:X.N.Nodup)(hi:X.N[i]?=some x)(hx:Loc X.env.scope x)(he:PE3 X H0 e te)(hs:swapsWith e (some (.Name x pos')) pos.line X.env=pure false:=by rfl)
 (hf:X.fn x=true\/X.env.scope.names.lookup x=some .local:=by first|exact .inl rfl|exact .inr rfl|assumption):PS3 X H0 (.Assign [.Name x pos'] e pos) (set3 i te):=PS.imp (JH hN hi hx he.ok hs hf) fun B σ H=>el7 fun G0 A ρ G F q L=>
 ⟨G0,ρ,G,F,he.mono ρ _ _ (fun c hyp v G' H' g w=>by
  obtain⟨f,d,hc,q⟩:=jf hyp;subst hc;exact L.nx _ _ G' H' ((F.gr g).set (zj w)) q) q⟩
def own3(i:Nat)(tn:TN3):TS3:=fun A ρ=>tn ρ fun f ds=>A.nx (ρ.set i (some (.ow f ds)))
theorem J1{i:Nat}{x:Str}{tn:TN3}{pos':Pos}(hN:X.N.Nodup)(hi:X.N[i]?=some x)(hx:Loc X.env.scope x)(he:PN3 X H0 e tn)(hs:swapsWith e (some (.Name x pos')) pos.line X.env=pure false:=by rfl)
 (hf:X.fn x=true\/X.env.scope.names.lookup x=some .local:=by first|exact .inl rfl|exact .inr rfl|assumption):PS3 X H0 (.Assign [.Name x pos'] e pos) (own3 i tn):=PS.imp (JH hN hi hx he.ok hs hf) fun B σ H=>el7 fun G0 A ρ G F q L=>
 ⟨G0,ρ,G,F,he.mono ρ _ _ (fun f ds q l vs G' H' g hl r=>L.nx _ _ G' _ ((F.gr g).own r hl) q) q⟩
abbrev TG3:=Bool->D->Env3->(Env3->Prop)->Prop
abbrev TGs3:=Bool->List D->Env3->(Env3->Prop)->Prop
def ZB(K:Ybf)(H0:Hp)(g:TG3):TG:=fun v σ H Q=>∃ G0 ρ G f d,Fr3 K H0 G0 ρ σ G H/\Rf K H0 G f v d/\g f d ρ fun ρ'=>∀ σ' G' H',Fr3 K H0 G0 ρ' σ' G' H'->Same G G'->Gr G H G' H'->Q σ' H'
def znP(K:Ybf)(H0:Hp)(g:TGs3):TGs:=fun vs σ H Q=>∃ G0 ρ G f ds,Fr3 K H0 G0 ρ σ G H/\Rfs K H0 G f vs ds/\g f ds ρ fun ρ'=>∀ σ' G' H',Fr3 K H0 G0 ρ' σ' G' H'->Same G G'->Gr G H G' H'->Q σ' H'
structure PG3(X:Cx)(H0:Hp)(tg:Expr)(g:TG3):Prop where
 mono:∀ f d ρ (Q Q':Env3->Prop),(∀ c,Q c->Q' c)->g f d ρ Q->g f d ρ Q'
 ok:PG X tg (ZB X.K H0 g)
structure PGs3(X:Cx)(H0:Hp)(tg:List Expr)(g:TGs3):Prop where
 mono:∀ f d ρ (Q Q':Env3->Prop),(∀ c,Q c->Q' c)->g f d ρ Q->g f d ρ Q'
 ok:PGs X tg (znP X.K H0 g)
theorem PG.imp{tg:Expr}{t t':TG}(h:PG X tg t)(i:∀ v σ H Q,t' v σ H Q->t v σ H Q):PG X tg t':=fun pins s σ H v u Q I r q=>h pins s σ H v u Q I r (i _ _ _ _ q)
theorem PGs.imp{tg:List Expr}{t t':TGs}(h:PGs X tg t)(i:∀ v σ H Q,t' v σ H Q->t v σ H Q):PGs X tg t':=fun pins s σ H v u Q I r q=>h pins s σ H v u Q I r (i _ _ _ _ q)
def gn3(i:Nat):TG3:=fun f d ρ Q=>Q (ρ.set i (some (.sh (f||zt d) d)))
theorem zu{i:Nat}{x:Str}(hN:X.N.Nodup)(hi:X.N[i]?=some x)(hx:Loc X.env.scope x)(hf:X.fn x=true\/X.env.scope.names.lookup x=some .local:=by first|exact .inl rfl|exact .inr rfl|assumption):PG3 X H0 (.Name x pos) (gn3 i):=
 ⟨fun f d ρ Q Q' h q=>h _ q,PG.imp (zbl hN hi hx hf) fun v σ H Q ⟨G0,ρ,G,f,d,F,r,q⟩=>q _ G H (F.set r.or) (Same.refl _) (Gr.refl F.sub)⟩
def gnil3:TGs3:=fun _ ds ρ Q=>nilP ds (Q ρ)
def j7(t:TG3)(u:TGs3):TGs3:=fun f ds ρ Q=>Jg ds fun d r=>t f d ρ fun ρ'=>u f r ρ' Q
theorem Jm:PGs3 X H0 [] gnil3:=
 ⟨fun f d ρ Q Q' h q=>by obtain⟨e,q⟩:=zc2 q;subst e;exact h _ q,PGs.imp zfV fun vs σ H Q hyp=>by
  obtain⟨G0,ρ,G,f,ds,F,r,q⟩:=hyp;obtain⟨e,q⟩:=zc2 q;subst e;cases r.rd;exact⟨rfl,q σ G H F (Same.refl _) (Gr.refl F.sub)⟩⟩
theorem zV{es:List Expr}{t:TG3}{u:TGs3}(h1:PG3 X H0 e t)(h2:PGs3 X H0 es u)(hs:(assignEach (e::es) X.env).map (·.2)=assign e X.env::(assignEach es X.env).map (·.2):=by rfl):PGs3 X H0 (e::es) (j7 t u):=
 ⟨fun f d ρ Q Q' h q=>by obtain⟨x,r,e,q⟩:=zbx q;subst e;exact h1.mono f x ρ _ _ (fun ρ'=>h2.mono f r ρ' _ _ h) q,PGs.imp (zc3 h1.ok h2.ok hs) fun vs σ H Q hyp=>by
  obtain⟨G0,ρ,G,f,ds,F,r,q⟩:=hyp;obtain⟨x,y,e,q⟩:=zbx q;subst e;obtain⟨v,us,rfl,r1,r2⟩:=zb9 r;exact⟨v,us,rfl,G0,ρ,G,f,x,F,r1,h1.mono f x ρ _ _ (fun ρ' q σ1 G1 H1 F1 s1 g1=>⟨G0,ρ',G1,f,y,F1,r2.same s1,h2.mono f y ρ' _ _ (fun ρ2 q σ2 G2 H2 F2 s2 g2=>q σ2 G2 H2 F2 (s1.trans s2) (g1.trans g2)) q⟩) q⟩⟩
def ZF(n:Nat)(t:TGs3):TG3:=fun f d ρ Q=>asT d fun ds=>ds.length=n/\t f ds ρ Q
theorem Jt{es:List Expr}{k:Nat}{t:TGs3}{n:Nat}(hc:X.calm=true)(h:PGs3 X H0 es t)(hn:(assignEach es X.env).length=n:=by rfl)(hst:(assignEach es X.env).findIdx? (·.1)=none:=by rfl):PG3 X H0 (.Tuple es k pos) (ZF n t):=
 ⟨fun f d ρ Q Q' hq q=>by obtain⟨ds,e,l,q'⟩:=j8 q;subst e;exact⟨l,h.mono f ds ρ _ _ hq q'⟩,PG.imp (zdz hc h.ok hn hst) fun v σ H Q hyp=>by
  obtain⟨G0,ρ,G,f,d,F,r,q⟩:=hyp;obtain⟨ds,e,l,q'⟩:=j8 q;subst e;obtain⟨a,xs,rfl,hq,rs⟩:=Zj r;exact⟨a,xs,rfl,F.sub.tup hq,by rw [rs.length];exact l,G0,ρ,G,f,ds,F,rs,q'⟩⟩
def asg3(te:TE3)(g:TG3):TS3:=fun A ρ=>te ρ fun c=>asS c fun f d=>g f d ρ A.nx
theorem Z3{K:Ybf}{G0:Hp}{ρ : Env3}{σ : L2.St}{G H:Hp}{i:Nat}{f:Bool}{ds:List D}(F:Fr3 K H0 G0 ρ σ G H)(h:ρ[i]?=some (some (.ow f ds))):∃ l vs,σ[i]?=some (some (.ref l))/\H l=some (.lst vs)/\Rfs K H0 G f vs ds:=by
 obtain⟨v,h1,h2⟩:=F.slot i _ h;cases h2 with
 | ow hh r n=>exact⟨_,_,h1,hh,r⟩
def app3(i:Nat)(te:TE3):TS3:=fun A ρ=>atO ρ[i]? fun f ds=>te ρ fun c=>asS c fun g d=>ds.length<sizeLine/\A.nx (ρ.set i (some (.ow (f&&g) (ds++[d]))))
theorem zaD{i:Nat}{te:TE3}{x:Str}{np apos cpos:Pos}(hN:X.N[i]?=some x)(hv:Vis X.env.scope x)(he:PE3 X H0 e te)(hd:(x==("__debug__" : Str))=false:=by decide)(hcd:(x==("__classdict__" : Str))=false:=by decide)
 (hb:attributeBase (.Name x np) "append" X.env (eval (.Name x np) X.env)=eval (.Name x np) X.env:=by rfl)
 (hf:((backTo cpos (starEach [e] X.env)).all (fun x=>!x.1)&&(backToKw cpos (keywordEach [] X.env)).all (fun x=>x.1.isSome)&&decide ([e].length+([]:List Keyword).length+(if([]:List Keyword).isEmpty then 0 else 1)<30))=true:=by rfl)
 (hl:(apos.endLine==cpos.line)=true:=by rfl) (hs:starEach [e] X.env=(false,eval e X.env)::starEach [] X.env:=by rfl) (hp:(backTo cpos (starEach [] X.env)).any (·.1)=false:=by rfl)
 (hw:swapsWith (.Call (.Attribute (.Name x np) "append" apos) [e] [] cpos) none pos.line X.env=pure false:=by rfl):PS3 X H0 (.Expr (.Call (.Attribute (.Name x np) "append" apos) [e] [] cpos) pos) (app3 i te):=by
 refine PS.imp (zaA (zck (jJ hN hv hd hcd) (jv he.ok jD hs) hb hf hl hs hp) hw) fun B σ H hyp=>?_
 obtain⟨G0,A,ρ,G,F,q,L⟩:=hyp;obtain⟨f,ds,hi,q⟩:=ze6 q;obtain⟨l,vs,h1,h2,r⟩:=Z3 F hi;refine⟨.ref l,h1,zaY h2,G0,ρ,G,F,he.mono ρ _ _ (fun c q v G' H' g w=>?_) q⟩
 obtain⟨f',d,hc,hz,q'⟩:=jf q;subst hc;exact⟨l,vs,v,rfl,rfl,g.h.at h2,by rw [r.length];exact hz,L.nx _ _ _ _ ((F.gr g).change hi h1 ((r.same g.g).snoc (zj w))) q'⟩
def put3(i:Nat)(tk te:TE3):TS3:=fun A ρ=>atO ρ[i]? fun f ds=>te ρ fun c=>tk ρ fun k=>asS c fun g d=>asI k fun n=>∃ j,ixN ds.length n=some j/\A.nx (ρ.set i (some (.ow (f&&g) (ds.set j d))))
theorem zcn{i:Nat}{tk te:TE3}{x:Str}{np spos:Pos}{k:Expr}(hN:X.N[i]?=some x)(hv:Vis X.env.scope x)(hk:PE3 X H0 k tk)(he:PE3 X H0 e te)(hd:(x==("__debug__" : Str))=false:=by decide)(hcd:(x==("__classdict__" : Str))=false:=by decide)
 (hs:swapsWithSole [.Subscript (.Name x np) k spos] e pos.line X.env=pure false:=by rfl) (hw:swappedStores [.Subscript (.Name x np) k spos] e X.env=pure none:=by rfl)
 (h1:(assignEach [.Subscript (.Name x np) k spos] X.env).map (·.2)=[assign (.Subscript (.Name x np) k spos) X.env]:=by rfl)
 (ha:∀ v,assign (.Subscript (.Name x np) k spos) X.env v=(do
  let ov <-holding [v] (eval (.Name x np) X.env)
  let iv <-holding [v,ov] (eval k X.env)
  standAt spos
  holding [v,ov,iv] (setItem ov iv v)
  release [v,ov,iv] []):=by intro _;rfl):PS3 X H0 (.Assign [.Subscript (.Name x np) k spos] e pos) (put3 i tk te):=by
 refine PS.imp (ze9 he.ok (ziD (jJ hN hv hd hcd) hk.ok zmA ha) hs hw h1) fun B σ H hyp=>?_
 obtain⟨G0,A,ρ,G,F,q,L⟩:=hyp;obtain⟨f,ds,hi,q⟩:=ze6 q;refine⟨G0,ρ,G,F,he.mono ρ _ _ (fun c qc v G1 H1 g1 w1=>?_) q⟩
 obtain⟨l,vs,h1,h2,r⟩:=Z3 F hi;refine⟨.ref l,h1,G0,ρ,G1,F.gr g1,hk.mono ρ _ _ (fun kc q kv G2 H2 g2 w2=>?_) qc⟩
 obtain⟨f',d,hc,q1⟩:=jf q;obtain⟨n,hn,j,hj,q'⟩:=za1 q1;subst hc hn;have rk:=(zj w2).rd;cases rk;refine⟨l,vs,n,j,rfl,rfl,g2.h.at (g1.h.at h2),by rw [r.length];exact hj,L.nx _ _ _ _ (((F.gr g1).gr g2).change hi h1 ((r.same (g1.g.trans g2.g)).set ((zj w1).same g2.g) j)) q'⟩
def frz1(i:Nat)(ρ : Env3):Env3:=match ρ[i]? with
 | some (some (.ow f ds))=>ρ.set i (some (.sh f (.list ds)))
 | some (some (.tr _ ms))=>ρ.set i (some (.sh true (.list (ms.map PyData.list))))
 | _=>ρ
def frz:List Nat->Env3->Env3
 | [],ρ=>ρ
 | i::r,ρ=>frz r (frz1 i ρ)
theorem Fr3.frz1{K:Ybf}{G0:Hp}{ρ : Env3}{σ : L2.St}{G H:Hp}(F:Fr3 K H0 G0 ρ σ G H)(i:Nat):∃ G',Same G G'/\Fr3 K H0 G0 (L3.frz1 i ρ) σ G' H:=by
 unfold L3.frz1
 split
 . rename_i f ds h;exact F.freeze h
 . rename_i ps ms h;exact F.freezeT h
 . exact⟨G,Same.refl _,F⟩
theorem Fr3.frz{K:Ybf}{G0:Hp}{σ : L2.St}{H:Hp}:∀ (is:List Nat) {ρ : Env3} {G:Hp},Fr3 K H0 G0 ρ σ G H->∃ G',Same G G'/\Fr3 K H0 G0 (L3.frz is ρ) σ G' H
 | [],ρ,G,F=>⟨G,Same.refl _,F⟩
 | i :: r, ρ, G, F => by
  obtain⟨G1,s1,F1⟩:=F.frz1 i;obtain⟨G2,s2,F2⟩:=Fr3.frz r F1;exact⟨G2,s1.trans s2,F2⟩
def frzS(is:List Nat)(t:TS3):TS3:=fun A ρ=>t A (frz is ρ)
theorem J7(is:List Nat){t:TS3}(h:PS3 X H0 st t):PS3 X H0 st (frzS is t):=PS.imp h fun B σ H=>el7 fun G0 A ρ G F q L=>by
 obtain⟨G',s',F'⟩:=F.frz is;exact⟨G0,A,frz is ρ,G',F',q,L⟩
def whN(c:TT3)(tb:TS3)(A:Ends3):Nat->Env3->Prop
 | 0,_=>False
 | n+1,ρ=>c ρ fun k=>if k=true then tb { A with nx:=whN c tb A n,ct:=whN c tb A n,bk:=A.nx } ρ else A.nx ρ
def zod(c:TT3)(tb:TS3):TS3:=fun A ρ=>∃ n,whN c tb A n ρ
theorem J5{body:List Stmt}{tc:TT3}{tb:TS3}(hp:PassesOwn (model X.prog X.w) X.A X.env X.xe)(hc:PT3 X H0 c tc)(hb:PSs3 X H0 body tb):PS3 X H0 (.While c body [] pos) (zod tc tb):=PS.imp (zgA hp hc.ok hb) fun B σ H hyp=>by
 obtain⟨G0,A,ρ,G,F,⟨n,q⟩,L⟩:=hyp;refine⟨fun m σ' H'=>∃ ρ' G',Fr3 X.K H0 G0 ρ' σ' G' H'/\whN tc tb A m ρ',⟨n,ρ,G,F,q⟩,?_⟩
 rintro m σ' H' ⟨ρ',G',F',q'⟩
 cases m with
 | zero=>exact q'.elim
 | succ m=>
  refine⟨G0,ρ',G',F',hc.mono ρ' _ _ (fun k q G2 H2 g=>?_) q'⟩
  cases k with
  | false=>exact L.nx ρ' σ' G2 H2 (F'.gr g) q
  | true=>
   exact⟨fun σ3 H3=>∃ ρ3 G3,Fr3 X.K H0 G0 ρ3 σ3 G3 H3/\whN tc tb A m ρ3,fun σ3 H3 h3=>⟨m,Wa4 _,h3⟩,
    G0,_,ρ',G2,F'.gr g,q,⟨fun ρ4 σ4 G4 H4 F4 q4=>⟨ρ4,G4,F4,q4⟩,L.rt,L.nx,fun ρ4 σ4 G4 H4 F4 q4=>⟨ρ4,G4,F4,q4⟩⟩⟩
structure ItOk(K:Ybf)(H0:Hp)(J:It)(fl:Bool)(ds:List D)(Gs:Hp):Prop where
 go:∀ (i:Nat) d G H,ds[i]?=some d->Same Gs G->Sub G H->J.go i H/\∀ x H',J.yld i H x H'->∃ G',Gr G H G' H'/\Rf K H0 G' fl x d
 stop:∀ (i:Nat) G H,i=ds.length->Same Gs G->Sub G H->J.stop i H
abbrev TI3:=Env3->(Bool->List D->Prop)->Prop
def zao(K:Ybf)(H0:Hp)(t:TI3):TI:=fun σ H R=>∃ G0 ρ G,Fr3 K H0 G0 ρ σ G H/\t ρ fun f ds=>∀ J G' H',Gr G H G' H'->ItOk K H0 J f ds G'->R J H'
structure PI3(X:Cx)(H0:Hp)(tg iter:Expr)(t:TI3):Prop where
 mono:∀ ρ (Q Q':Bool->List D->Prop),(∀ f c,Q f c->Q' f c)->t ρ Q->t ρ Q'
 ok:PI X tg iter (zao X.K H0 t)
def forL(g:TG3)(tb:TS3)(A:Ends3)(f:Bool):List D->Env3->Prop
 | [],ρ=>A.nx ρ
 | d::ds,ρ=>g f d ρ fun ρ'=>tb { A with nx:=forL g tb A f ds,ct:=forL g tb A f ds,bk:=A.nx } ρ'
def for3(ti:TI3)(g:TG3)(tb:TS3):TS3:=fun A ρ=>ti ρ fun f ds=>forL g tb A f ds ρ
theorem zN{tg iter:Expr}{body:List Stmt}{ti:TI3}{g:TG3}{tb:TS3}(hp:PassesOwn (model X.prog X.w) X.A X.env X.xe)(hc:X.calm=true)(hi:PI3 X H0 tg iter ti)(hg:PG3 X H0 tg g)(hb:PSs3 X H0 body tb)
 (hs:∀ x,foldedSetIterable iter X.env x=pure x:=by intro _;rfl):PS3 X H0 (.For tg iter body [] pos) (for3 ti g tb):=PS.imp (zex hp hc hi.ok hg.ok hb hs) fun B σ H=>el7 fun G0 A ρ G F q L=>by
 refine⟨G0,ρ,G,F,hi.mono ρ _ _ (fun f ds k J G1 H1 g1 ok=>?_) q⟩
 have B1:Fr3 X.K H0 G0 ρ σ G1 H1:=F.gr g1;refine⟨fun i m σ' H'=>i<=ds.length/\m=ds.length - i/\∃ ρ' G',Fr3 X.K H0 G1 ρ' σ' G' H'/\forL g tb A f (ds.drop i) ρ',⟨ds.length,WbH _,rfl,ρ,G1,B1.rebase,k⟩,?_⟩
 rintro i m σ' H' ⟨hil,rfl,ρ',G',F',k'⟩
 by_cases hlt:i<ds.length
 . right
   have hd:ds[i]?=some ds[i]:=YaQ hlt;obtain⟨hgo,hy⟩:=ok.go i _ G' H' hd F'.g0 F'.sub;rw [Wah hlt] at k';refine⟨hgo,fun σ2 H2=>∃ ρ2 G2,Fr3 X.K H0 G1 ρ2 σ2 G2 H2/\forL g tb A f (ds.drop (i+1)) ρ2,fun σ2 H2 h2=>⟨_,WaC hlt (Wa4 _),WaP hlt,rfl,h2⟩,fun x H2 y=>?_⟩
   obtain⟨G2,g2,r2⟩:=hy x H2 y;refine⟨G1,ρ',G2,f,_,F'.gr g2,r2,hg.mono f _ ρ' _ _ (fun ρ3 q3 σ3 G3 H3 F3 _ _=>⟨G1,_,ρ3,G3,F3,q3,?_⟩) k'⟩
   exact⟨fun ρ4 σ4 G4 H4 F4 q4=>⟨ρ4,G4,F4,q4⟩,fun f d v G4 H4 g4 r4 q4=>L.rt f d v G4 H4 (g4.back B1) r4 q4,fun ρ4 σ4 G4 H4 F4 q4=>L.nx ρ4 σ4 G4 H4 (F4.back B1) q4,fun ρ4 σ4 G4 H4 F4 q4=>⟨ρ4,G4,F4,q4⟩⟩
 . left
   have e:i=ds.length:=Nat.le_antisymm hil (Nat.not_lt.mp hlt);rw [e,Wa7] at k';exact⟨ok.stop i G' H' e F'.g0 F'.sub,L.nx ρ' σ' G' H' (F'.back B1) k'⟩
theorem PI.imp{tg iter:Expr}{t t':TI}(h:PI X tg iter t)(i:∀ σ H R,t' σ H R->t σ H R):PI X tg iter t':=fun pins s σ H R I q=>h pins s σ H R I (i _ _ _ q)
def itL(te:TE3):TI3:=fun ρ Q=>te ρ fun c=>asL c Q
theorem zje{K:Ybf}{H0 G:Hp}{a:Addr}{xs:List V}{f:Bool}{ds:List D}(hq:SqL K G a xs)(r:Rfs K H0 G f xs ds):ItOk K H0 (Itl K a) f ds G where
 go:=fun i d G' H hd s1 s2=>by
  obtain⟨x,hx,rx⟩:=r.get hd;refine⟨⟨xs,x,(s1.trans s2.s).seq hq,hx⟩,fun y H' ⟨e,hy⟩=>?_⟩
  subst e;have:=hy xs ((s1.trans s2.s).seq hq);rw [hx] at this;cases this;exact⟨G',Gr.refl s2,rx.same s1⟩
 stop:=fun i G' H hl s1 s2=>⟨xs,(s1.trans s2.s).seq hq,by rw [r.length,hl];exact YaY _⟩
theorem zQ{tg iter:Expr}{te:TE3}(h:PE3 X H0 iter te):PI3 X H0 tg iter (itL te):=
 ⟨fun ρ Q Q' hq q=>h.mono ρ _ _ (fun c q=>by obtain⟨f,ds,e,q⟩:=zcs q;subst e;exact hq _ _ q) q,PI.imp (zn8 h.ok) fun σ H R=>el5 fun G0 ρ G F q=>⟨G0,ρ,G,F,h.mono ρ _ _ (fun c hyp v G' H' g w=>by
  obtain⟨f,ds,e,k⟩:=zcs hyp;subst e;obtain⟨a,xs,rfl,hq,rs⟩:=JO (zj w);exact⟨a,rfl,⟨xs,g.sub.seq hq⟩,k _ G' H' g (zje hq rs)⟩) q⟩⟩
def nums(lo:Int)(n:Nat):List D:=(List.range n).map fun i=>.int (lo+(i:Nat))
def zaz(lo st:Int)(n:Nat):List D:=(List.range n).map fun i=>.int (lo+(i:Nat)*st)
theorem zeo{K:Ybf}{H0 G:Hp}{lo:Int}{n:Nat}:ItOk K H0 (Itr lo n) true (nums lo n) G where
 go:=fun i d G' H hd s1 s2=>by
  unfold nums at hd;rw [Ya0] at hd
  by_cases hi:i<n
  . rw [Yax hi] at hd
    cases hd;exact⟨hi,fun x H' ⟨e1,e2⟩=>by subst e1 e2;exact⟨G',Gr.refl s2,.sc rfl (.int _)⟩⟩
  . rw [Waw (by simpa using hi)] at hd;cases hd
 stop:=fun i G' H hl s1 s2=>by unfold nums at hl;show n<=i;simp at hl;omega
theorem znH{K:Ybf}{H0 G:Hp}{lo st:Int}{n:Nat}:ItOk K H0 (Its lo st n) true (zaz lo st n) G where
 go:=fun i d G' H hd s1 s2=>by
  unfold zaz at hd;rw [Ya0] at hd
  by_cases hi:i<n
  . rw [Yax hi] at hd
    cases hd;exact⟨hi,fun x H' ⟨e1,e2⟩=>by subst e1 e2;exact⟨G',Gr.refl s2,.sc rfl (.int _)⟩⟩
  . rw [Waw (by simpa using hi)] at hd;cases hd
 stop:=fun i G' H hl s1 s2=>by unfold zaz at hl;show n<=i;simp at hl;omega
theorem zB{K:Ybf}{G:Hp}{v:V}{i:Int}(r:RdV K G v (.int i)):v=.int i:=by cases r;rfl
theorem vws1{K:Ybf}{H0 G H:Hp}{vs:List V}{c:Cl}(w:Vws K H0 G H vs [c]):∃ v,vs=[v]/\Vw K H0 G H v c:=by
 cases w with
 | cons a b=>cases b;exact⟨_,rfl,a⟩
theorem vws2{K:Ybf}{H0 G H:Hp}{vs:List V}{c d:Cl}(w:Vws K H0 G H vs [c,d]):∃ v u,vs=[v,u]/\Vw K H0 G H v c/\Vw K H0 G H u d:=by
 cases w with
 | cons a b=>obtain⟨u,rfl,h⟩:=vws1 b;exact⟨_,_,rfl,a,h⟩
theorem vws3{K:Ybf}{H0 G H:Hp}{vs:List V}{c d f:Cl}(w:Vws K H0 G H vs [c,d,f]):∃ v u z,vs=[v,u,z]/\Vw K H0 G H v c/\Vw K H0 G H u d/\Vw K H0 G H z f:=by
 cases w with
 | cons a b=>obtain⟨u,z,rfl,h,h'⟩:=vws2 b;exact⟨_,_,_,rfl,a,h,h'⟩
def rg1(t:TA3):TI3:=fun ρ Q=>t ρ fun cs=>∃ j,cs=[.sh true (.int j)]/\(-(2 ^ 62)<=j/\j<2 ^ 62)/\Q true (nums 0 j.toNat)
def rg2(t:TA3):TI3:=fun ρ Q=>t ρ fun cs=>∃ i j,cs=[.sh true (.int i),.sh true (.int j)]/\(-(2 ^ 62)<=i/\i<2 ^ 62/\-(2 ^ 62)<=j/\j<2 ^ 62)/\Q true (nums i (j - i).toNat)
def rg3(t:TA3):TI3:=fun ρ Q=>t ρ fun cs=>∃ i j k,cs=[.sh true (.int i),.sh true (.int j),.sh true (.int k)]/\(0<=i/\i<1000000/\0<=j/\j<1000000/\0<k/\k<1000000)/\Q true (zaz i k (stN i j k))
theorem ZZ{tg a:Expr}{t:TA3}{p:Pos}(hg:Gl X "range")(hm:X.mg "range" = none)(ha:PA3 X H0 [a] t)(hs:starEach [a] X.env=[(false,eval a X.env)]:=by rfl):PI3 X H0 tg (.Call (.Name "range" p) [a] [] pos) (rg1 t):=
 ⟨fun ρ Q Q' hq q=>ha.mono ρ _ _ (fun c ⟨j,e,b,q⟩=>⟨j,e,b,hq _ _ q⟩) q,PI.imp (zik hg hm ha.ok hs) fun σ H R=>el5 fun G0 ρ G F q=>⟨G0,ρ,G,F,ha.mono ρ _ _ (fun c hyp vs G' H' g w=>by
  obtain⟨j,e,b,k⟩:=hyp;subst e;obtain⟨v,rfl,w1⟩:=vws1 w;cases zB (zj w1).rd;exact⟨j,rfl,b.1,b.2,k _ G' H' g zeo⟩) q⟩⟩
theorem zfw{tg a b:Expr}{t:TA3}{p:Pos}(hg:Gl X "range")(hm:X.mg "range" = none)(ha:PA3 X H0 [a,b] t)(hs:starEach [a,b] X.env=[(false,eval a X.env),(false,eval b X.env)]:=by rfl)(hs2:starEach [b] X.env=[(false,eval b X.env)]:=by rfl):PI3 X H0 tg (.Call (.Name "range" p) [a,b] [] pos) (rg2 t):=
 ⟨fun ρ Q Q' hq q=>ha.mono ρ _ _ (fun c ⟨i,j,e,b,q⟩=>⟨i,j,e,b,hq _ _ q⟩) q,PI.imp (zjd hg hm ha.ok hs hs2) fun σ H R=>el5 fun G0 ρ G F q=>⟨G0,ρ,G,F,ha.mono ρ _ _ (fun c hyp vs G' H' g w=>by
  obtain⟨i,j,e,b,k⟩:=hyp;subst e;obtain⟨v,u,rfl,w1,w2⟩:=vws2 w;cases zB (zj w1).rd;cases zB (zj w2).rd;exact⟨i,j,rfl,b,k _ G' H' g zeo⟩) q⟩⟩
theorem zmB{tg a b c:Expr}{t:TA3}{p:Pos}(hg:Gl X "range")(hm:X.mg "range" = none)(ha:PA3 X H0 [a,b,c] t)(hs:starEach [a,b,c] X.env=[(false,eval a X.env),(false,eval b X.env),(false,eval c X.env)]:=by rfl)
 (hs2:starEach [b,c] X.env=[(false,eval b X.env),(false,eval c X.env)]:=by rfl):PI3 X H0 tg (.Call (.Name "range" p) [a,b,c] [] pos) (rg3 t):=
 ⟨fun ρ Q Q' hq q=>ha.mono ρ _ _ (fun c ⟨i,j,k,e,b,q⟩=>⟨i,j,k,e,b,hq _ _ q⟩) q,PI.imp (ziW hg hm ha.ok hs hs2) fun σ H R=>el5 fun G0 ρ G F q=>⟨G0,ρ,G,F,ha.mono ρ _ _ (fun c hyp vs G' H' g w=>by
  obtain⟨i,j,k,e,b,kk⟩:=hyp;subst e;obtain⟨v,u,z,rfl,w1,w2,w3⟩:=vws3 w;cases zB (zj w1).rd;cases zB (zj w2).rd;cases zB (zj w3).rd;exact⟨i,j,k,rfl,b,kk _ G' H' g znH⟩) q⟩⟩
end
variable[LamW]
def cst3(n:Nat)(js:List Nat)(ρ : Env3):Env3:=List.replicate n none++js.map fun j=>(ρ[j]?).join
def er(D:Addr)(H:Hp):Hp:=fun b=>if b=D then none else H b
theorem zai{D:Addr}{H:Hp}:er D H D=none:=by unfold er;rw [if_pos rfl]
theorem jK{D b:Addr}{H:Hp}(h:b≠D):er D H b=H b:=by unfold er;rw [if_neg h]
theorem zjk{D b:Addr}{H:Hp}{o:HO}(h:er D H b=some o):b≠D/\H b=some o:=by
 by_cases e:b=D
 . subst e;rw [zai] at h;cases h
 . rw [jK e] at h;exact⟨e,h⟩
theorem zjj{D:Addr}{H:Hp}{o:HO}(h:H D=some o):upd (er D H) D o=H:=by
 funext b
 by_cases e:b=D
 . subst e;rw [zo,h]
 . rw [zg e,jK e]
theorem Gr.er{D:Addr}{G H G' H':Hp}(g:Gr G H G' H')(hD:G' D=none)(hx:∀ f,H' D≠some (.ext f)):Gr G (er D H) G' (er D H') where
 g:=g.g
 h:=fun b o e=>by
  obtain⟨n,e⟩:=zjk e;rw [jK n]
  rcases g.h b o e with z|⟨z,y,c',h1,h2⟩
  . exact .inl z
  . exact .inr ⟨z,y,c',by rw [jK n];exact h1,by rw [jK (fun w=>by rw [w] at h2;exact hx _ h2)];exact h2⟩
 sub:=⟨fun b o e=>by
  rw [jK (zS e hD)];exact g.sub.s b o e,g.sub.cl⟩
 new:=fun b o e=>by
  rcases g.new b o e with q|q
  . exact .inl q
  . by_cases hb:b=D
    . subst hb;exact .inr zai
    . exact .inr (by rw [jK hb];exact q)
theorem JB{α : Type}{n i:Nat}{js:List Nat}{l:List (Option α)}{x:α}(h:(List.replicate n none++js.map fun j=>(l[j]?).join)[i]?=some (some x)):∃ j,n<=i/\js[i - n]?=some j/\l[j]?=some (some x):=by
 by_cases hi:i<n
 . rw [Yab (by simpa using hi),Yad,if_pos hi] at h
   cases h
 . rw [Yae (by simpa using hi),Ybb,Ya0] at h
   cases ej:js[i - n]? with
   | none=>rw [ej] at h;cases h
   | some j=>
    rw [ej] at h;have h':(l[j]?).join=some x:=Wbe h;refine⟨j,Nat.not_lt.mp hi,rfl,?_⟩;cases q:l[j]? with
    | none=>rw [q] at h';cases h'
    | some o => rw [q] at h'; cases o with
     | none=>cases h'
     | some v=>cases h';rfl
theorem zib{α : Type}{n i j:Nat}{js:List Nat}{l:List (Option α)}{x:α}(hi:n<=i)(hj:js[i - n]?=some j)(h:l[j]?=some (some x)):(List.replicate n none++js.map fun j=>(l[j]?).join)[i]?=some (some x):=by
 rw [Yae (by simpa using hi),Ybb,Ya0,hj]
 simp [h]
theorem Rf.asideU{K:Ybf}{H0 G:Hp}{A:Addr}{ys:List V}{f:Bool}{v:V}{d:D}(r:Rf K H0 G f v d)(hA:G A=none):Rf K (upd H0 A (.lst ys)) G f v d:=⟨r.rd,fun h=>jk (Same.refl _) (fun a o e n=>by rw [zg (zS e hA)];exact n) (r.nw h)⟩
theorem Rf.asideD{K:Ybf}{H0 G:Hp}{A:Addr}{ys:List V}{f:Bool}{v:V}{d:D}(r:Rf K (upd H0 A (.lst ys)) G f v d):Rf K H0 G f v d:=⟨r.rd,fun h=>jk (Same.refl _) (fun a o e n=>by
 have ha:a≠A:=fun z=>by subst z;rw [zo] at n;cases n
 rw [zg ha] at n;exact n) (r.nw h)⟩
theorem Rf.aside{K:Ybf}{H0 G:Hp}{A:Addr}{ys zs:List V}{f:Bool}{v:V}{d:D}(r:Rf K (upd H0 A (.lst ys)) G f v d)(hA:G A=none):Rf K (upd H0 A (.lst zs)) G f v d:=r.asideD.asideU hA
theorem Rfs.asideU{K:Ybf}{H0 G:Hp}{A:Addr}{ys:List V}{f:Bool}{v:List V}{d:List D}(r:Rfs K H0 G f v d)(hA:G A=none):Rfs K (upd H0 A (.lst ys)) G f v d:=⟨r.rd,fun h=>rdns_mono (Same.refl _) (fun a o e n=>by rw [zg (zS e hA)];exact n) (r.nw h)⟩
theorem Rfs.aside{K:Ybf}{H0 G:Hp}{A:Addr}{ys zs:List V}{f:Bool}{v:List V}{d:List D}(r:Rfs K (upd H0 A (.lst ys)) G f v d)(hA:G A=none):Rfs K (upd H0 A (.lst zs)) G f v d:=⟨r.rd,fun h=>rdns_mono (Same.refl _) (fun a o e n=>by
 rw [zg (zS e hA)] at n ⊢;exact n) (r.nw h)⟩
theorem Dr.asideU{K:Ybf}{H0 G:Hp}{A:Addr}{ys:List V}{kvs:List (List Key×V)}{ds:List (List Key×PyData)}(r:Dr K H0 G kvs ds)(hA:G A=none):Dr K (upd H0 A (.lst ys)) G kvs ds:=by
 induction r with
 | nil=>exact .nil
 | cons a b ih=>exact .cons (a.asideU hA) ih
theorem Dr.aside{K:Ybf}{H0 G:Hp}{A:Addr}{ys zs:List V}{kvs:List (List Key×V)}{ds:List (List Key×PyData)}(r:Dr K (upd H0 A (.lst ys)) G kvs ds)(hA:G A=none):Dr K (upd H0 A (.lst zs)) G kvs ds:=by
 induction r with
 | nil=>exact .nil
 | cons a b ih=>exact .cons (a.aside hA) ih
theorem Vw.rebase{K:Ybf}{H0 G H:Hp}{A:Addr}{v:V}{c:Cl}(w:Vw K H0 G (upd H A (.lst [])) v c)(s:Sub G H)(hA:H A=none):Vw K (upd H0 A (.lst [])) G (upd H A (.lst [])) v c:=by
 have gA:G A=none:=s.free hA;cases w with
 | sh r=>exact .sh (r.asideU gA)
 | ow h r n=>exact .ow h (r.asideU gA) n
 | tr t=>
  refine .tr ⟨t.top,t.topG,t.nd,t.len,fun k p m h1 h2=>?_⟩
  obtain⟨vs,a,b,c⟩:=t.item k p m h1 h2;exact⟨vs,a,b,c.asideU gA⟩
 | dt h r n=>exact .dt h (r.asideU gA) n
 | dk h n=>exact .dk h n
 | ex h=>exact .ex h
section
variable{K:Ybf}{H0 G0:Hp}{ρ : Env3}{σ : L2.St}{G H:Hp}{D:Addr}
theorem Fr3.comp(F:Fr3 K H0 G0 ρ σ G H)(n:Nat){js:List Nat}(hj:js.Nodup)(hD:H D=none):Fr3 K (upd H0 D (.lst [])) G (cst3 n js ρ) (cst n js σ) G (upd H D (.lst [])) where
 keep:=fun b o e=>by
  by_cases hb:b=D
  . subst hb;rw [zo] at e ⊢;exact .inl e
  . rw [zg hb] at e ⊢
    rcases F.keep b o e with z|⟨z,y,l⟩
    . exact .inl z
    . exact .inr ⟨z,y,l.same (zO hD _).x⟩
 sub:=F.sub.trans (zO hD _).x
 old:=fun b o e=>.inl e
 g0:=Same.refl _
 slot:=fun i c e=>by
  obtain⟨j,h1,h2,h3⟩:=JB e;obtain⟨v,h4,h5⟩:=F.slot j c h3;exact⟨v,zib h1 h2 h4,(h5.gr (Gr.apart F.sub hD)).rebase F.sub hD⟩
 mine:=fun i c v a e e' h=>by
  obtain⟨j,h1,h2,h3⟩:=JB e;obtain⟨j',h1',h2',h3'⟩:=JB e';rw [h2] at h2';cases h2';obtain⟨⟨o,q,_⟩,_⟩:=(F.vw h3 h3').has h;rw [zg (zS q hD)];exact F.mine j c v a h3 h3' h
 apart:=fun i k c1 c2 v1 v2 a e1 e2 e3 e4 q1 q2=>by
  obtain⟨j,h1,h2,h3⟩:=JB e1;obtain⟨j',h1',h2',h3'⟩:=JB e2;obtain⟨j2,h4,h5,h6⟩:=JB e3;obtain⟨j3,h7,h8,h9⟩:=JB e4;rw [h2] at h5;cases h5;rw [h2'] at h8;cases h8;have e:=F.apart j j' c1 c2 v1 v2 a h3 h3' h6 h9 q1 q2;subst e;have ei:i - n=k - n:=by
   obtain⟨a1,b1⟩:=Ya8.mp h2;obtain⟨a2,b2⟩:=Ya8.mp h2';exact(Wa3 hj).mp (b1.trans b2.symm)
  omega
 len:=by unfold cst3 cst;simp
theorem Fr3.aside{ys zs:List V}(F:Fr3 K (upd H0 D (.lst ys)) G0 ρ σ G H)(hG0:G0 D=none):Fr3 K (upd H0 D (.lst zs)) G0 ρ σ G (upd H D (.lst zs)):=by
 have hD:H D=some (.lst ys):=F.keep.at (b:=D) zo;have hG:G D=none:=by
  cases e:G D with
  | none=>rfl
  | some o=>
   rcases F.old D o e with q|q
   . rw [hG0] at q;cases q
   . rw [zo] at q;cases q
 refine⟨fun b o e=>?_,⟨fun b o e=>by rw [zg (zS e hG)];exact F.sub.s b o e,F.sub.cl⟩,fun b o e=>?_,F.g0,fun i c e=>?_,fun i c v a e e' h=>?_,F.apart,F.len⟩
 . by_cases hb:b=D
   . subst hb;rw [zo] at e ⊢;exact .inl e
   . rw [zg hb] at e ⊢
     rcases F.keep b o (by rw [zg hb];exact e) with z|⟨z,y,l⟩
     . exact .inl z
     . exact .inr ⟨z,y,l.upd hb fun f q=>by rw [hD] at q;cases q⟩
 . rcases F.old b o e with q|q
   . exact .inl q
   . by_cases hb:b=D
     . subst hb;rw [zo] at q;cases q
     . rw [zg hb] at q;exact .inr (by rw [zg hb];exact q)
 . obtain⟨v,h1,h2⟩:=F.slot i c e
   refine⟨v,h1,?_⟩
   cases h2 with
   | sh r=>exact .sh (r.aside hG)
   | ow h r n=>
    rename_i l vs f ds;have hl:l≠D:=fun z=>by
     subst z;have:=F.mine i _ _ l e h1 rfl;rw [zo] at this;cases this
    exact .ow (by rw [zg hl];exact h) (r.aside hG) n
   | dt h r n=>
    rename_i l kvs ds;have hl:l≠D:=fun z=>by
     subst z;have:=F.mine i _ _ l e h1 rfl;rw [zo] at this;cases this
    exact .dt (by rw [zg hl];exact h) (r.aside hG) n
   | dk h n=>
    rename_i l ks;have hl:l≠D:=fun z=>by
     subst z;have:=F.mine i _ _ l e h1 rfl;rw [zo] at this;cases this
    exact .dk (by rw [zg hl];exact h) n
   | tr t=>
    rename_i l ps ms;have hl:∀ a,Has (.tr ps ms) (.ref l) a->a≠D:=fun a ha z=>by
     subst z;have:=F.mine i _ _ a e h1 ha;rw [zo] at this;cases this
    refine .tr ⟨by rw [zg (hl l (.inl rfl))];exact t.top,t.topG,t.nd,t.len,fun k p m h1 h2=>?_⟩
    obtain⟨vs,a,b,c⟩:=t.item k p m h1 h2;exact⟨vs,by rw [zg (hl p (.inr (Yah h1)))];exact a,b,c.aside hG⟩
   | ex h=>
    rename_i l C;have hl:l≠D:=fun z=>by subst z;rw [hD] at h;cases h
    exact .ex (by rw [zg hl];exact h)
 . have q:=F.mine i c v a e e' h
   have hl:a≠D:=fun z=>by subst z;rw [zo] at q;cases q
   rw [zg hl] at q ⊢;exact q
theorem Fr3.atD{ys:List V}(F:Fr3 K (upd H0 D (.lst ys)) G0 ρ σ G H)(hG0:G0 D=none):G D=none/\H D=some (.lst ys):=by
 refine⟨?_,F.keep.at (b:=D) zo⟩
 cases e:G D with
 | none=>rfl
 | some o=>
  rcases F.old D o e with q|q
  . rw [hG0] at q;cases q
  . rw [zo] at q;cases q
end
section
variable{X:Cx}{H0:Hp}{pos:Pos}
structure PTs3(X:Cx)(H0:Hp)(es:List Expr)(t:TT3):Prop where
 mono:∀ ρ (Q Q':Bool->Prop),(∀ c,Q c->Q' c)->t ρ Q->t ρ Q'
 ok:PTs X es (j4 X.K H0 t)
def true3:TT3:=fun _ Q=>Q true
theorem jR:PTs3 X H0 [] true3:=⟨fun ρ Q Q' h q=>h _ q,fun pins s σ H Q I=>el5 fun G0 ρ G F q=>zg4 pins s σ H Q I (q G H (Gr.refl F.sub))⟩
def Jw(g:TG3)(tt:TT3)(te:TE3)(f:Bool):List D->Bool->List D->Env3->(Bool->List D->Prop)->Prop
 | [],fa,acc,_,Q=>Q fa acc
 | d::ds,fa,acc,ρ,Q=>g f d ρ fun ρ'=>tt ρ' fun k=>if k=true then te ρ' fun c=>asS c fun fy y=>Jw g tt te f ds (fa&&fy) (acc++[y]) ρ' Q else Jw g tt te f ds fa acc ρ' Q
def Je(ti:TI3)(g:TG3)(tt:TT3)(te:TE3)(n:Nat)(js:List Nat):TN3:=fun ρ Q=>ti ρ fun f ds=>ds.length<=sizeLine/\Jw g tt te f ds true [] (cst3 n js ρ) Q
theorem zcS{g:TG3}{tt:TT3}{te:TE3}(hg:∀ f d ρ (Q Q':Env3->Prop),(∀ c,Q c->Q' c)->g f d ρ Q->g f d ρ Q')(ht:∀ ρ (Q Q':Bool->Prop),(∀ c,Q c->Q' c)->tt ρ Q->tt ρ Q')(he:∀ ρ (Q Q':Cl->Prop),(∀ c,Q c->Q' c)->te ρ Q->te ρ Q')
 {f:Bool} {Q Q':Bool->List D->Prop} (h:∀ f c,Q f c->Q' f c):∀ ds fa acc ρ,Jw g tt te f ds fa acc ρ Q->Jw g tt te f ds fa acc ρ Q'
 | [],fa,acc,ρ,q=>h _ _ q
 | d :: ds, fa, acc, ρ, q => hg f d ρ _ _ (fun ρ' => ht ρ' _ _ fun k => by
  cases k with
  | true=>exact he ρ' _ _ fun c q=>by obtain⟨fy,y,e,q⟩:=jf q;subst e;exact zcS hg ht he h ds _ _ ρ' q
  | false=>exact zcS hg ht he h ds fa acc ρ') q
theorem zcH{tn fn N:List Str}{js:List Nat}(nd:(tn++fn).Nodup)(hj:js.map (fun j=>N[j]?)=fn.map some):js.Nodup:=by
 have h1:(fn.map some).Nodup:=by
  have:=(WaQ.mp nd).2.1;exact List.Pairwise.map some (fun a b h e=>h (Wbe e)) this
 rw [<-hj] at h1;exact List.Pairwise.of_map _ (fun a b h e=>h (by rw [e])) h1
theorem zcQ{elt tg:Expr}{ifs:List Expr}{scope:Scope}{N:List Str}{g:TG3}{tt:TT3}{te:TE3}
 (hb:∀ H0 s H fp cl,PG3 (X.comp scope N s H fp cl) H0 tg g/\PTs3 (X.comp scope N s H fp cl) H0 ifs tt/\PE3 (X.comp scope N s H fp cl) H0 elt te):∀ s H fp cl,PG (X.comp scope N s H fp cl) tg (fun v σ H Q=>∃ H0,ZB X.K H0 g v σ H Q)/\PTs (X.comp scope N s H fp cl) ifs (fun σ H Q=>∃ H0,j4 X.K H0 tt σ H Q)/\PE (X.comp scope N s H fp cl) elt (fun σ H Q=>∃ H0,je X.K H0 te σ H Q):=fun s H fp cl=>
 ⟨fun pins s' σ H' v u Q I r ⟨h0,q⟩=>(hb h0 s H fp cl).1.ok pins s' σ H' v u Q I r q,fun pins s' σ H' Q I ⟨h0,q⟩=>(hb h0 s H fp cl).2.1.ok pins s' σ H' Q I q,fun pins s' σ H' Q I ⟨h0,q⟩=>(hb h0 s H fp cl).2.2.ok pins s' σ H' Q I q⟩
theorem zcL{Y Y' Y'':Cx}{h1 h2 h3:Hp}{elt tg iter:Expr}{ifs:List Expr}{ti:TI3}{g:TG3}{tt:TT3}{te:TE3}{n:Nat}{js:List Nat}(hjn:js.Nodup)(hi:PI3 X H0 tg iter ti)(m1:PG3 Y h1 tg g)(m2:PTs3 Y' h2 ifs tt)(m3:PE3 Y'' h3 elt te) :
 ∀ σ H Q,zev X.K H0 (Je ti g tt te n js) σ H Q->zbN (zao X.K H0 ti) (fun v σ H Q=>∃ H0,ZB X.K H0 g v σ H Q) (fun σ H Q=>∃ H0,j4 X.K H0 tt σ H Q) (fun σ H Q=>∃ H0,je X.K H0 te σ H Q) n js σ H Q:=by
 rintro σ H Q ⟨G0,ρ,G,F,q⟩
 refine⟨G0,ρ,G,F,hi.mono ρ _ _ (fun fl ds ⟨hz,k⟩ J G1 H1 g1 ok A hA=>?_) q⟩
 have F1:=F.gr g1;have gA:G1 A=none:=g1.sub.free hA;have h0A:H0 A=none:=F1.keep.free hA;refine⟨fun i m ys σ2 H2=>i<=ds.length/\m=ds.length - i/\ys.length<=i/\∃ ρ2 G2 fe es,Fr3 X.K (upd H0 A (.lst ys)) G1 ρ2 σ2 G2 H2/\Rfs X.K H0 G2 fe ys es/\Gr G1 H1 G2 (er A H2)/\Jw g tt te fl (ds.drop i) fe es ρ2 (fun f ds=>∀ l vs G' H',Gr G H G' H'->H' l=none->Rfs X.K H0 G' f vs ds->Q (.ref l) (upd H' l (.lst vs))),
  ⟨ds.length,WbH _,rfl,YaY _,cst3 n js ρ,G1,true,[],F1.comp n hjn hA,.nil,?_,k⟩,?_⟩
 . have e:er A (upd H1 A (.lst []))=H1:=by
    funext b
    by_cases hb:b=A
    . subst hb;rw [zai,hA]
    . rw [jK hb,zg hb]
   rw [e];exact Gr.refl g1.sub
 rintro i m ys σ2 H2 ⟨hil,rfl,hyl,ρ2,G2,fe,es,F2,r2,g2,k2⟩
 obtain⟨hG2,hH2⟩:=F2.atD gA
 by_cases hlt:i<ds.length
 . right
   have hd:ds[i]?=some ds[i]:=YaQ hlt;obtain⟨hgo,hy⟩:=ok.go i _ G2 H2 hd F2.g0 F2.sub;rw [Wah hlt] at k2;refine⟨hgo,fun x H3 y=>?_⟩
   obtain⟨G3,g3,r3⟩:=hy x H3 y;have F3:=F2.gr g3;refine⟨upd H0 A (.lst ys),G1,ρ2,G3,fl,_,F3,r3.asideU (F3.atD gA).1,m1.mono fl _ ρ2 _ _ (fun ρ4 q4 σ4 G4 H4 F4 s4 g4=>?_) k2⟩
   refine⟨upd H0 A (.lst ys),G1,ρ4,G4,F4,m2.mono ρ4 _ _ (fun b q5 G5 H5 g5=>?_) q4⟩
   have F5:=F4.gr g5;have gg5:=(g3.trans g4).trans g5;cases b with
   | true=>
    refine⟨upd H0 A (.lst ys),G1,ρ4,G5,F5,m3.mono ρ4 _ _ (fun c q6 v G6 H6 g6 w6=>?_) q5⟩
    obtain⟨fy,y,hc,q6⟩:=jf q6;subst hc;have F6:=F5.gr g6;obtain⟨hG6,hH6⟩:=F6.atD gA;have gg6:=gg5.trans g6;refine⟨hH6,YaU (WaF hyl hlt) hz,ds.length - (i+1),WaC hlt (Wa4 _),WaP hlt,rfl,by rw [YaS,List.length_singleton];omega,ρ4,G6,_,es++[y],F6.aside gA,(r2.same gg6.g).snoc ((zj w6).asideD),?_,q6⟩
    have e:er A (upd H6 A (.lst (ys++[v])))=er A H6:=by
     funext b
     by_cases hb:b=A
     . subst hb;rw [zai,zai]
     . rw [jK hb,jK hb,zg hb]
    rw [e];exact g2.trans (gg6.er hG6 fun f z=>by rw [hH6] at z;cases z)
   | false=>
    obtain⟨hG5,hH5⟩:=F5.atD gA;exact⟨ds.length - (i+1),WaC hlt (Wa4 _),WaP hlt,rfl,Nat.le_succ_of_le hyl,ρ4,G5,fe,es,F5,r2.same gg5.g,g2.trans (gg5.er hG5 fun f z=>by rw [hH5] at z;cases z),q5⟩
 . left
   have e:i=ds.length:=Nat.le_antisymm hil (Nat.not_lt.mp hlt);rw [e,Wa7] at k2;refine⟨ok.stop i G2 H2 e F2.g0 F2.sub,?_⟩;have k3:=k2 A ys G2 (er A H2) (g1.trans g2) zai r2;rw [zjj hH2] at k3;exact k3
theorem J3{elt tg iter:Expr}{ifs:List Expr}{scope:Scope}{ti:TI3}{g:TG3}{tt:TT3}{te:TE3}(tn fn:List Str)(js:List Nat)(hcalm:X.calm=true)(S:CompSc X.env.scope scope tn fn)(hj:js.map (fun j=>X.N[j]?)=fn.map some)(hi:PI3 X H0 tg iter ti)
 (hb:∀ H0 s H fp cl,PG3 (X.comp scope (tn++fn) s H fp cl) H0 tg g/\PTs3 (X.comp scope (tn++fn) s H fp cl) H0 ifs tt/\PE3 (X.comp scope (tn++fn) s H fp cl) H0 elt te)
 (hs:∀ x,foldedSetIterable iter X.env x=pure x:=by intro _;rfl):PN3 X H0 (.ListComp elt [⟨tg,iter,ifs,0⟩] scope pos) (Je ti g tt te tn.length js):=by
 obtain⟨m1,m2,m3⟩:=hb H0 X.s₀ X.H₀ [] [];have hjn:=zcH S.nd hj;refine⟨fun ρ Q Q' h q=>hi.mono ρ _ _ (fun f ds ⟨z,q⟩=>⟨z,zcS m1.mono m2.mono m3.mono h ds _ _ _ q⟩) q,?_⟩
 exact PE.imp (zkE (wi:=zao X.K H0 ti) (g:=fun v σ H Q=>∃ H0,ZB X.K H0 g v σ H Q) (tt:=fun σ H Q=>∃ H0,j4 X.K H0 tt σ H Q) (te:=fun σ H Q=>∃ H0,je X.K H0 te σ H Q) tn fn js hcalm S hj hi.ok (zcQ hb) hs) (zcL hjn hi m1 m2 m3)
theorem ziP{elt tg iter:Expr}{ifs:List Expr}{scope:Scope}{spos pos':Pos}{i:Nat}{x:Str}{ti:TI3}{g:TG3}{tt:TT3}{te:TE3}(hN:X.N.Nodup)(hix:X.N[i]?=some x)(hx:Loc X.env.scope x)(tn fn:List Str)(js:List Nat)(hcalm:X.calm=true)(S:CompSc X.env.scope scope tn fn)(hj:js.map (fun j=>X.N[j]?)=fn.map some)(hi:PI3 X H0 tg iter ti)
 (hb:∀ H0 s H fp cl,PG3 (X.comp scope (tn++fn) s H fp cl) H0 tg g/\PTs3 (X.comp scope (tn++fn) s H fp cl) H0 ifs tt/\PE3 (X.comp scope (tn++fn) s H fp cl) H0 elt te)
 (hs:∀ x,foldedSetIterable iter X.env x=pure x:=by intro _;rfl)
 (hsw:swapsWith (.ListComp elt [⟨tg,iter,ifs,0⟩] scope pos) (some (.Name x pos')) spos.line X.env=pure true:=by rfl) (hf:X.fn x=true\/X.env.scope.names.lookup x=some .local:=by first|exact .inl rfl|exact .inr rfl|assumption) :
 PS3 X H0 (.Assign [.Name x pos'] (.ListComp elt [⟨tg,iter,ifs,0⟩] scope pos) spos) (own3 i (Je ti g tt te tn.length js)):=by
 obtain⟨m1,m2,m3⟩:=hb H0 X.s₀ X.H₀ [] [];have hjn:=zcH S.nd hj;have pn:=J3 (pos:=pos) tn fn js hcalm S hj hi hb hs;refine PS.imp (zfO hN hix hx (wi:=zao X.K H0 ti) (g:=fun v σ H Q=>∃ H0,ZB X.K H0 g v σ H Q) (tt:=fun σ H Q=>∃ H0,j4 X.K H0 tt σ H Q) (te:=fun σ H Q=>∃ H0,je X.K H0 te σ H Q) tn fn js hcalm S hj hi.ok (zcQ hb) hs hsw hf) fun B σ H=>el7 fun G0 A ρ G F q L=>?_
 exact zcL hjn hi m1 m2 m3 σ H _ ⟨G0,ρ,G,F,pn.mono ρ _ _ (fun f ds q l vs G' H' g hl r=>L.nx _ _ G' _ ((F.gr g).own r hl) q) q⟩
theorem zba{elt tg iter:Expr}{ifs:List Expr}{scope:Scope}{spos pos':Pos}{i:Nat}{x:Str}{ti:TI3}{g:TG3}{tt:TT3}{te:TE3}(hN:X.N.Nodup)(hix:X.N[i]?=some x)(hx:Loc X.env.scope x)(tn fn:List Str)(js:List Nat)(hcalm:X.calm=true)(S:CompSc X.env.scope scope tn fn)(hj:js.map (fun j=>X.N[j]?)=fn.map some)(hi:PI3 X H0 tg iter ti)
 (hb:∀ H0 s H fp cl,PG3 (X.comp scope (tn++fn) s H fp cl) H0 tg g/\PTs3 (X.comp scope (tn++fn) s H fp cl) H0 ifs tt/\PE3 (X.comp scope (tn++fn) s H fp cl) H0 elt te)
 (hs:∀ x,foldedSetIterable iter X.env x=pure x:=by intro _;rfl)
 (hsw:swapsWith (.ListComp elt [⟨tg,iter,ifs,0⟩] scope pos) (some (.Name x pos')) spos.line X.env=pure true:=by rfl) (hf:X.fn x=true\/X.env.scope.names.lookup x=some .local:=by first|exact .inl rfl|exact .inr rfl|assumption) :
 PS3 X H0 (.Assign [.Name x pos'] (.ListComp elt [⟨tg,iter,ifs,0⟩] scope pos) spos) (set3 i (nw3 (Je ti g tt te tn.length js))):=by
 obtain⟨m1,m2,m3⟩:=hb H0 X.s₀ X.H₀ [] [];have hjn:=zcH S.nd hj;have pn:=J3 (pos:=pos) tn fn js hcalm S hj hi hb hs;refine PS.imp (zfO hN hix hx (wi:=zao X.K H0 ti) (g:=fun v σ H Q=>∃ H0,ZB X.K H0 g v σ H Q) (tt:=fun σ H Q=>∃ H0,j4 X.K H0 tt σ H Q) (te:=fun σ H Q=>∃ H0,je X.K H0 te σ H Q) tn fn js hcalm S hj hi.ok (zcQ hb) hs hsw hf) fun B σ H=>el7 fun G0 A ρ G F q L=>?_
 refine zcL hjn hi m1 m2 m3 σ H _ ⟨G0,ρ,G,F,pn.mono ρ _ _ (fun f ds q l vs G' H' g hl r=>?_) q⟩
 refine L.nx _ _ (upd G' l (.lst vs)) _ ((F.gr (g.trans (Gr.put g.sub hl))).set ?_) q
 exact⟨.lst (SqL.of zo) (rdvs_same (zO (g.sub.free hl) _) r.rd),fun hf=>.lst zo ((F.keep.trans g.h).free hl) (rdns_mono (zO (g.sub.free hl) _) (fun _ _ _ z=>z) (r.nw hf))⟩
end
def ja(N:List Str)(ds:List D):Env3:=ds.map (fun d=>some (.sh (zt d) d))++List.replicate (N.length - ds.length) none
theorem zcD{K:Ybf}{G H:Hp}{N:List Str}{vs:List V}{ds:List D}(s:Sub G H)(r:RdVs K G vs ds):Fr3 K H G (ja N ds) (start N vs) G H:=by
 have at3:∀ (i:Nat) c,(ja N ds)[i]?=some (some c)->∃ d,ds[i]?=some d/\c=.sh (zt d) d:=fun i c e=>by
  unfold ja at e
  by_cases hi:i<ds.length
  . rw [Yab (by simpa using hi),Ya0] at e
    cases q:ds[i]? with
    | none=>rw [q] at e;cases e
    | some d=>rw [q] at e;cases e;exact⟨d,rfl,rfl⟩
  . rw [Yae (by simpa using hi),Yad] at e
    split at e<;>cases e
 refine⟨zk.refl _,s,fun b o e=>.inl e,Same.refl _,fun i c e=>?_,fun i c v a e _ h=>?_,fun i j c c' v v' a e _ _ _ h _=>?_,?_⟩
 . obtain⟨d,hd,rfl⟩:=at3 i c e
   obtain⟨x,hx,rx⟩:=r.get hd;refine⟨x,?_,.sh ⟨rx,fun h=>ZX h rx⟩⟩
   unfold L2.start;have hi:i<vs.length:=(Ya8.mp hx).1;rw [Yab (by simpa using hi),Ya0,hx];rfl
 . obtain⟨d,hd,z⟩:=at3 i _ e;subst z;exact False.elim h
 . obtain⟨d,hd,z⟩:=at3 i _ e;subst z;exact False.elim h
 . unfold ja L2.start;simp [r.length]
theorem fn3{P:Program}{w:World}{K:Ybf}{mg:Str->Option Value}{base:Heap}{x qual:Str}{st:Stmt}{f:Addr}{fd:FuncData}{N ps:List Str}{k:Nat}{sp:Sp3}(F:Fun K x qual st f fd)(S:FnScope N ps (ze st))(len:∀ ds Q E,sp ds Q E->ds.length=ps.length)
 (hbody:∀ (cdv:Value) (A:Around) (outer:List Env) (s:Shared) (H:Hp) (E:XK) (E3:Addr->Prop),(∀ C H',E3 C->zk H H'->E (.ref C) none H')->Room k (A.deeper (envOfC qual (ze st) s.heap.objs.size f cdv))->
  ∃ t,PSs3 (cxOf (CXR P w) P w K mg base N qual (ze st) f cdv A outer s H E) H (zp st) t/\∀ ds Q,sp ds Q E3->t { nx:=fun _=>Q true .none,rt:=Q } (ja N ds)):FnOk P w K mg base (CXR P w) (k+1) f fd ps (spL K sp):=by
 refine F.okR S (fun vs H Q E h=>?_) (fun cdv A outer s H vs Q E hr h=>?_)
 . obtain⟨G,ds,_,r,h⟩:=h
   rw [r.length];exact len _ _ _ h
 . obtain⟨G,ds,sG,r,h⟩:=h
   obtain⟨t,ht,hq⟩:=hbody cdv A outer s H E (fun C=>∀ H',zk H H'->E (.ref C) none H') (fun C H' e z=>e H' z) hr
   refine⟨_,ht,G,_,ja N ds,G,zcD sG r,hq ds _ h,⟨fun ρ σ G' H' F' q=>q .non G' H' F'.gr0 (.sc rfl .non),fun f d v G' H' g rd q=>q v G' H' g rd,fun _ _ _ _ _ q=>q.elim,fun _ _ _ _ _ q=>q.elim⟩⟩
def zaN(C:Addr)(E:Addr->Prop)(t:TA3):TS3:=fun _ ρ=>t ρ fun cs=>cs.length<=sizeLine/\E C
theorem zjm{K:Ybf}{H0 G H:Hp}{vs:List V}{cs:List Cl}(h:Vws K H0 G H vs cs):vs.length=cs.length:=by
 induction h with
 | nil=>rfl
 | cons _ _ ih=>rw [List.length_cons,List.length_cons,ih]
theorem jz{X:Cx}{H0:Hp}{x:Str}{C:Addr}{e0:Expr}{t:TA3}{E:XK}{E3:Addr->Prop}{np cpos pos:Pos}(hE:∀ C H',E3 C->zk H0 H'->E (.ref C) none H')(hf:Flies X E)(hc:X.calm=true)(hg:Gl X x)(hm:X.mg x=some (.ref C))(hx:PySem.W.excIn X.K C bmVE "ValueError.__new__" = true)(ha:PA3 X H0 [e0] t)
 (hdb:(x==("__debug__" : Str))=false:=by decide) (hs:starEach [e0] X.env=[(false,eval e0 X.env)]:=by rfl):PS3 X H0 (.Raise (some (.Call (.Name x np) [e0] [] cpos)) none pos) (zaN C E3 t):=
 PS.imp (zhQ hf hc hg hm hx ha.ok hdb hs) fun B σ H=>el7 fun G0 A ρ G F q L=>⟨G0,ρ,G,F,ha.mono ρ _ _ (fun cs ⟨z,e⟩ vs G' H' g w=>⟨by rw [zjm w];exact z,hE C H' e (F.gr g).keep⟩) q⟩
variable[LamW]
theorem JV{K:Ybf}{G:Hp}{v:V}{i:Str}(r:RdV K G v (.str i)):v=.str i:=by cases r;rfl
theorem zeK{K:Ybf}{G:Hp}{v:V}(r:RdV K G v .none):v=.non:=by cases r;rfl
section
variable{X:Cx}
def add3:R3:=fun a b Q=>match a,b with
 | .sh _ (.int i),.sh _ (.int j)=>Q true (.int (i+j))
 | .sh _ (.str x),.sh _ (.str y)=>x.length+y.length<=sizeLine/\Q true (.str (x++y))
 | _,_=>False
def int3(C:Int->Int->Prop)(g:Int->Int->D):R3:=fun a b Q=>match a,b with
 | .sh _ (.int i),.sh _ (.int j)=>C i j/\Q true (g i j)
 | _,_=>False
def int0(g:Int->Int->D):R3:=fun a b Q=>match a,b with
 | .sh _ (.int i),.sh _ (.int j)=>Q true (g i j)
 | _,_=>False
theorem zZ:OpOk X (binaryOp .Add) add3:=by
 refine⟨fun a b Q Q' h q=>?_,fun H0=>OpR.imp (zjf.or zob) fun x y H Q=>el3 fun G a b s wa wb q=>?_⟩
 . unfold add3 at *;split at q
   . exact h _ _ q
   . exact⟨q.1,h _ _ q.2⟩
   . exact q
 . unfold add3 at q;split at q
   . cases zB (zj wa).rd;cases zB (zj wb).rd
     exact .inl ⟨_,_,rfl,rfl,q _ G H (Gr.refl s) (.sc rfl (.int _))⟩
   . cases JV (zj wa).rd;cases JV (zj wb).rd
     exact .inr ⟨_,_,rfl,rfl,q.1,q.2 _ G H (Gr.refl s) (.sc rfl (.str _))⟩
   . exact q.elim
theorem opI3{f:Value->Value->Sem Value}{C:Int->Int->Prop}{g:Int->Int->Int}(h:OpR X f (rI C fun i j=>.int (g i j))):OpOk X f (int3 C fun i j=>.int (g i j)):=by
 refine⟨fun a b Q Q' h q=>?_,fun H0=>OpR.imp h fun x y H Q=>el3 fun G a b s wa wb q=>?_⟩
 . unfold int3 at *;split at q
   . exact⟨q.1,h _ _ q.2⟩
   . exact q
 . unfold int3 at q;split at q
   . cases zB (zj wa).rd;cases zB (zj wb).rd
     exact⟨_,_,rfl,rfl,q.1,q.2 _ G H (Gr.refl s) (.sc rfl (.int _))⟩
   . exact q.elim
theorem zio{f:Value->Value->Sem Value}{g:Int->Int->Int}(h:OpR X f (rI0 fun i j=>.int (g i j))):OpOk X f (int0 fun i j=>.int (g i j)):=by
 refine⟨fun a b Q Q' h q=>?_,fun H0=>OpR.imp h fun x y H Q=>el3 fun G a b s wa wb q=>?_⟩
 . unfold int0 at *;split at q
   . exact h _ _ q
   . exact q
 . unfold int0 at q;split at q
   . cases zB (zj wa).rd;cases zB (zj wb).rd
     exact⟨_,_,rfl,rfl,q _ G H (Gr.refl s) (.sc rfl (.int _))⟩
   . exact q.elim
theorem zbo{f:Value->Value->Sem Value}{g:Int->Int->Bool}(h:OpR X f (rI0 fun i j=>.bl (g i j))):OpOk X f (int0 fun i j=>.bool (g i j)):=by
 refine⟨fun a b Q Q' h q=>?_,fun H0=>OpR.imp h fun x y H Q=>el3 fun G a b s wa wb q=>?_⟩
 . unfold int0 at *;split at q
   . exact h _ _ q
   . exact q
 . unfold int0 at q;split at q
   . cases zB (zj wa).rd;cases zB (zj wb).rd
     exact⟨_,_,rfl,rfl,q _ G H (Gr.refl s) (.sc rfl (.bl _))⟩
   . exact q.elim
theorem jP:OpOk X (binaryOp .Sub) (int0 fun i j=>.int (i - j)):=zio zgo
theorem zU:OpOk X (binaryOp .Mult) (int3 IntMulOk fun i j=>.int (i*j)):=opI3 zkg
theorem zW:OpOk X (binaryOp .FloorDiv) (int3 ZQ fun i j=>.int (i/j)):=opI3 zij
theorem jh:OpOk X (binaryOp .Mod) (int3 (fun _ j=>0<j) fun i j=>.int (i%j)):=opI3 zju
theorem Ji:OpOk X (binaryOp .Pow) (int3 Zz fun i j=>.int (i ^ j.toNat)):=opI3 zha
theorem jT:OpOk X (compareOp .Lt) (int0 fun i j=>.bool (decide (i<j))):=zbo zn7
theorem JF:OpOk X (compareOp .LtE) (int0 fun i j=>.bool (decide (i<=j))):=zbo zjY
theorem jH:OpOk X (compareOp .Gt) (int0 fun i j=>.bool (decide (j<i))):=zbo zoi
theorem zeD:OpOk X (compareOp .GtE) (int0 fun i j=>.bool (decide (j<=i))):=zbo zge
def neg3:U3:=fun a Q=>match a with
 | .sh _ (.int i)=>Q true (.int (-i))
 | _=>False
theorem UnR.imp{f:Value->Sem Value}{r r':V->Hp->VK->Prop}(h:UnR X f r)(i:∀ x H Q,r' x H Q->r x H Q):UnR X f r':=fun pins s σ H x v Q I rx q=>h pins s σ H x v Q I rx (i _ _ _ q)
theorem zb8:UnOk X (unaryOp .USub) neg3:=by
 refine⟨fun a Q Q' h q=>?_,fun H0=>UnR.imp zgP fun x H Q ⟨G,a,s,wa,q⟩=>?_⟩
 . unfold neg3 at *;split at q
   . exact h _ _ q
   . exact q
 . unfold neg3 at q;split at q
   . cases zB (zj wa).rd
     exact⟨_,rfl,q _ G H (Gr.refl s) (.sc rfl (.int _))⟩
   . exact q.elim
def eqOk:D->D->Prop
 | .str _,.str _=>True
 | .int _,.int _=>True
 | d,e=>SeqAt.shaped d=true/\SeqAt.shaped e=true
def eqv3:D->D->Bool
 | .str x,.str y=>decide (x=y)
 | .int x,.int y=>decide (x=y)
 | d,e=>PyData.eqv d e
def eq3:R3:=fun a b Q=>a.dat=true/\b.dat=true/\eqOk a.d b.d/\Q true (.bool (eqv3 a.d b.d))
def ne3:R3:=fun a b Q=>a.dat=true/\b.dat=true/\eqOk a.d b.d/\Q true (.bool (!eqv3 a.d b.d))
theorem ze2{d e:D}:(∃ x y,d=.str x/\e=.str y/\eqv3 d e=decide (V.str x=V.str y))\/(∃ x y,d=.int x/\e=.int y/\eqv3 d e=decide (V.int x=V.int y))\/(eqv3 d e=PyData.eqv d e/\(eqOk d e->SeqAt.shaped d=true/\SeqAt.shaped e=true)):=by
 cases d<;>cases e<;>first
  | exact .inr (.inr ⟨rfl,fun h=>h⟩)
  | exact .inl ⟨_,_,rfl,rfl,by simp [eqv3]⟩
  | exact .inr (.inl ⟨_,_,rfl,rfl,by simp [eqv3]⟩)
theorem Zk(hu:X.A.units+64<cLine):OpOk X (compareOp .Eq) eq3:=by
 refine⟨fun a b Q Q' h ⟨x,y,z,q⟩=>⟨x,y,z,h _ _ q⟩,fun H0=>OpR.imp (zjC.or (zhm hu)) fun x y H Q ⟨G,a,b,s,wa,wb,ha,hb,ho,q⟩=>?_⟩
 have ra:=wa.rd s ha;have rb:=wb.rd s hb
 rcases ze2 (d:=a.d) (e:=b.d) with ⟨i,j,e1,e2,e3⟩|⟨i,j,e1,e2,e3⟩|⟨e3,hs⟩
 . rw [e1] at ra;rw [e2] at rb
   cases JV ra;cases JV rb
   exact .inl ⟨rfl,by rw [<-e3];exact q _ G H (Gr.refl s) (.sc rfl (.bl _))⟩
 . rw [e1] at ra;rw [e2] at rb
   cases zB ra;cases zB rb
   exact .inl ⟨rfl,by rw [<-e3];exact q _ G H (Gr.refl s) (.sc rfl (.bl _))⟩
 . exact .inr ⟨_,_,ra,rb,(hs ho).1,(hs ho).2,by rw [<-e3];exact q _ G H (Gr.refl s) (.sc rfl (.bl _))⟩
theorem jo(hu:X.A.units+64<cLine):OpOk X (compareOp .NotEq) ne3:=by
 refine⟨fun a b Q Q' h ⟨x,y,z,q⟩=>⟨x,y,z,h _ _ q⟩,fun H0=>OpR.imp (ziZ.or (zld hu)) fun x y H Q ⟨G,a,b,s,wa,wb,ha,hb,ho,q⟩=>?_⟩
 have ra:=wa.rd s ha;have rb:=wb.rd s hb
 rcases ze2 (d:=a.d) (e:=b.d) with ⟨i,j,e1,e2,e3⟩|⟨i,j,e1,e2,e3⟩|⟨e3,hs⟩
 . rw [e1] at ra;rw [e2] at rb
   cases JV ra;cases JV rb
   exact .inl ⟨rfl,by rw [<-e3];exact q _ G H (Gr.refl s) (.sc rfl (.bl _))⟩
 . rw [e1] at ra;rw [e2] at rb
   cases zB ra;cases zB rb
   exact .inl ⟨rfl,by rw [<-e3];exact q _ G H (Gr.refl s) (.sc rfl (.bl _))⟩
 . exact .inr ⟨_,_,ra,rb,(hs ho).1,(hs ho).2,by rw [<-e3];exact q _ G H (Gr.refl s) (.sc rfl (.bl _))⟩
def isNone:Cl->Bool
 | .sh _ .none=>true
 | _=>false
theorem zdj{K:Ybf}{H0 G H:Hp}{v:V}{c:Cl}(w:Vw K H0 G H v c):decide (v=.non)=isNone c:=by
 cases w with
 | sh r=>cases r.rd<;>simp [isNone]
 | ow _ _ _=>simp [isNone]
 | tr _=>simp [isNone]
 | dt _ _ _=>simp [isNone]
 | dk _ _=>simp [isNone]
 | ex _=>simp [isNone]
def isN3:R3:=fun a b Q=>b=.sh true .none/\Q true (.bool (isNone a))
def notN3:R3:=fun a b Q=>b=.sh true .none/\Q true (.bool (!isNone a))
theorem zbB:OpOk X (compareOp .Is) isN3:=⟨fun a b Q Q' h ⟨e,q⟩=>⟨e,h _ _ q⟩,fun H0=>OpR.imp zhD fun x y H Q hyp=>by
 obtain⟨G,a,b,s,wa,wb,e,q⟩:=hyp;subst e;exact⟨zeK (zj wb).rd,by rw [zdj wa];exact q _ G H (Gr.refl s) (.sc rfl (.bl _))⟩⟩
theorem zep:OpOk X (compareOp .IsNot) notN3:=⟨fun a b Q Q' h ⟨e,q⟩=>⟨e,h _ _ q⟩,fun H0=>OpR.imp zlp fun x y H Q hyp=>by
 obtain⟨G,a,b,s,wa,wb,e,q⟩:=hyp;subst e;exact⟨zeK (zj wb).rd,by rw [zdj wa];exact q _ G H (Gr.refl s) (.sc rfl (.bl _))⟩⟩
def ixD:D->Int->Option D
 | .list ds,i=>atI ds i
 | .tuple ds,i=>atI ds i
 | .str z,i=>if z.length<=sizeLine then(atI z.cps.toList i).map fun c=>.str ⟨#[c]⟩ else none
 | _,_=>none
def ix3:R3:=fun a b Q=>match b with
 | .sh _ (.int i)=>a.dat=true/\∃ d,ixD a.d i=some d/\Q (a.f||zt d) d
 | _=>False
theorem zcb{K:Ybf}{H0 G:Hp}{f:Bool}{vs:List V}{ds:List D}{i:Int}{d:D}(r:Rfs K H0 G f vs ds)(h:atI ds i=some d):∃ v,atI vs i=some v/\Rf K H0 G f v d:=by
 unfold atI at *;rw [r.length];cases e:ixN ds.length i with
 | none=>rw [e] at h;cases h
 | some j=>
  rw [e] at h;obtain⟨x,hx,rx⟩:=r.get (i:=j) (show ds[j]?=some d from h)
  exact⟨x,hx,rx⟩
theorem IxR.imp{r r':R2}(h:IxR X r)(i:∀ x y H Q,r' x y H Q->r x y H Q):IxR X r':=fun e f pins s σ H x y v u Q I rx ry q z=>h e f pins s σ H x y v u Q I rx ry (i _ _ _ _ q) z
theorem znT(H0:Hp):IxR X (zaG X.K H0 ix3):=IxR.imp ziu fun x y H Q=>el3 fun G a b s wa wb q=>by
 unfold ix3 at q;split at q
 . obtain⟨ha,d,hd,q⟩:=q
   rename_i i;cases zB (zj wb).rd;cases wa with
   | @sh v0 f d0 r=>
    cases d0 with
    | list ds=>
     obtain⟨a,xs,rfl,hq,rs⟩:=JO r;obtain⟨v,hv,rv⟩:=zcb rs (show atI ds i=some d from hd)
     exact .inl ⟨_,_,_,v,rfl,rfl,s.seq hq,hv,q v G H (Gr.refl s) rv.or⟩
    | tuple ds=>
     obtain⟨a,xs,rfl,hq,rs⟩:=Zj r;obtain⟨v,hv,rv⟩:=zcb rs (show atI ds i=some d from hd)
     exact .inr (.inl ⟨_,_,_,v,rfl,rfl,s.tup hq,hv,q v G H (Gr.refl s) rv.or⟩)
    | str z=>
     cases JV r.rd
     have hd':(if z.length<=sizeLine then(atI z.cps.toList i).map fun c=>PyData.str ⟨#[c]⟩ else none)=some d:=hd
     split at hd'
     . rename_i hz
       cases e:atI z.cps.toList i with
       | none=>rw [e] at hd';cases hd'
       | some c=>
        rw [e] at hd';cases hd';exact .inr (.inr ⟨z,i,c,rfl,rfl,hz,e,q _ G H (Gr.refl s) (.sc rfl (.str _))⟩)
     . cases hd'
    | _=>cases hd
   | ow h rs n=>
    obtain⟨v,hv,rv⟩:=zcb rs (show atI _ i=some d from hd)
    exact .inl ⟨_,_,_,v,rfl,rfl,SqL.of h,hv,q v G H (Gr.refl s) rv.or⟩
   | tr h=>cases ha
   | dt _ _ _=>cases ha
   | dk _ _=>cases ha
   | ex h=>cases ha
 . exact q.elim
theorem zdL:∀ a b (Q Q':Bool->D->Prop),(∀ f c,Q f c->Q' f c)->ix3 a b Q->ix3 a b Q':=fun a b Q Q' h q=>by
 unfold ix3 at *;split at q
 . obtain⟨x,d,e,q⟩:=q;exact⟨x,d,e,h _ _ q⟩
 . exact q
theorem at3{H0:Hp}{a b:Expr}{pos:Pos}{ta tb:TE3}(ha:PE3 X H0 a ta)(hb:PE3 X H0 b tb)(hs:zcU b):PE3 X H0 (.Subscript a b pos) (o3 ix3 ta tb):=
 ⟨zaL zdL ha.mono hb.mono,PE.imp (zes (znT H0) ha.ok hb.ok hs) (za7 zdL ha.mono hb.mono)⟩
abbrev TO3:=Env3->(Option Int->Prop)->Prop
def zlq(K:Ybf)(H0:Hp)(t:TO3):TO:=fun σ H Q=>∃ G0 ρ G,Fr3 K H0 G0 ρ σ G H/\t ρ fun o=>∀ G' H',Gr G H G' H'->Q o H'
structure PO3(X:Cx)(H0:Hp)(e:Option Expr)(t:TO3):Prop where
 mono:∀ ρ (Q Q':Option Int->Prop),(∀ c,Q c->Q' c)->t ρ Q->t ρ Q'
 ok:PO X e (zlq X.K H0 t)
theorem PO.imp{e:Option Expr}{t t':TO}(h:PO X e t)(i:∀ σ H Q,t' σ H Q->t σ H Q):PO X e t':=fun pins s σ H Q I q=>h pins s σ H Q I (i _ _ _ q)
def no3:TO3:=fun _ Q=>Q none
def za6(t:TE3):TO3:=fun ρ Q=>t ρ fun c=>∃ i,c=.sh true (.int i)/\Q (some i)
variable{H0:Hp}{pos p2:Pos}
theorem znE:PO3 X H0 none no3:=⟨fun ρ Q Q' h q=>h _ q,PO.imp znM fun σ H Q=>el5 fun G0 ρ G F q=>q G H (Gr.refl F.sub)⟩
theorem zbW{e:Expr}{t:TE3}(h:PE3 X H0 e t):PO3 X H0 (some e) (za6 t):=⟨fun ρ Q Q' hq q=>h.mono ρ _ _ (fun c ⟨i,e,q⟩=>⟨i,e,hq _ q⟩) q,PO.imp (zki h.ok) fun σ H Q=>el5 fun G0 ρ G F q=>⟨G0,ρ,G,F,h.mono ρ _ _ (fun c hyp v G' H' g w=>by
 obtain⟨i,e,q⟩:=hyp;subst e;exact⟨i,zB (zj w).rd,q G' H' g⟩) q⟩⟩
def cut{α : Type}(xs:List α)(lo hi:Option Int):List α:=(xs.drop (HT.sIx xs.length 0 lo)).take (HT.sIx xs.length xs.length hi - HT.sIx xs.length 0 lo)
theorem SlR.imp{r r':V->Option Int->Option Int->Hp->VK->Prop}(h:SlR X r)(i:∀ x lo hi H Q,r' x lo hi H Q->r x lo hi H Q):SlR X r':=by
 unfold SlR at *;intros
 apply h<;>first|assumption|skip
 apply i;assumption
theorem zmx{K:Ybf}{H0 G:Hp}{f:Bool}{vs:List V}{ds:List D}(r:Rfs K H0 G f vs ds)(lo hi:Option Int):Rfs K H0 G f (cutV vs lo hi) (cut ds lo hi):=by
 unfold cutV cut;rw [r.length];exact(r.drop _).take _
def lenD:D->Option Nat
 | .list ds=>some ds.length
 | .tuple ds=>some ds.length
 | .str z=>if z.length<=sizeLine then some z.length else none
 | _=>none
def len3:C3:=fun cs Q=>match cs with
 | [c]=>c.dat=true/\∃ n,lenD c.d=some n/\Q true (.int n)
 | _=>False
theorem zH:CallOk X (.builtin "len") len3:=by
 refine⟨fun cs Q Q' h q=>?_,fun H0=>zI.imp (zI.or zgG zhw) fun xs H Q=>el2 fun G cs s w q=>?_⟩
 . unfold len3 at *;split at q
   . obtain⟨a,n,e,q⟩:=q;exact⟨a,n,e,h _ _ q⟩
   . exact q
 . unfold len3 at q;split at q
   . obtain⟨v,rfl,w1⟩:=vws1 w
     obtain⟨ha,n,hn,q⟩:=q;have r:=w1.rd s ha;generalize e:Cl.d _=d at r hn;cases r with
     | lst hq rs=>cases hn;exact .inl ⟨_,_,rfl,.inl hq,by rw [rs.length];exact q _ G H (Gr.refl s) (.sc rfl (.int _))⟩
     | tup hq rs=>cases hn;exact .inl ⟨_,_,rfl,.inr hq,by rw [rs.length];exact q _ G H (Gr.refl s) (.sc rfl (.int _))⟩
     | str z=>
      have hn':(if z.length<=sizeLine then some z.length else none)=some n:=hn
      split at hn'
      . rename_i hz;cases hn';exact .inr ⟨z,rfl,hz,q _ G H (Gr.refl s) (.sc rfl (.int _))⟩
      . cases hn'
     | _=>cases hn
   . exact q.elim
def abs3:C3:=fun cs Q=>match cs with
 | [.sh _ (.int i)]=>Q true (.int (if i<0 then -i else i))
 | _=>False
theorem zbE:CallOk X (.builtin "abs") abs3:=by
 refine⟨fun cs Q Q' h q=>?_,fun H0=>zI.imp znd fun xs H Q=>el2 fun G cs s w q=>?_⟩
 . unfold abs3 at *;split at q
   . exact h _ _ q
   . exact q
 . unfold abs3 at q;split at q
   . obtain⟨v,rfl,w1⟩:=vws1 w
     cases zB (zj w1).rd
     exact⟨_,rfl,q _ G H (Gr.refl s) (.sc rfl (.int _))⟩
   . exact q.elim
def max23:C3:=fun cs Q=>match cs with
 | [.sh _ (.int i),.sh _ (.int j)]=>Q true (.int (if j > i then j else i))
 | _=>False
theorem zd4(hc:X.calm=true):CallOk X (.builtin "max") max23:=by
 refine⟨fun cs Q Q' h q=>?_,fun H0=>zI.imp (zkz hc) fun xs H Q=>el2 fun G cs s w q=>?_⟩
 . unfold max23 at *;split at q
   . exact h _ _ q
   . exact q
 . unfold max23 at q;split at q
   . obtain⟨v,u,rfl,w1,w2⟩:=vws2 w
     cases zB (zj w1).rd;cases zB (zj w2).rd
     exact⟨_,_,rfl,q _ G H (Gr.refl s) (.sc rfl (.int _))⟩
   . exact q.elim
def min23:C3:=fun cs Q=>match cs with
 | [.sh _ (.int i),.sh _ (.int j)]=>Q true (.int (if j<i then j else i))
 | _=>False
theorem zgx(hc:X.calm=true):CallOk X (.builtin "min") min23:=by
 refine⟨fun cs Q Q' h q=>?_,fun H0=>zI.imp (zil hc) fun xs H Q=>el2 fun G cs s w q=>?_⟩
 . unfold min23 at *;split at q
   . exact h _ _ q
   . exact q
 . unfold min23 at q;split at q
   . obtain⟨v,u,rfl,w1,w2⟩:=vws2 w
     cases zB (zj w1).rd;cases zB (zj w2).rd
     exact⟨_,_,rfl,q _ G H (Gr.refl s) (.sc rfl (.int _))⟩
   . exact q.elim
end
end L3
namespace L2
open PySem PySem.Spec PyProof.Rows
def Itz(K:Ybf)(a b:Addr):It:=
 ⟨fun i H=>∃ xs ys x y,SqL K H a xs/\SqL K H b ys/\xs[i]?=some x/\ys[i]?=some y,
  fun i H v H'=>∃ p x y,H p=none/\v=.ref p/\H'=upd H p (.tup [x,y])/\∀ xs ys,SqL K H a xs->SqL K H b ys->xs[i]?=some x/\ys[i]?=some y,
  fun i H=>∃ xs ys,SqL K H a xs/\SqL K H b ys/\i=min xs.length ys.length⟩
theorem zkk{P:Program}{w:World}{K:Ybf}{elts:List Expr}{k:Nat}{pos:Pos}{z TI TO i1 i2 l1 l2:Addr}(D:ZipApart z TI TO i1 i2 l1 l2) :
 Turn P w K (.Tuple elts k pos) (Itz K l1 l2) [z,TI,TO,i1,i2] z (fun i h=>IsZip h z TI TO .none/\IsPair h TI (.ref i1) (.ref i2)/\(∃ a b,IsPair h TO a b)/\h.IsListIter i1 l1 i/\h.IsListIter i2 l2 i) where
 mem:=by simp
 obj:=fun i h hyp c hc=>by
  obtain⟨hz,hTI,⟨a,b,hTO⟩,⟨o1,e1,c1,d1⟩,⟨o2,e2,c2,d2⟩⟩:=hyp;have hc':c=z\/c=TI\/c=TO\/c=i1\/c=i2:=by simpa using hc
  rcases hc' with rfl|rfl|rfl|rfl|rfl
  . exact⟨_,hz,fun v z=>by cases(show Data.fields _=Data.cell v from z)⟩
  . exact⟨_,hTI,fun v z=>by cases(show Data.seq _ _=Data.cell v from z)⟩
  . exact⟨_,hTO,fun v z=>by cases(show Data.seq _ _=Data.cell v from z)⟩
  . exact⟨o1,e1,fun v z=>by rw [d1] at z;cases z⟩
  . exact⟨o2,e2,fun v z=>by rw [d2] at z;cases z⟩
 keep:=fun i h h' ⟨hz,hTI,⟨a,b,hTO⟩,h1,h2⟩ kk=>
  ⟨kk z (by simp) _ hz,kk TI (by simp) _ hTI,⟨a,b,kk TO (by simp) _ hTO⟩,h1.at fun o e=>kk i1 (by simp) o e,h2.at fun o e=>kk i2 (by simp) o e⟩
 item:=by
  intro X hP hw hK hc i pins s σ H E I hf st hg;subst hP hw hK;obtain⟨xs,ys,x,y,q1,q2,hx,hy⟩:=hg;obtain⟨its1,r1,p1,_⟩:=I.list q1;obtain⟨its2,r2,p2,_⟩:=I.list q2;obtain⟨u,hu,ru⟩:=r1.get hx;obtain⟨v,hv,rv⟩:=r2.get hy;have W:=WalksT.zip2 (prog:=X.prog) (w:=X.w) (I.ok.hd hc) z TI TO i1 i2 l1 l2 D its1.toArray its2.toArray;have hi:i<min its1.toArray.size its2.toArray.size:=by
   have a1:=(Ya8.mp hu).1;have a2:=(Ya8.mp hv).1;simp only [YaZ];omega
  obtain⟨hz,hTI,hTO,h1,h2⟩:=st;have olt:∀ b∈[z,TI,TO,i1,i2],b<s.heap.objs.size:=fun b hb=>by
   obtain⟨a,b',hTO'⟩:=hTO;have hc':b=z\/b=TI\/b=TO\/b=i1\/b=i2:=by simpa using hb
   rcases hc' with rfl|rfl|rfl|rfl|rfl
   . exact YaX hz
   . exact YaX hTI
   . exact YaX hTO'
   . obtain⟨_,e,_⟩:=h1;exact YaX e
   . obtain⟨_,e,_⟩:=h2;exact YaX e
  refine W.item i s _ _ hi ⟨hz,hTI,hTO,h1,h2,p1.isList,p2.isList⟩ fun T vals h1' tk hv' hT hTup mid kp=>?_
  obtain⟨u',v',hu',hv'',e⟩:=hv';subst e;have eu:u'=u:=by
   have:its1[i]?=some u':=by simpa using hu'
   rw [hu] at this;cases this;rfl
  have ev:v'=v:=by
   have:its2[i]?=some v':=by simpa using hv''
   rw [hv] at this;cases this;rfl
  subst eu ev;refine⟨_,rfl,W.go elts k pos i T _ _ _ mid fun h2' st2 kp2=>?_⟩
  have sub:∀ b∈[z,TO,i1,i2],b∈[z,TI,TO,i1,i2]:=fun b hb=>by
   have hc':b=z\/b=TO\/b=i1\/b=i2:=by simpa using hb
   rcases hc' with rfl|rfl|rfl|rfl<;>simp
  have I1:Inv X pins σ H { s with heap:=h2',toks:=tk }:=I.turnedL (ch:=[z,TO,i1,i2]) (fun b o hb e=>kp2 b o hb (kp b o hb e)) fun b hb=>hf b (sub b hb)
  have hTn:H T=none:=I.hok.fresh hT;obtain⟨o,ho,oc,on,od⟩:=hTup;have ho2:=kp2 T o (W.apart i T _ mid) ho;have I2:Inv X pins σ (upd H T (.tup [x,y])) { s with heap:=h2',toks:=tk }:=I1.track hTn (Ya5 I.sz hT) (WbA (YaU I.lt hT)) (fun n c e z=>by
   obtain⟨vv,q⟩:=I.cell n c e;exact absurd (YaU q.lt (by rw [z];exact hT)) (Yap _)) (fun p hp z=>absurd (YaU (YaX (I.pin p hp).1) (by rw [z];exact hT)) (Yap _))
   ⟨by show 2<=sizeLine;decide,[u',v'],.cons ru (.cons rv .nil),o,ho2,oc,on,od⟩
  refine⟨.ref T,_,I2,rfl,⟨T,x,y,hTn,rfl,rfl,fun xs' ys' z1 z2=>?_⟩,⟨st2.1,st2.2.1,st2.2.2.1,st2.2.2.2.1,st2.2.2.2.2.1⟩,fun b hb=>?_⟩
  . rw [I.list_inj z1 q1,I.list_inj z2 q2];exact⟨hx,hy⟩
  . rw [zg (Yaf (YaU (olt b hb) hT))];exact(hf b hb).1
 done:=by
  intro X hP hw hK hc i pins s σ H E I hf st hg;subst hP hw hK;obtain⟨xs,ys,q1,q2,hi⟩:=hg;obtain⟨its1,r1,p1,_⟩:=I.list q1;obtain⟨its2,r2,p2,_⟩:=I.list q2;have W:=WalksT.zip2 (prog:=X.prog) (w:=X.w) (I.ok.hd hc) z TI TO i1 i2 l1 l2 D its1.toArray its2.toArray;obtain⟨hz,hTI,hTO,h1,h2⟩:=st;have ei:i=min its1.toArray.size its2.toArray.size:=by simp only [YaZ];rw [<-r1.length,<-r2.length];exact hi
  subst ei;refine W.done s _ _ ⟨hz,hTI,hTO,h1,h2,p1.isList,p2.isList⟩ fun h' tk kp=>⟨rfl,?_⟩
  exact I.turnedL (ch:=[z,TO,i1,i2]) kp fun b hb=>hf b (by
   have hc':b=z\/b=TO\/b=i1\/b=i2:=by simpa using hb
   rcases hc' with rfl|rfl|rfl|rfl<;>simp)
 self:=fun _ _ _ _ _ st h=>wpAny_pyIter_zip st.1 h
def iZip(K:Ybf)(ta:TA):TI:=fun σ H R=>ta σ H fun vs H1=>∃ a b,vs=[.ref a,.ref b]/\(∃ xs,SqL K H1 a xs)/\(∃ ys,SqL K H1 b ys)/\R (Itz K a b) H1
theorem zgH{X:Cx}{elts:List Expr}{k:Nat}{tpos:Pos}{a b:Expr}{ta:TA}{p pos:Pos}(hg:Gl X "zip")(hm:X.mg "zip" = none)(ha:PA X [a,b] ta)(hs:starEach [a,b] X.env=[(false,eval a X.env),(false,eval b X.env)]:=by rfl)
 (hs2:starEach [b] X.env=[(false,eval b X.env)]:=by rfl):PI X (.Tuple elts k tpos) (.Call (.Name "zip" p) [a,b] [] pos) (iZip X.K ta):=by
 intro pins s σ H R I h;refine Call_ (jW I hg hm zi7 (Wad (thn (ha pos pins s σ H _ I h) fun us s1 ⟨vs,H1,I1,r1,q1⟩=>?_) (by rw [hs,hs2]) (by rw [hs2];rfl)))
 obtain⟨l1,l2,e,⟨xs,hx⟩,⟨ys,hy⟩,q⟩:=q1;subst e;obtain⟨u,v,rfl,ru,rv⟩:=zbt r1;cases(show u=Value.ref l1 from ru)
 cases(show v=Value.ref l2 from rv)
 obtain⟨its1,_,p1,_⟩:=I1.list hx;obtain⟨its2,_,p2,_⟩:=I1.list hy;have lt1:l1<s1.heap.objs.size:=by obtain⟨o,e,_⟩:=p1.isList;exact YaX e
 have lt2:l2<s1.heap.objs.size:=by obtain⟨o,e,_⟩:=p2.isList;exact YaX e
 refine call_zip_2 p1.isList p2.isList fun h' hz hTI hTO hi1 hi2 hsz kp=>wpAny_pyIter_zip hz ?_
 have I2:Inv X pins σ H1 { s1 with heap:=h' }:=I1.kept (t':=s1.toks) kp
 have D:ZipApart (s1.heap.objs.size+4) (s1.heap.objs.size+2) (s1.heap.objs.size+3) s1.heap.objs.size (s1.heap.objs.size+1) l1 l2:=PySem.W.ktu_apart _ _ _ lt1 lt2;refine⟨_,[s1.heap.objs.size+4,s1.heap.objs.size+2,s1.heap.objs.size+3,s1.heap.objs.size,s1.heap.objs.size+1],_,Itz X.K l1 l2,H1,rfl,I2,zkk D,⟨hz,hTI,⟨_,_,hTO⟩,hi1,hi2⟩,fun b hb=>?_,q⟩
 have hb':s1.heap.objs.size<=b:=by
  have hc':b=s1.heap.objs.size+4\/b=s1.heap.objs.size+2\/b=s1.heap.objs.size+3\/b=s1.heap.objs.size\/b=s1.heap.objs.size+1:=by simpa using hb
  rcases hc' with rfl|rfl|rfl|rfl|rfl<;>first|exact YaY _|exact Nat.le_add_right _ _
 have f:=I1.fpOk (H':=H1) hb' (I1.hok.fresh hb');exact⟨f.1,f.2.1,f.2.2.1,f.2.2.2.1,f.2.2.2.2.1,f.2.2.2.2.2⟩
section
variable{X:Cx}
theorem zeC{us:List Value}{ns:List Int}(h:IntsAre us ns):∃ xs:Array (Int×Tok),us.toArray=intItems xs/\xs.toList.map (·.1)=ns:=by
 obtain⟨xs,e⟩:=h.allInts.items;refine⟨xs,e,?_⟩;have e1:=h.numsOf;have e2:us=xs.toList.map fun p=>Value.int p.1 p.2:=by
  have:=congrArg Array.toList e
  simpa [intItems] using this
 rw [e2,numsOf_map] at e1;exact e1
theorem zlo(hc:X.calm=true):zI X (.builtin "sum") (fun xs H Q=>∃ (p:Addr) (ns:List Int),xs=[.ref p]/\SqL X.K H p (ns.map V.int)/\Q (.int ns.sum) H):=by
 intro pins s σ H xs us Q I r h;obtain⟨p,ns,rfl,hq,q⟩:=h;obtain⟨u,rfl,ru⟩:=j9 r;cases(show u=Value.ref p from ru)
 obtain⟨its,rv,pl,_⟩:=I.list hq;obtain⟨ys,e1,e2⟩:=zeC (za8 rv);have hl:=pl.isList;rw [e1] at hl;refine sum_intListG (I.ok.hd hc) hl fun h' tk t' kp=>⟨.int ns.sum,H,I.kept (t':=tk) kp,⟨t',?_⟩,q⟩
 rw [preSum_eq,Was (by simp),e2]
def maxL:List Int->Int
 | []=>0
 | x::xs=>xs.foldl (fun a b=>if b > a then b else a) x
theorem zhj{α β : Type}(f:β->α->β)(b:β)(l:List α)(a:α):(l++[a]).foldl f b=f (l.foldl f b) a:=by rw [WaR];rfl
theorem zet(ns:List Int):∀ n,n<ns.length->ns.getD (argBest (fun i j=>decide (ns.getD i 0 > ns.getD j 0)) n) 0=maxL (ns.take (n+1))
 | 0, h => by
  cases ns with
  | nil=>simp at h
  | cons x xs=>simp [argBest,maxL]
 | n + 1, h => by
  have ih:=zet ns n #[0]
  have et:ns.take (n+1+1)=ns.take (n+1)++[ns.getD (n+1) 0]:=by
   rw [Yav h,YaP,YaQ h];rfl
  rw [et];cases q:ns.take (n+1) with
  | nil=>
   have:=congrArg List.length q;rw [Wa5,List.length_nil] at this;omega
  | cons x xs=>
   rw [q] at ih;have e1:maxL (x::xs++[ns.getD (n+1) 0])=if ns.getD (n+1) 0 > maxL (x::xs) then ns.getD (n+1) 0 else maxL (x::xs):=by
    show(xs++[ns.getD (n+1) 0]).foldl _ x=_
    rw [zhj];rfl
   rw [e1,<-ih];show ns.getD (if decide (ns.getD (n+1) 0 > ns.getD (argBest (fun i j=>decide (ns.getD i 0 > ns.getD j 0)) n) 0)=true then n+1 else argBest (fun i j=>decide (ns.getD i 0 > ns.getD j 0)) n) 0=_
   by_cases hc:ns.getD (n+1) 0 > ns.getD (argBest (fun i j=>decide (ns.getD i 0 > ns.getD j 0)) n) 0
   . rw [if_pos (decide_eq_true hc),if_pos hc]
   . rw [if_neg (by simpa using hc),if_neg hc]
theorem zdm{xs:Array (Int×Tok)}{ns:List Int}(e:xs.toList.map (·.1)=ns):numAt xs=fun i=>ns.getD i 0:=by
 funext i
 subst e;unfold numAt;rw [YaP,Ya0,Wav]
theorem zhW(hc:X.calm=true):zI X (.builtin "max") (fun xs H Q=>∃ (p:Addr) (ns:List Int),xs=[.ref p]/\ns≠[]/\SqL X.K H p (ns.map V.int)/\Q (.int (maxL ns)) H):=by
 intro pins s σ H xs us Q I r h;obtain⟨p,ns,rfl,hn,hq,q⟩:=h;obtain⟨u,rfl,ru⟩:=j9 r;cases(show u=Value.ref p from ru)
 obtain⟨its,rv,pl,_⟩:=I.list hq;obtain⟨ys,e1,e2⟩:=zeC (za8 rv);have hl:=pl.isList;rw [e1] at hl;have hs:ys.size=ns.length:=by rw [<-e2,YaR];simp
 have hp:0<ns.length:=List.length_pos_iff.mpr hn;refine max_intList (I.ok.hd hc) hl #[0] fun v h' tk hv kp=>?_
 rw [zdm e2,hs] at hv;have hb:=zet ns (ns.length - 1) #[0]
 rw [show ns.length - 1+1=ns.length by omega,YaH] at hb
 generalize argBest (fun i j=>decide (ns.getD i 0 > ns.getD j 0)) (ns.length - 1)=k at hv hb
 have hv':∃ a t,v=.int a t/\ns.getD k 0=a:=by
  unfold intItems at hv;rw [WaH] at hv;cases ek:ys[k]? with
  | none=>rw [ek] at hv;cases hv
  | some pr=>
   rw [ek] at hv;cases hv;refine⟨_,_,rfl,?_⟩;have:=congrFun (zdm e2) k;rw [<-this];unfold numAt;rw [ek];rfl
 obtain⟨a,t,rfl,ea⟩:=hv';exact⟨.int (maxL ns),H,I.kept (t':=tk) kp,⟨t,by rw [<-hb,ea]⟩,q⟩
def isD:PyData->String->Option Bool
 | .int _,n=>if n = "int" then some true else if n = "bool" then some false else none
 | .tuple _,n=>if n = "tuple" then some true else none
 | .list _,n=>if n = "list" then some true else none
 | .str _,n=>if n = "str" then some true else none
 | .bool _,n=>if n = "bool" then some true else none
 | _,_=>none
def tyD:PyData->String
 | .int _=>"int"
 | .tuple _=>"tuple"
 | .list _=>"list"
 | .str _=>"str"
 | .bool _=>"bool"
 | _=>"NoneType"
theorem zoc{d:PyData}{n:String}{b:Bool}(h:isD d n=some b):isB (tyD d) n=some b:=by
 unfold isD at h
 split at h
 . split at h
   . rename_i e;subst e;cases h;rfl
   . split at h
     . rename_i e;subst e;cases h;rfl
     . cases h
 all_goals first
  | (split at h
     . rename_i e;subst e;cases h;rfl
     . cases h)
  | cases h
theorem zhT:zI X (.builtin "isinstance") (fun xs H Q=>∃ x n d b,xs=[x,.ty n]/\RdV X.K H x d/\isD d n=some b/\Q (.bl b) H):=by
 intro pins s σ H xs us Q I r h;obtain⟨x,n,d,b,rfl,rd,hb,q⟩:=h;obtain⟨u,c,rfl,rx,rc⟩:=zbt r;cases(show c=Value.type n from rc)
 have e:=zk5 (K:=X.K) (zoc hb);have fin:∀ tk,EP X pins σ Q (.bool b) { s with toks:=tk }:=fun tk=>⟨.bl b,H,I.tok tk,rfl,q⟩
 cases rd with
 | non=>cases hb
 | bl y=>cases(show u=Value.bool y from rx);exact Wbg PySem.W.kitx_bool I.kIn True.intro e (fun z=>nomatch z) fin
 | int i=>obtain⟨t,q⟩:=(show ∃ t,u=Value.int i t from rx);cases q;exact Wbg PySem.W.kitx_int I.kIn True.intro e (fun z=>nomatch z) fin
 | str y=>obtain⟨t,q⟩:=(show ∃ t,u=Value.str y t from rx);cases q;exact Wbg PySem.W.kitx_str I.kIn True.intro e (fun z=>nomatch z) fin
 | lst hq rs=>
  cases rx;obtain⟨its,rv,⟨o,n,ho,hc,_,hd⟩,_⟩:=I.list hq
  exact Wbg PySem.W.kitx_list I.kIn ⟨o,ho,hc⟩ e (fun z=>nomatch z) fin
 | tup hq rs=>
  cases rx;obtain⟨its,rv,⟨o,ho,hc,n,hd⟩,_⟩:=I.tuple hq
  exact Wbg PySem.W.kitx_tuple I.kIn ⟨o,ho,hc⟩ e (fun z=>nomatch z) fin
end
section
variable{X:Cx}
end
end L2
namespace L3
open PySem PySem.Spec PyProof.Rows L2
variable[LamW]
section
variable{X:Cx}{H0:Hp}{pos p:Pos}{e:Expr}
def jN:List D->Option (List Int)
 | []=>some []
 | .int i::r=>(jN r).map (i :: ·)
 | _::_=>none
theorem jg(ns:List Int):jN (ns.map .int)=some ns:=by
 induction ns with
 | nil=>rfl
 | cons a r ih=>simp [jN,ih]
theorem zbm{K:Ybf}{G:Hp}{vs:List V}{ds:List D}{ns:List Int}(r:RdVs K G vs ds)(e:jN ds=some ns):vs=ns.map V.int:=by
 induction vs generalizing ds ns with
 | nil=>cases r;cases e;rfl
 | cons v vs ih=>
  cases r with
  | @cons _ _ d ds a b=>
   cases d with
   | int i=>
    have e':(jN ds).map (i :: ·)=some ns:=e;cases q:jN ds with
    | none=>rw [q] at e';cases e'
    | some ms=>
     rw [q] at e';cases e';rw [Ya1,ih b q,zB a]
   | _=>cases e
theorem zak{K:Ybf}{H0 G H:Hp}{v:V}{c:Cl}{ds:List D}(w:Vw K H0 G H v c)(s:Sub G H)(hd:c.dat=true)(h:c.d=.list ds):∃ a vs,v=.ref a/\SqL K H a vs/\Rfs K H0 G c.f vs ds:=by
 cases w with
 | sh r=>
  have h':_=PyData.list ds:=h;subst h';obtain⟨a,xs,rfl,hq,rs⟩:=JO r;exact⟨a,xs,rfl,s.seq hq,rs⟩
 | ow hh r n=>cases h;exact⟨_,_,rfl,SqL.of hh,r⟩
 | tr hh=>cases hd
 | dt _ _ _=>cases hd
 | dk _ _=>cases hd
 | ex hh=>cases hd
def sum3:C3:=fun cs Q=>match cs with
 | [c]=>c.dat=true/\∃ ds ns,c.d=.list ds/\jN ds=some ns/\Q true (.int ns.sum)
 | _=>False
theorem jB(hc:X.calm=true):CallOk X (.builtin "sum") sum3:=by
 refine⟨fun cs Q Q' h q=>?_,fun H0=>zI.imp (zlo hc) fun xs H Q=>el2 fun G cs s w q=>?_⟩
 . unfold sum3 at *;split at q
   . obtain⟨a,ds,ns,h1,h2,q⟩:=q;exact⟨a,ds,ns,h1,h2,h _ _ q⟩
   . exact q
 . unfold sum3 at q;split at q
   . obtain⟨v,rfl,w1⟩:=vws1 w
     obtain⟨a,ds,ns,h1,h2,q⟩:=q;obtain⟨l,vs,rfl,hq,rs⟩:=zak w1 s a h1;cases zbm rs.rd h2;exact⟨l,ns,rfl,hq,q _ G H (Gr.refl s) (.sc rfl (.int _))⟩
   . exact q.elim
def max3:C3:=fun cs Q=>match cs with
 | [c]=>c.dat=true/\∃ ds ns,c.d=.list ds/\jN ds=some ns/\ns≠[]/\Q true (.int (maxL ns))
 | _=>False
theorem zkf(hc:X.calm=true):CallOk X (.builtin "max") max3:=by
 refine⟨fun cs Q Q' h q=>?_,fun H0=>zI.imp (zhW hc) fun xs H Q=>el2 fun G cs s w q=>?_⟩
 . unfold max3 at *;split at q
   . obtain⟨a,ds,ns,h1,h2,h3,q⟩:=q;exact⟨a,ds,ns,h1,h2,h3,h _ _ q⟩
   . exact q
 . unfold max3 at q;split at q
   . obtain⟨v,rfl,w1⟩:=vws1 w
     obtain⟨a,ds,ns,h1,h2,h3,q⟩:=q;obtain⟨l,vs,rfl,hq,rs⟩:=zak w1 s a h1;cases zbm rs.rd h2;exact⟨l,ns,rfl,h3,hq,q _ G H (Gr.refl s) (.sc rfl (.int _))⟩
   . exact q.elim
def zaI(t:TA3):TN3:=fun ρ Q=>t ρ fun cs=>∃ c ds,cs=[c]/\c.dat=true/\(c.d=.list ds\/c.d=.tuple ds)/\Q (c.f||ds.all zt) ds
theorem zbG{x:Str}{es:List Expr}{t:TA3}(hg:Gl X x)(hm:X.mg x=none)(hv:bootBuiltins x=some (.type "list"))(ha:PA3 X H0 (e::es) t)(hn:x≠"__name__":=by decide)(hdb:(x==("__debug__" : Str))=false:=by decide)
 (he:starEach (e::es) X.env=(false,eval e X.env)::starEach es X.env:=by rfl) (hpl:(backTo pos (starEach es X.env)).any (·.1)=false:=by rfl):PN3 X H0 (.Call (.Name x p) (e::es) [] pos) (zaI t):=
 ⟨fun ρ Q Q' h q=>ha.mono ρ _ _ (fun cs ⟨c,ds,a,b,d,q⟩=>⟨c,ds,a,b,d,h _ _ q⟩) q,PE.imp (zlL zmo hg hm hv ha.ok hn hdb he hpl) fun σ H Q=>el5 fun G0 ρ G F q=>⟨G0,ρ,G,F,ha.mono ρ _ _ (fun cs hyp vs G1 H1 g1 w=>by
  obtain⟨c,ds,a,b,d,k⟩:=hyp;subst a;obtain⟨v,rfl,w1⟩:=vws1 w
  rcases d with d|d
  . obtain⟨l,us,rfl,hq,rs⟩:=zak w1 g1.sub b d
    exact⟨l,us,rfl,.inl hq,fun l' hl=>k l' us G1 H1 g1 hl rs.or⟩
  . cases w1 with
    | sh r=>
     have d':_=PyData.tuple ds:=d;subst d';obtain⟨l,us,rfl,hq,rs⟩:=Zj r;exact⟨l,us,rfl,.inr (g1.sub.tup hq),fun l' hl=>k l' us G1 H1 g1 hl rs.or⟩
    | ow _ _ _=>cases d
    | tr _=>cases d
    | dt _ _ _=>cases d
    | dk _ _=>cases d
    | ex _=>cases b) q⟩⟩
def zaB(n:String)(te:TE3):TE3:=fun ρ Q=>te ρ fun c=>∃ b,c.dat=true/\L2.isD c.d n=some b/\Q (.sh true (.bool b))
theorem JC{nf:Str}{n:String}{x:Str}{p2:Pos}{te:TE3}(hg:Gl X nf)(hm:X.mg nf=none)(hnf:nf = "isinstance")(hg2:Gl X x)(hm2:X.mg x=none)(hv:bootBuiltins x=some (.type n))(he:PE3 X H0 e te)(hn:x≠"__name__":=by decide)
 (h1:starEach [e,.Name x p2] X.env=(false,eval e X.env)::starEach [.Name x p2] X.env:=by rfl) (h2:starEach [.Name x p2] X.env=(false,eval (.Name x p2) X.env)::starEach [] X.env:=by rfl)
 (hpl:(backTo pos (starEach [.Name x p2] X.env)).any (·.1)=false:=by rfl) (hdx:(x==("__debug__" : Str))=false:=by decide):PE3 X H0 (.Call (.Name nf p) [e,.Name x p2] [] pos) (zaB n te):=by
 subst hnf;exact⟨fun ρ Q Q' h q=>he.mono ρ _ _ (fun c ⟨b,a,d,q⟩=>⟨b,a,d,h _ q⟩) q,PE.imp (zbP (x:="isinstance") zhT hg hm zln (jv he.ok (jv (znb (v:=.ty n) hg2 hm2 hv rfl hn hdx) jD h2) h1) #[1] #[1] h1 hpl) fun σ H Q=>el5 fun G0 ρ G F q=>⟨G0,ρ,G,F,he.mono ρ _ _ (fun c ⟨b,hd,hb,k⟩ v G1 H1 g1 w=>
  ⟨v,n,c.d,b,rfl,w.rd g1.sub hd,hb,k _ G1 H1 g1 (.sh (.sc rfl (.bl b)))⟩) q⟩⟩
def zipD:List D->List D->List D
 | a::as,b::bs=>.tuple [a,b]::zipD as bs
 | _,_=>[]
theorem zdh:∀ as bs,(zipD as bs).length=min as.length bs.length
 | [],_=>by simp [zipD]
 | _::_,[]=>by simp [zipD]
 | a::as,b::bs=>by simp [zipD,zdh as bs,Nat.succ_min_succ]
theorem zf1:∀ {as bs:List D} {i:Nat} {d:D},(zipD as bs)[i]?=some d->∃ a b,d=.tuple [a,b]/\as[i]?=some a/\bs[i]?=some b
 | [],_,i,d,h=>by simp [zipD] at h
 | _::_,[],i,d,h=>by simp [zipD] at h
 | a::as,b::bs,0,d,h=>by cases h;exact⟨a,b,rfl,rfl,rfl⟩
 | a :: as, b :: bs, i + 1, d, h => by
  obtain⟨x,y,h1,h2,h3⟩:=zf1 (i:=i) (show(zipD as bs)[i]?=some d from h)
  exact⟨x,y,h1,h2,h3⟩
def itZ(t:TA3):TI3:=fun ρ Q=>t ρ fun cs=>∃ f g as bs,cs=[.sh f (.list as),.sh g (.list bs)]/\Q (f&&g) (zipD as bs)
theorem zkX{K:Ybf}{H0 G:Hp}{a b:Addr}{xs ys:List V}{f g:Bool}{as bs:List D}(h1:SqL K G a xs)(r1:Rfs K H0 G f xs as)(h2:SqL K G b ys)(r2:Rfs K H0 G g ys bs):ItOk K H0 (Itz K a b) (f&&g) (zipD as bs) G where
 go:=fun i d G' H hd s1 s2=>by
  obtain⟨p,q,rfl,hp,hq⟩:=zf1 hd;obtain⟨x,hx,rx⟩:=r1.get hp;obtain⟨y,hy,ry⟩:=r2.get hq;have ss:=s1.trans s2.s;refine⟨⟨xs,ys,x,y,ss.seq h1,ss.seq h2,hx,hy⟩,fun v H' ⟨l,x',y',hl,e1,e2,hh⟩=>?_⟩
  subst e1 e2;obtain⟨z1,z2⟩:=hh xs ys (ss.seq h1) (ss.seq h2);rw [hx] at z1;rw [hy] at z2;cases z1;cases z2;have gl:=zO (s2.free hl) (.tup [x,y]);exact⟨upd G' l (.tup [x,y]),Gr.put s2 hl,⟨.tup (SqT.of zo) (.cons (JG (s1.trans gl) rx.rd) (.cons (JG (s1.trans gl) ry.rd) .nil)),fun hf=>by
   rw [Yak] at hf;exact .tup (SqT.of zo) (.cons (jk (s1.trans gl) (fun _ _ _ z=>z) (rx.nw hf.1)) (.cons (jk (s1.trans gl) (fun _ _ _ z=>z) (ry.nw hf.2)) .nil))⟩⟩
 stop:=fun i G' H hl s1 s2=>⟨xs,ys,(s1.trans s2.s).seq h1,(s1.trans s2.s).seq h2,by rw [hl,zdh,r1.length,r2.length]⟩
theorem ziA{elts:List Expr}{k:Nat}{tpos:Pos}{a b:Expr}{t:TA3}(hg:Gl X "zip")(hm:X.mg "zip" = none)(ha:PA3 X H0 [a,b] t)(hs:starEach [a,b] X.env=[(false,eval a X.env),(false,eval b X.env)]:=by rfl)
 (hs2:starEach [b] X.env=[(false,eval b X.env)]:=by rfl):PI3 X H0 (.Tuple elts k tpos) (.Call (.Name "zip" p) [a,b] [] pos) (itZ t):=
 ⟨fun ρ Q Q' h q=>ha.mono ρ _ _ (fun cs ⟨f,g,as,bs,e,q⟩=>⟨f,g,as,bs,e,h _ _ q⟩) q,PI.imp (zgH hg hm ha.ok hs hs2) fun σ H R=>el5 fun G0 ρ G F q=>⟨G0,ρ,G,F,ha.mono ρ _ _ (fun cs hyp vs G' H' g w=>by
  obtain⟨fl,fm,as,bs,e,k⟩:=hyp;subst e;obtain⟨v,u,rfl,w1,w2⟩:=vws2 w;obtain⟨x,xs,rfl,hx,rx⟩:=JO (zj w1);obtain⟨y,ys,rfl,hy,ry⟩:=JO (zj w2);exact⟨x,y,rfl,⟨xs,g.sub.seq hx⟩,⟨ys,g.sub.seq hy⟩,k _ G' H' g (zkX hx rx hy ry)⟩) q⟩⟩
end
variable[LamW]
section
variable{K:Ybf}{H0 G0:Hp}{ρ : Env3}{σ : L2.St}{G H:Hp}
theorem Fr3.exc(F:Fr3 K H0 G0 ρ σ G H){i:Nat}{a C:Addr}(h:H a=some (excO a C)):Fr3 K H0 G0 (ρ.set i (some (.ex C))) (σ.set i (some (.ref a))) G H:=F.put (zk.refl _) (.ex h) fun _ h=>False.elim h
theorem Fr3.gone(F:Fr3 K H0 G0 ρ σ G H){i:Nat}:Fr3 K H0 G0 (ρ.set i none) (σ.set i none) G H where
 keep:=F.keep
 sub:=F.sub
 old:=F.old
 g0:=F.g0
 slot:=fun j c e=>by
  rcases zM e with ⟨rfl,q,hl⟩|⟨n,q⟩
  . cases q
  . obtain⟨v',h1,h2⟩:=F.slot j c q
    exact⟨v',by rw [Yac n];exact h1,h2⟩
 mine:=fun j c v a e e' h=>by
  rcases zM e with ⟨rfl,q,hl⟩|⟨n,q⟩
  . cases q
  . rw [Yac n] at e'
    exact F.mine j c v a q e' h
 apart:=fun j k c1 c2 v1 v2 a e1 e2 e3 e4 h1 h2=>by
  rcases zM e1 with ⟨rfl,q,hl⟩|⟨n,q⟩
  . cases q
  . rcases zM e2 with ⟨rfl,q',hl⟩|⟨n',q'⟩
    . cases q'
    . rw [Yac n] at e3
      rw [Yac n'] at e4;exact F.apart j k c1 c2 v1 v2 a q q' e3 e4 h1 h2
 len:=by rw [YaN,YaN];exact F.len
end
theorem PX.imp{X:Cx}{e:List Stmt}{t t':TX}(h:PX X e t)(i:∀ B E σ H,t' B E σ H->t B E σ H):PX X e t':=fun pins s σ H B E I q=>h pins s σ H B E I (i _ _ _ _ q)
section
variable{X:Cx}{H0:Hp}{pos pos' p:Pos}{e:Expr}{es:List Expr}{x:Str}
end
variable[LamW]
theorem znS{P:Program}{w:World}{X:Cx}:Passes (CXR P w) X (fun _ _ _=>False):=fun _ _ _ _ _ _ _ ⟨_,_,_,_,_,h⟩=>h.elim
section
variable{X:Cx}{H0:Hp}{pos:Pos}{x:Str}
theorem g3i{i:Int}(hg:Gl X x)(hm:∃ t,X.mg x=some (.int i t))(hd:(x==("__debug__" : Str))=false:=by decide):PE3 X H0 (.Name x pos) (k3 (.int i)):=by
 obtain⟨t,hm⟩:=hm;exact g3 (v:=.int i) hg hm ⟨t,rfl⟩ (fun _=>.int i) rfl hd
end
theorem sz{n:Nat}(h:n<=1000000):n<=sizeLine:=Ya5 h #[1]
theorem sz0:(0<=sizeLine)=True:=eq_true #[1]
theorem sz1:(1<=sizeLine)=True:=eq_true #[1]
theorem sz2:(2<=sizeLine)=True:=eq_true #[1]
theorem sz3:(3<=sizeLine)=True:=eq_true #[1]
theorem sz4:(4<=sizeLine)=True:=eq_true #[1]
theorem sz6:(6<=sizeLine)=True:=eq_true #[1]
theorem zfW{K:Ybf}{H:Hp}:∀ ns:List Int,RdVs K H (ns.map V.int) (ns.map PyData.int)
 | []=>.nil
 | a::r=>.cons (.int a) (zfW r)
theorem ZY{g:TG3}{tb:TS3}{A:Ends3}{f:Bool}(P:List D->Env3->Prop)(s:∀ d ds ρ,P (d::ds) ρ->∀ W:Env3->Prop,(∀ ρ',P ds ρ'->W ρ')->g f d ρ fun ρ'=>tb { A with nx:=W,ct:=W,bk:=A.nx } ρ')(e:∀ ρ,P [] ρ->A.nx ρ):∀ ds ρ,P ds ρ->forL g tb A f ds ρ
 | [],ρ,h=>e ρ h
 | d::ds,ρ,h=>s d ds ρ h _ fun ρ' p=>ZY P s e ds ρ' p
theorem zm{a b:TS3}{A:Ends3}{ρ : Env3}(h:∀ N:Env3->Prop,(∀ ρ',b A ρ'->N ρ')->a { A with nx:=N } ρ):seq3 a b A ρ:=h (b A) fun _ z=>z
theorem jA{a b:TS3}{A:Ends3}{ρ : Env3}(M:Env3->Prop)(h1:∀ N:Env3->Prop,(∀ ρ',M ρ'->N ρ')->a { A with nx:=N } ρ)(h2:∀ ρ',M ρ'->b A ρ'):seq3 a b A ρ:=h1 (b A) h2
theorem Jx{c:TT3}{tb:TS3}{A:Ends3}(P:Nat->Env3->Prop)(h:∀ n ρ,P n ρ->∀ W:Env3->Prop,(∀ m ρ',m<n->P m ρ'->W ρ')->c ρ fun k=>if k=true then tb { A with nx:=W,ct:=W,bk:=A.nx } ρ else A.nx ρ):∀ n ρ,P n ρ->whN c tb A (n+1) ρ
 | n, ρ, p => by
  have key:∀ k m ρ,m<=k->P m ρ->whN c tb A (k+1) ρ:=by
   intro k
   induction k with
   | zero=>intro m ρ hm p;exact h m ρ p _ (fun m' ρ' hlt _=>absurd hlt #[0])
   | succ k ih=>intro m ρ hm p;exact h m ρ p _ (fun m' ρ' hlt p'=>ih m' ρ' #[0] p')
  exact key n n ρ (YaY _) p
variable[LamW]
theorem jE{α : Type}{g:TG3}{tt:TT3}{te:TE3}{f:Bool}(enc out:α->D)(R:Env3->Prop):∀ (xs:List α),(∀ x∈xs,∀ ρ fa acc (K:Bool->List D->Env3->Prop),R ρ->(∀ ρ',R ρ'->K fa (acc++[out x]) ρ')->
 g f (enc x) ρ fun ρ'=>tt ρ' fun k=>if k=true then te ρ' fun c=>asS c fun fy y=>K (fa&&fy) (acc++[y]) ρ' else K fa acc ρ')->∀ fa acc ρ (Q:Bool->List D->Prop),R ρ->Q fa (acc++xs.map out)->Jw g tt te f (xs.map enc) fa acc ρ Q
 | [],_,fa,acc,ρ,Q,_,q=>by show Q fa acc;simpa using q
 | x::xs,s,fa,acc,ρ,Q,hR,q=>s x YaV ρ fa acc (fun fa acc ρ'=>Jw g tt te f (xs.map enc) fa acc ρ' Q) hR fun ρ' hR'=>
  jE enc out R xs (fun y hy=>s y (YaT _ hy)) fa (acc++[out x]) ρ' Q hR' (by rw [Yag];exact q)
theorem zfG{α β : Type}(e1:α->D)(e2:β->D):∀ (xs:List α) (ys:List β),zipD (xs.map e1) (ys.map e2)=(xs.zip ys).map fun p=>.tuple [e1 p.1,e2 p.2]
 | [],_=>by simp [zipD]
 | _::_,[]=>by simp [zipD]
 | x::xs,y::ys=>by simp [zipD,zfG e1 e2 xs ys]
theorem zdH{α β : Type}(e:α->β)(xs:List α)(i:Int):atI (xs.map e) i=(atI xs i).map e:=by
 unfold atI;rw [YaR];cases ixN xs.length i with
 | none=>rfl
 | some j=>simp
end L3
namespace L3
theorem zmr(lo:Int)(n:Nat):nums lo (n+1)=.int lo::nums (lo+1) n:=by
 unfold nums;rw [List.range_succ_eq_map,Ya1,YaD]
 congr 1
 . simp
 . apply Yat
   intro i _;simp only [Function.comp]
   congr 1
   omega
theorem Jp{g:TG3}{tb:TS3}{A:Ends3}{f:Bool}{lo:Int}{n:Nat}(P:Nat->Env3->Prop)(s:∀ k ρ,k<n->P k ρ->∀ W:Env3->Prop,(∀ ρ',P (k+1) ρ'->W ρ')->g f (.int (lo+k)) ρ fun ρ'=>tb { A with nx:=W,ct:=W,bk:=A.nx } ρ')(e:∀ ρ,P n ρ->A.nx ρ){ρ : Env3}(h:P 0 ρ):forL g tb A f (nums lo n) ρ:=by
 have key:∀ m k ρ,k+m=n->P k ρ->forL g tb A f (nums (lo+k) m) ρ:=by
  intro m
  induction m with
  | zero => intro k ρ hk p; have : k = n := by omega
            subst this;exact e ρ p
  | succ m ih=>
   intro k ρ hk p;rw [zmr];refine s k ρ #[0] p _ fun ρ' p'=>?_
   have:=ih (k+1) ρ' #[0] p'
   rw [show lo+((k+1:Nat):Int)=lo+k+1 by omega] at this
   exact this
 have:=key n 0 ρ #[0] h
 simpa using this
theorem j0{α : Type}{g:TG3}{tb:TS3}{A:Ends3}{f:Bool}(enc:α->D)(l:List α)(P:List α->Env3->Prop)(s:∀ done x rest ρ,l=done++x::rest->P done ρ->∀ W:Env3->Prop,(∀ ρ',P (done++[x]) ρ'->W ρ')->g f (enc x) ρ fun ρ'=>tb { A with nx:=W,ct:=W,bk:=A.nx } ρ')(e:∀ ρ,P l ρ->A.nx ρ){ρ : Env3}(h:P [] ρ):forL g tb A f (l.map enc) ρ:=by
 have key:∀ rest done ρ,l=done++rest->P done ρ->forL g tb A f (rest.map enc) ρ:=by
  intro rest
  induction rest with
  | nil=>intro done ρ hl p;rw [Yao] at hl;subst hl;exact e ρ p
  | cons x rest ih=>
   intro done ρ hl p;exact s done x rest ρ hl p _ fun ρ' p'=>ih (done++[x]) ρ' (by rw [hl,Yag];rfl) p'
 exact key l [] ρ rfl h
end L3
namespace L3
open PySem L2
mutual
theorem Jc:∀ {d:D},PyData.canLay0 d=true->PyData.eqv d d=true
 | .none,_=>by simp [PyData.eqv]
 | .bool b,_=>by simp [PyData.eqv]
 | .int i,_=>by simp [PyData.eqv]
 | .str x,_=>by simp [PyData.eqv]
 | .list xs, h => by
  have h':PyData.canLayAll0 xs=true:=by simpa [PyData.canLay0] using h
  simpa [PyData.eqv] using eqvAll_refl h'
 | .tuple xs, h => by
  have h':PyData.canLayAll0 xs=true:=by simpa [PyData.canLay0] using h
  simpa [PyData.eqv] using eqvAll_refl h'
 | .dict _,h=>by simp [PyData.canLay0] at h
theorem eqvAll_refl:∀ {ds:List D},PyData.canLayAll0 ds=true->PyData.eqvAll ds ds=true
 | [],_=>by simp [PyData.eqvAll]
 | d :: ds, h => by
  have h':PyData.canLay0 d=true/\PyData.canLayAll0 ds=true:=by simpa [PyData.canLayAll0] using h
  simp [PyData.eqvAll,Jc h'.1,eqvAll_refl h'.2]
end
def Plain(n:Nat)(d:D):Prop:=PyData.canLay0 d=true/\PyData.depth d<=n
theorem Plain.shaped{n:Nat}{d:D}(h:Plain n d)(hn:n<=64):SeqAt.shaped d=true:=by
 unfold SeqAt.shaped;rw [h.1,Wbr];exact decide_eq_true (Ya5 h.2 hn)
theorem Plain.int(i:Int):Plain 0 (.int i):=⟨by simp [PyData.canLay0],by simp [PyData.depth]⟩
theorem Plain.bool(i:Bool):Plain 0 (.bool i):=⟨by simp [PyData.canLay0],by simp [PyData.depth]⟩
theorem Plain.none:Plain 0 .none:=⟨by simp [PyData.canLay0],by simp [PyData.depth]⟩
theorem zbT{n:Nat}:∀ {ds:List D},(∀ d∈ds,Plain n d)->PyData.canLayAll0 ds=true/\PyData.depthAll ds<=n
 | [],_=>by simp [PyData.canLayAll0,PyData.depthAll]
 | d :: ds, h => by
  obtain⟨h1,h2⟩:=h d YaV;obtain⟨h3,h4⟩:=zbT (ds:=ds) fun x hx=>h x (YaT _ hx)
  simp [PyData.canLayAll0,PyData.depthAll,h1,h3]
  omega
theorem Plain.list{n:Nat}{ds:List D}(h:∀ d∈ds,Plain n d):Plain (n+1) (.list ds):=by
 obtain⟨h1,h2⟩:=zbT h;exact⟨by simp [PyData.canLay0,h1],by simp [PyData.depth,h2]⟩
theorem Plain.tuple{n:Nat}{ds:List D}(h:∀ d∈ds,Plain n d):Plain (n+1) (.tuple ds):=by
 obtain⟨h1,h2⟩:=zbT h;exact⟨by simp [PyData.canLay0,h1],by simp [PyData.depth,h2]⟩
theorem Plain.mono{m n:Nat}{d:D}(h:Plain m d)(hn:m<=n):Plain n d:=⟨h.1,Ya5 h.2 hn⟩
theorem zds{α : Type}{xs:List α}{i:Int}(h0:0<=i)(h:i<xs.length):∃ x,atI xs i=some x/\x∈xs/\xs[i.toNat]?=some x:=by
 have hk:i.toNat<xs.length:=#[0]
 refine⟨xs[i.toNat],?_,Ya4 hk,YaQ hk⟩
 have:=J0 (xs:=xs) (j:=i.toNat) (YaQ hk);rwa [show((i.toNat:Nat):Int)=i by omega] at this
theorem zcV{n:Nat}{i:Int}(h0:0<=i)(h:i<n):ixN n i=some i.toNat:=by
 unfold ixN;rw [if_pos h0,if_pos h]
end L3
namespace L2
open PySem PySem.Spec PyProof.Rows
section
variable{X:Cx}
end
end L2
namespace L3
open PySem PySem.Spec PyProof.Rows L2
variable[LamW]
section
variable{X:Cx}{H0:Hp}{e:Expr}{pos p:Pos}
def zaH(i j:Nat)(te:TE3):TS3:=fun A ρ=>∃ f ds g es,ρ[i]?=some (some (.ow f ds))/\ρ[j]?=some (some (.ow g es))/\i≠j/\te ρ fun c=>∃ n d,c=.sh true (.int n)/\0<=n/\n<2 ^ 62/\es[n.toNat]?=some d/\ds.length<sizeLine/\A.nx ((ρ.set j (some (.ow g (es.eraseIdx n.toNat)))).set i (some (.ow (f&&g) (ds++[d]))))
theorem zj1{i j:Nat}{te:TE3}{x y:Str}{np apos cpos np2 apos2 cpos2:Pos}(hN:X.N[i]?=some x)(hv:Vis X.env.scope x)(hN2:X.N[j]?=some y)(hv2:Vis X.env.scope y)(he:PE3 X H0 e te)(hd:(x==("__debug__" : Str))=false:=by decide)(hcd:(x==("__classdict__" : Str))=false:=by decide)
 (hd2:(y==("__debug__" : Str))=false:=by decide) (hcd2:(y==("__classdict__" : Str))=false:=by decide)
 (hb:attributeBase (.Name x np) "append" X.env (eval (.Name x np) X.env)=eval (.Name x np) X.env:=by rfl)
 (hb2:attributeBase (.Name y np2) "pop" X.env (eval (.Name y np2) X.env)=eval (.Name y np2) X.env:=by rfl)
 (hf:((backTo cpos (starEach [(Expr.Call (.Attribute (.Name y np2) "pop" apos2) [e] [] cpos2)] X.env)).all (fun x=>!x.1)&&(backToKw cpos (keywordEach [] X.env)).all (fun x=>x.1.isSome)&&decide ([(Expr.Call (.Attribute (.Name y np2) "pop" apos2) [e] [] cpos2)].length+([]:List Keyword).length+(if([]:List Keyword).isEmpty then 0 else 1)<30))=true:=by rfl)
 (hf2:((backTo cpos2 (starEach [e] X.env)).all (fun x=>!x.1)&&(backToKw cpos2 (keywordEach [] X.env)).all (fun x=>x.1.isSome)&&decide ([e].length+([]:List Keyword).length+(if([]:List Keyword).isEmpty then 0 else 1)<30))=true:=by rfl)
 (hl:(apos.endLine==cpos.line)=true:=by rfl) (hl2:(apos2.endLine==cpos2.line)=true:=by rfl)
 (hs:starEach [(Expr.Call (.Attribute (.Name y np2) "pop" apos2) [e] [] cpos2)] X.env=(false,eval (Expr.Call (.Attribute (.Name y np2) "pop" apos2) [e] [] cpos2) X.env)::starEach [] X.env:=by rfl)
 (hs2:starEach [e] X.env=(false,eval e X.env)::starEach [] X.env:=by rfl)
 (hp:(backTo cpos (starEach [] X.env)).any (·.1)=false:=by rfl) (hp2:(backTo cpos2 (starEach [] X.env)).any (·.1)=false:=by rfl)
 (hw:swapsWith (.Call (.Attribute (.Name x np) "append" apos) [(Expr.Call (.Attribute (.Name y np2) "pop" apos2) [e] [] cpos2)] [] cpos) none pos.line X.env=pure false:=by rfl) :
 PS3 X H0 (.Expr (.Call (.Attribute (.Name x np) "append" apos) [(Expr.Call (.Attribute (.Name y np2) "pop" apos2) [e] [] cpos2)] [] cpos) pos) (zaH i j te):=by
 refine PS.imp (zaA (zck (jJ hN hv hd hcd) (jv (ziU (jJ hN2 hv2 hd2 hcd2) (jv he.ok jD hs2) hb2 hf2 hl2 hs2 hp2) jD hs) hb hf hl hs hp) hw) fun B σ H hyp=>?_
 obtain⟨G0,A,ρ,G,F,⟨f,ds,g,es,hi,hj,hij,q⟩,L⟩:=hyp;obtain⟨l,vs,h1,h2,r⟩:=Z3 F hi;obtain⟨m,us,k1,k2,t⟩:=Z3 F hj;refine⟨.ref l,h1,zaY h2,.ref m,k1,zaY k2,G0,ρ,G,F,he.mono ρ _ _ (fun c hc0 v G' H' gr w=>?_) q⟩
 obtain⟨n,d,hc,n0,n1,hd,hz,q⟩:=hc0;subst hc;have rk:=(zj w).rd;cases rk;obtain⟨u,hu,ru⟩:=(t.same gr.g).get hd;have hlen:n.toNat<us.length:=(Ya8.mp hu).1;have hix:seqIndex? n us.length=some n.toNat:=by
  unfold seqIndex?;rw [if_neg (show ¬n<0 by omega)]
  simp only [];rw [if_pos (by simp only [Yak,decide_eq_true_eq];omega)]
 refine⟨m,us,n,n.toNat,u,rfl,rfl,gr.h.at k2,#[0],#[0],hix,hu,?_⟩
 have F1:=(F.gr gr).change hj k1 ((t.same gr.g).eraseIdx n.toNat);have hi':(ρ.set j (some (.ow g (es.eraseIdx n.toNat))))[i]?=some (some (.ow f ds)):=by rw [Yac (WbM hij)];exact hi
 obtain⟨l',vs',e1,e2,r'⟩:=Z3 F1 hi';rw [h1] at e1;cases e1;refine⟨l,vs',u,rfl,rfl,e2,by rw [r'.length];exact hz,L.nx _ _ _ _ (F1.change hi' h1 (r'.snoc ru)) q⟩
end
variable[LamW]
section
variable{K:Ybf}{H0 G0:Hp}{ρ : Env3}{σ : L2.St}{G H G' H':Hp}
end
section
variable{X:Cx}{H0:Hp}{e:Expr}{es:List Expr}{pos p:Pos}{x:Str}
abbrev TR3:=Env3->(D->Prop)->Prop
def zgB(K:Ybf)(H0:Hp)(t:TR3):TE:=fun σ H Q=>∃ G0 ρ G,Fr3 K H0 G0 ρ σ G H/\t ρ fun d=>∀ v G1 H1 G2 H2,Gr G H G1 H1->Gr G1 H1 G2 H2->RdN K H1 G2 v d->Q v H2
structure PR3(X:Cx)(H0:Hp)(e:Expr)(t:TR3):Prop where
 mono:∀ ρ (Q Q':D->Prop),(∀ c,Q c->Q' c)->t ρ Q->t ρ Q'
 ok:PE X e (zgB X.K H0 t)
def zaJ(sp:Sp3)(E:Addr->Prop)(t:TA3):TR3:=fun ρ Q=>t ρ fun cs=>∃ p,shs cs=some p/\sp p.2 (fun f d=>f=true/\Q d) E
end
theorem zic{K:Ybf}{H0 G:Hp}{us:List V}{ds:List D}(h:RdNs K H0 G us ds):us.length=ds.length:=(rdns_rd h).length
section
variable{X:Cx}
end
end L3
namespace L2
open PySem PySem.Spec PyProof.Rows
section
variable{X:Cx}
def zjL(K:Ybf):V->List V->Hp->VK->Prop:=fun x vs H Q=>∃ (p:Addr) (ns:List Int) (n:Int),x=.ref p/\vs=[.int n]/\SqL K H p (ns.map V.int)/\n∈ns/\Q (.int (ns.idxOf n:Nat)) H
theorem zkL:MtM X "list.index" (zjL X.K):=by
 intro pins s σ H x vs v us Q I rx rv h;obtain⟨p,ns,n,rfl,rfl,hq,hk,q⟩:=h;cases rx;obtain⟨u,rfl,t,rfl⟩:=rv.one;obtain⟨its,r,pl,hz⟩:=I.list hq;have hi:=za8 r;obtain⟨⟨cls,dd,data,sl⟩,ho,hc,n',hd⟩:=pl.isList;simp only at hc hd;subst hc hd;have hlen:=hi.length;have hj:ns.idxOf n<ns.length:=List.idxOf_lt_length_iff.mpr hk;have hn:=JI;rw [YaR] at hz;refine call_meets PySem.F.slot_list_index ⟨_,ho,rfl⟩ PySem.F.entry_list_index (PySem.F.args_list_index_2 _ _)
  (SeqAt.list_indexAt p its.toArray n' dd sl (.int n t) (isInt n) (ns.idxOf n) (by simpa [hlen] using hj) #[0] ?_ ?_) ⟨ho,fun y hy=>(eq_isInt n t hi y (by simpa using hy)).at _ _,⟨.int _,H,I.tok _,⟨_,rfl⟩,q⟩⟩
 . show isInt n its[ns.idxOf n]=true
   rw [isInt_at n hi _ #[0] hj]
   simpa using List.getElem_idxOf hj
 . intro j hjs hlt
   show isInt n its[j]=false
   rw [isInt_at n hi j (by simpa using hjs) #[0]]
   exact ne_of_lt_idxOf hlt _
end
end L2
namespace L3
open PySem PySem.Spec PyProof.Rows L2
variable[LamW]
section
variable{X:Cx}{H0:Hp}{e:Expr}{pos:Pos}
def aug3(i:Nat)(te:TE3):TS3:=fun A ρ=>∃ f n,ρ[i]?=some (some (.sh f (.int n)))/\te ρ fun c=>∃ g m,c=.sh g (.int m)/\A.nx (ρ.set i (#[5,n+m]))
theorem zhI{i:Nat}{x:Str}{te:TE3}{pos':Pos}(hN:X.N.Nodup)(hi:X.N[i]?=some x)(hx:Loc X.env.scope x)(he:PE3 X H0 e te)
 (hf:X.fn x=true\/X.env.scope.names.lookup x=some .local:=by first|exact .inl rfl|exact .inr rfl|assumption):PS3 X H0 (.AugAssign (.Name x pos') .Add e pos) (aug3 i te):=
 PS.imp (zi4 hN hi hx he.ok zmD hf) fun B σ H hyp=>by
  obtain⟨G0,A,ρ,G,F,⟨f,n,h,q⟩,L⟩:=hyp;obtain⟨v,h1,h2⟩:=F.slot i _ h;have r:=zB (zj h2).rd;subst r;refine⟨_,h1,G0,ρ,G,F,he.mono ρ _ _ (fun c ⟨g,m,hc,q⟩ v G1 H1 g1 w=>?_) q⟩
  subst hc;have r:=zB (zj w).rd;subst r;exact⟨n,m,rfl,rfl,L.nx _ _ _ _ ((F.gr g1).set (.sc rfl (.int _))) q⟩
def par3(i j:Nat)(t:TA3):TS3:=fun A ρ=>t ρ fun cs=>∃ f a g b,cs=[.sh f a,.sh g b]/\A.nx ((ρ.set i (some (.sh f a))).set j (some (.sh g b)))
theorem zdQ{i j:Nat}{x y:Str}{a b:Expr}{ta:TA3}{px py pt:Pos}{kt k2 pt2}(hc:X.calm=true)(hN:X.N.Nodup)(hi:X.N[i]?=some x)(hj:X.N[j]?=some y)(hij:i≠j)
 (hx:X.env.scope.names.lookup x=some .local) (hy:X.env.scope.names.lookup y=some .local) (ha:PA3 X H0 [a,b] ta)
 (hw:swappedStores [.Tuple [.Name x px,.Name y py] kt pt] (.Tuple [a,b] k2 pt2) X.env=pure (some [x,y]):=by rfl)
 (hs:swapsWithSole [.Tuple [.Name x px,.Name y py] kt pt] (.Tuple [a,b] k2 pt2) pos.line X.env=pure false:=by rfl) :
 PS3 X H0 (.Assign [.Tuple [.Name x px,.Name y py] kt pt] (.Tuple [a,b] k2 pt2) pos) (par3 i j ta):=
 PS.imp (zmQ hc hN hi hj hij hx hy ha.ok hw hs) fun B σ H=>el7 fun G0 A ρ G F q L=>⟨G0,ρ,G,F,ha.mono ρ _ _ (fun cs hyp vs G1 H1 g1 w=>by
  obtain⟨f,a,g,b,hcs,q⟩:=hyp;subst hcs;obtain⟨v,u,rfl,w1,w2⟩:=vws2 w;exact⟨v,u,rfl,L.nx _ _ _ _ (((F.gr g1).set (zj w1)).set (zj w2)) q⟩) q⟩
def idx3(to te:TE3):TE3:=fun ρ Q=>to ρ fun c=>∃ ds ns,c.dat=true/\c.d=.list ds/\jN ds=some ns/\te ρ fun c2=>∃ g n,c2=.sh g (.int n)/\n∈ns/\Q (.sh true (.int (ns.idxOf n:Nat)))
theorem zjJ{o:Expr}{apos:Pos}{to te:TE3}(ho:PE3 X H0 o to)(he:PE3 X H0 e te)(hb:attributeBase o "index" X.env (eval o X.env)=eval o X.env:=by rfl)
 (hf:((backTo pos (starEach [e] X.env)).all (fun x=>!x.1)&&(backToKw pos (keywordEach [] X.env)).all (fun x=>x.1.isSome)&&decide ([e].length+([]:List Keyword).length+(if([]:List Keyword).isEmpty then 0 else 1)<30))=true:=by rfl)
 (hl:(apos.endLine==pos.line)=true:=by rfl) (hs:starEach [e] X.env=(false,eval e X.env)::starEach [] X.env:=by rfl) (hp:(backTo pos (starEach [] X.env)).any (·.1)=false:=by rfl) :
 PE3 X H0 (.Call (.Attribute o "index" apos) [e] [] pos) (idx3 to te):=by
 refine⟨fun ρ Q Q' h q=>ho.mono ρ _ _ (fun c ⟨ds,ns,a,b,d,q⟩=>⟨ds,ns,a,b,d,he.mono ρ _ _ (fun c2 ⟨g,n,x,y,q⟩=>⟨g,n,x,y,h _ q⟩) q⟩) q,PE.imp (za4 Wao PySem.F.slot_list_index PySem.F.type_list_index zkL ho.ok (jv he.ok jD hs) hb hf hl hs hp) fun σ H Q=>el5 fun G0 ρ G F q=>⟨G0,ρ,G,F,ho.mono ρ _ _ (fun c hc0 v G1 H1 g1 w=>?_) q⟩⟩
 obtain⟨ds,ns,hd,hc,hu,q⟩:=hc0;obtain⟨a,vs,rfl,hq,rs⟩:=zak w g1.sub hd hc;refine⟨.inl ⟨rfl,_,hq⟩,G0,ρ,G1,F.gr g1,he.mono ρ _ _ (fun c2 hc1 v2 G2 H2 g2 w2=>?_) q⟩
 obtain⟨g,n,rfl,hn,q⟩:=hc1;have r:=zB (zj w2).rd;subst r;have hvs:=zbm rs.rd hu;subst hvs;exact⟨a,ns,n,rfl,rfl,g2.h.seq hq,hn,q _ G2 H2 (g1.trans g2) (.sh (.sc rfl (.int _)))⟩
def ext3(i:Nat)(te:TE3):TS3:=fun A ρ=>∃ f ds,ρ[i]?=some (some (.ow f ds))/\te ρ fun c=>∃ es,c=.sh true (.list es)/\ds.length+es.length<=sizeLine/\A.nx (ρ.set i (some (.ow f (ds++es))))
theorem zlH{i:Nat}{te:TE3}{x:Str}{np apos cpos:Pos}(hN:X.N[i]?=some x)(hv:Vis X.env.scope x)(he:PE3 X H0 e te)(hd:(x==("__debug__" : Str))=false:=by decide)(hcd:(x==("__classdict__" : Str))=false:=by decide)
 (hb:attributeBase (.Name x np) "extend" X.env (eval (.Name x np) X.env)=eval (.Name x np) X.env:=by rfl)
 (hf:((backTo cpos (starEach [e] X.env)).all (fun x=>!x.1)&&(backToKw cpos (keywordEach [] X.env)).all (fun x=>x.1.isSome)&&decide ([e].length+([]:List Keyword).length+(if([]:List Keyword).isEmpty then 0 else 1)<30))=true:=by rfl)
 (hl:(apos.endLine==cpos.line)=true:=by rfl) (hs:starEach [e] X.env=(false,eval e X.env)::starEach [] X.env:=by rfl) (hp:(backTo cpos (starEach [] X.env)).any (·.1)=false:=by rfl)
 (hw:swapsWith (.Call (.Attribute (.Name x np) "extend" apos) [e] [] cpos) none pos.line X.env=pure false:=by rfl):PS3 X H0 (.Expr (.Call (.Attribute (.Name x np) "extend" apos) [e] [] cpos) pos) (ext3 i te):=by
 refine PS.imp (zaA (za4 Wao PySem.F.slot_list_extend PySem.F.type_list_extend zhg (jJ hN hv hd hcd) (jv he.ok jD hs) hb hf hl hs hp) hw) fun B σ H hyp=>?_
 obtain⟨G0,A,ρ,G,F,⟨f,ds,hi,q⟩,L⟩:=hyp;obtain⟨l,vs,h1,h2,r⟩:=Z3 F hi;refine⟨.ref l,h1,zaY h2,G0,ρ,G,F,he.mono ρ _ _ (fun c ⟨es,hc,hz,q⟩ v G' H' g w=>?_) q⟩
 subst hc;have rw':=zj w;have rn:=rw'.nw rfl;cases rn with
 | lst hG hn rs=>
  rename_i b xs;have ra:Rfs X.K H0 G' f (vs++xs) (ds++es):=⟨((r.same g.g).rd).append (rdns_rd rs),fun hf=>zb1 ((r.same g.g).nw hf) rs⟩
  exact⟨l,b,vs,xs,rfl,rfl,g.h.at h2,g.sub.s _ _ hG,by rw [r.length,(rdns_rd rs).length];exact hz,L.nx _ _ _ _ ((F.gr g).change hi h1 ra) q⟩
end
end L3
namespace L2
open PySem PySem.Spec PyProof.Rows
theorem zfB:bootBuiltins "enumerate" = some (.type "enumerate"):=by with_unfolding_all rfl
def Ite(K:Ybf)(a:Addr):It:=
 ⟨fun i H=>∃ xs x,SqL K H a xs/\xs[i]?=some x,
  fun i H v H'=>∃ p x,H p=none/\v=.ref p/\H'=upd H p (.tup [.int i,x])/\∀ xs,SqL K H a xs->xs[i]?=some x,
  fun i H=>∃ xs,SqL K H a xs/\i=xs.length⟩
theorem zml{P:Program}{w:World}{K:Ybf}{elts:List Expr}{k:Nat}{pos:Pos}{e it l:Addr}(hei:e≠it)(hle:l≠e)(hli:l≠it) :
 Turn P w K (.Tuple elts k pos) (Ite K l) [e,it] e (fun i h=>(∃ old,IsEnum h e it i old)/\h.IsListIter it l i) where
 mem:=by simp
 obj:=fun i h hyp c hc=>by
  obtain⟨⟨old,he⟩,⟨o1,e1,c1,d1⟩⟩:=hyp;have hc':c=e\/c=it:=by simpa using hc
  rcases hc' with rfl|rfl
  . exact⟨_,he,fun v z=>by cases(show Data.fields _=Data.cell v from z)⟩
  . exact⟨o1,e1,fun v z=>by rw [d1] at z;cases z⟩
 keep:=fun i h h' ⟨⟨old,he⟩,h1⟩ kk=>⟨⟨old,kk e (by simp) _ he⟩,h1.at fun o e=>kk it (by simp) o e⟩
 item:=by
  intro X hP hw hK hc i pins s σ H E I hf st hg;subst hP hw hK;obtain⟨xs,x,q1,hx⟩:=hg;obtain⟨its1,r1,p1,_⟩:=I.list q1;obtain⟨u,hu,ru⟩:=r1.get hx;have W:=WalksT.enumerate (prog:=X.prog) (w:=X.w) (A:=X.A) (I.ok.hd hc) e it l hei hle hli its1.toArray;have hi:i<its1.toArray.size:=by
   have a1:=(Ya8.mp hu).1;simp only [YaZ];omega
  obtain⟨he,h1⟩:=st;have olt:∀ b∈[e,it],b<s.heap.objs.size:=fun b hb=>by
   obtain⟨old,he'⟩:=he;have hc':b=e\/b=it:=by simpa using hb
   rcases hc' with rfl|rfl
   . exact YaX he'
   . obtain⟨_,e,_⟩:=h1;exact YaX e
  refine W.item i s _ _ hi ⟨he,h1,p1.isList⟩ fun T vals h1' tk hv' hT hTup mid kp=>?_
  obtain⟨t',u',hu',e'⟩:=hv';subst e';have eu:u'=u:=by
   have:its1[i]?=some u':=by simpa using hu'
   rw [hu] at this;cases this;rfl
  subst eu;refine⟨_,rfl,W.go elts k pos i T _ _ _ mid fun h2' st2 kp2=>?_⟩
  have I1:Inv X pins σ H { s with heap:=h2',toks:=tk }:=I.turnedL (ch:=[e,it]) (fun b o hb e=>kp2 b o hb (kp b o hb e)) fun b hb=>hf b hb
  have hTn:H T=none:=I.hok.fresh hT;obtain⟨o,ho,oc,on,od⟩:=hTup;have ho2:=kp2 T o (W.apart i T _ mid) ho;have I2:Inv X pins σ (upd H T (.tup [.int i,x])) { s with heap:=h2',toks:=tk }:=I1.track hTn (Ya5 I.sz hT) (WbA (YaU I.lt hT)) (fun n c e z=>by
   obtain⟨vv,q⟩:=I.cell n c e;exact absurd (YaU q.lt (by rw [z];exact hT)) (Yap _)) (fun p hp z=>absurd (YaU (YaX (I.pin p hp).1) (by rw [z];exact hT)) (Yap _))
   ⟨by show 2<=sizeLine;decide,[.int i t',u'],.cons ⟨t',rfl⟩ (.cons ru .nil),o,ho2,oc,on,od⟩
  refine⟨.ref T,_,I2,rfl,⟨T,x,hTn,rfl,rfl,fun xs' z1=>?_⟩,⟨st2.1,st2.2.1⟩,fun b hb=>?_⟩
  . rw [I.list_inj z1 q1];exact hx
  . rw [zg (Yaf (YaU (olt b hb) hT))];exact(hf b hb).1
 done:=by
  intro X hP hw hK hc i pins s σ H E I hf st hg;subst hP hw hK;obtain⟨xs,q1,hi⟩:=hg;obtain⟨its1,r1,p1,_⟩:=I.list q1;have W:=WalksT.enumerate (prog:=X.prog) (w:=X.w) (A:=X.A) (I.ok.hd hc) e it l hei hle hli its1.toArray;obtain⟨he,h1⟩:=st;have ei:i=its1.toArray.size:=by simp only [YaZ];rw [<-r1.length];exact hi
  subst ei;refine W.done s _ _ ⟨he,h1,p1.isList⟩ fun h' tk kp=>⟨rfl,?_⟩
  exact I.turnedL (ch:=[e,it]) kp fun b hb=>hf b hb
 self:=fun _ _ _ _ _ st h=>by obtain⟨⟨old,he⟩,_⟩:=st;exact wpAny_pyIter_enum he h
def zgg(K:Ybf)(ta:TA):TI:=fun σ H R=>ta σ H fun vs H1=>∃ a,vs=[.ref a]/\(∃ xs,SqL K H1 a xs)/\R (Ite K a) H1
theorem zn2{X:Cx}{elts:List Expr}{k:Nat}{tpos:Pos}{a:Expr}{ta:TA}{p pos:Pos}(hg:Gl X "enumerate")(hm:X.mg "enumerate" = none)(ha:PA X [a] ta)(hs:starEach [a] X.env=[(false,eval a X.env)]:=by rfl):PI X (.Tuple elts k tpos) (.Call (.Name "enumerate" p) [a] [] pos) (zgg X.K ta):=by
 intro pins s σ H R I h;refine Call_ (jW I hg hm zfB (Wad (thn (ha pos pins s σ H _ I h) fun us s1 ⟨vs,H1,I1,r1,q1⟩=>?_) (by rw [hs];rfl) rfl))
 obtain⟨l1,e,⟨xs,hx⟩,q⟩:=q1;subst e;obtain⟨u,rfl,ru⟩:=j9 r1;cases(show u=Value.ref l1 from ru)
 obtain⟨its1,_,p1,_⟩:=I1.list hx;have lt1:l1<s1.heap.objs.size:=by obtain⟨o,e,_⟩:=p1.isList;exact YaX e
 refine call_enumerate_list p1.isList fun h' he hi1 hsz kp=>wpAny_pyIter_enum he ?_
 have I2:Inv X pins σ H1 { s1 with heap:=h' }:=I1.kept (t':=s1.toks) kp
 refine⟨_,[s1.heap.objs.size+1,s1.heap.objs.size],_,Ite X.K l1,H1,rfl,I2,zml (Nat.succ_ne_self _) (Yaf (WaO lt1)) (Yaf lt1),⟨⟨_,he⟩,hi1⟩,fun b hb=>?_,q⟩
 have hb':s1.heap.objs.size<=b:=by
  have hc':b=s1.heap.objs.size+1\/b=s1.heap.objs.size:=by simpa using hb
  rcases hc' with rfl|rfl<;>omega
 have f:=I1.fpOk (H':=H1) hb' (I1.hok.fresh hb');exact⟨f.1,f.2.1,f.2.2.1,f.2.2.2.1,f.2.2.2.2.1,f.2.2.2.2.2⟩
end L2
namespace L3
open PySem PySem.Spec PyProof.Rows L2
variable[LamW]
section
variable{X:Cx}{H0:Hp}{pos p:Pos}
def j5(ds:List D):List D:=(List.range ds.length).map fun i=>.tuple [.int (i:Nat),ds.getD i .none]
theorem zf7(ds:List D):(j5 ds).length=ds.length:=by unfold j5;simp
theorem zlF{ds:List D}{i:Nat}{d:D}(h:(j5 ds)[i]?=some d):∃ a,d=.tuple [.int (i:Nat),a]/\ds[i]?=some a:=by
 unfold j5 at h;rw [Ya0] at h
 by_cases hi:i<ds.length
 . rw [Yax hi] at h
   cases h;exact⟨ds[i],by simp [hi],YaQ hi⟩
 . rw [Waw #[6]] at h;cases h
def itE(t:TA3):TI3:=fun ρ Q=>t ρ fun cs=>∃ f as,cs=[.sh f (.list as)]/\Q f (j5 as)
theorem znq{K:Ybf}{H0 G:Hp}{a:Addr}{xs:List V}{f:Bool}{as:List D}(h1:SqL K G a xs)(r1:Rfs K H0 G f xs as):ItOk K H0 (Ite K a) f (j5 as) G where
 go:=fun i d G' H hd s1 s2=>by
  obtain⟨q,rfl,hq⟩:=zlF hd;obtain⟨x,hx,rx⟩:=r1.get hq;have ss:=s1.trans s2.s;refine⟨⟨xs,x,ss.seq h1,hx⟩,fun v H' ⟨l,x',hl,e1,e2,hh⟩=>?_⟩
  subst e1 e2;have z1:=hh xs (ss.seq h1);rw [hx] at z1;cases z1;have gl:=zO (s2.free hl) (.tup [.int i,x]);exact⟨upd G' l (.tup [.int i,x]),Gr.put s2 hl,⟨.tup (SqT.of zo) (.cons (.int _) (.cons (JG (s1.trans gl) rx.rd) .nil)),fun hf=>
   .tup (SqT.of zo) (.cons (.int _) (.cons (jk (s1.trans gl) (fun _ _ _ z=>z) (rx.nw hf)) .nil))⟩⟩
 stop:=fun i G' H hl s1 s2=>⟨xs,(s1.trans s2.s).seq h1,by rw [hl,zf7,r1.length]⟩
theorem zdn{elts:List Expr}{k:Nat}{tpos:Pos}{a:Expr}{t:TA3}(hg:Gl X "enumerate")(hm:X.mg "enumerate" = none)(ha:PA3 X H0 [a] t)(hs:starEach [a] X.env=[(false,eval a X.env)]:=by rfl):PI3 X H0 (.Tuple elts k tpos) (.Call (.Name "enumerate" p) [a] [] pos) (itE t):=
 ⟨fun ρ Q Q' h q=>ha.mono ρ _ _ (fun cs ⟨f,as,e,q⟩=>⟨f,as,e,h _ _ q⟩) q,PI.imp (zn2 hg hm ha.ok hs) fun σ H R=>el5 fun G0 ρ G F q=>⟨G0,ρ,G,F,ha.mono ρ _ _ (fun cs hyp vs G1 H1 g1 w=>by
  obtain⟨f,as,e,k⟩:=hyp;subst e;obtain⟨v,rfl,w1⟩:=vws1 w;obtain⟨a,xs,rfl,hq,rs⟩:=JO (zj w1);exact⟨a,rfl,⟨xs,g1.sub.seq hq⟩,k _ G1 H1 g1 (znq hq rs)⟩) q⟩⟩
end
variable[LamW]
section
variable{X:Cx}{H0:Hp}{e:Expr}{pos:Pos}{x:Str}
end
end L3
namespace L2
open PySem PySem.Spec PyProof.Rows
section
variable{κ : Type}[DecidableEq κ]
def valV(kvs:List (κ×V))(k:κ):Option V:=(kvs.find? fun kv=>decide (kv.1=k)).map (·.2)
def putK(kvs:List (κ×V))(k:κ)(v:V):List (κ×V):=
 if(kvs.any fun kv=>decide (kv.1=k))=true then kvs.map (fun kv=>if kv.1=k then(kv.1,v) else kv) else kvs++[(k,v)]
theorem zbi{p:κ×V}{r:List (κ×V)}{k:κ}(e:p.1=k):valV (p::r) k=some p.2:=by simp [valV,List.find?_cons,e]
theorem zbg{p:κ×V}{r:List (κ×V)}{k:κ}(e:¬p.1=k):valV (p::r) k=valV r k:=by simp [valV,List.find?_cons,e]
theorem zd6(k:κ):∀ kvs:List (κ×V),(kvs.any fun kv=>decide (kv.1=k))=(valV kvs k).isSome
 | []=>rfl
 | p :: r => by
  rw [List.any_cons]
  by_cases e:p.1=k
  . simp only [zbi e,decide_eq_true e,Bool.true_or,Option.isSome_some]
  . rw [zbg e,decide_eq_false e,Wbs];exact zd6 k r
theorem zdP(kvs:List (κ×V))(k:κ)(v:V):(putK kvs k v).length<=kvs.length+1:=by
 unfold putK
 split
 . rw [YaR];omega
 . rw [YaS,List.length_cons,List.length_nil];omega
theorem RelO.isSome_eq{o:Option V}{u:Option Value}(r:RelO o u):o.isSome=u.isSome:=by
 cases o with
 | none => cases u with
  | none=>rfl
  | some _=>exact(show False from r).elim
 | some _ => cases u with
  | none=>exact(show False from r).elim
  | some _=>rfl
theorem KV.any{kvs:List (κ×V)}{vs:List (κ×Value)}(r:KV kvs vs)(k:κ):(kvs.any fun kv=>decide (kv.1=k))=vs.any fun kv=>decide (kv.1=k):=by
 unfold KV at r
 induction r with
 | nil=>rfl
 | cons h t ih=>rw [List.any_cons,List.any_cons,ih,h.1]
theorem KV.repl{kvs:List (κ×V)}{vs:List (κ×Value)}(r:KV kvs vs)(k:κ){y:V}{u:Value}(ry:RelV y u) :
 KV (kvs.map fun kv=>if kv.1=k then(kv.1,y) else kv) (vs.map fun kv=>if kv.1=k then(kv.1,u) else kv):=by
 unfold KV at r ⊢
 induction r with
 | nil=>exact .nil
 | @cons p q ps qs h t ih=>
  rw [Ya1,Ya1];refine .cons ?_ ih;obtain⟨h1,h2⟩:=h
  by_cases e:p.1=k
  . rw [if_pos e,if_pos (h1.symm.trans e)];exact⟨h1,ry⟩
  . rw [if_neg e,if_neg (fun z=>e (h1.trans z))];exact⟨h1,h2⟩
theorem KV.put{kvs:List (κ×V)}{vs:List (κ×Value)}(r:KV kvs vs)(k:κ){y:V}{u:Value}(ry:RelV y u):KV (putK kvs k y) (stored vs k u):=by
 unfold putK stored;rw [r.any k]
 by_cases e:(vs.any fun kv=>decide (kv.1=k))=true
 . rw [if_pos e,if_pos e];exact r.repl k ry
 . rw [if_neg e,if_neg e];exact Paired.snoc r ⟨rfl,ry⟩
theorem KV.length{kvs:List (κ×V)}{vs:List (κ×Value)}(r:KV kvs vs):kvs.length=vs.length:=Paired.length r
end
theorem zdV{P:Program}{w:World}{k:Key}{u:Value}(r:RelV (kV k) u):(z9 P w).is k u=true:=by
 cases k with
 | inl i=>obtain⟨t,e⟩:=(show ∃ t,u=Value.int i t from r);subst e;exact zhA P w i t
 | inr x=>obtain⟨t,e⟩:=(show ∃ t,u=Value.str x t from r);subst e;exact zgr P w x t
theorem zeP{P:Program}{w:World}:∀ {ks:List Key} {us:List Value},Vals (ks.map kV) us->ItemsAre (z9 P w) ks us
 | [],_,r=>by rw [WbB] at r;cases r;exact .nil
 | k :: ks, _, r => by
  rw [Ya1] at r;cases r with
  | cons h t=>exact .cons (zdV h) (zeP t)
abbrev KT(H:Hp):List (List Key×V)->List (List Key×Addr×Value)->Prop:=Paired fun p q=>p.1=q.1/\H q.2.1=some (.tup (p.1.map kV))/\RelV p.2 q.2.2
theorem KT.val{H:Hp}{kvs:List (List Key×V)}{xs:List (List Key×Addr×Value)}(r:KT H kvs xs)(k:List Key):RelO (valV kvs k) ((atKey xs k).map (·.2)):=by
 induction r with
 | nil=>exact True.intro
 | @cons p q ps qs h t ih=>
  obtain⟨h1,_,h2⟩:=h
  by_cases e:p.1=k
  . have e':q.1=k:=h1.symm.trans e
    have b:atKey (q::qs) k=some q.2:=by simp [atKey,List.find?_cons,e']
    rw [zbi e,b];exact h2
  . have e':¬q.1=k:=fun z=>e (h1.trans z)
    have b:atKey (q::qs) k=atKey qs k:=by simp [atKey,List.find?_cons,e']
    rw [zbg e,b];exact ih
theorem KT.repl{H:Hp}{kvs:List (List Key×V)}{xs:List (List Key×Addr×Value)}(r:KT H kvs xs)(k:List Key){y:V}{u:Value}(ry:RelV y u) :
 KT H (kvs.map fun kv=>if kv.1=k then(kv.1,y) else kv) (xs.map (putAt k u)):=by
 induction r with
 | nil=>exact .nil
 | @cons p q ps qs h t ih=>
  rw [Ya1,Ya1];refine .cons ?_ ih;obtain⟨h1,h2,h3⟩:=h;unfold putAt
  by_cases e:p.1=k
  . rw [if_pos e,if_pos (h1.symm.trans e)];exact⟨h1,h2,ry⟩
  . rw [if_neg e,if_neg (fun z=>e (h1.trans z))];exact⟨h1,h2,h3⟩
theorem KT.put{H:Hp}{kvs:List (List Key×V)}{xs:List (List Key×Addr×Value)}(r:KT H kvs xs)(k:List Key){b:Addr}{y:V}{u:Value}(hb:H b=some (.tup (k.map kV)))(ry:RelV y u) :
 KT H (putK kvs k y) (storedH xs k b u):=by
 have e:(kvs.any fun kv=>decide (kv.1=k))=(atKey xs k).isSome:=by
  rw [zd6,(r.val k).isSome_eq,Option.isSome_map]
 unfold putK storedH;rw [e]
 by_cases q:(atKey xs k).isSome=true
 . rw [if_pos q,if_pos q];exact r.repl k ry
 . rw [if_neg q,if_neg q];exact Paired.snoc r ⟨rfl,hb,ry⟩
theorem KT.keeps{H H':Hp}{kvs:List (List Key×V)}{xs:List (List Key×Addr×Value)}(r:KT H kvs xs)(ht:∀ b ys,H b=some (.tup ys)->H' b=some (.tup ys)):KT H' kvs xs:=
 Paired.mapP r fun _ _ z=>⟨z.1,ht _ _ z.2.1,z.2.2⟩
section
variable{P:Program}{w:World}{H:Hp}{h:Heap}{a:Addr}
theorem zel{u:HO}(ok:HOk P w H h)(e:Rd H a u):zK P w H h a u:=e.ok ok
theorem ziI{kvs:List (Key×V)}(ok:HOk P w H h)(e:Rd H a (.dK kvs)):kvs.length<=sizeLine/\(a==sysModules)=false/\∃ vs,KV kvs vs/\h.DictOf (z9 P w) a vs:=
 show zK P w H h a (.dK kvs) from zel ok e
theorem zfQ{kvs:List (Key×V)}(ok:HOk P w H h)(e:H a=some (.dK kvs)):kvs.length<=sizeLine/\(a==sysModules)=false/\∃ vs,KV kvs vs/\h.DictOf (z9 P w) a vs:=ziI ok (.inl e)
theorem zfX{ks:List Key}(ok:HOk P w H h)(e:H a=some (.tup (ks.map kV))):(tupleKind (z9 P w)).is h ks a:=by
 obtain⟨_,its,r,o,h1,h2,n,h3⟩:=(show zK P w H h a (.tup (ks.map kV)) from ok a _ e)
 exact⟨o,its.toArray,n,h1,h2,h3,by simpa using zeP r⟩
theorem znc{kvs:List (List Key×V)}(ok:HOk P w H h)(e:Rd H a (.dT kvs)):kvs.length<=sizeLine/\(a==sysModules)=false/\
 ∃ xs,KT H kvs xs/\h.DictOfH (tupleKind (z9 P w)) a xs:=by
 obtain⟨z,y,xs,r,o,es,ep,h1,h2,h3,h4,h5⟩:=(show zK P w H h a (.dT kvs) from zel ok e)
 refine⟨z,y,xs,r,o,es,ep,h1,h2,h3,h4,fun x hx=>?_,h5⟩
 have all:∀ {l:List (List Key×V)} {m:List (List Key×Addr×Value)},KT H l m->∀ x∈m,(tupleKind (z9 P w)).is h x.1 x.2.1:=by
  intro l m q
  induction q with
  | nil=>intro x hx;exact nomatch hx
  | @cons p q ps qs hq t ih=>
   intro x hx
   rcases Wbp.mp hx with e|hx
   . subst e
     exact zfX ok (by rw [<-hq.1];exact hq.2.1)
   . exact ih x hx
 exact all r x hx
theorem zkZ{kvs:List (List Key×V)}(ok:HOk P w H h)(e:H a=some (.dT kvs)):kvs.length<=sizeLine/\(a==sysModules)=false/\
 ∃ xs,KT H kvs xs/\h.DictOfH (tupleKind (z9 P w)) a xs:=znc ok (.inl e)
end
def DGet(H:Hp)(a:Addr)(y:V)(r:Option V):Prop:=
 (∃ kvs k,Rd H a (.dK kvs)/\y=kV k/\r=valV kvs k)\/∃ kvs k b,Rd H a (.dT kvs)/\y=.ref b/\H b=some (.tup (k.map kV))/\r=valV kvs k
def DPut(H:Hp)(a:Addr)(y v:V)(H':Hp):Prop:=
 (∃ kvs k,H a=some (.dK kvs)/\y=kV k/\kvs.length<sizeLine/\H'=upd H a (.dK (putK kvs k v)))\/
 ∃ kvs k b,H a=some (.dT kvs)/\y=.ref b/\H b=some (.tup (k.map kV))/\kvs.length<sizeLine/\H'=upd H a (.dT (putK kvs k v))
theorem DGet.k{H:Hp}{a:Addr}{kvs:List (Key×V)}{k:Key}(e:H a=some (.dK kvs)):DGet H a (kV k) (valV kvs k):=.inl ⟨kvs,k,.inl e,rfl,rfl⟩
theorem DGet.t{H:Hp}{a b:Addr}{kvs:List (List Key×V)}{k:List Key}(e:H a=some (.dT kvs))(eb:H b=some (.tup (k.map kV))):DGet H a (.ref b) (valV kvs k):=.inr ⟨kvs,k,b,.inl e,rfl,eb,rfl⟩
theorem DPut.k{H:Hp}{a:Addr}{kvs:List (Key×V)}{k:Key}{v:V}(e:H a=some (.dK kvs))(hl:kvs.length<sizeLine):DPut H a (kV k) v (upd H a (.dK (putK kvs k v))):=.inl ⟨kvs,k,e,rfl,hl,rfl⟩
theorem DPut.t{H:Hp}{a b:Addr}{kvs:List (List Key×V)}{k:List Key}{v:V}(e:H a=some (.dT kvs))(eb:H b=some (.tup (k.map kV)))(hl:kvs.length<sizeLine) :
 DPut H a (.ref b) v (upd H a (.dT (putK kvs k v))):=.inr ⟨kvs,k,b,e,rfl,eb,hl,rfl⟩
section
variable{X:Cx}{pins:List (Addr×Obj)}{σ : St}{H:Hp}{s:Shared}{a:Addr}{y v:V}{u r:Value}{o:Option V}{A:Around}{E:Value->Shared->Prop}
theorem Inv.big(I:Inv X pins σ H s):sysModules<s.heap.objs.size:=by
 have h:mainGlobals<s.heap.objs.size:=(I.mod.glob.keeps I.bk).lt;exact Nat.lt_trans #[1] h
theorem zeq{h':Heap}{t':Nat}{ob:HO}(I:Inv X pins σ H s)(mu:Mut (H a))(hs:Heap.SameBut a s.heap h')(he:∃ q,h'.get? a=some q)(new:zK X.prog X.w (upd H a ob) h' a ob) :
 Inv X pins σ (upd H a ob) { s with heap:=h',toks:=t' }:=
 I.write (x:=a) (e:=a) mu (.inl rfl) (fun b q hb z=>(hs.2 b hb).trans z) he new
theorem zmk{P:Program}{w:World}{H':Hp}{h':Heap}{kvs:List (Key×V)}{vs:List (Key×Value)}(z:kvs.length<=sizeLine)(hd:(a==sysModules)=false)(rel:KV kvs vs)(dd:h'.DictOf (z9 P w) a vs) :
 zK P w H' h' a (.dK kvs):=⟨z,hd,vs,rel,dd⟩
theorem znx{H':Hp}{Q:Unit->Shared->Prop}(hu:A.units+1<cLine)(I:Inv X pins σ H s)(g:DPut H a y v H')(ry:RelV y u)(rv:RelV v r)(h:∀ s',Inv X pins σ H' s'->Q () s') :
 wpAny (model X.prog X.w) A (setItem (.ref a) u r) Q E s:=by
 rcases g with ⟨kvs,k,e,ey,l,eH⟩|⟨kvs,k,b,e,ey,eb,l,eH⟩
 . subst ey eH
   obtain⟨z,hd,vs,rel,dd⟩:=zfQ I.hok e;have hz:vs.length<=sizeLine:=by rw [<-rel.length];exact z
   have hl:(putK kvs k v).length<=sizeLine:=by have:=zdP kvs k v;omega
   refine wpAny_setItem_pairs (hsz:=hz) (zdV ry) dd fun h' dd' hs=>h _ ?_
   have he:∃ q,h'.get? a=some q:=let ⟨q,_,_,hq,_⟩:=dd';⟨q,hq⟩;exact zeq I (by rw [e];exact True.intro) hs he (zmk hl hd (rel.put k rv) dd')
 . subst ey eH
   cases(show u=Value.ref b from ry)
   obtain⟨z,hd,xs,rel,dd⟩:=zkZ I.hok e;have hz:xs.length<=sizeLine:=by rw [<-Paired.length rel];exact z
   have hl:(putK kvs k v).length<=sizeLine:=by have:=zdP kvs k v;omega
   refine wpAny_setItem_heap (hsz:=hz) (tupleKind_room_in1 hu) (zfX I.hok eb) dd fun h' dd' hs=>h _ ?_
   obtain⟨q,es,ep,hq,h2,h3,h4,_,h5⟩:=dd';refine zeq I (by rw [e];exact True.intro) hs ⟨q,hq⟩ ⟨hl,hd,_,(rel.put k eb rv).keeps fun c ys ec=>?_,q,es,ep,hq,h2,h3,h4,h5⟩
   rw [zg (zk6 ec e (fun z=>nomatch z))]
   exact ec
end
section
variable{X:Cx}{pins:List (Addr×Obj)}{σ : St}{H:Hp}{s:Shared}{a:Addr}{kvs:List (Key×V)}{k:Key}{u:Value}{A:Around}{E:Value->Shared->Prop}
end
def zj3(td ty tv:TE):TS:=fun D σ H=>tv σ H fun v H1=>td σ H1 fun x H2=>ty σ H2 fun y H3=>∃ a H4,x=.ref a/\DPut H3 a y v H4/\D.nx σ H4
section
variable{X:Cx}{o i e value:Expr}{pos pos' tpos:Pos}{td ty tv:TE}
theorem zmj(hu:X.A.units+1<cLine)(ho:PE X o td)(hi:PE X i ty)(hv:PE X value tv)(hs:swapsWith value (some (.Subscript o i pos')) pos.line X.env=pure false) :
 PS X (.Assign [.Subscript o i pos'] value pos) (zj3 td ty tv):=by
 intro pins s σ H D I h;refine wpAny_Assign_Subscript (thn (hv pins s σ H _ I h) fun r s1 ⟨v,H1,I1,rv,q1⟩=>thn (ho pins s1 σ H1 _ I1 q1) fun u s2 ⟨x,H2,I2,rx,q2⟩=>thn (hi pins s2 σ H2 _ I2 q2) fun iv s3 ⟨y,H3,I3,ry,a,H4,ex,g,q3⟩=>?_) hs
 subst ex;obtain rfl:u=Value.ref a:=rx;exact znx hu I3 g ry rv fun s4 I4=>⟨σ,H4,I4,q3⟩
end
theorem zmy{P:Program}{w:World}{H:Hp}(h:Heap)(hb:sysModules<h.objs.size):zK P w H (h.push { cls:=.type "dict", data:=.dict #[] }) h.objs.size (.dK []):=
 ⟨WbH _,beq_eq_false_iff_ne.mpr (WbM (Yaf hb)),[],.nil,Heap.DictOf.new h⟩
def tDNewK:TE:=fun _ H Q=>∀ p,H p=none->Q (.ref p) (upd H p (.dK []))
section
variable{X:Cx}{pos:Pos}
theorem zkn:PE X (.Dict [] [] pos) tDNewK:=fun pins s σ H Q I h=>
 wpAny_Dict_empty ⟨.ref s.heap.objs.size,_,I.laid (a:=s.heap.objs.size) (o:=.dK []) (t':=s.toks) (fun _ _ q=>YaW _ q) (YaY _) (zmy s.heap I.big),rfl,h _ (I.hok.fresh (YaY _))⟩
end
end L2
namespace L3
open PySem PySem.Spec PyProof.Rows L2
variable[LamW]
def getT(ds:List (List Key×D))(k:List Key):Option D:=(ds.find? fun kv=>decide (kv.1=k)).map (·.2)
def putT(ds:List (List Key×D))(k:List Key)(d:D):List (List Key×D):=
 if(ds.any fun kv=>decide (kv.1=k))=true then ds.map (fun kv=>if kv.1=k then(kv.1,d) else kv) else ds++[(k,d)]
theorem zdq{k:List Key}{d:D}{ds:List (List Key×D)}:getT ((k,d)::ds) k=some d:=by simp [getT]
theorem zfU{k' k:List Key}{d:D}{ds:List (List Key×D)}(e:¬k'=k):getT ((k',d)::ds) k=getT ds k:=by simp [getT,List.find?_cons,e]
section
variable{K:Ybf}{H0 G0:Hp}{ρ : Env3}{σ : L2.St}{G H:Hp}
theorem Dr.get{kvs:List (List Key×V)}{ds:List (List Key×D)}(r:Dr K H0 G kvs ds){k:List Key}{d:D}(h:getT ds k=some d):∃ v,valV kvs k=some v/\Rf K H0 G true v d:=by
 induction r with
 | nil=>cases h
 | cons a b ih=>
  rename_i k' v' d' kvs' ds'
  by_cases e:k'=k
  . subst e
    rw [zdq] at h;cases h;exact⟨v',zbi rfl,a⟩
  . rw [zfU e] at h
    obtain⟨v,h1,h2⟩:=ih h;exact⟨v,by rw [zbg e];exact h1,h2⟩
theorem Dr.some{kvs:List (List Key×V)}{ds:List (List Key×D)}(r:Dr K H0 G kvs ds)(k:List Key):(valV kvs k).isSome=(getT ds k).isSome:=by
 induction r with
 | nil=>rfl
 | cons a b ih=>
  rename_i k' v' d' kvs' ds'
  by_cases e:k'=k
  . subst e;rw [zbi rfl,zdq];rfl
  . rw [zbg e,zfU e];exact ih
theorem Dr.any{kvs:List (List Key×V)}{ds:List (List Key×D)}(r:Dr K H0 G kvs ds)(k:List Key):(kvs.any fun kv=>decide (kv.1=k))=ds.any fun kv=>decide (kv.1=k):=by
 induction r with
 | nil=>rfl
 | cons a b ih=>rw [List.any_cons,List.any_cons,ih]
theorem Dr.snoc{kvs:List (List Key×V)}{ds:List (List Key×D)}(r:Dr K H0 G kvs ds){k:List Key}{v:V}{d:D}(a:Rf K H0 G true v d):Dr K H0 G (kvs++[(k,v)]) (ds++[(k,d)]):=by
 induction r with
 | nil=>exact .cons a .nil
 | cons a b ih=>exact .cons a ih
theorem Dr.repl{kvs:List (List Key×V)}{ds:List (List Key×D)}(r:Dr K H0 G kvs ds){k:List Key}{v:V}{d:D}(a:Rf K H0 G true v d):Dr K H0 G (kvs.map fun kv=>if kv.1=k then(kv.1,v) else kv) (ds.map fun kv=>if kv.1=k then(kv.1,d) else kv):=by
 induction r with
 | nil=>exact .nil
 | cons b c ih=>
  rename_i k' v' d' kvs' ds';rw [Ya1,Ya1]
  by_cases e:k'=k
  . rw [if_pos e,if_pos e];exact .cons a ih
  . rw [if_neg e,if_neg e];exact .cons b ih
theorem Dr.put{kvs:List (List Key×V)}{ds:List (List Key×D)}(r:Dr K H0 G kvs ds){k:List Key}{v:V}{d:D}(a:Rf K H0 G true v d):Dr K H0 G (putK kvs k v) (putT ds k d):=by
 unfold putK putT;rw [r.any]
 split
 . exact r.repl a
 . exact r.snoc a
theorem Dr.length{kvs:List (List Key×V)}{ds:List (List Key×D)}(r:Dr K H0 G kvs ds):kvs.length=ds.length:=by
 induction r with
 | nil=>rfl
 | cons a b ih=>rw [List.length_cons,List.length_cons,ih]
end
section
variable{X:Cx}{H0:Hp}{e a b:Expr}{pos:Pos}{x:Str}{i:Nat}
abbrev kk(a b:Int):List Key:=[.inl a,.inl b]
end
end L3
namespace L3
open PySem PySem.W PyProof.Rows
def Ends(lt:Nat->Nat->Bool)(n:Nat){α : Type}(R:α->Prop):KasT α->Prop
 | .ret a=>R a
 | .ask i j k=>i<n/\j<n/\Ends lt n R (k (lt i j))
section
variable{lt:Nat->Nat->Bool}{n:Nat}
theorem Ends.bind{α β : Type}{R:β->Prop}{f:α->KasT β}:∀ {t:KasT α},Ends lt n (fun a=>Ends lt n R (f a)) t->Ends lt n R (t.bind f)
 | .ret _,h=>h
 | .ask _ _ k,h=>⟨h.1,h.2.1,Ends.bind (t:=k _) h.2.2⟩
theorem Ends.mono{α : Type}{R R':α->Prop}(hR:∀ a,R a->R' a):∀ {t:KasT α},Ends lt n R t->Ends lt n R' t
 | .ret a,h=>hR a h
 | .ask _ _ k,h=>⟨h.1,h.2.1,Ends.mono hR (t:=k _) h.2.2⟩
structure Ordr(lt:Nat->Nat->Bool)(n:Nat):Prop where
 tr:∀ i j k,lt i j=true->lt j k=true->lt i k=true
 as:∀ i j,lt i j=true->lt j i=false
 co:∀ i j,i<n->j<n->i≠j->lt i j=true\/lt j i=true
abbrev gp(p:Array Nat)(i:Nat):Nat:=p.getD i 0
def OkP(n:Nat)(p:Array Nat):Prop:=p.toList.Perm (List.range n)
theorem OkP.size{p:Array Nat}(h:OkP n p):p.size=n:=by have:=h.length_eq;simpa using this
theorem zbA{p:Array Nat}{i:Nat}(hi:i<p.size):p[i]?=some (gp p i):=by
 simp [gp,Array.getD,hi]
theorem OkP.below{p:Array Nat}(h:OkP n p){i:Nat}(hi:i<n):gp p i<n:=by
 have hs:=h.size;have e:=zbA (p:=p) (i:=i) #[0]
 have:gp p i∈p.toList:=by
  rw [Array.mem_toList_iff];exact Array.mem_of_getElem? e
 exact Yba.mp (h.mem_iff.mp this)
theorem OkP.inj{p:Array Nat}(h:OkP n p){i j:Nat}(hi:i<n)(hj:j<n)(e:gp p i=gp p j):i=j:=by
 have hs:=h.size;have nd:p.toList.Nodup:=h.nodup_iff.mpr List.nodup_range;have e1:=zbA (p:=p) (i:=i) #[0]
 have e2:=zbA (p:=p) (i:=j) #[0]
 rw [<-Wav] at e1 e2;rw [e] at e1;have hi':i<p.toList.length:=by simpa [hs] using hi
 exact(List.getElem?_inj hi' nd).mp (e1.trans e2.symm)
theorem OkP.perm{p q:Array Nat}(h:OkP n p)(e:q.Perm p):OkP n q:=(Array.perm_iff_toList_perm.mp e).trans h
def SoP(lt:Nat->Nat->Bool)(p:Array Nat)(k:Nat):Prop:=∀ i j,i<j->j<k->lt (gp p i) (gp p j)=true
variable(O:Ordr lt n)
include O
theorem ZS{p:Array Nat}(h:OkP n p){i j:Nat}(hi:i<n)(hj:j<n)(ne:i≠j)(c:lt (gp p j) (gp p i)=false):lt (gp p i) (gp p j)=true:=by
 rcases O.co _ _ (h.below hi) (h.below hj) (fun e=>ne (h.inj hi hj e)) with q|q
 . exact q
 . rw [q] at c;cases c
end
end L3
namespace L3
open PySem PySem.W PySem.Calls PyProof.Rows
abbrev zjS:Bool->Keyed->Array Keyed->Nat->Nat->Nat->StateT SortSt Sem (Option Nat):=sortPriv% PySem.Builtin.gallop
section tim
variable{prog:Program}{w:World}{A:Around}{E:Value->Shared->Prop}{s:Shared}{α β : Type}{st:SortSt}
def WS(prog:Program)(w:World)(A:Around)(E:Value->Shared->Prop)(s:Shared){α : Type}(m:StateT SortSt Sem α)(st:SortSt)(Q:α->SortSt->Prop):Prop:=kasC (model prog w) A E m (fun a st' s'=>s'=s/\Q a st') st s
theorem WS.mono{m:StateT SortSt Sem α}{Q Q':α->SortSt->Prop}(h:WS prog w A E s m st Q)(hq:∀ a st',Q a st'->Q' a st'):WS prog w A E s m st Q':=wpAny_mono h (fun r s' h'=>⟨h'.1,hq _ _ h'.2⟩) fun _ _ e=>e
theorem WS.bnd{m:StateT SortSt Sem α}{f:α->StateT SortSt Sem β}{Q:β->SortSt->Prop}(h:WS prog w A E s m st fun a st'=>WS prog w A E s (f a) st' Q):WS prog w A E s (m >>= f) st Q:=
 kasC_bind (wpAny_mono h (fun r s' h'=>by
  obtain⟨e,h'⟩:=h';subst e;exact h') fun _ _ e=>e)
theorem WS.ret{a:α}{Q:α->SortSt->Prop}(h:Q a st):WS prog w A E s (pure a:StateT SortSt Sem α) st Q:=kasC_pure ⟨rfl,h⟩
theorem WS.gt{Q:SortSt->SortSt->Prop}(h:Q st st):WS prog w A E s (get:StateT SortSt Sem SortSt) st Q:=kasC_get ⟨rfl,h⟩
theorem WS.mdf{f:SortSt->SortSt}{Q:PUnit->SortSt->Prop}(h:Q ⟨⟩ (f st)):WS prog w A E s (modify f:StateT SortSt Sem PUnit) st Q:=kasC_modify ⟨rfl,h⟩
theorem WS.sto{st':SortSt}{Q:PUnit->SortSt->Prop}(h:Q ⟨⟩ st'):WS prog w A E s (set st':StateT SortSt Sem PUnit) st Q:=by
 unfold WS kasC;rw [StateT.run_set];exact wpAny_pure ⟨rfl,h⟩
theorem WS.rl{x:String}{Q:Unit->SortSt->Prop}(h:Q () st):WS prog w A E s (liftM (rule x):StateT SortSt Sem Unit) st Q:=kasC_lift (wpAny_rule ⟨rfl,h⟩)
theorem WS.loop{a b:Nat}{c:β}{f:Nat->β->StateT SortSt Sem (ForInStep β)}{Q:β->SortSt->Prop}(I:Nat->β->SortSt->Prop)(h0:I (b - a) c st)
 (hs:∀ k x c st,I (k+1) c st->WS prog w A E s (f x c) st fun r st'=>match r with|.done c'=>Q c' st'|.yield c'=>I k c' st') (hn:∀ c st,I 0 c st->Q c st):WS prog w A E s (forIn [a:b] c f) st Q:=by
 refine kasC_range ?_
 have go:∀ (k:Nat) (l:List Nat) (c:β) (st:SortSt),l.length=k->I k c st->WS prog w A E s (forIn l c f) st Q:=by
  intro k
  induction k with
  | zero=>
   intro l c st hl hi;cases l with
   | nil=>exact kasC_nil ⟨rfl,hn c st hi⟩
   | cons _ _=>simp at hl
  | succ k ih=>
   intro l c st hl hi;cases l with
   | nil=>simp at hl
   | cons x l=>
    refine kasC_cons (wpAny_mono (hs k x c st hi) (fun r s' h'=>?_) fun _ _ e=>e)
    obtain⟨r,st'⟩:=r;obtain⟨e,h'⟩:=h';cases r with
    | done c'=>exact⟨e,h'⟩
    | yield c'=>
     have e:s'=s:=e;subst e;exact ih l c' st' (by simpa using hl) h'
 exact go _ _ c st (List.length_range' ..) h0
theorem WS.ite{c:Prop}[Decidable c]{x y:StateT SortSt Sem α}{Q:α->SortSt->Prop}(h1:WS prog w A E s x st Q)(h2:WS prog w A E s y st Q):WS prog w A E s (if c then x else y) st Q:=by
 by_cases h:c
 . rw [if_pos h];exact h1
 . rw [if_neg h];exact h2
theorem WS.jp{c:Prop}{dc:Decidable c}(a b:Nat){Q:α->SortSt->Prop}{x:StateT SortSt Sem α}{R:Nat->StateT SortSt Sem α}(h:∀ m,WS prog w A E s (R m) st Q)(hx:x=R a):WS prog w A E s (if c then x else R b) st Q:=by
 by_cases h':c
 . rw [if_pos h',hx];exact h a
 . rw [if_neg h'];exact h b
theorem WS.itec{c:Prop}[Decidable c]{x y:StateT SortSt Sem α}{Q:α->SortSt->Prop}(h1:c->WS prog w A E s x st Q)(h2:¬c->WS prog w A E s y st Q):WS prog w A E s (if c then x else y) st Q:=by
 by_cases h:c
 . rw [if_pos h];exact h1 h
 . rw [if_neg h];exact h2 h
theorem WS.elem{arr:Array Keyed}{i:Nat}{x:Keyed}{Q:Keyed->SortSt->Prop}(h:arr[i]?=some x)(q:Q x st):WS prog w A E s (elem' arr i) st Q:=by
 rw [elem'_eq,h];exact WS.ret q
variable{κ : SortKind}{it:Array Keyed}{lt:Nat->Nat->Bool}{n:Nat}
def Z4(prog:Program)(w:World)(A:Around)(s:Shared)(κ : SortKind)(it:Array Keyed)(lt:Nat->Nat->Bool)(n:Nat):Prop:=∀ i j (C:Bool->Shared->Prop),i<n->j<n->C (lt i j) s->kas_cmp prog w A κ it i j C s
variable(K:Z4 prog w A s κ it lt n)
include K
theorem WS.ltq{i j:Nat}{Q:Option Bool->SortSt->Prop}(hk:kindOf st = κ)(hi:i<n)(hj:j<n)(q:Q (some (lt i j)) st):WS prog w A E s (lt' (kas_item it i) (kas_item it j)) st Q:=by
 rw [lt'_eq];refine WS.bnd (WS.gt ?_);rw [hk];refine kasC_bind (kasC_lift (wpAny_attempt (wpAny_mono (K i j (fun c s'=>c=lt i j/\s'=s) hi hj ⟨rfl,rfl⟩) (fun c s' hc=>?_) fun _ _ hF=>hF.elim)))
 obtain⟨rfl,rfl⟩:=hc;exact kasC_pure ⟨rfl,q⟩
omit K in
theorem zC{p:Array Nat}{i:Nat}(h:i<p.size):(p.map (kas_item it))[i]?=some (kas_item it (gp p i)):=by
 rw [WaH,zbA h];rfl
def bey(lt:Nat->Nat->Bool)(left:Bool)(k x:Nat):Bool:=if left=true then lt x k else !(lt k x)
theorem WS.gallop{left:Bool}{k:Nat}{p:Array Nat}{base m hint:Nat}{Q:Option Nat->SortSt->Prop}(hk:kindOf st = κ)(hkn:k<n)(hp:∀ i,i<m->gp p (base+i)<n)(hb:base+m<=p.size)(hh:hint<m)
 (mono:∀ i j,i<=j->j<m->bey lt left k (gp p (base+j))=true->bey lt left k (gp p (base+i))=true)
 (q:∀ h,h<=m->(∀ i,i<h->bey lt left k (gp p (base+i))=true)->(∀ i,h<=i->i<m->bey lt left k (gp p (base+i))=false)->Q (some h) st) :
 WS prog w A E s (zjS left (kas_item it k) (p.map (kas_item it)) base m hint) st Q:=by
 have ask:∀ (i:Nat) (st:SortSt) (Q:Option Bool->SortSt->Prop),kindOf st = κ->i<m->Q (some (bey lt left k (gp p (base+i)))) st->WS prog w A E s (do
  let x <-elem' (p.map (kas_item it)) (base+i)
  if left=true then lt' x (kas_item it k) else do
   let r <-lt' (kas_item it k) x
   Pure.pure (r.map (!·))) st Q:=fun i st Q hk hi q=>by
  refine WS.bnd (WS.elem (zC #[0]) ?_)
  unfold bey at q;cases left with
  | true=>exact WS.ltq K hk (hp i hi) hkn q
  | false=>exact WS.bnd (WS.ltq K hk hkn (hp i hi) (WS.ret q))
 have contra:∀ i j,i<=j->j<m->bey lt left k (gp p (base+i))=false->bey lt left k (gp p (base+j))=false:=fun i j hij hj h=>by
  cases e:bey lt left k (gp p (base+j)) with
  | false=>rfl
  | true=>rw [mono i j hij hj e] at h;cases h
 refine WS.bnd ?_
 refine ask hint st _ hk hh ?_
 dsimp only;cases hb0:bey lt left k (gp p (base+hint)) with
 | true=>
  rw [if_pos rfl];refine WS.bnd (WS.mono (WS.loop (Q:=fun(c:Option (Option Nat)×Nat×Nat) st'=>c.1=none/\st=st'/\c.2.1<c.2.2/\c.2.1<m - hint/\bey lt left k (gp p (base+(hint+c.2.1)))=true/\(m - hint<=c.2.2\/hint+c.2.2<m/\bey lt left k (gp p (base+(hint+c.2.2)))=false))
   (fun j (c:Option (Option Nat)×Nat×Nat) st'=>c.1=none/\st=st'/\c.2.1<c.2.2/\c.2.1<m - hint/\bey lt left k (gp p (base+(hint+c.2.1)))=true/\m<=c.2.2+j) ⟨rfl,rfl,#[0],#[0],hb0,#[0]⟩ (fun j x c st' hI=>?_) fun c st' hI=>?_) fun c st' hQ=>?_)
  . obtain⟨r,lastofs,ofs⟩:=c
    obtain⟨h1,rfl,h2,h3,h4,h5⟩:=hI;dsimp only at h1 h2 h3 h4 h5 ⊢;subst h1
    by_cases hc:ofs>=m - hint
    . rw [if_pos hc]
      exact WS.ret ⟨rfl,rfl,h2,h3,h4,.inl hc⟩
    . rw [if_neg hc]
      refine WS.bnd (ask (hint+ofs) st _ hk #[0] ?_)
      dsimp only;cases hb':bey lt left k (gp p (base+(hint+ofs))) with
      | true=>
       rw [if_neg #[1]]
       exact WS.ret ⟨rfl,rfl,#[0],#[0],hb',#[0]⟩
      | false=>
       rw [if_pos #[1]]
       exact WS.ret ⟨rfl,rfl,h2,h3,h4,.inr ⟨#[0],hb'⟩⟩
  . obtain⟨h1,h2,h3,h4,h5,h6⟩:=hI
    exact⟨h1,h2,h3,h4,h5,.inl #[0]⟩
  obtain⟨r,lastofs,ofs⟩:=c;obtain⟨h1,rfl,h2,h3,h4,h5⟩:=hQ;dsimp only at h1 h2 h3 h4 h5 ⊢;subst h1;dsimp only;have hlo:hint+lastofs+1<=hint+min ofs (m - hint):=#[0]
  have hhi:hint+min ofs (m - hint)<=m:=#[0]
  have hlow:∀ i,i<hint+lastofs+1->bey lt left k (gp p (base+i))=true:=fun i hi=>mono i (hint+lastofs) #[0] #[0] h4
  have hupp:∀ i,hint+min ofs (m - hint)<=i->i<m->bey lt left k (gp p (base+i))=false:=fun i hi him=>by
   rcases h5 with h5|⟨h5,h6⟩
   . omega
   . exact contra (hint+ofs) i #[0] him h6
  refine WS.bnd (WS.loop (fun j (c:Option (Option Nat)×Nat×Nat) st'=>c.1=none/\st=st'/\c.2.1<=c.2.2/\c.2.2<=m/\c.2.2<=c.2.1+j/\(∀ i,i<c.2.1->bey lt left k (gp p (base+i))=true)/\∀ i,c.2.2<=i->i<m->bey lt left k (gp p (base+i))=false) ?h0 (fun j x c st' hI=>?hs) fun c st' hI=>?hn)
  case h0=>exact⟨rfl,rfl,hlo,hhi,#[0],hlow,hupp⟩
  case hn=>
   obtain⟨r,lo,hi⟩:=c;obtain⟨h1,rfl,h2,h3,h4,h5,h6⟩:=hI;dsimp only at h1 h2 h3 h4 h5 h6 ⊢;subst h1;exact WS.ret (q hi h3 (fun i hi=>h5 i #[0]) h6)
  case hs=>
   obtain⟨r,lo,hi⟩:=c;obtain⟨h1,rfl,h2,h3,h4,h5,h6⟩:=hI;dsimp only at h1 h2 h3 h4 h5 h6 ⊢;subst h1
   by_cases hc:lo>=hi
   . rw [if_pos hc]
     exact WS.ret (WS.ret (q hi h3 (fun i hi=>h5 i #[0]) h6))
   . rw [if_neg hc]
     refine WS.bnd (ask (lo+(hi - lo)/2) st _ hk #[0] ?_)
     dsimp only;cases hb':bey lt left k (gp p (base+(lo+(hi - lo)/2))) with
     | true=>
      refine WS.ret ⟨rfl,rfl,?_,h3,?_,fun i hi'=>?_,h6⟩
      . omega
      . omega
      . have hi':i<lo+(hi - lo)/2+1:=hi'
        exact mono i _ #[0] #[0] hb'
     | false=>
      refine WS.ret ⟨rfl,rfl,?_,?_,?_,h5,fun i hi' him=>?_⟩
      . omega
      . omega
      . omega
      . have hi':lo+(hi - lo)/2<=i:=hi'
        exact contra _ i hi' him hb'
 | false=>
  rw [if_neg #[1]]
  refine WS.bnd (WS.mono (WS.loop (Q:=fun(c:Option (Option Nat)×Nat×Nat) st'=>c.1=none/\st=st'/\c.2.1<c.2.2/\c.2.1<hint+1/\bey lt left k (gp p (base+(hint - c.2.1)))=false/\(hint+1<=c.2.2\/c.2.2<=hint/\bey lt left k (gp p (base+(hint - c.2.2)))=true))
   (fun j (c:Option (Option Nat)×Nat×Nat) st'=>c.1=none/\st=st'/\c.2.1<c.2.2/\c.2.1<hint+1/\bey lt left k (gp p (base+(hint - c.2.1)))=false/\hint+1<=c.2.2+j) ⟨rfl,rfl,#[0],#[0],hb0,#[0]⟩ (fun j x c st' hI=>?_) fun c st' hI=>?_) fun c st' hQ=>?_)
  . obtain⟨r,lastofs,ofs⟩:=c
    obtain⟨h1,rfl,h2,h3,h4,h5⟩:=hI;dsimp only at h1 h2 h3 h4 h5 ⊢;subst h1
    by_cases hc:ofs>=hint+1
    . rw [if_pos hc]
      exact WS.ret ⟨rfl,rfl,h2,h3,h4,.inl hc⟩
    . rw [if_neg hc]
      refine WS.bnd (ask (hint - ofs) st _ hk #[0] ?_)
      dsimp only;cases hb':bey lt left k (gp p (base+(hint - ofs))) with
      | true=>
       rw [if_pos rfl];exact WS.ret ⟨rfl,rfl,h2,h3,h4,.inr ⟨#[0],hb'⟩⟩
      | false=>
       rw [if_neg #[1]]
       exact WS.ret ⟨rfl,rfl,#[0],#[0],hb',#[0]⟩
  . obtain⟨h1,h2,h3,h4,h5,h6⟩:=hI
    exact⟨h1,h2,h3,h4,h5,.inl #[0]⟩
  obtain⟨r,lastofs,ofs⟩:=c;obtain⟨h1,rfl,h2,h3,h4,h5⟩:=hQ;dsimp only at h1 h2 h3 h4 h5 ⊢;subst h1;dsimp only;have hlo:hint+1 - min ofs (hint+1)<=hint - lastofs:=#[0]
  have hhi:hint - lastofs<=m:=#[0]
  have hlow:∀ i,i<hint+1 - min ofs (hint+1)->bey lt left k (gp p (base+i))=true:=fun i hi=>by
   rcases h5 with h5|⟨h5,h6⟩
   . omega
   . exact mono i (hint - ofs) #[0] #[0] h6
  have hupp:∀ i,hint - lastofs<=i->i<m->bey lt left k (gp p (base+i))=false:=fun i hi him=>contra (hint - lastofs) i hi him h4
  refine WS.bnd (WS.loop (fun j (c:Option (Option Nat)×Nat×Nat) st'=>c.1=none/\st=st'/\c.2.1<=c.2.2/\c.2.2<=m/\c.2.2<=c.2.1+j/\(∀ i,i<c.2.1->bey lt left k (gp p (base+i))=true)/\∀ i,c.2.2<=i->i<m->bey lt left k (gp p (base+i))=false) ?h0 (fun j x c st' hI=>?hs) fun c st' hI=>?hn)
  case h0=>exact⟨rfl,rfl,hlo,hhi,#[0],hlow,hupp⟩
  case hn=>
   obtain⟨r,lo,hi⟩:=c;obtain⟨h1,rfl,h2,h3,h4,h5,h6⟩:=hI;dsimp only at h1 h2 h3 h4 h5 h6 ⊢;subst h1;exact WS.ret (q hi h3 (fun i hi=>h5 i #[0]) h6)
  case hs=>
   obtain⟨r,lo,hi⟩:=c;obtain⟨h1,rfl,h2,h3,h4,h5,h6⟩:=hI;dsimp only at h1 h2 h3 h4 h5 h6 ⊢;subst h1
   by_cases hc:lo>=hi
   . rw [if_pos hc]
     exact WS.ret (WS.ret (q hi h3 (fun i hi=>h5 i #[0]) h6))
   . rw [if_neg hc]
     refine WS.bnd (ask (lo+(hi - lo)/2) st _ hk #[0] ?_)
     dsimp only;cases hb':bey lt left k (gp p (base+(lo+(hi - lo)/2))) with
     | true=>
      refine WS.ret ⟨rfl,rfl,?_,h3,?_,fun i hi'=>?_,h6⟩
      . omega
      . omega
      . have hi':i<lo+(hi - lo)/2+1:=hi'
        exact mono i _ #[0] #[0] hb'
     | false=>
      refine WS.ret ⟨rfl,rfl,?_,?_,?_,h5,fun i hi' him=>?_⟩
      . omega
      . omega
      . omega
      . have hi':lo+(hi - lo)/2<=i:=hi'
        exact contra _ i hi' him hb'
end tim
def mg(lt:Nat->Nat->Bool):List Nat->List Nat->List Nat
 | [],ys=>ys
 | x::xs,[]=>x::xs
 | x::xs,y::ys=>if lt y x=true then y::mg lt (x::xs) ys else x::mg lt xs (y::ys)
termination_by xs ys=>xs.length+ys.length
section
variable{lt:Nat->Nat->Bool}
theorem jS(ys:List Nat):mg lt [] ys=ys:=by rw [mg]
theorem jI(xs:List Nat):mg lt xs []=xs:=by cases xs<;>rw [mg]
theorem jy(x:Nat)(xs:List Nat)(y:Nat)(ys:List Nat):mg lt (x::xs) (y::ys)=if lt y x=true then y::mg lt (x::xs) ys else x::mg lt xs (y::ys):=by rw [mg]
theorem zaC:∀ xs ys:List Nat,(mg lt xs ys).Perm (xs++ys)
 | [],ys=>by rw [jS];exact .refl _
 | x::xs,[]=>by rw [jI,Yao]
 | x :: xs, y :: ys => by
  rw [jy]
  split
  . exact((zaC (x::xs) ys).cons y).trans List.perm_middle.symm
  . exact(zaC xs (y::ys)).cons x
termination_by xs ys=>xs.length+ys.length
theorem zbv{z:Nat}:∀ (xs ys:List Nat),(∀ u∈ys,lt u z=true)->mg lt (xs++[z]) ys=mg lt xs ys++[z]
 | [],[],_=>by rw [List.nil_append,jI,jS];rfl
 | [], y :: ys, h => by
  rw [List.nil_append,jy,if_pos (h y YaV),jS];have:=zbv (z:=z) [] ys fun u hu=>h u (YaT _ hu)
  rw [List.nil_append,jS] at this;rw [this];rfl
 | x::xs,[],_=>by rw [jI,jI]
 | x :: xs, y :: ys, h => by
  rw [List.cons_append,jy,jy]
  split
  . have:=zbv (z:=z) (x::xs) ys fun u hu=>h u (YaT _ hu)
    rw [List.cons_append] at this;rw [this];rfl
  . rw [zbv xs (y::ys) h];rfl
termination_by xs ys=>xs.length+ys.length
theorem zbI{z:Nat}:∀ (xs ys:List Nat),(∀ u∈xs,lt z u=false)->mg lt xs (ys++[z])=mg lt xs ys++[z]
 | [],ys,_=>by rw [jS,jS]
 | x :: xs, [], h => by
  rw [List.nil_append,jy,if_neg (by rw [h x YaV];decide),jI]
  have:=zbI (z:=z) xs [] fun u hu=>h u (YaT _ hu)
  rw [List.nil_append,jI] at this;rw [this];rfl
 | x :: xs, y :: ys, h => by
  rw [List.cons_append,jy,jy]
  split
  . rw [zbI (x::xs) ys h];rfl
  . have:=zbI (z:=z) xs (y::ys) fun u hu=>h u (YaT _ hu)
    rw [List.cons_append] at this;rw [this];rfl
termination_by xs ys=>xs.length+ys.length
abbrev Up(lt:Nat->Nat->Bool)(l:List Nat):Prop:=l.Pairwise fun a b=>lt a b=true
theorem zb2{n:Nat}(O:Ordr lt n):∀ (xs ys:List Nat),(xs++ys).Nodup->(∀ u∈xs++ys,u<n)->Up lt xs->Up lt ys->Up lt (mg lt xs ys)
 | [],ys,_,_,_,h=>by rw [jS];exact h
 | x::xs,[],_,_,h,_=>by rw [jI];exact h
 | x :: xs, y :: ys, nd, hn, hx, hy => by
  have hne:x≠y:=fun e=>by
   have:=(WaQ.mp nd).2.2 x YaV y YaV;exact this e
  rw [jy]
  by_cases c:lt y x=true
  . rw [if_pos c]
    have nd':(x::xs++ys).Nodup:=nd.sublist (List.Sublist.append_left (List.sublist_cons_self _ _) _);refine YaC.mpr ⟨fun u hu=>?_,zb2 O (x::xs) ys nd' (fun u hu=>hn u (by simp only [Ya3,Wbp] at hu ⊢;rcases hu with (z|z)|z<;>simp [z])) hx (YaC.mp hy).2⟩
    have hu:=(zaC (x::xs) ys).mem_iff.mp hu;simp only [Ya3,Wbp] at hu
    rcases hu with (z|z)|z
    . rw [z];exact c
    . exact O.tr _ _ _ c ((YaC.mp hx).1 u z)
    . exact(YaC.mp hy).1 u z
  . rw [if_neg c]
    have c':lt x y=true:=by
     rcases O.co x y (hn x (by simp)) (hn y (by simp)) hne with z|z
     . exact z
     . exact absurd z c
    have nd':(xs++y::ys).Nodup:=(YaB.mp nd).2;refine YaC.mpr ⟨fun u hu=>?_,zb2 O xs (y::ys) nd' (fun u hu=>hn u (YaT _ hu)) (YaC.mp hx).2 hy⟩
    have hu:=(zaC xs (y::ys)).mem_iff.mp hu;simp only [Ya3,Wbp] at hu
    rcases hu with z|z|z
    . exact(YaC.mp hx).1 u z
    . rw [z];exact c'
    . exact O.tr _ _ _ c' ((YaC.mp hy).1 u z)
termination_by xs ys=>xs.length+ys.length
theorem Jn(p:Array Nat)(i:Nat):gp p i=p.toList.getD i 0:=by simp [gp]
theorem ZR{p:Array Nat}{i:Nat}(h:i<p.size):p.toList.drop i=gp p i::p.toList.drop (i+1):=by
 rw [Jn,Wah (by simpa using h),YaP,YaQ (by simpa using h)]
 rfl
theorem zcK{p:Array Nat}{i:Nat}(h:i<p.size):p.toList.take (i+1)=p.toList.take i++[gp p i]:=by
 rw [Jn,WaS,YaP,YaQ (by simpa using h)]
 rfl
theorem mg_b{pa pb:Array Nat}{ia ib:Nat}(ha:ia<pa.size)(hb:ib<pb.size)(h:lt (gp pb ib) (gp pa ia)=true):mg lt (pa.toList.drop ia) (pb.toList.drop ib)=gp pb ib::mg lt (pa.toList.drop ia) (pb.toList.drop (ib+1)):=by
 rw [ZR ha,ZR hb,jy,if_pos h]
theorem mg_a{pa pb:Array Nat}{ia ib:Nat}(ha:ia<pa.size)(hb:ib<pb.size)(h:lt (gp pb ib) (gp pa ia)=false):mg lt (pa.toList.drop ia) (pb.toList.drop ib)=gp pa ia::mg lt (pa.toList.drop (ia+1)) (pb.toList.drop ib):=by
 rw [ZR ha,ZR hb,jy,if_neg (by rw [h];decide)]
theorem zfh{pa pb:Array Nat}{ib:Nat}(hb:ib<pb.size):∀ (k ia:Nat),ia+k<=pa.size->(∀ i,i<k->lt (gp pb ib) (gp pa (ia+i))=false)->mg lt (pa.toList.drop ia) (pb.toList.drop ib)=(pa.extract ia (ia+k)).toList++mg lt (pa.toList.drop (ia+k)) (pb.toList.drop ib)
 | 0,ia,_,_=>by simp
 | k + 1, ia, hk, h => by
  rw [mg_a (ia:=ia) #[0] hb (h 0 #[0]),zfh hb k (ia+1) #[0] fun i hi=>by have:=h (i+1) #[0];rwa [show ia+(i+1)=ia+1+i by omega] at this]
  have e:(pa.extract ia (ia+(k+1))).toList=gp pa ia::(pa.extract (ia+1) (ia+1+k)).toList:=by
   simp only [WaA,List.extract_eq_drop_take];rw [ZR (p:=pa) (i:=ia) #[0],show ia+(k+1) - ia=k+1 by omega,List.take_succ_cons,show ia+1+k - (ia+1)=k by omega]
  rw [e,show ia+1+k=ia+(k+1) by omega]
  rfl
theorem zca{pa pb:Array Nat}{ia:Nat}(ha:ia<pa.size):∀ (k ib:Nat),ib+k<=pb.size->(∀ i,i<k->lt (gp pb (ib+i)) (gp pa ia)=true)->mg lt (pa.toList.drop ia) (pb.toList.drop ib)=(pb.extract ib (ib+k)).toList++mg lt (pa.toList.drop ia) (pb.toList.drop (ib+k))
 | 0,ib,_,_=>by simp
 | k + 1, ib, hk, h => by
  rw [mg_b (ib:=ib) ha #[0] (h 0 #[0]),zca ha k (ib+1) #[0] fun i hi=>by have:=h (i+1) #[0];rwa [show ib+(i+1)=ib+1+i by omega] at this]
  have e:(pb.extract ib (ib+(k+1))).toList=gp pb ib::(pb.extract (ib+1) (ib+1+k)).toList:=by
   simp only [WaA,List.extract_eq_drop_take];rw [ZR (p:=pb) (i:=ib) #[0],show ib+(k+1) - ib=k+1 by omega,List.take_succ_cons,show ib+1+k - (ib+1)=k by omega]
  rw [e,show ib+1+k=ib+(k+1) by omega]
  rfl
end
abbrev zhF:Array Keyed->Array Keyed->StateT SortSt Sem (Array Keyed):=sortPriv% PySem.Builtin.mergeLo
abbrev zm5:Array Keyed->Array Keyed->StateT SortSt Sem (Array Keyed):=sortPriv% PySem.Builtin.mergeHi
def Stk(st st':SortSt):Prop:=∃ g,st'=SortSt.mk' (kindOf st) (arrOf st) (pendingOf st) g (failedOf st)
theorem Stk.refl(st:SortSt):Stk st st:=⟨gallopOf st,rfl⟩
theorem Stk.kind{st st':SortSt}(h:Stk st st'):kindOf st'=kindOf st:=by obtain⟨g,rfl⟩:=h;rfl
theorem Stk.trans{a b c:SortSt}(h:Stk a b)(h':Stk b c):Stk a c:=by
 obtain⟨g,rfl⟩:=h;obtain⟨g',rfl⟩:=h';exact⟨g',rfl⟩
section
variable{it:Array Keyed}{lt:Nat->Nat->Bool}
def Live(it:Array Keyed)(lt:Nat->Nat->Bool)(pa pb:Array Nat)(out:Array Keyed)(ia ib:Nat):Prop:=∃ po:Array Nat,out=po.map (kas_item it)/\po.toList++mg lt (pa.toList.drop ia) (pb.toList.drop ib)=mg lt pa.toList pb.toList
def FinM(it:Array Keyed)(lt:Nat->Nat->Bool)(pa pb:Array Nat)(r:Array Keyed):Prop:=∃ po:Array Nat,r=po.map (kas_item it)/\po.toList=mg lt pa.toList pb.toList
variable{pa pb:Array Nat}{out:Array Keyed}{ia ib:Nat}
theorem Live.b(h:Live it lt pa pb out ia ib)(ha:ia<pa.size)(hb:ib<pb.size)(c:lt (gp pb ib) (gp pa ia)=true):Live it lt pa pb (out.push (kas_item it (gp pb ib))) ia (ib+1):=by
 obtain⟨po,rfl,e⟩:=h;refine⟨po.push (gp pb ib),by rw [Array.map_push],?_⟩
 rw [<-e,mg_b ha hb c,WaT,Yag];rfl
theorem Live.a(h:Live it lt pa pb out ia ib)(ha:ia<pa.size)(hb:ib<pb.size)(c:lt (gp pb ib) (gp pa ia)=false):Live it lt pa pb (out.push (kas_item it (gp pa ia))) (ia+1) ib:=by
 obtain⟨po,rfl,e⟩:=h;refine⟨po.push (gp pa ia),by rw [Array.map_push],?_⟩
 rw [<-e,mg_a ha hb c,WaT,Yag];rfl
theorem Live.as(h:Live it lt pa pb out ia ib){k:Nat}(ha:ia+k<=pa.size)(hb:ib<pb.size)(c:∀ i,i<k->lt (gp pb ib) (gp pa (ia+i))=false):Live it lt pa pb (out++(pa.map (kas_item it)).extract ia (ia+k)) (ia+k) ib:=by
 obtain⟨po,rfl,e⟩:=h;refine⟨po++pa.extract ia (ia+k),by rw [Wa8,Yaq],?_⟩
 rw [<-e,zfh hb k ia ha c,Yar,Yag]
theorem Live.bs(h:Live it lt pa pb out ia ib){k:Nat}(ha:ia<pa.size)(hb:ib+k<=pb.size)(c:∀ i,i<k->lt (gp pb (ib+i)) (gp pa ia)=true):Live it lt pa pb (out++(pb.map (kas_item it)).extract ib (ib+k)) ia (ib+k):=by
 obtain⟨po,rfl,e⟩:=h;refine⟨po++pb.extract ib (ib+k),by rw [Wa8,Yaq],?_⟩
 rw [<-e,zca ha k ib hb c,Yar,Yag]
theorem zay(p:Array Nat)(i:Nat):(p.extract i).toList=p.toList.drop i:=by
 simp only [WaA,List.extract_eq_drop_take];exact Was (by simp)
theorem Live.done(h:Live it lt pa pb out ia ib)(e0:ia=pa.size\/ib=pb.size):FinM it lt pa pb (out++(pa.map (kas_item it)).extract ia pa.size++(pb.map (kas_item it)).extract ib pb.size):=by
 obtain⟨po,rfl,e⟩:=h;refine⟨po++pa.extract ia++pb.extract ib,by rw [Wa8,Wa8,Yaq,Yaq],?_⟩
 rw [<-e,Yar,Yar,zay,zay,Yag]
 congr 1
 rcases e0 with rfl|rfl
 . rw [Wat (by simp),jS];rfl
 . rw [Wat (by simp:pb.toList.length<=pb.size),jI,Yao]
theorem Live.last(h:Live it lt pa pb out ia ib)(e0:ia+1=pa.size)(hb:ib<=pb.size)(c:∀ j,j<pb.size->lt (gp pb j) (gp pa (pa.size - 1))=true):FinM it lt pa pb (out++(pb.map (kas_item it)).extract ib pb.size++(pa.map (kas_item it)).extract ia pa.size):=by
 obtain⟨po,rfl,e⟩:=h;refine⟨po++pb.extract ib++pa.extract ia,by rw [Wa8,Wa8,Yaq,Yaq],?_⟩
 rw [<-e,Yar,Yar,zay,zay,Yag]
 congr 1
 rw [zca (pa:=pa) (pb:=pb) (ia:=ia) #[0] (pb.size - ib) ib #[0] fun i hi=>by have:=c (ib+i) #[0];rwa [show pa.size - 1=ia by omega] at this]
 rw [show ib+(pb.size - ib)=pb.size by omega,zay,Wat (by simp:pb.toList.length<=pb.size),jI]
end
theorem Stk.gal{a b:SortSt}{g:Nat}(h:Stk a b):Stk a (SortSt.mk' (kindOf b) (arrOf b) (pendingOf b) g (failedOf b)):=by obtain⟨g',rfl⟩:=h;exact⟨g,rfl⟩
theorem up_b{lt:Nat->Nat->Bool}{n:Nat}{pb:Array Nat}{k ib:Nat}(O:Ordr lt n)(ub:∀ i j,i<j->j<pb.size->lt (gp pb i) (gp pb j)=true){i j:Nat}(hij:i<=j)(hj:ib+j<pb.size)(h:bey lt true k (gp pb (ib+j))=true):bey lt true k (gp pb (ib+i))=true:=by
 unfold bey at h ⊢;rw [if_pos rfl] at h ⊢
 by_cases e:i=j
 . rw [e];exact h
 . exact O.tr _ _ _ (ub _ _ #[0] hj) h
theorem up_a{lt:Nat->Nat->Bool}{n:Nat}{pa:Array Nat}{k ia:Nat}(O:Ordr lt n)(ua:∀ i j,i<j->j<pa.size->lt (gp pa i) (gp pa j)=true){i j:Nat}(hij:i<=j)(hj:ia+j<pa.size)(h:bey lt false k (gp pa (ia+j))=true):bey lt false k (gp pa (ia+i))=true:=by
 unfold bey at h ⊢;rw [if_neg #[1]] at h ⊢
 by_cases e:i=j
 . rw [e];exact h
 . cases c:lt k (gp pa (ia+i)) with
   | false=>rfl
   | true=>
    rw [O.tr _ _ _ c (ua _ _ (show ia+i<ia+j by omega) hj)] at h
    cases h
section tim
variable{prog:Program}{w:World}{A:Around}{E:Value->Shared->Prop}{s:Shared}{α β : Type}{st:SortSt}{κ : SortKind}{it:Array Keyed}{lt:Nat->Nat->Bool}{n:Nat}
variable(K:Z4 prog w A s κ it lt n)(O:Ordr lt n)
include K O
theorem WS.mergeLo{pa pb:Array Nat}{Q:Array Keyed->SortSt->Prop}(hk:kindOf st = κ)(ha:∀ i,i<pa.size->gp pa i<n)(hb:∀ i,i<pb.size->gp pb i<n)(ua:∀ i j,i<j->j<pa.size->lt (gp pa i) (gp pa j)=true)(ub:∀ i j,i<j->j<pb.size->lt (gp pb i) (gp pb j)=true)
 (h1:1<=pa.size) (h2:1<=pb.size) (h3:lt (gp pb 0) (gp pa 0)=true) (h4:∀ j,j<pb.size->lt (gp pb j) (gp pa (pa.size - 1))=true) (q:∀ r st',Stk st st'->FinM it lt pa pb r->Q r st') :
 WS prog w A E s (zhF (pa.map (kas_item it)) (pb.map (kas_item it))) st Q:=by
 have sza:(pa.map (kas_item it)).size=pa.size:=Wbn ..;have szb:(pb.map (kas_item it)).size=pb.size:=Wbn ..;refine WS.bnd (WS.rl ?_);refine WS.bnd (WS.elem (zC #[0]) ?_)
 have L0:Live it lt pa pb #[kas_item it (gp pb 0)] 0 1:=(show Live it lt pa pb #[] 0 0 from⟨#[],by simp,by simp⟩).b #[0] #[0] h3
 dsimp only;simp only [sza,szb]
 by_cases c1:1=pb.size
 . rw [if_pos (by simp [<-c1])]
   exact WS.ret (q _ _ (.refl _) (L0.done (.inr c1)))
 rw [if_neg #[6]]
 by_cases c2:0+1=pa.size
 . rw [if_pos #[6]]
   exact WS.ret (q _ _ (.refl _) (L0.last #[0] #[0] h4))
 rw [if_neg #[6]]
 refine WS.bnd (WS.gt ?_)
 try dsimp only
 refine WS.bnd (WS.mono (WS.loop (Q:=fun(c:Option (Array Keyed)×Array Keyed×Nat×Nat×Nat) st'=>∃ r,c.1=some r/\Stk st st'/\FinM it lt pa pb r)
  (fun j (c:Option (Array Keyed)×Array Keyed×Nat×Nat×Nat) st'=>c.1=none/\Stk st st'/\Live it lt pa pb c.2.1 c.2.2.1 c.2.2.2.1/\c.2.2.1+1<pa.size/\c.2.2.2.1<pb.size/\(pa.size - c.2.2.1)+(pb.size - c.2.2.2.1)<=j) ⟨rfl,.refl _,L0,#[0],#[0],#[0]⟩ (fun j x c st' hI=>?_) fun c st' hI=>?_) fun c st' hQ=>?_)
 case refine_2=>
  obtain⟨h0,S,L,la,lb,lm⟩:=hI
  omega
 case refine_3=>
  obtain⟨r,out,ia,ib,mgal⟩:=c;obtain⟨r',h0,S,F⟩:=hQ;have h0:r=some r':=h0;subst h0;exact WS.ret (q r' st' S F)
 obtain⟨r0,out,ia,ib,mgal⟩:=c;obtain⟨h0,S,L,la,lb,lm⟩:=hI;dsimp only at h0 L la lb lm ⊢;subst h0;refine WS.bnd (WS.mono (WS.loop (Q:=fun(c:Option (Array Keyed)×Array Keyed×Nat×Nat×Nat×Nat) st2=>st'=st2/\((∃ r,c.1=some r/\FinM it lt pa pb r)\/(c.1=none/\Live it lt pa pb c.2.1 c.2.2.1 c.2.2.2.1/\c.2.2.1+1<pa.size/\c.2.2.2.1<pb.size/\(pa.size - c.2.2.1)+(pb.size - c.2.2.2.1)<(pa.size - ia)+(pb.size - ib))))
  (fun i (c:Option (Array Keyed)×Array Keyed×Nat×Nat×Nat×Nat) st2=>st'=st2/\c.1=none/\Live it lt pa pb c.2.1 c.2.2.1 c.2.2.2.1/\c.2.2.1+1<pa.size/\c.2.2.2.1<pb.size/\(pa.size - c.2.2.1)+(pb.size - c.2.2.2.1)<=(pa.size - ia)+(pb.size - ib)/\(i<pa.size+pb.size->(pa.size - c.2.2.1)+(pb.size - c.2.2.2.1)<(pa.size - ia)+(pb.size - ib))) ⟨rfl,rfl,L,la,lb,YaY _,fun h=>absurd h #[0]⟩ (fun i x c st2 hI=>?_) fun c st2 hI=>?_) fun c st2 hQ=>?_)
 case refine_2=>
  obtain⟨e,h0,L,la,lb,lm1,lm2⟩:=hI;exact⟨e,.inr ⟨h0,L,la,lb,lm2 #[0]⟩⟩
 case refine_1=>
  obtain⟨r0,out1,ia1,ib1,ac,bc⟩:=c;obtain⟨e,h0,L,la,lb,lm1,lm2⟩:=hI;dsimp only at h0 L la lb lm1 lm2 ⊢;subst e h0;refine WS.bnd (WS.elem (zC #[0]) ?_)
  refine WS.bnd (WS.elem (zC #[0]) ?_)
  refine WS.bnd (WS.ltq K (S.kind.trans hk) (hb _ #[0]) (ha _ #[0]) ?_)
  dsimp only;cases hc:lt (gp pb ib1) (gp pa ia1) with
  | true=>
   rw [if_pos rfl];refine WS.bnd (WS.elem (zC #[0]) ?_)
   have L1:=L.b #[0] lb hc
   by_cases c4:ib1+1=pb.size
   . rw [if_pos #[6]]
     exact WS.ret ⟨rfl,.inl ⟨_,rfl,L1.done (.inr c4)⟩⟩
   rw [if_neg #[6]]
   refine WS.ite ?_ ?_
   . exact WS.ret ⟨rfl,.inr ⟨rfl,L1,la,#[0],#[0]⟩⟩
   . exact WS.ret ⟨rfl,rfl,L1,la,#[0],#[0],fun _=>by omega⟩
  | false=>
   rw [if_neg #[1]]
   refine WS.bnd (WS.elem (zC #[0]) ?_)
   have L1:=L.a #[0] lb hc
   by_cases c4:ia1+1+1=pa.size
   . rw [if_pos #[6]]
     exact WS.ret ⟨rfl,.inl ⟨_,rfl,L1.last #[0] #[0] h4⟩⟩
   rw [if_neg #[6]]
   refine WS.ite ?_ ?_
   . exact WS.ret ⟨rfl,.inr ⟨rfl,L1,#[0],lb,#[0]⟩⟩
   . exact WS.ret ⟨rfl,rfl,L1,#[0],lb,#[0],fun _=>by omega⟩
 obtain⟨r1,out1,ia1,ib1,ac,bc⟩:=c;obtain⟨e,hQ⟩:=hQ;subst e
 rcases hQ with ⟨r,h0,F⟩|⟨h0,L1,la1,lb1,lm1⟩
 . have h0:r1=some r:=h0
   subst h0;exact WS.ret ⟨r,rfl,S,F⟩
 dsimp only at h0 L1 la1 lb1 lm1 ⊢;subst h0;dsimp only;refine WS.bnd (WS.rl ?_);refine WS.bnd (WS.mono (WS.loop (Q:=fun(c:Option (Array Keyed)×Array Keyed×Nat×Nat×Nat×Nat×Nat) st3=>Stk st st3/\((∃ r,c.1=some r/\FinM it lt pa pb r)\/(c.1=none/\Live it lt pa pb c.2.1 c.2.2.1 c.2.2.2.1/\c.2.2.1+1<pa.size/\c.2.2.2.1<pb.size/\(pa.size - c.2.2.1)+(pb.size - c.2.2.2.1)<=(pa.size - ia1)+(pb.size - ib1))))
  (fun i (c:Option (Array Keyed)×Array Keyed×Nat×Nat×Nat×Nat×Nat) st3=>Stk st st3/\c.1=none/\Live it lt pa pb c.2.1 c.2.2.1 c.2.2.2.1/\c.2.2.1+1<pa.size/\c.2.2.2.1<pb.size/\(pa.size - c.2.2.1)+(pb.size - c.2.2.2.1)<=(pa.size - ia1)+(pb.size - ib1)) ⟨S,rfl,L1,la1,lb1,YaY _⟩ (fun i x c st3 hI=>?_) fun c st3 hI=>⟨hI.1,.inr hI.2⟩) fun c st3 hQ=>?_)
 case refine_2=>
  obtain⟨r2,out2,ia2,ib2,mg2,ac2,bc2⟩:=c;obtain⟨S2,hQ⟩:=hQ
  rcases hQ with ⟨r,h0,F⟩|⟨h0,L2,la2,lb2,lm2⟩
  . have h0:r2=some r:=h0
    subst h0;exact WS.ret ⟨r,rfl,S2,F⟩
  dsimp only at h0 L2 la2 lb2 lm2 ⊢;subst h0;dsimp only;refine WS.bnd (WS.mdf (WS.ret ?_));exact⟨rfl,S2.gal,L2,la2,lb2,#[0]⟩
 obtain⟨r2,out,ia,ib,mg2,ac2,bc2⟩:=c;obtain⟨S2,h0,L,la,lb,lm2⟩:=hI;dsimp only at h0 L la lb lm2 ⊢;subst h0
 apply WS.jp (mg2 - 1) mg2
 case hx=>rfl
 intro mg3;refine WS.bnd (WS.mdf ?_);have S3:=S2.gal (g:=mg3);refine WS.bnd (WS.elem (zC #[0]) ?_)
 refine WS.bnd (WS.gallop K (S3.kind.trans hk) (hb _ #[0]) (fun i hi=>ha _ #[0]) #[0] #[0] (fun i j hij hj hbt=>?_) fun k1 hk1 g1 g2=>?_)
 . exact up_a O ua hij #[0] hbt
 dsimp only;have hx1:ia+k1<pa.size->lt (gp pb ib) (gp pa (ia+k1))=true:=fun z=>by
  have:=g2 k1 (YaY _) #[0]
  unfold bey at this
  simpa using this
 have g1':∀ i,i<k1->lt (gp pb ib) (gp pa (ia+i))=false:=fun i hi=>by
  have:=g1 i hi;unfold bey at this
  simpa using this
 by_cases c1:k1 > 0
 . rw [if_pos c1]
   have L1:=L.as (k:=k1) #[0] lb g1'
   by_cases c2:ia+k1+1=pa.size
   . rw [if_pos #[6]]
     exact WS.ret ⟨S3,.inl ⟨_,rfl,L1.last #[0] #[0] h4⟩⟩
   rw [if_neg #[6]]
   by_cases c3:ia+k1=pa.size
   . rw [if_pos #[6]]
     exact WS.ret ⟨S3,.inl ⟨_,rfl,L1.done (.inl c3)⟩⟩
   rw [if_neg #[6]]
   refine WS.bnd (WS.elem (zC #[0]) ?_)
   have L2:=L1.b #[0] #[0] (hx1 #[0])
   by_cases c4:ib+1=pb.size
   . rw [if_pos #[6]]
     exact WS.ret ⟨S3,.inl ⟨_,rfl,L2.done (.inr c4)⟩⟩
   rw [if_neg #[6]]
   refine WS.bnd (WS.elem (zC #[0]) ?_)
   refine WS.bnd (WS.gallop K (S3.kind.trans hk) (ha _ #[0]) (fun i hi=>hb _ #[0]) #[0] #[0] (fun i j hij hj hbt=>?_) fun k2 hk2 g1 g2=>?_)
   . exact up_b O ub hij #[0] hbt
   dsimp only;have hx2:ib+1+k2<pb.size->lt (gp pb (ib+1+k2)) (gp pa (ia+k1))=false:=fun z=>g2 k2 (YaY _) #[0]
   by_cases c6:k2 > 0
   . rw [if_pos c6]
     have L3':=L2.bs (k:=k2) #[0] #[0] g1
     by_cases c7:ib+1+k2=pb.size
     . rw [if_pos #[6]]
       exact WS.ret ⟨S3,.inl ⟨_,rfl,L3'.done (.inr c7)⟩⟩
     rw [if_neg #[6]]
     refine WS.bnd (WS.elem (zC #[0]) ?_)
     have L4:=L3'.a #[0] #[0] (hx2 #[0])
     by_cases c5:ia+k1+1+1=pa.size
     . rw [if_pos #[6]]
       exact WS.ret ⟨S3,.inl ⟨_,rfl,L4.last #[0] #[0] h4⟩⟩
     rw [if_neg #[6]]
     refine WS.ite ?_ ?_
     . exact WS.ret ⟨S3,.inr ⟨rfl,L4,#[0],#[0],#[0]⟩⟩
     . exact WS.ret ⟨S3,rfl,L4,#[0],#[0],#[0]⟩
   . rw [if_neg c6]
     have c6:k2=0:=#[0]
     subst c6;have hx2:ib+1<pb.size->lt (gp pb (ib+1)) (gp pa (ia+k1))=false:=hx2;refine WS.bnd (WS.elem (zC #[0]) ?_)
     have L4:=L2.a #[0] #[0] (hx2 #[0])
     by_cases c5:ia+k1+1+1=pa.size
     . rw [if_pos #[6]]
       exact WS.ret ⟨S3,.inl ⟨_,rfl,L4.last #[0] #[0] h4⟩⟩
     rw [if_neg #[6]]
     refine WS.ite ?_ ?_
     . exact WS.ret ⟨S3,.inr ⟨rfl,L4,#[0],#[0],#[0]⟩⟩
     . exact WS.ret ⟨S3,rfl,L4,#[0],#[0],#[0]⟩
 . rw [if_neg c1]
   have c1:k1=0:=#[0]
   subst c1;have hx1:ia<pa.size->lt (gp pb ib) (gp pa ia)=true:=hx1;refine WS.bnd (WS.elem (zC #[0]) ?_)
   have L2:=L.b #[0] #[0] (hx1 #[0])
   by_cases c4:ib+1=pb.size
   . rw [if_pos #[6]]
     exact WS.ret ⟨S3,.inl ⟨_,rfl,L2.done (.inr c4)⟩⟩
   rw [if_neg #[6]]
   refine WS.bnd (WS.elem (zC #[0]) ?_)
   refine WS.bnd (WS.gallop K (S3.kind.trans hk) (ha _ #[0]) (fun i hi=>hb _ #[0]) #[0] #[0] (fun i j hij hj hbt=>?_) fun k2 hk2 g1 g2=>?_)
   . exact up_b O ub hij #[0] hbt
   dsimp only;have hx2:ib+1+k2<pb.size->lt (gp pb (ib+1+k2)) (gp pa (ia))=false:=fun z=>g2 k2 (YaY _) #[0]
   by_cases c6:k2 > 0
   . rw [if_pos c6]
     have L3':=L2.bs (k:=k2) #[0] #[0] g1
     by_cases c7:ib+1+k2=pb.size
     . rw [if_pos #[6]]
       exact WS.ret ⟨S3,.inl ⟨_,rfl,L3'.done (.inr c7)⟩⟩
     rw [if_neg #[6]]
     refine WS.bnd (WS.elem (zC #[0]) ?_)
     have L4:=L3'.a #[0] #[0] (hx2 #[0])
     by_cases c5:ia+1+1=pa.size
     . rw [if_pos #[6]]
       exact WS.ret ⟨S3,.inl ⟨_,rfl,L4.last #[0] #[0] h4⟩⟩
     rw [if_neg #[6]]
     refine WS.ite ?_ ?_
     . exact WS.ret ⟨S3,.inr ⟨rfl,L4,#[0],#[0],#[0]⟩⟩
     . exact WS.ret ⟨S3,rfl,L4,#[0],#[0],#[0]⟩
   . rw [if_neg c6]
     have c6:k2=0:=#[0]
     subst c6;have hx2:ib+1<pb.size->lt (gp pb (ib+1)) (gp pa (ia))=false:=hx2;refine WS.bnd (WS.elem (zC #[0]) ?_)
     have L4:=L2.a #[0] #[0] (hx2 #[0])
     by_cases c5:ia+1+1=pa.size
     . rw [if_pos #[6]]
       exact WS.ret ⟨S3,.inl ⟨_,rfl,L4.last #[0] #[0] h4⟩⟩
     rw [if_neg #[6]]
     refine WS.ite ?_ ?_
     . exact WS.ret ⟨S3,.inr ⟨rfl,L4,#[0],#[0],#[0]⟩⟩
     . exact WS.ret ⟨S3,rfl,L4,#[0],#[0],#[0]⟩
end tim
section
variable{it:Array Keyed}{lt:Nat->Nat->Bool}
def LivH(it:Array Keyed)(lt:Nat->Nat->Bool)(pa pb:Array Nat)(out:Array Keyed)(na nb:Nat):Prop:=∃ po:Array Nat,out=po.map (kas_item it)/\mg lt (pa.toList.take na) (pb.toList.take nb)++po.toList.reverse=mg lt pa.toList pb.toList
variable{pa pb:Array Nat}{out:Array Keyed}{na nb n:Nat}
theorem zey{p:Array Nat}{m x:Nat}(h:x∈p.toList.take m):∃ i,i<m/\i<p.size/\x=gp p i:=by
 obtain⟨i,hi,e⟩:=Yam h;rw [Wa5] at hi;have h1:i<p.size:=by have:=YaU hi (Nat.min_le_right _ _);simpa using this
 refine⟨i,YaU hi (Nat.min_le_left _ _),h1,?_⟩
 rw [<-e,List.getElem_take,Jn,YaP,YaQ (by simpa using h1)]
 rfl
theorem LivH.a(O:Ordr lt n)(ub:∀ i j,i<j->j<pb.size->lt (gp pb i) (gp pb j)=true)(h:LivH it lt pa pb out (na+1) nb)(ha:na<pa.size)(hb:nb<=pb.size)(c:nb≠0->lt (gp pb (nb - 1)) (gp pa na)=true):LivH it lt pa pb (out.push (kas_item it (gp pa na))) na nb:=by
 obtain⟨po,rfl,e⟩:=h;refine⟨po.push (gp pa na),by rw [Array.map_push],?_⟩
 rw [<-e,zcK ha,zbv,WaT,List.reverse_append,Yag]
 . rfl
 intro u hu;obtain⟨i,hi,hi2,rfl⟩:=zey hu
 by_cases z:i=nb - 1
 . rw [z];exact c #[0]
 . exact O.tr _ _ _ (ub _ _ #[0] #[0]) (c #[0])
theorem LivH.b(O:Ordr lt n)(ua:∀ i j,i<j->j<pa.size->lt (gp pa i) (gp pa j)=true)(h:LivH it lt pa pb out na (nb+1))(ha:na<=pa.size)(hb:nb<pb.size)(c:na≠0->lt (gp pb nb) (gp pa (na - 1))=false):LivH it lt pa pb (out.push (kas_item it (gp pb nb))) na nb:=by
 obtain⟨po,rfl,e⟩:=h;refine⟨po.push (gp pb nb),by rw [Array.map_push],?_⟩
 rw [<-e,zcK hb,zbI,WaT,List.reverse_append,Yag]
 . rfl
 intro u hu;obtain⟨i,hi,hi2,rfl⟩:=zey hu
 by_cases z:i=na - 1
 . rw [z];exact c #[0]
 . cases e:lt (gp pb nb) (gp pa i) with
   | false=>rfl
   | true=>
    have:=O.tr _ _ _ e (ua i (na - 1) #[0] #[0])
    rw [c #[0]] at this;cases this
theorem zfE(p:Array Nat){i m:Nat}(h1:i<m)(h2:m<=p.size):(p.extract i m).reverse = #[gp p (m - 1)]++(p.extract i (m - 1)).reverse:=by
 apply Array.ext'
 simp only [Array.toList_reverse,Yar,WaA,List.extract_eq_drop_take];have e:(List.drop i p.toList).take (m - i)=(List.drop i p.toList).take (m - 1 - i)++[gp p (m - 1)]:=by
  rw [show m - i=(m - 1 - i)+1 by omega,WaS,List.getElem?_drop,show i+(m - 1 - i)=m - 1 by omega,Jn,YaP,YaQ #[6]]
  rfl
 rw [e,List.reverse_append];rfl
theorem zej(p:Array Keyed)(i:Nat):p.extract i i = #[]:=by
 apply Array.ext';simp
theorem LivH.as(O:Ordr lt n)(ub:∀ i j,i<j->j<pb.size->lt (gp pb i) (gp pb j)=true):∀ (k:Nat) {out:Array Keyed} {na:Nat},LivH it lt pa pb out (na+k) nb->na+k<=pa.size->nb<=pb.size->nb≠0->(∀ i,na<=i->i<na+k->lt (gp pb (nb - 1)) (gp pa i)=true)->LivH it lt pa pb (out++((pa.map (kas_item it)).extract na (na+k)).reverse) na nb
 | 0, out, na, h, _, _, _, _ => by
  rw [Nat.add_zero,zej]
  simpa using h
 | k + 1, out, na, h, ha, hb, h0, c => by
  have h1:=LivH.a O ub (na:=na+k) h #[0] hb fun _=>c (na+k) #[0] #[0]
  have h2:=LivH.as O ub k h1 #[0] hb h0 fun i h1 h2=>c i h1 #[0]
  have e:((pa.map (kas_item it)).extract na (na+(k+1))).reverse = #[kas_item it (gp pa (na+k))]++((pa.map (kas_item it)).extract na (na+k)).reverse:=by
   have:=congrArg (Array.map (kas_item it)) (zfE pa (i:=na) (m:=na+(k+1)) #[0] #[0])
   rw [Wa8,WaU,WaU,Yaq,Yaq] at this
   simpa using this
  rw [e,<-WaE];exact h2
theorem LivH.bs(O:Ordr lt n)(ua:∀ i j,i<j->j<pa.size->lt (gp pa i) (gp pa j)=true):∀ (k:Nat) {out:Array Keyed} {nb:Nat},LivH it lt pa pb out na (nb+k)->nb+k<=pb.size->na<=pa.size->na≠0->(∀ i,nb<=i->i<nb+k->lt (gp pb i) (gp pa (na - 1))=false)->LivH it lt pa pb (out++((pb.map (kas_item it)).extract nb (nb+k)).reverse) na nb
 | 0, out, nb, h, _, _, _, _ => by
  rw [Nat.add_zero,zej]
  simpa using h
 | k + 1, out, nb, h, hb, ha, h0, c => by
  have h1:=LivH.b O ua (nb:=nb+k) h ha #[0] fun _=>c (nb+k) #[0] #[0]
  have h2:=LivH.bs O ua k h1 #[0] ha h0 fun i h1 h2=>c i h1 #[0]
  have e:((pb.map (kas_item it)).extract nb (nb+(k+1))).reverse = #[kas_item it (gp pb (nb+k))]++((pb.map (kas_item it)).extract nb (nb+k)).reverse:=by
   have:=congrArg (Array.map (kas_item it)) (zfE pb (i:=nb) (m:=nb+(k+1)) #[0] #[0])
   rw [Wa8,WaU,WaU,Yaq,Yaq] at this
   simpa using this
  rw [e,<-WaE];exact h2
theorem LivH.a1(O:Ordr lt n)(ub:∀ i j,i<j->j<pb.size->lt (gp pb i) (gp pb j)=true)(h:LivH it lt pa pb out na nb)(h0:na≠0)(ha:na<=pa.size)(hb:nb<=pb.size)(c:nb≠0->lt (gp pb (nb - 1)) (gp pa (na - 1))=true):LivH it lt pa pb (out.push (kas_item it (gp pa (na - 1)))) (na - 1) nb:=by
 obtain⟨m,rfl⟩:∃ m,na=m+1:=⟨na - 1,#[0]⟩
 exact LivH.a O ub h #[0] hb c
theorem LivH.b1(O:Ordr lt n)(ua:∀ i j,i<j->j<pa.size->lt (gp pa i) (gp pa j)=true)(h:LivH it lt pa pb out na nb)(h0:nb≠0)(ha:na<=pa.size)(hb:nb<=pb.size)(c:na≠0->lt (gp pb (nb - 1)) (gp pa (na - 1))=false):LivH it lt pa pb (out.push (kas_item it (gp pb (nb - 1)))) na (nb - 1):=by
 obtain⟨m,rfl⟩:∃ m,nb=m+1:=⟨nb - 1,#[0]⟩
 exact LivH.b O ua h ha #[0] c
theorem LivH.as1(O:Ordr lt n)(ub:∀ i j,i<j->j<pb.size->lt (gp pb i) (gp pb j)=true){at_:Nat}(h:LivH it lt pa pb out na nb)(h0:at_<=na)(ha:na<=pa.size)(hb:nb<=pb.size)(h1:nb≠0)(c:∀ i,at_<=i->i<na->lt (gp pb (nb - 1)) (gp pa i)=true):LivH it lt pa pb (out++((pa.map (kas_item it)).extract at_ na).reverse) at_ nb:=by
 obtain⟨k,rfl⟩:∃ k,na=at_+k:=⟨na - at_,#[0]⟩
 exact LivH.as O ub k h ha hb h1 c
theorem LivH.bs1(O:Ordr lt n)(ua:∀ i j,i<j->j<pa.size->lt (gp pa i) (gp pa j)=true){at_:Nat}(h:LivH it lt pa pb out na nb)(h0:at_<=nb)(ha:na<=pa.size)(hb:nb<=pb.size)(h1:na≠0)(c:∀ i,at_<=i->i<nb->lt (gp pb i) (gp pa (na - 1))=false):LivH it lt pa pb (out++((pb.map (kas_item it)).extract at_ nb).reverse) na at_:=by
 obtain⟨k,rfl⟩:∃ k,nb=at_+k:=⟨nb - at_,#[0]⟩
 exact LivH.bs O ua k h hb ha h1 c
theorem zbq(p:Array Nat)(m:Nat):(p.extract 0 m).toList=p.toList.take m:=by
 simp [WaA,List.extract_eq_drop_take]
theorem LivH.done(h:LivH it lt pa pb out na nb)(e0:na=0\/nb=0):FinM it lt pa pb ((pa.map (kas_item it)).extract 0 na++(pb.map (kas_item it)).extract 0 nb++out.reverse):=by
 obtain⟨po,rfl,e⟩:=h;refine⟨pa.extract 0 na++pb.extract 0 nb++po.reverse,by rw [Wa8,Wa8,Yaq,Yaq,WaU],?_⟩
 rw [<-e,Yar,Yar,zbq,zbq,Array.toList_reverse]
 congr 1
 rcases e0 with rfl|rfl
 . rw [List.take_zero,jS];rfl
 . rw [List.take_zero,jI,Yao]
theorem LivH.first(O:Ordr lt n)(ua:∀ i j,i<j->j<pa.size->lt (gp pa i) (gp pa j)=true)(h:LivH it lt pa pb out na nb)(e0:nb=1)(ha:na<=pa.size)(hb:1<=pb.size)(c:lt (gp pb 0) (gp pa 0)=true):FinM it lt pa pb ((pb.map (kas_item it)).extract 0 nb++(pa.map (kas_item it)).extract 0 na++out.reverse):=by
 obtain⟨po,rfl,e⟩:=h;refine⟨pb.extract 0 nb++pa.extract 0 na++po.reverse,by rw [Wa8,Wa8,Yaq,Yaq,WaU],?_⟩
 rw [<-e,Yar,Yar,zbq,zbq,Array.toList_reverse]
 congr 1
 subst e0;have e1:pb.toList.take 1=[gp pb 0]:=by have:=zcK (p:=pb) (i:=0) #[0];simpa using this
 rw [e1];cases hx:pa.toList.take na with
 | nil=>rw [jS];rfl
 | cons a r=>
  have:a=gp pa 0:=by
   have h1:na≠0:=fun z=>by rw [z,List.take_zero] at hx;cases hx
   have h2:(pa.toList.take na)[0]?=some a:=by rw [hx];rfl
   rw [Wam #[0]] at h2
   rw [Jn,YaP,h2];rfl
  rw [jy,this,if_pos c,jI];rfl
end
section tim
variable{prog:Program}{w:World}{A:Around}{E:Value->Shared->Prop}{s:Shared}{α β : Type}{st:SortSt}{κ : SortKind}{it:Array Keyed}{lt:Nat->Nat->Bool}{n:Nat}
variable(K:Z4 prog w A s κ it lt n)(O:Ordr lt n)
include K O
theorem WS.mergeHi{pa pb:Array Nat}{Q:Array Keyed->SortSt->Prop}(hk:kindOf st = κ)(ha:∀ i,i<pa.size->gp pa i<n)(hb:∀ i,i<pb.size->gp pb i<n)(ua:∀ i j,i<j->j<pa.size->lt (gp pa i) (gp pa j)=true)(ub:∀ i j,i<j->j<pb.size->lt (gp pb i) (gp pb j)=true)
 (h1:1<=pa.size) (h2:1<=pb.size) (h3:lt (gp pb 0) (gp pa 0)=true) (h4:∀ j,j<pb.size->lt (gp pb j) (gp pa (pa.size - 1))=true) (q:∀ r st',Stk st st'->FinM it lt pa pb r->Q r st') :
 WS prog w A E s (zm5 (pa.map (kas_item it)) (pb.map (kas_item it))) st Q:=by
 have sza:(pa.map (kas_item it)).size=pa.size:=Wbn ..;have szb:(pb.map (kas_item it)).size=pb.size:=Wbn ..;refine WS.bnd (WS.rl ?_);refine WS.bnd (WS.elem (zC (by rw [sza];omega)) ?_)
 dsimp only;simp only [sza,szb];have L0:LivH it lt pa pb #[kas_item it (gp pa (pa.size - 1))] (pa.size - 1) pb.size:=LivH.a O ub (out:=#[]) (na:=pa.size - 1) ⟨#[],by simp,by rw [show pa.size - 1+1=pa.size by omega,Was (by simp),Was (by simp)];simp⟩ #[0] (YaY _) fun _=>h4 _ #[0]
 by_cases c1:pa.size - 1=0
 . rw [if_pos #[6]]
   exact WS.ret (q _ _ (.refl _) (L0.done (.inl c1)))
 rw [if_neg #[6]]
 by_cases c2:pb.size=1
 . rw [if_pos #[6]]
   exact WS.ret (q _ _ (.refl _) (L0.first O ua c2 #[0] #[0] h3))
 rw [if_neg #[6]]
 refine WS.bnd (WS.gt ?_)
 try dsimp only
 refine WS.bnd (WS.mono (WS.loop (Q:=fun(c:Option (Array Keyed)×Nat×Nat×Array Keyed×Nat) st'=>∃ r,c.1=some r/\Stk st st'/\FinM it lt pa pb r)
  (fun j (c:Option (Array Keyed)×Nat×Nat×Array Keyed×Nat) st'=>c.1=none/\Stk st st'/\LivH it lt pa pb c.2.2.2.1 c.2.1 c.2.2.1/\1<=c.2.1/\c.2.1<=pa.size/\2<=c.2.2.1/\c.2.2.1<=pb.size/\c.2.1+c.2.2.1<=j) ⟨rfl,.refl _,L0,#[0],#[0],#[0],#[0],#[0]⟩ (fun j x c st' hI=>?_) fun c st' hI=>?_) fun c st' hQ=>?_)
 case refine_2=>
  obtain⟨h0,S,L,l1,l2,l3,l4,lm⟩:=hI
  omega
 case refine_3=>
  obtain⟨r,na,nb,out,mgal⟩:=c;obtain⟨r',h0,S,F⟩:=hQ;have h0:r=some r':=h0;subst h0;exact WS.ret (q r' st' S F)
 obtain⟨r0,na,nb,out,mgal⟩:=c;obtain⟨h0,S,L,l1,l2,l3,l4,lm⟩:=hI;dsimp only at h0 L l1 l2 l3 l4 lm ⊢;subst h0;refine WS.bnd (WS.mono (WS.loop (Q:=fun(c:Option (Array Keyed)×Nat×Nat×Array Keyed×Nat×Nat) st2=>st'=st2/\((∃ r,c.1=some r/\FinM it lt pa pb r)\/(c.1=none/\LivH it lt pa pb c.2.2.2.1 c.2.1 c.2.2.1/\1<=c.2.1/\c.2.1<=pa.size/\2<=c.2.2.1/\c.2.2.1<=pb.size/\c.2.1+c.2.2.1<na+nb)))
  (fun i (c:Option (Array Keyed)×Nat×Nat×Array Keyed×Nat×Nat) st2=>st'=st2/\c.1=none/\LivH it lt pa pb c.2.2.2.1 c.2.1 c.2.2.1/\1<=c.2.1/\c.2.1<=pa.size/\2<=c.2.2.1/\c.2.2.1<=pb.size/\c.2.1+c.2.2.1<=na+nb/\(i<pa.size+pb.size->c.2.1+c.2.2.1<na+nb)) ⟨rfl,rfl,L,l1,l2,l3,l4,YaY _,fun h=>absurd h #[0]⟩ (fun i x c st2 hI=>?_) fun c st2 hI=>?_) fun c st2 hQ=>?_)
 case refine_2=>
  obtain⟨e,h0,L,l1,l2,l3,l4,lm1,lm2⟩:=hI;exact⟨e,.inr ⟨h0,L,l1,l2,l3,l4,lm2 #[0]⟩⟩
 case refine_1=>
  obtain⟨r0,na1,nb1,out1,ac,bc⟩:=c;obtain⟨e,h0,L,l1,l2,l3,l4,lm1,lm2⟩:=hI;dsimp only at h0 L l1 l2 l3 l4 lm1 lm2 ⊢;subst e h0;refine WS.bnd (WS.elem (zC #[0]) ?_)
  refine WS.bnd (WS.elem (zC #[0]) ?_)
  refine WS.bnd (WS.ltq K (S.kind.trans hk) (hb _ #[0]) (ha _ #[0]) ?_)
  dsimp only;cases hc:lt (gp pb (nb1 - 1)) (gp pa (na1 - 1)) with
  | true=>
   rw [if_pos rfl];refine WS.bnd (WS.elem (zC #[0]) ?_)
   have L1:=L.a1 O ub #[0] #[0] #[0] fun _=>hc
   by_cases c4:na1 - 1=0
   . rw [if_pos #[6]]
     exact WS.ret ⟨rfl,.inl ⟨_,rfl,L1.done (.inl c4)⟩⟩
   rw [if_neg #[6]]
   refine WS.ite ?_ ?_
   . exact WS.ret ⟨rfl,.inr ⟨rfl,L1,#[0],#[0],l3,l4,#[0]⟩⟩
   . exact WS.ret ⟨rfl,rfl,L1,#[0],#[0],l3,l4,#[0],fun _=>by omega⟩
  | false=>
   rw [if_neg #[1]]
   refine WS.bnd (WS.elem (zC #[0]) ?_)
   have L1:=L.b1 O ua #[0] #[0] #[0] fun _=>hc
   by_cases c4:nb1 - 1=1
   . rw [if_pos #[6]]
     exact WS.ret ⟨rfl,.inl ⟨_,rfl,L1.first O ua c4 #[0] #[0] h3⟩⟩
   rw [if_neg #[6]]
   refine WS.ite ?_ ?_
   . exact WS.ret ⟨rfl,.inr ⟨rfl,L1,l1,l2,#[0],#[0],#[0]⟩⟩
   . exact WS.ret ⟨rfl,rfl,L1,l1,l2,#[0],#[0],#[0],fun _=>by omega⟩
 obtain⟨r1,na1,nb1,out1,ac,bc⟩:=c;obtain⟨e,hQ⟩:=hQ;subst e
 rcases hQ with ⟨r,h0,F⟩|⟨h0,L1,k1,k2,k3,k4,lm1⟩
 . have h0:r1=some r:=h0
   subst h0;exact WS.ret ⟨r,rfl,S,F⟩
 dsimp only at h0 L1 k1 k2 k3 k4 lm1 ⊢;subst h0;dsimp only;refine WS.bnd (WS.rl ?_);refine WS.bnd (WS.mono (WS.loop (Q:=fun(c:Option (Array Keyed)×Nat×Nat×Array Keyed×Nat×Nat×Nat) st3=>Stk st st3/\((∃ r,c.1=some r/\FinM it lt pa pb r)\/(c.1=none/\LivH it lt pa pb c.2.2.2.1 c.2.1 c.2.2.1/\1<=c.2.1/\c.2.1<=pa.size/\2<=c.2.2.1/\c.2.2.1<=pb.size/\c.2.1+c.2.2.1<=na1+nb1)))
  (fun i (c:Option (Array Keyed)×Nat×Nat×Array Keyed×Nat×Nat×Nat) st3=>Stk st st3/\c.1=none/\LivH it lt pa pb c.2.2.2.1 c.2.1 c.2.2.1/\1<=c.2.1/\c.2.1<=pa.size/\2<=c.2.2.1/\c.2.2.1<=pb.size/\c.2.1+c.2.2.1<=na1+nb1) ⟨S,rfl,L1,k1,k2,k3,k4,YaY _⟩ (fun i x c st3 hI=>?_) fun c st3 hI=>⟨hI.1,.inr hI.2⟩) fun c st3 hQ=>?_)
 case refine_2=>
  obtain⟨r2,na2,nb2,out2,mg2,ac2,bc2⟩:=c;obtain⟨S2,hQ⟩:=hQ
  rcases hQ with ⟨r,h0,F⟩|⟨h0,L2,m1,m2,m3,m4,lm2⟩
  . have h0:r2=some r:=h0
    subst h0;exact WS.ret ⟨r,rfl,S2,F⟩
  dsimp only at h0 L2 m1 m2 m3 m4 lm2 ⊢;subst h0;dsimp only;refine WS.bnd (WS.mdf (WS.ret ?_));exact⟨rfl,S2.gal,L2,m1,m2,m3,m4,#[0]⟩
 obtain⟨r2,na,nb,out,mg2,ac2,bc2⟩:=c;obtain⟨S2,h0,L,l1,l2,l3,l4,lm2⟩:=hI;dsimp only at h0 L l1 l2 l3 l4 lm2 ⊢;subst h0
 apply WS.jp (mg2 - 1) mg2
 case hx=>rfl
 intro mg3;refine WS.bnd (WS.mdf ?_);have S3:=S2.gal (g:=mg3);refine WS.bnd (WS.elem (zC #[0]) ?_)
 refine WS.bnd (WS.gallop K (S3.kind.trans hk) (hb _ #[0]) (fun i hi=>ha _ #[0]) #[0] #[0] (fun i j hij hj hbt=>?_) fun at1 hk1 g1 g2=>?_)
 . exact up_a O ua hij #[0] hbt
 dsimp only;have f1':∀ i,i<at1->lt (gp pb (nb - 1)) (gp pa i)=false:=fun i hi=>by
  have:=g1 i hi;rw [WbC] at this;unfold bey at this
  simpa using this
 have f2':∀ i,at1<=i->i<na->lt (gp pb (nb - 1)) (gp pa i)=true:=fun i hi hi2=>by
  have:=g2 i hi hi2;rw [WbC] at this;unfold bey at this
  simpa using this
 by_cases c1:na - at1 > 0
 . rw [if_pos c1]
   have L1:=L.as1 O ub (at_:=at1) #[0] #[0] #[0] #[0] f2'
   by_cases c3:at1=0
   . rw [if_pos #[6]]
     exact WS.ret ⟨S3,.inl ⟨_,rfl,L1.done (.inl c3)⟩⟩
   rw [if_neg #[6]]
   have hx1:=f1' (at1 - 1) #[0]
   refine WS.bnd (WS.elem (zC #[0]) ?_)
   have L2:=L1.b1 O ua #[0] #[0] #[0] fun _=>hx1
   by_cases c4:nb - 1=1
   . rw [if_pos #[6]]
     exact WS.ret ⟨S3,.inl ⟨_,rfl,L2.first O ua c4 #[0] #[0] h3⟩⟩
   rw [if_neg #[6]]
   refine WS.bnd (WS.elem (zC #[0]) ?_)
   refine WS.bnd (WS.gallop K (S3.kind.trans hk) (ha _ #[0]) (fun i hi=>hb _ #[0]) #[0] #[0] (fun i j hij hj hbt=>?_) fun at2 hk2 g1 g2=>?_)
   . exact up_b O ub hij #[0] hbt
   dsimp only;have g1':∀ i,i<at2->lt (gp pb i) (gp pa (at1 - 1))=true:=fun i hi=>by
    have:=g1 i hi;rw [WbC] at this;exact this
   have g2':∀ i,at2<=i->i<nb - 1->lt (gp pb i) (gp pa (at1 - 1))=false:=fun i hi hi2=>by
    have:=g2 i hi hi2;rw [WbC] at this;exact this
   by_cases c6:nb - 1 - at2 > 0
   . rw [if_pos c6]
     have L3':=L2.bs1 O ua (at_:=at2) #[0] #[0] #[0] #[0] g2'
     by_cases c7:at2=1
     . rw [if_pos #[6]]
       exact WS.ret ⟨S3,.inl ⟨_,rfl,L3'.first O ua c7 #[0] #[0] h3⟩⟩
     rw [if_neg #[6]]
     by_cases c8:at2=0
     . rw [if_pos #[6]]
       exact WS.ret ⟨S3,.inl ⟨_,rfl,L3'.done (.inr c8)⟩⟩
     rw [if_neg #[6]]
     have hx2:=g1' (at2 - 1) #[0]
     refine WS.bnd (WS.elem (zC #[0]) ?_)
     have L4:=L3'.a1 O ub #[0] #[0] #[0] fun _=>hx2
     by_cases c5:at1 - 1=0
     . rw [if_pos #[6]]
       exact WS.ret ⟨S3,.inl ⟨_,rfl,L4.done (.inl c5)⟩⟩
     rw [if_neg #[6]]
     refine WS.ite ?_ ?_
     . exact WS.ret ⟨S3,.inr ⟨rfl,L4,#[0],#[0],#[0],#[0],#[0]⟩⟩
     . exact WS.ret ⟨S3,rfl,L4,#[0],#[0],#[0],#[0],#[0]⟩
   . rw [if_neg c6]
     have hx2:=g1' (nb - 1 - 1) #[0]
     refine WS.bnd (WS.elem (zC #[0]) ?_)
     have L4:=L2.a1 O ub #[0] #[0] #[0] fun _=>hx2
     by_cases c5:at1 - 1=0
     . rw [if_pos #[6]]
       exact WS.ret ⟨S3,.inl ⟨_,rfl,L4.done (.inl c5)⟩⟩
     rw [if_neg #[6]]
     refine WS.ite ?_ ?_
     . exact WS.ret ⟨S3,.inr ⟨rfl,L4,#[0],#[0],#[0],#[0],#[0]⟩⟩
     . exact WS.ret ⟨S3,rfl,L4,#[0],#[0],#[0],#[0],#[0]⟩
 . rw [if_neg c1]
   have hx1:=f1' (na - 1) #[0]
   refine WS.bnd (WS.elem (zC #[0]) ?_)
   have L2:=L.b1 O ua #[0] #[0] #[0] fun _=>hx1
   by_cases c4:nb - 1=1
   . rw [if_pos #[6]]
     exact WS.ret ⟨S3,.inl ⟨_,rfl,L2.first O ua c4 #[0] #[0] h3⟩⟩
   rw [if_neg #[6]]
   refine WS.bnd (WS.elem (zC #[0]) ?_)
   refine WS.bnd (WS.gallop K (S3.kind.trans hk) (ha _ #[0]) (fun i hi=>hb _ #[0]) #[0] #[0] (fun i j hij hj hbt=>?_) fun at2 hk2 g1 g2=>?_)
   . exact up_b O ub hij #[0] hbt
   dsimp only;have g1':∀ i,i<at2->lt (gp pb i) (gp pa (na - 1))=true:=fun i hi=>by
    have:=g1 i hi;rw [WbC] at this;exact this
   have g2':∀ i,at2<=i->i<nb - 1->lt (gp pb i) (gp pa (na - 1))=false:=fun i hi hi2=>by
    have:=g2 i hi hi2;rw [WbC] at this;exact this
   by_cases c6:nb - 1 - at2 > 0
   . rw [if_pos c6]
     have L3':=L2.bs1 O ua (at_:=at2) #[0] #[0] #[0] #[0] g2'
     by_cases c7:at2=1
     . rw [if_pos #[6]]
       exact WS.ret ⟨S3,.inl ⟨_,rfl,L3'.first O ua c7 #[0] #[0] h3⟩⟩
     rw [if_neg #[6]]
     by_cases c8:at2=0
     . rw [if_pos #[6]]
       exact WS.ret ⟨S3,.inl ⟨_,rfl,L3'.done (.inr c8)⟩⟩
     rw [if_neg #[6]]
     have hx2:=g1' (at2 - 1) #[0]
     refine WS.bnd (WS.elem (zC #[0]) ?_)
     have L4:=L3'.a1 O ub #[0] #[0] #[0] fun _=>hx2
     by_cases c5:na - 1=0
     . rw [if_pos #[6]]
       exact WS.ret ⟨S3,.inl ⟨_,rfl,L4.done (.inl c5)⟩⟩
     rw [if_neg #[6]]
     refine WS.ite ?_ ?_
     . exact WS.ret ⟨S3,.inr ⟨rfl,L4,#[0],#[0],#[0],#[0],#[0]⟩⟩
     . exact WS.ret ⟨S3,rfl,L4,#[0],#[0],#[0],#[0],#[0]⟩
   . rw [if_neg c6]
     have hx2:=g1' (nb - 1 - 1) #[0]
     refine WS.bnd (WS.elem (zC #[0]) ?_)
     have L4:=L2.a1 O ub #[0] #[0] #[0] fun _=>hx2
     by_cases c5:na - 1=0
     . rw [if_pos #[6]]
       exact WS.ret ⟨S3,.inl ⟨_,rfl,L4.done (.inl c5)⟩⟩
     rw [if_neg #[6]]
     refine WS.ite ?_ ?_
     . exact WS.ret ⟨S3,.inr ⟨rfl,L4,#[0],#[0],#[0],#[0],#[0]⟩⟩
     . exact WS.ret ⟨S3,rfl,L4,#[0],#[0],#[0],#[0],#[0]⟩
end tim
abbrev zkY:Nat->Nat->StateT SortSt Sem (Option Nat):=sortPriv% PySem.Builtin.countRun
abbrev znz:Nat->Nat->Nat->StateT SortSt Sem Bool:=sortPriv% PySem.Builtin.binarySort
def kst(κ : SortKind)(it:Array Keyed)(p:Array Nat)(pd:Array (Nat×Nat×Nat))(g:Nat):SortSt:=SortSt.mk' κ (p.map (kas_item it)) pd g none
def Srt(lt:Nat->Nat->Bool)(p:Array Nat)(a b:Nat):Prop:=∀ i j,a<=i->i<j->j<b->lt (gp p i) (gp p j)=true
section
variable{lt:Nat->Nat->Bool}{n:Nat}{p:Array Nat}{a b:Nat}
theorem Srt.ext(O:Ordr lt n)(h:Srt lt p a b)(hab:a<b)(c:lt (gp p (b - 1)) (gp p b)=true):Srt lt p a (b+1):=fun i j hi hij hj=>by
 by_cases e:j<b
 . exact h i j hi hij e
 . have e':j=b:=#[0]
   subst e'
   by_cases e2:i=j - 1
   . subst e2;exact c
   . exact O.tr _ _ _ (h i (j - 1) hi #[0] #[0]) c
theorem zoe(p:Array Nat){a b:Nat}(hb:b<=p.size)(x:Nat):gp (kas_rev p a b) x=if a<=x/\x<b then gp p (a+b - 1 - x) else gp p x:=by
 have e:=getElem?_mirror_all (xs:=p) (i:=a) (j:=b) hb x;have e':(kas_rev p a b)[x]?=if a<=x/\x<b then p[a+b - 1 - x]? else p[x]?:=e
 unfold gp;rw [Yaj,e']
 by_cases h:a<=x/\x<b
 . rw [if_pos h,if_pos h,Yaj]
 . rw [if_neg h,if_neg h,Yaj]
theorem zfN(p:Array Nat){src d:Nat}(hs:src<p.size)(hd:d<=src)(x:Nat):gp (bubble p src d) x=if x=src - d then gp p src else if src - d<x/\x<=src then gp p (x - 1) else gp p x:=by
 have e:=getElem?_bubble (xs:=p) hs d hd x;unfold gp;rw [Yaj,e]
 by_cases h:x=src - d
 . rw [if_pos h,if_pos h,Yaj]
 . rw [if_neg h,if_neg h]
   by_cases h':src - d<x/\x<=src
   . rw [if_pos h',if_pos h',Yaj]
   . rw [if_neg h',if_neg h',Yaj]
end
section tim
variable{prog:Program}{w:World}{A:Around}{E:Value->Shared->Prop}{s:Shared}{α β : Type}{st:SortSt}
theorem WS.loopi{a b:Nat}{c:β}{f:Nat->β->StateT SortSt Sem (ForInStep β)}{Q:β->SortSt->Prop}(I:Nat->β->SortSt->Prop)(h0:I a c st)
 (hs:∀ x c st,a<=x->x<b->I x c st->WS prog w A E s (f x c) st fun r st'=>match r with|.done c'=>Q c' st'|.yield c'=>I (x+1) c' st') (hn:∀ x c st,a<=x->b<=x->x<=max a b->I x c st->Q c st):WS prog w A E s (forIn [a:b] c f) st Q:=by
 refine kasC_range ?_
 have go:∀ (k y:Nat) (c:β) (st:SortSt),a<=y->y+k=max a b->I y c st->WS prog w A E s (forIn (List.range' y k) c f) st Q:=by
  intro k
  induction k with
  | zero=>
   intro y c st hy hk hi;exact kasC_nil ⟨rfl,hn y c st hy #[0] #[0] hi⟩
  | succ k ih=>
   intro y c st hy hk hi;refine kasC_cons (wpAny_mono (hs y c st hy #[0] hi) (fun r s' h'=>?_) fun _ _ e=>e)
   obtain⟨r,st'⟩:=r;obtain⟨e,h'⟩:=h';cases r with
   | done c'=>exact⟨e,h'⟩
   | yield c'=>
    have e:s'=s:=e;subst e;exact ih (y+1) c' st' #[0] #[0] h'
 exact go (b - a) a c st (YaY _) #[0] h0
variable{κ : SortKind}{it:Array Keyed}{lt:Nat->Nat->Bool}{n:Nat}{p:Array Nat}{pd:Array (Nat×Nat×Nat)}{g:Nat}
theorem WS.rev{i j:Nat}{Q:PUnit->SortSt->Prop}(q:Q ⟨⟩ (kst κ it (kas_rev p i j) pd g)):WS prog w A E s (reverseSlice' i j) (kst κ it p pd g) Q:=by
 rw [reverseSlice'_eq];refine WS.mdf ?_;have e1:mirror (p.map (kas_item it)) i j ((j - i)/2)=(mirror p i j ((j - i)/2)).map (kas_item it):=kas_swaps_map (kas_item it) (fun k=>i+k) (fun k=>j - 1 - k) _ p
 show Q ⟨⟩ (SortSt.mk' κ (mirror (p.map (kas_item it)) i j ((j - i)/2)) pd g none)
 rw [e1];exact q
theorem WS.mov{k l:Nat}{Q:PUnit->SortSt->Prop}(q:Q ⟨⟩ (kst κ it (bubble p k (k - l)) pd g)):WS prog w A E s (moveDown' k l) (kst κ it p pd g) Q:=by
 rw [moveDown'_eq];refine WS.mdf ?_;have e1:bubble (p.map (kas_item it)) k (k - l)=(bubble p k (k - l)).map (kas_item it):=kas_swaps_map (kas_item it) (fun i=>k - i) (fun i=>k - i - 1) _ p
 show Q ⟨⟩ (SortSt.mk' κ (bubble (p.map (kas_item it)) k (k - l)) pd g none)
 rw [e1];exact q
variable(K:Z4 prog w A s κ it lt n)
include K
theorem WS.lta{i j:Nat}{Q:Option Bool->SortSt->Prop}(P:OkP n p)(hi:i<n)(hj:j<n)(q:Q (some (lt (gp p i) (gp p j))) (kst κ it p pd g)):WS prog w A E s (ltAt' i j) (kst κ it p pd g) Q:=by
 have hs:=P.size;rw [ltAt'_eq];refine WS.bnd (WS.gt ?_);refine WS.bnd (WS.elem (zC #[0]) ?_)
 refine WS.bnd (WS.elem (zC #[0]) ?_)
 exact WS.ltq K rfl (P.below hi) (P.below hj) q
variable(O:Ordr lt n)
include O
theorem WS.count{lo nrem:Nat}{Q:Option Nat->SortSt->Prop}(P:OkP n p)(hlo:lo+nrem<=n)(h1:1<=nrem)
 (q:∀ m p',1<=m->m<=nrem->OkP n p'->(∀ x,x<lo\/lo+m<=x->gp p' x=gp p x)->Srt lt p' lo (lo+m)->Q (some m) (kst κ it p' pd g)):WS prog w A E s (zkY lo nrem) (kst κ it p pd g) Q:=by
 have hs:=P.size;refine WS.bnd (WS.mono (WS.loop (Q:=fun(c:Option (Option Nat)×Nat) st'=>c.1=none/\kst κ it p pd g=st'/\1<=c.2/\c.2<=nrem/\Srt lt p lo (lo+c.2)/\(c.2<nrem->lt (gp p (lo+c.2)) (gp p (lo+c.2 - 1))=true))
  (fun j (c:Option (Option Nat)×Nat) st'=>c.1=none/\kst κ it p pd g=st'/\1<=c.2/\c.2+j=nrem/\Srt lt p lo (lo+c.2)) ⟨rfl,rfl,YaY _,#[0],fun i j a b c=>by dsimp only at c;omega⟩ (fun j x c st' hI=>?_) fun c st' hI=>?_) fun c st' hQ=>?_)
 . obtain⟨r,m⟩:=c
   obtain⟨e0,e1,l1,l2,so⟩:=hI;dsimp only at e0 l1 l2 so ⊢;subst e0 e1;refine WS.bnd (WS.lta K P #[0] #[0] ?_)
   dsimp only;cases c:lt (gp p (lo+m)) (gp p (lo+m - 1)) with
   | true=>rw [if_pos rfl];exact WS.ret ⟨rfl,rfl,l1,#[0],so,fun _=>c⟩
   | false=>
    rw [if_neg #[1]]
    have so2:Srt lt p lo (lo+m+1):=so.ext O #[0] (ZS O P #[0] #[0] #[0] c)
    exact WS.ret ⟨rfl,rfl,#[0],#[0],so2⟩
 . obtain⟨e0,e1,l1,l2,so⟩:=hI
   exact⟨e0,e1,l1,#[0],so,fun z=>absurd z #[0]⟩
 obtain⟨r,m⟩:=c;obtain⟨e0,e1,l1,l2,so,c0⟩:=hQ;dsimp only at e0 l1 l2 so c0 ⊢;subst e0 e1;dsimp only
 by_cases c1:m=nrem
 . rw [if_pos (by simp [c1])]
   exact WS.ret (q m p l1 l2 P #[4] so)
 rw [if_neg (by simp [c1])]
 by_cases c2:m > 1
 . rw [if_pos c2]
   refine WS.bnd (WS.lta K P #[0] #[0] ?_)
   rw [so lo (lo+m - 1) (YaY _) #[0] #[0]]
   dsimp only;rw [if_pos rfl];exact WS.ret (q m p l1 l2 P #[4] so)
 rw [if_neg c2];have hm:m=1:=#[0]
 subst hm;have c0:=c0 #[0]
 rw [show lo+1 - 1=lo by omega] at c0
 refine WS.bnd (WS.rl ?_)
 refine WS.bnd (WS.mono (WS.loop (Q:=fun(c:Option (Option Nat)×Nat×Nat) st'=>c.1=none/\kst κ it p pd g=st'/\2<=c.2.1/\c.2.2=0/\c.2.1<=nrem/\∀ i j,lo<=i->i<j->j<lo+c.2.1->lt (gp p j) (gp p i)=true)
  (fun k (c:Option (Option Nat)×Nat×Nat) st'=>c.1=none/\kst κ it p pd g=st'/\2<=c.2.1/\c.2.2=0/\c.2.1+k=nrem/\∀ i j,lo<=i->i<j->j<lo+c.2.1->lt (gp p j) (gp p i)=true) ⟨rfl,rfl,#[0],rfl,#[0],fun i j a b c=>by
   dsimp only at c;have e1:i=lo:=#[0]
   have e2:j=lo+1:=#[0]
   subst e1 e2;exact c0⟩ (fun k x c st' hI=>?_) fun c st' hI=>?_) fun c st' hQ=>?_)
 . obtain⟨r,m,neq⟩:=c
   obtain⟨e0,e1,l1,e2,l2,de⟩:=hI;dsimp only at e0 l1 e2 l2 de ⊢;subst e0 e1 e2;refine WS.bnd (WS.lta K P #[0] #[0] ?_)
   dsimp only;cases c:lt (gp p (lo+m)) (gp p (lo+m - 1)) with
   | true=>
    rw [if_pos rfl,if_neg #[0]]
    refine WS.ret ⟨rfl,rfl,#[0],rfl,#[0],fun i j a b c'=>?_⟩
    dsimp only at c'
    by_cases e:j<lo+m
    . exact de i j a b e
    . have e':j=lo+m:=#[0]
      subst e'
      by_cases e2:i=lo+m - 1
      . subst e2;exact c
      . exact O.tr _ _ _ c (de i (lo+m - 1) a #[0] #[0])
   | false=>
    rw [if_neg #[1]]
    refine WS.bnd (WS.lta K P #[0] #[0] ?_)
    rw [ZS O P (i:=lo+m - 1) (j:=lo+m) #[0] #[0] #[0] c]
    dsimp only;rw [if_pos rfl];exact WS.ret ⟨rfl,rfl,l1,rfl,#[0],de⟩
 . obtain⟨e0,e1,l1,e2,l2,de⟩:=hI
   exact⟨e0,e1,l1,e2,#[0],de⟩
 obtain⟨r,m,neq⟩:=c;obtain⟨e0,e1,l1,e2,l2,de⟩:=hQ;dsimp only at e0 l1 e2 l2 de ⊢;subst e0 e1 e2;dsimp only;rw [if_neg #[0]]
 refine WS.bnd (WS.rev ?_)
 have P1:OkP n (kas_rev p lo (lo+m)):=P.perm (mirror_perm _ _ _ _);have g1:=zoe p (a:=lo) (b:=lo+m) #[0]
 have so1:Srt lt (kas_rev p lo (lo+m)) lo (lo+m):=fun i j hi hij hj=>by
  rw [g1 i,if_pos ⟨hi,#[0]⟩,g1 j,if_pos ⟨#[0],hj⟩]
  exact de _ _ #[0] #[0] #[0]
 have ou1:∀ x,x<lo\/lo+m<=x->gp (kas_rev p lo (lo+m)) x=gp p x:=fun x hx=>by rw [g1 x,if_neg #[0]]
 generalize kas_rev p lo (lo+m)=p1 at P1 so1 ou1 ⊢;refine WS.bnd (WS.mono (WS.loop (Q:=fun(c:Option (Option Nat)×Nat) st'=>c.1=none/\kst κ it p1 pd g=st'/\m<=c.2/\c.2<=nrem/\Srt lt p1 lo (lo+c.2))
  (fun j (c:Option (Option Nat)×Nat) st'=>c.1=none/\kst κ it p1 pd g=st'/\m<=c.2/\c.2+j=nrem/\Srt lt p1 lo (lo+c.2)) ⟨rfl,rfl,YaY _,#[0],so1⟩ (fun j x c st' hI=>?_) fun c st' hI=>?_) fun c st' hQ=>?_)
 . obtain⟨r,m'⟩:=c
   obtain⟨e0,e1,l3,l4,so⟩:=hI;dsimp only at e0 l3 l4 so ⊢;subst e0 e1;refine WS.bnd (WS.lta K P1 #[0] #[0] ?_)
   dsimp only;cases c:lt (gp p1 (lo+m')) (gp p1 (lo+m' - 1)) with
   | true=>rw [if_pos rfl];exact WS.ret ⟨rfl,rfl,l3,#[0],so⟩
   | false=>
    rw [if_neg #[1]]
    have so2:Srt lt p1 lo (lo+m'+1):=so.ext O #[0] (ZS O P1 #[0] #[0] #[0] c)
    exact WS.ret ⟨rfl,rfl,#[0],#[0],so2⟩
 . obtain⟨e0,e1,l3,l4,so⟩:=hI
   exact⟨e0,e1,l3,#[0],so⟩
 obtain⟨r,m'⟩:=c;obtain⟨e0,e1,l3,l4,so⟩:=hQ;dsimp only at e0 l3 l4 so ⊢;subst e0 e1;exact WS.ret (q m' p1 #[0] l4 P1 (fun x hx=>ou1 x #[0]) so)
theorem WS.bin{lo m ok:Nat}{Q:Bool->SortSt->Prop}(P:OkP n p)(hlo:lo+m<=n)(h1:1<=ok)(h2:ok<=m)(so:Srt lt p lo (lo+ok))
 (q:∀ p',OkP n p'->(∀ x,x<lo\/lo+m<=x->gp p' x=gp p x)->Srt lt p' lo (lo+m)->Q true (kst κ it p' pd g)):WS prog w A E s (znz lo m ok) (kst κ it p pd g) Q:=by
 refine WS.bnd (WS.mono (WS.loopi (Q:=fun(c:Option Bool×Unit) st'=>c.1=none/\∃ p',kst κ it p' pd g=st'/\OkP n p'/\(∀ x,x<lo\/lo+m<=x->gp p' x=gp p x)/\Srt lt p' lo (lo+m))
  (fun k (c:Option Bool×Unit) st'=>c.1=none/\∃ p',kst κ it p' pd g=st'/\OkP n p'/\(∀ x,x<lo\/lo+m<=x->gp p' x=gp p x)/\Srt lt p' lo (lo+k)) ⟨rfl,p,rfl,P,fun _ _=>rfl,by rw [show max ok 1=ok by omega];exact so⟩ (fun k c st' hk1 hk2 hI=>?_) fun k c st' hk1 hk2 hk3 hI=>?_) fun c st' hQ=>?_)
 . obtain⟨r,u⟩:=c
   obtain⟨e0,p',e1,P',ou,so'⟩:=hI;dsimp only at e0 ⊢;subst e0 e1;have hs':=P'.size;have hk:1<=k:=#[0]
   refine WS.bnd (WS.mono (WS.loop (Q:=fun(c:Option Bool×Nat×Nat) st'=>c.1=none/\kst κ it p' pd g=st'/\c.2.1<=k/\(∀ i,i<c.2.1->lt (gp p' (lo+i)) (gp p' (lo+k))=true)/\∀ i,c.2.1<=i->i<k->lt (gp p' (lo+k)) (gp p' (lo+i))=true)
    (fun j (c:Option Bool×Nat×Nat) st'=>c.1=none/\kst κ it p' pd g=st'/\c.2.1<=c.2.2/\c.2.2<=k/\c.2.2<=c.2.1+j/\(∀ i,i<c.2.1->lt (gp p' (lo+i)) (gp p' (lo+k))=true)/\∀ i,c.2.2<=i->i<k->lt (gp p' (lo+k)) (gp p' (lo+i))=true) ⟨rfl,rfl,WbH _,YaY _,#[0],fun i hi=>by dsimp only at hi;omega,fun i a b=>by dsimp only at a;omega⟩ (fun j x c st' hI=>?_) fun c st' hI=>?_) fun c st' hQ=>?_)
   . obtain⟨r,l,r'⟩:=c
     obtain⟨e0,e1,l1,l2,l3,lo1,up1⟩:=hI;dsimp only at e0 l1 l2 l3 lo1 up1 ⊢;subst e0 e1
     by_cases c:l>=r'
     . rw [if_pos c]
       exact WS.ret ⟨rfl,rfl,#[0],lo1,fun i a b=>up1 i (by dsimp only at a;omega) b⟩
     rw [if_neg c];refine WS.bnd (WS.lta K P' #[0] #[0] ?_)
     dsimp only;cases c:lt (gp p' (lo+k)) (gp p' (lo+(l+r')/2)) with
     | true=>
      rw [if_pos rfl];refine WS.ret ⟨rfl,rfl,#[0],#[0],#[0],lo1,fun i a b=>?_⟩
      dsimp only at a
      by_cases e:i=(l+r')/2
      . rw [e];exact c
      . exact O.tr _ _ _ c (so' _ _ #[0] #[0] #[0])
     | false=>
      rw [if_neg #[1]]
      have c2:=ZS O P' (i:=lo+(l+r')/2) (j:=lo+k) #[0] #[0] #[0] c
      refine WS.ret ⟨rfl,rfl,#[0],#[0],#[0],fun i a=>?_,up1⟩
      dsimp only at a
      by_cases e:i=(l+r')/2
      . rw [e];exact c2
      . exact O.tr _ _ _ (so' _ _ #[0] #[0] #[0]) c2
   . obtain⟨e0,e1,l1,l2,l3,lo1,up1⟩:=hI
     exact⟨e0,e1,#[0],lo1,fun i a b=>up1 i #[0] b⟩
   obtain⟨r,l,r'⟩:=c;obtain⟨e0,e1,l1,lo1,up1⟩:=hQ;dsimp only at e0 l1 lo1 up1 ⊢;subst e0 e1;dsimp only;refine WS.bnd (WS.mov (WS.ret ⟨rfl,bubble p' (lo+k) (lo+k - (lo+l)),rfl,P'.perm (bubble_perm _ _ _),fun x hx=>?_,?_⟩))
   . rw [zfN p' #[0] #[0],if_neg #[0],if_neg #[0]]
     exact ou x hx
   . have gg:=zfN p' (src:=lo+k) (d:=lo+k - (lo+l)) #[0] #[0]
     have ed:lo+k - (lo+k - (lo+l))=lo+l:=#[0]
     rw [ed] at gg;intro i j hi hij hj;rw [gg i,gg j]
     by_cases a1:i=lo+l
     . rw [if_pos a1,if_neg #[0],if_pos #[0]]
       have:=up1 (j - 1 - lo) #[0] #[0]
       rwa [show lo+(j - 1 - lo)=j - 1 by omega] at this
     . rw [if_neg a1]
       by_cases a2:lo+l<i
       . rw [if_pos ⟨a2,#[0]⟩,if_neg #[0],if_pos #[0]]
         exact so' _ _ #[0] #[0] #[0]
       . rw [if_neg #[0]]
         by_cases b1:j=lo+l
         . rw [if_pos b1]
           have:=lo1 (i - lo) #[0]
           rwa [show lo+(i - lo)=i by omega] at this
         . rw [if_neg b1]
           by_cases b2:lo+l<j
           . rw [if_pos ⟨b2,#[0]⟩]
             by_cases b3:i=j - 1
             . omega
             . exact so' _ _ hi #[0] #[0]
           . rw [if_neg #[0]]
             exact so' _ _ hi hij #[0]
 . obtain⟨e0,p',e1,P',ou,so'⟩:=hI
   have:k=m:=#[0]
   subst this;exact⟨e0,p',e1,P',ou,so'⟩
 obtain⟨r,u⟩:=c;obtain⟨e0,p',e1,P',ou,so'⟩:=hQ;dsimp only at e0 ⊢;subst e0 e1;exact WS.ret (q p' P' ou so')
end tim
theorem zdC{α : Type}(a:Nat):∀ (q:List α) (k:Nat) (arr:Array α),a+k+q.length<=arr.size->∀ x,((q.zipIdx k).foldl (fun(b:Array α) (y:α×Nat)=>b.setIfInBounds (a+y.2) y.1) arr)[x]?=if a+k<=x/\x<a+k+q.length then q[x - (a+k)]? else arr[x]?
 | [], k, arr, _, x => by
  rw [List.zipIdx_nil,List.foldl_nil,if_neg (by rw [List.length_nil];omega)]
 | v :: q, k, arr, h, x => by
  rw [List.length_cons] at h;rw [List.zipIdx_cons,List.foldl_cons,zdC a q (k+1) _ (by rw [Array.size_setIfInBounds];omega) x,List.length_cons]
  by_cases h1:a+(k+1)<=x/\x<a+(k+1)+q.length
  . rw [if_pos h1,if_pos #[0],show x - (a+k)=(x - (a+(k+1)))+1 by omega,List.getElem?_cons_succ]
  . rw [if_neg h1]
    by_cases h2:x=a+k
    . rw [if_pos #[0],h2,WbD,List.getElem?_cons_zero,Array.getElem?_setIfInBounds_self_of_lt #[0]]
    . rw [if_neg #[0]]
      exact Array.getElem?_setIfInBounds_ne (fun e=>h2 e.symm)
def wr{α : Type}(p:Array α)(a:Nat)(q:List α):Array α:=(p.toList.take a++q++p.toList.drop (a+q.length)).toArray
theorem zc8{α : Type}{p:Array α}{a:Nat}{q:List α}(h:a+q.length<=p.size)(x:Nat):(wr p a q)[x]?=if a<=x/\x<a+q.length then q[x - a]? else p[x]?:=by
 unfold wr;have hl:p.toList.length=p.size:=by simp
 have ht:(p.toList.take a).length=a:=by rw [Wa5];omega
 rw [List.getElem?_toArray,Yag]
 by_cases h1:x<a
 . rw [Yab #[0],Wam h1,if_neg #[0],Wav]
 . rw [Yae #[0],ht]
   by_cases h2:x<a+q.length
   . rw [Yab #[0],if_pos #[0]]
   . rw [Yae #[0],List.getElem?_drop,if_neg #[0],show a+q.length+(x - a - q.length)=x by omega,Wav]
theorem zd7{p:Array Nat}{it:Array Keyed}{a:Nat}{q:Array Nat}(h:a+q.size<=p.size):((q.map (kas_item it)).toList.zipIdx).foldl (fun(b:Array Keyed) (y:Keyed×Nat)=>b.setIfInBounds (a+y.2) y.1) (p.map (kas_item it))=(wr p a q.toList).map (kas_item it):=by
 apply Array.ext_getElem?
 intro x;have:=zdC a (q.map (kas_item it)).toList 0 (p.map (kas_item it)) #[6] x
 have e2:((wr p a q.toList).map (kas_item it))[x]?=((wr p a q.toList)[x]?).map (kas_item it):=WaH ..;rw [this,e2,zc8 (by simpa using h)]
 simp only [Nat.add_zero,Array.toList_map,YaR,Array.length_toList]
 by_cases c:a<=x/\x<a+q.size
 . rw [if_pos c,if_pos c,Ya0]
 . rw [if_neg c,if_neg c,WaH]
theorem zke{p:Array Nat}{a:Nat}{q:List Nat}(h:a+q.length<=p.size)(x:Nat):gp (wr p a q) x=if a<=x/\x<a+q.length then q.getD (x - a) 0 else gp p x:=by
 unfold gp;rw [Yaj,zc8 h]
 by_cases c:a<=x/\x<a+q.length
 . rw [if_pos c,if_pos c,YaP]
 . rw [if_neg c,if_neg c,Yaj]
theorem zgJ{p:Array Nat}{n a b:Nat}{q:List Nat}(P:OkP n p)(h:a<=b)(hb:b<=p.size)(hq:q.Perm ((p.toList.drop a).take (b - a))):OkP n (wr p a q):=by
 have hl:q.length=b - a:=by rw [hq.length_eq,Wa5,List.length_drop];simp;omega
 unfold wr OkP;refine List.Perm.trans ?_ P;show(p.toList.take a++q++p.toList.drop (a+q.length)).Perm p.toList;rw [hl,show a+(b - a)=b by omega]
 have e:p.toList=p.toList.take a++((p.toList.drop a).take (b - a)++p.toList.drop b):=by
  have e1:=Wax (b - a) (p.toList.drop a);rw [List.drop_drop,show a+(b - a)=b by omega] at e1
  rw [e1,Wax]
 rw [Yag]
 conv=>rhs;rw [e]
 exact List.Perm.append_left _ (hq.append_right _)
theorem zc6{p:Array Nat}{a b i:Nat}(hb:b<=p.size)(hi:i<b - a):gp (p.extract a b) i=gp p (a+i):=by
 unfold gp;rw [Yaj,Yaj,Array.getElem?_extract,if_pos #[0]]
theorem zfz{p:Array Nat}{a b:Nat}(hb:b<=p.size):(p.extract a b).size=b - a:=by rw [Array.size_extract];omega
section
variable{lt:Nat->Nat->Bool}{n:Nat}{p:Array Nat}
theorem zig{a b base i j k:Nat}(O:Ordr lt n)(so:Srt lt p a b)(h0:a<=base)(hij:i<=j)(hj:base+j<b)(h:bey lt true k (gp p (base+j))=true):bey lt true k (gp p (base+i))=true:=by
 unfold bey at h ⊢;rw [if_pos rfl] at h ⊢
 by_cases e:i=j
 . rw [e];exact h
 . exact O.tr _ _ _ (so _ _ #[0] (show base+i<base+j by omega) hj) h
theorem zmb{a b base i j k:Nat}(O:Ordr lt n)(so:Srt lt p a b)(h0:a<=base)(hij:i<=j)(hj:base+j<b)(h:bey lt false k (gp p (base+j))=true):bey lt false k (gp p (base+i))=true:=by
 unfold bey at h ⊢;rw [if_neg #[1]] at h ⊢
 by_cases e:i=j
 . rw [e];exact h
 . cases c:lt k (gp p (base+i)) with
   | false=>rfl
   | true=>
    rw [O.tr _ _ _ c (so _ _ #[0] (show base+i<base+j by omega) hj)] at h
    cases h
end
theorem zd8{p:Array Nat}{u:Nat}(h:u∈p.toList):∃ i,i<p.size/\u=gp p i:=by
 obtain⟨i,hi,e⟩:=Yam h;have hi':i<p.size:=by simpa using hi
 exact⟨i,hi',by rw [<-e,Jn,YaP,YaQ hi];rfl⟩
theorem zee{lt:Nat->Nat->Bool}{p:Array Nat}(h:∀ i j,i<j->j<p.size->lt (gp p i) (gp p j)=true):Up lt p.toList:=by
 unfold Up;rw [Wai];intro i j hi hj hij;have:=h i j hij (by simpa using hj)
 rw [Jn,Jn,YaP,YaP,YaQ hi,YaQ hj] at this;exact this
theorem zg6{lt:Nat->Nat->Bool}{l:List Nat}(h:Up lt l){i j:Nat}(hij:i<j)(hj:j<l.length):lt (l.getD i 0) (l.getD j 0)=true:=by
 have:=Wai.mp h i j #[0] hj hij
 rw [YaP,YaP,YaQ hj,YaQ (show i<l.length by omega)]
 exact this
theorem zhC(p:Array Nat){a b c:Nat}(h1:a<=b)(h2:b<=c):(p.extract a b).toList++(p.extract b c).toList=(p.toList.drop a).take (c - a):=by
 simp only [WaA,List.extract_eq_drop_take];have:List.drop b p.toList=(List.drop a p.toList).drop (b - a):=by rw [List.drop_drop,show a+(b - a)=b by omega]
 rw [this,show c - a=(b - a)+(c - b) by omega,List.take_add]
abbrev PdT:=Nat×Nat×Nat
theorem zkJ{pd:Array PdT}{l1 l2:List PdT}{x:PdT}(h:pd.toList=l1++x::l2):pd[l1.length]?=some x:=by
 rw [<-Wav,h];simp
theorem zgf{pd:Array PdT}{l1 l2:List PdT}{x y:PdT}(h:pd.toList=l1++x::y::l2):pd[l1.length+1]?=some y:=by
 rw [<-Wav,h,Yae #[0],show l1.length+1 - l1.length=1 by omega];rfl
theorem zhN{pd:Array PdT}{l1 l2:List PdT}{x y z:PdT}(h:pd.toList=l1++x::y::l2):((pd.setIfInBounds l1.length z).eraseIdxIfInBounds (l1.length+1)).toList=l1++z::l2:=by
 have e1:(pd.setIfInBounds l1.length z).toList=l1++z::y::l2:=by
  rw [Array.toList_setIfInBounds,h,List.set_append_right _ _ (YaY _),WbD];rfl
 have e2:((pd.setIfInBounds l1.length z).eraseIdxIfInBounds (l1.length+1)).toList=(pd.setIfInBounds l1.length z).toList.eraseIdx (l1.length+1):=by simp
 rw [e2,e1,List.eraseIdx_append_of_length_le #[0],show l1.length+1 - l1.length=1 by omega]
 rfl
section tim
variable{prog:Program}{w:World}{A:Around}{E:Value->Shared->Prop}{s:Shared}{κ : SortKind}{it:Array Keyed}{lt:Nat->Nat->Bool}{n:Nat}{p:Array Nat}{pd:Array PdT}{g:Nat}
variable(K:Z4 prog w A s κ it lt n)(O:Ordr lt n)
include K O
theorem WS.mrg{l1 l2:List PdT}{sa na pw sb nb pw':Nat}{Q:Bool->SortSt->Prop}(hpd:pd.toList=l1++(sa,na,pw)::(sb,nb,pw')::l2)(hsb:sb=sa+na)(h1:1<=na)(h2:1<=nb)(he:sb+nb<=n)(P:OkP n p)(soA:Srt lt p sa sb)(soB:Srt lt p sb (sb+nb))
 (q:∀ p' (pd':Array PdT) g',OkP n p'->pd'.toList=l1++(sa,na+nb,pw)::l2->(∀ x,x<sa\/sb+nb<=x->gp p' x=gp p x)->Srt lt p' sa (sb+nb)->Q true (kst κ it p' pd' g')):WS prog w A E s (mergeAt' l1.length) (kst κ it p pd g) Q:=by
 have hs:=P.size;have a1:=zkJ hpd;have a2:=zgf hpd;have a3:=zhN (z:=(sa,na+nb,pw)) hpd;refine WS.bnd (WS.gt ?_);dsimp only [kst];rw [a1,a2];dsimp only;refine WS.bnd (WS.sto ?_);refine WS.bnd (WS.elem (zC #[0]) ?_)
 refine WS.bnd (WS.gallop K rfl (P.below #[0]) (fun i hi=>P.below #[0]) #[0] #[0] (fun i j hij hj hbt=>zmb O soA (YaY _) hij #[0] hbt) fun k hk g1 g2=>?_)
 have f1:∀ i,i<k->lt (gp p (sa+i)) (gp p sb)=true:=fun i hi=>by
  have:=g1 i hi;unfold bey at this;exact ZS O P #[0] #[0] #[0] (by simpa using this)
 have f2:∀ i,k<=i->i<na->lt (gp p sb) (gp p (sa+i))=true:=fun i hi hi2=>by
  have:=g2 i hi hi2;unfold bey at this
  simpa using this
 have f3:∀ y,sb<=y->y<sb+nb->∀ i,i<k->lt (gp p (sa+i)) (gp p y)=true:=fun y hy hy2 i hi=>by
  by_cases e:y=sb
  . rw [e];exact f1 i hi
  . exact O.tr _ _ _ (f1 i hi) (soB _ _ (YaY _) #[0] hy2)
 dsimp only
 by_cases c1:na - k=0
 . rw [if_pos #[6]]
   refine WS.ret (q p _ g P a3 #[4] fun i j hi hij hj=>?_)
   by_cases b1:j<sb
   . exact soA i j hi hij b1
   . by_cases b2:i<sb
     . have:=f3 j #[0] hj (i - sa) #[0]
       rwa [show sa+(i - sa)=i by omega] at this
     . exact soB i j #[0] hij hj
 rw [if_neg #[6]]
 refine WS.bnd (WS.elem (zC #[0]) ?_)
 refine WS.bnd (WS.gallop K rfl (P.below #[0]) (fun i hi=>P.below #[0]) #[0] #[0] (fun i j hij hj hbt=>zig O soB (YaY _) hij #[0] hbt) fun k2 hk2 e1 e2=>?_)
 have eL:sa+k+(na - k) - 1=sb - 1:=#[0]
 rw [eL] at e1 e2;have d1:∀ i,i<k2->lt (gp p (sb+i)) (gp p (sb - 1))=true:=fun i hi=>e1 i hi
 have d2:∀ i,k2<=i->i<nb->lt (gp p (sb - 1)) (gp p (sb+i))=true:=fun i hi hi2=>ZS O P #[0] #[0] #[0] (e2 i hi hi2)
 have d0:lt (gp p sb) (gp p (sb - 1))=true:=by
  have:=f2 (na - 1) #[0] #[0]
  rwa [show sa+(na - 1)=sb - 1 by omega] at this
 have hk0:k2≠0:=fun z=>by
  have:=e2 0 #[0] #[0]
  rw [Nat.add_zero] at this;unfold bey at this;rw [if_pos rfl,d0] at this;cases this
 dsimp only;rw [if_neg #[6]]
 have sx:=zfz (p:=p) (a:=sa+k) (b:=sb) #[0]
 have sy:=zfz (p:=p) (a:=sb) (b:=sb+k2) #[0]
 have gx:∀ i,i<(p.extract (sa+k) sb).size->gp (p.extract (sa+k) sb) i=gp p (sa+k+i):=fun i hi=>zc6 #[0] #[0]
 have gy:∀ i,i<(p.extract sb (sb+k2)).size->gp (p.extract sb (sb+k2)) i=gp p (sb+i):=fun i hi=>zc6 #[0] #[0]
 have ex:(p.map (kas_item it)).extract (sa+k) sb=(p.extract (sa+k) sb).map (kas_item it):=Yaq.symm;have ey:(p.map (kas_item it)).extract sb (sb+k2)=(p.extract sb (sb+k2)).map (kas_item it):=Yaq.symm;rw [ex,ey];have post:∀ (po:Array Nat) (gg:Nat),po.toList=mg lt (p.extract (sa+k) sb).toList (p.extract sb (sb+k2)).toList->Q true (kst κ it (wr p (sa+k) po.toList) ((pd.setIfInBounds l1.length (sa,na+nb,pw)).eraseIdxIfInBounds (l1.length+1)) gg)/\sa+k+po.size<=p.size:=by
  intro po gg epo;have hseg:=zhC p (a:=sa+k) (b:=sb) (c:=sb+k2) #[0] #[0]
  have hper:=zaC (lt:=lt) (p.extract (sa+k) sb).toList (p.extract sb (sb+k2)).toList;have nd0:p.toList.Nodup:=P.nodup_iff.mpr List.nodup_range;have ndS:((p.extract (sa+k) sb).toList++(p.extract sb (sb+k2)).toList).Nodup:=by
   rw [hseg];exact nd0.sublist ((List.take_sublist _ _).trans (List.drop_sublist _ _))
  have hbelow:∀ u∈(p.extract (sa+k) sb).toList++(p.extract sb (sb+k2)).toList,u<n:=fun u hu=>by
   rw [hseg] at hu;have:u∈p.toList:=List.mem_of_mem_drop (List.mem_of_mem_take hu);exact Yba.mp (P.mem_iff.mp this)
  have hup:=zb2 O _ _ ndS hbelow (zee fun i j hij hj=>by rw [gx i #[0],gx j hj];exact soA _ _ #[0] #[0] #[0]) (zee fun i j hij hj=>by rw [gy i #[0],gy j hj];exact soB _ _ #[0] #[0] #[0])
  have hlen:po.toList.length=(na - k)+k2:=by rw [epo,hper.length_eq,YaS,Array.length_toList,Array.length_toList,sx,sy];omega
  have hsz:po.size=(na - k)+k2:=by simpa using hlen
  have hfit:sa+k+po.toList.length<=p.size:=#[0]
  have hmem:∀ i,i<(na - k)+k2->∃ y,(sa+k<=y/\y<sb+k2)/\po.toList.getD i 0=gp p y:=fun i hi=>by
   have hm:po.toList.getD i 0∈po.toList:=by
    rw [YaP,YaQ #[0]];exact Ya4 _
   rw [epo] at hm;have hm:=hper.mem_iff.mp hm;rw [<-epo] at hm
   rcases Ya3.mp hm with z|z
   . obtain⟨y,hy,e⟩:=zd8 z
     exact⟨sa+k+y,#[0],by rw [e,gx y hy]⟩
   . obtain⟨y,hy,e⟩:=zd8 z
     exact⟨sb+y,#[0],by rw [e,gy y hy]⟩
  have gw:=zke hfit;have tail:∀ y,sa+k<=y->y<sb+k2->∀ j,sb+k2<=j->j<sb+nb->lt (gp p y) (gp p j)=true:=fun y hy1 hy2 j hj1 hj2=>by
   by_cases c:y<sb
   . have e1:=d2 (j - sb) #[0] #[0]
     rw [show sb+(j - sb)=j by omega] at e1
     by_cases c':y=sb - 1
     . rw [c'];exact e1
     . exact O.tr _ _ _ (soA y (sb - 1) #[0] #[0] #[0]) e1
   . exact soB y j #[0] #[0] hj2
  have head:∀ i,sa<=i->i<sa+k->∀ y,sa+k<=y->y<sb+nb->lt (gp p i) (gp p y)=true:=fun i hi1 hi2 y hy1 hy2=>by
   by_cases c:y<sb
   . exact soA i y hi1 #[0] c
   . have:=f3 y #[0] hy2 (i - sa) #[0]
     rwa [show sa+(i - sa)=i by omega] at this
  refine⟨q _ _ gg (zgJ P (a:=sa+k) (b:=sb+k2) #[0] #[0] (by rw [epo,<-hseg];exact hper)) a3 (fun x hx=>by rw [gw x,if_neg #[0]]) fun i j hi hij hj=>?_,#[0]⟩
  rw [gw i,gw j,hlen]
  by_cases i1:i<sa+k
  . rw [if_neg (show ¬(sa+k<=i/\i<sa+k+(na - k+k2)) by omega)]
    by_cases j1:j<sa+k
    . rw [if_neg #[0]]
      exact soA i j hi hij #[0]
    . by_cases j2:j<sa+k+(na - k+k2)
      . rw [if_pos #[0]]
        obtain⟨y,hy,e⟩:=hmem (j - (sa+k)) #[0]
        rw [e];exact head i hi i1 y hy.1 #[0]
      . rw [if_neg #[0]]
        exact head i hi i1 j #[0] hj
  . by_cases i2:i<sa+k+(na - k+k2)
    . rw [if_pos (show sa+k<=i/\i<sa+k+(na - k+k2) by omega)]
      by_cases j2:j<sa+k+(na - k+k2)
      . rw [if_pos #[0],epo]
        exact zg6 hup #[0] (by rw [<-epo];omega)
      . rw [if_neg #[0]]
        obtain⟨y,hy,e⟩:=hmem (i - (sa+k)) #[0]
        rw [e];exact tail y hy.1 hy.2 j #[0] hj
    . rw [if_neg (show ¬(sa+k<=i/\i<sa+k+(na - k+k2)) by omega),if_neg #[0]]
      exact soB i j #[0] hij hj
 have hax:∀ i,i<(p.extract (sa+k) sb).size->gp (p.extract (sa+k) sb) i<n:=fun i hi=>by rw [gx i hi];exact P.below #[0]
 have hby:∀ i,i<(p.extract sb (sb+k2)).size->gp (p.extract sb (sb+k2)) i<n:=fun i hi=>by rw [gy i hi];exact P.below #[0]
 have hua:∀ i j,i<j->j<(p.extract (sa+k) sb).size->lt (gp (p.extract (sa+k) sb) i) (gp (p.extract (sa+k) sb) j)=true:=fun i j hij hj=>by rw [gx i #[0],gx j hj];exact soA _ _ #[0] #[0] #[0]
 have hub:∀ i j,i<j->j<(p.extract sb (sb+k2)).size->lt (gp (p.extract sb (sb+k2)) i) (gp (p.extract sb (sb+k2)) j)=true:=fun i j hij hj=>by rw [gy i #[0],gy j hj];exact soB _ _ #[0] #[0] #[0]
 have hq3:lt (gp (p.extract sb (sb+k2)) 0) (gp (p.extract (sa+k) sb) 0)=true:=by rw [gx 0 #[0],gy 0 #[0]];exact f2 k (YaY _) #[0]
 have hq4:∀ j,j<(p.extract sb (sb+k2)).size->lt (gp (p.extract sb (sb+k2)) j) (gp (p.extract (sa+k) sb) ((p.extract (sa+k) sb).size - 1))=true:=fun j hj=>by
  rw [gy j hj,gx _ #[0],show sa+k+((p.extract (sa+k) sb).size - 1)=sb - 1 by omega]
  exact d1 j #[0]
 refine WS.ite ?_ ?_
 . refine WS.bnd (WS.mergeLo K O rfl hax hby hua hub #[0] #[0] hq3 hq4 fun r st' S F=>?_)
   obtain⟨gg,rfl⟩:=S;obtain⟨po,rfl,epo⟩:=F;obtain⟨r1,r2⟩:=post po gg epo;refine WS.bnd (WS.mdf (WS.bnd (WS.gt (WS.ret ?_))));unfold kst at r1;rw [<-zd7 r2] at r1;exact r1
 . refine WS.bnd (WS.mergeHi K O rfl hax hby hua hub #[0] #[0] hq3 hq4 fun r st' S F=>?_)
   obtain⟨gg,rfl⟩:=S;obtain⟨po,rfl,epo⟩:=F;obtain⟨r1,r2⟩:=post po gg epo;refine WS.bnd (WS.mdf (WS.bnd (WS.gt (WS.ret ?_))));unfold kst at r1;rw [<-zd7 r2] at r1;exact r1
end tim
def Runs(lt:Nat->Nat->Bool)(p:Array Nat):List PdT->Nat->Nat->Prop
 | [],b,e=>b=e
 | (s,m,_)::r,b,e=>s=b/\1<=m/\Srt lt p b (b+m)/\Runs lt p r (b+m) e
section
variable{lt:Nat->Nat->Bool}{p p':Array Nat}
theorem Runs.len:∀ {l:List PdT} {b e:Nat},Runs lt p l b e->b+l.length<=e
 | [],b,e,h=>by have h:b=e:=h;simp;omega
 | (s, m, _) :: r, b, e, h => by
  have:=Runs.len h.2.2.2;have:=h.2.1;rw [List.length_cons];omega
theorem Runs.app:∀ {l1 l2:List PdT} {b e:Nat},Runs lt p (l1++l2) b e->∃ c,Runs lt p l1 b c/\Runs lt p l2 c e
 | [],l2,b,e,h=>⟨b,rfl,h⟩
 | (s, m, q) :: r, l2, b, e, h => by
  obtain⟨c,h1,h2⟩:=Runs.app (l1:=r) h.2.2.2;exact⟨c,⟨h.1,h.2.1,h.2.2.1,h1⟩,h2⟩
theorem Runs.cat:∀ {l1 l2:List PdT} {b c e:Nat},Runs lt p l1 b c->Runs lt p l2 c e->Runs lt p (l1++l2) b e
 | [],l2,b,c,e,h1,h2=>by have h1:b=c:=h1;subst h1;exact h2
 | (s,m,q)::r,l2,b,c,e,h1,h2=>⟨h1.1,h1.2.1,h1.2.2.1,Runs.cat h1.2.2.2 h2⟩
theorem Runs.same:∀ {l:List PdT} {b e:Nat},(∀ x,b<=x->x<e->gp p' x=gp p x)->Runs lt p l b e->Runs lt p' l b e
 | [],b,e,_,h=>h
 | (s, m, q) :: r, b, e, hx, h => by
  have h1:=h.2.2.2.len;refine⟨h.1,h.2.1,fun i j hi hij hj=>?_,Runs.same (fun x a b=>hx x #[0] b) h.2.2.2⟩
  rw [hx i #[0] #[0],hx j #[0] #[0]]
  exact h.2.2.1 i j hi hij hj
theorem Runs.pow:∀ {l:List PdT} {x:PdT} {b e w:Nat},Runs lt p (l++[x]) b e->Runs lt p (l++[(x.1,x.2.1,w)]) b e
 | [],(s,m,q),b,e,w,h=>h
 | (s,m,q)::r,x,b,e,w,h=>⟨h.1,h.2.1,h.2.2.1,Runs.pow (l:=r) h.2.2.2⟩
end
theorem znu{l:List PdT}{i:Nat}(h:i+1<l.length):∃ l1 x y l2,l=l1++x::y::l2/\l1.length=i:=by
 refine⟨l.take i,l[i],l[i+1],l.drop (i+2),?_,by rw [Wa5];omega⟩
 rw [Wau,Wau,Wax]
theorem zeA{pd:Array PdT}{f:PdT->PdT}{l:List PdT}{x:PdT}(h:pd.toList=l++[x]):(pd.modify (pd.size - 1) f).toList=l++[f x]:=by
 have hs:pd.size=l.length+1:=by have:=congrArg List.length h;simpa using this
 apply List.ext_getElem?
 intro i;rw [Wav,Array.getElem?_modify]
 by_cases e:pd.size - 1=i
 . rw [if_pos e,<-Wav,h,<-e,hs,show l.length+1 - 1=l.length by omega]
   simp
 . rw [if_neg e,<-Wav,h]
   by_cases c:i<l.length
   . rw [Yab c,Yab c]
   . rw [Waw #[6],Waw #[6]]
section tim
variable{prog:Program}{w:World}{A:Around}{E:Value->Shared->Prop}{s:Shared}{κ : SortKind}{it:Array Keyed}{lt:Nat->Nat->Bool}{n:Nat}{p:Array Nat}{pd:Array PdT}{g:Nat}
variable(K:Z4 prog w A s κ it lt n)(O:Ordr lt n)
include K O
theorem WS.mrgR{i e:Nat}{Q:Bool->SortSt->Prop}(hi:i+1<pd.size)(P:OkP n p)(R:Runs lt p pd.toList 0 e)(he:e<=n)
 (q:∀ p' (pd':Array PdT) g',OkP n p'->pd'.size+1=pd.size->Runs lt p' pd'.toList 0 e->(∀ x,e<=x->gp p' x=gp p x)->Q true (kst κ it p' pd' g')):WS prog w A E s (mergeAt' i) (kst κ it p pd g) Q:=by
 obtain⟨l1,x,y,l2,h,rfl⟩:=znu (l:=pd.toList) (i:=i) (by simpa using hi)
 obtain⟨sa,na,pw⟩:=x;obtain⟨sb,nb,pw'⟩:=y;rw [h] at R;obtain⟨c,R1,R2⟩:=R.app;obtain⟨rfl,n1,s1,rfl,n2,s2,R3⟩:=R2;have l3:=R3.len;have l0:=R1.len;refine WS.mrg K O h rfl n1 n2 #[0] P s1 s2 fun p' pd' g' P' hpd' ou so=>?_
 refine q p' pd' g' P' ?_ ?_ fun x hx=>ou x #[0]
 . have e1:=congrArg List.length h
   have e2:=congrArg List.length hpd';simp only [YaS,List.length_cons,Array.length_toList] at e1 e2
   omega
 . rw [hpd']
   refine(R1.same fun x _ hx=>ou x #[0]).cat ⟨rfl,#[0],?_,?_⟩
   . have:Srt lt p' sa (sa+na+nb):=so
     rwa [Nat.add_assoc] at this
   . rw [<-Nat.add_assoc]
     exact R3.same fun x hx _=>ou x #[0]
theorem WS.runs{Q:Unit->SortSt->Prop}(P:OkP n p)(hn:1<=n)(q:∀ p' pd' g',OkP n p'->Srt lt p' 0 n->Q () (kst κ it p' pd' g')):WS prog w A E s sortRuns' (kst κ it p #[] g) Q:=by
 have hsz:(p.map (kas_item it)).size=n:=by rw [Wbn,P.size]
 refine WS.bnd (WS.gt ?_)
 dsimp only [kst];rw [hsz];refine WS.bnd (WS.mono (WS.loop (Q:=fun(c:Option Unit×Nat) st'=>c.1=none/\∃ p' pd' g',kst κ it p' pd' g'=st'/\OkP n p'/\Runs lt p' pd'.toList 0 n)
  (fun j (c:Option Unit×Nat) st'=>c.1=none/\c.2<=n/\n<=c.2+j/\∃ p' pd' g',kst κ it p' pd' g'=st'/\OkP n p'/\Runs lt p' pd'.toList 0 c.2) ⟨rfl,WbH _,#[0],p,#[],g,rfl,P,rfl⟩ (fun j x c st' hI=>?_) fun c st' hI=>?_) fun c st' hQ=>?_)
 case refine_2=>
  obtain⟨e0,l1,l2,p',pd',g',e1,P',R⟩:=hI;rw [show c.2=n by omega] at R
  exact⟨e0,p',pd',g',e1,P',R⟩
 case refine_1=>
  obtain⟨r,lo⟩:=c;obtain⟨e0,l1,l2,p',pd',g',e1,P',R⟩:=hI;dsimp only at e0 l1 l2 R ⊢;subst e0 e1
  by_cases c:lo>=n
  . rw [if_pos c]
    have:lo=n:=#[0]
    subst this;exact WS.ret ⟨rfl,p',pd',g',rfl,P',R⟩
  rw [if_neg c];refine WS.bnd (WS.count K O P' #[0] #[0] fun m p1 m1 m2 P1 ou1 so1=>?_)
  have R1:Runs lt p1 pd'.toList 0 lo:=R.same fun x _ hx=>ou1 x (.inl hx)
  dsimp only;refine WS.itec (fun cm=>?_) fun cm=>?_
  . refine WS.bnd (WS.rl ?_)
    refine WS.bnd (WS.bin K O P1 #[0] m1 #[0] so1 fun p2 P2 ou2 so2=>?_)
    rw [if_neg #[1]]
    have R2:Runs lt p2 pd'.toList 0 lo:=R1.same fun x _ hx=>ou2 x (.inl hx)
    generalize hM':min (n - lo) _=M at so2 ou2 ⊢;have hM:1<=M:=#[0]
    refine WS.bnd (WS.gt ?_)
    dsimp only [kst];cases hb:pd'.back? with
    | none=>
     dsimp only;refine WS.bnd (WS.mdf (WS.ret ⟨rfl,#[0],#[0],p2,pd'.push (lo,M,0),g',rfl,P2,?_⟩))
     rw [WaT];exact R2.cat ⟨rfl,hM,so2,rfl⟩
    | some x=>
     obtain⟨s1,n1,q1⟩:=x;dsimp only;have hne:1<=pd'.size:=by
      rw [Array.back?_eq_getElem?] at hb;have:=(Array.getElem?_eq_some_iff.mp hb).1
      omega
     refine WS.bnd (WS.mono (WS.loop (Q:=fun(c:Option Unit×Unit) st'=>c.1=none/\∃ p2 pd2 g2,kst κ it p2 pd2 g2=st'/\OkP n p2/\1<=pd2.size/\Runs lt p2 pd2.toList 0 lo/\Srt lt p2 lo (lo+M))
      (fun _ (c:Option Unit×Unit) st'=>c.1=none/\∃ p2 pd2 g2,kst κ it p2 pd2 g2=st'/\OkP n p2/\1<=pd2.size/\Runs lt p2 pd2.toList 0 lo/\Srt lt p2 lo (lo+M)) ⟨rfl,p2,pd',g',rfl,P2,hne,R2,so2⟩ (fun j' x' c st' hI=>?_) fun c st' hI=>hI) fun c st' hQ=>?_)
     . obtain⟨r,u⟩:=c
       obtain⟨e0,p2,pd2,g2,e1,P2,h2,R2,S2⟩:=hI;have e0:r=none:=e0;subst e0 e1;refine WS.bnd (WS.gt ?_);dsimp only [kst]
       by_cases c:pd2.size > 1
       . rw [if_pos c,Array.getElem?_eq_getElem (show pd2.size - 2<pd2.size by omega)]
         dsimp only;refine WS.ite (WS.ret ⟨rfl,p2,pd2,g2,rfl,P2,h2,R2,S2⟩) ?_;refine WS.bnd (WS.mrgR K O #[0] P2 R2 #[0] fun p3 pd3 g3 P3 h3 R3 ou3=>?_)
         rw [if_neg #[1]]
         exact WS.ret ⟨rfl,p3,pd3,g3,rfl,P3,#[0],R3,fun i j hi hij hj=>by rw [ou3 i hi,ou3 j #[0]];exact S2 i j hi hij hj⟩
       . rw [if_neg c]
         exact WS.ret ⟨rfl,p2,pd2,g2,rfl,P2,h2,R2,S2⟩
     obtain⟨r,u⟩:=c;obtain⟨e0,p2,pd2,g2,e1,P2,h2,R2,S2⟩:=hQ;have e0:r=none:=e0;subst e0 e1;dsimp only;obtain⟨l,x,hx⟩:∃ l x,pd2.toList=l++[x]:=by
      rcases Way pd2.toList with z|⟨l,x,z⟩
      . have:=congrArg List.length z
        rw [Array.length_toList,List.length_nil] at this
        omega
      . rw [Waz] at z
        exact⟨l,x,z⟩
     refine WS.bnd (WS.mdf (WS.bnd (WS.mdf (WS.ret ⟨rfl,#[0],#[0],p2,_,g2,rfl,P2,?_⟩))))
     rw [WaT];refine Runs.cat (c:=lo) ?_ ⟨rfl,hM,S2,rfl⟩;rw [hx] at R2;exact(zeA hx).symm ▸ R2.pow
  . have hM:1<=m:=m1
    refine WS.bnd (WS.gt ?_)
    dsimp only [kst];cases hb:pd'.back? with
    | none=>
     dsimp only;refine WS.bnd (WS.mdf (WS.ret ⟨rfl,#[0],#[0],p1,pd'.push (lo,m,0),g',rfl,P1,?_⟩))
     rw [WaT];exact R1.cat ⟨rfl,hM,so1,rfl⟩
    | some x=>
     obtain⟨s1,n1,q1⟩:=x;dsimp only;have hne:1<=pd'.size:=by
      rw [Array.back?_eq_getElem?] at hb;have:=(Array.getElem?_eq_some_iff.mp hb).1
      omega
     refine WS.bnd (WS.mono (WS.loop (Q:=fun(c:Option Unit×Unit) st'=>c.1=none/\∃ p2 pd2 g2,kst κ it p2 pd2 g2=st'/\OkP n p2/\1<=pd2.size/\Runs lt p2 pd2.toList 0 lo/\Srt lt p2 lo (lo+m))
      (fun _ (c:Option Unit×Unit) st'=>c.1=none/\∃ p2 pd2 g2,kst κ it p2 pd2 g2=st'/\OkP n p2/\1<=pd2.size/\Runs lt p2 pd2.toList 0 lo/\Srt lt p2 lo (lo+m)) ⟨rfl,p1,pd',g',rfl,P1,hne,R1,so1⟩ (fun j' x' c st' hI=>?_) fun c st' hI=>hI) fun c st' hQ=>?_)
     . obtain⟨r,u⟩:=c
       obtain⟨e0,p2,pd2,g2,e1,P2,h2,R2,S2⟩:=hI;have e0:r=none:=e0;subst e0 e1;refine WS.bnd (WS.gt ?_);dsimp only [kst]
       by_cases c:pd2.size > 1
       . rw [if_pos c,Array.getElem?_eq_getElem (show pd2.size - 2<pd2.size by omega)]
         dsimp only;refine WS.ite (WS.ret ⟨rfl,p2,pd2,g2,rfl,P2,h2,R2,S2⟩) ?_;refine WS.bnd (WS.mrgR K O #[0] P2 R2 #[0] fun p3 pd3 g3 P3 h3 R3 ou3=>?_)
         rw [if_neg #[1]]
         exact WS.ret ⟨rfl,p3,pd3,g3,rfl,P3,#[0],R3,fun i j hi hij hj=>by rw [ou3 i hi,ou3 j #[0]];exact S2 i j hi hij hj⟩
       . rw [if_neg c]
         exact WS.ret ⟨rfl,p2,pd2,g2,rfl,P2,h2,R2,S2⟩
     obtain⟨r,u⟩:=c;obtain⟨e0,p2,pd2,g2,e1,P2,h2,R2,S2⟩:=hQ;have e0:r=none:=e0;subst e0 e1;dsimp only;obtain⟨l,x,hx⟩:∃ l x,pd2.toList=l++[x]:=by
      rcases Way pd2.toList with z|⟨l,x,z⟩
      . have:=congrArg List.length z
        rw [Array.length_toList,List.length_nil] at this
        omega
      . rw [Waz] at z
        exact⟨l,x,z⟩
     refine WS.bnd (WS.mdf (WS.bnd (WS.mdf (WS.ret ⟨rfl,#[0],#[0],p2,_,g2,rfl,P2,?_⟩))))
     rw [WaT];refine Runs.cat (c:=lo) ?_ ⟨rfl,hM,S2,rfl⟩;rw [hx] at R2;exact(zeA hx).symm ▸ R2.pow
 obtain⟨r,lo⟩:=c;obtain⟨e0,p',pd',g',e1,P',R⟩:=hQ;dsimp only at e0 ⊢;subst e0 e1;dsimp only;refine WS.bnd (WS.mono (WS.loop (Q:=fun(c:Option Unit×Unit) st'=>c.1=none/\∃ p' pd' g',kst κ it p' pd' g'=st'/\OkP n p'/\Runs lt p' pd'.toList 0 n/\pd'.size<=1)
  (fun j (c:Option Unit×Unit) st'=>c.1=none/\∃ p' pd' g',kst κ it p' pd' g'=st'/\OkP n p'/\Runs lt p' pd'.toList 0 n/\pd'.size<=j+1) ⟨rfl,p',pd',g',rfl,P',R,by have:=R.len;rw [Array.length_toList] at this;omega⟩ (fun j x c st' hI=>?_) fun c st' hI=>hI) fun c st' hQ=>?_)
 . obtain⟨r,u⟩:=c
   obtain⟨e0,p',pd',g',e1,P',R,hl⟩:=hI;dsimp only at e0 ⊢;subst e0 e1;refine WS.bnd (WS.gt ?_);dsimp only [kst]
   by_cases c:pd'.size<=1
   . rw [if_pos c]
     exact WS.ret ⟨rfl,p',pd',g',rfl,P',R,c⟩
   rw [if_neg c];refine WS.bnd (WS.mrgR K O ?hi P' R (YaY _) fun p3 pd3 g3 P3 h3 R3 ou3=>?_)
   case hi=>
    have f:∀ (C:Prop) [Decidable C],(if C then pd'.size - 2 - 1 else pd'.size - 2)+1<pd'.size:=fun C _=>by
     by_cases h:C
     . rw [if_pos h];omega
     . rw [if_neg h];omega
    exact f _
   rw [if_neg #[1]]
   exact WS.ret ⟨rfl,p3,pd3,g3,rfl,P3,R3,#[0]⟩
 obtain⟨r,u⟩:=c;obtain⟨e0,p',pd',g',e1,P',R,hl⟩:=hQ;dsimp only at e0 ⊢;subst e0 e1;refine WS.ret (q p' pd' g' P' ?_);cases h:pd'.toList with
 | nil=>rw [h] at R;have R:0=n:=R;omega
 | cons x r=>
  have hr:r=[]:=by
   have:=congrArg List.length h;rw [Array.length_toList,List.length_cons] at this;exact Wap.mp #[0]
  subst hr;rw [h] at R;obtain⟨s',m,q'⟩:=x;obtain⟨_,_,so,e⟩:=R;have e:0+m=n:=e;rw [e] at so;exact so
end tim
section
variable{prog:Program}{w:World}{A:Around}{E:Value->Shared->Prop}{vs:List Value}{f:Value}{lt:Nat->Nat->Bool}
structure SortJ(prog:Program)(w:World)(A:Around)(vs:List Value)(f:Value)(lt:Nat->Nat->Bool)(a kS:Addr)(J:List Value->Shared->Prop):Prop where
 upd:∀ ks (s:Shared) h' x,J ks s->(x=a\/x=kS)->Heap.SameBut x s.heap h'->J ks { s with heap:=h' }
 key:∀ ks v r (s:Shared),vs.drop ks.length=v::r->J ks s->(∃ o,s.heap.get? a=some o)->(∃ o,s.heap.get? kS=some o)->
  wpAny (model prog w) A (call f [v]) (fun k s'=>J (ks++[k]) s'/\s'.heap.get? a=s.heap.get? a/\s'.heap.get? kS=s.heap.get? kS) (fun _ _=>False) s
 kind:∀ ks (s:Shared) (Q:SortKind->Shared->Prop),J ks s->ks.length=vs.length->2<=vs.length->Q (tuples' true) s->wpAny (model prog w) A (keyKind' ks.toArray) Q (fun _ _=>False) s
 ask:∀ ks (s:Shared) i j (C:Bool->Shared->Prop),J ks s->ks.length=vs.length->i<vs.length->j<vs.length->C (lt i j) s->kas_ask prog w A (tuples' true) ks i j C s
theorem zcJ{h:Heap}{a b:Addr}{g:Obj->Obj}(n:b≠a):(h.update a g).get? b=h.get? b:=(WaD h a g).2 b n
theorem zdU{a kS:Addr}{J:List Value->Shared->Prop}(SJ:SortJ prog w A vs f lt a kS J)(hne:a≠kS)(h64:vs.length<1000){body:Value->PUnit->Sem (ForInStep PUnit)}
 (hb:∀ x ks e (s:Shared) (C:Value->Shared->Prop),ks.length<1000->s.heap.get? kS=some (seqObj "list" (List.toArray ks) e)->
  wpAny (model prog w) A (call f [x]) (fun k s'=>C k s'/\s'.heap.get? kS=s.heap.get? kS) (fun _ _=>False) s->
  wpAny (model prog w) A (body x ⟨⟩) (fun r s'=>r=.yield ⟨⟩/\∃ k s1,C k s1/\s' = { s1 with heap:=s1.heap.update kS (Obj.mapSeq (·.push k)) }) E s) {e1:Nat} :
 ∀ (r ks:List Value) (e:Nat) (s:Shared),vs.drop ks.length=r->ks.length+r.length=vs.length->s.heap.get? kS=some (seqObj "list" (List.toArray ks) e)->s.heap.get? a=some (seqObj "list" #[] e1)->J ks s->
  wpAny (model prog w) A (forIn r PUnit.unit body) (fun _ s'=>∃ ks e,s'.heap.get? kS=some (seqObj "list" (List.toArray ks) e)/\s'.heap.get? a=some (seqObj "list" #[] e1)/\ks.length=vs.length/\J ks s') E s
 | [], ks, e, s, _, hl, hk, ha, j => by
  rw [List.forIn_nil];exact wpAny_pure ⟨ks,e,hk,ha,by simpa using hl,j⟩
 | x :: r, ks, e, s, hd, hl, hk, ha, j => by
  rw [List.length_cons] at hl;rw [List.forIn_cons];refine wpAny_bind (wpAny_mono (hb x ks e s (fun k s'=>J (ks++[k]) s'/\s'.heap.get? a=s.heap.get? a/\s'.heap.get? kS=s.heap.get? kS) #[0] hk (wpAny_mono (SJ.key ks x r s hd j ⟨_,ha⟩ ⟨_,hk⟩) (fun k s' q=>⟨q,q.2.2⟩) fun _ _ x=>x)) (fun q s' hq=>?_) fun _ _ x=>x)
  obtain⟨rfl,k,s1,⟨j1,a1,k1⟩,rfl⟩:=hq;show wpAny (model prog w) A (forIn r PUnit.unit body) _ E _;have e2:s1.heap.get? kS=some (seqObj "list" (List.toArray ks) e):=k1.trans hk;have ea:(List.toArray ks).push k=List.toArray (ks++[k]):=by simp
  obtain⟨c,hc⟩:∃ c,(s1.heap.update kS (Obj.mapSeq (·.push k))).get? kS=some (seqObj "list" (List.toArray (ks++[k])) c):=⟨_,by rw [<-ea];exact get?_update_seq e2 (·.push k)⟩
  refine zdU SJ hne h64 hb r (ks++[k]) c _ ?_ (by rw [YaS,List.length_singleton];omega) hc (by show(s1.heap.update kS _).get? a=_;rw [zcJ hne];exact a1.trans ha) (SJ.upd _ _ _ kS j1 (.inr rfl) (WaD _ _ _))
  rw [YaS,List.length_singleton,<-List.drop_drop,hd];rfl
theorem zdx{vs ks:List Value}(hl:ks.length=vs.length)(hn:vs.length<2):((List.toArray ks).zip vs.toArray).map (·.2)=List.toArray ((List.toArray (List.range vs.length)).toList.map fun i=>vs.getD i Value.none):=by
 cases vs with
 | nil=>
  cases ks with
  | nil=>simp
  | cons _ _=>cases hl
 | cons v r=>
  cases r with
  | cons _ _=>exact absurd hn (by simp)
  | nil=>
   cases ks with
   | nil=>cases hl
   | cons k t=>
    cases t with
    | nil=>simp
    | cons _ _=>cases hl
theorem zjn{vs:List Value}(h:¬vs.length<2):∃ v₁ v₂ rest,vs=v₁ :: v₂ :: rest:=by
 match vs,h with
 | [],h=>simp at h
 | [_],h=>simp at h
 | v₁ :: v₂ :: rest,_=>exact⟨v₁,v₂,rest,rfl⟩
theorem zgS{a kS:Addr}{J:List Value->Shared->Prop}(SJ:SortJ prog w A vs f lt a kS J)(O:Ordr lt vs.length)(hne:a≠kS)(h64:vs.length<1000){e e1:Nat}{ks:List Value}{s:Shared}{P:PySem.Fin->Shared->Prop}
 (hk:s.heap.get? kS=some (seqObj "list" (List.toArray ks) e)) (ha:s.heap.get? a=some (seqObj "list" #[] e1)) (hl:ks.length=vs.length) (j:J ks s)
 (h:∀ s' p c,J ks s'->OkP vs.length p->SoP lt p vs.length->s'.heap.get? a=some (seqObj "list" (p.toList.map fun i=>vs.getD i Value.none).toArray c)->P (.done (.ret .none)) s') :
 wpAny (model prog w) A (ksk_end a false vs.toArray e1 (.ref kS) (List.toArray ks)) P E s:=by
 have tail:∀ (st:SortSt) (p:Array Nat),failedOf st=none->(arrOf st).map (·.2)=List.toArray (p.toList.map fun i=>vs.getD i Value.none)->OkP vs.length p->SoP lt p vs.length->
  wpAny (model prog w) A (ksk_tail a false e1 (.ref kS) st) P E s:=by
  intro st p hf hout ok so;have hsz:(List.toArray (p.toList.map fun i=>vs.getD i Value.none)).size=vs.length:=by rw [YaZ,YaR,Array.length_toList,ok.size]
  have ha':(s.heap.update kS (Obj.mapSeq fun _=>(#[]:Array Value))).get? a=some (seqObj "list" #[] e1):=by rw [zcJ hne];exact ha
  unfold ksk_tail
  try dsimp only
  rw [hout];refine wpAny_bind (listUpdate_at hk rfl ?_ (by rw [YaZ,sizeLine_eq];omega) (WbH _))
  refine wpAny_bind (wpAny_letGo ?_)
  refine wpAny_bind (seqEpoch_at ha' rfl ?_)
  refine wpAny_bind (listUpdate_at ha' rfl ?_ (WbH _) (Ya5 (Nat.le_of_eq hsz) (by rw [sizeLine_eq];omega)))
  rw [hf];simp only [bne_self_eq_false,WaG,if_false];obtain⟨c2,hc2⟩:∃ c2,((s.heap.update kS (Obj.mapSeq fun _=>(#[]:Array Value))).update a (Obj.mapSeq fun _=>List.toArray (p.toList.map fun i=>vs.getD i Value.none))).get? a=some (seqObj "list" (List.toArray (p.toList.map fun i=>vs.getD i Value.none)) c2):=⟨_,get?_update_seq ha' fun _=>List.toArray (p.toList.map fun i=>vs.getD i Value.none)⟩
  exact wpAny_pure (h _ p c2 (SJ.upd _ { s with heap:=s.heap.update kS (Obj.mapSeq fun _=>(#[]:Array Value)) } _ a (SJ.upd _ s _ kS j (.inr rfl) (WaD _ _ _)) (.inl rfl) (WaD _ _ _)) ok so hc2)
 unfold ksk_end
 try dsimp only
 simp only [WaG,if_false]
 by_cases hn:vs.toArray.size<2
 . rw [if_pos hn,if_pos hn]
   rw [YaZ] at hn;refine wpAny_bind (wpAny_pure (wpAny_bind ?_));rw [StateT.run_pure];refine wpAny_pure (tail _ (List.toArray (List.range vs.length)) rfl ?_ (Wbo _) (fun i j a b=>by omega))
   exact zdx hl hn
 . rw [if_neg hn,if_neg hn]
   rw [YaZ] at hn;refine wpAny_bind (wpAny_mono (SJ.kind ks s (fun κ s'=>κ = tuples' true/\s'=s) j hl #[0] ⟨rfl,rfl⟩) (fun κ s' hκ=>?_) fun _ _ x=>x.elim)
   obtain⟨rfl,rfl⟩:=hκ;have hsz2:((List.toArray ks).zip vs.toArray).size=vs.length:=by simp [hl]
   have est:SortSt.mk' (tuples' true) ((List.toArray ks).zip vs.toArray) #[] 7 none=kst (tuples' true) ((List.toArray ks).zip vs.toArray) (List.toArray (List.range vs.length)) #[] 7:=by
    have e:=kas_range ((List.toArray ks).zip vs.toArray);rw [hsz2] at e;unfold kst;rw [e]
   rw [est];refine wpAny_bind (wpAny_mono (WS.runs (E:=fun _ _=>False) (Q:=fun _ st'=>∃ p:Array Nat,arrOf st'=p.map (kas_item ((List.toArray ks).zip vs.toArray))/\failedOf st'=none/\OkP vs.length p/\Srt lt p 0 vs.length)
    (fun i j' C hi hj hC=>by rw [<-kat_ask_eq hl];exact SJ.ask ks s' i j' C j hl hi hj hC) O (Wbo _) #[0] fun p' pd' g' ok so=>⟨p',rfl,rfl,ok,so⟩) ?_ fun _ _ x=>x.elim)
   rintro⟨⟨⟩,st'⟩ s'' ⟨e,p,har,hf,ok,so⟩
   have e:s''=s':=e;subst e
   try dsimp only
   exact tail st' p hf (kat_snds hl har) ok fun i j h1 h2=>so i j (WbH _) h1 h2
theorem zh2{a:Addr}{n0:Nat}{s:Shared}{P:PySem.Fin->Shared->Prop}{J:Addr->List Value->Shared->Prop}(ho:s.heap.get? a=some (seqObj "list" vs.toArray n0))(h64:vs.length<1000)(O:Ordr lt vs.length)
 (SJ:∀ kS,s.heap.objs.size<=kS->SortJ prog w A vs f lt a kS (J kS))
 (h0:∀ kS h',(∀ b o,b≠a->s.heap.get? b=some o->h'.get? b=some o)->s.heap.objs.size<=kS->J kS [] { s with heap:=h' })
 (h:∀ kS ks s' p c,s.heap.objs.size<=kS->J kS ks s'->ks.length=vs.length->OkP vs.length p->SoP lt p vs.length->s'.heap.get? a=some (seqObj "list" (p.toList.map fun i=>vs.getD i Value.none).toArray c)->P (.done (.ret .none)) s') :
 wpAny (model prog w) A (ksk_tree a f false) P E s:=by
 have hlt:a<s.heap.objs.size:=YaX ho;obtain⟨e1,ho1⟩:∃ e1,(s.heap.update a (Obj.mapSeq fun _=>(#[]:Array Value))).get? a=some (seqObj "list" #[] e1):=⟨_,get?_update_seq ho fun _=>#[]⟩
 have hkS:((s.heap.update a (Obj.mapSeq fun _=>(#[]:Array Value))).push (seqObj "tuple" vs.toArray 0)).objs.size=s.heap.objs.size+1:=by rw [size_push',Wa9]
 unfold ksk_tree;refine wpAny_bind (listItems_at ho rfl ?_);refine wpAny_bind (listUpdate_at ho rfl ?_ (by rw [YaZ,sizeLine_eq];omega) (WbH _))
 refine wpAny_bind (seqEpoch_at ho1 rfl ?_)
 refine wpAny_bind (wpAny_newTuple ?_ (by show vs.length<=_;rw [sizeLine_eq];omega))
 refine wpAny_bind (wpAny_newList ?_ (WbH _))
 refine wpAny_holding ?_
 show wpAny _ _ (ksk_rest a f false vs.toArray e1 (.ref ((s.heap.update a (Obj.mapSeq fun _=>(#[]:Array Value))).push (seqObj "tuple" vs.toArray 0)).objs.size)) _ _ { s with heap:=((s.heap.update a (Obj.mapSeq fun _=>(#[]:Array Value))).push (seqObj "tuple" vs.toArray 0)).push (seqObj "list" #[] 0) }
 have kk:(((s.heap.update a (Obj.mapSeq fun _=>(#[]:Array Value))).push (seqObj "tuple" vs.toArray 0)).push (seqObj "list" #[] 0)).get? ((s.heap.update a (Obj.mapSeq fun _=>(#[]:Array Value))).push (seqObj "tuple" vs.toArray 0)).objs.size=some (seqObj "list" #[] 0):=Yan _ rfl
 generalize hK:((s.heap.update a (Obj.mapSeq fun _=>(#[]:Array Value))).push (seqObj "tuple" vs.toArray 0)).objs.size=kS at kk ⊢
 rw [hkS] at hK;have hge:s.heap.objs.size<=kS:=#[0]
 have hne:a≠kS:=Yaf (YaU hlt hge);have sj:=SJ kS hge;unfold ksk_rest;refine wpAny_bind (wpAny_rule ?_)
 first
  | rw [List.forIn_toArray]
  | (rw [<-Array.forIn_toList];simp only [List.toList_toArray])
  | rw [<-Array.forIn_toList]
 refine wpAny_bind (wpAny_mono (zdU (E:=E) sj hne h64 (e1:=e1) (fun x ks e s' C hz hx hc=>?_) vs [] 0 _ rfl (by simp) kk (YaW _ (YaW _ ho1)) (h0 kS _ (fun b o n q=>YaW _ (YaW _ (by rw [zcJ n];exact q))) hge)) (fun _ s' hd=>?_) fun _ _ x=>x)
 . refine wpAny_bind (wpAny_attempt (wpAny_mono hc (fun k s'' hk=>?_) fun _ _ hF=>hF.elim))
   try dsimp only
   have hx':s''.heap.get? kS=some (seqObj "list" (List.toArray ks) e):=hk.2.trans hx;refine wpAny_bind (listUpdate_at hx' rfl ?_ (by rw [YaZ,sizeLine_eq];omega) (Ya5 (Nat.le_of_eq (Array.size_push ..)) (by rw [YaZ,sizeLine_eq];omega)))
   exact wpAny_pure ⟨rfl,k,s'',hk.1,rfl⟩
 . obtain⟨ks,e,hk',ha',hl,j⟩:=hd
   try dsimp only
   refine wpAny_bind (listItems_at hk' rfl ?_)
   exact zgS sj O hne h64 hk' ha' hl j fun s' p c j' ok so g=>h kS ks s' p c hge j' hl ok so g
theorem zh3{l:Addr}{kf:Addr}{s:Shared}{Q:Value->Shared->Prop}{J:Addr->Addr->List Value->Shared->Prop}(hl:s.heap.IsList l vs.toArray)(h64:vs.length<1000)(O:Ordr lt vs.length)
 (SJ:∀ D kS,s.heap.objs.size<=D->D<kS->SortJ prog w A.in1.in1 vs (.ref kf) lt D kS (J D kS))
 (h0:∀ D kS h',(∀ b o,s.heap.get? b=some o->h'.get? b=some o)->s.heap.objs.size<=D->D<kS->J D kS [] { s with heap:=h' })
 (h:∀ D kS ks s' p c,s.heap.objs.size<=D->D<kS->J D kS ks s'->ks.length=vs.length->OkP vs.length p->SoP lt p vs.length->s'.heap.get? D=some (seqObj "list" (p.toList.map fun i=>vs.getD i Value.none).toArray c)->Q (.ref D) s') :
 wpAny (model prog w) A (call (.builtin "sorted") [.ref l] [(Str.ofString "key", .ref kf)]) Q E s:=by
 refine call_function_entry_kw kind_sorted plain_sorted entry_sorted (ksk_s1 _ _) ?_
 unfold Builtin.«sorted»;refine wpAny_bind (m:=checkCount "sorted" 1 1 _) (wpAny_pure ?_);refine wpAny_bind (collect_list hl ?_ (by rw [sizeLine_eq];omega))
 refine wpAny_bind (wpAny_newList ?_ (by rw [sizeLine_eq];omega))
 have hsz:((s.heap.push (seqObj "list" #[] 0)).update s.heap.objs.size (Obj.mapSeq (· ++ vs.toArray))).objs.size=s.heap.objs.size+1:=by
  rw [Wa9,size_push']
 have hoL:(((s.heap.push (seqObj "list" #[] 0)).update s.heap.objs.size (Obj.mapSeq (· ++ vs.toArray))).push (seqObj "list" vs.toArray 0)).get? (s.heap.objs.size+1)=some (seqObj "list" vs.toArray 0):=by
  rw [<-hsz];exact Yan _ rfl
 have keep:∀ b o,s.heap.get? b=some o->(((s.heap.push (seqObj "list" #[] 0)).update s.heap.objs.size (Obj.mapSeq (· ++ vs.toArray))).push (seqObj "list" vs.toArray 0)).get? b=some o:=fun b o q=>by
  have hlt:b<s.heap.objs.size:=YaX q;rw [WaV _ _ _ (by rw [hsz];exact Yaf (WaO hlt)),Heap.get?_update_ne _ _ _ _ (Yaf hlt),WaV _ _ _ (Yaf hlt)]
  exact q
 have hsz2:(((s.heap.push (seqObj "list" #[] 0)).update s.heap.objs.size (Obj.mapSeq (· ++ vs.toArray))).push (seqObj "list" vs.toArray 0)).objs.size=s.heap.objs.size+2:=by rw [size_push',hsz]
 show wpAny _ _ _ _ _ { s with heap:=((s.heap.push (seqObj "list" #[] 0)).update s.heap.objs.size (Obj.mapSeq (· ++ vs.toArray))).push (seqObj "list" vs.toArray 0) }
 rw [hsz];refine wpAny_bind (wpAny_holding (wpAny_call_entry_kw slot_list_sort ⟨_,hoL,rfl⟩ entry_list_sort ?body (ksk_l1 _ _)))
 case body=>
  show wpAny (model prog w) A.in1.in1 (Builtin.«list.sort» ⟨[.ref (s.heap.objs.size+1)],[(Str.ofString "key", .ref kf)]⟩) _ _ _
  rw [ksk_t1];have key:∀ kS,(((s.heap.push (seqObj "list" #[] 0)).update s.heap.objs.size (Obj.mapSeq (· ++ vs.toArray))).push (seqObj "list" vs.toArray 0)).objs.size<=kS->s.heap.objs.size+2<=kS:=fun kS q=>by rw [hsz2] at q;exact q
  refine zh2 (J:=fun kS ks s'=>J (s.heap.objs.size+1) kS ks s') (s:={ s with heap:=((s.heap.push (seqObj "list" #[] 0)).update s.heap.objs.size (Obj.mapSeq (· ++ vs.toArray))).push (seqObj "list" vs.toArray 0) }) hoL h64 O
   (fun kS hk=>SJ _ kS #[0] (by have:=key kS hk;omega)) (fun kS h' hk hge=>h0 _ kS h' (fun b o q=>hk b o (Yaf (WaO (YaX q))) (keep b o q)) #[0] (by have:=key kS hge;omega))
   fun kS ks s' p c hge j hl' ok so g=>⟨_,rfl,wpAny_pure ⟨_,rfl,h _ kS ks s' p c #[0] (by have:=key kS hge;omega) j hl' ok so g⟩⟩
end
end L3
namespace L2
open PySem PySem.Spec PyProof.Rows
def JU(X:Cx)(N:List Str)(qual:Str)(scope:Scope)(f:Addr)(cd:Value)(cl:List (Str×Addr))(A:Around)(s:Shared)(H:Hp):Cx where
 prog:=X.prog
 w:=X.w
 K:=X.K
 mg:=X.mg
 base:=X.base
 A:=A.deeper (PySem.W.envX qual scope s.heap.objs.size f cd cl)
 N:=N
 s₀:=s
 H₀:=H
 env:=PySem.W.envX qual scope s.heap.objs.size f cd cl
 outer:=X.stack
 stack:=PySem.W.envX qual scope s.heap.objs.size f cd cl::X.stack
 ex:=[]
 calm:=true
 fn:=fun _=>false
 pn:=[]
 xe:=fun _ _=>False
structure LamSc(sc:Scope)(x y:Str):Prop where
 kind:sc.kind=.function
 co:sc.isCoroutine=false
 gen:sc.isGenerator=false
 nocell:∀ z∈sc.names,z.2≠.cell
 par:sc.names.lookup x=some .local
 cap:sc.names.lookup y=some .free
 only:∀ z,sc.names.lookup z=some .free->z=y
theorem LamSc.of{sc:Scope}{x y:Str}(only:(sc.names.all fun p=>(p.2 != .free||p.1==y)&&p.2 != .cell)=true)(kind:sc.kind=.function)(co:sc.isCoroutine=false)(gen:sc.isGenerator=false)(par:sc.names.lookup x=some .local)(cap:sc.names.lookup y=some .free)(_:True):LamSc sc x y where
 kind:=kind
 co:=co
 gen:=gen
 nocell:=fun z hz e=>by
  have:=Wa6.mp only z hz;rw [e] at this
  simp at this
 par:=par
 cap:=cap
 only:=fun z hz=>by
  have:=Wa6.mp only _ (WaB hz)
  simp at this
  exact this
theorem zek{α β : Type}[BEq α][LawfulBEq α]{l:List (α×β)}{a:α}{b:β}(h:l.lookup a=some b):(a,b)∈l:=by
 induction l with
 | nil=>cases h
 | cons p r ih=>
  obtain⟨c,d⟩:=p;rw [List.lookup_cons] at h;cases e:a==c with
  | true=>rw [e] at h;cases h;rw [eq_of_beq e];exact .head _
  | false=>rw [e] at h;exact .tail _ (ih h)
section
variable{X:Cx}{pins:List (Addr×Obj)}{σ : St}{H:Hp}{s:Shared}{x y qual:Str}{sc:Scope}{f c:Addr}{cd:Value}{A:Around}{u tu:Value}{v tv:V}
theorem zjP(S:LamSc sc x y)(hxy:x≠y)(I:Inv X pins σ H s)(hA:A.frames=some X.stack)(hh:A.handled=none)(ru:RelV v u)(rt:RelV tv tu)(hc:s.heap.IsCell c (some tu))(hcf:H c=none){h₁ : Heap}{tk:Nat}
 (hns:h₁.Ns s.heap.objs.size fun z=>[(x,u)].reverse.lookup z) (hk:∀ b o,s.heap.get? b=some o->h₁.get? b=some o) :
 Inv (JU X [x,y] qual sc f cd [(y,c)] A s H) [] [some v,some tv] H { s with heap:=h₁,toks:=tk }:=by
 have hcs:c<s.heap.objs.size:=by obtain⟨o,e,_⟩:=hc;exact YaX e
 have hc1:h₁.IsCell c (some tu):=by obtain⟨o,e,d⟩:=hc;exact⟨o,hk _ _ e,d⟩
 have lk:∀ z c',([(y,c)]:List (Str×Addr)).lookup z=some c'->z=y/\c'=c:=fun z c' e=>by
  have:=zek e
  simp at this
  exact this
 have noA:∀ b:Addr,b∉(JU X [x,y] qual sc f cd [(y,c)] A s H).ex:=fun b z=>absurd (show b∈([]:List Addr) from z) (by simp)
 refine⟨⟨I.ok.mod,S.kind,rfl,rfl,YaY _,fun a b d h1 h2=>?_,fun a ha=>?_,fun a d hf _=>absurd (show false=true from hf) (by simp),fun _=>hh,Around.frames_deeper hA,.inr ⟨rfl,rfl⟩,fun b z=>absurd z (noA b),I.bs,Ya5 I.ok.bsz I.sz,fun b _ _=>noA b,fun b z=>absurd z (noA b),I.stack,I.stkFree⟩,
  rfl,I.bare,Un.kept hk,⟨_,hns,fun i z w h1 h2 h3=>?_⟩,fun a d h=>?_,I.hok.fresh (YaY _),fun a d h=>?_,fun p hp=>absurd (show p∈([]:List (Addr×Obj)) from hp) (by simp),I.hok.kept hk,rfl⟩
 . rw [(lk _ _ h1).1,(lk _ _ h2).1]
 . have ha:sc.names.lookup a=some .cell\/sc.names.lookup a=some .free:=ha
   rcases ha with ha|ha
   . exact absurd rfl (S.nocell _ (zek ha))
   . rw [S.only a ha];exact⟨c,by show List.lookup y [(y,c)]=_;simp⟩
 . have h1:([x,y]:List Str)[i]?=some z:=h1
   match i,h1,h2 with
   | 0,h1,h2=>
    cases h1;cases h2
    exact⟨u,ru,.inl ⟨S.par,by simp⟩⟩
   | 1,h1,h2=>
    cases h1;cases h2
    exact⟨tu,rt,.inr ⟨.inr S.cap,c,by show List.lookup y [(y,c)]=_;simp,hc1⟩⟩
   | i+2,h1,h2=>simp at h1
 . have:=(lk _ _ h).2;rw [this];exact⟨_,hc1⟩
 . have:=(lk _ _ h).2;rw [this];exact hcf
theorem zg8(S:LamSc sc x y)(hxy:x≠y)(I:Inv X pins σ H s)(hA:A.frames=some X.stack)(hh:A.handled=none)(hroom:A.depth<recursionLimit)(ru:RelV v u)(rt:RelV tv tu)(hc:s.heap.IsCell c (some tu))(hcf:H c=none)
 {params:Arguments} {body:Expr} {name:Str} {pm ctv:Value} {cd':Addr} {t:TE} {Q:VK}
 (hf:s.heap.get? f=some (PySem.W.kla_obj name qual params body sc [(y,c)] pm cd' ctv)) (hcd:s.heap.CodeRec (.ref cd') qual)
 (hbind:bindArgs (PySem.W.kla_fn name qual params body sc [(y,c)] pm (.ref cd') ctv) ⟨[u],[]⟩=pure [(x,u)])
 (hb:PE (JU X [x,y] qual sc f (.ref cd') [(y,c)] A s H) body t) (ht:t [some v,some tv] H Q) :
 wpAny (model X.prog X.w) A (call (.ref f) [u]) (fun r s'=>∃ v' H',Inv X pins σ H' s'/\Un (frs X.stack) [] H H' s.heap s'.heap/\RelV v' r/\Q v' H') (fun _ _=>False) s:=by
 refine wpAny_call (PySem.W.kla_callFunE hroom hf rfl S.co S.gen rfl hcd ?_)
 rw [hbind];refine wpAny_pure (wpAny_newFunctionEnv S.nocell (fun z hz=>?_) (fun h₁ hns hsb=>⟨I.nolimit.fresh _ hsb,?_⟩) S.kind)
 . obtain rfl:z=(x,u):=Ya6.mp hz
   exact S.par
 show codeAny _ _ (.expr body (PySem.W.envX qual sc s.heap.objs.size f (.ref cd') [(y,c)])) _ _
 have hk₁ : ∀ b o,s.heap.get? b=some o->h₁.get? b=some o:=fun b o e=>hsb.extBut b o (Yaf (YaX e)) (YaW _ e)
 have I1:=zjP (cd:=.ref cd') (f:=f) (qual:=qual) (tk:=s.toks+[(x,u)].length) S hxy I hA hh ru rt hc hcf hns hk₁;refine PySem.W.kla_codeExpr (wpAny_mono (hb [] _ _ H Q I1 ht) (fun r s' hr=>?_) fun _ _ z=>z.elim)
 obtain⟨v',H',I2,r',q⟩:=hr;exact⟨v',H',I.call' I2.os I2.base I2.hok I2.bare (fun b z=>absurd (show b∈([]:List Addr) from z) (by simp)),I2.base,r',q⟩
end
end L2
namespace L3
open PySem PySem.W PySem.Calls PyProof.Rows
abbrev K3:=Int×Int×Int
def lex3(a b:K3):Bool:=decide (a.1<b.1\/a.1=b.1/\(a.2.1<b.2.1\/a.2.1=b.2.1/\a.2.2<b.2.2))
theorem zoh{kk:List K3}(nd:kk.Nodup):Ordr (fun i j=>lex3 (kk.getD i (0,0,0)) (kk.getD j (0,0,0))) kk.length where
 tr:=fun i j k h1 h2=>by
  have h1:=of_decide_eq_true h1;have h2:=of_decide_eq_true h2;exact decide_eq_true #[0]
 as:=fun i j h=>by
  have h:=of_decide_eq_true h;exact decide_eq_false #[0]
 co:=fun i j hi hj ne=>by
  have e1:kk.getD i (0,0,0)=kk[i]:=by rw [YaP,YaQ hi];rfl
  have e2:kk.getD j (0,0,0)=kk[j]:=by rw [YaP,YaQ hj];rfl
  have h:kk[i]≠kk[j]:=fun e=>ne ((Wa3 nd).mp e)
  show decide _=true\/decide _=true
  rw [e1,e2,decide_eq_true_eq,decide_eq_true_eq];generalize kk[i]=a at h;generalize kk[j]=b at h;obtain⟨a1,a2,a3⟩:=a;obtain⟨b1,b2,b3⟩:=b;have h:¬(a1=b1/\a2=b2/\a3=b3):=fun⟨x,y,z⟩=>h (by rw [x,y,z])
  dsimp only
  omega
def zaW(h:Heap)(u:Value)(k:K3):Prop:=∃ a t1 t2 t3,u=.ref a/\IsTup h a #[.int k.1 t1,.int k.2.1 t2,.int k.2.2 t3]
section
variable{prog:Program}{w:World}{A:Around}{s:Shared}
theorem ask3{u u':Value}{k k':K3}{C:Bool->Shared->Prop}(h:zaW s.heap u k)(h':zaW s.heap u' k')(hC:C (lex3 k k') s):wpAny (model prog w) A (keyLt' (tuples' true) u u') C (fun _ _=>False) s:=by
 obtain⟨a,t1,t2,t3,rfl,o,ho,hc,n,hd⟩:=h;obtain⟨b,u1,u2,u3,rfl,o',ho',hc',n',hd'⟩:=h';obtain⟨k1,k2,k3⟩:=k;obtain⟨m1,m2,m3⟩:=k';refine kat_lt ho hd ho' hd' ?_;show KatLex prog w A true _ C [(.int k1 t1,.int m1 u1),(.int k2 t2,.int m2 u2),(.int k3 t3,.int m3 u3)] 0 s;have fin:∀ b:Bool,b=lex3 (k1,k2,k3) (m1,m2,m3)->C b s:=fun b e=>by rw [e];exact hC
 refine kat_cons (wpAny_eqBool_int (kat_go (fun e=>kat_yes ?_) (fun e=>kat_no ?_)))
 . have e1:k1=m1:=eq_of_beq e
   refine kat_cons (wpAny_eqBool_int (kat_go (fun e=>kat_yes ?_) (fun e=>kat_no ?_)))
   . have e2:k2=m2:=eq_of_beq e
     refine kat_cons (wpAny_eqBool_int (kat_go (fun e=>kat_yes (kat_nil ?_)) (fun e=>kat_no ?_)))
     . have e3:k3=m3:=eq_of_beq e
       refine fin _ ?_
       show decide (3<3)=_
       rw [decide_eq_false #[0]]
       exact(decide_eq_false #[0]).symm
     . refine kat_one _ _ (lt_int (fin _ ?_))
       unfold lex3;rw [decide_eq_decide];omega
   . have e2:k2≠m2:=fun z=>by rw [z] at e;simp at e
     refine kat_one _ _ (lt_int (fin _ ?_))
     unfold lex3;rw [decide_eq_decide];omega
 . have e1:k1≠m1:=fun z=>by rw [z] at e;simp at e
   refine oneLt_int (fin _ ?_)
   unfold lex3;rw [decide_eq_decide];omega
def Zo(h:Heap):List Value->List K3->Prop
 | [],[]=>True
 | u::us,k::kk=>zaW h u k/\Zo h us kk
 | _,_=>False
theorem Zo.get{h:Heap}:∀ {us:List Value} {kk:List K3} {i:Nat},Zo h us kk->i<kk.length->zaW h (us.getD i .none) (kk.getD i (0,0,0))
 | [],[],i,_,hi=>by simp at hi
 | [],_::_,_,x,_=>x.elim
 | _::_,[],_,x,_=>x.elim
 | u::us,k::kk,0,x,_=>x.1
 | u :: us, k :: kk, i + 1, x, hi => by
  have:=Zo.get (i:=i) x.2 (by simpa using hi)
  simpa using this
theorem zeL{h:Heap}:∀ {us:List Value} {kk:List K3},Zo h us kk->∃ fs,KatTups h us fs/\fs.length=us.length/\∀ v∈fs,∃ i t,v=Value.int i t
 | [],[],_=>⟨[],trivial,rfl,fun v hv=>by cases hv⟩
 | [],_::_,x=>x.elim
 | _::_,[],x=>x.elim
 | u :: us, k :: kk, x => by
  obtain⟨⟨a,t1,t2,t3,rfl,o,ho,hc,n,hd⟩,x⟩:=x;obtain⟨fs,h1,h2,h3⟩:=zeL x;exact⟨.int k.1 t1::fs,.cons ho hc hd rfl h1,by rw [List.length_cons,List.length_cons,h2],fun v hv=>by
   rcases Wbp.mp hv with z|z
   . exact⟨_,_,z⟩
   . exact h3 v z⟩
theorem zhJ{us:List Value}{kk:List K3}{Q:SortKind->Shared->Prop}{E:Value->Shared->Prop}(h:Zo s.heap us kk)(hn:2<=us.length)(hQ:Q (tuples' true) s):wpAny (model prog w) A (keyKind' us.toArray) Q E s:=by
 obtain⟨fs,h1,h2,h3⟩:=zeL h;refine kat_kind (T:=.type "int") h1 #[0] (fun v hv=>?_) #[1] hQ
 obtain⟨i,t,rfl⟩:=h3 v hv;exact fun A Q E s k q=>wpAny_pure q
end
end L3
namespace L3
open PySem PySem.Spec PyProof.Rows L2
variable[LamW]
def KeyV(K:Ybf)(H:Hp)(u:Value)(k:K3):Prop:=∃ a,u=.ref a/\SqT K H a [.int k.1,.int k.2.1,.int k.2.2]
def z6(K:Ybf)(H:Hp):List Value->List K3->Prop
 | [],[]=>True
 | u::us,k::kk=>KeyV K H u k/\z6 K H us kk
 | _,_=>False
theorem KeyV.same{K:Ybf}{H H':Hp}{u:Value}{k:K3}(h:KeyV K H u k)(e:zk H H'):KeyV K H' u k:=let ⟨a,h1,h2⟩:=h;⟨a,h1,e.tup h2⟩
theorem z6.same{K:Ybf}{H H':Hp}(e:zk H H'):∀ {us:List Value} {kk:List K3},z6 K H us kk->z6 K H' us kk
 | [],[],_=>trivial
 | [],_::_,x=>x.elim
 | _::_,[],x=>x.elim
 | _::_,_::_,x=>⟨x.1.same e,z6.same e x.2⟩
theorem z6.snoc{K:Ybf}{H:Hp}{u:Value}{k:K3}(h:KeyV K H u k):∀ {us:List Value} {kk:List K3},z6 K H us kk->z6 K H (us++[u]) (kk++[k])
 | [],[],_=>⟨h,trivial⟩
 | [],_::_,x=>x.elim
 | _::_,[],x=>x.elim
 | _::_,_::_,x=>⟨x.1,z6.snoc h x.2⟩
theorem z6.len{K:Ybf}{H:Hp}:∀ {us:List Value} {kk:List K3},z6 K H us kk->us.length=kk.length
 | [],[],_=>rfl
 | [],_::_,x=>x.elim
 | _::_,[],x=>x.elim
 | _::_,_::_,x=>by rw [List.length_cons,List.length_cons,z6.len x.2]
theorem znl{X:Cx}{pins:List (Addr×Obj)}{σ : L2.St}{H:Hp}{s:Shared}{u:Value}{k:K3}(I:Inv X pins σ H s)(h:KeyV X.K H u k):zaW s.heap u k:=by
 obtain⟨a,rfl,h⟩:=h;obtain⟨its,r,it,_⟩:=I.tuple h;cases r with
 | cons r1 r=>
  cases r with
  | cons r2 r=>
   cases r with
   | cons r3 r=>
    cases r;obtain⟨t1,rfl⟩:=r1
    obtain⟨t2,rfl⟩:=r2;obtain⟨t3,rfl⟩:=r3;exact⟨a,t1,t2,t3,rfl,it⟩
theorem zcW{X:Cx}{pins:List (Addr×Obj)}{σ : L2.St}{H:Hp}{s:Shared}(I:Inv X pins σ H s):∀ {us:List Value} {kk:List K3},z6 X.K H us kk->Zo s.heap us kk
 | [],[],_=>trivial
 | [],_::_,x=>x.elim
 | _::_,[],x=>x.elim
 | _::_,_::_,x=>⟨znl I x.1,zcW I x.2⟩
end L3
namespace L2
open PySem PySem.Spec PyProof.Rows
variable[LamW]
def TabS(b:Bool)(P:Addr)(H:Hp):Prop:=match b with
 | true=>H P=some (tab0 P)
 | false=>Lk P H
def MvS(b:Bool)(P:Addr)(H H1:Hp):Prop:=match b with
 | true=>(∃ c',H c'=none/\H1=upd (upd H P (tabA P c' LamW.pos)) c' (jC c' LamW.q))/\(∀ C,tab0 P≠excO P C)/\∀ q,tab0 P≠jC P q
 | false=>H1=H
theorem TabS.at{b:Bool}{P:Addr}{H:Hp}(h:TabS b P H):∃ o,H P=some o:=by
 cases b with
 | true=>exact⟨_,h⟩
 | false=>
  obtain⟨_,h,_⟩:=h;exact⟨_,h⟩
theorem MvS.x{b:Bool}{P:Addr}{H H1:Hp}(l:TabS b P H)(m:MvS b P H H1):zk H H1:=by
 cases b with
 | true=>
  obtain⟨⟨c',hc,rfl⟩,n⟩:=m;have l:H P=some (tab0 P):=l;have ne:P≠c':=fun z=>by rw [z,hc] at l;cases l
  intro a o e;have na:a≠c':=fun z=>by rw [z,hc] at e;cases e
  by_cases h:a=P
  . subst h
    rw [l] at e;cases e;exact .inr ⟨rfl,n,c',by rw [zg ne,zo],zo⟩
  . exact .inl (by rw [zg na,zg h];exact e)
 | false=>
  cases(show H1=H from m)
  exact zk.refl _
theorem zgM{P:Addr}{h:Heap}(hp:h.get? P=some (PySem.W.tabObj #[])):(∀ C,tab0 P≠excO P C)/\∀ q,tab0 P≠jC P q:=by
 refine⟨fun C z=>?_,fun q z=>?_⟩
 . have e:(fun h:Heap=>h.get? P=some (PySem.W.tabObj #[]))=fun h=>∃ o vs,h.get? P=some o/\o.cls=.ref C/\o.data=.fields vs:=HO.ext.inj z
   have y:=(congrFun e h).mp hp;obtain⟨o,vs,h1,h2,_⟩:=y;rw [hp] at h1;cases h1;cases h2
 . have e:(fun h:Heap=>h.get? P=some (PySem.W.tabObj #[]))=fun h=>h.CodeRec (.ref P) q:=HO.ext.inj z
   have y:=(congrFun e h).mp hp;obtain⟨c2,oc,vs,t,e2,ho,hd,hv⟩:=y;cases e2;rw [hp] at ho;cases ho;cases hd;simp at hv
theorem zgQ{P:Program}{w:World}{H:Hp}{h:Heap}{c':Addr}{q:Str}(r:h.CodeRec (.ref c') q):zK P w H h c' (jC c' q):=by
 obtain⟨c2,oc,vs,t,e,ho,hd,hv⟩:=id r;cases e;exact⟨r,⟨oc,ho⟩,fun h1 h2 ⟨c2,oc,vs,t,e,ho,hd,hv⟩ k=>by cases e;exact⟨_,oc,vs,t,rfl,k _ ho,hd,hv⟩⟩
section
variable{X:Cx}{pins:List (Addr×Obj)}{σ : St}{H:Hp}{s:Shared}{sc:Scope}{A:Around}{b:Bool}
theorem znQ(I:Inv X pins σ H s){P:Addr}{c0:Addr}{params:Arguments}{body:Expr}{pos:Pos}{clos:List (Str×Addr)}(hpos:pos=LamW.pos)(hqn:X.env.qual ++ "<lambda>" = LamW.q){Q:Value->Shared->Prop}{E:Value->Shared->Prop}
 (hP:TabS b P H) (hC:PySem.W.CodeHd X.base c0 P) (hcode:X.env.code=.ref c0) (hB:∃ bm o,X.mg "__builtins__" = some (.ref bm)/\bm≠builtinsNs/\bm≠mainGlobals/\X.base.get? bm=some o/\o.cls=.type "module"/\o.dict=some builtinsNs/\o.data=.plain)
 (hdef:defaultsOf params X.env=([],[])) (hcl:closureFor sc X.env=pure clos)
 (h:∀ f c' ctv s' H1,MvS b P H H1->H1 c'=some (jC c' (X.env.qual ++ "<lambda>"))->s.heap.objs.size<=f->
  Inv X (pins++[(f,PySem.W.kla_obj "<lambda>" (X.env.qual ++ "<lambda>") params body sc clos ((X.mg "__name__").getD .none) c' ctv)]) σ H1 s'->Q (.ref f) s') :
 wpAny (model X.prog X.w) A (eval (.Lambda params body sc pos) X.env) Q E s:=by
 have hPn:∃ o,H P=some o:=hP.at;have ne0:∀ b o,X.base.get? b=some o->b≠P:=fun b o e z=>by
  have:=(I.bs b o e).2;obtain⟨u,hu⟩:=hPn;rw [z,hu] at this;cases this
 have hg:=I.ok.mod.glob.keeps I.bk;have hgP:mainGlobals≠P:=by
  obtain⟨o,es,ep,e,_⟩:=I.ok.mod.glob;exact ne0 _ _ e
 obtain⟨bm,ob,b1,b2,b3,b4,b5⟩:=hB;cases b with
 | true=>
  have hP:H P=some (tab0 P):=hP;obtain⟨hp0,_,_⟩:=I.hok P _ hP;have hp0:s.heap.get? P=some (PySem.W.tabObj #[]):=hp0;refine PySem.W.kla_eval hdef (PySem.W.kla_makeFunction (mg:=X.mg) hcl I.ok.glob hg hcode (hC.keeps I.bk) hp0 trivial rfl hgP ⟨bm,ob,b1,b2,b3,ne0 _ _ b4,I.bk _ _ b4,b5⟩ fun c' ctv h' tk hx hge hlt hrec htb=>?_)
  have hk:∀ (o:Obj) b u,b≠P->s.heap.get? b=some u->(h'.push o).get? b=some u:=fun o b u hb e=>YaW _ (hx b u hb e)
  have hPlt:P<s.heap.objs.size:=YaX hp0;have hsz:s.heap.objs.size<=h'.objs.size:=Wbz (WaF hge hlt);have htb2:∀ o:Obj,(h'.push o).get? P=some (PySem.W.tabObj #[rawInt pos.line,rawInt pos.col,.ref c']):=fun o=>YaW _ (by simpa using htb)
  have I1:Inv X pins σ (upd H P (tabA P c' pos)) { s with heap:=h'.push (PySem.W.kla_obj "<lambda>" (X.env.qual ++ "<lambda>") params body sc clos ((X.mg "__name__").getD .none) c' ctv),toks:=tk }:=
   I.write (by rw [hP];trivial) (.inl rfl) (fun b u hb e=>hk _ b u hb e) ⟨_,htb2 _⟩ ⟨⟨_,htb2 _,by simpa using TriplesOk_snoc pos.line pos.col (.ref c') [] trivial,by simpa using codeAmong_snoc (pos:=pos) (c:=.ref c') [] trivial rfl⟩,⟨_,htb2 _⟩,fun h1 h2 ⟨ps,e,r⟩ k=>⟨ps,k _ e,r⟩⟩
  have hcn:H c'=none:=I.hok.fresh hge;have hcn1:upd H P (tabA P c' pos) c'=none:=by rw [zg (WbA (YaU hPlt hge))];exact hcn
  have I2:=I1.track (o:=jC c' (X.env.qual ++ "<lambda>")) hcn1 (Ya5 I.sz hge) (WbA (YaU I.lt hge)) (fun z c e q=>by
   obtain⟨v,o,ho,_⟩:=I.cell z c e;exact absurd (YaU (YaX ho) hge) (by rw [q];exact Yap _))
   (fun p hp q=>absurd (YaU (YaX (I.pin p hp).1) hge) (by rw [q];exact Yap _)) (zgQ (by
    obtain⟨c2,oc,vs,t,e,ho,hd,hv⟩:=hrec;cases e;exact⟨_,oc,vs,t,rfl,YaW _ ho,hd,hv⟩))
  have hfn:upd (upd H P (tabA P c' pos)) c' (jC c' (X.env.qual ++ "<lambda>")) h'.objs.size=none:=by
   rw [zg (WbA hlt),zg (WbA (YaU hPlt hsz))];exact I.hok.fresh hsz
  refine h h'.objs.size c' ctv _ _ ⟨⟨c',hcn,by rw [hqn,hpos]⟩,zgM hp0⟩ zo hsz (I2.pins_of fun p hp=>?_)
  rcases Ya3.mp hp with hp|hp
  . exact I2.pin p (Yaa _ hp)
  . obtain rfl:=Ya6.mp hp
    exact⟨Yan _ rfl,hfn,WbA (YaU I.lt hsz),I.nofs hsz,fun v z=>by cases z⟩
 | false=>
  obtain⟨c',hP,hc'⟩:=hP;rw [<-hpos] at hP;rw [<-hqn] at hc';obtain⟨⟨ps,hp0,ht,hf⟩,_,_⟩:=I.hok P _ hP;refine PySem.W.kla_eval hdef (PySem.W.kla_makeFunctionHit (mg:=X.mg) hcl I.ok.glob hg hcode (hC.keeps I.bk) hp0 ht hf ⟨bm,ob,b1,b2,b3,ne0 _ _ b4,I.bk _ _ b4,b5⟩ fun ctv h' tk hk hsz=>?_)
  have I1:Inv X pins σ H { s with heap:=h'.push (PySem.W.kla_obj "<lambda>" (X.env.qual ++ "<lambda>") params body sc clos ((X.mg "__name__").getD .none) c' ctv),toks:=tk }:=I.kept (t':=tk) fun b o e=>YaW _ (hk b o e)
  refine h h'.objs.size c' ctv _ H rfl hc' hsz (I1.pins_of fun p hp=>?_)
  rcases Ya3.mp hp with hp|hp
  . exact I1.pin p (Yaa _ hp)
  . obtain rfl:=Ya6.mp hp
    exact⟨Yan _ rfl,I.hok.fresh hsz,WbA (YaU I.lt hsz),I.nofs hsz,fun v z=>by cases z⟩
end
end L2
namespace L3
open PySem PySem.Spec PyProof.Rows L2
variable[LamW]
theorem Rf.h0{K:Ybf}{H0 H1 G:Hp}{f:Bool}{v:V}{d:D}(r:Rf K H0 G f v d)(h:∀ a o,G a=some o->H0 a=none->H1 a=none):Rf K H1 G f v d:=⟨r.rd,fun z=>jk (Same.refl _) h (r.nw z)⟩
theorem Rfs.h0{K:Ybf}{H0 H1 G:Hp}{f:Bool}{v:List V}{d:List D}(r:Rfs K H0 G f v d)(h:∀ a o,G a=some o->H0 a=none->H1 a=none):Rfs K H1 G f v d:=⟨r.rd,fun z=>rdns_mono (Same.refl _) h (r.nw z)⟩
def kd3(k:K3):D:=.tuple [.int k.1,.int k.2.1,.int k.2.2]
theorem zew{K:Ybf}{G:Hp}{xs:List V}{ds:List D}(r:RdVs K G xs ds):∀ {p:List Nat},(∀ i∈p,i<ds.length)->RdVs K G (p.map fun i=>xs.getD i V.non) (p.map fun i=>ds.getD i PyData.none)
 | [],_=>.nil
 | i :: p, h => by
  have hi:=h i YaV;obtain⟨x,h1,h2⟩:=r.get (YaQ hi);refine .cons ?_ (zew r fun j hj=>h j (YaT _ hj))
  show RdV K G (xs.getD i V.non) (ds.getD i PyData.none)
  rw [YaP,YaP,h1,YaQ hi];exact h2
theorem zcY{xs:List V}{us:List Value}(r:Vals xs us):∀ {p:List Nat},(∀ i∈p,i<us.length)->Vals (p.map fun i=>xs.getD i V.non) (p.map fun i=>us.getD i Value.none)
 | [],_=>.nil
 | i :: p, h => by
  have hi:=h i YaV;have hi':i<xs.length:=by rw [r.length];exact hi
  obtain⟨u,h1,h2⟩:=r.get (YaQ hi');refine .cons ?_ (zcY r fun j hj=>h j (YaT _ hj))
  show RelV (xs.getD i V.non) (us.getD i Value.none)
  rw [YaP,YaP,h1,YaQ hi'];exact h2
theorem zeE{α : Type}{p:Array Nat}{ds:List α}(o:α)(h:OkP ds.length p):(p.toList.map fun i=>ds.getD i o).Perm ds:=by
 have h1:=h.map fun i=>ds.getD i o
 have h2:((List.range ds.length).map fun i=>ds.getD i o)=ds:=by
  refine List.ext_getElem (by simp) fun i h1 h2=>?_
  rw [List.getElem_map,List.getElem_range,YaP,YaQ h2]
  rfl
 rw [h2] at h1;exact h1
theorem zk7{α : Type}{p:Array Nat}{ds:List α}(o:α)(key:α->K3)(h:OkP ds.length p)(s:SoP (fun i j=>lex3 ((ds.map key).getD i (0,0,0)) ((ds.map key).getD j (0,0,0))) p ds.length):(p.toList.map fun i=>ds.getD i o).Pairwise fun a b=>lex3 (key a) (key b)=true:=by
 rw [WaW,Wai];intro i j hi hj hij;have hs:=h.size;have hi':i<p.size:=by simpa using hi
 have hj':j<p.size:=by simpa using hj
 have:lex3 ((ds.map key).getD (gp p i) (0,0,0)) ((ds.map key).getD (gp p j) (0,0,0))=true:=s i j hij #[0]
 have e:∀ k (hk:k<p.size),gp p k=p.toList[k]'(by simpa using hk):=fun k hk=>by simp [gp,Array.getD,hk]
 rw [e i hi',e j hj'] at this;have b:∀ k (hk:k<p.size),p.toList[k]'(by simpa using hk)<ds.length:=fun k hk=>by rw [<-e k hk];exact h.below #[0]
 have f:∀ m,m<ds.length->(ds.map key).getD m (0,0,0)=key (ds.getD m o):=fun m hm=>by simp [YaP,hm]
 rw [f _ (b i hi'),f _ (b j hj')] at this;exact this
def BMod(mg:Str->Option Value)(base:Heap):Prop:=∃ bm o,mg "__builtins__" = some (.ref bm)/\bm≠builtinsNs/\bm≠mainGlobals/\base.get? bm=some o/\o.cls=.type "module"/\o.dict=some builtinsNs/\o.data=.plain
structure LamIn(X:Cx)(P c0 cy:Addr)(x y:Str)(it:Nat)(params:Arguments)(body:Expr)(sc:Scope):Prop where
 S:LamSc sc x y
 ne:x≠y
 ix:X.N[it]?=some y
 kd:X.env.kindOf y=some .cell
 lk:X.env.cells.lookup y=some cy
 hd:PySem.W.CodeHd X.base c0 P
 code:X.env.code=.ref c0
 bm:BMod X.mg X.base
 defs:defaultsOf params X.env=([],[])
 clos:closureFor sc X.env=pure [(y,cy)]
 bind:∀ pm cd ctv u,bindArgs (PySem.W.kla_fn "<lambda>" (X.env.qual ++ "<lambda>") params body sc [(y,cy)] pm cd ctv) ⟨[u],[]⟩=pure [(x,u)]
def znB(K:Ybf)(H0:Hp)(N:List Str)(iw it:Nat)(tb:TE3):TE:=fun σ H Q=>∃ G0 ρ G,Fr3 K H0 G0 ρ σ G H/\∃ (f:Bool) (ds:List D) (T:Int) (key:D->K3),
 ρ[iw]?=some (some (.sh f (.list ds)))/\ρ[it]?=some (#[5,T])/\ds.length<1000/\(∀ d∈ds,tb (ja N [d,.int T]) fun c=>∃ f,c=.sh f (kd3 (key d)))/\(ds.map key).Nodup/\
 ∀ ds':List D,ds'.Perm ds->ds'.Pairwise (fun a b=>lex3 (key a) (key b)=true)->∀ l vs H',H' l=none->zk H H'->RdVs K G vs ds'->Q (.ref l) (upd H' l (.lst vs))
section
variable{X:Cx}{H0:Hp}{P c0 cy:Addr}{x y wn xn:Str}{i iw it k:Nat}{sc:Scope}{params:Arguments}{body:Expr}{tb:TE3}{np wp kp lp cpos pos pos':Pos}
theorem zmi(tu:TabU P H0)(hpos:lp=LamW.pos)(hqn:X.env.qual ++ "<lambda>" = LamW.q)(hw:X.N[iw]?=some wn)(hwv:Vis X.env.scope wn)(hwd:(wn==("__debug__" : Str))=false)(hwc:(wn==("__classdict__" : Str))=false)(L:LamIn X P c0 cy x y it params body sc)(hr:Room (k+3) X.A)
 (hb:∀ f cd' s H',Room k (JU X [x,y] (X.env.qual ++ "<lambda>") sc f cd' [(y,cy)] X.A.in1.in1 s H').A->PE3 (JU X [x,y] (X.env.qual ++ "<lambda>") sc f cd' [(y,cy)] X.A.in1.in1 s H') H' body tb)
 (hg:Gl X "sorted") (hm:X.mg "sorted" = none):PE X (.Call (.Name "sorted" np) [.Name wn wp] [⟨some "key", .Lambda params body sc lp,kp⟩] cpos) (znB X.K H0 [x,y] iw it tb):=by
 intro pins s σ H Q I hyp;obtain⟨G0,ρ,G,F,f,ds,T,key,hw',ht',h64,hkey,hnd,cont⟩:=hyp;obtain⟨wv,hwσ,ww⟩:=F.slot iw _ hw';obtain⟨tv,htσ,tw⟩:=F.slot it _ ht';obtain rfl:tv=.int T:=by
  cases tw with
  | sh r=>cases r.rd;rfl
 obtain⟨l,xs,rfl,hq,rs⟩:∃ l xs,wv=.ref l/\SqL X.K G l xs/\RdVs X.K G xs ds:=by
  cases ww with
  | sh r=>
   have rd:=r.rd;cases rd with
   | lst q rs=>exact⟨_,_,rfl,q,rs⟩
 obtain⟨b,hPH⟩:∃ b,TabS b P H:=(tu.same F.keep).elim (fun h=>⟨true,h⟩) fun h=>⟨false,h⟩
 refine wpAny_Call_Name_kw (jW I hg hm (show bootBuiltins "sorted" = some (.builtin "sorted") by rfl) ?_)
 refine callWith_kw ?_
 refine thn ((jv (jJ hw hwv hwd hwc) jD) cpos pins s σ H (fun vs H1=>vs=[.ref l]/\H1=H) I ⟨_,hwσ,rfl,rfl⟩) fun us s1 h1=>?_
 obtain⟨vs,H1,I1,rv,e1,e2⟩:=h1;subst e1 e2;obtain rfl:us=[.ref l]:=by
  cases rv with
  | cons a b=>cases b;cases a;rfl
 show wpAny _ _ (evalAll [do let v <-eval (.Lambda params body sc lp) X.env;standAt cpos;pure v]) _ _ s1
 refine wpAny_evalAll_cons (wpAny_bind (znQ I1 hpos hqn hPH L.hd L.code L.bm L.defs L.clos fun fa c' ctv s2 HM mv hcH hf I2=>wpAny_bind (wpAny_standAt (wpAny_pure (wpAny_evalAll_nil ?_)))))
 show wpAny _ _ (call (.builtin "sorted") [.ref l] [(Str.ofString "key", .ref fa)]) _ _ s2
 have mx:zk H1 HM:=MvS.x hPH mv;have sG:Sub G HM:=F.sub.trans mx;obtain⟨its,rV,hpl,hz⟩:=I2.list (sG.seq hq);have hl1:its.length=ds.length:=by rw [<-rV.length,rs.length]
 have hlk:its.length=(ds.map key).length:=by rw [YaR,hl1]
 have nw:∀ b:Addr,s2.heap.objs.size<=b->X.s₀.heap.objs.size<=b/\b≠X.env.locals/\(∀ z c,X.env.cells.lookup z=some c->c≠b)/\(∀ p∈X.pn++(pins++[(fa,PySem.W.kla_obj "<lambda>" (X.env.qual ++ "<lambda>") params body sc [(y,cy)] ((X.mg "__name__").getD .none) c' ctv)]),p.1≠b)/\b∉frs X.stack:=fun b hb=>by
  refine⟨Ya5 I2.sz hb,WbA (YaU I2.lt hb),fun z c e=>?_,fun p hp=>?_,fun z=>?_⟩
  . obtain⟨v,o,ho,_⟩:=I2.cell z c e
    exact Yaf (YaU (YaX ho) hb)
  . exact Yaf (YaU (YaX (I2.pin p hp).1) hb)
  . rcases Wbp.mp (I2.stkSub b z) with q|q
    . exact WbA (YaU I2.lt hb) q
    . exact I2.nofs hb q
 refine zh3 (lt:=fun i j=>lex3 ((ds.map key).getD i (0,0,0)) ((ds.map key).getD j (0,0,0))) (vs:=its) (kf:=fa)
  (J:=fun D kS ks s'=>∃ H',Inv X (pins++[(fa,PySem.W.kla_obj "<lambda>" (X.env.qual ++ "<lambda>") params body sc [(y,cy)] ((X.mg "__name__").getD .none) c' ctv)]) σ H' s'/\zk HM H'/\z6 X.K H' ks ((ds.map key).take ks.length)/\H' D=none/\H' kS=none)
  hpl.isList #[0] (by rw [hlk];exact zoh hnd) (fun D kS hD hlt=>?_) (fun D kS h' hk hD hlt=>?_) (fun D kS ks s' p c hD hlt hJ hl ok so ho=>?_)
 . have hkS:s2.heap.objs.size<=kS:=Ya5 hD (Wbz hlt)
   refine⟨fun ks s' h' b hJ hb sb=>?_,fun ks v r s' hdrop hJ hoD hoK=>?_,fun ks s' Q hJ hl h2 hQ=>?_,fun ks s' i j C hJ hl hi hj hC=>?_⟩
   . obtain⟨H',I',sm,kv,n1,n2⟩:=hJ
     have hbb:H' b=none/\s2.heap.objs.size<=b:=by
      rcases hb with rfl|rfl
      . exact⟨n1,hD⟩
      . exact⟨n2,hkS⟩
     obtain⟨w1,w2,w3,w4,_⟩:=nw b hbb.2;exact⟨H',I'.turned (t':=s'.toks) (fun c o ne e=>(sb.2 c ne).trans e) hbb.1 w2 (.inr w1) w3 w4,sm,kv,n1,n2⟩
   . obtain⟨H',I',sm,kv,n1,n2⟩:=hJ
     obtain⟨oD,eD⟩:=hoD;obtain⟨oK,eK⟩:=hoK;have hv:its[ks.length]?=some v:=by
      have:=List.getElem?_drop (xs:=its) (i:=ks.length) (j:=0);rw [hdrop] at this
      simpa using this.symm
     have hn:ks.length<ds.length:=by rw [<-hl1];exact(Ya8.mp hv).1
     obtain⟨xv,hxv,rxv⟩:=rs.get (YaQ hn);obtain⟨u,hu,ru⟩:=rV.get hxv;obtain rfl:u=v:=Wbe (hu.symm.trans hv);obtain⟨m,hns,hloc⟩:=id I'.loc;obtain⟨tu,rt,lk⟩:=hloc it y (.int T) L.ix htσ (.inr (.inl L.kd));have hcell:s'.heap.IsCell cy (some tu):=by
      rcases lk with ⟨z,_⟩|⟨_,c,hc,z⟩
      . rw [L.kd] at z;cases z
      . rw [L.lk] at hc;cases hc;exact z
     have hfo:=(I'.pin (fa,PySem.W.kla_obj "<lambda>" (X.env.qual ++ "<lambda>") params body sc [(y,cy)] ((X.mg "__name__").getD .none) c' ctv) (by simp)).1
     have hco:s'.heap.CodeRec (.ref c') (X.env.qual ++ "<lambda>"):=(I'.hok c' _ (sm.code hcH)).1;have hrm:Room (k+1) X.A.in1.in1:=hr.in1.in1;have pb:=hb fa (.ref c') s' H' (hrm.deeper _);refine wpAny_mono (zg8 (A:=X.A.in1.in1) (Q:=fun v' H''=>zk H' H''/\∃ a,v'=.ref a/\SqT X.K H'' a [.int (key ds[ks.length]).1,.int (key ds[ks.length]).2.1,.int (key ds[ks.length]).2.2]) L.S L.ne I' I'.ok.frames hrm.hd hrm.depth ru rt hcell (I'.freeC y cy L.lk) hfo hco (L.bind _ _ _ _) pb.ok
      ⟨G,ja [x,y] [ds[ks.length],.int T],G,zcD (N:=[x,y]) (sG.trans sm) (.cons rxv (.cons (.int T) .nil)),pb.mono _ _ _ (fun cc hcc v' G' H'' g w=>?_) (hkey _ (Ya4 hn))⟩) (fun r s'' hr'=>?_) fun _ _ z=>z
     . obtain⟨fl,rfl⟩:=hcc
       refine⟨g.h,?_⟩
       cases w with
       | sh r'=>
        have rd:=r'.rd;unfold kd3 at rd;cases rd with
        | tup q rr=>
         cases rr with
         | cons a rr=>
          cases a;cases rr with
          | cons a rr=>
           cases a;cases rr with
           | cons a rr=>cases a;cases rr;exact⟨_,rfl,g.sub.tup q⟩
     . obtain⟨v',H'',I'',un,rv',hS,a,rfl,sq⟩:=hr'
       obtain rfl:r=.ref a:=rv';refine⟨⟨H'',I'',sm.trans hS,?_,un.free D oD eD n1 (by simp),un.free kS oK eK n2 (by simp)⟩,(un.keep D oD eD n1 (nw D hD).2.2.2.2 (by simp)).trans eD.symm,(un.keep kS oK eK n2 (nw kS hkS).2.2.2.2 (by simp)).trans eK.symm⟩
       rw [YaS,List.length_singleton,WaS,Ya0,YaQ hn];exact z6.snoc ⟨a,rfl,sq⟩ (kv.same hS)
   . obtain⟨H',I',sm,kv,n1,n2⟩:=hJ
     exact zhJ (zcW I' kv) #[0] hQ
   . obtain⟨H',I',sm,kv,n1,n2⟩:=hJ
     rw [hl,hlk,YaH] at kv;have ka:=zcW I' kv;exact ask3 (ka.get #[0]) (ka.get #[0]) hC
 . exact⟨_,I2.kept (t':=s2.toks) hk,zk.refl _,trivial,I2.hok.fresh hD,I2.hok.fresh (Ya5 hD (Wbz hlt))⟩
 . obtain⟨H',I',sm,kv,n1,n2⟩:=hJ
   obtain⟨w1,w2,w3,w4,_⟩:=nw D hD;have hb1:∀ j∈p.toList,j<its.length:=fun j hj=>Yba.mp (ok.mem_iff.mp hj)
   have hsz:(p.toList.map fun i=>xs.getD i V.non).length<=sizeLine:=by
    rw [YaR,Array.length_toList,ok.size,sizeLine_eq];omega
   have I3:=I'.track (o:=.lst (p.toList.map fun i=>xs.getD i V.non)) n1 w1 w2 w3 w4 ⟨hsz,_,c,zcY rV hb1,ho⟩
   rw [hl1] at ok so;exact⟨.ref D,_,I3.unpinned,rfl,cont _ (zeE PyData.none ok) (zk7 PyData.none key ok so) D _ H' n1 (mx.trans sm) (zew rs fun j hj=>by rw [<-hl1];exact hb1 j hj)⟩
end
def zaT(N:List Str)(i iw it:Nat)(tb:TE3):TS3:=fun A ρ=>atV ρ[iw]? fun c=>asL c fun _ ds=>atV ρ[it]? fun c=>asI c fun T=>ds.length<1000/\∃ key:D->K3,(∀ d∈ds,tb (ja N [d,.int T]) fun c=>∃ f,c=.sh f (kd3 (key d)))/\(ds.map key).Nodup/\
 ∀ ds':List D,ds'.Perm ds->ds'.Pairwise (fun a b=>lex3 (key a) (key b)=true)->A.nx (ρ.set i (some (.ow false ds')))
section
variable{X:Cx}{H0:Hp}{P c0 cy:Addr}{x y wn xn:Str}{i iw it k:Nat}{sc:Scope}{params:Arguments}{body:Expr}{tb:TE3}{np wp kp lp cpos pos pos':Pos}
theorem zlc(tu:TabU P H0)(hpos:lp=LamW.pos)(hqn:X.env.qual ++ "<lambda>" = LamW.q)(hN:X.N.Nodup)(hi:X.N[i]?=some xn)(hx:Loc X.env.scope xn)(hw:X.N[iw]?=some wn)(hwv:Vis X.env.scope wn)(L:LamIn X P c0 cy x y it params body sc)(hr:Room (k+3) X.A)
 (hb:∀ f cd' s H',Room k (JU X [x,y] (X.env.qual ++ "<lambda>") sc f cd' [(y,cy)] X.A.in1.in1 s H').A->PE3 (JU X [x,y] (X.env.qual ++ "<lambda>") sc f cd' [(y,cy)] X.A.in1.in1 s H') H' body tb)
 (hg:Gl X "sorted") (hm:X.mg "sorted" = none) (hwd:(wn==("__debug__" : Str))=false:=by decide) (hwc:(wn==("__classdict__" : Str))=false:=by decide)
 (hs:swapsWith (.Call (.Name "sorted" np) [.Name wn wp] [⟨some "key", .Lambda params body sc lp,kp⟩] cpos) (some (.Name xn pos')) pos.line X.env=pure false:=by rfl)
 (hf:X.fn xn=true\/X.env.scope.names.lookup xn=some .local:=by first|exact .inl rfl|exact .inr rfl|assumption) :
 PS3 X H0 (.Assign [.Name xn pos'] (.Call (.Name "sorted" np) [.Name wn wp] [⟨some "key", .Lambda params body sc lp,kp⟩] cpos) pos) (zaT [x,y] i iw it tb):=
 PS.imp (JH hN hi hx (zmi (H0:=H0) tu hpos hqn hw hwv hwd hwc L hr hb hg hm) hs hf) fun B σ H=>el7 fun G0 A ρ G F q L'=>by
  obtain⟨c,e1,q⟩:=zby q;obtain⟨f,ds,rfl,q⟩:=zcs q;obtain⟨c,e2,q⟩:=zby q;obtain⟨T,rfl,h64,key,hk,nd,q⟩:=za1 q;refine⟨G0,ρ,G,F,f,ds,T,key,e1,e2,h64,hk,nd,fun ds' hp' hs' l vs H' hl sm r=>?_⟩
  have F2:Fr3 X.K H0 G0 ρ σ G H':=F.gr ⟨Same.refl _,sm,F.sub.trans sm,fun _ _ e=>.inl e⟩
  exact L'.nx _ _ G _ (F2.own (f:=false) ⟨r,fun z=>by cases z⟩ hl) (q ds' hp' hs')
end
def spU(P:Addr)(K:Ybf)(sp:Sp3):Sp:=fun vs H Q E=>TabU P H/\spL K sp vs H Q E
structure DfU(tb:Addr)(P:Program)(w:World)(K:Ybf)(mg:Str->Option Value)(base:Heap)(k:Nat)(x:Str)(ps:List Str)(sp:Sp3):Prop where
 mono:∀ ds (Q Q':Bool->D->Prop) (E E':Addr->Prop),(∀ f d,Q f d->Q' f d)->(∀ d,E d->E' d)->sp ds Q E->sp ds Q' E'
 ok:Df P w K mg base k x ps (spU tb K sp)
theorem fnU{P:Program}{w:World}{K:Ybf}{mg:Str->Option Value}{base:Heap}{x qual:Str}{st:Stmt}{f tb:Addr}{fd:FuncData}{N ps:List Str}{k:Nat}{sp:Sp3}{cv:Value->Prop}(F:Fun K x qual st f fd)(hcv:cv fd.code)(S:FnScope N ps (ze st))(len:∀ ds Q E,sp ds Q E->ds.length=ps.length)
 (hbody:∀ (cdv:Value) (A:Around) (outer:List Env) (s:Shared) (H:Hp) (E:XK) (E3:Addr->Prop),cv cdv->TabU tb H->(∀ C H',E3 C->zk H H'->E (.ref C) none H')->Room k (A.deeper (envOfC qual (ze st) s.heap.objs.size f cdv))->
  ∃ t,PSs3 (cxOf (CXR P w) P w K mg base N qual (ze st) f cdv A outer s H E) H (zp st) t/\∀ ds Q,sp ds Q E3->t { nx:=fun _=>Q true .none,rt:=Q } (ja N ds)):FnOk P w K mg base (CXR P w) (k+1) f fd ps (spU tb K sp):=by
 obtain⟨oc,od,kV,doc,pm,an,cdv,ct,osl,rfl,lk,hcd⟩:=F.ex;have hcv:cv cdv:=hcv;refine zcE lk hcd S (fun vs H Q E h=>?_) (fun A outer s H vs Q E hr h=>?_)
 . obtain⟨_,G,ds,_,r,h⟩:=h
   rw [r.length];exact len _ _ _ h
 . obtain⟨tu,G,ds,sG,r,h⟩:=h
   obtain⟨t,ht,hq⟩:=hbody cdv A outer s H E (fun C=>∀ H',zk H H'->E (.ref C) none H') hcv tu (fun C H' e z=>e H' z) hr
   exact⟨_,ht,G,_,ja N ds,G,zcD sG r,hq ds _ h,⟨fun ρ σ G' H' F' q=>q .non G' H' F'.gr0 (.sc rfl .non),fun f d v G' H' g rd q=>q v G' H' g rd,fun _ _ _ _ _ q=>q.elim,fun _ _ _ _ _ q=>q.elim⟩⟩
end L3
namespace PySem
open Sem (wp)
open AutoSeq1 (wpAny_loadPart')
set_option maxHeartbeats 2000000 in
theorem zi9(l:Addr)(t:Tok)(items:Array Value)(n:Nat)(dct:Option Addr)(sl:Array (Option Value)) :
 Meets (Builtin.«enumerate.__new__» ⟨[.type "enumerate", .ref l],[(Str.ofString "start", .int 1 t)]⟩) (fun _ R s=>s.heap.get? l=some { cls:=.type "list", dict:=dct,data:=.seq items n,slots:=sl }/\
  R (.ok (.ret (.ref (s.heap.push { cls:=.type "list_iterator", data:=.fields #[.ref l,.int 0 0] }).objs.size)))
   { s with heap:=(s.heap.push { cls:=.type "list_iterator", data:=.fields #[.ref l,.int 0 0] }).push { cls:=.type "enumerate", data:=.fields #[.none,.bool false,.ref s.heap.objs.size,rawInt 1,.none,.none] } }):=
 .of_wp fun prog w A R s h=>by
  obtain⟨hp,g,d,tk,os⟩:=s;obtain⟨hl,h⟩:=h;have hsub:=sub_enumerate;have hL:Heap.IsList (Shared.heap ⟨hp,g,d,tk,os⟩) l items:=⟨_,hl,rfl,n,rfl⟩
  wp_walk using wpAny_loadPart' hl
  refine wpAny_stack_any fun st=>wpAny_pure ?_
  split
  . rename_i c _ _ _ _ _
    cases(c==Value.type "enumerate")
    . wp_walk using wpAny_loadPart' hl,wpAny_pyIter_list hL
      exact⟨_,rfl,h⟩
    . wp_walk using wpAny_loadPart' hl,wpAny_pyIter_list hL
      exact⟨_,rfl,h⟩
  . wp_walk using wpAny_loadPart' hl,wpAny_pyIter_list hL
    exact⟨_,rfl,h⟩
section
variable{prog:Program}{w:World}{A:Around}{E:Value->Shared->Prop}{s:Shared}
theorem zkq{T newId initId:String}{Bn Bi:Builtin}{args:List Value}{kw:List (Str×Value)}{S:Spec}{Q Q₁ : Value->Shared->Prop}(ft:TypeCalled T newId initId)
 (hct:checkTypeCall T ⟨args,kw⟩=pure ()) (hcn:checkBuiltinCall newId ⟨.type T::args,kw⟩=pure ())
 (entryN:entryFor table newId=some Bn) (entryI:entryFor table initId=some Bi) (g:Meets (Bn ⟨.type T::args,kw⟩) S)
 (h:S A.in1 (wants Q₁ E) s)
 (hnext:∀ obj s₁,Q₁ obj s₁->s₁.TypeIs obj T/\argsOk initId ⟨obj::args,kw⟩/\∃ Si,Meets (Bi ⟨obj::args,kw⟩) Si/\Si A.in1 (wants (fun r s₂=>r=.none/\Q obj s₂) E) s₁) :
 wpAny (model prog w) A (call (.type T) args kw) Q E s:=by
 obtain⟨c,tl,hmro⟩:=ft.mro;have hmade:=ft.made;have hsub:=ft.sub;refine wpAny_call (codeAny_of_tree ?_);show wpAny _ _ (callAny (.type T) _) _ _ _;refine wpAny_pure ⟨Code.quiet_builtin _ #[3],codeAny_builtin F.entry_type_call ?_⟩
 rw [Around.under_plain (weight_type_call_type T args kw) (units_type_call_type T args kw)];have h1:=ft.notType;have h2:=ft.canCreate
 repeat (any_goals (first|assumption|wp_step))
 refine codeAny_mono (codeAny_call_builtin ft.plain entryN (wpAny_of_eq hcn (g prog w A.in1 _ s h))) fun r s₁ hr=>?_
 cases r with
 | error e=>exact hr
 | ok fl=>
  cases fl with
  | ret obj=>
   obtain⟨hT,hok,Si,gi,hsi⟩:=hnext _ _ hr;have hli:=ft.init.lookup;have hbi:=ft.init.bind obj
   repeat (any_goals (first|assumption|wp_step))
   refine codeAny_mono (codeAny_call_builtin ft.init.plain entryI (ft.init.check _ _ _ _ _ _ _ _ hT hok (gi prog w A.in1 _ s₁ hsi))) fun r₂ s₂ hr₂=>?_
   cases r₂ with
   | error e=>exact hr₂
   | ok fl₂=>
    cases fl₂ with
    | ret r=>
     obtain⟨rfl,hq⟩:=hr₂
     repeat (any_goals (first|assumption|wp_step))
    | _=>exact hr₂.elim
  | _=>exact hr.elim
theorem zkQ{T newId:String}{self a:Value}{rest:List Value}{kw:List (Str×Value)}(hl:typeLookup (.type T) "__init__" = pure (some (.builtin "object.__init__")))
 (hm:Bind.madeBy (.type T)=pure (some newId)) (hne:(some newId != some "object.__new__")=true) :
 Meets (Builtin.«object.__init__» ⟨self::a::rest,kw⟩) (fun _ R s=>s.TypeIs self T/\R (.ok (.ret .none)) s):=by
 refine Meets.of_wp fun prog w A R s hs=>?_
 obtain⟨hT,hq⟩:=hs
 repeat (any_goals (first|assumption|wp_step))
 exact⟨_,rfl,hq⟩
theorem zh8(a v:Value):checkTypeCall "enumerate" ⟨[a],[(Str.ofString "start", v)]⟩=pure ():=by kernel_rfl
theorem zhS(a v:Value):checkBuiltinCall "enumerate.__new__" ⟨[.type "enumerate", a],[(Str.ofString "start", v)]⟩=pure ():=by kernel_rfl
theorem zjs(obj a v:Value):argsOk "object.__init__" ⟨[obj,a],[(Str.ofString "start", v)]⟩:=by unfold argsOk;kernel_rfl
theorem zmE{l:Addr}{items:Array Value}{t:Tok}{Q:Value->Shared->Prop}(hL:s.heap.IsList l items)
 (h:∀ h',IsEnum h' (s.heap.objs.size+1) s.heap.objs.size 1 .none->h'.IsListIter s.heap.objs.size l 0->h'.objs.size=s.heap.objs.size+2->
  (∀ b o,s.heap.get? b=some o->h'.get? b=some o)->Q (.ref (s.heap.objs.size+1)) { s with heap:=h' }) :
 wpAny (model prog w) A (call (.type "enumerate") [.ref l] [(Str.ofString "start", .int 1 t)]) Q E s:=by
 obtain⟨⟨c,dct,dt,sl⟩,hl,hc,n,hd⟩:=hL
 replace hc:c=.type "list":=hc
 replace hd:dt=.seq items n:=hd
 subst hc hd;refine zkq F.called_enumerate (zh8 _ _) (zhS _ _) F.entry_enumerate_new F.entry_object_init (zi9 l t items n dct sl) (Q₁:=fun obj s₁=>s₁.TypeIs obj "enumerate"/\Q obj s₁) ⟨hl,?_⟩
  fun obj _ hq=>⟨hq.1,zjs obj _ _,_,zkQ F.called_enumerate.init.lookup F.called_enumerate.made #[1],hq.1,rfl,hq.2⟩
 have hz:(s.heap.push { cls:=.type "list_iterator", data:=.fields #[.ref l,.int 0 0] }).objs.size=s.heap.objs.size+1:=Wbm ..;show _/\_;rw [hz];have he:IsEnum ((s.heap.push { cls:=.type "list_iterator", data:=.fields #[.ref l,.int 0 0] }).push
  { cls:=.type "enumerate", data:=.fields #[.none,.bool false,.ref s.heap.objs.size,rawInt 1,.none,.none] }) (s.heap.objs.size+1) s.heap.objs.size 1 .none:=by
  have:=Yan (s.heap.push { cls:=.type "list_iterator", data:=.fields #[.ref l,.int 0 0] })
   (o:={ cls:=.type "enumerate", data:=.fields #[.none,.bool false,.ref s.heap.objs.size,rawInt 1,.none,.none] }) rfl
  rw [hz] at this;exact this
 refine⟨⟨_,he,rfl⟩,h _ he ⟨_,YaW _ (Yan _ rfl),rfl,rfl⟩ (by rw [Wbm,hz]) fun b o x=>YaW _ (YaW _ x)⟩
theorem zgZ{pos:Pos}{T:String}{env:Env}{e:Expr}{rest:List Expr}{kws:List Keyword}{M:Model}{Q:Value->Shared->Prop}
 (h:wpAny M A (spliced (backTo pos (starEach (e::rest) env))) (fun vs s₁=>wpAny M A (evalAll ((backToKw pos (keywordEach kws env)).map (·.2)))
  (fun kvs s₂=>wpAny M A (call (.type T) vs (((backToKw pos (keywordEach kws env)).filterMap (·.1)).zip kvs)) Q E s₂) E s₁) E s)
 (he:backTo pos (starEach (e::rest) env)=(false,eval e env)::backTo pos (starEach rest env):=by rfl)
 (hplain:(backTo pos (starEach (e::rest) env)).any (·.1)=false:=by rfl)
 (hall:(backToKw pos (keywordEach kws env)).all (·.1.isSome)=true:=by rfl)
 (hkw:(backToKw pos (keywordEach kws env)).any (·.1.isNone)=false:=by rfl) :
 wpAny M A (callWith pos (.type T) [] (backTo pos (starEach (e::rest) env)) (backToKw pos (keywordEach kws env))) Q E s:=by
 unfold callWith;rw [he] at h;refine wpAny_bind (wpAny_holding (wpAny_mono (?_:wpAny M A (evalArgs (.type T) true _ _) (fun a s₁=>wpAny M A (call (.type T) ([]++a.pos) a.kw) Q E s₁) E s) (fun a s₁ h₁=>wpAny_bind (wpAny_standAt ?_)) fun _ _ x=>x))
 . rw [he];exact PyProof.Rows.evalArgs_kwB hall h
 simp only [hplain,hkw,Wbq];refine wpAny_bind (wpAny_pure ?_);exact wpAny_bind (wpAny_mono h₁ (fun r s₂ hr=>wpAny_bind (wpAny_holding (wpAny_point (wpAny_pure hr)))) fun _ _ x=>x)
end
theorem Draws.shift{prog:Program}{w:World}{A:Around}{it:Addr}{fp:List Addr}{n:Nat}{P:Nat->Value->Prop}{St:Nat->Heap->Prop}(D:Draws prog w A it fp n P St):Draws prog w A it fp (n+1) (fun i x=>P (i - 1) x) (fun i h=>1<=i/\St (i - 1) h) where
 live:=fun i h st=>D.live _ h st.2
 frame:=fun i h h' st k=>⟨st.1,D.frame _ h h' st.2 k⟩
 item:=fun i s Q E hi st hQ=>D.item (i - 1) s Q E (by have:=st.1;omega) st.2 fun x h' tk hp st' sb=>hQ x h' tk hp ⟨#[0],(show i - 1+1=i+1 - 1 by have:=st.1;omega) ▸ st'⟩ sb
 done:=fun s Q E st hE=>D.done s Q E st.2 hE
end PySem
namespace L2
open PySem PySem.Spec PyProof.Rows
def Ite1(K:Ybf)(a:Addr):It:=
 ⟨fun i H=>∃ xs x,SqL K H a xs/\xs[i]?=some x,
  fun i H v H'=>∃ p x,H p=none/\v=.ref p/\H'=upd H p (.tup [.int ((i+1:Nat):Int),x])/\∀ xs,SqL K H a xs->xs[i]?=some x,
  fun i H=>∃ xs,SqL K H a xs/\i=xs.length⟩
theorem zih{P:Program}{w:World}{K:Ybf}{elts:List Expr}{k:Nat}{pos:Pos}{e it l:Addr}(hei:e≠it)(hle:l≠e)(hli:l≠it) :
 Turn P w K (.Tuple elts k pos) (Ite1 K l) [e,it] e (fun i h=>(∃ old,IsEnum h e it ((i+1:Nat):Int) old)/\h.IsListIter it l i) where
 mem:=by simp
 obj:=fun i h hyp c hc=>by
  obtain⟨⟨old,he⟩,⟨o1,e1,c1,d1⟩⟩:=hyp;have hc':c=e\/c=it:=by simpa using hc
  rcases hc' with rfl|rfl
  . exact⟨_,he,fun v z=>by cases(show Data.fields _=Data.cell v from z)⟩
  . exact⟨o1,e1,fun v z=>by rw [d1] at z;cases z⟩
 keep:=fun i h h' ⟨⟨old,he⟩,h1⟩ kk=>⟨⟨old,kk e (by simp) _ he⟩,h1.at fun o e=>kk it (by simp) o e⟩
 item:=by
  intro X hP hw hK hc i pins s σ H E I hf st hg;subst hP hw hK;obtain⟨xs,x,q1,hx⟩:=hg;obtain⟨its1,r1,p1,_⟩:=I.list q1;obtain⟨u,hu,ru⟩:=r1.get hx;have W:=WalksT.enumerateD (prog:=X.prog) (w:=X.w) (A:=X.A) (Draws.list (A:=X.A.in1) (I.ok.hd hc) it l hli its1.toArray).shift e hei (by simp [hei,WbM hle]) (by simp)
  have hi:i<its1.toArray.size:=by
   have a1:=(Ya8.mp hu).1;simp only [YaZ];omega
  obtain⟨he,h1⟩:=st;have olt:∀ b∈[e,it],b<s.heap.objs.size:=fun b hb=>by
   obtain⟨old,he'⟩:=he;have hc':b=e\/b=it:=by simpa using hb
   rcases hc' with rfl|rfl
   . exact YaX he'
   . obtain⟨_,e,_⟩:=h1;exact YaX e
  refine W.item (i+1) s _ _ #[0] ⟨he,#[0],h1,p1.isList⟩ fun T vals h1' tk hv' hT hTup mid kp=>?_
  obtain⟨t',u',hu',e'⟩:=hv';subst e';have eu:u'=u:=by
   have:its1[i]?=some u':=by simpa using hu'
   rw [hu] at this;cases this;rfl
  subst eu;refine⟨_,rfl,W.go elts k pos (i+1) T _ _ _ mid fun h2' st2 kp2=>?_⟩
  have I1:Inv X pins σ H { s with heap:=h2',toks:=tk }:=I.turnedL (ch:=[e,it]) (fun b o hb e=>kp2 b o hb (kp b o hb e)) fun b hb=>hf b hb
  have hTn:H T=none:=I.hok.fresh hT;obtain⟨o,ho,oc,on,od⟩:=hTup;have ho2:=kp2 T o (W.apart (i+1) T _ mid) ho;have I2:Inv X pins σ (upd H T (.tup [.int ((i+1:Nat):Int),x])) { s with heap:=h2',toks:=tk }:=I1.track hTn (Ya5 I.sz hT) (WbA (YaU I.lt hT)) (fun n c e z=>by
   obtain⟨vv,q⟩:=I.cell n c e;exact absurd (YaU q.lt (by rw [z];exact hT)) (Yap _)) (fun p hp z=>absurd (YaU (YaX (I.pin p hp).1) (by rw [z];exact hT)) (Yap _))
   ⟨by show 2<=sizeLine;decide,[.int ((i+1:Nat):Int) t',u'],.cons ⟨t',rfl⟩ (.cons ru .nil),o,ho2,oc,on,od⟩
  refine⟨.ref T,_,I2,rfl,⟨T,x,hTn,rfl,rfl,fun xs' z1=>?_⟩,⟨st2.1,st2.2.2.1⟩,fun b hb=>?_⟩
  . rw [I.list_inj z1 q1];exact hx
  . rw [zg (Yaf (YaU (olt b hb) hT))];exact(hf b hb).1
 done:=by
  intro X hP hw hK hc i pins s σ H E I hf st hg;subst hP hw hK;obtain⟨xs,q1,hi⟩:=hg;obtain⟨its1,r1,p1,_⟩:=I.list q1;have W:=WalksT.enumerateD (prog:=X.prog) (w:=X.w) (A:=X.A) (Draws.list (A:=X.A.in1) (I.ok.hd hc) it l hli its1.toArray).shift e hei (by simp [hei,WbM hle]) (by simp)
  obtain⟨he,h1⟩:=st;have ei:i=its1.toArray.size:=by simp only [YaZ];rw [<-r1.length];exact hi
  subst ei;refine W.done s _ _ ⟨he,#[0],h1,p1.isList⟩ fun h' tk kp=>⟨rfl,?_⟩
  exact I.turnedL (ch:=[e,it]) kp fun b hb=>hf b hb
 self:=fun _ _ _ _ _ st h=>by obtain⟨⟨old,he⟩,_⟩:=st;exact wpAny_pyIter_enum he h
def zlv(K:Ybf)(ta:TA):TI:=fun σ H R=>ta σ H fun vs H1=>∃ a,vs=[.ref a]/\(∃ xs,SqL K H1 a xs)/\R (Ite1 K a) H1
theorem zj4{X:Cx}{elts:List Expr}{k j:Nat}{tpos:Pos}{a:Expr}{ta:TA}{p pos cp kp:Pos}(hg:Gl X "enumerate")(hm:X.mg "enumerate" = none)(ha:PA X [a] ta)(hs:starEach [a] X.env=[(false,eval a X.env)]:=by rfl):PI X (.Tuple elts k tpos) (.Call (.Name "enumerate" p) [a] [⟨some "start", .Constant (.int 1) j cp,kp⟩] pos) (zlv X.K ta):=by
 intro pins s σ H R I h;refine wpAny_Call_Name_kw (jW I hg hm zfB ?_);refine zgZ (thn (ha pos pins s σ H _ I h) fun us s1 h1=>?_) (by rw [hs];rfl) (by rw [hs];rfl)
 obtain⟨vs,H1,I1,r1,l1,e,⟨xs,hx⟩,q⟩:=h1;subst e;obtain⟨u,rfl,ru⟩:=j9 r1;cases(show u=Value.ref l1 from ru)
 show wpAny _ _ (evalAll [do let v <-eval (.Constant (.int 1) j cp) X.env;standAt pos;pure v]) _ _ s1
 refine wpAny_evalAll_cons (wpAny_bind (wpAny_Constant_int (wpAny_bind (wpAny_standAt (wpAny_pure (wpAny_evalAll_nil ?_))))))
 show wpAny _ _ (call (.type "enumerate") [.ref l1] [(Str.ofString "start", .int 1 s1.toks)]) _ _ { s1 with toks:=s1.toks+1 }
 have I1:=I1.tok (s1.toks+1);obtain⟨its1,_,p1,_⟩:=I1.list hx;have lt1:l1<s1.heap.objs.size:=by obtain⟨o,e,_⟩:=p1.isList;exact YaX e
 refine zmE p1.isList fun h' he hi1 hsz kp=>wpAny_pyIter_enum he ?_
 have I2:Inv X pins σ H1 { s1 with heap:=h',toks:=s1.toks+1 }:=I1.kept (t':=s1.toks+1) kp
 refine⟨_,[s1.heap.objs.size+1,s1.heap.objs.size],_,Ite1 X.K l1,H1,rfl,I2,zih (Nat.succ_ne_self _) (Yaf (WaO lt1)) (Yaf lt1),⟨⟨_,he⟩,hi1⟩,fun b hb=>?_,q⟩
 have hb':s1.heap.objs.size<=b:=by
  have hc':b=s1.heap.objs.size+1\/b=s1.heap.objs.size:=by simpa using hb
  rcases hc' with rfl|rfl<;>omega
 have f:=I1.fpOk (H':=H1) hb' (I1.hok.fresh hb');exact⟨f.1,f.2.1,f.2.2.1,f.2.2.2.1,f.2.2.2.2.1,f.2.2.2.2.2⟩
end L2
namespace L3
open PySem PySem.Spec PyProof.Rows L2
variable[LamW]
section
variable{X:Cx}{H0:Hp}{pos p:Pos}
def JK(ds:List D):List D:=(List.range ds.length).map fun i=>.tuple [.int ((i+1:Nat):Int),ds.getD i .none]
theorem zmG(ds:List D):(JK ds).length=ds.length:=by unfold JK;simp
theorem zia{ds:List D}{i:Nat}{d:D}(h:(JK ds)[i]?=some d):∃ a,d=.tuple [.int ((i+1:Nat):Int),a]/\ds[i]?=some a:=by
 unfold JK at h;rw [Ya0] at h
 by_cases hi:i<ds.length
 . rw [Yax hi] at h
   cases h;exact⟨ds[i],by simp [hi],YaQ hi⟩
 . rw [Waw #[6]] at h;cases h
def itE1(t:TA3):TI3:=fun ρ Q=>t ρ fun cs=>∃ f as,cs=[.sh f (.list as)]/\Q f (JK as)
theorem zj9{K:Ybf}{H0 G:Hp}{a:Addr}{xs:List V}{f:Bool}{as:List D}(h1:SqL K G a xs)(r1:Rfs K H0 G f xs as):ItOk K H0 (Ite1 K a) f (JK as) G where
 go:=fun i d G' H hd s1 s2=>by
  obtain⟨q,rfl,hq⟩:=zia hd;obtain⟨x,hx,rx⟩:=r1.get hq;have ss:=s1.trans s2.s;refine⟨⟨xs,x,ss.seq h1,hx⟩,fun v H' ⟨l,x',hl,e1,e2,hh⟩=>?_⟩
  subst e1 e2;have z1:=hh xs (ss.seq h1);rw [hx] at z1;cases z1;have gl:=zO (s2.free hl) (.tup [.int ((i+1:Nat):Int),x]);exact⟨upd G' l (.tup [.int ((i+1:Nat):Int),x]),Gr.put s2 hl,⟨.tup (SqT.of zo) (.cons (.int _) (.cons (JG (s1.trans gl) rx.rd) .nil)),fun hf=>
   .tup (SqT.of zo) (.cons (.int _) (.cons (jk (s1.trans gl) (fun _ _ _ z=>z) (rx.nw hf)) .nil))⟩⟩
 stop:=fun i G' H hl s1 s2=>⟨xs,(s1.trans s2.s).seq h1,by rw [hl,zmG,r1.length]⟩
theorem zmN{elts:List Expr}{k j:Nat}{tpos:Pos}{a:Expr}{t:TA3}{cp kp:Pos}(hg:Gl X "enumerate")(hm:X.mg "enumerate" = none)(ha:PA3 X H0 [a] t)(hs:starEach [a] X.env=[(false,eval a X.env)]:=by rfl):PI3 X H0 (.Tuple elts k tpos) (.Call (.Name "enumerate" p) [a] [⟨some "start", .Constant (.int 1) j cp,kp⟩] pos) (itE1 t):=
 ⟨fun ρ Q Q' h q=>ha.mono ρ _ _ (fun cs ⟨f,as,e,q⟩=>⟨f,as,e,h _ _ q⟩) q,PI.imp (zj4 hg hm ha.ok hs) fun σ H R=>el5 fun G0 ρ G F q=>⟨G0,ρ,G,F,ha.mono ρ _ _ (fun cs hyp vs G1 H1 g1 w=>by
  obtain⟨f,as,e,k⟩:=hyp;subst e;obtain⟨v,rfl,w1⟩:=vws1 w;obtain⟨a,xs,rfl,hq,rs⟩:=JO (zj w1);exact⟨a,rfl,⟨xs,g1.sub.seq hq⟩,k _ G1 H1 g1 (zj9 hq rs)⟩) q⟩⟩
def slT3(te:TE3)(tl th:TO3):TE3:=fun ρ Q=>te ρ fun c=>tl ρ fun l=>th ρ fun u=>asS c fun f d=>asT d fun ds=>¬(HT.sIx ds.length 0 l=0/\HT.sIx ds.length ds.length u=ds.length)/\Q (.sh (f||ds.all zt) (.tuple (cut ds l u)))
theorem zdi{e:Expr}{lo hi:Option Expr}{te:TE3}{tl th:TO3}{p2:Pos}(he:PE3 X H0 e te)(hl:PO3 X H0 lo tl)(hh:PO3 X H0 hi th):PE3 X H0 (.Subscript e (.Slice lo hi none p2) pos) (slT3 te tl th):=by
 refine⟨fun ρ Q Q' h q=>he.mono ρ _ _ (fun c=>hl.mono ρ _ _ fun l=>hh.mono ρ _ _ fun u q=>?_) q,PE.imp (zlV zhP he.ok hl.ok hh.ok) fun σ H Q=>el5 fun G0 ρ G F q=>?_⟩
 . obtain⟨f,d,rfl,q⟩:=jf q
   obtain⟨ds,rfl,z,q⟩:=j8 q;exact⟨z,h _ q⟩
 . refine⟨G0,ρ,G,F,he.mono ρ _ _ (fun c qc v G1 H1 g1 w1=>⟨G0,ρ,G1,F.gr g1,hl.mono ρ _ _ (fun l ql G2 H2 g2=>⟨G0,ρ,G2,F.gr (g1.trans g2),hh.mono ρ _ _ (fun u qu G3 H3 g3=>?_) ql⟩) qc⟩) q⟩
   have w3:=(w1.gr g2).gr g3;have gg:=(g1.trans g2).trans g3;obtain⟨f,d,rfl,q⟩:=jf qu;obtain⟨ds,rfl,z,q⟩:=j8 q;obtain⟨a,xs,rfl,hq,rs⟩:=Zj (zj w3);refine⟨a,xs,rfl,g3.sub.tup hq,by rw [rs.length];exact z,fun p hp=>q (.ref p) (upd G3 p (.tup (cutV xs l u))) _ (gg.trans (Gr.put g3.sub hp)) ?_⟩
   have r:=zmx rs.or l u;exact .sh ⟨.tup (SqT.of zo) (rdvs_same (zO (g3.sub.free hp) _) r.rd),fun hf=>.tup (SqT.of zo) (rdns_mono (zO (g3.sub.free hp) _) (fun _ _ _ z=>z) (r.nw hf))⟩
end
end L3
namespace PySem
open AutoSeq1 (wpAny_loadPart')
open SeqAt (EqAt)
open PySem.Calls
end PySem
namespace L2
open PySem PySem.Spec PyProof.Rows
section
variable{X:Cx}{o e:Expr}{to:TE}{t:TA}{pos apos:Pos}
end
end L2
namespace L3
open PySem PySem.Spec PyProof.Rows L2
variable[LamW]
section
variable{X:Cx}{H0:Hp}{e:Expr}{pos p:Pos}
end
variable[LamW]
section
variable{K:Ybf}{H0 G0 G G' H:Hp}{ρ : Env3}{σ : L2.St}
end
section
variable{X:Cx}{H0:Hp}{e:Expr}
end
end L3
namespace L2
open PySem PySem.Spec PyProof.Rows
section
variable{X:Cx}
end
end L2
namespace L3
open PySem PySem.Spec PyProof.Rows L2
variable[LamW]
section
variable{X:Cx}{H0:Hp}{e a b:Expr}{pos:Pos}
theorem Rfs.rep{K:Ybf}{H0 G:Hp}{f:Bool}{vs:List V}{ds:List D}(r:Rfs K H0 G f vs ds)(n:Nat):Rfs K H0 G f (List.replicate n vs).flatten (List.replicate n ds).flatten:=by
 induction n with
 | zero=>exact Rfs.nil
 | succ n ih=>
  rw [List.replicate_succ,List.replicate_succ,List.flatten_cons,List.flatten_cons];have:=Rfs.append r ih;rwa [Wbt] at this
end
variable[LamW]
section
variable{X:Cx}{H0:Hp}{tb:Addr}{k:Nat}{x:Str}{ps:List Str}{sp:Sp3}{t:TA3}{e:Expr}{es:List Expr}{p pos pos':Pos}
theorem dfU{E:XK}{E3:Addr->Prop}(tu:TabU tb H0)(hE:∀ C H',E3 C->zk H0 H'->E (.ref C) none H')(Gd:DfU tb X.prog X.w X.K X.mg X.base k x ps sp)(hr:Room k X.A)(hg:Gl X x)(hx:Passes (CXR X.prog X.w) X E)(ha:PA3 X H0 (e::es) t)(hdb:(x==("__debug__" : Str))=false:=by decide)
 (he:starEach (e::es) X.env=(false,eval e X.env)::starEach es X.env:=by rfl) (hpl:(backTo pos (starEach es X.env)).any (·.1)=false:=by rfl):PE3 X H0 (.Call (.Name x p) (e::es) [] pos) (ZJ sp E3 t):=by
 refine⟨fun ρ Q Q' h q=>ha.mono ρ _ _ (fun cs ⟨hd,q⟩=>⟨hd,Gd.mono _ _ _ _ _ (fun f d ⟨a,b⟩=>⟨a,h _ b⟩) (fun _ z=>z) q⟩) q,PE.imp (zcv Gd.ok hr hg hx ha.ok hdb he hpl) fun σ H Q=>el5 fun G0 ρ G F q=>⟨G0,ρ,G,F,ha.mono ρ _ _ (fun cs ⟨hd,qc⟩ vs G1 H1 g1 w=>?_) q⟩⟩
 show spU tb X.K sp (vs++[]) H1 Q E
 rw [Yao];refine⟨tu.same (F.gr g1).keep,?_⟩;have kE:∀ C,E3 C->∀ H',zk H1 H'->E (.ref C) none H':=fun C c H' s=>hE C H' c ((F.gr g1).keep.trans s)
 cases hs:shs cs with
 | some ds=>
  refine⟨G1,cs.map Cl.d,g1.sub,by rw [zch hs];exact(w.shs hs).rd,Gd.mono _ _ _ _ _ (fun f d ⟨_,k⟩ v G' H' g r=>k v G' H' (g1.trans g) (.sh ⟨r.rd,fun hf=>jk (Same.refl _) (fun _ _ _ z=>(F.gr g1).keep.free z) (r.nw hf)⟩)) kE qc⟩
 | none=>
  refine⟨cln H1,cs.map Cl.d,zdw H1,rdvs_cln (w.rds g1.sub hd),Gd.mono _ _ _ _ _ (fun f d ⟨s,k⟩ v G' H' g r=>?_) kE qc⟩
  have sc:zt d=true:=s.resolve_left (by rw [hs];simp)
  exact k v G1 H' (g1.trans ⟨Same.refl _,g.h,g1.sub.trans g.h,fun _ _ e=>.inl e⟩) (.sh (.sc sc (zbM sc r.rd)))
theorem dfRU{E:XK}{E3:Addr->Prop}(tu:TabU tb H0)(hE:∀ C H',E3 C->zk H0 H'->E (.ref C) none H')(Gd:DfU tb X.prog X.w X.K X.mg X.base k x ps sp)(hr:Room k X.A)(hg:Gl X x)(hx:Passes (CXR X.prog X.w) X E)(ha:PA3 X H0 (e::es) t)(hdb:(x==("__debug__" : Str))=false:=by decide)
 (he:starEach (e::es) X.env=(false,eval e X.env)::starEach es X.env:=by rfl) (hpl:(backTo pos (starEach es X.env)).any (·.1)=false:=by rfl):PR3 X H0 (.Call (.Name x p) (e::es) [] pos) (zaJ sp E3 t):=by
 refine⟨fun ρ Q Q' h q=>ha.mono ρ _ _ (fun cs ⟨p,hd,q⟩=>⟨p,hd,Gd.mono _ _ _ _ _ (fun f d ⟨a,b⟩=>⟨a,h _ b⟩) (fun _ z=>z) q⟩) q,PE.imp (zcv Gd.ok hr hg hx ha.ok hdb he hpl) fun σ H Q=>el5 fun G0 ρ G F q=>⟨G0,ρ,G,F,ha.mono ρ _ _ (fun cs ⟨p,hs,qc⟩ vs G1 H1 g1 w=>?_) q⟩⟩
 show spU tb X.K sp (vs++[]) H1 Q E
 rw [Yao];have kE:∀ C,E3 C->∀ H',zk H1 H'->E (.ref C) none H':=fun C c H' s=>hE C H' c ((F.gr g1).keep.trans s)
 exact⟨tu.same (F.gr g1).keep,G1,p.2,g1.sub,(w.shs hs).rd,Gd.mono _ _ _ _ _ (fun f d ⟨hf,k⟩ v G' H' g r=>k v G1 H1 G' H' g1 g (r.nw hf)) kE qc⟩
end
theorem zhr{p:Program}{loose:List Str}{mean:ExcName->Option Value}{mg mb:Str->Option Value}{h:Heap}(T:Top p loose mean mg mb h):BMod mg h:=by
 obtain⟨bm,ob,b1,b2,b3,b4,b5,b6⟩:=T.bmain;refine⟨bm,ob,b1,b2,fun q=>?_,b3,b4,b5,b6⟩
 obtain⟨o,es,ep,e,hd,_⟩:=T.g;rw [q,e] at b3;cases b3;rw [hd] at b6;cases b6
theorem zf8{K:Ybf}{x:Str}{f c0 tb:Addr}{oc oc':Value}{od od':Option Addr}{fd:FuncData}{sl sl':Array (Option Value)}{vs:Array Value}(a:PySem.W.nsIn K mainGlobals x=some (some (.ref f)))(l:K.lookup f=some ⟨oc,od,.func fd,sl⟩)(hc:fd.code=.ref c0)
 (q1:K.lookup c0=some ⟨oc',od',.fields vs,sl'⟩) (q2:vs[11]?=some (.ref tb)):PySem.W.tabIn K x=some (c0,tb):=by
 unfold PySem.W.tabIn;rw [a];dsimp only;rw [l];dsimp only;rw [hc];dsimp only;rw [q1];dsimp only;rw [q2]
theorem zm1{P:Program}{w:World}{K:Ybf}{mg mb:Str->Option Value}{k:Nat}{fa a c0 tb:Addr}{fd:FuncData}{x:Str}{sp:Sp3}{s₁ : Shared}{vs:List Value}{ns:List Int}
 (KX:K.In s₁.heap) (hns:s₁.heap.Ns mainGlobals mg) (hb:s₁.heap.Ns builtinsNs mb) (hbb:∀ x:Str,x≠"__name__"->mb x=bootBuiltins x) (hlim:s₁.heap.NoLimit) (hg:s₁.gens = #[])
 (ha:s₁.heap.get? a=some { cls:=.type "list", data:=.seq vs.toArray }) (hi:IntsAre vs ns) (hl:ns.length<=sizeLine) (hr:Room k callerA)
 (ht:s₁.heap.get? tb=some (PySem.W.tabObj #[])) (hcd:PySem.W.CodeHd s₁.heap c0 tb) (hbm:BMod mg s₁.heap) (hKt:K.lookup tb=none)
 (F:∀ base:Heap,K.In base->BMod mg base->FnOk P w K mg base (CXR P w) k fa fd [x] (spU tb K sp)) (hbind:∀ (s:Shared) (u:Value),BindsTo s fd ⟨[u],[]⟩ [(x,u)])
 (hsp:∀ (Q:Bool->D->Prop) (E:Addr->Prop),(∀ f,Q f (.bool true))->sp [.list (ns.map .int)] Q E) :
 codeAny (model P w) callerA (.call (.ref fa) ⟨[.ref a],[]⟩) (fun r s'=>r=.ok (.ret (.bool true))/\OldK s₁.heap s'.heap/\s'.os=s₁.os/\AllBare s'.gens) s₁:=by
 have rv:=zbR hi;have lenV:=hi.length;have hat:a≠tb:=fun e=>by rw [e,ht] at ha;cases ha
 have core:∀ H:Hp,SqL K H a (ns.map V.int)->HOk P w H s₁.heap->(∀ b o,H b=some o->(b=tb/\o=tab0 tb)\/(b=a/\K.lookup a=none/\∃ ob xs,o=.frz ob (.lst xs)))->H tb=some (tab0 tb)->
  codeAny (model P w) callerA (.call (.ref fa) ⟨[.ref a],[]⟩) (fun r s'=>r=.ok (.ret (.bool true))/\OldK s₁.heap s'.heap/\s'.os=s₁.os/\AllBare s'.gens) s₁:=by
  intro H hS hok hO hT;have noD:∀ {b:Addr} {o:Obj},s₁.heap.get? b=some o->(∀ xs n,o.data≠.seq xs n)->o.cls≠.none->H b=none:=fun {b o} e d c=>by
   cases q:H b with
   | none=>rfl
   | some u=>
    rcases hO b u q with ⟨rfl,_⟩|⟨rfl,_⟩
    . rw [ht] at e;cases e;exact absurd rfl c
    . rw [ha] at e;cases e;exact absurd rfl (d _ _)
  have noA:∀ {b:Addr} {o:Obj} {es:Array DictEntry} {ep:Nat},s₁.heap.get? b=some o->o.data=.dict es ep->H b=none:=fun {b o es ep} e d=>by
   cases q:H b with
   | none=>rfl
   | some u=>
    rcases hO b u q with ⟨rfl,_⟩|⟨rfl,_⟩
    . rw [ht] at e;cases e;cases d
    . rw [ha] at e;cases e;cases d
  have base_of:∀ {b:Addr} {o:Obj},s₁.heap.get? b=some o->H b=none->(hidT s₁.heap H).get? b=some o:=fun e n=>zk1 e n
  have nsK:∀ {b:Addr} {m:Str->Option Value},s₁.heap.Ns b m->(hidT s₁.heap H).Ns b m:=fun {b m} ⟨o,es,ep,e,d,r⟩=>⟨o,es,ep,base_of e (noA e d),d,r⟩
  have hKb:K.In (hidT s₁.heap H):=fun b o e=>base_of (KX b o e) (by
   cases q:H b with
   | none=>rfl
   | some u=>
    rcases hO b u q with ⟨rfl,_⟩|⟨rfl,h2,_⟩
    . rw [hKt] at e;cases e
    . rw [h2] at e;cases e)
  have hM:Mod K mg (hidT s₁.heap H):=⟨hKb,nsK hns,⟨mb,nsK hb,hbb⟩,let ⟨mc,h1,h2⟩:=hlim;⟨mc,nsK h1,h2⟩⟩;have hB:BMod mg (hidT s₁.heap H):=by
   obtain⟨bm,o,h1,h2,h3,h4,h5,h6,h7⟩:=hbm;exact⟨bm,o,h1,h2,h3,base_of h4 (noD h4 (fun xs n z=>by rw [h7] at z;cases z) (by rw [h5];nofun)),h5,h6,h7⟩
  have e0:Env0 P w K mg (hidT s₁.heap H) callerA [] s₁ H:=⟨rfl,hM,fun b o e=>zjt e,Nat.le_of_eq (zg1 _ _),trivial,fun b hb=>absurd (show b∈([]:List Addr) from hb) (by simp),hok,.of_eq hg⟩
  have sG0:Same (fun b=>if b=tb then none else H b) H:=fun b o e=>by
   by_cases hb:b=tb
   . have e:(if b=tb then none else H b)=some o:=e
     rw [if_pos hb] at e;cases e
   . have e:(if b=tb then none else H b)=some o:=e
     rw [if_neg hb] at e;exact e
  have sG:Sub (fun b=>if b=tb then none else H b) H:=⟨sG0,fun b f e=>by
   rcases hO b _ (sG0 b _ e) with ⟨z,_⟩|⟨_,_,_,_,z⟩
   . have e:(if b=tb then none else H b)=some (HO.ext f):=e
     rw [if_pos z] at e;cases e
   . cases z⟩
  have hSG:SqL K (fun b=>if b=tb then none else H b) a (ns.map V.int):=by
   rcases hS with (h|⟨o,h⟩)|h
   . exact .inl (.inl ((if_neg hat).trans h))
   . exact .inl (.inr ⟨o,(if_neg hat).trans h⟩)
   . exact .inr h
  refine codeAny_mono ((F _ hKb hB).run callerA [] s₁ H ⟨[.ref a],[]⟩ [.ref a] [.ref a] (fun v H'=>v=.bl true/\TabU tb H') (fun _ _ _=>False) hr e0 (hbind s₁ (.ref a)) (.cons rfl .nil) ⟨.inl hT,fun b=>if b=tb then none else H b,[.list (ns.map .int)],sG,.cons (.lst hSG (zfW ns)) .nil,hsp _ _ fun f v G' H' g r=>⟨zd0 r.rd,(show TabU tb H from .inl hT).same g.h⟩⟩) fun r s' h=>?rs
  cases r with
  | error e=>
   obtain⟨_,_,_,_,_,hf⟩:=h;exact hf.elim
  | ok fl=>
   cases fl with
   | next=>exact False.elim h
   | brk=>exact False.elim h
   | cont=>exact False.elim h
   | ret u=>
    obtain⟨v,H',os,bare,un,hok',r',q⟩:=h;obtain⟨q',hT'⟩:v=.bl true/\TabU tb H':=q;subst q';obtain rfl:u=Value.bool true:=r';have keepB:∀ b o,b≠tb->s₁.heap.get? b=some o->s'.heap.get? b=some o:=fun b o hb e=>by
     cases q:H b with
     | none=>exact un.keep b o e q (by intro z;exact absurd (show b∈([]:List Addr) from z) (by simp)) (by simp)
     | some u=>
      rcases hO b u q with ⟨z,_⟩|⟨_,_,ob,xs,z⟩
      . exact absurd z hb
      . rw [z] at q
        have z2:=un.frzs b ob _ q;obtain⟨e1,_⟩:=hok b _ q;obtain⟨e2,_⟩:=hok' b _ z2;rw [e] at e1;cases e1;exact e2
    obtain⟨ps,ep⟩:∃ ps,s'.heap.get? tb=some (PySem.W.tabObj ps):=by
     rcases hT' with z|⟨c',z,_⟩
     . exact⟨#[],(hok' tb _ z).1⟩
     . obtain⟨⟨ps,ep,_⟩,_,_⟩:=hok' tb _ z
       exact⟨ps,ep⟩
    refine⟨rfl,⟨fun b o e=>?_,fun b o e=>?_⟩,os,bare⟩
    . by_cases hb:b=tb
      . subst hb
        rw [ht] at e;cases e;exact .inr (.inl ⟨(hcd.tab ht).isCodeTable,rfl,#[],ps,rfl,by rw [ep];simp⟩)
      . exact .inl (keepB b o hb e)
    . by_cases hb:b=tb
      . subst hb;exact⟨_,ep⟩
      . exact⟨o,keepB b o hb e⟩
 have tok:∀ (H:Hp),zK P w H s₁.heap tb (tab0 tb):=fun H=>⟨ht,⟨_,ht⟩,fun h1 h2 e k=>k _ e⟩
 cases hk:K.lookup a with
 | some o=>
  have e:=KX a o hk;rw [ha] at e;cases e;refine core (fun b=>if b=tb then some (tab0 tb) else none) (.inr ⟨_,vs.toArray,_,hk,rfl,rfl,rfl,by rw [YaZ,lenV];exact hl,by simpa using rv⟩) (fun b u z=>?_) (fun b o z=>?_) (if_pos rfl)
  . by_cases hb:b=tb
    . have z':=(if_pos hb).symm.trans z
      cases z';subst hb
      exact tok _
    . have z':=(if_neg hb).symm.trans z
      cases z'
  . by_cases hb:b=tb
    . have z':=(if_pos hb).symm.trans z
      cases z';exact .inl ⟨hb,rfl⟩
    . have z':=(if_neg hb).symm.trans z
      cases z'
 | none=>
  refine core (fun b=>if b=tb then some (tab0 tb) else if b=a then some (.frz { cls:=.type "list", data:=.seq vs.toArray } (.lst (ns.map V.int))) else none) (.inl (.inr ⟨{ cls:=.type "list", data:=.seq vs.toArray },(if_neg hat).trans (if_pos rfl)⟩)) (fun b u z=>?_) (fun b o z=>?_) (if_pos rfl)
  . by_cases hb:b=tb
    . have z':=(if_pos hb).symm.trans z
      cases z';subst hb
      exact tok _
    . have z1:=(if_neg hb).symm.trans z
      by_cases hb:b=a
      . have z':=(if_pos hb).symm.trans z1
        cases z';subst hb
        exact⟨ha,by rw [YaR];exact hl,vs,_,rv,ha⟩
      . have z':=(if_neg hb).symm.trans z1
        cases z'
  . by_cases hb:b=tb
    . have z':=(if_pos hb).symm.trans z
      cases z';exact .inl ⟨hb,rfl⟩
    . have z1:=(if_neg hb).symm.trans z
      by_cases hb:b=a
      . have z':=(if_pos hb).symm.trans z1
        cases z';exact .inr ⟨hb,hk,_,_,rfl⟩
      . have z':=(if_neg hb).symm.trans z1
        cases z'
theorem zjg{l:PySem.W.OpenLaw}{n k:Nat}{q:Program}{loose:List Str}{XP:(Str->Option Value)->Heap->Prop}{YP:World->Heap->Prop}{d dd:DefRec}{K:Params->Ybf}{sp:Sp3}{x dn:Str}
 (hn:l.most=some n) (hn2:n<=sizeLine) (hdf:d.params.defaults=[]) (hr:Room k callerA) (hY:∀ (w:World) (h:Heap),YP w h->(K w.params).In h) (hrec:(recsOf q).find? (fun e=>e.name==dn)=some dd)
 (F:∀ (w:World) (mg:Str->Option Value) (fa:Addr) (h:Heap),(K w.params).In h->h.Ns mainGlobals mg->mg d.name=some (.ref fa)->
  ∃ (fd:FuncData) (c0 tb:Addr),(∀ (s:Shared) (u:Value),BindsTo s fd ⟨[u],[]⟩ [(x,u)])/\PySem.W.tabIn (K w.params) dn=some (c0,tb)/\(K w.params).lookup tb=none/\
   ∀ base:Heap,(K w.params).In base->BMod mg base->FnOk l.prog w (K w.params) mg base (CXR l.prog w) k fa fd [x] (spU tb (K w.params) sp))
 (hsp:∀ (ns:List Int),ns.length<=n->∀ (Q:Bool->D->Prop) (E:Addr->Prop),(∀ f,Q f (.bool true))->sp [.list (ns.map .int)] Q E) :
 PySem.W.WalkO q loose XP YP l.row.toRowW d [] (fun f vs=>PySem.call f vs):=by
 refine Att.attach_call hn hdf fun w s₀ s₁ mg mb fa o pm cd doc a vs ns G Y ho hd hcd hmg hobj hints hlen hg=>?_
 have KX:=hY w _ Y;obtain⟨fd,c0,tb,hb,htab,hKt,hF⟩:=F w mg fa _ KX G.T.g hmg;obtain⟨hc,ht⟩:=PySem.W.tab_of G.T KX hrec htab;exact zm1 KX G.T.g G.T.b G.T.builtins G.T.nolimit hg hobj hints (Ya5 hlen hn2) hr ht hc (zhr G.T) hKt hF hb (hsp ns hlen)
end L3
namespace L2
open PySem PySem.Spec PyProof.Rows PySem.W L3
section
variable{prog:Program}{w:World}{A:Around}{E:Value->Shared->Prop}{s:Shared}
theorem zlI{ns:List Int}(nd:ns.Nodup):Ordr (fun i j=>decide (ns.getD i 0<ns.getD j 0)) ns.length where
 tr:=fun i j k h1 h2=>by
  have h1:=of_decide_eq_true h1;have h2:=of_decide_eq_true h2;exact decide_eq_true #[0]
 as:=fun i j h=>by
  have h:=of_decide_eq_true h;exact decide_eq_false #[0]
 co:=fun i j hi hj ne=>by
  have e1:ns.getD i 0=ns[i]:=by rw [YaP,YaQ hi];rfl
  have e2:ns.getD j 0=ns[j]:=by rw [YaP,YaQ hj];rfl
  have h:ns[i]≠ns[j]:=fun e=>ne ((Wa3 nd).mp e)
  show decide _=true\/decide _=true
  rw [e1,e2,decide_eq_true_eq,decide_eq_true_eq]
  omega
theorem zfP{vs:List Value}{ns:List Int}(h:IntsAre vs ns){i:Nat}(hi:i<vs.length):∃ t,vs.getD i Value.none=.int (ns.getD i 0) t:=by
 induction h generalizing i with
 | nil=>simp at hi
 | cons n t _ ih => cases i with
  | zero=>exact⟨t,rfl⟩
  | succ i=>exact ih (by simpa using hi)
theorem zna{a:Addr}{vs:List Value}{ns:List Int}{n:Nat}{P:PySem.Fin->Shared->Prop}(ho:s.heap.get? a=some (seqObj "list" vs.toArray n))(hI:IntsAre vs ns)(nd:ns.Nodup)(h1000:vs.length<1000)
 (h:∀ (p:Array Nat),OkP vs.length p->SoP (fun i j=>decide (ns.getD i 0<ns.getD j 0)) p vs.length->P (.done (.ret .none)) { s with heap:=sortedHeap s.heap a vs (List.toArray (p.toList.map fun i=>vs.getD i Value.none)) }) :
 wpAny (model prog w) A (Builtin.«list.sort» ⟨[.ref a],[]⟩) P E s:=by
 rw [list_sort_plain];have ha:a<s.heap.objs.size:=YaX ho;have hln:=hI.length;refine wpAny_bind (listItems_at ho rfl ?_);refine wpAny_bind (listUpdate_at ho rfl ?_ (by rw [YaZ,sizeLine_eq];omega) (WbH _))
 obtain⟨e1,ho1⟩:∃ e1,(s.heap.update a (Obj.mapSeq fun _=>#[])).get? a=some (seqObj "list" #[] e1):=⟨_,get?_update_seq ho (fun _=>#[])⟩
 refine wpAny_bind (seqEpoch_at ho1 rfl ?_)
 refine wpAny_bind (wpAny_newTuple ?_ (by show vs.length<=_;rw [sizeLine_eq];omega))
 refine wpAny_bind (wpAny_newList ?_ (WbH _))
 refine wpAny_holding ?_
 have ho6:(((s.heap.update a (Obj.mapSeq fun _=>#[])).push (seqObj "tuple" vs.toArray 0)).push (seqObj "list" #[] 0)).get? a=some (seqObj "list" #[] e1):=by
  rw [WaV _ _ _ (by rw [size_push',Wa9];exact Yaf (WaO ha)),WaV _ _ _ (by rw [Wa9];exact Yaf ha)]
  exact ho1
 show wpAny (model prog w) A _ P E { s with heap:=((s.heap.update a (Obj.mapSeq fun _=>#[])).push (seqObj "tuple" vs.toArray 0)).push (seqObj "list" #[] 0) }
 dsimp only;have hsz:vs.toArray.size=vs.length:=by simp
 have fin:∀ (st':SortSt) (p:Array Nat),failedOf st'=none->(arrOf st').map (·.2)=List.toArray (p.toList.map fun i=>vs.getD i Value.none)->OkP vs.length p->SoP (fun i j=>decide (ns.getD i 0<ns.getD j 0)) p vs.length->
  wpAny (model prog w) A (do
   let touched:=(<-seqEpoch a) != e1
   Builtin.List.listUpdate (.ref a) fun _=>(arrOf st').map (·.2)
   if let some e:=failedOf st' then rule "list.sort.comparison-raised";throw e
   if touched then rule "list.sort.modified";raiseError "ValueError" "list modified during sort"
   ret .none) P E { s with heap:=((s.heap.update a (Obj.mapSeq fun _=>#[])).push (seqObj "tuple" vs.toArray 0)).push (seqObj "list" #[] 0) }:=by
  intro st' p hf hout ok so;have hz:(List.toArray (p.toList.map fun i=>vs.getD i Value.none)).size=vs.length:=by rw [YaZ,YaR,Array.length_toList,ok.size]
  rw [hout];refine wpAny_bind (seqEpoch_at ho6 rfl ?_);refine wpAny_bind (listUpdate_at ho6 rfl ?_ (WbH _) (Ya5 (Nat.le_of_eq hz) (by rw [sizeLine_eq];omega)))
  rw [hf];simp only [bne_self_eq_false,WaG,if_false];exact wpAny_pure (h p ok so)
 by_cases h2:vs.toArray.size<2
 . rw [if_pos h2,if_pos h2]
   refine wpAny_bind (wpAny_pure ?_)
   rw [StateT.run_pure];refine wpAny_bind (wpAny_pure ?_);rw [hsz] at h2;refine fin _ (List.toArray (List.range vs.length)) rfl ?_ (Wbo _) (fun i j a b=>by omega)
   exact zdx rfl h2
 . rw [if_neg h2,if_neg h2]
   rw [hsz] at h2;have hk:keyKind' vs.toArray=pure oneType':=by
    obtain⟨v₁,v₂,rest,rfl⟩:∃ v₁ v₂ rest,vs=v₁ :: v₂ :: rest:=zjn h2;exact keyKind_ints hI
   rw [hk];refine wpAny_bind (wpAny_pure ?_);have est:SortSt.mk' oneType' (vs.toArray.zip vs.toArray) #[] 7 none=kst oneType' (pairsOf vs) (List.toArray (List.range vs.length)) #[] 7:=by
    have e:=kas_range (pairsOf vs);rw [pairsOf_size] at e;unfold kst;rw [e];rfl
   rw [est];refine wpAny_bind (wpAny_mono (WS.runs (E:=fun _ _=>False) (lt:=fun i j=>decide (ns.getD i 0<ns.getD j 0)) (n:=vs.length) (Q:=fun _ st'=>∃ p:Array Nat,arrOf st'=p.map (kas_item (pairsOf vs))/\failedOf st'=none/\OkP vs.length p/\Srt (fun i j=>decide (ns.getD i 0<ns.getD j 0)) p 0 vs.length)
    (fun i j' C hi hj hC=>by
     rw [<-kas_ask_eq];obtain⟨t,e1⟩:=zfP hI hi;obtain⟨u,e2⟩:=zfP hI hj;show wpAny _ _ (keyLt' oneType' (vs.getD i Value.none) (vs.getD j' Value.none)) C _ _;rw [e1,e2];exact kat_lt_int hC) (by rw [hln];exact zlI nd) (Wbo _) #[0] fun p' pd' g' ok so=>⟨p',rfl,rfl,ok,so⟩) ?_ fun _ _ x=>x.elim)
   rintro⟨⟨⟩,st'⟩ s'' ⟨e,p,har,hf,ok,so⟩
   have e:s''=_:=e;subst e;refine fin st' p hf ?_ ok fun i j h1 h2=>so i j (WbH _) h1 h2
   apply Array.toList_inj.mp
   rw [har,Array.map_map,Array.toList_map];exact Yat fun i _=>by show(kas_item (pairsOf vs) i).2=_;rw [kas_item_eq]
end
variable[LamW]
theorem zd9:∀ {vs:List Value} {ks:List Int},vs.length=ks.length->(∀ j v,vs[j]?=some v->∃ t,v=Value.int (ks.getD j 0) t)->IntsAre vs ks
 | [],[],_,_=>.nil
 | v :: vs, k :: ks, hl, h => by
  obtain⟨t,e⟩:=h 0 v rfl;have e:v=Value.int k t:=e;subst e;exact .cons k t (zd9 (Nat.succ.inj hl) fun j v hv=>h (j+1) v hv)
section
variable{X:Cx}
theorem zle{ks:List Int}{vs:List (Key×Value)}(h:KV (ks.map fun k=>(Sum.inl k,V.bl true)) vs):vs.length=ks.length/\∀ i k x,vs[i]?=some (k,x)->k=Sum.inl (ks.getD i 0):=by
 induction ks generalizing vs with
 | nil=>cases h;exact⟨rfl,fun i k x e=>by simp at e⟩
 | cons a ks ih=>
  cases h with
  | cons r t=>
   obtain⟨h1,h2⟩:=ih t;refine⟨by simp [h1],fun i k x e=>?_⟩
   cases i with
   | zero=>
    simp at e
    obtain⟨r1,_⟩:=r;have r1:Sum.inl a=_:=r1;rw [e] at r1;exact r1.symm
   | succ i=>exact h2 i k x (by simpa using e)
theorem zg2(hc:X.calm=true):zI X (.builtin "sorted") (fun xs H Q=>∃ a ks,xs=[V.ref a]/\H a=some (.dK (ks.map fun k=>(Sum.inl k,V.bl true)))/\ks.Nodup/\ks.length<1000/\∀ ns:List Int,ns.Perm ks->ns.Pairwise (· < ·)->∀ p,H p=none->Q (.ref p) (upd H p (.lst (ns.map V.int)))):=by
 intro pins s σ H xs us Q I r h;obtain⟨a,ks,rfl,e,nd,hlt,q⟩:=h;obtain⟨u,rfl,ru⟩:=j9 r;cases ru;obtain⟨hz,hsys,vs,kv,o,es,ep,h1,h2,h3,h4⟩:=zfQ I.hok e;have hD:s.heap.DictAt (z9 X.prog X.w) a vs ep:=⟨o,es,h1,h2,h3,h4⟩;obtain⟨kl,ka⟩:=zle kv;refine Calls.call_function_entry kind_sorted plain_sorted entry_sorted (args_sorted1 _) ?_;unfold Builtin.«sorted»;refine wpAny_bind (m:=checkCount "sorted" 1 1 _) (wpAny_pure ?_)
 refine wpAny_bind (kdu_collect (kdl_dict (knd:=z9 X.prog X.w) (kvs:=vs) (ep:=ep) hsys) (I.ok.hd hc) hD (by rw [kl,sizeLine_eq];omega) fun h' tk acc hk hit=>?_)
 obtain⟨hs,hat⟩:=hit;have hI:IntsAre acc.toList ks:=zd9 (by rw [Array.length_toList,hs,kl]) fun j v hv=>by
  obtain⟨k,x,hk1,hk2⟩:=hat j v (by simpa using hv)
  have:=ka j k x hk1;subst this;have hk2:Zf (Sum.inl (ks.getD j 0)) v=true:=hk2
  rcases jY hk2 with ⟨i,t,e1,e2⟩|⟨y,t,e1,_⟩
  . cases e1;exact⟨t,e2⟩
  . cases e1
 have hal:=hI.length;refine wpAny_bind (wpAny_newList ?_ (by rw [sizeLine_eq];omega))
 have hoL:(h'.push (seqObj "list" acc.toList.toArray 0)).get? h'.objs.size=some (seqObj "list" acc.toList.toArray 0):=Yan _ rfl;show wpAny _ _ _ _ _ { s with heap:=h'.push (seqObj "list" acc.toList.toArray 0),toks:=tk }
 refine wpAny_bind (wpAny_holding (wpAny_call_entry slot_list_sort ⟨_,hoL,rfl⟩ entry_list_sort ?body (args_list_sort _)))
 case body=>
  refine zna (s:={ s with heap:=h'.push (seqObj "list" acc.toList.toArray 0),toks:=tk }) hoL hI nd #[0] fun p ok so=>⟨_,rfl,wpAny_pure ⟨_,rfl,?_⟩⟩
  have I':Inv X pins σ H { s with heap:=h',toks:=tk }:=I.kept (t':=tk) hk
  have hz2:=ok.size;have hb1:∀ j∈p.toList,j<acc.toList.length:=fun j hj=>Yba.mp (ok.mem_iff.mp hj)
  have keep:∀ b u,h'.get? b=some u->(sortedHeap (h'.push (seqObj "list" acc.toList.toArray 0)) h'.objs.size acc.toList (List.toArray (p.toList.map fun i=>acc.toList.getD i Value.none))).get? b=some u:=fun b u e=>by
   have hne:b≠h'.objs.size:=Yaf (YaX e);unfold sortedHeap;rw [Heap.get?_update_ne _ _ _ _ hne];refine YaW _ (YaW _ ?_);rw [Heap.get?_update_ne _ _ _ _ hne];exact YaW _ e
  obtain⟨c1,hc1⟩:∃ c1,((h'.push (seqObj "list" acc.toList.toArray 0)).update h'.objs.size (Obj.mapSeq fun _=>#[])).get? h'.objs.size=some (seqObj "list" #[] c1):=⟨_,get?_update_seq hoL fun _=>#[]⟩
  obtain⟨c2,hc2⟩:∃ c2,(sortedHeap (h'.push (seqObj "list" acc.toList.toArray 0)) h'.objs.size acc.toList (List.toArray (p.toList.map fun i=>acc.toList.getD i Value.none))).get? h'.objs.size=some (seqObj "list" (List.toArray (p.toList.map fun i=>acc.toList.getD i Value.none)) c2):=⟨_,get?_update_seq (YaW _ (YaW _ hc1)) fun _=>List.toArray (p.toList.map fun i=>acc.toList.getD i Value.none)⟩
  have en:(p.toList.map fun i=>ks.getD i 0).map V.int=p.toList.map fun i=>(ks.map V.int).getD i V.non:=by
   rw [YaD];refine Yat fun i hi=>?_
   have hik:i<ks.length:=by have:=hb1 i hi;omega
   rw [YaP,Ya0,YaQ hik];show V.int (ks.getD i 0)=V.int ks[i];rw [YaP,YaQ hik];rfl
  have ok':OkP ks.length p:=by rw [<-hal];exact ok
  refine⟨.ref h'.objs.size,_,I'.laid (a:=h'.objs.size) (o:=.lst ((p.toList.map fun i=>ks.getD i 0).map V.int)) (t':=tk) keep (YaY _) ⟨?_,p.toList.map fun i=>acc.toList.getD i Value.none,c2,?_,hc2⟩,rfl,q _ (L3.zeE 0 ok') ?_ _ (I'.hok.fresh (YaY _))⟩
  . rw [YaR,YaR,Array.length_toList,hz2,sizeLine_eq];omega
  . rw [en];exact L3.zcY (zbR hI) hb1
  . rw [WaW,Wai]
    intro i j hi hj hij;have hi':i<p.size:=by simpa using hi
    have hj':j<p.size:=by simpa using hj
    have:decide (ks.getD (gp p i) 0<ks.getD (gp p j) 0)=true:=so i j hij #[0]
    have e:∀ k (hk:k<p.size),gp p k=p.toList[k]'(by simpa using hk):=fun k hk=>by simp [gp,Array.getD,hk]
    rw [e i hi',e j hj'] at this;exact of_decide_eq_true this
end
end L2
namespace L3
open PySem PySem.Spec PyProof.Rows L2
variable[LamW]
def addK(ks:List Int)(k:Int):List Int:=if k∈ks then ks else ks++[k]
theorem ziF(ks:List Int)(k:Int):putK (ks.map fun k=>((Sum.inl k:Key),V.bl true)) (Sum.inl k) (.bl true)=(addK ks k).map fun k=>(Sum.inl k,V.bl true):=by
 unfold putK addK;have e:((ks.map fun k=>((Sum.inl k:Key),V.bl true)).any fun kv=>decide (kv.1=Sum.inl k))=decide (k∈ks):=by
  induction ks with
  | nil=>rfl
  | cons a r ih=>
   rw [Ya1,List.any_cons,ih]
   by_cases h:a=k
   . subst h;simp
   . have h1:¬(Sum.inl a:Key)=Sum.inl k:=fun z=>h (Sum.inl.inj z)
     have h2:¬k=a:=fun z=>h z.symm
     simp [h1,h2]
 rw [e]
 by_cases h:k∈ks
 . rw [if_pos (decide_eq_true h),if_pos h,YaD]
   refine Yat fun x hx=>?_
   show(if(Sum.inl x:Key)=Sum.inl k then _ else _)=_
   split<;>rfl
 . rw [if_neg (fun z=>h (of_decide_eq_true z)),if_neg h,Ya2];rfl
theorem zdT{ks:List Int}(k:Int)(h:ks.Nodup):(addK ks k).Nodup:=by
 unfold addK
 split
 . exact h
 . rename_i n
   exact WaQ.mpr ⟨h,by simp,fun a ha b hb z=>n (by rw [Ya6.mp hb] at z;rw [<-z];exact ha)⟩
theorem ze4(ks:List Int)(k:Int):(addK ks k).length<=ks.length+1:=by
 unfold addK
 split
 . omega
 . simp
theorem zdf{ks:List Int}{k x:Int}:x∈addK ks k↔x∈ks\/x=k:=by
 unfold addK
 split
 . exact⟨.inl,fun h=>h.elim id fun z=>by rw [z];assumption⟩
 . simp
def atK(o:Option (Option Cl))(P:List Int->Prop):Prop:=match o with
 | some (some (.dk ks))=>P ks
 | _=>False
theorem zcP{o:Option (Option Cl)}{P:List Int->Prop}(h:atK o P):∃ ks,o=some (some (.dk ks))/\P ks:=by
 cases o with
 | none=>exact False.elim h
 | some x => cases x with
  | none=>exact False.elim h
  | some c => cases c with
   | dk ks=>exact⟨ks,rfl,h⟩
   | _=>exact False.elim h
section
variable{K:Ybf}{H0 G0:Hp}{ρ : Env3}{σ : L2.St}{G H:Hp}
theorem zce(F:Fr3 K H0 G0 ρ σ G H){i:Nat}{ks:List Int}(h:ρ[i]?=.some (.some (.dk ks))):∃ l,σ[i]?=.some (.some (.ref l))/\H l=.some (.dK (ks.map fun k=>(Sum.inl k,V.bl true)))/\G l=none:=by
 obtain⟨v,h1,h2⟩:=F.slot i _ h;cases h2 with
 | dk a c=>exact⟨_,h1,a,c⟩
end
section
variable{X:Cx}{H0:Hp}{e a b:Expr}{pos:Pos}{x:Str}{i:Nat}
def za5(i:Nat):TS3:=fun A ρ=>A.nx (ρ.set i (some (.dk [])))
theorem zht{pos' p:Pos}(hN:X.N.Nodup)(hi:X.N[i]?=some x)(hx:Loc X.env.scope x)(hs:swapsWith (.Dict [] [] p) (some (.Name x pos')) pos.line X.env=pure false:=by rfl)
 (hf:X.fn x=true\/X.env.scope.names.lookup x=some .local:=by first|exact .inl rfl|exact .inr rfl|assumption):PS3 X H0 (.Assign [.Name x pos'] (.Dict [] [] p) pos) (za5 i):=PS.imp (JH hN hi hx zkn hs hf) fun B σ H=>el7 fun G0 A ρ G F q L=>
 fun p hp=>L.nx _ _ G _ (F.put (zO hp _).x (.dk zo (F.sub.free hp)) fun a h=>by cases h;exact hp) q
def za2(i:Nat)(ta:TE3):TS3:=fun A ρ=>atK ρ[i]? fun ks=>ta ρ fun c=>asI c fun k=>ks.length<sizeLine/\A.nx (ρ.set i (some (.dk (addK ks k))))
theorem zc7{ta:TE3}{np cp spos:Pos}{k1}(hu:X.A.units+1<cLine)(hN:X.N[i]?=some x)(hv:Vis X.env.scope x)(ha:PE3 X H0 a ta)(hd:(x==("__debug__" : Str))=false:=by decide)(hcd:(x==("__classdict__" : Str))=false:=by decide)
 (hs:swapsWith (.Constant (.bool true) k1 cp) (some (.Subscript (.Name x np) a spos)) pos.line X.env=pure false:=by rfl):PS3 X H0 (.Assign [.Subscript (.Name x np) a spos] (.Constant (.bool true) k1 cp) pos) (za2 i ta):=by
 refine PS.imp (zmj hu (jJ hN hv hd hcd) ha.ok zei hs) fun B σ H hyp=>?_
 obtain⟨G0,A,ρ,G,F,q,L⟩:=hyp;obtain⟨ks,hi,q⟩:=zcP q;obtain⟨l,hl,_,_⟩:=zce F hi;refine⟨.ref l,hl,G0,ρ,G,F,ha.mono ρ _ _ (fun c q2 v2 G2 H2 g2 w2=>?_) q⟩
 obtain⟨k,rfl,e4,q4⟩:=za1 q2;cases zB (zj w2).rd;have F3:=F.gr g2;obtain⟨l',hl',k2,k4⟩:=zce F3 hi;rw [hl] at hl';cases hl';exact⟨l,_,rfl,DPut.k (k:=Sum.inl k) k2 (by rw [YaR];exact e4),L.nx _ _ _ _ (F3.chg (c':=.dk (addK ks k)) hi hl rfl (fun _ h=>h) (.dk (by rw [zo,ziF]) k4)) q4⟩
def zaM(i:Nat):TN3:=fun ρ Q=>atK ρ[i]? fun ks=>ks.Nodup/\ks.length<1000/\∀ ns:List Int,ns.Perm ks->ns.Pairwise (· < ·)->Q true (ns.map PyData.int)
theorem zhV{K:Ybf}{H0 G:Hp}(ns:List Int):Rfs K H0 G true (ns.map V.int) (ns.map PyData.int):=by
 induction ns with
 | nil=>exact Rfs.nil
 | cons a r ih=>exact Rfs.cons (f:=true) (.sc rfl (.int a)) ih
theorem zmT{np p:Pos}(hc:X.calm=true)(hg:Gl X "sorted")(hm:X.mg "sorted" = none)(hN:X.N[i]?=some x)(hv:Vis X.env.scope x)(hd:(x==("__debug__" : Str))=false:=by decide)(hcd:(x==("__classdict__" : Str))=false:=by decide)
 (he:starEach [.Name x p] X.env=(false,eval (.Name x p) X.env)::starEach [] X.env:=by rfl) (hpl:(backTo pos (starEach [] X.env)).any (·.1)=false:=by rfl):PN3 X H0 (.Call (.Name "sorted" np) [.Name x p] [] pos) (zaM i):=by
 refine⟨fun ρ Q Q' h q=>?_,PE.imp (zbP (x:="sorted") (zg2 hc) hg hm (show bootBuiltins "sorted" = some (.builtin "sorted") by rfl) (jv (jJ hN hv hd hcd) jD he) #[1] #[1] he hpl) fun σ H Q=>el5 fun G0 ρ G F q=>?_⟩
 . obtain⟨ks,e,h1,h2,q⟩:=zcP q
   show atK ρ[i]? _
   rw [e];exact⟨h1,h2,fun ns a b=>h _ _ (q ns a b)⟩
 . obtain⟨ks,e,h1,h2,q⟩:=zcP q
   obtain⟨l,hl,k2,k4⟩:=zce F e;exact⟨.ref l,hl,l,ks,rfl,k2,h1,h2,fun ns a b p hp=>q ns a b p _ G H (Gr.refl F.sub) hp (zhV ns)⟩
end
end L3
namespace L2
open PySem PySem.Spec PyProof.Rows
section
variable{X:Cx}
end
end L2
namespace L3
open PySem PySem.Spec PyProof.Rows L2
variable[LamW]
section
variable{X:Cx}
end
variable[LamW]
def zbD(K:Ybf)(H0:Hp)(i:Nat)(J:List Nat)(t:Env3->D->TS3):TS:=fun B σ H=>∃ G0 A ρ1 σ1 G1 H1 v d ρ G,(Fr3 K H0 G0 ρ1 σ1 G1 H1/\Fr3 K H0 G0 ρ σ G H/\Gr G1 H1 G H/\σ[i]?=some (some v)/\RdN K H1 G v d/\(∀ k,k≠i->k∉J->σ[k]? = σ1[k]?)/\σ.length = σ1.length)/\t ρ1 d A ρ/\LD K H0 G0 A B
section
variable{X:Cx}{H0:Hp}{e:Expr}{pos pos':Pos}{x:Str}{i j:Nat}{J:List Nat}{l:List Stmt}{u:Env3->D->TS3}
def zez(i:Nat)(tr:TR3)(u:Env3->D->TS3):TS3:=fun A ρ=>i < ρ.length/\tr ρ fun d=>u ρ d A (ρ.set i (some (.sh true d)))
theorem zhv{tr:TR3}(hN:X.N.Nodup)(hi:X.N[i]?=some x)(hx:Loc X.env.scope x)(he:PR3 X H0 e tr)(hl:PSs X l (zbD X.K H0 i J u))
 (hs:swapsWith e (some (.Name x pos')) pos.line X.env=pure false:=by rfl) (hf:X.fn x=true\/X.env.scope.names.lookup x=some .local:=by first|exact .inl rfl|exact .inr rfl|assumption) :
 PSs3 X H0 (.Assign [.Name x pos'] e pos::l) (zez i tr u):=by
 refine PSs.imp (zap (JH hN hi hx he.ok hs hf) hl) fun B σ H hyp=>?_
 obtain⟨G0,A,ρ,G,F,⟨hil,q⟩,L⟩:=hyp;refine⟨G0,ρ,G,F,he.mono ρ _ _ (fun d qd v G1 H1 G2 H2 g1 g2 r=>?_) q⟩
 have F1:=F.gr g1;have F2:=(F1.gr g2).set (i:=i) (f:=true) (v:=v) (d:=d) ⟨ZE r,fun _=>jk (Same.refl _) (fun _ _ _ z=>F1.keep.free z) r⟩
 have hlen:i < σ.length:=by rw [<-F.len];exact hil
 exact⟨G0,A,ρ,σ,G1,H1,v,d,_,G2,⟨F1,F2,g2,by rw [Yas hlen],r,fun k hk _=>by rw [Yac (WbM hk)],YaN⟩,qd,L⟩
theorem za9{K:Ybf}{H0 G G':Hp}:∀ {vs:List V} {ds:List D},ds.all zt=true->RdVs K G vs ds->RdNs K H0 G' vs ds
 | _,_,_,.nil=>.nil
 | _, _, h, .cons a b => by
  rw [List.all_cons,Yak] at h;exact .cons (ZX h.1 (zbM h.1 a)) (za9 h.2 b)
theorem zj5{tr:TR3}{A:Ends3}{ρ : Env3}(hi:i < ρ.length)(h:∀ N:D->Prop,(∀ d,u ρ d A (ρ.set i (some (.sh true d)))->N d)->tr ρ N):zez i tr u A ρ:=⟨hi,h _ fun _ z=>z⟩
end
variable[LamW]
section
variable{X:Cx}{H0:Hp}{pos:Pos}
def zaS(ta tb:TE3):TE3:=fun ρ Q=>ta ρ fun a=>tb ρ fun b=>asS a fun f d=>asS b fun g e=>asT d fun ds=>asT e fun es=>ds≠[]/\es≠[]/\ds.length+es.length<=sizeLine/\Q (.sh ((f||ds.all zt)&&(g||es.all zt)) (.tuple (ds++es)))
theorem ziv{a b:Expr}{ta tb:TE3}(ha:PE3 X H0 a ta)(hb:PE3 X H0 b tb):PE3 X H0 (.BinOp a .Add b pos) (zaS ta tb):=by
 refine⟨fun ρ Q Q' h q=>ha.mono ρ _ _ (fun a=>hb.mono ρ _ _ fun b hyp=>?_) q,PE.imp (zcw zhY ha.ok hb.ok) fun σ H Q=>el5 fun G0 ρ G F q=>⟨G0,ρ,G,F,ha.mono ρ _ _ (fun a qa v1 G1 H1 g1 w1=>⟨G0,ρ,G1,F.gr g1,hb.mono ρ _ _ (fun b hyp v2 G2 H2 g2 w2=>?_) qa⟩) q⟩⟩
 . obtain⟨f,d,rfl,k⟩:=jf hyp
   obtain⟨g,e,rfl,k⟩:=jf k;obtain⟨ds,rfl,k⟩:=j8 k;obtain⟨es,rfl,z1,z2,z3,k⟩:=j8 k;exact⟨z1,z2,z3,h _ k⟩
 . obtain⟨f,d,rfl,q⟩:=jf hyp
   obtain⟨g,e,rfl,q⟩:=jf q;obtain⟨ds,rfl,q⟩:=j8 q;obtain⟨es,rfl,z1,z2,z3,q⟩:=j8 q;obtain⟨l,xs,rfl,hq,rs⟩:=Zj (zj (w1.gr g2));obtain⟨m,ys,rfl,hq',rs'⟩:=Zj (zj w2);have r:=rs.or.append rs'.or;refine⟨l,m,xs,ys,rfl,rfl,g2.sub.tup hq,g2.sub.tup hq',fun z=>z1 (by rw [<-Wap,<-rs.length,z];rfl),by rw [rs.length,rs'.length];exact z3,fun z=>absurd (by rw [<-Wap,<-rs'.length,z];rfl) z2,fun _ p hp=>q (.ref p) (upd G2 p (.tup (xs++ys))) _ ((g1.trans g2).trans (Gr.put g2.sub hp)) ?_⟩
   exact .sh ⟨.tup (.inl (.inl zo)) (rdvs_same (zO (g2.sub.free hp) _) r.rd),fun hf=>.tup (.inl (.inl zo)) (rdns_mono (zO (g2.sub.free hp) _) (fun _ _ _ z=>z) (r.nw hf))⟩
end
variable[LamW]
structure LJ(K:Ybf)(H0 G0:Hp)(J:List Nat)(σ0:L2.St)(G1 H1:Hp)(A:Ends3)(B:L2.Ends):Prop where
 nx:∀ ρ σ G H,Fr3 K H0 G0 ρ σ G H->Gr G1 H1 G H->(∀ k,k∉J->σ[k]? = σ0[k]?)->σ.length = σ0.length->A.nx ρ->B.nx σ H
 rt:∀ f d v G H,Gr G0 H0 G H->Rf K H0 G f v d->A.rt f d->B.rt v H
def zmL(K:Ybf)(H0:Hp)(J:List Nat)(t:TS3):TS:=fun B σ H=>∃ G0 A ρ G,Fr3 K H0 G0 ρ σ G H/\t A ρ/\LJ K H0 G0 J σ G H A B
def PJ3(X:Cx)(H0:Hp)(J:List Nat)(st:Stmt)(t:TS3):Prop:=PS X st (zmL X.K H0 J t)
section
variable{X:Cx}{H0:Hp}{e:Expr}{pos pos':Pos}{x:Str}{i j:Nat}{J:List Nat}{l:List Stmt}{u:Env3->D->TS3}{st:Stmt}
theorem zaw{σ : L2.St}{v:Option V}(hJ:j∈J):∀ k,k∉J->(σ.set j v)[k]? = σ[k]?:=fun k hk=>Yac (show j≠k from fun z=>hk (z ▸ hJ))
theorem zjb{te:TE3}(hJ:j∈J)(hN:X.N.Nodup)(hi:X.N[j]?=some x)(hx:Loc X.env.scope x)(he:PE3 X H0 e te)(hs:swapsWith e (some (.Name x pos')) pos.line X.env=pure false:=by rfl)
 (hf:X.fn x=true\/X.env.scope.names.lookup x=some .local:=by first|exact .inl rfl|exact .inr rfl|assumption):PJ3 X H0 J (.Assign [.Name x pos'] e pos) (set3 j te):=PS.imp (JH hN hi hx he.ok hs hf) fun B σ H hyp=>by
 obtain⟨G0,A,ρ,G,F,q,L⟩:=hyp;refine⟨G0,ρ,G,F,he.mono ρ _ _ (fun c hyp v G' H' g w=>?_) q⟩
 obtain⟨f,d,hc,q⟩:=jf hyp;subst hc;exact L.nx _ _ G' H' ((F.gr g).set (zj w)) g (zaw hJ) YaN q
theorem znw{te:TE3}{j1 j2:Nat}{x1 x2:Str}{p1 p2 tp:Pos}{kt:Nat}(hJ1:j1∈J)(hJ2:j2∈J)(hc:X.calm=true)(hN:X.N.Nodup)(hi1:X.N[j1]?=some x1)(hx1:Loc X.env.scope x1)(hi2:X.N[j2]?=some x2)(hx2:Loc X.env.scope x2)(he:PE3 X H0 e te)
 (hf1:X.fn x1=true\/X.env.scope.names.lookup x1=some .local:=by first|exact .inl rfl|exact .inr rfl|assumption) (hf2:X.fn x2=true\/X.env.scope.names.lookup x2=some .local:=by first|exact .inl rfl|exact .inr rfl|assumption)
 (hs:swapsWithSole [.Tuple [.Name x1 p1,.Name x2 p2] kt tp] e pos.line X.env=pure false:=by rfl) (hw:swappedStores [.Tuple [.Name x1 p1,.Name x2 p2] kt tp] e X.env=pure none:=by rfl)
 (h1:(assignEach [.Tuple [.Name x1 p1,.Name x2 p2] kt tp] X.env).map (·.2)=[assign (.Tuple [.Name x1 p1,.Name x2 p2] kt tp) X.env]:=by rfl)
 (hn:(assignEach [.Name x1 p1,.Name x2 p2] X.env).length=2:=by rfl) (hst:(assignEach [.Name x1 p1,.Name x2 p2] X.env).findIdx? (·.1)=none:=by rfl)
 (ha1:(assignEach [.Name x1 p1,.Name x2 p2] X.env).map (·.2)=assign (.Name x1 p1) X.env::(assignEach [.Name x2 p2] X.env).map (·.2):=by rfl)
 (ha2:(assignEach [.Name x2 p2] X.env).map (·.2)=assign (.Name x2 p2) X.env::(assignEach [] X.env).map (·.2):=by rfl) :
 PJ3 X H0 J (.Assign [.Tuple [.Name x1 p1,.Name x2 p2] kt tp] e pos) (asg3 te (ZF 2 (j7 (gn3 j1) (j7 (gn3 j2) gnil3)))):=
 PS.imp (ze9 he.ok (zdz hc (zc3 (zbl hN hi1 hx1 hf1) (zc3 (zbl hN hi2 hx2 hf2) zfV ha2) ha1) hn hst) hs hw h1) fun B σ H hyp=>by
 obtain⟨G0,A,ρ,G,F,q,L⟩:=hyp;refine⟨G0,ρ,G,F,he.mono ρ _ _ (fun c hyp v G' H' g w=>?_) q⟩
 obtain⟨f,d,hc,q⟩:=jf hyp;subst hc;obtain⟨ds,e1,hl,q1⟩:=j8 q;subst e1;obtain⟨d1,s1,e2,q2⟩:=zbx q1;subst e2;obtain⟨d2,s2,e3,q3⟩:=zbx q2;subst e3;obtain⟨e4,q4⟩:=zc2 q3;subst e4;obtain⟨a,xs,rfl,hq,rs⟩:=Zj (zj w);obtain⟨v1,us,rfl,r1,rs⟩:=zb9 rs;obtain⟨v2,us,rfl,r2,rs⟩:=zb9 rs;cases rs.rd;have F1:=((F.gr g).set (i:=j1) r1.or).set (i:=j2) r2.or;refine⟨a,_,rfl,F1.sub.tup hq,rfl,v1,_,rfl,v2,_,rfl,rfl,L.nx _ _ G' H' F1 g (fun k hk=>?_) ?_ q4⟩
 . rw [zaw hJ2 k hk,zaw hJ1 k hk]
 . rw [YaN,YaN]
def ifJ(tt:TT3)(tb:TS3):TS3:=fun A ρ=>tt ρ fun k=>if k=true then tb { A with nx:=fun _=>False,bk:=fun _=>False,ct:=fun _=>False } ρ else A.nx ρ
theorem j_if{tt:TT3}{tb:TS3}{c:Expr}{xs:List Stmt}(hc:PT3 X H0 c tt)(hb:PSs3 X H0 xs tb):PJ3 X H0 J (.If c xs [] pos) (ifJ tt tb):=PS.imp (zfZ hc.ok hb zc5) fun B σ H hyp=>by
 obtain⟨G0,A,ρ,G,F,q,L⟩:=hyp;refine⟨G0,ρ,G,F,hc.mono _ _ _ (fun k qk G3 H3 g3=>?_) q⟩
 cases k with
 | true=>exact⟨G0,_,_,G3,F.gr g3,qk,⟨fun _ _ _ _ _ z=>z.elim,L.rt,fun _ _ _ _ _ z=>z.elim,fun _ _ _ _ _ z=>z.elim⟩⟩
 | false=>exact L.nx _ _ G3 H3 (F.gr g3) g3 #[4] rfl qk
theorem zkD{iter:Expr}{ti:TI3}{tb:TS3}{np:Pos}(hJ:j∈J)(hp:PassesOwn (model X.prog X.w) X.A X.env X.xe)(hc:X.calm=true)(hN:X.N.Nodup)(hj:X.N[j]?=some x)(hx:Loc X.env.scope x)(hi:PI3 X H0 (.Name x np) iter ti)(hb:PJ3 X H0 J st tb)
 (hs:∀ x,foldedSetIterable iter X.env x=pure x:=by intro _;rfl) (hf:X.fn x=true\/X.env.scope.names.lookup x=some .local:=by first|exact .inl rfl|exact .inr rfl|assumption):PJ3 X H0 J (.For (.Name x np) iter [st] [] pos) (for3 ti (gn3 j) tb):=PS.imp (zex hp hc hi.ok (zbl hN hj hx hf) (zeS hb) hs) fun B σ H hyp=>by
 obtain⟨G0,A,ρ,G,F,q,L⟩:=hyp;refine⟨G0,ρ,G,F,hi.mono ρ _ _ (fun f ds k It G1 H1 g1 ok=>?_) q⟩
 have B1:Fr3 X.K H0 G0 ρ σ G1 H1:=F.gr g1;refine⟨fun i m σ' H'=>i<=ds.length/\m=ds.length - i/\∃ ρ' G',Fr3 X.K H0 G1 ρ' σ' G' H'/\Gr G1 H1 G' H'/\(∀ k,k∉J->σ'[k]? = σ[k]?)/\σ'.length = σ.length/\forL (gn3 j) tb A f (ds.drop i) ρ',⟨ds.length,WbH _,rfl,ρ,G1,B1.rebase,Gr.refl B1.sub,fun _ _=>rfl,rfl,k⟩,?_⟩
 rintro i m σ' H' ⟨hil,rfl,ρ',G',F',g',o',l',k'⟩
 by_cases hlt:i<ds.length
 . right
   have hd:ds[i]?=some ds[i]:=YaQ hlt;obtain⟨hgo,hy⟩:=ok.go i _ G' H' hd F'.g0 F'.sub;rw [Wah hlt] at k';refine⟨hgo,fun σ2 H2=>∃ ρ2 G2,Fr3 X.K H0 G1 ρ2 σ2 G2 H2/\Gr G1 H1 G2 H2/\(∀ k,k∉J->σ2[k]? = σ[k]?)/\σ2.length = σ.length/\forL (gn3 j) tb A f (ds.drop (i+1)) ρ2,fun σ2 H2 h2=>⟨_,WaC hlt (Wa4 _),WaP hlt,rfl,h2⟩,fun x H2 y=>?_⟩
   obtain⟨G2,g2,r2⟩:=hy x H2 y;refine⟨G1,_,_,G2,(F'.gr g2).set r2.or,k',⟨fun ρ4 σ4 G4 H4 F4 g4 o4 l4 q4=>⟨ρ4,G4,F4,(g'.trans g2).trans g4,fun k hk=>by rw [o4 k hk,zaw hJ k hk,o' k hk],by rw [l4,YaN,l'],q4⟩,fun f d v G4 H4 g4 r4 q4=>L.rt f d v G4 H4 (g4.back B1) r4 q4⟩⟩
 . left
   have e:i=ds.length:=Nat.le_antisymm hil (Nat.not_lt.mp hlt);rw [e,Wa7] at k';exact⟨ok.stop i G' H' e F'.g0 F'.sub,L.nx ρ' σ' G' H' (F'.back B1) (g1.trans g') o' l' k'⟩
def seqT(t:TS3)(u:Env3->D->TS3):Env3->D->TS3:=fun ρ1 d A ρ=>t { A with nx:=u ρ1 d A } ρ
theorem Js{t:TS3}(hij:i∉J)(h:PJ3 X H0 J st t)(hl:PSs X l (zbD X.K H0 i J u)):PSs X (st::l) (zbD X.K H0 i J (seqT t u)):=by
 refine PSs.imp (zap h hl) fun B σ H hyp=>?_
 obtain⟨G0,A,ρ1,σ1,G1,H1,v,d,ρ,G,⟨F1,F,g,hv,r,hσ,hl⟩,q,L⟩:=hyp;refine⟨G0,_,ρ,G,F,q,⟨fun ρ' σ' G' H' F' g' o' l' q'=>?_,L.rt⟩⟩
 exact⟨G0,A,ρ1,σ1,G1,H1,v,d,ρ',G',⟨F1,F',g.trans g',by rw [o' i hij];exact hv,jk g'.g (fun _ _ _ z=>z) r,fun k hk hkJ=>(o' k hkJ).trans (hσ k hk hkJ),l'.trans hl⟩,q',L⟩
theorem JN{t:TS3}{A:Ends3}{ρ1 ρ : Env3}{d:D}(h:∀ N:Env3->Prop,(∀ ρ',u ρ1 d A ρ'->N ρ')->t { A with nx:=N } ρ):seqT t u ρ1 d A ρ:=h _ fun _ z=>z
theorem zly{t:TS3}{A:Ends3}{ρ1 ρ : Env3}{d:D}(R:Env3->Prop)(h:∀ N:Env3->Prop,(∀ ρ',R ρ'->N ρ')->t { A with nx:=N } ρ)(h2:∀ ρ',R ρ'->u ρ1 d A ρ'):seqT t u ρ1 d A ρ:=h _ h2
def Ja:D->Bool
 | .tuple ds=>ds.all zt
 | d=>zt d
def drops(J:List Nat)(ρ : Env3):Env3:=J.foldl (fun ρ j=>ρ.set j none) ρ
theorem Fr3.drops{K:Ybf}{G0:Hp}{σ : L2.St}{G H:Hp}:∀ (J:List Nat) {ρ : Env3},Fr3 K H0 G0 ρ σ G H->Fr3 K H0 G0 (L3.drops J ρ) σ G H
 | [],_,F=>F
 | _::r,_,F=>Fr3.drops r F.drop
theorem zfI:∀ (J:List Nat) {ρ : Env3} {k:Nat} {c:Cl},(drops J ρ)[k]?=some (some c)->k∉J/\ρ[k]?=some (some c)
 | [],_,_,_,h=>⟨by simp,h⟩
 | j :: r, _, _, _, h => by
  obtain⟨a,b⟩:=zfI r h
  rcases zM b with ⟨_,q,_⟩|⟨n,q⟩
  . cases q
  . exact⟨fun z=>(Wbp.mp z).elim (fun z=>n z.symm) a,q⟩
theorem zlk{σ : L2.St}{v:V}(h:σ[i]?=some (some v)):σ.set i (some v) = σ:=by
 refine List.ext_getElem? fun k=>?_
 by_cases z:i=k
 . subst z
   obtain⟨hlt,_⟩:=Ya8.mp h;rw [Yas hlt,h]
 . rw [Yac z]
theorem Fr3.at{K:Ybf}{G0:Hp}{ρ : Env3}{σ : L2.St}{G H:Hp}{v:V}{f:Bool}{d:D}(F:Fr3 K H0 G0 ρ σ G H)(h:σ[i]?=some (some v))(r:Rf K H0 G f v d):Fr3 K H0 G0 (ρ.set i (some (.sh f d))) σ G H:=by
 have:=F.set (i:=i) r;rwa [zlk h] at this
theorem zd3{K:Ybf}{G G':Hp}{a p:Addr}{us xs:List V}(hp:G p=some (.lst us))(h:∀ b o,b≠p->G b=some o->G' b=some o)(q:SqT K G a xs):SqT K G' a xs:=by
 rcases q with (q|⟨o,q⟩)|q
 . exact .inl (.inl (h a _ (fun z=>by rw [z,hp] at q;cases q) q))
 . exact .inl (.inr ⟨o,h a _ (fun z=>by rw [z,hp] at q;cases q) q⟩)
 . exact .inr q
theorem zcz{K:Ybf}{H1 G G':Hp}{p:Addr}{us:List V}{v:V}{d:D}(hp:G p=some (.lst us))(h:∀ b o,b≠p->G b=some o->G' b=some o)(hd:Ja d=true)(r:RdN K H1 G v d):RdN K H0 G' v d:=by
 cases d with
 | tuple ds=>
  cases r with
  | tup q rs=>exact .tup (zd3 hp h q) (za9 hd (rdns_rd rs))
 | _=>exact ZX hd (zbM hd (ZE r))
theorem zlt{α : Type}(a b c:α)(r:List α):atI (a::b::c::r) 2=some c:=by
 unfold atI ixN
 simp
 rw [if_pos #[0]];rfl
def endK(i jt jr:Nat)(J:List Nat)(tn:TN3)(t:TS3):Env3->D->TS3:=fun ρ1 d A ρ=>(∃ n:Int,ρ[jt]?=some (#[5,n])/\∃ d0 d1 es d3,d=.tuple [d0,d1,.list es,d3]/\(Ja d0&&Ja d1&&Ja d3&&es.all zt)=true/\es.length<sizeLine/\
 tn ρ fun _ ds=>ds.all zt=true/\t A ((((drops J (ρ1.set i none)).set i (some (.sh true (.tuple [d0,d1,.list (es++[.int 0]),d3])))).set jt (#[5,n])).set jr (some (.sh true (.list ds)))))
theorem zhz{jt jr:Nat}{tn:TN3}{t:TS3}{A:Ends3}{ρ1 ρ : Env3}{n:Int}{d0 d1 d3:D}{es:List D}(hn:ρ[jt]?=some (#[5,n]))(hf:(Ja d0&&Ja d1&&Ja d3&&es.all zt)=true)(hs:es.length<sizeLine)(h:∀ N:List D->Prop,(∀ ds,t A ((((drops J (ρ1.set i none)).set i (some (.sh true (.tuple [d0,d1,.list (es++[.int 0]),d3])))).set jt (#[5,n])).set jr (some (.sh true (.list ds))))->N ds)->tn ρ fun _ ds=>ds.all zt=true/\N ds):endK i jt jr J tn t ρ1 (.tuple [d0,d1,.list es,d3]) A ρ:=⟨n,hn,d0,d1,es,d3,rfl,hf,hs,h _ fun _ z=>z⟩
theorem ziN{jt jr:Nat}{rest:List Stmt}{tn:TN3}{t:TS3}{y:Str}{le:Expr}{k0 k1}{np cp1 spos ap cp0 cp ep yp yq:Pos}(hdis:jt≠jr/\i≠jr/\jr∈J/\i∉J)(hN:X.N.Nodup)(hx:X.N[i]?=some x)(hvx:Vis X.env.scope x)(hy:X.N[jr]?=some y)(hvy:Loc X.env.scope y)(hle:PN3 X H0 le tn)(hr:PSs3 X H0 rest t)
 (hsy:swapsWith le (some (.Name y yp)) yq.line X.env=pure false:=by rfl) (hfy:X.fn y=true\/X.env.scope.names.lookup y=some .local:=by first|exact .inl rfl|exact .inr rfl|assumption)
 (hdx:(x==("__debug__" : Str))=false:=by decide) (hcx:(x==("__classdict__" : Str))=false:=by decide)
 (hi1:zcU (.Constant (.int 2) k1 cp1):=by exact fun _ _=>rfl)
 (hb:attributeBase (.Subscript (.Name x np) (.Constant (.int 2) k1 cp1) spos) "append" X.env (eval (.Subscript (.Name x np) (.Constant (.int 2) k1 cp1) spos) X.env)=eval (.Subscript (.Name x np) (.Constant (.int 2) k1 cp1) spos) X.env:=by rfl)
 (hf:((backTo cp (starEach [(Expr.Constant (.int 0) k0 cp0)] X.env)).all (fun x=>!x.1)&&(backToKw cp (keywordEach [] X.env)).all (fun x=>x.1.isSome)&&decide ([(Expr.Constant (.int 0) k0 cp0)].length+([]:List Keyword).length+(if([]:List Keyword).isEmpty then 0 else 1)<30))=true:=by rfl)
 (hl:(ap.endLine==cp.line)=true:=by rfl) (hs:starEach [(Expr.Constant (.int 0) k0 cp0)] X.env=(false,eval (Expr.Constant (.int 0) k0 cp0) X.env)::starEach [] X.env:=by rfl) (hpp:(backTo cp (starEach [] X.env)).any (·.1)=false:=by rfl)
 (hw:swapsWith (.Call (.Attribute (.Subscript (.Name x np) (.Constant (.int 2) k1 cp1) spos) "append" ap) [(Expr.Constant (.int 0) k0 cp0)] [] cp) none ep.line X.env=pure false:=by rfl) :
 PSs X (.Assign [.Name y yp] le yq :: .Expr (.Call (.Attribute (.Subscript (.Name x np) (.Constant (.int 2) k1 cp1) spos) "append" ap) [.Constant (.int 0) k0 cp0] [] cp) ep::rest) (zbD X.K H0 i J (endK i jt jr J tn t)):=by
 refine PSs.imp (zap (JH hN hy hvy hle.ok hsy hfy) (zap (zaA (zck (zes zec (jJ hx hvx hdx hcx) zb6 hi1) (jv zb6 jD hs) hb hf hl hs hpp) hw) hr)) fun B σ H hyp=>?_
 obtain⟨G0,A,ρ1,σ1,G1,H1,v,d,ρ,G,⟨F1,F,g,hv,r,hσ,hl⟩,⟨n,hn,d0,d1,es,d3,rfl,hfl,hes,q⟩,L⟩:=hyp;obtain⟨h1,h2,h3,h4⟩:=hdis;obtain⟨w,hw',wv⟩:=F.slot jt _ hn;have ew:w=.int n:=zB (zj wv).rd;subst ew;simp only [Yak] at hfl;obtain⟨⟨⟨f0,f1⟩,f3⟩,fe⟩:=hfl;refine⟨G0,ρ,G,F,hle.mono ρ _ _ (fun f ds hyp ll vs G' H' g' hll rr=>?_) q⟩
 obtain⟨hds,q⟩:=hyp;have gg:=g'.trans (Gr.put (o:=.lst vs) g'.sub hll);cases r with
 | tup qT rns=>
  rename_i a xs;cases rns with
  | cons r0 rns=>
   cases rns with
   | cons r1 rns=>
    cases rns with
    | cons r2 rns=>
     cases rns with
     | cons r3 rns=>
      cases rns;cases r2 with
      | lst gp np0 rrs=>
       rename_i u0 u1 u3 p us;have hil:i < σ.length:=(Ya8.mp hv).1;have hv2:(σ.set jr (some (.ref ll)))[i]?=some (some (.ref a)):=by rw [Yac (WbM h2)];exact hv
       have gp2:=gg.g _ _ gp;have hT:=gg.sub.tup (gg.g.tup qT);have hp:=gg.sub.s _ _ gp2;refine⟨.ref a,hv2,a,_,2,.ref p,rfl,rfl,hT,zlt _ _ _ _,zaY hp,p,us,.int 0,rfl,rfl,hp,by rw [zic rrs];exact hes,?_⟩
       have g1p:G1 p=none:=F1.sub.free np0;have g2:=g.trans gg;generalize hGG:upd G' ll (.lst vs)=GG at gp2 g2 gg;generalize hHH:upd H' ll (.lst vs)=HH at hp g2 gg;have gn:Gr G1 H1 (upd GG p (.lst (us++[.int 0]))) (upd HH p (.lst (us++[.int 0]))):=by
        refine⟨fun b o e=>?_,g2.h.chg np0 hp (fun f z=>by cases z),⟨fun b o e=>?_,fun b f e=>?_⟩,fun b o e=>?_⟩
        . rw [zg (fun z=>by rw [z,g1p] at e;cases e)];exact g2.g b o e
        . by_cases z:b=p
          . subst z;rw [zo] at e ⊢;exact e
          . rw [zg z] at e ⊢;exact gg.sub.s b o e
        . by_cases z:b=p
          . subst z;rw [zo] at e;cases e
          . rw [zg z] at e;exact gg.sub.cl b f e
        . by_cases z:b=p
          . subst z;exact .inr np0
          . rw [zg z] at e;exact g2.new b o e
       have F2:=Fr3.drops J ((F1.gr gn).drop (i:=i));have key:∀ (k:Nat) (c:Cl),(drops J (ρ1.set i none))[k]?=some (some c)->(σ.set jr (some (.ref ll)))[k]? = σ1[k]?:=fun k c e=>by
        obtain⟨n1,e⟩:=zfI J e
        rcases zM e with ⟨_,q,_⟩|⟨n2,_⟩
        . cases q
        . rw [zaw h3 k n1];exact hσ k (WbM n2) n1
       have F3:Fr3 X.K H0 G0 (drops J (ρ1.set i none)) (σ.set jr (some (.ref ll))) (upd GG p (.lst (us++[.int 0]))) (upd HH p (.lst (us++[.int 0]))):={
        keep:=F2.keep
        sub:=F2.sub
        old:=F2.old
        g0:=F2.g0
        slot:=fun k c e=>by rw [key k c e];exact F2.slot k c e
        mine:=fun k c v a e e' h=>by rw [key k _ e] at e';exact F2.mine k c v a e e' h
        apart:=fun k m c1 c2 v1 v2 a e1 e2 e3 e4 h1 h2=>by rw [key k _ e1] at e3;rw [key m _ e2] at e4;exact F2.apart k m c1 c2 v1 v2 a e1 e2 e3 e4 h1 h2
        len:=by rw [YaN,hl];exact F2.len }
       have hoff:∀ b o,b≠p->G b=some o->upd GG p (.lst (us++[.int 0])) b=some o:=fun b o z e=>by rw [zg z];exact gg.g b o e
       have h0p:H0 p=none:=F1.keep.free np0;have lp:ll≠p:=fun z=>by
        have:=g'.sub.s _ _ (g'.g _ _ gp);rw [<-z,hll] at this;cases this
       have rn:RdN X.K H0 (upd GG p (.lst (us++[.int 0]))) (.ref a) (.tuple [d0,d1,.list (es++[.int 0]),d3]):=
        .tup (zd3 gp hoff qT) (.cons (zcz gp hoff f0 r0) (.cons (zcz gp hoff f1 r1) (.cons (.lst zo h0p (za9 (ds:=es++[.int 0]) (by rw [List.all_append,fe];rfl) ((rdns_rd rrs).append (.cons (.int 0) .nil)))) (.cons (zcz gp hoff f3 r3) .nil))))
       have F4:=F3.at hv2 (f:=true) ⟨ZE rn,fun _=>rn⟩
       have ht2:(σ.set jr (some (.ref ll)))[jt]?=some (some (.int n)):=by rw [Yac (WbM h1)];exact hw'
       have F5:=F4.at ht2 (f:=true) (d:=.int n) (.sc rfl (.int n));have rl:RdN X.K H0 (upd GG p (.lst (us++[.int 0]))) (.ref ll) (.list ds):=.lst (by rw [zg lp,<-hGG,zo]) ((F.keep.trans g'.h).free hll) (za9 hds rr.rd)
       have F6:=F5.set (i:=jr) (f:=true) ⟨ZE rl,fun _=>rl⟩
       rw [List.set_set] at F6;exact⟨G0,A,_,_,F6,q,L⟩
end
end L3
namespace L2
open PySem PySem.Spec PyProof.Rows
section
variable{X:Cx}
theorem zdr(n:Int):∀ {us:List Value} {ns:List Int},IntsAre us ns->us.countP (isInt n)=ns.count n
 | _,_,.nil=>rfl
 | _, _, .cons m t h => by
  rw [List.countP_cons,List.count_cons,zdr n h]
  rfl
def zl2(K:Ybf):V->List V->Hp->VK->Prop:=fun x vs H Q=>∃ (p:Addr) (ns:List Int) (n:Int),x=.ref p/\vs=[.int n]/\SqL K H p (ns.map V.int)/\Q (.int (ns.count n:Nat)) H
theorem ziL:MtM X "list.count" (zl2 X.K):=by
 intro pins s σ H x vs v us Q I rx rv h;obtain⟨p,ns,n,rfl,rfl,hq,q⟩:=h;cases rx;obtain⟨u,rfl,t,rfl⟩:=rv.one;obtain⟨its,r,pl,hz⟩:=I.list hq;have hi:=za8 r;obtain⟨⟨cls,dd,data,sl⟩,ho,hc,n',hd⟩:=pl.isList;simp only at hc hd;subst hc hd;refine call_meets PySem.F.slot_list_count ⟨_,ho,rfl⟩ PySem.F.entry_list_count (PySem.F.args_list_count_2 _ _)
  (SeqAt.list_countAt p its.toArray n' dd sl (.int n t) (isInt n)) ⟨ho,fun y hy=>(eq_isInt n t hi y (by simpa using hy)).at _ _,?_⟩
 rw [show its.toArray.toList=its from rfl,zdr n hi]
 exact⟨.int _,H,I.tok _,⟨_,rfl⟩,q⟩
end
end L2
namespace L3
open PySem PySem.Spec PyProof.Rows L2
variable[LamW]
section
variable{X:Cx}{H0:Hp}{e a b:Expr}{pos:Pos}
def zas(to te:TE3):TE3:=fun ρ Q=>to ρ fun c=>∃ ds ns,c.dat=true/\c.d=.list ds/\jN ds=some ns/\te ρ fun c2=>∃ g n,c2=.sh g (.int n)/\Q (.sh true (.int (ns.count n:Nat)))
theorem zl8{o:Expr}{apos:Pos}{to te:TE3}(ho:PE3 X H0 o to)(he:PE3 X H0 e te)(hb:attributeBase o "count" X.env (eval o X.env)=eval o X.env:=by rfl)
 (hf:((backTo pos (starEach [e] X.env)).all (fun x=>!x.1)&&(backToKw pos (keywordEach [] X.env)).all (fun x=>x.1.isSome)&&decide ([e].length+([]:List Keyword).length+(if([]:List Keyword).isEmpty then 0 else 1)<30))=true:=by rfl)
 (hl:(apos.endLine==pos.line)=true:=by rfl) (hs:starEach [e] X.env=(false,eval e X.env)::starEach [] X.env:=by rfl) (hp:(backTo pos (starEach [] X.env)).any (·.1)=false:=by rfl) :
 PE3 X H0 (.Call (.Attribute o "count" apos) [e] [] pos) (zas to te):=by
 refine⟨fun ρ Q Q' h q=>ho.mono ρ _ _ (fun c ⟨ds,ns,a,b,d,q⟩=>⟨ds,ns,a,b,d,he.mono ρ _ _ (fun c2 ⟨g,n,x,q⟩=>⟨g,n,x,h _ q⟩) q⟩) q,PE.imp (za4 Wao PySem.F.slot_list_count PySem.F.type_list_count ziL ho.ok (jv he.ok jD hs) hb hf hl hs hp) fun σ H Q=>el5 fun G0 ρ G F q=>⟨G0,ρ,G,F,ho.mono ρ _ _ (fun c hc0 v G1 H1 g1 w=>?_) q⟩⟩
 obtain⟨ds,ns,hd,hc,hu,q⟩:=hc0;obtain⟨a,vs,rfl,hq,rs⟩:=zak w g1.sub hd hc;refine⟨.inl ⟨rfl,_,hq⟩,G0,ρ,G1,F.gr g1,he.mono ρ _ _ (fun c2 hc1 v2 G2 H2 g2 w2=>?_) q⟩
 obtain⟨g,n,rfl,q⟩:=hc1;have r:=zB (zj w2).rd;subst r;have hvs:=zbm rs.rd hu;subst hvs;exact⟨a,ns,n,rfl,rfl,g2.h.seq hq,q _ G2 H2 (g1.trans g2) (.sh (.sc rfl (.int _)))⟩
def repD(ta tb:TE3):TN3:=fun ρ Q=>ta ρ fun c0=>∃ ds,c0=.sh true (.list ds)/\tb ρ fun c=>asI c fun k=>(-(2 ^ 63)<=k/\k<2 ^ 63)/\ds.length*k.toNat<=sizeLine/\Q true (List.replicate k.toNat ds).flatten
theorem zlU{ta tb:TE3}(ha:PE3 X H0 a ta)(hb:PE3 X H0 b tb):PN3 X H0 (.BinOp a .Mult b pos) (repD ta tb):=
 ⟨fun ρ Q Q' h q=>ha.mono ρ _ _ (fun c0 ⟨ds,e,q⟩=>⟨ds,e,hb.mono ρ _ _ (fun c q=>by obtain⟨k,rfl,h1,h2,q⟩:=za1 q;exact⟨h1,h2,h _ _ q⟩) q⟩) q,
  PE.imp (zcw zg3 ha.ok hb.ok) fun σ H Q=>el5 fun G0 ρ G F q=>⟨G0,ρ,G,F,ha.mono ρ _ _ (fun c0 qa v1 G1 H1 g1 w1=>by
   obtain⟨ds,rfl,qa⟩:=qa;refine⟨G0,ρ,G1,F.gr g1,hb.mono ρ _ _ (fun c hyp v2 G2 H2 g2 w2=>?_) qa⟩
   obtain⟨k,rfl,⟨h1,h2⟩,h3,q⟩:=za1 hyp;have e:=zB (zj w2).rd;subst e;have n:=(zj w1).nw rfl;cases n with
   | lst gp np rs=>
    have rr:Rfs X.K H0 G2 true _ ds:=⟨rdns_rd (rdns_mono g2.g (fun _ _ _ z=>z) rs),fun _=>rdns_mono g2.g (fun _ _ _ z=>z) rs⟩
    exact⟨_,k,_,rfl,rfl,g2.sub.s _ _ (g2.g _ _ gp),h1,h2,by rw [rr.length];exact h3,fun p hp=>q p _ G2 H2 (g1.trans g2) hp (rr.rep _)⟩) q⟩⟩
end
end L3
open PySem PySem.Spec PyProof.Rows L2
namespace Law
open PySem L2 L3
theorem zY{α : Type}{us:List α}(h:us.length=1):∃ a0,us=[a0]:=match us,h with|[a0],_=>⟨a0,rfl⟩
theorem jd{α : Type}{us:List α}(h:us.length=2):∃ a0 a1,us=[a0,a1]:=match us,h with|[a0,a1],_=>⟨a0,a1,rfl⟩
theorem zbV{α : Type}{us:List α}(h:us.length=3):∃ a0 a1 a2,us=[a0,a1,a2]:=match us,h with|[a0,a1,a2],_=>⟨a0,a1,a2,rfl⟩
theorem zmY{α : Type}{us:List α}(h:us.length=4):∃ a0 a1 a2 a3,us=[a0,a1,a2,a3]:=match us,h with|[a0,a1,a2,a3],_=>⟨a0,a1,a2,a3,rfl⟩
def top(i:Nat):Stmt:=PySem.Challenge.pw_chairclans_k25_a_row_that_comes_round.main.body.getD i (.Pass ⟨0,0,0,0⟩)
abbrev JX:Stmt:=top 40
abbrev J4:Stmt:=top 41
abbrev Jh:Stmt:=top 49
abbrev JR:Stmt:=top 13
abbrev Zp:Stmt:=top 7
abbrev JQ:Stmt:=top 16
abbrev Jv:Stmt:=top 14
abbrev Jy:Stmt:=top 15
abbrev Zi:Stmt:=top 17
abbrev Jo:Stmt:=top 18
abbrev j6:Stmt:=top 19
abbrev J8:Stmt:=top 33
abbrev Zd:Stmt:=top 28
abbrev JP:Stmt:=top 27
abbrev J2:Stmt:=top 29
abbrev Za:Stmt:=top 26
abbrev jw:Stmt:=top 30
abbrev JJ:Stmt:=top 21
abbrev Zc:Stmt:=top 22
abbrev Jk:Stmt:=top 23
abbrev J6:Stmt:=top 24
abbrev Ju:Stmt:=top 32
abbrev Jz:Stmt:=top 34
abbrev Zn:Stmt:=top 6
abbrev Zl:Stmt:=top 8
abbrev Zm:Stmt:=top 35
abbrev JL:Stmt:=top 37
abbrev JD:Stmt:=top 50
abbrev Jb:Stmt:=top 43
abbrev Ze:Stmt:=top 39
abbrev JZ:Stmt:=top 45
abbrev JY:Stmt:=top 47
abbrev JE:Stmt:=top 44
abbrev JW:Stmt:=top 48
abbrev Jl:Stmt:=top 46
abbrev Jq:Stmt:=top 51
abbrev lamP:Pos:=match zp jw with
 | .Assign _ (.Call _ _ [⟨_,.Lambda _ _ _ lp,_⟩] _) _::_=>lp
 | _=>⟨0,0,0,0⟩
abbrev lamQ:Str:=(envOfC "deal" (ze jw) 0 0 .none).qual ++ "<lambda>"
instance:LamW:=⟨lamP,lamQ⟩
structure Cl where
 ClanError:Addr
 NoRatio:Addr
 NoSpell:Addr
 TooLong:Addr
 c0:Addr
 tb:Addr
structure Txt(c:Law.Cl)(K:Ybf)(mg:Str->Option Value):Prop where
 d_law_mixed:∃ f fd,Fun K "_law_mixed" "_law_mixed" JX f fd/\mg "_law_mixed" = some (.ref f)
 d_law_wide:∃ f fd,Fun K "_law_wide" "_law_wide" J4 f fd/\mg "_law_wide" = some (.ref f)
 d_law_weights:∃ f fd,Fun K "_law_weights" "_law_weights" Jh f fd/\mg "_law_weights" = some (.ref f)
 d_check_weights:∃ f fd,Fun K "check_weights" "check_weights" JR f fd/\mg "check_weights" = some (.ref f)
 d_common_divisor:∃ f fd,Fun K "common_divisor" "common_divisor" Zp f fd/\mg "common_divisor" = some (.ref f)
 d_divisor_of_all:∃ f fd,Fun K "divisor_of_all" "divisor_of_all" JQ f fd/\mg "divisor_of_all" = some (.ref f)
 d_all_turns:∃ f fd,Fun K "all_turns" "all_turns" Jv f fd/\mg "all_turns" = some (.ref f)
 d_check_spells:∃ f fd,Fun K "check_spells" "check_spells" Jy f fd/\mg "check_spells" = some (.ref f)
 d_least_bottom:∃ f fd,Fun K "least_bottom" "least_bottom" Zi f fd/\mg "least_bottom" = some (.ref f)
 d_shares_over:∃ f fd,Fun K "shares_over" "shares_over" Jo f fd/\mg "shares_over" = some (.ref f)
 d_quotas:∃ f fd,Fun K "quotas" "quotas" j6 f fd/\mg "quotas" = some (.ref f)
 d_possible_rooms:∃ f fd,Fun K "possible_rooms" "possible_rooms" J8 f fd/\mg "possible_rooms" = some (.ref f)
 d_is_late:∃ f fd,Fun K "is_late" "is_late" Zd f fd/\mg "is_late" = some (.ref f)
 d_place_of_opened:∃ f fd,Fun K "place_of_opened" "place_of_opened" JP f fd/\mg "place_of_opened" = some (.ref f)
 d_start_of_crowd:∃ f fd,Fun K "start_of_crowd" "start_of_crowd" J2 f fd/\mg "start_of_crowd" = some (.ref f)
 d_pressing:∃ f fd,Fun K "pressing" "pressing" Za f fd/\mg "pressing" = some (.ref f)
 d_deal:∃ f fd,Fun K "deal" "deal" jw f fd/\mg "deal" = some (.ref f)
 d_first_turn:∃ f fd,Fun K "first_turn" "first_turn" JJ f fd/\mg "first_turn" = some (.ref f)
 d_window_of:∃ f fd,Fun K "window_of" "window_of" Zc f fd/\mg "window_of" = some (.ref f)
 d_windows_of_clan:∃ f fd,Fun K "windows_of_clan" "windows_of_clan" Jk f fd/\mg "windows_of_clan" = some (.ref f)
 d_windows_within:∃ f fd,Fun K "windows_within" "windows_within" J6 f fd/\mg "windows_within" = some (.ref f)
 d_dealt_within:∃ f fd,Fun K "dealt_within" "dealt_within" Ju f fd/\mg "dealt_within" = some (.ref f)
 d_least_room:∃ f fd,Fun K "least_room" "least_room" Jz f fd/\mg "least_room" = some (.ref f)
 d_is_whole:∃ f fd,Fun K "is_whole" "is_whole" Zn f fd/\mg "is_whole" = some (.ref f)
 d_ratio:∃ f fd,Fun K "ratio" "ratio" Zl f fd/\mg "ratio" = some (.ref f)
 d_least:∃ f fd,Fun K "least" "least" Zm f fd/\mg "least" = some (.ref f)
 d_round_of:∃ f fd,Fun K "round_of" "round_of" JL f fd/\mg "round_of" = some (.ref f)
 d_law_period:∃ f fd,Fun K "_law_period" "_law_period" JD f fd/\mg "_law_period" = some (.ref f)
 d_law_quotas:∃ f fd,Fun K "_law_quotas" "_law_quotas" Jb f fd/\mg "_law_quotas" = some (.ref f)
 d_law_cell_at:∃ f fd,Fun K "_law_cell_at" "_law_cell_at" Ze f fd/\mg "_law_cell_at" = some (.ref f)
 d_law_whole:∃ f fd,Fun K "_law_whole" "_law_whole" JZ f fd/\mg "_law_whole" = some (.ref f)
 d_law_is_row:∃ f fd,Fun K "_law_is_row" "_law_is_row" JY f fd/\mg "_law_is_row" = some (.ref f)
 d_law_ratio:∃ f fd,Fun K "_law_ratio" "_law_ratio" JE f fd/\mg "_law_ratio" = some (.ref f)
 d_law_is_ratio:∃ f fd,Fun K "_law_is_ratio" "_law_is_ratio" JW f fd/\mg "_law_is_ratio" = some (.ref f)
 d_law_far:∃ f fd,Fun K "_law_far" "_law_far" Jl f fd/\mg "_law_far" = some (.ref f)
 d_law:∃ f fd,Fun K "law" "law" Jq f fd/\mg "law" = some (.ref f)
 x_deal:∃ f fd,Fun K "deal" "deal" jw f fd/\mg "deal" = some (.ref f)/\fd.code=.ref c.c0
 hdC:∀ h,K.In h->PySem.W.CodeHd h c.c0 c.tb
 tab:PySem.W.tabIn K "deal" = some (c.c0,c.tb)
 nop:K.lookup c.tb=none
 m_ClanError:mg "ClanError" = some (.ref c.ClanError)
 m_NoRatio:mg "NoRatio" = some (.ref c.NoRatio)
 m_NoSpell:mg "NoSpell" = some (.ref c.NoSpell)
 m_TooLong:mg "TooLong" = some (.ref c.TooLong)
 e_NoSpell:PySem.W.excIn K c.NoSpell bmVE "ValueError.__new__" = true
 e_NoRatio:PySem.W.excIn K c.NoRatio bmVE "ValueError.__new__" = true
 e_TooLong:PySem.W.excIn K c.TooLong bmVE "ValueError.__new__" = true
 n_abs:mg "abs" = none
 n_bool:mg "bool" = none
 n_enumerate:mg "enumerate" = none
 n_int:mg "int" = none
 n_isinstance:mg "isinstance" = none
 n_len:mg "len" = none
 n_list:mg "list" = none
 n_max:mg "max" = none
 n_min:mg "min" = none
 n_range:mg "range" = none
 n_sorted:mg "sorted" = none
 n_sum:mg "sum" = none
 n_tuple:mg "tuple" = none
 n_zip:mg "zip" = none
 m_MOST_SPELLS:∃ t,mg "MOST_SPELLS" = some (.int 8 t)
 m_MOST_CLANS:∃ t,mg "MOST_CLANS" = some (.int 8 t)
 m_MOST_TURNS:∃ t,mg "MOST_TURNS" = some (.int 60 t)
theorem zcj{g l:Int}(hg:0<=g)(hl:0<l):Int.gcd l (g%l)=Int.gcd g l:=by
 obtain⟨m,rfl⟩:=Waq hg;obtain⟨n,rfl⟩:=Waq (WbE hl);rw [<-Int.natCast_emod,Int.gcd_natCast_natCast,Int.gcd_natCast_natCast,Nat.gcd_comm n,<-Nat.gcd_rec,Nat.gcd_comm]
theorem zbU{g:Int}(hg:0<=g):(Int.gcd g 0:Int)=g:=by
 rw [Int.gcd_zero_right];omega
theorem zeG(a b:Int):Int.gcd (if a<0 then -a else a) (if b<0 then -b else b)=Int.gcd a b:=by
 split<;>split<;>simp
def dR(a b:Int):D:=.tuple [.int (a/(Int.gcd a b:Int)),.int (b/(Int.gcd a b:Int))]
theorem zbc{a b:Int}(h:0<b):0<(Int.gcd a b:Int):=by
 have:0<Int.gcd a b:=Wab _ #[0]
 omega
theorem zgw{a b:Int}{k:Nat}(h:0<b)(hb:Bits k b):Bits k (Int.gcd a b:Int):=by
 refine hb.le ?_
 have:=Int.gcd_le_right a (show 0<b from h)
 omega
theorem zbs{x a b:Int}(h:0<b)(hb:Bits 9000 b):ZQ x (Int.gcd a b:Int):=⟨zbc h,zgw h hb⟩
abbrev Spell:=Int×List Int
def dI(ns:List Int):D:=.list (ns.map .int)
def dS(s:Spell):D:=.tuple [.int s.1,dI s.2]
def dSs(l:List Spell):D:=.list (l.map dS)
def okW(ws:List Int):Prop:=(1<=ws.length/\ws.length<=8)/\(∀ w∈ws,0<=w/\w<10 ^ 30)/\ws.sum≠0
def tot(l:List Spell):Int:=(l.map (·.1)).sum
def many(l:List Spell):Nat:=(l.headD (0,[])).2.length
def okS(l:List Spell):Prop:=(1<=l.length/\l.length<=8)/\(∀ s∈l,1<=s.1/\okW s.2/\s.2.length=many l)/\tot l<=60
theorem p30:Zz 10 30:=powB (k:=4) (by unfold Bits;decide) #[1] #[1]
theorem ZW:∀ {ws:List Int},(∀ w∈ws,0<=w)->0<=ws.sum
 | [],_=>by simp
 | w :: ws, h => by
  rw [List.sum_cons];have:=ZW (ws:=ws) fun x hx=>h x (YaT _ hx)
  have:=h w YaV
  omega
theorem zc4{B:Int}:∀ {ws:List Int},(∀ w∈ws,w<B)->ws.sum<=ws.length*B
 | [],_=>by simp
 | w :: ws, h => by
  rw [List.sum_cons,List.length_cons];have:=zc4 (ws:=ws) fun x hx=>h x (YaT _ hx)
  have:=h w YaV;have e:((ws.length+1:Nat):Int)*B=ws.length*B+B:=by rw [Int.natCast_add,WbI];simp
  omega
theorem z8{ws:List Int}(h:okW ws):0<ws.sum:=by
 have:=ZW fun w hw=>(h.2.1 w hw).1
 have:=h.2.2
 omega
theorem zm3{ws:List Int}(h:okW ws):ws.sum<=8*10 ^ 30:=by
 have h1:=zc4 (B:=10 ^ 30) fun w hw=>(h.2.1 w hw).2
 have h2:(ws.length:Int)*10 ^ 30<=8*10 ^ 30:=Ybe (by have:=h.1.2;omega) #[1]
 omega
theorem zfF{x B:Int}{k:Nat}(h0:0<=x)(h:x<=B)(hB:B.natAbs<2 ^ k):Bits k x:=by
 unfold Bits
 omega
theorem jX{ws:List Int}(h:okW ws):Bits 103 ws.sum:=zfF (WbE (z8 h)) (zm3 h) #[1]
theorem zbn{ws:List Int}(h:okW ws){w:Int}(hw:w∈ws):Bits 100 w:=zfF (h.2.1 w hw).1 (WbE (h.2.1 w hw).2) #[1]
def gcdL(ws:List Int):Int:=ws.foldl (fun a b=>(Int.gcd a b:Int)) 0
def parts(ws:List Int):Int:=ws.sum/gcdL ws
def bot1(b:Int)(s:Spell):Int:=b*parts s.2/(Int.gcd b (parts s.2):Int)
def bot(l:List Spell):Int:=l.foldl bot1 1
theorem zcF:∀ (ws:List Int) (a:Int),0<=a->0<=ws.foldl (fun a b=>(Int.gcd a b:Int)) a/\ws.foldl (fun a b=>(Int.gcd a b:Int)) a∣a/\∀ w∈ws,ws.foldl (fun a b=>(Int.gcd a b:Int)) a∣w
 | [],a,h=>⟨h,Int.dvd_refl _,fun w hw=>by cases hw⟩
 | w :: ws, a, h => by
  obtain⟨h1,h2,h3⟩:=zcF ws (Int.gcd a w:Int) #[0]
  refine⟨h1,Wbu h2 (Wba a w),fun x hx=>?_⟩
  rcases Wbp.mp hx with rfl|hx
  . exact Wbu h2 (WaX a x)
  . exact h3 x hx
theorem zjH(ws:List Int):0<=gcdL ws:=(zcF ws 0 #[1]).1
theorem zcT{ws:List Int}{w:Int}(h:w∈ws):gcdL ws∣w:=(zcF ws 0 #[1]).2.2 w h
theorem zf4{d:Int}:∀ {ws:List Int},(∀ w∈ws,d∣w)->d∣ws.sum
 | [],_=>by simp
 | w :: ws, h => by
  rw [List.sum_cons];exact Int.dvd_add (h w YaV) (zf4 fun x hx=>h x (YaT _ hx))
theorem zc1(ws:List Int):gcdL ws∣ws.sum:=zf4 fun w hw=>zcT hw
theorem Jf{ws:List Int}(h:okW ws):0<gcdL ws:=by
 have h1:=zjH ws;have h2:=z8 h;have h3:=zc1 ws
 by_cases e:gcdL ws=0
 . rw [e] at h3
   have:=Int.zero_dvd.mp h3
   omega
 . omega
theorem zcG{ws:List Int}(h:okW ws):gcdL ws<=ws.sum:=Wbv (z8 h) (zc1 ws)
theorem zaf{ws:List Int}:parts ws*gcdL ws=ws.sum:=Yaw (zc1 ws)
theorem jq{ws:List Int}(h:okW ws):0<parts ws:=by
 have h1:=Jf h;have h2:=z8 h;have h3:=zaf (ws:=ws)
 by_cases e:0<parts ws
 . exact e
 . have:parts ws*gcdL ws<=0:=Int.mul_nonpos_of_nonpos_of_nonneg #[0] #[0]
   omega
theorem zmH{ws:List Int}(h:okW ws):parts ws<=ws.sum:=Int.ediv_le_self _ (WbE (z8 h))
theorem zcM{ws:List Int}(h:okW ws):Bits 103 (parts ws):=(jX h).le (by have:=jq h;have:=zmH h;omega)
theorem zcZ{b p:Int}(h:0<p):(0:Int)<(Int.gcd b p:Int):=by
 have:=Wab b (show p≠0 by omega)
 omega
theorem zn3{b p:Int}(h:0<p):(Int.gcd b p:Int)<=p:=Wbv h (WaX b p)
theorem zfk{b:Int}{s:Spell}(hb:0<b)(h:okW s.2):0<bot1 b s:=by
 have h1:=jq h;have h2:=zcZ (b:=b) h1;have h3:(Int.gcd b (parts s.2):Int)∣b*parts s.2:=Wbu (Wba _ _) (WaY _ _);have h4:=Yaw h3;have h5:0<b*parts s.2:=Int.mul_pos hb h1;unfold bot1
 by_cases e:0<b*parts s.2/(Int.gcd b (parts s.2):Int)
 . exact e
 . have:b*parts s.2/(Int.gcd b (parts s.2):Int)*(Int.gcd b (parts s.2):Int)<=0:=Int.mul_nonpos_of_nonpos_of_nonneg #[0] #[0]
   omega
theorem zjp{b:Int}{s:Spell}{k:Nat}(hb:0<b)(hk:Bits k b)(h:okW s.2):Bits (k+103) (bot1 b s):=(hk.mul (zcM h)).le (by
 have h5:0<b*parts s.2:=Int.mul_pos hb (jq h);have h6:=zfk hb h;have h7:bot1 b s<=b*parts s.2:=Int.ediv_le_self _ (WbE h5)
 omega)
theorem zbk:∀ (l:List Spell) (b:Int) (k:Nat),(∀ s∈l,okW s.2)->0<b->Bits k b->0<l.foldl bot1 b/\Bits (k+103*l.length) (l.foldl bot1 b)
 | [],b,k,_,h,h'=>⟨h,by simpa using h'⟩
 | s :: l, b, k, hs, h, h' => by
  have hw:=hs s YaV;have:=zbk l (bot1 b s) (k+103) (fun x hx=>hs x (YaT _ hx)) (zfk h hw) (zjp h h' hw)
  refine⟨this.1,this.2.mono ?_⟩
  rw [List.length_cons];omega
theorem zR{l:List Spell}(h:okS l):0<bot l:=(zbk l 1 1 (fun s hs=>(h.2.1 s hs).2.1) #[1] (by unfold Bits;decide)).1
theorem zar{l:List Spell}(h:okS l):Bits 900 (bot l):=(zbk l 1 1 (fun s hs=>(h.2.1 s hs).2.1) #[1] (by unfold Bits;decide)).2.mono (by have:=h.1.2;omega)
def shares(b:Int)(ws:List Int):List Int:=ws.map fun w=>w*b/ws.sum
def addL(xs ys:List Int):List Int:=(xs.zip ys).map fun p=>p.1+p.2
def zr(sh:List Int)(p:List Int×List (List Int)):List Int×List (List Int):=(addL p.1 sh,p.2++[addL p.1 sh])
def rep{α : Type}(f:α->α):Nat->α->α
 | 0,x=>x
 | n+1,x=>rep f n (f x)
def runQ(b:Int)(l:List Spell)(p:List Int×List (List Int)):List Int×List (List Int):=l.foldl (fun p s=>rep (zr (shares b s.2)) s.1.toNat p) p
def zeros(l:List Spell):List Int:=List.replicate (many l) 0
def quo(l:List Spell):List (List Int):=(runQ (bot l) l (zeros l,[zeros l])).2
theorem zaF(sh:List Int):∀ n p,(rep (zr sh) n p).2.length=p.2.length+n
 | 0,p=>rfl
 | n+1,p=>by rw [rep,zaF sh n];simp [zr];omega
theorem jc{l:List Spell}(h:∀ s∈l,1<=s.1):0<=tot l:=ZW fun w hw=>by
 obtain⟨s,hs,rfl⟩:=Ya7.mp hw;have:=h s hs;omega
theorem zkb{l:List Spell}(h:∀ s∈l,1<=s.1){s:Spell}(hs:s∈l):s.1<=tot l:=by
 unfold tot
 induction l with
 | nil=>cases hs
 | cons a l ih=>
  rw [Ya1,List.sum_cons];have h1:0<=(l.map (·.1)).sum:=jc fun x hx=>h x (YaT _ hx)
  have h2:=h a YaV
  rcases Wbp.mp hs with rfl|hs
  . omega
  . have:=ih (fun x hx=>h x (YaT _ hx)) hs
    omega
theorem jZ{l:List Spell}(h:okS l):((quo l).length:Int)=tot l+1:=by
 have key:∀ (l:List Spell) (b:Int) (p:List Int×List (List Int)),(∀ s∈l,1<=s.1)->((runQ b l p).2.length:Int)=p.2.length+tot l:=by
  intro l
  induction l with
  | nil=>intro b p _;simp [runQ,tot]
  | cons s l ih=>
   intro b p hs;have h1:=hs s YaV;have:=ih b (rep (zr (shares b s.2)) s.1.toNat p) fun x hx=>hs x (YaT _ hx)
   show((runQ b l (rep (zr (shares b s.2)) s.1.toNat p)).2.length:Int)=_
   rw [this,zaF];unfold tot;rw [Ya1,List.sum_cons]
   omega
 have:=key l (bot l) (zeros l,[zeros l]) fun s hs=>(h.2.1 s hs).1
 unfold quo;rw [this];simp;omega
theorem zmt(ws:List Int):(ws.map PyData.int).all zt=true:=by
 rw [Wa6];intro x hx;obtain⟨i,_,rfl⟩:=Ya7.mp hx;rfl
theorem za3:∀ (xs:List Int) (x:Int),(xs.foldl (fun a b=>if b > a then b else a) x∈x::xs)/\x<=xs.foldl (fun a b=>if b > a then b else a) x/\∀ w∈xs,w<=xs.foldl (fun a b=>if b > a then b else a) x
 | [],x=>⟨by simp,WbJ _,fun w h=>by cases h⟩
 | y :: ys, x => by
  rw [List.foldl_cons]
  by_cases h:y > x
  . rw [if_pos h]
    obtain⟨h1,h2,h3⟩:=za3 ys y;exact⟨YaT _ h1,#[0],fun w hw=>by
     rcases Wbp.mp hw with rfl|hw
     . exact h2
     . exact h3 w hw⟩
  . rw [if_neg h]
    obtain⟨h1,h2,h3⟩:=za3 ys x;refine⟨?_,h2,fun w hw=>?_⟩
    . rcases Wbp.mp h1 with z|z
      . rw [z];exact YaV
      . exact YaT _ (YaT _ z)
    . rcases Wbp.mp hw with rfl|hw
      . omega
      . exact h3 w hw
theorem zjN{ws:List Int}(h:ws≠[]):maxL ws∈ws:=by
 cases ws with
 | nil=>exact absurd rfl h
 | cons x xs=>exact(za3 xs x).1
theorem zj0{ws:List Int}{w:Int}(h:w∈ws):w<=maxL ws:=by
 cases ws with
 | nil=>cases h
 | cons x xs=>
  rcases Wbp.mp h with rfl|h
  . exact(za3 xs w).2.1
  . exact(za3 xs x).2.2 w h
theorem zjZ{b:Int}{s:Spell}(h:okW s.2):parts s.2∣bot1 b s:=by
 unfold bot1;rw [WbF,Int.mul_ediv_assoc _ (Wba b (parts s.2))];exact WaY _ _
theorem zi0{b:Int}{s:Spell}:b∣bot1 b s:=by
 unfold bot1;rw [Int.mul_ediv_assoc _ (WaX b (parts s.2))];exact WaY _ _
theorem zaZ{a b:List Int}(h:a.length=b.length):(addL a b).length=a.length:=by unfold addL;rw [YaR,Wbh];omega
theorem zbJ(b:Int)(ws:List Int):(shares b ws).length=ws.length:=YaR ..
theorem zeR:∀ (l:List Spell) (b:Int),b∣l.foldl bot1 b
 | [],b=>Int.dvd_refl b
 | s::l,b=>Wbu zi0 (zeR l (bot1 b s))
theorem zdb:∀ (l:List Spell) (b:Int),(∀ s∈l,okW s.2)->∀ s∈l,parts s.2∣l.foldl bot1 b
 | [],b,_,s,h=>by cases h
 | a :: l, b, hok, s, h => by
  rcases Wbp.mp h with rfl|h
  . exact Wbu (zjZ (hok s YaV)) (zeR l _)
  . exact zdb l _ (fun x hx=>hok x (YaT _ hx)) s h
theorem zdd{b w:Int}{ws:List Int}(h:okW ws)(hd:parts ws∣b)(hw:w∈ws):w*b/ws.sum*ws.sum=w*b:=by
 apply Yaw
 obtain⟨k,rfl⟩:=hd;obtain⟨j,hj⟩:=zcT hw;have hp:=zaf (ws:=ws);refine⟨j*k,?_⟩;rw [<-hp,hj];simp only [Wbw,WbF,WaZ]
theorem zf5{b b':Int}{ws:List Int}(h:okW ws)(hd:parts ws∣b)(hd':parts ws∣b'):(shares b ws).map (· * b')=(shares b' ws).map (· * b):=by
 unfold shares;rw [YaD,YaD]
 apply Yat
 intro w hw;simp only [Function.comp];have h1:=zdd h hd hw;have h2:=zdd h hd' hw;have hs:=z8 h
 apply Wae (show ws.sum≠0 by omega)
 generalize w*b/ws.sum=x at h1;generalize w*b'/ws.sum=y at h2;have e1:x*b'*ws.sum=x*ws.sum*b':=by simp only [Wbw,WbF,WaZ]
 have e2:y*b*ws.sum=y*ws.sum*b:=by simp only [Wbw,WbF,WaZ]
 rw [e1,e2,h1,h2];simp only [Wbw,WbF,WaZ]
def JT(b b':Int)(p p':List Int×List (List Int)):Prop:=p.1.map (· * b')=p'.1.map (· * b)/\p.2.map (List.map (· * b'))=p'.2.map (List.map (· * b))
theorem zfS(c:Int)(a d:List Int):(addL a d).map (· * c)=addL (a.map (· * c)) (d.map (· * c)):=by
 unfold addL;rw [List.zip_map,YaD,YaD]
 apply Yat
 intro p _;simp only [Function.comp,Prod.map,WbI]
theorem ziM{b b':Int}{sh sh':List Int}(hs:sh.map (· * b')=sh'.map (· * b)){p p':List Int×List (List Int)}(h:JT b b' p p'):JT b b' (zr sh p) (zr sh' p'):=by
 have e:(addL p.1 sh).map (· * b')=(addL p'.1 sh').map (· * b):=by rw [zfS,zfS,h.1,hs]
 refine⟨e,?_⟩
 show(p.2++[addL p.1 sh]).map _=(p'.2++[addL p'.1 sh']).map _
 rw [Ya2,Ya2,h.2,Ya1,Ya1,e];rfl
theorem ze3{b b':Int}{sh sh':List Int}(hs:sh.map (· * b')=sh'.map (· * b)):∀ (n:Nat) {p p':List Int×List (List Int)},JT b b' p p'->JT b b' (rep (zr sh) n p) (rep (zr sh') n p')
 | 0,_,_,h=>h
 | n+1,_,_,h=>ze3 hs n (ziM hs h)
theorem zdI{b b':Int}:∀ (l:List Spell),(∀ s∈l,okW s.2/\parts s.2∣b/\parts s.2∣b')->∀ {p p':List Int×List (List Int)},JT b b' p p'->JT b b' (runQ b l p) (runQ b' l p')
 | [],_,_,_,h=>h
 | s :: l, hs, p, p', h => by
  obtain⟨h1,h2,h3⟩:=hs s YaV;exact zdI l (fun x hx=>hs x (YaT _ hx)) (ze3 (zf5 h1 h2 h3) s.1.toNat h)
def zy(l:List Spell):Int:=l.foldl (fun b s=>b*s.2.sum) 1
def quoB(b:Int)(l:List Spell):List (List Int):=(runQ b l (zeros l,[zeros l])).2
theorem zfs:∀ (l:List Spell) (b:Int),b∣l.foldl (fun b s=>b*s.2.sum) b
 | [],b=>Int.dvd_refl b
 | s::l,b=>Wbu (WaY b s.2.sum) (zfs l _)
theorem zcm{l:List Spell}{s:Spell}(h:s∈l):s.2.sum∣zy l:=by
 have:∀ (l:List Spell) (b:Int),s∈l->s.2.sum∣l.foldl (fun b s=>b*s.2.sum) b:=by
  intro l
  induction l with
  | nil=>intro b h;cases h
  | cons a l ih=>
   intro b h
   rcases Wbp.mp h with rfl|h
   . exact Wbu (Int.dvd_mul_left b s.2.sum) (zfs l _)
   . exact ih _ h
 exact this l 1 h
theorem zat:∀ (l:List Spell) (b:Int) (k:Nat),(∀ s∈l,okW s.2)->0<b->Bits k b->0<l.foldl (fun b s=>b*s.2.sum) b/\Bits (k+103*l.length) (l.foldl (fun b s=>b*s.2.sum) b)
 | [],b,k,_,h,hb=>⟨h,hb.mono (by simp)⟩
 | s :: l, b, k, hs, h, hb => by
  have h1:=hs s YaV;have:=zat l (b*s.2.sum) (k+103) (fun t ht=>hs t (YaT _ ht)) (Int.mul_pos h (z8 h1)) (hb.mul (jX h1))
  exact⟨this.1,this.2.mono (by rw [List.length_cons];omega)⟩
theorem zfa{l:List Spell}(h:okS l):0<zy l:=(zat l 1 1 (fun s hs=>(h.2.1 s hs).2.1) #[1] (by unfold Bits;decide)).1
theorem zhk(ws:List Int):parts ws∣ws.sum:=⟨gcdL ws,zaf.symm⟩
theorem zdy{l:List Spell}(h:okS l):(quo l).map (List.map (· * zy l))=(quoB (zy l) l).map (List.map (· * bot l)):=by
 have:=zdI (b:=bot l) (b':=zy l) l (fun s hs=>⟨(h.2.1 s hs).2.1,zdb l 1 (fun t ht=>(h.2.1 t ht).2.1) s hs,Wbu (zhk s.2) (zcm hs)⟩) (p:=(zeros l,[zeros l])) (p':=(zeros l,[zeros l])) ?_
 . exact this.2
 . unfold JT zeros;simp
theorem znW(b:Int):∀ (l:List Spell) (p:List Int×List (List Int)),(∀ s∈l,1<=s.1)->((runQ b l p).2.length:Int)=p.2.length+tot l:=by
 intro l
 induction l with
 | nil=>intro p _;simp [runQ,tot]
 | cons s l ih=>
  intro p hs;have h1:=hs s YaV;have:=ih (rep (zr (shares b s.2)) s.1.toNat p) fun x hx=>hs x (YaT _ hx)
  show((runQ b l (rep (zr (shares b s.2)) s.1.toNat p)).2.length:Int)=_
  rw [this,zaF];unfold tot;rw [Ya1,List.sum_cons]
  omega
theorem zgq{l:List Spell}(h:okS l)(b:Int):((quoB b l).length:Int)=tot l+1:=by
 unfold quoB;rw [znW b l _ fun s hs=>(h.2.1 s hs).1]
 simp;omega
def ji(n:Nat)(p:List Int×List (List Int)):Prop:=p.1.length=n/\∀ r∈p.2,r.length=n
theorem zed{n:Nat}{sh:List Int}(hs:sh.length=n):∀ (k:Nat) (p:List Int×List (List Int)),ji n p->ji n (rep (zr sh) k p)
 | 0,p,h=>h
 | k + 1, p, h => zed hs k _ (by
  have e:(addL p.1 sh).length=n:=by rw [zaZ (by rw [h.1,hs]),h.1]
  refine⟨e,fun r hr=>?_⟩
  rcases Ya3.mp hr with z|z
  . exact h.2 r z
  . rw [Ya6.mp z];exact e)
theorem zff{n:Nat}(b:Int):∀ (l:List Spell) (p:List Int×List (List Int)),(∀ s∈l,s.2.length=n)->ji n p->ji n (runQ b l p)
 | [],p,_,h=>h
 | s::l,p,hs,h=>zff b l _ (fun t ht=>hs t (YaT _ ht)) (zed (by rw [zbJ];exact hs s YaV) _ _ h)
theorem Zg{l:List Spell}(h:okS l){b:Int}{r:List Int}(hr:r∈quoB b l):r.length=many l:=
 (zff b l (zeros l,[zeros l]) (fun s hs=>(h.2.1 s hs).2.2) ⟨by unfold zeros;simp,fun r hr=>by rw [Ya6.mp hr];unfold zeros;simp⟩).2 r hr
theorem zau{l:List Spell}(h:okS l):1<=many l/\many l<=8:=by
 cases l with
 | nil=>have:=h.1.1;simp at this
 | cons a r=>exact(h.2.1 a YaV).2.1.1
theorem zlA(b:Int):∀ (l:List Spell) (p:List Int×List (List Int)) (x:List Int) (r:List (List Int)),p.2=x::r->∃ r',(runQ b l p).2=x::r':=by
 have hrep:∀ (sh:List Int) (k:Nat) (p:List Int×List (List Int)) (x:List Int) (r:List (List Int)),p.2=x::r->∃ r',(rep (zr sh) k p).2=x::r':=by
  intro sh k
  induction k with
  | zero=>intro p x r h;exact⟨r,h⟩
  | succ k ih=>intro p x r h;exact ih (zr sh p) x (r++[addL p.1 sh]) (by show p.2++[_]=_;rw [h];rfl)
 intro l
 induction l with
 | nil=>intro p x r h;exact⟨r,h⟩
 | cons s l ih=>
  intro p x r h;obtain⟨r',h'⟩:=hrep (shares b s.2) s.1.toNat p x r h;exact ih _ x r' h'
theorem zeO(b:Int)(l:List Spell):∃ r,quoB b l=zeros l::r:=zlA b l _ _ [] rfl
def Far(S:List Int)(n:Int):Prop:=0<=n/\(∀ x∈S,x<=n/\-x<=n)/\(n=0\/n∈S\/-n∈S)
theorem Far.le{S:List Int}{n m:Int}(h:Far S n)(h':Far S m):n<=m:=by
 rcases h.2.2 with z|z|z
 . rw [z];exact h'.1
 . exact(h'.2.1 n z).1
 . have:=(h'.2.1 (-n) z).2;omega
theorem Far.uniq{S:List Int}{n m:Int}(h:Far S n)(h':Far S m):n=m:=Int.le_antisymm (h.le h') (h'.le h)
theorem Far.scale{S:List Int}{n c:Int}(hc:0<c)(h:Far S n):Far (S.map (· * c)) (n*c):=by
 refine⟨YaK h.1 #[0],fun x hx=>?_,?_⟩
 . obtain⟨y,hy,rfl⟩:=Ya7.mp hx
   have h1:=Ybe (h.2.1 y hy).1 (show 0<=c by omega)
   have h2:=Ybe (h.2.1 y hy).2 (show 0<=c by omega)
   rw [Int.neg_mul] at h2;exact⟨h1,h2⟩
 . rcases h.2.2 with z|z|z
   . left;rw [z,Int.zero_mul]
   . right;left;exact Ya7.mpr ⟨n,z,rfl⟩
   . right;right;exact Ya7.mpr ⟨-n,z,by rw [Int.neg_mul]⟩
theorem Far.nil:Far [] 0:=⟨#[1],fun x h=>absurd h (by simp),.inl rfl⟩
theorem Far.snoc{S:List Int}{n x m:Int}(h:Far S n)(hm:n<=m)(h1:x<=m)(h2:-x<=m)(he:m=n\/m=x\/m = -x):Far (S++[x]) m:=by
 refine⟨by have:=h.1;omega,fun y hy=>?_,?_⟩
 . rcases Ya3.mp hy with z|z
   . have:=h.2.1 y z;omega
   . rw [Ya6.mp z];exact⟨h1,h2⟩
 . rcases he with z|z|z
   . subst z
     rcases h.2.2 with w|w|w
     . exact .inl w
     . exact .inr (.inl (Yai _ w))
     . exact .inr (.inr (Yai _ w))
   . subst z;exact .inr (.inl (Yaa _ YaV))
   . subst z;exact .inr (.inr (Yaa _ (by simp)))
theorem zkw{S:List Int}{n a b:Int}(h:Far S n):Far (S++[a - b]) (if(if b - a<0 then -(b - a) else b - a) > n then(if b - a<0 then -(b - a) else b - a) else n):=by
 generalize hx:(if b - a<0 then -(b - a) else b - a)=x
 have hx':a - b<=x/\-(a - b)<=x/\(x=a - b\/x = -(a - b)):=by rw [<-hx];split<;>omega
 clear hx
 by_cases z:x > n
 . rw [if_pos z];exact h.snoc #[0] hx'.1 hx'.2.1 (.inr hx'.2.2)
 . rw [if_neg z];exact h.snoc #[0] #[0] #[0] (.inl rfl)
theorem Far.app{S T:List Int}{n m:Int}(h:Far S n)(hm:n<=m)(h1:∀ x∈T,x<=m/\-x<=m)(he:m=n\/m∈T\/-m∈T):Far (S++T) m:=by
 refine⟨by have:=h.1;omega,fun y hy=>?_,?_⟩
 . rcases Ya3.mp hy with z|z
   . have:=h.2.1 y z;omega
   . exact h1 y z
 . rcases he with z|z|z
   . subst z
     rcases h.2.2 with w|w|w
     . exact .inl w
     . exact .inr (.inl (Yai _ w))
     . exact .inr (.inr (Yai _ w))
   . exact .inr (.inl (Yaa _ z))
   . exact .inr (.inr (Yaa _ z))
def had1(b:Int)(h:List Int)(c:Int):List Int:=h.set c.toNat (h.getD c.toNat 0+b)
def hadN(b:Int)(n:Nat)(row:List Int):List Int:=row.foldl (had1 b) (List.replicate n 0)
theorem zhZ(b:Int)(h:List Int)(c:Int):(had1 b h c).length=h.length:=by unfold had1;rw [YaN]
theorem jL(b:Int)(n:Nat)(row:List Int):(hadN b n row).length=n:=by
 have:∀ (row:List Int) (h:List Int),(row.foldl (had1 b) h).length=h.length:=by
  intro row
  induction row with
  | nil=>intro h;rfl
  | cons c r ih=>intro h;rw [List.foldl_cons,ih,zhZ]
 unfold hadN;rw [this,Ybb]
theorem zhX(b:Int)(h:List Int)(c:Int):had1 b (h.map (· * b)) c=(had1 1 h c).map (· * b):=by
 unfold had1;rw [List.map_set]
 congr 1
 rw [YaP,Ya0,YaP];cases h[c.toNat]? with
 | none=>simp
 | some x=>simp [WbI]
theorem zeh(b:Int)(n:Nat)(row:List Int):hadN b n row=(hadN 1 n row).map (· * b):=by
 have:∀ (row:List Int) (h:List Int),row.foldl (had1 b) (h.map (· * b))=(row.foldl (had1 1) h).map (· * b):=by
  intro row
  induction row with
  | nil=>intro h;rfl
  | cons c r ih=>intro h;rw [List.foldl_cons,List.foldl_cons,zhX,ih]
 unfold hadN;rw [<-this]
 congr 1
 simp
theorem zcf(b:Int)(n:Nat)(row:List Int)(c:Int):hadN b n (row++[c])=had1 b (hadN b n row) c:=by unfold hadN;rw [WaR];rfl
def subL(a b:List Int):List Int:=(a.zip b).map fun p=>p.1 - p.2
def zJ(b:Int)(n:Nat)(q:List (List Int))(row:List Int)(t:Nat):List Int:=subL (hadN b n (row.take (t+1))) (q.getD (t+1) [])
def zX(b:Int)(n:Nat)(q:List (List Int))(row:List Int)(k:Nat):List (List Int):=(List.range k).map (zJ b n q row)
theorem zlD(b:Int)(n:Nat)(q:List (List Int))(row:List Int)(k:Nat):zX b n q row (k+1)=zX b n q row k++[zJ b n q row k]:=by
 unfold zX;rw [Wbi,Ya2];rfl
def zP(b:Int)(n:Nat)(q:List (List Int))(row:List Int)(k:Nat):List Int:=(zX b n q row k).flatten
theorem zcA(b:Int)(n:Nat)(q:List (List Int))(row:List Int)(k:Nat):zP b n q row (k+1)=zP b n q row k++zJ b n q row k:=by
 unfold zP;rw [zlD,List.flatten_append];simp
theorem ziT{b c:Int}{h x y:List Int}(e:x.map (· * c)=y.map (· * b)):(subL (h.map (· * b)) x).map (· * c)=(subL (h.map (· * c)) y).map (· * b):=by
 induction h generalizing x y with
 | nil=>simp [subL]
 | cons a h ih=>
  cases x with
  | nil=>
   cases y with
   | nil=>simp [subL]
   | cons _ _=>simp at e
  | cons p x=>
   cases y with
   | nil=>simp at e
   | cons q y=>
    simp only [Ya1,Wbj] at e;have:=ih e.2;simp only [subL,Ya1,List.zip_cons_cons,Wbj] at this ⊢;refine⟨?_,this⟩;rw [WbK,WbK,e.1,Int.mul_right_comm]
theorem ziX{b c:Int}{n:Nat}{q q':List (List Int)}{row:List Int}(e:q.map (List.map (· * c))=q'.map (List.map (· * b)))(k:Nat):(zP b n q row k).map (· * c)=(zP c n q' row k).map (· * b):=by
 induction k with
 | zero=>rfl
 | succ k ih=>
  rw [zcA,zcA,Ya2,Ya2,ih]
  congr 1
  unfold zJ;rw [zeh b,zeh c]
  apply ziT
  have h:=congrArg (fun z=>z.getD (k+1) []) e
  simp only [YaP,Ya0] at h ⊢;cases h1:q[k+1]? <;> cases h2:q'[k+1]? <;> simp [h1,h2] at h ⊢
  . exact h
  . exact h
  . exact h
theorem zl9{b c:Int}(hb:0<b)(hc:0<c){n:Nat}{q q':List (List Int)}{row:List Int}(e:q.map (List.map (· * c))=q'.map (List.map (· * b))){k:Nat}{x y:Int}(hx:Far (zP b n q row k) x)(hy:Far (zP c n q' row k) y):x*c=y*b:=by
 have h1:=hx.scale hc;have h2:=hy.scale hb;rw [ziX e] at h1;exact h1.uniq h2
theorem zdl{a b d:Int}(h:b∣a*d)(hg:Int.gcd a b=1):b∣d:=by
 have h1:b.natAbs∣a.natAbs*d.natAbs:=by rw [<-Int.natAbs_mul];exact Int.natAbs_dvd_natAbs.mpr h
 have h2:Nat.Coprime b.natAbs a.natAbs:=by rw [Nat.coprime_comm];exact hg
 exact Int.natAbs_dvd_natAbs.mp (h2.dvd_of_dvd_mul_left h1)
theorem zlZ{a b c d:Int}(hb:0<b)(hd:0<d)(h1:Int.gcd a b=1)(h2:Int.gcd c d=1)(e:a*d=c*b):a=c/\b=d:=by
 have d1:b∣d:=by
  have:b∣a*d:=⟨c,by rw [e,WbF]⟩
  exact zdl this h1
 have d2:d∣b:=by
  have:d∣c*b:=⟨a,by rw [<-e,WbF]⟩
  exact zdl this h2
 have hbd:b=d:=Int.le_antisymm (Wbv hd d1) (Wbv hb d2);subst hbd;exact⟨Wae #[0] e,rfl⟩
theorem Z9{a b:Int}(h:0<b):0<b/(Int.gcd a b:Int)/\Int.gcd (a/(Int.gcd a b:Int)) (b/(Int.gcd a b:Int))=1/\a/(Int.gcd a b:Int)*(Int.gcd a b:Int)=a/\b/(Int.gcd a b:Int)*(Int.gcd a b:Int)=b:=by
 have hg:0<Int.gcd a b:=Wab _ #[0]
 have h1:(Int.gcd a b:Int)∣a:=Wba a b;have h2:(Int.gcd a b:Int)∣b:=WaX a b;exact⟨Int.ediv_pos_of_pos_of_dvd h #[0] h2,Int.gcd_ediv_gcd_ediv_gcd hg,Yaw h1,Yaw h2⟩
theorem zk3{a b c d:Int}(hb:0<b)(hd:0<d)(e:a*d=c*b):a/(Int.gcd a b:Int)=c/(Int.gcd c d:Int)/\b/(Int.gcd a b:Int)=d/(Int.gcd c d:Int):=by
 obtain⟨p1,g1,x1,y1⟩:=Z9 (a:=a) hb;obtain⟨p2,g2,x2,y2⟩:=Z9 (a:=c) hd;refine zlZ p1 p2 g1 g2 ?_;have hg1:=zbc (a:=a) hb;have hg2:=zbc (a:=c) hd;generalize (Int.gcd a b:Int)=g at *;generalize (Int.gcd c d:Int)=g' at *;generalize a/g=a' at *;generalize b/g=b' at *;generalize c/g'=c' at *;generalize d/g'=d' at *;subst x1 y1 x2 y2;have:(a'*d')*(g*g')=(c'*b')*(g*g'):=by
  rw [show(a'*d')*(g*g')=a'*g*(d'*g') by ac_rfl,e];ac_rfl
 exact Wae (Int.ne_of_gt (Int.mul_pos hg1 hg2)) this
def ju(n:Nat)(T:Nat)(row:List Int):Prop:=row.length=T/\∀ c∈row,0<=c/\c<(n:Int)
theorem znF{ws:List Int}(h:∀ w∈ws,0<=w)(h1:(1:Int)∈ws):ws.sum≠0:=by
 induction ws with
 | nil=>cases h1
 | cons a r ih=>
  rw [List.sum_cons];have h2:=ZW (ws:=r) fun w hw=>h w (YaT _ hw)
  have h3:=h a YaV
  rcases Wbp.mp h1 with rfl|h1
  . omega
  . have:=ih (fun w hw=>h w (YaT _ hw)) h1
    omega
theorem zky(l:List Spell)(s:Spell):zy (l++[s])=zy l*s.2.sum:=by unfold zy;rw [WaR];rfl
theorem zcR{α : Type}(f:α->α):∀ (n:Nat) (x:α),rep f (n+1) x=f (rep f n x)
 | 0,x=>rfl
 | n+1,x=>by show rep f (n+1) (f x)=f (rep f n (f x));exact zcR f n (f x)
theorem zeQ{α : Type}(xs:List α)(x:α):atI (xs++[x]) (-1)=some x:=by
 unfold atI ixN;rw [if_neg #[1],if_pos (by rw [YaS];simp;omega),YaS]
 have:(-1+((xs.length+[x].length:Nat):Int)).toNat=xs.length:=#[6]
 rw [this]
 simp
theorem zbp{xs:List Int}{i:Nat}(h:i<xs.length):atI (xs.map PyData.int) (0+(i:Int))=some (PyData.int xs[i]):=by
 rw [Int.zero_add];have:(xs.map PyData.int)[i]?=some (PyData.int xs[i]):=by rw [Ya0,YaQ h];rfl
 exact J0 this
theorem c64:Zz 10 64:=powB (k:=4) (by unfold Bits;decide) #[1] #[1]
abbrev Rat2:=Int×Int
def dQ(r:Rat2):D:=.tuple [.int r.1,.int r.2]
def okQ(r:Rat2):Prop:=0<r.2/\Bits 1200 r.1/\Bits 1200 r.2
def inQ(r:Rat2):Prop:=0<=r.1/\r.1<=10*r.2
def okB(n:Nat)(l:List (Rat2×Rat2)):Prop:=l.length=n/\∀ p∈l,inQ p.1/\inQ p.2
def z4(b:Int)(r:Rat2):Int:=r.1*b/r.2
theorem zcq{rows:List (List Int)}{i:Nat}(h:i<rows.length):atI (rows.map dI) (i:Int)=some (PyData.list (rows[i].map PyData.int)):=by
 have:(rows.map dI)[i]?=some (PyData.list (rows[i].map PyData.int)):=by rw [Ya0,YaQ h];rfl
 exact J0 this
theorem ZC{xs:List Int}{i:Int}(h0:0<=i)(h:i<xs.length):atI (xs.map PyData.int) i=some (PyData.int (xs.getD i.toNat 0)):=by
 obtain⟨x,h1,_,h2⟩:=zds (xs:=xs) h0 h;rw [zdH,h1,YaP,h2];rfl
def dRoom(p:Int×Int):D:=.tuple [.int p.1,.int p.2]
def zA(b:Int)(l:List (Rat2×Rat2)):List (Int×Int):=l.map fun p=>(z4 b p.1,z4 b p.2)
theorem zh9{ws:List Int}(h:∀ w∈ws,0<=w){w:Int}(hw:w∈ws):w<=ws.sum:=by
 induction ws with
 | nil=>cases hw
 | cons a r ih=>
  rw [List.sum_cons];have h2:=ZW (ws:=r) fun w hw=>h w (YaT _ hw)
  have h3:=h a YaV
  rcases Wbp.mp hw with rfl|hw
  . omega
  . have:=ih (fun w hw=>h w (YaT _ hw)) hw
    omega
theorem zkd{b:Int}{ws:List Int}(h:okW ws)(hb:0<=b){x:Int}(hx:x∈shares b ws):x<=b:=by
 unfold shares at hx;obtain⟨w,hw,rfl⟩:=Ya7.mp hx;have h1:=zh9 (fun w hw=>(h.2.1 w hw).1) hw
 refine Int.ediv_le_of_le_mul (z8 h) ?_
 rw [WbF w b];exact Yau h1 hb
def leP(b:Int)(p:List Int×List (List Int)):Prop:=1<=p.2.length/\(∀ x∈p.1,x<=((p.2.length:Int) - 1)*b)/\∀ r∈p.2,∀ x∈r,x<=((p.2.length:Int) - 1)*b
theorem zlE{b:Int}{sh:List Int}(hb:0<=b)(hs:∀ x∈sh,x<=b){p:List Int×List (List Int)}(h:leP b p):leP b (zr sh p):=by
 obtain⟨h1,h2,h3⟩:=h;have e:(((zr sh p).2.length:Nat):Int) - 1=p.2.length:=by show(((p.2++[_]).length:Nat):Int) - 1=_;rw [YaS];simp
 have hm:((p.2.length:Int) - 1)*b+b=(p.2.length:Int)*b:=by rw [WbK,WbL];omega
 have ha:∀ x∈addL p.1 sh,x<=(p.2.length:Int)*b:=fun x hx=>by
  unfold addL at hx;obtain⟨q,hq,rfl⟩:=Ya7.mp hx;obtain⟨q1,q2⟩:=List.of_mem_zip (a:=q.1) (b:=q.2) hq;have:=h2 _ q1;have:=hs _ q2
  omega
 refine⟨by show 1<=(p.2++[_]).length;rw [YaS];simp,by rw [e];exact ha,fun r hr x hx=>?_⟩
 rw [e]
 rcases Ya3.mp hr with z|z
 . have:=h3 r z x hx;omega
 . rw [Ya6.mp z] at hx;exact ha x hx
theorem zfT{b:Int}{sh:List Int}(hb:0<=b)(hs:∀ x∈sh,x<=b):∀ (n:Nat) {p:List Int×List (List Int)},leP b p->leP b (rep (zr sh) n p)
 | 0,_,h=>h
 | n+1,_,h=>zfT hb hs n (zlE hb hs h)
theorem zdt{b:Int}(hb:0<=b):∀ (l:List Spell) {p:List Int×List (List Int)},(∀ s∈l,okW s.2)->leP b p->leP b (runQ b l p)
 | [],_,_,h=>h
 | s::l,p,hl,h=>zdt hb l (p:=rep (zr (shares b s.2)) s.1.toNat p) (fun t ht=>hl t (YaT _ ht)) (zfT hb (fun x hx=>zkd (hl s YaV) hb hx) _ h)
theorem zbQ{l:List Spell}(h:okS l){b:Int}(hb:0<b):∀ r∈quoB b l,∀ x∈r,x<=tot l*b:=fun r hr x hx=>by
 have:=zdt (b:=b) #[0] l (p:=(zeros l,[zeros l])) (fun s hs=>(h.2.1 s hs).2.1) ⟨by simp,fun x hx=>by
  have:x=0:=Wan hx;rw [this];simp,fun r hr x hx=>by
  rw [Ya6.mp hr] at hx;have:x=0:=Wan hx;rw [this];simp⟩
 have h2:=this.2.2 r hr x hx;have h3:=zgq h b;unfold quoB at h3;have e:(((runQ b l (zeros l,[zeros l])).2.length:Nat):Int) - 1=tot l:=#[0]
 rw [e] at h2;exact h2
theorem zcu{g:TG3}{tb:TS3}{A:Ends3}{f:Bool}{enc:Nat->D}{n:Nat}(P:Nat->Env3->Prop)(s:∀ k ρ,k<n->P k ρ->∀ W:Env3->Prop,(∀ ρ',P (k+1) ρ'->W ρ')->g f (enc k) ρ fun ρ'=>tb { A with nx:=W,ct:=W,bk:=A.nx } ρ')(e:∀ ρ,P n ρ->A.nx ρ){ρ : Env3}(h:P 0 ρ):forL g tb A f ((List.range n).map enc) ρ:=by
 refine j0 enc (List.range n) (fun done ρ=>P done.length ρ) (fun done x rest ρ hd hp W hW=>?_) (fun ρ hp=>e ρ (by rw [YaG] at hp;exact hp)) h
 have hx:x=done.length:=by
  have h1:(List.range n)[done.length]?=some x:=by rw [hd];simp
  have h2:done.length<n:=by have:=congrArg List.length hd;simp at this;omega
  rw [Yax h2] at h1;exact(Wbe h1).symm
 subst hx;have h2:done.length<n:=by have:=congrArg List.length hd;simp at this;omega
 exact s done.length ρ h2 hp W fun ρ' hp'=>hW ρ' (by rw [YaS];exact hp')
def Jd(p:Nat->Bool):Nat->Nat->Nat
 | i,0=>i
 | i,m+1=>if p i=true then i else Jd p (i+1) m
def zx(n:Nat)(p:Nat->Bool):Nat:=Jd p 1 (n - 1)
theorem zjI(p:Nat->Bool):∀ (m i:Nat),i<=Jd p i m/\Jd p i m<=i+m/\(∀ t,i<=t->t<Jd p i m->p t=false)/\(Jd p i m<i+m->p (Jd p i m)=true):=by
 intro m
 induction m with
 | zero=>intro i;exact⟨YaY _,YaY _,fun t h1 h2=>absurd h2 (by show ¬t<i;omega),fun h=>absurd h (by show ¬i<i+0;omega)⟩
 | succ m ih=>
  intro i;unfold Jd
  by_cases h:p i=true
  . rw [if_pos h];exact⟨YaY _,#[0],fun t h1 h2=>absurd h2 #[0],fun _=>h⟩
  . rw [if_neg h]
    obtain⟨a1,a2,a3,a4⟩:=ih (i+1);refine⟨#[0],#[0],fun t h1 h2=>?_,fun hh=>a4 #[0]⟩
    by_cases e:t=i
    . subst e;simpa using h
    . exact a3 t #[0] h2
theorem jj{n:Nat}(hn:1<=n)(p:Nat->Bool):1<=zx n p/\zx n p<=n/\(∀ t,1<=t->t<zx n p->p t=false)/\(zx n p<n->p (zx n p)=true):=by
 obtain⟨a1,a2,a3,a4⟩:=zjI p (n - 1) 1;exact⟨a1,by unfold zx;omega,a3,fun h=>a4 (by unfold zx at h;omega)⟩
theorem zem{n:Nat}(hn:1<=n){p:Nat->Bool}{r:Nat}(h1:1<=r)(h2:r<=n)(h3:∀ t,1<=t->t<r->p t=false)(h4:r<n->p r=true):zx n p=r:=by
 obtain⟨a1,a2,a3,a4⟩:=jj hn p
 rcases Nat.lt_trichotomy (zx n p) r with z|z|z
 . have:=h3 _ a1 z;rw [a4 #[0]] at this;cases this
 . exact z
 . have:=a3 _ h1 z;rw [h4 #[0]] at this;cases this
abbrev Win:=Int×Int×Int×Option Int
def dO:Option Int->D
 | none=>.none
 | some i=>.int i
theorem zgt(f:Bool)(o:Option Int):isNone (Cl.sh f (dO o))=o.isNone:=by cases o<;>rfl
def dW(w:Win):D:=.tuple [.int w.1,.int w.2.1,.int w.2.2.1,dO w.2.2.2]
def winP(n:Nat)(e l:Nat->Bool):Int×Option Int:=(zx n e,if zx n l=n then none else some (zx n l:Nat))
def jl(n:Nat)(w:Int×Option Int):Prop:=w.1<n\/w.2≠none
def IsW(n:Nat)(k:Int)(W:Int->Int×Option Int):Int->List Win->Prop
 | j,[]=>¬jl n (W j)
 | j,w::r=>jl n (W j)/\w=(k,j,(W j).1,(W j).2)/\IsW n k W (j+1) r
theorem IsW.uniq{n:Nat}{k:Int}{W W':Int->Int×Option Int}:∀ {ws ws':List Win} {j:Int},(∀ i,j<=i->W i=W' i)->IsW n k W j ws->IsW n k W' j ws'->ws=ws'
 | [],[],_,_,_,_=>rfl
 | [], w :: r, j, e, h, h' => by
  have h1:¬jl n (W j):=h;have h2:=h'.1;rw [<-e j (WbJ j)] at h2;exact absurd h2 h1
 | w :: r, [], j, e, h, h' => by
  have h1:¬jl n (W' j):=h';have h2:=h.1;rw [e j (WbJ j)] at h2;exact absurd h2 h1
 | w :: r, w' :: r', j, e, h, h' => by
  have e1:=h.2.1;have e2:=h'.2.1;rw [<-e j (WbJ j)] at e2;rw [e1,e2,IsW.uniq (fun i hi=>e i #[0]) h.2.2 h'.2.2]
theorem IsW.len{n:Nat}{k:Int}{W:Int->Int×Option Int}{M:Int}(hM:∀ i,jl n (W i)->i<=M):∀ {ws:List Win} {j:Int},IsW n k W j ws->j<=M+1->(ws.length:Int)<=M+1 - j
 | [],j,_,hj=>by simp;omega
 | w :: r, j, h, hj => by
  have h1:=hM j h.1;have:=IsW.len hM h.2.2 #[0]
  rw [List.length_cons];omega
def zf(q:List (List Int))(k:Nat):List Int:=q.map fun r=>r.getD k 0
def winB(b:Int)(path:List Int)(room:Int×Int)(j:Int):Int×Option Int:=winP path.length (fun t=>decide (j*b - room.2<=path.getD t 0)) (fun t=>decide ((j - 1)*b+room.1+1<=path.getD t 0))
theorem zbY{b:Int}{path:List Int}{room:Int×Int}{M:Int}(hb:0<b)(h1:1<=path.length)(hp:∀ t,path.getD t 0+room.2<=M*b)(hr:0<=room.2)(hr1:0<=room.1)(j:Int)(h:jl path.length (winB b path room j)):j<=M+1:=by
 have key:∀ x:Int,x*b<=M*b+b->x<=M+1:=fun x hx=>by
  have:x*b<=(M+1)*b:=by rw [WbI,WbL];exact hx
  exact YaF this hb
 rcases h with h|h
 . obtain⟨_,_,_,a4⟩:=jj h1 (fun t=>decide (j*b - room.2<=path.getD t 0))
   have := of_decide_eq_true (a4 (by have : ((zx path.length fun t => decide (j * b - room.2 <= path.getD t 0) : Nat) : Int) < path.length := h
                                     omega))
   have h2:=hp (zx path.length fun t=>decide (j*b - room.2<=path.getD t 0))
   exact key j #[0]
 . obtain⟨_,a2,_,a4⟩:=jj h1 (fun t=>decide ((j - 1)*b+room.1+1<=path.getD t 0))
   have hne:zx path.length (fun t=>decide ((j - 1)*b+room.1+1<=path.getD t 0))≠path.length:=fun z=>h (if_pos z)
   have:=of_decide_eq_true (a4 #[0])
   have h2:=hp (zx path.length fun t=>decide ((j - 1)*b+room.1+1<=path.getD t 0))
   have h3:(j - 1)*b=j*b - b:=by rw [WbK,WbL]
   exact key j #[0]
def Zy(L:List (List Int))(R:List (Int×Int)):Prop:=∀ ld∈L,∀ (i:Nat) (x:Int) (p:Int×Int),ld[i]?=some x->R[i]?=some p->-p.1<=x/\x<=p.2
def mxO(a y:Int):Int:=if a<y then y else a
def mx(ld:Nat->Nat->Int)(k:Nat):Nat->Int×Int
 | 0=>(0,0)
 | t+1=>(mxO (mx ld k t).1 (-(ld t k)),mxO (mx ld k t).2 (ld t k))
def ldF(b:Int)(n:Nat)(q:List (List Int))(row:List Int)(t k:Nat):Int:=(zJ b n q row t).getD k 0
theorem IsW.mem{n:Nat}{k:Int}{W:Int->Int×Option Int}{w:Win}:∀ {ws:List Win} {j:Int},IsW n k W j ws->w∈ws->∃ i,j<=i/\w=(k,i,(W i).1,(W i).2)
 | [],j,_,hw=>by cases hw
 | v :: r, j, h, hw => by
  rcases Wbp.mp hw with z|z
  . exact⟨j,WbJ _,by rw [z];exact h.2.1⟩
  . obtain⟨i,a,b⟩:=IsW.mem h.2.2 z
    exact⟨i,#[0],b⟩
theorem zjB{W:List (List Win)}{w:Win}(h:w∈W.flatten):∃ k,k<W.length/\w∈W.getD k []:=by
 obtain⟨l,hl,hw⟩:=Wbb.mp h;obtain⟨k,hk,e⟩:=Yam hl;refine⟨k,hk,?_⟩;rw [YaP,YaQ hk];show w∈W[k];rw [e];exact hw
theorem zeF{W:List (List Win)}{w:Win}{k:Nat}(hk:k<W.length)(h:w∈W.getD k []):w∈W.flatten:=by
 rw [YaP,YaQ hk] at h;exact Wbb.mpr ⟨W[k],Ya4 hk,h⟩
def tk(p:Nat->Bool)(t:Nat):List Nat:=(List.range t).filter p
theorem Jr(p:Nat->Bool)(t:Nat):tk p (t+1)=tk p t++if p t=true then [t] else []:=by
 unfold tk;rw [Wbi,WaI]
 congr 1
 cases h:p t<;>simp [h]
theorem zb7(p:Nat->Bool){s t:Nat}(h:s<=t):∃ r,tk p t=tk p s++r/\∀ x∈r,s<=x:=by
 induction t with
 | zero=>cases Nat.le_zero.mp h;exact⟨[],by simp,fun x h=>by cases h⟩
 | succ t ih=>
  by_cases e:s=t+1
  . subst e;exact⟨[],by simp,fun x h=>by cases h⟩
  . obtain⟨r,h1,h2⟩:=ih #[0]
    refine⟨r++if p t=true then [t] else [],by rw [Jr,h1,Yag],fun x hx=>?_⟩
    rcases Ya3.mp hx with z|z
    . exact h2 x z
    . split at z
      . rw [Ya6.mp z];omega
      . cases z
theorem zal(p:Nat->Bool){s t:Nat}(h:s<=t):(tk p s).length<=(tk p t).length:=by
 obtain⟨r,h1,_⟩:=zb7 p h;rw [h1,YaS];omega
theorem ziQ(p:Nat->Bool){t x:Nat}(h:x∈tk p t):x<t:=Yba.mp (Ya9.mp h).1
theorem ZD(p:Nat->Bool):∀ {t j i:Nat},(tk p t)[j]?=some i->i<t/\(tk p i).length=j/\(tk p (i+1)).length=j+1
 | 0,j,i,h=>by simp [tk] at h
 | t + 1, j, i, h => by
  rw [Jr] at h
  by_cases hj:j<(tk p t).length
  . rw [Yab hj] at h
    obtain⟨a,b⟩:=ZD p h;exact⟨#[0],b⟩
  . rw [Yae #[0]] at h
    split at h
    . rename_i hp
      cases e:j - (tk p t).length with
      | zero=>
       rw [e] at h;cases h;have ej:(tk p t).length=j:=#[0]
       exact⟨#[0],ej,by rw [Jr,if_pos hp,YaS,ej];rfl⟩
      | succ m=>rw [e] at h;simp at h
    . simp at h
theorem zjO(p:Nat->Bool){s t j:Nat}(h:s<=t)(hj:j<(tk p s).length):∃ i,i<s/\(tk p t)[j]?=some i:=by
 obtain⟨r,h1,_⟩:=zb7 p h;refine⟨(tk p s)[j],ziQ p (Ya4 hj),?_⟩;rw [h1,Yab hj,YaQ hj]
def okV(pos:List Nat)(w:Win):Prop:=if w.2.1<=pos.length then w.2.2.1<=((pos.getD (w.2.1 - 1).toNat 0+1:Nat):Int)/\∀ x,w.2.2.2=some x->((pos.getD (w.2.1 - 1).toNat 0+1:Nat):Int)<=x else w.2.2.2=none
theorem IsW.at{n:Nat}{k:Int}{W:Int->Int×Option Int}:∀ {ws:List Win} {j:Int} {i:Nat},IsW n k W j ws->i<ws.length->ws[i]?=some (k,j+i,(W (j+i)).1,(W (j+i)).2)
 | [],j,i,_,h=>by simp at h
 | v :: r, j, 0, h, _ => by
  rw [h.2.1];show some _=some _;rw [show j+((0:Nat):Int)=j by omega]
 | v :: r, j, i + 1, h, hi => by
  have:=IsW.at (i:=i) h.2.2 (by simpa using hi)
  rw [List.getElem?_cons_succ,this,show j+1+(i:Int)=j+((i+1:Nat):Int) by omega]
theorem IsW.long{n:Nat}{k:Int}{W:Int->Int×Option Int}{m:Nat}:∀ {ws:List Win} {j:Int},IsW n k W j ws->(∀ x:Nat,x<m->jl n (W (j+x)))->m<=ws.length
 | [], j, h, ht => by
  cases m with
  | zero=>exact YaY _
  | succ m=>exact absurd (by have:=ht 0 #[0];rwa [show j+((0:Nat):Int)=j by omega] at this) h
 | v :: r, j, h, ht => by
  cases m with
  | zero=>exact WbH _
  | succ m=>
   have:=IsW.long (m:=m) h.2.2 fun x hx=>by
    have:=ht (x+1) #[0]
    rwa [show j+((x+1:Nat):Int)=j+1+(x:Int) by omega] at this
   rw [List.length_cons];omega
theorem zbw{n:Nat}(hn:1<=n){p:Nat->Bool}{t:Nat}(h1:1<=t)(h:p t=true):zx n p<=t:=by
 obtain⟨a1,a2,a3,a4⟩:=jj hn p
 by_cases z:t<zx n p
 . rw [a3 t h1 z] at h;cases h
 . omega
theorem zmw{b:Int}(hb:0<b){path:List Int}{T:Nat}(hl:path.length=T+1)(mono:∀ s t,s<=t->t<=T->path.getD s 0<=path.getD t 0)(h0:0<=path.getD 0 0){r1 r2:Int}(hr1:0<=r1)(hr2:0<=r2)(p:Nat->Bool){ws:List Win}{k:Int}(hW:IsW (T+1) k (winB b path (r1,r2)) 1 ws) :
 (∀ t,t<T->-r1<=((tk p (t+1)).length:Int)*b - path.getD (t+1) 0/\((tk p (t+1)).length:Int)*b - path.getD (t+1) 0<=r2)↔((∀ w∈ws,okV (tk p T) w)/\(tk p T).length<=ws.length):=by
 have hn:1<=T+1:=#[0]
 have wo:∀ j,(winB b path (r1,r2) j).1=((zx (T+1) (fun t=>decide (j*b - r2<=path.getD t 0)):Nat):Int):=fun j=>by unfold winB winP;rw [hl]
 have wl:∀ j,(winB b path (r1,r2) j).2=if zx (T+1) (fun t=>decide ((j - 1)*b+r1+1<=path.getD t 0))=T+1 then none else some ((zx (T+1) (fun t=>decide ((j - 1)*b+r1+1<=path.getD t 0)):Nat):Int):=fun j=>by unfold winB winP;rw [hl]
 have mulm:∀ x y:Int,x<=y->x*b<=y*b:=fun x y h=>Ybe h #[0]
 constructor
 . intro hk
   have op:∀ (j i:Nat),(tk p T)[j]?=some i->zx (T+1) (fun t=>decide (((j:Int)+1)*b - r2<=path.getD t 0))<=i+1:=fun j i h=>by
    obtain⟨a1,a2,a3⟩:=ZD p h;have:=(hk i a1).2;rw [a3] at this;refine zbw hn #[0] (decide_eq_true ?_)
    have e:((j+1:Nat):Int)*b=((j:Int)+1)*b:=by rw [Int.natCast_succ]
    omega
   have la:∀ (j:Int),1<=j->zx (T+1) (fun t=>decide ((j - 1)*b+r1+1<=path.getD t 0))≠T+1->j<=((tk p (zx (T+1) (fun t=>decide ((j - 1)*b+r1+1<=path.getD t 0)))).length:Int):=fun j hj hne=>by
    obtain⟨a1,a2,a3,a4⟩:=jj hn (fun t=>decide ((j - 1)*b+r1+1<=path.getD t 0))
    generalize zx (T+1) (fun t=>decide ((j - 1)*b+r1+1<=path.getD t 0))=f at *
    have h1:=of_decide_eq_true (a4 #[0])
    have h2:=(hk (f - 1) #[0]).1
    rw [show f - 1+1=f by omega] at h2
    by_cases z:j<=((tk p f).length:Int)
    . exact z
    . have:=mulm ((tk p f).length:Int) (j - 1) #[0]
      omega
   refine⟨fun w hw=>?_,?_⟩
   . obtain⟨j,hj,rfl⟩:=hW.mem hw
     unfold okV;dsimp only
     by_cases hc:j<=((tk p T).length:Int)
     . rw [if_pos hc]
       have hlt:(j - 1).toNat<(tk p T).length:=#[0]
       have hg:(tk p T)[(j - 1).toNat]?=some (tk p T)[(j - 1).toNat]:=YaQ hlt;have hgd:(tk p T).getD (j - 1).toNat 0=(tk p T)[(j - 1).toNat]:=by rw [YaP,hg];rfl
       rw [hgd];generalize (tk p T)[(j - 1).toNat]=i at hg;obtain⟨a1,a2,a3⟩:=ZD p hg;have ej:(((j - 1).toNat:Nat):Int)+1=j:=#[0]
       refine⟨?_,fun x hx=>?_⟩
       . have:=op _ _ hg
         rw [ej] at this;rw [wo];omega
       . rw [wl] at hx
         split at hx
         . cases hx
         . rename_i hne
           have:=la j hj hne;cases hx;generalize zx (T+1) (fun t=>decide ((j - 1)*b+r1+1<=path.getD t 0))=f at *
           by_cases z:f<i+1
           . have:=zal p (show f<=i by omega)
             omega
           . omega
     . rw [if_neg hc,wl]
       split
       . rfl
       . rename_i hne
         have h1:=la j hj hne;obtain⟨_,a2,_,_⟩:=jj hn (fun t=>decide ((j - 1)*b+r1+1<=path.getD t 0))
         have:=zal p (show zx (T+1) (fun t=>decide ((j - 1)*b+r1+1<=path.getD t 0))<=T by omega)
         omega
   . refine hW.long fun x hx=>.inl ?_
     have hg:(tk p T)[x]?=some (tk p T)[x]:=YaQ hx;have h1:=op _ _ hg;have h2:=(ZD p hg).1;rw [wo,show(1:Int)+(x:Int)=(x:Int)+1 by omega]
     omega
 . rintro⟨hv,hm⟩ t ht
   have wat:∀ i:Nat,i<ws.length->okV (tk p T) (k,1+(i:Int),(winB b path (r1,r2) (1+(i:Int))).1,(winB b path (r1,r2) (1+(i:Int))).2):=fun i hi=>hv _ (Yah (hW.at hi))
   constructor
   . -- not too far behind
     by_cases z:-r1<=((tk p (t+1)).length:Int)*b - path.getD (t+1) 0
     . exact z
     . exfalso
       have hlate:∀ x:Nat,x<=(tk p (t+1)).length->zx (T+1) (fun s=>decide (((1+(x:Int)) - 1)*b+r1+1<=path.getD s 0))<=t+1:=fun x hx=>by
        refine zbw hn #[0] (decide_eq_true ?_)
        have:=mulm (1+(x:Int) - 1) ((tk p (t+1)).length:Int) #[0]
        omega
       have hlen:(tk p (t+1)).length+1<=ws.length:=hW.long fun x hx=>.inr (by
        rw [wl,if_neg (by have:=hlate x #[0];omega)];simp)
       have hok:=wat (tk p (t+1)).length #[0]
       have h1:=hlate (tk p (t+1)).length (YaY _);unfold okV at hok;dsimp only at hok
       by_cases hc:1+((tk p (t+1)).length:Int)<=((tk p T).length:Int)
       . rw [if_pos hc,wl,if_neg #[0]] at hok
         have h2:=hok.2 _ rfl;have e:(1+((tk p (t+1)).length:Int) - 1).toNat=(tk p (t+1)).length:=#[0]
         rw [e] at h2;have hlt:(tk p (t+1)).length<(tk p T).length:=#[0]
         have hg:(tk p T)[(tk p (t+1)).length]?=some (tk p T)[(tk p (t+1)).length]:=YaQ hlt;have hgd:(tk p T).getD (tk p (t+1)).length 0=(tk p T)[(tk p (t+1)).length]:=by rw [YaP,hg];rfl
         rw [hgd] at h2;generalize (tk p T)[(tk p (t+1)).length]=i at hg h2;obtain⟨a1,a2,a3⟩:=ZD p hg;have:=zal p (show i+1<=t+1 by omega)
         omega
       . rw [if_neg hc,wl,if_neg #[0]] at hok
         cases hok
   . -- not too far ahead
     by_cases hz:(tk p (t+1)).length=0
     . have:=mono 0 (t+1) #[0] #[0]
       rw [hz];have e:((0:Nat):Int)*b=0:=by simp
       omega
     . obtain⟨i,hi,hg⟩:=zjO p (s:=t+1) (t:=T) (j:=(tk p (t+1)).length - 1) #[0] #[0]
       have hle:=zal p (show t+1<=T by omega)
       have hok:=wat ((tk p (t+1)).length - 1) #[0]
       unfold okV at hok;dsimp only at hok;rw [if_pos #[0]] at hok
       have e:(1+(((tk p (t+1)).length - 1:Nat):Int) - 1).toNat=(tk p (t+1)).length - 1:=#[0]
       have hgd:(tk p T).getD ((tk p (t+1)).length - 1) 0=i:=by rw [YaP,hg];rfl
       rw [e,hgd,wo] at hok;have e2:1+(((tk p (t+1)).length - 1:Nat):Int)=((tk p (t+1)).length:Int):=#[0]
       rw [e2] at hok;obtain⟨a1,a2,a3,a4⟩:=jj hn (fun s=>decide (((tk p (t+1)).length:Int)*b - r2<=path.getD s 0))
       have h1:=of_decide_eq_true (a4 #[0])
       have h2:=mono (zx (T+1) (fun s=>decide (((tk p (t+1)).length:Int)*b - r2<=path.getD s 0))) (t+1) #[0] #[0]
       omega
def moP(n:Nat)(p:List Int×List (List Int)):Prop:=p.1.length=n/\∀ k,(∀ i j,i<=j->j<p.2.length->(p.2.getD i []).getD k 0<=(p.2.getD j []).getD k 0)/\∀ i,i<p.2.length->(p.2.getD i []).getD k 0<=p.1.getD k 0
theorem zhf{a sh:List Int}(hl:sh.length=a.length)(hs:∀ x∈sh,0<=x)(k:Nat):a.getD k 0<=(addL a sh).getD k 0:=by
 have hal:(addL a sh).length=a.length:=zaZ hl.symm
 by_cases hk:k<a.length
 . have hz:(a.zip sh)[k]?=some (a[k],sh[k]'(by omega)):=Waj.mpr ⟨YaQ hk,YaQ #[0]⟩
   have h1:(addL a sh).getD k 0=a[k]+sh[k]'(by omega):=by
    unfold addL;rw [YaP,Ya0,hz];rfl
   have h2:a.getD k 0=a[k]:=by rw [YaP,YaQ hk];rfl
   have h3:=hs _ (Ya4 (show k<sh.length by omega))
   rw [h1,h2];omega
 . have h1:a.getD k 0=0:=by rw [YaP,Waw #[0]];rfl
   have h2:(addL a sh).getD k 0=0:=by rw [YaP,Waw #[0]];rfl
   omega
theorem znY{α : Type}{l:List α}{x d:α}{i:Nat}:(l++[x]).getD i d=if i<l.length then l.getD i d else if i=l.length then x else d:=by
 rw [YaP,YaP]
 by_cases h:i<l.length
 . rw [if_pos h,Yab h]
 . rw [if_neg h,Yae #[0]]
   by_cases e:i=l.length
   . subst e;simp
   . rw [if_neg e,Waw #[6]];rfl
theorem znV{n:Nat}{sh:List Int}(hl:sh.length=n)(hs:∀ x∈sh,0<=x){p:List Int×List (List Int)}(h:moP n p):moP n (zr sh p):=by
 have ha:=zhf (a:=p.1) (by rw [hl,h.1]) hs
 refine⟨by show(addL p.1 sh).length=n;rw [zaZ (by rw [hl,h.1]),h.1],fun k=>?_⟩
 obtain⟨h1,h2⟩:=h.2 k;have hlen:(zr sh p).2.length=p.2.length+1:=by show(p.2++[_]).length=_;rw [YaS];rfl
 have hget:∀ i,i<=p.2.length->((zr sh p).2.getD i []).getD k 0=if i<p.2.length then(p.2.getD i []).getD k 0 else(addL p.1 sh).getD k 0:=fun i hi=>by
  show((p.2++[addL p.1 sh]).getD i []).getD k 0=_
  rw [znY]
  by_cases z:i<p.2.length
  . rw [if_pos z,if_pos z]
  . rw [if_neg z,if_neg z,if_pos #[0]]
 have hk:=ha k;refine⟨fun i j hij hj=>?_,fun i hi=>?_⟩
 . rw [hlen] at hj
   rw [hget i #[0],hget j #[0]]
   by_cases z:j<p.2.length
   . rw [if_pos z,if_pos #[0]];exact h1 i j hij z
   . rw [if_neg z]
     by_cases y:i<p.2.length
     . rw [if_pos y];have:=h2 i y;omega
     . rw [if_neg y];exact WbJ _
 . rw [hlen] at hi
   rw [hget i #[0]]
   show _<=(addL p.1 sh).getD k 0
   by_cases y:i<p.2.length
   . rw [if_pos y];have:=h2 i y;omega
   . rw [if_neg y];exact WbJ _
theorem zfy{n:Nat}{sh:List Int}(hl:sh.length=n)(hs:∀ x∈sh,0<=x):∀ (m:Nat) {p:List Int×List (List Int)},moP n p->moP n (rep (zr sh) m p)
 | 0,_,h=>h
 | m+1,_,h=>zfy hl hs m (znV hl hs h)
theorem zfY{n:Nat}{b:Int}(hb:0<=b):∀ (l:List Spell) {p:List Int×List (List Int)},(∀ s∈l,okW s.2/\s.2.length=n)->moP n p->moP n (runQ b l p)
 | [],_,_,h=>h
 | s :: l, p, hl, h => zfY hb l (p := rep (zr (shares b s.2)) s.1.toNat p) (fun t ht => hl t (YaT _ ht)) (zfy (by rw [zbJ]; exact (hl s YaV).2) (fun x hx => by
  unfold shares at hx;obtain⟨w,hw,rfl⟩:=Ya7.mp hx;have hok:=(hl s YaV).1;exact Wbf (YaK (hok.2.1 w hw).1 hb) (by have:=z8 hok;omega)) _ h)
theorem zaj(q:List (List Int))(k s:Nat):(zf q k).getD s 0=(q.getD s []).getD k 0:=by
 unfold zf;simp only [YaP,Ya0];cases q[s]? <;> simp
theorem zeZ{l:List Spell}(h:okS l){b:Int}(hb:0<=b)(k s t:Nat)(hst:s<=t)(ht:t<(quoB b l).length):(zf (quoB b l) k).getD s 0<=(zf (quoB b l) k).getD t 0:=by
 have h0:∀ i,(([zeros l]:List (List Int)).getD i []).getD k 0=0:=fun i=>by
  cases i with
  | zero=>
   show(zeros l).getD k 0=0
   unfold zeros;rw [YaP,Yad]
   split<;>rfl
  | succ i=>simp
 have hm:=zfY hb l (n:=many l) (p:=(zeros l,[zeros l])) (fun s hs=>⟨(h.2.1 s hs).2.1,(h.2.1 s hs).2.2⟩) ⟨by unfold zeros;simp,fun k=>⟨fun i j _ hj=>?_,fun i hi=>?_⟩⟩
 . rw [zaj,zaj]
   exact(hm.2 k).1 s t hst ht
 . have e1:j=0:=by simpa using hj
   have e2:i=0:=#[0]
   subst e1 e2;exact WbJ _
 . have e2:i=0:=by simpa using hi
   subst e2;exact WbJ _
def posP(row:List Int)(c:Int)(i:Nat):Bool:=decide (row.getD i 0=c)
theorem zbZ(b:Int){n c:Nat}(hc:c<n){row:List Int}(hr:∀ x∈row,0<=x/\x<(n:Int)):∀ t,t<=row.length->(hadN b n (row.take t)).getD c 0=((tk (posP row c) t).length:Int)*b:=by
 intro t
 induction t with
 | zero=>
  intro _;show(List.replicate n (0:Int)).getD c 0=_;rw [YaP,Yad,if_pos hc]
  simp [tk]
 | succ t ih=>
  intro ht;have hlt:t<row.length:=#[0]
  have hx:=hr row[t] (Ya4 hlt);have hp:posP row c t=decide (row[t]=(c:Int)):=by
   unfold posP;rw [YaP,YaQ hlt];rfl
  have ihh:=ih #[0]
  have hhl:=jL b n (row.take t);rw [Yav hlt,zcf,Jr,hp];unfold had1
  by_cases e:row[t]=(c:Int)
  . have e1:row[t].toNat=c:=#[0]
    rw [e1,decide_eq_true e,if_pos rfl,YaP,Yas #[0],YaS,List.length_singleton,Int.natCast_succ,WbI,WbL,<-ihh]
    rfl
  . have e1:row[t].toNat≠c:=#[0]
    rw [decide_eq_false e,YaP,Yac e1,<-YaP,ihh]
    simp
def posL(row:List Int)(c:Int):List Nat:=tk (posP row c) row.length
theorem IsW.cnt{n:Nat}{k:Int}{F:Int->Int×Option Int}{N:Int}:∀ {ws:List Win} {j:Int},IsW n k F j ws->(ws.filter fun w=>decide (w.2.1<=N)).length=min ws.length (N+1 - j).toNat
 | [],j,_=>by simp
 | v :: r, j, h => by
  have ih:=IsW.cnt (N:=N) h.2.2;have e:v.2.1=j:=by rw [h.2.1]
  rw [List.filter_cons,e]
  by_cases z:j<=N
  . rw [decide_eq_true z,if_pos rfl,List.length_cons,List.length_cons,ih];omega
  . rw [decide_eq_false z,if_neg #[1],ih,List.length_cons];omega
theorem zae(ns:List Int):Plain 1 (dI ns):=Plain.list fun d hd=>by
 obtain⟨i,_,rfl⟩:=Ya7.mp hd;exact Plain.int i
def lowQ(a b:Int):Rat2:=(a/(Int.gcd a b:Int),b/(Int.gcd a b:Int))
theorem zbd{α : Type}[DecidableEq α]:∀ {L M:List α},L.Nodup->(∀ x∈L,x∈M)->L.length<=M.length
 | [],_,_,_=>WbH _
 | a :: L, M, nd, h => by
  have ha:=h a YaV;have:=zbd (L:=L) (M:=M.erase a) (YaB.mp nd).2 fun x hx=>by
   have hne:x≠a:=fun e=>(YaB.mp nd).1 (e ▸ hx)
   exact(List.mem_erase_of_ne hne).mpr (h x (YaT _ hx))
  rw [List.length_erase_of_mem ha] at this;have h1:0<M.length:=List.length_pos_of_mem ha;rw [List.length_cons];omega
def cnt(row:List Int)(c:Int):Int:=((row.filter fun x=>decide (x=c)).length:Int)
theorem zf6(c:Int):cnt [] c=0:=rfl
theorem zgK(r:List Int)(x c:Int):cnt (r++[x]) c=cnt r c+if x=c then 1 else 0:=by
 unfold cnt;rw [WaI,YaS]
 by_cases e:x=c
 . simp [e]
 . simp [e]
theorem zmI(r s:List Int)(c:Int):cnt r c<=cnt (r++s) c:=by
 unfold cnt;rw [WaI,YaS];omega
theorem zeV(r:List Int){i j:Nat}(h:i<=j)(c:Int):cnt (r.take i) c<=cnt (r.take j) c:=by
 have:r.take j=r.take i++(r.take j).drop i:=by
  have:=Wax i (r.take j);rw [List.take_take,Nat.min_eq_left h] at this;exact this.symm
 rw [this];exact zmI _ _ _
theorem zl4{r:List Int}{k:Nat}(h:k<r.length):r.take (k+1)=r.take k++[r.getD k 0]:=by
 rw [WaS,YaQ h,YaP,YaQ h];rfl
theorem zcy{r:List Int}{k:Nat}(h:k<r.length)(c:Int):cnt (r.take (k+1)) c=cnt (r.take k) c+if r.getD k 0=c then 1 else 0:=by
 rw [zl4 h,zgK]
def keyR(row:List Int)(k:Nat):Int×Int:=(row.getD k 0,cnt (row.take (k+1)) (row.getD k 0))
def keyW(v:Win):Int×Int:=(v.1,v.2.1)
def zlC(t:Int):Option Int->Prop
 | none=>True
 | some x=>t<=x
def jU(V:List Win)(row:List Int):Prop:=
 (∀ k,k<row.length->∃ v∈V,keyW v=keyR row k/\v.2.2.1<=(k:Int)+1/\zlC ((k:Int)+1) v.2.2.2)/\∀ v∈V,v.2.2.2≠none->v.2.1<=cnt row v.1
theorem zm6{row:List Int}{i j:Nat}(hj:j<row.length)(h:i<j):keyR row i≠keyR row j:=fun e=>by
 have e1:row.getD i 0=row.getD j 0:=congrArg Prod.fst e;have e2:cnt (row.take (i+1)) (row.getD i 0)=cnt (row.take (j+1)) (row.getD j 0):=congrArg Prod.snd e;rw [e1,zcy hj,if_pos rfl] at e2;have:=zeV row (show i+1<=j by omega) (row.getD j 0)
 omega
theorem zdg{row:List Int}{c:Int}:∀ (n:Nat),n<=row.length->∀ j:Int,1<=j->j<=cnt (row.take n) c->∃ k,k<n/\keyR row k=(c,j)
 | 0,_,j,h1,h2=>by rw [List.take_zero,zf6] at h2;omega
 | n + 1, hn, j, h1, h2 => by
  have hs:=zcy (r:=row) (k:=n) #[0] c
  by_cases hj:j<=cnt (row.take n) c
  . obtain⟨k,hk,e⟩:=zdg n #[0] j h1 hj
    exact⟨k,#[0],e⟩
  . by_cases hc:row.getD n 0=c
    . rw [if_pos hc] at hs
      refine⟨n,#[0],?_⟩
      unfold keyR;rw [hc,hs];have:j=cnt (row.take n) c+1:=#[0]
      rw [this]
    . rw [if_neg hc] at hs;omega
def kl(T:Int)(v:Win):Int:=v.2.2.2.getD (T+1)
structure OkVs(T:Int)(V:List Win):Prop where
 nd:(V.map keyW).Nodup
 one:∀ v∈V,1<=v.2.1/\1<=v.2.2.1
 pre:∀ v∈V,∀ i,1<=i->i<v.2.1->∃ u∈V,keyW u=(v.1,i)
 ord:∀ u∈V,∀ v∈V,u.1=v.1->u.2.1<v.2.1->u.2.2.1<=v.2.2.1/\kl T u<=kl T v
 top:∀ v∈V,∀ x,v.2.2.2=some x->x<=T
theorem zbH{V:List Win}(nd:(V.map keyW).Nodup){u v:Win}(hu:u∈V)(hv:v∈V)(e:keyW u=keyW v):u=v:=by
 induction V with
 | nil=>cases hu
 | cons a r ih=>
  rw [Ya1,YaB] at nd
  rcases Wbp.mp hu with hu|hu<;>rcases Wbp.mp hv with hv|hv
  . rw [hu,hv]
  . exact absurd (Ya7.mpr ⟨v,hv,by rw [<-e,hu]⟩) nd.1
  . exact absurd (Ya7.mpr ⟨u,hu,by rw [e,hv]⟩) nd.1
  . exact ih nd.2 hu hv
theorem zmO{V:List Win}{t:Nat}(h:(V.filter fun v=>decide (v.2.2.1<=(t:Int))).length<t){row:List Int}(ht:t<=row.length)(hf:jU V row):False:=by
 have nd:((List.range t).map (keyR row)).Nodup:=by
  rw [Waf,WaW];refine(List.pairwise_lt_range (n:=t)).imp_of_mem fun {a b} ha hb hab=>zm6 ?_ hab
  have:=Yba.mp hb;omega
 have:=zbd (M:=(V.filter fun v=>decide (v.2.2.1<=(t:Int))).map keyW) nd fun x hx=>by
  obtain⟨k,hk,rfl⟩:=Ya7.mp hx;have hk:=Yba.mp hk;obtain⟨v,hv,e,h1,_⟩:=hf.1 k #[0]
  exact Ya7.mpr ⟨v,Ya9.mpr ⟨hv,decide_eq_true #[0]⟩,e⟩
 rw [YaR,YaR,YaG] at this
 omega
def zF(a b:Int)(v:Win):Bool:=match v.2.2.2 with
 | none=>false
 | some x=>decide (a<=v.2.2.1)&&decide (x<=b)
theorem zit{T:Int}{V:List Win}(ok:OkVs T V){a b:Int}(ha:1<=a)(h:max 0 (b - a+1)<((V.filter (zF a b)).length:Int)){row:List Int}(hf:jU V row):False:=by
 have nd:((V.filter (zF a b)).map keyW).Nodup:=ok.nd.sublist (List.filter_sublist.map _);have:=zbd (M:=(List.range (b - a+1).toNat).map fun i=>keyR row (a.toNat - 1+i)) nd fun x hx=>by
  obtain⟨v,hv,rfl⟩:=Ya7.mp hx;obtain⟨hv,hc⟩:=Ya9.mp hv;unfold zF at hc;cases hl:v.2.2.2 with
  | none=>rw [hl] at hc;cases hc
  | some x=>
   rw [hl] at hc;simp only [Yak,decide_eq_true_eq] at hc;have h1:=hf.2 v hv (by rw [hl];nofun)
   obtain⟨k,hk,e⟩:=zdg (row:=row) (c:=v.1) row.length (YaY _) v.2.1 (ok.one v hv).1 (by rw [YaH];exact h1)
   obtain⟨u,hu,e2,o,l⟩:=hf.1 k hk;have:u=v:=zbH ok.nd hu hv (e2.trans e);subst this;rw [hl] at l;have l:(k:Int)+1<=x:=l;exact Ya7.mpr ⟨k+1 - a.toNat,Yba.mpr #[0],by rw [show a.toNat - 1+(k+1 - a.toNat)=k by omega];exact e2.symm⟩
 rw [YaR,YaR,YaG] at this
 omega
def less(T:Int)(u v:Win):Prop:=kl T u<kl T v\/kl T u=kl T v/\(u.1<v.1\/u.1=v.1/\u.2.1<v.2.1)
structure Dealt(T:Int)(V wait given:List Win):Prop where
 perm:(given++wait).Perm V
 srt:wait.Pairwise (less T)
 got:∀ pre v post,given=pre++v::post->v.2.2.1<=(pre.length:Int)+1/\(pre.length:Int)+1<=kl T v/\∀ u∈post++wait,less T u v->(pre.length:Int)+1<u.2.2.1
def jO(w:List Win)(g:Int):Bool:=match w with
 | []=>false
 | v :: _ => match v.2.2.2 with
  | none=>false
  | some x=>decide (x<=g)
def z7(t:Int):List Win->Option Nat
 | []=>none
 | v::r=>if v.2.2.1<=t then some 0 else(z7 t r).map (· + 1)
theorem zfo{t:Int}:∀ {w:List Win},z7 t w=none->∀ v∈w,t<v.2.2.1
 | [],_,v,hv=>by cases hv
 | a :: r, h, v, hv => by
  unfold z7 at h
  split at h
  . cases h
  . rename_i hn
    rcases Wbp.mp hv with z|z
    . subst z;omega
    . exact zfo (Option.map_eq_none_iff.mp h) v z
theorem zeB{t:Int}:∀ {w:List Win} {p:Nat},z7 t w=some p->∃ pre v post,w=pre++v::post/\pre.length=p/\v.2.2.1<=t/\∀ u∈pre,t<u.2.2.1
 | [],p,h=>by cases h
 | a :: r, p, h => by
  unfold z7 at h
  split at h
  . rename_i hn
    cases h;exact⟨[],a,r,rfl,rfl,hn,fun u hu=>by cases hu⟩
  . rename_i hn
    obtain⟨q,hq,rfl⟩:=YaJ.mp h;obtain⟨pre,v,post,e,hl,ho,hu⟩:=zeB hq;exact⟨a::pre,v,post,by rw [e];rfl,by rw [List.length_cons,hl],ho,fun u h=>by
     rcases Wbp.mp h with z|z
     . subst z;omega
     . exact hu u z⟩
theorem zii{T:Int}{u v:Win}(h:less T u v)(h':less T v u):False:=by
 unfold less at h h';omega
theorem zjh{T:Int}{u v:Win}(h:less T u v):kl T u<=kl T v:=by
 unfold less at h;omega
theorem zdA{T g:Int}(hg:g<=T){w:List Win}(h:jO w g=false)(s:w.Pairwise (less T)):∀ v∈w,g+1<=kl T v:=by
 cases w with
 | nil=>intro v hv;cases hv
 | cons a r=>
  have ha:g+1<=kl T a:=by
   have h:(match a.2.2.2 with|none=>false|some x=>decide (x<=g))=false:=h
   unfold kl;cases e:a.2.2.2 with
   | none=>show g+1<=T+1;omega
   | some x=>
    rw [e] at h;have:=of_decide_eq_false h;show g+1<=x
    omega
  intro v hv
  rcases Wbp.mp hv with z|z
  . subst z;exact ha
  . have:=zjh ((YaC.mp s).1 v z);omega
theorem Dealt.start{T:Int}{V w:List Win}(p:w.Perm V)(s:w.Pairwise (less T)):Dealt T V w []:=⟨p,s,fun pre v post e=>by cases pre<;>cases e⟩
theorem Dealt.step{T:Int}{V wait given:List Win}(d:Dealt T V wait given)(hg:(given.length:Int)<=T)(hl:jO wait given.length=false){p:Nat}(hp:z7 ((given.length:Int)+1) wait=some p) :
 ∃ v,wait[p]?=some v/\Dealt T V (wait.eraseIdx p) (given++[v]):=by
 obtain⟨pre,v,post,e,hlen,ho,hu⟩:=zeB hp;have hk:=zdA hg hl d.srt;subst e;subst hlen;have er:(pre++v::post).eraseIdx pre.length=pre++post:=by
  rw [List.eraseIdx_append_of_length_le (YaY _)];simp
 refine⟨v,by simp,?_⟩
 rw [er];have sp:=List.pairwise_append.mp d.srt;refine⟨?_,?_,?_⟩
 . refine List.Perm.trans ?_ d.perm
   rw [Yag];exact List.Perm.append_left _ (show(v::(pre++post)).Perm _ from List.perm_middle.symm)
 . exact d.srt.sublist (List.Sublist.append_left (List.sublist_cons_self _ _) _)
 . intro pre' x post' ee
   rcases Way post' with z|⟨q,y,z⟩
   . subst z
     have e1:=List.append_inj' ee rfl;obtain⟨e1,e2⟩:=e1;cases e2;subst e1;refine⟨#[0],hk v (by simp),fun u hm hlt=>?_⟩
     rw [List.nil_append] at hm
     rcases Ya3.mp hm with z|z
     . exact hu u z
     . exact absurd ((YaC.mp sp.2.1).1 u z) fun q=>zii hlt q
   . rw [Waz] at z
     subst z;have e0:given++[v]=(pre'++x::q)++[y]:=by rw [ee];simp
     obtain⟨e1,e2⟩:=List.append_inj' e0 rfl;cases e2;obtain⟨a1,a2,a3⟩:=d.got pre' x q e1;refine⟨a1,a2,fun u hm hlt=>a3 u ?_ hlt⟩
     simp only [Ya3,Wbp,List.not_mem_nil,or_false] at hm ⊢
     rcases hm with (z|z)|z|z
     . exact .inl z
     . exact .inr (.inr (.inl z))
     . exact .inr (.inl z)
     . exact .inr (.inr (.inr z))
theorem Dealt.mem{T:Int}{V wait given:List Win}(d:Dealt T V wait given){v:Win}:v∈V↔v∈given\/v∈wait:=by
 rw [<-d.perm.mem_iff,Ya3]
theorem Dealt.lack{T:Int}{V wait given:List Win}(d:Dealt T V wait given)(hp:z7 ((given.length:Int)+1) wait=none):(V.filter fun v=>decide (v.2.2.1<=((given.length+1:Nat):Int))).length<given.length+1:=by
 have hn:=zfo hp;have h1:=(d.perm.filter fun v=>decide (v.2.2.1<=((given.length+1:Nat):Int))).length_eq
 rw [<-h1,WaI,YaS];have h2:(wait.filter fun v=>decide (v.2.2.1<=((given.length+1:Nat):Int)))=[]:=List.filter_eq_nil_iff.mpr fun v hv=>by
  have:=hn v hv;simp only [decide_eq_true_eq];omega
 rw [h2];have:=List.length_filter_le (fun v:Win=>decide (v.2.2.1<=((given.length+1:Nat):Int))) given
 simp only [List.length_nil];omega
def zL(b:Int):List Win->Int->Int->Int
 | [],_,a=>a
 | v::r,t,a=>zL b r (t+1) (match v.2.2.2 with|none=>t+1|some x=>if b<x then t+1 else a)
def outW(b:Int)(v:Win):Bool:=match v.2.2.2 with
 | none=>true
 | some x=>decide (b<x)
theorem zlK(b:Int)(v:Win)(r:List Win)(t a:Int):zL b (v::r) t a=zL b r (t+1) (if outW b v=true then t+1 else a):=by
 show zL b r (t+1) _=_
 congr 1
 unfold outW;cases v.2.2.2 with
 | none=>rfl
 | some x=>simp
theorem ze0(b:Int):∀ (r:List Win) (t a:Int),(zL b r t a=a/\∀ v∈r,outW b v=false)\/∃ pre v post,r=pre++v::post/\outW b v=true/\(∀ u∈post,outW b u=false)/\zL b r t a=t+pre.length+1
 | [],t,a=>.inl ⟨rfl,fun v h=>by cases h⟩
 | v :: r, t, a => by
  rw [zlK]
  rcases ze0 b r (t+1) (if outW b v=true then t+1 else a) with ⟨h1,h2⟩|⟨pre,u,post,e,h1,h2,h3⟩
  . by_cases hv:outW b v=true
    . rw [if_pos hv] at h1 ⊢
      exact .inr ⟨[],v,r,rfl,hv,h2,by rw [h1];simp⟩
    . rw [if_neg hv] at h1 ⊢
      exact .inl ⟨h1,fun u hu=>by
       rcases Wbp.mp hu with z|z
       . subst z;simpa using hv
       . exact h2 u z⟩
  . exact .inr ⟨v::pre,u,post,by rw [e];rfl,h1,h2,by rw [h3,List.length_cons];omega⟩
theorem zlT{T b:Int}(hb:b<=T){v:Win}(h:outW b v=true):b<kl T v:=by
 unfold outW at h;unfold kl;cases e:v.2.2.2 with
 | none=>show b<T+1;omega
 | some x=>rw [e] at h;exact of_decide_eq_true h
theorem zb0{T b:Int}{v:Win}(h:outW b v=false):∃ x,v.2.2.2=some x/\x<=b/\kl T v=x:=by
 unfold outW at h;unfold kl;cases e:v.2.2.2 with
 | none=>rw [e] at h;cases h
 | some x=>rw [e] at h;have:=of_decide_eq_false h;exact⟨x,rfl,#[0],rfl⟩
theorem zbu{a b:Int}{v:Win}(h:outW b v=false)(ho:a<=v.2.2.1):zF a b v=true:=by
 obtain⟨x,e,hx,_⟩:=zb0 (T:=0) h;unfold zF;rw [e]
 simp [ho,hx]
theorem Dealt.crowd{T:Int}{V wait given:List Win}(ok:OkVs T V)(d:Dealt T V wait given)(hg:(given.length:Int)<=T)(hl:jO wait given.length=true) :
 1<=zL given.length given 1 1/\max 0 ((given.length:Int) - zL given.length given 1 1+1)<((V.filter (zF (zL given.length given 1 1) given.length)).length:Int):=by
 cases wait with
 | nil=>cases hl
 | cons w0 wr=>
  have hw:outW given.length w0=false:=by
   have hl:(match w0.2.2.2 with|none=>false|some x=>decide (x<=(given.length:Int)))=true:=hl
   unfold outW;cases e:w0.2.2.2 with
   | none=>rw [e] at hl;cases hl
   | some x=>rw [e] at hl;have:=of_decide_eq_true hl;exact decide_eq_false #[0]
  have hw0:w0∈V:=d.mem.mpr (.inr YaV);obtain⟨wx,_,hwx,hwk⟩:=zb0 (T:=T) hw;have count:∀ (pre post:List Win),given=pre++post->(∀ u∈post,zF (zL given.length given 1 1) given.length u=true)->zF (zL given.length given 1 1) given.length w0=true->post.length+1<=(V.filter (zF (zL given.length given 1 1) given.length)).length:=fun pre post e hp hw=>by
   have h1:=(d.perm.filter (zF (zL given.length given 1 1) given.length)).length_eq;rw [<-h1,WaI,YaS];have h2:post.length<=(given.filter (zF (zL given.length given 1 1) given.length)).length:=by
    rw [show given.filter (zF (zL given.length given 1 1) given.length)=(pre.filter (zF (zL given.length given 1 1) given.length))++post.filter (zF (zL given.length given 1 1) given.length) by rw [<-WaI,<-e]]
    rw [YaS,List.filter_eq_self.mpr hp];omega
   rw [List.filter_cons,if_pos hw,List.length_cons];omega
  rcases ze0 given.length given 1 1 with ⟨h1,h2⟩|⟨pre,v,post,e,h1,h2,h3⟩
  . have:=count [] given rfl (fun u hu=>zbu (h2 u hu) (by rw [h1];exact(ok.one u (d.mem.mpr (.inl hu))).2)) (zbu hw (by rw [h1];exact(ok.one w0 hw0).2))
    rw [h1];rw [h1] at this;exact⟨WbJ _,#[0]⟩
  . have hv:=zlT hg h1
    obtain⟨g1,g2,g3⟩:=d.got pre v post e;have op:∀ u∈post++w0::wr,outW given.length u=false->zL given.length given 1 1<=u.2.2.1:=fun u hu ho=>by
     obtain⟨x,_,hx,hk⟩:=zb0 (T:=T) ho;have:=g3 u hu (.inl #[0])
     rw [h3];omega
    have:=count (pre++[v]) post (by rw [e];simp) (fun u hu=>zbu (h2 u hu) (op u (Yai _ hu) (h2 u hu))) (zbu hw (op w0 (by simp) hw))
    have hlen:given.length=pre.length+1+post.length:=by rw [e,YaS,List.length_cons];omega
    refine⟨by rw [h3];omega,?_⟩
    rw [h3] at this ⊢
    omega
theorem Dealt.order{T:Int}{V wait given:List Win}(ok:OkVs T V)(d:Dealt T V wait given):∀ (pre post:List Win),given=pre++post->∀ c:Int,(pre.filter fun v=>decide (v.1=c)).map (·.2.1)=(List.range (pre.filter fun v=>decide (v.1=c)).length).map fun i:Nat=>(i:Int)+1:=by
 have ndV:V.Nodup:=List.Pairwise.of_map keyW (fun a b h e=>h (by rw [e])) ok.nd
 have nd:(given++wait).Nodup:=d.perm.nodup_iff.mpr ndV;intro pre
 induction hn:pre.length generalizing pre with
 | zero=>intro post e c;cases Wap.mp hn;rfl
 | succ n ih=>
  intro post e c
  rcases Way pre with z|⟨q,v,z⟩
  . subst z;cases hn
  . rw [Waz] at z
    subst z;rw [YaS] at hn;have hq:=ih q (by simpa using hn) ([v]++post) (by rw [e];simp) c
    rw [WaI]
    by_cases hc:v.1=c
    . have hf:[v].filter (fun v=>decide (v.1=c))=[v]:=by simp [hc]
      rw [hf,Ya2,hq,YaS,List.length_singleton,Wbi,Ya2]
      congr 1
      show [v.2.1]=[_]
      congr 1
      have e':given=q++v::post:=by rw [e];simp
      obtain⟨g1,g2,g3⟩:=d.got q v post e';have hv:v∈V:=d.mem.mpr (.inl (by rw [e'];simp))
      have mq:∀ i:Int,1<=i->i<v.2.1->i∈(q.filter fun v=>decide (v.1=c)).map (·.2.1):=fun i h1 h2=>by
       obtain⟨u,hu,ku⟩:=ok.pre v hv i h1 h2;have u1:u.1=v.1:=congrArg (fun p:Int×Int=>p.1) ku
       have u2:u.2.1=i:=congrArg (fun p:Int×Int=>p.2) ku
       have om:=ok.ord u hu v hv u1 #[0]
       have hin:u∈q:=by
        have:u∈given\/u∈wait:=d.mem.mp hu;rw [e'] at this;simp only [Ya3,Wbp] at this
        rcases this with (z|z|z)|z
        . exact z
        . rw [z] at u2;omega
        . have:=g3 u (Yai _ z) (by unfold less;omega);omega
        . have:=g3 u (Yaa _ z) (by unfold less;omega);omega
       exact Ya7.mpr ⟨u,Ya9.mpr ⟨hin,decide_eq_true #[0]⟩,u2⟩
      have nq:v.2.1∉(q.filter fun v=>decide (v.1=c)).map (·.2.1):=fun h=>by
       obtain⟨u,hu,ku⟩:=Ya7.mp h;obtain⟨hu,hc'⟩:=Ya9.mp hu;have hc':=of_decide_eq_true hc';have:u=v:=zbH ok.nd (d.mem.mpr (.inl (by rw [e'];simp [hu]))) hv (by unfold keyW;rw [hc',hc];congr 1)
       subst this;rw [e'] at nd;have:=(WaQ.mp (WaQ.mp nd).1).2.2 u hu u YaV;exact this rfl
      rw [hq] at mq nq;generalize (q.filter fun v=>decide (v.1=c)).length=m at mq nq ⊢
      show v.2.1=(m:Int)+1
      have h1:=(ok.one v hv).1
      by_cases z1:v.2.1<(m:Int)+1
      . exact absurd (Ya7.mpr ⟨(v.2.1 - 1).toNat,Yba.mpr #[0],#[0]⟩) nq
      . by_cases z2:(m:Int)+1<v.2.1
        . obtain⟨x,hx,ex⟩:=Ya7.mp (mq ((m:Int)+1) #[0] z2)
          have:=Yba.mp hx
          omega
        . omega
    . have hf:[v].filter (fun v=>decide (v.1=c))=[]:=by simp [hc]
      rw [hf,Yao];exact hq
theorem zhK(l:List Win)(c:Int):cnt (l.map (·.1)) c=((l.filter fun v=>decide (v.1=c)).length:Int):=by
 unfold cnt;rw [List.filter_map,YaR];rfl
theorem Dealt.key{T:Int}{V wait given:List Win}(ok:OkVs T V)(d:Dealt T V wait given){pre post:List Win}{v:Win}(e:given=pre++v::post):keyW v=keyR (given.map (·.1)) pre.length:=by
 have h:=d.order ok (pre++[v]) post (by rw [e];simp) v.1
 have g1:(given.map (·.1)).getD pre.length 0=v.1:=by rw [e];simp
 have g2:(given.map (·.1)).take (pre.length+1)=(pre++[v]).map (·.1):=by rw [e,Ya2,Ya1,List.take_append,YaR,Was (by rw [YaR];omega)];simp
 unfold keyR keyW;rw [g1,g2,zhK]
 congr 1
 rw [WaI,show [v].filter (fun w=>decide (w.1=v.1))=[v] by simp] at h ⊢
 rw [Ya2,YaS,List.length_singleton,Wbi,Ya2] at h;have:=(List.append_inj' h rfl).2
 simp at this
 rw [YaS,List.length_singleton,this];rfl
theorem Dealt.row{T:Int}{V wait given:List Win}(ok:OkVs T V)(d:Dealt T V wait given)(hg:(given.length:Int)=T)(hl:jO wait given.length=false):jU V (given.map (·.1)):=by
 have split:∀ k,k<given.length->∃ pre v post,given=pre++v::post/\pre.length=k:=fun k hk=>⟨given.take k,given[k],given.drop (k+1),by rw [Wau,Wax],by rw [Wa5];omega⟩
 constructor
 . intro k hk
   rw [YaR] at hk;obtain⟨pre,v,post,e,rfl⟩:=split k hk;obtain⟨g1,g2,g3⟩:=d.got pre v post e;refine⟨v,d.mem.mpr (.inl (by rw [e];simp)),d.key ok e,g1,?_⟩
   unfold kl at g2;cases el:v.2.2.2 with
   | none=>trivial
   | some x=>rw [el] at g2;exact g2
 . intro v hv hne
   rcases d.mem.mp hv with z|z
   . obtain⟨k,hk,ek⟩:=Yam z
     obtain⟨pre,u,post,e,hp⟩:=split k hk;have:u=v:=by rw [<-ek];subst hp;simp [e]
     subst this;have:=d.key ok e;have h2:u.2.1=cnt ((given.map (·.1)).take (pre.length+1)) ((given.map (·.1)).getD pre.length 0):=congrArg Prod.snd this;have h1:u.1=(given.map (·.1)).getD pre.length 0:=congrArg Prod.fst this;rw [<-h1] at h2;rw [h2];have:=zeV (given.map (·.1)) (i:=pre.length+1) (j:=(given.map (·.1)).length) (by rw [YaR,e,YaS,List.length_cons];omega) u.1
     rwa [YaH] at this
   . have:=zdA (T:=T) #[0] hl d.srt v z
     cases el:v.2.2.2 with
     | none=>exact absurd el hne
     | some x=>
      have h2:=ok.top v hv x el;unfold kl at this;rw [el] at this;have:(given.length:Int)+1<=x:=this
      omega
theorem atI2{α : Type}{x y z:α}{xs:List α}:atI (x::y::z::xs) 2=some z:=J0 (j:=2) rfl
theorem atI3{α : Type}{x y z w:α}{xs:List α}:atI (x::y::z::w::xs) 3=some w:=J0 (j:=3) rfl
def keyD(T:Int):D->K3
 | .tuple [.int c,.int j,_,.none]=>(T+1,c,j)
 | .tuple [.int c,.int j,_,.int l]=>(l,c,j)
 | _=>(0,0,0)
theorem zaV(T:Int)(v:Win):keyD T (dW v)=(kl T v,v.1,v.2.1):=by
 obtain⟨c,j,o,l⟩:=v;cases l<;>rfl
theorem zj2(T:Int)(u v:Win):lex3 (keyD T (dW u)) (keyD T (dW v))=true↔less T u v:=by
 rw [zaV,zaV];unfold lex3 less;rw [decide_eq_true_eq]
theorem zjo{α β : Type}{f:α->β}{l l':List β}(h:l.Perm l'):∀ V:List α,l'=V.map f->∃ V':List α,V'.Perm V/\l=V'.map f:=by
 induction h with
 | nil => intro V e; cases V with
  | nil=>exact⟨[],.nil,rfl⟩
  | cons _ _=>cases e
 | cons x _ ih=>
  intro V e;cases V with
  | nil=>cases e
  | cons v V=>
   rw [Ya1] at e;obtain⟨e1,e2⟩:=List.cons.inj e;obtain⟨V',p,e3⟩:=ih V e2;exact⟨v::V',p.cons v,by rw [Ya1,e1,e3]⟩
 | swap x y l=>
  intro V e
  match V,e with
  | v::u::V,e=>
   rw [Ya1,Ya1] at e;obtain⟨e1,e2⟩:=List.cons.inj e;obtain⟨e2,e3⟩:=List.cons.inj e2;exact⟨u::v::V,.swap _ _ _,by rw [Ya1,Ya1,e1,e2,e3]⟩
 | trans _ _ ih1 ih2=>
  intro V e;obtain⟨V1,p1,e1⟩:=ih2 V e;obtain⟨V2,p2,e2⟩:=ih1 V1 e1;exact⟨V2,p2.trans p1,e2⟩
theorem zjc{T:Int}{V:List Win}(nd:(V.map keyW).Nodup):((V.map dW).map (keyD T)).Nodup:=by
 rw [YaD,Waf,WaW];rw [Waf,WaW] at nd;refine nd.imp fun {a b} h e=>h ?_
 have e:keyD T (dW a)=keyD T (dW b):=e;rw [zaV,zaV] at e;have e2:=congrArg Prod.snd e;exact e2
theorem zeg{α β : Type}(f:α->β):∀ (l:List α) (i:Nat),(l.map f).eraseIdx i=(l.eraseIdx i).map f
 | [],_=>rfl
 | _::_,0=>rfl
 | _::l,i+1=>by rw [Ya1,List.eraseIdx_cons_succ,List.eraseIdx_cons_succ,Ya1,zeg f l i]
def zaQ(T:Int)(V:List Win)(row:List Int):Prop:=∃ wait given,Dealt T V wait given/\(given.length:Int)=T/\row=given.map (·.1)
theorem zdB{T:Int}{V w1 g1 w2 g2:List Win}(nd:(V.map keyW).Nodup)(d1:Dealt T V w1 g1)(d2:Dealt T V w2 g2):∀ (pre p1 p2:List Win),g1=pre++p1->g2=pre++p2->p1.length=p2.length->p1=p2
 | _,[],[],_,_,_=>rfl
 | _,[],_::_,_,_,h=>by cases h
 | _,_::_,[],_,_,h=>by cases h
 | pre, v :: p1, u :: p2, e1, e2, h => by
  have nV:V.Nodup:=(Waf.mpr (((WaW.mp (Waf.mp nd))).imp fun {a b} h e=>h (by rw [e])))
  have n1:(pre++v::p1++w1).Nodup:=by rw [<-e1];exact d1.perm.nodup_iff.mpr nV
  have n2:(pre++u::p2++w2).Nodup:=by rw [<-e2];exact d2.perm.nodup_iff.mpr nV
  have hv:v∈V:=d1.perm.mem_iff.mp (by rw [e1];simp)
  have hu:u∈V:=d2.perm.mem_iff.mp (by rw [e2];simp)
  have m1:u∈pre++v::p1++w1:=by rw [<-e1];exact d1.perm.mem_iff.mpr hu
  have m2:v∈pre++u::p2++w2:=by rw [<-e2];exact d2.perm.mem_iff.mpr hv
  have x1:v∉pre:=fun z=>by
   rw [Yag,WaQ] at n1;exact n1.2.2 v z v (by simp) rfl
  have x2:u∉pre:=fun z=>by
   rw [Yag,WaQ] at n2;exact n2.2.2 u z u (by simp) rfl
  obtain⟨a1,_,a3⟩:=d1.got pre v p1 e1;obtain⟨b1,_,b3⟩:=d2.got pre u p2 e2;have huv:v=u:=by
   have c1:u=v\/u∈p1++w1:=by
    simp only [Ya3,Wbp] at m1 ⊢
    rcases m1 with (z|z|z)|z
    . exact absurd z x2
    . exact .inl z
    . exact .inr (.inl z)
    . exact .inr (.inr z)
   have c2:v=u\/v∈p2++w2:=by
    simp only [Ya3,Wbp] at m2 ⊢
    rcases m2 with (z|z|z)|z
    . exact absurd z x1
    . exact .inl z
    . exact .inr (.inl z)
    . exact .inr (.inr z)
   rcases c1 with z|z
   . exact z.symm
   rcases c2 with y|y
   . exact y
   have l1:¬less T u v:=fun l=>by have:=a3 u z l;omega
   have l2:¬less T v u:=fun l=>by have:=b3 v y l;omega
   refine zbH nd hv hu ?_
   unfold less at l1 l2;unfold keyW;rw [show v.1=u.1 by omega,show v.2.1=u.2.1 by omega]
  subst huv;rw [zdB nd d1 d2 (pre++[v]) p1 p2 (by simpa using e1) (by simpa using e2) (by simpa using h)]
theorem zaQ.one{T:Int}{V:List Win}{r s:List Int}(nd:(V.map keyW).Nodup)(h:zaQ T V r)(h':zaQ T V s):r=s:=by
 obtain⟨w1,g1,d1,l1,rfl⟩:=h;obtain⟨w2,g2,d2,l2,rfl⟩:=h';rw [zdB nd d1 d2 [] g1 g2 rfl rfl #[0]]
def Z5(T:Int)(V:List Win)(d:D):Prop:=∃ t:Nat,1<=t/\(t:Int)<=T/\(V.filter fun v=>decide (v.2.2.1<=(t:Int))).length<t/\d=.tuple [.str "lack", .int t]
def zab(V:List Win)(d:D):Prop:=∃ a b:Int,1<=a/\0<=b/\max 0 (b - a+1)<((V.filter (zF a b)).length:Int)/\d=.tuple [.str "crowd", .int a,.int b]
def rowP(T:Int)(V:List Win)(d:D):Prop:=∃ row:List Int,(row.length:Int)=T/\jU V row/\zaQ T V row/\d=.tuple [.str "row", dI row]
theorem zd5{t:Int}:∀ {w:List Win} {k:Nat} (hk:k<w.length),(∀ i (hi:i<w.length),i<k->t<w[i].2.2.1)->w[k].2.2.1<=t->z7 t w=some k
 | [],k,hk,_,_=>by simp at hk
 | v :: r, 0, _, _, h => by
  have h:v.2.2.1<=t:=h;unfold z7;rw [if_pos h]
 | v :: r, k + 1, hk, hb, h => by
  have h0:=hb 0 (by simp) #[0]
  have h0:t<v.2.2.1:=h0;unfold z7;rw [if_neg #[0],zd5 (k:=k) (by simpa using hk) (fun i hi hik=>by have:=hb (i+1) (by simpa using hi) #[0];simpa using this) (by simpa using h)]
  rfl
theorem zfA{t:Int}:∀ {w:List Win},(∀ i (hi:i<w.length),t<w[i].2.2.1)->z7 t w=none
 | [],_=>rfl
 | v :: r, hb => by
  have h0:=hb 0 (by simp)
  have h0:t<v.2.2.1:=h0;unfold z7;rw [if_neg #[0],zfA (fun i hi=>by have:=hb (i+1) (by simpa using hi);simpa using this)]
  rfl
theorem OkVs.nil(T:Int):OkVs T []:=⟨List.nodup_nil,fun v h=>(by cases h),fun v h=>(by cases h),fun v h=>(by cases h),fun v h=>(by cases h)⟩
theorem OkVs.snoc{T:Int}{V:List Win}(ok:OkVs T V){v:Win}(h1:1<=v.2.1)(h2:1<=v.2.2.1)(hp:∀ i,1<=i->i<v.2.1->∃ u∈V,keyW u=(v.1,i))(ho:∀ u∈V,u.1=v.1->u.2.1<v.2.1/\u.2.2.1<=v.2.2.1/\kl T u<=kl T v)(ht:∀ x,v.2.2.2=some x->x<=T):OkVs T (V++[v]) where
 nd:=by
  rw [Ya2,WaQ];refine⟨ok.nd,by simp,fun a ha b hb e=>?_⟩
  obtain⟨u,hu,rfl⟩:=Ya7.mp ha;have hb:b=keyW v:=by simpa using hb
  subst hb;have e1:u.1=v.1:=congrArg (fun p:Int×Int=>p.1) e
  have e2:u.2.1=v.2.1:=congrArg (fun p:Int×Int=>p.2) e
  have:=(ho u hu e1).1
  omega
 one:=fun u hu=>by
  rcases Ya3.mp hu with z|z
  . exact ok.one u z
  . rw [Ya6.mp z];exact⟨h1,h2⟩
 pre:=fun u hu i hi hlt=>by
  rcases Ya3.mp hu with z|z
  . obtain⟨w,hw,e⟩:=ok.pre u z i hi hlt
    exact⟨w,Yai _ hw,e⟩
  . rw [Ya6.mp z] at hlt ⊢
    obtain⟨w,hw,e⟩:=hp i hi hlt;exact⟨w,Yai _ hw,e⟩
 ord:=fun u hu w hw e hlt=>by
  rcases Ya3.mp hu with z|z
  . rcases Ya3.mp hw with y|y
    . exact ok.ord u z w y e hlt
    . rw [Ya6.mp y] at e ⊢;exact(ho u z e).2
  . rcases Ya3.mp hw with y|y
    . rw [Ya6.mp z] at e hlt
      have:=(ho w y e.symm).1
      omega
    . rw [Ya6.mp z,Ya6.mp y] at hlt;omega
 top:=fun u hu x hx=>by
  rcases Ya3.mp hu with z|z
  . exact ok.top u z x hx
  . rw [Ya6.mp z] at hx;exact ht x hx
theorem OkVs.app{T c:Int}{A B:List Win}(a:OkVs T A)(b:OkVs T B)(ha:∀ v∈A,v.1<c)(hb:∀ v∈B,v.1=c):OkVs T (A++B) where
 nd:=by
  rw [Ya2,WaQ];refine⟨a.nd,b.nd,fun x hx y hy e=>?_⟩
  obtain⟨u,hu,rfl⟩:=Ya7.mp hx;obtain⟨v,hv,rfl⟩:=Ya7.mp hy;have e1:u.1=v.1:=congrArg (fun p:Int×Int=>p.1) e
  have:=ha u hu;have:=hb v hv
  omega
 one:=fun v hv=>(Ya3.mp hv).elim (a.one v) (b.one v)
 pre:=fun v hv i h1 h2=>by
  rcases Ya3.mp hv with z|z
  . obtain⟨u,hu,e⟩:=a.pre v z i h1 h2
    exact⟨u,Yai _ hu,e⟩
  . obtain⟨u,hu,e⟩:=b.pre v z i h1 h2
    exact⟨u,Yaa _ hu,e⟩
 ord:=fun u hu v hv e h=>by
  rcases Ya3.mp hu with z|z<;>rcases Ya3.mp hv with y|y
  . exact a.ord u z v y e h
  . have:=ha u z;have:=hb v y;omega
  . have:=hb u z;have:=ha v y;omega
  . exact b.ord u z v y e h
 top:=fun v hv=>(Ya3.mp hv).elim (a.top v) (b.top v)
theorem ziY{T:Int}{u v w:Win}(h:less T u v)(h':less T v w):less T u w:=by
 unfold less at *;omega
def IsWs(l:List Spell)(bs:List (Rat2×Rat2))(W:List (List Win)):Prop:=W.length=many l/\∀ k,k<many l->IsW (quo l).length k (winB (bot l) (zf (quo l) k) ((zA (bot l) bs).getD k (0,0))) 1 (W.getD k [])
theorem zeI{n:Nat}(hn:1<=n){p q:Nat->Bool}(h:∀ t,q t=true->p t=true):zx n p<=zx n q:=by
 obtain⟨a1,a2,_,a4⟩:=jj hn q
 by_cases z:zx n q<n
 . exact zbw hn a1 (h _ (a4 z))
 . obtain⟨_,b2,_,_⟩:=jj hn p
   omega
theorem zcI{b:Int}{path:List Int}{room:Int×Int}{j:Int}{T:Nat}(hl:path.length=T+1):(winB b path room j).2.getD ((T:Int)+1)=((zx (T+1) (fun t=>decide ((j - 1)*b+room.1+1<=path.getD t 0)):Nat):Int):=by
 unfold winB winP;rw [hl];dsimp only
 split
 . rename_i h;rw [h];simp
 . rfl
theorem IsWs.get{l:List Spell}{bs:List (Rat2×Rat2)}{W:List (List Win)}(h:IsWs l bs W){w:Win}(hw:w∈W.flatten):∃ k,k<many l/\∃ i:Nat,i<(W.getD k []).length/\w=((k:Int),1+(i:Int),(winB (bot l) (zf (quo l) k) ((zA (bot l) bs).getD k (0,0)) (1+(i:Int))).1,(winB (bot l) (zf (quo l) k) ((zA (bot l) bs).getD k (0,0)) (1+(i:Int))).2):=by
 obtain⟨k,hk,hw⟩:=zjB hw;rw [h.1] at hk;obtain⟨i,hi,e⟩:=Yam hw;have:=(h.2 k hk).at hi;rw [YaQ hi,e] at this;exact⟨k,hk,i,hi,Wbe this⟩
theorem IsWs.has{l:List Spell}{bs:List (Rat2×Rat2)}{W:List (List Win)}(h:IsWs l bs W){k i:Nat}(hk:k<many l)(hi:i<(W.getD k []).length):((k:Int),1+(i:Int),(winB (bot l) (zf (quo l) k) ((zA (bot l) bs).getD k (0,0)) (1+(i:Int))).1,(winB (bot l) (zf (quo l) k) ((zA (bot l) bs).getD k (0,0)) (1+(i:Int))).2)∈W.flatten:=
 zeF (by rw [h.1];exact hk) (Yah ((h.2 k hk).at hi))
theorem IsWs.uniq{l:List Spell}{bs:List (Rat2×Rat2)}{W W':List (List Win)}(h:IsWs l bs W)(h':IsWs l bs W'):W=W':=by
 refine List.ext_getElem (by rw [h.1,h'.1]) fun k h1 h2=>?_
 have hk:k<many l:=by rw [<-h.1];exact h1
 have:=IsW.uniq #[4] (h.2 k hk) (h'.2 k hk)
 rw [YaP,YaP,YaQ h1,YaQ h2] at this;exact this
theorem zaK{l:List Spell}(hok:okS l){bs:List (Rat2×Rat2)}{W:List (List Win)}(h:IsWs l bs W):OkVs (tot l) W.flatten:=by
 have hql:=jZ hok;have htn:=jc fun s hs=>(hok.2.1 s hs).1
 have hbp:=zR hok;obtain⟨T,hT⟩:∃ T:Nat,tot l=(T:Int):=⟨(tot l).toNat,#[0]⟩
 have hpl:∀ k,(zf (quo l) k).length=T+1:=fun k=>by unfold zf;rw [YaR];omega
 have hn:1<=T+1:=#[0]
 refine⟨?_,fun v hv=>?_,fun v hv i h1 h2=>?_,fun u hu v hv e hlt=>?_,fun v hv x hx=>?_⟩
 . rw [Waf,WaW,List.pairwise_flatten]
   refine⟨fun ws hws=>?_,?_⟩
   . obtain⟨k,hk,e⟩:=Yam hws
     have hk':k<many l:=by rw [<-h.1];exact hk
     have hIs:=h.2 k hk';have e2:W.getD k []=ws:=by rw [YaP,YaQ hk];exact e
     rw [e2] at hIs;rw [Wai];intro i j hi hj hij z;have a1:=hIs.at hi;have a2:=hIs.at hj;rw [YaQ hi] at a1;rw [YaQ hj] at a2;rw [Wbe a1,Wbe a2] at z;have z2:=congrArg Prod.snd z;have z2:(1+(i:Int))=1+(j:Int):=z2
     omega
   . rw [Wai]
     intro i j hi hj hij x hx y hy z;have m:∀ (k:Nat) (hk:k<W.length) (x:Win),x∈W[k]->x.1=(k:Int):=fun k hk x hx=>by
      have e2:W.getD k []=W[k]:=by rw [YaP,YaQ hk];rfl
      obtain⟨j,_,rfl⟩:=(h.2 k (by rw [<-h.1];exact hk)).mem (by rw [e2];exact hx)
      rfl
     have z1:x.1=y.1:=congrArg (fun p:Int×Int=>p.1) z
     rw [m i hi x hx,m j hj y hy] at z1
     omega
 . obtain⟨k,hk,i,hi,rfl⟩:=h.get hv
   refine⟨by show 1<=1+(i:Int);omega,?_⟩
   show 1<=(winB _ _ _ _).1
   unfold winB winP;have:=(jj (n:=(zf (quo l) k).length) (by rw [hpl];omega) fun t=>decide ((1+(i:Int))*bot l - ((zA (bot l) bs).getD k (0,0)).2<=(zf (quo l) k).getD t 0)).1
   dsimp only
   omega
 . obtain⟨k,hk,m,hm,rfl⟩:=h.get hv
   have h2:i<1+(m:Int):=h2;refine⟨_,h.has hk (i:=(i - 1).toNat) #[0],?_⟩
   show((k:Int),1+(((i - 1).toNat:Nat):Int))=((k:Int),i)
   rw [show 1+(((i - 1).toNat:Nat):Int)=i by omega]
 . obtain⟨k,hk,m,hm,rfl⟩:=h.get hu
   obtain⟨k',hk',m',hm',rfl⟩:=h.get hv;have e:(k:Int)=(k':Int):=e;obtain rfl:k=k':=#[0]
   have hlt:1+(m:Int)<1+(m':Int):=hlt;have mulm:∀ x y:Int,x<=y->x*bot l<=y*bot l:=fun x y h=>Ybe h #[0]
   refine⟨?_,?_⟩
   . show(winB _ _ _ _).1<=(winB _ _ _ _).1
     unfold winB winP;dsimp only;have:=zeI (n:=(zf (quo l) k).length) (by rw [hpl];omega) (p:=fun t=>decide ((1+(m:Int))*bot l - ((zA (bot l) bs).getD k (0,0)).2<=(zf (quo l) k).getD t 0)) (q:=fun t=>decide ((1+(m':Int))*bot l - ((zA (bot l) bs).getD k (0,0)).2<=(zf (quo l) k).getD t 0)) fun t ht=>by
      have ht:=of_decide_eq_true ht;have:=mulm (1+m) (1+m') #[0]
      exact decide_eq_true #[0]
     omega
   . show kl (tot l) (_,_,_,(winB _ _ _ _).2)<=kl (tot l) (_,_,_,(winB _ _ _ _).2)
     unfold kl;dsimp only;rw [hT,zcI (hpl k),zcI (hpl k)];have:=zeI (n:=T+1) hn (p:=fun t=>decide ((1+(m:Int) - 1)*bot l+((zA (bot l) bs).getD k (0,0)).1+1<=(zf (quo l) k).getD t 0)) (q:=fun t=>decide ((1+(m':Int) - 1)*bot l+((zA (bot l) bs).getD k (0,0)).1+1<=(zf (quo l) k).getD t 0)) fun t ht=>by
      have ht:=of_decide_eq_true ht;have:=mulm (1+m - 1) (1+m' - 1) #[0]
      exact decide_eq_true #[0]
     omega
 . obtain⟨k,hk,i,hi,rfl⟩:=h.get hv
   have hx:(winB (bot l) (zf (quo l) k) ((zA (bot l) bs).getD k (0,0)) (1+(i:Int))).2=some x:=hx;have e:=zcI (b:=bot l) (room:=(zA (bot l) bs).getD k (0,0)) (j:=1+(i:Int)) (hpl k);rw [hx] at e;have e:x=_:=e;unfold winB winP at hx;rw [hpl] at hx;dsimp only at hx;have:=(jj hn fun t=>decide ((1+(i:Int) - 1)*bot l+((zA (bot l) bs).getD k (0,0)).1+1<=(zf (quo l) k).getD t 0)).2.1
   split at hx
   . cases hx
   . rename_i hne
     omega
theorem zdu{α : Type}{c:Nat}:∀ {L:List (List α)},(∀ l∈L,l.length<=c)->L.flatten.length<=L.length*c
 | [],_=>by simp
 | a :: r, h => by
  have:=zdu (L:=r) fun l hl=>h l (YaT _ hl)
  have:=h a YaV;rw [List.flatten_cons,YaS,List.length_cons,Nat.add_mul,Nat.one_mul]
  omega
theorem IsWs.small{l:List Spell}(hok:okS l){bs:List (Rat2×Rat2)}(hB:okB (many l) bs)(ho:∀ p∈bs,okQ p.1/\okQ p.2){W:List (List Win)}(h:IsWs l bs W):W.flatten.length<1000:=by
 have hql:=jZ hok;have htn:=jc fun s hs=>(hok.2.1 s hs).1
 have hbp:=zR hok;have hm:=zau hok;have key:∀ ws∈W,ws.length<=71:=fun ws hws=>by
  obtain⟨k,hk,e⟩:=Yam hws;have hk':k<many l:=by rw [<-h.1];exact hk
  have hIs:=h.2 k hk';have e2:W.getD k []=ws:=by rw [YaP,YaQ hk];exact e
  rw [e2] at hIs;have hkb:k<bs.length:=by rw [hB.1];exact hk'
  have er:(zA (bot l) bs).getD k (0,0)=(z4 (bot l) bs[k].1,z4 (bot l) bs[k].2):=by
   rw [YaP];unfold zA;rw [Ya0,YaQ hkb];rfl
  have z:=hB.2 bs[k] (Ya4 hkb);have y:=ho bs[k] (Ya4 hkb);have r1:0<=z4 (bot l) bs[k].1:=Wbf (YaK z.1.1 #[0]) (by have:=y.1.1;omega)
  have r2:0<=z4 (bot l) bs[k].2:=Wbf (YaK z.2.1 #[0]) (by have:=y.2.1;omega)
  have r3:z4 (bot l) bs[k].2<=10*bot l:=by
   refine Int.ediv_le_of_le_mul y.2.1 ?_
   have h1:bs[k].2.1*bot l<=10*bs[k].2.2*bot l:=Ybe z.2.2 #[0]
   have e1:10*bs[k].2.2*bot l=10*bot l*bs[k].2.2:=by ac_rfl
   omega
  have hp:∀ t,(zf (quo l) k).getD t 0+z4 (bot l) bs[k].2<=70*bot l:=fun t=>by
   have:(zf (quo l) k).getD t 0<=60*bot l:=by
    rw [YaP];cases ht:(zf (quo l) k)[t]? with
    | none=>show(0:Int)<=_;omega
    | some x=>
     show x<=_
     unfold zf at ht;rw [Ya0] at ht;obtain⟨r,hr,rfl⟩:=YaJ.mp ht;rw [YaP];cases hx:r[k]? with
     | none=>show(0:Int)<=_;omega
     | some x=>
      have h1:=zbQ hok hbp r (Yah hr) x (Yah hx);have h2:tot l*bot l<=60*bot l:=Ybe hok.2.2 #[0]
      show x<=_
      omega
   omega
  have hpl:(zf (quo l) k).length=(quo l).length:=by unfold zf;rw [YaR]
  rw [er] at hIs;have:=IsW.len (M:=71) (fun i hi=>zbY (room:=(z4 (bot l) bs[k].1,z4 (bot l) bs[k].2)) hbp (by rw [hpl];omega) hp r2 r1 i (by rw [hpl];exact hi)) hIs #[1]
  omega
 have:=zdu key;have h2:W.length*71<=8*71:=Nat.mul_le_mul_right _ (by rw [h.1];exact hm.2)
 omega
theorem zhe{l:List Spell}(hok:okS l){bs:List (Rat2×Rat2)}(hB:okB (many l) bs)(ho:∀ p∈bs,okQ p.1/\okQ p.2){row:List Int}(hrow:ju (many l) (tot l).toNat row){W:List (List Win)}(hW1:W.length=many l)(hW2:∀ k,k<many l->IsW (quo l).length k (winB (bot l) (zf (quo l) k) ((zA (bot l) bs).getD k (0,0))) 1 (W.getD k [])) :
 Zy (zX (bot l) (many l) (quo l) row row.length) (zA (bot l) bs)↔∀ k,k<many l->((∀ w∈W.getD k [],okV (posL row k) w)/\(posL row k).length<=(W.getD k []).length):=by
 have hbp:=zR hok;have hql:=jZ hok;have htn:=jc fun s hs=>(hok.2.1 s hs).1
 have hrl:row.length=(tot l).toNat:=hrow.1;have hqT:(quo l).length=row.length+1:=#[0]
 have hqr:∀ r∈quo l,r.length=many l:=fun r hr=>Zg hok (b:=bot l) hr
 have hpl:∀ k,(zf (quo l) k).length=row.length+1:=fun k=>by unfold zf;rw [YaR,hqT]
 have hroom:∀ k,k<many l->(zA (bot l) bs)[k]?=some ((zA (bot l) bs).getD k (0,0))/\0<=((zA (bot l) bs).getD k (0,0)).1/\0<=((zA (bot l) bs).getD k (0,0)).2:=fun k hk=>by
  have hkb:k<bs.length:=by rw [hB.1];exact hk
  have e:(zA (bot l) bs)[k]?=some (z4 (bot l) bs[k].1,z4 (bot l) bs[k].2):=by unfold zA;rw [Ya0,YaQ hkb];rfl
  have e2:(zA (bot l) bs).getD k (0,0)=(z4 (bot l) bs[k].1,z4 (bot l) bs[k].2):=by rw [YaP,e];rfl
  rw [e2];have z:=hB.2 bs[k] (Ya4 hkb);have y:=ho bs[k] (Ya4 hkb);exact⟨e,Wbf (YaK z.1.1 #[0]) (by have:=y.1.1;omega),Wbf (YaK z.2.1 #[0]) (by have:=y.2.1;omega)⟩
 have hzero:∀ k,0<=(zf (quo l) k).getD 0 0:=fun k=>by
  obtain⟨r,hr⟩:=zeO (bot l) l;have:quo l=quoB (bot l) l:=rfl;rw [this,zaj,hr];show 0<=(zeros l).getD k 0;unfold zeros;rw [YaP,Yad]
  split<;>simp
 have clan:=fun(k:Nat) (hk:k<many l)=>zmw hbp (hpl k) (fun s t hst ht=>zeZ hok (b:=bot l) #[0] k s t hst (by show t<(quo l).length;omega)) (hzero k) (hroom k hk).2.1 (hroom k hk).2.2 (posP row k) (ws:=W.getD k []) (k:=k) (by rw [<-hqT];exact hW2 k hk)
 have lead:∀ (t k:Nat),t<row.length->k<many l->(zJ (bot l) (many l) (quo l) row t)[k]?=some (((tk (posP row k) (t+1)).length:Int)*bot l - (zf (quo l) k).getD (t+1) 0):=fun t k ht hk=>by
  have hmem:(quo l).getD (t+1) []∈quo l:=by
   rw [YaP,YaQ #[0]];exact Ya4 _
  have h2:=hqr _ hmem;have h3:=jL (bot l) (many l) (row.take (t+1));unfold zJ subL;have hz:((hadN (bot l) (many l) (row.take (t+1))).zip ((quo l).getD (t+1) []))[k]?=some ((hadN (bot l) (many l) (row.take (t+1)))[k]'(by omega),((quo l).getD (t+1) [])[k]'(by omega)):=Waj.mpr ⟨YaQ #[0],YaQ #[0]⟩
  rw [Ya0,hz,<-zbZ (bot l) hk hrow.2 (t+1) #[0],zaj]
  simp [YaP,YaQ (show k<(hadN (bot l) (many l) (row.take (t+1))).length by omega),YaQ (show t+1<(quo l).length by omega)]
  have hk2:k<((quo l)[t+1]'(by omega)).length:=by rw [hqr _ (Ya4 _)];exact hk
  have e:((quo l)[t+1]'(by omega))[k]?=some (((quo l)[t+1]'(by omega))[k]):=YaQ hk2
  rw [e]
  rfl
 have keepI:Zy (zX (bot l) (many l) (quo l) row row.length) (zA (bot l) bs)↔∀ k,k<many l->((∀ w∈W.getD k [],okV (tk (posP row k) row.length) w)/\(tk (posP row k) row.length).length<=(W.getD k []).length):=by
  constructor
  . intro h k hk
    refine(clan k hk).mp fun t ht=>?_
    exact h _ (by unfold zX;exact Ya7.mpr ⟨t,Yba.mpr ht,rfl⟩) k _ _ (lead t k ht hk) (hroom k hk).1
  . intro h ld hld i x p hx hp
    unfold zX at hld;obtain⟨t,ht,rfl⟩:=Ya7.mp hld;have ht':=Yba.mp ht;have hi:i<many l:=by
     have:=(Ya8.mp hp).1;unfold zA at this;rw [YaR,hB.1] at this;exact this
    rw [lead t i ht' hi] at hx;rw [(hroom i hi).1] at hp;cases hx;cases hp;exact(clan i hi).mpr (h i hi) t ht'
 exact keepI
theorem zbe(row:List Int)(c:Int):∀ m,m<=row.length->cnt (row.take m) c=((tk (posP row c) m).length:Int)
 | 0,_=>by simp [cnt,tk]
 | m + 1, h => by
  rw [zcy #[0],zbe row c m #[0],Jr,YaS]
  unfold posP
  by_cases e:row.getD m 0=c
  . rw [if_pos e,decide_eq_true e,if_pos rfl];rfl
  . rw [if_neg e,decide_eq_false e,if_neg #[1]];rfl
theorem zgC(p:Nat->Bool){T t:Nat}(ht:t<T)(hp:p t=true):(tk p T)[(tk p t).length]?=some t:=by
 obtain⟨r,h1,_⟩:=zb7 p (show t+1<=T by omega)
 rw [h1,Jr,if_pos hp,Yag,Yae (YaY _),WbD]
 rfl
theorem zkC{l:List Spell}(hok:okS l){bs:List (Rat2×Rat2)}{W:List (List Win)}(h:IsWs l bs W){row:List Int}(hrow:ju (many l) (tot l).toNat row):jU W.flatten row↔∀ k,k<many l->((∀ w∈W.getD k [],okV (posL row k) w)/\(posL row k).length<=(W.getD k []).length):=by
 have ok:=zaK hok h;have hcnt:∀ c:Int,cnt row c=((posL row c).length:Int):=fun c=>by
  have:=zbe row c row.length (YaY _);rw [YaH] at this;exact this
 have wk:∀ (k:Nat),k<many l->∀ w∈W.getD k [],∃ j:Int,1<=j/\w=((k:Int),j,(winB (bot l) (zf (quo l) k) ((zA (bot l) bs).getD k (0,0)) j).1,(winB (bot l) (zf (quo l) k) ((zA (bot l) bs).getD k (0,0)) j).2):=fun k hk w hw=>(h.2 k hk).mem hw
 have atp:∀ (c:Int) (j:Int),1<=j->j<=((posL row c).length:Int)->∃ t,t<row.length/\(posL row c)[(j - 1).toNat]?=some t/\keyR row t=(c,j):=fun c j h1 h2=>by
  have hlt:(j - 1).toNat<(posL row c).length:=#[0]
  have hg:(posL row c)[(j - 1).toNat]?=some (posL row c)[(j - 1).toNat]:=YaQ hlt;generalize (posL row c)[(j - 1).toNat]=t at hg;unfold posL at hg;obtain⟨a1,a2,a3⟩:=ZD (posP row c) hg;refine⟨t,a1,hg,?_⟩;have hp:posP row c t=true:=by
   cases z:posP row c t with
   | true=>rfl
   | false=>rw [Jr,z,if_neg #[1],Yao] at a3;omega
  have hp:row.getD t 0=c:=of_decide_eq_true hp;unfold keyR;rw [hp,zbe row c (t+1) #[0],a3]
  congr 1
  omega
 constructor
 . intro hf k hk
   have inW:∀ j:Int,∀ v∈W.flatten,keyW v=((k:Int),j)->∃ i:Nat,i<(W.getD k []).length/\j=1+(i:Int)/\v∈W.getD k []:=fun j v hv e=>by
    obtain⟨k',hk',i,hi,rfl⟩:=h.get hv;have e1:(k':Int)=(k:Int):=congrArg Prod.fst e;have e2:1+(i:Int)=j:=congrArg Prod.snd e;obtain rfl:k'=k:=#[0]
    exact⟨i,hi,e2.symm,Yah ((h.2 k' hk').at hi)⟩
   refine⟨fun w hw=>?_,?_⟩
   . obtain⟨j,hj,rfl⟩:=wk k hk w hw
     have hwV:_∈W.flatten:=zeF (by rw [h.1];exact hk) hw
     unfold okV;dsimp only
     by_cases hc:j<=((posL row k).length:Int)
     . rw [if_pos hc]
       obtain⟨t,ht,hg,hkey⟩:=atp k j hj hc;obtain⟨v,hv,e,o,la⟩:=hf.1 t ht;have:v=_:=zbH ok.nd hv hwV (e.trans hkey);rw [this] at o la;have gd:(posL row k).getD (j - 1).toNat 0=t:=by rw [YaP,hg];rfl
       rw [gd];dsimp only at o la;refine⟨#[0],fun x hx=>?_⟩
       rw [hx] at la;have la:(t:Int)+1<=x:=la
       omega
     . rw [if_neg hc]
       cases hl:(winB (bot l) (zf (quo l) k) ((zA (bot l) bs).getD k (0,0)) j).2 with
       | none=>rfl
       | some x=>
        have:=hf.2 _ hwV (by dsimp only;rw [hl];nofun)
        dsimp only at this;rw [hcnt] at this;exact absurd this hc
   . by_cases z:(posL row k).length=0
     . omega
     . obtain⟨t,ht,hg,hkey⟩:=atp k ((posL row k).length:Int) #[0] (WbJ _)
       obtain⟨v,hv,e,_⟩:=hf.1 t ht;obtain⟨i,hi,e2,_⟩:=inW _ v hv (e.trans hkey)
       omega
 . intro hc
   refine⟨fun t ht=>?_,fun v hv hne=>?_⟩
   . have hx:=hrow.2 row[t] (Ya4 ht)
     have hgd:row.getD t 0=row[t]:=by rw [YaP,YaQ ht];rfl
     obtain⟨k,hk⟩:∃ k:Nat,row[t]=(k:Int):=⟨row[t].toNat,#[0]⟩
     have hkm:k<many l:=#[0]
     have hp:posP row k t=true:=decide_eq_true (by rw [hgd,hk])
     have h1:(tk (posP row k) (t+1)).length=(tk (posP row k) t).length+1:=by rw [Jr,if_pos hp,YaS];rfl
     have h2:=zal (posP row k) (show t+1<=row.length by omega)
     have h3:(posL row k).length<=(W.getD k []).length:=(hc k hkm).2;have h4:(tk (posP row k) (t+1)).length<=(posL row k).length:=h2;have hi:(tk (posP row k) t).length<(W.getD k []).length:=#[0]
     have hw:=(h.2 k hkm).at hi;have hok':=(hc k hkm).1 _ (Yah hw);unfold okV at hok';dsimp only at hok';rw [if_pos #[0]] at hok'
     have ix:(posL row k).getD (1+((tk (posP row k) t).length:Int) - 1).toNat 0=t:=by
      rw [show(1+((tk (posP row k) t).length:Int) - 1).toNat=(tk (posP row k) t).length by omega,YaP]
      unfold posL;rw [zgC (posP row k) ht hp];rfl
     rw [ix] at hok';refine⟨_,h.has hkm hi,?_,by have:=hok'.1;omega,?_⟩
     . unfold keyR keyW
       dsimp only;rw [hgd,hk,zbe row k (t+1) #[0],h1]
       congr 1
       omega
     . dsimp only
       cases hl:(winB (bot l) (zf (quo l) k) ((zA (bot l) bs).getD k (0,0)) (1+((tk (posP row k) t).length:Int))).2 with
       | none=>trivial
       | some x=>
        have:=hok'.2 x hl;show(t:Int)+1<=x
        omega
   . obtain⟨k,hk,i,hi,rfl⟩:=h.get hv
     have hok':=(hc k hk).1 _ (Yah ((h.2 k hk).at hi));unfold okV at hok';dsimp only at hok' hne ⊢;rw [hcnt]
     by_cases z:1+(i:Int)<=((posL row k).length:Int)
     . exact z
     . rw [if_neg z] at hok'
       exact absurd hok' hne
theorem zog{b:Int}{n:Nat}{rows:List (List Int)}{row:List Int}(hr:∀ x∈row,0<=x/\x<(n:Int)){t:Nat}(ht:t<row.length)(hk1:t+1<rows.length)(hrl:rows[t+1].length=n){i:Nat}(hi:i<n):ldF b n rows row t i=(hadN 1 n (row.take (t+1))).getD i 0*b - rows[t+1].getD i 0:=by
 have hhl1:=jL b n (row.take (t+1));have e:(hadN b n (row.take (t+1))).getD i 0=(hadN 1 n (row.take (t+1))).getD i 0*b:=by
  rw [zbZ b hi hr _ #[0],zbZ 1 hi hr _ #[0],Int.mul_one]
 rw [<-e];have hld:zJ b n rows row t=subL (hadN b n (row.take (t+1))) rows[t+1]:=by
  unfold zJ;rw [YaP,YaQ hk1];rfl
 unfold ldF;rw [hld];unfold subL;have hz:((hadN b n (row.take (t+1))).zip rows[t+1])[i]?=some ((hadN b n (row.take (t+1)))[i]'(by omega),rows[t+1][i]'(by omega)):=Waj.mpr ⟨YaQ #[0],YaQ #[0]⟩
 rw [YaP,Ya0,hz]
 simp [YaP,YaQ (show i<rows[t+1].length by omega),YaQ (show i<(hadN b n (row.take (t+1))).length by omega)]
def dT(l:List Spell):D:=.tuple [.int (bot l),.list ((quo l).map dI)]
def bsR(l:List Spell)(room:Int):List (Rat2×Rat2):=List.replicate (many l) ((room,bot l),(room,bot l))
def posR(l:List Spell)(r:Int):Prop:=∃ row∈quo l,∃ x∈row,r=x%bot l\/r=(-x)%bot l
def OkR(l:List Spell)(room:Int):Prop:=∃ row,ju (many l) (tot l).toNat row/\Zy (zX (bot l) (many l) (quo l) row row.length) (List.replicate (many l) (room,room))
def jV(l:List Spell)(room:Int):Prop:=0<=room/\room<bot l/\OkR l room/\∀ r,0<=r->r<room->¬OkR l r
theorem zaP{l:List Spell}(hb:0<bot l)(room:Int):zA (bot l) (bsR l room)=List.replicate (many l) (room,room):=by
 unfold zA bsR z4;rw [Yaz];simp only [Int.mul_ediv_cancel _ (show bot l≠0 by omega)]
theorem zfn{l:List Spell}(hok:okS l){room:Int}(h0:0<=room)(h1:room<=bot l):okB (many l) (bsR l room)/\∀ p∈bsR l room,okQ p.1/\okQ p.2:=by
 have hb:=zR hok;have bb:Bits 1200 (bot l):=(zar hok).mono #[1]
 have o:okQ (room,bot l):=⟨hb,bb.le (by show room.natAbs<=_;omega),bb⟩
 have i:inQ (room,bot l):=⟨h0,by show room<=10*bot l;omega⟩
 refine⟨⟨Ybb,fun p hp=>?_⟩,fun p hp=>?_⟩
 . unfold bsR at hp;rw [Wan hp];exact⟨i,i⟩
 . unfold bsR at hp;rw [Wan hp];exact⟨o,o⟩
theorem zeW{l:List Spell}{r r':Int}(h:r<=r')(ok:OkR l r):OkR l r':=by
 obtain⟨row,h1,h2⟩:=ok;refine⟨row,h1,fun ld hld i x p hx hp=>?_⟩
 have hi:i<many l:=by
  have:=(Ya8.mp hp).1;rwa [Ybb] at this
 have e:p=(r',r'):=by rw [Yad,if_pos hi] at hp;exact(Wbe hp).symm
 have:=h2 ld hld i x (r,r) hx (by rw [Yad,if_pos hi])
 rw [e];exact⟨by show -r'<=x;have:-r<=x:=this.1;omega,by show x<=r';have:x<=r:=this.2;omega⟩
theorem zb5{ns:List Int}(hs:ns.Pairwise (· < ·)){i j:Nat}(h:i<=j)(hj:j<ns.length):ns.getD i 0<=ns.getD j 0:=by
 rw [YaP,YaP,YaQ hj,YaQ #[0]]
 show ns[i]<=ns[j]
 rcases Nat.lt_or_eq_of_le h with z|z
 . exact WbE (Wai.mp hs i j #[0] hj z)
 . subst z;exact WbJ _
theorem zfr{l:List Spell}(hok:okS l){r:Int}(h:posR l r):0<=r/\r<bot l:=by
 have hb:=zR hok;obtain⟨row,_,x,_,z|z⟩:=h
 . rw [z];exact⟨Ybc _ #[0],Ybd _ hb⟩
 . rw [z];exact⟨Ybc _ #[0],Ybd _ hb⟩
theorem zf0(l:List Spell)(b:Int)(k:Nat):(zf (quoB b l) k).getD 0 0=0:=by
 obtain⟨r,hr⟩:=zeO b l;unfold zf;rw [hr];unfold zeros;simp only [Ya1,List.getD_cons_zero,YaP,Yad]
 split<;>rfl
theorem znk{xs ys:List Int}(h:xs.length=ys.length):(addL xs ys).sum=xs.sum+ys.sum:=by
 unfold addL
 induction xs generalizing ys with
 | nil => cases ys with
  | nil=>rfl
  | cons _ _=>simp at h
 | cons a r ih => cases ys with
  | nil=>simp at h
  | cons b s=>
   rw [List.zip_cons_cons,Ya1,List.sum_cons,List.sum_cons,List.sum_cons,ih (by simpa using h)]
   show a+b+_=_
   omega
theorem zbb(xs:List Int)(c:Int):(xs.map (· * c)).sum=xs.sum*c:=by
 induction xs with
 | nil=>simp
 | cons a r ih=>rw [Ya1,List.sum_cons,List.sum_cons,ih,WbI]
theorem znI{b:Int}{ws:List Int}(hp:0<ws.sum)(hd:ws.sum∣b):(shares b ws).sum=b:=by
 obtain⟨c,rfl⟩:=hd;unfold shares;have e:ws.map (fun w=>w*(ws.sum*c)/ws.sum)=ws.map (· * c):=Yat fun w _=>by
  rw [show w*(ws.sum*c)=ws.sum*(w*c) by ac_rfl,Int.mul_ediv_cancel_left _ #[0]]
 rw [e,zbb]
def zaa(B:Int)(p:List Int×List (List Int)):Prop:=p.1.sum+B=p.2.length*B/\∀ (t:Nat) (r:List Int),p.2[t]?=some r->r.sum=t*B
theorem zdD{B:Int}{n:Nat}{sh:List Int}(hs:sh.length=n)(hB:sh.sum=B){p:List Int×List (List Int)}(hl:ji n p)(h:zaa B p):zaa B (zr sh p)/\ji n (zr sh p):=by
 have e:(addL p.1 sh).sum=p.1.sum+B:=by rw [znk (by rw [hl.1,hs]),hB]
 have hn:(addL p.1 sh).length=n:=by rw [zaZ (by rw [hl.1,hs]),hl.1]
 refine⟨⟨?_,fun t r hr=>?_⟩,hn,fun r hr=>?_⟩
 . show(addL p.1 sh).sum+B=((p.2++[addL p.1 sh]).length:Nat)*B
   rw [e,YaS,List.length_singleton,Int.natCast_add,WbI,h.1];simp
 . have hr:(p.2++[addL p.1 sh])[t]?=some r:=hr
   by_cases ht:t<p.2.length
   . rw [Yab ht] at hr;exact h.2 t r hr
   . rw [Yae #[0]] at hr
     have ht2:t=p.2.length:=by
      have:=(Ya8.mp hr).1
      simp at this;omega
     rw [ht2,WbD] at hr;cases hr;rw [e,ht2,h.1]
 . rcases Ya3.mp hr with z|z
   . exact hl.2 r z
   . rw [Ya6.mp z];exact hn
theorem zdN{B:Int}{n:Nat}{sh:List Int}(hs:sh.length=n)(hB:sh.sum=B):∀ (m:Nat) {p:List Int×List (List Int)},ji n p->zaa B p->zaa B (rep (zr sh) m p)/\ji n (rep (zr sh) m p)
 | 0,p,hl,h=>⟨h,hl⟩
 | m+1,p,hl,h=>zdN hs hB m (zdD hs hB hl h).2 (zdD hs hB hl h).1
theorem zdM{B:Int}{n:Nat}:∀ (l:List Spell) {p:List Int×List (List Int)},(∀ s∈l,s.2.length=n/\0<s.2.sum/\s.2.sum∣B)->ji n p->zaa B p->zaa B (runQ B l p)
 | [],p,_,_,h=>h
 | s :: l, p, hs, hl, h => by
  obtain⟨h1,h2,h3⟩:=hs s YaV;have:=zdN (sh:=shares B s.2) (by rw [zbJ];exact h1) (znI h2 h3) s.1.toNat hl h
  exact zdM l (fun s hs'=>hs s (YaT _ hs')) this.2 this.1
theorem zfi(l:List Spell):(zeros l).sum=0:=by unfold zeros;simp
theorem zlO{l:List Spell}(hok:okS l){t:Nat}{r:List Int}(h:(quoB (zy l) l)[t]?=some r):r.sum=t*zy l:=by
 refine(zdM (B:=zy l) (n:=many l) l (p:=(zeros l,[zeros l])) (fun s hs=>⟨(hok.2.1 s hs).2.2,z8 (hok.2.1 s hs).2.1,zcm hs⟩) ⟨by unfold zeros;simp,fun r hr=>by rw [Ya6.mp hr];unfold zeros;simp⟩ ⟨by rw [zfi];simp,fun t r hr=>?_⟩).2 t r h
 cases t with
 | zero=>cases hr;rw [zfi];simp
 | succ t=>simp at hr
theorem zjX{l:List Spell}(hok:okS l){t:Nat}{r:List Int}(h:(quo l)[t]?=some r):r.sum=t*bot l:=by
 have e:=congrArg (fun z=>z[t]?) (zdy hok)
 simp only [Ya0,h,Option.map_some] at e;obtain⟨r',h',e'⟩:=YaJ.mp e.symm;have e2:=congrArg List.sum e';rw [zbb,zbb,zlO hok h'] at e2;refine Wae (a:=zy l) (by have:=zfa hok;omega) ?_
 rw [<-e2];ac_rfl
def SS(n:Nat)(f:Nat->Int):Int:=((List.range n).map f).sum
theorem jn(n:Nat)(f:Nat->Int):SS (n+1) f=SS n f+f n:=by unfold SS;rw [Wbi,Ya2,Wbk];simp
theorem zax{n:Nat}{f g:Nat->Int}(h:∀ k,k<n->f k<=g k):SS n f<=SS n g:=by
 induction n with
 | zero=>exact WbJ _
 | succ n ih=>
  rw [jn,jn];have:=ih fun k hk=>h k #[0]
  have:=h n #[0]
  omega
theorem zbz(n:Nat)(f:Nat->Int)(c:Int):SS n (fun k=>f k*c)=SS n f*c:=by
 induction n with
 | zero=>unfold SS;simp
 | succ n ih=>rw [jn,jn,ih,WbI]
theorem zbK(n:Nat)(f g:Nat->Int):SS n (fun k=>f k - g k)=SS n f - SS n g:=by
 induction n with
 | zero=>unfold SS;simp
 | succ n ih=>rw [jn,jn,jn,ih];omega
theorem zk4{r:List Int}{n:Nat}(h:r.length=n):SS n (fun k=>r.getD k 0)=r.sum:=by
 unfold SS
 congr 1
 refine List.ext_getElem (by simp [h]) fun i h1 h2=>?_
 rw [List.getElem_map,List.getElem_range,YaP,YaQ h2];rfl
theorem zdJ{α : Type}(p:α->Bool)(W:List (List α)):((W.flatten.filter p).length:Int)=SS W.length fun k=>(((W.getD k []).filter p).length:Int):=by
 have key:∀ (R:List (List α)),((R.reverse.flatten.filter p).length:Int)=SS R.reverse.length fun k=>(((R.reverse.getD k []).filter p).length:Int):=by
  intro R
  induction R with
  | nil=>rfl
  | cons w R ih=>
   rw [List.reverse_cons,List.flatten_append,WaI,YaS,Int.natCast_add,ih,YaS,List.length_singleton,jn];have e1:SS R.reverse.length (fun k=>(((R.reverse++[w]).getD k []).filter p).length)=SS R.reverse.length fun k=>(((R.reverse.getD k []).filter p).length:Int):=by
    unfold SS
    congr 1
    refine Yat fun k hk=>?_
    have hk:=Yba.mp hk;rw [YaP,Yab hk,<-YaP]
   rw [e1]
   congr 1
   simp
 have:=key W.reverse;rwa [List.reverse_reverse] at this
theorem zf3{n:Nat}{k:Int}{F:Int->Int×Option Int}{M:Int}(hM:∀ j,jl n (F j)->j<=M):∀ (m:Nat) (j:Int),M+1 - j<=m->∃ ws,IsW n k F j ws
 | 0,j,h=>⟨[],fun z=>by have:=hM j z;omega⟩
 | m + 1, j, h => by
  by_cases z:jl n (F j)
  . obtain⟨ws,hw⟩:=zf3 hM m (j+1) #[0]
    exact⟨(k,j,(F j).1,(F j).2)::ws,z,rfl,hw⟩
  . exact⟨[],z⟩
theorem zfC{T:Int}{v:Win}:∀ {w:List Win},w.Pairwise (less T)->(∀ u∈w,keyW u≠keyW v)->∃ w':List Win,w'.Perm (v::w)/\w'.Pairwise (less T)
 | [],_,_=>⟨[v],Wbo _,by simp⟩
 | a :: r, hs, hn => by
  obtain⟨ha,hr⟩:=YaC.mp hs
  by_cases z:less T v a
  . exact⟨v::a::r,Wbo _,YaC.mpr ⟨fun x hx=>by
     rcases Wbp.mp hx with e|e
     . rw [e];exact z
     . exact ziY z (ha x e),hs⟩⟩
  . obtain⟨w',hp,hw⟩:=zfC hr fun u hu=>hn u (YaT _ hu)
    have hav:less T a v:=by
     have hk:=hn a YaV;have hk:¬(a.1=v.1/\a.2.1=v.2.1):=fun e=>hk (by unfold keyW;rw [e.1,e.2])
     unfold less at z ⊢
     omega
    refine⟨a::w',(hp.cons a).trans (List.Perm.swap v a r),YaC.mpr ⟨fun x hx=>?_,hw⟩⟩
    rcases Wbp.mp (hp.mem_iff.mp hx) with e|e
    . rw [e];exact hav
    . exact ha x e
theorem zdF{T:Int}:∀ {V:List Win},(V.map keyW).Nodup->∃ w:List Win,w.Perm V/\w.Pairwise (less T)
 | [],_=>⟨[],Wbo _,.nil⟩
 | v :: V, nd => by
  rw [Ya1,YaB] at nd;obtain⟨w,hp,hw⟩:=zdF (T:=T) nd.2;obtain⟨w',hp',hw'⟩:=zfC (v:=v) hw fun u hu e=>nd.1 (by rw [<-e];exact Ya7.mpr ⟨u,hp.mem_iff.mp hu,rfl⟩)
  exact⟨w',hp'.trans (hp.cons v),hw'⟩
theorem zkT{T:Int}{V:List Win}(ok:OkVs T V)(hT:0<=T):(∃ t:Nat,1<=t/\(t:Int)<=T/\(V.filter fun v=>decide (v.2.2.1<=(t:Int))).length<t)\/(∃ a b:Int,1<=a/\0<=b/\max 0 (b - a+1)<((V.filter (zF a b)).length:Int))\/∃ row:List Int,(row.length:Int)=T/\jU V row:=by
 have key:∀ (n:Nat) (wait given:List Win),Dealt T V wait given->(given.length:Int)<=T->n=(T - given.length).toNat->(∃ t:Nat,1<=t/\(t:Int)<=T/\(V.filter fun v=>decide (v.2.2.1<=(t:Int))).length<t)\/(∃ a b:Int,1<=a/\0<=b/\max 0 (b - a+1)<((V.filter (zF a b)).length:Int))\/∃ row:List Int,(row.length:Int)=T/\jU V row:=by
  intro n
  induction n with
  | zero=>
   intro wait given dd hg hn;cases hl:jO wait given.length with
   | true=>
    have:=dd.crowd ok hg hl;exact .inr (.inl ⟨_,_,this.1,#[0],this.2⟩)
   | false=>exact .inr (.inr ⟨given.map (·.1),by rw [YaR];omega,dd.row ok #[0] hl⟩)
  | succ n ih=>
   intro wait given dd hg hn;cases hl:jO wait given.length with
   | true=>
    have:=dd.crowd ok hg hl;exact .inr (.inl ⟨_,_,this.1,#[0],this.2⟩)
   | false=>
    cases hp:z7 ((given.length:Int)+1) wait with
    | none=>exact .inl ⟨given.length+1,#[0],#[0],dd.lack hp⟩
    | some p=>
     obtain⟨v,_,d'⟩:=dd.step hg hl hp;exact ih _ _ d' (by rw [YaS,List.length_singleton];omega) (by rw [YaS,List.length_singleton];omega)
 obtain⟨w,hp,hs⟩:=zdF (T:=T) ok.nd;exact key _ w [] (Dealt.start hp hs) (by simpa using hT) rfl
theorem zmv{T:Int}{V:List Win}{d:D}(h:rowP T V d):∃ row:List Int,d=.tuple [.str "row", dI row]:=by
 obtain⟨row,_,_,_,e⟩:=h;exact⟨row,e⟩
theorem zan{l:List Spell}(hok:okS l){room:Int}(h0:0<=room)(h1:room<=bot l){W:List (List Win)}(hW:IsWs l (bsR l room) W){row:List Int}(hr:ju (many l) (tot l).toNat row) :
 jU W.flatten row↔Zy (zX (bot l) (many l) (quo l) row row.length) (List.replicate (many l) (room,room)):=by
 obtain⟨hB,ho⟩:=zfn hok h0 h1;have:=(zkC hok hW hr).trans (zhe hok hB ho hr hW.1 hW.2).symm;rw [zaP (zR hok)] at this;exact this
theorem ze1{l:List Spell}(hok:okS l){room:Int}(h0:0<=room)(h1:room<=bot l){W:List (List Win)}(hW:IsWs l (bsR l room) W){d:D}(h:rowP (tot l) W.flatten d):OkR l room:=by
 obtain⟨row,hl,hf,hi,_⟩:=h;have htn:=jc fun s hs=>(hok.2.1 s hs).1
 have hr:ju (many l) (tot l).toNat row:=⟨#[0],fun c hc=>by
  obtain⟨i,hi,rfl⟩:=Yam hc;obtain⟨v,hv,e,_⟩:=hf.1 i hi;obtain⟨k,hk,j,_,rfl⟩:=hW.get hv;have e1:(k:Int)=row.getD i 0:=congrArg Prod.fst e;rw [YaP,YaQ hi] at e1;have e1:(k:Int)=row[i]:=e1
  omega⟩
 exact⟨row,hr,(zan hok h0 h1 hW hr).mp hf⟩
theorem zbh{l:List Spell}(hok:okS l){room:Int}(h0:0<=room)(h1:room<=bot l){W:List (List Win)}(hW:IsWs l (bsR l room) W){d:D}(h:Z5 (tot l) W.flatten d\/zab W.flatten d):¬OkR l room:=by
 rintro⟨row,hr,hk⟩
 have hf:=(zan hok h0 h1 hW hr).mpr hk
 rcases h with ⟨t,t1,t2,t3,_⟩|⟨a,b,a1,b1,c,_⟩
 . exact zmO t3 (by have:=hr.1;omega) hf
 . exact zit (zaK hok hW) a1 c hf
theorem zda{l:List Spell}{r:Int}(h0:0<=r)(h:OkR l r):∃ m,0<=m/\m<=r/\OkR l m/\∀ s,0<=s->s<m->¬OkR l s:=by
 obtain⟨n,rfl⟩:=Waq h0
 induction n using Nat.strongRecOn with
 | ind n ih=>
  by_cases z:∃ k:Nat,k<n/\OkR l (k:Int)
  . obtain⟨k,hk,ok⟩:=z
    obtain⟨m,m0,m1,m2,m3⟩:=ih k hk #[0] ok
    exact⟨m,m0,#[0],m2,m3⟩
  . refine⟨n,h0,WbJ _,h,fun s s0 s1 ok=>z ⟨s.toNat,#[0],by rw [show((s.toNat:Nat):Int)=s by omega];exact ok⟩⟩
theorem zmX{l:List Spell}(hok:okS l){row:List Int}(hr:ju (many l) (tot l).toNat row){t k:Nat}(ht:t<row.length)(hk:k<many l){x:Int}(hx:x=ldF (bot l) (many l) (quo l) row t k)(h1:-(bot l)<x)(h2:x<bot l):posR l (if x<0 then -x else x):=by
 have hb:=zR hok;have hql:=jZ hok;have htn:=jc fun s hs=>(hok.2.1 s hs).1
 have hrl:=hr.1;have hk1:t+1<(quo l).length:=#[0]
 have hrw:=Zg hok (b:=bot l) (Ya4 hk1);have e:=zog (b:=bot l) (rows:=quo l) hr.2 ht hk1 hrw hk;have hgm:(quo l)[t+1].getD k 0∈(quo l)[t+1]:=by
  rw [YaP,YaQ (show k<(quo l)[t+1].length by have:(quo l)[t+1].length=many l:=hrw;omega)];exact Ya4 _
 refine⟨(quo l)[t+1],Ya4 hk1,_,hgm,?_⟩
 rw [<-hx] at e;generalize (quo l)[t+1].getD k 0=q at e;generalize (hadN 1 (many l) (row.take (t+1))).getD k 0=n at e
 split
 . refine .inl ?_
   have:q = -x+bot l*n:=by rw [e,WbF n];omega
   rw [this,Int.add_mul_emod_self_left,Int.emod_eq_of_lt #[0] #[0]]
 . refine .inr ?_
   have:-q=x+bot l*(-n):=by rw [e,WbF n,Int.mul_neg];omega
   rw [this,Int.add_mul_emod_self_left,Int.emod_eq_of_lt #[0] #[0]]
theorem zkm{l:List Spell}(hok:okS l):posR l 0:=by
 have hm:=zau hok;have hql:=jZ hok;have htn:=jc fun s hs=>(hok.2.1 s hs).1
 have h0:0<(quo l).length:=#[0]
 have hrw:(quo l)[0].length=many l:=Zg hok (b:=bot l) (Ya4 h0);have h1:0<(quo l)[0].length:=#[0]
 have e:(quo l)[0][0]=0:=by
  have:=zf0 l (bot l) 0;unfold zf at this;rw [YaP,Ya0,YaQ (show 0<(quoB (bot l) l).length from h0)] at this
  have this:(quo l)[0].getD 0 0=0:=this;rw [YaP,YaQ h1] at this;exact this
 exact⟨(quo l)[0],Ya4 h0,0,by rw [<-e];exact Ya4 h1,.inl (by simp)⟩
theorem zfg{l:List Spell}(hok:okS l){m:Int}(m0:0<=m)(mb:m<bot l)(ok:OkR l m)(no:∀ s,0<=s->s<m->¬OkR l s):posR l m:=by
 rcases Classical.em (posR l m) with z|z
 . exact z
 . exfalso
   have hm0:m≠0:=fun e=>z (by rw [e];exact zkm hok)
   obtain⟨row,hr,hk⟩:=ok;refine no (m - 1) #[0] #[0] ⟨row,hr,fun ld hld i x p hx hp=>?_⟩
   have hi:i<many l:=by
    have:=(Ya8.mp hp).1;rwa [Ybb] at this
   have e:p=(m - 1,m - 1):=by rw [Yad,if_pos hi] at hp;exact(Wbe hp).symm
   obtain⟨k1,k2⟩:=hk ld hld i x (m,m) hx (by rw [Yad,if_pos hi])
   have k1:-m<=x:=k1;have k2:x<=m:=k2;unfold zX at hld;obtain⟨t,ht,rfl⟩:=Ya7.mp hld;have hxe:x=ldF (bot l) (many l) (quo l) row t i:=by unfold ldF;rw [YaP,hx];rfl
   have hp:=zmX hok hr (Yba.mp ht) hi hxe #[0] #[0]
   have hne:(if x<0 then -x else x)≠m:=fun y=>z (by rw [<-y];exact hp)
   rw [e];show -(m - 1)<=x/\x<=m - 1
   split at hne<;>omega
theorem zk0{l:List Spell}(hok:okS l){ns:List Int}(hs:ns.Pairwise (· < ·))(hm:∀ r,r∈ns↔posR l r){i:Nat}(hi:i<ns.length)(ok:OkR l (ns.getD i 0))(no:∀ j,j<i->¬OkR l (ns.getD j 0)):jV l (ns.getD i 0):=by
 have hg:ns.getD i 0=ns[i]:=by rw [YaP,YaQ hi];rfl
 obtain⟨p1,p2⟩:=zfr hok ((hm (ns.getD i 0)).mp (by rw [hg];exact Ya4 hi))
 obtain⟨m,m0,m1,m2,m3⟩:=zda p1 ok;have hp:=(hm m).mpr (zfg hok m0 #[0] m2 m3)
 obtain⟨j,hj,e⟩:=Yam hp;have hgj:ns.getD j 0=m:=by rw [YaP,YaQ hj];exact e
 have:i<=j:=Nat.le_of_not_lt fun z=>no j z (by rw [hgj];exact m2)
 have h2:=zb5 hs this hj;have e2:ns.getD i 0=m:=#[0]
 rw [e2];exact⟨m0,#[0],m2,m3⟩
theorem IsW.nd{n:Nat}{k:Int}{F:Int->Int×Option Int}:∀ {ws:List Win} {j:Int},IsW n k F j ws->(ws.map fun w=>w.2.1).Nodup
 | [],_,_=>List.nodup_nil
 | v :: r, j, h => by
  rw [Ya1,YaB];refine⟨fun z=>?_,h.2.2.nd⟩
  obtain⟨w,hw,e⟩:=Ya7.mp z;obtain⟨i,hi,rfl⟩:=h.2.2.mem hw;have e:i=v.2.1:=e;rw [h.2.1] at e;have e:i=j:=e
  omega
theorem zfv{α : Type}{P:Nat->List α->Prop}:∀ {n:Nat},(∀ k,k<n->∃ ws,P k ws)->∃ W:List (List α),W.length=n/\∀ k,k<n->P k (W.getD k [])
 | 0,_=>⟨[],rfl,fun k hk=>absurd hk #[0]⟩
 | n + 1, h => by
  obtain⟨W,h1,h2⟩:=zfv (n:=n) fun k hk=>h k #[0]
  obtain⟨ws,hw⟩:=h n #[0]
  refine⟨W++[ws],by rw [YaS,h1];rfl,fun k hk=>?_⟩
  by_cases z:k<n
  . rw [YaP,Yab #[0],<-YaP];exact h2 k z
  . have e:k=n:=#[0]
    subst e;rw [YaP,Yae #[0],h1,WbD]
    exact hw
theorem zgn{l:List Spell}(hok:okS l)(k t:Nat):(zf (quo l) k).getD t 0<=60*bot l:=by
 have hbp:=zR hok;rw [YaP];cases ht:(zf (quo l) k)[t]? with
 | none=>show(0:Int)<=_;omega
 | some x=>
  show x<=_
  unfold zf at ht;rw [Ya0] at ht;obtain⟨r,hr,rfl⟩:=YaJ.mp ht;rw [YaP];cases hx:r[k]? with
  | none=>show(0:Int)<=_;omega
  | some x=>
   have h1:=zbQ hok hbp r (Yah hr) x (Yah hx);have h2:tot l*bot l<=60*bot l:=Ybe hok.2.2 #[0]
   show x<=_
   omega
theorem zdE{l:List Spell}(hb:0<bot l){room:Int}{k:Nat}(hk:k<many l):(zA (bot l) (bsR l room)).getD k (0,0)=(room,room):=by
 rw [zaP hb,YaP,Yad,if_pos hk];rfl
theorem zc0{l:List Spell}(hok:okS l){room:Int}(h0:0<=room)(h1:room<=bot l):∃ W,IsWs l (bsR l room) W:=by
 have hbp:=zR hok;have hql:=jZ hok;have htn:=jc fun s hs=>(hok.2.1 s hs).1
 refine zfv fun k hk=>?_
 have hpl:(zf (quo l) k).length=(quo l).length:=by unfold zf;rw [YaR]
 rw [zdE hbp hk];exact zf3 (M:=62) (fun j hj=>zbY (M:=61) (room:=(room,room)) hbp (by rw [hpl];omega) (fun t=>by
  have:=zgn hok k t;show _+room<=_
  omega) h0 h0 j (by rw [hpl];exact hj)) 62 1 #[1]
theorem zkF{b e:Int}(hb:0<b)(e1:1<=e){path:List Int}{T t:Nat}(hl:path.length=T+1)(h1:1<=t)(h2:t<=T){ws:List Win}{k:Int}(hW:IsW (T+1) k (winB b path (b - e,b - e)) 1 ws):path.getD t 0 - (e - 1)<=((ws.filter fun v=>decide (v.2.2.1<=(t:Int))).length:Int)*b:=by
 generalize hq:path.getD t 0=q
 by_cases hq0:q<=e - 1
 . have:0<=((ws.filter fun v=>decide (v.2.2.1<=(t:Int))).length:Int)*b:=YaK #[0] #[0]
   omega
 have hm0:0<=(q+b - e)/b:=Wbf #[0] #[0]
 have hm1:(q+b - e)/b*b<=q+b - e:=Int.ediv_mul_le _ #[0]
 have hm2:=Wac (q+b - e) hb;rw [WbI,WbL] at hm2;obtain⟨m,hm⟩:∃ m:Nat,(q+b - e)/b=(m:Int):=⟨((q+b - e)/b).toNat,#[0]⟩
 rw [hm] at hm1 hm2;have op:∀ x:Nat,x<m->(winB b path (b - e,b - e) (1+(x:Int))).1<=(t:Int):=fun x hx=>by
  have hx1:((x:Int)+1)*b<=m*b:=Ybe #[0] #[0]
  rw [WbI,WbL] at hx1;have:=zbw (n:=T+1) #[0] (p:=fun t=>decide ((1+(x:Int))*b - (b - e)<=path.getD t 0)) h1 (decide_eq_true (by
   rw [hq,WbI,WbL];omega))
  unfold winB winP;rw [hl];show((zx (T+1) (fun t=>decide ((1+(x:Int))*b - (b - e)<=path.getD t 0)):Nat):Int)<=t
  omega
 have hlen:=hW.long (m:=m) fun x hx=>.inl (by have:=op x hx;omega)
 have hsub:((ws.take m).filter fun v=>decide (v.2.2.1<=(t:Int)))=ws.take m:=List.filter_eq_self.mpr fun v hv=>by
  obtain⟨i,hi,rfl⟩:=Yam hv;have hi':i<m:=by rw [Wa5] at hi;omega
  have:=hW.at (i:=i) #[0]
  rw [YaQ #[0]] at this
  rw [List.getElem_take,Wbe this];exact decide_eq_true (op i hi')
 have hle:=((List.take_sublist m ws).filter fun v=>decide (v.2.2.1<=(t:Int))).length_le
 rw [hsub,Wa5,Nat.min_eq_left hlen] at hle;have:=Ybe (c:=b) (show(m:Int)<=(ws.filter fun v=>decide (v.2.2.1<=(t:Int))).length by omega) #[0]
 omega
theorem zko{b e:Int}(hb:0<b)(e1:1<=e){path:List Int}{T A C:Nat}(hl:path.length=T+1)(mono:∀ s t,s<=t->t<=T->path.getD s 0<=path.getD t 0)(hz:path.getD 0 0=0)(hC:C<=T){a c:Int}(hA:A=0\/(A:Int)<a)(hAT:A<=T)(hc:∀ x:Nat,(x:Int)<=c->x<=T->x<=C){ws:List Win}{k:Int}(hW:IsW (T+1) k (winB b path (b - e,b - e)) 1 ws):(ws.filter (zF a c)).length=0\/((ws.filter (zF a c)).length:Int)<=(path.getD C 0+e - 1)/b - (path.getD A 0+b - e)/b:=by
 generalize hlo:path.getD A 0=lo at *;generalize hhi:path.getD C 0=hi at *;have key:∀ w∈ws.filter (zF a c),1<=w.2.1/\lo+b - e<w.2.1*b/\w.2.1*b<=hi+e - 1:=fun w hw=>by
  obtain⟨hw,hcr⟩:=Ya9.mp hw;obtain⟨j,hj,rfl⟩:=hW.mem hw;unfold zF at hcr;dsimp only at hcr ⊢;have jb:(j - 1)*b=j*b - b:=by rw [WbK,WbL]
  have j1:b<=j*b:=by have:=Ybe (c:=b) hj #[0];omega
  cases hx:(winB b path (b - e,b - e) j).2 with
  | none=>rw [hx] at hcr;cases hcr
  | some x=>
   rw [hx] at hcr;simp only [Yak,decide_eq_true_eq] at hcr;obtain⟨h1,h2⟩:=hcr;unfold winB winP at h1 hx;rw [hl] at h1 hx;dsimp only at h1 hx;obtain⟨a1,a2,a3,a4⟩:=jj (n:=T+1) #[0] (fun t=>decide (j*b - (b - e)<=path.getD t 0))
   obtain⟨b1,b2,b3,b4⟩:=jj (n:=T+1) #[0] (fun t=>decide ((j - 1)*b+(b - e)+1<=path.getD t 0))
   split at hx
   . cases hx
   . rename_i hne
     have hx:=Wbe hx;have q1:=of_decide_eq_true (b4 #[0])
     have q2:=hc _ (by rw [hx];exact h2) #[0]
     have q3:=mono _ _ q2 hC;rw [hhi] at q3;refine⟨hj,?_,#[0]⟩
     by_cases z0:A=0
     . rw [z0,hz] at hlo
       omega
     . have:=of_decide_eq_false (a3 A #[0] #[0])
       rw [hlo] at this
       omega
 have i0:=Wac (hi+e - 1) hb;have i3:(lo+b - e)/b*b<=lo+b - e:=Int.ediv_mul_le _ #[0]
 generalize (lo+b - e)/b=u at *;generalize (hi+e - 1)/b=v at *;have nd:((ws.filter (zF a c)).map fun w=>w.2.1).Nodup:=hW.nd.sublist (List.filter_sublist.map _)
 have:=zbd (M:=(List.range (v - u).toNat).map fun(i:Nat)=>u+1+(i:Int)) nd fun x hx=>by
  obtain⟨w,hw,rfl⟩:=Ya7.mp hx;obtain⟨k1,k2,k3⟩:=key w hw;have e1:w.2.1<v+1:=Wag (a:=b) #[0] #[0]
  have e2:u<w.2.1:=Wag (a:=b) #[0] #[0]
  exact Ya7.mpr ⟨(w.2.1 - 1 - u).toNat,Yba.mpr #[0],#[0]⟩
 rw [YaR,YaR,YaG] at this
 omega
theorem zer(n:Nat)(f g:Nat->Int):SS n (fun k=>f k+g k)=SS n f+SS n g:=by
 induction n with
 | zero=>unfold SS;simp
 | succ n ih=>rw [jn,jn,jn,ih];omega
theorem zdR{k0:Nat}(c:Int):∀ n:Nat,SS n (fun k=>if k=k0 then 0 else c)=if k0<n then n*c - c else n*c
 | 0=>by unfold SS;simp
 | n + 1 => by
  rw [jn,zdR c n,Int.natCast_succ,WbI,WbL]
  by_cases h:n=k0
  . rw [if_pos h,if_neg #[0],if_pos #[0]];omega
  . rw [if_neg h]
    by_cases h2:k0<n
    . rw [if_pos h2,if_pos #[0]];omega
    . rw [if_neg h2,if_neg #[0]]
theorem zcp(n:Nat)(c:Int):SS n (fun _=>c)=n*c:=by
 induction n with
 | zero=>unfold SS;simp
 | succ n ih=>rw [jn,ih,Int.natCast_succ,WbI,WbL]
theorem zcl{l:List Spell}(hok:okS l){e:Int}(e1:1<=e)(e2:e<=bot l)(en:(many l:Int)*(e - 1)<bot l)(em:(many l:Int)*(2*(e - 1)) - 2*(e - 1)<bot l):OkR l (bot l - e):=by
 have hb:=zR hok;have hql:=jZ hok;have htn:=jc fun s hs=>(hok.2.1 s hs).1
 obtain⟨T,hT⟩:∃ T:Nat,tot l=(T:Int):=⟨(tot l).toNat,#[0]⟩
 have hpl:∀ k,(zf (quo l) k).length=T+1:=fun k=>by unfold zf;rw [YaR];omega
 obtain⟨W,hW⟩:=zc0 hok (room:=bot l - e) #[0] #[0]
 have hIs:∀ k,k<many l->IsW (T+1) k (winB (bot l) (zf (quo l) k) (bot l - e,bot l - e)) 1 (W.getD k []):=fun k hk=>by
  have:=hW.2 k hk;rwa [zdE hb hk,show(quo l).length=T+1 by omega] at this
 have hsum:∀ t:Nat,t<=T->SS (many l) (fun k=>(zf (quo l) k).getD t 0)=t*bot l:=fun t ht=>by
  have hlt:t<(quo l).length:=#[0]
  have e:=zjX hok (YaQ hlt);rw [<-e,<-zk4 (Zg hok (b:=bot l) (Ya4 hlt))];unfold SS
  congr 1
  refine Yat fun k _=>?_
  rw [zaj,YaP (l:=quo l),YaQ hlt];rfl
 have mono:∀ k s t,s<=t->t<=T->(zf (quo l) k).getD s 0<=(zf (quo l) k).getD t 0:=fun k s t h1 h2=>zeZ hok (b:=bot l) #[0] k s t h1 (by
  have:(quoB (bot l) l).length=(quo l).length:=rfl
  omega)
 have ok:=zaK hok hW
 rcases zkT ok htn with ⟨t,t1,t2,t3⟩|⟨a,c,a1,c0,h⟩|⟨row,hl,hf⟩
 . exfalso
   have h1:SS (many l) (fun k=>(zf (quo l) k).getD t 0 - (e - 1))<=SS (many l) (fun k=>(((W.getD k []).filter fun v=>decide (v.2.2.1<=(t:Int))).length:Int)*bot l):=zax fun k hk=>zkF hb e1 (hpl k) t1 #[0] (hIs k hk)
   rw [zbK,hsum t #[0],zcp,zbz,<-hW.1,<-zdJ] at h1
   have h2:(t:Int)*bot l<((W.flatten.filter fun v=>decide (v.2.2.1<=(t:Int))).length+1:Int)*bot l:=by
    rw [WbI,WbL];rw [hW.1] at h1;omega
   have:=Wag h2 #[0]
   omega
 . exfalso
   have hA:∃ A C:Nat,A<=C/\C<=T/\(A=0\/(A:Int)<a)/\(∀ x:Nat,(x:Int)<=c->x<=T->x<=C)/\(C:Int) - A<=max 0 (c - a+1):=by
    refine⟨min (a - 1).toNat T,max (min c.toNat T) (min (a - 1).toNat T),#[0],#[0],#[0],fun x h1 h2=>by omega,#[0]⟩
   obtain⟨A,C,h1,h2,h3,h4,h5⟩:=hA;have few:=fun(k:Nat) (hk:k<many l)=>zko (a:=a) (c:=c) hb e1 (hpl k) (mono k) (zf0 l (bot l) k) h2 h3 #[0] h4 (hIs k hk)
   have hm:=fun k=>mono k A C h1 h2
   have sA:=hsum A #[0]
   have sC:=hsum C h2;have hcnt:=zdJ (zF a c) W;rw [hW.1] at hcnt;have goal:((W.flatten.filter (zF a c)).length:Int)<=C - A:=by
    have v1:∀ k,((zf (quo l) k).getD C 0+e - 1)/bot l*bot l<=(zf (quo l) k).getD C 0+(e - 1):=fun k=>by
     have:=Int.ediv_mul_le ((zf (quo l) k).getD C 0+e - 1) (show bot l≠0 by omega)
     omega
    have w1:∀ k,(zf (quo l) k).getD A 0 - (e - 1)<=((zf (quo l) k).getD A 0+bot l - e)/bot l*bot l:=fun k=>by
     have:=Wac ((zf (quo l) k).getD A 0+bot l - e) hb;rw [WbI,WbL] at this
     omega
    rw [hcnt]
    by_cases hall:∀ k,k<many l->((W.getD k []).filter (zF a c)).length≠0
    . have s1:=zax (n:=many l) fun k hk=>(few k hk).resolve_left (hall k hk)
      rw [zbK] at s1;have s2:=zax (n:=many l) fun k _=>v1 k
      have s3:=zax (n:=many l) fun k _=>w1 k
      rw [zbz,zer,sC,zcp] at s2;rw [zbz,zbK,sA,zcp] at s3;have s4:SS (many l) (fun k=>((zf (quo l) k).getD C 0+e - 1)/bot l)<C+1:=Wag (a:=bot l) (by rw [WbI,WbL];omega) #[0]
      have s5:(A:Int) - 1<SS (many l) (fun k=>((zf (quo l) k).getD A 0+bot l - e)/bot l):=Wag (a:=bot l) (by rw [WbK,WbL];omega) #[0]
      omega
    . obtain⟨k0,hk0,z0⟩:∃ k,k<many l/\((W.getD k []).filter (zF a c)).length=0:=by
       rcases Classical.em (∃ k,k<many l/\((W.getD k []).filter (zF a c)).length=0) with z|z
       . exact z
       . exact absurd (fun k hk y=>z ⟨k,hk,y⟩) hall
      have s1:SS (many l) (fun k=>(((W.getD k []).filter (zF a c)).length:Int)*bot l)<=SS (many l) (fun k=>((zf (quo l) k).getD C 0 - (zf (quo l) k).getD A 0)+if k=k0 then 0 else 2*(e - 1)):=zax fun k hk=>by
       have hmk:=hm k
       by_cases y:k=k0
       . subst y
         rw [if_pos rfl,z0];show(0:Int)*bot l<=_;rw [Int.zero_mul]
         omega
       . rw [if_neg y]
         rcases few k hk with z|z
         . rw [z]
           show(0:Int)*bot l<=_
           rw [Int.zero_mul]
           omega
         . have:=Ybe (c:=bot l) z #[0]
           rw [WbK] at this;have:=v1 k;have:=w1 k
           omega
      rw [zbz,zer,zbK,sC,sA,zdR,if_pos hk0] at s1;have s2:SS (many l) (fun k=>(((W.getD k []).filter (zF a c)).length:Int))<(C:Int) - A+1:=Wag (a:=bot l) (by rw [WbI,WbK,WbL];omega) #[0]
      omega
   omega
 . have hr:ju (many l) (tot l).toNat row:=⟨#[0],fun c hc=>by
    obtain⟨i,hi,rfl⟩:=Yam hc;obtain⟨v,hv,e,_⟩:=hf.1 i hi;obtain⟨k,hk,j,_,rfl⟩:=hW.get hv;have e1:(k:Int)=row.getD i 0:=congrArg Prod.fst e;rw [YaP,YaQ hi] at e1;have e1:(k:Int)=row[i]:=e1
    omega⟩
   exact⟨row,hr,(zan hok #[0] #[0] hW hr).mp hf⟩
theorem zlB{l:List Spell}(hok:okS l):OkR l (bot l - 1):=by
 have hb:=zR hok;exact zcl hok #[1] #[0] #[6] #[6]
theorem zjy{l:List Spell}(hok:okS l){ns:List Int}(hs:ns.Pairwise (· < ·))(hm:∀ r,r∈ns↔posR l r):0<ns.length/\OkR l (ns.getD (ns.length - 1) 0):=by
 have hb:=zR hok;obtain⟨m,m0,m1,m2,m3⟩:=zda (r:=bot l - 1) #[0] (zlB hok)
 have hp:=(hm m).mpr (zfg hok m0 #[0] m2 m3)
 obtain⟨j,hj,e⟩:=Yam hp;have hgj:ns.getD j 0=m:=by rw [YaP,YaQ hj];exact e
 refine⟨#[0],zeW ?_ m2⟩
 rw [<-hgj];exact zb5 hs #[0] #[0]
theorem zcg(r:Rat2):Plain 1 (dQ r):=Plain.tuple fun d hd=>by
 rcases Wbp.mp hd with rfl|hd
 . exact Plain.int _
 . rw [Ya6.mp hd];exact Plain.int _
theorem zlY{a b:Int}(hb:0<b)(h0:0<=a):PyData.eqv (dR a b) (.tuple [.int 0,.int 1])=decide (a=0):=by
 have e:∀ x y:Int,PyData.eqv (.tuple [.int x,.int y]) (.tuple [.int 0,.int 1])=(decide (x=0)&&decide (y=1)):=fun x y=>by simp [PyData.eqv,PyData.eqvAll];rfl
 unfold dR;rw [e]
 by_cases z:a=0
 . subst z
   rw [Int.gcd_zero_left,show((b.natAbs:Nat):Int)=b by omega,Int.zero_ediv,Int.ediv_self #[0]];rfl
 . obtain⟨_,_,l3,_⟩:=Z9 (a:=a) hb
   have:a/(Int.gcd a b:Int)≠0:=fun y=>by rw [y] at l3;omega
   rw [decide_eq_false this,decide_eq_false z];rfl
theorem zmf{l:List Spell}{room:Int}(hl:jV l room){row:List Int}(hr:ju (many l) (tot l).toNat row)(hk:Zy (zX (bot l) (many l) (quo l) row row.length) (List.replicate (many l) (room,room)))(hlen:∀ t,t<row.length->(zJ (bot l) (many l) (quo l) row t).length=many l):Far (zP (bot l) (many l) (quo l) row row.length) room:=by
 obtain⟨r0,r1,r2,r3⟩:=hl;have at':∀ x∈zP (bot l) (many l) (quo l) row row.length,∃ ld∈zX (bot l) (many l) (quo l) row row.length,∃ i,i<many l/\ld[i]?=some x:=fun x hx=>by
  obtain⟨ld,hld,hx⟩:=Wbb.mp hx;obtain⟨i,hi,e⟩:=Yam hx;have hl:ld.length=many l:=by
   obtain⟨t,ht,rfl⟩:=Ya7.mp hld;exact hlen t (Yba.mp ht)
  exact⟨ld,hld,i,#[0],by rw [YaQ hi,e]⟩
 refine⟨r0,fun x hx=>?_,?_⟩
 . obtain⟨ld,hld,i,hi,e⟩:=at' x hx
   have:=hk ld hld i x (room,room) e (by rw [Yad,if_pos hi])
   have h1:-room<=x:=this.1;have h2:x<=room:=this.2;exact⟨h2,#[0]⟩
 . rcases Classical.em (room=0\/room∈zP (bot l) (many l) (quo l) row row.length\/-room∈zP (bot l) (many l) (quo l) row row.length) with z|z
   . exact z
   . exfalso
     refine r3 (room - 1) #[0] #[0] ⟨row,hr,fun ld hld i x p hx hp=>?_⟩
     have hi:i<many l:=by
      have:=(Ya8.mp hp).1;rwa [Ybb] at this
     have e:p=(room - 1,room - 1):=by rw [Yad,if_pos hi] at hp;exact(Wbe hp).symm
     have:=hk ld hld i x (room,room) hx (by rw [Yad,if_pos hi])
     have h1:-room<=x:=this.1;have h2:x<=room:=this.2;have hm:x∈zP (bot l) (many l) (quo l) row row.length:=Wbb.mpr ⟨ld,hld,Yah hx⟩;have n1:x≠room:=fun y=>z (.inr (.inl (y ▸ hm)))
     have n2:x≠-room:=fun y=>z (.inr (.inr (y ▸ hm)))
     rw [e];show -(room - 1)<=x/\x<=room - 1
     omega
theorem zgR{l:List Spell}(hok:okS l){room:Int}(hl:jV l room){row:List Int}{W:List (List Win)}(hW:IsWs l (bsR l room) W)(h1:(row.length:Int)=tot l)(hf:jU W.flatten row):ju (many l) (tot l).toNat row/\Far (zP (bot l) (many l) (quo l) row row.length) room:=by
 have htn:=jc fun s hs=>(hok.2.1 s hs).1
 have hr:ju (many l) (tot l).toNat row:=⟨#[0],fun c hc=>by
  obtain⟨i,hi,rfl⟩:=Yam hc;obtain⟨v,hv,e,_⟩:=hf.1 i hi;obtain⟨k,hk,j,_,rfl⟩:=hW.get hv;have e1:(k:Int)=row.getD i 0:=congrArg Prod.fst e;rw [YaP,YaQ hi] at e1;have e1:(k:Int)=row[i]:=e1
  omega⟩
 refine⟨hr,zmf hl hr ((zan hok hl.1 (by have:=hl.2.1;omega) hW hr).mp hf) fun t ht=>?_⟩
 have hqo:=jZ hok;have hmem:(quo l).getD (t+1) []∈quo l:=by
  rw [YaP,YaQ #[0]];exact Ya4 _
 have h2:=Zg hok (b:=bot l) hmem;unfold zJ subL;rw [YaR,Wbh,jL,h2,Nat.min_self]
theorem zn0{a b:Int}(hb:0<b):dR (a/(Int.gcd a b:Int)) (b/(Int.gcd a b:Int))=dR a b:=by
 obtain⟨l1,l2,_,_⟩:=Z9 (a:=a) hb;unfold dR;rw [l2]
 simp
theorem zft:∀ {xs ys:List Int},xs.map PyData.int=ys.map PyData.int->xs=ys
 | [],[],_=>rfl
 | [],_::_,h=>by cases h
 | _::_,[],h=>by cases h
 | a :: r, b :: s, h => by
  injection h with h1 h2
  injection h1 with h1
  rw [h1,zft h2]
theorem zkO{l:List Spell}{r s:Int}(hr:jV l r)(hs:jV l s):r=s:=by
 rcases Int.lt_trichotomy r s with z|z|z
 . exact absurd hr.2.2.1 (hs.2.2.2 r hr.1 z)
 . exact z
 . exact absurd hs.2.2.1 (hr.2.2.2 s hs.1 z)
def topP(n:Int):Int:=if n=1 then 0 else 2*n - 3
def botP(n:Int):Int:=if n=1 then 1 else 2*n - 2
theorem zf9{l:List Spell}(hok:okS l){room:Int}(hl:jV l room):room*botP (many l)<=topP (many l)*bot l:=by
 have hb:=zR hok;have hm:=zau hok;obtain⟨r0,r1,r2,r3⟩:=hl;have le:∀ r,0<=r->OkR l r->room<=r:=fun r h0 h=>by
  rcases Int.lt_or_le r room with z|z
  . exact absurd h (r3 r h0 z)
  . exact z
 unfold botP topP
 by_cases h1:(many l:Int)=1
 . rw [if_pos h1,if_pos h1]
   have:=le (bot l - bot l) #[0] (zcl hok (e:=bot l) #[0] #[0] (by rw [h1];omega) (by rw [h1];omega))
   omega
 . rw [if_neg h1,if_neg h1]
   generalize hn:(many l:Int)=n at *;have n2:2<=n:=#[0]
   have c0:0<2*n - 2:=#[0]
   have e0:=Wac (bot l - 1) c0;have e3:(bot l - 1)/(2*n - 2)*(2*n - 2)<=bot l - 1:=Int.ediv_mul_le _ #[0]
   have e4:0<=(bot l - 1)/(2*n - 2):=Wbf #[0] #[0]
   generalize (bot l - 1)/(2*n - 2)=f at *;have e5:f*2<=f*(2*n - 2):=Yau #[0] e4
   have e6:f*n<=f*(2*n - 2):=Yau #[0] e4
   have e7:n*(2*f) - 2*f=f*(2*n - 2):=by rw [Int.mul_sub,<-Wbw,WbF n 2,WbF (2*n) f];omega
   have h2:=le (bot l - (f+1)) #[0] (zcl hok (e:=f+1) #[0] #[0] (by rw [hn,show f+1 - 1=f by omega,WbF];omega) (by rw [hn,show f+1 - 1=f by omega];omega))
   have h3:=Ybe (c:=2*n - 2) h2 #[0]
   rw [WbK] at h3;have h4:(2*n - 3)*bot l=bot l*(2*n - 2) - bot l:=by rw [WbF (bot l),show 2*n - 3=(2*n - 2) - 1 by omega,WbK (2*n - 2),WbL]
   omega
theorem zg7{ws:List Int}:∀ {j:Nat} (h:j<ws.length) (x:Int),(ws.set j x).sum=ws.sum - ws[j]+x:=by
 induction ws with
 | nil=>intro j h;simp at h
 | cons a r ih=>
  intro j h x;cases j with
  | zero=>rw [List.set_cons_zero,List.sum_cons,List.sum_cons];show x+r.sum=a+r.sum - a+x;omega
  | succ j=>
   have hj:j<r.length:=by simpa using h
   rw [List.set_cons_succ,List.sum_cons,List.sum_cons,ih hj];show a+(r.sum - r[j]+x)=a+r.sum - r[j]+x
   omega
theorem zde{d:Int}:∀ (ws:List Int) (a:Int),d∣a->(∀ w∈ws,d∣w)->d∣ws.foldl (fun a b=>(Int.gcd a b:Int)) a
 | [],_,h,_=>h
 | w::ws,a,h,hs=>zde ws _ (Int.dvd_coe_gcd h (hs w YaV)) fun x hx=>hs x (YaT _ hx)
theorem zhE{w t:Int}{fa:Bool}{acc:List D}{K:Bool->List D->Env3->Prop}{x:Option L3.Cl}{C:Int->Int->Prop}(hm:C w t)(kk:K fa (acc++[PyData.int (w*t)]) [some (Cl.sh true (PyData.int w)),some (Cl.sh true (PyData.int t))]) :
 gn3 0 true (PyData.int w) [x,some (Cl.sh true (PyData.int t))] fun ρ'=>true3 ρ' fun k=>if k=true then o3 (int3 C fun i j=>PyData.int (i*j)) (v3 0) (v3 1) ρ' fun c=>asS c fun fy y=>K (fa&&fy) (acc++[y]) ρ' else K fa acc ρ':=by
 simp only [gn3,zt,true3,if_true,o3,v3,atV,k3,int3,asS,asB,asD,asI,List.set_cons_zero,List.getElem?_cons_zero,List.getElem?_cons_succ,WbG,Wbx,WaN,Cl.sh.injEq,Wbc,exists_eq_left,exists_eq_left',true_and,and_true];exact⟨hm,kk⟩
theorem ziK{ws:List Int}{t:Int}(hl:1<=ws.length/\ws.length<=8)(hw:∀ w∈ws,0<=w/\w<=16)(h0:ws.sum≠0)(h60:ws.sum<=60)(t1:1<=t)(t9:t<=10 ^ 9):okW (ws.map (· * t))/\parts (ws.map (· * t))<=60/\(ws.map (· * t)).sum<=10 ^ 20:=by
 have hn:=ZW fun w h=>(hw w h).1
 have e:=zbb ws t;have hp:0<ws.sum*t:=Int.mul_pos #[0] #[0]
 have hle:ws.sum*t<=60*t:=Ybe h60 #[0]
 have hok:okW (ws.map (· * t)):=by
  refine⟨by rw [YaR];exact hl,fun x hx=>?_,by rw [e];omega⟩
  obtain⟨w,hw',rfl⟩:=Ya7.mp hx;obtain⟨a,b⟩:=hw w hw';have h1:0<=w*t:=YaK a #[0]
  have h2:w*t<=16*t:=Ybe b #[0]
  exact⟨h1,by show w*t<10 ^ 30;omega⟩
 refine⟨hok,?_,by rw [e];omega⟩
 have hd:t∣gcdL (ws.map (· * t)):=zde _ 0 (Int.dvd_zero t) fun x hx=>by
  obtain⟨w,_,rfl⟩:=Ya7.mp hx;exact Int.dvd_mul_left w t
 have hg:=Wbv (Jf hok) hd;have hm:=zaf (ws:=ws.map (· * t));have hpp:=jq hok;have h3:parts (ws.map (· * t))*t<=parts (ws.map (· * t))*gcdL (ws.map (· * t)):=Yau hg #[0]
 rw [hm,e] at h3;exact YaF (Int.le_trans h3 hle) #[0]
theorem Jj{ws:List Int}(hw:okW ws)(h:parts ws<=60):okS [(parts ws,ws)]:=by
 have:=jq hw;refine⟨by simp,fun s hs=>?_,by unfold tot;simpa using h⟩
 rw [Ya6.mp hs];exact⟨by show 1<=parts ws;omega,hw,rfl⟩
theorem zhL{sh:List Int}{n:Int}:addL (sh.map (· * n)) sh=sh.map (· * (n+1)):=by
 unfold addL
 induction sh with
 | nil=>rfl
 | cons a r ih=>
  rw [Ya1,List.zip_cons_cons,Ya1,ih,Ya1,Int.mul_add,Int.mul_one]
theorem zcc{sh:List Int}:∀ n:Nat,rep (zr sh) n (sh.map (· * ((0:Nat):Int)),[sh.map (· * ((0:Nat):Int))])=(sh.map (· * (n:Int)),(List.range (n+1)).map fun(t:Nat)=>sh.map (· * (t:Int)))
 | 0=>rfl
 | n + 1 => by
  rw [zcR,zcc n];unfold zr;dsimp only;rw [zhL,Wbi (n:=n+1),Ya2]
  rfl
theorem zhG{T:Int}{ws:List Int}:quo [(T,ws)]=(List.range (T.toNat+1)).map fun(t:Nat)=>(shares (bot [(T,ws)]) ws).map (· * (t:Int)):=by
 have e:zeros [(T,ws)]=(shares (bot [(T,ws)]) ws).map (· * ((0:Nat):Int)):=by
  unfold zeros many shares;rw [YaD];show List.replicate ws.length 0=_;rw [<-Wbl];refine Yat fun w _=>?_
  simp
 unfold quo runQ;rw [e,List.foldl_cons,List.foldl_nil,zcc]
theorem zf2{a b:List Int}{i:Nat}{x y:Int}(h1:a[i]?=some x)(h2:b[i]?=some y):(subL a b)[i]?=some (x - y):=by
 unfold subL;have hz:(a.zip b)[i]?=some (x,y):=Waj.mpr ⟨h1,h2⟩;rw [Ya0,hz];rfl
theorem zco{ws:List Int}(T:Int):bot [(T,ws)]=parts ws:=by
 show 1*parts ws/(Int.gcd 1 (parts ws):Int)=parts ws
 rw [WbL,show Int.gcd 1 (parts ws)=1 by simp]
 simp
theorem zgz{ws:List Int}(hw:okW ws){w:Int}(h:w∈ws):w*parts ws/ws.sum*gcdL ws=w:=by
 obtain⟨x,hx⟩:=zcT h;have hg:=Jf hw;have hm:=zaf (ws:=ws);have hsp:=z8 hw;have e:w*parts ws=ws.sum*x:=by rw [hx,<-hm];ac_rfl
 rw [e,Int.mul_ediv_cancel_left _ #[0],hx]
 ac_rfl
theorem zdO{b:Int}{n:Nat}(row:List Int)(hr:∀ c∈row,0<=c/\c<(n:Int))(k:Nat)(hk:k<n):(hadN b n row).getD k 0=(row.count (k:Int):Nat)*b:=by
 have key:∀ R:List Int,(∀ c∈R,0<=c/\c<(n:Int))->(hadN b n R.reverse).getD k 0=(R.reverse.count (k:Int):Nat)*b:=by
  intro R
  induction R with
  | nil=>
   intro _;show(List.replicate n (0:Int)).getD k 0=_;rw [YaP,Yad,if_pos hk];simp
  | cons c r ih=>
   intro hr;have hc:=hr c YaV;have ih:=ih (fun x hx=>hr x (YaT _ hx))
   rw [List.reverse_cons,zcf];unfold had1;have hl:=jL b n r.reverse;rw [YaP,List.count_append]
   by_cases z:c.toNat=k
   . rw [z,Yas #[0],ih,show c=(k:Int) by omega,List.count_singleton_self,Int.natCast_add,WbI]
     simp
   . rw [Yac z,<-YaP,ih,List.count_singleton]
     have:¬(c==(k:Int))=true:=fun y=>z (by have:=eq_of_beq y;omega)
     rw [if_neg this,Nat.add_zero]
 have:=key row.reverse fun c hc=>hr c (List.mem_reverse.mp hc)
 rwa [List.reverse_reverse] at this
theorem zmm{ws:List Int}(hw:okW ws)(h60:parts ws<=60){room:Int}(hl:jV [(parts ws,ws)] room){row:List Int}(hr:ju ws.length (parts ws).toNat row)(hk:Zy (zX (bot [(parts ws,ws)]) ws.length (quo [(parts ws,ws)]) row row.length) (List.replicate ws.length (room,room))){k:Nat}(hkl:k<ws.length):(row.count (k:Int):Nat)*ws.sum=ws[k]*parts ws:=by
 have hp:=jq hw;have hrl:=hr.1;have hn:0<row.length:=#[0]
 rw [zco] at hk;have hb:room<parts ws:=by have:=hl.2.1;rwa [zco] at this
 have hld:zJ (parts ws) ws.length (quo [(parts ws,ws)]) row (row.length - 1)∈zX (parts ws) ws.length (quo [(parts ws,ws)]) row row.length:=Ya7.mpr ⟨row.length - 1,Yba.mpr #[0],rfl⟩
 have hz:(zJ (parts ws) ws.length (quo [(parts ws,ws)]) row (row.length - 1))[k]?=some ((row.count (k:Int):Nat)*parts ws - ws[k]*parts ws/ws.sum*parts ws):=by
  unfold zJ;rw [show row.length - 1+1=row.length by omega,YaH]
  refine zf2 ?_ ?_
  . have h1:=zdO (b:=parts ws) row hr.2 k hkl
    have h2:k<(hadN (parts ws) ws.length row).length:=by rw [jL];exact hkl
    rw [YaP,YaQ h2] at h1;rw [YaQ h2];exact congrArg some h1
  . rw [zhG,zco,YaP,Ya0,Yax #[0]]
    show((shares (parts ws) ws).map (· * ((row.length:Nat):Int)))[k]?=_
    unfold shares;rw [Ya0,Ya0,YaQ hkl];show some (ws[k]*parts ws/ws.sum*((row.length:Nat):Int))=_;rw [show((row.length:Nat):Int)=parts ws by omega]
 obtain⟨k1,k2⟩:=hk _ hld k _ (room,room) hz (by rw [Yad,if_pos hkl])
 have k1:-room<=(row.count (k:Int):Nat)*parts ws - ws[k]*parts ws/ws.sum*parts ws:=k1;have k2:(row.count (k:Int):Nat)*parts ws - ws[k]*parts ws/ws.sum*parts ws<=room:=k2;have e:=zgz hw (Ya4 hkl);generalize ws[k]*parts ws/ws.sum=x at *;rw [<-WbK] at k1 k2;have hx:((row.count (k:Int):Nat):Int) - x=0:=by
  have h1:((row.count (k:Int):Nat):Int) - x<1:=Wag (a:=parts ws) #[0] #[0]
  have h2:-1<((row.count (k:Int):Nat):Int) - x:=Wag (a:=parts ws) #[0] #[0]
  omega
 have hx:((row.count (k:Int):Nat):Int)=x:=#[0]
 rw [hx,<-e,<-zaf]
 ac_rfl
theorem zbO{b T:Int}{ws:List Int}:quoB b [(T,ws)]=(List.range (T.toNat+1)).map fun(t:Nat)=>(shares b ws).map (· * (t:Int)):=by
 have e:zeros [(T,ws)]=(shares b ws).map (· * ((0:Nat):Int)):=by
  unfold zeros many shares;rw [YaD];show List.replicate ws.length 0=_;rw [<-Wbl];refine Yat fun w _=>?_
  simp
 unfold quoB runQ;rw [e,List.foldl_cons,List.foldl_nil,zcc]
theorem zfK{ws:List Int}(hs:ws.sum≠0){T:Int}{row:List Int}(hr:∀ c∈row,0<=c/\c<(ws.length:Int)){t k:Nat}(ht:t<T.toNat)(hk:k<ws.length):(zJ ws.sum ws.length (quoB ws.sum [(T,ws)]) row t)[k]?=some (((row.take (t+1)).count (k:Int):Nat)*ws.sum - ws[k]*((t+1:Nat):Int)):=by
 unfold zJ;refine zf2 ?_ ?_
 . have h1:=zdO (b:=ws.sum) (row.take (t+1)) (fun c hc=>hr c (List.mem_of_mem_take hc)) k hk
   have h2:k<(hadN ws.sum ws.length (row.take (t+1))).length:=by rw [jL];exact hk
   rw [YaP,YaQ h2] at h1;rw [YaQ h2];exact congrArg some h1
 . rw [zbO,YaP,Ya0,Yax #[0]]
   show((shares ws.sum ws).map (· * ((t+1:Nat):Int)))[k]?=_
   unfold shares;rw [Ya0,Ya0,YaQ hk];show some (ws[k]*ws.sum/ws.sum*((t+1:Nat):Int))=_;rw [Int.mul_ediv_cancel _ hs]
theorem ze8{ws:List Int}{T:Int}{row:List Int}{t:Nat}(ht:t<T.toNat):(zJ ws.sum ws.length (quoB ws.sum [(T,ws)]) row t).length=ws.length:=by
 unfold zJ subL;rw [YaR,Wbh,jL,zbO,YaP,Ya0,Yax #[0]]
 show min ws.length ((shares ws.sum ws).map _).length=_
 unfold shares;rw [YaR,YaR,Nat.min_self]
theorem zfl{row:List Int}{k:Int}:∀ j:Nat,(List.replicate j row).flatten.count k=j*row.count k
 | 0=>by simp
 | j+1=>by rw [List.replicate_succ,List.flatten_cons,List.count_append,zfl j,Nat.succ_mul,Nat.add_comm]
theorem zeM{ws:List Int}(hs:ws.sum≠0){T:Int}(hT:0<T){row:List Int}(hr:∀ c∈row,0<=c/\c<(ws.length:Int))(hl:row.length=T.toNat)(hc:∀ (k:Nat) (hk:k<ws.length),(row.count (k:Int):Nat)*ws.sum=ws[k]*T){t:Nat}(ht:t<(3*T).toNat) :
 zJ ws.sum ws.length (quoB ws.sum [(3*T,ws)]) (row++row++row) t=zJ ws.sum ws.length (quoB ws.sum [(T,ws)]) row (t%T.toNat):=by
 have hm:t%T.toNat<T.toNat:=Nat.mod_lt _ #[0]
 have hr3:∀ c∈row++row++row,0<=c/\c<(ws.length:Int):=fun c h=>by
  rcases Ya3.mp h with h|h
  . rcases Ya3.mp h with h|h<;>exact hr c h
  . exact hr c h
 have hj:∃ j:Nat,t=j*T.toNat+t%T.toNat/\(row++row++row).take (t+1)=(List.replicate j row).flatten++row.take (t%T.toNat+1):=by
  have hd:T.toNat*(t/T.toNat)+t%T.toNat=t:=Nat.div_add_mod t T.toNat;have h3:t/T.toNat<3:=Nat.div_lt_of_lt_mul #[0]
  refine⟨t/T.toNat,by rw [Nat.mul_comm];exact hd.symm,?_⟩
  generalize t/T.toNat=j at hd h3;generalize t%T.toNat=s at hd hm;subst hd
  rcases(show j=0\/j=1\/j=2 by omega) with z|z|z
  . subst z
    rw [Nat.mul_zero,WbC,Yag,List.take_append_of_le_length #[0]];rfl
  . subst z
    rw [Nat.mul_one,Yag,List.take_append,Was #[0],List.take_append_of_le_length #[0],show T.toNat+s+1 - row.length=s+1 by omega]
    simp
  . subst z
    rw [List.take_append,Was (by rw [YaS];omega),YaS,show T.toNat*2+s+1 - (row.length+row.length)=s+1 by omega]
    simp [List.replicate_succ]
 obtain⟨j,hjt,htk⟩:=hj;refine List.ext_getElem? fun k=>?_
 by_cases hk:k<ws.length
 . rw [zfK hs hr3 ht hk,zfK hs hr hm hk,htk]
   congr 1
   rw [List.count_append,zfl j];have h2:=hc k hk;generalize t%T.toNat=s at *;subst hjt;have e1:((j*row.count (k:Int)+(row.take (s+1)).count (k:Int):Nat):Int)*ws.sum=(j:Int)*((row.count (k:Int):Nat)*ws.sum)+((row.take (s+1)).count (k:Int):Nat)*ws.sum:=by
    rw [Int.natCast_add,Int.natCast_mul,WbI,Wbw]
   have e2:ws[k]*((j*T.toNat+s+1:Nat):Int)=(j:Int)*(ws[k]*T)+ws[k]*((s+1:Nat):Int):=by
    rw [Nat.add_assoc,Int.natCast_add,Int.natCast_mul,show((T.toNat:Nat):Int)=T by omega,Int.mul_add]
    rw [show ws[k]*((j:Int)*T)=(j:Int)*(ws[k]*T) by ac_rfl]
   rw [e1,e2,h2]
   omega
 . rw [Waw (by rw [ze8 ht];omega),Waw (by rw [ze8 hm];omega)]
theorem Far.congr{S S':List Int}{n:Int}(h:∀ x,x∈S↔x∈S')(f:Far S n):Far S' n:=
 ⟨f.1,fun x hx=>f.2.1 x ((h x).mpr hx),f.2.2.imp id fun z=>z.imp (h _).mp (h _).mp⟩
theorem zlx{ws:List Int}(hs:ws.sum≠0){T:Int}(hT:0<T){row:List Int}(hr:∀ c∈row,0<=c/\c<(ws.length:Int))(hl:row.length=T.toNat)(hc:∀ (k:Nat) (hk:k<ws.length),(row.count (k:Int):Nat)*ws.sum=ws[k]*T){y:Int}(hy:Far (zP ws.sum ws.length (quoB ws.sum [(3*T,ws)]) (row++row++row) (row++row++row).length) y):Far (zP ws.sum ws.length (quoB ws.sum [(T,ws)]) row row.length) y:=by
 have h3:(row++row++row).length=(3*T).toNat:=by rw [YaS,YaS];omega
 refine hy.congr fun x=>?_
 unfold zP zX;simp only [Wbb,Ya7,Yba]
 constructor
 . rintro⟨_,⟨t,ht,rfl⟩,hx⟩
   rw [h3] at ht;rw [zeM hs hT hr hl hc ht] at hx;exact⟨_,⟨t%T.toNat,by rw [hl];exact Nat.mod_lt _ #[0],rfl⟩,hx⟩
 . rintro⟨_,⟨t,ht,rfl⟩,hx⟩
   rw [hl] at ht;refine⟨_,⟨t,#[0],rfl⟩,?_⟩
   rw [zeM hs hT hr hl hc #[0],Nat.mod_eq_of_lt ht]
   exact hx
def okL(l:List Spell):Prop:=(1<=l.length/\l.length<=8)/\(∀ s∈l,1<=s.1/\okW s.2/\s.2.length=many l)/\tot l<=200
theorem zi5{l:List Spell}(h:okL l):0<zy l:=(zat l 1 1 (fun s hs=>(h.2.1 s hs).2.1) #[1] (by unfold Bits;decide)).1
theorem znO{l:List Spell}(h:okL l):Bits 900 (zy l):=(zat l 1 1 (fun s hs=>(h.2.1 s hs).2.1) #[1] (by unfold Bits;decide)).2.mono (by have:=h.1.2;omega)
theorem zgh{l:List Spell}(h:okL l):many l<=8:=by
 cases l with
 | nil=>have:=h.1.1;simp at this
 | cons a r=>exact(h.2.1 a YaV).2.1.1.2
theorem zlu{ws:List Int}(hw:okW ws){T:Int}(h1:1<=T)(h2:T<=200):okL [(T,ws)]:=by
 refine⟨by simp,fun s hs=>?_,by unfold tot;simpa using h2⟩
 rw [Ya6.mp hs];exact⟨h1,hw,rfl⟩
theorem zdv{T:Int}{ws:List Int}:zy [(T,ws)]=ws.sum:=by
 show 1*ws.sum=ws.sum
 omega
def Rnd(ws:List Int)(room:Int)(row:List Int)(why:D):Prop:=jV [(parts ws,ws)] room/\(∀ W,IsWs [(parts ws,ws)] (bsR [(parts ws,ws)] room) W->rowP (tot [(parts ws,ws)]) W.flatten (.tuple [.str "row", .list (row.map .int)]))/\(room=0->why=.none)/\(0<room->∀ W,IsWs [(parts ws,ws)] (bsR [(parts ws,ws)] (room - 1)) W->Z5 (tot [(parts ws,ws)]) W.flatten why\/zab W.flatten why)
theorem Rnd.row{ws:List Int}(hw:okW ws)(h60:parts ws<=60){room:Int}{row:List Int}{why:D}(h:Rnd ws room row why):∃ W,IsWs [(parts ws,ws)] (bsR [(parts ws,ws)] room) W/\(row.length:Int)=parts ws/\jU W.flatten row/\zaQ (parts ws) W.flatten row:=by
 obtain⟨h1,h2,_,_⟩:=h;have hok:=Jj hw h60;obtain⟨W,hW⟩:=zc0 hok (room:=room) h1.1 (by have:=h1.2.1;omega)
 obtain⟨row',g1,g2,g3,g4⟩:=h2 W hW;have et:tot [(parts ws,ws)]=parts ws:=by unfold tot;simp
 rw [et] at g1 g3;have e4:row=row':=by
  injection g4 with g4
  injection g4 with _ g4
  injection g4 with g4 _
  injection g4 with g4
  exact(zft g4)
 subst e4;exact⟨W,hW,g1,g2,g3⟩
theorem Rnd.one{ws:List Int}(hw:okW ws)(h60:parts ws<=60){room room':Int}{row row':List Int}{why why':D}(h:Rnd ws room row why)(h':Rnd ws room' row' why'):room=room'/\row=row':=by
 have e:=zkO h.1 h'.1;subst e;obtain⟨W,w1,w2,w3,w4⟩:=h.row hw h60;obtain⟨W',v1,v2,v3,v4⟩:=h'.row hw h60;obtain rfl:=w1.uniq v1;exact⟨rfl,w4.one (zaK (Jj hw h60) w1).nd v4⟩
theorem Rnd.why{ws:List Int}(hw:okW ws)(h60:parts ws<=60){room:Int}{row:List Int}{why:D}(h:Rnd ws room row why):Ja why=true/\(room=0/\why=.none\/room≠0/\∃ ts,why=.tuple ts):=by
 obtain⟨hroom,_,hw0,hw1⟩:=h
 rcases Int.lt_or_eq_of_le hroom.1 with z|z
 . obtain⟨W',hW'⟩:=zc0 (Jj hw h60) (room:=room - 1) #[0] (by have:=hroom.2.1;omega)
   rcases hw1 z W' hW' with ⟨t,_,_,_,e⟩|⟨a,b,_,_,_,e⟩
   . rw [e];exact⟨rfl,.inr ⟨#[0],_,rfl⟩⟩
   . rw [e];exact⟨rfl,.inr ⟨#[0],_,rfl⟩⟩
 . rw [hw0 z.symm];exact⟨rfl,.inl ⟨z.symm,rfl⟩⟩
theorem Rnd.good{ws:List Int}(hw:okW ws)(h60:parts ws<=60){room:Int}{row:List Int}{why:D}(h:Rnd ws room row why):(row.length:Int)=parts ws/\(∀ c∈row,0<=c/\c<(ws.length:Int))/\(∀ (k:Nat) (hk:k<ws.length),(row.count (k:Int):Nat)*ws.sum=ws[k]*parts ws)/\∀ y,Far (zP ws.sum ws.length (quoB ws.sum [(3*parts ws,ws)]) (row++row++row) (row++row++row).length) y->dR y ws.sum=dR room (bot [(parts ws,ws)]):=by
 have hok:=Jj hw h60;have hp:=jq hw;obtain⟨W,hW,g1,g2,g3⟩:=h.row hw h60;have et:tot [(parts ws,ws)]=parts ws:=by unfold tot;simp
 obtain⟨hr,hf⟩:=zgR hok h.1 hW (by rw [et];exact g1) g2
 have hk:=(zan hok h.1.1 (by have:=h.1.2.1;omega) hW hr).mp g2
 rw [et] at hr;have hr:ju ws.length (parts ws).toNat row:=hr;have hc:∀ (k:Nat) (hk:k<ws.length),(row.count (k:Int):Nat)*ws.sum=ws[k]*parts ws:=fun k hkl=>zmm hw h60 h.1 hr hk hkl
 refine⟨g1,hr.2,hc,fun y hy=>?_⟩
 have hs:=z8 hw;have hy:=zlx #[0] hp hr.2 hr.1 hc hy
 have hb:=zR hok;have hP:0<zy [(parts ws,ws)]:=zfa hok;have hq:=zdy hok;rw [zdv] at hP hq;have:=zk3 hb hP (zl9 hb hP hq hf hy);unfold dR;rw [this.1,this.2]
theorem zid{a b x y:Int}(hb:0<b)(h:a*x<=y*b):a/(Int.gcd a b:Int)*x<=y*(b/(Int.gcd a b:Int)):=by
 obtain⟨_,_,l3,l4⟩:=Z9 (a:=a) hb;have g1:=zbc (a:=a) hb;refine YaF (a:=(Int.gcd a b:Int)) ?_ g1;generalize (Int.gcd a b:Int)=g at *;rw [show a/g*x*g=a/g*g*x by ac_rfl,show y*(b/g)*g=y*(b/g*g) by ac_rfl,l3,l4]
 exact h
theorem Rnd.prom{ws:List Int}(hw:okW ws)(h60:parts ws<=60){room:Int}{row:List Int}{why:D}(h:Rnd ws room row why)(h1:1<(ws.length:Int)):(lowQ room (bot [(parts ws,ws)])).1*(2*(ws.length:Int) - 2)<=(2*(ws.length:Int) - 3)*(lowQ room (bot [(parts ws,ws)])).2:=by
 have h2:=zf9 (Jj hw h60) h.1;have e:(many [(parts ws,ws)]:Int)=(ws.length:Int):=rfl;unfold botP topP at h2;rw [e,if_neg #[0],if_neg #[0]] at h2
 exact zid (zR (Jj hw h60)) h2
theorem zkr{α β : Type}(f:α->β)(row:List α):(List.replicate 3 (row.map f)).flatten=(row++row++row).map f:=by
 simp [List.replicate_succ]
theorem zho{c:TT3}{ρ : Env3}{P R:Prop}(h:∀ Y N:Prop,(P->Y)->(R->N)->c ρ fun k=>if k=true then Y else N):c ρ fun k=>if k=true then P else R:=h P R id id
section
variable{P:Program}{w:World}{c:Law.Cl}{K:Ybf}{mg:Str->Option Value}{base:Heap}
def zad:Sp3:=fun ds Q E=>∃ cc k,ds=[.int cc,.int k]/\0<=k/\k<100000/\∀ v:Int,Q true (.int v)
def Zr:Sp3:=fun ds Q E=>∃ cc k,ds=[.int cc,.int k]/\0<=k/\k<100000/\∀ v:Int,Q true (.int v)
def ZT:Sp3:=fun ds Q E=>∃ cc o:Int,ds=[.int cc,.int o]/\∀ ws:List Int,okW ws->parts ws<=60->ws.sum<=10 ^ 20->Q true (dI ws)
def Z6(c:Law.Cl):Sp3:=fun ds Q E=>∃ ws,ds=[dI ws]/\(okW ws->Q true .none)/\(¬okW ws->E c.NoSpell)
def J9:Sp3:=fun ds Q _=>∃ a b,ds=[.int a,.int b]/\Q true (.int (Int.gcd a b))
def JS:Sp3:=fun ds Q E=>∃ ws,ds=[dI ws]/\Q true (.int (gcdL ws))
def ZO:Sp3:=fun ds Q E=>∃ l,ds=[dSs l]/\l.length<=1000/\Q true (.int (tot l))
def Z7(c:Law.Cl):Sp3:=fun ds Q E=>∃ l,ds=[dSs l]/\(okS l->Q true .none)/\(¬okS l->E c.NoSpell)
def ZG:Sp3:=fun ds Q E=>∃ l,ds=[dSs l]/\okS l/\Q true (.int (bot l))
def zah:Sp3:=fun ds Q E=>∃ b ws,ds=[.int b,dI ws]/\okW ws/\Bits 2000 b/\Q true (dI (shares b ws))
def Z1(c:Law.Cl):Sp3:=fun ds Q E=>∃ l,ds=[dSs l]/\(okS l->Q true (.tuple [.int (bot l),.list ((quo l).map dI)]))/\(¬okS l->E c.NoSpell)
def ZL:Sp3:=fun ds Q E=>∃ l:List Spell,ds=[dT l]/\okS l/\∀ ns:List Int,ns.Pairwise (· < ·)->(∀ r,r∈ns↔posR l r)->ns.length<1000->Q true (dI ns)
def Zs:Sp3:=fun ds Q E=>∃ (w:List Win) (g:Int),ds=[.list (w.map dW),.int g]/\Q true (.bool (jO w g))
def ZU:Sp3:=fun ds Q E=>∃ (w:List Win) (t:Int),ds=[.list (w.map dW),.int t]/\Q true (match z7 t w with|none=>.none|some p=>.int (p:Nat))
def Z2:Sp3:=fun ds Q E=>∃ (g:List Win),ds=[.list (g.map dW)]/\Q true (.int (zL g.length g 1 1))
def ZN:Sp3:=fun ds Q E=>∃ (v:Win) (T:Int),ds=[dW v,.int T]/\Q true (kd3 (kl T v,v.1,v.2.1))
def ZI:Sp3:=fun ds Q E=>∃ (T:Int) (V:List Win),ds=[.int T,.list (V.map dW)]/\0<=T/\T<=100/\V.length<1000/\OkVs T V/\∀ d,(Z5 T V d\/zab V d\/rowP T V d)->Q true d
def Z8:Sp3:=fun ds Q E=>∃ (path:List Int) (w:Int),ds=[dI path,.int w]/\path.length<=61/\1<=path.length/\Q true (.int (zx path.length fun t=>decide (w<=path.getD t 0)))
def ZA:Sp3:=fun ds Q E=>∃ (b:Int) (path:List Int) (j:Int) (room:Int×Int),ds=[.int b,dI path,.int j,dRoom room]/\path.length<=61/\1<=path.length/\Bits 2000 b/\Bits 64 j/\Q true (.tuple [.int (winB b path room j).1,dO (winB b path room j).2])
def ZH:Sp3:=fun ds Q E=>∃ (b:Int) (q:List (List Int)) (k:Nat) (room:Int×Int) (n:Nat),ds=[.tuple [.int b,.list (q.map dI)],.int k,dRoom room]/\0<b/\Bits 2000 b/\k<n/\q.length<=61/\1<=q.length/\(∀ r∈q,r.length=n)/\(∀ r∈q,r.getD k 0+room.2<=80*b)/\0<=room.1/\0<=room.2/\room.2<=80*b/\∀ ws,IsW q.length k (winB b (zf q k) room) 1 ws->ws.length<=200->Q true (.list (ws.map dW))
def ZP:Sp3:=fun ds Q E=>∃ (b:Int) (q:List (List Int)) (rooms:List (Int×Int)) (n:Nat),ds=[.tuple [.int b,.list (q.map dI)],.list (rooms.map dRoom)]/\0<b/\Bits 2000 b/\rooms.length=n/\n<=8/\q.length<=61/\1<=q.length/\(∀ r∈q,r.length=n)/\(∀ r∈q,∀ x∈r,x<=60*b)/\(∀ p∈rooms,0<=p.1/\0<=p.2/\p.2<=20*b)/\∀ W:List (List Win),W.length=n->(∀ k,k<n->IsW q.length k (winB b (zf q k) (rooms.getD k (0,0))) 1 (W.getD k []))->W.flatten.length<=2000->Q true (.list (W.flatten.map dW))
def Zq:Sp3:=fun ds Q E=>∃ (l:List Spell) (room:Int),ds=[dT l,.int room]/\okS l/\0<=room/\room<=bot l/\∀ W:List (List Win),IsWs l (bsR l room) W->∀ d,(Z5 (tot l) W.flatten d\/zab W.flatten d\/rowP (tot l) W.flatten d)->Q true d
def ZK:Sp3:=fun ds Q E=>∃ l:List Spell,ds=[dT l]/\okS l/\∀ room,jV l room->Q true (.int room)
def Zb:Sp3:=fun ds Q E=>∃ a,ds=[.int a]/\Q true (.bool true)
def Z0:Sp3:=fun ds Q E=>∃ a b,ds=[.int a,.int b]/\0<b/\Bits 9000 b/\Q true (dR a b)
def Zw(c:Law.Cl):Sp3:=fun ds Q E=>∃ l:List Spell,ds=[dSs l]/\(¬okS l->E c.NoSpell)/\(okS l->∀ (room:Int) (row:List Int) (why:D),jV l room->(∀ W,IsWs l (bsR l room) W->rowP (tot l) W.flatten (.tuple [.str "row", dI row]))->(room=0->why=.none)->(0<room->∀ W,IsWs l (bsR l (room - 1)) W->Z5 (tot l) W.flatten why\/zab W.flatten why)->Q true (.tuple [dR room (bot l),dI row,why]))
def Zx(c:Law.Cl):Sp3:=fun ds Q E=>∃ ws:List Int,ds=[dI ws]/\okW ws/\parts ws<=60/\∀ (room:Int) (row:List Int) (why:D),Rnd ws room row why->Q true (.tuple [.int (parts ws),dR room (bot [(parts ws,ws)]),.list (row.map .int),why])
def ZV:Sp3:=fun ds Q E=>∃ ws:List Int,ds=[dI ws]/\okW ws/\Q true (.int (parts ws))
def Zt:Sp3:=fun ds Q E=>∃ l,ds=[dSs l]/\okL l/\Q true (.tuple [.int (zy l),.list ((quoB (zy l) l).map dI)])
def Zu:Sp3:=fun ds Q E=>∃ ns k,ds=[dI ns,.int k]/\0<=k/\∀ v:Int,Q true (.int v)
def JA:Sp3:=fun ds Q E=>∃ a,ds=[.int a]/\Q true (.bool true)
def Zv:Sp3:=fun ds Q E=>∃ (row:List Int) (T:Int) (n:Nat),ds=[dI row,.int T,.int n]/\(row.length:Int)=T/\(∀ c∈row,0<=c/\c<(n:Int))/\Q true (.bool true)
def ZM:Sp3:=fun ds Q E=>∃ a b,ds=[.int a,.int b]/\0<b/\Bits 9000 b/\Q true (dR a b)
def zag:Sp3:=fun ds Q E=>∃ a b:Int,ds=[dR a b]/\0<b/\Bits 2000 b/\Q true (.bool true)
def zac:Sp3:=fun ds Q E=>∃ (b:Int) (rows:List (List Int)) (row:List Int) (n:Nat),ds=[.int b,.list (rows.map dI),dI row]/\1<=n/\n<=8/\row.length+1=rows.length/\rows.length<=200/\(∀ r∈rows,r.length=n)/\(∀ c∈row,0<=c/\c<(n:Int))/\∀ x,Far (zP b n rows row row.length) x->Q true (.int x)
def Zh:Sp3:=fun ds Q E=>∃ ns,ds=[dI ns]/\ns.length<=63/\Q true (.bool true)
section
variable(c:Law.Cl)(P:Program)(w:World)(K:Ybf)(mg:Str->Option Value)(base:Heap)
abbrev dd_law_mixed:=Df3 P w K mg base 1 "_law_mixed" ["_law_cell", "_law_k"] zad
abbrev dd_law_wide:=Df3 P w K mg base 2 "_law_wide" ["_law_cell", "_law_k"] Zr
abbrev dd_law_weights:=Df3 P w K mg base 3 "_law_weights" ["_law_cell", "_law_other"] ZT
abbrev dd_check_weights:=Df3 P w K mg base 1 "check_weights" ["weights"] (Z6 c)
abbrev dd_common_divisor:=Df3 P w K mg base 1 "common_divisor" ["one", "other"] J9
abbrev dd_divisor_of_all:=Df3 P w K mg base 2 "divisor_of_all" ["weights"] JS
abbrev dd_all_turns:=Df3 P w K mg base 1 "all_turns" ["spells"] ZO
abbrev dd_check_spells:=Df3 P w K mg base 2 "check_spells" ["spells"] (Z7 c)
abbrev dd_least_bottom:=Df3 P w K mg base 3 "least_bottom" ["spells"] ZG
abbrev dd_shares_over:=Df3 P w K mg base 1 "shares_over" ["bottom", "weights"] zah
abbrev dd_quotas:=Df3 P w K mg base 4 "quotas" ["spells"] (Z1 c)
abbrev dd_possible_rooms:=Df3 P w K mg base 1 "possible_rooms" ["told"] ZL
abbrev dd_is_late:=Df3 P w K mg base 1 "is_late" ["waiting", "gone"] Zs
abbrev dd_place_of_opened:=Df3 P w K mg base 1 "place_of_opened" ["waiting", "turn"] ZU
abbrev dd_start_of_crowd:=Df3 P w K mg base 1 "start_of_crowd" ["given"] Z2
abbrev dd_pressing:=Df3 P w K mg base 1 "pressing" ["visit", "turns"] ZN
abbrev dd_deal:=DfU c.tb P w K mg base 5 "deal" ["turns", "windows"] ZI
abbrev dd_first_turn:=Df3 P w K mg base 1 "first_turn" ["path", "wanted"] Z8
abbrev dd_window_of:=Df3 P w K mg base 2 "window_of" ["bottom", "path", "j", "room"] ZA
abbrev dd_windows_of_clan:=Df3 P w K mg base 3 "windows_of_clan" ["told", "clan", "room"] ZH
abbrev dd_windows_within:=Df3 P w K mg base 4 "windows_within" ["told", "rooms"] ZP
abbrev dd_dealt_within:=DfU c.tb P w K mg base 6 "dealt_within" ["told", "room"] Zq
abbrev dd_least_room:=DfU c.tb P w K mg base 7 "least_room" ["told"] ZK
abbrev dd_is_whole:=Df3 P w K mg base 1 "is_whole" ["value"] Zb
abbrev dd_ratio:=Df3 P w K mg base 2 "ratio" ["top", "bottom"] Z0
abbrev dd_least:=DfU c.tb P w K mg base 8 "least" ["spells"] (Zw c)
abbrev dd_round_of:=DfU c.tb P w K mg base 9 "round_of" ["weights"] (Zx c)
abbrev dd_law_period:=Df3 P w K mg base 1 "_law_period" ["_law_weights_here"] ZV
abbrev dd_law_quotas:=Df3 P w K mg base 1 "_law_quotas" ["_law_spells_here"] Zt
abbrev dd_law_cell_at:=Df3 P w K mg base 1 "_law_cell_at" ["_law_script", "_law_k"] Zu
abbrev dd_law_whole:=Df3 P w K mg base 1 "_law_whole" ["_law_found"] JA
abbrev dd_law_is_row:=Df3 P w K mg base 2 "_law_is_row" ["_law_row", "_law_turns", "_law_clans"] Zv
abbrev dd_law_ratio:=Df3 P w K mg base 1 "_law_ratio" ["_law_top", "_law_bottom"] ZM
abbrev dd_law_is_ratio:=Df3 P w K mg base 2 "_law_is_ratio" ["_law_found"] zag
abbrev dd_law_far:=Df3 P w K mg base 1 "_law_far" ["_law_bottom", "_law_rows", "_law_row"] zac
end
local macro_rules | `(tactic| walk_at $w:str)=>do
 let ws:=w.getString.splitOn " "
 if ws.head? == some "o" then return (<-`(tactic| first|exact Or.inl rfl|exact Or.inr rfl|exact Or.inr (Or.inl rfl)|exact Or.inr (Or.inr rfl)))
 unless ws.head? == some "rd" do Lean.Macro.throwUnsupported
 let ds <-("seq3,next3,set3,own3,ret3,ifS3,tt3,o3,u3,v3,atV,asS,asB,asD,optP,asT,asLd,asL,atO,Jg,nilP,asId,asI,k3,nw3,add3,int3,int0,neg3,eq3,ne3,eqOk,eqv3,isN3,notN3,isNone,ix3,ixD,zaU,nil3,ZJ,cb3,len3,lenD,abs3,max23,min23,sum3,max3,if3,and3,or3,not3,zaq,zav,ch3,tup3,lst3,zaI,no3,za6,zaB,L2.isD,zaX,asg3,gn3,ZF,j7,gnil3,app3,put3,frzS,frz,frz1,for3,itL,itZ,rg1,rg2,rg3,Je,true3,cst3,zaN,ja,shs,Cl.d,Cl.dat,Cl.f,zbL,zt,Option.map_some,Option.map_none,Option.isSome_some,Option.isSome_none,Option.join_some,Option.join_none,List.all_cons,List.all_nil,Wbr,Wbs,Bool.true_or,Ya1,WbB,List.length_cons,List.length_nil,Nat.reduceAdd,Nat.reduceSub,List.replicate,List.cons_append,List.nil_append,List.getElem?_cons_zero,List.getElem?_cons_succ,List.set_cons_zero,List.set_cons_succ,Bool.not_true,Bool.not_false,zaH,zaJ,par3,aug3,idx3,ext3,itE,itE1,slT3,zaT,za5,za2,zaM,atK,zaS,ifJ,zas,repD,zad,Zr,ZT,Z6,J9,JS,ZO,Z7,ZG,zah,Z1,ZL,Zs,ZU,Z2,ZN,ZI,Z8,ZA,ZH,ZP,Zq,ZK,Zb,Z0,Zw,Zx,ZV,Zt,Zu,JA,Zv,ZM,zag,zac,Zh,dSs,dS,dI,zt,dQ,dRoom,dW,dT".splitOn ",").toArray.mapM fun s=>`(Lean.Parser.Tactic.simpLemma| $(Lean.mkIdent s.toName):term)
 let rs <-(("Wbx,Wbt,Wbq,WbG,WbD,Yao,WaN,Cl.sh.injEq,Cl.ow.injEq,Wbc,Wa0,Wbd,Wa1,WaJ,Wbj,reduceCtorEq,and_assoc,and_true,true_and,and_self,exists_eq_left,exists_eq_left',exists_eq',exists_eq_right,exists_eq_right',exists_and_left,exists_const,exists_false,false_and,and_false,or_false,false_or,or_true,true_or,decide_true,decide_false,decide_eq_true_eq,WaG,WaK,if_true,if_false,ite_true,ite_false,WaM,decide_eq_false_iff_not,eq_self_iff_true,not_true_eq_false,not_false_eq_true,sz0,sz1,sz2,sz3,sz4,sz6,atI0,atI1,atI2,atI3".splitOn ",")++ws.tail).toArray.mapM fun s=>`(Lean.Parser.Tactic.simpLemma| $(Lean.mkIdent s.toName):term)
 let ls:=ds++rs
 `(tactic| ((try dsimp only [$ds:simpLemma,*]);try simp (config:={ maxSteps:=2000000 }) only [$ls:simpLemma,*]))
theorem zgT:FnScope ["_law_cell", "_law_k", "_law_one"] ["_law_cell", "_law_k"] (ze JX):=⟨rfl,rfl,rfl,#[3],rfl,#[3],#[3]⟩
theorem zhq(T:Txt c K mg){f:Addr}{fd:FuncData}(F:Fun K "_law_mixed" "_law_mixed" JX f fd):FnOk P w K mg base (CXR P w) 1 f fd ["_law_cell", "_law_k"] (spL K zad):=by
 have S:=zgT;refine fn3 F S (fun ds Q E h=>?_) (fun cdv A outer s H E E3 hE hr=>?_)
 . obtain⟨_,_,rfl,_⟩:=h;rfl
 refine⟨_,(zc (zh (i:=2) S.nd rfl #[2] (op3 jh (op3 zU (op3 zZ (op3 jh (n3 0) (op3 Ji i3 i3)) (op3 zU i3 (op3 zZ (n3 1) i3))) i3) (op3 Ji i3 i3)))
  (zd (zi (op3 jh (op3 zW (op3 zU (n3 2) (n3 2)) (op3 Ji i3 i3)) (op3 Ji i3 i3))))),fun ds Q h=>?_⟩
 obtain⟨cc,k,rfl,h0,h1,q⟩:=h
 walk_at "rd"
 have cp:∀ n:Int,0<=n->n<=100->Zz 10 n:=fun n h h'=>powB (k:=4) (by unfold Bits;decide) h #[0]
 have hk:Bits 64 (k+1):=by unfold Bits;omega
 have b1:Bits 128 (cc%10 ^ Int.toNat 18):=(Bits.emod (Bits.lit 64) #[1] _).mono #[1]
 have b2:=(Bits.lit (x:=1442695040888963407) 64).mul hk;have b3:=b1.add b2;generalize cc%10 ^ Int.toNat 18+1442695040888963407*(k+1)=y at b3 ⊢;have b4:Bits 130 (y*6364136223846793005%10 ^ Int.toNat 37):=Bits.emod (by unfold Bits;decide) #[1] _
 generalize y*6364136223846793005%10 ^ Int.toNat 37=z at b4 ⊢;exact⟨cp 18 #[1] #[1],#[1],(Bits.lit (x:=1442695040888963407) 64).mulOk hk #[1],b3.mulOk (Bits.lit 64) #[1],cp 37 #[1] #[1],#[1],b4.mulOk b4 #[1],cp 17 #[1] #[1],divP,cp 56 #[1] #[1],#[1],q _⟩
theorem zjV(T:Txt c K mg) : dd_law_mixed P w K mg base:=by
 obtain⟨f,fd,F,hm⟩:=T.d_law_mixed;have hb:=F.binds (ps:=["_law_cell", "_law_k"]) fun _ _ _ _ _ _ us hl=>by obtain⟨_,_,rfl⟩:=jd hl;rfl
 refine⟨fun ds Q Q' E E' hQ hE h=>?_,⟨f,fd,zhq T F,hb,F.kp,hm⟩⟩
 obtain⟨a,b,e,z,y,h⟩:=h;exact⟨a,b,e,z,y,fun v=>hQ _ _ (h v)⟩
theorem znn:FnScope ["_law_cell", "_law_k"] ["_law_cell", "_law_k"] (ze J4):=⟨rfl,rfl,rfl,#[3],rfl,#[3],#[3]⟩
theorem zn9(T:Txt c K mg)(zox:#[8,dd_law_mixed]){f:Addr}{fd:FuncData}(F:Fun K "_law_wide" "_law_wide" J4 f fd):FnOk P w K mg base (CXR P w) 2 f fd ["_law_cell", "_law_k"] (spL K Zr):=by
 have S:=znn;refine fn3 F S (fun ds Q E h=>?_) (fun cdv A outer s H E E3 hE hr=>?_)
 . obtain⟨_,_,rfl,_⟩:=h;rfl
 refine⟨_,(zc (s_if (zq jT (n3 0) (op3 Ji i3 i3) (nomark _)) (zd (zi (df3 hE zox (hr.mono #[1]) rfl zl (za (n3 0) (za (n3 1) zb))))) zE)
  (zd (zi (n3 0)))),fun ds Q h=>?_⟩
 obtain⟨cc,k,rfl,h0,h1,q⟩:=h
 walk_at "rd"
 refine⟨powB (k:=4) (by unfold Bits;decide) #[1] #[1],ite2 (fun _=>⟨h0,h1,q⟩) fun _=>q _⟩
theorem zgk(T:Txt c K mg)(zox:#[8,dd_law_mixed]):dd_law_wide P w K mg base:=by
 obtain⟨f,fd,F,hm⟩:=T.d_law_wide;have hb:=F.binds (ps:=["_law_cell", "_law_k"]) fun _ _ _ _ _ _ us hl=>by obtain⟨_,_,rfl⟩:=jd hl;rfl
 refine⟨fun ds Q Q' E E' hQ hE h=>?_,⟨f,fd,zn9 T zox F,hb,F.kp,hm⟩⟩
 obtain⟨a,b,e,z,y,h⟩:=h;exact⟨a,b,e,z,y,fun v=>hQ _ _ (h v)⟩
theorem zli:FnScope ["_law_cell", "_law_other", "_law_clans", "_law_size", "_law_times_by", "_law_weights_here", "_law_k"] ["_law_cell", "_law_other"] (ze Jh):=⟨rfl,rfl,rfl,#[3],rfl,#[3],#[3]⟩
theorem ziS(T:Txt c K mg)(zoD:#[8,dd_law_wide]){f:Addr}{fd:FuncData}(F:Fun K "_law_weights" "_law_weights" Jh f fd):FnOk P w K mg base (CXR P w) 3 f fd ["_law_cell", "_law_other"] (spL K ZT):=by
 have S:=zli;refine fn3 F S (fun ds Q E h=>?_) (fun cdv A outer s H E E3 hE hr=>?_)
 . obtain⟨_,_,rfl,_⟩:=h;rfl
 refine⟨_,(zc (zh (i:=0) S.nd rfl #[2] (df3 hE zoD (hr.mono #[1]) rfl zl (za (n3 0) (za i3 zb))))
  (zc (zh (i:=2) S.nd rfl #[2] (op3 zZ i3 (op3 jh (n3 0) i3)))
  (zc (zh (i:=3) S.nd rfl #[2] (at3 (new3 (jx (za i3 (za i3 (za i3 (za i3 (za i3 (za i3 zb)))))))) (op3 jh (op3 zW (n3 0) i3) i3) #[4]))
  (zc (zh (i:=4) S.nd rfl #[2] (at3 (new3 (jx (za i3 (za i3 (za i3 (za (op3 Ji i3 i3) zb)))))) (op3 jh (op3 zW (n3 0) i3) i3) #[4]))
  (zc (zh (i:=0) S.nd rfl #[2] (op3 zW (n3 0) i3))
  (zc (J1 (i:=5) S.nd rfl #[2] (jx zb))
  (zc (zN Wa2 rfl (ZZ rfl T.n_range (za (n3 2) zb)) (zu (i:=6) S.nd rfl #[2]) (zc (zaD (i:=5) rfl #[2] (op3 jh (n3 0) (n3 3)))
   (zd (zh (i:=0) S.nd rfl #[2] (op3 zW (n3 0) (n3 3))))))
  (zc (s_if (zq (Zk hr.units) (zn (jB rfl) rfl T.n_sum jG (za (n3 5) zb)) i3 (nomark _)) (zd (zcn (i:=5) rfl #[2] (op3 jh (n3 1) (n3 2)) i3)) zE)
  (zc (J5 Wa2 (zq jH (zn (jB rfl) rfl T.n_sum jG (za (n3 5) zb)) i3 (nomark _)) (zd (zcn (i:=5) rfl #[2] (zjJ (n3 5) (zn (zkf rfl) rfl T.n_max zcB (za (n3 5) zb))) i3)))
  (zd (J7 [5] (zi (new3 (J3 ["_law_one"] ["_law_times_by"] [4] rfl (jM (osc:=ze Jh) #[3]) rfl (zQ (n3 5)) (fun H0 s H fp cl=>⟨(zu (i:=0) (show((["_law_one"]:List PySem.Str)++(["_law_times_by"]:List PySem.Str)).Nodup by decide) rfl #[2]),jR,(op3 zU (n3 0) (n3 1))⟩))))))))))))))),fun ds Q h=>?_⟩
 obtain⟨cc,o,rfl,q⟩:=h;refine zm fun N hN=>?_
 walk_at "rd"
 refine⟨#[1],#[1],fun v=>hN _ ?_⟩
 clear hN N;refine zm fun N hN=>?_
 walk_at "rd"
 refine⟨#[1],hN _ ?_⟩
 clear hN N;obtain⟨n,hn⟩:∃ n:Nat,1+v%8=(n:Int):=⟨(1+v%8).toNat,#[0]⟩
 have hn8:1<=n/\n<=8:=#[0]
 rw [hn];clear hn;refine zm fun N hN=>?_
 walk_at "rd"
 have hz:∃ z:Int,atI [PyData.int 2,PyData.int 4,PyData.int 8,PyData.int 3,PyData.int 12,PyData.int 16] (v/8%6)=some (.int z)/\2<=z/\z<=16:=by
  rcases(show v/8%6=0\/v/8%6=1\/v/8%6=2\/v/8%6=3\/v/8%6=4\/v/8%6=5 by omega) with z|z|z|z|z|z<;>rw [z]
  . exact⟨2,rfl,#[1],#[1]⟩
  . exact⟨4,rfl,#[1],#[1]⟩
  . exact⟨8,rfl,#[1],#[1]⟩
  . exact⟨3,rfl,#[1],#[1]⟩
  . exact⟨12,rfl,#[1],#[1]⟩
  . exact⟨16,rfl,#[1],#[1]⟩
 obtain⟨z,hz,z2,z16⟩:=hz;refine⟨divP,#[1],_,hz,hN _ ?_⟩
 clear hN N hz;refine zm fun N hN=>?_
 walk_at "rd"
 have ht:∃ t:Int,atI [PyData.int 1,PyData.int 1,PyData.int 3,PyData.int (10 ^ Int.toNat 9)] (v/48%4)=some (.int t)/\1<=t/\t<=10 ^ 9:=by
  rcases(show v/48%4=0\/v/48%4=1\/v/48%4=2\/v/48%4=3 by omega) with z|z|z|z<;>rw [z]
  . exact⟨1,rfl,#[1],#[1]⟩
  . exact⟨1,rfl,#[1],#[1]⟩
  . exact⟨3,rfl,#[1],#[1]⟩
  . exact⟨10 ^ 9,rfl,#[1],#[1]⟩
 obtain⟨t,ht,t1,t9⟩:=ht;refine⟨powB (k:=4) (by unfold Bits;decide) #[1] #[1],divP,#[1],_,ht,hN _ ?_⟩
 clear hN N ht;refine zm fun N hN=>?_
 walk_at "rd"
 refine⟨divP,hN _ ?_⟩
 clear hN N;refine zm fun N hN=>?_
 walk_at "rd"
 refine hN _ ?_
 clear hN N;generalize v/192=c0;refine jA (fun ρ'=>∃ (ws:List Int) (c':Int) (t6:Option L3.Cl),ρ'=[#[5,c'],#[5,o],#[5,n],#[5,z],#[5,t],some (.ow true (ws.map .int)),t6]/\ws.length=n/\∀ w∈ws,0<=w/\w<=16) (fun N hN=>?_) ?_
 . walk_at "rd"
   refine⟨#[0],#[0],?_⟩
   rw [Int.toNat_natCast];refine Jp (fun k ρ=>∃ (ws:List Int) (c':Int) (t6:Option L3.Cl),ρ = [#[5,c'],#[5,o],#[5,n],#[5,z],#[5,t],some (.ow true (ws.map .int)),t6]/\ws.length=k/\∀ w∈ws,0<=w/\w<=16) ?_ ?_ ⟨[],c0,none,rfl,rfl,fun w h=>by cases h⟩
   . rintro k ρ hk ⟨ws,c',t6,rfl,hl,hw⟩ W hW
     have h0:=Ybc c' (show z≠0 by omega)
     have h1:=Ybd c' (show 0<z by omega)
     walk_at "rd"
     refine⟨#[0],sz (by rw [YaR];omega),⟨#[0],Bits.lit (x:=z) 9000 #[0]⟩,hW _ ⟨ws++[c'%z],_,_,by rw [Ya2];rfl,by simp [hl],fun w hw'=>?_⟩⟩
     rcases Ya3.mp hw' with y|y
     . exact hw w y
     . rw [Ya6.mp y];exact⟨h0,#[0]⟩
   . rintro ρ ⟨ws,c',t6,rfl,hl,hw⟩
     exact hN _ ⟨ws,c',t6,rfl,hl,hw⟩
 rintro ρ ⟨ws,c',t6,rfl,hl,hw⟩
 refine jA (fun ρ'=>∃ ws:List Int,ρ'=[#[5,c'],#[5,o],#[5,n],#[5,z],#[5,t],some (.ow true (ws.map .int)),t6]/\ws.length=n/\(∀ w∈ws,0<=w/\w<=16)/\ws.sum≠0) (fun N hN=>?_) ?_
 . walk_at "rd"
   have o0:=Ybc o (show(n:Int)≠0 by omega)
   have o1:=Ybd o (show 0<(n:Int) by omega)
   refine⟨ws,jg _,ite2 (fun h=>⟨#[0],_,zcV o0 (by rw [YaR];omega),hN _ ⟨ws.set (o%(n:Int)).toNat 1,by rw [List.map_set],by rw [YaN];exact hl,?_,?_⟩⟩) fun h=>hN _ ⟨ws,rfl,hl,hw,h⟩⟩
   . intro w hw'
     rcases Wak hw' with y|y
     . exact hw w y
     . rw [y];decide
   . exact znF (fun w hw'=>by
      rcases Wak hw' with y|y
      . exact(hw w y).1
      . rw [y];decide) (List.mem_set #[0] 1)
 clear hl hw ws
 rintro ρ ⟨ws,rfl,hl,hw,h0⟩
 refine jA (fun ρ'=>∃ ws:List Int,ρ'=[#[5,c'],#[5,o],#[5,n],#[5,z],#[5,t],some (.ow true (ws.map .int)),t6]/\ws.length=n/\(∀ w∈ws,0<=w/\w<=16)/\ws.sum≠0/\ws.sum<=60) (fun N hN=>?_) ?_
 . walk_at "rd"
   refine⟨_,Jx (fun m ρ=>∃ ws:List Int,ρ = [#[5,c'],#[5,o],#[5,n],#[5,z],#[5,t],some (.ow true (ws.map .int)),t6]/\ws.length=n/\(∀ w∈ws,0<=w/\w<=16)/\ws.sum≠0/\m=ws.sum.toNat) ?_ _ _ ⟨ws,rfl,hl,hw,h0,rfl⟩⟩
   clear hl hw h0 ws
   rintro m ρ ⟨ws,rfl,hl,hw,h0,rfl⟩ W hW
   walk_at "rd"
   have hne:ws≠[]:=fun y=>by rw [y] at hl;simp at hl;omega
   have hmx:=zjN hne;have hix:=List.idxOf_lt_length_iff.mpr hmx;refine⟨ws,jg _,ite2 (fun h=>⟨ws,jg _,ws,jg _,hne,hmx,_,zcV #[0] (by rw [YaR];omega),?_⟩) fun h=>hN _ ⟨ws,rfl,hl,hw,h0,#[0]⟩⟩
   rw [Int.toNat_natCast];have hs:=zg7 hix 1;rw [List.getElem_idxOf hix] at hs;have hbig:2<=maxL ws:=by
    rcases Int.lt_or_le 1 (maxL ws) with y|y
    . omega
    . have h1:=zc4 (B:=2) (ws:=ws) fun w hw'=>(show w<2 by have:=zj0 hw';omega)
      omega
   have hmw:=hw _ hmx;refine hW (ws.set (List.idxOf (maxL ws) ws) 1).sum.toNat _ #[0] ⟨ws.set (List.idxOf (maxL ws) ws) 1,by rw [List.map_set],by rw [YaN];exact hl,fun w hw'=>?_,#[0],rfl⟩
   rcases Wak hw' with y|y
   . exact hw w y
   . rw [y];decide
 clear hl hw h0 ws
 rintro ρ ⟨ws,rfl,hl,hw,h0,h60⟩
 obtain⟨o1,o2,o3'⟩:=ziK #[0] hw h0 h60 t1 t9
 walk_at "rd"
 refine⟨sz (by rw [YaR];omega),?_⟩
 refine jE PyData.int (fun w=>PyData.int (w*t)) (fun ρ=>∃ x,ρ = [x,#[5,t]]) ws ?_ _ _ _ _ ⟨none,rfl⟩ ?_
 . rintro w hw' ρ fa acc K ⟨x,rfl⟩ kk
   have:=hw w hw';exact zhE (C:=IntMulOk) ((Bits.lit (x:=w) 64 #[0]).mulOk (Bits.lit (x:=t) 64 #[0]) #[1]) (kk _ ⟨_,rfl⟩)
 have:=q _ o1 o2 o3';rw [dI,YaD] at this;exact this
theorem zn5(T:Txt c K mg)(zoD:#[8,dd_law_wide]):dd_law_weights P w K mg base:=by
 obtain⟨f,fd,F,hm⟩:=T.d_law_weights;have hb:=F.binds (ps:=["_law_cell", "_law_other"]) fun _ _ _ _ _ _ us hl=>by obtain⟨_,_,rfl⟩:=jd hl;rfl
 refine⟨fun ds Q Q' E E' hQ hE h=>?_,⟨f,fd,ziS T zoD F,hb,F.kp,hm⟩⟩
 obtain⟨a,b,e,h⟩:=h;exact⟨a,b,e,fun w x y z=>hQ _ _ (h w x y z)⟩
theorem zhh:FnScope ["weights", "weight"] ["weights"] (ze JR):=⟨rfl,rfl,rfl,#[3],rfl,#[3],#[3]⟩
theorem zjA(T:Txt c K mg){f:Addr}{fd:FuncData}(F:Fun K "check_weights" "check_weights" JR f fd):FnOk P w K mg base (CXR P w) 1 f fd ["weights"] (spL K (Z6 c)):=by
 have S:=zhh;refine fn3 F S (fun ds Q E h=>?_) (fun cdv A outer s H E E3 hE hr=>?_)
 . obtain⟨_,rfl,_⟩:=h;rfl
 refine⟨_,(zc (s_if (z5 (zbX JF JF i3 (zn zH rfl T.n_len zG (za (n3 0) zb)) (g3i rfl T.m_MOST_CLANS))) (zd (jz hE jF rfl rfl T.m_NoSpell T.e_NoSpell (za s3 zb))) zE)
  (zc (zN Wa2 rfl (zQ (n3 0)) (zu (i:=1) S.nd rfl #[2]) (zc (s_if (zq jT (n3 1) i3 (nomark _)) (zd (jz hE jF rfl rfl T.m_NoSpell T.e_NoSpell (za s3 zb))) zE)
   (zd (s_if (zq zeD (n3 1) (op3 Ji i3 i3) (nomark _)) (zd (jz hE jF rfl rfl T.m_NoSpell T.e_NoSpell (za s3 zb))) zE))))
  (zd (s_if (zq (Zk hr.units) (zn (jB rfl) rfl T.n_sum jG (za (n3 0) zb)) i3 (nomark _)) (zd (jz hE jF rfl rfl T.m_NoSpell T.e_NoSpell (za s3 zb))) zE)))),fun ds Q h=>?_⟩
 obtain⟨ws,rfl,q,hE'⟩:=h
 walk_at "rd"
 simp only [YaR]
 by_cases h1:1<=(ws.length:Int)
 case neg=>rw [if_neg h1];exact hE' fun z=>h1 (by have:=z.1.1;omega)
 rw [if_pos h1]
 by_cases h2:(ws.length:Int)<=8
 case neg=>rw [if_pos h2];exact hE' fun z=>h2 (by have:=z.1.2;omega)
 rw [if_neg (fun z=>z h2)]
 refine ZY (fun ds ρ=>∃ rest t,ds=rest.map PyData.int/\ρ = [some (.sh false (.list (ws.map .int))),t]/\(∀ w∈rest,w∈ws)/\∀ w∈ws,w∈rest\/(0<=w/\w<10 ^ 30)) ?_ ?_ _ _ ⟨ws,none,rfl,rfl,fun _ h=>h,fun _ h=>.inl h⟩
 . rintro d ds ρ ⟨rest,t,e,rfl,hin,hall⟩ W hW
   cases rest with
   | nil=>cases e
   | cons w rest=>
    cases e;have hw:=hin w YaV
    walk_at "rd"
    by_cases h3:w<0
    . rw [if_pos h3];exact hE' fun z=>by have:=(z.2.1 w hw).1;omega
    rw [if_neg h3];refine⟨p30,?_⟩
    by_cases h4:(10:Int) ^ Int.toNat 30<=w
    . rw [if_pos h4];exact hE' fun z=>by have:=(z.2.1 w hw).2;exact absurd h4 (by have e:(10:Int) ^ Int.toNat 30=10 ^ 30:=rfl;omega)
    rw [if_neg h4];refine hW _ ⟨rest,_,rfl,rfl,fun x hx=>hin x (YaT _ hx),fun x hx=>?_⟩
    rcases hall x hx with z|z
    . rcases Wbp.mp z with rfl|z
      . exact .inr ⟨#[0],by have e:(10:Int) ^ Int.toNat 30=10 ^ 30:=rfl;omega⟩
      . exact .inl z
    . exact .inr z
 . rintro ρ ⟨rest,t,e,rfl,hin,hall⟩
   cases rest with
   | cons _ _=>cases e
   | nil=>
    walk_at "rd"
    refine⟨ws,jg ws,?_⟩
    by_cases h3:ws.sum=0
    . rw [if_pos h3];exact hE' fun z=>z.2.2 h3
    . rw [if_neg h3]
      exact q ⟨⟨#[0],#[0]⟩,fun w hw=>(hall w hw).resolve_left (by simp),h3⟩
theorem zh4(T:Txt c K mg) : dd_check_weights c P w K mg base:=by
 obtain⟨f,fd,F,hm⟩:=T.d_check_weights;have hb:=F.binds (ps:=["weights"]) fun _ _ _ _ _ _ us hl=>by obtain⟨_,rfl⟩:=zY hl;rfl
 refine⟨fun ds Q Q' E E' hQ hE h=>?_,⟨f,fd,zjA T F,hb,F.kp,hm⟩⟩
 obtain⟨l,e,h1,h2⟩:=h;exact⟨l,e,fun z=>hQ _ _ (h1 z),fun z=>hE _ (h2 z)⟩
theorem zin:FnScope ["one", "other", "greater", "lesser", "rest"] ["one", "other"] (ze Zp):=⟨rfl,rfl,rfl,#[3],rfl,#[3],#[3]⟩
theorem zgl(T:Txt c K mg){f:Addr}{fd:FuncData}(F:Fun K "common_divisor" "common_divisor" Zp f fd):FnOk P w K mg base (CXR P w) 1 f fd ["one", "other"] (spL K J9):=by
 have S:=zin;refine fn3 F S (fun ds Q E h=>?_) (fun cdv A outer s H E E3 hE hr=>?_)
 . obtain⟨_,_,rfl,_⟩:=h;rfl
 refine⟨_,(zc (zh (i:=2) S.nd rfl #[2] (zn zbE rfl T.n_abs zbr (za (n3 0) zb)))
  (zc (zh (i:=3) S.nd rfl #[2] (zn zbE rfl T.n_abs zbr (za (n3 1) zb)))
  (zc (J5 Wa2 (zq (jo hr.units) (n3 3) i3 (nomark _)) (zc (zh (i:=4) S.nd rfl #[2] (op3 jh (n3 2) (n3 3)))
   (zc (zh (i:=2) S.nd rfl #[2] (n3 3))
   (zd (zh (i:=3) S.nd rfl #[2] (n3 4))))))
  (zd (zi (n3 2)))))),fun ds Q h=>?_⟩
 obtain⟨a,b,rfl,q⟩:=h
 walk_at "rd"
 refine⟨_,Jx (fun n ρ=>∃ g l r,ρ = [#[5,a],#[5,b],#[5,g],#[5,l],r]/\0<=g/\0<=l/\Int.gcd g l=Int.gcd a b/\n=l.toNat) ?_ _ _ ⟨_,_,_,rfl,by split<;>omega,by split<;>omega,zeG a b,rfl⟩⟩
 rintro n ρ ⟨g,l,r,rfl,hg,hl,hG,rfl⟩ W hW
 walk_at "rd"
 by_cases h0:l=0
 . rw [if_neg (fun z=>z h0)]
   subst h0;rw [<-hG,zbU hg] at q;exact q
 . rw [if_pos h0]
   have hp:0<l:=#[0]
   have h1:=Ybc g h0;have h2:=Ybd g hp;exact⟨hp,hW (g%l).toNat _ #[0] ⟨l,g%l,_,rfl,hl,h1,(zcj hg hp).trans hG,rfl⟩⟩
theorem zoa(T:Txt c K mg) : dd_common_divisor P w K mg base:=by
 obtain⟨f,fd,F,hm⟩:=T.d_common_divisor;have hb:=F.binds (ps:=["one", "other"]) fun _ _ _ _ _ _ us hl=>by obtain⟨_,_,rfl⟩:=jd hl;rfl
 refine⟨fun ds Q Q' E E' hQ hE h=>?_,⟨f,fd,zgl T F,hb,F.kp,hm⟩⟩
 first|(obtain⟨a0,a1,e,h⟩:=h;exact⟨a0,a1,e,hQ _ h⟩)|(unfold J9 at *;grind)
theorem zgX:FnScope ["weights", "divisor", "weight"] ["weights"] (ze JQ):=⟨rfl,rfl,rfl,#[3],rfl,#[3],#[3]⟩
theorem zmc(T:Txt c K mg)(zom:#[8,dd_common_divisor]){f:Addr}{fd:FuncData}(F:Fun K "divisor_of_all" "divisor_of_all" JQ f fd):FnOk P w K mg base (CXR P w) 2 f fd ["weights"] (spL K JS):=by
 have S:=zgX;refine fn3 F S (fun ds Q E h=>?_) (fun cdv A outer s H E E3 hE hr=>?_)
 . obtain⟨_,rfl,_⟩:=h;rfl
 refine⟨_,(zc (zh (i:=1) S.nd rfl #[2] i3)
  (zc (zN Wa2 rfl (zQ (n3 0)) (zu (i:=2) S.nd rfl #[2]) (zd (zh (i:=1) S.nd rfl #[2] (df3 hE zom (hr.mono #[1]) rfl zl (za (n3 1) (za (n3 2) zb))))))
  (zd (zi (n3 1))))),fun ds Q h=>?_⟩
 obtain⟨ws,rfl,q⟩:=h
 walk_at "rd"
 refine ZY (fun ds ρ=>∃ done rest t,ds=rest.map PyData.int/\ws=done++rest/\ρ = [some (.sh false (.list (ws.map .int))),#[5,gcdL done],t]) ?_ ?_ _ _ ⟨[],ws,none,rfl,rfl,rfl⟩
 . rintro d ds ρ ⟨done,rest,t,e,hws,rfl⟩ W hW
   cases rest with
   | nil=>cases e
   | cons w rest=>
    cases e
    walk_at "rd"
    exact hW _ ⟨done++[w],rest,_,rfl,by rw [hws,Yag];rfl,by unfold gcdL;rw [WaR];rfl⟩
 . rintro ρ ⟨done,rest,t,e,hws,rfl⟩
   cases rest with
   | cons _ _=>cases e
   | nil=>
    walk_at "rd"
    rw [Yao] at hws;subst hws;exact q
theorem zmU(T:Txt c K mg)(zom:#[8,dd_common_divisor]):dd_divisor_of_all P w K mg base:=by
 obtain⟨f,fd,F,hm⟩:=T.d_divisor_of_all;have hb:=F.binds (ps:=["weights"]) fun _ _ _ _ _ _ us hl=>by obtain⟨_,rfl⟩:=zY hl;rfl
 refine⟨fun ds Q Q' E E' hQ hE h=>?_,⟨f,fd,zmc T zom F,hb,F.kp,hm⟩⟩
 first|(obtain⟨a0,e,h⟩:=h;exact⟨a0,e,hQ _ h⟩)|(unfold JS at *;grind)
theorem znX:FnScope ["spells"] ["spells"] (ze Jv):=⟨rfl,rfl,rfl,#[3],rfl,#[3],#[3]⟩
theorem zkB(T:Txt c K mg){f:Addr}{fd:FuncData}(F:Fun K "all_turns" "all_turns" Jv f fd):FnOk P w K mg base (CXR P w) 1 f fd ["spells"] (spL K ZO):=by
 have S:=znX;refine fn3 F S (fun ds Q E h=>?_) (fun cdv A outer s H E E3 hE hr=>?_)
 . obtain⟨_,rfl,_⟩:=h;rfl
 refine⟨_,(zd (zi (zn (jB rfl) rfl T.n_sum jG (za (new3 (J3 ["spell"] [] [] rfl (jM (osc:=ze Jv) #[3]) rfl (zQ (n3 0)) (fun H0 s H fp cl=>⟨(zu (i:=0) (show((["spell"]:List PySem.Str)++([]:List PySem.Str)).Nodup by decide) rfl #[2]),jR,(at3 (n3 0) i3 #[4])⟩))) zb)))),fun ds Q h=>?_⟩
 obtain⟨l,rfl,hz,q⟩:=h
 walk_at "rd"
 rw [YaR];refine⟨sz #[0],?_⟩
 refine jE (f:=false) dS (fun s=>.int s.1) (fun ρ=>∃ t,ρ = [t]) l ?_ _ _ _ _ ⟨none,rfl⟩ ?_
 . rintro s hs ρ fa acc K ⟨t,rfl⟩ k
   simp only [seq3,next3,set3,own3,ret3,ifS3,tt3,o3,u3,v3,atV,asS,asB,asD,optP,asT,asLd,asL,atO,Jg,nilP,asId,asI,k3,nw3,add3,int3,int0,neg3,eq3,ne3,eqOk,eqv3,isN3,notN3,isNone,ix3,ixD,zaU,nil3,ZJ,cb3,len3,lenD,abs3,max23,min23,sum3,max3,if3,and3,or3,not3,zaq,zav,ch3,tup3,lst3,zaI,no3,za6,zaB,L2.isD,zaX,asg3,gn3,ZF,j7,gnil3,app3,put3,frzS,frz,frz1,for3,itL,itZ,rg1,rg2,rg3,Je,true3,cst3,zaN,ja,shs,Cl.d,Cl.dat,Cl.f,zbL,zt,Option.map_some,Option.map_none,Option.isSome_some,Option.isSome_none,Option.join_some,Option.join_none,List.all_cons,List.all_nil,Wbx,Wbr,Wbt,Wbq,Wbs,WbG,Bool.true_or,Ya1,WbB,List.length_cons,List.length_nil,Nat.reduceAdd,Nat.reduceSub,WbD,List.replicate,List.cons_append,List.nil_append,Yao,List.getElem?_cons_zero,List.getElem?_cons_succ,List.set_cons_zero,List.set_cons_succ,WaN,Cl.sh.injEq,Cl.ow.injEq,Wbc,Wa0,Wbd,Wa1,WaJ,Wbj,reduceCtorEq,and_assoc,and_true,true_and,and_self,exists_eq_left,exists_eq_left',exists_eq',exists_eq_right,exists_eq_right',exists_and_left,exists_const,exists_false,false_and,and_false,or_false,false_or,or_true,true_or,decide_true,decide_false,decide_eq_true_eq,Bool.not_true,Bool.not_false,WaG,WaK,if_true,if_false,ite_true,ite_false,WaM,decide_eq_false_iff_not,eq_self_iff_true,not_true_eq_false,not_false_eq_true,sz0,sz1,sz2,sz3,sz4,sz6,zaH,zaJ,par3,aug3,idx3,ext3,itE,itE1,slT3,zaT,za5,za2,zaM,atK,zaS,ifJ,zas,repD,zad,Zr,ZT,Z6,J9,JS,ZO,Z7,ZG,zah,Z1,ZL,Zs,ZU,Z2,ZN,ZI,Z8,ZA,ZH,ZP,Zq,ZK,Zb,Z0,Zw,Zx,ZV,Zt,Zu,JA,Zv,ZM,zag,zac,Zh,dSs,dS,dI,zt,dQ,dRoom,dW,dT,atI0,atI1,atI2,atI3,atI0]
   exact k _ ⟨_,rfl⟩
 . walk_at "rd"
   refine⟨l.map (fun s:Spell=>s.1),?_,q⟩
   rw [<-jg (l.map (fun s:Spell=>s.1)),YaD]
   rfl
theorem zgj(T:Txt c K mg) : dd_all_turns P w K mg base:=by
 obtain⟨f,fd,F,hm⟩:=T.d_all_turns;have hb:=F.binds (ps:=["spells"]) fun _ _ _ _ _ _ us hl=>by obtain⟨_,rfl⟩:=zY hl;rfl
 refine⟨fun ds Q Q' E E' hQ hE h=>?_,⟨f,fd,zkB T F,hb,F.kp,hm⟩⟩
 obtain⟨l,e,z,h⟩:=h;exact⟨l,e,z,hQ _ _ h⟩
theorem zkA:FnScope ["spells", "turns", "weights"] ["spells"] (ze Jy):=⟨rfl,rfl,rfl,#[3],rfl,#[3],#[3]⟩
theorem zmR(T:Txt c K mg)(zol:#[8,dd_check_weights c])(zoj:#[8,dd_all_turns]){f:Addr}{fd:FuncData}(F:Fun K "check_spells" "check_spells" Jy f fd):FnOk P w K mg base (CXR P w) 2 f fd ["spells"] (spL K (Z7 c)):=by
 have S:=zkA;refine fn3 F S (fun ds Q E h=>?_) (fun cdv A outer s H E E3 hE hr=>?_)
 . obtain⟨_,rfl,_⟩:=h;rfl
 refine⟨_,(zc (s_if (z5 (zbX JF JF i3 (zn zH rfl T.n_len zG (za (n3 0) zb)) (g3i rfl T.m_MOST_SPELLS))) (zd (jz hE jF rfl rfl T.m_NoSpell T.e_NoSpell (za s3 zb))) zE)
  (zc (zN Wa2 rfl (zQ (n3 0)) (Jt (n:=2) rfl (zV (zu (i:=1) S.nd rfl #[2]) (zV (zu (i:=2) S.nd rfl #[2]) Jm))) (zc (s_if (zq jT (n3 1) i3 (nomark _)) (zd (jz hE jF rfl rfl T.m_NoSpell T.e_NoSpell (za s3 zb))) zE)
   (zc (zcx (df3 hE zol (hr.mono #[1]) rfl zl (za (n3 2) zb)))
   (zd (s_if (zq (jo hr.units) (zn zH rfl T.n_len zG (za (n3 2) zb)) (zn zH rfl T.n_len zG (za (at3 (at3 (n3 0) i3 #[4]) i3 #[4]) zb)) (nomark _)) (zd (jz hE jF rfl rfl T.m_NoSpell T.e_NoSpell (za s3 zb))) zE)))))
  (zd (s_if (zq jH (df3 hE zoj (hr.mono #[1]) rfl zl (za (n3 0) zb)) (g3i rfl T.m_MOST_TURNS) (nomark _)) (zd (jz hE jF rfl rfl T.m_NoSpell T.e_NoSpell (za s3 zb))) zE)))),fun ds Q h=>?_⟩
 obtain⟨l,rfl,q,hE'⟩:=h
 walk_at "rd"
 simp only [YaR]
 by_cases h1:1<=(l.length:Int)
 case neg=>rw [if_neg h1];exact hE' fun z=>h1 (by have:=z.1.1;omega)
 rw [if_pos h1]
 by_cases h2:(l.length:Int)<=8
 case neg=>rw [if_pos h2];exact hE' fun z=>h2 (by have:=z.1.2;omega)
 rw [if_neg (fun z=>z h2)]
 have hd0:atI (l.map dS) 0=some (dS (l.headD (0,[]))):=by
  cases l with
  | nil=>simp at h1
  | cons a r=>exact atI0
 refine ZY (fun ds ρ=>∃ rest t u,ds=rest.map dS/\ρ = [some (.sh false (.list (l.map dS))),t,u]/\(∀ w∈rest,w∈l)/\∀ w∈l,w∈rest\/(1<=w.1/\okW w.2/\w.2.length=many l)) ?_ ?_ _ _ ⟨l,none,none,rfl,rfl,fun _ h=>h,fun _ h=>.inl h⟩
 . rintro d ds ρ ⟨rest,t,u,e,rfl,hin,hall⟩ W hW
   cases rest with
   | nil=>cases e
   | cons w rest=>
    cases e;have hw:=hin w YaV
    walk_at "rd"
    by_cases h3:w.1<1
    . rw [if_pos h3];exact hE' fun z=>by have:=(z.2.1 w hw).1;omega
    rw [if_neg h3];refine⟨w.2,rfl,fun hok=>?_,fun hno=>hE' fun z=>hno (z.2.1 w hw).2.1⟩
    simp only [seq3,next3,set3,own3,ret3,ifS3,tt3,o3,u3,v3,atV,asS,asB,asD,optP,asT,asLd,asL,atO,Jg,nilP,asId,asI,k3,nw3,add3,int3,int0,neg3,eq3,ne3,eqOk,eqv3,isN3,notN3,isNone,ix3,ixD,zaU,nil3,ZJ,cb3,len3,lenD,abs3,max23,min23,sum3,max3,if3,and3,or3,not3,zaq,zav,ch3,tup3,lst3,zaI,no3,za6,zaB,L2.isD,zaX,asg3,gn3,ZF,j7,gnil3,app3,put3,frzS,frz,frz1,for3,itL,itZ,rg1,rg2,rg3,Je,true3,cst3,zaN,ja,shs,Cl.d,Cl.dat,Cl.f,zbL,zt,Option.map_some,Option.map_none,Option.isSome_some,Option.isSome_none,Option.join_some,Option.join_none,List.all_cons,List.all_nil,Wbx,Wbr,Wbt,Wbq,Wbs,WbG,Bool.true_or,Ya1,WbB,List.length_cons,List.length_nil,Nat.reduceAdd,Nat.reduceSub,WbD,List.replicate,List.cons_append,List.nil_append,Yao,List.getElem?_cons_zero,List.getElem?_cons_succ,List.set_cons_zero,List.set_cons_succ,WaN,Cl.sh.injEq,Cl.ow.injEq,Wbc,Wa0,Wbd,Wa1,WaJ,Wbj,reduceCtorEq,and_assoc,and_true,true_and,and_self,exists_eq_left,exists_eq_left',exists_eq',exists_eq_right,exists_eq_right',exists_and_left,exists_const,exists_false,false_and,and_false,or_false,false_or,or_true,true_or,decide_true,decide_false,decide_eq_true_eq,Bool.not_true,Bool.not_false,WaG,WaK,if_true,if_false,ite_true,ite_false,WaM,decide_eq_false_iff_not,eq_self_iff_true,not_true_eq_false,not_false_eq_true,sz0,sz1,sz2,sz3,sz4,sz6,zaH,zaJ,par3,aug3,idx3,ext3,itE,itE1,slT3,zaT,za5,za2,zaM,atK,zaS,ifJ,zas,repD,zad,Zr,ZT,Z6,J9,JS,ZO,Z7,ZG,zah,Z1,ZL,Zs,ZU,Z2,ZN,ZI,Z8,ZA,ZH,ZP,Zq,ZK,Zb,Z0,Zw,Zx,ZV,Zt,Zu,JA,Zv,ZM,zag,zac,Zh,dSs,dS,dI,zt,dQ,dRoom,dW,dT,atI0,atI1,atI2,atI3,atI0,atI1,hd0,YaR]
    by_cases h4:(w.2.length:Int)=(l.headD (0,[])).2.length
    . rw [if_neg (fun z=>z h4)]
      refine hW _ ⟨rest,_,_,rfl,rfl,fun x hx=>hin x (YaT _ hx),fun x hx=>?_⟩
      rcases hall x hx with z|z
      . rcases Wbp.mp z with rfl|z
        . exact .inr ⟨#[0],hok,by unfold many;omega⟩
        . exact .inl z
      . exact .inr z
    . rw [if_pos h4]
      exact hE' fun z=>h4 (by have:=(z.2.1 w hw).2.2;unfold many at this;omega)
 . rintro ρ ⟨rest,t,u,e,rfl,hin,hall⟩
   cases rest with
   | cons _ _=>cases e
   | nil=>
    walk_at "rd"
    refine⟨l,rfl,#[0],?_⟩
    by_cases h3:60<tot l
    . rw [if_pos h3];exact hE' fun z=>by have:=z.2.2;omega
    . rw [if_neg h3]
      exact q ⟨⟨#[0],#[0]⟩,fun w hw=>(hall w hw).resolve_left (by simp),#[0]⟩
theorem zhl(T:Txt c K mg)(zol:#[8,dd_check_weights c])(zoj:#[8,dd_all_turns]):dd_check_spells c P w K mg base:=by
 obtain⟨f,fd,F,hm⟩:=T.d_check_spells;have hb:=F.binds (ps:=["spells"]) fun _ _ _ _ _ _ us hl=>by obtain⟨_,rfl⟩:=zY hl;rfl
 refine⟨fun ds Q Q' E E' hQ hE h=>?_,⟨f,fd,zmR T zol zoj F,hb,F.kp,hm⟩⟩
 obtain⟨l,e,h1,h2⟩:=h;exact⟨l,e,fun z=>hQ _ _ (h1 z),fun z=>hE _ (h2 z)⟩
theorem zh0:FnScope ["spells", "bottom", "spell", "parts"] ["spells"] (ze Zi):=⟨rfl,rfl,rfl,#[3],rfl,#[3],#[3]⟩
theorem zkV(T:Txt c K mg)(zop:#[8,dd_divisor_of_all])(zom:#[8,dd_common_divisor]){f:Addr}{fd:FuncData}(F:Fun K "least_bottom" "least_bottom" Zi f fd):FnOk P w K mg base (CXR P w) 3 f fd ["spells"] (spL K ZG):=by
 have S:=zh0;refine fn3 F S (fun ds Q E h=>?_) (fun cdv A outer s H E E3 hE hr=>?_)
 . obtain⟨_,rfl,_⟩:=h;rfl
 refine⟨_,(zc (zh (i:=1) S.nd rfl #[2] i3)
  (zc (zN Wa2 rfl (zQ (n3 0)) (zu (i:=2) S.nd rfl #[2]) (zc (zh (i:=3) S.nd rfl #[2] (op3 zW (zn (jB rfl) rfl T.n_sum jG (za (at3 (n3 2) i3 #[4]) zb)) (df3 hE zop (hr.mono #[1]) rfl zl (za (at3 (n3 2) i3 #[4]) zb))))
   (zd (zh (i:=1) S.nd rfl #[2] (op3 zW (op3 zU (n3 1) (n3 3)) (df3 hE zom (hr.mono #[1]) rfl zl (za (n3 1) (za (n3 3) zb))))))))
  (zd (zi (n3 1))))),fun ds Q h=>?_⟩
 obtain⟨l,rfl,hok,q⟩:=h
 walk_at "rd"
 refine ZY (fun ds ρ=>∃ done rest t u,ds=rest.map dS/\l=done++rest/\ρ = [some (.sh false (.list (l.map dS))),#[5,bot done],t,u]) ?_ ?_ _ _ ⟨[],l,none,none,rfl,rfl,rfl⟩
 . rintro d ds ρ ⟨done,rest,t,u,e,hl,rfl⟩ W hW
   cases rest with
   | nil=>cases e
   | cons w rest=>
    cases e;have hw:w∈l:=by rw [hl];simp
    have hwok:=(hok.2.1 w hw).2.1;have hdone:0<bot done/\Bits (1+103*done.length) (bot done):=zbk done 1 1 (fun s hs=>(hok.2.1 s (by rw [hl];exact Yai _ hs)).2.1) #[1] (by unfold Bits;decide)
    have hlen:done.length<=8:=by have:=hok.1.2;rw [hl,YaS] at this;omega
    have hb:Bits 900 (bot done):=hdone.2.mono #[0]
    simp only [seq3,next3,set3,own3,ret3,ifS3,tt3,o3,u3,v3,atV,asS,asB,asD,optP,asT,asLd,asL,atO,Jg,nilP,asId,asI,k3,nw3,add3,int3,int0,neg3,eq3,ne3,eqOk,eqv3,isN3,notN3,isNone,ix3,ixD,zaU,nil3,ZJ,cb3,len3,lenD,abs3,max23,min23,sum3,max3,if3,and3,or3,not3,zaq,zav,ch3,tup3,lst3,zaI,no3,za6,zaB,L2.isD,zaX,asg3,gn3,ZF,j7,gnil3,app3,put3,frzS,frz,frz1,for3,itL,itZ,rg1,rg2,rg3,Je,true3,cst3,zaN,ja,shs,Cl.d,Cl.dat,Cl.f,zbL,zt,Option.map_some,Option.map_none,Option.isSome_some,Option.isSome_none,Option.join_some,Option.join_none,List.all_cons,List.all_nil,Wbx,Wbr,Wbt,Wbq,Wbs,WbG,Bool.true_or,Ya1,WbB,List.length_cons,List.length_nil,Nat.reduceAdd,Nat.reduceSub,WbD,List.replicate,List.cons_append,List.nil_append,Yao,List.getElem?_cons_zero,List.getElem?_cons_succ,List.set_cons_zero,List.set_cons_succ,WaN,Cl.sh.injEq,Cl.ow.injEq,Wbc,Wa0,Wbd,Wa1,WaJ,Wbj,reduceCtorEq,and_assoc,and_true,true_and,and_self,exists_eq_left,exists_eq_left',exists_eq',exists_eq_right,exists_eq_right',exists_and_left,exists_const,exists_false,false_and,and_false,or_false,false_or,or_true,true_or,decide_true,decide_false,decide_eq_true_eq,Bool.not_true,Bool.not_false,WaG,WaK,if_true,if_false,ite_true,ite_false,WaM,decide_eq_false_iff_not,eq_self_iff_true,not_true_eq_false,not_false_eq_true,sz0,sz1,sz2,sz3,sz4,sz6,zaH,zaJ,par3,aug3,idx3,ext3,itE,itE1,slT3,zaT,za5,za2,zaM,atK,zaS,ifJ,zas,repD,zad,Zr,ZT,Z6,J9,JS,ZO,Z7,ZG,zah,Z1,ZL,Zs,ZU,Z2,ZN,ZI,Z8,ZA,ZH,ZP,Zq,ZK,Zb,Z0,Zw,Zx,ZV,Zt,Zu,JA,Zv,ZM,zag,zac,Zh,dSs,dS,dI,zt,dQ,dRoom,dW,dT,atI0,atI1,atI2,atI3,atI0,atI1]
    refine⟨w.2,jg _,w.2,rfl,⟨Jf hwok,((jX hwok).le (by have:=zcG hwok;have:=Jf hwok;omega)).mono #[1]⟩,?_⟩
    have hgb:Bits 9000 (Int.gcd (bot done) (parts w.2):Int):=((zcM hwok).le (by have:=zn3 (b:=bot done) (jq hwok);have:=zcZ (b:=bot done) (jq hwok);have:=jq hwok;omega)).mono #[1]
    refine⟨hb.mulOk (zcM hwok) #[1],⟨zcZ (jq hwok),hgb⟩,?_⟩
    exact hW _ ⟨done++[w],rest,_,_,rfl,by rw [hl,Yag];rfl,by unfold bot;rw [WaR];rfl⟩
 . rintro ρ ⟨done,rest,t,u,e,hl,rfl⟩
   cases rest with
   | cons _ _=>cases e
   | nil=>
    walk_at "rd"
    rw [Yao] at hl;subst hl;exact q
theorem zmV(T:Txt c K mg)(zop:#[8,dd_divisor_of_all])(zom:#[8,dd_common_divisor]):dd_least_bottom P w K mg base:=by
 obtain⟨f,fd,F,hm⟩:=T.d_least_bottom;have hb:=F.binds (ps:=["spells"]) fun _ _ _ _ _ _ us hl=>by obtain⟨_,rfl⟩:=zY hl;rfl
 refine⟨fun ds Q Q' E E' hQ hE h=>?_,⟨f,fd,zkV T zop zom F,hb,F.kp,hm⟩⟩
 obtain⟨l,e,o,h⟩:=h;exact⟨l,e,o,hQ _ _ h⟩
theorem zgO:FnScope ["bottom", "weights", "total"] ["bottom", "weights"] (ze Jo):=⟨rfl,rfl,rfl,#[3],rfl,#[3],#[3]⟩
theorem znC(T:Txt c K mg){f:Addr}{fd:FuncData}(F:Fun K "shares_over" "shares_over" Jo f fd):FnOk P w K mg base (CXR P w) 1 f fd ["bottom", "weights"] (spL K zah):=by
 have S:=zgO;refine fn3 F S (fun ds Q E h=>?_) (fun cdv A outer s H E E3 hE hr=>?_)
 . obtain⟨_,_,rfl,_⟩:=h;rfl
 refine⟨_,(zc (zh (i:=2) S.nd rfl #[2] (zn (jB rfl) rfl T.n_sum jG (za (n3 1) zb)))
  (zd (zi (new3 (J3 ["weight"] ["bottom", "total"] [0,2] rfl (jM (osc:=ze Jo) #[3]) rfl (zQ (n3 1)) (fun H0 s H fp cl=>⟨(zu (i:=0) (show((["weight"]:List PySem.Str)++(["bottom", "total"]:List PySem.Str)).Nodup by decide) rfl #[2]),jR,(op3 zW (op3 zU (n3 0) (n3 1)) (n3 2))⟩)))))),fun ds Q h=>?_⟩
 obtain⟨b,ws,rfl,hok,hb,q⟩:=h
 walk_at "rd"
 refine⟨ws,jg _,?_⟩
 refine⟨sz (by rw [YaR];have:=hok.1.2;omega),?_⟩
 refine jE (f:=false) PyData.int (fun w=>.int (w*b/ws.sum)) (fun ρ=>∃ t,ρ = [t,#[5,b],#[5,ws.sum]]) ws ?_ _ _ _ _ ⟨none,rfl⟩ ?_
 . rintro w hw ρ fa acc K ⟨t,rfl⟩ k
   have h1:IntMulOk w b:=(zbn hok hw).mulOk hb #[1]
   have h2:ZQ (w*b) ws.sum:=⟨z8 hok,(jX hok).mono #[1]⟩
   show IntMulOk w b/\ZQ (w*b) ws.sum/\K (fa&&true) (acc++[.int (w*b/ws.sum)]) [#[5,w],#[5,b],#[5,ws.sum]]
   rw [Wbx];exact⟨h1,h2,k _ ⟨_,rfl⟩⟩
 . unfold dI shares at q
   rw [YaD] at q;exact q
theorem znt(T:Txt c K mg) : dd_shares_over P w K mg base:=by
 obtain⟨f,fd,F,hm⟩:=T.d_shares_over;have hb:=F.binds (ps:=["bottom", "weights"]) fun _ _ _ _ _ _ us hl=>by obtain⟨_,_,rfl⟩:=jd hl;rfl
 refine⟨fun ds Q Q' E E' hQ hE h=>?_,⟨f,fd,znC T F,hb,F.kp,hm⟩⟩
 obtain⟨b,l,e,o,p,h⟩:=h;exact⟨b,l,e,o,p,hQ _ _ h⟩
theorem zme:FnScope ["spells", "bottom", "latest", "told", "turns", "weights", "shares", "turn"] ["spells"] (ze j6):=⟨rfl,rfl,rfl,#[3],rfl,#[3],#[3]⟩
theorem ziG(T:Txt c K mg)(zok:#[8,dd_check_spells c])(zoF:#[8,dd_least_bottom])(zoN:#[8,dd_shares_over]){f:Addr}{fd:FuncData}(F:Fun K "quotas" "quotas" j6 f fd):FnOk P w K mg base (CXR P w) 4 f fd ["spells"] (spL K (Z1 c)):=by
 have S:=zme;refine fn3 F S (fun ds Q E h=>?_) (fun cdv A outer s H E E3 hE hr=>?_)
 . obtain⟨_,rfl,_⟩:=h;rfl
 refine⟨_,(zc (zcx (df3 hE zok (hr.mono #[1]) rfl zl (za (n3 0) zb)))
  (zc (zh (i:=1) S.nd rfl #[2] (df3 hE zoF (hr.mono #[1]) rfl zl (za (n3 0) zb)))
  (zc (zba (i:=2) S.nd rfl #[2] ["weight"] [] [] rfl (jM (osc:=ze j6) #[3]) rfl (zQ (at3 (at3 (n3 0) i3 #[4]) i3 #[4])) (fun H0 s H fp cl=>⟨(zu (i:=0) (show((["weight"]:List PySem.Str)++([]:List PySem.Str)).Nodup by decide) rfl #[2]),jR,i3⟩))
  (zc (J1 (i:=3) S.nd rfl #[2] (jx (za (n3 2) zb)))
  (zc (zN Wa2 rfl (zQ (n3 0)) (Jt (n:=2) rfl (zV (zu (i:=4) S.nd rfl #[2]) (zV (zu (i:=5) S.nd rfl #[2]) Jm))) (zc (zh (i:=6) S.nd rfl #[2] (df3 hE zoN (hr.mono #[1]) rfl zl (za (n3 1) (za (n3 5) zb))))
   (zd (zN Wa2 rfl (ZZ rfl T.n_range (za (n3 4) zb)) (zu (i:=7) S.nd rfl #[2]) (zc (zba (i:=2) S.nd rfl #[2] ["quota", "share"] [] [] rfl (jM (osc:=ze j6) #[3]) rfl (ziA rfl T.n_zip (za (n3 2) (za (n3 6) zb))) (fun H0 s H fp cl=>⟨(Jt (n:=2) rfl (zV (zu (i:=0) (show((["quota", "share"]:List PySem.Str)++([]:List PySem.Str)).Nodup by decide) rfl #[2]) (zV (zu (i:=1) (show((["quota", "share"]:List PySem.Str)++([]:List PySem.Str)).Nodup by decide) rfl #[2]) Jm))),jR,(op3 zZ (n3 0) (n3 1))⟩))
    (zd (zaD (i:=3) rfl #[2] (n3 2))))))))
  (zd (J7 [3] (zi (zT (za (n3 1) (za (n3 3) zb))))))))))),fun ds Q h=>?_⟩
 obtain⟨l,rfl,q,hE'⟩:=h;refine zm fun N hN=>?_
 walk_at "rd"
 refine⟨l,rfl,fun hok=>hN _ ?_,hE'⟩
 clear hN N;have hl0:l≠[]:=fun z=>by have:=hok.1.1;rw [z] at this;simp at this
 have hd0:atI (l.map dS) 0=some (dS (l.headD (0,[]))):=by
  cases l with
  | nil=>exact absurd rfl hl0
  | cons a r=>exact atI0
 have hmany:many l<=8:=by
  cases l with
  | nil=>exact absurd rfl hl0
  | cons a r=>exact(hok.2.1 a YaV).2.1.1.2
 refine zm fun N hN=>?_
 walk_at "rd"
 refine⟨l,rfl,hok,hN _ ?_⟩
 clear hN N;refine zm fun N hN=>?_
 walk_at "rd hd0 atI1 YaR"
 refine⟨sz (by unfold many at hmany;omega),?_⟩
 refine jE PyData.int (fun _=>.int 0) (fun ρ=>∃ t,ρ = [t]) (l.headD (0,[])).2 ?_ _ _ _ _ ⟨none,rfl⟩ ?_
 . rintro w hw ρ fa acc K ⟨t,rfl⟩ k
   walk_at "rd"
   exact k _ ⟨_,rfl⟩
 have hz:(l.headD (0,[])).2.map (fun _=>PyData.int 0)=(zeros l).map .int:=by
  unfold zeros many;rw [Yaz,Wbl]
 rw [List.nil_append,hz];refine hN _ ?_;clear hN N;refine zm fun N hN=>?_
 walk_at "rd"
 refine hN _ ?_
 clear hN N
 walk_at "rd"
 refine ZY (fun ds ρ=>∃ done rest t u v w,ds=rest.map dS/\l=done++rest/\ρ = [some (.sh false (.list (l.map dS))),#[5,bot l],some (.sh true (dI (runQ (bot l) done (zeros l,[zeros l])).1)),some (.ow true ((runQ (bot l) done (zeros l,[zeros l])).2.map dI)),t,u,v,w]/\(runQ (bot l) done (zeros l,[zeros l])).2.length<=1+(tot done).toNat) ?_ ?_ _ _ ⟨[],l,none,none,none,none,rfl,rfl,rfl,by simp [runQ]⟩
 . rintro d ds ρ ⟨done,rest,t,u,v,w',e,hl,rfl,hlen⟩ W hW
   cases rest with
   | nil=>cases e
   | cons w rest=>
    cases e;have hw:w∈l:=by rw [hl];simp
    have hwok:=(hok.2.1 w hw).2.1;have h1t:∀ s∈l,1<=s.1:=fun s hs=>(hok.2.1 s hs).1
    have hwt:=zkb h1t hw;have hw1:=h1t w hw;have hdt:tot done<=60 - w.1:=by
     have h60:=hok.2.2;have e:tot l=tot done+(w.1+tot rest):=by unfold tot;rw [hl,Ya2,Wbk,Ya1,List.sum_cons]
     have:0<=tot rest:=jc fun s hs=>h1t s (by rw [hl];exact Yaa _ (YaT _ hs))
     omega
    have hd0':0<=tot done:=jc fun s hs=>h1t s (by rw [hl];exact Yai _ hs)
    walk_at "rd"
    refine⟨w.2,rfl,hwok,(zar hok).mono #[1],#[0],by have:=hok.2.2;omega,?_⟩
    generalize hp:runQ (bot l) done (zeros l,[zeros l])=p at hlen ⊢;refine Jp (fun k ρ=>∃ t,ρ = [some (.sh false (.list (l.map dS))),#[5,bot l],some (.sh true (dI (rep (zr (shares (bot l) w.2)) k p).1)),some (.ow true ((rep (zr (shares (bot l) w.2)) k p).2.map dI)),#[5,w.1],some (.sh false (dI w.2)),some (.sh true (dI (shares (bot l) w.2))),t]) ?_ ?_ ⟨w',rfl⟩
    . rintro k ρ hk ⟨t,rfl⟩ W' hW'
      have hr:∀ k p,rep (zr (shares (bot l) w.2)) (k+1) p=zr (shares (bot l) w.2) (rep (zr (shares (bot l) w.2)) k p):=fun k=>by
       induction k with
       | zero=>intro p;rfl
       | succ k ih=>intro p;rw [rep,ih];rfl
      have hlk:=zaF (shares (bot l) w.2) k p
      walk_at "rd"
      rw [zfG,YaR];refine⟨sz (by rw [Wbh];unfold shares;rw [YaR];have:=hwok.1.2;omega),?_⟩
      refine jE _ (fun p=>.int (p.1+p.2)) (fun ρ=>∃ t u,ρ = [t,u]) _ ?_ _ _ _ _ ⟨none,none,rfl⟩ ?_
      . rintro x hx ρ fa acc K ⟨t,u,rfl⟩ k
        walk_at "rd"
        exact k _ ⟨_,_,rfl⟩
      . walk_at "rd"
        rw [YaR];refine⟨YaU (show _<1000000 by omega) #[1],hW' _ ⟨?w,?h⟩⟩
        case h=>
        rw [hr];unfold zr addL dI;simp only [Ya2,Ya1,WbB,YaD,List.nil_append]
        rfl
    . rintro ρ ⟨t,rfl⟩
      have er:runQ (bot l) (done++[w]) (zeros l,[zeros l])=rep (zr (shares (bot l) w.2)) w.1.toNat p:=by
       unfold runQ at hp ⊢;rw [WaR,hp];rfl
      have et:tot (done++[w])=tot done+w.1:=by unfold tot;rw [Ya2,Wbk];simp
      refine hW _ ⟨done++[w],rest,#[5,w.1],some (.sh false (dI w.2)),some (.sh true (dI (shares (bot l) w.2))),t,rfl,by rw [hl,Yag];rfl,by rw [er],?_⟩
      rw [er,zaF,et];omega
 . rintro ρ ⟨done,rest,t,u,v,w,e,hl,rfl,hlen⟩
   cases rest with
   | cons _ _=>cases e
   | nil=>
    walk_at "rd"
    rw [Yao] at hl;subst hl;exact q hok
theorem zir(T:Txt c K mg)(zok:#[8,dd_check_spells c])(zoF:#[8,dd_least_bottom])(zoN:#[8,dd_shares_over]):dd_quotas c P w K mg base:=by
 obtain⟨f,fd,F,hm⟩:=T.d_quotas;have hb:=F.binds (ps:=["spells"]) fun _ _ _ _ _ _ us hl=>by obtain⟨_,rfl⟩:=zY hl;rfl
 refine⟨fun ds Q Q' E E' hQ hE h=>?_,⟨f,fd,ziG T zok zoF zoN F,hb,F.kp,hm⟩⟩
 obtain⟨l,e,h1,h2⟩:=h;exact⟨l,e,fun z=>hQ _ _ (h1 z),fun z=>hE _ (h2 z)⟩
theorem zkP:FnScope ["told", "found", "latest", "quota"] ["told"] (ze J8):=⟨rfl,rfl,rfl,#[3],rfl,#[3],#[3]⟩
theorem zi1(T:Txt c K mg){f:Addr}{fd:FuncData}(F:Fun K "possible_rooms" "possible_rooms" J8 f fd):FnOk P w K mg base (CXR P w) 1 f fd ["told"] (spL K ZL):=by
 have S:=zkP;refine fn3 F S (fun ds Q E h=>?_) (fun cdv A outer s H E E3 hE hr=>?_)
 . obtain⟨_,rfl,_⟩:=h;rfl
 refine⟨_,(zc (zht (i:=1) S.nd rfl #[2])
  (zc (zN Wa2 rfl (zQ (at3 (n3 0) i3 #[4])) (zu (i:=2) S.nd rfl #[2]) (zd (zN Wa2 rfl (zQ (n3 2)) (zu (i:=3) S.nd rfl #[2]) (zc (zc7 (i:=1) (zeU hr) rfl #[2] (op3 jh (n3 3) (at3 (n3 0) i3 #[4])))
   (zd (zc7 (i:=1) (zeU hr) rfl #[2] (op3 jh (un3 zb8 (n3 3)) (at3 (n3 0) i3 #[4]))))))))
  (zd (zi (new3 (zmT (i:=1) rfl rfl T.n_sorted rfl #[2])))))),fun ds Q h=>?_⟩
 obtain⟨l,rfl,hok,q⟩:=h;have hm:=zau hok;have hbp:=zR hok;have hql:=jZ hok;have htn:=jc fun s hs=>(hok.2.1 s hs).1
 have h60:=hok.2.2;have hqr:∀ r∈quo l,r.length=many l:=fun r hr=>Zg hok (b:=bot l) hr
 have szl:∀ n:Nat,n<10000->n<sizeLine:=fun n h=>YaU h #[1]
 walk_at "rd"
 refine j0 dI (quo l) (fun done ρ=>∃ ks t u,ρ = [some (.sh false (dT l)),some (.dk ks),t,u]/\ks.Nodup/\ks.length<=16*done.length/\∀ r,r∈ks↔∃ row∈done,∃ x∈row,r=x%bot l\/r=(-x)%bot l) ?_ ?_ ⟨[],none,none,rfl,by simp,by simp,fun r=>by simp⟩
 . rintro done r rest ρ hd ⟨ks,t,u,rfl,nd,hl,hmem⟩ W hW
   have hr:r∈quo l:=by rw [hd];simp
   have hrl:=hqr r hr;have hdl:done.length<=60:=by have:=congrArg List.length hd;rw [YaS,List.length_cons] at this;omega
   walk_at "rd"
   refine j0 PyData.int r (fun done' ρ=>∃ ks u,ρ = [some (.sh false (dT l)),some (.dk ks),some (.sh false (dI r)),u]/\ks.Nodup/\ks.length<=16*done.length+2*done'.length/\∀ s,s∈ks↔(∃ row∈done,∃ x∈row,s=x%bot l\/s=(-x)%bot l)\/∃ x∈done',s=x%bot l\/s=(-x)%bot l) ?_ ?_ ⟨ks,u,rfl,nd,by simpa using hl,fun s=>by rw [hmem s];simp⟩
   . rintro done' x rest' ρ hd' ⟨ks,u,rfl,nd,hl,hmem⟩ W' hW'
     have hdl':done'.length<=8:=by have:=congrArg List.length hd';rw [YaS,List.length_cons] at this;omega
     have a1:=ze4 ks (x%bot l);have a2:=ze4 (addK ks (x%bot l)) (-x%bot l)
     walk_at "rd"
     refine⟨hbp,szl _ #[0],hbp,szl _ #[0],hW' _ ⟨_,_,rfl,zdT _ (zdT _ nd),by rw [YaS,List.length_singleton];omega,fun s=>?_⟩⟩
     rw [zdf,zdf,hmem s]
     constructor
     . rintro(((z|⟨y,hy,z⟩)|z)|z)
       . exact .inl z
       . exact .inr ⟨y,Yai _ hy,z⟩
       . exact .inr ⟨x,by simp,.inl z⟩
       . exact .inr ⟨x,by simp,.inr z⟩
     . rintro(z|⟨y,hy,z⟩)
       . exact .inl (.inl (.inl z))
       . rcases Ya3.mp hy with hy|hy
         . exact .inl (.inl (.inr ⟨y,hy,z⟩))
         . rw [Ya6.mp hy] at z
           exact z.elim (fun z=>.inl (.inr z)) .inr
   . rintro ρ ⟨ks,u,rfl,nd,hl,hmem⟩
     refine hW _ ⟨ks,_,_,rfl,nd,by rw [YaS,List.length_singleton];omega,fun s=>?_⟩
     rw [hmem s]
     constructor
     . rintro(⟨row,h1,h2⟩|⟨x,hx,z⟩)
       . exact⟨row,Yai _ h1,h2⟩
       . exact⟨r,by simp,x,hx,z⟩
     . rintro⟨row,h1,x,hx,z⟩
       rcases Ya3.mp h1 with h1|h1
       . exact .inl ⟨row,h1,x,hx,z⟩
       . rw [Ya6.mp h1] at hx
         exact .inr ⟨x,hx,z⟩
 . rintro ρ ⟨ks,t,u,rfl,nd,hl,hmem⟩
   walk_at "rd"
   exact⟨nd,#[0],fun ns hp hs=>q ns hs (fun r=>hp.mem_iff.trans (hmem r)) (by rw [hp.length_eq];omega)⟩
theorem zm4(T:Txt c K mg) : dd_possible_rooms P w K mg base:=by
 obtain⟨f,fd,F,hm⟩:=T.d_possible_rooms;have hb:=F.binds (ps:=["told"]) fun _ _ _ _ _ _ us hl=>by obtain⟨_,rfl⟩:=zY hl;rfl
 refine⟨fun ds Q Q' E E' hQ hE h=>?_,⟨f,fd,zi1 T F,hb,F.kp,hm⟩⟩
 obtain⟨a,e,x,h⟩:=h;exact⟨a,e,x,fun W y d z=>hQ _ _ (h W y d z)⟩
theorem znr:FnScope ["waiting", "gone"] ["waiting", "gone"] (ze Zd):=⟨rfl,rfl,rfl,#[3],rfl,#[3],#[3]⟩
theorem zka(T:Txt c K mg){f:Addr}{fd:FuncData}(F:Fun K "is_late" "is_late" Zd f fd):FnOk P w K mg base (CXR P w) 1 f fd ["waiting", "gone"] (spL K Zs):=by
 have S:=znr;refine fn3 F S (fun ds Q E h=>?_) (fun cdv A outer s H E E3 hE hr=>?_)
 . obtain⟨_,_,rfl,_⟩:=h;rfl
 refine⟨_,(zd (zi (zbf (cmp3 jH (zn zH rfl T.n_len zG (za (n3 0) zb)) i3 (nomark _)) (zbf (cmp3 zep (at3 (at3 (n3 0) i3 #[4]) i3 #[4]) non3 (nomark _)) (one3 (cmp3 JF (at3 (at3 (n3 0) i3 #[4]) i3 #[4]) (n3 1) (nomark _))))))),fun ds Q h=>?_⟩
 obtain⟨w,g,rfl,q⟩:=h;cases w with
 | nil=>walk_at "rd WbB";exact q
 | cons v r=>
  obtain⟨c,j,o,l⟩:=v;have hp:(0<((r.length+1:Nat):Int))=True:=eq_true #[0]
  cases l with
  | none=>walk_at "rd Ya1 YaR dW dO hp";exact q
  | some x=>walk_at "rd Ya1 YaR dW dO hp";exact q
theorem zgb(T:Txt c K mg) : dd_is_late P w K mg base:=by
 obtain⟨f,fd,F,hm⟩:=T.d_is_late;have hb:=F.binds (ps:=["waiting", "gone"]) fun _ _ _ _ _ _ us hl=>by obtain⟨_,_,rfl⟩:=jd hl;rfl
 refine⟨fun ds Q Q' E E' hQ hE h=>?_,⟨f,fd,zka T F,hb,F.kp,hm⟩⟩
 obtain⟨a,b,e,h⟩:=h;exact⟨a,b,e,hQ _ _ h⟩
theorem zjv:FnScope ["waiting", "turn", "place", "visit"] ["waiting", "turn"] (ze JP):=⟨rfl,rfl,rfl,#[3],rfl,#[3],#[3]⟩
theorem zjz(T:Txt c K mg){f:Addr}{fd:FuncData}(F:Fun K "place_of_opened" "place_of_opened" JP f fd):FnOk P w K mg base (CXR P w) 1 f fd ["waiting", "turn"] (spL K ZU):=by
 have S:=zjv;refine fn3 F S (fun ds Q E h=>?_) (fun cdv A outer s H E E3 hE hr=>?_)
 . obtain⟨_,_,rfl,_⟩:=h;rfl
 refine⟨_,(zc (zN Wa2 rfl (zdn rfl T.n_enumerate (za (n3 0) zb)) (Jt (n:=2) rfl (zV (zu (i:=2) S.nd rfl #[2]) (zV (zu (i:=3) S.nd rfl #[2]) Jm))) (zd (s_if (zq JF (at3 (n3 3) i3 #[4]) (n3 1) (nomark _)) (zd (zi (n3 2))) zE)))
  (zd (zi non3))),fun ds Q h=>?_⟩
 obtain⟨w,t,rfl,q⟩:=h;refine zm fun N hN=>?_
 walk_at "rd"
 unfold j5;rw [YaR];refine zcu (fun k ρ=>∃ t2 t3,ρ = [some (.sh false (.list (w.map dW))),#[5,t],t2,t3]/\∀ i (hi:i<w.length),i<k->t<w[i].2.2.1) ?_ ?_ ⟨none,none,rfl,fun i hi h=>absurd h #[0]⟩
 . rintro k ρ hk ⟨t2,t3,rfl,hb⟩ W hW
   have e:(w.map dW).getD k .none=dW w[k]:=by rw [YaP,Ya0,YaQ hk];rfl
   rw [e];refine⟨rfl,?_⟩;dsimp only [j7,gnil3,gn3,Jg,nilP];show ifS3 _ _ _ _ [some (.sh false (.list (w.map dW))),#[5,t],#[5,k],some (.sh false (dW w[k]))]
   walk_at "rd dW"
   by_cases ho:w[k].2.2.1<=t
   . rw [if_pos ho]
     rw [zd5 hk hb ho] at q;exact q
   . rw [if_neg ho]
     refine hW _ ⟨_,_,rfl,fun i hi hik=>?_⟩
     by_cases hik':i<k
     . exact hb i hi hik'
     . have:i=k:=#[0]
       subst this;omega
 . rintro ρ ⟨t2,t3,rfl,hb⟩
   refine hN _ ?_
   walk_at "rd"
   rw [zfA fun i hi=>hb i hi hi] at q
   exact q
theorem zkK(T:Txt c K mg) : dd_place_of_opened P w K mg base:=by
 obtain⟨f,fd,F,hm⟩:=T.d_place_of_opened;have hb:=F.binds (ps:=["waiting", "turn"]) fun _ _ _ _ _ _ us hl=>by obtain⟨_,_,rfl⟩:=jd hl;rfl
 refine⟨fun ds Q Q' E E' hQ hE h=>?_,⟨f,fd,zjz T F,hb,F.kp,hm⟩⟩
 obtain⟨a,b,e,h⟩:=h;exact⟨a,b,e,hQ _ _ h⟩
theorem zg5:FnScope ["given", "start", "turn", "visit"] ["given"] (ze J2):=⟨rfl,rfl,rfl,#[3],rfl,#[3],#[3]⟩
theorem ziJ(T:Txt c K mg){f:Addr}{fd:FuncData}(F:Fun K "start_of_crowd" "start_of_crowd" J2 f fd):FnOk P w K mg base (CXR P w) 1 f fd ["given"] (spL K Z2):=by
 have S:=zg5;refine fn3 F S (fun ds Q E h=>?_) (fun cdv A outer s H E E3 hE hr=>?_)
 . obtain⟨_,rfl,_⟩:=h;rfl
 refine⟨_,(zc (zh (i:=1) S.nd rfl #[2] i3)
  (zc (zN Wa2 rfl (zmN rfl T.n_enumerate (za (n3 0) zb)) (Jt (n:=2) rfl (zV (zu (i:=2) S.nd rfl #[2]) (zV (zu (i:=3) S.nd rfl #[2]) Jm))) (zd (s_if (pw3 (jm (zq zbB (at3 (n3 3) i3 #[4]) non3 (nomark _)) (jQ (zq jH (at3 (n3 3) i3 #[4]) (zn zH rfl T.n_len zG (za (n3 0) zb)) (nomark _))))) (zd (zh (i:=1) S.nd rfl #[2] (op3 zZ (n3 2) i3))) zE)))
  (zd (zi (n3 1))))),fun ds Q h=>?_⟩
 obtain⟨g,rfl,q⟩:=h;refine zm fun N hN=>?_
 walk_at "rd"
 refine hN _ ?_
 clear hN N;refine zm fun N hN=>?_
 walk_at "rd"
 unfold JK;rw [YaR];refine zcu (fun k ρ=>∃ a t2 t3,ρ = [some (.sh false (.list (g.map dW))),#[5,a],t2,t3]/\zL g.length (g.drop k) ((k:Int)+1) a=zL g.length g 1 1) ?_ ?_ ⟨1,none,none,rfl,rfl⟩
 . rintro k ρ hk ⟨a,t2,t3,rfl,hs⟩ W hW
   have e:(g.map dW).getD k .none=dW g[k]:=by rw [YaP,Ya0,YaQ hk];rfl
   rw [e];rw [Wah hk] at hs;have hc:((k+1:Nat):Int)=(k:Int)+1:=#[0]
   rw [hc] at hW ⊢;refine⟨rfl,?_⟩;dsimp only [j7,gnil3,gn3,Jg,nilP];show ifS3 _ _ _ _ [some (.sh false (.list (g.map dW))),#[5,a],#[5,((k:Int)+1)],some (.sh false (dW g[k]))];generalize g[k]=v at hs ⊢;obtain⟨c,j,o,l⟩:=v;cases l with
   | none=>
    walk_at "rd dW dO"
    exact hW _ ⟨_,_,_,rfl,hs⟩
   | some x=>
    have hs:zL g.length (g.drop (k+1)) ((k:Int)+1+1) (if(g.length:Int)<x then(k:Int)+1+1 else a)=zL g.length g 1 1:=hs
    walk_at "rd dW dO YaR"
    by_cases hx:(g.length:Int)<x
    . rw [if_pos hx] at hs ⊢
      exact hW _ ⟨_,_,_,rfl,hs⟩
    . rw [if_neg hx] at hs ⊢
      exact hW _ ⟨_,_,_,rfl,hs⟩
 . rintro ρ ⟨a,t2,t3,rfl,hs⟩
   refine hN _ ?_
   walk_at "rd"
   rw [Wa7] at hs;have hs:a=zL g.length g 1 1:=hs;rw [hs];exact q
theorem zjF(T:Txt c K mg) : dd_start_of_crowd P w K mg base:=by
 obtain⟨f,fd,F,hm⟩:=T.d_start_of_crowd;have hb:=F.binds (ps:=["given"]) fun _ _ _ _ _ _ us hl=>by obtain⟨_,rfl⟩:=zY hl;rfl
 refine⟨fun ds Q Q' E E' hQ hE h=>?_,⟨f,fd,ziJ T F,hb,F.kp,hm⟩⟩
 obtain⟨a,e,h⟩:=h;exact⟨a,e,hQ _ _ h⟩
theorem zn1:FnScope ["visit", "turns", "last"] ["visit", "turns"] (ze Za):=⟨rfl,rfl,rfl,#[3],rfl,#[3],#[3]⟩
theorem zjl(T:Txt c K mg){f:Addr}{fd:FuncData}(F:Fun K "pressing" "pressing" Za f fd):FnOk P w K mg base (CXR P w) 1 f fd ["visit", "turns"] (spL K ZN):=by
 have S:=zn1;refine fn3 F S (fun ds Q E h=>?_) (fun cdv A outer s H E E3 hE hr=>?_)
 . obtain⟨_,_,rfl,_⟩:=h;rfl
 refine⟨_,(zc (zh (i:=2) S.nd rfl #[2] (zhp (zq zbB (at3 (n3 0) i3 #[4]) non3 (nomark _)) (op3 zZ (n3 1) i3) (at3 (n3 0) i3 #[4])))
  (zd (zi (zT (za (n3 2) (za (at3 (n3 0) i3 #[4]) (za (at3 (n3 0) i3 #[4]) zb))))))),fun ds Q h=>?_⟩
 obtain⟨⟨c,j,o,l⟩,T,rfl,q⟩:=h;cases l with
 | none=>walk_at "rd dW dO";exact q
 | some x=>walk_at "rd dW dO";exact q
theorem zkU(T:Txt c K mg) : dd_pressing P w K mg base:=by
 obtain⟨f,fd,F,hm⟩:=T.d_pressing;have hb:=F.binds (ps:=["visit", "turns"]) fun _ _ _ _ _ _ us hl=>by obtain⟨_,_,rfl⟩:=jd hl;rfl
 refine⟨fun ds Q Q' E E' hQ hE h=>?_,⟨f,fd,zjl T F,hb,F.kp,hm⟩⟩
 obtain⟨a,b,e,h⟩:=h;exact⟨a,b,e,hQ _ _ h⟩
theorem zlQ:FnScope ["turns", "windows", "waiting", "given", "place"] ["turns", "windows"] (ze jw):=⟨rfl,rfl,rfl,#[3],rfl,#[3],#[3]⟩
theorem zk9(T:Txt c K mg)(hB:BMod mg base)(kb:K.In base)(zor:#[8,dd_is_late])(zoH:#[8,dd_place_of_opened])(zoO:#[8,dd_start_of_crowd])(zoJ:#[8,dd_pressing]){f:Addr}{fd:FuncData}(F:Fun K "deal" "deal" jw f fd)(hcd:fd.code=.ref c.c0):FnOk P w K mg base (CXR P w) 5 f fd ["turns", "windows"] (spU c.tb K ZI):=by
 have S:=zlQ;have hC:=T.hdC base kb;refine fnU (cv:=fun v=>v=.ref c.c0) F hcd S (fun ds Q E h=>?_) (fun cdv A outer s H E E3 hcv tu hE hr=>?_)
 . obtain⟨_,_,rfl,_⟩:=h;rfl
 subst hcv;refine⟨_,(zc (zlc tu rfl rfl (i:=2) (iw:=1) (it:=0) (k:=1) S.nd rfl #[2] rfl #[2] ⟨.of #[3] rfl rfl rfl rfl rfl trivial,#[1],rfl,rfl,rfl,hC,rfl,hB,rfl,rfl,fun _ _ _ _=>rfl⟩ (hr.mono #[1]) (fun f cd' s H' hr=>(df3 (E:=fun _ _ _=>False) (E3:=fun _=>False) (fun _ _ z _=>z) zoJ (hr.mono #[1]) rfl znS (za (n3 0) (za (n3 1) zb)))) rfl T.n_sorted)
  (zc (J1 (i:=3) S.nd rfl #[2] (jx zb))
  (zc (J5 Wa2 (pw3 (zeY (zq jT (zn zH rfl T.n_len zG (za (n3 3) zb)) (n3 0) (nomark _)) (zen (z5 (val3 (df3 hE zor (hr.mono #[1]) rfl zl (za (n3 2) (za (zn zH rfl T.n_len zG (za (n3 3) zb)) zb)))))))) (zc (zh (i:=4) S.nd rfl #[2] (df3 hE zoH (hr.mono #[1]) rfl zl (za (n3 2) (za (op3 zZ (zn zH rfl T.n_len zG (za (n3 3) zb)) i3) zb))))
   (zc (s_if (zq zbB (n3 4) non3 (nomark _)) (zd (zi (zT (za s3 (za (op3 zZ (zn zH rfl T.n_len zG (za (n3 3) zb)) i3) zb))))) zE)
   (zd (zj1 (i:=3) (j:=2) rfl #[2] rfl #[2] (n3 4))))))
  (zc (s_if (val3 (df3 hE zor (hr.mono #[1]) rfl zl (za (n3 2) (za (zn zH rfl T.n_len zG (za (n3 3) zb)) zb)))) (zd (zi (zT (za s3 (za (df3 hE zoO (hr.mono #[1]) rfl zl (za (n3 3) zb)) (za (zn zH rfl T.n_len zG (za (n3 3) zb)) zb)))))) zE)
  (zd (J7 [3] (zi (zT (za s3 (za (new3 (J3 ["visit"] [] [] rfl (jM (osc:=ze jw) #[3]) rfl (zQ (n3 3)) (fun H0 s H fp cl=>⟨(zu (i:=0) (show((["visit"]:List PySem.Str)++([]:List PySem.Str)).Nodup by decide) rfl #[2]),jR,(at3 (n3 0) i3 #[4])⟩))) zb)))))))))),fun ds Q h=>?_⟩
 obtain⟨T,V,rfl,hT0,hT,h64,ok,q⟩:=h;refine zm fun N hN=>?_
 walk_at "rd"
 refine⟨by rw [YaR];exact h64,keyD T,fun d hd=>?_,zjc ok.nd,fun ds' hp hs=>?_⟩
 . obtain⟨v,_,rfl⟩:=Ya7.mp hd
   exact⟨v,rfl,by rw [zaV]⟩
 obtain⟨w0,hp0,rfl⟩:=zjo hp V rfl;have hs0:w0.Pairwise (less T):=by
  rw [WaW] at hs;exact hs.imp fun {a b} h=>(zj2 T a b).mp h
 have d0:Dealt T V w0 []:=Dealt.start hp0 hs0;refine hN _ ?_;clear hN N hp hs;refine zm fun N hN=>?_
 walk_at "rd"
 refine hN _ ?_
 clear hN N;refine jA (fun ρ'=>∃ (wait given:List Win) (f:Bool) (t4:Option L3.Cl),ρ'=[#[5,T],some (.sh false (.list (V.map dW))),some (.ow false (wait.map dW)),some (.ow f (given.map dW)),t4]/\Dealt T V wait given/\(given.length:Int)<=T/\((given.length:Int)<T->jO wait given.length=true)) (fun N hN=>?_) ?_
 . walk_at "rd"
   refine⟨_,Jx (fun n ρ=>∃ (wait given:List Win) (f:Bool) (t4:Option L3.Cl),ρ = [#[5,T],some (.sh false (.list (V.map dW))),some (.ow false (wait.map dW)),some (.ow f (given.map dW)),t4]/\Dealt T V wait given/\(given.length:Int)<=T/\n=(T - given.length).toNat) ?_ _ _ ⟨w0,[],true,none,rfl,d0,by simpa using hT0,rfl⟩⟩
   rintro n ρ ⟨wait,given,f,t4,rfl,dd,hg,rfl⟩ W hW
   walk_at "rd YaR"
   by_cases h1:(given.length:Int)<T
   case neg=>rw [if_neg h1];exact hN _ ⟨wait,given,f,t4,rfl,dd,hg,fun z=>absurd z h1⟩
   rw [if_pos h1];refine⟨wait,rfl,?_⟩;cases hlt:jO wait (given.length:Int) with
   | true=>rw [if_neg #[1]];exact hN _ ⟨wait,given,f,t4,rfl,dd,hg,fun _=>hlt⟩
   | false=>
    rw [if_pos rfl];refine⟨wait,rfl,?_⟩;cases hpl:z7 ((given.length:Int)+1) wait with
    | none=>
     refine⟨rfl,?_⟩
     rw [if_pos rfl];exact q _ (.inl ⟨given.length+1,#[0],#[0],dd.lack hpl,rfl⟩)
    | some p=>
     refine⟨rfl,?_⟩
     rw [if_neg (show ¬(false=true) by decide)]
     obtain⟨v,hv,d'⟩:=dd.step hg hlt hpl;have hpw:p<wait.length:=(Ya8.mp hv).1;have hpl:=dd.perm.length_eq;rw [YaS] at hpl;refine⟨#[1],(p:Int),rfl,#[0],#[0],dW v,by rw [Int.toNat_natCast,Ya0,hv];rfl,YaU (show given.length<1000 by omega) #[1],?_⟩
     rw [Int.toNat_natCast,zeg,show List.map dW given++[dW v]=List.map dW (given++[v]) by rw [Ya2];rfl]
     have hgl:(given++[v]).length=given.length+1:=by rw [YaS];rfl
     exact hW (T - ((given++[v]).length:Nat)).toNat _ (by rw [hgl];omega) ⟨_,_,_,_,rfl,d',by rw [hgl];omega,rfl⟩
 rintro ρ ⟨wait,given,f,t4,rfl,dd,hg,hl⟩
 refine zm fun N hN=>?_
 walk_at "rd YaR"
 refine⟨wait,rfl,?_⟩
 cases hlt:jO wait (given.length:Int) with
 | true=>
  rw [if_pos rfl];refine⟨given,rfl,?_⟩;have:=dd.crowd ok hg hlt;exact q _ (.inr (.inl ⟨_,_,this.1,#[0],this.2,rfl⟩))
 | false=>
  rw [if_neg #[1]]
  have hgT:(given.length:Int)=T:=by
   by_cases z:(given.length:Int)<T
   . have:=hl z;rw [hlt] at this;cases this
   . omega
  refine hN _ ?_
  clear hN N;have hpl:=dd.perm.length_eq;rw [YaS] at hpl
  walk_at "rd YaR"
  refine⟨sz #[0],?_⟩
  refine jE dW (fun v=>PyData.int v.1) (fun ρ=>∃ t,ρ = [t]) given ?_ _ _ _ _ ⟨none,rfl⟩ ?_
  . rintro v hv ρ fa acc K ⟨t,rfl⟩ k
    walk_at "rd dW"
    exact k _ ⟨_,rfl⟩
  . refine q _ (.inr (.inr ⟨given.map (·.1),by rw [YaR];exact hgT,dd.row ok hgT hlt,⟨wait,given,dd,hgT,rfl⟩,by unfold dI;rw [List.nil_append,YaD];rfl⟩))
theorem ziy(T:Txt c K mg)(hB:BMod mg base)(kb:K.In base)(zor:#[8,dd_is_late])(zoH:#[8,dd_place_of_opened])(zoO:#[8,dd_start_of_crowd])(zoJ:#[8,dd_pressing]):dd_deal c P w K mg base:=by
 obtain⟨f,fd,F,hm,hcd⟩:=T.x_deal;have hb:=F.binds (ps:=["turns", "windows"]) fun _ _ _ _ _ _ us hl=>by obtain⟨_,_,rfl⟩:=jd hl;rfl
 refine⟨fun ds Q Q' E E' hQ hE h=>?_,⟨f,fd,zk9 T hB kb zor zoH zoO zoJ F hcd,hb,F.kp,hm⟩⟩
 obtain⟨a,b,e,x1,x2,x3,x4,h⟩:=h;exact⟨a,b,e,x1,x2,x3,x4,fun d z=>hQ _ _ (h d z)⟩
theorem zm7:FnScope ["path", "wanted", "turn"] ["path", "wanted"] (ze JJ):=⟨rfl,rfl,rfl,#[3],rfl,#[3],#[3]⟩
theorem zkW(T:Txt c K mg){f:Addr}{fd:FuncData}(F:Fun K "first_turn" "first_turn" JJ f fd):FnOk P w K mg base (CXR P w) 1 f fd ["path", "wanted"] (spL K Z8):=by
 have S:=zm7;refine fn3 F S (fun ds Q E h=>?_) (fun cdv A outer s H E E3 hE hr=>?_)
 . obtain⟨_,_,rfl,_⟩:=h;rfl
 refine⟨_,(zc (zN Wa2 rfl (zfw rfl T.n_range (za i3 (za (zn zH rfl T.n_len zG (za (n3 0) zb)) zb))) (zu (i:=2) S.nd rfl #[2]) (zd (s_if (zq zeD (at3 (n3 0) (n3 2) #[4]) (n3 1) (nomark _)) (zd (zi (n3 2))) zE)))
  (zd (zi (zn zH rfl T.n_len zG (za (n3 0) zb))))),fun ds Q h=>?_⟩
 obtain⟨path,x,rfl,h61,h1,q⟩:=h
 walk_at "rd"
 rw [YaR];refine⟨#[1],#[1],#[0],#[0],?_⟩
 have e1:((path.length:Int) - 1).toNat=path.length - 1:=#[0]
 rw [e1];refine Jp (lo:=1) (fun k ρ=>∃ t,ρ = [some (.sh false (.list (path.map .int))),#[5,x],t]/\∀ i,1<=i->i<1+k->¬x<=path.getD i 0) ?_ ?_ ⟨none,rfl,fun i h1 h2=>absurd h2 #[0]⟩
 . rintro k ρ hk ⟨t,rfl,hno⟩ W hW
   have hg:=ZC (xs:=path) (i:=1+(k:Int)) #[0] #[0]
   rw [show(1+(k:Int)).toNat=1+k by omega] at hg
   walk_at "rd hg"
   by_cases h:x<=path.getD (1+k) 0
   . rw [if_pos h]
     have:zx path.length (fun t=>decide (x<=path.getD t 0))=1+k:=zem h1 #[0] #[0] (fun t a b=>decide_eq_false (hno t a b)) fun _=>decide_eq_true h
     rw [this] at q;have e:((1+k:Nat):Int)=1+(k:Int):=#[0]
     rw [e] at q;exact q
   . rw [if_neg h]
     refine hW _ ⟨_,rfl,fun i a b=>?_⟩
     by_cases e:i=1+k
     . rw [e];exact h
     . exact hno i a #[0]
 . rintro ρ ⟨t,rfl,hno⟩
   walk_at "rd"
   rw [YaR];have:zx path.length (fun t=>decide (x<=path.getD t 0))=path.length:=zem h1 h1 (YaY _) (fun t a b=>decide_eq_false (hno t a #[0])) fun z=>absurd z #[0]
   rw [this] at q;exact q
theorem zkl(T:Txt c K mg) : dd_first_turn P w K mg base:=by
 obtain⟨f,fd,F,hm⟩:=T.d_first_turn;have hb:=F.binds (ps:=["path", "wanted"]) fun _ _ _ _ _ _ us hl=>by obtain⟨_,_,rfl⟩:=jd hl;rfl
 refine⟨fun ds Q Q' E E' hQ hE h=>?_,⟨f,fd,zkW T F,hb,F.kp,hm⟩⟩
 obtain⟨a,b,e,x,y,h⟩:=h;exact⟨a,b,e,x,y,hQ _ _ h⟩
theorem zm8:FnScope ["bottom", "path", "j", "room", "opens", "last"] ["bottom", "path", "j", "room"] (ze Zc):=⟨rfl,rfl,rfl,#[3],rfl,#[3],#[3]⟩
theorem zga(T:Txt c K mg)(zoq:#[8,dd_first_turn]){f:Addr}{fd:FuncData}(F:Fun K "window_of" "window_of" Zc f fd):FnOk P w K mg base (CXR P w) 2 f fd ["bottom", "path", "j", "room"] (spL K ZA):=by
 have S:=zm8;refine fn3 F S (fun ds Q E h=>?_) (fun cdv A outer s H E E3 hE hr=>?_)
 . obtain⟨_,_,_,_,rfl,_⟩:=h;rfl
 refine⟨_,(zc (zh (i:=4) S.nd rfl #[2] (df3 hE zoq (hr.mono #[1]) rfl zl (za (n3 1) (za (op3 jP (op3 zU (n3 2) (n3 0)) (at3 (n3 3) i3 #[4])) zb))))
  (zc (zh (i:=5) S.nd rfl #[2] (df3 hE zoq (hr.mono #[1]) rfl zl (za (n3 1) (za (op3 zZ (op3 zZ (op3 zU (op3 jP (n3 2) i3) (n3 0)) (at3 (n3 3) i3 #[4])) i3) zb))))
  (zc (s_if (zq (Zk hr.units) (n3 5) (zn zH rfl T.n_len zG (za (n3 1) zb)) (nomark _)) (zd (zi (zT (za (n3 4) (za non3 zb))))) zE)
  (zd (zi (zT (za (n3 4) (za (n3 5) zb)))))))),fun ds Q h=>?_⟩
 obtain⟨b,path,j,room,rfl,h61,h1,hb,hj,q⟩:=h;refine zm fun N hN=>?_
 walk_at "rd atI0 atI1"
 refine⟨hj.mulOk hb #[1],path,rfl,h61,h1,hN _ ?_⟩
 clear hN N;refine zm fun N hN=>?_
 walk_at "rd atI0 atI1"
 refine⟨(hj.sub (Bits.lit (x:=1) 64)).mulOk hb #[1],path,rfl,h61,h1,hN _ ?_⟩
 clear hN N;unfold winB winP at q;dsimp only at q;generalize zx path.length (fun t=>decide (j*b - room.2<=path.getD t 0))=f1 at q ⊢
 generalize zx path.length (fun t=>decide ((j - 1)*b+room.1+1<=path.getD t 0))=f2 at q ⊢
 walk_at "rd YaR"
 by_cases h:f2=path.length
 . rw [if_pos (by rw [h])]
   rw [if_pos h] at q;exact q
 . rw [if_neg (fun z=>h #[0])]
   rw [if_neg h] at q;exact q
theorem zhi(T:Txt c K mg)(zoq:#[8,dd_first_turn]):dd_window_of P w K mg base:=by
 obtain⟨f,fd,F,hm⟩:=T.d_window_of;have hb:=F.binds (ps:=["bottom", "path", "j", "room"]) fun _ _ _ _ _ _ us hl=>by obtain⟨_,_,_,_,rfl⟩:=zmY hl;rfl
 refine⟨fun ds Q Q' E E' hQ hE h=>?_,⟨f,fd,zga T zoq F,hb,F.kp,hm⟩⟩
 obtain⟨a,b,d,n,e,x1,x2,x3,x4,h⟩:=h;exact⟨a,b,d,n,e,x1,x2,x3,x4,hQ _ _ h⟩
theorem zjU:FnScope ["told", "clan", "room", "path", "found", "j", "window"] ["told", "clan", "room"] (ze Jk):=⟨rfl,rfl,rfl,#[3],rfl,#[3],#[3]⟩
theorem zn6(T:Txt c K mg)(zoP:#[8,dd_window_of]){f:Addr}{fd:FuncData}(F:Fun K "windows_of_clan" "windows_of_clan" Jk f fd):FnOk P w K mg base (CXR P w) 3 f fd ["told", "clan", "room"] (spL K ZH):=by
 have S:=zjU;refine fn3 F S (fun ds Q E h=>?_) (fun cdv A outer s H E E3 hE hr=>?_)
 . obtain⟨_,_,_,_,_,rfl,_⟩:=h;rfl
 refine⟨_,(zc (zba (i:=3) S.nd rfl #[2] ["latest"] ["clan"] [1] rfl (jM (osc:=ze Jk) #[3]) rfl (zQ (at3 (n3 0) i3 #[4])) (fun H0 s H fp cl=>⟨(zu (i:=0) (show((["latest"]:List PySem.Str)++(["clan"]:List PySem.Str)).Nodup by decide) rfl #[2]),jR,(at3 (n3 0) (n3 1) #[4])⟩))
  (zc (J1 (i:=4) S.nd rfl #[2] (jx zb))
  (zc (zh (i:=5) S.nd rfl #[2] i3)
  (zc (zh (i:=6) S.nd rfl #[2] (df3 hE zoP (hr.mono #[1]) rfl zl (za (at3 (n3 0) i3 #[4]) (za (n3 3) (za (n3 5) (za (n3 2) zb))))))
  (zc (J5 Wa2 (pw3 (jm (zq jT (at3 (n3 6) i3 #[4]) (zn zH rfl T.n_len zG (za (n3 3) zb)) (nomark _)) (jQ (zq zep (at3 (n3 6) i3 #[4]) non3 (nomark _))))) (zc (zaD (i:=4) rfl #[2] (zT (za (n3 1) (za (n3 5) (za (at3 (n3 6) i3 #[4]) (za (at3 (n3 6) i3 #[4]) zb))))))
   (zc (zhI (i:=5) S.nd rfl #[2] i3)
   (zd (zh (i:=6) S.nd rfl #[2] (df3 hE zoP (hr.mono #[1]) rfl zl (za (at3 (n3 0) i3 #[4]) (za (n3 3) (za (n3 5) (za (n3 2) zb))))))))))
  (zd (J7 [4] (zi (n3 4))))))))),fun ds Q h=>?_⟩
 obtain⟨b,qs,k,room,n,rfl,hb0,hb,hk,h61,h1,hqn,hbd,hr0,hr1,hr80,q⟩:=h;refine zm fun N hN=>?_
 walk_at "rd atI0 atI1"
 refine⟨sz (by rw [YaR];omega),?_⟩
 refine jE dI (fun r=>PyData.int (r.getD k 0)) (fun ρ=>∃ t,ρ = [t,#[5,k]]) qs ?_ _ _ _ _ ⟨none,rfl⟩ ?_
 . rintro r hr ρ fa acc K ⟨t,rfl⟩ kk
   have hg:=ZC (xs:=r) (i:=(k:Int)) #[0] (by rw [hqn r hr];omega)
   rw [Int.toNat_natCast] at hg
   walk_at "rd hg"
   exact kk _ ⟨_,rfl⟩
 have hcol:[]++qs.map (fun r=>PyData.int (r.getD k 0))=(zf qs k).map PyData.int:=by unfold zf;rw [List.nil_append,YaD];rfl
 rw [hcol];refine hN _ ?_;clear hN N;have hcl:(zf qs k).length=qs.length:=by unfold zf;rw [YaR]
 have hcb:∀ t,(zf qs k).getD t 0+room.2<=80*b:=fun t=>by
  unfold zf;rw [YaP,Ya0];cases ht:qs[t]? with
  | none=>
   show 0+room.2<=80*b
   omega
  | some r=>exact hbd r (Yah ht)
 have hM:∀ j,jl qs.length (winB b (zf qs k) room j)->j<=81:=fun j h=>zbY (M:=80) hb0 #[0] hcb hr1 hr0 j (by rw [hcl];exact h)
 refine zm fun N hN=>?_
 walk_at "rd"
 refine hN _ ?_
 clear hN N;refine zm fun N hN=>?_
 walk_at "rd"
 refine hN _ ?_
 clear hN N;refine zm fun N hN=>?_
 walk_at "rd atI0 atI1"
 refine⟨zf qs k,rfl,room,rfl,rfl,#[0],#[0],hb,Bits.lit (x:=1) 64,hN _ ?_⟩
 clear hN N
 walk_at "rd"
 refine⟨_,Jx (fun m ρ=>∃ (ws:List Win) (j:Int),ρ = [some (.sh false (.tuple [.int b,.list (qs.map dI)])),#[5,k],some (.sh false (.tuple [.int room.1,.int room.2])),some (.sh true (.list ((zf qs k).map .int))),some (.ow true (ws.map dW)),#[5,j],some (.sh true (.tuple [.int (winB b (zf qs k) room j).1,dO (winB b (zf qs k) room j).2]))]/\1<=j/\j<=82/\(ws.length:Int)=j - 1/\(∀ us,IsW qs.length k (winB b (zf qs k) room) j us->IsW qs.length k (winB b (zf qs k) room) 1 (ws++us))/\m=(82 - j).toNat) ?_ _ _ ⟨[],1,rfl,#[1],#[1],rfl,fun us h=>h,rfl⟩⟩
 rintro m ρ ⟨ws,j,rfl,hj1,hj2,hlen,hpre,rfl⟩ W hW
 have step:jl qs.length (winB b (zf qs k) room j)->W [some (.sh false (.tuple [.int b,.list (qs.map dI)])),#[5,k],some (.sh false (.tuple [.int room.1,.int room.2])),some (.sh true (.list ((zf qs k).map .int))),some (.ow true (ws.map dW++[.tuple [.int k,.int j,.int (winB b (zf qs k) room j).1,dO (winB b (zf qs k) room j).2]])),#[5,j+1],some (.sh true (.tuple [.int (winB b (zf qs k) room (j+1)).1,dO (winB b (zf qs k) room (j+1)).2]))]:=fun ht=>by
  have hj:=hM j ht;refine hW (82 - (j+1)).toNat _ #[0] ⟨ws++[((k:Int),j,(winB b (zf qs k) room j).1,(winB b (zf qs k) room j).2)],j+1,by rw [Ya2];rfl,#[0],#[0],by rw [YaS];simp;omega,fun us h=>?_,rfl⟩
  have:=hpre (((k:Int),j,(winB b (zf qs k) room j).1,(winB b (zf qs k) room j).2)::us) ⟨ht,rfl,h⟩
  simpa using this
 have hsz:(List.map dW ws).length<sizeLine:=YaU (show _<1000 by rw [YaR];omega) #[1]
 have hbj:Bits 64 (j+1):=Bits.lit (x:=j+1) 64 #[0]
 refine zho fun Y N hY hN=>?_
 have yes:jl qs.length (winB b (zf qs k) room j)->Y:=fun ht=>hY (by
  walk_at "rd atI0 atI1"
  exact⟨hsz,_,rfl,room,rfl,rfl,#[0],#[0],hb,hbj,step ht⟩)
 have no:¬jl qs.length (winB b (zf qs k) room j)->N:=fun hn=>hN (by
  have:=hpre [] hn;rw [Yao] at this
  walk_at "rd"
  exact q ws this #[0])
 walk_at "rd atI0 atI1"
 rw [YaR,hcl]
 by_cases ho:(winB b (zf qs k) room j).1<(qs.length:Int)
 . rw [if_pos ho]
   exact yes (.inl ho)
 . rw [if_neg ho]
   change if isNone (Cl.sh true (dO (winB b (zf qs k) room j).2))=false then _ else _
   rw [zgt]
   by_cases hs:(winB b (zf qs k) room j).2=none
   . rw [if_neg (by rw [hs];decide)]
     exact no fun z=>z.elim ho fun y=>y hs
   . rw [if_pos (by cases h:(winB b (zf qs k) room j).2 with|none=>exact absurd h hs|some i=>rfl)]
     exact yes (.inr hs)
theorem zkx(T:Txt c K mg)(zoP:#[8,dd_window_of]):dd_windows_of_clan P w K mg base:=by
 obtain⟨f,fd,F,hm⟩:=T.d_windows_of_clan;have hb:=F.binds (ps:=["told", "clan", "room"]) fun _ _ _ _ _ _ us hl=>by obtain⟨_,_,_,rfl⟩:=zbV hl;rfl
 refine⟨fun ds Q Q' E E' hQ hE h=>?_,⟨f,fd,zn6 T zoP F,hb,F.kp,hm⟩⟩
 obtain⟨a,b,d,n,m,e,x1,x2,x3,x4,x5,x6,x7,x8,x9,x10,h⟩:=h;exact⟨a,b,d,n,m,e,x1,x2,x3,x4,x5,x6,x7,x8,x9,x10,fun w y z=>hQ _ _ (h w y z)⟩
theorem zhc:FnScope ["told", "rooms", "found", "clan", "room"] ["told", "rooms"] (ze J6):=⟨rfl,rfl,rfl,#[3],rfl,#[3],#[3]⟩
theorem ziO(T:Txt c K mg)(zoQ:#[8,dd_windows_of_clan]){f:Addr}{fd:FuncData}(F:Fun K "windows_within" "windows_within" J6 f fd):FnOk P w K mg base (CXR P w) 4 f fd ["told", "rooms"] (spL K ZP):=by
 have S:=zhc;refine fn3 F S (fun ds Q E h=>?_) (fun cdv A outer s H E E3 hE hr=>?_)
 . obtain⟨_,_,_,_,rfl,_⟩:=h;rfl
 refine⟨_,(zc (J1 (i:=2) S.nd rfl #[2] (jx zb))
  (zc (zN Wa2 rfl (zdn rfl T.n_enumerate (za (n3 1) zb)) (Jt (n:=2) rfl (zV (zu (i:=3) S.nd rfl #[2]) (zV (zu (i:=4) S.nd rfl #[2]) Jm))) (zd (zlH (i:=2) rfl #[2] (df3 hE zoQ (hr.mono #[1]) rfl zl (za (n3 0) (za (n3 3) (za (n3 4) zb)))))))
  (zd (J7 [2] (zi (n3 2)))))),fun ds Q h=>?_⟩
 obtain⟨b,qs,rooms,n,rfl,hb0,hb,hrl,hn8,h61,h1,hqn,hq60,hrm,q⟩:=h
 walk_at "rd"
 have he:j5 (rooms.map dRoom)=(List.range n).map fun i=>PyData.tuple [PyData.int (i:Nat),dRoom (rooms.getD i (0,0))]:=by
  unfold j5;rw [YaR,hrl]
  apply Yat
  intro i hi;have:=Yba.mp hi;rw [YaP,Ya0,YaP,YaQ #[0]];rfl
 rw [he];refine zcu (fun k ρ=>∃ (W:List (List Win)) (t u:Option L3.Cl),ρ = [some (.sh false (.tuple [.int b,.list (qs.map dI)])),some (.sh false (.list (rooms.map dRoom))),some (.ow true (W.flatten.map dW)),t,u]/\W.length=k/\(∀ i,i<k->IsW qs.length i (winB b (zf qs i) (rooms.getD i (0,0))) 1 (W.getD i []))/\W.flatten.length<=200*k) ?_ ?_ ⟨[],none,none,rfl,rfl,fun i h=>absurd h #[0],by simp⟩
 . rintro k ρ hk ⟨W,t,u,rfl,hWl,hWi,hWf⟩ W' hW'
   have hrk:=hrm (rooms.getD k (0,0)) (by rw [YaP,YaQ #[0]];exact Ya4 _)
   have hbd:∀ r∈qs,r.getD k 0+(rooms.getD k (0,0)).2<=80*b:=fun r hr=>by
    have h1:=hq60 r hr (r.getD k 0) (by
     rw [YaP,YaQ (by rw [hqn r hr];exact hk)];exact Ya4 _)
    omega
   walk_at "rd"
   refine⟨qs,rfl,k,rfl,rooms.getD k (0,0),rfl,rfl,hb0,hb,n,hk,h61,h1,hqn,hbd,hrk.1,hrk.2.1,#[0],fun ws hws hwl=>⟨sz (by rw [YaR,YaR];omega),?_⟩⟩
   have ef:(W++[ws]).flatten=W.flatten++ws:=by rw [List.flatten_append];simp
   rw [<-Ya2,<-ef];refine hW' _ ⟨W++[ws],_,_,rfl,by simp [hWl],fun i hi=>?_,by rw [ef,YaS];omega⟩
   by_cases e:i=k
   . subst e
     have g1:(W++[ws]).getD i []=ws:=by rw [<-hWl];simp
     rw [g1];exact hws
   . have g2:(W++[ws]).getD i []=W.getD i []:=by
      have hlt:i<W.length:=#[0]
      simp [Yab hlt]
     rw [g2];exact hWi i #[0]
 . rintro ρ ⟨W,t,u,rfl,hWl,hWi,hWf⟩
   walk_at "rd"
   exact q W hWl hWi #[0]
theorem zhx(T:Txt c K mg)(zoQ:#[8,dd_windows_of_clan]):dd_windows_within P w K mg base:=by
 obtain⟨f,fd,F,hm⟩:=T.d_windows_within;have hb:=F.binds (ps:=["told", "rooms"]) fun _ _ _ _ _ _ us hl=>by obtain⟨_,_,rfl⟩:=jd hl;rfl
 refine⟨fun ds Q Q' E E' hQ hE h=>?_,⟨f,fd,ziO T zoQ F,hb,F.kp,hm⟩⟩
 obtain⟨a,b,d,n,e,x1,x2,x3,x4,x5,x6,x7,x8,x9,h⟩:=h;exact⟨a,b,d,n,e,x1,x2,x3,x4,x5,x6,x7,x8,x9,fun w x y z=>hQ _ _ (h w x y z)⟩
theorem zll:FnScope ["told", "room", "by_turn", "rooms"] ["told", "room"] (ze Ju):=⟨rfl,rfl,rfl,#[3],rfl,#[3],#[3]⟩
theorem zlJ(T:Txt c K mg)(zon:#[8,dd_deal c])(zoR:#[8,dd_windows_within]){f:Addr}{fd:FuncData}(F:Fun K "dealt_within" "dealt_within" Ju f fd):FnOk P w K mg base (CXR P w) 6 f fd ["told", "room"] (spU c.tb K Zq):=by
 have S:=zll;refine fnU (cv:=fun v=>True) F trivial S (fun ds Q E h=>?_) (fun cdv A outer s H E E3 hcv tu hE hr=>?_)
 . obtain⟨_,_,rfl,_⟩:=h;rfl
 refine⟨_,(zc (zh (i:=2) S.nd rfl #[2] (at3 (n3 0) i3 #[4]))
  (zc (zba (i:=3) S.nd rfl #[2] ["quota"] ["room"] [1] rfl (jM (osc:=ze Ju) #[3]) rfl (zQ (at3 (n3 2) i3 #[4])) (fun H0 s H fp cl=>⟨(zu (i:=0) (show((["quota"]:List PySem.Str)++(["room"]:List PySem.Str)).Nodup by decide) rfl #[2]),jR,(zT (za (n3 1) (za (n3 1) zb)))⟩))
  (zd (zi (dfU tu hE zon (hr.mono #[1]) rfl zl (za (op3 jP (zn zH rfl T.n_len zG (za (n3 2) zb)) i3) (za (df3 hE zoR (hr.mono #[1]) rfl zl (za (n3 0) (za (n3 3) zb))) zb))))))),fun ds Q h=>?_⟩
 obtain⟨l,room,rfl,hok,h0,hb,q⟩:=h;have hm:=zau hok;have hbp:=zR hok;have hql:=jZ hok;have htn:=jc fun s hs=>(hok.2.1 s hs).1
 have h60:=hok.2.2;have hqr:∀ r∈quo l,r.length=many l:=fun r hr=>Zg hok (b:=bot l) hr
 have hb2:Bits 2000 (bot l):=(zar hok).mono #[1]
 have hd0:atI ((quo l).map dI) 0=some (PyData.list (((quo l)[0]'(by omega)).map PyData.int)):=zcq (i:=0) #[0]
 have h0n:((quo l)[0]'(by omega)).length=many l:=hqr _ (Ya4 _)
 refine zm fun N hN=>?_
 walk_at "rd atI1"
 refine hN _ ?_
 clear hN N;refine zm fun N hN=>?_
 walk_at "rd hd0"
 rw [YaR];refine⟨sz #[0],?_⟩
 refine jE PyData.int (fun _=>dRoom (room,room)) (fun ρ=>∃ t,ρ = [t,#[5,room]]) ((quo l)[0]'(by omega)) ?_ _ _ _ _ ⟨none,rfl⟩ ?_
 . rintro w hw ρ fa acc K ⟨t,rfl⟩ k
   walk_at "rd"
   exact k _ ⟨_,rfl⟩
 have hrm:[]++((quo l)[0]'(by omega)).map (fun _=>dRoom (room,room))=(zA (bot l) (bsR l room)).map dRoom:=by
  rw [zaP hbp,List.nil_append,Wbl,Yaz,h0n]
 rw [hrm];refine hN _ ?_;clear hN N;have hrl:(zA (bot l) (bsR l room)).length=many l:=by rw [zaP hbp,Ybb]
 have ht:((quo l).length:Int) - 1=tot l:=#[0]
 obtain⟨hB,ho⟩:=zfn hok h0 hb
 walk_at "rd YaR"
 rw [ht];refine⟨quo l,rfl,zA (bot l) (bsR l room),rfl,hbp,hb2,#[0],#[0],#[0],fun r hr=>by rw [hrl];exact hqr r hr,fun r hr x hx=>?_,fun p hp=>?_,fun W w1 w2 w3=>?_⟩
 . have h1:=zbQ hok hbp r hr x hx
   have h2:tot l*bot l<=60*bot l:=Ybe h60 #[0]
   omega
 . rw [zaP hbp] at hp
   rw [Wan hp];exact⟨h0,h0,by show room<=20*bot l;omega⟩
 . have hW:IsWs l (bsR l room) W:=⟨by rw [<-hrl];exact w1,fun k hk=>w2 k (by rw [hrl];exact hk)⟩
   exact⟨W.flatten,rfl,htn,#[0],hW.small hok hB ho,zaK hok hW,fun d hd=>q W hW d hd⟩
theorem zj7(T:Txt c K mg)(zon:#[8,dd_deal c])(zoR:#[8,dd_windows_within]):dd_dealt_within c P w K mg base:=by
 obtain⟨f,fd,F,hm⟩:=T.d_dealt_within;have hb:=F.binds (ps:=["told", "room"]) fun _ _ _ _ _ _ us hl=>by obtain⟨_,_,rfl⟩:=jd hl;rfl
 refine⟨fun ds Q Q' E E' hQ hE h=>?_,⟨f,fd,zlJ T zon zoR F,hb,F.kp,hm⟩⟩
 obtain⟨a,b,e,x1,x2,x3,h⟩:=h;exact⟨a,b,e,x1,x2,x3,fun W y d z=>hQ _ _ (h W y d z)⟩
theorem zmW:FnScope ["told", "rooms", "low", "high", "middle"] ["told"] (ze Jz):=⟨rfl,rfl,rfl,#[3],rfl,#[3],#[3]⟩
theorem zny(T:Txt c K mg)(zoI:#[8,dd_possible_rooms])(zoo:#[8,dd_dealt_within c]){f:Addr}{fd:FuncData}(F:Fun K "least_room" "least_room" Jz f fd):FnOk P w K mg base (CXR P w) 7 f fd ["told"] (spU c.tb K ZK):=by
 have S:=zmW;refine fnU (cv:=fun v=>True) F trivial S (fun ds Q E h=>?_) (fun cdv A outer s H E E3 hcv tu hE hr=>?_)
 . obtain⟨_,rfl,_⟩:=h;rfl
 refine⟨_,(zc (zh (i:=1) S.nd rfl #[2] (df3 hE zoI (hr.mono #[1]) rfl zl (za (n3 0) zb)))
  (zc (zh (i:=2) S.nd rfl #[2] i3)
  (zc (zh (i:=3) S.nd rfl #[2] (op3 jP (zn zH rfl T.n_len zG (za (n3 1) zb)) i3))
  (zc (J5 Wa2 (zq jT (n3 2) (n3 3) (nomark _)) (zc (zh (i:=4) S.nd rfl #[2] (op3 zW (op3 zZ (n3 2) (n3 3)) i3))
   (zd (s_if (zq (Zk hr.units) (at3 (dfU tu hE zoo (hr.mono #[1]) rfl zl (za (n3 0) (za (at3 (n3 1) (n3 4) #[4]) zb))) i3 #[4]) s3 (nomark _)) (zd (zh (i:=3) S.nd rfl #[2] (n3 4))) (zd (zh (i:=2) S.nd rfl #[2] (op3 zZ (n3 4) i3)))))))
  (zd (zi (at3 (n3 1) (n3 2) #[4]))))))),fun ds Q h=>?_⟩
 obtain⟨l,rfl,hok,q⟩:=h;refine zm fun N hN=>?_
 walk_at "rd"
 refine⟨l,rfl,rfl,hok,fun ns hs hm hl=>hN _ ?_⟩
 clear hN N;refine zm fun N hN=>?_
 walk_at "rd"
 refine hN _ ?_
 clear hN N;refine zm fun N hN=>?_
 walk_at "rd YaR"
 refine hN _ ?_
 clear hN N;obtain⟨hne,hlast⟩:=zjy hok hs hm;have hat:∀ i:Int,0<=i->i<ns.length->atI (ns.map PyData.int) i=some (.int (ns.getD i.toNat 0)):=fun i h0 h1=>ZC h0 h1
 have hg:∀ i:Nat,i<ns.length->posR l (ns.getD i 0):=fun i hi=>(hm _).mp (by rw [YaP,YaQ hi];exact Ya4 hi)
 walk_at "rd"
 refine⟨_,Jx (fun m ρ=>∃ (low high:Nat) (t4:Option L3.Cl),ρ = [some (.sh false (dT l)),some (.sh true (dI ns)),#[5,(low:Int)],#[5,(high:Int)],t4]/\low<=high/\high<ns.length/\OkR l (ns.getD high 0)/\(∀ j,j<low->¬OkR l (ns.getD j 0))/\m=high - low) ?_ _ _ ⟨0,ns.length - 1,none,?_,#[0],#[0],hlast,fun j h=>absurd h #[0],rfl⟩⟩
 . rintro m ρ ⟨low,high,t4,rfl,h1,h2,hoh,hno,rfl⟩ W hW
   walk_at "rd"
   by_cases hlh:(low:Int)<(high:Int)
   case neg=>
    rw [if_neg hlh];have e:low=high:=#[0]
    subst e;have ha:=hat low #[0] #[0]
    rw [Int.toNat_natCast] at ha
    walk_at "rd ha"
    exact q _ (zk0 hok hs hm h2 hoh hno)
   rw [if_pos hlh];obtain⟨mid,hmid,m1,m2⟩:∃ mid:Nat,((low:Int)+(high:Int))/2=(mid:Int)/\low<=mid/\mid<high:=⟨(((low:Int)+(high:Int))/2).toNat,#[0],#[0],#[0]⟩
   have ha:=hat mid #[0] #[0]
   rw [Int.toNat_natCast] at ha;obtain⟨p1,p2⟩:=zfr hok (hg mid #[0])
   rw [hmid]
   walk_at "rd ha"
   refine⟨divP,l,rfl,rfl,hok,p1,#[0],fun W' hW' d hd=>?_⟩
   have row:OkR l (ns.getD mid 0)->W [some (.sh false (dT l)),some (.sh true (dI ns)),#[5,(low:Int)],#[5,(mid:Int)],#[5,(mid:Int)]]:=fun h=>hW (mid - low) _ #[0] ⟨low,mid,_,rfl,m1,#[0],h,hno,rfl⟩
   have none:¬OkR l (ns.getD mid 0)->W [some (.sh false (dT l)),some (.sh true (dI ns)),#[5,((mid:Int)+1)],#[5,(high:Int)],#[5,(mid:Int)]]:=fun h=>hW (high - (mid+1)) _ #[0] ⟨mid+1,high,_,by rw [show((mid:Int)+1)=((mid+1:Nat):Int) by omega],#[0],h2,hoh,fun j hj=>by
    intro hj2;exact h (zeW (zb5 hs (show j<=mid by omega) #[0]) hj2),rfl⟩
   rcases hd with hd|hd|hd
   . have hn:=none (zbh hok p1 #[0] hW' (.inl hd))
     obtain⟨t,_,_,_,rfl⟩:=hd;refine⟨_,rfl,trivial,?_⟩;have go:∀ P R:Prop,R->(if decide ((Str.ofString "lack")=Str.ofString "row")=true then P else R):=fun P R h=>by rw [if_neg #[3]];exact h
     exact go _ _ hn
   . have hn:=none (zbh hok p1 #[0] hW' (.inr hd))
     obtain⟨a,b,_,_,_,rfl⟩:=hd;refine⟨_,rfl,trivial,?_⟩;have go:∀ P R:Prop,R->(if decide ((Str.ofString "crowd")=Str.ofString "row")=true then P else R):=fun P R h=>by rw [if_neg #[3]];exact h
     exact go _ _ hn
   . have hr:=row (ze1 hok p1 #[0] hW' hd)
     obtain⟨rr,_,_,_,rfl⟩:=hd;refine⟨_,rfl,trivial,?_⟩;have go:∀ P R:Prop,P->(if decide ((Str.ofString "row")=Str.ofString "row")=true then P else R):=fun P R h=>by rw [if_pos #[3]];exact h
     exact go _ _ hr
 . rw [show((ns.length:Int) - 1)=((ns.length - 1:Nat):Int) by omega]
   rfl
theorem ziq(T:Txt c K mg)(zoI:#[8,dd_possible_rooms])(zoo:#[8,dd_dealt_within c]):dd_least_room c P w K mg base:=by
 obtain⟨f,fd,F,hm⟩:=T.d_least_room;have hb:=F.binds (ps:=["told"]) fun _ _ _ _ _ _ us hl=>by obtain⟨_,rfl⟩:=zY hl;rfl
 refine⟨fun ds Q Q' E E' hQ hE h=>?_,⟨f,fd,zny T zoI zoo F,hb,F.kp,hm⟩⟩
 obtain⟨a,e,x,h⟩:=h;exact⟨a,e,x,fun r y=>hQ _ _ (h r y)⟩
theorem zie:FnScope ["value"] ["value"] (ze Zn):=⟨rfl,rfl,rfl,#[3],rfl,#[3],#[3]⟩
theorem zm2(T:Txt c K mg){f:Addr}{fd:FuncData}(F:Fun K "is_whole" "is_whole" Zn f fd):FnOk P w K mg base (CXR P w) 1 f fd ["value"] (spL K Zb):=by
 have S:=zie;refine fn3 F S (fun ds Q E h=>?_) (fun cdv A outer s H E E3 hE hr=>?_)
 . obtain⟨_,rfl,_⟩:=h;rfl
 refine⟨_,(zd (zi (zbf (JC rfl T.n_isinstance rfl rfl T.n_int zfJ (n3 0)) (one3 (zdX (JC rfl T.n_isinstance rfl rfl T.n_bool zfb (n3 0))))))),fun ds Q h=>?_⟩
 obtain⟨a,rfl,q⟩:=h
 walk_at "rd"
 exact⟨false,if_neg #[1],q⟩
theorem zmZ(T:Txt c K mg) : dd_is_whole P w K mg base:=by
 obtain⟨f,fd,F,hm⟩:=T.d_is_whole;have hb:=F.binds (ps:=["value"]) fun _ _ _ _ _ _ us hl=>by obtain⟨_,rfl⟩:=zY hl;rfl
 refine⟨fun ds Q Q' E E' hQ hE h=>?_,⟨f,fd,zm2 T F,hb,F.kp,hm⟩⟩
 first|(obtain⟨a0,e,h⟩:=h;exact⟨a0,e,hQ _ h⟩)|(unfold Zb at *;grind)
theorem zma:FnScope ["top", "bottom", "divisor"] ["top", "bottom"] (ze Zl):=⟨rfl,rfl,rfl,#[3],rfl,#[3],#[3]⟩
theorem ziB(T:Txt c K mg)(zom:#[8,dd_common_divisor])(zos:#[8,dd_is_whole]){f:Addr}{fd:FuncData}(F:Fun K "ratio" "ratio" Zl f fd):FnOk P w K mg base (CXR P w) 2 f fd ["top", "bottom"] (spL K Z0):=by
 have S:=zma;refine fn3 F S (fun ds Q E h=>?_) (fun cdv A outer s H E E3 hE hr=>?_)
 . obtain⟨_,_,rfl,_⟩:=h;rfl
 refine⟨_,(zc (s_if (pw3 (jm (z5 (val3 (df3 hE zos (hr.mono #[1]) rfl zl (za (n3 0) zb)))) (jQ (z5 (val3 (df3 hE zos (hr.mono #[1]) rfl zl (za (n3 1) zb))))))) (zd (jz hE jF rfl rfl T.m_NoRatio T.e_NoRatio (za s3 zb))) zE)
  (zc (s_if (zq (Zk hr.units) (n3 1) i3 (nomark _)) (zd (jz hE jF rfl rfl T.m_NoRatio T.e_NoRatio (za s3 zb))) zE)
  (zc (zh (i:=2) S.nd rfl #[2] (df3 hE zom (hr.mono #[1]) rfl zl (za (n3 0) (za (n3 1) zb))))
  (zc (s_if (zq jT (n3 1) i3 (nomark _)) (zd (zh (i:=2) S.nd rfl #[2] (un3 zb8 (n3 2)))) zE)
  (zd (zi (zT (za (op3 zW (n3 0) (n3 2)) (za (op3 zW (n3 1) (n3 2)) zb))))))))),fun ds Q h=>?_⟩
 obtain⟨a,b,rfl,hb,hB,q⟩:=h;refine zm fun N hN=>?_
 walk_at "rd"
 refine hN _ ?_
 clear hN N;refine zm fun N hN=>?_
 walk_at "rd"
 rw [if_neg #[0]]
 refine hN _ ?_
 clear hN N;refine zm fun N hN=>?_
 walk_at "rd"
 refine hN _ ?_
 clear hN N;refine zm fun N hN=>?_
 walk_at "rd"
 rw [if_neg #[0]]
 refine hN _ ?_
 clear hN N
 walk_at "rd"
 exact⟨zbs hb hB,zbs hb hB,q⟩
theorem zg0(T:Txt c K mg)(zom:#[8,dd_common_divisor])(zos:#[8,dd_is_whole]):dd_ratio P w K mg base:=by
 obtain⟨f,fd,F,hm⟩:=T.d_ratio;have hb:=F.binds (ps:=["top", "bottom"]) fun _ _ _ _ _ _ us hl=>by obtain⟨_,_,rfl⟩:=jd hl;rfl
 refine⟨fun ds Q Q' E E' hQ hE h=>?_,⟨f,fd,ziB T zom zos F,hb,F.kp,hm⟩⟩
 obtain⟨a,b,e,z,y,h⟩:=h;exact⟨a,b,e,z,y,hQ _ _ h⟩
theorem ziz:FnScope ["spells", "told", "room", "row", "why"] ["spells"] (ze Zm):=⟨rfl,rfl,rfl,#[3],rfl,#[3],#[3]⟩
theorem zlM(T:Txt c K mg)(zoK:#[8,dd_quotas c])(zoG:#[8,dd_least_room c])(zoo:#[8,dd_dealt_within c])(zoL:#[8,dd_ratio]){f:Addr}{fd:FuncData}(F:Fun K "least" "least" Zm f fd):FnOk P w K mg base (CXR P w) 8 f fd ["spells"] (spU c.tb K (Zw c)):=by
 have S:=ziz;refine fnU (cv:=fun v=>True) F trivial S (fun ds Q E h=>?_) (fun cdv A outer s H E E3 hcv tu hE hr=>?_)
 . obtain⟨_,rfl,_⟩:=h;rfl
 refine⟨_,(zc (zh (i:=1) S.nd rfl #[2] (df3 hE zoK (hr.mono #[1]) rfl zl (za (n3 0) zb)))
  (zc (zh (i:=2) S.nd rfl #[2] (dfU tu hE zoG (hr.mono #[1]) rfl zl (za (n3 1) zb)))
  (zc (zh (i:=3) S.nd rfl #[2] (at3 (dfU tu hE zoo (hr.mono #[1]) rfl zl (za (n3 1) (za (n3 2) zb))) i3 #[4]))
  (zc (zh (i:=4) S.nd rfl #[2] non3)
  (zc (s_if (zq jH (n3 2) i3 (nomark _)) (zd (zh (i:=4) S.nd rfl #[2] (dfU tu hE zoo (hr.mono #[1]) rfl zl (za (n3 1) (za (op3 jP (n3 2) i3) zb))))) zE)
  (zd (zi (zT (za (df3 hE zoL (hr.mono #[1]) rfl zl (za (n3 2) (za (at3 (n3 1) i3 #[4]) zb))) (za (n3 3) (za (n3 4) zb))))))))))),fun ds Q h=>?_⟩
 obtain⟨l,rfl,hE1,q⟩:=h;refine zm fun N hN=>?_
 walk_at "rd"
 refine⟨l,rfl,fun hok=>hN _ ?_,hE1⟩
 clear hN N;have hbp:=zR hok;have hb2:Bits 9000 (bot l):=(zar hok).mono #[1]
 refine zm fun N hN=>?_
 walk_at "rd"
 refine⟨l,rfl,rfl,hok,fun room hle=>hN _ ?_⟩
 clear hN N;obtain⟨r0,r1,r2,r3⟩:=id hle;refine jA (fun ρ'=>∃ row:List Int,ρ'=[some (.sh false (dSs l)),some (.sh true (dT l)),#[5,room],some (.sh true (dI row)),none]/\∀ W,IsWs l (bsR l room) W->rowP (tot l) W.flatten (.tuple [.str "row", dI row])) (fun N hN=>?_) ?_
 . walk_at "rd"
   refine⟨l,rfl,rfl,hok,r0,#[0],fun W hW d hd=>?_⟩
   rcases hd with hd|hd|hd
   . exact absurd r2 (zbh hok r0 #[0] hW (.inl hd))
   . exact absurd r2 (zbh hok r0 #[0] hW (.inr hd))
   . obtain⟨row,hrow⟩:=zmv hd
     subst hrow;exact⟨_,rfl,hN _ ⟨row,rfl,fun W' hW'=>by rw [hW'.uniq hW];exact hd⟩⟩
 rintro ρ ⟨row,rfl,hrow⟩
 refine zm fun N hN=>?_
 walk_at "rd"
 refine hN _ ?_
 clear hN N;refine jA (fun ρ'=>∃ why:D,ρ'=[some (.sh false (dSs l)),some (.sh true (dT l)),#[5,room],some (.sh true (dI row)),some (.sh true why)]/\(room=0->why=.none)/\(0<room->∀ W,IsWs l (bsR l (room - 1)) W->Z5 (tot l) W.flatten why\/zab W.flatten why)) (fun N hN=>?_) ?_
 . walk_at "rd"
   refine ite2 (fun e=>⟨l,rfl,rfl,hok,#[0],#[0],fun W hW d hd=>hN _ ⟨d,rfl,fun z=>by omega,fun _ W' hW'=>?_⟩⟩) fun e=>hN _ ⟨.none,rfl,fun _=>rfl,fun z=>absurd z e⟩
   rw [hW'.uniq hW]
   rcases hd with hd|hd|hd
   . exact .inl hd
   . exact .inr hd
   . exact absurd (ze1 hok #[0] #[0] hW hd) (r3 (room - 1) #[0] #[0])
 rintro ρ ⟨why,rfl,h1,h2⟩
 walk_at "rd"
 exact⟨hbp,hb2,q hok room row why hle hrow h1 h2⟩
theorem zmu(T:Txt c K mg)(zoK:#[8,dd_quotas c])(zoG:#[8,dd_least_room c])(zoo:#[8,dd_dealt_within c])(zoL:#[8,dd_ratio]):dd_least c P w K mg base:=by
 obtain⟨f,fd,F,hm⟩:=T.d_least;have hb:=F.binds (ps:=["spells"]) fun _ _ _ _ _ _ us hl=>by obtain⟨_,rfl⟩:=zY hl;rfl
 refine⟨fun ds Q Q' E E' hQ hE h=>?_,⟨f,fd,zlM T zoK zoG zoo zoL F,hb,F.kp,hm⟩⟩
 obtain⟨a,e,x,h⟩:=h;exact⟨a,e,fun z=>hE _ (x z),fun o r w y a b c d=>hQ _ _ (h o r w y a b c d)⟩
theorem zn4:FnScope ["weights", "turns"] ["weights"] (ze JL):=⟨rfl,rfl,rfl,#[3],rfl,#[3],#[3]⟩
theorem ziH(T:Txt c K mg)(zol:#[8,dd_check_weights c])(zop:#[8,dd_divisor_of_all])(zoE:#[8,dd_least c]){f:Addr}{fd:FuncData}(F:Fun K "round_of" "round_of" JL f fd):FnOk P w K mg base (CXR P w) 9 f fd ["weights"] (spU c.tb K (Zx c)):=by
 have S:=zn4;refine fnU (cv:=fun v=>True) F trivial S (fun ds Q E h=>?_) (fun cdv A outer s H E E3 hcv tu hE hr=>?_)
 . obtain⟨_,rfl,_⟩:=h;rfl
 refine⟨_,(zc (zcx (df3 hE zol (hr.mono #[1]) rfl zl (za (n3 0) zb)))
  (zc (zh (i:=1) S.nd rfl #[2] (op3 zW (zn (jB rfl) rfl T.n_sum jG (za (n3 0) zb)) (df3 hE zop (hr.mono #[1]) rfl zl (za (n3 0) zb))))
  (zc (s_if (zq jH (n3 1) (g3i rfl T.m_MOST_TURNS) (nomark _)) (zd (jz hE jF rfl rfl T.m_TooLong T.e_TooLong (za s3 zb))) zE)
  (zd (zi (ziv (zT (za (n3 1) zb)) (dfU tu hE zoE (hr.mono #[1]) rfl zl (za (new3 (jx (za (zT (za (n3 1) (za (n3 0) zb))) zb))) zb)))))))),fun ds Q h=>?_⟩
 obtain⟨ws,rfl,hw,h60,q⟩:=h;refine zm fun N hN=>?_
 walk_at "rd"
 refine⟨ws,rfl,fun hw=>hN _ ?_,fun z=>absurd hw z⟩
 clear hN N;refine zm fun N hN=>?_
 walk_at "rd"
 refine⟨ws,jg _,ws,rfl,⟨Jf hw,((jX hw).le (by have:=zcG hw;have:=Jf hw;omega)).mono #[1]⟩,hN _ ?_⟩
 clear hN N;have e:ws.sum/gcdL ws=parts ws:=rfl;rw [e];clear e;refine zm fun N hN=>?_
 walk_at "rd"
 refine ite2 (fun h=>absurd h #[0]) fun h=>hN _ ?_
 clear hN N
 walk_at "rd"
 exact⟨[(parts ws,ws)],rfl,fun z=>absurd (Jj hw #[0]) z,fun _ room row why h1 h0 h2 h3=>⟨by simp,by simp,q room row why ⟨h1,h0,h2,h3⟩⟩⟩
theorem zh1(T:Txt c K mg)(zol:#[8,dd_check_weights c])(zop:#[8,dd_divisor_of_all])(zoE:#[8,dd_least c]):dd_round_of c P w K mg base:=by
 obtain⟨f,fd,F,hm⟩:=T.d_round_of;have hb:=F.binds (ps:=["weights"]) fun _ _ _ _ _ _ us hl=>by obtain⟨_,rfl⟩:=zY hl;rfl
 refine⟨fun ds Q Q' E E' hQ hE h=>?_,⟨f,fd,ziH T zol zop zoE F,hb,F.kp,hm⟩⟩
 obtain⟨a,e,x,y,h⟩:=h;exact⟨a,e,x,y,fun r w v z=>hQ _ _ (h r w v z)⟩
theorem zi8:FnScope ["_law_weights_here", "_law_divisor", "_law_one", "_law_rest"] ["_law_weights_here"] (ze JD):=⟨rfl,rfl,rfl,#[3],rfl,#[3],#[3]⟩
theorem zis(T:Txt c K mg){f:Addr}{fd:FuncData}(F:Fun K "_law_period" "_law_period" JD f fd):FnOk P w K mg base (CXR P w) 1 f fd ["_law_weights_here"] (spL K ZV):=by
 have S:=zi8;refine fn3 F S (fun ds Q E h=>?_) (fun cdv A outer s H E E3 hE hr=>?_)
 . obtain⟨_,rfl,_⟩:=h;rfl
 refine⟨_,(zc (zh (i:=1) S.nd rfl #[2] i3)
  (zc (zN Wa2 rfl (zQ (n3 0)) (zu (i:=2) S.nd rfl #[2]) (zc (zh (i:=3) S.nd rfl #[2] (n3 2))
   (zd (J5 Wa2 (zq jH (n3 3) i3 (nomark _)) (zd (zdQ (i:=1) (j:=3) rfl S.nd rfl rfl #[1] rfl rfl (za (n3 3) (za (op3 jh (n3 1) (n3 3)) zb))))))))
  (zd (zi (op3 zW (zn (jB rfl) rfl T.n_sum jG (za (n3 0) zb)) (n3 1)))))),fun ds Q h=>?_⟩
 obtain⟨ws,rfl,hw,q⟩:=h;have hg:=Jf hw;have hgb:Bits 9000 (gcdL ws):=((jX hw).le (by have:=zcG hw;omega)).mono #[1]
 have wb:∀ w∈ws,0<=w/\Bits 900 w:=fun w h=>⟨(hw.2.1 w h).1,(zbn hw h).mono #[1]⟩
 refine zm fun N hN=>?_
 walk_at "rd"
 refine hN _ ?_
 clear hN N;refine jA (fun ρ=>∃ t u,ρ = [some (.sh false (.list (ws.map .int))),#[5,gcdL ws],t,u]) (fun N hN=>?_) ?_
 . walk_at "rd"
   refine j0 PyData.int ws (fun done ρ=>∃ t u,ρ = [some (.sh false (.list (ws.map .int))),#[5,gcdL done],t,u]) ?_ (fun ρ h=>hN ρ h) ⟨none,none,rfl⟩
   rintro done x rest ρ hd ⟨t,u,rfl⟩ W hW
   obtain⟨x0,xb⟩:=wb x (by rw [hd];simp)
   have ed:gcdL (done++[x])=(Int.gcd (gcdL done) x:Int):=by unfold gcdL;rw [WaR];rfl
   have d0:0<=gcdL done:=by
    cases hdd:done.reverse with
    | nil=>rw [List.reverse_eq_nil_iff.mp hdd];exact WbJ 0
    | cons a r=>
     rw [show done=r.reverse++[a] by rw [<-List.reverse_reverse done,hdd];simp]
     unfold gcdL;rw [WaR];exact Int.natCast_nonneg _
   rw [ed] at hW;generalize gcdL done=g0 at d0 hW;simp only [gn3,List.set_cons_zero,List.set_cons_succ,zt,WbG];refine zm fun N hN=>?_
   walk_at "rd"
   refine hN _ ?_
   clear hN N
   walk_at "rd"
   refine⟨_,Jx (fun n ρ=>∃ g l,ρ = [some (.sh false (.list (ws.map .int))),#[5,g],#[5,x],#[5,l]]/\0<=g/\0<=l/\l<=x/\Int.gcd g l=Int.gcd g0 x/\n=l.toNat) ?_ _ _ ⟨_,_,rfl,d0,x0,WbJ x,rfl,rfl⟩⟩
   rintro n ρ ⟨g,l,rfl,hg,hl,hlx,hG,rfl⟩ W' hW'
   walk_at "rd"
   refine ite2 (fun hp=>?_) fun hp=>?_
   . have h1:=Ybc g (show l≠0 by omega)
     have h2:=Ybd g hp;exact⟨hp,hW' (g%l).toNat _ #[0] ⟨l,g%l,rfl,hl,h1,#[0],(zcj hg hp).trans hG,rfl⟩⟩
   . have h0:l=0:=#[0]
     subst h0;rw [<-hG,zbU hg] at hW;exact hW _ ⟨_,_,rfl⟩
 rintro ρ ⟨t,u,rfl⟩
 walk_at "rd"
 exact⟨ws,jg _,⟨hg,hgb⟩,q⟩
theorem zkv(T:Txt c K mg) : dd_law_period P w K mg base:=by
 obtain⟨f,fd,F,hm⟩:=T.d_law_period;have hb:=F.binds (ps:=["_law_weights_here"]) fun _ _ _ _ _ _ us hl=>by obtain⟨_,rfl⟩:=zY hl;rfl
 refine⟨fun ds Q Q' E E' hQ hE h=>?_,⟨f,fd,zis T F,hb,F.kp,hm⟩⟩
 obtain⟨a,e,x,h⟩:=h;exact⟨a,e,x,hQ _ _ h⟩
theorem zlj:FnScope ["_law_spells_here", "_law_bottom", "_law_length", "_law_weights_here", "_law_rows", "_law_turn", "_law_row", "_law_k", "_law_share"] ["_law_spells_here"] (ze Jb):=⟨rfl,rfl,rfl,#[3],rfl,#[3],#[3]⟩
theorem zhn(T:Txt c K mg){f:Addr}{fd:FuncData}(F:Fun K "_law_quotas" "_law_quotas" Jb f fd):FnOk P w K mg base (CXR P w) 1 f fd ["_law_spells_here"] (spL K Zt):=by
 have S:=zlj;refine fn3 F S (fun ds Q E h=>?_) (fun cdv A outer s H E E3 hE hr=>?_)
 . obtain⟨_,rfl,_⟩:=h;rfl
 refine⟨_,(zc (zh (i:=1) S.nd rfl #[2] i3)
  (zc (zN Wa2 rfl (zQ (n3 0)) (Jt (n:=2) rfl (zV (zu (i:=2) S.nd rfl #[2]) (zV (zu (i:=3) S.nd rfl #[2]) Jm))) (zd (zh (i:=1) S.nd rfl #[2] (op3 zU (n3 1) (zn (jB rfl) rfl T.n_sum jG (za (n3 3) zb))))))
  (zc (J1 (i:=4) S.nd rfl #[2] (jx (za (new3 (J3 ["_law_weight"] [] [] rfl (jM (osc:=ze Jb) #[3]) rfl (zQ (at3 (at3 (n3 0) i3 #[4]) i3 #[4])) (fun H0 s H fp cl=>⟨(zu (i:=0) (show((["_law_weight"]:List PySem.Str)++([]:List PySem.Str)).Nodup by decide) rfl #[2]),jR,i3⟩))) zb)))
  (zc (zN Wa2 rfl (zQ (n3 0)) (Jt (n:=2) rfl (zV (zu (i:=2) S.nd rfl #[2]) (zV (zu (i:=3) S.nd rfl #[2]) Jm))) (zd (zN Wa2 rfl (ZZ rfl T.n_range (za (n3 2) zb)) (zu (i:=5) S.nd rfl #[2]) (zc (J1 (i:=6) S.nd rfl #[2] (jx zb))
   (zc (zN Wa2 rfl (ZZ rfl T.n_range (za (zn zH rfl T.n_len zG (za (n3 3) zb)) zb)) (zu (i:=7) S.nd rfl #[2]) (zc (zh (i:=8) S.nd rfl #[2] (op3 zU (at3 (n3 3) (n3 7) #[4]) (op3 zW (n3 1) (zn (jB rfl) rfl T.n_sum jG (za (n3 3) zb)))))
    (zd (zaD (i:=6) rfl #[2] (op3 zZ (at3 (at3 (n3 4) (un3 zb8 i3) #[4]) (n3 7) #[4]) (n3 8))))))
   (zd (J7 [6] (zaD (i:=4) rfl #[2] (n3 6)))))))))
  (zd (J7 [4] (zi (zT (za (n3 1) (za (n3 4) zb)))))))))),fun ds Q h=>?_⟩
 obtain⟨l,rfl,hok,q⟩:=h;have hm:=zgh hok;have hB:=zi5 hok;have hBb:=znO hok;have hl0:l≠[]:=fun z=>by have:=hok.1.1;rw [z] at this;simp at this
 have hd0:atI (l.map dS) 0=some (dS (l.headD (0,[]))):=by
  cases l with
  | nil=>exact absurd rfl hl0
  | cons a r=>exact atI0
 refine zm fun N hN=>?_
 walk_at "rd"
 refine hN _ ?_
 clear hN N;refine jA (fun ρ=>∃ t u,ρ = [some (.sh false (.list (l.map dS))),#[5,zy l],t,u,none,none,none,none,none]) (fun N hN=>?_) ?_
 . walk_at "rd"
   refine j0 dS l (fun done ρ=>∃ t u,ρ = [some (.sh false (.list (l.map dS))),#[5,zy done],t,u,none,none,none,none,none]) ?_ (fun ρ h=>hN ρ h) ⟨none,none,rfl⟩
   rintro done s rest ρ hd ⟨t,u,rfl⟩ W hW
   have hs:s∈l:=by rw [hd];simp
   have hsok:=(hok.2.1 s hs).2.1;have hpd:=zat done 1 1 (fun t ht=>(hok.2.1 t (by rw [hd];exact Yai _ ht)).2.1) #[1] (by unfold Bits;decide)
   have hdl:done.length<=8:=by have:=hok.1.2;rw [hd,YaS] at this;omega
   walk_at "rd"
   refine⟨s.2,jg _,(hpd.2.mono (k:=900) #[0]).mulOk (jX hsok) #[1],?_⟩
   rw [<-zky];exact hW _ ⟨_,_,rfl⟩
 rintro ρ ⟨t,u,rfl⟩
 refine zm fun N hN=>?_
 walk_at "rd hd0 atI1"
 refine⟨sz (by rw [YaR];have:=hm;unfold many at this;omega),?_⟩
 refine jE PyData.int (fun _=>.int 0) (fun ρ=>∃ t,ρ = [t]) (l.headD (0,[])).2 ?_ _ _ _ _ ⟨none,rfl⟩ ?_
 . rintro w hw ρ fa acc K ⟨t,rfl⟩ k
   walk_at "rd"
   exact k _ ⟨_,rfl⟩
 have hz:(l.headD (0,[])).2.map (fun _=>PyData.int 0)=(zeros l).map .int:=by
  unfold zeros many;rw [Yaz,Wbl]
 rw [List.nil_append,hz];refine hN _ ?_;clear hN N
 walk_at "rd"
 have hz0:ji (many l) (zeros l,[zeros l]):=⟨by unfold zeros;simp,fun r hr=>by rw [Ya6.mp hr];unfold zeros;simp⟩
 refine j0 dS l (fun done ρ=>∃ t1 t2 t3 t4 t5 t6 r,ρ = [some (.sh false (.list (l.map dS))),#[5,zy l],t1,t2,some (.ow true ((runQ (zy l) done (zeros l,[zeros l])).2.map dI)),t3,t4,t5,t6]/\ji (many l) (runQ (zy l) done (zeros l,[zeros l]))/\(runQ (zy l) done (zeros l,[zeros l])).2=r++[(runQ (zy l) done (zeros l,[zeros l])).1]/\((runQ (zy l) done (zeros l,[zeros l])).2.length:Int)=1+tot done) ?_ ?_ ⟨_,_,none,none,none,none,[],rfl,hz0,rfl,rfl⟩
 . rintro done s rest ρ hd ⟨t1,t2,t3,t4,t5,t6,r,rfl,hlp,hlast,hlen⟩ W hW
   have hs:s∈l:=by rw [hd];simp
   obtain⟨hs1,hsok,hsn⟩:=hok.2.1 s hs;have hsl:s.2.length=many l:=hsn;have h1t:∀ s∈l,1<=s.1:=fun s hs=>(hok.2.1 s hs).1
   have hdt:tot done+s.1<=200:=by
    have h60:=hok.2.2;have e:tot l=tot done+(s.1+tot rest):=by unfold tot;rw [hd,Ya2,Wbk,Ya1,List.sum_cons]
    have:0<=tot rest:=jc fun s hs=>h1t s (by rw [hd];exact Yaa _ (YaT _ hs))
    omega
   have hdv:s.2.sum∣zy l:=zcm hs;have hsp:=z8 hsok;generalize hp:runQ (zy l) done (zeros l,[zeros l])=p at hlp hlast hlen;have er:runQ (zy l) (done++[s]) (zeros l,[zeros l])=rep (zr (shares (zy l) s.2)) s.1.toNat p:=by
    unfold runQ at hp ⊢;rw [WaR,hp];rfl
   have et:tot (done++[s])=tot done+s.1:=by unfold tot;rw [Ya2,Wbk];simp
   rw [er,et] at hW;have hsx:∀ i (hi:i<s.2.length),s.2[i]*(zy l/s.2.sum)=(shares (zy l) s.2).getD i 0:=fun i hi=>by
    unfold shares;rw [YaP,Ya0,YaQ hi];show _=s.2[i]*zy l/s.2.sum;rw [Int.mul_ediv_assoc _ hdv]
   have hshl:(shares (zy l) s.2).length=many l:=by rw [zbJ];exact hsl
   generalize shares (zy l) s.2=sh at hW hsx hshl er
   walk_at "rd"
   refine⟨#[0],#[0],?_⟩
   refine Jp (fun j ρ=>∃ t3 t4 t5 t6 r,ρ = [some (.sh false (.list (l.map dS))),#[5,zy l],#[5,s.1],some (.sh false (.list (s.2.map .int))),some (.ow true ((rep (zr sh) j p).2.map dI)),t3,t4,t5,t6]/\ji (many l) (rep (zr sh) j p)/\(rep (zr sh) j p).2=r++[(rep (zr sh) j p).1]/\((rep (zr sh) j p).2.length:Int)=1+tot done+j) ?_ ?_ ⟨_,_,_,_,r,rfl,hlp,hlast,by show(p.2.length:Int)=_;omega⟩
   . rintro j ρ hj ⟨y3,y4,y5,y6,r,rfl,hlp',hlast',hlen'⟩ W' hW'
     rw [zcR] at hW';generalize rep (zr sh) j p=pj at hlp' hlast' hlen' hW';have hadl:(addL pj.1 sh).length=many l:=by rw [zaZ (by rw [hlp'.1,hshl]),hlp'.1]
     have hla:atI (pj.2.map dI) (-1)=some (PyData.list (pj.1.map PyData.int)):=by
      rw [hlast',Ya2,Ya1,WbB,zeQ];rfl
     simp only [gn3,List.set_cons_zero,List.set_cons_succ,zt,WbG];refine zm fun N hN=>?_
     walk_at "rd"
     refine hN _ ?_
     clear hN N;refine jA (fun ρ=>∃ t5 t6,ρ = [some (.sh false (.list (l.map dS))),#[5,zy l],#[5,s.1],some (.sh false (.list (s.2.map .int))),some (.ow true (pj.2.map dI)),#[5,0+j],some (.ow true ((addL pj.1 sh).map .int)),t5,t6]) (fun N hN=>?_) ?_
     . walk_at "rd"
       rw [YaR,hsl];refine⟨#[0],#[0],?_⟩
       rw [Int.toNat_natCast];refine Jp (fun i ρ=>∃ t5 t6,ρ = [some (.sh false (.list (l.map dS))),#[5,zy l],#[5,s.1],some (.sh false (.list (s.2.map .int))),some (.ow true (pj.2.map dI)),#[5,0+j],some (.ow true (((addL pj.1 sh).take i).map .int)),t5,t6]) ?_ ?_ ⟨_,_,rfl⟩
       . rintro i ρ hi ⟨v5,v6,rfl⟩ W2 hW2
         have hi1:i<s.2.length:=by rw [hsl];exact hi
         have hi2:i<pj.1.length:=by rw [hlp'.1];exact hi
         have hi3:i<sh.length:=by rw [hshl];exact hi
         have hw:atI (s.2.map PyData.int) (0+(i:Int))=some (PyData.int s.2[i]):=zbp hi1;have hq:atI (pj.1.map PyData.int) (0+(i:Int))=some (PyData.int pj.1[i]):=zbp hi2;have htk:(addL pj.1 sh).take (i+1)=(addL pj.1 sh).take i++[pj.1[i]+sh.getD i 0]:=by
          rw [Yav (by rw [hadl];exact hi)]
          congr 2
          unfold addL
          simp [hi3]
         rw [htk,Ya2] at hW2;have hbs:Bits 900 (zy l/s.2.sum):=hBb.le (Yay _ _)
         walk_at "rd hw hla hq"
         refine⟨s.2,jg _,⟨hsp,(jX hsok).mono #[1]⟩,(zbn hsok (Ya4 hi1)).mulOk hbs #[1],YaU (show _<1000000 by rw [YaR,Wa5];omega) #[1],?_⟩
         rw [hsx i hi1];exact hW2 _ ⟨_,_,rfl⟩
       . rintro ρ ⟨v5,v6,rfl⟩
         rw [Was (by rw [hadl];exact YaY _)]
         exact hN _ ⟨_,_,rfl⟩
     rintro ρ ⟨v5,v6,rfl⟩
     walk_at "rd"
     refine⟨YaU (show _<1000000 by rw [YaR];omega) #[1],?_⟩
     have hl2:ji (many l) (zr sh pj):=⟨hadl,fun r hr=>by
      rcases Ya3.mp hr with z|z
      . exact hlp'.2 r z
      . rw [Ya6.mp z];exact hadl⟩
     exact hW' _ ⟨_,_,_,_,pj.2,by show _=[_,_,_,_,some (Cl.ow true ((pj.2++[addL pj.1 sh]).map dI)),_,_,_,_];rw [Ya2];rfl,hl2,rfl,by show((pj.2++[_]).length:Int)=_;rw [YaS];simp;omega⟩
   . rintro ρ ⟨y3,y4,y5,y6,r,rfl,hlp',hlast',hlen'⟩
     exact hW _ ⟨_,_,_,_,_,_,r,rfl,hlp',hlast',#[0]⟩
 . rintro ρ ⟨t1,t2,t3,t4,t5,t6,r,rfl,hlp,hlast,hlen⟩
   walk_at "rd"
   exact q
theorem zif(T:Txt c K mg) : dd_law_quotas P w K mg base:=by
 obtain⟨f,fd,F,hm⟩:=T.d_law_quotas;have hb:=F.binds (ps:=["_law_spells_here"]) fun _ _ _ _ _ _ us hl=>by obtain⟨_,rfl⟩:=zY hl;rfl
 refine⟨fun ds Q Q' E E' hQ hE h=>?_,⟨f,fd,zhn T F,hb,F.kp,hm⟩⟩
 obtain⟨l,e,o,h⟩:=h;exact⟨l,e,o,hQ _ _ h⟩
theorem ziw:FnScope ["_law_script", "_law_k"] ["_law_script", "_law_k"] (ze Ze):=⟨rfl,rfl,rfl,#[3],rfl,#[3],#[3]⟩
theorem zmJ(T:Txt c K mg){f:Addr}{fd:FuncData}(F:Fun K "_law_cell_at" "_law_cell_at" Ze f fd):FnOk P w K mg base (CXR P w) 1 f fd ["_law_script", "_law_k"] (spL K Zu):=by
 have S:=ziw;refine fn3 F S (fun ds Q E h=>?_) (fun cdv A outer s H E E3 hE hr=>?_)
 . obtain⟨_,_,rfl,_⟩:=h;rfl
 refine⟨_,(zc (s_if (zq jT (n3 1) (zn zH rfl T.n_len zG (za (n3 0) zb)) (nomark _)) (zd (zi (op3 jh (at3 (n3 0) (n3 1) #[4]) (op3 Ji i3 i3)))) zE)
  (zd (zi i3))),fun ds Q h=>?_⟩
 obtain⟨ns,k,rfl,hk,q⟩:=h
 walk_at "rd"
 rw [YaR]
 by_cases h:k<ns.length
 . rw [if_pos h]
   obtain⟨x,h1,_⟩:=zds (xs:=ns) hk h;refine⟨.int x,by rw [zdH,h1];rfl,c64,?_⟩
   exact⟨#[1],q _⟩
 . rw [if_neg h]
   exact q _
theorem zkH(T:Txt c K mg) : dd_law_cell_at P w K mg base:=by
 obtain⟨f,fd,F,hm⟩:=T.d_law_cell_at;have hb:=F.binds (ps:=["_law_script", "_law_k"]) fun _ _ _ _ _ _ us hl=>by obtain⟨_,_,rfl⟩:=jd hl;rfl
 refine⟨fun ds Q Q' E E' hQ hE h=>?_,⟨f,fd,zmJ T F,hb,F.kp,hm⟩⟩
 obtain⟨a,b,e,z,h⟩:=h;exact⟨a,b,e,z,fun v=>hQ _ _ (h v)⟩
theorem znN:FnScope ["_law_found"] ["_law_found"] (ze JZ):=⟨rfl,rfl,rfl,#[3],rfl,#[3],#[3]⟩
theorem zi3(T:Txt c K mg){f:Addr}{fd:FuncData}(F:Fun K "_law_whole" "_law_whole" JZ f fd):FnOk P w K mg base (CXR P w) 1 f fd ["_law_found"] (spL K JA):=by
 have S:=znN;refine fn3 F S (fun ds Q E h=>?_) (fun cdv A outer s H E E3 hE hr=>?_)
 . obtain⟨_,rfl,_⟩:=h;rfl
 refine⟨_,(zd (zi (zbf (JC rfl T.n_isinstance rfl rfl T.n_int zfJ (n3 0)) (one3 (zdX (JC rfl T.n_isinstance rfl rfl T.n_bool zfb (n3 0))))))),fun ds Q h=>?_⟩
 obtain⟨a,rfl,q⟩:=h
 walk_at "rd"
 exact⟨false,if_neg #[1],q⟩
theorem zgD(T:Txt c K mg) : dd_law_whole P w K mg base:=by
 obtain⟨f,fd,F,hm⟩:=T.d_law_whole;have hb:=F.binds (ps:=["_law_found"]) fun _ _ _ _ _ _ us hl=>by obtain⟨_,rfl⟩:=zY hl;rfl
 refine⟨fun ds Q Q' E E' hQ hE h=>?_,⟨f,fd,zi3 T F,hb,F.kp,hm⟩⟩
 first|(obtain⟨a0,e,h⟩:=h;exact⟨a0,e,hQ _ h⟩)|(unfold JA at *;grind)
theorem zgp:FnScope ["_law_row", "_law_turns", "_law_clans", "_law_clan"] ["_law_row", "_law_turns", "_law_clans"] (ze JY):=⟨rfl,rfl,rfl,#[3],rfl,#[3],#[3]⟩
theorem zlW(T:Txt c K mg)(zoC:#[8,dd_law_whole]){f:Addr}{fd:FuncData}(F:Fun K "_law_is_row" "_law_is_row" JY f fd):FnOk P w K mg base (CXR P w) 2 f fd ["_law_row", "_law_turns", "_law_clans"] (spL K Zv):=by
 have S:=zgp;refine fn3 F S (fun ds Q E h=>?_) (fun cdv A outer s H E E3 hE hr=>?_)
 . obtain⟨_,_,_,rfl,_⟩:=h;rfl
 refine⟨_,(zc (s_if (pw3 (jm (z5 (val3 (JC rfl T.n_isinstance rfl rfl T.n_list za0 (n3 0)))) (jQ (zq (jo hr.units) (zn zH rfl T.n_len zG (za (n3 0) zb)) (n3 1) (nomark _))))) (zd (zi b3)) zE)
  (zc (zN Wa2 rfl (zQ (n3 0)) (zu (i:=3) S.nd rfl #[2]) (zd (s_if (pw3 (jm (z5 (val3 (df3 hE zoC (hr.mono #[1]) rfl zl (za (n3 3) zb)))) (jQ (z5 (zbX JF jT i3 (n3 3) (n3 2)))))) (zd (zi b3)) zE)))
  (zd (zi b3)))),fun ds Q h=>?_⟩
 obtain⟨row,T,n,rfl,hl,hc,q⟩:=h
 walk_at "rd"
 rw [YaR,if_neg (fun z=>z hl)]
 refine j0 PyData.int row (fun done ρ=>∃ t,ρ = [some (.sh false (.list (row.map .int))),#[5,T],#[5,n],t]) ?_ ?_ ⟨none,rfl⟩
 . rintro done x rest ρ hd ⟨t,rfl⟩ W hW
   have hx:=hc x (by rw [hd];simp)
   walk_at "rd"
   rw [if_pos hx.1,if_neg (fun z=>z hx.2)]
   exact hW _ ⟨_,rfl⟩
 . rintro ρ ⟨t,rfl⟩
   walk_at "rd"
   exact q
theorem zlg(T:Txt c K mg)(zoC:#[8,dd_law_whole]):dd_law_is_row P w K mg base:=by
 obtain⟨f,fd,F,hm⟩:=T.d_law_is_row;have hb:=F.binds (ps:=["_law_row", "_law_turns", "_law_clans"]) fun _ _ _ _ _ _ us hl=>by obtain⟨_,_,_,rfl⟩:=zbV hl;rfl
 refine⟨fun ds Q Q' E E' hQ hE h=>?_,⟨f,fd,zlW T zoC F,hb,F.kp,hm⟩⟩
 obtain⟨a,b,n,e,x1,x2,h⟩:=h;exact⟨a,b,n,e,x1,x2,hQ _ _ h⟩
theorem zlN:FnScope ["_law_top", "_law_bottom", "_law_one", "_law_other"] ["_law_top", "_law_bottom"] (ze JE):=⟨rfl,rfl,rfl,#[3],rfl,#[3],#[3]⟩
theorem zlh(T:Txt c K mg){f:Addr}{fd:FuncData}(F:Fun K "_law_ratio" "_law_ratio" JE f fd):FnOk P w K mg base (CXR P w) 1 f fd ["_law_top", "_law_bottom"] (spL K ZM):=by
 have S:=zlN;refine fn3 F S (fun ds Q E h=>?_) (fun cdv A outer s H E E3 hE hr=>?_)
 . obtain⟨_,_,rfl,_⟩:=h;rfl
 refine⟨_,(zc (zh (i:=2) S.nd rfl #[2] (zn zbE rfl T.n_abs zbr (za (n3 0) zb)))
  (zc (zh (i:=3) S.nd rfl #[2] (n3 1))
  (zc (J5 Wa2 (zq jH (n3 3) i3 (nomark _)) (zd (zdQ (i:=2) (j:=3) rfl S.nd rfl rfl #[1] rfl rfl (za (n3 3) (za (op3 jh (n3 2) (n3 3)) zb)))))
  (zd (zi (zT (za (op3 zW (n3 0) (n3 2)) (za (op3 zW (n3 1) (n3 2)) zb)))))))),fun ds Q h=>?_⟩
 obtain⟨a,b,rfl,hb,hB,q⟩:=h
 walk_at "rd"
 refine⟨_,Jx (fun n ρ=>∃ g l,ρ = [#[5,a],#[5,b],#[5,g],#[5,l]]/\0<=g/\0<=l/\Int.gcd g l=Int.gcd a b/\n=l.toNat) ?_ _ _ ⟨_,_,rfl,by split<;>omega,#[0],?_,rfl⟩⟩
 . rintro n ρ ⟨g,l,rfl,hg,hl,hG,rfl⟩ W hW
   walk_at "rd"
   by_cases h0:0<l
   . rw [if_pos h0]
     have h1:=Ybc g (show l≠0 by omega)
     have h2:=Ybd g h0;exact⟨h0,hW (g%l).toNat _ #[0] ⟨l,g%l,rfl,hl,h1,(zcj hg h0).trans hG,rfl⟩⟩
   . rw [if_neg h0]
     have hz:l=0:=#[0]
     subst hz;have e:g=(Int.gcd a b:Int):=by rw [<-hG,zbU hg]
     subst e;exact⟨zbs hb hB,zbs hb hB,q⟩
 . have:=zeG a b
   rw [if_neg (show ¬b<0 by omega)] at this
   exact this
theorem zhO(T:Txt c K mg) : dd_law_ratio P w K mg base:=by
 obtain⟨f,fd,F,hm⟩:=T.d_law_ratio;have hb:=F.binds (ps:=["_law_top", "_law_bottom"]) fun _ _ _ _ _ _ us hl=>by obtain⟨_,_,rfl⟩:=jd hl;rfl
 refine⟨fun ds Q Q' E E' hQ hE h=>?_,⟨f,fd,zlh T F,hb,F.kp,hm⟩⟩
 obtain⟨a,b,e,z,y,h⟩:=h;exact⟨a,b,e,z,y,hQ _ _ h⟩
theorem znv:FnScope ["_law_found"] ["_law_found"] (ze JW):=⟨rfl,rfl,rfl,#[3],rfl,#[3],#[3]⟩
theorem zk2(T:Txt c K mg)(zoA:#[8,dd_law_ratio])(zoC:#[8,dd_law_whole]){f:Addr}{fd:FuncData}(F:Fun K "_law_is_ratio" "_law_is_ratio" JW f fd):FnOk P w K mg base (CXR P w) 2 f fd ["_law_found"] (spL K zag):=by
 have S:=znv;refine fn3 F S (fun ds Q E h=>?_) (fun cdv A outer s H E E3 hE hr=>?_)
 . obtain⟨_,_,rfl,_⟩:=h;rfl
 refine⟨_,(zc (s_if (pw3 (jm (z5 (val3 (JC rfl T.n_isinstance rfl rfl T.n_tuple zdp (n3 0)))) (jQ (zq (jo hr.units) (zn zH rfl T.n_len zG (za (n3 0) zb)) i3 (nomark _))))) (zd (zi b3)) zE)
  (zc (s_if (pw3 (jm (z5 (val3 (df3 hE zoC (hr.mono #[1]) rfl zl (za (at3 (n3 0) i3 #[4]) zb)))) (jm (z5 (val3 (df3 hE zoC (hr.mono #[1]) rfl zl (za (at3 (n3 0) i3 #[4]) zb)))) (jQ (zq jT (at3 (n3 0) i3 #[4]) i3 (nomark _)))))) (zd (zi b3)) zE)
  (zd (zi (cmp3 (Zk hr.units) (df3 hE zoA (hr.mono #[1]) rfl zl (za (at3 (n3 0) i3 #[4]) (za (at3 (n3 0) i3 #[4]) zb))) (n3 0) (nomark _)))))),fun ds Q h=>?_⟩
 obtain⟨a,b,rfl,hb,hB,q⟩:=h;have l1:=(Z9 (a:=a) hb).1;have e2:=zn0 (a:=a) hb;have hB2:Bits 9000 (b/(Int.gcd a b:Int)):=(hB.le (Yay _ _)).mono #[1]
 have e1:dR a b=.tuple [.int (a/(Int.gcd a b:Int)),.int (b/(Int.gcd a b:Int))]:=rfl;rw [e1] at e2;rw [e1];clear e1;generalize a/(Int.gcd a b:Int)=x1 at e2 ⊢;generalize b/(Int.gcd a b:Int)=x2 at e2 l1 hB2 ⊢;clear hB hb;refine zm fun N hN=>?_
 walk_at "rd"
 rw [if_neg #[1]]
 refine hN _ ?_
 clear hN N;refine zm fun N hN=>?_
 walk_at "rd atI0 atI1"
 rw [if_neg #[0]]
 refine hN _ ?_
 clear hN N;have ev:PyData.eqv (PyData.tuple [PyData.int x1,PyData.int x2]) (PyData.tuple [PyData.int x1,PyData.int x2])=true:=Jc (zcg (x1,x2)).1
 walk_at "rd atI0 atI1 e2 ev"
 exact⟨l1,hB2,rfl,q⟩
theorem ziC(T:Txt c K mg)(zoA:#[8,dd_law_ratio])(zoC:#[8,dd_law_whole]):dd_law_is_ratio P w K mg base:=by
 obtain⟨f,fd,F,hm⟩:=T.d_law_is_ratio;have hb:=F.binds (ps:=["_law_found"]) fun _ _ _ _ _ _ us hl=>by obtain⟨_,rfl⟩:=zY hl;rfl
 refine⟨fun ds Q Q' E E' hQ hE h=>?_,⟨f,fd,zk2 T zoA zoC F,hb,F.kp,hm⟩⟩
 obtain⟨a,b,e,x1,x2,h⟩:=h;exact⟨a,b,e,x1,x2,hQ _ _ h⟩
theorem zja:FnScope ["_law_bottom", "_law_rows", "_law_row", "_law_far_here", "_law_had", "_law_t", "_law_k"] ["_law_bottom", "_law_rows", "_law_row"] (ze Jl):=⟨rfl,rfl,rfl,#[3],rfl,#[3],#[3]⟩
theorem znh(T:Txt c K mg){f:Addr}{fd:FuncData}(F:Fun K "_law_far" "_law_far" Jl f fd):FnOk P w K mg base (CXR P w) 1 f fd ["_law_bottom", "_law_rows", "_law_row"] (spL K zac):=by
 have S:=zja;refine fn3 F S (fun ds Q E h=>?_) (fun cdv A outer s H E E3 hE hr=>?_)
 . obtain⟨_,_,_,_,rfl,_⟩:=h;rfl
 refine⟨_,(zc (zh (i:=3) S.nd rfl #[2] i3)
  (zc (ziP (i:=4) S.nd rfl #[2] ["_law_k"] [] [] rfl (jM (osc:=ze Jl) #[3]) rfl (zQ (at3 (n3 1) i3 #[4])) (fun H0 s H fp cl=>⟨(zu (i:=0) (show((["_law_k"]:List PySem.Str)++([]:List PySem.Str)).Nodup by decide) rfl #[2]),jR,i3⟩))
  (zc (zN Wa2 rfl (zfw rfl T.n_range (za i3 (za (zn zH rfl T.n_len zG (za (n3 1) zb)) zb))) (zu (i:=5) S.nd rfl #[2]) (zc (zcn (i:=4) rfl #[2] (at3 (n3 2) (op3 jP (n3 5) i3) #[4]) (op3 zZ (at3 (n3 4) (at3 (n3 2) (op3 jP (n3 5) i3) #[4]) #[4]) (n3 0)))
   (zd (zN Wa2 rfl (ZZ rfl T.n_range (za (zn zH rfl T.n_len zG (za (n3 4) zb)) zb)) (zu (i:=6) S.nd rfl #[2]) (zd (zh (i:=3) S.nd rfl #[2] (zn (zd4 rfl) rfl T.n_max zcB (za (n3 3) (za (zn zbE rfl T.n_abs zbr (za (op3 jP (at3 (at3 (n3 1) (n3 5) #[4]) (n3 6) #[4]) (at3 (n3 4) (n3 6) #[4])) zb)) zb)))))))))
  (zd (zi (n3 3)))))),fun ds Q h=>?_⟩
 obtain⟨b,rows,row,n,rfl,h1,h8,hr1,hr61,hrn,hc,q⟩:=h;have hmax:∀ i (hi:i<rows.length),rows[i].length=n:=fun i hi=>hrn _ (Ya4 hi)
 have hd0:atI (rows.map dI) 0=some (PyData.list (rows[0].map PyData.int)):=zcq (i:=0) #[0]
 have h0n:=hmax 0 #[0]
 refine zm fun N hN=>?_
 walk_at "rd"
 refine hN _ ?_
 clear hN N;refine zm fun N hN=>?_
 walk_at "rd hd0"
 refine⟨sz (by rw [YaR];omega),?_⟩
 refine jE PyData.int (fun _=>PyData.int 0) (fun ρ=>∃ t,ρ = [t]) rows[0] ?_ _ _ _ _ ⟨none,rfl⟩ ?_
 . rintro w hw ρ fa acc K ⟨t,rfl⟩ k
   walk_at "rd"
   exact k _ ⟨_,rfl⟩
 have hz:[]++rows[0].map (fun _=>PyData.int 0)=(hadN b n []).map PyData.int:=by
  unfold hadN;rw [List.nil_append,List.foldl_nil,Yaz,Wbl,h0n]
 rw [hz];refine hN _ ?_;clear hN N
 walk_at "rd YaR"
 refine⟨#[1],#[1],#[0],#[0],?_⟩
 have e1:((rows.length:Int) - 1).toNat=row.length:=#[0]
 rw [e1];refine Jp (lo:=1) (fun k ρ=>∃ x t u,ρ = [#[5,b],some (.sh false (.list (rows.map dI))),some (.sh false (.list (row.map PyData.int))),#[5,x],some (.ow true ((hadN b n (row.take k)).map PyData.int)),t,u]/\Far (zP b n rows row k) x) ?_ ?_ ⟨_,none,none,rfl,Far.nil⟩
 . rintro k ρ hk ⟨x,t,u,rfl,hfar⟩ W hW
   have hk1:k+1<rows.length:=#[0]
   have hck:=hc row[k] (Ya4 hk);have hrk:atI (row.map PyData.int) (1+(k:Int) - 1)=some (PyData.int row[k]):=by
    rw [show 1+(k:Int) - 1=0+(k:Int) by omega];exact zbp hk
   have hrr:atI (rows.map dI) (1+(k:Int))=some (PyData.list (rows[k+1].map PyData.int)):=by
    rw [show(1+(k:Int))=((k+1:Nat):Int) by omega];exact zcq hk1
   have hrl:=hmax (k+1) hk1;have hhl:=jL b n (row.take k);have hg:=ZC (xs:=hadN b n (row.take k)) (i:=row[k]) hck.1 #[0]
   have hix:ixN ((hadN b n (row.take k)).map PyData.int).length row[k]=some row[k].toNat:=by rw [YaR];exact zcV hck.1 #[0]
   have htk:row.take (k+1)=row.take k++[row[k]]:=Yav hk;have hset:((hadN b n (row.take k)).map PyData.int).set row[k].toNat (PyData.int ((hadN b n (row.take k)).getD row[k].toNat 0+b))=(hadN b n (row.take (k+1))).map PyData.int:=by
    rw [htk,zcf];unfold had1;rw [List.map_set]
   have hld:zJ b n rows row k=subL (hadN b n (row.take (k+1))) rows[k+1]:=by
    unfold zJ;rw [YaP,YaQ hk1];rfl
   have hhl1:=jL b n (row.take (k+1));have hll:(zJ b n rows row k).length=n:=by rw [hld];unfold subL;rw [YaR,Wbh];omega
   simp only [gn3,List.set_cons_zero,List.set_cons_succ,zt,WbG];refine zm fun N hN=>?_
   walk_at "rd hrk hg hix hset"
   refine hN _ ?_
   clear hN N
   walk_at "rd"
   rw [YaR,hhl1];refine⟨#[0],#[0],?_⟩
   rw [Int.toNat_natCast];refine Jp (fun i ρ=>∃ x t,ρ = [#[5,b],some (.sh false (.list (rows.map dI))),some (.sh false (.list (row.map PyData.int))),#[5,x],some (.ow true ((hadN b n (row.take (k+1))).map PyData.int)),#[5,1+k],t]/\Far (zP b n rows row k++(zJ b n rows row k).take i) x) ?_ ?_ ⟨x,_,rfl,by simpa using hfar⟩
   . rintro i ρ hi ⟨x,t,rfl,hfar⟩ W' hW'
     have ha:=ZC (xs:=rows[k+1]) (i:=0+(i:Int)) #[0] #[0]
     have hb:=ZC (xs:=hadN b n (row.take (k+1))) (i:=0+(i:Int)) #[0] #[0]
     rw [show(0+(i:Int)).toNat=i by omega] at ha hb
     have hti:(zJ b n rows row k).take (i+1)=(zJ b n rows row k).take i++[(hadN b n (row.take (k+1))).getD i 0 - rows[k+1].getD i 0]:=by
      rw [Yav #[0]]
      congr 2
      have:(zJ b n rows row k)[i]?=some ((hadN b n (row.take (k+1))).getD i 0 - rows[k+1].getD i 0):=by
       rw [hld];unfold subL;have hz:((hadN b n (row.take (k+1))).zip rows[k+1])[i]?=some ((hadN b n (row.take (k+1)))[i]'(by omega),rows[k+1][i]'(by omega)):=Waj.mpr ⟨YaQ #[0],YaQ #[0]⟩
       rw [Ya0,hz]
       simp [YaP,YaQ (show i<rows[k+1].length by omega),YaQ (show i<(hadN b n (row.take (k+1))).length by omega)]
      rw [YaQ #[0]] at this
      exact Wbe this
     rw [hti,<-Yag] at hW'
     walk_at "rd hrr ha hb"
     generalize (hadN b n (row.take (k+1))).getD i 0=hv at hW' ⊢;generalize rows[k+1].getD i 0=rv at hW' ⊢;exact hW' _ ⟨_,_,rfl,zkw hfar⟩
   . rintro ρ ⟨x,t,rfl,hfar⟩
     rw [Was #[0],<-zcA] at hfar
     exact hW _ ⟨_,_,_,rfl,hfar⟩
 . rintro ρ ⟨x,t,u,rfl,hfar⟩
   walk_at "rd"
   exact q x hfar
theorem zgF(T:Txt c K mg) : dd_law_far P w K mg base:=by
 obtain⟨f,fd,F,hm⟩:=T.d_law_far;have hb:=F.binds (ps:=["_law_bottom", "_law_rows", "_law_row"]) fun _ _ _ _ _ _ us hl=>by obtain⟨_,_,_,rfl⟩:=zbV hl;rfl
 refine⟨fun ds Q Q' E E' hQ hE h=>?_,⟨f,fd,znh T F,hb,F.kp,hm⟩⟩
 obtain⟨a,b,cc,n,e,x1,x2,x3,x4,x5,x6,h⟩:=h;exact⟨a,b,cc,n,e,x1,x2,x3,x4,x5,x6,fun r y=>hQ _ _ (h r y)⟩
theorem znG:FnScope ["_law_script", "_law_place", "_law_weights_here", "_law_handed", "_law_found", "_law_turns", "_law_k", "_law_bottom", "_law_rows", "_law_row", "_law_clans"] ["_law_script"] (ze Jq):=⟨rfl,rfl,rfl,#[3],rfl,#[3],#[3]⟩
theorem zno(T:Txt c K mg)(zoB:#[8,dd_law_weights])(zoM:#[8,dd_round_of c])(zoy:#[8,dd_law_period])(zoz:#[8,dd_law_quotas])(zot:#[8,dd_law_cell_at])(zow:#[8,dd_law_is_row])(zoA:#[8,dd_law_ratio])(zoC:#[8,dd_law_whole])(zov:#[8,dd_law_is_ratio])(zou:#[8,dd_law_far])(zoE:#[8,dd_least c]){f:Addr}{fd:FuncData}(F:Fun K "law" "law" Jq f fd):FnOk P w K mg base (CXR P w) 10 f fd ["_law_script"] (spU c.tb K Zh):=by
 have S:=znG;refine fnU (cv:=fun v=>True) F trivial S (fun ds Q E h=>?_) (fun cdv A outer s H E E3 hcv tu hE hr=>?_)
 . obtain⟨_,rfl,_⟩:=h;rfl
 refine⟨_,(zc (zN Wa2 rfl (zmB rfl T.n_range (za i3 (za (zn (zd4 rfl) rfl T.n_max zcB (za i3 (za (zn (zgx rfl) rfl T.n_min zjr (za (zn zH rfl T.n_len zG (za (n3 0) zb)) (za i3 zb))) zb))) (za i3 zb)))) (zu (i:=1) S.nd rfl #[2]) (zc (zh (i:=2) S.nd rfl #[2] (df3 hE zoB (hr.mono #[1]) rfl zl (za (op3 zZ (df3 hE zot (hr.mono #[1]) rfl zl (za (n3 0) (za (n3 1) zb))) (op3 zU i3 (n3 1))) (za (df3 hE zot (hr.mono #[1]) rfl zl (za (n3 0) (za (op3 zZ (n3 1) i3) zb))) zb))))
  (zc (zh (i:=3) S.nd rfl #[2] (new3 (zbG rfl T.n_list za0 (za (n3 2) zb))))
  (zhv (i:=4) S.nd rfl #[2] (dfRU tu hE zoM (hr.mono #[1]) rfl zl (za (n3 3) zb))
  (Js #[1] (zjb (j:=5) #[1] S.nd rfl #[2] (df3 hE zoy (hr.mono #[1]) rfl zl (za (n3 2) zb)))
  (Js #[1] (j_if (pw3 (jm (zq (jo hr.units) (n3 3) (n3 2) (nomark _)) (jm (z5 (val3 (JC rfl T.n_isinstance rfl rfl T.n_tuple zdp (n3 4)))) (jQ (zq (jo hr.units) (zn zH rfl T.n_len zG (za (n3 4) zb)) i3 (nomark _)))))) (zd (zi b3)))
  (Js #[1] (j_if (pw3 (jm (z5 (val3 (df3 hE zoC (hr.mono #[1]) rfl zl (za (at3 (n3 4) i3 #[4]) zb)))) (jm (zq (jo hr.units) (at3 (n3 4) i3 #[4]) (n3 5) (nomark _)) (jQ (z5 (val3 (df3 hE zov (hr.mono #[1]) rfl zl (za (at3 (n3 4) i3 #[4]) zb)))))))) (zd (zi b3)))
  (Js #[1] (j_if (z5 (val3 (df3 hE zow (hr.mono #[1]) rfl zl (za (at3 (n3 4) i3 #[4]) (za (n3 5) (za (zn zH rfl T.n_len zG (za (n3 2) zb)) zb)))))) (zd (zi b3)))
  (Js #[1] (zkD (j:=6) #[1] Wa2 rfl S.nd rfl #[2] (ZZ rfl T.n_range (za (zn zH rfl T.n_len zG (za (n3 2) zb)) zb)) (j_if (zq (jo hr.units) (op3 zU (zl8 (at3 (n3 4) i3 #[4]) (n3 6)) (zn (jB rfl) rfl T.n_sum jG (za (n3 2) zb))) (op3 zU (at3 (n3 2) (n3 6) #[4]) (n3 5)) (nomark _)) (zd (zi b3))))
  (Js #[1] (znw (j1:=7) (j2:=8) #[1] #[1] rfl S.nd rfl #[2] rfl #[2] (df3 hE zoz (hr.mono #[1]) rfl zl (za (new3 (jx (za (zT (za (op3 zU i3 (n3 5)) (za (new3 (zbG rfl T.n_list za0 (za (n3 2) zb))) zb))) zb))) zb)))
  (Js #[1] (j_if (zq (jo hr.units) (at3 (n3 4) i3 #[4]) (df3 hE zoA (hr.mono #[1]) rfl zl (za (df3 hE zou (hr.mono #[1]) rfl zl (za (n3 7) (za (n3 8) (za (new3 (zlU (at3 (n3 4) i3 #[4]) i3)) zb)))) (za (n3 7) zb))) (nomark _)) (zd (zi b3)))
  (Js #[1] (j_if (zq (jo hr.units) (zdi (dfU tu hE zoE (hr.mono #[1]) rfl zl (za (new3 (jx (za (zT (za (n3 5) (za (new3 (zbG rfl T.n_list za0 (za (n3 2) zb))) zb))) zb))) zb)) znE (zbW i3)) (zdi (n3 4) (zbW i3) (zbW i3)) (nomark _)) (zd (zi b3)))
  (ziN (i:=4) (jt:=5) (jr:=9) (J:=[5,6,7,8,9]) #[1] S.nd rfl #[2] rfl #[2] (zbG rfl T.n_list za0 (za (at3 (n3 4) i3 #[4]) zb))
  (zc (s_if (pw3 (jm (zq (jo hr.units) (n3 3) (n3 2) (nomark _)) (jQ (zq (jo hr.units) (at3 (dfU tu hE zoM (hr.mono #[1]) rfl zl (za (n3 3) zb)) i3 #[4]) (n3 9) (nomark _))))) (zd (zi b3)) zE)
  (zc (s_if (zq (jo hr.units) (cmp3 zbB (at3 (n3 4) i3 #[4]) non3 (nomark _)) (cmp3 (Zk hr.units) (at3 (n3 4) i3 #[4]) (zT (za i3 (za i3 zb))) (nomark _)) (nomark _)) (zd (zi b3)) zE)
  (zc (zh (i:=10) S.nd rfl #[2] (zn zH rfl T.n_len zG (za (n3 2) zb)))
  (zc (s_if (pw3 (zeY (zq jH (n3 10) i3 (nomark _)) (zen (zq jH (op3 zU (at3 (at3 (n3 4) i3 #[4]) i3 #[4]) (op3 jP (op3 zU i3 (n3 10)) i3)) (op3 zU (op3 jP (op3 zU i3 (n3 10)) i3) (at3 (at3 (n3 4) i3 #[4]) i3 #[4])) (nomark _))))) (zd (zi b3)) zE)
  (zd (s_if (zq jH (n3 5) i3 (nomark _)) (zd (zi b3)) zE)))))))))))))))))))
  (zd (zi b3))),fun ds Q h=>?_⟩
 obtain⟨ns,rfl,h63,q⟩:=h
 walk_at "rd YaR"
 generalize hJ:(if(if(4:Int)<(ns.length:Int) then(4:Int) else(ns.length:Int)) > 2 then(if(4:Int)<(ns.length:Int) then(4:Int) else(ns.length:Int)) else(2:Int))=J
 have hJ2:2<=J/\J<=4:=by
  rw [<-hJ]
  split
  . split at * <;> omega
  . omega
 clear hJ;refine⟨#[1],#[1],#[0],#[0],#[1],#[1],?_⟩
 have hst:L2.stN 0 J 2<=5:=by unfold L2.stN;omega
 unfold zaz;refine j0 (fun i:Nat=>PyData.int (0+(i:Nat)*2)) (List.range (L2.stN 0 J 2)) (fun done ρ=>∃ t1 t2 t3 t4 t5 t6 t7 t8 t9 t10:Option L3.Cl,ρ = [some (.sh false (.list (ns.map .int))),t1,t2,t3,t4,t5,t6,t7,t8,t9,t10]) ?_ ?_ ⟨none,none,none,none,none,none,none,none,none,none,rfl⟩
 . rintro done i rest ρ hd ⟨t1,t2,t3,t4,t5,t6,t7,t8,t9,t10,rfl⟩ W hW
   have hi:i<L2.stN 0 J 2:=Yba.mp (by rw [hd];simp)
   simp only [gn3,List.set_cons_zero,List.set_cons_succ,zt,WbG];have hpl:∃ z:Int,0+(i:Nat)*2=z/\0<=z/\z<=10:=⟨_,rfl,#[0],#[0]⟩
   obtain⟨z,hz,z0,z10⟩:=hpl;rw [hz];clear hz hi hd hst hJ2;refine zm fun N hN=>?_
   walk_at "rd"
   refine⟨ns,rfl,#[0],fun v=>⟨(Bits.lit (x:=61) 64).mulOk (Bits.lit (x:=z) 64 #[0]) #[1],ns,rfl,#[0],fun v2 ws hw hp60 _=>hN _ ?_⟩⟩
   clear hN N;refine zm fun N hN=>?_
   walk_at "rd"
   refine hN _ ?_
   clear hN N;have hpos:=jq hw;have hsp:=z8 hw;have hsh:SeqAt.shaped (.list (ws.map .int))=true:=(zae ws).shaped #[1]
   have heq:PyData.eqv (.list (ws.map .int)) (.list (ws.map .int))=true:=Jc (zae ws).1;refine zj5 (by show 4<11;decide) fun N hN=>?_
   walk_at "rd"
   refine⟨ws,rfl,hw,hp60,fun room row why hR=>hN _ ?_⟩
   clear hN N;obtain⟨hrl,hrc,hcnt,hfar⟩:=hR.good hw hp60;have hok:=Jj hw hp60;have hb:=zR hok;have bb:=zar hok;have r0:=hR.1.1;have r1:=hR.1.2.1;have h01:=zlY hb r0;refine JN fun N hN=>?_
   walk_at "rd"
   refine⟨ws,rfl,hw,hN _ ?_⟩
   clear hN N;refine JN fun N hN=>?_
   walk_at "rd hsh heq"
   refine hN _ ?_
   clear hN N;refine JN fun N hN=>?_
   walk_at "rd atI0 atI1"
   refine⟨room,_,rfl,hb,bb.mono #[1],hN _ ?_⟩
   clear hN N;refine JN fun N hN=>?_
   walk_at "rd atI0 atI1 atI2 YaR"
   refine⟨row,rfl,ws.length,rfl,hrl,hrc,hN _ ?_⟩
   clear hN N;have hn8:=hw.1;have pb:Bits 64 (parts ws):=Bits.lit (x:=parts ws) 64 #[0]
   refine zly (fun ρ=>∃ t6:Option L3.Cl,ρ = [some (.sh false (.list (ns.map .int))),#[5,z],some (.sh true (.list (ws.map .int))),some (.sh true (.list (ws.map .int))),some (.sh true (.tuple [.int (parts ws),dR room (bot [(parts ws,ws)]),.list (row.map .int),why])),#[5,parts ws],t6,t7,t8,t9,t10]) (fun N hN=>?_) ?_
   . walk_at "rd YaR"
     refine⟨#[0],#[0],?_⟩
     rw [Int.toNat_natCast];refine Jp (fun k ρ=>∃ t6:Option L3.Cl,ρ = [some (.sh false (.list (ns.map .int))),#[5,z],some (.sh true (.list (ws.map .int))),some (.sh true (.list (ws.map .int))),some (.sh true (.tuple [.int (parts ws),dR room (bot [(parts ws,ws)]),.list (row.map .int),why])),#[5,parts ws],t6,t7,t8,t9,t10]) ?_ (fun ρ h=>hN ρ h) ⟨_,rfl⟩
     rintro k ρ hk ⟨t,rfl⟩ W' hW'
     have hc:=hcnt k hk;have hwk:atI (ws.map PyData.int) (0+(k:Int))=some (PyData.int ws[k]):=zbp hk;have hcl:row.count (k:Int)<=row.length:=List.count_le_length
     walk_at "rd atI2 hwk"
     refine⟨row,jg _,ws,jg _,?_⟩
     rw [Int.zero_add];refine⟨(Bits.lit (x:=((row.count (k:Int):Nat):Int)) 64 #[0]).mulOk (jX hw) #[1],(zbn hw (Ya4 hk)).mulOk pb #[1],?_⟩
     rw [if_neg (fun y=>y hc)]
     exact hW' _ ⟨_,rfl⟩
   rintro ρ ⟨s6,rfl⟩
   refine JN fun N hN=>?_
   walk_at "rd"
   refine⟨(Bits.lit (x:=3) 64).mulOk pb #[1],[(3*parts ws,ws)],rfl,zlu hw #[0] #[0],?_⟩
   rw [zdv];refine hN _ ?_;clear hN N;have hx:∃ x1 x2,dR room (bot [(parts ws,ws)])=.tuple [.int x1,.int x2]/\lowQ room (bot [(parts ws,ws)])=(x1,x2):=⟨_,_,rfl,rfl⟩;obtain⟨x1,x2,hx,hx2⟩:=hx;have ev:PyData.eqv (PyData.tuple [PyData.int x1,PyData.int x2]) (PyData.tuple [PyData.int x1,PyData.int x2])=true:=Jc (zcg (x1,x2)).1;have hr3:(row++row++row).length=3*row.length:=by rw [YaS,YaS];omega
   have hc3:∀ c∈row++row++row,0<=c/\c<(ws.length:Int):=fun c h=>by
    rcases Ya3.mp h with h|h
    . rcases Ya3.mp h with h|h<;>exact hrc c h
    . exact hrc c h
   have hql:(quoB ws.sum [(3*parts ws,ws)]).length=(3*parts ws).toNat+1:=by rw [zbO];simp
   have hqr:∀ r∈quoB ws.sum [(3*parts ws,ws)],r.length=ws.length:=by
    rw [zbO];intro r hr;obtain⟨t,_,rfl⟩:=Ya7.mp hr;unfold shares;rw [YaR,YaR]
   rw [hx] at hfar h01 ⊢;refine JN fun N hN=>?_
   walk_at "rd atI1 atI2"
   refine⟨#[1],#[1],sz (by rw [YaR];show row.length*3<=1000000;omega),_,rfl,row++row++row,zkr _ _,ws.length,hn8.1,hn8.2,#[0],#[0],hqr,hc3,fun y hy=>⟨hsp,(jX hw).mono #[1],?_⟩⟩
   rw [hfar y hy];refine⟨rfl,rfl,?_⟩;rw [if_neg (by rw [ev];decide)]
   refine hN _ ?_
   clear hN N hfar;have hpl:Plain 2 (PyData.tuple [PyData.tuple [PyData.int x1,PyData.int x2],PyData.list (row.map PyData.int)]):=Plain.tuple fun d hd=>by
    rcases Wbp.mp hd with rfl|hd
    . exact zcg (x1,x2)
    . rw [Ya6.mp hd];exact zae row
   refine JN fun N hN=>?_
   walk_at "rd"
   refine⟨[(parts ws,ws)],rfl,fun z=>absurd hok z,fun _ room2 row2 why2 h1 h0 h2 h3=>?_⟩
   obtain⟨e1,e2⟩:=Rnd.one hw hp60 (show Rnd ws room2 row2 why2 from⟨h1,h0,h2,h3⟩) hR
   rw [e1,e2,hx];clear h1 h0 h2 h3 e1 e2 room2 row2;have c1:cut [PyData.tuple [PyData.int x1,PyData.int x2],PyData.list (row.map PyData.int),why2] none (some 2)=[PyData.tuple [PyData.int x1,PyData.int x2],PyData.list (row.map PyData.int)]:=rfl;have c2:cut [PyData.int (parts ws),PyData.tuple [PyData.int x1,PyData.int x2],PyData.list (row.map PyData.int),why] (some 1) (some 3)=[PyData.tuple [PyData.int x1,PyData.int x2],PyData.list (row.map PyData.int)]:=rfl
   rw [c1,c2];refine⟨#[1],#[1],hpl.shaped #[1],hpl.shaped #[1],?_⟩
   rw [if_neg (by rw [Jc hpl.1];decide)]
   refine hN _ ?_
   clear hN N c1 c2 hpl why2;obtain⟨hwf,hwhy⟩:=hR.why hw hp60;have has:(row.map PyData.int).all zt=true:=zmt row;refine zhz rfl ?_ (YaU (show _<1000 by rw [YaR];omega) #[1]) fun N hN=>?_
   . show(true&&true&&Ja why&&(row.map PyData.int).all zt)=true
     rw [hwf,has];rfl
   walk_at "rd atI2"
   refine hN _ ?_
   clear hN N;simp only [drops,List.foldl_cons,List.foldl_nil,List.set_cons_zero,List.set_cons_succ];refine zm fun N hN=>?_
   walk_at "rd hsh heq atI2"
   refine⟨ws,rfl,hw,hp60,fun room2 row2 why2 h2=>?_⟩
   rw [(Rnd.one hw hp60 h2 hR).2];refine⟨(zae row).shaped #[1],(zae row).shaped #[1],?_⟩
   rw [if_neg (by rw [show PyData.eqv (PyData.list (row.map PyData.int)) (PyData.list (row.map PyData.int))=true from Jc (zae row).1];decide)]
   refine hN _ ?_
   clear hN N h2 room2 row2 why2;refine jA (fun ρ=>ρ = [some (.sh false (.list (ns.map .int))),#[5,z],some (.sh true (.list (ws.map .int))),some (.sh true (.list (ws.map .int))),some (.sh true (.tuple [.int (parts ws),.tuple [.int x1,.int x2],.list (row.map .int++[.int 0]),why])),#[5,parts ws],none,none,none,some (.sh true (.list (row.map .int))),t10]) (fun N hN=>?_) ?_
   . rcases hwhy with ⟨z,rfl⟩|⟨z,ts,rfl⟩
     . walk_at "rd atI1 atI3 h01"
       rw [decide_eq_true z,show PyData.eqv (.bool true) (.bool true)=true from Jc (Plain.bool true).1,if_neg #[1]]
       exact⟨rfl,rfl,rfl,rfl,hN _ rfl⟩
     . walk_at "rd atI1 atI3 h01"
       rw [decide_eq_false z,show PyData.eqv (.bool false) (.bool false)=true from Jc (Plain.bool false).1,if_neg #[1]]
       exact⟨rfl,rfl,rfl,rfl,hN _ rfl⟩
   rintro ρ rfl
   refine zm fun N hN=>?_
   walk_at "rd YaR"
   refine hN _ ?_
   clear hN N;have hb1:Bits 1000 x1:=by
    have:x1=room/(Int.gcd room (bot [(parts ws,ws)]):Int):=(congrArg Prod.fst hx2).symm;rw [this];exact((bb.le (show room.natAbs<=(bot [(parts ws,ws)]).natAbs by omega)).le (Yay _ _)).mono #[1]
   have hb2:Bits 1000 x2:=by
    have:x2=bot [(parts ws,ws)]/(Int.gcd room (bot [(parts ws,ws)]):Int):=(congrArg Prod.snd hx2).symm;rw [this];exact(bb.le (Yay _ _)).mono #[1]
   have hpr:1<(ws.length:Int)->x1*(2*(ws.length:Int) - 2)<=(2*(ws.length:Int) - 3)*x2:=fun h=>by
    have:=hR.prom hw hp60 h;rw [hx2] at this;exact this
   refine jA (fun ρ=>ρ = [some (.sh false (.list (ns.map .int))),#[5,z],some (.sh true (.list (ws.map .int))),some (.sh true (.list (ws.map .int))),some (.sh true (.tuple [.int (parts ws),.tuple [.int x1,.int x2],.list (row.map .int++[.int 0]),why])),#[5,parts ws],none,none,none,some (.sh true (.list (row.map .int))),#[5,ws.length]]) (fun N hN=>?_) ?_
   . walk_at "rd atI0 atI1"
     have m2:IntMulOk 2 (ws.length:Int):=(Bits.lit (x:=2) 64).mulOk (Bits.lit (x:=(ws.length:Int)) 64 #[0]) #[1]
     refine ite2 (fun h=>⟨m2,hb1.mulOk (Bits.lit (x:=2*(ws.length:Int) - 2) 64 #[0]) #[1],m2,(Bits.lit (x:=2*(ws.length:Int) - 3) 64 #[0]).mulOk hb2 #[1],?_⟩) fun _=>hN _ rfl
     rw [if_neg (Int.not_lt.mpr (hpr h))];exact hN _ rfl
   rintro ρ rfl
   walk_at "rd"
   exact ite2 (fun _=>q) fun _=>hW _ ⟨_,_,_,_,_,_,_,_,_,_,rfl⟩
 . rintro ρ ⟨t1,t2,t3,t4,t5,t6,t7,t8,t9,t10,rfl⟩
   walk_at "rd"
   exact q
end
theorem zlm{K:Ybf}{h:Heap}{mg:Str->Option Value}(X:K.In h)(G:h.Ns mainGlobals mg)
 {cx0 tbx:Addr} {odx:Option Addr} {vsx:Array Value} {slx:Array (Option Value)} {flx:Str} {tx1 tx2 tx3:Tok} {ix1 ix2:Int} {bx:Bool}
 {f0 f1 f2 f3 f4 f5 f6 f7 f8 f9 f10 f11 f12 f13 f14 f15 f16 f17 f18 f19 f20 f21 f22 f23 f24 f25 f26 f27 f28 f29 f30 f31 f32 f33 f34 f35:Addr}
 {od0 an0 od1 an1 od2 an2 od3 an3 od4 an4 od5 an5 od6 an6 od7 an7 od8 an8 od9 an9 od10 an10 od11 an11 od12 an12 od13 an13 od14 an14 od15 an15 od16 an16 od17 an17 od18 an18 od19 an19 od20 an20 od21 an21 od22 an22 od23 an23 od24 an24 od25 an25 od26 an26 od27 an27 od28 an28 od29 an29 od30 an30 od31 an31 od32 an32 od33 an33 od34 an34 od35 an35:Option Addr}
 {sl0 sl1 sl2 sl3 sl4 sl5 sl6 sl7 sl8 sl9 sl10 sl11 sl12 sl13 sl14 sl15 sl16 sl17 sl18 sl19 sl20 sl21 sl22 sl23 sl24 sl25 sl26 sl27 sl28 sl29 sl30 sl31 sl32 sl33 sl34 sl35:Array (Option Value)}
 {oc0 kV0 dc0 pm0 ct0 cd0 oc1 kV1 dc1 pm1 ct1 cd1 oc2 kV2 dc2 pm2 ct2 cd2 oc3 kV3 dc3 pm3 ct3 cd3 oc4 kV4 dc4 pm4 ct4 cd4 oc5 kV5 dc5 pm5 ct5 cd5 oc6 kV6 dc6 pm6 ct6 cd6 oc7 kV7 dc7 pm7 ct7 cd7 oc8 kV8 dc8 pm8 ct8 cd8 oc9 kV9 dc9 pm9 ct9 cd9 oc10 kV10 dc10 pm10 ct10 cd10 oc11 kV11 dc11 pm11 ct11 cd11 oc12 kV12 dc12 pm12 ct12 cd12 oc13 kV13 dc13 pm13 ct13 cd13 oc14 kV14 dc14 pm14 ct14 cd14 oc15 kV15 dc15 pm15 ct15 cd15 oc16 kV16 dc16 pm16 ct16 oc17 kV17 dc17 pm17 ct17 cd17 oc18 kV18 dc18 pm18 ct18 cd18 oc19 kV19 dc19 pm19 ct19 cd19 oc20 kV20 dc20 pm20 ct20 cd20 oc21 kV21 dc21 pm21 ct21 cd21 oc22 kV22 dc22 pm22 ct22 cd22 oc23 kV23 dc23 pm23 ct23 cd23 oc24 kV24 dc24 pm24 ct24 cd24 oc25 kV25 dc25 pm25 ct25 cd25 oc26 kV26 dc26 pm26 ct26 cd26 oc27 kV27 dc27 pm27 ct27 cd27 oc28 kV28 dc28 pm28 ct28 cd28 oc29 kV29 dc29 pm29 ct29 cd29 oc30 kV30 dc30 pm30 ct30 cd30 oc31 kV31 dc31 pm31 ct31 cd31 oc32 kV32 dc32 pm32 ct32 cd32 oc33 kV33 dc33 pm33 ct33 cd33 oc34 kV34 dc34 pm34 ct34 cd34 oc35 kV35 dc35 pm35 ct35 cd35:Value}
 {c_ClanError:Addr}
 {c_NoRatio:Addr}
 {c_NoSpell:Addr}
 {c_TooLong:Addr}
 {t_MOST_SPELLS:Tok}
 {t_MOST_CLANS:Tok}
 {t_MOST_TURNS:Tok}
 (a0:PySem.W.nsIn K mainGlobals "_law_mixed" = some (some (.ref f0)))
 (l0:K.lookup f0=some ⟨oc0,od0,.func (PySem.W.fnOf "_law_mixed" "_law_mixed" (zw JX) (zp JX) (ze JX) .none kV0 dc0 pm0 an0 cd0 ct0),sl0⟩)
 (c0:PySem.W.codeIn K cd0 "_law_mixed" = true)
 (k0:PySem.W.keepIn K (.ref f0)=true)
 (a1:PySem.W.nsIn K mainGlobals "_law_wide" = some (some (.ref f1)))
 (l1:K.lookup f1=some ⟨oc1,od1,.func (PySem.W.fnOf "_law_wide" "_law_wide" (zw J4) (zp J4) (ze J4) .none kV1 dc1 pm1 an1 cd1 ct1),sl1⟩)
 (c1:PySem.W.codeIn K cd1 "_law_wide" = true)
 (k1:PySem.W.keepIn K (.ref f1)=true)
 (a2:PySem.W.nsIn K mainGlobals "_law_weights" = some (some (.ref f2)))
 (l2:K.lookup f2=some ⟨oc2,od2,.func (PySem.W.fnOf "_law_weights" "_law_weights" (zw Jh) (zp Jh) (ze Jh) .none kV2 dc2 pm2 an2 cd2 ct2),sl2⟩)
 (c2:PySem.W.codeIn K cd2 "_law_weights" = true)
 (k2:PySem.W.keepIn K (.ref f2)=true)
 (a3:PySem.W.nsIn K mainGlobals "check_weights" = some (some (.ref f3)))
 (l3:K.lookup f3=some ⟨oc3,od3,.func (PySem.W.fnOf "check_weights" "check_weights" (zw JR) (zp JR) (ze JR) .none kV3 dc3 pm3 an3 cd3 ct3),sl3⟩)
 (c3:PySem.W.codeIn K cd3 "check_weights" = true)
 (k3:PySem.W.keepIn K (.ref f3)=true)
 (a4:PySem.W.nsIn K mainGlobals "common_divisor" = some (some (.ref f4)))
 (l4:K.lookup f4=some ⟨oc4,od4,.func (PySem.W.fnOf "common_divisor" "common_divisor" (zw Zp) (zp Zp) (ze Zp) .none kV4 dc4 pm4 an4 cd4 ct4),sl4⟩)
 (c4:PySem.W.codeIn K cd4 "common_divisor" = true)
 (k4:PySem.W.keepIn K (.ref f4)=true)
 (a5:PySem.W.nsIn K mainGlobals "divisor_of_all" = some (some (.ref f5)))
 (l5:K.lookup f5=some ⟨oc5,od5,.func (PySem.W.fnOf "divisor_of_all" "divisor_of_all" (zw JQ) (zp JQ) (ze JQ) .none kV5 dc5 pm5 an5 cd5 ct5),sl5⟩)
 (c5:PySem.W.codeIn K cd5 "divisor_of_all" = true)
 (k5:PySem.W.keepIn K (.ref f5)=true)
 (a6:PySem.W.nsIn K mainGlobals "all_turns" = some (some (.ref f6)))
 (l6:K.lookup f6=some ⟨oc6,od6,.func (PySem.W.fnOf "all_turns" "all_turns" (zw Jv) (zp Jv) (ze Jv) .none kV6 dc6 pm6 an6 cd6 ct6),sl6⟩)
 (c6:PySem.W.codeIn K cd6 "all_turns" = true)
 (k6:PySem.W.keepIn K (.ref f6)=true)
 (a7:PySem.W.nsIn K mainGlobals "check_spells" = some (some (.ref f7)))
 (l7:K.lookup f7=some ⟨oc7,od7,.func (PySem.W.fnOf "check_spells" "check_spells" (zw Jy) (zp Jy) (ze Jy) .none kV7 dc7 pm7 an7 cd7 ct7),sl7⟩)
 (c7:PySem.W.codeIn K cd7 "check_spells" = true)
 (k7:PySem.W.keepIn K (.ref f7)=true)
 (a8:PySem.W.nsIn K mainGlobals "least_bottom" = some (some (.ref f8)))
 (l8:K.lookup f8=some ⟨oc8,od8,.func (PySem.W.fnOf "least_bottom" "least_bottom" (zw Zi) (zp Zi) (ze Zi) .none kV8 dc8 pm8 an8 cd8 ct8),sl8⟩)
 (c8:PySem.W.codeIn K cd8 "least_bottom" = true)
 (k8:PySem.W.keepIn K (.ref f8)=true)
 (a9:PySem.W.nsIn K mainGlobals "shares_over" = some (some (.ref f9)))
 (l9:K.lookup f9=some ⟨oc9,od9,.func (PySem.W.fnOf "shares_over" "shares_over" (zw Jo) (zp Jo) (ze Jo) .none kV9 dc9 pm9 an9 cd9 ct9),sl9⟩)
 (c9:PySem.W.codeIn K cd9 "shares_over" = true)
 (k9:PySem.W.keepIn K (.ref f9)=true)
 (a10:PySem.W.nsIn K mainGlobals "quotas" = some (some (.ref f10)))
 (l10:K.lookup f10=some ⟨oc10,od10,.func (PySem.W.fnOf "quotas" "quotas" (zw j6) (zp j6) (ze j6) .none kV10 dc10 pm10 an10 cd10 ct10),sl10⟩)
 (c10:PySem.W.codeIn K cd10 "quotas" = true)
 (k10:PySem.W.keepIn K (.ref f10)=true)
 (a11:PySem.W.nsIn K mainGlobals "possible_rooms" = some (some (.ref f11)))
 (l11:K.lookup f11=some ⟨oc11,od11,.func (PySem.W.fnOf "possible_rooms" "possible_rooms" (zw J8) (zp J8) (ze J8) .none kV11 dc11 pm11 an11 cd11 ct11),sl11⟩)
 (c11:PySem.W.codeIn K cd11 "possible_rooms" = true)
 (k11:PySem.W.keepIn K (.ref f11)=true)
 (a12:PySem.W.nsIn K mainGlobals "is_late" = some (some (.ref f12)))
 (l12:K.lookup f12=some ⟨oc12,od12,.func (PySem.W.fnOf "is_late" "is_late" (zw Zd) (zp Zd) (ze Zd) .none kV12 dc12 pm12 an12 cd12 ct12),sl12⟩)
 (c12:PySem.W.codeIn K cd12 "is_late" = true)
 (k12:PySem.W.keepIn K (.ref f12)=true)
 (a13:PySem.W.nsIn K mainGlobals "place_of_opened" = some (some (.ref f13)))
 (l13:K.lookup f13=some ⟨oc13,od13,.func (PySem.W.fnOf "place_of_opened" "place_of_opened" (zw JP) (zp JP) (ze JP) .none kV13 dc13 pm13 an13 cd13 ct13),sl13⟩)
 (c13:PySem.W.codeIn K cd13 "place_of_opened" = true)
 (k13:PySem.W.keepIn K (.ref f13)=true)
 (a14:PySem.W.nsIn K mainGlobals "start_of_crowd" = some (some (.ref f14)))
 (l14:K.lookup f14=some ⟨oc14,od14,.func (PySem.W.fnOf "start_of_crowd" "start_of_crowd" (zw J2) (zp J2) (ze J2) .none kV14 dc14 pm14 an14 cd14 ct14),sl14⟩)
 (c14:PySem.W.codeIn K cd14 "start_of_crowd" = true)
 (k14:PySem.W.keepIn K (.ref f14)=true)
 (a15:PySem.W.nsIn K mainGlobals "pressing" = some (some (.ref f15)))
 (l15:K.lookup f15=some ⟨oc15,od15,.func (PySem.W.fnOf "pressing" "pressing" (zw Za) (zp Za) (ze Za) .none kV15 dc15 pm15 an15 cd15 ct15),sl15⟩)
 (c15:PySem.W.codeIn K cd15 "pressing" = true)
 (k15:PySem.W.keepIn K (.ref f15)=true)
 (a16:PySem.W.nsIn K mainGlobals "deal" = some (some (.ref f16)))
 (l16:K.lookup f16=some ⟨oc16,od16,.func (PySem.W.fnOf "deal" "deal" (zw jw) (zp jw) (ze jw) .none kV16 dc16 pm16 an16 (.ref cx0) ct16),sl16⟩)
 (c16:PySem.W.codeIn K (.ref cx0) "deal" = true)
 (k16:PySem.W.keepIn K (.ref f16)=true)
 (a17:PySem.W.nsIn K mainGlobals "first_turn" = some (some (.ref f17)))
 (l17:K.lookup f17=some ⟨oc17,od17,.func (PySem.W.fnOf "first_turn" "first_turn" (zw JJ) (zp JJ) (ze JJ) .none kV17 dc17 pm17 an17 cd17 ct17),sl17⟩)
 (c17:PySem.W.codeIn K cd17 "first_turn" = true)
 (k17:PySem.W.keepIn K (.ref f17)=true)
 (a18:PySem.W.nsIn K mainGlobals "window_of" = some (some (.ref f18)))
 (l18:K.lookup f18=some ⟨oc18,od18,.func (PySem.W.fnOf "window_of" "window_of" (zw Zc) (zp Zc) (ze Zc) .none kV18 dc18 pm18 an18 cd18 ct18),sl18⟩)
 (c18:PySem.W.codeIn K cd18 "window_of" = true)
 (k18:PySem.W.keepIn K (.ref f18)=true)
 (a19:PySem.W.nsIn K mainGlobals "windows_of_clan" = some (some (.ref f19)))
 (l19:K.lookup f19=some ⟨oc19,od19,.func (PySem.W.fnOf "windows_of_clan" "windows_of_clan" (zw Jk) (zp Jk) (ze Jk) .none kV19 dc19 pm19 an19 cd19 ct19),sl19⟩)
 (c19:PySem.W.codeIn K cd19 "windows_of_clan" = true)
 (k19:PySem.W.keepIn K (.ref f19)=true)
 (a20:PySem.W.nsIn K mainGlobals "windows_within" = some (some (.ref f20)))
 (l20:K.lookup f20=some ⟨oc20,od20,.func (PySem.W.fnOf "windows_within" "windows_within" (zw J6) (zp J6) (ze J6) .none kV20 dc20 pm20 an20 cd20 ct20),sl20⟩)
 (c20:PySem.W.codeIn K cd20 "windows_within" = true)
 (k20:PySem.W.keepIn K (.ref f20)=true)
 (a21:PySem.W.nsIn K mainGlobals "dealt_within" = some (some (.ref f21)))
 (l21:K.lookup f21=some ⟨oc21,od21,.func (PySem.W.fnOf "dealt_within" "dealt_within" (zw Ju) (zp Ju) (ze Ju) .none kV21 dc21 pm21 an21 cd21 ct21),sl21⟩)
 (c21:PySem.W.codeIn K cd21 "dealt_within" = true)
 (k21:PySem.W.keepIn K (.ref f21)=true)
 (a22:PySem.W.nsIn K mainGlobals "least_room" = some (some (.ref f22)))
 (l22:K.lookup f22=some ⟨oc22,od22,.func (PySem.W.fnOf "least_room" "least_room" (zw Jz) (zp Jz) (ze Jz) .none kV22 dc22 pm22 an22 cd22 ct22),sl22⟩)
 (c22:PySem.W.codeIn K cd22 "least_room" = true)
 (k22:PySem.W.keepIn K (.ref f22)=true)
 (a23:PySem.W.nsIn K mainGlobals "is_whole" = some (some (.ref f23)))
 (l23:K.lookup f23=some ⟨oc23,od23,.func (PySem.W.fnOf "is_whole" "is_whole" (zw Zn) (zp Zn) (ze Zn) .none kV23 dc23 pm23 an23 cd23 ct23),sl23⟩)
 (c23:PySem.W.codeIn K cd23 "is_whole" = true)
 (k23:PySem.W.keepIn K (.ref f23)=true)
 (a24:PySem.W.nsIn K mainGlobals "ratio" = some (some (.ref f24)))
 (l24:K.lookup f24=some ⟨oc24,od24,.func (PySem.W.fnOf "ratio" "ratio" (zw Zl) (zp Zl) (ze Zl) .none kV24 dc24 pm24 an24 cd24 ct24),sl24⟩)
 (c24:PySem.W.codeIn K cd24 "ratio" = true)
 (k24:PySem.W.keepIn K (.ref f24)=true)
 (a25:PySem.W.nsIn K mainGlobals "least" = some (some (.ref f25)))
 (l25:K.lookup f25=some ⟨oc25,od25,.func (PySem.W.fnOf "least" "least" (zw Zm) (zp Zm) (ze Zm) .none kV25 dc25 pm25 an25 cd25 ct25),sl25⟩)
 (c25:PySem.W.codeIn K cd25 "least" = true)
 (k25:PySem.W.keepIn K (.ref f25)=true)
 (a26:PySem.W.nsIn K mainGlobals "round_of" = some (some (.ref f26)))
 (l26:K.lookup f26=some ⟨oc26,od26,.func (PySem.W.fnOf "round_of" "round_of" (zw JL) (zp JL) (ze JL) .none kV26 dc26 pm26 an26 cd26 ct26),sl26⟩)
 (c26:PySem.W.codeIn K cd26 "round_of" = true)
 (k26:PySem.W.keepIn K (.ref f26)=true)
 (a27:PySem.W.nsIn K mainGlobals "_law_period" = some (some (.ref f27)))
 (l27:K.lookup f27=some ⟨oc27,od27,.func (PySem.W.fnOf "_law_period" "_law_period" (zw JD) (zp JD) (ze JD) .none kV27 dc27 pm27 an27 cd27 ct27),sl27⟩)
 (c27:PySem.W.codeIn K cd27 "_law_period" = true)
 (k27:PySem.W.keepIn K (.ref f27)=true)
 (a28:PySem.W.nsIn K mainGlobals "_law_quotas" = some (some (.ref f28)))
 (l28:K.lookup f28=some ⟨oc28,od28,.func (PySem.W.fnOf "_law_quotas" "_law_quotas" (zw Jb) (zp Jb) (ze Jb) .none kV28 dc28 pm28 an28 cd28 ct28),sl28⟩)
 (c28:PySem.W.codeIn K cd28 "_law_quotas" = true)
 (k28:PySem.W.keepIn K (.ref f28)=true)
 (a29:PySem.W.nsIn K mainGlobals "_law_cell_at" = some (some (.ref f29)))
 (l29:K.lookup f29=some ⟨oc29,od29,.func (PySem.W.fnOf "_law_cell_at" "_law_cell_at" (zw Ze) (zp Ze) (ze Ze) .none kV29 dc29 pm29 an29 cd29 ct29),sl29⟩)
 (c29:PySem.W.codeIn K cd29 "_law_cell_at" = true)
 (k29:PySem.W.keepIn K (.ref f29)=true)
 (a30:PySem.W.nsIn K mainGlobals "_law_whole" = some (some (.ref f30)))
 (l30:K.lookup f30=some ⟨oc30,od30,.func (PySem.W.fnOf "_law_whole" "_law_whole" (zw JZ) (zp JZ) (ze JZ) .none kV30 dc30 pm30 an30 cd30 ct30),sl30⟩)
 (c30:PySem.W.codeIn K cd30 "_law_whole" = true)
 (k30:PySem.W.keepIn K (.ref f30)=true)
 (a31:PySem.W.nsIn K mainGlobals "_law_is_row" = some (some (.ref f31)))
 (l31:K.lookup f31=some ⟨oc31,od31,.func (PySem.W.fnOf "_law_is_row" "_law_is_row" (zw JY) (zp JY) (ze JY) .none kV31 dc31 pm31 an31 cd31 ct31),sl31⟩)
 (c31:PySem.W.codeIn K cd31 "_law_is_row" = true)
 (k31:PySem.W.keepIn K (.ref f31)=true)
 (a32:PySem.W.nsIn K mainGlobals "_law_ratio" = some (some (.ref f32)))
 (l32:K.lookup f32=some ⟨oc32,od32,.func (PySem.W.fnOf "_law_ratio" "_law_ratio" (zw JE) (zp JE) (ze JE) .none kV32 dc32 pm32 an32 cd32 ct32),sl32⟩)
 (c32:PySem.W.codeIn K cd32 "_law_ratio" = true)
 (k32:PySem.W.keepIn K (.ref f32)=true)
 (a33:PySem.W.nsIn K mainGlobals "_law_is_ratio" = some (some (.ref f33)))
 (l33:K.lookup f33=some ⟨oc33,od33,.func (PySem.W.fnOf "_law_is_ratio" "_law_is_ratio" (zw JW) (zp JW) (ze JW) .none kV33 dc33 pm33 an33 cd33 ct33),sl33⟩)
 (c33:PySem.W.codeIn K cd33 "_law_is_ratio" = true)
 (k33:PySem.W.keepIn K (.ref f33)=true)
 (a34:PySem.W.nsIn K mainGlobals "_law_far" = some (some (.ref f34)))
 (l34:K.lookup f34=some ⟨oc34,od34,.func (PySem.W.fnOf "_law_far" "_law_far" (zw Jl) (zp Jl) (ze Jl) .none kV34 dc34 pm34 an34 cd34 ct34),sl34⟩)
 (c34:PySem.W.codeIn K cd34 "_law_far" = true)
 (k34:PySem.W.keepIn K (.ref f34)=true)
 (a35:PySem.W.nsIn K mainGlobals "law" = some (some (.ref f35)))
 (l35:K.lookup f35=some ⟨oc35,od35,.func (PySem.W.fnOf "law" "law" (zw Jq) (zp Jq) (ze Jq) .none kV35 dc35 pm35 an35 cd35 ct35),sl35⟩)
 (c35:PySem.W.codeIn K cd35 "law" = true)
 (k35:PySem.W.keepIn K (.ref f35)=true)
 (q1:K.lookup cx0=some ⟨.type "code", odx,.fields vsx,slx⟩)
 (q2:vsx[11]?=some (.ref tbx))
 (q3:vsx.getD 11 .none=.ref tbx)
 (q4:vsx.getD 18 .none=.str flx tx1)
 (q5:vsx.getD 7 .none=.int ix1 tx2)
 (q6:vsx.getD 9 .none=.bool bx)
 (q7:vsx.getD 10 .none=.int ix2 tx3)
 (q8:cx0≠tbx)
 (q9:K.lookup tbx=none)
 (m_ClanError:PySem.W.nsIn K mainGlobals "ClanError" = some (some (.ref c_ClanError)))
 (m_NoRatio:PySem.W.nsIn K mainGlobals "NoRatio" = some (some (.ref c_NoRatio)))
 (m_NoSpell:PySem.W.nsIn K mainGlobals "NoSpell" = some (some (.ref c_NoSpell)))
 (m_TooLong:PySem.W.nsIn K mainGlobals "TooLong" = some (some (.ref c_TooLong)))
 (e_NoSpell:PySem.W.excIn K c_NoSpell [.type "ValueError", .type "Exception", .type "BaseException", .type "object"] "ValueError.__new__" = true)
 (e_NoRatio:PySem.W.excIn K c_NoRatio [.type "ValueError", .type "Exception", .type "BaseException", .type "object"] "ValueError.__new__" = true)
 (e_TooLong:PySem.W.excIn K c_TooLong [.type "ValueError", .type "Exception", .type "BaseException", .type "object"] "ValueError.__new__" = true)
 (n_abs:PySem.W.nsIn K mainGlobals "abs" = some none)
 (n_bool:PySem.W.nsIn K mainGlobals "bool" = some none)
 (n_enumerate:PySem.W.nsIn K mainGlobals "enumerate" = some none)
 (n_int:PySem.W.nsIn K mainGlobals "int" = some none)
 (n_isinstance:PySem.W.nsIn K mainGlobals "isinstance" = some none)
 (n_len:PySem.W.nsIn K mainGlobals "len" = some none)
 (n_list:PySem.W.nsIn K mainGlobals "list" = some none)
 (n_max:PySem.W.nsIn K mainGlobals "max" = some none)
 (n_min:PySem.W.nsIn K mainGlobals "min" = some none)
 (n_range:PySem.W.nsIn K mainGlobals "range" = some none)
 (n_sorted:PySem.W.nsIn K mainGlobals "sorted" = some none)
 (n_sum:PySem.W.nsIn K mainGlobals "sum" = some none)
 (n_tuple:PySem.W.nsIn K mainGlobals "tuple" = some none)
 (n_zip:PySem.W.nsIn K mainGlobals "zip" = some none)
 (m_MOST_SPELLS:PySem.W.nsIn K mainGlobals "MOST_SPELLS" = some (some (.int 8 t_MOST_SPELLS)))
 (m_MOST_CLANS:PySem.W.nsIn K mainGlobals "MOST_CLANS" = some (some (.int 8 t_MOST_CLANS)))
 (m_MOST_TURNS:PySem.W.nsIn K mainGlobals "MOST_TURNS" = some (some (.int 60 t_MOST_TURNS))):∃ c:Law.Cl,Txt c K mg:=
 ⟨⟨c_ClanError,c_NoRatio,c_NoSpell,c_TooLong,cx0,tbx⟩,{
  d_law_mixed:=⟨f0,_,zz (st:=JX) l0 c0 k0,Wby X G a0⟩,
  d_law_wide:=⟨f1,_,zz (st:=J4) l1 c1 k1,Wby X G a1⟩,
  d_law_weights:=⟨f2,_,zz (st:=Jh) l2 c2 k2,Wby X G a2⟩,
  d_check_weights:=⟨f3,_,zz (st:=JR) l3 c3 k3,Wby X G a3⟩,
  d_common_divisor:=⟨f4,_,zz (st:=Zp) l4 c4 k4,Wby X G a4⟩,
  d_divisor_of_all:=⟨f5,_,zz (st:=JQ) l5 c5 k5,Wby X G a5⟩,
  d_all_turns:=⟨f6,_,zz (st:=Jv) l6 c6 k6,Wby X G a6⟩,
  d_check_spells:=⟨f7,_,zz (st:=Jy) l7 c7 k7,Wby X G a7⟩,
  d_least_bottom:=⟨f8,_,zz (st:=Zi) l8 c8 k8,Wby X G a8⟩,
  d_shares_over:=⟨f9,_,zz (st:=Jo) l9 c9 k9,Wby X G a9⟩,
  d_quotas:=⟨f10,_,zz (st:=j6) l10 c10 k10,Wby X G a10⟩,
  d_possible_rooms:=⟨f11,_,zz (st:=J8) l11 c11 k11,Wby X G a11⟩,
  d_is_late:=⟨f12,_,zz (st:=Zd) l12 c12 k12,Wby X G a12⟩,
  d_place_of_opened:=⟨f13,_,zz (st:=JP) l13 c13 k13,Wby X G a13⟩,
  d_start_of_crowd:=⟨f14,_,zz (st:=J2) l14 c14 k14,Wby X G a14⟩,
  d_pressing:=⟨f15,_,zz (st:=Za) l15 c15 k15,Wby X G a15⟩,
  d_deal:=⟨f16,_,zz (st:=jw) l16 c16 k16,Wby X G a16⟩,
  d_first_turn:=⟨f17,_,zz (st:=JJ) l17 c17 k17,Wby X G a17⟩,
  d_window_of:=⟨f18,_,zz (st:=Zc) l18 c18 k18,Wby X G a18⟩,
  d_windows_of_clan:=⟨f19,_,zz (st:=Jk) l19 c19 k19,Wby X G a19⟩,
  d_windows_within:=⟨f20,_,zz (st:=J6) l20 c20 k20,Wby X G a20⟩,
  d_dealt_within:=⟨f21,_,zz (st:=Ju) l21 c21 k21,Wby X G a21⟩,
  d_least_room:=⟨f22,_,zz (st:=Jz) l22 c22 k22,Wby X G a22⟩,
  d_is_whole:=⟨f23,_,zz (st:=Zn) l23 c23 k23,Wby X G a23⟩,
  d_ratio:=⟨f24,_,zz (st:=Zl) l24 c24 k24,Wby X G a24⟩,
  d_least:=⟨f25,_,zz (st:=Zm) l25 c25 k25,Wby X G a25⟩,
  d_round_of:=⟨f26,_,zz (st:=JL) l26 c26 k26,Wby X G a26⟩,
  d_law_period:=⟨f27,_,zz (st:=JD) l27 c27 k27,Wby X G a27⟩,
  d_law_quotas:=⟨f28,_,zz (st:=Jb) l28 c28 k28,Wby X G a28⟩,
  d_law_cell_at:=⟨f29,_,zz (st:=Ze) l29 c29 k29,Wby X G a29⟩,
  d_law_whole:=⟨f30,_,zz (st:=JZ) l30 c30 k30,Wby X G a30⟩,
  d_law_is_row:=⟨f31,_,zz (st:=JY) l31 c31 k31,Wby X G a31⟩,
  d_law_ratio:=⟨f32,_,zz (st:=JE) l32 c32 k32,Wby X G a32⟩,
  d_law_is_ratio:=⟨f33,_,zz (st:=JW) l33 c33 k33,Wby X G a33⟩,
  d_law_far:=⟨f34,_,zz (st:=Jl) l34 c34 k34,Wby X G a34⟩,
  d_law:=⟨f35,_,zz (st:=Jq) l35 c35 k35,Wby X G a35⟩,
  x_deal:=⟨f16,_,zz (st:=jw) l16 c16 k16,Wby X G a16,rfl⟩,
  hdC:=fun h kh=>⟨_,vsx,flx,tx1,ix1,tx2,bx,ix2,tx3,kh _ _ q1,rfl,rfl,q2,q3,q4,q5,q6,q7,q8⟩,
  tab:=zf8 a16 l16 rfl q1 q2,
  nop:=q9,
  m_ClanError:=Wby X G m_ClanError,
  m_NoRatio:=Wby X G m_NoRatio,
  m_NoSpell:=Wby X G m_NoSpell,
  m_TooLong:=Wby X G m_TooLong,
  e_NoSpell:=e_NoSpell,
  e_NoRatio:=e_NoRatio,
  e_TooLong:=e_TooLong,
  n_abs:=WaL X G n_abs,
  n_bool:=WaL X G n_bool,
  n_enumerate:=WaL X G n_enumerate,
  n_int:=WaL X G n_int,
  n_isinstance:=WaL X G n_isinstance,
  n_len:=WaL X G n_len,
  n_list:=WaL X G n_list,
  n_max:=WaL X G n_max,
  n_min:=WaL X G n_min,
  n_range:=WaL X G n_range,
  n_sorted:=WaL X G n_sorted,
  n_sum:=WaL X G n_sum,
  n_tuple:=WaL X G n_tuple,
  n_zip:=WaL X G n_zip,
  m_MOST_SPELLS:=⟨_,Wby X G m_MOST_SPELLS⟩,
  m_MOST_CLANS:=⟨_,Wby X G m_MOST_CLANS⟩,
  m_MOST_TURNS:=⟨_,Wby X G m_MOST_TURNS⟩ }⟩
section
variable{P:Program}{w:World}{c:Law.Cl}{K:Ybf}{mg:Str->Option Value}{base:Heap}
theorem zkR(T:Txt c K mg):dd_law_mixed P w K mg base:=zjV T
theorem zni(T:Txt c K mg):dd_law_wide P w K mg base:=zgk T (zkR T)
theorem zmP(T:Txt c K mg):dd_law_weights P w K mg base:=zn5 T (zni T)
theorem zfu(T:Txt c K mg):dd_check_weights c P w K mg base:=zh4 T
theorem zcX(T:Txt c K mg):dd_common_divisor P w K mg base:=zoa T
theorem zdY(T:Txt c K mg):dd_divisor_of_all P w K mg base:=zmU T (zcX T)
theorem zkG(T:Txt c K mg):dd_all_turns P w K mg base:=zgj T
theorem zl0(T:Txt c K mg):dd_check_spells c P w K mg base:=zhl T (zfu T) (zkG T)
theorem zl6(T:Txt c K mg):dd_least_bottom P w K mg base:=zmV T (zdY T) (zcX T)
theorem zjR(T:Txt c K mg):dd_shares_over P w K mg base:=znt T
theorem zl5(T:Txt c K mg):dd_quotas c P w K mg base:=zir T (zl0 T) (zl6 T) (zjR T)
theorem zof(T:Txt c K mg):dd_possible_rooms P w K mg base:=zm4 T
theorem zkI(T:Txt c K mg):dd_is_late P w K mg base:=zgb T
theorem zix(T:Txt c K mg):dd_place_of_opened P w K mg base:=zkK T
theorem zmh(T:Txt c K mg):dd_start_of_crowd P w K mg base:=zjF T
theorem zjD(T:Txt c K mg):dd_pressing P w K mg base:=zkU T
theorem znZ(T:Txt c K mg)(hB:BMod mg base)(kb:K.In base):dd_deal c P w K mg base:=ziy T hB kb (zkI T) (zix T) (zmh T) (zjD T)
theorem znL(T:Txt c K mg):dd_first_turn P w K mg base:=zkl T
theorem zgU(T:Txt c K mg):dd_window_of P w K mg base:=zhi T (znL T)
theorem zj8(T:Txt c K mg):dd_windows_of_clan P w K mg base:=zkx T (zgU T)
theorem znm(T:Txt c K mg):dd_windows_within P w K mg base:=zhx T (zj8 T)
theorem zfe(T:Txt c K mg)(hB:BMod mg base)(kb:K.In base):dd_dealt_within c P w K mg base:=zj7 T (znZ T hB kb) (znm T)
theorem zi2(T:Txt c K mg)(hB:BMod mg base)(kb:K.In base):dd_least_room c P w K mg base:=ziq T (zof T) (zfe T hB kb)
theorem zh5(T:Txt c K mg):dd_is_whole P w K mg base:=zmZ T
theorem zl1(T:Txt c K mg):dd_ratio P w K mg base:=zg0 T (zcX T) (zh5 T)
theorem zea(T:Txt c K mg)(hB:BMod mg base)(kb:K.In base):dd_least c P w K mg base:=zmu T (zl5 T) (zi2 T hB kb) (zfe T hB kb) (zl1 T)
theorem zgi(T:Txt c K mg)(hB:BMod mg base)(kb:K.In base):dd_round_of c P w K mg base:=zh1 T (zfu T) (zdY T) (zea T hB kb)
theorem zhd(T:Txt c K mg):dd_law_period P w K mg base:=zkv T
theorem ziV(T:Txt c K mg):dd_law_quotas P w K mg base:=zif T
theorem zh6(T:Txt c K mg):dd_law_cell_at P w K mg base:=zkH T
theorem zbS(T:Txt c K mg):dd_law_whole P w K mg base:=zgD T
theorem zhM(T:Txt c K mg):dd_law_is_row P w K mg base:=zlg T (zbS T)
theorem zdo(T:Txt c K mg):dd_law_ratio P w K mg base:=zhO T
theorem zgv(T:Txt c K mg):dd_law_is_ratio P w K mg base:=ziC T (zdo T) (zbS T)
theorem zkt(T:Txt c K mg):dd_law_far P w K mg base:=zgF T
theorem zji(T:Txt c K mg)(hB:BMod mg base)(kb:K.In base){f:Addr}{fd:FuncData}(F:Fun K "law" "law" Jq f fd):FnOk P w K mg base (CXR P w) 10 f fd ["_law_script"] (spU c.tb K Zh):=zno T (zmP T) (zgi T hB kb) (zhd T) (ziV T) (zh6 T) (zhM T) (zdo T) (zbS T) (zgv T) (zkt T) (zea T hB kb) F
end
theorem walk{l:PySem.W.OpenLaw}{q:Program}{loose:List Str}{XP:(Str->Option Value)->Heap->Prop}{YP:World->Heap->Prop}{d dd:DefRec}{K:Params->Ybf}(hn:l.most=some 63)(hdf:d.params.defaults=[])(hdn:d.name = "law")
 (hrec:(recsOf q).find? (fun e=>e.name==("deal" : Str))=some dd) (hY:∀ (w:World) (h:Heap),YP w h->(K w.params).In h)
 (F:∀ (w:World) (mg:Str->Option Value) (h:Heap),(K w.params).In h->h.Ns mainGlobals mg->∃ c,Txt c (K w.params) mg) :
 PySem.W.WalkO q loose XP YP l.row.toRowW d [] (fun f vs=>PySem.call f vs):=by
 refine L3.zjg (n:=63) (k:=10) (x:="_law_script") (sp:=Zh) hn #[1] hdf ⟨rfl,#[1],#[1]⟩ hY hrec (fun w mg fa h KX G hmg=>?_) (fun ns hl Q E hQ=>⟨ns,rfl,hl,hQ _⟩)
 obtain⟨c,T⟩:=F w mg h KX G;obtain⟨f,fd,Fn,hm⟩:=T.d_law;rw [hdn,hm] at hmg;cases hmg;have Fn':=Fn;obtain⟨oc,od,kV,doc,pm,an,cdv,ct,osl,rfl,lk,hcd⟩:=Fn.ex;exact⟨_,c.c0,c.tb,fun s u=>.of_eq rfl,T.tab,T.nop,fun base kb hB=>zji T hB kb Fn'⟩
end Law
namespace PySem.W.Fast
theorem tw10297910797268442050:True:=trivial
theorem tw11160307937678819773:True:=trivial
theorem tw12121740149160157731:True:=trivial
theorem tw12132097811626614920:True:=trivial
theorem tw12784617344400975816:True:=trivial
theorem tw1307741872480468151:True:=trivial
theorem tw13589460925037695087:True:=trivial
theorem tw13787766673016395494:True:=trivial
theorem tw13969698809631054025:True:=trivial
theorem tw1427027749363476464:True:=trivial
theorem tw14297883502378551375:True:=trivial
theorem tw14420484757287076669:True:=trivial
theorem tw14458668402329564693:True:=trivial
theorem tw14558874471732692172:True:=trivial
theorem tw14562695976183189504:True:=trivial
theorem tw14618749420561732009:True:=trivial
theorem tw14794576638144167334:True:=trivial
theorem tw15548543019689398634:True:=trivial
theorem tw15681589129770166391:True:=trivial
theorem tw15887698456179394293:True:=trivial
theorem tw15939492509141128693:True:=trivial
theorem tw17310367423050472126:True:=trivial
theorem tw17550072331776848277:True:=trivial
theorem tw17872997957168147634:True:=trivial
theorem tw2162432959179766139:True:=trivial
theorem tw2531922314390996542:True:=trivial
theorem tw2743417447060510828:True:=trivial
theorem tw2827595773974889425:True:=trivial
theorem tw3192748860609753410:True:=trivial
theorem tw3258784182484169022:True:=trivial
theorem tw3272473853096584962:True:=trivial
theorem tw3363653413287044935:True:=trivial
theorem tw3719383735626559237:True:=trivial
theorem tw3789386264370326049:True:=trivial
theorem tw4213716260868272668:True:=trivial
theorem tw4287003901176717430:True:=trivial
theorem tw4376816802370590598:True:=trivial
theorem tw4620218865406999162:True:=trivial
theorem tw4910006078024084981:True:=trivial
theorem tw5260636798656018511:True:=trivial
theorem tw5734166774118061227:True:=trivial
theorem tw5808700072864924706:True:=trivial
theorem tw6475024304015226908:True:=trivial
theorem tw655444907276518313:True:=trivial
theorem tw6558435820994660162:True:=trivial
theorem tw6898848065821450045:True:=trivial
theorem tw7032612125412995619:True:=trivial
theorem tw7401854749210572515:True:=trivial
theorem tw741505316827383796:True:=trivial
theorem tw7478616444286859523:True:=trivial
theorem tw7951044984687200309:True:=trivial
theorem tw8089071149459931633:True:=trivial
theorem tw8262067437525463279:True:=trivial
theorem tw8869567574710263583:True:=trivial
theorem tw8890735262264390831:True:=trivial
theorem tw8900515911716934654:True:=trivial
theorem tw9040297654897903094:True:=trivial
theorem tw9112236164642342659:True:=trivial
theorem tw9383186228008518397:True:=trivial
theorem tw9397782046338259851:True:=trivial
end PySem.W.Fast
theorem PySem.W.Fast.te16655166374532329088:True:=trivial
abbrev PySem.W.Fast.tw11592597215579700588:PySem.Program:=PySem.Challenge.pw_chairclans_k25_a_row_that_comes_round
theorem PySem.W.Fast.te11592597215579700588:PySem.Challenge.pw_chairclans_k25_a_row_that_comes_round=PySem.W.Fast.tw11592597215579700588:=rfl
open PySem PySem.W PyProof.Rows
set_option maxRecDepth 100000 in
set_option maxHeartbeats 0 in
theorem PySem.Challenge.cw_chairclans_k25_a_row_that_comes_round_holds : PySem.Challenge.rw_chairclans_k25_a_row_that_comes_round.Holds := by
 w_on;o_law;k_head;(case hw=>w_witness2)
 k_fill
 refine Law.walk (l:=PySem.Challenge.rw_chairclans_k25_a_row_that_comes_round) rfl rfl rfl rfl (fun w h Y=>PySem.W.km_in_of Y) ?F
 case F=>
  intro w mg h KX G;refine' Law.zlm KX G ?a0 ?l0 ?c0 ?k0 ?a1 ?l1 ?c1 ?k1 ?a2 ?l2 ?c2 ?k2 ?a3 ?l3 ?c3 ?k3 ?a4 ?l4 ?c4 ?k4 ?a5 ?l5 ?c5 ?k5 ?a6 ?l6 ?c6 ?k6 ?a7 ?l7 ?c7 ?k7 ?a8 ?l8 ?c8 ?k8 ?a9 ?l9 ?c9 ?k9 ?a10 ?l10 ?c10 ?k10 ?a11 ?l11 ?c11 ?k11 ?a12 ?l12 ?c12 ?k12 ?a13 ?l13 ?c13 ?k13 ?a14 ?l14 ?c14 ?k14 ?a15 ?l15 ?c15 ?k15 ?a16 ?l16 ?c16 ?k16 ?a17 ?l17 ?c17 ?k17 ?a18 ?l18 ?c18 ?k18 ?a19 ?l19 ?c19 ?k19 ?a20 ?l20 ?c20 ?k20 ?a21 ?l21 ?c21 ?k21 ?a22 ?l22 ?c22 ?k22 ?a23 ?l23 ?c23 ?k23 ?a24 ?l24 ?c24 ?k24 ?a25 ?l25 ?c25 ?k25 ?a26 ?l26 ?c26 ?k26 ?a27 ?l27 ?c27 ?k27 ?a28 ?l28 ?c28 ?k28 ?a29 ?l29 ?c29 ?k29 ?a30 ?l30 ?c30 ?k30 ?a31 ?l31 ?c31 ?k31 ?a32 ?l32 ?c32 ?k32 ?a33 ?l33 ?c33 ?k33 ?a34 ?l34 ?c34 ?k34 ?a35 ?l35 ?c35 ?k35 ?q1 ?q2 ?q3 ?q4 ?q5 ?q6 ?q7 ?q8 ?q9 ?m_ClanError ?m_NoRatio ?m_NoSpell ?m_TooLong ?e_NoSpell ?e_NoRatio ?e_TooLong ?n_abs ?n_bool ?n_enumerate ?n_int ?n_isinstance ?n_len ?n_list ?n_max ?n_min ?n_range ?n_sorted ?n_sum ?n_tuple ?n_zip ?m_MOST_SPELLS ?m_MOST_CLANS ?m_MOST_TURNS
  (case a0|l0|c0|k0|a1|l1|c1|k1|a2|l2|c2|k2|a3|l3|c3|k3|a4|l4|c4|k4|a5|l5|c5|k5|a6|l6|c6|k6|a7|l7|c7|k7|a8|l8|c8|k8|a9|l9|c9|k9|a10|l10|c10|k10|a11|l11|c11|k11|a12|l12|c12|k12|a13|l13|c13|k13|a14|l14|c14|k14|a15|l15|c15|k15|a16|l16|c16|k16|a17|l17|c17|k17|a18|l18|c18|k18|a19|l19|c19|k19|a20|l20|c20|k20|a21|l21|c21|k21|a22|l22|c22|k22|a23|l23|c23|k23|a24|l24|c24|k24|a25|l25|c25|k25|a26|l26|c26|k26|a27|l27|c27|k27|a28|l28|c28|k28|a29|l29|c29|k29|a30|l30|c30|k30|a31|l31|c31|k31|a32|l32|c32|k32|a33|l33|c33|k33|a34|l34|c34|k34|a35|l35|c35|k35|q1=>k_is)
  (case q2|q3|q4|q5|q6|q7=>rfl)
  (case q8=>decide)
  (case q9=>kernel_rfl)
  (case m_ClanError|m_NoRatio|m_NoSpell|m_TooLong=>k_is)
  (case e_NoSpell|e_NoRatio|e_TooLong=>k_exc)
  (case n_abs|n_bool|n_enumerate|n_int|n_isinstance|n_len|n_list|n_max|n_min|n_range|n_sorted|n_sum|n_tuple|n_zip|m_MOST_SPELLS|m_MOST_CLANS|m_MOST_TURNS=>k_is)