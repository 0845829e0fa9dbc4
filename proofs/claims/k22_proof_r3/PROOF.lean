import PyProof.Rows.All
import Wide.All
import OpenK.AllK
import Wide.FinOn
import Lean
import PyProof.EqAt
import PyProof.EqKinds
import PyProof.TupleCall
import PySem.Challenge.RW_chairclans_k22_against_all_rows
set_option maxHeartbeats 4000000
set_option maxHeartbeats 4000000
local macro_rules | `(tactic| omega)=>`(tactic| first | lia | omega +splitDisjunctions | (dsimp only;omega +splitDisjunctions))
local macro_rules|`(#[0])=>`(by omega)|`(#[1])=>`(by decide)|`(#[2])=>`(by walk_at "o")|`(#[3])=>`(by decide +kernel)|`(#[4])=>`(fun _ _=>rfl)|`(#[5,$x])=>`(some (.sh true (.int $x)))|`(#[6])=>`(by simp;omega)|`(#[8,$x])=>`($x $(Lean.mkIdent `P) $(Lean.mkIdent `w) $(Lean.mkIdent `K) $(Lean.mkIdent `mg) $(Lean.mkIdent `base))
noncomputable section
abbrev Waa:=@PySem.F.slot_dict_keyiterator_next
abbrev Wab:=@PyProof.Rows.slot_tuple_getitem
abbrev Wac:=@Int.gcd_pos_of_ne_zero_right
abbrev Wad:=@Int.lt_ediv_add_one_mul_self
abbrev Wae:=@PyProof.Rows.callWith_type1
abbrev Waf:=@Int.eq_of_mul_eq_mul_right
abbrev Wag:=@List.nodup_iff_pairwise_ne
abbrev Wah:=@List.drop_eq_getElem_cons
abbrev Wai:=@List.pairwise_iff_getElem
abbrev Waj:=@List.getElem?_zip_eq_some
abbrev Wak:=@List.mem_or_eq_of_mem_set
abbrev Wal:=@Option.isSome_iff_exists
abbrev Wam:=@List.getElem?_take_of_lt
abbrev Wan:=@List.eq_of_mem_replicate
abbrev Wao:=@PySem.F.plainAttrs_list
abbrev Wap:=@List.length_eq_zero_iff
abbrev Waq:=@Int.eq_ofNat_of_zero_le
abbrev War:=@PySem.W.cellsFrom_some
abbrev Was:=@List.take_of_length_le
abbrev Wat:=@List.drop_eq_nil_of_le
abbrev Wau:=@List.getElem_cons_drop
abbrev Wav:=@PySem.F.slot_dict_iter
abbrev Waw:=@Array.getElem?_toList
abbrev Wax:=@List.getElem?_eq_none
abbrev Way:=@List.take_append_drop
abbrev Waz:=@List.eq_nil_or_concat
abbrev WaA:=@List.concat_eq_append
abbrev WaB:=@Array.toList_extract
abbrev WaC:=@PySem.mem_of_lookup
abbrev WaD:=@PySem.Heap.SameBut.update
abbrev WaE:=@PySem.Heap.get?_update_ne
abbrev WaF:=@Array.append_assoc
abbrev WaG:=@Nat.lt_of_le_of_lt
abbrev WaH:=@Bool.false_eq_true
abbrev WaI:=@Array.getElem?_map
abbrev WaJ:=@List.filter_append
abbrev WaK:=@PySem.PyData.tuple.injEq
abbrev WaL:=@Bool.true_eq_false
abbrev WaM:=@PySem.W.mg_none_of
abbrev WaN:=@Bool.not_eq_true'
abbrev WaO:=@Option.some.injEq
abbrev WaP:=@Nat.lt_succ_of_lt
abbrev WaQ:=@List.nodup_append
abbrev WaR:=@List.foldl_append
abbrev WaS:=@List.take_add_one
abbrev WaT:=@Array.toList_push
abbrev WaU:=@Array.map_reverse
abbrev WaV:=@PySem.Heap.get?_push_ne
abbrev WaW:=@List.pairwise_map
abbrev WaX:=@Int.gcd_dvd_right
abbrev WaY:=@Int.dvd_mul_right
abbrev WaZ:=@Int.mul_left_comm
abbrev Wa0:=@PySem.PyData.bool.injEq
abbrev Wa1:=@PySem.PyData.list.injEq
abbrev Wa2:=@PySem.PassesOwn.leaving
abbrev Wa3:=@List.getElem_inj
abbrev Wa4:=@Nat.lt_succ_self
abbrev Wa5:=@List.length_take
abbrev Wa6:=@List.length_drop
abbrev Wa7:=@List.all_eq_true
abbrev Wa8:=@Array.map_append
abbrev Wa9:=@PySem.Heap.size_update
abbrev Wba:=@Int.gcd_dvd_left
abbrev Wbb:=@List.mem_flatten
abbrev Wbc:=@PySem.PyData.int.injEq
abbrev Wbd:=@PySem.PyData.str.injEq
abbrev Wbe:=@Option.some.inj
abbrev Wbf:=@PySem.W.kia_one
abbrev Wbg:=@List.range_succ
abbrev Wbh:=@List.cons.injEq
abbrev Wbi:=@Int.ediv_nonneg
abbrev Wbj:=@List.sum_append
abbrev Wbk:=@PySem.Heap.size_push
abbrev Wbl:=@Array.size_map
abbrev Wbm:=@List.Perm.refl
abbrev Wbn:=@Bool.not_false
abbrev Wbo:=@List.mem_cons
abbrev Wbp:=@Bool.or_false
abbrev Wbq:=@Bool.true_and
abbrev Wbr:=@Bool.false_or
abbrev Wbs:=@Bool.and_self
abbrev Wbt:=@Bool.not_true
abbrev Wbu:=@Int.dvd_trans
abbrev Wbv:=@Bool.and_true
abbrev Wbw:=@PySem.W.mg_of
abbrev Wbx:=@Nat.le_of_lt
abbrev Wby:=@Nat.ne_of_gt
abbrev Wbz:=@List.map_nil
abbrev WbA:=@Bool.true_or
abbrev WbB:=@Nat.zero_add
abbrev WbC:=@Nat.sub_self
abbrev WbD:=@Int.mul_comm
abbrev WbE:=@Int.le_of_lt
abbrev WbF:=@Bool.or_true
abbrev WbG:=@Nat.zero_le
abbrev WbH:=@Int.add_mul
abbrev WbI:=@Int.le_refl
abbrev WbJ:=@Int.sub_mul
abbrev WbK:=@Int.one_mul
abbrev WbL:=@Ne.symm
abbrev Yaa:=@List.mem_append_right
abbrev Yab:=@List.getElem?_append_left
abbrev Yac:=@List.getElem?_set_ne
abbrev Yad:=@List.getElem?_replicate
abbrev Yae:=@List.getElem?_append_right
abbrev Yaf:=@Nat.ne_of_lt
abbrev Yag:=@List.append_assoc
abbrev Yah:=@List.mem_of_getElem?
abbrev Yai:=@List.mem_append_left
abbrev Yaj:=@Array.getD_eq_getD_getElem?
abbrev Yak:=@Bool.and_eq_true
abbrev Yal:=@Bool.false_ne_true
abbrev Yam:=@List.getElem_of_mem
abbrev Yan:=@PySem.Heap.get?_push_size
abbrev Yao:=@List.append_nil
abbrev Yap:=@Nat.lt_irrefl
abbrev Yaq:=@Array.map_extract
abbrev Yar:=@Array.toList_append
abbrev Yas:=@List.getElem?_set_self
abbrev Yat:=@List.map_congr_left
abbrev Yav:=@List.take_succ_eq_append_getElem
abbrev Yaw:=@Int.ediv_mul_cancel
abbrev Yax:=@List.getElem?_range
abbrev Yaz:=@List.map_replicate
abbrev YaB:=@List.nodup_cons
abbrev YaC:=@List.pairwise_cons
abbrev YaD:=@List.map_map
abbrev YaE:=@List.flatten_append
abbrev YaF:=@Int.le_of_mul_le_mul_right
abbrev YaG:=@List.length_range
abbrev YaH:=@List.take_length
abbrev YaJ:=@Option.map_eq_some_iff
abbrev YaK:=@Int.mul_nonneg
abbrev YaM:=@List.filter_cons
abbrev YaN:=@List.length_set
abbrev YaP:=@List.getD_eq_getElem?_getD
abbrev YaQ:=@List.getElem?_eq_getElem
abbrev YaR:=@List.length_map
abbrev YaS:=@List.length_append
abbrev YaT:=@List.mem_cons_of_mem
abbrev YaU:=@Nat.lt_of_lt_of_le
abbrev YaV:=@List.mem_cons_self
abbrev YaW:=@PySem.Heap.get?_push_of_some
abbrev YaX:=@PySem.Heap.lt_size
abbrev YaY:=@Nat.le_refl
abbrev YaZ:=@List.size_toArray
abbrev Ya0:=@List.getElem?_map
abbrev Ya1:=@List.map_cons
abbrev Ya2:=@List.map_append
abbrev Ya3:=@List.mem_append
abbrev Ya4:=@List.getElem_mem
abbrev Ya5:=@Nat.le_trans
abbrev Ya6:=@List.mem_singleton
abbrev Ya7:=@List.mem_map
abbrev Ya8:=@List.getElem?_eq_some_iff
abbrev Ya9:=@List.mem_filter
abbrev Yba:=@List.mem_range
abbrev Ybb:=@List.length_replicate
abbrev Ybc:=@Int.emod_nonneg
abbrev Ybd:=@Int.emod_lt_of_pos
abbrev Ybe:=@Int.mul_le_mul_of_nonneg_right
abbrev Ybf:=PySem.W.Frag
section
set_option Elab.async false
set_option linter.all false
set_option maxRecDepth 100000
namespace L2
open PySem PySem.Spec PyProof.Rows
abbrev Key:=Sum Int Str
def Zr:Key->Value->Bool
 | .inl k,v=>Value.isInt k v
 | .inr x,v=>Value.isStrOf x v
def keyH(w:World):Key->Int
 | .inl k=>hashInt k
 | .inr x=>hashStr w x
theorem jz:∀ {k:Key} {v:Value},Zr k v=true->(∃ i t,k=Sum.inl i/\v=Value.int i t)\/(∃ x t,k=Sum.inr x/\v=Value.str x t)
 | .inl i, v, h => by
  obtain⟨t,e⟩:=Value.isInt_shape (k:=i) (v:=v) h;exact .inl ⟨i,t,rfl,e⟩
 | .inr x, v, h => by
  obtain⟨t,e⟩:=Value.isStrOf_shape (x:=x) (v:=v) h;exact .inr ⟨x,t,rfl,e⟩
theorem zic(i:Int)(t:Tok):Zr (.inl i) (.int i t)=true:=by simp [Zr,Value.isInt]
theorem zlD(x:Str)(t:Tok):Zr (.inr x) (.str x t)=true:=by simp [Zr,Value.isStrOf]
theorem zld(a b:Int):decide ((Sum.inl a:Key)=Sum.inl b)=(a==b):=by
 by_cases e:a=b
 . subst e;simp
 . have h:¬(Sum.inl a:Key)=Sum.inl b:=fun q=>e (Sum.inl.inj q)
   rw [decide_eq_false h];exact(beq_eq_false_iff_ne.mpr e).symm
theorem zlm(a b:Str):decide ((Sum.inr a:Key)=Sum.inr b)=decide (a=b):=by
 by_cases e:a=b
 . subst e;simp
 . have h:¬(Sum.inr a:Key)=Sum.inr b:=fun q=>e (Sum.inr.inj q)
   rw [decide_eq_false h,decide_eq_false e]
theorem zkU(a:Int)(b:Str):decide ((Sum.inl a:Key)=Sum.inr b)=false:=decide_eq_false (fun q=>nomatch q)
theorem zhI(a:Str)(b:Int):decide ((Sum.inr a:Key)=Sum.inl b)=false:=decide_eq_false (fun q=>nomatch q)
def zW(prog:Program)(w:World):PySem.KeyKind prog w Key where
 is:=Zr
 hash:=keyH w
 inj:=fun v a b ha hb=>by
  rcases jz ha with ⟨i,t,rfl,rfl⟩|⟨x,t,rfl,rfl⟩
  . rcases jz hb with ⟨j,u,rfl,e⟩|⟨y,u,rfl,e⟩
    . injection e with e1 _;rw [e1]
    . exact nomatch e
  . rcases jz hb with ⟨j,u,rfl,e⟩|⟨y,u,rfl,e⟩
    . exact nomatch e
    . injection e with e1 _;rw [e1]
 byValue:=fun k v h=>by
  rcases jz h with ⟨i,t,rfl,rfl⟩|⟨x,t,rfl,rfl⟩<;>rfl
 pyHash:=fun hv h=>by
  rcases jz hv with ⟨i,t,rfl,rfl⟩|⟨x,t,rfl,rfl⟩
  . exact wpAny_pyHash_int h
  . exact wpAny_pyHash_str h
 eqBool:=fun hu hv h=>by
  rcases jz hu with ⟨i,t,rfl,rfl⟩|⟨x,t,rfl,rfl⟩
  . rcases jz hv with ⟨j,u,rfl,rfl⟩|⟨y,u,rfl,rfl⟩
    . rw [zld] at h;exact wpAny_eqBool_int h
    . rw [zkU] at h;exact SeqAt.EqAt.int_str i t y u _ _ _ _ h
  . rcases jz hv with ⟨j,u,rfl,rfl⟩|⟨y,u,rfl,rfl⟩
    . rw [zhI] at h;exact SeqAt.EqAt.str_int x t j u _ _ _ _ h
    . rw [zlm] at h;exact wpAny_eqBool_str h
 «strs»:=fun k x t v h=>by
  rcases jz h with ⟨i,u,rfl,e⟩|⟨y,u,rfl,e⟩
  . exact nomatch e
  . injection e with e1 _
    subst e1;cases v<;>rfl
theorem zji(prog:Program)(w:World)(i:Int)(t:Tok):(zW prog w).is (.inl i) (.int i t)=true:=zic i t
theorem zlq(prog:Program)(w:World)(x:Str)(t:Tok):(zW prog w).is (.inr x) (.str x t)=true:=zlD x t
inductive V where
 | non|bl (b:Bool)|int (i:Int)|str (x:Str)|byt (b:Array UInt8)|flt (b:UInt64)|ref (a:Addr)|ty (n:String)
 deriving DecidableEq
def RelV:V->Value->Prop
 | .non,u=>u=Value.none
 | .bl b,u=>u=Value.bool b
 | .int i,u=>∃ t,u=Value.int i t
 | .str x,u=>∃ t,u=Value.str x t
 | .byt b,u=>∃ t,u=Value.bytes b t
 | .flt b,u=>∃ t,u=Value.float b t
 | .ref a,u=>u=Value.ref a
 | .ty n,u=>u=Value.type n
abbrev Vals:List V->List Value->Prop:=Paired RelV
theorem Vals.length{xs:List V}{us:List Value}(r:Vals xs us):xs.length=us.length:=Paired.length r
theorem Vals.get:∀ {xs:List V} {us:List Value} {i:Nat} {x:V},Vals xs us->xs[i]?=some x->∃ u,us[i]?=some u/\RelV x u
 | _,_,_,_,.nil,e=>by simp at e
 | _,_,0,_,.cons r _,e=>by simp at e;subst e;exact⟨_,rfl,r⟩
 | _, _, i + 1, x, .cons _ t, e => by
  obtain⟨u,h1,h2⟩:=Vals.get (i:=i) (x:=x) t (by simpa using e)
  exact⟨u,by simpa using h1,h2⟩
theorem Vals.set{x:V}{u:Value}(r:RelV x u):∀ {xs:List V} {us:List Value} (i:Nat),Vals xs us->Vals (xs.set i x) (us.set i u)
 | _,_,_,.nil=>.nil
 | _,_,0,.cons _ t=>.cons r t
 | _,_,i+1,.cons q t=>.cons q (Vals.set r i t)
theorem Vals.append:∀ {xs ys:List V} {us ws:List Value},Vals xs us->Vals ys ws->Vals (xs++ys) (us++ws)
 | _,_,_,_,.nil,s=>s
 | _,_,_,_,.cons r t,s=>.cons r (Vals.append t s)
theorem Vals.take:∀ {xs:List V} {us:List Value} (n:Nat),Vals xs us->Vals (xs.take n) (us.take n)
 | _,_,0,_=>.nil
 | _,_,_+1,.nil=>.nil
 | _,_,n+1,.cons r t=>.cons r (Vals.take n t)
theorem Vals.drop:∀ {xs:List V} {us:List Value} (n:Nat),Vals xs us->Vals (xs.drop n) (us.drop n)
 | _,_,0,r=>r
 | _,_,_+1,.nil=>.nil
 | _,_,n+1,.cons _ t=>Vals.drop n t
theorem Vals.none_of:∀ {xs:List V} {us:List Value} {i:Nat},Vals xs us->xs[i]?=none->us[i]?=none:=fun {xs us i} r e=>by
 have h1:=r.length;have h2:xs.length<=i:=List.getElem?_eq_none_iff.mp e;exact List.getElem?_eq_none_iff.mpr #[0]
def RelO:Option V->Option Value->Prop
 | some v,some u=>RelV v u
 | none,none=>True
 | _,_=>False
def KV{κ : Type}:List (κ×V)->List (κ×Value)->Prop:=Paired fun(p:κ×V) (q:κ×Value)=>p.1=q.1/\RelV p.2 q.2
def kV:Key->V
 | .inl i=>.int i
 | .inr x=>.str x
inductive HO where
 | lst (xs:List V)
 | tup (xs:List V)
 | dK (kvs:List (Key×V))|dT (kvs:List (List Key×V))
 | set (S:Int->Bool) (n:Nat)
 | ins (C dx:Addr) (fs:List (Str×V))
 | own (x:Addr)
 | xd (fs:List (Str×V))
 | met (f x:Addr)
 | rng (lo hi:Int)
 | frz (o:Obj) (u:HO)
 | tbl (ps:Array Value)
 | ext (φ : Heap->Prop)
abbrev Hp:=Addr->Option HO
def upd(H:Hp)(a:Addr)(o:HO):Hp:=fun b=>if b=a then some o else H b
theorem zl{H:Hp}{a:Addr}{o:HO}:upd H a o a=some o:=by unfold upd;rw [if_pos rfl]
theorem zh{H:Hp}{a b:Addr}{o:HO}(h:b≠a):upd H a o b=H b:=by unfold upd;rw [if_neg h]
theorem zkV{H:Hp}{a b:Addr}{o u:HO}(h:H a=some o)(h':H b=some u)(d:o≠u):a≠b:=by
 intro e;subst e;rw [h] at h';exact d (Wbe h')
theorem zS{H:Hp}{a b:Addr}{o:HO}(h:H a=some o)(h':H b=none):a≠b:=by
 intro e;subst e;rw [h] at h';cases h'
section
variable(P:Program)(w:World)
def zD(H:Hp)(h:Heap)(a:Addr):HO->Prop
 | .lst xs=>xs.length<=sizeLine/\∃ (its:List Value) (n:Nat),Vals xs its/\h.get? a=some { cls:=.type "list", data:=.seq its.toArray n }
 | .tup xs=>xs.length<=sizeLine/\∃ its:List Value,Vals xs its/\IsTup h a its.toArray
 | .dK kvs=>kvs.length<=sizeLine/\(a==sysModules)=false/\∃ vs,KV kvs vs/\h.DictOf (zW P w) a vs
 | .dT kvs => kvs.length <= sizeLine /\ (a == sysModules) = false /\ ∃ xs : List (List Key × Addr × Value),
  Paired (fun(p:List Key×V) (q:List Key×Addr×Value)=>p.1=q.1/\H q.2.1=some (.tup (p.1.map kV))/\RelV p.2 q.2.2) kvs xs/\
  ∃ o es ep,h.get? a=some o/\o.ExactDict/\o.data=.dict es ep/\es.toList=xs.map (entryOfKey (tupleKind (zW P w)))/\(xs.map (·.1)).Nodup
 | .set S n=>h.SetOf (intKind P w) a S n
 | .ins C dx fs => H dx = some (.own a) /\ fs.length <= 1000 /\ dx ≠ a /\ h.get? a = some (PySem.W.instObj C dx) /\
  ∃ mA,h.Ns1 dx mA/\(∀ f,RelO (fs.lookup f) (mA f))/\PySem.Within mA (fs.map (·.1))
 | .own _=>∃ o,h.get? a=some o
 | .xd fs=>∃ mA,h.Ns1 a mA/\∀ f,RelO (fs.lookup f) (mA f)
 | .rng lo hi=>∃ t u v,h.get? a=some { cls:=.type "range", data:=.fields #[.int lo t,.int hi u,.int 1 v] }
 | .frz o u=>h.get? a=some o/\zD H h a u
 | .tbl ps=>h.get? a=some { cls:=.none,data:=.fields ps }
 | .met f x=>h.get? a=some (PySem.W.methodObj (.ref f) (.ref x))
 | .ext φ=>φ h/\(∃ o,h.get? a=some o)/\∀ h1 h2:Heap,φ h1->(∀ o,h1.get? a=some o->h2.get? a=some o)->φ h2
def HOk(H:Hp)(h:Heap):Prop:=∀ a o,H a=some o->zD P w H h a o
end
section
variable{P:Program}{w:World}{H H':Hp}{h h':Heap}{a:Addr}{o:HO}
theorem zD.lt(x:zD P w H h a o):a<h.objs.size:=by
 cases o with
 | lst xs=>obtain⟨_,_,_,_,e⟩:=x;exact YaX e
 | tup xs=>obtain⟨_,_,_,p⟩:=x;exact p.lt
 | dK kvs=>obtain⟨_,_,_,_,o,_,_,e,_⟩:=x;exact YaX e
 | dT kvs=>obtain⟨_,_,_,_,o,_,_,e,_⟩:=x;exact YaX e
 | set S n=>obtain⟨o,_,_,_,e,_⟩:=x;exact YaX e
 | ins C dx fs=>obtain⟨_,_,_,e,_⟩:=x;exact YaX e
 | own y=>obtain⟨_,e⟩:=x;exact YaX e
 | xd fs=>obtain⟨_,⟨_,_,_,e,_⟩,_⟩:=x;exact YaX e
 | rng lo hi=>obtain⟨_,_,_,e⟩:=x;exact YaX e
 | frz ob u=>obtain⟨e,_⟩:=x;exact YaX e
 | tbl ps=>exact YaX (show h.get? a=some _ from x)
 | met f y=>exact YaX (show h.get? a=some _ from x)
 | ext φ=>obtain⟨_,⟨_,e⟩,_⟩:=x;exact YaX e
theorem Paired.mapP{α β : Type}{F G:α->β->Prop}:∀ {l₁ : List α} {l₂ : List β},Paired F l₁ l₂->(∀ a b,F a b->G a b)->Paired G l₁ l₂
 | _,_,.nil,_=>.nil
 | _,_,.cons r t,f=>.cons (f _ _ r) (Paired.mapP t f)
theorem zD.stay(x:zD P w H h a o)(k:∀ b u,(b=a\/H b=some (.own a))->h.get? b=some u->h'.get? b=some u)
 (ho:∀ b,H b=some (.own a)->H' b=some (.own a)) (ht:∀ b xs,H b=some (.tup xs)->H' b=some (.tup xs)):zD P w H' h' a o:=by
 induction o with
 | lst xs=>obtain⟨z,its,n,r,e⟩:=x;exact⟨z,its,n,r,k _ _ (.inl rfl) e⟩
 | tup xs=>obtain⟨z,its,r,ob,e,c⟩:=x;exact⟨z,its,r,ob,k _ _ (.inl rfl) e,c⟩
 | dK kvs=>obtain⟨z,y,vs,r,ob,es,ep,e,c⟩:=x;exact⟨z,y,vs,r,ob,es,ep,k _ _ (.inl rfl) e,c⟩
 | dT kvs=>
  obtain⟨z,y,xs,r,ob,es,ep,e,c⟩:=x;exact⟨z,y,xs,Paired.mapP r fun p q z=>⟨z.1,ht _ _ z.2.1,z.2.2⟩,ob,es,ep,k _ _ (.inl rfl) e,c⟩
 | set S n=>obtain⟨ob,es,ep,t,e,c⟩:=x;exact⟨ob,es,ep,t,k _ _ (.inl rfl) e,c⟩
 | ins C dx fs=>
  obtain⟨d,z,ne,e,mA,⟨od,es,ep,e2,c⟩,r⟩:=x;exact⟨ho _ d,z,ne,k _ _ (.inl rfl) e,mA,⟨od,es,ep,k _ _ (.inr d) e2,c⟩,r⟩
 | own y=>obtain⟨ob,e⟩:=x;exact⟨ob,k _ _ (.inl rfl) e⟩
 | xd fs=>obtain⟨mA,⟨od,es,ep,e,c⟩,r⟩:=x;exact⟨mA,⟨od,es,ep,k _ _ (.inl rfl) e,c⟩,r⟩
 | rng lo hi=>obtain⟨t,u,v,e⟩:=x;exact⟨t,u,v,k _ _ (.inl rfl) e⟩
 | frz ob u ih=>obtain⟨e,q⟩:=x;exact⟨k _ _ (.inl rfl) e,ih q⟩
 | tbl ps=>
  have e:h.get? a=some { cls:=.none,data:=.fields ps }:=x;show h'.get? a=some { cls:=.none,data:=.fields ps };exact k a _ (.inl rfl) e
 | met f y=>
  have e:h.get? a=some (PySem.W.methodObj (.ref f) (.ref y)):=x;show h'.get? a=some (PySem.W.methodObj (.ref f) (.ref y));exact k a _ (.inl rfl) e
 | ext φ=>obtain⟨p,⟨o,e⟩,st⟩:=x;exact⟨st _ _ p fun o q=>k _ _ (.inl rfl) q,⟨o,k _ _ (.inl rfl) e⟩,st⟩
theorem HOk.lt(x:HOk P w H h)(e:H a=some o):a<h.objs.size:=(x a o e).lt
theorem HOk.fresh(x:HOk P w H h)(e:h.objs.size<=a):H a=none:=by
 cases q:H a with
 | none=>rfl
 | some u=>exact absurd (YaU (x.lt q) e) (Yap _)
theorem HOk.kept(x:HOk P w H h)(k:∀ b u,h.get? b=some u->h'.get? b=some u):HOk P w H h':=fun a o e=>
 (x a o e).stay (fun b u _ q=>k b u q) (fun _ q=>q) fun _ _ q=>q
theorem HOk.laid(x:HOk P w H h)(k:∀ b u,h.get? b=some u->h'.get? b=some u)(hp:h.objs.size<=a)(new:zD P w (upd H a o) h' a o):HOk P w (upd H a o) h':=fun b u e=>by
 have hn:=x.fresh hp
 by_cases hb:b=a
 . subst hb;rw [zl] at e;cases e;exact new
 . rw [zh hb] at e
   exact(x b u e).stay (fun c v _ q=>k c v q) (fun c q=>by rw [zh (zS q hn)];exact q) fun c xs q=>by rw [zh (zS q hn)];exact q
end
def Rd(H:Hp)(a:Addr)(u:HO):Prop:=H a=some u\/∃ o,H a=some (.frz o u)
theorem Rd.of{H:Hp}{a:Addr}{u:HO}(h:H a=some u):Rd H a u:=.inl h
theorem Rd.ok{P:Program}{w:World}{H:Hp}{h:Heap}{a:Addr}{u:HO}(r:Rd H a u)(x:HOk P w H h):zD P w H h a u:=by
 rcases r with r|⟨o,r⟩
 . exact x a u r
 . obtain⟨_,q⟩:=x a _ r
   exact q
def Mut:Option HO->Prop
 | some (.lst _)=>True
 | some (.dK _)=>True
 | some (.dT _)=>True
 | some (.set _ _)=>True
 | some (.ins _ _ _)=>True
 | some (.ext _)=>True
 | _=>False
section
variable{P:Program}{w:World}{H:Hp}{h h':Heap}{x e:Addr}{o':HO}
theorem HOk.write(ok:HOk P w H h)(mu:Mut (H x))(he:e=x\/H e=some (.own x))(k:∀ b u,b≠e->h.get? b=some u->h'.get? b=some u)(heo:∃ u,h'.get? e=some u)
 (new:zD P w (upd H x o') h' x o'):HOk P w (upd H x o') h':=fun b u q=>by
 have nown:∀ c y,H c=some (.own y)->c≠x:=fun c y r z=>by subst z;rw [r] at mu;exact mu
 have ntup:∀ c xs,H c=some (.tup xs)->c≠x:=fun c xs r z=>by subst z;rw [r] at mu;exact mu
 by_cases hb:b=x
 . subst hb;rw [zl] at q;cases q;exact new
 . rw [zh hb] at q
   by_cases hbe:b=e
   . have q':H b=some (.own x):=by
      rcases he with z|z
      . exact absurd (hbe.trans z) hb
      . rw [hbe];exact z
     rw [q] at q';cases q';obtain⟨v,hv⟩:=heo;exact⟨v,by rw [hbe];exact hv⟩
   . refine(ok b u q).stay (fun c v hc r=>k c v ?_ r) (fun c r=>by rw [zh (nown c b r)];exact r) fun c xs r=>by rw [zh (ntup c xs r)];exact r
     rcases hc with rfl|hc
     . exact hbe
     . rintro rfl
       rcases he with z|z
       . exact nown c b hc z
       . rw [hc] at z;cases z;exact hb rfl
end
structure Un(fs ex:List Addr)(H H':Hp)(h h':Heap):Prop where
 keep:∀ b o,h.get? b=some o->H b=none->b∉fs->b∉ex->h'.get? b=some o
 slot:∀ b o,h.get? b=some o->H b=none->b∈fs->b∉ex->∃ sl,h'.get? b=some { o with slots:=sl }
 free:∀ b o,h.get? b=some o->H b=none->b∉ex->H' b=none
 there:∀ b o,h.get? b=some o->b∉ex->∃ o',h'.get? b=some o'
 tups:∀ b xs,H b=some (.tup xs)->H' b=some (.tup xs)
 frzs:∀ b o u,H b=some (.frz o u)->H' b=some (.frz o u)
 tbls:∀ b ps,H b=some (.tbl ps)->∃ more,H' b=some (.tbl (ps++more))
section
variable{fs fs' ex ex':List Addr}{H H1 H2:Hp}{h h1 h2 h':Heap}{a x e:Addr}{o:HO}
theorem Un.any(u:Un fs ex H H1 h h1){b:Addr}{ob:Obj}(q:h.get? b=some ob)(n:H b=none)(hx:b∉ex):∃ sl,h1.get? b=some { ob with slots:=sl }:=by
 by_cases hb:b∈fs
 . exact u.slot b ob q n hb hx
 . exact⟨ob.slots,u.keep b ob q n hb hx⟩
theorem Un.trans(a:Un fs ex H H1 h h1)(b:Un fs ex H1 H2 h1 h2):Un fs ex H H2 h h2 where
 keep:=fun c ob q n hc hx=>b.keep c ob (a.keep c ob q n hc hx) (a.free c ob q n hx) hc hx
 slot:=fun c ob q n hc hx=>by
  obtain⟨sl,e1⟩:=a.slot c ob q n hc hx;obtain⟨sl',e2⟩:=b.slot c _ e1 (a.free c ob q n hx) hc hx;exact⟨sl',e2⟩
 free:=fun c ob q n hx=>by
  obtain⟨o',e1⟩:=a.there c ob q hx;exact b.free c o' e1 (a.free c ob q n hx) hx
 there:=fun c ob q hx=>by
  obtain⟨o',e1⟩:=a.there c ob q hx;exact b.there c o' e1 hx
 tups:=fun c xs q=>b.tups c xs (a.tups c xs q)
 frzs:=fun c ob xs q=>b.frzs c ob xs (a.frzs c ob xs q)
 tbls:=fun c ps q=>by
  obtain⟨m1,e1⟩:=a.tbls c ps q;obtain⟨m2,e2⟩:=b.tbls c _ e1;exact⟨m1++m2,by rw [e2,WaF]⟩
theorem Un.kept(k:∀ b u,h.get? b=some u->h'.get? b=some u):Un fs ex H H h h':=
 ⟨fun b ob q _ _ _=>k b ob q,fun b ob q _ _ _=>⟨ob.slots,k b ob q⟩,fun _ _ _ n _=>n,fun b ob q _=>⟨ob,k b ob q⟩,fun _ _ q=>q,fun _ _ _ q=>q,fun _ ps q=>⟨#[],by rw [q];simp⟩⟩
theorem Un.refl:Un fs ex H H h h:=Un.kept fun _ _ q=>q
theorem Un.laid(k:∀ b u,h.get? b=some u->h'.get? b=some u)(hp:h.objs.size<=a)(hn:H a=none):Un fs ex H (upd H a o) h h' where
 keep:=fun b u q _ _ _=>k b u q
 slot:=fun b u q _ _ _=>⟨u.slots,k b u q⟩
 free:=fun b u q n _=>by rw [zh (Yaf (YaU (YaX q) hp))];exact n
 there:=fun b u q _=>⟨u,k b u q⟩
 tups:=fun b xs q=>by rw [zh (zS q hn)];exact q
 frzs:=fun b u xs q=>by rw [zh (zS q hn)];exact q
 tbls:=fun b ps q=>⟨#[],by rw [zh (zS q hn),q];simp⟩
theorem Un.write(mu:Mut (H x))(he:e=x\/H e=some (.own x))(k:∀ b u,b≠e->h.get? b=some u->h'.get? b=some u)(heo:∃ u,h'.get? e=some u):Un fs ex H (upd H x o) h h':=by
 have hx:∀ b,H b=none->b≠x:=fun b n z=>by subst z;rw [n] at mu;exact mu
 have hb:∀ b,H b=none->b≠e:=fun b n z=>by
  subst z
  rcases he with r|r
  . exact hx b n r
  . rw [n] at r;cases r
 have hm:∀ b u,H b=some u->¬Mut (some u)->b≠x:=fun b u q nm z=>by subst z;rw [q] at mu;exact nm mu
 refine⟨fun b u q n _ _=>k b u (hb b n) q,fun b u q n _ _=>⟨u.slots,k b u (hb b n) q⟩,fun b u q n _=>by rw [zh (hx b n)];exact n,fun b u q _=>?_,
  fun b xs q=>by rw [zh (hm b _ q fun z=>z)];exact q,fun b u xs q=>by rw [zh (hm b _ q fun z=>z)];exact q,fun b ps q=>⟨#[],by rw [zh (hm b _ q fun z=>z),q];simp⟩⟩
 by_cases hbe:b=e
 . subst hbe;exact heo
 . exact⟨u,k b u hbe q⟩
theorem Un.mono(u:Un fs ex H H1 h h1)(hs:∀ b∈fs,b∈fs')(hx:∀ b∈ex,b∈ex'):Un fs' ex' H H1 h h1:=
 ⟨fun b ob q n hb he=>u.keep b ob q n (fun z=>hb (hs b z)) fun z=>he (hx b z),fun _ _ q n _ he=>u.any q n fun z=>he (hx _ z),fun b ob q n he=>u.free b ob q n fun z=>he (hx b z),fun b ob q he=>u.there b ob q fun z=>he (hx b z),u.tups,u.frzs,u.tbls⟩
end
def trk(h:Heap)(H:Hp):List Addr:=(List.range h.objs.size).filter fun a=>(H a).isSome
def hidT(h:Heap)(H:Hp):Heap:=PySem.W.hideAll h (trk h H)
theorem zf5(h:Heap)(H:Hp):(hidT h H).objs.size=h.objs.size:=PySem.W.hideAll_size _ _
theorem zi1{h:Heap}{H:Hp}{b:Addr}{o:Obj}(e:h.get? b=some o)(n:H b=none):(hidT h H).get? b=some o:=
 PySem.W.hideAll_get _ e fun hm=>by
  have q:(H b).isSome=true:=(Ya9.mp hm).2;rw [n] at q;simp at q
theorem ziB{h:Heap}{H:Hp}{b:Addr}{o:Obj}(e:(hidT h H).get? b=some o):h.get? b=some o/\H b=none:=by
 have e':h.get? b=some o:=PySem.W.of_hideAll (trk h H) e;refine⟨e',?_⟩;cases q:H b with
 | none=>rfl
 | some x=>
  have hm:b∈trk h H:=Ya9.mpr ⟨Yba.mpr (YaX e'),by simp [q]⟩
  have z:(hidT h H).get? b=none:=PySem.W.hideAll_none (trk h H) hm;rw [z] at e;cases e
def zlY(g h:Heap)(L:Addr):List (Addr×Obj):=(List.range h.objs.size).filterMap fun a=>if a=L\/(g.get? a).isSome=true then none else(h.get? a).map fun o=>(a,o)
def rest(g h:Heap)(L d:Addr):List (Addr×Obj):=(zlY g h L).filter fun p=>decide (p.1≠d)
structure Mod(K:Ybf)(mg:Str->Option Value)(base:Heap):Prop where
 kin:K.In base
 glob:base.Ns mainGlobals mg
 blt:∃ mb,base.Ns builtinsNs mb/\∀ x:Str,x≠"__name__"->mb x=bootBuiltins x
 nolimit:base.NoLimit
structure Cx where
 prog:Program
 w:World
 K:Ybf
 mg:Str->Option Value
 base:Heap
 A:Around
 N:List Str
 s₀ : Shared
 H₀ : Hp
 env:Env
 outer:List Env
 stack:List Env
 ex:List Addr
 fn:Str->Bool
 calm:Bool
 pn:List (Addr×Obj)
 xe:Value->Shared->Prop
def frs(l:List Env):List Addr:=l.filterMap (·.frame)
abbrev Cx.fs(X:Cx):List Addr:=frs X.outer
def Vis(sc:Scope)(x:Str):Prop:=sc.names.lookup x=some .local\/sc.names.lookup x=some .cell\/sc.names.lookup x=some .free
def Loc(sc:Scope)(x:Str):Prop:=sc.names.lookup x=some .local\/sc.names.lookup x=some .cell
def Look(env:Env)(h:Heap)(m:Str->Option Value)(x:Str)(u:Value):Prop:=
 (env.kindOf x=some .local/\m x=some u)\/((env.kindOf x=some .cell\/env.kindOf x=some .free)/\∃ c,env.cells.lookup x=some c/\h.IsCell c (some u))
structure Cx.Ok(X:Cx):Prop where
 mod:Mod X.K X.mg X.base
 kind:X.env.scope.kind=.function
 glob:X.env.globals=mainGlobals
 blt:X.env.builtins=builtinsNs
 above:X.s₀.heap.objs.size<=X.env.locals
 inj:∀ x y c,X.env.cells.lookup x=some c->X.env.cells.lookup y=some c->x=y
 has:∀ x,(X.env.kindOf x=some .cell\/X.env.kindOf x=some .free)->∃ c,X.env.cells.lookup x=some c
 cab:∀ x c,X.fn x=true->X.env.cells.lookup x=some c->X.s₀.heap.objs.size<=c
 hd:X.calm=true->X.A.handled=none
 frames:X.A.frames=some X.stack
 stk:X.stack=X.outer\/(X.stack=X.env::X.outer/\X.env.frame=some X.env.locals)
 exf:∀ b∈X.ex,b≠X.env.locals/\∀ x c,X.env.cells.lookup x=some c->c≠b
 bs:∀ b o,X.base.get? b=some o->X.s₀.heap.get? b=some o/\X.H₀ b=none
 bsz:X.base.objs.size<=X.s₀.heap.objs.size
 noex:∀ b o,X.base.get? b=some o->b∉X.ex
 exfs:∀ b∈X.ex,b∉X.fs
 funs:X.s₀.heap.FunFrames X.base X.outer
 frf:∀ b∈X.fs,X.H₀ b=none
structure Inv(X:Cx)(pins:List (Addr×Obj))(σ : List (Option V))(H:Hp)(s:Shared):Prop where
 ok:X.Ok
 os:s.os=X.s₀.os
 bare:AllBare s.gens
 base:Un X.fs X.ex X.H₀ H X.s₀.heap s.heap
 loc:∃ m,s.heap.Ns X.env.locals m/\∀ (i:Nat) (x:Str) (v:V),X.N[i]?=some x->σ[i]?=some (some v)->Vis X.env.scope x->∃ u,RelV v u/\Look X.env s.heap m x u
 cell:∀ x c,X.env.cells.lookup x=some c->∃ v,s.heap.IsCell c v
 free:H X.env.locals=none
 freeC:∀ x c,X.env.cells.lookup x=some c->H c=none
 pin:∀ p∈X.pn++pins,s.heap.get? p.1=some p.2/\H p.1=none/\p.1≠X.env.locals/\p.1∉X.fs/\∀ v,p.2.data≠.cell v
 hok:HOk X.prog X.w H s.heap
 len:σ.length=X.N.length
section
variable{X:Cx}{pins:List (Addr×Obj)}{σ : List (Option V)}{H H':Hp}{s:Shared}{h':Heap}
theorem Cx.Ok.nofr(ok:X.Ok){b:Addr}{o:Obj}(e:X.base.get? b=some o):b∉X.fs:=fun hb=>by
 have:=(ok.funs.mem hb).1;rw [e] at this;cases this
theorem Inv.bs(I:Inv X pins σ H s):∀ b o,X.base.get? b=some o->s.heap.get? b=some o/\H b=none:=fun b o e=>
 ⟨I.base.keep b o (I.ok.bs b o e).1 (I.ok.bs b o e).2 (I.ok.nofr e) (I.ok.noex b o e),I.base.free b o (I.ok.bs b o e).1 (I.ok.bs b o e).2 (I.ok.noex b o e)⟩
theorem Inv.bk(I:Inv X pins σ H s):∀ b o,X.base.get? b=some o->s.heap.get? b=some o:=fun b o e=>(I.bs b o e).1
theorem Inv.mod(I:Inv X pins σ H s):Mod X.K X.mg X.base:=I.ok.mod
theorem Inv.kIn(I:Inv X pins σ H s):X.K.In s.heap:=I.ok.mod.kin.keeps I.bk
theorem Inv.nolimit(I:Inv X pins σ H s):s.heap.NoLimit:=I.ok.mod.nolimit.keeps I.bk
theorem Inv.fr(I:Inv X pins σ H s):∃ m,Fr X.base X.env.locals s.heap m:=
 let ⟨m,hn,_⟩:=I.loc
 ⟨m,hn,I.bk,Ya5 I.ok.bsz I.ok.above⟩
theorem Inv.lt(I:Inv X pins σ H s):X.env.locals<s.heap.objs.size:=let ⟨_,hn,_⟩:=I.loc;hn.lt
theorem Inv.sz(I:Inv X pins σ H s):X.s₀.heap.objs.size<=s.heap.objs.size:=Ya5 I.ok.above (Wbx I.lt)
theorem Inv.nofs(I:Inv X pins σ H s){a:Addr}(h:s.heap.objs.size<=a):a∉X.fs:=fun hb=>by
 obtain⟨_,o,ho,_⟩:=I.ok.funs.mem hb;exact absurd (YaU (YaX ho) (Ya5 I.sz h)) (Yap _)
theorem Inv.cne(I:Inv X pins σ H s):∀ x c,X.env.cells.lookup x=some c->c≠X.env.locals:=fun x c e z=>by
 obtain⟨v,o,ho,hd⟩:=I.cell x c e;obtain⟨m,⟨o',es,ep,ho',hd',_⟩,_⟩:=I.loc;rw [z,ho'] at ho;cases ho;rw [hd'] at hd;cases hd
theorem Inv.funs(I:Inv X pins σ H s):s.heap.FunFrames X.base X.outer:=by
 have all:∀ (l:List Env),(∀ b∈frs l,b∈X.fs)->X.s₀.heap.FunFrames X.base l->s.heap.FunFrames X.base l:=by
  intro l
  induction l with
  | nil=>intro _ _;trivial
  | cons env r ih=>
   intro hs hl;obtain⟨hk,⟨L,o,hf,hn,ho,hd⟩,hr⟩:=hl;have hL:L∈X.fs:=hs L (by unfold frs;rw [List.filterMap_cons,hf];exact YaV)
   obtain⟨sl,e⟩:=I.base.slot L o ho (I.ok.frf L hL) hL fun z=>I.ok.exfs L z hL
   exact⟨hk,⟨L,_,hf,hn,e,hd⟩,ih (fun b hb=>hs b (by unfold frs;rw [List.filterMap_cons,hf];exact YaT _ hb)) hr⟩
 exact all X.outer (fun _ hb=>hb) I.ok.funs
theorem Inv.stack(I:Inv X pins σ H s):s.heap.FunFrames X.base X.stack:=by
 rcases I.ok.stk with e|⟨e,hf⟩
 . rw [e];exact I.funs
 . rw [e]
   obtain⟨m,hn,_⟩:=I.loc;refine .cons (by rw [I.ok.kind];decide) hf hn ?_ I.funs
   exact Heap.get?_none_of_le (Ya5 I.ok.bsz I.ok.above)
theorem Inv.stkSub(I:Inv X pins σ H s):∀ b∈frs X.stack,b∈X.env.locals::X.fs:=fun b hb=>by
 rcases I.ok.stk with e|⟨e,hf⟩
 . rw [e] at hb;exact YaT _ hb
 . rw [e] at hb
   unfold frs at hb;rw [List.filterMap_cons,hf] at hb;exact hb
theorem Inv.stkFree(I:Inv X pins σ H s):∀ b∈frs X.stack,H b=none:=fun b hb=>by
 rcases Wbo.mp (I.stkSub b hb) with e|hb
 . rw [e];exact I.free
 . obtain⟨_,o,ho,_⟩:=I.ok.funs.mem hb
   exact I.base.free b o ho (I.ok.frf b hb) fun z=>I.ok.exfs b z hb
theorem Inv.step{g':Array GenState}{t':Nat}{d':Drawn}{ch:List Addr}(I:Inv X pins σ H s)
 (hch:∀ b∈ch,(b∈X.ex\/X.s₀.heap.objs.size<=b)/\b≠X.env.locals/\(∀ x c,X.env.cells.lookup x=some c->c≠b)/\∀ p∈X.pn++pins,p.1≠b)
 (keep:∀ b o,b≠X.env.locals->b∉X.fs->b∉ch->s.heap.get? b=some o->H b=none->h'.get? b=some o)
 (slot:∀ b o,b≠X.env.locals->b∈X.fs->b∉ch->s.heap.get? b=some o->H b=none->∃ sl,h'.get? b=some { o with slots:=sl }) (free:∀ b o,b∉ch->s.heap.get? b=some o->H b=none->H' b=none)
 (there:∀ b o,b∉ch->s.heap.get? b=some o->∃ o',h'.get? b=some o')
 (tups:∀ b xs,H b=some (.tup xs)->H' b=some (.tup xs)) (frzs:∀ b o u,H b=some (.frz o u)->H' b=some (.frz o u)) (tbls:∀ b ps,H b=some (.tbl ps)->∃ more,H' b=some (.tbl (ps++more)))
 (ns:∀ m,s.heap.Ns X.env.locals m->h'.Ns X.env.locals m) (hok:HOk X.prog X.w H' h') (hg:AllBare g') :
 Inv X pins σ H' { s with heap:=h',gens:=g',drawn:=d',toks:=t' }:=by
 have neL:∀ b o,X.s₀.heap.get? b=some o->b≠X.env.locals:=fun b o e=>Yaf (YaU (YaX e) I.ok.above)
 have neC:∀ b o,X.s₀.heap.get? b=some o->b∉X.ex->b∉ch:=fun b o e hx hb=>by
  rcases(hch b hb).1 with z|z
  . exact hx z
  . exact absurd (YaU (YaX e) z) (Yap _)
 have cellK:∀ x c,X.env.cells.lookup x=some c->∀ v,s.heap.IsCell c v->h'.IsCell c v:=fun x c e v ⟨o,ho,hd⟩=>by
  have nch:c∉ch:=fun z=>(hch c z).2.2.1 x c e rfl
  by_cases hc:c∈X.fs
  . obtain⟨sl,q⟩:=slot c o (I.cne x c e) hc nch ho (I.freeC x c e)
    exact⟨_,q,hd⟩
  . exact⟨o,keep c o (I.cne x c e) hc nch ho (I.freeC x c e),hd⟩
 refine⟨I.ok,I.os,hg,⟨fun b o e n hb hx=>?_,fun b o e n hb hx=>?_,fun b o e n hx=>?_,fun b o e hx=>?_,fun b xs e=>tups b xs (I.base.tups b xs e),fun b o xs e=>frzs b o xs (I.base.frzs b o xs e),fun b ps e=>?_⟩,?_,fun x c e=>?_,?_,fun x c e=>?_,fun p hp=>?_,hok,I.len⟩
 . exact keep b o (neL b o e) hb (neC b o e hx) (I.base.keep b o e n hb hx) (I.base.free b o e n hx)
 . obtain⟨sl,e1⟩:=I.base.slot b o e n hb hx
   obtain⟨sl',e2⟩:=slot b _ (neL b o e) hb (neC b o e hx) e1 (I.base.free b o e n hx);exact⟨sl',e2⟩
 . obtain⟨o',e1⟩:=I.base.there b o e hx
   exact free b o' (neC b o e hx) e1 (I.base.free b o e n hx)
 . obtain⟨o',e1⟩:=I.base.there b o e hx
   exact there b o' (neC b o e hx) e1
 . obtain⟨m1,e1⟩:=I.base.tbls b ps e
   obtain⟨m2,e2⟩:=tbls b _ e1;exact⟨m1++m2,by rw [e2,WaF]⟩
 . obtain⟨m,hn,hl⟩:=I.loc
   refine⟨m,ns m hn,fun i x v e1 e2 e3=>?_⟩
   obtain⟨u,r,l⟩:=hl i x v e1 e2 e3;refine⟨u,r,?_⟩
   rcases l with l|⟨k,c,e,z⟩
   . exact .inl l
   . exact .inr ⟨k,c,e,cellK x c e _ z⟩
 . obtain⟨v,z⟩:=I.cell x c e
   exact⟨v,cellK x c e v z⟩
 . obtain⟨m,⟨o,_,_,ho,_⟩,_⟩:=I.loc
   exact free _ o (fun z=>(hch _ z).2.1 rfl) ho I.free
 . obtain⟨v,o,ho,hd⟩:=I.cell x c e
   exact free c o (fun z=>(hch c z).2.2.1 x c e rfl) ho (I.freeC x c e)
 . obtain⟨e,n,ne,nf,d⟩:=I.pin p hp
   have nch:p.1∉ch:=fun z=>(hch p.1 z).2.2.2 p hp rfl
   exact⟨keep p.1 p.2 ne nf nch e n,free p.1 p.2 nch e n,ne,nf,d⟩
theorem Inv.un{t':Nat}(I:Inv X pins σ H s)(u:Un X.fs [] H H' s.heap h')(hok:HOk X.prog X.w H' h'):Inv X pins σ H' { s with heap:=h',toks:=t' }:=by
 obtain⟨m,⟨o,es,ep,ho,r⟩,_⟩:=id I.loc;obtain⟨sl,hL⟩:=u.any ho I.free (by simp)
 exact I.step (g':=s.gens) (d':=s.drawn) (ch:=[]) (fun _ z=>nomatch z) (fun b o _ hb _ e n=>u.keep b o e n hb (by simp)) (fun b o _ hb _ e n=>u.slot b o e n hb (by simp)) (fun b o _ e n=>u.free b o e n (by simp)) (fun b o _ e=>u.there b o e (by simp)) u.tups u.frzs u.tbls (fun m' hm=>by
  obtain⟨o',es',ep',ho',r'⟩:=hm;rw [ho] at ho';cases ho';exact⟨_,es',ep',hL,r'⟩) hok I.bare
theorem Inv.call{g':Array GenState}{t':Nat}{d':Drawn}{ch:List Addr}(I:Inv X pins σ H s)(u:Un (frs X.stack) ch H H' s.heap h')(hok:HOk X.prog X.w H' h')(hg:AllBare g')
 (hch:∀ b∈ch,(b∈X.ex\/X.s₀.heap.objs.size<=b)/\b≠X.env.locals/\(∀ x c,X.env.cells.lookup x=some c->c≠b)/\∀ p∈X.pn++pins,p.1≠b) :
 Inv X pins σ H' { s with heap:=h',gens:=g',drawn:=d',toks:=t' }:=by
 obtain⟨m,⟨o,es,ep,ho,r⟩,_⟩:=id I.loc;obtain⟨sl,hL⟩:=u.any ho I.free fun z=>(hch _ z).2.1 rfl
 exact I.step (ch:=ch) hch (fun b o hL hb hc e n=>u.keep b o e n (fun z=>(Wbo.mp (I.stkSub b z)).elim hL hb) hc) (fun b o _ _ hc e n=>u.any e n hc) (fun b o hc e n=>u.free b o e n hc) (fun b o hc e=>u.there b o e hc) u.tups u.frzs u.tbls (fun m' hm=>by
  obtain⟨o',es',ep',ho',r'⟩:=hm;rw [ho] at ho';cases ho';exact⟨_,es',ep',hL,r'⟩) hok hg
theorem Inv.turned{t':Nat}{it:Addr}(I:Inv X pins σ H s)(k:∀ b o,b≠it->s.heap.get? b=some o->h'.get? b=some o)(hn:H it=none)(hL:it≠X.env.locals)
 (h1:it∈X.ex\/X.s₀.heap.objs.size<=it) (h2:∀ x c,X.env.cells.lookup x=some c->c≠it) (h3:∀ p∈X.pn++pins,p.1≠it):Inv X pins σ H { s with heap:=h',toks:=t' }:=by
 have nit:∀ b u,H b=some u->b≠it:=fun b u e z=>by rw [z,hn] at e;cases e
 refine I.step (g':=s.gens) (d':=s.drawn) (ch:=[it]) (fun b hb=>?_) (fun b o _ _ hc e _=>k b o (fun z=>hc (by simp [z])) e) (fun b o _ _ hc e _=>⟨o.slots,k b o (fun z=>hc (by simp [z])) e⟩) (fun _ _ _ _ n=>n)
  (fun b o hc e=>⟨o,k b o (fun z=>hc (by simp [z])) e⟩) (fun _ _ e=>e) (fun _ _ _ e=>e) (fun b ps e=>⟨#[],by rw [e];simp⟩) (fun m hm=>?_) (fun b u e=>?_) I.bare
 . have e:b=it:=by simpa using hb
   subst e;exact⟨h1,hL,h2,h3⟩
 . obtain⟨o,es,ep,ho,r⟩:=hm
   exact⟨o,es,ep,k _ o (WbL hL) ho,r⟩
 . refine(I.hok b u e).stay (fun c v hc q=>k c v ?_ q) (fun _ q=>q) fun _ _ q=>q
   rcases hc with z|z
   . rw [z];exact nit b u e
   . exact nit c _ z
theorem Inv.tok(I:Inv X pins σ H s)(t:Nat):Inv X pins σ H { s with toks:=t }:=I.un (h':=s.heap) (t':=t) Un.refl I.hok
theorem Inv.kept{t':Nat}(I:Inv X pins σ H s)(k:∀ b u,s.heap.get? b=some u->h'.get? b=some u):Inv X pins σ H { s with heap:=h',toks:=t' }:=I.un (Un.kept k) (I.hok.kept k)
theorem Inv.laid{a:Addr}{o:HO}{t':Nat}(I:Inv X pins σ H s)(k:∀ b u,s.heap.get? b=some u->h'.get? b=some u)(hp:s.heap.objs.size<=a)(new:zD X.prog X.w (upd H a o) h' a o) :
 Inv X pins σ (upd H a o) { s with heap:=h',toks:=t' }:=I.un (Un.laid k hp (I.hok.fresh hp)) (I.hok.laid k hp new)
theorem Inv.write{x e:Addr}{o:HO}{t':Nat}(I:Inv X pins σ H s)(mu:Mut (H x))(he:e=x\/H e=some (.own x))(k:∀ b u,b≠e->s.heap.get? b=some u->h'.get? b=some u)(heo:∃ u,h'.get? e=some u)
 (new:zD X.prog X.w (upd H x o) h' x o):Inv X pins σ (upd H x o) { s with heap:=h',toks:=t' }:=I.un (Un.write mu he k heo) (I.hok.write mu he k heo new)
theorem Inv.pins_of{pins':List (Addr×Obj)}(I:Inv X pins σ H s)(h:∀ p∈pins',s.heap.get? p.1=some p.2/\H p.1=none/\p.1≠X.env.locals/\p.1∉X.fs/\∀ v,p.2.data≠.cell v):Inv X pins' σ H s:=
 ⟨I.ok,I.os,I.bare,I.base,I.loc,I.cell,I.free,I.freeC,fun p hp=>(Ya3.mp hp).elim (fun z=>I.pin p (Yai _ z)) (h p),I.hok,I.len⟩
theorem zfy{N:List Str}(hN:N.Nodup){i j:Nat}{x:Str}(a:N[i]?=some x)(b:N[j]?=some x):i=j:=by
 obtain⟨h1,e1⟩:=Ya8.mp a;obtain⟨h2,e2⟩:=Ya8.mp b;exact(Wa3 hN).mp (e1.trans e2.symm)
theorem zdW{M:Model}{A:Around}{E:Value->Shared->Prop}{i:Nat}{x:Str}{v:V}{u:Value}{Q:Unit->Shared->Prop}(I:Inv X pins σ H s)(hN:X.N.Nodup)(hi:X.N[i]?=some x)(hx:Loc X.env.scope x)(r:RelV v u)
 (h:∀ s',Inv X pins (σ.set i (some v)) H s'->(∃ a,Heap.SameBut a s.heap s'.heap/\(a=X.env.locals\/X.env.cells.lookup x=some a))->Q () s') (hf:X.fn x=true\/X.env.scope.names.lookup x=some .local:=by first|exact .inl rfl|exact .inr rfl|assumption):wpAny M A (storeName X.env x u) Q E s:=by
 obtain⟨m,hn,hl⟩:=id I.loc;have hcls:(X.env.scope.kind==.class||(X.env.scope.kind==.module&&X.env.locals != X.env.globals))=false:=by rw [I.ok.kind];rfl
 have hiσ : i < σ.length:=by rw [I.len];exact(Ya8.mp hi).1
 have cne:=I.cne;have tracked:∀ {a:Addr} {h':Heap},(∃ o,s.heap.get? a=some o/\H a=none)->Heap.SameBut a s.heap h'->HOk X.prog X.w H h':=fun {a h'} ha hs b ob e=>by
  obtain⟨_,_,hfree⟩:=ha;refine(I.hok b ob e).stay (fun c w' hc q=>(hs.2 c ?_).trans q) (fun _ q=>q) fun _ _ q=>q
  rintro rfl
  rcases hc with rfl|hc
  . rw [hfree] at e;cases e
  . rw [hfree] at hc;cases hc
 rcases hx with hk|hk
 . refine wpAny_storeName_local hk hn (fun h' hn' hs=>?_) hcls
   obtain⟨oL,_,_,hoL,_⟩:=id hn;refine h _ ⟨I.ok,I.os,I.bare,⟨fun b o e n hb hx=>?_,fun b o e n hb hx=>?_,I.base.free,fun b o e hx=>?_,I.base.tups,I.base.frzs,I.base.tbls⟩,⟨_,hn',fun j y v' e1 e2 e3=>?_⟩,fun y c e=>?_,I.free,I.freeC,fun p hp=>?_,tracked ⟨oL,hoL,I.free⟩ hs,by simpa using I.len⟩ ⟨_,hs,.inl rfl⟩
   . exact(hs.2 b (Yaf (YaU (YaX e) I.ok.above))).trans (I.base.keep b o e n hb hx)
   . obtain⟨sl,e1⟩:=I.base.slot b o e n hb hx
     exact⟨sl,(hs.2 b (Yaf (YaU (YaX e) I.ok.above))).trans e1⟩
   . obtain⟨o',e1⟩:=I.base.there b o e hx
     exact⟨o',(hs.2 b (Yaf (YaU (YaX e) I.ok.above))).trans e1⟩
   . by_cases hj:j=i
     . subst hj
       rw [hi] at e1;cases e1;rw [Yas hiσ] at e2;cases e2;exact⟨u,r,.inl ⟨hk,by simp⟩⟩
     . rw [Yac (WbL hj)] at e2
       obtain⟨u',r',q⟩:=hl j y v' e1 e2 e3;refine⟨u',r',?_⟩
       rcases q with ⟨k,e⟩|⟨k,c,e,z⟩
       . refine .inl ⟨k,?_⟩
         have:y≠x:=fun e=>hj (zfy hN e1 (e ▸ hi))
         simp [this,e]
       . exact .inr ⟨k,c,e,z.sameBut hs (cne y c e)⟩
   . obtain⟨w',z⟩:=I.cell y c e
     exact⟨w',z.sameBut hs (cne y c e)⟩
   . obtain⟨e,n,ne,nf,d⟩:=I.pin p hp
     exact⟨(hs.2 p.1 ne).trans e,n,ne,nf,d⟩
 . have hfn:X.fn x=true:=by
    rcases hf with z|z
    . exact z
    . rw [z] at hk;cases hk
   obtain⟨c,hc⟩:=I.ok.has x (.inl hk);obtain⟨w',z⟩:=I.cell x c hc;refine wpAny_storeName_cell I.ok.kind hk hc z (fun h' hc' hs=>?_)
   obtain⟨oc,hoc,hocd⟩:=id z;refine h { s with heap:=h' } ⟨I.ok,I.os,I.bare,⟨fun b o e n hb hx=>?_,fun b o e n hb hx=>?_,I.base.free,fun b o e hx=>?_,I.base.tups,I.base.frzs,I.base.tbls⟩,⟨m,hn.sameBut hs (WbL (cne x c hc)),fun j y v' e1 e2 e3=>?_⟩,fun y c' e=>?_,I.free,I.freeC,fun p hp=>?_,tracked ⟨oc,hoc,I.freeC x c hc⟩ hs,by simpa using I.len⟩ ⟨c,hs,.inr hc⟩
   . exact(hs.2 b (Yaf (YaU (YaX e) (I.ok.cab x c hfn hc)))).trans (I.base.keep b o e n hb hx)
   . obtain⟨sl,e1⟩:=I.base.slot b o e n hb hx
     exact⟨sl,(hs.2 b (Yaf (YaU (YaX e) (I.ok.cab x c hfn hc)))).trans e1⟩
   . obtain⟨o',e1⟩:=I.base.there b o e hx
     exact⟨o',(hs.2 b (Yaf (YaU (YaX e) (I.ok.cab x c hfn hc)))).trans e1⟩
   . by_cases hj:j=i
     . subst hj
       rw [hi] at e1;cases e1;rw [Yas hiσ] at e2;cases e2;exact⟨u,r,.inr ⟨.inl hk,c,hc,hc'⟩⟩
     . rw [Yac (WbL hj)] at e2
       obtain⟨u',r',q⟩:=hl j y v' e1 e2 e3;refine⟨u',r',?_⟩
       rcases q with q|⟨k,c',e,z'⟩
       . exact .inl q
       . refine .inr ⟨k,c',e,z'.sameBut hs ?_⟩
         rintro rfl
         exact hj (zfy hN e1 (I.ok.inj _ _ _ e hc ▸ hi))
   . by_cases hcc:c'=c
     . subst hcc;exact⟨_,hc'⟩
     . obtain⟨w2,z2⟩:=I.cell y c' e
       exact⟨w2,z2.sameBut hs hcc⟩
   . obtain⟨e,n,ne,nf,d⟩:=I.pin p hp
     refine⟨(hs.2 p.1 ?_).trans e,n,ne,nf,d⟩
     intro q;rw [q,hoc] at e;have q':oc=p.2:=Wbe e;exact d w' (by rw [<-q'];exact hocd)
theorem zad{M:Model}{A:Around}{E:Value->Shared->Prop}{i:Nat}{x:Str}{v:V}{u:Value}{Q:Unit->Shared->Prop}(I:Inv X pins σ H s)(hN:X.N.Nodup)(hi:X.N[i]?=some x)(hx:Loc X.env.scope x)(r:RelV v u)
 (h:∀ s',Inv X pins (σ.set i (some v)) H s'->Q () s') (hf:X.fn x=true\/X.env.scope.names.lookup x=some .local:=by first|exact .inl rfl|exact .inr rfl|assumption):wpAny M A (storeName X.env x u) Q E s:=
 zdW I hN hi hx r (fun s' I' _=>h s' I') hf
theorem Inv.call'{s':Shared}{ch:List Addr}(I:Inv X pins σ H s)(ho:s'.os=s.os)(u:Un (frs X.stack) ch H H' s.heap s'.heap)(hok:HOk X.prog X.w H' s'.heap)(hg:AllBare s'.gens)
 (hch:∀ b∈ch,(b∈X.ex\/X.s₀.heap.objs.size<=b)/\b≠X.env.locals/\(∀ x c,X.env.cells.lookup x=some c->c≠b)/\∀ p∈X.pn++pins,p.1≠b):Inv X pins σ H' s':=by
 obtain⟨h',g',d',t',o'⟩:=s';have e:o'=s.os:=ho;subst e;exact I.call (g':=g') (t':=t') (d':=d') u hok hg hch
end
abbrev XK:=Value->Option Addr->Hp->Prop
abbrev St:=List (Option V)
abbrev VK:=V->Hp->Prop
abbrev TE:=St->Hp->VK->Prop
abbrev TT:=St->Hp->(Bool->Hp->Prop)->Prop
abbrev TA:=St->Hp->(List V->Hp->Prop)->Prop
structure Ends where
 nx:St->Hp->Prop
 rt:VK
 bk:St->Hp->Prop:=fun _ _=>False
 ct:St->Hp->Prop:=fun _ _=>False
abbrev TS:=Ends->St->Hp->Prop
def EP(X:Cx)(pins:List (Addr×Obj))(σ : St)(Q:VK)(u:Value)(s':Shared):Prop:=∃ v H',Inv X pins σ H' s'/\RelV v u/\Q v H'
def TP(X:Cx)(pins:List (Addr×Obj))(σ : St)(Q:Bool->Hp->Prop)(b:Bool)(s':Shared):Prop:=∃ H',Inv X pins σ H' s'/\Q b H'
def AP(X:Cx)(pins:List (Addr×Obj))(σ : St)(Q:List V->Hp->Prop)(us:List Value)(s':Shared):Prop:=∃ vs H',Inv X pins σ H' s'/\Vals vs us/\Q vs H'
def SP(X:Cx)(pins:List (Addr×Obj))(D:Ends)(f:Flow)(s':Shared):Prop:=
 match f with
 | .next=>∃ σ' H',Inv X pins σ' H' s'/\D.nx σ' H'
 | .brk=>∃ σ' H',Inv X pins σ' H' s'/\D.bk σ' H'
 | .cont=>∃ σ' H',Inv X pins σ' H' s'/\D.ct σ' H'
 | .ret u=>∃ v σ' H',Inv X pins σ' H' s'/\RelV v u/\D.rt v H'
def PE(X:Cx)(e:Expr)(t:TE):Prop:=
 ∀ (pins:List (Addr×Obj)) (s:Shared) (σ : St) (H:Hp) (Q:VK),Inv X pins σ H s->t σ H Q->wpAny (model X.prog X.w) X.A (eval e X.env) (EP X pins σ Q) X.xe s
def PT(X:Cx)(e:Expr)(t:TT):Prop:=
 ∀ (pins:List (Addr×Obj)) (s:Shared) (σ : St) (H:Hp) (Q:Bool->Hp->Prop),Inv X pins σ H s->t σ H Q->wpAny (model X.prog X.w) X.A (isTrue e X.env (eval e X.env)) (TP X pins σ Q) X.xe s
def PW(X:Cx)(e:Expr)(t:TT):Prop:=
 ∀ (whole:Sem Value) (pins:List (Addr×Obj)) (s:Shared) (σ : St) (H:Hp) (Q:Bool->Hp->Prop),Inv X pins σ H s->t σ H Q->wpAny (model X.prog X.w) X.A (isTrue e X.env whole) (TP X pins σ Q) X.xe s
theorem PW.pt{X:Cx}{e:Expr}{t:TT}(h:PW X e t):PT X e t:=h _
def PA(X:Cx)(es:List Expr)(t:TA):Prop:=
 ∀ (pos:Pos) (pins:List (Addr×Obj)) (s:Shared) (σ : St) (H:Hp) (Q:List V->Hp->Prop),Inv X pins σ H s->t σ H Q->wpAny (model X.prog X.w) X.A (spliced (backTo pos (starEach es X.env))) (AP X pins σ Q) X.xe s
def PS(X:Cx)(st:Stmt)(t:TS):Prop:=
 ∀ (pins:List (Addr×Obj)) (s:Shared) (σ : St) (H:Hp) (D:Ends),Inv X pins σ H s->t D σ H->wpAny (model X.prog X.w) X.A (exec st X.env) (SP X pins D) X.xe s
def PSs(X:Cx)(st:List Stmt)(t:TS):Prop:=
 ∀ (pins:List (Addr×Obj)) (s:Shared) (σ : St) (H:Hp) (D:Ends),Inv X pins σ H s->t D σ H->wpAny (model X.prog X.w) X.A (execs st X.env) (SP X pins D) X.xe s
theorem thn{α : Type}{t:Sem α}{Q Q':α->Shared->Prop}{M:Model}{A:Around}{E:Value->Shared->Prop}{s:Shared}(h:wpAny M A t Q E s)(hQ:∀ a s,Q a s->Q' a s):wpAny M A t Q' E s:=wpAny_mono h hQ fun _ _ x=>x
section
variable{X:Cx}
def tVar(i:Nat):TE:=fun σ H Q=>∃ v,σ[i]?=some (some v)/\Q v H
def tC(v:V):TE:=fun _ H Q=>Q v H
theorem jd{i:Nat}{x:Str}{pos:Pos}(hN:X.N[i]?=some x)(hv:Vis X.env.scope x)(hd:(x==("__debug__" : Str))=false:=by decide)(hcd:(x==("__classdict__" : Str))=false:=by decide):PE X (.Name x pos) (tVar i):=by
 intro pins s σ H Q I h;obtain⟨v,e,h⟩:=h;obtain⟨m,hn,hl⟩:=I.loc;obtain⟨u,r,l⟩:=hl i x v hN e hv;have fin:EP X pins σ Q u s:=⟨v,H,I,r,h⟩
 rcases l with ⟨hk,hm⟩|⟨hk,c,hc,hcell⟩
 . exact wpAny_Name (wpAny_loadName_local I.ok.kind hk hn hm fin) hd
 . rcases hk with hk|hk
   . exact wpAny_Name (wpAny_loadName_cell I.ok.kind hk hc hcell fin) hd
   . exact wpAny_Name (wpAny_loadName_free I.ok.kind hk hc hcell fin hcd) hd
theorem znA{i j pos}:PE X (.Constant (.int i) j pos) (tC (.int i)):=fun _ _ _ H _ I h=>wpAny_Constant_int ⟨.int i,H,I.tok _,⟨_,rfl⟩,h⟩
theorem zeA{b j pos}:PE X (.Constant (.bool b) j pos) (tC (.bl b)):=fun _ _ _ H _ I h=>Constant_bool ⟨.bl b,H,I,rfl,h⟩
theorem zml{j pos}:PE X (.Constant .none j pos) (tC .non):=fun _ _ _ H _ I h=>Constant_none ⟨.non,H,I,rfl,h⟩
theorem ziF{x j pos}:PE X (.Constant (.str x) j pos) (tC (.str x)):=fun _ _ _ H _ I h=>Calls.Constant_str ⟨.str x,H,I.tok _,⟨_,rfl⟩,h⟩
def Gl(X:Cx)(x:Str):Prop:=X.env.kindOf x=some .globalImplicit
theorem zb7{E:Value->Shared->Prop}{pins:List (Addr×Obj)}{s:Shared}{σ : St}{H:Hp}{x:Str}{u:Value}{pos:Pos}{Q:Value->Shared->Prop}(I:Inv X pins σ H s)(hg:Gl X x)(hm:X.mg x=some u)(h:Q u s)
 (hd:(x==("__debug__" : Str))=false:=by decide):wpAny (model X.prog X.w) X.A (eval (.Name x pos) X.env) Q E s:=
 Calls.Name_function_global I.ok.kind hg (Calls.loadGlobal_global (by rw [I.ok.glob];exact I.mod.glob.keeps I.bk) hm h) hd
theorem j0{E:Value->Shared->Prop}{pins:List (Addr×Obj)}{s:Shared}{σ : St}{H:Hp}{x:Str}{u:Value}{pos:Pos}{Q:Value->Shared->Prop}(I:Inv X pins σ H s)(hg:Gl X x)(hm:X.mg x=none)(hv:bootBuiltins x=some u)(h:Q u s)
 (hn:x≠"__name__":=by decide) (hd:(x==("__debug__" : Str))=false:=by decide):wpAny (model X.prog X.w) X.A (eval (.Name x pos) X.env) Q E s:=by
 obtain⟨mb,h1,h2⟩:=I.mod.blt;exact Calls.Name_function_global I.ok.kind hg (Calls.loadGlobal_builtin (by rw [I.ok.glob];exact I.mod.glob.keeps I.bk) hm (by rw [I.ok.blt];exact h1.keeps I.bk) ((h2 x hn).trans hv) h) hd
theorem zhm{x:Str}{v:V}{u:Value}{pos:Pos}(hg:Gl X x)(hm:X.mg x=some u)(r:RelV v u)(hd:(x==("__debug__" : Str))=false:=by decide):PE X (.Name x pos) (tC v):=
 fun _ _ _ H _ I h=>zb7 I hg hm ⟨v,H,I,r,h⟩ hd
theorem zhg{x:Str}{v:V}{u:Value}{pos:Pos}(hg:Gl X x)(hm:X.mg x=none)(hv:bootBuiltins x=some u)(r:RelV v u)(hn:x≠"__name__":=by decide)(hd:(x==("__debug__" : Str))=false:=by decide):PE X (.Name x pos) (tC v):=
 fun _ _ _ H _ I h=>j0 I hg hm hv ⟨v,H,I,r,h⟩ hn hd
variable{a b:Expr}{ta tb:TE}{pos:Pos}
def tB(t:TE):TT:=fun σ H Q=>t σ H fun x H1=>∃ c,x=.bl c/\Q c H1
theorem zgU{e:Expr}{t:TE}(h:PE X e t)(he:∀ whole,isTrue e X.env whole=(do let v <-whole;standAt e.pos;holding [v] (truthy v)):=by intro _;rfl):PT X e (tB t):=by
 intro pins s σ H Q I hw;refine isTrue_plain (thn (h pins s σ H _ I hw) fun v s1 ⟨x,H1,I1,r1,q1⟩=>?_) (he _)
 obtain⟨d,rfl,q⟩:=q1;cases r1;exact wpAny_truthy_bool ⟨H1,I1,q⟩
variable{tA tB':TT}{rest:List Expr}
def tAnd(t u:TT):TT:=fun σ H Q=>t σ H fun c H1=>if c=true then u σ H1 Q else Q false H1
def tOr(t u:TT):TT:=fun σ H Q=>t σ H fun c H1=>if c=true then Q true H1 else u σ H1 Q
def tNot(t:TT):TT:=fun σ H Q=>t σ H fun c H1=>Q (!c) H1
theorem zfP(ha:PT X a tA):PW X (.BoolOp .And [a] pos) tA:=by
 intro wh pins s σ H Q I h;refine isTrue_and (thn (ha pins s σ H Q I h) fun c s1 e=>?_)
 cases c with
 | true=>exact isTrue_and_nil e
 | false=>exact e
theorem zh1(ha:PT X a tA):PW X (.BoolOp .Or [a] pos) tA:=by
 intro wh pins s σ H Q I h;refine isTrue_or (thn (ha pins s σ H Q I h) fun c s1 e=>?_)
 cases c with
 | false=>exact isTrue_or_nil e
 | true=>exact e
theorem zku(ha:PT X a tA)(hb:PW X (.BoolOp .And (b::rest) pos) tB'):PW X (.BoolOp .And (a::b::rest) pos) (tAnd tA tB'):=by
 intro wh pins s σ H Q I h;refine isTrue_and (thn (ha pins s σ H _ I h) fun c s1 ⟨H1,I1,q1⟩=>?_)
 cases c with
 | true=>exact hb wh pins s1 σ H1 Q I1 q1
 | false=>exact⟨H1,I1,q1⟩
theorem zgD(ha:PT X a tA)(hb:PW X (.BoolOp .Or (b::rest) pos) tB'):PW X (.BoolOp .Or (a::b::rest) pos) (tOr tA tB'):=by
 intro wh pins s σ H Q I h;refine isTrue_or (thn (ha pins s σ H _ I h) fun c s1 ⟨H1,I1,q1⟩=>?_)
 cases c with
 | true=>exact⟨H1,I1,q1⟩
 | false=>exact hb wh pins s1 σ H1 Q I1 q1
theorem zi7(ha:PT X a tA):PT X (.UnaryOp .Not a pos) (tNot tA):=by
 intro pins s σ H Q I h;exact isTrue_not (ha pins s σ H (fun c H1=>Q (!c) H1) I h)
def zhO(ta tb:TE):TE:=fun σ H Q=>ta σ H fun x H1=>∃ c,x=.bl c/\if c=true then tb σ H1 Q else Q (.bl false) H1
def zgO(ta:TE):TE:=fun σ H Q=>ta σ H fun x H1=>∃ c,x=.bl c/\Q (.bl (!c)) H1
theorem zl1{op}{t:TE}(h:PE X a t):PE X (.BoolOp op [a] pos) t:=fun pins s σ H Q I hw=>BoolOp_one (h pins s σ H Q I hw)
theorem zko(ha:PE X a ta)(hb:PE X (.BoolOp .And (b::rest) pos) tb):PE X (.BoolOp .And (a::b::rest) pos) (zhO ta tb):=by
 intro pins s σ H Q I h;refine BoolOp_and (thn (ha pins s σ H _ I h) fun v s1 ⟨x,H1,I1,r1,q1⟩=>?_)
 obtain⟨c,rfl,q1⟩:=q1;cases r1;refine wpAny_truthy_bool ?_;cases c with
 | true=>exact hb pins s1 σ H1 Q I1 q1
 | false=>exact⟨.bl false,H1,I1,rfl,q1⟩
theorem zgE(ha:PE X a ta):PE X (.UnaryOp .Not a pos) (zgO ta):=by
 intro pins s σ H Q I h;refine UnaryOp_ (thn (ha pins s σ H _ I h) fun v s1 ⟨x,H1,I1,r1,q1⟩=>?_)
 obtain⟨c,rfl,q1⟩:=q1;cases r1;exact not_of (wpAny_truthy_bool ⟨.bl (!c),H1,I1,rfl,q1⟩)
def tIf(t:TT)(ta tb:TE):TE:=fun σ H Q=>t σ H fun c H1=>if c=true then ta σ H1 Q else tb σ H1 Q
theorem zlJ{c:Expr}(hc:PT X c tA)(ha:PE X a ta)(hb:PE X b tb):PE X (.IfExp c a b pos) (tIf tA ta tb):=by
 intro pins s σ H Q I h;refine wpAny_IfExp (thn (hc pins s σ H _ I h) fun d s1 ⟨H1,I1,q1⟩=>?_)
 cases d with
 | true=>exact ha pins s1 σ H1 Q I1 q1
 | false=>exact hb pins s1 σ H1 Q I1 q1
end
def SqL(K:Ybf)(H:Hp)(a:Addr)(xs:List V):Prop:=
 Rd H a (.lst xs)\/
  ∃ (o:Obj) (its:Array Value) (n:Nat),K.lookup a=some o/\o.cls=.type "list"/\o.dict=none/\o.data=.seq its n/\its.size<=sizeLine/\Vals xs its.toList
def SqT(K:Ybf)(H:Hp)(a:Addr)(xs:List V):Prop:=
 Rd H a (.tup xs)\/
  ∃ (o:Obj) (its:Array Value) (n:Nat),K.lookup a=some o/\o.cls=.type "tuple"/\o.data=.seq its n/\its.size<=sizeLine/\Vals xs its.toList
def absV:Value->Option V
 | .none=>some .non
 | .bool b=>some (.bl b)
 | .int i _=>some (.int i)
 | .str x _=>some (.str x)
 | .bytes b _=>some (.byt b)
 | .float b _=>some (.flt b)
 | .ref a=>some (.ref a)
 | .type n=>some (.ty n)
 | _=>none
theorem RelV.abs{x:V}{u:Value}(r:RelV x u):absV u=some x:=by
 cases x with
 | non=>cases r;rfl
 | bl _=>cases r;rfl
 | int _=>obtain⟨t,rfl⟩:=r;rfl
 | str _=>obtain⟨t,rfl⟩:=r;rfl
 | byt _=>obtain⟨t,rfl⟩:=r;rfl
 | flt _=>obtain⟨t,rfl⟩:=r;rfl
 | ref _=>cases r;rfl
 | ty _=>cases r;rfl
theorem RelV.inj{x y:V}{u:Value}(r:RelV x u)(q:RelV y u):x=y:=Wbe (r.abs.symm.trans q.abs)
theorem Vals.inj:∀ {xs ys:List V} {us:List Value},Vals xs us->Vals ys us->xs=ys
 | _,_,_,.nil,.nil=>rfl
 | _,_,_,.cons r t,.cons r' t'=>by rw [r.inj r',Vals.inj t t']
section
variable{X:Cx}{pins:List (Addr×Obj)}{σ : St}{H:Hp}{s:Shared}{a:Addr}{xs ys:List V}
theorem SqL.of{K:Ybf}(h:H a=some (.lst xs)):SqL K H a xs:=.inl (.inl h)
theorem SqT.of{K:Ybf}(h:H a=some (.tup xs)):SqT K H a xs:=.inl (.inl h)
theorem Inv.list(I:Inv X pins σ H s)(h:SqL X.K H a xs):∃ its:List Value,Vals xs its/\PlainL s.heap a its.toArray/\xs.length<=sizeLine:=by
 rcases h with h|⟨o,its,n,hk,hc,hd,hs,hz,r⟩
 . obtain⟨z,its,n,r,e⟩:=h.ok I.hok
   exact⟨its,r,⟨_,n,e,rfl,rfl,rfl⟩,z⟩
 . refine⟨its.toList,r,⟨o,n,I.kIn a o hk,hc,hd,by simpa using hs⟩,?_⟩
   have e:=r.length;simp only [Array.length_toList] at e
   omega
theorem Inv.tuple(I:Inv X pins σ H s)(h:SqT X.K H a xs):∃ its:List Value,Vals xs its/\IsTup s.heap a its.toArray/\xs.length<=sizeLine:=by
 rcases h with h|⟨o,its,n,hk,hc,hs,hz,r⟩
 . obtain⟨z,its,r,p⟩:=h.ok I.hok
   exact⟨its,r,p,z⟩
 . refine⟨its.toList,r,⟨o,I.kIn a o hk,hc,n,by simpa using hs⟩,?_⟩
   have e:=r.length;simp only [Array.length_toList] at e
   omega
theorem Inv.list_inj(I:Inv X pins σ H s)(h:SqL X.K H a xs)(h':SqL X.K H a ys):xs=ys:=by
 obtain⟨its,r,⟨o,n,e,_,_,d⟩,_⟩:=I.list h;obtain⟨its',r',⟨o',n',e',_,_,d'⟩,_⟩:=I.list h';rw [e] at e';cases e';rw [d] at d'
 injection d' with d1 _
 have:its=its':=by simpa using congrArg Array.toList d1
 subst this;exact r.inj r'
end
abbrev Cx.wish(X:Cx)(E:Value->Shared->Prop):Cx:={ X with xe:=E }
abbrev Cx.nox(X:Cx):Cx:=X.wish fun _ _=>False
theorem Cx.Ok.wish{X:Cx}(ok:X.Ok)(E:Value->Shared->Prop):(X.wish E).Ok:=
 ⟨ok.mod,ok.kind,ok.glob,ok.blt,ok.above,ok.inj,ok.has,ok.cab,ok.hd,ok.frames,ok.stk,ok.exf,ok.bs,ok.bsz,ok.noex,ok.exfs,ok.funs,ok.frf⟩
theorem Cx.Ok.unwish{X:Cx}{E:Value->Shared->Prop}(ok:(X.wish E).Ok):X.Ok:=
 ⟨ok.mod,ok.kind,ok.glob,ok.blt,ok.above,ok.inj,ok.has,ok.cab,ok.hd,ok.frames,ok.stk,ok.exf,ok.bs,ok.bsz,ok.noex,ok.exfs,ok.funs,ok.frf⟩
section
variable{X:Cx}{pins:List (Addr×Obj)}{σ : St}{H:Hp}{s:Shared}{E:Value->Shared->Prop}
theorem Inv.wish(I:Inv X pins σ H s)(E:Value->Shared->Prop):Inv (X.wish E) pins σ H s:=⟨I.ok.wish E,I.os,I.bare,I.base,I.loc,I.cell,I.free,I.freeC,I.pin,I.hok,I.len⟩
theorem Inv.unwish(I:Inv (X.wish E) pins σ H s):Inv X pins σ H s:=⟨I.ok.unwish,I.os,I.bare,I.base,I.loc,I.cell,I.free,I.freeC,I.pin,I.hok,I.len⟩
theorem SP.unwish{D:Ends}{f:Flow}{s':Shared}(h:SP (X.wish E) pins D f s'):SP X pins D f s':=by
 cases f with
 | next=>obtain⟨σ',H',I,q⟩:=h;exact⟨σ',H',I.unwish,q⟩
 | brk=>obtain⟨σ',H',I,q⟩:=h;exact⟨σ',H',I.unwish,q⟩
 | cont=>obtain⟨σ',H',I,q⟩:=h;exact⟨σ',H',I.unwish,q⟩
 | ret u=>obtain⟨v,σ',H',I,r,q⟩:=h;exact⟨v,σ',H',I.unwish,r,q⟩
theorem PE.nox{e:Expr}{t:TE}(h:PE X.nox e t):PE X e t:=fun pins s σ H Q I hw=>
 wpAny_mono (h pins s σ H Q (I.wish _) hw) (fun _ _ ⟨v,H',I',r,q⟩=>⟨v,H',I'.unwish,r,q⟩) fun _ _ z=>False.elim z
theorem PT.nox{e:Expr}{t:TT}(h:PT X.nox e t):PT X e t:=fun pins s σ H Q I hw=>
 wpAny_mono (h pins s σ H Q (I.wish _) hw) (fun _ _ ⟨H',I',q⟩=>⟨H',I'.unwish,q⟩) fun _ _ z=>False.elim z
theorem PSs.nox{st:List Stmt}{t:TS}(h:PSs X.nox st t):PSs X st t:=fun pins s σ H D I hw=>
 wpAny_mono (h pins s σ H D (I.wish _) hw) (fun _ _ q=>q.unwish) fun _ _ z=>False.elim z
end
section
variable{X:Cx}{st:Stmt}{rest:List Stmt}{t u:TS}{e:Expr}{te:TE}{pos:Pos}
def tNext:TS:=fun D σ H=>D.nx σ H
def tSeq(t u:TS):TS:=fun D σ H=>t { D with nx:=u D } σ H
theorem zjg:PSs X [] tNext:=fun _ _ σ H _ I h=>wpAny_execs_nil ⟨σ,H,I,h⟩
theorem ziG(h1:PS X st t)(h2:PSs X rest u):PSs X (st::rest) (tSeq t u):=by
 intro pins s σ H D I h;refine wpAny_execs_cons (thn (h1 pins s σ H { D with nx:=u D } I h) fun f s1 q=>?_)
 cases f with
 | next=>
  obtain⟨σ',H',I',q⟩:=q;exact h2 pins s1 σ' H' D I' q
 | ret v=>exact q
 | brk=>exact q
 | cont=>exact q
theorem zjf(h1:PS X st t):PSs X [st] t:=by
 intro pins s σ H D I h;refine wpAny_execs_cons (thn (h1 pins s σ H D I h) fun f s1 q=>?_)
 cases f with
 | next=>exact wpAny_execs_nil q
 | ret v=>exact q
 | brk=>exact q
 | cont=>exact q
theorem Inv.quiet{pins:List (Addr×Obj)}{σ : St}{H:Hp}{s:Shared}(I:Inv X pins σ H s):interactive X.env=false:=by simp [interactive,I.ok.kind]
def zmu(te:TE):TS:=fun D σ H=>te σ H fun _ H1=>D.nx σ H1
theorem zbf(he:PE X e te)(hs:swapsWith e none pos.line X.env=pure false:=by rfl):PS X (.Expr e pos) (zmu te):=by
 intro pins s σ H D I h;exact wpAny_Expr_any (thn (he pins s σ H _ I h) fun v s1 ⟨x,H1,I1,r1,q1⟩=>⟨σ,H1,I1,q1⟩) I.quiet hs
def tRet(te:TE):TS:=fun D σ H=>te σ H D.rt
theorem zne(he:PE X e te):PS X (.Return (some e) pos) (tRet te):=by
 intro pins s σ H D I h;exact wpAny_Return_some (thn (he pins s σ H _ I h) fun v s1 ⟨x,H1,I1,r1,q1⟩=>⟨x,σ,H1,I1,r1,q1⟩)
def tIfS(c:TT)(t u:TS):TS:=fun D σ H=>c σ H fun b H1=>if b=true then t D σ H1 else u D σ H1
theorem znq{c:Expr}{a b:List Stmt}{tc:TT}(hc:PT X c tc)(ha:PSs X a t)(hb:PSs X b u):PS X (.If c a b pos) (tIfS tc t u):=by
 intro pins s σ H D I h;refine wpAny_If (thn (hc pins s σ H _ I h) fun d s1 ⟨H1,I1,q1⟩=>?_)
 cases d with
 | true=>exact ha pins s1 σ H1 D I1 q1
 | false=>exact hb pins s1 σ H1 D I1 q1
end
abbrev TG:=V->St->Hp->(St->Hp->Prop)->Prop
abbrev TGs:=List V->St->Hp->(St->Hp->Prop)->Prop
def PG(X:Cx)(target:Expr)(t:TG):Prop:=
 ∀ (pins:List (Addr×Obj)) (s:Shared) (σ : St) (H:Hp) (v:V) (u:Value) (Q:St->Hp->Prop),Inv X pins σ H s->RelV v u->t v σ H Q->
  wpAny (model X.prog X.w) X.A (assign target X.env u) (fun _ s'=>∃ σ' H',Inv X pins σ' H' s'/\Q σ' H') X.xe s
def PGs(X:Cx)(ts:List Expr)(t:TGs):Prop:=
 ∀ (pins:List (Addr×Obj)) (s:Shared) (σ : St) (H:Hp) (vs:List V) (us:List Value) (Q:St->Hp->Prop),Inv X pins σ H s->Vals vs us->t vs σ H Q->
  wpAny (model X.prog X.w) X.A (assignInOrder ((assignEach ts X.env).map (·.2)) us) (fun _ s'=>∃ σ' H',Inv X pins σ' H' s'/\Q σ' H') X.xe s
abbrev TSet:=V->V->V->Hp->(Hp->Prop)->Prop
def PSet(X:Cx)(t:TSet):Prop:=
 ∀ (pins:List (Addr×Obj)) (s:Shared) (σ : St) (H:Hp) (o i v:V) (ov iv u:Value) (Q:Hp->Prop),Inv X pins σ H s->RelV o ov->RelV i iv->RelV v u->t o i v H Q->
  wpAny (model X.prog X.w) X.A (setItem ov iv u) (fun _ s'=>∃ H',Inv X pins σ H' s'/\Q H') X.xe s
abbrev TIp:=V->V->Hp->VK->Prop
def PIp(X:Cx)(op:Operator)(t:TIp):Prop:=
 ∀ (pins:List (Addr×Obj)) (s:Shared) (σ : St) (H:Hp) (x y:V) (v u:Value) (Q:VK),Inv X pins σ H s->RelV x v->RelV y u->t x y H Q->
  wpAny (model X.prog X.w) X.A (inplaceOp op v u) (EP X pins σ Q) X.xe s
section
variable{X:Cx}{pos:Pos}
def zbX(i:Nat):TG:=fun v σ H Q=>Q (σ.set i (some v)) H
theorem zmG{i:Nat}{x:Str}(hN:X.N.Nodup)(hi:X.N[i]?=some x)(hx:Loc X.env.scope x)(hf:X.fn x=true\/X.env.scope.names.lookup x=some .local:=by first|exact .inl rfl|exact .inr rfl|assumption):PG X (.Name x pos) (zbX i):=by
 intro pins s σ H v u Q I r h;exact wpAny_assign_Name (zad I hN hi hx r (fun s' I'=>⟨_,H,I',h⟩) hf)
def gNil:TGs:=fun vs σ H Q=>vs=[]/\Q σ H
def zlx(t:TG)(u:TGs):TGs:=fun vs σ H Q=>∃ v r,vs=v::r/\t v σ H fun σ' H'=>u r σ' H' Q
theorem znE:PGs X [] gNil:=by
 intro pins s σ H vs us Q I r h;obtain⟨e,h⟩:=h;subst e;cases r;exact assignInOrder_nil ⟨σ,H,I,h⟩
theorem ziT{e:Expr}{es:List Expr}{t:TG}{u:TGs}(h1:PG X e t)(h2:PGs X es u)
 (hs:(assignEach (e::es) X.env).map (·.2)=assign e X.env::(assignEach es X.env).map (·.2):=by rfl):PGs X (e::es) (zlx t u):=by
 intro pins s σ H vs us Q I r h;obtain⟨v,vr,e1,h⟩:=h;subst e1;cases r with
 | cons r rr=>
  rw [hs];refine assignInOrder_cons (thn (h1 pins s σ H _ _ _ I r h) fun _ s1 ⟨σ1,H1,I1,q1⟩=>?_)
  exact h2 pins s1 σ1 H1 _ _ Q I1 rr q1
def gTup(K:Ybf)(n:Nat)(t:TGs):TG:=fun v σ H Q=>∃ a xs,v=.ref a/\SqT K H a xs/\xs.length=n/\t xs σ H Q
theorem zgo{es:List Expr}{k:Nat}{t:TGs}{n:Nat}(hc:X.calm=true)(h:PGs X es t)
 (hn:(assignEach es X.env).length=n:=by rfl) (hst:(assignEach es X.env).findIdx? (·.1)=none:=by rfl):PG X (.Tuple es k pos) (gTup X.K n t):=by
 intro pins s σ H v u Q I r hw;obtain⟨a,xs,e1,hq,hl,hw⟩:=hw;subst e1;cases r;obtain⟨its,rv,ht,hz⟩:=I.tuple hq;refine assign_Tuple_tuple (I.ok.hd hc) ht (by simp [hn,<-hl,rv.length]) hst fun h' hx=>?_
 have I1:Inv X pins σ H { s with heap:=h' }:=I.kept (t':=s.toks) fun b o e=>hx b o (Yaf (YaX e)) e
 exact h pins _ σ H xs _ Q I1 (by simpa using rv) hw
def gSub(to ti:TE)(t:TSet):TG:=fun v σ H Q=>to σ H fun o H1=>ti σ H1 fun i H2=>t o i v H2 fun H3=>Q σ H3
theorem znt{o i:Expr}{to ti:TE}{t:TSet}(ho:PE X o to)(hi:PE X i ti)(hs:PSet X t)
 (ha:∀ v,assign (.Subscript o i pos) X.env v=(do
  let ov <-holding [v] (eval o X.env)
  let iv <-holding [v,ov] (eval i X.env)
  standAt pos
  holding [v,ov,iv] (setItem ov iv v)
  release [v,ov,iv] []):=by intro _;rfl):PG X (.Subscript o i pos) (gSub to ti t):=by
 intro pins s σ H v u Q I r h;rw [ha];refine wpAny_bind (wpAny_holding (thn (ho pins s σ H _ I h) fun ov s1 ⟨x,H1,I1,r1,q1⟩=>?_))
 refine wpAny_bind (wpAny_holding (thn (hi pins s1 σ H1 _ I1 q1) fun iv s2 ⟨y,H2,I2,r2,q2⟩=>?_))
 refine wpAny_bind (wpAny_standAt (wpAny_bind (wpAny_holding (thn (hs pins s2 σ H2 x y v ov iv u _ I2 r1 r2 r q2) fun _ s3 ⟨H3,I3,q3⟩=>?_))))
 exact wpAny_release ⟨σ,H3,I3,q3⟩
def tAsg(te:TE)(g:TG):TS:=fun D σ H=>te σ H fun x H1=>g x σ H1 D.nx
theorem zc9{tg e:Expr}{te:TE}{g:TG}(he:PE X e te)(hg:PG X tg g)(hs:swapsWithSole [tg] e pos.line X.env=pure false:=by rfl)(hw:swappedStores [tg] e X.env=pure none:=by rfl)
 (h1:(assignEach [tg] X.env).map (·.2)=[assign tg X.env]:=by rfl):PS X (.Assign [tg] e pos) (tAsg te g):=by
 intro pins s σ H D I h;refine wpAny_Assign_stores (thn (he pins s σ H _ I h) fun v s1 ⟨x,H1,I1,r1,q1⟩=>?_) hs hw
 rw [h1];exact thn (hg pins s1 σ H1 x v _ I1 r1 q1) fun _ s2 q=>q
theorem ZD{i:Nat}{x:Str}{e:Expr}{te:TE}{pos':Pos}(hN:X.N.Nodup)(hi:X.N[i]?=some x)(hx:Loc X.env.scope x)(he:PE X e te)(hs:swapsWith e (some (.Name x pos')) pos.line X.env=pure false:=by rfl)(hf:X.fn x=true\/X.env.scope.names.lookup x=some .local:=by first|exact .inl rfl|exact .inr rfl|assumption) :
 PS X (.Assign [.Name x pos'] e pos) (tAsg te (zbX i)):=by
 intro pins s σ H D I h;refine wpAny_Assign_Name (thn (he pins s σ H _ I h) fun v s1 ⟨y,H1,I1,r1,q1⟩=>?_) hs
 exact zad I1 hN hi hx r1 (fun s2 I2=>⟨_,H1,I2,q1⟩) hf
def tPar(i j:Nat)(ta:TA):TS:=fun D σ H=>ta σ H fun vs H1=>∃ v w,vs=[v,w]/\D.nx ((σ.set i (some v)).set j (some w)) H1
theorem zk7{i j:Nat}{x y:Str}{a b:Expr}{ta:TA}{px py pt:Pos}{kt k2 pt2}(hc:X.calm=true)(hN:X.N.Nodup)(hi:X.N[i]?=some x)(hj:X.N[j]?=some y)(hij:i≠j)
 (hx:X.env.scope.names.lookup x=some .local) (hy:X.env.scope.names.lookup y=some .local) (ha:PA X [a,b] ta)
 (hw:swappedStores [.Tuple [.Name x px,.Name y py] kt pt] (.Tuple [a,b] k2 pt2) X.env=pure (some [x,y]))
 (hs:swapsWithSole [.Tuple [.Name x px,.Name y py] kt pt] (.Tuple [a,b] k2 pt2) pos.line X.env=pure false:=by rfl) :
 PS X (.Assign [.Tuple [.Name x px,.Name y py] kt pt] (.Tuple [a,b] k2 pt2) pos) (tPar i j ta):=by
 intro pins s σ H D I h;rw [exec_Assign_arm];refine wpAny_bind (wpAny_standAt ?_);rw [hs];refine wpAny_bind (wpAny_pure ?_);rw [if_neg #[1]]
 refine wpAny_bind (Tuple_ (thn (ha _ pins s σ H _ I h) fun us s1 ⟨vs,H1,I1,r1,q1⟩=>?_))
 obtain⟨v,w,e1,q1⟩:=q1;subst e1;obtain⟨u1,u2,rfl,rv,rw'⟩:∃ u1 u2,us=[u1,u2]/\RelV v u1/\RelV w u2:=by
  cases r1 with
  | cons p q=>
   cases q with
   | cons p' q'=>
    cases q';exact⟨_,_,rfl,p,p'⟩
 refine wpAny_newObj_type ?_ (by show 2<=sizeLine;decide)
 have I2:Inv X pins σ H1 { s1 with heap:=s1.heap.push { cls:=.type "tuple", data:=.seq [u1,u2].toArray } }:=I1.kept (t':=s1.toks) fun b o e=>YaW _ e
 rw [hw];refine wpAny_bind (wpAny_pure ?_);show wpAny (model X.prog X.w) X.A (do rule "assign.swapped-stores";let items <-unpackItems (.ref s1.heap.objs.size) 2 none;assignInOrder [fun v=>bindName X.env y v,fun v=>bindName X.env x v] items.reverse;pure Flow.next) _ _ _
 refine wpAny_bind (wpAny_rule (wpAny_bind (unpackItems_tuple (items:=#[u1,u2]) (I.ok.hd hc) (IsTup.new s1.heap _) fun h' hx'=>?_)))
 have I3:=I2.kept (h':=h') (t':=s1.toks) fun b o e=>hx' b o (Yaf (YaX e)) e
 show wpAny _ _ (assignInOrder [fun v=>bindName X.env y v,fun v=>bindName X.env x v] [u2,u1] >>= fun _=>pure Flow.next) _ _ _
 refine wpAny_bind (assignInOrder_cons (wpAny_bindName (zad I3 hN hj (.inl hy) rw' (fun s2 I4=>?_) (.inr hy))))
 refine assignInOrder_cons (wpAny_bindName (zad I4 hN hi (.inl hx) rv (fun s3 I5=>assignInOrder_nil (wpAny_pure ?_)) (.inr hx)))
 rw [List.set_comm _ _ (WbL hij)] at I5;exact⟨_,H1,I5,q1⟩
def tAug(i:Nat)(te:TE)(ti:TIp):TS:=fun D σ H=>∃ x,σ[i]?=some (some x)/\te σ H fun y H1=>ti x y H1 fun z H2=>D.nx (σ.set i (some z)) H2
theorem zk9{i:Nat}{x:Str}{e:Expr}{te:TE}{op:Operator}{ti:TIp}{pos':Pos}(hN:X.N.Nodup)(hi:X.N[i]?=some x)(hx:Loc X.env.scope x)(he:PE X e te)(ho:PIp X op ti)(hf:X.fn x=true\/X.env.scope.names.lookup x=some .local:=by first|exact .inl rfl|exact .inr rfl|assumption) :
 PS X (.AugAssign (.Name x pos') op e pos) (tAug i te ti):=by
 intro pins s σ H D I h;obtain⟨v,e1,h⟩:=h;obtain⟨m,hn,hl⟩:=I.loc;have vis:Vis X.env.scope x:=by rcases hx with k|k;exact .inl k;exact .inr (.inl k)
 obtain⟨u,r,l⟩:=hl i x v hi e1 vis;refine wpAny_AugAssign_Name ?_;have go:wpAny (model X.prog X.w) X.A (eval e X.env) (fun w s₂=>wpAny (model X.prog X.w) X.A (inplaceOp op u w) (fun r s₃=>wpAny (model X.prog X.w) X.A (storeName X.env x r) (fun _=>SP X pins D .next) X.xe s₃) X.xe s₂) X.xe s:=by
  refine thn (he pins s σ H _ I h) fun w s1 ⟨y,H1,I1,r1,q1⟩=>?_
  refine thn (ho pins s1 σ H1 v y u w _ I1 r r1 q1) fun z s2 ⟨zv,H2,I2,r2,q2⟩=>?_
  exact zad I2 hN hi hx r2 (fun s3 I3=>⟨_,H2,I3,q2⟩) hf
 rcases l with ⟨hk,hm⟩|⟨hk,c,hc,hcell⟩
 . exact wpAny_loadName_local I.ok.kind hk hn hm go
 . rcases hk with hk|hk
   . exact wpAny_loadName_cell I.ok.kind hk hc hcell go
   . rcases hx with k|k
     . have:X.env.scope.names.lookup x=some .free:=hk
       rw [k] at this;cases this
     . have:X.env.scope.names.lookup x=some .free:=hk
       rw [k] at this;cases this
def ipI(f:Int->Int->Int):TIp:=fun x y H Q=>∃ i j,x=.int i/\y=.int j/\Q (.int (f i j)) H
theorem zjT:PIp X .Add (ipI fun i j=>i+j):=by
 intro pins s σ H x y v u Q I r1 r2 h;obtain⟨i,j,e1,e2,q⟩:=h;subst e1;subst e2;obtain⟨t,rfl⟩:=r1;obtain⟨t',rfl⟩:=r2;exact iadd_int ⟨.int _,H,I.tok _,⟨_,rfl⟩,q⟩
end
section
variable{X:Cx}{pos:Pos}
def zdL(c:TT)(tb:TS):TS:=fun D σ H=>∃ W:Nat->St->Hp->Prop,(∃ m,W m σ H)/\∀ m σ H,W m σ H->
 c σ H fun b H1=>if b=true then ∃ N:St->Hp->Prop,(∀ σ' H',N σ' H'->∃ m',m'<m/\W m' σ' H')/\tb { D with nx:=N,ct:=N,bk:=D.nx } σ H1 else D.nx σ H1
theorem zgC{c:Expr}{body:List Stmt}{tc:TT}{tb:TS}(hp:PassesOwn (model X.prog X.w) X.A X.env X.xe)(hc:PT X c tc)(hb:PSs X body tb):PS X (.While c body [] pos) (zdL tc tb):=by
 intro pins s σ H D I h;obtain⟨W,⟨m0,w0⟩,turn⟩:=h;refine wpAny_While (codeAny_whileLoop (fun n s'=>∃ σ' H',Inv X pins σ' H' s'/\W n σ' H') ?_ m0 ⟨σ,H,I,w0⟩)
 rintro n s1 ⟨σ1,H1,I1,w1⟩
 refine wpAny_passesOwn hp (thn (hc pins s1 σ1 H1 _ I1 (turn n σ1 H1 w1)) fun b s2 ⟨H2,I2,q2⟩=>?_)
 cases b with
 | true=>
  obtain⟨N,hN,q2⟩:=q2;rw [if_pos rfl];refine wpAny_passesOwn hp (thn (hb pins s2 σ1 H2 _ I2 q2) fun f s3 q3=>?_)
  cases f with
  | next=>
   obtain⟨σ3,H3,I3,n3⟩:=q3;obtain⟨m',hm,w3⟩:=hN σ3 H3 n3;exact⟨m',hm,σ3,H3,I3,w3⟩
  | cont=>
   obtain⟨σ3,H3,I3,n3⟩:=q3;obtain⟨m',hm,w3⟩:=hN σ3 H3 n3;exact⟨m',hm,σ3,H3,I3,w3⟩
  | brk=>exact q3
  | ret v=>exact q3
 | false=>
  rw [if_neg Yal];exact wpAny_execs_nil ⟨σ1,H2,I2,q2⟩
end
structure It where
 go:Nat->Hp->Prop
 yld:Nat->Hp->V->Hp->Prop
 stop:Nat->Hp->Prop
def FpOk(X:Cx)(pins:List (Addr×Obj))(H:Hp)(b:Addr):Prop:=
 H b=none/\b≠X.env.locals/\b∉X.fs/\(b∈X.ex\/X.s₀.heap.objs.size<=b)/\(∀ x c,X.env.cells.lookup x=some c->c≠b)/\∀ p∈X.pn++pins,p.1≠b
theorem Inv.fpOk{X:Cx}{pins:List (Addr×Obj)}{σ : St}{H H':Hp}{s:Shared}{b:Addr}(I:Inv X pins σ H s)(hb:s.heap.objs.size<=b)(hn:H' b=none):FpOk X pins H' b:=by
 refine⟨hn,Wby (YaU I.lt hb),I.nofs hb,.inr (Ya5 I.sz hb),fun x c e z=>?_,fun p hp z=>?_⟩
 . obtain⟨v,q⟩:=I.cell x c e
   exact absurd (YaU q.lt (by rw [z];exact hb)) (Yap _)
 . exact absurd (YaU (YaX (I.pin p hp).1) (by rw [z];exact hb)) (Yap _)
structure Turn(P:Program)(w:World)(K:Ybf)(tg:Expr)(J:It)(fp:List Addr)(it:Addr)(tn:Nat->Heap->Prop):Prop where
 mem:it∈fp
 obj:∀ i h,tn i h->∀ b∈fp,∃ o,h.get? b=some o/\∀ v,o.data≠.cell v
 keep:∀ i h h',tn i h->(∀ b∈fp,∀ o,h.get? b=some o->h'.get? b=some o)->tn i h'
 item:∀ (X:Cx),X.prog=P->X.w=w->X.K=K->X.calm=true->∀ (i:Nat) (pins:List (Addr×Obj)) (s:Shared) (σ : St) (H:Hp) (E:Value->Shared->Prop),Inv X pins σ H s->(∀ b∈fp,FpOk X pins H b)->tn i s.heap->J.go i H->
  wpAny (model P w) X.A (pyNext (.ref it)) (fun r s1=>∃ u,r=some u/\
   wpAny (model P w) X.A (letOwnedTupleGo tg (.ref it) u) (fun _ s2=>∃ x H',Inv X pins σ H' s2/\RelV x u/\J.yld i H x H'/\tn (i+1) s2.heap/\∀ b∈fp,H' b=none) E s1) E s
 done:∀ (X:Cx),X.prog=P->X.w=w->X.K=K->X.calm=true->∀ (i:Nat) (pins:List (Addr×Obj)) (s:Shared) (σ : St) (H:Hp) (E:Value->Shared->Prop),Inv X pins σ H s->(∀ b∈fp,FpOk X pins H b)->tn i s.heap->J.stop i H->
  wpAny (model P w) X.A (pyNext (.ref it)) (fun r s1=>r=none/\Inv X pins σ H s1) E s
 self:∀ (A:Around) (i:Nat) (s:Shared) (Q:Value->Shared->Prop) (E:Value->Shared->Prop),tn i s.heap->Q (.ref it) s->wpAny (model P w) A (pyIter (.ref it)) Q E s
abbrev TI:=St->Hp->(It->Hp->Prop)->Prop
def PIE(X:Cx)(pins:List (Addr×Obj))(σ : St)(tg:Expr)(R:It->Hp->Prop)(itv:Value)(s2:Shared):Prop:=
 ∃ (it:Addr) (fp:List Addr) (tn:Nat->Heap->Prop) (J:It) (H':Hp),itv=.ref it/\Inv X pins σ H' s2/\Turn X.prog X.w X.K tg J fp it tn/\tn 0 s2.heap/\(∀ b∈fp,FpOk X pins H' b)/\R J H'
def PI(X:Cx)(tg iter:Expr)(wi:TI):Prop:=
 ∀ (pins:List (Addr×Obj)) (s:Shared) (σ : St) (H:Hp) (R:It->Hp->Prop),Inv X pins σ H s->wi σ H R->
  wpAny (model X.prog X.w) X.A (eval iter X.env) (fun v s1=>wpAny (model X.prog X.w) X.A (pyIter v) (PIE X pins σ tg R) X.xe s1) X.xe s
theorem zeN{M:Model}{A:Around}{E:Value->Shared->Prop}{s:Shared}{tg:Expr}{it:Addr}{u:Value}{o:Obj}{n:String}{vs:Array Value}{Q:Unit->Shared->Prop}(ho:s.heap.get? it=some o)(hc:o.cls=.type n)(hd:o.data=.fields vs)
 (hn:["enumerate", "zip", "dict_itemiterator", "dict_reverseitemiterator", "odict_iterator", "itertools.zip_longest", "itertools.pairwise"].contains n=false) (hQ:Q () s):wpAny M A (letOwnedTupleGo tg (.ref it) u) Q E s:=by
 unfold letOwnedTupleGo;cases tg<;>first
  | exact wpAny_pure hQ
  | (cases u <;> first
   | exact wpAny_pure hQ
   | (refine wpAny_bind (wpAny_load ho ?_)
      rw [hc,hd];show wpAny M A (if(["enumerate", "zip", "dict_itemiterator", "dict_reverseitemiterator", "odict_iterator", "itertools.zip_longest", "itertools.pairwise"].contains n&&vs[0]? == some (rawInt _))=true then _ else _) Q E s
      rw [if_neg (by intro h;rw [hn,Bool.false_and] at h;cases h)]
      exact wpAny_pure hQ))
def Itl(K:Ybf)(a:Addr):It:=
 ⟨fun i H=>∃ xs x,SqL K H a xs/\xs[i]?=some x,fun i H x H'=>H'=H/\∀ xs,SqL K H a xs->xs[i]?=some x,fun i H=>∃ xs,SqL K H a xs/\xs.length<=i⟩
def Itr(lo:Int)(n:Nat):It:=⟨fun i _=>i<n,fun i H x H'=>H'=H/\x=.int (lo+i),fun i _=>n<=i⟩
theorem zi5{P:Program}{w:World}{K:Ybf}{tg:Expr}(a it:Addr):Turn P w K tg (Itl K a) [it] it (fun i h=>h.IsListIter it a i) where
 mem:=by simp
 obj:=fun i h st b hb=>by
  have e:b=it:=by simpa using hb
  subst e;obtain⟨o,e,c,d⟩:=st;exact⟨o,e,fun v z=>by rw [d] at z;cases z⟩
 keep:=fun i h h' st k=>st.at fun o e=>k it (by simp) o e
 item:=by
  intro X hP hw hK hc i pins s σ H E I hf st hg;subst hP hw hK;obtain⟨xs,x,hq,hx⟩:=hg;obtain⟨its,rv,p,hz⟩:=I.list hq;obtain⟨u,hu,ru⟩:=rv.get hx;obtain⟨f0,f1,f2,f3,f4,f5⟩:=hf it (by simp)
  refine wpAny_pyNext_list_item st p.isList (x:=u) (by simpa using hu) fun h' st' sb=>?_
  have I1:Inv X pins σ H { s with heap:=h' }:=I.turned (t':=s.toks) (fun b o hb e=>(sb.2 b hb).trans e) f0 f1 f3 f4 f5
  obtain⟨o,e,c,d⟩:=id st';exact⟨u,rfl,zeN (s:={ s with heap:=h' }) e c d #[1] ⟨x,H,I1,ru,⟨rfl,fun ys hy=>by rw [I.list_inj hy hq];exact hx⟩,st',fun b hb=>(hf b hb).1⟩⟩
 done:=by
  intro X hP hw hK hc i pins s σ H E I hf st hg;subst hP hw hK;obtain⟨xs,hq,hx⟩:=hg;obtain⟨its,rv,p,hz⟩:=I.list hq;obtain⟨f0,f1,f2,f3,f4,f5⟩:=hf it (by simp)
  have hl:=rv.length;exact wpAny_pyNext_list_end (I.ok.hd hc) st p.isList #[6] fun h' eb=>⟨rfl,I.turned (t':=s.toks) (fun b o hb e=>eb b o hb e) f0 f1 f3 f4 f5⟩
 self:=fun _ _ _ _ _ st h=>wpAny_pyIter_listiter st h
theorem ziD{P:Program}{w:World}{K:Ybf}{tg:Expr}(it:Addr)(lo:Int)(n:Nat):Turn P w K tg (Itr lo n) [it] it (fun i h=>IsRangeIter h it (lo+(i:Nat)*1) ((n:Int) - (i:Nat)) 1) where
 mem:=by simp
 obj:=fun i h st b hb=>by
  have e:b=it:=by simpa using hb
  subst e;exact⟨_,st,fun v z=>by
   have z':Data.fields _=Data.cell v:=z;cases z'⟩
 keep:=fun i h h' st k=>k it (by simp) _ st
 item:=by
  intro X hP hw hK hc i pins s σ H E I hf st hg;subst hP hw hK;obtain⟨f0,f1,f2,f3,f4,f5⟩:=hf it (by simp)
  have W:=Walks.range (prog:=X.prog) (w:=X.w) (I.ok.hd hc) it lo 1 n;refine W.item i s _ _ hg st fun v h' tk hv st' kk=>?_
  obtain⟨t,rfl⟩:=hv;have I1:Inv X pins σ H { s with heap:=h',toks:=tk }:=I.turned (fun b o hb e=>kk b o (by simpa using hb) e) f0 f1 f3 f4 f5
  refine⟨_,rfl,zeN (s:={ s with heap:=h',toks:=tk }) (n:="range_iterator") st' rfl rfl #[1] ⟨.int (lo+i),H,I1,⟨t,?_⟩,⟨rfl,rfl⟩,st',fun b hb=>(hf b hb).1⟩⟩
  rw [Int.mul_one]
 done:=by
  intro X hP hw hK hc i pins s σ H E I hf st hg;subst hP hw hK;obtain⟨f0,f1,f2,f3,f4,f5⟩:=hf it (by simp)
  exact wpAny_pyNext_range_end (I.ok.hd hc) st (by have:n<=i:=hg;omega) fun h' eb=>⟨rfl,I.turned (t':=s.toks) (fun b o hb e=>eb b o hb e) f0 f1 f3 f4 f5⟩
 self:=fun _ _ _ _ _ st h=>wpAny_pyIter_rangeiter st h
section
variable{X:Cx}{tg:Expr}
def zki(K:Ybf)(tl:TE):TI:=fun σ H R=>tl σ H fun x H1=>∃ a,x=.ref a/\(∃ xs,SqL K H1 a xs)/\R (Itl K a) H1
theorem zlj{l:Expr}{tl:TE}(hl:PE X l tl):PI X tg l (zki X.K tl):=by
 intro pins s σ H R I h;refine thn (hl pins s σ H _ I h) fun v s1 ⟨x,H1,I1,r1,q1⟩=>?_
 obtain⟨a,e,⟨xs,hq⟩,q⟩:=q1;subst e;cases r1;obtain⟨its,rv,p,hz⟩:=I1.list hq;refine wpAny_pyIter_list p.isList ?_;refine⟨s1.heap.objs.size,[s1.heap.objs.size],_,_,H1,rfl,I1.kept (t':=s1.toks) fun b o e=>YaW _ e,zi5 a _,⟨_,Yan _ rfl,rfl,rfl⟩,fun b hb=>?_,q⟩
 have e:b=s1.heap.objs.size:=by simpa using hb
 subst e;exact I1.fpOk (YaY _) (I1.hok.fresh (YaY _))
theorem zdc{pins:List (Addr×Obj)}{σ : St}{H:Hp}{s:Shared}{R:It->Hp->Prop}{E:Value->Shared->Prop}{lo hi:Int}{t u v:Tok}{tk:Nat}(I:Inv X pins σ H s)(h1:-(2 ^ 62)<=lo)(h2:lo<2 ^ 62)(h3:-(2 ^ 62)<=hi)(h4:hi<2 ^ 62)
 (q:R (Itr lo (hi - lo).toNat) H):wpAny (model X.prog X.w) X.A (pyIter (.ref s.heap.objs.size)) (PIE X pins σ tg R) E { s with heap:=s.heap.push { cls:=.type "range", data:=.fields #[.int lo t,.int hi u,.int 1 v] },toks:=tk }:=by
 refine wpAny_pyIter_range (IsRange.new ..) (small_one h1 h2 h3 h4) ?_
 have I1:Inv X pins σ H { s with heap:=s.heap.push { cls:=.type "range", data:=.fields #[.int lo t,.int hi u,.int 1 v] },toks:=tk }:=I.kept fun b o e=>YaW _ e
 refine⟨(s.heap.push { cls:=.type "range", data:=.fields #[.int lo t,.int hi u,.int 1 v] }).objs.size,[(s.heap.push { cls:=.type "range", data:=.fields #[.int lo t,.int hi u,.int 1 v] }).objs.size],_,_,H,rfl,
  I1.kept (t':=tk) fun b o e=>YaW _ e,ziD _ lo (hi - lo).toNat,?_,fun b hb=>?_,q⟩
 . have e1:lo+((0:Nat):Int)*1=lo:=by simp
   have e2:(((hi - lo).toNat:Nat):Int) - ((0:Nat):Int)=Builtin.Range.rangeSize lo hi 1:=by rw [rangeSize_one];split<;>omega
   show IsRangeIter _ _ (lo+((0:Nat):Int)*1) ((((hi - lo).toNat:Nat):Int) - ((0:Nat):Int)) 1
   rw [e1,e2];exact Yan _ rfl
 . have e:b=(s.heap.push { cls:=.type "range", data:=.fields #[.int lo t,.int hi u,.int 1 v] }).objs.size:=by simpa using hb
   subst e;exact I1.fpOk (YaY _) (I1.hok.fresh (YaY _))
def zle(ta:TA):TI:=fun σ H R=>ta σ H fun vs H1=>∃ j:Int,vs=[.int j]/\-(2 ^ 62)<=j/\j<2 ^ 62/\R (Itr 0 j.toNat) H1
def zjx(ta:TA):TI:=fun σ H R=>ta σ H fun vs H1=>∃ i j:Int,vs=[.int i,.int j]/\(-(2 ^ 62)<=i/\i<2 ^ 62/\-(2 ^ 62)<=j/\j<2 ^ 62)/\R (Itr i (j - i).toNat) H1
theorem zmj{a:Expr}{ta:TA}{p pos:Pos}(hg:Gl X "range")(hm:X.mg "range" = none)(ha:PA X [a] ta)(hs:starEach [a] X.env=[(false,eval a X.env)]:=by rfl):PI X tg (.Call (.Name "range" p) [a] [] pos) (zle ta):=by
 intro pins s σ H R I h;refine Call_ (j0 I hg hm boot_range (Wae (thn (ha pos pins s σ H _ I h) fun us s1 ⟨vs,H1,I1,r1,q1⟩=>?_) hs rfl))
 obtain⟨j,e,q1,q2,q⟩:=q1;subst e;cases r1 with
 | cons r rr=>
  cases rr;obtain⟨t,rfl⟩:=r
  exact call_range_1 (zdc I1 #[0] #[0] q1 q2 (by simpa using q))
theorem zlK{a b:Expr}{ta:TA}{p pos:Pos}(hg:Gl X "range")(hm:X.mg "range" = none)(ha:PA X [a,b] ta)(hs:starEach [a,b] X.env=[(false,eval a X.env),(false,eval b X.env)]:=by rfl)(hs2:starEach [b] X.env=[(false,eval b X.env)]:=by rfl) :
 PI X tg (.Call (.Name "range" p) [a,b] [] pos) (zjx ta):=by
 intro pins s σ H R I h;refine Call_ (j0 I hg hm boot_range (Wae (thn (ha pos pins s σ H _ I h) fun us s1 ⟨vs,H1,I1,r1,q1⟩=>?_) (by rw [hs,hs2]) (by rw [hs2];rfl)))
 obtain⟨i,j,e,⟨q1,q2,q3,q4⟩,q⟩:=q1;subst e;cases r1 with
 | cons r rr=>
  cases rr with
  | cons r' rr=>
   cases rr;obtain⟨t,rfl⟩:=r
   obtain⟨t',rfl⟩:=r';exact call_range_2 (zdc I1 q1 q2 q3 q4 q)
def tFor(wi:TI)(g:TG)(tb:TS):TS:=fun D σ H=>wi σ H fun J H1=>∃ W:Nat->Nat->St->Hp->Prop,(∃ m,W 0 m σ H1)/\∀ i m σ H,W i m σ H->
 (J.stop i H/\D.nx σ H)\/(J.go i H/\∃ N:St->Hp->Prop,(∀ σ' H',N σ' H'->∃ m',m'<m/\W (i+1) m' σ' H')/\∀ x H',J.yld i H x H'->g x σ H' fun σ2 H2=>tb { D with nx:=N,ct:=N,bk:=D.nx } σ2 H2)
def zai(fp:List Addr)(h:Heap):List (Addr×Obj):=fp.filterMap fun b=>(h.get? b).map fun o=>(b,o)
theorem za4{fp:List Addr}{h:Heap}{b:Addr}{o:Obj}(hb:b∈fp)(e:h.get? b=some o):(b,o)∈zai fp h:=List.mem_filterMap.mpr ⟨b,hb,by rw [e];rfl⟩
theorem znT{fp:List Addr}{h:Heap}{p:Addr×Obj}(hp:p∈zai fp h):p.1∈fp/\h.get? p.1=some p.2:=by
 obtain⟨b,hb,e⟩:=List.mem_filterMap.mp hp;cases q:h.get? b with
 | none=>rw [q] at e;cases e
 | some o=>
  rw [q] at e;have e':(b,o)=p:=Wbe e;subst e';exact⟨hb,q⟩
theorem Inv.pinned{pins:List (Addr×Obj)}{σ : St}{H:Hp}{s:Shared}{fp:List Addr}(I:Inv X pins σ H s)(hf:∀ b∈fp,FpOk X pins H b)(ho:∀ b∈fp,∃ o,s.heap.get? b=some o/\∀ v,o.data≠.cell v):Inv X (pins++zai fp s.heap) σ H s:=
 I.pins_of fun p hp=>(Ya3.mp hp).elim (fun z=>I.pin p (Yaa _ z)) fun z=>by
  obtain⟨hb,e⟩:=znT z;obtain⟨f0,f1,f2,_⟩:=hf p.1 hb;obtain⟨o,e',d⟩:=ho p.1 hb;rw [e] at e';cases e';exact⟨e,f0,f1,f2,d⟩
theorem Inv.unpinned{pins pl:List (Addr×Obj)}{σ : St}{H:Hp}{s:Shared}(I:Inv X (pins++pl) σ H s):Inv X pins σ H s:=I.pins_of fun p hp=>I.pin p (Yaa _ (Yai _ hp))
theorem zkz{iter:Expr}{body:List Stmt}{wi:TI}{g:TG}{tb:TS}{pos:Pos}(hp:PassesOwn (model X.prog X.w) X.A X.env X.xe)(hc:X.calm=true)(hi:PI X tg iter wi)(hg:PG X tg g)(hb:PSs X body tb)
 (hs:∀ x,foldedSetIterable iter X.env x=pure x:=by intro _;rfl):PS X (.For tg iter body [] pos) (tFor wi g tb):=by
 intro pins s σ H D I h;refine wpAny_For (thn (hi pins s σ H _ I h) fun v s1 h1=>thn h1 fun itv s2 h2=>?_) hs
 obtain⟨it,fp,tn,J,H2,e,I2,T,st2,f2,W,⟨m0,w0⟩,turn⟩:=h2;subst e;have stat:∀ {H':Hp},(∀ b∈fp,H' b=none)->∀ b∈fp,FpOk X pins H' b:=fun hn b hb=>⟨hn b hb,(f2 b hb).2⟩
 refine codeAny_forLoop_any (fun n s'=>∃ i σ' H',Inv X pins σ' H' s'/\tn i s'.heap/\(∀ b∈fp,H' b=none)/\W i n σ' H') ?_ m0 ⟨0,σ,H2,I2,st2,fun b hb=>(f2 b hb).1,w0⟩
 rintro n s3 ⟨i,σ3,H3,I3,st3,fr3,w3⟩
 rcases turn i n σ3 H3 w3 with ⟨stop,qn⟩|⟨go,N,hN,step⟩
 . refine wpAny_passesOwn hp (thn (T.done X rfl rfl rfl hc i pins s3 σ3 H3 X.xe I3 (stat fr3) st3 stop) fun r s4 ⟨hr,I4⟩=>?_)
   subst hr;exact wpAny_execs_nil ⟨σ3,H3,I4,qn⟩
 . refine wpAny_passesOwn hp (thn (T.item X rfl rfl rfl hc i pins s3 σ3 H3 X.xe I3 (stat fr3) st3 go) fun r s4 ⟨u,hr,h4⟩=>?_)
   subst hr;refine wpAny_passesOwn hp (thn h4 fun _ s5 ⟨x,H5,I5,r5,y5,st5,fr5⟩=>?_)
   have I5':=I5.pinned (stat fr5) (T.obj _ _ st5);refine wpAny_passesOwn hp (thn (hg _ s5 σ3 H5 x u _ I5' r5 (step x H5 y5)) fun _ s6 ⟨σ6,H6,I6,q6⟩=>?_)
   refine wpAny_passesOwn hp (thn (hb _ s6 σ6 H6 _ I6 q6) fun f s7 q7=>?_)
   have again:∀ {σ7:St} {H7:Hp},Inv X (pins++zai fp s5.heap) σ7 H7 s7->N σ7 H7->∃ m,m<n/\∃ i σ' H',Inv X pins σ' H' s7/\tn i s7.heap/\(∀ b∈fp,H' b=none)/\W i m σ' H':=fun {σ7 H7} I7 n7=>by
    obtain⟨m',hm,w7⟩:=hN σ7 H7 n7;refine⟨m',hm,i+1,σ7,H7,I7.unpinned,T.keep _ _ _ st5 fun b hb o e=>(I7.pin (b,o) (Yaa _ (Yaa _ (za4 hb e)))).1,fun b hb=>?_,w7⟩
    obtain⟨o,e,d⟩:=T.obj _ _ st5 b hb;exact(I7.pin (b,o) (Yaa _ (Yaa _ (za4 hb e)))).2.1
   cases f with
   | next=>obtain⟨σ7,H7,I7,n7⟩:=q7;exact again I7 n7
   | cont=>obtain⟨σ7,H7,I7,n7⟩:=q7;exact again I7 n7
   | brk=>obtain⟨σ7,H7,I7,q7⟩:=q7;exact⟨σ7,H7,I7.unpinned,q7⟩
   | ret v=>obtain⟨x7,σ7,H7,I7,r7,q7⟩:=q7;exact⟨x7,σ7,H7,I7.unpinned,r7,q7⟩
end
theorem Jr{K:Ybf}{a:Addr}{xs:List V}{g:TG}{tb:TS}{D:Ends}{σ : St}{H:Hp}(Pv:Nat->St->Hp->Prop)(h0:Pv 0 σ H)(hl:∀ i σ H,i<=xs.length->Pv i σ H->SqL K H a xs)
 (hs:∀ i x σ H,xs[i]?=some x->Pv i σ H->g x σ H fun σ2 H2=>tb { D with nx:=Pv (i+1),ct:=Pv (i+1),bk:=D.nx } σ2 H2) (hd:∀ σ H,Pv xs.length σ H->D.nx σ H) :
 ∃ W:Nat->Nat->St->Hp->Prop,(∃ m,W 0 m σ H)/\∀ i m σ H,W i m σ H->
  ((Itl K a).stop i H/\D.nx σ H)\/((Itl K a).go i H/\∃ N:St->Hp->Prop,(∀ σ' H',N σ' H'->∃ m',m'<m/\W (i+1) m' σ' H')/\∀ x H',(Itl K a).yld i H x H'->g x σ H' fun σ2 H2=>tb { D with nx:=N,ct:=N,bk:=D.nx } σ2 H2):=by
 refine⟨fun i m σ H=>m=xs.length - i/\i<=xs.length/\Pv i σ H,⟨xs.length,by simp,WbG _,h0⟩,?_⟩
 rintro i m σ H ⟨rfl,hi,p⟩
 have q:=hl i σ H hi p
 by_cases hlt:i<xs.length
 . refine .inr ⟨⟨xs,xs[i],q,by simp [hlt]⟩,Pv (i+1),fun σ' H' p'=>⟨xs.length - (i+1),#[0],rfl,hlt,p'⟩,fun x H' y=>?_⟩
   obtain⟨e,y⟩:=y;subst e;exact hs i x σ _ (y xs q) p
 . have e:i=xs.length:=#[0]
   subst e;exact .inl ⟨⟨xs,q,YaY _⟩,hd σ H p⟩
theorem Z2{c:TT}{tb:TS}{D:Ends}{σ : St}{H:Hp}(Pv:St->Hp->Prop)(μ : St->Hp->Nat)(h0:Pv σ H)
 (hs:∀ σ H,Pv σ H->c σ H fun b H1=>if b=true then tb { D with nx:=fun σ' H'=>Pv σ' H'/\μ σ' H' < μ σ H,ct:=fun σ' H'=>Pv σ' H'/\μ σ' H' < μ σ H,bk:=D.nx } σ H1 else D.nx σ H1)
 (mono:∀ σ H Q Q',(∀ b H1,Q b H1->Q' b H1)->c σ H Q->c σ H Q'):zdL c tb D σ H:=by
 refine⟨fun m σ H=>m = μ σ H/\Pv σ H,⟨_,rfl,h0⟩,?_⟩
 rintro m σ H ⟨rfl,p⟩
 refine mono σ H _ _ (fun b H1 q=>?_) (hs σ H p)
 cases b with
 | true=>exact⟨_,fun σ' H' ⟨p',l⟩=>⟨_,l,rfl,p'⟩,q⟩
 | false=>exact q
abbrev R2:=V->V->Hp->VK->Prop
def OpR(X:Cx)(f:Value->Value->Sem Value)(r:R2):Prop:=
 ∀ (pins:List (Addr×Obj)) (s:Shared) (σ : St) (H:Hp) (x y:V) (v u:Value) (Q:VK),Inv X pins σ H s->RelV x v->RelV y u->r x y H Q->
  wpAny (model X.prog X.w) X.A (f v u) (EP X pins σ Q) X.xe s
def UnR(X:Cx)(f:Value->Sem Value)(r:V->Hp->VK->Prop):Prop:=
 ∀ (pins:List (Addr×Obj)) (s:Shared) (σ : St) (H:Hp) (x:V) (v:Value) (Q:VK),Inv X pins σ H s->RelV x v->r x H Q->
  wpAny (model X.prog X.w) X.A (f v) (EP X pins σ Q) X.xe s
def zH(X:Cx)(f:Value)(r:List V->Hp->VK->Prop):Prop:=
 ∀ (pins:List (Addr×Obj)) (s:Shared) (σ : St) (H:Hp) (xs:List V) (us:List Value) (Q:VK),Inv X pins σ H s->Vals xs us->r xs H Q->
  wpAny (model X.prog X.w) X.A (call f us) (EP X pins σ Q) X.xe s
def tOp(r:R2)(ta tb:TE):TE:=fun σ H Q=>ta σ H fun x H1=>tb σ H1 fun y H2=>r x y H2 Q
def tUn(r:V->Hp->VK->Prop)(ta:TE):TE:=fun σ H Q=>ta σ H fun x H1=>r x H1 Q
def rI(C:Int->Int->Prop)(g:Int->Int->V):R2:=fun x y H Q=>∃ i j,x=.int i/\y=.int j/\C i j/\Q (g i j) H
def rI0(g:Int->Int->V):R2:=fun x y H Q=>∃ i j,x=.int i/\y=.int j/\Q (g i j) H
def rU(g:Int->V):V->Hp->VK->Prop:=fun x H Q=>∃ i,x=.int i/\Q (g i) H
section
variable{X:Cx}{a b c:Expr}{ta tb tc:TE}{pos:Pos}
theorem binT(ha:PE X a ta)(hb:PE X b tb){pins:List (Addr×Obj)}{s:Shared}{σ : St}{H:Hp}{R:V->V->Hp->Prop}(I:Inv X pins σ H s)
 (h:ta σ H fun x H1=>tb σ H1 fun y H2=>R x y H2) {Q:Value->Shared->Prop} {f:Value->Value->Sem Value}
 (hf:∀ v u s2 x y H2,Inv X pins σ H2 s2->RelV x v->RelV y u->R x y H2->wpAny (model X.prog X.w) X.A (f v u) Q X.xe s2) :
 wpAny (model X.prog X.w) X.A (eval a X.env) (fun v s₁=>wpAny (model X.prog X.w) X.A (eval b X.env) (fun u s₂=>wpAny (model X.prog X.w) X.A (f v u) Q X.xe s₂) X.xe s₁) X.xe s:=by
 refine thn (ha pins s σ H _ I h) fun v s1 ⟨x,H1,I1,r1,q1⟩=>?_
 refine thn (hb pins s1 σ H1 _ I1 q1) fun u s2 ⟨y,H2,I2,r2,q2⟩=>?_
 exact hf v u s2 x y H2 I2 r1 r2 q2
theorem zbV{op:Operator}{r:R2}(ho:OpR X (binaryOp op) r)(ha:PE X a ta)(hb:PE X b tb):PE X (.BinOp a op b pos) (tOp r ta tb):=by
 intro pins s σ H Q I h;exact wpAny_BinOp (binT ha hb I h fun v u s2 x y H2 I2 rx ry q=>ho pins s2 σ H2 x y v u Q I2 rx ry q)
theorem zmX{op:UnaryOp}{r:V->Hp->VK->Prop}(ho:UnR X (unaryOp op) r)(ha:PE X a ta):PE X (.UnaryOp op a pos) (tUn r ta):=by
 intro pins s σ H Q I h;exact UnaryOp_ (thn (ha pins s σ H _ I h) fun v s1 ⟨x,H1,I1,r1,q1⟩=>ho pins s1 σ H1 x v Q I1 r1 q1)
theorem opI{f:Value->Value->Sem Value}{C:Int->Int->Prop}{g:Int->Int->Int}
 (rule:∀ (i j:Int) (t u:Tok) (s:Shared) (Q:Value->Shared->Prop) (E:Value->Shared->Prop),C i j->Q (.int (g i j) s.toks) { s with toks:=s.toks+1 }->wpAny (model X.prog X.w) X.A (f (.int i t) (.int j u)) Q E s) :
 OpR X f (rI C fun i j=>.int (g i j)):=by
 intro pins s σ H x y v u Q I rx ry h;obtain⟨i,j,rfl,rfl,hc,q⟩:=h;obtain⟨t,rfl⟩:=rx;obtain⟨t',rfl⟩:=ry;exact rule i j t t' s _ _ hc ⟨.int (g i j),H,I.tok _,⟨_,rfl⟩,q⟩
theorem opI0{f:Value->Value->Sem Value}{g:Int->Int->Int}
 (rule:∀ (i j:Int) (t u:Tok) (s:Shared) (Q:Value->Shared->Prop) (E:Value->Shared->Prop),Q (.int (g i j) s.toks) { s with toks:=s.toks+1 }->wpAny (model X.prog X.w) X.A (f (.int i t) (.int j u)) Q E s) :
 OpR X f (rI0 fun i j=>.int (g i j)):=by
 intro pins s σ H x y v u Q I rx ry h;obtain⟨i,j,rfl,rfl,q⟩:=h;obtain⟨t,rfl⟩:=rx;obtain⟨t',rfl⟩:=ry;exact rule i j t t' s _ _ ⟨.int (g i j),H,I.tok _,⟨_,rfl⟩,q⟩
theorem opB0{f:Value->Value->Sem Value}{g:Int->Int->Bool}
 (rule:∀ (i j:Int) (t u:Tok) (s:Shared) (Q:Value->Shared->Prop) (E:Value->Shared->Prop),Q (.bool (g i j)) s->wpAny (model X.prog X.w) X.A (f (.int i t) (.int j u)) Q E s) :
 OpR X f (rI0 fun i j=>.bl (g i j)):=by
 intro pins s σ H x y v u Q I rx ry h;obtain⟨i,j,rfl,rfl,q⟩:=h;obtain⟨t,rfl⟩:=rx;obtain⟨t',rfl⟩:=ry;exact rule i j t t' s _ _ ⟨.bl (g i j),H,I,rfl,q⟩
def CMul(i j:Int):Prop:=(-(2 ^ 64)<i/\i<2 ^ 64)\/(-(2 ^ 64)<j/\j<2 ^ 64)
theorem CMul.ok{i j:Int}(h:CMul i j):IntMulOk i j:=by
 rcases h with ⟨h1,h2⟩|⟨h1,h2⟩
 . exact .of_left (intBits_le_64 h1 h2)
 . exact .of_right (intBits_le_64 h1 h2)
theorem zgT:OpR X (binaryOp .Add) (rI0 fun i j=>.int (i+j)):=opI0 fun _ _ _ _ _ _ _ q=>add_int q
theorem ziS:OpR X (binaryOp .Sub) (rI0 fun i j=>.int (i - j)):=opI0 fun _ _ _ _ _ _ _ q=>sub_int q
theorem zkg:OpR X (binaryOp .Mod) (rI (fun _ j=>0<j) fun i j=>.int (i%j)):=opI fun i j _ _ _ _ _ hc q=>by
 have h1:(0:Int)<j:=hc;exact mod_int' #[0] (by rw [Int.fmod_eq_emod_of_nonneg i #[0]];exact q)
theorem unI{f:Value->Sem Value}{g:Int->Int}
 (rule:∀ (i:Int) (t:Tok) (s:Shared) (Q:Value->Shared->Prop) (E:Value->Shared->Prop),Q (.int (g i) s.toks) { s with toks:=s.toks+1 }->wpAny (model X.prog X.w) X.A (f (.int i t)) Q E s) :
 UnR X f (rU fun i=>.int (g i)):=by
 intro pins s σ H x v Q I rx h;obtain⟨i,rfl,q⟩:=h;obtain⟨t,rfl⟩:=rx;exact rule i t s _ _ ⟨.int (g i),H,I.tok _,⟨_,rfl⟩,q⟩
theorem zj0:UnR X (unaryOp .USub) (rU fun i=>.int (-i)):=unI fun _ _ _ _ _ q=>neg_int q
end
def scal:V->V->Bool
 | .non,.non=>true|.non,.int _=>true|.int _,.non=>true|.non,.bl _=>true|.bl _,.non=>true|.non,.str _=>true|.str _,.non=>true
 | .int _,.int _=>true|.bl _,.bl _=>true|.str _,.str _=>true|.byt _,.byt _=>true
 | .int _,.str _=>true|.str _,.int _=>true|.bl _,.str _=>true|.str _,.bl _=>true
 | _,_=>false
def rEq:R2:=fun x y H Q=>scal x y=true/\Q (.bl (decide (x=y))) H
def rNe:R2:=fun x y H Q=>scal x y=true/\Q (.bl (!decide (x=y))) H
theorem zeY{i j:Int}:decide (V.int i=V.int j)=(i==j):=by
 rw [Bool.eq_iff_iff]
 simp
theorem zft{i j:Bool}:decide (V.bl i=V.bl j)=(i==j):=by
 rw [Bool.eq_iff_iff]
 simp
theorem zfm{i j:Str}:decide (V.str i=V.str j)=(i==j):=by
 rw [Bool.eq_iff_iff]
 simp
theorem zfw{i j:Array UInt8}:decide (V.byt i=V.byt j)=(i.toList==j.toList):=by
 rw [Bool.eq_iff_iff];cases i;cases j
 simp
section
variable{X:Cx}{a b c:Expr}{ta tb tc:TE}{pos:Pos}
theorem zB{pins:List (Addr×Obj)}{σ : St}{H:Hp}{s:Shared}{Q:VK}{k k':Bool}(I:Inv X pins σ H s)(q:Q (.bl k) H)(e:k=k'):EP X pins σ Q (.bool k') s:=by
 subst e;exact⟨.bl k,H,I,rfl,q⟩
theorem zl8:OpR X (compareOp .Eq) rEq:=by
 intro pins s σ H x y v u Q I rx ry h;obtain⟨hs,q⟩:=h;cases x with
 | non=>
  cases rx;cases y with
  | non=>cases ry;exact PySem.EqNone.eq_none_none (zB I q (by simp))
  | bl j=>cases ry;exact PySem.EqNone.eq_none_bool (zB I q (by simp))
  | int j=>obtain⟨t',rfl⟩:=ry;exact PySem.EqNone.eq_none_int (zB I q (by simp))
  | str j=>obtain⟨t',rfl⟩:=ry;exact PySem.EqNone.eq_none_str (zB I q (by simp))
  | _=>exact absurd (show false=true from hs) Yal
 | bl i=>
  cases rx;cases y with
  | non=>cases ry;exact PySem.EqNone.eq_bool_none (zB I q (by simp))
  | bl j=>cases ry;exact eq_bool (zB I q zft)
  | str j=>obtain⟨t',rfl⟩:=ry;exact PySem.EqMixed.eq_bool_str (zB I q (by simp))
  | _=>exact absurd (show false=true from hs) Yal
 | int i=>
  obtain⟨t,rfl⟩:=rx;cases y with
  | non=>cases ry;exact PySem.EqNone.eq_int_none (zB I q (by simp))
  | int j=>obtain⟨t',rfl⟩:=ry;exact eq_int (zB I q zeY)
  | str j=>obtain⟨t',rfl⟩:=ry;exact PySem.EqMixed.eq_int_str (zB I q (by simp))
  | _=>exact absurd (show false=true from hs) Yal
 | str i=>
  obtain⟨t,rfl⟩:=rx;cases y with
  | non=>cases ry;exact PySem.EqNone.eq_str_none (zB I q (by simp))
  | bl j=>cases ry;exact PySem.EqMixed.eq_str_bool (zB I q (by simp))
  | int j=>obtain⟨t',rfl⟩:=ry;exact PySem.EqMixed.eq_str_int (zB I q (by simp))
  | str j=>obtain⟨t',rfl⟩:=ry;exact eq_str (zB I q zfm)
  | _=>exact absurd (show false=true from hs) Yal
 | byt i=>
  obtain⟨t,rfl⟩:=rx;cases y with
  | byt j=>obtain⟨t',rfl⟩:=ry;exact PySem.W.eq_bytes (zB I q zfw)
  | _=>exact absurd (show false=true from hs) Yal
 | _=>cases y<;>exact absurd (show false=true from hs) Yal
theorem znz:OpR X (compareOp .NotEq) rNe:=by
 intro pins s σ H x y v u Q I rx ry h;obtain⟨hs,q⟩:=h;cases x with
 | non=>
  cases rx;cases y with
  | non=>cases ry;exact PySem.EqNone.ne_none_none (zB I q (by simp))
  | bl j=>cases ry;exact PySem.EqNone.ne_none_bool (zB I q (by simp))
  | int j=>obtain⟨t',rfl⟩:=ry;exact PySem.EqNone.ne_none_int (zB I q (by simp))
  | str j=>obtain⟨t',rfl⟩:=ry;exact PySem.EqNone.ne_none_str (zB I q (by simp))
  | _=>exact absurd (show false=true from hs) Yal
 | bl i=>
  cases rx;cases y with
  | non=>cases ry;exact PySem.EqNone.ne_bool_none (zB I q (by simp))
  | bl j=>cases ry;exact ne_bool (zB I q (congrArg not zft))
  | str j=>obtain⟨t',rfl⟩:=ry;exact PySem.EqMixed.ne_bool_str (zB I q (by simp))
  | _=>exact absurd (show false=true from hs) Yal
 | int i=>
  obtain⟨t,rfl⟩:=rx;cases y with
  | non=>cases ry;exact PySem.EqNone.ne_int_none (zB I q (by simp))
  | int j=>obtain⟨t',rfl⟩:=ry;exact ne_int (zB I q (congrArg not zeY))
  | str j=>obtain⟨t',rfl⟩:=ry;exact PySem.EqMixed.ne_int_str (zB I q (by simp))
  | _=>exact absurd (show false=true from hs) Yal
 | str i=>
  obtain⟨t,rfl⟩:=rx;cases y with
  | non=>cases ry;exact PySem.EqNone.ne_str_none (zB I q (by simp))
  | bl j=>cases ry;exact PySem.EqMixed.ne_str_bool (zB I q (by simp))
  | int j=>obtain⟨t',rfl⟩:=ry;exact PySem.EqMixed.ne_str_int (zB I q (by simp))
  | str j=>obtain⟨t',rfl⟩:=ry;exact ne_str (zB I q (congrArg not zfm))
  | _=>exact absurd (show false=true from hs) Yal
 | byt i=>
  obtain⟨t,rfl⟩:=rx;cases y with
  | byt j=>obtain⟨t',rfl⟩:=ry;exact PySem.W.ne_bytes (zB I q (congrArg not zfw))
  | _=>exact absurd (show false=true from hs) Yal
 | _=>cases y<;>exact absurd (show false=true from hs) Yal
theorem zhJ:OpR X (compareOp .Lt) (rI0 fun i j=>.bl (decide (i<j))):=opB0 fun _ _ _ _ _ _ _ q=>lt_int q
theorem zgW:OpR X (compareOp .LtE) (rI0 fun i j=>.bl (decide (i<=j))):=opB0 fun _ _ _ _ _ _ _ q=>le_int q
theorem zgb:OpR X (compareOp .Gt) (rI0 fun i j=>.bl (decide (j<i))):=opB0 fun _ _ _ _ _ _ _ q=>gt_int q
theorem zga:OpR X (compareOp .GtE) (rI0 fun i j=>.bl (decide (j<=i))):=opB0 fun _ _ _ _ _ _ _ q=>ge_int q
theorem zhi:OpR X (compareOp .Is) (fun x y H Q=>y=.non/\Q (.bl (decide (x=.non))) H):=by
 intro pins s σ H x y v u Q I rx ry h;obtain⟨rfl,q⟩:=h;cases ry;refine is_none_gen (zB I q ?_);cases x<;>first
  | (cases rx;rfl)
  | (obtain⟨t,rfl⟩:=rx;rfl)
theorem zlk:OpR X (compareOp .IsNot) (fun x y H Q=>y=.non/\Q (.bl (!decide (x=.non))) H):=by
 intro pins s σ H x y v u Q I rx ry h;obtain⟨rfl,q⟩:=h;cases ry;refine isnot_none_gen (zB I q ?_);cases x<;>first
  | (cases rx;rfl)
  | (obtain⟨t,rfl⟩:=rx;rfl)
theorem OpR.or{f:Value->Value->Sem Value}{r r':R2}(h:OpR X f r)(h':OpR X f r'):OpR X f (fun x y H Q=>r x y H Q\/r' x y H Q):=by
 intro pins s σ H x y v u Q I rx ry q
 rcases q with q|q
 . exact h pins s σ H x y v u Q I rx ry q
 . exact h' pins s σ H x y v u Q I rx ry q
theorem nomark(b:Expr){op:CmpOp}(h:op≠.In:=by decide)(h2:op≠.NotIn:=by decide):behindInMarks op b=false:=by
 have e1:(op==CmpOp.In)=false:=by cases op<;>first|rfl|exact absurd rfl h
 have e2:(op==CmpOp.NotIn)=false:=by cases op<;>first|rfl|exact absurd rfl h2
 cases b<;>simp [behindInMarks,e1,e2]
theorem ziX{op:CmpOp}{r:R2}(ho:OpR X (compareOp op) r)(ha:PE X a ta)(hb:PE X b tb)(hm:behindInMarks op b=false):PE X (.Compare a [op] [b] pos) (tOp r ta tb):=by
 intro pins s σ H Q I h;exact wpAny_Compare1 (binT ha hb I h fun v u s2 x y H2 I2 rx ry q=>ho pins s2 σ H2 x y v u Q I2 rx ry q) hm
def zav(t:TE):TT:=fun σ H Q=>t σ H fun x H'=>∃ k,x=.bl k/\Q k H'
theorem znv{op:CmpOp}{r:R2}(ho:OpR X (compareOp op) r)(ha:PE X a ta)(hb:PE X b tb)(hm:behindInMarks op b=false):PT X (.Compare a [op] [b] pos) (zav (tOp r ta tb)):=by
 intro pins s σ H Q I h;refine wpAny_isTrue_Compare1 (thn (ha pins s σ H _ I h) fun v s1 ⟨x,H1,I1,r1,q1⟩=>thn (hb pins s1 σ H1 _ I1 q1) fun u s2 ⟨y,H2,I2,r2,q2⟩=>
  thn (ho pins s2 σ H2 x y v u _ I2 r1 r2 q2) fun c s3 ⟨z,H3,I3,r3,k,e,q3⟩=>?_) hm
 subst e;cases r3;exact wpAny_truthy_bool ⟨H3,I3,q3⟩
def zd8(r r':R2)(ta tb tc:TE):TE:=fun σ H Q=>ta σ H fun x H1=>tb σ H1 fun y H2=>r x y H2 fun z H3=>∃ k,z=.bl k/\
 (if k=true then tc σ H3 fun w' H4=>r' y w' H4 Q else Q (.bl false) H3)
theorem zi6{op op':CmpOp}{r r':R2}(ho:OpR X (compareOp op) r)(ho':OpR X (compareOp op') r')(ha:PE X a ta)(hb:PE X b tb)(hc:PE X c tc)
 (hm:lastMarks [op,op'] [b,c]=false:=by with_unfolding_all rfl):PT X (.Compare a [op,op'] [b,c] pos) (zav (zd8 r r' ta tb tc)):=by
 intro pins s σ H Q I h;refine isTrue_chain (thn (ha pins s σ H _ I h) fun v s1 ⟨x,H1,I1,r1,q1⟩=>test_link (thn (hb pins s1 σ H1 _ I1 q1) fun u s2 ⟨y,H2,I2,r2,q2⟩=>
  thn (ho pins s2 σ H2 x y v u _ I2 r1 r2 q2) fun d s3 ⟨z,H3,I3,r3,k,e,q3⟩=>?_)) hm
 subst e;cases r3;refine wpAny_truthy_bool ?_;cases k with
 | false=>
  obtain⟨k',e',q'⟩:=q3;cases e';exact ite_ff ⟨H3,I3,q'⟩
 | true=>
  refine ite_tt (test_last (thn (hc pins s3 σ H3 _ I3 q3) fun w' s4 ⟨z',H4,I4,r4,q4⟩=>thn (ho' pins s4 σ H4 y z' u w' _ I4 r2 r4 q4) fun d' s5 ⟨z2,H5,I5,r5,k2,e2,q5⟩=>?_))
  subst e2;cases r5;exact wpAny_truthy_bool ⟨H5,I5,q5⟩
theorem ZY:(sizeLine:Nat)<2 ^ 63:=by rw [sizeLine_eq];decide
theorem zlF:OpR X (binaryOp .Add) (fun x y H Q=>∃ i j,x=.str i/\y=.str j/\i.length+j.length<=sizeLine/\Q (.str (i++j)) H):=by
 intro pins s σ H x y v u Q I rx ry h;obtain⟨i,j,rfl,rfl,hz,q⟩:=h;obtain⟨t,rfl⟩:=rx;obtain⟨t',rfl⟩:=ry;exact add_str (fun t' tk=>⟨.str (i++j),H,I.tok _,⟨_,rfl⟩,q⟩) hz
theorem jT{x:V}{us:List Value}(r:Vals [x] us):∃ u,us=[u]/\RelV x u:=by
 cases r with
 | cons r1 r2=>cases r2;exact⟨_,rfl,r1⟩
theorem za8{x y:V}{us:List Value}(r:Vals [x,y] us):∃ u w',us=[u,w']/\RelV x u/\RelV y w':=by
 cases r with
 | cons r1 r2=>
  cases r2 with
  | cons r3 r4=>cases r4;exact⟨_,_,rfl,r1,r3⟩
theorem ziL:zH X (.builtin "abs") (fun xs H Q=>∃ i,xs=[.int i]/\Q (.int (if i<0 then -i else i)) H):=by
 intro pins s σ H xs us Q I r h;obtain⟨i,rfl,q⟩:=h;obtain⟨u,rfl,t,rfl⟩:=jT r;exact call_abs_int fun u tk=>⟨.int (if i<0 then -i else i),H,I.tok _,⟨_,rfl⟩,q⟩
theorem zhD(hc:X.calm=true):zH X (.builtin "max") (fun xs H Q=>∃ i j,xs=[.int i,.int j]/\Q (.int (if j > i then j else i)) H):=by
 intro pins s σ H xs us Q I r h;obtain⟨i,j,rfl,q⟩:=h;obtain⟨u,w',rfl,⟨t,rfl⟩,⟨t',rfl⟩⟩:=za8 r;refine max_two_ints (I.ok.hd hc) fun h' tk k=>⟨_,H,I.kept k,?_,q⟩
 by_cases hj:j > i
 . rw [if_pos hj,if_pos hj];exact⟨_,rfl⟩
 . rw [if_neg hj,if_neg hj];exact⟨_,rfl⟩
theorem zhv(hc:X.calm=true):zH X (.builtin "min") (fun xs H Q=>∃ i j,xs=[.int i,.int j]/\Q (.int (if j<i then j else i)) H):=by
 intro pins s σ H xs us Q I r h;obtain⟨i,j,rfl,q⟩:=h;obtain⟨u,w',rfl,⟨t,rfl⟩,⟨t',rfl⟩⟩:=za8 r;refine min_two_ints (I.ok.hd hc) fun h' tk k=>⟨_,H,I.kept k,?_,q⟩
 by_cases hj:j<i
 . rw [if_pos hj,if_pos hj];exact⟨_,rfl⟩
 . rw [if_neg hj,if_neg hj];exact⟨_,rfl⟩
end
structure ObjM(h:Heap)(x dx C:Addr)(mA:Str->Option Value):Prop where
 obj:h.get? x=some (PySem.W.instObj C dx)
 ns:h.Ns1 dx mA
 ne:dx≠x
theorem zin{h:Heap}{dx:Addr}{mA:Str->Option Value}(n:h.Ns1 dx mA):∃ od,h.get? dx=some od/\∀ name,PySem.W.lookIn name od=some (mA name):=by
 obtain⟨o,es,ep,ho,hd,hk,_,hm⟩:=n;refine⟨o,ho,fun name=>?_⟩
 have e:=hm name;unfold nsFind findBy at e;rw [<-Array.find?_toList] at e;unfold PySem.W.lookIn;rw [hd];dsimp only
 split
 . rename_i y q
   rw [q] at e;exact congrArg some e
 . rename_i q
   rw [q] at e;have a:es.toList.any (·.refKey)=false:=by
    rw [List.any_eq_false];intro y hy;obtain⟨z,t,hkey⟩:=hk y (Array.mem_toList_iff.mp hy)
    simp [DictEntry.refKey,hkey]
   have a':¬es.toList.any (·.refKey)=true:=by rw [a];exact Yal
   rw [if_neg a'];exact congrArg some e
theorem ObjM.look{h:Heap}{x dx C:Addr}{mA:Str->Option Value}(I:ObjM h x dx C mA):∃ od,PySem.W.InstAt h x (PySem.W.instObj C dx) C (some od)/\∀ name,PySem.W.lookIn name od=some (mA name):=
 let ⟨od,ho,hl⟩:=zin I.ns
 ⟨od,⟨I.obj,rfl,rfl,ho⟩,hl⟩
section
variable{prog:Program}{w:World}{A:Around}{E:Value->Shared->Prop}{s:Shared}{K:Ybf}{x dx C f:Addr}{mA:Str->Option Value}{name:Str}{v:Value}
end
theorem RelO.some_of{v:V}{o:Option Value}(r:RelO (some v) o):∃ u,o=some u/\RelV v u:=by
 cases o with
 | none=>exact(show False from r).elim
 | some u=>exact⟨u,rfl,r⟩
theorem RelO.none_of{o:Option Value}(r:RelO none o):o=none:=by
 cases o with
 | none=>rfl
 | some u=>exact(show False from r).elim
section
variable{P:Program}{w:World}{H H':Hp}{h h':Heap}{a C dx:Addr}{fs fs':List (Str×V)}
end
structure Cls(K:Ybf)(C:Addr):Prop where
 pg:PySem.W.plainGet K C Str.empty=true
 hd:PySem.W.hasDictIn K C=true
 po:PySem.W.plainOver K C=true
 sa:PySem.W.findIn K (.ref C) "__setattr__" = some (some (.builtin "object.__setattr__"))
theorem Cls.get{K:Ybf}{C:Addr}(c:Cls K C)(f:Str):PySem.W.plainGet K C f=true:=c.pg
section
variable{X:Cx}{pins:List (Addr×Obj)}{σ : St}{H:Hp}{s:Shared}{a C dx:Addr}{fs:List (Str×V)}{f:Str}{v:V}{A:Around}{E:Value->Shared->Prop}
theorem Inv.made(I:Inv X pins σ H s):Inv X pins σ (upd (upd H s.heap.objs.size (.own (s.heap.objs.size+1))) (s.heap.objs.size+1) (.ins C s.heap.objs.size []))
 { s with heap:=(s.heap.push PySem.W.emptyDict).push (PySem.W.instObj C s.heap.objs.size) }:=by
 have e1:(s.heap.push PySem.W.emptyDict).get? s.heap.objs.size=some PySem.W.emptyDict:=Yan s.heap rfl;have e2:((s.heap.push PySem.W.emptyDict).push (PySem.W.instObj C s.heap.objs.size)).get? (s.heap.objs.size+1)=some (PySem.W.instObj C s.heap.objs.size):=by
  have:=Yan (s.heap.push PySem.W.emptyDict) (o:=PySem.W.instObj C s.heap.objs.size) rfl;rwa [Wbk] at this
 have e3:(s.heap.push PySem.W.emptyDict).Ns s.heap.objs.size (fun _=>none):=⟨PySem.W.emptyDict,#[],_,e1,rfl,(fun e he=>absurd he (by simp)),fun _=>rfl⟩
 have I1:=I.laid (a:=s.heap.objs.size) (o:=.own (s.heap.objs.size+1)) (h':=s.heap.push PySem.W.emptyDict) (t':=s.toks) (fun b u q=>YaW _ q) (YaY _) ⟨_,e1⟩
 refine I1.laid (a:=s.heap.objs.size+1) (o:=.ins C s.heap.objs.size []) (t':=s.toks) (fun b u q=>YaW _ q) (Nat.le_of_eq (Wbk _ _)) ?_
 have ne:s.heap.objs.size≠s.heap.objs.size+1:=Yaf (Wa4 _);refine⟨by rw [zh ne,zl],WbG _,ne,e2,fun _=>none,(Heap.Ns1.of_empty e3).at fun o q=>YaW _ q,fun _=>True.intro,fun y hy=>absurd rfl hy⟩
end
section
variable{X:Cx}{o e value:Expr}{f:Str}{pos pos' tpos:Pos}{ta tv:TE}
end
section
variable{X:Cx}{pins:List (Addr×Obj)}{σ : St}{H:Hp}{s:Shared}{A:Around}{E:Value->Shared->Prop}{Q:Value->Shared->Prop}{c:Value}{b:Bool}
end
structure Room(k:Nat)(A:Around):Prop where
 hd:A.handled=none
 dp:A.depth+3*k+5<recursionLimit
 un:A.units+16*k+200<cLine
theorem Room.mono{j k:Nat}{A:Around}(r:Room k A)(h:j<=k):Room j A:=⟨r.hd,by have:=r.dp;omega,by have:=r.un;omega⟩
theorem Room.deeper{k:Nat}{A:Around}(r:Room (k+1) A)(env:Env):Room k (A.deeper env):=
 ⟨r.hd,by have:=r.dp;show A.depth+1+3*k+5<_;omega,by have:=r.un;show A.units+3+16*k+200<_;omega⟩
theorem Room.in1{k:Nat}{A:Around}(r:Room (k+1) A):Room k A.in1:=
 ⟨r.hd,by have:=r.dp;show A.depth+3*k+5<_;omega,by have:=r.un;show A.units+1+16*k+200<_;omega⟩
theorem zjX{A:Around}{C:Addr}{us:List Value}{kw:List (Str×Value)}:(A.under (.builtin "type.__call__" ⟨.ref C::us,kw⟩)).depth=A.depth+1:=by
 first|rfl|simp [Around.under,Code.weight,Code.isCreation,Code.isGuard,Code.isCaller,Code.frames,Code.isFrame,guardIds]
theorem znI{A:Around}{C:Addr}{us:List Value}{kw:List (Str×Value)}:(A.under (.builtin "type.__call__" ⟨.ref C::us,kw⟩)).units=A.units+1:=by
 first|rfl|simp [Around.under,Code.cUnits,Code.frames,Code.isFrame]
theorem Room.make{k:Nat}{A:Around}(r:Room (k+1) A)(C:Addr)(us:List Value)(kw:List (Str×Value)):Room k (A.under (.builtin "type.__call__" ⟨.ref C::us,kw⟩)):=
 ⟨r.hd,by have:=r.dp;rw [zjX];omega,by have:=r.un;rw [znI];omega⟩
theorem Room.depth{k:Nat}{A:Around}(r:Room k A):A.depth<recursionLimit:=by have:=r.dp;omega
theorem Room.units{k:Nat}{A:Around}(r:Room k A):A.units+64<cLine:=by have:=r.un;omega
def tNil:TA:=fun _ H Q=>Q [] H
def znP(ta:TE)(tr:TA):TA:=fun σ H Q=>ta σ H fun x H1=>tr σ H1 fun xs H2=>Q (x::xs) H2
section
variable{X:Cx}{e:Expr}{es:List Expr}{te:TE}{t:TA}{pos:Pos}
theorem Jk:PA X [] tNil:=fun _ _ _ _ H Q I h=>Calls.spliced_nil ⟨[],H,I,.nil,h⟩
theorem jS(ha:PE X e te)(hr:PA X es t)(hs:starEach (e::es) X.env=(false,eval e X.env)::starEach es X.env:=by rfl):PA X (e::es) (znP te t):=by
 intro pos pins s σ H Q I h;rw [hs];show wpAny _ _ (spliced ((false,eval e X.env)::backTo pos (starEach es X.env))) _ _ s;refine Calls.spliced_cons (thn (ha pins s σ H _ I h) fun u s1 ⟨x,H1,I1,r1,q1⟩=>?_)
 exact thn (hr pos pins s1 σ H1 _ I1 q1) fun us s2 ⟨xs,H2,I2,r2,q2⟩=>⟨x::xs,H2,I2,.cons r1 r2,q2⟩
def tTup(t:TA):TE:=fun σ H Q=>t σ H fun xs H1=>xs.length<=sizeLine/\∀ p,H1 p=none->Q (.ref p) (upd H1 p (.tup xs))
def tLst(t:TA):TE:=fun σ H Q=>t σ H fun xs H1=>xs.length<=sizeLine/\∀ p,H1 p=none->Q (.ref p) (upd H1 p (.lst xs))
theorem zkt{x1}(h:PA X es t):PE X (.Tuple es x1 pos) (tTup t):=by
 intro pins s σ H Q I hq;refine wpAny_Tuple_spliced (thn (h pos pins s σ H _ I hq) fun us s1 ⟨xs,H1,I1,r,z,q⟩=>⟨by rw [<-r.length];exact z,?_⟩)
 have hf:H1 s1.heap.objs.size=none:=I1.hok.fresh (YaY _);refine⟨.ref s1.heap.objs.size,upd H1 s1.heap.objs.size (.tup xs),I1.laid (t':=s1.toks) (fun b u e=>YaW _ e) (YaY _) ?_,rfl,q _ hf⟩
 exact⟨z,us,r,⟨_,Yan _ rfl,rfl,_,rfl⟩⟩
theorem zim(h:PA X es t):PE X (.List es pos) (tLst t):=by
 intro pins s σ H Q I hq;refine wpAny_List_spliced (thn (h pos pins s σ H _ I hq) fun us s1 ⟨xs,H1,I1,r,z,q⟩=>⟨by rw [<-r.length];exact z,?_⟩)
 have hf:H1 s1.heap.objs.size=none:=I1.hok.fresh (YaY _);refine⟨.ref s1.heap.objs.size,upd H1 s1.heap.objs.size (.lst xs),I1.laid (t':=s1.toks) (fun b u e=>YaW _ e) (YaY _) ?_,rfl,q _ hf⟩
 exact⟨z,us,0,r,Yan _ rfl⟩
end
abbrev Sp:=List V->Hp->VK->XK->Prop
abbrev CXT:=List Env->Hp->Shared->XK->Value->Shared->Prop
structure Env0(P:Program)(w:World)(K:Ybf)(mg:Str->Option Value)(base:Heap)(A:Around)(outer:List Env)(s:Shared)(H:Hp):Prop where
 frames:A.frames=some outer
 mod:Mod K mg base
 bs:∀ b o,base.get? b=some o->s.heap.get? b=some o/\H b=none
 bsz:base.objs.size<=s.heap.objs.size
 funs:s.heap.FunFrames base outer
 frf:∀ b∈frs outer,H b=none
 hok:HOk P w H s.heap
 bare:AllBare s.gens
def CE(outer:List Env)(P:Program)(w:World)(H:Hp)(s:Shared)(Q:VK)(u:Value)(s':Shared):Prop:=
 ∃ v H',s'.os=s.os/\AllBare s'.gens/\Un (frs outer) [] H H' s.heap s'.heap/\HOk P w H' s'.heap/\RelV v u/\Q v H'
def CR(CX:CXT)(outer:List Env)(P:Program)(w:World)(H:Hp)(s:Shared)(Q:VK)(E:XK)(r:Result)(s':Shared):Prop:=
 match r with
 | .ok (.ret u)=>CE outer P w H s Q u s'
 | .ok _=>False
 | .error e=>CX outer H s E e s'
structure FnOk(P:Program)(w:World)(K:Ybf)(mg:Str->Option Value)(base:Heap)(CX:CXT)(k:Nat)(f:Addr)(fd:FuncData)(ps:List Str)(sp:Sp):Prop where
 len:∀ vs H Q E,sp vs H Q E->vs.length=ps.length
 run:∀ (A:Around) (outer:List Env) (s:Shared) (H:Hp) (args:Args) (us:List Value) (vs:List V) (Q:VK) (E:XK),Room k A->Env0 P w K mg base A outer s H->BindsTo s fd args (ps.zip us)->Vals vs us->sp vs H Q E->
  codeAny (model P w) A (.call (.ref f) args) (CR CX outer P w H s Q E) s
theorem FnOk.mono{P:Program}{w:World}{K:Ybf}{mg:Str->Option Value}{base:Heap}{CX:CXT}{j k:Nat}{f:Addr}{fd:FuncData}{ps:List Str}{sp:Sp}(F:FnOk P w K mg base CX j f fd ps sp)(h:j<=k) :
 FnOk P w K mg base CX k f fd ps sp:=⟨F.len,fun A outer s H args us vs Q E hr=>F.run A outer s H args us vs Q E (hr.mono h)⟩
theorem FnOk.imp{P:Program}{w:World}{K:Ybf}{mg:Str->Option Value}{base:Heap}{CX:CXT}{k:Nat}{f:Addr}{fd:FuncData}{ps:List Str}{sp sp':Sp}(F:FnOk P w K mg base CX k f fd ps sp)
 (h:∀ vs H Q E,sp' vs H Q E->sp vs H Q E):FnOk P w K mg base CX k f fd ps sp':=
 ⟨fun vs H Q E q=>F.len vs H Q E (h _ _ _ _ q),fun A outer s H args us vs Q E hr he hb hv hs=>F.run A outer s H args us vs Q E hr he hb hv (h _ _ _ _ hs)⟩
theorem Env0.make{P:Program}{w:World}{K:Ybf}{mg:Str->Option Value}{base:Heap}{A:Around}{outer:List Env}{s:Shared}{H:Hp}(e:Env0 P w K mg base A outer s H)(C:Addr)(us:List Value)(kw:List (Str×Value)) :
 Env0 P w K mg base (A.under (.builtin "type.__call__" ⟨.ref C::us,kw⟩)) outer s H:=⟨by first|exact e.frames|(simpa [Around.under,Code.envs,Code.isFrame,pushEnvs] using e.frames),e.mod,e.bs,e.bsz,e.funs,e.frf,e.hok,e.bare⟩
section
variable{X:Cx}{pins:List (Addr×Obj)}{σ : St}{H:Hp}{s s':Shared}
theorem Inv.env0(I:Inv X pins σ H s):Env0 X.prog X.w X.K X.mg X.base X.A X.stack s H:=
 ⟨I.ok.frames,I.ok.mod,I.bs,Ya5 I.ok.bsz I.sz,I.stack,I.stkFree,I.hok,I.bare⟩
theorem Inv.after{Q:VK}{u:Value}(I:Inv X pins σ H s)(h:CE X.stack X.prog X.w H s Q u s'):EP X pins σ Q u s':=by
 obtain⟨v,H',os,bare,un,hok,r,q⟩:=h;obtain⟨hh,g,d,t,os'⟩:=s';obtain rfl:os'=s.os:=os;exact⟨v,H',I.call (h':=hh) (g':=g) (d':=d) (t':=t) (ch:=[]) un hok bare (fun b z=>absurd z (by simp)),r,q⟩
end
def zdY(sp:Sp)(dvs:List V)(E:XK)(t:TA):TE:=fun σ H Q=>t σ H fun vs H1=>sp (vs++dvs) H1 Q E
def Binds(K:Ybf)(fd:FuncData)(ps:List Str)(ds:List Value):Prop:=
 ∀ (s:Shared) (us:List Value),K.In s.heap->(us++ds).length=ps.length->BindsTo s fd ⟨us,[]⟩ (ps.zip (us++ds))
theorem Binds.all{K:Ybf}{fd:FuncData}{ps:List Str}(h:∀ us:List Value,us.length=ps.length->bindArgs fd ⟨us,[]⟩=pure (ps.zip us)):Binds K fd ps []:=fun s us _ hl=>by
 rw [Yao] at hl ⊢;exact .of_eq (h us hl)
def Passes(CX:CXT)(X:Cx)(E:XK):Prop:=∀ (pins:List (Addr×Obj)) (σ : St) (H:Hp) (s:Shared) (e:Value) (s':Shared),Inv X pins σ H s->CX X.stack H s E e s'->X.xe e s'
section
variable{X:Cx}{CX:CXT}{k:Nat}{f C:Addr}{fd:FuncData}{ps:List Str}{sp:Sp}{dvs:List V}{ds:List Value}{E:XK}{x m:Str}{p pos apos:Pos}{e o:Expr}{es:List Expr}{ta:TE}{t:TA}
theorem zgg{pins:List (Addr×Obj)}{σ : St}{H:Hp}{s:Shared}{Q:VK}{us:List Value}{vs:List V}(F:FnOk X.prog X.w X.K X.mg X.base CX k f fd ps sp)(hr:Room k X.A)(hb:Binds X.K fd ps ds)(hd:Vals dvs ds)(hx:Passes CX X E)
 (I:Inv X pins σ H s) (r:Vals vs us) (h:sp (vs++dvs) H Q E):wpAny (model X.prog X.w) X.A (call (.ref f) us) (EP X pins σ Q) X.xe s:=by
 have r2:Vals (vs++dvs) (us++ds):=r.append hd;have hl:(us++ds).length=ps.length:=by rw [<-r2.length];exact F.len _ _ _ _ h
 refine wpAny_call (codeAny_mono (F.run X.A X.stack s H ⟨us,[]⟩ (us++ds) (vs++dvs) Q E hr I.env0 (hb s us I.kIn hl) r2 h) fun r s' hq=>?_)
 cases r with
 | error e=>exact hx pins σ H s e s' I hq
 | ok fl=>
  cases fl with
  | ret u=>exact I.after hq
  | next=>exact False.elim hq
  | brk=>exact False.elim hq
  | cont=>exact False.elim hq
theorem ziq(F:FnOk X.prog X.w X.K X.mg X.base CX k f fd ps sp)(hr:Room k X.A)(hg:Gl X x)(hm:X.mg x=some (.ref f))(hk:PySem.W.keepIn X.K (.ref f)=true)(hb:Binds X.K fd ps ds)(hd:Vals dvs ds)(hx:Passes CX X E)
 (ha:PA X (e::es) t) (hdb:(x==("__debug__" : Str))=false:=by decide) (he:starEach (e::es) X.env=(false,eval e X.env)::starEach es X.env:=by rfl) (hpl:(backTo pos (starEach es X.env)).any (·.1)=false:=by rfl) :
 PE X (.Call (.Name x p) (e::es) [] pos) (zdY sp dvs E t):=by
 intro pins s σ H Q I h;refine wpAny_Call_Name_kw (zb7 I hg hm ?_ hdb);refine PySem.W.callWith_K (h₀:=X.base) I.ok.mod.kin hk (thn (ha pos pins s σ H _ I h) fun us s1 ⟨vs,H1,I1,r,q⟩=>⟨I1.kIn,?_⟩) he hpl
 exact zgg F hr hb hd hx I1 r q
end
section
variable{X:Cx}{CX:CXT}{k:Nat}{f C:Addr}{fd:FuncData}{ps ks:List Str}{sp:Sp}{E:XK}{x m:Str}{p pos apos kpos:Pos}{e o:Expr}{es:List Expr}{kws:List Keyword}{te ta:TE}{t tk:TA}{nm:Option Str}
variable{g:List Value->List Value->List Value}{gV:List V->List V->List V}
end
structure FnScope(N P:List Str)(sc:Scope):Prop where
 kind:sc.kind=.function
 co:sc.isCoroutine=false
 gen:sc.isGenerator=false
 nd:N.Nodup
 pre:N.take P.length=P
 par:∀ x∈P,sc.names.lookup x=some .local\/sc.names.lookup x=some .cell
 nofree:∀ y∈sc.names,y.2≠.free
theorem zcH{kindOf:Str->Option NameKind}{x:Str}:∀ {binds:List (Str×Value)} {m:Str->Option Value},(∀ v,(x,v)∉binds)->bindL kindOf binds m x=m x
 | [],_,_=>rfl
 | (n, v) :: r, m, h => by
  unfold bindL;rw [zcH fun w hw=>h w (YaT _ hw)]
  split
  . have:x≠n:=by rintro rfl;exact h v YaV
    simp [this]
  . rfl
theorem zdj{kindOf:Str->Option NameKind}{x:Str}:∀ {binds:List (Str×Value)} {m:Str->Option Value},(∀ v,(x,v)∉binds)->bindC kindOf binds m x=m x
 | [],_,_=>rfl
 | (n, v) :: r, m, h => by
  unfold bindC;rw [zdj fun w hw=>h w (YaT _ hw)]
  split
  . rfl
  . have:x≠n:=by rintro rfl;exact h v YaV
    simp [this]
theorem zcN{kindOf:Str->Option NameKind}{x:Str}{v:Value}:∀ {P:List Str} {vs:List Value} {i:Nat} {m:Str->Option Value},P.Nodup->P[i]?=some x->vs[i]?=some v->kindOf x=some .local->
 bindL kindOf (P.zip vs) m x=some v
 | [],_,_,_,_,h,_,_=>by simp at h
 | _::_,[],_,_,_,_,h,_=>by simp at h
 | p :: P, w :: vs, 0, m, nd, h1, h2, hk => by
  simp at h1 h2;subst h1;subst h2
  show bindL kindOf ((p,w)::P.zip vs) m p=_
  unfold bindL;rw [zcH fun v hv=>(YaB.mp nd).1 (List.of_mem_zip hv).1,if_pos hk]
  simp
 | p :: P, w :: vs, i + 1, m, nd, h1, h2, hk => by
  show bindL kindOf ((p,w)::P.zip vs) m x=_
  unfold bindL;exact zcN (i:=i) (YaB.mp nd).2 (by simpa using h1) (by simpa using h2) hk
theorem zeF{kindOf:Str->Option NameKind}{x:Str}{v:Value}:∀ {P:List Str} {vs:List Value} {i:Nat} {m:Str->Option Value},P.Nodup->P[i]?=some x->vs[i]?=some v->kindOf x≠some .local->
 bindC kindOf (P.zip vs) m x=some v
 | [],_,_,_,_,h,_,_=>by simp at h
 | _::_,[],_,_,_,_,h,_=>by simp at h
 | p :: P, w :: vs, 0, m, nd, h1, h2, hk => by
  simp at h1 h2;subst h1;subst h2
  show bindC kindOf ((p,w)::P.zip vs) m p=_
  unfold bindC;rw [zdj fun v hv=>(YaB.mp nd).1 (List.of_mem_zip hv).1,if_neg hk]
  simp
 | p :: P, w :: vs, i + 1, m, nd, h1, h2, hk => by
  show bindC kindOf ((p,w)::P.zip vs) m x=_
  unfold bindC;exact zeF (i:=i) (YaB.mp nd).2 (by simpa using h1) (by simpa using h2) hk
def start(N:List Str)(vs:List V):St:=vs.map some++List.replicate (N.length - vs.length) none
def cxOf(CX:CXT)(P:Program)(w:World)(K:Ybf)(mg:Str->Option Value)(base:Heap)(N:List Str)(qual:Str)(scope:Scope)(f:Addr)(cd:Value)(A:Around)(outer:List Env)(s:Shared)(H:Hp)(E:XK):Cx where
 prog:=P
 w:=w
 K:=K
 mg:=mg
 base:=base
 A:=A.deeper (envOfC qual scope s.heap.objs.size f cd)
 N:=N
 s₀:=s
 H₀:=H
 env:=envOfC qual scope s.heap.objs.size f cd
 outer:=outer
 stack:=envOfC qual scope s.heap.objs.size f cd::outer
 ex:=[]
 calm:=true
 fn:=fun _=>true
 pn:=[]
 xe:=fun e s'=>wpAny (model P w) (A.deeper (envOfC qual scope s.heap.objs.size f cd)) (leaving (envOfC qual scope s.heap.objs.size f cd) e) (fun _ s''=>CX outer H s E e s'') (fun e' s''=>CX outer H s E e' s'') s'
theorem zdR{sc:Scope}{n:Nat}{x:Str}(h:sc.names.lookup x=some .cell):∃ c,(cellsFrom n sc.names []).lookup x=some c:=by
 have q:=War sc.names n [] (.inl h);exact Wal.mp q
theorem zkk{CX:CXT}{P:Program}{w:World}{K:Ybf}{mg:Str->Option Value}{base:Heap}{N ps:List Str}{qual:Str}{scope:Scope}{f:Addr}{cd:Value}{A:Around}{outer:List Env}{s s1:Shared}{H:Hp}{E:XK}{us:List Value}{vs:List V}
 (S:FnScope N ps scope) (hd:A.handled=none) (e0:Env0 P w K mg base A outer s H) (hl:vs.length=ps.length) (r:Vals vs us)
 (x:InCallC s s.heap.objs.size (bindL (envOfC qual scope s.heap.objs.size f cd).kindOf (ps.zip us) fun _=>none) (cellsFrom (s.heap.objs.size+1) scope.names []) (bindC (envOfC qual scope s.heap.objs.size f cd).kindOf (ps.zip us) fun _=>none) s1) :
 Inv (cxOf CX P w K mg base N qual scope f cd A outer s H E) [] (start N vs) H s1:=by
 have hpl:ps.length<=N.length:=by have:=congrArg List.length S.pre;rw [Wa5] at this;omega
 obtain⟨h1,tk,rfl,hk⟩:=x.done;have noA:∀ b:Addr,b∉(cxOf CX P w K mg base N qual scope f cd A outer s H E).ex:=fun b z=>absurd (show b∈([]:List Addr) from z) (by simp)
 refine⟨⟨e0.mod,S.kind,rfl,rfl,YaY _,fun y z c h1 h2=>?_,fun y hy=>?_,fun y c _ h=>?_,fun _=>hd,Around.frames_deeper e0.frames,.inr ⟨rfl,rfl⟩,fun b z=>absurd z (noA b),e0.bs,e0.bsz,fun b _ _=>noA b,fun b z=>absurd z (noA b),e0.funs,e0.frf⟩,
  rfl,e0.bare,Un.kept hk,⟨_,x.toInCall.ns,fun i y v h1 h2 h3=>?_⟩,fun y c h=>⟨_,x.cell y c h⟩,e0.hok.fresh (YaY _),fun y c h=>?_,fun p hp=>absurd (show p∈([]:List (Addr×Obj)) from hp) (by simp),e0.hok.kept hk,?_⟩
 . exact name_of_addr x.apart (WaC h1) (WaC h2)
 . have hy:scope.names.lookup y=some .cell\/scope.names.lookup y=some .free:=hy
   rcases hy with hy|hy
   . exact zdR hy
   . exact absurd rfl (S.nofree _ (WaC hy))
 . exact Wbx (x.above y c (WaC h))
 . have hi:i<vs.length:=by
    unfold start at h2
    by_cases hi:i<vs.length
    . exact hi
    . rw [Yae (by simpa using hi)] at h2
      rw [Yad] at h2
      split at h2<;>cases h2
   have ha:vs[i]?=some v:=by
    unfold start at h2;rw [Yab (by simpa using hi),Ya0] at h2
    cases e:vs[i]? with
    | none=>rw [e] at h2;cases h2
    | some a=>rw [e] at h2;cases h2;rfl
   obtain⟨u,hu,rv⟩:=r.get ha;have hp:ps[i]?=some y:=by
    rw [<-S.pre,Wam #[0]];exact h1
   have ndP:ps.Nodup:=by rw [<-S.pre];exact S.nd.sublist (List.take_sublist _ _)
   refine⟨u,rv,?_⟩
   rcases S.par y (Yah hp) with k|k
   . exact .inl ⟨k,zcN ndP hp hu k⟩
   . obtain⟨c,e⟩:=zdR (n:=s.heap.objs.size+1) k
     refine .inr ⟨.inl k,c,e,?_⟩
     have q:=x.cell y c e;rw [zeF ndP hp hu (by show scope.names.lookup y≠_;rw [k];decide)] at q
     exact q
 . exact e0.hok.fresh (Wbx (x.above y c (WaC h)))
 . unfold start
   show _=N.length
   rw [YaS,YaR,Ybb]
   omega
theorem zck{CX:CXT}{P:Program}{w:World}{K:Ybf}{mg:Str->Option Value}{base:Heap}{k:Nat}{f:Addr}{name qual:Str}{params:Arguments}{body:List Stmt}{scope:Scope}{dV kV doc pm cdv ct oc:Value}{an od:Option Addr}
 {osl:Array (Option Value)} {N ps:List Str} {sp:Sp} (lk:K.lookup f=some ⟨oc,od,.func (PySem.W.fnOf name qual params body scope dV kV doc pm an cdv ct),osl⟩) (hcd:PySem.W.codeIn K cdv qual=true) (S:FnScope N ps scope)
 (len:∀ vs H Q E,sp vs H Q E->vs.length=ps.length)
 (hbody:∀ (A:Around) (outer:List Env) (s:Shared) (H:Hp) (vs:List V) (Q:VK) (E:XK),Room k (A.deeper (envOfC qual scope s.heap.objs.size f cdv))->sp vs H Q E->
  ∃ t,PSs (cxOf CX P w K mg base N qual scope f cdv A outer s H E) body t/\t { nx:=fun _ H'=>Q .non H',rt:=Q } (start N vs) H) :
 FnOk P w K mg base CX (k+1) f (PySem.W.fnOf name qual params body scope dV kV doc pm an cdv ct) ps sp:=by
 refine⟨len,fun A outer s H args us vs Q E hr e0 hb r hsp=>?_⟩
 have hl:=len _ _ _ _ hsp;have KX:K.In s.heap:=e0.mod.kin.keeps fun b o e=>(e0.bs b o e).1
 have lim:s.heap.NoLimit:=e0.mod.nolimit.keeps fun b o e=>(e0.bs b o e).1
 have hkind:∀ y∈ps.zip us,scope.names.lookup y.1=some .local\/(scope.names.lookup y.1=some .cell/\((cellsFrom (s.heap.objs.size+1) scope.names []).lookup y.1).isSome=true):=fun⟨n,v⟩ hy=>by
  rcases S.par n (List.of_mem_zip hy).1 with q|q
  . exact .inl q
  . exact .inr ⟨q,War _ _ _ (.inl q)⟩
 refine codeAny_call_function hr.depth (KX _ _ lk) rfl S.co S.gen rfl (PySem.W.codeRec_of KX hcd) (hb _ _ _ _ ?_)
 refine wpAny_newFunctionEnv_cells S.kind hkind fun env he s1 x=>?_
 subst he;refine⟨lim.keeps x.toInCall.keep,codeAny_func ?_⟩;obtain⟨t,ht,hq⟩:=hbody A outer s H vs Q E (hr.deeper _) hsp;have I:Inv (cxOf CX P w K mg base N qual scope f cdv A outer s H E) [] (start N vs) H s1:=zkk S hr.hd e0 hl r x;refine wpAny_mono (ht [] s1 (start N vs) H _ I hq) (fun fl s' hs=>?_) fun e s' hs=>hs
 have fin:∀ {σ':St} {H':Hp} {v:V} {u:Value},Inv (cxOf CX P w K mg base N qual scope f cdv A outer s H E) [] σ' H' s'->RelV v u->Q v H'->CE outer P w H s Q u s':=
  fun {σ' H' v u} J rv q=>⟨v,H',J.os,J.bare,J.base,J.hok,rv,q⟩
 cases fl with
 | ret u=>
  obtain⟨v,σ',H',J,rv,q⟩:=hs;exact fin J rv q
 | next=>
  obtain⟨σ',H',J,q⟩:=hs;exact fin (v:=V.non) (u:=Value.none) J rfl q
 | brk=>
  obtain⟨_,_,_,q⟩:=hs;exact False.elim q
 | cont=>
  obtain⟨_,_,_,q⟩:=hs;exact False.elim q
section
variable{X:Cx}{x:Str}{p pos:Pos}{e:Expr}{es:List Expr}{t:TA}{id T:String}{r:List V->Hp->VK->Prop}
def tCB(r:List V->Hp->VK->Prop)(t:TA):TE:=fun σ H Q=>t σ H fun vs H1=>r vs H1 Q
theorem zce(hc:zH X (.builtin id) r)(hg:Gl X x)(hm:X.mg x=none)(hv:bootBuiltins x=some (.builtin id))(ha:PA X (e::es) t)(hn:x≠"__name__":=by decide)(hdb:(x==("__debug__" : Str))=false:=by decide)
 (he:starEach (e::es) X.env=(false,eval e X.env)::starEach es X.env:=by rfl) (hpl:(backTo pos (starEach es X.env)).any (·.1)=false:=by rfl):PE X (.Call (.Name x p) (e::es) [] pos) (tCB r t):=by
 intro pins s σ H Q I h;refine wpAny_Call_Name_kw (j0 I hg hm hv ?_ hn hdb);exact PyProof.Rows.callWith_builtin1 (thn (ha pos pins s σ H _ I h) fun us s1 ⟨vs,H1,I1,r1,q1⟩=>hc pins s1 σ H1 vs us Q I1 r1 q1) he hpl
end
end L2
namespace HT
open PySem PyProof.Rows
section
open PySem.SeqAt
open PySem.AutoSeq1 (wpAny_loadPart')
open PySem.MeetsSeq PySem.MeetsSeq2 PySem.MeetsSeq3
end
section
variable{prog:Program}{w:World}{A:Around}{E:Value->Shared->Prop}{s:Shared}
theorem cat_tup{t b:Addr}{vs ws:List Value}{Q:Value->Shared->Prop}(ht:IsTup s.heap t vs.toArray)(hb:IsTup s.heap b ws.toArray)(hv:vs≠[])
 (h1:ws=[]->Q (.ref t) s) (h2:ws≠[]->Q (.ref s.heap.objs.size) { s with heap:=s.heap.push { cls:=.type "tuple", data:=.seq (vs++ws).toArray } })
 (hsz:vs.length+ws.length<=sizeLine):wpAny (model prog w) A (binaryOp .Add (.ref t) (.ref b)) Q E s:=by
 obtain⟨⟨cls,dd,data,sl⟩,ho,hc,n,hd⟩:=id ht;obtain⟨⟨cls2,dd2,data2,sl2⟩,ho2,hc2,n2,hd2⟩:=id hb;simp only at hc hd hc2 hd2;subst hc hd hc2 hd2;have e:vs.toArray++ws.toArray=(vs++ws).toArray:=by simp
 by_cases hw:ws=[]
 . exact concat_meets ⟨_,ho,rfl⟩ ⟨_,ho2,rfl⟩ noFill_tuple_add seq_tuple_add PySem.F.slot_tuple_add PySem.F.entry_tuple_add (PySem.F.args_tuple_add_2 _ _)
    (tuple_addW1 t b vs.toArray ws.toArray n n2 dd dd2 sl sl2 (by simpa using hv) (by simp [hw])) ⟨ho,ho2,h1 hw⟩
 . refine concat_meets ⟨_,ho,rfl⟩ ⟨_,ho2,rfl⟩ noFill_tuple_add seq_tuple_add PySem.F.slot_tuple_add PySem.F.entry_tuple_add (PySem.F.args_tuple_add_2 _ _)
    (tuple_addW2 t b vs.toArray ws.toArray n n2 dd dd2 sl sl2 (by simpa using hv) (by simpa using hw) (by rw [YaZ,YaZ];exact hsz)) ⟨ho,ho2,?_⟩
   rw [e];exact h2 hw
def sIx(n d:Nat):Option Int->Nat
 | none=>d
 | some v=>if v<0 then(v+(n:Int)).toNat else min v.toNat n
theorem sIx_none(n d:Nat):sIx n d none=d:=rfl
theorem sIx_nat(n d k:Nat):sIx n d (some (k:Int))=min k n:=by
 show(if(k:Int)<0 then((k:Int)+(n:Int)).toNat else min (k:Int).toNat n)=min k n
 rw [if_neg #[0],Int.toNat_natCast]
theorem zjn(n d:Nat)(hd:d<=n)(o:Option Int):sIx n d o<=n:=by
 cases o with
 | none=>exact hd
 | some v=>
  show(if v<0 then(v+(n:Int)).toNat else min v.toNat n)<=n
  by_cases hv:v<0
  . rw [if_pos hv];omega
  . rw [if_neg hv];exact Nat.min_le_right _ _
theorem zdV(v:Int)(n d:Nat):(if v<0 then max (v+(n:Int)) 0 else min v (n:Int))=((sIx n d (some v):Nat):Int):=by
 show(if v<0 then max (v+(n:Int)) 0 else min v (n:Int))=(((if v<0 then(v+(n:Int)).toNat else min v.toNat n):Nat):Int)
 by_cases hv:v<0
 . simp only [if_pos hv];omega
 . simp only [if_neg hv];omega
theorem zkr(lo hi:Option Int)(n:Nat):Builtin.Slice.sliceAdjust lo hi 1 (n:Int)=(((sIx n 0 lo:Nat):Int),((sIx n n hi:Nat):Int)):=by
 have h1:¬((1:Int)<0):=#[0]
 unfold Builtin.Slice.sliceAdjust;simp only [h1,if_false];refine Prod.ext ?_ ?_
 . cases lo with
   | none=>rfl
   | some v=>exact zdV v n 0
 . cases hi with
   | none=>rfl
   | some v=>exact zdV v n n
theorem zg8(i j:Nat):Builtin.Slice.slicePlaces (i:Int) (j:Int) 1=j - i:=by
 unfold Builtin.Slice.slicePlaces;have h1:(1:Int) > 0:=#[0]
 simp only [h1,if_true,Int.ediv_one]
 split<;>omega
theorem zfk{v:Value}{o:Option Int}{Q:Option Int->Shared->Prop}(p:IsPart v o)(h:Q o s):wpAny (model prog w) A (Builtin.Slice.slicePartIndex v) Q E s:=by
 cases p with
 | none=>exact slicePart_none h
 | int i t=>exact slicePart_int h
theorem zg5{sl:Addr}{vl vu:Value}{lo hi:Option Int}{n:Nat}{Q:Int×Int×Nat->Shared->Prop}(hs:s.heap.IsSliceOf sl vl vu .none)(pl:IsPart vl lo)(pu:IsPart vu hi)
 (h:Q (((sIx n 0 lo:Nat):Int),1,sIx n n hi - sIx n 0 lo) s):wpAny (model prog w) A (Builtin.Slice.sliceApplied (.ref sl) (pure (n:Int))) Q E s:=by
 obtain⟨os,hos,hcs,hds⟩:=id hs;unfold Builtin.Slice.sliceApplied Builtin.Slice.sliceFields;refine wpAny_bind (wpAny_bind (wpAny_field hos hds (x:=vl) rfl (wpAny_bind (wpAny_field hos hds (x:=vu) rfl (wpAny_bind (wpAny_field hos hds (x:=.none) rfl (wpAny_pure ?_)))))));refine wpAny_bind (slicePart_none ?_);show wpAny _ _ (if((1:Int)==0)=true then _ else _) _ _ s
 rw [if_neg #[1]]
 refine wpAny_bind (zfk pl (wpAny_bind (zfk pu (wpAny_bind (wpAny_pure ?_)))))
 show wpAny _ _ (match Builtin.Slice.sliceAdjust lo hi 1 (n:Int) with|(lo,hi)=>pure (lo,(1:Int),Builtin.Slice.slicePlaces lo hi 1)) _ _ s
 rw [zkr lo hi n];show wpAny _ _ (pure (((sIx n 0 lo:Nat):Int),(1:Int),Builtin.Slice.slicePlaces ((sIx n 0 lo:Nat):Int) ((sIx n n hi:Nat):Int) 1)) _ _ s;rw [zg8];exact wpAny_pure h
theorem zkD(xs:Array Value)(i k:Nat):((List.range k).filterMap fun(m:Nat)=>xs[((i:Int)+(m:Int)*1).toNat]?).toArray=((xs.toList.drop i).take k).toArray:=by
 have e:(fun(m:Nat)=>xs[((i:Int)+(m:Int)*1).toNat]?)=fun m=>xs[i+m]?:=by
  funext m
  have:((i:Int)+(m:Int)*1).toNat=i+m:=#[0]
  rw [this]
 rw [e];have:=pick_run xs i k;rw [List.filterMap_map] at this;have e2:((fun x=>xs[x]?)∘fun x=>i+x)=fun m=>xs[i+m]?:=rfl
 rw [e2] at this;rw [this]
theorem getItem_tuple_cut{t sl:Addr}{items:Array Value}{vl vu:Value}{lo hi:Option Int}{Q:Value->Shared->Prop}(ht:IsTup s.heap t items)(hs:s.heap.IsSliceOf sl vl vu .none)(pl:IsPart vl lo)(pu:IsPart vu hi)
 (hw:¬(sIx items.size 0 lo=0/\sIx items.size items.size hi=items.size))
 (h:Q (.ref s.heap.objs.size) { s with heap:=s.heap.push { cls:=.type "tuple", data:=.seq ((items.toList.drop (sIx items.size 0 lo)).take (sIx items.size items.size hi - sIx items.size 0 lo)).toArray } })
 (hsz:items.size<=sizeLine):wpAny (model prog w) A (getItem (.ref t) (.ref sl)) Q E s:=by
 have htake:sizeOk (.seq ((items.toList.drop (sIx items.size 0 lo)).take (sIx items.size items.size hi - sIx items.size 0 lo)).toArray):=by
  show((items.toList.drop (sIx items.size 0 lo)).take (sIx items.size items.size hi - sIx items.size 0 lo)).toArray.size<=sizeLine
  rw [YaZ,Wa5,Wa6,Array.length_toList]
  omega
 have hj:sIx items.size items.size hi<=items.size:=zjn _ _ (YaY _) hi;obtain⟨os,hos,hcs,hds⟩:=id hs;have hTs:s.TypeIs (.ref sl) "slice":=⟨os,hos,hcs⟩;unfold getItem
 try with_reducible refine wpAny_holding ?_
 first|refine wpAny_bind (wpAny_pure ?_)|skip
 refine wpAny_bind (wpAny_sequenceKey ht.typeIs #[1] ?_)
 refine wpAny_bind (wpAny_callSpecial?_slot (name:=Str.ofString "__getitem__") ht.typeIs Wab
  (wpAny_call_entry Wab ht.typeIs entry_tuple_getitem ?_ (args_tuple_getitem _ _)))
 show wpAny _ _ (Builtin.Tuple.tupleItemsOf (.ref t) >>= _) _ _ s
 refine wpAny_bind (tupleItemsOf_ ht ?_)
 refine wpAny_bind (wpAny_typeOf hTs ?_)
 rw [if_pos #[1]]
 refine wpAny_bind (zg5 hs pl pu ?_)
 have hno:¬((((sIx items.size 0 lo:Nat):Int)==0&&(1:Int)==1&&(sIx items.size items.size hi - sIx items.size 0 lo)==items.size)=true):=by
  intro q;rw [Yak,Yak] at q;have q1:((sIx items.size 0 lo:Nat):Int)=0:=eq_of_beq q.1.1;have q2:sIx items.size items.size hi - sIx items.size 0 lo=items.size:=eq_of_beq q.2;exact hw ⟨#[0],#[0]⟩
 show wpAny _ _ (if(((sIx items.size 0 lo:Nat):Int)==0&&(1:Int)==1&&(sIx items.size items.size hi - sIx items.size 0 lo)==items.size)=true then _ else _) _ _ s
 rw [if_neg hno,zkD]
 first
  | exact wpAny_bind (m:=Builtin.Tuple.tupleExact _) (wpAny_newObj_type (wpAny_pure ⟨_,rfl,wpAny_pure h⟩) htake)
  | exact wpAny_bind (m:=Builtin.Tuple.tupleExact _) (wpAny_newObj_type (wpAny_bind (wpAny_pure (wpAny_pure ⟨_,rfl,wpAny_pure h⟩))) htake)
  | exact wpAny_bind (wpAny_bind (m:=Builtin.Tuple.tupleExact _) (wpAny_newObj_type (wpAny_pure (wpAny_pure ⟨_,rfl,wpAny_pure h⟩)) htake))
  | exact wpAny_bind (wpAny_bind (m:=Builtin.Tuple.tupleExact _) (wpAny_newObj_type (wpAny_pure ⟨_,rfl,wpAny_pure h⟩) htake))
end
end HT
namespace L2
open PySem PySem.Spec PyProof.Rows
abbrev TO:=St->Hp->(Option Int->Hp->Prop)->Prop
def PO(X:Cx)(e:Option Expr)(t:TO):Prop:=
 ∀ (pins:List (Addr×Obj)) (s:Shared) (σ : St) (H:Hp) (Q:Option Int->Hp->Prop),Inv X pins σ H s->t σ H Q->
  wpAny (model X.prog X.w) X.A (evalPart e X.env) (fun u s'=>∃ o H',Inv X pins σ H' s'/\IsPart u o/\Q o H') X.xe s
def tNoPart:TO:=fun _ H Q=>Q none H
def znS(t:TE):TO:=fun σ H Q=>t σ H fun x H1=>∃ i,x=.int i/\Q (some i) H1
theorem zcW{ns:List Int}:∀ {us:List Value},Vals (ns.map V.int) us->IntsAre us ns:=by
 induction ns with
 | nil=>intro us r;rw [Wbz] at r;cases r;exact .nil
 | cons n ns ih=>
  intro us r;rw [Ya1] at r;cases r with
  | cons r1 r2=>
   obtain⟨t,e⟩:=r1;subst e;exact .cons n t (ih r2)
section
variable{X:Cx}{e:Expr}{te:TE}{lo hi:Option Expr}{tl th:TO}{pos p2:Pos}
theorem zmo:PO X none tNoPart:=by
 intro pins s σ H Q I h;rw [evalPart_none];exact wpAny_pure ⟨none,H,I,.none,h⟩
theorem zkw(h:PE X e te):PO X (some e) (znS te):=by
 intro pins s σ H Q I hw;rw [evalPart_some];refine thn (h pins s σ H _ I hw) fun u s1 ⟨x,H1,I1,r1,q1⟩=>?_
 obtain⟨i,rfl,q⟩:=q1;obtain⟨t,rfl⟩:=r1;exact⟨some i,H1,I1,.int i t,q⟩
def SlR(X:Cx)(r:V->Option Int->Option Int->Hp->VK->Prop):Prop:=
 ∀ (pins:List (Addr×Obj)) (s:Shared) (σ : St) (H:Hp) (x:V) (v vl vu:Value) (lo hi:Option Int) (sl:Addr) (Q:VK),Inv X pins σ H s->RelV x v->s.heap.IsSliceOf sl vl vu .none->IsPart vl lo->IsPart vu hi->r x lo hi H Q->
  ∃ T id,typeLookup (.type T) "__getitem__" = pure (some (.builtin id))/\s.TypeIs v T/\wpAny (model X.prog X.w) X.A (getItem v (.ref sl)) (EP X pins σ Q) X.xe s
theorem SlR.or{r r':V->Option Int->Option Int->Hp->VK->Prop}(h:SlR X r)(h':SlR X r'):SlR X (fun x lo hi H Q=>r x lo hi H Q\/r' x lo hi H Q):=by
 intro pins s σ H x v vl vu lo hi sl Q I rx hs pl pu q
 rcases q with q|q
 . exact h pins s σ H x v vl vu lo hi sl Q I rx hs pl pu q
 . exact h' pins s σ H x v vl vu lo hi sl Q I rx hs pl pu q
def tSl(r:V->Option Int->Option Int->Hp->VK->Prop)(te:TE)(tl th:TO):TE:=fun σ H Q=>te σ H fun x H1=>tl σ H1 fun l H2=>th σ H2 fun u H3=>r x l u H3 Q
theorem zcR{r:V->Option Int->Option Int->Hp->VK->Prop}(hr:SlR X r)(he:PE X e te)(hl:PO X lo tl)(hu:PO X hi th):PE X (.Subscript e (.Slice lo hi none p2) pos) (tSl r te tl th):=by
 intro pins s σ H Q I h;refine Subscript_ (thn (he pins s σ H _ I h) fun v s1 ⟨x,H1,I1,r1,q1⟩=>?_)
 refine wpAny_Slice (thn (hl pins s1 σ H1 _ I1 q1) fun vl s2 ⟨l,H2,I2,pl,q2⟩=>thn (hu pins s2 σ H2 _ I2 q2) fun vu s3 ⟨u,H3,I3,pu,q3⟩=>?_)
 rw [evalPart_none];refine wpAny_pure ?_;have I4:Inv X pins σ H3 { s3 with heap:=s3.heap.push { cls:=.type "slice", data:=.fields #[vl,vu,.none] } }:=I3.kept (t':=s3.toks) fun b ob q=>YaW _ q
 obtain⟨T,id,hT,ht,hg⟩:=hr pins { s3 with heap:=s3.heap.push { cls:=.type "slice", data:=.fields #[vl,vu,.none] } } σ H3 x v vl vu l u s3.heap.objs.size Q I4 r1 (Heap.IsSliceOf.new ..) pl pu q3
 show wpAny (model X.prog X.w) X.A (subscriptTail e (.Slice lo hi none p2) v (.ref s3.heap.objs.size)) (EP X pins σ Q) X.xe { s3 with heap:=s3.heap.push { cls:=.type "slice", data:=.fields #[vl,vu,.none] } }
 exact tail_any (ops:=[.ref s3.heap.objs.size,v]) ht hT hg (by with_unfolding_all rfl)
def cutV(xs:List V)(lo hi:Option Int):List V:=(xs.drop (HT.sIx xs.length 0 lo)).take (HT.sIx xs.length xs.length hi - HT.sIx xs.length 0 lo)
theorem zeW(xs:List V)(lo hi:Option Int):(cutV xs lo hi).length<=xs.length:=by
 unfold cutV;rw [Wa5,Wa6]
 omega
def rSlT(K:Ybf):V->Option Int->Option Int->Hp->VK->Prop:=fun x lo hi H Q=>∃ a xs,x=.ref a/\SqT K H a xs/\
 ¬(HT.sIx xs.length 0 lo=0/\HT.sIx xs.length xs.length hi=xs.length)/\∀ p,H p=none->Q (.ref p) (upd H p (.tup (cutV xs lo hi)))
theorem zh8:SlR X (rSlT X.K):=by
 intro pins s σ H x v vl vu lo hi sl Q I rx hs pl pu h;obtain⟨a,xs,rfl,hx,hw,q⟩:=h;cases rx;obtain⟨its,r,ht,hz⟩:=I.tuple hx;have hlen:its.toArray.size=xs.length:=by rw [YaZ];exact r.length.symm
 refine⟨"tuple", _,Wab.lookup,ht.typeIs,?_⟩
 refine HT.getItem_tuple_cut ht hs pl pu (by rw [hlen];exact hw) ?_ (by rw [hlen];exact hz)
 rw [hlen];refine⟨.ref s.heap.objs.size,_,I.laid (t':=s.toks) (o:=.tup (cutV xs lo hi)) (fun b ob q=>YaW _ q) (YaY _) ?_,rfl,q _ (I.hok.fresh (YaY _))⟩
 exact⟨Ya5 (zeW xs lo hi) hz,_,(r.drop (HT.sIx xs.length 0 lo)).take (HT.sIx xs.length xs.length hi - HT.sIx xs.length 0 lo),IsTup.new _ _⟩
def zjS(K:Ybf):R2:=fun x y H Q=>∃ a b xs ys,x=.ref a/\y=.ref b/\SqT K H a xs/\SqT K H b ys/\xs≠[]/\xs.length+ys.length<=sizeLine/\
 (ys=[]->Q (.ref a) H)/\(ys≠[]->∀ p,H p=none->Q (.ref p) (upd H p (.tup (xs++ys))))
theorem Vals.nil_iff{xs:List V}{us:List Value}(r:Vals xs us):us=[]↔xs=[]:=by
 cases r with
 | nil=>simp
 | cons _ _=>simp
theorem zh9:OpR X (binaryOp .Add) (zjS X.K):=by
 intro pins s σ H x y v u Q I rx ry h;obtain⟨a,b,xs,ys,rfl,rfl,ha,hb,hx,hz,q1,q2⟩:=h;cases rx;cases ry;obtain⟨its,r1,p1,_⟩:=I.tuple ha;obtain⟨its2,r2,p2,_⟩:=I.tuple hb;refine HT.cat_tup p1 p2 (fun z=>hx (r1.nil_iff.mp z)) (fun z=>⟨.ref a,H,I,rfl,q1 (r2.nil_iff.mp z)⟩) (fun z=>?_) (by rw [<-r1.length,<-r2.length];exact hz)
 refine⟨.ref s.heap.objs.size,_,I.laid (t':=s.toks) (o:=.tup (xs++ys)) (fun b ob q=>YaW _ q) (YaY _) ?_,rfl,q2 (fun w=>z (r2.nil_iff.mpr w)) _ (I.hok.fresh (YaY _))⟩
 exact⟨by rw [YaS];exact hz,_,r1.append r2,IsTup.new _ _⟩
end
def ixN(n:Nat)(i:Int):Option Nat:=if 0<=i then(if i<n then some i.toNat else none) else if -(n:Int)<=i then some (i+n).toNat else none
def atI{α : Type}(xs:List α)(i:Int):Option α:=(ixN xs.length i).bind fun j=>xs[j]?
theorem zfG{n:Nat}{i:Int}{j:Nat}(h:ixN n i=some j):seqIndex? i n=some j/\j<n/\-(n:Int)<=i/\i<n:=by
 unfold ixN at h
 by_cases h0:0<=i
 . rw [if_pos h0] at h
   by_cases h1:i<n
   . rw [if_pos h1] at h
     have e:i.toNat=j:=Wbe h;exact⟨by rw [seqIndex_of h0 h1,e],#[0],#[0],h1⟩
   . rw [if_neg h1] at h;cases h
 . rw [if_neg h0] at h
   by_cases h1:-(n:Int)<=i
   . rw [if_pos h1] at h
     have e:(i+n).toNat=j:=Wbe h;exact⟨by rw [seqIndex_neg #[0] h1,e],#[0],h1,#[0]⟩
   . rw [if_neg h1] at h;cases h
theorem zbo{α : Type}{xs:List α}{i:Int}{v:α}(h:atI xs i=some v):∃ j,seqIndex? i xs.length=some j/\xs[j]?=some v/\j<xs.length/\-(xs.length:Int)<=i/\i<xs.length:=by
 unfold atI at h;cases e:ixN xs.length i with
 | none=>rw [e] at h;cases h
 | some j=>
  rw [e] at h;obtain⟨h1,h2,h3,h4⟩:=zfG e;exact⟨j,h1,h,h2,h3,h4⟩
theorem JQ{α : Type}{xs:List α}{j:Nat}{v:α}(h:xs[j]?=some v):atI xs (j:Int)=some v:=by
 have hj:j<xs.length:=(Ya8.mp h).1;have e:ixN xs.length (j:Int)=some j:=by
  unfold ixN;rw [if_pos #[0],if_pos #[0]];simp
 unfold atI;rw [e];exact h
theorem zec{α : Type}(xs:List α)(v:α):atI (xs++[v]) (-1)=some v:=by
 have hl:(xs++[v]).length=xs.length+1:=by simp
 have e:ixN (xs++[v]).length (-1)=some xs.length:=by
  unfold ixN;rw [hl,if_neg #[1],if_pos #[0]]
  congr 1
  omega
 unfold atI;rw [e];show(xs++[v])[xs.length]?=some v
 simp
def zdU(b:Expr):Prop:=∀ o i,subscripted b false o i=operate [o,i] (getItem o i)
def IxR(X:Cx)(r:R2):Prop:=
 ∀ (value slice:Expr) (pins:List (Addr×Obj)) (s:Shared) (σ : St) (H:Hp) (x y:V) (v u:Value) (Q:VK),Inv X pins σ H s->RelV x v->RelV y u->r x y H Q->
  subscripted slice false v u=operate [v,u] (getItem v u)->wpAny (model X.prog X.w) X.A (subscriptTail value slice v u) (EP X pins σ Q) X.xe s
def MtR(X:Cx)(id:String)(r:V->List V->Hp->VK->Prop):Prop:=
 ∀ (pins:List (Addr×Obj)) (s:Shared) (σ : St) (H:Hp) (x:V) (xs:List V) (v:Value) (us:List Value) (Q:VK),Inv X pins σ H s->RelV x v->Vals xs us->r x xs H Q->
  wpAny (model X.prog X.w) X.A (call (.builtin id) (v::us)) (EP X pins σ Q) X.xe s
section
variable{X:Cx}{a b:Expr}{ta tb:TE}{pos:Pos}
theorem IxR.or{r r':R2}(h:IxR X r)(h':IxR X r'):IxR X (fun x y H Q=>r x y H Q\/r' x y H Q):=by
 intro value slice pins s σ H x y v u Q I rx ry q hs
 rcases q with q|q
 . exact h value slice pins s σ H x y v u Q I rx ry q hs
 . exact h' value slice pins s σ H x y v u Q I rx ry q hs
theorem MtR.or{id:String}{r r':V->List V->Hp->VK->Prop}(h:MtR X id r)(h':MtR X id r'):MtR X id (fun x xs H Q=>r x xs H Q\/r' x xs H Q):=by
 intro pins s σ H x xs v us Q I rx rs q
 rcases q with q|q
 . exact h pins s σ H x xs v us Q I rx rs q
 . exact h' pins s σ H x xs v us Q I rx rs q
theorem ziA{r:R2}(hr:IxR X r)(ha:PE X a ta)(hb:PE X b tb)(hs:zdU b):PE X (.Subscript a b pos) (tOp r ta tb):=by
 intro pins s σ H Q I h;exact Subscript_ (binT ha hb I h fun v u s2 x y H2 I2 rx ry q=>hr a b pins s2 σ H2 x y v u Q I2 rx ry q (hs _ _))
def rIxL(K:Ybf):R2:=fun x y H Q=>∃ p xs i v,x=.ref p/\y=.int i/\SqL K H p xs/\atI xs i=some v/\Q v H
def rIxT(K:Ybf):R2:=fun x y H Q=>∃ p xs i v,x=.ref p/\y=.int i/\SqT K H p xs/\atI xs i=some v/\Q v H
def rIxS:R2:=fun x y H Q=>∃ z i c,x=.str z/\y=.int i/\z.length<=sizeLine/\atI z.cps.toList i=some c/\Q (.str ⟨#[c]⟩) H
theorem zmR:IxR X (rIxL X.K):=by
 intro value slice pins s σ H x y v u Q I rx ry h hs;obtain⟨p,xs,i,z,rfl,rfl,hq,he,q⟩:=h;cases rx;obtain⟨t,rfl⟩:=ry;obtain⟨its,r,pl,hz⟩:=I.list hq;obtain⟨j,h1,h2,h3,h4,h5⟩:=zbo he;obtain⟨w,ew,rw'⟩:=r.get h2;have hl:=r.length;have hn:=ZY;have fin:EP X pins σ Q w s:=⟨z,H,I,rw',q⟩
 by_cases h0:0<=i
 . have hj:i.toNat=j:=by
    rw [seqIndex_of h0 h5] at h1;exact Wbe h1
   exact item_listR pl.isList h0 #[0] (by rw [hj];simpa using ew) fin hs
 . have hj:(i+(its.toArray.size:Int)).toNat=j:=by
    rw [seqIndex_neg #[0] h4] at h1
    rw [YaZ,<-hl];exact Wbe h1
   exact subscriptTail_builtinR (x:=w) pl.isList.typeIs slot_list_getitem.lookup
    (wpAny_getItem_list_neg (Q:=fun r s'=>r=w/\EP X pins σ Q r s') pl.isList #[0] (by rw [YaZ]<;>omega) #[0] (by rw [hj];simpa using ew) ⟨rfl,fin⟩) hs
theorem zfY:IxR X (rIxT X.K):=by
 intro value slice pins s σ H x y v u Q I rx ry h hs;obtain⟨p,xs,i,z,rfl,rfl,hq,he,q⟩:=h;cases rx;obtain⟨t,rfl⟩:=ry;obtain⟨its,r,pl,hz⟩:=I.tuple hq;obtain⟨j,h1,h2,h3,h4,h5⟩:=zbo he;obtain⟨w,ew,rw'⟩:=r.get h2;have hl:=r.length;have hn:=ZY;have fin:EP X pins σ Q w s:=⟨z,H,I,rw',q⟩;exact subscriptTail_builtinR (x:=w) pl.typeIs slot_tuple_getitem.lookup
  (getItem_tuple (j:=j) (Q:=fun r s'=>r=w/\EP X pins σ Q r s') pl #[0] #[0] (by rw [YaZ,<-hl];exact h1) (by simpa using ew) ⟨rfl,fin⟩) hs
theorem zl0:IxR X rIxS:=by
 intro value slice pins s σ H x y v u Q I rx ry h hs;obtain⟨z,i,c,rfl,rfl,hz,he,q⟩:=h;obtain⟨t,rfl⟩:=rx;obtain⟨t',rfl⟩:=ry;obtain⟨j,h1,h2,h3,h4,h5⟩:=zbo he;have hl:z.cps.toList.length=z.length:=by simp [Str.length]
 rw [hl] at h1 h4 h5;have hn:=ZY;exact tail_any (typeIs_str s z t) slot_str_getitem.lookup (getItem_str (c:=c) (by
  have e1:decide (i < -(2 ^ 63:Int))=false:=decide_eq_false #[0]
  have e2:decide (i>=2 ^ 63)=false:=decide_eq_false #[0]
  rw [e1,e2,Wbp]) (by rw [h1];simpa using h2) ⟨.str ⟨#[c]⟩,H,I.tok _,⟨_,rfl⟩,q⟩) hs
def rIx(K:Ybf):R2:=fun x y H Q=>rIxL K x y H Q\/rIxT K x y H Q\/rIxS x y H Q
theorem zf6:IxR X (rIx X.K):=zmR.or (zfY.or zl0)
theorem zjk(its:List Value)(n j:Nat)(u:Value):Obj.mapSeq (·.setIfInBounds j u) { cls:=.type "list", data:=.seq its.toArray n } = { cls:=.type "list", data:=.seq (its.set j u).toArray n }:=by
 simp [Obj.mapSeq]
theorem Inv.lst{pins:List (Addr×Obj)}{σ : St}{H:Hp}{s:Shared}{p:Addr}{xs:List V}(I:Inv X pins σ H s)(h:H p=some (.lst xs)) :
 ∃ (its:List Value) (n:Nat),Vals xs its/\s.heap.get? p=some { cls:=.type "list", data:=.seq its.toArray n }/\xs.length<=sizeLine:=by
 obtain⟨z,its,n,r,e⟩:=I.hok p _ h;exact⟨its,n,r,e,z⟩
theorem Inv.lstUpd{pins:List (Addr×Obj)}{σ : St}{H:Hp}{s:Shared}{p:Addr}{xs ys:List V}{its its':List Value}{n n':Nat}{f:Obj->Obj}(I:Inv X pins σ H s)(h:H p=some (.lst xs))
 (ho:s.heap.get? p=some { cls:=.type "list", data:=.seq its.toArray n }) (hf:f { cls:=.type "list", data:=.seq its.toArray n } = { cls:=.type "list", data:=.seq its'.toArray n' }) (r:Vals ys its') (hz:ys.length<=sizeLine) (t:Nat) :
 Inv X pins σ (upd H p (.lst ys)) { s with heap:=s.heap.update p f,toks:=t }:=by
 have e:(s.heap.update p f).get? p=some { cls:=.type "list", data:=.seq its'.toArray n' }:=by
  rw [Heap.get?_update_self f ho (by rw [hf]<;>rfl),hf]
 refine I.write (x:=p) (e:=p) (by rw [h];trivial) (.inl rfl) (fun b u hb q=>(Heap.get?_update_other _ _ (WbL hb)).trans q) ⟨_,e⟩ ?_
 exact⟨hz,its',n',r,e⟩
def rSetL:V->V->V->Hp->(Hp->Prop)->Prop:=fun o i v H Q=>∃ p xs k j,o=.ref p/\i=.int k/\H p=some (.lst xs)/\ixN xs.length k=some j/\Q (upd H p (.lst (xs.set j v)))
theorem zjB:PSet X rSetL:=by
 intro pins s σ H o i v ov iv u Q I ro ri rv h;obtain⟨p,xs,k,j,rfl,rfl,hp,hj,q⟩:=h;cases ro;obtain⟨t,rfl⟩:=ri;obtain⟨its,n,r,ho,hz⟩:=I.lst hp;obtain⟨h1,h2,h3,h4⟩:=zfG hj;have hl:=r.length;have hn:=ZY;have I':Inv X pins σ (upd H p (.lst (xs.set j v))) { s with heap:=s.heap.update p (Obj.mapSeq (·.setIfInBounds j u)) }:=
  I.lstUpd hp ho (zjk its n j u) (r.set rv j) (by rw [YaN];exact hz) s.toks
 by_cases h0:0<=k
 . have hk:k.toNat=j:=by
    rw [seqIndex_of h0 h4] at h1;exact Wbe h1
   exact PySem.W.ki_setAt ho h0 #[0] (by rw [YaZ,<-hl];exact h4) (by rw [hk];exact⟨_,I',q⟩)
 . have hk:(k+(its.toArray.size:Int)).toNat=j:=by
    rw [seqIndex_neg #[0] h3] at h1
    rw [YaZ,<-hl];exact Wbe h1
   exact PySem.W.ki_setBack ho #[0] (by rw [YaZ,<-hl];exact h3) #[0] (by rw [hk];exact⟨_,I',q⟩)
theorem zi4(lo hi:Option Int)(n:Nat):(sliceBounds lo hi none n).1=((HT.sIx n 0 lo:Nat):Int)/\(sliceBounds lo hi none n).2.1=((HT.sIx n n hi:Nat):Int)/\(sliceBounds lo hi none n).2.2=1:=by
 refine⟨?_,?_,rfl⟩
 . cases lo with
   | none=>simp [sliceBounds,HT.sIx]
   | some i=>
    simp only [sliceBounds,HT.sIx,Option.getD_none,show(1:Int) > 0 by decide,if_true]
    by_cases h:i<0
    . simp only [h,if_true]<;>omega
    . simp only [h,if_false]<;>omega
 . cases hi with
   | none=>simp [sliceBounds,HT.sIx]
   | some i=>
    simp only [sliceBounds,HT.sIx,Option.getD_none,show(1:Int) > 0 by decide,if_true]
    by_cases h:i<0
    . simp only [h,if_true]<;>omega
    . simp only [h,if_false]<;>omega
theorem zgF(its:List Value)(lo hi:Option Int):slicePick its.toArray lo hi none=((its.drop (HT.sIx its.length 0 lo)).take (HT.sIx its.length its.length hi - HT.sIx its.length 0 lo)).toArray:=by
 obtain⟨h1,h2,h3⟩:=zi4 lo hi its.toArray.size;unfold slicePick;rw [h1,h2,h3];simp only [sliceRange_one,pick_run,YaZ]<;>rfl
def rSlL(K:Ybf):V->Option Int->Option Int->Hp->VK->Prop:=fun x lo hi H Q=>∃ a xs,x=.ref a/\SqL K H a xs/\∀ p,H p=none->Q (.ref p) (upd H p (.lst (cutV xs lo hi)))
theorem zgx:SlR X (rSlL X.K):=by
 intro pins s σ H x v vl vu lo hi sl Q I rx hs pl pu h;obtain⟨a,xs,rfl,hx,q⟩:=h;cases rx;obtain⟨its,r,ht,hz⟩:=I.list hx;have hlen:=r.length;refine⟨"list", _,slot_list_getitem.lookup,ht.isList.typeIs,?_⟩;refine wpAny_getItem_list_slice ht.isList hs pl pu .none (by simp) ?_ (by rw [YaZ]<;>omega)
 rw [zgF,<-hlen];refine⟨.ref s.heap.objs.size,_,I.laid (t':=s.toks) (o:=.lst (cutV xs lo hi)) (fun b ob q=>YaW _ q) (YaY _) ?_,rfl,q _ (I.hok.fresh (YaY _))⟩
 exact⟨Ya5 (zeW xs lo hi) hz,_,0,(r.drop (HT.sIx xs.length 0 lo)).take (HT.sIx xs.length xs.length hi - HT.sIx xs.length 0 lo),Yan _ rfl⟩
theorem zi2:zH X (.builtin "len") (fun xs H Q=>∃ p ys,xs=[.ref p]/\(SqL X.K H p ys\/SqT X.K H p ys)/\Q (.int ys.length) H):=by
 intro pins s σ H xs us Q I r h;obtain⟨p,ys,rfl,hq,q⟩:=h;obtain⟨u,rfl,rx⟩:=jT r;cases rx;have hn:=ZY
 rcases hq with hq|hq
 . obtain⟨its,r',pl,hz⟩:=I.list hq
   have hlen:=r'.length;exact Calls.call_len_list pl.isList (by simp only [YaZ]<;>omega) ⟨.int ys.length,H,I.tok _,⟨s.toks+1,by rw [YaZ,hlen]⟩,q⟩
 . obtain⟨its,r',pl,hz⟩:=I.tuple hq
   have hlen:=r'.length;exact len_tuple pl (by simp only [YaZ]<;>omega) ⟨.int ys.length,H,I.tok _,⟨s.toks+1,by rw [YaZ,hlen]⟩,q⟩
theorem zkC:zH X (.builtin "len") (fun xs H Q=>∃ z,xs=[.str z]/\z.length<=sizeLine/\Q (.int z.length) H):=by
 intro pins s σ H xs us Q I r h;obtain⟨z,rfl,hz,q⟩:=h;obtain⟨u,rfl,t,rfl⟩:=jT r;have hn:=ZY;exact len_str #[0] ⟨.int z.length,H,I.tok _,⟨_,rfl⟩,q⟩
theorem zH.or{f:Value}{r r':List V->Hp->VK->Prop}(h:zH X f r)(h':zH X f r'):zH X f (fun xs H Q=>r xs H Q\/r' xs H Q):=by
 intro pins s σ H xs us Q I rs q
 rcases q with q|q
 . exact h pins s σ H xs us Q I rs q
 . exact h' pins s σ H xs us Q I rs q
def tyV(K:Ybf)(T:String)(x:V)(H:Hp):Prop:=match x with
 | .str _=>T = "str"
 | .int _=>T = "int"
 | .ref p => (T = "list" /\ ∃ xs, SqL K H p xs) \/ (T = "tuple" /\ ∃ o, K.lookup p = some o /\ o.cls = .type "tuple" /\ o.dict = none) \/
  (T = "dict"/\((∃ kvs,H p=some (.dK kvs))\/∃ kvs,H p=some (.dT kvs)))\/(T = "set"/\∃ S n,H p=some (.set S n))
 | _=>False
theorem zjl{pins:List (Addr×Obj)}{σ : St}{H:Hp}{s:Shared}{T:String}{x:V}{v:Value}(I:Inv X pins σ H s)(r:RelV x v)(ty:tyV X.K T x H) :
 s.TypeIs v T/\∀ a,v=.ref a->∃ ob,s.heap.get? a=some ob/\ob.dict=none:=by
 cases x with
 | str z=>
  obtain⟨t,rfl⟩:=r;cases(show T = "str" from ty)
  exact⟨typeIs_str s z t,fun _ e=>nomatch e⟩
 | int i=>
  obtain⟨t,rfl⟩:=r;cases(show T = "int" from ty)
  exact⟨typeIs_int s i t,fun _ e=>nomatch e⟩
 | ref p=>
  cases r
  rcases ty with ⟨rfl,xs,hq⟩|⟨rfl,o,hk,hc,hd⟩|⟨rfl,hk⟩|⟨rfl,S,n,hk⟩
  . obtain⟨its,_,pl,_⟩:=I.list hq
    refine⟨pl.isList.typeIs,fun a e=>?_⟩
    cases e;obtain⟨o,n,e,c,hd,_⟩:=pl
    exact⟨o,e,hd⟩
  . refine⟨⟨o,I.kIn p o hk,hc⟩,fun a e=>?_⟩
    cases e;exact⟨o,I.kIn _ o hk,hd⟩
  . have z:∃ o,s.heap.get? p=some o/\o.ExactDict:=by
     rcases hk with ⟨kvs,hk⟩|⟨kvs,hk⟩
     . obtain⟨_,_,_,_,o,_,_,e,ex,_⟩:=I.hok p _ hk
       exact⟨o,e,ex⟩
     . obtain⟨_,_,_,_,o,_,_,e,ex,_⟩:=I.hok p _ hk
       exact⟨o,e,ex⟩
    obtain⟨o,e,ex⟩:=z;refine⟨⟨o,e,ex.1⟩,fun a e2=>?_⟩
    cases e2;exact⟨o,e,ex.2.1⟩
  . obtain⟨o,_,_,_,e,ex,_⟩:=I.hok p _ hk
    refine⟨⟨o,e,ex.1⟩,fun a e2=>?_⟩
    cases e2;exact⟨o,e,ex.2.1⟩
 | _=>exact False.elim ty
def tBM(K:Ybf)(T:String)(r:V->List V->Hp->VK->Prop)(to:TE)(t:TA):TE:=fun σ H Q=>to σ H fun x H1=>tyV K T x H1/\t σ H1 fun xs H2=>r x xs H2 Q
variable{o e:Expr}{es:List Expr}{to:TE}{t:TA}{name:Str}{apos cpos:Pos}{T id:String}{r:V->List V->Hp->VK->Prop}
theorem zby(pa:PlainAttrs T)(slot:Slot T name id)(hty:typeOf (.builtin id)=pure (.type "method_descriptor"))(hm:MtR X id r)(ho:PE X o to)(ha:PA X (e::es) t)
 (hbase:attributeBase o name X.env (eval o X.env)=eval o X.env:=by rfl)
 (hfew:((backTo cpos (starEach (e::es) X.env)).all (fun x=>!x.1)&&(backToKw cpos (keywordEach [] X.env)).all (fun x=>x.1.isSome)
  && decide ((e::es).length+([]:List Keyword).length+(if([]:List Keyword).isEmpty then 0 else 1)<30))=true:=by rfl)
 (hline:(apos.endLine==cpos.line)=true:=by rfl) (hs:starEach (e::es) X.env=(false,eval e X.env)::starEach es X.env:=by rfl) (hplain:(backTo cpos (starEach es X.env)).any (·.1)=false:=by rfl) :
 PE X (.Call (.Attribute o name apos) (e::es) [] cpos) (tBM X.K T r to t):=by
 intro pins s σ H Q I h;refine wpAny_Call_method_late hbase hfew hline rfl (thn (ho pins s σ H _ I h) fun v s1 ⟨x,H1,I1,r1,ty,q1⟩=>?_)
 obtain⟨h1,h2⟩:=zjl I1 r1 ty;refine⟨T,id,pa,slot,hty,h1,h2,?_⟩;have hA:=ha cpos pins s1 σ H1 _ I1 q1;rw [hs] at hA ⊢;refine Calls.callWith_builtin (by show(false||(backTo cpos (starEach es X.env)).any (·.1))=false;rw [hplain]<;>rfl) (Calls.evalArgs_plain ?_)
 exact thn hA fun us s2 ⟨vs,H2,I2,r2,q2⟩=>hm pins s2 σ H2 x vs v us Q I2 r1 r2 q2
end
def MtM(X:Cx)(id:String)(r:V->List V->Hp->VK->Prop):Prop:=
 ∀ (pins:List (Addr×Obj)) (s:Shared) (σ : St) (H:Hp) (x:V) (xs:List V) (v:Value) (us:List Value) (Q:VK),Inv X pins σ H s->RelV x v->Vals xs us->r x xs H Q->
  wpAny (model X.prog X.w) X.A (call (.builtin id) (v::us)) (EP X pins σ Q) X.xe s
theorem Vals.one:∀ {x:V} {us:List Value},Vals [x] us->∃ u,us=[u]/\RelV x u
 | _,_,.cons r .nil=>⟨_,rfl,r⟩
theorem Vals.zero:∀ {us:List Value},Vals [] us->us=[]
 | _,.nil=>rfl
theorem Vals.eraseIdx:∀ {xs:List V} {us:List Value} (i:Nat),Vals xs us->Vals (xs.eraseIdx i) (us.eraseIdx i)
 | _,_,_,.nil=>.nil
 | _,_,0,.cons _ t=>t
 | _,_,i+1,.cons r t=>.cons r (Vals.eraseIdx i t)
theorem Vals.rep{xs:List V}{us:List Value}(h:Vals xs us):∀ k:Nat,Vals (List.replicate k xs).flatten (List.replicate k us).flatten
 | 0=>.nil
 | k + 1 => by
  rw [List.replicate_succ,List.replicate_succ,List.flatten_cons,List.flatten_cons];exact Vals.append h (Vals.rep h k)
theorem zda{α : Type}:∀ (l:List α) (i:Nat),(l.eraseIdx i).length<=l.length
 | [],_=>YaY _
 | _::_,0=>Nat.le_succ _
 | _::r,i+1=>Nat.succ_le_succ (zda r i)
theorem zbF(its:List Value):∀ (k:Nat) (acc:List Value),
 List.foldl (fun x1 x2=>x1++x2) acc.toArray (List.replicate k its.toArray)=(acc++(List.replicate k its).flatten).toArray
 | 0,acc=>by simp
 | k + 1, acc => by
  have e:acc.toArray++its.toArray=(acc++its).toArray:=by simp
  have e2:(acc++its)++(List.replicate k its).flatten=acc++(List.replicate (k+1) its).flatten:=by
   rw [List.replicate_succ,List.flatten_cons,Yag]
  rw [<-e2,<-zbF its k (acc++its),<-e,List.replicate_succ,List.foldl_cons]
section
variable{X:Cx}{pins:List (Addr×Obj)}{σ : St}{H:Hp}{s:Shared}{l b:Addr}{xs ys zs:List V}
theorem Inv.lset{its its':List Value}{n:Nat}{f:Array Value->Array Value}{t':Nat}(I:Inv X pins σ H s)(hH:H l=some (.lst xs))
 (e:s.heap.get? l=some { cls:=.type "list", data:=.seq its.toArray n }) (hf:f its.toArray=its'.toArray) (hv:Vals ys its') (hz:ys.length<=sizeLine) :
 Inv X pins σ (upd H l (.lst ys)) { s with heap:=s.heap.update l (Obj.mapSeq f),toks:=t' }:=by
 have q:=PySem.IsL.update e f;rw [hf] at q;refine I.write (x:=l) (e:=l) (by rw [hH];exact trivial) (.inl rfl) (fun b' u hb hu=>(Heap.get?_update_other s.heap (Obj.mapSeq f) (WbL hb)).trans hu) ⟨_,q⟩ ?_
 exact⟨hz,its',_,hv,q⟩
theorem Inv.lnew{its:List Value}{t':Nat}(I:Inv X pins σ H s)(hv:Vals ys its)(hz:ys.length<=sizeLine) :
 Inv X pins σ (upd H s.heap.objs.size (.lst ys)) { s with heap:=s.heap.push { cls:=.type "list", data:=.seq its.toArray },toks:=t' }:=
 I.laid (fun _ _ q=>YaW _ q) (YaY _) ⟨hz,its,0,hv,Yan _ rfl⟩
theorem Inv.fresh(I:Inv X pins σ H s):H s.heap.objs.size=none:=I.hok.fresh (YaY _)
theorem Inv.lstM(I:Inv X pins σ H s)(hH:H l=some (.lst xs)):xs.length<=sizeLine/\∃ (its:List Value) (n:Nat),Vals xs its/\xs.length=its.length/\s.heap.get? l=some { cls:=.type "list", data:=.seq its.toArray n }:=by
 obtain⟨z,its,n,r,e⟩:=I.hok l _ hH;exact⟨z,its,n,r,r.length,e⟩
theorem zmS{n:Nat}(h:n<=sizeLine):Builtin.List.listTooLong n=false:=by
 unfold Builtin.List.listTooLong;exact decide_eq_false #[0]
end
section
variable{X:Cx}
def rAppend:V->List V->Hp->VK->Prop:=fun x vs H Q=>∃ l xs y,x=.ref l/\vs=[y]/\H l=some (.lst xs)/\xs.length<sizeLine/\Q .non (upd H l (.lst (xs++[y])))
theorem zex:MtM X "list.append" rAppend:=by
 intro pins s σ H x vs v us Q I rx rv h;obtain⟨l,xs,y,rfl,rfl,hH,hz,q⟩:=h;cases rx;obtain⟨u,rfl,ru⟩:=rv.one;obtain⟨z,its,n,r,hl,e⟩:=I.lstM hH;refine call_meets F.slot_list_append ⟨_,e,rfl⟩ F.entry_list_append (F.args_list_append_2 _ _) (PySem.list_append l its.toArray n u (by rw [YaZ];omega)) ⟨e,?_⟩
 refine⟨.non,_,I.lset (its':=its++[u]) hH e (by simp) (r.append (.cons ru .nil)) ?_,rfl,q⟩
 rw [YaS,List.length_singleton]
 omega
def rExtend:V->List V->Hp->VK->Prop:=fun x vs H Q=>∃ l b xs zs,x=.ref l/\vs=[.ref b]/\H l=some (.lst xs)/\H b=some (.lst zs)/\xs.length+zs.length<=sizeLine/\Q .non (upd H l (.lst (xs++zs)))
theorem zl6:MtM X "list.extend" rExtend:=by
 intro pins s σ H x vs v us Q I rx rv h;obtain⟨l,b,xs,zs,rfl,rfl,hH,hB,hz,q⟩:=h;cases rx;obtain⟨u,rfl,ru⟩:=rv.one;cases ru;obtain⟨z,its,n,r,hl,e⟩:=I.lstM hH;obtain⟨z2,its2,n2,r2,hl2,e2⟩:=I.lstM hB;have hsz:its.toArray.size+its2.toArray.size<=sizeLine:=by rw [YaZ,YaZ];omega
 have hlong:¬(!its.toArray.isEmpty&&Builtin.List.listTooLong (its.toArray.size+its2.toArray.size))=true:=by
  rw [zmS hsz,Bool.and_false];exact Yal
 refine call_meets F.slot_list_extend ⟨_,e,rfl⟩ F.entry_list_extend (F.args_list_extend_2 _ _)
  (AutoSeq1.list_extend_list_list_0 l its.toArray n b its2.toArray n2 hlong (by rw [YaZ];omega) #[0]) ⟨e,e2,?_⟩
 refine⟨.non,_,I.lset (its':=its++its2) hH e (by simp) (r.append r2) ?_,rfl,q⟩
 rw [YaS]
 omega
def rPopAt:V->List V->Hp->VK->Prop:=fun x vs H Q=>∃ l xs i k y,x=.ref l/\vs=[.int i]/\H l=some (.lst xs)/\-(2 ^ 63)<=i/\i<2 ^ 63/\seqIndex? i xs.length=some k/\xs[k]?=some y/\Q y (upd H l (.lst (xs.eraseIdx k)))
theorem zlo:MtM X "list.pop" rPopAt:=by
 intro pins s σ H x vs v us Q I rx rv h;obtain⟨l,xs,i,k,y,rfl,rfl,hH,h1,h2,hk,hy,q⟩:=h;cases rx;obtain⟨u,rfl,ru⟩:=rv.one;obtain⟨t,rfl⟩:=ru;obtain⟨z,its,n,r,hl,e⟩:=I.lstM hH;obtain⟨w,hw,rw'⟩:=r.get hy;refine call_meets F.slot_list_pop ⟨_,e,rfl⟩ F.entry_list_pop (F.args_list_pop_2 _ _)
  (MeetsSeq.list_pop_at l its.toArray n i t k w (fitsIndex_both h1 h2) (by rw [YaZ,<-hl];exact hk) (by rw [<-Waw];exact hw) (by rw [YaZ];omega)) ⟨e,?_⟩
 refine⟨y,_,I.lset (its':=its.eraseIdx k) hH e ?_ (r.eraseIdx k) ?_,rw',q⟩
 . show its.toArray.eraseIdxIfInBounds k=(its.eraseIdx k).toArray
   rw [List.eraseIdxIfInBounds_toArray]
 . have:=zda xs k
   omega
theorem zdP{α : Type}(xs:List α)(k:Nat):(List.replicate k xs).flatten.length=k*xs.length:=by
 induction k with
 | zero=>simp
 | succ k ih=>rw [List.replicate_succ,List.flatten_cons,YaS,ih,Nat.succ_mul,Nat.add_comm]
end
section
variable{prog:Program}{w:World}{A:Around}{E:Value->Shared->Prop}{s:Shared}
end
section
variable{X:Cx}
end
end L2
namespace Att
open PySem PySem.W PySem.Calls PyProof.Rows
theorem zjr{P:Params}{h:Heap}:∀ (ns:List Int) (vs:List Value),WellAll P h vs (ns.map WData.int)->IntsAre vs ns:=by
 intro ns
 induction ns with
 | nil=>
  intro vs w;rw [Wbz] at w;cases w;exact .nil
 | cons n ns ih=>
  intro vs w;rw [Ya1] at w;cases w with
  | cons a b=>
   cases a;exact .cons _ _ (ih _ b)
theorem zhr{l:OpenLaw}{n:Nat}(hn:l.most=some n){P:Params}{h:Heap}{args:List WData}{vals:List Value}
 (hpre:l.row.toRowW.claim.pre args=true) (hwl:WellAll P h vals args) :
 ∃ a vs ns,vals=[Value.ref a]/\args=[WData.list (ns.map WData.int)]/\h.get? a=some { cls:=.type "list", data:=.seq vs.toArray }/\IntsAre vs ns/\ns.length<=n:=by
 have hsh:WShape.hasAll [] args [.list .int]=true:=(pre_splitW hpre).1;have hc:l.pre.holds [] { args:=args }=true:=(pre_splitW hpre).2;obtain⟨d,r,rfl,h1,h2⟩:=hasAllW_cons hsh;obtain rfl:=hasAllW_nil h2;obtain⟨xs,rfl,h3⟩:=hasW_list h1;obtain⟨ns,rfl⟩:=items_int h3;have hlen:ns.length<=n:=by
  unfold OpenLaw.pre at hc;have h4:(WTm.not (.lt (.lit (.int (n:Int))) (.len (.arg 0)))).holds [] { args:=[.list (ns.map .int)] }=true:=by
   have h4:=(holds_andW hc).1;rw [hn] at h4;exact h4
  have h5:=condW_of h4 (w_not (w_lt w_lit (w_len_list (w_arg rfl))));rw [YaR] at h5;refine Nat.le_of_not_lt fun q=>?_
  have q':(n:Int)<((ns.length:Nat):Int):=#[0]
  first
   | (rw [decide_eq_true q'] at h5;exact absurd h5 #[1])
   | (simp at h5;omega)
 cases hwl with
 | cons w1 w2=>
  cases w2;cases w1 with
  | list ho hall=>exact⟨_,_,ns,rfl,rfl,ho,zjr ns _ hall,hlen⟩
theorem znm(l:OpenLaw)(args:List WData):l.row.toRowW.claim.post args (.bool true) args=true:=
 postW_of (r:=l.row.toRowW) (X:=(true==true))
  (show WShape.has [] (.bool true) .bool=true by first|rfl|decide|simp [WShape.has,WShape.arms,WShape.armsAll])
  (show(WTm.eq .res (.lit (.bool true))).value [] { args:=args,res:=some (.bool true),after:=args }=some (.bool (true==true)) from w_eq_bool (w_res rfl) w_lit) rfl
theorem attach_call{l:OpenLaw}{n:Nat}{q:Program}{loose:List Str}{XP:(Str->Option Value)->Heap->Prop}{YP:World->Heap->Prop}{d:DefRec}
 (hn:l.most=some n) (hdf:d.params.defaults=[])
 (call:∀ (w:World) (s₀ s₁ : Shared) (mg mb:Str->Option Value) (fa:Addr) (o:Obj) (pm cd doc:Value) (a:Addr) (vs:List Value) (ns:List Int),
  Ground q loose [] XP w s₀ mg mb s₁.heap->YP w s₁.heap->
  s₁.heap.get? fa=some o->o.data=.func (docDef d.name d.params d.body d.scope pm cd doc)->s₁.heap.CodeRec cd d.name->mg d.name=some (.ref fa)->
  s₁.heap.get? a=some { cls:=.type "list", data:=.seq vs.toArray }->IntsAre vs ns->ns.length<=n->s₁.gens = #[]->
  codeAny (model l.prog w) callerA (.call (.ref fa) ⟨[.ref a],[]⟩) (fun r s'=>r=.ok (.ret (.bool true))/\OldK s₁.heap s'.heap/\s'.os=s₁.os/\AllBare s'.gens) s₁) :
 WalkO q loose XP YP l.row.toRowW d [] (fun f vs=>PySem.call f vs):=by
 intro w s₀ s₁ mg mb G Y fa o pm cd doc dV kV ho hd hcd hD hmg hg args vals as hpre hlay hrd hwl hlo;obtain rfl:dV=.none:=Dflts.none hD hdf;obtain rfl:kV=.none:=Dflts.noKw hD;obtain⟨a,vs,ns,rfl,rfl,hobj,hints,hlen⟩:=zhr hn hpre hwl;refine enter_call (codeAny_mono (call w s₀ s₁ mg mb fa o pm cd doc a vs ns G Y ho (fd_plain hd) hcd hmg hobj hints hlen hg) fun r s' hq=>?_)
 obtain⟨rfl,h2,h3,h4⟩:=hq;exact⟨.inl ⟨.bool true,.bool true,[],rfl,fun _=>rfl,.bool true,znm l _,fun _=>⟨List.Pairwise.nil,fun _ hm=>(nomatch hm)⟩⟩,h2,h3,h4⟩
section
variable{prog:Program}{w:World}{A:Around}{E:Value->Shared->Prop}{s:Shared}{K:Frag}
end
end Att
namespace L2
open PySem PySem.Spec PyProof.Rows
theorem zbY:∀ {vs:List Value} {ns:List Int},IntsAre vs ns->Vals (ns.map V.int) vs
 | _,_,.nil=>.nil
 | _,_,.cons n t h=>.cons ⟨t,rfl⟩ (zbY h)
def zx(s:Stmt):Arguments:=match s with
 | .FunctionDef _ a _ _ _ _ _ _ _ _=>a
 | _=>{ posonlyargs:=[],args:=[],vararg:=none,kwonlyargs:=[],kw_defaults:=[],kwarg:=none,defaults:=[] }
def zp(s:Stmt):List Stmt:=match s with
 | .FunctionDef _ _ b _ _ _ _ _ _ _=>b
 | _=>[]
def ze(s:Stmt):Scope:=match s with
 | .FunctionDef _ _ _ _ _ _ sc _ _ _=>sc
 | _=>{ kind:=.function,names:=[],isGenerator:=false,isCoroutine:=false }
abbrev CX0:CXT:=fun _ _ _ _ _ _=>False
structure Fun(K:Ybf)(x qual:Str)(st:Stmt)(f:Addr)(fd:FuncData):Prop where
 ex:∃ (oc:Value) (od:Option Addr) (kV doc pm:Value) (an:Option Addr) (cdv ct:Value) (osl:Array (Option Value)),
  fd=PySem.W.fnOf x qual (zx st) (zp st) (ze st) .none kV doc pm an cdv ct/\K.lookup f=some ⟨oc,od,.func fd,osl⟩/\PySem.W.codeIn K cdv qual=true
 kp:PySem.W.keepIn K (.ref f)=true
section
variable{P:Program}{w:World}{K:Ybf}{mg:Str->Option Value}{base:Heap}
theorem Fun.ok{x qual:Str}{st:Stmt}{f:Addr}{fd:FuncData}{N ps:List Str}{k:Nat}{sp:Sp}(F:Fun K x qual st f fd)(S:FnScope N ps (ze st))(len:∀ vs H Q E,sp vs H Q E->vs.length=ps.length)
 (hbody:∀ (cdv:Value) (A:Around) (outer:List Env) (s:Shared) (H:Hp) (vs:List V) (Q:VK) (E:XK),Room k (A.deeper (envOfC qual (ze st) s.heap.objs.size f cdv))->sp vs H Q E->
  ∃ t,PSs (cxOf CX0 P w K mg base N qual (ze st) f cdv A outer s H E).nox (zp st) t/\t { nx:=fun _ H'=>Q .non H',rt:=Q } (start N vs) H):FnOk P w K mg base CX0 (k+1) f fd ps sp:=by
 obtain⟨oc,od,kV,doc,pm,an,cdv,ct,osl,rfl,lk,hcd⟩:=F.ex;refine zck lk hcd S len fun A outer s H vs Q E hr hsp=>?_
 obtain⟨t,h,q⟩:=hbody cdv A outer s H vs Q E hr hsp;exact⟨t,h.nox,q⟩
theorem Fun.binds{x qual:Str}{st:Stmt}{f:Addr}{fd:FuncData}{ps:List Str}(F:Fun K x qual st f fd)
 (h:∀ (kV doc pm:Value) (an:Option Addr) (cdv ct:Value) (us:List Value),us.length=ps.length->bindArgs (PySem.W.fnOf x qual (zx st) (zp st) (ze st) .none kV doc pm an cdv ct) ⟨us,[]⟩=pure (ps.zip us)):Binds K fd ps []:=by
 obtain⟨oc,od,kV,doc,pm,an,cdv,ct,osl,rfl,lk,hcd⟩:=F.ex;exact .all (h kV doc pm an cdv ct)
theorem zC{x qual:Str}{st:Stmt}{f:Addr}{oc:Value}{od an:Option Addr}{osl:Array (Option Value)}{kV doc pm cdv ct:Value}(l:K.lookup f=some ⟨oc,od,.func (PySem.W.fnOf x qual (zx st) (zp st) (ze st) .none kV doc pm an cdv ct),osl⟩)
 (c:PySem.W.codeIn K cdv qual=true) (k:PySem.W.keepIn K (.ref f)=true):Fun K x qual st f (PySem.W.fnOf x qual (zx st) (zp st) (ze st) .none kV doc pm an cdv ct):=⟨⟨oc,od,kV,doc,pm,an,cdv,ct,osl,rfl,l,c⟩,k⟩
end
theorem Zo{A:Around}{k:Nat}(hr:Room k A):A.units+1<cLine:=WaG (Nat.add_le_add_left (by decide:1<=64) _) hr.units
section
variable{X:Cx}
end
theorem ite2{c A B:Prop}[Decidable c](h1:c->A)(h2:¬c->B):if c then A else B:=by
 by_cases h:c
 . rw [if_pos h]
   exact h1 h
 . rw [if_neg h]
   exact h2 h
def Same(H H':Hp):Prop:=∀ b o,H b=some o->H' b=some o
theorem Same.refl(H:Hp):Same H H:=fun _ _ h=>h
theorem Same.trans{H H1 H2:Hp}(a:Same H H1)(b:Same H1 H2):Same H H2:=fun c o h=>b c o (a c o h)
theorem Same.free{H H':Hp}(e:Same H H'){l:Addr}(h:H' l=Option.none):H l=Option.none:=by
 cases q:H l with
 | none=>rfl
 | some o=>
  rw [e l o q] at h;cases h
theorem Same.seq{K:Ybf}{H H':Hp}{a:Addr}{xs:List V}(e:Same H H')(h:SqL K H a xs):SqL K H' a xs:=by
 rcases h with (h|⟨o,h⟩)|h
 . exact .inl (.inl (e _ _ h))
 . exact .inl (.inr ⟨o,e _ _ h⟩)
 . exact .inr h
end L2
end
set_option Elab.async false
set_option linter.all false
set_option maxRecDepth 100000
namespace L2
open PySem PySem.Spec PyProof.Rows
def Bits(k:Nat)(x:Int):Prop:=x.natAbs<2 ^ k
theorem Bits.mono{j k:Nat}{x:Int}(h:Bits j x)(hk:j<=k):Bits k x:=YaU h (Nat.pow_le_pow_right #[1] hk)
theorem Bits.mul{j k:Nat}{x y:Int}(h:Bits j x)(h':Bits k y):Bits (j+k) (x*y):=by
 unfold Bits at *;rw [Int.natAbs_mul,Nat.pow_add];exact Nat.mul_lt_mul'' h h'
theorem Bits.neg{k:Nat}{x:Int}(h:Bits k x):Bits k (-x):=by unfold Bits at *;rw [Int.natAbs_neg];exact h
theorem Bits.add{k:Nat}{x y:Int}(h:Bits k x)(h':Bits k y):Bits (k+1) (x+y):=by
 unfold Bits at *;have:=Int.natAbs_add_le x y;rw [Nat.pow_succ];omega
theorem Bits.sub{k:Nat}{x y:Int}(h:Bits k x)(h':Bits k y):Bits (k+1) (x - y):=by
 have:=h.add h'.neg;rwa [<-Int.sub_eq_add_neg] at this
theorem Bits.le{k:Nat}{x y:Int}(h:Bits k x)(hy:y.natAbs<=x.natAbs):Bits k y:=WaG hy h
theorem Bits.log2{k:Nat}{x:Int}(h:Bits k x)(hk:0<k):x.natAbs.log2<k:=by
 rcases Nat.eq_zero_or_pos x.natAbs with h0|hp
 . rw [h0];exact hk
 . exact(Nat.log2_lt (Wby hp)).mpr h
theorem Bits.bits{k:Nat}{x:Int}(h:Bits k x):Builtin.Int.intBits x<=k:=by
 unfold Builtin.Int.intBits
 split
 . exact WbG _
 . rename_i hx
   have hx':x.natAbs≠0:=by
    intro e;apply hx;rw [Int.natAbs_eq_zero.mp e];rfl
   exact(Nat.log2_lt hx').mpr h
theorem Bits.mulOk{j k:Nat}{x y:Int}(h:Bits j x)(h':Bits k y)(hk:j+k<=134217728):IntMulOk x y:=by
 unfold IntMulOk;have e1:=h.bits;have e2:=h'.bits;have e:Builtin.Int.intTooBig ((Builtin.Int.intBits x:Int)+(Builtin.Int.intBits y:Int))=false:=by
  unfold Builtin.Int.intTooBig;refine decide_eq_false ?_;have:(bitsLine:Nat)=134217728:=by unfold bitsLine;decide
  omega
 intro z;rw [Yak] at z;have z2:=z.2;rw [e] at z2;cases z2
section
variable{X:Cx}
theorem zkW:OpR X (binaryOp .Mult) (rI IntMulOk fun i j=>.int (i*j)):=opI fun _ _ _ _ _ _ _ hc q=>mul_int q hc
def JL(i j:Int):Prop:=0<=j/\(Builtin.Int.intBits i:Int)*j<=134217728
theorem ziQ:OpR X (binaryOp .Pow) (rI JL fun i j=>.int (i ^ j.toNat)):=opI fun i j _ _ _ _ _ hc q=>by
 refine pow_int hc.1 ?_ q
 have e:((2:Int) ^ 27)=134217728:=#[1]
 rw [e];exact hc.2
end
theorem zD.got{P:Program}{w:World}{H:Hp}{h:Heap}{a:Addr}{o:HO}(x:zD P w H h a o):∃ ob,h.get? a=some ob:=by
 cases o with
 | lst xs=>obtain⟨_,_,_,_,e⟩:=x;exact⟨_,e⟩
 | tup xs=>obtain⟨_,_,_,ob,e,_⟩:=x;exact⟨_,e⟩
 | dK kvs=>obtain⟨_,_,_,_,o,_,_,e,_⟩:=x;exact⟨_,e⟩
 | dT kvs=>obtain⟨_,_,_,_,o,_,_,e,_⟩:=x;exact⟨_,e⟩
 | set S n=>obtain⟨o,_,_,_,e,_⟩:=x;exact⟨_,e⟩
 | ins C dx fs=>obtain⟨_,_,_,e,_⟩:=x;exact⟨_,e⟩
 | own y=>obtain⟨_,e⟩:=x;exact⟨_,e⟩
 | xd fs=>obtain⟨_,⟨_,_,_,e,_⟩,_⟩:=x;exact⟨_,e⟩
 | rng lo hi=>obtain⟨_,_,_,e⟩:=x;exact⟨_,e⟩
 | frz ob u=>obtain⟨e,_⟩:=x;exact⟨_,e⟩
 | tbl ps=>exact⟨_,(show h.get? a=some _ from x)⟩
 | met f y=>exact⟨_,(show h.get? a=some _ from x)⟩
 | ext φ=>obtain⟨_,⟨_,e⟩,_⟩:=x;exact⟨_,e⟩
theorem HOk.through{P:Program}{w:World}{H:Hp}{B h h':Heap}(x:HOk P w H h)(k:B.StaysIn h)(k':B.StaysIn h')(t:∀ b o,H b=some o->∃ o',B.get? b=some o'):HOk P w H h':=fun a o e=>
 (x a o e).stay (fun b u hb q=>by
  have hB:∃ ob,B.get? b=some ob:=by
   rcases hb with z|z
   . exact t b o (z ▸ e)
   . exact t b _ z
  obtain⟨ob,hob⟩:=hB;have e1:=k b ob hob;rw [q] at e1;cases e1;exact k' b _ hob) (fun _ q=>q) fun _ _ q=>q
theorem Un.through{fs:List Addr}{H H':Hp}{B h h1 h2:Heap}(un:Un fs [] H H' h h1)(cov:∀ b o,h.get? b=some o->b∉fs->∃ o',B.get? b=some o')(k:B.StaysIn h1)(k':B.StaysIn h2)
 (fr:∀ b∈fs,∀ o,h1.get? b=some o->∃ sl,h2.get? b=some { o with slots:=sl }):Un fs [] H H' h h2 where
 keep:=fun b o q n hb hx=>by
  obtain⟨o',ho⟩:=cov b o q hb;have e:=un.keep b o q n hb hx;have e1:=k b o' ho;rw [e] at e1;cases e1;exact k' b _ ho
 slot:=fun b o q n hb hx=>by
  obtain⟨sl,e⟩:=un.slot b o q n hb hx;obtain⟨sl',e'⟩:=fr b hb _ e;exact⟨sl',e'⟩
 free:=un.free
 there:=fun b o q hx=>by
  by_cases hb:b∈fs
  . obtain⟨o',e⟩:=un.there b o q hx
    obtain⟨sl,e'⟩:=fr b hb _ e;exact⟨_,e'⟩
  . obtain⟨o',ho⟩:=cov b o q hb
    exact⟨o',k' b _ ho⟩
 tups:=un.tups
 frzs:=un.frzs
 tbls:=un.tbls
structure Fly(P:Program)(w:World)(stack:List Env)(H:Hp)(s:Shared)(ea C:Addr)(H':Hp)(s':Shared):Prop where
 os:s'.os=s.os
 bare:AllBare s'.gens
 un:Un (frs stack) [] H H' s.heap s'.heap
 hok:HOk P w H' s'.heap
 fly:∃ B a0,Heap.FlyingW B stack ea (.ref C) a0 s'.heap/\(∀ b o,s.heap.get? b=some o->b∉frs stack->∃ o',B.get? b=some o')/\(∀ b o,H' b=some o->∃ o',B.get? b=some o')
def CXR(P:Program)(w:World):CXT:=fun outer H s E e s'=>∃ ea C H',e=.ref ea/\Fly P w outer H s ea C H' s'/\E (.ref C) none H'
theorem zkE{B h h':Heap}{l:List Env}(fr:h.FunFrames B l)(sm:h.UpToSlots h'):∀ b∈frs l,∀ o,h.get? b=some o->∃ sl,h'.get? b=some { o with slots:=sl }:=fun b hb o ho=>by
 obtain⟨_,o2,ho2,hd⟩:=fr.mem hb;rw [ho] at ho2;cases ho2;exact sm b o ho hd
section
variable{P:Program}{w:World}{K:Ybf}{mg:Str->Option Value}{base:Heap}{N:List Str}{qual:Str}{scope:Scope}{f:Addr}{cd:Value}{A:Around}{outer:List Env}{s₀ : Shared}{H₀ : Hp}{E:XK}{CX:CXT}
theorem zdQ{pins:List (Addr×Obj)}{σ : St}{H:Hp}{s:Shared}(I:Inv (cxOf CX P w K mg base N qual scope f cd A outer s₀ H₀ E) pins σ H s){b:Addr}{o:Obj}(q:s₀.heap.get? b=some o)(hb:b∉frs outer) :
 b∉frs (cxOf CX P w K mg base N qual scope f cd A outer s₀ H₀ E).stack:=fun z=>by
 rcases Wbo.mp (I.stkSub b z) with e|e
 . have h1:=YaX q
   rw [show b=s₀.heap.objs.size from e] at h1
   exact Yap _ h1
 . exact hb e
theorem zcy{pins:List (Addr×Obj)}{σ : St}{H:Hp}{s:Shared}(I:Inv (cxOf CX P w K mg base N qual scope f cd A outer s₀ H₀ E) pins σ H s){b:Addr}{o:Obj}(q:s₀.heap.get? b=some o):∃ o',s.heap.get? b=some o':=
 I.base.there b o q (fun z=>absurd (show b∈([]:List Addr) from z) (by simp))
theorem zq:Passes (CXR P w) (cxOf (CXR P w) P w K mg base N qual scope f cd A outer s₀ H₀ E) E:=by
 intro pins σ H s e s' I h;obtain⟨ea,C,H',rfl,F,q⟩:=h;obtain⟨B,a0,fl,cov,trk⟩:=F.fly;have J:=I.call' (ch:=[]) F.os F.un F.hok F.bare (fun b z=>absurd z (by simp))
 have cov':∀ b o,s₀.heap.get? b=some o->b∉frs outer->∃ o',B.get? b=some o':=fun b o z hb=>by
  obtain⟨o1,h1⟩:=zcy I z;exact cov b o1 h1 (zdQ I z hb)
 refine wpAny_leaves_onW (base:=B) (outer:=outer) (L:=s₀.heap.objs.size) I.ok.frames rfl fl fun h' fl' sm=>?_
 have fr:=zkE (fl.2.2.1).2.2 sm;exact⟨ea,C,H',rfl,⟨J.os,F.bare,J.base.through cov' fl.1 fl'.1 fr,F.hok.through fl.1 fl'.1 trk,B,a0,fl',cov',trk⟩,q⟩
def Flies(X:Cx)(E:XK):Prop:=∀ (pins:List (Addr×Obj)) (σ : St) (H:Hp) (s:Shared) (e C:Addr) (vs:List Value) (h1:Heap),Inv X pins σ H s->Heap.MadeExcOf s.heap h1 e (.ref C) vs->E (.ref C) none H->X.xe (.ref e) { s with heap:=h1 }
theorem jx:Flies (cxOf (CXR P w) P w K mg base N qual scope f cd A outer s₀ H₀ E) E:=by
 intro pins σ H s e C vs h1 I M q;have kB:(PySem.W.hideAll s.heap (frs (cxOf (CXR P w) P w K mg base N qual scope f cd A outer s₀ H₀ E).stack)).StaysIn s.heap:=fun b o z=>PySem.W.of_hideAll _ z
 have trk:∀ b o,H b=some o->∃ o',(PySem.W.hideAll s.heap (frs (cxOf (CXR P w) P w K mg base N qual scope f cd A outer s₀ H₀ E).stack)).get? b=some o':=fun b o z=>by
  obtain⟨ob,hob⟩:=(I.hok b o z).got;exact⟨ob,PySem.W.hideAll_get _ hob fun hm=>by rw [I.stkFree b hm] at z;cases z⟩
 have cov:∀ b o,s₀.heap.get? b=some o->b∉frs outer->∃ o',(PySem.W.hideAll s.heap (frs (cxOf (CXR P w) P w K mg base N qual scope f cd A outer s₀ H₀ E).stack)).get? b=some o':=fun b o z hb=>by
  obtain⟨o1,h1⟩:=zcy I z;exact⟨o1,PySem.W.hideAll_get _ h1 (zdQ I z hb)⟩
 refine wpAny_leaves_madeW (base:=PySem.W.hideAll s.heap (frs (cxOf (CXR P w) P w K mg base N qual scope f cd A outer s₀ H₀ E).stack)) (h:=s.heap) (outer:=outer) (L:=s₀.heap.objs.size) I.ok.frames rfl kB
  (PySem.W.funFrames_hide I.stack fun env he b hb=>List.mem_filterMap.mpr ⟨env,he,hb⟩) M fun h' t fl tu bt sm=>?_
 have fr:∀ b∈frs outer,∀ o,s.heap.get? b=some o->∃ sl,h'.get? b=some { o with slots:=sl }:=fun b hb o ho=>by
  obtain⟨_,o2,ho2,hd⟩:=I.funs.mem hb;rw [ho] at ho2;cases ho2;exact sm b o (M.keeps b o ho) hd
 exact⟨e,C,H,rfl,⟨I.os,I.bare,I.base.through cov kB fl.1 fr,I.hok.through kB fl.1 trk,_,_,fl,cov,trk⟩,q⟩
end
def bmVE:List Value:=[.type "ValueError", .type "Exception", .type "BaseException", .type "object"]
theorem zjc{K:Ybf}{h:Heap}{C:Addr}(X:K.In h)(q:PySem.W.excIn K C bmVE "ValueError.__new__" = true) :
 ∃ bm N nm qn bs hdct sn sub ab col dd k0 k1 k2 k3 k5 mN,h.get? C=some (excClassObj nm qn C N bs bm hdct sn sub ab col dd k0 k1 k2 k3 k5 "ValueError.__new__")/\h.Ns N mN/\mN "__init__" = none/\OwnTail h bmVE bm:=by
 unfold PySem.W.excIn at q
 split at q
 . rename_i dd cdx sl ho
   split at q
   . rename_i C' bm k0 k1 k2 k3 n k5 hm hs
     rw [Yak,Yak,Yak,Yak,Yak] at q;obtain⟨⟨⟨⟨⟨q1,q2⟩,q3⟩,q4⟩,q5⟩,q6⟩:=q;have e1:C'=C:=beq_iff_eq.mp q1;have e2:n = "ValueError.__new__":=beq_iff_eq.mp q2;have e6:=beq_iff_eq.mp q6;obtain⟨nm,bs,mro,ns,qn,hd,sn,sub,ab,col,del⟩:=cdx;obtain⟨l⟩:=sl;dsimp only at hm q3 q5 e6 hs;have e3:del=false:=by simpa using q3
     subst e1 e2 e3 hm hs;exact⟨bm,ns,nm,qn,bs,hd,sn,sub,ab,col,dd,k0,k1,k2,k3,k5,_,X _ _ ho,.of_isNs (PySem.W.isNs_of_in X q5),PySem.W.nsMap_none_of_in X q5 e6,PySem.W.tail_of_in X q4⟩
   . cases q
 . cases q
def zjj(C:Addr)(E:XK)(t:TA):TS:=fun _ σ H=>t σ H fun vs H1=>vs.length<=sizeLine/\E (.ref C) none H1
theorem zi9{X:Cx}{x:Str}{C:Addr}{e0:Expr}{t:TA}{E:XK}{np cpos pos:Pos}(hf:Flies X E)(hc:X.calm=true)(hg:Gl X x)(hm:X.mg x=some (.ref C))(hx:PySem.W.excIn X.K C bmVE "ValueError.__new__" = true)(ha:PA X [e0] t)
 (hdb:(x==("__debug__" : Str))=false:=by decide) (hs:starEach [e0] X.env=[(false,eval e0 X.env)]:=by rfl):PS X (.Raise (some (.Call (.Name x np) [e0] [] cpos)) none pos) (zjj C E t):=by
 intro pins s σ H D I h;obtain⟨bm,Nn,nm,q,bs,hdct,sn,sub,ab,col,dd,k0,k1,k2,k3,k5,mN,hC,hN,hni,T⟩:=zjc I.ok.mod.kin hx;refine wpAny_Raise_call_subT (C:=C) (nm:=nm) (q:=q) (N:=Nn) (bs:=bs) (bm:=bm) (hdct:=hdct) (sn:=sn) (sub:=sub) (ab:=ab) (col:=col) (dd:=dd) (k0:=k0) (k1:=k1) (k2:=k2) (k3:=k3) (k5:=k5)
  PySem.F.excBase_ValueError (mN:=mN) (T.hasType rfl) (I.ok.hd hc) (by rw [hs];rfl) hni (zb7 I hg hm ⟨rfl,?_⟩ hdb)
 have h1:=ha cpos pins s σ H _ I h;rw [hs] at h1 ⊢;refine Calls.evalArgs_plain (wpAny_mono h1 (fun us s2 z=>?_) fun _ _ z=>z)
 obtain⟨vs,H1,I1,r,z,qE⟩:=z;exact⟨rfl,by show us.length<=sizeLine;rw [<-r.length];exact z,I1.bk _ _ hC,hN.keeps I1.bk,T.keeps I1.bk,fun h' e M=>hf pins σ H1 s2 e C us h' I1 M qE⟩
theorem Fun.okR{P:Program}{w:World}{K:Ybf}{mg:Str->Option Value}{base:Heap}{x qual:Str}{st:Stmt}{f:Addr}{fd:FuncData}{N ps:List Str}{k:Nat}{sp:Sp}(F:Fun K x qual st f fd)(S:FnScope N ps (ze st))(len:∀ vs H Q E,sp vs H Q E->vs.length=ps.length)
 (hbody:∀ (cdv:Value) (A:Around) (outer:List Env) (s:Shared) (H:Hp) (vs:List V) (Q:VK) (E:XK),Room k (A.deeper (envOfC qual (ze st) s.heap.objs.size f cdv))->sp vs H Q E->
  ∃ t,PSs (cxOf (CXR P w) P w K mg base N qual (ze st) f cdv A outer s H E) (zp st) t/\t { nx:=fun _ H'=>Q .non H',rt:=Q } (start N vs) H):FnOk P w K mg base (CXR P w) (k+1) f fd ps sp:=by
 obtain⟨oc,od,kV,doc,pm,an,cdv,ct,osl,rfl,lk,hcd⟩:=F.ex;exact zck lk hcd S len fun A outer s H vs Q E hr hsp=>hbody cdv A outer s H vs Q E hr hsp
abbrev TX:=Ends->(Addr->Hp->Prop)->St->Hp->Prop
def XE(X:Cx)(pins:List (Addr×Obj))(σ : St)(E:Addr->Hp->Prop)(e:Value)(s':Shared):Prop:=
 ∃ ea C H1 s1 H',e=.ref ea/\Inv X pins σ H1 s1/\Fly X.prog X.w X.stack H1 s1 ea C H' s'/\E C H'
def PX(X:Cx)(st:List Stmt)(t:TX):Prop:=
 ∀ (pins:List (Addr×Obj)) (s:Shared) (σ : St) (H:Hp) (D:Ends) (E:Addr->Hp->Prop),Inv X pins σ H s->t D E σ H->wpAny (model X.prog X.w) X.A (execs st X.env) (SP X pins D) (XE X pins σ E) s
theorem PA.nox{X:Cx}{es:List Expr}{t:TA}(h:PA X.nox es t)(pos:Pos){pins:List (Addr×Obj)}{s:Shared}{σ : St}{H:Hp}{Q:List V->Hp->Prop}{E:Value->Shared->Prop}(I:Inv X pins σ H s)(q:t σ H Q) :
 wpAny (model X.prog X.w) X.A (spliced (backTo pos (starEach es X.env))) (AP X pins σ Q) E s:=
 wpAny_mono (h pos pins s σ H Q (I.wish _) q) (fun us s1 ⟨vs,H1,I1,r,q1⟩=>⟨vs,H1,I1.unwish,r,q1⟩) fun _ _ z=>z.elim
def excO(ea C:Addr):HO:=.ext fun h=>∃ o vs,h.get? ea=some o/\o.cls=.ref C/\o.data=.fields vs
abbrev Cx.inExc(X:Cx)(ea:Addr):Cx:={ X with A:=X.A.mark (some (.ref ea)),calm:=false,xe:=fun _ _=>False }
section
variable{X:Cx}{pins:List (Addr×Obj)}{σ : St}{H:Hp}{s:Shared}
theorem Inv.exc(I:Inv X pins σ H s)(ea:Addr):Inv (X.inExc ea) pins σ H s:=
 ⟨⟨I.ok.mod,I.ok.kind,I.ok.glob,I.ok.blt,I.ok.above,I.ok.inj,I.ok.has,I.ok.cab,(fun z=>absurd z Yal),I.ok.frames,I.ok.stk,I.ok.exf,I.ok.bs,I.ok.bsz,I.ok.noex,I.ok.exfs,I.ok.funs,I.ok.frf⟩,
  I.os,I.bare,I.base,I.loc,I.cell,I.free,I.freeC,I.pin,I.hok,I.len⟩
end
theorem HOk.track{P:Program}{w:World}{H:Hp}{h:Heap}{a:Addr}{o:HO}(x:HOk P w H h)(hn:H a=none)(new:zD P w (upd H a o) h a o):HOk P w (upd H a o) h:=fun b u e=>by
 by_cases hb:b=a
 . subst hb;rw [zl] at e;cases e;exact new
 . rw [zh hb] at e
   exact(x b u e).stay (fun c v _ q=>q) (fun c q=>by rw [zh (zS q hn)];exact q) fun c xs q=>by rw [zh (zS q hn)];exact q
theorem ziN:bootBuiltins "int" = some (.type "int"):=#[3]
theorem zgA:bootBuiltins "bool" = some (.type "bool"):=#[3]
theorem zgu:bootBuiltins "tuple" = some (.type "tuple"):=#[3]
theorem zlw:bootBuiltins "zip" = some (.type "zip"):=#[3]
theorem zm7:bootBuiltins "isinstance" = some (.builtin "isinstance"):=#[3]
theorem zN:bootBuiltins "len" = some (.builtin "len"):=#[3]
theorem za7:bootBuiltins "abs" = some (.builtin "abs"):=#[3]
theorem zhN:bootBuiltins "max" = some (.builtin "max"):=#[3]
theorem zeZ:bootBuiltins "min" = some (.builtin "min"):=#[3]
theorem Jq:bootBuiltins "sum" = some (.builtin "sum"):=#[3]
section
variable{prog:Program}{w:World}{A:Around}{E:Value->Shared->Prop}{s:Shared}{K:Ybf}{ea C:Addr}
end
section
variable{X:Cx}
def isB(t n:String):Option Bool:=
 if t = "int"/\n = "int" then some true else if t = "int"/\n = "bool" then some false else if t = "tuple"/\n = "tuple" then some true else if t = "list"/\n = "list" then some true
 else if t = "str"/\n = "str" then some true else if t = "bool"/\n = "bool" then some true else none
theorem zka{K:Ybf}{t n:String}{b:Bool}(h:isB t n=some b):PySem.W.kitOne K (.type t) (.type n)=some b:=by
 unfold isB at h
 split at h
 . rename_i e;obtain⟨rfl,rfl⟩:=e;cases h;rfl
 split at h
 . rename_i e;obtain⟨rfl,rfl⟩:=e;cases h;rfl
 split at h
 . rename_i e;obtain⟨rfl,rfl⟩:=e;cases h;rfl
 split at h
 . rename_i e;obtain⟨rfl,rfl⟩:=e;cases h;rfl
 split at h
 . rename_i e;obtain⟨rfl,rfl⟩:=e;cases h;rfl
 split at h
 . rename_i e;obtain⟨rfl,rfl⟩:=e;cases h;rfl
 cases h
end
mutual
inductive RdV(K:Ybf)(H:Hp):V->PyData->Prop
 | non:RdV K H .non .none
 | bl (b):RdV K H (.bl b) (.bool b)
 | int (i):RdV K H (.int i) (.int i)
 | str (x):RdV K H (.str x) (.str x)
 | lst {a xs ds}:SqL K H a xs->RdVs K H xs ds->RdV K H (.ref a) (.list ds)
 | tup {a xs ds}:SqT K H a xs->RdVs K H xs ds->RdV K H (.ref a) (.tuple ds)
inductive RdVs(K:Ybf)(H:Hp):List V->List PyData->Prop
 | nil:RdVs K H [] []
 | cons {x xs d ds}:RdV K H x d->RdVs K H xs ds->RdVs K H (x::xs) (d::ds)
end
section
variable{X:Cx}{pins:List (Addr×Obj)}{σ : St}{H:Hp}{s:Shared}
mutual
theorem RdV.reads(I:Inv X pins σ H s):∀ {x:V} {d:PyData} {u:Value},RdV X.K H x d->RelV x u->∃ as,Reads s.heap u d as
 | _,_,_,.non,r=>by cases r;exact⟨_,.none⟩
 | _,_,_,.bl b,r=>by cases r;exact⟨_,.bool b⟩
 | _,_,_,.int i,r=>by obtain⟨t,rfl⟩:=r;exact⟨_,.int i t⟩
 | _,_,_,.str x,r=>by obtain⟨t,rfl⟩:=r;exact⟨_,.str x t⟩
 | _, _, _, .lst hq hs, r => by
  cases r;obtain⟨its,rv,⟨o,n,ho,hc,_,hd⟩,_⟩:=I.list hq
  obtain⟨as,q⟩:=RdVs.reads I hs rv;exact⟨_,.list ho hc hd q⟩
 | _, _, _, .tup hq hs, r => by
  cases r;obtain⟨its,rv,⟨o,ho,hc,n,hd⟩,_⟩:=I.tuple hq
  obtain⟨as,q⟩:=RdVs.reads I hs rv;exact⟨_,.tuple ho hc hd q⟩
theorem RdVs.reads(I:Inv X pins σ H s):∀ {xs:List V} {ds:List PyData} {us:List Value},RdVs X.K H xs ds->Vals xs us->∃ as,ReadsAll s.heap us ds as
 | _,_,_,.nil,.nil=>⟨_,.nil⟩
 | _, _, _, .cons h hs, .cons r t => by
  obtain⟨as,q⟩:=RdV.reads I h r;obtain⟨bs,p⟩:=RdVs.reads I hs t;exact⟨_,.cons q p⟩
end
end
section
variable{X:Cx}
def rEqD(K:Ybf):R2:=fun x y H Q=>∃ d e,RdV K H x d/\RdV K H y e/\SeqAt.shaped d=true/\SeqAt.shaped e=true/\Q (.bl (PyData.eqv d e)) H
def rNeD(K:Ybf):R2:=fun x y H Q=>∃ d e,RdV K H x d/\RdV K H y e/\SeqAt.shaped d=true/\SeqAt.shaped e=true/\Q (.bl (!PyData.eqv d e)) H
theorem zge(hu:X.A.units+64<cLine):OpR X (compareOp .Eq) (rEqD X.K):=by
 intro pins s σ H x y v u Q I rx ry h;obtain⟨d,e,h1,h2,s1,s2,q⟩:=h;obtain⟨as,r1⟩:=h1.reads I rx;obtain⟨bs,r2⟩:=h2.reads I ry;exact eq_dataH r1 r2 s1 s2 hu ⟨.bl _,H,I,rfl,q⟩
theorem zhZ(hu:X.A.units+64<cLine):OpR X (compareOp .NotEq) (rNeD X.K):=by
 intro pins s σ H x y v u Q I rx ry h;obtain⟨d,e,h1,h2,s1,s2,q⟩:=h;obtain⟨as,r1⟩:=h1.reads I rx;obtain⟨bs,r2⟩:=h2.reads I ry;exact ne_dataH r1 r2 s1 s2 hu ⟨.bl _,H,I,rfl,q⟩
def Zs(_ j:Int):Prop:=0<j/\Bits 9000 j
theorem zlQ:OpR X (binaryOp .FloorDiv) (rI Zs fun i j=>.int (i/j)):=opI fun i j _ _ _ _ _ hc q=>
 floordiv_int (by have:=hc.1;omega) (by rw [Int.fdiv_eq_ediv_of_nonneg i (by have:=hc.1;omega)];exact q) (.inl (PyProof.noPylong_of_log2 (hc.2.log2 #[1])))
end
def Df(P:Program)(w:World)(K:Ybf)(mg:Str->Option Value)(base:Heap)(k:Nat)(x:Str)(ps:List Str)(sp:Sp):Prop:=
 ∃ f fd,FnOk P w K mg base (CXR P w) k f fd ps sp/\Binds K fd ps []/\PySem.W.keepIn K (.ref f)=true/\mg x=some (.ref f)
section
variable{X:Cx}{k:Nat}{ps:List Str}{sp:Sp}{x:Str}{p pos pos':Pos}{e:Expr}{es:List Expr}{t:TA}{E:XK}
theorem zeO(G:Df X.prog X.w X.K X.mg X.base k x ps sp)(hr:Room k X.A)(hg:Gl X x)(hx:Passes (CXR X.prog X.w) X E)(ha:PA X (e::es) t)(hdb:(x==("__debug__" : Str))=false:=by decide)
 (he:starEach (e::es) X.env=(false,eval e X.env)::starEach es X.env:=by rfl) (hpl:(backTo pos (starEach es X.env)).any (·.1)=false:=by rfl):PE X (.Call (.Name x p) (e::es) [] pos) (zdY sp [] E t):=by
 obtain⟨f,fd,F,hb,hk,hm⟩:=G;exact ziq F hr hg hm hk hb .nil hx ha hdb he hpl
end
section
variable{X:Cx}{o e:Expr}{to:TE}{t:TA}{apos pos:Pos}
theorem zc8(ho:PE X o to)(ha:PA X [e] t)(hb:attributeBase o "append" X.env (eval o X.env)=eval o X.env:=by rfl)
 (hf:((backTo pos (starEach [e] X.env)).all (fun x=>!x.1)&&(backToKw pos (keywordEach [] X.env)).all (fun x=>x.1.isSome)&&decide ([e].length+([]:List Keyword).length+(if([]:List Keyword).isEmpty then 0 else 1)<30))=true:=by rfl)
 (hl:(apos.endLine==pos.line)=true:=by rfl) (hs:starEach [e] X.env=(false,eval e X.env)::starEach [] X.env:=by rfl) (hp:(backTo pos (starEach [] X.env)).any (·.1)=false:=by rfl) :
 PE X (.Call (.Attribute o "append" apos) [e] [] pos) (tBM X.K "list" rAppend to t):=
 zby Wao PySem.F.slot_list_append PySem.F.type_list_append zex ho ha hb hf hl hs hp
theorem zj6(ho:PE X o to)(ha:PA X [e] t)(hb:attributeBase o "pop" X.env (eval o X.env)=eval o X.env:=by rfl)
 (hf:((backTo pos (starEach [e] X.env)).all (fun x=>!x.1)&&(backToKw pos (keywordEach [] X.env)).all (fun x=>x.1.isSome)&&decide ([e].length+([]:List Keyword).length+(if([]:List Keyword).isEmpty then 0 else 1)<30))=true:=by rfl)
 (hl:(apos.endLine==pos.line)=true:=by rfl) (hs:starEach [e] X.env=(false,eval e X.env)::starEach [] X.env:=by rfl) (hp:(backTo pos (starEach [] X.env)).any (·.1)=false:=by rfl) :
 PE X (.Call (.Attribute o "pop" apos) [e] [] pos) (tBM X.K "list" rPopAt to t):=
 zby Wao PySem.F.slot_list_pop PySem.F.type_list_pop zlo ho ha hb hf hl hs hp
theorem za0{K:Ybf}{H:Hp}{p:Addr}{xs:List V}(h:H p=some (.lst xs)):tyV K "list" (.ref p) H:=.inl ⟨rfl,_,SqL.of h⟩
end
section
variable{ta:TA}{tl:TE}{g:TG}{tb:TS}{D:Ends}{σ : St}{H:Hp}{K:Ybf}
end
theorem zJ{H:Hp}{p:Addr}(h:H p=none)(o:HO):Same H (upd H p o):=fun b u q=>by rw [zh (zS q h)];exact q
theorem Same.tup{K:Ybf}{H H':Hp}{a:Addr}{xs:List V}(e:Same H H')(h:SqT K H a xs):SqT K H' a xs:=by
 rcases h with (h|⟨o,h⟩)|h
 . exact .inl (.inl (e _ _ h))
 . exact .inl (.inr ⟨o,e _ _ h⟩)
 . exact .inr h
section
variable{X:Cx}
end
theorem atI0{α : Type}{x:α}{xs:List α}:atI (x::xs) 0=some x:=JQ (j:=0) rfl
theorem atI1{α : Type}{x y:α}{xs:List α}:atI (x::y::xs) 1=some y:=JQ (j:=1) rfl
end L2
section
open PySem PySem.Spec PyProof.Rows L2
namespace L2
end L2
namespace L2
theorem Bits.emod{k:Nat}{m:Int}(hm:Bits k m)(h0:0<m)(x:Int):Bits k (x%m):=hm.le (by
 have h1:=Ybc x (by omega:m≠0)
 have h2:=Ybd x h0
 omega)
theorem Bits.lit{x:Int}(k:Nat)(h:x.natAbs<2 ^ 64:=by decide)(hk:64<=k:=by decide):Bits k x:=Bits.mono (j:=64) h hk
theorem divP{i j:Int}(h0:0<j:=by decide)(h:j.natAbs<2 ^ 64:=by decide):Zs i j:=⟨h0,Bits.lit _ h #[1]⟩
theorem powB{i j:Int}{k:Nat}(h:Bits k i)(h0:0<=j)(hk:k*j.toNat<=134217728):JL i j:=⟨h0,by
 have e1:=h.bits;have e2:(Builtin.Int.intBits i:Int)*j<=(k:Int)*j:=Ybe #[0] h0
 have e3:(k:Int)*j=((k*j.toNat:Nat):Int):=by rw [Int.natCast_mul];congr 1;omega
 omega⟩
end L2
end
namespace L2
open PySem PySem.Spec PyProof.Rows
def ze8(osc scope:Scope)(tn fn:List Str):Bool:=
 decide (scope.kind=.function)&&scope.names.all (fun x=>!decide (x.2=.local)||decide (scope.names.lookup x.1=some .local)) &&
 scope.names.all (fun x=>!decide (x.2=.cell)||decide (scope.names.lookup x.1=some .cell)) &&
 scope.names.all (fun x=>!decide (x.2=.free)||decide (osc.names.lookup x.1=some .cell)||decide (osc.names.lookup x.1=some .free)) &&
 tn.all (fun x=>decide (scope.names.lookup x=some .local)||decide (scope.names.lookup x=some .cell)) &&
 fn.all (fun x=>decide (scope.names.lookup x=some .free))&&decide ((tn++fn).Nodup)
structure CompSc(osc scope:Scope)(tn fn:List Str):Prop where
 kind:scope.kind=.function
 loc:∀ x∈scope.names,x.2=.local->scope.names.lookup x.1=some .local
 cell:∀ x∈scope.names,x.2=.cell->scope.names.lookup x.1=some .cell
 free:∀ x∈scope.names,x.2=.free->osc.names.lookup x.1=some .cell\/osc.names.lookup x.1=some .free
 frees:∀ x∈fn,scope.names.lookup x=some .free
 nd:(tn++fn).Nodup
theorem jL{osc scope:Scope}{tn fn:List Str}(h:ze8 osc scope tn fn=true):CompSc osc scope tn fn:=by
 unfold ze8 at h;simp only [Yak,decide_eq_true_eq,Wa7,Bool.or_eq_true,WaN,decide_eq_false_iff_not] at h;obtain⟨⟨⟨⟨⟨⟨h1,h2⟩,h3⟩,h4⟩,h5⟩,h6⟩,h7⟩:=h;refine⟨h1,fun x hx e=>(h2 x hx).resolve_left (fun n=>n e),fun x hx e=>(h3 x hx).resolve_left (fun n=>n e),fun x hx e=>?_,h6,h7⟩
 rcases h4 x hx with (n|q)|q
 . exact absurd e n
 . exact .inl q
 . exact .inr q
theorem zbE(env:Env):∀ (names:List (Str×NameKind)) (x:Str),
 (names.map fun(n,k)=>if(k==NameKind.free&&env.scope.kind==.function&&env.kindOf n==some .cell) then(n,NameKind.cell) else(n,k)).lookup x =
  (names.lookup x).map fun k=>if(k==NameKind.free&&env.scope.kind==.function&&env.kindOf x==some .cell) then NameKind.cell else k
 | [],x=>rfl
 | (n, k) :: r, x => by
  have ih:=zbE env r x;rw [Ya1]
  by_cases hx:x=n
  . subst hx
    show List.lookup x ((if(k==NameKind.free&&env.scope.kind==.function&&env.kindOf x==some .cell)=true then(x,NameKind.cell) else(x,k))::_)=_
    split
    . rename_i hc;rw [List.lookup_cons,List.lookup_cons];simp only [beq_self_eq_true,Option.map_some,if_pos hc]
    . rename_i hc;rw [List.lookup_cons,List.lookup_cons];simp only [beq_self_eq_true,Option.map_some,if_neg hc]
  . have hb:(x==n)=false:=beq_eq_false_iff_ne.mpr hx
    show List.lookup x ((if(k==NameKind.free&&env.scope.kind==.function&&env.kindOf n==some .cell)=true then(n,NameKind.cell) else(n,k))::_)=_
    split
    . simp only [List.lookup_cons,hb];exact ih
    . simp only [List.lookup_cons,hb];exact ih
theorem zeI{scope:Scope}{env:Env}{x:Str}{k:NameKind}(h:(relabel scope env).names.lookup x=some k):∃ k',scope.names.lookup x=some k'/\(k'=k\/(k'=.free/\k=.cell)):=by
 have e:=zbE env scope.names x;have h':(scope.names.map fun(n,k)=>if(k==NameKind.free&&env.scope.kind==.function&&env.kindOf n==some .cell) then(n,NameKind.cell) else(n,k)).lookup x=some k:=h
 rw [h'] at e;cases q:scope.names.lookup x with
 | none=>rw [q] at e;cases e
 | some k'=>
  rw [q] at e;have e':=Wbe e;refine⟨k',rfl,?_⟩;dsimp only at e'
  split at e'
  . rename_i hc
    simp only [Yak,beq_iff_eq] at hc;exact .inr ⟨hc.1.1,e'⟩
  . exact .inl e'.symm
theorem zjI{scope:Scope}{env:Env}{x:Str}(h:scope.names.lookup x=some .free):(relabel scope env).names.lookup x=some .cell\/(relabel scope env).names.lookup x=some .free:=by
 have e:=zbE env scope.names x;rw [h] at e;have e':(relabel scope env).names.lookup x=some _:=e;rw [e']
 by_cases c:(NameKind.free==NameKind.free&&env.scope.kind==.function&&env.kindOf x==some .cell)=true
 . left;simp only [WaO];rw [if_pos c]
 . right;simp only [WaO];rw [if_neg c]
theorem Za:∀ (names:List (Str×NameKind)) (n:Nat) (acc:List (Str×Addr)),cellsFrom n names acc=cellsFrom n names []++acc
 | [],_,acc=>rfl
 | (x, k) :: r, n, acc => by
  unfold cellsFrom
  split
  . rw [Za r (n+1) ((x,n)::acc),Za r (n+1) [(x,n)],Yag];rfl
  . exact Za r n acc
theorem zcp:∀ (names:List (Str×NameKind)) (n:Nat) (x:Str) (c:Addr),(x,c)∈cellsFrom n names []->(x,NameKind.cell)∈names
 | [],_,_,_,h=>by cases h
 | (y, k) :: r, n, x, c, h => by
  unfold cellsFrom at h
  split at h
  . rename_i hk
    rw [Za] at h
    rcases Ya3.mp h with q|q
    . exact YaT _ (zcp r _ x c q)
    . cases Ya6.mp q
      have:k=.cell:=by simpa using hk
      subst this;exact YaV
  . exact YaT _ (zcp r _ x c h)
theorem zha{env:Env}{scope:Scope}(h:∀ x∈scope.names,x.2=.free->∃ c,env.cells.lookup x.1=some c) :
 ∃ cl,closureFor scope env=pure cl/\(∀ x c,cl.lookup x=some c->env.cells.lookup x=some c)/\∀ x,(x,NameKind.free)∈scope.names->∃ c,cl.lookup x=some c:=by
 have key:∀ (f:Str×NameKind->List (Str×Addr)->Sem (ForInStep (List (Str×Addr)))),(∀ n k cs,f (n,k) cs=if k==.free then(do let a <-cellOf env n;pure (ForInStep.yield ((n,a)::cs))) else pure (ForInStep.yield cs))->
  ∀ (names:List (Str×NameKind)) (acc:List (Str×Addr)),(∀ x∈names,x.2=.free->∃ c,env.cells.lookup x.1=some c)->(∀ x c,acc.lookup x=some c->env.cells.lookup x=some c)->
  ∃ cl,(forIn names acc f:Sem (List (Str×Addr)))=pure cl/\(∀ x c,cl.lookup x=some c->env.cells.lookup x=some c)/\
   (∀ x,(x,NameKind.free)∈names->∃ c,cl.lookup x=some c)/\∀ x,(∃ c,acc.lookup x=some c)->∃ c,cl.lookup x=some c:=by
  intro f hf names
  induction names with
  | nil=>intro acc _ ha;exact⟨acc,rfl,ha,fun x hx=>(by cases hx),fun x q=>q⟩
  | cons y r ih=>
   intro acc hn ha;obtain⟨n,k⟩:=y
   by_cases hk:k=.free
   . subst hk
     obtain⟨c,hc⟩:=hn (n,.free) YaV rfl;have hc':env.cells.lookup n=some c:=hc;obtain⟨cl,e1,e2,e3,e4⟩:=ih ((n,c)::acc) (fun x hx=>hn x (YaT _ hx)) (fun x c' q=>by
      rw [List.lookup_cons] at q
      by_cases hx:x=n
      . subst hx;simp at q;subst q;exact hc'
      . rw [beq_eq_false_iff_ne.mpr hx] at q;exact ha x c' q)
     refine⟨cl,?_,e2,fun x hx=>?_,fun x q=>e4 x ?_⟩
     . rw [List.forIn_cons,hf]
       have ec:cellOf env n=pure c:=by unfold cellOf;rw [hc']
       simp only [beq_self_eq_true,if_true,ec];exact e1
     . rcases Wbo.mp hx with e|e
       . cases e;exact e4 n ⟨c,by simp [List.lookup_cons]⟩
       . exact e3 x e
     . obtain⟨c',q⟩:=q
       by_cases hx:x=n
       . subst hx;exact⟨c,by simp [List.lookup_cons]⟩
       . exact⟨c',by rw [List.lookup_cons,beq_eq_false_iff_ne.mpr hx];exact q⟩
   . obtain⟨cl,e1,e2,e3,e4⟩:=ih acc (fun x hx=>hn x (YaT _ hx)) ha
     refine⟨cl,?_,e2,fun x hx=>?_,e4⟩
     . rw [List.forIn_cons,hf]
       have:(k==NameKind.free)=false:=by simpa using hk
       simp only [this,WaH,if_false];exact e1
     . rcases Wbo.mp hx with e|e
       . cases e;exact absurd rfl hk
       . exact e3 x e
 unfold closureFor;obtain⟨cl,e1,e2,e3,_⟩:=key (fun x r=>match x with|(name,kind)=>if kind==.free then(do let a <-cellOf env name;pure (ForInStep.yield ((name,a)::r))) else pure (ForInStep.yield r)) (fun _ _ _=>rfl) scope.names [] h (fun x c q=>by cases q)
 refine⟨cl,?_,e2,e3⟩
 have e:∀ (x:Sem (List (Str×Addr))),x=pure cl->(x >>= fun r=>pure r)=pure cl:=fun x q=>by rw [q];rfl
 exact e _ e1
def zlv(scope:Scope)(C:Addr)(cells:List (Str×Addr))(env:Env):Env:=
 { scope:=relabel scope env,locals:=C,globals:=env.globals,cells:=cells,qual:=env.qual,func:=none,code:=env.code,frame:=env.frame,builtins:=env.builtins }
def Cx.comp(X:Cx)(scope:Scope)(N:List Str)(s:Shared)(H:Hp)(fp:List Addr)(cl:List (Str×Addr)):Cx where
 prog:=X.prog
 w:=X.w
 K:=X.K
 mg:=X.mg
 base:=X.base
 A:=X.A
 N:=N
 s₀:=s
 H₀:=H
 env:=zlv scope s.heap.objs.size (cellsFrom (s.heap.objs.size+1) scope.names cl) X.env
 outer:=X.stack
 stack:=X.stack
 ex:=fp
 fn:=fun x=>decide (scope.names.lookup x=some .cell)
 calm:=X.calm
 pn:=[]
 xe:=fun _ _=>False
def cst(n:Nat)(js:List Nat)(σ : St):St:=List.replicate n none++js.map fun j=>(σ[j]?).join
theorem zh5{X:Cx}{pins:List (Addr×Obj)}{σ : St}{H:Hp}{s:Shared}{scope:Scope}{tn fn:List Str}{js:List Nat}{fp:List Addr}{cl:List (Str×Addr)}(I:Inv X pins σ H s)(S:CompSc X.env.scope scope tn fn)
 (hj:js.map (fun j=>X.N[j]?)=fn.map some) (hfp:∀ b∈fp,FpOk X pins H b) (hlt:∀ b∈fp,b<s.heap.objs.size)
 (hcl:∀ x c,cl.lookup x=some c->X.env.cells.lookup x=some c) (hcl2:∀ x,(x,NameKind.free)∈scope.names->∃ c,cl.lookup x=some c) :
 Inv (X.comp scope (tn++fn) s H fp cl) [] (cst tn.length js σ) H { s with heap:=pushCells (s.heap.push { cls:=.type "dict", data:=.dict #[] }) scope.names }:=by
 have hC:=cellsFrom_ok scope.names (s.heap.push { cls:=.type "dict", data:=.dict #[] }) (s.heap.objs.size+1) [] ⟨fun _ _ hm=>(nomatch hm),List.Pairwise.nil⟩ (by rw [Wbk];exact YaY _)
 rw [Wbk] at hC;have keep:∀ b o,s.heap.get? b=some o->(pushCells (s.heap.push { cls:=.type "dict", data:=.dict #[] }) scope.names).get? b=some o:=fun b o e=>pushCells_keeps _ _ b o (YaW _ e)
 have look:∀ x c,(cellsFrom (s.heap.objs.size+1) scope.names cl).lookup x=some c->((x,c)∈cellsFrom (s.heap.objs.size+1) scope.names [])\/X.env.cells.lookup x=some c:=fun x c e=>by
  rw [Za,List.lookup_append] at e;cases q:(cellsFrom (s.heap.objs.size+1) scope.names []).lookup x with
  | some c'=>rw [q] at e;cases e;exact .inl (WaC q)
  | none=>rw [q] at e;exact .inr (hcl x c e)
 have outerLt:∀ x c,X.env.cells.lookup x=some c->c<s.heap.objs.size:=fun x c e=>by
  obtain⟨v,q⟩:=I.cell x c e;exact q.lt
 have ownGe:∀ x c,(x,c)∈cellsFrom (s.heap.objs.size+1) scope.names []->s.heap.objs.size+1<=c:=fun x c e=>(hC.empty x c e).2
 refine⟨⟨I.ok.mod,S.kind,I.ok.glob,I.ok.blt,YaY _,fun x y c h1 h2=>?_,fun x hx=>?_,fun x c h1 h2=>?_,I.ok.hd,I.ok.frames,.inl rfl,fun b hb=>⟨Yaf (hlt b hb),fun x c e=>?_⟩,fun b o e=>I.bs b o e,Ya5 I.ok.bsz I.sz,fun b o e hb=>?_,fun b hb hz=>?_,I.stack,I.stkFree⟩,
  rfl,I.bare,Un.kept keep,⟨fun _=>none,?_,fun i x v h1 h2 h3=>?_⟩,fun x c e=>?_,I.hok.fresh (YaY _),fun x c e=>?_,fun p hp=>?_,I.hok.kept keep,?_⟩
 . rcases look x c h1 with q|q<;>rcases look y c h2 with r|r
   . exact name_of_addr hC.apart q r
   . exact absurd (Nat.lt_trans (outerLt y c r) (ownGe x c q)) (Yap _)
   . exact absurd (Nat.lt_trans (outerLt x c q) (ownGe y c r)) (Yap _)
   . exact I.ok.inj x y c q r
 . have own:∀ k,scope.names.lookup x=some k->k=.cell\/k=.free->∃ c,(cellsFrom (s.heap.objs.size+1) scope.names cl).lookup x=some c:=fun k hk hkk=>by
    refine Wal.mp (War _ _ _ ?_)
    rcases hkk with rfl|rfl
    . exact .inl hk
    . obtain⟨c,q⟩:=hcl2 x (WaC hk)
      exact .inr (by rw [q];rfl)
   rcases hx with hx|hx
   . obtain⟨k',e,q|q⟩:=zeI (scope:=scope) (env:=X.env) hx
     . subst q;exact own _ e (.inl rfl)
     . exact own _ e (.inr q.1)
   . obtain⟨k',e,q|q⟩:=zeI (scope:=scope) (env:=X.env) hx
     . subst q;exact own _ e (.inr rfl)
     . cases q.2
 . have hc:scope.names.lookup x=some .cell:=of_decide_eq_true h1
   rcases look x c h2 with q|q
   . exact Wbx (ownGe x c q)
   . exfalso
     have h2':(cellsFrom (s.heap.objs.size+1) scope.names cl).lookup x=some c:=h2;rw [Za,List.lookup_append] at h2';obtain⟨c',q'⟩:=Wal.mp (War scope.names (s.heap.objs.size+1) [] (.inl hc));rw [q'] at h2';cases h2';exact absurd (Nat.lt_trans (outerLt x c q) (ownGe x c (WaC q'))) (Yap _)
 . rcases look x c e with q|q
   . intro z;subst z
     exact absurd (Nat.lt_trans (hlt c hb) (ownGe x c q)) (Yap _)
   . exact(hfp b hb).2.2.2.2.1 x c q
 . rcases(hfp b hb).2.2.2.1 with z|z
   . exact I.ok.noex b o e z
   . exact absurd (YaU (YaX (I.ok.bs b o e).1) z) (Yap _)
 . rcases Wbo.mp (I.stkSub b hz) with z|z
   . exact(hfp b hb).2.1 z
   . exact(hfp b hb).2.2.1 z
 . exact(Heap.Ns.new s.heap (.type "dict")).keeps (pushCells_keeps _ _)
 . unfold cst at h2
   by_cases hi:i<tn.length
   . rw [Yab (by simpa using hi),Yad,if_pos hi] at h2
     cases h2
   . rw [Yae (by simpa using hi),Ybb,Ya0] at h2
     cases ej:js[i - tn.length]? with
     | none=>rw [ej] at h2;cases h2
     | some j=>
      rw [ej] at h2;have h2':(σ[j]?).join=some v:=Wbe h2;have hσ : σ[j]?=some (some v):=by
       cases q:σ[j]? with
       | none=>rw [q] at h2';cases h2'
       | some o => rw [q] at h2'; cases o with
        | none=>cases h2'
        | some v'=>cases h2';rfl
      have h1':(tn++fn)[i]?=some x:=h1;rw [Yae #[0]] at h1'
      have hN:X.N[j]?=some x:=by
       have e:=congrArg (fun l=>l[i - tn.length]?) hj
       simp only [Ya0,ej,h1',Option.map_some] at e;exact Wbe e
      have hfx:scope.names.lookup x=some .free:=S.frees x (Yah h1');obtain⟨m,hn,hl⟩:=I.loc;have ok:X.env.scope.names.lookup x=some .cell\/X.env.scope.names.lookup x=some .free:=S.free (x,.free) (WaC hfx) rfl;obtain⟨u,r,l⟩:=hl j x v hN hσ (by rcases ok with z|z;exact .inr (.inl z);exact .inr (.inr z))
      refine⟨u,r,.inr ⟨zjI hfx,?_⟩⟩
      rcases l with ⟨k,_⟩|⟨_,c,ec,q⟩
      . have k':X.env.scope.names.lookup x=some .local:=k
        rcases ok with z|z<;>rw [z] at k'<;>cases k'
      . refine⟨c,?_,q.keeps keep⟩
        show(cellsFrom (s.heap.objs.size+1) scope.names cl).lookup x=some c
        rw [Za,List.lookup_append];have e1:(cellsFrom (s.heap.objs.size+1) scope.names []).lookup x=none:=by
         cases q1:(cellsFrom (s.heap.objs.size+1) scope.names []).lookup x with
         | none=>rfl
         | some c1=>
          have e2:=S.cell (x,.cell) (zcp _ _ _ _ (WaC q1)) rfl;have e2':scope.names.lookup x=some .cell:=e2;rw [hfx] at e2';cases e2'
        obtain⟨c2,q2⟩:=hcl2 x (WaC hfx);have:=hcl x c2 q2;rw [ec] at this;cases this;rw [e1,q2];rfl
 . rcases look x c e with q|q
   . exact⟨_,(hC.empty x c q).1⟩
   . obtain⟨v,z⟩:=I.cell x c q
     exact⟨v,z.keeps keep⟩
 . rcases look x c e with q|q
   . exact I.hok.fresh (Wbx (ownGe x c q))
   . exact I.freeC x c q
 . exact absurd (show p∈([]:List (Addr×Obj)) from hp) (by simp)
 . unfold cst
   show _=(tn++fn).length
   have:js.length=fn.length:=by have:=congrArg List.length hj;simpa using this
   rw [YaS,Ybb,YaR,YaS,this]
section
variable{X:Cx}{pins:List (Addr×Obj)}{σ : L2.St}{H:Hp}{s:Shared}{h':Heap}
theorem Inv.turnedL{t':Nat}{ch:List Addr}(I:Inv X pins σ H s)(k:∀ b o,b∉ch->s.heap.get? b=some o->h'.get? b=some o)(hf:∀ b∈ch,FpOk X pins H b):Inv X pins σ H { s with heap:=h',toks:=t' }:=by
 have nit:∀ b u,H b=some u->b∉ch:=fun b u e z=>by have:=(hf b z).1;rw [e] at this;cases this
 refine I.step (g':=s.gens) (d':=s.drawn) (ch:=ch) (fun b hb=>⟨(hf b hb).2.2.2.1,(hf b hb).2.1,(hf b hb).2.2.2.2.1,(hf b hb).2.2.2.2.2⟩) (fun b o _ _ hc e _=>k b o hc e) (fun b o _ _ hc e _=>⟨o.slots,k b o hc e⟩) (fun _ _ _ _ n=>n)
  (fun b o hc e=>⟨o,k b o hc e⟩) (fun _ _ e=>e) (fun _ _ _ e=>e) (fun b ps e=>⟨#[],by rw [e];simp⟩) (fun m hm=>?_) (fun b u e=>?_) I.bare
 . obtain⟨o,es,ep,ho,r⟩:=hm
   exact⟨o,es,ep,k _ o (fun z=>(hf _ z).2.1 rfl) ho,r⟩
 . refine(I.hok b u e).stay (fun c v hc q=>k c v ?_ q) (fun _ q=>q) fun _ _ q=>q
   rcases hc with z|z
   . rw [z];exact nit b u e
   . exact nit c _ z
theorem Inv.track{a:Addr}{o:HO}(I:Inv X pins σ H s)(hn:H a=none)(h0:X.s₀.heap.objs.size<=a)(hL:a≠X.env.locals)(hc:∀ x c,X.env.cells.lookup x=some c->c≠a)(hp:∀ p∈X.pn++pins,p.1≠a)(new:zD X.prog X.w (upd H a o) s.heap a o):Inv X pins σ (upd H a o) s:=by
 have no0:∀ b ob,X.s₀.heap.get? b=some ob->b≠a:=fun b ob e=>Yaf (YaU (YaX e) h0)
 refine⟨I.ok,I.os,I.bare,⟨I.base.keep,I.base.slot,fun b ob q n hx=>?_,I.base.there,fun b xs q=>?_,fun b ob u q=>?_,fun b ps q=>?_⟩,I.loc,I.cell,?_,fun x c e=>?_,fun p h=>?_,I.hok.track hn new,I.len⟩
 . rw [zh (no0 b ob q)];exact I.base.free b ob q n hx
 . have e:=I.base.tups b xs q;rw [zh (zS e hn)];exact e
 . have e:=I.base.frzs b ob u q;rw [zh (zS e hn)];exact e
 . obtain⟨m,e⟩:=I.base.tbls b ps q;exact⟨m,by rw [zh (zS e hn)];exact e⟩
 . rw [zh (WbL hL)];exact I.free
 . rw [zh (hc x c e)];exact I.freeC x c e
 . obtain⟨q1,q2,q3⟩:=I.pin p h
   exact⟨q1,by rw [zh (hp p h)];exact q2,q3⟩
end
def tTrue:TT:=fun _ H Q=>Q true H
def zbg(wi:TI)(g:TG)(tt:TT)(te:TE)(n:Nat)(js:List Nat):TE:=fun σ H Q=>wi σ H fun J H1=>∀ D,H1 D=none->∃ W:Nat->Nat->List V->St->Hp->Prop,(∃ m,W 0 m [] (cst n js σ) (upd H1 D (.lst [])))/\∀ i m ys σ1 H2,W i m ys σ1 H2->
 (J.stop i H2/\Q (.ref D) H2)\/(J.go i H2/\∀ x H3,J.yld i H2 x H3->g x σ1 H3 fun σ4 H4=>tt σ4 H4 fun b H5=>if b=true then te σ4 H5 fun y H6=>H6 D=some (.lst ys)/\ys.length<sizeLine/\∃ m',m'<m/\W (i+1) m' (ys++[y]) σ4 (upd H6 D (.lst (ys++[y]))) else ∃ m',m'<m/\W (i+1) m' ys σ4 H5)
def PTs(X:Cx)(ifs:List Expr)(t:TT):Prop:=
 ∀ (pins:List (Addr×Obj)) (s:Shared) (σ : St) (H:Hp) (Q:Bool->Hp->Prop),Inv X pins σ H s->t σ H Q->
  wpAny (model X.prog X.w) X.A (forIn ifs true fun c r=>if r=true then do let ok <-isTrue c X.env (eval c X.env);pure (ForInStep.yield ok) else pure (ForInStep.yield r)) (TP X pins σ Q) X.xe s
theorem znY{X:Cx}:PTs X [] tTrue:=fun _ _ _ H _ I h=>wpAny_tests_nil ⟨H,I,h⟩
theorem zej{X:Cx}{elt tg iter:Expr}{ifs:List Expr}{scope:Scope}{pos pos':Pos}{wi:TI}{g:TG}{tt:TT}{te:TE}{use:Option (Value->Sem Unit)}{Qc:Value->Shared->Prop}(tn fn:List Str)(js:List Nat)(hcalm:X.calm=true)(S:CompSc X.env.scope scope tn fn)(hj:js.map (fun j=>X.N[j]?)=fn.map some)(hi:PI X tg iter wi)
 (hb:∀ s H fp cl,PG (X.comp scope (tn++fn) s H fp cl) tg g/\PTs (X.comp scope (tn++fn) s H fp cl) ifs tt/\PE (X.comp scope (tn++fn) s H fp cl) elt te)
 (hs:∀ x,foldedSetIterable iter X.env x=pure x) {pins:List (Addr×Obj)} {s:Shared} {σ : L2.St} {H:Hp} {Q:VK} (I:Inv X pins σ H s) (h:zbg wi g tt te tn.length js σ H Q)
 (fin:∀ (D C:Addr) (s6:Shared) (H5:Hp) (m6:Str->Option Value),s6.heap.Ns C m6->FpOk X pins H5 C->Inv X pins σ H5 s6->Q (.ref D) H5->compPost (model X.prog X.w) X.A X.xe use Qc (.ref D) C (.ok .next) s6) :
 wpAny (model X.prog X.w) X.A (comprehension (.ListComp elt [⟨tg,iter,ifs,0⟩] scope pos) scope X.env pos' (newList []) false (eval iter X.env) use) Qc X.xe s:=by
 obtain⟨cl,hclos,hcl,hcl2⟩:=zha (env:=X.env) (scope:=scope) (fun x hx e=>I.ok.has x.1 (S.free x hx e))
 refine wpAny_comprehension_free (use:=use) rfl hs hclos S.kind S.loc (thn (hi pins s σ H _ I h) fun v s1 h1=>thn h1 fun itv s2 h2=>?_)
 obtain⟨it,fp,tn',J,H2,e,I2,T,st2,f2,k⟩:=h2;subst e;have hD:H2 s2.heap.objs.size=none:=I2.fresh;obtain⟨W,⟨m0,w0⟩,turn⟩:=k _ hD;refine wpAny_newObj_type ?_;have I3:Inv X pins σ (upd H2 s2.heap.objs.size (.lst [])) { s2 with heap:=s2.heap.push { cls:=.type "list", data:=.seq ([]:List Value).toArray } }:=I2.lnew (t':=s2.toks) (ys:=[]) (its:=[]) .nil (WbG _)
 generalize hs3:({ s2 with heap:=s2.heap.push { cls:=.type "list", data:=.seq ([]:List Value).toArray } }:Shared)=s3 at I3
 have hs3':s3.heap.objs.size=s2.heap.objs.size+1:=by rw [<-hs3];exact Wbk ..
 have up3:∀ b o,s2.heap.get? b=some o->s3.heap.get? b=some o:=fun b o e=>by rw [<-hs3];exact YaW _ e
 have flt:∀ b∈fp,b<s2.heap.objs.size:=fun b hb=>by
  obtain⟨o,e,_⟩:=T.obj _ _ st2 b hb;exact YaX e
 generalize hDn:s2.heap.objs.size=D at *;have f3:∀ b∈fp,FpOk X pins (upd H2 D (.lst [])) b:=fun b hb=>⟨by rw [zh (Yaf (flt b hb))];exact(f2 b hb).1,(f2 b hb).2⟩
 have flt3:∀ b∈fp,b<s3.heap.objs.size:=fun b hb=>by rw [hs3'];exact WaP (flt b hb)
 have I4:=zh5 I3 S hj f3 flt3 hcl hcl2;have st4:tn' 0 (pushCells (s3.heap.push { cls:=.type "dict", data:=.dict #[] }) scope.names):=T.keep _ _ _ st2 fun b _ o e=>pushCells_keeps _ _ b o (YaW _ (up3 b o e))
 obtain⟨pg,pt,pe⟩:=hb s3 (upd H2 D (.lst [])) fp cl;generalize hX:X.comp scope (tn++fn) s3 (upd H2 D (.lst [])) fp cl=Y at I4 pg pt pe;have Yp:Y.prog=X.prog:=by rw [<-hX];rfl
 have Yw:Y.w=X.w:=by rw [<-hX];rfl
 have YK:Y.K=X.K:=by rw [<-hX];rfl
 have YA:Y.A=X.A:=by rw [<-hX];rfl
 have Yc:Y.calm=true:=by rw [<-hX];exact hcalm
 have Yxe:Y.xe=fun _ _=>False:=by rw [<-hX];rfl
 have Yex:Y.ex=fp:=by rw [<-hX];rfl
 have Yfs:Y.fs=frs X.stack:=by rw [<-hX];rfl
 have Ypn:Y.pn=[]:=by rw [<-hX];rfl
 have Ys:Y.s₀ = s3:=by rw [<-hX];rfl
 have YH:Y.H₀ = upd H2 D (.lst []):=by rw [<-hX];rfl
 have YC:Y.env.locals=s3.heap.objs.size:=by rw [<-hX];rfl
 have Yenv:({ scope:=relabel scope X.env,locals:=s3.heap.objs.size,globals:=X.env.globals,cells:=cellsFrom (s3.heap.objs.size+1) scope.names cl,qual:=X.env.qual,func:=none,code:=X.env.code,frame:=X.env.frame,builtins:=X.env.builtins }:Env)=Y.env:=by rw [<-hX];rfl
 have stat:∀ {H':Hp},(∀ b∈fp,H' b=none)->∀ b∈fp,FpOk Y [] H' b:=fun hn b hb=>by
  refine⟨hn b hb,?_,?_,.inl (by rw [Yex];exact hb),fun x c e=>(I4.ok.exf b (by rw [Yex];exact hb)).2 x c e,fun p hp=>?_⟩
  . rw [YC];exact Yaf (flt3 b hb)
  . exact I4.ok.exfs b (by rw [Yex];exact hb)
  . rw [Ypn] at hp;exact absurd (show p∈([]:List (Addr×Obj)) from hp) (by simp)
 have loop:codeAny (model X.prog X.w) X.A (.compLoop (.ListComp elt [⟨tg,iter,ifs,0⟩] scope pos) 0 (.ref it) (.ref D) Y.env) (compPost (model X.prog X.w) X.A X.xe use Qc (.ref D) s3.heap.objs.size)
  { s3 with heap:=pushCells (s3.heap.push { cls:=.type "dict", data:=.dict #[] }) scope.names }:=by
  refine codeAny_loop rfl (fun n s'=>∃ i ys σ' H',Inv Y [] σ' H' s'/\tn' i s'.heap/\(∀ b∈fp,H' b=none)/\W i n ys σ' H') (fun n s5 hI=>?_) m0 ⟨0,[],_,_,I4,st4,fun b hb=>(f3 b hb).1,w0⟩
  obtain⟨i,ys,σ5,H5,I5,st5,fr5,w5⟩:=hI;show wpAny _ X.A ((compTurn (.ListComp elt [⟨tg,iter,ifs,0⟩] scope pos) 0 (.ref it) (.ref D) Y.env).onRaise (fun x=>do noteFrame x Y.env;theTreesLotGoes x)) _ _ s5
  refine wpAny_noted ?_
  rw [compTurn_list];refine wpAny_bind (wpAny_standAt (wpAny_bind ?_))
  rcases turn i n ys σ5 H5 w5 with ⟨stop,qn⟩|⟨go,step⟩
  . have d:=T.done Y Yp Yw YK Yc i [] s5 σ5 H5 (fun _ _=>False) I5 (stat fr5) st5 stop
    rw [YA] at d;refine wpAny_mono d (fun r s6 ⟨hr,I6⟩=>?_) fun _ _ z=>z.elim
    subst hr;refine wpAny_pure ?_;obtain⟨m6,ns6,_⟩:=I6.loc;rw [YC] at ns6;have hC:H5 s3.heap.objs.size=none:=by have:=I6.free;rwa [YC] at this
    have u6:=I6.base;rw [Yfs,Yex,YH,Ys] at u6;have os6:=I6.os;rw [Ys] at os6;have hok6:=I6.hok;rw [Yp,Yw] at hok6;have IX:Inv X pins σ H5 s6:=I3.call' (s':=s6) os6 u6 hok6 I6.bare (fun b hb=>⟨(f3 b hb).2.2.2.1,(f3 b hb).2.1,(f3 b hb).2.2.2.2.1,(f3 b hb).2.2.2.2.2⟩)
    exact fin D s3.heap.objs.size s6 H5 m6 ns6 (I3.fpOk (H':=H5) (YaY _) hC) IX qn
  . have d:=T.item Y Yp Yw YK Yc i [] s5 σ5 H5 (fun _ _=>False) I5 (stat fr5) st5 go
    rw [YA] at d;refine wpAny_mono d (fun r s6 ⟨u,hr,h6⟩=>?_) fun _ _ z=>z.elim
    subst hr;refine wpAny_bind (wpAny_mono h6 (fun _ s7 ⟨x,H7,I7,r7,y7,st7,fr7⟩=>?_) fun _ _ z=>z.elim)
    have I7':=I7.pinned (stat fr7) (T.obj _ _ st7);have a8:=pg _ s7 σ5 H7 x u _ I7' r7 (step x H7 y7);rw [YA,Yp,Yw,Yxe] at a8;refine wpAny_bind (wpAny_mono a8 (fun _ s8 ⟨σ8,H8,I8,q8⟩=>?_) fun _ _ z=>z.elim)
    have a9:=pt _ s8 σ8 H8 _ I8 q8;rw [YA,Yp,Yw,Yxe] at a9;have again:∀ {H':Hp} {s':Shared} {ys':List V} {m':Nat},m'<n->Inv Y ([]++zai fp s7.heap) σ8 H' s'->W (i+1) m' ys' σ8 H'->∃ m,m<n/\∃ i ys σ' H',Inv Y [] σ' H' s'/\tn' i s'.heap/\(∀ b∈fp,H' b=none)/\W i m ys σ' H':=fun {H' s' ys' m'} hm I' w'=>by
     refine⟨m',hm,i+1,ys',σ8,H',I'.unpinned,T.keep _ _ _ st7 fun b hb o e=>(I'.pin (b,o) (Yaa _ (Yaa _ (za4 hb e)))).1,fun b hb=>?_,w'⟩
     obtain⟨o,e,d⟩:=T.obj _ _ st7 b hb;exact(I'.pin (b,o) (Yaa _ (Yaa _ (za4 hb e)))).2.1
    refine wpAny_bind (wpAny_mono a9 (fun ok s9 ⟨H9,I9,q9⟩=>?_) fun _ _ z=>z.elim)
    cases ok with
    | false=>
     obtain⟨m',hm,w9⟩:=q9;exact wpAny_pure ⟨rfl,again hm I9 w9⟩
    | true=>
     have a10:=pe _ s9 σ8 H9 _ I9 q9;rw [YA,Yp,Yw,Yxe] at a10;refine wpAny_bind (wpAny_bind (wpAny_mono a10 (fun y10 s10 ⟨y,H10,I10,r10,e10,hz,m',hm,w10⟩=>?_) fun _ _ z=>z.elim))
     have a11:=zex (X:=Y) _ s10 σ8 H10 (.ref D) [y] (.ref D) [y10] (fun _ H'=>H'=upd H10 D (.lst (ys++[y]))) I10 rfl (.cons r10 .nil) ⟨D,ys,y,rfl,rfl,e10,hz,rfl⟩
     rw [YA,Yp,Yw,Yxe] at a11;refine wpAny_bind (wpAny_mono a11 (fun _ s11 ⟨_,H11,I11,_,e11⟩=>?_) fun _ _ z=>z.elim)
     subst e11;exact wpAny_pure (wpAny_pure ⟨rfl,again hm I11 w10⟩)
 have env4:wpAny (model X.prog X.w) X.A (newFunctionEnv scope X.env.globals cl [] X.env.qual none .none (some X.env)) (fun cenv s₄=>
  codeAny (model X.prog X.w) X.A (.compStart (.ListComp elt [⟨tg,iter,ifs,0⟩] scope pos) 0 (.ref it) (.ref D) { cenv with scope:=relabel scope X.env }) (compPost (model X.prog X.w) X.A X.xe use Qc (.ref D) cenv.locals) s₄) X.xe s3:=by
  simp only [newFunctionEnv,Option.isSome_some,if_true];refine wpAny_bind (wpAny_alloc ?_);refine wpAny_bind (wpAny_layCells _ (fun name kind cells=>by cases hkc:kind==NameKind.cell<;>simp [hkc]) _ _ _ _ ?_)
  rw [List.forIn_nil];refine wpAny_bind (wpAny_pure (wpAny_pure ?_));rw [show({ s3 with heap:=s3.heap.push { cls:=.type "dict", data:=.dict #[] } }:Shared).heap.objs.size=s3.heap.objs.size+1 from Wbk ..]
  dsimp only;rw [Yenv];exact codeAny_compStart_list loop (T.self _ 0 _ _ _ st4 loop)
 exact env4
theorem zhw{X:Cx}{elt tg iter:Expr}{ifs:List Expr}{scope:Scope}{pos:Pos}{wi:TI}{g:TG}{tt:TT}{te:TE}(tn fn:List Str)(js:List Nat)(hcalm:X.calm=true)(S:CompSc X.env.scope scope tn fn)(hj:js.map (fun j=>X.N[j]?)=fn.map some)(hi:PI X tg iter wi)
 (hb:∀ s H fp cl,PG (X.comp scope (tn++fn) s H fp cl) tg g/\PTs (X.comp scope (tn++fn) s H fp cl) ifs tt/\PE (X.comp scope (tn++fn) s H fp cl) elt te)
 (hs:∀ x,foldedSetIterable iter X.env x=pure x:=by intro _;rfl) :
 PE X (.ListComp elt [⟨tg,iter,ifs,0⟩] scope pos) (zbg wi g tt te tn.length js):=by
 intro pins s σ H Q I h;rw [eval_ListComp];refine zej (use:=none) tn fn js hcalm S hj hi hb hs I h fun D C s6 H5 m6 ns6 hC I6 q=>⟨m6,ns6,fun h' sb=>⟨.ref D,H5,?_,rfl,q⟩⟩
 exact I6.turnedL (t':=s6.toks) (ch:=[C]) (fun b o hb e=>sb.extBut b o (by simpa using hb) e) fun b hb=>by
  have e:b=C:=by simpa using hb
  subst e;exact hC
theorem ziI{X:Cx}{elt tg iter:Expr}{ifs:List Expr}{scope:Scope}{pos spos pos':Pos}{wi:TI}{g:TG}{tt:TT}{te:TE}{i:Nat}{x:Str}(hN:X.N.Nodup)(hix:X.N[i]?=some x)(hx:Loc X.env.scope x)(tn fn:List Str)(js:List Nat)(hcalm:X.calm=true)(S:CompSc X.env.scope scope tn fn)(hj:js.map (fun j=>X.N[j]?)=fn.map some)(hi:PI X tg iter wi)
 (hb:∀ s H fp cl,PG (X.comp scope (tn++fn) s H fp cl) tg g/\PTs (X.comp scope (tn++fn) s H fp cl) ifs tt/\PE (X.comp scope (tn++fn) s H fp cl) elt te)
 (hs:∀ x,foldedSetIterable iter X.env x=pure x:=by intro _;rfl)
 (hsw:swapsWith (.ListComp elt [⟨tg,iter,ifs,0⟩] scope pos) (some (.Name x pos')) spos.line X.env=pure true:=by rfl) (hf:X.fn x=true\/X.env.scope.names.lookup x=some .local:=by first|exact .inl rfl|exact .inr rfl|assumption) :
 PS X (.Assign [.Name x pos'] (.ListComp elt [⟨tg,iter,ifs,0⟩] scope pos) spos) (tAsg (zbg wi g tt te tn.length js) (zbX i)):=by
 intro pins s σ H D I h;rw [exec_Assign_Name_used _ _ _ _ hsw];refine wpAny_bind (wpAny_standAt (wpAny_bind ?_));show wpAny _ X.A (do let _ <-comprehension (.ListComp elt [⟨tg,iter,ifs,0⟩] scope pos) scope X.env _ (newList []) false (eval iter X.env) (some (assign (.Name x pos') X.env))) _ _ s
 refine wpAny_bind (wpAny_mono (zej (use:=some (assign (.Name x pos') X.env)) (Qc:=fun _ s'=>SP X pins D .next s') tn fn js hcalm S hj hi hb hs I h fun L C s6 H5 m6 ns6 hC I6 q=>?_) (fun _ s' hq=>wpAny_pure (wpAny_pure hq)) fun _ _ e=>e)
 show wpAny _ X.A (assign (.Name x pos') X.env (.ref L)) _ _ s6
 refine wpAny_assign_Name (zdW I6 hN hix hx (v:=.ref L) rfl (fun s7 I7 k7=>?_) hf)
 have kC:∃ m7,s7.heap.Ns C m7:=by
  obtain⟨a,sb,ha⟩:=k7;refine⟨m6,ns6.sameBut sb fun z=>?_⟩
  rcases ha with e|e
  . exact hC.2.1 (z.trans e)
  . exact hC.2.2.2.2.1 x a e z.symm
 obtain⟨m7,ns7⟩:=kC;refine⟨m7,ns7,fun h' sb=>⟨_,H5,I7.turnedL (t':=s7.toks) (ch:=[C]) (fun b o hb e=>sb.extBut b o (by simpa using hb) e) fun b hb=>?_,q⟩⟩
 have e:b=C:=by simpa using hb
 subst e;exact hC
theorem RdVs.length{K:Ybf}{H:Hp}{xs:List V}{ds:List PyData}(h:RdVs K H xs ds):xs.length=ds.length:=by
 induction xs generalizing ds with
 | nil=>cases h;rfl
 | cons x xs ih=>cases h with|cons a b=>rw [List.length_cons,List.length_cons,ih b]
theorem RdVs.get{K:Ybf}{H:Hp}{xs:List V}{ds:List PyData}{i:Nat}{d:PyData}(h:RdVs K H xs ds)(e:ds[i]?=some d):∃ x,xs[i]?=some x/\RdV K H x d:=by
 induction xs generalizing ds i with
 | nil=>cases h;simp at e
 | cons x xs ih=>
  cases h with
  | cons a b=>
   cases i with
   | zero=>cases e;exact⟨_,rfl,a⟩
   | succ i=>
    obtain⟨x,h1,h2⟩:=ih b (i:=i) (by simpa using e)
    exact⟨x,by simpa using h1,h2⟩
theorem RdVs.append{K:Ybf}{H:Hp}{xs ys:List V}{ds es:List PyData}(h:RdVs K H xs ds)(h':RdVs K H ys es):RdVs K H (xs++ys) (ds++es):=by
 induction xs generalizing ds with
 | nil=>cases h;exact h'
 | cons x xs ih=>cases h with|cons a b=>exact .cons a (ih b)
theorem RdVs.set{K:Ybf}{H:Hp}{x:V}{d:PyData}(h:RdV K H x d){xs:List V}{ds:List PyData}(i:Nat)(r:RdVs K H xs ds):RdVs K H (xs.set i x) (ds.set i d):=by
 induction xs generalizing ds i with
 | nil=>cases r;exact .nil
 | cons y xs ih=>
  cases r with
  | cons a b=>
   cases i with
   | zero=>exact .cons h b
   | succ i=>exact .cons a (ih i b)
theorem RdVs.take{K:Ybf}{H:Hp}{xs:List V}{ds:List PyData}(i:Nat)(r:RdVs K H xs ds):RdVs K H (xs.take i) (ds.take i):=by
 induction xs generalizing ds i with
 | nil=>cases r;rw [List.take_nil,List.take_nil];exact .nil
 | cons y xs ih=>
  cases r with
  | cons a b=>
   cases i with
   | zero=>exact .nil
   | succ i=>exact .cons a (ih i b)
theorem RdVs.drop{K:Ybf}{H:Hp}{xs:List V}{ds:List PyData}(i:Nat)(r:RdVs K H xs ds):RdVs K H (xs.drop i) (ds.drop i):=by
 induction xs generalizing ds i with
 | nil=>cases r;rw [List.drop_nil,List.drop_nil];exact .nil
 | cons y xs ih=>
  cases r with
  | cons a b=>
   cases i with
   | zero=>exact .cons a b
   | succ i=>exact ih i b
theorem RdVs.eraseIdx{K:Ybf}{H:Hp}{xs:List V}{ds:List PyData}(i:Nat)(r:RdVs K H xs ds):RdVs K H (xs.eraseIdx i) (ds.eraseIdx i):=by
 induction xs generalizing ds i with
 | nil=>cases r;exact .nil
 | cons y xs ih=>
  cases r with
  | cons a b=>
   cases i with
   | zero=>exact b
   | succ i=>exact .cons a (ih i b)
def tab0(P:Addr):HO:=.ext fun h=>h.get? P=some (PySem.W.tabObj #[])
def tabA(P c':Addr)(pos:Pos):HO:=.ext fun h=>∃ ps,h.get? P=some (PySem.W.tabObj ps)/\TriplesOk ps.toList/\codeAmong pos ps.toList=some (.ref c')
def jt(c':Addr)(q:Str):HO:=.ext fun h=>h.CodeRec (.ref c') q
class LamW where
 pos:Pos
 q:Str
def Lk[LamW](P:Addr)(H:Hp):Prop:=∃ c',H P=some (tabA P c' LamW.pos)/\H c'=some (jt c' LamW.q)
variable[LamW]
def zm(H H':Hp):Prop:=∀ b o,H b=some o->H' b=some o\/(o=tab0 b/\((∀ C,tab0 b≠excO b C)/\∀ q,tab0 b≠jt b q)/\Lk b H')
theorem Same.x{H H':Hp}(s:Same H H'):zm H H':=fun b o h=>.inl (s b o h)
theorem zm.refl(H:Hp):zm H H:=(Same.refl H).x
theorem zm.free{H H':Hp}(e:zm H H'){l:Addr}(h:H' l=none):H l=none:=by
 cases q:H l with
 | none=>rfl
 | some o=>
  rcases e l o q with z|⟨_,_,c',z,_⟩
  . rw [h] at z;cases z
  . rw [h] at z;cases z
theorem zm.at{H H':Hp}(e:zm H H'){b:Addr}{o:HO}(h:H b=some o)(n:∀ f,o≠.ext f:=by intro f z;cases z):H' b=some o:=by
 rcases e b o h with z|⟨z,_⟩
 . exact z
 . exact absurd z (n _)
theorem zm.exc{H H':Hp}(e:zm H H'){a C:Addr}(h:H a=some (excO a C)):H' a=some (excO a C):=by
 rcases e a _ h with z|⟨z,n,_⟩
 . exact z
 . exact absurd z.symm (n.1 C)
theorem zm.code{H H':Hp}(e:zm H H'){a:Addr}{q:Str}(h:H a=some (jt a q)):H' a=some (jt a q):=by
 rcases e a _ h with z|⟨z,n,_⟩
 . exact z
 . exact absurd z.symm (n.2 q)
theorem Lk.same{P:Addr}{H H':Hp}(l:Lk P H)(e:zm H H'):Lk P H':=by
 obtain⟨c',h1,h2⟩:=l
 rcases e P _ h1 with z|⟨_,_,z⟩
 . exact⟨c',z,e.code h2⟩
 . exact z
theorem zm.trans{H H1 H2:Hp}(a:zm H H1)(b:zm H1 H2):zm H H2:=fun c o h=>by
 rcases a c o h with z|⟨e,n,l⟩
 . exact b c o z
 . exact .inr ⟨e,n,l.same b⟩
def TabU(P:Addr)(H:Hp):Prop:=H P=some (tab0 P)\/Lk P H
theorem TabU.same{P:Addr}{H H':Hp}(t:TabU P H)(e:zm H H'):TabU P H':=by
 rcases t with h|h
 . rcases e P _ h with z|⟨_,_,l⟩
   . exact .inl z
   . exact .inr l
 . exact .inr (h.same e)
structure Sub(G H:Hp):Prop where
 s:Same G H
 cl:∀ a f,G a≠some (.ext f)
theorem Sub.free{G H:Hp}(e:Sub G H){l:Addr}(h:H l=none):G l=none:=e.s.free h
theorem Sub.seq{K:Ybf}{G H:Hp}{a:Addr}{xs:List V}(e:Sub G H)(h:SqL K G a xs):SqL K H a xs:=e.s.seq h
theorem Sub.tup{K:Ybf}{G H:Hp}{a:Addr}{xs:List V}(e:Sub G H)(h:SqT K G a xs):SqT K H a xs:=e.s.tup h
theorem Sub.trans{G H H':Hp}(e:Sub G H)(x:zm H H'):Sub G H':=⟨fun b o h=>x.at (e.s b o h) (fun f z=>by rw [z] at h;exact e.cl b f h),e.cl⟩
theorem Lk.upd{b D:Addr}{H:Hp}{o:HO}(l:Lk b H)(nb:b≠D)(hD:∀ f,H D≠some (.ext f)):Lk b (upd H D o):=by
 obtain⟨c',h1,h2⟩:=l;exact⟨c',by rw [zh nb];exact h1,by rw [zh (fun y=>by rw [y] at h2;exact hD _ h2)];exact h2⟩
theorem zm.chg{H0 H:Hp}{l:Addr}{o us:HO}(s:zm H0 H)(h0:H0 l=none)(hu:H l=some us)(hux:∀ f,us≠.ext f):zm H0 (upd H l o):=fun b u e=>by
 have nb:=zS e h0
 rcases s b u e with z|⟨z,n,c',h1,h2⟩
 . exact .inl (by rw [zh nb];exact z)
 . refine .inr ⟨z,n,c',by rw [zh nb];exact h1,?_⟩
   rw [zh (fun y=>by rw [y,hu] at h2;exact hux _ (Wbe h2))];exact h2
theorem zm.tup{K:Ybf}{H H':Hp}{a:Addr}{xs:List V}(e:zm H H')(h:SqT K H a xs):SqT K H' a xs:=by
 rcases h with (h|⟨o,h⟩)|h
 . exact .inl (.inl (e.at h))
 . exact .inl (.inr ⟨o,e.at h⟩)
 . exact .inr h
def cln(H:Hp):Hp:=fun a=>match H a with
 | some (.ext _)=>none
 | o=>o
theorem zbb{H:Hp}{a:Addr}{o:HO}(h:H a=some o)(n:∀ f,o≠.ext f:=by intro f z;cases z):cln H a=some o:=by
 unfold cln;rw [h];cases o<;>first|rfl|exact absurd rfl (n _)
theorem zem(H:Hp):Sub (cln H) H:=by
 refine⟨fun b o h=>?_,fun a f h=>?_⟩
 . unfold cln at h
   cases e:H b with
   | none=>rw [e] at h;cases h
   | some u=>rw [e] at h;cases u<;>first|exact h|cases h
 . unfold cln at h
   cases e:H a with
   | none=>rw [e] at h;cases h
   | some u=>rw [e] at h;cases u<;>cases h
end L2
namespace L3
open PySem PySem.Spec PyProof.Rows L2
variable[LamW]
abbrev D:=PyData
def keyD:Key->D
 | .inl i=>.int i
 | .inr x=>.str x
inductive Cl where
 | sh (f:Bool) (d:D)
 | ow (f:Bool) (ds:List D)
 | tr (ps:List Addr) (ms:List (List D))
 | dt (ds:List (List Key×D))
 | dk (ks:List Int)
 | fd (ds:List (List Key×D))
 | tk (k:List Key)
 | ex (C:Addr)
def Cl.d:Cl->D
 | .sh _ d=>d
 | .ow _ ds=>.list ds
 | .tr _ _=>.none
 | .dt _=>.none
 | .dk _=>.none
 | .fd _=>.none
 | .tk k=>.tuple (k.map keyD)
 | .ex _=>.none
def Cl.f:Cl->Bool
 | .sh f _=>f
 | .ow f _=>f
 | .tr _ _=>false
 | .dt _=>false
 | .dk _=>false
 | .fd _=>false
 | .tk _=>true
 | .ex _=>false
def zA:D->Bool
 | .int _=>true|.bool _=>true|.str _=>true|.none=>true|_=>false
abbrev Env3:=List (Option Cl)
structure Gr(G H G' H':Hp):Prop where
 g:Same G G'
 h:zm H H'
 sub:Sub G' H'
 new:∀ b o,G' b=some o->G b=some o\/H b=none\/∃ xs,o=.tup xs
theorem Gr.refl{G H:Hp}(s:Sub G H):Gr G H G H:=⟨Same.refl _,zm.refl _,s,fun _ _ e=>.inl e⟩
theorem Gr.trans{G H G1 H1 G2 H2:Hp}(a:Gr G H G1 H1)(b:Gr G1 H1 G2 H2):Gr G H G2 H2:=
 ⟨a.g.trans b.g,a.h.trans b.h,b.sub,fun c o e=>by
  rcases b.new c o e with q|q|q
  . exact a.new c o q
  . exact .inr (.inl (a.h.free q))
  . exact .inr (.inr q)⟩
theorem Gr.put{G H:Hp}{p:Addr}{o:HO}(s:Sub G H)(hp:H p=none)(ho:∀ f,o≠.ext f:=by intro f z;cases z):Gr G H (upd G p o) (upd H p o):=
 ⟨zJ (s.free hp) o,(zJ hp o).x,⟨fun b u e=>by
  by_cases hb:b=p
  . subst hb;rw [zl] at e ⊢;exact e
  . rw [zh hb] at e ⊢;exact s.s b u e,fun b f e=>by
  by_cases hb:b=p
  . subst hb;rw [zl] at e;exact ho f (Wbe e)
  . rw [zh hb] at e;exact s.cl b f e⟩,fun b u e=>by
  by_cases hb:b=p
  . subst hb;exact .inr (.inl hp)
  . rw [zh hb] at e;exact .inl e⟩
theorem Gr.apart{G H:Hp}{p:Addr}{o:HO}(s:Sub G H)(hp:H p=none):Gr G H G (upd H p o):=
 ⟨Same.refl _,(zJ hp o).x,s.trans (zJ hp o).x,fun _ _ e=>.inl e⟩
mutual
theorem J1{K:Ybf}{H H':Hp}(e:Same H H'):∀ {x:V} {d:D},RdV K H x d->RdV K H' x d
 | _,_,.non=>.non
 | _,_,.bl b=>.bl b
 | _,_,.int i=>.int i
 | _,_,.str x=>.str x
 | _,_,.lst q r=>.lst (e.seq q) (rdvs_same e r)
 | _,_,.tup q r=>.tup (e.tup q) (rdvs_same e r)
theorem rdvs_same{K:Ybf}{H H':Hp}(e:Same H H'):∀ {xs:List V} {ds:List D},RdVs K H xs ds->RdVs K H' xs ds
 | _,_,.nil=>.nil
 | _,_,.cons a b=>.cons (J1 e a) (rdvs_same e b)
end
theorem zhb{K:Ybf}{H:Hp}{a:Addr}{xs:List V}(h:SqL K H a xs):SqL K (cln H) a xs:=by
 rcases h with (h|⟨o,h⟩)|h
 . exact .inl (.inl (zbb h))
 . exact .inl (.inr ⟨o,zbb h⟩)
 . exact .inr h
theorem zmx{K:Ybf}{H:Hp}{a:Addr}{xs:List V}(h:SqT K H a xs):SqT K (cln H) a xs:=by
 rcases h with (h|⟨o,h⟩)|h
 . exact .inl (.inl (zbb h))
 . exact .inl (.inr ⟨o,zbb h⟩)
 . exact .inr h
mutual
theorem zl3{K:Ybf}{H:Hp}:∀ {x:V} {d:D},RdV K H x d->RdV K (cln H) x d
 | _,_,.non=>.non
 | _,_,.bl b=>.bl b
 | _,_,.int i=>.int i
 | _,_,.str x=>.str x
 | _,_,.lst q r=>.lst (zhb q) (rdvs_cln r)
 | _,_,.tup q r=>.tup (zmx q) (rdvs_cln r)
theorem rdvs_cln{K:Ybf}{H:Hp}:∀ {xs:List V} {ds:List D},RdVs K H xs ds->RdVs K (cln H) xs ds
 | _,_,.nil=>.nil
 | _,_,.cons a b=>.cons (zl3 a) (rdvs_cln b)
end
mutual
inductive RdN(K:Ybf)(H0 G:Hp):V->D->Prop
 | non:RdN K H0 G .non .none
 | bl (b):RdN K H0 G (.bl b) (.bool b)
 | int (i):RdN K H0 G (.int i) (.int i)
 | str (x):RdN K H0 G (.str x) (.str x)
 | lst {a xs ds}:G a=some (.lst xs)->H0 a=none->RdNs K H0 G xs ds->RdN K H0 G (.ref a) (.list ds)
 | tup {a xs ds}:G a=some (.tup xs)->RdNs K H0 G xs ds->RdN K H0 G (.ref a) (.tuple ds)
inductive RdNs(K:Ybf)(H0 G:Hp):List V->List D->Prop
 | nil:RdNs K H0 G [] []
 | cons {x xs d ds}:RdN K H0 G x d->RdNs K H0 G xs ds->RdNs K H0 G (x::xs) (d::ds)
end
mutual
theorem zfh{K:Ybf}{H0 G:Hp}:∀ {x:V} {d:D},RdN K H0 G x d->RdV K G x d
 | _,_,.non=>.non
 | _,_,.bl b=>.bl b
 | _,_,.int i=>.int i
 | _,_,.str x=>.str x
 | _,_,.lst q _ r=>.lst (SqL.of q) (rdns_rd r)
 | _,_,.tup q r=>.tup (SqT.of q) (rdns_rd r)
theorem rdns_rd{K:Ybf}{H0 G:Hp}:∀ {xs:List V} {ds:List D},RdNs K H0 G xs ds->RdVs K G xs ds
 | _,_,.nil=>.nil
 | _,_,.cons a b=>.cons (zfh a) (rdns_rd b)
end
mutual
theorem jn{K:Ybf}{H0 H1 G G':Hp}(e:Same G G')(h:∀ a o,G a=some o->H0 a=none->H1 a=none):∀ {x:V} {d:D},RdN K H0 G x d->RdN K H1 G' x d
 | _,_,.non=>.non
 | _,_,.bl b=>.bl b
 | _,_,.int i=>.int i
 | _,_,.str x=>.str x
 | _,_,.lst q n r=>.lst (e _ _ q) (h _ _ q n) (rdns_mono e h r)
 | _,_,.tup q r=>.tup (e _ _ q) (rdns_mono e h r)
theorem rdns_mono{K:Ybf}{H0 H1 G G':Hp}(e:Same G G')(h:∀ a o,G a=some o->H0 a=none->H1 a=none):∀ {xs:List V} {ds:List D},RdNs K H0 G xs ds->RdNs K H1 G' xs ds
 | _,_,.nil=>.nil
 | _,_,.cons a b=>.cons (jn e h a) (rdns_mono e h b)
end
theorem zaT{K:Ybf}{H0 G:Hp}{v:V}{d:D}(h:zA d=true)(r:RdV K G v d):RdN K H0 G v d:=by
 cases r with
 | non=>exact .non
 | bl b=>exact .bl b
 | int i=>exact .int i
 | str s=>exact .str s
 | lst _ _=>cases h
 | tup _ _=>cases h
structure Rf(K:Ybf)(H0 G:Hp)(f:Bool)(v:V)(d:D):Prop where
 rd:RdV K G v d
 nw:f=true->RdN K H0 G v d
structure Rfs(K:Ybf)(H0 G:Hp)(f:Bool)(v:List V)(d:List D):Prop where
 rd:RdVs K G v d
 nw:f=true->RdNs K H0 G v d
theorem Rf.same{K:Ybf}{H0 G G':Hp}{f:Bool}{v:V}{d:D}(r:Rf K H0 G f v d)(e:Same G G'):Rf K H0 G' f v d:=⟨J1 e r.rd,fun h=>jn e (fun _ _ _ n=>n) (r.nw h)⟩
theorem Rfs.same{K:Ybf}{H0 G G':Hp}{f:Bool}{v:List V}{d:List D}(r:Rfs K H0 G f v d)(e:Same G G'):Rfs K H0 G' f v d:=⟨rdvs_same e r.rd,fun h=>rdns_mono e (fun _ _ _ n=>n) (r.nw h)⟩
theorem Rf.sc{K:Ybf}{H0 G:Hp}{f:Bool}{v:V}{d:D}(h:zA d=true)(r:RdV K G v d):Rf K H0 G f v d:=⟨r,fun _=>zaT h r⟩
theorem Rf.no{K:Ybf}{H0 G:Hp}{v:V}{d:D}(r:RdV K G v d):Rf K H0 G false v d:=⟨r,fun h=>by cases h⟩
theorem Rf.or{K:Ybf}{H0 G:Hp}{f:Bool}{v:V}{d:D}(r:Rf K H0 G f v d):Rf K H0 G (f||zA d) v d:=⟨r.rd,fun h=>by
 cases f with
 | true=>exact r.nw rfl
 | false=>exact zaT (by simpa using h) r.rd⟩
theorem Rfs.nil{K:Ybf}{H0 G:Hp}{f:Bool}:Rfs K H0 G f [] []:=⟨.nil,fun _=>.nil⟩
theorem Rfs.cons{K:Ybf}{H0 G:Hp}{f g:Bool}{v:V}{d:D}{vs:List V}{ds:List D}(r:Rf K H0 G f v d)(rs:Rfs K H0 G g vs ds):Rfs K H0 G (f&&g) (v::vs) (d::ds):=⟨.cons r.rd rs.rd,fun h=>by
 rw [Yak] at h;exact .cons (r.nw h.1) (rs.nw h.2)⟩
theorem zil{K:Ybf}{H0 H:Hp}{xs:List V}{ds:List D}{i:Nat}{x:V}{d:D}(r:RdNs K H0 H xs ds)(e:xs[i]?=some x)(e':ds[i]?=some d):RdN K H0 H x d:=by
 induction xs generalizing ds i with
 | nil=>simp at e
 | cons y xs ih=>
  cases r with
  | cons a b=>
   cases i with
   | zero=>cases e;cases e';exact a
   | succ i=>exact ih b (i:=i) (by simpa using e) (by simpa using e')
theorem Rfs.get{K:Ybf}{H0 G:Hp}{f:Bool}{vs:List V}{ds:List D}{i:Nat}{d:D}(r:Rfs K H0 G f vs ds)(h:ds[i]?=some d):∃ v,vs[i]?=some v/\Rf K H0 G f v d:=by
 obtain⟨v,h1,h2⟩:=r.rd.get h;exact⟨v,h1,h2,fun hf=>zil (r.nw hf) h1 h⟩
theorem zgL{K:Ybf}{H0 G:Hp}{vs:List V}{ds:List D}(h:ds.all zA=true)(r:RdVs K G vs ds):RdNs K H0 G vs ds:=by
 induction vs generalizing ds with
 | nil=>cases r;exact .nil
 | cons v vs ih=>
  cases r with
  | cons a b=>
   rw [List.all_cons,Yak] at h;exact .cons (zaT h.1 a) (ih h.2 b)
theorem Rfs.or{K:Ybf}{H0 G:Hp}{f:Bool}{vs:List V}{ds:List D}(r:Rfs K H0 G f vs ds):Rfs K H0 G (f||ds.all zA) vs ds:=⟨r.rd,fun h=>by
 cases f with
 | true=>exact r.nw rfl
 | false=>exact zgL (by simpa using h) r.rd⟩
theorem zaC(ws:List Int):(ws.map PyData.int).all zA=true:=by
 rw [List.all_map];exact Wa7.mpr fun _ _=>rfl
theorem Rfs.length{K:Ybf}{H0 G:Hp}{f:Bool}{vs:List V}{ds:List D}(r:Rfs K H0 G f vs ds):vs.length=ds.length:=r.rd.length
theorem zb3{K:Ybf}{H0 H:Hp}{xs ys:List V}{ds es:List D}(h:RdNs K H0 H xs ds)(h':RdNs K H0 H ys es):RdNs K H0 H (xs++ys) (ds++es):=by
 induction xs generalizing ds with
 | nil=>cases h;exact h'
 | cons x xs ih=>cases h with|cons a b=>exact .cons a (ih b)
theorem zjM{K:Ybf}{H0 H:Hp}{x:V}{d:D}(h:RdN K H0 H x d){xs:List V}{ds:List D}(i:Nat)(r:RdNs K H0 H xs ds):RdNs K H0 H (xs.set i x) (ds.set i d):=by
 induction xs generalizing ds i with
 | nil=>cases r;exact .nil
 | cons y xs ih=>
  cases r with
  | cons a b=>
   cases i with
   | zero=>exact .cons h b
   | succ i=>exact .cons a (ih i b)
theorem zjF{K:Ybf}{H0 H:Hp}{xs:List V}{ds:List D}(i:Nat)(r:RdNs K H0 H xs ds):RdNs K H0 H (xs.take i) (ds.take i):=by
 induction xs generalizing ds i with
 | nil=>cases r;rw [List.take_nil,List.take_nil];exact .nil
 | cons y xs ih=>
  cases r with
  | cons a b=>
   cases i with
   | zero=>exact .nil
   | succ i=>exact .cons a (ih i b)
theorem ziU{K:Ybf}{H0 H:Hp}{xs:List V}{ds:List D}(i:Nat)(r:RdNs K H0 H xs ds):RdNs K H0 H (xs.drop i) (ds.drop i):=by
 induction xs generalizing ds i with
 | nil=>cases r;rw [List.drop_nil,List.drop_nil];exact .nil
 | cons y xs ih=>
  cases r with
  | cons a b=>
   cases i with
   | zero=>exact .cons a b
   | succ i=>exact ih i b
theorem zkB{K:Ybf}{H0 H:Hp}{xs:List V}{ds:List D}(i:Nat)(r:RdNs K H0 H xs ds):RdNs K H0 H (xs.eraseIdx i) (ds.eraseIdx i):=by
 induction xs generalizing ds i with
 | nil=>cases r;exact .nil
 | cons y xs ih=>
  cases r with
  | cons a b=>
   cases i with
   | zero=>exact b
   | succ i=>exact .cons a (ih i b)
theorem Rfs.snoc{K:Ybf}{H0 G:Hp}{f g:Bool}{v:V}{d:D}{vs:List V}{ds:List D}(rs:Rfs K H0 G g vs ds)(r:Rf K H0 G f v d):Rfs K H0 G (g&&f) (vs++[v]) (ds++[d]):=⟨rs.rd.append (.cons r.rd .nil),fun h=>by
 rw [Yak] at h;exact zb3 (rs.nw h.1) (.cons (r.nw h.2) .nil)⟩
theorem Rfs.append{K:Ybf}{H0 G:Hp}{f g:Bool}{us:List V}{es:List D}{vs:List V}{ds:List D}(rs:Rfs K H0 G g vs ds)(r:Rfs K H0 G f us es):Rfs K H0 G (g&&f) (vs++us) (ds++es):=⟨rs.rd.append r.rd,fun h=>by
 rw [Yak] at h;exact zb3 (rs.nw h.1) (r.nw h.2)⟩
theorem Rfs.set{K:Ybf}{H0 G:Hp}{f g:Bool}{v:V}{d:D}{vs:List V}{ds:List D}(rs:Rfs K H0 G g vs ds)(r:Rf K H0 G f v d)(i:Nat):Rfs K H0 G (g&&f) (vs.set i v) (ds.set i d):=⟨rs.rd.set r.rd i,fun h=>by
 rw [Yak] at h;exact zjM (r.nw h.2) i (rs.nw h.1)⟩
theorem Rfs.take{K:Ybf}{H0 G:Hp}{g:Bool}{vs:List V}{ds:List D}(rs:Rfs K H0 G g vs ds)(i:Nat):Rfs K H0 G g (vs.take i) (ds.take i):=⟨rs.rd.take i,fun h=>zjF i (rs.nw h)⟩
theorem Rfs.drop{K:Ybf}{H0 G:Hp}{g:Bool}{vs:List V}{ds:List D}(rs:Rfs K H0 G g vs ds)(i:Nat):Rfs K H0 G g (vs.drop i) (ds.drop i):=⟨rs.rd.drop i,fun h=>ziU i (rs.nw h)⟩
theorem Rfs.eraseIdx{K:Ybf}{H0 G:Hp}{g:Bool}{vs:List V}{ds:List D}(rs:Rfs K H0 G g vs ds)(i:Nat):Rfs K H0 G g (vs.eraseIdx i) (ds.eraseIdx i):=⟨rs.rd.eraseIdx i,fun h=>zkB i (rs.nw h)⟩
structure Tr(K:Ybf)(H0 G H:Hp)(l:Addr)(ps:List Addr)(ms:List (List D)):Prop where
 top:H l=some (.lst (ps.map V.ref))
 topG:G l=none
 nd:(l::ps).Nodup
 len:ps.length=ms.length
 item:∀ (k:Nat) (p:Addr) (m:List D),ps[k]?=some p->ms[k]?=some m->∃ vs,H p=some (.lst vs)/\G p=none/\Rfs K H0 G true vs m
inductive Dr(K:Ybf)(H0 G:Hp):List (List Key×V)->List (List Key×D)->Prop
 | nil:Dr K H0 G [] []
 | cons {k v d kvs ds}:Rf K H0 G true v d->Dr K H0 G kvs ds->Dr K H0 G ((k,v)::kvs) ((k,d)::ds)
theorem Dr.same{K:Ybf}{H0 G G':Hp}{kvs:List (List Key×V)}{ds:List (List Key×D)}(r:Dr K H0 G kvs ds)(e:Same G G'):Dr K H0 G' kvs ds:=by
 induction r with
 | nil=>exact .nil
 | cons a b ih=>exact .cons (a.same e) ih
def KAt(G:Hp)(o:Obj)(kvs:List (List Key×V)):Prop:=∃ (es:Array DictEntry) (ep:Nat) (as:List Addr),o.ExactDict/\o.data=.dict es ep/\es.toList.map (·.key)=as.map Value.ref/\as.length=kvs.length/\∀ (j:Nat) (a:Addr) (k:List Key) (v:V),as[j]?=some a->kvs[j]?=some (k,v)->G a=some (.tup (k.map kV))
theorem KAt.same{G G':Hp}{o:Obj}{kvs:List (List Key×V)}(h:KAt G o kvs)(g:Same G G'):KAt G' o kvs:=by
 obtain⟨es,ep,as,h0,h1,h2,h3,h4⟩:=h;exact⟨es,ep,as,h0,h1,h2,h3,fun j a k v e1 e2=>g _ _ (h4 j a k v e1 e2)⟩
inductive Vw(K:Ybf)(H0 G H:Hp):V->Cl->Prop
 | sh {v f d}:Rf K H0 G f v d->Vw K H0 G H v (.sh f d)
 | ow {l vs f ds}:H l=some (.lst vs)->Rfs K H0 G f vs ds->G l=none->Vw K H0 G H (.ref l) (.ow f ds)
 | tr {l ps ms}:Tr K H0 G H l ps ms->Vw K H0 G H (.ref l) (.tr ps ms)
 | dt {l kvs ds}:H l=some (.dT kvs)->Dr K H0 G kvs ds->G l=none->Vw K H0 G H (.ref l) (.dt ds)
 | dk {l ks}:H l=some (.dK (ks.map fun k=>(Sum.inl k,V.bl true)))->G l=none->Vw K H0 G H (.ref l) (.dk ks)
 | fd {l o kvs ds}:G l=some (.frz o (.dT kvs))->Dr K H0 G kvs ds->KAt G o kvs->Vw K H0 G H (.ref l) (.fd ds)
 | tk {b k}:G b=some (.tup (k.map kV))->Vw K H0 G H (.ref b) (.tk k)
 | ex {l C}:H l=some (excO l C)->Vw K H0 G H (.ref l) (.ex C)
def Cl.dat:Cl->Bool
 | .ex _=>false
 | .tr _ _=>false
 | .dt _=>false
 | .dk _=>false
 | .fd _=>false
 | _=>true
def Has:Cl->V->Addr->Prop
 | .ow _ _,v,a=>v=.ref a
 | .tr ps _,v,a=>v=.ref a\/a∈ps
 | .dt _,v,a=>v=.ref a
 | .dk _,v,a=>v=.ref a
 | _,_,_=>False
theorem Tr.at{K:Ybf}{H0 G H:Hp}{l:Addr}{ps:List Addr}{ms:List (List D)}(t:Tr K H0 G H l ps ms){p:Addr}(h:p∈ps):∃ m vs,H p=some (.lst vs)/\G p=none/\Rfs K H0 G true vs m:=by
 obtain⟨k,hk,e⟩:=Yam h;have hk':k<ms.length:=by rw [<-t.len];exact hk
 obtain⟨vs,h1⟩:=t.item k p ms[k] (by rw [<-e];exact YaQ hk) (YaQ hk')
 exact⟨_,vs,h1⟩
theorem Vw.has{K:Ybf}{H0 G H:Hp}{v:V}{c:Cl}{a:Addr}(w:Vw K H0 G H v c)(h:Has c v a):(∃ o,H a=some o/\∀ f,o≠.ext f)/\G a=none:=by
 cases w with
 | sh r=>exact False.elim h
 | ex e=>exact False.elim h
 | fd _ _ _=>exact False.elim h
 | tk _=>exact False.elim h
 | ow e r n=>cases h;exact⟨⟨_,e,fun C z=>by cases z⟩,n⟩
 | dt e r n=>cases h;exact⟨⟨_,e,fun C z=>by cases z⟩,n⟩
 | dk e n=>cases h;exact⟨⟨_,e,fun C z=>by cases z⟩,n⟩
 | tr t=>
  rcases h with h|h
  . cases h;exact⟨⟨_,t.top,fun C z=>by cases z⟩,t.topG⟩
  . obtain⟨m,vs,h1,h2,_⟩:=t.at h
    exact⟨⟨_,h1,fun C z=>by cases z⟩,h2⟩
theorem Vw.turn{K:Ybf}{H0 G H G' H':Hp}{v:V}{c:Cl}(w:Vw K H0 G H v c)(g:Same G G')(hx:∀ a C,H a=some (excO a C)->H' a=some (excO a C))(hh:∀ a,Has c v a->H' a=H a/\G' a=G a):Vw K H0 G' H' v c:=by
 cases w with
 | sh r=>exact .sh (r.same g)
 | ex h=>exact .ex (hx _ _ h)
 | fd h r k=>exact .fd (g _ _ h) (r.same g) (k.same g)
 | tk h=>exact .tk (g _ _ h)
 | ow h r n=>
  obtain⟨h1,h2⟩:=hh _ rfl;exact .ow (h1.trans h) (r.same g) (h2.trans n)
 | dt h r n=>
  obtain⟨h1,h2⟩:=hh _ rfl;exact .dt (h1.trans h) (r.same g) (h2.trans n)
 | dk h n=>
  obtain⟨h1,h2⟩:=hh _ rfl;exact .dk (h1.trans h) (h2.trans n)
 | tr t=>
  obtain⟨h1,h2⟩:=hh _ (.inl rfl);refine .tr ⟨h1.trans t.top,h2.trans t.topG,t.nd,t.len,fun k p m hp hm=>?_⟩
  obtain⟨vs,q1,q2,q3⟩:=t.item k p m hp hm;obtain⟨h3,h4⟩:=hh p (.inr (Yah hp));exact⟨vs,h3.trans q1,h4.trans q2,q3.same g⟩
theorem Vw.ntup{K:Ybf}{H0 G H:Hp}{v:V}{c:Cl}{a:Addr}(w:Vw K H0 G H v c)(h:Has c v a):∀ xs,H a≠some (.tup xs):=by
 cases w with
 | sh r=>exact False.elim h
 | ex e=>exact False.elim h
 | fd _ _ _=>exact False.elim h
 | tk _=>exact False.elim h
 | ow e r n=>cases h;intro xs z;rw [e] at z;cases z
 | dt e r n=>cases h;intro xs z;rw [e] at z;cases z
 | dk e n=>cases h;intro xs z;rw [e] at z;cases z
 | tr t=>
  rcases h with h|h
  . cases h;intro xs z;rw [t.top] at z;cases z
  . obtain⟨m,vs,h1,h2,_⟩:=t.at h
    intro xs z;rw [h1] at z;cases z
theorem Gr.hid{G H G' H':Hp}(g:Gr G H G' H'){l:Addr}{o:HO}(h:H l=some o)(n:G l=none)(hx:∀ f,o≠.ext f)(ht:∀ xs,H l≠some (.tup xs)):G' l=none:=by
 cases e:G' l with
 | none=>rfl
 | some o=>
  rcases g.new _ _ e with q|q|⟨xs,q⟩
  . rw [n] at q;cases q
  . rw [h] at q;cases q
  . have:=g.sub.s _ _ e
    rw [g.h.at h hx,q] at this;exact absurd (h.trans this) (ht xs)
theorem Vw.gr{K:Ybf}{H0 G H G' H':Hp}{v:V}{c:Cl}(w:Vw K H0 G H v c)(g:Gr G H G' H'):Vw K H0 G' H' v c:=
 w.turn g.g (fun a C e=>g.h.exc e) fun a h=>by
  obtain⟨⟨o,e,no⟩,n⟩:=w.has h;exact⟨(g.h.at e no).trans e.symm,(g.hid e n no (w.ntup h)).trans n.symm⟩
theorem zaE{K:Ybf}{G:Hp}:∀ k:List Key,RdVs K G (k.map kV) (k.map keyD)
 | []=>.nil
 | .inl i::r=>.cons (.int i) (zaE r)
 | .inr x::r=>.cons (.str x) (zaE r)
theorem zaU{K:Ybf}{H0 G:Hp}:∀ k:List Key,RdNs K H0 G (k.map kV) (k.map keyD)
 | []=>.nil
 | .inl i::r=>.cons (.int i) (zaU r)
 | .inr x::r=>.cons (.str x) (zaU r)
theorem Vw.rd{K:Ybf}{H0 G H:Hp}{v:V}{c:Cl}(w:Vw K H0 G H v c)(s:Sub G H)(hc:c.dat=true):RdV K H v c.d:=by
 cases w with
 | sh r=>exact J1 s.s r.rd
 | ow h r n=>exact .lst (SqL.of h) (rdvs_same s.s r.rd)
 | tr t=>cases hc
 | dt _ _ _=>cases hc
 | dk _ _=>cases hc
 | fd _ _ _=>cases hc
 | tk h=>exact .tup (SqT.of (s.s _ _ h)) (zaE _)
 | ex h=>cases hc
inductive Vws(K:Ybf)(H0 G H:Hp):List V->List Cl->Prop
 | nil:Vws K H0 G H [] []
 | cons {v c vs cs}:Vw K H0 G H v c->Vws K H0 G H vs cs->Vws K H0 G H (v::vs) (c::cs)
theorem Vws.gr{K:Ybf}{H0 G H G' H':Hp}(g:Gr G H G' H'){vs:List V}{cs:List Cl}(h:Vws K H0 G H vs cs):Vws K H0 G' H' vs cs:=by
 induction h with
 | nil=>exact .nil
 | cons a b ih=>exact .cons (a.gr g) ih
def shs:List Cl->Option (Bool×List D)
 | []=>some (true,[])
 | .sh f d::r=>(shs r).map fun p=>((f&&p.1),d::p.2)
 | .ow _ _::_=>none
 | .tr _ _::_=>none
 | .dt _::_=>none
 | .dk _::_=>none
 | .fd _::_=>none
 | .tk _::_=>none
 | .ex _::_=>none
theorem Vws.shs{K:Ybf}{H0 G H:Hp}{vs:List V}{cs:List Cl}{p:Bool×List D}(h:Vws K H0 G H vs cs)(e:shs cs=some p):Rfs K H0 G p.1 vs p.2:=by
 induction h generalizing p with
 | nil=>cases e;exact .nil
 | cons a b ih=>
  cases a with
  | sh r=>
   unfold L3.shs at e;rename_i cs' f d;cases q:L3.shs cs' with
   | none=>rw [q] at e;cases e
   | some ds=>rw [q] at e;cases e;exact .cons r (ih q)
  | ow _ _ _=>cases e
  | tr _=>cases e
  | dt _ _ _=>cases e
  | dk _ _=>cases e
  | fd _ _ _=>cases e
  | tk _=>cases e
  | ex _=>cases e
theorem Vws.rds{K:Ybf}{H0 G H:Hp}(s:Sub G H){vs:List V}{cs:List Cl}(h:Vws K H0 G H vs cs)(hd:cs.all Cl.dat=true):RdVs K H vs (cs.map Cl.d):=by
 induction h with
 | nil=>exact .nil
 | cons a b ih=>
  rw [List.all_cons,Yak] at hd;exact .cons (a.rd s hd.1) (ih hd.2)
structure Fr3(K:Ybf)(H0 G0:Hp)(ρ : Env3)(σ : L2.St)(G H:Hp):Prop where
 keep:zm H0 H
 sub:Sub G H
 old:∀ b o,G b=some o->G0 b=some o\/H0 b=none\/∃ xs,o=.tup xs
 g0:Same G0 G
 slot:∀ (i:Nat) (c:Cl),ρ[i]?=some (some c)->∃ v,σ[i]?=some (some v)/\Vw K H0 G H v c
 mine:∀ (i:Nat) (c:Cl) (v:V) (a:Addr),ρ[i]?=some (some c)->σ[i]?=some (some v)->Has c v a->H0 a=none
 apart:∀ (i j:Nat) (c c':Cl) (v v':V) (a:Addr),ρ[i]?=some (some c)->ρ[j]?=some (some c')->σ[i]?=some (some v)->σ[j]?=some (some v')->Has c v a->Has c' v' a->i=j
 len:ρ.length = σ.length
section
variable{K:Ybf}{H0 G0:Hp}{ρ : Env3}{σ : L2.St}{G H G' H':Hp}
theorem Fr3.gr(F:Fr3 K H0 G0 ρ σ G H)(g:Gr G H G' H'):Fr3 K H0 G0 ρ σ G' H' where
 keep:=F.keep.trans g.h
 sub:=g.sub
 old:=fun b o e=>by
  rcases g.new b o e with q|q|q
  . exact F.old b o q
  . exact .inr (.inl (F.keep.free q))
  . exact .inr (.inr q)
 g0:=F.g0.trans g.g
 slot:=fun i c e=>by
  obtain⟨v,h1,h2⟩:=F.slot i c e;exact⟨v,h1,h2.gr g⟩
 mine:=F.mine
 apart:=F.apart
 len:=F.len
theorem zF{α : Type}{l:List α}{i j:Nat}{x y:α}(h:(l.set i x)[j]?=some y):(i=j/\y=x/\i<l.length)\/(i≠j/\l[j]?=some y):=by
 by_cases e:i=j
 . subst e
   rw [List.getElem?_set_self'] at h;cases q:l[i]? with
   | none=>rw [q] at h;cases h
   | some z=>
    rw [q] at h;cases h;exact .inl ⟨rfl,rfl,(Ya8.mp q).1⟩
 . rw [Yac e] at h
   exact .inr ⟨e,h⟩
theorem Fr3.vw(F:Fr3 K H0 G0 ρ σ G H){i:Nat}{c:Cl}{v:V}(h:ρ[i]?=some (some c))(h':σ[i]?=some (some v)):Vw K H0 G H v c:=by
 obtain⟨u,h1,h2⟩:=F.slot i c h;rw [h'] at h1;cases h1;exact h2
theorem Fr3.put(F:Fr3 K H0 G0 ρ σ G H){i:Nat}{v:V}{c:Cl}(s:zm H H')(w:Vw K H0 G H' v c)(hn:∀ a,Has c v a->H a=none):Fr3 K H0 G0 (ρ.set i (some c)) (σ.set i (some v)) G H':=by
 have F':=F.gr (G':=G) (H':=H') ⟨Same.refl _,s,F.sub.trans s,fun _ _ e=>.inl e⟩
 have ne:∀ (j:Nat) (c':Cl) (v':V) (a:Addr),ρ[j]?=some (some c')->σ[j]?=some (some v')->Has c' v' a->Has c v a->False:=fun j c' v' a e e' h h'=>by
  obtain⟨⟨o,q,_⟩,_⟩:=(F.vw e e').has h;rw [hn a h'] at q;cases q
 exact {
  keep:=F'.keep
  sub:=F'.sub
  old:=F'.old
  g0:=F'.g0
  slot:=fun j c' e=>by
   rcases zF e with ⟨rfl,q,hl⟩|⟨n,q⟩
   . cases q
     exact⟨v,by rw [Yas (by rw [<-F.len];exact hl)],w⟩
   . obtain⟨v',h1,h2⟩:=F'.slot j c' q
     exact⟨v',by rw [Yac n];exact h1,h2⟩
  mine:=fun j c' v' a e e' h=>by
   rcases zF e with ⟨rfl,q,hl⟩|⟨n,q⟩
   . cases q
     rw [Yas (by rw [<-F.len];exact hl)] at e'
     cases e';exact F.keep.free (hn a h)
   . rw [Yac n] at e'
     exact F.mine j c' v' a q e' h
  apart:=fun j k c1 c2 v1 v2 a e1 e2 e3 e4 h1 h2=>by
   rcases zF e1 with ⟨rfl,q,hl⟩|⟨n,q⟩
   . rcases zF e2 with ⟨rfl,q',hl'⟩|⟨n',q'⟩
     . rfl
     . cases q
       rw [Yas (by rw [<-F.len];exact hl)] at e3
       cases e3;rw [Yac n'] at e4
       exact(ne k c2 v2 a q' e4 h2 h1).elim
   . rcases zF e2 with ⟨rfl,q',hl'⟩|⟨n',q'⟩
     . cases q'
       rw [Yas (by rw [<-F.len];exact hl')] at e4
       cases e4;rw [Yac n] at e3
       exact(ne j c1 v1 a q e3 h1 h2).elim
     . rw [Yac n] at e3
       rw [Yac n'] at e4;exact F.apart j k c1 c2 v1 v2 a q q' e3 e4 h1 h2
  len:=by rw [YaN,YaN];exact F.len }
theorem Fr3.set(F:Fr3 K H0 G0 ρ σ G H){i:Nat}{v:V}{f:Bool}{d:D}(r:Rf K H0 G f v d):Fr3 K H0 G0 (ρ.set i (some (.sh f d))) (σ.set i (some v)) G H:=F.put (zm.refl _) (.sh r) fun _ h=>False.elim h
theorem Fr3.drop(F:Fr3 K H0 G0 ρ σ G H){i:Nat}:Fr3 K H0 G0 (ρ.set i none) σ G H where
 keep:=F.keep
 sub:=F.sub
 old:=F.old
 g0:=F.g0
 slot:=fun j c e=>by
  rcases zF e with ⟨rfl,q,hl⟩|⟨n,q⟩
  . cases q
  . exact F.slot j c q
 mine:=fun j c v a e e' h=>by
  rcases zF e with ⟨rfl,q,hl⟩|⟨n,q⟩
  . cases q
  . exact F.mine j c v a q e' h
 apart:=fun j k c1 c2 v1 v2 a e1 e2 e3 e4 h1 h2=>by
  rcases zF e1 with ⟨rfl,q,hl⟩|⟨n,q⟩
  . cases q
  . rcases zF e2 with ⟨rfl,q',hl⟩|⟨n',q'⟩
    . cases q'
    . exact F.apart j k c1 c2 v1 v2 a q q' e3 e4 h1 h2
 len:=by rw [YaN];exact F.len
theorem Fr3.own(F:Fr3 K H0 G0 ρ σ G H){i:Nat}{l:Addr}{vs:List V}{f:Bool}{ds:List D}(r:Rfs K H0 G f vs ds)(hl:H l=none):Fr3 K H0 G0 (ρ.set i (some (.ow f ds))) (σ.set i (some (.ref l))) G (upd H l (.lst vs)):=
 F.put (zJ hl _).x (.ow zl r (F.sub.free hl)) fun a h=>by cases h;exact hl
theorem Fr3.chg(F:Fr3 K H0 G0 ρ σ G H){i:Nat}{l:Addr}{o:HO}{c c':Cl}{v:V}(hi:ρ[i]?=some (some c))(hv:σ[i]?=some (some v))(hl:Has c v l)(hc:∀ a,Has c' v a->Has c v a)(w:Vw K H0 G (upd H l o) v c'):Fr3 K H0 G0 (ρ.set i (some c')) σ G (upd H l o):=by
 have h0:H0 l=none:=F.mine i c v l hi hv hl;obtain⟨⟨us,hu,hux⟩,gl⟩:=(F.vw hi hv).has hl;refine⟨F.keep.chg h0 hu hux,⟨fun b o e=>by rw [zh (zS e gl)];exact F.sub.s b o e,F.sub.cl⟩,F.old,F.g0,fun j c2 e=>?_,fun j c2 v2 a e e' h=>?_,fun j k c1 c2 v1 v2 a e1 e2 e3 e4 h1 h2=>?_,by rw [YaN];exact F.len⟩
 . rcases zF e with ⟨rfl,q,_⟩|⟨n,q⟩
   . cases q
     exact⟨v,hv,w⟩
   . obtain⟨v',h1,h2⟩:=F.slot j c2 q
     refine⟨v',h1,h2.turn (Same.refl _) (fun a C e=>?_) fun a h=>⟨?_,rfl⟩⟩
     . rw [zh (fun z=>by subst z;rw [hu] at e;exact hux _ (Wbe e))];exact e
     . rw [zh (fun z=>by subst z;exact n (F.apart i j c c2 v v' a hi q hv h1 hl h))]
 . rcases zF e with ⟨rfl,q,_⟩|⟨n,q⟩
   . cases q
     rw [hv] at e';cases e';exact F.mine i c v a hi hv (hc a h)
   . exact F.mine j c2 v2 a q e' h
 . rcases zF e1 with ⟨rfl,q,_⟩|⟨n,q⟩
   . rcases zF e2 with ⟨rfl,q',_⟩|⟨n',q'⟩
     . rfl
     . cases q
       rw [hv] at e3;cases e3;exact F.apart i k c c2 v v2 a hi q' hv e4 (hc a h1) h2
   . rcases zF e2 with ⟨rfl,q',_⟩|⟨n',q'⟩
     . cases q'
       rw [hv] at e4;cases e4;exact F.apart j i c1 c v1 v a q hi e3 hv h1 (hc a h2)
     . exact F.apart j k c1 c2 v1 v2 a q q' e3 e4 h1 h2
theorem Fr3.change(F:Fr3 K H0 G0 ρ σ G H){i:Nat}{l:Addr}{vs:List V}{f f':Bool}{ds es:List D}(hi:ρ[i]?=some (some (.ow f ds)))(hl:σ[i]?=some (some (.ref l)))(r:Rfs K H0 G f' vs es):Fr3 K H0 G0 (ρ.set i (some (.ow f' es))) σ G (upd H l (.lst vs)):=
 F.chg hi hl rfl (fun _ h=>h) (.ow zl r ((F.vw hi hl).has rfl).2)
theorem Fr3.still(F:Fr3 K H0 G0 ρ σ G H){i:Nat}{c:Cl}{v:V}{f:Bool}{d:D}(hi:ρ[i]?=some (some c))(hv:σ[i]?=some (some v))(r:∀ G',Same G G'->(∀ a,Has c v a->G' a=H a/\H0 a=none)->Rf K H0 G' f v d):∃ G',Same G G'/\Fr3 K H0 G0 (ρ.set i (some (.sh f d))) σ G' H:=by
 have hd:∀ b,Decidable (Has c v b):=fun b=>Classical.propDecidable _
 have w:=F.vw hi hv;have e1:∀ b,Has c v b->(fun b=>if Has c v b then H b else G b) b=H b:=fun b h=>if_pos h
 have e2:∀ b,¬Has c v b->(fun b=>if Has c v b then H b else G b) b=G b:=fun b h=>if_neg h
 generalize (fun b=>if Has c v b then H b else G b)=G' at e1 e2
 have gg:Same G G':=fun b o e=>by
  rw [e2 b (fun h=>by rw [(w.has h).2] at e;cases e)];exact e
 refine⟨G',gg,F.keep,⟨fun b o e=>?_,fun b f e=>?_⟩,fun b o e=>?_,F.g0.trans gg,fun j c2 e=>?_,fun j c2 v2 a e e' h=>?_,fun j k c1 c2 v1 v2 a q1 q2 q3 q4 h1 h2=>?_,by rw [YaN];exact F.len⟩
 . by_cases h:Has c v b
   . rw [e1 b h] at e;exact e
   . rw [e2 b h] at e;exact F.sub.s b o e
 . by_cases h:Has c v b
   . rw [e1 b h] at e
     obtain⟨⟨u,hu,hn⟩,_⟩:=w.has h;rw [hu] at e;exact hn f (Wbe e)
   . rw [e2 b h] at e;exact F.sub.cl b f e
 . by_cases h:Has c v b
   . exact .inr (.inl (F.mine i c v b hi hv h))
   . rw [e2 b h] at e;exact F.old b o e
 . rcases zF e with ⟨rfl,q,_⟩|⟨n,q⟩
   . cases q
     exact⟨v,hv,.sh (r G' gg fun a h=>⟨e1 a h,F.mine i c v a hi hv h⟩)⟩
   . obtain⟨v',h1,h2⟩:=F.slot j c2 q
     exact⟨v',h1,h2.turn gg (fun _ _ e=>e) fun a h=>⟨rfl,e2 a fun h'=>n (F.apart i j c c2 v v' a hi q hv h1 h' h)⟩⟩
 . rcases zF e with ⟨rfl,q,_⟩|⟨n,q⟩
   . cases q;exact False.elim h
   . exact F.mine j c2 v2 a q e' h
 . rcases zF q1 with ⟨rfl,q,_⟩|⟨n,q⟩
   . cases q;exact False.elim h1
   . rcases zF q2 with ⟨rfl,q',_⟩|⟨n',q'⟩
     . cases q';exact False.elim h2
     . exact F.apart j k c1 c2 v1 v2 a q q' q3 q4 h1 h2
theorem Fr3.freeze(F:Fr3 K H0 G0 ρ σ G H){i:Nat}{f:Bool}{ds:List D}(hi:ρ[i]?=some (some (.ow f ds))):∃ G',Same G G'/\Fr3 K H0 G0 (ρ.set i (some (.sh f (.list ds)))) σ G' H:=by
 obtain⟨v,hv,w⟩:=F.slot i _ hi;refine F.still hi hv fun G' gg q=>?_
 cases w with
 | ow h r n=>
  obtain⟨q1,q2⟩:=q _ rfl;rw [h] at q1;exact⟨.lst (SqL.of q1) (rdvs_same gg r.rd),fun hf=>.lst q1 q2 (rdns_mono gg (fun _ _ _ z=>z) (r.nw hf))⟩
theorem zir{ps:List Addr}{ms:List (List D)}(hl:ps.length=ms.length)(h:∀ (k:Nat) (p:Addr) (m:List D),ps[k]?=some p->ms[k]?=some m->RdN K H0 G (.ref p) (.list m)):RdNs K H0 G (ps.map V.ref) (ms.map PyData.list):=by
 induction ps generalizing ms with
 | nil => cases ms with
  | nil=>exact .nil
  | cons m ms=>cases hl
 | cons p ps ih => cases ms with
  | nil=>cases hl
  | cons m ms=>exact .cons (h 0 p m rfl rfl) (ih (Nat.succ.inj hl) fun k q n h1 h2=>h (k+1) q n (by simpa using h1) (by simpa using h2))
theorem Fr3.freezeT(F:Fr3 K H0 G0 ρ σ G H){i:Nat}{ps:List Addr}{ms:List (List D)}(hi:ρ[i]?=some (some (.tr ps ms))):∃ G',Same G G'/\Fr3 K H0 G0 (ρ.set i (some (.sh true (.list (ms.map PyData.list))))) σ G' H:=by
 obtain⟨v,hv,w⟩:=F.slot i _ hi;refine F.still hi hv fun G' gg q=>?_
 cases w with
 | tr t=>
  obtain⟨q1,q2⟩:=q _ (.inl rfl);have n:RdN K H0 G' (.ref _) (.list (ms.map PyData.list)):=.lst (q1.trans t.top) q2 (zir t.len fun k p m h1 h2=>by
   obtain⟨vs,a,b,c⟩:=t.item k p m h1 h2;obtain⟨q3,q4⟩:=q p (.inr (Yah h1));exact .lst (q3.trans a) q4 (rdns_mono gg (fun _ _ _ z=>z) (c.nw rfl)))
  exact⟨zfh n,fun _=>n⟩
theorem Fr3.rebase(F:Fr3 K H0 G0 ρ σ G H):Fr3 K H0 G ρ σ G H:=⟨F.keep,F.sub,fun _ _ e=>.inl e,Same.refl _,F.slot,F.mine,F.apart,F.len⟩
theorem Fr3.back{ρ1:Env3}{σ1:L2.St}{G1 H1:Hp}(F:Fr3 K H0 G1 ρ σ G H)(B:Fr3 K H0 G0 ρ1 σ1 G1 H1):Fr3 K H0 G0 ρ σ G H:=
 ⟨F.keep,F.sub,fun b o e=>(F.old b o e).elim (fun q=>B.old b o q) .inr,B.g0.trans F.g0,F.slot,F.mine,F.apart,F.len⟩
theorem Fr3.gr0(F:Fr3 K H0 G0 ρ σ G H):Gr G0 H0 G H:=⟨F.g0,F.keep,F.sub,F.old⟩
theorem Gr.back{ρ1:Env3}{σ1:L2.St}{G1 H1:Hp}(g:Gr G1 H0 G H)(B:Fr3 K H0 G0 ρ1 σ1 G1 H1):Gr G0 H0 G H:=
 ⟨B.g0.trans g.g,g.h,g.sub,fun b o e=>(g.new b o e).elim (fun q=>B.old b o q) .inr⟩
end
variable[LamW]
theorem el5{α β γ : Type}{P R:α->β->γ->Prop}{C:Prop}(f:∀ a b c,P a b c->R a b c->C)(h:∃ a b c,P a b c/\R a b c):C:=by
 obtain⟨a,b,c,x,y⟩:=h;exact f a b c x y
theorem el7{α β γ δ : Type}{P R S:α->β->γ->δ->Prop}{C:Prop}(f:∀ a b c d,P a b c d->R a b c d->S a b c d->C)(h:∃ a b c d,P a b c d/\R a b c d/\S a b c d):C:=by
 obtain⟨a,b,c,d,x,y,z⟩:=h;exact f a b c d x y z
theorem el2{α β : Type}{P R S:α->β->Prop}{C:Prop}(f:∀ a b,P a b->R a b->S a b->C)(h:∃ a b,P a b/\R a b/\S a b):C:=by
 obtain⟨a,b,x,y,z⟩:=h;exact f a b x y z
theorem el3{α β γ : Type}{P R S T:α->β->γ->Prop}{C:Prop}(f:∀ a b c,P a b c->R a b c->S a b c->T a b c->C)(h:∃ a b c,P a b c/\R a b c/\S a b c/\T a b c):C:=by
 obtain⟨a,b,c,x,y,z,w⟩:=h;exact f a b c x y z w
abbrev TE3:=Env3->(Cl->Prop)->Prop
abbrev TT3:=Env3->(Bool->Prop)->Prop
abbrev TA3:=Env3->(List Cl->Prop)->Prop
abbrev TN3:=Env3->(Bool->List D->Prop)->Prop
structure Ends3 where
 nx:Env3->Prop
 rt:Bool->D->Prop
 bk:Env3->Prop:=fun _=>False
 ct:Env3->Prop:=fun _=>False
abbrev TS3:=Ends3->Env3->Prop
def je(K:Ybf)(H0:Hp)(t:TE3):TE:=fun σ H Q=>∃ G0 ρ G,Fr3 K H0 G0 ρ σ G H/\t ρ fun c=>∀ v G' H',Gr G H G' H'->Vw K H0 G' H' v c->Q v H'
def zev(K:Ybf)(H0:Hp)(t:TN3):TE:=fun σ H Q=>∃ G0 ρ G,Fr3 K H0 G0 ρ σ G H/\t ρ fun f ds=>∀ l vs G' H',Gr G H G' H'->H' l=none->Rfs K H0 G' f vs ds->Q (.ref l) (upd H' l (.lst vs))
def Jh(K:Ybf)(H0:Hp)(t:TT3):TT:=fun σ H Q=>∃ G0 ρ G,Fr3 K H0 G0 ρ σ G H/\t ρ fun b=>∀ G' H',Gr G H G' H'->Q b H'
def zkJ(K:Ybf)(H0:Hp)(t:TA3):TA:=fun σ H Q=>∃ G0 ρ G,Fr3 K H0 G0 ρ σ G H/\t ρ fun cs=>∀ vs G' H',Gr G H G' H'->Vws K H0 G' H' vs cs->Q vs H'
structure LD(K:Ybf)(H0 G0:Hp)(A:Ends3)(B:Ends):Prop where
 nx:∀ ρ σ G H,Fr3 K H0 G0 ρ σ G H->A.nx ρ->B.nx σ H
 rt:∀ f d v G H,Gr G0 H0 G H->Rf K H0 G f v d->A.rt f d->B.rt v H
 bk:∀ ρ σ G H,Fr3 K H0 G0 ρ σ G H->A.bk ρ->B.bk σ H
 ct:∀ ρ σ G H,Fr3 K H0 G0 ρ σ G H->A.ct ρ->B.ct σ H
def zc4(K:Ybf)(H0:Hp)(t:TS3):TS:=fun B σ H=>∃ G0 A ρ G,Fr3 K H0 G0 ρ σ G H/\t A ρ/\LD K H0 G0 A B
structure PE3(X:Cx)(H0:Hp)(e:Expr)(t:TE3):Prop where
 mono:∀ ρ (Q Q':Cl->Prop),(∀ c,Q c->Q' c)->t ρ Q->t ρ Q'
 ok:PE X e (je X.K H0 t)
structure PN3(X:Cx)(H0:Hp)(e:Expr)(t:TN3):Prop where
 mono:∀ ρ (Q Q':Bool->List D->Prop),(∀ f c,Q f c->Q' f c)->t ρ Q->t ρ Q'
 ok:PE X e (zev X.K H0 t)
structure PT3(X:Cx)(H0:Hp)(e:Expr)(t:TT3):Prop where
 mono:∀ ρ (Q Q':Bool->Prop),(∀ c,Q c->Q' c)->t ρ Q->t ρ Q'
 ok:PT X e (Jh X.K H0 t)
structure PW3(X:Cx)(H0:Hp)(e:Expr)(t:TT3):Prop where
 mono:∀ ρ (Q Q':Bool->Prop),(∀ c,Q c->Q' c)->t ρ Q->t ρ Q'
 ok:PW X e (Jh X.K H0 t)
structure PA3(X:Cx)(H0:Hp)(es:List Expr)(t:TA3):Prop where
 mono:∀ ρ (Q Q':List Cl->Prop),(∀ c,Q c->Q' c)->t ρ Q->t ρ Q'
 ok:PA X es (zkJ X.K H0 t)
def PS3(X:Cx)(H0:Hp)(st:Stmt)(t:TS3):Prop:=PS X st (zc4 X.K H0 t)
def PSs3(X:Cx)(H0:Hp)(st:List Stmt)(t:TS3):Prop:=PSs X st (zc4 X.K H0 t)
theorem PE.imp{X:Cx}{e:Expr}{t t':TE}(h:PE X e t)(i:∀ σ H Q,t' σ H Q->t σ H Q):PE X e t':=fun pins s σ H Q I q=>h pins s σ H Q I (i _ _ _ q)
theorem PT.imp{X:Cx}{e:Expr}{t t':TT}(h:PT X e t)(i:∀ σ H Q,t' σ H Q->t σ H Q):PT X e t':=fun pins s σ H Q I q=>h pins s σ H Q I (i _ _ _ q)
theorem PW.imp{X:Cx}{e:Expr}{t t':TT}(h:PW X e t)(i:∀ σ H Q,t' σ H Q->t σ H Q):PW X e t':=fun wh pins s σ H Q I q=>h wh pins s σ H Q I (i _ _ _ q)
theorem PA.imp{X:Cx}{e:List Expr}{t t':TA}(h:PA X e t)(i:∀ σ H Q,t' σ H Q->t σ H Q):PA X e t':=fun pos pins s σ H Q I q=>h pos pins s σ H Q I (i _ _ _ q)
theorem PS.imp{X:Cx}{e:Stmt}{t t':TS}(h:PS X e t)(i:∀ B σ H,t' B σ H->t B σ H):PS X e t':=fun pins s σ H B I q=>h pins s σ H B I (i _ _ _ q)
theorem PSs.imp{X:Cx}{e:List Stmt}{t t':TS}(h:PSs X e t)(i:∀ B σ H,t' B σ H->t B σ H):PSs X e t':=fun pins s σ H B I q=>h pins s σ H B I (i _ _ _ q)
section
variable{X:Cx}{H0:Hp}{e a b c:Expr}{pos:Pos}
def atV(o:Option (Option Cl))(P:Cl->Prop):Prop:=match o with
 | some (some c)=>P c
 | _=>False
theorem zbh{o:Option (Option Cl)}{P:Cl->Prop}(h:atV o P):∃ c,o=some (some c)/\P c:=by
 cases o with
 | none=>exact False.elim h
 | some x => cases x with
  | none=>exact False.elim h
  | some c=>exact⟨c,rfl,h⟩
def asS(c:Cl)(P:Bool->D->Prop):Prop:=match c with
 | .sh f d=>P f d
 | _=>False
theorem jM{c:Cl}{P:Bool->D->Prop}(h:asS c P):∃ f d,c=.sh f d/\P f d:=by
 cases c with
 | sh f d=>exact⟨f,d,rfl,h⟩
 | _=>exact False.elim h
def asD(d:D)(P:Bool->Prop):Prop:=match d with
 | .bool k=>P k
 | _=>False
def asB(c:Cl)(P:Bool->Prop):Prop:=match c with
 | .sh true d=>asD d P
 | _=>False
theorem zfb{c:Cl}{P:Bool->Prop}(h:asB c P):∃ k,c=.sh true (.bool k)/\P k:=by
 cases c with
 | sh f d => cases f with
  | true => cases d with
   | bool k=>exact⟨k,rfl,h⟩
   | _=>exact False.elim h
  | false=>exact False.elim h
 | _=>exact False.elim h
def optP{α : Type}(o:Option α)(P:α->Prop):Prop:=match o with
 | some a=>P a
 | none=>False
theorem zbd{α : Type}{o:Option α}{P:α->Prop}(h:optP o P):∃ a,o=some a/\P a:=by
 cases o with
 | none=>exact False.elim h
 | some a=>exact⟨a,rfl,h⟩
def asT(d:D)(P:List D->Prop):Prop:=match d with
 | .tuple ds=>P ds
 | _=>False
theorem zaM{d:D}{P:List D->Prop}(h:asT d P):∃ ds,d=.tuple ds/\P ds:=by
 cases d with
 | tuple ds=>exact⟨ds,rfl,h⟩
 | _=>exact False.elim h
def asLd(d:D)(P:List D->Prop):Prop:=match d with
 | .list ds=>P ds
 | _=>False
def asL(c:Cl)(P:Bool->List D->Prop):Prop:=match c with
 | .sh f d=>asLd d (P f)
 | _=>False
theorem zbJ{c:Cl}{P:Bool->List D->Prop}(h:asL c P):∃ f ds,c=.sh f (.list ds)/\P f ds:=by
 cases c with
 | sh f d => cases d with
  | list ds=>exact⟨f,ds,rfl,h⟩
  | _=>exact False.elim h
 | _=>exact False.elim h
def atO(o:Option (Option Cl))(P:Bool->List D->Prop):Prop:=match o with
 | some (some (.ow f ds))=>P f ds
 | _=>False
theorem zeK{o:Option (Option Cl)}{P:Bool->List D->Prop}(h:atO o P):∃ f ds,o=some (some (.ow f ds))/\P f ds:=by
 cases o with
 | none=>exact False.elim h
 | some x => cases x with
  | none=>exact False.elim h
  | some c => cases c with
   | ow f ds=>exact⟨f,ds,rfl,h⟩
   | _=>exact False.elim h
def jN{α : Type}(l:List α)(P:α->List α->Prop):Prop:=match l with
 | d::r=>P d r
 | []=>False
theorem zfg{α : Type}{l:List α}{P:α->List α->Prop}(h:jN l P):∃ d r,l=d::r/\P d r:=by
 cases l with
 | nil=>exact False.elim h
 | cons d r=>exact⟨d,r,rfl,h⟩
def nilP{α : Type}(l:List α)(P:Prop):Prop:=match l with
 | []=>P
 | _::_=>False
theorem zfn{α : Type}{l:List α}{P:Prop}(h:nilP l P):l=[]/\P:=by
 cases l with
 | nil=>exact⟨rfl,h⟩
 | cons d r=>exact False.elim h
def asId(d:D)(P:Int->Prop):Prop:=match d with
 | .int i=>P i
 | _=>False
def asI(c:Cl)(P:Int->Prop):Prop:=match c with
 | .sh true d=>asId d P
 | _=>False
theorem zb1{c:Cl}{P:Int->Prop}(h:asI c P):∃ k,c=.sh true (.int k)/\P k:=by
 cases c with
 | sh f d => cases f with
  | true => cases d with
   | int k=>exact⟨k,rfl,h⟩
   | _=>exact False.elim h
  | false=>exact False.elim h
 | _=>exact False.elim h
def v3(i:Nat):TE3:=fun ρ Q=>atV ρ[i]? Q
def k3(d:D):TE3:=fun _ Q=>Q (.sh true d)
theorem n3(i:Nat){x:Str}(hN:X.N[i]?=some x:=by rfl)(hv:Vis X.env.scope x:=by first|exact Or.inl rfl|exact Or.inr (Or.inl rfl)|exact Or.inr (Or.inr rfl))(hd:(x==("__debug__" : Str))=false:=by decide)(hcd:(x==("__classdict__" : Str))=false:=by decide) :
 PE3 X H0 (.Name x pos) (v3 i):=by
 refine⟨fun ρ Q Q' h q=>?_,PE.imp (jd hN hv hd hcd) fun σ H Q=>el5 fun G0 ρ G F q=>?_⟩
 . obtain⟨c,e,q⟩:=zbh q
   show atV ρ[i]? Q'
   rw [e];exact h c q
 obtain⟨c,e,q⟩:=zbh q;obtain⟨v,h1,h2⟩:=F.slot i c e;exact⟨v,h1,q v G H (Gr.refl F.sub) h2⟩
theorem zar{v:V}{d:D}(h:PE X e (tC v))(r:∀ G,RdV X.K G v d)(hs:zA d=true):PE3 X H0 e (k3 d):=
 ⟨fun ρ Q Q' h q=>h _ q,PE.imp h fun σ H Q=>el5 fun G0 ρ G F q=>q v G H (Gr.refl F.sub) (.sh (.sc hs (r G)))⟩
theorem i3{i j pos}:PE3 X H0 (.Constant (.int i) j pos) (k3 (.int i)):=zar znA (fun _=>.int i) rfl
theorem b3{i j pos}:PE3 X H0 (.Constant (.bool i) j pos) (k3 (.bool i)):=zar zeA (fun _=>.bl i) rfl
theorem non3{j pos}:PE3 X H0 (.Constant .none j pos) (k3 .none):=zar zml (fun _=>.non) rfl
theorem s3{i j pos}:PE3 X H0 (.Constant (.str i) j pos) (k3 (.str i)):=zar ziF (fun _=>.str i) rfl
theorem g3{x:Str}{v:V}{u:Value}{d:D}(hg:Gl X x)(hm:X.mg x=some u)(r:RelV v u)(rd:∀ G,RdV X.K G v d)(hs:zA d=true)(hd:(x==("__debug__" : Str))=false:=by decide):PE3 X H0 (.Name x pos) (k3 d):=zar (zhm hg hm r hd) rd hs
def nw3(t:TN3):TE3:=fun ρ Q=>t ρ fun f ds=>Q (.sh f (.list ds))
theorem new3{t:TN3}(h:PN3 X H0 e t):PE3 X H0 e (nw3 t):=
 ⟨fun ρ Q Q' hq q=>h.mono ρ _ _ (fun f ds=>hq _) q,PE.imp h.ok fun σ H Q=>el5 fun G0 ρ G F q=>⟨G0,ρ,G,F,h.mono ρ _ _ (fun f ds k l vs G' H' g hl r=>
  k (.ref l) (upd G' l (.lst vs)) (upd H' l (.lst vs)) (g.trans (Gr.put g.sub hl)) (.sh ⟨.lst (SqL.of zl) (rdvs_same (zJ (g.sub.free hl) _) r.rd),fun hf=>.lst zl ((F.keep.trans g.h).free hl) (rdns_mono (zJ (g.sub.free hl) _) (fun _ _ _ z=>z) (r.nw hf))⟩)) q⟩⟩
abbrev R3:=Cl->Cl->(Bool->D->Prop)->Prop
def zam(K:Ybf)(H0:Hp)(r:R3):R2:=fun x y H Q=>∃ G a b,Sub G H/\Vw K H0 G H x a/\Vw K H0 G H y b/\r a b fun f d=>∀ v G' H',Gr G H G' H'->Rf K H0 G' f v d->Q v H'
structure OpOk(X:Cx)(f:Value->Value->Sem Value)(r:R3):Prop where
 mono:∀ a b (Q Q':Bool->D->Prop),(∀ f c,Q f c->Q' f c)->r a b Q->r a b Q'
 ok:∀ H0,OpR X f (zam X.K H0 r)
theorem OpR.imp{f:Value->Value->Sem Value}{r r':R2}(h:OpR X f r)(i:∀ x y H Q,r' x y H Q->r x y H Q):OpR X f r':=fun pins s σ H x y v u Q I rx ry q=>h pins s σ H x y v u Q I rx ry (i _ _ _ _ q)
def o3(r:R3)(ta tb:TE3):TE3:=fun ρ Q=>ta ρ fun a=>tb ρ fun b=>r a b fun f d=>Q (.sh f d)
theorem zal{r:R3}{ta tb:TE3}(hr:∀ a b (Q Q':Bool->D->Prop),(∀ f c,Q f c->Q' f c)->r a b Q->r a b Q')(ha:∀ ρ (Q Q':Cl->Prop),(∀ c,Q c->Q' c)->ta ρ Q->ta ρ Q')(hb:∀ ρ (Q Q':Cl->Prop),(∀ c,Q c->Q' c)->tb ρ Q->tb ρ Q') :
 ∀ ρ (Q Q':Cl->Prop),(∀ c,Q c->Q' c)->o3 r ta tb ρ Q->o3 r ta tb ρ Q':=fun ρ Q Q' h q=>ha ρ _ _ (fun a=>hb ρ _ _ fun b=>hr a b _ _ fun f d=>h _) q
theorem zaL{r:R3}{ta tb:TE3}(hr:∀ a b (Q Q':Bool->D->Prop),(∀ f c,Q f c->Q' f c)->r a b Q->r a b Q')(ha:∀ ρ (Q Q':Cl->Prop),(∀ c,Q c->Q' c)->ta ρ Q->ta ρ Q')(hb:∀ ρ (Q Q':Cl->Prop),(∀ c,Q c->Q' c)->tb ρ Q->tb ρ Q'){K:Ybf} :
 ∀ σ H Q,je K H0 (o3 r ta tb) σ H Q->tOp (zam K H0 r) (je K H0 ta) (je K H0 tb) σ H Q:=fun σ H Q=>el5 fun G0 ρ G F q=>
 ⟨G0,ρ,G,F,ha ρ _ _ (fun a qa v1 G1 H1 g1 w1=>⟨G0,ρ,G1,F.gr g1,hb ρ _ _ (fun b qb v2 G2 H2 g2 w2=>⟨G2,a,b,g2.sub,w1.gr g2,w2,hr a b _ _ (fun f d k v G' H' g r=>k v G' H' ((g1.trans g2).trans g) (.sh r)) qb⟩) qa⟩) q⟩
theorem op3{op:Operator}{r:R3}{ta tb:TE3}(ho:OpOk X (binaryOp op) r)(ha:PE3 X H0 a ta)(hb:PE3 X H0 b tb):PE3 X H0 (.BinOp a op b pos) (o3 r ta tb):=
 ⟨zal ho.mono ha.mono hb.mono,PE.imp (zbV (ho.ok H0) ha.ok hb.ok) (zaL ho.mono ha.mono hb.mono)⟩
theorem cmp3{op:CmpOp}{r:R3}{ta tb:TE3}(ho:OpOk X (compareOp op) r)(ha:PE3 X H0 a ta)(hb:PE3 X H0 b tb)(hm:behindInMarks op b=false):PE3 X H0 (.Compare a [op] [b] pos) (o3 r ta tb):=
 ⟨zal ho.mono ha.mono hb.mono,PE.imp (ziX (ho.ok H0) ha.ok hb.ok hm) (zaL ho.mono ha.mono hb.mono)⟩
def tt3(t:TE3):TT3:=fun ρ Q=>t ρ fun c=>asB c Q
theorem zb4{K:Ybf}{H0 G H:Hp}{v:V}{f k:Bool}(w:Vw K H0 G H v (.sh f (.bool k))):v=.bl k:=by
 cases w with
 | sh r=>cases r.rd;rfl
theorem zcm{t:TE3}{K:Ybf}(ht:∀ ρ (Q Q':Cl->Prop),(∀ c,Q c->Q' c)->t ρ Q->t ρ Q'):∀ σ H Q,Jh K H0 (tt3 t) σ H Q->zav (je K H0 t) σ H Q:=fun σ H Q=>el5 fun G0 ρ G F q=>
 ⟨G0,ρ,G,F,ht ρ _ _ (fun c q v G' H' g w=>by obtain⟨k,e,q⟩:=zfb q;subst e;exact⟨k,zb4 w,q G' H' g⟩) q⟩
theorem zbn{t:TE3}(ht:∀ ρ (Q Q':Cl->Prop),(∀ c,Q c->Q' c)->t ρ Q->t ρ Q'):∀ ρ (Q Q':Bool->Prop),(∀ c,Q c->Q' c)->tt3 t ρ Q->tt3 t ρ Q':=fun ρ Q Q' h q=>ht ρ _ _ (fun c q=>by obtain⟨k,e,q⟩:=zfb q;subst e;exact h k q) q
theorem zez{t t':TE}(h:∀ σ H Q,t' σ H Q->t σ H Q):∀ σ H Q,zav t' σ H Q->zav t σ H Q:=fun σ H Q q=>h _ _ _ q
theorem zG{op:CmpOp}{r:R3}{ta tb:TE3}(ho:OpOk X (compareOp op) r)(ha:PE3 X H0 a ta)(hb:PE3 X H0 b tb)(hm:behindInMarks op b=false):PT3 X H0 (.Compare a [op] [b] pos) (tt3 (o3 r ta tb)):=
 ⟨zbn (zal ho.mono ha.mono hb.mono),PT.imp (znv (ho.ok H0) ha.ok hb.ok hm) fun σ H Q q=>zez (zaL ho.mono ha.mono hb.mono) σ H Q (zcm (zal ho.mono ha.mono hb.mono) σ H Q q)⟩
def ch3(r r':R3)(ta tb tc:TE3):TE3:=fun ρ Q=>ta ρ fun x=>tb ρ fun y=>r x y fun _ z=>∃ k,z=.bool k/\if k=true then tc ρ fun w=>r' y w fun f d=>Q (.sh f d) else Q (.sh true (.bool false))
theorem zdb{K:Ybf}{G:Hp}{v:V}{k:Bool}(w:RdV K G v (.bool k)):v=.bl k:=by cases w;rfl
theorem zcM{r r':R3}{ta tb tc:TE3}(hr:∀ a b (Q Q':Bool->D->Prop),(∀ f c,Q f c->Q' f c)->r a b Q->r a b Q')(hr':∀ a b (Q Q':Bool->D->Prop),(∀ f c,Q f c->Q' f c)->r' a b Q->r' a b Q')(ha:∀ ρ (Q Q':Cl->Prop),(∀ c,Q c->Q' c)->ta ρ Q->ta ρ Q')(hb:∀ ρ (Q Q':Cl->Prop),(∀ c,Q c->Q' c)->tb ρ Q->tb ρ Q')
 (hc:∀ ρ (Q Q':Cl->Prop),(∀ c,Q c->Q' c)->tc ρ Q->tc ρ Q'):∀ ρ (Q Q':Cl->Prop),(∀ c,Q c->Q' c)->ch3 r r' ta tb tc ρ Q->ch3 r r' ta tb tc ρ Q':=fun ρ Q Q' h q=>ha ρ _ _ (fun x=>hb ρ _ _ fun y=>hr x y _ _ fun _ z ⟨k,e,q⟩=>⟨k,e,by
 cases k with
 | true=>exact hc ρ _ _ (fun w=>hr' y w _ _ fun f d=>h _) q
 | false=>exact h _ q⟩) q
theorem zh4{r r':R3}{ta tb tc:TE3}(hr:∀ a b (Q Q':Bool->D->Prop),(∀ f c,Q f c->Q' f c)->r a b Q->r a b Q')(hr':∀ a b (Q Q':Bool->D->Prop),(∀ f c,Q f c->Q' f c)->r' a b Q->r' a b Q')(ha:∀ ρ (Q Q':Cl->Prop),(∀ c,Q c->Q' c)->ta ρ Q->ta ρ Q')(hb:∀ ρ (Q Q':Cl->Prop),(∀ c,Q c->Q' c)->tb ρ Q->tb ρ Q')
 (hc:∀ ρ (Q Q':Cl->Prop),(∀ c,Q c->Q' c)->tc ρ Q->tc ρ Q') {K:Ybf}:∀ σ H Q,je K H0 (ch3 r r' ta tb tc) σ H Q->zd8 (zam K H0 r) (zam K H0 r') (je K H0 ta) (je K H0 tb) (je K H0 tc) σ H Q:=fun σ H Q=>el5 fun G0 ρ G F q=>
 ⟨G0,ρ,G,F,ha ρ _ _ (fun x qx v1 G1 H1 g1 w1=>⟨G0,ρ,G1,F.gr g1,hb ρ _ _ (fun y qy v2 G2 H2 g2 w2=>⟨G2,x,y,g2.sub,w1.gr g2,w2,hr x y _ _ (fun _ z hyp v3 G3 H3 g3 r3=>by
  obtain⟨k,e,q⟩:=hyp;subst e;refine⟨k,zdb r3.rd,?_⟩;cases k with
  | false=>exact q _ G3 H3 ((g1.trans g2).trans g3) (.sh (.sc rfl (.bl false)))
  | true=>exact⟨G0,ρ,G3,F.gr ((g1.trans g2).trans g3),hc ρ _ _ (fun w qw v4 G4 H4 g4 w4=>⟨G4,y,w,g4.sub,(w2.gr g3).gr g4,w4,hr' y w _ _ (fun f d k v G' H' g r=>k v G' H' ((((g1.trans g2).trans g3).trans g4).trans g) (.sh r)) qw⟩) q⟩) qy⟩) qx⟩) q⟩
theorem zfI{op op':CmpOp}{r r':R3}{ta tb tc:TE3}(ho:OpOk X (compareOp op) r)(ho':OpOk X (compareOp op') r')(ha:PE3 X H0 a ta)(hb:PE3 X H0 b tb)(hc:PE3 X H0 c tc)(hm:lastMarks [op,op'] [b,c]=false:=by with_unfolding_all rfl) :
 PT3 X H0 (.Compare a [op,op'] [b,c] pos) (tt3 (ch3 r r' ta tb tc)):=
 ⟨zbn (zcM ho.mono ho'.mono ha.mono hb.mono hc.mono),PT.imp (zi6 (ho.ok H0) (ho'.ok H0) ha.ok hb.ok hc.ok hm) fun σ H Q q=>zez (zh4 ho.mono ho'.mono ha.mono hb.mono hc.mono) σ H Q (zcm (zcM ho.mono ho'.mono ha.mono hb.mono hc.mono) σ H Q q)⟩
abbrev U3:=Cl->(Bool->D->Prop)->Prop
def zmF(K:Ybf)(H0:Hp)(r:U3):V->Hp->VK->Prop:=fun x H Q=>∃ G a,Sub G H/\Vw K H0 G H x a/\r a fun f d=>∀ v G' H',Gr G H G' H'->Rf K H0 G' f v d->Q v H'
structure UnOk(X:Cx)(f:Value->Sem Value)(r:U3):Prop where
 mono:∀ a (Q Q':Bool->D->Prop),(∀ f c,Q f c->Q' f c)->r a Q->r a Q'
 ok:∀ H0,UnR X f (zmF X.K H0 r)
def u3(r:U3)(ta:TE3):TE3:=fun ρ Q=>ta ρ fun a=>r a fun f d=>Q (.sh f d)
theorem un3{op:UnaryOp}{r:U3}{ta:TE3}(ho:UnOk X (unaryOp op) r)(ha:PE3 X H0 a ta):PE3 X H0 (.UnaryOp op a pos) (u3 r ta):=
 ⟨fun ρ Q Q' h q=>ha.mono ρ _ _ (fun a=>ho.mono a _ _ fun f d=>h _) q,PE.imp (zmX (ho.ok H0) ha.ok) fun σ H Q=>el5 fun G0 ρ G F q=>
  ⟨G0,ρ,G,F,ha.mono ρ _ _ (fun a qa v1 G1 H1 g1 w1=>⟨G1,a,g1.sub,w1,ho.mono a _ _ (fun f d k v G' H' g r=>k v G' H' (g1.trans g) (.sh r)) qa⟩) q⟩⟩
theorem val3{t:TE3}(h:PE3 X H0 e t)(he:∀ whole,isTrue e X.env whole=(do let v <-whole;standAt e.pos;holding [v] (truthy v)):=by intro _;rfl):PT3 X H0 e (tt3 t):=
 ⟨zbn h.mono,PT.imp (zgU h.ok he) (zcm h.mono)⟩
def and3(t u:TT3):TT3:=fun ρ Q=>t ρ fun k=>if k=true then u ρ Q else Q false
def or3(t u:TT3):TT3:=fun ρ Q=>t ρ fun k=>if k=true then Q true else u ρ Q
def not3(t:TT3):TT3:=fun ρ Q=>t ρ fun k=>Q (!k)
theorem zan{t:TT3}(h:PT3 X H0 a t):PT3 X H0 (.UnaryOp .Not a pos) (not3 t):=
 ⟨fun ρ Q Q' hq q=>h.mono ρ _ _ (fun k=>hq _) q,PT.imp (zi7 h.ok) fun σ H Q=>el5 fun G0 ρ G F q=>⟨G0,ρ,G,F,q⟩⟩
theorem zkx{t:TT3}(h:PT3 X H0 a t):PW3 X H0 (.BoolOp .And [a] pos) t:=⟨h.mono,zfP h.ok⟩
theorem zbz{t:TT3}(h:PT3 X H0 a t):PW3 X H0 (.BoolOp .Or [a] pos) t:=⟨h.mono,zh1 h.ok⟩
theorem zhx{rest:List Expr}{t u:TT3}(h:PT3 X H0 a t)(h':PW3 X H0 (.BoolOp .And (b::rest) pos) u):PW3 X H0 (.BoolOp .And (a::b::rest) pos) (and3 t u):=
 ⟨fun ρ Q Q' hq q=>h.mono ρ _ _ (fun k=>by cases k;exact hq _;exact h'.mono ρ _ _ hq) q,PW.imp (zku h.ok h'.ok) fun σ H Q=>el5 fun G0 ρ G F q=>⟨G0,ρ,G,F,h.mono ρ _ _ (fun k qk G1 H1 g1=>by
  cases k with
  | false=>exact qk G1 H1 g1
  | true=>exact⟨G0,ρ,G1,F.gr g1,h'.mono ρ _ _ (fun k q G2 H2 g2=>q G2 H2 (g1.trans g2)) qk⟩) q⟩⟩
theorem zb0{rest:List Expr}{t u:TT3}(h:PT3 X H0 a t)(h':PW3 X H0 (.BoolOp .Or (b::rest) pos) u):PW3 X H0 (.BoolOp .Or (a::b::rest) pos) (or3 t u):=
 ⟨fun ρ Q Q' hq q=>h.mono ρ _ _ (fun k=>by cases k;exact h'.mono ρ _ _ hq;exact hq _) q,PW.imp (zgD h.ok h'.ok) fun σ H Q=>el5 fun G0 ρ G F q=>⟨G0,ρ,G,F,h.mono ρ _ _ (fun k qk G1 H1 g1=>by
  cases k with
  | true=>exact qk G1 H1 g1
  | false=>exact⟨G0,ρ,G1,F.gr g1,h'.mono ρ _ _ (fun k q G2 H2 g2=>q G2 H2 (g1.trans g2)) qk⟩) q⟩⟩
theorem pw3{t:TT3}(h:PW3 X H0 e t):PT3 X H0 e t:=⟨h.mono,h.ok.pt⟩
def Z8(ta tb:TE3):TE3:=fun ρ Q=>ta ρ fun c=>∃ k,c=.sh true (.bool k)/\if k=true then tb ρ Q else Q (.sh true (.bool false))
def Z5(ta:TE3):TE3:=fun ρ Q=>ta ρ fun c=>∃ k,c=.sh true (.bool k)/\Q (.sh true (.bool (!k)))
theorem one3{op}{t:TE3}(h:PE3 X H0 a t):PE3 X H0 (.BoolOp op [a] pos) t:=⟨h.mono,zl1 h.ok⟩
theorem zaN{rest:List Expr}{ta tb:TE3}(h:PE3 X H0 a ta)(h':PE3 X H0 (.BoolOp .And (b::rest) pos) tb):PE3 X H0 (.BoolOp .And (a::b::rest) pos) (Z8 ta tb):=
 ⟨fun ρ Q Q' hq q=>h.mono ρ _ _ (fun c ⟨k,e,q⟩=>⟨k,e,by cases k;exact hq _ q;exact h'.mono ρ _ _ hq q⟩) q,PE.imp (zko h.ok h'.ok) fun σ H Q=>el5 fun G0 ρ G F q=>⟨G0,ρ,G,F,h.mono ρ _ _ (fun c hyp v G1 H1 g1 w=>by
  obtain⟨k,e,qk⟩:=hyp;subst e;refine⟨k,zb4 w,?_⟩;cases k with
  | false=>exact qk _ G1 H1 g1 (.sh (.sc rfl (.bl false)))
  | true=>exact⟨G0,ρ,G1,F.gr g1,h'.mono ρ _ _ (fun k q v G2 H2 g2=>q v G2 H2 (g1.trans g2)) qk⟩) q⟩⟩
theorem zmZ{ta:TE3}(h:PE3 X H0 a ta):PE3 X H0 (.UnaryOp .Not a pos) (Z5 ta):=
 ⟨fun ρ Q Q' hq q=>h.mono ρ _ _ (fun c ⟨k,e,q⟩=>⟨k,e,hq _ q⟩) q,PE.imp (zgE h.ok) fun σ H Q=>el5 fun G0 ρ G F q=>⟨G0,ρ,G,F,h.mono ρ _ _ (fun c hyp v G1 H1 g1 w=>by
  obtain⟨k,e,qk⟩:=hyp;subst e;exact⟨k,zb4 w,qk _ G1 H1 g1 (.sh (.sc rfl (.bl _)))⟩) q⟩⟩
def if3(t:TT3)(ta tb:TE3):TE3:=fun ρ Q=>t ρ fun k=>if k=true then ta ρ Q else tb ρ Q
theorem zgz{t:TT3}{ta tb:TE3}(h:PT3 X H0 c t)(ha:PE3 X H0 a ta)(hb:PE3 X H0 b tb):PE3 X H0 (.IfExp c a b pos) (if3 t ta tb):=
 ⟨fun ρ Q Q' hq q=>h.mono ρ _ _ (fun k=>by cases k;exact hb.mono ρ _ _ hq;exact ha.mono ρ _ _ hq) q,PE.imp (zlJ h.ok ha.ok hb.ok) fun σ H Q=>el5 fun G0 ρ G F q=>⟨G0,ρ,G,F,h.mono ρ _ _ (fun k qk G1 H1 g1=>by
  cases k with
  | true=>exact⟨G0,ρ,G1,F.gr g1,ha.mono ρ _ _ (fun k q v G2 H2 g2=>q v G2 H2 (g1.trans g2)) qk⟩
  | false=>exact⟨G0,ρ,G1,F.gr g1,hb.mono ρ _ _ (fun k q v G2 H2 g2=>q v G2 H2 (g1.trans g2)) qk⟩) q⟩⟩
def nil3:TA3:=fun _ Q=>Q []
def Z4(ta:TE3)(tr:TA3):TA3:=fun ρ Q=>ta ρ fun c=>tr ρ fun cs=>Q (c::cs)
theorem zb:PA3 X H0 [] nil3:=⟨fun ρ Q Q' h q=>h _ q,PA.imp Jk fun σ H Q=>el5 fun G0 ρ G F q=>q [] G H (Gr.refl F.sub) .nil⟩
theorem za{es:List Expr}{ta:TE3}{tr:TA3}(ha:PE3 X H0 e ta)(hr:PA3 X H0 es tr)(hs:starEach (e::es) X.env=(false,eval e X.env)::starEach es X.env:=by rfl):PA3 X H0 (e::es) (Z4 ta tr):=
 ⟨fun ρ Q Q' h q=>ha.mono ρ _ _ (fun c=>hr.mono ρ _ _ fun cs=>h _) q,PA.imp (jS ha.ok hr.ok hs) fun σ H Q=>el5 fun G0 ρ G F q=>
  ⟨G0,ρ,G,F,ha.mono ρ _ _ (fun c qc v G1 H1 g1 w1=>⟨G0,ρ,G1,F.gr g1,hr.mono ρ _ _ (fun cs k vs G2 H2 g2 w2=>k (v::vs) G2 H2 (g1.trans g2) (.cons (w1.gr g2) w2)) qc⟩) q⟩⟩
def tup3(t:TA3):TE3:=fun ρ Q=>t ρ fun cs=>optP (shs cs) fun p=>p.2.length<=sizeLine/\Q (.sh p.1 (.tuple p.2))
theorem zR{es:List Expr}{t:TA3}{x1}(h:PA3 X H0 es t):PE3 X H0 (.Tuple es x1 pos) (tup3 t):=
 ⟨fun ρ Q Q' hq q=>h.mono ρ _ _ (fun cs q=>by obtain⟨ds,e,z,q⟩:=zbd q;rw [e];exact⟨z,hq _ q⟩) q,PE.imp (zkt h.ok) fun σ H Q=>el5 fun G0 ρ G F q=>⟨G0,ρ,G,F,h.mono ρ _ _ (fun cs hyp vs G1 H1 g1 w=>by
  obtain⟨ds,e,z,k⟩:=zbd hyp;have r:=w.shs e;refine⟨by rw [r.length];exact z,fun p hp=>k (.ref p) (upd G1 p (.tup vs)) (upd H1 p (.tup vs)) (g1.trans (Gr.put g1.sub hp)) (.sh ⟨.tup (SqT.of zl) (rdvs_same (zJ (g1.sub.free hp) _) r.rd),fun hf=>.tup zl (rdns_mono (zJ (g1.sub.free hp) _) (fun _ _ _ z=>z) (r.nw hf))⟩)⟩) q⟩⟩
def lst3(t:TA3):TN3:=fun ρ Q=>t ρ fun cs=>optP (shs cs) fun p=>p.2.length<=sizeLine/\Q p.1 p.2
theorem jl{es:List Expr}{t:TA3}(h:PA3 X H0 es t):PN3 X H0 (.List es pos) (lst3 t):=
 ⟨fun ρ Q Q' hq q=>h.mono ρ _ _ (fun cs q=>by obtain⟨ds,e,z,q⟩:=zbd q;rw [e];exact⟨z,hq _ _ q⟩) q,PE.imp (zim h.ok) fun σ H Q=>el5 fun G0 ρ G F q=>⟨G0,ρ,G,F,h.mono ρ _ _ (fun cs hyp vs G1 H1 g1 w=>by
  obtain⟨ds,e,z,k⟩:=zbd hyp;have r:=w.shs e;exact⟨by rw [r.length];exact z,fun p hp=>k p vs G1 H1 g1 hp r⟩) q⟩⟩
abbrev C3:=List Cl->(Bool->D->Prop)->Prop
def zk8(K:Ybf)(H0:Hp)(r:C3):List V->Hp->VK->Prop:=fun xs H Q=>∃ G cs,Sub G H/\Vws K H0 G H xs cs/\r cs fun f d=>∀ v G' H',Gr G H G' H'->Rf K H0 G' f v d->Q v H'
structure CallOk(X:Cx)(f:Value)(r:C3):Prop where
 mono:∀ cs (Q Q':Bool->D->Prop),(∀ f c,Q f c->Q' f c)->r cs Q->r cs Q'
 ok:∀ H0,zH X f (zk8 X.K H0 r)
theorem zH.imp{f:Value}{r r':List V->Hp->VK->Prop}(h:zH X f r)(i:∀ xs H Q,r' xs H Q->r xs H Q):zH X f r':=fun pins s σ H xs us Q I rv q=>h pins s σ H xs us Q I rv (i _ _ _ q)
def cb3(r:C3)(t:TA3):TE3:=fun ρ Q=>t ρ fun cs=>r cs fun f d=>Q (.sh f d)
variable{x:Str}{p:Pos}{es:List Expr}{id T:String}
theorem zt{r:C3}{t:TA3}(hc:CallOk X (.builtin id) r)(hg:Gl X x)(hm:X.mg x=none)(hv:bootBuiltins x=some (.builtin id))(ha:PA3 X H0 (e::es) t)(hn:x≠"__name__":=by decide)(hdb:(x==("__debug__" : Str))=false:=by decide)
 (he:starEach (e::es) X.env=(false,eval e X.env)::starEach es X.env:=by rfl) (hpl:(backTo pos (starEach es X.env)).any (·.1)=false:=by rfl):PE3 X H0 (.Call (.Name x p) (e::es) [] pos) (cb3 r t):=
 ⟨fun ρ Q Q' h q=>ha.mono ρ _ _ (fun cs=>hc.mono cs _ _ fun f d=>h _) q,PE.imp (zce (hc.ok H0) hg hm hv ha.ok hn hdb he hpl) fun σ H Q=>el5 fun G0 ρ G F q=>⟨G0,ρ,G,F,ha.mono ρ _ _ (fun cs qc vs G1 H1 g1 w=>⟨G1,cs,g1.sub,w,hc.mono cs _ _ (fun f d k v G' H' g r=>k v G' H' (g1.trans g) (.sh r)) qc⟩) q⟩⟩
abbrev Sp3:=List D->(Bool->D->Prop)->(Addr->Prop)->Prop
def spL(K:Ybf)(sp:Sp3):Sp:=fun vs H Q E=>∃ G ds,Sub G H/\RdVs K G vs ds/\sp ds (fun f d=>∀ v G' H',Gr G H G' H'->Rf K H G' f v d->Q v H') fun C=>∀ H',zm H H'->E (.ref C) none H'
theorem zfi{K:Ybf}{G G':Hp}{v:V}{d:D}(h:zA d=true)(r:RdV K G v d):RdV K G' v d:=by
 cases r with
 | non=>exact .non
 | bl b=>exact .bl b
 | int i=>exact .int i
 | str s=>exact .str s
 | lst _ _=>cases h
 | tup _ _=>cases h
structure Df3(P:Program)(w:World)(K:Ybf)(mg:Str->Option Value)(base:Heap)(k:Nat)(x:Str)(ps:List Str)(sp:Sp3):Prop where
 mono:∀ ds (Q Q':Bool->D->Prop) (E E':Addr->Prop),(∀ f d,Q f d->Q' f d)->(∀ d,E d->E' d)->sp ds Q E->sp ds Q' E'
 ok:Df P w K mg base k x ps (spL K sp)
def J9(sp:Sp3)(E:Addr->Prop)(t:TA3):TE3:=fun ρ Q=>t ρ fun cs=>cs.all Cl.dat=true/\sp (cs.map Cl.d) (fun f d=>((shs cs).isSome=true\/zA d=true)/\Q (.sh f d)) E
theorem zbC:∀ {cs:List Cl} {p:Bool×List D},shs cs=some p->cs.map Cl.d=p.2
 | [],_,e=>by cases e;rfl
 | .sh _ d :: r, ds, e => by
  unfold shs at e;cases q:shs r with
  | none=>rw [q] at e;cases e
  | some es=>rw [q] at e;cases e;rw [Ya1,zbC q];rfl
 | .ow _ _::r,_,e=>by cases e
 | .tr _ _::r,_,e=>by cases e
 | .dt _::r,_,e=>by cases e
 | .dk _::r,_,e=>by cases e
 | .fd _::r,_,e=>by cases e
 | .tk _::r,_,e=>by cases e
 | .ex _::r,_,e=>by cases e
theorem df3{k:Nat}{ps:List Str}{sp:Sp3}{E:XK}{E3:Addr->Prop}{t:TA3}(hE:∀ C H',E3 C->zm H0 H'->E (.ref C) none H')(Gd:Df3 X.prog X.w X.K X.mg X.base k x ps sp)(hr:Room k X.A)(hg:Gl X x)(hx:Passes (CXR X.prog X.w) X E)(ha:PA3 X H0 (e::es) t)(hdb:(x==("__debug__" : Str))=false:=by decide)
 (he:starEach (e::es) X.env=(false,eval e X.env)::starEach es X.env:=by rfl) (hpl:(backTo pos (starEach es X.env)).any (·.1)=false:=by rfl):PE3 X H0 (.Call (.Name x p) (e::es) [] pos) (J9 sp E3 t):=by
 refine⟨fun ρ Q Q' h q=>ha.mono ρ _ _ (fun cs ⟨hd,q⟩=>⟨hd,Gd.mono _ _ _ _ _ (fun f d ⟨a,b⟩=>⟨a,h _ b⟩) (fun _ z=>z) q⟩) q,PE.imp (zeO Gd.ok hr hg hx ha.ok hdb he hpl) fun σ H Q=>el5 fun G0 ρ G F q=>⟨G0,ρ,G,F,ha.mono ρ _ _ (fun cs ⟨hd,qc⟩ vs G1 H1 g1 w=>?_) q⟩⟩
 show spL X.K sp (vs++[]) H1 Q E
 rw [Yao];have kE:∀ C,E3 C->∀ H',zm H1 H'->E (.ref C) none H':=fun C c H' s=>hE C H' c ((F.gr g1).keep.trans s)
 cases hs:shs cs with
 | some ds=>
  refine⟨G1,cs.map Cl.d,g1.sub,by rw [zbC hs];exact(w.shs hs).rd,Gd.mono _ _ _ _ _ (fun f d ⟨_,k⟩ v G' H' g r=>k v G' H' (g1.trans g) (.sh ⟨r.rd,fun hf=>jn (Same.refl _) (fun _ _ _ z=>(F.gr g1).keep.free z) (r.nw hf)⟩)) kE qc⟩
 | none=>
  refine⟨cln H1,cs.map Cl.d,zem H1,rdvs_cln (w.rds g1.sub hd),Gd.mono _ _ _ _ _ (fun f d ⟨s,k⟩ v G' H' g r=>?_) kE qc⟩
  have sc:zA d=true:=s.resolve_left (by rw [hs];simp)
  exact k v G1 H' (g1.trans ⟨Same.refl _,g.h,g1.sub.trans g.h,fun _ _ e=>.inl e⟩) (.sh (.sc sc (zfi sc r.rd)))
end
variable[LamW]
theorem zmc{K:Ybf}{G:Hp}{vs:List V}{d:D}{ds:List D}(r:RdVs K G vs (d::ds)):∃ v us,vs=v::us/\RdV K G v d/\RdVs K G us ds:=by
 cases r with
 | cons a b=>exact⟨_,_,rfl,a,b⟩
theorem zkY{K:Ybf}{G:Hp}{v:V}{ds:List D}(r:RdV K G v (.tuple ds)):∃ a xs,v=.ref a/\SqT K G a xs/\RdVs K G xs ds:=by
 cases r with
 | tup a b=>exact⟨_,_,rfl,a,b⟩
theorem zlc{K:Ybf}{G:Hp}{v:V}{ds:List D}(r:RdV K G v (.list ds)):∃ a xs,v=.ref a/\SqL K G a xs/\RdVs K G xs ds:=by
 cases r with
 | lst a b=>exact⟨_,_,rfl,a,b⟩
theorem zj{K:Ybf}{H0 G H:Hp}{v:V}{f:Bool}{d:D}(w:Vw K H0 G H v (.sh f d)):Rf K H0 G f v d:=by
 cases w with
 | sh r=>exact r
theorem zmC{K:Ybf}{H0 G:Hp}{f:Bool}{vs:List V}{d:D}{ds:List D}(r:Rfs K H0 G f vs (d::ds)):∃ v us,vs=v::us/\Rf K H0 G f v d/\Rfs K H0 G f us ds:=by
 obtain⟨v,us,rfl,a,b⟩:=zmc r.rd;exact⟨v,us,rfl,⟨a,fun h=>by cases r.nw h with|cons x y=>exact x⟩,⟨b,fun h=>by cases r.nw h with|cons x y=>exact y⟩⟩
theorem ZH{K:Ybf}{H0 G:Hp}{f:Bool}{v:V}{ds:List D}(r:Rf K H0 G f v (.tuple ds)):∃ a xs,v=.ref a/\SqT K G a xs/\Rfs K H0 G f xs ds:=by
 cases f with
 | false=>
  obtain⟨a,xs,rfl,h,rs⟩:=zkY r.rd;exact⟨a,xs,rfl,h,rs,fun h=>by cases h⟩
 | true=>
  have n:=r.nw rfl;cases n with
  | tup h rs=>exact⟨_,_,rfl,SqT.of h,rdns_rd rs,fun _=>rs⟩
theorem j5{K:Ybf}{H0 G:Hp}{f:Bool}{v:V}{ds:List D}(r:Rf K H0 G f v (.list ds)):∃ a xs,v=.ref a/\SqL K G a xs/\Rfs K H0 G f xs ds:=by
 cases f with
 | false=>
  obtain⟨a,xs,rfl,h,rs⟩:=zlc r.rd;exact⟨a,xs,rfl,h,rs,fun h=>by cases h⟩
 | true=>
  have n:=r.nw rfl;cases n with
  | lst h _ rs=>exact⟨_,_,rfl,SqL.of h,rdns_rd rs,fun _=>rs⟩
section
variable{X:Cx}{H0:Hp}{e a b c:Expr}{pos:Pos}{st:Stmt}{rest:List Stmt}
def next3:TS3:=fun A ρ=>A.nx ρ
def seq3(t u:TS3):TS3:=fun A ρ=>t { A with nx:=u A } ρ
theorem zO:PSs3 X H0 [] next3:=PSs.imp zjg fun B σ H=>el7 fun G0 A ρ G F q L=>L.nx ρ σ G H F q
theorem zc{t u:TS3}(h1:PS3 X H0 st t)(h2:PSs3 X H0 rest u):PSs3 X H0 (st::rest) (seq3 t u):=PSs.imp (ziG h1 h2) fun B σ H=>el7 fun G0 A ρ G F q L=>
 ⟨G0,{ A with nx:=u A },ρ,G,F,q,⟨fun ρ' σ' G' H' F' q'=>⟨G0,A,ρ',G',F',q',L⟩,L.rt,L.bk,L.ct⟩⟩
theorem zg{t:TS3}(h1:PS3 X H0 st t):PSs3 X H0 [st] t:=zjf h1
def ZS(te:TE3):TS3:=fun A ρ=>te ρ fun _=>A.nx ρ
theorem zcJ{te:TE3}(he:PE3 X H0 e te)(hs:swapsWith e none pos.line X.env=pure false:=by rfl):PS3 X H0 (.Expr e pos) (ZS te):=PS.imp (zbf he.ok hs) fun B σ H=>el7 fun G0 A ρ G F q L=>
 ⟨G0,ρ,G,F,he.mono ρ _ _ (fun c q v G' H' g w=>L.nx ρ σ G' H' (F.gr g) q) q⟩
def ret3(te:TE3):TS3:=fun A ρ=>te ρ fun c=>asS c A.rt
theorem zu{te:TE3}(he:PE3 X H0 e te):PS3 X H0 (.Return (some e) pos) (ret3 te):=PS.imp (zne he.ok) fun B σ H=>el7 fun G0 A ρ G F q L=>
 ⟨G0,ρ,G,F,he.mono ρ _ _ (fun c hyp v G' H' g w=>by
  obtain⟨f,d,hc,q⟩:=jM hyp;subst hc;exact L.rt f d v G' H' (F.gr g).gr0 (zj w) q) q⟩
def ifS3(t:TT3)(u v:TS3):TS3:=fun A ρ=>t ρ fun k=>if k=true then u A ρ else v A ρ
theorem s_if{xs ys:List Stmt}{t:TT3}{u v:TS3}(hc:PT3 X H0 c t)(ha:PSs3 X H0 xs u)(hb:PSs3 X H0 ys v):PS3 X H0 (.If c xs ys pos) (ifS3 t u v):=PS.imp (znq hc.ok ha hb) fun B σ H=>el7 fun G0 A ρ G F q L=>
 ⟨G0,ρ,G,F,hc.mono ρ _ _ (fun k q G' H' g=>by
  cases k with
  | true=>exact⟨G0,A,ρ,G',F.gr g,q,L⟩
  | false=>exact⟨G0,A,ρ,G',F.gr g,q,L⟩) q⟩
def set3(i:Nat)(te:TE3):TS3:=fun A ρ=>te ρ fun c=>asS c fun f d=>A.nx (ρ.set i (some (.sh f d)))
theorem zi{i:Nat}{x:Str}{te:TE3}{pos':Pos}(hN:X.N.Nodup)(hi:X.N[i]?=some x)(hx:Loc X.env.scope x)(he:PE3 X H0 e te)(hs:swapsWith e (some (.Name x pos')) pos.line X.env=pure false:=by rfl)
 (hf:X.fn x=true\/X.env.scope.names.lookup x=some .local:=by first|exact .inl rfl|exact .inr rfl|assumption):PS3 X H0 (.Assign [.Name x pos'] e pos) (set3 i te):=PS.imp (ZD hN hi hx he.ok hs hf) fun B σ H=>el7 fun G0 A ρ G F q L=>
 ⟨G0,ρ,G,F,he.mono ρ _ _ (fun c hyp v G' H' g w=>by
  obtain⟨f,d,hc,q⟩:=jM hyp;subst hc;exact L.nx _ _ G' H' ((F.gr g).set (zj w)) q) q⟩
def own3(i:Nat)(tn:TN3):TS3:=fun A ρ=>tn ρ fun f ds=>A.nx (ρ.set i (some (.ow f ds)))
theorem jP{i:Nat}{x:Str}{tn:TN3}{pos':Pos}(hN:X.N.Nodup)(hi:X.N[i]?=some x)(hx:Loc X.env.scope x)(he:PN3 X H0 e tn)(hs:swapsWith e (some (.Name x pos')) pos.line X.env=pure false:=by rfl)
 (hf:X.fn x=true\/X.env.scope.names.lookup x=some .local:=by first|exact .inl rfl|exact .inr rfl|assumption):PS3 X H0 (.Assign [.Name x pos'] e pos) (own3 i tn):=PS.imp (ZD hN hi hx he.ok hs hf) fun B σ H=>el7 fun G0 A ρ G F q L=>
 ⟨G0,ρ,G,F,he.mono ρ _ _ (fun f ds q l vs G' H' g hl r=>L.nx _ _ G' _ ((F.gr g).own r hl) q) q⟩
abbrev TG3:=Bool->D->Env3->(Env3->Prop)->Prop
abbrev TGs3:=Bool->List D->Env3->(Env3->Prop)->Prop
def zaf(K:Ybf)(H0:Hp)(g:TG3):TG:=fun v σ H Q=>∃ G0 ρ G f d,Fr3 K H0 G0 ρ σ G H/\Rf K H0 G f v d/\g f d ρ fun ρ'=>∀ σ' G' H',Fr3 K H0 G0 ρ' σ' G' H'->Same G G'->Gr G H G' H'->Q σ' H'
def ziZ(K:Ybf)(H0:Hp)(g:TGs3):TGs:=fun vs σ H Q=>∃ G0 ρ G f ds,Fr3 K H0 G0 ρ σ G H/\Rfs K H0 G f vs ds/\g f ds ρ fun ρ'=>∀ σ' G' H',Fr3 K H0 G0 ρ' σ' G' H'->Same G G'->Gr G H G' H'->Q σ' H'
structure PG3(X:Cx)(H0:Hp)(tg:Expr)(g:TG3):Prop where
 mono:∀ f d ρ (Q Q':Env3->Prop),(∀ c,Q c->Q' c)->g f d ρ Q->g f d ρ Q'
 ok:PG X tg (zaf X.K H0 g)
structure PGs3(X:Cx)(H0:Hp)(tg:List Expr)(g:TGs3):Prop where
 mono:∀ f d ρ (Q Q':Env3->Prop),(∀ c,Q c->Q' c)->g f d ρ Q->g f d ρ Q'
 ok:PGs X tg (ziZ X.K H0 g)
theorem PG.imp{tg:Expr}{t t':TG}(h:PG X tg t)(i:∀ v σ H Q,t' v σ H Q->t v σ H Q):PG X tg t':=fun pins s σ H v u Q I r q=>h pins s σ H v u Q I r (i _ _ _ _ q)
theorem PGs.imp{tg:List Expr}{t t':TGs}(h:PGs X tg t)(i:∀ v σ H Q,t' v σ H Q->t v σ H Q):PGs X tg t':=fun pins s σ H v u Q I r q=>h pins s σ H v u Q I r (i _ _ _ _ q)
def gn3(i:Nat):TG3:=fun f d ρ Q=>Q (ρ.set i (some (.sh (f||zA d) d)))
theorem zn{i:Nat}{x:Str}(hN:X.N.Nodup)(hi:X.N[i]?=some x)(hx:Loc X.env.scope x)(hf:X.fn x=true\/X.env.scope.names.lookup x=some .local:=by first|exact .inl rfl|exact .inr rfl|assumption):PG3 X H0 (.Name x pos) (gn3 i):=
 ⟨fun f d ρ Q Q' h q=>h _ q,PG.imp (zmG hN hi hx hf) fun v σ H Q ⟨G0,ρ,G,f,d,F,r,q⟩=>q _ G H (F.set r.or) (Same.refl _) (Gr.refl F.sub)⟩
def gnil3:TGs3:=fun _ ds ρ Q=>nilP ds (Q ρ)
def jW(t:TG3)(u:TGs3):TGs3:=fun f ds ρ Q=>jN ds fun d r=>t f d ρ fun ρ'=>u f r ρ' Q
theorem jw:PGs3 X H0 [] gnil3:=
 ⟨fun f d ρ Q Q' h q=>by obtain⟨e,q⟩:=zfn q;subst e;exact h _ q,PGs.imp znE fun vs σ H Q hyp=>by
  obtain⟨G0,ρ,G,f,ds,F,r,q⟩:=hyp;obtain⟨e,q⟩:=zfn q;subst e;cases r.rd;exact⟨rfl,q σ G H F (Same.refl _) (Gr.refl F.sub)⟩⟩
theorem zQ{es:List Expr}{t:TG3}{u:TGs3}(h1:PG3 X H0 e t)(h2:PGs3 X H0 es u)(hs:(assignEach (e::es) X.env).map (·.2)=assign e X.env::(assignEach es X.env).map (·.2):=by rfl):PGs3 X H0 (e::es) (jW t u):=
 ⟨fun f d ρ Q Q' h q=>by obtain⟨x,r,e,q⟩:=zfg q;subst e;exact h1.mono f x ρ _ _ (fun ρ'=>h2.mono f r ρ' _ _ h) q,PGs.imp (ziT h1.ok h2.ok hs) fun vs σ H Q hyp=>by
  obtain⟨G0,ρ,G,f,ds,F,r,q⟩:=hyp;obtain⟨x,y,e,q⟩:=zfg q;subst e;obtain⟨v,us,rfl,r1,r2⟩:=zmC r;exact⟨v,us,rfl,G0,ρ,G,f,x,F,r1,h1.mono f x ρ _ _ (fun ρ' q σ1 G1 H1 F1 s1 g1=>⟨G0,ρ',G1,f,y,F1,r2.same s1,h2.mono f y ρ' _ _ (fun ρ2 q σ2 G2 H2 F2 s2 g2=>q σ2 G2 H2 F2 (s1.trans s2) (g1.trans g2)) q⟩) q⟩⟩
def Z6(n:Nat)(t:TGs3):TG3:=fun f d ρ Q=>asT d fun ds=>ds.length=n/\t f ds ρ Q
theorem jB{es:List Expr}{k:Nat}{t:TGs3}{n:Nat}(hc:X.calm=true)(h:PGs3 X H0 es t)(hn:(assignEach es X.env).length=n:=by rfl)(hst:(assignEach es X.env).findIdx? (·.1)=none:=by rfl):PG3 X H0 (.Tuple es k pos) (Z6 n t):=
 ⟨fun f d ρ Q Q' hq q=>by obtain⟨ds,e,l,q'⟩:=zaM q;subst e;exact⟨l,h.mono f ds ρ _ _ hq q'⟩,PG.imp (zgo hc h.ok hn hst) fun v σ H Q hyp=>by
  obtain⟨G0,ρ,G,f,d,F,r,q⟩:=hyp;obtain⟨ds,e,l,q'⟩:=zaM q;subst e;obtain⟨a,xs,rfl,hq,rs⟩:=ZH r;exact⟨a,xs,rfl,F.sub.tup hq,by rw [rs.length];exact l,G0,ρ,G,f,ds,F,rs,q'⟩⟩
def asg3(te:TE3)(g:TG3):TS3:=fun A ρ=>te ρ fun c=>asS c fun f d=>g f d ρ A.nx
theorem zm0{tg:Expr}{te:TE3}{g:TG3}(he:PE3 X H0 e te)(hg:PG3 X H0 tg g)(hs:swapsWithSole [tg] e pos.line X.env=pure false:=by rfl)(hw:swappedStores [tg] e X.env=pure none:=by rfl)
 (h1:(assignEach [tg] X.env).map (·.2)=[assign tg X.env]:=by rfl):PS3 X H0 (.Assign [tg] e pos) (asg3 te g):=PS.imp (zc9 he.ok hg.ok hs hw h1) fun B σ H=>el7 fun G0 A ρ G F q L=>
 ⟨G0,ρ,G,F,he.mono ρ _ _ (fun c hyp v G' H' g' w=>by
  obtain⟨f,d,hc,q⟩:=jM hyp;subst hc;exact⟨G0,ρ,G',f,d,F.gr g',zj w,hg.mono f d ρ _ _ (fun ρ2 q σ2 G2 H2 F2 _ _=>L.nx ρ2 σ2 G2 H2 F2 q) q⟩) q⟩
theorem zac{K:Ybf}{G0:Hp}{ρ : Env3}{σ : L2.St}{G H:Hp}{i:Nat}{f:Bool}{ds:List D}(F:Fr3 K H0 G0 ρ σ G H)(h:ρ[i]?=some (some (.ow f ds))):∃ l vs,σ[i]?=some (some (.ref l))/\H l=some (.lst vs)/\Rfs K H0 G f vs ds:=by
 obtain⟨v,h1,h2⟩:=F.slot i _ h;cases h2 with
 | ow hh r n=>exact⟨_,_,h1,hh,r⟩
def app3(i:Nat)(te:TE3):TS3:=fun A ρ=>atO ρ[i]? fun f ds=>te ρ fun c=>asS c fun g d=>ds.length<sizeLine/\A.nx (ρ.set i (some (.ow (f&&g) (ds++[d]))))
theorem JS{i:Nat}{te:TE3}{x:Str}{np apos cpos:Pos}(hN:X.N[i]?=some x)(hv:Vis X.env.scope x)(he:PE3 X H0 e te)(hd:(x==("__debug__" : Str))=false:=by decide)(hcd:(x==("__classdict__" : Str))=false:=by decide)
 (hb:attributeBase (.Name x np) "append" X.env (eval (.Name x np) X.env)=eval (.Name x np) X.env:=by rfl)
 (hf:((backTo cpos (starEach [e] X.env)).all (fun x=>!x.1)&&(backToKw cpos (keywordEach [] X.env)).all (fun x=>x.1.isSome)&&decide ([e].length+([]:List Keyword).length+(if([]:List Keyword).isEmpty then 0 else 1)<30))=true:=by rfl)
 (hl:(apos.endLine==cpos.line)=true:=by rfl) (hs:starEach [e] X.env=(false,eval e X.env)::starEach [] X.env:=by rfl) (hp:(backTo cpos (starEach [] X.env)).any (·.1)=false:=by rfl)
 (hw:swapsWith (.Call (.Attribute (.Name x np) "append" apos) [e] [] cpos) none pos.line X.env=pure false:=by rfl):PS3 X H0 (.Expr (.Call (.Attribute (.Name x np) "append" apos) [e] [] cpos) pos) (app3 i te):=by
 refine PS.imp (zbf (zc8 (jd hN hv hd hcd) (jS he.ok Jk hs) hb hf hl hs hp) hw) fun B σ H hyp=>?_
 obtain⟨G0,A,ρ,G,F,q,L⟩:=hyp;obtain⟨f,ds,hi,q⟩:=zeK q;obtain⟨l,vs,h1,h2,r⟩:=zac F hi;refine⟨.ref l,h1,za0 h2,G0,ρ,G,F,he.mono ρ _ _ (fun c q v G' H' g w=>?_) q⟩
 obtain⟨f',d,hc,hz,q'⟩:=jM q;subst hc;exact⟨l,vs,v,rfl,rfl,g.h.at h2,by rw [r.length];exact hz,L.nx _ _ _ _ ((F.gr g).change hi h1 ((r.same g.g).snoc (zj w))) q'⟩
def put3(i:Nat)(tk te:TE3):TS3:=fun A ρ=>atO ρ[i]? fun f ds=>te ρ fun c=>tk ρ fun k=>asS c fun g d=>asI k fun n=>∃ j,ixN ds.length n=some j/\A.nx (ρ.set i (some (.ow (f&&g) (ds.set j d))))
theorem zkQ{i:Nat}{tk te:TE3}{x:Str}{np spos:Pos}{k:Expr}(hN:X.N[i]?=some x)(hv:Vis X.env.scope x)(hk:PE3 X H0 k tk)(he:PE3 X H0 e te)(hd:(x==("__debug__" : Str))=false:=by decide)(hcd:(x==("__classdict__" : Str))=false:=by decide)
 (hs:swapsWithSole [.Subscript (.Name x np) k spos] e pos.line X.env=pure false:=by rfl) (hw:swappedStores [.Subscript (.Name x np) k spos] e X.env=pure none:=by rfl)
 (h1:(assignEach [.Subscript (.Name x np) k spos] X.env).map (·.2)=[assign (.Subscript (.Name x np) k spos) X.env]:=by rfl)
 (ha:∀ v,assign (.Subscript (.Name x np) k spos) X.env v=(do
  let ov <-holding [v] (eval (.Name x np) X.env)
  let iv <-holding [v,ov] (eval k X.env)
  standAt spos
  holding [v,ov,iv] (setItem ov iv v)
  release [v,ov,iv] []):=by intro _;rfl):PS3 X H0 (.Assign [.Subscript (.Name x np) k spos] e pos) (put3 i tk te):=by
 refine PS.imp (zc9 he.ok (znt (jd hN hv hd hcd) hk.ok zjB ha) hs hw h1) fun B σ H hyp=>?_
 obtain⟨G0,A,ρ,G,F,q,L⟩:=hyp;obtain⟨f,ds,hi,q⟩:=zeK q;refine⟨G0,ρ,G,F,he.mono ρ _ _ (fun c qc v G1 H1 g1 w1=>?_) q⟩
 obtain⟨l,vs,h1,h2,r⟩:=zac F hi;refine⟨.ref l,h1,G0,ρ,G1,F.gr g1,hk.mono ρ _ _ (fun kc q kv G2 H2 g2 w2=>?_) qc⟩
 obtain⟨f',d,hc,q1⟩:=jM q;obtain⟨n,hn,j,hj,q'⟩:=zb1 q1;subst hc hn;have rk:=(zj w2).rd;cases rk;refine⟨l,vs,n,j,rfl,rfl,g2.h.at (g1.h.at h2),by rw [r.length];exact hj,L.nx _ _ _ _ (((F.gr g1).gr g2).change hi h1 ((r.same (g1.g.trans g2.g)).set ((zj w1).same g2.g) j)) q'⟩
def frz1(i:Nat)(ρ : Env3):Env3:=match ρ[i]? with
 | some (some (.ow f ds))=>ρ.set i (some (.sh f (.list ds)))
 | some (some (.tr _ ms))=>ρ.set i (some (.sh true (.list (ms.map PyData.list))))
 | _=>ρ
def frz:List Nat->Env3->Env3
 | [],ρ=>ρ
 | i::r,ρ=>frz r (frz1 i ρ)
theorem Fr3.frz1{K:Ybf}{G0:Hp}{ρ : Env3}{σ : L2.St}{G H:Hp}(F:Fr3 K H0 G0 ρ σ G H)(i:Nat):∃ G',Same G G'/\Fr3 K H0 G0 (L3.frz1 i ρ) σ G' H:=by
 unfold L3.frz1
 split
 . rename_i f ds h;exact F.freeze h
 . rename_i ps ms h;exact F.freezeT h
 . exact⟨G,Same.refl _,F⟩
theorem Fr3.frz{K:Ybf}{G0:Hp}{σ : L2.St}{H:Hp}:∀ (is:List Nat) {ρ : Env3} {G:Hp},Fr3 K H0 G0 ρ σ G H->∃ G',Same G G'/\Fr3 K H0 G0 (L3.frz is ρ) σ G' H
 | [],ρ,G,F=>⟨G,Same.refl _,F⟩
 | i :: r, ρ, G, F => by
  obtain⟨G1,s1,F1⟩:=F.frz1 i;obtain⟨G2,s2,F2⟩:=Fr3.frz r F1;exact⟨G2,s1.trans s2,F2⟩
def frzS(is:List Nat)(t:TS3):TS3:=fun A ρ=>t A (frz is ρ)
theorem jD(is:List Nat){t:TS3}(h:PS3 X H0 st t):PS3 X H0 st (frzS is t):=PS.imp h fun B σ H=>el7 fun G0 A ρ G F q L=>by
 obtain⟨G',s',F'⟩:=F.frz is;exact⟨G0,A,frz is ρ,G',F',q,L⟩
def whN(c:TT3)(tb:TS3)(A:Ends3):Nat->Env3->Prop
 | 0,_=>False
 | n+1,ρ=>c ρ fun k=>if k=true then tb { A with nx:=whN c tb A n,ct:=whN c tb A n,bk:=A.nx } ρ else A.nx ρ
def ziz(c:TT3)(tb:TS3):TS3:=fun A ρ=>∃ n,whN c tb A n ρ
theorem zau{body:List Stmt}{tc:TT3}{tb:TS3}(hp:PassesOwn (model X.prog X.w) X.A X.env X.xe)(hc:PT3 X H0 c tc)(hb:PSs3 X H0 body tb):PS3 X H0 (.While c body [] pos) (ziz tc tb):=PS.imp (zgC hp hc.ok hb) fun B σ H hyp=>by
 obtain⟨G0,A,ρ,G,F,⟨n,q⟩,L⟩:=hyp;refine⟨fun m σ' H'=>∃ ρ' G',Fr3 X.K H0 G0 ρ' σ' G' H'/\whN tc tb A m ρ',⟨n,ρ,G,F,q⟩,?_⟩
 rintro m σ' H' ⟨ρ',G',F',q'⟩
 cases m with
 | zero=>exact q'.elim
 | succ m=>
  refine⟨G0,ρ',G',F',hc.mono ρ' _ _ (fun k q G2 H2 g=>?_) q'⟩
  cases k with
  | false=>exact L.nx ρ' σ' G2 H2 (F'.gr g) q
  | true=>
   exact⟨fun σ3 H3=>∃ ρ3 G3,Fr3 X.K H0 G0 ρ3 σ3 G3 H3/\whN tc tb A m ρ3,fun σ3 H3 h3=>⟨m,Wa4 _,h3⟩,
    G0,_,ρ',G2,F'.gr g,q,⟨fun ρ4 σ4 G4 H4 F4 q4=>⟨ρ4,G4,F4,q4⟩,L.rt,L.nx,fun ρ4 σ4 G4 H4 F4 q4=>⟨ρ4,G4,F4,q4⟩⟩⟩
structure ItOk(K:Ybf)(H0:Hp)(J:It)(fl:Bool)(ds:List D)(Gs:Hp):Prop where
 go:∀ (i:Nat) d G H,ds[i]?=some d->Same Gs G->Sub G H->J.go i H/\∀ x H',J.yld i H x H'->∃ G',Gr G H G' H'/\Rf K H0 G' fl x d
 stop:∀ (i:Nat) G H,i=ds.length->Same Gs G->Sub G H->J.stop i H
abbrev TI3:=Env3->(Bool->List D->Prop)->Prop
def za1(K:Ybf)(H0:Hp)(t:TI3):TI:=fun σ H R=>∃ G0 ρ G,Fr3 K H0 G0 ρ σ G H/\t ρ fun f ds=>∀ J G' H',Gr G H G' H'->ItOk K H0 J f ds G'->R J H'
structure PI3(X:Cx)(H0:Hp)(tg iter:Expr)(t:TI3):Prop where
 mono:∀ ρ (Q Q':Bool->List D->Prop),(∀ f c,Q f c->Q' f c)->t ρ Q->t ρ Q'
 ok:PI X tg iter (za1 X.K H0 t)
def forL(g:TG3)(tb:TS3)(A:Ends3)(f:Bool):List D->Env3->Prop
 | [],ρ=>A.nx ρ
 | d::ds,ρ=>g f d ρ fun ρ'=>tb { A with nx:=forL g tb A f ds,ct:=forL g tb A f ds,bk:=A.nx } ρ'
def for3(ti:TI3)(g:TG3)(tb:TS3):TS3:=fun A ρ=>ti ρ fun f ds=>forL g tb A f ds ρ
theorem zM{tg iter:Expr}{body:List Stmt}{ti:TI3}{g:TG3}{tb:TS3}(hp:PassesOwn (model X.prog X.w) X.A X.env X.xe)(hc:X.calm=true)(hi:PI3 X H0 tg iter ti)(hg:PG3 X H0 tg g)(hb:PSs3 X H0 body tb)
 (hs:∀ x,foldedSetIterable iter X.env x=pure x:=by intro _;rfl):PS3 X H0 (.For tg iter body [] pos) (for3 ti g tb):=PS.imp (zkz hp hc hi.ok hg.ok hb hs) fun B σ H=>el7 fun G0 A ρ G F q L=>by
 refine⟨G0,ρ,G,F,hi.mono ρ _ _ (fun f ds k J G1 H1 g1 ok=>?_) q⟩
 have B1:Fr3 X.K H0 G0 ρ σ G1 H1:=F.gr g1;refine⟨fun i m σ' H'=>i<=ds.length/\m=ds.length - i/\∃ ρ' G',Fr3 X.K H0 G1 ρ' σ' G' H'/\forL g tb A f (ds.drop i) ρ',⟨ds.length,WbG _,rfl,ρ,G1,B1.rebase,k⟩,?_⟩
 rintro i m σ' H' ⟨hil,rfl,ρ',G',F',k'⟩
 by_cases hlt:i<ds.length
 . right
   have hd:ds[i]?=some ds[i]:=YaQ hlt;obtain⟨hgo,hy⟩:=ok.go i _ G' H' hd F'.g0 F'.sub;rw [Wah hlt] at k';refine⟨hgo,fun σ2 H2=>∃ ρ2 G2,Fr3 X.K H0 G1 ρ2 σ2 G2 H2/\forL g tb A f (ds.drop (i+1)) ρ2,fun σ2 H2 h2=>⟨_,Nat.sub_lt_sub_left hlt (Wa4 _),Nat.succ_le_of_lt hlt,rfl,h2⟩,fun x H2 y=>?_⟩
   obtain⟨G2,g2,r2⟩:=hy x H2 y;refine⟨G1,ρ',G2,f,_,F'.gr g2,r2,hg.mono f _ ρ' _ _ (fun ρ3 q3 σ3 G3 H3 F3 _ _=>⟨G1,_,ρ3,G3,F3,q3,?_⟩) k'⟩
   exact⟨fun ρ4 σ4 G4 H4 F4 q4=>⟨ρ4,G4,F4,q4⟩,fun f d v G4 H4 g4 r4 q4=>L.rt f d v G4 H4 (g4.back B1) r4 q4,fun ρ4 σ4 G4 H4 F4 q4=>L.nx ρ4 σ4 G4 H4 (F4.back B1) q4,fun ρ4 σ4 G4 H4 F4 q4=>⟨ρ4,G4,F4,q4⟩⟩
 . left
   have e:i=ds.length:=Nat.le_antisymm hil (Nat.not_lt.mp hlt);rw [e,List.drop_length] at k';exact⟨ok.stop i G' H' e F'.g0 F'.sub,L.nx ρ' σ' G' H' (F'.back B1) k'⟩
theorem PI.imp{tg iter:Expr}{t t':TI}(h:PI X tg iter t)(i:∀ σ H R,t' σ H R->t σ H R):PI X tg iter t':=fun pins s σ H R I q=>h pins s σ H R I (i _ _ _ q)
def itL(te:TE3):TI3:=fun ρ Q=>te ρ fun c=>asL c Q
theorem zmi{K:Ybf}{H0 G:Hp}{a:Addr}{xs:List V}{f:Bool}{ds:List D}(hq:SqL K G a xs)(r:Rfs K H0 G f xs ds):ItOk K H0 (Itl K a) f ds G where
 go:=fun i d G' H hd s1 s2=>by
  obtain⟨x,hx,rx⟩:=r.get hd;refine⟨⟨xs,x,(s1.trans s2.s).seq hq,hx⟩,fun y H' ⟨e,hy⟩=>?_⟩
  subst e;have:=hy xs ((s1.trans s2.s).seq hq);rw [hx] at this;cases this;exact⟨G',Gr.refl s2,rx.same s1⟩
 stop:=fun i G' H hl s1 s2=>⟨xs,(s1.trans s2.s).seq hq,by rw [r.length,hl];exact YaY _⟩
theorem zV{tg iter:Expr}{te:TE3}(h:PE3 X H0 iter te):PI3 X H0 tg iter (itL te):=
 ⟨fun ρ Q Q' hq q=>h.mono ρ _ _ (fun c q=>by obtain⟨f,ds,e,q⟩:=zbJ q;subst e;exact hq _ _ q) q,PI.imp (zlj h.ok) fun σ H R=>el5 fun G0 ρ G F q=>⟨G0,ρ,G,F,h.mono ρ _ _ (fun c hyp v G' H' g w=>by
  obtain⟨f,ds,e,k⟩:=zbJ hyp;subst e;obtain⟨a,xs,rfl,hq,rs⟩:=j5 (zj w);exact⟨a,rfl,⟨xs,g.sub.seq hq⟩,k _ G' H' g (zmi hq rs)⟩) q⟩⟩
def nums(lo:Int)(n:Nat):List D:=(List.range n).map fun i=>.int (lo+(i:Nat))
theorem zcK{K:Ybf}{H0 G:Hp}{lo:Int}{n:Nat}:ItOk K H0 (Itr lo n) true (nums lo n) G where
 go:=fun i d G' H hd s1 s2=>by
  unfold nums at hd;rw [Ya0] at hd
  by_cases hi:i<n
  . rw [Yax hi] at hd
    cases hd;exact⟨hi,fun x H' ⟨e1,e2⟩=>by subst e1 e2;exact⟨G',Gr.refl s2,.sc rfl (.int _)⟩⟩
  . rw [Wax (by simpa using hi)] at hd;cases hd
 stop:=fun i G' H hl s1 s2=>by unfold nums at hl;show n<=i;simp at hl;omega
theorem zE{K:Ybf}{G:Hp}{v:V}{i:Int}(r:RdV K G v (.int i)):v=.int i:=by cases r;rfl
theorem vws1{K:Ybf}{H0 G H:Hp}{vs:List V}{c:Cl}(w:Vws K H0 G H vs [c]):∃ v,vs=[v]/\Vw K H0 G H v c:=by
 cases w with
 | cons a b=>cases b;exact⟨_,rfl,a⟩
theorem vws2{K:Ybf}{H0 G H:Hp}{vs:List V}{c d:Cl}(w:Vws K H0 G H vs [c,d]):∃ v u,vs=[v,u]/\Vw K H0 G H v c/\Vw K H0 G H u d:=by
 cases w with
 | cons a b=>obtain⟨u,rfl,h⟩:=vws1 b;exact⟨_,_,rfl,a,h⟩
def rg1(t:TA3):TI3:=fun ρ Q=>t ρ fun cs=>∃ j,cs=[.sh true (.int j)]/\(-(2 ^ 62)<=j/\j<2 ^ 62)/\Q true (nums 0 j.toNat)
def rg2(t:TA3):TI3:=fun ρ Q=>t ρ fun cs=>∃ i j,cs=[.sh true (.int i),.sh true (.int j)]/\(-(2 ^ 62)<=i/\i<2 ^ 62/\-(2 ^ 62)<=j/\j<2 ^ 62)/\Q true (nums i (j - i).toNat)
theorem Zb{tg a:Expr}{t:TA3}{p:Pos}(hg:Gl X "range")(hm:X.mg "range" = none)(ha:PA3 X H0 [a] t)(hs:starEach [a] X.env=[(false,eval a X.env)]:=by rfl):PI3 X H0 tg (.Call (.Name "range" p) [a] [] pos) (rg1 t):=
 ⟨fun ρ Q Q' hq q=>ha.mono ρ _ _ (fun c ⟨j,e,b,q⟩=>⟨j,e,b,hq _ _ q⟩) q,PI.imp (zmj hg hm ha.ok hs) fun σ H R=>el5 fun G0 ρ G F q=>⟨G0,ρ,G,F,ha.mono ρ _ _ (fun c hyp vs G' H' g w=>by
  obtain⟨j,e,b,k⟩:=hyp;subst e;obtain⟨v,rfl,w1⟩:=vws1 w;cases zE (zj w1).rd;exact⟨j,rfl,b.1,b.2,k _ G' H' g zcK⟩) q⟩⟩
theorem zd3{tg a b:Expr}{t:TA3}{p:Pos}(hg:Gl X "range")(hm:X.mg "range" = none)(ha:PA3 X H0 [a,b] t)(hs:starEach [a,b] X.env=[(false,eval a X.env),(false,eval b X.env)]:=by rfl)(hs2:starEach [b] X.env=[(false,eval b X.env)]:=by rfl):PI3 X H0 tg (.Call (.Name "range" p) [a,b] [] pos) (rg2 t):=
 ⟨fun ρ Q Q' hq q=>ha.mono ρ _ _ (fun c ⟨i,j,e,b,q⟩=>⟨i,j,e,b,hq _ _ q⟩) q,PI.imp (zlK hg hm ha.ok hs hs2) fun σ H R=>el5 fun G0 ρ G F q=>⟨G0,ρ,G,F,ha.mono ρ _ _ (fun c hyp vs G' H' g w=>by
  obtain⟨i,j,e,b,k⟩:=hyp;subst e;obtain⟨v,u,rfl,w1,w2⟩:=vws2 w;cases zE (zj w1).rd;cases zE (zj w2).rd;exact⟨i,j,rfl,b,k _ G' H' g zcK⟩) q⟩⟩
end
variable[LamW]
def cst3(n:Nat)(js:List Nat)(ρ : Env3):Env3:=List.replicate n none++js.map fun j=>(ρ[j]?).join
def er(D:Addr)(H:Hp):Hp:=fun b=>if b=D then none else H b
theorem ZV{D:Addr}{H:Hp}:er D H D=none:=by unfold er;rw [if_pos rfl]
theorem jC{D b:Addr}{H:Hp}(h:b≠D):er D H b=H b:=by unfold er;rw [if_neg h]
theorem zjE{D b:Addr}{H:Hp}{o:HO}(h:er D H b=some o):b≠D/\H b=some o:=by
 by_cases e:b=D
 . subst e;rw [ZV] at h;cases h
 . rw [jC e] at h;exact⟨e,h⟩
theorem zmp{D:Addr}{H:Hp}{o:HO}(h:H D=some o):upd (er D H) D o=H:=by
 funext b
 by_cases e:b=D
 . subst e;rw [zl,h]
 . rw [zh e,jC e]
theorem Gr.er{D:Addr}{G H G' H':Hp}(g:Gr G H G' H')(hD:G' D=none)(hx:∀ f,H' D≠some (.ext f)):Gr G (er D H) G' (er D H') where
 g:=g.g
 h:=fun b o e=>by
  obtain⟨n,e⟩:=zjE e;rw [jC n]
  rcases g.h b o e with z|⟨z,y,c',h1,h2⟩
  . exact .inl z
  . exact .inr ⟨z,y,c',by rw [jC n];exact h1,by rw [jC (fun w=>by rw [w] at h2;exact hx _ h2)];exact h2⟩
 sub:=⟨fun b o e=>by
  rw [jC (zS e hD)];exact g.sub.s b o e,g.sub.cl⟩
 new:=fun b o e=>by
  rcases g.new b o e with q|q|q
  . exact .inl q
  . by_cases hb:b=D
    . subst hb;exact .inr (.inl ZV)
    . exact .inr (.inl (by rw [jC hb];exact q))
  . exact .inr (.inr q)
theorem Zt{α : Type}{n i:Nat}{js:List Nat}{l:List (Option α)}{x:α}(h:(List.replicate n none++js.map fun j=>(l[j]?).join)[i]?=some (some x)):∃ j,n<=i/\js[i - n]?=some j/\l[j]?=some (some x):=by
 by_cases hi:i<n
 . rw [Yab (by simpa using hi),Yad,if_pos hi] at h
   cases h
 . rw [Yae (by simpa using hi),Ybb,Ya0] at h
   cases ej:js[i - n]? with
   | none=>rw [ej] at h;cases h
   | some j=>
    rw [ej] at h;have h':(l[j]?).join=some x:=Wbe h;refine⟨j,Nat.not_lt.mp hi,rfl,?_⟩;cases q:l[j]? with
    | none=>rw [q] at h';cases h'
    | some o => rw [q] at h'; cases o with
     | none=>cases h'
     | some v=>cases h';rfl
theorem zhn{α : Type}{n i j:Nat}{js:List Nat}{l:List (Option α)}{x:α}(hi:n<=i)(hj:js[i - n]?=some j)(h:l[j]?=some (some x)):(List.replicate n none++js.map fun j=>(l[j]?).join)[i]?=some (some x):=by
 rw [Yae (by simpa using hi),Ybb,Ya0,hj]
 simp [h]
theorem Rf.asideU{K:Ybf}{H0 G:Hp}{A:Addr}{ys:List V}{f:Bool}{v:V}{d:D}(r:Rf K H0 G f v d)(hA:G A=none):Rf K (upd H0 A (.lst ys)) G f v d:=⟨r.rd,fun h=>jn (Same.refl _) (fun a o e n=>by rw [zh (zS e hA)];exact n) (r.nw h)⟩
theorem Rf.asideD{K:Ybf}{H0 G:Hp}{A:Addr}{ys:List V}{f:Bool}{v:V}{d:D}(r:Rf K (upd H0 A (.lst ys)) G f v d):Rf K H0 G f v d:=⟨r.rd,fun h=>jn (Same.refl _) (fun a o e n=>by
 have ha:a≠A:=fun z=>by subst z;rw [zl] at n;cases n
 rw [zh ha] at n;exact n) (r.nw h)⟩
theorem Rf.aside{K:Ybf}{H0 G:Hp}{A:Addr}{ys zs:List V}{f:Bool}{v:V}{d:D}(r:Rf K (upd H0 A (.lst ys)) G f v d)(hA:G A=none):Rf K (upd H0 A (.lst zs)) G f v d:=r.asideD.asideU hA
theorem Rfs.asideU{K:Ybf}{H0 G:Hp}{A:Addr}{ys:List V}{f:Bool}{v:List V}{d:List D}(r:Rfs K H0 G f v d)(hA:G A=none):Rfs K (upd H0 A (.lst ys)) G f v d:=⟨r.rd,fun h=>rdns_mono (Same.refl _) (fun a o e n=>by rw [zh (zS e hA)];exact n) (r.nw h)⟩
theorem Rfs.aside{K:Ybf}{H0 G:Hp}{A:Addr}{ys zs:List V}{f:Bool}{v:List V}{d:List D}(r:Rfs K (upd H0 A (.lst ys)) G f v d)(hA:G A=none):Rfs K (upd H0 A (.lst zs)) G f v d:=⟨r.rd,fun h=>rdns_mono (Same.refl _) (fun a o e n=>by
 rw [zh (zS e hA)] at n ⊢;exact n) (r.nw h)⟩
theorem Dr.asideU{K:Ybf}{H0 G:Hp}{A:Addr}{ys:List V}{kvs:List (List Key×V)}{ds:List (List Key×PyData)}(r:Dr K H0 G kvs ds)(hA:G A=none):Dr K (upd H0 A (.lst ys)) G kvs ds:=by
 induction r with
 | nil=>exact .nil
 | cons a b ih=>exact .cons (a.asideU hA) ih
theorem Dr.aside{K:Ybf}{H0 G:Hp}{A:Addr}{ys zs:List V}{kvs:List (List Key×V)}{ds:List (List Key×PyData)}(r:Dr K (upd H0 A (.lst ys)) G kvs ds)(hA:G A=none):Dr K (upd H0 A (.lst zs)) G kvs ds:=by
 induction r with
 | nil=>exact .nil
 | cons a b ih=>exact .cons (a.aside hA) ih
theorem Vw.rebase{K:Ybf}{H0 G H:Hp}{A:Addr}{v:V}{c:Cl}(w:Vw K H0 G (upd H A (.lst [])) v c)(s:Sub G H)(hA:H A=none):Vw K (upd H0 A (.lst [])) G (upd H A (.lst [])) v c:=by
 have gA:G A=none:=s.free hA;cases w with
 | sh r=>exact .sh (r.asideU gA)
 | ow h r n=>exact .ow h (r.asideU gA) n
 | tr t=>
  refine .tr ⟨t.top,t.topG,t.nd,t.len,fun k p m h1 h2=>?_⟩
  obtain⟨vs,a,b,c⟩:=t.item k p m h1 h2;exact⟨vs,a,b,c.asideU gA⟩
 | dt h r n=>exact .dt h (r.asideU gA) n
 | dk h n=>exact .dk h n
 | fd h r k=>exact .fd h (r.asideU gA) k
 | tk h=>exact .tk h
 | ex h=>exact .ex h
section
variable{K:Ybf}{H0 G0:Hp}{ρ : Env3}{σ : L2.St}{G H:Hp}{D:Addr}
theorem Fr3.comp(F:Fr3 K H0 G0 ρ σ G H)(n:Nat){js:List Nat}(hj:js.Nodup)(hD:H D=none):Fr3 K (upd H0 D (.lst [])) G (cst3 n js ρ) (cst n js σ) G (upd H D (.lst [])) where
 keep:=fun b o e=>by
  by_cases hb:b=D
  . subst hb;rw [zl] at e ⊢;exact .inl e
  . rw [zh hb] at e ⊢
    rcases F.keep b o e with z|⟨z,y,l⟩
    . exact .inl z
    . exact .inr ⟨z,y,l.same (zJ hD _).x⟩
 sub:=F.sub.trans (zJ hD _).x
 old:=fun b o e=>.inl e
 g0:=Same.refl _
 slot:=fun i c e=>by
  obtain⟨j,h1,h2,h3⟩:=Zt e;obtain⟨v,h4,h5⟩:=F.slot j c h3;exact⟨v,zhn h1 h2 h4,(h5.gr (Gr.apart F.sub hD)).rebase F.sub hD⟩
 mine:=fun i c v a e e' h=>by
  obtain⟨j,h1,h2,h3⟩:=Zt e;obtain⟨j',h1',h2',h3'⟩:=Zt e';rw [h2] at h2';cases h2';obtain⟨⟨o,q,_⟩,_⟩:=(F.vw h3 h3').has h;rw [zh (zS q hD)];exact F.mine j c v a h3 h3' h
 apart:=fun i k c1 c2 v1 v2 a e1 e2 e3 e4 q1 q2=>by
  obtain⟨j,h1,h2,h3⟩:=Zt e1;obtain⟨j',h1',h2',h3'⟩:=Zt e2;obtain⟨j2,h4,h5,h6⟩:=Zt e3;obtain⟨j3,h7,h8,h9⟩:=Zt e4;rw [h2] at h5;cases h5;rw [h2'] at h8;cases h8;have e:=F.apart j j' c1 c2 v1 v2 a h3 h3' h6 h9 q1 q2;subst e;have ei:i - n=k - n:=by
   obtain⟨a1,b1⟩:=Ya8.mp h2;obtain⟨a2,b2⟩:=Ya8.mp h2';exact(Wa3 hj).mp (b1.trans b2.symm)
  omega
 len:=by unfold cst3 cst;simp
theorem Fr3.aside{ys zs:List V}(F:Fr3 K (upd H0 D (.lst ys)) G0 ρ σ G H)(hG0:G0 D=none):Fr3 K (upd H0 D (.lst zs)) G0 ρ σ G (upd H D (.lst zs)):=by
 have hD:H D=some (.lst ys):=F.keep.at (b:=D) zl;have hG:G D=none:=by
  cases e:G D with
  | none=>rfl
  | some o=>
   rcases F.old D o e with q|q|⟨xs,q⟩
   . rw [hG0] at q;cases q
   . rw [zl] at q;cases q
   . have:=F.sub.s _ _ e;rw [hD,q] at this;cases this
 refine⟨fun b o e=>?_,⟨fun b o e=>by rw [zh (zS e hG)];exact F.sub.s b o e,F.sub.cl⟩,fun b o e=>?_,F.g0,fun i c e=>?_,fun i c v a e e' h=>?_,F.apart,F.len⟩
 . by_cases hb:b=D
   . subst hb;rw [zl] at e ⊢;exact .inl e
   . rw [zh hb] at e ⊢
     rcases F.keep b o (by rw [zh hb];exact e) with z|⟨z,y,l⟩
     . exact .inl z
     . exact .inr ⟨z,y,l.upd hb fun f q=>by rw [hD] at q;cases q⟩
 . rcases F.old b o e with q|q|q
   . exact .inl q
   . by_cases hb:b=D
     . subst hb;rw [zl] at q;cases q
     . rw [zh hb] at q;exact .inr (.inl (by rw [zh hb];exact q))
   . exact .inr (.inr q)
 . obtain⟨v,h1,h2⟩:=F.slot i c e
   refine⟨v,h1,?_⟩
   cases h2 with
   | sh r=>exact .sh (r.aside hG)
   | ow h r n=>
    rename_i l vs f ds;have hl:l≠D:=fun z=>by
     subst z;have:=F.mine i _ _ l e h1 rfl;rw [zl] at this;cases this
    exact .ow (by rw [zh hl];exact h) (r.aside hG) n
   | dt h r n=>
    rename_i l kvs ds;have hl:l≠D:=fun z=>by
     subst z;have:=F.mine i _ _ l e h1 rfl;rw [zl] at this;cases this
    exact .dt (by rw [zh hl];exact h) (r.aside hG) n
   | dk h n=>
    rename_i l ks;have hl:l≠D:=fun z=>by
     subst z;have:=F.mine i _ _ l e h1 rfl;rw [zl] at this;cases this
    exact .dk (by rw [zh hl];exact h) n
   | fd h r k=>exact .fd h (r.aside hG) k
   | tk h=>exact .tk h
   | tr t=>
    rename_i l ps ms;have hl:∀ a,Has (.tr ps ms) (.ref l) a->a≠D:=fun a ha z=>by
     subst z;have:=F.mine i _ _ a e h1 ha;rw [zl] at this;cases this
    refine .tr ⟨by rw [zh (hl l (.inl rfl))];exact t.top,t.topG,t.nd,t.len,fun k p m h1 h2=>?_⟩
    obtain⟨vs,a,b,c⟩:=t.item k p m h1 h2;exact⟨vs,by rw [zh (hl p (.inr (Yah h1)))];exact a,b,c.aside hG⟩
   | ex h=>
    rename_i l C;have hl:l≠D:=fun z=>by subst z;rw [hD] at h;cases h
    exact .ex (by rw [zh hl];exact h)
 . have q:=F.mine i c v a e e' h
   have hl:a≠D:=fun z=>by subst z;rw [zl] at q;cases q
   rw [zh hl] at q ⊢;exact q
theorem Fr3.atD{ys:List V}(F:Fr3 K (upd H0 D (.lst ys)) G0 ρ σ G H)(hG0:G0 D=none):G D=none/\H D=some (.lst ys):=by
 refine⟨?_,F.keep.at (b:=D) zl⟩
 cases e:G D with
 | none=>rfl
 | some o=>
  rcases F.old D o e with q|q|⟨xs,q⟩
  . rw [hG0] at q;cases q
  . rw [zl] at q;cases q
  . have h1:=F.sub.s _ _ e
    have h2:=F.keep.at (b:=D) zl;rw [h2,q] at h1;cases h1
end
section
variable{X:Cx}{H0:Hp}{pos:Pos}
structure PTs3(X:Cx)(H0:Hp)(es:List Expr)(t:TT3):Prop where
 mono:∀ ρ (Q Q':Bool->Prop),(∀ c,Q c->Q' c)->t ρ Q->t ρ Q'
 ok:PTs X es (Jh X.K H0 t)
def true3:TT3:=fun _ Q=>Q true
theorem jI:PTs3 X H0 [] true3:=⟨fun ρ Q Q' h q=>h _ q,fun pins s σ H Q I=>el5 fun G0 ρ G F q=>znY pins s σ H Q I (q G H (Gr.refl F.sub))⟩
def Jc(g:TG3)(tt:TT3)(te:TE3)(f:Bool):List D->Bool->List D->Env3->(Bool->List D->Prop)->Prop
 | [],fa,acc,_,Q=>Q fa acc
 | d::ds,fa,acc,ρ,Q=>g f d ρ fun ρ'=>tt ρ' fun k=>if k=true then te ρ' fun c=>asS c fun fy y=>Jc g tt te f ds (fa&&fy) (acc++[y]) ρ' Q else Jc g tt te f ds fa acc ρ' Q
def jX(ti:TI3)(g:TG3)(tt:TT3)(te:TE3)(n:Nat)(js:List Nat):TN3:=fun ρ Q=>ti ρ fun f ds=>ds.length<=sizeLine/\Jc g tt te f ds true [] (cst3 n js ρ) Q
theorem zbQ{g:TG3}{tt:TT3}{te:TE3}(hg:∀ f d ρ (Q Q':Env3->Prop),(∀ c,Q c->Q' c)->g f d ρ Q->g f d ρ Q')(ht:∀ ρ (Q Q':Bool->Prop),(∀ c,Q c->Q' c)->tt ρ Q->tt ρ Q')(he:∀ ρ (Q Q':Cl->Prop),(∀ c,Q c->Q' c)->te ρ Q->te ρ Q')
 {f:Bool} {Q Q':Bool->List D->Prop} (h:∀ f c,Q f c->Q' f c):∀ ds fa acc ρ,Jc g tt te f ds fa acc ρ Q->Jc g tt te f ds fa acc ρ Q'
 | [],fa,acc,ρ,q=>h _ _ q
 | d :: ds, fa, acc, ρ, q => hg f d ρ _ _ (fun ρ' => ht ρ' _ _ fun k => by
  cases k with
  | true=>exact he ρ' _ _ fun c q=>by obtain⟨fy,y,e,q⟩:=jM q;subst e;exact zbQ hg ht he h ds _ _ ρ' q
  | false=>exact zbQ hg ht he h ds fa acc ρ') q
theorem zdo{tn fn N:List Str}{js:List Nat}(nd:(tn++fn).Nodup)(hj:js.map (fun j=>N[j]?)=fn.map some):js.Nodup:=by
 have h1:(fn.map some).Nodup:=by
  have:=(WaQ.mp nd).2.1;exact List.Pairwise.map some (fun a b h e=>h (Wbe e)) this
 rw [<-hj] at h1;exact List.Pairwise.of_map _ (fun a b h e=>h (by rw [e])) h1
theorem ze5{elt tg:Expr}{ifs:List Expr}{scope:Scope}{N:List Str}{g:TG3}{tt:TT3}{te:TE3}
 (hb:∀ H0 s H fp cl,PG3 (X.comp scope N s H fp cl) H0 tg g/\PTs3 (X.comp scope N s H fp cl) H0 ifs tt/\PE3 (X.comp scope N s H fp cl) H0 elt te):∀ s H fp cl,PG (X.comp scope N s H fp cl) tg (fun v σ H Q=>∃ H0,zaf X.K H0 g v σ H Q)/\PTs (X.comp scope N s H fp cl) ifs (fun σ H Q=>∃ H0,Jh X.K H0 tt σ H Q)/\PE (X.comp scope N s H fp cl) elt (fun σ H Q=>∃ H0,je X.K H0 te σ H Q):=fun s H fp cl=>
 ⟨fun pins s' σ H' v u Q I r ⟨h0,q⟩=>(hb h0 s H fp cl).1.ok pins s' σ H' v u Q I r q,fun pins s' σ H' Q I ⟨h0,q⟩=>(hb h0 s H fp cl).2.1.ok pins s' σ H' Q I q,fun pins s' σ H' Q I ⟨h0,q⟩=>(hb h0 s H fp cl).2.2.ok pins s' σ H' Q I q⟩
theorem zcQ{Y Y' Y'':Cx}{h1 h2 h3:Hp}{elt tg iter:Expr}{ifs:List Expr}{ti:TI3}{g:TG3}{tt:TT3}{te:TE3}{n:Nat}{js:List Nat}(hjn:js.Nodup)(hi:PI3 X H0 tg iter ti)(m1:PG3 Y h1 tg g)(m2:PTs3 Y' h2 ifs tt)(m3:PE3 Y'' h3 elt te) :
 ∀ σ H Q,zev X.K H0 (jX ti g tt te n js) σ H Q->zbg (za1 X.K H0 ti) (fun v σ H Q=>∃ H0,zaf X.K H0 g v σ H Q) (fun σ H Q=>∃ H0,Jh X.K H0 tt σ H Q) (fun σ H Q=>∃ H0,je X.K H0 te σ H Q) n js σ H Q:=by
 rintro σ H Q ⟨G0,ρ,G,F,q⟩
 refine⟨G0,ρ,G,F,hi.mono ρ _ _ (fun fl ds ⟨hz,k⟩ J G1 H1 g1 ok A hA=>?_) q⟩
 have F1:=F.gr g1;have gA:G1 A=none:=g1.sub.free hA;have h0A:H0 A=none:=F1.keep.free hA;refine⟨fun i m ys σ2 H2=>i<=ds.length/\m=ds.length - i/\ys.length<=i/\∃ ρ2 G2 fe es,Fr3 X.K (upd H0 A (.lst ys)) G1 ρ2 σ2 G2 H2/\Rfs X.K H0 G2 fe ys es/\Gr G1 H1 G2 (er A H2)/\Jc g tt te fl (ds.drop i) fe es ρ2 (fun f ds=>∀ l vs G' H',Gr G H G' H'->H' l=none->Rfs X.K H0 G' f vs ds->Q (.ref l) (upd H' l (.lst vs))),
  ⟨ds.length,WbG _,rfl,YaY _,cst3 n js ρ,G1,true,[],F1.comp n hjn hA,.nil,?_,k⟩,?_⟩
 . have e:er A (upd H1 A (.lst []))=H1:=by
    funext b
    by_cases hb:b=A
    . subst hb;rw [ZV,hA]
    . rw [jC hb,zh hb]
   rw [e];exact Gr.refl g1.sub
 rintro i m ys σ2 H2 ⟨hil,rfl,hyl,ρ2,G2,fe,es,F2,r2,g2,k2⟩
 obtain⟨hG2,hH2⟩:=F2.atD gA
 by_cases hlt:i<ds.length
 . right
   have hd:ds[i]?=some ds[i]:=YaQ hlt;obtain⟨hgo,hy⟩:=ok.go i _ G2 H2 hd F2.g0 F2.sub;rw [Wah hlt] at k2;refine⟨hgo,fun x H3 y=>?_⟩
   obtain⟨G3,g3,r3⟩:=hy x H3 y;have F3:=F2.gr g3;refine⟨upd H0 A (.lst ys),G1,ρ2,G3,fl,_,F3,r3.asideU (F3.atD gA).1,m1.mono fl _ ρ2 _ _ (fun ρ4 q4 σ4 G4 H4 F4 s4 g4=>?_) k2⟩
   refine⟨upd H0 A (.lst ys),G1,ρ4,G4,F4,m2.mono ρ4 _ _ (fun b q5 G5 H5 g5=>?_) q4⟩
   have F5:=F4.gr g5;have gg5:=(g3.trans g4).trans g5;cases b with
   | true=>
    refine⟨upd H0 A (.lst ys),G1,ρ4,G5,F5,m3.mono ρ4 _ _ (fun c q6 v G6 H6 g6 w6=>?_) q5⟩
    obtain⟨fy,y,hc,q6⟩:=jM q6;subst hc;have F6:=F5.gr g6;obtain⟨hG6,hH6⟩:=F6.atD gA;have gg6:=gg5.trans g6;refine⟨hH6,YaU (WaG hyl hlt) hz,ds.length - (i+1),Nat.sub_lt_sub_left hlt (Wa4 _),Nat.succ_le_of_lt hlt,rfl,by rw [YaS,List.length_singleton];omega,ρ4,G6,_,es++[y],F6.aside gA,(r2.same gg6.g).snoc ((zj w6).asideD),?_,q6⟩
    have e:er A (upd H6 A (.lst (ys++[v])))=er A H6:=by
     funext b
     by_cases hb:b=A
     . subst hb;rw [ZV,ZV]
     . rw [jC hb,jC hb,zh hb]
    rw [e];exact g2.trans (gg6.er hG6 fun f z=>by rw [hH6] at z;cases z)
   | false=>
    obtain⟨hG5,hH5⟩:=F5.atD gA;exact⟨ds.length - (i+1),Nat.sub_lt_sub_left hlt (Wa4 _),Nat.succ_le_of_lt hlt,rfl,Nat.le_succ_of_le hyl,ρ4,G5,fe,es,F5,r2.same gg5.g,g2.trans (gg5.er hG5 fun f z=>by rw [hH5] at z;cases z),q5⟩
 . left
   have e:i=ds.length:=Nat.le_antisymm hil (Nat.not_lt.mp hlt);rw [e,List.drop_length] at k2;refine⟨ok.stop i G2 H2 e F2.g0 F2.sub,?_⟩;have k3:=k2 A ys G2 (er A H2) (g1.trans g2) ZV r2;rw [zmp hH2] at k3;exact k3
theorem ZB{elt tg iter:Expr}{ifs:List Expr}{scope:Scope}{ti:TI3}{g:TG3}{tt:TT3}{te:TE3}(tn fn:List Str)(js:List Nat)(hcalm:X.calm=true)(S:CompSc X.env.scope scope tn fn)(hj:js.map (fun j=>X.N[j]?)=fn.map some)(hi:PI3 X H0 tg iter ti)
 (hb:∀ H0 s H fp cl,PG3 (X.comp scope (tn++fn) s H fp cl) H0 tg g/\PTs3 (X.comp scope (tn++fn) s H fp cl) H0 ifs tt/\PE3 (X.comp scope (tn++fn) s H fp cl) H0 elt te)
 (hs:∀ x,foldedSetIterable iter X.env x=pure x:=by intro _;rfl):PN3 X H0 (.ListComp elt [⟨tg,iter,ifs,0⟩] scope pos) (jX ti g tt te tn.length js):=by
 obtain⟨m1,m2,m3⟩:=hb H0 X.s₀ X.H₀ [] [];have hjn:=zdo S.nd hj;refine⟨fun ρ Q Q' h q=>hi.mono ρ _ _ (fun f ds ⟨z,q⟩=>⟨z,zbQ m1.mono m2.mono m3.mono h ds _ _ _ q⟩) q,?_⟩
 exact PE.imp (zhw (wi:=za1 X.K H0 ti) (g:=fun v σ H Q=>∃ H0,zaf X.K H0 g v σ H Q) (tt:=fun σ H Q=>∃ H0,Jh X.K H0 tt σ H Q) (te:=fun σ H Q=>∃ H0,je X.K H0 te σ H Q) tn fn js hcalm S hj hi.ok (ze5 hb) hs) (zcQ hjn hi m1 m2 m3)
theorem zaK{elt tg iter:Expr}{ifs:List Expr}{scope:Scope}{spos pos':Pos}{i:Nat}{x:Str}{ti:TI3}{g:TG3}{tt:TT3}{te:TE3}(hN:X.N.Nodup)(hix:X.N[i]?=some x)(hx:Loc X.env.scope x)(tn fn:List Str)(js:List Nat)(hcalm:X.calm=true)(S:CompSc X.env.scope scope tn fn)(hj:js.map (fun j=>X.N[j]?)=fn.map some)(hi:PI3 X H0 tg iter ti)
 (hb:∀ H0 s H fp cl,PG3 (X.comp scope (tn++fn) s H fp cl) H0 tg g/\PTs3 (X.comp scope (tn++fn) s H fp cl) H0 ifs tt/\PE3 (X.comp scope (tn++fn) s H fp cl) H0 elt te)
 (hs:∀ x,foldedSetIterable iter X.env x=pure x:=by intro _;rfl)
 (hsw:swapsWith (.ListComp elt [⟨tg,iter,ifs,0⟩] scope pos) (some (.Name x pos')) spos.line X.env=pure true:=by rfl) (hf:X.fn x=true\/X.env.scope.names.lookup x=some .local:=by first|exact .inl rfl|exact .inr rfl|assumption) :
 PS3 X H0 (.Assign [.Name x pos'] (.ListComp elt [⟨tg,iter,ifs,0⟩] scope pos) spos) (set3 i (nw3 (jX ti g tt te tn.length js))):=by
 obtain⟨m1,m2,m3⟩:=hb H0 X.s₀ X.H₀ [] [];have hjn:=zdo S.nd hj;have pn:=ZB (pos:=pos) tn fn js hcalm S hj hi hb hs;refine PS.imp (ziI hN hix hx (wi:=za1 X.K H0 ti) (g:=fun v σ H Q=>∃ H0,zaf X.K H0 g v σ H Q) (tt:=fun σ H Q=>∃ H0,Jh X.K H0 tt σ H Q) (te:=fun σ H Q=>∃ H0,je X.K H0 te σ H Q) tn fn js hcalm S hj hi.ok (ze5 hb) hs hsw hf) fun B σ H=>el7 fun G0 A ρ G F q L=>?_
 refine zcQ hjn hi m1 m2 m3 σ H _ ⟨G0,ρ,G,F,pn.mono ρ _ _ (fun f ds q l vs G' H' g hl r=>?_) q⟩
 refine L.nx _ _ (upd G' l (.lst vs)) _ ((F.gr (g.trans (Gr.put g.sub hl))).set ?_) q
 exact⟨.lst (SqL.of zl) (rdvs_same (zJ (g.sub.free hl) _) r.rd),fun hf=>.lst zl ((F.keep.trans g.h).free hl) (rdns_mono (zJ (g.sub.free hl) _) (fun _ _ _ z=>z) (r.nw hf))⟩
end
def z5(N:List Str)(ds:List D):Env3:=ds.map (fun d=>some (.sh (zA d) d))++List.replicate (N.length - ds.length) none
theorem zci{K:Ybf}{G H:Hp}{N:List Str}{vs:List V}{ds:List D}(s:Sub G H)(r:RdVs K G vs ds):Fr3 K H G (z5 N ds) (start N vs) G H:=by
 have at3:∀ (i:Nat) c,(z5 N ds)[i]?=some (some c)->∃ d,ds[i]?=some d/\c=.sh (zA d) d:=fun i c e=>by
  unfold z5 at e
  by_cases hi:i<ds.length
  . rw [Yab (by simpa using hi),Ya0] at e
    cases q:ds[i]? with
    | none=>rw [q] at e;cases e
    | some d=>rw [q] at e;cases e;exact⟨d,rfl,rfl⟩
  . rw [Yae (by simpa using hi),Yad] at e
    split at e<;>cases e
 refine⟨zm.refl _,s,fun b o e=>.inl e,Same.refl _,fun i c e=>?_,fun i c v a e _ h=>?_,fun i j c c' v v' a e _ _ _ h _=>?_,?_⟩
 . obtain⟨d,hd,rfl⟩:=at3 i c e
   obtain⟨x,hx,rx⟩:=r.get hd;refine⟨x,?_,.sh ⟨rx,fun h=>zaT h rx⟩⟩
   unfold L2.start;have hi:i<vs.length:=(Ya8.mp hx).1;rw [Yab (by simpa using hi),Ya0,hx];rfl
 . obtain⟨d,hd,z⟩:=at3 i _ e;subst z;exact False.elim h
 . obtain⟨d,hd,z⟩:=at3 i _ e;subst z;exact False.elim h
 . unfold z5 L2.start;simp [r.length]
theorem fn3{P:Program}{w:World}{K:Ybf}{mg:Str->Option Value}{base:Heap}{x qual:Str}{st:Stmt}{f:Addr}{fd:FuncData}{N ps:List Str}{k:Nat}{sp:Sp3}(F:Fun K x qual st f fd)(S:FnScope N ps (ze st))(len:∀ ds Q E,sp ds Q E->ds.length=ps.length)
 (hbody:∀ (cdv:Value) (A:Around) (outer:List Env) (s:Shared) (H:Hp) (E:XK) (E3:Addr->Prop),(∀ C H',E3 C->zm H H'->E (.ref C) none H')->Room k (A.deeper (envOfC qual (ze st) s.heap.objs.size f cdv))->
  ∃ t,PSs3 (cxOf (CXR P w) P w K mg base N qual (ze st) f cdv A outer s H E) H (zp st) t/\∀ ds Q,sp ds Q E3->t { nx:=fun _=>Q true .none,rt:=Q } (z5 N ds)):FnOk P w K mg base (CXR P w) (k+1) f fd ps (spL K sp):=by
 refine F.okR S (fun vs H Q E h=>?_) (fun cdv A outer s H vs Q E hr h=>?_)
 . obtain⟨G,ds,_,r,h⟩:=h
   rw [r.length];exact len _ _ _ h
 . obtain⟨G,ds,sG,r,h⟩:=h
   obtain⟨t,ht,hq⟩:=hbody cdv A outer s H E (fun C=>∀ H',zm H H'->E (.ref C) none H') (fun C H' e z=>e H' z) hr
   refine⟨_,ht,G,_,z5 N ds,G,zci sG r,hq ds _ h,⟨fun ρ σ G' H' F' q=>q .non G' H' F'.gr0 (.sc rfl .non),fun f d v G' H' g rd q=>q v G' H' g rd,fun _ _ _ _ _ q=>q.elim,fun _ _ _ _ _ q=>q.elim⟩⟩
def ZJ(C:Addr)(E:Addr->Prop)(t:TA3):TS3:=fun _ ρ=>t ρ fun cs=>cs.length<=sizeLine/\E C
theorem zhQ{K:Ybf}{H0 G H:Hp}{vs:List V}{cs:List Cl}(h:Vws K H0 G H vs cs):vs.length=cs.length:=by
 induction h with
 | nil=>rfl
 | cons _ _ ih=>rw [List.length_cons,List.length_cons,ih]
theorem jy{X:Cx}{H0:Hp}{x:Str}{C:Addr}{e0:Expr}{t:TA3}{E:XK}{E3:Addr->Prop}{np cpos pos:Pos}(hE:∀ C H',E3 C->zm H0 H'->E (.ref C) none H')(hf:Flies X E)(hc:X.calm=true)(hg:Gl X x)(hm:X.mg x=some (.ref C))(hx:PySem.W.excIn X.K C bmVE "ValueError.__new__" = true)(ha:PA3 X H0 [e0] t)
 (hdb:(x==("__debug__" : Str))=false:=by decide) (hs:starEach [e0] X.env=[(false,eval e0 X.env)]:=by rfl):PS3 X H0 (.Raise (some (.Call (.Name x np) [e0] [] cpos)) none pos) (ZJ C E3 t):=
 PS.imp (zi9 hf hc hg hm hx ha.ok hdb hs) fun B σ H=>el7 fun G0 A ρ G F q L=>⟨G0,ρ,G,F,ha.mono ρ _ _ (fun cs ⟨z,e⟩ vs G' H' g w=>⟨by rw [zhQ w];exact z,hE C H' e (F.gr g).keep⟩) q⟩
variable[LamW]
theorem Zf{K:Ybf}{G:Hp}{v:V}{i:Str}(r:RdV K G v (.str i)):v=.str i:=by cases r;rfl
theorem ze1{K:Ybf}{G:Hp}{v:V}(r:RdV K G v .none):v=.non:=by cases r;rfl
section
variable{X:Cx}
def add3:R3:=fun a b Q=>match a,b with
 | .sh _ (.int i),.sh _ (.int j)=>Q true (.int (i+j))
 | .sh _ (.str x),.sh _ (.str y)=>x.length+y.length<=sizeLine/\Q true (.str (x++y))
 | _,_=>False
def int3(C:Int->Int->Prop)(g:Int->Int->D):R3:=fun a b Q=>match a,b with
 | .sh _ (.int i),.sh _ (.int j)=>C i j/\Q true (g i j)
 | _,_=>False
def int0(g:Int->Int->D):R3:=fun a b Q=>match a,b with
 | .sh _ (.int i),.sh _ (.int j)=>Q true (g i j)
 | _,_=>False
theorem zT:OpOk X (binaryOp .Add) add3:=by
 refine⟨fun a b Q Q' h q=>?_,fun H0=>OpR.imp (zgT.or zlF) fun x y H Q=>el3 fun G a b s wa wb q=>?_⟩
 . unfold add3 at *;split at q
   . exact h _ _ q
   . exact⟨q.1,h _ _ q.2⟩
   . exact q
 . unfold add3 at q;split at q
   . cases zE (zj wa).rd;cases zE (zj wb).rd
     exact .inl ⟨_,_,rfl,rfl,q _ G H (Gr.refl s) (.sc rfl (.int _))⟩
   . cases Zf (zj wa).rd;cases Zf (zj wb).rd
     exact .inr ⟨_,_,rfl,rfl,q.1,q.2 _ G H (Gr.refl s) (.sc rfl (.str _))⟩
   . exact q.elim
theorem opI3{f:Value->Value->Sem Value}{C:Int->Int->Prop}{g:Int->Int->Int}(h:OpR X f (rI C fun i j=>.int (g i j))):OpOk X f (int3 C fun i j=>.int (g i j)):=by
 refine⟨fun a b Q Q' h q=>?_,fun H0=>OpR.imp h fun x y H Q=>el3 fun G a b s wa wb q=>?_⟩
 . unfold int3 at *;split at q
   . exact⟨q.1,h _ _ q.2⟩
   . exact q
 . unfold int3 at q;split at q
   . cases zE (zj wa).rd;cases zE (zj wb).rd
     exact⟨_,_,rfl,rfl,q.1,q.2 _ G H (Gr.refl s) (.sc rfl (.int _))⟩
   . exact q.elim
theorem zlI{f:Value->Value->Sem Value}{g:Int->Int->Int}(h:OpR X f (rI0 fun i j=>.int (g i j))):OpOk X f (int0 fun i j=>.int (g i j)):=by
 refine⟨fun a b Q Q' h q=>?_,fun H0=>OpR.imp h fun x y H Q=>el3 fun G a b s wa wb q=>?_⟩
 . unfold int0 at *;split at q
   . exact h _ _ q
   . exact q
 . unfold int0 at q;split at q
   . cases zE (zj wa).rd;cases zE (zj wb).rd
     exact⟨_,_,rfl,rfl,q _ G H (Gr.refl s) (.sc rfl (.int _))⟩
   . exact q.elim
theorem zaI{f:Value->Value->Sem Value}{g:Int->Int->Bool}(h:OpR X f (rI0 fun i j=>.bl (g i j))):OpOk X f (int0 fun i j=>.bool (g i j)):=by
 refine⟨fun a b Q Q' h q=>?_,fun H0=>OpR.imp h fun x y H Q=>el3 fun G a b s wa wb q=>?_⟩
 . unfold int0 at *;split at q
   . exact h _ _ q
   . exact q
 . unfold int0 at q;split at q
   . cases zE (zj wa).rd;cases zE (zj wb).rd
     exact⟨_,_,rfl,rfl,q _ G H (Gr.refl s) (.sc rfl (.bl _))⟩
   . exact q.elim
theorem Z0:OpOk X (binaryOp .Sub) (int0 fun i j=>.int (i - j)):=zlI ziS
theorem jr:OpOk X (binaryOp .Mult) (int3 IntMulOk fun i j=>.int (i*j)):=opI3 zkW
theorem zX:OpOk X (binaryOp .FloorDiv) (int3 Zs fun i j=>.int (i/j)):=opI3 zlQ
theorem ja:OpOk X (binaryOp .Mod) (int3 (fun _ j=>0<j) fun i j=>.int (i%j)):=opI3 zkg
theorem j8:OpOk X (binaryOp .Pow) (int3 JL fun i j=>.int (i ^ j.toNat)):=opI3 ziQ
theorem Jj:OpOk X (compareOp .Lt) (int0 fun i j=>.bool (decide (i<j))):=zaI zhJ
theorem ZZ:OpOk X (compareOp .LtE) (int0 fun i j=>.bool (decide (i<=j))):=zaI zgW
theorem Zz:OpOk X (compareOp .Gt) (int0 fun i j=>.bool (decide (j<i))):=zaI zgb
theorem zdt:OpOk X (compareOp .GtE) (int0 fun i j=>.bool (decide (j<=i))):=zaI zga
def neg3:U3:=fun a Q=>match a with
 | .sh _ (.int i)=>Q true (.int (-i))
 | _=>False
theorem UnR.imp{f:Value->Sem Value}{r r':V->Hp->VK->Prop}(h:UnR X f r)(i:∀ x H Q,r' x H Q->r x H Q):UnR X f r':=fun pins s σ H x v Q I rx q=>h pins s σ H x v Q I rx (i _ _ _ q)
theorem zcg:UnOk X (unaryOp .USub) neg3:=by
 refine⟨fun a Q Q' h q=>?_,fun H0=>UnR.imp zj0 fun x H Q ⟨G,a,s,wa,q⟩=>?_⟩
 . unfold neg3 at *;split at q
   . exact h _ _ q
   . exact q
 . unfold neg3 at q;split at q
   . cases zE (zj wa).rd
     exact⟨_,rfl,q _ G H (Gr.refl s) (.sc rfl (.int _))⟩
   . exact q.elim
def eqOk:D->D->Prop
 | .str _,.str _=>True
 | .int _,.int _=>True
 | d,e=>SeqAt.shaped d=true/\SeqAt.shaped e=true
def eqv3:D->D->Bool
 | .str x,.str y=>decide (x=y)
 | .int x,.int y=>decide (x=y)
 | d,e=>PyData.eqv d e
def eq3:R3:=fun a b Q=>a.dat=true/\b.dat=true/\eqOk a.d b.d/\Q true (.bool (eqv3 a.d b.d))
def ne3:R3:=fun a b Q=>a.dat=true/\b.dat=true/\eqOk a.d b.d/\Q true (.bool (!eqv3 a.d b.d))
theorem zd2{d e:D}:(∃ x y,d=.str x/\e=.str y/\eqv3 d e=decide (V.str x=V.str y))\/(∃ x y,d=.int x/\e=.int y/\eqv3 d e=decide (V.int x=V.int y))\/(eqv3 d e=PyData.eqv d e/\(eqOk d e->SeqAt.shaped d=true/\SeqAt.shaped e=true)):=by
 cases d<;>cases e<;>first
  | exact .inr (.inr ⟨rfl,fun h=>h⟩)
  | exact .inl ⟨_,_,rfl,rfl,by simp [eqv3]⟩
  | exact .inr (.inl ⟨_,_,rfl,rfl,by simp [eqv3]⟩)
theorem Jl(hu:X.A.units+64<cLine):OpOk X (compareOp .Eq) eq3:=by
 refine⟨fun a b Q Q' h ⟨x,y,z,q⟩=>⟨x,y,z,h _ _ q⟩,fun H0=>OpR.imp (zl8.or (zge hu)) fun x y H Q ⟨G,a,b,s,wa,wb,ha,hb,ho,q⟩=>?_⟩
 have ra:=wa.rd s ha;have rb:=wb.rd s hb
 rcases zd2 (d:=a.d) (e:=b.d) with ⟨i,j,e1,e2,e3⟩|⟨i,j,e1,e2,e3⟩|⟨e3,hs⟩
 . rw [e1] at ra;rw [e2] at rb
   cases Zf ra;cases Zf rb
   exact .inl ⟨rfl,by rw [<-e3];exact q _ G H (Gr.refl s) (.sc rfl (.bl _))⟩
 . rw [e1] at ra;rw [e2] at rb
   cases zE ra;cases zE rb
   exact .inl ⟨rfl,by rw [<-e3];exact q _ G H (Gr.refl s) (.sc rfl (.bl _))⟩
 . exact .inr ⟨_,_,ra,rb,(hs ho).1,(hs ho).2,by rw [<-e3];exact q _ G H (Gr.refl s) (.sc rfl (.bl _))⟩
theorem zd9(hu:X.A.units+64<cLine):OpOk X (compareOp .NotEq) ne3:=by
 refine⟨fun a b Q Q' h ⟨x,y,z,q⟩=>⟨x,y,z,h _ _ q⟩,fun H0=>OpR.imp (znz.or (zhZ hu)) fun x y H Q ⟨G,a,b,s,wa,wb,ha,hb,ho,q⟩=>?_⟩
 have ra:=wa.rd s ha;have rb:=wb.rd s hb
 rcases zd2 (d:=a.d) (e:=b.d) with ⟨i,j,e1,e2,e3⟩|⟨i,j,e1,e2,e3⟩|⟨e3,hs⟩
 . rw [e1] at ra;rw [e2] at rb
   cases Zf ra;cases Zf rb
   exact .inl ⟨rfl,by rw [<-e3];exact q _ G H (Gr.refl s) (.sc rfl (.bl _))⟩
 . rw [e1] at ra;rw [e2] at rb
   cases zE ra;cases zE rb
   exact .inl ⟨rfl,by rw [<-e3];exact q _ G H (Gr.refl s) (.sc rfl (.bl _))⟩
 . exact .inr ⟨_,_,ra,rb,(hs ho).1,(hs ho).2,by rw [<-e3];exact q _ G H (Gr.refl s) (.sc rfl (.bl _))⟩
def isNone:Cl->Bool
 | .sh _ .none=>true
 | _=>false
theorem zdx{K:Ybf}{H0 G H:Hp}{v:V}{c:Cl}(w:Vw K H0 G H v c):decide (v=.non)=isNone c:=by
 cases w with
 | sh r=>cases r.rd<;>simp [isNone]
 | ow _ _ _=>simp [isNone]
 | tr _=>simp [isNone]
 | dt _ _ _=>simp [isNone]
 | dk _ _=>simp [isNone]
 | fd _ _ _=>simp [isNone]
 | tk _=>simp [isNone]
 | ex _=>simp [isNone]
def isN3:R3:=fun a b Q=>b=.sh true .none/\Q true (.bool (isNone a))
def notN3:R3:=fun a b Q=>b=.sh true .none/\Q true (.bool (!isNone a))
theorem zbH:OpOk X (compareOp .Is) isN3:=⟨fun a b Q Q' h ⟨e,q⟩=>⟨e,h _ _ q⟩,fun H0=>OpR.imp zhi fun x y H Q hyp=>by
 obtain⟨G,a,b,s,wa,wb,e,q⟩:=hyp;subst e;exact⟨ze1 (zj wb).rd,by rw [zdx wa];exact q _ G H (Gr.refl s) (.sc rfl (.bl _))⟩⟩
theorem zeo:OpOk X (compareOp .IsNot) notN3:=⟨fun a b Q Q' h ⟨e,q⟩=>⟨e,h _ _ q⟩,fun H0=>OpR.imp zlk fun x y H Q hyp=>by
 obtain⟨G,a,b,s,wa,wb,e,q⟩:=hyp;subst e;exact⟨ze1 (zj wb).rd,by rw [zdx wa];exact q _ G H (Gr.refl s) (.sc rfl (.bl _))⟩⟩
def ixD:D->Int->Option D
 | .list ds,i=>atI ds i
 | .tuple ds,i=>atI ds i
 | .str z,i=>if z.length<=sizeLine then(atI z.cps.toList i).map fun c=>.str ⟨#[c]⟩ else none
 | _,_=>none
def ix3:R3:=fun a b Q=>match b with
 | .sh _ (.int i)=>a.dat=true/\∃ d,ixD a.d i=some d/\Q (a.f||zA d) d
 | _=>False
theorem za3{K:Ybf}{H0 G:Hp}{f:Bool}{vs:List V}{ds:List D}{i:Int}{d:D}(r:Rfs K H0 G f vs ds)(h:atI ds i=some d):∃ v,atI vs i=some v/\Rf K H0 G f v d:=by
 unfold atI at *;rw [r.length];cases e:ixN ds.length i with
 | none=>rw [e] at h;cases h
 | some j=>
  rw [e] at h;obtain⟨x,hx,rx⟩:=r.get (i:=j) (show ds[j]?=some d from h)
  exact⟨x,hx,rx⟩
theorem IxR.imp{r r':R2}(h:IxR X r)(i:∀ x y H Q,r' x y H Q->r x y H Q):IxR X r':=fun e f pins s σ H x y v u Q I rx ry q z=>h e f pins s σ H x y v u Q I rx ry (i _ _ _ _ q) z
theorem zms(H0:Hp):IxR X (zam X.K H0 ix3):=IxR.imp zf6 fun x y H Q=>el3 fun G a b s wa wb q=>by
 unfold ix3 at q;split at q
 . obtain⟨ha,d,hd,q⟩:=q
   rename_i i;cases zE (zj wb).rd;cases wa with
   | @sh v0 f d0 r=>
    cases d0 with
    | list ds=>
     obtain⟨a,xs,rfl,hq,rs⟩:=j5 r;obtain⟨v,hv,rv⟩:=za3 rs (show atI ds i=some d from hd)
     exact .inl ⟨_,_,_,v,rfl,rfl,s.seq hq,hv,q v G H (Gr.refl s) rv.or⟩
    | tuple ds=>
     obtain⟨a,xs,rfl,hq,rs⟩:=ZH r;obtain⟨v,hv,rv⟩:=za3 rs (show atI ds i=some d from hd)
     exact .inr (.inl ⟨_,_,_,v,rfl,rfl,s.tup hq,hv,q v G H (Gr.refl s) rv.or⟩)
    | str z=>
     cases Zf r.rd
     have hd':(if z.length<=sizeLine then(atI z.cps.toList i).map fun c=>PyData.str ⟨#[c]⟩ else none)=some d:=hd
     split at hd'
     . rename_i hz
       cases e:atI z.cps.toList i with
       | none=>rw [e] at hd';cases hd'
       | some c=>
        rw [e] at hd';cases hd';exact .inr (.inr ⟨z,i,c,rfl,rfl,hz,e,q _ G H (Gr.refl s) (.sc rfl (.str _))⟩)
     . cases hd'
    | _=>cases hd
   | ow h rs n=>
    obtain⟨v,hv,rv⟩:=za3 rs (show atI _ i=some d from hd)
    exact .inl ⟨_,_,_,v,rfl,rfl,SqL.of h,hv,q v G H (Gr.refl s) rv.or⟩
   | tr h=>cases ha
   | dt _ _ _=>cases ha
   | dk _ _=>cases ha
   | fd _ _ _=>cases ha
   | tk h=>
    obtain⟨v,hv,rv⟩:=za3 (⟨zaE _,fun _=>zaU _⟩:Rfs _ _ _ true _ _) (show atI _ i=some d from hd)
    exact .inr (.inl ⟨_,_,_,v,rfl,rfl,s.tup (SqT.of h),hv,q v G H (Gr.refl s) rv.or⟩)
   | ex h=>cases ha
 . exact q.elim
theorem zdq:∀ a b (Q Q':Bool->D->Prop),(∀ f c,Q f c->Q' f c)->ix3 a b Q->ix3 a b Q':=fun a b Q Q' h q=>by
 unfold ix3 at *;split at q
 . obtain⟨x,d,e,q⟩:=q;exact⟨x,d,e,h _ _ q⟩
 . exact q
theorem at3{H0:Hp}{a b:Expr}{pos:Pos}{ta tb:TE3}(ha:PE3 X H0 a ta)(hb:PE3 X H0 b tb)(hs:zdU b):PE3 X H0 (.Subscript a b pos) (o3 ix3 ta tb):=
 ⟨zal zdq ha.mono hb.mono,PE.imp (ziA (zms H0) ha.ok hb.ok hs) (zaL zdq ha.mono hb.mono)⟩
abbrev TO3:=Env3->(Option Int->Prop)->Prop
def zih(K:Ybf)(H0:Hp)(t:TO3):TO:=fun σ H Q=>∃ G0 ρ G,Fr3 K H0 G0 ρ σ G H/\t ρ fun o=>∀ G' H',Gr G H G' H'->Q o H'
structure PO3(X:Cx)(H0:Hp)(e:Option Expr)(t:TO3):Prop where
 mono:∀ ρ (Q Q':Option Int->Prop),(∀ c,Q c->Q' c)->t ρ Q->t ρ Q'
 ok:PO X e (zih X.K H0 t)
theorem PO.imp{e:Option Expr}{t t':TO}(h:PO X e t)(i:∀ σ H Q,t' σ H Q->t σ H Q):PO X e t':=fun pins s σ H Q I q=>h pins s σ H Q I (i _ _ _ q)
def no3:TO3:=fun _ Q=>Q none
def ZA(t:TE3):TO3:=fun ρ Q=>t ρ fun c=>∃ i,c=.sh true (.int i)/\Q (some i)
variable{H0:Hp}{pos p2:Pos}
theorem zaX:PO3 X H0 none no3:=⟨fun ρ Q Q' h q=>h _ q,PO.imp zmo fun σ H Q=>el5 fun G0 ρ G F q=>q G H (Gr.refl F.sub)⟩
theorem zaR{e:Expr}{t:TE3}(h:PE3 X H0 e t):PO3 X H0 (some e) (ZA t):=⟨fun ρ Q Q' hq q=>h.mono ρ _ _ (fun c ⟨i,e,q⟩=>⟨i,e,hq _ q⟩) q,PO.imp (zkw h.ok) fun σ H Q=>el5 fun G0 ρ G F q=>⟨G0,ρ,G,F,h.mono ρ _ _ (fun c hyp v G' H' g w=>by
 obtain⟨i,e,q⟩:=hyp;subst e;exact⟨i,zE (zj w).rd,q G' H' g⟩) q⟩⟩
def cut{α : Type}(xs:List α)(lo hi:Option Int):List α:=(xs.drop (HT.sIx xs.length 0 lo)).take (HT.sIx xs.length xs.length hi - HT.sIx xs.length 0 lo)
def slL3(te:TE3)(tl th:TO3):TN3:=fun ρ Q=>te ρ fun c=>tl ρ fun l=>th ρ fun u=>match c with
 | .sh f (.list ds)=>Q (f||ds.all zA) (cut ds l u)
 | .ow f ds=>Q (f||ds.all zA) (cut ds l u)
 | _=>False
theorem SlR.imp{r r':V->Option Int->Option Int->Hp->VK->Prop}(h:SlR X r)(i:∀ x lo hi H Q,r' x lo hi H Q->r x lo hi H Q):SlR X r':=by
 unfold SlR at *;intros
 apply h<;>first|assumption|skip
 apply i;assumption
theorem zbw{K:Ybf}{H0 G:Hp}{f:Bool}{vs:List V}{ds:List D}(r:Rfs K H0 G f vs ds)(lo hi:Option Int):Rfs K H0 G f (cutV vs lo hi) (cut ds lo hi):=by
 unfold cutV cut;rw [r.length];exact(r.drop _).take _
theorem zds{e:Expr}{lo hi:Option Expr}{te:TE3}{tl th:TO3}(he:PE3 X H0 e te)(hl:PO3 X H0 lo tl)(hh:PO3 X H0 hi th):PN3 X H0 (.Subscript e (.Slice lo hi none p2) pos) (slL3 te tl th):=by
 refine⟨fun ρ Q Q' h q=>he.mono ρ _ _ (fun c=>hl.mono ρ _ _ fun l=>hh.mono ρ _ _ fun u q=>?_) q,PE.imp (zcR zgx he.ok hl.ok hh.ok) fun σ H Q=>el5 fun G0 ρ G F q=>?_⟩
 . split at q
   . exact h _ _ q
   . exact h _ _ q
   . exact q
 . refine⟨G0,ρ,G,F,he.mono ρ _ _ (fun c qc v G1 H1 g1 w1=>⟨G0,ρ,G1,F.gr g1,hl.mono ρ _ _ (fun l ql G2 H2 g2=>⟨G0,ρ,G2,F.gr (g1.trans g2),hh.mono ρ _ _ (fun u qu G3 H3 g3=>?_) ql⟩) qc⟩) q⟩
   have w3:=(w1.gr g2).gr g3;have gg:=(g1.trans g2).trans g3
   split at qu
   . obtain⟨a,xs,rfl,hq,rs⟩:=j5 (zj w3)
     exact⟨a,xs,rfl,g3.sub.seq hq,fun p hp=>qu p _ G3 H3 gg hp (zbw rs.or _ _)⟩
   . cases w3 with
     | ow h rs n=>exact⟨_,_,rfl,SqL.of h,fun p hp=>qu p _ G3 H3 gg hp (zbw rs.or _ _)⟩
   . exact qu.elim
def lenD:D->Option Nat
 | .list ds=>some ds.length
 | .tuple ds=>some ds.length
 | .str z=>if z.length<=sizeLine then some z.length else none
 | _=>none
def len3:C3:=fun cs Q=>match cs with
 | [c]=>c.dat=true/\∃ n,lenD c.d=some n/\Q true (.int n)
 | _=>False
theorem zL:CallOk X (.builtin "len") len3:=by
 refine⟨fun cs Q Q' h q=>?_,fun H0=>zH.imp (zH.or zi2 zkC) fun xs H Q=>el2 fun G cs s w q=>?_⟩
 . unfold len3 at *;split at q
   . obtain⟨a,n,e,q⟩:=q;exact⟨a,n,e,h _ _ q⟩
   . exact q
 . unfold len3 at q;split at q
   . obtain⟨v,rfl,w1⟩:=vws1 w
     obtain⟨ha,n,hn,q⟩:=q;have r:=w1.rd s ha;generalize e:Cl.d _=d at r hn;cases r with
     | lst hq rs=>cases hn;exact .inl ⟨_,_,rfl,.inl hq,by rw [rs.length];exact q _ G H (Gr.refl s) (.sc rfl (.int _))⟩
     | tup hq rs=>cases hn;exact .inl ⟨_,_,rfl,.inr hq,by rw [rs.length];exact q _ G H (Gr.refl s) (.sc rfl (.int _))⟩
     | str z=>
      have hn':(if z.length<=sizeLine then some z.length else none)=some n:=hn
      split at hn'
      . rename_i hz;cases hn';exact .inr ⟨z,rfl,hz,q _ G H (Gr.refl s) (.sc rfl (.int _))⟩
      . cases hn'
     | _=>cases hn
   . exact q.elim
def abs3:C3:=fun cs Q=>match cs with
 | [.sh _ (.int i)]=>Q true (.int (if i<0 then -i else i))
 | _=>False
theorem zaY:CallOk X (.builtin "abs") abs3:=by
 refine⟨fun cs Q Q' h q=>?_,fun H0=>zH.imp ziL fun xs H Q=>el2 fun G cs s w q=>?_⟩
 . unfold abs3 at *;split at q
   . exact h _ _ q
   . exact q
 . unfold abs3 at q;split at q
   . obtain⟨v,rfl,w1⟩:=vws1 w
     cases zE (zj w1).rd
     exact⟨_,rfl,q _ G H (Gr.refl s) (.sc rfl (.int _))⟩
   . exact q.elim
def max23:C3:=fun cs Q=>match cs with
 | [.sh _ (.int i),.sh _ (.int j)]=>Q true (.int (if j > i then j else i))
 | _=>False
theorem zf0(hc:X.calm=true):CallOk X (.builtin "max") max23:=by
 refine⟨fun cs Q Q' h q=>?_,fun H0=>zH.imp (zhD hc) fun xs H Q=>el2 fun G cs s w q=>?_⟩
 . unfold max23 at *;split at q
   . exact h _ _ q
   . exact q
 . unfold max23 at q;split at q
   . obtain⟨v,u,rfl,w1,w2⟩:=vws2 w
     cases zE (zj w1).rd;cases zE (zj w2).rd
     exact⟨_,_,rfl,q _ G H (Gr.refl s) (.sc rfl (.int _))⟩
   . exact q.elim
def min23:C3:=fun cs Q=>match cs with
 | [.sh _ (.int i),.sh _ (.int j)]=>Q true (.int (if j<i then j else i))
 | _=>False
theorem ziu(hc:X.calm=true):CallOk X (.builtin "min") min23:=by
 refine⟨fun cs Q Q' h q=>?_,fun H0=>zH.imp (zhv hc) fun xs H Q=>el2 fun G cs s w q=>?_⟩
 . unfold min23 at *;split at q
   . exact h _ _ q
   . exact q
 . unfold min23 at q;split at q
   . obtain⟨v,u,rfl,w1,w2⟩:=vws2 w
     cases zE (zj w1).rd;cases zE (zj w2).rd
     exact⟨_,_,rfl,q _ G H (Gr.refl s) (.sc rfl (.int _))⟩
   . exact q.elim
end
end L3
namespace L2
open PySem PySem.Spec PyProof.Rows
def Itz(K:Ybf)(a b:Addr):It:=
 ⟨fun i H=>∃ xs ys x y,SqL K H a xs/\SqL K H b ys/\xs[i]?=some x/\ys[i]?=some y,
  fun i H v H'=>∃ p x y,H p=none/\v=.ref p/\H'=upd H p (.tup [x,y])/\∀ xs ys,SqL K H a xs->SqL K H b ys->xs[i]?=some x/\ys[i]?=some y,
  fun i H=>∃ xs ys,SqL K H a xs/\SqL K H b ys/\i=min xs.length ys.length⟩
theorem zm8{P:Program}{w:World}{K:Ybf}{elts:List Expr}{k:Nat}{pos:Pos}{z TI TO i1 i2 l1 l2:Addr}(D:ZipApart z TI TO i1 i2 l1 l2) :
 Turn P w K (.Tuple elts k pos) (Itz K l1 l2) [z,TI,TO,i1,i2] z (fun i h=>IsZip h z TI TO .none/\IsPair h TI (.ref i1) (.ref i2)/\(∃ a b,IsPair h TO a b)/\h.IsListIter i1 l1 i/\h.IsListIter i2 l2 i) where
 mem:=by simp
 obj:=fun i h hyp c hc=>by
  obtain⟨hz,hTI,⟨a,b,hTO⟩,⟨o1,e1,c1,d1⟩,⟨o2,e2,c2,d2⟩⟩:=hyp;have hc':c=z\/c=TI\/c=TO\/c=i1\/c=i2:=by simpa using hc
  rcases hc' with rfl|rfl|rfl|rfl|rfl
  . exact⟨_,hz,fun v z=>by cases(show Data.fields _=Data.cell v from z)⟩
  . exact⟨_,hTI,fun v z=>by cases(show Data.seq _ _=Data.cell v from z)⟩
  . exact⟨_,hTO,fun v z=>by cases(show Data.seq _ _=Data.cell v from z)⟩
  . exact⟨o1,e1,fun v z=>by rw [d1] at z;cases z⟩
  . exact⟨o2,e2,fun v z=>by rw [d2] at z;cases z⟩
 keep:=fun i h h' ⟨hz,hTI,⟨a,b,hTO⟩,h1,h2⟩ kk=>
  ⟨kk z (by simp) _ hz,kk TI (by simp) _ hTI,⟨a,b,kk TO (by simp) _ hTO⟩,h1.at fun o e=>kk i1 (by simp) o e,h2.at fun o e=>kk i2 (by simp) o e⟩
 item:=by
  intro X hP hw hK hc i pins s σ H E I hf st hg;subst hP hw hK;obtain⟨xs,ys,x,y,q1,q2,hx,hy⟩:=hg;obtain⟨its1,r1,p1,_⟩:=I.list q1;obtain⟨its2,r2,p2,_⟩:=I.list q2;obtain⟨u,hu,ru⟩:=r1.get hx;obtain⟨v,hv,rv⟩:=r2.get hy;have W:=WalksT.zip2 (prog:=X.prog) (w:=X.w) (I.ok.hd hc) z TI TO i1 i2 l1 l2 D its1.toArray its2.toArray;have hi:i<min its1.toArray.size its2.toArray.size:=by
   have a1:=(Ya8.mp hu).1;have a2:=(Ya8.mp hv).1;simp only [YaZ];omega
  obtain⟨hz,hTI,hTO,h1,h2⟩:=st;have olt:∀ b∈[z,TI,TO,i1,i2],b<s.heap.objs.size:=fun b hb=>by
   obtain⟨a,b',hTO'⟩:=hTO;have hc':b=z\/b=TI\/b=TO\/b=i1\/b=i2:=by simpa using hb
   rcases hc' with rfl|rfl|rfl|rfl|rfl
   . exact YaX hz
   . exact YaX hTI
   . exact YaX hTO'
   . obtain⟨_,e,_⟩:=h1;exact YaX e
   . obtain⟨_,e,_⟩:=h2;exact YaX e
  refine W.item i s _ _ hi ⟨hz,hTI,hTO,h1,h2,p1.isList,p2.isList⟩ fun T vals h1' tk hv' hT hTup mid kp=>?_
  obtain⟨u',v',hu',hv'',e⟩:=hv';subst e;have eu:u'=u:=by
   have:its1[i]?=some u':=by simpa using hu'
   rw [hu] at this;cases this;rfl
  have ev:v'=v:=by
   have:its2[i]?=some v':=by simpa using hv''
   rw [hv] at this;cases this;rfl
  subst eu ev;refine⟨_,rfl,W.go elts k pos i T _ _ _ mid fun h2' st2 kp2=>?_⟩
  have sub:∀ b∈[z,TO,i1,i2],b∈[z,TI,TO,i1,i2]:=fun b hb=>by
   have hc':b=z\/b=TO\/b=i1\/b=i2:=by simpa using hb
   rcases hc' with rfl|rfl|rfl|rfl<;>simp
  have I1:Inv X pins σ H { s with heap:=h2',toks:=tk }:=I.turnedL (ch:=[z,TO,i1,i2]) (fun b o hb e=>kp2 b o hb (kp b o hb e)) fun b hb=>hf b (sub b hb)
  have hTn:H T=none:=I.hok.fresh hT;obtain⟨o,ho,oc,on,od⟩:=hTup;have ho2:=kp2 T o (W.apart i T _ mid) ho;have I2:Inv X pins σ (upd H T (.tup [x,y])) { s with heap:=h2',toks:=tk }:=I1.track hTn (Ya5 I.sz hT) (Wby (YaU I.lt hT)) (fun n c e z=>by
   obtain⟨vv,q⟩:=I.cell n c e;exact absurd (YaU q.lt (by rw [z];exact hT)) (Yap _)) (fun p hp z=>absurd (YaU (YaX (I.pin p hp).1) (by rw [z];exact hT)) (Yap _))
   ⟨by show 2<=sizeLine;decide,[u',v'],.cons ru (.cons rv .nil),o,ho2,oc,on,od⟩
  refine⟨.ref T,_,I2,rfl,⟨T,x,y,hTn,rfl,rfl,fun xs' ys' z1 z2=>?_⟩,⟨st2.1,st2.2.1,st2.2.2.1,st2.2.2.2.1,st2.2.2.2.2.1⟩,fun b hb=>?_⟩
  . rw [I.list_inj z1 q1,I.list_inj z2 q2];exact⟨hx,hy⟩
  . rw [zh (Yaf (YaU (olt b hb) hT))];exact(hf b hb).1
 done:=by
  intro X hP hw hK hc i pins s σ H E I hf st hg;subst hP hw hK;obtain⟨xs,ys,q1,q2,hi⟩:=hg;obtain⟨its1,r1,p1,_⟩:=I.list q1;obtain⟨its2,r2,p2,_⟩:=I.list q2;have W:=WalksT.zip2 (prog:=X.prog) (w:=X.w) (I.ok.hd hc) z TI TO i1 i2 l1 l2 D its1.toArray its2.toArray;obtain⟨hz,hTI,hTO,h1,h2⟩:=st;have ei:i=min its1.toArray.size its2.toArray.size:=by simp only [YaZ];rw [<-r1.length,<-r2.length];exact hi
  subst ei;refine W.done s _ _ ⟨hz,hTI,hTO,h1,h2,p1.isList,p2.isList⟩ fun h' tk kp=>⟨rfl,?_⟩
  exact I.turnedL (ch:=[z,TO,i1,i2]) kp fun b hb=>hf b (by
   have hc':b=z\/b=TO\/b=i1\/b=i2:=by simpa using hb
   rcases hc' with rfl|rfl|rfl|rfl<;>simp)
 self:=fun _ _ _ _ _ st h=>wpAny_pyIter_zip st.1 h
def iZip(K:Ybf)(ta:TA):TI:=fun σ H R=>ta σ H fun vs H1=>∃ a b,vs=[.ref a,.ref b]/\(∃ xs,SqL K H1 a xs)/\(∃ ys,SqL K H1 b ys)/\R (Itz K a b) H1
theorem zmd{X:Cx}{elts:List Expr}{k:Nat}{tpos:Pos}{a b:Expr}{ta:TA}{p pos:Pos}(hg:Gl X "zip")(hm:X.mg "zip" = none)(ha:PA X [a,b] ta)(hs:starEach [a,b] X.env=[(false,eval a X.env),(false,eval b X.env)]:=by rfl)
 (hs2:starEach [b] X.env=[(false,eval b X.env)]:=by rfl):PI X (.Tuple elts k tpos) (.Call (.Name "zip" p) [a,b] [] pos) (iZip X.K ta):=by
 intro pins s σ H R I h;refine Call_ (j0 I hg hm zlw (Wae (thn (ha pos pins s σ H _ I h) fun us s1 ⟨vs,H1,I1,r1,q1⟩=>?_) (by rw [hs,hs2]) (by rw [hs2];rfl)))
 obtain⟨l1,l2,e,⟨xs,hx⟩,⟨ys,hy⟩,q⟩:=q1;subst e;obtain⟨u,v,rfl,ru,rv⟩:=za8 r1;cases(show u=Value.ref l1 from ru)
 cases(show v=Value.ref l2 from rv)
 obtain⟨its1,_,p1,_⟩:=I1.list hx;obtain⟨its2,_,p2,_⟩:=I1.list hy;have lt1:l1<s1.heap.objs.size:=by obtain⟨o,e,_⟩:=p1.isList;exact YaX e
 have lt2:l2<s1.heap.objs.size:=by obtain⟨o,e,_⟩:=p2.isList;exact YaX e
 refine call_zip_2 p1.isList p2.isList fun h' hz hTI hTO hi1 hi2 hsz kp=>wpAny_pyIter_zip hz ?_
 have I2:Inv X pins σ H1 { s1 with heap:=h' }:=I1.kept (t':=s1.toks) kp
 have D:ZipApart (s1.heap.objs.size+4) (s1.heap.objs.size+2) (s1.heap.objs.size+3) s1.heap.objs.size (s1.heap.objs.size+1) l1 l2:=PySem.W.ktu_apart _ _ _ lt1 lt2;refine⟨_,[s1.heap.objs.size+4,s1.heap.objs.size+2,s1.heap.objs.size+3,s1.heap.objs.size,s1.heap.objs.size+1],_,Itz X.K l1 l2,H1,rfl,I2,zm8 D,⟨hz,hTI,⟨_,_,hTO⟩,hi1,hi2⟩,fun b hb=>?_,q⟩
 have hb':s1.heap.objs.size<=b:=by
  have hc':b=s1.heap.objs.size+4\/b=s1.heap.objs.size+2\/b=s1.heap.objs.size+3\/b=s1.heap.objs.size\/b=s1.heap.objs.size+1:=by simpa using hb
  rcases hc' with rfl|rfl|rfl|rfl|rfl<;>first|exact YaY _|exact Nat.le_add_right _ _
 have f:=I1.fpOk (H':=H1) hb' (I1.hok.fresh hb');exact⟨f.1,f.2.1,f.2.2.1,f.2.2.2.1,f.2.2.2.2.1,f.2.2.2.2.2⟩
section
variable{X:Cx}
theorem zeM{us:List Value}{ns:List Int}(h:IntsAre us ns):∃ xs:Array (Int×Tok),us.toArray=intItems xs/\xs.toList.map (·.1)=ns:=by
 obtain⟨xs,e⟩:=h.allInts.items;refine⟨xs,e,?_⟩;have e1:=h.numsOf;have e2:us=xs.toList.map fun p=>Value.int p.1 p.2:=by
  have:=congrArg Array.toList e
  simpa [intItems] using this
 rw [e2,numsOf_map] at e1;exact e1
theorem ziy(hc:X.calm=true):zH X (.builtin "sum") (fun xs H Q=>∃ (p:Addr) (ns:List Int),xs=[.ref p]/\SqL X.K H p (ns.map V.int)/\Q (.int ns.sum) H):=by
 intro pins s σ H xs us Q I r h;obtain⟨p,ns,rfl,hq,q⟩:=h;obtain⟨u,rfl,ru⟩:=jT r;cases(show u=Value.ref p from ru)
 obtain⟨its,rv,pl,_⟩:=I.list hq;obtain⟨ys,e1,e2⟩:=zeM (zcW rv);have hl:=pl.isList;rw [e1] at hl;refine sum_intListG (I.ok.hd hc) hl fun h' tk t' kp=>⟨.int ns.sum,H,I.kept (t':=tk) kp,⟨t',?_⟩,q⟩
 rw [preSum_eq,Was (by simp),e2]
def maxL:List Int->Int
 | []=>0
 | x::xs=>xs.foldl (fun a b=>if b > a then b else a) x
def minL:List Int->Int
 | []=>0
 | x::xs=>xs.foldl (fun a b=>if b<a then b else a) x
theorem zlS{α β : Type}(f:β->α->β)(b:β)(l:List α)(a:α):(l++[a]).foldl f b=f (l.foldl f b) a:=by rw [WaR];rfl
theorem zee(ns:List Int):∀ n,n<ns.length->ns.getD (argBest (fun i j=>decide (ns.getD i 0<ns.getD j 0)) n) 0=minL (ns.take (n+1))
 | 0, h => by
  cases ns with
  | nil=>simp at h
  | cons x xs=>simp [argBest,minL]
 | n + 1, h => by
  have ih:=zee ns n #[0]
  have et:ns.take (n+1+1)=ns.take (n+1)++[ns.getD (n+1) 0]:=by
   rw [Yav h,YaP,YaQ h];rfl
  rw [et];cases q:ns.take (n+1) with
  | nil=>
   have:=congrArg List.length q;rw [Wa5,List.length_nil] at this;omega
  | cons x xs=>
   rw [q] at ih;have e1:minL (x::xs++[ns.getD (n+1) 0])=if ns.getD (n+1) 0<minL (x::xs) then ns.getD (n+1) 0 else minL (x::xs):=by
    show(xs++[ns.getD (n+1) 0]).foldl _ x=_
    rw [zlS];rfl
   rw [e1,<-ih];show ns.getD (if decide (ns.getD (n+1) 0<ns.getD (argBest (fun i j=>decide (ns.getD i 0<ns.getD j 0)) n) 0)=true then n+1 else argBest (fun i j=>decide (ns.getD i 0<ns.getD j 0)) n) 0=_
   by_cases hc:ns.getD (n+1) 0<ns.getD (argBest (fun i j=>decide (ns.getD i 0<ns.getD j 0)) n) 0
   . rw [if_pos (decide_eq_true hc),if_pos hc]
   . rw [if_neg (by simpa using hc),if_neg hc]
theorem zfz{xs:Array (Int×Tok)}{ns:List Int}(e:xs.toList.map (·.1)=ns):numAt xs=fun i=>ns.getD i 0:=by
 funext i
 subst e;unfold numAt;rw [YaP,Ya0,Waw]
theorem ziO(hc:X.calm=true):zH X (.builtin "min") (fun xs H Q=>∃ (p:Addr) (ns:List Int),xs=[.ref p]/\ns≠[]/\SqL X.K H p (ns.map V.int)/\Q (.int (minL ns)) H):=by
 intro pins s σ H xs us Q I r h;obtain⟨p,ns,rfl,hn,hq,q⟩:=h;obtain⟨u,rfl,ru⟩:=jT r;cases(show u=Value.ref p from ru)
 obtain⟨its,rv,pl,_⟩:=I.list hq;obtain⟨ys,e1,e2⟩:=zeM (zcW rv);have hl:=pl.isList;rw [e1] at hl;have hs:ys.size=ns.length:=by rw [<-e2,YaR];simp
 have hp:0<ns.length:=List.length_pos_iff.mpr hn;refine min_intList (I.ok.hd hc) hl #[0] fun v h' tk hv kp=>?_
 rw [zfz e2,hs] at hv;have hb:=zee ns (ns.length - 1) #[0]
 rw [show ns.length - 1+1=ns.length by omega,YaH] at hb
 generalize argBest (fun i j=>decide (ns.getD i 0<ns.getD j 0)) (ns.length - 1)=k at hv hb
 have hv':∃ a t,v=.int a t/\ns.getD k 0=a:=by
  unfold intItems at hv;rw [WaI] at hv;cases ek:ys[k]? with
  | none=>rw [ek] at hv;cases hv
  | some pr=>
   rw [ek] at hv;cases hv;refine⟨_,_,rfl,?_⟩;have:=congrFun (zfz e2) k;rw [<-this];unfold numAt;rw [ek];rfl
 obtain⟨a,t,rfl,ea⟩:=hv';exact⟨.int (minL ns),H,I.kept (t':=tk) kp,⟨t,by rw [<-hb,ea]⟩,q⟩
def isD:PyData->String->Option Bool
 | .int _,n=>if n = "int" then some true else if n = "bool" then some false else none
 | .tuple _,n=>if n = "tuple" then some true else none
 | .list _,n=>if n = "list" then some true else none
 | .str _,n=>if n = "str" then some true else none
 | .bool _,n=>if n = "bool" then some true else none
 | _,_=>none
def tyD:PyData->String
 | .int _=>"int"
 | .tuple _=>"tuple"
 | .list _=>"list"
 | .str _=>"str"
 | .bool _=>"bool"
 | _=>"NoneType"
theorem zii{d:PyData}{n:String}{b:Bool}(h:isD d n=some b):isB (tyD d) n=some b:=by
 unfold isD at h
 split at h
 . split at h
   . rename_i e;subst e;cases h;rfl
   . split at h
     . rename_i e;subst e;cases h;rfl
     . cases h
 all_goals first
  | (split at h
     . rename_i e;subst e;cases h;rfl
     . cases h)
  | cases h
theorem zjU:zH X (.builtin "isinstance") (fun xs H Q=>∃ x n d b,xs=[x,.ty n]/\RdV X.K H x d/\isD d n=some b/\Q (.bl b) H):=by
 intro pins s σ H xs us Q I r h;obtain⟨x,n,d,b,rfl,rd,hb,q⟩:=h;obtain⟨u,c,rfl,rx,rc⟩:=za8 r;cases(show c=Value.type n from rc)
 have e:=zka (K:=X.K) (zii hb);have fin:∀ tk,EP X pins σ Q (.bool b) { s with toks:=tk }:=fun tk=>⟨.bl b,H,I.tok tk,rfl,q⟩
 cases rd with
 | non=>cases hb
 | bl y=>cases(show u=Value.bool y from rx);exact Wbf PySem.W.kitx_bool I.kIn True.intro e (fun z=>nomatch z) fin
 | int i=>obtain⟨t,q⟩:=(show ∃ t,u=Value.int i t from rx);cases q;exact Wbf PySem.W.kitx_int I.kIn True.intro e (fun z=>nomatch z) fin
 | str y=>obtain⟨t,q⟩:=(show ∃ t,u=Value.str y t from rx);cases q;exact Wbf PySem.W.kitx_str I.kIn True.intro e (fun z=>nomatch z) fin
 | lst hq rs=>
  cases rx;obtain⟨its,rv,⟨o,n,ho,hc,_,hd⟩,_⟩:=I.list hq
  exact Wbf PySem.W.kitx_list I.kIn ⟨o,ho,hc⟩ e (fun z=>nomatch z) fin
 | tup hq rs=>
  cases rx;obtain⟨its,rv,⟨o,ho,hc,n,hd⟩,_⟩:=I.tuple hq
  exact Wbf PySem.W.kitx_tuple I.kIn ⟨o,ho,hc⟩ e (fun z=>nomatch z) fin
end
section
variable{X:Cx}
end
end L2
namespace L3
open PySem PySem.Spec PyProof.Rows L2
variable[LamW]
section
variable{X:Cx}{H0:Hp}{pos p:Pos}{e:Expr}
def Jg:List D->Option (List Int)
 | []=>some []
 | .int i::r=>(Jg r).map (i :: ·)
 | _::_=>none
theorem jO(ns:List Int):Jg (ns.map .int)=some ns:=by
 induction ns with
 | nil=>rfl
 | cons a r ih=>simp [Jg,ih]
theorem zd7{K:Ybf}{G:Hp}{vs:List V}{ds:List D}{ns:List Int}(r:RdVs K G vs ds)(e:Jg ds=some ns):vs=ns.map V.int:=by
 induction vs generalizing ds ns with
 | nil=>cases r;cases e;rfl
 | cons v vs ih=>
  cases r with
  | @cons _ _ d ds a b=>
   cases d with
   | int i=>
    have e':(Jg ds).map (i :: ·)=some ns:=e;cases q:Jg ds with
    | none=>rw [q] at e';cases e'
    | some ms=>
     rw [q] at e';cases e';rw [Ya1,ih b q,zE a]
   | _=>cases e
theorem zdE{K:Ybf}{H0 G H:Hp}{v:V}{c:Cl}{ds:List D}(w:Vw K H0 G H v c)(s:Sub G H)(hd:c.dat=true)(h:c.d=.list ds):∃ a vs,v=.ref a/\SqL K H a vs/\Rfs K H0 G c.f vs ds:=by
 cases w with
 | sh r=>
  have h':_=PyData.list ds:=h;subst h';obtain⟨a,xs,rfl,hq,rs⟩:=j5 r;exact⟨a,xs,rfl,s.seq hq,rs⟩
 | ow hh r n=>cases h;exact⟨_,_,rfl,SqL.of hh,r⟩
 | tr hh=>cases hd
 | dt _ _ _=>cases hd
 | dk _ _=>cases hd
 | fd _ _ _=>cases hd
 | tk _=>cases h
 | ex hh=>cases hd
def sum3:C3:=fun cs Q=>match cs with
 | [c]=>c.dat=true/\∃ ds ns,c.d=.list ds/\Jg ds=some ns/\Q true (.int ns.sum)
 | _=>False
theorem Ji(hc:X.calm=true):CallOk X (.builtin "sum") sum3:=by
 refine⟨fun cs Q Q' h q=>?_,fun H0=>zH.imp (ziy hc) fun xs H Q=>el2 fun G cs s w q=>?_⟩
 . unfold sum3 at *;split at q
   . obtain⟨a,ds,ns,h1,h2,q⟩:=q;exact⟨a,ds,ns,h1,h2,h _ _ q⟩
   . exact q
 . unfold sum3 at q;split at q
   . obtain⟨v,rfl,w1⟩:=vws1 w
     obtain⟨a,ds,ns,h1,h2,q⟩:=q;obtain⟨l,vs,rfl,hq,rs⟩:=zdE w1 s a h1;cases zd7 rs.rd h2;exact⟨l,ns,rfl,hq,q _ G H (Gr.refl s) (.sc rfl (.int _))⟩
   . exact q.elim
def min3:C3:=fun cs Q=>match cs with
 | [c]=>c.dat=true/\∃ ds ns,c.d=.list ds/\Jg ds=some ns/\ns≠[]/\Q true (.int (minL ns))
 | _=>False
theorem ziC(hc:X.calm=true):CallOk X (.builtin "min") min3:=by
 refine⟨fun cs Q Q' h q=>?_,fun H0=>zH.imp (ziO hc) fun xs H Q=>el2 fun G cs s w q=>?_⟩
 . unfold min3 at *;split at q
   . obtain⟨a,ds,ns,h1,h2,h3,q⟩:=q;exact⟨a,ds,ns,h1,h2,h3,h _ _ q⟩
   . exact q
 . unfold min3 at q;split at q
   . obtain⟨v,rfl,w1⟩:=vws1 w
     obtain⟨a,ds,ns,h1,h2,h3,q⟩:=q;obtain⟨l,vs,rfl,hq,rs⟩:=zdE w1 s a h1;cases zd7 rs.rd h2;exact⟨l,ns,rfl,h3,hq,q _ G H (Gr.refl s) (.sc rfl (.int _))⟩
   . exact q.elim
def ZG(n:String)(te:TE3):TE3:=fun ρ Q=>te ρ fun c=>∃ b,c.dat=true/\L2.isD c.d n=some b/\Q (.sh true (.bool b))
theorem zbP{nf:Str}{n:String}{x:Str}{p2:Pos}{te:TE3}(hg:Gl X nf)(hm:X.mg nf=none)(hnf:nf = "isinstance")(hg2:Gl X x)(hm2:X.mg x=none)(hv:bootBuiltins x=some (.type n))(he:PE3 X H0 e te)(hn:x≠"__name__":=by decide)
 (h1:starEach [e,.Name x p2] X.env=(false,eval e X.env)::starEach [.Name x p2] X.env:=by rfl) (h2:starEach [.Name x p2] X.env=(false,eval (.Name x p2) X.env)::starEach [] X.env:=by rfl)
 (hpl:(backTo pos (starEach [.Name x p2] X.env)).any (·.1)=false:=by rfl) (hdx:(x==("__debug__" : Str))=false:=by decide):PE3 X H0 (.Call (.Name nf p) [e,.Name x p2] [] pos) (ZG n te):=by
 subst hnf;exact⟨fun ρ Q Q' h q=>he.mono ρ _ _ (fun c ⟨b,a,d,q⟩=>⟨b,a,d,h _ q⟩) q,PE.imp (zce (x:="isinstance") zjU hg hm zm7 (jS he.ok (jS (zhg (v:=.ty n) hg2 hm2 hv rfl hn hdx) Jk h2) h1) #[1] #[1] h1 hpl) fun σ H Q=>el5 fun G0 ρ G F q=>⟨G0,ρ,G,F,he.mono ρ _ _ (fun c ⟨b,hd,hb,k⟩ v G1 H1 g1 w=>
  ⟨v,n,c.d,b,rfl,w.rd g1.sub hd,hb,k _ G1 H1 g1 (.sh (.sc rfl (.bl b)))⟩) q⟩⟩
def zipD:List D->List D->List D
 | a::as,b::bs=>.tuple [a,b]::zipD as bs
 | _,_=>[]
theorem zek:∀ as bs,(zipD as bs).length=min as.length bs.length
 | [],_=>by simp [zipD]
 | _::_,[]=>by simp [zipD]
 | a::as,b::bs=>by simp [zipD,zek as bs,Nat.succ_min_succ]
theorem zdJ:∀ {as bs:List D} {i:Nat} {d:D},(zipD as bs)[i]?=some d->∃ a b,d=.tuple [a,b]/\as[i]?=some a/\bs[i]?=some b
 | [],_,i,d,h=>by simp [zipD] at h
 | _::_,[],i,d,h=>by simp [zipD] at h
 | a::as,b::bs,0,d,h=>by cases h;exact⟨a,b,rfl,rfl,rfl⟩
 | a :: as, b :: bs, i + 1, d, h => by
  obtain⟨x,y,h1,h2,h3⟩:=zdJ (i:=i) (show(zipD as bs)[i]?=some d from h)
  exact⟨x,y,h1,h2,h3⟩
def itZ(t:TA3):TI3:=fun ρ Q=>t ρ fun cs=>∃ f g as bs,cs=[.sh f (.list as),.sh g (.list bs)]/\Q (f&&g) (zipD as bs)
theorem zl4{K:Ybf}{H0 G:Hp}{a b:Addr}{xs ys:List V}{f g:Bool}{as bs:List D}(h1:SqL K G a xs)(r1:Rfs K H0 G f xs as)(h2:SqL K G b ys)(r2:Rfs K H0 G g ys bs):ItOk K H0 (Itz K a b) (f&&g) (zipD as bs) G where
 go:=fun i d G' H hd s1 s2=>by
  obtain⟨p,q,rfl,hp,hq⟩:=zdJ hd;obtain⟨x,hx,rx⟩:=r1.get hp;obtain⟨y,hy,ry⟩:=r2.get hq;have ss:=s1.trans s2.s;refine⟨⟨xs,ys,x,y,ss.seq h1,ss.seq h2,hx,hy⟩,fun v H' ⟨l,x',y',hl,e1,e2,hh⟩=>?_⟩
  subst e1 e2;obtain⟨z1,z2⟩:=hh xs ys (ss.seq h1) (ss.seq h2);rw [hx] at z1;rw [hy] at z2;cases z1;cases z2;have gl:=zJ (s2.free hl) (.tup [x,y]);exact⟨upd G' l (.tup [x,y]),Gr.put s2 hl,⟨.tup (SqT.of zl) (.cons (J1 (s1.trans gl) rx.rd) (.cons (J1 (s1.trans gl) ry.rd) .nil)),fun hf=>by
   rw [Yak] at hf;exact .tup zl (.cons (jn (s1.trans gl) (fun _ _ _ z=>z) (rx.nw hf.1)) (.cons (jn (s1.trans gl) (fun _ _ _ z=>z) (ry.nw hf.2)) .nil))⟩⟩
 stop:=fun i G' H hl s1 s2=>⟨xs,ys,(s1.trans s2.s).seq h1,(s1.trans s2.s).seq h2,by rw [hl,zek,r1.length,r2.length]⟩
theorem zlP{elts:List Expr}{k:Nat}{tpos:Pos}{a b:Expr}{t:TA3}(hg:Gl X "zip")(hm:X.mg "zip" = none)(ha:PA3 X H0 [a,b] t)(hs:starEach [a,b] X.env=[(false,eval a X.env),(false,eval b X.env)]:=by rfl)
 (hs2:starEach [b] X.env=[(false,eval b X.env)]:=by rfl):PI3 X H0 (.Tuple elts k tpos) (.Call (.Name "zip" p) [a,b] [] pos) (itZ t):=
 ⟨fun ρ Q Q' h q=>ha.mono ρ _ _ (fun cs ⟨f,g,as,bs,e,q⟩=>⟨f,g,as,bs,e,h _ _ q⟩) q,PI.imp (zmd hg hm ha.ok hs hs2) fun σ H R=>el5 fun G0 ρ G F q=>⟨G0,ρ,G,F,ha.mono ρ _ _ (fun cs hyp vs G' H' g w=>by
  obtain⟨fl,fm,as,bs,e,k⟩:=hyp;subst e;obtain⟨v,u,rfl,w1,w2⟩:=vws2 w;obtain⟨x,xs,rfl,hx,rx⟩:=j5 (zj w1);obtain⟨y,ys,rfl,hy,ry⟩:=j5 (zj w2);exact⟨x,y,rfl,⟨xs,g.sub.seq hx⟩,⟨ys,g.sub.seq hy⟩,k _ G' H' g (zl4 hx rx hy ry)⟩) q⟩⟩
end
variable[LamW]
section
variable{K:Ybf}{H0 G0:Hp}{ρ : Env3}{σ : L2.St}{G H:Hp}
theorem Fr3.exc(F:Fr3 K H0 G0 ρ σ G H){i:Nat}{a C:Addr}(h:H a=some (excO a C)):Fr3 K H0 G0 (ρ.set i (some (.ex C))) (σ.set i (some (.ref a))) G H:=F.put (zm.refl _) (.ex h) fun _ h=>False.elim h
theorem Fr3.gone(F:Fr3 K H0 G0 ρ σ G H){i:Nat}:Fr3 K H0 G0 (ρ.set i none) (σ.set i none) G H where
 keep:=F.keep
 sub:=F.sub
 old:=F.old
 g0:=F.g0
 slot:=fun j c e=>by
  rcases zF e with ⟨rfl,q,hl⟩|⟨n,q⟩
  . cases q
  . obtain⟨v',h1,h2⟩:=F.slot j c q
    exact⟨v',by rw [Yac n];exact h1,h2⟩
 mine:=fun j c v a e e' h=>by
  rcases zF e with ⟨rfl,q,hl⟩|⟨n,q⟩
  . cases q
  . rw [Yac n] at e'
    exact F.mine j c v a q e' h
 apart:=fun j k c1 c2 v1 v2 a e1 e2 e3 e4 h1 h2=>by
  rcases zF e1 with ⟨rfl,q,hl⟩|⟨n,q⟩
  . cases q
  . rcases zF e2 with ⟨rfl,q',hl⟩|⟨n',q'⟩
    . cases q'
    . rw [Yac n] at e3
      rw [Yac n'] at e4;exact F.apart j k c1 c2 v1 v2 a q q' e3 e4 h1 h2
 len:=by rw [YaN,YaN];exact F.len
end
theorem PX.imp{X:Cx}{e:List Stmt}{t t':TX}(h:PX X e t)(i:∀ B E σ H,t' B E σ H->t B E σ H):PX X e t':=fun pins s σ H B E I q=>h pins s σ H B E I (i _ _ _ _ q)
section
variable{X:Cx}{H0:Hp}{pos pos' p:Pos}{e:Expr}{es:List Expr}{x:Str}
end
variable[LamW]
theorem zks{P:Program}{w:World}{X:Cx}:Passes (CXR P w) X (fun _ _ _=>False):=fun _ _ _ _ _ _ _ ⟨_,_,_,_,_,h⟩=>h.elim
section
variable{X:Cx}{H0:Hp}{pos:Pos}{x:Str}
theorem g3i{i:Int}(hg:Gl X x)(hm:∃ t,X.mg x=some (.int i t))(hd:(x==("__debug__" : Str))=false:=by decide):PE3 X H0 (.Name x pos) (k3 (.int i)):=by
 obtain⟨t,hm⟩:=hm;exact g3 (v:=.int i) hg hm ⟨t,rfl⟩ (fun _=>.int i) rfl hd
end
theorem sz{n:Nat}(h:n<=1000000):n<=sizeLine:=Ya5 h #[1]
theorem sz0:(0<=sizeLine)=True:=eq_true #[1]
theorem sz1:(1<=sizeLine)=True:=eq_true #[1]
theorem sz2:(2<=sizeLine)=True:=eq_true #[1]
theorem sz3:(3<=sizeLine)=True:=eq_true #[1]
theorem sz4:(4<=sizeLine)=True:=eq_true #[1]
theorem zeu{K:Ybf}{H:Hp}:∀ ns:List Int,RdVs K H (ns.map V.int) (ns.map PyData.int)
 | []=>.nil
 | a::r=>.cons (.int a) (zeu r)
theorem ZC{g:TG3}{tb:TS3}{A:Ends3}{f:Bool}(P:List D->Env3->Prop)(s:∀ d ds ρ,P (d::ds) ρ->∀ W:Env3->Prop,(∀ ρ',P ds ρ'->W ρ')->g f d ρ fun ρ'=>tb { A with nx:=W,ct:=W,bk:=A.nx } ρ')(e:∀ ρ,P [] ρ->A.nx ρ):∀ ds ρ,P ds ρ->forL g tb A f ds ρ
 | [],ρ,h=>e ρ h
 | d::ds,ρ,h=>s d ds ρ h _ fun ρ' p=>ZC P s e ds ρ' p
theorem zk{a b:TS3}{A:Ends3}{ρ : Env3}(h:∀ N:Env3->Prop,(∀ ρ',b A ρ'->N ρ')->a { A with nx:=N } ρ):seq3 a b A ρ:=h (b A) fun _ z=>z
theorem jo{a b:TS3}{A:Ends3}{ρ : Env3}(M:Env3->Prop)(h1:∀ N:Env3->Prop,(∀ ρ',M ρ'->N ρ')->a { A with nx:=N } ρ)(h2:∀ ρ',M ρ'->b A ρ'):seq3 a b A ρ:=h1 (b A) h2
theorem Z2{c:TT3}{tb:TS3}{A:Ends3}(P:Nat->Env3->Prop)(h:∀ n ρ,P n ρ->∀ W:Env3->Prop,(∀ m ρ',m<n->P m ρ'->W ρ')->c ρ fun k=>if k=true then tb { A with nx:=W,ct:=W,bk:=A.nx } ρ else A.nx ρ):∀ n ρ,P n ρ->whN c tb A (n+1) ρ
 | n, ρ, p => by
  have key:∀ k m ρ,m<=k->P m ρ->whN c tb A (k+1) ρ:=by
   intro k
   induction k with
   | zero=>intro m ρ hm p;exact h m ρ p _ (fun m' ρ' hlt _=>absurd hlt #[0])
   | succ k ih=>intro m ρ hm p;exact h m ρ p _ (fun m' ρ' hlt p'=>ih m' ρ' #[0] p')
  exact key n n ρ (YaY _) p
variable[LamW]
theorem jE{α : Type}{g:TG3}{tt:TT3}{te:TE3}{f:Bool}(enc out:α->D)(R:Env3->Prop):∀ (xs:List α),(∀ x∈xs,∀ ρ fa acc (K:Bool->List D->Env3->Prop),R ρ->(∀ ρ',R ρ'->K fa (acc++[out x]) ρ')->
 g f (enc x) ρ fun ρ'=>tt ρ' fun k=>if k=true then te ρ' fun c=>asS c fun fy y=>K (fa&&fy) (acc++[y]) ρ' else K fa acc ρ')->∀ fa acc ρ (Q:Bool->List D->Prop),R ρ->Q fa (acc++xs.map out)->Jc g tt te f (xs.map enc) fa acc ρ Q
 | [],_,fa,acc,ρ,Q,_,q=>by show Q fa acc;simpa using q
 | x::xs,s,fa,acc,ρ,Q,hR,q=>s x YaV ρ fa acc (fun fa acc ρ'=>Jc g tt te f (xs.map enc) fa acc ρ' Q) hR fun ρ' hR'=>
  jE enc out R xs (fun y hy=>s y (YaT _ hy)) fa (acc++[out x]) ρ' Q hR' (by rw [Yag];exact q)
theorem zdi{α β : Type}(e1:α->D)(e2:β->D):∀ (xs:List α) (ys:List β),zipD (xs.map e1) (ys.map e2)=(xs.zip ys).map fun p=>.tuple [e1 p.1,e2 p.2]
 | [],_=>by simp [zipD]
 | _::_,[]=>by simp [zipD]
 | x::xs,y::ys=>by simp [zipD,zdi e1 e2 xs ys]
theorem ze4{α β : Type}(e:α->β)(xs:List α)(i:Int):atI (xs.map e) i=(atI xs i).map e:=by
 unfold atI;rw [YaR];cases ixN xs.length i with
 | none=>rfl
 | some j=>simp
end L3
namespace L3
theorem zfL(lo:Int)(n:Nat):nums lo (n+1)=.int lo::nums (lo+1) n:=by
 unfold nums;rw [List.range_succ_eq_map,Ya1,YaD]
 congr 1
 . simp
 . apply Yat
   intro i _;simp only [Function.comp]
   congr 1
   omega
theorem jG{g:TG3}{tb:TS3}{A:Ends3}{f:Bool}{lo:Int}{n:Nat}(P:Nat->Env3->Prop)(s:∀ k ρ,k<n->P k ρ->∀ W:Env3->Prop,(∀ ρ',P (k+1) ρ'->W ρ')->g f (.int (lo+k)) ρ fun ρ'=>tb { A with nx:=W,ct:=W,bk:=A.nx } ρ')(e:∀ ρ,P n ρ->A.nx ρ){ρ : Env3}(h:P 0 ρ):forL g tb A f (nums lo n) ρ:=by
 have key:∀ m k ρ,k+m=n->P k ρ->forL g tb A f (nums (lo+k) m) ρ:=by
  intro m
  induction m with
  | zero => intro k ρ hk p; have : k = n := by omega
            subst this;exact e ρ p
  | succ m ih=>
   intro k ρ hk p;rw [zfL];refine s k ρ #[0] p _ fun ρ' p'=>?_
   have:=ih (k+1) ρ' #[0] p'
   rw [show lo+((k+1:Nat):Int)=lo+k+1 by omega] at this
   exact this
 have:=key n 0 ρ #[0] h
 simpa using this
theorem Jr{α : Type}{g:TG3}{tb:TS3}{A:Ends3}{f:Bool}(enc:α->D)(l:List α)(P:List α->Env3->Prop)(s:∀ done x rest ρ,l=done++x::rest->P done ρ->∀ W:Env3->Prop,(∀ ρ',P (done++[x]) ρ'->W ρ')->g f (enc x) ρ fun ρ'=>tb { A with nx:=W,ct:=W,bk:=A.nx } ρ')(e:∀ ρ,P l ρ->A.nx ρ){ρ : Env3}(h:P [] ρ):forL g tb A f (l.map enc) ρ:=by
 have key:∀ rest done ρ,l=done++rest->P done ρ->forL g tb A f (rest.map enc) ρ:=by
  intro rest
  induction rest with
  | nil=>intro done ρ hl p;rw [Yao] at hl;subst hl;exact e ρ p
  | cons x rest ih=>
   intro done ρ hl p;exact s done x rest ρ hl p _ fun ρ' p'=>ih (done++[x]) ρ' (by rw [hl,Yag];rfl) p'
 exact key l [] ρ rfl h
end L3
namespace L3
open PySem L2
mutual
theorem zdH:∀ {d:D},PyData.canLay0 d=true->PyData.eqv d d=true
 | .none,_=>by simp [PyData.eqv]
 | .bool b,_=>by simp [PyData.eqv]
 | .int i,_=>by simp [PyData.eqv]
 | .str x,_=>by simp [PyData.eqv]
 | .list xs, h => by
  have h':PyData.canLayAll0 xs=true:=by simpa [PyData.canLay0] using h
  simpa [PyData.eqv] using eqvAll_refl h'
 | .tuple xs, h => by
  have h':PyData.canLayAll0 xs=true:=by simpa [PyData.canLay0] using h
  simpa [PyData.eqv] using eqvAll_refl h'
 | .dict _,h=>by simp [PyData.canLay0] at h
theorem eqvAll_refl:∀ {ds:List D},PyData.canLayAll0 ds=true->PyData.eqvAll ds ds=true
 | [],_=>by simp [PyData.eqvAll]
 | d :: ds, h => by
  have h':PyData.canLay0 d=true/\PyData.canLayAll0 ds=true:=by simpa [PyData.canLayAll0] using h
  simp [PyData.eqvAll,zdH h'.1,eqvAll_refl h'.2]
end
def Plain(n:Nat)(d:D):Prop:=PyData.canLay0 d=true/\PyData.depth d<=n
theorem Plain.shaped{n:Nat}{d:D}(h:Plain n d)(hn:n<=64):SeqAt.shaped d=true:=by
 unfold SeqAt.shaped;rw [h.1,Wbq];exact decide_eq_true (Ya5 h.2 hn)
theorem Plain.int(i:Int):Plain 0 (.int i):=⟨by simp [PyData.canLay0],by simp [PyData.depth]⟩
theorem Plain.bool(i:Bool):Plain 0 (.bool i):=⟨by simp [PyData.canLay0],by simp [PyData.depth]⟩
theorem Plain.none:Plain 0 .none:=⟨by simp [PyData.canLay0],by simp [PyData.depth]⟩
theorem zch{n:Nat}:∀ {ds:List D},(∀ d∈ds,Plain n d)->PyData.canLayAll0 ds=true/\PyData.depthAll ds<=n
 | [],_=>by simp [PyData.canLayAll0,PyData.depthAll]
 | d :: ds, h => by
  obtain⟨h1,h2⟩:=h d YaV;obtain⟨h3,h4⟩:=zch (ds:=ds) fun x hx=>h x (YaT _ hx)
  simp [PyData.canLayAll0,PyData.depthAll,h1,h3]
  omega
theorem Plain.list{n:Nat}{ds:List D}(h:∀ d∈ds,Plain n d):Plain (n+1) (.list ds):=by
 obtain⟨h1,h2⟩:=zch h;exact⟨by simp [PyData.canLay0,h1],by simp [PyData.depth,h2]⟩
theorem Plain.tuple{n:Nat}{ds:List D}(h:∀ d∈ds,Plain n d):Plain (n+1) (.tuple ds):=by
 obtain⟨h1,h2⟩:=zch h;exact⟨by simp [PyData.canLay0,h1],by simp [PyData.depth,h2]⟩
theorem Plain.mono{m n:Nat}{d:D}(h:Plain m d)(hn:m<=n):Plain n d:=⟨h.1,Ya5 h.2 hn⟩
theorem zbU{α : Type}{xs:List α}{i:Int}(h0:0<=i)(h:i<xs.length):∃ x,atI xs i=some x/\x∈xs/\xs[i.toNat]?=some x:=by
 have hk:i.toNat<xs.length:=#[0]
 refine⟨xs[i.toNat],?_,Ya4 hk,YaQ hk⟩
 have:=JQ (xs:=xs) (j:=i.toNat) (YaQ hk);rwa [show((i.toNat:Nat):Int)=i by omega] at this
theorem zhk{n:Nat}{i:Int}(h0:0<=i)(h:i<n):ixN n i=some i.toNat:=by
 unfold ixN;rw [if_pos h0,if_pos h]
end L3
namespace L2
open PySem PySem.Spec PyProof.Rows
section
variable{X:Cx}
end
end L2
namespace L3
open PySem PySem.Spec PyProof.Rows L2
variable[LamW]
section
variable{X:Cx}{H0:Hp}{e:Expr}{pos p:Pos}
def Z1(i j:Nat)(te:TE3):TS3:=fun A ρ=>∃ f ds g es,ρ[i]?=some (some (.ow f ds))/\ρ[j]?=some (some (.ow g es))/\i≠j/\te ρ fun c=>∃ n d,c=.sh true (.int n)/\0<=n/\n<2 ^ 62/\es[n.toNat]?=some d/\ds.length<sizeLine/\A.nx ((ρ.set j (some (.ow g (es.eraseIdx n.toNat)))).set i (some (.ow (f&&g) (ds++[d]))))
theorem zgP{i j:Nat}{te:TE3}{x y:Str}{np apos cpos np2 apos2 cpos2:Pos}(hN:X.N[i]?=some x)(hv:Vis X.env.scope x)(hN2:X.N[j]?=some y)(hv2:Vis X.env.scope y)(he:PE3 X H0 e te)(hd:(x==("__debug__" : Str))=false:=by decide)(hcd:(x==("__classdict__" : Str))=false:=by decide)
 (hd2:(y==("__debug__" : Str))=false:=by decide) (hcd2:(y==("__classdict__" : Str))=false:=by decide)
 (hb:attributeBase (.Name x np) "append" X.env (eval (.Name x np) X.env)=eval (.Name x np) X.env:=by rfl)
 (hb2:attributeBase (.Name y np2) "pop" X.env (eval (.Name y np2) X.env)=eval (.Name y np2) X.env:=by rfl)
 (hf:((backTo cpos (starEach [(Expr.Call (.Attribute (.Name y np2) "pop" apos2) [e] [] cpos2)] X.env)).all (fun x=>!x.1)&&(backToKw cpos (keywordEach [] X.env)).all (fun x=>x.1.isSome)&&decide ([(Expr.Call (.Attribute (.Name y np2) "pop" apos2) [e] [] cpos2)].length+([]:List Keyword).length+(if([]:List Keyword).isEmpty then 0 else 1)<30))=true:=by rfl)
 (hf2:((backTo cpos2 (starEach [e] X.env)).all (fun x=>!x.1)&&(backToKw cpos2 (keywordEach [] X.env)).all (fun x=>x.1.isSome)&&decide ([e].length+([]:List Keyword).length+(if([]:List Keyword).isEmpty then 0 else 1)<30))=true:=by rfl)
 (hl:(apos.endLine==cpos.line)=true:=by rfl) (hl2:(apos2.endLine==cpos2.line)=true:=by rfl)
 (hs:starEach [(Expr.Call (.Attribute (.Name y np2) "pop" apos2) [e] [] cpos2)] X.env=(false,eval (Expr.Call (.Attribute (.Name y np2) "pop" apos2) [e] [] cpos2) X.env)::starEach [] X.env:=by rfl)
 (hs2:starEach [e] X.env=(false,eval e X.env)::starEach [] X.env:=by rfl)
 (hp:(backTo cpos (starEach [] X.env)).any (·.1)=false:=by rfl) (hp2:(backTo cpos2 (starEach [] X.env)).any (·.1)=false:=by rfl)
 (hw:swapsWith (.Call (.Attribute (.Name x np) "append" apos) [(Expr.Call (.Attribute (.Name y np2) "pop" apos2) [e] [] cpos2)] [] cpos) none pos.line X.env=pure false:=by rfl) :
 PS3 X H0 (.Expr (.Call (.Attribute (.Name x np) "append" apos) [(Expr.Call (.Attribute (.Name y np2) "pop" apos2) [e] [] cpos2)] [] cpos) pos) (Z1 i j te):=by
 refine PS.imp (zbf (zc8 (jd hN hv hd hcd) (jS (zj6 (jd hN2 hv2 hd2 hcd2) (jS he.ok Jk hs2) hb2 hf2 hl2 hs2 hp2) Jk hs) hb hf hl hs hp) hw) fun B σ H hyp=>?_
 obtain⟨G0,A,ρ,G,F,⟨f,ds,g,es,hi,hj,hij,q⟩,L⟩:=hyp;obtain⟨l,vs,h1,h2,r⟩:=zac F hi;obtain⟨m,us,k1,k2,t⟩:=zac F hj;refine⟨.ref l,h1,za0 h2,.ref m,k1,za0 k2,G0,ρ,G,F,he.mono ρ _ _ (fun c hc0 v G' H' gr w=>?_) q⟩
 obtain⟨n,d,hc,n0,n1,hd,hz,q⟩:=hc0;subst hc;have rk:=(zj w).rd;cases rk;obtain⟨u,hu,ru⟩:=(t.same gr.g).get hd;have hlen:n.toNat<us.length:=(Ya8.mp hu).1;have hix:seqIndex? n us.length=some n.toNat:=by
  unfold seqIndex?;rw [if_neg (show ¬n<0 by omega)]
  simp only [];rw [if_pos (by simp only [Yak,decide_eq_true_eq];omega)]
 refine⟨m,us,n,n.toNat,u,rfl,rfl,gr.h.at k2,#[0],#[0],hix,hu,?_⟩
 have F1:=(F.gr gr).change hj k1 ((t.same gr.g).eraseIdx n.toNat);have hi':(ρ.set j (some (.ow g (es.eraseIdx n.toNat))))[i]?=some (some (.ow f ds)):=by rw [Yac (WbL hij)];exact hi
 obtain⟨l',vs',e1,e2,r'⟩:=zac F1 hi';rw [h1] at e1;cases e1;refine⟨l,vs',u,rfl,rfl,e2,by rw [r'.length];exact hz,L.nx _ _ _ _ (F1.change hi' h1 (r'.snoc ru)) q⟩
end
variable[LamW]
section
variable{K:Ybf}{H0 G0:Hp}{ρ : Env3}{σ : L2.St}{G H G' H':Hp}
end
section
variable{X:Cx}{H0:Hp}{e:Expr}{es:List Expr}{pos p:Pos}{x:Str}
end
section
variable{X:Cx}
end
end L3
namespace L2
open PySem PySem.Spec PyProof.Rows
section
variable{X:Cx}
end
end L2
namespace L3
open PySem PySem.Spec PyProof.Rows L2
variable[LamW]
section
variable{X:Cx}{H0:Hp}{e:Expr}{pos:Pos}
def aug3(i:Nat)(te:TE3):TS3:=fun A ρ=>∃ f n,ρ[i]?=some (some (.sh f (.int n)))/\te ρ fun c=>∃ g m,c=.sh g (.int m)/\A.nx (ρ.set i (#[5,n+m]))
theorem zkH{i:Nat}{x:Str}{te:TE3}{pos':Pos}(hN:X.N.Nodup)(hi:X.N[i]?=some x)(hx:Loc X.env.scope x)(he:PE3 X H0 e te)
 (hf:X.fn x=true\/X.env.scope.names.lookup x=some .local:=by first|exact .inl rfl|exact .inr rfl|assumption):PS3 X H0 (.AugAssign (.Name x pos') .Add e pos) (aug3 i te):=
 PS.imp (zk9 hN hi hx he.ok zjT hf) fun B σ H hyp=>by
  obtain⟨G0,A,ρ,G,F,⟨f,n,h,q⟩,L⟩:=hyp;obtain⟨v,h1,h2⟩:=F.slot i _ h;have r:=zE (zj h2).rd;subst r;refine⟨_,h1,G0,ρ,G,F,he.mono ρ _ _ (fun c ⟨g,m,hc,q⟩ v G1 H1 g1 w=>?_) q⟩
  subst hc;have r:=zE (zj w).rd;subst r;exact⟨n,m,rfl,rfl,L.nx _ _ _ _ ((F.gr g1).set (.sc rfl (.int _))) q⟩
def par3(i j:Nat)(t:TA3):TS3:=fun A ρ=>t ρ fun cs=>∃ f a g b,cs=[.sh f a,.sh g b]/\A.nx ((ρ.set i (some (.sh f a))).set j (some (.sh g b)))
theorem zln{i j:Nat}{x y:Str}{a b:Expr}{ta:TA3}{px py pt:Pos}{kt k2 pt2}(hc:X.calm=true)(hN:X.N.Nodup)(hi:X.N[i]?=some x)(hj:X.N[j]?=some y)(hij:i≠j)
 (hx:X.env.scope.names.lookup x=some .local) (hy:X.env.scope.names.lookup y=some .local) (ha:PA3 X H0 [a,b] ta)
 (hw:swappedStores [.Tuple [.Name x px,.Name y py] kt pt] (.Tuple [a,b] k2 pt2) X.env=pure (some [x,y]):=by rfl)
 (hs:swapsWithSole [.Tuple [.Name x px,.Name y py] kt pt] (.Tuple [a,b] k2 pt2) pos.line X.env=pure false:=by rfl) :
 PS3 X H0 (.Assign [.Tuple [.Name x px,.Name y py] kt pt] (.Tuple [a,b] k2 pt2) pos) (par3 i j ta):=
 PS.imp (zk7 hc hN hi hj hij hx hy ha.ok hw hs) fun B σ H=>el7 fun G0 A ρ G F q L=>⟨G0,ρ,G,F,ha.mono ρ _ _ (fun cs hyp vs G1 H1 g1 w=>by
  obtain⟨f,a,g,b,hcs,q⟩:=hyp;subst hcs;obtain⟨v,u,rfl,w1,w2⟩:=vws2 w;exact⟨v,u,rfl,L.nx _ _ _ _ (((F.gr g1).set (zj w1)).set (zj w2)) q⟩) q⟩
def ext3(i:Nat)(te:TE3):TS3:=fun A ρ=>∃ f ds,ρ[i]?=some (some (.ow f ds))/\te ρ fun c=>∃ es,c=.sh true (.list es)/\ds.length+es.length<=sizeLine/\A.nx (ρ.set i (some (.ow f (ds++es))))
theorem zh3{i:Nat}{te:TE3}{x:Str}{np apos cpos:Pos}(hN:X.N[i]?=some x)(hv:Vis X.env.scope x)(he:PE3 X H0 e te)(hd:(x==("__debug__" : Str))=false:=by decide)(hcd:(x==("__classdict__" : Str))=false:=by decide)
 (hb:attributeBase (.Name x np) "extend" X.env (eval (.Name x np) X.env)=eval (.Name x np) X.env:=by rfl)
 (hf:((backTo cpos (starEach [e] X.env)).all (fun x=>!x.1)&&(backToKw cpos (keywordEach [] X.env)).all (fun x=>x.1.isSome)&&decide ([e].length+([]:List Keyword).length+(if([]:List Keyword).isEmpty then 0 else 1)<30))=true:=by rfl)
 (hl:(apos.endLine==cpos.line)=true:=by rfl) (hs:starEach [e] X.env=(false,eval e X.env)::starEach [] X.env:=by rfl) (hp:(backTo cpos (starEach [] X.env)).any (·.1)=false:=by rfl)
 (hw:swapsWith (.Call (.Attribute (.Name x np) "extend" apos) [e] [] cpos) none pos.line X.env=pure false:=by rfl):PS3 X H0 (.Expr (.Call (.Attribute (.Name x np) "extend" apos) [e] [] cpos) pos) (ext3 i te):=by
 refine PS.imp (zbf (zby Wao PySem.F.slot_list_extend PySem.F.type_list_extend zl6 (jd hN hv hd hcd) (jS he.ok Jk hs) hb hf hl hs hp) hw) fun B σ H hyp=>?_
 obtain⟨G0,A,ρ,G,F,⟨f,ds,hi,q⟩,L⟩:=hyp;obtain⟨l,vs,h1,h2,r⟩:=zac F hi;refine⟨.ref l,h1,za0 h2,G0,ρ,G,F,he.mono ρ _ _ (fun c ⟨es,hc,hz,q⟩ v G' H' g w=>?_) q⟩
 subst hc;have rw':=zj w;have rn:=rw'.nw rfl;cases rn with
 | lst hG hn rs=>
  rename_i b xs;have ra:Rfs X.K H0 G' f (vs++xs) (ds++es):=⟨((r.same g.g).rd).append (rdns_rd rs),fun hf=>zb3 ((r.same g.g).nw hf) rs⟩
  exact⟨l,b,vs,xs,rfl,rfl,g.h.at h2,g.sub.s _ _ hG,by rw [r.length,(rdns_rd rs).length];exact hz,L.nx _ _ _ _ ((F.gr g).change hi h1 ra) q⟩
end
end L3
namespace L2
open PySem PySem.Spec PyProof.Rows
theorem zdg:bootBuiltins "enumerate" = some (.type "enumerate"):=by with_unfolding_all rfl
def Ite(K:Ybf)(a:Addr):It:=
 ⟨fun i H=>∃ xs x,SqL K H a xs/\xs[i]?=some x,
  fun i H v H'=>∃ p x,H p=none/\v=.ref p/\H'=upd H p (.tup [.int i,x])/\∀ xs,SqL K H a xs->xs[i]?=some x,
  fun i H=>∃ xs,SqL K H a xs/\i=xs.length⟩
theorem zlG{P:Program}{w:World}{K:Ybf}{elts:List Expr}{k:Nat}{pos:Pos}{e it l:Addr}(hei:e≠it)(hle:l≠e)(hli:l≠it) :
 Turn P w K (.Tuple elts k pos) (Ite K l) [e,it] e (fun i h=>(∃ old,IsEnum h e it i old)/\h.IsListIter it l i) where
 mem:=by simp
 obj:=fun i h hyp c hc=>by
  obtain⟨⟨old,he⟩,⟨o1,e1,c1,d1⟩⟩:=hyp;have hc':c=e\/c=it:=by simpa using hc
  rcases hc' with rfl|rfl
  . exact⟨_,he,fun v z=>by cases(show Data.fields _=Data.cell v from z)⟩
  . exact⟨o1,e1,fun v z=>by rw [d1] at z;cases z⟩
 keep:=fun i h h' ⟨⟨old,he⟩,h1⟩ kk=>⟨⟨old,kk e (by simp) _ he⟩,h1.at fun o e=>kk it (by simp) o e⟩
 item:=by
  intro X hP hw hK hc i pins s σ H E I hf st hg;subst hP hw hK;obtain⟨xs,x,q1,hx⟩:=hg;obtain⟨its1,r1,p1,_⟩:=I.list q1;obtain⟨u,hu,ru⟩:=r1.get hx;have W:=WalksT.enumerate (prog:=X.prog) (w:=X.w) (A:=X.A) (I.ok.hd hc) e it l hei hle hli its1.toArray;have hi:i<its1.toArray.size:=by
   have a1:=(Ya8.mp hu).1;simp only [YaZ];omega
  obtain⟨he,h1⟩:=st;have olt:∀ b∈[e,it],b<s.heap.objs.size:=fun b hb=>by
   obtain⟨old,he'⟩:=he;have hc':b=e\/b=it:=by simpa using hb
   rcases hc' with rfl|rfl
   . exact YaX he'
   . obtain⟨_,e,_⟩:=h1;exact YaX e
  refine W.item i s _ _ hi ⟨he,h1,p1.isList⟩ fun T vals h1' tk hv' hT hTup mid kp=>?_
  obtain⟨t',u',hu',e'⟩:=hv';subst e';have eu:u'=u:=by
   have:its1[i]?=some u':=by simpa using hu'
   rw [hu] at this;cases this;rfl
  subst eu;refine⟨_,rfl,W.go elts k pos i T _ _ _ mid fun h2' st2 kp2=>?_⟩
  have I1:Inv X pins σ H { s with heap:=h2',toks:=tk }:=I.turnedL (ch:=[e,it]) (fun b o hb e=>kp2 b o hb (kp b o hb e)) fun b hb=>hf b hb
  have hTn:H T=none:=I.hok.fresh hT;obtain⟨o,ho,oc,on,od⟩:=hTup;have ho2:=kp2 T o (W.apart i T _ mid) ho;have I2:Inv X pins σ (upd H T (.tup [.int i,x])) { s with heap:=h2',toks:=tk }:=I1.track hTn (Ya5 I.sz hT) (Wby (YaU I.lt hT)) (fun n c e z=>by
   obtain⟨vv,q⟩:=I.cell n c e;exact absurd (YaU q.lt (by rw [z];exact hT)) (Yap _)) (fun p hp z=>absurd (YaU (YaX (I.pin p hp).1) (by rw [z];exact hT)) (Yap _))
   ⟨by show 2<=sizeLine;decide,[.int i t',u'],.cons ⟨t',rfl⟩ (.cons ru .nil),o,ho2,oc,on,od⟩
  refine⟨.ref T,_,I2,rfl,⟨T,x,hTn,rfl,rfl,fun xs' z1=>?_⟩,⟨st2.1,st2.2.1⟩,fun b hb=>?_⟩
  . rw [I.list_inj z1 q1];exact hx
  . rw [zh (Yaf (YaU (olt b hb) hT))];exact(hf b hb).1
 done:=by
  intro X hP hw hK hc i pins s σ H E I hf st hg;subst hP hw hK;obtain⟨xs,q1,hi⟩:=hg;obtain⟨its1,r1,p1,_⟩:=I.list q1;have W:=WalksT.enumerate (prog:=X.prog) (w:=X.w) (A:=X.A) (I.ok.hd hc) e it l hei hle hli its1.toArray;obtain⟨he,h1⟩:=st;have ei:i=its1.toArray.size:=by simp only [YaZ];rw [<-r1.length];exact hi
  subst ei;refine W.done s _ _ ⟨he,h1,p1.isList⟩ fun h' tk kp=>⟨rfl,?_⟩
  exact I.turnedL (ch:=[e,it]) kp fun b hb=>hf b hb
 self:=fun _ _ _ _ _ st h=>by obtain⟨⟨old,he⟩,_⟩:=st;exact wpAny_pyIter_enum he h
def zkK(K:Ybf)(ta:TA):TI:=fun σ H R=>ta σ H fun vs H1=>∃ a,vs=[.ref a]/\(∃ xs,SqL K H1 a xs)/\R (Ite K a) H1
theorem zmY{X:Cx}{elts:List Expr}{k:Nat}{tpos:Pos}{a:Expr}{ta:TA}{p pos:Pos}(hg:Gl X "enumerate")(hm:X.mg "enumerate" = none)(ha:PA X [a] ta)(hs:starEach [a] X.env=[(false,eval a X.env)]:=by rfl):PI X (.Tuple elts k tpos) (.Call (.Name "enumerate" p) [a] [] pos) (zkK X.K ta):=by
 intro pins s σ H R I h;refine Call_ (j0 I hg hm zdg (Wae (thn (ha pos pins s σ H _ I h) fun us s1 ⟨vs,H1,I1,r1,q1⟩=>?_) (by rw [hs];rfl) rfl))
 obtain⟨l1,e,⟨xs,hx⟩,q⟩:=q1;subst e;obtain⟨u,rfl,ru⟩:=jT r1;cases(show u=Value.ref l1 from ru)
 obtain⟨its1,_,p1,_⟩:=I1.list hx;have lt1:l1<s1.heap.objs.size:=by obtain⟨o,e,_⟩:=p1.isList;exact YaX e
 refine call_enumerate_list p1.isList fun h' he hi1 hsz kp=>wpAny_pyIter_enum he ?_
 have I2:Inv X pins σ H1 { s1 with heap:=h' }:=I1.kept (t':=s1.toks) kp
 refine⟨_,[s1.heap.objs.size+1,s1.heap.objs.size],_,Ite X.K l1,H1,rfl,I2,zlG (Nat.succ_ne_self _) (Yaf (WaP lt1)) (Yaf lt1),⟨⟨_,he⟩,hi1⟩,fun b hb=>?_,q⟩
 have hb':s1.heap.objs.size<=b:=by
  have hc':b=s1.heap.objs.size+1\/b=s1.heap.objs.size:=by simpa using hb
  rcases hc' with rfl|rfl<;>omega
 have f:=I1.fpOk (H':=H1) hb' (I1.hok.fresh hb');exact⟨f.1,f.2.1,f.2.2.1,f.2.2.2.1,f.2.2.2.2.1,f.2.2.2.2.2⟩
end L2
namespace L3
open PySem PySem.Spec PyProof.Rows L2
variable[LamW]
section
variable{X:Cx}{H0:Hp}{pos p:Pos}
def jJ(ds:List D):List D:=(List.range ds.length).map fun i=>.tuple [.int (i:Nat),ds.getD i .none]
theorem zlO(ds:List D):(jJ ds).length=ds.length:=by unfold jJ;simp
theorem ziW{ds:List D}{i:Nat}{d:D}(h:(jJ ds)[i]?=some d):∃ a,d=.tuple [.int (i:Nat),a]/\ds[i]?=some a:=by
 unfold jJ at h;rw [Ya0] at h
 by_cases hi:i<ds.length
 . rw [Yax hi] at h
   cases h;exact⟨ds[i],by simp [hi],YaQ hi⟩
 . rw [Wax #[6]] at h;cases h
def itE(t:TA3):TI3:=fun ρ Q=>t ρ fun cs=>∃ f as,cs=[.sh f (.list as)]/\Q f (jJ as)
theorem znO{K:Ybf}{H0 G:Hp}{a:Addr}{xs:List V}{f:Bool}{as:List D}(h1:SqL K G a xs)(r1:Rfs K H0 G f xs as):ItOk K H0 (Ite K a) f (jJ as) G where
 go:=fun i d G' H hd s1 s2=>by
  obtain⟨q,rfl,hq⟩:=ziW hd;obtain⟨x,hx,rx⟩:=r1.get hq;have ss:=s1.trans s2.s;refine⟨⟨xs,x,ss.seq h1,hx⟩,fun v H' ⟨l,x',hl,e1,e2,hh⟩=>?_⟩
  subst e1 e2;have z1:=hh xs (ss.seq h1);rw [hx] at z1;cases z1;have gl:=zJ (s2.free hl) (.tup [.int i,x]);exact⟨upd G' l (.tup [.int i,x]),Gr.put s2 hl,⟨.tup (SqT.of zl) (.cons (.int _) (.cons (J1 (s1.trans gl) rx.rd) .nil)),fun hf=>
   .tup zl (.cons (.int _) (.cons (jn (s1.trans gl) (fun _ _ _ z=>z) (rx.nw hf)) .nil))⟩⟩
 stop:=fun i G' H hl s1 s2=>⟨xs,(s1.trans s2.s).seq h1,by rw [hl,zlO,r1.length]⟩
theorem zeD{elts:List Expr}{k:Nat}{tpos:Pos}{a:Expr}{t:TA3}(hg:Gl X "enumerate")(hm:X.mg "enumerate" = none)(ha:PA3 X H0 [a] t)(hs:starEach [a] X.env=[(false,eval a X.env)]:=by rfl):PI3 X H0 (.Tuple elts k tpos) (.Call (.Name "enumerate" p) [a] [] pos) (itE t):=
 ⟨fun ρ Q Q' h q=>ha.mono ρ _ _ (fun cs ⟨f,as,e,q⟩=>⟨f,as,e,h _ _ q⟩) q,PI.imp (zmY hg hm ha.ok hs) fun σ H R=>el5 fun G0 ρ G F q=>⟨G0,ρ,G,F,ha.mono ρ _ _ (fun cs hyp vs G1 H1 g1 w=>by
  obtain⟨f,as,e,k⟩:=hyp;subst e;obtain⟨v,rfl,w1⟩:=vws1 w;obtain⟨a,xs,rfl,hq,rs⟩:=j5 (zj w1);exact⟨a,rfl,⟨xs,g1.sub.seq hq⟩,k _ G1 H1 g1 (znO hq rs)⟩) q⟩⟩
end
variable[LamW]
section
variable{X:Cx}{H0:Hp}{e:Expr}{pos:Pos}{x:Str}
end
end L3
namespace L2
open PySem PySem.Spec PyProof.Rows
section
variable{κ : Type}[DecidableEq κ]
def valV(kvs:List (κ×V))(k:κ):Option V:=(kvs.find? fun kv=>decide (kv.1=k)).map (·.2)
def putK(kvs:List (κ×V))(k:κ)(v:V):List (κ×V):=
 if(kvs.any fun kv=>decide (kv.1=k))=true then kvs.map (fun kv=>if kv.1=k then(kv.1,v) else kv) else kvs++[(k,v)]
def zdy(kvs:List (κ×V))(k:κ):List (κ×V):=kvs.filter fun kv=>decide (kv.1≠k)
theorem zaj{p:κ×V}{r:List (κ×V)}{k:κ}(e:p.1=k):valV (p::r) k=some p.2:=by simp [valV,List.find?_cons,e]
theorem zak{p:κ×V}{r:List (κ×V)}{k:κ}(e:¬p.1=k):valV (p::r) k=valV r k:=by simp [valV,List.find?_cons,e]
theorem zei(k:κ):∀ kvs:List (κ×V),(kvs.any fun kv=>decide (kv.1=k))=(valV kvs k).isSome
 | []=>rfl
 | p :: r => by
  rw [List.any_cons]
  by_cases e:p.1=k
  . simp only [zaj e,decide_eq_true e,WbA,Option.isSome_some]
  . rw [zak e,decide_eq_false e,Wbr];exact zei k r
theorem zes(kvs:List (κ×V))(k:κ)(v:V):(putK kvs k v).length<=kvs.length+1:=by
 unfold putK
 split
 . rw [YaR];omega
 . rw [YaS,List.length_cons,List.length_nil];omega
theorem RelO.isSome_eq{o:Option V}{u:Option Value}(r:RelO o u):o.isSome=u.isSome:=by
 cases o with
 | none => cases u with
  | none=>rfl
  | some _=>exact(show False from r).elim
 | some _ => cases u with
  | none=>exact(show False from r).elim
  | some _=>rfl
theorem RelO.getD{o:Option V}{u:Option Value}{d:V}{d':Value}(r:RelO o u)(rd:RelV d d'):RelV (o.getD d) (u.getD d'):=by
 cases o with
 | none => cases u with
  | none=>exact rd
  | some _=>exact(show False from r).elim
 | some _ => cases u with
  | none=>exact(show False from r).elim
  | some _=>exact r
theorem KV.val{kvs:List (κ×V)}{vs:List (κ×Value)}(r:KV kvs vs)(k:κ):RelO (valV kvs k) (valueAt vs k):=by
 unfold KV at r
 induction r with
 | nil=>exact True.intro
 | @cons p q ps qs h t ih=>
  obtain⟨h1,h2⟩:=h
  by_cases e:p.1=k
  . have e':q.1=k:=h1.symm.trans e
    have b:valueAt (q::qs) k=some q.2:=by simp [valueAt,List.find?_cons,e']
    rw [zaj e,b];exact h2
  . have e':¬q.1=k:=fun z=>e (h1.trans z)
    have b:valueAt (q::qs) k=valueAt qs k:=by simp [valueAt,List.find?_cons,e']
    rw [zak e,b];exact ih
theorem KV.any{kvs:List (κ×V)}{vs:List (κ×Value)}(r:KV kvs vs)(k:κ):(kvs.any fun kv=>decide (kv.1=k))=vs.any fun kv=>decide (kv.1=k):=by
 unfold KV at r
 induction r with
 | nil=>rfl
 | cons h t ih=>rw [List.any_cons,List.any_cons,ih,h.1]
theorem KV.repl{kvs:List (κ×V)}{vs:List (κ×Value)}(r:KV kvs vs)(k:κ){y:V}{u:Value}(ry:RelV y u) :
 KV (kvs.map fun kv=>if kv.1=k then(kv.1,y) else kv) (vs.map fun kv=>if kv.1=k then(kv.1,u) else kv):=by
 unfold KV at r ⊢
 induction r with
 | nil=>exact .nil
 | @cons p q ps qs h t ih=>
  rw [Ya1,Ya1];refine .cons ?_ ih;obtain⟨h1,h2⟩:=h
  by_cases e:p.1=k
  . rw [if_pos e,if_pos (h1.symm.trans e)];exact⟨h1,ry⟩
  . rw [if_neg e,if_neg (fun z=>e (h1.trans z))];exact⟨h1,h2⟩
theorem KV.put{kvs:List (κ×V)}{vs:List (κ×Value)}(r:KV kvs vs)(k:κ){y:V}{u:Value}(ry:RelV y u):KV (putK kvs k y) (stored vs k u):=by
 unfold putK stored;rw [r.any k]
 by_cases e:(vs.any fun kv=>decide (kv.1=k))=true
 . rw [if_pos e,if_pos e];exact r.repl k ry
 . rw [if_neg e,if_neg e];exact Paired.snoc r ⟨rfl,ry⟩
theorem KV.drop{kvs:List (κ×V)}{vs:List (κ×Value)}(r:KV kvs vs)(k:κ):KV (zdy kvs k) (without vs k):=by
 unfold KV at r ⊢;unfold zdy without
 induction r with
 | nil=>exact .nil
 | @cons p q ps qs h t ih=>
  obtain⟨h1,h2⟩:=h;rw [YaM,YaM]
  by_cases e:p.1=k
  . have a:¬decide (p.1≠k)=true:=by simp [e]
    have b:¬decide (q.1≠k)=true:=by simp [h1.symm.trans e]
    rw [if_neg a,if_neg b];exact ih
  . have e':¬q.1=k:=fun z=>e (h1.trans z)
    have a:decide (p.1≠k)=true:=by simp [e]
    have b:decide (q.1≠k)=true:=by simp [e']
    rw [if_pos a,if_pos b];exact .cons ⟨h1,h2⟩ ih
theorem KV.length{kvs:List (κ×V)}{vs:List (κ×Value)}(r:KV kvs vs):kvs.length=vs.length:=Paired.length r
end
theorem zaW{P:Program}{w:World}{k:Key}{u:Value}(r:RelV (kV k) u):(zW P w).is k u=true:=by
 cases k with
 | inl i=>obtain⟨t,e⟩:=(show ∃ t,u=Value.int i t from r);subst e;exact zji P w i t
 | inr x=>obtain⟨t,e⟩:=(show ∃ t,u=Value.str x t from r);subst e;exact zlq P w x t
theorem zep{P:Program}{w:World}:∀ {ks:List Key} {us:List Value},Vals (ks.map kV) us->ItemsAre (zW P w) ks us
 | [],_,r=>by rw [Wbz] at r;cases r;exact .nil
 | k :: ks, _, r => by
  rw [Ya1] at r;cases r with
  | cons h t=>exact .cons (zaW h) (zep t)
abbrev KT(H:Hp):List (List Key×V)->List (List Key×Addr×Value)->Prop:=Paired fun p q=>p.1=q.1/\H q.2.1=some (.tup (p.1.map kV))/\RelV p.2 q.2.2
theorem KT.val{H:Hp}{kvs:List (List Key×V)}{xs:List (List Key×Addr×Value)}(r:KT H kvs xs)(k:List Key):RelO (valV kvs k) ((atKey xs k).map (·.2)):=by
 induction r with
 | nil=>exact True.intro
 | @cons p q ps qs h t ih=>
  obtain⟨h1,_,h2⟩:=h
  by_cases e:p.1=k
  . have e':q.1=k:=h1.symm.trans e
    have b:atKey (q::qs) k=some q.2:=by simp [atKey,List.find?_cons,e']
    rw [zaj e,b];exact h2
  . have e':¬q.1=k:=fun z=>e (h1.trans z)
    have b:atKey (q::qs) k=atKey qs k:=by simp [atKey,List.find?_cons,e']
    rw [zak e,b];exact ih
theorem KT.repl{H:Hp}{kvs:List (List Key×V)}{xs:List (List Key×Addr×Value)}(r:KT H kvs xs)(k:List Key){y:V}{u:Value}(ry:RelV y u) :
 KT H (kvs.map fun kv=>if kv.1=k then(kv.1,y) else kv) (xs.map (putAt k u)):=by
 induction r with
 | nil=>exact .nil
 | @cons p q ps qs h t ih=>
  rw [Ya1,Ya1];refine .cons ?_ ih;obtain⟨h1,h2,h3⟩:=h;unfold putAt
  by_cases e:p.1=k
  . rw [if_pos e,if_pos (h1.symm.trans e)];exact⟨h1,h2,ry⟩
  . rw [if_neg e,if_neg (fun z=>e (h1.trans z))];exact⟨h1,h2,h3⟩
theorem KT.put{H:Hp}{kvs:List (List Key×V)}{xs:List (List Key×Addr×Value)}(r:KT H kvs xs)(k:List Key){b:Addr}{y:V}{u:Value}(hb:H b=some (.tup (k.map kV)))(ry:RelV y u) :
 KT H (putK kvs k y) (storedH xs k b u):=by
 have e:(kvs.any fun kv=>decide (kv.1=k))=(atKey xs k).isSome:=by
  rw [zei,(r.val k).isSome_eq,Option.isSome_map]
 unfold putK storedH;rw [e]
 by_cases q:(atKey xs k).isSome=true
 . rw [if_pos q,if_pos q];exact r.repl k ry
 . rw [if_neg q,if_neg q];exact Paired.snoc r ⟨rfl,hb,ry⟩
theorem KT.keeps{H H':Hp}{kvs:List (List Key×V)}{xs:List (List Key×Addr×Value)}(r:KT H kvs xs)(ht:∀ b ys,H b=some (.tup ys)->H' b=some (.tup ys)):KT H' kvs xs:=
 Paired.mapP r fun _ _ z=>⟨z.1,ht _ _ z.2.1,z.2.2⟩
section
variable{P:Program}{w:World}{H:Hp}{h:Heap}{a:Addr}
theorem zcT{u:HO}(ok:HOk P w H h)(e:Rd H a u):zD P w H h a u:=e.ok ok
theorem zap{kvs:List (Key×V)}(ok:HOk P w H h)(e:Rd H a (.dK kvs)):kvs.length<=sizeLine/\(a==sysModules)=false/\∃ vs,KV kvs vs/\h.DictOf (zW P w) a vs:=
 show zD P w H h a (.dK kvs) from zcT ok e
theorem zeS{kvs:List (Key×V)}(ok:HOk P w H h)(e:H a=some (.dK kvs)):kvs.length<=sizeLine/\(a==sysModules)=false/\∃ vs,KV kvs vs/\h.DictOf (zW P w) a vs:=zap ok (.inl e)
theorem zaJ{ks:List Key}(ok:HOk P w H h)(e:H a=some (.tup (ks.map kV))):(tupleKind (zW P w)).is h ks a:=by
 obtain⟨_,its,r,o,h1,h2,n,h3⟩:=(show zD P w H h a (.tup (ks.map kV)) from ok a _ e)
 exact⟨o,its.toArray,n,h1,h2,h3,by simpa using zep r⟩
theorem zaz{kvs:List (List Key×V)}(ok:HOk P w H h)(e:Rd H a (.dT kvs)):kvs.length<=sizeLine/\(a==sysModules)=false/\
 ∃ xs,KT H kvs xs/\h.DictOfH (tupleKind (zW P w)) a xs:=by
 obtain⟨z,y,xs,r,o,es,ep,h1,h2,h3,h4,h5⟩:=(show zD P w H h a (.dT kvs) from zcT ok e)
 refine⟨z,y,xs,r,o,es,ep,h1,h2,h3,h4,fun x hx=>?_,h5⟩
 have all:∀ {l:List (List Key×V)} {m:List (List Key×Addr×Value)},KT H l m->∀ x∈m,(tupleKind (zW P w)).is h x.1 x.2.1:=by
  intro l m q
  induction q with
  | nil=>intro x hx;exact nomatch hx
  | @cons p q ps qs hq t ih=>
   intro x hx
   rcases Wbo.mp hx with e|hx
   . subst e
     exact zaJ ok (by rw [<-hq.1];exact hq.2.1)
   . exact ih x hx
 exact all r x hx
theorem zmr{kvs:List (List Key×V)}(ok:HOk P w H h)(e:H a=some (.dT kvs)):kvs.length<=sizeLine/\(a==sysModules)=false/\
 ∃ xs,KT H kvs xs/\h.DictOfH (tupleKind (zW P w)) a xs:=zaz ok (.inl e)
end
def DGet(H:Hp)(a:Addr)(y:V)(r:Option V):Prop:=
 (∃ kvs k,Rd H a (.dK kvs)/\y=kV k/\r=valV kvs k)\/∃ kvs k b,Rd H a (.dT kvs)/\y=.ref b/\H b=some (.tup (k.map kV))/\r=valV kvs k
def DPut(H:Hp)(a:Addr)(y v:V)(H':Hp):Prop:=
 (∃ kvs k,H a=some (.dK kvs)/\y=kV k/\kvs.length<sizeLine/\H'=upd H a (.dK (putK kvs k v)))\/
 ∃ kvs k b,H a=some (.dT kvs)/\y=.ref b/\H b=some (.tup (k.map kV))/\kvs.length<sizeLine/\H'=upd H a (.dT (putK kvs k v))
theorem DGet.k{H:Hp}{a:Addr}{kvs:List (Key×V)}{k:Key}(e:H a=some (.dK kvs)):DGet H a (kV k) (valV kvs k):=.inl ⟨kvs,k,.inl e,rfl,rfl⟩
theorem DGet.t{H:Hp}{a b:Addr}{kvs:List (List Key×V)}{k:List Key}(e:H a=some (.dT kvs))(eb:H b=some (.tup (k.map kV))):DGet H a (.ref b) (valV kvs k):=.inr ⟨kvs,k,b,.inl e,rfl,eb,rfl⟩
theorem DPut.k{H:Hp}{a:Addr}{kvs:List (Key×V)}{k:Key}{v:V}(e:H a=some (.dK kvs))(hl:kvs.length<sizeLine):DPut H a (kV k) v (upd H a (.dK (putK kvs k v))):=.inl ⟨kvs,k,e,rfl,hl,rfl⟩
theorem DPut.t{H:Hp}{a b:Addr}{kvs:List (List Key×V)}{k:List Key}{v:V}(e:H a=some (.dT kvs))(eb:H b=some (.tup (k.map kV)))(hl:kvs.length<sizeLine) :
 DPut H a (.ref b) v (upd H a (.dT (putK kvs k v))):=.inr ⟨kvs,k,b,e,rfl,eb,hl,rfl⟩
section
variable{X:Cx}{pins:List (Addr×Obj)}{σ : St}{H:Hp}{s:Shared}{a:Addr}{y v:V}{u r:Value}{o:Option V}{A:Around}{E:Value->Shared->Prop}
theorem Inv.big(I:Inv X pins σ H s):sysModules<s.heap.objs.size:=by
 have h:mainGlobals<s.heap.objs.size:=(I.mod.glob.keeps I.bk).lt;exact Nat.lt_trans #[1] h
theorem znh{Q:Value->Shared->Prop}(hu:A.units+1<cLine)(I:Inv X pins σ H s)(g:DGet H a y (some v))(ry:RelV y u)(h:∀ w' s',Inv X pins σ H s'->RelV v w'->Q w' s') :
 wpAny (model X.prog X.w) A (getItem (.ref a) u) Q E s:=by
 rcases g with ⟨kvs,k,e,ey,l⟩|⟨kvs,k,b,e,ey,eb,l⟩
 . subst ey
   obtain⟨z,hd,vs,rel,dd⟩:=zap I.hok e;obtain⟨w',hw,rw'⟩:=RelO.some_of (v:=v) (o:=valueAt vs k) (by rw [l];exact rel.val k)
   exact wpAny_getItem_of (zaW ry) dd.mapOf hw (h w' _ (I.tok _) rw')
 . subst ey
   cases(show u=Value.ref b from ry)
   obtain⟨z,hd,xs,rel,dd⟩:=zaz I.hok e;obtain⟨w',hw,rw'⟩:=RelO.some_of (v:=v) (o:=(atKey xs k).map (·.2)) (by rw [l];exact rel.val k)
   obtain⟨p,hp,hp2⟩:=YaJ.mp hw;refine wpAny_getItem_heap (tupleKind_room_in1 hu) (zaJ I.hok eb) dd hp ?_;rw [hp2];exact h w' _ (I.tok _) rw'
theorem ze3{h':Heap}{t':Nat}{ob:HO}(I:Inv X pins σ H s)(mu:Mut (H a))(hs:Heap.SameBut a s.heap h')(he:∃ q,h'.get? a=some q)(new:zD X.prog X.w (upd H a ob) h' a ob) :
 Inv X pins σ (upd H a ob) { s with heap:=h',toks:=t' }:=
 I.write (x:=a) (e:=a) mu (.inl rfl) (fun b q hb z=>(hs.2 b hb).trans z) he new
theorem zik{P:Program}{w:World}{H':Hp}{h':Heap}{kvs:List (Key×V)}{vs:List (Key×Value)}(z:kvs.length<=sizeLine)(hd:(a==sysModules)=false)(rel:KV kvs vs)(dd:h'.DictOf (zW P w) a vs) :
 zD P w H' h' a (.dK kvs):=⟨z,hd,vs,rel,dd⟩
theorem zmL{H':Hp}{Q:Unit->Shared->Prop}(hu:A.units+1<cLine)(I:Inv X pins σ H s)(g:DPut H a y v H')(ry:RelV y u)(rv:RelV v r)(h:∀ s',Inv X pins σ H' s'->Q () s') :
 wpAny (model X.prog X.w) A (setItem (.ref a) u r) Q E s:=by
 rcases g with ⟨kvs,k,e,ey,l,eH⟩|⟨kvs,k,b,e,ey,eb,l,eH⟩
 . subst ey eH
   obtain⟨z,hd,vs,rel,dd⟩:=zeS I.hok e;have hz:vs.length<=sizeLine:=by rw [<-rel.length];exact z
   have hl:(putK kvs k v).length<=sizeLine:=by have:=zes kvs k v;omega
   refine wpAny_setItem_pairs (hsz:=hz) (zaW ry) dd fun h' dd' hs=>h _ ?_
   have he:∃ q,h'.get? a=some q:=let ⟨q,_,_,hq,_⟩:=dd';⟨q,hq⟩;exact ze3 I (by rw [e];exact True.intro) hs he (zik hl hd (rel.put k rv) dd')
 . subst ey eH
   cases(show u=Value.ref b from ry)
   obtain⟨z,hd,xs,rel,dd⟩:=zmr I.hok e;have hz:xs.length<=sizeLine:=by rw [<-Paired.length rel];exact z
   have hl:(putK kvs k v).length<=sizeLine:=by have:=zes kvs k v;omega
   refine wpAny_setItem_heap (hsz:=hz) (tupleKind_room_in1 hu) (zaJ I.hok eb) dd fun h' dd' hs=>h _ ?_
   obtain⟨q,es,ep,hq,h2,h3,h4,_,h5⟩:=dd';refine ze3 I (by rw [e];exact True.intro) hs ⟨q,hq⟩ ⟨hl,hd,_,(rel.put k eb rv).keeps fun c ys ec=>?_,q,es,ep,hq,h2,h3,h4,h5⟩
   rw [zh (zkV ec e (fun z=>nomatch z))]
   exact ec
end
section
variable{X:Cx}{pins:List (Addr×Obj)}{σ : St}{H:Hp}{s:Shared}{a:Addr}{kvs:List (Key×V)}{k:Key}{u:Value}{A:Around}{E:Value->Shared->Prop}
end
def NoSl(i:Expr):Prop:=∀ ov iv,subscripted i false ov iv=operate [ov,iv] (getItem ov iv)
theorem znb{prog:Program}{w:World}{A:Around}{E:Value->Shared->Prop}{s:Shared}{env:Env}{value slice:Expr}{pos:Pos}{T id:String}{Q:Value->Shared->Prop}
 (hl:typeLookup (.type T) "__getitem__" = pure (some (.builtin id))) (hs:NoSl slice)
 (h:wpAny (model prog w) A (eval value env) (fun o s₁=>wpAny (model prog w) A (eval slice env) (fun i s₂=>s₂.TypeIs o T/\wpAny (model prog w) A (getItem o i) Q E s₂) E s₁) E s) :
 wpAny (model prog w) A (eval (.Subscript value slice pos) env) Q E s:=by
 refine Subscript_ (wpAny_mono h (fun o s₁ h₁=>wpAny_mono h₁ (fun i s₂ h₂=>?_) fun _ _ x=>x) fun _ _ x=>x)
 obtain⟨hT,h₂⟩:=h₂;unfold subscriptTail;refine wpAny_bind ?_;rw [getitemInPython_of_ne hT.not_modules];refine wpAny_bind (wpAny_specialOf hT hl ?_);have fin:wpAny (model prog w) A (subscripted slice false o i) (fun r s₃=>wpAny (model prog w) A (letTemporaryGo value o r >>= fun _=>pure r) Q E s₃) E s₂:=by
  rw [hs o i];exact wpAny_operating (wpAny_mono h₂ (fun r s₃ h₃=>wpAny_bind (wpAny_letTemporaryGo (wpAny_pure h₃))) fun _ _ x=>x)
 first
  | exact wpAny_pure (wpAny_bind fin)
  | exact wpAny_bind (wpAny_pure (wpAny_bind fin))
  | exact wpAny_bind fin
theorem zhj{X:Cx}{pins:List (Addr×Obj)}{σ : St}{H:Hp}{s:Shared}{a:Addr}{y:V}{o:Option V}(I:Inv X pins σ H s)(g:DGet H a y o):s.TypeIs (.ref a) "dict":=by
 rcases g with ⟨kvs,k,e,_,_⟩|⟨kvs,k,b,e,_,_,_⟩
 . obtain⟨_,_,vs,_,dd⟩:=zap I.hok e
   exact dd.typeIs
 . obtain⟨_,_,xs,_,dd⟩:=zaz I.hok e
   exact dd.typeIs
def zg4(td ty:TE):TE:=fun σ H Q=>td σ H fun x H1=>ty σ H1 fun y H2=>∃ a v,x=.ref a/\DGet H2 a y (some v)/\Q v H2
def zi0(td ty tv:TE):TS:=fun D σ H=>tv σ H fun v H1=>td σ H1 fun x H2=>ty σ H2 fun y H3=>∃ a H4,x=.ref a/\DPut H3 a y v H4/\D.nx σ H4
section
variable{X:Cx}{o i e value:Expr}{pos pos' tpos:Pos}{td ty tv:TE}
theorem zfO(hu:X.A.units+1<cLine)(ho:PE X o td)(hi:PE X i ty)(hs:NoSl i):PE X (.Subscript o i pos) (zg4 td ty):=by
 intro pins s σ H Q I h;refine znb PySem.F.slot_dict_getitem.lookup hs (thn (ho pins s σ H _ I h) fun u s1 ⟨x,H1,I1,rx,q1⟩=>thn (hi pins s1 σ H1 _ I1 q1) fun iv s2 ⟨y,H2,I2,ry,a,v,ex,g,q2⟩=>?_)
 subst ex;obtain rfl:u=Value.ref a:=rx;exact⟨zhj I2 g,znh hu I2 g ry fun w' s3 I3 rw'=>⟨v,H2,I3,rw',q2⟩⟩
theorem ze6(hu:X.A.units+1<cLine)(ho:PE X o td)(hi:PE X i ty)(hv:PE X value tv)(hs:swapsWith value (some (.Subscript o i pos')) pos.line X.env=pure false) :
 PS X (.Assign [.Subscript o i pos'] value pos) (zi0 td ty tv):=by
 intro pins s σ H D I h;refine wpAny_Assign_Subscript (thn (hv pins s σ H _ I h) fun r s1 ⟨v,H1,I1,rv,q1⟩=>thn (ho pins s1 σ H1 _ I1 q1) fun u s2 ⟨x,H2,I2,rx,q2⟩=>thn (hi pins s2 σ H2 _ I2 q2) fun iv s3 ⟨y,H3,I3,ry,a,H4,ex,g,q3⟩=>?_) hs
 subst ex;obtain rfl:u=Value.ref a:=rx;exact zmL hu I3 g ry rv fun s4 I4=>⟨σ,H4,I4,q3⟩
end
theorem zhp{P:Program}{w:World}{H:Hp}(h:Heap)(hb:sysModules<h.objs.size):zD P w H (h.push { cls:=.type "dict", data:=.dict #[] }) h.objs.size (.dK []):=
 ⟨WbG _,beq_eq_false_iff_ne.mpr (WbL (Yaf hb)),[],.nil,Heap.DictOf.new h⟩
theorem zjh{P:Program}{w:World}{H:Hp}(h:Heap)(hb:sysModules<h.objs.size):zD P w H (h.push { cls:=.type "dict", data:=.dict #[] }) h.objs.size (.dT []):=
 ⟨WbG _,beq_eq_false_iff_ne.mpr (WbL (Yaf hb)),[],.nil,_,#[],0,Yan _ rfl,⟨rfl,rfl,rfl⟩,rfl,rfl,List.nodup_nil⟩
def tDNewK:TE:=fun _ H Q=>∀ p,H p=none->Q (.ref p) (upd H p (.dK []))
def tDNewT:TE:=fun _ H Q=>∀ p,H p=none->Q (.ref p) (upd H p (.dT []))
section
variable{X:Cx}{pos:Pos}
theorem zhe:PE X (.Dict [] [] pos) tDNewK:=fun pins s σ H Q I h=>
 wpAny_Dict_empty ⟨.ref s.heap.objs.size,_,I.laid (a:=s.heap.objs.size) (o:=.dK []) (t':=s.toks) (fun _ _ q=>YaW _ q) (YaY _) (zhp s.heap I.big),rfl,h _ (I.hok.fresh (YaY _))⟩
theorem zmN:PE X (.Dict [] [] pos) tDNewT:=fun pins s σ H Q I h=>
 wpAny_Dict_empty ⟨.ref s.heap.objs.size,_,I.laid (a:=s.heap.objs.size) (o:=.dT []) (t':=s.toks) (fun _ _ q=>YaW _ q) (YaY _) (zjh s.heap I.big),rfl,h _ (I.hok.fresh (YaY _))⟩
end
end L2
namespace L3
open PySem PySem.Spec PyProof.Rows L2
variable[LamW]
def getT(ds:List (List Key×D))(k:List Key):Option D:=(ds.find? fun kv=>decide (kv.1=k)).map (·.2)
def putT(ds:List (List Key×D))(k:List Key)(d:D):List (List Key×D):=
 if(ds.any fun kv=>decide (kv.1=k))=true then ds.map (fun kv=>if kv.1=k then(kv.1,d) else kv) else ds++[(k,d)]
theorem zfD{k:List Key}{d:D}{ds:List (List Key×D)}:getT ((k,d)::ds) k=some d:=by simp [getT]
theorem zef{k' k:List Key}{d:D}{ds:List (List Key×D)}(e:¬k'=k):getT ((k',d)::ds) k=getT ds k:=by simp [getT,List.find?_cons,e]
section
variable{K:Ybf}{H0 G0:Hp}{ρ : Env3}{σ : L2.St}{G H:Hp}
theorem Dr.get{kvs:List (List Key×V)}{ds:List (List Key×D)}(r:Dr K H0 G kvs ds){k:List Key}{d:D}(h:getT ds k=some d):∃ v,valV kvs k=some v/\Rf K H0 G true v d:=by
 induction r with
 | nil=>cases h
 | cons a b ih=>
  rename_i k' v' d' kvs' ds'
  by_cases e:k'=k
  . subst e
    rw [zfD] at h;cases h;exact⟨v',zaj rfl,a⟩
  . rw [zef e] at h
    obtain⟨v,h1,h2⟩:=ih h;exact⟨v,by rw [zak e];exact h1,h2⟩
theorem Dr.some{kvs:List (List Key×V)}{ds:List (List Key×D)}(r:Dr K H0 G kvs ds)(k:List Key):(valV kvs k).isSome=(getT ds k).isSome:=by
 induction r with
 | nil=>rfl
 | cons a b ih=>
  rename_i k' v' d' kvs' ds'
  by_cases e:k'=k
  . subst e;rw [zaj rfl,zfD];rfl
  . rw [zak e,zef e];exact ih
theorem Dr.any{kvs:List (List Key×V)}{ds:List (List Key×D)}(r:Dr K H0 G kvs ds)(k:List Key):(kvs.any fun kv=>decide (kv.1=k))=ds.any fun kv=>decide (kv.1=k):=by
 induction r with
 | nil=>rfl
 | cons a b ih=>rw [List.any_cons,List.any_cons,ih]
theorem Dr.snoc{kvs:List (List Key×V)}{ds:List (List Key×D)}(r:Dr K H0 G kvs ds){k:List Key}{v:V}{d:D}(a:Rf K H0 G true v d):Dr K H0 G (kvs++[(k,v)]) (ds++[(k,d)]):=by
 induction r with
 | nil=>exact .cons a .nil
 | cons a b ih=>exact .cons a ih
theorem Dr.repl{kvs:List (List Key×V)}{ds:List (List Key×D)}(r:Dr K H0 G kvs ds){k:List Key}{v:V}{d:D}(a:Rf K H0 G true v d):Dr K H0 G (kvs.map fun kv=>if kv.1=k then(kv.1,v) else kv) (ds.map fun kv=>if kv.1=k then(kv.1,d) else kv):=by
 induction r with
 | nil=>exact .nil
 | cons b c ih=>
  rename_i k' v' d' kvs' ds';rw [Ya1,Ya1]
  by_cases e:k'=k
  . rw [if_pos e,if_pos e];exact .cons a ih
  . rw [if_neg e,if_neg e];exact .cons b ih
theorem Dr.put{kvs:List (List Key×V)}{ds:List (List Key×D)}(r:Dr K H0 G kvs ds){k:List Key}{v:V}{d:D}(a:Rf K H0 G true v d):Dr K H0 G (putK kvs k v) (putT ds k d):=by
 unfold putK putT;rw [r.any]
 split
 . exact r.repl a
 . exact r.snoc a
theorem Dr.length{kvs:List (List Key×V)}{ds:List (List Key×D)}(r:Dr K H0 G kvs ds):kvs.length=ds.length:=by
 induction r with
 | nil=>rfl
 | cons a b ih=>rw [List.length_cons,List.length_cons,ih]
theorem ZK(F:Fr3 K H0 G0 ρ σ G H){i:Nat}{ds:List (List Key×D)}(h:ρ[i]?=.some (.some (.dt ds))):∃ l kvs,σ[i]?=.some (.some (.ref l))/\H l=.some (.dT kvs)/\Dr K H0 G kvs ds/\G l=none:=by
 obtain⟨v,h1,h2⟩:=F.slot i _ h;cases h2 with
 | dt a b c=>exact⟨_,_,h1,a,b,c⟩
end
section
variable{X:Cx}{H0:Hp}{e a b:Expr}{pos:Pos}{x:Str}{i:Nat}
def Zx(i:Nat):TS3:=fun A ρ=>A.nx (ρ.set i (some (.dt [])))
theorem zfB{pos' p:Pos}(hN:X.N.Nodup)(hi:X.N[i]?=some x)(hx:Loc X.env.scope x)(hs:swapsWith (.Dict [] [] p) (some (.Name x pos')) pos.line X.env=pure false:=by rfl)
 (hf:X.fn x=true\/X.env.scope.names.lookup x=some .local:=by first|exact .inl rfl|exact .inr rfl|assumption):PS3 X H0 (.Assign [.Name x pos'] (.Dict [] [] p) pos) (Zx i):=PS.imp (ZD hN hi hx zmN hs hf) fun B σ H=>el7 fun G0 A ρ G F q L=>
 fun p hp=>L.nx _ _ G _ (F.put (zJ hp _).x (.dt zl .nil (F.sub.free hp)) fun a h=>by cases h;exact hp) q
abbrev kk(a b:Int):List Key:=[.inl a,.inl b]
end
end L3
namespace L3
open PySem PySem.W PyProof.Rows
def Ends(lt:Nat->Nat->Bool)(n:Nat){α : Type}(R:α->Prop):KasT α->Prop
 | .ret a=>R a
 | .ask i j k=>i<n/\j<n/\Ends lt n R (k (lt i j))
section
variable{lt:Nat->Nat->Bool}{n:Nat}
theorem Ends.bind{α β : Type}{R:β->Prop}{f:α->KasT β}:∀ {t:KasT α},Ends lt n (fun a=>Ends lt n R (f a)) t->Ends lt n R (t.bind f)
 | .ret _,h=>h
 | .ask _ _ k,h=>⟨h.1,h.2.1,Ends.bind (t:=k _) h.2.2⟩
theorem Ends.mono{α : Type}{R R':α->Prop}(hR:∀ a,R a->R' a):∀ {t:KasT α},Ends lt n R t->Ends lt n R' t
 | .ret a,h=>hR a h
 | .ask _ _ k,h=>⟨h.1,h.2.1,Ends.mono hR (t:=k _) h.2.2⟩
structure Ordr(lt:Nat->Nat->Bool)(n:Nat):Prop where
 tr:∀ i j k,lt i j=true->lt j k=true->lt i k=true
 as:∀ i j,lt i j=true->lt j i=false
 co:∀ i j,i<n->j<n->i≠j->lt i j=true\/lt j i=true
abbrev gp(p:Array Nat)(i:Nat):Nat:=p.getD i 0
def OkP(n:Nat)(p:Array Nat):Prop:=p.toList.Perm (List.range n)
theorem OkP.size{p:Array Nat}(h:OkP n p):p.size=n:=by have:=h.length_eq;simpa using this
theorem zaH{p:Array Nat}{i:Nat}(hi:i<p.size):p[i]?=some (gp p i):=by
 simp [gp,Array.getD,hi]
theorem OkP.below{p:Array Nat}(h:OkP n p){i:Nat}(hi:i<n):gp p i<n:=by
 have hs:=h.size;have e:=zaH (p:=p) (i:=i) #[0]
 have:gp p i∈p.toList:=by
  rw [Array.mem_toList_iff];exact Array.mem_of_getElem? e
 exact Yba.mp (h.mem_iff.mp this)
theorem OkP.inj{p:Array Nat}(h:OkP n p){i j:Nat}(hi:i<n)(hj:j<n)(e:gp p i=gp p j):i=j:=by
 have hs:=h.size;have nd:p.toList.Nodup:=h.nodup_iff.mpr List.nodup_range;have e1:=zaH (p:=p) (i:=i) #[0]
 have e2:=zaH (p:=p) (i:=j) #[0]
 rw [<-Waw] at e1 e2;rw [e] at e1;have hi':i<p.toList.length:=by simpa [hs] using hi
 exact(List.getElem?_inj hi' nd).mp (e1.trans e2.symm)
theorem OkP.perm{p q:Array Nat}(h:OkP n p)(e:q.Perm p):OkP n q:=(Array.perm_iff_toList_perm.mp e).trans h
def SoP(lt:Nat->Nat->Bool)(p:Array Nat)(k:Nat):Prop:=∀ i j,i<j->j<k->lt (gp p i) (gp p j)=true
variable(O:Ordr lt n)
include O
theorem ZQ{p:Array Nat}(h:OkP n p){i j:Nat}(hi:i<n)(hj:j<n)(ne:i≠j)(c:lt (gp p j) (gp p i)=false):lt (gp p i) (gp p j)=true:=by
 rcases O.co _ _ (h.below hi) (h.below hj) (fun e=>ne (h.inj hi hj e)) with q|q
 . exact q
 . rw [q] at c;cases c
end
end L3
namespace L3
open PySem PySem.W PySem.Calls PyProof.Rows
abbrev znV:Bool->Keyed->Array Keyed->Nat->Nat->Nat->StateT SortSt Sem (Option Nat):=sortPriv% PySem.Builtin.gallop
section tim
variable{prog:Program}{w:World}{A:Around}{E:Value->Shared->Prop}{s:Shared}{α β : Type}{st:SortSt}
def WS(prog:Program)(w:World)(A:Around)(E:Value->Shared->Prop)(s:Shared){α : Type}(m:StateT SortSt Sem α)(st:SortSt)(Q:α->SortSt->Prop):Prop:=kasC (model prog w) A E m (fun a st' s'=>s'=s/\Q a st') st s
theorem WS.mono{m:StateT SortSt Sem α}{Q Q':α->SortSt->Prop}(h:WS prog w A E s m st Q)(hq:∀ a st',Q a st'->Q' a st'):WS prog w A E s m st Q':=wpAny_mono h (fun r s' h'=>⟨h'.1,hq _ _ h'.2⟩) fun _ _ e=>e
theorem WS.bnd{m:StateT SortSt Sem α}{f:α->StateT SortSt Sem β}{Q:β->SortSt->Prop}(h:WS prog w A E s m st fun a st'=>WS prog w A E s (f a) st' Q):WS prog w A E s (m >>= f) st Q:=
 kasC_bind (wpAny_mono h (fun r s' h'=>by
  obtain⟨e,h'⟩:=h';subst e;exact h') fun _ _ e=>e)
theorem WS.ret{a:α}{Q:α->SortSt->Prop}(h:Q a st):WS prog w A E s (pure a:StateT SortSt Sem α) st Q:=kasC_pure ⟨rfl,h⟩
theorem WS.gt{Q:SortSt->SortSt->Prop}(h:Q st st):WS prog w A E s (get:StateT SortSt Sem SortSt) st Q:=kasC_get ⟨rfl,h⟩
theorem WS.mdf{f:SortSt->SortSt}{Q:PUnit->SortSt->Prop}(h:Q ⟨⟩ (f st)):WS prog w A E s (modify f:StateT SortSt Sem PUnit) st Q:=kasC_modify ⟨rfl,h⟩
theorem WS.sto{st':SortSt}{Q:PUnit->SortSt->Prop}(h:Q ⟨⟩ st'):WS prog w A E s (set st':StateT SortSt Sem PUnit) st Q:=by
 unfold WS kasC;rw [StateT.run_set];exact wpAny_pure ⟨rfl,h⟩
theorem WS.rl{x:String}{Q:Unit->SortSt->Prop}(h:Q () st):WS prog w A E s (liftM (rule x):StateT SortSt Sem Unit) st Q:=kasC_lift (wpAny_rule ⟨rfl,h⟩)
theorem WS.loop{a b:Nat}{c:β}{f:Nat->β->StateT SortSt Sem (ForInStep β)}{Q:β->SortSt->Prop}(I:Nat->β->SortSt->Prop)(h0:I (b - a) c st)
 (hs:∀ k x c st,I (k+1) c st->WS prog w A E s (f x c) st fun r st'=>match r with|.done c'=>Q c' st'|.yield c'=>I k c' st') (hn:∀ c st,I 0 c st->Q c st):WS prog w A E s (forIn [a:b] c f) st Q:=by
 refine kasC_range ?_
 have go:∀ (k:Nat) (l:List Nat) (c:β) (st:SortSt),l.length=k->I k c st->WS prog w A E s (forIn l c f) st Q:=by
  intro k
  induction k with
  | zero=>
   intro l c st hl hi;cases l with
   | nil=>exact kasC_nil ⟨rfl,hn c st hi⟩
   | cons _ _=>simp at hl
  | succ k ih=>
   intro l c st hl hi;cases l with
   | nil=>simp at hl
   | cons x l=>
    refine kasC_cons (wpAny_mono (hs k x c st hi) (fun r s' h'=>?_) fun _ _ e=>e)
    obtain⟨r,st'⟩:=r;obtain⟨e,h'⟩:=h';cases r with
    | done c'=>exact⟨e,h'⟩
    | yield c'=>
     have e:s'=s:=e;subst e;exact ih l c' st' (by simpa using hl) h'
 exact go _ _ c st (List.length_range' ..) h0
theorem WS.ite{c:Prop}[Decidable c]{x y:StateT SortSt Sem α}{Q:α->SortSt->Prop}(h1:WS prog w A E s x st Q)(h2:WS prog w A E s y st Q):WS prog w A E s (if c then x else y) st Q:=by
 by_cases h:c
 . rw [if_pos h];exact h1
 . rw [if_neg h];exact h2
theorem WS.jp{c:Prop}{dc:Decidable c}(a b:Nat){Q:α->SortSt->Prop}{x:StateT SortSt Sem α}{R:Nat->StateT SortSt Sem α}(h:∀ m,WS prog w A E s (R m) st Q)(hx:x=R a):WS prog w A E s (if c then x else R b) st Q:=by
 by_cases h':c
 . rw [if_pos h',hx];exact h a
 . rw [if_neg h'];exact h b
theorem WS.itec{c:Prop}[Decidable c]{x y:StateT SortSt Sem α}{Q:α->SortSt->Prop}(h1:c->WS prog w A E s x st Q)(h2:¬c->WS prog w A E s y st Q):WS prog w A E s (if c then x else y) st Q:=by
 by_cases h:c
 . rw [if_pos h];exact h1 h
 . rw [if_neg h];exact h2 h
theorem WS.elem{arr:Array Keyed}{i:Nat}{x:Keyed}{Q:Keyed->SortSt->Prop}(h:arr[i]?=some x)(q:Q x st):WS prog w A E s (elem' arr i) st Q:=by
 rw [elem'_eq,h];exact WS.ret q
variable{κ : SortKind}{it:Array Keyed}{lt:Nat->Nat->Bool}{n:Nat}
def ZT(prog:Program)(w:World)(A:Around)(s:Shared)(κ : SortKind)(it:Array Keyed)(lt:Nat->Nat->Bool)(n:Nat):Prop:=∀ i j (C:Bool->Shared->Prop),i<n->j<n->C (lt i j) s->kas_cmp prog w A κ it i j C s
variable(K:ZT prog w A s κ it lt n)
include K
theorem WS.ltq{i j:Nat}{Q:Option Bool->SortSt->Prop}(hk:kindOf st = κ)(hi:i<n)(hj:j<n)(q:Q (some (lt i j)) st):WS prog w A E s (lt' (kas_item it i) (kas_item it j)) st Q:=by
 rw [lt'_eq];refine WS.bnd (WS.gt ?_);rw [hk];refine kasC_bind (kasC_lift (wpAny_attempt (wpAny_mono (K i j (fun c s'=>c=lt i j/\s'=s) hi hj ⟨rfl,rfl⟩) (fun c s' hc=>?_) fun _ _ hF=>hF.elim)))
 obtain⟨rfl,rfl⟩:=hc;exact kasC_pure ⟨rfl,q⟩
omit K in
theorem zz{p:Array Nat}{i:Nat}(h:i<p.size):(p.map (kas_item it))[i]?=some (kas_item it (gp p i)):=by
 rw [WaI,zaH h];rfl
def bey(lt:Nat->Nat->Bool)(left:Bool)(k x:Nat):Bool:=if left=true then lt x k else !(lt k x)
theorem WS.gallop{left:Bool}{k:Nat}{p:Array Nat}{base m hint:Nat}{Q:Option Nat->SortSt->Prop}(hk:kindOf st = κ)(hkn:k<n)(hp:∀ i,i<m->gp p (base+i)<n)(hb:base+m<=p.size)(hh:hint<m)
 (mono:∀ i j,i<=j->j<m->bey lt left k (gp p (base+j))=true->bey lt left k (gp p (base+i))=true)
 (q:∀ h,h<=m->(∀ i,i<h->bey lt left k (gp p (base+i))=true)->(∀ i,h<=i->i<m->bey lt left k (gp p (base+i))=false)->Q (some h) st) :
 WS prog w A E s (znV left (kas_item it k) (p.map (kas_item it)) base m hint) st Q:=by
 have ask:∀ (i:Nat) (st:SortSt) (Q:Option Bool->SortSt->Prop),kindOf st = κ->i<m->Q (some (bey lt left k (gp p (base+i)))) st->WS prog w A E s (do
  let x <-elem' (p.map (kas_item it)) (base+i)
  if left=true then lt' x (kas_item it k) else do
   let r <-lt' (kas_item it k) x
   Pure.pure (r.map (!·))) st Q:=fun i st Q hk hi q=>by
  refine WS.bnd (WS.elem (zz #[0]) ?_)
  unfold bey at q;cases left with
  | true=>exact WS.ltq K hk (hp i hi) hkn q
  | false=>exact WS.bnd (WS.ltq K hk hkn (hp i hi) (WS.ret q))
 have contra:∀ i j,i<=j->j<m->bey lt left k (gp p (base+i))=false->bey lt left k (gp p (base+j))=false:=fun i j hij hj h=>by
  cases e:bey lt left k (gp p (base+j)) with
  | false=>rfl
  | true=>rw [mono i j hij hj e] at h;cases h
 refine WS.bnd ?_
 refine ask hint st _ hk hh ?_
 dsimp only;cases hb0:bey lt left k (gp p (base+hint)) with
 | true=>
  rw [if_pos rfl];refine WS.bnd (WS.mono (WS.loop (Q:=fun(c:Option (Option Nat)×Nat×Nat) st'=>c.1=none/\st=st'/\c.2.1<c.2.2/\c.2.1<m - hint/\bey lt left k (gp p (base+(hint+c.2.1)))=true/\(m - hint<=c.2.2\/hint+c.2.2<m/\bey lt left k (gp p (base+(hint+c.2.2)))=false))
   (fun j (c:Option (Option Nat)×Nat×Nat) st'=>c.1=none/\st=st'/\c.2.1<c.2.2/\c.2.1<m - hint/\bey lt left k (gp p (base+(hint+c.2.1)))=true/\m<=c.2.2+j) ⟨rfl,rfl,#[0],#[0],hb0,#[0]⟩ (fun j x c st' hI=>?_) fun c st' hI=>?_) fun c st' hQ=>?_)
  . obtain⟨r,lastofs,ofs⟩:=c
    obtain⟨h1,rfl,h2,h3,h4,h5⟩:=hI;dsimp only at h1 h2 h3 h4 h5 ⊢;subst h1
    by_cases hc:ofs>=m - hint
    . rw [if_pos hc]
      exact WS.ret ⟨rfl,rfl,h2,h3,h4,.inl hc⟩
    . rw [if_neg hc]
      refine WS.bnd (ask (hint+ofs) st _ hk #[0] ?_)
      dsimp only;cases hb':bey lt left k (gp p (base+(hint+ofs))) with
      | true=>
       rw [if_neg #[1]]
       exact WS.ret ⟨rfl,rfl,#[0],#[0],hb',#[0]⟩
      | false=>
       rw [if_pos #[1]]
       exact WS.ret ⟨rfl,rfl,h2,h3,h4,.inr ⟨#[0],hb'⟩⟩
  . obtain⟨h1,h2,h3,h4,h5,h6⟩:=hI
    exact⟨h1,h2,h3,h4,h5,.inl #[0]⟩
  obtain⟨r,lastofs,ofs⟩:=c;obtain⟨h1,rfl,h2,h3,h4,h5⟩:=hQ;dsimp only at h1 h2 h3 h4 h5 ⊢;subst h1;dsimp only;have hlo:hint+lastofs+1<=hint+min ofs (m - hint):=#[0]
  have hhi:hint+min ofs (m - hint)<=m:=#[0]
  have hlow:∀ i,i<hint+lastofs+1->bey lt left k (gp p (base+i))=true:=fun i hi=>mono i (hint+lastofs) #[0] #[0] h4
  have hupp:∀ i,hint+min ofs (m - hint)<=i->i<m->bey lt left k (gp p (base+i))=false:=fun i hi him=>by
   rcases h5 with h5|⟨h5,h6⟩
   . omega
   . exact contra (hint+ofs) i #[0] him h6
  refine WS.bnd (WS.loop (fun j (c:Option (Option Nat)×Nat×Nat) st'=>c.1=none/\st=st'/\c.2.1<=c.2.2/\c.2.2<=m/\c.2.2<=c.2.1+j/\(∀ i,i<c.2.1->bey lt left k (gp p (base+i))=true)/\∀ i,c.2.2<=i->i<m->bey lt left k (gp p (base+i))=false) ?h0 (fun j x c st' hI=>?hs) fun c st' hI=>?hn)
  case h0=>exact⟨rfl,rfl,hlo,hhi,#[0],hlow,hupp⟩
  case hn=>
   obtain⟨r,lo,hi⟩:=c;obtain⟨h1,rfl,h2,h3,h4,h5,h6⟩:=hI;dsimp only at h1 h2 h3 h4 h5 h6 ⊢;subst h1;exact WS.ret (q hi h3 (fun i hi=>h5 i #[0]) h6)
  case hs=>
   obtain⟨r,lo,hi⟩:=c;obtain⟨h1,rfl,h2,h3,h4,h5,h6⟩:=hI;dsimp only at h1 h2 h3 h4 h5 h6 ⊢;subst h1
   by_cases hc:lo>=hi
   . rw [if_pos hc]
     exact WS.ret (WS.ret (q hi h3 (fun i hi=>h5 i #[0]) h6))
   . rw [if_neg hc]
     refine WS.bnd (ask (lo+(hi - lo)/2) st _ hk #[0] ?_)
     dsimp only;cases hb':bey lt left k (gp p (base+(lo+(hi - lo)/2))) with
     | true=>
      refine WS.ret ⟨rfl,rfl,?_,h3,?_,fun i hi'=>?_,h6⟩
      . omega
      . omega
      . have hi':i<lo+(hi - lo)/2+1:=hi'
        exact mono i _ #[0] #[0] hb'
     | false=>
      refine WS.ret ⟨rfl,rfl,?_,?_,?_,h5,fun i hi' him=>?_⟩
      . omega
      . omega
      . omega
      . have hi':lo+(hi - lo)/2<=i:=hi'
        exact contra _ i hi' him hb'
 | false=>
  rw [if_neg #[1]]
  refine WS.bnd (WS.mono (WS.loop (Q:=fun(c:Option (Option Nat)×Nat×Nat) st'=>c.1=none/\st=st'/\c.2.1<c.2.2/\c.2.1<hint+1/\bey lt left k (gp p (base+(hint - c.2.1)))=false/\(hint+1<=c.2.2\/c.2.2<=hint/\bey lt left k (gp p (base+(hint - c.2.2)))=true))
   (fun j (c:Option (Option Nat)×Nat×Nat) st'=>c.1=none/\st=st'/\c.2.1<c.2.2/\c.2.1<hint+1/\bey lt left k (gp p (base+(hint - c.2.1)))=false/\hint+1<=c.2.2+j) ⟨rfl,rfl,#[0],#[0],hb0,#[0]⟩ (fun j x c st' hI=>?_) fun c st' hI=>?_) fun c st' hQ=>?_)
  . obtain⟨r,lastofs,ofs⟩:=c
    obtain⟨h1,rfl,h2,h3,h4,h5⟩:=hI;dsimp only at h1 h2 h3 h4 h5 ⊢;subst h1
    by_cases hc:ofs>=hint+1
    . rw [if_pos hc]
      exact WS.ret ⟨rfl,rfl,h2,h3,h4,.inl hc⟩
    . rw [if_neg hc]
      refine WS.bnd (ask (hint - ofs) st _ hk #[0] ?_)
      dsimp only;cases hb':bey lt left k (gp p (base+(hint - ofs))) with
      | true=>
       rw [if_pos rfl];exact WS.ret ⟨rfl,rfl,h2,h3,h4,.inr ⟨#[0],hb'⟩⟩
      | false=>
       rw [if_neg #[1]]
       exact WS.ret ⟨rfl,rfl,#[0],#[0],hb',#[0]⟩
  . obtain⟨h1,h2,h3,h4,h5,h6⟩:=hI
    exact⟨h1,h2,h3,h4,h5,.inl #[0]⟩
  obtain⟨r,lastofs,ofs⟩:=c;obtain⟨h1,rfl,h2,h3,h4,h5⟩:=hQ;dsimp only at h1 h2 h3 h4 h5 ⊢;subst h1;dsimp only;have hlo:hint+1 - min ofs (hint+1)<=hint - lastofs:=#[0]
  have hhi:hint - lastofs<=m:=#[0]
  have hlow:∀ i,i<hint+1 - min ofs (hint+1)->bey lt left k (gp p (base+i))=true:=fun i hi=>by
   rcases h5 with h5|⟨h5,h6⟩
   . omega
   . exact mono i (hint - ofs) #[0] #[0] h6
  have hupp:∀ i,hint - lastofs<=i->i<m->bey lt left k (gp p (base+i))=false:=fun i hi him=>contra (hint - lastofs) i hi him h4
  refine WS.bnd (WS.loop (fun j (c:Option (Option Nat)×Nat×Nat) st'=>c.1=none/\st=st'/\c.2.1<=c.2.2/\c.2.2<=m/\c.2.2<=c.2.1+j/\(∀ i,i<c.2.1->bey lt left k (gp p (base+i))=true)/\∀ i,c.2.2<=i->i<m->bey lt left k (gp p (base+i))=false) ?h0 (fun j x c st' hI=>?hs) fun c st' hI=>?hn)
  case h0=>exact⟨rfl,rfl,hlo,hhi,#[0],hlow,hupp⟩
  case hn=>
   obtain⟨r,lo,hi⟩:=c;obtain⟨h1,rfl,h2,h3,h4,h5,h6⟩:=hI;dsimp only at h1 h2 h3 h4 h5 h6 ⊢;subst h1;exact WS.ret (q hi h3 (fun i hi=>h5 i #[0]) h6)
  case hs=>
   obtain⟨r,lo,hi⟩:=c;obtain⟨h1,rfl,h2,h3,h4,h5,h6⟩:=hI;dsimp only at h1 h2 h3 h4 h5 h6 ⊢;subst h1
   by_cases hc:lo>=hi
   . rw [if_pos hc]
     exact WS.ret (WS.ret (q hi h3 (fun i hi=>h5 i #[0]) h6))
   . rw [if_neg hc]
     refine WS.bnd (ask (lo+(hi - lo)/2) st _ hk #[0] ?_)
     dsimp only;cases hb':bey lt left k (gp p (base+(lo+(hi - lo)/2))) with
     | true=>
      refine WS.ret ⟨rfl,rfl,?_,h3,?_,fun i hi'=>?_,h6⟩
      . omega
      . omega
      . have hi':i<lo+(hi - lo)/2+1:=hi'
        exact mono i _ #[0] #[0] hb'
     | false=>
      refine WS.ret ⟨rfl,rfl,?_,?_,?_,h5,fun i hi' him=>?_⟩
      . omega
      . omega
      . omega
      . have hi':lo+(hi - lo)/2<=i:=hi'
        exact contra _ i hi' him hb'
end tim
def mg(lt:Nat->Nat->Bool):List Nat->List Nat->List Nat
 | [],ys=>ys
 | x::xs,[]=>x::xs
 | x::xs,y::ys=>if lt y x=true then y::mg lt (x::xs) ys else x::mg lt xs (y::ys)
termination_by xs ys=>xs.length+ys.length
section
variable{lt:Nat->Nat->Bool}
theorem jv(ys:List Nat):mg lt [] ys=ys:=by rw [mg]
theorem jm(xs:List Nat):mg lt xs []=xs:=by cases xs<;>rw [mg]
theorem ju(x:Nat)(xs:List Nat)(y:Nat)(ys:List Nat):mg lt (x::xs) (y::ys)=if lt y x=true then y::mg lt (x::xs) ys else x::mg lt xs (y::ys):=by rw [mg]
theorem zao:∀ xs ys:List Nat,(mg lt xs ys).Perm (xs++ys)
 | [],ys=>by rw [jv];exact .refl _
 | x::xs,[]=>by rw [jm,Yao]
 | x :: xs, y :: ys => by
  rw [ju]
  split
  . exact((zao (x::xs) ys).cons y).trans List.perm_middle.symm
  . exact(zao xs (y::ys)).cons x
termination_by xs ys=>xs.length+ys.length
theorem zbj{z:Nat}:∀ (xs ys:List Nat),(∀ u∈ys,lt u z=true)->mg lt (xs++[z]) ys=mg lt xs ys++[z]
 | [],[],_=>by rw [List.nil_append,jm,jv];rfl
 | [], y :: ys, h => by
  rw [List.nil_append,ju,if_pos (h y YaV),jv];have:=zbj (z:=z) [] ys fun u hu=>h u (YaT _ hu)
  rw [List.nil_append,jv] at this;rw [this];rfl
 | x::xs,[],_=>by rw [jm,jm]
 | x :: xs, y :: ys, h => by
  rw [List.cons_append,ju,ju]
  split
  . have:=zbj (z:=z) (x::xs) ys fun u hu=>h u (YaT _ hu)
    rw [List.cons_append] at this;rw [this];rfl
  . rw [zbj xs (y::ys) h];rfl
termination_by xs ys=>xs.length+ys.length
theorem zbl{z:Nat}:∀ (xs ys:List Nat),(∀ u∈xs,lt z u=false)->mg lt xs (ys++[z])=mg lt xs ys++[z]
 | [],ys,_=>by rw [jv,jv]
 | x :: xs, [], h => by
  rw [List.nil_append,ju,if_neg (by rw [h x YaV];decide),jm]
  have:=zbl (z:=z) xs [] fun u hu=>h u (YaT _ hu)
  rw [List.nil_append,jm] at this;rw [this];rfl
 | x :: xs, y :: ys, h => by
  rw [List.cons_append,ju,ju]
  split
  . rw [zbl (x::xs) ys h];rfl
  . have:=zbl (z:=z) xs (y::ys) fun u hu=>h u (YaT _ hu)
    rw [List.cons_append] at this;rw [this];rfl
termination_by xs ys=>xs.length+ys.length
abbrev Up(lt:Nat->Nat->Bool)(l:List Nat):Prop:=l.Pairwise fun a b=>lt a b=true
theorem zbq{n:Nat}(O:Ordr lt n):∀ (xs ys:List Nat),(xs++ys).Nodup->(∀ u∈xs++ys,u<n)->Up lt xs->Up lt ys->Up lt (mg lt xs ys)
 | [],ys,_,_,_,h=>by rw [jv];exact h
 | x::xs,[],_,_,h,_=>by rw [jm];exact h
 | x :: xs, y :: ys, nd, hn, hx, hy => by
  have hne:x≠y:=fun e=>by
   have:=(WaQ.mp nd).2.2 x YaV y YaV;exact this e
  rw [ju]
  by_cases c:lt y x=true
  . rw [if_pos c]
    have nd':(x::xs++ys).Nodup:=nd.sublist (List.Sublist.append_left (List.sublist_cons_self _ _) _);refine YaC.mpr ⟨fun u hu=>?_,zbq O (x::xs) ys nd' (fun u hu=>hn u (by simp only [Ya3,Wbo] at hu ⊢;rcases hu with (z|z)|z<;>simp [z])) hx (YaC.mp hy).2⟩
    have hu:=(zao (x::xs) ys).mem_iff.mp hu;simp only [Ya3,Wbo] at hu
    rcases hu with (z|z)|z
    . rw [z];exact c
    . exact O.tr _ _ _ c ((YaC.mp hx).1 u z)
    . exact(YaC.mp hy).1 u z
  . rw [if_neg c]
    have c':lt x y=true:=by
     rcases O.co x y (hn x (by simp)) (hn y (by simp)) hne with z|z
     . exact z
     . exact absurd z c
    have nd':(xs++y::ys).Nodup:=(YaB.mp nd).2;refine YaC.mpr ⟨fun u hu=>?_,zbq O xs (y::ys) nd' (fun u hu=>hn u (YaT _ hu)) (YaC.mp hx).2 hy⟩
    have hu:=(zao xs (y::ys)).mem_iff.mp hu;simp only [Ya3,Wbo] at hu
    rcases hu with z|z|z
    . exact(YaC.mp hx).1 u z
    . rw [z];exact c'
    . exact O.tr _ _ _ c' ((YaC.mp hy).1 u z)
termination_by xs ys=>xs.length+ys.length
theorem Jf(p:Array Nat)(i:Nat):gp p i=p.toList.getD i 0:=by simp [gp]
theorem Z7{p:Array Nat}{i:Nat}(h:i<p.size):p.toList.drop i=gp p i::p.toList.drop (i+1):=by
 rw [Jf,Wah (by simpa using h),YaP,YaQ (by simpa using h)]
 rfl
theorem zbv{p:Array Nat}{i:Nat}(h:i<p.size):p.toList.take (i+1)=p.toList.take i++[gp p i]:=by
 rw [Jf,WaS,YaP,YaQ (by simpa using h)]
 rfl
theorem mg_b{pa pb:Array Nat}{ia ib:Nat}(ha:ia<pa.size)(hb:ib<pb.size)(h:lt (gp pb ib) (gp pa ia)=true):mg lt (pa.toList.drop ia) (pb.toList.drop ib)=gp pb ib::mg lt (pa.toList.drop ia) (pb.toList.drop (ib+1)):=by
 rw [Z7 ha,Z7 hb,ju,if_pos h]
theorem mg_a{pa pb:Array Nat}{ia ib:Nat}(ha:ia<pa.size)(hb:ib<pb.size)(h:lt (gp pb ib) (gp pa ia)=false):mg lt (pa.toList.drop ia) (pb.toList.drop ib)=gp pa ia::mg lt (pa.toList.drop (ia+1)) (pb.toList.drop ib):=by
 rw [Z7 ha,Z7 hb,ju,if_neg (by rw [h];decide)]
theorem zeL{pa pb:Array Nat}{ib:Nat}(hb:ib<pb.size):∀ (k ia:Nat),ia+k<=pa.size->(∀ i,i<k->lt (gp pb ib) (gp pa (ia+i))=false)->mg lt (pa.toList.drop ia) (pb.toList.drop ib)=(pa.extract ia (ia+k)).toList++mg lt (pa.toList.drop (ia+k)) (pb.toList.drop ib)
 | 0,ia,_,_=>by simp
 | k + 1, ia, hk, h => by
  rw [mg_a (ia:=ia) #[0] hb (h 0 #[0]),zeL hb k (ia+1) #[0] fun i hi=>by have:=h (i+1) #[0];rwa [show ia+(i+1)=ia+1+i by omega] at this]
  have e:(pa.extract ia (ia+(k+1))).toList=gp pa ia::(pa.extract (ia+1) (ia+1+k)).toList:=by
   simp only [WaB,List.extract_eq_drop_take];rw [Z7 (p:=pa) (i:=ia) #[0],show ia+(k+1) - ia=k+1 by omega,List.take_succ_cons,show ia+1+k - (ia+1)=k by omega]
  rw [e,show ia+1+k=ia+(k+1) by omega]
  rfl
theorem zcl{pa pb:Array Nat}{ia:Nat}(ha:ia<pa.size):∀ (k ib:Nat),ib+k<=pb.size->(∀ i,i<k->lt (gp pb (ib+i)) (gp pa ia)=true)->mg lt (pa.toList.drop ia) (pb.toList.drop ib)=(pb.extract ib (ib+k)).toList++mg lt (pa.toList.drop ia) (pb.toList.drop (ib+k))
 | 0,ib,_,_=>by simp
 | k + 1, ib, hk, h => by
  rw [mg_b (ib:=ib) ha #[0] (h 0 #[0]),zcl ha k (ib+1) #[0] fun i hi=>by have:=h (i+1) #[0];rwa [show ib+(i+1)=ib+1+i by omega] at this]
  have e:(pb.extract ib (ib+(k+1))).toList=gp pb ib::(pb.extract (ib+1) (ib+1+k)).toList:=by
   simp only [WaB,List.extract_eq_drop_take];rw [Z7 (p:=pb) (i:=ib) #[0],show ib+(k+1) - ib=k+1 by omega,List.take_succ_cons,show ib+1+k - (ib+1)=k by omega]
  rw [e,show ib+1+k=ib+(k+1) by omega]
  rfl
end
abbrev zlf:Array Keyed->Array Keyed->StateT SortSt Sem (Array Keyed):=sortPriv% PySem.Builtin.mergeLo
abbrev zk6:Array Keyed->Array Keyed->StateT SortSt Sem (Array Keyed):=sortPriv% PySem.Builtin.mergeHi
def Stk(st st':SortSt):Prop:=∃ g,st'=SortSt.mk' (kindOf st) (arrOf st) (pendingOf st) g (failedOf st)
theorem Stk.refl(st:SortSt):Stk st st:=⟨gallopOf st,rfl⟩
theorem Stk.kind{st st':SortSt}(h:Stk st st'):kindOf st'=kindOf st:=by obtain⟨g,rfl⟩:=h;rfl
theorem Stk.trans{a b c:SortSt}(h:Stk a b)(h':Stk b c):Stk a c:=by
 obtain⟨g,rfl⟩:=h;obtain⟨g',rfl⟩:=h';exact⟨g',rfl⟩
section
variable{it:Array Keyed}{lt:Nat->Nat->Bool}
def Live(it:Array Keyed)(lt:Nat->Nat->Bool)(pa pb:Array Nat)(out:Array Keyed)(ia ib:Nat):Prop:=∃ po:Array Nat,out=po.map (kas_item it)/\po.toList++mg lt (pa.toList.drop ia) (pb.toList.drop ib)=mg lt pa.toList pb.toList
def FinM(it:Array Keyed)(lt:Nat->Nat->Bool)(pa pb:Array Nat)(r:Array Keyed):Prop:=∃ po:Array Nat,r=po.map (kas_item it)/\po.toList=mg lt pa.toList pb.toList
variable{pa pb:Array Nat}{out:Array Keyed}{ia ib:Nat}
theorem Live.b(h:Live it lt pa pb out ia ib)(ha:ia<pa.size)(hb:ib<pb.size)(c:lt (gp pb ib) (gp pa ia)=true):Live it lt pa pb (out.push (kas_item it (gp pb ib))) ia (ib+1):=by
 obtain⟨po,rfl,e⟩:=h;refine⟨po.push (gp pb ib),by rw [Array.map_push],?_⟩
 rw [<-e,mg_b ha hb c,WaT,Yag];rfl
theorem Live.a(h:Live it lt pa pb out ia ib)(ha:ia<pa.size)(hb:ib<pb.size)(c:lt (gp pb ib) (gp pa ia)=false):Live it lt pa pb (out.push (kas_item it (gp pa ia))) (ia+1) ib:=by
 obtain⟨po,rfl,e⟩:=h;refine⟨po.push (gp pa ia),by rw [Array.map_push],?_⟩
 rw [<-e,mg_a ha hb c,WaT,Yag];rfl
theorem Live.as(h:Live it lt pa pb out ia ib){k:Nat}(ha:ia+k<=pa.size)(hb:ib<pb.size)(c:∀ i,i<k->lt (gp pb ib) (gp pa (ia+i))=false):Live it lt pa pb (out++(pa.map (kas_item it)).extract ia (ia+k)) (ia+k) ib:=by
 obtain⟨po,rfl,e⟩:=h;refine⟨po++pa.extract ia (ia+k),by rw [Wa8,Yaq],?_⟩
 rw [<-e,zeL hb k ia ha c,Yar,Yag]
theorem Live.bs(h:Live it lt pa pb out ia ib){k:Nat}(ha:ia<pa.size)(hb:ib+k<=pb.size)(c:∀ i,i<k->lt (gp pb (ib+i)) (gp pa ia)=true):Live it lt pa pb (out++(pb.map (kas_item it)).extract ib (ib+k)) ia (ib+k):=by
 obtain⟨po,rfl,e⟩:=h;refine⟨po++pb.extract ib (ib+k),by rw [Wa8,Yaq],?_⟩
 rw [<-e,zcl ha k ib hb c,Yar,Yag]
theorem zaq(p:Array Nat)(i:Nat):(p.extract i).toList=p.toList.drop i:=by
 simp only [WaB,List.extract_eq_drop_take];exact Was (by simp)
theorem Live.done(h:Live it lt pa pb out ia ib)(e0:ia=pa.size\/ib=pb.size):FinM it lt pa pb (out++(pa.map (kas_item it)).extract ia pa.size++(pb.map (kas_item it)).extract ib pb.size):=by
 obtain⟨po,rfl,e⟩:=h;refine⟨po++pa.extract ia++pb.extract ib,by rw [Wa8,Wa8,Yaq,Yaq],?_⟩
 rw [<-e,Yar,Yar,zaq,zaq,Yag]
 congr 1
 rcases e0 with rfl|rfl
 . rw [Wat (by simp),jv];rfl
 . rw [Wat (by simp:pb.toList.length<=pb.size),jm,Yao]
theorem Live.last(h:Live it lt pa pb out ia ib)(e0:ia+1=pa.size)(hb:ib<=pb.size)(c:∀ j,j<pb.size->lt (gp pb j) (gp pa (pa.size - 1))=true):FinM it lt pa pb (out++(pb.map (kas_item it)).extract ib pb.size++(pa.map (kas_item it)).extract ia pa.size):=by
 obtain⟨po,rfl,e⟩:=h;refine⟨po++pb.extract ib++pa.extract ia,by rw [Wa8,Wa8,Yaq,Yaq],?_⟩
 rw [<-e,Yar,Yar,zaq,zaq,Yag]
 congr 1
 rw [zcl (pa:=pa) (pb:=pb) (ia:=ia) #[0] (pb.size - ib) ib #[0] fun i hi=>by have:=c (ib+i) #[0];rwa [show pa.size - 1=ia by omega] at this]
 rw [show ib+(pb.size - ib)=pb.size by omega,zaq,Wat (by simp:pb.toList.length<=pb.size),jm]
end
theorem Stk.gal{a b:SortSt}{g:Nat}(h:Stk a b):Stk a (SortSt.mk' (kindOf b) (arrOf b) (pendingOf b) g (failedOf b)):=by obtain⟨g',rfl⟩:=h;exact⟨g,rfl⟩
theorem up_b{lt:Nat->Nat->Bool}{n:Nat}{pb:Array Nat}{k ib:Nat}(O:Ordr lt n)(ub:∀ i j,i<j->j<pb.size->lt (gp pb i) (gp pb j)=true){i j:Nat}(hij:i<=j)(hj:ib+j<pb.size)(h:bey lt true k (gp pb (ib+j))=true):bey lt true k (gp pb (ib+i))=true:=by
 unfold bey at h ⊢;rw [if_pos rfl] at h ⊢
 by_cases e:i=j
 . rw [e];exact h
 . exact O.tr _ _ _ (ub _ _ #[0] hj) h
theorem up_a{lt:Nat->Nat->Bool}{n:Nat}{pa:Array Nat}{k ia:Nat}(O:Ordr lt n)(ua:∀ i j,i<j->j<pa.size->lt (gp pa i) (gp pa j)=true){i j:Nat}(hij:i<=j)(hj:ia+j<pa.size)(h:bey lt false k (gp pa (ia+j))=true):bey lt false k (gp pa (ia+i))=true:=by
 unfold bey at h ⊢;rw [if_neg #[1]] at h ⊢
 by_cases e:i=j
 . rw [e];exact h
 . cases c:lt k (gp pa (ia+i)) with
   | false=>rfl
   | true=>
    rw [O.tr _ _ _ c (ua _ _ (show ia+i<ia+j by omega) hj)] at h
    cases h
section tim
variable{prog:Program}{w:World}{A:Around}{E:Value->Shared->Prop}{s:Shared}{α β : Type}{st:SortSt}{κ : SortKind}{it:Array Keyed}{lt:Nat->Nat->Bool}{n:Nat}
variable(K:ZT prog w A s κ it lt n)(O:Ordr lt n)
include K O
theorem WS.mergeLo{pa pb:Array Nat}{Q:Array Keyed->SortSt->Prop}(hk:kindOf st = κ)(ha:∀ i,i<pa.size->gp pa i<n)(hb:∀ i,i<pb.size->gp pb i<n)(ua:∀ i j,i<j->j<pa.size->lt (gp pa i) (gp pa j)=true)(ub:∀ i j,i<j->j<pb.size->lt (gp pb i) (gp pb j)=true)
 (h1:1<=pa.size) (h2:1<=pb.size) (h3:lt (gp pb 0) (gp pa 0)=true) (h4:∀ j,j<pb.size->lt (gp pb j) (gp pa (pa.size - 1))=true) (q:∀ r st',Stk st st'->FinM it lt pa pb r->Q r st') :
 WS prog w A E s (zlf (pa.map (kas_item it)) (pb.map (kas_item it))) st Q:=by
 have sza:(pa.map (kas_item it)).size=pa.size:=Wbl ..;have szb:(pb.map (kas_item it)).size=pb.size:=Wbl ..;refine WS.bnd (WS.rl ?_);refine WS.bnd (WS.elem (zz #[0]) ?_)
 have L0:Live it lt pa pb #[kas_item it (gp pb 0)] 0 1:=(show Live it lt pa pb #[] 0 0 from⟨#[],by simp,by simp⟩).b #[0] #[0] h3
 dsimp only;simp only [sza,szb]
 by_cases c1:1=pb.size
 . rw [if_pos (by simp [<-c1])]
   exact WS.ret (q _ _ (.refl _) (L0.done (.inr c1)))
 rw [if_neg #[6]]
 by_cases c2:0+1=pa.size
 . rw [if_pos #[6]]
   exact WS.ret (q _ _ (.refl _) (L0.last #[0] #[0] h4))
 rw [if_neg #[6]]
 refine WS.bnd (WS.gt ?_)
 try dsimp only
 refine WS.bnd (WS.mono (WS.loop (Q:=fun(c:Option (Array Keyed)×Array Keyed×Nat×Nat×Nat) st'=>∃ r,c.1=some r/\Stk st st'/\FinM it lt pa pb r)
  (fun j (c:Option (Array Keyed)×Array Keyed×Nat×Nat×Nat) st'=>c.1=none/\Stk st st'/\Live it lt pa pb c.2.1 c.2.2.1 c.2.2.2.1/\c.2.2.1+1<pa.size/\c.2.2.2.1<pb.size/\(pa.size - c.2.2.1)+(pb.size - c.2.2.2.1)<=j) ⟨rfl,.refl _,L0,#[0],#[0],#[0]⟩ (fun j x c st' hI=>?_) fun c st' hI=>?_) fun c st' hQ=>?_)
 case refine_2=>
  obtain⟨h0,S,L,la,lb,lm⟩:=hI
  omega
 case refine_3=>
  obtain⟨r,out,ia,ib,mgal⟩:=c;obtain⟨r',h0,S,F⟩:=hQ;have h0:r=some r':=h0;subst h0;exact WS.ret (q r' st' S F)
 obtain⟨r0,out,ia,ib,mgal⟩:=c;obtain⟨h0,S,L,la,lb,lm⟩:=hI;dsimp only at h0 L la lb lm ⊢;subst h0;refine WS.bnd (WS.mono (WS.loop (Q:=fun(c:Option (Array Keyed)×Array Keyed×Nat×Nat×Nat×Nat) st2=>st'=st2/\((∃ r,c.1=some r/\FinM it lt pa pb r)\/(c.1=none/\Live it lt pa pb c.2.1 c.2.2.1 c.2.2.2.1/\c.2.2.1+1<pa.size/\c.2.2.2.1<pb.size/\(pa.size - c.2.2.1)+(pb.size - c.2.2.2.1)<(pa.size - ia)+(pb.size - ib))))
  (fun i (c:Option (Array Keyed)×Array Keyed×Nat×Nat×Nat×Nat) st2=>st'=st2/\c.1=none/\Live it lt pa pb c.2.1 c.2.2.1 c.2.2.2.1/\c.2.2.1+1<pa.size/\c.2.2.2.1<pb.size/\(pa.size - c.2.2.1)+(pb.size - c.2.2.2.1)<=(pa.size - ia)+(pb.size - ib)/\(i<pa.size+pb.size->(pa.size - c.2.2.1)+(pb.size - c.2.2.2.1)<(pa.size - ia)+(pb.size - ib))) ⟨rfl,rfl,L,la,lb,YaY _,fun h=>absurd h #[0]⟩ (fun i x c st2 hI=>?_) fun c st2 hI=>?_) fun c st2 hQ=>?_)
 case refine_2=>
  obtain⟨e,h0,L,la,lb,lm1,lm2⟩:=hI;exact⟨e,.inr ⟨h0,L,la,lb,lm2 #[0]⟩⟩
 case refine_1=>
  obtain⟨r0,out1,ia1,ib1,ac,bc⟩:=c;obtain⟨e,h0,L,la,lb,lm1,lm2⟩:=hI;dsimp only at h0 L la lb lm1 lm2 ⊢;subst e h0;refine WS.bnd (WS.elem (zz #[0]) ?_)
  refine WS.bnd (WS.elem (zz #[0]) ?_)
  refine WS.bnd (WS.ltq K (S.kind.trans hk) (hb _ #[0]) (ha _ #[0]) ?_)
  dsimp only;cases hc:lt (gp pb ib1) (gp pa ia1) with
  | true=>
   rw [if_pos rfl];refine WS.bnd (WS.elem (zz #[0]) ?_)
   have L1:=L.b #[0] lb hc
   by_cases c4:ib1+1=pb.size
   . rw [if_pos #[6]]
     exact WS.ret ⟨rfl,.inl ⟨_,rfl,L1.done (.inr c4)⟩⟩
   rw [if_neg #[6]]
   refine WS.ite ?_ ?_
   . exact WS.ret ⟨rfl,.inr ⟨rfl,L1,la,#[0],#[0]⟩⟩
   . exact WS.ret ⟨rfl,rfl,L1,la,#[0],#[0],fun _=>by omega⟩
  | false=>
   rw [if_neg #[1]]
   refine WS.bnd (WS.elem (zz #[0]) ?_)
   have L1:=L.a #[0] lb hc
   by_cases c4:ia1+1+1=pa.size
   . rw [if_pos #[6]]
     exact WS.ret ⟨rfl,.inl ⟨_,rfl,L1.last #[0] #[0] h4⟩⟩
   rw [if_neg #[6]]
   refine WS.ite ?_ ?_
   . exact WS.ret ⟨rfl,.inr ⟨rfl,L1,#[0],lb,#[0]⟩⟩
   . exact WS.ret ⟨rfl,rfl,L1,#[0],lb,#[0],fun _=>by omega⟩
 obtain⟨r1,out1,ia1,ib1,ac,bc⟩:=c;obtain⟨e,hQ⟩:=hQ;subst e
 rcases hQ with ⟨r,h0,F⟩|⟨h0,L1,la1,lb1,lm1⟩
 . have h0:r1=some r:=h0
   subst h0;exact WS.ret ⟨r,rfl,S,F⟩
 dsimp only at h0 L1 la1 lb1 lm1 ⊢;subst h0;dsimp only;refine WS.bnd (WS.rl ?_);refine WS.bnd (WS.mono (WS.loop (Q:=fun(c:Option (Array Keyed)×Array Keyed×Nat×Nat×Nat×Nat×Nat) st3=>Stk st st3/\((∃ r,c.1=some r/\FinM it lt pa pb r)\/(c.1=none/\Live it lt pa pb c.2.1 c.2.2.1 c.2.2.2.1/\c.2.2.1+1<pa.size/\c.2.2.2.1<pb.size/\(pa.size - c.2.2.1)+(pb.size - c.2.2.2.1)<=(pa.size - ia1)+(pb.size - ib1))))
  (fun i (c:Option (Array Keyed)×Array Keyed×Nat×Nat×Nat×Nat×Nat) st3=>Stk st st3/\c.1=none/\Live it lt pa pb c.2.1 c.2.2.1 c.2.2.2.1/\c.2.2.1+1<pa.size/\c.2.2.2.1<pb.size/\(pa.size - c.2.2.1)+(pb.size - c.2.2.2.1)<=(pa.size - ia1)+(pb.size - ib1)) ⟨S,rfl,L1,la1,lb1,YaY _⟩ (fun i x c st3 hI=>?_) fun c st3 hI=>⟨hI.1,.inr hI.2⟩) fun c st3 hQ=>?_)
 case refine_2=>
  obtain⟨r2,out2,ia2,ib2,mg2,ac2,bc2⟩:=c;obtain⟨S2,hQ⟩:=hQ
  rcases hQ with ⟨r,h0,F⟩|⟨h0,L2,la2,lb2,lm2⟩
  . have h0:r2=some r:=h0
    subst h0;exact WS.ret ⟨r,rfl,S2,F⟩
  dsimp only at h0 L2 la2 lb2 lm2 ⊢;subst h0;dsimp only;refine WS.bnd (WS.mdf (WS.ret ?_));exact⟨rfl,S2.gal,L2,la2,lb2,#[0]⟩
 obtain⟨r2,out,ia,ib,mg2,ac2,bc2⟩:=c;obtain⟨S2,h0,L,la,lb,lm2⟩:=hI;dsimp only at h0 L la lb lm2 ⊢;subst h0
 apply WS.jp (mg2 - 1) mg2
 case hx=>rfl
 intro mg3;refine WS.bnd (WS.mdf ?_);have S3:=S2.gal (g:=mg3);refine WS.bnd (WS.elem (zz #[0]) ?_)
 refine WS.bnd (WS.gallop K (S3.kind.trans hk) (hb _ #[0]) (fun i hi=>ha _ #[0]) #[0] #[0] (fun i j hij hj hbt=>?_) fun k1 hk1 g1 g2=>?_)
 . exact up_a O ua hij #[0] hbt
 dsimp only;have hx1:ia+k1<pa.size->lt (gp pb ib) (gp pa (ia+k1))=true:=fun z=>by
  have:=g2 k1 (YaY _) #[0]
  unfold bey at this
  simpa using this
 have g1':∀ i,i<k1->lt (gp pb ib) (gp pa (ia+i))=false:=fun i hi=>by
  have:=g1 i hi;unfold bey at this
  simpa using this
 by_cases c1:k1 > 0
 . rw [if_pos c1]
   have L1:=L.as (k:=k1) #[0] lb g1'
   by_cases c2:ia+k1+1=pa.size
   . rw [if_pos #[6]]
     exact WS.ret ⟨S3,.inl ⟨_,rfl,L1.last #[0] #[0] h4⟩⟩
   rw [if_neg #[6]]
   by_cases c3:ia+k1=pa.size
   . rw [if_pos #[6]]
     exact WS.ret ⟨S3,.inl ⟨_,rfl,L1.done (.inl c3)⟩⟩
   rw [if_neg #[6]]
   refine WS.bnd (WS.elem (zz #[0]) ?_)
   have L2:=L1.b #[0] #[0] (hx1 #[0])
   by_cases c4:ib+1=pb.size
   . rw [if_pos #[6]]
     exact WS.ret ⟨S3,.inl ⟨_,rfl,L2.done (.inr c4)⟩⟩
   rw [if_neg #[6]]
   refine WS.bnd (WS.elem (zz #[0]) ?_)
   refine WS.bnd (WS.gallop K (S3.kind.trans hk) (ha _ #[0]) (fun i hi=>hb _ #[0]) #[0] #[0] (fun i j hij hj hbt=>?_) fun k2 hk2 g1 g2=>?_)
   . exact up_b O ub hij #[0] hbt
   dsimp only;have hx2:ib+1+k2<pb.size->lt (gp pb (ib+1+k2)) (gp pa (ia+k1))=false:=fun z=>g2 k2 (YaY _) #[0]
   by_cases c6:k2 > 0
   . rw [if_pos c6]
     have L3':=L2.bs (k:=k2) #[0] #[0] g1
     by_cases c7:ib+1+k2=pb.size
     . rw [if_pos #[6]]
       exact WS.ret ⟨S3,.inl ⟨_,rfl,L3'.done (.inr c7)⟩⟩
     rw [if_neg #[6]]
     refine WS.bnd (WS.elem (zz #[0]) ?_)
     have L4:=L3'.a #[0] #[0] (hx2 #[0])
     by_cases c5:ia+k1+1+1=pa.size
     . rw [if_pos #[6]]
       exact WS.ret ⟨S3,.inl ⟨_,rfl,L4.last #[0] #[0] h4⟩⟩
     rw [if_neg #[6]]
     refine WS.ite ?_ ?_
     . exact WS.ret ⟨S3,.inr ⟨rfl,L4,#[0],#[0],#[0]⟩⟩
     . exact WS.ret ⟨S3,rfl,L4,#[0],#[0],#[0]⟩
   . rw [if_neg c6]
     have c6:k2=0:=#[0]
     subst c6;have hx2:ib+1<pb.size->lt (gp pb (ib+1)) (gp pa (ia+k1))=false:=hx2;refine WS.bnd (WS.elem (zz #[0]) ?_)
     have L4:=L2.a #[0] #[0] (hx2 #[0])
     by_cases c5:ia+k1+1+1=pa.size
     . rw [if_pos #[6]]
       exact WS.ret ⟨S3,.inl ⟨_,rfl,L4.last #[0] #[0] h4⟩⟩
     rw [if_neg #[6]]
     refine WS.ite ?_ ?_
     . exact WS.ret ⟨S3,.inr ⟨rfl,L4,#[0],#[0],#[0]⟩⟩
     . exact WS.ret ⟨S3,rfl,L4,#[0],#[0],#[0]⟩
 . rw [if_neg c1]
   have c1:k1=0:=#[0]
   subst c1;have hx1:ia<pa.size->lt (gp pb ib) (gp pa ia)=true:=hx1;refine WS.bnd (WS.elem (zz #[0]) ?_)
   have L2:=L.b #[0] #[0] (hx1 #[0])
   by_cases c4:ib+1=pb.size
   . rw [if_pos #[6]]
     exact WS.ret ⟨S3,.inl ⟨_,rfl,L2.done (.inr c4)⟩⟩
   rw [if_neg #[6]]
   refine WS.bnd (WS.elem (zz #[0]) ?_)
   refine WS.bnd (WS.gallop K (S3.kind.trans hk) (ha _ #[0]) (fun i hi=>hb _ #[0]) #[0] #[0] (fun i j hij hj hbt=>?_) fun k2 hk2 g1 g2=>?_)
   . exact up_b O ub hij #[0] hbt
   dsimp only;have hx2:ib+1+k2<pb.size->lt (gp pb (ib+1+k2)) (gp pa (ia))=false:=fun z=>g2 k2 (YaY _) #[0]
   by_cases c6:k2 > 0
   . rw [if_pos c6]
     have L3':=L2.bs (k:=k2) #[0] #[0] g1
     by_cases c7:ib+1+k2=pb.size
     . rw [if_pos #[6]]
       exact WS.ret ⟨S3,.inl ⟨_,rfl,L3'.done (.inr c7)⟩⟩
     rw [if_neg #[6]]
     refine WS.bnd (WS.elem (zz #[0]) ?_)
     have L4:=L3'.a #[0] #[0] (hx2 #[0])
     by_cases c5:ia+1+1=pa.size
     . rw [if_pos #[6]]
       exact WS.ret ⟨S3,.inl ⟨_,rfl,L4.last #[0] #[0] h4⟩⟩
     rw [if_neg #[6]]
     refine WS.ite ?_ ?_
     . exact WS.ret ⟨S3,.inr ⟨rfl,L4,#[0],#[0],#[0]⟩⟩
     . exact WS.ret ⟨S3,rfl,L4,#[0],#[0],#[0]⟩
   . rw [if_neg c6]
     have c6:k2=0:=#[0]
     subst c6;have hx2:ib+1<pb.size->lt (gp pb (ib+1)) (gp pa (ia))=false:=hx2;refine WS.bnd (WS.elem (zz #[0]) ?_)
     have L4:=L2.a #[0] #[0] (hx2 #[0])
     by_cases c5:ia+1+1=pa.size
     . rw [if_pos #[6]]
       exact WS.ret ⟨S3,.inl ⟨_,rfl,L4.last #[0] #[0] h4⟩⟩
     rw [if_neg #[6]]
     refine WS.ite ?_ ?_
     . exact WS.ret ⟨S3,.inr ⟨rfl,L4,#[0],#[0],#[0]⟩⟩
     . exact WS.ret ⟨S3,rfl,L4,#[0],#[0],#[0]⟩
end tim
section
variable{it:Array Keyed}{lt:Nat->Nat->Bool}
def LivH(it:Array Keyed)(lt:Nat->Nat->Bool)(pa pb:Array Nat)(out:Array Keyed)(na nb:Nat):Prop:=∃ po:Array Nat,out=po.map (kas_item it)/\mg lt (pa.toList.take na) (pb.toList.take nb)++po.toList.reverse=mg lt pa.toList pb.toList
variable{pa pb:Array Nat}{out:Array Keyed}{na nb n:Nat}
theorem zcP{p:Array Nat}{m x:Nat}(h:x∈p.toList.take m):∃ i,i<m/\i<p.size/\x=gp p i:=by
 obtain⟨i,hi,e⟩:=Yam h;rw [Wa5] at hi;have h1:i<p.size:=by have:=YaU hi (Nat.min_le_right _ _);simpa using this
 refine⟨i,YaU hi (Nat.min_le_left _ _),h1,?_⟩
 rw [<-e,List.getElem_take,Jf,YaP,YaQ (by simpa using h1)]
 rfl
theorem LivH.a(O:Ordr lt n)(ub:∀ i j,i<j->j<pb.size->lt (gp pb i) (gp pb j)=true)(h:LivH it lt pa pb out (na+1) nb)(ha:na<pa.size)(hb:nb<=pb.size)(c:nb≠0->lt (gp pb (nb - 1)) (gp pa na)=true):LivH it lt pa pb (out.push (kas_item it (gp pa na))) na nb:=by
 obtain⟨po,rfl,e⟩:=h;refine⟨po.push (gp pa na),by rw [Array.map_push],?_⟩
 rw [<-e,zbv ha,zbj,WaT,List.reverse_append,Yag]
 . rfl
 intro u hu;obtain⟨i,hi,hi2,rfl⟩:=zcP hu
 by_cases z:i=nb - 1
 . rw [z];exact c #[0]
 . exact O.tr _ _ _ (ub _ _ #[0] #[0]) (c #[0])
theorem LivH.b(O:Ordr lt n)(ua:∀ i j,i<j->j<pa.size->lt (gp pa i) (gp pa j)=true)(h:LivH it lt pa pb out na (nb+1))(ha:na<=pa.size)(hb:nb<pb.size)(c:na≠0->lt (gp pb nb) (gp pa (na - 1))=false):LivH it lt pa pb (out.push (kas_item it (gp pb nb))) na nb:=by
 obtain⟨po,rfl,e⟩:=h;refine⟨po.push (gp pb nb),by rw [Array.map_push],?_⟩
 rw [<-e,zbv hb,zbl,WaT,List.reverse_append,Yag]
 . rfl
 intro u hu;obtain⟨i,hi,hi2,rfl⟩:=zcP hu
 by_cases z:i=na - 1
 . rw [z];exact c #[0]
 . cases e:lt (gp pb nb) (gp pa i) with
   | false=>rfl
   | true=>
    have:=O.tr _ _ _ e (ua i (na - 1) #[0] #[0])
    rw [c #[0]] at this;cases this
theorem zfA(p:Array Nat){i m:Nat}(h1:i<m)(h2:m<=p.size):(p.extract i m).reverse = #[gp p (m - 1)]++(p.extract i (m - 1)).reverse:=by
 apply Array.ext'
 simp only [Array.toList_reverse,Yar,WaB,List.extract_eq_drop_take];have e:(List.drop i p.toList).take (m - i)=(List.drop i p.toList).take (m - 1 - i)++[gp p (m - 1)]:=by
  rw [show m - i=(m - 1 - i)+1 by omega,WaS,List.getElem?_drop,show i+(m - 1 - i)=m - 1 by omega,Jf,YaP,YaQ #[6]]
  rfl
 rw [e,List.reverse_append];rfl
theorem ze9(p:Array Keyed)(i:Nat):p.extract i i = #[]:=by
 apply Array.ext';simp
theorem LivH.as(O:Ordr lt n)(ub:∀ i j,i<j->j<pb.size->lt (gp pb i) (gp pb j)=true):∀ (k:Nat) {out:Array Keyed} {na:Nat},LivH it lt pa pb out (na+k) nb->na+k<=pa.size->nb<=pb.size->nb≠0->(∀ i,na<=i->i<na+k->lt (gp pb (nb - 1)) (gp pa i)=true)->LivH it lt pa pb (out++((pa.map (kas_item it)).extract na (na+k)).reverse) na nb
 | 0, out, na, h, _, _, _, _ => by
  rw [Nat.add_zero,ze9]
  simpa using h
 | k + 1, out, na, h, ha, hb, h0, c => by
  have h1:=LivH.a O ub (na:=na+k) h #[0] hb fun _=>c (na+k) #[0] #[0]
  have h2:=LivH.as O ub k h1 #[0] hb h0 fun i h1 h2=>c i h1 #[0]
  have e:((pa.map (kas_item it)).extract na (na+(k+1))).reverse = #[kas_item it (gp pa (na+k))]++((pa.map (kas_item it)).extract na (na+k)).reverse:=by
   have:=congrArg (Array.map (kas_item it)) (zfA pa (i:=na) (m:=na+(k+1)) #[0] #[0])
   rw [Wa8,WaU,WaU,Yaq,Yaq] at this
   simpa using this
  rw [e,<-WaF];exact h2
theorem LivH.bs(O:Ordr lt n)(ua:∀ i j,i<j->j<pa.size->lt (gp pa i) (gp pa j)=true):∀ (k:Nat) {out:Array Keyed} {nb:Nat},LivH it lt pa pb out na (nb+k)->nb+k<=pb.size->na<=pa.size->na≠0->(∀ i,nb<=i->i<nb+k->lt (gp pb i) (gp pa (na - 1))=false)->LivH it lt pa pb (out++((pb.map (kas_item it)).extract nb (nb+k)).reverse) na nb
 | 0, out, nb, h, _, _, _, _ => by
  rw [Nat.add_zero,ze9]
  simpa using h
 | k + 1, out, nb, h, hb, ha, h0, c => by
  have h1:=LivH.b O ua (nb:=nb+k) h ha #[0] fun _=>c (nb+k) #[0] #[0]
  have h2:=LivH.bs O ua k h1 #[0] ha h0 fun i h1 h2=>c i h1 #[0]
  have e:((pb.map (kas_item it)).extract nb (nb+(k+1))).reverse = #[kas_item it (gp pb (nb+k))]++((pb.map (kas_item it)).extract nb (nb+k)).reverse:=by
   have:=congrArg (Array.map (kas_item it)) (zfA pb (i:=nb) (m:=nb+(k+1)) #[0] #[0])
   rw [Wa8,WaU,WaU,Yaq,Yaq] at this
   simpa using this
  rw [e,<-WaF];exact h2
theorem LivH.a1(O:Ordr lt n)(ub:∀ i j,i<j->j<pb.size->lt (gp pb i) (gp pb j)=true)(h:LivH it lt pa pb out na nb)(h0:na≠0)(ha:na<=pa.size)(hb:nb<=pb.size)(c:nb≠0->lt (gp pb (nb - 1)) (gp pa (na - 1))=true):LivH it lt pa pb (out.push (kas_item it (gp pa (na - 1)))) (na - 1) nb:=by
 obtain⟨m,rfl⟩:∃ m,na=m+1:=⟨na - 1,#[0]⟩
 exact LivH.a O ub h #[0] hb c
theorem LivH.b1(O:Ordr lt n)(ua:∀ i j,i<j->j<pa.size->lt (gp pa i) (gp pa j)=true)(h:LivH it lt pa pb out na nb)(h0:nb≠0)(ha:na<=pa.size)(hb:nb<=pb.size)(c:na≠0->lt (gp pb (nb - 1)) (gp pa (na - 1))=false):LivH it lt pa pb (out.push (kas_item it (gp pb (nb - 1)))) na (nb - 1):=by
 obtain⟨m,rfl⟩:∃ m,nb=m+1:=⟨nb - 1,#[0]⟩
 exact LivH.b O ua h ha #[0] c
theorem LivH.as1(O:Ordr lt n)(ub:∀ i j,i<j->j<pb.size->lt (gp pb i) (gp pb j)=true){at_:Nat}(h:LivH it lt pa pb out na nb)(h0:at_<=na)(ha:na<=pa.size)(hb:nb<=pb.size)(h1:nb≠0)(c:∀ i,at_<=i->i<na->lt (gp pb (nb - 1)) (gp pa i)=true):LivH it lt pa pb (out++((pa.map (kas_item it)).extract at_ na).reverse) at_ nb:=by
 obtain⟨k,rfl⟩:∃ k,na=at_+k:=⟨na - at_,#[0]⟩
 exact LivH.as O ub k h ha hb h1 c
theorem LivH.bs1(O:Ordr lt n)(ua:∀ i j,i<j->j<pa.size->lt (gp pa i) (gp pa j)=true){at_:Nat}(h:LivH it lt pa pb out na nb)(h0:at_<=nb)(ha:na<=pa.size)(hb:nb<=pb.size)(h1:na≠0)(c:∀ i,at_<=i->i<nb->lt (gp pb i) (gp pa (na - 1))=false):LivH it lt pa pb (out++((pb.map (kas_item it)).extract at_ nb).reverse) na at_:=by
 obtain⟨k,rfl⟩:∃ k,nb=at_+k:=⟨nb - at_,#[0]⟩
 exact LivH.bs O ua k h hb ha h1 c
theorem zaO(p:Array Nat)(m:Nat):(p.extract 0 m).toList=p.toList.take m:=by
 simp [WaB,List.extract_eq_drop_take]
theorem LivH.done(h:LivH it lt pa pb out na nb)(e0:na=0\/nb=0):FinM it lt pa pb ((pa.map (kas_item it)).extract 0 na++(pb.map (kas_item it)).extract 0 nb++out.reverse):=by
 obtain⟨po,rfl,e⟩:=h;refine⟨pa.extract 0 na++pb.extract 0 nb++po.reverse,by rw [Wa8,Wa8,Yaq,Yaq,WaU],?_⟩
 rw [<-e,Yar,Yar,zaO,zaO,Array.toList_reverse]
 congr 1
 rcases e0 with rfl|rfl
 . rw [List.take_zero,jv];rfl
 . rw [List.take_zero,jm,Yao]
theorem LivH.first(O:Ordr lt n)(ua:∀ i j,i<j->j<pa.size->lt (gp pa i) (gp pa j)=true)(h:LivH it lt pa pb out na nb)(e0:nb=1)(ha:na<=pa.size)(hb:1<=pb.size)(c:lt (gp pb 0) (gp pa 0)=true):FinM it lt pa pb ((pb.map (kas_item it)).extract 0 nb++(pa.map (kas_item it)).extract 0 na++out.reverse):=by
 obtain⟨po,rfl,e⟩:=h;refine⟨pb.extract 0 nb++pa.extract 0 na++po.reverse,by rw [Wa8,Wa8,Yaq,Yaq,WaU],?_⟩
 rw [<-e,Yar,Yar,zaO,zaO,Array.toList_reverse]
 congr 1
 subst e0;have e1:pb.toList.take 1=[gp pb 0]:=by have:=zbv (p:=pb) (i:=0) #[0];simpa using this
 rw [e1];cases hx:pa.toList.take na with
 | nil=>rw [jv];rfl
 | cons a r=>
  have:a=gp pa 0:=by
   have h1:na≠0:=fun z=>by rw [z,List.take_zero] at hx;cases hx
   have h2:(pa.toList.take na)[0]?=some a:=by rw [hx];rfl
   rw [Wam #[0]] at h2
   rw [Jf,YaP,h2];rfl
  rw [ju,this,if_pos c,jm];rfl
end
section tim
variable{prog:Program}{w:World}{A:Around}{E:Value->Shared->Prop}{s:Shared}{α β : Type}{st:SortSt}{κ : SortKind}{it:Array Keyed}{lt:Nat->Nat->Bool}{n:Nat}
variable(K:ZT prog w A s κ it lt n)(O:Ordr lt n)
include K O
theorem WS.mergeHi{pa pb:Array Nat}{Q:Array Keyed->SortSt->Prop}(hk:kindOf st = κ)(ha:∀ i,i<pa.size->gp pa i<n)(hb:∀ i,i<pb.size->gp pb i<n)(ua:∀ i j,i<j->j<pa.size->lt (gp pa i) (gp pa j)=true)(ub:∀ i j,i<j->j<pb.size->lt (gp pb i) (gp pb j)=true)
 (h1:1<=pa.size) (h2:1<=pb.size) (h3:lt (gp pb 0) (gp pa 0)=true) (h4:∀ j,j<pb.size->lt (gp pb j) (gp pa (pa.size - 1))=true) (q:∀ r st',Stk st st'->FinM it lt pa pb r->Q r st') :
 WS prog w A E s (zk6 (pa.map (kas_item it)) (pb.map (kas_item it))) st Q:=by
 have sza:(pa.map (kas_item it)).size=pa.size:=Wbl ..;have szb:(pb.map (kas_item it)).size=pb.size:=Wbl ..;refine WS.bnd (WS.rl ?_);refine WS.bnd (WS.elem (zz (by rw [sza];omega)) ?_)
 dsimp only;simp only [sza,szb];have L0:LivH it lt pa pb #[kas_item it (gp pa (pa.size - 1))] (pa.size - 1) pb.size:=LivH.a O ub (out:=#[]) (na:=pa.size - 1) ⟨#[],by simp,by rw [show pa.size - 1+1=pa.size by omega,Was (by simp),Was (by simp)];simp⟩ #[0] (YaY _) fun _=>h4 _ #[0]
 by_cases c1:pa.size - 1=0
 . rw [if_pos #[6]]
   exact WS.ret (q _ _ (.refl _) (L0.done (.inl c1)))
 rw [if_neg #[6]]
 by_cases c2:pb.size=1
 . rw [if_pos #[6]]
   exact WS.ret (q _ _ (.refl _) (L0.first O ua c2 #[0] #[0] h3))
 rw [if_neg #[6]]
 refine WS.bnd (WS.gt ?_)
 try dsimp only
 refine WS.bnd (WS.mono (WS.loop (Q:=fun(c:Option (Array Keyed)×Nat×Nat×Array Keyed×Nat) st'=>∃ r,c.1=some r/\Stk st st'/\FinM it lt pa pb r)
  (fun j (c:Option (Array Keyed)×Nat×Nat×Array Keyed×Nat) st'=>c.1=none/\Stk st st'/\LivH it lt pa pb c.2.2.2.1 c.2.1 c.2.2.1/\1<=c.2.1/\c.2.1<=pa.size/\2<=c.2.2.1/\c.2.2.1<=pb.size/\c.2.1+c.2.2.1<=j) ⟨rfl,.refl _,L0,#[0],#[0],#[0],#[0],#[0]⟩ (fun j x c st' hI=>?_) fun c st' hI=>?_) fun c st' hQ=>?_)
 case refine_2=>
  obtain⟨h0,S,L,l1,l2,l3,l4,lm⟩:=hI
  omega
 case refine_3=>
  obtain⟨r,na,nb,out,mgal⟩:=c;obtain⟨r',h0,S,F⟩:=hQ;have h0:r=some r':=h0;subst h0;exact WS.ret (q r' st' S F)
 obtain⟨r0,na,nb,out,mgal⟩:=c;obtain⟨h0,S,L,l1,l2,l3,l4,lm⟩:=hI;dsimp only at h0 L l1 l2 l3 l4 lm ⊢;subst h0;refine WS.bnd (WS.mono (WS.loop (Q:=fun(c:Option (Array Keyed)×Nat×Nat×Array Keyed×Nat×Nat) st2=>st'=st2/\((∃ r,c.1=some r/\FinM it lt pa pb r)\/(c.1=none/\LivH it lt pa pb c.2.2.2.1 c.2.1 c.2.2.1/\1<=c.2.1/\c.2.1<=pa.size/\2<=c.2.2.1/\c.2.2.1<=pb.size/\c.2.1+c.2.2.1<na+nb)))
  (fun i (c:Option (Array Keyed)×Nat×Nat×Array Keyed×Nat×Nat) st2=>st'=st2/\c.1=none/\LivH it lt pa pb c.2.2.2.1 c.2.1 c.2.2.1/\1<=c.2.1/\c.2.1<=pa.size/\2<=c.2.2.1/\c.2.2.1<=pb.size/\c.2.1+c.2.2.1<=na+nb/\(i<pa.size+pb.size->c.2.1+c.2.2.1<na+nb)) ⟨rfl,rfl,L,l1,l2,l3,l4,YaY _,fun h=>absurd h #[0]⟩ (fun i x c st2 hI=>?_) fun c st2 hI=>?_) fun c st2 hQ=>?_)
 case refine_2=>
  obtain⟨e,h0,L,l1,l2,l3,l4,lm1,lm2⟩:=hI;exact⟨e,.inr ⟨h0,L,l1,l2,l3,l4,lm2 #[0]⟩⟩
 case refine_1=>
  obtain⟨r0,na1,nb1,out1,ac,bc⟩:=c;obtain⟨e,h0,L,l1,l2,l3,l4,lm1,lm2⟩:=hI;dsimp only at h0 L l1 l2 l3 l4 lm1 lm2 ⊢;subst e h0;refine WS.bnd (WS.elem (zz #[0]) ?_)
  refine WS.bnd (WS.elem (zz #[0]) ?_)
  refine WS.bnd (WS.ltq K (S.kind.trans hk) (hb _ #[0]) (ha _ #[0]) ?_)
  dsimp only;cases hc:lt (gp pb (nb1 - 1)) (gp pa (na1 - 1)) with
  | true=>
   rw [if_pos rfl];refine WS.bnd (WS.elem (zz #[0]) ?_)
   have L1:=L.a1 O ub #[0] #[0] #[0] fun _=>hc
   by_cases c4:na1 - 1=0
   . rw [if_pos #[6]]
     exact WS.ret ⟨rfl,.inl ⟨_,rfl,L1.done (.inl c4)⟩⟩
   rw [if_neg #[6]]
   refine WS.ite ?_ ?_
   . exact WS.ret ⟨rfl,.inr ⟨rfl,L1,#[0],#[0],l3,l4,#[0]⟩⟩
   . exact WS.ret ⟨rfl,rfl,L1,#[0],#[0],l3,l4,#[0],fun _=>by omega⟩
  | false=>
   rw [if_neg #[1]]
   refine WS.bnd (WS.elem (zz #[0]) ?_)
   have L1:=L.b1 O ua #[0] #[0] #[0] fun _=>hc
   by_cases c4:nb1 - 1=1
   . rw [if_pos #[6]]
     exact WS.ret ⟨rfl,.inl ⟨_,rfl,L1.first O ua c4 #[0] #[0] h3⟩⟩
   rw [if_neg #[6]]
   refine WS.ite ?_ ?_
   . exact WS.ret ⟨rfl,.inr ⟨rfl,L1,l1,l2,#[0],#[0],#[0]⟩⟩
   . exact WS.ret ⟨rfl,rfl,L1,l1,l2,#[0],#[0],#[0],fun _=>by omega⟩
 obtain⟨r1,na1,nb1,out1,ac,bc⟩:=c;obtain⟨e,hQ⟩:=hQ;subst e
 rcases hQ with ⟨r,h0,F⟩|⟨h0,L1,k1,k2,k3,k4,lm1⟩
 . have h0:r1=some r:=h0
   subst h0;exact WS.ret ⟨r,rfl,S,F⟩
 dsimp only at h0 L1 k1 k2 k3 k4 lm1 ⊢;subst h0;dsimp only;refine WS.bnd (WS.rl ?_);refine WS.bnd (WS.mono (WS.loop (Q:=fun(c:Option (Array Keyed)×Nat×Nat×Array Keyed×Nat×Nat×Nat) st3=>Stk st st3/\((∃ r,c.1=some r/\FinM it lt pa pb r)\/(c.1=none/\LivH it lt pa pb c.2.2.2.1 c.2.1 c.2.2.1/\1<=c.2.1/\c.2.1<=pa.size/\2<=c.2.2.1/\c.2.2.1<=pb.size/\c.2.1+c.2.2.1<=na1+nb1)))
  (fun i (c:Option (Array Keyed)×Nat×Nat×Array Keyed×Nat×Nat×Nat) st3=>Stk st st3/\c.1=none/\LivH it lt pa pb c.2.2.2.1 c.2.1 c.2.2.1/\1<=c.2.1/\c.2.1<=pa.size/\2<=c.2.2.1/\c.2.2.1<=pb.size/\c.2.1+c.2.2.1<=na1+nb1) ⟨S,rfl,L1,k1,k2,k3,k4,YaY _⟩ (fun i x c st3 hI=>?_) fun c st3 hI=>⟨hI.1,.inr hI.2⟩) fun c st3 hQ=>?_)
 case refine_2=>
  obtain⟨r2,na2,nb2,out2,mg2,ac2,bc2⟩:=c;obtain⟨S2,hQ⟩:=hQ
  rcases hQ with ⟨r,h0,F⟩|⟨h0,L2,m1,m2,m3,m4,lm2⟩
  . have h0:r2=some r:=h0
    subst h0;exact WS.ret ⟨r,rfl,S2,F⟩
  dsimp only at h0 L2 m1 m2 m3 m4 lm2 ⊢;subst h0;dsimp only;refine WS.bnd (WS.mdf (WS.ret ?_));exact⟨rfl,S2.gal,L2,m1,m2,m3,m4,#[0]⟩
 obtain⟨r2,na,nb,out,mg2,ac2,bc2⟩:=c;obtain⟨S2,h0,L,l1,l2,l3,l4,lm2⟩:=hI;dsimp only at h0 L l1 l2 l3 l4 lm2 ⊢;subst h0
 apply WS.jp (mg2 - 1) mg2
 case hx=>rfl
 intro mg3;refine WS.bnd (WS.mdf ?_);have S3:=S2.gal (g:=mg3);refine WS.bnd (WS.elem (zz #[0]) ?_)
 refine WS.bnd (WS.gallop K (S3.kind.trans hk) (hb _ #[0]) (fun i hi=>ha _ #[0]) #[0] #[0] (fun i j hij hj hbt=>?_) fun at1 hk1 g1 g2=>?_)
 . exact up_a O ua hij #[0] hbt
 dsimp only;have f1':∀ i,i<at1->lt (gp pb (nb - 1)) (gp pa i)=false:=fun i hi=>by
  have:=g1 i hi;rw [WbB] at this;unfold bey at this
  simpa using this
 have f2':∀ i,at1<=i->i<na->lt (gp pb (nb - 1)) (gp pa i)=true:=fun i hi hi2=>by
  have:=g2 i hi hi2;rw [WbB] at this;unfold bey at this
  simpa using this
 by_cases c1:na - at1 > 0
 . rw [if_pos c1]
   have L1:=L.as1 O ub (at_:=at1) #[0] #[0] #[0] #[0] f2'
   by_cases c3:at1=0
   . rw [if_pos #[6]]
     exact WS.ret ⟨S3,.inl ⟨_,rfl,L1.done (.inl c3)⟩⟩
   rw [if_neg #[6]]
   have hx1:=f1' (at1 - 1) #[0]
   refine WS.bnd (WS.elem (zz #[0]) ?_)
   have L2:=L1.b1 O ua #[0] #[0] #[0] fun _=>hx1
   by_cases c4:nb - 1=1
   . rw [if_pos #[6]]
     exact WS.ret ⟨S3,.inl ⟨_,rfl,L2.first O ua c4 #[0] #[0] h3⟩⟩
   rw [if_neg #[6]]
   refine WS.bnd (WS.elem (zz #[0]) ?_)
   refine WS.bnd (WS.gallop K (S3.kind.trans hk) (ha _ #[0]) (fun i hi=>hb _ #[0]) #[0] #[0] (fun i j hij hj hbt=>?_) fun at2 hk2 g1 g2=>?_)
   . exact up_b O ub hij #[0] hbt
   dsimp only;have g1':∀ i,i<at2->lt (gp pb i) (gp pa (at1 - 1))=true:=fun i hi=>by
    have:=g1 i hi;rw [WbB] at this;exact this
   have g2':∀ i,at2<=i->i<nb - 1->lt (gp pb i) (gp pa (at1 - 1))=false:=fun i hi hi2=>by
    have:=g2 i hi hi2;rw [WbB] at this;exact this
   by_cases c6:nb - 1 - at2 > 0
   . rw [if_pos c6]
     have L3':=L2.bs1 O ua (at_:=at2) #[0] #[0] #[0] #[0] g2'
     by_cases c7:at2=1
     . rw [if_pos #[6]]
       exact WS.ret ⟨S3,.inl ⟨_,rfl,L3'.first O ua c7 #[0] #[0] h3⟩⟩
     rw [if_neg #[6]]
     by_cases c8:at2=0
     . rw [if_pos #[6]]
       exact WS.ret ⟨S3,.inl ⟨_,rfl,L3'.done (.inr c8)⟩⟩
     rw [if_neg #[6]]
     have hx2:=g1' (at2 - 1) #[0]
     refine WS.bnd (WS.elem (zz #[0]) ?_)
     have L4:=L3'.a1 O ub #[0] #[0] #[0] fun _=>hx2
     by_cases c5:at1 - 1=0
     . rw [if_pos #[6]]
       exact WS.ret ⟨S3,.inl ⟨_,rfl,L4.done (.inl c5)⟩⟩
     rw [if_neg #[6]]
     refine WS.ite ?_ ?_
     . exact WS.ret ⟨S3,.inr ⟨rfl,L4,#[0],#[0],#[0],#[0],#[0]⟩⟩
     . exact WS.ret ⟨S3,rfl,L4,#[0],#[0],#[0],#[0],#[0]⟩
   . rw [if_neg c6]
     have hx2:=g1' (nb - 1 - 1) #[0]
     refine WS.bnd (WS.elem (zz #[0]) ?_)
     have L4:=L2.a1 O ub #[0] #[0] #[0] fun _=>hx2
     by_cases c5:at1 - 1=0
     . rw [if_pos #[6]]
       exact WS.ret ⟨S3,.inl ⟨_,rfl,L4.done (.inl c5)⟩⟩
     rw [if_neg #[6]]
     refine WS.ite ?_ ?_
     . exact WS.ret ⟨S3,.inr ⟨rfl,L4,#[0],#[0],#[0],#[0],#[0]⟩⟩
     . exact WS.ret ⟨S3,rfl,L4,#[0],#[0],#[0],#[0],#[0]⟩
 . rw [if_neg c1]
   have hx1:=f1' (na - 1) #[0]
   refine WS.bnd (WS.elem (zz #[0]) ?_)
   have L2:=L.b1 O ua #[0] #[0] #[0] fun _=>hx1
   by_cases c4:nb - 1=1
   . rw [if_pos #[6]]
     exact WS.ret ⟨S3,.inl ⟨_,rfl,L2.first O ua c4 #[0] #[0] h3⟩⟩
   rw [if_neg #[6]]
   refine WS.bnd (WS.elem (zz #[0]) ?_)
   refine WS.bnd (WS.gallop K (S3.kind.trans hk) (ha _ #[0]) (fun i hi=>hb _ #[0]) #[0] #[0] (fun i j hij hj hbt=>?_) fun at2 hk2 g1 g2=>?_)
   . exact up_b O ub hij #[0] hbt
   dsimp only;have g1':∀ i,i<at2->lt (gp pb i) (gp pa (na - 1))=true:=fun i hi=>by
    have:=g1 i hi;rw [WbB] at this;exact this
   have g2':∀ i,at2<=i->i<nb - 1->lt (gp pb i) (gp pa (na - 1))=false:=fun i hi hi2=>by
    have:=g2 i hi hi2;rw [WbB] at this;exact this
   by_cases c6:nb - 1 - at2 > 0
   . rw [if_pos c6]
     have L3':=L2.bs1 O ua (at_:=at2) #[0] #[0] #[0] #[0] g2'
     by_cases c7:at2=1
     . rw [if_pos #[6]]
       exact WS.ret ⟨S3,.inl ⟨_,rfl,L3'.first O ua c7 #[0] #[0] h3⟩⟩
     rw [if_neg #[6]]
     by_cases c8:at2=0
     . rw [if_pos #[6]]
       exact WS.ret ⟨S3,.inl ⟨_,rfl,L3'.done (.inr c8)⟩⟩
     rw [if_neg #[6]]
     have hx2:=g1' (at2 - 1) #[0]
     refine WS.bnd (WS.elem (zz #[0]) ?_)
     have L4:=L3'.a1 O ub #[0] #[0] #[0] fun _=>hx2
     by_cases c5:na - 1=0
     . rw [if_pos #[6]]
       exact WS.ret ⟨S3,.inl ⟨_,rfl,L4.done (.inl c5)⟩⟩
     rw [if_neg #[6]]
     refine WS.ite ?_ ?_
     . exact WS.ret ⟨S3,.inr ⟨rfl,L4,#[0],#[0],#[0],#[0],#[0]⟩⟩
     . exact WS.ret ⟨S3,rfl,L4,#[0],#[0],#[0],#[0],#[0]⟩
   . rw [if_neg c6]
     have hx2:=g1' (nb - 1 - 1) #[0]
     refine WS.bnd (WS.elem (zz #[0]) ?_)
     have L4:=L2.a1 O ub #[0] #[0] #[0] fun _=>hx2
     by_cases c5:na - 1=0
     . rw [if_pos #[6]]
       exact WS.ret ⟨S3,.inl ⟨_,rfl,L4.done (.inl c5)⟩⟩
     rw [if_neg #[6]]
     refine WS.ite ?_ ?_
     . exact WS.ret ⟨S3,.inr ⟨rfl,L4,#[0],#[0],#[0],#[0],#[0]⟩⟩
     . exact WS.ret ⟨S3,rfl,L4,#[0],#[0],#[0],#[0],#[0]⟩
end tim
abbrev zj5:Nat->Nat->StateT SortSt Sem (Option Nat):=sortPriv% PySem.Builtin.countRun
abbrev zjm:Nat->Nat->Nat->StateT SortSt Sem Bool:=sortPriv% PySem.Builtin.binarySort
def kst(κ : SortKind)(it:Array Keyed)(p:Array Nat)(pd:Array (Nat×Nat×Nat))(g:Nat):SortSt:=SortSt.mk' κ (p.map (kas_item it)) pd g none
def Srt(lt:Nat->Nat->Bool)(p:Array Nat)(a b:Nat):Prop:=∀ i j,a<=i->i<j->j<b->lt (gp p i) (gp p j)=true
section
variable{lt:Nat->Nat->Bool}{n:Nat}{p:Array Nat}{a b:Nat}
theorem Srt.ext(O:Ordr lt n)(h:Srt lt p a b)(hab:a<b)(c:lt (gp p (b - 1)) (gp p b)=true):Srt lt p a (b+1):=fun i j hi hij hj=>by
 by_cases e:j<b
 . exact h i j hi hij e
 . have e':j=b:=#[0]
   subst e'
   by_cases e2:i=j - 1
   . subst e2;exact c
   . exact O.tr _ _ _ (h i (j - 1) hi #[0] #[0]) c
theorem zk4(p:Array Nat){a b:Nat}(hb:b<=p.size)(x:Nat):gp (kas_rev p a b) x=if a<=x/\x<b then gp p (a+b - 1 - x) else gp p x:=by
 have e:=getElem?_mirror_all (xs:=p) (i:=a) (j:=b) hb x;have e':(kas_rev p a b)[x]?=if a<=x/\x<b then p[a+b - 1 - x]? else p[x]?:=e
 unfold gp;rw [Yaj,e']
 by_cases h:a<=x/\x<b
 . rw [if_pos h,if_pos h,Yaj]
 . rw [if_neg h,if_neg h,Yaj]
theorem zdI(p:Array Nat){src d:Nat}(hs:src<p.size)(hd:d<=src)(x:Nat):gp (bubble p src d) x=if x=src - d then gp p src else if src - d<x/\x<=src then gp p (x - 1) else gp p x:=by
 have e:=getElem?_bubble (xs:=p) hs d hd x;unfold gp;rw [Yaj,e]
 by_cases h:x=src - d
 . rw [if_pos h,if_pos h,Yaj]
 . rw [if_neg h,if_neg h]
   by_cases h':src - d<x/\x<=src
   . rw [if_pos h',if_pos h',Yaj]
   . rw [if_neg h',if_neg h',Yaj]
end
section tim
variable{prog:Program}{w:World}{A:Around}{E:Value->Shared->Prop}{s:Shared}{α β : Type}{st:SortSt}
theorem WS.loopi{a b:Nat}{c:β}{f:Nat->β->StateT SortSt Sem (ForInStep β)}{Q:β->SortSt->Prop}(I:Nat->β->SortSt->Prop)(h0:I a c st)
 (hs:∀ x c st,a<=x->x<b->I x c st->WS prog w A E s (f x c) st fun r st'=>match r with|.done c'=>Q c' st'|.yield c'=>I (x+1) c' st') (hn:∀ x c st,a<=x->b<=x->x<=max a b->I x c st->Q c st):WS prog w A E s (forIn [a:b] c f) st Q:=by
 refine kasC_range ?_
 have go:∀ (k y:Nat) (c:β) (st:SortSt),a<=y->y+k=max a b->I y c st->WS prog w A E s (forIn (List.range' y k) c f) st Q:=by
  intro k
  induction k with
  | zero=>
   intro y c st hy hk hi;exact kasC_nil ⟨rfl,hn y c st hy #[0] #[0] hi⟩
  | succ k ih=>
   intro y c st hy hk hi;refine kasC_cons (wpAny_mono (hs y c st hy #[0] hi) (fun r s' h'=>?_) fun _ _ e=>e)
   obtain⟨r,st'⟩:=r;obtain⟨e,h'⟩:=h';cases r with
   | done c'=>exact⟨e,h'⟩
   | yield c'=>
    have e:s'=s:=e;subst e;exact ih (y+1) c' st' #[0] #[0] h'
 exact go (b - a) a c st (YaY _) #[0] h0
variable{κ : SortKind}{it:Array Keyed}{lt:Nat->Nat->Bool}{n:Nat}{p:Array Nat}{pd:Array (Nat×Nat×Nat)}{g:Nat}
theorem WS.rev{i j:Nat}{Q:PUnit->SortSt->Prop}(q:Q ⟨⟩ (kst κ it (kas_rev p i j) pd g)):WS prog w A E s (reverseSlice' i j) (kst κ it p pd g) Q:=by
 rw [reverseSlice'_eq];refine WS.mdf ?_;have e1:mirror (p.map (kas_item it)) i j ((j - i)/2)=(mirror p i j ((j - i)/2)).map (kas_item it):=kas_swaps_map (kas_item it) (fun k=>i+k) (fun k=>j - 1 - k) _ p
 show Q ⟨⟩ (SortSt.mk' κ (mirror (p.map (kas_item it)) i j ((j - i)/2)) pd g none)
 rw [e1];exact q
theorem WS.mov{k l:Nat}{Q:PUnit->SortSt->Prop}(q:Q ⟨⟩ (kst κ it (bubble p k (k - l)) pd g)):WS prog w A E s (moveDown' k l) (kst κ it p pd g) Q:=by
 rw [moveDown'_eq];refine WS.mdf ?_;have e1:bubble (p.map (kas_item it)) k (k - l)=(bubble p k (k - l)).map (kas_item it):=kas_swaps_map (kas_item it) (fun i=>k - i) (fun i=>k - i - 1) _ p
 show Q ⟨⟩ (SortSt.mk' κ (bubble (p.map (kas_item it)) k (k - l)) pd g none)
 rw [e1];exact q
variable(K:ZT prog w A s κ it lt n)
include K
theorem WS.lta{i j:Nat}{Q:Option Bool->SortSt->Prop}(P:OkP n p)(hi:i<n)(hj:j<n)(q:Q (some (lt (gp p i) (gp p j))) (kst κ it p pd g)):WS prog w A E s (ltAt' i j) (kst κ it p pd g) Q:=by
 have hs:=P.size;rw [ltAt'_eq];refine WS.bnd (WS.gt ?_);refine WS.bnd (WS.elem (zz #[0]) ?_)
 refine WS.bnd (WS.elem (zz #[0]) ?_)
 exact WS.ltq K rfl (P.below hi) (P.below hj) q
variable(O:Ordr lt n)
include O
theorem WS.count{lo nrem:Nat}{Q:Option Nat->SortSt->Prop}(P:OkP n p)(hlo:lo+nrem<=n)(h1:1<=nrem)
 (q:∀ m p',1<=m->m<=nrem->OkP n p'->(∀ x,x<lo\/lo+m<=x->gp p' x=gp p x)->Srt lt p' lo (lo+m)->Q (some m) (kst κ it p' pd g)):WS prog w A E s (zj5 lo nrem) (kst κ it p pd g) Q:=by
 have hs:=P.size;refine WS.bnd (WS.mono (WS.loop (Q:=fun(c:Option (Option Nat)×Nat) st'=>c.1=none/\kst κ it p pd g=st'/\1<=c.2/\c.2<=nrem/\Srt lt p lo (lo+c.2)/\(c.2<nrem->lt (gp p (lo+c.2)) (gp p (lo+c.2 - 1))=true))
  (fun j (c:Option (Option Nat)×Nat) st'=>c.1=none/\kst κ it p pd g=st'/\1<=c.2/\c.2+j=nrem/\Srt lt p lo (lo+c.2)) ⟨rfl,rfl,YaY _,#[0],fun i j a b c=>by dsimp only at c;omega⟩ (fun j x c st' hI=>?_) fun c st' hI=>?_) fun c st' hQ=>?_)
 . obtain⟨r,m⟩:=c
   obtain⟨e0,e1,l1,l2,so⟩:=hI;dsimp only at e0 l1 l2 so ⊢;subst e0 e1;refine WS.bnd (WS.lta K P #[0] #[0] ?_)
   dsimp only;cases c:lt (gp p (lo+m)) (gp p (lo+m - 1)) with
   | true=>rw [if_pos rfl];exact WS.ret ⟨rfl,rfl,l1,#[0],so,fun _=>c⟩
   | false=>
    rw [if_neg #[1]]
    have so2:Srt lt p lo (lo+m+1):=so.ext O #[0] (ZQ O P #[0] #[0] #[0] c)
    exact WS.ret ⟨rfl,rfl,#[0],#[0],so2⟩
 . obtain⟨e0,e1,l1,l2,so⟩:=hI
   exact⟨e0,e1,l1,#[0],so,fun z=>absurd z #[0]⟩
 obtain⟨r,m⟩:=c;obtain⟨e0,e1,l1,l2,so,c0⟩:=hQ;dsimp only at e0 l1 l2 so c0 ⊢;subst e0 e1;dsimp only
 by_cases c1:m=nrem
 . rw [if_pos (by simp [c1])]
   exact WS.ret (q m p l1 l2 P #[4] so)
 rw [if_neg (by simp [c1])]
 by_cases c2:m > 1
 . rw [if_pos c2]
   refine WS.bnd (WS.lta K P #[0] #[0] ?_)
   rw [so lo (lo+m - 1) (YaY _) #[0] #[0]]
   dsimp only;rw [if_pos rfl];exact WS.ret (q m p l1 l2 P #[4] so)
 rw [if_neg c2];have hm:m=1:=#[0]
 subst hm;have c0:=c0 #[0]
 rw [show lo+1 - 1=lo by omega] at c0
 refine WS.bnd (WS.rl ?_)
 refine WS.bnd (WS.mono (WS.loop (Q:=fun(c:Option (Option Nat)×Nat×Nat) st'=>c.1=none/\kst κ it p pd g=st'/\2<=c.2.1/\c.2.2=0/\c.2.1<=nrem/\∀ i j,lo<=i->i<j->j<lo+c.2.1->lt (gp p j) (gp p i)=true)
  (fun k (c:Option (Option Nat)×Nat×Nat) st'=>c.1=none/\kst κ it p pd g=st'/\2<=c.2.1/\c.2.2=0/\c.2.1+k=nrem/\∀ i j,lo<=i->i<j->j<lo+c.2.1->lt (gp p j) (gp p i)=true) ⟨rfl,rfl,#[0],rfl,#[0],fun i j a b c=>by
   dsimp only at c;have e1:i=lo:=#[0]
   have e2:j=lo+1:=#[0]
   subst e1 e2;exact c0⟩ (fun k x c st' hI=>?_) fun c st' hI=>?_) fun c st' hQ=>?_)
 . obtain⟨r,m,neq⟩:=c
   obtain⟨e0,e1,l1,e2,l2,de⟩:=hI;dsimp only at e0 l1 e2 l2 de ⊢;subst e0 e1 e2;refine WS.bnd (WS.lta K P #[0] #[0] ?_)
   dsimp only;cases c:lt (gp p (lo+m)) (gp p (lo+m - 1)) with
   | true=>
    rw [if_pos rfl,if_neg #[0]]
    refine WS.ret ⟨rfl,rfl,#[0],rfl,#[0],fun i j a b c'=>?_⟩
    dsimp only at c'
    by_cases e:j<lo+m
    . exact de i j a b e
    . have e':j=lo+m:=#[0]
      subst e'
      by_cases e2:i=lo+m - 1
      . subst e2;exact c
      . exact O.tr _ _ _ c (de i (lo+m - 1) a #[0] #[0])
   | false=>
    rw [if_neg #[1]]
    refine WS.bnd (WS.lta K P #[0] #[0] ?_)
    rw [ZQ O P (i:=lo+m - 1) (j:=lo+m) #[0] #[0] #[0] c]
    dsimp only;rw [if_pos rfl];exact WS.ret ⟨rfl,rfl,l1,rfl,#[0],de⟩
 . obtain⟨e0,e1,l1,e2,l2,de⟩:=hI
   exact⟨e0,e1,l1,e2,#[0],de⟩
 obtain⟨r,m,neq⟩:=c;obtain⟨e0,e1,l1,e2,l2,de⟩:=hQ;dsimp only at e0 l1 e2 l2 de ⊢;subst e0 e1 e2;dsimp only;rw [if_neg #[0]]
 refine WS.bnd (WS.rev ?_)
 have P1:OkP n (kas_rev p lo (lo+m)):=P.perm (mirror_perm _ _ _ _);have g1:=zk4 p (a:=lo) (b:=lo+m) #[0]
 have so1:Srt lt (kas_rev p lo (lo+m)) lo (lo+m):=fun i j hi hij hj=>by
  rw [g1 i,if_pos ⟨hi,#[0]⟩,g1 j,if_pos ⟨#[0],hj⟩]
  exact de _ _ #[0] #[0] #[0]
 have ou1:∀ x,x<lo\/lo+m<=x->gp (kas_rev p lo (lo+m)) x=gp p x:=fun x hx=>by rw [g1 x,if_neg #[0]]
 generalize kas_rev p lo (lo+m)=p1 at P1 so1 ou1 ⊢;refine WS.bnd (WS.mono (WS.loop (Q:=fun(c:Option (Option Nat)×Nat) st'=>c.1=none/\kst κ it p1 pd g=st'/\m<=c.2/\c.2<=nrem/\Srt lt p1 lo (lo+c.2))
  (fun j (c:Option (Option Nat)×Nat) st'=>c.1=none/\kst κ it p1 pd g=st'/\m<=c.2/\c.2+j=nrem/\Srt lt p1 lo (lo+c.2)) ⟨rfl,rfl,YaY _,#[0],so1⟩ (fun j x c st' hI=>?_) fun c st' hI=>?_) fun c st' hQ=>?_)
 . obtain⟨r,m'⟩:=c
   obtain⟨e0,e1,l3,l4,so⟩:=hI;dsimp only at e0 l3 l4 so ⊢;subst e0 e1;refine WS.bnd (WS.lta K P1 #[0] #[0] ?_)
   dsimp only;cases c:lt (gp p1 (lo+m')) (gp p1 (lo+m' - 1)) with
   | true=>rw [if_pos rfl];exact WS.ret ⟨rfl,rfl,l3,#[0],so⟩
   | false=>
    rw [if_neg #[1]]
    have so2:Srt lt p1 lo (lo+m'+1):=so.ext O #[0] (ZQ O P1 #[0] #[0] #[0] c)
    exact WS.ret ⟨rfl,rfl,#[0],#[0],so2⟩
 . obtain⟨e0,e1,l3,l4,so⟩:=hI
   exact⟨e0,e1,l3,#[0],so⟩
 obtain⟨r,m'⟩:=c;obtain⟨e0,e1,l3,l4,so⟩:=hQ;dsimp only at e0 l3 l4 so ⊢;subst e0 e1;exact WS.ret (q m' p1 #[0] l4 P1 (fun x hx=>ou1 x #[0]) so)
theorem WS.bin{lo m ok:Nat}{Q:Bool->SortSt->Prop}(P:OkP n p)(hlo:lo+m<=n)(h1:1<=ok)(h2:ok<=m)(so:Srt lt p lo (lo+ok))
 (q:∀ p',OkP n p'->(∀ x,x<lo\/lo+m<=x->gp p' x=gp p x)->Srt lt p' lo (lo+m)->Q true (kst κ it p' pd g)):WS prog w A E s (zjm lo m ok) (kst κ it p pd g) Q:=by
 refine WS.bnd (WS.mono (WS.loopi (Q:=fun(c:Option Bool×Unit) st'=>c.1=none/\∃ p',kst κ it p' pd g=st'/\OkP n p'/\(∀ x,x<lo\/lo+m<=x->gp p' x=gp p x)/\Srt lt p' lo (lo+m))
  (fun k (c:Option Bool×Unit) st'=>c.1=none/\∃ p',kst κ it p' pd g=st'/\OkP n p'/\(∀ x,x<lo\/lo+m<=x->gp p' x=gp p x)/\Srt lt p' lo (lo+k)) ⟨rfl,p,rfl,P,fun _ _=>rfl,by rw [show max ok 1=ok by omega];exact so⟩ (fun k c st' hk1 hk2 hI=>?_) fun k c st' hk1 hk2 hk3 hI=>?_) fun c st' hQ=>?_)
 . obtain⟨r,u⟩:=c
   obtain⟨e0,p',e1,P',ou,so'⟩:=hI;dsimp only at e0 ⊢;subst e0 e1;have hs':=P'.size;have hk:1<=k:=#[0]
   refine WS.bnd (WS.mono (WS.loop (Q:=fun(c:Option Bool×Nat×Nat) st'=>c.1=none/\kst κ it p' pd g=st'/\c.2.1<=k/\(∀ i,i<c.2.1->lt (gp p' (lo+i)) (gp p' (lo+k))=true)/\∀ i,c.2.1<=i->i<k->lt (gp p' (lo+k)) (gp p' (lo+i))=true)
    (fun j (c:Option Bool×Nat×Nat) st'=>c.1=none/\kst κ it p' pd g=st'/\c.2.1<=c.2.2/\c.2.2<=k/\c.2.2<=c.2.1+j/\(∀ i,i<c.2.1->lt (gp p' (lo+i)) (gp p' (lo+k))=true)/\∀ i,c.2.2<=i->i<k->lt (gp p' (lo+k)) (gp p' (lo+i))=true) ⟨rfl,rfl,WbG _,YaY _,#[0],fun i hi=>by dsimp only at hi;omega,fun i a b=>by dsimp only at a;omega⟩ (fun j x c st' hI=>?_) fun c st' hI=>?_) fun c st' hQ=>?_)
   . obtain⟨r,l,r'⟩:=c
     obtain⟨e0,e1,l1,l2,l3,lo1,up1⟩:=hI;dsimp only at e0 l1 l2 l3 lo1 up1 ⊢;subst e0 e1
     by_cases c:l>=r'
     . rw [if_pos c]
       exact WS.ret ⟨rfl,rfl,#[0],lo1,fun i a b=>up1 i (by dsimp only at a;omega) b⟩
     rw [if_neg c];refine WS.bnd (WS.lta K P' #[0] #[0] ?_)
     dsimp only;cases c:lt (gp p' (lo+k)) (gp p' (lo+(l+r')/2)) with
     | true=>
      rw [if_pos rfl];refine WS.ret ⟨rfl,rfl,#[0],#[0],#[0],lo1,fun i a b=>?_⟩
      dsimp only at a
      by_cases e:i=(l+r')/2
      . rw [e];exact c
      . exact O.tr _ _ _ c (so' _ _ #[0] #[0] #[0])
     | false=>
      rw [if_neg #[1]]
      have c2:=ZQ O P' (i:=lo+(l+r')/2) (j:=lo+k) #[0] #[0] #[0] c
      refine WS.ret ⟨rfl,rfl,#[0],#[0],#[0],fun i a=>?_,up1⟩
      dsimp only at a
      by_cases e:i=(l+r')/2
      . rw [e];exact c2
      . exact O.tr _ _ _ (so' _ _ #[0] #[0] #[0]) c2
   . obtain⟨e0,e1,l1,l2,l3,lo1,up1⟩:=hI
     exact⟨e0,e1,#[0],lo1,fun i a b=>up1 i #[0] b⟩
   obtain⟨r,l,r'⟩:=c;obtain⟨e0,e1,l1,lo1,up1⟩:=hQ;dsimp only at e0 l1 lo1 up1 ⊢;subst e0 e1;dsimp only;refine WS.bnd (WS.mov (WS.ret ⟨rfl,bubble p' (lo+k) (lo+k - (lo+l)),rfl,P'.perm (bubble_perm _ _ _),fun x hx=>?_,?_⟩))
   . rw [zdI p' #[0] #[0],if_neg #[0],if_neg #[0]]
     exact ou x hx
   . have gg:=zdI p' (src:=lo+k) (d:=lo+k - (lo+l)) #[0] #[0]
     have ed:lo+k - (lo+k - (lo+l))=lo+l:=#[0]
     rw [ed] at gg;intro i j hi hij hj;rw [gg i,gg j]
     by_cases a1:i=lo+l
     . rw [if_pos a1,if_neg #[0],if_pos #[0]]
       have:=up1 (j - 1 - lo) #[0] #[0]
       rwa [show lo+(j - 1 - lo)=j - 1 by omega] at this
     . rw [if_neg a1]
       by_cases a2:lo+l<i
       . rw [if_pos ⟨a2,#[0]⟩,if_neg #[0],if_pos #[0]]
         exact so' _ _ #[0] #[0] #[0]
       . rw [if_neg #[0]]
         by_cases b1:j=lo+l
         . rw [if_pos b1]
           have:=lo1 (i - lo) #[0]
           rwa [show lo+(i - lo)=i by omega] at this
         . rw [if_neg b1]
           by_cases b2:lo+l<j
           . rw [if_pos ⟨b2,#[0]⟩]
             by_cases b3:i=j - 1
             . omega
             . exact so' _ _ hi #[0] #[0]
           . rw [if_neg #[0]]
             exact so' _ _ hi hij #[0]
 . obtain⟨e0,p',e1,P',ou,so'⟩:=hI
   have:k=m:=#[0]
   subst this;exact⟨e0,p',e1,P',ou,so'⟩
 obtain⟨r,u⟩:=c;obtain⟨e0,p',e1,P',ou,so'⟩:=hQ;dsimp only at e0 ⊢;subst e0 e1;exact WS.ret (q p' P' ou so')
end tim
theorem zfc{α : Type}(a:Nat):∀ (q:List α) (k:Nat) (arr:Array α),a+k+q.length<=arr.size->∀ x,((q.zipIdx k).foldl (fun(b:Array α) (y:α×Nat)=>b.setIfInBounds (a+y.2) y.1) arr)[x]?=if a+k<=x/\x<a+k+q.length then q[x - (a+k)]? else arr[x]?
 | [], k, arr, _, x => by
  rw [List.zipIdx_nil,List.foldl_nil,if_neg (by rw [List.length_nil];omega)]
 | v :: q, k, arr, h, x => by
  rw [List.length_cons] at h;rw [List.zipIdx_cons,List.foldl_cons,zfc a q (k+1) _ (by rw [Array.size_setIfInBounds];omega) x,List.length_cons]
  by_cases h1:a+(k+1)<=x/\x<a+(k+1)+q.length
  . rw [if_pos h1,if_pos #[0],show x - (a+k)=(x - (a+(k+1)))+1 by omega,List.getElem?_cons_succ]
  . rw [if_neg h1]
    by_cases h2:x=a+k
    . rw [if_pos #[0],h2,WbC,List.getElem?_cons_zero,Array.getElem?_setIfInBounds_self_of_lt #[0]]
    . rw [if_neg #[0]]
      exact Array.getElem?_setIfInBounds_ne (fun e=>h2 e.symm)
def wr{α : Type}(p:Array α)(a:Nat)(q:List α):Array α:=(p.toList.take a++q++p.toList.drop (a+q.length)).toArray
theorem zfH{α : Type}{p:Array α}{a:Nat}{q:List α}(h:a+q.length<=p.size)(x:Nat):(wr p a q)[x]?=if a<=x/\x<a+q.length then q[x - a]? else p[x]?:=by
 unfold wr;have hl:p.toList.length=p.size:=by simp
 have ht:(p.toList.take a).length=a:=by rw [Wa5];omega
 rw [List.getElem?_toArray,Yag]
 by_cases h1:x<a
 . rw [Yab #[0],Wam h1,if_neg #[0],Waw]
 . rw [Yae #[0],ht]
   by_cases h2:x<a+q.length
   . rw [Yab #[0],if_pos #[0]]
   . rw [Yae #[0],List.getElem?_drop,if_neg #[0],show a+q.length+(x - a - q.length)=x by omega,Waw]
theorem zfC{p:Array Nat}{it:Array Keyed}{a:Nat}{q:Array Nat}(h:a+q.size<=p.size):((q.map (kas_item it)).toList.zipIdx).foldl (fun(b:Array Keyed) (y:Keyed×Nat)=>b.setIfInBounds (a+y.2) y.1) (p.map (kas_item it))=(wr p a q.toList).map (kas_item it):=by
 apply Array.ext_getElem?
 intro x;have:=zfc a (q.map (kas_item it)).toList 0 (p.map (kas_item it)) #[6] x
 have e2:((wr p a q.toList).map (kas_item it))[x]?=((wr p a q.toList)[x]?).map (kas_item it):=WaI ..;rw [this,e2,zfH (by simpa using h)]
 simp only [Nat.add_zero,Array.toList_map,YaR,Array.length_toList]
 by_cases c:a<=x/\x<a+q.size
 . rw [if_pos c,if_pos c,Ya0]
 . rw [if_neg c,if_neg c,WaI]
theorem znH{p:Array Nat}{a:Nat}{q:List Nat}(h:a+q.length<=p.size)(x:Nat):gp (wr p a q) x=if a<=x/\x<a+q.length then q.getD (x - a) 0 else gp p x:=by
 unfold gp;rw [Yaj,zfH h]
 by_cases c:a<=x/\x<a+q.length
 . rw [if_pos c,if_pos c,YaP]
 . rw [if_neg c,if_neg c,Yaj]
theorem zix{p:Array Nat}{n a b:Nat}{q:List Nat}(P:OkP n p)(h:a<=b)(hb:b<=p.size)(hq:q.Perm ((p.toList.drop a).take (b - a))):OkP n (wr p a q):=by
 have hl:q.length=b - a:=by rw [hq.length_eq,Wa5,Wa6];simp;omega
 unfold wr OkP;refine List.Perm.trans ?_ P;show(p.toList.take a++q++p.toList.drop (a+q.length)).Perm p.toList;rw [hl,show a+(b - a)=b by omega]
 have e:p.toList=p.toList.take a++((p.toList.drop a).take (b - a)++p.toList.drop b):=by
  have e1:=Way (b - a) (p.toList.drop a);rw [List.drop_drop,show a+(b - a)=b by omega] at e1
  rw [e1,Way]
 rw [Yag]
 conv=>rhs;rw [e]
 exact List.Perm.append_left _ (hq.append_right _)
theorem zdF{p:Array Nat}{a b i:Nat}(hb:b<=p.size)(hi:i<b - a):gp (p.extract a b) i=gp p (a+i):=by
 unfold gp;rw [Yaj,Yaj,Array.getElem?_extract,if_pos #[0]]
theorem zdG{p:Array Nat}{a b:Nat}(hb:b<=p.size):(p.extract a b).size=b - a:=by rw [Array.size_extract];omega
section
variable{lt:Nat->Nat->Bool}{n:Nat}{p:Array Nat}
theorem zg1{a b base i j k:Nat}(O:Ordr lt n)(so:Srt lt p a b)(h0:a<=base)(hij:i<=j)(hj:base+j<b)(h:bey lt true k (gp p (base+j))=true):bey lt true k (gp p (base+i))=true:=by
 unfold bey at h ⊢;rw [if_pos rfl] at h ⊢
 by_cases e:i=j
 . rw [e];exact h
 . exact O.tr _ _ _ (so _ _ #[0] (show base+i<base+j by omega) hj) h
theorem ziP{a b base i j k:Nat}(O:Ordr lt n)(so:Srt lt p a b)(h0:a<=base)(hij:i<=j)(hj:base+j<b)(h:bey lt false k (gp p (base+j))=true):bey lt false k (gp p (base+i))=true:=by
 unfold bey at h ⊢;rw [if_neg #[1]] at h ⊢
 by_cases e:i=j
 . rw [e];exact h
 . cases c:lt k (gp p (base+i)) with
   | false=>rfl
   | true=>
    rw [O.tr _ _ _ c (so _ _ #[0] (show base+i<base+j by omega) hj)] at h
    cases h
end
theorem zfx{p:Array Nat}{u:Nat}(h:u∈p.toList):∃ i,i<p.size/\u=gp p i:=by
 obtain⟨i,hi,e⟩:=Yam h;have hi':i<p.size:=by simpa using hi
 exact⟨i,hi',by rw [<-e,Jf,YaP,YaQ hi];rfl⟩
theorem zcF{lt:Nat->Nat->Bool}{p:Array Nat}(h:∀ i j,i<j->j<p.size->lt (gp p i) (gp p j)=true):Up lt p.toList:=by
 unfold Up;rw [Wai];intro i j hi hj hij;have:=h i j hij (by simpa using hj)
 rw [Jf,Jf,YaP,YaP,YaQ hi,YaQ hj] at this;exact this
theorem zj3{lt:Nat->Nat->Bool}{l:List Nat}(h:Up lt l){i j:Nat}(hij:i<j)(hj:j<l.length):lt (l.getD i 0) (l.getD j 0)=true:=by
 have:=Wai.mp h i j #[0] hj hij
 rw [YaP,YaP,YaQ hj,YaQ (show i<l.length by omega)]
 exact this
theorem zk3(p:Array Nat){a b c:Nat}(h1:a<=b)(h2:b<=c):(p.extract a b).toList++(p.extract b c).toList=(p.toList.drop a).take (c - a):=by
 simp only [WaB,List.extract_eq_drop_take];have:List.drop b p.toList=(List.drop a p.toList).drop (b - a):=by rw [List.drop_drop,show a+(b - a)=b by omega]
 rw [this,show c - a=(b - a)+(c - b) by omega,List.take_add]
abbrev PdT:=Nat×Nat×Nat
theorem zfZ{pd:Array PdT}{l1 l2:List PdT}{x:PdT}(h:pd.toList=l1++x::l2):pd[l1.length]?=some x:=by
 rw [<-Waw,h];simp
theorem zjs{pd:Array PdT}{l1 l2:List PdT}{x y:PdT}(h:pd.toList=l1++x::y::l2):pd[l1.length+1]?=some y:=by
 rw [<-Waw,h,Yae #[0],show l1.length+1 - l1.length=1 by omega];rfl
theorem zl5{pd:Array PdT}{l1 l2:List PdT}{x y z:PdT}(h:pd.toList=l1++x::y::l2):((pd.setIfInBounds l1.length z).eraseIdxIfInBounds (l1.length+1)).toList=l1++z::l2:=by
 have e1:(pd.setIfInBounds l1.length z).toList=l1++z::y::l2:=by
  rw [Array.toList_setIfInBounds,h,List.set_append_right _ _ (YaY _),WbC];rfl
 have e2:((pd.setIfInBounds l1.length z).eraseIdxIfInBounds (l1.length+1)).toList=(pd.setIfInBounds l1.length z).toList.eraseIdx (l1.length+1):=by simp
 rw [e2,e1,List.eraseIdx_append_of_length_le #[0],show l1.length+1 - l1.length=1 by omega]
 rfl
section tim
variable{prog:Program}{w:World}{A:Around}{E:Value->Shared->Prop}{s:Shared}{κ : SortKind}{it:Array Keyed}{lt:Nat->Nat->Bool}{n:Nat}{p:Array Nat}{pd:Array PdT}{g:Nat}
variable(K:ZT prog w A s κ it lt n)(O:Ordr lt n)
include K O
theorem WS.mrg{l1 l2:List PdT}{sa na pw sb nb pw':Nat}{Q:Bool->SortSt->Prop}(hpd:pd.toList=l1++(sa,na,pw)::(sb,nb,pw')::l2)(hsb:sb=sa+na)(h1:1<=na)(h2:1<=nb)(he:sb+nb<=n)(P:OkP n p)(soA:Srt lt p sa sb)(soB:Srt lt p sb (sb+nb))
 (q:∀ p' (pd':Array PdT) g',OkP n p'->pd'.toList=l1++(sa,na+nb,pw)::l2->(∀ x,x<sa\/sb+nb<=x->gp p' x=gp p x)->Srt lt p' sa (sb+nb)->Q true (kst κ it p' pd' g')):WS prog w A E s (mergeAt' l1.length) (kst κ it p pd g) Q:=by
 have hs:=P.size;have a1:=zfZ hpd;have a2:=zjs hpd;have a3:=zl5 (z:=(sa,na+nb,pw)) hpd;refine WS.bnd (WS.gt ?_);dsimp only [kst];rw [a1,a2];dsimp only;refine WS.bnd (WS.sto ?_);refine WS.bnd (WS.elem (zz #[0]) ?_)
 refine WS.bnd (WS.gallop K rfl (P.below #[0]) (fun i hi=>P.below #[0]) #[0] #[0] (fun i j hij hj hbt=>ziP O soA (YaY _) hij #[0] hbt) fun k hk g1 g2=>?_)
 have f1:∀ i,i<k->lt (gp p (sa+i)) (gp p sb)=true:=fun i hi=>by
  have:=g1 i hi;unfold bey at this;exact ZQ O P #[0] #[0] #[0] (by simpa using this)
 have f2:∀ i,k<=i->i<na->lt (gp p sb) (gp p (sa+i))=true:=fun i hi hi2=>by
  have:=g2 i hi hi2;unfold bey at this
  simpa using this
 have f3:∀ y,sb<=y->y<sb+nb->∀ i,i<k->lt (gp p (sa+i)) (gp p y)=true:=fun y hy hy2 i hi=>by
  by_cases e:y=sb
  . rw [e];exact f1 i hi
  . exact O.tr _ _ _ (f1 i hi) (soB _ _ (YaY _) #[0] hy2)
 dsimp only
 by_cases c1:na - k=0
 . rw [if_pos #[6]]
   refine WS.ret (q p _ g P a3 #[4] fun i j hi hij hj=>?_)
   by_cases b1:j<sb
   . exact soA i j hi hij b1
   . by_cases b2:i<sb
     . have:=f3 j #[0] hj (i - sa) #[0]
       rwa [show sa+(i - sa)=i by omega] at this
     . exact soB i j #[0] hij hj
 rw [if_neg #[6]]
 refine WS.bnd (WS.elem (zz #[0]) ?_)
 refine WS.bnd (WS.gallop K rfl (P.below #[0]) (fun i hi=>P.below #[0]) #[0] #[0] (fun i j hij hj hbt=>zg1 O soB (YaY _) hij #[0] hbt) fun k2 hk2 e1 e2=>?_)
 have eL:sa+k+(na - k) - 1=sb - 1:=#[0]
 rw [eL] at e1 e2;have d1:∀ i,i<k2->lt (gp p (sb+i)) (gp p (sb - 1))=true:=fun i hi=>e1 i hi
 have d2:∀ i,k2<=i->i<nb->lt (gp p (sb - 1)) (gp p (sb+i))=true:=fun i hi hi2=>ZQ O P #[0] #[0] #[0] (e2 i hi hi2)
 have d0:lt (gp p sb) (gp p (sb - 1))=true:=by
  have:=f2 (na - 1) #[0] #[0]
  rwa [show sa+(na - 1)=sb - 1 by omega] at this
 have hk0:k2≠0:=fun z=>by
  have:=e2 0 #[0] #[0]
  rw [Nat.add_zero] at this;unfold bey at this;rw [if_pos rfl,d0] at this;cases this
 dsimp only;rw [if_neg #[6]]
 have sx:=zdG (p:=p) (a:=sa+k) (b:=sb) #[0]
 have sy:=zdG (p:=p) (a:=sb) (b:=sb+k2) #[0]
 have gx:∀ i,i<(p.extract (sa+k) sb).size->gp (p.extract (sa+k) sb) i=gp p (sa+k+i):=fun i hi=>zdF #[0] #[0]
 have gy:∀ i,i<(p.extract sb (sb+k2)).size->gp (p.extract sb (sb+k2)) i=gp p (sb+i):=fun i hi=>zdF #[0] #[0]
 have ex:(p.map (kas_item it)).extract (sa+k) sb=(p.extract (sa+k) sb).map (kas_item it):=Yaq.symm;have ey:(p.map (kas_item it)).extract sb (sb+k2)=(p.extract sb (sb+k2)).map (kas_item it):=Yaq.symm;rw [ex,ey];have post:∀ (po:Array Nat) (gg:Nat),po.toList=mg lt (p.extract (sa+k) sb).toList (p.extract sb (sb+k2)).toList->Q true (kst κ it (wr p (sa+k) po.toList) ((pd.setIfInBounds l1.length (sa,na+nb,pw)).eraseIdxIfInBounds (l1.length+1)) gg)/\sa+k+po.size<=p.size:=by
  intro po gg epo;have hseg:=zk3 p (a:=sa+k) (b:=sb) (c:=sb+k2) #[0] #[0]
  have hper:=zao (lt:=lt) (p.extract (sa+k) sb).toList (p.extract sb (sb+k2)).toList;have nd0:p.toList.Nodup:=P.nodup_iff.mpr List.nodup_range;have ndS:((p.extract (sa+k) sb).toList++(p.extract sb (sb+k2)).toList).Nodup:=by
   rw [hseg];exact nd0.sublist ((List.take_sublist _ _).trans (List.drop_sublist _ _))
  have hbelow:∀ u∈(p.extract (sa+k) sb).toList++(p.extract sb (sb+k2)).toList,u<n:=fun u hu=>by
   rw [hseg] at hu;have:u∈p.toList:=List.mem_of_mem_drop (List.mem_of_mem_take hu);exact Yba.mp (P.mem_iff.mp this)
  have hup:=zbq O _ _ ndS hbelow (zcF fun i j hij hj=>by rw [gx i #[0],gx j hj];exact soA _ _ #[0] #[0] #[0]) (zcF fun i j hij hj=>by rw [gy i #[0],gy j hj];exact soB _ _ #[0] #[0] #[0])
  have hlen:po.toList.length=(na - k)+k2:=by rw [epo,hper.length_eq,YaS,Array.length_toList,Array.length_toList,sx,sy];omega
  have hsz:po.size=(na - k)+k2:=by simpa using hlen
  have hfit:sa+k+po.toList.length<=p.size:=#[0]
  have hmem:∀ i,i<(na - k)+k2->∃ y,(sa+k<=y/\y<sb+k2)/\po.toList.getD i 0=gp p y:=fun i hi=>by
   have hm:po.toList.getD i 0∈po.toList:=by
    rw [YaP,YaQ #[0]];exact Ya4 _
   rw [epo] at hm;have hm:=hper.mem_iff.mp hm;rw [<-epo] at hm
   rcases Ya3.mp hm with z|z
   . obtain⟨y,hy,e⟩:=zfx z
     exact⟨sa+k+y,#[0],by rw [e,gx y hy]⟩
   . obtain⟨y,hy,e⟩:=zfx z
     exact⟨sb+y,#[0],by rw [e,gy y hy]⟩
  have gw:=znH hfit;have tail:∀ y,sa+k<=y->y<sb+k2->∀ j,sb+k2<=j->j<sb+nb->lt (gp p y) (gp p j)=true:=fun y hy1 hy2 j hj1 hj2=>by
   by_cases c:y<sb
   . have e1:=d2 (j - sb) #[0] #[0]
     rw [show sb+(j - sb)=j by omega] at e1
     by_cases c':y=sb - 1
     . rw [c'];exact e1
     . exact O.tr _ _ _ (soA y (sb - 1) #[0] #[0] #[0]) e1
   . exact soB y j #[0] #[0] hj2
  have head:∀ i,sa<=i->i<sa+k->∀ y,sa+k<=y->y<sb+nb->lt (gp p i) (gp p y)=true:=fun i hi1 hi2 y hy1 hy2=>by
   by_cases c:y<sb
   . exact soA i y hi1 #[0] c
   . have:=f3 y #[0] hy2 (i - sa) #[0]
     rwa [show sa+(i - sa)=i by omega] at this
  refine⟨q _ _ gg (zix P (a:=sa+k) (b:=sb+k2) #[0] #[0] (by rw [epo,<-hseg];exact hper)) a3 (fun x hx=>by rw [gw x,if_neg #[0]]) fun i j hi hij hj=>?_,#[0]⟩
  rw [gw i,gw j,hlen]
  by_cases i1:i<sa+k
  . rw [if_neg (show ¬(sa+k<=i/\i<sa+k+(na - k+k2)) by omega)]
    by_cases j1:j<sa+k
    . rw [if_neg #[0]]
      exact soA i j hi hij #[0]
    . by_cases j2:j<sa+k+(na - k+k2)
      . rw [if_pos #[0]]
        obtain⟨y,hy,e⟩:=hmem (j - (sa+k)) #[0]
        rw [e];exact head i hi i1 y hy.1 #[0]
      . rw [if_neg #[0]]
        exact head i hi i1 j #[0] hj
  . by_cases i2:i<sa+k+(na - k+k2)
    . rw [if_pos (show sa+k<=i/\i<sa+k+(na - k+k2) by omega)]
      by_cases j2:j<sa+k+(na - k+k2)
      . rw [if_pos #[0],epo]
        exact zj3 hup #[0] (by rw [<-epo];omega)
      . rw [if_neg #[0]]
        obtain⟨y,hy,e⟩:=hmem (i - (sa+k)) #[0]
        rw [e];exact tail y hy.1 hy.2 j #[0] hj
    . rw [if_neg (show ¬(sa+k<=i/\i<sa+k+(na - k+k2)) by omega),if_neg #[0]]
      exact soB i j #[0] hij hj
 have hax:∀ i,i<(p.extract (sa+k) sb).size->gp (p.extract (sa+k) sb) i<n:=fun i hi=>by rw [gx i hi];exact P.below #[0]
 have hby:∀ i,i<(p.extract sb (sb+k2)).size->gp (p.extract sb (sb+k2)) i<n:=fun i hi=>by rw [gy i hi];exact P.below #[0]
 have hua:∀ i j,i<j->j<(p.extract (sa+k) sb).size->lt (gp (p.extract (sa+k) sb) i) (gp (p.extract (sa+k) sb) j)=true:=fun i j hij hj=>by rw [gx i #[0],gx j hj];exact soA _ _ #[0] #[0] #[0]
 have hub:∀ i j,i<j->j<(p.extract sb (sb+k2)).size->lt (gp (p.extract sb (sb+k2)) i) (gp (p.extract sb (sb+k2)) j)=true:=fun i j hij hj=>by rw [gy i #[0],gy j hj];exact soB _ _ #[0] #[0] #[0]
 have hq3:lt (gp (p.extract sb (sb+k2)) 0) (gp (p.extract (sa+k) sb) 0)=true:=by rw [gx 0 #[0],gy 0 #[0]];exact f2 k (YaY _) #[0]
 have hq4:∀ j,j<(p.extract sb (sb+k2)).size->lt (gp (p.extract sb (sb+k2)) j) (gp (p.extract (sa+k) sb) ((p.extract (sa+k) sb).size - 1))=true:=fun j hj=>by
  rw [gy j hj,gx _ #[0],show sa+k+((p.extract (sa+k) sb).size - 1)=sb - 1 by omega]
  exact d1 j #[0]
 refine WS.ite ?_ ?_
 . refine WS.bnd (WS.mergeLo K O rfl hax hby hua hub #[0] #[0] hq3 hq4 fun r st' S F=>?_)
   obtain⟨gg,rfl⟩:=S;obtain⟨po,rfl,epo⟩:=F;obtain⟨r1,r2⟩:=post po gg epo;refine WS.bnd (WS.mdf (WS.bnd (WS.gt (WS.ret ?_))));unfold kst at r1;rw [<-zfC r2] at r1;exact r1
 . refine WS.bnd (WS.mergeHi K O rfl hax hby hua hub #[0] #[0] hq3 hq4 fun r st' S F=>?_)
   obtain⟨gg,rfl⟩:=S;obtain⟨po,rfl,epo⟩:=F;obtain⟨r1,r2⟩:=post po gg epo;refine WS.bnd (WS.mdf (WS.bnd (WS.gt (WS.ret ?_))));unfold kst at r1;rw [<-zfC r2] at r1;exact r1
end tim
def Runs(lt:Nat->Nat->Bool)(p:Array Nat):List PdT->Nat->Nat->Prop
 | [],b,e=>b=e
 | (s,m,_)::r,b,e=>s=b/\1<=m/\Srt lt p b (b+m)/\Runs lt p r (b+m) e
section
variable{lt:Nat->Nat->Bool}{p p':Array Nat}
theorem Runs.len:∀ {l:List PdT} {b e:Nat},Runs lt p l b e->b+l.length<=e
 | [],b,e,h=>by have h:b=e:=h;simp;omega
 | (s, m, _) :: r, b, e, h => by
  have:=Runs.len h.2.2.2;have:=h.2.1;rw [List.length_cons];omega
theorem Runs.app:∀ {l1 l2:List PdT} {b e:Nat},Runs lt p (l1++l2) b e->∃ c,Runs lt p l1 b c/\Runs lt p l2 c e
 | [],l2,b,e,h=>⟨b,rfl,h⟩
 | (s, m, q) :: r, l2, b, e, h => by
  obtain⟨c,h1,h2⟩:=Runs.app (l1:=r) h.2.2.2;exact⟨c,⟨h.1,h.2.1,h.2.2.1,h1⟩,h2⟩
theorem Runs.cat:∀ {l1 l2:List PdT} {b c e:Nat},Runs lt p l1 b c->Runs lt p l2 c e->Runs lt p (l1++l2) b e
 | [],l2,b,c,e,h1,h2=>by have h1:b=c:=h1;subst h1;exact h2
 | (s,m,q)::r,l2,b,c,e,h1,h2=>⟨h1.1,h1.2.1,h1.2.2.1,Runs.cat h1.2.2.2 h2⟩
theorem Runs.same:∀ {l:List PdT} {b e:Nat},(∀ x,b<=x->x<e->gp p' x=gp p x)->Runs lt p l b e->Runs lt p' l b e
 | [],b,e,_,h=>h
 | (s, m, q) :: r, b, e, hx, h => by
  have h1:=h.2.2.2.len;refine⟨h.1,h.2.1,fun i j hi hij hj=>?_,Runs.same (fun x a b=>hx x #[0] b) h.2.2.2⟩
  rw [hx i #[0] #[0],hx j #[0] #[0]]
  exact h.2.2.1 i j hi hij hj
theorem Runs.pow:∀ {l:List PdT} {x:PdT} {b e w:Nat},Runs lt p (l++[x]) b e->Runs lt p (l++[(x.1,x.2.1,w)]) b e
 | [],(s,m,q),b,e,w,h=>h
 | (s,m,q)::r,x,b,e,w,h=>⟨h.1,h.2.1,h.2.2.1,Runs.pow (l:=r) h.2.2.2⟩
end
theorem zhq{l:List PdT}{i:Nat}(h:i+1<l.length):∃ l1 x y l2,l=l1++x::y::l2/\l1.length=i:=by
 refine⟨l.take i,l[i],l[i+1],l.drop (i+2),?_,by rw [Wa5];omega⟩
 rw [Wau,Wau,Way]
theorem zeb{pd:Array PdT}{f:PdT->PdT}{l:List PdT}{x:PdT}(h:pd.toList=l++[x]):(pd.modify (pd.size - 1) f).toList=l++[f x]:=by
 have hs:pd.size=l.length+1:=by have:=congrArg List.length h;simpa using this
 apply List.ext_getElem?
 intro i;rw [Waw,Array.getElem?_modify]
 by_cases e:pd.size - 1=i
 . rw [if_pos e,<-Waw,h,<-e,hs,show l.length+1 - 1=l.length by omega]
   simp
 . rw [if_neg e,<-Waw,h]
   by_cases c:i<l.length
   . rw [Yab c,Yab c]
   . rw [Wax #[6],Wax #[6]]
section tim
variable{prog:Program}{w:World}{A:Around}{E:Value->Shared->Prop}{s:Shared}{κ : SortKind}{it:Array Keyed}{lt:Nat->Nat->Bool}{n:Nat}{p:Array Nat}{pd:Array PdT}{g:Nat}
variable(K:ZT prog w A s κ it lt n)(O:Ordr lt n)
include K O
theorem WS.mrgR{i e:Nat}{Q:Bool->SortSt->Prop}(hi:i+1<pd.size)(P:OkP n p)(R:Runs lt p pd.toList 0 e)(he:e<=n)
 (q:∀ p' (pd':Array PdT) g',OkP n p'->pd'.size+1=pd.size->Runs lt p' pd'.toList 0 e->(∀ x,e<=x->gp p' x=gp p x)->Q true (kst κ it p' pd' g')):WS prog w A E s (mergeAt' i) (kst κ it p pd g) Q:=by
 obtain⟨l1,x,y,l2,h,rfl⟩:=zhq (l:=pd.toList) (i:=i) (by simpa using hi)
 obtain⟨sa,na,pw⟩:=x;obtain⟨sb,nb,pw'⟩:=y;rw [h] at R;obtain⟨c,R1,R2⟩:=R.app;obtain⟨rfl,n1,s1,rfl,n2,s2,R3⟩:=R2;have l3:=R3.len;have l0:=R1.len;refine WS.mrg K O h rfl n1 n2 #[0] P s1 s2 fun p' pd' g' P' hpd' ou so=>?_
 refine q p' pd' g' P' ?_ ?_ fun x hx=>ou x #[0]
 . have e1:=congrArg List.length h
   have e2:=congrArg List.length hpd';simp only [YaS,List.length_cons,Array.length_toList] at e1 e2
   omega
 . rw [hpd']
   refine(R1.same fun x _ hx=>ou x #[0]).cat ⟨rfl,#[0],?_,?_⟩
   . have:Srt lt p' sa (sa+na+nb):=so
     rwa [Nat.add_assoc] at this
   . rw [<-Nat.add_assoc]
     exact R3.same fun x hx _=>ou x #[0]
theorem WS.runs{Q:Unit->SortSt->Prop}(P:OkP n p)(hn:1<=n)(q:∀ p' pd' g',OkP n p'->Srt lt p' 0 n->Q () (kst κ it p' pd' g')):WS prog w A E s sortRuns' (kst κ it p #[] g) Q:=by
 have hsz:(p.map (kas_item it)).size=n:=by rw [Wbl,P.size]
 refine WS.bnd (WS.gt ?_)
 dsimp only [kst];rw [hsz];refine WS.bnd (WS.mono (WS.loop (Q:=fun(c:Option Unit×Nat) st'=>c.1=none/\∃ p' pd' g',kst κ it p' pd' g'=st'/\OkP n p'/\Runs lt p' pd'.toList 0 n)
  (fun j (c:Option Unit×Nat) st'=>c.1=none/\c.2<=n/\n<=c.2+j/\∃ p' pd' g',kst κ it p' pd' g'=st'/\OkP n p'/\Runs lt p' pd'.toList 0 c.2) ⟨rfl,WbG _,#[0],p,#[],g,rfl,P,rfl⟩ (fun j x c st' hI=>?_) fun c st' hI=>?_) fun c st' hQ=>?_)
 case refine_2=>
  obtain⟨e0,l1,l2,p',pd',g',e1,P',R⟩:=hI;rw [show c.2=n by omega] at R
  exact⟨e0,p',pd',g',e1,P',R⟩
 case refine_1=>
  obtain⟨r,lo⟩:=c;obtain⟨e0,l1,l2,p',pd',g',e1,P',R⟩:=hI;dsimp only at e0 l1 l2 R ⊢;subst e0 e1
  by_cases c:lo>=n
  . rw [if_pos c]
    have:lo=n:=#[0]
    subst this;exact WS.ret ⟨rfl,p',pd',g',rfl,P',R⟩
  rw [if_neg c];refine WS.bnd (WS.count K O P' #[0] #[0] fun m p1 m1 m2 P1 ou1 so1=>?_)
  have R1:Runs lt p1 pd'.toList 0 lo:=R.same fun x _ hx=>ou1 x (.inl hx)
  dsimp only;refine WS.itec (fun cm=>?_) fun cm=>?_
  . refine WS.bnd (WS.rl ?_)
    refine WS.bnd (WS.bin K O P1 #[0] m1 #[0] so1 fun p2 P2 ou2 so2=>?_)
    rw [if_neg #[1]]
    have R2:Runs lt p2 pd'.toList 0 lo:=R1.same fun x _ hx=>ou2 x (.inl hx)
    generalize hM':min (n - lo) _=M at so2 ou2 ⊢;have hM:1<=M:=#[0]
    refine WS.bnd (WS.gt ?_)
    dsimp only [kst];cases hb:pd'.back? with
    | none=>
     dsimp only;refine WS.bnd (WS.mdf (WS.ret ⟨rfl,#[0],#[0],p2,pd'.push (lo,M,0),g',rfl,P2,?_⟩))
     rw [WaT];exact R2.cat ⟨rfl,hM,so2,rfl⟩
    | some x=>
     obtain⟨s1,n1,q1⟩:=x;dsimp only;have hne:1<=pd'.size:=by
      rw [Array.back?_eq_getElem?] at hb;have:=(Array.getElem?_eq_some_iff.mp hb).1
      omega
     refine WS.bnd (WS.mono (WS.loop (Q:=fun(c:Option Unit×Unit) st'=>c.1=none/\∃ p2 pd2 g2,kst κ it p2 pd2 g2=st'/\OkP n p2/\1<=pd2.size/\Runs lt p2 pd2.toList 0 lo/\Srt lt p2 lo (lo+M))
      (fun _ (c:Option Unit×Unit) st'=>c.1=none/\∃ p2 pd2 g2,kst κ it p2 pd2 g2=st'/\OkP n p2/\1<=pd2.size/\Runs lt p2 pd2.toList 0 lo/\Srt lt p2 lo (lo+M)) ⟨rfl,p2,pd',g',rfl,P2,hne,R2,so2⟩ (fun j' x' c st' hI=>?_) fun c st' hI=>hI) fun c st' hQ=>?_)
     . obtain⟨r,u⟩:=c
       obtain⟨e0,p2,pd2,g2,e1,P2,h2,R2,S2⟩:=hI;have e0:r=none:=e0;subst e0 e1;refine WS.bnd (WS.gt ?_);dsimp only [kst]
       by_cases c:pd2.size > 1
       . rw [if_pos c,Array.getElem?_eq_getElem (show pd2.size - 2<pd2.size by omega)]
         dsimp only;refine WS.ite (WS.ret ⟨rfl,p2,pd2,g2,rfl,P2,h2,R2,S2⟩) ?_;refine WS.bnd (WS.mrgR K O #[0] P2 R2 #[0] fun p3 pd3 g3 P3 h3 R3 ou3=>?_)
         rw [if_neg #[1]]
         exact WS.ret ⟨rfl,p3,pd3,g3,rfl,P3,#[0],R3,fun i j hi hij hj=>by rw [ou3 i hi,ou3 j #[0]];exact S2 i j hi hij hj⟩
       . rw [if_neg c]
         exact WS.ret ⟨rfl,p2,pd2,g2,rfl,P2,h2,R2,S2⟩
     obtain⟨r,u⟩:=c;obtain⟨e0,p2,pd2,g2,e1,P2,h2,R2,S2⟩:=hQ;have e0:r=none:=e0;subst e0 e1;dsimp only;obtain⟨l,x,hx⟩:∃ l x,pd2.toList=l++[x]:=by
      rcases Waz pd2.toList with z|⟨l,x,z⟩
      . have:=congrArg List.length z
        rw [Array.length_toList,List.length_nil] at this
        omega
      . rw [WaA] at z
        exact⟨l,x,z⟩
     refine WS.bnd (WS.mdf (WS.bnd (WS.mdf (WS.ret ⟨rfl,#[0],#[0],p2,_,g2,rfl,P2,?_⟩))))
     rw [WaT];refine Runs.cat (c:=lo) ?_ ⟨rfl,hM,S2,rfl⟩;rw [hx] at R2;exact(zeb hx).symm ▸ R2.pow
  . have hM:1<=m:=m1
    refine WS.bnd (WS.gt ?_)
    dsimp only [kst];cases hb:pd'.back? with
    | none=>
     dsimp only;refine WS.bnd (WS.mdf (WS.ret ⟨rfl,#[0],#[0],p1,pd'.push (lo,m,0),g',rfl,P1,?_⟩))
     rw [WaT];exact R1.cat ⟨rfl,hM,so1,rfl⟩
    | some x=>
     obtain⟨s1,n1,q1⟩:=x;dsimp only;have hne:1<=pd'.size:=by
      rw [Array.back?_eq_getElem?] at hb;have:=(Array.getElem?_eq_some_iff.mp hb).1
      omega
     refine WS.bnd (WS.mono (WS.loop (Q:=fun(c:Option Unit×Unit) st'=>c.1=none/\∃ p2 pd2 g2,kst κ it p2 pd2 g2=st'/\OkP n p2/\1<=pd2.size/\Runs lt p2 pd2.toList 0 lo/\Srt lt p2 lo (lo+m))
      (fun _ (c:Option Unit×Unit) st'=>c.1=none/\∃ p2 pd2 g2,kst κ it p2 pd2 g2=st'/\OkP n p2/\1<=pd2.size/\Runs lt p2 pd2.toList 0 lo/\Srt lt p2 lo (lo+m)) ⟨rfl,p1,pd',g',rfl,P1,hne,R1,so1⟩ (fun j' x' c st' hI=>?_) fun c st' hI=>hI) fun c st' hQ=>?_)
     . obtain⟨r,u⟩:=c
       obtain⟨e0,p2,pd2,g2,e1,P2,h2,R2,S2⟩:=hI;have e0:r=none:=e0;subst e0 e1;refine WS.bnd (WS.gt ?_);dsimp only [kst]
       by_cases c:pd2.size > 1
       . rw [if_pos c,Array.getElem?_eq_getElem (show pd2.size - 2<pd2.size by omega)]
         dsimp only;refine WS.ite (WS.ret ⟨rfl,p2,pd2,g2,rfl,P2,h2,R2,S2⟩) ?_;refine WS.bnd (WS.mrgR K O #[0] P2 R2 #[0] fun p3 pd3 g3 P3 h3 R3 ou3=>?_)
         rw [if_neg #[1]]
         exact WS.ret ⟨rfl,p3,pd3,g3,rfl,P3,#[0],R3,fun i j hi hij hj=>by rw [ou3 i hi,ou3 j #[0]];exact S2 i j hi hij hj⟩
       . rw [if_neg c]
         exact WS.ret ⟨rfl,p2,pd2,g2,rfl,P2,h2,R2,S2⟩
     obtain⟨r,u⟩:=c;obtain⟨e0,p2,pd2,g2,e1,P2,h2,R2,S2⟩:=hQ;have e0:r=none:=e0;subst e0 e1;dsimp only;obtain⟨l,x,hx⟩:∃ l x,pd2.toList=l++[x]:=by
      rcases Waz pd2.toList with z|⟨l,x,z⟩
      . have:=congrArg List.length z
        rw [Array.length_toList,List.length_nil] at this
        omega
      . rw [WaA] at z
        exact⟨l,x,z⟩
     refine WS.bnd (WS.mdf (WS.bnd (WS.mdf (WS.ret ⟨rfl,#[0],#[0],p2,_,g2,rfl,P2,?_⟩))))
     rw [WaT];refine Runs.cat (c:=lo) ?_ ⟨rfl,hM,S2,rfl⟩;rw [hx] at R2;exact(zeb hx).symm ▸ R2.pow
 obtain⟨r,lo⟩:=c;obtain⟨e0,p',pd',g',e1,P',R⟩:=hQ;dsimp only at e0 ⊢;subst e0 e1;dsimp only;refine WS.bnd (WS.mono (WS.loop (Q:=fun(c:Option Unit×Unit) st'=>c.1=none/\∃ p' pd' g',kst κ it p' pd' g'=st'/\OkP n p'/\Runs lt p' pd'.toList 0 n/\pd'.size<=1)
  (fun j (c:Option Unit×Unit) st'=>c.1=none/\∃ p' pd' g',kst κ it p' pd' g'=st'/\OkP n p'/\Runs lt p' pd'.toList 0 n/\pd'.size<=j+1) ⟨rfl,p',pd',g',rfl,P',R,by have:=R.len;rw [Array.length_toList] at this;omega⟩ (fun j x c st' hI=>?_) fun c st' hI=>hI) fun c st' hQ=>?_)
 . obtain⟨r,u⟩:=c
   obtain⟨e0,p',pd',g',e1,P',R,hl⟩:=hI;dsimp only at e0 ⊢;subst e0 e1;refine WS.bnd (WS.gt ?_);dsimp only [kst]
   by_cases c:pd'.size<=1
   . rw [if_pos c]
     exact WS.ret ⟨rfl,p',pd',g',rfl,P',R,c⟩
   rw [if_neg c];refine WS.bnd (WS.mrgR K O ?hi P' R (YaY _) fun p3 pd3 g3 P3 h3 R3 ou3=>?_)
   case hi=>
    have f:∀ (C:Prop) [Decidable C],(if C then pd'.size - 2 - 1 else pd'.size - 2)+1<pd'.size:=fun C _=>by
     by_cases h:C
     . rw [if_pos h];omega
     . rw [if_neg h];omega
    exact f _
   rw [if_neg #[1]]
   exact WS.ret ⟨rfl,p3,pd3,g3,rfl,P3,R3,#[0]⟩
 obtain⟨r,u⟩:=c;obtain⟨e0,p',pd',g',e1,P',R,hl⟩:=hQ;dsimp only at e0 ⊢;subst e0 e1;refine WS.ret (q p' pd' g' P' ?_);cases h:pd'.toList with
 | nil=>rw [h] at R;have R:0=n:=R;omega
 | cons x r=>
  have hr:r=[]:=by
   have:=congrArg List.length h;rw [Array.length_toList,List.length_cons] at this;exact Wap.mp #[0]
  subst hr;rw [h] at R;obtain⟨s',m,q'⟩:=x;obtain⟨_,_,so,e⟩:=R;have e:0+m=n:=e;rw [e] at so;exact so
end tim
section
variable{prog:Program}{w:World}{A:Around}{E:Value->Shared->Prop}{vs:List Value}{f:Value}{lt:Nat->Nat->Bool}
structure SortJ(prog:Program)(w:World)(A:Around)(vs:List Value)(f:Value)(lt:Nat->Nat->Bool)(a kS:Addr)(J:List Value->Shared->Prop):Prop where
 upd:∀ ks (s:Shared) h' x,J ks s->(x=a\/x=kS)->Heap.SameBut x s.heap h'->J ks { s with heap:=h' }
 key:∀ ks v r (s:Shared),vs.drop ks.length=v::r->J ks s->(∃ o,s.heap.get? a=some o)->(∃ o,s.heap.get? kS=some o)->
  wpAny (model prog w) A (call f [v]) (fun k s'=>J (ks++[k]) s'/\s'.heap.get? a=s.heap.get? a/\s'.heap.get? kS=s.heap.get? kS) (fun _ _=>False) s
 kind:∀ ks (s:Shared) (Q:SortKind->Shared->Prop),J ks s->ks.length=vs.length->2<=vs.length->Q (tuples' true) s->wpAny (model prog w) A (keyKind' ks.toArray) Q (fun _ _=>False) s
 ask:∀ ks (s:Shared) i j (C:Bool->Shared->Prop),J ks s->ks.length=vs.length->i<vs.length->j<vs.length->C (lt i j) s->kas_ask prog w A (tuples' true) ks i j C s
theorem zcb{h:Heap}{a b:Addr}{g:Obj->Obj}(n:b≠a):(h.update a g).get? b=h.get? b:=(WaD h a g).2 b n
theorem zcG{a kS:Addr}{J:List Value->Shared->Prop}(SJ:SortJ prog w A vs f lt a kS J)(hne:a≠kS)(h64:vs.length<1000){body:Value->PUnit->Sem (ForInStep PUnit)}
 (hb:∀ x ks e (s:Shared) (C:Value->Shared->Prop),ks.length<1000->s.heap.get? kS=some (seqObj "list" (List.toArray ks) e)->
  wpAny (model prog w) A (call f [x]) (fun k s'=>C k s'/\s'.heap.get? kS=s.heap.get? kS) (fun _ _=>False) s->
  wpAny (model prog w) A (body x ⟨⟩) (fun r s'=>r=.yield ⟨⟩/\∃ k s1,C k s1/\s' = { s1 with heap:=s1.heap.update kS (Obj.mapSeq (·.push k)) }) E s) {e1:Nat} :
 ∀ (r ks:List Value) (e:Nat) (s:Shared),vs.drop ks.length=r->ks.length+r.length=vs.length->s.heap.get? kS=some (seqObj "list" (List.toArray ks) e)->s.heap.get? a=some (seqObj "list" #[] e1)->J ks s->
  wpAny (model prog w) A (forIn r PUnit.unit body) (fun _ s'=>∃ ks e,s'.heap.get? kS=some (seqObj "list" (List.toArray ks) e)/\s'.heap.get? a=some (seqObj "list" #[] e1)/\ks.length=vs.length/\J ks s') E s
 | [], ks, e, s, _, hl, hk, ha, j => by
  rw [List.forIn_nil];exact wpAny_pure ⟨ks,e,hk,ha,by simpa using hl,j⟩
 | x :: r, ks, e, s, hd, hl, hk, ha, j => by
  rw [List.length_cons] at hl;rw [List.forIn_cons];refine wpAny_bind (wpAny_mono (hb x ks e s (fun k s'=>J (ks++[k]) s'/\s'.heap.get? a=s.heap.get? a/\s'.heap.get? kS=s.heap.get? kS) #[0] hk (wpAny_mono (SJ.key ks x r s hd j ⟨_,ha⟩ ⟨_,hk⟩) (fun k s' q=>⟨q,q.2.2⟩) fun _ _ x=>x)) (fun q s' hq=>?_) fun _ _ x=>x)
  obtain⟨rfl,k,s1,⟨j1,a1,k1⟩,rfl⟩:=hq;show wpAny (model prog w) A (forIn r PUnit.unit body) _ E _;have e2:s1.heap.get? kS=some (seqObj "list" (List.toArray ks) e):=k1.trans hk;have ea:(List.toArray ks).push k=List.toArray (ks++[k]):=by simp
  obtain⟨c,hc⟩:∃ c,(s1.heap.update kS (Obj.mapSeq (·.push k))).get? kS=some (seqObj "list" (List.toArray (ks++[k])) c):=⟨_,by rw [<-ea];exact get?_update_seq e2 (·.push k)⟩
  refine zcG SJ hne h64 hb r (ks++[k]) c _ ?_ (by rw [YaS,List.length_singleton];omega) hc (by show(s1.heap.update kS _).get? a=_;rw [zcb hne];exact a1.trans ha) (SJ.upd _ _ _ kS j1 (.inr rfl) (WaD _ _ _))
  rw [YaS,List.length_singleton,<-List.drop_drop,hd];rfl
theorem zdh{vs ks:List Value}(hl:ks.length=vs.length)(hn:vs.length<2):((List.toArray ks).zip vs.toArray).map (·.2)=List.toArray ((List.toArray (List.range vs.length)).toList.map fun i=>vs.getD i Value.none):=by
 cases vs with
 | nil=>
  cases ks with
  | nil=>simp
  | cons _ _=>cases hl
 | cons v r=>
  cases r with
  | cons _ _=>exact absurd hn (by simp)
  | nil=>
   cases ks with
   | nil=>cases hl
   | cons k t=>
    cases t with
    | nil=>simp
    | cons _ _=>cases hl
theorem zhP{vs:List Value}(h:¬vs.length<2):∃ v₁ v₂ rest,vs=v₁ :: v₂ :: rest:=by
 match vs,h with
 | [],h=>simp at h
 | [_],h=>simp at h
 | v₁ :: v₂ :: rest,_=>exact⟨v₁,v₂,rest,rfl⟩
theorem znD{a kS:Addr}{J:List Value->Shared->Prop}(SJ:SortJ prog w A vs f lt a kS J)(O:Ordr lt vs.length)(hne:a≠kS)(h64:vs.length<1000){e e1:Nat}{ks:List Value}{s:Shared}{P:PySem.Fin->Shared->Prop}
 (hk:s.heap.get? kS=some (seqObj "list" (List.toArray ks) e)) (ha:s.heap.get? a=some (seqObj "list" #[] e1)) (hl:ks.length=vs.length) (j:J ks s)
 (h:∀ s' p c,J ks s'->OkP vs.length p->SoP lt p vs.length->s'.heap.get? a=some (seqObj "list" (p.toList.map fun i=>vs.getD i Value.none).toArray c)->P (.done (.ret .none)) s') :
 wpAny (model prog w) A (ksk_end a false vs.toArray e1 (.ref kS) (List.toArray ks)) P E s:=by
 have tail:∀ (st:SortSt) (p:Array Nat),failedOf st=none->(arrOf st).map (·.2)=List.toArray (p.toList.map fun i=>vs.getD i Value.none)->OkP vs.length p->SoP lt p vs.length->
  wpAny (model prog w) A (ksk_tail a false e1 (.ref kS) st) P E s:=by
  intro st p hf hout ok so;have hsz:(List.toArray (p.toList.map fun i=>vs.getD i Value.none)).size=vs.length:=by rw [YaZ,YaR,Array.length_toList,ok.size]
  have ha':(s.heap.update kS (Obj.mapSeq fun _=>(#[]:Array Value))).get? a=some (seqObj "list" #[] e1):=by rw [zcb hne];exact ha
  unfold ksk_tail
  try dsimp only
  rw [hout];refine wpAny_bind (listUpdate_at hk rfl ?_ (by rw [YaZ,sizeLine_eq];omega) (WbG _))
  refine wpAny_bind (wpAny_letGo ?_)
  refine wpAny_bind (seqEpoch_at ha' rfl ?_)
  refine wpAny_bind (listUpdate_at ha' rfl ?_ (WbG _) (Ya5 (Nat.le_of_eq hsz) (by rw [sizeLine_eq];omega)))
  rw [hf];simp only [bne_self_eq_false,WaH,if_false];obtain⟨c2,hc2⟩:∃ c2,((s.heap.update kS (Obj.mapSeq fun _=>(#[]:Array Value))).update a (Obj.mapSeq fun _=>List.toArray (p.toList.map fun i=>vs.getD i Value.none))).get? a=some (seqObj "list" (List.toArray (p.toList.map fun i=>vs.getD i Value.none)) c2):=⟨_,get?_update_seq ha' fun _=>List.toArray (p.toList.map fun i=>vs.getD i Value.none)⟩
  exact wpAny_pure (h _ p c2 (SJ.upd _ { s with heap:=s.heap.update kS (Obj.mapSeq fun _=>(#[]:Array Value)) } _ a (SJ.upd _ s _ kS j (.inr rfl) (WaD _ _ _)) (.inl rfl) (WaD _ _ _)) ok so hc2)
 unfold ksk_end
 try dsimp only
 simp only [WaH,if_false]
 by_cases hn:vs.toArray.size<2
 . rw [if_pos hn,if_pos hn]
   rw [YaZ] at hn;refine wpAny_bind (wpAny_pure (wpAny_bind ?_));rw [StateT.run_pure];refine wpAny_pure (tail _ (List.toArray (List.range vs.length)) rfl ?_ (Wbm _) (fun i j a b=>by omega))
   exact zdh hl hn
 . rw [if_neg hn,if_neg hn]
   rw [YaZ] at hn;refine wpAny_bind (wpAny_mono (SJ.kind ks s (fun κ s'=>κ = tuples' true/\s'=s) j hl #[0] ⟨rfl,rfl⟩) (fun κ s' hκ=>?_) fun _ _ x=>x.elim)
   obtain⟨rfl,rfl⟩:=hκ;have hsz2:((List.toArray ks).zip vs.toArray).size=vs.length:=by simp [hl]
   have est:SortSt.mk' (tuples' true) ((List.toArray ks).zip vs.toArray) #[] 7 none=kst (tuples' true) ((List.toArray ks).zip vs.toArray) (List.toArray (List.range vs.length)) #[] 7:=by
    have e:=kas_range ((List.toArray ks).zip vs.toArray);rw [hsz2] at e;unfold kst;rw [e]
   rw [est];refine wpAny_bind (wpAny_mono (WS.runs (E:=fun _ _=>False) (Q:=fun _ st'=>∃ p:Array Nat,arrOf st'=p.map (kas_item ((List.toArray ks).zip vs.toArray))/\failedOf st'=none/\OkP vs.length p/\Srt lt p 0 vs.length)
    (fun i j' C hi hj hC=>by rw [<-kat_ask_eq hl];exact SJ.ask ks s' i j' C j hl hi hj hC) O (Wbm _) #[0] fun p' pd' g' ok so=>⟨p',rfl,rfl,ok,so⟩) ?_ fun _ _ x=>x.elim)
   rintro⟨⟨⟩,st'⟩ s'' ⟨e,p,har,hf,ok,so⟩
   have e:s''=s':=e;subst e
   try dsimp only
   exact tail st' p hf (kat_snds hl har) ok fun i j h1 h2=>so i j (WbG _) h1 h2
theorem znW{a:Addr}{n0:Nat}{s:Shared}{P:PySem.Fin->Shared->Prop}{J:Addr->List Value->Shared->Prop}(ho:s.heap.get? a=some (seqObj "list" vs.toArray n0))(h64:vs.length<1000)(O:Ordr lt vs.length)
 (SJ:∀ kS,s.heap.objs.size<=kS->SortJ prog w A vs f lt a kS (J kS))
 (h0:∀ kS h',(∀ b o,b≠a->s.heap.get? b=some o->h'.get? b=some o)->s.heap.objs.size<=kS->J kS [] { s with heap:=h' })
 (h:∀ kS ks s' p c,s.heap.objs.size<=kS->J kS ks s'->ks.length=vs.length->OkP vs.length p->SoP lt p vs.length->s'.heap.get? a=some (seqObj "list" (p.toList.map fun i=>vs.getD i Value.none).toArray c)->P (.done (.ret .none)) s') :
 wpAny (model prog w) A (ksk_tree a f false) P E s:=by
 have hlt:a<s.heap.objs.size:=YaX ho;obtain⟨e1,ho1⟩:∃ e1,(s.heap.update a (Obj.mapSeq fun _=>(#[]:Array Value))).get? a=some (seqObj "list" #[] e1):=⟨_,get?_update_seq ho fun _=>#[]⟩
 have hkS:((s.heap.update a (Obj.mapSeq fun _=>(#[]:Array Value))).push (seqObj "tuple" vs.toArray 0)).objs.size=s.heap.objs.size+1:=by rw [size_push',Wa9]
 unfold ksk_tree;refine wpAny_bind (listItems_at ho rfl ?_);refine wpAny_bind (listUpdate_at ho rfl ?_ (by rw [YaZ,sizeLine_eq];omega) (WbG _))
 refine wpAny_bind (seqEpoch_at ho1 rfl ?_)
 refine wpAny_bind (wpAny_newTuple ?_ (by show vs.length<=_;rw [sizeLine_eq];omega))
 refine wpAny_bind (wpAny_newList ?_ (WbG _))
 refine wpAny_holding ?_
 show wpAny _ _ (ksk_rest a f false vs.toArray e1 (.ref ((s.heap.update a (Obj.mapSeq fun _=>(#[]:Array Value))).push (seqObj "tuple" vs.toArray 0)).objs.size)) _ _ { s with heap:=((s.heap.update a (Obj.mapSeq fun _=>(#[]:Array Value))).push (seqObj "tuple" vs.toArray 0)).push (seqObj "list" #[] 0) }
 have kk:(((s.heap.update a (Obj.mapSeq fun _=>(#[]:Array Value))).push (seqObj "tuple" vs.toArray 0)).push (seqObj "list" #[] 0)).get? ((s.heap.update a (Obj.mapSeq fun _=>(#[]:Array Value))).push (seqObj "tuple" vs.toArray 0)).objs.size=some (seqObj "list" #[] 0):=Yan _ rfl
 generalize hK:((s.heap.update a (Obj.mapSeq fun _=>(#[]:Array Value))).push (seqObj "tuple" vs.toArray 0)).objs.size=kS at kk ⊢
 rw [hkS] at hK;have hge:s.heap.objs.size<=kS:=#[0]
 have hne:a≠kS:=Yaf (YaU hlt hge);have sj:=SJ kS hge;unfold ksk_rest;refine wpAny_bind (wpAny_rule ?_)
 first
  | rw [List.forIn_toArray]
  | (rw [<-Array.forIn_toList];simp only [List.toList_toArray])
  | rw [<-Array.forIn_toList]
 refine wpAny_bind (wpAny_mono (zcG (E:=E) sj hne h64 (e1:=e1) (fun x ks e s' C hz hx hc=>?_) vs [] 0 _ rfl (by simp) kk (YaW _ (YaW _ ho1)) (h0 kS _ (fun b o n q=>YaW _ (YaW _ (by rw [zcb n];exact q))) hge)) (fun _ s' hd=>?_) fun _ _ x=>x)
 . refine wpAny_bind (wpAny_attempt (wpAny_mono hc (fun k s'' hk=>?_) fun _ _ hF=>hF.elim))
   try dsimp only
   have hx':s''.heap.get? kS=some (seqObj "list" (List.toArray ks) e):=hk.2.trans hx;refine wpAny_bind (listUpdate_at hx' rfl ?_ (by rw [YaZ,sizeLine_eq];omega) (Ya5 (Nat.le_of_eq (Array.size_push ..)) (by rw [YaZ,sizeLine_eq];omega)))
   exact wpAny_pure ⟨rfl,k,s'',hk.1,rfl⟩
 . obtain⟨ks,e,hk',ha',hl,j⟩:=hd
   try dsimp only
   refine wpAny_bind (listItems_at hk' rfl ?_)
   exact znD sj O hne h64 hk' ha' hl j fun s' p c j' ok so g=>h kS ks s' p c hge j' hl ok so g
theorem zhX{l:Addr}{kf:Addr}{s:Shared}{Q:Value->Shared->Prop}{J:Addr->Addr->List Value->Shared->Prop}(hl:s.heap.IsList l vs.toArray)(h64:vs.length<1000)(O:Ordr lt vs.length)
 (SJ:∀ D kS,s.heap.objs.size<=D->D<kS->SortJ prog w A.in1.in1 vs (.ref kf) lt D kS (J D kS))
 (h0:∀ D kS h',(∀ b o,s.heap.get? b=some o->h'.get? b=some o)->s.heap.objs.size<=D->D<kS->J D kS [] { s with heap:=h' })
 (h:∀ D kS ks s' p c,s.heap.objs.size<=D->D<kS->J D kS ks s'->ks.length=vs.length->OkP vs.length p->SoP lt p vs.length->s'.heap.get? D=some (seqObj "list" (p.toList.map fun i=>vs.getD i Value.none).toArray c)->Q (.ref D) s') :
 wpAny (model prog w) A (call (.builtin "sorted") [.ref l] [(Str.ofString "key", .ref kf)]) Q E s:=by
 refine call_function_entry_kw kind_sorted plain_sorted entry_sorted (ksk_s1 _ _) ?_
 unfold Builtin.«sorted»;refine wpAny_bind (m:=checkCount "sorted" 1 1 _) (wpAny_pure ?_);refine wpAny_bind (collect_list hl ?_ (by rw [sizeLine_eq];omega))
 refine wpAny_bind (wpAny_newList ?_ (by rw [sizeLine_eq];omega))
 have hsz:((s.heap.push (seqObj "list" #[] 0)).update s.heap.objs.size (Obj.mapSeq (· ++ vs.toArray))).objs.size=s.heap.objs.size+1:=by
  rw [Wa9,size_push']
 have hoL:(((s.heap.push (seqObj "list" #[] 0)).update s.heap.objs.size (Obj.mapSeq (· ++ vs.toArray))).push (seqObj "list" vs.toArray 0)).get? (s.heap.objs.size+1)=some (seqObj "list" vs.toArray 0):=by
  rw [<-hsz];exact Yan _ rfl
 have keep:∀ b o,s.heap.get? b=some o->(((s.heap.push (seqObj "list" #[] 0)).update s.heap.objs.size (Obj.mapSeq (· ++ vs.toArray))).push (seqObj "list" vs.toArray 0)).get? b=some o:=fun b o q=>by
  have hlt:b<s.heap.objs.size:=YaX q;rw [WaV _ _ _ (by rw [hsz];exact Yaf (WaP hlt)),WaE _ _ _ _ (Yaf hlt),WaV _ _ _ (Yaf hlt)]
  exact q
 have hsz2:(((s.heap.push (seqObj "list" #[] 0)).update s.heap.objs.size (Obj.mapSeq (· ++ vs.toArray))).push (seqObj "list" vs.toArray 0)).objs.size=s.heap.objs.size+2:=by rw [size_push',hsz]
 show wpAny _ _ _ _ _ { s with heap:=((s.heap.push (seqObj "list" #[] 0)).update s.heap.objs.size (Obj.mapSeq (· ++ vs.toArray))).push (seqObj "list" vs.toArray 0) }
 rw [hsz];refine wpAny_bind (wpAny_holding (wpAny_call_entry_kw slot_list_sort ⟨_,hoL,rfl⟩ entry_list_sort ?body (ksk_l1 _ _)))
 case body=>
  show wpAny (model prog w) A.in1.in1 (Builtin.«list.sort» ⟨[.ref (s.heap.objs.size+1)],[(Str.ofString "key", .ref kf)]⟩) _ _ _
  rw [ksk_t1];have key:∀ kS,(((s.heap.push (seqObj "list" #[] 0)).update s.heap.objs.size (Obj.mapSeq (· ++ vs.toArray))).push (seqObj "list" vs.toArray 0)).objs.size<=kS->s.heap.objs.size+2<=kS:=fun kS q=>by rw [hsz2] at q;exact q
  refine znW (J:=fun kS ks s'=>J (s.heap.objs.size+1) kS ks s') (s:={ s with heap:=((s.heap.push (seqObj "list" #[] 0)).update s.heap.objs.size (Obj.mapSeq (· ++ vs.toArray))).push (seqObj "list" vs.toArray 0) }) hoL h64 O
   (fun kS hk=>SJ _ kS #[0] (by have:=key kS hk;omega)) (fun kS h' hk hge=>h0 _ kS h' (fun b o q=>hk b o (Yaf (WaP (YaX q))) (keep b o q)) #[0] (by have:=key kS hge;omega))
   fun kS ks s' p c hge j hl' ok so g=>⟨_,rfl,wpAny_pure ⟨_,rfl,h _ kS ks s' p c #[0] (by have:=key kS hge;omega) j hl' ok so g⟩⟩
end
end L3
namespace L2
open PySem PySem.Spec PyProof.Rows
def Zd(X:Cx)(N:List Str)(qual:Str)(scope:Scope)(f:Addr)(cd:Value)(cl:List (Str×Addr))(A:Around)(s:Shared)(H:Hp):Cx where
 prog:=X.prog
 w:=X.w
 K:=X.K
 mg:=X.mg
 base:=X.base
 A:=A.deeper (PySem.W.envX qual scope s.heap.objs.size f cd cl)
 N:=N
 s₀:=s
 H₀:=H
 env:=PySem.W.envX qual scope s.heap.objs.size f cd cl
 outer:=X.stack
 stack:=PySem.W.envX qual scope s.heap.objs.size f cd cl::X.stack
 ex:=[]
 calm:=true
 fn:=fun _=>false
 pn:=[]
 xe:=fun _ _=>False
structure LamSc(sc:Scope)(x y:Str):Prop where
 kind:sc.kind=.function
 co:sc.isCoroutine=false
 gen:sc.isGenerator=false
 nocell:∀ z∈sc.names,z.2≠.cell
 par:sc.names.lookup x=some .local
 cap:sc.names.lookup y=some .free
 only:∀ z,sc.names.lookup z=some .free->z=y
theorem LamSc.of{sc:Scope}{x y:Str}(only:(sc.names.all fun p=>(p.2 != .free||p.1==y)&&p.2 != .cell)=true)(kind:sc.kind=.function)(co:sc.isCoroutine=false)(gen:sc.isGenerator=false)(par:sc.names.lookup x=some .local)(cap:sc.names.lookup y=some .free)(_:True):LamSc sc x y where
 kind:=kind
 co:=co
 gen:=gen
 nocell:=fun z hz e=>by
  have:=Wa7.mp only z hz;rw [e] at this
  simp at this
 par:=par
 cap:=cap
 only:=fun z hz=>by
  have:=Wa7.mp only _ (WaC hz)
  simp at this
  exact this
theorem zdl{α β : Type}[BEq α][LawfulBEq α]{l:List (α×β)}{a:α}{b:β}(h:l.lookup a=some b):(a,b)∈l:=by
 induction l with
 | nil=>cases h
 | cons p r ih=>
  obtain⟨c,d⟩:=p;rw [List.lookup_cons] at h;cases e:a==c with
  | true=>rw [e] at h;cases h;rw [eq_of_beq e];exact .head _
  | false=>rw [e] at h;exact .tail _ (ih h)
section
variable{X:Cx}{pins:List (Addr×Obj)}{σ : St}{H:Hp}{s:Shared}{x y qual:Str}{sc:Scope}{f c:Addr}{cd:Value}{A:Around}{u tu:Value}{v tv:V}
theorem znK(S:LamSc sc x y)(hxy:x≠y)(I:Inv X pins σ H s)(hA:A.frames=some X.stack)(hh:A.handled=none)(ru:RelV v u)(rt:RelV tv tu)(hc:s.heap.IsCell c (some tu))(hcf:H c=none){h₁ : Heap}{tk:Nat}
 (hns:h₁.Ns s.heap.objs.size fun z=>[(x,u)].reverse.lookup z) (hk:∀ b o,s.heap.get? b=some o->h₁.get? b=some o) :
 Inv (Zd X [x,y] qual sc f cd [(y,c)] A s H) [] [some v,some tv] H { s with heap:=h₁,toks:=tk }:=by
 have hcs:c<s.heap.objs.size:=by obtain⟨o,e,_⟩:=hc;exact YaX e
 have hc1:h₁.IsCell c (some tu):=by obtain⟨o,e,d⟩:=hc;exact⟨o,hk _ _ e,d⟩
 have lk:∀ z c',([(y,c)]:List (Str×Addr)).lookup z=some c'->z=y/\c'=c:=fun z c' e=>by
  have:=zdl e
  simp at this
  exact this
 have noA:∀ b:Addr,b∉(Zd X [x,y] qual sc f cd [(y,c)] A s H).ex:=fun b z=>absurd (show b∈([]:List Addr) from z) (by simp)
 refine⟨⟨I.ok.mod,S.kind,rfl,rfl,YaY _,fun a b d h1 h2=>?_,fun a ha=>?_,fun a d hf _=>absurd (show false=true from hf) (by simp),fun _=>hh,Around.frames_deeper hA,.inr ⟨rfl,rfl⟩,fun b z=>absurd z (noA b),I.bs,Ya5 I.ok.bsz I.sz,fun b _ _=>noA b,fun b z=>absurd z (noA b),I.stack,I.stkFree⟩,
  rfl,I.bare,Un.kept hk,⟨_,hns,fun i z w h1 h2 h3=>?_⟩,fun a d h=>?_,I.hok.fresh (YaY _),fun a d h=>?_,fun p hp=>absurd (show p∈([]:List (Addr×Obj)) from hp) (by simp),I.hok.kept hk,rfl⟩
 . rw [(lk _ _ h1).1,(lk _ _ h2).1]
 . have ha:sc.names.lookup a=some .cell\/sc.names.lookup a=some .free:=ha
   rcases ha with ha|ha
   . exact absurd rfl (S.nocell _ (zdl ha))
   . rw [S.only a ha];exact⟨c,by show List.lookup y [(y,c)]=_;simp⟩
 . have h1:([x,y]:List Str)[i]?=some z:=h1
   match i,h1,h2 with
   | 0,h1,h2=>
    cases h1;cases h2
    exact⟨u,ru,.inl ⟨S.par,by simp⟩⟩
   | 1,h1,h2=>
    cases h1;cases h2
    exact⟨tu,rt,.inr ⟨.inr S.cap,c,by show List.lookup y [(y,c)]=_;simp,hc1⟩⟩
   | i+2,h1,h2=>simp at h1
 . have:=(lk _ _ h).2;rw [this];exact⟨_,hc1⟩
 . have:=(lk _ _ h).2;rw [this];exact hcf
theorem zkL(S:LamSc sc x y)(hxy:x≠y)(I:Inv X pins σ H s)(hA:A.frames=some X.stack)(hh:A.handled=none)(hroom:A.depth<recursionLimit)(ru:RelV v u)(rt:RelV tv tu)(hc:s.heap.IsCell c (some tu))(hcf:H c=none)
 {params:Arguments} {body:Expr} {name:Str} {pm ctv:Value} {cd':Addr} {t:TE} {Q:VK}
 (hf:s.heap.get? f=some (PySem.W.kla_obj name qual params body sc [(y,c)] pm cd' ctv)) (hcd:s.heap.CodeRec (.ref cd') qual)
 (hbind:bindArgs (PySem.W.kla_fn name qual params body sc [(y,c)] pm (.ref cd') ctv) ⟨[u],[]⟩=pure [(x,u)])
 (hb:PE (Zd X [x,y] qual sc f (.ref cd') [(y,c)] A s H) body t) (ht:t [some v,some tv] H Q) :
 wpAny (model X.prog X.w) A (call (.ref f) [u]) (fun r s'=>∃ v' H',Inv X pins σ H' s'/\Un (frs X.stack) [] H H' s.heap s'.heap/\RelV v' r/\Q v' H') (fun _ _=>False) s:=by
 refine wpAny_call (PySem.W.kla_callFunE hroom hf rfl S.co S.gen rfl hcd ?_)
 rw [hbind];refine wpAny_pure (wpAny_newFunctionEnv S.nocell (fun z hz=>?_) (fun h₁ hns hsb=>⟨I.nolimit.fresh _ hsb,?_⟩) S.kind)
 . obtain rfl:z=(x,u):=Ya6.mp hz
   exact S.par
 show codeAny _ _ (.expr body (PySem.W.envX qual sc s.heap.objs.size f (.ref cd') [(y,c)])) _ _
 have hk₁ : ∀ b o,s.heap.get? b=some o->h₁.get? b=some o:=fun b o e=>hsb.extBut b o (Yaf (YaX e)) (YaW _ e)
 have I1:=znK (cd:=.ref cd') (f:=f) (qual:=qual) (tk:=s.toks+[(x,u)].length) S hxy I hA hh ru rt hc hcf hns hk₁;refine PySem.W.kla_codeExpr (wpAny_mono (hb [] _ _ H Q I1 ht) (fun r s' hr=>?_) fun _ _ z=>z.elim)
 obtain⟨v',H',I2,r',q⟩:=hr;exact⟨v',H',I.call' I2.os I2.base I2.hok I2.bare (fun b z=>absurd (show b∈([]:List Addr) from z) (by simp)),I2.base,r',q⟩
end
end L2
namespace L3
open PySem PySem.W PySem.Calls PyProof.Rows
abbrev K3:=Int×Int×Int
def lex3(a b:K3):Bool:=decide (a.1<b.1\/a.1=b.1/\(a.2.1<b.2.1\/a.2.1=b.2.1/\a.2.2<b.2.2))
theorem zmv{kk:List K3}(nd:kk.Nodup):Ordr (fun i j=>lex3 (kk.getD i (0,0,0)) (kk.getD j (0,0,0))) kk.length where
 tr:=fun i j k h1 h2=>by
  have h1:=of_decide_eq_true h1;have h2:=of_decide_eq_true h2;exact decide_eq_true #[0]
 as:=fun i j h=>by
  have h:=of_decide_eq_true h;exact decide_eq_false #[0]
 co:=fun i j hi hj ne=>by
  have e1:kk.getD i (0,0,0)=kk[i]:=by rw [YaP,YaQ hi];rfl
  have e2:kk.getD j (0,0,0)=kk[j]:=by rw [YaP,YaQ hj];rfl
  have h:kk[i]≠kk[j]:=fun e=>ne ((Wa3 nd).mp e)
  show decide _=true\/decide _=true
  rw [e1,e2,decide_eq_true_eq,decide_eq_true_eq];generalize kk[i]=a at h;generalize kk[j]=b at h;obtain⟨a1,a2,a3⟩:=a;obtain⟨b1,b2,b3⟩:=b;have h:¬(a1=b1/\a2=b2/\a3=b3):=fun⟨x,y,z⟩=>h (by rw [x,y,z])
  dsimp only
  omega
def zaA(h:Heap)(u:Value)(k:K3):Prop:=∃ a t1 t2 t3,u=.ref a/\IsTup h a #[.int k.1 t1,.int k.2.1 t2,.int k.2.2 t3]
section
variable{prog:Program}{w:World}{A:Around}{s:Shared}
theorem ask3{u u':Value}{k k':K3}{C:Bool->Shared->Prop}(h:zaA s.heap u k)(h':zaA s.heap u' k')(hC:C (lex3 k k') s):wpAny (model prog w) A (keyLt' (tuples' true) u u') C (fun _ _=>False) s:=by
 obtain⟨a,t1,t2,t3,rfl,o,ho,hc,n,hd⟩:=h;obtain⟨b,u1,u2,u3,rfl,o',ho',hc',n',hd'⟩:=h';obtain⟨k1,k2,k3⟩:=k;obtain⟨m1,m2,m3⟩:=k';refine kat_lt ho hd ho' hd' ?_;show KatLex prog w A true _ C [(.int k1 t1,.int m1 u1),(.int k2 t2,.int m2 u2),(.int k3 t3,.int m3 u3)] 0 s;have fin:∀ b:Bool,b=lex3 (k1,k2,k3) (m1,m2,m3)->C b s:=fun b e=>by rw [e];exact hC
 refine kat_cons (wpAny_eqBool_int (kat_go (fun e=>kat_yes ?_) (fun e=>kat_no ?_)))
 . have e1:k1=m1:=eq_of_beq e
   refine kat_cons (wpAny_eqBool_int (kat_go (fun e=>kat_yes ?_) (fun e=>kat_no ?_)))
   . have e2:k2=m2:=eq_of_beq e
     refine kat_cons (wpAny_eqBool_int (kat_go (fun e=>kat_yes (kat_nil ?_)) (fun e=>kat_no ?_)))
     . have e3:k3=m3:=eq_of_beq e
       refine fin _ ?_
       show decide (3<3)=_
       rw [decide_eq_false #[0]]
       exact(decide_eq_false #[0]).symm
     . refine kat_one _ _ (lt_int (fin _ ?_))
       unfold lex3;rw [decide_eq_decide];omega
   . have e2:k2≠m2:=fun z=>by rw [z] at e;simp at e
     refine kat_one _ _ (lt_int (fin _ ?_))
     unfold lex3;rw [decide_eq_decide];omega
 . have e1:k1≠m1:=fun z=>by rw [z] at e;simp at e
   refine oneLt_int (fin _ ?_)
   unfold lex3;rw [decide_eq_decide];omega
def JO(h:Heap):List Value->List K3->Prop
 | [],[]=>True
 | u::us,k::kk=>zaA h u k/\JO h us kk
 | _,_=>False
theorem JO.get{h:Heap}:∀ {us:List Value} {kk:List K3} {i:Nat},JO h us kk->i<kk.length->zaA h (us.getD i .none) (kk.getD i (0,0,0))
 | [],[],i,_,hi=>by simp at hi
 | [],_::_,_,x,_=>x.elim
 | _::_,[],_,x,_=>x.elim
 | u::us,k::kk,0,x,_=>x.1
 | u :: us, k :: kk, i + 1, x, hi => by
  have:=JO.get (i:=i) x.2 (by simpa using hi)
  simpa using this
theorem zcO{h:Heap}:∀ {us:List Value} {kk:List K3},JO h us kk->∃ fs,KatTups h us fs/\fs.length=us.length/\∀ v∈fs,∃ i t,v=Value.int i t
 | [],[],_=>⟨[],trivial,rfl,fun v hv=>by cases hv⟩
 | [],_::_,x=>x.elim
 | _::_,[],x=>x.elim
 | u :: us, k :: kk, x => by
  obtain⟨⟨a,t1,t2,t3,rfl,o,ho,hc,n,hd⟩,x⟩:=x;obtain⟨fs,h1,h2,h3⟩:=zcO x;exact⟨.int k.1 t1::fs,.cons ho hc hd rfl h1,by rw [List.length_cons,List.length_cons,h2],fun v hv=>by
   rcases Wbo.mp hv with z|z
   . exact⟨_,_,z⟩
   . exact h3 v z⟩
theorem zgd{us:List Value}{kk:List K3}{Q:SortKind->Shared->Prop}{E:Value->Shared->Prop}(h:JO s.heap us kk)(hn:2<=us.length)(hQ:Q (tuples' true) s):wpAny (model prog w) A (keyKind' us.toArray) Q E s:=by
 obtain⟨fs,h1,h2,h3⟩:=zcO h;refine kat_kind (T:=.type "int") h1 #[0] (fun v hv=>?_) #[1] hQ
 obtain⟨i,t,rfl⟩:=h3 v hv;exact fun A Q E s k q=>wpAny_pure q
end
end L3
namespace L3
open PySem PySem.Spec PyProof.Rows L2
variable[LamW]
def KeyV(K:Ybf)(H:Hp)(u:Value)(k:K3):Prop:=∃ a,u=.ref a/\SqT K H a [.int k.1,.int k.2.1,.int k.2.2]
def z7(K:Ybf)(H:Hp):List Value->List K3->Prop
 | [],[]=>True
 | u::us,k::kk=>KeyV K H u k/\z7 K H us kk
 | _,_=>False
theorem KeyV.same{K:Ybf}{H H':Hp}{u:Value}{k:K3}(h:KeyV K H u k)(e:zm H H'):KeyV K H' u k:=let ⟨a,h1,h2⟩:=h;⟨a,h1,e.tup h2⟩
theorem z7.same{K:Ybf}{H H':Hp}(e:zm H H'):∀ {us:List Value} {kk:List K3},z7 K H us kk->z7 K H' us kk
 | [],[],_=>trivial
 | [],_::_,x=>x.elim
 | _::_,[],x=>x.elim
 | _::_,_::_,x=>⟨x.1.same e,z7.same e x.2⟩
theorem z7.snoc{K:Ybf}{H:Hp}{u:Value}{k:K3}(h:KeyV K H u k):∀ {us:List Value} {kk:List K3},z7 K H us kk->z7 K H (us++[u]) (kk++[k])
 | [],[],_=>⟨h,trivial⟩
 | [],_::_,x=>x.elim
 | _::_,[],x=>x.elim
 | _::_,_::_,x=>⟨x.1,z7.snoc h x.2⟩
theorem z7.len{K:Ybf}{H:Hp}:∀ {us:List Value} {kk:List K3},z7 K H us kk->us.length=kk.length
 | [],[],_=>rfl
 | [],_::_,x=>x.elim
 | _::_,[],x=>x.elim
 | _::_,_::_,x=>by rw [List.length_cons,List.length_cons,z7.len x.2]
theorem ziH{X:Cx}{pins:List (Addr×Obj)}{σ : L2.St}{H:Hp}{s:Shared}{u:Value}{k:K3}(I:Inv X pins σ H s)(h:KeyV X.K H u k):zaA s.heap u k:=by
 obtain⟨a,rfl,h⟩:=h;obtain⟨its,r,it,_⟩:=I.tuple h;cases r with
 | cons r1 r=>
  cases r with
  | cons r2 r=>
   cases r with
   | cons r3 r=>
    cases r;obtain⟨t1,rfl⟩:=r1
    obtain⟨t2,rfl⟩:=r2;obtain⟨t3,rfl⟩:=r3;exact⟨a,t1,t2,t3,rfl,it⟩
theorem zco{X:Cx}{pins:List (Addr×Obj)}{σ : L2.St}{H:Hp}{s:Shared}(I:Inv X pins σ H s):∀ {us:List Value} {kk:List K3},z7 X.K H us kk->JO s.heap us kk
 | [],[],_=>trivial
 | [],_::_,x=>x.elim
 | _::_,[],x=>x.elim
 | _::_,_::_,x=>⟨ziH I x.1,zco I x.2⟩
end L3
namespace L2
open PySem PySem.Spec PyProof.Rows
variable[LamW]
def TabS(b:Bool)(P:Addr)(H:Hp):Prop:=match b with
 | true=>H P=some (tab0 P)
 | false=>Lk P H
def MvS(b:Bool)(P:Addr)(H H1:Hp):Prop:=match b with
 | true=>(∃ c',H c'=none/\H1=upd (upd H P (tabA P c' LamW.pos)) c' (jt c' LamW.q))/\(∀ C,tab0 P≠excO P C)/\∀ q,tab0 P≠jt P q
 | false=>H1=H
theorem TabS.at{b:Bool}{P:Addr}{H:Hp}(h:TabS b P H):∃ o,H P=some o:=by
 cases b with
 | true=>exact⟨_,h⟩
 | false=>
  obtain⟨_,h,_⟩:=h;exact⟨_,h⟩
theorem MvS.x{b:Bool}{P:Addr}{H H1:Hp}(l:TabS b P H)(m:MvS b P H H1):zm H H1:=by
 cases b with
 | true=>
  obtain⟨⟨c',hc,rfl⟩,n⟩:=m;have l:H P=some (tab0 P):=l;have ne:P≠c':=fun z=>by rw [z,hc] at l;cases l
  intro a o e;have na:a≠c':=fun z=>by rw [z,hc] at e;cases e
  by_cases h:a=P
  . subst h
    rw [l] at e;cases e;exact .inr ⟨rfl,n,c',by rw [zh ne,zl],zl⟩
  . exact .inl (by rw [zh na,zh h];exact e)
 | false=>
  cases(show H1=H from m)
  exact zm.refl _
theorem zho{P:Addr}{h:Heap}(hp:h.get? P=some (PySem.W.tabObj #[])):(∀ C,tab0 P≠excO P C)/\∀ q,tab0 P≠jt P q:=by
 refine⟨fun C z=>?_,fun q z=>?_⟩
 . have e:(fun h:Heap=>h.get? P=some (PySem.W.tabObj #[]))=fun h=>∃ o vs,h.get? P=some o/\o.cls=.ref C/\o.data=.fields vs:=HO.ext.inj z
   have y:=(congrFun e h).mp hp;obtain⟨o,vs,h1,h2,_⟩:=y;rw [hp] at h1;cases h1;cases h2
 . have e:(fun h:Heap=>h.get? P=some (PySem.W.tabObj #[]))=fun h=>h.CodeRec (.ref P) q:=HO.ext.inj z
   have y:=(congrFun e h).mp hp;obtain⟨c2,oc,vs,t,e2,ho,hd,hv⟩:=y;cases e2;rw [hp] at ho;cases ho;cases hd;simp at hv
theorem zf3{P:Program}{w:World}{H:Hp}{h:Heap}{c':Addr}{q:Str}(r:h.CodeRec (.ref c') q):zD P w H h c' (jt c' q):=by
 obtain⟨c2,oc,vs,t,e,ho,hd,hv⟩:=id r;cases e;exact⟨r,⟨oc,ho⟩,fun h1 h2 ⟨c2,oc,vs,t,e,ho,hd,hv⟩ k=>by cases e;exact⟨_,oc,vs,t,rfl,k _ ho,hd,hv⟩⟩
section
variable{X:Cx}{pins:List (Addr×Obj)}{σ : St}{H:Hp}{s:Shared}{sc:Scope}{A:Around}{b:Bool}
theorem zmy(I:Inv X pins σ H s){P:Addr}{c0:Addr}{params:Arguments}{body:Expr}{pos:Pos}{clos:List (Str×Addr)}(hpos:pos=LamW.pos)(hqn:X.env.qual ++ "<lambda>" = LamW.q){Q:Value->Shared->Prop}{E:Value->Shared->Prop}
 (hP:TabS b P H) (hC:PySem.W.CodeHd X.base c0 P) (hcode:X.env.code=.ref c0) (hB:∃ bm o,X.mg "__builtins__" = some (.ref bm)/\bm≠builtinsNs/\bm≠mainGlobals/\X.base.get? bm=some o/\o.cls=.type "module"/\o.dict=some builtinsNs/\o.data=.plain)
 (hdef:defaultsOf params X.env=([],[])) (hcl:closureFor sc X.env=pure clos)
 (h:∀ f c' ctv s' H1,MvS b P H H1->H1 c'=some (jt c' (X.env.qual ++ "<lambda>"))->s.heap.objs.size<=f->
  Inv X (pins++[(f,PySem.W.kla_obj "<lambda>" (X.env.qual ++ "<lambda>") params body sc clos ((X.mg "__name__").getD .none) c' ctv)]) σ H1 s'->Q (.ref f) s') :
 wpAny (model X.prog X.w) A (eval (.Lambda params body sc pos) X.env) Q E s:=by
 have hPn:∃ o,H P=some o:=hP.at;have ne0:∀ b o,X.base.get? b=some o->b≠P:=fun b o e z=>by
  have:=(I.bs b o e).2;obtain⟨u,hu⟩:=hPn;rw [z,hu] at this;cases this
 have hg:=I.ok.mod.glob.keeps I.bk;have hgP:mainGlobals≠P:=by
  obtain⟨o,es,ep,e,_⟩:=I.ok.mod.glob;exact ne0 _ _ e
 obtain⟨bm,ob,b1,b2,b3,b4,b5⟩:=hB;cases b with
 | true=>
  have hP:H P=some (tab0 P):=hP;obtain⟨hp0,_,_⟩:=I.hok P _ hP;have hp0:s.heap.get? P=some (PySem.W.tabObj #[]):=hp0;refine PySem.W.kla_eval hdef (PySem.W.kla_makeFunction (mg:=X.mg) hcl I.ok.glob hg hcode (hC.keeps I.bk) hp0 trivial rfl hgP ⟨bm,ob,b1,b2,b3,ne0 _ _ b4,I.bk _ _ b4,b5⟩ fun c' ctv h' tk hx hge hlt hrec htb=>?_)
  have hk:∀ (o:Obj) b u,b≠P->s.heap.get? b=some u->(h'.push o).get? b=some u:=fun o b u hb e=>YaW _ (hx b u hb e)
  have hPlt:P<s.heap.objs.size:=YaX hp0;have hsz:s.heap.objs.size<=h'.objs.size:=Wbx (WaG hge hlt);have htb2:∀ o:Obj,(h'.push o).get? P=some (PySem.W.tabObj #[rawInt pos.line,rawInt pos.col,.ref c']):=fun o=>YaW _ (by simpa using htb)
  have I1:Inv X pins σ (upd H P (tabA P c' pos)) { s with heap:=h'.push (PySem.W.kla_obj "<lambda>" (X.env.qual ++ "<lambda>") params body sc clos ((X.mg "__name__").getD .none) c' ctv),toks:=tk }:=
   I.write (by rw [hP];trivial) (.inl rfl) (fun b u hb e=>hk _ b u hb e) ⟨_,htb2 _⟩ ⟨⟨_,htb2 _,by simpa using TriplesOk_snoc pos.line pos.col (.ref c') [] trivial,by simpa using codeAmong_snoc (pos:=pos) (c:=.ref c') [] trivial rfl⟩,⟨_,htb2 _⟩,fun h1 h2 ⟨ps,e,r⟩ k=>⟨ps,k _ e,r⟩⟩
  have hcn:H c'=none:=I.hok.fresh hge;have hcn1:upd H P (tabA P c' pos) c'=none:=by rw [zh (Wby (YaU hPlt hge))];exact hcn
  have I2:=I1.track (o:=jt c' (X.env.qual ++ "<lambda>")) hcn1 (Ya5 I.sz hge) (Wby (YaU I.lt hge)) (fun z c e q=>by
   obtain⟨v,o,ho,_⟩:=I.cell z c e;exact absurd (YaU (YaX ho) hge) (by rw [q];exact Yap _))
   (fun p hp q=>absurd (YaU (YaX (I.pin p hp).1) hge) (by rw [q];exact Yap _)) (zf3 (by
    obtain⟨c2,oc,vs,t,e,ho,hd,hv⟩:=hrec;cases e;exact⟨_,oc,vs,t,rfl,YaW _ ho,hd,hv⟩))
  have hfn:upd (upd H P (tabA P c' pos)) c' (jt c' (X.env.qual ++ "<lambda>")) h'.objs.size=none:=by
   rw [zh (Wby hlt),zh (Wby (YaU hPlt hsz))];exact I.hok.fresh hsz
  refine h h'.objs.size c' ctv _ _ ⟨⟨c',hcn,by rw [hqn,hpos]⟩,zho hp0⟩ zl hsz (I2.pins_of fun p hp=>?_)
  rcases Ya3.mp hp with hp|hp
  . exact I2.pin p (Yaa _ hp)
  . obtain rfl:=Ya6.mp hp
    exact⟨Yan _ rfl,hfn,Wby (YaU I.lt hsz),I.nofs hsz,fun v z=>by cases z⟩
 | false=>
  obtain⟨c',hP,hc'⟩:=hP;rw [<-hpos] at hP;rw [<-hqn] at hc';obtain⟨⟨ps,hp0,ht,hf⟩,_,_⟩:=I.hok P _ hP;refine PySem.W.kla_eval hdef (PySem.W.kla_makeFunctionHit (mg:=X.mg) hcl I.ok.glob hg hcode (hC.keeps I.bk) hp0 ht hf ⟨bm,ob,b1,b2,b3,ne0 _ _ b4,I.bk _ _ b4,b5⟩ fun ctv h' tk hk hsz=>?_)
  have I1:Inv X pins σ H { s with heap:=h'.push (PySem.W.kla_obj "<lambda>" (X.env.qual ++ "<lambda>") params body sc clos ((X.mg "__name__").getD .none) c' ctv),toks:=tk }:=I.kept (t':=tk) fun b o e=>YaW _ (hk b o e)
  refine h h'.objs.size c' ctv _ H rfl hc' hsz (I1.pins_of fun p hp=>?_)
  rcases Ya3.mp hp with hp|hp
  . exact I1.pin p (Yaa _ hp)
  . obtain rfl:=Ya6.mp hp
    exact⟨Yan _ rfl,I.hok.fresh hsz,Wby (YaU I.lt hsz),I.nofs hsz,fun v z=>by cases z⟩
end
end L2
namespace L3
open PySem PySem.Spec PyProof.Rows L2
variable[LamW]
theorem Rf.h0{K:Ybf}{H0 H1 G:Hp}{f:Bool}{v:V}{d:D}(r:Rf K H0 G f v d)(h:∀ a o,G a=some o->H0 a=none->H1 a=none):Rf K H1 G f v d:=⟨r.rd,fun z=>jn (Same.refl _) h (r.nw z)⟩
theorem Rfs.h0{K:Ybf}{H0 H1 G:Hp}{f:Bool}{v:List V}{d:List D}(r:Rfs K H0 G f v d)(h:∀ a o,G a=some o->H0 a=none->H1 a=none):Rfs K H1 G f v d:=⟨r.rd,fun z=>rdns_mono (Same.refl _) h (r.nw z)⟩
def kd3(k:K3):D:=.tuple [.int k.1,.int k.2.1,.int k.2.2]
theorem zfv{K:Ybf}{G:Hp}{xs:List V}{ds:List D}(r:RdVs K G xs ds):∀ {p:List Nat},(∀ i∈p,i<ds.length)->RdVs K G (p.map fun i=>xs.getD i V.non) (p.map fun i=>ds.getD i PyData.none)
 | [],_=>.nil
 | i :: p, h => by
  have hi:=h i YaV;obtain⟨x,h1,h2⟩:=r.get (YaQ hi);refine .cons ?_ (zfv r fun j hj=>h j (YaT _ hj))
  show RdV K G (xs.getD i V.non) (ds.getD i PyData.none)
  rw [YaP,YaP,h1,YaQ hi];exact h2
theorem zcq{xs:List V}{us:List Value}(r:Vals xs us):∀ {p:List Nat},(∀ i∈p,i<us.length)->Vals (p.map fun i=>xs.getD i V.non) (p.map fun i=>us.getD i Value.none)
 | [],_=>.nil
 | i :: p, h => by
  have hi:=h i YaV;have hi':i<xs.length:=by rw [r.length];exact hi
  obtain⟨u,h1,h2⟩:=r.get (YaQ hi');refine .cons ?_ (zcq r fun j hj=>h j (YaT _ hj))
  show RelV (xs.getD i V.non) (us.getD i Value.none)
  rw [YaP,YaP,h1,YaQ hi'];exact h2
theorem zeP{α : Type}{p:Array Nat}{ds:List α}(o:α)(h:OkP ds.length p):(p.toList.map fun i=>ds.getD i o).Perm ds:=by
 have h1:=h.map fun i=>ds.getD i o
 have h2:((List.range ds.length).map fun i=>ds.getD i o)=ds:=by
  refine List.ext_getElem (by simp) fun i h1 h2=>?_
  rw [List.getElem_map,List.getElem_range,YaP,YaQ h2]
  rfl
 rw [h2] at h1;exact h1
theorem zjA{α : Type}{p:Array Nat}{ds:List α}(o:α)(key:α->K3)(h:OkP ds.length p)(s:SoP (fun i j=>lex3 ((ds.map key).getD i (0,0,0)) ((ds.map key).getD j (0,0,0))) p ds.length):(p.toList.map fun i=>ds.getD i o).Pairwise fun a b=>lex3 (key a) (key b)=true:=by
 rw [WaW,Wai];intro i j hi hj hij;have hs:=h.size;have hi':i<p.size:=by simpa using hi
 have hj':j<p.size:=by simpa using hj
 have:lex3 ((ds.map key).getD (gp p i) (0,0,0)) ((ds.map key).getD (gp p j) (0,0,0))=true:=s i j hij #[0]
 have e:∀ k (hk:k<p.size),gp p k=p.toList[k]'(by simpa using hk):=fun k hk=>by simp [gp,Array.getD,hk]
 rw [e i hi',e j hj'] at this;have b:∀ k (hk:k<p.size),p.toList[k]'(by simpa using hk)<ds.length:=fun k hk=>by rw [<-e k hk];exact h.below #[0]
 have f:∀ m,m<ds.length->(ds.map key).getD m (0,0,0)=key (ds.getD m o):=fun m hm=>by simp [YaP,hm]
 rw [f _ (b i hi'),f _ (b j hj')] at this;exact this
def BMod(mg:Str->Option Value)(base:Heap):Prop:=∃ bm o,mg "__builtins__" = some (.ref bm)/\bm≠builtinsNs/\bm≠mainGlobals/\base.get? bm=some o/\o.cls=.type "module"/\o.dict=some builtinsNs/\o.data=.plain
structure LamIn(X:Cx)(P c0 cy:Addr)(x y:Str)(it:Nat)(params:Arguments)(body:Expr)(sc:Scope):Prop where
 S:LamSc sc x y
 ne:x≠y
 ix:X.N[it]?=some y
 kd:X.env.kindOf y=some .cell
 lk:X.env.cells.lookup y=some cy
 hd:PySem.W.CodeHd X.base c0 P
 code:X.env.code=.ref c0
 bm:BMod X.mg X.base
 defs:defaultsOf params X.env=([],[])
 clos:closureFor sc X.env=pure [(y,cy)]
 bind:∀ pm cd ctv u,bindArgs (PySem.W.kla_fn "<lambda>" (X.env.qual ++ "<lambda>") params body sc [(y,cy)] pm cd ctv) ⟨[u],[]⟩=pure [(x,u)]
def zjJ(K:Ybf)(H0:Hp)(N:List Str)(iw it:Nat)(tb:TE3):TE:=fun σ H Q=>∃ G0 ρ G,Fr3 K H0 G0 ρ σ G H/\∃ (f:Bool) (ds:List D) (T:Int) (key:D->K3),
 ρ[iw]?=some (some (.sh f (.list ds)))/\ρ[it]?=some (#[5,T])/\ds.length<1000/\(∀ d∈ds,tb (z5 N [d,.int T]) fun c=>∃ f,c=.sh f (kd3 (key d)))/\(ds.map key).Nodup/\
 ∀ ds':List D,ds'.Perm ds->ds'.Pairwise (fun a b=>lex3 (key a) (key b)=true)->∀ l vs H',H' l=none->zm H H'->RdVs K G vs ds'->Q (.ref l) (upd H' l (.lst vs))
section
variable{X:Cx}{H0:Hp}{P c0 cy:Addr}{x y wn xn:Str}{i iw it k:Nat}{sc:Scope}{params:Arguments}{body:Expr}{tb:TE3}{np wp kp lp cpos pos pos':Pos}
theorem zgp(tu:TabU P H0)(hpos:lp=LamW.pos)(hqn:X.env.qual ++ "<lambda>" = LamW.q)(hw:X.N[iw]?=some wn)(hwv:Vis X.env.scope wn)(hwd:(wn==("__debug__" : Str))=false)(hwc:(wn==("__classdict__" : Str))=false)(L:LamIn X P c0 cy x y it params body sc)(hr:Room (k+3) X.A)
 (hb:∀ f cd' s H',Room k (Zd X [x,y] (X.env.qual ++ "<lambda>") sc f cd' [(y,cy)] X.A.in1.in1 s H').A->PE3 (Zd X [x,y] (X.env.qual ++ "<lambda>") sc f cd' [(y,cy)] X.A.in1.in1 s H') H' body tb)
 (hg:Gl X "sorted") (hm:X.mg "sorted" = none):PE X (.Call (.Name "sorted" np) [.Name wn wp] [⟨some "key", .Lambda params body sc lp,kp⟩] cpos) (zjJ X.K H0 [x,y] iw it tb):=by
 intro pins s σ H Q I hyp;obtain⟨G0,ρ,G,F,f,ds,T,key,hw',ht',h64,hkey,hnd,cont⟩:=hyp;obtain⟨wv,hwσ,ww⟩:=F.slot iw _ hw';obtain⟨tv,htσ,tw⟩:=F.slot it _ ht';obtain rfl:tv=.int T:=by
  cases tw with
  | sh r=>cases r.rd;rfl
 obtain⟨l,xs,rfl,hq,rs⟩:∃ l xs,wv=.ref l/\SqL X.K G l xs/\RdVs X.K G xs ds:=by
  cases ww with
  | sh r=>
   have rd:=r.rd;cases rd with
   | lst q rs=>exact⟨_,_,rfl,q,rs⟩
 obtain⟨b,hPH⟩:∃ b,TabS b P H:=(tu.same F.keep).elim (fun h=>⟨true,h⟩) fun h=>⟨false,h⟩
 refine wpAny_Call_Name_kw (j0 I hg hm (show bootBuiltins "sorted" = some (.builtin "sorted") by rfl) ?_)
 refine callWith_kw ?_
 refine thn ((jS (jd hw hwv hwd hwc) Jk) cpos pins s σ H (fun vs H1=>vs=[.ref l]/\H1=H) I ⟨_,hwσ,rfl,rfl⟩) fun us s1 h1=>?_
 obtain⟨vs,H1,I1,rv,e1,e2⟩:=h1;subst e1 e2;obtain rfl:us=[.ref l]:=by
  cases rv with
  | cons a b=>cases b;cases a;rfl
 show wpAny _ _ (evalAll [do let v <-eval (.Lambda params body sc lp) X.env;standAt cpos;pure v]) _ _ s1
 refine wpAny_evalAll_cons (wpAny_bind (zmy I1 hpos hqn hPH L.hd L.code L.bm L.defs L.clos fun fa c' ctv s2 HM mv hcH hf I2=>wpAny_bind (wpAny_standAt (wpAny_pure (wpAny_evalAll_nil ?_)))))
 show wpAny _ _ (call (.builtin "sorted") [.ref l] [(Str.ofString "key", .ref fa)]) _ _ s2
 have mx:zm H1 HM:=MvS.x hPH mv;have sG:Sub G HM:=F.sub.trans mx;obtain⟨its,rV,hpl,hz⟩:=I2.list (sG.seq hq);have hl1:its.length=ds.length:=by rw [<-rV.length,rs.length]
 have hlk:its.length=(ds.map key).length:=by rw [YaR,hl1]
 have nw:∀ b:Addr,s2.heap.objs.size<=b->X.s₀.heap.objs.size<=b/\b≠X.env.locals/\(∀ z c,X.env.cells.lookup z=some c->c≠b)/\(∀ p∈X.pn++(pins++[(fa,PySem.W.kla_obj "<lambda>" (X.env.qual ++ "<lambda>") params body sc [(y,cy)] ((X.mg "__name__").getD .none) c' ctv)]),p.1≠b)/\b∉frs X.stack:=fun b hb=>by
  refine⟨Ya5 I2.sz hb,Wby (YaU I2.lt hb),fun z c e=>?_,fun p hp=>?_,fun z=>?_⟩
  . obtain⟨v,o,ho,_⟩:=I2.cell z c e
    exact Yaf (YaU (YaX ho) hb)
  . exact Yaf (YaU (YaX (I2.pin p hp).1) hb)
  . rcases Wbo.mp (I2.stkSub b z) with q|q
    . exact Wby (YaU I2.lt hb) q
    . exact I2.nofs hb q
 refine zhX (lt:=fun i j=>lex3 ((ds.map key).getD i (0,0,0)) ((ds.map key).getD j (0,0,0))) (vs:=its) (kf:=fa)
  (J:=fun D kS ks s'=>∃ H',Inv X (pins++[(fa,PySem.W.kla_obj "<lambda>" (X.env.qual ++ "<lambda>") params body sc [(y,cy)] ((X.mg "__name__").getD .none) c' ctv)]) σ H' s'/\zm HM H'/\z7 X.K H' ks ((ds.map key).take ks.length)/\H' D=none/\H' kS=none)
  hpl.isList #[0] (by rw [hlk];exact zmv hnd) (fun D kS hD hlt=>?_) (fun D kS h' hk hD hlt=>?_) (fun D kS ks s' p c hD hlt hJ hl ok so ho=>?_)
 . have hkS:s2.heap.objs.size<=kS:=Ya5 hD (Wbx hlt)
   refine⟨fun ks s' h' b hJ hb sb=>?_,fun ks v r s' hdrop hJ hoD hoK=>?_,fun ks s' Q hJ hl h2 hQ=>?_,fun ks s' i j C hJ hl hi hj hC=>?_⟩
   . obtain⟨H',I',sm,kv,n1,n2⟩:=hJ
     have hbb:H' b=none/\s2.heap.objs.size<=b:=by
      rcases hb with rfl|rfl
      . exact⟨n1,hD⟩
      . exact⟨n2,hkS⟩
     obtain⟨w1,w2,w3,w4,_⟩:=nw b hbb.2;exact⟨H',I'.turned (t':=s'.toks) (fun c o ne e=>(sb.2 c ne).trans e) hbb.1 w2 (.inr w1) w3 w4,sm,kv,n1,n2⟩
   . obtain⟨H',I',sm,kv,n1,n2⟩:=hJ
     obtain⟨oD,eD⟩:=hoD;obtain⟨oK,eK⟩:=hoK;have hv:its[ks.length]?=some v:=by
      have:=List.getElem?_drop (xs:=its) (i:=ks.length) (j:=0);rw [hdrop] at this
      simpa using this.symm
     have hn:ks.length<ds.length:=by rw [<-hl1];exact(Ya8.mp hv).1
     obtain⟨xv,hxv,rxv⟩:=rs.get (YaQ hn);obtain⟨u,hu,ru⟩:=rV.get hxv;obtain rfl:u=v:=Wbe (hu.symm.trans hv);obtain⟨m,hns,hloc⟩:=id I'.loc;obtain⟨tu,rt,lk⟩:=hloc it y (.int T) L.ix htσ (.inr (.inl L.kd));have hcell:s'.heap.IsCell cy (some tu):=by
      rcases lk with ⟨z,_⟩|⟨_,c,hc,z⟩
      . rw [L.kd] at z;cases z
      . rw [L.lk] at hc;cases hc;exact z
     have hfo:=(I'.pin (fa,PySem.W.kla_obj "<lambda>" (X.env.qual ++ "<lambda>") params body sc [(y,cy)] ((X.mg "__name__").getD .none) c' ctv) (by simp)).1
     have hco:s'.heap.CodeRec (.ref c') (X.env.qual ++ "<lambda>"):=(I'.hok c' _ (sm.code hcH)).1;have hrm:Room (k+1) X.A.in1.in1:=hr.in1.in1;have pb:=hb fa (.ref c') s' H' (hrm.deeper _);refine wpAny_mono (zkL (A:=X.A.in1.in1) (Q:=fun v' H''=>zm H' H''/\∃ a,v'=.ref a/\SqT X.K H'' a [.int (key ds[ks.length]).1,.int (key ds[ks.length]).2.1,.int (key ds[ks.length]).2.2]) L.S L.ne I' I'.ok.frames hrm.hd hrm.depth ru rt hcell (I'.freeC y cy L.lk) hfo hco (L.bind _ _ _ _) pb.ok
      ⟨G,z5 [x,y] [ds[ks.length],.int T],G,zci (N:=[x,y]) (sG.trans sm) (.cons rxv (.cons (.int T) .nil)),pb.mono _ _ _ (fun cc hcc v' G' H'' g w=>?_) (hkey _ (Ya4 hn))⟩) (fun r s'' hr'=>?_) fun _ _ z=>z
     . obtain⟨fl,rfl⟩:=hcc
       refine⟨g.h,?_⟩
       cases w with
       | sh r'=>
        have rd:=r'.rd;unfold kd3 at rd;cases rd with
        | tup q rr=>
         cases rr with
         | cons a rr=>
          cases a;cases rr with
          | cons a rr=>
           cases a;cases rr with
           | cons a rr=>cases a;cases rr;exact⟨_,rfl,g.sub.tup q⟩
     . obtain⟨v',H'',I'',un,rv',hS,a,rfl,sq⟩:=hr'
       obtain rfl:r=.ref a:=rv';refine⟨⟨H'',I'',sm.trans hS,?_,un.free D oD eD n1 (by simp),un.free kS oK eK n2 (by simp)⟩,(un.keep D oD eD n1 (nw D hD).2.2.2.2 (by simp)).trans eD.symm,(un.keep kS oK eK n2 (nw kS hkS).2.2.2.2 (by simp)).trans eK.symm⟩
       rw [YaS,List.length_singleton,WaS,Ya0,YaQ hn];exact z7.snoc ⟨a,rfl,sq⟩ (kv.same hS)
   . obtain⟨H',I',sm,kv,n1,n2⟩:=hJ
     exact zgd (zco I' kv) #[0] hQ
   . obtain⟨H',I',sm,kv,n1,n2⟩:=hJ
     rw [hl,hlk,YaH] at kv;have ka:=zco I' kv;exact ask3 (ka.get #[0]) (ka.get #[0]) hC
 . exact⟨_,I2.kept (t':=s2.toks) hk,zm.refl _,trivial,I2.hok.fresh hD,I2.hok.fresh (Ya5 hD (Wbx hlt))⟩
 . obtain⟨H',I',sm,kv,n1,n2⟩:=hJ
   obtain⟨w1,w2,w3,w4,_⟩:=nw D hD;have hb1:∀ j∈p.toList,j<its.length:=fun j hj=>Yba.mp (ok.mem_iff.mp hj)
   have hsz:(p.toList.map fun i=>xs.getD i V.non).length<=sizeLine:=by
    rw [YaR,Array.length_toList,ok.size,sizeLine_eq];omega
   have I3:=I'.track (o:=.lst (p.toList.map fun i=>xs.getD i V.non)) n1 w1 w2 w3 w4 ⟨hsz,_,c,zcq rV hb1,ho⟩
   rw [hl1] at ok so;exact⟨.ref D,_,I3.unpinned,rfl,cont _ (zeP PyData.none ok) (zjA PyData.none key ok so) D _ H' n1 (mx.trans sm) (zfv rs fun j hj=>by rw [<-hl1];exact hb1 j hj)⟩
end
def zab(N:List Str)(i iw it:Nat)(tb:TE3):TS3:=fun A ρ=>atV ρ[iw]? fun c=>asL c fun _ ds=>atV ρ[it]? fun c=>asI c fun T=>ds.length<1000/\∃ key:D->K3,(∀ d∈ds,tb (z5 N [d,.int T]) fun c=>∃ f,c=.sh f (kd3 (key d)))/\(ds.map key).Nodup/\
 ∀ ds':List D,ds'.Perm ds->ds'.Pairwise (fun a b=>lex3 (key a) (key b)=true)->A.nx (ρ.set i (some (.ow false ds')))
section
variable{X:Cx}{H0:Hp}{P c0 cy:Addr}{x y wn xn:Str}{i iw it k:Nat}{sc:Scope}{params:Arguments}{body:Expr}{tb:TE3}{np wp kp lp cpos pos pos':Pos}
theorem zkc(tu:TabU P H0)(hpos:lp=LamW.pos)(hqn:X.env.qual ++ "<lambda>" = LamW.q)(hN:X.N.Nodup)(hi:X.N[i]?=some xn)(hx:Loc X.env.scope xn)(hw:X.N[iw]?=some wn)(hwv:Vis X.env.scope wn)(L:LamIn X P c0 cy x y it params body sc)(hr:Room (k+3) X.A)
 (hb:∀ f cd' s H',Room k (Zd X [x,y] (X.env.qual ++ "<lambda>") sc f cd' [(y,cy)] X.A.in1.in1 s H').A->PE3 (Zd X [x,y] (X.env.qual ++ "<lambda>") sc f cd' [(y,cy)] X.A.in1.in1 s H') H' body tb)
 (hg:Gl X "sorted") (hm:X.mg "sorted" = none) (hwd:(wn==("__debug__" : Str))=false:=by decide) (hwc:(wn==("__classdict__" : Str))=false:=by decide)
 (hs:swapsWith (.Call (.Name "sorted" np) [.Name wn wp] [⟨some "key", .Lambda params body sc lp,kp⟩] cpos) (some (.Name xn pos')) pos.line X.env=pure false:=by rfl)
 (hf:X.fn xn=true\/X.env.scope.names.lookup xn=some .local:=by first|exact .inl rfl|exact .inr rfl|assumption) :
 PS3 X H0 (.Assign [.Name xn pos'] (.Call (.Name "sorted" np) [.Name wn wp] [⟨some "key", .Lambda params body sc lp,kp⟩] cpos) pos) (zab [x,y] i iw it tb):=
 PS.imp (ZD hN hi hx (zgp (H0:=H0) tu hpos hqn hw hwv hwd hwc L hr hb hg hm) hs hf) fun B σ H=>el7 fun G0 A ρ G F q L'=>by
  obtain⟨c,e1,q⟩:=zbh q;obtain⟨f,ds,rfl,q⟩:=zbJ q;obtain⟨c,e2,q⟩:=zbh q;obtain⟨T,rfl,h64,key,hk,nd,q⟩:=zb1 q;refine⟨G0,ρ,G,F,f,ds,T,key,e1,e2,h64,hk,nd,fun ds' hp' hs' l vs H' hl sm r=>?_⟩
  have F2:Fr3 X.K H0 G0 ρ σ G H':=F.gr ⟨Same.refl _,sm,F.sub.trans sm,fun _ _ e=>.inl e⟩
  exact L'.nx _ _ G _ (F2.own (f:=false) ⟨r,fun z=>by cases z⟩ hl) (q ds' hp' hs')
end
def spU(P:Addr)(K:Ybf)(sp:Sp3):Sp:=fun vs H Q E=>TabU P H/\spL K sp vs H Q E
structure DfU(tb:Addr)(P:Program)(w:World)(K:Ybf)(mg:Str->Option Value)(base:Heap)(k:Nat)(x:Str)(ps:List Str)(sp:Sp3):Prop where
 mono:∀ ds (Q Q':Bool->D->Prop) (E E':Addr->Prop),(∀ f d,Q f d->Q' f d)->(∀ d,E d->E' d)->sp ds Q E->sp ds Q' E'
 ok:Df P w K mg base k x ps (spU tb K sp)
theorem fnU{P:Program}{w:World}{K:Ybf}{mg:Str->Option Value}{base:Heap}{x qual:Str}{st:Stmt}{f tb:Addr}{fd:FuncData}{N ps:List Str}{k:Nat}{sp:Sp3}{cv:Value->Prop}(F:Fun K x qual st f fd)(hcv:cv fd.code)(S:FnScope N ps (ze st))(len:∀ ds Q E,sp ds Q E->ds.length=ps.length)
 (hbody:∀ (cdv:Value) (A:Around) (outer:List Env) (s:Shared) (H:Hp) (E:XK) (E3:Addr->Prop),cv cdv->TabU tb H->(∀ C H',E3 C->zm H H'->E (.ref C) none H')->Room k (A.deeper (envOfC qual (ze st) s.heap.objs.size f cdv))->
  ∃ t,PSs3 (cxOf (CXR P w) P w K mg base N qual (ze st) f cdv A outer s H E) H (zp st) t/\∀ ds Q,sp ds Q E3->t { nx:=fun _=>Q true .none,rt:=Q } (z5 N ds)):FnOk P w K mg base (CXR P w) (k+1) f fd ps (spU tb K sp):=by
 obtain⟨oc,od,kV,doc,pm,an,cdv,ct,osl,rfl,lk,hcd⟩:=F.ex;have hcv:cv cdv:=hcv;refine zck lk hcd S (fun vs H Q E h=>?_) (fun A outer s H vs Q E hr h=>?_)
 . obtain⟨_,G,ds,_,r,h⟩:=h
   rw [r.length];exact len _ _ _ h
 . obtain⟨tu,G,ds,sG,r,h⟩:=h
   obtain⟨t,ht,hq⟩:=hbody cdv A outer s H E (fun C=>∀ H',zm H H'->E (.ref C) none H') hcv tu (fun C H' e z=>e H' z) hr
   exact⟨_,ht,G,_,z5 N ds,G,zci sG r,hq ds _ h,⟨fun ρ σ G' H' F' q=>q .non G' H' F'.gr0 (.sc rfl .non),fun f d v G' H' g rd q=>q v G' H' g rd,fun _ _ _ _ _ q=>q.elim,fun _ _ _ _ _ q=>q.elim⟩⟩
end L3
namespace PySem
open Sem (wp)
open AutoSeq1 (wpAny_loadPart')
set_option maxHeartbeats 2000000 in
theorem zmH(l:Addr)(t:Tok)(items:Array Value)(n:Nat)(dct:Option Addr)(sl:Array (Option Value)) :
 Meets (Builtin.«enumerate.__new__» ⟨[.type "enumerate", .ref l],[(Str.ofString "start", .int 1 t)]⟩) (fun _ R s=>s.heap.get? l=some { cls:=.type "list", dict:=dct,data:=.seq items n,slots:=sl }/\
  R (.ok (.ret (.ref (s.heap.push { cls:=.type "list_iterator", data:=.fields #[.ref l,.int 0 0] }).objs.size)))
   { s with heap:=(s.heap.push { cls:=.type "list_iterator", data:=.fields #[.ref l,.int 0 0] }).push { cls:=.type "enumerate", data:=.fields #[.none,.bool false,.ref s.heap.objs.size,rawInt 1,.none,.none] } }):=
 .of_wp fun prog w A R s h=>by
  obtain⟨hp,g,d,tk,os⟩:=s;obtain⟨hl,h⟩:=h;have hsub:=sub_enumerate;have hL:Heap.IsList (Shared.heap ⟨hp,g,d,tk,os⟩) l items:=⟨_,hl,rfl,n,rfl⟩
  wp_walk using wpAny_loadPart' hl
  refine wpAny_stack_any fun st=>wpAny_pure ?_
  split
  . rename_i c _ _ _ _ _
    cases(c==Value.type "enumerate")
    . wp_walk using wpAny_loadPart' hl,wpAny_pyIter_list hL
      exact⟨_,rfl,h⟩
    . wp_walk using wpAny_loadPart' hl,wpAny_pyIter_list hL
      exact⟨_,rfl,h⟩
  . wp_walk using wpAny_loadPart' hl,wpAny_pyIter_list hL
    exact⟨_,rfl,h⟩
section
variable{prog:Program}{w:World}{A:Around}{E:Value->Shared->Prop}{s:Shared}
theorem zlb{T newId initId:String}{Bn Bi:Builtin}{args:List Value}{kw:List (Str×Value)}{S:Spec}{Q Q₁ : Value->Shared->Prop}(ft:TypeCalled T newId initId)
 (hct:checkTypeCall T ⟨args,kw⟩=pure ()) (hcn:checkBuiltinCall newId ⟨.type T::args,kw⟩=pure ())
 (entryN:entryFor table newId=some Bn) (entryI:entryFor table initId=some Bi) (g:Meets (Bn ⟨.type T::args,kw⟩) S)
 (h:S A.in1 (wants Q₁ E) s)
 (hnext:∀ obj s₁,Q₁ obj s₁->s₁.TypeIs obj T/\argsOk initId ⟨obj::args,kw⟩/\∃ Si,Meets (Bi ⟨obj::args,kw⟩) Si/\Si A.in1 (wants (fun r s₂=>r=.none/\Q obj s₂) E) s₁) :
 wpAny (model prog w) A (call (.type T) args kw) Q E s:=by
 obtain⟨c,tl,hmro⟩:=ft.mro;have hmade:=ft.made;have hsub:=ft.sub;refine wpAny_call (codeAny_of_tree ?_);show wpAny _ _ (callAny (.type T) _) _ _ _;refine wpAny_pure ⟨Code.quiet_builtin _ #[3],codeAny_builtin F.entry_type_call ?_⟩
 rw [Around.under_plain (weight_type_call_type T args kw) (units_type_call_type T args kw)];have h1:=ft.notType;have h2:=ft.canCreate
 repeat (any_goals (first|assumption|wp_step))
 refine codeAny_mono (codeAny_call_builtin ft.plain entryN (wpAny_of_eq hcn (g prog w A.in1 _ s h))) fun r s₁ hr=>?_
 cases r with
 | error e=>exact hr
 | ok fl=>
  cases fl with
  | ret obj=>
   obtain⟨hT,hok,Si,gi,hsi⟩:=hnext _ _ hr;have hli:=ft.init.lookup;have hbi:=ft.init.bind obj
   repeat (any_goals (first|assumption|wp_step))
   refine codeAny_mono (codeAny_call_builtin ft.init.plain entryI (ft.init.check _ _ _ _ _ _ _ _ hT hok (gi prog w A.in1 _ s₁ hsi))) fun r₂ s₂ hr₂=>?_
   cases r₂ with
   | error e=>exact hr₂
   | ok fl₂=>
    cases fl₂ with
    | ret r=>
     obtain⟨rfl,hq⟩:=hr₂
     repeat (any_goals (first|assumption|wp_step))
    | _=>exact hr₂.elim
  | _=>exact hr.elim
theorem zm2{T newId:String}{self a:Value}{rest:List Value}{kw:List (Str×Value)}(hl:typeLookup (.type T) "__init__" = pure (some (.builtin "object.__init__")))
 (hm:Bind.madeBy (.type T)=pure (some newId)) (hne:(some newId != some "object.__new__")=true) :
 Meets (Builtin.«object.__init__» ⟨self::a::rest,kw⟩) (fun _ R s=>s.TypeIs self T/\R (.ok (.ret .none)) s):=by
 refine Meets.of_wp fun prog w A R s hs=>?_
 obtain⟨hT,hq⟩:=hs
 repeat (any_goals (first|assumption|wp_step))
 exact⟨_,rfl,hq⟩
theorem zfW(a v:Value):checkTypeCall "enumerate" ⟨[a],[(Str.ofString "start", v)]⟩=pure ():=by kernel_rfl
theorem zm3(a v:Value):checkBuiltinCall "enumerate.__new__" ⟨[.type "enumerate", a],[(Str.ofString "start", v)]⟩=pure ():=by kernel_rfl
theorem zmA(obj a v:Value):argsOk "object.__init__" ⟨[obj,a],[(Str.ofString "start", v)]⟩:=by unfold argsOk;kernel_rfl
theorem zjY{l:Addr}{items:Array Value}{t:Tok}{Q:Value->Shared->Prop}(hL:s.heap.IsList l items)
 (h:∀ h',IsEnum h' (s.heap.objs.size+1) s.heap.objs.size 1 .none->h'.IsListIter s.heap.objs.size l 0->h'.objs.size=s.heap.objs.size+2->
  (∀ b o,s.heap.get? b=some o->h'.get? b=some o)->Q (.ref (s.heap.objs.size+1)) { s with heap:=h' }) :
 wpAny (model prog w) A (call (.type "enumerate") [.ref l] [(Str.ofString "start", .int 1 t)]) Q E s:=by
 obtain⟨⟨c,dct,dt,sl⟩,hl,hc,n,hd⟩:=hL
 replace hc:c=.type "list":=hc
 replace hd:dt=.seq items n:=hd
 subst hc hd;refine zlb F.called_enumerate (zfW _ _) (zm3 _ _) F.entry_enumerate_new F.entry_object_init (zmH l t items n dct sl) (Q₁:=fun obj s₁=>s₁.TypeIs obj "enumerate"/\Q obj s₁) ⟨hl,?_⟩
  fun obj _ hq=>⟨hq.1,zmA obj _ _,_,zm2 F.called_enumerate.init.lookup F.called_enumerate.made #[1],hq.1,rfl,hq.2⟩
 have hz:(s.heap.push { cls:=.type "list_iterator", data:=.fields #[.ref l,.int 0 0] }).objs.size=s.heap.objs.size+1:=Wbk ..;show _/\_;rw [hz];have he:IsEnum ((s.heap.push { cls:=.type "list_iterator", data:=.fields #[.ref l,.int 0 0] }).push
  { cls:=.type "enumerate", data:=.fields #[.none,.bool false,.ref s.heap.objs.size,rawInt 1,.none,.none] }) (s.heap.objs.size+1) s.heap.objs.size 1 .none:=by
  have:=Yan (s.heap.push { cls:=.type "list_iterator", data:=.fields #[.ref l,.int 0 0] })
   (o:={ cls:=.type "enumerate", data:=.fields #[.none,.bool false,.ref s.heap.objs.size,rawInt 1,.none,.none] }) rfl
  rw [hz] at this;exact this
 refine⟨⟨_,he,rfl⟩,h _ he ⟨_,YaW _ (Yan _ rfl),rfl,rfl⟩ (by rw [Wbk,hz]) fun b o x=>YaW _ (YaW _ x)⟩
theorem zhu{pos:Pos}{T:String}{env:Env}{e:Expr}{rest:List Expr}{kws:List Keyword}{M:Model}{Q:Value->Shared->Prop}
 (h:wpAny M A (spliced (backTo pos (starEach (e::rest) env))) (fun vs s₁=>wpAny M A (evalAll ((backToKw pos (keywordEach kws env)).map (·.2)))
  (fun kvs s₂=>wpAny M A (call (.type T) vs (((backToKw pos (keywordEach kws env)).filterMap (·.1)).zip kvs)) Q E s₂) E s₁) E s)
 (he:backTo pos (starEach (e::rest) env)=(false,eval e env)::backTo pos (starEach rest env):=by rfl)
 (hplain:(backTo pos (starEach (e::rest) env)).any (·.1)=false:=by rfl)
 (hall:(backToKw pos (keywordEach kws env)).all (·.1.isSome)=true:=by rfl)
 (hkw:(backToKw pos (keywordEach kws env)).any (·.1.isNone)=false:=by rfl) :
 wpAny M A (callWith pos (.type T) [] (backTo pos (starEach (e::rest) env)) (backToKw pos (keywordEach kws env))) Q E s:=by
 unfold callWith;rw [he] at h;refine wpAny_bind (wpAny_holding (wpAny_mono (?_:wpAny M A (evalArgs (.type T) true _ _) (fun a s₁=>wpAny M A (call (.type T) ([]++a.pos) a.kw) Q E s₁) E s) (fun a s₁ h₁=>wpAny_bind (wpAny_standAt ?_)) fun _ _ x=>x))
 . rw [he];exact PyProof.Rows.evalArgs_kwB hall h
 simp only [hplain,hkw,Wbp];refine wpAny_bind (wpAny_pure ?_);exact wpAny_bind (wpAny_mono h₁ (fun r s₂ hr=>wpAny_bind (wpAny_holding (wpAny_point (wpAny_pure hr)))) fun _ _ x=>x)
end
theorem Draws.shift{prog:Program}{w:World}{A:Around}{it:Addr}{fp:List Addr}{n:Nat}{P:Nat->Value->Prop}{St:Nat->Heap->Prop}(D:Draws prog w A it fp n P St):Draws prog w A it fp (n+1) (fun i x=>P (i - 1) x) (fun i h=>1<=i/\St (i - 1) h) where
 live:=fun i h st=>D.live _ h st.2
 frame:=fun i h h' st k=>⟨st.1,D.frame _ h h' st.2 k⟩
 item:=fun i s Q E hi st hQ=>D.item (i - 1) s Q E (by have:=st.1;omega) st.2 fun x h' tk hp st' sb=>hQ x h' tk hp ⟨#[0],(show i - 1+1=i+1 - 1 by have:=st.1;omega) ▸ st'⟩ sb
 done:=fun s Q E st hE=>D.done s Q E st.2 hE
end PySem
namespace L2
open PySem PySem.Spec PyProof.Rows
def Ite1(K:Ybf)(a:Addr):It:=
 ⟨fun i H=>∃ xs x,SqL K H a xs/\xs[i]?=some x,
  fun i H v H'=>∃ p x,H p=none/\v=.ref p/\H'=upd H p (.tup [.int ((i+1:Nat):Int),x])/\∀ xs,SqL K H a xs->xs[i]?=some x,
  fun i H=>∃ xs,SqL K H a xs/\i=xs.length⟩
theorem zkZ{P:Program}{w:World}{K:Ybf}{elts:List Expr}{k:Nat}{pos:Pos}{e it l:Addr}(hei:e≠it)(hle:l≠e)(hli:l≠it) :
 Turn P w K (.Tuple elts k pos) (Ite1 K l) [e,it] e (fun i h=>(∃ old,IsEnum h e it ((i+1:Nat):Int) old)/\h.IsListIter it l i) where
 mem:=by simp
 obj:=fun i h hyp c hc=>by
  obtain⟨⟨old,he⟩,⟨o1,e1,c1,d1⟩⟩:=hyp;have hc':c=e\/c=it:=by simpa using hc
  rcases hc' with rfl|rfl
  . exact⟨_,he,fun v z=>by cases(show Data.fields _=Data.cell v from z)⟩
  . exact⟨o1,e1,fun v z=>by rw [d1] at z;cases z⟩
 keep:=fun i h h' ⟨⟨old,he⟩,h1⟩ kk=>⟨⟨old,kk e (by simp) _ he⟩,h1.at fun o e=>kk it (by simp) o e⟩
 item:=by
  intro X hP hw hK hc i pins s σ H E I hf st hg;subst hP hw hK;obtain⟨xs,x,q1,hx⟩:=hg;obtain⟨its1,r1,p1,_⟩:=I.list q1;obtain⟨u,hu,ru⟩:=r1.get hx;have W:=WalksT.enumerateD (prog:=X.prog) (w:=X.w) (A:=X.A) (Draws.list (A:=X.A.in1) (I.ok.hd hc) it l hli its1.toArray).shift e hei (by simp [hei,WbL hle]) (by simp)
  have hi:i<its1.toArray.size:=by
   have a1:=(Ya8.mp hu).1;simp only [YaZ];omega
  obtain⟨he,h1⟩:=st;have olt:∀ b∈[e,it],b<s.heap.objs.size:=fun b hb=>by
   obtain⟨old,he'⟩:=he;have hc':b=e\/b=it:=by simpa using hb
   rcases hc' with rfl|rfl
   . exact YaX he'
   . obtain⟨_,e,_⟩:=h1;exact YaX e
  refine W.item (i+1) s _ _ #[0] ⟨he,#[0],h1,p1.isList⟩ fun T vals h1' tk hv' hT hTup mid kp=>?_
  obtain⟨t',u',hu',e'⟩:=hv';subst e';have eu:u'=u:=by
   have:its1[i]?=some u':=by simpa using hu'
   rw [hu] at this;cases this;rfl
  subst eu;refine⟨_,rfl,W.go elts k pos (i+1) T _ _ _ mid fun h2' st2 kp2=>?_⟩
  have I1:Inv X pins σ H { s with heap:=h2',toks:=tk }:=I.turnedL (ch:=[e,it]) (fun b o hb e=>kp2 b o hb (kp b o hb e)) fun b hb=>hf b hb
  have hTn:H T=none:=I.hok.fresh hT;obtain⟨o,ho,oc,on,od⟩:=hTup;have ho2:=kp2 T o (W.apart (i+1) T _ mid) ho;have I2:Inv X pins σ (upd H T (.tup [.int ((i+1:Nat):Int),x])) { s with heap:=h2',toks:=tk }:=I1.track hTn (Ya5 I.sz hT) (Wby (YaU I.lt hT)) (fun n c e z=>by
   obtain⟨vv,q⟩:=I.cell n c e;exact absurd (YaU q.lt (by rw [z];exact hT)) (Yap _)) (fun p hp z=>absurd (YaU (YaX (I.pin p hp).1) (by rw [z];exact hT)) (Yap _))
   ⟨by show 2<=sizeLine;decide,[.int ((i+1:Nat):Int) t',u'],.cons ⟨t',rfl⟩ (.cons ru .nil),o,ho2,oc,on,od⟩
  refine⟨.ref T,_,I2,rfl,⟨T,x,hTn,rfl,rfl,fun xs' z1=>?_⟩,⟨st2.1,st2.2.2.1⟩,fun b hb=>?_⟩
  . rw [I.list_inj z1 q1];exact hx
  . rw [zh (Yaf (YaU (olt b hb) hT))];exact(hf b hb).1
 done:=by
  intro X hP hw hK hc i pins s σ H E I hf st hg;subst hP hw hK;obtain⟨xs,q1,hi⟩:=hg;obtain⟨its1,r1,p1,_⟩:=I.list q1;have W:=WalksT.enumerateD (prog:=X.prog) (w:=X.w) (A:=X.A) (Draws.list (A:=X.A.in1) (I.ok.hd hc) it l hli its1.toArray).shift e hei (by simp [hei,WbL hle]) (by simp)
  obtain⟨he,h1⟩:=st;have ei:i=its1.toArray.size:=by simp only [YaZ];rw [<-r1.length];exact hi
  subst ei;refine W.done s _ _ ⟨he,#[0],h1,p1.isList⟩ fun h' tk kp=>⟨rfl,?_⟩
  exact I.turnedL (ch:=[e,it]) kp fun b hb=>hf b hb
 self:=fun _ _ _ _ _ st h=>by obtain⟨⟨old,he⟩,_⟩:=st;exact wpAny_pyIter_enum he h
def zlz(K:Ybf)(ta:TA):TI:=fun σ H R=>ta σ H fun vs H1=>∃ a,vs=[.ref a]/\(∃ xs,SqL K H1 a xs)/\R (Ite1 K a) H1
theorem znk{X:Cx}{elts:List Expr}{k j:Nat}{tpos:Pos}{a:Expr}{ta:TA}{p pos cp kp:Pos}(hg:Gl X "enumerate")(hm:X.mg "enumerate" = none)(ha:PA X [a] ta)(hs:starEach [a] X.env=[(false,eval a X.env)]:=by rfl):PI X (.Tuple elts k tpos) (.Call (.Name "enumerate" p) [a] [⟨some "start", .Constant (.int 1) j cp,kp⟩] pos) (zlz X.K ta):=by
 intro pins s σ H R I h;refine wpAny_Call_Name_kw (j0 I hg hm zdg ?_);refine zhu (thn (ha pos pins s σ H _ I h) fun us s1 h1=>?_) (by rw [hs];rfl) (by rw [hs];rfl)
 obtain⟨vs,H1,I1,r1,l1,e,⟨xs,hx⟩,q⟩:=h1;subst e;obtain⟨u,rfl,ru⟩:=jT r1;cases(show u=Value.ref l1 from ru)
 show wpAny _ _ (evalAll [do let v <-eval (.Constant (.int 1) j cp) X.env;standAt pos;pure v]) _ _ s1
 refine wpAny_evalAll_cons (wpAny_bind (wpAny_Constant_int (wpAny_bind (wpAny_standAt (wpAny_pure (wpAny_evalAll_nil ?_))))))
 show wpAny _ _ (call (.type "enumerate") [.ref l1] [(Str.ofString "start", .int 1 s1.toks)]) _ _ { s1 with toks:=s1.toks+1 }
 have I1:=I1.tok (s1.toks+1);obtain⟨its1,_,p1,_⟩:=I1.list hx;have lt1:l1<s1.heap.objs.size:=by obtain⟨o,e,_⟩:=p1.isList;exact YaX e
 refine zjY p1.isList fun h' he hi1 hsz kp=>wpAny_pyIter_enum he ?_
 have I2:Inv X pins σ H1 { s1 with heap:=h',toks:=s1.toks+1 }:=I1.kept (t':=s1.toks+1) kp
 refine⟨_,[s1.heap.objs.size+1,s1.heap.objs.size],_,Ite1 X.K l1,H1,rfl,I2,zkZ (Nat.succ_ne_self _) (Yaf (WaP lt1)) (Yaf lt1),⟨⟨_,he⟩,hi1⟩,fun b hb=>?_,q⟩
 have hb':s1.heap.objs.size<=b:=by
  have hc':b=s1.heap.objs.size+1\/b=s1.heap.objs.size:=by simpa using hb
  rcases hc' with rfl|rfl<;>omega
 have f:=I1.fpOk (H':=H1) hb' (I1.hok.fresh hb');exact⟨f.1,f.2.1,f.2.2.1,f.2.2.2.1,f.2.2.2.2.1,f.2.2.2.2.2⟩
end L2
namespace L3
open PySem PySem.Spec PyProof.Rows L2
variable[LamW]
section
variable{X:Cx}{H0:Hp}{pos p:Pos}
def Zu(ds:List D):List D:=(List.range ds.length).map fun i=>.tuple [.int ((i+1:Nat):Int),ds.getD i .none]
theorem zme(ds:List D):(Zu ds).length=ds.length:=by unfold Zu;simp
theorem zg9{ds:List D}{i:Nat}{d:D}(h:(Zu ds)[i]?=some d):∃ a,d=.tuple [.int ((i+1:Nat):Int),a]/\ds[i]?=some a:=by
 unfold Zu at h;rw [Ya0] at h
 by_cases hi:i<ds.length
 . rw [Yax hi] at h
   cases h;exact⟨ds[i],by simp [hi],YaQ hi⟩
 . rw [Wax #[6]] at h;cases h
def itE1(t:TA3):TI3:=fun ρ Q=>t ρ fun cs=>∃ f as,cs=[.sh f (.list as)]/\Q f (Zu as)
theorem zkP{K:Ybf}{H0 G:Hp}{a:Addr}{xs:List V}{f:Bool}{as:List D}(h1:SqL K G a xs)(r1:Rfs K H0 G f xs as):ItOk K H0 (Ite1 K a) f (Zu as) G where
 go:=fun i d G' H hd s1 s2=>by
  obtain⟨q,rfl,hq⟩:=zg9 hd;obtain⟨x,hx,rx⟩:=r1.get hq;have ss:=s1.trans s2.s;refine⟨⟨xs,x,ss.seq h1,hx⟩,fun v H' ⟨l,x',hl,e1,e2,hh⟩=>?_⟩
  subst e1 e2;have z1:=hh xs (ss.seq h1);rw [hx] at z1;cases z1;have gl:=zJ (s2.free hl) (.tup [.int ((i+1:Nat):Int),x]);exact⟨upd G' l (.tup [.int ((i+1:Nat):Int),x]),Gr.put s2 hl,⟨.tup (SqT.of zl) (.cons (.int _) (.cons (J1 (s1.trans gl) rx.rd) .nil)),fun hf=>
   .tup zl (.cons (.int _) (.cons (jn (s1.trans gl) (fun _ _ _ z=>z) (rx.nw hf)) .nil))⟩⟩
 stop:=fun i G' H hl s1 s2=>⟨xs,(s1.trans s2.s).seq h1,by rw [hl,zme,r1.length]⟩
theorem zk0{elts:List Expr}{k j:Nat}{tpos:Pos}{a:Expr}{t:TA3}{cp kp:Pos}(hg:Gl X "enumerate")(hm:X.mg "enumerate" = none)(ha:PA3 X H0 [a] t)(hs:starEach [a] X.env=[(false,eval a X.env)]:=by rfl):PI3 X H0 (.Tuple elts k tpos) (.Call (.Name "enumerate" p) [a] [⟨some "start", .Constant (.int 1) j cp,kp⟩] pos) (itE1 t):=
 ⟨fun ρ Q Q' h q=>ha.mono ρ _ _ (fun cs ⟨f,as,e,q⟩=>⟨f,as,e,h _ _ q⟩) q,PI.imp (znk hg hm ha.ok hs) fun σ H R=>el5 fun G0 ρ G F q=>⟨G0,ρ,G,F,ha.mono ρ _ _ (fun cs hyp vs G1 H1 g1 w=>by
  obtain⟨f,as,e,k⟩:=hyp;subst e;obtain⟨v,rfl,w1⟩:=vws1 w;obtain⟨a,xs,rfl,hq,rs⟩:=j5 (zj w1);exact⟨a,rfl,⟨xs,g1.sub.seq hq⟩,k _ G1 H1 g1 (zkP hq rs)⟩) q⟩⟩
def slT3(te:TE3)(tl th:TO3):TE3:=fun ρ Q=>te ρ fun c=>tl ρ fun l=>th ρ fun u=>asS c fun f d=>asT d fun ds=>¬(HT.sIx ds.length 0 l=0/\HT.sIx ds.length ds.length u=ds.length)/\Q (.sh (f||ds.all zA) (.tuple (cut ds l u)))
theorem zcv{e:Expr}{lo hi:Option Expr}{te:TE3}{tl th:TO3}{p2:Pos}(he:PE3 X H0 e te)(hl:PO3 X H0 lo tl)(hh:PO3 X H0 hi th):PE3 X H0 (.Subscript e (.Slice lo hi none p2) pos) (slT3 te tl th):=by
 refine⟨fun ρ Q Q' h q=>he.mono ρ _ _ (fun c=>hl.mono ρ _ _ fun l=>hh.mono ρ _ _ fun u q=>?_) q,PE.imp (zcR zh8 he.ok hl.ok hh.ok) fun σ H Q=>el5 fun G0 ρ G F q=>?_⟩
 . obtain⟨f,d,rfl,q⟩:=jM q
   obtain⟨ds,rfl,z,q⟩:=zaM q;exact⟨z,h _ q⟩
 . refine⟨G0,ρ,G,F,he.mono ρ _ _ (fun c qc v G1 H1 g1 w1=>⟨G0,ρ,G1,F.gr g1,hl.mono ρ _ _ (fun l ql G2 H2 g2=>⟨G0,ρ,G2,F.gr (g1.trans g2),hh.mono ρ _ _ (fun u qu G3 H3 g3=>?_) ql⟩) qc⟩) q⟩
   have w3:=(w1.gr g2).gr g3;have gg:=(g1.trans g2).trans g3;obtain⟨f,d,rfl,q⟩:=jM qu;obtain⟨ds,rfl,z,q⟩:=zaM q;obtain⟨a,xs,rfl,hq,rs⟩:=ZH (zj w3);refine⟨a,xs,rfl,g3.sub.tup hq,by rw [rs.length];exact z,fun p hp=>q (.ref p) (upd G3 p (.tup (cutV xs l u))) _ (gg.trans (Gr.put g3.sub hp)) ?_⟩
   have r:=zbw rs.or l u;exact .sh ⟨.tup (SqT.of zl) (rdvs_same (zJ (g3.sub.free hp) _) r.rd),fun hf=>.tup zl (rdns_mono (zJ (g3.sub.free hp) _) (fun _ _ _ z=>z) (r.nw hf))⟩
end
end L3
namespace PySem
open AutoSeq1 (wpAny_loadPart')
open SeqAt (EqAt)
open PySem.Calls
end PySem
namespace L2
open PySem PySem.Spec PyProof.Rows
section
variable{X:Cx}{o e:Expr}{to:TE}{t:TA}{pos apos:Pos}
end
end L2
namespace L3
open PySem PySem.Spec PyProof.Rows L2
variable[LamW]
section
variable{X:Cx}{H0:Hp}{e:Expr}{pos p:Pos}
end
variable[LamW]
section
variable{K:Ybf}{H0 G0 G G' H:Hp}{ρ : Env3}{σ : L2.St}
end
section
variable{X:Cx}{H0:Hp}{e:Expr}
end
end L3
namespace L2
open PySem PySem.Spec PyProof.Rows
section
variable{X:Cx}
end
end L2
namespace L3
open PySem PySem.Spec PyProof.Rows L2
variable[LamW]
section
variable{X:Cx}{H0:Hp}{e a b:Expr}{pos:Pos}
theorem Rfs.rep{K:Ybf}{H0 G:Hp}{f:Bool}{vs:List V}{ds:List D}(r:Rfs K H0 G f vs ds)(n:Nat):Rfs K H0 G f (List.replicate n vs).flatten (List.replicate n ds).flatten:=by
 induction n with
 | zero=>exact Rfs.nil
 | succ n ih=>
  rw [List.replicate_succ,List.replicate_succ,List.flatten_cons,List.flatten_cons];have:=Rfs.append r ih;rwa [Wbs] at this
end
variable[LamW]
section
variable{X:Cx}{H0:Hp}{tb:Addr}{k:Nat}{x:Str}{ps:List Str}{sp:Sp3}{t:TA3}{e:Expr}{es:List Expr}{p pos pos':Pos}
theorem dfU{E:XK}{E3:Addr->Prop}(tu:TabU tb H0)(hE:∀ C H',E3 C->zm H0 H'->E (.ref C) none H')(Gd:DfU tb X.prog X.w X.K X.mg X.base k x ps sp)(hr:Room k X.A)(hg:Gl X x)(hx:Passes (CXR X.prog X.w) X E)(ha:PA3 X H0 (e::es) t)(hdb:(x==("__debug__" : Str))=false:=by decide)
 (he:starEach (e::es) X.env=(false,eval e X.env)::starEach es X.env:=by rfl) (hpl:(backTo pos (starEach es X.env)).any (·.1)=false:=by rfl):PE3 X H0 (.Call (.Name x p) (e::es) [] pos) (J9 sp E3 t):=by
 refine⟨fun ρ Q Q' h q=>ha.mono ρ _ _ (fun cs ⟨hd,q⟩=>⟨hd,Gd.mono _ _ _ _ _ (fun f d ⟨a,b⟩=>⟨a,h _ b⟩) (fun _ z=>z) q⟩) q,PE.imp (zeO Gd.ok hr hg hx ha.ok hdb he hpl) fun σ H Q=>el5 fun G0 ρ G F q=>⟨G0,ρ,G,F,ha.mono ρ _ _ (fun cs ⟨hd,qc⟩ vs G1 H1 g1 w=>?_) q⟩⟩
 show spU tb X.K sp (vs++[]) H1 Q E
 rw [Yao];refine⟨tu.same (F.gr g1).keep,?_⟩;have kE:∀ C,E3 C->∀ H',zm H1 H'->E (.ref C) none H':=fun C c H' s=>hE C H' c ((F.gr g1).keep.trans s)
 cases hs:shs cs with
 | some ds=>
  refine⟨G1,cs.map Cl.d,g1.sub,by rw [zbC hs];exact(w.shs hs).rd,Gd.mono _ _ _ _ _ (fun f d ⟨_,k⟩ v G' H' g r=>k v G' H' (g1.trans g) (.sh ⟨r.rd,fun hf=>jn (Same.refl _) (fun _ _ _ z=>(F.gr g1).keep.free z) (r.nw hf)⟩)) kE qc⟩
 | none=>
  refine⟨cln H1,cs.map Cl.d,zem H1,rdvs_cln (w.rds g1.sub hd),Gd.mono _ _ _ _ _ (fun f d ⟨s,k⟩ v G' H' g r=>?_) kE qc⟩
  have sc:zA d=true:=s.resolve_left (by rw [hs];simp)
  exact k v G1 H' (g1.trans ⟨Same.refl _,g.h,g1.sub.trans g.h,fun _ _ e=>.inl e⟩) (.sh (.sc sc (zfi sc r.rd)))
end
theorem zh2{p:Program}{loose:List Str}{mean:ExcName->Option Value}{mg mb:Str->Option Value}{h:Heap}(T:Top p loose mean mg mb h):BMod mg h:=by
 obtain⟨bm,ob,b1,b2,b3,b4,b5,b6⟩:=T.bmain;refine⟨bm,ob,b1,b2,fun q=>?_,b3,b4,b5,b6⟩
 obtain⟨o,es,ep,e,hd,_⟩:=T.g;rw [q,e] at b3;cases b3;rw [hd] at b6;cases b6
theorem zl9{K:Ybf}{x:Str}{f c0 tb:Addr}{oc oc':Value}{od od':Option Addr}{fd:FuncData}{sl sl':Array (Option Value)}{vs:Array Value}(a:PySem.W.nsIn K mainGlobals x=some (some (.ref f)))(l:K.lookup f=some ⟨oc,od,.func fd,sl⟩)(hc:fd.code=.ref c0)
 (q1:K.lookup c0=some ⟨oc',od',.fields vs,sl'⟩) (q2:vs[11]?=some (.ref tb)):PySem.W.tabIn K x=some (c0,tb):=by
 unfold PySem.W.tabIn;rw [a];dsimp only;rw [l];dsimp only;rw [hc];dsimp only;rw [q1];dsimp only;rw [q2]
theorem zke{P:Program}{w:World}{K:Ybf}{mg mb:Str->Option Value}{k:Nat}{fa a c0 tb:Addr}{fd:FuncData}{x:Str}{sp:Sp3}{s₁ : Shared}{vs:List Value}{ns:List Int}
 (KX:K.In s₁.heap) (hns:s₁.heap.Ns mainGlobals mg) (hb:s₁.heap.Ns builtinsNs mb) (hbb:∀ x:Str,x≠"__name__"->mb x=bootBuiltins x) (hlim:s₁.heap.NoLimit) (hg:s₁.gens = #[])
 (ha:s₁.heap.get? a=some { cls:=.type "list", data:=.seq vs.toArray }) (hi:IntsAre vs ns) (hl:ns.length<=sizeLine) (hr:Room k callerA)
 (ht:s₁.heap.get? tb=some (PySem.W.tabObj #[])) (hcd:PySem.W.CodeHd s₁.heap c0 tb) (hbm:BMod mg s₁.heap) (hKt:K.lookup tb=none)
 (F:∀ base:Heap,K.In base->BMod mg base->FnOk P w K mg base (CXR P w) k fa fd [x] (spU tb K sp)) (hbind:∀ (s:Shared) (u:Value),BindsTo s fd ⟨[u],[]⟩ [(x,u)])
 (hsp:∀ (Q:Bool->D->Prop) (E:Addr->Prop),(∀ f,Q f (.bool true))->sp [.list (ns.map .int)] Q E) :
 codeAny (model P w) callerA (.call (.ref fa) ⟨[.ref a],[]⟩) (fun r s'=>r=.ok (.ret (.bool true))/\OldK s₁.heap s'.heap/\s'.os=s₁.os/\AllBare s'.gens) s₁:=by
 have rv:=zbY hi;have lenV:=hi.length;have hat:a≠tb:=fun e=>by rw [e,ht] at ha;cases ha
 have core:∀ H:Hp,SqL K H a (ns.map V.int)->HOk P w H s₁.heap->(∀ b o,H b=some o->(b=tb/\o=tab0 tb)\/(b=a/\K.lookup a=none/\∃ ob xs,o=.frz ob (.lst xs)))->H tb=some (tab0 tb)->
  codeAny (model P w) callerA (.call (.ref fa) ⟨[.ref a],[]⟩) (fun r s'=>r=.ok (.ret (.bool true))/\OldK s₁.heap s'.heap/\s'.os=s₁.os/\AllBare s'.gens) s₁:=by
  intro H hS hok hO hT;have noD:∀ {b:Addr} {o:Obj},s₁.heap.get? b=some o->(∀ xs n,o.data≠.seq xs n)->o.cls≠.none->H b=none:=fun {b o} e d c=>by
   cases q:H b with
   | none=>rfl
   | some u=>
    rcases hO b u q with ⟨rfl,_⟩|⟨rfl,_⟩
    . rw [ht] at e;cases e;exact absurd rfl c
    . rw [ha] at e;cases e;exact absurd rfl (d _ _)
  have noA:∀ {b:Addr} {o:Obj} {es:Array DictEntry} {ep:Nat},s₁.heap.get? b=some o->o.data=.dict es ep->H b=none:=fun {b o es ep} e d=>by
   cases q:H b with
   | none=>rfl
   | some u=>
    rcases hO b u q with ⟨rfl,_⟩|⟨rfl,_⟩
    . rw [ht] at e;cases e;cases d
    . rw [ha] at e;cases e;cases d
  have base_of:∀ {b:Addr} {o:Obj},s₁.heap.get? b=some o->H b=none->(hidT s₁.heap H).get? b=some o:=fun e n=>zi1 e n
  have nsK:∀ {b:Addr} {m:Str->Option Value},s₁.heap.Ns b m->(hidT s₁.heap H).Ns b m:=fun {b m} ⟨o,es,ep,e,d,r⟩=>⟨o,es,ep,base_of e (noA e d),d,r⟩
  have hKb:K.In (hidT s₁.heap H):=fun b o e=>base_of (KX b o e) (by
   cases q:H b with
   | none=>rfl
   | some u=>
    rcases hO b u q with ⟨rfl,_⟩|⟨rfl,h2,_⟩
    . rw [hKt] at e;cases e
    . rw [h2] at e;cases e)
  have hM:Mod K mg (hidT s₁.heap H):=⟨hKb,nsK hns,⟨mb,nsK hb,hbb⟩,let ⟨mc,h1,h2⟩:=hlim;⟨mc,nsK h1,h2⟩⟩;have hB:BMod mg (hidT s₁.heap H):=by
   obtain⟨bm,o,h1,h2,h3,h4,h5,h6,h7⟩:=hbm;exact⟨bm,o,h1,h2,h3,base_of h4 (noD h4 (fun xs n z=>by rw [h7] at z;cases z) (by rw [h5];nofun)),h5,h6,h7⟩
  have e0:Env0 P w K mg (hidT s₁.heap H) callerA [] s₁ H:=⟨rfl,hM,fun b o e=>ziB e,Nat.le_of_eq (zf5 _ _),trivial,fun b hb=>absurd (show b∈([]:List Addr) from hb) (by simp),hok,.of_eq hg⟩
  have sG0:Same (fun b=>if b=tb then none else H b) H:=fun b o e=>by
   by_cases hb:b=tb
   . have e:(if b=tb then none else H b)=some o:=e
     rw [if_pos hb] at e;cases e
   . have e:(if b=tb then none else H b)=some o:=e
     rw [if_neg hb] at e;exact e
  have sG:Sub (fun b=>if b=tb then none else H b) H:=⟨sG0,fun b f e=>by
   rcases hO b _ (sG0 b _ e) with ⟨z,_⟩|⟨_,_,_,_,z⟩
   . have e:(if b=tb then none else H b)=some (HO.ext f):=e
     rw [if_pos z] at e;cases e
   . cases z⟩
  have hSG:SqL K (fun b=>if b=tb then none else H b) a (ns.map V.int):=by
   rcases hS with (h|⟨o,h⟩)|h
   . exact .inl (.inl ((if_neg hat).trans h))
   . exact .inl (.inr ⟨o,(if_neg hat).trans h⟩)
   . exact .inr h
  refine codeAny_mono ((F _ hKb hB).run callerA [] s₁ H ⟨[.ref a],[]⟩ [.ref a] [.ref a] (fun v H'=>v=.bl true/\TabU tb H') (fun _ _ _=>False) hr e0 (hbind s₁ (.ref a)) (.cons rfl .nil) ⟨.inl hT,fun b=>if b=tb then none else H b,[.list (ns.map .int)],sG,.cons (.lst hSG (zeu ns)) .nil,hsp _ _ fun f v G' H' g r=>⟨zdb r.rd,(show TabU tb H from .inl hT).same g.h⟩⟩) fun r s' h=>?rs
  cases r with
  | error e=>
   obtain⟨_,_,_,_,_,hf⟩:=h;exact hf.elim
  | ok fl=>
   cases fl with
   | next=>exact False.elim h
   | brk=>exact False.elim h
   | cont=>exact False.elim h
   | ret u=>
    obtain⟨v,H',os,bare,un,hok',r',q⟩:=h;obtain⟨q',hT'⟩:v=.bl true/\TabU tb H':=q;subst q';obtain rfl:u=Value.bool true:=r';have keepB:∀ b o,b≠tb->s₁.heap.get? b=some o->s'.heap.get? b=some o:=fun b o hb e=>by
     cases q:H b with
     | none=>exact un.keep b o e q (by intro z;exact absurd (show b∈([]:List Addr) from z) (by simp)) (by simp)
     | some u=>
      rcases hO b u q with ⟨z,_⟩|⟨_,_,ob,xs,z⟩
      . exact absurd z hb
      . rw [z] at q
        have z2:=un.frzs b ob _ q;obtain⟨e1,_⟩:=hok b _ q;obtain⟨e2,_⟩:=hok' b _ z2;rw [e] at e1;cases e1;exact e2
    obtain⟨ps,ep⟩:∃ ps,s'.heap.get? tb=some (PySem.W.tabObj ps):=by
     rcases hT' with z|⟨c',z,_⟩
     . exact⟨#[],(hok' tb _ z).1⟩
     . obtain⟨⟨ps,ep,_⟩,_,_⟩:=hok' tb _ z
       exact⟨ps,ep⟩
    refine⟨rfl,⟨fun b o e=>?_,fun b o e=>?_⟩,os,bare⟩
    . by_cases hb:b=tb
      . subst hb
        rw [ht] at e;cases e;exact .inr (.inl ⟨(hcd.tab ht).isCodeTable,rfl,#[],ps,rfl,by rw [ep];simp⟩)
      . exact .inl (keepB b o hb e)
    . by_cases hb:b=tb
      . subst hb;exact⟨_,ep⟩
      . exact⟨o,keepB b o hb e⟩
 have tok:∀ (H:Hp),zD P w H s₁.heap tb (tab0 tb):=fun H=>⟨ht,⟨_,ht⟩,fun h1 h2 e k=>k _ e⟩
 cases hk:K.lookup a with
 | some o=>
  have e:=KX a o hk;rw [ha] at e;cases e;refine core (fun b=>if b=tb then some (tab0 tb) else none) (.inr ⟨_,vs.toArray,_,hk,rfl,rfl,rfl,by rw [YaZ,lenV];exact hl,by simpa using rv⟩) (fun b u z=>?_) (fun b o z=>?_) (if_pos rfl)
  . by_cases hb:b=tb
    . have z':=(if_pos hb).symm.trans z
      cases z';subst hb
      exact tok _
    . have z':=(if_neg hb).symm.trans z
      cases z'
  . by_cases hb:b=tb
    . have z':=(if_pos hb).symm.trans z
      cases z';exact .inl ⟨hb,rfl⟩
    . have z':=(if_neg hb).symm.trans z
      cases z'
 | none=>
  refine core (fun b=>if b=tb then some (tab0 tb) else if b=a then some (.frz { cls:=.type "list", data:=.seq vs.toArray } (.lst (ns.map V.int))) else none) (.inl (.inr ⟨{ cls:=.type "list", data:=.seq vs.toArray },(if_neg hat).trans (if_pos rfl)⟩)) (fun b u z=>?_) (fun b o z=>?_) (if_pos rfl)
  . by_cases hb:b=tb
    . have z':=(if_pos hb).symm.trans z
      cases z';subst hb
      exact tok _
    . have z1:=(if_neg hb).symm.trans z
      by_cases hb:b=a
      . have z':=(if_pos hb).symm.trans z1
        cases z';subst hb
        exact⟨ha,by rw [YaR];exact hl,vs,_,rv,ha⟩
      . have z':=(if_neg hb).symm.trans z1
        cases z'
  . by_cases hb:b=tb
    . have z':=(if_pos hb).symm.trans z
      cases z';exact .inl ⟨hb,rfl⟩
    . have z1:=(if_neg hb).symm.trans z
      by_cases hb:b=a
      . have z':=(if_pos hb).symm.trans z1
        cases z';exact .inr ⟨hb,hk,_,_,rfl⟩
      . have z':=(if_neg hb).symm.trans z1
        cases z'
theorem zhV{l:PySem.W.OpenLaw}{n k:Nat}{q:Program}{loose:List Str}{XP:(Str->Option Value)->Heap->Prop}{YP:World->Heap->Prop}{d dd:DefRec}{K:Params->Ybf}{sp:Sp3}{x dn:Str}
 (hn:l.most=some n) (hn2:n<=sizeLine) (hdf:d.params.defaults=[]) (hr:Room k callerA) (hY:∀ (w:World) (h:Heap),YP w h->(K w.params).In h) (hrec:(recsOf q).find? (fun e=>e.name==dn)=some dd)
 (F:∀ (w:World) (mg:Str->Option Value) (fa:Addr) (h:Heap),(K w.params).In h->h.Ns mainGlobals mg->mg d.name=some (.ref fa)->
  ∃ (fd:FuncData) (c0 tb:Addr),(∀ (s:Shared) (u:Value),BindsTo s fd ⟨[u],[]⟩ [(x,u)])/\PySem.W.tabIn (K w.params) dn=some (c0,tb)/\(K w.params).lookup tb=none/\
   ∀ base:Heap,(K w.params).In base->BMod mg base->FnOk l.prog w (K w.params) mg base (CXR l.prog w) k fa fd [x] (spU tb (K w.params) sp))
 (hsp:∀ (ns:List Int),ns.length<=n->∀ (Q:Bool->D->Prop) (E:Addr->Prop),(∀ f,Q f (.bool true))->sp [.list (ns.map .int)] Q E) :
 PySem.W.WalkO q loose XP YP l.row.toRowW d [] (fun f vs=>PySem.call f vs):=by
 refine Att.attach_call hn hdf fun w s₀ s₁ mg mb fa o pm cd doc a vs ns G Y ho hd hcd hmg hobj hints hlen hg=>?_
 have KX:=hY w _ Y;obtain⟨fd,c0,tb,hb,htab,hKt,hF⟩:=F w mg fa _ KX G.T.g hmg;obtain⟨hc,ht⟩:=PySem.W.tab_of G.T KX hrec htab;exact zke KX G.T.g G.T.b G.T.builtins G.T.nolimit hg hobj hints (Ya5 hlen hn2) hr ht hc (zh2 G.T) hKt hF hb (hsp ns hlen)
end L3
namespace L2
open PySem PySem.Spec PyProof.Rows PySem.W L3
section
variable{prog:Program}{w:World}{A:Around}{E:Value->Shared->Prop}{s:Shared}
theorem zj4{ns:List Int}(nd:ns.Nodup):Ordr (fun i j=>decide (ns.getD i 0<ns.getD j 0)) ns.length where
 tr:=fun i j k h1 h2=>by
  have h1:=of_decide_eq_true h1;have h2:=of_decide_eq_true h2;exact decide_eq_true #[0]
 as:=fun i j h=>by
  have h:=of_decide_eq_true h;exact decide_eq_false #[0]
 co:=fun i j hi hj ne=>by
  have e1:ns.getD i 0=ns[i]:=by rw [YaP,YaQ hi];rfl
  have e2:ns.getD j 0=ns[j]:=by rw [YaP,YaQ hj];rfl
  have h:ns[i]≠ns[j]:=fun e=>ne ((Wa3 nd).mp e)
  show decide _=true\/decide _=true
  rw [e1,e2,decide_eq_true_eq,decide_eq_true_eq]
  omega
theorem zdN{vs:List Value}{ns:List Int}(h:IntsAre vs ns){i:Nat}(hi:i<vs.length):∃ t,vs.getD i Value.none=.int (ns.getD i 0) t:=by
 induction h generalizing i with
 | nil=>simp at hi
 | cons n t _ ih => cases i with
  | zero=>exact⟨t,rfl⟩
  | succ i=>exact ih (by simpa using hi)
theorem zkR{a:Addr}{vs:List Value}{ns:List Int}{n:Nat}{P:PySem.Fin->Shared->Prop}(ho:s.heap.get? a=some (seqObj "list" vs.toArray n))(hI:IntsAre vs ns)(nd:ns.Nodup)(h1000:vs.length<1000)
 (h:∀ (p:Array Nat),OkP vs.length p->SoP (fun i j=>decide (ns.getD i 0<ns.getD j 0)) p vs.length->P (.done (.ret .none)) { s with heap:=sortedHeap s.heap a vs (List.toArray (p.toList.map fun i=>vs.getD i Value.none)) }) :
 wpAny (model prog w) A (Builtin.«list.sort» ⟨[.ref a],[]⟩) P E s:=by
 rw [list_sort_plain];have ha:a<s.heap.objs.size:=YaX ho;have hln:=hI.length;refine wpAny_bind (listItems_at ho rfl ?_);refine wpAny_bind (listUpdate_at ho rfl ?_ (by rw [YaZ,sizeLine_eq];omega) (WbG _))
 obtain⟨e1,ho1⟩:∃ e1,(s.heap.update a (Obj.mapSeq fun _=>#[])).get? a=some (seqObj "list" #[] e1):=⟨_,get?_update_seq ho (fun _=>#[])⟩
 refine wpAny_bind (seqEpoch_at ho1 rfl ?_)
 refine wpAny_bind (wpAny_newTuple ?_ (by show vs.length<=_;rw [sizeLine_eq];omega))
 refine wpAny_bind (wpAny_newList ?_ (WbG _))
 refine wpAny_holding ?_
 have ho6:(((s.heap.update a (Obj.mapSeq fun _=>#[])).push (seqObj "tuple" vs.toArray 0)).push (seqObj "list" #[] 0)).get? a=some (seqObj "list" #[] e1):=by
  rw [WaV _ _ _ (by rw [size_push',Wa9];exact Yaf (WaP ha)),WaV _ _ _ (by rw [Wa9];exact Yaf ha)]
  exact ho1
 show wpAny (model prog w) A _ P E { s with heap:=((s.heap.update a (Obj.mapSeq fun _=>#[])).push (seqObj "tuple" vs.toArray 0)).push (seqObj "list" #[] 0) }
 dsimp only;have hsz:vs.toArray.size=vs.length:=by simp
 have fin:∀ (st':SortSt) (p:Array Nat),failedOf st'=none->(arrOf st').map (·.2)=List.toArray (p.toList.map fun i=>vs.getD i Value.none)->OkP vs.length p->SoP (fun i j=>decide (ns.getD i 0<ns.getD j 0)) p vs.length->
  wpAny (model prog w) A (do
   let touched:=(<-seqEpoch a) != e1
   Builtin.List.listUpdate (.ref a) fun _=>(arrOf st').map (·.2)
   if let some e:=failedOf st' then rule "list.sort.comparison-raised";throw e
   if touched then rule "list.sort.modified";raiseError "ValueError" "list modified during sort"
   ret .none) P E { s with heap:=((s.heap.update a (Obj.mapSeq fun _=>#[])).push (seqObj "tuple" vs.toArray 0)).push (seqObj "list" #[] 0) }:=by
  intro st' p hf hout ok so;have hz:(List.toArray (p.toList.map fun i=>vs.getD i Value.none)).size=vs.length:=by rw [YaZ,YaR,Array.length_toList,ok.size]
  rw [hout];refine wpAny_bind (seqEpoch_at ho6 rfl ?_);refine wpAny_bind (listUpdate_at ho6 rfl ?_ (WbG _) (Ya5 (Nat.le_of_eq hz) (by rw [sizeLine_eq];omega)))
  rw [hf];simp only [bne_self_eq_false,WaH,if_false];exact wpAny_pure (h p ok so)
 by_cases h2:vs.toArray.size<2
 . rw [if_pos h2,if_pos h2]
   refine wpAny_bind (wpAny_pure ?_)
   rw [StateT.run_pure];refine wpAny_bind (wpAny_pure ?_);rw [hsz] at h2;refine fin _ (List.toArray (List.range vs.length)) rfl ?_ (Wbm _) (fun i j a b=>by omega)
   exact zdh rfl h2
 . rw [if_neg h2,if_neg h2]
   rw [hsz] at h2;have hk:keyKind' vs.toArray=pure oneType':=by
    obtain⟨v₁,v₂,rest,rfl⟩:∃ v₁ v₂ rest,vs=v₁ :: v₂ :: rest:=zhP h2;exact keyKind_ints hI
   rw [hk];refine wpAny_bind (wpAny_pure ?_);have est:SortSt.mk' oneType' (vs.toArray.zip vs.toArray) #[] 7 none=kst oneType' (pairsOf vs) (List.toArray (List.range vs.length)) #[] 7:=by
    have e:=kas_range (pairsOf vs);rw [pairsOf_size] at e;unfold kst;rw [e];rfl
   rw [est];refine wpAny_bind (wpAny_mono (WS.runs (E:=fun _ _=>False) (lt:=fun i j=>decide (ns.getD i 0<ns.getD j 0)) (n:=vs.length) (Q:=fun _ st'=>∃ p:Array Nat,arrOf st'=p.map (kas_item (pairsOf vs))/\failedOf st'=none/\OkP vs.length p/\Srt (fun i j=>decide (ns.getD i 0<ns.getD j 0)) p 0 vs.length)
    (fun i j' C hi hj hC=>by
     rw [<-kas_ask_eq];obtain⟨t,e1⟩:=zdN hI hi;obtain⟨u,e2⟩:=zdN hI hj;show wpAny _ _ (keyLt' oneType' (vs.getD i Value.none) (vs.getD j' Value.none)) C _ _;rw [e1,e2];exact kat_lt_int hC) (by rw [hln];exact zj4 nd) (Wbm _) #[0] fun p' pd' g' ok so=>⟨p',rfl,rfl,ok,so⟩) ?_ fun _ _ x=>x.elim)
   rintro⟨⟨⟩,st'⟩ s'' ⟨e,p,har,hf,ok,so⟩
   have e:s''=_:=e;subst e;refine fin st' p hf ?_ ok fun i j h1 h2=>so i j (WbG _) h1 h2
   apply Array.toList_inj.mp
   rw [har,Array.map_map,Array.toList_map];exact Yat fun i _=>by show(kas_item (pairsOf vs) i).2=_;rw [kas_item_eq]
end
variable[LamW]
theorem zc0:∀ {vs:List Value} {ks:List Int},vs.length=ks.length->(∀ j v,vs[j]?=some v->∃ t,v=Value.int (ks.getD j 0) t)->IntsAre vs ks
 | [],[],_,_=>.nil
 | v :: vs, k :: ks, hl, h => by
  obtain⟨t,e⟩:=h 0 v rfl;have e:v=Value.int k t:=e;subst e;exact .cons k t (zc0 (Nat.succ.inj hl) fun j v hv=>h (j+1) v hv)
section
variable{X:Cx}
theorem zj9{ks:List Int}{vs:List (Key×Value)}(h:KV (ks.map fun k=>(Sum.inl k,V.bl true)) vs):vs.length=ks.length/\∀ i k x,vs[i]?=some (k,x)->k=Sum.inl (ks.getD i 0):=by
 induction ks generalizing vs with
 | nil=>cases h;exact⟨rfl,fun i k x e=>by simp at e⟩
 | cons a ks ih=>
  cases h with
  | cons r t=>
   obtain⟨h1,h2⟩:=ih t;refine⟨by simp [h1],fun i k x e=>?_⟩
   cases i with
   | zero=>
    simp at e
    obtain⟨r1,_⟩:=r;have r1:Sum.inl a=_:=r1;rw [e] at r1;exact r1.symm
   | succ i=>exact h2 i k x (by simpa using e)
theorem zmU(hc:X.calm=true):zH X (.builtin "sorted") (fun xs H Q=>∃ a ks,xs=[V.ref a]/\H a=some (.dK (ks.map fun k=>(Sum.inl k,V.bl true)))/\ks.Nodup/\ks.length<1000/\∀ ns:List Int,ns.Perm ks->ns.Pairwise (· < ·)->∀ p,H p=none->Q (.ref p) (upd H p (.lst (ns.map V.int)))):=by
 intro pins s σ H xs us Q I r h;obtain⟨a,ks,rfl,e,nd,hlt,q⟩:=h;obtain⟨u,rfl,ru⟩:=jT r;cases ru;obtain⟨hz,hsys,vs,kv,o,es,ep,h1,h2,h3,h4⟩:=zeS I.hok e;have hD:s.heap.DictAt (zW X.prog X.w) a vs ep:=⟨o,es,h1,h2,h3,h4⟩;obtain⟨kl,ka⟩:=zj9 kv;refine Calls.call_function_entry kind_sorted plain_sorted entry_sorted (args_sorted1 _) ?_;unfold Builtin.«sorted»;refine wpAny_bind (m:=checkCount "sorted" 1 1 _) (wpAny_pure ?_)
 refine wpAny_bind (kdu_collect (kdl_dict (knd:=zW X.prog X.w) (kvs:=vs) (ep:=ep) hsys) (I.ok.hd hc) hD (by rw [kl,sizeLine_eq];omega) fun h' tk acc hk hit=>?_)
 obtain⟨hs,hat⟩:=hit;have hI:IntsAre acc.toList ks:=zc0 (by rw [Array.length_toList,hs,kl]) fun j v hv=>by
  obtain⟨k,x,hk1,hk2⟩:=hat j v (by simpa using hv)
  have:=ka j k x hk1;subst this;have hk2:Zr (Sum.inl (ks.getD j 0)) v=true:=hk2
  rcases jz hk2 with ⟨i,t,e1,e2⟩|⟨y,t,e1,_⟩
  . cases e1;exact⟨t,e2⟩
  . cases e1
 have hal:=hI.length;refine wpAny_bind (wpAny_newList ?_ (by rw [sizeLine_eq];omega))
 have hoL:(h'.push (seqObj "list" acc.toList.toArray 0)).get? h'.objs.size=some (seqObj "list" acc.toList.toArray 0):=Yan _ rfl;show wpAny _ _ _ _ _ { s with heap:=h'.push (seqObj "list" acc.toList.toArray 0),toks:=tk }
 refine wpAny_bind (wpAny_holding (wpAny_call_entry slot_list_sort ⟨_,hoL,rfl⟩ entry_list_sort ?body (args_list_sort _)))
 case body=>
  refine zkR (s:={ s with heap:=h'.push (seqObj "list" acc.toList.toArray 0),toks:=tk }) hoL hI nd #[0] fun p ok so=>⟨_,rfl,wpAny_pure ⟨_,rfl,?_⟩⟩
  have I':Inv X pins σ H { s with heap:=h',toks:=tk }:=I.kept (t':=tk) hk
  have hz2:=ok.size;have hb1:∀ j∈p.toList,j<acc.toList.length:=fun j hj=>Yba.mp (ok.mem_iff.mp hj)
  have keep:∀ b u,h'.get? b=some u->(sortedHeap (h'.push (seqObj "list" acc.toList.toArray 0)) h'.objs.size acc.toList (List.toArray (p.toList.map fun i=>acc.toList.getD i Value.none))).get? b=some u:=fun b u e=>by
   have hne:b≠h'.objs.size:=Yaf (YaX e);unfold sortedHeap;rw [WaE _ _ _ _ hne];refine YaW _ (YaW _ ?_);rw [WaE _ _ _ _ hne];exact YaW _ e
  obtain⟨c1,hc1⟩:∃ c1,((h'.push (seqObj "list" acc.toList.toArray 0)).update h'.objs.size (Obj.mapSeq fun _=>#[])).get? h'.objs.size=some (seqObj "list" #[] c1):=⟨_,get?_update_seq hoL fun _=>#[]⟩
  obtain⟨c2,hc2⟩:∃ c2,(sortedHeap (h'.push (seqObj "list" acc.toList.toArray 0)) h'.objs.size acc.toList (List.toArray (p.toList.map fun i=>acc.toList.getD i Value.none))).get? h'.objs.size=some (seqObj "list" (List.toArray (p.toList.map fun i=>acc.toList.getD i Value.none)) c2):=⟨_,get?_update_seq (YaW _ (YaW _ hc1)) fun _=>List.toArray (p.toList.map fun i=>acc.toList.getD i Value.none)⟩
  have en:(p.toList.map fun i=>ks.getD i 0).map V.int=p.toList.map fun i=>(ks.map V.int).getD i V.non:=by
   rw [YaD];refine Yat fun i hi=>?_
   have hik:i<ks.length:=by have:=hb1 i hi;omega
   rw [YaP,Ya0,YaQ hik];show V.int (ks.getD i 0)=V.int ks[i];rw [YaP,YaQ hik];rfl
  have ok':OkP ks.length p:=by rw [<-hal];exact ok
  refine⟨.ref h'.objs.size,_,I'.laid (a:=h'.objs.size) (o:=.lst ((p.toList.map fun i=>ks.getD i 0).map V.int)) (t':=tk) keep (YaY _) ⟨?_,p.toList.map fun i=>acc.toList.getD i Value.none,c2,?_,hc2⟩,rfl,q _ (L3.zeP 0 ok') ?_ _ (I'.hok.fresh (YaY _))⟩
  . rw [YaR,YaR,Array.length_toList,hz2,sizeLine_eq];omega
  . rw [en];exact L3.zcq (zbY hI) hb1
  . rw [WaW,Wai]
    intro i j hi hj hij;have hi':i<p.size:=by simpa using hi
    have hj':j<p.size:=by simpa using hj
    have:decide (ks.getD (gp p i) 0<ks.getD (gp p j) 0)=true:=so i j hij #[0]
    have e:∀ k (hk:k<p.size),gp p k=p.toList[k]'(by simpa using hk):=fun k hk=>by simp [gp,Array.getD,hk]
    rw [e i hi',e j hj'] at this;exact of_decide_eq_true this
end
end L2
namespace L3
open PySem PySem.Spec PyProof.Rows L2
variable[LamW]
def addK(ks:List Int)(k:Int):List Int:=if k∈ks then ks else ks++[k]
theorem zhK(ks:List Int)(k:Int):putK (ks.map fun k=>((Sum.inl k:Key),V.bl true)) (Sum.inl k) (.bl true)=(addK ks k).map fun k=>(Sum.inl k,V.bl true):=by
 unfold putK addK;have e:((ks.map fun k=>((Sum.inl k:Key),V.bl true)).any fun kv=>decide (kv.1=Sum.inl k))=decide (k∈ks):=by
  induction ks with
  | nil=>rfl
  | cons a r ih=>
   rw [Ya1,List.any_cons,ih]
   by_cases h:a=k
   . subst h;simp
   . have h1:¬(Sum.inl a:Key)=Sum.inl k:=fun z=>h (Sum.inl.inj z)
     have h2:¬k=a:=fun z=>h z.symm
     simp [h1,h2]
 rw [e]
 by_cases h:k∈ks
 . rw [if_pos (decide_eq_true h),if_pos h,YaD]
   refine Yat fun x hx=>?_
   show(if(Sum.inl x:Key)=Sum.inl k then _ else _)=_
   split<;>rfl
 . rw [if_neg (fun z=>h (of_decide_eq_true z)),if_neg h,Ya2];rfl
theorem zc3{ks:List Int}(k:Int)(h:ks.Nodup):(addK ks k).Nodup:=by
 unfold addK
 split
 . exact h
 . rename_i n
   exact WaQ.mpr ⟨h,by simp,fun a ha b hb z=>n (by rw [Ya6.mp hb] at z;rw [<-z];exact ha)⟩
theorem zdv(ks:List Int)(k:Int):(addK ks k).length<=ks.length+1:=by
 unfold addK
 split
 . omega
 . simp
theorem zcw{ks:List Int}{k x:Int}:x∈addK ks k↔x∈ks\/x=k:=by
 unfold addK
 split
 . exact⟨.inl,fun h=>h.elim id fun z=>by rw [z];assumption⟩
 . simp
def atK(o:Option (Option Cl))(P:List Int->Prop):Prop:=match o with
 | some (some (.dk ks))=>P ks
 | _=>False
theorem zbx{o:Option (Option Cl)}{P:List Int->Prop}(h:atK o P):∃ ks,o=some (some (.dk ks))/\P ks:=by
 cases o with
 | none=>exact False.elim h
 | some x => cases x with
  | none=>exact False.elim h
  | some c => cases c with
   | dk ks=>exact⟨ks,rfl,h⟩
   | _=>exact False.elim h
section
variable{K:Ybf}{H0 G0:Hp}{ρ : Env3}{σ : L2.St}{G H:Hp}
theorem zbr(F:Fr3 K H0 G0 ρ σ G H){i:Nat}{ks:List Int}(h:ρ[i]?=.some (.some (.dk ks))):∃ l,σ[i]?=.some (.some (.ref l))/\H l=.some (.dK (ks.map fun k=>(Sum.inl k,V.bl true)))/\G l=none:=by
 obtain⟨v,h1,h2⟩:=F.slot i _ h;cases h2 with
 | dk a c=>exact⟨_,h1,a,c⟩
end
section
variable{X:Cx}{H0:Hp}{e a b:Expr}{pos:Pos}{x:Str}{i:Nat}
def ZW(i:Nat):TS3:=fun A ρ=>A.nx (ρ.set i (some (.dk [])))
theorem zjt{pos' p:Pos}(hN:X.N.Nodup)(hi:X.N[i]?=some x)(hx:Loc X.env.scope x)(hs:swapsWith (.Dict [] [] p) (some (.Name x pos')) pos.line X.env=pure false:=by rfl)
 (hf:X.fn x=true\/X.env.scope.names.lookup x=some .local:=by first|exact .inl rfl|exact .inr rfl|assumption):PS3 X H0 (.Assign [.Name x pos'] (.Dict [] [] p) pos) (ZW i):=PS.imp (ZD hN hi hx zhe hs hf) fun B σ H=>el7 fun G0 A ρ G F q L=>
 fun p hp=>L.nx _ _ G _ (F.put (zJ hp _).x (.dk zl (F.sub.free hp)) fun a h=>by cases h;exact hp) q
def ZL(i:Nat)(ta:TE3):TS3:=fun A ρ=>atK ρ[i]? fun ks=>ta ρ fun c=>asI c fun k=>ks.length<sizeLine/\A.nx (ρ.set i (some (.dk (addK ks k))))
theorem zd5{ta:TE3}{np cp spos:Pos}{k1}(hu:X.A.units+1<cLine)(hN:X.N[i]?=some x)(hv:Vis X.env.scope x)(ha:PE3 X H0 a ta)(hd:(x==("__debug__" : Str))=false:=by decide)(hcd:(x==("__classdict__" : Str))=false:=by decide)
 (hs:swapsWith (.Constant (.bool true) k1 cp) (some (.Subscript (.Name x np) a spos)) pos.line X.env=pure false:=by rfl):PS3 X H0 (.Assign [.Subscript (.Name x np) a spos] (.Constant (.bool true) k1 cp) pos) (ZL i ta):=by
 refine PS.imp (ze6 hu (jd hN hv hd hcd) ha.ok zeA hs) fun B σ H hyp=>?_
 obtain⟨G0,A,ρ,G,F,q,L⟩:=hyp;obtain⟨ks,hi,q⟩:=zbx q;obtain⟨l,hl,_,_⟩:=zbr F hi;refine⟨.ref l,hl,G0,ρ,G,F,ha.mono ρ _ _ (fun c q2 v2 G2 H2 g2 w2=>?_) q⟩
 obtain⟨k,rfl,e4,q4⟩:=zb1 q2;cases zE (zj w2).rd;have F3:=F.gr g2;obtain⟨l',hl',k2,k4⟩:=zbr F3 hi;rw [hl] at hl';cases hl';exact⟨l,_,rfl,DPut.k (k:=Sum.inl k) k2 (by rw [YaR];exact e4),L.nx _ _ _ _ (F3.chg (c':=.dk (addK ks k)) hi hl rfl (fun _ h=>h) (.dk (by rw [zl,zhK]) k4)) q4⟩
def ZM(i:Nat):TN3:=fun ρ Q=>atK ρ[i]? fun ks=>ks.Nodup/\ks.length<1000/\∀ ns:List Int,ns.Perm ks->ns.Pairwise (· < ·)->Q true (ns.map PyData.int)
theorem zhH{K:Ybf}{H0 G:Hp}(ns:List Int):Rfs K H0 G true (ns.map V.int) (ns.map PyData.int):=by
 induction ns with
 | nil=>exact Rfs.nil
 | cons a r ih=>exact Rfs.cons (f:=true) (.sc rfl (.int a)) ih
theorem zj7{np p:Pos}(hc:X.calm=true)(hg:Gl X "sorted")(hm:X.mg "sorted" = none)(hN:X.N[i]?=some x)(hv:Vis X.env.scope x)(hd:(x==("__debug__" : Str))=false:=by decide)(hcd:(x==("__classdict__" : Str))=false:=by decide)
 (he:starEach [.Name x p] X.env=(false,eval (.Name x p) X.env)::starEach [] X.env:=by rfl) (hpl:(backTo pos (starEach [] X.env)).any (·.1)=false:=by rfl):PN3 X H0 (.Call (.Name "sorted" np) [.Name x p] [] pos) (ZM i):=by
 refine⟨fun ρ Q Q' h q=>?_,PE.imp (zce (x:="sorted") (zmU hc) hg hm (show bootBuiltins "sorted" = some (.builtin "sorted") by rfl) (jS (jd hN hv hd hcd) Jk he) #[1] #[1] he hpl) fun σ H Q=>el5 fun G0 ρ G F q=>?_⟩
 . obtain⟨ks,e,h1,h2,q⟩:=zbx q
   show atK ρ[i]? _
   rw [e];exact⟨h1,h2,fun ns a b=>h _ _ (q ns a b)⟩
 . obtain⟨ks,e,h1,h2,q⟩:=zbx q
   obtain⟨l,hl,k2,k4⟩:=zbr F e;exact⟨.ref l,hl,l,ks,rfl,k2,h1,h2,fun ns a b p hp=>q ns a b p _ G H (Gr.refl F.sub) hp (zhH ns)⟩
end
end L3
namespace L2
open PySem PySem.Spec PyProof.Rows
section
variable{X:Cx}
end
end L2
namespace L3
open PySem PySem.Spec PyProof.Rows L2
variable[LamW]
section
variable{X:Cx}
end
end L3
namespace L2
open PySem PySem.Spec PyProof.Rows
theorem zcd{M:Model}{A:Around}{E:Value->Shared->Prop}{s:Shared}{v:Value}{T:String}{name:Str}{id:String}{Q:Option Value->Shared->Prop}(S:Slot T name id)(h:s.TypeIs v T)(q:Q (some (.builtin id)) s):wpAny M A (specialOf v name) Q E s:=by
 unfold specialOf;refine wpAny_bind (wpAny_typeOf h ?_);rw [S.lookup];exact wpAny_pure q
theorem zjW{d:Addr}{o:Obj}{es:Array DictEntry}{ep:Nat}(hx:o.ExactDict)(he:o.data=.dict es ep)(hs:(d==sysModules)=false) :
 Meets (Builtin.«dict.__iter__» { pos:=[Value.ref d] }) fun A R s=>s.heap.get? d=some o/\R (.ok (.ret (.ref s.heap.objs.size))) { s with heap:=s.heap.push { cls:=.type "dict_keyiterator", data:=.fields #[.ref d,.int 0 0,.int es.size 0,.int ep 0] } }:=by
 intro prog w A R s h;obtain⟨hd,q⟩:=h;unfold Builtin.«dict.__iter__» Builtin.Dict.dictSlotNone;refine wpAny_bind (wpAny_bind (wpAny_notOrdered_dict ⟨o,hd,hx.1⟩ ?_));unfold slotArgs;simp only [List.isEmpty_nil,Wbt,WaH,if_false,List.length_nil,bne_self_eq_false];refine wpAny_bind (wpAny_pure (wpAny_pure ?_));unfold Builtin.Dict.addrOf Builtin.Dict.showsAll;refine wpAny_bind (wpAny_pure ?_)
 rw [hs];simp only [WaH,if_false];refine wpAny_bind (wpAny_pure ?_);refine wpAny_bind (wpAny_dictEntries hd he ?_);refine wpAny_bind (wpAny_dictEpoch hd he ?_);unfold newFields;refine wpAny_bind (wpAny_newObj_type ?_);exact wpAny_pure q
theorem znc{prog:Program}{w:World}{A:Around}{E:Value->Shared->Prop}{s:Shared}{d:Addr}{o:Obj}{es:Array DictEntry}{ep:Nat}{Q:Value->Shared->Prop}(hd:s.heap.get? d=some o)(hx:o.ExactDict)(he:o.data=.dict es ep)(hs:(d==sysModules)=false)
 (q:Q (.ref s.heap.objs.size) { s with heap:=s.heap.push { cls:=.type "dict_keyiterator", data:=.fields #[.ref d,.int 0 0,.int es.size 0,.int ep 0] } }):wpAny (model prog w) A (pyIter (.ref d)) Q E s:=by
 have ht:s.TypeIs (.ref d) "dict":=⟨o,hd,hx.1⟩;unfold pyIter;refine wpAny_bind (zcd Wav ht ?_);dsimp only;refine wpAny_bind (wpAny_callSpecialIfBoundUnlessNone?_slot ht Wav ?_);refine call_meets Wav ht PySem.F.entry_dict_iter (PySem.F.args_dict_iter_1 _) (zjW hx he hs) ⟨hd,?_⟩;dsimp only;refine wpAny_bind (zcd Waa ⟨_,Yan _ rfl,rfl⟩ ?_)
 dsimp only;exact wpAny_pure q
theorem zgY{d it:Addr}{o:Obj}{es:Array DictEntry}{ep i:Nat}{e:DictEntry}(he:o.data=.dict es ep)(hi:es[i]?=some e) :
 Meets (Builtin.«dict_keyiterator.__next__» { pos:=[Value.ref it] }) fun A R s=>s.heap.get? d=some o/\s.heap.IsKeyIter it d i es.size ep/\∀ h',h'.IsKeyIter it d (i+1) es.size ep->Heap.SameBut it s.heap h'->R (.ok (.ret e.key)) { s with heap:=h' }:=by
 intro prog w A R s h;obtain⟨hd,hk,q⟩:=h;have ht:=hk.typeIs;unfold Builtin.«dict_keyiterator.__next__»;refine wpAny_bind ?_;unfold Builtin.Dict_items.slot0 slotArgs;simp only [List.isEmpty_nil,Wbt,WaH,if_false,List.length_nil,bne_self_eq_false];refine wpAny_bind (wpAny_pure (wpAny_pure ?_));refine wpAny_bind ?_;refine wpAny_bind ?_;refine wpAny_bind ?_;refine wpAny_typeNameOfWhole_keyiter ht ?_
 refine wpAny_pure ?_
 obtain⟨⟨c0,dd,da,sl⟩,ho,hc,hf⟩:=id hk;simp only at hc hf;subst hc hf;have hb:(if Builtin.Dict_items.ownsTuple "dict_keyiterator" = true then 2 else 0)=0:=#[1]
 rw [hb];refine wpAny_bind (wpAny_fieldsOf ho rfl ?_);show wpAny _ _ (if(Value.ref d==Value.none)=true then _ else _) _ _ _
 rw [if_neg (by intro z;cases z)]
 refine wpAny_bind (wpAny_pure ?_)
 refine wpAny_bind (wpAny_dictEntries hd he ?_)
 dsimp only;rw [if_neg (by simp)]
 refine wpAny_bind (wpAny_pure ?_)
 refine wpAny_bind (wpAny_dictEpoch hd he ?_)
 rw [if_neg (by simp)]
 refine wpAny_pure ?_
 dsimp only;rw [if_neg #[0],Int.toNat_natCast,hi]
 dsimp only;refine wpAny_bind ?_;refine wpAny_bind (wpAny_typeNameOfWhole_keyiter ht (wpAny_pure ?_));rw [hb];refine wpAny_bind (wpAny_isOneOf_keyiter ht ?_);generalize hB:(List.any _ fun t=>[Value.type "dict_keyiterator", Value.type "object"].contains (Value.type t))=B
 have hB':B=false:=by rw [<-hB];rfl
 subst hB';refine wpAny_bind (wpAny_setField ho rfl (show 1<4 by decide) ?_)
 have hn:(s.heap.update it (Obj.mapFields fun x=>x.setIfInBounds (0+1) (rawInt (if false=true then(i:Int) - 1 else(i:Int)+1)))).IsKeyIter it d (i+1) es.size ep:=by
  exact⟨_,Heap.get?_update_self _ ho rfl,rfl,rfl⟩
 refine wpAny_bind (wpAny_holding ?_)
 refine wpAny_bind (wpAny_isOneOf_keyiter hn.typeIs ?_)
 rw [if_pos #[1]]
 exact wpAny_pure (wpAny_pure (q _ hn (WaD _ _ _)))
theorem zel{M:Model}{A:Around}{E:Value->Shared->Prop}{s:Shared}{self:Value}{T:String}{name:Str}{id:String}{Q:Option Value->Shared->Prop}(S:Slot T name id)(h:s.TypeIs self T)(q:wpAny M A (call (.builtin id) [self]) (fun v=>Q (some v)) E s):wpAny M A (callSpecial? self name) Q E s:=by
 unfold callSpecial?;refine wpAny_bind (zcd S h ?_);dsimp only;refine wpAny_holding ?_;rw [S.bind];refine wpAny_bind (wpAny_pure ?_);dsimp only;refine wpAny_bind (wpAny_mono q (fun v s' h=>?_) fun _ _ h=>h)
 exact wpAny_pure h
theorem zlt{prog:Program}{w:World}{A:Around}{E:Value->Shared->Prop}{s:Shared}{d it:Addr}{o:Obj}{es:Array DictEntry}{ep i:Nat}{e:DictEntry}{Q:Option Value->Shared->Prop}(hd:s.heap.get? d=some o)(he:o.data=.dict es ep)(hi:es[i]?=some e)(hk:s.heap.IsKeyIter it d i es.size ep)
 (q:∀ h',h'.IsKeyIter it d (i+1) es.size ep->Heap.SameBut it s.heap h'->Q (some e.key) { s with heap:=h' }):wpAny (model prog w) A (pyNext (.ref it)) Q E s:=by
 unfold pyNext;refine wpAny_bind (wpAny_attempt ?_);refine zel Waa hk.typeIs ?_;refine call_meets Waa hk.typeIs PySem.F.entry_dict_keyiterator_next (PySem.F.args_dict_keyiterator_next_1 _) (zgY he hi) ⟨hd,hk,fun h' k sb=>?_⟩
 exact wpAny_pure (q h' k sb)
theorem zgt{α : Type}{M:Model}{A:Around}{E:Value->Shared->Prop}{s:Shared}{Q:α->Shared->Prop}(hA:A.handled=none)(q:∀ h' e,(∀ b o,s.heap.get? b=some o->h'.get? b=some o)->(∃ ob,h'.get? e=some ob/\ob.cls=.type "StopIteration")->E (.ref e) { s with heap:=h' }):wpAny M A (newExc (.type "StopIteration") [] >>= fun x=>raiseNew x) Q E s:=by
 unfold newExc;refine wpAny_bind (wpAny_bind ?_);refine wpAny_newTuple ?_;unfold firstArgMember;dsimp only;refine wpAny_bind (wpAny_bind (wpAny_pure (wpAny_pure ?_)));refine wpAny_newObj_type (wpAny_raiseNew_none hA (q _ _ (fun b o e=>YaW _ (YaW _ e)) ⟨_,Yan _ rfl,rfl⟩)) ?_
 have e:ownMembersOf (Value.type "StopIteration") [] = #[]:=by rfl
 rw [e];exact(show 6<=sizeLine+2 by decide)
theorem zhR{d it:Addr}{o:Obj}{es:Array DictEntry}{ep i:Nat}(he:o.data=.dict es ep)(hi:es.size<=i) :
 Meets (Builtin.«dict_keyiterator.__next__» { pos:=[Value.ref it] }) fun A R s=>A.handled=none/\s.heap.get? d=some o/\s.heap.IsKeyIter it d i es.size ep/\∀ h' e,Heap.ExtBut it s.heap h'->({ s with heap:=h' }:Shared).TypeIs (.ref e) "StopIteration"->R (.error (.ref e)) { s with heap:=h' }:=by
 intro prog w A R s h;obtain⟨hA,hd,hk,q⟩:=h;have ht:=hk.typeIs;unfold Builtin.«dict_keyiterator.__next__»;refine wpAny_bind ?_;unfold Builtin.Dict_items.slot0 slotArgs;simp only [List.isEmpty_nil,Wbt,WaH,if_false,List.length_nil,bne_self_eq_false];refine wpAny_bind (wpAny_pure (wpAny_pure ?_));refine wpAny_bind ?_;refine wpAny_bind ?_;refine wpAny_bind ?_;refine wpAny_typeNameOfWhole_keyiter ht ?_
 refine wpAny_pure ?_
 obtain⟨⟨c0,dd,da,sl⟩,ho,hc,hf⟩:=id hk;simp only at hc hf;subst hc hf;have hb:(if Builtin.Dict_items.ownsTuple "dict_keyiterator" = true then 2 else 0)=0:=#[1]
 rw [hb];refine wpAny_bind (wpAny_fieldsOf ho rfl ?_);show wpAny _ _ (if(Value.ref d==Value.none)=true then _ else _) _ _ _
 rw [if_neg (by intro z;cases z)]
 refine wpAny_bind (wpAny_pure ?_)
 refine wpAny_bind (wpAny_dictEntries hd he ?_)
 dsimp only;rw [if_neg (by simp)]
 refine wpAny_bind (wpAny_pure ?_)
 refine wpAny_bind (wpAny_dictEpoch hd he ?_)
 rw [if_neg (by simp)]
 refine wpAny_pure ?_
 dsimp only;rw [if_neg #[0],Int.toNat_natCast,Array.getElem?_eq_none hi]
 dsimp only;refine wpAny_bind ?_;refine wpAny_bind (wpAny_typeNameOfWhole_keyiter ht (wpAny_pure ?_));rw [hb];refine wpAny_bind (wpAny_setField ho rfl (show 0<4 by decide) ?_)
 refine zgt hA fun h' e ke te=>q h' e (fun b o nb eb=>ke b o ?_) te
 exact(WaE _ _ _ _ nb).trans eb
theorem zmb{prog:Program}{w:World}{A:Around}{E:Value->Shared->Prop}{s:Shared}{d it:Addr}{o:Obj}{es:Array DictEntry}{ep i:Nat}{Q:Option Value->Shared->Prop}(hA:A.handled=none)(hd:s.heap.get? d=some o)(he:o.data=.dict es ep)(hi:es.size<=i)(hk:s.heap.IsKeyIter it d i es.size ep)
 (q:∀ h',Heap.ExtBut it s.heap h'->Q none { s with heap:=h' }):wpAny (model prog w) A (pyNext (.ref it)) Q E s:=by
 unfold pyNext;refine wpAny_bind (wpAny_attempt ?_);refine zel Waa hk.typeIs ?_;refine call_meets Waa hk.typeIs PySem.F.entry_dict_keyiterator_next (PySem.F.args_dict_keyiterator_next_1 _) (zhR he hi) ⟨hA,hd,hk,fun h' e eb te=>?_⟩
 show wpAny _ _ (isInstance (.ref e) (.type "StopIteration") >>= _) _ _ _
 refine wpAny_bind (wpAny_isInstance te (b:=true) (by rfl) ?_)
 exact wpAny_pure (q h' eb)
def Itd(d:Addr)(o:Obj)(kvs:List (List Key×V))(as:List Addr):It:=⟨fun i H=>i<as.length/\H d=some (.frz o (.dT kvs)),fun i H x H'=>H'=H/\∃ a,as[i]?=some a/\x=.ref a,fun i H=>as.length<=i/\H d=some (.frz o (.dT kvs))⟩
theorem zjz{P:Program}{w:World}{K:Ybf}{tg:Expr}(d it:Addr){o:Obj}{es:Array DictEntry}{ep:Nat}{as:List Addr}{kvs:List (List Key×V)}(he:o.data=.dict es ep)(ha:es.toList.map (·.key)=as.map Value.ref):Turn P w K tg (Itd d o kvs as) [it] it (fun i h=>h.IsKeyIter it d i es.size ep) where
 mem:=by simp
 obj:=fun i h st b hb=>by
  have e:b=it:=by simpa using hb
  subst e;obtain⟨o,e,c,d⟩:=st;exact⟨o,e,fun v z=>by rw [d] at z;cases z⟩
 keep:=fun i h h' st k=>by
  obtain⟨o,e,c,d⟩:=st;exact⟨o,k it (by simp) o e,c,d⟩
 item:=by
  intro X hP hw hK hc i pins s σ H E I hf st hg;subst hP hw hK;obtain⟨hlt,hH⟩:=hg;obtain⟨hd,_⟩:=(show zD X.prog X.w H s.heap d (.frz o (.dT kvs)) from I.hok d _ hH)
  obtain⟨f0,f1,f2,f3,f4,f5⟩:=hf it (by simp)
  have hlen:es.toList.length=as.length:=by have:=congrArg List.length ha;simpa using this
  have hi:i<es.toList.length:=#[0]
  have hk:es.toList[i].key=.ref as[i]:=by
   have h1:(es.toList.map (·.key))[i]?=(as.map Value.ref)[i]?:=by rw [ha]
   rw [Ya0,Ya0,YaQ hi,YaQ hlt] at h1;exact Wbe h1
  refine zlt hd he (e:=es.toList[i]) (by rw [<-Waw];exact YaQ hi) st fun h' st' sb=>?_
  have I1:Inv X pins σ H { s with heap:=h' }:=I.turned (t':=s.toks) (fun b o hb e=>(sb.2 b hb).trans e) f0 f1 f3 f4 f5
  refine⟨_,rfl,letGo_keyiter (s':={ s with heap:=h' }) st' ⟨.ref as[i],H,I1,?_,⟨rfl,as[i],YaQ hlt,rfl⟩,st',fun b hb=>(hf b hb).1⟩⟩
  rw [hk];exact rfl
 done:=by
  intro X hP hw hK hc i pins s σ H E I hf st hg;subst hP hw hK;obtain⟨hle,hH⟩:=hg;obtain⟨hd,_⟩:=(show zD X.prog X.w H s.heap d (.frz o (.dT kvs)) from I.hok d _ hH)
  obtain⟨f0,f1,f2,f3,f4,f5⟩:=hf it (by simp)
  have hlen:es.toList.length=as.length:=by have:=congrArg List.length ha;simpa using this
  exact zmb (I.ok.hd hc) hd he (by rw [Array.length_toList] at hlen;omega) st fun h' eb=>⟨rfl,I.turned (t':=s.toks) (fun b o hb e=>eb b o hb e) f0 f1 f3 f4 f5⟩
 self:=fun _ _ _ _ _ st h=>wpAny_pyIter_keyiter st h
def ziR(tl:TE):TI:=fun σ H R=>tl σ H fun v H1=>∃ d o kvs es ep as,v=.ref d/\H1 d=some (.frz o (.dT kvs))/\o.ExactDict/\o.data=.dict es ep/\es.toList.map (·.key)=as.map Value.ref/\R (Itd d o kvs as) H1
theorem zgM{X:Cx}{tg l:Expr}{tl:TE}(hl:PE X l tl):PI X tg l (ziR tl):=by
 intro pins s σ H R I h;refine thn (hl pins s σ H _ I h) fun v s1 ⟨x,H1,I1,r1,q1⟩=>?_
 obtain⟨d,o,kvs,es,ep,as,rfl,hH,hx,he,ha,q⟩:=q1;cases r1;obtain⟨hd,_,hs,_⟩:=(show zD X.prog X.w H1 s1.heap d (.frz o (.dT kvs)) from I1.hok d _ hH)
 refine znc hd hx he hs ?_
 refine⟨s1.heap.objs.size,[s1.heap.objs.size],_,_,H1,rfl,I1.kept (t':=s1.toks) fun b o e=>YaW _ e,zjz d _ he ha,⟨_,Yan _ rfl,rfl,rfl⟩,fun b hb=>?_,q⟩
 have e:b=s1.heap.objs.size:=by simpa using hb
 subst e;exact I1.fpOk (YaY _) (I1.hok.fresh (YaY _))
theorem zcV{α β : Type}{F:α->β->Prop}:∀ {l:List α} {m:List β},Paired F l m->∀ {j:Nat} {a:α} {b:β},l[j]?=some a->m[j]?=some b->F a b
 | _,_,.nil,_,_,_,h,_=>by simp at h
 | _, _, .cons x r, 0, _, _, h, h' => by
  rw [List.getElem?_cons_zero] at h h';cases h;cases h';exact x
 | _, _, .cons x r, j + 1, _, _, h, h' => by
  rw [List.getElem?_cons_succ] at h h';exact zcV r h h'
theorem zj2{X:Cx}{st:Stmt}{t:TS}(h:PS X st t):PS X st (fun B σ H=>∃ l kvs,H l=some (.dT kvs)/\∀ (o:Obj) (es:Array DictEntry) (ep:Nat) (as:List Addr),o.ExactDict->o.data=.dict es ep->es.toList.map (·.key)=as.map Value.ref->as.length=kvs.length->(∀ (j:Nat) (a:Addr) (k:List Key) (v:V),as[j]?=some a->kvs[j]?=some (k,v)->H a=some (.tup (k.map kV)))->t B σ (upd H l (.frz o (.dT kvs)))):=by
 intro pins s σ H B I hyp;obtain⟨l,kvs,hl,q⟩:=hyp;obtain⟨hz,hs,xs,hp,o,es,ep,ho,hx,he,hes,hnd⟩:=(show zD X.prog X.w H s.heap l (.dT kvs) from I.hok l _ hl)
 have hlen:kvs.length=xs.length:=Paired.length hp;have hat:∀ (j:Nat) (a:Addr) (k:List Key) (v:V),(xs.map (·.2.1))[j]?=some a->kvs[j]?=some (k,v)->H a=some (.tup (k.map kV)):=fun j a k v ha hk=>by
  rw [Ya0] at ha;cases e:xs[j]? with
  | none=>rw [e] at ha;cases ha
  | some y=>
   rw [e] at ha;cases ha;exact(zcV hp hk e).2.1
 have I':Inv X pins σ (upd H l (.frz o (.dT kvs))) s:=by
  refine I.write (h':=s.heap) (t':=s.toks) (e:=l) (by rw [hl];exact True.intro) (.inl rfl) (fun _ _ _ e=>e) ⟨o,ho⟩ ⟨ho,hz,hs,xs,Paired.mapP hp fun p y ⟨h1,h2,h3⟩=>⟨h1,(zh (fun z=>by rw [z,hl] at h2;cases h2)).trans h2,h3⟩,o,es,ep,ho,hx,he,hes,hnd⟩
 refine h pins s σ _ B I' (q o es ep (xs.map (·.2.1)) hx he ?_ (by rw [YaR];exact hlen.symm) hat)
 rw [hes,YaD,YaD]
 rfl
structure M2(X:Cx)(o:Expr)(m:Str)(apos:Pos)(e f:Expr)(cpos:Pos):Prop where
 base:attributeBase o m X.env (eval o X.env)=eval o X.env
 few:((backTo cpos (starEach [e,f] X.env)).all (fun x=>!x.1)&&(backToKw cpos (keywordEach [] X.env)).all (fun x=>x.1.isSome)
  && decide (([e,f]:List Expr).length+([]:List Keyword).length+(if([]:List Keyword).isEmpty then 0 else 1)<30))=true
 line:(apos.endLine==cpos.line)=true
 trees:backTo cpos (starEach [e,f] X.env)=[(false,eval e X.env),(false,eval f X.env)]
def IsD(H:Hp)(a:Addr):Prop:=(∃ kvs,Rd H a (.dK kvs))\/∃ kvs,Rd H a (.dT kvs)
theorem zmP{X:Cx}{pins:List (Addr×Obj)}{σ : St}{H:Hp}{s:Shared}{a:Addr}(I:Inv X pins σ H s)(d:IsD H a) :
 s.TypeIs (.ref a) "dict"/\(∀ b,Value.ref a=.ref b->∃ ob,s.heap.get? b=some ob/\ob.dict=none)/\(a==sysModules)=false:=by
 rcases d with ⟨kvs,e⟩|⟨kvs,e⟩
 . obtain⟨_,hd,vs,_,dd⟩:=zap I.hok e
   refine⟨dd.typeIs,fun b q=>?_,hd⟩
   cases q;obtain⟨ob,_,_,h1,h2,_⟩:=dd
   exact⟨ob,h1,h2.2.1⟩
 . obtain⟨_,hd,xs,_,dd⟩:=zaz I.hok e
   refine⟨dd.typeIs,fun b q=>?_,hd⟩
   cases q;obtain⟨ob,_,_,h1,h2,_⟩:=dd
   exact⟨ob,h1,h2.2.1⟩
section
variable{X:Cx}{pins:List (Addr×Obj)}{σ : St}{H:Hp}{s:Shared}{a:Addr}{y d:V}{u r:Value}{o:Option V}{A:Around}{E:Value->Shared->Prop}
theorem zgI{Q:Value->Shared->Prop}(hu:A.units+1<cLine)(I:Inv X pins σ H s)(g:DGet H a y o)(ry:RelV y u)(rd:RelV d r)(h:∀ w' s',Inv X pins σ H s'->RelV (o.getD d) w'->Q w' s') :
 wpAny (model X.prog X.w) A (call (.builtin "dict.get") [.ref a,u,r]) Q E s:=by
 rcases g with ⟨kvs,k,e,ey,l⟩|⟨kvs,k,b,e,ey,eb,l⟩
 . subst ey
   obtain⟨z,hd,vs,rel,dd⟩:=zap I.hok e;refine call_meetsIn PySem.F.slot_dict_get dd.typeIs PySem.F.entry_dict_get (PySem.F.args_dict_get_3 _ _ _) (meets_dict_get_default (zW X.prog X.w) a (zaW ry) hd r) ⟨_,dd.mapOf,h _ _ (I.tok _) ?_⟩;rw [l];exact(rel.val k).getD rd
 . subst ey
   cases(show u=Value.ref b from ry)
   obtain⟨z,hd,xs,rel,dd⟩:=zaz I.hok e;refine call_meetsIn PySem.F.slot_dict_get dd.typeIs PySem.F.entry_dict_get (PySem.F.args_dict_get_3 _ _ _) (meetsH_dict_get_default (tupleKind (zW X.prog X.w)) a b hd r) ⟨tupleKind_room_in1 hu,k,xs,zaJ I.hok eb,dd,h _ _ (I.tok _) ?_⟩;rw [l];exact(rel.val k).getD rd
end
def zgi(td ty tx:TE):TE:=fun σ H Q=>td σ H fun x H1=>∃ a,x=.ref a/\IsD H1 a/\ty σ H1 fun y H2=>tx σ H2 fun z H3=>∃ o,DGet H3 a y o/\Q (o.getD z) H3
section
variable{X:Cx}{o e f:Expr}{apos cpos:Pos}{td ty tx:TE}
theorem zg2(hu:X.A.units+1<cLine)(ho:PE X o td)(he:PE X e ty)(hf:PE X f tx)(m:M2 X o "get" apos e f cpos):PE X (.Call (.Attribute o "get" apos) [e,f] [] cpos) (zgi td ty tx):=by
 intro pins s σ H Q I h;refine wpAny_Call_method m.base m.few m.line PySem.F.plainAttrs_dict PySem.F.slot_dict_get PySem.F.type_dict_get (thn (ho pins s σ H _ I h) fun u s1 ⟨x,H1,I1,rx,a,ex,d,q1⟩=>?_)
 subst ex;obtain rfl:u=Value.ref a:=rx;obtain⟨t1,t2,_⟩:=zmP I1 d;refine⟨t1,t2,?_⟩;rw [m.trees];refine Calls.callWith_builtin rfl (Calls.evalArgs_plain (Calls.spliced_cons (thn (he pins s1 σ H1 _ I1 q1) fun iv s2 ⟨y,H2,I2,ry,q2⟩=>
  Calls.spliced_cons (thn (hf pins s2 σ H2 _ I2 q2) fun fv s3 ⟨z,H3,I3,rz,ov,g,q3⟩=>Calls.spliced_nil ?_))))
 exact zgI hu I3 g ry rz fun w' s4 I4 rw'=>⟨_,H3,I4,rw',q3⟩
end
end L2
namespace L3
open PySem PySem.Spec PyProof.Rows L2
variable[LamW]
def keyT(k:List Key):D:=.tuple (k.map keyD)
section
variable{K:Ybf}{H0 G0:Hp}{ρ : Env3}{σ : L2.St}{G H:Hp}
theorem Fr3.frzD(F:Fr3 K H0 G0 ρ σ G H){i:Nat}{ds:List (List Key×D)}{l:Addr}{kvs:List (List Key×V)}(hi:ρ[i]?=some (some (.dt ds)))(hv:σ[i]?=some (some (.ref l)))(hl:H l=some (.dT kvs))(r:Dr K H0 G kvs ds)(hG:G l=none){o:Obj}{es:Array DictEntry}{ep:Nat}{as:List Addr}(hx:o.ExactDict)(he:o.data=.dict es ep)(ha:es.toList.map (·.key)=as.map Value.ref)(hn:as.length=kvs.length)
 (hk:∀ (j:Nat) (a:Addr) (k:List Key) (v:V),as[j]?=some a->kvs[j]?=some (k,v)->H a=some (.tup (k.map kV))):∃ G',Same G G'/\Fr3 K H0 G0 (ρ.set i (some (.fd ds))) σ G' (upd H l (.frz o (.dT kvs))):=by
 have hat:∀ a∈as,∃ xs,H a=some (.tup xs):=fun a h=>by
  obtain⟨j,hj,e⟩:=Yam h;have hj':j<kvs.length:=#[0]
  exact⟨_,hk j a kvs[j].1 kvs[j].2 (by rw [YaQ hj,e]) (YaQ hj')⟩
 have hla:l∉as:=fun h=>by
  obtain⟨xs,e⟩:=hat l h;rw [hl] at e;cases e
 have h0:H0 l=none:=F.mine i _ _ l hi hv rfl;have e1:(fun b=>if b=l then some (.frz o (.dT kvs)) else if b∈as then H b else G b:Hp) l=some (.frz o (.dT kvs)):=if_pos rfl
 have e2:∀ b,b≠l->b∈as->(fun b=>if b=l then some (.frz o (.dT kvs)) else if b∈as then H b else G b:Hp) b=H b:=fun b n m=>by simp only [if_neg n,if_pos m]
 have e3:∀ b,b≠l->b∉as->(fun b=>if b=l then some (.frz o (.dT kvs)) else if b∈as then H b else G b:Hp) b=G b:=fun b n m=>by simp only [if_neg n,if_neg m]
 generalize (fun b=>if b=l then some (.frz o (.dT kvs)) else if b∈as then H b else G b:Hp)=G' at e1 e2 e3
 have gg:Same G G':=fun b u e=>by
  have nb:b≠l:=fun z=>by rw [z,hG] at e;cases e
  by_cases m:b∈as
  . rw [e2 b nb m];exact F.sub.s b u e
  . rw [e3 b nb m];exact e
 refine⟨G',gg,F.keep.chg h0 hl (fun f z=>by cases z),⟨fun b u e=>?_,fun b f e=>?_⟩,fun b u e=>?_,F.g0.trans gg,fun j c2 e=>?_,fun j c2 v2 a e e' h=>?_,fun j k c1 c2 v1 v2 a q1 q2 q3 q4 h1 h2=>?_,by rw [YaN];exact F.len⟩
 . by_cases nb:b=l
   . subst nb;rw [e1] at e;rw [zl];exact e
   . rw [zh nb]
     by_cases m:b∈as
     . rw [e2 b nb m] at e;exact e
     . rw [e3 b nb m] at e;exact F.sub.s b u e
 . by_cases nb:b=l
   . subst nb;rw [e1] at e;cases e
   . by_cases m:b∈as
     . obtain⟨xs,z⟩:=hat b m
       rw [e2 b nb m,z] at e;cases e
     . rw [e3 b nb m] at e;exact F.sub.cl b f e
 . by_cases nb:b=l
   . subst nb;exact .inr (.inl h0)
   . by_cases m:b∈as
     . obtain⟨xs,z⟩:=hat b m
       rw [e2 b nb m,z] at e;exact .inr (.inr ⟨xs,(Wbe e).symm⟩)
     . rw [e3 b nb m] at e;exact F.old b u e
 . rcases zF e with ⟨rfl,q,_⟩|⟨n,q⟩
   . cases q
     refine⟨_,hv,.fd e1 (r.same gg) ⟨es,ep,as,hx,he,ha,hn,fun j a k v z1 z2=>?_⟩⟩
     have hm:a∈as:=Yah z1;rw [e2 a (fun z=>hla (z ▸ hm)) hm]
     exact hk j a k v z1 z2
   . obtain⟨v',h1,h2⟩:=F.slot j c2 q
     refine⟨v',h1,h2.turn gg (fun a C z=>?_) fun a h3=>?_⟩
     . rw [zh (fun y=>by rw [y,hl] at z;cases z)];exact z
     . have nb:a≠l:=fun z=>n (F.apart i j _ c2 _ v' a hi q hv h1 (by rw [z];rfl) h3)
       refine⟨zh nb,e3 a nb fun m=>?_⟩
       obtain⟨xs,z⟩:=hat a m;exact h2.ntup h3 xs z
 . rcases zF e with ⟨rfl,q,_⟩|⟨n,q⟩
   . cases q;exact False.elim h
   . exact F.mine j c2 v2 a q e' h
 . rcases zF q1 with ⟨rfl,q,_⟩|⟨n,q⟩
   . cases q;exact False.elim h1
   . rcases zF q2 with ⟨rfl,q',_⟩|⟨n',q'⟩
     . cases q';exact False.elim h2
     . exact F.apart j k c1 c2 v1 v2 a q q' q3 q4 h1 h2
theorem zfu(F:Fr3 K H0 G0 ρ σ G H){i:Nat}{ds:List (List Key×D)}(h:ρ[i]?=some (some (.fd ds))):∃ l o kvs,σ[i]?=some (some (.ref l))/\G l=some (.frz o (.dT kvs))/\Dr K H0 G kvs ds/\KAt G o kvs:=by
 obtain⟨v,h1,h2⟩:=F.slot i _ h;cases h2 with
 | fd a b c=>exact⟨_,_,_,h1,a,b,c⟩
theorem Dr.keys{kvs:List (List Key×V)}{ds:List (List Key×D)}(r:Dr K H0 G kvs ds):kvs.map (·.1)=ds.map (·.1):=by
 induction r with
 | nil=>rfl
 | cons a b ih=>rw [Ya1,Ya1,ih]
end
section
variable{X:Cx}{H0:Hp}{st:Stmt}{pos:Pos}{x:Str}{i:Nat}
def frzD(i:Nat)(t:TS3):TS3:=fun A ρ=>∃ ds,ρ[i]?=some (some (.dt ds))/\t A (ρ.set i (some (.fd ds)))
theorem zfr(i:Nat){t:TS3}(h:PS3 X H0 st t):PS3 X H0 st (frzD i t):=PS.imp (zj2 h) fun B σ H hyp=>by
 obtain⟨G0,A,ρ,G,F,⟨ds,hi,q⟩,L⟩:=hyp;obtain⟨l,kvs,hv,hl,r,hG⟩:=ZK F hi;refine⟨l,kvs,hl,fun o es ep as hx he ha hn hk=>?_⟩
 obtain⟨G',gg,F'⟩:=F.frzD hi hv hl r hG hx he ha hn hk;exact⟨G0,A,_,G',F',q,L⟩
def itD(i:Nat):TI3:=fun ρ Q=>∃ ds,ρ[i]?=some (some (.fd ds))/\Q true (ds.map fun kv=>keyT kv.1)
theorem zeE{tg:Expr}{np:Pos}(hN:X.N[i]?=some x)(hv:Vis X.env.scope x)(hd:(x==("__debug__" : Str))=false:=by decide)(hcd:(x==("__classdict__" : Str))=false:=by decide):PI3 X H0 tg (.Name x np) (itD i):=
 ⟨fun ρ Q Q' h ⟨ds,e,q⟩=>⟨ds,e,h _ _ q⟩,PI.imp (zgM (jd hN hv hd hcd)) fun σ H R=>el5 fun G0 ρ G F q=>by
  obtain⟨ds,hi,q⟩:=q;obtain⟨l,o,kvs,h1,h2,h3,es,ep,as,k0,k1,k2,k3,k4⟩:=zfu F hi;refine⟨.ref l,h1,l,o,kvs,es,ep,as,rfl,F.sub.s _ _ h2,k0,k1,k2,q _ G H (Gr.refl F.sub) ?_⟩;have hlen:=h3.length;refine⟨fun j d G' H' hd s1 s2=>?_,fun j G' H' hj s1 s2=>⟨by rw [hj,YaR,<-hlen,k3];exact YaY _,s2.s _ _ (s1 _ _ h2)⟩⟩
  have hj:j<(ds.map fun kv=>keyT kv.1).length:=(Ya8.mp hd).1
  rw [YaR] at hj;refine⟨⟨by rw [k3,hlen];exact hj,s2.s _ _ (s1 _ _ h2)⟩,fun y H2 ⟨e,a,ea,ey⟩=>?_⟩
  subst e ey;have hjk:j<kvs.length:=#[0]
  have hkey:kvs[j].1=ds[j].1:=by
   have:=congrArg (fun l=>l[j]?) h3.keys
   simp only [Ya0,YaQ hjk,YaQ hj] at this;exact Wbe this
  have hg:=s1 _ _ (k4 j a kvs[j].1 kvs[j].2 ea (YaQ hjk));rw [Ya0,YaQ hj] at hd;cases hd;rw [hkey] at hg;exact⟨G',Gr.refl s2,.tup (SqT.of hg) (zaE _),fun _=>.tup hg (zaU _)⟩⟩
theorem zbu{K:Ybf}{G:Hp}:∀ {k:List Key} {xs:List V},RdVs K G xs (k.map keyD)->xs=k.map kV
 | [],_,.nil=>rfl
 | .inl i :: r, _, .cons a t => by
  cases a;rw [zbu t];rfl
 | .inr x :: r, _, .cons a t => by
  cases a;rw [zbu t];rfl
theorem zbL{K:Ybf}{H0 G:Hp}{v:V}{k:List Key}(r:Rf K H0 G true v (keyT k)):∃ b,v=.ref b/\G b=some (.tup (k.map kV)):=by
 have n:=r.nw rfl;unfold keyT at n;cases n with
 | tup q rs=>exact⟨_,rfl,by rw [zbu (rdns_rd rs)] at q;exact q⟩
def ZF(i:Nat)(tk:TE3):TE3:=fun ρ Q=>∃ ds,ρ[i]?=some (some (.fd ds))/\tk ρ fun c=>∃ k d,c=.sh true (keyT k)/\getT ds k=some d/\Q (.sh true d)
theorem zcX{tk:TE3}{ke:Expr}{np:Pos}(hu:X.A.units+1<cLine)(hN:X.N[i]?=some x)(hv:Vis X.env.scope x)(hk:PE3 X H0 ke tk)(hd:(x==("__debug__" : Str))=false:=by decide)(hcd:(x==("__classdict__" : Str))=false:=by decide)(hs:NoSl ke:=by exact fun _ _=>rfl):PE3 X H0 (.Subscript (.Name x np) ke pos) (ZF i tk):=by
 refine⟨fun ρ Q Q' h ⟨ds,hi,q⟩=>⟨ds,hi,hk.mono ρ _ _ (fun c ⟨k,d,e,g,q⟩=>⟨k,d,e,g,h _ q⟩) q⟩,PE.imp (zfO hu (jd hN hv hd hcd) hk.ok hs) fun σ H Q=>el5 fun G0 ρ G F q=>?_⟩
 obtain⟨ds,hi,q⟩:=q;obtain⟨l,o,kvs,h1,h2,h3,_⟩:=zfu F hi;refine⟨.ref l,h1,G0,ρ,G,F,hk.mono ρ _ _ (fun c qc v2 G2 H2 g2 w2=>?_) q⟩
 obtain⟨k,d,rfl,hd,q2⟩:=qc;obtain⟨b,rfl,hb⟩:=zbL (zj w2);obtain⟨v,hv,rv⟩:=(h3.same g2.g).get hd;exact⟨l,v,rfl,.inr ⟨kvs,k,b,.inr ⟨o,g2.sub.s _ _ (g2.g _ _ h2)⟩,rfl,g2.sub.s _ _ hb,hv.symm⟩,q2 v G2 H2 g2 (.sh rv)⟩
def ZX(i:Nat)(tk te:TE3):TS3:=fun A ρ=>∃ ds,ρ[i]?=some (some (.dt ds))/\te ρ fun c=>tk ρ fun ck=>∃ d k,c=.sh true d/\ck=.sh true (keyT k)/\ds.length<sizeLine/\A.nx (ρ.set i (some (.dt (putT ds k d))))
theorem zcx{tk te:TE3}{ke e:Expr}{np spos:Pos}(hu:X.A.units+1<cLine)(hN:X.N[i]?=some x)(hv:Vis X.env.scope x)(hk:PE3 X H0 ke tk)(he:PE3 X H0 e te)(hd:(x==("__debug__" : Str))=false:=by decide)(hcd:(x==("__classdict__" : Str))=false:=by decide)
 (hs:swapsWith e (some (.Subscript (.Name x np) ke spos)) pos.line X.env=pure false:=by rfl):PS3 X H0 (.Assign [.Subscript (.Name x np) ke spos] e pos) (ZX i tk te):=by
 refine PS.imp (ze6 hu (jd hN hv hd hcd) hk.ok he.ok hs) fun B σ H hyp=>?_
 obtain⟨G0,A,ρ,G,F,⟨ds,hi,q⟩,L⟩:=hyp;refine⟨G0,ρ,G,F,he.mono ρ _ _ (fun c q1 v G1 H1 g1 w1=>?_) q⟩
 have F1:=F.gr g1;obtain⟨l,kvs,hl,_,_,_⟩:=ZK F1 hi;refine⟨.ref l,hl,G0,ρ,G1,F1,hk.mono ρ _ _ (fun ck q2 v2 G2 H2 g2 w2=>?_) q1⟩
 obtain⟨d,k,rfl,rfl,hz,q3⟩:=q2;obtain⟨b,rfl,hb⟩:=zbL (zj w2);have F2:=F1.gr g2;obtain⟨l',kvs',hl',k2,k3,k4⟩:=ZK F2 hi;rw [hl] at hl';cases hl';have rv:=(zj w1).same g2.g;exact⟨l,_,rfl,DPut.t (k:=k) k2 (F2.sub.s _ _ hb) (by rw [k3.length];exact hz),L.nx _ _ _ _ (F2.chg (c':=.dt (putT ds k d)) hi hl rfl (fun _ h=>h) (.dt zl (k3.put rv) k4)) q3⟩
def ZN(i:Nat)(tk te:TE3):TE3:=fun ρ Q=>∃ ds,ρ[i]?=some (some (.dt ds))/\tk ρ fun ck=>te ρ fun c=>∃ k d,ck=.sh true (keyT k)/\c=.sh true d/\Q (.sh true ((getT ds k).getD d))
theorem zlN{tk te:TE3}{ke e:Expr}{np apos cpos:Pos}(hu:X.A.units+1<cLine)(hN:X.N[i]?=some x)(hv:Vis X.env.scope x)(hk:PE3 X H0 ke tk)(he:PE3 X H0 e te)(m:M2 X (.Name x np) "get" apos ke e cpos:=by exact⟨rfl,rfl,rfl,rfl⟩)(hd:(x==("__debug__" : Str))=false:=by decide)(hcd:(x==("__classdict__" : Str))=false:=by decide):PE3 X H0 (.Call (.Attribute (.Name x np) "get" apos) [ke,e] [] cpos) (ZN i tk te):=by
 refine⟨fun ρ Q Q' h ⟨ds,hi,q⟩=>⟨ds,hi,hk.mono ρ _ _ (fun ck q=>he.mono ρ _ _ (fun c ⟨k,d,e1,e2,q⟩=>⟨k,d,e1,e2,h _ q⟩) q) q⟩,PE.imp (zg2 hu (jd hN hv hd hcd) hk.ok he.ok m) fun σ H Q=>el5 fun G0 ρ G F q=>?_⟩
 obtain⟨ds,hi,q⟩:=q;obtain⟨l,kvs,hl,h2,_,_⟩:=ZK F hi;refine⟨.ref l,hl,l,rfl,.inr ⟨kvs,.inl h2⟩,G0,ρ,G,F,hk.mono ρ _ _ (fun ck q1 v1 G1 H1 g1 w1=>?_) q⟩
 have F1:=F.gr g1;refine⟨G0,ρ,G1,F1,he.mono ρ _ _ (fun c q2 v2 G2 H2 g2 w2=>?_) q1⟩
 obtain⟨k,d,rfl,rfl,q3⟩:=q2;obtain⟨b,rfl,hb⟩:=zbL (zj w1);have F2:=F1.gr g2;obtain⟨l',kvs',hl',k2,k3,k4⟩:=ZK F2 hi;rw [hl] at hl';cases hl';refine⟨_,DGet.t (k:=k) k2 (F2.sub.s _ _ (g2.g _ _ hb)),?_⟩;cases e:getT ds k with
 | none=>
  have z:=k3.some k;rw [e] at z;cases y:valV kvs' k with
  | none=>rw [e] at q3;exact q3 _ G2 H2 (g1.trans g2) w2
  | some v=>rw [y] at z;cases z
 | some d'=>
  obtain⟨v,hv,rv⟩:=k3.get e;rw [hv];rw [e] at q3;exact q3 v G2 H2 (g1.trans g2) (.sh rv)
end
section
variable{K:Ybf}{H0 G0:Hp}{ρ : Env3}{σ : L2.St}{G H:Hp}
theorem Fr3.move(F:Fr3 K H0 G0 ρ σ G H){i j:Nat}{c:Cl}{v:V}(hij:i≠j)(hc:ρ[j]?=some (some c))(hv:σ[j]?=some (some v)):Fr3 K H0 G0 ((ρ.set j none).set i (some c)) (σ.set i (some v)) G H:=by
 have key:∀ {k:Nat} {c':Cl},((ρ.set j none).set i (some c))[k]?=some (some c')->(k=i/\c'=c/\(σ.set i (some v))[k]?=some (some v))\/(k≠i/\k≠j/\ρ[k]?=some (some c')/\(σ.set i (some v))[k]? = σ[k]?):=fun {k c'} e=>by
  rcases zF e with ⟨rfl,q,hl⟩|⟨n,q⟩
  . cases q
    rw [YaN] at hl;exact .inl ⟨rfl,rfl,Yas (by rw [<-F.len];exact hl)⟩
  . rcases zF q with ⟨_,q,_⟩|⟨n2,q⟩
    . cases q
    . exact .inr ⟨WbL n,WbL n2,q,Yac n⟩
 refine⟨F.keep,F.sub,F.old,F.g0,fun k c' e=>?_,fun k c' v' a e e' h=>?_,fun k m c1 c2 v1 v2 a e1 e2 e3 e4 h1 h2=>?_,by rw [YaN,YaN,YaN];exact F.len⟩
 . rcases key e with ⟨rfl,rfl,q⟩|⟨n,n2,q,z⟩
   . exact⟨v,q,F.vw hc hv⟩
   . obtain⟨v',h1,h2⟩:=F.slot k c' q
     exact⟨v',by rw [z];exact h1,h2⟩
 . rcases key e with ⟨rfl,rfl,q⟩|⟨n,n2,q,z⟩
   . rw [q] at e';cases e';exact F.mine j _ v a hc hv h
   . rw [z] at e';exact F.mine k c' v' a q e' h
 . rcases key e1 with ⟨rfl,rfl,q⟩|⟨n,n2,q,z⟩
   . rw [q] at e3;cases e3
     rcases key e2 with ⟨rfl,_,_⟩|⟨n,n2,q',z⟩
     . rfl
     . rw [z] at e4;exact absurd (F.apart j m _ c2 v v2 a hc q' hv e4 h1 h2).symm n2
   . rw [z] at e3
     rcases key e2 with ⟨rfl,rfl,q'⟩|⟨n',n3,q',z'⟩
     . rw [q'] at e4;cases e4;exact absurd (F.apart k j c1 _ v1 v a q hc e3 hv h1 h2) n2
     . rw [z'] at e4;exact F.apart k m c1 c2 v1 v2 a q q' e3 e4 h1 h2
end
section
variable{X:Cx}{H0:Hp}{pos:Pos}{x y:Str}{i j:Nat}
def ZP(i j:Nat):TS3:=fun A ρ=>∃ ds,ρ[j]?=some (some (.dt ds))/\A.nx ((ρ.set j none).set i (some (.dt ds)))
theorem zjP{xp yp:Pos}(hij:i≠j)(hN:X.N.Nodup)(hi:X.N[i]?=some x)(hx:Loc X.env.scope x)(hj:X.N[j]?=some y)(hvy:Vis X.env.scope y)(hd:(y==("__debug__" : Str))=false:=by decide)(hcd:(y==("__classdict__" : Str))=false:=by decide)(hs:swapsWith (.Name y yp) (some (.Name x xp)) pos.line X.env=pure false:=by rfl)
 (hf:X.fn x=true\/X.env.scope.names.lookup x=some .local:=by first|exact .inl rfl|exact .inr rfl|assumption):PS3 X H0 (.Assign [.Name x xp] (.Name y yp) pos) (ZP i j):=PS.imp (ZD hN hi hx (jd hj hvy hd hcd) hs hf) fun B σ H hyp=>by
 obtain⟨G0,A,ρ,G,F,⟨ds,hc,q⟩,L⟩:=hyp;obtain⟨l,kvs,hl,k2,k3,k4⟩:=ZK F hc;exact⟨.ref l,hl,L.nx _ _ G H (F.move hij hc hl) q⟩
end
end L3
namespace L2
open PySem PySem.Spec PyProof.Rows
section
variable{X:Cx}
def zmK(K:Ybf):R2:=fun x y H Q=>∃ a b xs ys,x=.ref a/\y=.ref b/\SqT K H a xs/\SqT K H b ys/\xs.length+ys.length<=sizeLine/\
 (xs=[]->Q (.ref b) H)/\(xs≠[]->ys=[]->Q (.ref a) H)/\(xs≠[]->ys≠[]->∀ p,H p=none->Q (.ref p) (upd H p (.tup (xs++ys))))
theorem zjL:OpR X (binaryOp .Add) (zmK X.K):=by
 intro pins s σ H x y v u Q I rx ry h;obtain⟨a,b,xs,ys,rfl,rfl,ha,hb,hz,q0,q1,q2⟩:=h
 by_cases hx:xs=[]
 . cases rx
   cases ry;obtain⟨its,r1,p1,_⟩:=I.tuple ha
   obtain⟨its2,r2,p2,_⟩:=I.tuple hb;obtain⟨m,F⟩:=I.fr;have hn:its=[]:=r1.nil_iff.mpr hx;refine add_tuples (news:=[]) F (fun p hp=>by cases hp) p1 p2 (fun _=>⟨.ref b,H,I,rfl,q0 hx⟩) (fun z=>absurd hn z) (fun z=>absurd hn z) (by rw [<-r1.length,<-r2.length];exact hz)
 . exact zh9 pins s σ H _ _ v u Q I rx ry ⟨a,b,xs,ys,rfl,rfl,ha,hb,hx,hz,q1 hx,q2 hx⟩
theorem ziY:fillsNumberSlot (Value.type "tuple") "mul" = pure false:=by rfl
theorem zll:seqRepeat? (Value.type "tuple")=pure (some (Value.builtin "tuple.__mul__")):=by rfl
theorem zmM{a:Int}{t:Tok}{l:Addr}{o:Obj}{xs:Array Value}{m:Nat}(hd:o.data=.seq xs m):Meets (Builtin.«int.__rmul__» { pos:=[Value.int a t,Value.ref l] }) fun _ R s=>s.heap.get? l=some o/\R (.ok (.ret .notImplemented)) s:=by
 intro prog w A R s h;obtain⟨ho,q⟩:=h;unfold Builtin.«int.__rmul__» Builtin.Int.intBinary slotArgs;simp only [List.isEmpty_nil,Wbt,WaH,if_false,List.length_cons,List.length_nil,WbB,bne_self_eq_false];refine wpAny_bind (wpAny_pure ?_);dsimp only;refine wpAny_bind (wpAny_pure ?_);refine wpAny_bind (wpAny_bind (wpAny_load ho ?_));rw [hd];refine wpAny_pure ?_;dsimp only
 exact wpAny_bind (wpAny_rule (wpAny_pure q))
theorem znR{k:Int}{t:Tok}{l:Addr}{o:Obj}{xs:Array Value}{m:Nat}(hc:o.cls=.type "tuple")(hd:o.data=.seq xs m)(h1:1<=k)(h2:k<=1000)(hne:xs.isEmpty=false)(hz:(xs.size:Int)*k<=1000000):Meets (Builtin.«tuple.__mul__» { pos:=[Value.ref l,Value.int k t] }) fun _ R s=>s.heap.get? l=some o/\(k=1->R (.ok (.ret (.ref l))) s)/\(k≠1->R (.ok (.ret (.ref s.heap.objs.size))) { s with heap:=s.heap.push { cls:=.type "tuple", data:=.seq (List.foldl (fun x1 x2=>x1++x2) #[] (List.replicate k.toNat xs)) } }):=by
 intro prog w A R s h;obtain⟨ho,q1,q2⟩:=h;unfold Builtin.«tuple.__mul__»;refine wpAny_bind (m:=asIndex (Value.int k t)) ?_;refine wpAny_bind (m:=asInt? (Value.int k t)) (wpAny_pure (wpAny_pure ?_));dsimp only;rw [if_neg #[6]]
 refine wpAny_bind ?_
 refine wpAny_bind ?_
 refine wpAny_bind (wpAny_load ho ?_)
 rw [hd];refine wpAny_pure (wpAny_pure ?_)
 by_cases hk:k=1
 . rw [if_pos (by simp [hk])]
   refine wpAny_bind (wpAny_bind (wpAny_typeOf ⟨o,ho,hc⟩ (wpAny_pure ?_)))
   rw [if_pos (by rfl)]
   exact wpAny_bind (wpAny_rule (wpAny_pure (q1 hk)))
 . rw [if_neg (by simp [hne,hk])]
   have hsl:(1000000:Int)<=sizeLine:=#[1]
   rw [if_neg (by simp only [hne,Wbp,decide_eq_true_eq];omega),if_neg #[0],if_neg (by unfold Builtin.Tuple.tupleTooMany;rw [decide_eq_true_eq];omega)]
   refine wpAny_bind (wpAny_newObj_type (wpAny_pure (q2 hk)) ?_)
   show(List.foldl (fun x1 x2=>x1++x2) #[] (List.replicate k.toNat xs)).size<=sizeLine
   have f0:=zbF xs.toList k.toNat [];rw [Array.toArray_toList] at f0;rw [f0,YaZ,List.nil_append,zdP,Array.length_toList];have e:((k.toNat*xs.size:Nat):Int)=(xs.size:Int)*k:=by rw [Int.natCast_mul,Int.toNat_of_nonneg #[0],WbD]
   omega
def zgH(K:Ybf):R2:=fun x y H Q=>∃ a k xs,x=.ref a/\y=.int k/\SqT K H a xs/\xs≠[]/\1<=k/\k<=1000/\(xs.length:Int)*k<=1000000/\(k=1->Q (.ref a) H)/\(k≠1->∀ p,H p=none->Q (.ref p) (upd H p (.tup (List.replicate k.toNat xs).flatten)))
theorem zli:OpR X (binaryOp .Mult) (zgH X.K):=by
 intro pins s σ H x y v u Q I rx ry h;obtain⟨a,k,xs,rfl,rfl,ha,hx,h1,h2,hz,q1,q2⟩:=h;cases rx;obtain⟨t,rfl⟩:=ry;obtain⟨its,r,p,_⟩:=I.tuple ha;have hlen:=r.length;obtain⟨o,ho,hc,n,hd⟩:=p;have hne:its.toArray.isEmpty=false:=by
  cases its with
  | nil=>exact absurd (r.nil_iff.mp rfl) hx
  | cons _ _=>rfl
 refine wpAny_binaryOp_repeat_ref (T:="tuple") (U:="int") #[1] ⟨_,ho,hc⟩ (fun s'=>typeIs_int s' k t) ziY F.fills_int_mul F.slot_int_rmul zll F.slot_int_index.lookup
  (call_meets F.slot_int_rmul (typeIs_int s k t) F.entry_int_rmul (F.args_int_rmul_2 _ _) (zmM hd)
   ⟨ho,rfl,⟨_,ho,hc⟩,call_meets F.slot_tuple_mul ⟨_,ho,hc⟩ F.entry_tuple_mul (F.args_tuple_mul_2 _ _) (znR hc hd h1 h2 hne (by rw [YaZ,<-hlen];exact hz)) ⟨ho,fun z=>⟨.ref a,H,I,rfl,q1 z⟩,fun z=>?_⟩⟩)
 have f0:=zbF its k.toNat [];rw [List.nil_append] at f0;rw [f0];refine⟨.ref s.heap.objs.size,_,I.laid (t':=s.toks) (o:=.tup (List.replicate k.toNat xs).flatten) (fun b ob q=>YaW _ q) (YaY _) ⟨?_,_,r.rep k.toNat,IsTup.new _ _⟩,rfl,q2 z _ (I.hok.fresh (YaY _))⟩
 have hsl:(1000000:Int)<=sizeLine:=#[1]
 have e:((k.toNat*xs.length:Nat):Int)=(xs.length:Int)*k:=by rw [Int.natCast_mul,Int.toNat_of_nonneg #[0],WbD]
 rw [zdP]
 omega
end
end L2
namespace L3
open PySem PySem.Spec PyProof.Rows L2
variable[LamW]
section
variable{X:Cx}{H0:Hp}{pos:Pos}
def ZE(ta tb:TE3):TE3:=fun ρ Q=>ta ρ fun a=>tb ρ fun b=>∃ ds es,a=.sh true (.tuple ds)/\b=.sh true (.tuple es)/\ds.length+es.length<=sizeLine/\Q (.sh true (.tuple (ds++es)))
theorem zfE{a b:Expr}{ta tb:TE3}(ha:PE3 X H0 a ta)(hb:PE3 X H0 b tb):PE3 X H0 (.BinOp a .Add b pos) (ZE ta tb):=by
 refine⟨fun ρ Q Q' h q=>ha.mono ρ _ _ (fun a=>hb.mono ρ _ _ fun b ⟨ds,es,e1,e2,z,q⟩=>⟨ds,es,e1,e2,z,h _ q⟩) q,PE.imp (zbV zjL ha.ok hb.ok) fun σ H Q=>el5 fun G0 ρ G F q=>⟨G0,ρ,G,F,ha.mono ρ _ _ (fun a qa v1 G1 H1 g1 w1=>⟨G0,ρ,G1,F.gr g1,hb.mono ρ _ _ (fun b hyp v2 G2 H2 g2 w2=>?_) qa⟩) q⟩⟩
 obtain⟨ds,es,rfl,rfl,hz,q⟩:=hyp;have r1:=zj (w1.gr g2);have r2:=zj w2;obtain⟨l,xs,rfl,hq,rs⟩:=ZH r1;obtain⟨m,ys,rfl,hq',rs'⟩:=ZH r2;refine⟨l,m,xs,ys,rfl,rfl,g2.sub.tup hq,g2.sub.tup hq',by rw [rs.length,rs'.length];exact hz,fun z=>?_,fun _ z=>?_,fun _ _ p hp=>?_⟩
 . have e:ds=[]:=by rw [<-Wap,<-rs.length,z];rfl
   subst e;exact q _ G2 H2 (g1.trans g2) w2
 . have e:es=[]:=by rw [<-Wap,<-rs'.length,z];rfl
   subst e;rw [Yao] at q;exact q _ G2 H2 (g1.trans g2) (w1.gr g2)
 . have r:=rs.append rs'
   refine q (.ref p) (upd G2 p (.tup (xs++ys))) _ ((g1.trans g2).trans (Gr.put g2.sub hp)) ?_
   exact .sh ⟨.tup (.inl (.inl zl)) (rdvs_same (zJ (g2.sub.free hp) _) r.rd),fun hf=>.tup zl (rdns_mono (zJ (g2.sub.free hp) _) (fun _ _ _ z=>z) (r.nw hf))⟩
def zaa(ta tb:TE3):TE3:=fun ρ Q=>ta ρ fun a=>tb ρ fun b=>∃ ds k,a=.sh true (.tuple ds)/\b=.sh true (.int k)/\ds≠[]/\1<=k/\k<=1000/\(ds.length:Int)*k<=1000000/\Q (.sh true (.tuple (List.replicate k.toNat ds).flatten))
theorem zlB{a b:Expr}{ta tb:TE3}(ha:PE3 X H0 a ta)(hb:PE3 X H0 b tb):PE3 X H0 (.BinOp a .Mult b pos) (zaa ta tb):=by
 refine⟨fun ρ Q Q' h q=>ha.mono ρ _ _ (fun a=>hb.mono ρ _ _ fun b ⟨ds,k,e1,e2,z1,z2,z3,z4,q⟩=>⟨ds,k,e1,e2,z1,z2,z3,z4,h _ q⟩) q,PE.imp (zbV zli ha.ok hb.ok) fun σ H Q=>el5 fun G0 ρ G F q=>⟨G0,ρ,G,F,ha.mono ρ _ _ (fun a qa v1 G1 H1 g1 w1=>⟨G0,ρ,G1,F.gr g1,hb.mono ρ _ _ (fun b hyp v2 G2 H2 g2 w2=>?_) qa⟩) q⟩⟩
 obtain⟨ds,k,rfl,rfl,z1,z2,z3,z4,q⟩:=hyp;cases zE (zj w2).rd;obtain⟨l,xs,rfl,hq,rs⟩:=ZH (zj (w1.gr g2));refine⟨l,k,xs,rfl,rfl,g2.sub.tup hq,fun z=>z1 (by rw [<-Wap,<-rs.length,z];rfl),z2,z3,by rw [rs.length];exact z4,fun z=>?_,fun z p hp=>?_⟩
 . subst z
   have e:(List.replicate (Int.toNat 1) ds).flatten=ds:=by simp
   rw [e] at q;exact q _ G2 H2 (g1.trans g2) (w1.gr g2)
 . have r:=rs.rep k.toNat
   refine q (.ref p) (upd G2 p (.tup (List.replicate k.toNat xs).flatten)) _ ((g1.trans g2).trans (Gr.put g2.sub hp)) ?_
   exact .sh ⟨.tup (.inl (.inl zl)) (rdvs_same (zJ (g2.sub.free hp) _) r.rd),fun hf=>.tup zl (rdns_mono (zJ (g2.sub.free hp) _) (fun _ _ _ z=>z) (r.nw hf))⟩
end
end L3
open PySem PySem.Spec PyProof.Rows L2
namespace Law
open PySem L2 L3
theorem ji{α : Type}{us:List α}(h:us.length=1):∃ a0,us=[a0]:=match us,h with|[a0],_=>⟨a0,rfl⟩
theorem zY{α : Type}{us:List α}(h:us.length=2):∃ a0 a1,us=[a0,a1]:=match us,h with|[a0,a1],_=>⟨a0,a1,rfl⟩
theorem zfK{α : Type}{us:List α}(h:us.length=3):∃ a0 a1 a2,us=[a0,a1,a2]:=match us,h with|[a0,a1,a2],_=>⟨a0,a1,a2,rfl⟩
theorem zjd{α : Type}{us:List α}(h:us.length=4):∃ a0 a1 a2 a3,us=[a0,a1,a2,a3]:=match us,h with|[a0,a1,a2,a3],_=>⟨a0,a1,a2,a3,rfl⟩
def top(i:Nat):Stmt:=PySem.Challenge.pw_chairclans_k22_against_all_rows.main.body.getD i (.Pass ⟨0,0,0,0⟩)
abbrev JW:Stmt:=top 36
abbrev Jv:Stmt:=top 37
abbrev Zq:Stmt:=top 38
abbrev JD:Stmt:=top 39
abbrev Ja:Stmt:=top 40
abbrev JC:Stmt:=top 12
abbrev jZ:Stmt:=top 13
abbrev JB:Stmt:=top 14
abbrev Jy:Stmt:=top 6
abbrev Jx:Stmt:=top 15
abbrev Zg:Stmt:=top 16
abbrev Jb:Stmt:=top 17
abbrev jH:Stmt:=top 18
abbrev Zh:Stmt:=top 32
abbrev JX:Stmt:=top 27
abbrev J4:Stmt:=top 26
abbrev JV:Stmt:=top 28
abbrev Jz:Stmt:=top 25
abbrev jj:Stmt:=top 29
abbrev JI:Stmt:=top 20
abbrev Zn:Stmt:=top 21
abbrev Jd:Stmt:=top 22
abbrev JT:Stmt:=top 23
abbrev jY:Stmt:=top 31
abbrev J8:Stmt:=top 33
abbrev JY:Stmt:=top 5
abbrev JR:Stmt:=top 7
abbrev Zk:Stmt:=top 34
abbrev Zl:Stmt:=top 41
abbrev j4:Stmt:=top 43
abbrev j6:Stmt:=top 44
abbrev lamP:Pos:=match zp jj with
 | .Assign _ (.Call _ _ [⟨_,.Lambda _ _ _ lp,_⟩] _) _::_=>lp
 | _=>⟨0,0,0,0⟩
abbrev lamQ:Str:=(envOfC "deal" (ze jj) 0 0 .none).qual ++ "<lambda>"
instance:LamW:=⟨lamP,lamQ⟩
structure Cl where
 ClanError:Addr
 NoRatio:Addr
 NoSpell:Addr
 c0:Addr
 tb:Addr
structure Txt(c:Law.Cl)(K:Ybf)(mg:Str->Option Value):Prop where
 d_law_cell_at:∃ f fd,Fun K "_law_cell_at" "_law_cell_at" JW f fd/\mg "_law_cell_at" = some (.ref f)
 d_law_mixed:∃ f fd,Fun K "_law_mixed" "_law_mixed" Jv f fd/\mg "_law_mixed" = some (.ref f)
 d_law_wide:∃ f fd,Fun K "_law_wide" "_law_wide" Zq f fd/\mg "_law_wide" = some (.ref f)
 d_law_spells:∃ f fd,Fun K "_law_spells" "_law_spells" JD f fd/\mg "_law_spells" = some (.ref f)
 d_law_quotas:∃ f fd,Fun K "_law_quotas" "_law_quotas" Ja f fd/\mg "_law_quotas" = some (.ref f)
 d_check_weights:∃ f fd,Fun K "check_weights" "check_weights" JC f fd/\mg "check_weights" = some (.ref f)
 d_all_turns:∃ f fd,Fun K "all_turns" "all_turns" jZ f fd/\mg "all_turns" = some (.ref f)
 d_check_spells:∃ f fd,Fun K "check_spells" "check_spells" JB f fd/\mg "check_spells" = some (.ref f)
 d_common_divisor:∃ f fd,Fun K "common_divisor" "common_divisor" Jy f fd/\mg "common_divisor" = some (.ref f)
 d_divisor_of_all:∃ f fd,Fun K "divisor_of_all" "divisor_of_all" Jx f fd/\mg "divisor_of_all" = some (.ref f)
 d_least_bottom:∃ f fd,Fun K "least_bottom" "least_bottom" Zg f fd/\mg "least_bottom" = some (.ref f)
 d_shares_over:∃ f fd,Fun K "shares_over" "shares_over" Jb f fd/\mg "shares_over" = some (.ref f)
 d_quotas:∃ f fd,Fun K "quotas" "quotas" jH f fd/\mg "quotas" = some (.ref f)
 d_possible_rooms:∃ f fd,Fun K "possible_rooms" "possible_rooms" Zh f fd/\mg "possible_rooms" = some (.ref f)
 d_is_late:∃ f fd,Fun K "is_late" "is_late" JX f fd/\mg "is_late" = some (.ref f)
 d_place_of_opened:∃ f fd,Fun K "place_of_opened" "place_of_opened" J4 f fd/\mg "place_of_opened" = some (.ref f)
 d_start_of_crowd:∃ f fd,Fun K "start_of_crowd" "start_of_crowd" JV f fd/\mg "start_of_crowd" = some (.ref f)
 d_pressing:∃ f fd,Fun K "pressing" "pressing" Jz f fd/\mg "pressing" = some (.ref f)
 d_deal:∃ f fd,Fun K "deal" "deal" jj f fd/\mg "deal" = some (.ref f)
 d_first_turn:∃ f fd,Fun K "first_turn" "first_turn" JI f fd/\mg "first_turn" = some (.ref f)
 d_window_of:∃ f fd,Fun K "window_of" "window_of" Zn f fd/\mg "window_of" = some (.ref f)
 d_windows_of_clan:∃ f fd,Fun K "windows_of_clan" "windows_of_clan" Jd f fd/\mg "windows_of_clan" = some (.ref f)
 d_windows_within:∃ f fd,Fun K "windows_within" "windows_within" JT f fd/\mg "windows_within" = some (.ref f)
 d_dealt_within:∃ f fd,Fun K "dealt_within" "dealt_within" jY f fd/\mg "dealt_within" = some (.ref f)
 d_least_room:∃ f fd,Fun K "least_room" "least_room" J8 f fd/\mg "least_room" = some (.ref f)
 d_is_whole:∃ f fd,Fun K "is_whole" "is_whole" JY f fd/\mg "is_whole" = some (.ref f)
 d_ratio:∃ f fd,Fun K "ratio" "ratio" JR f fd/\mg "ratio" = some (.ref f)
 d_least:∃ f fd,Fun K "least" "least" Zk f fd/\mg "least" = some (.ref f)
 d_law_ratio:∃ f fd,Fun K "_law_ratio" "_law_ratio" Zl f fd/\mg "_law_ratio" = some (.ref f)
 d_law_best:∃ f fd,Fun K "_law_best" "_law_best" j4 f fd/\mg "_law_best" = some (.ref f)
 d_law:∃ f fd,Fun K "law" "law" j6 f fd/\mg "law" = some (.ref f)
 x_deal:∃ f fd,Fun K "deal" "deal" jj f fd/\mg "deal" = some (.ref f)/\fd.code=.ref c.c0
 hdC:∀ h,K.In h->PySem.W.CodeHd h c.c0 c.tb
 tab:PySem.W.tabIn K "deal" = some (c.c0,c.tb)
 nop:K.lookup c.tb=none
 m_ClanError:mg "ClanError" = some (.ref c.ClanError)
 m_NoRatio:mg "NoRatio" = some (.ref c.NoRatio)
 m_NoSpell:mg "NoSpell" = some (.ref c.NoSpell)
 e_NoSpell:PySem.W.excIn K c.NoSpell bmVE "ValueError.__new__" = true
 e_NoRatio:PySem.W.excIn K c.NoRatio bmVE "ValueError.__new__" = true
 n_abs:mg "abs" = none
 n_bool:mg "bool" = none
 n_enumerate:mg "enumerate" = none
 n_int:mg "int" = none
 n_isinstance:mg "isinstance" = none
 n_len:mg "len" = none
 n_max:mg "max" = none
 n_min:mg "min" = none
 n_range:mg "range" = none
 n_sorted:mg "sorted" = none
 n_sum:mg "sum" = none
 n_tuple:mg "tuple" = none
 n_zip:mg "zip" = none
 m_MOST_SPELLS:∃ t,mg "MOST_SPELLS" = some (.int 8 t)
 m_MOST_CLANS:∃ t,mg "MOST_CLANS" = some (.int 8 t)
 m_MOST_TURNS:∃ t,mg "MOST_TURNS" = some (.int 60 t)
theorem zdC{g l:Int}(hg:0<=g)(hl:0<l):Int.gcd l (g%l)=Int.gcd g l:=by
 obtain⟨m,rfl⟩:=Waq hg;obtain⟨n,rfl⟩:=Waq (WbE hl);rw [<-Int.natCast_emod,Int.gcd_natCast_natCast,Int.gcd_natCast_natCast,Nat.gcd_comm n,<-Nat.gcd_rec,Nat.gcd_comm]
theorem zcL{g:Int}(hg:0<=g):(Int.gcd g 0:Int)=g:=by
 rw [Int.gcd_zero_right];omega
theorem zdS(a b:Int):Int.gcd (if a<0 then -a else a) (if b<0 then -b else b)=Int.gcd a b:=by
 split<;>split<;>simp
def dR(a b:Int):D:=.tuple [.int (a/(Int.gcd a b:Int)),.int (b/(Int.gcd a b:Int))]
theorem zcr{a b:Int}(h:0<b):0<(Int.gcd a b:Int):=by
 have:0<Int.gcd a b:=Wac _ #[0]
 omega
theorem zgy{a b:Int}{k:Nat}(h:0<b)(hb:Bits k b):Bits k (Int.gcd a b:Int):=by
 refine hb.le ?_
 have:=Int.gcd_le_right a (show 0<b from h)
 omega
theorem zbm{x a b:Int}(h:0<b)(hb:Bits 9000 b):Zs x (Int.gcd a b:Int):=⟨zcr h,zgy h hb⟩
abbrev Spell:=Int×List Int
def dI(ns:List Int):D:=.list (ns.map .int)
def dS(s:Spell):D:=.tuple [.int s.1,dI s.2]
def dSs(l:List Spell):D:=.list (l.map dS)
def okW(ws:List Int):Prop:=(1<=ws.length/\ws.length<=8)/\(∀ w∈ws,0<=w/\w<10 ^ 30)/\ws.sum≠0
def tot(l:List Spell):Int:=(l.map (·.1)).sum
def many(l:List Spell):Nat:=(l.headD (0,[])).2.length
def okS(l:List Spell):Prop:=(1<=l.length/\l.length<=8)/\(∀ s∈l,1<=s.1/\okW s.2/\s.2.length=many l)/\tot l<=60
theorem p30:JL 10 30:=powB (k:=4) (by unfold Bits;decide) #[1] #[1]
theorem zaD:∀ {ws:List Int},(∀ w∈ws,0<=w)->0<=ws.sum
 | [],_=>by simp
 | w :: ws, h => by
  rw [List.sum_cons];have:=zaD (ws:=ws) fun x hx=>h x (YaT _ hx)
  have:=h w YaV
  omega
theorem zeQ{B:Int}:∀ {ws:List Int},(∀ w∈ws,w<B)->ws.sum<=ws.length*B
 | [],_=>by simp
 | w :: ws, h => by
  rw [List.sum_cons,List.length_cons];have:=zeQ (ws:=ws) fun x hx=>h x (YaT _ hx)
  have:=h w YaV;have e:((ws.length+1:Nat):Int)*B=ws.length*B+B:=by rw [Int.natCast_add,WbH];simp
  omega
theorem jk{ws:List Int}(h:okW ws):0<ws.sum:=by
 have:=zaD fun w hw=>(h.2.1 w hw).1
 have:=h.2.2
 omega
theorem zgh{ws:List Int}(h:okW ws):ws.sum<=8*10 ^ 30:=by
 have h1:=zeQ (B:=10 ^ 30) fun w hw=>(h.2.1 w hw).2
 have h2:(ws.length:Int)*10 ^ 30<=8*10 ^ 30:=Ybe (by have:=h.1.2;omega) #[1]
 omega
theorem zdw{x B:Int}{k:Nat}(h0:0<=x)(h:x<=B)(hB:B.natAbs<2 ^ k):Bits k x:=by
 unfold Bits
 omega
theorem Z9{ws:List Int}(h:okW ws):Bits 103 ws.sum:=zdw (WbE (jk h)) (zgh h) #[1]
theorem zde{ws:List Int}(h:okW ws){w:Int}(hw:w∈ws):Bits 100 w:=zdw (h.2.1 w hw).1 (WbE (h.2.1 w hw).2) #[1]
def gcdL(ws:List Int):Int:=ws.foldl (fun a b=>(Int.gcd a b:Int)) 0
def parts(ws:List Int):Int:=ws.sum/gcdL ws
def bot1(b:Int)(s:Spell):Int:=b*parts s.2/(Int.gcd b (parts s.2):Int)
def bot(l:List Spell):Int:=l.foldl bot1 1
theorem zcc:∀ (ws:List Int) (a:Int),0<=a->0<=ws.foldl (fun a b=>(Int.gcd a b:Int)) a/\ws.foldl (fun a b=>(Int.gcd a b:Int)) a∣a/\∀ w∈ws,ws.foldl (fun a b=>(Int.gcd a b:Int)) a∣w
 | [],a,h=>⟨h,Int.dvd_refl _,fun w hw=>by cases hw⟩
 | w :: ws, a, h => by
  obtain⟨h1,h2,h3⟩:=zcc ws (Int.gcd a w:Int) #[0]
  refine⟨h1,Wbu h2 (Wba a w),fun x hx=>?_⟩
  rcases Wbo.mp hx with rfl|hx
  . exact Wbu h2 (WaX a x)
  . exact h3 x hx
theorem znf(ws:List Int):0<=gcdL ws:=(zcc ws 0 #[1]).1
theorem zeR{ws:List Int}{w:Int}(h:w∈ws):gcdL ws∣w:=(zcc ws 0 #[1]).2.2 w h
theorem zdd{d:Int}:∀ {ws:List Int},(∀ w∈ws,d∣w)->d∣ws.sum
 | [],_=>by simp
 | w :: ws, h => by
  rw [List.sum_cons];exact Int.dvd_add (h w YaV) (zdd fun x hx=>h x (YaT _ hx))
theorem zb5(ws:List Int):gcdL ws∣ws.sum:=zdd fun w hw=>zeR hw
theorem zcs{ws:List Int}(h:okW ws):0<gcdL ws:=by
 have h1:=znf ws;have h2:=jk h;have h3:=zb5 ws
 by_cases e:gcdL ws=0
 . rw [e] at h3
   have:=Int.zero_dvd.mp h3
   omega
 . omega
theorem zkq{ws:List Int}(h:okW ws):gcdL ws<=ws.sum:=Int.le_of_dvd (jk h) (zb5 ws)
theorem zcn{ws:List Int}:parts ws*gcdL ws=ws.sum:=Yaw (zb5 ws)
theorem JF{ws:List Int}(h:okW ws):0<parts ws:=by
 have h1:=zcs h;have h2:=jk h;have h3:=zcn (ws:=ws)
 by_cases e:0<parts ws
 . exact e
 . have:parts ws*gcdL ws<=0:=Int.mul_nonpos_of_nonpos_of_nonneg #[0] #[0]
   omega
theorem zlp{ws:List Int}(h:okW ws):parts ws<=ws.sum:=Int.ediv_le_self _ (WbE (jk h))
theorem zbt{ws:List Int}(h:okW ws):Bits 103 (parts ws):=(Z9 h).le (by have:=JF h;have:=zlp h;omega)
theorem zbR{b p:Int}(h:0<p):(0:Int)<(Int.gcd b p:Int):=by
 have:=Wac b (show p≠0 by omega)
 omega
theorem zf2{b p:Int}(h:0<p):(Int.gcd b p:Int)<=p:=Int.le_of_dvd h (WaX b p)
theorem zcS{b:Int}{s:Spell}(hb:0<b)(h:okW s.2):0<bot1 b s:=by
 have h1:=JF h;have h2:=zbR (b:=b) h1;have h3:(Int.gcd b (parts s.2):Int)∣b*parts s.2:=Wbu (Wba _ _) (WaY _ _);have h4:=Yaw h3;have h5:0<b*parts s.2:=Int.mul_pos hb h1;unfold bot1
 by_cases e:0<b*parts s.2/(Int.gcd b (parts s.2):Int)
 . exact e
 . have:b*parts s.2/(Int.gcd b (parts s.2):Int)*(Int.gcd b (parts s.2):Int)<=0:=Int.mul_nonpos_of_nonpos_of_nonneg #[0] #[0]
   omega
theorem znu{b:Int}{s:Spell}{k:Nat}(hb:0<b)(hk:Bits k b)(h:okW s.2):Bits (k+103) (bot1 b s):=(hk.mul (zbt h)).le (by
 have h5:0<b*parts s.2:=Int.mul_pos hb (JF h);have h6:=zcS hb h;have h7:bot1 b s<=b*parts s.2:=Int.ediv_le_self _ (WbE h5)
 omega)
theorem zbk:∀ (l:List Spell) (b:Int) (k:Nat),(∀ s∈l,okW s.2)->0<b->Bits k b->0<l.foldl bot1 b/\Bits (k+103*l.length) (l.foldl bot1 b)
 | [],b,k,_,h,h'=>⟨h,by simpa using h'⟩
 | s :: l, b, k, hs, h, h' => by
  have hw:=hs s YaV;have:=zbk l (bot1 b s) (k+103) (fun x hx=>hs x (YaT _ hx)) (zcS h hw) (znu h h' hw)
  refine⟨this.1,this.2.mono ?_⟩
  rw [List.length_cons];omega
theorem z6{l:List Spell}(h:okS l):0<bot l:=(zbk l 1 1 (fun s hs=>(h.2.1 s hs).2.1) #[1] (by unfold Bits;decide)).1
theorem zaQ{l:List Spell}(h:okS l):Bits 900 (bot l):=(zbk l 1 1 (fun s hs=>(h.2.1 s hs).2.1) #[1] (by unfold Bits;decide)).2.mono (by have:=h.1.2;omega)
def shares(b:Int)(ws:List Int):List Int:=ws.map fun w=>w*b/ws.sum
def addL(xs ys:List Int):List Int:=(xs.zip ys).map fun p=>p.1+p.2
def zo(sh:List Int)(p:List Int×List (List Int)):List Int×List (List Int):=(addL p.1 sh,p.2++[addL p.1 sh])
def rep{α : Type}(f:α->α):Nat->α->α
 | 0,x=>x
 | n+1,x=>rep f n (f x)
def runQ(b:Int)(l:List Spell)(p:List Int×List (List Int)):List Int×List (List Int):=l.foldl (fun p s=>rep (zo (shares b s.2)) s.1.toNat p) p
def zeros(l:List Spell):List Int:=List.replicate (many l) 0
def quo(l:List Spell):List (List Int):=(runQ (bot l) l (zeros l,[zeros l])).2
theorem zaw(sh:List Int):∀ n p,(rep (zo sh) n p).2.length=p.2.length+n
 | 0,p=>rfl
 | n+1,p=>by rw [rep,zaw sh n];simp [zo];omega
theorem zZ{l:List Spell}(h:∀ s∈l,1<=s.1):0<=tot l:=zaD fun w hw=>by
 obtain⟨s,hs,rfl⟩:=Ya7.mp hw;have:=h s hs;omega
theorem zh7{l:List Spell}(h:∀ s∈l,1<=s.1){s:Spell}(hs:s∈l):s.1<=tot l:=by
 unfold tot
 induction l with
 | nil=>cases hs
 | cons a l ih=>
  rw [Ya1,List.sum_cons];have h1:0<=(l.map (·.1)).sum:=zZ fun x hx=>h x (YaT _ hx)
  have h2:=h a YaV
  rcases Wbo.mp hs with rfl|hs
  . omega
  . have:=ih (fun x hx=>h x (YaT _ hx)) hs
    omega
theorem jF{l:List Spell}(h:okS l):((quo l).length:Int)=tot l+1:=by
 have key:∀ (l:List Spell) (b:Int) (p:List Int×List (List Int)),(∀ s∈l,1<=s.1)->((runQ b l p).2.length:Int)=p.2.length+tot l:=by
  intro l
  induction l with
  | nil=>intro b p _;simp [runQ,tot]
  | cons s l ih=>
   intro b p hs;have h1:=hs s YaV;have:=ih b (rep (zo (shares b s.2)) s.1.toNat p) fun x hx=>hs x (YaT _ hx)
   show((runQ b l (rep (zo (shares b s.2)) s.1.toNat p)).2.length:Int)=_
   rw [this,zaw];unfold tot;rw [Ya1,List.sum_cons]
   omega
 have:=key l (bot l) (zeros l,[zeros l]) fun s hs=>(h.2.1 s hs).1
 unfold quo;rw [this];simp;omega
theorem zfo{α β : Type}(e:α->β)(xs:List α)(lo hi:Option Int):cut (xs.map e) lo hi=(cut xs lo hi).map e:=by
 unfold cut;rw [YaR,List.map_take,List.map_drop]
theorem zjR{α : Type}(xs:List α){i:Int}(h:0<=i)(h':i<=xs.length):cut xs none (some i)=xs.take i.toNat:=by
 unfold cut;have e:HT.sIx xs.length xs.length (some i)=i.toNat:=by
  have:=HT.sIx_nat xs.length xs.length i.toNat;rw [show((i.toNat:Nat):Int)=i by omega] at this
  rw [this];omega
 rw [e];simp [HT.sIx_none]
theorem zmg{α : Type}(xs:List α){i:Int}(h:0<=i)(h':i<=xs.length):cut xs (some i) none=xs.drop i.toNat:=by
 unfold cut;have e:HT.sIx xs.length 0 (some i)=i.toNat:=by
  have:=HT.sIx_nat xs.length 0 i.toNat;rw [show((i.toNat:Nat):Int)=i by omega] at this
  rw [this];omega
 rw [e,HT.sIx_none]
 apply Was
 rw [Wa6];omega
theorem zgc{b:Int}{s:Spell}(h:okW s.2):parts s.2∣bot1 b s:=by
 unfold bot1;rw [WbD,Int.mul_ediv_assoc _ (Wba b (parts s.2))];exact WaY _ _
theorem znw{b:Int}{s:Spell}:b∣bot1 b s:=by
 unfold bot1;rw [Int.mul_ediv_assoc _ (WaX b (parts s.2))];exact WaY _ _
theorem zat{a b:List Int}(h:a.length=b.length):(addL a b).length=a.length:=by unfold addL;rw [YaR,List.length_zip];omega
theorem zbe(b:Int)(ws:List Int):(shares b ws).length=ws.length:=YaR ..
theorem zfl:∀ (l:List Spell) (b:Int),b∣l.foldl bot1 b
 | [],b=>Int.dvd_refl b
 | s::l,b=>Wbu znw (zfl l (bot1 b s))
theorem zfd:∀ (l:List Spell) (b:Int),(∀ s∈l,okW s.2)->∀ s∈l,parts s.2∣l.foldl bot1 b
 | [],b,_,s,h=>by cases h
 | a :: l, b, hok, s, h => by
  rcases Wbo.mp h with rfl|h
  . exact Wbu (zgc (hok s YaV)) (zfl l _)
  . exact zfd l _ (fun x hx=>hok x (YaT _ hx)) s h
theorem zeX{b w:Int}{ws:List Int}(h:okW ws)(hd:parts ws∣b)(hw:w∈ws):w*b/ws.sum*ws.sum=w*b:=by
 apply Yaw
 obtain⟨k,rfl⟩:=hd;obtain⟨j,hj⟩:=zeR hw;have hp:=zcn (ws:=ws);refine⟨j*k,?_⟩;rw [<-hp,hj];simp only [Int.mul_assoc,WbD,WaZ]
theorem zgG{b b':Int}{ws:List Int}(h:okW ws)(hd:parts ws∣b)(hd':parts ws∣b'):(shares b ws).map (· * b')=(shares b' ws).map (· * b):=by
 unfold shares;rw [YaD,YaD]
 apply Yat
 intro w hw;simp only [Function.comp];have h1:=zeX h hd hw;have h2:=zeX h hd' hw;have hs:=jk h
 apply Waf (show ws.sum≠0 by omega)
 generalize w*b/ws.sum=x at h1;generalize w*b'/ws.sum=y at h2;have e1:x*b'*ws.sum=x*ws.sum*b':=by simp only [Int.mul_assoc,WbD,WaZ]
 have e2:y*b*ws.sum=y*ws.sum*b:=by simp only [Int.mul_assoc,WbD,WaZ]
 rw [e1,e2,h1,h2];simp only [Int.mul_assoc,WbD,WaZ]
def JP(b b':Int)(p p':List Int×List (List Int)):Prop:=p.1.map (· * b')=p'.1.map (· * b)/\p.2.map (List.map (· * b'))=p'.2.map (List.map (· * b))
theorem zcI(c:Int)(a d:List Int):(addL a d).map (· * c)=addL (a.map (· * c)) (d.map (· * c)):=by
 unfold addL;rw [List.zip_map,YaD,YaD]
 apply Yat
 intro p _;simp only [Function.comp,Prod.map,WbH]
theorem zjy{b b':Int}{sh sh':List Int}(hs:sh.map (· * b')=sh'.map (· * b)){p p':List Int×List (List Int)}(h:JP b b' p p'):JP b b' (zo sh p) (zo sh' p'):=by
 have e:(addL p.1 sh).map (· * b')=(addL p'.1 sh').map (· * b):=by rw [zcI,zcI,h.1,hs]
 refine⟨e,?_⟩
 show(p.2++[addL p.1 sh]).map _=(p'.2++[addL p'.1 sh']).map _
 rw [Ya2,Ya2,h.2,Ya1,Ya1,e];rfl
theorem zfa{b b':Int}{sh sh':List Int}(hs:sh.map (· * b')=sh'.map (· * b)):∀ (n:Nat) {p p':List Int×List (List Int)},JP b b' p p'->JP b b' (rep (zo sh) n p) (rep (zo sh') n p')
 | 0,_,_,h=>h
 | n+1,_,_,h=>zfa hs n (zjy hs h)
theorem zd0{b b':Int}:∀ (l:List Spell),(∀ s∈l,okW s.2/\parts s.2∣b/\parts s.2∣b')->∀ {p p':List Int×List (List Int)},JP b b' p p'->JP b b' (runQ b l p) (runQ b' l p')
 | [],_,_,_,h=>h
 | s :: l, hs, p, p', h => by
  obtain⟨h1,h2,h3⟩:=hs s YaV;exact zd0 l (fun x hx=>hs x (YaT _ hx)) (zfa (zgG h1 h2 h3) s.1.toNat h)
def zd(l:List Spell):Int:=l.foldl (fun b s=>b*s.2.sum) 1
def quoB(b:Int)(l:List Spell):List (List Int):=(runQ b l (zeros l,[zeros l])).2
theorem zcZ:∀ (l:List Spell) (b:Int),b∣l.foldl (fun b s=>b*s.2.sum) b
 | [],b=>Int.dvd_refl b
 | s::l,b=>Wbu (WaY b s.2.sum) (zcZ l _)
theorem zcf{l:List Spell}{s:Spell}(h:s∈l):s.2.sum∣zd l:=by
 have:∀ (l:List Spell) (b:Int),s∈l->s.2.sum∣l.foldl (fun b s=>b*s.2.sum) b:=by
  intro l
  induction l with
  | nil=>intro b h;cases h
  | cons a l ih=>
   intro b h
   rcases Wbo.mp h with rfl|h
   . exact Wbu (Int.dvd_mul_left b s.2.sum) (zcZ l _)
   . exact ih _ h
 exact this l 1 h
theorem zbi:∀ (l:List Spell) (b:Int) (k:Nat),(∀ s∈l,okW s.2)->0<b->Bits k b->0<l.foldl (fun b s=>b*s.2.sum) b/\Bits (k+103*l.length) (l.foldl (fun b s=>b*s.2.sum) b)
 | [],b,k,_,h,hb=>⟨h,hb.mono (by simp)⟩
 | s :: l, b, k, hs, h, hb => by
  have h1:=hs s YaV;have:=zbi l (b*s.2.sum) (k+103) (fun t ht=>hs t (YaT _ ht)) (Int.mul_pos h (jk h1)) (hb.mul (Z9 h1))
  exact⟨this.1,this.2.mono (by rw [List.length_cons];omega)⟩
theorem zaB{l:List Spell}(h:okS l):0<zd l:=(zbi l 1 1 (fun s hs=>(h.2.1 s hs).2.1) #[1] (by unfold Bits;decide)).1
theorem zbK{l:List Spell}(h:okS l):Bits 900 (zd l):=(zbi l 1 1 (fun s hs=>(h.2.1 s hs).2.1) #[1] (by unfold Bits;decide)).2.mono (by have:=h.1.2;omega)
theorem zna(ws:List Int):parts ws∣ws.sum:=⟨gcdL ws,zcn.symm⟩
theorem zbO{l:List Spell}(h:okS l):(quo l).map (List.map (· * zd l))=(quoB (zd l) l).map (List.map (· * bot l)):=by
 have:=zd0 (b:=bot l) (b':=zd l) l (fun s hs=>⟨(h.2.1 s hs).2.1,zfd l 1 (fun t ht=>(h.2.1 t ht).2.1) s hs,Wbu (zna s.2) (zcf hs)⟩) (p:=(zeros l,[zeros l])) (p':=(zeros l,[zeros l])) ?_
 . exact this.2
 . unfold JP zeros;simp
theorem zi3(b:Int):∀ (l:List Spell) (p:List Int×List (List Int)),(∀ s∈l,1<=s.1)->((runQ b l p).2.length:Int)=p.2.length+tot l:=by
 intro l
 induction l with
 | nil=>intro p _;simp [runQ,tot]
 | cons s l ih=>
  intro p hs;have h1:=hs s YaV;have:=ih (rep (zo (shares b s.2)) s.1.toNat p) fun x hx=>hs x (YaT _ hx)
  show((runQ b l (rep (zo (shares b s.2)) s.1.toNat p)).2.length:Int)=_
  rw [this,zaw];unfold tot;rw [Ya1,List.sum_cons]
  omega
theorem zbB{l:List Spell}(h:okS l)(b:Int):((quoB b l).length:Int)=tot l+1:=by
 unfold quoB;rw [zi3 b l _ fun s hs=>(h.2.1 s hs).1]
 simp;omega
def jg(n:Nat)(p:List Int×List (List Int)):Prop:=p.1.length=n/\∀ r∈p.2,r.length=n
theorem zcD{n:Nat}{sh:List Int}(hs:sh.length=n):∀ (k:Nat) (p:List Int×List (List Int)),jg n p->jg n (rep (zo sh) k p)
 | 0,p,h=>h
 | k + 1, p, h => zcD hs k _ (by
  have e:(addL p.1 sh).length=n:=by rw [zat (by rw [h.1,hs]),h.1]
  refine⟨e,fun r hr=>?_⟩
  rcases Ya3.mp hr with z|z
  . exact h.2 r z
  . rw [Ya6.mp z];exact e)
theorem zeT{n:Nat}(b:Int):∀ (l:List Spell) (p:List Int×List (List Int)),(∀ s∈l,s.2.length=n)->jg n p->jg n (runQ b l p)
 | [],p,_,h=>h
 | s::l,p,hs,h=>zeT b l _ (fun t ht=>hs t (YaT _ ht)) (zcD (by rw [zbe];exact hs s YaV) _ _ h)
theorem jK{l:List Spell}(h:okS l){b:Int}{r:List Int}(hr:r∈quoB b l):r.length=many l:=
 (zeT b l (zeros l,[zeros l]) (fun s hs=>(h.2.1 s hs).2.2) ⟨by unfold zeros;simp,fun r hr=>by rw [Ya6.mp hr];unfold zeros;simp⟩).2 r hr
theorem Zy{l:List Spell}(h:okS l):1<=many l/\many l<=8:=by
 cases l with
 | nil=>have:=h.1.1;simp at this
 | cons a r=>exact(h.2.1 a YaV).2.1.1
theorem zns(b:Int):∀ (l:List Spell) (p:List Int×List (List Int)) (x:List Int) (r:List (List Int)),p.2=x::r->∃ r',(runQ b l p).2=x::r':=by
 have hrep:∀ (sh:List Int) (k:Nat) (p:List Int×List (List Int)) (x:List Int) (r:List (List Int)),p.2=x::r->∃ r',(rep (zo sh) k p).2=x::r':=by
  intro sh k
  induction k with
  | zero=>intro p x r h;exact⟨r,h⟩
  | succ k ih=>intro p x r h;exact ih (zo sh p) x (r++[addL p.1 sh]) (by show p.2++[_]=_;rw [h];rfl)
 intro l
 induction l with
 | nil=>intro p x r h;exact⟨r,h⟩
 | cons s l ih=>
  intro p x r h;obtain⟨r',h'⟩:=hrep (shares b s.2) s.1.toNat p x r h;exact ih _ x r' h'
theorem zd1(b:Int)(l:List Spell):∃ r,quoB b l=zeros l::r:=zns b l _ _ [] rfl
theorem zbc:∀ (xs:List Int) (x:Int),(xs.foldl (fun a b=>if b<a then b else a) x∈x::xs)/\xs.foldl (fun a b=>if b<a then b else a) x<=x/\∀ y∈xs,xs.foldl (fun a b=>if b<a then b else a) x<=y
 | [],x=>⟨YaV,WbI _,fun y h=>by cases h⟩
 | a :: xs, x => by
  have ih:=zbc xs (if a<x then a else x)
  rw [List.foldl_cons];refine⟨?_,?_,fun y hy=>?_⟩
  . rcases Wbo.mp ih.1 with z|z
    . rw [z];split
      . exact YaT _ YaV
      . exact YaV
    . exact YaT _ (YaT _ z)
  . refine Int.le_trans ih.2.1 ?_
    split<;>omega
  . rcases Wbo.mp hy with rfl|hy
    . refine Int.le_trans ih.2.1 ?_
      split<;>omega
    . exact ih.2.2 y hy
theorem zhl{ws:List Int}(h:ws≠[]):minL ws∈ws:=by
 cases ws with
 | nil=>exact absurd rfl h
 | cons a r=>exact(zbc r a).1
theorem zmt{ws:List Int}{w:Int}(h:w∈ws):minL ws<=w:=by
 cases ws with
 | nil=>cases h
 | cons a r=>
  rcases Wbo.mp h with rfl|h
  . exact(zbc r w).2.1
  . exact(zbc r a).2.2 w h
def Far(S:List Int)(n:Int):Prop:=0<=n/\(∀ x∈S,x<=n/\-x<=n)/\(n=0\/n∈S\/-n∈S)
theorem Far.le{S:List Int}{n m:Int}(h:Far S n)(h':Far S m):n<=m:=by
 rcases h.2.2 with z|z|z
 . rw [z];exact h'.1
 . exact(h'.2.1 n z).1
 . have:=(h'.2.1 (-n) z).2;omega
theorem Far.uniq{S:List Int}{n m:Int}(h:Far S n)(h':Far S m):n=m:=Int.le_antisymm (h.le h') (h'.le h)
theorem Far.scale{S:List Int}{n c:Int}(hc:0<c)(h:Far S n):Far (S.map (· * c)) (n*c):=by
 refine⟨YaK h.1 #[0],fun x hx=>?_,?_⟩
 . obtain⟨y,hy,rfl⟩:=Ya7.mp hx
   have h1:=Ybe (h.2.1 y hy).1 (show 0<=c by omega)
   have h2:=Ybe (h.2.1 y hy).2 (show 0<=c by omega)
   rw [Int.neg_mul] at h2;exact⟨h1,h2⟩
 . rcases h.2.2 with z|z|z
   . left;rw [z,Int.zero_mul]
   . right;left;exact Ya7.mpr ⟨n,z,rfl⟩
   . right;right;exact Ya7.mpr ⟨-n,z,by rw [Int.neg_mul]⟩
theorem Far.nil:Far [] 0:=⟨#[1],fun x h=>absurd h (by simp),.inl rfl⟩
theorem Far.snoc{S:List Int}{n x m:Int}(h:Far S n)(hm:n<=m)(h1:x<=m)(h2:-x<=m)(he:m=n\/m=x\/m = -x):Far (S++[x]) m:=by
 refine⟨by have:=h.1;omega,fun y hy=>?_,?_⟩
 . rcases Ya3.mp hy with z|z
   . have:=h.2.1 y z;omega
   . rw [Ya6.mp z];exact⟨h1,h2⟩
 . rcases he with z|z|z
   . subst z
     rcases h.2.2 with w|w|w
     . exact .inl w
     . exact .inr (.inl (Yai _ w))
     . exact .inr (.inr (Yai _ w))
   . subst z;exact .inr (.inl (Yaa _ YaV))
   . subst z;exact .inr (.inr (Yaa _ (by simp)))
theorem Far.app{S T:List Int}{n m:Int}(h:Far S n)(hm:n<=m)(h1:∀ x∈T,x<=m/\-x<=m)(he:m=n\/m∈T\/-m∈T):Far (S++T) m:=by
 refine⟨by have:=h.1;omega,fun y hy=>?_,?_⟩
 . rcases Ya3.mp hy with z|z
   . have:=h.2.1 y z;omega
   . exact h1 y z
 . rcases he with z|z|z
   . subst z
     rcases h.2.2 with w|w|w
     . exact .inl w
     . exact .inr (.inl (Yai _ w))
     . exact .inr (.inr (Yai _ w))
   . exact .inr (.inl (Yaa _ z))
   . exact .inr (.inr (Yaa _ z))
def had1(b:Int)(h:List Int)(c:Int):List Int:=h.set c.toNat (h.getD c.toNat 0+b)
def hadN(b:Int)(n:Nat)(row:List Int):List Int:=row.foldl (had1 b) (List.replicate n 0)
theorem zbs(b:Int)(h:List Int)(c:Int):(had1 b h c).length=h.length:=by unfold had1;rw [YaN]
theorem jV(b:Int)(n:Nat)(row:List Int):(hadN b n row).length=n:=by
 have:∀ (row:List Int) (h:List Int),(row.foldl (had1 b) h).length=h.length:=by
  intro row
  induction row with
  | nil=>intro h;rfl
  | cons c r ih=>intro h;rw [List.foldl_cons,ih,zbs]
 unfold hadN;rw [this,Ybb]
theorem zio(b:Int)(h:List Int)(c:Int):had1 b (h.map (· * b)) c=(had1 1 h c).map (· * b):=by
 unfold had1;rw [List.map_set]
 congr 1
 rw [YaP,Ya0,YaP];cases h[c.toNat]? with
 | none=>simp
 | some x=>simp [WbH]
theorem zcE(b:Int)(n:Nat)(row:List Int):hadN b n row=(hadN 1 n row).map (· * b):=by
 have:∀ (row:List Int) (h:List Int),row.foldl (had1 b) (h.map (· * b))=(row.foldl (had1 1) h).map (· * b):=by
  intro row
  induction row with
  | nil=>intro h;rfl
  | cons c r ih=>intro h;rw [List.foldl_cons,List.foldl_cons,zio,ih]
 unfold hadN;rw [<-this]
 congr 1
 simp
theorem ZU(b:Int)(n:Nat)(row:List Int)(c:Int):hadN b n (row++[c])=had1 b (hadN b n row) c:=by unfold hadN;rw [WaR];rfl
def subL(a b:List Int):List Int:=(a.zip b).map fun p=>p.1 - p.2
def zU(b:Int)(n:Nat)(q:List (List Int))(row:List Int)(t:Nat):List Int:=subL (hadN b n (row.take (t+1))) (q.getD (t+1) [])
def jc(b:Int)(n:Nat)(q:List (List Int))(row:List Int)(k:Nat):List (List Int):=(List.range k).map (zU b n q row)
theorem ze2(b:Int)(n:Nat)(q:List (List Int))(row:List Int)(k:Nat):jc b n q row (k+1)=jc b n q row k++[zU b n q row k]:=by
 unfold jc;rw [Wbg,Ya2];rfl
def zP(b:Int)(n:Nat)(q:List (List Int))(row:List Int)(k:Nat):List Int:=(jc b n q row k).flatten
theorem zdD(b:Int)(n:Nat)(q:List (List Int))(row:List Int)(k:Nat):zP b n q row (k+1)=zP b n q row k++zU b n q row k:=by
 unfold zP;rw [ze2,YaE];simp
theorem zkb{b c:Int}{h x y:List Int}(e:x.map (· * c)=y.map (· * b)):(subL (h.map (· * b)) x).map (· * c)=(subL (h.map (· * c)) y).map (· * b):=by
 induction h generalizing x y with
 | nil=>simp [subL]
 | cons a h ih=>
  cases x with
  | nil=>
   cases y with
   | nil=>simp [subL]
   | cons _ _=>simp at e
  | cons p x=>
   cases y with
   | nil=>simp at e
   | cons q y=>
    simp only [Ya1,Wbh] at e;have:=ih e.2;simp only [subL,Ya1,List.zip_cons_cons,Wbh] at this ⊢;refine⟨?_,this⟩;rw [WbJ,WbJ,e.1,Int.mul_right_comm]
theorem zmI{b c:Int}{n:Nat}{q q':List (List Int)}{row:List Int}(e:q.map (List.map (· * c))=q'.map (List.map (· * b)))(k:Nat):(zP b n q row k).map (· * c)=(zP c n q' row k).map (· * b):=by
 induction k with
 | zero=>rfl
 | succ k ih=>
  rw [zdD,zdD,Ya2,Ya2,ih]
  congr 1
  unfold zU;rw [zcE b,zcE c]
  apply zkb
  have h:=congrArg (fun z=>z.getD (k+1) []) e
  simp only [YaP,Ya0] at h ⊢;cases h1:q[k+1]? <;> cases h2:q'[k+1]? <;> simp [h1,h2] at h ⊢
  . exact h
  . exact h
  . exact h
theorem zdO{b c:Int}(hb:0<b)(hc:0<c){n:Nat}{q q':List (List Int)}{row:List Int}(e:q.map (List.map (· * c))=q'.map (List.map (· * b))){k:Nat}{x y:Int}(hx:Far (zP b n q row k) x)(hy:Far (zP c n q' row k) y):x*c=y*b:=by
 have h1:=hx.scale hc;have h2:=hy.scale hb;rw [zmI e] at h1;exact h1.uniq h2
theorem zdZ{a b d:Int}(h:b∣a*d)(hg:Int.gcd a b=1):b∣d:=by
 have h1:b.natAbs∣a.natAbs*d.natAbs:=by rw [<-Int.natAbs_mul];exact Int.natAbs_dvd_natAbs.mpr h
 have h2:Nat.Coprime b.natAbs a.natAbs:=by rw [Nat.coprime_comm];exact hg
 exact Int.natAbs_dvd_natAbs.mp (h2.dvd_of_dvd_mul_left h1)
theorem zly{a b c d:Int}(hb:0<b)(hd:0<d)(h1:Int.gcd a b=1)(h2:Int.gcd c d=1)(e:a*d=c*b):a=c/\b=d:=by
 have d1:b∣d:=by
  have:b∣a*d:=⟨c,by rw [e,WbD]⟩
  exact zdZ this h1
 have d2:d∣b:=by
  have:d∣c*b:=⟨a,by rw [<-e,WbD]⟩
  exact zdZ this h2
 have hbd:b=d:=Int.le_antisymm (Int.le_of_dvd hd d1) (Int.le_of_dvd hb d2);subst hbd;exact⟨Waf #[0] e,rfl⟩
theorem zdz{a b:Int}(h:0<b):0<b/(Int.gcd a b:Int)/\Int.gcd (a/(Int.gcd a b:Int)) (b/(Int.gcd a b:Int))=1/\a/(Int.gcd a b:Int)*(Int.gcd a b:Int)=a/\b/(Int.gcd a b:Int)*(Int.gcd a b:Int)=b:=by
 have hg:0<Int.gcd a b:=Wac _ #[0]
 have h1:(Int.gcd a b:Int)∣a:=Wba a b;have h2:(Int.gcd a b:Int)∣b:=WaX a b;exact⟨Int.ediv_pos_of_pos_of_dvd h #[0] h2,Int.gcd_ediv_gcd_ediv_gcd hg,Yaw h1,Yaw h2⟩
theorem zkm{a b c d:Int}(hb:0<b)(hd:0<d)(e:a*d=c*b):a/(Int.gcd a b:Int)=c/(Int.gcd c d:Int)/\b/(Int.gcd a b:Int)=d/(Int.gcd c d:Int):=by
 obtain⟨p1,g1,x1,y1⟩:=zdz (a:=a) hb;obtain⟨p2,g2,x2,y2⟩:=zdz (a:=c) hd;refine zly p1 p2 g1 g2 ?_;have hg1:=zcr (a:=a) hb;have hg2:=zcr (a:=c) hd;generalize (Int.gcd a b:Int)=g at *;generalize (Int.gcd c d:Int)=g' at *;generalize a/g=a' at *;generalize b/g=b' at *;generalize c/g'=c' at *;generalize d/g'=d' at *;subst x1 y1 x2 y2;have:(a'*d')*(g*g')=(c'*b')*(g*g'):=by
  rw [show(a'*d')*(g*g')=a'*g*(d'*g') by ac_rfl,e];ac_rfl
 exact Waf (Int.ne_of_gt (Int.mul_pos hg1 hg2)) this
def jR(n:Nat)(T:Nat)(row:List Int):Prop:=row.length=T/\∀ c∈row,0<=c/\c<(n:Int)
theorem zlu{ws:List Int}(h:∀ w∈ws,0<=w)(h1:(1:Int)∈ws):ws.sum≠0:=by
 induction ws with
 | nil=>cases h1
 | cons a r ih=>
  rw [List.sum_cons];have h2:=zaD (ws:=r) fun w hw=>h w (YaT _ hw)
  have h3:=h a YaV
  rcases Wbo.mp h1 with rfl|h1
  . omega
  . have:=ih (fun w hw=>h w (YaT _ hw)) h1
    omega
theorem zia{l:List Spell}{B:Int}(h:∀ s∈l,s.1<=B):tot l<=l.length*B:=by
 unfold tot
 induction l with
 | nil=>simp
 | cons a r ih=>
  have h1:=h a YaV;have h2:=ih fun s hs=>h s (YaT _ hs)
  rw [Ya1,List.sum_cons,List.length_cons,Int.natCast_succ,WbH]
  omega
theorem zma(l:List Spell)(s:Spell):zd (l++[s])=zd l*s.2.sum:=by unfold zd;rw [WaR];rfl
theorem zen{α : Type}(f:α->α):∀ (n:Nat) (x:α),rep f (n+1) x=f (rep f n x)
 | 0,x=>rfl
 | n+1,x=>by show rep f (n+1) (f x)=f (rep f n (f x));exact zen f n (f x)
theorem zec{α : Type}(xs:List α)(x:α):atI (xs++[x]) (-1)=some x:=by
 unfold atI ixN;rw [if_neg #[1],if_pos (by rw [YaS];simp;omega),YaS]
 have:(-1+((xs.length+[x].length:Nat):Int)).toNat=xs.length:=#[6]
 rw [this]
 simp
theorem zah{xs:List Int}{i:Nat}(h:i<xs.length):atI (xs.map PyData.int) (0+(i:Int))=some (PyData.int xs[i]):=by
 rw [Int.zero_add];have:(xs.map PyData.int)[i]?=some (PyData.int xs[i]):=by rw [Ya0,YaQ h];rfl
 exact JQ this
theorem c64:JL 10 64:=powB (k:=4) (by unfold Bits;decide) #[1] #[1]
abbrev Rat2:=Int×Int
def dQ(r:Rat2):D:=.tuple [.int r.1,.int r.2]
def okQ(r:Rat2):Prop:=0<r.2/\Bits 1200 r.1/\Bits 1200 r.2
def inQ(r:Rat2):Prop:=0<=r.1/\r.1<=10*r.2
def okB(n:Nat)(l:List (Rat2×Rat2)):Prop:=l.length=n/\∀ p∈l,inQ p.1/\inQ p.2
def z9(b:Int)(r:Rat2):Int:=r.1*b/r.2
theorem zbA{rows:List (List Int)}{i:Nat}(h:i<rows.length):atI (rows.map dI) (i:Int)=some (PyData.list (rows[i].map PyData.int)):=by
 have:(rows.map dI)[i]?=some (PyData.list (rows[i].map PyData.int)):=by rw [Ya0,YaQ h];rfl
 exact JQ this
theorem zcj{xs:List Int}{i:Int}(h0:0<=i)(h:i<xs.length):atI (xs.map PyData.int) i=some (PyData.int (xs.getD i.toNat 0)):=by
 obtain⟨x,h1,_,h2⟩:=zbU (xs:=xs) h0 h;rw [ze4,h1,YaP,h2];rfl
def dRoom(p:Int×Int):D:=.tuple [.int p.1,.int p.2]
def zw(b:Int)(l:List (Rat2×Rat2)):List (Int×Int):=l.map fun p=>(z9 b p.1,z9 b p.2)
theorem znU{ws:List Int}(h:∀ w∈ws,0<=w){w:Int}(hw:w∈ws):w<=ws.sum:=by
 induction ws with
 | nil=>cases hw
 | cons a r ih=>
  rw [List.sum_cons];have h2:=zaD (ws:=r) fun w hw=>h w (YaT _ hw)
  have h3:=h a YaV
  rcases Wbo.mp hw with rfl|hw
  . omega
  . have:=ih (fun w hw=>h w (YaT _ hw)) hw
    omega
theorem znx{b:Int}{ws:List Int}(h:okW ws)(hb:0<=b){x:Int}(hx:x∈shares b ws):x<=b:=by
 unfold shares at hx;obtain⟨w,hw,rfl⟩:=Ya7.mp hx;have h1:=znU (fun w hw=>(h.2.1 w hw).1) hw
 refine Int.ediv_le_of_le_mul (jk h) ?_
 rw [WbD w b];exact Int.mul_le_mul_of_nonneg_left h1 hb
def leP(b:Int)(p:List Int×List (List Int)):Prop:=1<=p.2.length/\(∀ x∈p.1,x<=((p.2.length:Int) - 1)*b)/\∀ r∈p.2,∀ x∈r,x<=((p.2.length:Int) - 1)*b
theorem zfS{b:Int}{sh:List Int}(hb:0<=b)(hs:∀ x∈sh,x<=b){p:List Int×List (List Int)}(h:leP b p):leP b (zo sh p):=by
 obtain⟨h1,h2,h3⟩:=h;have e:(((zo sh p).2.length:Nat):Int) - 1=p.2.length:=by show(((p.2++[_]).length:Nat):Int) - 1=_;rw [YaS];simp
 have hm:((p.2.length:Int) - 1)*b+b=(p.2.length:Int)*b:=by rw [WbJ,WbK];omega
 have ha:∀ x∈addL p.1 sh,x<=(p.2.length:Int)*b:=fun x hx=>by
  unfold addL at hx;obtain⟨q,hq,rfl⟩:=Ya7.mp hx;obtain⟨q1,q2⟩:=List.of_mem_zip (a:=q.1) (b:=q.2) hq;have:=h2 _ q1;have:=hs _ q2
  omega
 refine⟨by show 1<=(p.2++[_]).length;rw [YaS];simp,by rw [e];exact ha,fun r hr x hx=>?_⟩
 rw [e]
 rcases Ya3.mp hr with z|z
 . have:=h3 r z x hx;omega
 . rw [Ya6.mp z] at hx;exact ha x hx
theorem zcU{b:Int}{sh:List Int}(hb:0<=b)(hs:∀ x∈sh,x<=b):∀ (n:Nat) {p:List Int×List (List Int)},leP b p->leP b (rep (zo sh) n p)
 | 0,_,h=>h
 | n+1,_,h=>zcU hb hs n (zfS hb hs h)
theorem zff{b:Int}(hb:0<=b):∀ (l:List Spell) {p:List Int×List (List Int)},(∀ s∈l,okW s.2)->leP b p->leP b (runQ b l p)
 | [],_,_,h=>h
 | s::l,p,hl,h=>zff hb l (p:=rep (zo (shares b s.2)) s.1.toNat p) (fun t ht=>hl t (YaT _ ht)) (zcU hb (fun x hx=>znx (hl s YaV) hb hx) _ h)
theorem zca{l:List Spell}(h:okS l){b:Int}(hb:0<b):∀ r∈quoB b l,∀ x∈r,x<=tot l*b:=fun r hr x hx=>by
 have:=zff (b:=b) #[0] l (p:=(zeros l,[zeros l])) (fun s hs=>(h.2.1 s hs).2.1) ⟨by simp,fun x hx=>by
  have:x=0:=Wan hx;rw [this];simp,fun r hr x hx=>by
  rw [Ya6.mp hr] at hx;have:x=0:=Wan hx;rw [this];simp⟩
 have h2:=this.2.2 r hr x hx;have h3:=zbB h b;unfold quoB at h3;have e:(((runQ b l (zeros l,[zeros l])).2.length:Nat):Int) - 1=tot l:=#[0]
 rw [e] at h2;exact h2
theorem zbS{g:TG3}{tb:TS3}{A:Ends3}{f:Bool}{enc:Nat->D}{n:Nat}(P:Nat->Env3->Prop)(s:∀ k ρ,k<n->P k ρ->∀ W:Env3->Prop,(∀ ρ',P (k+1) ρ'->W ρ')->g f (enc k) ρ fun ρ'=>tb { A with nx:=W,ct:=W,bk:=A.nx } ρ')(e:∀ ρ,P n ρ->A.nx ρ){ρ : Env3}(h:P 0 ρ):forL g tb A f ((List.range n).map enc) ρ:=by
 refine Jr enc (List.range n) (fun done ρ=>P done.length ρ) (fun done x rest ρ hd hp W hW=>?_) (fun ρ hp=>e ρ (by rw [YaG] at hp;exact hp)) h
 have hx:x=done.length:=by
  have h1:(List.range n)[done.length]?=some x:=by rw [hd];simp
  have h2:done.length<n:=by have:=congrArg List.length hd;simp at this;omega
  rw [Yax h2] at h1;exact(Wbe h1).symm
 subst hx;have h2:done.length<n:=by have:=congrArg List.length hd;simp at this;omega
 exact s done.length ρ h2 hp W fun ρ' hp'=>hW ρ' (by rw [YaS];exact hp')
def Jn(p:Nat->Bool):Nat->Nat->Nat
 | i,0=>i
 | i,m+1=>if p i=true then i else Jn p (i+1) m
def zr(n:Nat)(p:Nat->Bool):Nat:=Jn p 1 (n - 1)
theorem zkT(p:Nat->Bool):∀ (m i:Nat),i<=Jn p i m/\Jn p i m<=i+m/\(∀ t,i<=t->t<Jn p i m->p t=false)/\(Jn p i m<i+m->p (Jn p i m)=true):=by
 intro m
 induction m with
 | zero=>intro i;exact⟨YaY _,YaY _,fun t h1 h2=>absurd h2 (by show ¬t<i;omega),fun h=>absurd h (by show ¬i<i+0;omega)⟩
 | succ m ih=>
  intro i;unfold Jn
  by_cases h:p i=true
  . rw [if_pos h];exact⟨YaY _,#[0],fun t h1 h2=>absurd h2 #[0],fun _=>h⟩
  . rw [if_neg h]
    obtain⟨a1,a2,a3,a4⟩:=ih (i+1);refine⟨#[0],#[0],fun t h1 h2=>?_,fun hh=>a4 #[0]⟩
    by_cases e:t=i
    . subst e;simpa using h
    . exact a3 t #[0] h2
theorem jf{n:Nat}(hn:1<=n)(p:Nat->Bool):1<=zr n p/\zr n p<=n/\(∀ t,1<=t->t<zr n p->p t=false)/\(zr n p<n->p (zr n p)=true):=by
 obtain⟨a1,a2,a3,a4⟩:=zkT p (n - 1) 1;exact⟨a1,by unfold zr;omega,a3,fun h=>a4 (by unfold zr at h;omega)⟩
theorem zcB{n:Nat}(hn:1<=n){p:Nat->Bool}{r:Nat}(h1:1<=r)(h2:r<=n)(h3:∀ t,1<=t->t<r->p t=false)(h4:r<n->p r=true):zr n p=r:=by
 obtain⟨a1,a2,a3,a4⟩:=jf hn p
 rcases Nat.lt_trichotomy (zr n p) r with z|z|z
 . have:=h3 _ a1 z;rw [a4 #[0]] at this;cases this
 . exact z
 . have:=a3 _ h1 z;rw [h4 #[0]] at this;cases this
abbrev Win:=Int×Int×Int×Option Int
def dO:Option Int->D
 | none=>.none
 | some i=>.int i
theorem zgq(f:Bool)(o:Option Int):isNone (Cl.sh f (dO o))=o.isNone:=by cases o<;>rfl
def dW(w:Win):D:=.tuple [.int w.1,.int w.2.1,.int w.2.2.1,dO w.2.2.2]
def winP(n:Nat)(e l:Nat->Bool):Int×Option Int:=(zr n e,if zr n l=n then none else some (zr n l:Nat))
def jh(n:Nat)(w:Int×Option Int):Prop:=w.1<n\/w.2≠none
def IsW(n:Nat)(k:Int)(W:Int->Int×Option Int):Int->List Win->Prop
 | j,[]=>¬jh n (W j)
 | j,w::r=>jh n (W j)/\w=(k,j,(W j).1,(W j).2)/\IsW n k W (j+1) r
theorem IsW.uniq{n:Nat}{k:Int}{W W':Int->Int×Option Int}:∀ {ws ws':List Win} {j:Int},(∀ i,j<=i->W i=W' i)->IsW n k W j ws->IsW n k W' j ws'->ws=ws'
 | [],[],_,_,_,_=>rfl
 | [], w :: r, j, e, h, h' => by
  have h1:¬jh n (W j):=h;have h2:=h'.1;rw [<-e j (WbI j)] at h2;exact absurd h2 h1
 | w :: r, [], j, e, h, h' => by
  have h1:¬jh n (W' j):=h';have h2:=h.1;rw [e j (WbI j)] at h2;exact absurd h2 h1
 | w :: r, w' :: r', j, e, h, h' => by
  have e1:=h.2.1;have e2:=h'.2.1;rw [<-e j (WbI j)] at e2;rw [e1,e2,IsW.uniq (fun i hi=>e i #[0]) h.2.2 h'.2.2]
theorem IsW.len{n:Nat}{k:Int}{W:Int->Int×Option Int}{M:Int}(hM:∀ i,jh n (W i)->i<=M):∀ {ws:List Win} {j:Int},IsW n k W j ws->j<=M+1->(ws.length:Int)<=M+1 - j
 | [],j,_,hj=>by simp;omega
 | w :: r, j, h, hj => by
  have h1:=hM j h.1;have:=IsW.len hM h.2.2 #[0]
  rw [List.length_cons];omega
def zf(q:List (List Int))(k:Nat):List Int:=q.map fun r=>r.getD k 0
def winB(b:Int)(path:List Int)(room:Int×Int)(j:Int):Int×Option Int:=winP path.length (fun t=>decide (j*b - room.2<=path.getD t 0)) (fun t=>decide ((j - 1)*b+room.1+1<=path.getD t 0))
theorem zbZ{b:Int}{path:List Int}{room:Int×Int}{M:Int}(hb:0<b)(h1:1<=path.length)(hp:∀ t,path.getD t 0+room.2<=M*b)(hr:0<=room.2)(hr1:0<=room.1)(j:Int)(h:jh path.length (winB b path room j)):j<=M+1:=by
 have key:∀ x:Int,x*b<=M*b+b->x<=M+1:=fun x hx=>by
  have:x*b<=(M+1)*b:=by rw [WbH,WbK];exact hx
  exact YaF this hb
 rcases h with h|h
 . obtain⟨_,_,_,a4⟩:=jf h1 (fun t=>decide (j*b - room.2<=path.getD t 0))
   have := of_decide_eq_true (a4 (by have : ((zr path.length fun t => decide (j * b - room.2 <= path.getD t 0) : Nat) : Int) < path.length := h
                                     omega))
   have h2:=hp (zr path.length fun t=>decide (j*b - room.2<=path.getD t 0))
   exact key j #[0]
 . obtain⟨_,a2,_,a4⟩:=jf h1 (fun t=>decide ((j - 1)*b+room.1+1<=path.getD t 0))
   have hne:zr path.length (fun t=>decide ((j - 1)*b+room.1+1<=path.getD t 0))≠path.length:=fun z=>h (if_pos z)
   have:=of_decide_eq_true (a4 #[0])
   have h2:=hp (zr path.length fun t=>decide ((j - 1)*b+room.1+1<=path.getD t 0))
   have h3:(j - 1)*b=j*b - b:=by rw [WbJ,WbK]
   exact key j #[0]
def zaF(L:List (List Int))(R:List (Int×Int)):Prop:=∀ ld∈L,∀ (i:Nat) (x:Int) (p:Int×Int),ld[i]?=some x->R[i]?=some p->-p.1<=x/\x<=p.2
def mxO(a y:Int):Int:=if a<y then y else a
def mx(ld:Nat->Nat->Int)(k:Nat):Nat->Int×Int
 | 0=>(0,0)
 | t+1=>(mxO (mx ld k t).1 (-(ld t k)),mxO (mx ld k t).2 (ld t k))
def ldF(b:Int)(n:Nat)(q:List (List Int))(row:List Int)(t k:Nat):Int:=(zU b n q row t).getD k 0
theorem IsW.mem{n:Nat}{k:Int}{W:Int->Int×Option Int}{w:Win}:∀ {ws:List Win} {j:Int},IsW n k W j ws->w∈ws->∃ i,j<=i/\w=(k,i,(W i).1,(W i).2)
 | [],j,_,hw=>by cases hw
 | v :: r, j, h, hw => by
  rcases Wbo.mp hw with z|z
  . exact⟨j,WbI _,by rw [z];exact h.2.1⟩
  . obtain⟨i,a,b⟩:=IsW.mem h.2.2 z
    exact⟨i,#[0],b⟩
theorem zgN{W:List (List Win)}{w:Win}(h:w∈W.flatten):∃ k,k<W.length/\w∈W.getD k []:=by
 obtain⟨l,hl,hw⟩:=Wbb.mp h;obtain⟨k,hk,e⟩:=Yam hl;refine⟨k,hk,?_⟩;rw [YaP,YaQ hk];show w∈W[k];rw [e];exact hw
theorem zfF{W:List (List Win)}{w:Win}{k:Nat}(hk:k<W.length)(h:w∈W.getD k []):w∈W.flatten:=by
 rw [YaP,YaQ hk] at h;exact Wbb.mpr ⟨W[k],Ya4 hk,h⟩
def tk(p:Nat->Bool)(t:Nat):List Nat:=(List.range t).filter p
theorem Jo(p:Nat->Bool)(t:Nat):tk p (t+1)=tk p t++if p t=true then [t] else []:=by
 unfold tk;rw [Wbg,WaJ]
 congr 1
 cases h:p t<;>simp [h]
theorem zbW(p:Nat->Bool){s t:Nat}(h:s<=t):∃ r,tk p t=tk p s++r/\∀ x∈r,s<=x:=by
 induction t with
 | zero=>cases Nat.le_zero.mp h;exact⟨[],by simp,fun x h=>by cases h⟩
 | succ t ih=>
  by_cases e:s=t+1
  . subst e;exact⟨[],by simp,fun x h=>by cases h⟩
  . obtain⟨r,h1,h2⟩:=ih #[0]
    refine⟨r++if p t=true then [t] else [],by rw [Jo,h1,Yag],fun x hx=>?_⟩
    rcases Ya3.mp hx with z|z
    . exact h2 x z
    . split at z
      . rw [Ya6.mp z];omega
      . cases z
theorem zay(p:Nat->Bool){s t:Nat}(h:s<=t):(tk p s).length<=(tk p t).length:=by
 obtain⟨r,h1,_⟩:=zbW p h;rw [h1,YaS];omega
theorem zkI(p:Nat->Bool){t x:Nat}(h:x∈tk p t):x<t:=Yba.mp (Ya9.mp h).1
theorem ZO(p:Nat->Bool):∀ {t j i:Nat},(tk p t)[j]?=some i->i<t/\(tk p i).length=j/\(tk p (i+1)).length=j+1
 | 0,j,i,h=>by simp [tk] at h
 | t + 1, j, i, h => by
  rw [Jo] at h
  by_cases hj:j<(tk p t).length
  . rw [Yab hj] at h
    obtain⟨a,b⟩:=ZO p h;exact⟨#[0],b⟩
  . rw [Yae #[0]] at h
    split at h
    . rename_i hp
      cases e:j - (tk p t).length with
      | zero=>
       rw [e] at h;cases h;have ej:(tk p t).length=j:=#[0]
       exact⟨#[0],ej,by rw [Jo,if_pos hp,YaS,ej];rfl⟩
      | succ m=>rw [e] at h;simp at h
    . simp at h
theorem zjZ(p:Nat->Bool){s t j:Nat}(h:s<=t)(hj:j<(tk p s).length):∃ i,i<s/\(tk p t)[j]?=some i:=by
 obtain⟨r,h1,_⟩:=zbW p h;refine⟨(tk p s)[j],zkI p (Ya4 hj),?_⟩;rw [h1,Yab hj,YaQ hj]
def okV(pos:List Nat)(w:Win):Prop:=if w.2.1<=pos.length then w.2.2.1<=((pos.getD (w.2.1 - 1).toNat 0+1:Nat):Int)/\∀ x,w.2.2.2=some x->((pos.getD (w.2.1 - 1).toNat 0+1:Nat):Int)<=x else w.2.2.2=none
theorem IsW.at{n:Nat}{k:Int}{W:Int->Int×Option Int}:∀ {ws:List Win} {j:Int} {i:Nat},IsW n k W j ws->i<ws.length->ws[i]?=some (k,j+i,(W (j+i)).1,(W (j+i)).2)
 | [],j,i,_,h=>by simp at h
 | v :: r, j, 0, h, _ => by
  rw [h.2.1];show some _=some _;rw [show j+((0:Nat):Int)=j by omega]
 | v :: r, j, i + 1, h, hi => by
  have:=IsW.at (i:=i) h.2.2 (by simpa using hi)
  rw [List.getElem?_cons_succ,this,show j+1+(i:Int)=j+((i+1:Nat):Int) by omega]
theorem IsW.long{n:Nat}{k:Int}{W:Int->Int×Option Int}{m:Nat}:∀ {ws:List Win} {j:Int},IsW n k W j ws->(∀ x:Nat,x<m->jh n (W (j+x)))->m<=ws.length
 | [], j, h, ht => by
  cases m with
  | zero=>exact YaY _
  | succ m=>exact absurd (by have:=ht 0 #[0];rwa [show j+((0:Nat):Int)=j by omega] at this) h
 | v :: r, j, h, ht => by
  cases m with
  | zero=>exact WbG _
  | succ m=>
   have:=IsW.long (m:=m) h.2.2 fun x hx=>by
    have:=ht (x+1) #[0]
    rwa [show j+((x+1:Nat):Int)=j+1+(x:Int) by omega] at this
   rw [List.length_cons];omega
theorem zaV{n:Nat}(hn:1<=n){p:Nat->Bool}{t:Nat}(h1:1<=t)(h:p t=true):zr n p<=t:=by
 obtain⟨a1,a2,a3,a4⟩:=jf hn p
 by_cases z:t<zr n p
 . rw [a3 t h1 z] at h;cases h
 . omega
theorem zgr{b:Int}(hb:0<b){path:List Int}{T:Nat}(hl:path.length=T+1)(mono:∀ s t,s<=t->t<=T->path.getD s 0<=path.getD t 0)(h0:0<=path.getD 0 0){r1 r2:Int}(hr1:0<=r1)(hr2:0<=r2)(p:Nat->Bool){ws:List Win}{k:Int}(hW:IsW (T+1) k (winB b path (r1,r2)) 1 ws) :
 (∀ t,t<T->-r1<=((tk p (t+1)).length:Int)*b - path.getD (t+1) 0/\((tk p (t+1)).length:Int)*b - path.getD (t+1) 0<=r2)↔((∀ w∈ws,okV (tk p T) w)/\(tk p T).length<=ws.length):=by
 have hn:1<=T+1:=#[0]
 have wo:∀ j,(winB b path (r1,r2) j).1=((zr (T+1) (fun t=>decide (j*b - r2<=path.getD t 0)):Nat):Int):=fun j=>by unfold winB winP;rw [hl]
 have wl:∀ j,(winB b path (r1,r2) j).2=if zr (T+1) (fun t=>decide ((j - 1)*b+r1+1<=path.getD t 0))=T+1 then none else some ((zr (T+1) (fun t=>decide ((j - 1)*b+r1+1<=path.getD t 0)):Nat):Int):=fun j=>by unfold winB winP;rw [hl]
 have mulm:∀ x y:Int,x<=y->x*b<=y*b:=fun x y h=>Ybe h #[0]
 constructor
 . intro hk
   have op:∀ (j i:Nat),(tk p T)[j]?=some i->zr (T+1) (fun t=>decide (((j:Int)+1)*b - r2<=path.getD t 0))<=i+1:=fun j i h=>by
    obtain⟨a1,a2,a3⟩:=ZO p h;have:=(hk i a1).2;rw [a3] at this;refine zaV hn #[0] (decide_eq_true ?_)
    have e:((j+1:Nat):Int)*b=((j:Int)+1)*b:=by rw [Int.natCast_succ]
    omega
   have la:∀ (j:Int),1<=j->zr (T+1) (fun t=>decide ((j - 1)*b+r1+1<=path.getD t 0))≠T+1->j<=((tk p (zr (T+1) (fun t=>decide ((j - 1)*b+r1+1<=path.getD t 0)))).length:Int):=fun j hj hne=>by
    obtain⟨a1,a2,a3,a4⟩:=jf hn (fun t=>decide ((j - 1)*b+r1+1<=path.getD t 0))
    generalize zr (T+1) (fun t=>decide ((j - 1)*b+r1+1<=path.getD t 0))=f at *
    have h1:=of_decide_eq_true (a4 #[0])
    have h2:=(hk (f - 1) #[0]).1
    rw [show f - 1+1=f by omega] at h2
    by_cases z:j<=((tk p f).length:Int)
    . exact z
    . have:=mulm ((tk p f).length:Int) (j - 1) #[0]
      omega
   refine⟨fun w hw=>?_,?_⟩
   . obtain⟨j,hj,rfl⟩:=hW.mem hw
     unfold okV;dsimp only
     by_cases hc:j<=((tk p T).length:Int)
     . rw [if_pos hc]
       have hlt:(j - 1).toNat<(tk p T).length:=#[0]
       have hg:(tk p T)[(j - 1).toNat]?=some (tk p T)[(j - 1).toNat]:=YaQ hlt;have hgd:(tk p T).getD (j - 1).toNat 0=(tk p T)[(j - 1).toNat]:=by rw [YaP,hg];rfl
       rw [hgd];generalize (tk p T)[(j - 1).toNat]=i at hg;obtain⟨a1,a2,a3⟩:=ZO p hg;have ej:(((j - 1).toNat:Nat):Int)+1=j:=#[0]
       refine⟨?_,fun x hx=>?_⟩
       . have:=op _ _ hg
         rw [ej] at this;rw [wo];omega
       . rw [wl] at hx
         split at hx
         . cases hx
         . rename_i hne
           have:=la j hj hne;cases hx;generalize zr (T+1) (fun t=>decide ((j - 1)*b+r1+1<=path.getD t 0))=f at *
           by_cases z:f<i+1
           . have:=zay p (show f<=i by omega)
             omega
           . omega
     . rw [if_neg hc,wl]
       split
       . rfl
       . rename_i hne
         have h1:=la j hj hne;obtain⟨_,a2,_,_⟩:=jf hn (fun t=>decide ((j - 1)*b+r1+1<=path.getD t 0))
         have:=zay p (show zr (T+1) (fun t=>decide ((j - 1)*b+r1+1<=path.getD t 0))<=T by omega)
         omega
   . refine hW.long fun x hx=>.inl ?_
     have hg:(tk p T)[x]?=some (tk p T)[x]:=YaQ hx;have h1:=op _ _ hg;have h2:=(ZO p hg).1;rw [wo,show(1:Int)+(x:Int)=(x:Int)+1 by omega]
     omega
 . rintro⟨hv,hm⟩ t ht
   have wat:∀ i:Nat,i<ws.length->okV (tk p T) (k,1+(i:Int),(winB b path (r1,r2) (1+(i:Int))).1,(winB b path (r1,r2) (1+(i:Int))).2):=fun i hi=>hv _ (Yah (hW.at hi))
   constructor
   . -- not too far behind
     by_cases z:-r1<=((tk p (t+1)).length:Int)*b - path.getD (t+1) 0
     . exact z
     . exfalso
       have hlate:∀ x:Nat,x<=(tk p (t+1)).length->zr (T+1) (fun s=>decide (((1+(x:Int)) - 1)*b+r1+1<=path.getD s 0))<=t+1:=fun x hx=>by
        refine zaV hn #[0] (decide_eq_true ?_)
        have:=mulm (1+(x:Int) - 1) ((tk p (t+1)).length:Int) #[0]
        omega
       have hlen:(tk p (t+1)).length+1<=ws.length:=hW.long fun x hx=>.inr (by
        rw [wl,if_neg (by have:=hlate x #[0];omega)];simp)
       have hok:=wat (tk p (t+1)).length #[0]
       have h1:=hlate (tk p (t+1)).length (YaY _);unfold okV at hok;dsimp only at hok
       by_cases hc:1+((tk p (t+1)).length:Int)<=((tk p T).length:Int)
       . rw [if_pos hc,wl,if_neg #[0]] at hok
         have h2:=hok.2 _ rfl;have e:(1+((tk p (t+1)).length:Int) - 1).toNat=(tk p (t+1)).length:=#[0]
         rw [e] at h2;have hlt:(tk p (t+1)).length<(tk p T).length:=#[0]
         have hg:(tk p T)[(tk p (t+1)).length]?=some (tk p T)[(tk p (t+1)).length]:=YaQ hlt;have hgd:(tk p T).getD (tk p (t+1)).length 0=(tk p T)[(tk p (t+1)).length]:=by rw [YaP,hg];rfl
         rw [hgd] at h2;generalize (tk p T)[(tk p (t+1)).length]=i at hg h2;obtain⟨a1,a2,a3⟩:=ZO p hg;have:=zay p (show i+1<=t+1 by omega)
         omega
       . rw [if_neg hc,wl,if_neg #[0]] at hok
         cases hok
   . -- not too far ahead
     by_cases hz:(tk p (t+1)).length=0
     . have:=mono 0 (t+1) #[0] #[0]
       rw [hz];have e:((0:Nat):Int)*b=0:=by simp
       omega
     . obtain⟨i,hi,hg⟩:=zjZ p (s:=t+1) (t:=T) (j:=(tk p (t+1)).length - 1) #[0] #[0]
       have hle:=zay p (show t+1<=T by omega)
       have hok:=wat ((tk p (t+1)).length - 1) #[0]
       unfold okV at hok;dsimp only at hok;rw [if_pos #[0]] at hok
       have e:(1+(((tk p (t+1)).length - 1:Nat):Int) - 1).toNat=(tk p (t+1)).length - 1:=#[0]
       have hgd:(tk p T).getD ((tk p (t+1)).length - 1) 0=i:=by rw [YaP,hg];rfl
       rw [e,hgd,wo] at hok;have e2:1+(((tk p (t+1)).length - 1:Nat):Int)=((tk p (t+1)).length:Int):=#[0]
       rw [e2] at hok;obtain⟨a1,a2,a3,a4⟩:=jf hn (fun s=>decide (((tk p (t+1)).length:Int)*b - r2<=path.getD s 0))
       have h1:=of_decide_eq_true (a4 #[0])
       have h2:=mono (zr (T+1) (fun s=>decide (((tk p (t+1)).length:Int)*b - r2<=path.getD s 0))) (t+1) #[0] #[0]
       omega
def moP(n:Nat)(p:List Int×List (List Int)):Prop:=p.1.length=n/\∀ k,(∀ i j,i<=j->j<p.2.length->(p.2.getD i []).getD k 0<=(p.2.getD j []).getD k 0)/\∀ i,i<p.2.length->(p.2.getD i []).getD k 0<=p.1.getD k 0
theorem znr{a sh:List Int}(hl:sh.length=a.length)(hs:∀ x∈sh,0<=x)(k:Nat):a.getD k 0<=(addL a sh).getD k 0:=by
 have hal:(addL a sh).length=a.length:=zat hl.symm
 by_cases hk:k<a.length
 . have hz:(a.zip sh)[k]?=some (a[k],sh[k]'(by omega)):=Waj.mpr ⟨YaQ hk,YaQ #[0]⟩
   have h1:(addL a sh).getD k 0=a[k]+sh[k]'(by omega):=by
    unfold addL;rw [YaP,Ya0,hz];rfl
   have h2:a.getD k 0=a[k]:=by rw [YaP,YaQ hk];rfl
   have h3:=hs _ (Ya4 (show k<sh.length by omega))
   rw [h1,h2];omega
 . have h1:a.getD k 0=0:=by rw [YaP,Wax #[0]];rfl
   have h2:(addL a sh).getD k 0=0:=by rw [YaP,Wax #[0]];rfl
   omega
theorem zno{α : Type}{l:List α}{x d:α}{i:Nat}:(l++[x]).getD i d=if i<l.length then l.getD i d else if i=l.length then x else d:=by
 rw [YaP,YaP]
 by_cases h:i<l.length
 . rw [if_pos h,Yab h]
 . rw [if_neg h,Yae #[0]]
   by_cases e:i=l.length
   . subst e;simp
   . rw [if_neg e,Wax #[6]];rfl
theorem zgX{n:Nat}{sh:List Int}(hl:sh.length=n)(hs:∀ x∈sh,0<=x){p:List Int×List (List Int)}(h:moP n p):moP n (zo sh p):=by
 have ha:=znr (a:=p.1) (by rw [hl,h.1]) hs
 refine⟨by show(addL p.1 sh).length=n;rw [zat (by rw [hl,h.1]),h.1],fun k=>?_⟩
 obtain⟨h1,h2⟩:=h.2 k;have hlen:(zo sh p).2.length=p.2.length+1:=by show(p.2++[_]).length=_;rw [YaS];rfl
 have hget:∀ i,i<=p.2.length->((zo sh p).2.getD i []).getD k 0=if i<p.2.length then(p.2.getD i []).getD k 0 else(addL p.1 sh).getD k 0:=fun i hi=>by
  show((p.2++[addL p.1 sh]).getD i []).getD k 0=_
  rw [zno]
  by_cases z:i<p.2.length
  . rw [if_pos z,if_pos z]
  . rw [if_neg z,if_neg z,if_pos #[0]]
 have hk:=ha k;refine⟨fun i j hij hj=>?_,fun i hi=>?_⟩
 . rw [hlen] at hj
   rw [hget i #[0],hget j #[0]]
   by_cases z:j<p.2.length
   . rw [if_pos z,if_pos #[0]];exact h1 i j hij z
   . rw [if_neg z]
     by_cases y:i<p.2.length
     . rw [if_pos y];have:=h2 i y;omega
     . rw [if_neg y];exact WbI _
 . rw [hlen] at hi
   rw [hget i #[0]]
   show _<=(addL p.1 sh).getD k 0
   by_cases y:i<p.2.length
   . rw [if_pos y];have:=h2 i y;omega
   . rw [if_neg y];exact WbI _
theorem zeg{n:Nat}{sh:List Int}(hl:sh.length=n)(hs:∀ x∈sh,0<=x):∀ (m:Nat) {p:List Int×List (List Int)},moP n p->moP n (rep (zo sh) m p)
 | 0,_,h=>h
 | m+1,_,h=>zeg hl hs m (zgX hl hs h)
theorem zfq{n:Nat}{b:Int}(hb:0<=b):∀ (l:List Spell) {p:List Int×List (List Int)},(∀ s∈l,okW s.2/\s.2.length=n)->moP n p->moP n (runQ b l p)
 | [],_,_,h=>h
 | s :: l, p, hl, h => zfq hb l (p := rep (zo (shares b s.2)) s.1.toNat p) (fun t ht => hl t (YaT _ ht)) (zeg (by rw [zbe]; exact (hl s YaV).2) (fun x hx => by
  unfold shares at hx;obtain⟨w,hw,rfl⟩:=Ya7.mp hx;have hok:=(hl s YaV).1;exact Wbi (YaK (hok.2.1 w hw).1 hb) (by have:=jk hok;omega)) _ h)
theorem zas(q:List (List Int))(k s:Nat):(zf q k).getD s 0=(q.getD s []).getD k 0:=by
 unfold zf;simp only [YaP,Ya0];cases q[s]? <;> simp
theorem zdm{l:List Spell}(h:okS l){b:Int}(hb:0<=b)(k s t:Nat)(hst:s<=t)(ht:t<(quoB b l).length):(zf (quoB b l) k).getD s 0<=(zf (quoB b l) k).getD t 0:=by
 have h0:∀ i,(([zeros l]:List (List Int)).getD i []).getD k 0=0:=fun i=>by
  cases i with
  | zero=>
   show(zeros l).getD k 0=0
   unfold zeros;rw [YaP,Yad]
   split<;>rfl
  | succ i=>simp
 have hm:=zfq hb l (n:=many l) (p:=(zeros l,[zeros l])) (fun s hs=>⟨(h.2.1 s hs).2.1,(h.2.1 s hs).2.2⟩) ⟨by unfold zeros;simp,fun k=>⟨fun i j _ hj=>?_,fun i hi=>?_⟩⟩
 . rw [zas,zas]
   exact(hm.2 k).1 s t hst ht
 . have e1:j=0:=by simpa using hj
   have e2:i=0:=#[0]
   subst e1 e2;exact WbI _
 . have e2:i=0:=by simpa using hi
   subst e2;exact WbI _
def posP(row:List Int)(c:Int)(i:Nat):Bool:=decide (row.getD i 0=c)
theorem zb2(b:Int){n c:Nat}(hc:c<n){row:List Int}(hr:∀ x∈row,0<=x/\x<(n:Int)):∀ t,t<=row.length->(hadN b n (row.take t)).getD c 0=((tk (posP row c) t).length:Int)*b:=by
 intro t
 induction t with
 | zero=>
  intro _;show(List.replicate n (0:Int)).getD c 0=_;rw [YaP,Yad,if_pos hc]
  simp [tk]
 | succ t ih=>
  intro ht;have hlt:t<row.length:=#[0]
  have hx:=hr row[t] (Ya4 hlt);have hp:posP row c t=decide (row[t]=(c:Int)):=by
   unfold posP;rw [YaP,YaQ hlt];rfl
  have ihh:=ih #[0]
  have hhl:=jV b n (row.take t);rw [Yav hlt,ZU,Jo,hp];unfold had1
  by_cases e:row[t]=(c:Int)
  . have e1:row[t].toNat=c:=#[0]
    rw [e1,decide_eq_true e,if_pos rfl,YaP,Yas #[0],YaS,List.length_singleton,Int.natCast_succ,WbH,WbK,<-ihh]
    rfl
  . have e1:row[t].toNat≠c:=#[0]
    rw [decide_eq_false e,YaP,Yac e1,<-YaP,ihh]
    simp
def posL(row:List Int)(c:Int):List Nat:=tk (posP row c) row.length
theorem IsW.cnt{n:Nat}{k:Int}{F:Int->Int×Option Int}{N:Int}:∀ {ws:List Win} {j:Int},IsW n k F j ws->(ws.filter fun w=>decide (w.2.1<=N)).length=min ws.length (N+1 - j).toNat
 | [],j,_=>by simp
 | v :: r, j, h => by
  have ih:=IsW.cnt (N:=N) h.2.2;have e:v.2.1=j:=by rw [h.2.1]
  rw [YaM,e]
  by_cases z:j<=N
  . rw [decide_eq_true z,if_pos rfl,List.length_cons,List.length_cons,ih];omega
  . rw [decide_eq_false z,if_neg #[1],ih,List.length_cons];omega
theorem za9{α : Type}[DecidableEq α]:∀ {L M:List α},L.Nodup->(∀ x∈L,x∈M)->L.length<=M.length
 | [],_,_,_=>WbG _
 | a :: L, M, nd, h => by
  have ha:=h a YaV;have:=za9 (L:=L) (M:=M.erase a) (YaB.mp nd).2 fun x hx=>by
   have hne:x≠a:=fun e=>(YaB.mp nd).1 (e ▸ hx)
   exact(List.mem_erase_of_ne hne).mpr (h x (YaT _ hx))
  rw [List.length_erase_of_mem ha] at this;have h1:0<M.length:=List.length_pos_of_mem ha;rw [List.length_cons];omega
def cnt(row:List Int)(c:Int):Int:=((row.filter fun x=>decide (x=c)).length:Int)
theorem zlC(c:Int):cnt [] c=0:=rfl
theorem zgj(r:List Int)(x c:Int):cnt (r++[x]) c=cnt r c+if x=c then 1 else 0:=by
 unfold cnt;rw [WaJ,YaS]
 by_cases e:x=c
 . simp [e]
 . simp [e]
theorem zhs(r s:List Int)(c:Int):cnt r c<=cnt (r++s) c:=by
 unfold cnt;rw [WaJ,YaS];omega
theorem zcz(r:List Int){i j:Nat}(h:i<=j)(c:Int):cnt (r.take i) c<=cnt (r.take j) c:=by
 have:r.take j=r.take i++(r.take j).drop i:=by
  have:=Way i (r.take j);rw [List.take_take,Nat.min_eq_left h] at this;exact this.symm
 rw [this];exact zhs _ _ _
theorem zg7{r:List Int}{k:Nat}(h:k<r.length):r.take (k+1)=r.take k++[r.getD k 0]:=by
 rw [WaS,YaQ h,YaP,YaQ h];rfl
theorem zbD{r:List Int}{k:Nat}(h:k<r.length)(c:Int):cnt (r.take (k+1)) c=cnt (r.take k) c+if r.getD k 0=c then 1 else 0:=by
 rw [zg7 h,zgj]
def keyR(row:List Int)(k:Nat):Int×Int:=(row.getD k 0,cnt (row.take (k+1)) (row.getD k 0))
def keyW(v:Win):Int×Int:=(v.1,v.2.1)
def zg3(t:Int):Option Int->Prop
 | none=>True
 | some x=>t<=x
def j9(V:List Win)(row:List Int):Prop:=
 (∀ k,k<row.length->∃ v∈V,keyW v=keyR row k/\v.2.2.1<=(k:Int)+1/\zg3 ((k:Int)+1) v.2.2.2)/\∀ v∈V,v.2.2.2≠none->v.2.1<=cnt row v.1
theorem zlr{row:List Int}{i j:Nat}(hj:j<row.length)(h:i<j):keyR row i≠keyR row j:=fun e=>by
 have e1:row.getD i 0=row.getD j 0:=congrArg Prod.fst e;have e2:cnt (row.take (i+1)) (row.getD i 0)=cnt (row.take (j+1)) (row.getD j 0):=congrArg Prod.snd e;rw [e1,zbD hj,if_pos rfl] at e2;have:=zcz row (show i+1<=j by omega) (row.getD j 0)
 omega
theorem zdM{row:List Int}{c:Int}:∀ (n:Nat),n<=row.length->∀ j:Int,1<=j->j<=cnt (row.take n) c->∃ k,k<n/\keyR row k=(c,j)
 | 0,_,j,h1,h2=>by rw [List.take_zero,zlC] at h2;omega
 | n + 1, hn, j, h1, h2 => by
  have hs:=zbD (r:=row) (k:=n) #[0] c
  by_cases hj:j<=cnt (row.take n) c
  . obtain⟨k,hk,e⟩:=zdM n #[0] j h1 hj
    exact⟨k,#[0],e⟩
  . by_cases hc:row.getD n 0=c
    . rw [if_pos hc] at hs
      refine⟨n,#[0],?_⟩
      unfold keyR;rw [hc,hs];have:j=cnt (row.take n) c+1:=#[0]
      rw [this]
    . rw [if_neg hc] at hs;omega
def kl(T:Int)(v:Win):Int:=v.2.2.2.getD (T+1)
structure OkVs(T:Int)(V:List Win):Prop where
 nd:(V.map keyW).Nodup
 one:∀ v∈V,1<=v.2.1/\1<=v.2.2.1
 pre:∀ v∈V,∀ i,1<=i->i<v.2.1->∃ u∈V,keyW u=(v.1,i)
 ord:∀ u∈V,∀ v∈V,u.1=v.1->u.2.1<v.2.1->u.2.2.1<=v.2.2.1/\kl T u<=kl T v
 top:∀ v∈V,∀ x,v.2.2.2=some x->x<=T
theorem zba{V:List Win}(nd:(V.map keyW).Nodup){u v:Win}(hu:u∈V)(hv:v∈V)(e:keyW u=keyW v):u=v:=by
 induction V with
 | nil=>cases hu
 | cons a r ih=>
  rw [Ya1,YaB] at nd
  rcases Wbo.mp hu with hu|hu<;>rcases Wbo.mp hv with hv|hv
  . rw [hu,hv]
  . exact absurd (Ya7.mpr ⟨v,hv,by rw [<-e,hu]⟩) nd.1
  . exact absurd (Ya7.mpr ⟨u,hu,by rw [e,hv]⟩) nd.1
  . exact ih nd.2 hu hv
theorem zlX{V:List Win}{t:Nat}(h:(V.filter fun v=>decide (v.2.2.1<=(t:Int))).length<t){row:List Int}(ht:t<=row.length)(hf:j9 V row):False:=by
 have nd:((List.range t).map (keyR row)).Nodup:=by
  rw [Wag,WaW];refine(List.pairwise_lt_range (n:=t)).imp_of_mem fun {a b} ha hb hab=>zlr ?_ hab
  have:=Yba.mp hb;omega
 have:=za9 (M:=(V.filter fun v=>decide (v.2.2.1<=(t:Int))).map keyW) nd fun x hx=>by
  obtain⟨k,hk,rfl⟩:=Ya7.mp hx;have hk:=Yba.mp hk;obtain⟨v,hv,e,h1,_⟩:=hf.1 k #[0]
  exact Ya7.mpr ⟨v,Ya9.mpr ⟨hv,decide_eq_true #[0]⟩,e⟩
 rw [YaR,YaR,YaG] at this
 omega
def zI(a b:Int)(v:Win):Bool:=match v.2.2.2 with
 | none=>false
 | some x=>decide (a<=v.2.2.1)&&decide (x<=b)
theorem zig{T:Int}{V:List Win}(ok:OkVs T V){a b:Int}(ha:1<=a)(h:max 0 (b - a+1)<((V.filter (zI a b)).length:Int)){row:List Int}(hf:j9 V row):False:=by
 have nd:((V.filter (zI a b)).map keyW).Nodup:=ok.nd.sublist (List.filter_sublist.map _);have:=za9 (M:=(List.range (b - a+1).toNat).map fun i=>keyR row (a.toNat - 1+i)) nd fun x hx=>by
  obtain⟨v,hv,rfl⟩:=Ya7.mp hx;obtain⟨hv,hc⟩:=Ya9.mp hv;unfold zI at hc;cases hl:v.2.2.2 with
  | none=>rw [hl] at hc;cases hc
  | some x=>
   rw [hl] at hc;simp only [Yak,decide_eq_true_eq] at hc;have h1:=hf.2 v hv (by rw [hl];nofun)
   obtain⟨k,hk,e⟩:=zdM (row:=row) (c:=v.1) row.length (YaY _) v.2.1 (ok.one v hv).1 (by rw [YaH];exact h1)
   obtain⟨u,hu,e2,o,l⟩:=hf.1 k hk;have:u=v:=zba ok.nd hu hv (e2.trans e);subst this;rw [hl] at l;have l:(k:Int)+1<=x:=l;exact Ya7.mpr ⟨k+1 - a.toNat,Yba.mpr #[0],by rw [show a.toNat - 1+(k+1 - a.toNat)=k by omega];exact e2.symm⟩
 rw [YaR,YaR,YaG] at this
 omega
def less(T:Int)(u v:Win):Prop:=kl T u<kl T v\/kl T u=kl T v/\(u.1<v.1\/u.1=v.1/\u.2.1<v.2.1)
structure Dealt(T:Int)(V wait given:List Win):Prop where
 perm:(given++wait).Perm V
 srt:wait.Pairwise (less T)
 got:∀ pre v post,given=pre++v::post->v.2.2.1<=(pre.length:Int)+1/\(pre.length:Int)+1<=kl T v/\∀ u∈post++wait,less T u v->(pre.length:Int)+1<u.2.2.1
def jA(w:List Win)(g:Int):Bool:=match w with
 | []=>false
 | v :: _ => match v.2.2.2 with
  | none=>false
  | some x=>decide (x<=g)
def z8(t:Int):List Win->Option Nat
 | []=>none
 | v::r=>if v.2.2.1<=t then some 0 else(z8 t r).map (· + 1)
theorem zdT{t:Int}:∀ {w:List Win},z8 t w=none->∀ v∈w,t<v.2.2.1
 | [],_,v,hv=>by cases hv
 | a :: r, h, v, hv => by
  unfold z8 at h
  split at h
  . cases h
  . rename_i hn
    rcases Wbo.mp hv with z|z
    . subst z;omega
    . exact zdT (Option.map_eq_none_iff.mp h) v z
theorem zfe{t:Int}:∀ {w:List Win} {p:Nat},z8 t w=some p->∃ pre v post,w=pre++v::post/\pre.length=p/\v.2.2.1<=t/\∀ u∈pre,t<u.2.2.1
 | [],p,h=>by cases h
 | a :: r, p, h => by
  unfold z8 at h
  split at h
  . rename_i hn
    cases h;exact⟨[],a,r,rfl,rfl,hn,fun u hu=>by cases hu⟩
  . rename_i hn
    obtain⟨q,hq,rfl⟩:=YaJ.mp h;obtain⟨pre,v,post,e,hl,ho,hu⟩:=zfe hq;exact⟨a::pre,v,post,by rw [e];rfl,by rw [List.length_cons,hl],ho,fun u h=>by
     rcases Wbo.mp h with z|z
     . subst z;omega
     . exact hu u z⟩
theorem zmO{T:Int}{u v:Win}(h:less T u v)(h':less T v u):False:=by
 unfold less at h h';omega
theorem zgJ{T:Int}{u v:Win}(h:less T u v):kl T u<=kl T v:=by
 unfold less at h;omega
theorem zdu{T g:Int}(hg:g<=T){w:List Win}(h:jA w g=false)(s:w.Pairwise (less T)):∀ v∈w,g+1<=kl T v:=by
 cases w with
 | nil=>intro v hv;cases hv
 | cons a r=>
  have ha:g+1<=kl T a:=by
   have h:(match a.2.2.2 with|none=>false|some x=>decide (x<=g))=false:=h
   unfold kl;cases e:a.2.2.2 with
   | none=>show g+1<=T+1;omega
   | some x=>
    rw [e] at h;have:=of_decide_eq_false h;show g+1<=x
    omega
  intro v hv
  rcases Wbo.mp hv with z|z
  . subst z;exact ha
  . have:=zgJ ((YaC.mp s).1 v z);omega
theorem Dealt.start{T:Int}{V w:List Win}(p:w.Perm V)(s:w.Pairwise (less T)):Dealt T V w []:=⟨p,s,fun pre v post e=>by cases pre<;>cases e⟩
theorem Dealt.step{T:Int}{V wait given:List Win}(d:Dealt T V wait given)(hg:(given.length:Int)<=T)(hl:jA wait given.length=false){p:Nat}(hp:z8 ((given.length:Int)+1) wait=some p) :
 ∃ v,wait[p]?=some v/\Dealt T V (wait.eraseIdx p) (given++[v]):=by
 obtain⟨pre,v,post,e,hlen,ho,hu⟩:=zfe hp;have hk:=zdu hg hl d.srt;subst e;subst hlen;have er:(pre++v::post).eraseIdx pre.length=pre++post:=by
  rw [List.eraseIdx_append_of_length_le (YaY _)];simp
 refine⟨v,by simp,?_⟩
 rw [er];have sp:=List.pairwise_append.mp d.srt;refine⟨?_,?_,?_⟩
 . refine List.Perm.trans ?_ d.perm
   rw [Yag];exact List.Perm.append_left _ (show(v::(pre++post)).Perm _ from List.perm_middle.symm)
 . exact d.srt.sublist (List.Sublist.append_left (List.sublist_cons_self _ _) _)
 . intro pre' x post' ee
   rcases Waz post' with z|⟨q,y,z⟩
   . subst z
     have e1:=List.append_inj' ee rfl;obtain⟨e1,e2⟩:=e1;cases e2;subst e1;refine⟨#[0],hk v (by simp),fun u hm hlt=>?_⟩
     rw [List.nil_append] at hm
     rcases Ya3.mp hm with z|z
     . exact hu u z
     . exact absurd ((YaC.mp sp.2.1).1 u z) fun q=>zmO hlt q
   . rw [WaA] at z
     subst z;have e0:given++[v]=(pre'++x::q)++[y]:=by rw [ee];simp
     obtain⟨e1,e2⟩:=List.append_inj' e0 rfl;cases e2;obtain⟨a1,a2,a3⟩:=d.got pre' x q e1;refine⟨a1,a2,fun u hm hlt=>a3 u ?_ hlt⟩
     simp only [Ya3,Wbo,List.not_mem_nil,or_false] at hm ⊢
     rcases hm with (z|z)|z|z
     . exact .inl z
     . exact .inr (.inr (.inl z))
     . exact .inr (.inl z)
     . exact .inr (.inr (.inr z))
theorem Dealt.mem{T:Int}{V wait given:List Win}(d:Dealt T V wait given){v:Win}:v∈V↔v∈given\/v∈wait:=by
 rw [<-d.perm.mem_iff,Ya3]
theorem Dealt.lack{T:Int}{V wait given:List Win}(d:Dealt T V wait given)(hp:z8 ((given.length:Int)+1) wait=none):(V.filter fun v=>decide (v.2.2.1<=((given.length+1:Nat):Int))).length<given.length+1:=by
 have hn:=zdT hp;have h1:=(d.perm.filter fun v=>decide (v.2.2.1<=((given.length+1:Nat):Int))).length_eq
 rw [<-h1,WaJ,YaS];have h2:(wait.filter fun v=>decide (v.2.2.1<=((given.length+1:Nat):Int)))=[]:=List.filter_eq_nil_iff.mpr fun v hv=>by
  have:=hn v hv;simp only [decide_eq_true_eq];omega
 rw [h2];have:=List.length_filter_le (fun v:Win=>decide (v.2.2.1<=((given.length+1:Nat):Int))) given
 simp only [List.length_nil];omega
def zK(b:Int):List Win->Int->Int->Int
 | [],_,a=>a
 | v::r,t,a=>zK b r (t+1) (match v.2.2.2 with|none=>t+1|some x=>if b<x then t+1 else a)
def outW(b:Int)(v:Win):Bool:=match v.2.2.2 with
 | none=>true
 | some x=>decide (b<x)
theorem zf7(b:Int)(v:Win)(r:List Win)(t a:Int):zK b (v::r) t a=zK b r (t+1) (if outW b v=true then t+1 else a):=by
 show zK b r (t+1) _=_
 congr 1
 unfold outW;cases v.2.2.2 with
 | none=>rfl
 | some x=>simp
theorem zcC(b:Int):∀ (r:List Win) (t a:Int),(zK b r t a=a/\∀ v∈r,outW b v=false)\/∃ pre v post,r=pre++v::post/\outW b v=true/\(∀ u∈post,outW b u=false)/\zK b r t a=t+pre.length+1
 | [],t,a=>.inl ⟨rfl,fun v h=>by cases h⟩
 | v :: r, t, a => by
  rw [zf7]
  rcases zcC b r (t+1) (if outW b v=true then t+1 else a) with ⟨h1,h2⟩|⟨pre,u,post,e,h1,h2,h3⟩
  . by_cases hv:outW b v=true
    . rw [if_pos hv] at h1 ⊢
      exact .inr ⟨[],v,r,rfl,hv,h2,by rw [h1];simp⟩
    . rw [if_neg hv] at h1 ⊢
      exact .inl ⟨h1,fun u hu=>by
       rcases Wbo.mp hu with z|z
       . subst z;simpa using hv
       . exact h2 u z⟩
  . exact .inr ⟨v::pre,u,post,by rw [e];rfl,h1,h2,by rw [h3,List.length_cons];omega⟩
theorem zhT{T b:Int}(hb:b<=T){v:Win}(h:outW b v=true):b<kl T v:=by
 unfold outW at h;unfold kl;cases e:v.2.2.2 with
 | none=>show b<T+1;omega
 | some x=>rw [e] at h;exact of_decide_eq_true h
theorem zb9{T b:Int}{v:Win}(h:outW b v=false):∃ x,v.2.2.2=some x/\x<=b/\kl T v=x:=by
 unfold outW at h;unfold kl;cases e:v.2.2.2 with
 | none=>rw [e] at h;cases h
 | some x=>rw [e] at h;have:=of_decide_eq_false h;exact⟨x,rfl,#[0],rfl⟩
theorem zaS{a b:Int}{v:Win}(h:outW b v=false)(ho:a<=v.2.2.1):zI a b v=true:=by
 obtain⟨x,e,hx,_⟩:=zb9 (T:=0) h;unfold zI;rw [e]
 simp [ho,hx]
theorem Dealt.crowd{T:Int}{V wait given:List Win}(ok:OkVs T V)(d:Dealt T V wait given)(hg:(given.length:Int)<=T)(hl:jA wait given.length=true) :
 1<=zK given.length given 1 1/\max 0 ((given.length:Int) - zK given.length given 1 1+1)<((V.filter (zI (zK given.length given 1 1) given.length)).length:Int):=by
 cases wait with
 | nil=>cases hl
 | cons w0 wr=>
  have hw:outW given.length w0=false:=by
   have hl:(match w0.2.2.2 with|none=>false|some x=>decide (x<=(given.length:Int)))=true:=hl
   unfold outW;cases e:w0.2.2.2 with
   | none=>rw [e] at hl;cases hl
   | some x=>rw [e] at hl;have:=of_decide_eq_true hl;exact decide_eq_false #[0]
  have hw0:w0∈V:=d.mem.mpr (.inr YaV);obtain⟨wx,_,hwx,hwk⟩:=zb9 (T:=T) hw;have count:∀ (pre post:List Win),given=pre++post->(∀ u∈post,zI (zK given.length given 1 1) given.length u=true)->zI (zK given.length given 1 1) given.length w0=true->post.length+1<=(V.filter (zI (zK given.length given 1 1) given.length)).length:=fun pre post e hp hw=>by
   have h1:=(d.perm.filter (zI (zK given.length given 1 1) given.length)).length_eq;rw [<-h1,WaJ,YaS];have h2:post.length<=(given.filter (zI (zK given.length given 1 1) given.length)).length:=by
    rw [show given.filter (zI (zK given.length given 1 1) given.length)=(pre.filter (zI (zK given.length given 1 1) given.length))++post.filter (zI (zK given.length given 1 1) given.length) by rw [<-WaJ,<-e]]
    rw [YaS,List.filter_eq_self.mpr hp];omega
   rw [YaM,if_pos hw,List.length_cons];omega
  rcases zcC given.length given 1 1 with ⟨h1,h2⟩|⟨pre,v,post,e,h1,h2,h3⟩
  . have:=count [] given rfl (fun u hu=>zaS (h2 u hu) (by rw [h1];exact(ok.one u (d.mem.mpr (.inl hu))).2)) (zaS hw (by rw [h1];exact(ok.one w0 hw0).2))
    rw [h1];rw [h1] at this;exact⟨WbI _,#[0]⟩
  . have hv:=zhT hg h1
    obtain⟨g1,g2,g3⟩:=d.got pre v post e;have op:∀ u∈post++w0::wr,outW given.length u=false->zK given.length given 1 1<=u.2.2.1:=fun u hu ho=>by
     obtain⟨x,_,hx,hk⟩:=zb9 (T:=T) ho;have:=g3 u hu (.inl #[0])
     rw [h3];omega
    have:=count (pre++[v]) post (by rw [e];simp) (fun u hu=>zaS (h2 u hu) (op u (Yai _ hu) (h2 u hu))) (zaS hw (op w0 (by simp) hw))
    have hlen:given.length=pre.length+1+post.length:=by rw [e,YaS,List.length_cons];omega
    refine⟨by rw [h3];omega,?_⟩
    rw [h3] at this ⊢
    omega
theorem Dealt.order{T:Int}{V wait given:List Win}(ok:OkVs T V)(d:Dealt T V wait given):∀ (pre post:List Win),given=pre++post->∀ c:Int,(pre.filter fun v=>decide (v.1=c)).map (·.2.1)=(List.range (pre.filter fun v=>decide (v.1=c)).length).map fun i:Nat=>(i:Int)+1:=by
 have ndV:V.Nodup:=List.Pairwise.of_map keyW (fun a b h e=>h (by rw [e])) ok.nd
 have nd:(given++wait).Nodup:=d.perm.nodup_iff.mpr ndV;intro pre
 induction hn:pre.length generalizing pre with
 | zero=>intro post e c;cases Wap.mp hn;rfl
 | succ n ih=>
  intro post e c
  rcases Waz pre with z|⟨q,v,z⟩
  . subst z;cases hn
  . rw [WaA] at z
    subst z;rw [YaS] at hn;have hq:=ih q (by simpa using hn) ([v]++post) (by rw [e];simp) c
    rw [WaJ]
    by_cases hc:v.1=c
    . have hf:[v].filter (fun v=>decide (v.1=c))=[v]:=by simp [hc]
      rw [hf,Ya2,hq,YaS,List.length_singleton,Wbg,Ya2]
      congr 1
      show [v.2.1]=[_]
      congr 1
      have e':given=q++v::post:=by rw [e];simp
      obtain⟨g1,g2,g3⟩:=d.got q v post e';have hv:v∈V:=d.mem.mpr (.inl (by rw [e'];simp))
      have mq:∀ i:Int,1<=i->i<v.2.1->i∈(q.filter fun v=>decide (v.1=c)).map (·.2.1):=fun i h1 h2=>by
       obtain⟨u,hu,ku⟩:=ok.pre v hv i h1 h2;have u1:u.1=v.1:=congrArg (fun p:Int×Int=>p.1) ku
       have u2:u.2.1=i:=congrArg (fun p:Int×Int=>p.2) ku
       have om:=ok.ord u hu v hv u1 #[0]
       have hin:u∈q:=by
        have:u∈given\/u∈wait:=d.mem.mp hu;rw [e'] at this;simp only [Ya3,Wbo] at this
        rcases this with (z|z|z)|z
        . exact z
        . rw [z] at u2;omega
        . have:=g3 u (Yai _ z) (by unfold less;omega);omega
        . have:=g3 u (Yaa _ z) (by unfold less;omega);omega
       exact Ya7.mpr ⟨u,Ya9.mpr ⟨hin,decide_eq_true #[0]⟩,u2⟩
      have nq:v.2.1∉(q.filter fun v=>decide (v.1=c)).map (·.2.1):=fun h=>by
       obtain⟨u,hu,ku⟩:=Ya7.mp h;obtain⟨hu,hc'⟩:=Ya9.mp hu;have hc':=of_decide_eq_true hc';have:u=v:=zba ok.nd (d.mem.mpr (.inl (by rw [e'];simp [hu]))) hv (by unfold keyW;rw [hc',hc];congr 1)
       subst this;rw [e'] at nd;have:=(WaQ.mp (WaQ.mp nd).1).2.2 u hu u YaV;exact this rfl
      rw [hq] at mq nq;generalize (q.filter fun v=>decide (v.1=c)).length=m at mq nq ⊢
      show v.2.1=(m:Int)+1
      have h1:=(ok.one v hv).1
      by_cases z1:v.2.1<(m:Int)+1
      . exact absurd (Ya7.mpr ⟨(v.2.1 - 1).toNat,Yba.mpr #[0],#[0]⟩) nq
      . by_cases z2:(m:Int)+1<v.2.1
        . obtain⟨x,hx,ex⟩:=Ya7.mp (mq ((m:Int)+1) #[0] z2)
          have:=Yba.mp hx
          omega
        . omega
    . have hf:[v].filter (fun v=>decide (v.1=c))=[]:=by simp [hc]
      rw [hf,Yao];exact hq
theorem zm9(l:List Win)(c:Int):cnt (l.map (·.1)) c=((l.filter fun v=>decide (v.1=c)).length:Int):=by
 unfold cnt;rw [List.filter_map,YaR];rfl
theorem Dealt.key{T:Int}{V wait given:List Win}(ok:OkVs T V)(d:Dealt T V wait given){pre post:List Win}{v:Win}(e:given=pre++v::post):keyW v=keyR (given.map (·.1)) pre.length:=by
 have h:=d.order ok (pre++[v]) post (by rw [e];simp) v.1
 have g1:(given.map (·.1)).getD pre.length 0=v.1:=by rw [e];simp
 have g2:(given.map (·.1)).take (pre.length+1)=(pre++[v]).map (·.1):=by rw [e,Ya2,Ya1,List.take_append,YaR,Was (by rw [YaR];omega)];simp
 unfold keyR keyW;rw [g1,g2,zm9]
 congr 1
 rw [WaJ,show [v].filter (fun w=>decide (w.1=v.1))=[v] by simp] at h ⊢
 rw [Ya2,YaS,List.length_singleton,Wbg,Ya2] at h;have:=(List.append_inj' h rfl).2
 simp at this
 rw [YaS,List.length_singleton,this];rfl
theorem Dealt.row{T:Int}{V wait given:List Win}(ok:OkVs T V)(d:Dealt T V wait given)(hg:(given.length:Int)=T)(hl:jA wait given.length=false):j9 V (given.map (·.1)):=by
 have split:∀ k,k<given.length->∃ pre v post,given=pre++v::post/\pre.length=k:=fun k hk=>⟨given.take k,given[k],given.drop (k+1),by rw [Wau,Way],by rw [Wa5];omega⟩
 constructor
 . intro k hk
   rw [YaR] at hk;obtain⟨pre,v,post,e,rfl⟩:=split k hk;obtain⟨g1,g2,g3⟩:=d.got pre v post e;refine⟨v,d.mem.mpr (.inl (by rw [e];simp)),d.key ok e,g1,?_⟩
   unfold kl at g2;cases el:v.2.2.2 with
   | none=>trivial
   | some x=>rw [el] at g2;exact g2
 . intro v hv hne
   rcases d.mem.mp hv with z|z
   . obtain⟨k,hk,ek⟩:=Yam z
     obtain⟨pre,u,post,e,hp⟩:=split k hk;have:u=v:=by rw [<-ek];subst hp;simp [e]
     subst this;have:=d.key ok e;have h2:u.2.1=cnt ((given.map (·.1)).take (pre.length+1)) ((given.map (·.1)).getD pre.length 0):=congrArg Prod.snd this;have h1:u.1=(given.map (·.1)).getD pre.length 0:=congrArg Prod.fst this;rw [<-h1] at h2;rw [h2];have:=zcz (given.map (·.1)) (i:=pre.length+1) (j:=(given.map (·.1)).length) (by rw [YaR,e,YaS,List.length_cons];omega) u.1
     rwa [YaH] at this
   . have:=zdu (T:=T) #[0] hl d.srt v z
     cases el:v.2.2.2 with
     | none=>exact absurd el hne
     | some x=>
      have h2:=ok.top v hv x el;unfold kl at this;rw [el] at this;have:(given.length:Int)+1<=x:=this
      omega
theorem atI2{α : Type}{x y z:α}{xs:List α}:atI (x::y::z::xs) 2=some z:=JQ (j:=2) rfl
theorem atI3{α : Type}{x y z w:α}{xs:List α}:atI (x::y::z::w::xs) 3=some w:=JQ (j:=3) rfl
def keyD(T:Int):D->K3
 | .tuple [.int c,.int j,_,.none]=>(T+1,c,j)
 | .tuple [.int c,.int j,_,.int l]=>(l,c,j)
 | _=>(0,0,0)
theorem zaG(T:Int)(v:Win):keyD T (dW v)=(kl T v,v.1,v.2.1):=by
 obtain⟨c,j,o,l⟩:=v;cases l<;>rfl
theorem zjK(T:Int)(u v:Win):lex3 (keyD T (dW u)) (keyD T (dW v))=true↔less T u v:=by
 rw [zaG,zaG];unfold lex3 less;rw [decide_eq_true_eq]
theorem zhU{α β : Type}{f:α->β}{l l':List β}(h:l.Perm l'):∀ V:List α,l'=V.map f->∃ V':List α,V'.Perm V/\l=V'.map f:=by
 induction h with
 | nil => intro V e; cases V with
  | nil=>exact⟨[],.nil,rfl⟩
  | cons _ _=>cases e
 | cons x _ ih=>
  intro V e;cases V with
  | nil=>cases e
  | cons v V=>
   rw [Ya1] at e;obtain⟨e1,e2⟩:=List.cons.inj e;obtain⟨V',p,e3⟩:=ih V e2;exact⟨v::V',p.cons v,by rw [Ya1,e1,e3]⟩
 | swap x y l=>
  intro V e
  match V,e with
  | v::u::V,e=>
   rw [Ya1,Ya1] at e;obtain⟨e1,e2⟩:=List.cons.inj e;obtain⟨e2,e3⟩:=List.cons.inj e2;exact⟨u::v::V,.swap _ _ _,by rw [Ya1,Ya1,e1,e2,e3]⟩
 | trans _ _ ih1 ih2=>
  intro V e;obtain⟨V1,p1,e1⟩:=ih2 V e;obtain⟨V2,p2,e2⟩:=ih1 V1 e1;exact⟨V2,p2.trans p1,e2⟩
theorem zkd{T:Int}{V:List Win}(nd:(V.map keyW).Nodup):((V.map dW).map (keyD T)).Nodup:=by
 rw [YaD,Wag,WaW];rw [Wag,WaW] at nd;refine nd.imp fun {a b} h e=>h ?_
 have e:keyD T (dW a)=keyD T (dW b):=e;rw [zaG,zaG] at e;have e2:=congrArg Prod.snd e;exact e2
theorem zew{α β : Type}(f:α->β):∀ (l:List α) (i:Nat),(l.map f).eraseIdx i=(l.eraseIdx i).map f
 | [],_=>rfl
 | _::_,0=>rfl
 | _::l,i+1=>by rw [Ya1,List.eraseIdx_cons_succ,List.eraseIdx_cons_succ,Ya1,zew f l i]
def za2(T:Int)(V:List Win)(row:List Int):Prop:=∃ wait given,Dealt T V wait given/\(given.length:Int)=T/\row=given.map (·.1)
theorem zc5{T:Int}{V w1 g1 w2 g2:List Win}(nd:(V.map keyW).Nodup)(d1:Dealt T V w1 g1)(d2:Dealt T V w2 g2):∀ (pre p1 p2:List Win),g1=pre++p1->g2=pre++p2->p1.length=p2.length->p1=p2
 | _,[],[],_,_,_=>rfl
 | _,[],_::_,_,_,h=>by cases h
 | _,_::_,[],_,_,h=>by cases h
 | pre, v :: p1, u :: p2, e1, e2, h => by
  have nV:V.Nodup:=(Wag.mpr (((WaW.mp (Wag.mp nd))).imp fun {a b} h e=>h (by rw [e])))
  have n1:(pre++v::p1++w1).Nodup:=by rw [<-e1];exact d1.perm.nodup_iff.mpr nV
  have n2:(pre++u::p2++w2).Nodup:=by rw [<-e2];exact d2.perm.nodup_iff.mpr nV
  have hv:v∈V:=d1.perm.mem_iff.mp (by rw [e1];simp)
  have hu:u∈V:=d2.perm.mem_iff.mp (by rw [e2];simp)
  have m1:u∈pre++v::p1++w1:=by rw [<-e1];exact d1.perm.mem_iff.mpr hu
  have m2:v∈pre++u::p2++w2:=by rw [<-e2];exact d2.perm.mem_iff.mpr hv
  have x1:v∉pre:=fun z=>by
   rw [Yag,WaQ] at n1;exact n1.2.2 v z v (by simp) rfl
  have x2:u∉pre:=fun z=>by
   rw [Yag,WaQ] at n2;exact n2.2.2 u z u (by simp) rfl
  obtain⟨a1,_,a3⟩:=d1.got pre v p1 e1;obtain⟨b1,_,b3⟩:=d2.got pre u p2 e2;have huv:v=u:=by
   have c1:u=v\/u∈p1++w1:=by
    simp only [Ya3,Wbo] at m1 ⊢
    rcases m1 with (z|z|z)|z
    . exact absurd z x2
    . exact .inl z
    . exact .inr (.inl z)
    . exact .inr (.inr z)
   have c2:v=u\/v∈p2++w2:=by
    simp only [Ya3,Wbo] at m2 ⊢
    rcases m2 with (z|z|z)|z
    . exact absurd z x1
    . exact .inl z
    . exact .inr (.inl z)
    . exact .inr (.inr z)
   rcases c1 with z|z
   . exact z.symm
   rcases c2 with y|y
   . exact y
   have l1:¬less T u v:=fun l=>by have:=a3 u z l;omega
   have l2:¬less T v u:=fun l=>by have:=b3 v y l;omega
   refine zba nd hv hu ?_
   unfold less at l1 l2;unfold keyW;rw [show v.1=u.1 by omega,show v.2.1=u.2.1 by omega]
  subst huv;rw [zc5 nd d1 d2 (pre++[v]) p1 p2 (by simpa using e1) (by simpa using e2) (by simpa using h)]
theorem za2.one{T:Int}{V:List Win}{r s:List Int}(nd:(V.map keyW).Nodup)(h:za2 T V r)(h':za2 T V s):r=s:=by
 obtain⟨w1,g1,d1,l1,rfl⟩:=h;obtain⟨w2,g2,d2,l2,rfl⟩:=h';rw [zc5 nd d1 d2 [] g1 g2 rfl rfl #[0]]
def zax(T:Int)(V:List Win)(d:D):Prop:=∃ t:Nat,1<=t/\(t:Int)<=T/\(V.filter fun v=>decide (v.2.2.1<=(t:Int))).length<t/\d=.tuple [.str "lack", .int t]
def zag(V:List Win)(d:D):Prop:=∃ a b:Int,1<=a/\0<=b/\max 0 (b - a+1)<((V.filter (zI a b)).length:Int)/\d=.tuple [.str "crowd", .int a,.int b]
def rowP(T:Int)(V:List Win)(d:D):Prop:=∃ row:List Int,(row.length:Int)=T/\j9 V row/\za2 T V row/\d=.tuple [.str "row", dI row]
theorem zc7{t:Int}:∀ {w:List Win} {k:Nat} (hk:k<w.length),(∀ i (hi:i<w.length),i<k->t<w[i].2.2.1)->w[k].2.2.1<=t->z8 t w=some k
 | [],k,hk,_,_=>by simp at hk
 | v :: r, 0, _, _, h => by
  have h:v.2.2.1<=t:=h;unfold z8;rw [if_pos h]
 | v :: r, k + 1, hk, hb, h => by
  have h0:=hb 0 (by simp) #[0]
  have h0:t<v.2.2.1:=h0;unfold z8;rw [if_neg #[0],zc7 (k:=k) (by simpa using hk) (fun i hi hik=>by have:=hb (i+1) (by simpa using hi) #[0];simpa using this) (by simpa using h)]
  rfl
theorem zdK{t:Int}:∀ {w:List Win},(∀ i (hi:i<w.length),t<w[i].2.2.1)->z8 t w=none
 | [],_=>rfl
 | v :: r, hb => by
  have h0:=hb 0 (by simp)
  have h0:t<v.2.2.1:=h0;unfold z8;rw [if_neg #[0],zdK (fun i hi=>by have:=hb (i+1) (by simpa using hi);simpa using this)]
  rfl
theorem OkVs.nil(T:Int):OkVs T []:=⟨List.nodup_nil,fun v h=>(by cases h),fun v h=>(by cases h),fun v h=>(by cases h),fun v h=>(by cases h)⟩
theorem zgK{T:Int}{u v w:Win}(h:less T u v)(h':less T v w):less T u w:=by
 unfold less at *;omega
def IsWs(l:List Spell)(bs:List (Rat2×Rat2))(W:List (List Win)):Prop:=W.length=many l/\∀ k,k<many l->IsW (quo l).length k (winB (bot l) (zf (quo l) k) ((zw (bot l) bs).getD k (0,0))) 1 (W.getD k [])
theorem ze7{n:Nat}(hn:1<=n){p q:Nat->Bool}(h:∀ t,q t=true->p t=true):zr n p<=zr n q:=by
 obtain⟨a1,a2,_,a4⟩:=jf hn q
 by_cases z:zr n q<n
 . exact zaV hn a1 (h _ (a4 z))
 . obtain⟨_,b2,_,_⟩:=jf hn p
   omega
theorem zbN{b:Int}{path:List Int}{room:Int×Int}{j:Int}{T:Nat}(hl:path.length=T+1):(winB b path room j).2.getD ((T:Int)+1)=((zr (T+1) (fun t=>decide ((j - 1)*b+room.1+1<=path.getD t 0)):Nat):Int):=by
 unfold winB winP;rw [hl];dsimp only
 split
 . rename_i h;rw [h];simp
 . rfl
theorem IsWs.get{l:List Spell}{bs:List (Rat2×Rat2)}{W:List (List Win)}(h:IsWs l bs W){w:Win}(hw:w∈W.flatten):∃ k,k<many l/\∃ i:Nat,i<(W.getD k []).length/\w=((k:Int),1+(i:Int),(winB (bot l) (zf (quo l) k) ((zw (bot l) bs).getD k (0,0)) (1+(i:Int))).1,(winB (bot l) (zf (quo l) k) ((zw (bot l) bs).getD k (0,0)) (1+(i:Int))).2):=by
 obtain⟨k,hk,hw⟩:=zgN hw;rw [h.1] at hk;obtain⟨i,hi,e⟩:=Yam hw;have:=(h.2 k hk).at hi;rw [YaQ hi,e] at this;exact⟨k,hk,i,hi,Wbe this⟩
theorem IsWs.has{l:List Spell}{bs:List (Rat2×Rat2)}{W:List (List Win)}(h:IsWs l bs W){k i:Nat}(hk:k<many l)(hi:i<(W.getD k []).length):((k:Int),1+(i:Int),(winB (bot l) (zf (quo l) k) ((zw (bot l) bs).getD k (0,0)) (1+(i:Int))).1,(winB (bot l) (zf (quo l) k) ((zw (bot l) bs).getD k (0,0)) (1+(i:Int))).2)∈W.flatten:=
 zfF (by rw [h.1];exact hk) (Yah ((h.2 k hk).at hi))
theorem IsWs.uniq{l:List Spell}{bs:List (Rat2×Rat2)}{W W':List (List Win)}(h:IsWs l bs W)(h':IsWs l bs W'):W=W':=by
 refine List.ext_getElem (by rw [h.1,h'.1]) fun k h1 h2=>?_
 have hk:k<many l:=by rw [<-h.1];exact h1
 have:=IsW.uniq #[4] (h.2 k hk) (h'.2 k hk)
 rw [YaP,YaP,YaQ h1,YaQ h2] at this;exact this
theorem za6{l:List Spell}(hok:okS l){bs:List (Rat2×Rat2)}{W:List (List Win)}(h:IsWs l bs W):OkVs (tot l) W.flatten:=by
 have hql:=jF hok;have htn:=zZ fun s hs=>(hok.2.1 s hs).1
 have hbp:=z6 hok;obtain⟨T,hT⟩:∃ T:Nat,tot l=(T:Int):=⟨(tot l).toNat,#[0]⟩
 have hpl:∀ k,(zf (quo l) k).length=T+1:=fun k=>by unfold zf;rw [YaR];omega
 have hn:1<=T+1:=#[0]
 refine⟨?_,fun v hv=>?_,fun v hv i h1 h2=>?_,fun u hu v hv e hlt=>?_,fun v hv x hx=>?_⟩
 . rw [Wag,WaW,List.pairwise_flatten]
   refine⟨fun ws hws=>?_,?_⟩
   . obtain⟨k,hk,e⟩:=Yam hws
     have hk':k<many l:=by rw [<-h.1];exact hk
     have hIs:=h.2 k hk';have e2:W.getD k []=ws:=by rw [YaP,YaQ hk];exact e
     rw [e2] at hIs;rw [Wai];intro i j hi hj hij z;have a1:=hIs.at hi;have a2:=hIs.at hj;rw [YaQ hi] at a1;rw [YaQ hj] at a2;rw [Wbe a1,Wbe a2] at z;have z2:=congrArg Prod.snd z;have z2:(1+(i:Int))=1+(j:Int):=z2
     omega
   . rw [Wai]
     intro i j hi hj hij x hx y hy z;have m:∀ (k:Nat) (hk:k<W.length) (x:Win),x∈W[k]->x.1=(k:Int):=fun k hk x hx=>by
      have e2:W.getD k []=W[k]:=by rw [YaP,YaQ hk];rfl
      obtain⟨j,_,rfl⟩:=(h.2 k (by rw [<-h.1];exact hk)).mem (by rw [e2];exact hx)
      rfl
     have z1:x.1=y.1:=congrArg (fun p:Int×Int=>p.1) z
     rw [m i hi x hx,m j hj y hy] at z1
     omega
 . obtain⟨k,hk,i,hi,rfl⟩:=h.get hv
   refine⟨by show 1<=1+(i:Int);omega,?_⟩
   show 1<=(winB _ _ _ _).1
   unfold winB winP;have:=(jf (n:=(zf (quo l) k).length) (by rw [hpl];omega) fun t=>decide ((1+(i:Int))*bot l - ((zw (bot l) bs).getD k (0,0)).2<=(zf (quo l) k).getD t 0)).1
   dsimp only
   omega
 . obtain⟨k,hk,m,hm,rfl⟩:=h.get hv
   have h2:i<1+(m:Int):=h2;refine⟨_,h.has hk (i:=(i - 1).toNat) #[0],?_⟩
   show((k:Int),1+(((i - 1).toNat:Nat):Int))=((k:Int),i)
   rw [show 1+(((i - 1).toNat:Nat):Int)=i by omega]
 . obtain⟨k,hk,m,hm,rfl⟩:=h.get hu
   obtain⟨k',hk',m',hm',rfl⟩:=h.get hv;have e:(k:Int)=(k':Int):=e;obtain rfl:k=k':=#[0]
   have hlt:1+(m:Int)<1+(m':Int):=hlt;have mulm:∀ x y:Int,x<=y->x*bot l<=y*bot l:=fun x y h=>Ybe h #[0]
   refine⟨?_,?_⟩
   . show(winB _ _ _ _).1<=(winB _ _ _ _).1
     unfold winB winP;dsimp only;have:=ze7 (n:=(zf (quo l) k).length) (by rw [hpl];omega) (p:=fun t=>decide ((1+(m:Int))*bot l - ((zw (bot l) bs).getD k (0,0)).2<=(zf (quo l) k).getD t 0)) (q:=fun t=>decide ((1+(m':Int))*bot l - ((zw (bot l) bs).getD k (0,0)).2<=(zf (quo l) k).getD t 0)) fun t ht=>by
      have ht:=of_decide_eq_true ht;have:=mulm (1+m) (1+m') #[0]
      exact decide_eq_true #[0]
     omega
   . show kl (tot l) (_,_,_,(winB _ _ _ _).2)<=kl (tot l) (_,_,_,(winB _ _ _ _).2)
     unfold kl;dsimp only;rw [hT,zbN (hpl k),zbN (hpl k)];have:=ze7 (n:=T+1) hn (p:=fun t=>decide ((1+(m:Int) - 1)*bot l+((zw (bot l) bs).getD k (0,0)).1+1<=(zf (quo l) k).getD t 0)) (q:=fun t=>decide ((1+(m':Int) - 1)*bot l+((zw (bot l) bs).getD k (0,0)).1+1<=(zf (quo l) k).getD t 0)) fun t ht=>by
      have ht:=of_decide_eq_true ht;have:=mulm (1+m - 1) (1+m' - 1) #[0]
      exact decide_eq_true #[0]
     omega
 . obtain⟨k,hk,i,hi,rfl⟩:=h.get hv
   have hx:(winB (bot l) (zf (quo l) k) ((zw (bot l) bs).getD k (0,0)) (1+(i:Int))).2=some x:=hx;have e:=zbN (b:=bot l) (room:=(zw (bot l) bs).getD k (0,0)) (j:=1+(i:Int)) (hpl k);rw [hx] at e;have e:x=_:=e;unfold winB winP at hx;rw [hpl] at hx;dsimp only at hx;have:=(jf hn fun t=>decide ((1+(i:Int) - 1)*bot l+((zw (bot l) bs).getD k (0,0)).1+1<=(zf (quo l) k).getD t 0)).2.1
   split at hx
   . cases hx
   . rename_i hne
     omega
theorem zfj{α : Type}{c:Nat}:∀ {L:List (List α)},(∀ l∈L,l.length<=c)->L.flatten.length<=L.length*c
 | [],_=>by simp
 | a :: r, h => by
  have:=zfj (L:=r) fun l hl=>h l (YaT _ hl)
  have:=h a YaV;rw [List.flatten_cons,YaS,List.length_cons,Nat.add_mul,Nat.one_mul]
  omega
theorem IsWs.small{l:List Spell}(hok:okS l){bs:List (Rat2×Rat2)}(hB:okB (many l) bs)(ho:∀ p∈bs,okQ p.1/\okQ p.2){W:List (List Win)}(h:IsWs l bs W):W.flatten.length<1000:=by
 have hql:=jF hok;have htn:=zZ fun s hs=>(hok.2.1 s hs).1
 have hbp:=z6 hok;have hm:=Zy hok;have key:∀ ws∈W,ws.length<=71:=fun ws hws=>by
  obtain⟨k,hk,e⟩:=Yam hws;have hk':k<many l:=by rw [<-h.1];exact hk
  have hIs:=h.2 k hk';have e2:W.getD k []=ws:=by rw [YaP,YaQ hk];exact e
  rw [e2] at hIs;have hkb:k<bs.length:=by rw [hB.1];exact hk'
  have er:(zw (bot l) bs).getD k (0,0)=(z9 (bot l) bs[k].1,z9 (bot l) bs[k].2):=by
   rw [YaP];unfold zw;rw [Ya0,YaQ hkb];rfl
  have z:=hB.2 bs[k] (Ya4 hkb);have y:=ho bs[k] (Ya4 hkb);have r1:0<=z9 (bot l) bs[k].1:=Wbi (YaK z.1.1 #[0]) (by have:=y.1.1;omega)
  have r2:0<=z9 (bot l) bs[k].2:=Wbi (YaK z.2.1 #[0]) (by have:=y.2.1;omega)
  have r3:z9 (bot l) bs[k].2<=10*bot l:=by
   refine Int.ediv_le_of_le_mul y.2.1 ?_
   have h1:bs[k].2.1*bot l<=10*bs[k].2.2*bot l:=Ybe z.2.2 #[0]
   have e1:10*bs[k].2.2*bot l=10*bot l*bs[k].2.2:=by ac_rfl
   omega
  have hp:∀ t,(zf (quo l) k).getD t 0+z9 (bot l) bs[k].2<=70*bot l:=fun t=>by
   have:(zf (quo l) k).getD t 0<=60*bot l:=by
    rw [YaP];cases ht:(zf (quo l) k)[t]? with
    | none=>show(0:Int)<=_;omega
    | some x=>
     show x<=_
     unfold zf at ht;rw [Ya0] at ht;obtain⟨r,hr,rfl⟩:=YaJ.mp ht;rw [YaP];cases hx:r[k]? with
     | none=>show(0:Int)<=_;omega
     | some x=>
      have h1:=zca hok hbp r (Yah hr) x (Yah hx);have h2:tot l*bot l<=60*bot l:=Ybe hok.2.2 #[0]
      show x<=_
      omega
   omega
  have hpl:(zf (quo l) k).length=(quo l).length:=by unfold zf;rw [YaR]
  rw [er] at hIs;have:=IsW.len (M:=71) (fun i hi=>zbZ (room:=(z9 (bot l) bs[k].1,z9 (bot l) bs[k].2)) hbp (by rw [hpl];omega) hp r2 r1 i (by rw [hpl];exact hi)) hIs #[1]
  omega
 have:=zfj key;have h2:W.length*71<=8*71:=Nat.mul_le_mul_right _ (by rw [h.1];exact hm.2)
 omega
theorem znL{l:List Spell}(hok:okS l){bs:List (Rat2×Rat2)}(hB:okB (many l) bs)(ho:∀ p∈bs,okQ p.1/\okQ p.2){row:List Int}(hrow:jR (many l) (tot l).toNat row){W:List (List Win)}(hW1:W.length=many l)(hW2:∀ k,k<many l->IsW (quo l).length k (winB (bot l) (zf (quo l) k) ((zw (bot l) bs).getD k (0,0))) 1 (W.getD k [])) :
 zaF (jc (bot l) (many l) (quo l) row row.length) (zw (bot l) bs)↔∀ k,k<many l->((∀ w∈W.getD k [],okV (posL row k) w)/\(posL row k).length<=(W.getD k []).length):=by
 have hbp:=z6 hok;have hql:=jF hok;have htn:=zZ fun s hs=>(hok.2.1 s hs).1
 have hrl:row.length=(tot l).toNat:=hrow.1;have hqT:(quo l).length=row.length+1:=#[0]
 have hqr:∀ r∈quo l,r.length=many l:=fun r hr=>jK hok (b:=bot l) hr
 have hpl:∀ k,(zf (quo l) k).length=row.length+1:=fun k=>by unfold zf;rw [YaR,hqT]
 have hroom:∀ k,k<many l->(zw (bot l) bs)[k]?=some ((zw (bot l) bs).getD k (0,0))/\0<=((zw (bot l) bs).getD k (0,0)).1/\0<=((zw (bot l) bs).getD k (0,0)).2:=fun k hk=>by
  have hkb:k<bs.length:=by rw [hB.1];exact hk
  have e:(zw (bot l) bs)[k]?=some (z9 (bot l) bs[k].1,z9 (bot l) bs[k].2):=by unfold zw;rw [Ya0,YaQ hkb];rfl
  have e2:(zw (bot l) bs).getD k (0,0)=(z9 (bot l) bs[k].1,z9 (bot l) bs[k].2):=by rw [YaP,e];rfl
  rw [e2];have z:=hB.2 bs[k] (Ya4 hkb);have y:=ho bs[k] (Ya4 hkb);exact⟨e,Wbi (YaK z.1.1 #[0]) (by have:=y.1.1;omega),Wbi (YaK z.2.1 #[0]) (by have:=y.2.1;omega)⟩
 have hzero:∀ k,0<=(zf (quo l) k).getD 0 0:=fun k=>by
  obtain⟨r,hr⟩:=zd1 (bot l) l;have:quo l=quoB (bot l) l:=rfl;rw [this,zas,hr];show 0<=(zeros l).getD k 0;unfold zeros;rw [YaP,Yad]
  split<;>simp
 have clan:=fun(k:Nat) (hk:k<many l)=>zgr hbp (hpl k) (fun s t hst ht=>zdm hok (b:=bot l) #[0] k s t hst (by show t<(quo l).length;omega)) (hzero k) (hroom k hk).2.1 (hroom k hk).2.2 (posP row k) (ws:=W.getD k []) (k:=k) (by rw [<-hqT];exact hW2 k hk)
 have lead:∀ (t k:Nat),t<row.length->k<many l->(zU (bot l) (many l) (quo l) row t)[k]?=some (((tk (posP row k) (t+1)).length:Int)*bot l - (zf (quo l) k).getD (t+1) 0):=fun t k ht hk=>by
  have hmem:(quo l).getD (t+1) []∈quo l:=by
   rw [YaP,YaQ #[0]];exact Ya4 _
  have h2:=hqr _ hmem;have h3:=jV (bot l) (many l) (row.take (t+1));unfold zU subL;have hz:((hadN (bot l) (many l) (row.take (t+1))).zip ((quo l).getD (t+1) []))[k]?=some ((hadN (bot l) (many l) (row.take (t+1)))[k]'(by omega),((quo l).getD (t+1) [])[k]'(by omega)):=Waj.mpr ⟨YaQ #[0],YaQ #[0]⟩
  rw [Ya0,hz,<-zb2 (bot l) hk hrow.2 (t+1) #[0],zas]
  simp [YaP,YaQ (show k<(hadN (bot l) (many l) (row.take (t+1))).length by omega),YaQ (show t+1<(quo l).length by omega)]
  have hk2:k<((quo l)[t+1]'(by omega)).length:=by rw [hqr _ (Ya4 _)];exact hk
  have e:((quo l)[t+1]'(by omega))[k]?=some (((quo l)[t+1]'(by omega))[k]):=YaQ hk2
  rw [e]
  rfl
 have keepI:zaF (jc (bot l) (many l) (quo l) row row.length) (zw (bot l) bs)↔∀ k,k<many l->((∀ w∈W.getD k [],okV (tk (posP row k) row.length) w)/\(tk (posP row k) row.length).length<=(W.getD k []).length):=by
  constructor
  . intro h k hk
    refine(clan k hk).mp fun t ht=>?_
    exact h _ (by unfold jc;exact Ya7.mpr ⟨t,Yba.mpr ht,rfl⟩) k _ _ (lead t k ht hk) (hroom k hk).1
  . intro h ld hld i x p hx hp
    unfold jc at hld;obtain⟨t,ht,rfl⟩:=Ya7.mp hld;have ht':=Yba.mp ht;have hi:i<many l:=by
     have:=(Ya8.mp hp).1;unfold zw at this;rw [YaR,hB.1] at this;exact this
    rw [lead t i ht' hi] at hx;rw [(hroom i hi).1] at hp;cases hx;cases hp;exact(clan i hi).mpr (h i hi) t ht'
 exact keepI
theorem zaP(row:List Int)(c:Int):∀ m,m<=row.length->cnt (row.take m) c=((tk (posP row c) m).length:Int)
 | 0,_=>by simp [cnt,tk]
 | m + 1, h => by
  rw [zbD #[0],zaP row c m #[0],Jo,YaS]
  unfold posP
  by_cases e:row.getD m 0=c
  . rw [if_pos e,decide_eq_true e,if_pos rfl];rfl
  . rw [if_neg e,decide_eq_false e,if_neg #[1]];rfl
theorem zg6(p:Nat->Bool){T t:Nat}(ht:t<T)(hp:p t=true):(tk p T)[(tk p t).length]?=some t:=by
 obtain⟨r,h1,_⟩:=zbW p (show t+1<=T by omega)
 rw [h1,Jo,if_pos hp,Yag,Yae (YaY _),WbC]
 rfl
theorem zif{l:List Spell}(hok:okS l){bs:List (Rat2×Rat2)}{W:List (List Win)}(h:IsWs l bs W){row:List Int}(hrow:jR (many l) (tot l).toNat row):j9 W.flatten row↔∀ k,k<many l->((∀ w∈W.getD k [],okV (posL row k) w)/\(posL row k).length<=(W.getD k []).length):=by
 have ok:=za6 hok h;have hcnt:∀ c:Int,cnt row c=((posL row c).length:Int):=fun c=>by
  have:=zaP row c row.length (YaY _);rw [YaH] at this;exact this
 have wk:∀ (k:Nat),k<many l->∀ w∈W.getD k [],∃ j:Int,1<=j/\w=((k:Int),j,(winB (bot l) (zf (quo l) k) ((zw (bot l) bs).getD k (0,0)) j).1,(winB (bot l) (zf (quo l) k) ((zw (bot l) bs).getD k (0,0)) j).2):=fun k hk w hw=>(h.2 k hk).mem hw
 have atp:∀ (c:Int) (j:Int),1<=j->j<=((posL row c).length:Int)->∃ t,t<row.length/\(posL row c)[(j - 1).toNat]?=some t/\keyR row t=(c,j):=fun c j h1 h2=>by
  have hlt:(j - 1).toNat<(posL row c).length:=#[0]
  have hg:(posL row c)[(j - 1).toNat]?=some (posL row c)[(j - 1).toNat]:=YaQ hlt;generalize (posL row c)[(j - 1).toNat]=t at hg;unfold posL at hg;obtain⟨a1,a2,a3⟩:=ZO (posP row c) hg;refine⟨t,a1,hg,?_⟩;have hp:posP row c t=true:=by
   cases z:posP row c t with
   | true=>rfl
   | false=>rw [Jo,z,if_neg #[1],Yao] at a3;omega
  have hp:row.getD t 0=c:=of_decide_eq_true hp;unfold keyR;rw [hp,zaP row c (t+1) #[0],a3]
  congr 1
  omega
 constructor
 . intro hf k hk
   have inW:∀ j:Int,∀ v∈W.flatten,keyW v=((k:Int),j)->∃ i:Nat,i<(W.getD k []).length/\j=1+(i:Int)/\v∈W.getD k []:=fun j v hv e=>by
    obtain⟨k',hk',i,hi,rfl⟩:=h.get hv;have e1:(k':Int)=(k:Int):=congrArg Prod.fst e;have e2:1+(i:Int)=j:=congrArg Prod.snd e;obtain rfl:k'=k:=#[0]
    exact⟨i,hi,e2.symm,Yah ((h.2 k' hk').at hi)⟩
   refine⟨fun w hw=>?_,?_⟩
   . obtain⟨j,hj,rfl⟩:=wk k hk w hw
     have hwV:_∈W.flatten:=zfF (by rw [h.1];exact hk) hw
     unfold okV;dsimp only
     by_cases hc:j<=((posL row k).length:Int)
     . rw [if_pos hc]
       obtain⟨t,ht,hg,hkey⟩:=atp k j hj hc;obtain⟨v,hv,e,o,la⟩:=hf.1 t ht;have:v=_:=zba ok.nd hv hwV (e.trans hkey);rw [this] at o la;have gd:(posL row k).getD (j - 1).toNat 0=t:=by rw [YaP,hg];rfl
       rw [gd];dsimp only at o la;refine⟨#[0],fun x hx=>?_⟩
       rw [hx] at la;have la:(t:Int)+1<=x:=la
       omega
     . rw [if_neg hc]
       cases hl:(winB (bot l) (zf (quo l) k) ((zw (bot l) bs).getD k (0,0)) j).2 with
       | none=>rfl
       | some x=>
        have:=hf.2 _ hwV (by dsimp only;rw [hl];nofun)
        dsimp only at this;rw [hcnt] at this;exact absurd this hc
   . by_cases z:(posL row k).length=0
     . omega
     . obtain⟨t,ht,hg,hkey⟩:=atp k ((posL row k).length:Int) #[0] (WbI _)
       obtain⟨v,hv,e,_⟩:=hf.1 t ht;obtain⟨i,hi,e2,_⟩:=inW _ v hv (e.trans hkey)
       omega
 . intro hc
   refine⟨fun t ht=>?_,fun v hv hne=>?_⟩
   . have hx:=hrow.2 row[t] (Ya4 ht)
     have hgd:row.getD t 0=row[t]:=by rw [YaP,YaQ ht];rfl
     obtain⟨k,hk⟩:∃ k:Nat,row[t]=(k:Int):=⟨row[t].toNat,#[0]⟩
     have hkm:k<many l:=#[0]
     have hp:posP row k t=true:=decide_eq_true (by rw [hgd,hk])
     have h1:(tk (posP row k) (t+1)).length=(tk (posP row k) t).length+1:=by rw [Jo,if_pos hp,YaS];rfl
     have h2:=zay (posP row k) (show t+1<=row.length by omega)
     have h3:(posL row k).length<=(W.getD k []).length:=(hc k hkm).2;have h4:(tk (posP row k) (t+1)).length<=(posL row k).length:=h2;have hi:(tk (posP row k) t).length<(W.getD k []).length:=#[0]
     have hw:=(h.2 k hkm).at hi;have hok':=(hc k hkm).1 _ (Yah hw);unfold okV at hok';dsimp only at hok';rw [if_pos #[0]] at hok'
     have ix:(posL row k).getD (1+((tk (posP row k) t).length:Int) - 1).toNat 0=t:=by
      rw [show(1+((tk (posP row k) t).length:Int) - 1).toNat=(tk (posP row k) t).length by omega,YaP]
      unfold posL;rw [zg6 (posP row k) ht hp];rfl
     rw [ix] at hok';refine⟨_,h.has hkm hi,?_,by have:=hok'.1;omega,?_⟩
     . unfold keyR keyW
       dsimp only;rw [hgd,hk,zaP row k (t+1) #[0],h1]
       congr 1
       omega
     . dsimp only
       cases hl:(winB (bot l) (zf (quo l) k) ((zw (bot l) bs).getD k (0,0)) (1+((tk (posP row k) t).length:Int))).2 with
       | none=>trivial
       | some x=>
        have:=hok'.2 x hl;show(t:Int)+1<=x
        omega
   . obtain⟨k,hk,i,hi,rfl⟩:=h.get hv
     have hok':=(hc k hk).1 _ (Yah ((h.2 k hk).at hi));unfold okV at hok';dsimp only at hok' hne ⊢;rw [hcnt]
     by_cases z:1+(i:Int)<=((posL row k).length:Int)
     . exact z
     . rw [if_neg z] at hok'
       exact absurd hok' hne
theorem ziw{b:Int}{n:Nat}{rows:List (List Int)}{row:List Int}(hr:∀ x∈row,0<=x/\x<(n:Int)){t:Nat}(ht:t<row.length)(hk1:t+1<rows.length)(hrl:rows[t+1].length=n){i:Nat}(hi:i<n):ldF b n rows row t i=(hadN 1 n (row.take (t+1))).getD i 0*b - rows[t+1].getD i 0:=by
 have hhl1:=jV b n (row.take (t+1));have e:(hadN b n (row.take (t+1))).getD i 0=(hadN 1 n (row.take (t+1))).getD i 0*b:=by
  rw [zb2 b hi hr _ #[0],zb2 1 hi hr _ #[0],Int.mul_one]
 rw [<-e];have hld:zU b n rows row t=subL (hadN b n (row.take (t+1))) rows[t+1]:=by
  unfold zU;rw [YaP,YaQ hk1];rfl
 unfold ldF;rw [hld];unfold subL;have hz:((hadN b n (row.take (t+1))).zip rows[t+1])[i]?=some ((hadN b n (row.take (t+1)))[i]'(by omega),rows[t+1][i]'(by omega)):=Waj.mpr ⟨YaQ #[0],YaQ #[0]⟩
 rw [YaP,Ya0,hz]
 simp [YaP,YaQ (show i<rows[t+1].length by omega),YaQ (show i<(hadN b n (row.take (t+1))).length by omega)]
def dT(l:List Spell):D:=.tuple [.int (bot l),.list ((quo l).map dI)]
def bsR(l:List Spell)(room:Int):List (Rat2×Rat2):=List.replicate (many l) ((room,bot l),(room,bot l))
def posR(l:List Spell)(r:Int):Prop:=∃ row∈quo l,∃ x∈row,r=x%bot l\/r=(-x)%bot l
def OkR(l:List Spell)(room:Int):Prop:=∃ row,jR (many l) (tot l).toNat row/\zaF (jc (bot l) (many l) (quo l) row row.length) (List.replicate (many l) (room,room))
def ZR(l:List Spell)(room:Int):Prop:=0<=room/\room<bot l/\OkR l room/\∀ r,0<=r->r<room->¬OkR l r
theorem zae{l:List Spell}(hb:0<bot l)(room:Int):zw (bot l) (bsR l room)=List.replicate (many l) (room,room):=by
 unfold zw bsR z9;rw [Yaz];simp only [Int.mul_ediv_cancel _ (show bot l≠0 by omega)]
theorem zc6{l:List Spell}(hok:okS l){room:Int}(h0:0<=room)(h1:room<=bot l):okB (many l) (bsR l room)/\∀ p∈bsR l room,okQ p.1/\okQ p.2:=by
 have hb:=z6 hok;have bb:Bits 1200 (bot l):=(zaQ hok).mono #[1]
 have o:okQ (room,bot l):=⟨hb,bb.le (by show room.natAbs<=_;omega),bb⟩
 have i:inQ (room,bot l):=⟨h0,by show room<=10*bot l;omega⟩
 refine⟨⟨Ybb,fun p hp=>?_⟩,fun p hp=>?_⟩
 . unfold bsR at hp;rw [Wan hp];exact⟨i,i⟩
 . unfold bsR at hp;rw [Wan hp];exact⟨o,o⟩
theorem zdr{l:List Spell}{r r':Int}(h:r<=r')(ok:OkR l r):OkR l r':=by
 obtain⟨row,h1,h2⟩:=ok;refine⟨row,h1,fun ld hld i x p hx hp=>?_⟩
 have hi:i<many l:=by
  have:=(Ya8.mp hp).1;rwa [Ybb] at this
 have e:p=(r',r'):=by rw [Yad,if_pos hi] at hp;exact(Wbe hp).symm
 have:=h2 ld hld i x (r,r) hx (by rw [Yad,if_pos hi])
 rw [e];exact⟨by show -r'<=x;have:-r<=x:=this.1;omega,by show x<=r';have:x<=r:=this.2;omega⟩
theorem zbT{ns:List Int}(hs:ns.Pairwise (· < ·)){i j:Nat}(h:i<=j)(hj:j<ns.length):ns.getD i 0<=ns.getD j 0:=by
 rw [YaP,YaP,YaQ hj,YaQ #[0]]
 show ns[i]<=ns[j]
 rcases Nat.lt_or_eq_of_le h with z|z
 . exact WbE (Wai.mp hs i j #[0] hj z)
 . subst z;exact WbI _
theorem zeH{l:List Spell}(hok:okS l){r:Int}(h:posR l r):0<=r/\r<bot l:=by
 have hb:=z6 hok;obtain⟨row,_,x,_,z|z⟩:=h
 . rw [z];exact⟨Ybc _ #[0],Ybd _ hb⟩
 . rw [z];exact⟨Ybc _ #[0],Ybd _ hb⟩
theorem zc2(l:List Spell)(b:Int)(k:Nat):(zf (quoB b l) k).getD 0 0=0:=by
 obtain⟨r,hr⟩:=zd1 b l;unfold zf;rw [hr];unfold zeros;simp only [Ya1,List.getD_cons_zero,YaP,Yad]
 split<;>rfl
theorem zlE{xs ys:List Int}(h:xs.length=ys.length):(addL xs ys).sum=xs.sum+ys.sum:=by
 unfold addL
 induction xs generalizing ys with
 | nil => cases ys with
  | nil=>rfl
  | cons _ _=>simp at h
 | cons a r ih => cases ys with
  | nil=>simp at h
  | cons b s=>
   rw [List.zip_cons_cons,Ya1,List.sum_cons,List.sum_cons,List.sum_cons,ih (by simpa using h)]
   show a+b+_=_
   omega
theorem zbp(xs:List Int)(c:Int):(xs.map (· * c)).sum=xs.sum*c:=by
 induction xs with
 | nil=>simp
 | cons a r ih=>rw [Ya1,List.sum_cons,List.sum_cons,ih,WbH]
theorem zf1{b:Int}{ws:List Int}(hp:0<ws.sum)(hd:ws.sum∣b):(shares b ws).sum=b:=by
 obtain⟨c,rfl⟩:=hd;unfold shares;have e:ws.map (fun w=>w*(ws.sum*c)/ws.sum)=ws.map (· * c):=Yat fun w _=>by
  rw [show w*(ws.sum*c)=ws.sum*(w*c) by ac_rfl,Int.mul_ediv_cancel_left _ #[0]]
 rw [e,zbp]
def Z3(B:Int)(p:List Int×List (List Int)):Prop:=p.1.sum+B=p.2.length*B/\∀ (t:Nat) (r:List Int),p.2[t]?=some r->r.sum=t*B
theorem zea{B:Int}{n:Nat}{sh:List Int}(hs:sh.length=n)(hB:sh.sum=B){p:List Int×List (List Int)}(hl:jg n p)(h:Z3 B p):Z3 B (zo sh p)/\jg n (zo sh p):=by
 have e:(addL p.1 sh).sum=p.1.sum+B:=by rw [zlE (by rw [hl.1,hs]),hB]
 have hn:(addL p.1 sh).length=n:=by rw [zat (by rw [hl.1,hs]),hl.1]
 refine⟨⟨?_,fun t r hr=>?_⟩,hn,fun r hr=>?_⟩
 . show(addL p.1 sh).sum+B=((p.2++[addL p.1 sh]).length:Nat)*B
   rw [e,YaS,List.length_singleton,Int.natCast_add,WbH,h.1];simp
 . have hr:(p.2++[addL p.1 sh])[t]?=some r:=hr
   by_cases ht:t<p.2.length
   . rw [Yab ht] at hr;exact h.2 t r hr
   . rw [Yae #[0]] at hr
     have ht2:t=p.2.length:=by
      have:=(Ya8.mp hr).1
      simp at this;omega
     rw [ht2,WbC] at hr;cases hr;rw [e,ht2,h.1]
 . rcases Ya3.mp hr with z|z
   . exact hl.2 r z
   . rw [Ya6.mp z];exact hn
theorem zed{B:Int}{n:Nat}{sh:List Int}(hs:sh.length=n)(hB:sh.sum=B):∀ (m:Nat) {p:List Int×List (List Int)},jg n p->Z3 B p->Z3 B (rep (zo sh) m p)/\jg n (rep (zo sh) m p)
 | 0,p,hl,h=>⟨h,hl⟩
 | m+1,p,hl,h=>zed hs hB m (zea hs hB hl h).2 (zea hs hB hl h).1
theorem ze0{B:Int}{n:Nat}:∀ (l:List Spell) {p:List Int×List (List Int)},(∀ s∈l,s.2.length=n/\0<s.2.sum/\s.2.sum∣B)->jg n p->Z3 B p->Z3 B (runQ B l p)
 | [],p,_,_,h=>h
 | s :: l, p, hs, hl, h => by
  obtain⟨h1,h2,h3⟩:=hs s YaV;have:=zed (sh:=shares B s.2) (by rw [zbe];exact h1) (zf1 h2 h3) s.1.toNat hl h
  exact ze0 l (fun s hs'=>hs s (YaT _ hs')) this.2 this.1
theorem zeC(l:List Spell):(zeros l).sum=0:=by unfold zeros;simp
theorem znF{l:List Spell}(hok:okS l){t:Nat}{r:List Int}(h:(quoB (zd l) l)[t]?=some r):r.sum=t*zd l:=by
 refine(ze0 (B:=zd l) (n:=many l) l (p:=(zeros l,[zeros l])) (fun s hs=>⟨(hok.2.1 s hs).2.2,jk (hok.2.1 s hs).2.1,zcf hs⟩) ⟨by unfold zeros;simp,fun r hr=>by rw [Ya6.mp hr];unfold zeros;simp⟩ ⟨by rw [zeC];simp,fun t r hr=>?_⟩).2 t r h
 cases t with
 | zero=>cases hr;rw [zeC];simp
 | succ t=>simp at hr
theorem zij{l:List Spell}(hok:okS l){t:Nat}{r:List Int}(h:(quo l)[t]?=some r):r.sum=t*bot l:=by
 have e:=congrArg (fun z=>z[t]?) (zbO hok)
 simp only [Ya0,h,Option.map_some] at e;obtain⟨r',h',e'⟩:=YaJ.mp e.symm;have e2:=congrArg List.sum e';rw [zbp,zbp,znF hok h'] at e2;refine Waf (a:=zd l) (by have:=zaB hok;omega) ?_
 rw [<-e2];ac_rfl
def SS(n:Nat)(f:Nat->Int):Int:=((List.range n).map f).sum
theorem jU(n:Nat)(f:Nat->Int):SS (n+1) f=SS n f+f n:=by unfold SS;rw [Wbg,Ya2,Wbj];simp
theorem zcA{n:Nat}{f g:Nat->Int}(h:∀ k,k<n->f k<=g k):SS n f<=SS n g:=by
 induction n with
 | zero=>exact WbI _
 | succ n ih=>
  rw [jU,jU];have:=ih fun k hk=>h k #[0]
  have:=h n #[0]
  omega
theorem zeG(n:Nat)(f:Nat->Int)(c:Int):SS n (fun k=>f k*c)=SS n f*c:=by
 induction n with
 | zero=>unfold SS;simp
 | succ n ih=>rw [jU,jU,ih,WbH]
theorem zkG(n:Nat)(f g:Nat->Int):SS n (fun k=>f k - g k)=SS n f - SS n g:=by
 induction n with
 | zero=>unfold SS;simp
 | succ n ih=>rw [jU,jU,jU,ih];omega
theorem zjv{r:List Int}{n:Nat}(h:r.length=n):SS n (fun k=>r.getD k 0)=r.sum:=by
 unfold SS
 congr 1
 refine List.ext_getElem (by simp [h]) fun i h1 h2=>?_
 rw [List.getElem_map,List.getElem_range,YaP,YaQ h2];rfl
theorem zeh{α : Type}(p:α->Bool)(W:List (List α)):((W.flatten.filter p).length:Int)=SS W.length fun k=>(((W.getD k []).filter p).length:Int):=by
 have key:∀ (R:List (List α)),((R.reverse.flatten.filter p).length:Int)=SS R.reverse.length fun k=>(((R.reverse.getD k []).filter p).length:Int):=by
  intro R
  induction R with
  | nil=>rfl
  | cons w R ih=>
   rw [List.reverse_cons,YaE,WaJ,YaS,Int.natCast_add,ih,YaS,List.length_singleton,jU];have e1:SS R.reverse.length (fun k=>(((R.reverse++[w]).getD k []).filter p).length)=SS R.reverse.length fun k=>(((R.reverse.getD k []).filter p).length:Int):=by
    unfold SS
    congr 1
    refine Yat fun k hk=>?_
    have hk:=Yba.mp hk;rw [YaP,Yab hk,<-YaP]
   rw [e1]
   congr 1
   simp
 have:=key W.reverse;rwa [List.reverse_reverse] at this
theorem zeU{n:Nat}{k:Int}{F:Int->Int×Option Int}{M:Int}(hM:∀ j,jh n (F j)->j<=M):∀ (m:Nat) (j:Int),M+1 - j<=m->∃ ws,IsW n k F j ws
 | 0,j,h=>⟨[],fun z=>by have:=hM j z;omega⟩
 | m + 1, j, h => by
  by_cases z:jh n (F j)
  . obtain⟨ws,hw⟩:=zeU hM m (j+1) #[0]
    exact⟨(k,j,(F j).1,(F j).2)::ws,z,rfl,hw⟩
  . exact⟨[],z⟩
theorem zdp{T:Int}{v:Win}:∀ {w:List Win},w.Pairwise (less T)->(∀ u∈w,keyW u≠keyW v)->∃ w':List Win,w'.Perm (v::w)/\w'.Pairwise (less T)
 | [],_,_=>⟨[v],Wbm _,by simp⟩
 | a :: r, hs, hn => by
  obtain⟨ha,hr⟩:=YaC.mp hs
  by_cases z:less T v a
  . exact⟨v::a::r,Wbm _,YaC.mpr ⟨fun x hx=>by
     rcases Wbo.mp hx with e|e
     . rw [e];exact z
     . exact zgK z (ha x e),hs⟩⟩
  . obtain⟨w',hp,hw⟩:=zdp hr fun u hu=>hn u (YaT _ hu)
    have hav:less T a v:=by
     have hk:=hn a YaV;have hk:¬(a.1=v.1/\a.2.1=v.2.1):=fun e=>hk (by unfold keyW;rw [e.1,e.2])
     unfold less at z ⊢
     omega
    refine⟨a::w',(hp.cons a).trans (List.Perm.swap v a r),YaC.mpr ⟨fun x hx=>?_,hw⟩⟩
    rcases Wbo.mp (hp.mem_iff.mp hx) with e|e
    . rw [e];exact hav
    . exact ha x e
theorem zd4{T:Int}:∀ {V:List Win},(V.map keyW).Nodup->∃ w:List Win,w.Perm V/\w.Pairwise (less T)
 | [],_=>⟨[],Wbm _,.nil⟩
 | v :: V, nd => by
  rw [Ya1,YaB] at nd;obtain⟨w,hp,hw⟩:=zd4 (T:=T) nd.2;obtain⟨w',hp',hw'⟩:=zdp (v:=v) hw fun u hu e=>nd.1 (by rw [<-e];exact Ya7.mpr ⟨u,hp.mem_iff.mp hu,rfl⟩)
  exact⟨w',hp'.trans (hp.cons v),hw'⟩
theorem znn{T:Int}{V:List Win}(ok:OkVs T V)(hT:0<=T):(∃ t:Nat,1<=t/\(t:Int)<=T/\(V.filter fun v=>decide (v.2.2.1<=(t:Int))).length<t)\/(∃ a b:Int,1<=a/\0<=b/\max 0 (b - a+1)<((V.filter (zI a b)).length:Int))\/∃ row:List Int,(row.length:Int)=T/\j9 V row:=by
 have key:∀ (n:Nat) (wait given:List Win),Dealt T V wait given->(given.length:Int)<=T->n=(T - given.length).toNat->(∃ t:Nat,1<=t/\(t:Int)<=T/\(V.filter fun v=>decide (v.2.2.1<=(t:Int))).length<t)\/(∃ a b:Int,1<=a/\0<=b/\max 0 (b - a+1)<((V.filter (zI a b)).length:Int))\/∃ row:List Int,(row.length:Int)=T/\j9 V row:=by
  intro n
  induction n with
  | zero=>
   intro wait given dd hg hn;cases hl:jA wait given.length with
   | true=>
    have:=dd.crowd ok hg hl;exact .inr (.inl ⟨_,_,this.1,#[0],this.2⟩)
   | false=>exact .inr (.inr ⟨given.map (·.1),by rw [YaR];omega,dd.row ok #[0] hl⟩)
  | succ n ih=>
   intro wait given dd hg hn;cases hl:jA wait given.length with
   | true=>
    have:=dd.crowd ok hg hl;exact .inr (.inl ⟨_,_,this.1,#[0],this.2⟩)
   | false=>
    cases hp:z8 ((given.length:Int)+1) wait with
    | none=>exact .inl ⟨given.length+1,#[0],#[0],dd.lack hp⟩
    | some p=>
     obtain⟨v,_,d'⟩:=dd.step hg hl hp;exact ih _ _ d' (by rw [YaS,List.length_singleton];omega) (by rw [YaS,List.length_singleton];omega)
 obtain⟨w,hp,hs⟩:=zd4 (T:=T) ok.nd;exact key _ w [] (Dealt.start hp hs) (by simpa using hT) rfl
theorem zmm{T:Int}{V:List Win}{d:D}(h:rowP T V d):∃ row:List Int,d=.tuple [.str "row", dI row]:=by
 obtain⟨row,_,_,_,e⟩:=h;exact⟨row,e⟩
theorem zct{l:List Spell}(hok:okS l){room:Int}(h0:0<=room)(h1:room<=bot l){W:List (List Win)}(hW:IsWs l (bsR l room) W){row:List Int}(hr:jR (many l) (tot l).toNat row) :
 j9 W.flatten row↔zaF (jc (bot l) (many l) (quo l) row row.length) (List.replicate (many l) (room,room)):=by
 obtain⟨hB,ho⟩:=zc6 hok h0 h1;have:=(zif hok hW hr).trans (znL hok hB ho hr hW.1 hW.2).symm;rw [zae (z6 hok)] at this;exact this
theorem zeJ{l:List Spell}(hok:okS l){room:Int}(h0:0<=room)(h1:room<=bot l){W:List (List Win)}(hW:IsWs l (bsR l room) W){d:D}(h:rowP (tot l) W.flatten d):OkR l room:=by
 obtain⟨row,hl,hf,hi,_⟩:=h;have htn:=zZ fun s hs=>(hok.2.1 s hs).1
 have hr:jR (many l) (tot l).toNat row:=⟨#[0],fun c hc=>by
  obtain⟨i,hi,rfl⟩:=Yam hc;obtain⟨v,hv,e,_⟩:=hf.1 i hi;obtain⟨k,hk,j,_,rfl⟩:=hW.get hv;have e1:(k:Int)=row.getD i 0:=congrArg Prod.fst e;rw [YaP,YaQ hi] at e1;have e1:(k:Int)=row[i]:=e1
  omega⟩
 exact⟨row,hr,(zct hok h0 h1 hW hr).mp hf⟩
theorem zaZ{l:List Spell}(hok:okS l){room:Int}(h0:0<=room)(h1:room<=bot l){W:List (List Win)}(hW:IsWs l (bsR l room) W){d:D}(h:zax (tot l) W.flatten d\/zag W.flatten d):¬OkR l room:=by
 rintro⟨row,hr,hk⟩
 have hf:=(zct hok h0 h1 hW hr).mpr hk
 rcases h with ⟨t,t1,t2,t3,_⟩|⟨a,b,a1,b1,c,_⟩
 . exact zlX t3 (by have:=hr.1;omega) hf
 . exact zig (za6 hok hW) a1 c hf
theorem zfs{l:List Spell}{r:Int}(h0:0<=r)(h:OkR l r):∃ m,0<=m/\m<=r/\OkR l m/\∀ s,0<=s->s<m->¬OkR l s:=by
 obtain⟨n,rfl⟩:=Waq h0
 induction n using Nat.strongRecOn with
 | ind n ih=>
  by_cases z:∃ k:Nat,k<n/\OkR l (k:Int)
  . obtain⟨k,hk,ok⟩:=z
    obtain⟨m,m0,m1,m2,m3⟩:=ih k hk #[0] ok
    exact⟨m,m0,#[0],m2,m3⟩
  . refine⟨n,h0,WbI _,h,fun s s0 s1 ok=>z ⟨s.toNat,#[0],by rw [show((s.toNat:Nat):Int)=s by omega];exact ok⟩⟩
theorem zgQ{l:List Spell}(hok:okS l){row:List Int}(hr:jR (many l) (tot l).toNat row){t k:Nat}(ht:t<row.length)(hk:k<many l){x:Int}(hx:x=ldF (bot l) (many l) (quo l) row t k)(h1:-(bot l)<x)(h2:x<bot l):posR l (if x<0 then -x else x):=by
 have hb:=z6 hok;have hql:=jF hok;have htn:=zZ fun s hs=>(hok.2.1 s hs).1
 have hrl:=hr.1;have hk1:t+1<(quo l).length:=#[0]
 have hrw:=jK hok (b:=bot l) (Ya4 hk1);have e:=ziw (b:=bot l) (rows:=quo l) hr.2 ht hk1 hrw hk;have hgm:(quo l)[t+1].getD k 0∈(quo l)[t+1]:=by
  rw [YaP,YaQ (show k<(quo l)[t+1].length by have:(quo l)[t+1].length=many l:=hrw;omega)];exact Ya4 _
 refine⟨(quo l)[t+1],Ya4 hk1,_,hgm,?_⟩
 rw [<-hx] at e;generalize (quo l)[t+1].getD k 0=q at e;generalize (hadN 1 (many l) (row.take (t+1))).getD k 0=n at e
 split
 . refine .inl ?_
   have:q = -x+bot l*n:=by rw [e,WbD n];omega
   rw [this,Int.add_mul_emod_self_left,Int.emod_eq_of_lt #[0] #[0]]
 . refine .inr ?_
   have:-q=x+bot l*(-n):=by rw [e,WbD n,Int.mul_neg];omega
   rw [this,Int.add_mul_emod_self_left,Int.emod_eq_of_lt #[0] #[0]]
theorem zgS{l:List Spell}(hok:okS l):posR l 0:=by
 have hm:=Zy hok;have hql:=jF hok;have htn:=zZ fun s hs=>(hok.2.1 s hs).1
 have h0:0<(quo l).length:=#[0]
 have hrw:(quo l)[0].length=many l:=jK hok (b:=bot l) (Ya4 h0);have h1:0<(quo l)[0].length:=#[0]
 have e:(quo l)[0][0]=0:=by
  have:=zc2 l (bot l) 0;unfold zf at this;rw [YaP,Ya0,YaQ (show 0<(quoB (bot l) l).length from h0)] at this
  have this:(quo l)[0].getD 0 0=0:=this;rw [YaP,YaQ h1] at this;exact this
 exact⟨(quo l)[0],Ya4 h0,0,by rw [<-e];exact Ya4 h1,.inl (by simp)⟩
theorem zfp{l:List Spell}(hok:okS l){m:Int}(m0:0<=m)(mb:m<bot l)(ok:OkR l m)(no:∀ s,0<=s->s<m->¬OkR l s):posR l m:=by
 rcases Classical.em (posR l m) with z|z
 . exact z
 . exfalso
   have hm0:m≠0:=fun e=>z (by rw [e];exact zgS hok)
   obtain⟨row,hr,hk⟩:=ok;refine no (m - 1) #[0] #[0] ⟨row,hr,fun ld hld i x p hx hp=>?_⟩
   have hi:i<many l:=by
    have:=(Ya8.mp hp).1;rwa [Ybb] at this
   have e:p=(m - 1,m - 1):=by rw [Yad,if_pos hi] at hp;exact(Wbe hp).symm
   obtain⟨k1,k2⟩:=hk ld hld i x (m,m) hx (by rw [Yad,if_pos hi])
   have k1:-m<=x:=k1;have k2:x<=m:=k2;unfold jc at hld;obtain⟨t,ht,rfl⟩:=Ya7.mp hld;have hxe:x=ldF (bot l) (many l) (quo l) row t i:=by unfold ldF;rw [YaP,hx];rfl
   have hp:=zgQ hok hr (Yba.mp ht) hi hxe #[0] #[0]
   have hne:(if x<0 then -x else x)≠m:=fun y=>z (by rw [<-y];exact hp)
   rw [e];show -(m - 1)<=x/\x<=m - 1
   split at hne<;>omega
theorem zkp{l:List Spell}(hok:okS l){ns:List Int}(hs:ns.Pairwise (· < ·))(hm:∀ r,r∈ns↔posR l r){i:Nat}(hi:i<ns.length)(ok:OkR l (ns.getD i 0))(no:∀ j,j<i->¬OkR l (ns.getD j 0)):ZR l (ns.getD i 0):=by
 have hg:ns.getD i 0=ns[i]:=by rw [YaP,YaQ hi];rfl
 obtain⟨p1,p2⟩:=zeH hok ((hm (ns.getD i 0)).mp (by rw [hg];exact Ya4 hi))
 obtain⟨m,m0,m1,m2,m3⟩:=zfs p1 ok;have hp:=(hm m).mpr (zfp hok m0 #[0] m2 m3)
 obtain⟨j,hj,e⟩:=Yam hp;have hgj:ns.getD j 0=m:=by rw [YaP,YaQ hj];exact e
 have:i<=j:=Nat.le_of_not_lt fun z=>no j z (by rw [hgj];exact m2)
 have h2:=zbT hs this hj;have e2:ns.getD i 0=m:=#[0]
 rw [e2];exact⟨m0,#[0],m2,m3⟩
theorem IsW.nd{n:Nat}{k:Int}{F:Int->Int×Option Int}:∀ {ws:List Win} {j:Int},IsW n k F j ws->(ws.map fun w=>w.2.1).Nodup
 | [],_,_=>List.nodup_nil
 | v :: r, j, h => by
  rw [Ya1,YaB];refine⟨fun z=>?_,h.2.2.nd⟩
  obtain⟨w,hw,e⟩:=Ya7.mp z;obtain⟨i,hi,rfl⟩:=h.2.2.mem hw;have e:i=v.2.1:=e;rw [h.2.1] at e;have e:i=j:=e
  omega
theorem zet{α : Type}{P:Nat->List α->Prop}:∀ {n:Nat},(∀ k,k<n->∃ ws,P k ws)->∃ W:List (List α),W.length=n/\∀ k,k<n->P k (W.getD k [])
 | 0,_=>⟨[],rfl,fun k hk=>absurd hk #[0]⟩
 | n + 1, h => by
  obtain⟨W,h1,h2⟩:=zet (n:=n) fun k hk=>h k #[0]
  obtain⟨ws,hw⟩:=h n #[0]
  refine⟨W++[ws],by rw [YaS,h1];rfl,fun k hk=>?_⟩
  by_cases z:k<n
  . rw [YaP,Yab #[0],<-YaP];exact h2 k z
  . have e:k=n:=#[0]
    subst e;rw [YaP,Yae #[0],h1,WbC]
    exact hw
theorem zfJ{l:List Spell}(hok:okS l)(k t:Nat):(zf (quo l) k).getD t 0<=60*bot l:=by
 have hbp:=z6 hok;rw [YaP];cases ht:(zf (quo l) k)[t]? with
 | none=>show(0:Int)<=_;omega
 | some x=>
  show x<=_
  unfold zf at ht;rw [Ya0] at ht;obtain⟨r,hr,rfl⟩:=YaJ.mp ht;rw [YaP];cases hx:r[k]? with
  | none=>show(0:Int)<=_;omega
  | some x=>
   have h1:=zca hok hbp r (Yah hr) x (Yah hx);have h2:tot l*bot l<=60*bot l:=Ybe hok.2.2 #[0]
   show x<=_
   omega
theorem zeV{l:List Spell}(hb:0<bot l){room:Int}{k:Nat}(hk:k<many l):(zw (bot l) (bsR l room)).getD k (0,0)=(room,room):=by
 rw [zae hb,YaP,Yad,if_pos hk];rfl
theorem zj1{l:List Spell}(hok:okS l){room:Int}(h0:0<=room)(h1:room<=bot l):∃ W,IsWs l (bsR l room) W:=by
 have hbp:=z6 hok;have hql:=jF hok;have htn:=zZ fun s hs=>(hok.2.1 s hs).1
 refine zet fun k hk=>?_
 have hpl:(zf (quo l) k).length=(quo l).length:=by unfold zf;rw [YaR]
 rw [zeV hbp hk];exact zeU (M:=62) (fun j hj=>zbZ (M:=61) (room:=(room,room)) hbp (by rw [hpl];omega) (fun t=>by
  have:=zfJ hok k t;show _+room<=_
  omega) h0 h0 j (by rw [hpl];exact hj)) 62 1 #[1]
theorem zk1{b:Int}(hb:0<b){path:List Int}{T t:Nat}(hl:path.length=T+1)(h1:1<=t)(h2:t<=T){ws:List Win}{k:Int}(hW:IsW (T+1) k (winB b path (b - 1,b - 1)) 1 ws):path.getD t 0<=((ws.filter fun v=>decide (v.2.2.1<=(t:Int))).length:Int)*b:=by
 generalize hq:path.getD t 0=q
 by_cases hq0:q<=0
 . have:0<=((ws.filter fun v=>decide (v.2.2.1<=(t:Int))).length:Int)*b:=YaK #[0] #[0]
   omega
 have hm0:0<=(q+b - 1)/b:=Wbi #[0] #[0]
 have hm1:(q+b - 1)/b*b<=q+b - 1:=Int.ediv_mul_le _ #[0]
 have hm2:=Wad (q+b - 1) hb;rw [WbH,WbK] at hm2;obtain⟨m,hm⟩:∃ m:Nat,(q+b - 1)/b=(m:Int):=⟨((q+b - 1)/b).toNat,#[0]⟩
 rw [hm] at hm1 hm2;have op:∀ x:Nat,x<m->(winB b path (b - 1,b - 1) (1+(x:Int))).1<=(t:Int):=fun x hx=>by
  have hx1:((x:Int)+1)*b<=m*b:=Ybe #[0] #[0]
  rw [WbH,WbK] at hx1;have:=zaV (n:=T+1) #[0] (p:=fun t=>decide ((1+(x:Int))*b - (b - 1)<=path.getD t 0)) h1 (decide_eq_true (by
   rw [hq,WbH,WbK];omega))
  unfold winB winP;rw [hl];show((zr (T+1) (fun t=>decide ((1+(x:Int))*b - (b - 1)<=path.getD t 0)):Nat):Int)<=t
  omega
 have hlen:=hW.long (m:=m) fun x hx=>.inl (by have:=op x hx;omega)
 have hsub:((ws.take m).filter fun v=>decide (v.2.2.1<=(t:Int)))=ws.take m:=List.filter_eq_self.mpr fun v hv=>by
  obtain⟨i,hi,rfl⟩:=Yam hv;have hi':i<m:=by rw [Wa5] at hi;omega
  have:=hW.at (i:=i) #[0]
  rw [YaQ #[0]] at this
  rw [List.getElem_take,Wbe this];exact decide_eq_true (op i hi')
 have hle:=((List.take_sublist m ws).filter fun v=>decide (v.2.2.1<=(t:Int))).length_le
 rw [hsub,Wa5,Nat.min_eq_left hlen] at hle;have:=Ybe (c:=b) (show(m:Int)<=(ws.filter fun v=>decide (v.2.2.1<=(t:Int))).length by omega) #[0]
 omega
theorem zk5{b:Int}(hb:0<b){path:List Int}{T A C:Nat}(hl:path.length=T+1)(mono:∀ s t,s<=t->t<=T->path.getD s 0<=path.getD t 0)(hz:path.getD 0 0=0)(hAC:A<=C)(hC:C<=T){a c:Int}(hA:A=0\/(A:Int)<a)(hc:∀ x:Nat,(x:Int)<=c->x<=T->x<=C){ws:List Win}{k:Int}(hW:IsW (T+1) k (winB b path (b - 1,b - 1)) 1 ws):((ws.filter (zI a c)).length:Int)*b<=path.getD C 0 - path.getD A 0:=by
 have hlohi:=mono A C hAC hC;generalize hlo:path.getD A 0=lo at *;generalize hhi:path.getD C 0=hi at *;have key:∀ w∈ws.filter (zI a c),1<=w.2.1/\lo<=(w.2.1 - 1)*b/\w.2.1*b<=hi:=fun w hw=>by
  obtain⟨hw,hcr⟩:=Ya9.mp hw;obtain⟨j,hj,rfl⟩:=hW.mem hw;unfold zI at hcr;dsimp only at hcr ⊢;have jb:(j - 1)*b=j*b - b:=by rw [WbJ,WbK]
  cases hx:(winB b path (b - 1,b - 1) j).2 with
  | none=>rw [hx] at hcr;cases hcr
  | some x=>
   rw [hx] at hcr;simp only [Yak,decide_eq_true_eq] at hcr;obtain⟨h1,h2⟩:=hcr;unfold winB winP at h1 hx;rw [hl] at h1 hx;dsimp only at h1 hx;obtain⟨a1,a2,a3,a4⟩:=jf (n:=T+1) #[0] (fun t=>decide (j*b - (b - 1)<=path.getD t 0))
   obtain⟨b1,b2,b3,b4⟩:=jf (n:=T+1) #[0] (fun t=>decide ((j - 1)*b+(b - 1)+1<=path.getD t 0))
   split at hx
   . cases hx
   . rename_i hne
     have hx:=Wbe hx;have q1:=of_decide_eq_true (b4 #[0])
     have q2:=hc _ (by rw [hx];exact h2) #[0]
     have q3:=mono _ _ q2 hC;rw [hhi] at q3;refine⟨hj,?_,#[0]⟩
     rcases hA with z|z
     . rw [z,hz] at hlo
       rw [<-hlo];exact YaK #[0] #[0]
     . by_cases z0:A=0
       . rw [z0,hz] at hlo
         rw [<-hlo];exact YaK #[0] #[0]
       . have:=of_decide_eq_false (a3 A #[0] #[0])
         rw [hlo] at this
         omega
 have i0:lo+b - 1<((lo+b - 1)/b+1)*b:=Wad _ hb;have i1:hi<(hi/b+1)*b:=Wad _ hb;have i2:hi/b*b<=hi:=Int.ediv_mul_le _ #[0]
 have i3:(lo+b - 1)/b*b<=lo+b - 1:=Int.ediv_mul_le _ #[0]
 rw [WbH,WbK] at i0 i1;generalize (lo+b - 1)/b=u at *;generalize hi/b=v at *;have nd:((ws.filter (zI a c)).map fun w=>w.2.1).Nodup:=hW.nd.sublist (List.filter_sublist.map _)
 have:=za9 (M:=(List.range (v - u).toNat).map fun(i:Nat)=>u+1+(i:Int)) nd fun x hx=>by
  obtain⟨w,hw,rfl⟩:=Ya7.mp hx;obtain⟨k1,k2,k3⟩:=key w hw;have e1:w.2.1<v+1:=by
   refine Int.lt_of_mul_lt_mul_right (a:=b) ?_ #[0]
   rw [WbH,WbK];omega
  have e2:u<w.2.1 - 1+1:=by
   refine Int.lt_of_mul_lt_mul_right (a:=b) ?_ #[0]
   rw [WbH,WbK];omega
  exact Ya7.mpr ⟨(w.2.1 - 1 - u).toNat,Yba.mpr #[0],#[0]⟩
 rw [YaR,YaR,YaG] at this
 by_cases z:u<=v
 . have h3:((ws.filter (zI a c)).length:Int)*b<=(v - u)*b:=Ybe #[0] #[0]
   rw [WbJ] at h3
   omega
 . have h3:(ws.filter (zI a c)).length=0:=#[0]
   rw [h3]
   simp
   omega
theorem zjO{l:List Spell}(hok:okS l):OkR l (bot l - 1):=by
 have hb:=z6 hok;have hql:=jF hok;have htn:=zZ fun s hs=>(hok.2.1 s hs).1
 obtain⟨T,hT⟩:∃ T:Nat,tot l=(T:Int):=⟨(tot l).toNat,#[0]⟩
 have hpl:∀ k,(zf (quo l) k).length=T+1:=fun k=>by unfold zf;rw [YaR];omega
 obtain⟨W,hW⟩:=zj1 hok (room:=bot l - 1) #[0] #[0]
 have hIs:∀ k,k<many l->IsW (T+1) k (winB (bot l) (zf (quo l) k) (bot l - 1,bot l - 1)) 1 (W.getD k []):=fun k hk=>by
  have:=hW.2 k hk;rwa [zeV hb hk,show(quo l).length=T+1 by omega] at this
 have hsum:∀ t:Nat,t<=T->SS (many l) (fun k=>(zf (quo l) k).getD t 0)=t*bot l:=fun t ht=>by
  have hlt:t<(quo l).length:=#[0]
  have e:=zij hok (YaQ hlt);rw [<-e,<-zjv (jK hok (b:=bot l) (Ya4 hlt))];unfold SS
  congr 1
  refine Yat fun k _=>?_
  rw [zas,YaP (l:=quo l),YaQ hlt];rfl
 have mono:∀ k s t,s<=t->t<=T->(zf (quo l) k).getD s 0<=(zf (quo l) k).getD t 0:=fun k s t h1 h2=>zdm hok (b:=bot l) #[0] k s t h1 (by
  have:(quoB (bot l) l).length=(quo l).length:=rfl
  omega)
 have ok:=za6 hok hW
 rcases znn ok htn with ⟨t,t1,t2,t3⟩|⟨a,c,a1,c0,h⟩|⟨row,hl,hf⟩
 . exfalso
   have h1:SS (many l) (fun k=>(zf (quo l) k).getD t 0)<=SS (many l) (fun k=>(((W.getD k []).filter fun v=>decide (v.2.2.1<=(t:Int))).length:Int)*bot l):=zcA fun k hk=>zk1 hb (hpl k) t1 #[0] (hIs k hk)
   rw [hsum t #[0],zeG,<-hW.1,<-zeh] at h1
   have:=YaF h1 hb
   omega
 . exfalso
   have hA:∃ A C:Nat,A<=C/\C<=T/\(A=0\/(A:Int)<a)/\(∀ x:Nat,(x:Int)<=c->x<=T->x<=C)/\(C:Int) - A<=max 0 (c - a+1):=by
    refine⟨min (a - 1).toNat T,max (min c.toNat T) (min (a - 1).toNat T),#[0],#[0],#[0],fun x h1 h2=>by omega,#[0]⟩
   obtain⟨A,C,h1,h2,h3,h4,h5⟩:=hA;have h6:SS (many l) (fun k=>(((W.getD k []).filter (zI a c)).length:Int)*bot l)<=SS (many l) (fun k=>(zf (quo l) k).getD C 0 - (zf (quo l) k).getD A 0):=zcA fun k hk=>zk5 hb (hpl k) (mono k) (zc2 l (bot l) k) h1 h2 h3 h4 (hIs k hk)
   rw [zkG,hsum C h2,hsum A #[0],zeG,<-hW.1,<-zeh,<-WbJ] at h6
   have:=YaF h6 hb
   omega
 . have hr:jR (many l) (tot l).toNat row:=⟨#[0],fun c hc=>by
    obtain⟨i,hi,rfl⟩:=Yam hc;obtain⟨v,hv,e,_⟩:=hf.1 i hi;obtain⟨k,hk,j,_,rfl⟩:=hW.get hv;have e1:(k:Int)=row.getD i 0:=congrArg Prod.fst e;rw [YaP,YaQ hi] at e1;have e1:(k:Int)=row[i]:=e1
    omega⟩
   exact⟨row,hr,(zct hok #[0] #[0] hW hr).mp hf⟩
theorem zlZ{l:List Spell}(hok:okS l){ns:List Int}(hs:ns.Pairwise (· < ·))(hm:∀ r,r∈ns↔posR l r):0<ns.length/\OkR l (ns.getD (ns.length - 1) 0):=by
 have hb:=z6 hok;obtain⟨m,m0,m1,m2,m3⟩:=zfs (r:=bot l - 1) #[0] (zjO hok)
 have hp:=(hm m).mpr (zfp hok m0 #[0] m2 m3)
 obtain⟨j,hj,e⟩:=Yam hp;have hgj:ns.getD j 0=m:=by rw [YaP,YaQ hj];exact e
 refine⟨#[0],zdr ?_ m2⟩
 rw [<-hgj];exact zbT hs #[0] #[0]
theorem zgv(r:Rat2):Plain 1 (dQ r):=Plain.tuple fun d hd=>by
 rcases Wbo.mp hd with rfl|hd
 . exact Plain.int _
 . rw [Ya6.mp hd];exact Plain.int _
theorem zmz{l:List Spell}{room:Int}(hl:ZR l room){row:List Int}(hr:jR (many l) (tot l).toNat row)(hk:zaF (jc (bot l) (many l) (quo l) row row.length) (List.replicate (many l) (room,room)))(hlen:∀ t,t<row.length->(zU (bot l) (many l) (quo l) row t).length=many l):Far (zP (bot l) (many l) (quo l) row row.length) room:=by
 obtain⟨r0,r1,r2,r3⟩:=hl;have at':∀ x∈zP (bot l) (many l) (quo l) row row.length,∃ ld∈jc (bot l) (many l) (quo l) row row.length,∃ i,i<many l/\ld[i]?=some x:=fun x hx=>by
  obtain⟨ld,hld,hx⟩:=Wbb.mp hx;obtain⟨i,hi,e⟩:=Yam hx;have hl:ld.length=many l:=by
   obtain⟨t,ht,rfl⟩:=Ya7.mp hld;exact hlen t (Yba.mp ht)
  exact⟨ld,hld,i,#[0],by rw [YaQ hi,e]⟩
 refine⟨r0,fun x hx=>?_,?_⟩
 . obtain⟨ld,hld,i,hi,e⟩:=at' x hx
   have:=hk ld hld i x (room,room) e (by rw [Yad,if_pos hi])
   have h1:-room<=x:=this.1;have h2:x<=room:=this.2;exact⟨h2,#[0]⟩
 . rcases Classical.em (room=0\/room∈zP (bot l) (many l) (quo l) row row.length\/-room∈zP (bot l) (many l) (quo l) row row.length) with z|z
   . exact z
   . exfalso
     refine r3 (room - 1) #[0] #[0] ⟨row,hr,fun ld hld i x p hx hp=>?_⟩
     have hi:i<many l:=by
      have:=(Ya8.mp hp).1;rwa [Ybb] at this
     have e:p=(room - 1,room - 1):=by rw [Yad,if_pos hi] at hp;exact(Wbe hp).symm
     have:=hk ld hld i x (room,room) hx (by rw [Yad,if_pos hi])
     have h1:-room<=x:=this.1;have h2:x<=room:=this.2;have hm:x∈zP (bot l) (many l) (quo l) row row.length:=Wbb.mpr ⟨ld,hld,Yah hx⟩;have n1:x≠room:=fun y=>z (.inr (.inl (y ▸ hm)))
     have n2:x≠-room:=fun y=>z (.inr (.inr (y ▸ hm)))
     rw [e];show -(room - 1)<=x/\x<=room - 1
     omega
def absI(x:Int):Int:=if x<0 then -x else x
theorem zbG{x m:Int}:absI x<=m↔x<=m/\-x<=m:=by unfold absI;split<;>omega
def zy(B:Int)(q c:List Int):Nat->Int->Int
 | 0,y=>y
 | i+1,y=>if absI (q.getD i 0 - c.getD i 0*B) > zy B q c i y then absI (q.getD i 0 - c.getD i 0*B) else zy B q c i y
theorem zer{B:Int}{q c:List Int}:∀ (i:Nat) {y y':Int},y<=y'->zy B q c i y<=zy B q c i y'
 | 0,_,_,h=>h
 | i + 1, y, y', h => by
  have:=zer (B:=B) (q:=q) (c:=c) i h;unfold zy
  split<;>split<;>omega
theorem zdA{B:Int}{q c:List Int}:∀ (i:Nat) (y:Int),y<=zy B q c i y/\∀ j,j<i->absI (q.getD j 0 - c.getD j 0*B)<=zy B q c i y
 | 0,y=>⟨WbI y,fun j h=>absurd h #[0]⟩
 | i + 1, y => by
  obtain⟨h1,h2⟩:=zdA (B:=B) (q:=q) (c:=c) i y;have h3:zy B q c i y<=zy B q c (i+1) y/\absI (q.getD i 0 - c.getD i 0*B)<=zy B q c (i+1) y:=by
   have e:zy B q c (i+1) y=if absI (q.getD i 0 - c.getD i 0*B) > zy B q c i y then absI (q.getD i 0 - c.getD i 0*B) else zy B q c i y:=rfl
   rw [e]
   split<;>omega
  refine⟨#[0],fun j hj=>?_⟩
  by_cases e:j=i
  . rw [e];exact h3.2
  . have:=h2 j #[0]
    omega
theorem zeB{B:Int}{q c:List Int}:∀ (i:Nat) (y:Int),zy B q c i y=y\/∃ j,j<i/\zy B q c i y=absI (q.getD j 0 - c.getD j 0*B)
 | 0,y=>.inl rfl
 | i + 1, y => by
  have e:zy B q c (i+1) y=if absI (q.getD i 0 - c.getD i 0*B) > zy B q c i y then absI (q.getD i 0 - c.getD i 0*B) else zy B q c i y:=rfl
  rw [e]
  split
  . exact .inr ⟨i,#[0],rfl⟩
  . rcases zeB (B:=B) (q:=q) (c:=c) i y with h|⟨j,hj,h⟩
    . exact .inl h
    . exact .inr ⟨j,#[0],h⟩
def Rch(B:Int)(n:Nat)(qs:List (List Int)):Nat->List Int->Int->Prop
 | 0,c,y=>c=List.replicate n 0/\y=0
 | t+1,c',y'=>∃ c y,Rch B n qs t c y/\∃ k:Nat,k<n/\c'=had1 1 c k/\y'=zy B (qs.getD (t+1) []) c' n y
theorem Rch.len{B:Int}{n:Nat}{qs:List (List Int)}:∀ {t:Nat} {c:List Int} {y:Int},Rch B n qs t c y->c.length=n
 | 0,_,_,⟨h,_⟩=>by rw [h,Ybb]
 | t+1,_,_,⟨c,y,h,k,_,e,_⟩=>by rw [e,zbs];exact Rch.len h
theorem zdB{l:List Int}{i k:Nat}{x:Int}(h:i<l.length):(l.set i x).getD k 0=if i=k then x else l.getD k 0:=by
 rw [YaP,List.getElem?_set]
 by_cases e:i=k
 . subst e;rw [if_pos rfl,if_pos rfl,if_pos h];rfl
 . rw [if_neg e,if_neg e,<-YaP]
theorem zlL{b:Int}{n:Nat}(row:List Int)(hr:∀ c∈row,0<=c/\c<(n:Int))(k:Nat):(hadN b n row).getD k 0=(hadN 1 n row).getD k 0*b:=by
 have key:∀ R:List Int,(∀ c∈R,0<=c/\c<(n:Int))->(hadN b n R.reverse).getD k 0=(hadN 1 n R.reverse).getD k 0*b:=by
  intro R
  induction R with
  | nil=>
   intro _;show(List.replicate n (0:Int)).getD k 0=(List.replicate n (0:Int)).getD k 0*b;rw [YaP,Yad]
   split<;>simp
  | cons c r ih=>
   intro hr;have hc:=hr c YaV;have ih:=ih (fun x hx=>hr x (YaT _ hx))
   rw [List.reverse_cons,ZU,ZU];unfold had1;have hl:=jV b n r.reverse;have hl1:=jV 1 n r.reverse;rw [zdB #[0],zdB #[0]]
   split
   . rename_i e
     rw [e,ih,WbH,WbK]
   . exact ih
 have:=key row.reverse fun c hc=>hr c (List.mem_reverse.mp hc)
 rwa [List.reverse_reverse] at this
def MinR(B:Int)(n:Nat)(qs:List (List Int))(t:Nat)(c:List Int)(y:Int):Prop:=Rch B n qs t c y/\∀ y',Rch B n qs t c y'->y<=y'
theorem zdf{B:Int}{n:Nat}{qs:List (List Int)}{row:List Int}{k y:Int}(hr:∀ c∈row++[k],0<=c/\c<(n:Int))(hq:(qs.getD (row.length+1) []).length=n)(h:Far (zP B n qs row row.length) y):Far (zP B n qs (row++[k]) (row.length+1)) (zy B (qs.getD (row.length+1) []) (hadN 1 n (row++[k])) n y):=by
 have e1:zP B n qs (row++[k]) (row.length+1)=zP B n qs row row.length++zU B n qs (row++[k]) row.length:=by
  unfold zP;rw [ze2,YaE]
  congr 1
  . unfold jc
    refine congrArg List.flatten (Yat fun t ht=>?_)
    have:=Yba.mp ht;unfold zU;rw [List.take_append_of_le_length #[0]]
  . simp
 have e2:∀ j,j<n->(zU B n qs (row++[k]) row.length)[j]?=some ((hadN 1 n (row++[k])).getD j 0*B - (qs.getD (row.length+1) []).getD j 0):=fun j hj=>by
  have hl:=jV B n (row++[k]);have h1:(hadN B n (row++[k]))[j]?=some ((hadN B n (row++[k])).getD j 0):=by
   rw [YaP,YaQ #[0]];rfl
  have h2:(qs.getD (row.length+1) [])[j]?=some ((qs.getD (row.length+1) []).getD j 0):=by
   rw [YaP (l:=qs.getD (row.length+1) []),YaQ #[0]];rfl
  have hz:((hadN B n (row++[k])).zip (qs.getD (row.length+1) []))[j]?=some ((hadN B n (row++[k])).getD j 0,(qs.getD (row.length+1) []).getD j 0):=Waj.mpr ⟨h1,h2⟩;unfold zU subL;rw [Was (by simp),Ya0,hz,zlL _ hr]
  rfl
 have e3:(zU B n qs (row++[k]) row.length).length=n:=by
  unfold zU subL;rw [YaR,List.length_zip,jV,hq,Nat.min_self]
 obtain⟨l1,l2⟩:=zdA (B:=B) (q:=qs.getD (row.length+1) []) (c:=hadN 1 n (row++[k])) n y;rw [e1];refine h.app l1 (fun x hx=>?_) ?_
 . obtain⟨j,hj,e⟩:=Yam hx
   have hj':j<n:=#[0]
   have:=e2 j hj';rw [YaQ hj,e] at this;have h3:=zbG.mp (l2 j hj');have e4:=Wbe this
   omega
 . rcases zeB (B:=B) (q:=qs.getD (row.length+1) []) (c:=hadN 1 n (row++[k])) n y with z|⟨j,hj,z⟩
   . exact .inl z
   . right
     have hm:=Yah (e2 j hj);rw [z];unfold absI
     split
     . left
       rw [Int.neg_sub];exact hm
     . right
       rw [Int.neg_sub];exact hm
theorem zbM(S:List Int):∃ y,Far S y:=by
 have key:∀ R:List Int,∃ y,Far R.reverse y:=by
  intro R
  induction R with
  | nil=>exact⟨0,Far.nil⟩
  | cons x r ih=>
   obtain⟨y,h⟩:=ih;rw [List.reverse_cons]
   by_cases h1:absI x<=y
   . have h2:=zbG.mp h1
     exact⟨y,h.snoc (WbI y) h2.1 h2.2 (.inl rfl)⟩
   . have h2:=zbG.mp (WbI (absI x))
     refine⟨absI x,h.snoc #[0] h2.1 h2.2 (.inr ?_)⟩
     unfold absI
     split
     . exact .inr rfl
     . exact .inl rfl
 have:=key S.reverse;rwa [List.reverse_reverse] at this
theorem zey{B:Int}{n:Nat}{qs:List (List Int)}{T:Nat}(hq:∀ t,1<=t->t<=T->(qs.getD t []).length=n):∀ (t:Nat),t<=T->∀ (c:List Int) (y:Int),Rch B n qs t c y↔∃ row,jR n t row/\hadN 1 n row=c/\Far (zP B n qs row t) y
 | 0, _, c, y => by
  constructor
  . rintro⟨rfl,rfl⟩
    exact⟨[],⟨rfl,fun _ h=>by cases h⟩,rfl,Far.nil⟩
  . rintro⟨row,hr,rfl,hf⟩
    have e:=Wap.mp hr.1;subst e;exact⟨rfl,hf.uniq Far.nil⟩
 | t + 1, ht, c, y => by
  have ih:=zey (B:=B) hq t #[0]
  constructor
  . rintro⟨c0,y0,h,k,hk,rfl,rfl⟩
    obtain⟨row,hr,rfl,hf⟩:=(ih c0 y0).mp h;have hl:=hr.1;subst hl;have hr':∀ c∈row++[(k:Int)],0<=c/\c<(n:Int):=fun c hc=>by
     rcases Ya3.mp hc with z|z
     . exact hr.2 c z
     . rw [Ya6.mp z];omega
    refine⟨row++[(k:Int)],⟨by simp,hr'⟩,ZU 1 n row k,?_⟩
    rw [<-ZU];exact zdf hr' (hq _ #[0] ht) hf
  . rintro⟨row,hr,rfl,hf⟩
    have hne:row≠[]:=fun z=>by have:=hr.1;rw [z] at this;simp at this
    obtain⟨r,k,e⟩:∃ r k,row=r++[k]:=⟨row.dropLast,row.getLast hne,(List.dropLast_concat_getLast hne).symm⟩;subst e;have hl:r.length=t:=by have:=hr.1;rw [YaS] at this;simp at this;exact this
    subst hl;have hk:=hr.2 k (by simp)
    obtain⟨y0,h0⟩:=zbM (zP B n qs r r.length);have e2:=hf.uniq (zdf hr.2 (hq _ #[0] ht) h0)
    refine⟨hadN 1 n r,y0,(ih _ _).mpr ⟨r,⟨rfl,fun c hc=>hr.2 c (Yai _ hc)⟩,rfl,h0⟩,k.toNat,#[0],?_,e2⟩
    rw [ZU,show((k.toNat:Nat):Int)=k by omega]
theorem zid{l:List Spell}(hok:okS l){room y0:Int}(hl:ZR l room)(h1:∃ c,Rch (zd l) (many l) (quoB (zd l) l) (tot l).toNat c y0)(h2:∀ c y,Rch (zd l) (many l) (quoB (zd l) l) (tot l).toNat c y->y0<=y):dR y0 (zd l)=dR room (bot l):=by
 have hb:=z6 hok;have hP:=zaB hok;have hql:=zbB hok (zd l);have htn:=zZ fun s hs=>(hok.2.1 s hs).1
 have hq:∀ t,1<=t->t<=(tot l).toNat->((quoB (zd l) l).getD t []).length=many l:=fun t _ ht=>by
  rw [YaP,YaQ #[0]]
  exact jK hok (Ya4 _)
 have hlen:∀ row:List Int,row.length=(tot l).toNat->∀ t,t<row.length->(zU (bot l) (many l) (quo l) row t).length=many l:=fun row hr t ht=>by
  have hqo:=jF hok;have hmem:(quo l).getD (t+1) []∈quo l:=by
   rw [YaP,YaQ #[0]];exact Ya4 _
  have h2:=jK hok (b:=bot l) hmem;unfold zU subL;rw [YaR,List.length_zip,jV,h2,Nat.min_self]
 have hrow:=zey (B:=zd l) hq _ (YaY _);obtain⟨r0,r1,⟨row,hr,hk⟩,r3⟩:=id hl;have hf:=zmz hl hr hk (hlen row hr.1);obtain⟨x,hx⟩:=zbM (zP (zd l) (many l) (quoB (zd l) l) row row.length);have ex:=zdO hb hP (zbO hok) hf hx;have hrl:=hr.1;have hyx:y0<=x:=h2 _ x ((hrow _ x).mpr ⟨row,hr,rfl,hrl ▸ hx⟩);obtain⟨c,hc⟩:=h1;obtain⟨row0,hr0,_,hf0⟩:=(hrow _ _).mp hc;have hrl0:=hr0.1
 rw [<-hrl0] at hf0;obtain⟨z,hz⟩:=zbM (zP (bot l) (many l) (quo l) row0 row0.length);have ez:=zdO hb hP (zbO hok) hz hf0;have hrz:room<=z:=by
  rcases Int.lt_or_le z room with h|h
  . exfalso
    refine r3 z hz.1 h ⟨row0,hr0,fun ld hld i v p hv hp=>?_⟩
    have hi:i<many l:=by
     have:=(Ya8.mp hp).1;rwa [Ybb] at this
    have e:p=(z,z):=by rw [Yad,if_pos hi] at hp;exact(Wbe hp).symm
    have:=hz.2.1 v (Wbb.mpr ⟨ld,hld,Yah hv⟩);rw [e];show -z<=v/\v<=z
    omega
  . exact h
 have m1:y0*bot l<=x*bot l:=Ybe hyx #[0]
 have m2:room*zd l<=z*zd l:=Ybe hrz #[0]
 have:=zkm hb hP (a:=room) (c:=y0) #[0]
 unfold dR;rw [this.1,this.2]
abbrev Tab:=List (List Int×Int)
def getI(tb:Tab)(c:List Int):Option Int:=(tb.find? fun p=>decide (p.1=c)).map (·.2)
def putI(tb:Tab)(c:List Int)(y:Int):Tab:=if(tb.any fun p=>decide (p.1=c))=true then tb.map (fun p=>if p.1=c then(p.1,y) else p) else tb++[(c,y)]
theorem zlh(tb:Tab)(c c':List Int)(y:Int):getI (putI tb c y) c'=if c=c' then some y else getI tb c':=by
 unfold putI
 split
 . rename_i h
   induction tb with
   | nil=>cases h
   | cons p r ih=>
    unfold getI at ih ⊢;rw [Ya1,List.find?_cons,List.find?_cons]
    by_cases e:p.1=c
    . rw [if_pos e]
      by_cases e':c=c'
      . subst e'
        simp [e]
      . have e2:¬p.1=c':=fun z=>e' (e.symm.trans z)
        simp only [e2,decide_false]
        by_cases hr:(r.any fun p=>decide (p.1=c))=true
        . exact ih hr
        . rw [if_neg e']
          have hm:r.map (fun p=>if p.1=c then(p.1,y) else p)=r:=by
           refine(Yat fun p hp=>?_).trans (List.map_id r)
           have:¬p.1=c:=fun z=>hr (List.any_eq_true.mpr ⟨p,hp,decide_eq_true z⟩)
           rw [if_neg this];rfl
          rw [hm]
    . rw [if_neg e]
      rw [List.any_cons,decide_eq_false e,Wbr] at h
      by_cases e':p.1=c'
      . have e2:¬c=c':=fun z=>e (e'.trans z.symm)
        simp [e',e2]
      . simp only [e',decide_false]
        exact ih h
 . rename_i h
   unfold getI;rw [List.find?_append]
   by_cases e:c=c'
   . subst e
     have:tb.find? (fun p=>decide (p.1=c))=none:=List.find?_eq_none.mpr fun p hp z=>h (List.any_eq_true.mpr ⟨p,hp,z⟩)
     rw [this];simp
   . rw [if_neg e]
     have:([(c,y)]:Tab).find? (fun p=>decide (p.1=c'))=none:=by simp [e]
     rw [this,Option.or_none]
def jq(tb:Tab)(L:List (List Int×Int)):Prop:=∀ c,(∀ m,getI tb c=some m->(c,m)∈L/\∀ y,(c,y)∈L->m<=y)/\∀ y,(c,y)∈L->(getI tb c).isSome=true
def upd1(tb:Tab)(c:List Int)(y:Int):Tab:=putI tb c (if(getI tb c).getD y<y then(getI tb c).getD y else y)
theorem jq.snoc{tb:Tab}{L:List (List Int×Int)}(h:jq tb L)(c:List Int)(y:Int):jq (upd1 tb c y) (L++[(c,y)]):=by
 intro c';unfold upd1;rw [zlh]
 by_cases e:c=c'
 . subst e
   rw [if_pos rfl];refine⟨fun m hm=>?_,fun _ _=>rfl⟩
   have hm:=Wbe hm;obtain⟨h1,h2⟩:=h c;cases g:getI tb c with
   | none=>
    rw [g] at hm;have e:m=y:=by rw [<-hm];show(if y<y then y else y)=y;split<;>rfl
    subst e;refine⟨by simp,fun y' hy'=>?_⟩
    rcases Ya3.mp hy' with z|z
    . have:=h2 y' z;rw [g] at this;cases this
    . cases Ya6.mp z;exact WbI _
   | some z0=>
    rw [g] at hm;obtain⟨g1,g2⟩:=h1 z0 g;have hm:(if z0<y then z0 else y)=m:=hm
    refine⟨?_,fun y' hy'=>?_⟩
    . rw [<-hm];split
      . exact Yai _ g1
      . simp
    . rcases Ya3.mp hy' with z|z
      . have:=g2 y' z;rw [<-hm];split<;>omega
      . cases Ya6.mp z;rw [<-hm];split<;>omega
 . rw [if_neg e]
   have hne:∀ y',(c',y')∈L++[(c,y)]↔(c',y')∈L:=fun y'=>by
    constructor
    . intro z
      rcases Ya3.mp z with z|z
      . exact z
      . exact absurd (congrArg Prod.fst (Ya6.mp z)).symm e
    . exact Yai _
   obtain⟨h1,h2⟩:=h c';exact⟨fun m hm=>⟨(hne m).mpr (h1 m hm).1,fun y' hy'=>(h1 m hm).2 y' ((hne y').mp hy')⟩,fun y' hy'=>h2 y' ((hne y').mp hy')⟩
def Good(B:Int)(n:Nat)(qs:List (List Int))(t:Nat)(tb:Tab):Prop:=∀ c,(∀ y,getI tb c=some y->MinR B n qs t c y)/\∀ y,Rch B n qs t c y->(getI tb c).isSome=true
theorem Good.zero{B:Int}{n:Nat}{qs:List (List Int)}:Good B n qs 0 [(List.replicate n 0,0)]:=by
 intro c
 by_cases e:List.replicate n (0:Int)=c
 . subst e
   have g:getI [(List.replicate n (0:Int),(0:Int))] (List.replicate n 0)=some 0:=by simp [getI]
   refine⟨fun y hy=>?_,fun y _=>by rw [g];rfl⟩
   rw [g] at hy;cases hy;exact⟨⟨rfl,rfl⟩,fun y' h=>by rw [h.2];exact WbI _⟩
 . have g:getI [(List.replicate n (0:Int),(0:Int))] c=none:=by simp [getI,e]
   exact⟨fun y hy=>(by rw [g] at hy;cases hy),fun y h=>absurd h.1.symm e⟩
theorem Good.next{B:Int}{n:Nat}{qs:List (List Int)}{t:Nat}{tb later:Tab}(h:Good B n qs t tb){L:List (List Int×Int)}(hL:∀ c' y',(c',y')∈L↔∃ c y,getI tb c=some y/\∃ k:Nat,k<n/\c'=had1 1 c k/\y'=zy B (qs.getD (t+1) []) c' n y)(hl:jq later L):Good B n qs (t+1) later:=by
 have up:∀ c' y',Rch B n qs (t+1) c' y'->∃ m,(c',m)∈L/\m<=y':=fun c' y' hr=>by
  obtain⟨c,y,hc,k,hk,e1,e2⟩:=hr;obtain⟨h1,h2⟩:=h c;obtain⟨y1,hy1⟩:=Wal.mp (h2 y hc);have:=(h1 y1 hy1).2 y hc;exact⟨_,(hL c' _).mpr ⟨c,y1,hy1,k,hk,e1,rfl⟩,by rw [e2];exact zer n this⟩
 intro c';obtain⟨l1,l2⟩:=hl c';refine⟨fun m hm=>?_,fun y' hr=>?_⟩
 . obtain⟨g1,g2⟩:=l1 m hm
   obtain⟨c,y,hy,k,hk,e1,e2⟩:=(hL c' m).mp g1;refine⟨⟨c,y,((h c).1 y hy).1,k,hk,e1,e2⟩,fun y' hr=>?_⟩
   obtain⟨m',hm',hle⟩:=up c' y' hr;have:=g2 m' hm'
   omega
 . obtain⟨m',hm',_⟩:=up c' y' hr
   exact l2 m' hm'
theorem Good.least{B:Int}{n:Nat}{qs:List (List Int)}{t:Nat}{tb:Tab}(h:Good B n qs t tb){y0:Int}(h1:∃ c,getI tb c=some y0)(h2:∀ c y,getI tb c=some y->y0<=y):(∃ c,Rch B n qs t c y0)/\∀ c y,Rch B n qs t c y->y0<=y:=by
 obtain⟨c,hc⟩:=h1;refine⟨⟨c,((h c).1 y0 hc).1⟩,fun c y hr=>?_⟩
 obtain⟨y1,hy1⟩:=Wal.mp ((h c).2 y hr);have:=h2 c y1 hy1;have:=((h c).1 y1 hy1).2 y hr
 omega
def encT(tb:Tab):List (List Key×D):=tb.map fun p=>(p.1.map Sum.inl,PyData.int p.2)
theorem zb6:∀ {a b:List Int},(a.map Sum.inl:List Key)=b.map Sum.inl->a=b
 | [],[],_=>rfl
 | [],_::_,h=>by cases h
 | _::_,[],h=>by cases h
 | x :: r, y :: s, h => by
  injection h with h1 h2
  injection h1 with h1
  rw [h1,zb6 h2]
theorem zcu(a c:List Int):decide ((a.map Sum.inl:List Key)=c.map Sum.inl)=decide (a=c):=by
 by_cases e:a=c
 . rw [e];simp
 . rw [decide_eq_false e,decide_eq_false fun z=>e (zb6 z)]
theorem zbI(tb:Tab)(c:List Int):getT (encT tb) (c.map Sum.inl)=(getI tb c).map PyData.int:=by
 unfold getT getI encT
 induction tb with
 | nil=>rfl
 | cons p r ih=>
  rw [Ya1,List.find?_cons,List.find?_cons,zcu]
  by_cases e:p.1=c
  . rw [decide_eq_true e];rfl
  . rw [decide_eq_false e];exact ih
theorem zeq(tb:Tab)(c:List Int)(y:Int):putT (encT tb) (c.map Sum.inl) (.int y)=encT (putI tb c y):=by
 have ha:((encT tb).any fun kv=>decide (kv.1=(c.map Sum.inl:List Key)))=tb.any fun p=>decide (p.1=c):=by
  unfold encT;rw [List.any_map]
  congr 1
  funext p
  exact zcu p.1 c
 unfold putT putI;rw [ha]
 split
 . unfold encT
   rw [YaD,YaD];refine Yat fun p _=>?_
   show(if(p.1.map Sum.inl:List Key)=c.map Sum.inl then _ else _)=_
   by_cases e:p.1=c
   . rw [if_pos (by rw [e])]
     simp only [Function.comp,if_pos e]
   . rw [if_neg fun z=>e (zb6 z)]
     simp only [Function.comp,if_neg e]
 . unfold encT
   rw [Ya2];rfl
theorem zkA(tb:Tab)(c:List Int)(y:Int):(putI tb c y).length<=tb.length+1:=by
 unfold putI
 split
 . rw [YaR];omega
 . rw [YaS];simp
theorem ZI(c:List Int):keyT (c.map Sum.inl)=.tuple (c.map PyData.int):=by
 unfold keyT;rw [YaD];rfl
theorem Rch.small{B:Int}{n:Nat}{qs:List (List Int)}:∀ {t:Nat} {c:List Int} {y:Int},Rch B n qs t c y->∀ x∈c,0<=x/\x<=(t:Int)
 | 0, _, _, ⟨h, _⟩, x, hx => by
  rw [h] at hx;have:=Wan hx
  omega
 | t + 1, _, _, ⟨c, y, h, k, hk, e, _⟩, x, hx => by
  have ih:=Rch.small h;have hl:=Rch.len h;rw [e] at hx;unfold had1 at hx;rw [Int.toNat_natCast] at hx
  rcases Wak hx with z|z
  . have:=ih x z
    omega
  . have hm:c.getD k 0∈c:=by rw [YaP,YaQ #[0]];exact Ya4 _
    have:=ih _ hm
    omega
theorem jq.nil:jq [] []:=fun c=>⟨fun m h=>(by cases h),fun y h=>(by cases h)⟩
theorem za5{tb:Tab}{p:List Int×Int}(h:p∈tb):∃ y,getI tb p.1=some y:=by
 unfold getI;have:(tb.find? fun r=>decide (r.1=p.1)).isSome=true:=List.find?_isSome.mpr ⟨p,h,decide_eq_true rfl⟩
 obtain⟨r,hr⟩:=Wal.mp this;exact⟨r.2,by rw [hr];rfl⟩
theorem zd6{tb:Tab}{c:List Int}{y:Int}(h:getI tb c=some y):(c,y)∈tb:=by
 unfold getI at h;cases e:tb.find? (fun p=>decide (p.1=c)) with
 | none=>rw [e] at h;cases h
 | some r=>
  rw [e] at h;have h1:=List.mem_of_find?_eq_some e;have h2:=List.find?_some e;have h3:r.1=c:=of_decide_eq_true h2;have h4:r.2=y:=Wbe h;rw [<-h3,<-h4];exact h1
def J5(B:Int)(q:List Int)(n:Nat)(tb:Tab)(c:List Int)(k:Nat):List Int×Int:=(had1 1 c k,zy B q (had1 1 c k) n ((getI tb c).getD 0))
def jQ(B:Int)(q:List Int)(n:Nat)(tb done:Tab):List (List Int×Int):=done.flatMap fun p=>(List.range n).map (J5 B q n tb p.1)
theorem znB(B:Int)(q:List Int)(n:Nat)(tb done:Tab)(p:List Int×Int):jQ B q n tb (done++[p])=jQ B q n tb done++(List.range n).map (J5 B q n tb p.1):=by
 unfold jQ;rw [List.flatMap_append,List.flatMap_cons,List.flatMap_nil,Yao]
theorem zlU{B:Int}{q:List Int}{n:Nat}{tb:Tab}(c':List Int)(y':Int):(c',y')∈jQ B q n tb tb↔∃ c y,getI tb c=some y/\∃ k:Nat,k<n/\c'=had1 1 c k/\y'=zy B q c' n y:=by
 unfold jQ;rw [List.mem_flatMap]
 constructor
 . rintro⟨p,hp,h⟩
   obtain⟨k,hk,e⟩:=Ya7.mp h;obtain⟨y,hy⟩:=za5 hp;unfold J5 at e;rw [hy] at e
   injection e with e1 e2
   subst e1;exact⟨p.1,y,hy,k,Yba.mp hk,rfl,e2.symm⟩
 . rintro⟨c,y,hy,k,hk,rfl,rfl⟩
   refine⟨(c,y),zd6 hy,Ya7.mpr ⟨k,Yba.mpr hk,?_⟩⟩
   unfold J5;rw [hy];rfl
theorem znM{c:List Int}{k:Nat}{i j x:Int}(h:k<c.length)(hi:i=k)(hj:j=(k:Int)+1)(hx:c[k]?=some x):cut (c.map PyData.int) none (some i)++[PyData.int (x+1)]++cut (c.map PyData.int) (some j) none=(had1 1 c k).map PyData.int:=by
 subst hi hj;rw [zfo,zfo,zjR _ #[0] #[0],zmg _ #[0] #[0],Int.toNat_natCast,show((k:Int)+1).toNat=k+1 by omega]
 unfold had1;rw [Int.toNat_natCast,List.set_eq_take_append_cons_drop,if_pos h,Ya2,Ya1,YaP,hx]
 simp
theorem zdX(tb:Tab):(encT tb).map (fun kv=>keyT kv.1)=tb.map fun p=>PyData.tuple (p.1.map PyData.int):=by
 unfold encT;rw [YaD];exact Yat fun p _=>ZI p.1
theorem Good.upd{B:Int}{n:Nat}{qs:List (List Int)}{t:Nat}{tb later:Tab}(h:Good B n qs t tb)(hl:jq later (jQ B (qs.getD (t+1) []) n tb tb)):Good B n qs (t+1) later:=h.next (fun c' y'=>zlU c' y') hl
theorem Good.min{B:Int}{n:Nat}{qs:List (List Int)}{t:Nat}{tb:Tab}(h:Good B n qs t tb)(hn:tb≠[]):(∃ c,Rch B n qs t c (minL (tb.map fun p=>(getI tb p.1).getD 0)))/\∀ c y,Rch B n qs t c y->minL (tb.map fun p=>(getI tb p.1).getD 0)<=y:=by
 refine h.least ?_ fun c y hy=>?_
 . have hm:=zhl (ws:=tb.map fun p=>(getI tb p.1).getD 0) (by simpa using hn)
   obtain⟨p,hp,e⟩:=Ya7.mp hm;obtain⟨y,hy⟩:=za5 hp;refine⟨p.1,?_⟩;rw [<-e,hy];rfl
 . have:(getI tb c).getD 0∈tb.map fun p=>(getI tb p.1).getD 0:=Ya7.mpr ⟨(c,y),zd6 hy,rfl⟩
   have:=zmt this;rwa [hy] at this
def cut3(l:List Spell):List Spell:=(l.filter fun s=>decide (0<(s.2.take 3).sum)).map fun s=>(s.1,s.2.take 3)
theorem zcY(l:List Spell)(s:Spell):cut3 (l++[s])=if 0<(s.2.take 3).sum then cut3 l++[(s.1,s.2.take 3)] else cut3 l:=by
 unfold cut3;rw [WaJ,Ya2,YaM,List.filter_nil]
 by_cases h:0<(s.2.take 3).sum
 . rw [decide_eq_true h,if_pos rfl,if_pos h];rfl
 . rw [decide_eq_false h,if_neg #[1],if_neg h,Wbz,Yao]
theorem zk2{α : Type}(xs:List α):cut xs none (some 3)=xs.take 3:=by
 unfold cut;have h:=HT.sIx_nat xs.length xs.length 3;rw [show((3:Nat):Int)=3 from rfl] at h
 rw [h,HT.sIx_none,List.drop_zero,Nat.sub_zero]
 rcases Nat.lt_or_ge xs.length 3 with z|z
 . rw [Nat.min_eq_right #[0],YaH,Was #[0]]
 . rw [Nat.min_eq_left z]
theorem zc1(p:Spell->Bool)(f:Spell->Spell)(hf:∀ s,(f s).1=s.1):∀ l:List Spell,(∀ s∈l,1<=s.1)->tot ((l.filter p).map f)<=tot l
 | [],_=>WbI _
 | s :: r, h => by
  have ih:=zc1 p f hf r fun x hx=>h x (YaT _ hx)
  have h1:=h s YaV;unfold tot at ih ⊢;rw [YaM];cases p s with
  | true=>
   rw [if_pos rfl,Ya1,Ya1,Ya1,List.sum_cons,List.sum_cons,hf]
   omega
  | false=>
   rw [if_neg #[1],Ya1,List.sum_cons]
   omega
theorem znX{l:List Spell}(hok:okS l)(hne:cut3 l≠[]):okS (cut3 l)/\many (cut3 l)<=3/\tot (cut3 l)<=tot l:=by
 have ht:tot (cut3 l)<=tot l:=zc1 _ (fun s=>(s.1,s.2.take 3)) (fun _=>rfl) l fun s hs=>(hok.2.1 s hs).1
 have hlen:(cut3 l).length<=l.length:=by
  unfold cut3;rw [YaR];exact List.length_filter_le _ _
 have hin:∀ s∈cut3 l,1<=s.1/\okW s.2/\s.2.length=min 3 (many l):=fun s hs=>by
  obtain⟨r,hr,rfl⟩:=Ya7.mp hs;obtain⟨h1,h2⟩:=Ya9.mp hr;have h2:0<(r.2.take 3).sum:=of_decide_eq_true h2;obtain⟨g1,g2,g3⟩:=hok.2.1 r h1;have gl:=g2.1;refine⟨g1,⟨?_,fun w hw=>g2.2.1 w (List.mem_of_mem_take hw),fun z=>by have z:(r.2.take 3).sum=0:=z;omega⟩,?_⟩
  . show 1<=(r.2.take 3).length/\(r.2.take 3).length<=8
    rw [Wa5];omega
  . show(r.2.take 3).length=_
    rw [Wa5,g3]
 have hm:many (cut3 l)=min 3 (many l):=by
  unfold many;cases e:cut3 l with
  | nil=>exact absurd e hne
  | cons a r=>exact(hin a (by rw [e];exact YaV)).2.2
 have hl1:1<=(cut3 l).length:=by
  cases e:cut3 l with
  | nil=>exact absurd e hne
  | cons a r=>rw [List.length_cons];omega
 have h8:=hok.1.2;have h60:=hok.2.2;exact⟨⟨⟨hl1,#[0]⟩,fun s hs=>⟨(hin s hs).1,(hin s hs).2.1,by rw [hm];exact(hin s hs).2.2⟩,#[0]⟩,#[0],ht⟩
theorem zjN:okS [(2,[1,0])]:=by
 refine⟨⟨#[1],#[1]⟩,fun s hs=>?_,#[1]⟩
 rw [Ya6.mp hs];refine⟨#[1],⟨⟨#[1],#[1]⟩,fun w hw=>?_,#[1]⟩,rfl⟩
 rcases Wbo.mp hw with e|hw
 . rw [e];decide
 . rw [Ya6.mp hw];decide
theorem zi8:bot [(2,[1,0])]=1:=#[1]
theorem zju{room:Int}(h:ZR [(2,[1,0])] room):dR room (bot [(2,[1,0])])=.tuple [.int 0,.int 1]:=by
 obtain⟨h0,h1,_⟩:=h;rw [zi8] at h1 ⊢;have e:room=0:=#[0]
 rw [e];rfl
theorem zdk{B:Int}{n:Nat}{qs:List (List Int)}(hn:1<=n):∀ t:Nat,∃ c y,Rch B n qs t c y
 | 0=>⟨_,_,rfl,rfl⟩
 | t + 1 => by
  obtain⟨c,y,h⟩:=zdk (B:=B) (qs:=qs) hn t;exact⟨_,_,c,y,h,0,#[0],rfl,rfl⟩
theorem Good.ne{B:Int}{n:Nat}{qs:List (List Int)}{t:Nat}{tb:Tab}(h:Good B n qs t tb)(hn:1<=n):tb≠[]:=fun e=>by
 obtain⟨c,y,hr⟩:=zdk (B:=B) (qs:=qs) hn t;have:=(h c).2 y hr;rw [e] at this;cases this
theorem zfN{c:TT3}{ρ : Env3}{P R:Prop}(h:∀ Y N:Prop,(P->Y)->(R->N)->c ρ fun k=>if k=true then Y else N):c ρ fun k=>if k=true then P else R:=h P R id id
section
variable{P:Program}{w:World}{c:Law.Cl}{K:Ybf}{mg:Str->Option Value}{base:Heap}
def JG:Sp3:=fun ds Q E=>∃ ns k,ds=[dI ns,.int k]/\0<=k/\∀ v:Int,Q true (.int v)
def Ze:Sp3:=fun ds Q E=>∃ cc k,ds=[.int cc,.int k]/\0<=k/\k<100000/\∀ v:Int,Q true (.int v)
def Jw:Sp3:=fun ds Q E=>∃ cc k,ds=[.int cc,.int k]/\0<=k/\k<100000/\∀ v:Int,Q true (.int v)
def Zc:Sp3:=fun ds Q E=>∃ ns m,ds=[dI ns,.int m]/\4<=m/\m<=60/\∀ l,okS l->tot l<=m->Q true (dSs l)
def J0:Sp3:=fun ds Q E=>∃ l,ds=[dSs l]/\okS l/\Q true (.tuple [.int (zd l),.list ((quoB (zd l) l).map dI)])
def Zp(c:Law.Cl):Sp3:=fun ds Q E=>∃ ws,ds=[dI ws]/\(okW ws->Q true .none)/\(¬okW ws->E c.NoSpell)
def JJ:Sp3:=fun ds Q E=>∃ l,ds=[dSs l]/\l.length<=1000/\Q true (.int (tot l))
def JM(c:Law.Cl):Sp3:=fun ds Q E=>∃ l,ds=[dSs l]/\(okS l->Q true .none)/\(¬okS l->E c.NoSpell)
def Je:Sp3:=fun ds Q _=>∃ a b,ds=[.int a,.int b]/\Q true (.int (Int.gcd a b))
def j7:Sp3:=fun ds Q E=>∃ ws,ds=[dI ws]/\Q true (.int (gcdL ws))
def J6:Sp3:=fun ds Q E=>∃ l,ds=[dSs l]/\okS l/\Q true (.int (bot l))
def Zw:Sp3:=fun ds Q E=>∃ b ws,ds=[.int b,dI ws]/\okW ws/\Bits 2000 b/\Q true (dI (shares b ws))
def JN(c:Law.Cl):Sp3:=fun ds Q E=>∃ l,ds=[dSs l]/\(okS l->Q true (.tuple [.int (bot l),.list ((quo l).map dI)]))/\(¬okS l->E c.NoSpell)
def Jt:Sp3:=fun ds Q E=>∃ l:List Spell,ds=[dT l]/\okS l/\∀ ns:List Int,ns.Pairwise (· < ·)->(∀ r,r∈ns↔posR l r)->ns.length<1000->Q true (dI ns)
def JA:Sp3:=fun ds Q E=>∃ (w:List Win) (g:Int),ds=[.list (w.map dW),.int g]/\Q true (.bool (jA w g))
def J3:Sp3:=fun ds Q E=>∃ (w:List Win) (t:Int),ds=[.list (w.map dW),.int t]/\Q true (match z8 t w with|none=>.none|some p=>.int (p:Nat))
def JZ:Sp3:=fun ds Q E=>∃ (g:List Win),ds=[.list (g.map dW)]/\Q true (.int (zK g.length g 1 1))
def JH:Sp3:=fun ds Q E=>∃ (v:Win) (T:Int),ds=[dW v,.int T]/\Q true (kd3 (kl T v,v.1,v.2.1))
def J7:Sp3:=fun ds Q E=>∃ (T:Int) (V:List Win),ds=[.int T,.list (V.map dW)]/\0<=T/\T<=100/\V.length<1000/\OkVs T V/\∀ d,(zax T V d\/zag V d\/rowP T V d)->Q true d
def Zm:Sp3:=fun ds Q E=>∃ (path:List Int) (w:Int),ds=[dI path,.int w]/\path.length<=61/\1<=path.length/\Q true (.int (zr path.length fun t=>decide (w<=path.getD t 0)))
def JU:Sp3:=fun ds Q E=>∃ (b:Int) (path:List Int) (j:Int) (room:Int×Int),ds=[.int b,dI path,.int j,dRoom room]/\path.length<=61/\1<=path.length/\Bits 2000 b/\Bits 64 j/\Q true (.tuple [.int (winB b path room j).1,dO (winB b path room j).2])
def Ju:Sp3:=fun ds Q E=>∃ (b:Int) (q:List (List Int)) (k:Nat) (room:Int×Int) (n:Nat),ds=[.tuple [.int b,.list (q.map dI)],.int k,dRoom room]/\0<b/\Bits 2000 b/\k<n/\q.length<=61/\1<=q.length/\(∀ r∈q,r.length=n)/\(∀ r∈q,r.getD k 0+room.2<=80*b)/\0<=room.1/\0<=room.2/\room.2<=80*b/\∀ ws,IsW q.length k (winB b (zf q k) room) 1 ws->ws.length<=200->Q true (.list (ws.map dW))
def JK:Sp3:=fun ds Q E=>∃ (b:Int) (q:List (List Int)) (rooms:List (Int×Int)) (n:Nat),ds=[.tuple [.int b,.list (q.map dI)],.list (rooms.map dRoom)]/\0<b/\Bits 2000 b/\rooms.length=n/\n<=8/\q.length<=61/\1<=q.length/\(∀ r∈q,r.length=n)/\(∀ r∈q,∀ x∈r,x<=60*b)/\(∀ p∈rooms,0<=p.1/\0<=p.2/\p.2<=20*b)/\∀ W:List (List Win),W.length=n->(∀ k,k<n->IsW q.length k (winB b (zf q k) (rooms.getD k (0,0))) 1 (W.getD k []))->W.flatten.length<=2000->Q true (.list (W.flatten.map dW))
def Zj:Sp3:=fun ds Q E=>∃ (l:List Spell) (room:Int),ds=[dT l,.int room]/\okS l/\0<=room/\room<=bot l/\∀ W:List (List Win),IsWs l (bsR l room) W->∀ d,(zax (tot l) W.flatten d\/zag W.flatten d\/rowP (tot l) W.flatten d)->Q true d
def JE:Sp3:=fun ds Q E=>∃ l:List Spell,ds=[dT l]/\okS l/\∀ room,ZR l room->Q true (.int room)
def Jm:Sp3:=fun ds Q E=>∃ a,ds=[.int a]/\Q true (.bool true)
def Zi:Sp3:=fun ds Q E=>∃ a b,ds=[.int a,.int b]/\0<b/\Bits 9000 b/\Q true (dR a b)
def Zv(c:Law.Cl):Sp3:=fun ds Q E=>∃ l:List Spell,ds=[dSs l]/\(¬okS l->E c.NoSpell)/\(okS l->∀ (room:Int) (row:List Int) (why:D),ZR l room->(∀ W,IsWs l (bsR l room) W->rowP (tot l) W.flatten (.tuple [.str "row", dI row]))->(room=0->why=.none)->(0<room->∀ W,IsWs l (bsR l (room - 1)) W->zax (tot l) W.flatten why\/zag W.flatten why)->Q true (.tuple [dR room (bot l),dI row,why]))
def J2:Sp3:=fun ds Q E=>∃ a b,ds=[.int a,.int b]/\0<b/\Bits 9000 b/\Q true (dR a b)
def Js:Sp3:=fun ds Q E=>∃ l:List Spell,ds=[.int (zd l),.list ((quoB (zd l) l).map dI)]/\okS l/\many l<=3/\tot l<=6/\∀ y:Int,(∃ c,Rch (zd l) (many l) (quoB (zd l) l) (tot l).toNat c y)->(∀ c y',Rch (zd l) (many l) (quoB (zd l) l) (tot l).toNat c y'->y<=y')->Q true (.int y)
def Jp:Sp3:=fun ds Q E=>∃ ns,ds=[dI ns]/\ns.length<=63/\Q true (.bool true)
section
variable(c:Law.Cl)(P:Program)(w:World)(K:Ybf)(mg:Str->Option Value)(base:Heap)
abbrev dd_law_cell_at:=Df3 P w K mg base 1 "_law_cell_at" ["_law_script", "_law_k"] JG
abbrev dd_law_mixed:=Df3 P w K mg base 1 "_law_mixed" ["_law_cell", "_law_k"] Ze
abbrev dd_law_wide:=Df3 P w K mg base 2 "_law_wide" ["_law_cell", "_law_k"] Jw
abbrev dd_law_spells:=Df3 P w K mg base 3 "_law_spells" ["_law_script", "_law_most"] Zc
abbrev dd_law_quotas:=Df3 P w K mg base 1 "_law_quotas" ["_law_spells_here"] J0
abbrev dd_check_weights:=Df3 P w K mg base 1 "check_weights" ["weights"] (Zp c)
abbrev dd_all_turns:=Df3 P w K mg base 1 "all_turns" ["spells"] JJ
abbrev dd_check_spells:=Df3 P w K mg base 2 "check_spells" ["spells"] (JM c)
abbrev dd_common_divisor:=Df3 P w K mg base 1 "common_divisor" ["one", "other"] Je
abbrev dd_divisor_of_all:=Df3 P w K mg base 2 "divisor_of_all" ["weights"] j7
abbrev dd_least_bottom:=Df3 P w K mg base 3 "least_bottom" ["spells"] J6
abbrev dd_shares_over:=Df3 P w K mg base 1 "shares_over" ["bottom", "weights"] Zw
abbrev dd_quotas:=Df3 P w K mg base 4 "quotas" ["spells"] (JN c)
abbrev dd_possible_rooms:=Df3 P w K mg base 1 "possible_rooms" ["told"] Jt
abbrev dd_is_late:=Df3 P w K mg base 1 "is_late" ["waiting", "gone"] JA
abbrev dd_place_of_opened:=Df3 P w K mg base 1 "place_of_opened" ["waiting", "turn"] J3
abbrev dd_start_of_crowd:=Df3 P w K mg base 1 "start_of_crowd" ["given"] JZ
abbrev dd_pressing:=Df3 P w K mg base 1 "pressing" ["visit", "turns"] JH
abbrev dd_deal:=DfU c.tb P w K mg base 5 "deal" ["turns", "windows"] J7
abbrev dd_first_turn:=Df3 P w K mg base 1 "first_turn" ["path", "wanted"] Zm
abbrev dd_window_of:=Df3 P w K mg base 2 "window_of" ["bottom", "path", "j", "room"] JU
abbrev dd_windows_of_clan:=Df3 P w K mg base 3 "windows_of_clan" ["told", "clan", "room"] Ju
abbrev dd_windows_within:=Df3 P w K mg base 4 "windows_within" ["told", "rooms"] JK
abbrev dd_dealt_within:=DfU c.tb P w K mg base 6 "dealt_within" ["told", "room"] Zj
abbrev dd_least_room:=DfU c.tb P w K mg base 7 "least_room" ["told"] JE
abbrev dd_is_whole:=Df3 P w K mg base 1 "is_whole" ["value"] Jm
abbrev dd_ratio:=Df3 P w K mg base 2 "ratio" ["top", "bottom"] Zi
abbrev dd_least:=DfU c.tb P w K mg base 8 "least" ["spells"] (Zv c)
abbrev dd_law_ratio:=Df3 P w K mg base 1 "_law_ratio" ["_law_top", "_law_bottom"] J2
abbrev dd_law_best:=Df3 P w K mg base 1 "_law_best" ["_law_bottom", "_law_rows"] Js
end
local macro_rules | `(tactic| walk_at $w:str)=>do
 let ws:=w.getString.splitOn " "
 if ws.head? == some "o" then return (<-`(tactic| first|exact Or.inl rfl|exact Or.inr rfl|exact Or.inr (Or.inl rfl)|exact Or.inr (Or.inr rfl)))
 unless ws.head? == some "rd" do Lean.Macro.throwUnsupported
 let ds <-("seq3,next3,set3,own3,ret3,ifS3,tt3,o3,u3,v3,atV,asS,asB,asD,optP,asT,asLd,asL,atO,jN,nilP,asId,asI,k3,nw3,add3,int3,int0,neg3,eq3,ne3,eqOk,eqv3,isN3,notN3,isNone,ix3,ixD,Z4,nil3,J9,cb3,len3,lenD,abs3,max23,min23,sum3,min3,if3,and3,or3,not3,Z8,Z5,ch3,tup3,lst3,slL3,no3,ZA,ZG,L2.isD,ZS,asg3,gn3,Z6,jW,gnil3,app3,put3,frzS,frz,frz1,for3,itL,itZ,rg1,rg2,jX,true3,cst3,ZJ,z5,shs,Cl.d,Cl.dat,Cl.f,zaC,zA,Option.map_some,Option.map_none,Option.isSome_some,Option.isSome_none,Option.join_some,Option.join_none,List.all_cons,List.all_nil,Wbq,Wbr,WbA,Ya1,Wbz,List.length_cons,List.length_nil,Nat.reduceAdd,Nat.reduceSub,List.replicate,List.cons_append,List.nil_append,List.getElem?_cons_zero,List.getElem?_cons_succ,List.set_cons_zero,List.set_cons_succ,Wbt,Wbn,Z1,par3,aug3,ext3,itE,Zx,itE1,slT3,zab,ZW,ZL,ZM,atK,frzD,itD,ZF,ZX,ZN,ZP,ZE,zaa,JG,Ze,Jw,Zc,J0,Zp,JJ,JM,Je,j7,J6,Zw,JN,Jt,JA,J3,JZ,JH,J7,Zm,JU,Ju,JK,Zj,JE,Jm,Zi,Zv,J2,Js,Jp,dSs,dS,dI,zA,dQ,dRoom,dW,dT".splitOn ",").toArray.mapM fun s=>`(Lean.Parser.Tactic.simpLemma| $(Lean.mkIdent s.toName):term)
 let rs <-(("Wbv,Wbs,Wbp,WbF,WbC,Yao,WaO,Cl.sh.injEq,Cl.ow.injEq,Wbc,Wa0,Wbd,Wa1,WaK,Wbh,reduceCtorEq,and_assoc,and_true,true_and,and_self,exists_eq_left,exists_eq_left',exists_eq',exists_eq_right,exists_eq_right',exists_and_left,exists_const,exists_false,false_and,and_false,or_false,false_or,or_true,true_or,decide_true,decide_false,decide_eq_true_eq,WaH,WaL,if_true,if_false,ite_true,ite_false,WaN,decide_eq_false_iff_not,eq_self_iff_true,not_true_eq_false,not_false_eq_true,sz0,sz1,sz2,sz3,sz4,Cl.dt.injEq,Cl.fd.injEq,atI0,atI1,atI2,atI3".splitOn ",")++ws.tail).toArray.mapM fun s=>`(Lean.Parser.Tactic.simpLemma| $(Lean.mkIdent s.toName):term)
 let ls:=ds++rs
 `(tactic| ((try dsimp only [$ds:simpLemma,*]);try simp (config:={ maxSteps:=2000000 }) only [$ls:simpLemma,*]))
theorem zjG:FnScope ["_law_script", "_law_k"] ["_law_script", "_law_k"] (ze JW):=⟨rfl,rfl,rfl,#[3],rfl,#[3],#[3]⟩
theorem zfT(T:Txt c K mg){f:Addr}{fd:FuncData}(F:Fun K "_law_cell_at" "_law_cell_at" JW f fd):FnOk P w K mg base (CXR P w) 1 f fd ["_law_script", "_law_k"] (spL K JG):=by
 have S:=zjG;refine fn3 F S (fun ds Q E h=>?_) (fun cdv A outer s H E E3 hE hr=>?_)
 . obtain⟨_,_,rfl,_⟩:=h;rfl
 refine⟨_,(zc (s_if (zG Jj (n3 1) (zt zL rfl T.n_len zN (za (n3 0) zb)) (nomark _)) (zg (zu (op3 ja (at3 (n3 0) (n3 1) #[4]) (op3 j8 i3 i3)))) zO)
  (zg (zu i3))),fun ds Q h=>?_⟩
 obtain⟨ns,k,rfl,hk,q⟩:=h
 walk_at "rd"
 rw [YaR]
 by_cases h:k<ns.length
 . rw [if_pos h]
   obtain⟨x,h1,_⟩:=zbU (xs:=ns) hk h;refine⟨.int x,by rw [ze4,h1];rfl,c64,?_⟩
   exact⟨#[1],q _⟩
 . rw [if_neg h]
   exact q _
theorem zgV(T:Txt c K mg) : dd_law_cell_at P w K mg base:=by
 obtain⟨f,fd,F,hm⟩:=T.d_law_cell_at;have hb:=F.binds (ps:=["_law_script", "_law_k"]) fun _ _ _ _ _ _ us hl=>by obtain⟨_,_,rfl⟩:=zY hl;rfl
 refine⟨fun ds Q Q' E E' hQ hE h=>?_,⟨f,fd,zfT T F,hb,F.kp,hm⟩⟩
 obtain⟨a,b,e,z,h⟩:=h;exact⟨a,b,e,z,fun v=>hQ _ _ (h v)⟩
theorem zjo:FnScope ["_law_cell", "_law_k", "_law_one"] ["_law_cell", "_law_k"] (ze Jv):=⟨rfl,rfl,rfl,#[3],rfl,#[3],#[3]⟩
theorem zjC(T:Txt c K mg){f:Addr}{fd:FuncData}(F:Fun K "_law_mixed" "_law_mixed" Jv f fd):FnOk P w K mg base (CXR P w) 1 f fd ["_law_cell", "_law_k"] (spL K Ze):=by
 have S:=zjo;refine fn3 F S (fun ds Q E h=>?_) (fun cdv A outer s H E E3 hE hr=>?_)
 . obtain⟨_,_,rfl,_⟩:=h;rfl
 refine⟨_,(zc (zi (i:=2) S.nd rfl #[2] (op3 ja (op3 jr (op3 zT (op3 ja (n3 0) (op3 j8 i3 i3)) (op3 jr i3 (op3 zT (n3 1) i3))) i3) (op3 j8 i3 i3)))
  (zg (zu (op3 ja (op3 zX (op3 jr (n3 2) (n3 2)) (op3 j8 i3 i3)) (op3 j8 i3 i3))))),fun ds Q h=>?_⟩
 obtain⟨cc,k,rfl,h0,h1,q⟩:=h
 walk_at "rd"
 have cp:∀ n:Int,0<=n->n<=100->JL 10 n:=fun n h h'=>powB (k:=4) (by unfold Bits;decide) h #[0]
 have hk:Bits 64 (k+1):=by unfold Bits;omega
 have b1:Bits 128 (cc%10 ^ Int.toNat 18):=(Bits.emod (Bits.lit 64) #[1] _).mono #[1]
 have b2:=(Bits.lit (x:=1442695040888963407) 64).mul hk;have b3:=b1.add b2;generalize cc%10 ^ Int.toNat 18+1442695040888963407*(k+1)=y at b3 ⊢;have b4:Bits 130 (y*6364136223846793005%10 ^ Int.toNat 37):=Bits.emod (by unfold Bits;decide) #[1] _
 generalize y*6364136223846793005%10 ^ Int.toNat 37=z at b4 ⊢;exact⟨cp 18 #[1] #[1],#[1],(Bits.lit (x:=1442695040888963407) 64).mulOk hk #[1],b3.mulOk (Bits.lit 64) #[1],cp 37 #[1] #[1],#[1],b4.mulOk b4 #[1],cp 17 #[1] #[1],divP,cp 56 #[1] #[1],#[1],q _⟩
theorem zh6(T:Txt c K mg) : dd_law_mixed P w K mg base:=by
 obtain⟨f,fd,F,hm⟩:=T.d_law_mixed;have hb:=F.binds (ps:=["_law_cell", "_law_k"]) fun _ _ _ _ _ _ us hl=>by obtain⟨_,_,rfl⟩:=zY hl;rfl
 refine⟨fun ds Q Q' E E' hQ hE h=>?_,⟨f,fd,zjC T F,hb,F.kp,hm⟩⟩
 obtain⟨a,b,e,z,y,h⟩:=h;exact⟨a,b,e,z,y,fun v=>hQ _ _ (h v)⟩
theorem zmn:FnScope ["_law_cell", "_law_k"] ["_law_cell", "_law_k"] (ze Zq):=⟨rfl,rfl,rfl,#[3],rfl,#[3],#[3]⟩
theorem zgn(T:Txt c K mg)(zoc:#[8,dd_law_mixed]){f:Addr}{fd:FuncData}(F:Fun K "_law_wide" "_law_wide" Zq f fd):FnOk P w K mg base (CXR P w) 2 f fd ["_law_cell", "_law_k"] (spL K Jw):=by
 have S:=zmn;refine fn3 F S (fun ds Q E h=>?_) (fun cdv A outer s H E E3 hE hr=>?_)
 . obtain⟨_,_,rfl,_⟩:=h;rfl
 refine⟨_,(zc (s_if (zG Jj (n3 0) (op3 j8 i3 i3) (nomark _)) (zg (zu (df3 hE zoc (hr.mono #[1]) rfl zq (za (n3 0) (za (n3 1) zb))))) zO)
  (zg (zu (n3 0)))),fun ds Q h=>?_⟩
 obtain⟨cc,k,rfl,h0,h1,q⟩:=h
 walk_at "rd"
 refine⟨powB (k:=4) (by unfold Bits;decide) #[1] #[1],ite2 (fun _=>⟨h0,h1,q⟩) fun _=>q _⟩
theorem zmf(T:Txt c K mg)(zoc:#[8,dd_law_mixed]):dd_law_wide P w K mg base:=by
 obtain⟨f,fd,F,hm⟩:=T.d_law_wide;have hb:=F.binds (ps:=["_law_cell", "_law_k"]) fun _ _ _ _ _ _ us hl=>by obtain⟨_,_,rfl⟩:=zY hl;rfl
 refine⟨fun ds Q Q' E E' hQ hE h=>?_,⟨f,fd,zgn T zoc F,hb,F.kp,hm⟩⟩
 obtain⟨a,b,e,z,y,h⟩:=h;exact⟨a,b,e,z,y,fun v=>hQ _ _ (h v)⟩
theorem zmT:FnScope ["_law_script", "_law_most", "_law_first", "_law_clans", "_law_count", "_law_spells_here", "_law_k", "_law_cell", "_law_length", "_law_size", "_law_weights", "_law_i"] ["_law_script", "_law_most"] (ze JD):=⟨rfl,rfl,rfl,#[3],rfl,#[3],#[3]⟩
theorem zfQ(T:Txt c K mg)(zob:#[8,dd_law_cell_at])(zog:#[8,dd_law_wide]){f:Addr}{fd:FuncData}(F:Fun K "_law_spells" "_law_spells" JD f fd):FnOk P w K mg base (CXR P w) 3 f fd ["_law_script", "_law_most"] (spL K Zc):=by
 have S:=zmT;refine fn3 F S (fun ds Q E h=>?_) (fun cdv A outer s H E E3 hE hr=>?_)
 . obtain⟨_,_,rfl,_⟩:=h;rfl
 refine⟨_,(zc (zi (i:=2) S.nd rfl #[2] (df3 hE zob (hr.mono #[1]) rfl zq (za (n3 0) (za i3 zb))))
  (zc (zi (i:=3) S.nd rfl #[2] (op3 zT i3 (op3 ja (n3 2) i3)))
  (zc (zi (i:=4) S.nd rfl #[2] (op3 zT i3 (op3 ja (op3 zX (n3 2) i3) i3)))
  (zc (jP (i:=5) S.nd rfl #[2] (jl zb))
  (zc (zM Wa2 rfl (Zb rfl T.n_range (za (n3 4) zb)) (zn (i:=6) S.nd rfl #[2]) (zc (zi (i:=7) S.nd rfl #[2] (df3 hE zog (hr.mono #[1]) rfl zq (za (df3 hE zob (hr.mono #[1]) rfl zq (za (n3 0) (za (op3 zT i3 (n3 6)) zb))) (za (op3 zT (op3 ja (n3 2) i3) (op3 jr i3 (n3 6))) zb))))
   (zc (zi (i:=8) S.nd rfl #[2] (op3 zT i3 (op3 ja (n3 7) (op3 zX (n3 1) (n3 4)))))
   (zc (zi (i:=7) S.nd rfl #[2] (op3 zX (n3 7) (op3 zX (n3 1) (n3 4))))
   (zc (zi (i:=9) S.nd rfl #[2] (at3 (new3 (jl (za i3 (za i3 (za i3 (za (op3 j8 i3 i3) zb)))))) (op3 ja (n3 7) i3) #[4]))
   (zc (zi (i:=7) S.nd rfl #[2] (op3 zX (n3 7) i3))
   (zc (jP (i:=10) S.nd rfl #[2] (jl zb))
   (zc (zM Wa2 rfl (Zb rfl T.n_range (za (n3 3) zb)) (zn (i:=11) S.nd rfl #[2]) (zc (JS (i:=10) rfl #[2] (op3 ja (n3 7) (n3 9)))
    (zg (zi (i:=7) S.nd rfl #[2] (op3 zX (n3 7) (n3 9))))))
   (zc (s_if (zG (Jl hr.units) (zt (Ji rfl) rfl T.n_sum Jq (za (n3 10) zb)) i3 (nomark _)) (zg (zkQ (i:=10) rfl #[2] (op3 ja (n3 7) (n3 3)) i3)) zO)
   (zg (jD [10] (JS (i:=5) rfl #[2] (zR (za (n3 8) (za (n3 10) zb)))))))))))))))
  (zg (jD [5] (zu (n3 5))))))))),fun ds Q h=>?_⟩
 obtain⟨ns,m,rfl,h4,h60,q⟩:=h;refine zk fun N hN=>?_
 walk_at "rd"
 refine⟨ns,rfl,#[1],fun v=>hN _ ?_⟩
 clear hN N;obtain⟨n,hn⟩:∃ n:Nat,1+v%8=(n:Int):=⟨(1+v%8).toNat,#[0]⟩
 obtain⟨cn,hcn⟩:∃ n:Nat,1+v/8%4=(n:Int):=⟨(1+v/8%4).toNat,#[0]⟩
 have hn8:1<=n/\n<=8:=#[0]
 have hc4:1<=cn/\cn<=4:=#[0]
 refine zk fun N hN=>?_
 walk_at "rd hn"
 refine⟨#[1],hN _ ?_⟩
 clear hN N;refine zk fun N hN=>?_
 walk_at "rd hcn"
 refine⟨divP,#[1],hN _ ?_⟩
 clear hN N;refine zk fun N hN=>?_
 walk_at "rd"
 refine hN _ ?_
 clear hN N hn hcn;have hmul:(cn:Int)*(m/cn)<=m:=Int.mul_ediv_self_le #[0]
 have hper:1<=m/(cn:Int):=Int.le_ediv_of_mul_le #[0] #[0]
 have hper2:m/(cn:Int)<=60:=Int.le_trans (Int.ediv_le_self _ #[0]) h60
 have dcn:Zs m (cn:Int):=⟨#[0],Bits.lit (x:=(cn:Int)) 9000 #[0]⟩
 generalize hp:m/(cn:Int)=per at hmul hper hper2;have c6:JL 10 6:=powB (k:=4) (by unfold Bits;decide) #[1] #[1]
 walk_at "rd"
 refine⟨#[0],#[0],?_⟩
 rw [Int.toNat_natCast];refine jG (fun k ρ=>∃ (l:List Spell) (t1 t2 t3 t4 t5 t6:Option L3.Cl),ρ = [some (.sh false (.list (ns.map .int))),#[5,m],#[5,v],#[5,n],#[5,cn],some (.ow true (l.map dS)),t1,t2,t3,t4,t5,t6]/\l.length=k/\∀ s∈l,1<=s.1/\s.1<=per/\okW s.2/\s.2.length=n/\∀ w∈s.2,w<10 ^ 6) ?_ ?_ ⟨[],none,none,none,none,none,none,rfl,rfl,fun s h=>by cases h⟩
 . rintro k ρ hk ⟨l,t1,t2,t3,t4,t5,t6,rfl,hl,hs⟩ W hW
   simp only [gn3,List.set_cons_zero,List.set_cons_succ,zA,WbF];refine zk fun N hN=>?_
   walk_at "rd"
   refine⟨ns,rfl,#[0],fun v1=>⟨#[1],(Bits.lit (x:=64) 64).mulOk (Bits.lit (x:=0+(k:Int)) 64 #[0]) #[1],#[0],#[0],fun v2=>hN _ ?_⟩⟩
   clear hN N;refine zk fun N hN=>?_
   walk_at "rd hp"
   refine⟨dcn,#[0],hN _ ?_⟩
   clear hN N;refine zk fun N hN=>?_
   walk_at "rd hp"
   refine⟨dcn,⟨#[0],Bits.lit (x:=per) 9000 #[0]⟩,hN _ ?_⟩
   clear hN N;obtain⟨d,hd,hm,_⟩:=zbU (xs:=[PyData.int 3,PyData.int 11,PyData.int 2,PyData.int (10 ^ Int.toNat 6)]) (i:=v2/per%4) #[0] (by show v2/per%4<4;omega)
   obtain⟨sz',rfl,hs2,hs30⟩:∃ z,d=PyData.int z/\2<=z/\z<=10 ^ 6:=by
    simp only [Wbo,List.not_mem_nil,or_false] at hm
    rcases hm with rfl|rfl|rfl|rfl<;>exact⟨_,rfl,#[1],#[1]⟩
   refine zk fun N hN=>?_
   walk_at "rd"
   refine⟨c6,#[1],_,hd,hN _ ?_⟩
   clear hN N hd hm;refine zk fun N hN=>?_
   walk_at "rd"
   refine⟨divP,hN _ ?_⟩
   clear hN N;refine zk fun N hN=>?_
   walk_at "rd"
   refine hN _ ?_
   clear hN N;have hsb:Bits 9000 sz':=Bits.lit (x:=sz') 9000 #[0]
   have hlen0:=Ybc v2 (show per≠0 by omega)
   have hlen1:=Ybd v2 (show 0<per by omega)
   generalize v2/per/4=c0;generalize hle:1+v2%per=len;have hl1:1<=len/\len<=per:=#[0]
   clear hle hlen0 hlen1;refine jo (fun ρ=>∃ (ws:List Int) (c':Int) (t:Option L3.Cl),ρ = [some (.sh false (.list (ns.map .int))),#[5,m],#[5,v],#[5,n],#[5,cn],some (.ow true (l.map dS)),#[5,0+k],#[5,c'],#[5,len],#[5,sz'],some (.ow true (ws.map .int)),t]/\ws.length=n/\∀ w∈ws,0<=w/\w<10 ^ 6) (fun N hN=>?_) ?_
   . walk_at "rd"
     refine⟨#[0],#[0],?_⟩
     rw [Int.toNat_natCast];refine jG (fun j ρ=>∃ (ws:List Int) (c':Int) (t:Option L3.Cl),ρ = [some (.sh false (.list (ns.map .int))),#[5,m],#[5,v],#[5,n],#[5,cn],some (.ow true (l.map dS)),#[5,0+k],#[5,c'],#[5,len],#[5,sz'],some (.ow true (ws.map .int)),t]/\ws.length=j/\∀ w∈ws,0<=w/\w<10 ^ 6) ?_ ?_ ⟨[],_,t6,rfl,rfl,fun _ h=>by cases h⟩
     . rintro j ρ hj ⟨ws,c',t,rfl,hl',hw⟩ W' hW'
       walk_at "rd"
       rw [YaR];refine⟨#[0],YaU (show _<1000000 by omega) #[1],⟨#[0],hsb⟩,hW' _ ⟨ws++[c'%sz'],_,_,by rw [Ya2];rfl,by simp [hl'],fun w hw'=>?_⟩⟩
       rcases Ya3.mp hw' with z|z
       . exact hw w z
       . rw [Ya6.mp z]
         have:=Ybc c' (show sz'≠0 by omega)
         have:=Ybd c' (show 0<sz' by omega)
         exact⟨#[0],#[0]⟩
     . rintro ρ ⟨ws,c',t,rfl,hl',hw⟩
       exact hN _ ⟨ws,c',t,rfl,hl',hw⟩
   rintro ρ ⟨ws,c',t,rfl,hl',hw⟩
   refine jo (fun ρ=>∃ ws:List Int,ρ = [some (.sh false (.list (ns.map .int))),#[5,m],#[5,v],#[5,n],#[5,cn],some (.ow true (l.map dS)),#[5,0+k],#[5,c'],#[5,len],#[5,sz'],some (.ow true (ws.map .int)),t]/\ws.length=n/\(∀ w∈ws,0<=w/\w<10 ^ 6)/\ws.sum≠0) (fun N hN=>?_) ?_
   . walk_at "rd"
     have m0:=Ybc c' (show(n:Int)≠0 by omega)
     have m1:=Ybd c' (show 0<(n:Int) by omega)
     refine⟨ws,jO _,ite2 (fun hz=>⟨#[0],_,zhk m0 (by rw [YaR];omega),hN _ ⟨ws.set (c'%n).toNat 1,by rw [List.map_set],by rw [YaN];exact hl',?_,?_⟩⟩) fun hz=>hN _ ⟨ws,rfl,hl',hw,hz⟩⟩
     . intro w h
       rcases Wak h with z|z
       . exact hw w z
       . subst z;exact⟨#[1],#[1]⟩
     . refine zlu (fun w h=>?_) (List.mem_set #[0] 1)
       rcases Wak h with z|z
       . exact(hw w z).1
       . subst z;decide
   clear hl' hw ws
   rintro ρ ⟨ws,rfl,hl',hw,h0⟩
   have e6:(10:Int) ^ 6<=10 ^ 30:=#[1]
   walk_at "rd"
   refine⟨YaU (show _<1000000 by rw [YaR];omega) #[1],hW _ ⟨l++[(len,ws)],_,_,_,_,_,_,by rw [Ya2];rfl,by simp [hl],fun s hs'=>?_⟩⟩
   rcases Ya3.mp hs' with z|z
   . exact hs s z
   . rw [Ya6.mp z]
     exact⟨hl1.1,hl1.2,⟨by show 1<=ws.length/\ws.length<=8;omega,fun w hw'=>⟨(hw w hw').1,by have:=(hw w hw').2;omega⟩,h0⟩,hl',fun w hw'=>(hw w hw').2⟩
 . rintro ρ ⟨l,t1,t2,t3,t4,t5,t6,rfl,hl,hs⟩
   walk_at "rd"
   have hmany:∀ s∈l,s.2.length=many l:=fun s hs'=>by
    cases l with
    | nil=>cases hs'
    | cons a r=>exact(hs s hs').2.2.2.1.trans (hs a YaV).2.2.2.1.symm
   have:=zia (l:=l) (B:=per) fun s hs'=>(hs s hs').2.1
   have h2:(l.length:Int)*per<=cn*per:=by rw [hl];exact WbI _
   exact q l ⟨#[0],fun s hs'=>⟨(hs s hs').1,(hs s hs').2.2.1,hmany s hs'⟩,#[0]⟩ #[0]
theorem zje(T:Txt c K mg)(zob:#[8,dd_law_cell_at])(zog:#[8,dd_law_wide]):dd_law_spells P w K mg base:=by
 obtain⟨f,fd,F,hm⟩:=T.d_law_spells;have hb:=F.binds (ps:=["_law_script", "_law_most"]) fun _ _ _ _ _ _ us hl=>by obtain⟨_,_,rfl⟩:=zY hl;rfl
 refine⟨fun ds Q Q' E E' hQ hE h=>?_,⟨f,fd,zfQ T zob zog F,hb,F.kp,hm⟩⟩
 obtain⟨a,b,e,z,y,h⟩:=h;exact⟨a,b,e,z,y,fun l hl hw=>hQ _ _ (h l hl hw)⟩
theorem zkn:FnScope ["_law_spells_here", "_law_bottom", "_law_length", "_law_weights", "_law_rows", "_law_turn", "_law_row", "_law_k", "_law_share"] ["_law_spells_here"] (ze Ja):=⟨rfl,rfl,rfl,#[3],rfl,#[3],#[3]⟩
theorem zjw(T:Txt c K mg){f:Addr}{fd:FuncData}(F:Fun K "_law_quotas" "_law_quotas" Ja f fd):FnOk P w K mg base (CXR P w) 1 f fd ["_law_spells_here"] (spL K J0):=by
 have S:=zkn;refine fn3 F S (fun ds Q E h=>?_) (fun cdv A outer s H E E3 hE hr=>?_)
 . obtain⟨_,rfl,_⟩:=h;rfl
 refine⟨_,(zc (zi (i:=1) S.nd rfl #[2] i3)
  (zc (zM Wa2 rfl (zV (n3 0)) (jB (n:=2) rfl (zQ (zn (i:=2) S.nd rfl #[2]) (zQ (zn (i:=3) S.nd rfl #[2]) jw))) (zg (zi (i:=1) S.nd rfl #[2] (op3 jr (n3 1) (zt (Ji rfl) rfl T.n_sum Jq (za (n3 3) zb))))))
  (zc (jP (i:=4) S.nd rfl #[2] (jl (za (new3 (ZB ["_law_weight"] [] [] rfl (jL (osc:=ze Ja) #[3]) rfl (zV (at3 (at3 (n3 0) i3 #[4]) i3 #[4])) (fun H0 s H fp cl=>⟨(zn (i:=0) (show((["_law_weight"]:List PySem.Str)++([]:List PySem.Str)).Nodup by decide) rfl #[2]),jI,i3⟩))) zb)))
  (zc (zM Wa2 rfl (zV (n3 0)) (jB (n:=2) rfl (zQ (zn (i:=2) S.nd rfl #[2]) (zQ (zn (i:=3) S.nd rfl #[2]) jw))) (zg (zM Wa2 rfl (Zb rfl T.n_range (za (n3 2) zb)) (zn (i:=5) S.nd rfl #[2]) (zc (jP (i:=6) S.nd rfl #[2] (jl zb))
   (zc (zM Wa2 rfl (Zb rfl T.n_range (za (zt zL rfl T.n_len zN (za (n3 3) zb)) zb)) (zn (i:=7) S.nd rfl #[2]) (zc (zi (i:=8) S.nd rfl #[2] (op3 jr (at3 (n3 3) (n3 7) #[4]) (op3 zX (n3 1) (zt (Ji rfl) rfl T.n_sum Jq (za (n3 3) zb)))))
    (zg (JS (i:=6) rfl #[2] (op3 zT (at3 (at3 (n3 4) (un3 zcg i3) #[4]) (n3 7) #[4]) (n3 8))))))
   (zg (jD [6] (JS (i:=4) rfl #[2] (n3 6)))))))))
  (zg (jD [4] (zu (zR (za (n3 1) (za (n3 4) zb)))))))))),fun ds Q h=>?_⟩
 obtain⟨l,rfl,hok,q⟩:=h;have hm:=Zy hok;have hB:=zaB hok;have hBb:=zbK hok;have hl0:l≠[]:=fun z=>by have:=hok.1.1;rw [z] at this;simp at this
 have hd0:atI (l.map dS) 0=some (dS (l.headD (0,[]))):=by
  cases l with
  | nil=>exact absurd rfl hl0
  | cons a r=>exact atI0
 refine zk fun N hN=>?_
 walk_at "rd"
 refine hN _ ?_
 clear hN N;refine jo (fun ρ=>∃ t u,ρ = [some (.sh false (.list (l.map dS))),#[5,zd l],t,u,none,none,none,none,none]) (fun N hN=>?_) ?_
 . walk_at "rd"
   refine Jr dS l (fun done ρ=>∃ t u,ρ = [some (.sh false (.list (l.map dS))),#[5,zd done],t,u,none,none,none,none,none]) ?_ (fun ρ h=>hN ρ h) ⟨none,none,rfl⟩
   rintro done s rest ρ hd ⟨t,u,rfl⟩ W hW
   have hs:s∈l:=by rw [hd];simp
   have hsok:=(hok.2.1 s hs).2.1;have hpd:=zbi done 1 1 (fun t ht=>(hok.2.1 t (by rw [hd];exact Yai _ ht)).2.1) #[1] (by unfold Bits;decide)
   have hdl:done.length<=8:=by have:=hok.1.2;rw [hd,YaS] at this;omega
   walk_at "rd"
   refine⟨s.2,jO _,(hpd.2.mono (k:=900) #[0]).mulOk (Z9 hsok) #[1],?_⟩
   rw [<-zma];exact hW _ ⟨_,_,rfl⟩
 rintro ρ ⟨t,u,rfl⟩
 refine zk fun N hN=>?_
 walk_at "rd hd0 atI1"
 refine⟨sz (by rw [YaR];have:=hm.2;unfold many at this;omega),?_⟩
 refine jE PyData.int (fun _=>.int 0) (fun ρ=>∃ t,ρ = [t]) (l.headD (0,[])).2 ?_ _ _ _ _ ⟨none,rfl⟩ ?_
 . rintro w hw ρ fa acc K ⟨t,rfl⟩ k
   walk_at "rd"
   exact k _ ⟨_,rfl⟩
 have hz:(l.headD (0,[])).2.map (fun _=>PyData.int 0)=(zeros l).map .int:=by
  unfold zeros many;rw [Yaz,List.map_const']
 rw [List.nil_append,hz];refine hN _ ?_;clear hN N
 walk_at "rd"
 have hz0:jg (many l) (zeros l,[zeros l]):=⟨by unfold zeros;simp,fun r hr=>by rw [Ya6.mp hr];unfold zeros;simp⟩
 refine Jr dS l (fun done ρ=>∃ t1 t2 t3 t4 t5 t6 r,ρ = [some (.sh false (.list (l.map dS))),#[5,zd l],t1,t2,some (.ow true ((runQ (zd l) done (zeros l,[zeros l])).2.map dI)),t3,t4,t5,t6]/\jg (many l) (runQ (zd l) done (zeros l,[zeros l]))/\(runQ (zd l) done (zeros l,[zeros l])).2=r++[(runQ (zd l) done (zeros l,[zeros l])).1]/\((runQ (zd l) done (zeros l,[zeros l])).2.length:Int)=1+tot done) ?_ ?_ ⟨_,_,none,none,none,none,[],rfl,hz0,rfl,rfl⟩
 . rintro done s rest ρ hd ⟨t1,t2,t3,t4,t5,t6,r,rfl,hlp,hlast,hlen⟩ W hW
   have hs:s∈l:=by rw [hd];simp
   obtain⟨hs1,hsok,hsn⟩:=hok.2.1 s hs;have hsl:s.2.length=many l:=hsn;have h1t:∀ s∈l,1<=s.1:=fun s hs=>(hok.2.1 s hs).1
   have hdt:tot done+s.1<=60:=by
    have h60:=hok.2.2;have e:tot l=tot done+(s.1+tot rest):=by unfold tot;rw [hd,Ya2,Wbj,Ya1,List.sum_cons]
    have:0<=tot rest:=zZ fun s hs=>h1t s (by rw [hd];exact Yaa _ (YaT _ hs))
    omega
   have hdv:s.2.sum∣zd l:=zcf hs;have hsp:=jk hsok;generalize hp:runQ (zd l) done (zeros l,[zeros l])=p at hlp hlast hlen;have er:runQ (zd l) (done++[s]) (zeros l,[zeros l])=rep (zo (shares (zd l) s.2)) s.1.toNat p:=by
    unfold runQ at hp ⊢;rw [WaR,hp];rfl
   have et:tot (done++[s])=tot done+s.1:=by unfold tot;rw [Ya2,Wbj];simp
   rw [er,et] at hW;have hsx:∀ i (hi:i<s.2.length),s.2[i]*(zd l/s.2.sum)=(shares (zd l) s.2).getD i 0:=fun i hi=>by
    unfold shares;rw [YaP,Ya0,YaQ hi];show _=s.2[i]*zd l/s.2.sum;rw [Int.mul_ediv_assoc _ hdv]
   have hshl:(shares (zd l) s.2).length=many l:=by rw [zbe];exact hsl
   generalize shares (zd l) s.2=sh at hW hsx hshl er
   walk_at "rd"
   refine⟨#[0],#[0],?_⟩
   refine jG (fun j ρ=>∃ t3 t4 t5 t6 r,ρ = [some (.sh false (.list (l.map dS))),#[5,zd l],#[5,s.1],some (.sh false (.list (s.2.map .int))),some (.ow true ((rep (zo sh) j p).2.map dI)),t3,t4,t5,t6]/\jg (many l) (rep (zo sh) j p)/\(rep (zo sh) j p).2=r++[(rep (zo sh) j p).1]/\((rep (zo sh) j p).2.length:Int)=1+tot done+j) ?_ ?_ ⟨_,_,_,_,r,rfl,hlp,hlast,by show(p.2.length:Int)=_;omega⟩
   . rintro j ρ hj ⟨y3,y4,y5,y6,r,rfl,hlp',hlast',hlen'⟩ W' hW'
     rw [zen] at hW';generalize rep (zo sh) j p=pj at hlp' hlast' hlen' hW';have hadl:(addL pj.1 sh).length=many l:=by rw [zat (by rw [hlp'.1,hshl]),hlp'.1]
     have hla:atI (pj.2.map dI) (-1)=some (PyData.list (pj.1.map PyData.int)):=by
      rw [hlast',Ya2,Ya1,Wbz,zec];rfl
     simp only [gn3,List.set_cons_zero,List.set_cons_succ,zA,WbF];refine zk fun N hN=>?_
     walk_at "rd"
     refine hN _ ?_
     clear hN N;refine jo (fun ρ=>∃ t5 t6,ρ = [some (.sh false (.list (l.map dS))),#[5,zd l],#[5,s.1],some (.sh false (.list (s.2.map .int))),some (.ow true (pj.2.map dI)),#[5,0+j],some (.ow true ((addL pj.1 sh).map .int)),t5,t6]) (fun N hN=>?_) ?_
     . walk_at "rd"
       rw [YaR,hsl];refine⟨#[0],#[0],?_⟩
       rw [Int.toNat_natCast];refine jG (fun i ρ=>∃ t5 t6,ρ = [some (.sh false (.list (l.map dS))),#[5,zd l],#[5,s.1],some (.sh false (.list (s.2.map .int))),some (.ow true (pj.2.map dI)),#[5,0+j],some (.ow true (((addL pj.1 sh).take i).map .int)),t5,t6]) ?_ ?_ ⟨_,_,rfl⟩
       . rintro i ρ hi ⟨v5,v6,rfl⟩ W2 hW2
         have hi1:i<s.2.length:=by rw [hsl];exact hi
         have hi2:i<pj.1.length:=by rw [hlp'.1];exact hi
         have hi3:i<sh.length:=by rw [hshl];exact hi
         have hw:atI (s.2.map PyData.int) (0+(i:Int))=some (PyData.int s.2[i]):=zah hi1;have hq:atI (pj.1.map PyData.int) (0+(i:Int))=some (PyData.int pj.1[i]):=zah hi2;have htk:(addL pj.1 sh).take (i+1)=(addL pj.1 sh).take i++[pj.1[i]+sh.getD i 0]:=by
          rw [Yav (by rw [hadl];exact hi)]
          congr 2
          unfold addL
          simp [hi3]
         rw [htk,Ya2] at hW2;have hbs:Bits 900 (zd l/s.2.sum):=hBb.le (Int.natAbs_ediv_le_natAbs _ _)
         walk_at "rd hw hla hq"
         refine⟨s.2,jO _,⟨hsp,(Z9 hsok).mono #[1]⟩,(zde hsok (Ya4 hi1)).mulOk hbs #[1],YaU (show _<1000000 by rw [YaR,Wa5];omega) #[1],?_⟩
         rw [hsx i hi1];exact hW2 _ ⟨_,_,rfl⟩
       . rintro ρ ⟨v5,v6,rfl⟩
         rw [Was (by rw [hadl];exact YaY _)]
         exact hN _ ⟨_,_,rfl⟩
     rintro ρ ⟨v5,v6,rfl⟩
     walk_at "rd"
     refine⟨YaU (show _<1000000 by rw [YaR];omega) #[1],?_⟩
     have hl2:jg (many l) (zo sh pj):=⟨hadl,fun r hr=>by
      rcases Ya3.mp hr with z|z
      . exact hlp'.2 r z
      . rw [Ya6.mp z];exact hadl⟩
     exact hW' _ ⟨_,_,_,_,pj.2,by show _=[_,_,_,_,some (Cl.ow true ((pj.2++[addL pj.1 sh]).map dI)),_,_,_,_];rw [Ya2];rfl,hl2,rfl,by show((pj.2++[_]).length:Int)=_;rw [YaS];simp;omega⟩
   . rintro ρ ⟨y3,y4,y5,y6,r,rfl,hlp',hlast',hlen'⟩
     exact hW _ ⟨_,_,_,_,_,_,r,rfl,hlp',hlast',#[0]⟩
 . rintro ρ ⟨t1,t2,t3,t4,t5,t6,r,rfl,hlp,hlast,hlen⟩
   walk_at "rd"
   exact q
theorem zhf(T:Txt c K mg) : dd_law_quotas P w K mg base:=by
 obtain⟨f,fd,F,hm⟩:=T.d_law_quotas;have hb:=F.binds (ps:=["_law_spells_here"]) fun _ _ _ _ _ _ us hl=>by obtain⟨_,rfl⟩:=ji hl;rfl
 refine⟨fun ds Q Q' E E' hQ hE h=>?_,⟨f,fd,zjw T F,hb,F.kp,hm⟩⟩
 obtain⟨l,e,o,h⟩:=h;exact⟨l,e,o,hQ _ _ h⟩
theorem zng:FnScope ["weights", "weight"] ["weights"] (ze JC):=⟨rfl,rfl,rfl,#[3],rfl,#[3],#[3]⟩
theorem znQ(T:Txt c K mg){f:Addr}{fd:FuncData}(F:Fun K "check_weights" "check_weights" JC f fd):FnOk P w K mg base (CXR P w) 1 f fd ["weights"] (spL K (Zp c)):=by
 have S:=zng;refine fn3 F S (fun ds Q E h=>?_) (fun cdv A outer s H E E3 hE hr=>?_)
 . obtain⟨_,rfl,_⟩:=h;rfl
 refine⟨_,(zc (s_if (zan (zfI ZZ ZZ i3 (zt zL rfl T.n_len zN (za (n3 0) zb)) (g3i rfl T.m_MOST_CLANS))) (zg (jy hE jx rfl rfl T.m_NoSpell T.e_NoSpell (za s3 zb))) zO)
  (zc (zM Wa2 rfl (zV (n3 0)) (zn (i:=1) S.nd rfl #[2]) (zc (s_if (zG Jj (n3 1) i3 (nomark _)) (zg (jy hE jx rfl rfl T.m_NoSpell T.e_NoSpell (za s3 zb))) zO)
   (zg (s_if (zG zdt (n3 1) (op3 j8 i3 i3) (nomark _)) (zg (jy hE jx rfl rfl T.m_NoSpell T.e_NoSpell (za s3 zb))) zO))))
  (zg (s_if (zG (Jl hr.units) (zt (Ji rfl) rfl T.n_sum Jq (za (n3 0) zb)) i3 (nomark _)) (zg (jy hE jx rfl rfl T.m_NoSpell T.e_NoSpell (za s3 zb))) zO)))),fun ds Q h=>?_⟩
 obtain⟨ws,rfl,q,hE'⟩:=h
 walk_at "rd"
 simp only [YaR]
 by_cases h1:1<=(ws.length:Int)
 case neg=>rw [if_neg h1];exact hE' fun z=>h1 (by have:=z.1.1;omega)
 rw [if_pos h1]
 by_cases h2:(ws.length:Int)<=8
 case neg=>rw [if_pos h2];exact hE' fun z=>h2 (by have:=z.1.2;omega)
 rw [if_neg (fun z=>z h2)]
 refine ZC (fun ds ρ=>∃ rest t,ds=rest.map PyData.int/\ρ = [some (.sh false (.list (ws.map .int))),t]/\(∀ w∈rest,w∈ws)/\∀ w∈ws,w∈rest\/(0<=w/\w<10 ^ 30)) ?_ ?_ _ _ ⟨ws,none,rfl,rfl,fun _ h=>h,fun _ h=>.inl h⟩
 . rintro d ds ρ ⟨rest,t,e,rfl,hin,hall⟩ W hW
   cases rest with
   | nil=>cases e
   | cons w rest=>
    cases e;have hw:=hin w YaV
    walk_at "rd"
    by_cases h3:w<0
    . rw [if_pos h3];exact hE' fun z=>by have:=(z.2.1 w hw).1;omega
    rw [if_neg h3];refine⟨p30,?_⟩
    by_cases h4:(10:Int) ^ Int.toNat 30<=w
    . rw [if_pos h4];exact hE' fun z=>by have:=(z.2.1 w hw).2;exact absurd h4 (by have e:(10:Int) ^ Int.toNat 30=10 ^ 30:=rfl;omega)
    rw [if_neg h4];refine hW _ ⟨rest,_,rfl,rfl,fun x hx=>hin x (YaT _ hx),fun x hx=>?_⟩
    rcases hall x hx with z|z
    . rcases Wbo.mp z with rfl|z
      . exact .inr ⟨#[0],by have e:(10:Int) ^ Int.toNat 30=10 ^ 30:=rfl;omega⟩
      . exact .inl z
    . exact .inr z
 . rintro ρ ⟨rest,t,e,rfl,hin,hall⟩
   cases rest with
   | cons _ _=>cases e
   | nil=>
    walk_at "rd"
    refine⟨ws,jO ws,?_⟩
    by_cases h3:ws.sum=0
    . rw [if_pos h3];exact hE' fun z=>z.2.2 h3
    . rw [if_neg h3]
      exact q ⟨⟨#[0],#[0]⟩,fun w hw=>(hall w hw).resolve_left (by simp),h3⟩
theorem zj8(T:Txt c K mg) : dd_check_weights c P w K mg base:=by
 obtain⟨f,fd,F,hm⟩:=T.d_check_weights;have hb:=F.binds (ps:=["weights"]) fun _ _ _ _ _ _ us hl=>by obtain⟨_,rfl⟩:=ji hl;rfl
 refine⟨fun ds Q Q' E E' hQ hE h=>?_,⟨f,fd,znQ T F,hb,F.kp,hm⟩⟩
 obtain⟨l,e,h1,h2⟩:=h;exact⟨l,e,fun z=>hQ _ _ (h1 z),fun z=>hE _ (h2 z)⟩
theorem zkF:FnScope ["spells"] ["spells"] (ze jZ):=⟨rfl,rfl,rfl,#[3],rfl,#[3],#[3]⟩
theorem zit(T:Txt c K mg){f:Addr}{fd:FuncData}(F:Fun K "all_turns" "all_turns" jZ f fd):FnOk P w K mg base (CXR P w) 1 f fd ["spells"] (spL K JJ):=by
 have S:=zkF;refine fn3 F S (fun ds Q E h=>?_) (fun cdv A outer s H E E3 hE hr=>?_)
 . obtain⟨_,rfl,_⟩:=h;rfl
 refine⟨_,(zg (zu (zt (Ji rfl) rfl T.n_sum Jq (za (new3 (ZB ["spell"] [] [] rfl (jL (osc:=ze jZ) #[3]) rfl (zV (n3 0)) (fun H0 s H fp cl=>⟨(zn (i:=0) (show((["spell"]:List PySem.Str)++([]:List PySem.Str)).Nodup by decide) rfl #[2]),jI,(at3 (n3 0) i3 #[4])⟩))) zb)))),fun ds Q h=>?_⟩
 obtain⟨l,rfl,hz,q⟩:=h
 walk_at "rd"
 rw [YaR];refine⟨sz #[0],?_⟩
 refine jE (f:=false) dS (fun s=>.int s.1) (fun ρ=>∃ t,ρ = [t]) l ?_ _ _ _ _ ⟨none,rfl⟩ ?_
 . rintro s hs ρ fa acc K ⟨t,rfl⟩ k
   simp only [seq3,next3,set3,own3,ret3,ifS3,tt3,o3,u3,v3,atV,asS,asB,asD,optP,asT,asLd,asL,atO,jN,nilP,asId,asI,k3,nw3,add3,int3,int0,neg3,eq3,ne3,eqOk,eqv3,isN3,notN3,isNone,ix3,ixD,Z4,nil3,J9,cb3,len3,lenD,abs3,max23,min23,sum3,min3,if3,and3,or3,not3,Z8,Z5,ch3,tup3,lst3,slL3,no3,ZA,ZG,L2.isD,ZS,asg3,gn3,Z6,jW,gnil3,app3,put3,frzS,frz,frz1,for3,itL,itZ,rg1,rg2,jX,true3,cst3,ZJ,z5,shs,Cl.d,Cl.dat,Cl.f,zaC,zA,Option.map_some,Option.map_none,Option.isSome_some,Option.isSome_none,Option.join_some,Option.join_none,List.all_cons,List.all_nil,Wbv,Wbq,Wbs,Wbp,Wbr,WbF,WbA,Ya1,Wbz,List.length_cons,List.length_nil,Nat.reduceAdd,Nat.reduceSub,WbC,List.replicate,List.cons_append,List.nil_append,Yao,List.getElem?_cons_zero,List.getElem?_cons_succ,List.set_cons_zero,List.set_cons_succ,WaO,Cl.sh.injEq,Cl.ow.injEq,Wbc,Wa0,Wbd,Wa1,WaK,Wbh,reduceCtorEq,and_assoc,and_true,true_and,and_self,exists_eq_left,exists_eq_left',exists_eq',exists_eq_right,exists_eq_right',exists_and_left,exists_const,exists_false,false_and,and_false,or_false,false_or,or_true,true_or,decide_true,decide_false,decide_eq_true_eq,Wbt,Wbn,WaH,WaL,if_true,if_false,ite_true,ite_false,WaN,decide_eq_false_iff_not,eq_self_iff_true,not_true_eq_false,not_false_eq_true,sz0,sz1,sz2,sz3,sz4,Z1,par3,aug3,ext3,itE,Zx,Cl.dt.injEq,itE1,slT3,zab,ZW,ZL,ZM,atK,frzD,itD,ZF,ZX,ZN,ZP,Cl.fd.injEq,ZE,zaa,JG,Ze,Jw,Zc,J0,Zp,JJ,JM,Je,j7,J6,Zw,JN,Jt,JA,J3,JZ,JH,J7,Zm,JU,Ju,JK,Zj,JE,Jm,Zi,Zv,J2,Js,Jp,dSs,dS,dI,zA,dQ,dRoom,dW,dT,atI0,atI1,atI2,atI3,atI0]
   exact k _ ⟨_,rfl⟩
 . walk_at "rd"
   refine⟨l.map (fun s:Spell=>s.1),?_,q⟩
   rw [<-jO (l.map (fun s:Spell=>s.1)),YaD]
   rfl
theorem znZ(T:Txt c K mg) : dd_all_turns P w K mg base:=by
 obtain⟨f,fd,F,hm⟩:=T.d_all_turns;have hb:=F.binds (ps:=["spells"]) fun _ _ _ _ _ _ us hl=>by obtain⟨_,rfl⟩:=ji hl;rfl
 refine⟨fun ds Q Q' E E' hQ hE h=>?_,⟨f,fd,zit T F,hb,F.kp,hm⟩⟩
 obtain⟨l,e,z,h⟩:=h;exact⟨l,e,z,hQ _ _ h⟩
theorem zhF:FnScope ["spells", "turns", "weights"] ["spells"] (ze JB):=⟨rfl,rfl,rfl,#[3],rfl,#[3],#[3]⟩
theorem zm1(T:Txt c K mg)(zn2:#[8,dd_check_weights c])(zn0:#[8,dd_all_turns]){f:Addr}{fd:FuncData}(F:Fun K "check_spells" "check_spells" JB f fd):FnOk P w K mg base (CXR P w) 2 f fd ["spells"] (spL K (JM c)):=by
 have S:=zhF;refine fn3 F S (fun ds Q E h=>?_) (fun cdv A outer s H E E3 hE hr=>?_)
 . obtain⟨_,rfl,_⟩:=h;rfl
 refine⟨_,(zc (s_if (zan (zfI ZZ ZZ i3 (zt zL rfl T.n_len zN (za (n3 0) zb)) (g3i rfl T.m_MOST_SPELLS))) (zg (jy hE jx rfl rfl T.m_NoSpell T.e_NoSpell (za s3 zb))) zO)
  (zc (zM Wa2 rfl (zV (n3 0)) (jB (n:=2) rfl (zQ (zn (i:=1) S.nd rfl #[2]) (zQ (zn (i:=2) S.nd rfl #[2]) jw))) (zc (s_if (zG Jj (n3 1) i3 (nomark _)) (zg (jy hE jx rfl rfl T.m_NoSpell T.e_NoSpell (za s3 zb))) zO)
   (zc (zcJ (df3 hE zn2 (hr.mono #[1]) rfl zq (za (n3 2) zb)))
   (zg (s_if (zG (zd9 hr.units) (zt zL rfl T.n_len zN (za (n3 2) zb)) (zt zL rfl T.n_len zN (za (at3 (at3 (n3 0) i3 #[4]) i3 #[4]) zb)) (nomark _)) (zg (jy hE jx rfl rfl T.m_NoSpell T.e_NoSpell (za s3 zb))) zO)))))
  (zg (s_if (zG Zz (df3 hE zn0 (hr.mono #[1]) rfl zq (za (n3 0) zb)) (g3i rfl T.m_MOST_TURNS) (nomark _)) (zg (jy hE jx rfl rfl T.m_NoSpell T.e_NoSpell (za s3 zb))) zO)))),fun ds Q h=>?_⟩
 obtain⟨l,rfl,q,hE'⟩:=h
 walk_at "rd"
 simp only [YaR]
 by_cases h1:1<=(l.length:Int)
 case neg=>rw [if_neg h1];exact hE' fun z=>h1 (by have:=z.1.1;omega)
 rw [if_pos h1]
 by_cases h2:(l.length:Int)<=8
 case neg=>rw [if_pos h2];exact hE' fun z=>h2 (by have:=z.1.2;omega)
 rw [if_neg (fun z=>z h2)]
 have hd0:atI (l.map dS) 0=some (dS (l.headD (0,[]))):=by
  cases l with
  | nil=>simp at h1
  | cons a r=>exact atI0
 refine ZC (fun ds ρ=>∃ rest t u,ds=rest.map dS/\ρ = [some (.sh false (.list (l.map dS))),t,u]/\(∀ w∈rest,w∈l)/\∀ w∈l,w∈rest\/(1<=w.1/\okW w.2/\w.2.length=many l)) ?_ ?_ _ _ ⟨l,none,none,rfl,rfl,fun _ h=>h,fun _ h=>.inl h⟩
 . rintro d ds ρ ⟨rest,t,u,e,rfl,hin,hall⟩ W hW
   cases rest with
   | nil=>cases e
   | cons w rest=>
    cases e;have hw:=hin w YaV
    walk_at "rd"
    by_cases h3:w.1<1
    . rw [if_pos h3];exact hE' fun z=>by have:=(z.2.1 w hw).1;omega
    rw [if_neg h3];refine⟨w.2,rfl,fun hok=>?_,fun hno=>hE' fun z=>hno (z.2.1 w hw).2.1⟩
    simp only [seq3,next3,set3,own3,ret3,ifS3,tt3,o3,u3,v3,atV,asS,asB,asD,optP,asT,asLd,asL,atO,jN,nilP,asId,asI,k3,nw3,add3,int3,int0,neg3,eq3,ne3,eqOk,eqv3,isN3,notN3,isNone,ix3,ixD,Z4,nil3,J9,cb3,len3,lenD,abs3,max23,min23,sum3,min3,if3,and3,or3,not3,Z8,Z5,ch3,tup3,lst3,slL3,no3,ZA,ZG,L2.isD,ZS,asg3,gn3,Z6,jW,gnil3,app3,put3,frzS,frz,frz1,for3,itL,itZ,rg1,rg2,jX,true3,cst3,ZJ,z5,shs,Cl.d,Cl.dat,Cl.f,zaC,zA,Option.map_some,Option.map_none,Option.isSome_some,Option.isSome_none,Option.join_some,Option.join_none,List.all_cons,List.all_nil,Wbv,Wbq,Wbs,Wbp,Wbr,WbF,WbA,Ya1,Wbz,List.length_cons,List.length_nil,Nat.reduceAdd,Nat.reduceSub,WbC,List.replicate,List.cons_append,List.nil_append,Yao,List.getElem?_cons_zero,List.getElem?_cons_succ,List.set_cons_zero,List.set_cons_succ,WaO,Cl.sh.injEq,Cl.ow.injEq,Wbc,Wa0,Wbd,Wa1,WaK,Wbh,reduceCtorEq,and_assoc,and_true,true_and,and_self,exists_eq_left,exists_eq_left',exists_eq',exists_eq_right,exists_eq_right',exists_and_left,exists_const,exists_false,false_and,and_false,or_false,false_or,or_true,true_or,decide_true,decide_false,decide_eq_true_eq,Wbt,Wbn,WaH,WaL,if_true,if_false,ite_true,ite_false,WaN,decide_eq_false_iff_not,eq_self_iff_true,not_true_eq_false,not_false_eq_true,sz0,sz1,sz2,sz3,sz4,Z1,par3,aug3,ext3,itE,Zx,Cl.dt.injEq,itE1,slT3,zab,ZW,ZL,ZM,atK,frzD,itD,ZF,ZX,ZN,ZP,Cl.fd.injEq,ZE,zaa,JG,Ze,Jw,Zc,J0,Zp,JJ,JM,Je,j7,J6,Zw,JN,Jt,JA,J3,JZ,JH,J7,Zm,JU,Ju,JK,Zj,JE,Jm,Zi,Zv,J2,Js,Jp,dSs,dS,dI,zA,dQ,dRoom,dW,dT,atI0,atI1,atI2,atI3,atI0,atI1,hd0,YaR]
    by_cases h4:(w.2.length:Int)=(l.headD (0,[])).2.length
    . rw [if_neg (fun z=>z h4)]
      refine hW _ ⟨rest,_,_,rfl,rfl,fun x hx=>hin x (YaT _ hx),fun x hx=>?_⟩
      rcases hall x hx with z|z
      . rcases Wbo.mp z with rfl|z
        . exact .inr ⟨#[0],hok,by unfold many;omega⟩
        . exact .inl z
      . exact .inr z
    . rw [if_pos h4]
      exact hE' fun z=>h4 (by have:=(z.2.1 w hw).2.2;unfold many at this;omega)
 . rintro ρ ⟨rest,t,u,e,rfl,hin,hall⟩
   cases rest with
   | cons _ _=>cases e
   | nil=>
    walk_at "rd"
    refine⟨l,rfl,#[0],?_⟩
    by_cases h3:60<tot l
    . rw [if_pos h3];exact hE' fun z=>by have:=z.2.2;omega
    . rw [if_neg h3]
      exact q ⟨⟨#[0],#[0]⟩,fun w hw=>(hall w hw).resolve_left (by simp),#[0]⟩
theorem zlW(T:Txt c K mg)(zn2:#[8,dd_check_weights c])(zn0:#[8,dd_all_turns]):dd_check_spells c P w K mg base:=by
 obtain⟨f,fd,F,hm⟩:=T.d_check_spells;have hb:=F.binds (ps:=["spells"]) fun _ _ _ _ _ _ us hl=>by obtain⟨_,rfl⟩:=ji hl;rfl
 refine⟨fun ds Q Q' E E' hQ hE h=>?_,⟨f,fd,zm1 T zn2 zn0 F,hb,F.kp,hm⟩⟩
 obtain⟨l,e,h1,h2⟩:=h;exact⟨l,e,fun z=>hQ _ _ (h1 z),fun z=>hE _ (h2 z)⟩
theorem zkh:FnScope ["one", "other", "greater", "lesser", "rest"] ["one", "other"] (ze Jy):=⟨rfl,rfl,rfl,#[3],rfl,#[3],#[3]⟩
theorem zfX(T:Txt c K mg){f:Addr}{fd:FuncData}(F:Fun K "common_divisor" "common_divisor" Jy f fd):FnOk P w K mg base (CXR P w) 1 f fd ["one", "other"] (spL K Je):=by
 have S:=zkh;refine fn3 F S (fun ds Q E h=>?_) (fun cdv A outer s H E E3 hE hr=>?_)
 . obtain⟨_,_,rfl,_⟩:=h;rfl
 refine⟨_,(zc (zi (i:=2) S.nd rfl #[2] (zt zaY rfl T.n_abs za7 (za (n3 0) zb)))
  (zc (zi (i:=3) S.nd rfl #[2] (zt zaY rfl T.n_abs za7 (za (n3 1) zb)))
  (zc (zau Wa2 (zG (zd9 hr.units) (n3 3) i3 (nomark _)) (zc (zi (i:=4) S.nd rfl #[2] (op3 ja (n3 2) (n3 3)))
   (zc (zi (i:=2) S.nd rfl #[2] (n3 3))
   (zg (zi (i:=3) S.nd rfl #[2] (n3 4))))))
  (zg (zu (n3 2)))))),fun ds Q h=>?_⟩
 obtain⟨a,b,rfl,q⟩:=h
 walk_at "rd"
 refine⟨_,Z2 (fun n ρ=>∃ g l r,ρ = [#[5,a],#[5,b],#[5,g],#[5,l],r]/\0<=g/\0<=l/\Int.gcd g l=Int.gcd a b/\n=l.toNat) ?_ _ _ ⟨_,_,_,rfl,by split<;>omega,by split<;>omega,zdS a b,rfl⟩⟩
 rintro n ρ ⟨g,l,r,rfl,hg,hl,hG,rfl⟩ W hW
 walk_at "rd"
 by_cases h0:l=0
 . rw [if_neg (fun z=>z h0)]
   subst h0;rw [<-hG,zcL hg] at q;exact q
 . rw [if_pos h0]
   have hp:0<l:=#[0]
   have h1:=Ybc g h0;have h2:=Ybd g hp;exact⟨hp,hW (g%l).toNat _ #[0] ⟨l,g%l,_,rfl,hl,h1,(zdC hg hp).trans hG,rfl⟩⟩
theorem zkv(T:Txt c K mg) : dd_common_divisor P w K mg base:=by
 obtain⟨f,fd,F,hm⟩:=T.d_common_divisor;have hb:=F.binds (ps:=["one", "other"]) fun _ _ _ _ _ _ us hl=>by obtain⟨_,_,rfl⟩:=zY hl;rfl
 refine⟨fun ds Q Q' E E' hQ hE h=>?_,⟨f,fd,zfX T F,hb,F.kp,hm⟩⟩
 first|(obtain⟨a0,a1,e,h⟩:=h;exact⟨a0,a1,e,hQ _ h⟩)|(unfold Je at *;grind)
theorem zgR:FnScope ["weights", "divisor", "weight"] ["weights"] (ze Jx):=⟨rfl,rfl,rfl,#[3],rfl,#[3],#[3]⟩
theorem zlT(T:Txt c K mg)(zn3:#[8,dd_common_divisor]){f:Addr}{fd:FuncData}(F:Fun K "divisor_of_all" "divisor_of_all" Jx f fd):FnOk P w K mg base (CXR P w) 2 f fd ["weights"] (spL K j7):=by
 have S:=zgR;refine fn3 F S (fun ds Q E h=>?_) (fun cdv A outer s H E E3 hE hr=>?_)
 . obtain⟨_,rfl,_⟩:=h;rfl
 refine⟨_,(zc (zi (i:=1) S.nd rfl #[2] i3)
  (zc (zM Wa2 rfl (zV (n3 0)) (zn (i:=2) S.nd rfl #[2]) (zg (zi (i:=1) S.nd rfl #[2] (df3 hE zn3 (hr.mono #[1]) rfl zq (za (n3 1) (za (n3 2) zb))))))
  (zg (zu (n3 1))))),fun ds Q h=>?_⟩
 obtain⟨ws,rfl,q⟩:=h
 walk_at "rd"
 refine ZC (fun ds ρ=>∃ done rest t,ds=rest.map PyData.int/\ws=done++rest/\ρ = [some (.sh false (.list (ws.map .int))),#[5,gcdL done],t]) ?_ ?_ _ _ ⟨[],ws,none,rfl,rfl,rfl⟩
 . rintro d ds ρ ⟨done,rest,t,e,hws,rfl⟩ W hW
   cases rest with
   | nil=>cases e
   | cons w rest=>
    cases e
    walk_at "rd"
    exact hW _ ⟨done++[w],rest,_,rfl,by rw [hws,Yag];rfl,by unfold gcdL;rw [WaR];rfl⟩
 . rintro ρ ⟨done,rest,t,e,hws,rfl⟩
   cases rest with
   | cons _ _=>cases e
   | nil=>
    walk_at "rd"
    rw [Yao] at hws;subst hws;exact q
theorem zjQ(T:Txt c K mg)(zn3:#[8,dd_common_divisor]):dd_divisor_of_all P w K mg base:=by
 obtain⟨f,fd,F,hm⟩:=T.d_divisor_of_all;have hb:=F.binds (ps:=["weights"]) fun _ _ _ _ _ _ us hl=>by obtain⟨_,rfl⟩:=ji hl;rfl
 refine⟨fun ds Q Q' E E' hQ hE h=>?_,⟨f,fd,zlT T zn3 F,hb,F.kp,hm⟩⟩
 first|(obtain⟨a0,e,h⟩:=h;exact⟨a0,e,hQ _ h⟩)|(unfold j7 at *;grind)
theorem zlA:FnScope ["spells", "bottom", "spell", "parts"] ["spells"] (ze Zg):=⟨rfl,rfl,rfl,#[3],rfl,#[3],#[3]⟩
theorem zlH(T:Txt c K mg)(zn6:#[8,dd_divisor_of_all])(zn3:#[8,dd_common_divisor]){f:Addr}{fd:FuncData}(F:Fun K "least_bottom" "least_bottom" Zg f fd):FnOk P w K mg base (CXR P w) 3 f fd ["spells"] (spL K J6):=by
 have S:=zlA;refine fn3 F S (fun ds Q E h=>?_) (fun cdv A outer s H E E3 hE hr=>?_)
 . obtain⟨_,rfl,_⟩:=h;rfl
 refine⟨_,(zc (zi (i:=1) S.nd rfl #[2] i3)
  (zc (zM Wa2 rfl (zV (n3 0)) (zn (i:=2) S.nd rfl #[2]) (zc (zi (i:=3) S.nd rfl #[2] (op3 zX (zt (Ji rfl) rfl T.n_sum Jq (za (at3 (n3 2) i3 #[4]) zb)) (df3 hE zn6 (hr.mono #[1]) rfl zq (za (at3 (n3 2) i3 #[4]) zb))))
   (zg (zi (i:=1) S.nd rfl #[2] (op3 zX (op3 jr (n3 1) (n3 3)) (df3 hE zn3 (hr.mono #[1]) rfl zq (za (n3 1) (za (n3 3) zb))))))))
  (zg (zu (n3 1))))),fun ds Q h=>?_⟩
 obtain⟨l,rfl,hok,q⟩:=h
 walk_at "rd"
 refine ZC (fun ds ρ=>∃ done rest t u,ds=rest.map dS/\l=done++rest/\ρ = [some (.sh false (.list (l.map dS))),#[5,bot done],t,u]) ?_ ?_ _ _ ⟨[],l,none,none,rfl,rfl,rfl⟩
 . rintro d ds ρ ⟨done,rest,t,u,e,hl,rfl⟩ W hW
   cases rest with
   | nil=>cases e
   | cons w rest=>
    cases e;have hw:w∈l:=by rw [hl];simp
    have hwok:=(hok.2.1 w hw).2.1;have hdone:0<bot done/\Bits (1+103*done.length) (bot done):=zbk done 1 1 (fun s hs=>(hok.2.1 s (by rw [hl];exact Yai _ hs)).2.1) #[1] (by unfold Bits;decide)
    have hlen:done.length<=8:=by have:=hok.1.2;rw [hl,YaS] at this;omega
    have hb:Bits 900 (bot done):=hdone.2.mono #[0]
    simp only [seq3,next3,set3,own3,ret3,ifS3,tt3,o3,u3,v3,atV,asS,asB,asD,optP,asT,asLd,asL,atO,jN,nilP,asId,asI,k3,nw3,add3,int3,int0,neg3,eq3,ne3,eqOk,eqv3,isN3,notN3,isNone,ix3,ixD,Z4,nil3,J9,cb3,len3,lenD,abs3,max23,min23,sum3,min3,if3,and3,or3,not3,Z8,Z5,ch3,tup3,lst3,slL3,no3,ZA,ZG,L2.isD,ZS,asg3,gn3,Z6,jW,gnil3,app3,put3,frzS,frz,frz1,for3,itL,itZ,rg1,rg2,jX,true3,cst3,ZJ,z5,shs,Cl.d,Cl.dat,Cl.f,zaC,zA,Option.map_some,Option.map_none,Option.isSome_some,Option.isSome_none,Option.join_some,Option.join_none,List.all_cons,List.all_nil,Wbv,Wbq,Wbs,Wbp,Wbr,WbF,WbA,Ya1,Wbz,List.length_cons,List.length_nil,Nat.reduceAdd,Nat.reduceSub,WbC,List.replicate,List.cons_append,List.nil_append,Yao,List.getElem?_cons_zero,List.getElem?_cons_succ,List.set_cons_zero,List.set_cons_succ,WaO,Cl.sh.injEq,Cl.ow.injEq,Wbc,Wa0,Wbd,Wa1,WaK,Wbh,reduceCtorEq,and_assoc,and_true,true_and,and_self,exists_eq_left,exists_eq_left',exists_eq',exists_eq_right,exists_eq_right',exists_and_left,exists_const,exists_false,false_and,and_false,or_false,false_or,or_true,true_or,decide_true,decide_false,decide_eq_true_eq,Wbt,Wbn,WaH,WaL,if_true,if_false,ite_true,ite_false,WaN,decide_eq_false_iff_not,eq_self_iff_true,not_true_eq_false,not_false_eq_true,sz0,sz1,sz2,sz3,sz4,Z1,par3,aug3,ext3,itE,Zx,Cl.dt.injEq,itE1,slT3,zab,ZW,ZL,ZM,atK,frzD,itD,ZF,ZX,ZN,ZP,Cl.fd.injEq,ZE,zaa,JG,Ze,Jw,Zc,J0,Zp,JJ,JM,Je,j7,J6,Zw,JN,Jt,JA,J3,JZ,JH,J7,Zm,JU,Ju,JK,Zj,JE,Jm,Zi,Zv,J2,Js,Jp,dSs,dS,dI,zA,dQ,dRoom,dW,dT,atI0,atI1,atI2,atI3,atI0,atI1]
    refine⟨w.2,jO _,w.2,rfl,⟨zcs hwok,((Z9 hwok).le (by have:=zkq hwok;have:=zcs hwok;omega)).mono #[1]⟩,?_⟩
    have hgb:Bits 9000 (Int.gcd (bot done) (parts w.2):Int):=((zbt hwok).le (by have:=zf2 (b:=bot done) (JF hwok);have:=zbR (b:=bot done) (JF hwok);have:=JF hwok;omega)).mono #[1]
    refine⟨hb.mulOk (zbt hwok) #[1],⟨zbR (JF hwok),hgb⟩,?_⟩
    exact hW _ ⟨done++[w],rest,_,_,rfl,by rw [hl,Yag];rfl,by unfold bot;rw [WaR];rfl⟩
 . rintro ρ ⟨done,rest,t,u,e,hl,rfl⟩
   cases rest with
   | cons _ _=>cases e
   | nil=>
    walk_at "rd"
    rw [Yao] at hl;subst hl;exact q
theorem ziV(T:Txt c K mg)(zn6:#[8,dd_divisor_of_all])(zn3:#[8,dd_common_divisor]):dd_least_bottom P w K mg base:=by
 obtain⟨f,fd,F,hm⟩:=T.d_least_bottom;have hb:=F.binds (ps:=["spells"]) fun _ _ _ _ _ _ us hl=>by obtain⟨_,rfl⟩:=ji hl;rfl
 refine⟨fun ds Q Q' E E' hQ hE h=>?_,⟨f,fd,zlH T zn6 zn3 F,hb,F.kp,hm⟩⟩
 obtain⟨l,e,o,h⟩:=h;exact⟨l,e,o,hQ _ _ h⟩
theorem zkN:FnScope ["bottom", "weights", "total"] ["bottom", "weights"] (ze Jb):=⟨rfl,rfl,rfl,#[3],rfl,#[3],#[3]⟩
theorem zhc(T:Txt c K mg){f:Addr}{fd:FuncData}(F:Fun K "shares_over" "shares_over" Jb f fd):FnOk P w K mg base (CXR P w) 1 f fd ["bottom", "weights"] (spL K Zw):=by
 have S:=zkN;refine fn3 F S (fun ds Q E h=>?_) (fun cdv A outer s H E E3 hE hr=>?_)
 . obtain⟨_,_,rfl,_⟩:=h;rfl
 refine⟨_,(zc (zi (i:=2) S.nd rfl #[2] (zt (Ji rfl) rfl T.n_sum Jq (za (n3 1) zb)))
  (zg (zu (new3 (ZB ["weight"] ["bottom", "total"] [0,2] rfl (jL (osc:=ze Jb) #[3]) rfl (zV (n3 1)) (fun H0 s H fp cl=>⟨(zn (i:=0) (show((["weight"]:List PySem.Str)++(["bottom", "total"]:List PySem.Str)).Nodup by decide) rfl #[2]),jI,(op3 zX (op3 jr (n3 0) (n3 1)) (n3 2))⟩)))))),fun ds Q h=>?_⟩
 obtain⟨b,ws,rfl,hok,hb,q⟩:=h
 walk_at "rd"
 refine⟨ws,jO _,?_⟩
 refine⟨sz (by rw [YaR];have:=hok.1.2;omega),?_⟩
 refine jE (f:=false) PyData.int (fun w=>.int (w*b/ws.sum)) (fun ρ=>∃ t,ρ = [t,#[5,b],#[5,ws.sum]]) ws ?_ _ _ _ _ ⟨none,rfl⟩ ?_
 . rintro w hw ρ fa acc K ⟨t,rfl⟩ k
   have h1:IntMulOk w b:=(zde hok hw).mulOk hb #[1]
   have h2:Zs (w*b) ws.sum:=⟨jk hok,(Z9 hok).mono #[1]⟩
   show IntMulOk w b/\Zs (w*b) ws.sum/\K (fa&&true) (acc++[.int (w*b/ws.sum)]) [#[5,w],#[5,b],#[5,ws.sum]]
   rw [Wbv];exact⟨h1,h2,k _ ⟨_,rfl⟩⟩
 . unfold dI shares at q
   rw [YaD] at q;exact q
theorem zgl(T:Txt c K mg) : dd_shares_over P w K mg base:=by
 obtain⟨f,fd,F,hm⟩:=T.d_shares_over;have hb:=F.binds (ps:=["bottom", "weights"]) fun _ _ _ _ _ _ us hl=>by obtain⟨_,_,rfl⟩:=zY hl;rfl
 refine⟨fun ds Q Q' E E' hQ hE h=>?_,⟨f,fd,zhc T F,hb,F.kp,hm⟩⟩
 obtain⟨b,l,e,o,p,h⟩:=h;exact⟨b,l,e,o,p,hQ _ _ h⟩
theorem znj:FnScope ["spells", "bottom", "latest", "told", "turns", "weights", "shares", "turn"] ["spells"] (ze jH):=⟨rfl,rfl,rfl,#[3],rfl,#[3],#[3]⟩
theorem zgw(T:Txt c K mg)(zn1:#[8,dd_check_spells c])(zoi:#[8,dd_least_bottom])(zop:#[8,dd_shares_over]){f:Addr}{fd:FuncData}(F:Fun K "quotas" "quotas" jH f fd):FnOk P w K mg base (CXR P w) 4 f fd ["spells"] (spL K (JN c)):=by
 have S:=znj;refine fn3 F S (fun ds Q E h=>?_) (fun cdv A outer s H E E3 hE hr=>?_)
 . obtain⟨_,rfl,_⟩:=h;rfl
 refine⟨_,(zc (zcJ (df3 hE zn1 (hr.mono #[1]) rfl zq (za (n3 0) zb)))
  (zc (zi (i:=1) S.nd rfl #[2] (df3 hE zoi (hr.mono #[1]) rfl zq (za (n3 0) zb)))
  (zc (zaK (i:=2) S.nd rfl #[2] ["weight"] [] [] rfl (jL (osc:=ze jH) #[3]) rfl (zV (at3 (at3 (n3 0) i3 #[4]) i3 #[4])) (fun H0 s H fp cl=>⟨(zn (i:=0) (show((["weight"]:List PySem.Str)++([]:List PySem.Str)).Nodup by decide) rfl #[2]),jI,i3⟩))
  (zc (jP (i:=3) S.nd rfl #[2] (jl (za (n3 2) zb)))
  (zc (zM Wa2 rfl (zV (n3 0)) (jB (n:=2) rfl (zQ (zn (i:=4) S.nd rfl #[2]) (zQ (zn (i:=5) S.nd rfl #[2]) jw))) (zc (zi (i:=6) S.nd rfl #[2] (df3 hE zop (hr.mono #[1]) rfl zq (za (n3 1) (za (n3 5) zb))))
   (zg (zM Wa2 rfl (Zb rfl T.n_range (za (n3 4) zb)) (zn (i:=7) S.nd rfl #[2]) (zc (zaK (i:=2) S.nd rfl #[2] ["quota", "share"] [] [] rfl (jL (osc:=ze jH) #[3]) rfl (zlP rfl T.n_zip (za (n3 2) (za (n3 6) zb))) (fun H0 s H fp cl=>⟨(jB (n:=2) rfl (zQ (zn (i:=0) (show((["quota", "share"]:List PySem.Str)++([]:List PySem.Str)).Nodup by decide) rfl #[2]) (zQ (zn (i:=1) (show((["quota", "share"]:List PySem.Str)++([]:List PySem.Str)).Nodup by decide) rfl #[2]) jw))),jI,(op3 zT (n3 0) (n3 1))⟩))
    (zg (JS (i:=3) rfl #[2] (n3 2))))))))
  (zg (jD [3] (zu (zR (za (n3 1) (za (n3 3) zb))))))))))),fun ds Q h=>?_⟩
 obtain⟨l,rfl,q,hE'⟩:=h;refine zk fun N hN=>?_
 walk_at "rd"
 refine⟨l,rfl,fun hok=>hN _ ?_,hE'⟩
 clear hN N;have hl0:l≠[]:=fun z=>by have:=hok.1.1;rw [z] at this;simp at this
 have hd0:atI (l.map dS) 0=some (dS (l.headD (0,[]))):=by
  cases l with
  | nil=>exact absurd rfl hl0
  | cons a r=>exact atI0
 have hmany:many l<=8:=by
  cases l with
  | nil=>exact absurd rfl hl0
  | cons a r=>exact(hok.2.1 a YaV).2.1.1.2
 refine zk fun N hN=>?_
 walk_at "rd"
 refine⟨l,rfl,hok,hN _ ?_⟩
 clear hN N;refine zk fun N hN=>?_
 walk_at "rd hd0 atI1 YaR"
 refine⟨sz (by unfold many at hmany;omega),?_⟩
 refine jE PyData.int (fun _=>.int 0) (fun ρ=>∃ t,ρ = [t]) (l.headD (0,[])).2 ?_ _ _ _ _ ⟨none,rfl⟩ ?_
 . rintro w hw ρ fa acc K ⟨t,rfl⟩ k
   walk_at "rd"
   exact k _ ⟨_,rfl⟩
 have hz:(l.headD (0,[])).2.map (fun _=>PyData.int 0)=(zeros l).map .int:=by
  unfold zeros many;rw [Yaz,List.map_const']
 rw [List.nil_append,hz];refine hN _ ?_;clear hN N;refine zk fun N hN=>?_
 walk_at "rd"
 refine hN _ ?_
 clear hN N
 walk_at "rd"
 refine ZC (fun ds ρ=>∃ done rest t u v w,ds=rest.map dS/\l=done++rest/\ρ = [some (.sh false (.list (l.map dS))),#[5,bot l],some (.sh true (dI (runQ (bot l) done (zeros l,[zeros l])).1)),some (.ow true ((runQ (bot l) done (zeros l,[zeros l])).2.map dI)),t,u,v,w]/\(runQ (bot l) done (zeros l,[zeros l])).2.length<=1+(tot done).toNat) ?_ ?_ _ _ ⟨[],l,none,none,none,none,rfl,rfl,rfl,by simp [runQ]⟩
 . rintro d ds ρ ⟨done,rest,t,u,v,w',e,hl,rfl,hlen⟩ W hW
   cases rest with
   | nil=>cases e
   | cons w rest=>
    cases e;have hw:w∈l:=by rw [hl];simp
    have hwok:=(hok.2.1 w hw).2.1;have h1t:∀ s∈l,1<=s.1:=fun s hs=>(hok.2.1 s hs).1
    have hwt:=zh7 h1t hw;have hw1:=h1t w hw;have hdt:tot done<=60 - w.1:=by
     have h60:=hok.2.2;have e:tot l=tot done+(w.1+tot rest):=by unfold tot;rw [hl,Ya2,Wbj,Ya1,List.sum_cons]
     have:0<=tot rest:=zZ fun s hs=>h1t s (by rw [hl];exact Yaa _ (YaT _ hs))
     omega
    have hd0':0<=tot done:=zZ fun s hs=>h1t s (by rw [hl];exact Yai _ hs)
    walk_at "rd"
    refine⟨w.2,rfl,hwok,(zaQ hok).mono #[1],#[0],by have:=hok.2.2;omega,?_⟩
    generalize hp:runQ (bot l) done (zeros l,[zeros l])=p at hlen ⊢;refine jG (fun k ρ=>∃ t,ρ = [some (.sh false (.list (l.map dS))),#[5,bot l],some (.sh true (dI (rep (zo (shares (bot l) w.2)) k p).1)),some (.ow true ((rep (zo (shares (bot l) w.2)) k p).2.map dI)),#[5,w.1],some (.sh false (dI w.2)),some (.sh true (dI (shares (bot l) w.2))),t]) ?_ ?_ ⟨w',rfl⟩
    . rintro k ρ hk ⟨t,rfl⟩ W' hW'
      have hr:∀ k p,rep (zo (shares (bot l) w.2)) (k+1) p=zo (shares (bot l) w.2) (rep (zo (shares (bot l) w.2)) k p):=fun k=>by
       induction k with
       | zero=>intro p;rfl
       | succ k ih=>intro p;rw [rep,ih];rfl
      have hlk:=zaw (shares (bot l) w.2) k p
      walk_at "rd"
      rw [zdi,YaR];refine⟨sz (by rw [List.length_zip];unfold shares;rw [YaR];have:=hwok.1.2;omega),?_⟩
      refine jE _ (fun p=>.int (p.1+p.2)) (fun ρ=>∃ t u,ρ = [t,u]) _ ?_ _ _ _ _ ⟨none,none,rfl⟩ ?_
      . rintro x hx ρ fa acc K ⟨t,u,rfl⟩ k
        walk_at "rd"
        exact k _ ⟨_,_,rfl⟩
      . walk_at "rd"
        rw [YaR];refine⟨YaU (show _<1000000 by omega) #[1],hW' _ ⟨?w,?h⟩⟩
        case h=>
        rw [hr];unfold zo addL dI;simp only [Ya2,Ya1,Wbz,YaD,List.nil_append]
        rfl
    . rintro ρ ⟨t,rfl⟩
      have er:runQ (bot l) (done++[w]) (zeros l,[zeros l])=rep (zo (shares (bot l) w.2)) w.1.toNat p:=by
       unfold runQ at hp ⊢;rw [WaR,hp];rfl
      have et:tot (done++[w])=tot done+w.1:=by unfold tot;rw [Ya2,Wbj];simp
      refine hW _ ⟨done++[w],rest,#[5,w.1],some (.sh false (dI w.2)),some (.sh true (dI (shares (bot l) w.2))),t,rfl,by rw [hl,Yag];rfl,by rw [er],?_⟩
      rw [er,zaw,et];omega
 . rintro ρ ⟨done,rest,t,u,v,w,e,hl,rfl,hlen⟩
   cases rest with
   | cons _ _=>cases e
   | nil=>
    walk_at "rd"
    rw [Yao] at hl;subst hl;exact q hok
theorem ziE(T:Txt c K mg)(zn1:#[8,dd_check_spells c])(zoi:#[8,dd_least_bottom])(zop:#[8,dd_shares_over]):dd_quotas c P w K mg base:=by
 obtain⟨f,fd,F,hm⟩:=T.d_quotas;have hb:=F.binds (ps:=["spells"]) fun _ _ _ _ _ _ us hl=>by obtain⟨_,rfl⟩:=ji hl;rfl
 refine⟨fun ds Q Q' E E' hQ hE h=>?_,⟨f,fd,zgw T zn1 zoi zop F,hb,F.kp,hm⟩⟩
 obtain⟨l,e,h1,h2⟩:=h;exact⟨l,e,fun z=>hQ _ _ (h1 z),fun z=>hE _ (h2 z)⟩
theorem zmB:FnScope ["told", "found", "latest", "quota"] ["told"] (ze Zh):=⟨rfl,rfl,rfl,#[3],rfl,#[3],#[3]⟩
theorem zni(T:Txt c K mg){f:Addr}{fd:FuncData}(F:Fun K "possible_rooms" "possible_rooms" Zh f fd):FnOk P w K mg base (CXR P w) 1 f fd ["told"] (spL K Jt):=by
 have S:=zmB;refine fn3 F S (fun ds Q E h=>?_) (fun cdv A outer s H E E3 hE hr=>?_)
 . obtain⟨_,rfl,_⟩:=h;rfl
 refine⟨_,(zc (zjt (i:=1) S.nd rfl #[2])
  (zc (zM Wa2 rfl (zV (at3 (n3 0) i3 #[4])) (zn (i:=2) S.nd rfl #[2]) (zg (zM Wa2 rfl (zV (n3 2)) (zn (i:=3) S.nd rfl #[2]) (zc (zd5 (i:=1) (Zo hr) rfl #[2] (op3 ja (n3 3) (at3 (n3 0) i3 #[4])))
   (zg (zd5 (i:=1) (Zo hr) rfl #[2] (op3 ja (un3 zcg (n3 3)) (at3 (n3 0) i3 #[4]))))))))
  (zg (zu (new3 (zj7 (i:=1) rfl rfl T.n_sorted rfl #[2])))))),fun ds Q h=>?_⟩
 obtain⟨l,rfl,hok,q⟩:=h;have hm:=Zy hok;have hbp:=z6 hok;have hql:=jF hok;have htn:=zZ fun s hs=>(hok.2.1 s hs).1
 have h60:=hok.2.2;have hqr:∀ r∈quo l,r.length=many l:=fun r hr=>jK hok (b:=bot l) hr
 have szl:∀ n:Nat,n<10000->n<sizeLine:=fun n h=>YaU h #[1]
 walk_at "rd"
 refine Jr dI (quo l) (fun done ρ=>∃ ks t u,ρ = [some (.sh false (dT l)),some (.dk ks),t,u]/\ks.Nodup/\ks.length<=16*done.length/\∀ r,r∈ks↔∃ row∈done,∃ x∈row,r=x%bot l\/r=(-x)%bot l) ?_ ?_ ⟨[],none,none,rfl,by simp,by simp,fun r=>by simp⟩
 . rintro done r rest ρ hd ⟨ks,t,u,rfl,nd,hl,hmem⟩ W hW
   have hr:r∈quo l:=by rw [hd];simp
   have hrl:=hqr r hr;have hdl:done.length<=60:=by have:=congrArg List.length hd;rw [YaS,List.length_cons] at this;omega
   walk_at "rd"
   refine Jr PyData.int r (fun done' ρ=>∃ ks u,ρ = [some (.sh false (dT l)),some (.dk ks),some (.sh false (dI r)),u]/\ks.Nodup/\ks.length<=16*done.length+2*done'.length/\∀ s,s∈ks↔(∃ row∈done,∃ x∈row,s=x%bot l\/s=(-x)%bot l)\/∃ x∈done',s=x%bot l\/s=(-x)%bot l) ?_ ?_ ⟨ks,u,rfl,nd,by simpa using hl,fun s=>by rw [hmem s];simp⟩
   . rintro done' x rest' ρ hd' ⟨ks,u,rfl,nd,hl,hmem⟩ W' hW'
     have hdl':done'.length<=8:=by have:=congrArg List.length hd';rw [YaS,List.length_cons] at this;omega
     have a1:=zdv ks (x%bot l);have a2:=zdv (addK ks (x%bot l)) (-x%bot l)
     walk_at "rd"
     refine⟨hbp,szl _ #[0],hbp,szl _ #[0],hW' _ ⟨_,_,rfl,zc3 _ (zc3 _ nd),by rw [YaS,List.length_singleton];omega,fun s=>?_⟩⟩
     rw [zcw,zcw,hmem s]
     constructor
     . rintro(((z|⟨y,hy,z⟩)|z)|z)
       . exact .inl z
       . exact .inr ⟨y,Yai _ hy,z⟩
       . exact .inr ⟨x,by simp,.inl z⟩
       . exact .inr ⟨x,by simp,.inr z⟩
     . rintro(z|⟨y,hy,z⟩)
       . exact .inl (.inl (.inl z))
       . rcases Ya3.mp hy with hy|hy
         . exact .inl (.inl (.inr ⟨y,hy,z⟩))
         . rw [Ya6.mp hy] at z
           exact z.elim (fun z=>.inl (.inr z)) .inr
   . rintro ρ ⟨ks,u,rfl,nd,hl,hmem⟩
     refine hW _ ⟨ks,_,_,rfl,nd,by rw [YaS,List.length_singleton];omega,fun s=>?_⟩
     rw [hmem s]
     constructor
     . rintro(⟨row,h1,h2⟩|⟨x,hx,z⟩)
       . exact⟨row,Yai _ h1,h2⟩
       . exact⟨r,by simp,x,hx,z⟩
     . rintro⟨row,h1,x,hx,z⟩
       rcases Ya3.mp h1 with h1|h1
       . exact .inl ⟨row,h1,x,hx,z⟩
       . rw [Ya6.mp h1] at hx
         exact .inr ⟨x,hx,z⟩
 . rintro ρ ⟨ks,t,u,rfl,nd,hl,hmem⟩
   walk_at "rd"
   exact⟨nd,#[0],fun ns hp hs=>q ns hs (fun r=>hp.mem_iff.trans (hmem r)) (by rw [hp.length_eq];omega)⟩
theorem zgZ(T:Txt c K mg) : dd_possible_rooms P w K mg base:=by
 obtain⟨f,fd,F,hm⟩:=T.d_possible_rooms;have hb:=F.binds (ps:=["told"]) fun _ _ _ _ _ _ us hl=>by obtain⟨_,rfl⟩:=ji hl;rfl
 refine⟨fun ds Q Q' E E' hQ hE h=>?_,⟨f,fd,zni T F,hb,F.kp,hm⟩⟩
 obtain⟨a,e,x,h⟩:=h;exact⟨a,e,x,fun W y d z=>hQ _ _ (h W y d z)⟩
theorem ziK:FnScope ["waiting", "gone"] ["waiting", "gone"] (ze JX):=⟨rfl,rfl,rfl,#[3],rfl,#[3],#[3]⟩
theorem znN(T:Txt c K mg){f:Addr}{fd:FuncData}(F:Fun K "is_late" "is_late" JX f fd):FnOk P w K mg base (CXR P w) 1 f fd ["waiting", "gone"] (spL K JA):=by
 have S:=ziK;refine fn3 F S (fun ds Q E h=>?_) (fun cdv A outer s H E E3 hE hr=>?_)
 . obtain⟨_,_,rfl,_⟩:=h;rfl
 refine⟨_,(zg (zu (zaN (cmp3 Zz (zt zL rfl T.n_len zN (za (n3 0) zb)) i3 (nomark _)) (zaN (cmp3 zeo (at3 (at3 (n3 0) i3 #[4]) i3 #[4]) non3 (nomark _)) (one3 (cmp3 ZZ (at3 (at3 (n3 0) i3 #[4]) i3 #[4]) (n3 1) (nomark _))))))),fun ds Q h=>?_⟩
 obtain⟨w,g,rfl,q⟩:=h;cases w with
 | nil=>walk_at "rd Wbz";exact q
 | cons v r=>
  obtain⟨c,j,o,l⟩:=v;have hp:(0<((r.length+1:Nat):Int))=True:=eq_true #[0]
  cases l with
  | none=>walk_at "rd Ya1 YaR dW dO hp";exact q
  | some x=>walk_at "rd Ya1 YaR dW dO hp";exact q
theorem zfV(T:Txt c K mg) : dd_is_late P w K mg base:=by
 obtain⟨f,fd,F,hm⟩:=T.d_is_late;have hb:=F.binds (ps:=["waiting", "gone"]) fun _ _ _ _ _ _ us hl=>by obtain⟨_,_,rfl⟩:=zY hl;rfl
 refine⟨fun ds Q Q' E E' hQ hE h=>?_,⟨f,fd,znN T F,hb,F.kp,hm⟩⟩
 obtain⟨a,b,e,h⟩:=h;exact⟨a,b,e,hQ _ _ h⟩
theorem zht:FnScope ["waiting", "turn", "place", "visit"] ["waiting", "turn"] (ze J4):=⟨rfl,rfl,rfl,#[3],rfl,#[3],#[3]⟩
theorem zny(T:Txt c K mg){f:Addr}{fd:FuncData}(F:Fun K "place_of_opened" "place_of_opened" J4 f fd):FnOk P w K mg base (CXR P w) 1 f fd ["waiting", "turn"] (spL K J3):=by
 have S:=zht;refine fn3 F S (fun ds Q E h=>?_) (fun cdv A outer s H E E3 hE hr=>?_)
 . obtain⟨_,_,rfl,_⟩:=h;rfl
 refine⟨_,(zc (zM Wa2 rfl (zeD rfl T.n_enumerate (za (n3 0) zb)) (jB (n:=2) rfl (zQ (zn (i:=2) S.nd rfl #[2]) (zQ (zn (i:=3) S.nd rfl #[2]) jw))) (zg (s_if (zG ZZ (at3 (n3 3) i3 #[4]) (n3 1) (nomark _)) (zg (zu (n3 2))) zO)))
  (zg (zu non3))),fun ds Q h=>?_⟩
 obtain⟨w,t,rfl,q⟩:=h;refine zk fun N hN=>?_
 walk_at "rd"
 unfold jJ;rw [YaR];refine zbS (fun k ρ=>∃ t2 t3,ρ = [some (.sh false (.list (w.map dW))),#[5,t],t2,t3]/\∀ i (hi:i<w.length),i<k->t<w[i].2.2.1) ?_ ?_ ⟨none,none,rfl,fun i hi h=>absurd h #[0]⟩
 . rintro k ρ hk ⟨t2,t3,rfl,hb⟩ W hW
   have e:(w.map dW).getD k .none=dW w[k]:=by rw [YaP,Ya0,YaQ hk];rfl
   rw [e];refine⟨rfl,?_⟩;dsimp only [jW,gnil3,gn3,jN,nilP];show ifS3 _ _ _ _ [some (.sh false (.list (w.map dW))),#[5,t],#[5,k],some (.sh false (dW w[k]))]
   walk_at "rd dW"
   by_cases ho:w[k].2.2.1<=t
   . rw [if_pos ho]
     rw [zc7 hk hb ho] at q;exact q
   . rw [if_neg ho]
     refine hW _ ⟨_,_,rfl,fun i hi hik=>?_⟩
     by_cases hik':i<k
     . exact hb i hi hik'
     . have:i=k:=#[0]
       subst this;omega
 . rintro ρ ⟨t2,t3,rfl,hb⟩
   refine hN _ ?_
   walk_at "rd"
   rw [zdK fun i hi=>hb i hi hi] at q
   exact q
theorem zmE(T:Txt c K mg) : dd_place_of_opened P w K mg base:=by
 obtain⟨f,fd,F,hm⟩:=T.d_place_of_opened;have hb:=F.binds (ps:=["waiting", "turn"]) fun _ _ _ _ _ _ us hl=>by obtain⟨_,_,rfl⟩:=zY hl;rfl
 refine⟨fun ds Q Q' E E' hQ hE h=>?_,⟨f,fd,zny T F,hb,F.kp,hm⟩⟩
 obtain⟨a,b,e,h⟩:=h;exact⟨a,b,e,hQ _ _ h⟩
theorem zfR:FnScope ["given", "start", "turn", "visit"] ["given"] (ze JV):=⟨rfl,rfl,rfl,#[3],rfl,#[3],#[3]⟩
theorem zlR(T:Txt c K mg){f:Addr}{fd:FuncData}(F:Fun K "start_of_crowd" "start_of_crowd" JV f fd):FnOk P w K mg base (CXR P w) 1 f fd ["given"] (spL K JZ):=by
 have S:=zfR;refine fn3 F S (fun ds Q E h=>?_) (fun cdv A outer s H E E3 hE hr=>?_)
 . obtain⟨_,rfl,_⟩:=h;rfl
 refine⟨_,(zc (zi (i:=1) S.nd rfl #[2] i3)
  (zc (zM Wa2 rfl (zk0 rfl T.n_enumerate (za (n3 0) zb)) (jB (n:=2) rfl (zQ (zn (i:=2) S.nd rfl #[2]) (zQ (zn (i:=3) S.nd rfl #[2]) jw))) (zg (s_if (pw3 (zb0 (zG zbH (at3 (n3 3) i3 #[4]) non3 (nomark _)) (zbz (zG Zz (at3 (n3 3) i3 #[4]) (zt zL rfl T.n_len zN (za (n3 0) zb)) (nomark _))))) (zg (zi (i:=1) S.nd rfl #[2] (op3 zT (n3 2) i3))) zO)))
  (zg (zu (n3 1))))),fun ds Q h=>?_⟩
 obtain⟨g,rfl,q⟩:=h;refine zk fun N hN=>?_
 walk_at "rd"
 refine hN _ ?_
 clear hN N;refine zk fun N hN=>?_
 walk_at "rd"
 unfold Zu;rw [YaR];refine zbS (fun k ρ=>∃ a t2 t3,ρ = [some (.sh false (.list (g.map dW))),#[5,a],t2,t3]/\zK g.length (g.drop k) ((k:Int)+1) a=zK g.length g 1 1) ?_ ?_ ⟨1,none,none,rfl,rfl⟩
 . rintro k ρ hk ⟨a,t2,t3,rfl,hs⟩ W hW
   have e:(g.map dW).getD k .none=dW g[k]:=by rw [YaP,Ya0,YaQ hk];rfl
   rw [e];rw [Wah hk] at hs;have hc:((k+1:Nat):Int)=(k:Int)+1:=#[0]
   rw [hc] at hW ⊢;refine⟨rfl,?_⟩;dsimp only [jW,gnil3,gn3,jN,nilP];show ifS3 _ _ _ _ [some (.sh false (.list (g.map dW))),#[5,a],#[5,((k:Int)+1)],some (.sh false (dW g[k]))];generalize g[k]=v at hs ⊢;obtain⟨c,j,o,l⟩:=v;cases l with
   | none=>
    walk_at "rd dW dO"
    exact hW _ ⟨_,_,_,rfl,hs⟩
   | some x=>
    have hs:zK g.length (g.drop (k+1)) ((k:Int)+1+1) (if(g.length:Int)<x then(k:Int)+1+1 else a)=zK g.length g 1 1:=hs
    walk_at "rd dW dO YaR"
    by_cases hx:(g.length:Int)<x
    . rw [if_pos hx] at hs ⊢
      exact hW _ ⟨_,_,_,rfl,hs⟩
    . rw [if_neg hx] at hs ⊢
      exact hW _ ⟨_,_,_,rfl,hs⟩
 . rintro ρ ⟨a,t2,t3,rfl,hs⟩
   refine hN _ ?_
   walk_at "rd"
   rw [List.drop_length] at hs;have hs:a=zK g.length g 1 1:=hs;rw [hs];exact q
theorem zm4(T:Txt c K mg) : dd_start_of_crowd P w K mg base:=by
 obtain⟨f,fd,F,hm⟩:=T.d_start_of_crowd;have hb:=F.binds (ps:=["given"]) fun _ _ _ _ _ _ us hl=>by obtain⟨_,rfl⟩:=ji hl;rfl
 refine⟨fun ds Q Q' E E' hQ hE h=>?_,⟨f,fd,zlR T F,hb,F.kp,hm⟩⟩
 obtain⟨a,e,h⟩:=h;exact⟨a,e,hQ _ _ h⟩
theorem znG:FnScope ["visit", "turns", "last"] ["visit", "turns"] (ze Jz):=⟨rfl,rfl,rfl,#[3],rfl,#[3],#[3]⟩
theorem znd(T:Txt c K mg){f:Addr}{fd:FuncData}(F:Fun K "pressing" "pressing" Jz f fd):FnOk P w K mg base (CXR P w) 1 f fd ["visit", "turns"] (spL K JH):=by
 have S:=znG;refine fn3 F S (fun ds Q E h=>?_) (fun cdv A outer s H E E3 hE hr=>?_)
 . obtain⟨_,_,rfl,_⟩:=h;rfl
 refine⟨_,(zc (zi (i:=2) S.nd rfl #[2] (zgz (zG zbH (at3 (n3 0) i3 #[4]) non3 (nomark _)) (op3 zT (n3 1) i3) (at3 (n3 0) i3 #[4])))
  (zg (zu (zR (za (n3 2) (za (at3 (n3 0) i3 #[4]) (za (at3 (n3 0) i3 #[4]) zb))))))),fun ds Q h=>?_⟩
 obtain⟨⟨c,j,o,l⟩,T,rfl,q⟩:=h;cases l with
 | none=>walk_at "rd dW dO";exact q
 | some x=>walk_at "rd dW dO";exact q
theorem zkl(T:Txt c K mg) : dd_pressing P w K mg base:=by
 obtain⟨f,fd,F,hm⟩:=T.d_pressing;have hb:=F.binds (ps:=["visit", "turns"]) fun _ _ _ _ _ _ us hl=>by obtain⟨_,_,rfl⟩:=zY hl;rfl
 refine⟨fun ds Q Q' E E' hQ hE h=>?_,⟨f,fd,znd T F,hb,F.kp,hm⟩⟩
 obtain⟨a,b,e,h⟩:=h;exact⟨a,b,e,hQ _ _ h⟩
theorem zmV:FnScope ["turns", "windows", "waiting", "given", "place"] ["turns", "windows"] (ze jj):=⟨rfl,rfl,rfl,#[3],rfl,#[3],#[3]⟩
theorem znl(T:Txt c K mg)(hB:BMod mg base)(kb:K.In base)(zn8:#[8,dd_is_late])(zok:#[8,dd_place_of_opened])(zoq:#[8,dd_start_of_crowd])(zom:#[8,dd_pressing]){f:Addr}{fd:FuncData}(F:Fun K "deal" "deal" jj f fd)(hcd:fd.code=.ref c.c0):FnOk P w K mg base (CXR P w) 5 f fd ["turns", "windows"] (spU c.tb K J7):=by
 have S:=zmV;have hC:=T.hdC base kb;refine fnU (cv:=fun v=>v=.ref c.c0) F hcd S (fun ds Q E h=>?_) (fun cdv A outer s H E E3 hcv tu hE hr=>?_)
 . obtain⟨_,_,rfl,_⟩:=h;rfl
 subst hcv;refine⟨_,(zc (zkc tu rfl rfl (i:=2) (iw:=1) (it:=0) (k:=1) S.nd rfl #[2] rfl #[2] ⟨.of #[3] rfl rfl rfl rfl rfl trivial,#[1],rfl,rfl,rfl,hC,rfl,hB,rfl,rfl,fun _ _ _ _=>rfl⟩ (hr.mono #[1]) (fun f cd' s H' hr=>(df3 (E:=fun _ _ _=>False) (E3:=fun _=>False) (fun _ _ z _=>z) zom (hr.mono #[1]) rfl zks (za (n3 0) (za (n3 1) zb)))) rfl T.n_sorted)
  (zc (jP (i:=3) S.nd rfl #[2] (jl zb))
  (zc (zau Wa2 (pw3 (zhx (zG Jj (zt zL rfl T.n_len zN (za (n3 3) zb)) (n3 0) (nomark _)) (zkx (zan (val3 (df3 hE zn8 (hr.mono #[1]) rfl zq (za (n3 2) (za (zt zL rfl T.n_len zN (za (n3 3) zb)) zb)))))))) (zc (zi (i:=4) S.nd rfl #[2] (df3 hE zok (hr.mono #[1]) rfl zq (za (n3 2) (za (op3 zT (zt zL rfl T.n_len zN (za (n3 3) zb)) i3) zb))))
   (zc (s_if (zG zbH (n3 4) non3 (nomark _)) (zg (zu (zR (za s3 (za (op3 zT (zt zL rfl T.n_len zN (za (n3 3) zb)) i3) zb))))) zO)
   (zg (zgP (i:=3) (j:=2) rfl #[2] rfl #[2] (n3 4))))))
  (zc (s_if (val3 (df3 hE zn8 (hr.mono #[1]) rfl zq (za (n3 2) (za (zt zL rfl T.n_len zN (za (n3 3) zb)) zb)))) (zg (zu (zR (za s3 (za (df3 hE zoq (hr.mono #[1]) rfl zq (za (n3 3) zb)) (za (zt zL rfl T.n_len zN (za (n3 3) zb)) zb)))))) zO)
  (zg (jD [3] (zu (zR (za s3 (za (new3 (ZB ["visit"] [] [] rfl (jL (osc:=ze jj) #[3]) rfl (zV (n3 3)) (fun H0 s H fp cl=>⟨(zn (i:=0) (show((["visit"]:List PySem.Str)++([]:List PySem.Str)).Nodup by decide) rfl #[2]),jI,(at3 (n3 0) i3 #[4])⟩))) zb)))))))))),fun ds Q h=>?_⟩
 obtain⟨T,V,rfl,hT0,hT,h64,ok,q⟩:=h;refine zk fun N hN=>?_
 walk_at "rd"
 refine⟨by rw [YaR];exact h64,keyD T,fun d hd=>?_,zkd ok.nd,fun ds' hp hs=>?_⟩
 . obtain⟨v,_,rfl⟩:=Ya7.mp hd
   exact⟨v,rfl,by rw [zaG]⟩
 obtain⟨w0,hp0,rfl⟩:=zhU hp V rfl;have hs0:w0.Pairwise (less T):=by
  rw [WaW] at hs;exact hs.imp fun {a b} h=>(zjK T a b).mp h
 have d0:Dealt T V w0 []:=Dealt.start hp0 hs0;refine hN _ ?_;clear hN N hp hs;refine zk fun N hN=>?_
 walk_at "rd"
 refine hN _ ?_
 clear hN N;refine jo (fun ρ'=>∃ (wait given:List Win) (f:Bool) (t4:Option L3.Cl),ρ'=[#[5,T],some (.sh false (.list (V.map dW))),some (.ow false (wait.map dW)),some (.ow f (given.map dW)),t4]/\Dealt T V wait given/\(given.length:Int)<=T/\((given.length:Int)<T->jA wait given.length=true)) (fun N hN=>?_) ?_
 . walk_at "rd"
   refine⟨_,Z2 (fun n ρ=>∃ (wait given:List Win) (f:Bool) (t4:Option L3.Cl),ρ = [#[5,T],some (.sh false (.list (V.map dW))),some (.ow false (wait.map dW)),some (.ow f (given.map dW)),t4]/\Dealt T V wait given/\(given.length:Int)<=T/\n=(T - given.length).toNat) ?_ _ _ ⟨w0,[],true,none,rfl,d0,by simpa using hT0,rfl⟩⟩
   rintro n ρ ⟨wait,given,f,t4,rfl,dd,hg,rfl⟩ W hW
   walk_at "rd YaR"
   by_cases h1:(given.length:Int)<T
   case neg=>rw [if_neg h1];exact hN _ ⟨wait,given,f,t4,rfl,dd,hg,fun z=>absurd z h1⟩
   rw [if_pos h1];refine⟨wait,rfl,?_⟩;cases hlt:jA wait (given.length:Int) with
   | true=>rw [if_neg #[1]];exact hN _ ⟨wait,given,f,t4,rfl,dd,hg,fun _=>hlt⟩
   | false=>
    rw [if_pos rfl];refine⟨wait,rfl,?_⟩;cases hpl:z8 ((given.length:Int)+1) wait with
    | none=>
     refine⟨rfl,?_⟩
     rw [if_pos rfl];exact q _ (.inl ⟨given.length+1,#[0],#[0],dd.lack hpl,rfl⟩)
    | some p=>
     refine⟨rfl,?_⟩
     rw [if_neg (show ¬(false=true) by decide)]
     obtain⟨v,hv,d'⟩:=dd.step hg hlt hpl;have hpw:p<wait.length:=(Ya8.mp hv).1;have hpl:=dd.perm.length_eq;rw [YaS] at hpl;refine⟨#[1],(p:Int),rfl,#[0],#[0],dW v,by rw [Int.toNat_natCast,Ya0,hv];rfl,YaU (show given.length<1000 by omega) #[1],?_⟩
     rw [Int.toNat_natCast,zew,show List.map dW given++[dW v]=List.map dW (given++[v]) by rw [Ya2];rfl]
     have hgl:(given++[v]).length=given.length+1:=by rw [YaS];rfl
     exact hW (T - ((given++[v]).length:Nat)).toNat _ (by rw [hgl];omega) ⟨_,_,_,_,rfl,d',by rw [hgl];omega,rfl⟩
 rintro ρ ⟨wait,given,f,t4,rfl,dd,hg,hl⟩
 refine zk fun N hN=>?_
 walk_at "rd YaR"
 refine⟨wait,rfl,?_⟩
 cases hlt:jA wait (given.length:Int) with
 | true=>
  rw [if_pos rfl];refine⟨given,rfl,?_⟩;have:=dd.crowd ok hg hlt;exact q _ (.inr (.inl ⟨_,_,this.1,#[0],this.2,rfl⟩))
 | false=>
  rw [if_neg #[1]]
  have hgT:(given.length:Int)=T:=by
   by_cases z:(given.length:Int)<T
   . have:=hl z;rw [hlt] at this;cases this
   . omega
  refine hN _ ?_
  clear hN N;have hpl:=dd.perm.length_eq;rw [YaS] at hpl
  walk_at "rd YaR"
  refine⟨sz #[0],?_⟩
  refine jE dW (fun v=>PyData.int v.1) (fun ρ=>∃ t,ρ = [t]) given ?_ _ _ _ _ ⟨none,rfl⟩ ?_
  . rintro v hv ρ fa acc K ⟨t,rfl⟩ k
    walk_at "rd dW"
    exact k _ ⟨_,rfl⟩
  . refine q _ (.inr (.inr ⟨given.map (·.1),by rw [YaR];exact hgT,dd.row ok hgT hlt,⟨wait,given,dd,hgT,rfl⟩,by unfold dI;rw [List.nil_append,YaD];rfl⟩))
theorem zkS(T:Txt c K mg)(hB:BMod mg base)(kb:K.In base)(zn8:#[8,dd_is_late])(zok:#[8,dd_place_of_opened])(zoq:#[8,dd_start_of_crowd])(zom:#[8,dd_pressing]):dd_deal c P w K mg base:=by
 obtain⟨f,fd,F,hm,hcd⟩:=T.x_deal;have hb:=F.binds (ps:=["turns", "windows"]) fun _ _ _ _ _ _ us hl=>by obtain⟨_,_,rfl⟩:=zY hl;rfl
 refine⟨fun ds Q Q' E E' hQ hE h=>?_,⟨f,fd,znl T hB kb zn8 zok zoq zom F hcd,hb,F.kp,hm⟩⟩
 obtain⟨a,b,e,x1,x2,x3,x4,h⟩:=h;exact⟨a,b,e,x1,x2,x3,x4,fun d z=>hQ _ _ (h d z)⟩
theorem zjV:FnScope ["path", "wanted", "turn"] ["path", "wanted"] (ze JI):=⟨rfl,rfl,rfl,#[3],rfl,#[3],#[3]⟩
theorem zf8(T:Txt c K mg){f:Addr}{fd:FuncData}(F:Fun K "first_turn" "first_turn" JI f fd):FnOk P w K mg base (CXR P w) 1 f fd ["path", "wanted"] (spL K Zm):=by
 have S:=zjV;refine fn3 F S (fun ds Q E h=>?_) (fun cdv A outer s H E E3 hE hr=>?_)
 . obtain⟨_,_,rfl,_⟩:=h;rfl
 refine⟨_,(zc (zM Wa2 rfl (zd3 rfl T.n_range (za i3 (za (zt zL rfl T.n_len zN (za (n3 0) zb)) zb))) (zn (i:=2) S.nd rfl #[2]) (zg (s_if (zG zdt (at3 (n3 0) (n3 2) #[4]) (n3 1) (nomark _)) (zg (zu (n3 2))) zO)))
  (zg (zu (zt zL rfl T.n_len zN (za (n3 0) zb))))),fun ds Q h=>?_⟩
 obtain⟨path,x,rfl,h61,h1,q⟩:=h
 walk_at "rd"
 rw [YaR];refine⟨#[1],#[1],#[0],#[0],?_⟩
 have e1:((path.length:Int) - 1).toNat=path.length - 1:=#[0]
 rw [e1];refine jG (lo:=1) (fun k ρ=>∃ t,ρ = [some (.sh false (.list (path.map .int))),#[5,x],t]/\∀ i,1<=i->i<1+k->¬x<=path.getD i 0) ?_ ?_ ⟨none,rfl,fun i h1 h2=>absurd h2 #[0]⟩
 . rintro k ρ hk ⟨t,rfl,hno⟩ W hW
   have hg:=zcj (xs:=path) (i:=1+(k:Int)) #[0] #[0]
   rw [show(1+(k:Int)).toNat=1+k by omega] at hg
   walk_at "rd hg"
   by_cases h:x<=path.getD (1+k) 0
   . rw [if_pos h]
     have:zr path.length (fun t=>decide (x<=path.getD t 0))=1+k:=zcB h1 #[0] #[0] (fun t a b=>decide_eq_false (hno t a b)) fun _=>decide_eq_true h
     rw [this] at q;have e:((1+k:Nat):Int)=1+(k:Int):=#[0]
     rw [e] at q;exact q
   . rw [if_neg h]
     refine hW _ ⟨_,rfl,fun i a b=>?_⟩
     by_cases e:i=1+k
     . rw [e];exact h
     . exact hno i a #[0]
 . rintro ρ ⟨t,rfl,hno⟩
   walk_at "rd"
   rw [YaR];have:zr path.length (fun t=>decide (x<=path.getD t 0))=path.length:=zcB h1 h1 (YaY _) (fun t a b=>decide_eq_false (hno t a #[0])) fun z=>absurd z #[0]
   rw [this] at q;exact q
theorem zf9(T:Txt c K mg) : dd_first_turn P w K mg base:=by
 obtain⟨f,fd,F,hm⟩:=T.d_first_turn;have hb:=F.binds (ps:=["path", "wanted"]) fun _ _ _ _ _ _ us hl=>by obtain⟨_,_,rfl⟩:=zY hl;rfl
 refine⟨fun ds Q Q' E E' hQ hE h=>?_,⟨f,fd,zf8 T F,hb,F.kp,hm⟩⟩
 obtain⟨a,b,e,x,y,h⟩:=h;exact⟨a,b,e,x,y,hQ _ _ h⟩
theorem zhB:FnScope ["bottom", "path", "j", "room", "opens", "last"] ["bottom", "path", "j", "room"] (ze Zn):=⟨rfl,rfl,rfl,#[3],rfl,#[3],#[3]⟩
theorem zkO(T:Txt c K mg)(zn7:#[8,dd_first_turn]){f:Addr}{fd:FuncData}(F:Fun K "window_of" "window_of" Zn f fd):FnOk P w K mg base (CXR P w) 2 f fd ["bottom", "path", "j", "room"] (spL K JU):=by
 have S:=zhB;refine fn3 F S (fun ds Q E h=>?_) (fun cdv A outer s H E E3 hE hr=>?_)
 . obtain⟨_,_,_,_,rfl,_⟩:=h;rfl
 refine⟨_,(zc (zi (i:=4) S.nd rfl #[2] (df3 hE zn7 (hr.mono #[1]) rfl zq (za (n3 1) (za (op3 Z0 (op3 jr (n3 2) (n3 0)) (at3 (n3 3) i3 #[4])) zb))))
  (zc (zi (i:=5) S.nd rfl #[2] (df3 hE zn7 (hr.mono #[1]) rfl zq (za (n3 1) (za (op3 zT (op3 zT (op3 jr (op3 Z0 (n3 2) i3) (n3 0)) (at3 (n3 3) i3 #[4])) i3) zb))))
  (zc (s_if (zG (Jl hr.units) (n3 5) (zt zL rfl T.n_len zN (za (n3 1) zb)) (nomark _)) (zg (zu (zR (za (n3 4) (za non3 zb))))) zO)
  (zg (zu (zR (za (n3 4) (za (n3 5) zb)))))))),fun ds Q h=>?_⟩
 obtain⟨b,path,j,room,rfl,h61,h1,hb,hj,q⟩:=h;refine zk fun N hN=>?_
 walk_at "rd atI0 atI1"
 refine⟨hj.mulOk hb #[1],path,rfl,h61,h1,hN _ ?_⟩
 clear hN N;refine zk fun N hN=>?_
 walk_at "rd atI0 atI1"
 refine⟨(hj.sub (Bits.lit (x:=1) 64)).mulOk hb #[1],path,rfl,h61,h1,hN _ ?_⟩
 clear hN N;unfold winB winP at q;dsimp only at q;generalize zr path.length (fun t=>decide (j*b - room.2<=path.getD t 0))=f1 at q ⊢
 generalize zr path.length (fun t=>decide ((j - 1)*b+room.1+1<=path.getD t 0))=f2 at q ⊢
 walk_at "rd YaR"
 by_cases h:f2=path.length
 . rw [if_pos (by rw [h])]
   rw [if_pos h] at q;exact q
 . rw [if_neg (fun z=>h #[0])]
   rw [if_neg h] at q;exact q
theorem zm5(T:Txt c K mg)(zn7:#[8,dd_first_turn]):dd_window_of P w K mg base:=by
 obtain⟨f,fd,F,hm⟩:=T.d_window_of;have hb:=F.binds (ps:=["bottom", "path", "j", "room"]) fun _ _ _ _ _ _ us hl=>by obtain⟨_,_,_,_,rfl⟩:=zjd hl;rfl
 refine⟨fun ds Q Q' E E' hQ hE h=>?_,⟨f,fd,zkO T zn7 F,hb,F.kp,hm⟩⟩
 obtain⟨a,b,d,n,e,x1,x2,x3,x4,h⟩:=h;exact⟨a,b,d,n,e,x1,x2,x3,x4,hQ _ _ h⟩
theorem zhS:FnScope ["told", "clan", "room", "path", "found", "j", "window"] ["told", "clan", "room"] (ze Jd):=⟨rfl,rfl,rfl,#[3],rfl,#[3],#[3]⟩
theorem zkM(T:Txt c K mg)(zor:#[8,dd_window_of]){f:Addr}{fd:FuncData}(F:Fun K "windows_of_clan" "windows_of_clan" Jd f fd):FnOk P w K mg base (CXR P w) 3 f fd ["told", "clan", "room"] (spL K Ju):=by
 have S:=zhS;refine fn3 F S (fun ds Q E h=>?_) (fun cdv A outer s H E E3 hE hr=>?_)
 . obtain⟨_,_,_,_,_,rfl,_⟩:=h;rfl
 refine⟨_,(zc (zaK (i:=3) S.nd rfl #[2] ["latest"] ["clan"] [1] rfl (jL (osc:=ze Jd) #[3]) rfl (zV (at3 (n3 0) i3 #[4])) (fun H0 s H fp cl=>⟨(zn (i:=0) (show((["latest"]:List PySem.Str)++(["clan"]:List PySem.Str)).Nodup by decide) rfl #[2]),jI,(at3 (n3 0) (n3 1) #[4])⟩))
  (zc (jP (i:=4) S.nd rfl #[2] (jl zb))
  (zc (zi (i:=5) S.nd rfl #[2] i3)
  (zc (zi (i:=6) S.nd rfl #[2] (df3 hE zor (hr.mono #[1]) rfl zq (za (at3 (n3 0) i3 #[4]) (za (n3 3) (za (n3 5) (za (n3 2) zb))))))
  (zc (zau Wa2 (pw3 (zb0 (zG Jj (at3 (n3 6) i3 #[4]) (zt zL rfl T.n_len zN (za (n3 3) zb)) (nomark _)) (zbz (zG zeo (at3 (n3 6) i3 #[4]) non3 (nomark _))))) (zc (JS (i:=4) rfl #[2] (zR (za (n3 1) (za (n3 5) (za (at3 (n3 6) i3 #[4]) (za (at3 (n3 6) i3 #[4]) zb))))))
   (zc (zkH (i:=5) S.nd rfl #[2] i3)
   (zg (zi (i:=6) S.nd rfl #[2] (df3 hE zor (hr.mono #[1]) rfl zq (za (at3 (n3 0) i3 #[4]) (za (n3 3) (za (n3 5) (za (n3 2) zb))))))))))
  (zg (jD [4] (zu (n3 4))))))))),fun ds Q h=>?_⟩
 obtain⟨b,qs,k,room,n,rfl,hb0,hb,hk,h61,h1,hqn,hbd,hr0,hr1,hr80,q⟩:=h;refine zk fun N hN=>?_
 walk_at "rd atI0 atI1"
 refine⟨sz (by rw [YaR];omega),?_⟩
 refine jE dI (fun r=>PyData.int (r.getD k 0)) (fun ρ=>∃ t,ρ = [t,#[5,k]]) qs ?_ _ _ _ _ ⟨none,rfl⟩ ?_
 . rintro r hr ρ fa acc K ⟨t,rfl⟩ kk
   have hg:=zcj (xs:=r) (i:=(k:Int)) #[0] (by rw [hqn r hr];omega)
   rw [Int.toNat_natCast] at hg
   walk_at "rd hg"
   exact kk _ ⟨_,rfl⟩
 have hcol:[]++qs.map (fun r=>PyData.int (r.getD k 0))=(zf qs k).map PyData.int:=by unfold zf;rw [List.nil_append,YaD];rfl
 rw [hcol];refine hN _ ?_;clear hN N;have hcl:(zf qs k).length=qs.length:=by unfold zf;rw [YaR]
 have hcb:∀ t,(zf qs k).getD t 0+room.2<=80*b:=fun t=>by
  unfold zf;rw [YaP,Ya0];cases ht:qs[t]? with
  | none=>
   show 0+room.2<=80*b
   omega
  | some r=>exact hbd r (Yah ht)
 have hM:∀ j,jh qs.length (winB b (zf qs k) room j)->j<=81:=fun j h=>zbZ (M:=80) hb0 #[0] hcb hr1 hr0 j (by rw [hcl];exact h)
 refine zk fun N hN=>?_
 walk_at "rd"
 refine hN _ ?_
 clear hN N;refine zk fun N hN=>?_
 walk_at "rd"
 refine hN _ ?_
 clear hN N;refine zk fun N hN=>?_
 walk_at "rd atI0 atI1"
 refine⟨zf qs k,rfl,room,rfl,rfl,#[0],#[0],hb,Bits.lit (x:=1) 64,hN _ ?_⟩
 clear hN N
 walk_at "rd"
 refine⟨_,Z2 (fun m ρ=>∃ (ws:List Win) (j:Int),ρ = [some (.sh false (.tuple [.int b,.list (qs.map dI)])),#[5,k],some (.sh false (.tuple [.int room.1,.int room.2])),some (.sh true (.list ((zf qs k).map .int))),some (.ow true (ws.map dW)),#[5,j],some (.sh true (.tuple [.int (winB b (zf qs k) room j).1,dO (winB b (zf qs k) room j).2]))]/\1<=j/\j<=82/\(ws.length:Int)=j - 1/\(∀ us,IsW qs.length k (winB b (zf qs k) room) j us->IsW qs.length k (winB b (zf qs k) room) 1 (ws++us))/\m=(82 - j).toNat) ?_ _ _ ⟨[],1,rfl,#[1],#[1],rfl,fun us h=>h,rfl⟩⟩
 rintro m ρ ⟨ws,j,rfl,hj1,hj2,hlen,hpre,rfl⟩ W hW
 have step:jh qs.length (winB b (zf qs k) room j)->W [some (.sh false (.tuple [.int b,.list (qs.map dI)])),#[5,k],some (.sh false (.tuple [.int room.1,.int room.2])),some (.sh true (.list ((zf qs k).map .int))),some (.ow true (ws.map dW++[.tuple [.int k,.int j,.int (winB b (zf qs k) room j).1,dO (winB b (zf qs k) room j).2]])),#[5,j+1],some (.sh true (.tuple [.int (winB b (zf qs k) room (j+1)).1,dO (winB b (zf qs k) room (j+1)).2]))]:=fun ht=>by
  have hj:=hM j ht;refine hW (82 - (j+1)).toNat _ #[0] ⟨ws++[((k:Int),j,(winB b (zf qs k) room j).1,(winB b (zf qs k) room j).2)],j+1,by rw [Ya2];rfl,#[0],#[0],by rw [YaS];simp;omega,fun us h=>?_,rfl⟩
  have:=hpre (((k:Int),j,(winB b (zf qs k) room j).1,(winB b (zf qs k) room j).2)::us) ⟨ht,rfl,h⟩
  simpa using this
 have hsz:(List.map dW ws).length<sizeLine:=YaU (show _<1000 by rw [YaR];omega) #[1]
 have hbj:Bits 64 (j+1):=Bits.lit (x:=j+1) 64 #[0]
 refine zfN fun Y N hY hN=>?_
 have yes:jh qs.length (winB b (zf qs k) room j)->Y:=fun ht=>hY (by
  walk_at "rd atI0 atI1"
  exact⟨hsz,_,rfl,room,rfl,rfl,#[0],#[0],hb,hbj,step ht⟩)
 have no:¬jh qs.length (winB b (zf qs k) room j)->N:=fun hn=>hN (by
  have:=hpre [] hn;rw [Yao] at this
  walk_at "rd"
  exact q ws this #[0])
 walk_at "rd atI0 atI1"
 rw [YaR,hcl]
 by_cases ho:(winB b (zf qs k) room j).1<(qs.length:Int)
 . rw [if_pos ho]
   exact yes (.inl ho)
 . rw [if_neg ho]
   change if isNone (Cl.sh true (dO (winB b (zf qs k) room j).2))=false then _ else _
   rw [zgq]
   by_cases hs:(winB b (zf qs k) room j).2=none
   . rw [if_neg (by rw [hs];decide)]
     exact no fun z=>z.elim ho fun y=>y hs
   . rw [if_pos (by cases h:(winB b (zf qs k) room j).2 with|none=>exact absurd h hs|some i=>rfl)]
     exact yes (.inr hs)
theorem zmD(T:Txt c K mg)(zor:#[8,dd_window_of]):dd_windows_of_clan P w K mg base:=by
 obtain⟨f,fd,F,hm⟩:=T.d_windows_of_clan;have hb:=F.binds (ps:=["told", "clan", "room"]) fun _ _ _ _ _ _ us hl=>by obtain⟨_,_,_,rfl⟩:=zfK hl;rfl
 refine⟨fun ds Q Q' E E' hQ hE h=>?_,⟨f,fd,zkM T zor F,hb,F.kp,hm⟩⟩
 obtain⟨a,b,d,n,m,e,x1,x2,x3,x4,x5,x6,x7,x8,x9,x10,h⟩:=h;exact⟨a,b,d,n,m,e,x1,x2,x3,x4,x5,x6,x7,x8,x9,x10,fun w y z=>hQ _ _ (h w y z)⟩
theorem zie:FnScope ["told", "rooms", "found", "clan", "room"] ["told", "rooms"] (ze JT):=⟨rfl,rfl,rfl,#[3],rfl,#[3],#[3]⟩
theorem zmQ(T:Txt c K mg)(zos:#[8,dd_windows_of_clan]){f:Addr}{fd:FuncData}(F:Fun K "windows_within" "windows_within" JT f fd):FnOk P w K mg base (CXR P w) 4 f fd ["told", "rooms"] (spL K JK):=by
 have S:=zie;refine fn3 F S (fun ds Q E h=>?_) (fun cdv A outer s H E E3 hE hr=>?_)
 . obtain⟨_,_,_,_,rfl,_⟩:=h;rfl
 refine⟨_,(zc (jP (i:=2) S.nd rfl #[2] (jl zb))
  (zc (zM Wa2 rfl (zeD rfl T.n_enumerate (za (n3 1) zb)) (jB (n:=2) rfl (zQ (zn (i:=3) S.nd rfl #[2]) (zQ (zn (i:=4) S.nd rfl #[2]) jw))) (zg (zh3 (i:=2) rfl #[2] (df3 hE zos (hr.mono #[1]) rfl zq (za (n3 0) (za (n3 3) (za (n3 4) zb)))))))
  (zg (jD [2] (zu (n3 2)))))),fun ds Q h=>?_⟩
 obtain⟨b,qs,rooms,n,rfl,hb0,hb,hrl,hn8,h61,h1,hqn,hq60,hrm,q⟩:=h
 walk_at "rd"
 have he:jJ (rooms.map dRoom)=(List.range n).map fun i=>PyData.tuple [PyData.int (i:Nat),dRoom (rooms.getD i (0,0))]:=by
  unfold jJ;rw [YaR,hrl]
  apply Yat
  intro i hi;have:=Yba.mp hi;rw [YaP,Ya0,YaP,YaQ #[0]];rfl
 rw [he];refine zbS (fun k ρ=>∃ (W:List (List Win)) (t u:Option L3.Cl),ρ = [some (.sh false (.tuple [.int b,.list (qs.map dI)])),some (.sh false (.list (rooms.map dRoom))),some (.ow true (W.flatten.map dW)),t,u]/\W.length=k/\(∀ i,i<k->IsW qs.length i (winB b (zf qs i) (rooms.getD i (0,0))) 1 (W.getD i []))/\W.flatten.length<=200*k) ?_ ?_ ⟨[],none,none,rfl,rfl,fun i h=>absurd h #[0],by simp⟩
 . rintro k ρ hk ⟨W,t,u,rfl,hWl,hWi,hWf⟩ W' hW'
   have hrk:=hrm (rooms.getD k (0,0)) (by rw [YaP,YaQ #[0]];exact Ya4 _)
   have hbd:∀ r∈qs,r.getD k 0+(rooms.getD k (0,0)).2<=80*b:=fun r hr=>by
    have h1:=hq60 r hr (r.getD k 0) (by
     rw [YaP,YaQ (by rw [hqn r hr];exact hk)];exact Ya4 _)
    omega
   walk_at "rd"
   refine⟨qs,rfl,k,rfl,rooms.getD k (0,0),rfl,rfl,hb0,hb,n,hk,h61,h1,hqn,hbd,hrk.1,hrk.2.1,#[0],fun ws hws hwl=>⟨sz (by rw [YaR,YaR];omega),?_⟩⟩
   have ef:(W++[ws]).flatten=W.flatten++ws:=by rw [YaE];simp
   rw [<-Ya2,<-ef];refine hW' _ ⟨W++[ws],_,_,rfl,by simp [hWl],fun i hi=>?_,by rw [ef,YaS];omega⟩
   by_cases e:i=k
   . subst e
     have g1:(W++[ws]).getD i []=ws:=by rw [<-hWl];simp
     rw [g1];exact hws
   . have g2:(W++[ws]).getD i []=W.getD i []:=by
      have hlt:i<W.length:=#[0]
      simp [Yab hlt]
     rw [g2];exact hWi i #[0]
 . rintro ρ ⟨W,t,u,rfl,hWl,hWi,hWf⟩
   walk_at "rd"
   exact q W hWl hWi #[0]
theorem zhE(T:Txt c K mg)(zos:#[8,dd_windows_of_clan]):dd_windows_within P w K mg base:=by
 obtain⟨f,fd,F,hm⟩:=T.d_windows_within;have hb:=F.binds (ps:=["told", "rooms"]) fun _ _ _ _ _ _ us hl=>by obtain⟨_,_,rfl⟩:=zY hl;rfl
 refine⟨fun ds Q Q' E E' hQ hE h=>?_,⟨f,fd,zmQ T zos F,hb,F.kp,hm⟩⟩
 obtain⟨a,b,d,n,e,x1,x2,x3,x4,x5,x6,x7,x8,x9,h⟩:=h;exact⟨a,b,d,n,e,x1,x2,x3,x4,x5,x6,x7,x8,x9,fun w x y z=>hQ _ _ (h w x y z)⟩
theorem zh0:FnScope ["told", "room", "by_turn", "rooms"] ["told", "room"] (ze jY):=⟨rfl,rfl,rfl,#[3],rfl,#[3],#[3]⟩
theorem zlg(T:Txt c K mg)(zn4:#[8,dd_deal c])(zot:#[8,dd_windows_within]){f:Addr}{fd:FuncData}(F:Fun K "dealt_within" "dealt_within" jY f fd):FnOk P w K mg base (CXR P w) 6 f fd ["told", "room"] (spU c.tb K Zj):=by
 have S:=zh0;refine fnU (cv:=fun v=>True) F trivial S (fun ds Q E h=>?_) (fun cdv A outer s H E E3 hcv tu hE hr=>?_)
 . obtain⟨_,_,rfl,_⟩:=h;rfl
 refine⟨_,(zc (zi (i:=2) S.nd rfl #[2] (at3 (n3 0) i3 #[4]))
  (zc (zaK (i:=3) S.nd rfl #[2] ["quota"] ["room"] [1] rfl (jL (osc:=ze jY) #[3]) rfl (zV (at3 (n3 2) i3 #[4])) (fun H0 s H fp cl=>⟨(zn (i:=0) (show((["quota"]:List PySem.Str)++(["room"]:List PySem.Str)).Nodup by decide) rfl #[2]),jI,(zR (za (n3 1) (za (n3 1) zb)))⟩))
  (zg (zu (dfU tu hE zn4 (hr.mono #[1]) rfl zq (za (op3 Z0 (zt zL rfl T.n_len zN (za (n3 2) zb)) i3) (za (df3 hE zot (hr.mono #[1]) rfl zq (za (n3 0) (za (n3 3) zb))) zb))))))),fun ds Q h=>?_⟩
 obtain⟨l,room,rfl,hok,h0,hb,q⟩:=h;have hm:=Zy hok;have hbp:=z6 hok;have hql:=jF hok;have htn:=zZ fun s hs=>(hok.2.1 s hs).1
 have h60:=hok.2.2;have hqr:∀ r∈quo l,r.length=many l:=fun r hr=>jK hok (b:=bot l) hr
 have hb2:Bits 2000 (bot l):=(zaQ hok).mono #[1]
 have hd0:atI ((quo l).map dI) 0=some (PyData.list (((quo l)[0]'(by omega)).map PyData.int)):=zbA (i:=0) #[0]
 have h0n:((quo l)[0]'(by omega)).length=many l:=hqr _ (Ya4 _)
 refine zk fun N hN=>?_
 walk_at "rd atI1"
 refine hN _ ?_
 clear hN N;refine zk fun N hN=>?_
 walk_at "rd hd0"
 rw [YaR];refine⟨sz #[0],?_⟩
 refine jE PyData.int (fun _=>dRoom (room,room)) (fun ρ=>∃ t,ρ = [t,#[5,room]]) ((quo l)[0]'(by omega)) ?_ _ _ _ _ ⟨none,rfl⟩ ?_
 . rintro w hw ρ fa acc K ⟨t,rfl⟩ k
   walk_at "rd"
   exact k _ ⟨_,rfl⟩
 have hrm:[]++((quo l)[0]'(by omega)).map (fun _=>dRoom (room,room))=(zw (bot l) (bsR l room)).map dRoom:=by
  rw [zae hbp,List.nil_append,List.map_const',Yaz,h0n]
 rw [hrm];refine hN _ ?_;clear hN N;have hrl:(zw (bot l) (bsR l room)).length=many l:=by rw [zae hbp,Ybb]
 have ht:((quo l).length:Int) - 1=tot l:=#[0]
 obtain⟨hB,ho⟩:=zc6 hok h0 hb
 walk_at "rd YaR"
 rw [ht];refine⟨quo l,rfl,zw (bot l) (bsR l room),rfl,hbp,hb2,#[0],#[0],#[0],fun r hr=>by rw [hrl];exact hqr r hr,fun r hr x hx=>?_,fun p hp=>?_,fun W w1 w2 w3=>?_⟩
 . have h1:=zca hok hbp r hr x hx
   have h2:tot l*bot l<=60*bot l:=Ybe h60 #[0]
   omega
 . rw [zae hbp] at hp
   rw [Wan hp];exact⟨h0,h0,by show room<=20*bot l;omega⟩
 . have hW:IsWs l (bsR l room) W:=⟨by rw [<-hrl];exact w1,fun k hk=>w2 k (by rw [hrl];exact hk)⟩
   exact⟨W.flatten,rfl,htn,#[0],hW.small hok hB ho,za6 hok hW,fun d hd=>q W hW d hd⟩
theorem ziJ(T:Txt c K mg)(zn4:#[8,dd_deal c])(zot:#[8,dd_windows_within]):dd_dealt_within c P w K mg base:=by
 obtain⟨f,fd,F,hm⟩:=T.d_dealt_within;have hb:=F.binds (ps:=["told", "room"]) fun _ _ _ _ _ _ us hl=>by obtain⟨_,_,rfl⟩:=zY hl;rfl
 refine⟨fun ds Q Q' E E' hQ hE h=>?_,⟨f,fd,zlg T zn4 zot F,hb,F.kp,hm⟩⟩
 obtain⟨a,b,e,x1,x2,x3,h⟩:=h;exact⟨a,b,e,x1,x2,x3,fun W y d z=>hQ _ _ (h W y d z)⟩
theorem zmw:FnScope ["told", "rooms", "low", "high", "middle"] ["told"] (ze J8):=⟨rfl,rfl,rfl,#[3],rfl,#[3],#[3]⟩
theorem zjb(T:Txt c K mg)(zol:#[8,dd_possible_rooms])(zn5:#[8,dd_dealt_within c]){f:Addr}{fd:FuncData}(F:Fun K "least_room" "least_room" J8 f fd):FnOk P w K mg base (CXR P w) 7 f fd ["told"] (spU c.tb K JE):=by
 have S:=zmw;refine fnU (cv:=fun v=>True) F trivial S (fun ds Q E h=>?_) (fun cdv A outer s H E E3 hcv tu hE hr=>?_)
 . obtain⟨_,rfl,_⟩:=h;rfl
 refine⟨_,(zc (zi (i:=1) S.nd rfl #[2] (df3 hE zol (hr.mono #[1]) rfl zq (za (n3 0) zb)))
  (zc (zi (i:=2) S.nd rfl #[2] i3)
  (zc (zi (i:=3) S.nd rfl #[2] (op3 Z0 (zt zL rfl T.n_len zN (za (n3 1) zb)) i3))
  (zc (zau Wa2 (zG Jj (n3 2) (n3 3) (nomark _)) (zc (zi (i:=4) S.nd rfl #[2] (op3 zX (op3 zT (n3 2) (n3 3)) i3))
   (zg (s_if (zG (Jl hr.units) (at3 (dfU tu hE zn5 (hr.mono #[1]) rfl zq (za (n3 0) (za (at3 (n3 1) (n3 4) #[4]) zb))) i3 #[4]) s3 (nomark _)) (zg (zi (i:=3) S.nd rfl #[2] (n3 4))) (zg (zi (i:=2) S.nd rfl #[2] (op3 zT (n3 4) i3)))))))
  (zg (zu (at3 (n3 1) (n3 2) #[4]))))))),fun ds Q h=>?_⟩
 obtain⟨l,rfl,hok,q⟩:=h;refine zk fun N hN=>?_
 walk_at "rd"
 refine⟨l,rfl,rfl,hok,fun ns hs hm hl=>hN _ ?_⟩
 clear hN N;refine zk fun N hN=>?_
 walk_at "rd"
 refine hN _ ?_
 clear hN N;refine zk fun N hN=>?_
 walk_at "rd YaR"
 refine hN _ ?_
 clear hN N;obtain⟨hne,hlast⟩:=zlZ hok hs hm;have hat:∀ i:Int,0<=i->i<ns.length->atI (ns.map PyData.int) i=some (.int (ns.getD i.toNat 0)):=fun i h0 h1=>zcj h0 h1
 have hg:∀ i:Nat,i<ns.length->posR l (ns.getD i 0):=fun i hi=>(hm _).mp (by rw [YaP,YaQ hi];exact Ya4 hi)
 walk_at "rd"
 refine⟨_,Z2 (fun m ρ=>∃ (low high:Nat) (t4:Option L3.Cl),ρ = [some (.sh false (dT l)),some (.sh true (dI ns)),#[5,(low:Int)],#[5,(high:Int)],t4]/\low<=high/\high<ns.length/\OkR l (ns.getD high 0)/\(∀ j,j<low->¬OkR l (ns.getD j 0))/\m=high - low) ?_ _ _ ⟨0,ns.length - 1,none,?_,#[0],#[0],hlast,fun j h=>absurd h #[0],rfl⟩⟩
 . rintro m ρ ⟨low,high,t4,rfl,h1,h2,hoh,hno,rfl⟩ W hW
   walk_at "rd"
   by_cases hlh:(low:Int)<(high:Int)
   case neg=>
    rw [if_neg hlh];have e:low=high:=#[0]
    subst e;have ha:=hat low #[0] #[0]
    rw [Int.toNat_natCast] at ha
    walk_at "rd ha"
    exact q _ (zkp hok hs hm h2 hoh hno)
   rw [if_pos hlh];obtain⟨mid,hmid,m1,m2⟩:∃ mid:Nat,((low:Int)+(high:Int))/2=(mid:Int)/\low<=mid/\mid<high:=⟨(((low:Int)+(high:Int))/2).toNat,#[0],#[0],#[0]⟩
   have ha:=hat mid #[0] #[0]
   rw [Int.toNat_natCast] at ha;obtain⟨p1,p2⟩:=zeH hok (hg mid #[0])
   rw [hmid]
   walk_at "rd ha"
   refine⟨divP,l,rfl,rfl,hok,p1,#[0],fun W' hW' d hd=>?_⟩
   have row:OkR l (ns.getD mid 0)->W [some (.sh false (dT l)),some (.sh true (dI ns)),#[5,(low:Int)],#[5,(mid:Int)],#[5,(mid:Int)]]:=fun h=>hW (mid - low) _ #[0] ⟨low,mid,_,rfl,m1,#[0],h,hno,rfl⟩
   have none:¬OkR l (ns.getD mid 0)->W [some (.sh false (dT l)),some (.sh true (dI ns)),#[5,((mid:Int)+1)],#[5,(high:Int)],#[5,(mid:Int)]]:=fun h=>hW (high - (mid+1)) _ #[0] ⟨mid+1,high,_,by rw [show((mid:Int)+1)=((mid+1:Nat):Int) by omega],#[0],h2,hoh,fun j hj=>by
    intro hj2;exact h (zdr (zbT hs (show j<=mid by omega) #[0]) hj2),rfl⟩
   rcases hd with hd|hd|hd
   . have hn:=none (zaZ hok p1 #[0] hW' (.inl hd))
     obtain⟨t,_,_,_,rfl⟩:=hd;refine⟨_,rfl,trivial,?_⟩;have go:∀ P R:Prop,R->(if decide ((Str.ofString "lack")=Str.ofString "row")=true then P else R):=fun P R h=>by rw [if_neg #[3]];exact h
     exact go _ _ hn
   . have hn:=none (zaZ hok p1 #[0] hW' (.inr hd))
     obtain⟨a,b,_,_,_,rfl⟩:=hd;refine⟨_,rfl,trivial,?_⟩;have go:∀ P R:Prop,R->(if decide ((Str.ofString "crowd")=Str.ofString "row")=true then P else R):=fun P R h=>by rw [if_neg #[3]];exact h
     exact go _ _ hn
   . have hr:=row (zeJ hok p1 #[0] hW' hd)
     obtain⟨rr,_,_,_,rfl⟩:=hd;refine⟨_,rfl,trivial,?_⟩;have go:∀ P R:Prop,P->(if decide ((Str.ofString "row")=Str.ofString "row")=true then P else R):=fun P R h=>by rw [if_pos #[3]];exact h
     exact go _ _ hr
 . rw [show((ns.length:Int) - 1)=((ns.length - 1:Nat):Int) by omega]
   rfl
theorem znC(T:Txt c K mg)(zol:#[8,dd_possible_rooms])(zn5:#[8,dd_dealt_within c]):dd_least_room c P w K mg base:=by
 obtain⟨f,fd,F,hm⟩:=T.d_least_room;have hb:=F.binds (ps:=["told"]) fun _ _ _ _ _ _ us hl=>by obtain⟨_,rfl⟩:=ji hl;rfl
 refine⟨fun ds Q Q' E E' hQ hE h=>?_,⟨f,fd,zjb T zol zn5 F,hb,F.kp,hm⟩⟩
 obtain⟨a,e,x,h⟩:=h;exact⟨a,e,x,fun r y=>hQ _ _ (h r y)⟩
theorem zgm:FnScope ["value"] ["value"] (ze JY):=⟨rfl,rfl,rfl,#[3],rfl,#[3],#[3]⟩
theorem zhG(T:Txt c K mg){f:Addr}{fd:FuncData}(F:Fun K "is_whole" "is_whole" JY f fd):FnOk P w K mg base (CXR P w) 1 f fd ["value"] (spL K Jm):=by
 have S:=zgm;refine fn3 F S (fun ds Q E h=>?_) (fun cdv A outer s H E E3 hE hr=>?_)
 . obtain⟨_,rfl,_⟩:=h;rfl
 refine⟨_,(zg (zu (zaN (zbP rfl T.n_isinstance rfl rfl T.n_int ziN (n3 0)) (one3 (zmZ (zbP rfl T.n_isinstance rfl rfl T.n_bool zgA (n3 0))))))),fun ds Q h=>?_⟩
 obtain⟨a,rfl,q⟩:=h
 walk_at "rd"
 exact⟨false,if_neg #[1],q⟩
theorem zgf(T:Txt c K mg) : dd_is_whole P w K mg base:=by
 obtain⟨f,fd,F,hm⟩:=T.d_is_whole;have hb:=F.binds (ps:=["value"]) fun _ _ _ _ _ _ us hl=>by obtain⟨_,rfl⟩:=ji hl;rfl
 refine⟨fun ds Q Q' E E' hQ hE h=>?_,⟨f,fd,zhG T F,hb,F.kp,hm⟩⟩
 first|(obtain⟨a0,e,h⟩:=h;exact⟨a0,e,hQ _ h⟩)|(unfold Jm at *;grind)
theorem znJ:FnScope ["top", "bottom", "divisor"] ["top", "bottom"] (ze JR):=⟨rfl,rfl,rfl,#[3],rfl,#[3],#[3]⟩
theorem znp(T:Txt c K mg)(zn3:#[8,dd_common_divisor])(zn9:#[8,dd_is_whole]){f:Addr}{fd:FuncData}(F:Fun K "ratio" "ratio" JR f fd):FnOk P w K mg base (CXR P w) 2 f fd ["top", "bottom"] (spL K Zi):=by
 have S:=znJ;refine fn3 F S (fun ds Q E h=>?_) (fun cdv A outer s H E E3 hE hr=>?_)
 . obtain⟨_,_,rfl,_⟩:=h;rfl
 refine⟨_,(zc (s_if (pw3 (zb0 (zan (val3 (df3 hE zn9 (hr.mono #[1]) rfl zq (za (n3 0) zb)))) (zbz (zan (val3 (df3 hE zn9 (hr.mono #[1]) rfl zq (za (n3 1) zb))))))) (zg (jy hE jx rfl rfl T.m_NoRatio T.e_NoRatio (za s3 zb))) zO)
  (zc (s_if (zG (Jl hr.units) (n3 1) i3 (nomark _)) (zg (jy hE jx rfl rfl T.m_NoRatio T.e_NoRatio (za s3 zb))) zO)
  (zc (zi (i:=2) S.nd rfl #[2] (df3 hE zn3 (hr.mono #[1]) rfl zq (za (n3 0) (za (n3 1) zb))))
  (zc (s_if (zG Jj (n3 1) i3 (nomark _)) (zg (zi (i:=2) S.nd rfl #[2] (un3 zcg (n3 2)))) zO)
  (zg (zu (zR (za (op3 zX (n3 0) (n3 2)) (za (op3 zX (n3 1) (n3 2)) zb))))))))),fun ds Q h=>?_⟩
 obtain⟨a,b,rfl,hb,hB,q⟩:=h;refine zk fun N hN=>?_
 walk_at "rd"
 refine hN _ ?_
 clear hN N;refine zk fun N hN=>?_
 walk_at "rd"
 rw [if_neg #[0]]
 refine hN _ ?_
 clear hN N;refine zk fun N hN=>?_
 walk_at "rd"
 refine hN _ ?_
 clear hN N;refine zk fun N hN=>?_
 walk_at "rd"
 rw [if_neg #[0]]
 refine hN _ ?_
 clear hN N
 walk_at "rd"
 exact⟨zbm hb hB,zbm hb hB,q⟩
theorem zja(T:Txt c K mg)(zn3:#[8,dd_common_divisor])(zn9:#[8,dd_is_whole]):dd_ratio P w K mg base:=by
 obtain⟨f,fd,F,hm⟩:=T.d_ratio;have hb:=F.binds (ps:=["top", "bottom"]) fun _ _ _ _ _ _ us hl=>by obtain⟨_,_,rfl⟩:=zY hl;rfl
 refine⟨fun ds Q Q' E E' hQ hE h=>?_,⟨f,fd,znp T zn3 zn9 F,hb,F.kp,hm⟩⟩
 obtain⟨a,b,e,z,y,h⟩:=h;exact⟨a,b,e,z,y,hQ _ _ h⟩
theorem zkj:FnScope ["spells", "told", "room", "row", "why"] ["spells"] (ze Zk):=⟨rfl,rfl,rfl,#[3],rfl,#[3],#[3]⟩
theorem zgs(T:Txt c K mg)(zon:#[8,dd_quotas c])(zoj:#[8,dd_least_room c])(zn5:#[8,dd_dealt_within c])(zoo:#[8,dd_ratio]){f:Addr}{fd:FuncData}(F:Fun K "least" "least" Zk f fd):FnOk P w K mg base (CXR P w) 8 f fd ["spells"] (spU c.tb K (Zv c)):=by
 have S:=zkj;refine fnU (cv:=fun v=>True) F trivial S (fun ds Q E h=>?_) (fun cdv A outer s H E E3 hcv tu hE hr=>?_)
 . obtain⟨_,rfl,_⟩:=h;rfl
 refine⟨_,(zc (zi (i:=1) S.nd rfl #[2] (df3 hE zon (hr.mono #[1]) rfl zq (za (n3 0) zb)))
  (zc (zi (i:=2) S.nd rfl #[2] (dfU tu hE zoj (hr.mono #[1]) rfl zq (za (n3 1) zb)))
  (zc (zi (i:=3) S.nd rfl #[2] (at3 (dfU tu hE zn5 (hr.mono #[1]) rfl zq (za (n3 1) (za (n3 2) zb))) i3 #[4]))
  (zc (zi (i:=4) S.nd rfl #[2] non3)
  (zc (s_if (zG Zz (n3 2) i3 (nomark _)) (zg (zi (i:=4) S.nd rfl #[2] (dfU tu hE zn5 (hr.mono #[1]) rfl zq (za (n3 1) (za (op3 Z0 (n3 2) i3) zb))))) zO)
  (zg (zu (zR (za (df3 hE zoo (hr.mono #[1]) rfl zq (za (n3 2) (za (at3 (n3 1) i3 #[4]) zb))) (za (n3 3) (za (n3 4) zb))))))))))),fun ds Q h=>?_⟩
 obtain⟨l,rfl,hE1,q⟩:=h;refine zk fun N hN=>?_
 walk_at "rd"
 refine⟨l,rfl,fun hok=>hN _ ?_,hE1⟩
 clear hN N;have hbp:=z6 hok;have hb2:Bits 9000 (bot l):=(zaQ hok).mono #[1]
 refine zk fun N hN=>?_
 walk_at "rd"
 refine⟨l,rfl,rfl,hok,fun room hle=>hN _ ?_⟩
 clear hN N;obtain⟨r0,r1,r2,r3⟩:=id hle;refine jo (fun ρ'=>∃ row:List Int,ρ'=[some (.sh false (dSs l)),some (.sh true (dT l)),#[5,room],some (.sh true (dI row)),none]/\∀ W,IsWs l (bsR l room) W->rowP (tot l) W.flatten (.tuple [.str "row", dI row])) (fun N hN=>?_) ?_
 . walk_at "rd"
   refine⟨l,rfl,rfl,hok,r0,#[0],fun W hW d hd=>?_⟩
   rcases hd with hd|hd|hd
   . exact absurd r2 (zaZ hok r0 #[0] hW (.inl hd))
   . exact absurd r2 (zaZ hok r0 #[0] hW (.inr hd))
   . obtain⟨row,hrow⟩:=zmm hd
     subst hrow;exact⟨_,rfl,hN _ ⟨row,rfl,fun W' hW'=>by rw [hW'.uniq hW];exact hd⟩⟩
 rintro ρ ⟨row,rfl,hrow⟩
 refine zk fun N hN=>?_
 walk_at "rd"
 refine hN _ ?_
 clear hN N;refine jo (fun ρ'=>∃ why:D,ρ'=[some (.sh false (dSs l)),some (.sh true (dT l)),#[5,room],some (.sh true (dI row)),some (.sh true why)]/\(room=0->why=.none)/\(0<room->∀ W,IsWs l (bsR l (room - 1)) W->zax (tot l) W.flatten why\/zag W.flatten why)) (fun N hN=>?_) ?_
 . walk_at "rd"
   refine ite2 (fun e=>⟨l,rfl,rfl,hok,#[0],#[0],fun W hW d hd=>hN _ ⟨d,rfl,fun z=>by omega,fun _ W' hW'=>?_⟩⟩) fun e=>hN _ ⟨.none,rfl,fun _=>rfl,fun z=>absurd z e⟩
   rw [hW'.uniq hW]
   rcases hd with hd|hd|hd
   . exact .inl hd
   . exact .inr hd
   . exact absurd (zeJ hok #[0] #[0] hW hd) (r3 (room - 1) #[0] #[0])
 rintro ρ ⟨why,rfl,h1,h2⟩
 walk_at "rd"
 exact⟨hbp,hb2,q hok room row why hle hrow h1 h2⟩
theorem zhC(T:Txt c K mg)(zon:#[8,dd_quotas c])(zoj:#[8,dd_least_room c])(zn5:#[8,dd_dealt_within c])(zoo:#[8,dd_ratio]):dd_least c P w K mg base:=by
 obtain⟨f,fd,F,hm⟩:=T.d_least;have hb:=F.binds (ps:=["spells"]) fun _ _ _ _ _ _ us hl=>by obtain⟨_,rfl⟩:=ji hl;rfl
 refine⟨fun ds Q Q' E E' hQ hE h=>?_,⟨f,fd,zgs T zon zoj zn5 zoo F,hb,F.kp,hm⟩⟩
 obtain⟨a,e,x,h⟩:=h;exact⟨a,e,fun z=>hE _ (x z),fun o r w y a b c d=>hQ _ _ (h o r w y a b c d)⟩
theorem zlM:FnScope ["_law_top", "_law_bottom", "_law_one", "_law_other"] ["_law_top", "_law_bottom"] (ze Zl):=⟨rfl,rfl,rfl,#[3],rfl,#[3],#[3]⟩
theorem zkf(T:Txt c K mg){f:Addr}{fd:FuncData}(F:Fun K "_law_ratio" "_law_ratio" Zl f fd):FnOk P w K mg base (CXR P w) 1 f fd ["_law_top", "_law_bottom"] (spL K J2):=by
 have S:=zlM;refine fn3 F S (fun ds Q E h=>?_) (fun cdv A outer s H E E3 hE hr=>?_)
 . obtain⟨_,_,rfl,_⟩:=h;rfl
 refine⟨_,(zc (zi (i:=2) S.nd rfl #[2] (zt zaY rfl T.n_abs za7 (za (n3 0) zb)))
  (zc (zi (i:=3) S.nd rfl #[2] (n3 1))
  (zc (zau Wa2 (zG Zz (n3 3) i3 (nomark _)) (zg (zln (i:=2) (j:=3) rfl S.nd rfl rfl #[1] rfl rfl (za (n3 3) (za (op3 ja (n3 2) (n3 3)) zb)))))
  (zg (zu (zR (za (op3 zX (n3 0) (n3 2)) (za (op3 zX (n3 1) (n3 2)) zb)))))))),fun ds Q h=>?_⟩
 obtain⟨a,b,rfl,hb,hB,q⟩:=h
 walk_at "rd"
 refine⟨_,Z2 (fun n ρ=>∃ g l,ρ = [#[5,a],#[5,b],#[5,g],#[5,l]]/\0<=g/\0<=l/\Int.gcd g l=Int.gcd a b/\n=l.toNat) ?_ _ _ ⟨_,_,rfl,by split<;>omega,#[0],?_,rfl⟩⟩
 . rintro n ρ ⟨g,l,rfl,hg,hl,hG,rfl⟩ W hW
   walk_at "rd"
   by_cases h0:0<l
   . rw [if_pos h0]
     have h1:=Ybc g (show l≠0 by omega)
     have h2:=Ybd g h0;exact⟨h0,hW (g%l).toNat _ #[0] ⟨l,g%l,rfl,hl,h1,(zdC hg h0).trans hG,rfl⟩⟩
   . rw [if_neg h0]
     have hz:l=0:=#[0]
     subst hz;have e:g=(Int.gcd a b:Int):=by rw [<-hG,zcL hg]
     subst e;exact⟨zbm hb hB,zbm hb hB,q⟩
 . have:=zdS a b
   rw [if_neg (show ¬b<0 by omega)] at this
   exact this
theorem zhh(T:Txt c K mg) : dd_law_ratio P w K mg base:=by
 obtain⟨f,fd,F,hm⟩:=T.d_law_ratio;have hb:=F.binds (ps:=["_law_top", "_law_bottom"]) fun _ _ _ _ _ _ us hl=>by obtain⟨_,_,rfl⟩:=zY hl;rfl
 refine⟨fun ds Q Q' E E' hQ hE h=>?_,⟨f,fd,zkf T F,hb,F.kp,hm⟩⟩
 obtain⟨a,b,e,z,y,h⟩:=h;exact⟨a,b,e,z,y,hQ _ _ h⟩
theorem zls:FnScope ["_law_bottom", "_law_rows", "_law_clans", "_law_known", "_law_t", "_law_later", "_law_had", "_law_k", "_law_now", "_law_far", "_law_i"] ["_law_bottom", "_law_rows"] (ze j4):=⟨rfl,rfl,rfl,#[3],rfl,#[3],#[3]⟩
theorem zhM(T:Txt c K mg){f:Addr}{fd:FuncData}(F:Fun K "_law_best" "_law_best" j4 f fd):FnOk P w K mg base (CXR P w) 1 f fd ["_law_bottom", "_law_rows"] (spL K Js):=by
 have S:=zls;refine fn3 F S (fun ds Q E h=>?_) (fun cdv A outer s H E E3 hE hr=>?_)
 . obtain⟨_,rfl,_⟩:=h;rfl
 refine⟨_,(zc (zi (i:=2) S.nd rfl #[2] (zt zL rfl T.n_len zN (za (at3 (n3 1) i3 #[4]) zb)))
  (zc (zfB (i:=3) S.nd rfl #[2])
  (zc (zcx (i:=3) (Zo hr) rfl #[2] (zlB (zR (za i3 zb)) (n3 2)) i3)
  (zc (zM Wa2 rfl (zd3 rfl T.n_range (za i3 (za (zt zL rfl T.n_len zN (za (n3 1) zb)) zb))) (zn (i:=4) S.nd rfl #[2]) (zc (zfB (i:=5) S.nd rfl #[2])
   (zc (zfr 3 (zM Wa2 rfl (zeE (i:=3) rfl #[2]) (zn (i:=6) S.nd rfl #[2]) (zg (zM Wa2 rfl (Zb rfl T.n_range (za (n3 2) zb)) (zn (i:=7) S.nd rfl #[2]) (zc (zi (i:=8) S.nd rfl #[2] (zfE (zfE (zcv (n3 6) zaX (zaR (n3 7))) (zR (za (op3 zT (at3 (n3 6) (n3 7) #[4]) i3) zb))) (zcv (n3 6) (zaR (op3 zT (n3 7) i3)) zaX)))
    (zc (zi (i:=9) S.nd rfl #[2] (zcX (i:=3) (Zo hr) rfl #[2] (n3 6)))
    (zc (zM Wa2 rfl (Zb rfl T.n_range (za (n3 2) zb)) (zn (i:=10) S.nd rfl #[2]) (zg (zi (i:=9) S.nd rfl #[2] (zt (zf0 rfl) rfl T.n_max zhN (za (n3 9) (za (zt zaY rfl T.n_abs za7 (za (op3 Z0 (at3 (at3 (n3 1) (n3 4) #[4]) (n3 10) #[4]) (op3 jr (at3 (n3 8) (n3 10) #[4]) (n3 0))) zb)) zb))))))
    (zg (zcx (i:=5) (Zo hr) rfl #[2] (n3 8) (zt (ziu rfl) rfl T.n_min zeZ (za (n3 9) (za (zlN (i:=5) (Zo hr) rfl #[2] (n3 8) (n3 9)) zb))))))))))))
   (zg (zjP (i:=3) (j:=5) #[1] S.nd rfl #[2] rfl #[2])))))
  (zg (zfr 3 (zu (zt (ziC rfl) rfl T.n_min zeZ (za (new3 (ZB ["_law_had"] ["_law_known"] [3] rfl (jL (osc:=ze j4) #[3]) rfl (zeE (i:=3) rfl #[2]) (fun H0 s H fp cl=>⟨(zn (i:=0) (show((["_law_had"]:List PySem.Str)++(["_law_known"]:List PySem.Str)).Nodup by decide) rfl #[2]),jI,(zcX (i:=1) (Zo hr) rfl #[2] (n3 0))⟩))) zb))))))))),fun ds Q h=>?_⟩
 obtain⟨l,rfl,hok,h3,h6,q⟩:=h;have hm:=Zy hok;have hP:=zaB hok;have hpb:=zbK hok;have hql:=zbB hok (zd l);have htn:=zZ fun s hs=>(hok.2.1 s hs).1
 have hqr:∀ r∈quoB (zd l) l,r.length=many l:=fun r hr=>jK hok hr
 have hd0:atI ((quoB (zd l) l).map dI) 0=some (PyData.list (((quoB (zd l) l)[0]'(by omega)).map PyData.int)):=zbA (i:=0) #[0]
 have h0n:((quoB (zd l) l)[0]'(by omega)).length=many l:=hqr _ (Ya4 _)
 refine zk fun N hN=>?_
 walk_at "rd hd0 YaR h0n"
 refine hN _ ?_
 clear hN N;refine zk fun N hN=>?_
 walk_at "rd"
 refine hN _ ?_
 clear hN N;refine zk fun N hN=>?_
 walk_at "rd"
 have hk0:PyData.tuple (List.replicate ((many l:Int)).toNat [PyData.int 0]).flatten=keyT ((List.replicate (many l) (0:Int)).map Sum.inl):=by
  rw [ZI,Int.toNat_natCast,Yaz]
  congr 1
  generalize many l=k
  induction k with
  | zero=>rfl
  | succ k ih=>rw [List.replicate_succ,List.flatten_cons,ih];rfl
 refine⟨by simp,#[0],#[0],#[0],_,hk0,#[1],hN _ ?_⟩
 clear hN N;have e0:putT [] ((List.replicate (many l) (0:Int)).map Sum.inl) (.int 0)=encT [(List.replicate (many l) 0,0)]:=zeq [] _ 0;rw [e0];clear e0 hk0;refine jo (fun ρ=>∃ (tb:Tab) (t4 t6 t7 t8 t9 t10:Option L3.Cl),ρ = [#[5,zd l],some (.sh false (.list ((quoB (zd l) l).map dI))),#[5,many l],some (.dt (encT tb)),t4,none,t6,t7,t8,t9,t10]/\Good (zd l) (many l) (quoB (zd l) l) (tot l).toNat tb/\tb.length<=4 ^ 6) (fun N hN=>?_) ?_
 . walk_at "rd YaR"
   refine⟨#[1],#[1],#[0],#[0],?_⟩
   have hT:(((quoB (zd l) l).length:Int) - 1).toNat=(tot l).toNat:=#[0]
   rw [hT];refine jG (fun t ρ=>∃ (tb:Tab) (t4 t6 t7 t8 t9 t10:Option L3.Cl),ρ = [#[5,zd l],some (.sh false (.list ((quoB (zd l) l).map dI))),#[5,many l],some (.dt (encT tb)),t4,none,t6,t7,t8,t9,t10]/\Good (zd l) (many l) (quoB (zd l) l) t tb/\tb.length<=4 ^ t) ?_ ?_ ⟨_,_,_,_,_,_,_,rfl,Good.zero,YaY 1⟩
   . rintro t ρ ht ⟨tb,t4,t6,t7,t8,t9,t10,rfl,hG,hlen⟩ W hW
     simp only [gn3,List.set_cons_zero,List.set_cons_succ,zA,WbF];refine zk fun N' hN'=>?_
     walk_at "rd"
     refine hN' _ ?_
     clear hN' N';have hq1:atI ((quoB (zd l) l).map dI) (1+(t:Int))=some (PyData.list (((quoB (zd l) l)[t+1]'(by omega)).map PyData.int)):=by
      have:=zbA (rows:=quoB (zd l) l) (i:=t+1) #[0]
      rwa [show((t+1:Nat):Int)=1+(t:Int) by omega] at this
     have hq2:(quoB (zd l) l).getD (t+1) []=(quoB (zd l) l)[t+1]'(by omega):=by rw [YaP,YaQ #[0]];rfl
     have hq3:((quoB (zd l) l)[t+1]'(by omega)).length=many l:=hqr _ (Ya4 _)
     generalize (quoB (zd l) l)[t+1]'(by omega)=qr at hq1 hq2 hq3
     refine jo (fun ρ=>∃ (later:Tab) (t6 t7 t8 t9 t10:Option L3.Cl),ρ = [#[5,zd l],some (.sh false (.list ((quoB (zd l) l).map dI))),#[5,many l],some (.fd (encT tb)),#[5,(1+(t:Int))],some (.dt (encT later)),t6,t7,t8,t9,t10]/\jq later (jQ (zd l) qr (many l) tb tb)/\later.length<=3*tb.length) (fun N' hN'=>?_) ?_
     . walk_at "rd"
       rw [zdX];refine Jr (fun p=>PyData.tuple (p.1.map PyData.int)) tb (fun done ρ=>∃ (later:Tab) (t6 t7 t8 t9 t10:Option L3.Cl),ρ = [#[5,zd l],some (.sh false (.list ((quoB (zd l) l).map dI))),#[5,many l],some (.fd (encT tb)),#[5,(1+(t:Int))],some (.dt (encT later)),t6,t7,t8,t9,t10]/\jq later (jQ (zd l) qr (many l) tb done)/\later.length<=3*done.length) ?_ (fun ρ h=>hN' _ h) ⟨[],_,_,_,_,_,rfl,jq.nil,WbG _⟩
       rintro done p rest ρ hd ⟨later,u6,u7,u8,u9,u10,rfl,hL,hll⟩ W' hW'
       have hp:p∈tb:=by rw [hd];simp
       obtain⟨y,hy⟩:=za5 hp;have hR:=((hG p.1).1 y hy).1;have hcl:=hR.len;have hcs:=hR.small;have hT4:tb.length<=4 ^ 6:=Ya5 hlen (Nat.pow_le_pow_right #[1] #[0])
       have hdl:done.length<tb.length:=by rw [hd,YaS,List.length_cons];omega
       walk_at "rd"
       refine⟨#[0],#[0],?_⟩
       rw [Int.toNat_natCast];refine jG (fun j ρ=>∃ (later:Tab) (t7 t8 t9 t10:Option L3.Cl),ρ = [#[5,zd l],some (.sh false (.list ((quoB (zd l) l).map dI))),#[5,many l],some (.fd (encT tb)),#[5,(1+(t:Int))],some (.dt (encT later)),some (.sh true (.tuple (p.1.map PyData.int))),t7,t8,t9,t10]/\jq later (jQ (zd l) qr (many l) tb done++(List.range j).map (J5 (zd l) qr (many l) tb p.1))/\later.length<=3*done.length+j) ?_ ?_ ⟨later,_,_,_,_,rfl,by simpa using hL,#[0]⟩
       . rintro k ρ hk ⟨later',v7,v8,v9,v10,rfl,hL',hll'⟩ V hV
         simp only [gn3,List.set_cons_zero,List.set_cons_succ,zA,WbF];have s1:HT.sIx p.1.length p.1.length (some (0+(k:Int)))=k:=by rw [Int.zero_add,HT.sIx_nat];omega
         have s2:HT.sIx p.1.length 0 (some (0+(k:Int)+1))=k+1:=by
          have:=HT.sIx_nat p.1.length 0 (k+1);rw [show((k+1:Nat):Int)=0+(k:Int)+1 by omega] at this
          rw [this];omega
         have ha:atI (p.1.map PyData.int) (0+(k:Int))=some (PyData.int (p.1[k]'(by omega))):=zah #[0]
         have hnow:=znM (c:=p.1) (k:=k) (i:=0+(k:Int)) (j:=0+(k:Int)+1) #[0] #[0] #[0] (YaQ #[0])
         generalize (p.1[k]'(by omega))=x at ha hnow
         have hnl:(had1 1 p.1 k).length=many l:=by rw [zbs];exact hcl
         have hl1:=congrArg List.length hnow;rw [YaS,YaR,hnl] at hl1;have hl2:=hl1;rw [YaS,List.length_singleton] at hl2;have hrs:Rch (zd l) (many l) (quoB (zd l) l) (t+1) (had1 1 p.1 k) (zy (zd l) ((quoB (zd l) l).getD (t+1) []) (had1 1 p.1 k) (many l) y):=⟨p.1,y,hR,k,hk,rfl,rfl⟩;have hcs2:=hrs.small;clear hrs;refine zk fun N'' hN''=>?_
         walk_at "rd YaR ha"
         refine⟨fun z=>by rw [s1] at z;omega,sz #[0],fun z=>by rw [s2] at z;omega,sz (by rw [hl1];omega),hN'' _ ?_⟩
         clear hN'' N'' s1 s2 ha hl1 hl2;rw [hnow];clear hnow;refine zk fun N'' hN''=>?_
         walk_at "rd"
         refine⟨p.1.map Sum.inl,(ZI _).symm,.int y,by rw [zbI,hy];rfl,hN'' _ ?_⟩
         clear hN'' N'';have hst:(J5 (zd l) qr (many l) tb p.1 k)=(had1 1 p.1 k,zy (zd l) qr (had1 1 p.1 k) (many l) y):=by unfold J5;rw [hy];rfl
         generalize had1 1 p.1 k=nw at hnl hcs2 hst ⊢;refine jo (fun ρ=>∃ (t10:Option L3.Cl),ρ = [#[5,zd l],some (.sh false (.list ((quoB (zd l) l).map dI))),#[5,many l],some (.fd (encT tb)),#[5,(1+(t:Int))],some (.dt (encT later')),some (.sh true (.tuple (p.1.map PyData.int))),#[5,(0+(k:Int))],some (.sh true (.tuple (nw.map PyData.int))),#[5,zy (zd l) qr nw (many l) y],t10]) (fun N'' hN''=>?_) ?_
         . walk_at "rd"
           refine⟨#[0],#[0],?_⟩
           rw [Int.toNat_natCast];refine jG (fun i ρ=>∃ (t10:Option L3.Cl),ρ = [#[5,zd l],some (.sh false (.list ((quoB (zd l) l).map dI))),#[5,many l],some (.fd (encT tb)),#[5,(1+(t:Int))],some (.dt (encT later')),some (.sh true (.tuple (p.1.map PyData.int))),#[5,(0+(k:Int))],some (.sh true (.tuple (nw.map PyData.int))),#[5,zy (zd l) qr nw i y],t10]) ?_ (fun ρ h=>hN'' ρ h) ⟨_,rfl⟩
           rintro i ρ hi ⟨w10,rfl⟩ V' hV'
           have a1:atI (qr.map PyData.int) (0+(i:Int))=some (PyData.int (qr[i]'(by omega))):=zah #[0]
           have a2:atI (nw.map PyData.int) (0+(i:Int))=some (PyData.int (nw[i]'(by omega))):=zah #[0]
           have b1:qr.getD i 0=qr[i]'(by omega):=by rw [YaP,YaQ #[0]];rfl
           have b2:nw.getD i 0=nw[i]'(by omega):=by rw [YaP,YaQ #[0]];rfl
           have b3:=hcs2 _ (Ya4 (l:=nw) (n:=i) #[0])
           rw [<-b1] at a1;rw [<-b2] at a2 b3;have hbm:Bits 64 (nw.getD i 0):=Bits.lit (x:=nw.getD i 0) 64 #[0]
           walk_at "rd hq1 a1 a2"
           refine⟨hbm.mulOk hpb #[1],?_⟩
           exact hV' _ ⟨_,rfl⟩
         rintro ρ ⟨w10,rfl⟩
         walk_at "rd"
         refine⟨nw.map Sum.inl,(ZI _).symm,?_⟩
         have hg:(getT (encT later') (nw.map Sum.inl)).getD (PyData.int (zy (zd l) qr nw (many l) y))=PyData.int ((getI later' nw).getD (zy (zd l) qr nw (many l) y)):=by rw [zbI];cases getI later' nw<;>rfl
         rw [hg];have hel:(encT later').length=later'.length:=by unfold encT;rw [YaR]
         refine⟨nw.map Sum.inl,(ZI _).symm,YaU (show _<1000000 by omega) #[1],hV _ ⟨upd1 later' nw (zy (zd l) qr nw (many l) y),_,_,_,_,by rw [zeq];rfl,?_,?_⟩⟩
         . rw [Wbg,Ya2,<-Yag,List.map_singleton,hst]
           exact hL'.snoc _ _
         . have:=zkA later' nw (if(getI later' nw).getD (zy (zd l) qr nw (many l) y)<zy (zd l) qr nw (many l) y then(getI later' nw).getD (zy (zd l) qr nw (many l) y) else zy (zd l) qr nw (many l) y)
           unfold upd1
           omega
       . rintro ρ ⟨later',v7,v8,v9,v10,rfl,hL',hll'⟩
         refine hW' _ ⟨later',_,_,_,_,_,rfl,by rw [znB];exact hL',?_⟩
         rw [YaS,List.length_singleton]
         omega
     rintro ρ ⟨later,u6,u7,u8,u9,u10,rfl,hL,hll⟩
     walk_at "rd"
     refine hW _ ⟨later,_,_,_,_,_,_,rfl,hG.upd (by rw [hq2];exact hL),?_⟩
     rw [Nat.pow_succ]
     omega
   . rintro ρ ⟨tb,t4,t6,t7,t8,t9,t10,rfl,hG,hlen⟩
     exact hN _ ⟨tb,_,_,_,_,_,_,rfl,hG,Ya5 hlen (Nat.pow_le_pow_right #[1] #[0])⟩
 rintro ρ ⟨tb,t4,t6,t7,t8,t9,t10,rfl,hG,hlen⟩
 have hne:=hG.ne hm.1;obtain⟨m1,m2⟩:=hG.min hne
 walk_at "rd"
 rw [zdX];refine⟨sz (by rw [YaR];omega),?_⟩
 refine jE (fun p:List Int×Int=>PyData.tuple (p.1.map PyData.int)) (fun p=>PyData.int ((getI tb p.1).getD 0)) (fun ρ=>∃ t,ρ = [t,some (.fd (encT tb))]) tb ?_ _ _ _ _ ⟨none,rfl⟩ ?_
 . rintro p hp ρ fa acc K ⟨t,rfl⟩ kk
   obtain⟨y,hy⟩:=za5 hp
   walk_at "rd"
   refine⟨p.1.map Sum.inl,(ZI _).symm,.int y,by rw [zbI,hy];rfl,?_⟩
   have e:(getI tb p.1).getD 0=y:=by rw [hy];rfl
   rw [e] at kk;exact kk _ ⟨_,rfl⟩
 . refine⟨tb.map fun p=>(getI tb p.1).getD 0,?_,by simpa using hne,q _ m1 m2⟩
   have:=jO (tb.map fun p=>(getI tb p.1).getD 0)
   rw [YaD] at this;exact this
theorem zl2(T:Txt c K mg) : dd_law_best P w K mg base:=by
 obtain⟨f,fd,F,hm⟩:=T.d_law_best;have hb:=F.binds (ps:=["_law_bottom", "_law_rows"]) fun _ _ _ _ _ _ us hl=>by obtain⟨_,_,rfl⟩:=zY hl;rfl
 refine⟨fun ds Q Q' E E' hQ hE h=>?_,⟨f,fd,zhM T F,hb,F.kp,hm⟩⟩
 obtain⟨a,e,x,y,z,h⟩:=h;exact⟨a,e,x,y,z,fun v p q=>hQ _ _ (h v p q)⟩
theorem zfU:FnScope ["_law_script", "_law_spells_here", "_law_length", "_law_weights", "_law_bottom", "_law_rows", "_law_found"] ["_law_script"] (ze j6):=⟨rfl,rfl,rfl,#[3],rfl,#[3],#[3]⟩
theorem zl7(T:Txt c K mg)(zof:#[8,dd_law_spells])(zod:#[8,dd_law_quotas])(zoh:#[8,dd_least c])(zoe:#[8,dd_law_ratio])(zoa:#[8,dd_law_best]){f:Addr}{fd:FuncData}(F:Fun K "law" "law" j6 f fd):FnOk P w K mg base (CXR P w) 9 f fd ["_law_script"] (spU c.tb K Jp):=by
 have S:=zfU;refine fnU (cv:=fun v=>True) F trivial S (fun ds Q E h=>?_) (fun cdv A outer s H E E3 hcv tu hE hr=>?_)
 . obtain⟨_,rfl,_⟩:=h;rfl
 refine⟨_,(zc (jP (i:=1) S.nd rfl #[2] (jl zb))
  (zc (zM Wa2 rfl (zV (df3 hE zof (hr.mono #[1]) rfl zq (za (n3 0) (za i3 zb)))) (jB (n:=2) rfl (zQ (zn (i:=2) S.nd rfl #[2]) (zQ (zn (i:=3) S.nd rfl #[2]) jw))) (zg (s_if (zG Zz (zt (Ji rfl) rfl T.n_sum Jq (za (new3 (zds (n3 3) zaX (zaR i3))) zb)) i3 (nomark _)) (zg (JS (i:=1) rfl #[2] (zR (za (n3 2) (za (new3 (zds (n3 3) zaX (zaR i3))) zb))))) zO)))
  (zc (s_if (zG (Jl hr.units) (zt zL rfl T.n_len zN (za (n3 1) zb)) i3 (nomark _)) (zg (zu (cmp3 (Jl hr.units) (at3 (dfU tu hE zoh (hr.mono #[1]) rfl zq (za (new3 (jl (za (zR (za i3 (za (new3 (jl (za i3 (za i3 zb)))) zb))) zb))) zb)) i3 #[4]) (zR (za i3 (za i3 zb))) (nomark _)))) zO)
  (zc (jD [1] (zm0 (df3 hE zod (hr.mono #[1]) rfl zq (za (n3 1) zb)) (jB (n:=2) rfl (zQ (zn (i:=4) S.nd rfl #[2]) (zQ (zn (i:=5) S.nd rfl #[2]) jw)))))
  (zc (jD [1] (zi (i:=6) S.nd rfl #[2] (dfU tu hE zoh (hr.mono #[1]) rfl zq (za (n3 1) zb))))
  (zg (zu (zaN (zbP rfl T.n_isinstance rfl rfl T.n_tuple zgu (n3 6)) (one3 (cmp3 (Jl hr.units) (at3 (n3 6) i3 #[4]) (df3 hE zoe (hr.mono #[1]) rfl zq (za (df3 hE zoa (hr.mono #[1]) rfl zq (za (n3 4) (za (n3 5) zb))) (za (n3 4) zb))) (nomark _))))))))))),fun ds Q h=>?_⟩
 obtain⟨ns,rfl,h63,q⟩:=h;refine zk fun N hN=>?_
 walk_at "rd"
 refine hN _ ?_
 clear hN N;refine jo (fun ρ=>∃ (l:List Spell) (t2 t3:Option L3.Cl),ρ = [some (.sh false (.list (ns.map .int))),some (.ow true ((cut3 l).map dS)),t2,t3,none,none,none]/\okS l/\tot l<=6) (fun N hN=>?_) ?_
 . walk_at "rd"
   refine⟨ns,rfl,#[1],#[1],fun l hok h6=>?_⟩
   refine Jr dS l (fun done ρ=>∃ t2 t3:Option L3.Cl,ρ = [some (.sh false (.list (ns.map .int))),some (.ow true ((cut3 done).map dS)),t2,t3,none,none,none]) ?_ (fun ρ ⟨t2,t3,e⟩=>hN _ ⟨l,t2,t3,e,hok,h6⟩) ⟨none,none,rfl⟩
   rintro done s rest ρ hd ⟨t2,t3,rfl⟩ W hW
   have hs:s∈l:=by rw [hd];simp
   have hl8:=hok.1.2;have hdl:(cut3 done).length<=8:=by
    unfold cut3;rw [YaR];have h1:=List.length_filter_le (fun s:Spell=>decide (0<(s.2.take 3).sum)) done
    rw [hd,YaS] at hl8
    omega
   simp (config:={ maxSteps:=2000000 }) only [seq3,next3,set3,own3,ret3,ifS3,tt3,o3,u3,v3,atV,asS,asB,asD,optP,asT,asLd,asL,atO,jN,nilP,asId,asI,k3,nw3,add3,int3,int0,neg3,eq3,ne3,eqOk,eqv3,isN3,notN3,isNone,ix3,ixD,Z4,nil3,J9,cb3,len3,lenD,abs3,max23,min23,sum3,min3,if3,and3,or3,not3,Z8,Z5,ch3,tup3,lst3,slL3,no3,ZA,ZG,L2.isD,ZS,asg3,gn3,Z6,jW,gnil3,app3,put3,frzS,frz,frz1,for3,itL,itZ,rg1,rg2,jX,true3,cst3,ZJ,z5,shs,Cl.d,Cl.dat,Cl.f,zaC,zA,Option.map_some,Option.map_none,Option.isSome_some,Option.isSome_none,Option.join_some,Option.join_none,List.all_cons,List.all_nil,Wbv,Wbq,Wbs,Wbp,Wbr,WbF,WbA,Ya1,Wbz,List.length_cons,List.length_nil,Nat.reduceAdd,Nat.reduceSub,WbC,List.replicate,List.cons_append,List.nil_append,Yao,List.getElem?_cons_zero,List.getElem?_cons_succ,List.set_cons_zero,List.set_cons_succ,WaO,Cl.sh.injEq,Cl.ow.injEq,Wbc,Wa0,Wbd,Wa1,WaK,Wbh,reduceCtorEq,and_assoc,and_true,true_and,and_self,exists_eq_left,exists_eq_left',exists_eq',exists_eq_right,exists_eq_right',exists_and_left,exists_const,exists_false,false_and,and_false,or_false,false_or,or_true,true_or,decide_true,decide_false,decide_eq_true_eq,Wbt,Wbn,WaH,WaL,if_true,if_false,ite_true,ite_false,WaN,decide_eq_false_iff_not,eq_self_iff_true,not_true_eq_false,not_false_eq_true,sz0,sz1,sz2,sz3,sz4,Z1,par3,aug3,ext3,itE,Zx,Cl.dt.injEq,itE1,slT3,zab,ZW,ZL,ZM,atK,frzD,itD,ZF,ZX,ZN,ZP,Cl.fd.injEq,ZE,zaa,JG,Ze,Jw,Zc,J0,Zp,JJ,JM,Je,j7,J6,Zw,JN,Jt,JA,J3,JZ,JH,J7,Zm,JU,Ju,JK,Zj,JE,Jm,Zi,Zv,J2,Js,Jp,dSs,dS,dI,zA,dQ,dRoom,dW,dT,atI0,atI1,atI2,atI3,zk2,<-List.map_take,YaR]
   refine⟨s.2.take 3,jO _,ite2 (fun z=>⟨WaG hdl #[1],hW _ ⟨_,_,by rw [zcY,if_pos z,Ya2];rfl⟩⟩) fun z=>hW _ ⟨_,_,by rw [zcY,if_neg z]⟩⟩
 rintro ρ ⟨l,t2,t3,rfl,hok,h6⟩
 refine zk fun N hN=>?_
 walk_at "rd"
 refine ite2 (fun _=>?_) fun hne=>?_
 . refine⟨[(2,[1,0])],rfl,fun z=>absurd zjN z,fun _ room row why hl _ _ _=>?_⟩
   rw [zju hl];exact⟨rfl,rfl,by rw [show PyData.eqv (PyData.tuple [PyData.int 0,PyData.int 1]) (PyData.tuple [PyData.int 0,PyData.int 1])=true from rfl];exact q⟩
 refine hN _ ?_
 clear hN N;obtain⟨hok,hm3,ht6⟩:=znX hok (fun z=>hne (by rw [z];rfl))
 have h6':tot (cut3 l)<=6:=#[0]
 clear hne ht6 h6;generalize cut3 l=l at hok hm3 h6';have hb:=z6 hok;have hP:=zaB hok;have hPB:Bits 9000 (zd l):=(zbK hok).mono #[1]
 refine zk fun N hN=>?_
 walk_at "rd"
 refine⟨l,rfl,hok,hN _ ?_⟩
 clear hN N;refine zk fun N hN=>?_
 walk_at "rd"
 refine⟨l,rfl,fun z=>absurd hok z,fun _ room row why hroom _ _ _=>hN _ ?_⟩
 clear hN N
 walk_at "rd atI0"
 refine⟨l,rfl,rfl,hok,hm3,h6',fun y y1 y2=>⟨hP,hPB,?_⟩⟩
 rw [zid hok hroom y1 y2];have hpl:Plain 1 (dR room (bot l)):=zgv (room/(Int.gcd room (bot l):Int),bot l/(Int.gcd room (bot l):Int));refine⟨⟨hpl.shaped #[1],hpl.shaped #[1]⟩,?_⟩
 change Q true (PyData.bool (PyData.eqv (dR room (bot l)) (dR room (bot l))))
 rw [zdH hpl.1];exact q
end
theorem zf4{K:Ybf}{h:Heap}{mg:Str->Option Value}(X:K.In h)(G:h.Ns mainGlobals mg)
 {cx0 tbx:Addr} {odx:Option Addr} {vsx:Array Value} {slx:Array (Option Value)} {flx:Str} {tx1 tx2 tx3:Tok} {ix1 ix2:Int} {bx:Bool}
 {f0 f1 f2 f3 f4 f5 f6 f7 f8 f9 f10 f11 f12 f13 f14 f15 f16 f17 f18 f19 f20 f21 f22 f23 f24 f25 f26 f27 f28 f29 f30:Addr}
 {od0 an0 od1 an1 od2 an2 od3 an3 od4 an4 od5 an5 od6 an6 od7 an7 od8 an8 od9 an9 od10 an10 od11 an11 od12 an12 od13 an13 od14 an14 od15 an15 od16 an16 od17 an17 od18 an18 od19 an19 od20 an20 od21 an21 od22 an22 od23 an23 od24 an24 od25 an25 od26 an26 od27 an27 od28 an28 od29 an29 od30 an30:Option Addr}
 {sl0 sl1 sl2 sl3 sl4 sl5 sl6 sl7 sl8 sl9 sl10 sl11 sl12 sl13 sl14 sl15 sl16 sl17 sl18 sl19 sl20 sl21 sl22 sl23 sl24 sl25 sl26 sl27 sl28 sl29 sl30:Array (Option Value)}
 {oc0 kV0 dc0 pm0 ct0 cd0 oc1 kV1 dc1 pm1 ct1 cd1 oc2 kV2 dc2 pm2 ct2 cd2 oc3 kV3 dc3 pm3 ct3 cd3 oc4 kV4 dc4 pm4 ct4 cd4 oc5 kV5 dc5 pm5 ct5 cd5 oc6 kV6 dc6 pm6 ct6 cd6 oc7 kV7 dc7 pm7 ct7 cd7 oc8 kV8 dc8 pm8 ct8 cd8 oc9 kV9 dc9 pm9 ct9 cd9 oc10 kV10 dc10 pm10 ct10 cd10 oc11 kV11 dc11 pm11 ct11 cd11 oc12 kV12 dc12 pm12 ct12 cd12 oc13 kV13 dc13 pm13 ct13 cd13 oc14 kV14 dc14 pm14 ct14 cd14 oc15 kV15 dc15 pm15 ct15 cd15 oc16 kV16 dc16 pm16 ct16 cd16 oc17 kV17 dc17 pm17 ct17 cd17 oc18 kV18 dc18 pm18 ct18 oc19 kV19 dc19 pm19 ct19 cd19 oc20 kV20 dc20 pm20 ct20 cd20 oc21 kV21 dc21 pm21 ct21 cd21 oc22 kV22 dc22 pm22 ct22 cd22 oc23 kV23 dc23 pm23 ct23 cd23 oc24 kV24 dc24 pm24 ct24 cd24 oc25 kV25 dc25 pm25 ct25 cd25 oc26 kV26 dc26 pm26 ct26 cd26 oc27 kV27 dc27 pm27 ct27 cd27 oc28 kV28 dc28 pm28 ct28 cd28 oc29 kV29 dc29 pm29 ct29 cd29 oc30 kV30 dc30 pm30 ct30 cd30:Value}
 {c_ClanError:Addr}
 {c_NoRatio:Addr}
 {c_NoSpell:Addr}
 {t_MOST_SPELLS:Tok}
 {t_MOST_CLANS:Tok}
 {t_MOST_TURNS:Tok}
 (a0:PySem.W.nsIn K mainGlobals "_law_cell_at" = some (some (.ref f0)))
 (l0:K.lookup f0=some ⟨oc0,od0,.func (PySem.W.fnOf "_law_cell_at" "_law_cell_at" (zx JW) (zp JW) (ze JW) .none kV0 dc0 pm0 an0 cd0 ct0),sl0⟩)
 (c0:PySem.W.codeIn K cd0 "_law_cell_at" = true)
 (k0:PySem.W.keepIn K (.ref f0)=true)
 (a1:PySem.W.nsIn K mainGlobals "_law_mixed" = some (some (.ref f1)))
 (l1:K.lookup f1=some ⟨oc1,od1,.func (PySem.W.fnOf "_law_mixed" "_law_mixed" (zx Jv) (zp Jv) (ze Jv) .none kV1 dc1 pm1 an1 cd1 ct1),sl1⟩)
 (c1:PySem.W.codeIn K cd1 "_law_mixed" = true)
 (k1:PySem.W.keepIn K (.ref f1)=true)
 (a2:PySem.W.nsIn K mainGlobals "_law_wide" = some (some (.ref f2)))
 (l2:K.lookup f2=some ⟨oc2,od2,.func (PySem.W.fnOf "_law_wide" "_law_wide" (zx Zq) (zp Zq) (ze Zq) .none kV2 dc2 pm2 an2 cd2 ct2),sl2⟩)
 (c2:PySem.W.codeIn K cd2 "_law_wide" = true)
 (k2:PySem.W.keepIn K (.ref f2)=true)
 (a3:PySem.W.nsIn K mainGlobals "_law_spells" = some (some (.ref f3)))
 (l3:K.lookup f3=some ⟨oc3,od3,.func (PySem.W.fnOf "_law_spells" "_law_spells" (zx JD) (zp JD) (ze JD) .none kV3 dc3 pm3 an3 cd3 ct3),sl3⟩)
 (c3:PySem.W.codeIn K cd3 "_law_spells" = true)
 (k3:PySem.W.keepIn K (.ref f3)=true)
 (a4:PySem.W.nsIn K mainGlobals "_law_quotas" = some (some (.ref f4)))
 (l4:K.lookup f4=some ⟨oc4,od4,.func (PySem.W.fnOf "_law_quotas" "_law_quotas" (zx Ja) (zp Ja) (ze Ja) .none kV4 dc4 pm4 an4 cd4 ct4),sl4⟩)
 (c4:PySem.W.codeIn K cd4 "_law_quotas" = true)
 (k4:PySem.W.keepIn K (.ref f4)=true)
 (a5:PySem.W.nsIn K mainGlobals "check_weights" = some (some (.ref f5)))
 (l5:K.lookup f5=some ⟨oc5,od5,.func (PySem.W.fnOf "check_weights" "check_weights" (zx JC) (zp JC) (ze JC) .none kV5 dc5 pm5 an5 cd5 ct5),sl5⟩)
 (c5:PySem.W.codeIn K cd5 "check_weights" = true)
 (k5:PySem.W.keepIn K (.ref f5)=true)
 (a6:PySem.W.nsIn K mainGlobals "all_turns" = some (some (.ref f6)))
 (l6:K.lookup f6=some ⟨oc6,od6,.func (PySem.W.fnOf "all_turns" "all_turns" (zx jZ) (zp jZ) (ze jZ) .none kV6 dc6 pm6 an6 cd6 ct6),sl6⟩)
 (c6:PySem.W.codeIn K cd6 "all_turns" = true)
 (k6:PySem.W.keepIn K (.ref f6)=true)
 (a7:PySem.W.nsIn K mainGlobals "check_spells" = some (some (.ref f7)))
 (l7:K.lookup f7=some ⟨oc7,od7,.func (PySem.W.fnOf "check_spells" "check_spells" (zx JB) (zp JB) (ze JB) .none kV7 dc7 pm7 an7 cd7 ct7),sl7⟩)
 (c7:PySem.W.codeIn K cd7 "check_spells" = true)
 (k7:PySem.W.keepIn K (.ref f7)=true)
 (a8:PySem.W.nsIn K mainGlobals "common_divisor" = some (some (.ref f8)))
 (l8:K.lookup f8=some ⟨oc8,od8,.func (PySem.W.fnOf "common_divisor" "common_divisor" (zx Jy) (zp Jy) (ze Jy) .none kV8 dc8 pm8 an8 cd8 ct8),sl8⟩)
 (c8:PySem.W.codeIn K cd8 "common_divisor" = true)
 (k8:PySem.W.keepIn K (.ref f8)=true)
 (a9:PySem.W.nsIn K mainGlobals "divisor_of_all" = some (some (.ref f9)))
 (l9:K.lookup f9=some ⟨oc9,od9,.func (PySem.W.fnOf "divisor_of_all" "divisor_of_all" (zx Jx) (zp Jx) (ze Jx) .none kV9 dc9 pm9 an9 cd9 ct9),sl9⟩)
 (c9:PySem.W.codeIn K cd9 "divisor_of_all" = true)
 (k9:PySem.W.keepIn K (.ref f9)=true)
 (a10:PySem.W.nsIn K mainGlobals "least_bottom" = some (some (.ref f10)))
 (l10:K.lookup f10=some ⟨oc10,od10,.func (PySem.W.fnOf "least_bottom" "least_bottom" (zx Zg) (zp Zg) (ze Zg) .none kV10 dc10 pm10 an10 cd10 ct10),sl10⟩)
 (c10:PySem.W.codeIn K cd10 "least_bottom" = true)
 (k10:PySem.W.keepIn K (.ref f10)=true)
 (a11:PySem.W.nsIn K mainGlobals "shares_over" = some (some (.ref f11)))
 (l11:K.lookup f11=some ⟨oc11,od11,.func (PySem.W.fnOf "shares_over" "shares_over" (zx Jb) (zp Jb) (ze Jb) .none kV11 dc11 pm11 an11 cd11 ct11),sl11⟩)
 (c11:PySem.W.codeIn K cd11 "shares_over" = true)
 (k11:PySem.W.keepIn K (.ref f11)=true)
 (a12:PySem.W.nsIn K mainGlobals "quotas" = some (some (.ref f12)))
 (l12:K.lookup f12=some ⟨oc12,od12,.func (PySem.W.fnOf "quotas" "quotas" (zx jH) (zp jH) (ze jH) .none kV12 dc12 pm12 an12 cd12 ct12),sl12⟩)
 (c12:PySem.W.codeIn K cd12 "quotas" = true)
 (k12:PySem.W.keepIn K (.ref f12)=true)
 (a13:PySem.W.nsIn K mainGlobals "possible_rooms" = some (some (.ref f13)))
 (l13:K.lookup f13=some ⟨oc13,od13,.func (PySem.W.fnOf "possible_rooms" "possible_rooms" (zx Zh) (zp Zh) (ze Zh) .none kV13 dc13 pm13 an13 cd13 ct13),sl13⟩)
 (c13:PySem.W.codeIn K cd13 "possible_rooms" = true)
 (k13:PySem.W.keepIn K (.ref f13)=true)
 (a14:PySem.W.nsIn K mainGlobals "is_late" = some (some (.ref f14)))
 (l14:K.lookup f14=some ⟨oc14,od14,.func (PySem.W.fnOf "is_late" "is_late" (zx JX) (zp JX) (ze JX) .none kV14 dc14 pm14 an14 cd14 ct14),sl14⟩)
 (c14:PySem.W.codeIn K cd14 "is_late" = true)
 (k14:PySem.W.keepIn K (.ref f14)=true)
 (a15:PySem.W.nsIn K mainGlobals "place_of_opened" = some (some (.ref f15)))
 (l15:K.lookup f15=some ⟨oc15,od15,.func (PySem.W.fnOf "place_of_opened" "place_of_opened" (zx J4) (zp J4) (ze J4) .none kV15 dc15 pm15 an15 cd15 ct15),sl15⟩)
 (c15:PySem.W.codeIn K cd15 "place_of_opened" = true)
 (k15:PySem.W.keepIn K (.ref f15)=true)
 (a16:PySem.W.nsIn K mainGlobals "start_of_crowd" = some (some (.ref f16)))
 (l16:K.lookup f16=some ⟨oc16,od16,.func (PySem.W.fnOf "start_of_crowd" "start_of_crowd" (zx JV) (zp JV) (ze JV) .none kV16 dc16 pm16 an16 cd16 ct16),sl16⟩)
 (c16:PySem.W.codeIn K cd16 "start_of_crowd" = true)
 (k16:PySem.W.keepIn K (.ref f16)=true)
 (a17:PySem.W.nsIn K mainGlobals "pressing" = some (some (.ref f17)))
 (l17:K.lookup f17=some ⟨oc17,od17,.func (PySem.W.fnOf "pressing" "pressing" (zx Jz) (zp Jz) (ze Jz) .none kV17 dc17 pm17 an17 cd17 ct17),sl17⟩)
 (c17:PySem.W.codeIn K cd17 "pressing" = true)
 (k17:PySem.W.keepIn K (.ref f17)=true)
 (a18:PySem.W.nsIn K mainGlobals "deal" = some (some (.ref f18)))
 (l18:K.lookup f18=some ⟨oc18,od18,.func (PySem.W.fnOf "deal" "deal" (zx jj) (zp jj) (ze jj) .none kV18 dc18 pm18 an18 (.ref cx0) ct18),sl18⟩)
 (c18:PySem.W.codeIn K (.ref cx0) "deal" = true)
 (k18:PySem.W.keepIn K (.ref f18)=true)
 (a19:PySem.W.nsIn K mainGlobals "first_turn" = some (some (.ref f19)))
 (l19:K.lookup f19=some ⟨oc19,od19,.func (PySem.W.fnOf "first_turn" "first_turn" (zx JI) (zp JI) (ze JI) .none kV19 dc19 pm19 an19 cd19 ct19),sl19⟩)
 (c19:PySem.W.codeIn K cd19 "first_turn" = true)
 (k19:PySem.W.keepIn K (.ref f19)=true)
 (a20:PySem.W.nsIn K mainGlobals "window_of" = some (some (.ref f20)))
 (l20:K.lookup f20=some ⟨oc20,od20,.func (PySem.W.fnOf "window_of" "window_of" (zx Zn) (zp Zn) (ze Zn) .none kV20 dc20 pm20 an20 cd20 ct20),sl20⟩)
 (c20:PySem.W.codeIn K cd20 "window_of" = true)
 (k20:PySem.W.keepIn K (.ref f20)=true)
 (a21:PySem.W.nsIn K mainGlobals "windows_of_clan" = some (some (.ref f21)))
 (l21:K.lookup f21=some ⟨oc21,od21,.func (PySem.W.fnOf "windows_of_clan" "windows_of_clan" (zx Jd) (zp Jd) (ze Jd) .none kV21 dc21 pm21 an21 cd21 ct21),sl21⟩)
 (c21:PySem.W.codeIn K cd21 "windows_of_clan" = true)
 (k21:PySem.W.keepIn K (.ref f21)=true)
 (a22:PySem.W.nsIn K mainGlobals "windows_within" = some (some (.ref f22)))
 (l22:K.lookup f22=some ⟨oc22,od22,.func (PySem.W.fnOf "windows_within" "windows_within" (zx JT) (zp JT) (ze JT) .none kV22 dc22 pm22 an22 cd22 ct22),sl22⟩)
 (c22:PySem.W.codeIn K cd22 "windows_within" = true)
 (k22:PySem.W.keepIn K (.ref f22)=true)
 (a23:PySem.W.nsIn K mainGlobals "dealt_within" = some (some (.ref f23)))
 (l23:K.lookup f23=some ⟨oc23,od23,.func (PySem.W.fnOf "dealt_within" "dealt_within" (zx jY) (zp jY) (ze jY) .none kV23 dc23 pm23 an23 cd23 ct23),sl23⟩)
 (c23:PySem.W.codeIn K cd23 "dealt_within" = true)
 (k23:PySem.W.keepIn K (.ref f23)=true)
 (a24:PySem.W.nsIn K mainGlobals "least_room" = some (some (.ref f24)))
 (l24:K.lookup f24=some ⟨oc24,od24,.func (PySem.W.fnOf "least_room" "least_room" (zx J8) (zp J8) (ze J8) .none kV24 dc24 pm24 an24 cd24 ct24),sl24⟩)
 (c24:PySem.W.codeIn K cd24 "least_room" = true)
 (k24:PySem.W.keepIn K (.ref f24)=true)
 (a25:PySem.W.nsIn K mainGlobals "is_whole" = some (some (.ref f25)))
 (l25:K.lookup f25=some ⟨oc25,od25,.func (PySem.W.fnOf "is_whole" "is_whole" (zx JY) (zp JY) (ze JY) .none kV25 dc25 pm25 an25 cd25 ct25),sl25⟩)
 (c25:PySem.W.codeIn K cd25 "is_whole" = true)
 (k25:PySem.W.keepIn K (.ref f25)=true)
 (a26:PySem.W.nsIn K mainGlobals "ratio" = some (some (.ref f26)))
 (l26:K.lookup f26=some ⟨oc26,od26,.func (PySem.W.fnOf "ratio" "ratio" (zx JR) (zp JR) (ze JR) .none kV26 dc26 pm26 an26 cd26 ct26),sl26⟩)
 (c26:PySem.W.codeIn K cd26 "ratio" = true)
 (k26:PySem.W.keepIn K (.ref f26)=true)
 (a27:PySem.W.nsIn K mainGlobals "least" = some (some (.ref f27)))
 (l27:K.lookup f27=some ⟨oc27,od27,.func (PySem.W.fnOf "least" "least" (zx Zk) (zp Zk) (ze Zk) .none kV27 dc27 pm27 an27 cd27 ct27),sl27⟩)
 (c27:PySem.W.codeIn K cd27 "least" = true)
 (k27:PySem.W.keepIn K (.ref f27)=true)
 (a28:PySem.W.nsIn K mainGlobals "_law_ratio" = some (some (.ref f28)))
 (l28:K.lookup f28=some ⟨oc28,od28,.func (PySem.W.fnOf "_law_ratio" "_law_ratio" (zx Zl) (zp Zl) (ze Zl) .none kV28 dc28 pm28 an28 cd28 ct28),sl28⟩)
 (c28:PySem.W.codeIn K cd28 "_law_ratio" = true)
 (k28:PySem.W.keepIn K (.ref f28)=true)
 (a29:PySem.W.nsIn K mainGlobals "_law_best" = some (some (.ref f29)))
 (l29:K.lookup f29=some ⟨oc29,od29,.func (PySem.W.fnOf "_law_best" "_law_best" (zx j4) (zp j4) (ze j4) .none kV29 dc29 pm29 an29 cd29 ct29),sl29⟩)
 (c29:PySem.W.codeIn K cd29 "_law_best" = true)
 (k29:PySem.W.keepIn K (.ref f29)=true)
 (a30:PySem.W.nsIn K mainGlobals "law" = some (some (.ref f30)))
 (l30:K.lookup f30=some ⟨oc30,od30,.func (PySem.W.fnOf "law" "law" (zx j6) (zp j6) (ze j6) .none kV30 dc30 pm30 an30 cd30 ct30),sl30⟩)
 (c30:PySem.W.codeIn K cd30 "law" = true)
 (k30:PySem.W.keepIn K (.ref f30)=true)
 (q1:K.lookup cx0=some ⟨.type "code", odx,.fields vsx,slx⟩)
 (q2:vsx[11]?=some (.ref tbx))
 (q3:vsx.getD 11 .none=.ref tbx)
 (q4:vsx.getD 18 .none=.str flx tx1)
 (q5:vsx.getD 7 .none=.int ix1 tx2)
 (q6:vsx.getD 9 .none=.bool bx)
 (q7:vsx.getD 10 .none=.int ix2 tx3)
 (q8:cx0≠tbx)
 (q9:K.lookup tbx=none)
 (m_ClanError:PySem.W.nsIn K mainGlobals "ClanError" = some (some (.ref c_ClanError)))
 (m_NoRatio:PySem.W.nsIn K mainGlobals "NoRatio" = some (some (.ref c_NoRatio)))
 (m_NoSpell:PySem.W.nsIn K mainGlobals "NoSpell" = some (some (.ref c_NoSpell)))
 (e_NoSpell:PySem.W.excIn K c_NoSpell [.type "ValueError", .type "Exception", .type "BaseException", .type "object"] "ValueError.__new__" = true)
 (e_NoRatio:PySem.W.excIn K c_NoRatio [.type "ValueError", .type "Exception", .type "BaseException", .type "object"] "ValueError.__new__" = true)
 (n_abs:PySem.W.nsIn K mainGlobals "abs" = some none)
 (n_bool:PySem.W.nsIn K mainGlobals "bool" = some none)
 (n_enumerate:PySem.W.nsIn K mainGlobals "enumerate" = some none)
 (n_int:PySem.W.nsIn K mainGlobals "int" = some none)
 (n_isinstance:PySem.W.nsIn K mainGlobals "isinstance" = some none)
 (n_len:PySem.W.nsIn K mainGlobals "len" = some none)
 (n_max:PySem.W.nsIn K mainGlobals "max" = some none)
 (n_min:PySem.W.nsIn K mainGlobals "min" = some none)
 (n_range:PySem.W.nsIn K mainGlobals "range" = some none)
 (n_sorted:PySem.W.nsIn K mainGlobals "sorted" = some none)
 (n_sum:PySem.W.nsIn K mainGlobals "sum" = some none)
 (n_tuple:PySem.W.nsIn K mainGlobals "tuple" = some none)
 (n_zip:PySem.W.nsIn K mainGlobals "zip" = some none)
 (m_MOST_SPELLS:PySem.W.nsIn K mainGlobals "MOST_SPELLS" = some (some (.int 8 t_MOST_SPELLS)))
 (m_MOST_CLANS:PySem.W.nsIn K mainGlobals "MOST_CLANS" = some (some (.int 8 t_MOST_CLANS)))
 (m_MOST_TURNS:PySem.W.nsIn K mainGlobals "MOST_TURNS" = some (some (.int 60 t_MOST_TURNS))):∃ c:Law.Cl,Txt c K mg:=
 ⟨⟨c_ClanError,c_NoRatio,c_NoSpell,cx0,tbx⟩,{
  d_law_cell_at:=⟨f0,_,zC (st:=JW) l0 c0 k0,Wbw X G a0⟩,
  d_law_mixed:=⟨f1,_,zC (st:=Jv) l1 c1 k1,Wbw X G a1⟩,
  d_law_wide:=⟨f2,_,zC (st:=Zq) l2 c2 k2,Wbw X G a2⟩,
  d_law_spells:=⟨f3,_,zC (st:=JD) l3 c3 k3,Wbw X G a3⟩,
  d_law_quotas:=⟨f4,_,zC (st:=Ja) l4 c4 k4,Wbw X G a4⟩,
  d_check_weights:=⟨f5,_,zC (st:=JC) l5 c5 k5,Wbw X G a5⟩,
  d_all_turns:=⟨f6,_,zC (st:=jZ) l6 c6 k6,Wbw X G a6⟩,
  d_check_spells:=⟨f7,_,zC (st:=JB) l7 c7 k7,Wbw X G a7⟩,
  d_common_divisor:=⟨f8,_,zC (st:=Jy) l8 c8 k8,Wbw X G a8⟩,
  d_divisor_of_all:=⟨f9,_,zC (st:=Jx) l9 c9 k9,Wbw X G a9⟩,
  d_least_bottom:=⟨f10,_,zC (st:=Zg) l10 c10 k10,Wbw X G a10⟩,
  d_shares_over:=⟨f11,_,zC (st:=Jb) l11 c11 k11,Wbw X G a11⟩,
  d_quotas:=⟨f12,_,zC (st:=jH) l12 c12 k12,Wbw X G a12⟩,
  d_possible_rooms:=⟨f13,_,zC (st:=Zh) l13 c13 k13,Wbw X G a13⟩,
  d_is_late:=⟨f14,_,zC (st:=JX) l14 c14 k14,Wbw X G a14⟩,
  d_place_of_opened:=⟨f15,_,zC (st:=J4) l15 c15 k15,Wbw X G a15⟩,
  d_start_of_crowd:=⟨f16,_,zC (st:=JV) l16 c16 k16,Wbw X G a16⟩,
  d_pressing:=⟨f17,_,zC (st:=Jz) l17 c17 k17,Wbw X G a17⟩,
  d_deal:=⟨f18,_,zC (st:=jj) l18 c18 k18,Wbw X G a18⟩,
  d_first_turn:=⟨f19,_,zC (st:=JI) l19 c19 k19,Wbw X G a19⟩,
  d_window_of:=⟨f20,_,zC (st:=Zn) l20 c20 k20,Wbw X G a20⟩,
  d_windows_of_clan:=⟨f21,_,zC (st:=Jd) l21 c21 k21,Wbw X G a21⟩,
  d_windows_within:=⟨f22,_,zC (st:=JT) l22 c22 k22,Wbw X G a22⟩,
  d_dealt_within:=⟨f23,_,zC (st:=jY) l23 c23 k23,Wbw X G a23⟩,
  d_least_room:=⟨f24,_,zC (st:=J8) l24 c24 k24,Wbw X G a24⟩,
  d_is_whole:=⟨f25,_,zC (st:=JY) l25 c25 k25,Wbw X G a25⟩,
  d_ratio:=⟨f26,_,zC (st:=JR) l26 c26 k26,Wbw X G a26⟩,
  d_least:=⟨f27,_,zC (st:=Zk) l27 c27 k27,Wbw X G a27⟩,
  d_law_ratio:=⟨f28,_,zC (st:=Zl) l28 c28 k28,Wbw X G a28⟩,
  d_law_best:=⟨f29,_,zC (st:=j4) l29 c29 k29,Wbw X G a29⟩,
  d_law:=⟨f30,_,zC (st:=j6) l30 c30 k30,Wbw X G a30⟩,
  x_deal:=⟨f18,_,zC (st:=jj) l18 c18 k18,Wbw X G a18,rfl⟩,
  hdC:=fun h kh=>⟨_,vsx,flx,tx1,ix1,tx2,bx,ix2,tx3,kh _ _ q1,rfl,rfl,q2,q3,q4,q5,q6,q7,q8⟩,
  tab:=zl9 a18 l18 rfl q1 q2,
  nop:=q9,
  m_ClanError:=Wbw X G m_ClanError,
  m_NoRatio:=Wbw X G m_NoRatio,
  m_NoSpell:=Wbw X G m_NoSpell,
  e_NoSpell:=e_NoSpell,
  e_NoRatio:=e_NoRatio,
  n_abs:=WaM X G n_abs,
  n_bool:=WaM X G n_bool,
  n_enumerate:=WaM X G n_enumerate,
  n_int:=WaM X G n_int,
  n_isinstance:=WaM X G n_isinstance,
  n_len:=WaM X G n_len,
  n_max:=WaM X G n_max,
  n_min:=WaM X G n_min,
  n_range:=WaM X G n_range,
  n_sorted:=WaM X G n_sorted,
  n_sum:=WaM X G n_sum,
  n_tuple:=WaM X G n_tuple,
  n_zip:=WaM X G n_zip,
  m_MOST_SPELLS:=⟨_,Wbw X G m_MOST_SPELLS⟩,
  m_MOST_CLANS:=⟨_,Wbw X G m_MOST_CLANS⟩,
  m_MOST_TURNS:=⟨_,Wbw X G m_MOST_TURNS⟩ }⟩
section
variable{P:Program}{w:World}{c:Law.Cl}{K:Ybf}{mg:Str->Option Value}{base:Heap}
theorem zhL(T:Txt c K mg):dd_law_cell_at P w K mg base:=zgV T
theorem zm6(T:Txt c K mg):dd_law_mixed P w K mg base:=zh6 T
theorem zhd(T:Txt c K mg):dd_law_wide P w K mg base:=zmf T (zm6 T)
theorem ziM(T:Txt c K mg):dd_law_spells P w K mg base:=zje T (zhL T) (zhd T)
theorem zmW(T:Txt c K mg):dd_law_quotas P w K mg base:=zhf T
theorem zjq(T:Txt c K mg):dd_check_weights c P w K mg base:=zj8 T
theorem zgB(T:Txt c K mg):dd_all_turns P w K mg base:=znZ T
theorem zkX(T:Txt c K mg):dd_check_spells c P w K mg base:=zlW T (zjq T) (zgB T)
theorem zb8(T:Txt c K mg):dd_common_divisor P w K mg base:=zkv T
theorem zjH(T:Txt c K mg):dd_divisor_of_all P w K mg base:=zjQ T (zb8 T)
theorem zgk(T:Txt c K mg):dd_least_bottom P w K mg base:=ziV T (zjH T) (zb8 T)
theorem zg0(T:Txt c K mg):dd_shares_over P w K mg base:=zgl T
theorem zla(T:Txt c K mg):dd_quotas c P w K mg base:=ziE T (zkX T) (zgk T) (zg0 T)
theorem ziv(T:Txt c K mg):dd_possible_rooms P w K mg base:=zgZ T
theorem zhA(T:Txt c K mg):dd_is_late P w K mg base:=zfV T
theorem zhY(T:Txt c K mg):dd_place_of_opened P w K mg base:=zmE T
theorem zhz(T:Txt c K mg):dd_start_of_crowd P w K mg base:=zm4 T
theorem zlV(T:Txt c K mg):dd_pressing P w K mg base:=zkl T
theorem zis(T:Txt c K mg)(hB:BMod mg base)(kb:K.In base):dd_deal c P w K mg base:=zkS T hB kb (zhA T) (zhY T) (zhz T) (zlV T)
theorem zmq(T:Txt c K mg):dd_first_turn P w K mg base:=zf9 T
theorem zmk(T:Txt c K mg):dd_window_of P w K mg base:=zm5 T (zmq T)
theorem zhW(T:Txt c K mg):dd_windows_of_clan P w K mg base:=zmD T (zmk T)
theorem zhy(T:Txt c K mg):dd_windows_within P w K mg base:=zhE T (zhW T)
theorem zdn(T:Txt c K mg)(hB:BMod mg base)(kb:K.In base):dd_dealt_within c P w K mg base:=ziJ T (zis T hB kb) (zhy T)
theorem zmh(T:Txt c K mg)(hB:BMod mg base)(kb:K.In base):dd_least_room c P w K mg base:=znC T (ziv T) (zdn T hB kb)
theorem zmJ(T:Txt c K mg):dd_is_whole P w K mg base:=zgf T
theorem zfM(T:Txt c K mg):dd_ratio P w K mg base:=zja T (zb8 T) (zmJ T)
theorem zky(T:Txt c K mg)(hB:BMod mg base)(kb:K.In base):dd_least c P w K mg base:=zhC T (zla T) (zmh T hB kb) (zdn T hB kb) (zfM T)
theorem zib(T:Txt c K mg):dd_law_ratio P w K mg base:=zhh T
theorem zjD(T:Txt c K mg):dd_law_best P w K mg base:=zl2 T
theorem zjp(T:Txt c K mg)(hB:BMod mg base)(kb:K.In base){f:Addr}{fd:FuncData}(F:Fun K "law" "law" j6 f fd):FnOk P w K mg base (CXR P w) 9 f fd ["_law_script"] (spU c.tb K Jp):=zl7 T (ziM T) (zmW T) (zky T hB kb) (zib T) (zjD T) F
end
theorem walk{l:PySem.W.OpenLaw}{q:Program}{loose:List Str}{XP:(Str->Option Value)->Heap->Prop}{YP:World->Heap->Prop}{d dd:DefRec}{K:Params->Ybf}(hn:l.most=some 63)(hdf:d.params.defaults=[])(hdn:d.name = "law")
 (hrec:(recsOf q).find? (fun e=>e.name==("deal" : Str))=some dd) (hY:∀ (w:World) (h:Heap),YP w h->(K w.params).In h)
 (F:∀ (w:World) (mg:Str->Option Value) (h:Heap),(K w.params).In h->h.Ns mainGlobals mg->∃ c,Txt c (K w.params) mg) :
 PySem.W.WalkO q loose XP YP l.row.toRowW d [] (fun f vs=>PySem.call f vs):=by
 refine L3.zhV (n:=63) (k:=9) (x:="_law_script") (sp:=Jp) hn #[1] hdf ⟨rfl,#[1],#[1]⟩ hY hrec (fun w mg fa h KX G hmg=>?_) (fun ns hl Q E hQ=>⟨ns,rfl,hl,hQ _⟩)
 obtain⟨c,T⟩:=F w mg h KX G;obtain⟨f,fd,Fn,hm⟩:=T.d_law;rw [hdn,hm] at hmg;cases hmg;have Fn':=Fn;obtain⟨oc,od,kV,doc,pm,an,cdv,ct,osl,rfl,lk,hcd⟩:=Fn.ex;exact⟨_,c.c0,c.tb,fun s u=>.of_eq rfl,T.tab,T.nop,fun base kb hB=>zjp T hB kb Fn'⟩
end Law
namespace PySem.W.Fast
theorem tw1003144191080049545:True:=trivial
theorem tw10120999443062571860:True:=trivial
theorem tw10217860348200368690:True:=trivial
theorem tw10309814655406448143:True:=trivial
theorem tw10353713792557812733:True:=trivial
theorem tw10830155673213164518:True:=trivial
theorem tw11339339899626420237:True:=trivial
theorem tw11686293498627854787:True:=trivial
theorem tw11932567096615703406:True:=trivial
theorem tw12267056027621165447:True:=trivial
theorem tw12295784223267089289:True:=trivial
theorem tw13030404172825608424:True:=trivial
theorem tw13068202091527199297:True:=trivial
theorem tw13187883834369837175:True:=trivial
theorem tw13728980602321107398:True:=trivial
theorem tw14134627540748880352:True:=trivial
theorem tw14579747452324079606:True:=trivial
theorem tw14768564209390366355:True:=trivial
theorem tw14855462123589197764:True:=trivial
theorem tw15034603717725816641:True:=trivial
theorem tw15210291323250093543:True:=trivial
theorem tw1637044034068500413:True:=trivial
theorem tw16399253645182772893:True:=trivial
theorem tw16412034038034631944:True:=trivial
theorem tw16484760442977396645:True:=trivial
theorem tw16591926473518551380:True:=trivial
theorem tw17130651335651932005:True:=trivial
theorem tw17275439094951170100:True:=trivial
theorem tw17896021242104863551:True:=trivial
theorem tw18165297657486806833:True:=trivial
theorem tw18357126761528771737:True:=trivial
theorem tw18362614532528147447:True:=trivial
theorem tw252940082383714353:True:=trivial
theorem tw267374940831602766:True:=trivial
theorem tw2754125517665219329:True:=trivial
theorem tw2950610322311288621:True:=trivial
theorem tw3084395302492326385:True:=trivial
theorem tw3271880833449152149:True:=trivial
theorem tw3747739161472990823:True:=trivial
theorem tw4095693502067130102:True:=trivial
theorem tw4471727583065642275:True:=trivial
theorem tw4652552527419126582:True:=trivial
theorem tw4880551892681149886:True:=trivial
theorem tw5214201784247761750:True:=trivial
theorem tw5729545580210299624:True:=trivial
theorem tw6071534804579193436:True:=trivial
theorem tw6661990421116725648:True:=trivial
theorem tw6700914148204825410:True:=trivial
theorem tw682040510126712079:True:=trivial
theorem tw7009922792121781720:True:=trivial
theorem tw7086171472628292704:True:=trivial
theorem tw714268940078379448:True:=trivial
theorem tw7225992329561191955:True:=trivial
theorem tw7371399798239417584:True:=trivial
theorem tw8232606535879877842:True:=trivial
theorem tw8309581327780102624:True:=trivial
theorem tw8565958942706000543:True:=trivial
theorem tw915044362350643932:True:=trivial
theorem tw9255328488005742719:True:=trivial
theorem tw9796811863630286650:True:=trivial
end PySem.W.Fast
theorem PySem.W.Fast.te10733611289280238604:True:=trivial
abbrev PySem.W.Fast.tw1154676883353882548:PySem.Program:=PySem.Challenge.pw_chairclans_k22_against_all_rows
theorem PySem.W.Fast.te1154676883353882548:PySem.Challenge.pw_chairclans_k22_against_all_rows=PySem.W.Fast.tw1154676883353882548:=rfl
open PySem PySem.W PyProof.Rows
set_option maxRecDepth 100000 in
set_option maxHeartbeats 0 in
theorem PySem.Challenge.cw_chairclans_k22_against_all_rows_holds : PySem.Challenge.rw_chairclans_k22_against_all_rows.Holds := by
 w_on;o_law;k_head;(case hw=>w_witness2)
 k_fill
 refine Law.walk (l:=PySem.Challenge.rw_chairclans_k22_against_all_rows) rfl rfl rfl rfl (fun w h Y=>PySem.W.km_in_of Y) ?F
 case F=>
  intro w mg h KX G;refine' Law.zf4 KX G ?a0 ?l0 ?c0 ?k0 ?a1 ?l1 ?c1 ?k1 ?a2 ?l2 ?c2 ?k2 ?a3 ?l3 ?c3 ?k3 ?a4 ?l4 ?c4 ?k4 ?a5 ?l5 ?c5 ?k5 ?a6 ?l6 ?c6 ?k6 ?a7 ?l7 ?c7 ?k7 ?a8 ?l8 ?c8 ?k8 ?a9 ?l9 ?c9 ?k9 ?a10 ?l10 ?c10 ?k10 ?a11 ?l11 ?c11 ?k11 ?a12 ?l12 ?c12 ?k12 ?a13 ?l13 ?c13 ?k13 ?a14 ?l14 ?c14 ?k14 ?a15 ?l15 ?c15 ?k15 ?a16 ?l16 ?c16 ?k16 ?a17 ?l17 ?c17 ?k17 ?a18 ?l18 ?c18 ?k18 ?a19 ?l19 ?c19 ?k19 ?a20 ?l20 ?c20 ?k20 ?a21 ?l21 ?c21 ?k21 ?a22 ?l22 ?c22 ?k22 ?a23 ?l23 ?c23 ?k23 ?a24 ?l24 ?c24 ?k24 ?a25 ?l25 ?c25 ?k25 ?a26 ?l26 ?c26 ?k26 ?a27 ?l27 ?c27 ?k27 ?a28 ?l28 ?c28 ?k28 ?a29 ?l29 ?c29 ?k29 ?a30 ?l30 ?c30 ?k30 ?q1 ?q2 ?q3 ?q4 ?q5 ?q6 ?q7 ?q8 ?q9 ?m_ClanError ?m_NoRatio ?m_NoSpell ?e_NoSpell ?e_NoRatio ?n_abs ?n_bool ?n_enumerate ?n_int ?n_isinstance ?n_len ?n_max ?n_min ?n_range ?n_sorted ?n_sum ?n_tuple ?n_zip ?m_MOST_SPELLS ?m_MOST_CLANS ?m_MOST_TURNS
  (case a0|l0|c0|k0|a1|l1|c1|k1|a2|l2|c2|k2|a3|l3|c3|k3|a4|l4|c4|k4|a5|l5|c5|k5|a6|l6|c6|k6|a7|l7|c7|k7|a8|l8|c8|k8|a9|l9|c9|k9|a10|l10|c10|k10|a11|l11|c11|k11|a12|l12|c12|k12|a13|l13|c13|k13|a14|l14|c14|k14|a15|l15|c15|k15|a16|l16|c16|k16|a17|l17|c17|k17|a18|l18|c18|k18|a19|l19|c19|k19|a20|l20|c20|k20|a21|l21|c21|k21|a22|l22|c22|k22|a23|l23|c23|k23|a24|l24|c24|k24|a25|l25|c25|k25|a26|l26|c26|k26|a27|l27|c27|k27|a28|l28|c28|k28|a29|l29|c29|k29|a30|l30|c30|k30|q1=>k_is)
  (case q2|q3|q4|q5|q6|q7=>rfl)
  (case q8=>decide)
  (case q9=>kernel_rfl)
  (case m_ClanError|m_NoRatio|m_NoSpell=>k_is)
  (case e_NoSpell|e_NoRatio=>k_exc)
  (case n_abs|n_bool|n_enumerate|n_int|n_isinstance|n_len|n_max|n_min|n_range|n_sorted|n_sum|n_tuple|n_zip|m_MOST_SPELLS|m_MOST_CLANS|m_MOST_TURNS=>k_is)