import PyProof.Rows.All
import Wide.All
import OpenK.AllK
import Wide.FinOn
import Lean
import PyProof.EqAt
import PyProof.EqKinds
import PyProof.TupleCall
import PySem.Challenge.RW_chairclans_k35_prices_of_a_mended_row
set_option maxHeartbeats 4000000
set_option maxHeartbeats 4000000
set_option compiler.extract_closed false
def mI:=Lean.mkIdent
local macro_rules | `(tactic| omega)=>`(tactic| first | lia | omega +splitDisjunctions | (dsimp only;omega +splitDisjunctions))
local macro_rules|`(#[9,$f,$i])=>`($f (i:=$i) $(mI `S.nd) rfl (by walk_at "o"))|`(#[7])=>`($(mI `hr.mono) (by decide))|`(#[10])=>`(⟨rfl,rfl,rfl,by decide +kernel,rfl,by decide +kernel,by decide +kernel⟩)
local macro_rules|`(#[0])=>`(by omega)|`(#[1])=>`(by decide)|`(#[2])=>`(by walk_at "o")|`(#[3])=>`(by decide +kernel)|`(#[4])=>`(fun _ _=>rfl)|`(#[5,$x])=>`(some (.sh true (.int $x)))|`(#[6])=>`(by simp;omega)|`(#[8,$x])=>`($x $(mI `P) $(mI `w) $(mI `K) $(mI `mg) $(mI `base))
local macro_rules|`(#[11])=>`($(mI `Inv) $(mI `X) $(mI `pins) $(mI `σ) $(mI `H) $(mI `s))
local macro_rules|`(#[12])=>`(($(mI `model) $(mI `X.prog) $(mI `X.w)))
local macro_rules|`(#[13])=>`($(mI `Value)->$(mI `Shared)->Prop)
local macro_rules|`(#[14])=>`($(mI `starEach) ($(mI `e) ::$(mI `es)) $(mI `X.env)=($(mI `false),$(mI `eval) $(mI `e) $(mI `X.env)) ::$(mI `starEach) $(mI `es) $(mI `X.env))
local macro_rules|`(#[15])=>`($(mI `Str)->$(mI `Option) $(mI `Value))
local macro_rules|`(#[16])=>`(($(mI `X.comp) $(mI `scope) ($(mI `tn)++$(mI `fn)) $(mI `s) $(mI `H) $(mI `fp) $(mI `cl)))
local macro_rules|`(#[17])=>`(($(mI `Addr)×$(mI `Obj)))
local macro_rules|`(#[18])=>`($(mI `Fr3) $(mI `K) $(mI `H0) $(mI `G0) $(mI `ρ) $(mI `σ) $(mI `G) $(mI `H))
local macro_rules|`(#[19])=>`($(mI `X.fn) $(mI `x)=$(mI `true)\/$(mI `X.env.scope.names.lookup) $(mI `x)=$(mI `some) .local)
local macro_rules|`(#[20])=>`(($(mI `x)==("__classdict__" : $(mI `Str)))=$(mI `false))
local macro_rules|`(#[21])=>`(($(mI `s.heap.objs.size)+1))
local macro_rules|`(#[22])=>`(($(mI `List) $(mI `Int)))
local macro_rules|`(#[23])=>`((.Call (.Name $(mI `x) $(mI `p)) ($(mI `e) ::$(mI `es)) [] $(mI `pos)))
local macro_rules|`(#[24])=>`(($(mI `x)==("__debug__" : $(mI `Str)))=$(mI `false))
local macro_rules|`(#[25])=>`((.ins $(mI `C) $(mI `dx) [("costs", .ref $(mI `aC)),("turn_prices", .ref $(mI `aT))]))
local macro_rules|`(#[95])=>`(by intro _ z;cases z)|`(#[96,$h,$e:ident])=>`(fun z=>by rw [z,$h:term] at $e:ident;cases $e:ident)
noncomputable section
abbrev Waa:=@Int.mul_nonpos_of_nonpos_of_nonneg
abbrev Wab:=@Int.gcd_pos_of_ne_zero_right
abbrev Wac:=@PyProof.Rows.callWith_type1
abbrev Wad:=@List.nodup_iff_pairwise_ne
abbrev Wae:=@List.drop_eq_getElem_cons
abbrev Waf:=@Classical.byContradiction
abbrev Wag:=@List.mem_or_eq_of_mem_set
abbrev Wah:=@Option.isSome_iff_exists
abbrev Wai:=@List.eq_of_mem_replicate
abbrev Waj:=@PySem.F.plainAttrs_list
abbrev Wak:=@PySem.W.cellsFrom_some
abbrev Wal:=@List.take_of_length_le
abbrev Wam:=@PySem.F.entry_min_loop
abbrev Wan:=@PySem.F.plain_min_loop
abbrev Wao:=@List.getElem?_eq_none
abbrev Wap:=@Int.ediv_le_of_le_mul
abbrev Waq:=@PySem.mem_of_lookup
abbrev War:=@Int.toNat_of_nonneg
abbrev Was:=@Nat.lt_of_le_of_lt
abbrev Wat:=@Bool.false_eq_true
abbrev Wau:=@List.find?_eq_none
abbrev Wav:=@PySem.PyData.tuple.injEq
abbrev Waw:=@Bool.true_eq_false
abbrev Wax:=@Bool.not_eq_true'
abbrev Waz:=@Option.some.injEq
abbrev WaA:=@List.nodup_append
abbrev WaB:=@List.foldl_append
abbrev WaC:=@Option.isSome_map
abbrev WaD:=@Int.gcd_dvd_right
abbrev WaE:=@Int.dvd_mul_right
abbrev WaF:=@Int.mul_left_comm
abbrev WaG:=@List.pairwise_map
abbrev WaH:=@PySem.PassesOwn.leaving
abbrev WaI:=@List.take_add_one
abbrev WaJ:=@PySem.PyData.bool.injEq
abbrev WaK:=@PySem.PyData.list.injEq
abbrev WaL:=@List.getElem_inj
abbrev WaM:=@Nat.lt_succ_self
abbrev WaN:=@List.length_take
abbrev WaO:=@List.all_eq_true
abbrev WaP:=@Int.gcd_dvd_left
abbrev WaQ:=@List.any_eq_true
abbrev WaR:=@List.nodup_range
abbrev WaS:=@List.not_mem_nil
abbrev WaT:=@PySem.PyData.int.injEq
abbrev WaU:=@PySem.PyData.str.injEq
abbrev WaV:=@Option.some.inj
abbrev WaW:=@List.of_mem_zip
abbrev WaX:=@PySem.W.kia_one
abbrev WaY:=@Int.ediv_nonneg
abbrev WaZ:=@List.sum_append
abbrev Wa0:=@List.map_const'
abbrev Wa1:=@PySem.Heap.size_push
abbrev Wa2:=@List.nodup_nil
abbrev Wa3:=@PySem.Paired.length
abbrev Wa4:=@List.mem_cons
abbrev Wa5:=@Bool.or_false
abbrev Wa6:=@Bool.false_or
abbrev Wa7:=@Bool.and_self
abbrev Wa8:=@Int.dvd_trans
abbrev Wa9:=@Int.mul_assoc
abbrev Wba:=@Bool.and_true
abbrev Wbb:=@PySem.W.mg_of
abbrev Wbc:=@Nat.le_of_lt
abbrev Wbd:=@Nat.ne_of_gt
abbrev Wbe:=@List.map_nil
abbrev Wbf:=@Bool.true_or
abbrev Wbg:=@Int.mul_comm
abbrev Wbh:=@Int.zero_add
abbrev Wbi:=@Nat.sub_self
abbrev Wbj:=@List.map_set
abbrev Wbk:=@Bool.or_true
abbrev Wbl:=@Nat.zero_le
abbrev Wbm:=@Int.le_refl
abbrev Wbn:=@Int.sub_mul
abbrev Wbo:=@Ne.symm
abbrev Yaa:=@List.mem_append_right
abbrev Yab:=@List.getElem?_append_left
abbrev Yac:=@List.getElem?_set_ne
abbrev Yad:=@List.getElem?_replicate
abbrev Yae:=@List.getElem?_append_right
abbrev Yaf:=@Nat.ne_of_lt
abbrev Yag:=@List.append_assoc
abbrev Yah:=@List.mem_of_getElem?
abbrev Yai:=@List.mem_append_left
abbrev Yak:=@Bool.and_eq_true
abbrev Yal:=@Bool.false_ne_true
abbrev Yam:=@List.getElem_of_mem
abbrev Yan:=@PySem.Heap.get?_push_size
abbrev Yao:=@List.append_nil
abbrev Yap:=@Nat.lt_irrefl
abbrev Yas:=@List.getElem?_set_self
abbrev Yat:=@List.map_congr_left
abbrev Yaw:=@Int.ediv_mul_cancel
abbrev Yax:=@List.getElem?_range
abbrev Yay:=@Int.natAbs_ediv_le_natAbs
abbrev Yaz:=@List.map_replicate
abbrev YaB:=@List.nodup_cons
abbrev YaD:=@List.map_map
abbrev YaF:=@Int.le_of_mul_le_mul_right
abbrev YaG:=@List.length_range
abbrev YaH:=@List.take_length
abbrev YaJ:=@Option.map_eq_some_iff
abbrev YaK:=@Int.mul_nonneg
abbrev YaM:=@List.filter_cons
abbrev YaN:=@List.length_set
abbrev YaP:=@List.getD_eq_getElem?_getD
abbrev YaQ:=@List.getElem?_eq_getElem
abbrev YaR:=@List.length_map
abbrev YaS:=@List.length_append
abbrev YaT:=@List.mem_cons_of_mem
abbrev YaU:=@Nat.lt_of_lt_of_le
abbrev YaV:=@List.mem_cons_self
abbrev YaW:=@PySem.Heap.get?_push_of_some
abbrev YaX:=@PySem.Heap.lt_size
abbrev YaY:=@Nat.le_refl
abbrev YaZ:=@List.size_toArray
abbrev Ya0:=@List.getElem?_map
abbrev Ya1:=@List.map_cons
abbrev Ya2:=@List.map_append
abbrev Ya3:=@List.mem_append
abbrev Ya4:=@List.getElem_mem
abbrev Ya5:=@Nat.le_trans
abbrev Ya6:=@List.mem_singleton
abbrev Ya7:=@List.mem_map
abbrev Ya8:=@List.getElem?_eq_some_iff
abbrev Ya9:=@List.mem_filter
abbrev Yba:=@List.mem_range
abbrev Ybb:=@List.length_replicate
abbrev Ybc:=@Int.emod_nonneg
abbrev Ybd:=@Int.emod_lt_of_pos
abbrev Ybe:=@Int.mul_le_mul_of_nonneg_right
abbrev Ybf:=PySem.W.Frag
section
set_option Elab.async false
set_option linter.all false
set_option maxRecDepth 100000
namespace L2
open PySem PySem.Spec PyProof.Rows
abbrev Key:=Sum Int Str
def Zg:Key->Value->Bool
 | .inl k,v=>Value.isInt k v
 | .inr x,v=>Value.isStrOf x v
def keyH(w:World):Key->Int
 | .inl k=>hashInt k
 | .inr x=>hashStr w x
theorem Ji:∀ {k:Key} {v:Value},Zg k v=true->(∃ i t,k=Sum.inl i/\v=Value.int i t)\/(∃ x t,k=Sum.inr x/\v=Value.str x t)
 | .inl i, v, h => by
  obtain⟨t,e⟩:=Value.isInt_shape (k:=i) (v:=v) h;exact .inl ⟨i,t,rfl,e⟩
 | .inr x, v, h => by
  obtain⟨t,e⟩:=Value.isStrOf_shape (x:=x) (v:=v) h;exact .inr ⟨x,t,rfl,e⟩
theorem zl0(i:Int)(t:Tok):Zg (.inl i) (.int i t)=true:=by simp [Zg,Value.isInt]
theorem zkN(x:Str)(t:Tok):Zg (.inr x) (.str x t)=true:=by simp [Zg,Value.isStrOf]
theorem zlM(a b:Int):decide ((Sum.inl a:Key)=Sum.inl b)=(a==b):=by
 by_cases e:a=b
 . subst e;simp
 . have h:¬(Sum.inl a:Key)=Sum.inl b:=fun q=>e (Sum.inl.inj q)
   rw [decide_eq_false h];exact(beq_eq_false_iff_ne.mpr e).symm
theorem zlq(a b:Str):decide ((Sum.inr a:Key)=Sum.inr b)=decide (a=b):=by
 by_cases e:a=b
 . subst e;simp
 . have h:¬(Sum.inr a:Key)=Sum.inr b:=fun q=>e (Sum.inr.inj q)
   rw [decide_eq_false h,decide_eq_false e]
theorem zhW(a:Int)(b:Str):decide ((Sum.inl a:Key)=Sum.inr b)=false:=decide_eq_false (fun q=>nomatch q)
theorem zkI(a:Str)(b:Int):decide ((Sum.inr a:Key)=Sum.inl b)=false:=decide_eq_false (fun q=>nomatch q)
def ja(prog:Program)(w:World):PySem.KeyKind prog w Key where
 is:=Zg
 hash:=keyH w
 inj:=fun v a b ha hb=>by
  rcases Ji ha with ⟨i,t,rfl,rfl⟩|⟨x,t,rfl,rfl⟩
  . rcases Ji hb with ⟨j,u,rfl,e⟩|⟨y,u,rfl,e⟩
    . injection e with e1 _;rw [e1]
    . exact nomatch e
  . rcases Ji hb with ⟨j,u,rfl,e⟩|⟨y,u,rfl,e⟩
    . exact nomatch e
    . injection e with e1 _;rw [e1]
 byValue:=fun k v h=>by
  rcases Ji h with ⟨i,t,rfl,rfl⟩|⟨x,t,rfl,rfl⟩<;>rfl
 pyHash:=fun hv h=>by
  rcases Ji hv with ⟨i,t,rfl,rfl⟩|⟨x,t,rfl,rfl⟩
  . exact wpAny_pyHash_int h
  . exact wpAny_pyHash_str h
 eqBool:=fun hu hv h=>by
  rcases Ji hu with ⟨i,t,rfl,rfl⟩|⟨x,t,rfl,rfl⟩
  . rcases Ji hv with ⟨j,u,rfl,rfl⟩|⟨y,u,rfl,rfl⟩
    . rw [zlM] at h;exact wpAny_eqBool_int h
    . rw [zhW] at h;exact SeqAt.EqAt.int_str i t y u _ _ _ _ h
  . rcases Ji hv with ⟨j,u,rfl,rfl⟩|⟨y,u,rfl,rfl⟩
    . rw [zkI] at h;exact SeqAt.EqAt.str_int x t j u _ _ _ _ h
    . rw [zlq] at h;exact wpAny_eqBool_str h
 «strs»:=fun k x t v h=>by
  rcases Ji h with ⟨i,u,rfl,e⟩|⟨y,u,rfl,e⟩
  . exact nomatch e
  . injection e with e1 _
    subst e1;cases v<;>rfl
theorem zjW(prog:Program)(w:World)(i:Int)(t:Tok):(ja prog w).is (.inl i) (.int i t)=true:=zl0 i t
theorem zgY(prog:Program)(w:World)(x:Str)(t:Tok):(ja prog w).is (.inr x) (.str x t)=true:=zkN x t
inductive V where
 | non|bl (b:Bool)|int (i:Int)|str (x:Str)|byt (b:Array UInt8)|flt (b:UInt64)|ref (a:Addr)|ty (n:String)
 deriving DecidableEq
def RelV:V->Value->Prop
 | .non,u=>u=Value.none
 | .bl b,u=>u=Value.bool b
 | .int i,u=>∃ t,u=Value.int i t
 | .str x,u=>∃ t,u=Value.str x t
 | .byt b,u=>∃ t,u=Value.bytes b t
 | .flt b,u=>∃ t,u=Value.float b t
 | .ref a,u=>u=Value.ref a
 | .ty n,u=>u=Value.type n
abbrev Vals:List V->List Value->Prop:=Paired RelV
theorem Vals.length{xs:List V}{us:List Value}(r:Vals xs us):xs.length=us.length:=Wa3 r
theorem Vals.get:∀ {xs:List V} {us:List Value} {i:Nat} {x:V},Vals xs us->xs[i]?=some x->∃ u,us[i]?=some u/\RelV x u
 | _,_,_,_,.nil,e=>by simp at e
 | _,_,0,_,.cons r _,e=>by simp at e;subst e;exact⟨_,rfl,r⟩
 | _, _, i + 1, x, .cons _ t, e => by
  obtain⟨u,h1,h2⟩:=Vals.get (i:=i) (x:=x) t (by simpa using e)
  exact⟨u,by simpa using h1,h2⟩
theorem Vals.set{x:V}{u:Value}(r:RelV x u):∀ {xs:List V} {us:List Value} (i:Nat),Vals xs us->Vals (xs.set i x) (us.set i u)
 | _,_,_,.nil=>.nil
 | _,_,0,.cons _ t=>.cons r t
 | _,_,i+1,.cons q t=>.cons q (Vals.set r i t)
theorem Vals.append:∀ {xs ys:List V} {us ws:List Value},Vals xs us->Vals ys ws->Vals (xs++ys) (us++ws)
 | _,_,_,_,.nil,s=>s
 | _,_,_,_,.cons r t,s=>.cons r (Vals.append t s)
theorem Vals.take:∀ {xs:List V} {us:List Value} (n:Nat),Vals xs us->Vals (xs.take n) (us.take n)
 | _,_,0,_=>.nil
 | _,_,_+1,.nil=>.nil
 | _,_,n+1,.cons r t=>.cons r (Vals.take n t)
theorem Vals.drop:∀ {xs:List V} {us:List Value} (n:Nat),Vals xs us->Vals (xs.drop n) (us.drop n)
 | _,_,0,r=>r
 | _,_,_+1,.nil=>.nil
 | _,_,n+1,.cons _ t=>Vals.drop n t
theorem Vals.none_of:∀ {xs:List V} {us:List Value} {i:Nat},Vals xs us->xs[i]?=none->us[i]?=none:=fun {xs us i} r e=>by
 have h1:=r.length;have h2:xs.length<=i:=List.getElem?_eq_none_iff.mp e;exact List.getElem?_eq_none_iff.mpr #[0]
def RelO:Option V->Option Value->Prop
 | some v,some u=>RelV v u
 | none,none=>True
 | _,_=>False
def KV{κ : Type}:List (κ×V)->List (κ×Value)->Prop:=Paired fun(p:κ×V) (q:κ×Value)=>p.1=q.1/\RelV p.2 q.2
def kV:Key->V
 | .inl i=>.int i
 | .inr x=>.str x
inductive HO where
 | lst (xs:List V)
 | tup (xs:List V)
 | dK (kvs:List (Key×V))|dT (kvs:List (List Key×V))
 | set (S:Int->Bool) (n:Nat)
 | ins (C dx:Addr) (fs:List (Str×V))
 | own (x:Addr)
 | xd (fs:List (Str×V))
 | met (f x:Addr)
 | rng (lo hi:Int)
 | frz (o:Obj) (u:HO)
 | tbl (ps:Array Value)
 | ext (φ : Heap->Prop)
abbrev Hp:=Addr->Option HO
def upd(H:Hp)(a:Addr)(o:HO):Hp:=fun b=>if b=a then some o else H b
theorem zf{H:Hp}{a:Addr}{o:HO}:upd H a o a=some o:=by unfold upd;rw [if_pos rfl]
theorem zc{H:Hp}{a b:Addr}{o:HO}(h:b≠a):upd H a o b=H b:=by unfold upd;rw [if_neg h]
theorem Zc{H:Hp}{a:Addr}{o u:HO}:upd (upd H a o) a u=upd H a u:=by
 funext b;unfold upd;split<;>rfl
theorem zlf{H:Hp}{a b:Addr}{o u:HO}(h:H a=some o)(h':H b=some u)(d:o≠u):a≠b:=by
 intro e;subst e;rw [h] at h';exact d (WaV h')
theorem je{H:Hp}{a b:Addr}{o:HO}(h:H a=some o)(h':H b=none):a≠b:=by
 intro e;subst e;rw [h] at h';cases h'
section
variable(P:Program)(w:World)
def zI(H:Hp)(h:Heap)(a:Addr):HO->Prop
 | .lst xs=>xs.length<=sizeLine/\∃ (its:List Value) (n:Nat),Vals xs its/\h.get? a=some { cls:=.type "list", data:=.seq its.toArray n }
 | .tup xs=>xs.length<=sizeLine/\∃ its:List Value,Vals xs its/\IsTup h a its.toArray
 | .dK kvs=>kvs.length<=sizeLine/\(a==sysModules)=false/\∃ vs,KV kvs vs/\h.DictOf (ja P w) a vs
 | .dT kvs => kvs.length <= sizeLine /\ (a == sysModules) = false /\ ∃ xs : List (List Key × Addr × Value),
  Paired (fun(p:List Key×V) (q:List Key×Addr×Value)=>p.1=q.1/\H q.2.1=some (.tup (p.1.map kV))/\RelV p.2 q.2.2) kvs xs/\
  ∃ o es ep,h.get? a=some o/\o.ExactDict/\o.data=.dict es ep/\es.toList=xs.map (entryOfKey (tupleKind (ja P w)))/\(xs.map (·.1)).Nodup
 | .set S n=>h.SetOf (intKind P w) a S n
 | .ins C dx fs => H dx = some (.own a) /\ fs.length <= 1000 /\ dx ≠ a /\ h.get? a = some (PySem.W.instObj C dx) /\
  ∃ mA,h.Ns1 dx mA/\(∀ f,RelO (fs.lookup f) (mA f))/\PySem.Within mA (fs.map (·.1))
 | .own _=>∃ o,h.get? a=some o
 | .xd fs=>∃ mA,h.Ns1 a mA/\∀ f,RelO (fs.lookup f) (mA f)
 | .rng lo hi=>∃ t u v,h.get? a=some { cls:=.type "range", data:=.fields #[.int lo t,.int hi u,.int 1 v] }
 | .frz o u=>h.get? a=some o/\zI H h a u
 | .tbl ps=>h.get? a=some { cls:=.none,data:=.fields ps }
 | .met f x=>h.get? a=some (PySem.W.methodObj (.ref f) (.ref x))
 | .ext φ=>φ h/\(∃ o,h.get? a=some o)/\∀ h1 h2:Heap,φ h1->(∀ o,h1.get? a=some o->h2.get? a=some o)->φ h2
def HOk(H:Hp)(h:Heap):Prop:=∀ a o,H a=some o->zI P w H h a o
end
section
variable{P:Program}{w:World}{H H':Hp}{h h':Heap}{a:Addr}{o:HO}
theorem zI.lt(x:zI P w H h a o):a<h.objs.size:=by
 cases o with
 | lst xs=>obtain⟨_,_,_,_,e⟩:=x;exact YaX e
 | tup xs=>obtain⟨_,_,_,p⟩:=x;exact p.lt
 | dK kvs=>obtain⟨_,_,_,_,o,_,_,e,_⟩:=x;exact YaX e
 | dT kvs=>obtain⟨_,_,_,_,o,_,_,e,_⟩:=x;exact YaX e
 | set S n=>obtain⟨o,_,_,_,e,_⟩:=x;exact YaX e
 | ins C dx fs=>obtain⟨_,_,_,e,_⟩:=x;exact YaX e
 | own y=>obtain⟨_,e⟩:=x;exact YaX e
 | xd fs=>obtain⟨_,⟨_,_,_,e,_⟩,_⟩:=x;exact YaX e
 | rng lo hi=>obtain⟨_,_,_,e⟩:=x;exact YaX e
 | frz ob u=>obtain⟨e,_⟩:=x;exact YaX e
 | tbl ps=>exact YaX (show h.get? a=some _ from x)
 | met f y=>exact YaX (show h.get? a=some _ from x)
 | ext φ=>obtain⟨_,⟨_,e⟩,_⟩:=x;exact YaX e
theorem Paired.mapP{α β : Type}{F G:α->β->Prop}:∀ {l₁ : List α} {l₂ : List β},Paired F l₁ l₂->(∀ a b,F a b->G a b)->Paired G l₁ l₂
 | _,_,.nil,_=>.nil
 | _,_,.cons r t,f=>.cons (f _ _ r) (Paired.mapP t f)
theorem zI.stay(x:zI P w H h a o)(k:∀ b u,(b=a\/H b=some (.own a))->h.get? b=some u->h'.get? b=some u)
 (ho:∀ b,H b=some (.own a)->H' b=some (.own a)) (ht:∀ b xs,H b=some (.tup xs)->H' b=some (.tup xs)):zI P w H' h' a o:=by
 induction o with
 | lst xs=>obtain⟨z,its,n,r,e⟩:=x;exact⟨z,its,n,r,k _ _ (.inl rfl) e⟩
 | tup xs=>obtain⟨z,its,r,ob,e,c⟩:=x;exact⟨z,its,r,ob,k _ _ (.inl rfl) e,c⟩
 | dK kvs=>obtain⟨z,y,vs,r,ob,es,ep,e,c⟩:=x;exact⟨z,y,vs,r,ob,es,ep,k _ _ (.inl rfl) e,c⟩
 | dT kvs=>
  obtain⟨z,y,xs,r,ob,es,ep,e,c⟩:=x;exact⟨z,y,xs,Paired.mapP r fun p q z=>⟨z.1,ht _ _ z.2.1,z.2.2⟩,ob,es,ep,k _ _ (.inl rfl) e,c⟩
 | set S n=>obtain⟨ob,es,ep,t,e,c⟩:=x;exact⟨ob,es,ep,t,k _ _ (.inl rfl) e,c⟩
 | ins C dx fs=>
  obtain⟨d,z,ne,e,mA,⟨od,es,ep,e2,c⟩,r⟩:=x;exact⟨ho _ d,z,ne,k _ _ (.inl rfl) e,mA,⟨od,es,ep,k _ _ (.inr d) e2,c⟩,r⟩
 | own y=>obtain⟨ob,e⟩:=x;exact⟨ob,k _ _ (.inl rfl) e⟩
 | xd fs=>obtain⟨mA,⟨od,es,ep,e,c⟩,r⟩:=x;exact⟨mA,⟨od,es,ep,k _ _ (.inl rfl) e,c⟩,r⟩
 | rng lo hi=>obtain⟨t,u,v,e⟩:=x;exact⟨t,u,v,k _ _ (.inl rfl) e⟩
 | frz ob u ih=>obtain⟨e,q⟩:=x;exact⟨k _ _ (.inl rfl) e,ih q⟩
 | tbl ps=>
  have e:h.get? a=some { cls:=.none,data:=.fields ps }:=x;show h'.get? a=some { cls:=.none,data:=.fields ps };exact k a _ (.inl rfl) e
 | met f y=>
  have e:h.get? a=some (PySem.W.methodObj (.ref f) (.ref y)):=x;show h'.get? a=some (PySem.W.methodObj (.ref f) (.ref y));exact k a _ (.inl rfl) e
 | ext φ=>obtain⟨p,⟨o,e⟩,st⟩:=x;exact⟨st _ _ p fun o q=>k _ _ (.inl rfl) q,⟨o,k _ _ (.inl rfl) e⟩,st⟩
theorem HOk.lt(x:HOk P w H h)(e:H a=some o):a<h.objs.size:=(x a o e).lt
theorem HOk.fresh(x:HOk P w H h)(e:h.objs.size<=a):H a=none:=by
 cases q:H a with
 | none=>rfl
 | some u=>exact absurd (YaU (x.lt q) e) (Yap _)
theorem HOk.kept(x:HOk P w H h)(k:∀ b u,h.get? b=some u->h'.get? b=some u):HOk P w H h':=fun a o e=>
 (x a o e).stay (fun b u _ q=>k b u q) (fun _ q=>q) fun _ _ q=>q
theorem HOk.laid(x:HOk P w H h)(k:∀ b u,h.get? b=some u->h'.get? b=some u)(hp:h.objs.size<=a)(new:zI P w (upd H a o) h' a o):HOk P w (upd H a o) h':=fun b u e=>by
 have hn:=x.fresh hp
 by_cases hb:b=a
 . subst hb;rw [zf] at e;cases e;exact new
 . rw [zc hb] at e
   exact(x b u e).stay (fun c v _ q=>k c v q) (fun c q=>by rw [zc (je q hn)];exact q) fun c xs q=>by rw [zc (je q hn)];exact q
end
def Rd(H:Hp)(a:Addr)(u:HO):Prop:=H a=some u\/∃ o,H a=some (.frz o u)
theorem Rd.of{H:Hp}{a:Addr}{u:HO}(h:H a=some u):Rd H a u:=.inl h
theorem Rd.ok{P:Program}{w:World}{H:Hp}{h:Heap}{a:Addr}{u:HO}(r:Rd H a u)(x:HOk P w H h):zI P w H h a u:=by
 rcases r with r|⟨o,r⟩
 . exact x a u r
 . obtain⟨_,q⟩:=x a _ r
   exact q
def Mut:Option HO->Prop
 | some (.lst _)=>True
 | some (.dK _)=>True
 | some (.dT _)=>True
 | some (.set _ _)=>True
 | some (.ins _ _ _)=>True
 | some (.ext _)=>True
 | _=>False
section
variable{P:Program}{w:World}{H:Hp}{h h':Heap}{x e:Addr}{o':HO}
theorem HOk.write(ok:HOk P w H h)(mu:Mut (H x))(he:e=x\/H e=some (.own x))(k:∀ b u,b≠e->h.get? b=some u->h'.get? b=some u)(heo:∃ u,h'.get? e=some u)
 (new:zI P w (upd H x o') h' x o'):HOk P w (upd H x o') h':=fun b u q=>by
 have nown:∀ c y,H c=some (.own y)->c≠x:=fun c y r z=>by subst z;rw [r] at mu;exact mu
 have ntup:∀ c xs,H c=some (.tup xs)->c≠x:=fun c xs r z=>by subst z;rw [r] at mu;exact mu
 by_cases hb:b=x
 . subst hb;rw [zf] at q;cases q;exact new
 . rw [zc hb] at q
   by_cases hbe:b=e
   . have q':H b=some (.own x):=by
      rcases he with z|z
      . exact absurd (hbe.trans z) hb
      . rw [hbe];exact z
     rw [q] at q';cases q';obtain⟨v,hv⟩:=heo;exact⟨v,by rw [hbe];exact hv⟩
   . refine(ok b u q).stay (fun c v hc r=>k c v ?_ r) (fun c r=>by rw [zc (nown c b r)];exact r) fun c xs r=>by rw [zc (ntup c xs r)];exact r
     rcases hc with rfl|hc
     . exact hbe
     . rintro rfl
       rcases he with z|z
       . exact nown c b hc z
       . rw [hc] at z;cases z;exact hb rfl
end
structure Un(fs ex:List Addr)(H H':Hp)(h h':Heap):Prop where
 keep:∀ b o,h.get? b=some o->H b=none->b∉fs->b∉ex->h'.get? b=some o
 slot:∀ b o,h.get? b=some o->H b=none->b∈fs->b∉ex->∃ sl,h'.get? b=some { o with slots:=sl }
 free:∀ b o,h.get? b=some o->H b=none->b∉ex->H' b=none
 there:∀ b o,h.get? b=some o->b∉ex->∃ o',h'.get? b=some o'
 tups:∀ b xs,H b=some (.tup xs)->H' b=some (.tup xs)
 frzs:∀ b o u,H b=some (.frz o u)->H' b=some (.frz o u)
 tbls:∀ b ps,H b=some (.tbl ps)->∃ more,H' b=some (.tbl (ps++more))
section
variable{fs fs' ex ex':List Addr}{H H1 H2:Hp}{h h1 h2 h':Heap}{a x e:Addr}{o:HO}
theorem Un.any(u:Un fs ex H H1 h h1){b:Addr}{ob:Obj}(q:h.get? b=some ob)(n:H b=none)(hx:b∉ex):∃ sl,h1.get? b=some { ob with slots:=sl }:=by
 by_cases hb:b∈fs
 . exact u.slot b ob q n hb hx
 . exact⟨ob.slots,u.keep b ob q n hb hx⟩
theorem Un.trans(a:Un fs ex H H1 h h1)(b:Un fs ex H1 H2 h1 h2):Un fs ex H H2 h h2 where
 keep:=fun c ob q n hc hx=>b.keep c ob (a.keep c ob q n hc hx) (a.free c ob q n hx) hc hx
 slot:=fun c ob q n hc hx=>by
  obtain⟨sl,e1⟩:=a.slot c ob q n hc hx;obtain⟨sl',e2⟩:=b.slot c _ e1 (a.free c ob q n hx) hc hx;exact⟨sl',e2⟩
 free:=fun c ob q n hx=>by
  obtain⟨o',e1⟩:=a.there c ob q hx;exact b.free c o' e1 (a.free c ob q n hx) hx
 there:=fun c ob q hx=>by
  obtain⟨o',e1⟩:=a.there c ob q hx;exact b.there c o' e1 hx
 tups:=fun c xs q=>b.tups c xs (a.tups c xs q)
 frzs:=fun c ob xs q=>b.frzs c ob xs (a.frzs c ob xs q)
 tbls:=fun c ps q=>by
  obtain⟨m1,e1⟩:=a.tbls c ps q;obtain⟨m2,e2⟩:=b.tbls c _ e1;exact⟨m1++m2,by rw [e2,Array.append_assoc]⟩
theorem Un.kept(k:∀ b u,h.get? b=some u->h'.get? b=some u):Un fs ex H H h h':=
 ⟨fun b ob q _ _ _=>k b ob q,fun b ob q _ _ _=>⟨ob.slots,k b ob q⟩,fun _ _ _ n _=>n,fun b ob q _=>⟨ob,k b ob q⟩,fun _ _ q=>q,fun _ _ _ q=>q,fun _ ps q=>⟨#[],by rw [q];simp⟩⟩
theorem Un.refl:Un fs ex H H h h:=Un.kept fun _ _ q=>q
theorem Un.laid(k:∀ b u,h.get? b=some u->h'.get? b=some u)(hp:h.objs.size<=a)(hn:H a=none):Un fs ex H (upd H a o) h h' where
 keep:=fun b u q _ _ _=>k b u q
 slot:=fun b u q _ _ _=>⟨u.slots,k b u q⟩
 free:=fun b u q n _=>by rw [zc (Yaf (YaU (YaX q) hp))];exact n
 there:=fun b u q _=>⟨u,k b u q⟩
 tups:=fun b xs q=>by rw [zc (je q hn)];exact q
 frzs:=fun b u xs q=>by rw [zc (je q hn)];exact q
 tbls:=fun b ps q=>⟨#[],by rw [zc (je q hn),q];simp⟩
theorem Un.write(mu:Mut (H x))(he:e=x\/H e=some (.own x))(k:∀ b u,b≠e->h.get? b=some u->h'.get? b=some u)(heo:∃ u,h'.get? e=some u):Un fs ex H (upd H x o) h h':=by
 have hx:∀ b,H b=none->b≠x:=fun b n z=>by subst z;rw [n] at mu;exact mu
 have hb:∀ b,H b=none->b≠e:=fun b n z=>by
  subst z
  rcases he with r|r
  . exact hx b n r
  . rw [n] at r;cases r
 have hm:∀ b u,H b=some u->¬Mut (some u)->b≠x:=fun b u q nm z=>by subst z;rw [q] at mu;exact nm mu
 refine⟨fun b u q n _ _=>k b u (hb b n) q,fun b u q n _ _=>⟨u.slots,k b u (hb b n) q⟩,fun b u q n _=>by rw [zc (hx b n)];exact n,fun b u q _=>?_,
  fun b xs q=>by rw [zc (hm b _ q fun z=>z)];exact q,fun b u xs q=>by rw [zc (hm b _ q fun z=>z)];exact q,fun b ps q=>⟨#[],by rw [zc (hm b _ q fun z=>z),q];simp⟩⟩
 by_cases hbe:b=e
 . subst hbe;exact heo
 . exact⟨u,k b u hbe q⟩
theorem Un.mono(u:Un fs ex H H1 h h1)(hs:∀ b∈fs,b∈fs')(hx:∀ b∈ex,b∈ex'):Un fs' ex' H H1 h h1:=
 ⟨fun b ob q n hb he=>u.keep b ob q n (fun z=>hb (hs b z)) fun z=>he (hx b z),fun _ _ q n _ he=>u.any q n fun z=>he (hx _ z),fun b ob q n he=>u.free b ob q n fun z=>he (hx b z),fun b ob q he=>u.there b ob q fun z=>he (hx b z),u.tups,u.frzs,u.tbls⟩
end
def trk(h:Heap)(H:Hp):List Addr:=(List.range h.objs.size).filter fun a=>(H a).isSome
def hidT(h:Heap)(H:Hp):Heap:=PySem.W.hideAll h (trk h H)
theorem zk8(h:Heap)(H:Hp):(hidT h H).objs.size=h.objs.size:=PySem.W.hideAll_size _ _
theorem zk3{h:Heap}{H:Hp}{b:Addr}{o:Obj}(e:h.get? b=some o)(n:H b=none):(hidT h H).get? b=some o:=
 PySem.W.hideAll_get _ e fun hm=>by
  have q:(H b).isSome=true:=(Ya9.mp hm).2;rw [n] at q;simp at q
theorem ziQ{h:Heap}{H:Hp}{b:Addr}{o:Obj}(e:(hidT h H).get? b=some o):h.get? b=some o/\H b=none:=by
 have e':h.get? b=some o:=PySem.W.of_hideAll (trk h H) e;refine⟨e',?_⟩;cases q:H b with
 | none=>rfl
 | some x=>
  have hm:b∈trk h H:=Ya9.mpr ⟨Yba.mpr (YaX e'),by simp [q]⟩
  have z:(hidT h H).get? b=none:=PySem.W.hideAll_none (trk h H) hm;rw [z] at e;cases e
def zjQ(g h:Heap)(L:Addr):List #[17]:=(List.range h.objs.size).filterMap fun a=>if a=L\/(g.get? a).isSome=true then none else(h.get? a).map fun o=>(a,o)
def rest(g h:Heap)(L d:Addr):List #[17]:=(zjQ g h L).filter fun p=>decide (p.1≠d)
structure Mod(K:Ybf)(mg:#[15])(base:Heap):Prop where
 kin:K.In base
 glob:base.Ns mainGlobals mg
 blt:∃ mb,base.Ns builtinsNs mb/\∀ x:Str,x≠"__name__"->mb x=bootBuiltins x
 nolimit:base.NoLimit
structure Cx where
 prog:Program
 w:World
 K:Ybf
 mg:Str->Option Value
 base:Heap
 A:Around
 N:List Str
 s₀ : Shared
 H₀ : Hp
 env:Env
 outer:List Env
 stack:List Env
 ex:List Addr
 fn:Str->Bool
 calm:Bool
 pn:List #[17]
 xe:Value->Shared->Prop
def frs(l:List Env):List Addr:=l.filterMap (·.frame)
abbrev Cx.fs(X:Cx):List Addr:=frs X.outer
def Vis(sc:Scope)(x:Str):Prop:=sc.names.lookup x=some .local\/sc.names.lookup x=some .cell\/sc.names.lookup x=some .free
def Loc(sc:Scope)(x:Str):Prop:=sc.names.lookup x=some .local\/sc.names.lookup x=some .cell
def Look(env:Env)(h:Heap)(m:#[15])(x:Str)(u:Value):Prop:=
 (env.kindOf x=some .local/\m x=some u)\/((env.kindOf x=some .cell\/env.kindOf x=some .free)/\∃ c,env.cells.lookup x=some c/\h.IsCell c (some u))
structure Cx.Ok(X:Cx):Prop where
 mod:Mod X.K X.mg X.base
 kind:X.env.scope.kind=.function
 glob:X.env.globals=mainGlobals
 blt:X.env.builtins=builtinsNs
 above:X.s₀.heap.objs.size<=X.env.locals
 inj:∀ x y c,X.env.cells.lookup x=some c->X.env.cells.lookup y=some c->x=y
 has:∀ x,(X.env.kindOf x=some .cell\/X.env.kindOf x=some .free)->∃ c,X.env.cells.lookup x=some c
 cab:∀ x c,X.fn x=true->X.env.cells.lookup x=some c->X.s₀.heap.objs.size<=c
 hd:X.calm=true->X.A.handled=none
 frames:X.A.frames=some X.stack
 stk:X.stack=X.outer\/(X.stack=X.env::X.outer/\X.env.frame=some X.env.locals)
 exf:∀ b∈X.ex,b≠X.env.locals/\∀ x c,X.env.cells.lookup x=some c->c≠b
 bs:∀ b o,X.base.get? b=some o->X.s₀.heap.get? b=some o/\X.H₀ b=none
 bsz:X.base.objs.size<=X.s₀.heap.objs.size
 noex:∀ b o,X.base.get? b=some o->b∉X.ex
 exfs:∀ b∈X.ex,b∉X.fs
 funs:X.s₀.heap.FunFrames X.base X.outer
 frf:∀ b∈X.fs,X.H₀ b=none
structure Inv(X:Cx)(pins:List #[17])(σ : List (Option V))(H:Hp)(s:Shared):Prop where
 ok:X.Ok
 os:s.os=X.s₀.os
 bare:AllBare s.gens
 base:Un X.fs X.ex X.H₀ H X.s₀.heap s.heap
 loc:∃ m,s.heap.Ns X.env.locals m/\∀ (i:Nat) (x:Str) (v:V),X.N[i]?=some x->σ[i]?=some (some v)->Vis X.env.scope x->∃ u,RelV v u/\Look X.env s.heap m x u
 cell:∀ x c,X.env.cells.lookup x=some c->∃ v,s.heap.IsCell c v
 free:H X.env.locals=none
 freeC:∀ x c,X.env.cells.lookup x=some c->H c=none
 pin:∀ p∈X.pn++pins,s.heap.get? p.1=some p.2/\H p.1=none/\p.1≠X.env.locals/\p.1∉X.fs/\∀ v,p.2.data≠.cell v
 hok:HOk X.prog X.w H s.heap
 len:σ.length=X.N.length
section
variable{X:Cx}{pins:List #[17]}{σ : List (Option V)}{H H':Hp}{s:Shared}{h':Heap}
theorem Cx.Ok.nofr(ok:X.Ok){b:Addr}{o:Obj}(e:X.base.get? b=some o):b∉X.fs:=fun hb=>by
 have:=(ok.funs.mem hb).1;rw [e] at this;cases this
theorem Inv.bs(I:#[11]):∀ b o,X.base.get? b=some o->s.heap.get? b=some o/\H b=none:=fun b o e=>
 ⟨I.base.keep b o (I.ok.bs b o e).1 (I.ok.bs b o e).2 (I.ok.nofr e) (I.ok.noex b o e),I.base.free b o (I.ok.bs b o e).1 (I.ok.bs b o e).2 (I.ok.noex b o e)⟩
theorem Inv.bk(I:#[11]):∀ b o,X.base.get? b=some o->s.heap.get? b=some o:=fun b o e=>(I.bs b o e).1
theorem Inv.mod(I:#[11]):Mod X.K X.mg X.base:=I.ok.mod
theorem Inv.kIn(I:#[11]):X.K.In s.heap:=I.ok.mod.kin.keeps I.bk
theorem Inv.nolimit(I:#[11]):s.heap.NoLimit:=I.ok.mod.nolimit.keeps I.bk
theorem Inv.fr(I:#[11]):∃ m,Fr X.base X.env.locals s.heap m:=
 let ⟨m,hn,_⟩:=I.loc
 ⟨m,hn,I.bk,Ya5 I.ok.bsz I.ok.above⟩
theorem Inv.lt(I:#[11]):X.env.locals<s.heap.objs.size:=let ⟨_,hn,_⟩:=I.loc;hn.lt
theorem Inv.sz(I:#[11]):X.s₀.heap.objs.size<=s.heap.objs.size:=Ya5 I.ok.above (Wbc I.lt)
theorem Inv.nofs(I:#[11]){a:Addr}(h:s.heap.objs.size<=a):a∉X.fs:=fun hb=>by
 obtain⟨_,o,ho,_⟩:=I.ok.funs.mem hb;exact absurd (YaU (YaX ho) (Ya5 I.sz h)) (Yap _)
theorem Inv.cne(I:#[11]):∀ x c,X.env.cells.lookup x=some c->c≠X.env.locals:=fun x c e z=>by
 obtain⟨v,o,ho,hd⟩:=I.cell x c e;obtain⟨m,⟨o',es,ep,ho',hd',_⟩,_⟩:=I.loc;rw [z,ho'] at ho;cases ho;rw [hd'] at hd;cases hd
theorem Inv.funs(I:#[11]):s.heap.FunFrames X.base X.outer:=by
 have all:∀ (l:List Env),(∀ b∈frs l,b∈X.fs)->X.s₀.heap.FunFrames X.base l->s.heap.FunFrames X.base l:=by
  intro l
  induction l with
  | nil=>intro _ _;trivial
  | cons env r ih=>
   intro hs hl;obtain⟨hk,⟨L,o,hf,hn,ho,hd⟩,hr⟩:=hl;have hL:L∈X.fs:=hs L (by unfold frs;rw [List.filterMap_cons,hf];exact YaV)
   obtain⟨sl,e⟩:=I.base.slot L o ho (I.ok.frf L hL) hL fun z=>I.ok.exfs L z hL
   exact⟨hk,⟨L,_,hf,hn,e,hd⟩,ih (fun b hb=>hs b (by unfold frs;rw [List.filterMap_cons,hf];exact YaT _ hb)) hr⟩
 exact all X.outer (fun _ hb=>hb) I.ok.funs
theorem Inv.stack(I:#[11]):s.heap.FunFrames X.base X.stack:=by
 rcases I.ok.stk with e|⟨e,hf⟩
 . rw [e];exact I.funs
 . rw [e]
   obtain⟨m,hn,_⟩:=I.loc;refine .cons (by rw [I.ok.kind];decide) hf hn ?_ I.funs
   exact Heap.get?_none_of_le (Ya5 I.ok.bsz I.ok.above)
theorem Inv.stkSub(I:#[11]):∀ b∈frs X.stack,b∈X.env.locals::X.fs:=fun b hb=>by
 rcases I.ok.stk with e|⟨e,hf⟩
 . rw [e] at hb;exact YaT _ hb
 . rw [e] at hb
   unfold frs at hb;rw [List.filterMap_cons,hf] at hb;exact hb
theorem Inv.stkFree(I:#[11]):∀ b∈frs X.stack,H b=none:=fun b hb=>by
 rcases Wa4.mp (I.stkSub b hb) with e|hb
 . rw [e];exact I.free
 . obtain⟨_,o,ho,_⟩:=I.ok.funs.mem hb
   exact I.base.free b o ho (I.ok.frf b hb) fun z=>I.ok.exfs b z hb
theorem Inv.step{g':Array GenState}{t':Nat}{d':Drawn}{ch:List Addr}(I:#[11])
 (hch:∀ b∈ch,(b∈X.ex\/X.s₀.heap.objs.size<=b)/\b≠X.env.locals/\(∀ x c,X.env.cells.lookup x=some c->c≠b)/\∀ p∈X.pn++pins,p.1≠b)
 (keep:∀ b o,b≠X.env.locals->b∉X.fs->b∉ch->s.heap.get? b=some o->H b=none->h'.get? b=some o)
 (slot:∀ b o,b≠X.env.locals->b∈X.fs->b∉ch->s.heap.get? b=some o->H b=none->∃ sl,h'.get? b=some { o with slots:=sl }) (free:∀ b o,b∉ch->s.heap.get? b=some o->H b=none->H' b=none)
 (there:∀ b o,b∉ch->s.heap.get? b=some o->∃ o',h'.get? b=some o')
 (tups:∀ b xs,H b=some (.tup xs)->H' b=some (.tup xs)) (frzs:∀ b o u,H b=some (.frz o u)->H' b=some (.frz o u)) (tbls:∀ b ps,H b=some (.tbl ps)->∃ more,H' b=some (.tbl (ps++more)))
 (ns:∀ m,s.heap.Ns X.env.locals m->h'.Ns X.env.locals m) (hok:HOk X.prog X.w H' h') (hg:AllBare g') :
 Inv X pins σ H' { s with heap:=h',gens:=g',drawn:=d',toks:=t' }:=by
 have neL:∀ b o,X.s₀.heap.get? b=some o->b≠X.env.locals:=fun b o e=>Yaf (YaU (YaX e) I.ok.above)
 have neC:∀ b o,X.s₀.heap.get? b=some o->b∉X.ex->b∉ch:=fun b o e hx hb=>by
  rcases(hch b hb).1 with z|z
  . exact hx z
  . exact absurd (YaU (YaX e) z) (Yap _)
 have cellK:∀ x c,X.env.cells.lookup x=some c->∀ v,s.heap.IsCell c v->h'.IsCell c v:=fun x c e v ⟨o,ho,hd⟩=>by
  have nch:c∉ch:=fun z=>(hch c z).2.2.1 x c e rfl
  by_cases hc:c∈X.fs
  . obtain⟨sl,q⟩:=slot c o (I.cne x c e) hc nch ho (I.freeC x c e)
    exact⟨_,q,hd⟩
  . exact⟨o,keep c o (I.cne x c e) hc nch ho (I.freeC x c e),hd⟩
 refine⟨I.ok,I.os,hg,⟨fun b o e n hb hx=>?_,fun b o e n hb hx=>?_,fun b o e n hx=>?_,fun b o e hx=>?_,fun b xs e=>tups b xs (I.base.tups b xs e),fun b o xs e=>frzs b o xs (I.base.frzs b o xs e),fun b ps e=>?_⟩,?_,fun x c e=>?_,?_,fun x c e=>?_,fun p hp=>?_,hok,I.len⟩
 . exact keep b o (neL b o e) hb (neC b o e hx) (I.base.keep b o e n hb hx) (I.base.free b o e n hx)
 . obtain⟨sl,e1⟩:=I.base.slot b o e n hb hx
   obtain⟨sl',e2⟩:=slot b _ (neL b o e) hb (neC b o e hx) e1 (I.base.free b o e n hx);exact⟨sl',e2⟩
 . obtain⟨o',e1⟩:=I.base.there b o e hx
   exact free b o' (neC b o e hx) e1 (I.base.free b o e n hx)
 . obtain⟨o',e1⟩:=I.base.there b o e hx
   exact there b o' (neC b o e hx) e1
 . obtain⟨m1,e1⟩:=I.base.tbls b ps e
   obtain⟨m2,e2⟩:=tbls b _ e1;exact⟨m1++m2,by rw [e2,Array.append_assoc]⟩
 . obtain⟨m,hn,hl⟩:=I.loc
   refine⟨m,ns m hn,fun i x v e1 e2 e3=>?_⟩
   obtain⟨u,r,l⟩:=hl i x v e1 e2 e3;refine⟨u,r,?_⟩
   rcases l with l|⟨k,c,e,z⟩
   . exact .inl l
   . exact .inr ⟨k,c,e,cellK x c e _ z⟩
 . obtain⟨v,z⟩:=I.cell x c e
   exact⟨v,cellK x c e v z⟩
 . obtain⟨m,⟨o,_,_,ho,_⟩,_⟩:=I.loc
   exact free _ o (fun z=>(hch _ z).2.1 rfl) ho I.free
 . obtain⟨v,o,ho,hd⟩:=I.cell x c e
   exact free c o (fun z=>(hch c z).2.2.1 x c e rfl) ho (I.freeC x c e)
 . obtain⟨e,n,ne,nf,d⟩:=I.pin p hp
   have nch:p.1∉ch:=fun z=>(hch p.1 z).2.2.2 p hp rfl
   exact⟨keep p.1 p.2 ne nf nch e n,free p.1 p.2 nch e n,ne,nf,d⟩
theorem Inv.un{t':Nat}(I:#[11])(u:Un X.fs [] H H' s.heap h')(hok:HOk X.prog X.w H' h'):Inv X pins σ H' { s with heap:=h',toks:=t' }:=by
 obtain⟨m,⟨o,es,ep,ho,r⟩,_⟩:=id I.loc;obtain⟨sl,hL⟩:=u.any ho I.free (by simp)
 exact I.step (g':=s.gens) (d':=s.drawn) (ch:=[]) (fun _ z=>nomatch z) (fun b o _ hb _ e n=>u.keep b o e n hb (by simp)) (fun b o _ hb _ e n=>u.slot b o e n hb (by simp)) (fun b o _ e n=>u.free b o e n (by simp)) (fun b o _ e=>u.there b o e (by simp)) u.tups u.frzs u.tbls (fun m' hm=>by
  obtain⟨o',es',ep',ho',r'⟩:=hm;rw [ho] at ho';cases ho';exact⟨_,es',ep',hL,r'⟩) hok I.bare
theorem Inv.call{g':Array GenState}{t':Nat}{d':Drawn}{ch:List Addr}(I:#[11])(u:Un (frs X.stack) ch H H' s.heap h')(hok:HOk X.prog X.w H' h')(hg:AllBare g')
 (hch:∀ b∈ch,(b∈X.ex\/X.s₀.heap.objs.size<=b)/\b≠X.env.locals/\(∀ x c,X.env.cells.lookup x=some c->c≠b)/\∀ p∈X.pn++pins,p.1≠b) :
 Inv X pins σ H' { s with heap:=h',gens:=g',drawn:=d',toks:=t' }:=by
 obtain⟨m,⟨o,es,ep,ho,r⟩,_⟩:=id I.loc;obtain⟨sl,hL⟩:=u.any ho I.free fun z=>(hch _ z).2.1 rfl
 exact I.step (ch:=ch) hch (fun b o hL hb hc e n=>u.keep b o e n (fun z=>(Wa4.mp (I.stkSub b z)).elim hL hb) hc) (fun b o _ _ hc e n=>u.any e n hc) (fun b o hc e n=>u.free b o e n hc) (fun b o hc e=>u.there b o e hc) u.tups u.frzs u.tbls (fun m' hm=>by
  obtain⟨o',es',ep',ho',r'⟩:=hm;rw [ho] at ho';cases ho';exact⟨_,es',ep',hL,r'⟩) hok hg
theorem Inv.turned{t':Nat}{it:Addr}(I:#[11])(k:∀ b o,b≠it->s.heap.get? b=some o->h'.get? b=some o)(hn:H it=none)(hL:it≠X.env.locals)
 (h1:it∈X.ex\/X.s₀.heap.objs.size<=it) (h2:∀ x c,X.env.cells.lookup x=some c->c≠it) (h3:∀ p∈X.pn++pins,p.1≠it):Inv X pins σ H { s with heap:=h',toks:=t' }:=by
 have nit:∀ b u,H b=some u->b≠it:=fun b u e z=>by rw [z,hn] at e;cases e
 refine I.step (g':=s.gens) (d':=s.drawn) (ch:=[it]) (fun b hb=>?_) (fun b o _ _ hc e _=>k b o (fun z=>hc (by simp [z])) e) (fun b o _ _ hc e _=>⟨o.slots,k b o (fun z=>hc (by simp [z])) e⟩) (fun _ _ _ _ n=>n)
  (fun b o hc e=>⟨o,k b o (fun z=>hc (by simp [z])) e⟩) (fun _ _ e=>e) (fun _ _ _ e=>e) (fun b ps e=>⟨#[],by rw [e];simp⟩) (fun m hm=>?_) (fun b u e=>?_) I.bare
 . have e:b=it:=by simpa using hb
   subst e;exact⟨h1,hL,h2,h3⟩
 . obtain⟨o,es,ep,ho,r⟩:=hm
   exact⟨o,es,ep,k _ o (Wbo hL) ho,r⟩
 . refine(I.hok b u e).stay (fun c v hc q=>k c v ?_ q) (fun _ q=>q) fun _ _ q=>q
   rcases hc with z|z
   . rw [z];exact nit b u e
   . exact nit c _ z
theorem Inv.tok(I:#[11])(t:Nat):Inv X pins σ H { s with toks:=t }:=I.un (h':=s.heap) (t':=t) Un.refl I.hok
theorem Inv.kept{t':Nat}(I:#[11])(k:∀ b u,s.heap.get? b=some u->h'.get? b=some u):Inv X pins σ H { s with heap:=h',toks:=t' }:=I.un (Un.kept k) (I.hok.kept k)
theorem Inv.laid{a:Addr}{o:HO}{t':Nat}(I:#[11])(k:∀ b u,s.heap.get? b=some u->h'.get? b=some u)(hp:s.heap.objs.size<=a)(new:zI X.prog X.w (upd H a o) h' a o) :
 Inv X pins σ (upd H a o) { s with heap:=h',toks:=t' }:=I.un (Un.laid k hp (I.hok.fresh hp)) (I.hok.laid k hp new)
theorem Inv.write{x e:Addr}{o:HO}{t':Nat}(I:#[11])(mu:Mut (H x))(he:e=x\/H e=some (.own x))(k:∀ b u,b≠e->s.heap.get? b=some u->h'.get? b=some u)(heo:∃ u,h'.get? e=some u)
 (new:zI X.prog X.w (upd H x o) h' x o):Inv X pins σ (upd H x o) { s with heap:=h',toks:=t' }:=I.un (Un.write mu he k heo) (I.hok.write mu he k heo new)
theorem Inv.pins_of{pins':List #[17]}(I:#[11])(h:∀ p∈pins',s.heap.get? p.1=some p.2/\H p.1=none/\p.1≠X.env.locals/\p.1∉X.fs/\∀ v,p.2.data≠.cell v):Inv X pins' σ H s:=
 ⟨I.ok,I.os,I.bare,I.base,I.loc,I.cell,I.free,I.freeC,fun p hp=>(Ya3.mp hp).elim (fun z=>I.pin p (Yai _ z)) (h p),I.hok,I.len⟩
theorem zey{N:List Str}(hN:N.Nodup){i j:Nat}{x:Str}(a:N[i]?=some x)(b:N[j]?=some x):i=j:=by
 obtain⟨h1,e1⟩:=Ya8.mp a;obtain⟨h2,e2⟩:=Ya8.mp b;exact(WaL hN).mp (e1.trans e2.symm)
theorem zd9{M:Model}{A:Around}{E:#[13]}{i:Nat}{x:Str}{v:V}{u:Value}{Q:Unit->Shared->Prop}(I:#[11])(hN:X.N.Nodup)(hi:X.N[i]?=some x)(hx:Loc X.env.scope x)(r:RelV v u)
 (h:∀ s',Inv X pins (σ.set i (some v)) H s'->(∃ a,Heap.SameBut a s.heap s'.heap/\(a=X.env.locals\/X.env.cells.lookup x=some a))->Q () s') (hf:#[19]:=by first|exact .inl rfl|exact .inr rfl|assumption):wpAny M A (storeName X.env x u) Q E s:=by
 obtain⟨m,hn,hl⟩:=id I.loc;have hcls:(X.env.scope.kind==.class||(X.env.scope.kind==.module&&X.env.locals != X.env.globals))=false:=by rw [I.ok.kind];rfl
 have hiσ : i < σ.length:=by rw [I.len];exact(Ya8.mp hi).1
 have cne:=I.cne;have tracked:∀ {a:Addr} {h':Heap},(∃ o,s.heap.get? a=some o/\H a=none)->Heap.SameBut a s.heap h'->HOk X.prog X.w H h':=fun {a h'} ha hs b ob e=>by
  obtain⟨_,_,hfree⟩:=ha;refine(I.hok b ob e).stay (fun c w' hc q=>(hs.2 c ?_).trans q) (fun _ q=>q) fun _ _ q=>q
  rintro rfl
  rcases hc with rfl|hc
  . rw [hfree] at e;cases e
  . rw [hfree] at hc;cases hc
 rcases hx with hk|hk
 . refine wpAny_storeName_local hk hn (fun h' hn' hs=>?_) hcls
   obtain⟨oL,_,_,hoL,_⟩:=id hn;refine h _ ⟨I.ok,I.os,I.bare,⟨fun b o e n hb hx=>?_,fun b o e n hb hx=>?_,I.base.free,fun b o e hx=>?_,I.base.tups,I.base.frzs,I.base.tbls⟩,⟨_,hn',fun j y v' e1 e2 e3=>?_⟩,fun y c e=>?_,I.free,I.freeC,fun p hp=>?_,tracked ⟨oL,hoL,I.free⟩ hs,by simpa using I.len⟩ ⟨_,hs,.inl rfl⟩
   . exact(hs.2 b (Yaf (YaU (YaX e) I.ok.above))).trans (I.base.keep b o e n hb hx)
   . obtain⟨sl,e1⟩:=I.base.slot b o e n hb hx
     exact⟨sl,(hs.2 b (Yaf (YaU (YaX e) I.ok.above))).trans e1⟩
   . obtain⟨o',e1⟩:=I.base.there b o e hx
     exact⟨o',(hs.2 b (Yaf (YaU (YaX e) I.ok.above))).trans e1⟩
   . by_cases hj:j=i
     . subst hj
       rw [hi] at e1;cases e1;rw [Yas hiσ] at e2;cases e2;exact⟨u,r,.inl ⟨hk,by simp⟩⟩
     . rw [Yac (Wbo hj)] at e2
       obtain⟨u',r',q⟩:=hl j y v' e1 e2 e3;refine⟨u',r',?_⟩
       rcases q with ⟨k,e⟩|⟨k,c,e,z⟩
       . refine .inl ⟨k,?_⟩
         have:y≠x:=fun e=>hj (zey hN e1 (e ▸ hi))
         simp [this,e]
       . exact .inr ⟨k,c,e,z.sameBut hs (cne y c e)⟩
   . obtain⟨w',z⟩:=I.cell y c e
     exact⟨w',z.sameBut hs (cne y c e)⟩
   . obtain⟨e,n,ne,nf,d⟩:=I.pin p hp
     exact⟨(hs.2 p.1 ne).trans e,n,ne,nf,d⟩
 . have hfn:X.fn x=true:=by
    rcases hf with z|z
    . exact z
    . rw [z] at hk;cases hk
   obtain⟨c,hc⟩:=I.ok.has x (.inl hk);obtain⟨w',z⟩:=I.cell x c hc;refine wpAny_storeName_cell I.ok.kind hk hc z (fun h' hc' hs=>?_)
   obtain⟨oc,hoc,hocd⟩:=id z;refine h { s with heap:=h' } ⟨I.ok,I.os,I.bare,⟨fun b o e n hb hx=>?_,fun b o e n hb hx=>?_,I.base.free,fun b o e hx=>?_,I.base.tups,I.base.frzs,I.base.tbls⟩,⟨m,hn.sameBut hs (Wbo (cne x c hc)),fun j y v' e1 e2 e3=>?_⟩,fun y c' e=>?_,I.free,I.freeC,fun p hp=>?_,tracked ⟨oc,hoc,I.freeC x c hc⟩ hs,by simpa using I.len⟩ ⟨c,hs,.inr hc⟩
   . exact(hs.2 b (Yaf (YaU (YaX e) (I.ok.cab x c hfn hc)))).trans (I.base.keep b o e n hb hx)
   . obtain⟨sl,e1⟩:=I.base.slot b o e n hb hx
     exact⟨sl,(hs.2 b (Yaf (YaU (YaX e) (I.ok.cab x c hfn hc)))).trans e1⟩
   . obtain⟨o',e1⟩:=I.base.there b o e hx
     exact⟨o',(hs.2 b (Yaf (YaU (YaX e) (I.ok.cab x c hfn hc)))).trans e1⟩
   . by_cases hj:j=i
     . subst hj
       rw [hi] at e1;cases e1;rw [Yas hiσ] at e2;cases e2;exact⟨u,r,.inr ⟨.inl hk,c,hc,hc'⟩⟩
     . rw [Yac (Wbo hj)] at e2
       obtain⟨u',r',q⟩:=hl j y v' e1 e2 e3;refine⟨u',r',?_⟩
       rcases q with q|⟨k,c',e,z'⟩
       . exact .inl q
       . refine .inr ⟨k,c',e,z'.sameBut hs ?_⟩
         rintro rfl
         exact hj (zey hN e1 (I.ok.inj _ _ _ e hc ▸ hi))
   . by_cases hcc:c'=c
     . subst hcc;exact⟨_,hc'⟩
     . obtain⟨w2,z2⟩:=I.cell y c' e
       exact⟨w2,z2.sameBut hs hcc⟩
   . obtain⟨e,n,ne,nf,d⟩:=I.pin p hp
     refine⟨(hs.2 p.1 ?_).trans e,n,ne,nf,d⟩
     intro q;rw [q,hoc] at e;have q':oc=p.2:=WaV e;exact d w' (by rw [<-q'];exact hocd)
theorem zau{M:Model}{A:Around}{E:#[13]}{i:Nat}{x:Str}{v:V}{u:Value}{Q:Unit->Shared->Prop}(I:#[11])(hN:X.N.Nodup)(hi:X.N[i]?=some x)(hx:Loc X.env.scope x)(r:RelV v u)
 (h:∀ s',Inv X pins (σ.set i (some v)) H s'->Q () s') (hf:#[19]:=by first|exact .inl rfl|exact .inr rfl|assumption):wpAny M A (storeName X.env x u) Q E s:=
 zd9 I hN hi hx r (fun s' I' _=>h s' I') hf
theorem Inv.call'{s':Shared}{ch:List Addr}(I:#[11])(ho:s'.os=s.os)(u:Un (frs X.stack) ch H H' s.heap s'.heap)(hok:HOk X.prog X.w H' s'.heap)(hg:AllBare s'.gens)
 (hch:∀ b∈ch,(b∈X.ex\/X.s₀.heap.objs.size<=b)/\b≠X.env.locals/\(∀ x c,X.env.cells.lookup x=some c->c≠b)/\∀ p∈X.pn++pins,p.1≠b):Inv X pins σ H' s':=by
 obtain⟨h',g',d',t',o'⟩:=s';have e:o'=s.os:=ho;subst e;exact I.call (g':=g') (t':=t') (d':=d') u hok hg hch
end
abbrev XK:=Value->Option Addr->Hp->Prop
abbrev St:=List (Option V)
abbrev VK:=V->Hp->Prop
abbrev TE:=St->Hp->VK->Prop
abbrev TT:=St->Hp->(Bool->Hp->Prop)->Prop
abbrev TA:=St->Hp->(List V->Hp->Prop)->Prop
structure Ends where
 nx:St->Hp->Prop
 rt:VK
 bk:St->Hp->Prop:=fun _ _=>False
 ct:St->Hp->Prop:=fun _ _=>False
abbrev TS:=Ends->St->Hp->Prop
def EP(X:Cx)(pins:List #[17])(σ : St)(Q:VK)(u:Value)(s':Shared):Prop:=∃ v H',Inv X pins σ H' s'/\RelV v u/\Q v H'
def TP(X:Cx)(pins:List #[17])(σ : St)(Q:Bool->Hp->Prop)(b:Bool)(s':Shared):Prop:=∃ H',Inv X pins σ H' s'/\Q b H'
def AP(X:Cx)(pins:List #[17])(σ : St)(Q:List V->Hp->Prop)(us:List Value)(s':Shared):Prop:=∃ vs H',Inv X pins σ H' s'/\Vals vs us/\Q vs H'
def SP(X:Cx)(pins:List #[17])(D:Ends)(f:Flow)(s':Shared):Prop:=
 match f with
 | .next=>∃ σ' H',Inv X pins σ' H' s'/\D.nx σ' H'
 | .brk=>∃ σ' H',Inv X pins σ' H' s'/\D.bk σ' H'
 | .cont=>∃ σ' H',Inv X pins σ' H' s'/\D.ct σ' H'
 | .ret u=>∃ v σ' H',Inv X pins σ' H' s'/\RelV v u/\D.rt v H'
def PE(X:Cx)(e:Expr)(t:TE):Prop:=
 ∀ (pins:List #[17]) (s:Shared) (σ : St) (H:Hp) (Q:VK),Inv X pins σ H s->t σ H Q->wpAny #[12] X.A (eval e X.env) (EP X pins σ Q) X.xe s
def PT(X:Cx)(e:Expr)(t:TT):Prop:=
 ∀ (pins:List #[17]) (s:Shared) (σ : St) (H:Hp) (Q:Bool->Hp->Prop),Inv X pins σ H s->t σ H Q->wpAny #[12] X.A (isTrue e X.env (eval e X.env)) (TP X pins σ Q) X.xe s
def PW(X:Cx)(e:Expr)(t:TT):Prop:=
 ∀ (whole:Sem Value) (pins:List #[17]) (s:Shared) (σ : St) (H:Hp) (Q:Bool->Hp->Prop),Inv X pins σ H s->t σ H Q->wpAny #[12] X.A (isTrue e X.env whole) (TP X pins σ Q) X.xe s
theorem PW.pt{X:Cx}{e:Expr}{t:TT}(h:PW X e t):PT X e t:=h _
def PA(X:Cx)(es:List Expr)(t:TA):Prop:=
 ∀ (pos:Pos) (pins:List #[17]) (s:Shared) (σ : St) (H:Hp) (Q:List V->Hp->Prop),Inv X pins σ H s->t σ H Q->wpAny #[12] X.A (spliced (backTo pos (starEach es X.env))) (AP X pins σ Q) X.xe s
def PS(X:Cx)(st:Stmt)(t:TS):Prop:=
 ∀ (pins:List #[17]) (s:Shared) (σ : St) (H:Hp) (D:Ends),Inv X pins σ H s->t D σ H->wpAny #[12] X.A (exec st X.env) (SP X pins D) X.xe s
def PSs(X:Cx)(st:List Stmt)(t:TS):Prop:=
 ∀ (pins:List #[17]) (s:Shared) (σ : St) (H:Hp) (D:Ends),Inv X pins σ H s->t D σ H->wpAny #[12] X.A (execs st X.env) (SP X pins D) X.xe s
theorem thn{α : Type}{t:Sem α}{Q Q':α->Shared->Prop}{M:Model}{A:Around}{E:#[13]}{s:Shared}(h:wpAny M A t Q E s)(hQ:∀ a s,Q a s->Q' a s):wpAny M A t Q' E s:=wpAny_mono h hQ fun _ _ x=>x
section
variable{X:Cx}
def tVar(i:Nat):TE:=fun σ H Q=>∃ v,σ[i]?=some (some v)/\Q v H
def tC(v:V):TE:=fun _ H Q=>Q v H
theorem jx{i:Nat}{x:Str}{pos:Pos}(hN:X.N[i]?=some x)(hv:Vis X.env.scope x)(hd:#[24]:=by decide)(hcd:#[20]:=by decide):PE X (.Name x pos) (tVar i):=by
 intro pins s σ H Q I h;obtain⟨v,e,h⟩:=h;obtain⟨m,hn,hl⟩:=I.loc;obtain⟨u,r,l⟩:=hl i x v hN e hv;have fin:EP X pins σ Q u s:=⟨v,H,I,r,h⟩
 rcases l with ⟨hk,hm⟩|⟨hk,c,hc,hcell⟩
 . exact wpAny_Name (wpAny_loadName_local I.ok.kind hk hn hm fin) hd
 . rcases hk with hk|hk
   . exact wpAny_Name (wpAny_loadName_cell I.ok.kind hk hc hcell fin) hd
   . exact wpAny_Name (wpAny_loadName_free I.ok.kind hk hc hcell fin hcd) hd
theorem jR{i j pos}:PE X (.Constant (.int i) j pos) (tC (.int i)):=fun _ _ _ H _ I h=>wpAny_Constant_int ⟨.int i,H,I.tok _,⟨_,rfl⟩,h⟩
theorem zeU{b j pos}:PE X (.Constant (.bool b) j pos) (tC (.bl b)):=fun _ _ _ H _ I h=>Constant_bool ⟨.bl b,H,I,rfl,h⟩
theorem ziE{j pos}:PE X (.Constant .none j pos) (tC .non):=fun _ _ _ H _ I h=>Constant_none ⟨.non,H,I,rfl,h⟩
theorem zeQ{x j pos}:PE X (.Constant (.str x) j pos) (tC (.str x)):=fun _ _ _ H _ I h=>Calls.Constant_str ⟨.str x,H,I.tok _,⟨_,rfl⟩,h⟩
def Gl(X:Cx)(x:Str):Prop:=X.env.kindOf x=some .globalImplicit
theorem zb3{E:#[13]}{pins:List #[17]}{s:Shared}{σ : St}{H:Hp}{x:Str}{u:Value}{pos:Pos}{Q:#[13]}(I:#[11])(hg:Gl X x)(hm:X.mg x=some u)(h:Q u s)
 (hd:#[24]:=by decide):wpAny #[12] X.A (eval (.Name x pos) X.env) Q E s:=
 Calls.Name_function_global I.ok.kind hg (Calls.loadGlobal_global (by rw [I.ok.glob];exact I.mod.glob.keeps I.bk) hm h) hd
theorem JE{E:#[13]}{pins:List #[17]}{s:Shared}{σ : St}{H:Hp}{x:Str}{u:Value}{pos:Pos}{Q:#[13]}(I:#[11])(hg:Gl X x)(hm:X.mg x=none)(hv:bootBuiltins x=some u)(h:Q u s)
 (hn:x≠"__name__":=by decide) (hd:#[24]:=by decide):wpAny #[12] X.A (eval (.Name x pos) X.env) Q E s:=by
 obtain⟨mb,h1,h2⟩:=I.mod.blt;exact Calls.Name_function_global I.ok.kind hg (Calls.loadGlobal_builtin (by rw [I.ok.glob];exact I.mod.glob.keeps I.bk) hm (by rw [I.ok.blt];exact h1.keeps I.bk) ((h2 x hn).trans hv) h) hd
theorem zgo{x:Str}{v:V}{u:Value}{pos:Pos}(hg:Gl X x)(hm:X.mg x=some u)(r:RelV v u)(hd:#[24]:=by decide):PE X (.Name x pos) (tC v):=
 fun _ _ _ H _ I h=>zb3 I hg hm ⟨v,H,I,r,h⟩ hd
theorem zk5{x:Str}{v:V}{u:Value}{pos:Pos}(hg:Gl X x)(hm:X.mg x=none)(hv:bootBuiltins x=some u)(r:RelV v u)(hn:x≠"__name__":=by decide)(hd:#[24]:=by decide):PE X (.Name x pos) (tC v):=
 fun _ _ _ H _ I h=>JE I hg hm hv ⟨v,H,I,r,h⟩ hn hd
variable{a b:Expr}{ta tb:TE}{pos:Pos}
def PC(X:Cx)(op:CmpOp)(a b:Expr)(t:TE):Prop:=
 ∀ (pins:List #[17]) (s:Shared) (σ : St) (H:Hp) (Q:VK),Inv X pins σ H s->t σ H Q->
  wpAny #[12] X.A (eval a X.env) (fun v s₁=>wpAny #[12] X.A (eval b X.env) (fun u s₂=>wpAny #[12] X.A (compareOp op v u) (EP X pins σ Q) X.xe s₂) X.xe s₁) X.xe s
theorem nobehind(b:Expr){op:CmpOp}(h:op≠.In)(h2:op≠.NotIn):behindInMarks op b=false:=by
 have e1:(op==CmpOp.In)=false:=by cases op<;>first|rfl|exact absurd rfl h
 have e2:(op==CmpOp.NotIn)=false:=by cases op<;>first|rfl|exact absurd rfl h2
 cases b<;>simp [behindInMarks,e1,e2]
def tIsN(ta:TE):TE:=fun σ H Q=>ta σ H fun x H1=>Q (.bl (decide (x=.non))) H1
def zlC(ta:TE):TE:=fun σ H Q=>ta σ H fun x H1=>Q (.bl (!decide (x=.non))) H1
theorem RelV.none_iff{x:V}{v:Value}(r:RelV x v):(v==Value.none)=decide (x=.non):=by
 cases x with
 | non=>cases r;rfl
 | bl _=>cases r;rfl
 | int _=>obtain⟨t,rfl⟩:=r;rfl
 | str _=>obtain⟨t,rfl⟩:=r;rfl
 | byt _=>obtain⟨t,rfl⟩:=r;rfl
 | flt _=>obtain⟨t,rfl⟩:=r;rfl
 | ref _=>cases r;rfl
 | ty _=>cases r;rfl
theorem zj5{j pos'}(ha:PE X a ta):PC X .Is a (.Constant .none j pos') (tIsN ta):=by
 intro pins s σ H Q I h;refine thn (ha pins s σ H _ I h) fun v s1 ⟨x,H1,I1,r1,q1⟩=>?_
 exact Constant_none (is_none_gen ⟨.bl _,H1,I1,by rw [r1.none_iff];rfl,q1⟩)
theorem zkL{j pos'}(ha:PE X a ta):PC X .IsNot a (.Constant .none j pos') (zlC ta):=by
 intro pins s σ H Q I h;refine thn (ha pins s σ H _ I h) fun v s1 ⟨x,H1,I1,r1,q1⟩=>?_
 exact Constant_none (isnot_none_gen ⟨.bl _,H1,I1,by rw [r1.none_iff];rfl,q1⟩)
def tB(t:TE):TT:=fun σ H Q=>t σ H fun x H1=>∃ c,x=.bl c/\Q c H1
theorem zhO{op:CmpOp}{t:TE}(h:PC X op a b t)(h1:behindInMarks op b=false:=by first|exact nobehind _ #[1] (by decide)|rfl):PE X (.Compare a [op] [b] pos) t:=fun pins s σ H Q I hw=>wpAny_Compare1 (h pins s σ H Q I hw) h1
theorem Zw{op:CmpOp}{t:TE}(h:PC X op a b t)(h1:behindInMarks op b=false:=by first|exact nobehind _ #[1] (by decide)|rfl):PT X (.Compare a [op] [b] pos) (tB t):=by
 intro pins s σ H Q I hw;refine wpAny_isTrue_Compare1 (thn (h pins s σ H _ I hw) fun v s1 h1=>thn h1 fun u s2 h2=>thn h2 fun c s3 ⟨x,H1,I1,r1,q1⟩=>?_) h1
 obtain⟨d,rfl,q⟩:=q1;cases r1;exact wpAny_truthy_bool ⟨H1,I1,q⟩
theorem zlS{e:Expr}{t:TE}(h:PE X e t)(he:∀ whole,isTrue e X.env whole=(do let v <-whole;standAt e.pos;holding [v] (truthy v)):=by intro _;rfl):PT X e (tB t):=by
 intro pins s σ H Q I hw;refine isTrue_plain (thn (h pins s σ H _ I hw) fun v s1 ⟨x,H1,I1,r1,q1⟩=>?_) (he _)
 obtain⟨d,rfl,q⟩:=q1;cases r1;exact wpAny_truthy_bool ⟨H1,I1,q⟩
variable{tA tB':TT}{rest:List Expr}
def tAnd(t u:TT):TT:=fun σ H Q=>t σ H fun c H1=>if c=true then u σ H1 Q else Q false H1
def tOr(t u:TT):TT:=fun σ H Q=>t σ H fun c H1=>if c=true then Q true H1 else u σ H1 Q
def tNot(t:TT):TT:=fun σ H Q=>t σ H fun c H1=>Q (!c) H1
theorem zgN(ha:PT X a tA):PW X (.BoolOp .And [a] pos) tA:=by
 intro wh pins s σ H Q I h;refine isTrue_and (thn (ha pins s σ H Q I h) fun c s1 e=>?_)
 cases c with
 | true=>exact isTrue_and_nil e
 | false=>exact e
theorem zdY(ha:PT X a tA):PW X (.BoolOp .Or [a] pos) tA:=by
 intro wh pins s σ H Q I h;refine isTrue_or (thn (ha pins s σ H Q I h) fun c s1 e=>?_)
 cases c with
 | false=>exact isTrue_or_nil e
 | true=>exact e
theorem zgI(ha:PT X a tA)(hb:PW X (.BoolOp .And (b::rest) pos) tB'):PW X (.BoolOp .And (a::b::rest) pos) (tAnd tA tB'):=by
 intro wh pins s σ H Q I h;refine isTrue_and (thn (ha pins s σ H _ I h) fun c s1 ⟨H1,I1,q1⟩=>?_)
 cases c with
 | true=>exact hb wh pins s1 σ H1 Q I1 q1
 | false=>exact⟨H1,I1,q1⟩
theorem zdW(ha:PT X a tA)(hb:PW X (.BoolOp .Or (b::rest) pos) tB'):PW X (.BoolOp .Or (a::b::rest) pos) (tOr tA tB'):=by
 intro wh pins s σ H Q I h;refine isTrue_or (thn (ha pins s σ H _ I h) fun c s1 ⟨H1,I1,q1⟩=>?_)
 cases c with
 | true=>exact⟨H1,I1,q1⟩
 | false=>exact hb wh pins s1 σ H1 Q I1 q1
theorem zlV(ha:PT X a tA):PT X (.UnaryOp .Not a pos) (tNot tA):=by
 intro pins s σ H Q I h;exact isTrue_not (ha pins s σ H (fun c H1=>Q (!c) H1) I h)
def zlb(ta tb:TE):TE:=fun σ H Q=>ta σ H fun x H1=>∃ c,x=.bl c/\if c=true then tb σ H1 Q else Q (.bl false) H1
def zjM(ta:TE):TE:=fun σ H Q=>ta σ H fun x H1=>∃ c,x=.bl c/\Q (.bl (!c)) H1
theorem zhq{op}{t:TE}(h:PE X a t):PE X (.BoolOp op [a] pos) t:=fun pins s σ H Q I hw=>BoolOp_one (h pins s σ H Q I hw)
theorem zgy(ha:PE X a ta)(hb:PE X (.BoolOp .And (b::rest) pos) tb):PE X (.BoolOp .And (a::b::rest) pos) (zlb ta tb):=by
 intro pins s σ H Q I h;refine BoolOp_and (thn (ha pins s σ H _ I h) fun v s1 ⟨x,H1,I1,r1,q1⟩=>?_)
 obtain⟨c,rfl,q1⟩:=q1;cases r1;refine wpAny_truthy_bool ?_;cases c with
 | true=>exact hb pins s1 σ H1 Q I1 q1
 | false=>exact⟨.bl false,H1,I1,rfl,q1⟩
theorem zg1(ha:PE X a ta):PE X (.UnaryOp .Not a pos) (zjM ta):=by
 intro pins s σ H Q I h;refine UnaryOp_ (thn (ha pins s σ H _ I h) fun v s1 ⟨x,H1,I1,r1,q1⟩=>?_)
 obtain⟨c,rfl,q1⟩:=q1;cases r1;exact not_of (wpAny_truthy_bool ⟨.bl (!c),H1,I1,rfl,q1⟩)
def tIf(t:TT)(ta tb:TE):TE:=fun σ H Q=>t σ H fun c H1=>if c=true then ta σ H1 Q else tb σ H1 Q
theorem zgk{c:Expr}(hc:PT X c tA)(ha:PE X a ta)(hb:PE X b tb):PE X (.IfExp c a b pos) (tIf tA ta tb):=by
 intro pins s σ H Q I h;refine wpAny_IfExp (thn (hc pins s σ H _ I h) fun d s1 ⟨H1,I1,q1⟩=>?_)
 cases d with
 | true=>exact ha pins s1 σ H1 Q I1 q1
 | false=>exact hb pins s1 σ H1 Q I1 q1
end
def SqL(K:Ybf)(H:Hp)(a:Addr)(xs:List V):Prop:=
 Rd H a (.lst xs)\/
  ∃ (o:Obj) (its:Array Value) (n:Nat),K.lookup a=some o/\o.cls=.type "list"/\o.dict=none/\o.data=.seq its n/\its.size<=sizeLine/\Vals xs its.toList
def SqT(K:Ybf)(H:Hp)(a:Addr)(xs:List V):Prop:=
 Rd H a (.tup xs)\/
  ∃ (o:Obj) (its:Array Value) (n:Nat),K.lookup a=some o/\o.cls=.type "tuple"/\o.data=.seq its n/\its.size<=sizeLine/\Vals xs its.toList
def absV:Value->Option V
 | .none=>some .non
 | .bool b=>some (.bl b)
 | .int i _=>some (.int i)
 | .str x _=>some (.str x)
 | .bytes b _=>some (.byt b)
 | .float b _=>some (.flt b)
 | .ref a=>some (.ref a)
 | .type n=>some (.ty n)
 | _=>none
theorem RelV.abs{x:V}{u:Value}(r:RelV x u):absV u=some x:=by
 cases x with
 | non=>cases r;rfl
 | bl _=>cases r;rfl
 | int _=>obtain⟨t,rfl⟩:=r;rfl
 | str _=>obtain⟨t,rfl⟩:=r;rfl
 | byt _=>obtain⟨t,rfl⟩:=r;rfl
 | flt _=>obtain⟨t,rfl⟩:=r;rfl
 | ref _=>cases r;rfl
 | ty _=>cases r;rfl
theorem RelV.inj{x y:V}{u:Value}(r:RelV x u)(q:RelV y u):x=y:=WaV (r.abs.symm.trans q.abs)
theorem Vals.inj:∀ {xs ys:List V} {us:List Value},Vals xs us->Vals ys us->xs=ys
 | _,_,_,.nil,.nil=>rfl
 | _,_,_,.cons r t,.cons r' t'=>by rw [r.inj r',Vals.inj t t']
section
variable{X:Cx}{pins:List #[17]}{σ : St}{H:Hp}{s:Shared}{a:Addr}{xs ys:List V}
theorem SqL.of{K:Ybf}(h:H a=some (.lst xs)):SqL K H a xs:=.inl (.inl h)
theorem SqT.of{K:Ybf}(h:H a=some (.tup xs)):SqT K H a xs:=.inl (.inl h)
theorem Inv.list(I:#[11])(h:SqL X.K H a xs):∃ its:List Value,Vals xs its/\PlainL s.heap a its.toArray/\xs.length<=sizeLine:=by
 rcases h with h|⟨o,its,n,hk,hc,hd,hs,hz,r⟩
 . obtain⟨z,its,n,r,e⟩:=h.ok I.hok
   exact⟨its,r,⟨_,n,e,rfl,rfl,rfl⟩,z⟩
 . refine⟨its.toList,r,⟨o,n,I.kIn a o hk,hc,hd,by simpa using hs⟩,?_⟩
   have e:=r.length;simp only [Array.length_toList] at e
   omega
theorem Inv.tuple(I:#[11])(h:SqT X.K H a xs):∃ its:List Value,Vals xs its/\IsTup s.heap a its.toArray/\xs.length<=sizeLine:=by
 rcases h with h|⟨o,its,n,hk,hc,hs,hz,r⟩
 . obtain⟨z,its,r,p⟩:=h.ok I.hok
   exact⟨its,r,p,z⟩
 . refine⟨its.toList,r,⟨o,I.kIn a o hk,hc,n,by simpa using hs⟩,?_⟩
   have e:=r.length;simp only [Array.length_toList] at e
   omega
theorem Inv.list_inj(I:#[11])(h:SqL X.K H a xs)(h':SqL X.K H a ys):xs=ys:=by
 obtain⟨its,r,⟨o,n,e,_,_,d⟩,_⟩:=I.list h;obtain⟨its',r',⟨o',n',e',_,_,d'⟩,_⟩:=I.list h';rw [e] at e';cases e';rw [d] at d'
 injection d' with d1 _
 have:its=its':=by simpa using congrArg Array.toList d1
 subst this;exact r.inj r'
theorem Inv.tuple_inj(I:#[11])(h:SqT X.K H a xs)(h':SqT X.K H a ys):xs=ys:=by
 obtain⟨its,r,⟨o,e,_,n,d⟩,_⟩:=I.tuple h;obtain⟨its',r',⟨o',e',_,n',d'⟩,_⟩:=I.tuple h';rw [e] at e';cases e';rw [d] at d'
 injection d' with d1 _
 have:its=its':=by simpa using congrArg Array.toList d1
 subst this;exact r.inj r'
end
abbrev Cx.wish(X:Cx)(E:#[13]):Cx:={ X with xe:=E }
abbrev Cx.nox(X:Cx):Cx:=X.wish fun _ _=>False
theorem Cx.Ok.wish{X:Cx}(ok:X.Ok)(E:#[13]):(X.wish E).Ok:=
 ⟨ok.mod,ok.kind,ok.glob,ok.blt,ok.above,ok.inj,ok.has,ok.cab,ok.hd,ok.frames,ok.stk,ok.exf,ok.bs,ok.bsz,ok.noex,ok.exfs,ok.funs,ok.frf⟩
theorem Cx.Ok.unwish{X:Cx}{E:#[13]}(ok:(X.wish E).Ok):X.Ok:=
 ⟨ok.mod,ok.kind,ok.glob,ok.blt,ok.above,ok.inj,ok.has,ok.cab,ok.hd,ok.frames,ok.stk,ok.exf,ok.bs,ok.bsz,ok.noex,ok.exfs,ok.funs,ok.frf⟩
section
variable{X:Cx}{pins:List #[17]}{σ : St}{H:Hp}{s:Shared}{E:#[13]}
theorem Inv.wish(I:#[11])(E:#[13]):Inv (X.wish E) pins σ H s:=⟨I.ok.wish E,I.os,I.bare,I.base,I.loc,I.cell,I.free,I.freeC,I.pin,I.hok,I.len⟩
theorem Inv.unwish(I:Inv (X.wish E) pins σ H s):Inv X pins σ H s:=⟨I.ok.unwish,I.os,I.bare,I.base,I.loc,I.cell,I.free,I.freeC,I.pin,I.hok,I.len⟩
theorem SP.unwish{D:Ends}{f:Flow}{s':Shared}(h:SP (X.wish E) pins D f s'):SP X pins D f s':=by
 cases f with
 | next=>obtain⟨σ',H',I,q⟩:=h;exact⟨σ',H',I.unwish,q⟩
 | brk=>obtain⟨σ',H',I,q⟩:=h;exact⟨σ',H',I.unwish,q⟩
 | cont=>obtain⟨σ',H',I,q⟩:=h;exact⟨σ',H',I.unwish,q⟩
 | ret u=>obtain⟨v,σ',H',I,r,q⟩:=h;exact⟨v,σ',H',I.unwish,r,q⟩
theorem PE.nox{e:Expr}{t:TE}(h:PE X.nox e t):PE X e t:=fun pins s σ H Q I hw=>
 wpAny_mono (h pins s σ H Q (I.wish _) hw) (fun _ _ ⟨v,H',I',r,q⟩=>⟨v,H',I'.unwish,r,q⟩) fun _ _ z=>False.elim z
theorem PT.nox{e:Expr}{t:TT}(h:PT X.nox e t):PT X e t:=fun pins s σ H Q I hw=>
 wpAny_mono (h pins s σ H Q (I.wish _) hw) (fun _ _ ⟨H',I',q⟩=>⟨H',I'.unwish,q⟩) fun _ _ z=>False.elim z
theorem PSs.nox{st:List Stmt}{t:TS}(h:PSs X.nox st t):PSs X st t:=fun pins s σ H D I hw=>
 wpAny_mono (h pins s σ H D (I.wish _) hw) (fun _ _ q=>q.unwish) fun _ _ z=>False.elim z
end
section
variable{X:Cx}{st:Stmt}{rest:List Stmt}{t u:TS}{e:Expr}{te:TE}{pos:Pos}
def tNext:TS:=fun D σ H=>D.nx σ H
def tSeq(t u:TS):TS:=fun D σ H=>t { D with nx:=u D } σ H
theorem zeP:PSs X [] tNext:=fun _ _ σ H _ I h=>wpAny_execs_nil ⟨σ,H,I,h⟩
theorem zM(h1:PS X st t)(h2:PSs X rest u):PSs X (st::rest) (tSeq t u):=by
 intro pins s σ H D I h;refine wpAny_execs_cons (thn (h1 pins s σ H { D with nx:=u D } I h) fun f s1 q=>?_)
 cases f with
 | next=>
  obtain⟨σ',H',I',q⟩:=q;exact h2 pins s1 σ' H' D I' q
 | ret v=>exact q
 | brk=>exact q
 | cont=>exact q
theorem jk(h1:PS X st t):PSs X [st] t:=by
 intro pins s σ H D I h;refine wpAny_execs_cons (thn (h1 pins s σ H D I h) fun f s1 q=>?_)
 cases f with
 | next=>exact wpAny_execs_nil q
 | ret v=>exact q
 | brk=>exact q
 | cont=>exact q
def tBreak:TS:=fun D σ H=>D.bk σ H
theorem ziH:PS X (.Break pos) tBreak:=fun _ _ σ H _ I h=>wpAny_Break ⟨σ,H,I,h⟩
theorem Inv.quiet{pins:List #[17]}{σ : St}{H:Hp}{s:Shared}(I:#[11]):interactive X.env=false:=by simp [interactive,I.ok.kind]
def zh6(te:TE):TS:=fun D σ H=>te σ H fun _ H1=>D.nx σ H1
theorem jZ(he:PE X e te)(hs:swapsWith e none pos.line X.env=pure false:=by rfl):PS X (.Expr e pos) (zh6 te):=by
 intro pins s σ H D I h;exact wpAny_Expr_any (thn (he pins s σ H _ I h) fun v s1 ⟨x,H1,I1,r1,q1⟩=>⟨σ,H1,I1,q1⟩) I.quiet hs
def tRet(te:TE):TS:=fun D σ H=>te σ H D.rt
theorem JO(he:PE X e te):PS X (.Return (some e) pos) (tRet te):=by
 intro pins s σ H D I h;exact wpAny_Return_some (thn (he pins s σ H _ I h) fun v s1 ⟨x,H1,I1,r1,q1⟩=>⟨x,σ,H1,I1,r1,q1⟩)
def tIfS(c:TT)(t u:TS):TS:=fun D σ H=>c σ H fun b H1=>if b=true then t D σ H1 else u D σ H1
theorem zdU{c:Expr}{a b:List Stmt}{tc:TT}(hc:PT X c tc)(ha:PSs X a t)(hb:PSs X b u):PS X (.If c a b pos) (tIfS tc t u):=by
 intro pins s σ H D I h;refine wpAny_If (thn (hc pins s σ H _ I h) fun d s1 ⟨H1,I1,q1⟩=>?_)
 cases d with
 | true=>exact ha pins s1 σ H1 D I1 q1
 | false=>exact hb pins s1 σ H1 D I1 q1
end
abbrev TG:=V->St->Hp->(St->Hp->Prop)->Prop
abbrev TGs:=List V->St->Hp->(St->Hp->Prop)->Prop
def PG(X:Cx)(target:Expr)(t:TG):Prop:=
 ∀ (pins:List #[17]) (s:Shared) (σ : St) (H:Hp) (v:V) (u:Value) (Q:St->Hp->Prop),Inv X pins σ H s->RelV v u->t v σ H Q->
  wpAny #[12] X.A (assign target X.env u) (fun _ s'=>∃ σ' H',Inv X pins σ' H' s'/\Q σ' H') X.xe s
def PGs(X:Cx)(ts:List Expr)(t:TGs):Prop:=
 ∀ (pins:List #[17]) (s:Shared) (σ : St) (H:Hp) (vs:List V) (us:List Value) (Q:St->Hp->Prop),Inv X pins σ H s->Vals vs us->t vs σ H Q->
  wpAny #[12] X.A (assignInOrder ((assignEach ts X.env).map (·.2)) us) (fun _ s'=>∃ σ' H',Inv X pins σ' H' s'/\Q σ' H') X.xe s
abbrev TSet:=V->V->V->Hp->(Hp->Prop)->Prop
def PSet(X:Cx)(t:TSet):Prop:=
 ∀ (pins:List #[17]) (s:Shared) (σ : St) (H:Hp) (o i v:V) (ov iv u:Value) (Q:Hp->Prop),Inv X pins σ H s->RelV o ov->RelV i iv->RelV v u->t o i v H Q->
  wpAny #[12] X.A (setItem ov iv u) (fun _ s'=>∃ H',Inv X pins σ H' s'/\Q H') X.xe s
abbrev TIp:=V->V->Hp->VK->Prop
def PIp(X:Cx)(op:Operator)(t:TIp):Prop:=
 ∀ (pins:List #[17]) (s:Shared) (σ : St) (H:Hp) (x y:V) (v u:Value) (Q:VK),Inv X pins σ H s->RelV x v->RelV y u->t x y H Q->
  wpAny #[12] X.A (inplaceOp op v u) (EP X pins σ Q) X.xe s
section
variable{X:Cx}{pos:Pos}
def zbQ(i:Nat):TG:=fun v σ H Q=>Q (σ.set i (some v)) H
theorem jp{i:Nat}{x:Str}(hN:X.N.Nodup)(hi:X.N[i]?=some x)(hx:Loc X.env.scope x)(hf:#[19]:=by first|exact .inl rfl|exact .inr rfl|assumption):PG X (.Name x pos) (zbQ i):=by
 intro pins s σ H v u Q I r h;exact wpAny_assign_Name (zau I hN hi hx r (fun s' I'=>⟨_,H,I',h⟩) hf)
def gNil:TGs:=fun vs σ H Q=>vs=[]/\Q σ H
def zi9(t:TG)(u:TGs):TGs:=fun vs σ H Q=>∃ v r,vs=v::r/\t v σ H fun σ' H'=>u r σ' H' Q
theorem zb1:PGs X [] gNil:=by
 intro pins s σ H vs us Q I r h;obtain⟨e,h⟩:=h;subst e;cases r;exact assignInOrder_nil ⟨σ,H,I,h⟩
theorem JH{e:Expr}{es:List Expr}{t:TG}{u:TGs}(h1:PG X e t)(h2:PGs X es u)
 (hs:(assignEach (e::es) X.env).map (·.2)=assign e X.env::(assignEach es X.env).map (·.2):=by rfl):PGs X (e::es) (zi9 t u):=by
 intro pins s σ H vs us Q I r h;obtain⟨v,vr,e1,h⟩:=h;subst e1;cases r with
 | cons r rr=>
  rw [hs];refine assignInOrder_cons (thn (h1 pins s σ H _ _ _ I r h) fun _ s1 ⟨σ1,H1,I1,q1⟩=>?_)
  exact h2 pins s1 σ1 H1 _ _ Q I1 rr q1
def gTup(K:Ybf)(n:Nat)(t:TGs):TG:=fun v σ H Q=>∃ a xs,v=.ref a/\SqT K H a xs/\xs.length=n/\t xs σ H Q
theorem zbH{es:List Expr}{k:Nat}{t:TGs}{n:Nat}(hc:X.calm=true)(h:PGs X es t)
 (hn:(assignEach es X.env).length=n:=by rfl) (hst:(assignEach es X.env).findIdx? (·.1)=none:=by rfl):PG X (.Tuple es k pos) (gTup X.K n t):=by
 intro pins s σ H v u Q I r hw;obtain⟨a,xs,e1,hq,hl,hw⟩:=hw;subst e1;cases r;obtain⟨its,rv,ht,hz⟩:=I.tuple hq;refine assign_Tuple_tuple (I.ok.hd hc) ht (by simp [hn,<-hl,rv.length]) hst fun h' hx=>?_
 have I1:Inv X pins σ H { s with heap:=h' }:=I.kept (t':=s.toks) fun b o e=>hx b o (Yaf (YaX e)) e
 exact h pins _ σ H xs _ Q I1 (by simpa using rv) hw
def gSub(to ti:TE)(t:TSet):TG:=fun v σ H Q=>to σ H fun o H1=>ti σ H1 fun i H2=>t o i v H2 fun H3=>Q σ H3
theorem zfR{o i:Expr}{to ti:TE}{t:TSet}(ho:PE X o to)(hi:PE X i ti)(hs:PSet X t)
 (ha:∀ v,assign (.Subscript o i pos) X.env v=(do
  let ov <-holding [v] (eval o X.env)
  let iv <-holding [v,ov] (eval i X.env)
  standAt pos
  holding [v,ov,iv] (setItem ov iv v)
  release [v,ov,iv] []):=by intro _;rfl):PG X (.Subscript o i pos) (gSub to ti t):=by
 intro pins s σ H v u Q I r h;rw [ha];refine wpAny_bind (wpAny_holding (thn (ho pins s σ H _ I h) fun ov s1 ⟨x,H1,I1,r1,q1⟩=>?_))
 refine wpAny_bind (wpAny_holding (thn (hi pins s1 σ H1 _ I1 q1) fun iv s2 ⟨y,H2,I2,r2,q2⟩=>?_))
 refine wpAny_bind (wpAny_standAt (wpAny_bind (wpAny_holding (thn (hs pins s2 σ H2 x y v ov iv u _ I2 r1 r2 r q2) fun _ s3 ⟨H3,I3,q3⟩=>?_))))
 exact wpAny_release ⟨σ,H3,I3,q3⟩
def tAsg(te:TE)(g:TG):TS:=fun D σ H=>te σ H fun x H1=>g x σ H1 D.nx
theorem zco{tg e:Expr}{te:TE}{g:TG}(he:PE X e te)(hg:PG X tg g)(hs:swapsWithSole [tg] e pos.line X.env=pure false:=by rfl)(hw:swappedStores [tg] e X.env=pure none:=by rfl)
 (h1:(assignEach [tg] X.env).map (·.2)=[assign tg X.env]:=by rfl):PS X (.Assign [tg] e pos) (tAsg te g):=by
 intro pins s σ H D I h;refine wpAny_Assign_stores (thn (he pins s σ H _ I h) fun v s1 ⟨x,H1,I1,r1,q1⟩=>?_) hs hw
 rw [h1];exact thn (hg pins s1 σ H1 x v _ I1 r1 q1) fun _ s2 q=>q
theorem jh{i:Nat}{x:Str}{e:Expr}{te:TE}{pos':Pos}(hN:X.N.Nodup)(hi:X.N[i]?=some x)(hx:Loc X.env.scope x)(he:PE X e te)(hs:swapsWith e (some (.Name x pos')) pos.line X.env=pure false:=by rfl)(hf:#[19]:=by first|exact .inl rfl|exact .inr rfl|assumption) :
 PS X (.Assign [.Name x pos'] e pos) (tAsg te (zbQ i)):=by
 intro pins s σ H D I h;refine wpAny_Assign_Name (thn (he pins s σ H _ I h) fun v s1 ⟨y,H1,I1,r1,q1⟩=>?_) hs
 exact zau I1 hN hi hx r1 (fun s2 I2=>⟨_,H1,I2,q1⟩) hf
def tPar(i j:Nat)(ta:TA):TS:=fun D σ H=>ta σ H fun vs H1=>∃ v w,vs=[v,w]/\D.nx ((σ.set i (some v)).set j (some w)) H1
theorem ziq{i j:Nat}{x y:Str}{a b:Expr}{ta:TA}{px py pt:Pos}{kt k2 pt2}(hc:X.calm=true)(hN:X.N.Nodup)(hi:X.N[i]?=some x)(hj:X.N[j]?=some y)(hij:i≠j)
 (hx:X.env.scope.names.lookup x=some .local) (hy:X.env.scope.names.lookup y=some .local) (ha:PA X [a,b] ta)
 (hw:swappedStores [.Tuple [.Name x px,.Name y py] kt pt] (.Tuple [a,b] k2 pt2) X.env=pure (some [x,y]))
 (hs:swapsWithSole [.Tuple [.Name x px,.Name y py] kt pt] (.Tuple [a,b] k2 pt2) pos.line X.env=pure false:=by rfl) :
 PS X (.Assign [.Tuple [.Name x px,.Name y py] kt pt] (.Tuple [a,b] k2 pt2) pos) (tPar i j ta):=by
 intro pins s σ H D I h;rw [exec_Assign_arm];refine wpAny_bind (wpAny_standAt ?_);rw [hs];refine wpAny_bind (wpAny_pure ?_);rw [if_neg #[1]]
 refine wpAny_bind (Tuple_ (thn (ha _ pins s σ H _ I h) fun us s1 ⟨vs,H1,I1,r1,q1⟩=>?_))
 obtain⟨v,w,e1,q1⟩:=q1;subst e1;obtain⟨u1,u2,rfl,rv,rw'⟩:∃ u1 u2,us=[u1,u2]/\RelV v u1/\RelV w u2:=by
  cases r1 with
  | cons p q=>
   cases q with
   | cons p' q'=>
    cases q';exact⟨_,_,rfl,p,p'⟩
 refine wpAny_newObj_type ?_ (by show 2<=sizeLine;decide)
 have I2:Inv X pins σ H1 { s1 with heap:=s1.heap.push { cls:=.type "tuple", data:=.seq [u1,u2].toArray } }:=I1.kept (t':=s1.toks) fun b o e=>YaW _ e
 rw [hw];refine wpAny_bind (wpAny_pure ?_);show wpAny #[12] X.A (do rule "assign.swapped-stores";let items <-unpackItems (.ref s1.heap.objs.size) 2 none;assignInOrder [fun v=>bindName X.env y v,fun v=>bindName X.env x v] items.reverse;pure Flow.next) _ _ _
 refine wpAny_bind (wpAny_rule (wpAny_bind (unpackItems_tuple (items:=#[u1,u2]) (I.ok.hd hc) (IsTup.new s1.heap _) fun h' hx'=>?_)))
 have I3:=I2.kept (h':=h') (t':=s1.toks) fun b o e=>hx' b o (Yaf (YaX e)) e
 show wpAny _ _ (assignInOrder [fun v=>bindName X.env y v,fun v=>bindName X.env x v] [u2,u1] >>= fun _=>pure Flow.next) _ _ _
 refine wpAny_bind (assignInOrder_cons (wpAny_bindName (zau I3 hN hj (.inl hy) rw' (fun s2 I4=>?_) (.inr hy))))
 refine assignInOrder_cons (wpAny_bindName (zau I4 hN hi (.inl hx) rv (fun s3 I5=>assignInOrder_nil (wpAny_pure ?_)) (.inr hx)))
 rw [List.set_comm _ _ (Wbo hij)] at I5;exact⟨_,H1,I5,q1⟩
def tAug(i:Nat)(te:TE)(ti:TIp):TS:=fun D σ H=>∃ x,σ[i]?=some (some x)/\te σ H fun y H1=>ti x y H1 fun z H2=>D.nx (σ.set i (some z)) H2
theorem zhC{i:Nat}{x:Str}{e:Expr}{te:TE}{op:Operator}{ti:TIp}{pos':Pos}(hN:X.N.Nodup)(hi:X.N[i]?=some x)(hx:Loc X.env.scope x)(he:PE X e te)(ho:PIp X op ti)(hf:#[19]:=by first|exact .inl rfl|exact .inr rfl|assumption) :
 PS X (.AugAssign (.Name x pos') op e pos) (tAug i te ti):=by
 intro pins s σ H D I h;obtain⟨v,e1,h⟩:=h;obtain⟨m,hn,hl⟩:=I.loc;have vis:Vis X.env.scope x:=by rcases hx with k|k;exact .inl k;exact .inr (.inl k)
 obtain⟨u,r,l⟩:=hl i x v hi e1 vis;refine wpAny_AugAssign_Name ?_;have go:wpAny #[12] X.A (eval e X.env) (fun w s₂=>wpAny #[12] X.A (inplaceOp op u w) (fun r s₃=>wpAny #[12] X.A (storeName X.env x r) (fun _=>SP X pins D .next) X.xe s₃) X.xe s₂) X.xe s:=by
  refine thn (he pins s σ H _ I h) fun w s1 ⟨y,H1,I1,r1,q1⟩=>?_
  refine thn (ho pins s1 σ H1 v y u w _ I1 r r1 q1) fun z s2 ⟨zv,H2,I2,r2,q2⟩=>?_
  exact zau I2 hN hi hx r2 (fun s3 I3=>⟨_,H2,I3,q2⟩) hf
 rcases l with ⟨hk,hm⟩|⟨hk,c,hc,hcell⟩
 . exact wpAny_loadName_local I.ok.kind hk hn hm go
 . rcases hk with hk|hk
   . exact wpAny_loadName_cell I.ok.kind hk hc hcell go
   . rcases hx with k|k
     . have:X.env.scope.names.lookup x=some .free:=hk
       rw [k] at this;cases this
     . have:X.env.scope.names.lookup x=some .free:=hk
       rw [k] at this;cases this
def zka(to ti te:TE)(tget:V->V->Hp->VK->Prop)(tip:TIp)(tset:TSet):TS:=fun D σ H=>to σ H fun o H1=>ti σ H1 fun i H2=>tget o i H2 fun x H3=>te σ H3 fun y H4=>tip x y H4 fun z H5=>tset o i z H5 fun H6=>D.nx σ H6
def PGet(X:Cx)(t:V->V->Hp->VK->Prop):Prop:=
 ∀ (pins:List #[17]) (s:Shared) (σ : St) (H:Hp) (o i:V) (ov iv:Value) (Q:VK),Inv X pins σ H s->RelV o ov->RelV i iv->t o i H Q->
  wpAny #[12] X.A (getItem ov iv) (EP X pins σ Q) X.xe s
theorem zdj{o i e:Expr}{to ti te:TE}{tget:V->V->Hp->VK->Prop}{tip:TIp}{tset:TSet}{op:Operator}{tpos:Pos}(ho:PE X o to)(hi:PE X i ti)(hg:PGet X tget)(he:PE X e te)(hp:PIp X op tip)(hs:PSet X tset)
 (ha:∀ ov iv new,augStore i ov iv new=(do holding [new,ov,iv] (setItem ov iv new);release [new,ov,iv] [];pure .next):=by intros;rfl):PS X (.AugAssign (.Subscript o i tpos) op e pos) (zka to ti te tget tip tset):=by
 intro pins s σ H D I h;refine wpAny_AugAssign_SubscriptAny (thn (ho pins s σ H _ I h) fun ov s1 ⟨x1,H1,I1,r1,q1⟩=>?_) ha
 refine thn (hi pins s1 σ H1 _ I1 q1) fun iv s2 ⟨x2,H2,I2,r2,q2⟩=>?_
 refine thn (hg pins s2 σ H2 x1 x2 ov iv _ I2 r1 r2 q2) fun old s3 ⟨x3,H3,I3,r3,q3⟩=>?_
 refine thn (he pins s3 σ H3 _ I3 q3) fun v s4 ⟨x4,H4,I4,r4,q4⟩=>?_
 refine thn (hp pins s4 σ H4 x3 x4 old v _ I4 r3 r4 q4) fun new s5 ⟨x5,H5,I5,r5,q5⟩=>?_
 exact thn (hs pins s5 σ H5 x1 x2 x5 ov iv new _ I5 r1 r2 r5 q5) fun _ s6 ⟨H6,I6,q6⟩=>⟨σ,H6,I6,q6⟩
def ipI(f:Int->Int->Int):TIp:=fun x y H Q=>∃ i j,x=.int i/\y=.int j/\Q (.int (f i j)) H
theorem zcX:PIp X .Add (ipI fun i j=>i+j):=by
 intro pins s σ H x y v u Q I r1 r2 h;obtain⟨i,j,e1,e2,q⟩:=h;subst e1;subst e2;obtain⟨t,rfl⟩:=r1;obtain⟨t',rfl⟩:=r2;exact iadd_int ⟨.int _,H,I.tok _,⟨_,rfl⟩,q⟩
theorem zil:PIp X .Sub (ipI fun i j=>i - j):=by
 intro pins s σ H x y v u Q I r1 r2 h;obtain⟨i,j,e1,e2,q⟩:=h;subst e1;subst e2;obtain⟨t,rfl⟩:=r1;obtain⟨t',rfl⟩:=r2;exact isub_int ⟨.int _,H,I.tok _,⟨_,rfl⟩,q⟩
end
section
variable{X:Cx}{pos:Pos}
def zeu(c:TT)(tb:TS):TS:=fun D σ H=>∃ W:Nat->St->Hp->Prop,(∃ m,W m σ H)/\∀ m σ H,W m σ H->
 c σ H fun b H1=>if b=true then ∃ N:St->Hp->Prop,(∀ σ' H',N σ' H'->∃ m',m'<m/\W m' σ' H')/\tb { D with nx:=N,ct:=N,bk:=D.nx } σ H1 else D.nx σ H1
theorem zcz{c:Expr}{body:List Stmt}{tc:TT}{tb:TS}(hp:PassesOwn #[12] X.A X.env X.xe)(hc:PT X c tc)(hb:PSs X body tb):PS X (.While c body [] pos) (zeu tc tb):=by
 intro pins s σ H D I h;obtain⟨W,⟨m0,w0⟩,turn⟩:=h;refine wpAny_While (codeAny_whileLoop (fun n s'=>∃ σ' H',Inv X pins σ' H' s'/\W n σ' H') ?_ m0 ⟨σ,H,I,w0⟩)
 rintro n s1 ⟨σ1,H1,I1,w1⟩
 refine wpAny_passesOwn hp (thn (hc pins s1 σ1 H1 _ I1 (turn n σ1 H1 w1)) fun b s2 ⟨H2,I2,q2⟩=>?_)
 cases b with
 | true=>
  obtain⟨N,hN,q2⟩:=q2;rw [if_pos rfl];refine wpAny_passesOwn hp (thn (hb pins s2 σ1 H2 _ I2 q2) fun f s3 q3=>?_)
  cases f with
  | next=>
   obtain⟨σ3,H3,I3,n3⟩:=q3;obtain⟨m',hm,w3⟩:=hN σ3 H3 n3;exact⟨m',hm,σ3,H3,I3,w3⟩
  | cont=>
   obtain⟨σ3,H3,I3,n3⟩:=q3;obtain⟨m',hm,w3⟩:=hN σ3 H3 n3;exact⟨m',hm,σ3,H3,I3,w3⟩
  | brk=>exact q3
  | ret v=>exact q3
 | false=>
  rw [if_neg Yal];exact wpAny_execs_nil ⟨σ1,H2,I2,q2⟩
end
structure It where
 go:Nat->Hp->Prop
 yld:Nat->Hp->V->Hp->Prop
 stop:Nat->Hp->Prop
def FpOk(X:Cx)(pins:List #[17])(H:Hp)(b:Addr):Prop:=
 H b=none/\b≠X.env.locals/\b∉X.fs/\(b∈X.ex\/X.s₀.heap.objs.size<=b)/\(∀ x c,X.env.cells.lookup x=some c->c≠b)/\∀ p∈X.pn++pins,p.1≠b
theorem Inv.fpOk{X:Cx}{pins:List #[17]}{σ : St}{H H':Hp}{s:Shared}{b:Addr}(I:#[11])(hb:s.heap.objs.size<=b)(hn:H' b=none):FpOk X pins H' b:=by
 refine⟨hn,Wbd (YaU I.lt hb),I.nofs hb,.inr (Ya5 I.sz hb),fun x c e z=>?_,fun p hp z=>?_⟩
 . obtain⟨v,q⟩:=I.cell x c e
   exact absurd (YaU q.lt (by rw [z];exact hb)) (Yap _)
 . exact absurd (YaU (YaX (I.pin p hp).1) (by rw [z];exact hb)) (Yap _)
structure Turn(P:Program)(w:World)(K:Ybf)(tg:Expr)(J:It)(fp:List Addr)(it:Addr)(tn:Nat->Heap->Prop):Prop where
 mem:it∈fp
 obj:∀ i h,tn i h->∀ b∈fp,∃ o,h.get? b=some o/\∀ v,o.data≠.cell v
 keep:∀ i h h',tn i h->(∀ b∈fp,∀ o,h.get? b=some o->h'.get? b=some o)->tn i h'
 item:∀ (X:Cx),X.prog=P->X.w=w->X.K=K->X.calm=true->∀ (i:Nat) (pins:List #[17]) (s:Shared) (σ : St) (H:Hp) (E:#[13]),Inv X pins σ H s->(∀ b∈fp,FpOk X pins H b)->tn i s.heap->J.go i H->
  wpAny (model P w) X.A (pyNext (.ref it)) (fun r s1=>∃ u,r=some u/\
   wpAny (model P w) X.A (letOwnedTupleGo tg (.ref it) u) (fun _ s2=>∃ x H',Inv X pins σ H' s2/\RelV x u/\J.yld i H x H'/\tn (i+1) s2.heap/\∀ b∈fp,H' b=none) E s1) E s
 done:∀ (X:Cx),X.prog=P->X.w=w->X.K=K->X.calm=true->∀ (i:Nat) (pins:List #[17]) (s:Shared) (σ : St) (H:Hp) (E:#[13]),Inv X pins σ H s->(∀ b∈fp,FpOk X pins H b)->tn i s.heap->J.stop i H->
  wpAny (model P w) X.A (pyNext (.ref it)) (fun r s1=>r=none/\Inv X pins σ H s1) E s
 self:∀ (A:Around) (i:Nat) (s:Shared) (Q:#[13]) (E:#[13]),tn i s.heap->Q (.ref it) s->wpAny (model P w) A (pyIter (.ref it)) Q E s
abbrev TI:=St->Hp->(It->Hp->Prop)->Prop
def PIE(X:Cx)(pins:List #[17])(σ : St)(tg:Expr)(R:It->Hp->Prop)(itv:Value)(s2:Shared):Prop:=
 ∃ (it:Addr) (fp:List Addr) (tn:Nat->Heap->Prop) (J:It) (H':Hp),itv=.ref it/\Inv X pins σ H' s2/\Turn X.prog X.w X.K tg J fp it tn/\tn 0 s2.heap/\(∀ b∈fp,FpOk X pins H' b)/\R J H'
def PI(X:Cx)(tg iter:Expr)(wi:TI):Prop:=
 ∀ (pins:List #[17]) (s:Shared) (σ : St) (H:Hp) (R:It->Hp->Prop),Inv X pins σ H s->wi σ H R->
  wpAny #[12] X.A (eval iter X.env) (fun v s1=>wpAny #[12] X.A (pyIter v) (PIE X pins σ tg R) X.xe s1) X.xe s
theorem zcW{M:Model}{A:Around}{E:#[13]}{s:Shared}{tg:Expr}{it:Addr}{u:Value}{o:Obj}{n:String}{vs:Array Value}{Q:Unit->Shared->Prop}(ho:s.heap.get? it=some o)(hc:o.cls=.type n)(hd:o.data=.fields vs)
 (hn:["enumerate", "zip", "dict_itemiterator", "dict_reverseitemiterator", "odict_iterator", "itertools.zip_longest", "itertools.pairwise"].contains n=false) (hQ:Q () s):wpAny M A (letOwnedTupleGo tg (.ref it) u) Q E s:=by
 unfold letOwnedTupleGo;cases tg<;>first
  | exact wpAny_pure hQ
  | (cases u <;> first
   | exact wpAny_pure hQ
   | (refine wpAny_bind (wpAny_load ho ?_)
      rw [hc,hd];show wpAny M A (if(["enumerate", "zip", "dict_itemiterator", "dict_reverseitemiterator", "odict_iterator", "itertools.zip_longest", "itertools.pairwise"].contains n&&vs[0]? == some (rawInt _))=true then _ else _) Q E s
      rw [if_neg (by intro h;rw [hn,Bool.false_and] at h;cases h)]
      exact wpAny_pure hQ))
def Itl(K:Ybf)(a:Addr):It:=
 ⟨fun i H=>∃ xs x,SqL K H a xs/\xs[i]?=some x,fun i H x H'=>H'=H/\∀ xs,SqL K H a xs->xs[i]?=some x,fun i H=>∃ xs,SqL K H a xs/\xs.length<=i⟩
def Itt(K:Ybf)(a:Addr):It:=
 ⟨fun i H=>∃ xs x,SqT K H a xs/\xs[i]?=some x,fun i H x H'=>H'=H/\∀ xs,SqT K H a xs->xs[i]?=some x,fun i H=>∃ xs,SqT K H a xs/\xs.length<=i⟩
def Itr(lo:Int)(n:Nat):It:=⟨fun i _=>i<n,fun i H x H'=>H'=H/\x=.int (lo+i),fun i _=>n<=i⟩
theorem zli{P:Program}{w:World}{K:Ybf}{tg:Expr}(a it:Addr):Turn P w K tg (Itl K a) [it] it (fun i h=>h.IsListIter it a i) where
 mem:=by simp
 obj:=fun i h st b hb=>by
  have e:b=it:=by simpa using hb
  subst e;obtain⟨o,e,c,d⟩:=st;exact⟨o,e,fun v z=>by rw [d] at z;cases z⟩
 keep:=fun i h h' st k=>st.at fun o e=>k it (by simp) o e
 item:=by
  intro X hP hw hK hc i pins s σ H E I hf st hg;subst hP hw hK;obtain⟨xs,x,hq,hx⟩:=hg;obtain⟨its,rv,p,hz⟩:=I.list hq;obtain⟨u,hu,ru⟩:=rv.get hx;obtain⟨f0,f1,f2,f3,f4,f5⟩:=hf it (by simp)
  refine wpAny_pyNext_list_item st p.isList (x:=u) (by simpa using hu) fun h' st' sb=>?_
  have I1:Inv X pins σ H { s with heap:=h' }:=I.turned (t':=s.toks) (fun b o hb e=>(sb.2 b hb).trans e) f0 f1 f3 f4 f5
  obtain⟨o,e,c,d⟩:=id st';exact⟨u,rfl,zcW (s:={ s with heap:=h' }) e c d #[1] ⟨x,H,I1,ru,⟨rfl,fun ys hy=>by rw [I.list_inj hy hq];exact hx⟩,st',fun b hb=>(hf b hb).1⟩⟩
 done:=by
  intro X hP hw hK hc i pins s σ H E I hf st hg;subst hP hw hK;obtain⟨xs,hq,hx⟩:=hg;obtain⟨its,rv,p,hz⟩:=I.list hq;obtain⟨f0,f1,f2,f3,f4,f5⟩:=hf it (by simp)
  have hl:=rv.length;exact wpAny_pyNext_list_end (I.ok.hd hc) st p.isList #[6] fun h' eb=>⟨rfl,I.turned (t':=s.toks) (fun b o hb e=>eb b o hb e) f0 f1 f3 f4 f5⟩
 self:=fun _ _ _ _ _ st h=>wpAny_pyIter_listiter st h
theorem zjY{P:Program}{w:World}{K:Ybf}{tg:Expr}(a it:Addr):Turn P w K tg (Itt K a) [it] it (fun i h=>h.IsTupleIter it a i) where
 mem:=by simp
 obj:=fun i h st b hb=>by
  have e:b=it:=by simpa using hb
  subst e;obtain⟨o,e,c,d⟩:=st;exact⟨o,e,fun v z=>by rw [d] at z;cases z⟩
 keep:=fun i h h' st k=>st.at fun o e=>k it (by simp) o e
 item:=by
  intro X hP hw hK hc i pins s σ H E I hf st hg;subst hP hw hK;obtain⟨xs,x,hq,hx⟩:=hg;obtain⟨its,rv,p,hz⟩:=I.tuple hq;obtain⟨u,hu,ru⟩:=rv.get hx;obtain⟨f0,f1,f2,f3,f4,f5⟩:=hf it (by simp)
  refine wpAny_pyNext_tuple_item st (show s.heap.IsTuple a its.toArray from p) (x:=u) (by simpa using hu) fun h' st' sb=>?_
  have I1:Inv X pins σ H { s with heap:=h' }:=I.turned (t':=s.toks) (fun b o hb e=>(sb.2 b hb).trans e) f0 f1 f3 f4 f5
  obtain⟨o,e,c,d⟩:=id st';exact⟨u,rfl,zcW (s:={ s with heap:=h' }) e c d #[1] ⟨x,H,I1,ru,⟨rfl,fun ys hy=>by rw [I.tuple_inj hy hq];exact hx⟩,st',fun b hb=>(hf b hb).1⟩⟩
 done:=by
  intro X hP hw hK hc i pins s σ H E I hf st hg;subst hP hw hK;obtain⟨xs,hq,hx⟩:=hg;obtain⟨its,rv,p,hz⟩:=I.tuple hq;obtain⟨f0,f1,f2,f3,f4,f5⟩:=hf it (by simp)
  have hl:=rv.length;exact wpAny_pyNext_tuple_end (I.ok.hd hc) st (show s.heap.IsTuple a its.toArray from p) #[6] fun h' eb=>⟨rfl,I.turned (t':=s.toks) (fun b o hb e=>eb b o hb e) f0 f1 f3 f4 f5⟩
 self:=fun _ _ _ _ _ st h=>wpAny_pyIter_tupleiter st h
theorem zjL{P:Program}{w:World}{K:Ybf}{tg:Expr}(it:Addr)(lo:Int)(n:Nat):Turn P w K tg (Itr lo n) [it] it (fun i h=>IsRangeIter h it (lo+(i:Nat)*1) ((n:Int) - (i:Nat)) 1) where
 mem:=by simp
 obj:=fun i h st b hb=>by
  have e:b=it:=by simpa using hb
  subst e;exact⟨_,st,fun v z=>by
   have z':Data.fields _=Data.cell v:=z;cases z'⟩
 keep:=fun i h h' st k=>k it (by simp) _ st
 item:=by
  intro X hP hw hK hc i pins s σ H E I hf st hg;subst hP hw hK;obtain⟨f0,f1,f2,f3,f4,f5⟩:=hf it (by simp)
  have W:=Walks.range (prog:=X.prog) (w:=X.w) (I.ok.hd hc) it lo 1 n;refine W.item i s _ _ hg st fun v h' tk hv st' kk=>?_
  obtain⟨t,rfl⟩:=hv;have I1:Inv X pins σ H { s with heap:=h',toks:=tk }:=I.turned (fun b o hb e=>kk b o (by simpa using hb) e) f0 f1 f3 f4 f5
  refine⟨_,rfl,zcW (s:={ s with heap:=h',toks:=tk }) (n:="range_iterator") st' rfl rfl #[1] ⟨.int (lo+i),H,I1,⟨t,?_⟩,⟨rfl,rfl⟩,st',fun b hb=>(hf b hb).1⟩⟩
  rw [Int.mul_one]
 done:=by
  intro X hP hw hK hc i pins s σ H E I hf st hg;subst hP hw hK;obtain⟨f0,f1,f2,f3,f4,f5⟩:=hf it (by simp)
  exact wpAny_pyNext_range_end (I.ok.hd hc) st (by have:n<=i:=hg;omega) fun h' eb=>⟨rfl,I.turned (t':=s.toks) (fun b o hb e=>eb b o hb e) f0 f1 f3 f4 f5⟩
 self:=fun _ _ _ _ _ st h=>wpAny_pyIter_rangeiter st h
section
variable{X:Cx}{tg:Expr}
def ziU(K:Ybf)(tl:TE):TI:=fun σ H R=>tl σ H fun x H1=>∃ a,x=.ref a/\(∃ xs,SqL K H1 a xs)/\R (Itl K a) H1
def iTup(K:Ybf)(tl:TE):TI:=fun σ H R=>tl σ H fun x H1=>∃ a,x=.ref a/\(∃ xs,SqT K H1 a xs)/\R (Itt K a) H1
theorem zbv{l:Expr}{tl:TE}(hl:PE X l tl):PI X tg l (ziU X.K tl):=by
 intro pins s σ H R I h;refine thn (hl pins s σ H _ I h) fun v s1 ⟨x,H1,I1,r1,q1⟩=>?_
 obtain⟨a,e,⟨xs,hq⟩,q⟩:=q1;subst e;cases r1;obtain⟨its,rv,p,hz⟩:=I1.list hq;refine wpAny_pyIter_list p.isList ?_;refine⟨s1.heap.objs.size,[s1.heap.objs.size],_,_,H1,rfl,I1.kept (t':=s1.toks) fun b o e=>YaW _ e,zli a _,⟨_,Yan _ rfl,rfl,rfl⟩,fun b hb=>?_,q⟩
 have e:b=s1.heap.objs.size:=by simpa using hb
 subst e;exact I1.fpOk (YaY _) (I1.hok.fresh (YaY _))
theorem ziB{l:Expr}{tl:TE}(hl:PE X l tl):PI X tg l (iTup X.K tl):=by
 intro pins s σ H R I h;refine thn (hl pins s σ H _ I h) fun v s1 ⟨x,H1,I1,r1,q1⟩=>?_
 obtain⟨a,e,⟨xs,hq⟩,q⟩:=q1;subst e;cases r1;obtain⟨its,rv,p,hz⟩:=I1.tuple hq;refine wpAny_pyIter_tuple (show s1.heap.IsTuple a its.toArray from p) ?_
 refine⟨s1.heap.objs.size,[s1.heap.objs.size],_,_,H1,rfl,I1.kept (t':=s1.toks) fun b o e=>YaW _ e,zjY a _,⟨_,Yan _ rfl,rfl,rfl⟩,fun b hb=>?_,q⟩
 have e:b=s1.heap.objs.size:=by simpa using hb
 subst e;exact I1.fpOk (YaY _) (I1.hok.fresh (YaY _))
theorem zfE{pins:List #[17]}{σ : St}{H:Hp}{s:Shared}{R:It->Hp->Prop}{E:#[13]}{lo hi:Int}{t u v:Tok}{tk:Nat}(I:#[11])(h1:-(2 ^ 62)<=lo)(h2:lo<2 ^ 62)(h3:-(2 ^ 62)<=hi)(h4:hi<2 ^ 62)
 (q:R (Itr lo (hi - lo).toNat) H):wpAny #[12] X.A (pyIter (.ref s.heap.objs.size)) (PIE X pins σ tg R) E { s with heap:=s.heap.push { cls:=.type "range", data:=.fields #[.int lo t,.int hi u,.int 1 v] },toks:=tk }:=by
 refine wpAny_pyIter_range (IsRange.new ..) (small_one h1 h2 h3 h4) ?_
 have I1:Inv X pins σ H { s with heap:=s.heap.push { cls:=.type "range", data:=.fields #[.int lo t,.int hi u,.int 1 v] },toks:=tk }:=I.kept fun b o e=>YaW _ e
 refine⟨(s.heap.push { cls:=.type "range", data:=.fields #[.int lo t,.int hi u,.int 1 v] }).objs.size,[(s.heap.push { cls:=.type "range", data:=.fields #[.int lo t,.int hi u,.int 1 v] }).objs.size],_,_,H,rfl,
  I1.kept (t':=tk) fun b o e=>YaW _ e,zjL _ lo (hi - lo).toNat,?_,fun b hb=>?_,q⟩
 . have e1:lo+((0:Nat):Int)*1=lo:=by simp
   have e2:(((hi - lo).toNat:Nat):Int) - ((0:Nat):Int)=Builtin.Range.rangeSize lo hi 1:=by rw [rangeSize_one];split<;>omega
   show IsRangeIter _ _ (lo+((0:Nat):Int)*1) ((((hi - lo).toNat:Nat):Int) - ((0:Nat):Int)) 1
   rw [e1,e2];exact Yan _ rfl
 . have e:b=(s.heap.push { cls:=.type "range", data:=.fields #[.int lo t,.int hi u,.int 1 v] }).objs.size:=by simpa using hb
   subst e;exact I1.fpOk (YaY _) (I1.hok.fresh (YaY _))
def zgK(ta:TA):TI:=fun σ H R=>ta σ H fun vs H1=>∃ j:Int,vs=[.int j]/\-(2 ^ 62)<=j/\j<2 ^ 62/\R (Itr 0 j.toNat) H1
def zk0(ta:TA):TI:=fun σ H R=>ta σ H fun vs H1=>∃ i j:Int,vs=[.int i,.int j]/\(-(2 ^ 62)<=i/\i<2 ^ 62/\-(2 ^ 62)<=j/\j<2 ^ 62)/\R (Itr i (j - i).toNat) H1
theorem zc9{a:Expr}{ta:TA}{p pos:Pos}(hg:Gl X "range")(hm:X.mg "range" = none)(ha:PA X [a] ta)(hs:starEach [a] X.env=[(false,eval a X.env)]:=by rfl):PI X tg (.Call (.Name "range" p) [a] [] pos) (zgK ta):=by
 intro pins s σ H R I h;refine Call_ (JE I hg hm boot_range (Wac (thn (ha pos pins s σ H _ I h) fun us s1 ⟨vs,H1,I1,r1,q1⟩=>?_) hs rfl))
 obtain⟨j,e,q1,q2,q⟩:=q1;subst e;cases r1 with
 | cons r rr=>
  cases rr;obtain⟨t,rfl⟩:=r
  exact call_range_1 (zfE I1 #[0] #[0] q1 q2 (by simpa using q))
theorem zi4{a b:Expr}{ta:TA}{p pos:Pos}(hg:Gl X "range")(hm:X.mg "range" = none)(ha:PA X [a,b] ta)(hs:starEach [a,b] X.env=[(false,eval a X.env),(false,eval b X.env)]:=by rfl)(hs2:starEach [b] X.env=[(false,eval b X.env)]:=by rfl) :
 PI X tg (.Call (.Name "range" p) [a,b] [] pos) (zk0 ta):=by
 intro pins s σ H R I h;refine Call_ (JE I hg hm boot_range (Wac (thn (ha pos pins s σ H _ I h) fun us s1 ⟨vs,H1,I1,r1,q1⟩=>?_) (by rw [hs,hs2]) (by rw [hs2];rfl)))
 obtain⟨i,j,e,⟨q1,q2,q3,q4⟩,q⟩:=q1;subst e;cases r1 with
 | cons r rr=>
  cases rr with
  | cons r' rr=>
   cases rr;obtain⟨t,rfl⟩:=r
   obtain⟨t',rfl⟩:=r';exact call_range_2 (zfE I1 q1 q2 q3 q4 q)
def tFor(wi:TI)(g:TG)(tb:TS):TS:=fun D σ H=>wi σ H fun J H1=>∃ W:Nat->Nat->St->Hp->Prop,(∃ m,W 0 m σ H1)/\∀ i m σ H,W i m σ H->
 (J.stop i H/\D.nx σ H)\/(J.go i H/\∃ N:St->Hp->Prop,(∀ σ' H',N σ' H'->∃ m',m'<m/\W (i+1) m' σ' H')/\∀ x H',J.yld i H x H'->g x σ H' fun σ2 H2=>tb { D with nx:=N,ct:=N,bk:=D.nx } σ2 H2)
def zaO(fp:List Addr)(h:Heap):List #[17]:=fp.filterMap fun b=>(h.get? b).map fun o=>(b,o)
theorem zbu{fp:List Addr}{h:Heap}{b:Addr}{o:Obj}(hb:b∈fp)(e:h.get? b=some o):(b,o)∈zaO fp h:=List.mem_filterMap.mpr ⟨b,hb,by rw [e];rfl⟩
theorem ziJ{fp:List Addr}{h:Heap}{p:Addr×Obj}(hp:p∈zaO fp h):p.1∈fp/\h.get? p.1=some p.2:=by
 obtain⟨b,hb,e⟩:=List.mem_filterMap.mp hp;cases q:h.get? b with
 | none=>rw [q] at e;cases e
 | some o=>
  rw [q] at e;have e':(b,o)=p:=WaV e;subst e';exact⟨hb,q⟩
theorem Inv.pinned{pins:List #[17]}{σ : St}{H:Hp}{s:Shared}{fp:List Addr}(I:#[11])(hf:∀ b∈fp,FpOk X pins H b)(ho:∀ b∈fp,∃ o,s.heap.get? b=some o/\∀ v,o.data≠.cell v):Inv X (pins++zaO fp s.heap) σ H s:=
 I.pins_of fun p hp=>(Ya3.mp hp).elim (fun z=>I.pin p (Yaa _ z)) fun z=>by
  obtain⟨hb,e⟩:=ziJ z;obtain⟨f0,f1,f2,_⟩:=hf p.1 hb;obtain⟨o,e',d⟩:=ho p.1 hb;rw [e] at e';cases e';exact⟨e,f0,f1,f2,d⟩
theorem Inv.unpinned{pins pl:List #[17]}{σ : St}{H:Hp}{s:Shared}(I:Inv X (pins++pl) σ H s):Inv X pins σ H s:=I.pins_of fun p hp=>I.pin p (Yaa _ (Yai _ hp))
theorem Zd{iter:Expr}{body:List Stmt}{wi:TI}{g:TG}{tb:TS}{pos:Pos}(hp:PassesOwn #[12] X.A X.env X.xe)(hc:X.calm=true)(hi:PI X tg iter wi)(hg:PG X tg g)(hb:PSs X body tb)
 (hs:∀ x,foldedSetIterable iter X.env x=pure x:=by intro _;rfl):PS X (.For tg iter body [] pos) (tFor wi g tb):=by
 intro pins s σ H D I h;refine wpAny_For (thn (hi pins s σ H _ I h) fun v s1 h1=>thn h1 fun itv s2 h2=>?_) hs
 obtain⟨it,fp,tn,J,H2,e,I2,T,st2,f2,W,⟨m0,w0⟩,turn⟩:=h2;subst e;have stat:∀ {H':Hp},(∀ b∈fp,H' b=none)->∀ b∈fp,FpOk X pins H' b:=fun hn b hb=>⟨hn b hb,(f2 b hb).2⟩
 refine codeAny_forLoop_any (fun n s'=>∃ i σ' H',Inv X pins σ' H' s'/\tn i s'.heap/\(∀ b∈fp,H' b=none)/\W i n σ' H') ?_ m0 ⟨0,σ,H2,I2,st2,fun b hb=>(f2 b hb).1,w0⟩
 rintro n s3 ⟨i,σ3,H3,I3,st3,fr3,w3⟩
 rcases turn i n σ3 H3 w3 with ⟨stop,qn⟩|⟨go,N,hN,step⟩
 . refine wpAny_passesOwn hp (thn (T.done X rfl rfl rfl hc i pins s3 σ3 H3 X.xe I3 (stat fr3) st3 stop) fun r s4 ⟨hr,I4⟩=>?_)
   subst hr;exact wpAny_execs_nil ⟨σ3,H3,I4,qn⟩
 . refine wpAny_passesOwn hp (thn (T.item X rfl rfl rfl hc i pins s3 σ3 H3 X.xe I3 (stat fr3) st3 go) fun r s4 ⟨u,hr,h4⟩=>?_)
   subst hr;refine wpAny_passesOwn hp (thn h4 fun _ s5 ⟨x,H5,I5,r5,y5,st5,fr5⟩=>?_)
   have I5':=I5.pinned (stat fr5) (T.obj _ _ st5);refine wpAny_passesOwn hp (thn (hg _ s5 σ3 H5 x u _ I5' r5 (step x H5 y5)) fun _ s6 ⟨σ6,H6,I6,q6⟩=>?_)
   refine wpAny_passesOwn hp (thn (hb _ s6 σ6 H6 _ I6 q6) fun f s7 q7=>?_)
   have again:∀ {σ7:St} {H7:Hp},Inv X (pins++zaO fp s5.heap) σ7 H7 s7->N σ7 H7->∃ m,m<n/\∃ i σ' H',Inv X pins σ' H' s7/\tn i s7.heap/\(∀ b∈fp,H' b=none)/\W i m σ' H':=fun {σ7 H7} I7 n7=>by
    obtain⟨m',hm,w7⟩:=hN σ7 H7 n7;refine⟨m',hm,i+1,σ7,H7,I7.unpinned,T.keep _ _ _ st5 fun b hb o e=>(I7.pin (b,o) (Yaa _ (Yaa _ (zbu hb e)))).1,fun b hb=>?_,w7⟩
    obtain⟨o,e,d⟩:=T.obj _ _ st5 b hb;exact(I7.pin (b,o) (Yaa _ (Yaa _ (zbu hb e)))).2.1
   cases f with
   | next=>obtain⟨σ7,H7,I7,n7⟩:=q7;exact again I7 n7
   | cont=>obtain⟨σ7,H7,I7,n7⟩:=q7;exact again I7 n7
   | brk=>obtain⟨σ7,H7,I7,q7⟩:=q7;exact⟨σ7,H7,I7.unpinned,q7⟩
   | ret v=>obtain⟨x7,σ7,H7,I7,r7,q7⟩:=q7;exact⟨x7,σ7,H7,I7.unpinned,r7,q7⟩
end
theorem jL{K:Ybf}{a:Addr}{xs:List V}{g:TG}{tb:TS}{D:Ends}{σ : St}{H:Hp}(Pv:Nat->St->Hp->Prop)(h0:Pv 0 σ H)(hl:∀ i σ H,i<=xs.length->Pv i σ H->SqL K H a xs)
 (hs:∀ i x σ H,xs[i]?=some x->Pv i σ H->g x σ H fun σ2 H2=>tb { D with nx:=Pv (i+1),ct:=Pv (i+1),bk:=D.nx } σ2 H2) (hd:∀ σ H,Pv xs.length σ H->D.nx σ H) :
 ∃ W:Nat->Nat->St->Hp->Prop,(∃ m,W 0 m σ H)/\∀ i m σ H,W i m σ H->
  ((Itl K a).stop i H/\D.nx σ H)\/((Itl K a).go i H/\∃ N:St->Hp->Prop,(∀ σ' H',N σ' H'->∃ m',m'<m/\W (i+1) m' σ' H')/\∀ x H',(Itl K a).yld i H x H'->g x σ H' fun σ2 H2=>tb { D with nx:=N,ct:=N,bk:=D.nx } σ2 H2):=by
 refine⟨fun i m σ H=>m=xs.length - i/\i<=xs.length/\Pv i σ H,⟨xs.length,by simp,Wbl _,h0⟩,?_⟩
 rintro i m σ H ⟨rfl,hi,p⟩
 have q:=hl i σ H hi p
 by_cases hlt:i<xs.length
 . refine .inr ⟨⟨xs,xs[i],q,by simp [hlt]⟩,Pv (i+1),fun σ' H' p'=>⟨xs.length - (i+1),#[0],rfl,hlt,p'⟩,fun x H' y=>?_⟩
   obtain⟨e,y⟩:=y;subst e;exact hs i x σ _ (y xs q) p
 . have e:i=xs.length:=#[0]
   subst e;exact .inl ⟨⟨xs,q,YaY _⟩,hd σ H p⟩
theorem Jn{c:TT}{tb:TS}{D:Ends}{σ : St}{H:Hp}(Pv:St->Hp->Prop)(μ : St->Hp->Nat)(h0:Pv σ H)
 (hs:∀ σ H,Pv σ H->c σ H fun b H1=>if b=true then tb { D with nx:=fun σ' H'=>Pv σ' H'/\μ σ' H' < μ σ H,ct:=fun σ' H'=>Pv σ' H'/\μ σ' H' < μ σ H,bk:=D.nx } σ H1 else D.nx σ H1)
 (mono:∀ σ H Q Q',(∀ b H1,Q b H1->Q' b H1)->c σ H Q->c σ H Q'):zeu c tb D σ H:=by
 refine⟨fun m σ H=>m = μ σ H/\Pv σ H,⟨_,rfl,h0⟩,?_⟩
 rintro m σ H ⟨rfl,p⟩
 refine mono σ H _ _ (fun b H1 q=>?_) (hs σ H p)
 cases b with
 | true=>exact⟨_,fun σ' H' ⟨p',l⟩=>⟨_,l,rfl,p'⟩,q⟩
 | false=>exact q
abbrev R2:=V->V->Hp->VK->Prop
def OpR(X:Cx)(f:Value->Value->Sem Value)(r:R2):Prop:=
 ∀ (pins:List #[17]) (s:Shared) (σ : St) (H:Hp) (x y:V) (v u:Value) (Q:VK),Inv X pins σ H s->RelV x v->RelV y u->r x y H Q->
  wpAny #[12] X.A (f v u) (EP X pins σ Q) X.xe s
def UnR(X:Cx)(f:Value->Sem Value)(r:V->Hp->VK->Prop):Prop:=
 ∀ (pins:List #[17]) (s:Shared) (σ : St) (H:Hp) (x:V) (v:Value) (Q:VK),Inv X pins σ H s->RelV x v->r x H Q->
  wpAny #[12] X.A (f v) (EP X pins σ Q) X.xe s
def zO(X:Cx)(f:Value)(r:List V->Hp->VK->Prop):Prop:=
 ∀ (pins:List #[17]) (s:Shared) (σ : St) (H:Hp) (xs:List V) (us:List Value) (Q:VK),Inv X pins σ H s->Vals xs us->r xs H Q->
  wpAny #[12] X.A (call f us) (EP X pins σ Q) X.xe s
def tOp(r:R2)(ta tb:TE):TE:=fun σ H Q=>ta σ H fun x H1=>tb σ H1 fun y H2=>r x y H2 Q
def tUn(r:V->Hp->VK->Prop)(ta:TE):TE:=fun σ H Q=>ta σ H fun x H1=>r x H1 Q
def rI(C:Int->Int->Prop)(g:Int->Int->V):R2:=fun x y H Q=>∃ i j,x=.int i/\y=.int j/\C i j/\Q (g i j) H
def rI0(g:Int->Int->V):R2:=fun x y H Q=>∃ i j,x=.int i/\y=.int j/\Q (g i j) H
def rU(g:Int->V):V->Hp->VK->Prop:=fun x H Q=>∃ i,x=.int i/\Q (g i) H
section
variable{X:Cx}{a b c:Expr}{ta tb tc:TE}{pos:Pos}
theorem binT(ha:PE X a ta)(hb:PE X b tb){pins:List #[17]}{s:Shared}{σ : St}{H:Hp}{R:V->V->Hp->Prop}(I:#[11])
 (h:ta σ H fun x H1=>tb σ H1 fun y H2=>R x y H2) {Q:#[13]} {f:Value->Value->Sem Value}
 (hf:∀ v u s2 x y H2,Inv X pins σ H2 s2->RelV x v->RelV y u->R x y H2->wpAny #[12] X.A (f v u) Q X.xe s2) :
 wpAny #[12] X.A (eval a X.env) (fun v s₁=>wpAny #[12] X.A (eval b X.env) (fun u s₂=>wpAny #[12] X.A (f v u) Q X.xe s₂) X.xe s₁) X.xe s:=by
 refine thn (ha pins s σ H _ I h) fun v s1 ⟨x,H1,I1,r1,q1⟩=>?_
 refine thn (hb pins s1 σ H1 _ I1 q1) fun u s2 ⟨y,H2,I2,r2,q2⟩=>?_
 exact hf v u s2 x y H2 I2 r1 r2 q2
theorem Jw{op:Operator}{r:R2}(ho:OpR X (binaryOp op) r)(ha:PE X a ta)(hb:PE X b tb):PE X (.BinOp a op b pos) (tOp r ta tb):=by
 intro pins s σ H Q I h;exact wpAny_BinOp (binT ha hb I h fun v u s2 x y H2 I2 rx ry q=>ho pins s2 σ H2 x y v u Q I2 rx ry q)
theorem zhd{op:UnaryOp}{r:V->Hp->VK->Prop}(ho:UnR X (unaryOp op) r)(ha:PE X a ta):PE X (.UnaryOp op a pos) (tUn r ta):=by
 intro pins s σ H Q I h;exact UnaryOp_ (thn (ha pins s σ H _ I h) fun v s1 ⟨x,H1,I1,r1,q1⟩=>ho pins s1 σ H1 x v Q I1 r1 q1)
theorem opI{f:Value->Value->Sem Value}{C:Int->Int->Prop}{g:Int->Int->Int}
 (rule:∀ (i j:Int) (t u:Tok) (s:Shared) (Q:#[13]) (E:#[13]),C i j->Q (.int (g i j) s.toks) { s with toks:=s.toks+1 }->wpAny #[12] X.A (f (.int i t) (.int j u)) Q E s) :
 OpR X f (rI C fun i j=>.int (g i j)):=by
 intro pins s σ H x y v u Q I rx ry h;obtain⟨i,j,rfl,rfl,hc,q⟩:=h;obtain⟨t,rfl⟩:=rx;obtain⟨t',rfl⟩:=ry;exact rule i j t t' s _ _ hc ⟨.int (g i j),H,I.tok _,⟨_,rfl⟩,q⟩
theorem opI0{f:Value->Value->Sem Value}{g:Int->Int->Int}
 (rule:∀ (i j:Int) (t u:Tok) (s:Shared) (Q:#[13]) (E:#[13]),Q (.int (g i j) s.toks) { s with toks:=s.toks+1 }->wpAny #[12] X.A (f (.int i t) (.int j u)) Q E s) :
 OpR X f (rI0 fun i j=>.int (g i j)):=by
 intro pins s σ H x y v u Q I rx ry h;obtain⟨i,j,rfl,rfl,q⟩:=h;obtain⟨t,rfl⟩:=rx;obtain⟨t',rfl⟩:=ry;exact rule i j t t' s _ _ ⟨.int (g i j),H,I.tok _,⟨_,rfl⟩,q⟩
theorem opB0{f:Value->Value->Sem Value}{g:Int->Int->Bool}
 (rule:∀ (i j:Int) (t u:Tok) (s:Shared) (Q:#[13]) (E:#[13]),Q (.bool (g i j)) s->wpAny #[12] X.A (f (.int i t) (.int j u)) Q E s) :
 OpR X f (rI0 fun i j=>.bl (g i j)):=by
 intro pins s σ H x y v u Q I rx ry h;obtain⟨i,j,rfl,rfl,q⟩:=h;obtain⟨t,rfl⟩:=rx;obtain⟨t',rfl⟩:=ry;exact rule i j t t' s _ _ ⟨.bl (g i j),H,I,rfl,q⟩
def CMul(i j:Int):Prop:=(-(2 ^ 64)<i/\i<2 ^ 64)\/(-(2 ^ 64)<j/\j<2 ^ 64)
theorem CMul.ok{i j:Int}(h:CMul i j):IntMulOk i j:=by
 rcases h with ⟨h1,h2⟩|⟨h1,h2⟩
 . exact .of_left (intBits_le_64 h1 h2)
 . exact .of_right (intBits_le_64 h1 h2)
theorem zc2:OpR X (binaryOp .Add) (rI0 fun i j=>.int (i+j)):=opI0 fun _ _ _ _ _ _ _ q=>add_int q
theorem ZH:OpR X (binaryOp .Sub) (rI0 fun i j=>.int (i - j)):=opI0 fun _ _ _ _ _ _ _ q=>sub_int q
theorem zjJ:OpR X (binaryOp .Mod) (rI (fun _ j=>0<j) fun i j=>.int (i%j)):=opI fun i j _ _ _ _ _ hc q=>by
 have h1:(0:Int)<j:=hc;exact mod_int' #[0] (by rw [Int.fmod_eq_emod_of_nonneg i #[0]];exact q)
theorem unI{f:Value->Sem Value}{g:Int->Int}
 (rule:∀ (i:Int) (t:Tok) (s:Shared) (Q:#[13]) (E:#[13]),Q (.int (g i) s.toks) { s with toks:=s.toks+1 }->wpAny #[12] X.A (f (.int i t)) Q E s) :
 UnR X f (rU fun i=>.int (g i)):=by
 intro pins s σ H x v Q I rx h;obtain⟨i,rfl,q⟩:=h;obtain⟨t,rfl⟩:=rx;exact rule i t s _ _ ⟨.int (g i),H,I.tok _,⟨_,rfl⟩,q⟩
theorem zjz:UnR X (unaryOp .USub) (rU fun i=>.int (-i)):=unI fun _ _ _ _ _ q=>neg_int q
end
def scal:V->V->Bool
 | .non,.non=>true|.non,.int _=>true|.int _,.non=>true|.non,.bl _=>true|.bl _,.non=>true|.non,.str _=>true|.str _,.non=>true
 | .int _,.int _=>true|.bl _,.bl _=>true|.str _,.str _=>true|.byt _,.byt _=>true
 | .int _,.str _=>true|.str _,.int _=>true|.bl _,.str _=>true|.str _,.bl _=>true
 | _,_=>false
def rEq:R2:=fun x y H Q=>scal x y=true/\Q (.bl (decide (x=y))) H
def rNe:R2:=fun x y H Q=>scal x y=true/\Q (.bl (!decide (x=y))) H
theorem zeS{i j:Int}:decide (V.int i=V.int j)=(i==j):=by
 rw [Bool.eq_iff_iff]
 simp
theorem zgh{i j:Bool}:decide (V.bl i=V.bl j)=(i==j):=by
 rw [Bool.eq_iff_iff]
 simp
theorem zdX{i j:Str}:decide (V.str i=V.str j)=(i==j):=by
 rw [Bool.eq_iff_iff]
 simp
theorem zdZ{i j:Array UInt8}:decide (V.byt i=V.byt j)=(i.toList==j.toList):=by
 rw [Bool.eq_iff_iff];cases i;cases j
 simp
section
variable{X:Cx}{a b c:Expr}{ta tb tc:TE}{pos:Pos}
theorem zL{pins:List #[17]}{σ : St}{H:Hp}{s:Shared}{Q:VK}{k k':Bool}(I:#[11])(q:Q (.bl k) H)(e:k=k'):EP X pins σ Q (.bool k') s:=by
 subst e;exact⟨.bl k,H,I,rfl,q⟩
theorem zfo:OpR X (compareOp .Eq) rEq:=by
 intro pins s σ H x y v u Q I rx ry h;obtain⟨hs,q⟩:=h;cases x with
 | non=>
  cases rx;cases y with
  | non=>cases ry;exact PySem.EqNone.eq_none_none (zL I q (by simp))
  | bl j=>cases ry;exact PySem.EqNone.eq_none_bool (zL I q (by simp))
  | int j=>obtain⟨t',rfl⟩:=ry;exact PySem.EqNone.eq_none_int (zL I q (by simp))
  | str j=>obtain⟨t',rfl⟩:=ry;exact PySem.EqNone.eq_none_str (zL I q (by simp))
  | _=>exact absurd (show false=true from hs) Yal
 | bl i=>
  cases rx;cases y with
  | non=>cases ry;exact PySem.EqNone.eq_bool_none (zL I q (by simp))
  | bl j=>cases ry;exact eq_bool (zL I q zgh)
  | str j=>obtain⟨t',rfl⟩:=ry;exact PySem.EqMixed.eq_bool_str (zL I q (by simp))
  | _=>exact absurd (show false=true from hs) Yal
 | int i=>
  obtain⟨t,rfl⟩:=rx;cases y with
  | non=>cases ry;exact PySem.EqNone.eq_int_none (zL I q (by simp))
  | int j=>obtain⟨t',rfl⟩:=ry;exact eq_int (zL I q zeS)
  | str j=>obtain⟨t',rfl⟩:=ry;exact PySem.EqMixed.eq_int_str (zL I q (by simp))
  | _=>exact absurd (show false=true from hs) Yal
 | str i=>
  obtain⟨t,rfl⟩:=rx;cases y with
  | non=>cases ry;exact PySem.EqNone.eq_str_none (zL I q (by simp))
  | bl j=>cases ry;exact PySem.EqMixed.eq_str_bool (zL I q (by simp))
  | int j=>obtain⟨t',rfl⟩:=ry;exact PySem.EqMixed.eq_str_int (zL I q (by simp))
  | str j=>obtain⟨t',rfl⟩:=ry;exact eq_str (zL I q zdX)
  | _=>exact absurd (show false=true from hs) Yal
 | byt i=>
  obtain⟨t,rfl⟩:=rx;cases y with
  | byt j=>obtain⟨t',rfl⟩:=ry;exact PySem.W.eq_bytes (zL I q zdZ)
  | _=>exact absurd (show false=true from hs) Yal
 | _=>cases y<;>exact absurd (show false=true from hs) Yal
theorem zeq:OpR X (compareOp .NotEq) rNe:=by
 intro pins s σ H x y v u Q I rx ry h;obtain⟨hs,q⟩:=h;cases x with
 | non=>
  cases rx;cases y with
  | non=>cases ry;exact PySem.EqNone.ne_none_none (zL I q (by simp))
  | bl j=>cases ry;exact PySem.EqNone.ne_none_bool (zL I q (by simp))
  | int j=>obtain⟨t',rfl⟩:=ry;exact PySem.EqNone.ne_none_int (zL I q (by simp))
  | str j=>obtain⟨t',rfl⟩:=ry;exact PySem.EqNone.ne_none_str (zL I q (by simp))
  | _=>exact absurd (show false=true from hs) Yal
 | bl i=>
  cases rx;cases y with
  | non=>cases ry;exact PySem.EqNone.ne_bool_none (zL I q (by simp))
  | bl j=>cases ry;exact ne_bool (zL I q (congrArg not zgh))
  | str j=>obtain⟨t',rfl⟩:=ry;exact PySem.EqMixed.ne_bool_str (zL I q (by simp))
  | _=>exact absurd (show false=true from hs) Yal
 | int i=>
  obtain⟨t,rfl⟩:=rx;cases y with
  | non=>cases ry;exact PySem.EqNone.ne_int_none (zL I q (by simp))
  | int j=>obtain⟨t',rfl⟩:=ry;exact ne_int (zL I q (congrArg not zeS))
  | str j=>obtain⟨t',rfl⟩:=ry;exact PySem.EqMixed.ne_int_str (zL I q (by simp))
  | _=>exact absurd (show false=true from hs) Yal
 | str i=>
  obtain⟨t,rfl⟩:=rx;cases y with
  | non=>cases ry;exact PySem.EqNone.ne_str_none (zL I q (by simp))
  | bl j=>cases ry;exact PySem.EqMixed.ne_str_bool (zL I q (by simp))
  | int j=>obtain⟨t',rfl⟩:=ry;exact PySem.EqMixed.ne_str_int (zL I q (by simp))
  | str j=>obtain⟨t',rfl⟩:=ry;exact ne_str (zL I q (congrArg not zdX))
  | _=>exact absurd (show false=true from hs) Yal
 | byt i=>
  obtain⟨t,rfl⟩:=rx;cases y with
  | byt j=>obtain⟨t',rfl⟩:=ry;exact PySem.W.ne_bytes (zL I q (congrArg not zdZ))
  | _=>exact absurd (show false=true from hs) Yal
 | _=>cases y<;>exact absurd (show false=true from hs) Yal
theorem zen:OpR X (compareOp .Lt) (rI0 fun i j=>.bl (decide (i<j))):=opB0 fun _ _ _ _ _ _ _ q=>lt_int q
theorem ziR:OpR X (compareOp .LtE) (rI0 fun i j=>.bl (decide (i<=j))):=opB0 fun _ _ _ _ _ _ _ q=>le_int q
theorem zly:OpR X (compareOp .Gt) (rI0 fun i j=>.bl (decide (j<i))):=opB0 fun _ _ _ _ _ _ _ q=>gt_int q
theorem zjE:OpR X (compareOp .GtE) (rI0 fun i j=>.bl (decide (j<=i))):=opB0 fun _ _ _ _ _ _ _ q=>ge_int q
theorem zl7:OpR X (compareOp .Is) (fun x y H Q=>y=.non/\Q (.bl (decide (x=.non))) H):=by
 intro pins s σ H x y v u Q I rx ry h;obtain⟨rfl,q⟩:=h;cases ry;refine is_none_gen (zL I q ?_);cases x<;>first
  | (cases rx;rfl)
  | (obtain⟨t,rfl⟩:=rx;rfl)
theorem zlL:OpR X (compareOp .IsNot) (fun x y H Q=>y=.non/\Q (.bl (!decide (x=.non))) H):=by
 intro pins s σ H x y v u Q I rx ry h;obtain⟨rfl,q⟩:=h;cases ry;refine isnot_none_gen (zL I q ?_);cases x<;>first
  | (cases rx;rfl)
  | (obtain⟨t,rfl⟩:=rx;rfl)
theorem OpR.or{f:Value->Value->Sem Value}{r r':R2}(h:OpR X f r)(h':OpR X f r'):OpR X f (fun x y H Q=>r x y H Q\/r' x y H Q):=by
 intro pins s σ H x y v u Q I rx ry q
 rcases q with q|q
 . exact h pins s σ H x y v u Q I rx ry q
 . exact h' pins s σ H x y v u Q I rx ry q
theorem nomark(b:Expr){op:CmpOp}(h:op≠.In:=by decide)(h2:op≠.NotIn:=by decide):behindInMarks op b=false:=by
 have e1:(op==CmpOp.In)=false:=by cases op<;>first|rfl|exact absurd rfl h
 have e2:(op==CmpOp.NotIn)=false:=by cases op<;>first|rfl|exact absurd rfl h2
 cases b<;>simp [behindInMarks,e1,e2]
theorem zkX{op:CmpOp}{r:R2}(ho:OpR X (compareOp op) r)(ha:PE X a ta)(hb:PE X b tb)(hm:behindInMarks op b=false):PE X (.Compare a [op] [b] pos) (tOp r ta tb):=by
 intro pins s σ H Q I h;exact wpAny_Compare1 (binT ha hb I h fun v u s2 x y H2 I2 rx ry q=>ho pins s2 σ H2 x y v u Q I2 rx ry q) hm
def zaL(t:TE):TT:=fun σ H Q=>t σ H fun x H'=>∃ k,x=.bl k/\Q k H'
theorem zbG{op:CmpOp}{r:R2}(ho:OpR X (compareOp op) r)(ha:PE X a ta)(hb:PE X b tb)(hm:behindInMarks op b=false):PT X (.Compare a [op] [b] pos) (zaL (tOp r ta tb)):=by
 intro pins s σ H Q I h;refine wpAny_isTrue_Compare1 (thn (ha pins s σ H _ I h) fun v s1 ⟨x,H1,I1,r1,q1⟩=>thn (hb pins s1 σ H1 _ I1 q1) fun u s2 ⟨y,H2,I2,r2,q2⟩=>
  thn (ho pins s2 σ H2 x y v u _ I2 r1 r2 q2) fun c s3 ⟨z,H3,I3,r3,k,e,q3⟩=>?_) hm
 subst e;cases r3;exact wpAny_truthy_bool ⟨H3,I3,q3⟩
def zfh(r r':R2)(ta tb tc:TE):TE:=fun σ H Q=>ta σ H fun x H1=>tb σ H1 fun y H2=>r x y H2 fun z H3=>∃ k,z=.bl k/\
 (if k=true then tc σ H3 fun w' H4=>r' y w' H4 Q else Q (.bl false) H3)
theorem zj4{op op':CmpOp}{r r':R2}(ho:OpR X (compareOp op) r)(ho':OpR X (compareOp op') r')(ha:PE X a ta)(hb:PE X b tb)(hc:PE X c tc)
 (hm:lastMarks [op,op'] [b,c]=false:=by with_unfolding_all rfl):PT X (.Compare a [op,op'] [b,c] pos) (zaL (zfh r r' ta tb tc)):=by
 intro pins s σ H Q I h;refine isTrue_chain (thn (ha pins s σ H _ I h) fun v s1 ⟨x,H1,I1,r1,q1⟩=>test_link (thn (hb pins s1 σ H1 _ I1 q1) fun u s2 ⟨y,H2,I2,r2,q2⟩=>
  thn (ho pins s2 σ H2 x y v u _ I2 r1 r2 q2) fun d s3 ⟨z,H3,I3,r3,k,e,q3⟩=>?_)) hm
 subst e;cases r3;refine wpAny_truthy_bool ?_;cases k with
 | false=>
  obtain⟨k',e',q'⟩:=q3;cases e';exact ite_ff ⟨H3,I3,q'⟩
 | true=>
  refine ite_tt (test_last (thn (hc pins s3 σ H3 _ I3 q3) fun w' s4 ⟨z',H4,I4,r4,q4⟩=>thn (ho' pins s4 σ H4 y z' u w' _ I4 r2 r4 q4) fun d' s5 ⟨z2,H5,I5,r5,k2,e2,q5⟩=>?_))
  subst e2;cases r5;exact wpAny_truthy_bool ⟨H5,I5,q5⟩
theorem JA:(sizeLine:Nat)<2 ^ 63:=by rw [sizeLine_eq];decide
theorem ziM:OpR X (binaryOp .Add) (fun x y H Q=>∃ i j,x=.str i/\y=.str j/\i.length+j.length<=sizeLine/\Q (.str (i++j)) H):=by
 intro pins s σ H x y v u Q I rx ry h;obtain⟨i,j,rfl,rfl,hz,q⟩:=h;obtain⟨t,rfl⟩:=rx;obtain⟨t',rfl⟩:=ry;exact add_str (fun t' tk=>⟨.str (i++j),H,I.tok _,⟨_,rfl⟩,q⟩) hz
theorem Jr{x:V}{us:List Value}(r:Vals [x] us):∃ u,us=[u]/\RelV x u:=by
 cases r with
 | cons r1 r2=>cases r2;exact⟨_,rfl,r1⟩
theorem zbf{x y:V}{us:List Value}(r:Vals [x,y] us):∃ u w',us=[u,w']/\RelV x u/\RelV y w':=by
 cases r with
 | cons r1 r2=>
  cases r2 with
  | cons r3 r4=>cases r4;exact⟨_,_,rfl,r1,r3⟩
theorem zjt:zO X (.builtin "abs") (fun xs H Q=>∃ i,xs=[.int i]/\Q (.int (if i<0 then -i else i)) H):=by
 intro pins s σ H xs us Q I r h;obtain⟨i,rfl,q⟩:=h;obtain⟨u,rfl,t,rfl⟩:=Jr r;exact call_abs_int fun u tk=>⟨.int (if i<0 then -i else i),H,I.tok _,⟨_,rfl⟩,q⟩
theorem zlD(hc:X.calm=true):zO X (.builtin "max") (fun xs H Q=>∃ i j,xs=[.int i,.int j]/\Q (.int (if j > i then j else i)) H):=by
 intro pins s σ H xs us Q I r h;obtain⟨i,j,rfl,q⟩:=h;obtain⟨u,w',rfl,⟨t,rfl⟩,⟨t',rfl⟩⟩:=zbf r;refine max_two_ints (I.ok.hd hc) fun h' tk k=>⟨_,H,I.kept k,?_,q⟩
 by_cases hj:j > i
 . rw [if_pos hj,if_pos hj];exact⟨_,rfl⟩
 . rw [if_neg hj,if_neg hj];exact⟨_,rfl⟩
theorem zgP(hc:X.calm=true):zO X (.builtin "min") (fun xs H Q=>∃ i j,xs=[.int i,.int j]/\Q (.int (if j<i then j else i)) H):=by
 intro pins s σ H xs us Q I r h;obtain⟨i,j,rfl,q⟩:=h;obtain⟨u,w',rfl,⟨t,rfl⟩,⟨t',rfl⟩⟩:=zbf r;refine min_two_ints (I.ok.hd hc) fun h' tk k=>⟨_,H,I.kept k,?_,q⟩
 by_cases hj:j<i
 . rw [if_pos hj,if_pos hj];exact⟨_,rfl⟩
 . rw [if_neg hj,if_neg hj];exact⟨_,rfl⟩
end
structure ObjM(h:Heap)(x dx C:Addr)(mA:#[15]):Prop where
 obj:h.get? x=some (PySem.W.instObj C dx)
 ns:h.Ns1 dx mA
 ne:dx≠x
theorem zkn{h:Heap}{dx:Addr}{mA:#[15]}(n:h.Ns1 dx mA):∃ od,h.get? dx=some od/\∀ name,PySem.W.lookIn name od=some (mA name):=by
 obtain⟨o,es,ep,ho,hd,hk,_,hm⟩:=n;refine⟨o,ho,fun name=>?_⟩
 have e:=hm name;unfold nsFind findBy at e;rw [<-Array.find?_toList] at e;unfold PySem.W.lookIn;rw [hd];dsimp only
 split
 . rename_i y q
   rw [q] at e;exact congrArg some e
 . rename_i q
   rw [q] at e;have a:es.toList.any (·.refKey)=false:=by
    rw [List.any_eq_false];intro y hy;obtain⟨z,t,hkey⟩:=hk y (Array.mem_toList_iff.mp hy)
    simp [DictEntry.refKey,hkey]
   have a':¬es.toList.any (·.refKey)=true:=by rw [a];exact Yal
   rw [if_neg a'];exact congrArg some e
theorem ObjM.look{h:Heap}{x dx C:Addr}{mA:#[15]}(I:ObjM h x dx C mA):∃ od,PySem.W.InstAt h x (PySem.W.instObj C dx) C (some od)/\∀ name,PySem.W.lookIn name od=some (mA name):=
 let ⟨od,ho,hl⟩:=zkn I.ns
 ⟨od,⟨I.obj,rfl,rfl,ho⟩,hl⟩
section
variable{prog:Program}{w:World}{A:Around}{E:#[13]}{s:Shared}{K:Ybf}{x dx C f:Addr}{mA:#[15]}{name:Str}{v:Value}
theorem zld{expr:Bool}{Q:#[13]}(X:K.In s.heap)(I:ObjM s.heap x dx C mA)(hg:PySem.W.plainGet K C name=true)(hh:PySem.W.hasDictIn K C=true)
 (ha:PySem.W.findIn K (.ref C) name=some none) (hv:mA name=some v) (hv':PySem.W.handedIn v=true) (h:Q v { s with toks:=s.toks+1 }) :
 wpAny (model prog w) A (getAttr (.ref x) name expr) Q E s:=by
 obtain⟨od,J,hl⟩:=I.look;exact PySem.W.get_value X J (PySem.W.plainGet_of hg).1 (PySem.W.findObj_own hh ha rfl (by rw [hl,hv])) hv' h
theorem zgT{ns:List Str}{Q:Unit->Shared->Prop}(X:K.In s.heap)(I:ObjM s.heap x dx C mA)
 (hs:PySem.W.findIn K (.ref C) "__setattr__" = some (some (.builtin "object.__setattr__"))) (hp:PySem.W.plainOver K C=true) (ht:PySem.W.takerIn K C name=some none) (hh:PySem.W.hasDictIn K C=true)
 (hw:PySem.Within mA ns) (hsz:ns.length<=sizeLine)
 (h:∀ h',ObjM h' x dx C (fun y=>if y=name then some v else mA y)->Heap.SameBut dx s.heap h'->Q () { s with heap:=h',toks:=s.toks+2 }) :
 wpAny (model prog w) A (setAttr (.ref x) name v) Q E s:=by
 obtain⟨od,J,hl⟩:=I.look;refine PySem.W.set_plain X J hs (PySem.W.osa_open (s:={ s with toks:=s.toks+1 }) (r:=none) X J hp ht fun b=>?_)
 obtain⟨cd,hc,hd'⟩:=PySem.W.any_some hh;have hx:s.heap.get? x=some ⟨.ref C,some dx,.plain,#[]⟩:=I.obj;refine wpAny_bind (wpAny_pure (wpAny_bind (wpAny_bind (wpAny_loadPart hx (wpAny_bind (PySem.W.Looks.here (s:={ s with toks:=s.toks+1 }) (PySem.W.looks_clsIn X hc) ?_))))))
 rw [hd'];refine wpAny_pure (a:=some dx) (wpAny_bind (wpAny_pure (wpAny_bind ?_)));refine wpAny_nsSet1 (s:={ s with toks:=s.toks+1 }) I.ns fun h' hn2 hs2=>?_
 obtain⟨oD,esD,epD,hoD,hdD,hcD⟩:=hn2.count (PySem.Within.cons name v hw);refine wpAny_bind (wpAny_lookBehind hoD (by rw [hdD];exact pastItsLine_dict (Ya5 hcD (by rw [List.length_cons];omega))) ?_)
 exact wpAny_pure (h _ ⟨(hs2.2 _ (Wbo I.ne)).trans I.obj,hn2,I.ne⟩ hs2)
theorem zio{R:Result->Shared->Prop}{vs:List Value}{kw:List (Str×Value)}(X:K.In s.heap)(hm:PySem.W.makesIn K C=true)
 (hi:PySem.W.findIn K (.ref C) "__init__" = some (some (.ref f))) (hf:PySem.W.typeIn K (.ref f)=some (.type "function"))
 (h:codeAny (model prog w) (A.under (.builtin "type.__call__" ⟨.ref C::vs,kw⟩)) (.call (.ref f) ⟨.ref #[21]::vs,kw⟩) (PySem.W.InitBack #[21] R)
  { s with heap:=(s.heap.push PySem.W.emptyDict).push (PySem.W.instObj C s.heap.objs.size) }) :
 codeAny (model prog w) A (.call (.ref C) ⟨vs,kw⟩) R s:=by
 obtain⟨hh,g,d,t,os⟩:=s;exact PySem.W.make_core (PySem.W.makes_of X hm) (PySem.W.looks_findIn X hi) (fun self=>PySem.W.bind_fn X self hf) (.inl rfl) h
end
def putF(f:Str)(v:V):List (Str×V)->List (Str×V)
 | []=>[(f,v)]
 | (g,x)::r=>if g=f then(g,v)::r else(g,x)::putF f v r
theorem zgb(f g:Str)(v:V):∀ fs:List (Str×V),(putF f v fs).lookup g=if g=f then some v else fs.lookup g
 | [] => by
  show List.lookup g [(f,v)]=_
  by_cases h:g=f
  . have hb:(g==f)=true:=beq_iff_eq.mpr h
    simp only [List.lookup,hb,if_pos h]
  . have hb:(g==f)=false:=beq_eq_false_iff_ne.mpr h
    simp only [List.lookup,hb,if_neg h]
 | (k, x) :: r => by
  have ih:=zgb f g v r;rw [show putF f v ((k,x)::r)=(if k=f then(k,v)::r else(k,x)::putF f v r) from rfl]
  by_cases hk:k=f
  . rw [if_pos hk]
    by_cases h:g=k
    . have hb:(g==k)=true:=beq_iff_eq.mpr h
      simp only [List.lookup,hb,if_pos (h.trans hk)]
    . have hb:(g==k)=false:=beq_eq_false_iff_ne.mpr h
      simp only [List.lookup,hb,if_neg (fun e:g=f=>h (e.trans hk.symm))]
  . rw [if_neg hk]
    by_cases h:g=k
    . have hb:(g==k)=true:=beq_iff_eq.mpr h
      simp only [List.lookup,hb,if_neg (fun e:g=f=>hk (h.symm.trans e))]
    . have hb:(g==k)=false:=beq_eq_false_iff_ne.mpr h
      simp only [List.lookup,hb];exact ih
theorem zcw(f:Str)(v:V):∀ fs:List (Str×V),f∈(putF f v fs).map (·.1)/\∀ g,g∈fs.map (·.1)->g∈(putF f v fs).map (·.1)
 | []=>⟨by simp [putF],fun g h=>by simp at h⟩
 | (k, x) :: r => by
  obtain⟨i1,i2⟩:=zcw f v r;rw [show putF f v ((k,x)::r)=(if k=f then(k,v)::r else(k,x)::putF f v r) from rfl]
  by_cases hk:k=f
  . rw [if_pos hk]
    subst hk;exact⟨by simp,fun g h=>by simpa using h⟩
  . rw [if_neg hk]
    refine⟨?_,fun g h=>?_⟩
    . rw [Ya1]
      exact YaT _ i1
    . rw [Ya1] at h ⊢
      rcases Wa4.mp h with e|e
      . exact Wa4.mpr (.inl e)
      . exact YaT _ (i2 g e)
theorem zf9(f:Str)(v:V):∀ fs:List (Str×V),(putF f v fs).length<=fs.length+1
 | []=>by simp [putF]
 | (k, x) :: r => by
  have ih:=zf9 f v r;rw [show putF f v ((k,x)::r)=(if k=f then(k,v)::r else(k,x)::putF f v r) from rfl]
  by_cases hk:k=f
  . rw [if_pos hk,List.length_cons,List.length_cons];omega
  . rw [if_neg hk,List.length_cons,List.length_cons];omega
theorem RelO.some_of{v:V}{o:Option Value}(r:RelO (some v) o):∃ u,o=some u/\RelV v u:=by
 cases o with
 | none=>exact(show False from r).elim
 | some u=>exact⟨u,rfl,r⟩
theorem RelO.none_of{o:Option Value}(r:RelO none o):o=none:=by
 cases o with
 | none=>rfl
 | some u=>exact(show False from r).elim
theorem zh5{v:V}{u:Value}(r:RelV v u):PySem.W.handedIn u=true:=by
 cases v with
 | non=>cases(show u=Value.none from r);rfl
 | bl b=>cases(show u=Value.bool b from r);rfl
 | int i=>obtain⟨t,e⟩:=(show ∃ t,u=Value.int i t from r);cases e;rfl
 | str x=>obtain⟨t,e⟩:=(show ∃ t,u=Value.str x t from r);cases e;rfl
 | byt b=>obtain⟨t,e⟩:=(show ∃ t,u=Value.bytes b t from r);cases e;rfl
 | flt b=>obtain⟨t,e⟩:=(show ∃ t,u=Value.float b t from r);cases e;rfl
 | ref a=>cases(show u=Value.ref a from r);rfl
 | ty n=>cases(show u=Value.type n from r);rfl
section
variable{P:Program}{w:World}{H H':Hp}{h h':Heap}{a C dx:Addr}{fs fs':List (Str×V)}
theorem zfK(hok:HOk P w H h)(e:H a=some (.ins C dx fs)):∃ mA,ObjM h a dx C mA/\(∀ f,RelO (fs.lookup f) (mA f))/\PySem.Within mA (fs.map (·.1))/\fs.length<=1000/\H dx=some (.own a):=by
 obtain⟨d,z,ne,ob,mA,n,r,q⟩:=(show zI P w H h a (.ins C dx fs) from hok a _ e)
 exact⟨mA,⟨ob,n,ne⟩,r,q,z,d⟩
end
structure Cls(K:Ybf)(C:Addr):Prop where
 pg:PySem.W.plainGet K C Str.empty=true
 hd:PySem.W.hasDictIn K C=true
 po:PySem.W.plainOver K C=true
 sa:PySem.W.findIn K (.ref C) "__setattr__" = some (some (.builtin "object.__setattr__"))
theorem Cls.get{K:Ybf}{C:Addr}(c:Cls K C)(f:Str):PySem.W.plainGet K C f=true:=c.pg
def zQ(K:Ybf)(C:Addr)(f:Str):Prop:=PySem.W.findIn K (.ref C) f=some none
theorem zQ.taker{K:Ybf}{C:Addr}{f:Str}(n:zQ K C f):PySem.W.takerIn K C f=some none:=by
 unfold PySem.W.takerIn;rw [show PySem.W.findIn K (.ref C) f=some none from n]
 rfl
section
variable{X:Cx}{pins:List #[17]}{σ : St}{H:Hp}{s:Shared}{a C dx:Addr}{fs:List (Str×V)}{f:Str}{v:V}{A:Around}{E:#[13]}
theorem zjk{b:Bool}{Q:#[13]}(I:#[11])(e:H a=some (.ins C dx fs))(c:Cls X.K C)(n:zQ X.K C f)(l:fs.lookup f=some v)
 (h:∀ u s',Inv X pins σ H s'->RelV v u->Q u s'):wpAny #[12] A (getAttr (.ref a) f b) Q E s:=by
 obtain⟨mA,O,r,_,_,_⟩:=zfK I.hok e;obtain⟨u,hu,ru⟩:=RelO.some_of (v:=v) (o:=mA f) (by rw [<-l];exact r f)
 exact zld I.kIn O (c.get f) c.hd n hu (zh5 ru) (h u _ (I.tok _) ru)
theorem zgu{y:V}{u:Value}{Q:Unit->Shared->Prop}(I:#[11])(e:H a=some (.ins C dx fs))(c:Cls X.K C)(n:zQ X.K C f)(hl:fs.length<1000)(ry:RelV y u)
 (h:∀ s',Inv X pins σ (upd H a (.ins C dx (putF f y fs))) s'->Q () s'):wpAny #[12] A (setAttr (.ref a) f u) Q E s:=by
 obtain⟨mA,O,r,wi,_,ho⟩:=zfK I.hok e;have hz:(fs.map (·.1)).length<=sizeLine:=by rw [YaR,sizeLine_eq];omega
 refine zgT I.kIn O c.sa c.po n.taker c.hd wi hz fun h' O' sb=>h _ ?_
 have hd:∃ o,h'.get? dx=some o:=let ⟨o,_,_,e',_⟩:=O'.ns;⟨o,e'⟩;refine I.write (x:=a) (e:=dx) (by rw [e];exact True.intro) (.inr ho) (fun b q hb z=>(sb.2 b hb).trans z) hd ?_
 refine⟨by rw [zc O.ne];exact ho,?_,O.ne,O'.obj,_,O'.ns,fun g=>?_,fun g hg=>?_⟩
 . have:=zf9 f y fs;omega
 . show RelO ((putF f y fs).lookup g) (if g=f then some u else mA g)
   rw [zgb]
   by_cases q:g=f
   . rw [if_pos q,if_pos q];exact ry
   . rw [if_neg q,if_neg q];exact r g
 . by_cases q:g=f
   . rw [q];exact(zcw f y fs).1
   . refine(zcw f y fs).2 g (wi g fun z=>hg ?_)
     show(if g=f then some u else mA g)=none
     rw [if_neg q];exact z
theorem Inv.made(I:#[11]):Inv X pins σ (upd (upd H s.heap.objs.size (.own #[21])) #[21] (.ins C s.heap.objs.size []))
 { s with heap:=(s.heap.push PySem.W.emptyDict).push (PySem.W.instObj C s.heap.objs.size) }:=by
 have e1:(s.heap.push PySem.W.emptyDict).get? s.heap.objs.size=some PySem.W.emptyDict:=Yan s.heap rfl;have e2:((s.heap.push PySem.W.emptyDict).push (PySem.W.instObj C s.heap.objs.size)).get? #[21]=some (PySem.W.instObj C s.heap.objs.size):=by
  have:=Yan (s.heap.push PySem.W.emptyDict) (o:=PySem.W.instObj C s.heap.objs.size) rfl;rwa [Wa1] at this
 have e3:(s.heap.push PySem.W.emptyDict).Ns s.heap.objs.size (fun _=>none):=⟨PySem.W.emptyDict,#[],_,e1,rfl,(fun e he=>absurd he (by simp)),fun _=>rfl⟩
 have I1:=I.laid (a:=s.heap.objs.size) (o:=.own #[21]) (h':=s.heap.push PySem.W.emptyDict) (t':=s.toks) (fun b u q=>YaW _ q) (YaY _) ⟨_,e1⟩
 refine I1.laid (a:=s.heap.objs.size+1) (o:=.ins C s.heap.objs.size []) (t':=s.toks) (fun b u q=>YaW _ q) (Nat.le_of_eq (Wa1 _ _)) ?_
 have ne:s.heap.objs.size≠s.heap.objs.size+1:=Yaf (WaM _);refine⟨by rw [zc ne,zf],Wbl _,ne,e2,fun _=>none,(Heap.Ns1.of_empty e3).at fun o q=>YaW _ q,fun _=>True.intro,fun y hy=>absurd rfl hy⟩
theorem zlR{prog:Program}{w:World}{env:Env}{e:Expr}{f:Str}{pos:Pos}{s:Shared}{Q:#[13]}(hb:attributeBase e f env (eval e env)=eval e env)
 (h:wpAny (model prog w) A (eval e env) (fun o s₁=>wpAny (model prog w) A (getAttr o f true) Q E s₁) E s):wpAny (model prog w) A (eval (.Attribute e f pos) env) Q E s:=
 Attribute_any_ h (by rw [arm_eval_Attribute,hb])
end
def tFld(K:Ybf)(ta:TE)(f:Str):TE:=fun σ H Q=>ta σ H fun x H1=>∃ a C dx fs v,x=.ref a/\H1 a=some (.ins C dx fs)/\Cls K C/\zQ K C f/\fs.lookup f=some v/\Q v H1
def sFld(K:Ybf)(ta tv:TE)(f:Str):TS:=fun D σ H=>tv σ H fun y H1=>ta σ H1 fun x H2=>∃ a C dx fs,x=.ref a/\H2 a=some (.ins C dx fs)/\Cls K C/\zQ K C f/\fs.length<1000/\
 D.nx σ (upd H2 a (.ins C dx (putF f y fs)))
section
variable{X:Cx}{o e value:Expr}{f:Str}{pos pos' tpos:Pos}{ta tv:TE}
theorem jF(he:PE X e ta)(hb:attributeBase e f X.env (eval e X.env)=eval e X.env):PE X (.Attribute e f pos) (tFld X.K ta f):=by
 intro pins s σ H Q I h;refine zlR hb (thn (he pins s σ H _ I h) fun u s1 ⟨x,H1,I1,rx,a,C,dx,fs,v,ex,ea,c,n,l,q⟩=>?_)
 subst ex;obtain rfl:u=Value.ref a:=rx;exact zjk I1 ea c n l fun u' s2 I2 ru=>⟨v,H1,I2,ru,q⟩
theorem ZX(ha:PE X o ta)(hv:PE X value tv)(hs:swapsWith value (some (.Attribute o f pos')) pos.line X.env=pure false):PS X (.Assign [.Attribute o f pos'] value pos) (sFld X.K ta tv f):=by
 intro pins s σ H D I h;refine plainObj_wpAny_Assign_Attribute (thn (hv pins s σ H _ I h) fun u s1 ⟨y,H1,I1,ry,q⟩=>thn (ha pins s1 σ H1 _ I1 q) fun ov s2 ⟨x,H2,I2,rx,a,C,dx,fs,ex,ea,c,n,l,q2⟩=>?_) hs
 subst ex;obtain rfl:ov=Value.ref a:=rx;exact zgu I2 ea c n l ry fun s3 I3=>⟨σ,_,I3,q2⟩
end
section
variable{X:Cx}{pins:List #[17]}{σ : St}{H:Hp}{s:Shared}{A:Around}{E:#[13]}{Q:#[13]}{c:Value}{b:Bool}
end
structure Room(k:Nat)(A:Around):Prop where
 hd:A.handled=none
 dp:A.depth+3*k+5<recursionLimit
 un:A.units+16*k+200<cLine
theorem Room.mono{j k:Nat}{A:Around}(r:Room k A)(h:j<=k):Room j A:=⟨r.hd,by have:=r.dp;omega,by have:=r.un;omega⟩
theorem Room.deeper{k:Nat}{A:Around}(r:Room (k+1) A)(env:Env):Room k (A.deeper env):=
 ⟨r.hd,by have:=r.dp;show A.depth+1+3*k+5<_;omega,by have:=r.un;show A.units+3+16*k+200<_;omega⟩
theorem Room.in1{k:Nat}{A:Around}(r:Room (k+1) A):Room k A.in1:=
 ⟨r.hd,by have:=r.dp;show A.depth+3*k+5<_;omega,by have:=r.un;show A.units+1+16*k+200<_;omega⟩
theorem zlo{A:Around}{C:Addr}{us:List Value}{kw:List (Str×Value)}:(A.under (.builtin "type.__call__" ⟨.ref C::us,kw⟩)).depth=A.depth+1:=by
 first|rfl|simp [Around.under,Code.weight,Code.isCreation,Code.isGuard,Code.isCaller,Code.frames,Code.isFrame,guardIds]
theorem zlu{A:Around}{C:Addr}{us:List Value}{kw:List (Str×Value)}:(A.under (.builtin "type.__call__" ⟨.ref C::us,kw⟩)).units=A.units+1:=by
 first|rfl|simp [Around.under,Code.cUnits,Code.frames,Code.isFrame]
theorem Room.make{k:Nat}{A:Around}(r:Room (k+1) A)(C:Addr)(us:List Value)(kw:List (Str×Value)):Room k (A.under (.builtin "type.__call__" ⟨.ref C::us,kw⟩)):=
 ⟨r.hd,by have:=r.dp;rw [zlo];omega,by have:=r.un;rw [zlu];omega⟩
theorem Room.depth{k:Nat}{A:Around}(r:Room k A):A.depth<recursionLimit:=by have:=r.dp;omega
theorem Room.units{k:Nat}{A:Around}(r:Room k A):A.units+64<cLine:=by have:=r.un;omega
def tNil:TA:=fun _ H Q=>Q [] H
def zgL(ta:TE)(tr:TA):TA:=fun σ H Q=>ta σ H fun x H1=>tr σ H1 fun xs H2=>Q (x::xs) H2
section
variable{X:Cx}{e:Expr}{es:List Expr}{te:TE}{t:TA}{pos:Pos}
theorem zK:PA X [] tNil:=fun _ _ _ _ H Q I h=>Calls.spliced_nil ⟨[],H,I,.nil,h⟩
theorem zm(ha:PE X e te)(hr:PA X es t)(hs:#[14]:=by rfl):PA X (e::es) (zgL te t):=by
 intro pos pins s σ H Q I h;rw [hs];show wpAny _ _ (spliced ((false,eval e X.env)::backTo pos (starEach es X.env))) _ _ s;refine Calls.spliced_cons (thn (ha pins s σ H _ I h) fun u s1 ⟨x,H1,I1,r1,q1⟩=>?_)
 exact thn (hr pos pins s1 σ H1 _ I1 q1) fun us s2 ⟨xs,H2,I2,r2,q2⟩=>⟨x::xs,H2,I2,.cons r1 r2,q2⟩
def tTup(t:TA):TE:=fun σ H Q=>t σ H fun xs H1=>xs.length<=sizeLine/\∀ p,H1 p=none->Q (.ref p) (upd H1 p (.tup xs))
def tLst(t:TA):TE:=fun σ H Q=>t σ H fun xs H1=>xs.length<=sizeLine/\∀ p,H1 p=none->Q (.ref p) (upd H1 p (.lst xs))
theorem zbq{x1}(h:PA X es t):PE X (.Tuple es x1 pos) (tTup t):=by
 intro pins s σ H Q I hq;refine wpAny_Tuple_spliced (thn (h pos pins s σ H _ I hq) fun us s1 ⟨xs,H1,I1,r,z,q⟩=>⟨by rw [<-r.length];exact z,?_⟩)
 have hf:H1 s1.heap.objs.size=none:=I1.hok.fresh (YaY _);refine⟨.ref s1.heap.objs.size,upd H1 s1.heap.objs.size (.tup xs),I1.laid (t':=s1.toks) (fun b u e=>YaW _ e) (YaY _) ?_,rfl,q _ hf⟩
 exact⟨z,us,r,⟨_,Yan _ rfl,rfl,_,rfl⟩⟩
theorem zbT(h:PA X es t):PE X (.List es pos) (tLst t):=by
 intro pins s σ H Q I hq;refine wpAny_List_spliced (thn (h pos pins s σ H _ I hq) fun us s1 ⟨xs,H1,I1,r,z,q⟩=>⟨by rw [<-r.length];exact z,?_⟩)
 have hf:H1 s1.heap.objs.size=none:=I1.hok.fresh (YaY _);refine⟨.ref s1.heap.objs.size,upd H1 s1.heap.objs.size (.lst xs),I1.laid (t':=s1.toks) (fun b u e=>YaW _ e) (YaY _) ?_,rfl,q _ hf⟩
 exact⟨z,us,0,r,Yan _ rfl⟩
end
abbrev Sp:=List V->Hp->VK->XK->Prop
abbrev CXT:=List Env->Hp->Shared->XK->Value->Shared->Prop
structure Env0(P:Program)(w:World)(K:Ybf)(mg:#[15])(base:Heap)(A:Around)(outer:List Env)(s:Shared)(H:Hp):Prop where
 frames:A.frames=some outer
 mod:Mod K mg base
 bs:∀ b o,base.get? b=some o->s.heap.get? b=some o/\H b=none
 bsz:base.objs.size<=s.heap.objs.size
 funs:s.heap.FunFrames base outer
 frf:∀ b∈frs outer,H b=none
 hok:HOk P w H s.heap
 bare:AllBare s.gens
def CE(outer:List Env)(P:Program)(w:World)(H:Hp)(s:Shared)(Q:VK)(u:Value)(s':Shared):Prop:=
 ∃ v H',s'.os=s.os/\AllBare s'.gens/\Un (frs outer) [] H H' s.heap s'.heap/\HOk P w H' s'.heap/\RelV v u/\Q v H'
def CR(CX:CXT)(outer:List Env)(P:Program)(w:World)(H:Hp)(s:Shared)(Q:VK)(E:XK)(r:Result)(s':Shared):Prop:=
 match r with
 | .ok (.ret u)=>CE outer P w H s Q u s'
 | .ok _=>False
 | .error e=>CX outer H s E e s'
structure FnOk(P:Program)(w:World)(K:Ybf)(mg:#[15])(base:Heap)(CX:CXT)(k:Nat)(f:Addr)(fd:FuncData)(ps:List Str)(sp:Sp):Prop where
 len:∀ vs H Q E,sp vs H Q E->vs.length=ps.length
 run:∀ (A:Around) (outer:List Env) (s:Shared) (H:Hp) (args:Args) (us:List Value) (vs:List V) (Q:VK) (E:XK),Room k A->Env0 P w K mg base A outer s H->BindsTo s fd args (ps.zip us)->Vals vs us->sp vs H Q E->
  codeAny (model P w) A (.call (.ref f) args) (CR CX outer P w H s Q E) s
theorem FnOk.mono{P:Program}{w:World}{K:Ybf}{mg:#[15]}{base:Heap}{CX:CXT}{j k:Nat}{f:Addr}{fd:FuncData}{ps:List Str}{sp:Sp}(F:FnOk P w K mg base CX j f fd ps sp)(h:j<=k) :
 FnOk P w K mg base CX k f fd ps sp:=⟨F.len,fun A outer s H args us vs Q E hr=>F.run A outer s H args us vs Q E (hr.mono h)⟩
theorem FnOk.imp{P:Program}{w:World}{K:Ybf}{mg:#[15]}{base:Heap}{CX:CXT}{k:Nat}{f:Addr}{fd:FuncData}{ps:List Str}{sp sp':Sp}(F:FnOk P w K mg base CX k f fd ps sp)
 (h:∀ vs H Q E,sp' vs H Q E->sp vs H Q E):FnOk P w K mg base CX k f fd ps sp':=
 ⟨fun vs H Q E q=>F.len vs H Q E (h _ _ _ _ q),fun A outer s H args us vs Q E hr he hb hv hs=>F.run A outer s H args us vs Q E hr he hb hv (h _ _ _ _ hs)⟩
theorem Env0.make{P:Program}{w:World}{K:Ybf}{mg:#[15]}{base:Heap}{A:Around}{outer:List Env}{s:Shared}{H:Hp}(e:Env0 P w K mg base A outer s H)(C:Addr)(us:List Value)(kw:List (Str×Value)) :
 Env0 P w K mg base (A.under (.builtin "type.__call__" ⟨.ref C::us,kw⟩)) outer s H:=⟨by first|exact e.frames|(simpa [Around.under,Code.envs,Code.isFrame,pushEnvs] using e.frames),e.mod,e.bs,e.bsz,e.funs,e.frf,e.hok,e.bare⟩
section
variable{X:Cx}{pins:List #[17]}{σ : St}{H:Hp}{s s':Shared}
theorem Inv.env0(I:#[11]):Env0 X.prog X.w X.K X.mg X.base X.A X.stack s H:=
 ⟨I.ok.frames,I.ok.mod,I.bs,Ya5 I.ok.bsz I.sz,I.stack,I.stkFree,I.hok,I.bare⟩
theorem Inv.after{Q:VK}{u:Value}(I:#[11])(h:CE X.stack X.prog X.w H s Q u s'):EP X pins σ Q u s':=by
 obtain⟨v,H',os,bare,un,hok,r,q⟩:=h;obtain⟨hh,g,d,t,os'⟩:=s';obtain rfl:os'=s.os:=os;exact⟨v,H',I.call (h':=hh) (g':=g) (d':=d) (t':=t) (ch:=[]) un hok bare (fun b z=>absurd z (by simp)),r,q⟩
end
def zd2(sp:Sp)(dvs:List V)(E:XK)(t:TA):TE:=fun σ H Q=>t σ H fun vs H1=>sp (vs++dvs) H1 Q E
def zkO(C:Addr)(sp:Sp)(dvs:List V)(E:XK)(t:TA):TE:=fun σ H Q=>t σ H fun vs H1=>∀ x dx,H1 x=none->H1 dx=none->dx≠x->
 sp (.ref x::(vs++dvs)) (upd (upd H1 dx (.own x)) x (.ins C dx [])) (fun v H2=>v=.non/\Q (.ref x) H2) E
def Binds(K:Ybf)(fd:FuncData)(ps:List Str)(ds:List Value):Prop:=
 ∀ (s:Shared) (us:List Value),K.In s.heap->(us++ds).length=ps.length->BindsTo s fd ⟨us,[]⟩ (ps.zip (us++ds))
theorem Binds.all{K:Ybf}{fd:FuncData}{ps:List Str}(h:∀ us:List Value,us.length=ps.length->bindArgs fd ⟨us,[]⟩=pure (ps.zip us)):Binds K fd ps []:=fun s us _ hl=>by
 rw [Yao] at hl ⊢;exact .of_eq (h us hl)
def Passes(CX:CXT)(X:Cx)(E:XK):Prop:=∀ (pins:List #[17]) (σ : St) (H:Hp) (s:Shared) (e:Value) (s':Shared),Inv X pins σ H s->CX X.stack H s E e s'->X.xe e s'
section
variable{X:Cx}{CX:CXT}{k:Nat}{f C:Addr}{fd:FuncData}{ps:List Str}{sp:Sp}{dvs:List V}{ds:List Value}{E:XK}{x m:Str}{p pos apos:Pos}{e o:Expr}{es:List Expr}{ta:TE}{t:TA}
theorem zhA{pins:List #[17]}{σ : St}{H:Hp}{s:Shared}{Q:VK}{us:List Value}{vs:List V}(F:FnOk X.prog X.w X.K X.mg X.base CX k f fd ps sp)(hr:Room k X.A)(hb:Binds X.K fd ps ds)(hd:Vals dvs ds)(hx:Passes CX X E)
 (I:#[11]) (r:Vals vs us) (h:sp (vs++dvs) H Q E):wpAny #[12] X.A (call (.ref f) us) (EP X pins σ Q) X.xe s:=by
 have r2:Vals (vs++dvs) (us++ds):=r.append hd;have hl:(us++ds).length=ps.length:=by rw [<-r2.length];exact F.len _ _ _ _ h
 refine wpAny_call (codeAny_mono (F.run X.A X.stack s H ⟨us,[]⟩ (us++ds) (vs++dvs) Q E hr I.env0 (hb s us I.kIn hl) r2 h) fun r s' hq=>?_)
 cases r with
 | error e=>exact hx pins σ H s e s' I hq
 | ok fl=>
  cases fl with
  | ret u=>exact I.after hq
  | next=>exact False.elim hq
  | brk=>exact False.elim hq
  | cont=>exact False.elim hq
theorem zkP(F:FnOk X.prog X.w X.K X.mg X.base CX k f fd ps sp)(hr:Room k X.A)(hg:Gl X x)(hm:X.mg x=some (.ref f))(hk:PySem.W.keepIn X.K (.ref f)=true)(hb:Binds X.K fd ps ds)(hd:Vals dvs ds)(hx:Passes CX X E)
 (ha:PA X (e::es) t) (hdb:#[24]:=by decide) (he:#[14]:=by rfl) (hpl:(backTo pos (starEach es X.env)).any (·.1)=false:=by rfl) :
 PE X #[23] (zd2 sp dvs E t):=by
 intro pins s σ H Q I h;refine wpAny_Call_Name_kw (zb3 I hg hm ?_ hdb);refine PySem.W.callWith_K (h₀:=X.base) I.ok.mod.kin hk (thn (ha pos pins s σ H _ I h) fun us s1 ⟨vs,H1,I1,r,q⟩=>⟨I1.kIn,?_⟩) he hpl
 exact zhA F hr hb hd hx I1 r q
structure Mk(K:Ybf)(C f:Addr):Prop where
 makes:PySem.W.makesIn K C=true
 init:PySem.W.findIn K (.ref C) "__init__" = some (some (.ref f))
 fn:PySem.W.isFn K (.ref f)=true
 kp:PySem.W.keepIn K (.ref C)=true
theorem zgz{pins:List #[17]}{σ : St}{H:Hp}{s:Shared}{Q:VK}{us:List Value}{vs:List V}(M:Mk X.K C f)(F:FnOk X.prog X.w X.K X.mg X.base CX k f fd ps sp)(hr:Room (k+1) X.A)(hb:Binds X.K fd ps ds)(hd:Vals dvs ds)
 (hx:Passes CX X E) (I:#[11]) (r:Vals vs us)
 (h:∀ x dx,H x=none->H dx=none->dx≠x->sp (.ref x::(vs++dvs)) (upd (upd H dx (.own x)) x (.ins C dx [])) (fun v H2=>v=.non/\Q (.ref x) H2) E) :
 wpAny #[12] X.A (call (.ref C) us) (EP X pins σ Q) X.xe s:=by
 have hq:=h #[21] s.heap.objs.size (I.hok.fresh (Nat.le_succ _)) (I.hok.fresh (YaY _)) (Yaf (WaM _));have I2:=Inv.made (C:=C) I;have r2:Vals (V.ref #[21]::(vs++dvs)) (Value.ref #[21]::(us++ds)):=.cons rfl (r.append hd);have hl:(Value.ref #[21]::us++ds).length=ps.length:=by
  have e:=r2.length;rw [F.len _ _ _ _ hq] at e;exact e.symm
 refine wpAny_call (zio (f:=f) I.kIn M.makes M.init (beq_iff_eq.mp M.fn) (codeAny_mono (F.run _ X.stack _ _ ⟨Value.ref #[21]::us,[]⟩ (Value.ref #[21]::(us++ds)) _ _ E (hr.make C us [])
  (I2.env0.make C us []) (hb _ (Value.ref #[21]::us) I2.kIn hl) r2 hq) fun r s' hq'=>?_))
 cases r with
 | error e=>exact hx pins σ _ _ e s' I2 hq'
 | ok fl=>
  cases fl with
  | ret u=>
   obtain⟨v,H',I3,rv,ev,q3⟩:=I2.after hq';subst ev;exact⟨rv,⟨V.ref #[21],H',I3,rfl,q3⟩⟩
  | next=>exact False.elim hq'
  | brk=>exact False.elim hq'
  | cont=>exact False.elim hq'
theorem zl5(M:Mk X.K C f)(F:FnOk X.prog X.w X.K X.mg X.base CX k f fd ps sp)(hr:Room (k+1) X.A)(hg:Gl X x)(hm:X.mg x=some (.ref C))(hb:Binds X.K fd ps ds)(hd:Vals dvs ds)(hx:Passes CX X E)
 (ha:PA X (e::es) t) (hdb:#[24]:=by decide) (he:#[14]:=by rfl) (hpl:(backTo pos (starEach es X.env)).any (·.1)=false:=by rfl) :
 PE X #[23] (zkO C sp dvs E t):=by
 intro pins s σ H Q I h;refine wpAny_Call_Name_kw (zb3 I hg hm ?_ hdb);refine PySem.W.callWith_K (h₀:=X.base) I.ok.mod.kin M.kp (thn (ha pos pins s σ H _ I h) fun us s1 ⟨vs,H1,I1,r,q⟩=>⟨I1.kIn,?_⟩) he hpl
 exact zgz M F hr hb hd hx I1 r q
end
section
variable{X:Cx}{CX:CXT}{k:Nat}{f C:Addr}{fd:FuncData}{ps ks:List Str}{sp:Sp}{E:XK}{x m:Str}{p pos apos kpos:Pos}{e o:Expr}{es:List Expr}{kws:List Keyword}{te ta:TE}{t tk:TA}{nm:Option Str}
variable{g:List Value->List Value->List Value}{gV:List V->List V->List V}
end
structure FnScope(N P:List Str)(sc:Scope):Prop where
 kind:sc.kind=.function
 co:sc.isCoroutine=false
 gen:sc.isGenerator=false
 nd:N.Nodup
 pre:N.take P.length=P
 par:∀ x∈P,sc.names.lookup x=some .local\/sc.names.lookup x=some .cell
 nofree:∀ y∈sc.names,y.2≠.free
theorem zeJ{kindOf:Str->Option NameKind}{x:Str}:∀ {binds:List (Str×Value)} {m:#[15]},(∀ v,(x,v)∉binds)->bindL kindOf binds m x=m x
 | [],_,_=>rfl
 | (n, v) :: r, m, h => by
  unfold bindL;rw [zeJ fun w hw=>h w (YaT _ hw)]
  split
  . have:x≠n:=by rintro rfl;exact h v YaV
    simp [this]
  . rfl
theorem zdO{kindOf:Str->Option NameKind}{x:Str}:∀ {binds:List (Str×Value)} {m:#[15]},(∀ v,(x,v)∉binds)->bindC kindOf binds m x=m x
 | [],_,_=>rfl
 | (n, v) :: r, m, h => by
  unfold bindC;rw [zdO fun w hw=>h w (YaT _ hw)]
  split
  . rfl
  . have:x≠n:=by rintro rfl;exact h v YaV
    simp [this]
theorem zdL{kindOf:Str->Option NameKind}{x:Str}{v:Value}:∀ {P:List Str} {vs:List Value} {i:Nat} {m:#[15]},P.Nodup->P[i]?=some x->vs[i]?=some v->kindOf x=some .local->
 bindL kindOf (P.zip vs) m x=some v
 | [],_,_,_,_,h,_,_=>by simp at h
 | _::_,[],_,_,_,_,h,_=>by simp at h
 | p :: P, w :: vs, 0, m, nd, h1, h2, hk => by
  simp at h1 h2;subst h1;subst h2
  show bindL kindOf ((p,w)::P.zip vs) m p=_
  unfold bindL;rw [zeJ fun v hv=>(YaB.mp nd).1 (WaW hv).1,if_pos hk]
  simp
 | p :: P, w :: vs, i + 1, m, nd, h1, h2, hk => by
  show bindL kindOf ((p,w)::P.zip vs) m x=_
  unfold bindL;exact zdL (i:=i) (YaB.mp nd).2 (by simpa using h1) (by simpa using h2) hk
theorem zfq{kindOf:Str->Option NameKind}{x:Str}{v:Value}:∀ {P:List Str} {vs:List Value} {i:Nat} {m:#[15]},P.Nodup->P[i]?=some x->vs[i]?=some v->kindOf x≠some .local->
 bindC kindOf (P.zip vs) m x=some v
 | [],_,_,_,_,h,_,_=>by simp at h
 | _::_,[],_,_,_,_,h,_=>by simp at h
 | p :: P, w :: vs, 0, m, nd, h1, h2, hk => by
  simp at h1 h2;subst h1;subst h2
  show bindC kindOf ((p,w)::P.zip vs) m p=_
  unfold bindC;rw [zdO fun v hv=>(YaB.mp nd).1 (WaW hv).1,if_neg hk]
  simp
 | p :: P, w :: vs, i + 1, m, nd, h1, h2, hk => by
  show bindC kindOf ((p,w)::P.zip vs) m x=_
  unfold bindC;exact zfq (i:=i) (YaB.mp nd).2 (by simpa using h1) (by simpa using h2) hk
def start(N:List Str)(vs:List V):St:=vs.map some++List.replicate (N.length - vs.length) none
def cxOf(CX:CXT)(P:Program)(w:World)(K:Ybf)(mg:#[15])(base:Heap)(N:List Str)(qual:Str)(scope:Scope)(f:Addr)(cd:Value)(A:Around)(outer:List Env)(s:Shared)(H:Hp)(E:XK):Cx where
 prog:=P
 w:=w
 K:=K
 mg:=mg
 base:=base
 A:=A.deeper (envOfC qual scope s.heap.objs.size f cd)
 N:=N
 s₀:=s
 H₀:=H
 env:=envOfC qual scope s.heap.objs.size f cd
 outer:=outer
 stack:=envOfC qual scope s.heap.objs.size f cd::outer
 ex:=[]
 calm:=true
 fn:=fun _=>true
 pn:=[]
 xe:=fun e s'=>wpAny (model P w) (A.deeper (envOfC qual scope s.heap.objs.size f cd)) (leaving (envOfC qual scope s.heap.objs.size f cd) e) (fun _ s''=>CX outer H s E e s'') (fun e' s''=>CX outer H s E e' s'') s'
theorem zdQ{sc:Scope}{n:Nat}{x:Str}(h:sc.names.lookup x=some .cell):∃ c,(cellsFrom n sc.names []).lookup x=some c:=by
 have q:=Wak sc.names n [] (.inl h);exact Wah.mp q
theorem zln{CX:CXT}{P:Program}{w:World}{K:Ybf}{mg:#[15]}{base:Heap}{N ps:List Str}{qual:Str}{scope:Scope}{f:Addr}{cd:Value}{A:Around}{outer:List Env}{s s1:Shared}{H:Hp}{E:XK}{us:List Value}{vs:List V}
 (S:FnScope N ps scope) (hd:A.handled=none) (e0:Env0 P w K mg base A outer s H) (hl:vs.length=ps.length) (r:Vals vs us)
 (x:InCallC s s.heap.objs.size (bindL (envOfC qual scope s.heap.objs.size f cd).kindOf (ps.zip us) fun _=>none) (cellsFrom #[21] scope.names []) (bindC (envOfC qual scope s.heap.objs.size f cd).kindOf (ps.zip us) fun _=>none) s1) :
 Inv (cxOf CX P w K mg base N qual scope f cd A outer s H E) [] (start N vs) H s1:=by
 have hpl:ps.length<=N.length:=by have:=congrArg List.length S.pre;rw [WaN] at this;omega
 obtain⟨h1,tk,rfl,hk⟩:=x.done;have noA:∀ b:Addr,b∉(cxOf CX P w K mg base N qual scope f cd A outer s H E).ex:=fun b z=>absurd (show b∈([]:List Addr) from z) (by simp)
 refine⟨⟨e0.mod,S.kind,rfl,rfl,YaY _,fun y z c h1 h2=>?_,fun y hy=>?_,fun y c _ h=>?_,fun _=>hd,Around.frames_deeper e0.frames,.inr ⟨rfl,rfl⟩,fun b z=>absurd z (noA b),e0.bs,e0.bsz,fun b _ _=>noA b,fun b z=>absurd z (noA b),e0.funs,e0.frf⟩,
  rfl,e0.bare,Un.kept hk,⟨_,x.toInCall.ns,fun i y v h1 h2 h3=>?_⟩,fun y c h=>⟨_,x.cell y c h⟩,e0.hok.fresh (YaY _),fun y c h=>?_,fun p hp=>absurd (show p∈([]:List #[17]) from hp) (by simp),e0.hok.kept hk,?_⟩
 . exact name_of_addr x.apart (Waq h1) (Waq h2)
 . have hy:scope.names.lookup y=some .cell\/scope.names.lookup y=some .free:=hy
   rcases hy with hy|hy
   . exact zdQ hy
   . exact absurd rfl (S.nofree _ (Waq hy))
 . exact Wbc (x.above y c (Waq h))
 . have hi:i<vs.length:=by
    unfold start at h2
    by_cases hi:i<vs.length
    . exact hi
    . rw [Yae (by simpa using hi)] at h2
      rw [Yad] at h2
      split at h2<;>cases h2
   have ha:vs[i]?=some v:=by
    unfold start at h2;rw [Yab (by simpa using hi),Ya0] at h2
    cases e:vs[i]? with
    | none=>rw [e] at h2;cases h2
    | some a=>rw [e] at h2;cases h2;rfl
   obtain⟨u,hu,rv⟩:=r.get ha;have hp:ps[i]?=some y:=by
    rw [<-S.pre,List.getElem?_take_of_lt #[0]];exact h1
   have ndP:ps.Nodup:=by rw [<-S.pre];exact S.nd.sublist (List.take_sublist _ _)
   refine⟨u,rv,?_⟩
   rcases S.par y (Yah hp) with k|k
   . exact .inl ⟨k,zdL ndP hp hu k⟩
   . obtain⟨c,e⟩:=zdQ (n:=s.heap.objs.size+1) k
     refine .inr ⟨.inl k,c,e,?_⟩
     have q:=x.cell y c e;rw [zfq ndP hp hu (by show scope.names.lookup y≠_;rw [k];decide)] at q
     exact q
 . exact e0.hok.fresh (Wbc (x.above y c (Waq h)))
 . unfold start
   show _=N.length
   rw [YaS,YaR,Ybb]
   omega
theorem zbm{CX:CXT}{P:Program}{w:World}{K:Ybf}{mg:#[15]}{base:Heap}{k:Nat}{f:Addr}{name qual:Str}{params:Arguments}{body:List Stmt}{scope:Scope}{dV kV doc pm cdv ct oc:Value}{an od:Option Addr}
 {osl:Array (Option Value)} {N ps:List Str} {sp:Sp} (lk:K.lookup f=some ⟨oc,od,.func (PySem.W.fnOf name qual params body scope dV kV doc pm an cdv ct),osl⟩) (hcd:PySem.W.codeIn K cdv qual=true) (S:FnScope N ps scope)
 (len:∀ vs H Q E,sp vs H Q E->vs.length=ps.length)
 (hbody:∀ (A:Around) (outer:List Env) (s:Shared) (H:Hp) (vs:List V) (Q:VK) (E:XK),Room k (A.deeper (envOfC qual scope s.heap.objs.size f cdv))->sp vs H Q E->
  ∃ t,PSs (cxOf CX P w K mg base N qual scope f cdv A outer s H E) body t/\t { nx:=fun _ H'=>Q .non H',rt:=Q } (start N vs) H) :
 FnOk P w K mg base CX (k+1) f (PySem.W.fnOf name qual params body scope dV kV doc pm an cdv ct) ps sp:=by
 refine⟨len,fun A outer s H args us vs Q E hr e0 hb r hsp=>?_⟩
 have hl:=len _ _ _ _ hsp;have KX:K.In s.heap:=e0.mod.kin.keeps fun b o e=>(e0.bs b o e).1
 have lim:s.heap.NoLimit:=e0.mod.nolimit.keeps fun b o e=>(e0.bs b o e).1
 have hkind:∀ y∈ps.zip us,scope.names.lookup y.1=some .local\/(scope.names.lookup y.1=some .cell/\((cellsFrom #[21] scope.names []).lookup y.1).isSome=true):=fun⟨n,v⟩ hy=>by
  rcases S.par n (WaW hy).1 with q|q
  . exact .inl q
  . exact .inr ⟨q,Wak _ _ _ (.inl q)⟩
 refine codeAny_call_function hr.depth (KX _ _ lk) rfl S.co S.gen rfl (PySem.W.codeRec_of KX hcd) (hb _ _ _ _ ?_)
 refine wpAny_newFunctionEnv_cells S.kind hkind fun env he s1 x=>?_
 subst he;refine⟨lim.keeps x.toInCall.keep,codeAny_func ?_⟩;obtain⟨t,ht,hq⟩:=hbody A outer s H vs Q E (hr.deeper _) hsp;have I:Inv (cxOf CX P w K mg base N qual scope f cdv A outer s H E) [] (start N vs) H s1:=zln S hr.hd e0 hl r x;refine wpAny_mono (ht [] s1 (start N vs) H _ I hq) (fun fl s' hs=>?_) fun e s' hs=>hs
 have fin:∀ {σ':St} {H':Hp} {v:V} {u:Value},Inv (cxOf CX P w K mg base N qual scope f cdv A outer s H E) [] σ' H' s'->RelV v u->Q v H'->CE outer P w H s Q u s':=
  fun {σ' H' v u} J rv q=>⟨v,H',J.os,J.bare,J.base,J.hok,rv,q⟩
 cases fl with
 | ret u=>
  obtain⟨v,σ',H',J,rv,q⟩:=hs;exact fin J rv q
 | next=>
  obtain⟨σ',H',J,q⟩:=hs;exact fin (v:=V.non) (u:=Value.none) J rfl q
 | brk=>
  obtain⟨_,_,_,q⟩:=hs;exact False.elim q
 | cont=>
  obtain⟨_,_,_,q⟩:=hs;exact False.elim q
section
variable{X:Cx}{x:Str}{p pos:Pos}{e:Expr}{es:List Expr}{t:TA}{id T:String}{r:List V->Hp->VK->Prop}
def tCB(r:List V->Hp->VK->Prop)(t:TA):TE:=fun σ H Q=>t σ H fun vs H1=>r vs H1 Q
theorem JR(hc:zO X (.builtin id) r)(hg:Gl X x)(hm:X.mg x=none)(hv:bootBuiltins x=some (.builtin id))(ha:PA X (e::es) t)(hn:x≠"__name__":=by decide)(hdb:#[24]:=by decide)
 (he:#[14]:=by rfl) (hpl:(backTo pos (starEach es X.env)).any (·.1)=false:=by rfl):PE X #[23] (tCB r t):=by
 intro pins s σ H Q I h;refine wpAny_Call_Name_kw (JE I hg hm hv ?_ hn hdb);exact PyProof.Rows.callWith_builtin1 (thn (ha pos pins s σ H _ I h) fun us s1 ⟨vs,H1,I1,r1,q1⟩=>hc pins s1 σ H1 vs us Q I1 r1 q1) he hpl
theorem zfv(hc:zO X (.type T) r)(hg:Gl X x)(hm:X.mg x=none)(hv:bootBuiltins x=some (.type T))(ha:PA X (e::es) t)(hn:x≠"__name__":=by decide)(hdb:#[24]:=by decide)
 (he:#[14]:=by rfl) (hpl:(backTo pos (starEach es X.env)).any (·.1)=false:=by rfl):PE X #[23] (tCB r t):=by
 intro pins s σ H Q I h;refine wpAny_Call_Name_kw (JE I hg hm hv ?_ hn hdb);exact Wac (thn (ha pos pins s σ H _ I h) fun us s1 ⟨vs,H1,I1,r1,q1⟩=>hc pins s1 σ H1 vs us Q I1 r1 q1) he hpl
end
end L2
namespace HT
open PySem PyProof.Rows
section
open PySem.SeqAt
open PySem.AutoSeq1 (wpAny_loadPart')
open PySem.MeetsSeq PySem.MeetsSeq2 PySem.MeetsSeq3
end
section
variable{prog:Program}{w:World}{A:Around}{E:#[13]}{s:Shared}
def sIx(n d:Nat):Option Int->Nat
 | none=>d
 | some v=>if v<0 then(v+(n:Int)).toNat else min v.toNat n
theorem sIx_nat(n d k:Nat):sIx n d (some (k:Int))=min k n:=by
 show(if(k:Int)<0 then((k:Int)+(n:Int)).toNat else min (k:Int).toNat n)=min k n
 rw [if_neg #[0],Int.toNat_natCast]
end
end HT
namespace L2
open PySem PySem.Spec PyProof.Rows
abbrev TO:=St->Hp->(Option Int->Hp->Prop)->Prop
def PO(X:Cx)(e:Option Expr)(t:TO):Prop:=
 ∀ (pins:List #[17]) (s:Shared) (σ : St) (H:Hp) (Q:Option Int->Hp->Prop),Inv X pins σ H s->t σ H Q->
  wpAny #[12] X.A (evalPart e X.env) (fun u s'=>∃ o H',Inv X pins σ H' s'/\IsPart u o/\Q o H') X.xe s
def zlz(t:TE):TO:=fun σ H Q=>t σ H fun x H1=>∃ i,x=.int i/\Q (some i) H1
theorem zbY{ns:List Int}:∀ {us:List Value},Vals (ns.map V.int) us->IntsAre us ns:=by
 induction ns with
 | nil=>intro us r;rw [Wbe] at r;cases r;exact .nil
 | cons n ns ih=>
  intro us r;rw [Ya1] at r;cases r with
  | cons r1 r2=>
   obtain⟨t,e⟩:=r1;subst e;exact .cons n t (ih r2)
section
variable{X:Cx}{e:Expr}{te:TE}{lo hi:Option Expr}{tl th:TO}{pos p2:Pos}
theorem zji(h:PE X e te):PO X (some e) (zlz te):=by
 intro pins s σ H Q I hw;rw [evalPart_some];refine thn (h pins s σ H _ I hw) fun u s1 ⟨x,H1,I1,r1,q1⟩=>?_
 obtain⟨i,rfl,q⟩:=q1;obtain⟨t,rfl⟩:=r1;exact⟨some i,H1,I1,.int i t,q⟩
def SlR(X:Cx)(r:V->Option Int->Option Int->Hp->VK->Prop):Prop:=
 ∀ (pins:List #[17]) (s:Shared) (σ : St) (H:Hp) (x:V) (v vl vu:Value) (lo hi:Option Int) (sl:Addr) (Q:VK),Inv X pins σ H s->RelV x v->s.heap.IsSliceOf sl vl vu .none->IsPart vl lo->IsPart vu hi->r x lo hi H Q->
  ∃ T id,typeLookup (.type T) "__getitem__" = pure (some (.builtin id))/\s.TypeIs v T/\wpAny #[12] X.A (getItem v (.ref sl)) (EP X pins σ Q) X.xe s
theorem SlR.or{r r':V->Option Int->Option Int->Hp->VK->Prop}(h:SlR X r)(h':SlR X r'):SlR X (fun x lo hi H Q=>r x lo hi H Q\/r' x lo hi H Q):=by
 intro pins s σ H x v vl vu lo hi sl Q I rx hs pl pu q
 rcases q with q|q
 . exact h pins s σ H x v vl vu lo hi sl Q I rx hs pl pu q
 . exact h' pins s σ H x v vl vu lo hi sl Q I rx hs pl pu q
def tSl(r:V->Option Int->Option Int->Hp->VK->Prop)(te:TE)(tl th:TO):TE:=fun σ H Q=>te σ H fun x H1=>tl σ H1 fun l H2=>th σ H2 fun u H3=>r x l u H3 Q
theorem zk1{r:V->Option Int->Option Int->Hp->VK->Prop}(hr:SlR X r)(he:PE X e te)(hl:PO X lo tl)(hu:PO X hi th):PE X (.Subscript e (.Slice lo hi none p2) pos) (tSl r te tl th):=by
 intro pins s σ H Q I h;refine Subscript_ (thn (he pins s σ H _ I h) fun v s1 ⟨x,H1,I1,r1,q1⟩=>?_)
 refine wpAny_Slice (thn (hl pins s1 σ H1 _ I1 q1) fun vl s2 ⟨l,H2,I2,pl,q2⟩=>thn (hu pins s2 σ H2 _ I2 q2) fun vu s3 ⟨u,H3,I3,pu,q3⟩=>?_)
 rw [evalPart_none];refine wpAny_pure ?_;have I4:Inv X pins σ H3 { s3 with heap:=s3.heap.push { cls:=.type "slice", data:=.fields #[vl,vu,.none] } }:=I3.kept (t':=s3.toks) fun b ob q=>YaW _ q
 obtain⟨T,id,hT,ht,hg⟩:=hr pins { s3 with heap:=s3.heap.push { cls:=.type "slice", data:=.fields #[vl,vu,.none] } } σ H3 x v vl vu l u s3.heap.objs.size Q I4 r1 (Heap.IsSliceOf.new ..) pl pu q3
 show wpAny #[12] X.A (subscriptTail e (.Slice lo hi none p2) v (.ref s3.heap.objs.size)) (EP X pins σ Q) X.xe { s3 with heap:=s3.heap.push { cls:=.type "slice", data:=.fields #[vl,vu,.none] } }
 exact tail_any (ops:=[.ref s3.heap.objs.size,v]) ht hT hg (by with_unfolding_all rfl)
def cutV(xs:List V)(lo hi:Option Int):List V:=(xs.drop (HT.sIx xs.length 0 lo)).take (HT.sIx xs.length xs.length hi - HT.sIx xs.length 0 lo)
theorem zkV(xs:List V)(lo hi:Option Int):(cutV xs lo hi).length<=xs.length:=by
 unfold cutV;rw [WaN,List.length_drop]
 omega
end
def ixN(n:Nat)(i:Int):Option Nat:=if 0<=i then(if i<n then some i.toNat else none) else if -(n:Int)<=i then some (i+n).toNat else none
def atI{α : Type}(xs:List α)(i:Int):Option α:=(ixN xs.length i).bind fun j=>xs[j]?
theorem zfG{n:Nat}{i:Int}{j:Nat}(h:ixN n i=some j):seqIndex? i n=some j/\j<n/\-(n:Int)<=i/\i<n:=by
 unfold ixN at h
 by_cases h0:0<=i
 . rw [if_pos h0] at h
   by_cases h1:i<n
   . rw [if_pos h1] at h
     have e:i.toNat=j:=WaV h;exact⟨by rw [seqIndex_of h0 h1,e],#[0],#[0],h1⟩
   . rw [if_neg h1] at h;cases h
 . rw [if_neg h0] at h
   by_cases h1:-(n:Int)<=i
   . rw [if_pos h1] at h
     have e:(i+n).toNat=j:=WaV h;exact⟨by rw [seqIndex_neg #[0] h1,e],#[0],h1,#[0]⟩
   . rw [if_neg h1] at h;cases h
theorem zb0{α : Type}{xs:List α}{i:Int}{v:α}(h:atI xs i=some v):∃ j,seqIndex? i xs.length=some j/\xs[j]?=some v/\j<xs.length/\-(xs.length:Int)<=i/\i<xs.length:=by
 unfold atI at h;cases e:ixN xs.length i with
 | none=>rw [e] at h;cases h
 | some j=>
  rw [e] at h;obtain⟨h1,h2,h3,h4⟩:=zfG e;exact⟨j,h1,h,h2,h3,h4⟩
theorem z8{α : Type}{xs:List α}{j:Nat}{v:α}(h:xs[j]?=some v):atI xs (j:Int)=some v:=by
 have hj:j<xs.length:=(Ya8.mp h).1;have e:ixN xs.length (j:Int)=some j:=by
  unfold ixN;rw [if_pos #[0],if_pos #[0]];simp
 unfold atI;rw [e];exact h
theorem zfF{α : Type}(xs:List α)(v:α):atI (xs++[v]) (-1)=some v:=by
 have hl:(xs++[v]).length=xs.length+1:=by simp
 have e:ixN (xs++[v]).length (-1)=some xs.length:=by
  unfold ixN;rw [hl,if_neg #[1],if_pos #[0]]
  congr 1
  omega
 unfold atI;rw [e];show(xs++[v])[xs.length]?=some v
 simp
def J9(b:Expr):Prop:=∀ o i,subscripted b false o i=operate [o,i] (getItem o i)
def IxR(X:Cx)(r:R2):Prop:=
 ∀ (value slice:Expr) (pins:List #[17]) (s:Shared) (σ : St) (H:Hp) (x y:V) (v u:Value) (Q:VK),Inv X pins σ H s->RelV x v->RelV y u->r x y H Q->
  subscripted slice false v u=operate [v,u] (getItem v u)->wpAny #[12] X.A (subscriptTail value slice v u) (EP X pins σ Q) X.xe s
def MtR(X:Cx)(id:String)(r:V->List V->Hp->VK->Prop):Prop:=
 ∀ (pins:List #[17]) (s:Shared) (σ : St) (H:Hp) (x:V) (xs:List V) (v:Value) (us:List Value) (Q:VK),Inv X pins σ H s->RelV x v->Vals xs us->r x xs H Q->
  wpAny #[12] X.A (call (.builtin id) (v::us)) (EP X pins σ Q) X.xe s
section
variable{X:Cx}{a b:Expr}{ta tb:TE}{pos:Pos}
theorem IxR.or{r r':R2}(h:IxR X r)(h':IxR X r'):IxR X (fun x y H Q=>r x y H Q\/r' x y H Q):=by
 intro value slice pins s σ H x y v u Q I rx ry q hs
 rcases q with q|q
 . exact h value slice pins s σ H x y v u Q I rx ry q hs
 . exact h' value slice pins s σ H x y v u Q I rx ry q hs
theorem MtR.or{id:String}{r r':V->List V->Hp->VK->Prop}(h:MtR X id r)(h':MtR X id r'):MtR X id (fun x xs H Q=>r x xs H Q\/r' x xs H Q):=by
 intro pins s σ H x xs v us Q I rx rs q
 rcases q with q|q
 . exact h pins s σ H x xs v us Q I rx rs q
 . exact h' pins s σ H x xs v us Q I rx rs q
theorem jM{r:R2}(hr:IxR X r)(ha:PE X a ta)(hb:PE X b tb)(hs:J9 b):PE X (.Subscript a b pos) (tOp r ta tb):=by
 intro pins s σ H Q I h;exact Subscript_ (binT ha hb I h fun v u s2 x y H2 I2 rx ry q=>hr a b pins s2 σ H2 x y v u Q I2 rx ry q (hs _ _))
def rIxL(K:Ybf):R2:=fun x y H Q=>∃ p xs i v,x=.ref p/\y=.int i/\SqL K H p xs/\atI xs i=some v/\Q v H
def rIxT(K:Ybf):R2:=fun x y H Q=>∃ p xs i v,x=.ref p/\y=.int i/\SqT K H p xs/\atI xs i=some v/\Q v H
def rIxS:R2:=fun x y H Q=>∃ z i c,x=.str z/\y=.int i/\z.length<=sizeLine/\atI z.cps.toList i=some c/\Q (.str ⟨#[c]⟩) H
theorem j8:IxR X (rIxL X.K):=by
 intro value slice pins s σ H x y v u Q I rx ry h hs;obtain⟨p,xs,i,z,rfl,rfl,hq,he,q⟩:=h;cases rx;obtain⟨t,rfl⟩:=ry;obtain⟨its,r,pl,hz⟩:=I.list hq;obtain⟨j,h1,h2,h3,h4,h5⟩:=zb0 he;obtain⟨w,ew,rw'⟩:=r.get h2;have hl:=r.length;have hn:=JA;have fin:EP X pins σ Q w s:=⟨z,H,I,rw',q⟩
 by_cases h0:0<=i
 . have hj:i.toNat=j:=by
    rw [seqIndex_of h0 h5] at h1;exact WaV h1
   exact item_listR pl.isList h0 #[0] (by rw [hj];simpa using ew) fin hs
 . have hj:(i+(its.toArray.size:Int)).toNat=j:=by
    rw [seqIndex_neg #[0] h4] at h1
    rw [YaZ,<-hl];exact WaV h1
   exact subscriptTail_builtinR (x:=w) pl.isList.typeIs slot_list_getitem.lookup
    (wpAny_getItem_list_neg (Q:=fun r s'=>r=w/\EP X pins σ Q r s') pl.isList #[0] (by rw [YaZ]<;>omega) #[0] (by rw [hj];simpa using ew) ⟨rfl,fin⟩) hs
theorem zbW:IxR X (rIxT X.K):=by
 intro value slice pins s σ H x y v u Q I rx ry h hs;obtain⟨p,xs,i,z,rfl,rfl,hq,he,q⟩:=h;cases rx;obtain⟨t,rfl⟩:=ry;obtain⟨its,r,pl,hz⟩:=I.tuple hq;obtain⟨j,h1,h2,h3,h4,h5⟩:=zb0 he;obtain⟨w,ew,rw'⟩:=r.get h2;have hl:=r.length;have hn:=JA;have fin:EP X pins σ Q w s:=⟨z,H,I,rw',q⟩;exact subscriptTail_builtinR (x:=w) pl.typeIs slot_tuple_getitem.lookup
  (getItem_tuple (j:=j) (Q:=fun r s'=>r=w/\EP X pins σ Q r s') pl #[0] #[0] (by rw [YaZ,<-hl];exact h1) (by simpa using ew) ⟨rfl,fin⟩) hs
theorem zju:IxR X rIxS:=by
 intro value slice pins s σ H x y v u Q I rx ry h hs;obtain⟨z,i,c,rfl,rfl,hz,he,q⟩:=h;obtain⟨t,rfl⟩:=rx;obtain⟨t',rfl⟩:=ry;obtain⟨j,h1,h2,h3,h4,h5⟩:=zb0 he;have hl:z.cps.toList.length=z.length:=by simp [Str.length]
 rw [hl] at h1 h4 h5;have hn:=JA;exact tail_any (typeIs_str s z t) slot_str_getitem.lookup (getItem_str (c:=c) (by
  have e1:decide (i < -(2 ^ 63:Int))=false:=decide_eq_false #[0]
  have e2:decide (i>=2 ^ 63)=false:=decide_eq_false #[0]
  rw [e1,e2,Wa5]) (by rw [h1];simpa using h2) ⟨.str ⟨#[c]⟩,H,I.tok _,⟨_,rfl⟩,q⟩) hs
def rIx(K:Ybf):R2:=fun x y H Q=>rIxL K x y H Q\/rIxT K x y H Q\/rIxS x y H Q
theorem zma:IxR X (rIx X.K):=j8.or (zbW.or zju)
theorem zhn(its:List Value)(n j:Nat)(u:Value):Obj.mapSeq (·.setIfInBounds j u) { cls:=.type "list", data:=.seq its.toArray n } = { cls:=.type "list", data:=.seq (its.set j u).toArray n }:=by
 simp [Obj.mapSeq]
theorem Inv.lst{pins:List #[17]}{σ : St}{H:Hp}{s:Shared}{p:Addr}{xs:List V}(I:#[11])(h:H p=some (.lst xs)) :
 ∃ (its:List Value) (n:Nat),Vals xs its/\s.heap.get? p=some { cls:=.type "list", data:=.seq its.toArray n }/\xs.length<=sizeLine:=by
 obtain⟨z,its,n,r,e⟩:=I.hok p _ h;exact⟨its,n,r,e,z⟩
theorem Inv.lstUpd{pins:List #[17]}{σ : St}{H:Hp}{s:Shared}{p:Addr}{xs ys:List V}{its its':List Value}{n n':Nat}{f:Obj->Obj}(I:#[11])(h:H p=some (.lst xs))
 (ho:s.heap.get? p=some { cls:=.type "list", data:=.seq its.toArray n }) (hf:f { cls:=.type "list", data:=.seq its.toArray n } = { cls:=.type "list", data:=.seq its'.toArray n' }) (r:Vals ys its') (hz:ys.length<=sizeLine) (t:Nat) :
 Inv X pins σ (upd H p (.lst ys)) { s with heap:=s.heap.update p f,toks:=t }:=by
 have e:(s.heap.update p f).get? p=some { cls:=.type "list", data:=.seq its'.toArray n' }:=by
  rw [Heap.get?_update_self f ho (by rw [hf]<;>rfl),hf]
 refine I.write (x:=p) (e:=p) (by rw [h];trivial) (.inl rfl) (fun b u hb q=>(Heap.get?_update_other _ _ (Wbo hb)).trans q) ⟨_,e⟩ ?_
 exact⟨hz,its',n',r,e⟩
def rSetL:V->V->V->Hp->(Hp->Prop)->Prop:=fun o i v H Q=>∃ p xs k j,o=.ref p/\i=.int k/\H p=some (.lst xs)/\ixN xs.length k=some j/\Q (upd H p (.lst (xs.set j v)))
theorem ZO:PSet X rSetL:=by
 intro pins s σ H o i v ov iv u Q I ro ri rv h;obtain⟨p,xs,k,j,rfl,rfl,hp,hj,q⟩:=h;cases ro;obtain⟨t,rfl⟩:=ri;obtain⟨its,n,r,ho,hz⟩:=I.lst hp;obtain⟨h1,h2,h3,h4⟩:=zfG hj;have hl:=r.length;have hn:=JA;have I':Inv X pins σ (upd H p (.lst (xs.set j v))) { s with heap:=s.heap.update p (Obj.mapSeq (·.setIfInBounds j u)) }:=
  I.lstUpd hp ho (zhn its n j u) (r.set rv j) (by rw [YaN];exact hz) s.toks
 by_cases h0:0<=k
 . have hk:k.toNat=j:=by
    rw [seqIndex_of h0 h4] at h1;exact WaV h1
   exact PySem.W.ki_setAt ho h0 #[0] (by rw [YaZ,<-hl];exact h4) (by rw [hk];exact⟨_,I',q⟩)
 . have hk:(k+(its.toArray.size:Int)).toNat=j:=by
    rw [seqIndex_neg #[0] h3] at h1
    rw [YaZ,<-hl];exact WaV h1
   exact PySem.W.ki_setBack ho #[0] (by rw [YaZ,<-hl];exact h3) #[0] (by rw [hk];exact⟨_,I',q⟩)
theorem zkc(lo hi:Option Int)(n:Nat):(sliceBounds lo hi none n).1=((HT.sIx n 0 lo:Nat):Int)/\(sliceBounds lo hi none n).2.1=((HT.sIx n n hi:Nat):Int)/\(sliceBounds lo hi none n).2.2=1:=by
 refine⟨?_,?_,rfl⟩
 . cases lo with
   | none=>simp [sliceBounds,HT.sIx]
   | some i=>
    simp only [sliceBounds,HT.sIx,Option.getD_none,show(1:Int) > 0 by decide,if_true]
    by_cases h:i<0
    . simp only [h,if_true]<;>omega
    . simp only [h,if_false]<;>omega
 . cases hi with
   | none=>simp [sliceBounds,HT.sIx]
   | some i=>
    simp only [sliceBounds,HT.sIx,Option.getD_none,show(1:Int) > 0 by decide,if_true]
    by_cases h:i<0
    . simp only [h,if_true]<;>omega
    . simp only [h,if_false]<;>omega
theorem zgG(its:List Value)(lo hi:Option Int):slicePick its.toArray lo hi none=((its.drop (HT.sIx its.length 0 lo)).take (HT.sIx its.length its.length hi - HT.sIx its.length 0 lo)).toArray:=by
 obtain⟨h1,h2,h3⟩:=zkc lo hi its.toArray.size;unfold slicePick;rw [h1,h2,h3];simp only [sliceRange_one,pick_run,YaZ]<;>rfl
def rSlL(K:Ybf):V->Option Int->Option Int->Hp->VK->Prop:=fun x lo hi H Q=>∃ a xs,x=.ref a/\SqL K H a xs/\∀ p,H p=none->Q (.ref p) (upd H p (.lst (cutV xs lo hi)))
theorem zk9:SlR X (rSlL X.K):=by
 intro pins s σ H x v vl vu lo hi sl Q I rx hs pl pu h;obtain⟨a,xs,rfl,hx,q⟩:=h;cases rx;obtain⟨its,r,ht,hz⟩:=I.list hx;have hlen:=r.length;refine⟨"list", _,slot_list_getitem.lookup,ht.isList.typeIs,?_⟩;refine wpAny_getItem_list_slice ht.isList hs pl pu .none (by simp) ?_ (by rw [YaZ]<;>omega)
 rw [zgG,<-hlen];refine⟨.ref s.heap.objs.size,_,I.laid (t':=s.toks) (o:=.lst (cutV xs lo hi)) (fun b ob q=>YaW _ q) (YaY _) ?_,rfl,q _ (I.hok.fresh (YaY _))⟩
 exact⟨Ya5 (zkV xs lo hi) hz,_,0,(r.drop (HT.sIx xs.length 0 lo)).take (HT.sIx xs.length xs.length hi - HT.sIx xs.length 0 lo),Yan _ rfl⟩
theorem ZB:zO X (.builtin "len") (fun xs H Q=>∃ p ys,xs=[.ref p]/\(SqL X.K H p ys\/SqT X.K H p ys)/\Q (.int ys.length) H):=by
 intro pins s σ H xs us Q I r h;obtain⟨p,ys,rfl,hq,q⟩:=h;obtain⟨u,rfl,rx⟩:=Jr r;cases rx;have hn:=JA
 rcases hq with hq|hq
 . obtain⟨its,r',pl,hz⟩:=I.list hq
   have hlen:=r'.length;exact Calls.call_len_list pl.isList (by simp only [YaZ]<;>omega) ⟨.int ys.length,H,I.tok _,⟨s.toks+1,by rw [YaZ,hlen]⟩,q⟩
 . obtain⟨its,r',pl,hz⟩:=I.tuple hq
   have hlen:=r'.length;exact len_tuple pl (by simp only [YaZ]<;>omega) ⟨.int ys.length,H,I.tok _,⟨s.toks+1,by rw [YaZ,hlen]⟩,q⟩
theorem zhR:zO X (.builtin "len") (fun xs H Q=>∃ z,xs=[.str z]/\z.length<=sizeLine/\Q (.int z.length) H):=by
 intro pins s σ H xs us Q I r h;obtain⟨z,rfl,hz,q⟩:=h;obtain⟨u,rfl,t,rfl⟩:=Jr r;have hn:=JA;exact len_str #[0] ⟨.int z.length,H,I.tok _,⟨_,rfl⟩,q⟩
theorem zO.or{f:Value}{r r':List V->Hp->VK->Prop}(h:zO X f r)(h':zO X f r'):zO X f (fun xs H Q=>r xs H Q\/r' xs H Q):=by
 intro pins s σ H xs us Q I rs q
 rcases q with q|q
 . exact h pins s σ H xs us Q I rs q
 . exact h' pins s σ H xs us Q I rs q
theorem zls:zO X (.type "list") (fun xs H Q=>∃ p ys,xs=[.ref p]/\(SqL X.K H p ys\/SqT X.K H p ys)/\∀ l,H l=none->Q (.ref l) (upd H l (.lst ys))):=by
 intro pins s σ H xs us Q I r h;obtain⟨p,ys,rfl,hq,q⟩:=h;obtain⟨u,rfl,rx⟩:=Jr r;cases rx;have fin:∀ (its:List Value),Vals ys its->ys.length<=sizeLine->∀ (h':Heap) (c':Nat),(∀ b o',s.heap.get? b=some o'->h'.get? b=some o')->
  h'.get? s.heap.objs.size=some { cls:=.type "list", dict:=none,data:=.seq its.toArray c',slots:=#[] }->EP X pins σ Q (.ref s.heap.objs.size) { s with heap:=h' }:=fun its r' hz h' c' kp e=>
  ⟨.ref s.heap.objs.size,_,I.laid (t':=s.toks) kp (YaY _) (show zI X.prog X.w _ h' _ (.lst ys) from⟨hz,its,c',r',e⟩),rfl,q _ (I.hok.fresh (YaY _))⟩
 rcases hq with hq|hq
 . obtain⟨its,r',pl,hz⟩:=I.list hq
   have hlen:=r'.length;obtain⟨o,ho,hc,n,hd⟩:=pl.isList;exact call_list_seq p (.inl rfl) ho hc hd (fun h' c' kp e=>fin its r' hz h' c' kp e) (by simp only [YaZ]<;>omega)
 . obtain⟨its,r',pl,hz⟩:=I.tuple hq
   have hlen:=r'.length;obtain⟨o,ho,hc,n,hd⟩:=pl;exact call_list_seq p (.inr rfl) ho hc hd (fun h' c' kp e=>fin its r' hz h' c' kp e) (by simp only [YaZ]<;>omega)
def tyV(K:Ybf)(T:String)(x:V)(H:Hp):Prop:=match x with
 | .str _=>T = "str"
 | .int _=>T = "int"
 | .ref p => (T = "list" /\ ∃ xs, SqL K H p xs) \/ (T = "tuple" /\ ∃ o, K.lookup p = some o /\ o.cls = .type "tuple" /\ o.dict = none) \/
  (T = "dict"/\((∃ kvs,H p=some (.dK kvs))\/∃ kvs,H p=some (.dT kvs)))\/(T = "set"/\∃ S n,H p=some (.set S n))
 | _=>False
theorem zkh{pins:List #[17]}{σ : St}{H:Hp}{s:Shared}{T:String}{x:V}{v:Value}(I:#[11])(r:RelV x v)(ty:tyV X.K T x H) :
 s.TypeIs v T/\∀ a,v=.ref a->∃ ob,s.heap.get? a=some ob/\ob.dict=none:=by
 cases x with
 | str z=>
  obtain⟨t,rfl⟩:=r;cases(show T = "str" from ty)
  exact⟨typeIs_str s z t,fun _ e=>nomatch e⟩
 | int i=>
  obtain⟨t,rfl⟩:=r;cases(show T = "int" from ty)
  exact⟨typeIs_int s i t,fun _ e=>nomatch e⟩
 | ref p=>
  cases r
  rcases ty with ⟨rfl,xs,hq⟩|⟨rfl,o,hk,hc,hd⟩|⟨rfl,hk⟩|⟨rfl,S,n,hk⟩
  . obtain⟨its,_,pl,_⟩:=I.list hq
    refine⟨pl.isList.typeIs,fun a e=>?_⟩
    cases e;obtain⟨o,n,e,c,hd,_⟩:=pl
    exact⟨o,e,hd⟩
  . refine⟨⟨o,I.kIn p o hk,hc⟩,fun a e=>?_⟩
    cases e;exact⟨o,I.kIn _ o hk,hd⟩
  . have z:∃ o,s.heap.get? p=some o/\o.ExactDict:=by
     rcases hk with ⟨kvs,hk⟩|⟨kvs,hk⟩
     . obtain⟨_,_,_,_,o,_,_,e,ex,_⟩:=I.hok p _ hk
       exact⟨o,e,ex⟩
     . obtain⟨_,_,_,_,o,_,_,e,ex,_⟩:=I.hok p _ hk
       exact⟨o,e,ex⟩
    obtain⟨o,e,ex⟩:=z;refine⟨⟨o,e,ex.1⟩,fun a e2=>?_⟩
    cases e2;exact⟨o,e,ex.2.1⟩
  . obtain⟨o,_,_,_,e,ex,_⟩:=I.hok p _ hk
    refine⟨⟨o,e,ex.1⟩,fun a e2=>?_⟩
    cases e2;exact⟨o,e,ex.2.1⟩
 | _=>exact False.elim ty
def tBM(K:Ybf)(T:String)(r:V->List V->Hp->VK->Prop)(to:TE)(t:TA):TE:=fun σ H Q=>to σ H fun x H1=>tyV K T x H1/\t σ H1 fun xs H2=>r x xs H2 Q
variable{o e:Expr}{es:List Expr}{to:TE}{t:TA}{name:Str}{apos cpos:Pos}{T id:String}{r:V->List V->Hp->VK->Prop}
theorem zdc(pa:PlainAttrs T)(slot:Slot T name id)(hty:typeOf (.builtin id)=pure (.type "method_descriptor"))(hm:MtR X id r)(ho:PE X o to)(ha:PA X (e::es) t)
 (hbase:attributeBase o name X.env (eval o X.env)=eval o X.env:=by rfl)
 (hfew:((backTo cpos (starEach (e::es) X.env)).all (fun x=>!x.1)&&(backToKw cpos (keywordEach [] X.env)).all (fun x=>x.1.isSome)
  && decide ((e::es).length+([]:List Keyword).length+(if([]:List Keyword).isEmpty then 0 else 1)<30))=true:=by rfl)
 (hline:(apos.endLine==cpos.line)=true:=by rfl) (hs:#[14]:=by rfl) (hplain:(backTo cpos (starEach es X.env)).any (·.1)=false:=by rfl) :
 PE X (.Call (.Attribute o name apos) (e::es) [] cpos) (tBM X.K T r to t):=by
 intro pins s σ H Q I h;refine wpAny_Call_method_late hbase hfew hline rfl (thn (ho pins s σ H _ I h) fun v s1 ⟨x,H1,I1,r1,ty,q1⟩=>?_)
 obtain⟨h1,h2⟩:=zkh I1 r1 ty;refine⟨T,id,pa,slot,hty,h1,h2,?_⟩;have hA:=ha cpos pins s1 σ H1 _ I1 q1;rw [hs] at hA ⊢;refine Calls.callWith_builtin (by show(false||(backTo cpos (starEach es X.env)).any (·.1))=false;rw [hplain]<;>rfl) (Calls.evalArgs_plain ?_)
 exact thn hA fun us s2 ⟨vs,H2,I2,r2,q2⟩=>hm pins s2 σ H2 x vs v us Q I2 r1 r2 q2
end
def MtM(X:Cx)(id:String)(r:V->List V->Hp->VK->Prop):Prop:=
 ∀ (pins:List #[17]) (s:Shared) (σ : St) (H:Hp) (x:V) (xs:List V) (v:Value) (us:List Value) (Q:VK),Inv X pins σ H s->RelV x v->Vals xs us->r x xs H Q->
  wpAny #[12] X.A (call (.builtin id) (v::us)) (EP X pins σ Q) X.xe s
theorem Vals.one:∀ {x:V} {us:List Value},Vals [x] us->∃ u,us=[u]/\RelV x u
 | _,_,.cons r .nil=>⟨_,rfl,r⟩
theorem Vals.zero:∀ {us:List Value},Vals [] us->us=[]
 | _,.nil=>rfl
theorem Vals.eraseIdx:∀ {xs:List V} {us:List Value} (i:Nat),Vals xs us->Vals (xs.eraseIdx i) (us.eraseIdx i)
 | _,_,_,.nil=>.nil
 | _,_,0,.cons _ t=>t
 | _,_,i+1,.cons r t=>.cons r (Vals.eraseIdx i t)
theorem Vals.rep{xs:List V}{us:List Value}(h:Vals xs us):∀ k:Nat,Vals (List.replicate k xs).flatten (List.replicate k us).flatten
 | 0=>.nil
 | k + 1 => by
  rw [List.replicate_succ,List.replicate_succ,List.flatten_cons,List.flatten_cons];exact Vals.append h (Vals.rep h k)
section
variable{X:Cx}{pins:List #[17]}{σ : St}{H:Hp}{s:Shared}{l b:Addr}{xs ys zs:List V}
theorem Inv.lset{its its':List Value}{n:Nat}{f:Array Value->Array Value}{t':Nat}(I:#[11])(hH:H l=some (.lst xs))
 (e:s.heap.get? l=some { cls:=.type "list", data:=.seq its.toArray n }) (hf:f its.toArray=its'.toArray) (hv:Vals ys its') (hz:ys.length<=sizeLine) :
 Inv X pins σ (upd H l (.lst ys)) { s with heap:=s.heap.update l (Obj.mapSeq f),toks:=t' }:=by
 have q:=PySem.IsL.update e f;rw [hf] at q;refine I.write (x:=l) (e:=l) (by rw [hH];exact trivial) (.inl rfl) (fun b' u hb hu=>(Heap.get?_update_other s.heap (Obj.mapSeq f) (Wbo hb)).trans hu) ⟨_,q⟩ ?_
 exact⟨hz,its',_,hv,q⟩
theorem Inv.lnew{its:List Value}{t':Nat}(I:#[11])(hv:Vals ys its)(hz:ys.length<=sizeLine) :
 Inv X pins σ (upd H s.heap.objs.size (.lst ys)) { s with heap:=s.heap.push { cls:=.type "list", data:=.seq its.toArray },toks:=t' }:=
 I.laid (fun _ _ q=>YaW _ q) (YaY _) ⟨hz,its,0,hv,Yan _ rfl⟩
theorem Inv.fresh(I:#[11]):H s.heap.objs.size=none:=I.hok.fresh (YaY _)
theorem Inv.lstM(I:#[11])(hH:H l=some (.lst xs)):xs.length<=sizeLine/\∃ (its:List Value) (n:Nat),Vals xs its/\xs.length=its.length/\s.heap.get? l=some { cls:=.type "list", data:=.seq its.toArray n }:=by
 obtain⟨z,its,n,r,e⟩:=I.hok l _ hH;exact⟨z,its,n,r,r.length,e⟩
theorem zkz{n:Nat}(h:n<=sizeLine):Builtin.List.listTooLong n=false:=by
 unfold Builtin.List.listTooLong;exact decide_eq_false #[0]
end
section
variable{X:Cx}
def rAppend:V->List V->Hp->VK->Prop:=fun x vs H Q=>∃ l xs y,x=.ref l/\vs=[y]/\H l=some (.lst xs)/\xs.length<sizeLine/\Q .non (upd H l (.lst (xs++[y])))
theorem zet:MtM X "list.append" rAppend:=by
 intro pins s σ H x vs v us Q I rx rv h;obtain⟨l,xs,y,rfl,rfl,hH,hz,q⟩:=h;cases rx;obtain⟨u,rfl,ru⟩:=rv.one;obtain⟨z,its,n,r,hl,e⟩:=I.lstM hH;refine call_meets F.slot_list_append ⟨_,e,rfl⟩ F.entry_list_append (F.args_list_append_2 _ _) (PySem.list_append l its.toArray n u (by rw [YaZ];omega)) ⟨e,?_⟩
 refine⟨.non,_,I.lset (its':=its++[u]) hH e (by simp) (r.append (.cons ru .nil)) ?_,rfl,q⟩
 rw [YaS,List.length_singleton]
 omega
def rExtend:V->List V->Hp->VK->Prop:=fun x vs H Q=>∃ l b xs zs,x=.ref l/\vs=[.ref b]/\H l=some (.lst xs)/\H b=some (.lst zs)/\xs.length+zs.length<=sizeLine/\Q .non (upd H l (.lst (xs++zs)))
theorem zki:MtM X "list.extend" rExtend:=by
 intro pins s σ H x vs v us Q I rx rv h;obtain⟨l,b,xs,zs,rfl,rfl,hH,hB,hz,q⟩:=h;cases rx;obtain⟨u,rfl,ru⟩:=rv.one;cases ru;obtain⟨z,its,n,r,hl,e⟩:=I.lstM hH;obtain⟨z2,its2,n2,r2,hl2,e2⟩:=I.lstM hB;have hsz:its.toArray.size+its2.toArray.size<=sizeLine:=by rw [YaZ,YaZ];omega
 have hlong:¬(!its.toArray.isEmpty&&Builtin.List.listTooLong (its.toArray.size+its2.toArray.size))=true:=by
  rw [zkz hsz,Bool.and_false];exact Yal
 refine call_meets F.slot_list_extend ⟨_,e,rfl⟩ F.entry_list_extend (F.args_list_extend_2 _ _)
  (AutoSeq1.list_extend_list_list_0 l its.toArray n b its2.toArray n2 hlong (by rw [YaZ];omega) #[0]) ⟨e,e2,?_⟩
 refine⟨.non,_,I.lset (its':=its++its2) hH e (by simp) (r.append r2) ?_,rfl,q⟩
 rw [YaS]
 omega
end
section
variable{prog:Program}{w:World}{A:Around}{E:#[13]}{s:Shared}
end
section
variable{X:Cx}
end
end L2
namespace Att
open PySem PySem.W PySem.Calls PyProof.Rows
theorem zje{P:Params}{h:Heap}:∀ (ns:List Int) (vs:List Value),WellAll P h vs (ns.map WData.int)->IntsAre vs ns:=by
 intro ns
 induction ns with
 | nil=>
  intro vs w;rw [Wbe] at w;cases w;exact .nil
 | cons n ns ih=>
  intro vs w;rw [Ya1] at w;cases w with
  | cons a b=>
   cases a;exact .cons _ _ (ih _ b)
theorem zin{l:OpenLaw}{n:Nat}(hn:l.most=some n){P:Params}{h:Heap}{args:List WData}{vals:List Value}
 (hpre:l.row.toRowW.claim.pre args=true) (hwl:WellAll P h vals args) :
 ∃ a vs ns,vals=[Value.ref a]/\args=[WData.list (ns.map WData.int)]/\h.get? a=some { cls:=.type "list", data:=.seq vs.toArray }/\IntsAre vs ns/\ns.length<=n:=by
 have hsh:WShape.hasAll [] args [.list .int]=true:=(pre_splitW hpre).1;have hc:l.pre.holds [] { args:=args }=true:=(pre_splitW hpre).2;obtain⟨d,r,rfl,h1,h2⟩:=hasAllW_cons hsh;obtain rfl:=hasAllW_nil h2;obtain⟨xs,rfl,h3⟩:=hasW_list h1;obtain⟨ns,rfl⟩:=items_int h3;have hlen:ns.length<=n:=by
  unfold OpenLaw.pre at hc;have h4:(WTm.not (.lt (.lit (.int (n:Int))) (.len (.arg 0)))).holds [] { args:=[.list (ns.map .int)] }=true:=by
   have h4:=(holds_andW hc).1;rw [hn] at h4;exact h4
  have h5:=condW_of h4 (w_not (w_lt w_lit (w_len_list (w_arg rfl))));rw [YaR] at h5;refine Nat.le_of_not_lt fun q=>?_
  have q':(n:Int)<((ns.length:Nat):Int):=#[0]
  first
   | (rw [decide_eq_true q'] at h5;exact absurd h5 #[1])
   | (simp at h5;omega)
 cases hwl with
 | cons w1 w2=>
  cases w2;cases w1 with
  | list ho hall=>exact⟨_,_,ns,rfl,rfl,ho,zje ns _ hall,hlen⟩
theorem zj3(l:OpenLaw)(args:List WData):l.row.toRowW.claim.post args (.bool true) args=true:=
 postW_of (r:=l.row.toRowW) (X:=(true==true))
  (show WShape.has [] (.bool true) .bool=true by first|rfl|decide|simp [WShape.has,WShape.arms,WShape.armsAll])
  (show(WTm.eq .res (.lit (.bool true))).value [] { args:=args,res:=some (.bool true),after:=args }=some (.bool (true==true)) from w_eq_bool (w_res rfl) w_lit) rfl
theorem attach_call{l:OpenLaw}{n:Nat}{q:Program}{loose:List Str}{XP:(Str->Option Value)->Heap->Prop}{YP:World->Heap->Prop}{d:DefRec}
 (hn:l.most=some n) (hdf:d.params.defaults=[])
 (call:∀ (w:World) (s₀ s₁ : Shared) (mg mb:#[15]) (fa:Addr) (o:Obj) (pm cd doc:Value) (a:Addr) (vs:List Value) (ns:List Int),
  Ground q loose [] XP w s₀ mg mb s₁.heap->YP w s₁.heap->
  s₁.heap.get? fa=some o->o.data=.func (docDef d.name d.params d.body d.scope pm cd doc)->s₁.heap.CodeRec cd d.name->mg d.name=some (.ref fa)->
  s₁.heap.get? a=some { cls:=.type "list", data:=.seq vs.toArray }->IntsAre vs ns->ns.length<=n->s₁.gens = #[]->
  codeAny (model l.prog w) callerA (.call (.ref fa) ⟨[.ref a],[]⟩) (fun r s'=>r=.ok (.ret (.bool true))/\OldK s₁.heap s'.heap/\s'.os=s₁.os/\AllBare s'.gens) s₁) :
 WalkO q loose XP YP l.row.toRowW d [] (fun f vs=>PySem.call f vs):=by
 intro w s₀ s₁ mg mb G Y fa o pm cd doc dV kV ho hd hcd hD hmg hg args vals as hpre hlay hrd hwl hlo;obtain rfl:dV=.none:=Dflts.none hD hdf;obtain rfl:kV=.none:=Dflts.noKw hD;obtain⟨a,vs,ns,rfl,rfl,hobj,hints,hlen⟩:=zin hn hpre hwl;refine enter_call (codeAny_mono (call w s₀ s₁ mg mb fa o pm cd doc a vs ns G Y ho (fd_plain hd) hcd hmg hobj hints hlen hg) fun r s' hq=>?_)
 obtain⟨rfl,h2,h3,h4⟩:=hq;exact⟨.inl ⟨.bool true,.bool true,[],rfl,fun _=>rfl,.bool true,zj3 l _,fun _=>⟨List.Pairwise.nil,fun _ hm=>(nomatch hm)⟩⟩,h2,h3,h4⟩
section
variable{prog:Program}{w:World}{A:Around}{E:#[13]}{s:Shared}{K:Frag}
end
end Att
namespace L2
open PySem PySem.Spec PyProof.Rows
theorem zcL:∀ {vs:List Value} {ns:List Int},IntsAre vs ns->Vals (ns.map V.int) vs
 | _,_,.nil=>.nil
 | _,_,.cons n t h=>.cons ⟨t,rfl⟩ (zcL h)
def JF(s:Stmt):Arguments:=match s with
 | .FunctionDef _ a _ _ _ _ _ _ _ _=>a
 | _=>{ posonlyargs:=[],args:=[],vararg:=none,kwonlyargs:=[],kw_defaults:=[],kwarg:=none,defaults:=[] }
def jI(s:Stmt):List Stmt:=match s with
 | .FunctionDef _ _ b _ _ _ _ _ _ _=>b
 | _=>[]
def zh(s:Stmt):Scope:=match s with
 | .FunctionDef _ _ _ _ _ _ sc _ _ _=>sc
 | _=>{ kind:=.function,names:=[],isGenerator:=false,isCoroutine:=false }
abbrev CX0:CXT:=fun _ _ _ _ _ _=>False
structure Fun(K:Ybf)(x qual:Str)(st:Stmt)(f:Addr)(fd:FuncData):Prop where
 ex:∃ (oc:Value) (od:Option Addr) (kV doc pm:Value) (an:Option Addr) (cdv ct:Value) (osl:Array (Option Value)),
  fd=PySem.W.fnOf x qual (JF st) (jI st) (zh st) .none kV doc pm an cdv ct/\K.lookup f=some ⟨oc,od,.func fd,osl⟩/\PySem.W.codeIn K cdv qual=true
 kp:PySem.W.keepIn K (.ref f)=true
section
variable{P:Program}{w:World}{K:Ybf}{mg:#[15]}{base:Heap}
theorem Fun.ok{x qual:Str}{st:Stmt}{f:Addr}{fd:FuncData}{N ps:List Str}{k:Nat}{sp:Sp}(F:Fun K x qual st f fd)(S:FnScope N ps (zh st))(len:∀ vs H Q E,sp vs H Q E->vs.length=ps.length)
 (hbody:∀ (cdv:Value) (A:Around) (outer:List Env) (s:Shared) (H:Hp) (vs:List V) (Q:VK) (E:XK),Room k (A.deeper (envOfC qual (zh st) s.heap.objs.size f cdv))->sp vs H Q E->
  ∃ t,PSs (cxOf CX0 P w K mg base N qual (zh st) f cdv A outer s H E).nox (jI st) t/\t { nx:=fun _ H'=>Q .non H',rt:=Q } (start N vs) H):FnOk P w K mg base CX0 (k+1) f fd ps sp:=by
 obtain⟨oc,od,kV,doc,pm,an,cdv,ct,osl,rfl,lk,hcd⟩:=F.ex;refine zbm lk hcd S len fun A outer s H vs Q E hr hsp=>?_
 obtain⟨t,h,q⟩:=hbody cdv A outer s H vs Q E hr hsp;exact⟨t,h.nox,q⟩
theorem Fun.binds{x qual:Str}{st:Stmt}{f:Addr}{fd:FuncData}{ps:List Str}(F:Fun K x qual st f fd)
 (h:∀ (kV doc pm:Value) (an:Option Addr) (cdv ct:Value) (us:List Value),us.length=ps.length->bindArgs (PySem.W.fnOf x qual (JF st) (jI st) (zh st) .none kV doc pm an cdv ct) ⟨us,[]⟩=pure (ps.zip us)):Binds K fd ps []:=by
 obtain⟨oc,od,kV,doc,pm,an,cdv,ct,osl,rfl,lk,hcd⟩:=F.ex;exact .all (h kV doc pm an cdv ct)
theorem zbB{x qual:Str}{st:Stmt}{f:Addr}{oc:Value}{od an:Option Addr}{osl:Array (Option Value)}{kV doc pm cdv ct:Value}(l:K.lookup f=some ⟨oc,od,.func (PySem.W.fnOf x qual (JF st) (jI st) (zh st) .none kV doc pm an cdv ct),osl⟩)
 (c:PySem.W.codeIn K cdv qual=true) (k:PySem.W.keepIn K (.ref f)=true):Fun K x qual st f (PySem.W.fnOf x qual (JF st) (jI st) (zh st) .none kV doc pm an cdv ct):=⟨⟨oc,od,kV,doc,pm,an,cdv,ct,osl,rfl,l,c⟩,k⟩
end
theorem z9{A:Around}{k:Nat}(hr:Room k A):A.units+1<cLine:=Was (Nat.add_le_add_left (by decide:1<=64) _) hr.units
section
variable{X:Cx}
theorem pv(i:Nat){x:Str}{pos:Pos}(hN:X.N[i]?=some x:=by rfl)(hv:Vis X.env.scope x:=by first|exact Or.inl rfl|exact Or.inr (Or.inl rfl)|exact Or.inr (Or.inr rfl))(hd:#[24]:=by decide)
 (hcd:#[20]:=by decide):PE X (.Name x pos) (tVar i):=jx hN hv hd hcd
end
theorem ite2{c A B:Prop}[Decidable c](h1:c->A)(h2:¬c->B):if c then A else B:=by
 by_cases h:c
 . rw [if_pos h]
   exact h1 h
 . rw [if_neg h]
   exact h2 h
def Same(H H':Hp):Prop:=∀ b o,H b=some o->H' b=some o
theorem Same.refl(H:Hp):Same H H:=fun _ _ h=>h
theorem Same.trans{H H1 H2:Hp}(a:Same H H1)(b:Same H1 H2):Same H H2:=fun c o h=>b c o (a c o h)
theorem Same.free{H H':Hp}(e:Same H H'){l:Addr}(h:H' l=Option.none):H l=Option.none:=by
 cases q:H l with
 | none=>rfl
 | some o=>
  rw [e l o q] at h;cases h
theorem Same.seq{K:Ybf}{H H':Hp}{a:Addr}{xs:List V}(e:Same H H')(h:SqL K H a xs):SqL K H' a xs:=by
 rcases h with (h|⟨o,h⟩)|h
 . exact .inl (.inl (e _ _ h))
 . exact .inl (.inr ⟨o,e _ _ h⟩)
 . exact .inr h
end L2
end
set_option Elab.async false
set_option linter.all false
set_option maxRecDepth 100000
namespace L2
open PySem PySem.Spec PyProof.Rows
def Bits(k:Nat)(x:Int):Prop:=x.natAbs<2 ^ k
theorem Bits.mono{j k:Nat}{x:Int}(h:Bits j x)(hk:j<=k):Bits k x:=YaU h (Nat.pow_le_pow_right #[1] hk)
theorem Bits.mul{j k:Nat}{x y:Int}(h:Bits j x)(h':Bits k y):Bits (j+k) (x*y):=by
 unfold Bits at *;rw [Int.natAbs_mul,Nat.pow_add];exact Nat.mul_lt_mul'' h h'
theorem Bits.neg{k:Nat}{x:Int}(h:Bits k x):Bits k (-x):=by unfold Bits at *;rw [Int.natAbs_neg];exact h
theorem Bits.add{k:Nat}{x y:Int}(h:Bits k x)(h':Bits k y):Bits (k+1) (x+y):=by
 unfold Bits at *;have:=Int.natAbs_add_le x y;rw [Nat.pow_succ];omega
theorem Bits.sub{k:Nat}{x y:Int}(h:Bits k x)(h':Bits k y):Bits (k+1) (x - y):=by
 have:=h.add h'.neg;rwa [<-Int.sub_eq_add_neg] at this
theorem Bits.le{k:Nat}{x y:Int}(h:Bits k x)(hy:y.natAbs<=x.natAbs):Bits k y:=Was hy h
theorem Bits.log2{k:Nat}{x:Int}(h:Bits k x)(hk:0<k):x.natAbs.log2<k:=by
 rcases Nat.eq_zero_or_pos x.natAbs with h0|hp
 . rw [h0];exact hk
 . exact(Nat.log2_lt (Wbd hp)).mpr h
theorem Bits.bits{k:Nat}{x:Int}(h:Bits k x):Builtin.Int.intBits x<=k:=by
 unfold Builtin.Int.intBits
 split
 . exact Wbl _
 . rename_i hx
   have hx':x.natAbs≠0:=by
    intro e;apply hx;rw [Int.natAbs_eq_zero.mp e];rfl
   exact(Nat.log2_lt hx').mpr h
theorem Bits.mulOk{j k:Nat}{x y:Int}(h:Bits j x)(h':Bits k y)(hk:j+k<=134217728):IntMulOk x y:=by
 unfold IntMulOk;have e1:=h.bits;have e2:=h'.bits;have e:Builtin.Int.intTooBig ((Builtin.Int.intBits x:Int)+(Builtin.Int.intBits y:Int))=false:=by
  unfold Builtin.Int.intTooBig;refine decide_eq_false ?_;have:(bitsLine:Nat)=134217728:=by unfold bitsLine;decide
  omega
 intro z;rw [Yak] at z;have z2:=z.2;rw [e] at z2;cases z2
section
variable{X:Cx}
theorem zlH:OpR X (binaryOp .Mult) (rI IntMulOk fun i j=>.int (i*j)):=opI fun _ _ _ _ _ _ _ hc q=>mul_int q hc
def JY(i j:Int):Prop:=0<=j/\(Builtin.Int.intBits i:Int)*j<=134217728
theorem zgC:OpR X (binaryOp .Pow) (rI JY fun i j=>.int (i ^ j.toNat)):=opI fun i j _ _ _ _ _ hc q=>by
 refine pow_int hc.1 ?_ q
 have e:((2:Int) ^ 27)=134217728:=#[1]
 rw [e];exact hc.2
end
theorem zI.got{P:Program}{w:World}{H:Hp}{h:Heap}{a:Addr}{o:HO}(x:zI P w H h a o):∃ ob,h.get? a=some ob:=by
 cases o with
 | lst xs=>obtain⟨_,_,_,_,e⟩:=x;exact⟨_,e⟩
 | tup xs=>obtain⟨_,_,_,ob,e,_⟩:=x;exact⟨_,e⟩
 | dK kvs=>obtain⟨_,_,_,_,o,_,_,e,_⟩:=x;exact⟨_,e⟩
 | dT kvs=>obtain⟨_,_,_,_,o,_,_,e,_⟩:=x;exact⟨_,e⟩
 | set S n=>obtain⟨o,_,_,_,e,_⟩:=x;exact⟨_,e⟩
 | ins C dx fs=>obtain⟨_,_,_,e,_⟩:=x;exact⟨_,e⟩
 | own y=>obtain⟨_,e⟩:=x;exact⟨_,e⟩
 | xd fs=>obtain⟨_,⟨_,_,_,e,_⟩,_⟩:=x;exact⟨_,e⟩
 | rng lo hi=>obtain⟨_,_,_,e⟩:=x;exact⟨_,e⟩
 | frz ob u=>obtain⟨e,_⟩:=x;exact⟨_,e⟩
 | tbl ps=>exact⟨_,(show h.get? a=some _ from x)⟩
 | met f y=>exact⟨_,(show h.get? a=some _ from x)⟩
 | ext φ=>obtain⟨_,⟨_,e⟩,_⟩:=x;exact⟨_,e⟩
theorem HOk.through{P:Program}{w:World}{H:Hp}{B h h':Heap}(x:HOk P w H h)(k:B.StaysIn h)(k':B.StaysIn h')(t:∀ b o,H b=some o->∃ o',B.get? b=some o'):HOk P w H h':=fun a o e=>
 (x a o e).stay (fun b u hb q=>by
  have hB:∃ ob,B.get? b=some ob:=by
   rcases hb with z|z
   . exact t b o (z ▸ e)
   . exact t b _ z
  obtain⟨ob,hob⟩:=hB;have e1:=k b ob hob;rw [q] at e1;cases e1;exact k' b _ hob) (fun _ q=>q) fun _ _ q=>q
theorem Un.through{fs:List Addr}{H H':Hp}{B h h1 h2:Heap}(un:Un fs [] H H' h h1)(cov:∀ b o,h.get? b=some o->b∉fs->∃ o',B.get? b=some o')(k:B.StaysIn h1)(k':B.StaysIn h2)
 (fr:∀ b∈fs,∀ o,h1.get? b=some o->∃ sl,h2.get? b=some { o with slots:=sl }):Un fs [] H H' h h2 where
 keep:=fun b o q n hb hx=>by
  obtain⟨o',ho⟩:=cov b o q hb;have e:=un.keep b o q n hb hx;have e1:=k b o' ho;rw [e] at e1;cases e1;exact k' b _ ho
 slot:=fun b o q n hb hx=>by
  obtain⟨sl,e⟩:=un.slot b o q n hb hx;obtain⟨sl',e'⟩:=fr b hb _ e;exact⟨sl',e'⟩
 free:=un.free
 there:=fun b o q hx=>by
  by_cases hb:b∈fs
  . obtain⟨o',e⟩:=un.there b o q hx
    obtain⟨sl,e'⟩:=fr b hb _ e;exact⟨_,e'⟩
  . obtain⟨o',ho⟩:=cov b o q hb
    exact⟨o',k' b _ ho⟩
 tups:=un.tups
 frzs:=un.frzs
 tbls:=un.tbls
structure Fly(P:Program)(w:World)(stack:List Env)(H:Hp)(s:Shared)(ea C:Addr)(H':Hp)(s':Shared):Prop where
 os:s'.os=s.os
 bare:AllBare s'.gens
 un:Un (frs stack) [] H H' s.heap s'.heap
 hok:HOk P w H' s'.heap
 fly:∃ B a0,Heap.FlyingW B stack ea (.ref C) a0 s'.heap/\(∀ b o,s.heap.get? b=some o->b∉frs stack->∃ o',B.get? b=some o')/\(∀ b o,H' b=some o->∃ o',B.get? b=some o')
def CXR(P:Program)(w:World):CXT:=fun outer H s E e s'=>∃ ea C H',e=.ref ea/\Fly P w outer H s ea C H' s'/\E (.ref C) none H'
theorem zj2{B h h':Heap}{l:List Env}(fr:h.FunFrames B l)(sm:h.UpToSlots h'):∀ b∈frs l,∀ o,h.get? b=some o->∃ sl,h'.get? b=some { o with slots:=sl }:=fun b hb o ho=>by
 obtain⟨_,o2,ho2,hd⟩:=fr.mem hb;rw [ho] at ho2;cases ho2;exact sm b o ho hd
section
variable{P:Program}{w:World}{K:Ybf}{mg:#[15]}{base:Heap}{N:List Str}{qual:Str}{scope:Scope}{f:Addr}{cd:Value}{A:Around}{outer:List Env}{s₀ : Shared}{H₀ : Hp}{E:XK}{CX:CXT}
theorem zd6{pins:List #[17]}{σ : St}{H:Hp}{s:Shared}(I:Inv (cxOf CX P w K mg base N qual scope f cd A outer s₀ H₀ E) pins σ H s){b:Addr}{o:Obj}(q:s₀.heap.get? b=some o)(hb:b∉frs outer) :
 b∉frs (cxOf CX P w K mg base N qual scope f cd A outer s₀ H₀ E).stack:=fun z=>by
 rcases Wa4.mp (I.stkSub b z) with e|e
 . have h1:=YaX q
   rw [show b=s₀.heap.objs.size from e] at h1
   exact Yap _ h1
 . exact hb e
theorem zgi{pins:List #[17]}{σ : St}{H:Hp}{s:Shared}(I:Inv (cxOf CX P w K mg base N qual scope f cd A outer s₀ H₀ E) pins σ H s){b:Addr}{o:Obj}(q:s₀.heap.get? b=some o):∃ o',s.heap.get? b=some o':=
 I.base.there b o q (fun z=>absurd (show b∈([]:List Addr) from z) (by simp))
theorem zo:Passes (CXR P w) (cxOf (CXR P w) P w K mg base N qual scope f cd A outer s₀ H₀ E) E:=by
 intro pins σ H s e s' I h;obtain⟨ea,C,H',rfl,F,q⟩:=h;obtain⟨B,a0,fl,cov,trk⟩:=F.fly;have J:=I.call' (ch:=[]) F.os F.un F.hok F.bare (fun b z=>absurd z (by simp))
 have cov':∀ b o,s₀.heap.get? b=some o->b∉frs outer->∃ o',B.get? b=some o':=fun b o z hb=>by
  obtain⟨o1,h1⟩:=zgi I z;exact cov b o1 h1 (zd6 I z hb)
 refine wpAny_leaves_onW (base:=B) (outer:=outer) (L:=s₀.heap.objs.size) I.ok.frames rfl fl fun h' fl' sm=>?_
 have fr:=zj2 (fl.2.2.1).2.2 sm;exact⟨ea,C,H',rfl,⟨J.os,F.bare,J.base.through cov' fl.1 fl'.1 fr,F.hok.through fl.1 fl'.1 trk,B,a0,fl',cov',trk⟩,q⟩
def Flies(X:Cx)(E:XK):Prop:=∀ (pins:List #[17]) (σ : St) (H:Hp) (s:Shared) (e C:Addr) (vs:List Value) (h1:Heap),Inv X pins σ H s->Heap.MadeExcOf s.heap h1 e (.ref C) vs->E (.ref C) none H->X.xe (.ref e) { s with heap:=h1 }
theorem jq:Flies (cxOf (CXR P w) P w K mg base N qual scope f cd A outer s₀ H₀ E) E:=by
 intro pins σ H s e C vs h1 I M q;have kB:(PySem.W.hideAll s.heap (frs (cxOf (CXR P w) P w K mg base N qual scope f cd A outer s₀ H₀ E).stack)).StaysIn s.heap:=fun b o z=>PySem.W.of_hideAll _ z
 have trk:∀ b o,H b=some o->∃ o',(PySem.W.hideAll s.heap (frs (cxOf (CXR P w) P w K mg base N qual scope f cd A outer s₀ H₀ E).stack)).get? b=some o':=fun b o z=>by
  obtain⟨ob,hob⟩:=(I.hok b o z).got;exact⟨ob,PySem.W.hideAll_get _ hob fun hm=>by rw [I.stkFree b hm] at z;cases z⟩
 have cov:∀ b o,s₀.heap.get? b=some o->b∉frs outer->∃ o',(PySem.W.hideAll s.heap (frs (cxOf (CXR P w) P w K mg base N qual scope f cd A outer s₀ H₀ E).stack)).get? b=some o':=fun b o z hb=>by
  obtain⟨o1,h1⟩:=zgi I z;exact⟨o1,PySem.W.hideAll_get _ h1 (zd6 I z hb)⟩
 refine wpAny_leaves_madeW (base:=PySem.W.hideAll s.heap (frs (cxOf (CXR P w) P w K mg base N qual scope f cd A outer s₀ H₀ E).stack)) (h:=s.heap) (outer:=outer) (L:=s₀.heap.objs.size) I.ok.frames rfl kB
  (PySem.W.funFrames_hide I.stack fun env he b hb=>List.mem_filterMap.mpr ⟨env,he,hb⟩) M fun h' t fl tu bt sm=>?_
 have fr:∀ b∈frs outer,∀ o,s.heap.get? b=some o->∃ sl,h'.get? b=some { o with slots:=sl }:=fun b hb o ho=>by
  obtain⟨_,o2,ho2,hd⟩:=I.funs.mem hb;rw [ho] at ho2;cases ho2;exact sm b o (M.keeps b o ho) hd
 exact⟨e,C,H,rfl,⟨I.os,I.bare,I.base.through cov kB fl.1 fr,I.hok.through kB fl.1 trk,_,_,fl,cov,trk⟩,q⟩
end
def bmVE:List Value:=[.type "ValueError", .type "Exception", .type "BaseException", .type "object"]
theorem zjK{K:Ybf}{h:Heap}{C:Addr}(X:K.In h)(q:PySem.W.excIn K C bmVE "ValueError.__new__" = true) :
 ∃ bm N nm qn bs hdct sn sub ab col dd k0 k1 k2 k3 k5 mN,h.get? C=some (excClassObj nm qn C N bs bm hdct sn sub ab col dd k0 k1 k2 k3 k5 "ValueError.__new__")/\h.Ns N mN/\mN "__init__" = none/\OwnTail h bmVE bm:=by
 unfold PySem.W.excIn at q
 split at q
 . rename_i dd cdx sl ho
   split at q
   . rename_i C' bm k0 k1 k2 k3 n k5 hm hs
     rw [Yak,Yak,Yak,Yak,Yak] at q;obtain⟨⟨⟨⟨⟨q1,q2⟩,q3⟩,q4⟩,q5⟩,q6⟩:=q;have e1:C'=C:=beq_iff_eq.mp q1;have e2:n = "ValueError.__new__":=beq_iff_eq.mp q2;have e6:=beq_iff_eq.mp q6;obtain⟨nm,bs,mro,ns,qn,hd,sn,sub,ab,col,del⟩:=cdx;obtain⟨l⟩:=sl;dsimp only at hm q3 q5 e6 hs;have e3:del=false:=by simpa using q3
     subst e1 e2 e3 hm hs;exact⟨bm,ns,nm,qn,bs,hd,sn,sub,ab,col,dd,k0,k1,k2,k3,k5,_,X _ _ ho,.of_isNs (PySem.W.isNs_of_in X q5),PySem.W.nsMap_none_of_in X q5 e6,PySem.W.tail_of_in X q4⟩
   . cases q
 . cases q
def zhr(C:Addr)(E:XK)(t:TA):TS:=fun _ σ H=>t σ H fun vs H1=>vs.length<=sizeLine/\E (.ref C) none H1
theorem zhc{X:Cx}{x:Str}{C:Addr}{e0:Expr}{t:TA}{E:XK}{np cpos pos:Pos}(hf:Flies X E)(hc:X.calm=true)(hg:Gl X x)(hm:X.mg x=some (.ref C))(hx:PySem.W.excIn X.K C bmVE "ValueError.__new__" = true)(ha:PA X [e0] t)
 (hdb:#[24]:=by decide) (hs:starEach [e0] X.env=[(false,eval e0 X.env)]:=by rfl):PS X (.Raise (some (.Call (.Name x np) [e0] [] cpos)) none pos) (zhr C E t):=by
 intro pins s σ H D I h;obtain⟨bm,Nn,nm,q,bs,hdct,sn,sub,ab,col,dd,k0,k1,k2,k3,k5,mN,hC,hN,hni,T⟩:=zjK I.ok.mod.kin hx;refine wpAny_Raise_call_subT (C:=C) (nm:=nm) (q:=q) (N:=Nn) (bs:=bs) (bm:=bm) (hdct:=hdct) (sn:=sn) (sub:=sub) (ab:=ab) (col:=col) (dd:=dd) (k0:=k0) (k1:=k1) (k2:=k2) (k3:=k3) (k5:=k5)
  PySem.F.excBase_ValueError (mN:=mN) (T.hasType rfl) (I.ok.hd hc) (by rw [hs];rfl) hni (zb3 I hg hm ⟨rfl,?_⟩ hdb)
 have h1:=ha cpos pins s σ H _ I h;rw [hs] at h1 ⊢;refine Calls.evalArgs_plain (wpAny_mono h1 (fun us s2 z=>?_) fun _ _ z=>z)
 obtain⟨vs,H1,I1,r,z,qE⟩:=z;exact⟨rfl,by show us.length<=sizeLine;rw [<-r.length];exact z,I1.bk _ _ hC,hN.keeps I1.bk,T.keeps I1.bk,fun h' e M=>hf pins σ H1 s2 e C us h' I1 M qE⟩
theorem Fun.okR{P:Program}{w:World}{K:Ybf}{mg:#[15]}{base:Heap}{x qual:Str}{st:Stmt}{f:Addr}{fd:FuncData}{N ps:List Str}{k:Nat}{sp:Sp}(F:Fun K x qual st f fd)(S:FnScope N ps (zh st))(len:∀ vs H Q E,sp vs H Q E->vs.length=ps.length)
 (hbody:∀ (cdv:Value) (A:Around) (outer:List Env) (s:Shared) (H:Hp) (vs:List V) (Q:VK) (E:XK),Room k (A.deeper (envOfC qual (zh st) s.heap.objs.size f cdv))->sp vs H Q E->
  ∃ t,PSs (cxOf (CXR P w) P w K mg base N qual (zh st) f cdv A outer s H E) (jI st) t/\t { nx:=fun _ H'=>Q .non H',rt:=Q } (start N vs) H):FnOk P w K mg base (CXR P w) (k+1) f fd ps sp:=by
 obtain⟨oc,od,kV,doc,pm,an,cdv,ct,osl,rfl,lk,hcd⟩:=F.ex;exact zbm lk hcd S len fun A outer s H vs Q E hr hsp=>hbody cdv A outer s H vs Q E hr hsp
abbrev TX:=Ends->(Addr->Hp->Prop)->St->Hp->Prop
def XE(X:Cx)(pins:List #[17])(σ : St)(E:Addr->Hp->Prop)(e:Value)(s':Shared):Prop:=
 ∃ ea C H1 s1 H',e=.ref ea/\Inv X pins σ H1 s1/\Fly X.prog X.w X.stack H1 s1 ea C H' s'/\E C H'
def PX(X:Cx)(st:List Stmt)(t:TX):Prop:=
 ∀ (pins:List #[17]) (s:Shared) (σ : St) (H:Hp) (D:Ends) (E:Addr->Hp->Prop),Inv X pins σ H s->t D E σ H->wpAny #[12] X.A (execs st X.env) (SP X pins D) (XE X pins σ E) s
theorem PA.nox{X:Cx}{es:List Expr}{t:TA}(h:PA X.nox es t)(pos:Pos){pins:List #[17]}{s:Shared}{σ : St}{H:Hp}{Q:List V->Hp->Prop}{E:#[13]}(I:#[11])(q:t σ H Q) :
 wpAny #[12] X.A (spliced (backTo pos (starEach es X.env))) (AP X pins σ Q) E s:=
 wpAny_mono (h pos pins s σ H Q (I.wish _) q) (fun us s1 ⟨vs,H1,I1,r,q1⟩=>⟨vs,H1,I1.unwish,r,q1⟩) fun _ _ z=>z.elim
def excO(ea C:Addr):HO:=.ext fun h=>∃ o vs,h.get? ea=some o/\o.cls=.ref C/\o.data=.fields vs
abbrev Cx.inExc(X:Cx)(ea:Addr):Cx:={ X with A:=X.A.mark (some (.ref ea)),calm:=false,xe:=fun _ _=>False }
section
variable{X:Cx}{pins:List #[17]}{σ : St}{H:Hp}{s:Shared}
theorem Inv.exc(I:#[11])(ea:Addr):Inv (X.inExc ea) pins σ H s:=
 ⟨⟨I.ok.mod,I.ok.kind,I.ok.glob,I.ok.blt,I.ok.above,I.ok.inj,I.ok.has,I.ok.cab,(fun z=>absurd z Yal),I.ok.frames,I.ok.stk,I.ok.exf,I.ok.bs,I.ok.bsz,I.ok.noex,I.ok.exfs,I.ok.funs,I.ok.frf⟩,
  I.os,I.bare,I.base,I.loc,I.cell,I.free,I.freeC,I.pin,I.hok,I.len⟩
end
theorem HOk.track{P:Program}{w:World}{H:Hp}{h:Heap}{a:Addr}{o:HO}(x:HOk P w H h)(hn:H a=none)(new:zI P w (upd H a o) h a o):HOk P w (upd H a o) h:=fun b u e=>by
 by_cases hb:b=a
 . subst hb;rw [zf] at e;cases e;exact new
 . rw [zc hb] at e
   exact(x b u e).stay (fun c v _ q=>q) (fun c q=>by rw [zc (je q hn)];exact q) fun c xs q=>by rw [zc (je q hn)];exact q
theorem zgn:bootBuiltins "int" = some (.type "int"):=#[3]
theorem ziy:bootBuiltins "bool" = some (.type "bool"):=#[3]
theorem zan:bootBuiltins "list" = some (.type "list"):=#[3]
theorem zkv:bootBuiltins "zip" = some (.type "zip"):=#[3]
theorem zif:bootBuiltins "isinstance" = some (.builtin "isinstance"):=#[3]
theorem zz:bootBuiltins "len" = some (.builtin "len"):=#[3]
theorem zcg:bootBuiltins "abs" = some (.builtin "abs"):=#[3]
theorem zb6:bootBuiltins "max" = some (.builtin "max"):=#[3]
theorem zg6:bootBuiltins "min" = some (.builtin "min"):=#[3]
theorem Jo:bootBuiltins "sum" = some (.builtin "sum"):=#[3]
section
variable{prog:Program}{w:World}{A:Around}{E:#[13]}{s:Shared}{K:Ybf}{ea C:Addr}
end
section
variable{X:Cx}
def isB(t n:String):Option Bool:=
 if t = "int"/\n = "int" then some true else if t = "int"/\n = "bool" then some false else if t = "tuple"/\n = "tuple" then some true else if t = "list"/\n = "list" then some true
 else if t = "str"/\n = "str" then some true else if t = "bool"/\n = "bool" then some true else none
theorem zlg{K:Ybf}{t n:String}{b:Bool}(h:isB t n=some b):PySem.W.kitOne K (.type t) (.type n)=some b:=by
 unfold isB at h
 split at h
 . rename_i e;obtain⟨rfl,rfl⟩:=e;cases h;rfl
 split at h
 . rename_i e;obtain⟨rfl,rfl⟩:=e;cases h;rfl
 split at h
 . rename_i e;obtain⟨rfl,rfl⟩:=e;cases h;rfl
 split at h
 . rename_i e;obtain⟨rfl,rfl⟩:=e;cases h;rfl
 split at h
 . rename_i e;obtain⟨rfl,rfl⟩:=e;cases h;rfl
 split at h
 . rename_i e;obtain⟨rfl,rfl⟩:=e;cases h;rfl
 cases h
end
mutual
inductive RdV(K:Ybf)(H:Hp):V->PyData->Prop
 | non:RdV K H .non .none
 | bl (b):RdV K H (.bl b) (.bool b)
 | int (i):RdV K H (.int i) (.int i)
 | str (x):RdV K H (.str x) (.str x)
 | lst {a xs ds}:SqL K H a xs->RdVs K H xs ds->RdV K H (.ref a) (.list ds)
 | tup {a xs ds}:SqT K H a xs->RdVs K H xs ds->RdV K H (.ref a) (.tuple ds)
inductive RdVs(K:Ybf)(H:Hp):List V->List PyData->Prop
 | nil:RdVs K H [] []
 | cons {x xs d ds}:RdV K H x d->RdVs K H xs ds->RdVs K H (x::xs) (d::ds)
end
section
variable{X:Cx}{pins:List #[17]}{σ : St}{H:Hp}{s:Shared}
mutual
theorem RdV.reads(I:#[11]):∀ {x:V} {d:PyData} {u:Value},RdV X.K H x d->RelV x u->∃ as,Reads s.heap u d as
 | _,_,_,.non,r=>by cases r;exact⟨_,.none⟩
 | _,_,_,.bl b,r=>by cases r;exact⟨_,.bool b⟩
 | _,_,_,.int i,r=>by obtain⟨t,rfl⟩:=r;exact⟨_,.int i t⟩
 | _,_,_,.str x,r=>by obtain⟨t,rfl⟩:=r;exact⟨_,.str x t⟩
 | _, _, _, .lst hq hs, r => by
  cases r;obtain⟨its,rv,⟨o,n,ho,hc,_,hd⟩,_⟩:=I.list hq
  obtain⟨as,q⟩:=RdVs.reads I hs rv;exact⟨_,.list ho hc hd q⟩
 | _, _, _, .tup hq hs, r => by
  cases r;obtain⟨its,rv,⟨o,ho,hc,n,hd⟩,_⟩:=I.tuple hq
  obtain⟨as,q⟩:=RdVs.reads I hs rv;exact⟨_,.tuple ho hc hd q⟩
theorem RdVs.reads(I:#[11]):∀ {xs:List V} {ds:List PyData} {us:List Value},RdVs X.K H xs ds->Vals xs us->∃ as,ReadsAll s.heap us ds as
 | _,_,_,.nil,.nil=>⟨_,.nil⟩
 | _, _, _, .cons h hs, .cons r t => by
  obtain⟨as,q⟩:=RdV.reads I h r;obtain⟨bs,p⟩:=RdVs.reads I hs t;exact⟨_,.cons q p⟩
end
end
section
variable{X:Cx}
def rEqD(K:Ybf):R2:=fun x y H Q=>∃ d e,RdV K H x d/\RdV K H y e/\SeqAt.shaped d=true/\SeqAt.shaped e=true/\Q (.bl (PyData.eqv d e)) H
def rNeD(K:Ybf):R2:=fun x y H Q=>∃ d e,RdV K H x d/\RdV K H y e/\SeqAt.shaped d=true/\SeqAt.shaped e=true/\Q (.bl (!PyData.eqv d e)) H
theorem ziF(hu:X.A.units+64<cLine):OpR X (compareOp .Eq) (rEqD X.K):=by
 intro pins s σ H x y v u Q I rx ry h;obtain⟨d,e,h1,h2,s1,s2,q⟩:=h;obtain⟨as,r1⟩:=h1.reads I rx;obtain⟨bs,r2⟩:=h2.reads I ry;exact eq_dataH r1 r2 s1 s2 hu ⟨.bl _,H,I,rfl,q⟩
theorem zhJ(hu:X.A.units+64<cLine):OpR X (compareOp .NotEq) (rNeD X.K):=by
 intro pins s σ H x y v u Q I rx ry h;obtain⟨d,e,h1,h2,s1,s2,q⟩:=h;obtain⟨as,r1⟩:=h1.reads I rx;obtain⟨bs,r2⟩:=h2.reads I ry;exact ne_dataH r1 r2 s1 s2 hu ⟨.bl _,H,I,rfl,q⟩
def j4(_ j:Int):Prop:=0<j/\Bits 9000 j
theorem zjv:OpR X (binaryOp .FloorDiv) (rI j4 fun i j=>.int (i/j)):=opI fun i j _ _ _ _ _ hc q=>
 floordiv_int (by have:=hc.1;omega) (by rw [Int.fdiv_eq_ediv_of_nonneg i (by have:=hc.1;omega)];exact q) (.inl (PyProof.noPylong_of_log2 (hc.2.log2 #[1])))
end
def Df(P:Program)(w:World)(K:Ybf)(mg:#[15])(base:Heap)(k:Nat)(x:Str)(ps:List Str)(sp:Sp):Prop:=
 ∃ f fd,FnOk P w K mg base (CXR P w) k f fd ps sp/\Binds K fd ps []/\PySem.W.keepIn K (.ref f)=true/\mg x=some (.ref f)
section
variable{X:Cx}{k:Nat}{ps:List Str}{sp:Sp}{x:Str}{p pos pos':Pos}{e:Expr}{es:List Expr}{t:TA}{E:XK}
theorem jG(G:Df X.prog X.w X.K X.mg X.base k x ps sp)(hr:Room k X.A)(hg:Gl X x)(hx:Passes (CXR X.prog X.w) X E)(ha:PA X (e::es) t)(hdb:#[24]:=by decide)
 (he:#[14]:=by rfl) (hpl:(backTo pos (starEach es X.env)).any (·.1)=false:=by rfl):PE X #[23] (zd2 sp [] E t):=by
 obtain⟨f,fd,F,hb,hk,hm⟩:=G;exact zkP F hr hg hm hk hb .nil hx ha hdb he hpl
end
section
variable{X:Cx}{o e:Expr}{to:TE}{t:TA}{apos pos:Pos}
theorem zc4(ho:PE X o to)(ha:PA X [e] t)(hb:attributeBase o "append" X.env (eval o X.env)=eval o X.env:=by rfl)
 (hf:((backTo pos (starEach [e] X.env)).all (fun x=>!x.1)&&(backToKw pos (keywordEach [] X.env)).all (fun x=>x.1.isSome)&&decide ([e].length+([]:List Keyword).length+(if([]:List Keyword).isEmpty then 0 else 1)<30))=true:=by rfl)
 (hl:(apos.endLine==pos.line)=true:=by rfl) (hs:starEach [e] X.env=(false,eval e X.env)::starEach [] X.env:=by rfl) (hp:(backTo pos (starEach [] X.env)).any (·.1)=false:=by rfl) :
 PE X (.Call (.Attribute o "append" apos) [e] [] pos) (tBM X.K "list" rAppend to t):=
 zdc Waj PySem.F.slot_list_append PySem.F.type_list_append zet ho ha hb hf hl hs hp
theorem zdm{K:Ybf}{H:Hp}{p:Addr}{xs:List V}(h:H p=some (.lst xs)):tyV K "list" (.ref p) H:=.inl ⟨rfl,_,SqL.of h⟩
end
section
variable{ta:TA}{tl:TE}{g:TG}{tb:TS}{D:Ends}{σ : St}{H:Hp}{K:Ybf}
end
theorem zG{H:Hp}{p:Addr}(h:H p=none)(o:HO):Same H (upd H p o):=fun b u q=>by rw [zc (je q h)];exact q
theorem Same.tup{K:Ybf}{H H':Hp}{a:Addr}{xs:List V}(e:Same H H')(h:SqT K H a xs):SqT K H' a xs:=by
 rcases h with (h|⟨o,h⟩)|h
 . exact .inl (.inl (e _ _ h))
 . exact .inl (.inr ⟨o,e _ _ h⟩)
 . exact .inr h
section
variable{X:Cx}
end
theorem atI0{α : Type}{x:α}{xs:List α}:atI (x::xs) 0=some x:=z8 (j:=0) rfl
theorem atI1{α : Type}{x y:α}{xs:List α}:atI (x::y::xs) 1=some y:=z8 (j:=1) rfl
end L2
section
open PySem PySem.Spec PyProof.Rows L2
namespace L2
end L2
namespace L2
theorem Bits.emod{k:Nat}{m:Int}(hm:Bits k m)(h0:0<m)(x:Int):Bits k (x%m):=hm.le (by
 have h1:=Ybc x (by omega:m≠0)
 have h2:=Ybd x h0
 omega)
theorem Bits.lit{x:Int}(k:Nat)(h:x.natAbs<2 ^ 64:=by decide)(hk:64<=k:=by decide):Bits k x:=Bits.mono (j:=64) h hk
theorem divP{i j:Int}(h0:0<j:=by decide)(h:j.natAbs<2 ^ 64:=by decide):j4 i j:=⟨h0,Bits.lit _ h #[1]⟩
theorem powB{i j:Int}{k:Nat}(h:Bits k i)(h0:0<=j)(hk:k*j.toNat<=134217728):JY i j:=⟨h0,by
 have e1:=h.bits;have e2:(Builtin.Int.intBits i:Int)*j<=(k:Int)*j:=Ybe #[0] h0
 have e3:(k:Int)*j=((k*j.toNat:Nat):Int):=by rw [Int.natCast_mul];congr 1;omega
 omega⟩
end L2
end
namespace L2
open PySem PySem.Spec PyProof.Rows
def zdG(osc scope:Scope)(tn fn:List Str):Bool:=
 decide (scope.kind=.function)&&scope.names.all (fun x=>!decide (x.2=.local)||decide (scope.names.lookup x.1=some .local)) &&
 scope.names.all (fun x=>!decide (x.2=.cell)||decide (scope.names.lookup x.1=some .cell)) &&
 scope.names.all (fun x=>!decide (x.2=.free)||decide (osc.names.lookup x.1=some .cell)||decide (osc.names.lookup x.1=some .free)) &&
 tn.all (fun x=>decide (scope.names.lookup x=some .local)||decide (scope.names.lookup x=some .cell)) &&
 fn.all (fun x=>decide (scope.names.lookup x=some .free))&&decide ((tn++fn).Nodup)
structure CompSc(osc scope:Scope)(tn fn:List Str):Prop where
 kind:scope.kind=.function
 loc:∀ x∈scope.names,x.2=.local->scope.names.lookup x.1=some .local
 cell:∀ x∈scope.names,x.2=.cell->scope.names.lookup x.1=some .cell
 free:∀ x∈scope.names,x.2=.free->osc.names.lookup x.1=some .cell\/osc.names.lookup x.1=some .free
 frees:∀ x∈fn,scope.names.lookup x=some .free
 nd:(tn++fn).Nodup
theorem zY{osc scope:Scope}{tn fn:List Str}(h:zdG osc scope tn fn=true):CompSc osc scope tn fn:=by
 unfold zdG at h;simp only [Yak,decide_eq_true_eq,WaO,Bool.or_eq_true,Wax,decide_eq_false_iff_not] at h;obtain⟨⟨⟨⟨⟨⟨h1,h2⟩,h3⟩,h4⟩,h5⟩,h6⟩,h7⟩:=h;refine⟨h1,fun x hx e=>(h2 x hx).resolve_left (fun n=>n e),fun x hx e=>(h3 x hx).resolve_left (fun n=>n e),fun x hx e=>?_,h6,h7⟩
 rcases h4 x hx with (n|q)|q
 . exact absurd e n
 . exact .inl q
 . exact .inr q
theorem zca(env:Env):∀ (names:List (Str×NameKind)) (x:Str),
 (names.map fun(n,k)=>if(k==NameKind.free&&env.scope.kind==.function&&env.kindOf n==some .cell) then(n,NameKind.cell) else(n,k)).lookup x =
  (names.lookup x).map fun k=>if(k==NameKind.free&&env.scope.kind==.function&&env.kindOf x==some .cell) then NameKind.cell else k
 | [],x=>rfl
 | (n, k) :: r, x => by
  have ih:=zca env r x;rw [Ya1]
  by_cases hx:x=n
  . subst hx
    show List.lookup x ((if(k==NameKind.free&&env.scope.kind==.function&&env.kindOf x==some .cell)=true then(x,NameKind.cell) else(x,k))::_)=_
    split
    . rename_i hc;rw [List.lookup_cons,List.lookup_cons];simp only [beq_self_eq_true,Option.map_some,if_pos hc]
    . rename_i hc;rw [List.lookup_cons,List.lookup_cons];simp only [beq_self_eq_true,Option.map_some,if_neg hc]
  . have hb:(x==n)=false:=beq_eq_false_iff_ne.mpr hx
    show List.lookup x ((if(k==NameKind.free&&env.scope.kind==.function&&env.kindOf n==some .cell)=true then(n,NameKind.cell) else(n,k))::_)=_
    split
    . simp only [List.lookup_cons,hb];exact ih
    . simp only [List.lookup_cons,hb];exact ih
theorem zfy{scope:Scope}{env:Env}{x:Str}{k:NameKind}(h:(relabel scope env).names.lookup x=some k):∃ k',scope.names.lookup x=some k'/\(k'=k\/(k'=.free/\k=.cell)):=by
 have e:=zca env scope.names x;have h':(scope.names.map fun(n,k)=>if(k==NameKind.free&&env.scope.kind==.function&&env.kindOf n==some .cell) then(n,NameKind.cell) else(n,k)).lookup x=some k:=h
 rw [h'] at e;cases q:scope.names.lookup x with
 | none=>rw [q] at e;cases e
 | some k'=>
  rw [q] at e;have e':=WaV e;refine⟨k',rfl,?_⟩;dsimp only at e'
  split at e'
  . rename_i hc
    simp only [Yak,beq_iff_eq] at hc;exact .inr ⟨hc.1.1,e'⟩
  . exact .inl e'.symm
theorem zhT{scope:Scope}{env:Env}{x:Str}(h:scope.names.lookup x=some .free):(relabel scope env).names.lookup x=some .cell\/(relabel scope env).names.lookup x=some .free:=by
 have e:=zca env scope.names x;rw [h] at e;have e':(relabel scope env).names.lookup x=some _:=e;rw [e']
 by_cases c:(NameKind.free==NameKind.free&&env.scope.kind==.function&&env.kindOf x==some .cell)=true
 . left;simp only [Waz];rw [if_pos c]
 . right;simp only [Waz];rw [if_neg c]
theorem JT:∀ (names:List (Str×NameKind)) (n:Nat) (acc:List (Str×Addr)),cellsFrom n names acc=cellsFrom n names []++acc
 | [],_,acc=>rfl
 | (x, k) :: r, n, acc => by
  unfold cellsFrom
  split
  . rw [JT r (n+1) ((x,n)::acc),JT r (n+1) [(x,n)],Yag];rfl
  . exact JT r n acc
theorem zcn:∀ (names:List (Str×NameKind)) (n:Nat) (x:Str) (c:Addr),(x,c)∈cellsFrom n names []->(x,NameKind.cell)∈names
 | [],_,_,_,h=>by cases h
 | (y, k) :: r, n, x, c, h => by
  unfold cellsFrom at h
  split at h
  . rename_i hk
    rw [JT] at h
    rcases Ya3.mp h with q|q
    . exact YaT _ (zcn r _ x c q)
    . cases Ya6.mp q
      have:k=.cell:=by simpa using hk
      subst this;exact YaV
  . exact YaT _ (zcn r _ x c h)
theorem zkA{env:Env}{scope:Scope}(h:∀ x∈scope.names,x.2=.free->∃ c,env.cells.lookup x.1=some c) :
 ∃ cl,closureFor scope env=pure cl/\(∀ x c,cl.lookup x=some c->env.cells.lookup x=some c)/\∀ x,(x,NameKind.free)∈scope.names->∃ c,cl.lookup x=some c:=by
 have key:∀ (f:Str×NameKind->List (Str×Addr)->Sem (ForInStep (List (Str×Addr)))),(∀ n k cs,f (n,k) cs=if k==.free then(do let a <-cellOf env n;pure (ForInStep.yield ((n,a)::cs))) else pure (ForInStep.yield cs))->
  ∀ (names:List (Str×NameKind)) (acc:List (Str×Addr)),(∀ x∈names,x.2=.free->∃ c,env.cells.lookup x.1=some c)->(∀ x c,acc.lookup x=some c->env.cells.lookup x=some c)->
  ∃ cl,(forIn names acc f:Sem (List (Str×Addr)))=pure cl/\(∀ x c,cl.lookup x=some c->env.cells.lookup x=some c)/\
   (∀ x,(x,NameKind.free)∈names->∃ c,cl.lookup x=some c)/\∀ x,(∃ c,acc.lookup x=some c)->∃ c,cl.lookup x=some c:=by
  intro f hf names
  induction names with
  | nil=>intro acc _ ha;exact⟨acc,rfl,ha,fun x hx=>(by cases hx),fun x q=>q⟩
  | cons y r ih=>
   intro acc hn ha;obtain⟨n,k⟩:=y
   by_cases hk:k=.free
   . subst hk
     obtain⟨c,hc⟩:=hn (n,.free) YaV rfl;have hc':env.cells.lookup n=some c:=hc;obtain⟨cl,e1,e2,e3,e4⟩:=ih ((n,c)::acc) (fun x hx=>hn x (YaT _ hx)) (fun x c' q=>by
      rw [List.lookup_cons] at q
      by_cases hx:x=n
      . subst hx;simp at q;subst q;exact hc'
      . rw [beq_eq_false_iff_ne.mpr hx] at q;exact ha x c' q)
     refine⟨cl,?_,e2,fun x hx=>?_,fun x q=>e4 x ?_⟩
     . rw [List.forIn_cons,hf]
       have ec:cellOf env n=pure c:=by unfold cellOf;rw [hc']
       simp only [beq_self_eq_true,if_true,ec];exact e1
     . rcases Wa4.mp hx with e|e
       . cases e;exact e4 n ⟨c,by simp [List.lookup_cons]⟩
       . exact e3 x e
     . obtain⟨c',q⟩:=q
       by_cases hx:x=n
       . subst hx;exact⟨c,by simp [List.lookup_cons]⟩
       . exact⟨c',by rw [List.lookup_cons,beq_eq_false_iff_ne.mpr hx];exact q⟩
   . obtain⟨cl,e1,e2,e3,e4⟩:=ih acc (fun x hx=>hn x (YaT _ hx)) ha
     refine⟨cl,?_,e2,fun x hx=>?_,e4⟩
     . rw [List.forIn_cons,hf]
       have:(k==NameKind.free)=false:=by simpa using hk
       simp only [this,Wat,if_false];exact e1
     . rcases Wa4.mp hx with e|e
       . cases e;exact absurd rfl hk
       . exact e3 x e
 unfold closureFor;obtain⟨cl,e1,e2,e3,_⟩:=key (fun x r=>match x with|(name,kind)=>if kind==.free then(do let a <-cellOf env name;pure (ForInStep.yield ((name,a)::r))) else pure (ForInStep.yield r)) (fun _ _ _=>rfl) scope.names [] h (fun x c q=>by cases q)
 refine⟨cl,?_,e2,e3⟩
 have e:∀ (x:Sem (List (Str×Addr))),x=pure cl->(x >>= fun r=>pure r)=pure cl:=fun x q=>by rw [q];rfl
 exact e _ e1
def zk6(scope:Scope)(C:Addr)(cells:List (Str×Addr))(env:Env):Env:=
 { scope:=relabel scope env,locals:=C,globals:=env.globals,cells:=cells,qual:=env.qual,func:=none,code:=env.code,frame:=env.frame,builtins:=env.builtins }
def Cx.comp(X:Cx)(scope:Scope)(N:List Str)(s:Shared)(H:Hp)(fp:List Addr)(cl:List (Str×Addr)):Cx where
 prog:=X.prog
 w:=X.w
 K:=X.K
 mg:=X.mg
 base:=X.base
 A:=X.A
 N:=N
 s₀:=s
 H₀:=H
 env:=zk6 scope s.heap.objs.size (cellsFrom #[21] scope.names cl) X.env
 outer:=X.stack
 stack:=X.stack
 ex:=fp
 fn:=fun x=>decide (scope.names.lookup x=some .cell)
 calm:=X.calm
 pn:=[]
 xe:=fun _ _=>False
def cst(n:Nat)(js:List Nat)(σ : St):St:=List.replicate n none++js.map fun j=>(σ[j]?).join
theorem zlw{X:Cx}{pins:List #[17]}{σ : St}{H:Hp}{s:Shared}{scope:Scope}{tn fn:List Str}{js:List Nat}{fp:List Addr}{cl:List (Str×Addr)}(I:#[11])(S:CompSc X.env.scope scope tn fn)
 (hj:js.map (fun j=>X.N[j]?)=fn.map some) (hfp:∀ b∈fp,FpOk X pins H b) (hlt:∀ b∈fp,b<s.heap.objs.size)
 (hcl:∀ x c,cl.lookup x=some c->X.env.cells.lookup x=some c) (hcl2:∀ x,(x,NameKind.free)∈scope.names->∃ c,cl.lookup x=some c) :
 Inv #[16] [] (cst tn.length js σ) H { s with heap:=pushCells (s.heap.push { cls:=.type "dict", data:=.dict #[] }) scope.names }:=by
 have hC:=cellsFrom_ok scope.names (s.heap.push { cls:=.type "dict", data:=.dict #[] }) #[21] [] ⟨fun _ _ hm=>(nomatch hm),List.Pairwise.nil⟩ (by rw [Wa1];exact YaY _)
 rw [Wa1] at hC;have keep:∀ b o,s.heap.get? b=some o->(pushCells (s.heap.push { cls:=.type "dict", data:=.dict #[] }) scope.names).get? b=some o:=fun b o e=>pushCells_keeps _ _ b o (YaW _ e)
 have look:∀ x c,(cellsFrom #[21] scope.names cl).lookup x=some c->((x,c)∈cellsFrom #[21] scope.names [])\/X.env.cells.lookup x=some c:=fun x c e=>by
  rw [JT,List.lookup_append] at e;cases q:(cellsFrom #[21] scope.names []).lookup x with
  | some c'=>rw [q] at e;cases e;exact .inl (Waq q)
  | none=>rw [q] at e;exact .inr (hcl x c e)
 have outerLt:∀ x c,X.env.cells.lookup x=some c->c<s.heap.objs.size:=fun x c e=>by
  obtain⟨v,q⟩:=I.cell x c e;exact q.lt
 have ownGe:∀ x c,(x,c)∈cellsFrom #[21] scope.names []->s.heap.objs.size+1<=c:=fun x c e=>(hC.empty x c e).2
 refine⟨⟨I.ok.mod,S.kind,I.ok.glob,I.ok.blt,YaY _,fun x y c h1 h2=>?_,fun x hx=>?_,fun x c h1 h2=>?_,I.ok.hd,I.ok.frames,.inl rfl,fun b hb=>⟨Yaf (hlt b hb),fun x c e=>?_⟩,fun b o e=>I.bs b o e,Ya5 I.ok.bsz I.sz,fun b o e hb=>?_,fun b hb hz=>?_,I.stack,I.stkFree⟩,
  rfl,I.bare,Un.kept keep,⟨fun _=>none,?_,fun i x v h1 h2 h3=>?_⟩,fun x c e=>?_,I.hok.fresh (YaY _),fun x c e=>?_,fun p hp=>?_,I.hok.kept keep,?_⟩
 . rcases look x c h1 with q|q<;>rcases look y c h2 with r|r
   . exact name_of_addr hC.apart q r
   . exact absurd (Nat.lt_trans (outerLt y c r) (ownGe x c q)) (Yap _)
   . exact absurd (Nat.lt_trans (outerLt x c q) (ownGe y c r)) (Yap _)
   . exact I.ok.inj x y c q r
 . have own:∀ k,scope.names.lookup x=some k->k=.cell\/k=.free->∃ c,(cellsFrom #[21] scope.names cl).lookup x=some c:=fun k hk hkk=>by
    refine Wah.mp (Wak _ _ _ ?_)
    rcases hkk with rfl|rfl
    . exact .inl hk
    . obtain⟨c,q⟩:=hcl2 x (Waq hk)
      exact .inr (by rw [q];rfl)
   rcases hx with hx|hx
   . obtain⟨k',e,q|q⟩:=zfy (scope:=scope) (env:=X.env) hx
     . subst q;exact own _ e (.inl rfl)
     . exact own _ e (.inr q.1)
   . obtain⟨k',e,q|q⟩:=zfy (scope:=scope) (env:=X.env) hx
     . subst q;exact own _ e (.inr rfl)
     . cases q.2
 . have hc:scope.names.lookup x=some .cell:=of_decide_eq_true h1
   rcases look x c h2 with q|q
   . exact Wbc (ownGe x c q)
   . exfalso
     have h2':(cellsFrom #[21] scope.names cl).lookup x=some c:=h2;rw [JT,List.lookup_append] at h2';obtain⟨c',q'⟩:=Wah.mp (Wak scope.names #[21] [] (.inl hc));rw [q'] at h2';cases h2';exact absurd (Nat.lt_trans (outerLt x c q) (ownGe x c (Waq q'))) (Yap _)
 . rcases look x c e with q|q
   . intro z;subst z
     exact absurd (Nat.lt_trans (hlt c hb) (ownGe x c q)) (Yap _)
   . exact(hfp b hb).2.2.2.2.1 x c q
 . rcases(hfp b hb).2.2.2.1 with z|z
   . exact I.ok.noex b o e z
   . exact absurd (YaU (YaX (I.ok.bs b o e).1) z) (Yap _)
 . rcases Wa4.mp (I.stkSub b hz) with z|z
   . exact(hfp b hb).2.1 z
   . exact(hfp b hb).2.2.1 z
 . exact(Heap.Ns.new s.heap (.type "dict")).keeps (pushCells_keeps _ _)
 . unfold cst at h2
   by_cases hi:i<tn.length
   . rw [Yab (by simpa using hi),Yad,if_pos hi] at h2
     cases h2
   . rw [Yae (by simpa using hi),Ybb,Ya0] at h2
     cases ej:js[i - tn.length]? with
     | none=>rw [ej] at h2;cases h2
     | some j=>
      rw [ej] at h2;have h2':(σ[j]?).join=some v:=WaV h2;have hσ : σ[j]?=some (some v):=by
       cases q:σ[j]? with
       | none=>rw [q] at h2';cases h2'
       | some o => rw [q] at h2'; cases o with
        | none=>cases h2'
        | some v'=>cases h2';rfl
      have h1':(tn++fn)[i]?=some x:=h1;rw [Yae #[0]] at h1'
      have hN:X.N[j]?=some x:=by
       have e:=congrArg (fun l=>l[i - tn.length]?) hj
       simp only [Ya0,ej,h1',Option.map_some] at e;exact WaV e
      have hfx:scope.names.lookup x=some .free:=S.frees x (Yah h1');obtain⟨m,hn,hl⟩:=I.loc;have ok:X.env.scope.names.lookup x=some .cell\/X.env.scope.names.lookup x=some .free:=S.free (x,.free) (Waq hfx) rfl;obtain⟨u,r,l⟩:=hl j x v hN hσ (by rcases ok with z|z;exact .inr (.inl z);exact .inr (.inr z))
      refine⟨u,r,.inr ⟨zhT hfx,?_⟩⟩
      rcases l with ⟨k,_⟩|⟨_,c,ec,q⟩
      . have k':X.env.scope.names.lookup x=some .local:=k
        rcases ok with z|z<;>rw [z] at k'<;>cases k'
      . refine⟨c,?_,q.keeps keep⟩
        show(cellsFrom #[21] scope.names cl).lookup x=some c
        rw [JT,List.lookup_append];have e1:(cellsFrom #[21] scope.names []).lookup x=none:=by
         cases q1:(cellsFrom #[21] scope.names []).lookup x with
         | none=>rfl
         | some c1=>
          have e2:=S.cell (x,.cell) (zcn _ _ _ _ (Waq q1)) rfl;have e2':scope.names.lookup x=some .cell:=e2;rw [hfx] at e2';cases e2'
        obtain⟨c2,q2⟩:=hcl2 x (Waq hfx);have:=hcl x c2 q2;rw [ec] at this;cases this;rw [e1,q2];rfl
 . rcases look x c e with q|q
   . exact⟨_,(hC.empty x c q).1⟩
   . obtain⟨v,z⟩:=I.cell x c q
     exact⟨v,z.keeps keep⟩
 . rcases look x c e with q|q
   . exact I.hok.fresh (Wbc (ownGe x c q))
   . exact I.freeC x c q
 . exact absurd (show p∈([]:List #[17]) from hp) (by simp)
 . unfold cst
   show _=(tn++fn).length
   have:js.length=fn.length:=by have:=congrArg List.length hj;simpa using this
   rw [YaS,Ybb,YaR,YaS,this]
section
variable{X:Cx}{pins:List #[17]}{σ : L2.St}{H:Hp}{s:Shared}{h':Heap}
theorem Inv.turnedL{t':Nat}{ch:List Addr}(I:#[11])(k:∀ b o,b∉ch->s.heap.get? b=some o->h'.get? b=some o)(hf:∀ b∈ch,FpOk X pins H b):Inv X pins σ H { s with heap:=h',toks:=t' }:=by
 have nit:∀ b u,H b=some u->b∉ch:=fun b u e z=>by have:=(hf b z).1;rw [e] at this;cases this
 refine I.step (g':=s.gens) (d':=s.drawn) (ch:=ch) (fun b hb=>⟨(hf b hb).2.2.2.1,(hf b hb).2.1,(hf b hb).2.2.2.2.1,(hf b hb).2.2.2.2.2⟩) (fun b o _ _ hc e _=>k b o hc e) (fun b o _ _ hc e _=>⟨o.slots,k b o hc e⟩) (fun _ _ _ _ n=>n)
  (fun b o hc e=>⟨o,k b o hc e⟩) (fun _ _ e=>e) (fun _ _ _ e=>e) (fun b ps e=>⟨#[],by rw [e];simp⟩) (fun m hm=>?_) (fun b u e=>?_) I.bare
 . obtain⟨o,es,ep,ho,r⟩:=hm
   exact⟨o,es,ep,k _ o (fun z=>(hf _ z).2.1 rfl) ho,r⟩
 . refine(I.hok b u e).stay (fun c v hc q=>k c v ?_ q) (fun _ q=>q) fun _ _ q=>q
   rcases hc with z|z
   . rw [z];exact nit b u e
   . exact nit c _ z
theorem Inv.track{a:Addr}{o:HO}(I:#[11])(hn:H a=none)(h0:X.s₀.heap.objs.size<=a)(hL:a≠X.env.locals)(hc:∀ x c,X.env.cells.lookup x=some c->c≠a)(hp:∀ p∈X.pn++pins,p.1≠a)(new:zI X.prog X.w (upd H a o) s.heap a o):Inv X pins σ (upd H a o) s:=by
 have no0:∀ b ob,X.s₀.heap.get? b=some ob->b≠a:=fun b ob e=>Yaf (YaU (YaX e) h0)
 refine⟨I.ok,I.os,I.bare,⟨I.base.keep,I.base.slot,fun b ob q n hx=>?_,I.base.there,fun b xs q=>?_,fun b ob u q=>?_,fun b ps q=>?_⟩,I.loc,I.cell,?_,fun x c e=>?_,fun p h=>?_,I.hok.track hn new,I.len⟩
 . rw [zc (no0 b ob q)];exact I.base.free b ob q n hx
 . have e:=I.base.tups b xs q;rw [zc (je e hn)];exact e
 . have e:=I.base.frzs b ob u q;rw [zc (je e hn)];exact e
 . obtain⟨m,e⟩:=I.base.tbls b ps q;exact⟨m,by rw [zc (je e hn)];exact e⟩
 . rw [zc (Wbo hL)];exact I.free
 . rw [zc (hc x c e)];exact I.freeC x c e
 . obtain⟨q1,q2,q3⟩:=I.pin p h
   exact⟨q1,by rw [zc (hp p h)];exact q2,q3⟩
end
def tTrue:TT:=fun _ H Q=>Q true H
def zbi(wi:TI)(g:TG)(tt:TT)(te:TE)(n:Nat)(js:List Nat):TE:=fun σ H Q=>wi σ H fun J H1=>∀ D,H1 D=none->∃ W:Nat->Nat->List V->St->Hp->Prop,(∃ m,W 0 m [] (cst n js σ) (upd H1 D (.lst [])))/\∀ i m ys σ1 H2,W i m ys σ1 H2->
 (J.stop i H2/\Q (.ref D) H2)\/(J.go i H2/\∀ x H3,J.yld i H2 x H3->g x σ1 H3 fun σ4 H4=>tt σ4 H4 fun b H5=>if b=true then te σ4 H5 fun y H6=>H6 D=some (.lst ys)/\ys.length<sizeLine/\∃ m',m'<m/\W (i+1) m' (ys++[y]) σ4 (upd H6 D (.lst (ys++[y]))) else ∃ m',m'<m/\W (i+1) m' ys σ4 H5)
def PTs(X:Cx)(ifs:List Expr)(t:TT):Prop:=
 ∀ (pins:List #[17]) (s:Shared) (σ : St) (H:Hp) (Q:Bool->Hp->Prop),Inv X pins σ H s->t σ H Q->
  wpAny #[12] X.A (forIn ifs true fun c r=>if r=true then do let ok <-isTrue c X.env (eval c X.env);pure (ForInStep.yield ok) else pure (ForInStep.yield r)) (TP X pins σ Q) X.xe s
theorem zaM{X:Cx}:PTs X [] tTrue:=fun _ _ _ H _ I h=>wpAny_tests_nil ⟨H,I,h⟩
theorem zdo{X:Cx}{c:Expr}{t:TT}(h:PT X c t):PTs X [c] t:=fun pins s σ H Q I q=>wpAny_tests_one (h pins s σ H Q I q)
theorem ze9{X:Cx}{elt tg iter:Expr}{ifs:List Expr}{scope:Scope}{pos pos':Pos}{wi:TI}{g:TG}{tt:TT}{te:TE}{use:Option (Value->Sem Unit)}{Qc:#[13]}(tn fn:List Str)(js:List Nat)(hcalm:X.calm=true)(S:CompSc X.env.scope scope tn fn)(hj:js.map (fun j=>X.N[j]?)=fn.map some)(hi:PI X tg iter wi)
 (hb:∀ s H fp cl,PG #[16] tg g/\PTs #[16] ifs tt/\PE #[16] elt te)
 (hs:∀ x,foldedSetIterable iter X.env x=pure x) {pins:List #[17]} {s:Shared} {σ : L2.St} {H:Hp} {Q:VK} (I:#[11]) (h:zbi wi g tt te tn.length js σ H Q)
 (fin:∀ (D C:Addr) (s6:Shared) (H5:Hp) (m6:#[15]),s6.heap.Ns C m6->FpOk X pins H5 C->Inv X pins σ H5 s6->Q (.ref D) H5->compPost #[12] X.A X.xe use Qc (.ref D) C (.ok .next) s6) :
 wpAny #[12] X.A (comprehension (.ListComp elt [⟨tg,iter,ifs,0⟩] scope pos) scope X.env pos' (newList []) false (eval iter X.env) use) Qc X.xe s:=by
 obtain⟨cl,hclos,hcl,hcl2⟩:=zkA (env:=X.env) (scope:=scope) (fun x hx e=>I.ok.has x.1 (S.free x hx e))
 refine wpAny_comprehension_free (use:=use) rfl hs hclos S.kind S.loc (thn (hi pins s σ H _ I h) fun v s1 h1=>thn h1 fun itv s2 h2=>?_)
 obtain⟨it,fp,tn',J,H2,e,I2,T,st2,f2,k⟩:=h2;subst e;have hD:H2 s2.heap.objs.size=none:=I2.fresh;obtain⟨W,⟨m0,w0⟩,turn⟩:=k _ hD;refine wpAny_newObj_type ?_;have I3:Inv X pins σ (upd H2 s2.heap.objs.size (.lst [])) { s2 with heap:=s2.heap.push { cls:=.type "list", data:=.seq ([]:List Value).toArray } }:=I2.lnew (t':=s2.toks) (ys:=[]) (its:=[]) .nil (Wbl _)
 generalize hs3:({ s2 with heap:=s2.heap.push { cls:=.type "list", data:=.seq ([]:List Value).toArray } }:Shared)=s3 at I3
 have hs3':s3.heap.objs.size=s2.heap.objs.size+1:=by rw [<-hs3];exact Wa1 ..
 have up3:∀ b o,s2.heap.get? b=some o->s3.heap.get? b=some o:=fun b o e=>by rw [<-hs3];exact YaW _ e
 have flt:∀ b∈fp,b<s2.heap.objs.size:=fun b hb=>by
  obtain⟨o,e,_⟩:=T.obj _ _ st2 b hb;exact YaX e
 generalize hDn:s2.heap.objs.size=D at *;have f3:∀ b∈fp,FpOk X pins (upd H2 D (.lst [])) b:=fun b hb=>⟨by rw [zc (Yaf (flt b hb))];exact(f2 b hb).1,(f2 b hb).2⟩
 have flt3:∀ b∈fp,b<s3.heap.objs.size:=fun b hb=>by rw [hs3'];exact Nat.lt_succ_of_lt (flt b hb)
 have I4:=zlw I3 S hj f3 flt3 hcl hcl2;have st4:tn' 0 (pushCells (s3.heap.push { cls:=.type "dict", data:=.dict #[] }) scope.names):=T.keep _ _ _ st2 fun b _ o e=>pushCells_keeps _ _ b o (YaW _ (up3 b o e))
 obtain⟨pg,pt,pe⟩:=hb s3 (upd H2 D (.lst [])) fp cl;generalize hX:X.comp scope (tn++fn) s3 (upd H2 D (.lst [])) fp cl=Y at I4 pg pt pe;have Yp:Y.prog=X.prog:=by rw [<-hX];rfl
 have Yw:Y.w=X.w:=by rw [<-hX];rfl
 have YK:Y.K=X.K:=by rw [<-hX];rfl
 have YA:Y.A=X.A:=by rw [<-hX];rfl
 have Yc:Y.calm=true:=by rw [<-hX];exact hcalm
 have Yxe:Y.xe=fun _ _=>False:=by rw [<-hX];rfl
 have Yex:Y.ex=fp:=by rw [<-hX];rfl
 have Yfs:Y.fs=frs X.stack:=by rw [<-hX];rfl
 have Ypn:Y.pn=[]:=by rw [<-hX];rfl
 have Ys:Y.s₀ = s3:=by rw [<-hX];rfl
 have YH:Y.H₀ = upd H2 D (.lst []):=by rw [<-hX];rfl
 have YC:Y.env.locals=s3.heap.objs.size:=by rw [<-hX];rfl
 have Yenv:({ scope:=relabel scope X.env,locals:=s3.heap.objs.size,globals:=X.env.globals,cells:=cellsFrom (s3.heap.objs.size+1) scope.names cl,qual:=X.env.qual,func:=none,code:=X.env.code,frame:=X.env.frame,builtins:=X.env.builtins }:Env)=Y.env:=by rw [<-hX];rfl
 have stat:∀ {H':Hp},(∀ b∈fp,H' b=none)->∀ b∈fp,FpOk Y [] H' b:=fun hn b hb=>by
  refine⟨hn b hb,?_,?_,.inl (by rw [Yex];exact hb),fun x c e=>(I4.ok.exf b (by rw [Yex];exact hb)).2 x c e,fun p hp=>?_⟩
  . rw [YC];exact Yaf (flt3 b hb)
  . exact I4.ok.exfs b (by rw [Yex];exact hb)
  . rw [Ypn] at hp;exact absurd (show p∈([]:List #[17]) from hp) (by simp)
 have loop:codeAny #[12] X.A (.compLoop (.ListComp elt [⟨tg,iter,ifs,0⟩] scope pos) 0 (.ref it) (.ref D) Y.env) (compPost #[12] X.A X.xe use Qc (.ref D) s3.heap.objs.size)
  { s3 with heap:=pushCells (s3.heap.push { cls:=.type "dict", data:=.dict #[] }) scope.names }:=by
  refine codeAny_loop rfl (fun n s'=>∃ i ys σ' H',Inv Y [] σ' H' s'/\tn' i s'.heap/\(∀ b∈fp,H' b=none)/\W i n ys σ' H') (fun n s5 hI=>?_) m0 ⟨0,[],_,_,I4,st4,fun b hb=>(f3 b hb).1,w0⟩
  obtain⟨i,ys,σ5,H5,I5,st5,fr5,w5⟩:=hI;show wpAny _ X.A ((compTurn (.ListComp elt [⟨tg,iter,ifs,0⟩] scope pos) 0 (.ref it) (.ref D) Y.env).onRaise (fun x=>do noteFrame x Y.env;theTreesLotGoes x)) _ _ s5
  refine wpAny_noted ?_
  rw [compTurn_list];refine wpAny_bind (wpAny_standAt (wpAny_bind ?_))
  rcases turn i n ys σ5 H5 w5 with ⟨stop,qn⟩|⟨go,step⟩
  . have d:=T.done Y Yp Yw YK Yc i [] s5 σ5 H5 (fun _ _=>False) I5 (stat fr5) st5 stop
    rw [YA] at d;refine wpAny_mono d (fun r s6 ⟨hr,I6⟩=>?_) fun _ _ z=>z.elim
    subst hr;refine wpAny_pure ?_;obtain⟨m6,ns6,_⟩:=I6.loc;rw [YC] at ns6;have hC:H5 s3.heap.objs.size=none:=by have:=I6.free;rwa [YC] at this
    have u6:=I6.base;rw [Yfs,Yex,YH,Ys] at u6;have os6:=I6.os;rw [Ys] at os6;have hok6:=I6.hok;rw [Yp,Yw] at hok6;have IX:Inv X pins σ H5 s6:=I3.call' (s':=s6) os6 u6 hok6 I6.bare (fun b hb=>⟨(f3 b hb).2.2.2.1,(f3 b hb).2.1,(f3 b hb).2.2.2.2.1,(f3 b hb).2.2.2.2.2⟩)
    exact fin D s3.heap.objs.size s6 H5 m6 ns6 (I3.fpOk (H':=H5) (YaY _) hC) IX qn
  . have d:=T.item Y Yp Yw YK Yc i [] s5 σ5 H5 (fun _ _=>False) I5 (stat fr5) st5 go
    rw [YA] at d;refine wpAny_mono d (fun r s6 ⟨u,hr,h6⟩=>?_) fun _ _ z=>z.elim
    subst hr;refine wpAny_bind (wpAny_mono h6 (fun _ s7 ⟨x,H7,I7,r7,y7,st7,fr7⟩=>?_) fun _ _ z=>z.elim)
    have I7':=I7.pinned (stat fr7) (T.obj _ _ st7);have a8:=pg _ s7 σ5 H7 x u _ I7' r7 (step x H7 y7);rw [YA,Yp,Yw,Yxe] at a8;refine wpAny_bind (wpAny_mono a8 (fun _ s8 ⟨σ8,H8,I8,q8⟩=>?_) fun _ _ z=>z.elim)
    have a9:=pt _ s8 σ8 H8 _ I8 q8;rw [YA,Yp,Yw,Yxe] at a9;have again:∀ {H':Hp} {s':Shared} {ys':List V} {m':Nat},m'<n->Inv Y ([]++zaO fp s7.heap) σ8 H' s'->W (i+1) m' ys' σ8 H'->∃ m,m<n/\∃ i ys σ' H',Inv Y [] σ' H' s'/\tn' i s'.heap/\(∀ b∈fp,H' b=none)/\W i m ys σ' H':=fun {H' s' ys' m'} hm I' w'=>by
     refine⟨m',hm,i+1,ys',σ8,H',I'.unpinned,T.keep _ _ _ st7 fun b hb o e=>(I'.pin (b,o) (Yaa _ (Yaa _ (zbu hb e)))).1,fun b hb=>?_,w'⟩
     obtain⟨o,e,d⟩:=T.obj _ _ st7 b hb;exact(I'.pin (b,o) (Yaa _ (Yaa _ (zbu hb e)))).2.1
    refine wpAny_bind (wpAny_mono a9 (fun ok s9 ⟨H9,I9,q9⟩=>?_) fun _ _ z=>z.elim)
    cases ok with
    | false=>
     obtain⟨m',hm,w9⟩:=q9;exact wpAny_pure ⟨rfl,again hm I9 w9⟩
    | true=>
     have a10:=pe _ s9 σ8 H9 _ I9 q9;rw [YA,Yp,Yw,Yxe] at a10;refine wpAny_bind (wpAny_bind (wpAny_mono a10 (fun y10 s10 ⟨y,H10,I10,r10,e10,hz,m',hm,w10⟩=>?_) fun _ _ z=>z.elim))
     have a11:=zet (X:=Y) _ s10 σ8 H10 (.ref D) [y] (.ref D) [y10] (fun _ H'=>H'=upd H10 D (.lst (ys++[y]))) I10 rfl (.cons r10 .nil) ⟨D,ys,y,rfl,rfl,e10,hz,rfl⟩
     rw [YA,Yp,Yw,Yxe] at a11;refine wpAny_bind (wpAny_mono a11 (fun _ s11 ⟨_,H11,I11,_,e11⟩=>?_) fun _ _ z=>z.elim)
     subst e11;exact wpAny_pure (wpAny_pure ⟨rfl,again hm I11 w10⟩)
 have env4:wpAny #[12] X.A (newFunctionEnv scope X.env.globals cl [] X.env.qual none .none (some X.env)) (fun cenv s₄=>
  codeAny #[12] X.A (.compStart (.ListComp elt [⟨tg,iter,ifs,0⟩] scope pos) 0 (.ref it) (.ref D) { cenv with scope:=relabel scope X.env }) (compPost #[12] X.A X.xe use Qc (.ref D) cenv.locals) s₄) X.xe s3:=by
  simp only [newFunctionEnv,Option.isSome_some,if_true];refine wpAny_bind (wpAny_alloc ?_);refine wpAny_bind (wpAny_layCells _ (fun name kind cells=>by cases hkc:kind==NameKind.cell<;>simp [hkc]) _ _ _ _ ?_)
  rw [List.forIn_nil];refine wpAny_bind (wpAny_pure (wpAny_pure ?_));rw [show({ s3 with heap:=s3.heap.push { cls:=.type "dict", data:=.dict #[] } }:Shared).heap.objs.size=s3.heap.objs.size+1 from Wa1 ..]
  dsimp only;rw [Yenv];exact codeAny_compStart_list loop (T.self _ 0 _ _ _ st4 loop)
 exact env4
theorem Z0{X:Cx}{elt tg iter:Expr}{ifs:List Expr}{scope:Scope}{pos:Pos}{wi:TI}{g:TG}{tt:TT}{te:TE}(tn fn:List Str)(js:List Nat)(hcalm:X.calm=true)(S:CompSc X.env.scope scope tn fn)(hj:js.map (fun j=>X.N[j]?)=fn.map some)(hi:PI X tg iter wi)
 (hb:∀ s H fp cl,PG #[16] tg g/\PTs #[16] ifs tt/\PE #[16] elt te)
 (hs:∀ x,foldedSetIterable iter X.env x=pure x:=by intro _;rfl) :
 PE X (.ListComp elt [⟨tg,iter,ifs,0⟩] scope pos) (zbi wi g tt te tn.length js):=by
 intro pins s σ H Q I h;rw [eval_ListComp];refine ze9 (use:=none) tn fn js hcalm S hj hi hb hs I h fun D C s6 H5 m6 ns6 hC I6 q=>⟨m6,ns6,fun h' sb=>⟨.ref D,H5,?_,rfl,q⟩⟩
 exact I6.turnedL (t':=s6.toks) (ch:=[C]) (fun b o hb e=>sb.extBut b o (by simpa using hb) e) fun b hb=>by
  have e:b=C:=by simpa using hb
  subst e;exact hC
theorem zbX{X:Cx}{elt tg iter:Expr}{ifs:List Expr}{scope:Scope}{pos spos pos':Pos}{wi:TI}{g:TG}{tt:TT}{te:TE}{i:Nat}{x:Str}(hN:X.N.Nodup)(hix:X.N[i]?=some x)(hx:Loc X.env.scope x)(tn fn:List Str)(js:List Nat)(hcalm:X.calm=true)(S:CompSc X.env.scope scope tn fn)(hj:js.map (fun j=>X.N[j]?)=fn.map some)(hi:PI X tg iter wi)
 (hb:∀ s H fp cl,PG #[16] tg g/\PTs #[16] ifs tt/\PE #[16] elt te)
 (hs:∀ x,foldedSetIterable iter X.env x=pure x:=by intro _;rfl)
 (hsw:swapsWith (.ListComp elt [⟨tg,iter,ifs,0⟩] scope pos) (some (.Name x pos')) spos.line X.env=pure true:=by rfl) (hf:#[19]:=by first|exact .inl rfl|exact .inr rfl|assumption) :
 PS X (.Assign [.Name x pos'] (.ListComp elt [⟨tg,iter,ifs,0⟩] scope pos) spos) (tAsg (zbi wi g tt te tn.length js) (zbQ i)):=by
 intro pins s σ H D I h;rw [exec_Assign_Name_used _ _ _ _ hsw];refine wpAny_bind (wpAny_standAt (wpAny_bind ?_));show wpAny _ X.A (do let _ <-comprehension (.ListComp elt [⟨tg,iter,ifs,0⟩] scope pos) scope X.env _ (newList []) false (eval iter X.env) (some (assign (.Name x pos') X.env))) _ _ s
 refine wpAny_bind (wpAny_mono (ze9 (use:=some (assign (.Name x pos') X.env)) (Qc:=fun _ s'=>SP X pins D .next s') tn fn js hcalm S hj hi hb hs I h fun L C s6 H5 m6 ns6 hC I6 q=>?_) (fun _ s' hq=>wpAny_pure (wpAny_pure hq)) fun _ _ e=>e)
 show wpAny _ X.A (assign (.Name x pos') X.env (.ref L)) _ _ s6
 refine wpAny_assign_Name (zd9 I6 hN hix hx (v:=.ref L) rfl (fun s7 I7 k7=>?_) hf)
 have kC:∃ m7,s7.heap.Ns C m7:=by
  obtain⟨a,sb,ha⟩:=k7;refine⟨m6,ns6.sameBut sb fun z=>?_⟩
  rcases ha with e|e
  . exact hC.2.1 (z.trans e)
  . exact hC.2.2.2.2.1 x a e z.symm
 obtain⟨m7,ns7⟩:=kC;refine⟨m7,ns7,fun h' sb=>⟨_,H5,I7.turnedL (t':=s7.toks) (ch:=[C]) (fun b o hb e=>sb.extBut b o (by simpa using hb) e) fun b hb=>?_,q⟩⟩
 have e:b=C:=by simpa using hb
 subst e;exact hC
theorem RdVs.length{K:Ybf}{H:Hp}{xs:List V}{ds:List PyData}(h:RdVs K H xs ds):xs.length=ds.length:=by
 induction xs generalizing ds with
 | nil=>cases h;rfl
 | cons x xs ih=>cases h with|cons a b=>rw [List.length_cons,List.length_cons,ih b]
theorem RdVs.get{K:Ybf}{H:Hp}{xs:List V}{ds:List PyData}{i:Nat}{d:PyData}(h:RdVs K H xs ds)(e:ds[i]?=some d):∃ x,xs[i]?=some x/\RdV K H x d:=by
 induction xs generalizing ds i with
 | nil=>cases h;simp at e
 | cons x xs ih=>
  cases h with
  | cons a b=>
   cases i with
   | zero=>cases e;exact⟨_,rfl,a⟩
   | succ i=>
    obtain⟨x,h1,h2⟩:=ih b (i:=i) (by simpa using e)
    exact⟨x,by simpa using h1,h2⟩
theorem RdVs.append{K:Ybf}{H:Hp}{xs ys:List V}{ds es:List PyData}(h:RdVs K H xs ds)(h':RdVs K H ys es):RdVs K H (xs++ys) (ds++es):=by
 induction xs generalizing ds with
 | nil=>cases h;exact h'
 | cons x xs ih=>cases h with|cons a b=>exact .cons a (ih b)
theorem RdVs.set{K:Ybf}{H:Hp}{x:V}{d:PyData}(h:RdV K H x d){xs:List V}{ds:List PyData}(i:Nat)(r:RdVs K H xs ds):RdVs K H (xs.set i x) (ds.set i d):=by
 induction xs generalizing ds i with
 | nil=>cases r;exact .nil
 | cons y xs ih=>
  cases r with
  | cons a b=>
   cases i with
   | zero=>exact .cons h b
   | succ i=>exact .cons a (ih i b)
theorem RdVs.take{K:Ybf}{H:Hp}{xs:List V}{ds:List PyData}(i:Nat)(r:RdVs K H xs ds):RdVs K H (xs.take i) (ds.take i):=by
 induction xs generalizing ds i with
 | nil=>cases r;rw [List.take_nil,List.take_nil];exact .nil
 | cons y xs ih=>
  cases r with
  | cons a b=>
   cases i with
   | zero=>exact .nil
   | succ i=>exact .cons a (ih i b)
theorem RdVs.drop{K:Ybf}{H:Hp}{xs:List V}{ds:List PyData}(i:Nat)(r:RdVs K H xs ds):RdVs K H (xs.drop i) (ds.drop i):=by
 induction xs generalizing ds i with
 | nil=>cases r;rw [List.drop_nil,List.drop_nil];exact .nil
 | cons y xs ih=>
  cases r with
  | cons a b=>
   cases i with
   | zero=>exact .cons a b
   | succ i=>exact ih i b
theorem RdVs.eraseIdx{K:Ybf}{H:Hp}{xs:List V}{ds:List PyData}(i:Nat)(r:RdVs K H xs ds):RdVs K H (xs.eraseIdx i) (ds.eraseIdx i):=by
 induction xs generalizing ds i with
 | nil=>cases r;exact .nil
 | cons y xs ih=>
  cases r with
  | cons a b=>
   cases i with
   | zero=>exact b
   | succ i=>exact .cons a (ih i b)
def tab0(P:Addr):HO:=.ext fun h=>h.get? P=some (PySem.W.tabObj #[])
def tabA(P c':Addr)(pos:Pos):HO:=.ext fun h=>∃ ps,h.get? P=some (PySem.W.tabObj ps)/\TriplesOk ps.toList/\codeAmong pos ps.toList=some (.ref c')
def jW(c':Addr)(q:Str):HO:=.ext fun h=>h.CodeRec (.ref c') q
class LamW where
 pos:Pos
 q:Str
def Lk[LamW](P:Addr)(H:Hp):Prop:=∃ c',H P=some (tabA P c' LamW.pos)/\H c'=some (jW c' LamW.q)
variable[LamW]
def zi(H H':Hp):Prop:=∀ b o,H b=some o->H' b=some o\/(o=tab0 b/\((∀ C,tab0 b≠excO b C)/\∀ q,tab0 b≠jW b q)/\Lk b H')
theorem Same.x{H H':Hp}(s:Same H H'):zi H H':=fun b o h=>.inl (s b o h)
theorem zi.refl(H:Hp):zi H H:=(Same.refl H).x
theorem zi.free{H H':Hp}(e:zi H H'){l:Addr}(h:H' l=none):H l=none:=by
 cases q:H l with
 | none=>rfl
 | some o=>
  rcases e l o q with z|⟨_,_,c',z,_⟩
  . rw [h] at z;cases z
  . rw [h] at z;cases z
theorem zi.at{H H':Hp}(e:zi H H'){b:Addr}{o:HO}(h:H b=some o)(n:∀ f,o≠.ext f:=by intro f z;cases z):H' b=some o:=by
 rcases e b o h with z|⟨z,_⟩
 . exact z
 . exact absurd z (n _)
theorem zi.exc{H H':Hp}(e:zi H H'){a C:Addr}(h:H a=some (excO a C)):H' a=some (excO a C):=by
 rcases e a _ h with z|⟨z,n,_⟩
 . exact z
 . exact absurd z.symm (n.1 C)
theorem zi.code{H H':Hp}(e:zi H H'){a:Addr}{q:Str}(h:H a=some (jW a q)):H' a=some (jW a q):=by
 rcases e a _ h with z|⟨z,n,_⟩
 . exact z
 . exact absurd z.symm (n.2 q)
theorem Lk.same{P:Addr}{H H':Hp}(l:Lk P H)(e:zi H H'):Lk P H':=by
 obtain⟨c',h1,h2⟩:=l
 rcases e P _ h1 with z|⟨_,_,z⟩
 . exact⟨c',z,e.code h2⟩
 . exact z
theorem zi.trans{H H1 H2:Hp}(a:zi H H1)(b:zi H1 H2):zi H H2:=fun c o h=>by
 rcases a c o h with z|⟨e,n,l⟩
 . exact b c o z
 . exact .inr ⟨e,n,l.same b⟩
def TabU(P:Addr)(H:Hp):Prop:=H P=some (tab0 P)\/Lk P H
theorem TabU.same{P:Addr}{H H':Hp}(t:TabU P H)(e:zi H H'):TabU P H':=by
 rcases t with h|h
 . rcases e P _ h with z|⟨_,_,l⟩
   . exact .inl z
   . exact .inr l
 . exact .inr (h.same e)
structure Sub(G H:Hp):Prop where
 s:Same G H
 cl:∀ a f,G a≠some (.ext f)
theorem Sub.free{G H:Hp}(e:Sub G H){l:Addr}(h:H l=none):G l=none:=e.s.free h
theorem Sub.seq{K:Ybf}{G H:Hp}{a:Addr}{xs:List V}(e:Sub G H)(h:SqL K G a xs):SqL K H a xs:=e.s.seq h
theorem Sub.tup{K:Ybf}{G H:Hp}{a:Addr}{xs:List V}(e:Sub G H)(h:SqT K G a xs):SqT K H a xs:=e.s.tup h
theorem Sub.trans{G H H':Hp}(e:Sub G H)(x:zi H H'):Sub G H':=⟨fun b o h=>x.at (e.s b o h) (fun f z=>by rw [z] at h;exact e.cl b f h),e.cl⟩
theorem Lk.upd{b D:Addr}{H:Hp}{o:HO}(l:Lk b H)(nb:b≠D)(hD:∀ f,H D≠some (.ext f)):Lk b (upd H D o):=by
 obtain⟨c',h1,h2⟩:=l;exact⟨c',by rw [zc nb];exact h1,by rw [zc (fun y=>by rw [y] at h2;exact hD _ h2)];exact h2⟩
theorem zi.chg{H0 H:Hp}{l:Addr}{o us:HO}(s:zi H0 H)(h0:H0 l=none)(hu:H l=some us)(hux:∀ f,us≠.ext f):zi H0 (upd H l o):=fun b u e=>by
 have nb:=je e h0
 rcases s b u e with z|⟨z,n,c',h1,h2⟩
 . exact .inl (by rw [zc nb];exact z)
 . refine .inr ⟨z,n,c',by rw [zc nb];exact h1,?_⟩
   rw [zc (fun y=>by rw [y,hu] at h2;exact hux _ (WaV h2))];exact h2
theorem zi.seq{K:Ybf}{H H':Hp}{a:Addr}{xs:List V}(e:zi H H')(h:SqL K H a xs):SqL K H' a xs:=by
 rcases h with (h|⟨o,h⟩)|h
 . exact .inl (.inl (e.at h))
 . exact .inl (.inr ⟨o,e.at h⟩)
 . exact .inr h
theorem zi.tup{K:Ybf}{H H':Hp}{a:Addr}{xs:List V}(e:zi H H')(h:SqT K H a xs):SqT K H' a xs:=by
 rcases h with (h|⟨o,h⟩)|h
 . exact .inl (.inl (e.at h))
 . exact .inl (.inr ⟨o,e.at h⟩)
 . exact .inr h
def cln(H:Hp):Hp:=fun a=>match H a with
 | some (.ext _)=>none
 | o=>o
theorem zbZ{H:Hp}{a:Addr}{o:HO}(h:H a=some o)(n:∀ f,o≠.ext f:=by intro f z;cases z):cln H a=some o:=by
 unfold cln;rw [h];cases o<;>first|rfl|exact absurd rfl (n _)
theorem zf8(H:Hp):Sub (cln H) H:=by
 refine⟨fun b o h=>?_,fun a f h=>?_⟩
 . unfold cln at h
   cases e:H b with
   | none=>rw [e] at h;cases h
   | some u=>rw [e] at h;cases u<;>first|exact h|cases h
 . unfold cln at h
   cases e:H a with
   | none=>rw [e] at h;cases h
   | some u=>rw [e] at h;cases u<;>cases h
end L2
namespace L3
open PySem PySem.Spec PyProof.Rows L2
variable[LamW]
abbrev D:=PyData
def keyD:Key->D
 | .inl i=>.int i
 | .inr x=>.str x
inductive Cl where
 | sh (f:Bool) (d:D)
 | ow (f:Bool) (ds:List D)
 | tr (ps:List Addr) (ms:List (List D))
 | dt (ds:List (List Key×D))
 | dk (ks:List Int)
 | fd (ds:List (List Key×D))
 | tk (k:List Key)
 | dm (a:Addr) (ds:List (Int×Int))
 | ex (C:Addr)
def Cl.d:Cl->D
 | .sh _ d=>d
 | .ow _ ds=>.list ds
 | .tr _ _=>.none
 | .dt _=>.none
 | .dk _=>.none
 | .fd _=>.none
 | .tk k=>.tuple (k.map keyD)
 | .dm _ _=>.none
 | .ex _=>.none
def Cl.f:Cl->Bool
 | .sh f _=>f
 | .ow f _=>f
 | .tr _ _=>false
 | .dt _=>false
 | .dk _=>false
 | .fd _=>false
 | .tk _=>true
 | .dm _ _=>false
 | .ex _=>false
def zw:D->Bool
 | .int _=>true|.bool _=>true|.str _=>true|.none=>true|_=>false
abbrev Env3:=List (Option Cl)
structure Gr(G H G' H':Hp):Prop where
 g:Same G G'
 h:zi H H'
 sub:Sub G' H'
 new:∀ b o,G' b=some o->G b=some o\/H b=none\/∃ xs,o=.tup xs
theorem Gr.refl{G H:Hp}(s:Sub G H):Gr G H G H:=⟨Same.refl _,zi.refl _,s,fun _ _ e=>.inl e⟩
theorem Gr.trans{G H G1 H1 G2 H2:Hp}(a:Gr G H G1 H1)(b:Gr G1 H1 G2 H2):Gr G H G2 H2:=
 ⟨a.g.trans b.g,a.h.trans b.h,b.sub,fun c o e=>by
  rcases b.new c o e with q|q|q
  . exact a.new c o q
  . exact .inr (.inl (a.h.free q))
  . exact .inr (.inr q)⟩
theorem Gr.put{G H:Hp}{p:Addr}{o:HO}(s:Sub G H)(hp:H p=none)(ho:∀ f,o≠.ext f:=by intro f z;cases z):Gr G H (upd G p o) (upd H p o):=
 ⟨zG (s.free hp) o,(zG hp o).x,⟨fun b u e=>by
  by_cases hb:b=p
  . subst hb;rw [zf] at e ⊢;exact e
  . rw [zc hb] at e ⊢;exact s.s b u e,fun b f e=>by
  by_cases hb:b=p
  . subst hb;rw [zf] at e;exact ho f (WaV e)
  . rw [zc hb] at e;exact s.cl b f e⟩,fun b u e=>by
  by_cases hb:b=p
  . subst hb;exact .inr (.inl hp)
  . rw [zc hb] at e;exact .inl e⟩
theorem Gr.apart{G H:Hp}{p:Addr}{o:HO}(s:Sub G H)(hp:H p=none):Gr G H G (upd H p o):=
 ⟨Same.refl _,(zG hp o).x,s.trans (zG hp o).x,fun _ _ e=>.inl e⟩
mutual
theorem J8{K:Ybf}{H H':Hp}(e:Same H H'):∀ {x:V} {d:D},RdV K H x d->RdV K H' x d
 | _,_,.non=>.non
 | _,_,.bl b=>.bl b
 | _,_,.int i=>.int i
 | _,_,.str x=>.str x
 | _,_,.lst q r=>.lst (e.seq q) (rdvs_same e r)
 | _,_,.tup q r=>.tup (e.tup q) (rdvs_same e r)
theorem rdvs_same{K:Ybf}{H H':Hp}(e:Same H H'):∀ {xs:List V} {ds:List D},RdVs K H xs ds->RdVs K H' xs ds
 | _,_,.nil=>.nil
 | _,_,.cons a b=>.cons (J8 e a) (rdvs_same e b)
end
theorem zle{K:Ybf}{H:Hp}{a:Addr}{xs:List V}(h:SqL K H a xs):SqL K (cln H) a xs:=by
 rcases h with (h|⟨o,h⟩)|h
 . exact .inl (.inl (zbZ h))
 . exact .inl (.inr ⟨o,zbZ h⟩)
 . exact .inr h
theorem zgS{K:Ybf}{H:Hp}{a:Addr}{xs:List V}(h:SqT K H a xs):SqT K (cln H) a xs:=by
 rcases h with (h|⟨o,h⟩)|h
 . exact .inl (.inl (zbZ h))
 . exact .inl (.inr ⟨o,zbZ h⟩)
 . exact .inr h
mutual
theorem zhs{K:Ybf}{H:Hp}:∀ {x:V} {d:D},RdV K H x d->RdV K (cln H) x d
 | _,_,.non=>.non
 | _,_,.bl b=>.bl b
 | _,_,.int i=>.int i
 | _,_,.str x=>.str x
 | _,_,.lst q r=>.lst (zle q) (rdvs_cln r)
 | _,_,.tup q r=>.tup (zgS q) (rdvs_cln r)
theorem rdvs_cln{K:Ybf}{H:Hp}:∀ {xs:List V} {ds:List D},RdVs K H xs ds->RdVs K (cln H) xs ds
 | _,_,.nil=>.nil
 | _,_,.cons a b=>.cons (zhs a) (rdvs_cln b)
end
mutual
inductive RdN(K:Ybf)(H0 G:Hp):V->D->Prop
 | non:RdN K H0 G .non .none
 | bl (b):RdN K H0 G (.bl b) (.bool b)
 | int (i):RdN K H0 G (.int i) (.int i)
 | str (x):RdN K H0 G (.str x) (.str x)
 | lst {a xs ds}:G a=some (.lst xs)->H0 a=none->RdNs K H0 G xs ds->RdN K H0 G (.ref a) (.list ds)
 | tup {a xs ds}:G a=some (.tup xs)->RdNs K H0 G xs ds->RdN K H0 G (.ref a) (.tuple ds)
inductive RdNs(K:Ybf)(H0 G:Hp):List V->List D->Prop
 | nil:RdNs K H0 G [] []
 | cons {x xs d ds}:RdN K H0 G x d->RdNs K H0 G xs ds->RdNs K H0 G (x::xs) (d::ds)
end
mutual
theorem zcZ{K:Ybf}{H0 G:Hp}:∀ {x:V} {d:D},RdN K H0 G x d->RdV K G x d
 | _,_,.non=>.non
 | _,_,.bl b=>.bl b
 | _,_,.int i=>.int i
 | _,_,.str x=>.str x
 | _,_,.lst q _ r=>.lst (SqL.of q) (rdns_rd r)
 | _,_,.tup q r=>.tup (SqT.of q) (rdns_rd r)
theorem rdns_rd{K:Ybf}{H0 G:Hp}:∀ {xs:List V} {ds:List D},RdNs K H0 G xs ds->RdVs K G xs ds
 | _,_,.nil=>.nil
 | _,_,.cons a b=>.cons (zcZ a) (rdns_rd b)
end
mutual
theorem jX{K:Ybf}{H0 H1 G G':Hp}(e:Same G G')(h:∀ a o,G a=some o->H0 a=none->H1 a=none):∀ {x:V} {d:D},RdN K H0 G x d->RdN K H1 G' x d
 | _,_,.non=>.non
 | _,_,.bl b=>.bl b
 | _,_,.int i=>.int i
 | _,_,.str x=>.str x
 | _,_,.lst q n r=>.lst (e _ _ q) (h _ _ q n) (rdns_mono e h r)
 | _,_,.tup q r=>.tup (e _ _ q) (rdns_mono e h r)
theorem rdns_mono{K:Ybf}{H0 H1 G G':Hp}(e:Same G G')(h:∀ a o,G a=some o->H0 a=none->H1 a=none):∀ {xs:List V} {ds:List D},RdNs K H0 G xs ds->RdNs K H1 G' xs ds
 | _,_,.nil=>.nil
 | _,_,.cons a b=>.cons (jX e h a) (rdns_mono e h b)
end
theorem ZQ{K:Ybf}{H0 G:Hp}{v:V}{d:D}(h:zw d=true)(r:RdV K G v d):RdN K H0 G v d:=by
 cases r with
 | non=>exact .non
 | bl b=>exact .bl b
 | int i=>exact .int i
 | str s=>exact .str s
 | lst _ _=>cases h
 | tup _ _=>cases h
structure Rf(K:Ybf)(H0 G:Hp)(f:Bool)(v:V)(d:D):Prop where
 rd:RdV K G v d
 nw:f=true->RdN K H0 G v d
structure Rfs(K:Ybf)(H0 G:Hp)(f:Bool)(v:List V)(d:List D):Prop where
 rd:RdVs K G v d
 nw:f=true->RdNs K H0 G v d
theorem Rf.same{K:Ybf}{H0 G G':Hp}{f:Bool}{v:V}{d:D}(r:Rf K H0 G f v d)(e:Same G G'):Rf K H0 G' f v d:=⟨J8 e r.rd,fun h=>jX e (fun _ _ _ n=>n) (r.nw h)⟩
theorem Rfs.same{K:Ybf}{H0 G G':Hp}{f:Bool}{v:List V}{d:List D}(r:Rfs K H0 G f v d)(e:Same G G'):Rfs K H0 G' f v d:=⟨rdvs_same e r.rd,fun h=>rdns_mono e (fun _ _ _ n=>n) (r.nw h)⟩
theorem Rf.sc{K:Ybf}{H0 G:Hp}{f:Bool}{v:V}{d:D}(h:zw d=true)(r:RdV K G v d):Rf K H0 G f v d:=⟨r,fun _=>ZQ h r⟩
theorem Rf.no{K:Ybf}{H0 G:Hp}{v:V}{d:D}(r:RdV K G v d):Rf K H0 G false v d:=⟨r,fun h=>by cases h⟩
theorem Rf.or{K:Ybf}{H0 G:Hp}{f:Bool}{v:V}{d:D}(r:Rf K H0 G f v d):Rf K H0 G (f||zw d) v d:=⟨r.rd,fun h=>by
 cases f with
 | true=>exact r.nw rfl
 | false=>exact ZQ (by simpa using h) r.rd⟩
theorem Rfs.nil{K:Ybf}{H0 G:Hp}{f:Bool}:Rfs K H0 G f [] []:=⟨.nil,fun _=>.nil⟩
theorem Rfs.cons{K:Ybf}{H0 G:Hp}{f g:Bool}{v:V}{d:D}{vs:List V}{ds:List D}(r:Rf K H0 G f v d)(rs:Rfs K H0 G g vs ds):Rfs K H0 G (f&&g) (v::vs) (d::ds):=⟨.cons r.rd rs.rd,fun h=>by
 rw [Yak] at h;exact .cons (r.nw h.1) (rs.nw h.2)⟩
theorem zgO{K:Ybf}{H0 H:Hp}{xs:List V}{ds:List D}{i:Nat}{x:V}{d:D}(r:RdNs K H0 H xs ds)(e:xs[i]?=some x)(e':ds[i]?=some d):RdN K H0 H x d:=by
 induction xs generalizing ds i with
 | nil=>simp at e
 | cons y xs ih=>
  cases r with
  | cons a b=>
   cases i with
   | zero=>cases e;cases e';exact a
   | succ i=>exact ih b (i:=i) (by simpa using e) (by simpa using e')
theorem Rfs.get{K:Ybf}{H0 G:Hp}{f:Bool}{vs:List V}{ds:List D}{i:Nat}{d:D}(r:Rfs K H0 G f vs ds)(h:ds[i]?=some d):∃ v,vs[i]?=some v/\Rf K H0 G f v d:=by
 obtain⟨v,h1,h2⟩:=r.rd.get h;exact⟨v,h1,h2,fun hf=>zgO (r.nw hf) h1 h⟩
theorem zfl{K:Ybf}{H0 G:Hp}{vs:List V}{ds:List D}(h:ds.all zw=true)(r:RdVs K G vs ds):RdNs K H0 G vs ds:=by
 induction vs generalizing ds with
 | nil=>cases r;exact .nil
 | cons v vs ih=>
  cases r with
  | cons a b=>
   rw [List.all_cons,Yak] at h;exact .cons (ZQ h.1 a) (ih h.2 b)
theorem Rfs.or{K:Ybf}{H0 G:Hp}{f:Bool}{vs:List V}{ds:List D}(r:Rfs K H0 G f vs ds):Rfs K H0 G (f||ds.all zw) vs ds:=⟨r.rd,fun h=>by
 cases f with
 | true=>exact r.nw rfl
 | false=>exact zfl (by simpa using h) r.rd⟩
theorem zbS(ws:List Int):(ws.map PyData.int).all zw=true:=by
 rw [List.all_map];exact WaO.mpr fun _ _=>rfl
theorem Rfs.length{K:Ybf}{H0 G:Hp}{f:Bool}{vs:List V}{ds:List D}(r:Rfs K H0 G f vs ds):vs.length=ds.length:=r.rd.length
theorem zcr{K:Ybf}{H0 H:Hp}{xs ys:List V}{ds es:List D}(h:RdNs K H0 H xs ds)(h':RdNs K H0 H ys es):RdNs K H0 H (xs++ys) (ds++es):=by
 induction xs generalizing ds with
 | nil=>cases h;exact h'
 | cons x xs ih=>cases h with|cons a b=>exact .cons a (ih b)
theorem zjq{K:Ybf}{H0 H:Hp}{x:V}{d:D}(h:RdN K H0 H x d){xs:List V}{ds:List D}(i:Nat)(r:RdNs K H0 H xs ds):RdNs K H0 H (xs.set i x) (ds.set i d):=by
 induction xs generalizing ds i with
 | nil=>cases r;exact .nil
 | cons y xs ih=>
  cases r with
  | cons a b=>
   cases i with
   | zero=>exact .cons h b
   | succ i=>exact .cons a (ih i b)
theorem zix{K:Ybf}{H0 H:Hp}{xs:List V}{ds:List D}(i:Nat)(r:RdNs K H0 H xs ds):RdNs K H0 H (xs.take i) (ds.take i):=by
 induction xs generalizing ds i with
 | nil=>cases r;rw [List.take_nil,List.take_nil];exact .nil
 | cons y xs ih=>
  cases r with
  | cons a b=>
   cases i with
   | zero=>exact .nil
   | succ i=>exact .cons a (ih i b)
theorem zlT{K:Ybf}{H0 H:Hp}{xs:List V}{ds:List D}(i:Nat)(r:RdNs K H0 H xs ds):RdNs K H0 H (xs.drop i) (ds.drop i):=by
 induction xs generalizing ds i with
 | nil=>cases r;rw [List.drop_nil,List.drop_nil];exact .nil
 | cons y xs ih=>
  cases r with
  | cons a b=>
   cases i with
   | zero=>exact .cons a b
   | succ i=>exact ih i b
theorem zj1{K:Ybf}{H0 H:Hp}{xs:List V}{ds:List D}(i:Nat)(r:RdNs K H0 H xs ds):RdNs K H0 H (xs.eraseIdx i) (ds.eraseIdx i):=by
 induction xs generalizing ds i with
 | nil=>cases r;exact .nil
 | cons y xs ih=>
  cases r with
  | cons a b=>
   cases i with
   | zero=>exact b
   | succ i=>exact .cons a (ih i b)
theorem Rfs.snoc{K:Ybf}{H0 G:Hp}{f g:Bool}{v:V}{d:D}{vs:List V}{ds:List D}(rs:Rfs K H0 G g vs ds)(r:Rf K H0 G f v d):Rfs K H0 G (g&&f) (vs++[v]) (ds++[d]):=⟨rs.rd.append (.cons r.rd .nil),fun h=>by
 rw [Yak] at h;exact zcr (rs.nw h.1) (.cons (r.nw h.2) .nil)⟩
theorem Rfs.append{K:Ybf}{H0 G:Hp}{f g:Bool}{us:List V}{es:List D}{vs:List V}{ds:List D}(rs:Rfs K H0 G g vs ds)(r:Rfs K H0 G f us es):Rfs K H0 G (g&&f) (vs++us) (ds++es):=⟨rs.rd.append r.rd,fun h=>by
 rw [Yak] at h;exact zcr (rs.nw h.1) (r.nw h.2)⟩
theorem Rfs.set{K:Ybf}{H0 G:Hp}{f g:Bool}{v:V}{d:D}{vs:List V}{ds:List D}(rs:Rfs K H0 G g vs ds)(r:Rf K H0 G f v d)(i:Nat):Rfs K H0 G (g&&f) (vs.set i v) (ds.set i d):=⟨rs.rd.set r.rd i,fun h=>by
 rw [Yak] at h;exact zjq (r.nw h.2) i (rs.nw h.1)⟩
theorem Rfs.take{K:Ybf}{H0 G:Hp}{g:Bool}{vs:List V}{ds:List D}(rs:Rfs K H0 G g vs ds)(i:Nat):Rfs K H0 G g (vs.take i) (ds.take i):=⟨rs.rd.take i,fun h=>zix i (rs.nw h)⟩
theorem Rfs.drop{K:Ybf}{H0 G:Hp}{g:Bool}{vs:List V}{ds:List D}(rs:Rfs K H0 G g vs ds)(i:Nat):Rfs K H0 G g (vs.drop i) (ds.drop i):=⟨rs.rd.drop i,fun h=>zlT i (rs.nw h)⟩
theorem Rfs.eraseIdx{K:Ybf}{H0 G:Hp}{g:Bool}{vs:List V}{ds:List D}(rs:Rfs K H0 G g vs ds)(i:Nat):Rfs K H0 G g (vs.eraseIdx i) (ds.eraseIdx i):=⟨rs.rd.eraseIdx i,fun h=>zj1 i (rs.nw h)⟩
structure Tr(K:Ybf)(H0 G H:Hp)(l:Addr)(ps:List Addr)(ms:List (List D)):Prop where
 top:H l=some (.lst (ps.map V.ref))
 topG:G l=none
 nd:(l::ps).Nodup
 len:ps.length=ms.length
 item:∀ (k:Nat) (p:Addr) (m:List D),ps[k]?=some p->ms[k]?=some m->∃ vs,H p=some (.lst vs)/\G p=none/\Rfs K H0 G true vs m
inductive Dr(K:Ybf)(H0 G:Hp):List (List Key×V)->List (List Key×D)->Prop
 | nil:Dr K H0 G [] []
 | cons {k v d kvs ds}:Rf K H0 G true v d->Dr K H0 G kvs ds->Dr K H0 G ((k,v)::kvs) ((k,d)::ds)
theorem Dr.same{K:Ybf}{H0 G G':Hp}{kvs:List (List Key×V)}{ds:List (List Key×D)}(r:Dr K H0 G kvs ds)(e:Same G G'):Dr K H0 G' kvs ds:=by
 induction r with
 | nil=>exact .nil
 | cons a b ih=>exact .cons (a.same e) ih
def KAt(G:Hp)(o:Obj)(kvs:List (List Key×V)):Prop:=∃ (es:Array DictEntry) (ep:Nat) (as:List Addr),o.ExactDict/\o.data=.dict es ep/\es.toList.map (·.key)=as.map Value.ref/\as.length=kvs.length/\∀ (j:Nat) (a:Addr) (k:List Key) (v:V),as[j]?=some a->kvs[j]?=some (k,v)->G a=some (.tup (k.map kV))
theorem KAt.same{G G':Hp}{o:Obj}{kvs:List (List Key×V)}(h:KAt G o kvs)(g:Same G G'):KAt G' o kvs:=by
 obtain⟨es,ep,as,h0,h1,h2,h3,h4⟩:=h;exact⟨es,ep,as,h0,h1,h2,h3,fun j a k v e1 e2=>g _ _ (h4 j a k v e1 e2)⟩
def encM(ds:List (Int×Int)):List (Key×V):=ds.map fun p=>(Sum.inl p.1,V.int p.2)
inductive Vw(K:Ybf)(H0 G H:Hp):V->Cl->Prop
 | sh {v f d}:Rf K H0 G f v d->Vw K H0 G H v (.sh f d)
 | ow {l vs f ds}:H l=some (.lst vs)->Rfs K H0 G f vs ds->G l=none->Vw K H0 G H (.ref l) (.ow f ds)
 | tr {l ps ms}:Tr K H0 G H l ps ms->Vw K H0 G H (.ref l) (.tr ps ms)
 | dt {l kvs ds}:H l=some (.dT kvs)->Dr K H0 G kvs ds->G l=none->Vw K H0 G H (.ref l) (.dt ds)
 | dk {l ks}:H l=some (.dK (ks.map fun k=>(Sum.inl k,V.bl true)))->G l=none->Vw K H0 G H (.ref l) (.dk ks)
 | fd {l o kvs ds}:G l=some (.frz o (.dT kvs))->Dr K H0 G kvs ds->KAt G o kvs->Vw K H0 G H (.ref l) (.fd ds)
 | tk {b k}:G b=some (.tup (k.map kV))->Vw K H0 G H (.ref b) (.tk k)
 | dm {a ds}:H a=some (.dK (encM ds))->G a=none->Vw K H0 G H (.ref a) (.dm a ds)
 | ex {l C}:H l=some (excO l C)->Vw K H0 G H (.ref l) (.ex C)
def Cl.dat:Cl->Bool
 | .ex _=>false
 | .tr _ _=>false
 | .dt _=>false
 | .dk _=>false
 | .fd _=>false
 | .dm _ _=>false
 | _=>true
def Has:Cl->V->Addr->Prop
 | .ow _ _,v,a=>v=.ref a
 | .tr ps _,v,a=>v=.ref a\/a∈ps
 | .dt _,v,a=>v=.ref a
 | .dk _,v,a=>v=.ref a
 | .dm _ _,v,a=>v=.ref a
 | _,_,_=>False
theorem Tr.at{K:Ybf}{H0 G H:Hp}{l:Addr}{ps:List Addr}{ms:List (List D)}(t:Tr K H0 G H l ps ms){p:Addr}(h:p∈ps):∃ m vs,H p=some (.lst vs)/\G p=none/\Rfs K H0 G true vs m:=by
 obtain⟨k,hk,e⟩:=Yam h;have hk':k<ms.length:=by rw [<-t.len];exact hk
 obtain⟨vs,h1⟩:=t.item k p ms[k] (by rw [<-e];exact YaQ hk) (YaQ hk')
 exact⟨_,vs,h1⟩
theorem Vw.has{K:Ybf}{H0 G H:Hp}{v:V}{c:Cl}{a:Addr}(w:Vw K H0 G H v c)(h:Has c v a):(∃ o,H a=some o/\∀ f,o≠.ext f)/\G a=none:=by
 cases w with
 | sh r=>exact False.elim h
 | ex e=>exact False.elim h
 | fd _ _ _=>exact False.elim h
 | tk _=>exact False.elim h
 | ow e r n=>cases h;exact⟨⟨_,e,fun C z=>by cases z⟩,n⟩
 | dt e r n=>cases h;exact⟨⟨_,e,fun C z=>by cases z⟩,n⟩
 | dk e n=>cases h;exact⟨⟨_,e,fun C z=>by cases z⟩,n⟩
 | dm e n=>cases h;exact⟨⟨_,e,fun C z=>by cases z⟩,n⟩
 | tr t=>
  rcases h with h|h
  . cases h;exact⟨⟨_,t.top,fun C z=>by cases z⟩,t.topG⟩
  . obtain⟨m,vs,h1,h2,_⟩:=t.at h
    exact⟨⟨_,h1,fun C z=>by cases z⟩,h2⟩
theorem Vw.turn{K:Ybf}{H0 G H G' H':Hp}{v:V}{c:Cl}(w:Vw K H0 G H v c)(g:Same G G')(hx:∀ a C,H a=some (excO a C)->H' a=some (excO a C))(hh:∀ a,Has c v a->H' a=H a/\G' a=G a):Vw K H0 G' H' v c:=by
 cases w with
 | sh r=>exact .sh (r.same g)
 | ex h=>exact .ex (hx _ _ h)
 | fd h r k=>exact .fd (g _ _ h) (r.same g) (k.same g)
 | tk h=>exact .tk (g _ _ h)
 | ow h r n=>
  obtain⟨h1,h2⟩:=hh _ rfl;exact .ow (h1.trans h) (r.same g) (h2.trans n)
 | dt h r n=>
  obtain⟨h1,h2⟩:=hh _ rfl;exact .dt (h1.trans h) (r.same g) (h2.trans n)
 | dk h n=>
  obtain⟨h1,h2⟩:=hh _ rfl;exact .dk (h1.trans h) (h2.trans n)
 | dm h n=>
  obtain⟨h1,h2⟩:=hh _ rfl;exact .dm (h1.trans h) (h2.trans n)
 | tr t=>
  obtain⟨h1,h2⟩:=hh _ (.inl rfl);refine .tr ⟨h1.trans t.top,h2.trans t.topG,t.nd,t.len,fun k p m hp hm=>?_⟩
  obtain⟨vs,q1,q2,q3⟩:=t.item k p m hp hm;obtain⟨h3,h4⟩:=hh p (.inr (Yah hp));exact⟨vs,h3.trans q1,h4.trans q2,q3.same g⟩
theorem Vw.ntup{K:Ybf}{H0 G H:Hp}{v:V}{c:Cl}{a:Addr}(w:Vw K H0 G H v c)(h:Has c v a):∀ xs,H a≠some (.tup xs):=by
 cases w with
 | sh r=>exact False.elim h
 | ex e=>exact False.elim h
 | fd _ _ _=>exact False.elim h
 | tk _=>exact False.elim h
 | ow e r n=>cases h;intro xs z;rw [e] at z;cases z
 | dt e r n=>cases h;intro xs z;rw [e] at z;cases z
 | dk e n=>cases h;intro xs z;rw [e] at z;cases z
 | dm e n=>cases h;intro xs z;rw [e] at z;cases z
 | tr t=>
  rcases h with h|h
  . cases h;intro xs z;rw [t.top] at z;cases z
  . obtain⟨m,vs,h1,h2,_⟩:=t.at h
    intro xs z;rw [h1] at z;cases z
theorem Gr.hid{G H G' H':Hp}(g:Gr G H G' H'){l:Addr}{o:HO}(h:H l=some o)(n:G l=none)(hx:∀ f,o≠.ext f)(ht:∀ xs,H l≠some (.tup xs)):G' l=none:=by
 cases e:G' l with
 | none=>rfl
 | some o=>
  rcases g.new _ _ e with q|q|⟨xs,q⟩
  . rw [n] at q;cases q
  . rw [h] at q;cases q
  . have:=g.sub.s _ _ e
    rw [g.h.at h hx,q] at this;exact absurd (h.trans this) (ht xs)
theorem Vw.gr{K:Ybf}{H0 G H G' H':Hp}{v:V}{c:Cl}(w:Vw K H0 G H v c)(g:Gr G H G' H'):Vw K H0 G' H' v c:=
 w.turn g.g (fun a C e=>g.h.exc e) fun a h=>by
  obtain⟨⟨o,e,no⟩,n⟩:=w.has h;exact⟨(g.h.at e no).trans e.symm,(g.hid e n no (w.ntup h)).trans n.symm⟩
theorem zaA{K:Ybf}{G:Hp}:∀ k:List Key,RdVs K G (k.map kV) (k.map keyD)
 | []=>.nil
 | .inl i::r=>.cons (.int i) (zaA r)
 | .inr x::r=>.cons (.str x) (zaA r)
theorem zbE{K:Ybf}{H0 G:Hp}:∀ k:List Key,RdNs K H0 G (k.map kV) (k.map keyD)
 | []=>.nil
 | .inl i::r=>.cons (.int i) (zbE r)
 | .inr x::r=>.cons (.str x) (zbE r)
theorem Vw.rd{K:Ybf}{H0 G H:Hp}{v:V}{c:Cl}(w:Vw K H0 G H v c)(s:Sub G H)(hc:c.dat=true):RdV K H v c.d:=by
 cases w with
 | sh r=>exact J8 s.s r.rd
 | ow h r n=>exact .lst (SqL.of h) (rdvs_same s.s r.rd)
 | tr t=>cases hc
 | dt _ _ _=>cases hc
 | dk _ _=>cases hc
 | fd _ _ _=>cases hc
 | tk h=>exact .tup (SqT.of (s.s _ _ h)) (zaA _)
 | dm _ _=>cases hc
 | ex h=>cases hc
inductive Vws(K:Ybf)(H0 G H:Hp):List V->List Cl->Prop
 | nil:Vws K H0 G H [] []
 | cons {v c vs cs}:Vw K H0 G H v c->Vws K H0 G H vs cs->Vws K H0 G H (v::vs) (c::cs)
def shs:List Cl->Option (Bool×List D)
 | []=>some (true,[])
 | .sh f d::r=>(shs r).map fun p=>((f&&p.1),d::p.2)
 | .ow _ _::_=>none
 | .tr _ _::_=>none
 | .dt _::_=>none
 | .dk _::_=>none
 | .fd _::_=>none
 | .tk _::_=>none
 | .dm _ _::_=>none
 | .ex _::_=>none
theorem Vws.shs{K:Ybf}{H0 G H:Hp}{vs:List V}{cs:List Cl}{p:Bool×List D}(h:Vws K H0 G H vs cs)(e:shs cs=some p):Rfs K H0 G p.1 vs p.2:=by
 induction h generalizing p with
 | nil=>cases e;exact .nil
 | cons a b ih=>
  cases a with
  | sh r=>
   unfold L3.shs at e;rename_i cs' f d;cases q:L3.shs cs' with
   | none=>rw [q] at e;cases e
   | some ds=>rw [q] at e;cases e;exact .cons r (ih q)
  | ow _ _ _=>cases e
  | tr _=>cases e
  | dt _ _ _=>cases e
  | dk _ _=>cases e
  | fd _ _ _=>cases e
  | tk _=>cases e
  | dm _ _=>cases e
  | ex _=>cases e
theorem Vws.rds{K:Ybf}{H0 G H:Hp}(s:Sub G H){vs:List V}{cs:List Cl}(h:Vws K H0 G H vs cs)(hd:cs.all Cl.dat=true):RdVs K H vs (cs.map Cl.d):=by
 induction h with
 | nil=>exact .nil
 | cons a b ih=>
  rw [List.all_cons,Yak] at hd;exact .cons (a.rd s hd.1) (ih hd.2)
structure Fr3(K:Ybf)(H0 G0:Hp)(ρ : Env3)(σ : L2.St)(G H:Hp):Prop where
 keep:zi H0 H
 sub:Sub G H
 old:∀ b o,G b=some o->G0 b=some o\/H0 b=none\/∃ xs,o=.tup xs
 g0:Same G0 G
 slot:∀ (i:Nat) (c:Cl),ρ[i]?=some (some c)->∃ v,σ[i]?=some (some v)/\Vw K H0 G H v c
 mine:∀ (i:Nat) (c:Cl) (v:V) (a:Addr),ρ[i]?=some (some c)->σ[i]?=some (some v)->Has c v a->H0 a=none
 apart:∀ (i j:Nat) (c c':Cl) (v v':V) (a:Addr),ρ[i]?=some (some c)->ρ[j]?=some (some c')->σ[i]?=some (some v)->σ[j]?=some (some v')->Has c v a->Has c' v' a->i=j
 len:ρ.length = σ.length
section
variable{K:Ybf}{H0 G0:Hp}{ρ : Env3}{σ : L2.St}{G H G' H':Hp}
theorem Fr3.gr(F:#[18])(g:Gr G H G' H'):Fr3 K H0 G0 ρ σ G' H' where
 keep:=F.keep.trans g.h
 sub:=g.sub
 old:=fun b o e=>by
  rcases g.new b o e with q|q|q
  . exact F.old b o q
  . exact .inr (.inl (F.keep.free q))
  . exact .inr (.inr q)
 g0:=F.g0.trans g.g
 slot:=fun i c e=>by
  obtain⟨v,h1,h2⟩:=F.slot i c e;exact⟨v,h1,h2.gr g⟩
 mine:=F.mine
 apart:=F.apart
 len:=F.len
theorem zJ{α : Type}{l:List α}{i j:Nat}{x y:α}(h:(l.set i x)[j]?=some y):(i=j/\y=x/\i<l.length)\/(i≠j/\l[j]?=some y):=by
 by_cases e:i=j
 . subst e
   rw [List.getElem?_set_self'] at h;cases q:l[i]? with
   | none=>rw [q] at h;cases h
   | some z=>
    rw [q] at h;cases h;exact .inl ⟨rfl,rfl,(Ya8.mp q).1⟩
 . rw [Yac e] at h
   exact .inr ⟨e,h⟩
theorem Fr3.vw(F:#[18]){i:Nat}{c:Cl}{v:V}(h:ρ[i]?=some (some c))(h':σ[i]?=some (some v)):Vw K H0 G H v c:=by
 obtain⟨u,h1,h2⟩:=F.slot i c h;rw [h'] at h1;cases h1;exact h2
theorem Fr3.put(F:#[18]){i:Nat}{v:V}{c:Cl}(s:zi H H')(w:Vw K H0 G H' v c)(hn:∀ a,Has c v a->H a=none):Fr3 K H0 G0 (ρ.set i (some c)) (σ.set i (some v)) G H':=by
 have F':=F.gr (G':=G) (H':=H') ⟨Same.refl _,s,F.sub.trans s,fun _ _ e=>.inl e⟩
 have ne:∀ (j:Nat) (c':Cl) (v':V) (a:Addr),ρ[j]?=some (some c')->σ[j]?=some (some v')->Has c' v' a->Has c v a->False:=fun j c' v' a e e' h h'=>by
  obtain⟨⟨o,q,_⟩,_⟩:=(F.vw e e').has h;rw [hn a h'] at q;cases q
 exact {
  keep:=F'.keep
  sub:=F'.sub
  old:=F'.old
  g0:=F'.g0
  slot:=fun j c' e=>by
   rcases zJ e with ⟨rfl,q,hl⟩|⟨n,q⟩
   . cases q
     exact⟨v,by rw [Yas (by rw [<-F.len];exact hl)],w⟩
   . obtain⟨v',h1,h2⟩:=F'.slot j c' q
     exact⟨v',by rw [Yac n];exact h1,h2⟩
  mine:=fun j c' v' a e e' h=>by
   rcases zJ e with ⟨rfl,q,hl⟩|⟨n,q⟩
   . cases q
     rw [Yas (by rw [<-F.len];exact hl)] at e'
     cases e';exact F.keep.free (hn a h)
   . rw [Yac n] at e'
     exact F.mine j c' v' a q e' h
  apart:=fun j k c1 c2 v1 v2 a e1 e2 e3 e4 h1 h2=>by
   rcases zJ e1 with ⟨rfl,q,hl⟩|⟨n,q⟩
   . rcases zJ e2 with ⟨rfl,q',hl'⟩|⟨n',q'⟩
     . rfl
     . cases q
       rw [Yas (by rw [<-F.len];exact hl)] at e3
       cases e3;rw [Yac n'] at e4
       exact(ne k c2 v2 a q' e4 h2 h1).elim
   . rcases zJ e2 with ⟨rfl,q',hl'⟩|⟨n',q'⟩
     . cases q'
       rw [Yas (by rw [<-F.len];exact hl')] at e4
       cases e4;rw [Yac n] at e3
       exact(ne j c1 v1 a q e3 h1 h2).elim
     . rw [Yac n] at e3
       rw [Yac n'] at e4;exact F.apart j k c1 c2 v1 v2 a q q' e3 e4 h1 h2
  len:=by rw [YaN,YaN];exact F.len }
theorem Fr3.set(F:#[18]){i:Nat}{v:V}{f:Bool}{d:D}(r:Rf K H0 G f v d):Fr3 K H0 G0 (ρ.set i (some (.sh f d))) (σ.set i (some v)) G H:=F.put (zi.refl _) (.sh r) fun _ h=>False.elim h
theorem Fr3.drop(F:#[18]){i:Nat}:Fr3 K H0 G0 (ρ.set i none) σ G H where
 keep:=F.keep
 sub:=F.sub
 old:=F.old
 g0:=F.g0
 slot:=fun j c e=>by
  rcases zJ e with ⟨rfl,q,hl⟩|⟨n,q⟩
  . cases q
  . exact F.slot j c q
 mine:=fun j c v a e e' h=>by
  rcases zJ e with ⟨rfl,q,hl⟩|⟨n,q⟩
  . cases q
  . exact F.mine j c v a q e' h
 apart:=fun j k c1 c2 v1 v2 a e1 e2 e3 e4 h1 h2=>by
  rcases zJ e1 with ⟨rfl,q,hl⟩|⟨n,q⟩
  . cases q
  . rcases zJ e2 with ⟨rfl,q',hl⟩|⟨n',q'⟩
    . cases q'
    . exact F.apart j k c1 c2 v1 v2 a q q' e3 e4 h1 h2
 len:=by rw [YaN];exact F.len
theorem Fr3.own(F:#[18]){i:Nat}{l:Addr}{vs:List V}{f:Bool}{ds:List D}(r:Rfs K H0 G f vs ds)(hl:H l=none):Fr3 K H0 G0 (ρ.set i (some (.ow f ds))) (σ.set i (some (.ref l))) G (upd H l (.lst vs)):=
 F.put (zG hl _).x (.ow zf r (F.sub.free hl)) fun a h=>by cases h;exact hl
theorem Fr3.chg(F:#[18]){i:Nat}{l:Addr}{o:HO}{c c':Cl}{v:V}(hi:ρ[i]?=some (some c))(hv:σ[i]?=some (some v))(hl:Has c v l)(hc:∀ a,Has c' v a->Has c v a)(w:Vw K H0 G (upd H l o) v c'):Fr3 K H0 G0 (ρ.set i (some c')) σ G (upd H l o):=by
 have h0:H0 l=none:=F.mine i c v l hi hv hl;obtain⟨⟨us,hu,hux⟩,gl⟩:=(F.vw hi hv).has hl;refine⟨F.keep.chg h0 hu hux,⟨fun b o e=>by rw [zc (je e gl)];exact F.sub.s b o e,F.sub.cl⟩,F.old,F.g0,fun j c2 e=>?_,fun j c2 v2 a e e' h=>?_,fun j k c1 c2 v1 v2 a e1 e2 e3 e4 h1 h2=>?_,by rw [YaN];exact F.len⟩
 . rcases zJ e with ⟨rfl,q,_⟩|⟨n,q⟩
   . cases q
     exact⟨v,hv,w⟩
   . obtain⟨v',h1,h2⟩:=F.slot j c2 q
     refine⟨v',h1,h2.turn (Same.refl _) (fun a C e=>?_) fun a h=>⟨?_,rfl⟩⟩
     . rw [zc (fun z=>by subst z;rw [hu] at e;exact hux _ (WaV e))];exact e
     . rw [zc (fun z=>by subst z;exact n (F.apart i j c c2 v v' a hi q hv h1 hl h))]
 . rcases zJ e with ⟨rfl,q,_⟩|⟨n,q⟩
   . cases q
     rw [hv] at e';cases e';exact F.mine i c v a hi hv (hc a h)
   . exact F.mine j c2 v2 a q e' h
 . rcases zJ e1 with ⟨rfl,q,_⟩|⟨n,q⟩
   . rcases zJ e2 with ⟨rfl,q',_⟩|⟨n',q'⟩
     . rfl
     . cases q
       rw [hv] at e3;cases e3;exact F.apart i k c c2 v v2 a hi q' hv e4 (hc a h1) h2
   . rcases zJ e2 with ⟨rfl,q',_⟩|⟨n',q'⟩
     . cases q'
       rw [hv] at e4;cases e4;exact F.apart j i c1 c v1 v a q hi e3 hv h1 (hc a h2)
     . exact F.apart j k c1 c2 v1 v2 a q q' e3 e4 h1 h2
theorem Fr3.change(F:#[18]){i:Nat}{l:Addr}{vs:List V}{f f':Bool}{ds es:List D}(hi:ρ[i]?=some (some (.ow f ds)))(hl:σ[i]?=some (some (.ref l)))(r:Rfs K H0 G f' vs es):Fr3 K H0 G0 (ρ.set i (some (.ow f' es))) σ G (upd H l (.lst vs)):=
 F.chg hi hl rfl (fun _ h=>h) (.ow zf r ((F.vw hi hl).has rfl).2)
theorem Fr3.still(F:#[18]){i:Nat}{c:Cl}{v:V}{f:Bool}{d:D}(hi:ρ[i]?=some (some c))(hv:σ[i]?=some (some v))(r:∀ G',Same G G'->(∀ a,Has c v a->G' a=H a/\H0 a=none)->Rf K H0 G' f v d):∃ G',Same G G'/\Fr3 K H0 G0 (ρ.set i (some (.sh f d))) σ G' H:=by
 have hd:∀ b,Decidable (Has c v b):=fun b=>Classical.propDecidable _
 have w:=F.vw hi hv;have e1:∀ b,Has c v b->(fun b=>if Has c v b then H b else G b) b=H b:=fun b h=>if_pos h
 have e2:∀ b,¬Has c v b->(fun b=>if Has c v b then H b else G b) b=G b:=fun b h=>if_neg h
 generalize (fun b=>if Has c v b then H b else G b)=G' at e1 e2
 have gg:Same G G':=fun b o e=>by
  rw [e2 b (fun h=>by rw [(w.has h).2] at e;cases e)];exact e
 refine⟨G',gg,F.keep,⟨fun b o e=>?_,fun b f e=>?_⟩,fun b o e=>?_,F.g0.trans gg,fun j c2 e=>?_,fun j c2 v2 a e e' h=>?_,fun j k c1 c2 v1 v2 a q1 q2 q3 q4 h1 h2=>?_,by rw [YaN];exact F.len⟩
 . by_cases h:Has c v b
   . rw [e1 b h] at e;exact e
   . rw [e2 b h] at e;exact F.sub.s b o e
 . by_cases h:Has c v b
   . rw [e1 b h] at e
     obtain⟨⟨u,hu,hn⟩,_⟩:=w.has h;rw [hu] at e;exact hn f (WaV e)
   . rw [e2 b h] at e;exact F.sub.cl b f e
 . by_cases h:Has c v b
   . exact .inr (.inl (F.mine i c v b hi hv h))
   . rw [e2 b h] at e;exact F.old b o e
 . rcases zJ e with ⟨rfl,q,_⟩|⟨n,q⟩
   . cases q
     exact⟨v,hv,.sh (r G' gg fun a h=>⟨e1 a h,F.mine i c v a hi hv h⟩)⟩
   . obtain⟨v',h1,h2⟩:=F.slot j c2 q
     exact⟨v',h1,h2.turn gg (fun _ _ e=>e) fun a h=>⟨rfl,e2 a fun h'=>n (F.apart i j c c2 v v' a hi q hv h1 h' h)⟩⟩
 . rcases zJ e with ⟨rfl,q,_⟩|⟨n,q⟩
   . cases q;exact False.elim h
   . exact F.mine j c2 v2 a q e' h
 . rcases zJ q1 with ⟨rfl,q,_⟩|⟨n,q⟩
   . cases q;exact False.elim h1
   . rcases zJ q2 with ⟨rfl,q',_⟩|⟨n',q'⟩
     . cases q';exact False.elim h2
     . exact F.apart j k c1 c2 v1 v2 a q q' q3 q4 h1 h2
theorem Fr3.freeze(F:#[18]){i:Nat}{f:Bool}{ds:List D}(hi:ρ[i]?=some (some (.ow f ds))):∃ G',Same G G'/\Fr3 K H0 G0 (ρ.set i (some (.sh f (.list ds)))) σ G' H:=by
 obtain⟨v,hv,w⟩:=F.slot i _ hi;refine F.still hi hv fun G' gg q=>?_
 cases w with
 | ow h r n=>
  obtain⟨q1,q2⟩:=q _ rfl;rw [h] at q1;exact⟨.lst (SqL.of q1) (rdvs_same gg r.rd),fun hf=>.lst q1 q2 (rdns_mono gg (fun _ _ _ z=>z) (r.nw hf))⟩
theorem zlP{ps:List Addr}{ms:List (List D)}(hl:ps.length=ms.length)(h:∀ (k:Nat) (p:Addr) (m:List D),ps[k]?=some p->ms[k]?=some m->RdN K H0 G (.ref p) (.list m)):RdNs K H0 G (ps.map V.ref) (ms.map PyData.list):=by
 induction ps generalizing ms with
 | nil => cases ms with
  | nil=>exact .nil
  | cons m ms=>cases hl
 | cons p ps ih => cases ms with
  | nil=>cases hl
  | cons m ms=>exact .cons (h 0 p m rfl rfl) (ih (Nat.succ.inj hl) fun k q n h1 h2=>h (k+1) q n (by simpa using h1) (by simpa using h2))
theorem Fr3.freezeT(F:#[18]){i:Nat}{ps:List Addr}{ms:List (List D)}(hi:ρ[i]?=some (some (.tr ps ms))):∃ G',Same G G'/\Fr3 K H0 G0 (ρ.set i (some (.sh true (.list (ms.map PyData.list))))) σ G' H:=by
 obtain⟨v,hv,w⟩:=F.slot i _ hi;refine F.still hi hv fun G' gg q=>?_
 cases w with
 | tr t=>
  obtain⟨q1,q2⟩:=q _ (.inl rfl);have n:RdN K H0 G' (.ref _) (.list (ms.map PyData.list)):=.lst (q1.trans t.top) q2 (zlP t.len fun k p m h1 h2=>by
   obtain⟨vs,a,b,c⟩:=t.item k p m h1 h2;obtain⟨q3,q4⟩:=q p (.inr (Yah h1));exact .lst (q3.trans a) q4 (rdns_mono gg (fun _ _ _ z=>z) (c.nw rfl)))
  exact⟨zcZ n,fun _=>n⟩
theorem Fr3.rebase(F:#[18]):Fr3 K H0 G ρ σ G H:=⟨F.keep,F.sub,fun _ _ e=>.inl e,Same.refl _,F.slot,F.mine,F.apart,F.len⟩
theorem Fr3.back{ρ1:Env3}{σ1:L2.St}{G1 H1:Hp}(F:Fr3 K H0 G1 ρ σ G H)(B:Fr3 K H0 G0 ρ1 σ1 G1 H1):Fr3 K H0 G0 ρ σ G H:=
 ⟨F.keep,F.sub,fun b o e=>(F.old b o e).elim (fun q=>B.old b o q) .inr,B.g0.trans F.g0,F.slot,F.mine,F.apart,F.len⟩
theorem Fr3.gr0(F:#[18]):Gr G0 H0 G H:=⟨F.g0,F.keep,F.sub,F.old⟩
theorem Gr.back{ρ1:Env3}{σ1:L2.St}{G1 H1:Hp}(g:Gr G1 H0 G H)(B:Fr3 K H0 G0 ρ1 σ1 G1 H1):Gr G0 H0 G H:=
 ⟨B.g0.trans g.g,g.h,g.sub,fun b o e=>(g.new b o e).elim (fun q=>B.old b o q) .inr⟩
end
variable[LamW]
theorem el5{α β γ : Type}{P R:α->β->γ->Prop}{C:Prop}(f:∀ a b c,P a b c->R a b c->C)(h:∃ a b c,P a b c/\R a b c):C:=by
 obtain⟨a,b,c,x,y⟩:=h;exact f a b c x y
theorem el7{α β γ δ : Type}{P R S:α->β->γ->δ->Prop}{C:Prop}(f:∀ a b c d,P a b c d->R a b c d->S a b c d->C)(h:∃ a b c d,P a b c d/\R a b c d/\S a b c d):C:=by
 obtain⟨a,b,c,d,x,y,z⟩:=h;exact f a b c d x y z
theorem el2{α β : Type}{P R S:α->β->Prop}{C:Prop}(f:∀ a b,P a b->R a b->S a b->C)(h:∃ a b,P a b/\R a b/\S a b):C:=by
 obtain⟨a,b,x,y,z⟩:=h;exact f a b x y z
theorem el3{α β γ : Type}{P R S T:α->β->γ->Prop}{C:Prop}(f:∀ a b c,P a b c->R a b c->S a b c->T a b c->C)(h:∃ a b c,P a b c/\R a b c/\S a b c/\T a b c):C:=by
 obtain⟨a,b,c,x,y,z,w⟩:=h;exact f a b c x y z w
abbrev TE3:=Env3->(Cl->Prop)->Prop
abbrev TT3:=Env3->(Bool->Prop)->Prop
abbrev TA3:=Env3->(List Cl->Prop)->Prop
abbrev TN3:=Env3->(Bool->List D->Prop)->Prop
structure Ends3 where
 nx:Env3->Prop
 rt:Bool->D->Prop
 bk:Env3->Prop:=fun _=>False
 ct:Env3->Prop:=fun _=>False
 rm:Cl->Env3->Prop:=fun _ _=>False
abbrev TS3:=Ends3->Env3->Prop
def jz(K:Ybf)(H0:Hp)(t:TE3):TE:=fun σ H Q=>∃ G0 ρ G,Fr3 K H0 G0 ρ σ G H/\t ρ fun c=>∀ v G' H',Gr G H G' H'->Vw K H0 G' H' v c->Q v H'
def zeX(K:Ybf)(H0:Hp)(t:TN3):TE:=fun σ H Q=>∃ G0 ρ G,Fr3 K H0 G0 ρ σ G H/\t ρ fun f ds=>∀ l vs G' H',Gr G H G' H'->H' l=none->Rfs K H0 G' f vs ds->Q (.ref l) (upd H' l (.lst vs))
def Jq(K:Ybf)(H0:Hp)(t:TT3):TT:=fun σ H Q=>∃ G0 ρ G,Fr3 K H0 G0 ρ σ G H/\t ρ fun b=>∀ G' H',Gr G H G' H'->Q b H'
def zkQ(K:Ybf)(H0:Hp)(t:TA3):TA:=fun σ H Q=>∃ G0 ρ G,Fr3 K H0 G0 ρ σ G H/\t ρ fun cs=>∀ vs G' H',Gr G H G' H'->Vws K H0 G' H' vs cs->Q vs H'
structure LD(K:Ybf)(H0 G0:Hp)(A:Ends3)(B:Ends):Prop where
 nx:∀ ρ σ G H,Fr3 K H0 G0 ρ σ G H->A.nx ρ->B.nx σ H
 rt:∀ f d v G H,Gr G0 H0 G H->Rf K H0 G f v d->A.rt f d->B.rt v H
 bk:∀ ρ σ G H,Fr3 K H0 G0 ρ σ G H->A.bk ρ->B.bk σ H
 ct:∀ ρ σ G H,Fr3 K H0 G0 ρ σ G H->A.ct ρ->B.ct σ H
 rm:∀ c v ρ σ G H,Fr3 K H0 G0 ρ σ G H->Vw K H0 G H v c->(∀ a,Has c v a->H0 a=none/\∀ (j:Nat) (c':Cl) (v':V),ρ[j]?=some (some c')->σ[j]?=some (some v')->¬Has c' v' a)->A.rm c ρ->B.rt v H
def zfn(K:Ybf)(H0:Hp)(t:TS3):TS:=fun B σ H=>∃ G0 A ρ G,Fr3 K H0 G0 ρ σ G H/\t A ρ/\LD K H0 G0 A B
structure PE3(X:Cx)(H0:Hp)(e:Expr)(t:TE3):Prop where
 mono:∀ ρ (Q Q':Cl->Prop),(∀ c,Q c->Q' c)->t ρ Q->t ρ Q'
 ok:PE X e (jz X.K H0 t)
structure PN3(X:Cx)(H0:Hp)(e:Expr)(t:TN3):Prop where
 mono:∀ ρ (Q Q':Bool->List D->Prop),(∀ f c,Q f c->Q' f c)->t ρ Q->t ρ Q'
 ok:PE X e (zeX X.K H0 t)
structure PT3(X:Cx)(H0:Hp)(e:Expr)(t:TT3):Prop where
 mono:∀ ρ (Q Q':Bool->Prop),(∀ c,Q c->Q' c)->t ρ Q->t ρ Q'
 ok:PT X e (Jq X.K H0 t)
structure PW3(X:Cx)(H0:Hp)(e:Expr)(t:TT3):Prop where
 mono:∀ ρ (Q Q':Bool->Prop),(∀ c,Q c->Q' c)->t ρ Q->t ρ Q'
 ok:PW X e (Jq X.K H0 t)
structure PA3(X:Cx)(H0:Hp)(es:List Expr)(t:TA3):Prop where
 mono:∀ ρ (Q Q':List Cl->Prop),(∀ c,Q c->Q' c)->t ρ Q->t ρ Q'
 ok:PA X es (zkQ X.K H0 t)
def PS3(X:Cx)(H0:Hp)(st:Stmt)(t:TS3):Prop:=PS X st (zfn X.K H0 t)
def PSs3(X:Cx)(H0:Hp)(st:List Stmt)(t:TS3):Prop:=PSs X st (zfn X.K H0 t)
theorem PE.imp{X:Cx}{e:Expr}{t t':TE}(h:PE X e t)(i:∀ σ H Q,t' σ H Q->t σ H Q):PE X e t':=fun pins s σ H Q I q=>h pins s σ H Q I (i _ _ _ q)
theorem PT.imp{X:Cx}{e:Expr}{t t':TT}(h:PT X e t)(i:∀ σ H Q,t' σ H Q->t σ H Q):PT X e t':=fun pins s σ H Q I q=>h pins s σ H Q I (i _ _ _ q)
theorem PW.imp{X:Cx}{e:Expr}{t t':TT}(h:PW X e t)(i:∀ σ H Q,t' σ H Q->t σ H Q):PW X e t':=fun wh pins s σ H Q I q=>h wh pins s σ H Q I (i _ _ _ q)
theorem PA.imp{X:Cx}{e:List Expr}{t t':TA}(h:PA X e t)(i:∀ σ H Q,t' σ H Q->t σ H Q):PA X e t':=fun pos pins s σ H Q I q=>h pos pins s σ H Q I (i _ _ _ q)
theorem PS.imp{X:Cx}{e:Stmt}{t t':TS}(h:PS X e t)(i:∀ B σ H,t' B σ H->t B σ H):PS X e t':=fun pins s σ H B I q=>h pins s σ H B I (i _ _ _ q)
theorem PSs.imp{X:Cx}{e:List Stmt}{t t':TS}(h:PSs X e t)(i:∀ B σ H,t' B σ H->t B σ H):PSs X e t':=fun pins s σ H B I q=>h pins s σ H B I (i _ _ _ q)
section
variable{X:Cx}{H0:Hp}{e a b c:Expr}{pos:Pos}
def atV(o:Option (Option Cl))(P:Cl->Prop):Prop:=match o with
 | some (some c)=>P c
 | _=>False
theorem ze8{o:Option (Option Cl)}{P:Cl->Prop}(h:atV o P):∃ c,o=some (some c)/\P c:=by
 cases o with
 | none=>exact False.elim h
 | some x => cases x with
  | none=>exact False.elim h
  | some c=>exact⟨c,rfl,h⟩
def asS(c:Cl)(P:Bool->D->Prop):Prop:=match c with
 | .sh f d=>P f d
 | _=>False
theorem Jt{c:Cl}{P:Bool->D->Prop}(h:asS c P):∃ f d,c=.sh f d/\P f d:=by
 cases c with
 | sh f d=>exact⟨f,d,rfl,h⟩
 | _=>exact False.elim h
def asD(d:D)(P:Bool->Prop):Prop:=match d with
 | .bool k=>P k
 | _=>False
def asB(c:Cl)(P:Bool->Prop):Prop:=match c with
 | .sh true d=>asD d P
 | _=>False
theorem zeT{c:Cl}{P:Bool->Prop}(h:asB c P):∃ k,c=.sh true (.bool k)/\P k:=by
 cases c with
 | sh f d => cases f with
  | true => cases d with
   | bool k=>exact⟨k,rfl,h⟩
   | _=>exact False.elim h
  | false=>exact False.elim h
 | _=>exact False.elim h
def optP{α : Type}(o:Option α)(P:α->Prop):Prop:=match o with
 | some a=>P a
 | none=>False
theorem zbg{α : Type}{o:Option α}{P:α->Prop}(h:optP o P):∃ a,o=some a/\P a:=by
 cases o with
 | none=>exact False.elim h
 | some a=>exact⟨a,rfl,h⟩
def asT(d:D)(P:List D->Prop):Prop:=match d with
 | .tuple ds=>P ds
 | _=>False
theorem zby{d:D}{P:List D->Prop}(h:asT d P):∃ ds,d=.tuple ds/\P ds:=by
 cases d with
 | tuple ds=>exact⟨ds,rfl,h⟩
 | _=>exact False.elim h
def asLd(d:D)(P:List D->Prop):Prop:=match d with
 | .list ds=>P ds
 | _=>False
def asL(c:Cl)(P:Bool->List D->Prop):Prop:=match c with
 | .sh f d=>asLd d (P f)
 | _=>False
theorem zfr{c:Cl}{P:Bool->List D->Prop}(h:asL c P):∃ f ds,c=.sh f (.list ds)/\P f ds:=by
 cases c with
 | sh f d => cases d with
  | list ds=>exact⟨f,ds,rfl,h⟩
  | _=>exact False.elim h
 | _=>exact False.elim h
def atO(o:Option (Option Cl))(P:Bool->List D->Prop):Prop:=match o with
 | some (some (.ow f ds))=>P f ds
 | _=>False
theorem zfD{o:Option (Option Cl)}{P:Bool->List D->Prop}(h:atO o P):∃ f ds,o=some (some (.ow f ds))/\P f ds:=by
 cases o with
 | none=>exact False.elim h
 | some x => cases x with
  | none=>exact False.elim h
  | some c => cases c with
   | ow f ds=>exact⟨f,ds,rfl,h⟩
   | _=>exact False.elim h
def Zo{α : Type}(l:List α)(P:α->List α->Prop):Prop:=match l with
 | d::r=>P d r
 | []=>False
theorem zfx{α : Type}{l:List α}{P:α->List α->Prop}(h:Zo l P):∃ d r,l=d::r/\P d r:=by
 cases l with
 | nil=>exact False.elim h
 | cons d r=>exact⟨d,r,rfl,h⟩
def nilP{α : Type}(l:List α)(P:Prop):Prop:=match l with
 | []=>P
 | _::_=>False
theorem zef{α : Type}{l:List α}{P:Prop}(h:nilP l P):l=[]/\P:=by
 cases l with
 | nil=>exact⟨rfl,h⟩
 | cons d r=>exact False.elim h
def asId(d:D)(P:Int->Prop):Prop:=match d with
 | .int i=>P i
 | _=>False
def asI(c:Cl)(P:Int->Prop):Prop:=match c with
 | .sh true d=>asId d P
 | _=>False
theorem jN{c:Cl}{P:Int->Prop}(h:asI c P):∃ k,c=.sh true (.int k)/\P k:=by
 cases c with
 | sh f d => cases f with
  | true => cases d with
   | int k=>exact⟨k,rfl,h⟩
   | _=>exact False.elim h
  | false=>exact False.elim h
 | _=>exact False.elim h
def v3(i:Nat):TE3:=fun ρ Q=>atV ρ[i]? Q
def k3(d:D):TE3:=fun _ Q=>Q (.sh true d)
theorem n3(i:Nat){x:Str}(hN:X.N[i]?=some x:=by rfl)(hv:Vis X.env.scope x:=by first|exact Or.inl rfl|exact Or.inr (Or.inl rfl)|exact Or.inr (Or.inr rfl))(hd:#[24]:=by decide)(hcd:#[20]:=by decide) :
 PE3 X H0 (.Name x pos) (v3 i):=by
 refine⟨fun ρ Q Q' h q=>?_,PE.imp (jx hN hv hd hcd) fun σ H Q=>el5 fun G0 ρ G F q=>?_⟩
 . obtain⟨c,e,q⟩:=ze8 q
   show atV ρ[i]? Q'
   rw [e];exact h c q
 obtain⟨c,e,q⟩:=ze8 q;obtain⟨v,h1,h2⟩:=F.slot i c e;exact⟨v,h1,q v G H (Gr.refl F.sub) h2⟩
theorem za3{v:V}{d:D}(h:PE X e (tC v))(r:∀ G,RdV X.K G v d)(hs:zw d=true):PE3 X H0 e (k3 d):=
 ⟨fun ρ Q Q' h q=>h _ q,PE.imp h fun σ H Q=>el5 fun G0 ρ G F q=>q v G H (Gr.refl F.sub) (.sh (.sc hs (r G)))⟩
theorem i3{i j pos}:PE3 X H0 (.Constant (.int i) j pos) (k3 (.int i)):=za3 jR (fun _=>.int i) rfl
theorem b3{i j pos}:PE3 X H0 (.Constant (.bool i) j pos) (k3 (.bool i)):=za3 zeU (fun _=>.bl i) rfl
theorem non3{j pos}:PE3 X H0 (.Constant .none j pos) (k3 .none):=za3 ziE (fun _=>.non) rfl
theorem s3{i j pos}:PE3 X H0 (.Constant (.str i) j pos) (k3 (.str i)):=za3 zeQ (fun _=>.str i) rfl
theorem g3{x:Str}{v:V}{u:Value}{d:D}(hg:Gl X x)(hm:X.mg x=some u)(r:RelV v u)(rd:∀ G,RdV X.K G v d)(hs:zw d=true)(hd:#[24]:=by decide):PE3 X H0 (.Name x pos) (k3 d):=za3 (zgo hg hm r hd) rd hs
def nw3(t:TN3):TE3:=fun ρ Q=>t ρ fun f ds=>Q (.sh f (.list ds))
theorem new3{t:TN3}(h:PN3 X H0 e t):PE3 X H0 e (nw3 t):=
 ⟨fun ρ Q Q' hq q=>h.mono ρ _ _ (fun f ds=>hq _) q,PE.imp h.ok fun σ H Q=>el5 fun G0 ρ G F q=>⟨G0,ρ,G,F,h.mono ρ _ _ (fun f ds k l vs G' H' g hl r=>
  k (.ref l) (upd G' l (.lst vs)) (upd H' l (.lst vs)) (g.trans (Gr.put g.sub hl)) (.sh ⟨.lst (SqL.of zf) (rdvs_same (zG (g.sub.free hl) _) r.rd),fun hf=>.lst zf ((F.keep.trans g.h).free hl) (rdns_mono (zG (g.sub.free hl) _) (fun _ _ _ z=>z) (r.nw hf))⟩)) q⟩⟩
abbrev R3:=Cl->Cl->(Bool->D->Prop)->Prop
def zaz(K:Ybf)(H0:Hp)(r:R3):R2:=fun x y H Q=>∃ G a b,Sub G H/\Vw K H0 G H x a/\Vw K H0 G H y b/\r a b fun f d=>∀ v G' H',Gr G H G' H'->Rf K H0 G' f v d->Q v H'
structure OpOk(X:Cx)(f:Value->Value->Sem Value)(r:R3):Prop where
 mono:∀ a b (Q Q':Bool->D->Prop),(∀ f c,Q f c->Q' f c)->r a b Q->r a b Q'
 ok:∀ H0,OpR X f (zaz X.K H0 r)
theorem OpR.imp{f:Value->Value->Sem Value}{r r':R2}(h:OpR X f r)(i:∀ x y H Q,r' x y H Q->r x y H Q):OpR X f r':=fun pins s σ H x y v u Q I rx ry q=>h pins s σ H x y v u Q I rx ry (i _ _ _ _ q)
def o3(r:R3)(ta tb:TE3):TE3:=fun ρ Q=>ta ρ fun a=>tb ρ fun b=>r a b fun f d=>Q (.sh f d)
theorem ZF{r:R3}{ta tb:TE3}(hr:∀ a b (Q Q':Bool->D->Prop),(∀ f c,Q f c->Q' f c)->r a b Q->r a b Q')(ha:∀ ρ (Q Q':Cl->Prop),(∀ c,Q c->Q' c)->ta ρ Q->ta ρ Q')(hb:∀ ρ (Q Q':Cl->Prop),(∀ c,Q c->Q' c)->tb ρ Q->tb ρ Q') :
 ∀ ρ (Q Q':Cl->Prop),(∀ c,Q c->Q' c)->o3 r ta tb ρ Q->o3 r ta tb ρ Q':=fun ρ Q Q' h q=>ha ρ _ _ (fun a=>hb ρ _ _ fun b=>hr a b _ _ fun f d=>h _) q
theorem zbN{r:R3}{ta tb:TE3}(hr:∀ a b (Q Q':Bool->D->Prop),(∀ f c,Q f c->Q' f c)->r a b Q->r a b Q')(ha:∀ ρ (Q Q':Cl->Prop),(∀ c,Q c->Q' c)->ta ρ Q->ta ρ Q')(hb:∀ ρ (Q Q':Cl->Prop),(∀ c,Q c->Q' c)->tb ρ Q->tb ρ Q'){K:Ybf} :
 ∀ σ H Q,jz K H0 (o3 r ta tb) σ H Q->tOp (zaz K H0 r) (jz K H0 ta) (jz K H0 tb) σ H Q:=fun σ H Q=>el5 fun G0 ρ G F q=>
 ⟨G0,ρ,G,F,ha ρ _ _ (fun a qa v1 G1 H1 g1 w1=>⟨G0,ρ,G1,F.gr g1,hb ρ _ _ (fun b qb v2 G2 H2 g2 w2=>⟨G2,a,b,g2.sub,w1.gr g2,w2,hr a b _ _ (fun f d k v G' H' g r=>k v G' H' ((g1.trans g2).trans g) (.sh r)) qb⟩) qa⟩) q⟩
theorem op3{op:Operator}{r:R3}{ta tb:TE3}(ho:OpOk X (binaryOp op) r)(ha:PE3 X H0 a ta)(hb:PE3 X H0 b tb):PE3 X H0 (.BinOp a op b pos) (o3 r ta tb):=
 ⟨ZF ho.mono ha.mono hb.mono,PE.imp (Jw (ho.ok H0) ha.ok hb.ok) (zbN ho.mono ha.mono hb.mono)⟩
theorem cmp3{op:CmpOp}{r:R3}{ta tb:TE3}(ho:OpOk X (compareOp op) r)(ha:PE3 X H0 a ta)(hb:PE3 X H0 b tb)(hm:behindInMarks op b=false):PE3 X H0 (.Compare a [op] [b] pos) (o3 r ta tb):=
 ⟨ZF ho.mono ha.mono hb.mono,PE.imp (zkX (ho.ok H0) ha.ok hb.ok hm) (zbN ho.mono ha.mono hb.mono)⟩
def tt3(t:TE3):TT3:=fun ρ Q=>t ρ fun c=>asB c Q
theorem zb4{K:Ybf}{H0 G H:Hp}{v:V}{f k:Bool}(w:Vw K H0 G H v (.sh f (.bool k))):v=.bl k:=by
 cases w with
 | sh r=>cases r.rd;rfl
theorem zds{t:TE3}{K:Ybf}(ht:∀ ρ (Q Q':Cl->Prop),(∀ c,Q c->Q' c)->t ρ Q->t ρ Q'):∀ σ H Q,Jq K H0 (tt3 t) σ H Q->zaL (jz K H0 t) σ H Q:=fun σ H Q=>el5 fun G0 ρ G F q=>
 ⟨G0,ρ,G,F,ht ρ _ _ (fun c q v G' H' g w=>by obtain⟨k,e,q⟩:=zeT q;subst e;exact⟨k,zb4 w,q G' H' g⟩) q⟩
theorem zbR{t:TE3}(ht:∀ ρ (Q Q':Cl->Prop),(∀ c,Q c->Q' c)->t ρ Q->t ρ Q'):∀ ρ (Q Q':Bool->Prop),(∀ c,Q c->Q' c)->tt3 t ρ Q->tt3 t ρ Q':=fun ρ Q Q' h q=>ht ρ _ _ (fun c q=>by obtain⟨k,e,q⟩:=zeT q;subst e;exact h k q) q
theorem zf5{t t':TE}(h:∀ σ H Q,t' σ H Q->t σ H Q):∀ σ H Q,zaL t' σ H Q->zaL t σ H Q:=fun σ H Q q=>h _ _ _ q
theorem zr{op:CmpOp}{r:R3}{ta tb:TE3}(ho:OpOk X (compareOp op) r)(ha:PE3 X H0 a ta)(hb:PE3 X H0 b tb)(hm:behindInMarks op b=false):PT3 X H0 (.Compare a [op] [b] pos) (tt3 (o3 r ta tb)):=
 ⟨zbR (ZF ho.mono ha.mono hb.mono),PT.imp (zbG (ho.ok H0) ha.ok hb.ok hm) fun σ H Q q=>zf5 (zbN ho.mono ha.mono hb.mono) σ H Q (zds (ZF ho.mono ha.mono hb.mono) σ H Q q)⟩
def ch3(r r':R3)(ta tb tc:TE3):TE3:=fun ρ Q=>ta ρ fun x=>tb ρ fun y=>r x y fun _ z=>∃ k,z=.bool k/\if k=true then tc ρ fun w=>r' y w fun f d=>Q (.sh f d) else Q (.sh true (.bool false))
theorem zec{K:Ybf}{G:Hp}{v:V}{k:Bool}(w:RdV K G v (.bool k)):v=.bl k:=by cases w;rfl
theorem zfT{r r':R3}{ta tb tc:TE3}(hr:∀ a b (Q Q':Bool->D->Prop),(∀ f c,Q f c->Q' f c)->r a b Q->r a b Q')(hr':∀ a b (Q Q':Bool->D->Prop),(∀ f c,Q f c->Q' f c)->r' a b Q->r' a b Q')(ha:∀ ρ (Q Q':Cl->Prop),(∀ c,Q c->Q' c)->ta ρ Q->ta ρ Q')(hb:∀ ρ (Q Q':Cl->Prop),(∀ c,Q c->Q' c)->tb ρ Q->tb ρ Q')
 (hc:∀ ρ (Q Q':Cl->Prop),(∀ c,Q c->Q' c)->tc ρ Q->tc ρ Q'):∀ ρ (Q Q':Cl->Prop),(∀ c,Q c->Q' c)->ch3 r r' ta tb tc ρ Q->ch3 r r' ta tb tc ρ Q':=fun ρ Q Q' h q=>ha ρ _ _ (fun x=>hb ρ _ _ fun y=>hr x y _ _ fun _ z ⟨k,e,q⟩=>⟨k,e,by
 cases k with
 | true=>exact hc ρ _ _ (fun w=>hr' y w _ _ fun f d=>h _) q
 | false=>exact h _ q⟩) q
theorem zjT{r r':R3}{ta tb tc:TE3}(hr:∀ a b (Q Q':Bool->D->Prop),(∀ f c,Q f c->Q' f c)->r a b Q->r a b Q')(hr':∀ a b (Q Q':Bool->D->Prop),(∀ f c,Q f c->Q' f c)->r' a b Q->r' a b Q')(ha:∀ ρ (Q Q':Cl->Prop),(∀ c,Q c->Q' c)->ta ρ Q->ta ρ Q')(hb:∀ ρ (Q Q':Cl->Prop),(∀ c,Q c->Q' c)->tb ρ Q->tb ρ Q')
 (hc:∀ ρ (Q Q':Cl->Prop),(∀ c,Q c->Q' c)->tc ρ Q->tc ρ Q') {K:Ybf}:∀ σ H Q,jz K H0 (ch3 r r' ta tb tc) σ H Q->zfh (zaz K H0 r) (zaz K H0 r') (jz K H0 ta) (jz K H0 tb) (jz K H0 tc) σ H Q:=fun σ H Q=>el5 fun G0 ρ G F q=>
 ⟨G0,ρ,G,F,ha ρ _ _ (fun x qx v1 G1 H1 g1 w1=>⟨G0,ρ,G1,F.gr g1,hb ρ _ _ (fun y qy v2 G2 H2 g2 w2=>⟨G2,x,y,g2.sub,w1.gr g2,w2,hr x y _ _ (fun _ z hyp v3 G3 H3 g3 r3=>by
  obtain⟨k,e,q⟩:=hyp;subst e;refine⟨k,zec r3.rd,?_⟩;cases k with
  | false=>exact q _ G3 H3 ((g1.trans g2).trans g3) (.sh (.sc rfl (.bl false)))
  | true=>exact⟨G0,ρ,G3,F.gr ((g1.trans g2).trans g3),hc ρ _ _ (fun w qw v4 G4 H4 g4 w4=>⟨G4,y,w,g4.sub,(w2.gr g3).gr g4,w4,hr' y w _ _ (fun f d k v G' H' g r=>k v G' H' ((((g1.trans g2).trans g3).trans g4).trans g) (.sh r)) qw⟩) q⟩) qy⟩) qx⟩) q⟩
theorem za2{op op':CmpOp}{r r':R3}{ta tb tc:TE3}(ho:OpOk X (compareOp op) r)(ho':OpOk X (compareOp op') r')(ha:PE3 X H0 a ta)(hb:PE3 X H0 b tb)(hc:PE3 X H0 c tc)(hm:lastMarks [op,op'] [b,c]=false:=by with_unfolding_all rfl) :
 PT3 X H0 (.Compare a [op,op'] [b,c] pos) (tt3 (ch3 r r' ta tb tc)):=
 ⟨zbR (zfT ho.mono ho'.mono ha.mono hb.mono hc.mono),PT.imp (zj4 (ho.ok H0) (ho'.ok H0) ha.ok hb.ok hc.ok hm) fun σ H Q q=>zf5 (zjT ho.mono ho'.mono ha.mono hb.mono hc.mono) σ H Q (zds (zfT ho.mono ho'.mono ha.mono hb.mono hc.mono) σ H Q q)⟩
abbrev U3:=Cl->(Bool->D->Prop)->Prop
def zlZ(K:Ybf)(H0:Hp)(r:U3):V->Hp->VK->Prop:=fun x H Q=>∃ G a,Sub G H/\Vw K H0 G H x a/\r a fun f d=>∀ v G' H',Gr G H G' H'->Rf K H0 G' f v d->Q v H'
structure UnOk(X:Cx)(f:Value->Sem Value)(r:U3):Prop where
 mono:∀ a (Q Q':Bool->D->Prop),(∀ f c,Q f c->Q' f c)->r a Q->r a Q'
 ok:∀ H0,UnR X f (zlZ X.K H0 r)
def u3(r:U3)(ta:TE3):TE3:=fun ρ Q=>ta ρ fun a=>r a fun f d=>Q (.sh f d)
theorem un3{op:UnaryOp}{r:U3}{ta:TE3}(ho:UnOk X (unaryOp op) r)(ha:PE3 X H0 a ta):PE3 X H0 (.UnaryOp op a pos) (u3 r ta):=
 ⟨fun ρ Q Q' h q=>ha.mono ρ _ _ (fun a=>ho.mono a _ _ fun f d=>h _) q,PE.imp (zhd (ho.ok H0) ha.ok) fun σ H Q=>el5 fun G0 ρ G F q=>
  ⟨G0,ρ,G,F,ha.mono ρ _ _ (fun a qa v1 G1 H1 g1 w1=>⟨G1,a,g1.sub,w1,ho.mono a _ _ (fun f d k v G' H' g r=>k v G' H' (g1.trans g) (.sh r)) qa⟩) q⟩⟩
theorem val3{t:TE3}(h:PE3 X H0 e t)(he:∀ whole,isTrue e X.env whole=(do let v <-whole;standAt e.pos;holding [v] (truthy v)):=by intro _;rfl):PT3 X H0 e (tt3 t):=
 ⟨zbR h.mono,PT.imp (zlS h.ok he) (zds h.mono)⟩
def and3(t u:TT3):TT3:=fun ρ Q=>t ρ fun k=>if k=true then u ρ Q else Q false
def or3(t u:TT3):TT3:=fun ρ Q=>t ρ fun k=>if k=true then Q true else u ρ Q
def not3(t:TT3):TT3:=fun ρ Q=>t ρ fun k=>Q (!k)
theorem Jc{t:TT3}(h:PT3 X H0 a t):PT3 X H0 (.UnaryOp .Not a pos) (not3 t):=
 ⟨fun ρ Q Q' hq q=>h.mono ρ _ _ (fun k=>hq _) q,PT.imp (zlV h.ok) fun σ H Q=>el5 fun G0 ρ G F q=>⟨G0,ρ,G,F,q⟩⟩
theorem J3{t:TT3}(h:PT3 X H0 a t):PW3 X H0 (.BoolOp .And [a] pos) t:=⟨h.mono,zgN h.ok⟩
theorem Zh{t:TT3}(h:PT3 X H0 a t):PW3 X H0 (.BoolOp .Or [a] pos) t:=⟨h.mono,zdY h.ok⟩
theorem JX{rest:List Expr}{t u:TT3}(h:PT3 X H0 a t)(h':PW3 X H0 (.BoolOp .And (b::rest) pos) u):PW3 X H0 (.BoolOp .And (a::b::rest) pos) (and3 t u):=
 ⟨fun ρ Q Q' hq q=>h.mono ρ _ _ (fun k=>by cases k;exact hq _;exact h'.mono ρ _ _ hq) q,PW.imp (zgI h.ok h'.ok) fun σ H Q=>el5 fun G0 ρ G F q=>⟨G0,ρ,G,F,h.mono ρ _ _ (fun k qk G1 H1 g1=>by
  cases k with
  | false=>exact qk G1 H1 g1
  | true=>exact⟨G0,ρ,G1,F.gr g1,h'.mono ρ _ _ (fun k q G2 H2 g2=>q G2 H2 (g1.trans g2)) qk⟩) q⟩⟩
theorem Zn{rest:List Expr}{t u:TT3}(h:PT3 X H0 a t)(h':PW3 X H0 (.BoolOp .Or (b::rest) pos) u):PW3 X H0 (.BoolOp .Or (a::b::rest) pos) (or3 t u):=
 ⟨fun ρ Q Q' hq q=>h.mono ρ _ _ (fun k=>by cases k;exact h'.mono ρ _ _ hq;exact hq _) q,PW.imp (zdW h.ok h'.ok) fun σ H Q=>el5 fun G0 ρ G F q=>⟨G0,ρ,G,F,h.mono ρ _ _ (fun k qk G1 H1 g1=>by
  cases k with
  | true=>exact qk G1 H1 g1
  | false=>exact⟨G0,ρ,G1,F.gr g1,h'.mono ρ _ _ (fun k q G2 H2 g2=>q G2 H2 (g1.trans g2)) qk⟩) q⟩⟩
theorem pw3{t:TT3}(h:PW3 X H0 e t):PT3 X H0 e t:=⟨h.mono,h.ok.pt⟩
def zaU(ta tb:TE3):TE3:=fun ρ Q=>ta ρ fun c=>∃ k,c=.sh true (.bool k)/\if k=true then tb ρ Q else Q (.sh true (.bool false))
def ZD(ta:TE3):TE3:=fun ρ Q=>ta ρ fun c=>∃ k,c=.sh true (.bool k)/\Q (.sh true (.bool (!k)))
theorem one3{op}{t:TE3}(h:PE3 X H0 a t):PE3 X H0 (.BoolOp op [a] pos) t:=⟨h.mono,zhq h.ok⟩
theorem zfe{rest:List Expr}{ta tb:TE3}(h:PE3 X H0 a ta)(h':PE3 X H0 (.BoolOp .And (b::rest) pos) tb):PE3 X H0 (.BoolOp .And (a::b::rest) pos) (zaU ta tb):=
 ⟨fun ρ Q Q' hq q=>h.mono ρ _ _ (fun c ⟨k,e,q⟩=>⟨k,e,by cases k;exact hq _ q;exact h'.mono ρ _ _ hq q⟩) q,PE.imp (zgy h.ok h'.ok) fun σ H Q=>el5 fun G0 ρ G F q=>⟨G0,ρ,G,F,h.mono ρ _ _ (fun c hyp v G1 H1 g1 w=>by
  obtain⟨k,e,qk⟩:=hyp;subst e;refine⟨k,zb4 w,?_⟩;cases k with
  | false=>exact qk _ G1 H1 g1 (.sh (.sc rfl (.bl false)))
  | true=>exact⟨G0,ρ,G1,F.gr g1,h'.mono ρ _ _ (fun k q v G2 H2 g2=>q v G2 H2 (g1.trans g2)) qk⟩) q⟩⟩
theorem zhf{ta:TE3}(h:PE3 X H0 a ta):PE3 X H0 (.UnaryOp .Not a pos) (ZD ta):=
 ⟨fun ρ Q Q' hq q=>h.mono ρ _ _ (fun c ⟨k,e,q⟩=>⟨k,e,hq _ q⟩) q,PE.imp (zg1 h.ok) fun σ H Q=>el5 fun G0 ρ G F q=>⟨G0,ρ,G,F,h.mono ρ _ _ (fun c hyp v G1 H1 g1 w=>by
  obtain⟨k,e,qk⟩:=hyp;subst e;exact⟨k,zb4 w,qk _ G1 H1 g1 (.sh (.sc rfl (.bl _)))⟩) q⟩⟩
def nil3:TA3:=fun _ Q=>Q []
def zap(ta:TE3)(tr:TA3):TA3:=fun ρ Q=>ta ρ fun c=>tr ρ fun cs=>Q (c::cs)
theorem zb:PA3 X H0 [] nil3:=⟨fun ρ Q Q' h q=>h _ q,PA.imp zK fun σ H Q=>el5 fun G0 ρ G F q=>q [] G H (Gr.refl F.sub) .nil⟩
theorem za{es:List Expr}{ta:TE3}{tr:TA3}(ha:PE3 X H0 e ta)(hr:PA3 X H0 es tr)(hs:#[14]:=by rfl):PA3 X H0 (e::es) (zap ta tr):=
 ⟨fun ρ Q Q' h q=>ha.mono ρ _ _ (fun c=>hr.mono ρ _ _ fun cs=>h _) q,PA.imp (zm ha.ok hr.ok hs) fun σ H Q=>el5 fun G0 ρ G F q=>
  ⟨G0,ρ,G,F,ha.mono ρ _ _ (fun c qc v G1 H1 g1 w1=>⟨G0,ρ,G1,F.gr g1,hr.mono ρ _ _ (fun cs k vs G2 H2 g2 w2=>k (v::vs) G2 H2 (g1.trans g2) (.cons (w1.gr g2) w2)) qc⟩) q⟩⟩
def tup3(t:TA3):TE3:=fun ρ Q=>t ρ fun cs=>optP (shs cs) fun p=>p.2.length<=sizeLine/\Q (.sh p.1 (.tuple p.2))
theorem z7{es:List Expr}{t:TA3}{x1}(h:PA3 X H0 es t):PE3 X H0 (.Tuple es x1 pos) (tup3 t):=
 ⟨fun ρ Q Q' hq q=>h.mono ρ _ _ (fun cs q=>by obtain⟨ds,e,z,q⟩:=zbg q;rw [e];exact⟨z,hq _ q⟩) q,PE.imp (zbq h.ok) fun σ H Q=>el5 fun G0 ρ G F q=>⟨G0,ρ,G,F,h.mono ρ _ _ (fun cs hyp vs G1 H1 g1 w=>by
  obtain⟨ds,e,z,k⟩:=zbg hyp;have r:=w.shs e;refine⟨by rw [r.length];exact z,fun p hp=>k (.ref p) (upd G1 p (.tup vs)) (upd H1 p (.tup vs)) (g1.trans (Gr.put g1.sub hp)) (.sh ⟨.tup (SqT.of zf) (rdvs_same (zG (g1.sub.free hp) _) r.rd),fun hf=>.tup zf (rdns_mono (zG (g1.sub.free hp) _) (fun _ _ _ z=>z) (r.nw hf))⟩)⟩) q⟩⟩
def lst3(t:TA3):TN3:=fun ρ Q=>t ρ fun cs=>optP (shs cs) fun p=>p.2.length<=sizeLine/\Q p.1 p.2
theorem jd{es:List Expr}{t:TA3}(h:PA3 X H0 es t):PN3 X H0 (.List es pos) (lst3 t):=
 ⟨fun ρ Q Q' hq q=>h.mono ρ _ _ (fun cs q=>by obtain⟨ds,e,z,q⟩:=zbg q;rw [e];exact⟨z,hq _ _ q⟩) q,PE.imp (zbT h.ok) fun σ H Q=>el5 fun G0 ρ G F q=>⟨G0,ρ,G,F,h.mono ρ _ _ (fun cs hyp vs G1 H1 g1 w=>by
  obtain⟨ds,e,z,k⟩:=zbg hyp;have r:=w.shs e;exact⟨by rw [r.length];exact z,fun p hp=>k p vs G1 H1 g1 hp r⟩) q⟩⟩
abbrev C3:=List Cl->(Bool->D->Prop)->Prop
def zit(K:Ybf)(H0:Hp)(r:C3):List V->Hp->VK->Prop:=fun xs H Q=>∃ G cs,Sub G H/\Vws K H0 G H xs cs/\r cs fun f d=>∀ v G' H',Gr G H G' H'->Rf K H0 G' f v d->Q v H'
structure CallOk(X:Cx)(f:Value)(r:C3):Prop where
 mono:∀ cs (Q Q':Bool->D->Prop),(∀ f c,Q f c->Q' f c)->r cs Q->r cs Q'
 ok:∀ H0,zO X f (zit X.K H0 r)
theorem zO.imp{f:Value}{r r':List V->Hp->VK->Prop}(h:zO X f r)(i:∀ xs H Q,r' xs H Q->r xs H Q):zO X f r':=fun pins s σ H xs us Q I rv q=>h pins s σ H xs us Q I rv (i _ _ _ q)
def cb3(r:C3)(t:TA3):TE3:=fun ρ Q=>t ρ fun cs=>r cs fun f d=>Q (.sh f d)
variable{x:Str}{p:Pos}{es:List Expr}{id T:String}
theorem zp{r:C3}{t:TA3}(hc:CallOk X (.builtin id) r)(hg:Gl X x)(hm:X.mg x=none)(hv:bootBuiltins x=some (.builtin id))(ha:PA3 X H0 (e::es) t)(hn:x≠"__name__":=by decide)(hdb:#[24]:=by decide)
 (he:#[14]:=by rfl) (hpl:(backTo pos (starEach es X.env)).any (·.1)=false:=by rfl):PE3 X H0 #[23] (cb3 r t):=
 ⟨fun ρ Q Q' h q=>ha.mono ρ _ _ (fun cs=>hc.mono cs _ _ fun f d=>h _) q,PE.imp (JR (hc.ok H0) hg hm hv ha.ok hn hdb he hpl) fun σ H Q=>el5 fun G0 ρ G F q=>⟨G0,ρ,G,F,ha.mono ρ _ _ (fun cs qc vs G1 H1 g1 w=>⟨G1,cs,g1.sub,w,hc.mono cs _ _ (fun f d k v G' H' g r=>k v G' H' (g1.trans g) (.sh r)) qc⟩) q⟩⟩
theorem zjh{r:C3}{t:TA3}(hc:CallOk X (.type T) r)(hg:Gl X x)(hm:X.mg x=none)(hv:bootBuiltins x=some (.type T))(ha:PA3 X H0 (e::es) t)(hn:x≠"__name__":=by decide)(hdb:#[24]:=by decide)
 (he:#[14]:=by rfl) (hpl:(backTo pos (starEach es X.env)).any (·.1)=false:=by rfl):PE3 X H0 #[23] (cb3 r t):=
 ⟨fun ρ Q Q' h q=>ha.mono ρ _ _ (fun cs=>hc.mono cs _ _ fun f d=>h _) q,PE.imp (zfv (hc.ok H0) hg hm hv ha.ok hn hdb he hpl) fun σ H Q=>el5 fun G0 ρ G F q=>⟨G0,ρ,G,F,ha.mono ρ _ _ (fun cs qc vs G1 H1 g1 w=>⟨G1,cs,g1.sub,w,hc.mono cs _ _ (fun f d k v G' H' g r=>k v G' H' (g1.trans g) (.sh r)) qc⟩) q⟩⟩
abbrev Sp3:=List D->(Bool->D->Prop)->(Addr->Prop)->Prop
def spL(K:Ybf)(sp:Sp3):Sp:=fun vs H Q E=>∃ G ds,Sub G H/\RdVs K G vs ds/\sp ds (fun f d=>∀ v G' H',Gr G H G' H'->Rf K H G' f v d->Q v H') fun C=>∀ H',zi H H'->E (.ref C) none H'
theorem zfB{K:Ybf}{G G':Hp}{v:V}{d:D}(h:zw d=true)(r:RdV K G v d):RdV K G' v d:=by
 cases r with
 | non=>exact .non
 | bl b=>exact .bl b
 | int i=>exact .int i
 | str s=>exact .str s
 | lst _ _=>cases h
 | tup _ _=>cases h
structure Df3(P:Program)(w:World)(K:Ybf)(mg:#[15])(base:Heap)(k:Nat)(x:Str)(ps:List Str)(sp:Sp3):Prop where
 mono:∀ ds (Q Q':Bool->D->Prop) (E E':Addr->Prop),(∀ f d,Q f d->Q' f d)->(∀ d,E d->E' d)->sp ds Q E->sp ds Q' E'
 ok:Df P w K mg base k x ps (spL K sp)
def Zu(sp:Sp3)(E:Addr->Prop)(t:TA3):TE3:=fun ρ Q=>t ρ fun cs=>cs.all Cl.dat=true/\sp (cs.map Cl.d) (fun f d=>((shs cs).isSome=true\/zw d=true)/\Q (.sh f d)) E
theorem zdl:∀ {cs:List Cl} {p:Bool×List D},shs cs=some p->cs.map Cl.d=p.2
 | [],_,e=>by cases e;rfl
 | .sh _ d :: r, ds, e => by
  unfold shs at e;cases q:shs r with
  | none=>rw [q] at e;cases e
  | some es=>rw [q] at e;cases e;rw [Ya1,zdl q];rfl
 | .ow _ _::r,_,e=>by cases e
 | .tr _ _::r,_,e=>by cases e
 | .dt _::r,_,e=>by cases e
 | .dk _::r,_,e=>by cases e
 | .fd _::r,_,e=>by cases e
 | .tk _::r,_,e=>by cases e
 | .dm _ _::r,_,e=>by cases e
 | .ex _::r,_,e=>by cases e
theorem df3{k:Nat}{ps:List Str}{sp:Sp3}{E:XK}{E3:Addr->Prop}{t:TA3}(hE:∀ C H',E3 C->zi H0 H'->E (.ref C) none H')(Gd:Df3 X.prog X.w X.K X.mg X.base k x ps sp)(hr:Room k X.A)(hg:Gl X x)(hx:Passes (CXR X.prog X.w) X E)(ha:PA3 X H0 (e::es) t)(hdb:#[24]:=by decide)
 (he:#[14]:=by rfl) (hpl:(backTo pos (starEach es X.env)).any (·.1)=false:=by rfl):PE3 X H0 #[23] (Zu sp E3 t):=by
 refine⟨fun ρ Q Q' h q=>ha.mono ρ _ _ (fun cs ⟨hd,q⟩=>⟨hd,Gd.mono _ _ _ _ _ (fun f d ⟨a,b⟩=>⟨a,h _ b⟩) (fun _ z=>z) q⟩) q,PE.imp (jG Gd.ok hr hg hx ha.ok hdb he hpl) fun σ H Q=>el5 fun G0 ρ G F q=>⟨G0,ρ,G,F,ha.mono ρ _ _ (fun cs ⟨hd,qc⟩ vs G1 H1 g1 w=>?_) q⟩⟩
 show spL X.K sp (vs++[]) H1 Q E
 rw [Yao];have kE:∀ C,E3 C->∀ H',zi H1 H'->E (.ref C) none H':=fun C c H' s=>hE C H' c ((F.gr g1).keep.trans s)
 cases hs:shs cs with
 | some ds=>
  refine⟨G1,cs.map Cl.d,g1.sub,by rw [zdl hs];exact(w.shs hs).rd,Gd.mono _ _ _ _ _ (fun f d ⟨_,k⟩ v G' H' g r=>k v G' H' (g1.trans g) (.sh ⟨r.rd,fun hf=>jX (Same.refl _) (fun _ _ _ z=>(F.gr g1).keep.free z) (r.nw hf)⟩)) kE qc⟩
 | none=>
  refine⟨cln H1,cs.map Cl.d,zf8 H1,rdvs_cln (w.rds g1.sub hd),Gd.mono _ _ _ _ _ (fun f d ⟨s,k⟩ v G' H' g r=>?_) kE qc⟩
  have sc:zw d=true:=s.resolve_left (by rw [hs];simp)
  exact k v G1 H' (g1.trans ⟨Same.refl _,g.h,g1.sub.trans g.h,fun _ _ e=>.inl e⟩) (.sh (.sc sc (zfB sc r.rd)))
end
variable[LamW]
theorem zhN{K:Ybf}{G:Hp}{vs:List V}{d:D}{ds:List D}(r:RdVs K G vs (d::ds)):∃ v us,vs=v::us/\RdV K G v d/\RdVs K G us ds:=by
 cases r with
 | cons a b=>exact⟨_,_,rfl,a,b⟩
theorem zik{K:Ybf}{G:Hp}{v:V}{ds:List D}(r:RdV K G v (.tuple ds)):∃ a xs,v=.ref a/\SqT K G a xs/\RdVs K G xs ds:=by
 cases r with
 | tup a b=>exact⟨_,_,rfl,a,b⟩
theorem zl1{K:Ybf}{G:Hp}{v:V}{ds:List D}(r:RdV K G v (.list ds)):∃ a xs,v=.ref a/\SqL K G a xs/\RdVs K G xs ds:=by
 cases r with
 | lst a b=>exact⟨_,_,rfl,a,b⟩
theorem zn{K:Ybf}{H0 G H:Hp}{v:V}{f:Bool}{d:D}(w:Vw K H0 G H v (.sh f d)):Rf K H0 G f v d:=by
 cases w with
 | sh r=>exact r
theorem zgE{K:Ybf}{H0 G:Hp}{f:Bool}{vs:List V}{d:D}{ds:List D}(r:Rfs K H0 G f vs (d::ds)):∃ v us,vs=v::us/\Rf K H0 G f v d/\Rfs K H0 G f us ds:=by
 obtain⟨v,us,rfl,a,b⟩:=zhN r.rd;exact⟨v,us,rfl,⟨a,fun h=>by cases r.nw h with|cons x y=>exact x⟩,⟨b,fun h=>by cases r.nw h with|cons x y=>exact y⟩⟩
theorem zbx{K:Ybf}{H0 G:Hp}{f:Bool}{v:V}{ds:List D}(r:Rf K H0 G f v (.tuple ds)):∃ a xs,v=.ref a/\SqT K G a xs/\Rfs K H0 G f xs ds:=by
 cases f with
 | false=>
  obtain⟨a,xs,rfl,h,rs⟩:=zik r.rd;exact⟨a,xs,rfl,h,rs,fun h=>by cases h⟩
 | true=>
  have n:=r.nw rfl;cases n with
  | tup h rs=>exact⟨_,_,rfl,SqT.of h,rdns_rd rs,fun _=>rs⟩
theorem JP{K:Ybf}{H0 G:Hp}{f:Bool}{v:V}{ds:List D}(r:Rf K H0 G f v (.list ds)):∃ a xs,v=.ref a/\SqL K G a xs/\Rfs K H0 G f xs ds:=by
 cases f with
 | false=>
  obtain⟨a,xs,rfl,h,rs⟩:=zl1 r.rd;exact⟨a,xs,rfl,h,rs,fun h=>by cases h⟩
 | true=>
  have n:=r.nw rfl;cases n with
  | lst h _ rs=>exact⟨_,_,rfl,SqL.of h,rdns_rd rs,fun _=>rs⟩
section
variable{X:Cx}{H0:Hp}{e a b c:Expr}{pos:Pos}{st:Stmt}{rest:List Stmt}
def next3:TS3:=fun A ρ=>A.nx ρ
def seq3(t u:TS3):TS3:=fun A ρ=>t { A with nx:=u A } ρ
theorem zx:PSs3 X H0 [] next3:=PSs.imp zeP fun B σ H=>el7 fun G0 A ρ G F q L=>L.nx ρ σ G H F q
theorem zd{t u:TS3}(h1:PS3 X H0 st t)(h2:PSs3 X H0 rest u):PSs3 X H0 (st::rest) (seq3 t u):=PSs.imp (zM h1 h2) fun B σ H=>el7 fun G0 A ρ G F q L=>
 ⟨G0,{ A with nx:=u A },ρ,G,F,q,⟨fun ρ' σ' G' H' F' q'=>⟨G0,A,ρ',G',F',q',L⟩,L.rt,L.bk,L.ct,L.rm⟩⟩
theorem ze{t:TS3}(h1:PS3 X H0 st t):PSs3 X H0 [st] t:=jk h1
def brk3:TS3:=fun A ρ=>A.bk ρ
theorem zja:PS3 X H0 (.Break pos) brk3:=PS.imp ziH fun B σ H=>el7 fun G0 A ρ G F q L=>L.bk ρ σ G H F q
def za8(te:TE3):TS3:=fun A ρ=>te ρ fun _=>A.nx ρ
theorem Zp{te:TE3}(he:PE3 X H0 e te)(hs:swapsWith e none pos.line X.env=pure false:=by rfl):PS3 X H0 (.Expr e pos) (za8 te):=PS.imp (jZ he.ok hs) fun B σ H=>el7 fun G0 A ρ G F q L=>
 ⟨G0,ρ,G,F,he.mono ρ _ _ (fun c q v G' H' g w=>L.nx ρ σ G' H' (F.gr g) q) q⟩
def ret3(te:TE3):TS3:=fun A ρ=>te ρ fun c=>asS c A.rt
theorem zt{te:TE3}(he:PE3 X H0 e te):PS3 X H0 (.Return (some e) pos) (ret3 te):=PS.imp (JO he.ok) fun B σ H=>el7 fun G0 A ρ G F q L=>
 ⟨G0,ρ,G,F,he.mono ρ _ _ (fun c hyp v G' H' g w=>by
  obtain⟨f,d,hc,q⟩:=Jt hyp;subst hc;exact L.rt f d v G' H' (F.gr g).gr0 (zn w) q) q⟩
def ifS3(t:TT3)(u v:TS3):TS3:=fun A ρ=>t ρ fun k=>if k=true then u A ρ else v A ρ
theorem s_if{xs ys:List Stmt}{t:TT3}{u v:TS3}(hc:PT3 X H0 c t)(ha:PSs3 X H0 xs u)(hb:PSs3 X H0 ys v):PS3 X H0 (.If c xs ys pos) (ifS3 t u v):=PS.imp (zdU hc.ok ha hb) fun B σ H=>el7 fun G0 A ρ G F q L=>
 ⟨G0,ρ,G,F,hc.mono ρ _ _ (fun k q G' H' g=>by
  cases k with
  | true=>exact⟨G0,A,ρ,G',F.gr g,q,L⟩
  | false=>exact⟨G0,A,ρ,G',F.gr g,q,L⟩) q⟩
def set3(i:Nat)(te:TE3):TS3:=fun A ρ=>te ρ fun c=>asS c fun f d=>A.nx (ρ.set i (some (.sh f d)))
theorem zj{i:Nat}{x:Str}{te:TE3}{pos':Pos}(hN:X.N.Nodup)(hi:X.N[i]?=some x)(hx:Loc X.env.scope x)(he:PE3 X H0 e te)(hs:swapsWith e (some (.Name x pos')) pos.line X.env=pure false:=by rfl)
 (hf:#[19]:=by first|exact .inl rfl|exact .inr rfl|assumption):PS3 X H0 (.Assign [.Name x pos'] e pos) (set3 i te):=PS.imp (jh hN hi hx he.ok hs hf) fun B σ H=>el7 fun G0 A ρ G F q L=>
 ⟨G0,ρ,G,F,he.mono ρ _ _ (fun c hyp v G' H' g w=>by
  obtain⟨f,d,hc,q⟩:=Jt hyp;subst hc;exact L.nx _ _ G' H' ((F.gr g).set (zn w)) q) q⟩
def own3(i:Nat)(tn:TN3):TS3:=fun A ρ=>tn ρ fun f ds=>A.nx (ρ.set i (some (.ow f ds)))
theorem jo{i:Nat}{x:Str}{tn:TN3}{pos':Pos}(hN:X.N.Nodup)(hi:X.N[i]?=some x)(hx:Loc X.env.scope x)(he:PN3 X H0 e tn)(hs:swapsWith e (some (.Name x pos')) pos.line X.env=pure false:=by rfl)
 (hf:#[19]:=by first|exact .inl rfl|exact .inr rfl|assumption):PS3 X H0 (.Assign [.Name x pos'] e pos) (own3 i tn):=PS.imp (jh hN hi hx he.ok hs hf) fun B σ H=>el7 fun G0 A ρ G F q L=>
 ⟨G0,ρ,G,F,he.mono ρ _ _ (fun f ds q l vs G' H' g hl r=>L.nx _ _ G' _ ((F.gr g).own r hl) q) q⟩
abbrev TG3:=Bool->D->Env3->(Env3->Prop)->Prop
abbrev TGs3:=Bool->List D->Env3->(Env3->Prop)->Prop
def J7(K:Ybf)(H0:Hp)(g:TG3):TG:=fun v σ H Q=>∃ G0 ρ G f d,Fr3 K H0 G0 ρ σ G H/\Rf K H0 G f v d/\g f d ρ fun ρ'=>∀ σ' G' H',Fr3 K H0 G0 ρ' σ' G' H'->Same G G'->Gr G H G' H'->Q σ' H'
def zlm(K:Ybf)(H0:Hp)(g:TGs3):TGs:=fun vs σ H Q=>∃ G0 ρ G f ds,Fr3 K H0 G0 ρ σ G H/\Rfs K H0 G f vs ds/\g f ds ρ fun ρ'=>∀ σ' G' H',Fr3 K H0 G0 ρ' σ' G' H'->Same G G'->Gr G H G' H'->Q σ' H'
structure PG3(X:Cx)(H0:Hp)(tg:Expr)(g:TG3):Prop where
 mono:∀ f d ρ (Q Q':Env3->Prop),(∀ c,Q c->Q' c)->g f d ρ Q->g f d ρ Q'
 ok:PG X tg (J7 X.K H0 g)
structure PGs3(X:Cx)(H0:Hp)(tg:List Expr)(g:TGs3):Prop where
 mono:∀ f d ρ (Q Q':Env3->Prop),(∀ c,Q c->Q' c)->g f d ρ Q->g f d ρ Q'
 ok:PGs X tg (zlm X.K H0 g)
theorem PG.imp{tg:Expr}{t t':TG}(h:PG X tg t)(i:∀ v σ H Q,t' v σ H Q->t v σ H Q):PG X tg t':=fun pins s σ H v u Q I r q=>h pins s σ H v u Q I r (i _ _ _ _ q)
theorem PGs.imp{tg:List Expr}{t t':TGs}(h:PGs X tg t)(i:∀ v σ H Q,t' v σ H Q->t v σ H Q):PGs X tg t':=fun pins s σ H v u Q I r q=>h pins s σ H v u Q I r (i _ _ _ _ q)
def gn3(i:Nat):TG3:=fun f d ρ Q=>Q (ρ.set i (some (.sh (f||zw d) d)))
theorem zl{i:Nat}{x:Str}(hN:X.N.Nodup)(hi:X.N[i]?=some x)(hx:Loc X.env.scope x)(hf:#[19]:=by first|exact .inl rfl|exact .inr rfl|assumption):PG3 X H0 (.Name x pos) (gn3 i):=
 ⟨fun f d ρ Q Q' h q=>h _ q,PG.imp (jp hN hi hx hf) fun v σ H Q ⟨G0,ρ,G,f,d,F,r,q⟩=>q _ G H (F.set r.or) (Same.refl _) (Gr.refl F.sub)⟩
def gnil3:TGs3:=fun _ ds ρ Q=>nilP ds (Q ρ)
def ZE(t:TG3)(u:TGs3):TGs3:=fun f ds ρ Q=>Zo ds fun d r=>t f d ρ fun ρ'=>u f r ρ' Q
theorem jb:PGs3 X H0 [] gnil3:=
 ⟨fun f d ρ Q Q' h q=>by obtain⟨e,q⟩:=zef q;subst e;exact h _ q,PGs.imp zb1 fun vs σ H Q hyp=>by
  obtain⟨G0,ρ,G,f,ds,F,r,q⟩:=hyp;obtain⟨e,q⟩:=zef q;subst e;cases r.rd;exact⟨rfl,q σ G H F (Same.refl _) (Gr.refl F.sub)⟩⟩
theorem zy{es:List Expr}{t:TG3}{u:TGs3}(h1:PG3 X H0 e t)(h2:PGs3 X H0 es u)(hs:(assignEach (e::es) X.env).map (·.2)=assign e X.env::(assignEach es X.env).map (·.2):=by rfl):PGs3 X H0 (e::es) (ZE t u):=
 ⟨fun f d ρ Q Q' h q=>by obtain⟨x,r,e,q⟩:=zfx q;subst e;exact h1.mono f x ρ _ _ (fun ρ'=>h2.mono f r ρ' _ _ h) q,PGs.imp (JH h1.ok h2.ok hs) fun vs σ H Q hyp=>by
  obtain⟨G0,ρ,G,f,ds,F,r,q⟩:=hyp;obtain⟨x,y,e,q⟩:=zfx q;subst e;obtain⟨v,us,rfl,r1,r2⟩:=zgE r;exact⟨v,us,rfl,G0,ρ,G,f,x,F,r1,h1.mono f x ρ _ _ (fun ρ' q σ1 G1 H1 F1 s1 g1=>⟨G0,ρ',G1,f,y,F1,r2.same s1,h2.mono f y ρ' _ _ (fun ρ2 q σ2 G2 H2 F2 s2 g2=>q σ2 G2 H2 F2 (s1.trans s2) (g1.trans g2)) q⟩) q⟩⟩
def zaV(n:Nat)(t:TGs3):TG3:=fun f d ρ Q=>asT d fun ds=>ds.length=n/\t f ds ρ Q
theorem jf{es:List Expr}{k:Nat}{t:TGs3}{n:Nat}(hc:X.calm=true)(h:PGs3 X H0 es t)(hn:(assignEach es X.env).length=n:=by rfl)(hst:(assignEach es X.env).findIdx? (·.1)=none:=by rfl):PG3 X H0 (.Tuple es k pos) (zaV n t):=
 ⟨fun f d ρ Q Q' hq q=>by obtain⟨ds,e,l,q'⟩:=zby q;subst e;exact⟨l,h.mono f ds ρ _ _ hq q'⟩,PG.imp (zbH hc h.ok hn hst) fun v σ H Q hyp=>by
  obtain⟨G0,ρ,G,f,d,F,r,q⟩:=hyp;obtain⟨ds,e,l,q'⟩:=zby q;subst e;obtain⟨a,xs,rfl,hq,rs⟩:=zbx r;exact⟨a,xs,rfl,F.sub.tup hq,by rw [rs.length];exact l,G0,ρ,G,f,ds,F,rs,q'⟩⟩
def asg3(te:TE3)(g:TG3):TS3:=fun A ρ=>te ρ fun c=>asS c fun f d=>g f d ρ A.nx
theorem zcl{tg:Expr}{te:TE3}{g:TG3}(he:PE3 X H0 e te)(hg:PG3 X H0 tg g)(hs:swapsWithSole [tg] e pos.line X.env=pure false:=by rfl)(hw:swappedStores [tg] e X.env=pure none:=by rfl)
 (h1:(assignEach [tg] X.env).map (·.2)=[assign tg X.env]:=by rfl):PS3 X H0 (.Assign [tg] e pos) (asg3 te g):=PS.imp (zco he.ok hg.ok hs hw h1) fun B σ H=>el7 fun G0 A ρ G F q L=>
 ⟨G0,ρ,G,F,he.mono ρ _ _ (fun c hyp v G' H' g' w=>by
  obtain⟨f,d,hc,q⟩:=Jt hyp;subst hc;exact⟨G0,ρ,G',f,d,F.gr g',zn w,hg.mono f d ρ _ _ (fun ρ2 q σ2 G2 H2 F2 _ _=>L.nx ρ2 σ2 G2 H2 F2 q) q⟩) q⟩
theorem zcA{K:Ybf}{G0:Hp}{ρ : Env3}{σ : L2.St}{G H:Hp}{i:Nat}{f:Bool}{ds:List D}(F:#[18])(h:ρ[i]?=some (some (.ow f ds))):∃ l vs,σ[i]?=some (some (.ref l))/\H l=some (.lst vs)/\Rfs K H0 G f vs ds:=by
 obtain⟨v,h1,h2⟩:=F.slot i _ h;cases h2 with
 | ow hh r n=>exact⟨_,_,h1,hh,r⟩
def app3(i:Nat)(te:TE3):TS3:=fun A ρ=>atO ρ[i]? fun f ds=>te ρ fun c=>asS c fun g d=>ds.length<sizeLine/\A.nx (ρ.set i (some (.ow (f&&g) (ds++[d]))))
theorem jH{i:Nat}{te:TE3}{x:Str}{np apos cpos:Pos}(hN:X.N[i]?=some x)(hv:Vis X.env.scope x)(he:PE3 X H0 e te)(hd:#[24]:=by decide)(hcd:#[20]:=by decide)
 (hb:attributeBase (.Name x np) "append" X.env (eval (.Name x np) X.env)=eval (.Name x np) X.env:=by rfl)
 (hf:((backTo cpos (starEach [e] X.env)).all (fun x=>!x.1)&&(backToKw cpos (keywordEach [] X.env)).all (fun x=>x.1.isSome)&&decide ([e].length+([]:List Keyword).length+(if([]:List Keyword).isEmpty then 0 else 1)<30))=true:=by rfl)
 (hl:(apos.endLine==cpos.line)=true:=by rfl) (hs:starEach [e] X.env=(false,eval e X.env)::starEach [] X.env:=by rfl) (hp:(backTo cpos (starEach [] X.env)).any (·.1)=false:=by rfl)
 (hw:swapsWith (.Call (.Attribute (.Name x np) "append" apos) [e] [] cpos) none pos.line X.env=pure false:=by rfl):PS3 X H0 (.Expr (.Call (.Attribute (.Name x np) "append" apos) [e] [] cpos) pos) (app3 i te):=by
 refine PS.imp (jZ (zc4 (jx hN hv hd hcd) (zm he.ok zK hs) hb hf hl hs hp) hw) fun B σ H hyp=>?_
 obtain⟨G0,A,ρ,G,F,q,L⟩:=hyp;obtain⟨f,ds,hi,q⟩:=zfD q;obtain⟨l,vs,h1,h2,r⟩:=zcA F hi;refine⟨.ref l,h1,zdm h2,G0,ρ,G,F,he.mono ρ _ _ (fun c q v G' H' g w=>?_) q⟩
 obtain⟨f',d,hc,hz,q'⟩:=Jt q;subst hc;exact⟨l,vs,v,rfl,rfl,g.h.at h2,by rw [r.length];exact hz,L.nx _ _ _ _ ((F.gr g).change hi h1 ((r.same g.g).snoc (zn w))) q'⟩
def put3(i:Nat)(tk te:TE3):TS3:=fun A ρ=>atO ρ[i]? fun f ds=>te ρ fun c=>tk ρ fun k=>asS c fun g d=>asI k fun n=>∃ j,ixN ds.length n=some j/\A.nx (ρ.set i (some (.ow (f&&g) (ds.set j d))))
theorem zao{i:Nat}{tk te:TE3}{x:Str}{np spos:Pos}{k:Expr}(hN:X.N[i]?=some x)(hv:Vis X.env.scope x)(hk:PE3 X H0 k tk)(he:PE3 X H0 e te)(hd:#[24]:=by decide)(hcd:#[20]:=by decide)
 (hs:swapsWithSole [.Subscript (.Name x np) k spos] e pos.line X.env=pure false:=by rfl) (hw:swappedStores [.Subscript (.Name x np) k spos] e X.env=pure none:=by rfl)
 (h1:(assignEach [.Subscript (.Name x np) k spos] X.env).map (·.2)=[assign (.Subscript (.Name x np) k spos) X.env]:=by rfl)
 (ha:∀ v,assign (.Subscript (.Name x np) k spos) X.env v=(do
  let ov <-holding [v] (eval (.Name x np) X.env)
  let iv <-holding [v,ov] (eval k X.env)
  standAt spos
  holding [v,ov,iv] (setItem ov iv v)
  release [v,ov,iv] []):=by intro _;rfl):PS3 X H0 (.Assign [.Subscript (.Name x np) k spos] e pos) (put3 i tk te):=by
 refine PS.imp (zco he.ok (zfR (jx hN hv hd hcd) hk.ok ZO ha) hs hw h1) fun B σ H hyp=>?_
 obtain⟨G0,A,ρ,G,F,q,L⟩:=hyp;obtain⟨f,ds,hi,q⟩:=zfD q;refine⟨G0,ρ,G,F,he.mono ρ _ _ (fun c qc v G1 H1 g1 w1=>?_) q⟩
 obtain⟨l,vs,h1,h2,r⟩:=zcA F hi;refine⟨.ref l,h1,G0,ρ,G1,F.gr g1,hk.mono ρ _ _ (fun kc q kv G2 H2 g2 w2=>?_) qc⟩
 obtain⟨f',d,hc,q1⟩:=Jt q;obtain⟨n,hn,j,hj,q'⟩:=jN q1;subst hc hn;have rk:=(zn w2).rd;cases rk;refine⟨l,vs,n,j,rfl,rfl,g2.h.at (g1.h.at h2),by rw [r.length];exact hj,L.nx _ _ _ _ (((F.gr g1).gr g2).change hi h1 ((r.same (g1.g.trans g2.g)).set ((zn w1).same g2.g) j)) q'⟩
def frz1(i:Nat)(ρ : Env3):Env3:=match ρ[i]? with
 | some (some (.ow f ds))=>ρ.set i (some (.sh f (.list ds)))
 | some (some (.tr _ ms))=>ρ.set i (some (.sh true (.list (ms.map PyData.list))))
 | _=>ρ
def frz:List Nat->Env3->Env3
 | [],ρ=>ρ
 | i::r,ρ=>frz r (frz1 i ρ)
theorem Fr3.frz1{K:Ybf}{G0:Hp}{ρ : Env3}{σ : L2.St}{G H:Hp}(F:#[18])(i:Nat):∃ G',Same G G'/\Fr3 K H0 G0 (L3.frz1 i ρ) σ G' H:=by
 unfold L3.frz1
 split
 . rename_i f ds h;exact F.freeze h
 . rename_i ps ms h;exact F.freezeT h
 . exact⟨G,Same.refl _,F⟩
theorem Fr3.frz{K:Ybf}{G0:Hp}{σ : L2.St}{H:Hp}:∀ (is:List Nat) {ρ : Env3} {G:Hp},Fr3 K H0 G0 ρ σ G H->∃ G',Same G G'/\Fr3 K H0 G0 (L3.frz is ρ) σ G' H
 | [],ρ,G,F=>⟨G,Same.refl _,F⟩
 | i :: r, ρ, G, F => by
  obtain⟨G1,s1,F1⟩:=F.frz1 i;obtain⟨G2,s2,F2⟩:=Fr3.frz r F1;exact⟨G2,s1.trans s2,F2⟩
def frzS(is:List Nat)(t:TS3):TS3:=fun A ρ=>t A (frz is ρ)
theorem jA(is:List Nat){t:TS3}(h:PS3 X H0 st t):PS3 X H0 st (frzS is t):=PS.imp h fun B σ H=>el7 fun G0 A ρ G F q L=>by
 obtain⟨G',s',F'⟩:=F.frz is;exact⟨G0,A,frz is ρ,G',F',q,L⟩
def whN(c:TT3)(tb:TS3)(A:Ends3):Nat->Env3->Prop
 | 0,_=>False
 | n+1,ρ=>c ρ fun k=>if k=true then tb { A with nx:=whN c tb A n,ct:=whN c tb A n,bk:=A.nx } ρ else A.nx ρ
def zjs(c:TT3)(tb:TS3):TS3:=fun A ρ=>∃ n,whN c tb A n ρ
theorem JB{body:List Stmt}{tc:TT3}{tb:TS3}(hp:PassesOwn #[12] X.A X.env X.xe)(hc:PT3 X H0 c tc)(hb:PSs3 X H0 body tb):PS3 X H0 (.While c body [] pos) (zjs tc tb):=PS.imp (zcz hp hc.ok hb) fun B σ H hyp=>by
 obtain⟨G0,A,ρ,G,F,⟨n,q⟩,L⟩:=hyp;refine⟨fun m σ' H'=>∃ ρ' G',Fr3 X.K H0 G0 ρ' σ' G' H'/\whN tc tb A m ρ',⟨n,ρ,G,F,q⟩,?_⟩
 rintro m σ' H' ⟨ρ',G',F',q'⟩
 cases m with
 | zero=>exact q'.elim
 | succ m=>
  refine⟨G0,ρ',G',F',hc.mono ρ' _ _ (fun k q G2 H2 g=>?_) q'⟩
  cases k with
  | false=>exact L.nx ρ' σ' G2 H2 (F'.gr g) q
  | true=>
   exact⟨fun σ3 H3=>∃ ρ3 G3,Fr3 X.K H0 G0 ρ3 σ3 G3 H3/\whN tc tb A m ρ3,fun σ3 H3 h3=>⟨m,WaM _,h3⟩,
    G0,_,ρ',G2,F'.gr g,q,⟨fun ρ4 σ4 G4 H4 F4 q4=>⟨ρ4,G4,F4,q4⟩,L.rt,L.nx,fun ρ4 σ4 G4 H4 F4 q4=>⟨ρ4,G4,F4,q4⟩,L.rm⟩⟩
structure ItOk(K:Ybf)(H0:Hp)(J:It)(fl:Bool)(ds:List D)(Gs:Hp):Prop where
 go:∀ (i:Nat) d G H,ds[i]?=some d->Same Gs G->Sub G H->J.go i H/\∀ x H',J.yld i H x H'->∃ G',Gr G H G' H'/\Rf K H0 G' fl x d
 stop:∀ (i:Nat) G H,i=ds.length->Same Gs G->Sub G H->J.stop i H
abbrev TI3:=Env3->(Bool->List D->Prop)->Prop
def ZL(K:Ybf)(H0:Hp)(t:TI3):TI:=fun σ H R=>∃ G0 ρ G,Fr3 K H0 G0 ρ σ G H/\t ρ fun f ds=>∀ J G' H',Gr G H G' H'->ItOk K H0 J f ds G'->R J H'
structure PI3(X:Cx)(H0:Hp)(tg iter:Expr)(t:TI3):Prop where
 mono:∀ ρ (Q Q':Bool->List D->Prop),(∀ f c,Q f c->Q' f c)->t ρ Q->t ρ Q'
 ok:PI X tg iter (ZL X.K H0 t)
def forL(g:TG3)(tb:TS3)(A:Ends3)(f:Bool):List D->Env3->Prop
 | [],ρ=>A.nx ρ
 | d::ds,ρ=>g f d ρ fun ρ'=>tb { A with nx:=forL g tb A f ds,ct:=forL g tb A f ds,bk:=A.nx } ρ'
def for3(ti:TI3)(g:TG3)(tb:TS3):TS3:=fun A ρ=>ti ρ fun f ds=>forL g tb A f ds ρ
theorem zE{tg iter:Expr}{body:List Stmt}{ti:TI3}{g:TG3}{tb:TS3}(hp:PassesOwn #[12] X.A X.env X.xe)(hc:X.calm=true)(hi:PI3 X H0 tg iter ti)(hg:PG3 X H0 tg g)(hb:PSs3 X H0 body tb)
 (hs:∀ x,foldedSetIterable iter X.env x=pure x:=by intro _;rfl):PS3 X H0 (.For tg iter body [] pos) (for3 ti g tb):=PS.imp (Zd hp hc hi.ok hg.ok hb hs) fun B σ H=>el7 fun G0 A ρ G F q L=>by
 refine⟨G0,ρ,G,F,hi.mono ρ _ _ (fun f ds k J G1 H1 g1 ok=>?_) q⟩
 have B1:Fr3 X.K H0 G0 ρ σ G1 H1:=F.gr g1;refine⟨fun i m σ' H'=>i<=ds.length/\m=ds.length - i/\∃ ρ' G',Fr3 X.K H0 G1 ρ' σ' G' H'/\forL g tb A f (ds.drop i) ρ',⟨ds.length,Wbl _,rfl,ρ,G1,B1.rebase,k⟩,?_⟩
 rintro i m σ' H' ⟨hil,rfl,ρ',G',F',k'⟩
 by_cases hlt:i<ds.length
 . right
   have hd:ds[i]?=some ds[i]:=YaQ hlt;obtain⟨hgo,hy⟩:=ok.go i _ G' H' hd F'.g0 F'.sub;rw [Wae hlt] at k';refine⟨hgo,fun σ2 H2=>∃ ρ2 G2,Fr3 X.K H0 G1 ρ2 σ2 G2 H2/\forL g tb A f (ds.drop (i+1)) ρ2,fun σ2 H2 h2=>⟨_,Nat.sub_lt_sub_left hlt (WaM _),Nat.succ_le_of_lt hlt,rfl,h2⟩,fun x H2 y=>?_⟩
   obtain⟨G2,g2,r2⟩:=hy x H2 y;refine⟨G1,ρ',G2,f,_,F'.gr g2,r2,hg.mono f _ ρ' _ _ (fun ρ3 q3 σ3 G3 H3 F3 _ _=>⟨G1,_,ρ3,G3,F3,q3,?_⟩) k'⟩
   exact⟨fun ρ4 σ4 G4 H4 F4 q4=>⟨ρ4,G4,F4,q4⟩,fun f d v G4 H4 g4 r4 q4=>L.rt f d v G4 H4 (g4.back B1) r4 q4,fun ρ4 σ4 G4 H4 F4 q4=>L.nx ρ4 σ4 G4 H4 (F4.back B1) q4,fun ρ4 σ4 G4 H4 F4 q4=>⟨ρ4,G4,F4,q4⟩,fun c v ρ4 σ4 G4 H4 F4 w4 n4 q4=>L.rm c v ρ4 σ4 G4 H4 (F4.back B1) w4 n4 q4⟩
 . left
   have e:i=ds.length:=Nat.le_antisymm hil (Nat.not_lt.mp hlt);rw [e,List.drop_length] at k';exact⟨ok.stop i G' H' e F'.g0 F'.sub,L.nx ρ' σ' G' H' (F'.back B1) k'⟩
theorem PI.imp{tg iter:Expr}{t t':TI}(h:PI X tg iter t)(i:∀ σ H R,t' σ H R->t σ H R):PI X tg iter t':=fun pins s σ H R I q=>h pins s σ H R I (i _ _ _ q)
def itL(te:TE3):TI3:=fun ρ Q=>te ρ fun c=>asL c Q
def itT(te:TE3):TI3:=fun ρ Q=>te ρ fun c=>∃ f ds,c=.sh f (.tuple ds)/\Q f ds
theorem zir{K:Ybf}{H0 G:Hp}{a:Addr}{xs:List V}{f:Bool}{ds:List D}(hq:SqL K G a xs)(r:Rfs K H0 G f xs ds):ItOk K H0 (Itl K a) f ds G where
 go:=fun i d G' H hd s1 s2=>by
  obtain⟨x,hx,rx⟩:=r.get hd;refine⟨⟨xs,x,(s1.trans s2.s).seq hq,hx⟩,fun y H' ⟨e,hy⟩=>?_⟩
  subst e;have:=hy xs ((s1.trans s2.s).seq hq);rw [hx] at this;cases this;exact⟨G',Gr.refl s2,rx.same s1⟩
 stop:=fun i G' H hl s1 s2=>⟨xs,(s1.trans s2.s).seq hq,by rw [r.length,hl];exact YaY _⟩
theorem zhP{K:Ybf}{H0 G:Hp}{a:Addr}{xs:List V}{f:Bool}{ds:List D}(hq:SqT K G a xs)(r:Rfs K H0 G f xs ds):ItOk K H0 (Itt K a) f ds G where
 go:=fun i d G' H hd s1 s2=>by
  obtain⟨x,hx,rx⟩:=r.get hd;refine⟨⟨xs,x,(s1.trans s2.s).tup hq,hx⟩,fun y H' ⟨e,hy⟩=>?_⟩
  subst e;have:=hy xs ((s1.trans s2.s).tup hq);rw [hx] at this;cases this;exact⟨G',Gr.refl s2,rx.same s1⟩
 stop:=fun i G' H hl s1 s2=>⟨xs,(s1.trans s2.s).tup hq,by rw [r.length,hl];exact YaY _⟩
theorem zR{tg iter:Expr}{te:TE3}(h:PE3 X H0 iter te):PI3 X H0 tg iter (itL te):=
 ⟨fun ρ Q Q' hq q=>h.mono ρ _ _ (fun c q=>by obtain⟨f,ds,e,q⟩:=zfr q;subst e;exact hq _ _ q) q,PI.imp (zbv h.ok) fun σ H R=>el5 fun G0 ρ G F q=>⟨G0,ρ,G,F,h.mono ρ _ _ (fun c hyp v G' H' g w=>by
  obtain⟨f,ds,e,k⟩:=zfr hyp;subst e;obtain⟨a,xs,rfl,hq,rs⟩:=JP (zn w);exact⟨a,rfl,⟨xs,g.sub.seq hq⟩,k _ G' H' g (zir hq rs)⟩) q⟩⟩
theorem zh7{tg iter:Expr}{te:TE3}(h:PE3 X H0 iter te):PI3 X H0 tg iter (itT te):=
 ⟨fun ρ Q Q' hq q=>h.mono ρ _ _ (fun c ⟨f,ds,e,q⟩=>⟨f,ds,e,hq _ _ q⟩) q,PI.imp (ziB h.ok) fun σ H R=>el5 fun G0 ρ G F q=>⟨G0,ρ,G,F,h.mono ρ _ _ (fun c hyp v G' H' g w=>by
  obtain⟨f,ds,e,k⟩:=hyp;subst e;obtain⟨a,xs,rfl,hq,rs⟩:=zbx (zn w);exact⟨a,rfl,⟨xs,g.sub.tup hq⟩,k _ G' H' g (zhP hq rs)⟩) q⟩⟩
def nums(lo:Int)(n:Nat):List D:=(List.range n).map fun i=>.int (lo+(i:Nat))
theorem zeA{K:Ybf}{H0 G:Hp}{lo:Int}{n:Nat}:ItOk K H0 (Itr lo n) true (nums lo n) G where
 go:=fun i d G' H hd s1 s2=>by
  unfold nums at hd;rw [Ya0] at hd
  by_cases hi:i<n
  . rw [Yax hi] at hd
    cases hd;exact⟨hi,fun x H' ⟨e1,e2⟩=>by subst e1 e2;exact⟨G',Gr.refl s2,.sc rfl (.int _)⟩⟩
  . rw [Wao (by simpa using hi)] at hd;cases hd
 stop:=fun i G' H hl s1 s2=>by unfold nums at hl;show n<=i;simp at hl;omega
theorem zB{K:Ybf}{G:Hp}{v:V}{i:Int}(r:RdV K G v (.int i)):v=.int i:=by cases r;rfl
theorem vws1{K:Ybf}{H0 G H:Hp}{vs:List V}{c:Cl}(w:Vws K H0 G H vs [c]):∃ v,vs=[v]/\Vw K H0 G H v c:=by
 cases w with
 | cons a b=>cases b;exact⟨_,rfl,a⟩
theorem vws2{K:Ybf}{H0 G H:Hp}{vs:List V}{c d:Cl}(w:Vws K H0 G H vs [c,d]):∃ v u,vs=[v,u]/\Vw K H0 G H v c/\Vw K H0 G H u d:=by
 cases w with
 | cons a b=>obtain⟨u,rfl,h⟩:=vws1 b;exact⟨_,_,rfl,a,h⟩
def rg1(t:TA3):TI3:=fun ρ Q=>t ρ fun cs=>∃ j,cs=[.sh true (.int j)]/\(-(2 ^ 62)<=j/\j<2 ^ 62)/\Q true (nums 0 j.toNat)
def rg2(t:TA3):TI3:=fun ρ Q=>t ρ fun cs=>∃ i j,cs=[.sh true (.int i),.sh true (.int j)]/\(-(2 ^ 62)<=i/\i<2 ^ 62/\-(2 ^ 62)<=j/\j<2 ^ 62)/\Q true (nums i (j - i).toNat)
theorem jj{tg a:Expr}{t:TA3}{p:Pos}(hg:Gl X "range")(hm:X.mg "range" = none)(ha:PA3 X H0 [a] t)(hs:starEach [a] X.env=[(false,eval a X.env)]:=by rfl):PI3 X H0 tg (.Call (.Name "range" p) [a] [] pos) (rg1 t):=
 ⟨fun ρ Q Q' hq q=>ha.mono ρ _ _ (fun c ⟨j,e,b,q⟩=>⟨j,e,b,hq _ _ q⟩) q,PI.imp (zc9 hg hm ha.ok hs) fun σ H R=>el5 fun G0 ρ G F q=>⟨G0,ρ,G,F,ha.mono ρ _ _ (fun c hyp vs G' H' g w=>by
  obtain⟨j,e,b,k⟩:=hyp;subst e;obtain⟨v,rfl,w1⟩:=vws1 w;cases zB (zn w1).rd;exact⟨j,rfl,b.1,b.2,k _ G' H' g zeA⟩) q⟩⟩
theorem zbb{tg a b:Expr}{t:TA3}{p:Pos}(hg:Gl X "range")(hm:X.mg "range" = none)(ha:PA3 X H0 [a,b] t)(hs:starEach [a,b] X.env=[(false,eval a X.env),(false,eval b X.env)]:=by rfl)(hs2:starEach [b] X.env=[(false,eval b X.env)]:=by rfl):PI3 X H0 tg (.Call (.Name "range" p) [a,b] [] pos) (rg2 t):=
 ⟨fun ρ Q Q' hq q=>ha.mono ρ _ _ (fun c ⟨i,j,e,b,q⟩=>⟨i,j,e,b,hq _ _ q⟩) q,PI.imp (zi4 hg hm ha.ok hs hs2) fun σ H R=>el5 fun G0 ρ G F q=>⟨G0,ρ,G,F,ha.mono ρ _ _ (fun c hyp vs G' H' g w=>by
  obtain⟨i,j,e,b,k⟩:=hyp;subst e;obtain⟨v,u,rfl,w1,w2⟩:=vws2 w;cases zB (zn w1).rd;cases zB (zn w2).rd;exact⟨i,j,rfl,b,k _ G' H' g zeA⟩) q⟩⟩
end
variable[LamW]
def cst3(n:Nat)(js:List Nat)(ρ : Env3):Env3:=List.replicate n none++js.map fun j=>(ρ[j]?).join
def er(D:Addr)(H:Hp):Hp:=fun b=>if b=D then none else H b
theorem Zi{D:Addr}{H:Hp}:er D H D=none:=by unfold er;rw [if_pos rfl]
theorem j9{D b:Addr}{H:Hp}(h:b≠D):er D H b=H b:=by unfold er;rw [if_neg h]
theorem zlv{D b:Addr}{H:Hp}{o:HO}(h:er D H b=some o):b≠D/\H b=some o:=by
 by_cases e:b=D
 . subst e;rw [Zi] at h;cases h
 . rw [j9 e] at h;exact⟨e,h⟩
theorem zid{D:Addr}{H:Hp}{o:HO}(h:H D=some o):upd (er D H) D o=H:=by
 funext b
 by_cases e:b=D
 . subst e;rw [zf,h]
 . rw [zc e,j9 e]
theorem Gr.er{D:Addr}{G H G' H':Hp}(g:Gr G H G' H')(hD:G' D=none)(hx:∀ f,H' D≠some (.ext f)):Gr G (er D H) G' (er D H') where
 g:=g.g
 h:=fun b o e=>by
  obtain⟨n,e⟩:=zlv e;rw [j9 n]
  rcases g.h b o e with z|⟨z,y,c',h1,h2⟩
  . exact .inl z
  . exact .inr ⟨z,y,c',by rw [j9 n];exact h1,by rw [j9 (fun w=>by rw [w] at h2;exact hx _ h2)];exact h2⟩
 sub:=⟨fun b o e=>by
  rw [j9 (je e hD)];exact g.sub.s b o e,g.sub.cl⟩
 new:=fun b o e=>by
  rcases g.new b o e with q|q|q
  . exact .inl q
  . by_cases hb:b=D
    . subst hb;exact .inr (.inl Zi)
    . exact .inr (.inl (by rw [j9 hb];exact q))
  . exact .inr (.inr q)
theorem JW{α : Type}{n i:Nat}{js:List Nat}{l:List (Option α)}{x:α}(h:(List.replicate n none++js.map fun j=>(l[j]?).join)[i]?=some (some x)):∃ j,n<=i/\js[i - n]?=some j/\l[j]?=some (some x):=by
 by_cases hi:i<n
 . rw [Yab (by simpa using hi),Yad,if_pos hi] at h
   cases h
 . rw [Yae (by simpa using hi),Ybb,Ya0] at h
   cases ej:js[i - n]? with
   | none=>rw [ej] at h;cases h
   | some j=>
    rw [ej] at h;have h':(l[j]?).join=some x:=WaV h;refine⟨j,Nat.not_lt.mp hi,rfl,?_⟩;cases q:l[j]? with
    | none=>rw [q] at h';cases h'
    | some o => rw [q] at h'; cases o with
     | none=>cases h'
     | some v=>cases h';rfl
theorem ziw{α : Type}{n i j:Nat}{js:List Nat}{l:List (Option α)}{x:α}(hi:n<=i)(hj:js[i - n]?=some j)(h:l[j]?=some (some x)):(List.replicate n none++js.map fun j=>(l[j]?).join)[i]?=some (some x):=by
 rw [Yae (by simpa using hi),Ybb,Ya0,hj]
 simp [h]
theorem Rf.asideU{K:Ybf}{H0 G:Hp}{A:Addr}{ys:List V}{f:Bool}{v:V}{d:D}(r:Rf K H0 G f v d)(hA:G A=none):Rf K (upd H0 A (.lst ys)) G f v d:=⟨r.rd,fun h=>jX (Same.refl _) (fun a o e n=>by rw [zc (je e hA)];exact n) (r.nw h)⟩
theorem Rf.asideD{K:Ybf}{H0 G:Hp}{A:Addr}{ys:List V}{f:Bool}{v:V}{d:D}(r:Rf K (upd H0 A (.lst ys)) G f v d):Rf K H0 G f v d:=⟨r.rd,fun h=>jX (Same.refl _) (fun a o e n=>by
 have ha:a≠A:=fun z=>by subst z;rw [zf] at n;cases n
 rw [zc ha] at n;exact n) (r.nw h)⟩
theorem Rf.aside{K:Ybf}{H0 G:Hp}{A:Addr}{ys zs:List V}{f:Bool}{v:V}{d:D}(r:Rf K (upd H0 A (.lst ys)) G f v d)(hA:G A=none):Rf K (upd H0 A (.lst zs)) G f v d:=r.asideD.asideU hA
theorem Rfs.asideU{K:Ybf}{H0 G:Hp}{A:Addr}{ys:List V}{f:Bool}{v:List V}{d:List D}(r:Rfs K H0 G f v d)(hA:G A=none):Rfs K (upd H0 A (.lst ys)) G f v d:=⟨r.rd,fun h=>rdns_mono (Same.refl _) (fun a o e n=>by rw [zc (je e hA)];exact n) (r.nw h)⟩
theorem Rfs.aside{K:Ybf}{H0 G:Hp}{A:Addr}{ys zs:List V}{f:Bool}{v:List V}{d:List D}(r:Rfs K (upd H0 A (.lst ys)) G f v d)(hA:G A=none):Rfs K (upd H0 A (.lst zs)) G f v d:=⟨r.rd,fun h=>rdns_mono (Same.refl _) (fun a o e n=>by
 rw [zc (je e hA)] at n ⊢;exact n) (r.nw h)⟩
theorem Dr.asideU{K:Ybf}{H0 G:Hp}{A:Addr}{ys:List V}{kvs:List (List Key×V)}{ds:List (List Key×PyData)}(r:Dr K H0 G kvs ds)(hA:G A=none):Dr K (upd H0 A (.lst ys)) G kvs ds:=by
 induction r with
 | nil=>exact .nil
 | cons a b ih=>exact .cons (a.asideU hA) ih
theorem Dr.aside{K:Ybf}{H0 G:Hp}{A:Addr}{ys zs:List V}{kvs:List (List Key×V)}{ds:List (List Key×PyData)}(r:Dr K (upd H0 A (.lst ys)) G kvs ds)(hA:G A=none):Dr K (upd H0 A (.lst zs)) G kvs ds:=by
 induction r with
 | nil=>exact .nil
 | cons a b ih=>exact .cons (a.aside hA) ih
theorem Vw.rebase{K:Ybf}{H0 G H:Hp}{A:Addr}{v:V}{c:Cl}(w:Vw K H0 G (upd H A (.lst [])) v c)(s:Sub G H)(hA:H A=none):Vw K (upd H0 A (.lst [])) G (upd H A (.lst [])) v c:=by
 have gA:G A=none:=s.free hA;cases w with
 | sh r=>exact .sh (r.asideU gA)
 | ow h r n=>exact .ow h (r.asideU gA) n
 | tr t=>
  refine .tr ⟨t.top,t.topG,t.nd,t.len,fun k p m h1 h2=>?_⟩
  obtain⟨vs,a,b,c⟩:=t.item k p m h1 h2;exact⟨vs,a,b,c.asideU gA⟩
 | dt h r n=>exact .dt h (r.asideU gA) n
 | dk h n=>exact .dk h n
 | fd h r k=>exact .fd h (r.asideU gA) k
 | tk h=>exact .tk h
 | dm h n=>exact .dm h n
 | ex h=>exact .ex h
section
variable{K:Ybf}{H0 G0:Hp}{ρ : Env3}{σ : L2.St}{G H:Hp}{D:Addr}
theorem Fr3.comp(F:#[18])(n:Nat){js:List Nat}(hj:js.Nodup)(hD:H D=none):Fr3 K (upd H0 D (.lst [])) G (cst3 n js ρ) (cst n js σ) G (upd H D (.lst [])) where
 keep:=fun b o e=>by
  by_cases hb:b=D
  . subst hb;rw [zf] at e ⊢;exact .inl e
  . rw [zc hb] at e ⊢
    rcases F.keep b o e with z|⟨z,y,l⟩
    . exact .inl z
    . exact .inr ⟨z,y,l.same (zG hD _).x⟩
 sub:=F.sub.trans (zG hD _).x
 old:=fun b o e=>.inl e
 g0:=Same.refl _
 slot:=fun i c e=>by
  obtain⟨j,h1,h2,h3⟩:=JW e;obtain⟨v,h4,h5⟩:=F.slot j c h3;exact⟨v,ziw h1 h2 h4,(h5.gr (Gr.apart F.sub hD)).rebase F.sub hD⟩
 mine:=fun i c v a e e' h=>by
  obtain⟨j,h1,h2,h3⟩:=JW e;obtain⟨j',h1',h2',h3'⟩:=JW e';rw [h2] at h2';cases h2';obtain⟨⟨o,q,_⟩,_⟩:=(F.vw h3 h3').has h;rw [zc (je q hD)];exact F.mine j c v a h3 h3' h
 apart:=fun i k c1 c2 v1 v2 a e1 e2 e3 e4 q1 q2=>by
  obtain⟨j,h1,h2,h3⟩:=JW e1;obtain⟨j',h1',h2',h3'⟩:=JW e2;obtain⟨j2,h4,h5,h6⟩:=JW e3;obtain⟨j3,h7,h8,h9⟩:=JW e4;rw [h2] at h5;cases h5;rw [h2'] at h8;cases h8;have e:=F.apart j j' c1 c2 v1 v2 a h3 h3' h6 h9 q1 q2;subst e;have ei:i - n=k - n:=by
   obtain⟨a1,b1⟩:=Ya8.mp h2;obtain⟨a2,b2⟩:=Ya8.mp h2';exact(WaL hj).mp (b1.trans b2.symm)
  omega
 len:=by unfold cst3 cst;simp
theorem Fr3.aside{ys zs:List V}(F:Fr3 K (upd H0 D (.lst ys)) G0 ρ σ G H)(hG0:G0 D=none):Fr3 K (upd H0 D (.lst zs)) G0 ρ σ G (upd H D (.lst zs)):=by
 have hD:H D=some (.lst ys):=F.keep.at (b:=D) zf;have hG:G D=none:=by
  cases e:G D with
  | none=>rfl
  | some o=>
   rcases F.old D o e with q|q|⟨xs,q⟩
   . rw [hG0] at q;cases q
   . rw [zf] at q;cases q
   . have:=F.sub.s _ _ e;rw [hD,q] at this;cases this
 refine⟨fun b o e=>?_,⟨fun b o e=>by rw [zc (je e hG)];exact F.sub.s b o e,F.sub.cl⟩,fun b o e=>?_,F.g0,fun i c e=>?_,fun i c v a e e' h=>?_,F.apart,F.len⟩
 . by_cases hb:b=D
   . subst hb;rw [zf] at e ⊢;exact .inl e
   . rw [zc hb] at e ⊢
     rcases F.keep b o (by rw [zc hb];exact e) with z|⟨z,y,l⟩
     . exact .inl z
     . exact .inr ⟨z,y,l.upd hb fun f q=>by rw [hD] at q;cases q⟩
 . rcases F.old b o e with q|q|q
   . exact .inl q
   . by_cases hb:b=D
     . subst hb;rw [zf] at q;cases q
     . rw [zc hb] at q;exact .inr (.inl (by rw [zc hb];exact q))
   . exact .inr (.inr q)
 . obtain⟨v,h1,h2⟩:=F.slot i c e
   refine⟨v,h1,?_⟩
   cases h2 with
   | sh r=>exact .sh (r.aside hG)
   | ow h r n=>
    rename_i l vs f ds;have hl:l≠D:=fun z=>by
     subst z;have:=F.mine i _ _ l e h1 rfl;rw [zf] at this;cases this
    exact .ow (by rw [zc hl];exact h) (r.aside hG) n
   | dt h r n=>
    rename_i l kvs ds;have hl:l≠D:=fun z=>by
     subst z;have:=F.mine i _ _ l e h1 rfl;rw [zf] at this;cases this
    exact .dt (by rw [zc hl];exact h) (r.aside hG) n
   | dk h n=>
    rename_i l ks;have hl:l≠D:=fun z=>by
     subst z;have:=F.mine i _ _ l e h1 rfl;rw [zf] at this;cases this
    exact .dk (by rw [zc hl];exact h) n
   | fd h r k=>exact .fd h (r.aside hG) k
   | tk h=>exact .tk h
   | dm h n=>
    rename_i l ks;have hl:l≠D:=fun z=>by
     subst z;have:=F.mine i _ _ l e h1 rfl;rw [zf] at this;cases this
    exact .dm (by rw [zc hl];exact h) n
   | tr t=>
    rename_i l ps ms;have hl:∀ a,Has (.tr ps ms) (.ref l) a->a≠D:=fun a ha z=>by
     subst z;have:=F.mine i _ _ a e h1 ha;rw [zf] at this;cases this
    refine .tr ⟨by rw [zc (hl l (.inl rfl))];exact t.top,t.topG,t.nd,t.len,fun k p m h1 h2=>?_⟩
    obtain⟨vs,a,b,c⟩:=t.item k p m h1 h2;exact⟨vs,by rw [zc (hl p (.inr (Yah h1)))];exact a,b,c.aside hG⟩
   | ex h=>
    rename_i l C;have hl:l≠D:=fun z=>by subst z;rw [hD] at h;cases h
    exact .ex (by rw [zc hl];exact h)
 . have q:=F.mine i c v a e e' h
   have hl:a≠D:=fun z=>by subst z;rw [zf] at q;cases q
   rw [zc hl] at q ⊢;exact q
theorem Fr3.atD{ys:List V}(F:Fr3 K (upd H0 D (.lst ys)) G0 ρ σ G H)(hG0:G0 D=none):G D=none/\H D=some (.lst ys):=by
 refine⟨?_,F.keep.at (b:=D) zf⟩
 cases e:G D with
 | none=>rfl
 | some o=>
  rcases F.old D o e with q|q|⟨xs,q⟩
  . rw [hG0] at q;cases q
  . rw [zf] at q;cases q
  . have h1:=F.sub.s _ _ e
    have h2:=F.keep.at (b:=D) zf;rw [h2,q] at h1;cases h1
end
section
variable{X:Cx}{H0:Hp}{pos:Pos}
structure PTs3(X:Cx)(H0:Hp)(es:List Expr)(t:TT3):Prop where
 mono:∀ ρ (Q Q':Bool->Prop),(∀ c,Q c->Q' c)->t ρ Q->t ρ Q'
 ok:PTs X es (Jq X.K H0 t)
def true3:TT3:=fun _ Q=>Q true
theorem jD:PTs3 X H0 [] true3:=⟨fun ρ Q Q' h q=>h _ q,fun pins s σ H Q I=>el5 fun G0 ρ G F q=>zaM pins s σ H Q I (q G H (Gr.refl F.sub))⟩
theorem zel{c:Expr}{t:TT3}(h:PT3 X H0 c t):PTs3 X H0 [c] t:=⟨h.mono,zdo h.ok⟩
def Ja(g:TG3)(tt:TT3)(te:TE3)(f:Bool):List D->Bool->List D->Env3->(Bool->List D->Prop)->Prop
 | [],fa,acc,_,Q=>Q fa acc
 | d::ds,fa,acc,ρ,Q=>g f d ρ fun ρ'=>tt ρ' fun k=>if k=true then te ρ' fun c=>asS c fun fy y=>Ja g tt te f ds (fa&&fy) (acc++[y]) ρ' Q else Ja g tt te f ds fa acc ρ' Q
def Jy(ti:TI3)(g:TG3)(tt:TT3)(te:TE3)(n:Nat)(js:List Nat):TN3:=fun ρ Q=>ti ρ fun f ds=>ds.length<=sizeLine/\Ja g tt te f ds true [] (cst3 n js ρ) Q
theorem zda{g:TG3}{tt:TT3}{te:TE3}(hg:∀ f d ρ (Q Q':Env3->Prop),(∀ c,Q c->Q' c)->g f d ρ Q->g f d ρ Q')(ht:∀ ρ (Q Q':Bool->Prop),(∀ c,Q c->Q' c)->tt ρ Q->tt ρ Q')(he:∀ ρ (Q Q':Cl->Prop),(∀ c,Q c->Q' c)->te ρ Q->te ρ Q')
 {f:Bool} {Q Q':Bool->List D->Prop} (h:∀ f c,Q f c->Q' f c):∀ ds fa acc ρ,Ja g tt te f ds fa acc ρ Q->Ja g tt te f ds fa acc ρ Q'
 | [],fa,acc,ρ,q=>h _ _ q
 | d :: ds, fa, acc, ρ, q => hg f d ρ _ _ (fun ρ' => ht ρ' _ _ fun k => by
  cases k with
  | true=>exact he ρ' _ _ fun c q=>by obtain⟨fy,y,e,q⟩:=Jt q;subst e;exact zda hg ht he h ds _ _ ρ' q
  | false=>exact zda hg ht he h ds fa acc ρ') q
theorem zcM{tn fn N:List Str}{js:List Nat}(nd:(tn++fn).Nodup)(hj:js.map (fun j=>N[j]?)=fn.map some):js.Nodup:=by
 have h1:(fn.map some).Nodup:=by
  have:=(WaA.mp nd).2.1;exact List.Pairwise.map some (fun a b h e=>h (WaV e)) this
 rw [<-hj] at h1;exact List.Pairwise.of_map _ (fun a b h e=>h (by rw [e])) h1
theorem zcb{elt tg:Expr}{ifs:List Expr}{scope:Scope}{N:List Str}{g:TG3}{tt:TT3}{te:TE3}
 (hb:∀ H0 s H fp cl,PG3 (X.comp scope N s H fp cl) H0 tg g/\PTs3 (X.comp scope N s H fp cl) H0 ifs tt/\PE3 (X.comp scope N s H fp cl) H0 elt te):∀ s H fp cl,PG (X.comp scope N s H fp cl) tg (fun v σ H Q=>∃ H0,J7 X.K H0 g v σ H Q)/\PTs (X.comp scope N s H fp cl) ifs (fun σ H Q=>∃ H0,Jq X.K H0 tt σ H Q)/\PE (X.comp scope N s H fp cl) elt (fun σ H Q=>∃ H0,jz X.K H0 te σ H Q):=fun s H fp cl=>
 ⟨fun pins s' σ H' v u Q I r ⟨h0,q⟩=>(hb h0 s H fp cl).1.ok pins s' σ H' v u Q I r q,fun pins s' σ H' Q I ⟨h0,q⟩=>(hb h0 s H fp cl).2.1.ok pins s' σ H' Q I q,fun pins s' σ H' Q I ⟨h0,q⟩=>(hb h0 s H fp cl).2.2.ok pins s' σ H' Q I q⟩
theorem zcR{Y Y' Y'':Cx}{h1 h2 h3:Hp}{elt tg iter:Expr}{ifs:List Expr}{ti:TI3}{g:TG3}{tt:TT3}{te:TE3}{n:Nat}{js:List Nat}(hjn:js.Nodup)(hi:PI3 X H0 tg iter ti)(m1:PG3 Y h1 tg g)(m2:PTs3 Y' h2 ifs tt)(m3:PE3 Y'' h3 elt te) :
 ∀ σ H Q,zeX X.K H0 (Jy ti g tt te n js) σ H Q->zbi (ZL X.K H0 ti) (fun v σ H Q=>∃ H0,J7 X.K H0 g v σ H Q) (fun σ H Q=>∃ H0,Jq X.K H0 tt σ H Q) (fun σ H Q=>∃ H0,jz X.K H0 te σ H Q) n js σ H Q:=by
 rintro σ H Q ⟨G0,ρ,G,F,q⟩
 refine⟨G0,ρ,G,F,hi.mono ρ _ _ (fun fl ds ⟨hz,k⟩ J G1 H1 g1 ok A hA=>?_) q⟩
 have F1:=F.gr g1;have gA:G1 A=none:=g1.sub.free hA;have h0A:H0 A=none:=F1.keep.free hA;refine⟨fun i m ys σ2 H2=>i<=ds.length/\m=ds.length - i/\ys.length<=i/\∃ ρ2 G2 fe es,Fr3 X.K (upd H0 A (.lst ys)) G1 ρ2 σ2 G2 H2/\Rfs X.K H0 G2 fe ys es/\Gr G1 H1 G2 (er A H2)/\Ja g tt te fl (ds.drop i) fe es ρ2 (fun f ds=>∀ l vs G' H',Gr G H G' H'->H' l=none->Rfs X.K H0 G' f vs ds->Q (.ref l) (upd H' l (.lst vs))),
  ⟨ds.length,Wbl _,rfl,YaY _,cst3 n js ρ,G1,true,[],F1.comp n hjn hA,.nil,?_,k⟩,?_⟩
 . have e:er A (upd H1 A (.lst []))=H1:=by
    funext b
    by_cases hb:b=A
    . subst hb;rw [Zi,hA]
    . rw [j9 hb,zc hb]
   rw [e];exact Gr.refl g1.sub
 rintro i m ys σ2 H2 ⟨hil,rfl,hyl,ρ2,G2,fe,es,F2,r2,g2,k2⟩
 obtain⟨hG2,hH2⟩:=F2.atD gA
 by_cases hlt:i<ds.length
 . right
   have hd:ds[i]?=some ds[i]:=YaQ hlt;obtain⟨hgo,hy⟩:=ok.go i _ G2 H2 hd F2.g0 F2.sub;rw [Wae hlt] at k2;refine⟨hgo,fun x H3 y=>?_⟩
   obtain⟨G3,g3,r3⟩:=hy x H3 y;have F3:=F2.gr g3;refine⟨upd H0 A (.lst ys),G1,ρ2,G3,fl,_,F3,r3.asideU (F3.atD gA).1,m1.mono fl _ ρ2 _ _ (fun ρ4 q4 σ4 G4 H4 F4 s4 g4=>?_) k2⟩
   refine⟨upd H0 A (.lst ys),G1,ρ4,G4,F4,m2.mono ρ4 _ _ (fun b q5 G5 H5 g5=>?_) q4⟩
   have F5:=F4.gr g5;have gg5:=(g3.trans g4).trans g5;cases b with
   | true=>
    refine⟨upd H0 A (.lst ys),G1,ρ4,G5,F5,m3.mono ρ4 _ _ (fun c q6 v G6 H6 g6 w6=>?_) q5⟩
    obtain⟨fy,y,hc,q6⟩:=Jt q6;subst hc;have F6:=F5.gr g6;obtain⟨hG6,hH6⟩:=F6.atD gA;have gg6:=gg5.trans g6;refine⟨hH6,YaU (Was hyl hlt) hz,ds.length - (i+1),Nat.sub_lt_sub_left hlt (WaM _),Nat.succ_le_of_lt hlt,rfl,by rw [YaS,List.length_singleton];omega,ρ4,G6,_,es++[y],F6.aside gA,(r2.same gg6.g).snoc ((zn w6).asideD),?_,q6⟩
    have e:er A (upd H6 A (.lst (ys++[v])))=er A H6:=by
     funext b
     by_cases hb:b=A
     . subst hb;rw [Zi,Zi]
     . rw [j9 hb,j9 hb,zc hb]
    rw [e];exact g2.trans (gg6.er hG6 fun f z=>by rw [hH6] at z;cases z)
   | false=>
    obtain⟨hG5,hH5⟩:=F5.atD gA;exact⟨ds.length - (i+1),Nat.sub_lt_sub_left hlt (WaM _),Nat.succ_le_of_lt hlt,rfl,Nat.le_succ_of_le hyl,ρ4,G5,fe,es,F5,r2.same gg5.g,g2.trans (gg5.er hG5 fun f z=>by rw [hH5] at z;cases z),q5⟩
 . left
   have e:i=ds.length:=Nat.le_antisymm hil (Nat.not_lt.mp hlt);rw [e,List.drop_length] at k2;refine⟨ok.stop i G2 H2 e F2.g0 F2.sub,?_⟩;have k3:=k2 A ys G2 (er A H2) (g1.trans g2) Zi r2;rw [zid hH2] at k3;exact k3
theorem jU{elt tg iter:Expr}{ifs:List Expr}{scope:Scope}{ti:TI3}{g:TG3}{tt:TT3}{te:TE3}(tn fn:List Str)(js:List Nat)(hcalm:X.calm=true)(S:CompSc X.env.scope scope tn fn)(hj:js.map (fun j=>X.N[j]?)=fn.map some)(hi:PI3 X H0 tg iter ti)
 (hb:∀ H0 s H fp cl,PG3 #[16] H0 tg g/\PTs3 #[16] H0 ifs tt/\PE3 #[16] H0 elt te)
 (hs:∀ x,foldedSetIterable iter X.env x=pure x:=by intro _;rfl):PN3 X H0 (.ListComp elt [⟨tg,iter,ifs,0⟩] scope pos) (Jy ti g tt te tn.length js):=by
 obtain⟨m1,m2,m3⟩:=hb H0 X.s₀ X.H₀ [] [];have hjn:=zcM S.nd hj;refine⟨fun ρ Q Q' h q=>hi.mono ρ _ _ (fun f ds ⟨z,q⟩=>⟨z,zda m1.mono m2.mono m3.mono h ds _ _ _ q⟩) q,?_⟩
 exact PE.imp (Z0 (wi:=ZL X.K H0 ti) (g:=fun v σ H Q=>∃ H0,J7 X.K H0 g v σ H Q) (tt:=fun σ H Q=>∃ H0,Jq X.K H0 tt σ H Q) (te:=fun σ H Q=>∃ H0,jz X.K H0 te σ H Q) tn fn js hcalm S hj hi.ok (zcb hb) hs) (zcR hjn hi m1 m2 m3)
theorem zh4{elt tg iter:Expr}{ifs:List Expr}{scope:Scope}{spos pos':Pos}{i:Nat}{x:Str}{ti:TI3}{g:TG3}{tt:TT3}{te:TE3}(hN:X.N.Nodup)(hix:X.N[i]?=some x)(hx:Loc X.env.scope x)(tn fn:List Str)(js:List Nat)(hcalm:X.calm=true)(S:CompSc X.env.scope scope tn fn)(hj:js.map (fun j=>X.N[j]?)=fn.map some)(hi:PI3 X H0 tg iter ti)
 (hb:∀ H0 s H fp cl,PG3 #[16] H0 tg g/\PTs3 #[16] H0 ifs tt/\PE3 #[16] H0 elt te)
 (hs:∀ x,foldedSetIterable iter X.env x=pure x:=by intro _;rfl)
 (hsw:swapsWith (.ListComp elt [⟨tg,iter,ifs,0⟩] scope pos) (some (.Name x pos')) spos.line X.env=pure true:=by rfl) (hf:#[19]:=by first|exact .inl rfl|exact .inr rfl|assumption) :
 PS3 X H0 (.Assign [.Name x pos'] (.ListComp elt [⟨tg,iter,ifs,0⟩] scope pos) spos) (own3 i (Jy ti g tt te tn.length js)):=by
 obtain⟨m1,m2,m3⟩:=hb H0 X.s₀ X.H₀ [] [];have hjn:=zcM S.nd hj;have pn:=jU (pos:=pos) tn fn js hcalm S hj hi hb hs;refine PS.imp (zbX hN hix hx (wi:=ZL X.K H0 ti) (g:=fun v σ H Q=>∃ H0,J7 X.K H0 g v σ H Q) (tt:=fun σ H Q=>∃ H0,Jq X.K H0 tt σ H Q) (te:=fun σ H Q=>∃ H0,jz X.K H0 te σ H Q) tn fn js hcalm S hj hi.ok (zcb hb) hs hsw hf) fun B σ H=>el7 fun G0 A ρ G F q L=>?_
 exact zcR hjn hi m1 m2 m3 σ H _ ⟨G0,ρ,G,F,pn.mono ρ _ _ (fun f ds q l vs G' H' g hl r=>L.nx _ _ G' _ ((F.gr g).own r hl) q) q⟩
theorem ZA{elt tg iter:Expr}{ifs:List Expr}{scope:Scope}{spos pos':Pos}{i:Nat}{x:Str}{ti:TI3}{g:TG3}{tt:TT3}{te:TE3}(hN:X.N.Nodup)(hix:X.N[i]?=some x)(hx:Loc X.env.scope x)(tn fn:List Str)(js:List Nat)(hcalm:X.calm=true)(S:CompSc X.env.scope scope tn fn)(hj:js.map (fun j=>X.N[j]?)=fn.map some)(hi:PI3 X H0 tg iter ti)
 (hb:∀ H0 s H fp cl,PG3 #[16] H0 tg g/\PTs3 #[16] H0 ifs tt/\PE3 #[16] H0 elt te)
 (hs:∀ x,foldedSetIterable iter X.env x=pure x:=by intro _;rfl)
 (hsw:swapsWith (.ListComp elt [⟨tg,iter,ifs,0⟩] scope pos) (some (.Name x pos')) spos.line X.env=pure true:=by rfl) (hf:#[19]:=by first|exact .inl rfl|exact .inr rfl|assumption) :
 PS3 X H0 (.Assign [.Name x pos'] (.ListComp elt [⟨tg,iter,ifs,0⟩] scope pos) spos) (set3 i (nw3 (Jy ti g tt te tn.length js))):=by
 obtain⟨m1,m2,m3⟩:=hb H0 X.s₀ X.H₀ [] [];have hjn:=zcM S.nd hj;have pn:=jU (pos:=pos) tn fn js hcalm S hj hi hb hs;refine PS.imp (zbX hN hix hx (wi:=ZL X.K H0 ti) (g:=fun v σ H Q=>∃ H0,J7 X.K H0 g v σ H Q) (tt:=fun σ H Q=>∃ H0,Jq X.K H0 tt σ H Q) (te:=fun σ H Q=>∃ H0,jz X.K H0 te σ H Q) tn fn js hcalm S hj hi.ok (zcb hb) hs hsw hf) fun B σ H=>el7 fun G0 A ρ G F q L=>?_
 refine zcR hjn hi m1 m2 m3 σ H _ ⟨G0,ρ,G,F,pn.mono ρ _ _ (fun f ds q l vs G' H' g hl r=>?_) q⟩
 refine L.nx _ _ (upd G' l (.lst vs)) _ ((F.gr (g.trans (Gr.put g.sub hl))).set ?_) q
 exact⟨.lst (SqL.of zf) (rdvs_same (zG (g.sub.free hl) _) r.rd),fun hf=>.lst zf ((F.keep.trans g.h).free hl) (rdns_mono (zG (g.sub.free hl) _) (fun _ _ _ z=>z) (r.nw hf))⟩
end
def jO(N:List Str)(ds:List D):Env3:=ds.map (fun d=>some (.sh (zw d) d))++List.replicate (N.length - ds.length) none
theorem zf0{K:Ybf}{G H:Hp}{N:List Str}{vs:List V}{ds:List D}(s:Sub G H)(r:RdVs K G vs ds):Fr3 K H G (jO N ds) (start N vs) G H:=by
 have at3:∀ (i:Nat) c,(jO N ds)[i]?=some (some c)->∃ d,ds[i]?=some d/\c=.sh (zw d) d:=fun i c e=>by
  unfold jO at e
  by_cases hi:i<ds.length
  . rw [Yab (by simpa using hi),Ya0] at e
    cases q:ds[i]? with
    | none=>rw [q] at e;cases e
    | some d=>rw [q] at e;cases e;exact⟨d,rfl,rfl⟩
  . rw [Yae (by simpa using hi),Yad] at e
    split at e<;>cases e
 refine⟨zi.refl _,s,fun b o e=>.inl e,Same.refl _,fun i c e=>?_,fun i c v a e _ h=>?_,fun i j c c' v v' a e _ _ _ h _=>?_,?_⟩
 . obtain⟨d,hd,rfl⟩:=at3 i c e
   obtain⟨x,hx,rx⟩:=r.get hd;refine⟨x,?_,.sh ⟨rx,fun h=>ZQ h rx⟩⟩
   unfold L2.start;have hi:i<vs.length:=(Ya8.mp hx).1;rw [Yab (by simpa using hi),Ya0,hx];rfl
 . obtain⟨d,hd,z⟩:=at3 i _ e;subst z;exact False.elim h
 . obtain⟨d,hd,z⟩:=at3 i _ e;subst z;exact False.elim h
 . unfold jO L2.start;simp [r.length]
theorem fn3{P:Program}{w:World}{K:Ybf}{mg:#[15]}{base:Heap}{x qual:Str}{st:Stmt}{f:Addr}{fd:FuncData}{N ps:List Str}{k:Nat}{sp:Sp3}(F:Fun K x qual st f fd)(S:FnScope N ps (zh st))(len:∀ ds Q E,sp ds Q E->ds.length=ps.length)
 (hbody:∀ (cdv:Value) (A:Around) (outer:List Env) (s:Shared) (H:Hp) (E:XK) (E3:Addr->Prop),(∀ C H',E3 C->zi H H'->E (.ref C) none H')->Room k (A.deeper (envOfC qual (zh st) s.heap.objs.size f cdv))->
  ∃ t,PSs3 (cxOf (CXR P w) P w K mg base N qual (zh st) f cdv A outer s H E) H (jI st) t/\∀ ds Q,sp ds Q E3->t { nx:=fun _=>Q true .none,rt:=Q } (jO N ds)):FnOk P w K mg base (CXR P w) (k+1) f fd ps (spL K sp):=by
 refine F.okR S (fun vs H Q E h=>?_) (fun cdv A outer s H vs Q E hr h=>?_)
 . obtain⟨G,ds,_,r,h⟩:=h
   rw [r.length];exact len _ _ _ h
 . obtain⟨G,ds,sG,r,h⟩:=h
   obtain⟨t,ht,hq⟩:=hbody cdv A outer s H E (fun C=>∀ H',zi H H'->E (.ref C) none H') (fun C H' e z=>e H' z) hr
   refine⟨_,ht,G,_,jO N ds,G,zf0 sG r,hq ds _ h,⟨fun ρ σ G' H' F' q=>q .non G' H' F'.gr0 (.sc rfl .non),fun f d v G' H' g rd q=>q v G' H' g rd,fun _ _ _ _ _ q=>q.elim,fun _ _ _ _ _ q=>q.elim,fun _ _ _ _ _ _ _ _ _ q=>q.elim⟩⟩
def ZU(C:Addr)(E:Addr->Prop)(t:TA3):TS3:=fun _ ρ=>t ρ fun cs=>cs.length<=sizeLine/\E C
theorem zdN{K:Ybf}{H0 G H:Hp}{vs:List V}{cs:List Cl}(h:Vws K H0 G H vs cs):vs.length=cs.length:=by
 induction h with
 | nil=>rfl
 | cons _ _ ih=>rw [List.length_cons,List.length_cons,ih]
theorem jw{X:Cx}{H0:Hp}{x:Str}{C:Addr}{e0:Expr}{t:TA3}{E:XK}{E3:Addr->Prop}{np cpos pos:Pos}(hE:∀ C H',E3 C->zi H0 H'->E (.ref C) none H')(hf:Flies X E)(hc:X.calm=true)(hg:Gl X x)(hm:X.mg x=some (.ref C))(hx:PySem.W.excIn X.K C bmVE "ValueError.__new__" = true)(ha:PA3 X H0 [e0] t)
 (hdb:#[24]:=by decide) (hs:starEach [e0] X.env=[(false,eval e0 X.env)]:=by rfl):PS3 X H0 (.Raise (some (.Call (.Name x np) [e0] [] cpos)) none pos) (ZU C E3 t):=
 PS.imp (zhc hf hc hg hm hx ha.ok hdb hs) fun B σ H=>el7 fun G0 A ρ G F q L=>⟨G0,ρ,G,F,ha.mono ρ _ _ (fun cs ⟨z,e⟩ vs G' H' g w=>⟨by rw [zdN w];exact z,hE C H' e (F.gr g).keep⟩) q⟩
variable[LamW]
theorem JN{K:Ybf}{G:Hp}{v:V}{i:Str}(r:RdV K G v (.str i)):v=.str i:=by cases r;rfl
theorem zgl{K:Ybf}{G:Hp}{v:V}(r:RdV K G v .none):v=.non:=by cases r;rfl
section
variable{X:Cx}
def add3:R3:=fun a b Q=>match a,b with
 | .sh _ (.int i),.sh _ (.int j)=>Q true (.int (i+j))
 | .sh _ (.str x),.sh _ (.str y)=>x.length+y.length<=sizeLine/\Q true (.str (x++y))
 | _,_=>False
def int3(C:Int->Int->Prop)(g:Int->Int->D):R3:=fun a b Q=>match a,b with
 | .sh _ (.int i),.sh _ (.int j)=>C i j/\Q true (g i j)
 | _,_=>False
def int0(g:Int->Int->D):R3:=fun a b Q=>match a,b with
 | .sh _ (.int i),.sh _ (.int j)=>Q true (g i j)
 | _,_=>False
theorem zP:OpOk X (binaryOp .Add) add3:=by
 refine⟨fun a b Q Q' h q=>?_,fun H0=>OpR.imp (zc2.or ziM) fun x y H Q=>el3 fun G a b s wa wb q=>?_⟩
 . unfold add3 at *;split at q
   . exact h _ _ q
   . exact⟨q.1,h _ _ q.2⟩
   . exact q
 . unfold add3 at q;split at q
   . cases zB (zn wa).rd;cases zB (zn wb).rd
     exact .inl ⟨_,_,rfl,rfl,q _ G H (Gr.refl s) (.sc rfl (.int _))⟩
   . cases JN (zn wa).rd;cases JN (zn wb).rd
     exact .inr ⟨_,_,rfl,rfl,q.1,q.2 _ G H (Gr.refl s) (.sc rfl (.str _))⟩
   . exact q.elim
theorem opI3{f:Value->Value->Sem Value}{C:Int->Int->Prop}{g:Int->Int->Int}(h:OpR X f (rI C fun i j=>.int (g i j))):OpOk X f (int3 C fun i j=>.int (g i j)):=by
 refine⟨fun a b Q Q' h q=>?_,fun H0=>OpR.imp h fun x y H Q=>el3 fun G a b s wa wb q=>?_⟩
 . unfold int3 at *;split at q
   . exact⟨q.1,h _ _ q.2⟩
   . exact q
 . unfold int3 at q;split at q
   . cases zB (zn wa).rd;cases zB (zn wb).rd
     exact⟨_,_,rfl,rfl,q.1,q.2 _ G H (Gr.refl s) (.sc rfl (.int _))⟩
   . exact q.elim
theorem ziW{f:Value->Value->Sem Value}{g:Int->Int->Int}(h:OpR X f (rI0 fun i j=>.int (g i j))):OpOk X f (int0 fun i j=>.int (g i j)):=by
 refine⟨fun a b Q Q' h q=>?_,fun H0=>OpR.imp h fun x y H Q=>el3 fun G a b s wa wb q=>?_⟩
 . unfold int0 at *;split at q
   . exact h _ _ q
   . exact q
 . unfold int0 at q;split at q
   . cases zB (zn wa).rd;cases zB (zn wb).rd
     exact⟨_,_,rfl,rfl,q _ G H (Gr.refl s) (.sc rfl (.int _))⟩
   . exact q.elim
theorem zbU{f:Value->Value->Sem Value}{g:Int->Int->Bool}(h:OpR X f (rI0 fun i j=>.bl (g i j))):OpOk X f (int0 fun i j=>.bool (g i j)):=by
 refine⟨fun a b Q Q' h q=>?_,fun H0=>OpR.imp h fun x y H Q=>el3 fun G a b s wa wb q=>?_⟩
 . unfold int0 at *;split at q
   . exact h _ _ q
   . exact q
 . unfold int0 at q;split at q
   . cases zB (zn wa).rd;cases zB (zn wb).rd
     exact⟨_,_,rfl,rfl,q _ G H (Gr.refl s) (.sc rfl (.bl _))⟩
   . exact q.elim
theorem jE:OpOk X (binaryOp .Sub) (int0 fun i j=>.int (i - j)):=ziW ZH
theorem z6:OpOk X (binaryOp .Mult) (int3 IntMulOk fun i j=>.int (i*j)):=opI3 zlH
theorem zN:OpOk X (binaryOp .FloorDiv) (int3 j4 fun i j=>.int (i/j)):=opI3 zjv
theorem zS:OpOk X (binaryOp .Mod) (int3 (fun _ j=>0<j) fun i j=>.int (i%j)):=opI3 zjJ
theorem Jv:OpOk X (binaryOp .Pow) (int3 JY fun i j=>.int (i ^ j.toNat)):=opI3 zgC
theorem Jb:OpOk X (compareOp .Lt) (int0 fun i j=>.bool (decide (i<j))):=zbU zen
theorem j0:OpOk X (compareOp .LtE) (int0 fun i j=>.bool (decide (i<=j))):=zbU ziR
theorem jY:OpOk X (compareOp .Gt) (int0 fun i j=>.bool (decide (j<i))):=zbU zly
theorem zdM:OpOk X (compareOp .GtE) (int0 fun i j=>.bool (decide (j<=i))):=zbU zjE
def neg3:U3:=fun a Q=>match a with
 | .sh _ (.int i)=>Q true (.int (-i))
 | _=>False
theorem UnR.imp{f:Value->Sem Value}{r r':V->Hp->VK->Prop}(h:UnR X f r)(i:∀ x H Q,r' x H Q->r x H Q):UnR X f r':=fun pins s σ H x v Q I rx q=>h pins s σ H x v Q I rx (i _ _ _ q)
theorem ziL:UnOk X (unaryOp .USub) neg3:=by
 refine⟨fun a Q Q' h q=>?_,fun H0=>UnR.imp zjz fun x H Q ⟨G,a,s,wa,q⟩=>?_⟩
 . unfold neg3 at *;split at q
   . exact h _ _ q
   . exact q
 . unfold neg3 at q;split at q
   . cases zB (zn wa).rd
     exact⟨_,rfl,q _ G H (Gr.refl s) (.sc rfl (.int _))⟩
   . exact q.elim
def eqOk:D->D->Prop
 | .str _,.str _=>True
 | .int _,.int _=>True
 | d,e=>SeqAt.shaped d=true/\SeqAt.shaped e=true
def eqv3:D->D->Bool
 | .str x,.str y=>decide (x=y)
 | .int x,.int y=>decide (x=y)
 | d,e=>PyData.eqv d e
def eq3:R3:=fun a b Q=>a.dat=true/\b.dat=true/\eqOk a.d b.d/\Q true (.bool (eqv3 a.d b.d))
def ne3:R3:=fun a b Q=>a.dat=true/\b.dat=true/\eqOk a.d b.d/\Q true (.bool (!eqv3 a.d b.d))
theorem zgg{d e:D}:(∃ x y,d=.str x/\e=.str y/\eqv3 d e=decide (V.str x=V.str y))\/(∃ x y,d=.int x/\e=.int y/\eqv3 d e=decide (V.int x=V.int y))\/(eqv3 d e=PyData.eqv d e/\(eqOk d e->SeqAt.shaped d=true/\SeqAt.shaped e=true)):=by
 cases d<;>cases e<;>first
  | exact .inr (.inr ⟨rfl,fun h=>h⟩)
  | exact .inl ⟨_,_,rfl,rfl,by simp [eqv3]⟩
  | exact .inr (.inl ⟨_,_,rfl,rfl,by simp [eqv3]⟩)
theorem jg(hu:X.A.units+64<cLine):OpOk X (compareOp .Eq) eq3:=by
 refine⟨fun a b Q Q' h ⟨x,y,z,q⟩=>⟨x,y,z,h _ _ q⟩,fun H0=>OpR.imp (zfo.or (ziF hu)) fun x y H Q ⟨G,a,b,s,wa,wb,ha,hb,ho,q⟩=>?_⟩
 have ra:=wa.rd s ha;have rb:=wb.rd s hb
 rcases zgg (d:=a.d) (e:=b.d) with ⟨i,j,e1,e2,e3⟩|⟨i,j,e1,e2,e3⟩|⟨e3,hs⟩
 . rw [e1] at ra;rw [e2] at rb
   cases JN ra;cases JN rb
   exact .inl ⟨rfl,by rw [<-e3];exact q _ G H (Gr.refl s) (.sc rfl (.bl _))⟩
 . rw [e1] at ra;rw [e2] at rb
   cases zB ra;cases zB rb
   exact .inl ⟨rfl,by rw [<-e3];exact q _ G H (Gr.refl s) (.sc rfl (.bl _))⟩
 . exact .inr ⟨_,_,ra,rb,(hs ho).1,(hs ho).2,by rw [<-e3];exact q _ G H (Gr.refl s) (.sc rfl (.bl _))⟩
theorem Jj(hu:X.A.units+64<cLine):OpOk X (compareOp .NotEq) ne3:=by
 refine⟨fun a b Q Q' h ⟨x,y,z,q⟩=>⟨x,y,z,h _ _ q⟩,fun H0=>OpR.imp (zeq.or (zhJ hu)) fun x y H Q ⟨G,a,b,s,wa,wb,ha,hb,ho,q⟩=>?_⟩
 have ra:=wa.rd s ha;have rb:=wb.rd s hb
 rcases zgg (d:=a.d) (e:=b.d) with ⟨i,j,e1,e2,e3⟩|⟨i,j,e1,e2,e3⟩|⟨e3,hs⟩
 . rw [e1] at ra;rw [e2] at rb
   cases JN ra;cases JN rb
   exact .inl ⟨rfl,by rw [<-e3];exact q _ G H (Gr.refl s) (.sc rfl (.bl _))⟩
 . rw [e1] at ra;rw [e2] at rb
   cases zB ra;cases zB rb
   exact .inl ⟨rfl,by rw [<-e3];exact q _ G H (Gr.refl s) (.sc rfl (.bl _))⟩
 . exact .inr ⟨_,_,ra,rb,(hs ho).1,(hs ho).2,by rw [<-e3];exact q _ G H (Gr.refl s) (.sc rfl (.bl _))⟩
def isNone:Cl->Bool
 | .sh _ .none=>true
 | _=>false
theorem zeZ{K:Ybf}{H0 G H:Hp}{v:V}{c:Cl}(w:Vw K H0 G H v c):decide (v=.non)=isNone c:=by
 cases w with
 | sh r=>cases r.rd<;>simp [isNone]
 | ow _ _ _=>simp [isNone]
 | tr _=>simp [isNone]
 | dt _ _ _=>simp [isNone]
 | dk _ _=>simp [isNone]
 | fd _ _ _=>simp [isNone]
 | tk _=>simp [isNone]
 | dm _ _=>simp [isNone]
 | ex _=>simp [isNone]
def isN3:R3:=fun a b Q=>b=.sh true .none/\Q true (.bool (isNone a))
def notN3:R3:=fun a b Q=>b=.sh true .none/\Q true (.bool (!isNone a))
theorem zlk:OpOk X (compareOp .Is) isN3:=⟨fun a b Q Q' h ⟨e,q⟩=>⟨e,h _ _ q⟩,fun H0=>OpR.imp zl7 fun x y H Q hyp=>by
 obtain⟨G,a,b,s,wa,wb,e,q⟩:=hyp;subst e;exact⟨zgl (zn wb).rd,by rw [zeZ wa];exact q _ G H (Gr.refl s) (.sc rfl (.bl _))⟩⟩
theorem zbp:OpOk X (compareOp .IsNot) notN3:=⟨fun a b Q Q' h ⟨e,q⟩=>⟨e,h _ _ q⟩,fun H0=>OpR.imp zlL fun x y H Q hyp=>by
 obtain⟨G,a,b,s,wa,wb,e,q⟩:=hyp;subst e;exact⟨zgl (zn wb).rd,by rw [zeZ wa];exact q _ G H (Gr.refl s) (.sc rfl (.bl _))⟩⟩
def ixD:D->Int->Option D
 | .list ds,i=>atI ds i
 | .tuple ds,i=>atI ds i
 | .str z,i=>if z.length<=sizeLine then(atI z.cps.toList i).map fun c=>.str ⟨#[c]⟩ else none
 | _,_=>none
def ix3:R3:=fun a b Q=>match b with
 | .sh _ (.int i)=>a.dat=true/\∃ d,ixD a.d i=some d/\Q (a.f||zw d) d
 | _=>False
theorem ZR{K:Ybf}{H0 G:Hp}{f:Bool}{vs:List V}{ds:List D}{i:Int}{d:D}(r:Rfs K H0 G f vs ds)(h:atI ds i=some d):∃ v,atI vs i=some v/\Rf K H0 G f v d:=by
 unfold atI at *;rw [r.length];cases e:ixN ds.length i with
 | none=>rw [e] at h;cases h
 | some j=>
  rw [e] at h;obtain⟨x,hx,rx⟩:=r.get (i:=j) (show ds[j]?=some d from h)
  exact⟨x,hx,rx⟩
theorem IxR.imp{r r':R2}(h:IxR X r)(i:∀ x y H Q,r' x y H Q->r x y H Q):IxR X r':=fun e f pins s σ H x y v u Q I rx ry q z=>h e f pins s σ H x y v u Q I rx ry (i _ _ _ _ q) z
theorem zlh(H0:Hp):IxR X (zaz X.K H0 ix3):=IxR.imp zma fun x y H Q=>el3 fun G a b s wa wb q=>by
 unfold ix3 at q;split at q
 . obtain⟨ha,d,hd,q⟩:=q
   rename_i i;cases zB (zn wb).rd;cases wa with
   | @sh v0 f d0 r=>
    cases d0 with
    | list ds=>
     obtain⟨a,xs,rfl,hq,rs⟩:=JP r;obtain⟨v,hv,rv⟩:=ZR rs (show atI ds i=some d from hd)
     exact .inl ⟨_,_,_,v,rfl,rfl,s.seq hq,hv,q v G H (Gr.refl s) rv.or⟩
    | tuple ds=>
     obtain⟨a,xs,rfl,hq,rs⟩:=zbx r;obtain⟨v,hv,rv⟩:=ZR rs (show atI ds i=some d from hd)
     exact .inr (.inl ⟨_,_,_,v,rfl,rfl,s.tup hq,hv,q v G H (Gr.refl s) rv.or⟩)
    | str z=>
     cases JN r.rd
     have hd':(if z.length<=sizeLine then(atI z.cps.toList i).map fun c=>PyData.str ⟨#[c]⟩ else none)=some d:=hd
     split at hd'
     . rename_i hz
       cases e:atI z.cps.toList i with
       | none=>rw [e] at hd';cases hd'
       | some c=>
        rw [e] at hd';cases hd';exact .inr (.inr ⟨z,i,c,rfl,rfl,hz,e,q _ G H (Gr.refl s) (.sc rfl (.str _))⟩)
     . cases hd'
    | _=>cases hd
   | ow h rs n=>
    obtain⟨v,hv,rv⟩:=ZR rs (show atI _ i=some d from hd)
    exact .inl ⟨_,_,_,v,rfl,rfl,SqL.of h,hv,q v G H (Gr.refl s) rv.or⟩
   | tr h=>cases ha
   | dt _ _ _=>cases ha
   | dk _ _=>cases ha
   | fd _ _ _=>cases ha
   | tk h=>
    obtain⟨v,hv,rv⟩:=ZR (⟨zaA _,fun _=>zbE _⟩:Rfs _ _ _ true _ _) (show atI _ i=some d from hd)
    exact .inr (.inl ⟨_,_,_,v,rfl,rfl,s.tup (SqT.of h),hv,q v G H (Gr.refl s) rv.or⟩)
   | dm _ _=>cases ha
   | ex h=>cases ha
 . exact q.elim
theorem zfY:∀ a b (Q Q':Bool->D->Prop),(∀ f c,Q f c->Q' f c)->ix3 a b Q->ix3 a b Q':=fun a b Q Q' h q=>by
 unfold ix3 at *;split at q
 . obtain⟨x,d,e,q⟩:=q;exact⟨x,d,e,h _ _ q⟩
 . exact q
theorem at3{H0:Hp}{a b:Expr}{pos:Pos}{ta tb:TE3}(ha:PE3 X H0 a ta)(hb:PE3 X H0 b tb)(hs:J9 b):PE3 X H0 (.Subscript a b pos) (o3 ix3 ta tb):=
 ⟨ZF zfY ha.mono hb.mono,PE.imp (jM (zlh H0) ha.ok hb.ok hs) (zbN zfY ha.mono hb.mono)⟩
abbrev TO3:=Env3->(Option Int->Prop)->Prop
def zib(K:Ybf)(H0:Hp)(t:TO3):TO:=fun σ H Q=>∃ G0 ρ G,Fr3 K H0 G0 ρ σ G H/\t ρ fun o=>∀ G' H',Gr G H G' H'->Q o H'
structure PO3(X:Cx)(H0:Hp)(e:Option Expr)(t:TO3):Prop where
 mono:∀ ρ (Q Q':Option Int->Prop),(∀ c,Q c->Q' c)->t ρ Q->t ρ Q'
 ok:PO X e (zib X.K H0 t)
theorem PO.imp{e:Option Expr}{t t':TO}(h:PO X e t)(i:∀ σ H Q,t' σ H Q->t σ H Q):PO X e t':=fun pins s σ H Q I q=>h pins s σ H Q I (i _ _ _ q)
def zaP(t:TE3):TO3:=fun ρ Q=>t ρ fun c=>∃ i,c=.sh true (.int i)/\Q (some i)
variable{H0:Hp}{pos p2:Pos}
theorem zfd{e:Expr}{t:TE3}(h:PE3 X H0 e t):PO3 X H0 (some e) (zaP t):=⟨fun ρ Q Q' hq q=>h.mono ρ _ _ (fun c ⟨i,e,q⟩=>⟨i,e,hq _ q⟩) q,PO.imp (zji h.ok) fun σ H Q=>el5 fun G0 ρ G F q=>⟨G0,ρ,G,F,h.mono ρ _ _ (fun c hyp v G' H' g w=>by
 obtain⟨i,e,q⟩:=hyp;subst e;exact⟨i,zB (zn w).rd,q G' H' g⟩) q⟩⟩
def cut{α : Type}(xs:List α)(lo hi:Option Int):List α:=(xs.drop (HT.sIx xs.length 0 lo)).take (HT.sIx xs.length xs.length hi - HT.sIx xs.length 0 lo)
def slL3(te:TE3)(tl th:TO3):TN3:=fun ρ Q=>te ρ fun c=>tl ρ fun l=>th ρ fun u=>match c with
 | .sh f (.list ds)=>Q (f||ds.all zw) (cut ds l u)
 | .ow f ds=>Q (f||ds.all zw) (cut ds l u)
 | _=>False
theorem SlR.imp{r r':V->Option Int->Option Int->Hp->VK->Prop}(h:SlR X r)(i:∀ x lo hi H Q,r' x lo hi H Q->r x lo hi H Q):SlR X r':=by
 unfold SlR at *;intros
 apply h<;>first|assumption|skip
 apply i;assumption
theorem zfi{K:Ybf}{H0 G:Hp}{f:Bool}{vs:List V}{ds:List D}(r:Rfs K H0 G f vs ds)(lo hi:Option Int):Rfs K H0 G f (cutV vs lo hi) (cut ds lo hi):=by
 unfold cutV cut;rw [r.length];exact(r.drop _).take _
theorem zhh{e:Expr}{lo hi:Option Expr}{te:TE3}{tl th:TO3}(he:PE3 X H0 e te)(hl:PO3 X H0 lo tl)(hh:PO3 X H0 hi th):PN3 X H0 (.Subscript e (.Slice lo hi none p2) pos) (slL3 te tl th):=by
 refine⟨fun ρ Q Q' h q=>he.mono ρ _ _ (fun c=>hl.mono ρ _ _ fun l=>hh.mono ρ _ _ fun u q=>?_) q,PE.imp (zk1 zk9 he.ok hl.ok hh.ok) fun σ H Q=>el5 fun G0 ρ G F q=>?_⟩
 . split at q
   . exact h _ _ q
   . exact h _ _ q
   . exact q
 . refine⟨G0,ρ,G,F,he.mono ρ _ _ (fun c qc v G1 H1 g1 w1=>⟨G0,ρ,G1,F.gr g1,hl.mono ρ _ _ (fun l ql G2 H2 g2=>⟨G0,ρ,G2,F.gr (g1.trans g2),hh.mono ρ _ _ (fun u qu G3 H3 g3=>?_) ql⟩) qc⟩) q⟩
   have w3:=(w1.gr g2).gr g3;have gg:=(g1.trans g2).trans g3
   split at qu
   . obtain⟨a,xs,rfl,hq,rs⟩:=JP (zn w3)
     exact⟨a,xs,rfl,g3.sub.seq hq,fun p hp=>qu p _ G3 H3 gg hp (zfi rs.or _ _)⟩
   . cases w3 with
     | ow h rs n=>exact⟨_,_,rfl,SqL.of h,fun p hp=>qu p _ G3 H3 gg hp (zfi rs.or _ _)⟩
   . exact qu.elim
def lenD:D->Option Nat
 | .list ds=>some ds.length
 | .tuple ds=>some ds.length
 | .str z=>if z.length<=sizeLine then some z.length else none
 | _=>none
def len3:C3:=fun cs Q=>match cs with
 | [c]=>c.dat=true/\∃ n,lenD c.d=some n/\Q true (.int n)
 | _=>False
theorem zD:CallOk X (.builtin "len") len3:=by
 refine⟨fun cs Q Q' h q=>?_,fun H0=>zO.imp (zO.or ZB zhR) fun xs H Q=>el2 fun G cs s w q=>?_⟩
 . unfold len3 at *;split at q
   . obtain⟨a,n,e,q⟩:=q;exact⟨a,n,e,h _ _ q⟩
   . exact q
 . unfold len3 at q;split at q
   . obtain⟨v,rfl,w1⟩:=vws1 w
     obtain⟨ha,n,hn,q⟩:=q;have r:=w1.rd s ha;generalize e:Cl.d _=d at r hn;cases r with
     | lst hq rs=>cases hn;exact .inl ⟨_,_,rfl,.inl hq,by rw [rs.length];exact q _ G H (Gr.refl s) (.sc rfl (.int _))⟩
     | tup hq rs=>cases hn;exact .inl ⟨_,_,rfl,.inr hq,by rw [rs.length];exact q _ G H (Gr.refl s) (.sc rfl (.int _))⟩
     | str z=>
      have hn':(if z.length<=sizeLine then some z.length else none)=some n:=hn
      split at hn'
      . rename_i hz;cases hn';exact .inr ⟨z,rfl,hz,q _ G H (Gr.refl s) (.sc rfl (.int _))⟩
      . cases hn'
     | _=>cases hn
   . exact q.elim
def abs3:C3:=fun cs Q=>match cs with
 | [.sh _ (.int i)]=>Q true (.int (if i<0 then -i else i))
 | _=>False
theorem zdh:CallOk X (.builtin "abs") abs3:=by
 refine⟨fun cs Q Q' h q=>?_,fun H0=>zO.imp zjt fun xs H Q=>el2 fun G cs s w q=>?_⟩
 . unfold abs3 at *;split at q
   . exact h _ _ q
   . exact q
 . unfold abs3 at q;split at q
   . obtain⟨v,rfl,w1⟩:=vws1 w
     cases zB (zn w1).rd
     exact⟨_,rfl,q _ G H (Gr.refl s) (.sc rfl (.int _))⟩
   . exact q.elim
def max23:C3:=fun cs Q=>match cs with
 | [.sh _ (.int i),.sh _ (.int j)]=>Q true (.int (if j > i then j else i))
 | _=>False
theorem ze7(hc:X.calm=true):CallOk X (.builtin "max") max23:=by
 refine⟨fun cs Q Q' h q=>?_,fun H0=>zO.imp (zlD hc) fun xs H Q=>el2 fun G cs s w q=>?_⟩
 . unfold max23 at *;split at q
   . exact h _ _ q
   . exact q
 . unfold max23 at q;split at q
   . obtain⟨v,u,rfl,w1,w2⟩:=vws2 w
     cases zB (zn w1).rd;cases zB (zn w2).rd
     exact⟨_,_,rfl,q _ G H (Gr.refl s) (.sc rfl (.int _))⟩
   . exact q.elim
def min23:C3:=fun cs Q=>match cs with
 | [.sh _ (.int i),.sh _ (.int j)]=>Q true (.int (if j<i then j else i))
 | _=>False
theorem zhe(hc:X.calm=true):CallOk X (.builtin "min") min23:=by
 refine⟨fun cs Q Q' h q=>?_,fun H0=>zO.imp (zgP hc) fun xs H Q=>el2 fun G cs s w q=>?_⟩
 . unfold min23 at *;split at q
   . exact h _ _ q
   . exact q
 . unfold min23 at q;split at q
   . obtain⟨v,u,rfl,w1,w2⟩:=vws2 w
     cases zB (zn w1).rd;cases zB (zn w2).rd
     exact⟨_,_,rfl,q _ G H (Gr.refl s) (.sc rfl (.int _))⟩
   . exact q.elim
end
end L3
namespace L2
open PySem PySem.Spec PyProof.Rows
def Itz(K:Ybf)(a b:Addr):It:=
 ⟨fun i H=>∃ xs ys x y,SqL K H a xs/\SqL K H b ys/\xs[i]?=some x/\ys[i]?=some y,
  fun i H v H'=>∃ p x y,H p=none/\v=.ref p/\H'=upd H p (.tup [x,y])/\∀ xs ys,SqL K H a xs->SqL K H b ys->xs[i]?=some x/\ys[i]?=some y,
  fun i H=>∃ xs ys,SqL K H a xs/\SqL K H b ys/\i=min xs.length ys.length⟩
theorem zjR{P:Program}{w:World}{K:Ybf}{elts:List Expr}{k:Nat}{pos:Pos}{z TI TO i1 i2 l1 l2:Addr}(D:ZipApart z TI TO i1 i2 l1 l2) :
 Turn P w K (.Tuple elts k pos) (Itz K l1 l2) [z,TI,TO,i1,i2] z (fun i h=>IsZip h z TI TO .none/\IsPair h TI (.ref i1) (.ref i2)/\(∃ a b,IsPair h TO a b)/\h.IsListIter i1 l1 i/\h.IsListIter i2 l2 i) where
 mem:=by simp
 obj:=fun i h hyp c hc=>by
  obtain⟨hz,hTI,⟨a,b,hTO⟩,⟨o1,e1,c1,d1⟩,⟨o2,e2,c2,d2⟩⟩:=hyp;have hc':c=z\/c=TI\/c=TO\/c=i1\/c=i2:=by simpa using hc
  rcases hc' with rfl|rfl|rfl|rfl|rfl
  . exact⟨_,hz,fun v z=>by cases(show Data.fields _=Data.cell v from z)⟩
  . exact⟨_,hTI,fun v z=>by cases(show Data.seq _ _=Data.cell v from z)⟩
  . exact⟨_,hTO,fun v z=>by cases(show Data.seq _ _=Data.cell v from z)⟩
  . exact⟨o1,e1,fun v z=>by rw [d1] at z;cases z⟩
  . exact⟨o2,e2,fun v z=>by rw [d2] at z;cases z⟩
 keep:=fun i h h' ⟨hz,hTI,⟨a,b,hTO⟩,h1,h2⟩ kk=>
  ⟨kk z (by simp) _ hz,kk TI (by simp) _ hTI,⟨a,b,kk TO (by simp) _ hTO⟩,h1.at fun o e=>kk i1 (by simp) o e,h2.at fun o e=>kk i2 (by simp) o e⟩
 item:=by
  intro X hP hw hK hc i pins s σ H E I hf st hg;subst hP hw hK;obtain⟨xs,ys,x,y,q1,q2,hx,hy⟩:=hg;obtain⟨its1,r1,p1,_⟩:=I.list q1;obtain⟨its2,r2,p2,_⟩:=I.list q2;obtain⟨u,hu,ru⟩:=r1.get hx;obtain⟨v,hv,rv⟩:=r2.get hy;have W:=WalksT.zip2 (prog:=X.prog) (w:=X.w) (I.ok.hd hc) z TI TO i1 i2 l1 l2 D its1.toArray its2.toArray;have hi:i<min its1.toArray.size its2.toArray.size:=by
   have a1:=(Ya8.mp hu).1;have a2:=(Ya8.mp hv).1;simp only [YaZ];omega
  obtain⟨hz,hTI,hTO,h1,h2⟩:=st;have olt:∀ b∈[z,TI,TO,i1,i2],b<s.heap.objs.size:=fun b hb=>by
   obtain⟨a,b',hTO'⟩:=hTO;have hc':b=z\/b=TI\/b=TO\/b=i1\/b=i2:=by simpa using hb
   rcases hc' with rfl|rfl|rfl|rfl|rfl
   . exact YaX hz
   . exact YaX hTI
   . exact YaX hTO'
   . obtain⟨_,e,_⟩:=h1;exact YaX e
   . obtain⟨_,e,_⟩:=h2;exact YaX e
  refine W.item i s _ _ hi ⟨hz,hTI,hTO,h1,h2,p1.isList,p2.isList⟩ fun T vals h1' tk hv' hT hTup mid kp=>?_
  obtain⟨u',v',hu',hv'',e⟩:=hv';subst e;have eu:u'=u:=by
   have:its1[i]?=some u':=by simpa using hu'
   rw [hu] at this;cases this;rfl
  have ev:v'=v:=by
   have:its2[i]?=some v':=by simpa using hv''
   rw [hv] at this;cases this;rfl
  subst eu ev;refine⟨_,rfl,W.go elts k pos i T _ _ _ mid fun h2' st2 kp2=>?_⟩
  have sub:∀ b∈[z,TO,i1,i2],b∈[z,TI,TO,i1,i2]:=fun b hb=>by
   have hc':b=z\/b=TO\/b=i1\/b=i2:=by simpa using hb
   rcases hc' with rfl|rfl|rfl|rfl<;>simp
  have I1:Inv X pins σ H { s with heap:=h2',toks:=tk }:=I.turnedL (ch:=[z,TO,i1,i2]) (fun b o hb e=>kp2 b o hb (kp b o hb e)) fun b hb=>hf b (sub b hb)
  have hTn:H T=none:=I.hok.fresh hT;obtain⟨o,ho,oc,on,od⟩:=hTup;have ho2:=kp2 T o (W.apart i T _ mid) ho;have I2:Inv X pins σ (upd H T (.tup [x,y])) { s with heap:=h2',toks:=tk }:=I1.track hTn (Ya5 I.sz hT) (Wbd (YaU I.lt hT)) (fun n c e z=>by
   obtain⟨vv,q⟩:=I.cell n c e;exact absurd (YaU q.lt (by rw [z];exact hT)) (Yap _)) (fun p hp z=>absurd (YaU (YaX (I.pin p hp).1) (by rw [z];exact hT)) (Yap _))
   ⟨by show 2<=sizeLine;decide,[u',v'],.cons ru (.cons rv .nil),o,ho2,oc,on,od⟩
  refine⟨.ref T,_,I2,rfl,⟨T,x,y,hTn,rfl,rfl,fun xs' ys' z1 z2=>?_⟩,⟨st2.1,st2.2.1,st2.2.2.1,st2.2.2.2.1,st2.2.2.2.2.1⟩,fun b hb=>?_⟩
  . rw [I.list_inj z1 q1,I.list_inj z2 q2];exact⟨hx,hy⟩
  . rw [zc (Yaf (YaU (olt b hb) hT))];exact(hf b hb).1
 done:=by
  intro X hP hw hK hc i pins s σ H E I hf st hg;subst hP hw hK;obtain⟨xs,ys,q1,q2,hi⟩:=hg;obtain⟨its1,r1,p1,_⟩:=I.list q1;obtain⟨its2,r2,p2,_⟩:=I.list q2;have W:=WalksT.zip2 (prog:=X.prog) (w:=X.w) (I.ok.hd hc) z TI TO i1 i2 l1 l2 D its1.toArray its2.toArray;obtain⟨hz,hTI,hTO,h1,h2⟩:=st;have ei:i=min its1.toArray.size its2.toArray.size:=by simp only [YaZ];rw [<-r1.length,<-r2.length];exact hi
  subst ei;refine W.done s _ _ ⟨hz,hTI,hTO,h1,h2,p1.isList,p2.isList⟩ fun h' tk kp=>⟨rfl,?_⟩
  exact I.turnedL (ch:=[z,TO,i1,i2]) kp fun b hb=>hf b (by
   have hc':b=z\/b=TO\/b=i1\/b=i2:=by simpa using hb
   rcases hc' with rfl|rfl|rfl|rfl<;>simp)
 self:=fun _ _ _ _ _ st h=>wpAny_pyIter_zip st.1 h
def iZip(K:Ybf)(ta:TA):TI:=fun σ H R=>ta σ H fun vs H1=>∃ a b,vs=[.ref a,.ref b]/\(∃ xs,SqL K H1 a xs)/\(∃ ys,SqL K H1 b ys)/\R (Itz K a b) H1
theorem zcD{X:Cx}{elts:List Expr}{k:Nat}{tpos:Pos}{a b:Expr}{ta:TA}{p pos:Pos}(hg:Gl X "zip")(hm:X.mg "zip" = none)(ha:PA X [a,b] ta)(hs:starEach [a,b] X.env=[(false,eval a X.env),(false,eval b X.env)]:=by rfl)
 (hs2:starEach [b] X.env=[(false,eval b X.env)]:=by rfl):PI X (.Tuple elts k tpos) (.Call (.Name "zip" p) [a,b] [] pos) (iZip X.K ta):=by
 intro pins s σ H R I h;refine Call_ (JE I hg hm zkv (Wac (thn (ha pos pins s σ H _ I h) fun us s1 ⟨vs,H1,I1,r1,q1⟩=>?_) (by rw [hs,hs2]) (by rw [hs2];rfl)))
 obtain⟨l1,l2,e,⟨xs,hx⟩,⟨ys,hy⟩,q⟩:=q1;subst e;obtain⟨u,v,rfl,ru,rv⟩:=zbf r1;cases(show u=Value.ref l1 from ru)
 cases(show v=Value.ref l2 from rv)
 obtain⟨its1,_,p1,_⟩:=I1.list hx;obtain⟨its2,_,p2,_⟩:=I1.list hy;have lt1:l1<s1.heap.objs.size:=by obtain⟨o,e,_⟩:=p1.isList;exact YaX e
 have lt2:l2<s1.heap.objs.size:=by obtain⟨o,e,_⟩:=p2.isList;exact YaX e
 refine call_zip_2 p1.isList p2.isList fun h' hz hTI hTO hi1 hi2 hsz kp=>wpAny_pyIter_zip hz ?_
 have I2:Inv X pins σ H1 { s1 with heap:=h' }:=I1.kept (t':=s1.toks) kp
 have D:ZipApart (s1.heap.objs.size+4) (s1.heap.objs.size+2) (s1.heap.objs.size+3) s1.heap.objs.size (s1.heap.objs.size+1) l1 l2:=PySem.W.ktu_apart _ _ _ lt1 lt2;refine⟨_,[s1.heap.objs.size+4,s1.heap.objs.size+2,s1.heap.objs.size+3,s1.heap.objs.size,s1.heap.objs.size+1],_,Itz X.K l1 l2,H1,rfl,I2,zjR D,⟨hz,hTI,⟨_,_,hTO⟩,hi1,hi2⟩,fun b hb=>?_,q⟩
 have hb':s1.heap.objs.size<=b:=by
  have hc':b=s1.heap.objs.size+4\/b=s1.heap.objs.size+2\/b=s1.heap.objs.size+3\/b=s1.heap.objs.size\/b=s1.heap.objs.size+1:=by simpa using hb
  rcases hc' with rfl|rfl|rfl|rfl|rfl<;>first|exact YaY _|exact Nat.le_add_right _ _
 have f:=I1.fpOk (H':=H1) hb' (I1.hok.fresh hb');exact⟨f.1,f.2.1,f.2.2.1,f.2.2.2.1,f.2.2.2.2.1,f.2.2.2.2.2⟩
section
variable{X:Cx}
theorem zfV{us:List Value}{ns:List Int}(h:IntsAre us ns):∃ xs:Array (Int×Tok),us.toArray=intItems xs/\xs.toList.map (·.1)=ns:=by
 obtain⟨xs,e⟩:=h.allInts.items;refine⟨xs,e,?_⟩;have e1:=h.numsOf;have e2:us=xs.toList.map fun p=>Value.int p.1 p.2:=by
  have:=congrArg Array.toList e
  simpa [intItems] using this
 rw [e2,numsOf_map] at e1;exact e1
theorem zlO(hc:X.calm=true):zO X (.builtin "sum") (fun xs H Q=>∃ (p:Addr) (ns:List Int),xs=[.ref p]/\SqL X.K H p (ns.map V.int)/\Q (.int ns.sum) H):=by
 intro pins s σ H xs us Q I r h;obtain⟨p,ns,rfl,hq,q⟩:=h;obtain⟨u,rfl,ru⟩:=Jr r;cases(show u=Value.ref p from ru)
 obtain⟨its,rv,pl,_⟩:=I.list hq;obtain⟨ys,e1,e2⟩:=zfV (zbY rv);have hl:=pl.isList;rw [e1] at hl;refine sum_intListG (I.ok.hd hc) hl fun h' tk t' kp=>⟨.int ns.sum,H,I.kept (t':=tk) kp,⟨t',?_⟩,q⟩
 rw [preSum_eq,Wal (by simp),e2]
def maxL:List Int->Int
 | []=>0
 | x::xs=>xs.foldl (fun a b=>if b > a then b else a) x
theorem zke{α β : Type}(f:β->α->β)(b:β)(l:List α)(a:α):(l++[a]).foldl f b=f (l.foldl f b) a:=by rw [WaB];rfl
theorem zeR(ns:List Int):∀ n,n<ns.length->ns.getD (argBest (fun i j=>decide (ns.getD i 0 > ns.getD j 0)) n) 0=maxL (ns.take (n+1))
 | 0, h => by
  cases ns with
  | nil=>simp at h
  | cons x xs=>simp [argBest,maxL]
 | n + 1, h => by
  have ih:=zeR ns n #[0]
  have et:ns.take (n+1+1)=ns.take (n+1)++[ns.getD (n+1) 0]:=by
   rw [List.take_succ_eq_append_getElem h,YaP,YaQ h];rfl
  rw [et];cases q:ns.take (n+1) with
  | nil=>
   have:=congrArg List.length q;rw [WaN,List.length_nil] at this;omega
  | cons x xs=>
   rw [q] at ih;have e1:maxL (x::xs++[ns.getD (n+1) 0])=if ns.getD (n+1) 0 > maxL (x::xs) then ns.getD (n+1) 0 else maxL (x::xs):=by
    show(xs++[ns.getD (n+1) 0]).foldl _ x=_
    rw [zke];rfl
   rw [e1,<-ih];show ns.getD (if decide (ns.getD (n+1) 0 > ns.getD (argBest (fun i j=>decide (ns.getD i 0 > ns.getD j 0)) n) 0)=true then n+1 else argBest (fun i j=>decide (ns.getD i 0 > ns.getD j 0)) n) 0=_
   by_cases hc:ns.getD (n+1) 0 > ns.getD (argBest (fun i j=>decide (ns.getD i 0 > ns.getD j 0)) n) 0
   . rw [if_pos (decide_eq_true hc),if_pos hc]
   . rw [if_neg (by simpa using hc),if_neg hc]
theorem zfg{xs:Array (Int×Tok)}{ns:List Int}(e:xs.toList.map (·.1)=ns):numAt xs=fun i=>ns.getD i 0:=by
 funext i
 subst e;unfold numAt;rw [YaP,Ya0,Array.getElem?_toList]
theorem zgH(hc:X.calm=true):zO X (.builtin "max") (fun xs H Q=>∃ (p:Addr) (ns:List Int),xs=[.ref p]/\ns≠[]/\SqL X.K H p (ns.map V.int)/\Q (.int (maxL ns)) H):=by
 intro pins s σ H xs us Q I r h;obtain⟨p,ns,rfl,hn,hq,q⟩:=h;obtain⟨u,rfl,ru⟩:=Jr r;cases(show u=Value.ref p from ru)
 obtain⟨its,rv,pl,_⟩:=I.list hq;obtain⟨ys,e1,e2⟩:=zfV (zbY rv);have hl:=pl.isList;rw [e1] at hl;have hs:ys.size=ns.length:=by rw [<-e2,YaR];simp
 have hp:0<ns.length:=List.length_pos_iff.mpr hn;refine max_intList (I.ok.hd hc) hl #[0] fun v h' tk hv kp=>?_
 rw [zfg e2,hs] at hv;have hb:=zeR ns (ns.length - 1) #[0]
 rw [show ns.length - 1+1=ns.length by omega,YaH] at hb
 generalize argBest (fun i j=>decide (ns.getD i 0 > ns.getD j 0)) (ns.length - 1)=k at hv hb
 have hv':∃ a t,v=.int a t/\ns.getD k 0=a:=by
  unfold intItems at hv;rw [Array.getElem?_map] at hv;cases ek:ys[k]? with
  | none=>rw [ek] at hv;cases hv
  | some pr=>
   rw [ek] at hv;cases hv;refine⟨_,_,rfl,?_⟩;have:=congrFun (zfg e2) k;rw [<-this];unfold numAt;rw [ek];rfl
 obtain⟨a,t,rfl,ea⟩:=hv';exact⟨.int (maxL ns),H,I.kept (t':=tk) kp,⟨t,by rw [<-hb,ea]⟩,q⟩
def isD:PyData->String->Option Bool
 | .int _,n=>if n = "int" then some true else if n = "bool" then some false else none
 | .tuple _,n=>if n = "tuple" then some true else none
 | .list _,n=>if n = "list" then some true else none
 | .str _,n=>if n = "str" then some true else none
 | .bool _,n=>if n = "bool" then some true else none
 | _,_=>none
def tyD:PyData->String
 | .int _=>"int"
 | .tuple _=>"tuple"
 | .list _=>"list"
 | .str _=>"str"
 | .bool _=>"bool"
 | _=>"NoneType"
theorem zkT{d:PyData}{n:String}{b:Bool}(h:isD d n=some b):isB (tyD d) n=some b:=by
 unfold isD at h
 split at h
 . split at h
   . rename_i e;subst e;cases h;rfl
   . split at h
     . rename_i e;subst e;cases h;rfl
     . cases h
 all_goals first
  | (split at h
     . rename_i e;subst e;cases h;rfl
     . cases h)
  | cases h
theorem ziA:zO X (.builtin "isinstance") (fun xs H Q=>∃ x n d b,xs=[x,.ty n]/\RdV X.K H x d/\isD d n=some b/\Q (.bl b) H):=by
 intro pins s σ H xs us Q I r h;obtain⟨x,n,d,b,rfl,rd,hb,q⟩:=h;obtain⟨u,c,rfl,rx,rc⟩:=zbf r;cases(show c=Value.type n from rc)
 have e:=zlg (K:=X.K) (zkT hb);have fin:∀ tk,EP X pins σ Q (.bool b) { s with toks:=tk }:=fun tk=>⟨.bl b,H,I.tok tk,rfl,q⟩
 cases rd with
 | non=>cases hb
 | bl y=>cases(show u=Value.bool y from rx);exact WaX PySem.W.kitx_bool I.kIn True.intro e (fun z=>nomatch z) fin
 | int i=>obtain⟨t,q⟩:=(show ∃ t,u=Value.int i t from rx);cases q;exact WaX PySem.W.kitx_int I.kIn True.intro e (fun z=>nomatch z) fin
 | str y=>obtain⟨t,q⟩:=(show ∃ t,u=Value.str y t from rx);cases q;exact WaX PySem.W.kitx_str I.kIn True.intro e (fun z=>nomatch z) fin
 | lst hq rs=>
  cases rx;obtain⟨its,rv,⟨o,n,ho,hc,_,hd⟩,_⟩:=I.list hq
  exact WaX PySem.W.kitx_list I.kIn ⟨o,ho,hc⟩ e (fun z=>nomatch z) fin
 | tup hq rs=>
  cases rx;obtain⟨its,rv,⟨o,ho,hc,n,hd⟩,_⟩:=I.tuple hq
  exact WaX PySem.W.kitx_tuple I.kIn ⟨o,ho,hc⟩ e (fun z=>nomatch z) fin
end
section
variable{X:Cx}
end
end L2
namespace L3
open PySem PySem.Spec PyProof.Rows L2
variable[LamW]
section
variable{X:Cx}{H0:Hp}{pos p:Pos}{e:Expr}
def Jp:List D->Option #[22]
 | []=>some []
 | .int i::r=>(Jp r).map (i :: ·)
 | _::_=>none
theorem j6(ns:List Int):Jp (ns.map .int)=some ns:=by
 induction ns with
 | nil=>rfl
 | cons a r ih=>simp [Jp,ih]
theorem zcF{K:Ybf}{G:Hp}{vs:List V}{ds:List D}{ns:List Int}(r:RdVs K G vs ds)(e:Jp ds=some ns):vs=ns.map V.int:=by
 induction vs generalizing ds ns with
 | nil=>cases r;cases e;rfl
 | cons v vs ih=>
  cases r with
  | @cons _ _ d ds a b=>
   cases d with
   | int i=>
    have e':(Jp ds).map (i :: ·)=some ns:=e;cases q:Jp ds with
    | none=>rw [q] at e';cases e'
    | some ms=>
     rw [q] at e';cases e';rw [Ya1,ih b q,zB a]
   | _=>cases e
theorem JI{K:Ybf}{H0 G H:Hp}{v:V}{c:Cl}{ds:List D}(w:Vw K H0 G H v c)(s:Sub G H)(hd:c.dat=true)(h:c.d=.list ds):∃ a vs,v=.ref a/\SqL K H a vs/\Rfs K H0 G c.f vs ds:=by
 cases w with
 | sh r=>
  have h':_=PyData.list ds:=h;subst h';obtain⟨a,xs,rfl,hq,rs⟩:=JP r;exact⟨a,xs,rfl,s.seq hq,rs⟩
 | ow hh r n=>cases h;exact⟨_,_,rfl,SqL.of hh,r⟩
 | tr hh=>cases hd
 | dt _ _ _=>cases hd
 | dk _ _=>cases hd
 | fd _ _ _=>cases hd
 | tk _=>cases h
 | dm _ _=>cases hd
 | ex hh=>cases hd
def sum3:C3:=fun cs Q=>match cs with
 | [c]=>c.dat=true/\∃ ds ns,c.d=.list ds/\Jp ds=some ns/\Q true (.int ns.sum)
 | _=>False
theorem Jk(hc:X.calm=true):CallOk X (.builtin "sum") sum3:=by
 refine⟨fun cs Q Q' h q=>?_,fun H0=>zO.imp (zlO hc) fun xs H Q=>el2 fun G cs s w q=>?_⟩
 . unfold sum3 at *;split at q
   . obtain⟨a,ds,ns,h1,h2,q⟩:=q;exact⟨a,ds,ns,h1,h2,h _ _ q⟩
   . exact q
 . unfold sum3 at q;split at q
   . obtain⟨v,rfl,w1⟩:=vws1 w
     obtain⟨a,ds,ns,h1,h2,q⟩:=q;obtain⟨l,vs,rfl,hq,rs⟩:=JI w1 s a h1;cases zcF rs.rd h2;exact⟨l,ns,rfl,hq,q _ G H (Gr.refl s) (.sc rfl (.int _))⟩
   . exact q.elim
def max3:C3:=fun cs Q=>match cs with
 | [c]=>c.dat=true/\∃ ds ns,c.d=.list ds/\Jp ds=some ns/\ns≠[]/\Q true (.int (maxL ns))
 | _=>False
theorem zi2(hc:X.calm=true):CallOk X (.builtin "max") max3:=by
 refine⟨fun cs Q Q' h q=>?_,fun H0=>zO.imp (zgH hc) fun xs H Q=>el2 fun G cs s w q=>?_⟩
 . unfold max3 at *;split at q
   . obtain⟨a,ds,ns,h1,h2,h3,q⟩:=q;exact⟨a,ds,ns,h1,h2,h3,h _ _ q⟩
   . exact q
 . unfold max3 at q;split at q
   . obtain⟨v,rfl,w1⟩:=vws1 w
     obtain⟨a,ds,ns,h1,h2,h3,q⟩:=q;obtain⟨l,vs,rfl,hq,rs⟩:=JI w1 s a h1;cases zcF rs.rd h2;exact⟨l,ns,rfl,h3,hq,q _ G H (Gr.refl s) (.sc rfl (.int _))⟩
   . exact q.elim
def za0(t:TA3):TN3:=fun ρ Q=>t ρ fun cs=>∃ c ds,cs=[c]/\c.dat=true/\(c.d=.list ds\/c.d=.tuple ds)/\Q (c.f||ds.all zw) ds
theorem zbL{x:Str}{es:List Expr}{t:TA3}(hg:Gl X x)(hm:X.mg x=none)(hv:bootBuiltins x=some (.type "list"))(ha:PA3 X H0 (e::es) t)(hn:x≠"__name__":=by decide)(hdb:#[24]:=by decide)
 (he:#[14]:=by rfl) (hpl:(backTo pos (starEach es X.env)).any (·.1)=false:=by rfl):PN3 X H0 #[23] (za0 t):=
 ⟨fun ρ Q Q' h q=>ha.mono ρ _ _ (fun cs ⟨c,ds,a,b,d,q⟩=>⟨c,ds,a,b,d,h _ _ q⟩) q,PE.imp (zfv zls hg hm hv ha.ok hn hdb he hpl) fun σ H Q=>el5 fun G0 ρ G F q=>⟨G0,ρ,G,F,ha.mono ρ _ _ (fun cs hyp vs G1 H1 g1 w=>by
  obtain⟨c,ds,a,b,d,k⟩:=hyp;subst a;obtain⟨v,rfl,w1⟩:=vws1 w
  rcases d with d|d
  . obtain⟨l,us,rfl,hq,rs⟩:=JI w1 g1.sub b d
    exact⟨l,us,rfl,.inl hq,fun l' hl=>k l' us G1 H1 g1 hl rs.or⟩
  . cases w1 with
    | sh r=>
     have d':_=PyData.tuple ds:=d;subst d';obtain⟨l,us,rfl,hq,rs⟩:=zbx r;exact⟨l,us,rfl,.inr (g1.sub.tup hq),fun l' hl=>k l' us G1 H1 g1 hl rs.or⟩
    | ow _ _ _=>cases d
    | tr _=>cases d
    | dt _ _ _=>cases d
    | dk _ _=>cases d
    | fd _ _ _=>cases d
    | tk h=>
     cases d;exact⟨_,_,rfl,.inr (g1.sub.tup (SqT.of h)),fun l' hl=>k l' _ G1 H1 g1 hl (⟨zaA _,fun _=>zbE _⟩:Rfs _ _ _ true _ _).or⟩
    | dm _ _=>cases b
    | ex _=>cases b) q⟩⟩
def catN(ta tb:TE3):TN3:=fun ρ Q=>ta ρ fun a=>tb ρ fun b=>∃ ds es,a.dat=true/\b.dat=true/\a.d=.list ds/\b.d=.list es/\ds.length+es.length<=sizeLine/\Q ((a.f||ds.all zw)&&(b.f||es.all zw)) (ds++es)
theorem zj0:OpR X (binaryOp .Add) (fun x y H Q=>∃ l b xs zs,x=.ref l/\y=.ref b/\SqL X.K H l xs/\SqL X.K H b zs/\xs.length+zs.length<=sizeLine/\∀ p,H p=none->Q (.ref p) (upd H p (.lst (xs++zs)))):=by
 intro pins s σ H x y v u Q I rx ry h;obtain⟨l,b,xs,zs,rfl,rfl,hl,hb,hz,k⟩:=h;cases rx;cases ry;obtain⟨its,rv,pl,_⟩:=I.list hl;obtain⟨its',rv',pl',_⟩:=I.list hb;obtain⟨⟨cls,dd,data,sl⟩,ho,hc,n,hd⟩:=pl.isList;obtain⟨⟨cls2,dd2,data2,sl2⟩,ho2,hc2,n2,hd2⟩:=pl'.isList;simp only at hc hd hc2 hd2;subst hc hd hc2 hd2;have e:its.toArray++its'.toArray=(its++its').toArray:=by simp
 refine concat_meets ⟨_,ho,rfl⟩ ⟨_,ho2,rfl⟩ noFill_list_add seq_list_add PySem.F.slot_list_add PySem.F.entry_list_add (PySem.F.args_list_add_2 _ _) (list_addW l b its.toArray its'.toArray n n2 dd dd2 sl sl2 (by rw [YaZ,YaZ,<-rv.length,<-rv'.length];exact hz)) ⟨ho,ho2,?_⟩
 rw [e];exact⟨.ref _,_,I.lnew (t':=s.toks) (rv.append rv') (by rw [YaS];exact hz),rfl,k _ I.fresh⟩
theorem cat3{a b:Expr}{ta tb:TE3}(ha:PE3 X H0 a ta)(hb:PE3 X H0 b tb):PN3 X H0 (.BinOp a .Add b pos) (catN ta tb):=
 ⟨fun ρ Q Q' h q=>ha.mono ρ _ _ (fun a=>hb.mono ρ _ _ fun b ⟨ds,es,h1,h2,h3,h4,h5,q⟩=>⟨ds,es,h1,h2,h3,h4,h5,h _ _ q⟩) q,PE.imp (Jw zj0 ha.ok hb.ok) fun σ H Q=>el5 fun G0 ρ G F q=>⟨G0,ρ,G,F,ha.mono ρ _ _ (fun a qa v1 G1 H1 g1 w1=>⟨G0,ρ,G1,F.gr g1,hb.mono ρ _ _ (fun b hyp v2 G2 H2 g2 w2=>by
  obtain⟨ds,es,h1,h2,h3,h4,h5,k⟩:=hyp;obtain⟨l,us,rfl,hq,rs⟩:=JI (w1.gr g2) g2.sub h1 h3;obtain⟨m,us',rfl,hq',rs'⟩:=JI w2 g2.sub h2 h4;exact⟨l,m,us,us',rfl,rfl,hq,hq',by rw [rs.length,rs'.length];exact h5,fun p hp=>k p _ G2 H2 (g1.trans g2) hp (rs.or.append rs'.or)⟩) qa⟩) q⟩⟩
def ZK(n:String)(te:TE3):TE3:=fun ρ Q=>te ρ fun c=>∃ b,c.dat=true/\L2.isD c.d n=some b/\Q (.sh true (.bool b))
theorem zdA{nf:Str}{n:String}{x:Str}{p2:Pos}{te:TE3}(hg:Gl X nf)(hm:X.mg nf=none)(hnf:nf = "isinstance")(hg2:Gl X x)(hm2:X.mg x=none)(hv:bootBuiltins x=some (.type n))(he:PE3 X H0 e te)(hn:x≠"__name__":=by decide)
 (h1:starEach [e,.Name x p2] X.env=(false,eval e X.env)::starEach [.Name x p2] X.env:=by rfl) (h2:starEach [.Name x p2] X.env=(false,eval (.Name x p2) X.env)::starEach [] X.env:=by rfl)
 (hpl:(backTo pos (starEach [.Name x p2] X.env)).any (·.1)=false:=by rfl) (hdx:#[24]:=by decide):PE3 X H0 (.Call (.Name nf p) [e,.Name x p2] [] pos) (ZK n te):=by
 subst hnf;exact⟨fun ρ Q Q' h q=>he.mono ρ _ _ (fun c ⟨b,a,d,q⟩=>⟨b,a,d,h _ q⟩) q,PE.imp (JR (x:="isinstance") ziA hg hm zif (zm he.ok (zm (zk5 (v:=.ty n) hg2 hm2 hv rfl hn hdx) zK h2) h1) #[1] #[1] h1 hpl) fun σ H Q=>el5 fun G0 ρ G F q=>⟨G0,ρ,G,F,he.mono ρ _ _ (fun c ⟨b,hd,hb,k⟩ v G1 H1 g1 w=>
  ⟨v,n,c.d,b,rfl,w.rd g1.sub hd,hb,k _ G1 H1 g1 (.sh (.sc rfl (.bl b)))⟩) q⟩⟩
def zipD:List D->List D->List D
 | a::as,b::bs=>.tuple [a,b]::zipD as bs
 | _,_=>[]
theorem zf4:∀ as bs,(zipD as bs).length=min as.length bs.length
 | [],_=>by simp [zipD]
 | _::_,[]=>by simp [zipD]
 | a::as,b::bs=>by simp [zipD,zf4 as bs,Nat.succ_min_succ]
theorem zdK:∀ {as bs:List D} {i:Nat} {d:D},(zipD as bs)[i]?=some d->∃ a b,d=.tuple [a,b]/\as[i]?=some a/\bs[i]?=some b
 | [],_,i,d,h=>by simp [zipD] at h
 | _::_,[],i,d,h=>by simp [zipD] at h
 | a::as,b::bs,0,d,h=>by cases h;exact⟨a,b,rfl,rfl,rfl⟩
 | a :: as, b :: bs, i + 1, d, h => by
  obtain⟨x,y,h1,h2,h3⟩:=zdK (i:=i) (show(zipD as bs)[i]?=some d from h)
  exact⟨x,y,h1,h2,h3⟩
def itZ(t:TA3):TI3:=fun ρ Q=>t ρ fun cs=>∃ f g as bs,cs=[.sh f (.list as),.sh g (.list bs)]/\Q (f&&g) (zipD as bs)
theorem zjB{K:Ybf}{H0 G:Hp}{a b:Addr}{xs ys:List V}{f g:Bool}{as bs:List D}(h1:SqL K G a xs)(r1:Rfs K H0 G f xs as)(h2:SqL K G b ys)(r2:Rfs K H0 G g ys bs):ItOk K H0 (Itz K a b) (f&&g) (zipD as bs) G where
 go:=fun i d G' H hd s1 s2=>by
  obtain⟨p,q,rfl,hp,hq⟩:=zdK hd;obtain⟨x,hx,rx⟩:=r1.get hp;obtain⟨y,hy,ry⟩:=r2.get hq;have ss:=s1.trans s2.s;refine⟨⟨xs,ys,x,y,ss.seq h1,ss.seq h2,hx,hy⟩,fun v H' ⟨l,x',y',hl,e1,e2,hh⟩=>?_⟩
  subst e1 e2;obtain⟨z1,z2⟩:=hh xs ys (ss.seq h1) (ss.seq h2);rw [hx] at z1;rw [hy] at z2;cases z1;cases z2;have gl:=zG (s2.free hl) (.tup [x,y]);exact⟨upd G' l (.tup [x,y]),Gr.put s2 hl,⟨.tup (SqT.of zf) (.cons (J8 (s1.trans gl) rx.rd) (.cons (J8 (s1.trans gl) ry.rd) .nil)),fun hf=>by
   rw [Yak] at hf;exact .tup zf (.cons (jX (s1.trans gl) (fun _ _ _ z=>z) (rx.nw hf.1)) (.cons (jX (s1.trans gl) (fun _ _ _ z=>z) (ry.nw hf.2)) .nil))⟩⟩
 stop:=fun i G' H hl s1 s2=>⟨xs,ys,(s1.trans s2.s).seq h1,(s1.trans s2.s).seq h2,by rw [hl,zf4,r1.length,r2.length]⟩
theorem zjg{elts:List Expr}{k:Nat}{tpos:Pos}{a b:Expr}{t:TA3}(hg:Gl X "zip")(hm:X.mg "zip" = none)(ha:PA3 X H0 [a,b] t)(hs:starEach [a,b] X.env=[(false,eval a X.env),(false,eval b X.env)]:=by rfl)
 (hs2:starEach [b] X.env=[(false,eval b X.env)]:=by rfl):PI3 X H0 (.Tuple elts k tpos) (.Call (.Name "zip" p) [a,b] [] pos) (itZ t):=
 ⟨fun ρ Q Q' h q=>ha.mono ρ _ _ (fun cs ⟨f,g,as,bs,e,q⟩=>⟨f,g,as,bs,e,h _ _ q⟩) q,PI.imp (zcD hg hm ha.ok hs hs2) fun σ H R=>el5 fun G0 ρ G F q=>⟨G0,ρ,G,F,ha.mono ρ _ _ (fun cs hyp vs G' H' g w=>by
  obtain⟨fl,fm,as,bs,e,k⟩:=hyp;subst e;obtain⟨v,u,rfl,w1,w2⟩:=vws2 w;obtain⟨x,xs,rfl,hx,rx⟩:=JP (zn w1);obtain⟨y,ys,rfl,hy,ry⟩:=JP (zn w2);exact⟨x,y,rfl,⟨xs,g.sub.seq hx⟩,⟨ys,g.sub.seq hy⟩,k _ G' H' g (zjB hx rx hy ry)⟩) q⟩⟩
end
variable[LamW]
section
variable{K:Ybf}{H0 G0:Hp}{ρ : Env3}{σ : L2.St}{G H:Hp}
theorem Fr3.exc(F:#[18]){i:Nat}{a C:Addr}(h:H a=some (excO a C)):Fr3 K H0 G0 (ρ.set i (some (.ex C))) (σ.set i (some (.ref a))) G H:=F.put (zi.refl _) (.ex h) fun _ h=>False.elim h
theorem Fr3.gone(F:#[18]){i:Nat}:Fr3 K H0 G0 (ρ.set i none) (σ.set i none) G H where
 keep:=F.keep
 sub:=F.sub
 old:=F.old
 g0:=F.g0
 slot:=fun j c e=>by
  rcases zJ e with ⟨rfl,q,hl⟩|⟨n,q⟩
  . cases q
  . obtain⟨v',h1,h2⟩:=F.slot j c q
    exact⟨v',by rw [Yac n];exact h1,h2⟩
 mine:=fun j c v a e e' h=>by
  rcases zJ e with ⟨rfl,q,hl⟩|⟨n,q⟩
  . cases q
  . rw [Yac n] at e'
    exact F.mine j c v a q e' h
 apart:=fun j k c1 c2 v1 v2 a e1 e2 e3 e4 h1 h2=>by
  rcases zJ e1 with ⟨rfl,q,hl⟩|⟨n,q⟩
  . cases q
  . rcases zJ e2 with ⟨rfl,q',hl⟩|⟨n',q'⟩
    . cases q'
    . rw [Yac n] at e3
      rw [Yac n'] at e4;exact F.apart j k c1 c2 v1 v2 a q q' e3 e4 h1 h2
 len:=by rw [YaN,YaN];exact F.len
end
theorem PX.imp{X:Cx}{e:List Stmt}{t t':TX}(h:PX X e t)(i:∀ B E σ H,t' B E σ H->t B E σ H):PX X e t':=fun pins s σ H B E I q=>h pins s σ H B E I (i _ _ _ _ q)
section
variable{X:Cx}{H0:Hp}{pos pos' p:Pos}{e:Expr}{es:List Expr}{x:Str}
end
variable[LamW]
theorem jC{P:Program}{w:World}{X:Cx}:Passes (CXR P w) X (fun _ _ _=>False):=fun _ _ _ _ _ _ _ ⟨_,_,_,_,_,h⟩=>h.elim
section
variable{X:Cx}{H0:Hp}{pos:Pos}{x:Str}
theorem g3i{i:Int}(hg:Gl X x)(hm:∃ t,X.mg x=some (.int i t))(hd:#[24]:=by decide):PE3 X H0 (.Name x pos) (k3 (.int i)):=by
 obtain⟨t,hm⟩:=hm;exact g3 (v:=.int i) hg hm ⟨t,rfl⟩ (fun _=>.int i) rfl hd
theorem g3s{i:Str}(hg:Gl X x)(hm:∃ t,X.mg x=some (.str i t))(hd:#[24]:=by decide):PE3 X H0 (.Name x pos) (k3 (.str i)):=by
 obtain⟨t,hm⟩:=hm;exact g3 (v:=.str i) hg hm ⟨t,rfl⟩ (fun _=>.str i) rfl hd
end
theorem sz{n:Nat}(h:n<=1000000):n<=sizeLine:=Ya5 h #[1]
theorem sz0:(0<=sizeLine)=True:=eq_true #[1]
theorem sz1:(1<=sizeLine)=True:=eq_true #[1]
theorem sz2:(2<=sizeLine)=True:=eq_true #[1]
theorem sz3:(3<=sizeLine)=True:=eq_true #[1]
theorem sz4:(4<=sizeLine)=True:=eq_true #[1]
theorem zcj{K:Ybf}{H:Hp}:∀ ns:List Int,RdVs K H (ns.map V.int) (ns.map PyData.int)
 | []=>.nil
 | a::r=>.cons (.int a) (zcj r)
theorem Zj{g:TG3}{tb:TS3}{A:Ends3}{f:Bool}(P:List D->Env3->Prop)(s:∀ d ds ρ,P (d::ds) ρ->∀ W:Env3->Prop,(∀ ρ',P ds ρ'->W ρ')->g f d ρ fun ρ'=>tb { A with nx:=W,ct:=W,bk:=A.nx } ρ')(e:∀ ρ,P [] ρ->A.nx ρ):∀ ds ρ,P ds ρ->forL g tb A f ds ρ
 | [],ρ,h=>e ρ h
 | d::ds,ρ,h=>s d ds ρ h _ fun ρ' p=>Zj P s e ds ρ' p
theorem zk{a b:TS3}{A:Ends3}{ρ : Env3}(h:∀ N:Env3->Prop,(∀ ρ',b A ρ'->N ρ')->a { A with nx:=N } ρ):seq3 a b A ρ:=h (b A) fun _ z=>z
theorem zZ{a b:TS3}{A:Ends3}{ρ : Env3}(M:Env3->Prop)(h1:∀ N:Env3->Prop,(∀ ρ',M ρ'->N ρ')->a { A with nx:=N } ρ)(h2:∀ ρ',M ρ'->b A ρ'):seq3 a b A ρ:=h1 (b A) h2
theorem zbI{c:TT3}{t u:TS3}{A:Ends3}{ρ : Env3}(h:∀ Y N:Prop,(t A ρ->Y)->(u A ρ->N)->c ρ fun k=>if k=true then Y else N):ifS3 c t u A ρ:=h (t A ρ) (u A ρ) id id
theorem Jn{c:TT3}{tb:TS3}{A:Ends3}(P:Nat->Env3->Prop)(h:∀ n ρ,P n ρ->∀ W:Env3->Prop,(∀ m ρ',m<n->P m ρ'->W ρ')->c ρ fun k=>if k=true then tb { A with nx:=W,ct:=W,bk:=A.nx } ρ else A.nx ρ):∀ n ρ,P n ρ->whN c tb A (n+1) ρ
 | n, ρ, p => by
  have key:∀ k m ρ,m<=k->P m ρ->whN c tb A (k+1) ρ:=by
   intro k
   induction k with
   | zero=>intro m ρ hm p;exact h m ρ p _ (fun m' ρ' hlt _=>absurd hlt #[0])
   | succ k ih=>intro m ρ hm p;exact h m ρ p _ (fun m' ρ' hlt p'=>ih m' ρ' #[0] p')
  exact key n n ρ (YaY _) p
variable[LamW]
theorem ju{α : Type}{g:TG3}{tt:TT3}{te:TE3}{f:Bool}(enc out:α->D)(R:Env3->Prop):∀ (xs:List α),(∀ x∈xs,∀ ρ fa acc (K:Bool->List D->Env3->Prop),R ρ->(∀ ρ',R ρ'->K fa (acc++[out x]) ρ')->
 g f (enc x) ρ fun ρ'=>tt ρ' fun k=>if k=true then te ρ' fun c=>asS c fun fy y=>K (fa&&fy) (acc++[y]) ρ' else K fa acc ρ')->∀ fa acc ρ (Q:Bool->List D->Prop),R ρ->Q fa (acc++xs.map out)->Ja g tt te f (xs.map enc) fa acc ρ Q
 | [],_,fa,acc,ρ,Q,_,q=>by show Q fa acc;simpa using q
 | x::xs,s,fa,acc,ρ,Q,hR,q=>s x YaV ρ fa acc (fun fa acc ρ'=>Ja g tt te f (xs.map enc) fa acc ρ' Q) hR fun ρ' hR'=>
  ju enc out R xs (fun y hy=>s y (YaT _ hy)) fa (acc++[out x]) ρ' Q hR' (by rw [Yag];exact q)
theorem zc8{α : Type}{g:TG3}{tt:TT3}{te:TE3}{f:Bool}(enc out:α->D)(keep:α->Bool)(R:Env3->Prop):∀ (xs:List α),(∀ x∈xs,∀ ρ fa acc (K:Bool->List D->Env3->Prop),R ρ->(∀ ρ',R ρ'->K fa (if keep x=true then acc++[out x] else acc) ρ')->
 g f (enc x) ρ fun ρ'=>tt ρ' fun k=>if k=true then te ρ' fun c=>asS c fun fy y=>K (fa&&fy) (acc++[y]) ρ' else K fa acc ρ')->∀ fa acc ρ (Q:Bool->List D->Prop),R ρ->Q fa (acc++(xs.filter keep).map out)->Ja g tt te f (xs.map enc) fa acc ρ Q
 | [],_,fa,acc,ρ,Q,_,q=>by show Q fa acc;simpa using q
 | x::xs,s,fa,acc,ρ,Q,hR,q=>s x YaV ρ fa acc (fun fa acc ρ'=>Ja g tt te f (xs.map enc) fa acc ρ' Q) hR fun ρ' hR'=>
  zc8 enc out keep R xs (fun y hy=>s y (YaT _ hy)) fa _ ρ' Q hR' (by
   rw [YaM] at q;cases hk:keep x with
   | true=>rw [hk] at q;simpa using q
   | false=>rw [hk] at q;simpa using q)
theorem zfP{α β : Type}(e1:α->D)(e2:β->D):∀ (xs:List α) (ys:List β),zipD (xs.map e1) (ys.map e2)=(xs.zip ys).map fun p=>.tuple [e1 p.1,e2 p.2]
 | [],_=>by simp [zipD]
 | _::_,[]=>by simp [zipD]
 | x::xs,y::ys=>by simp [zipD,zfP e1 e2 xs ys]
theorem Zt{α β : Type}(e:α->β)(xs:List α)(i:Int):atI (xs.map e) i=(atI xs i).map e:=by
 unfold atI;rw [YaR];cases ixN xs.length i with
 | none=>rfl
 | some j=>simp
end L3
namespace L3
theorem zjV(lo:Int)(n:Nat):nums lo (n+1)=.int lo::nums (lo+1) n:=by
 unfold nums;rw [List.range_succ_eq_map,Ya1,YaD]
 congr 1
 . simp
 . apply Yat
   intro i _;simp only [Function.comp]
   congr 1
   omega
theorem ji{g:TG3}{tb:TS3}{A:Ends3}{f:Bool}{lo:Int}{n:Nat}(P:Nat->Env3->Prop)(s:∀ k ρ,k<n->P k ρ->∀ W:Env3->Prop,(∀ ρ',P (k+1) ρ'->W ρ')->g f (.int (lo+k)) ρ fun ρ'=>tb { A with nx:=W,ct:=W,bk:=A.nx } ρ')(e:∀ ρ,P n ρ->A.nx ρ){ρ : Env3}(h:P 0 ρ):forL g tb A f (nums lo n) ρ:=by
 have key:∀ m k ρ,k+m=n->P k ρ->forL g tb A f (nums (lo+k) m) ρ:=by
  intro m
  induction m with
  | zero => intro k ρ hk p; have : k = n := by omega
            subst this;exact e ρ p
  | succ m ih=>
   intro k ρ hk p;rw [zjV];refine s k ρ #[0] p _ fun ρ' p'=>?_
   have:=ih (k+1) ρ' #[0] p'
   rw [show lo+((k+1:Nat):Int)=lo+k+1 by omega] at this
   exact this
 have:=key n 0 ρ #[0] h
 simpa using this
theorem jL{α : Type}{g:TG3}{tb:TS3}{A:Ends3}{f:Bool}(enc:α->D)(l:List α)(P:List α->Env3->Prop)(s:∀ done x rest ρ,l=done++x::rest->P done ρ->∀ W:Env3->Prop,(∀ ρ',P (done++[x]) ρ'->W ρ')->g f (enc x) ρ fun ρ'=>tb { A with nx:=W,ct:=W,bk:=A.nx } ρ')(e:∀ ρ,P l ρ->A.nx ρ){ρ : Env3}(h:P [] ρ):forL g tb A f (l.map enc) ρ:=by
 have key:∀ rest done ρ,l=done++rest->P done ρ->forL g tb A f (rest.map enc) ρ:=by
  intro rest
  induction rest with
  | nil=>intro done ρ hl p;rw [Yao] at hl;subst hl;exact e ρ p
  | cons x rest ih=>
   intro done ρ hl p;exact s done x rest ρ hl p _ fun ρ' p'=>ih (done++[x]) ρ' (by rw [hl,Yag];rfl) p'
 exact key l [] ρ rfl h
end L3
namespace L3
open PySem L2
mutual
theorem zh2:∀ {d:D},PyData.canLay0 d=true->PyData.eqv d d=true
 | .none,_=>by simp [PyData.eqv]
 | .bool b,_=>by simp [PyData.eqv]
 | .int i,_=>by simp [PyData.eqv]
 | .str x,_=>by simp [PyData.eqv]
 | .list xs, h => by
  have h':PyData.canLayAll0 xs=true:=by simpa [PyData.canLay0] using h
  simpa [PyData.eqv] using eqvAll_refl h'
 | .tuple xs, h => by
  have h':PyData.canLayAll0 xs=true:=by simpa [PyData.canLay0] using h
  simpa [PyData.eqv] using eqvAll_refl h'
 | .dict _,h=>by simp [PyData.canLay0] at h
theorem eqvAll_refl:∀ {ds:List D},PyData.canLayAll0 ds=true->PyData.eqvAll ds ds=true
 | [],_=>by simp [PyData.eqvAll]
 | d :: ds, h => by
  have h':PyData.canLay0 d=true/\PyData.canLayAll0 ds=true:=by simpa [PyData.canLayAll0] using h
  simp [PyData.eqvAll,zh2 h'.1,eqvAll_refl h'.2]
end
def Plain(n:Nat)(d:D):Prop:=PyData.canLay0 d=true/\PyData.depth d<=n
theorem Plain.int(i:Int):Plain 0 (.int i):=⟨by simp [PyData.canLay0],by simp [PyData.depth]⟩
theorem Plain.bool(i:Bool):Plain 0 (.bool i):=⟨by simp [PyData.canLay0],by simp [PyData.depth]⟩
theorem Plain.none:Plain 0 .none:=⟨by simp [PyData.canLay0],by simp [PyData.depth]⟩
theorem zdw{n:Nat}:∀ {ds:List D},(∀ d∈ds,Plain n d)->PyData.canLayAll0 ds=true/\PyData.depthAll ds<=n
 | [],_=>by simp [PyData.canLayAll0,PyData.depthAll]
 | d :: ds, h => by
  obtain⟨h1,h2⟩:=h d YaV;obtain⟨h3,h4⟩:=zdw (ds:=ds) fun x hx=>h x (YaT _ hx)
  simp [PyData.canLayAll0,PyData.depthAll,h1,h3]
  omega
theorem Plain.list{n:Nat}{ds:List D}(h:∀ d∈ds,Plain n d):Plain (n+1) (.list ds):=by
 obtain⟨h1,h2⟩:=zdw h;exact⟨by simp [PyData.canLay0,h1],by simp [PyData.depth,h2]⟩
theorem Plain.tuple{n:Nat}{ds:List D}(h:∀ d∈ds,Plain n d):Plain (n+1) (.tuple ds):=by
 obtain⟨h1,h2⟩:=zdw h;exact⟨by simp [PyData.canLay0,h1],by simp [PyData.depth,h2]⟩
theorem Plain.mono{m n:Nat}{d:D}(h:Plain m d)(hn:m<=n):Plain n d:=⟨h.1,Ya5 h.2 hn⟩
theorem zbM{α : Type}{xs:List α}{i:Int}(h0:0<=i)(h:i<xs.length):∃ x,atI xs i=some x/\x∈xs/\xs[i.toNat]?=some x:=by
 have hk:i.toNat<xs.length:=#[0]
 refine⟨xs[i.toNat],?_,Ya4 hk,YaQ hk⟩
 have:=z8 (xs:=xs) (j:=i.toNat) (YaQ hk);rwa [show((i.toNat:Nat):Int)=i by omega] at this
theorem Jz{n:Nat}{i:Int}(h0:0<=i)(h:i<n):ixN n i=some i.toNat:=by
 unfold ixN;rw [if_pos h0,if_pos h]
end L3
namespace L2
open PySem PySem.Spec PyProof.Rows
section
variable{X:Cx}
end
end L2
namespace L3
open PySem PySem.Spec PyProof.Rows L2
variable[LamW]
section
variable{X:Cx}{H0:Hp}{e:Expr}{pos p:Pos}
end
variable[LamW]
section
variable{K:Ybf}{H0 G0:Hp}{ρ : Env3}{σ : L2.St}{G H G' H':Hp}
end
section
variable{X:Cx}{H0:Hp}{e:Expr}{es:List Expr}{pos p:Pos}{x:Str}
end
section
variable{X:Cx}
end
end L3
namespace L2
open PySem PySem.Spec PyProof.Rows
section
variable{X:Cx}
def zh0(K:Ybf):V->V->Hp->VK->Prop:=fun x y H Q=>∃ p xs i v,x=.ref p/\y=.int i/\0<=i/\SqL K H p xs/\atI xs i=some v/\Q v H
theorem zcH:PGet X (zh0 X.K):=by
 intro pins s σ H x y v u Q I rx ry h;obtain⟨p,xs,i,z,rfl,rfl,h0,hq,he,q⟩:=h;cases rx;obtain⟨t,rfl⟩:=ry;obtain⟨its,r,pl,hz⟩:=I.list hq;obtain⟨j,h1,h2,h3,h4,h5⟩:=zb0 he;obtain⟨w,ew,rw'⟩:=r.get h2;have hl:=r.length;have hn:=JA;have hj:i.toNat=j:=by
  rw [seqIndex_of h0 h5] at h1;exact WaV h1
 exact wpAny_getItem_list pl.isList h0 #[0] (by rw [hj];simpa using ew) ⟨z,H,I,rw',q⟩
def zk7(K:Ybf):V->List V->Hp->VK->Prop:=fun x vs H Q=>∃ (p:Addr) (ns:List Int) (n:Int),x=.ref p/\vs=[.int n]/\SqL K H p (ns.map V.int)/\n∈ns/\Q (.int (ns.idxOf n:Nat)) H
theorem zgv:MtM X "list.index" (zk7 X.K):=by
 intro pins s σ H x vs v us Q I rx rv h;obtain⟨p,ns,n,rfl,rfl,hq,hk,q⟩:=h;cases rx;obtain⟨u,rfl,t,rfl⟩:=rv.one;obtain⟨its,r,pl,hz⟩:=I.list hq;have hi:=zbY r;obtain⟨⟨cls,dd,data,sl⟩,ho,hc,n',hd⟩:=pl.isList;simp only at hc hd;subst hc hd;have hlen:=hi.length;have hj:ns.idxOf n<ns.length:=List.idxOf_lt_length_iff.mpr hk;have hn:=JA;rw [YaR] at hz;refine call_meets PySem.F.slot_list_index ⟨_,ho,rfl⟩ PySem.F.entry_list_index (PySem.F.args_list_index_2 _ _)
  (SeqAt.list_indexAt p its.toArray n' dd sl (.int n t) (isInt n) (ns.idxOf n) (by simpa [hlen] using hj) #[0] ?_ ?_) ⟨ho,fun y hy=>(eq_isInt n t hi y (by simpa using hy)).at _ _,⟨.int _,H,I.tok _,⟨_,rfl⟩,q⟩⟩
 . show isInt n its[ns.idxOf n]=true
   rw [isInt_at n hi _ #[0] hj]
   simpa using List.getElem_idxOf hj
 . intro j hjs hlt
   show isInt n its[j]=false
   rw [isInt_at n hi j (by simpa using hjs) #[0]]
   exact ne_of_lt_idxOf hlt _
end
end L2
namespace L3
open PySem PySem.Spec PyProof.Rows L2
variable[LamW]
section
variable{X:Cx}{H0:Hp}{e:Expr}{pos:Pos}
def aug3(i:Nat)(te:TE3):TS3:=fun A ρ=>∃ f n,ρ[i]?=some (some (.sh f (.int n)))/\te ρ fun c=>∃ g m,c=.sh g (.int m)/\A.nx (ρ.set i (#[5,n+m]))
theorem zdH{i:Nat}{x:Str}{te:TE3}{pos':Pos}(hN:X.N.Nodup)(hi:X.N[i]?=some x)(hx:Loc X.env.scope x)(he:PE3 X H0 e te)
 (hf:#[19]:=by first|exact .inl rfl|exact .inr rfl|assumption):PS3 X H0 (.AugAssign (.Name x pos') .Add e pos) (aug3 i te):=
 PS.imp (zhC hN hi hx he.ok zcX hf) fun B σ H hyp=>by
  obtain⟨G0,A,ρ,G,F,⟨f,n,h,q⟩,L⟩:=hyp;obtain⟨v,h1,h2⟩:=F.slot i _ h;have r:=zB (zn h2).rd;subst r;refine⟨_,h1,G0,ρ,G,F,he.mono ρ _ _ (fun c ⟨g,m,hc,q⟩ v G1 H1 g1 w=>?_) q⟩
  subst hc;have r:=zB (zn w).rd;subst r;exact⟨n,m,rfl,rfl,L.nx _ _ _ _ ((F.gr g1).set (.sc rfl (.int _))) q⟩
def par3(i j:Nat)(t:TA3):TS3:=fun A ρ=>t ρ fun cs=>∃ f a g b,cs=[.sh f a,.sh g b]/\A.nx ((ρ.set i (some (.sh f a))).set j (some (.sh g b)))
theorem zl8{i j:Nat}{x y:Str}{a b:Expr}{ta:TA3}{px py pt:Pos}{kt k2 pt2}(hc:X.calm=true)(hN:X.N.Nodup)(hi:X.N[i]?=some x)(hj:X.N[j]?=some y)(hij:i≠j)
 (hx:X.env.scope.names.lookup x=some .local) (hy:X.env.scope.names.lookup y=some .local) (ha:PA3 X H0 [a,b] ta)
 (hw:swappedStores [.Tuple [.Name x px,.Name y py] kt pt] (.Tuple [a,b] k2 pt2) X.env=pure (some [x,y]):=by rfl)
 (hs:swapsWithSole [.Tuple [.Name x px,.Name y py] kt pt] (.Tuple [a,b] k2 pt2) pos.line X.env=pure false:=by rfl) :
 PS3 X H0 (.Assign [.Tuple [.Name x px,.Name y py] kt pt] (.Tuple [a,b] k2 pt2) pos) (par3 i j ta):=
 PS.imp (ziq hc hN hi hj hij hx hy ha.ok hw hs) fun B σ H=>el7 fun G0 A ρ G F q L=>⟨G0,ρ,G,F,ha.mono ρ _ _ (fun cs hyp vs G1 H1 g1 w=>by
  obtain⟨f,a,g,b,hcs,q⟩:=hyp;subst hcs;obtain⟨v,u,rfl,w1,w2⟩:=vws2 w;exact⟨v,u,rfl,L.nx _ _ _ _ (((F.gr g1).set (zn w1)).set (zn w2)) q⟩) q⟩
def idx3(to te:TE3):TE3:=fun ρ Q=>to ρ fun c=>∃ ds ns,c.dat=true/\c.d=.list ds/\Jp ds=some ns/\te ρ fun c2=>∃ g n,c2=.sh g (.int n)/\n∈ns/\Q (.sh true (.int (ns.idxOf n:Nat)))
theorem zjj{o:Expr}{apos:Pos}{to te:TE3}(ho:PE3 X H0 o to)(he:PE3 X H0 e te)(hb:attributeBase o "index" X.env (eval o X.env)=eval o X.env:=by rfl)
 (hf:((backTo pos (starEach [e] X.env)).all (fun x=>!x.1)&&(backToKw pos (keywordEach [] X.env)).all (fun x=>x.1.isSome)&&decide ([e].length+([]:List Keyword).length+(if([]:List Keyword).isEmpty then 0 else 1)<30))=true:=by rfl)
 (hl:(apos.endLine==pos.line)=true:=by rfl) (hs:starEach [e] X.env=(false,eval e X.env)::starEach [] X.env:=by rfl) (hp:(backTo pos (starEach [] X.env)).any (·.1)=false:=by rfl) :
 PE3 X H0 (.Call (.Attribute o "index" apos) [e] [] pos) (idx3 to te):=by
 refine⟨fun ρ Q Q' h q=>ho.mono ρ _ _ (fun c ⟨ds,ns,a,b,d,q⟩=>⟨ds,ns,a,b,d,he.mono ρ _ _ (fun c2 ⟨g,n,x,y,q⟩=>⟨g,n,x,y,h _ q⟩) q⟩) q,PE.imp (zdc Waj PySem.F.slot_list_index PySem.F.type_list_index zgv ho.ok (zm he.ok zK hs) hb hf hl hs hp) fun σ H Q=>el5 fun G0 ρ G F q=>⟨G0,ρ,G,F,ho.mono ρ _ _ (fun c hc0 v G1 H1 g1 w=>?_) q⟩⟩
 obtain⟨ds,ns,hd,hc,hu,q⟩:=hc0;obtain⟨a,vs,rfl,hq,rs⟩:=JI w g1.sub hd hc;refine⟨.inl ⟨rfl,_,hq⟩,G0,ρ,G1,F.gr g1,he.mono ρ _ _ (fun c2 hc1 v2 G2 H2 g2 w2=>?_) q⟩
 obtain⟨g,n,rfl,hn,q⟩:=hc1;have r:=zB (zn w2).rd;subst r;have hvs:=zcF rs.rd hu;subst hvs;exact⟨a,ns,n,rfl,rfl,g2.h.seq hq,hn,q _ G2 H2 (g1.trans g2) (.sh (.sc rfl (.int _)))⟩
def ext3(i:Nat)(te:TE3):TS3:=fun A ρ=>∃ f ds,ρ[i]?=some (some (.ow f ds))/\te ρ fun c=>∃ es,c=.sh true (.list es)/\ds.length+es.length<=sizeLine/\A.nx (ρ.set i (some (.ow f (ds++es))))
theorem zjS{i:Nat}{te:TE3}{x:Str}{np apos cpos:Pos}(hN:X.N[i]?=some x)(hv:Vis X.env.scope x)(he:PE3 X H0 e te)(hd:#[24]:=by decide)(hcd:#[20]:=by decide)
 (hb:attributeBase (.Name x np) "extend" X.env (eval (.Name x np) X.env)=eval (.Name x np) X.env:=by rfl)
 (hf:((backTo cpos (starEach [e] X.env)).all (fun x=>!x.1)&&(backToKw cpos (keywordEach [] X.env)).all (fun x=>x.1.isSome)&&decide ([e].length+([]:List Keyword).length+(if([]:List Keyword).isEmpty then 0 else 1)<30))=true:=by rfl)
 (hl:(apos.endLine==cpos.line)=true:=by rfl) (hs:starEach [e] X.env=(false,eval e X.env)::starEach [] X.env:=by rfl) (hp:(backTo cpos (starEach [] X.env)).any (·.1)=false:=by rfl)
 (hw:swapsWith (.Call (.Attribute (.Name x np) "extend" apos) [e] [] cpos) none pos.line X.env=pure false:=by rfl):PS3 X H0 (.Expr (.Call (.Attribute (.Name x np) "extend" apos) [e] [] cpos) pos) (ext3 i te):=by
 refine PS.imp (jZ (zdc Waj PySem.F.slot_list_extend PySem.F.type_list_extend zki (jx hN hv hd hcd) (zm he.ok zK hs) hb hf hl hs hp) hw) fun B σ H hyp=>?_
 obtain⟨G0,A,ρ,G,F,⟨f,ds,hi,q⟩,L⟩:=hyp;obtain⟨l,vs,h1,h2,r⟩:=zcA F hi;refine⟨.ref l,h1,zdm h2,G0,ρ,G,F,he.mono ρ _ _ (fun c ⟨es,hc,hz,q⟩ v G' H' g w=>?_) q⟩
 subst hc;have rw':=zn w;have rn:=rw'.nw rfl;cases rn with
 | lst hG hn rs=>
  rename_i b xs;have ra:Rfs X.K H0 G' f (vs++xs) (ds++es):=⟨((r.same g.g).rd).append (rdns_rd rs),fun hf=>zcr ((r.same g.g).nw hf) rs⟩
  exact⟨l,b,vs,xs,rfl,rfl,g.h.at h2,g.sub.s _ _ hG,by rw [r.length,(rdns_rd rs).length];exact hz,L.nx _ _ _ _ ((F.gr g).change hi h1 ra) q⟩
end
end L3
namespace L2
open PySem PySem.Spec PyProof.Rows
theorem zhw:bootBuiltins "enumerate" = some (.type "enumerate"):=by with_unfolding_all rfl
def Ite(K:Ybf)(a:Addr):It:=
 ⟨fun i H=>∃ xs x,SqL K H a xs/\xs[i]?=some x,
  fun i H v H'=>∃ p x,H p=none/\v=.ref p/\H'=upd H p (.tup [.int i,x])/\∀ xs,SqL K H a xs->xs[i]?=some x,
  fun i H=>∃ xs,SqL K H a xs/\i=xs.length⟩
theorem zi7{P:Program}{w:World}{K:Ybf}{elts:List Expr}{k:Nat}{pos:Pos}{e it l:Addr}(hei:e≠it)(hle:l≠e)(hli:l≠it) :
 Turn P w K (.Tuple elts k pos) (Ite K l) [e,it] e (fun i h=>(∃ old,IsEnum h e it i old)/\h.IsListIter it l i) where
 mem:=by simp
 obj:=fun i h hyp c hc=>by
  obtain⟨⟨old,he⟩,⟨o1,e1,c1,d1⟩⟩:=hyp;have hc':c=e\/c=it:=by simpa using hc
  rcases hc' with rfl|rfl
  . exact⟨_,he,fun v z=>by cases(show Data.fields _=Data.cell v from z)⟩
  . exact⟨o1,e1,fun v z=>by rw [d1] at z;cases z⟩
 keep:=fun i h h' ⟨⟨old,he⟩,h1⟩ kk=>⟨⟨old,kk e (by simp) _ he⟩,h1.at fun o e=>kk it (by simp) o e⟩
 item:=by
  intro X hP hw hK hc i pins s σ H E I hf st hg;subst hP hw hK;obtain⟨xs,x,q1,hx⟩:=hg;obtain⟨its1,r1,p1,_⟩:=I.list q1;obtain⟨u,hu,ru⟩:=r1.get hx;have W:=WalksT.enumerate (prog:=X.prog) (w:=X.w) (A:=X.A) (I.ok.hd hc) e it l hei hle hli its1.toArray;have hi:i<its1.toArray.size:=by
   have a1:=(Ya8.mp hu).1;simp only [YaZ];omega
  obtain⟨he,h1⟩:=st;have olt:∀ b∈[e,it],b<s.heap.objs.size:=fun b hb=>by
   obtain⟨old,he'⟩:=he;have hc':b=e\/b=it:=by simpa using hb
   rcases hc' with rfl|rfl
   . exact YaX he'
   . obtain⟨_,e,_⟩:=h1;exact YaX e
  refine W.item i s _ _ hi ⟨he,h1,p1.isList⟩ fun T vals h1' tk hv' hT hTup mid kp=>?_
  obtain⟨t',u',hu',e'⟩:=hv';subst e';have eu:u'=u:=by
   have:its1[i]?=some u':=by simpa using hu'
   rw [hu] at this;cases this;rfl
  subst eu;refine⟨_,rfl,W.go elts k pos i T _ _ _ mid fun h2' st2 kp2=>?_⟩
  have I1:Inv X pins σ H { s with heap:=h2',toks:=tk }:=I.turnedL (ch:=[e,it]) (fun b o hb e=>kp2 b o hb (kp b o hb e)) fun b hb=>hf b hb
  have hTn:H T=none:=I.hok.fresh hT;obtain⟨o,ho,oc,on,od⟩:=hTup;have ho2:=kp2 T o (W.apart i T _ mid) ho;have I2:Inv X pins σ (upd H T (.tup [.int i,x])) { s with heap:=h2',toks:=tk }:=I1.track hTn (Ya5 I.sz hT) (Wbd (YaU I.lt hT)) (fun n c e z=>by
   obtain⟨vv,q⟩:=I.cell n c e;exact absurd (YaU q.lt (by rw [z];exact hT)) (Yap _)) (fun p hp z=>absurd (YaU (YaX (I.pin p hp).1) (by rw [z];exact hT)) (Yap _))
   ⟨by show 2<=sizeLine;decide,[.int i t',u'],.cons ⟨t',rfl⟩ (.cons ru .nil),o,ho2,oc,on,od⟩
  refine⟨.ref T,_,I2,rfl,⟨T,x,hTn,rfl,rfl,fun xs' z1=>?_⟩,⟨st2.1,st2.2.1⟩,fun b hb=>?_⟩
  . rw [I.list_inj z1 q1];exact hx
  . rw [zc (Yaf (YaU (olt b hb) hT))];exact(hf b hb).1
 done:=by
  intro X hP hw hK hc i pins s σ H E I hf st hg;subst hP hw hK;obtain⟨xs,q1,hi⟩:=hg;obtain⟨its1,r1,p1,_⟩:=I.list q1;have W:=WalksT.enumerate (prog:=X.prog) (w:=X.w) (A:=X.A) (I.ok.hd hc) e it l hei hle hli its1.toArray;obtain⟨he,h1⟩:=st;have ei:i=its1.toArray.size:=by simp only [YaZ];rw [<-r1.length];exact hi
  subst ei;refine W.done s _ _ ⟨he,h1,p1.isList⟩ fun h' tk kp=>⟨rfl,?_⟩
  exact I.turnedL (ch:=[e,it]) kp fun b hb=>hf b hb
 self:=fun _ _ _ _ _ st h=>by obtain⟨⟨old,he⟩,_⟩:=st;exact wpAny_pyIter_enum he h
def zmf(K:Ybf)(ta:TA):TI:=fun σ H R=>ta σ H fun vs H1=>∃ a,vs=[.ref a]/\(∃ xs,SqL K H1 a xs)/\R (Ite K a) H1
theorem zme{X:Cx}{elts:List Expr}{k:Nat}{tpos:Pos}{a:Expr}{ta:TA}{p pos:Pos}(hg:Gl X "enumerate")(hm:X.mg "enumerate" = none)(ha:PA X [a] ta)(hs:starEach [a] X.env=[(false,eval a X.env)]:=by rfl):PI X (.Tuple elts k tpos) (.Call (.Name "enumerate" p) [a] [] pos) (zmf X.K ta):=by
 intro pins s σ H R I h;refine Call_ (JE I hg hm zhw (Wac (thn (ha pos pins s σ H _ I h) fun us s1 ⟨vs,H1,I1,r1,q1⟩=>?_) (by rw [hs];rfl) rfl))
 obtain⟨l1,e,⟨xs,hx⟩,q⟩:=q1;subst e;obtain⟨u,rfl,ru⟩:=Jr r1;cases(show u=Value.ref l1 from ru)
 obtain⟨its1,_,p1,_⟩:=I1.list hx;have lt1:l1<s1.heap.objs.size:=by obtain⟨o,e,_⟩:=p1.isList;exact YaX e
 refine call_enumerate_list p1.isList fun h' he hi1 hsz kp=>wpAny_pyIter_enum he ?_
 have I2:Inv X pins σ H1 { s1 with heap:=h' }:=I1.kept (t':=s1.toks) kp
 refine⟨_,[s1.heap.objs.size+1,s1.heap.objs.size],_,Ite X.K l1,H1,rfl,I2,zi7 (Nat.succ_ne_self _) (Yaf (Nat.lt_succ_of_lt lt1)) (Yaf lt1),⟨⟨_,he⟩,hi1⟩,fun b hb=>?_,q⟩
 have hb':s1.heap.objs.size<=b:=by
  have hc':b=s1.heap.objs.size+1\/b=s1.heap.objs.size:=by simpa using hb
  rcases hc' with rfl|rfl<;>omega
 have f:=I1.fpOk (H':=H1) hb' (I1.hok.fresh hb');exact⟨f.1,f.2.1,f.2.2.1,f.2.2.2.1,f.2.2.2.2.1,f.2.2.2.2.2⟩
end L2
namespace L3
open PySem PySem.Spec PyProof.Rows L2
variable[LamW]
section
variable{X:Cx}{H0:Hp}{pos p:Pos}
def jQ(ds:List D):List D:=(List.range ds.length).map fun i=>.tuple [.int (i:Nat),ds.getD i .none]
theorem zkk(ds:List D):(jQ ds).length=ds.length:=by unfold jQ;simp
theorem zjb{ds:List D}{i:Nat}{d:D}(h:(jQ ds)[i]?=some d):∃ a,d=.tuple [.int (i:Nat),a]/\ds[i]?=some a:=by
 unfold jQ at h;rw [Ya0] at h
 by_cases hi:i<ds.length
 . rw [Yax hi] at h
   cases h;exact⟨ds[i],by simp [hi],YaQ hi⟩
 . rw [Wao #[6]] at h;cases h
def itE(t:TA3):TI3:=fun ρ Q=>t ρ fun cs=>∃ f as,cs=[.sh f (.list as)]/\Q f (jQ as)
theorem zjd{K:Ybf}{H0 G:Hp}{a:Addr}{xs:List V}{f:Bool}{as:List D}(h1:SqL K G a xs)(r1:Rfs K H0 G f xs as):ItOk K H0 (Ite K a) f (jQ as) G where
 go:=fun i d G' H hd s1 s2=>by
  obtain⟨q,rfl,hq⟩:=zjb hd;obtain⟨x,hx,rx⟩:=r1.get hq;have ss:=s1.trans s2.s;refine⟨⟨xs,x,ss.seq h1,hx⟩,fun v H' ⟨l,x',hl,e1,e2,hh⟩=>?_⟩
  subst e1 e2;have z1:=hh xs (ss.seq h1);rw [hx] at z1;cases z1;have gl:=zG (s2.free hl) (.tup [.int i,x]);exact⟨upd G' l (.tup [.int i,x]),Gr.put s2 hl,⟨.tup (SqT.of zf) (.cons (.int _) (.cons (J8 (s1.trans gl) rx.rd) .nil)),fun hf=>
   .tup zf (.cons (.int _) (.cons (jX (s1.trans gl) (fun _ _ _ z=>z) (rx.nw hf)) .nil))⟩⟩
 stop:=fun i G' H hl s1 s2=>⟨xs,(s1.trans s2.s).seq h1,by rw [hl,zkk,r1.length]⟩
theorem zbP{elts:List Expr}{k:Nat}{tpos:Pos}{a:Expr}{t:TA3}(hg:Gl X "enumerate")(hm:X.mg "enumerate" = none)(ha:PA3 X H0 [a] t)(hs:starEach [a] X.env=[(false,eval a X.env)]:=by rfl):PI3 X H0 (.Tuple elts k tpos) (.Call (.Name "enumerate" p) [a] [] pos) (itE t):=
 ⟨fun ρ Q Q' h q=>ha.mono ρ _ _ (fun cs ⟨f,as,e,q⟩=>⟨f,as,e,h _ _ q⟩) q,PI.imp (zme hg hm ha.ok hs) fun σ H R=>el5 fun G0 ρ G F q=>⟨G0,ρ,G,F,ha.mono ρ _ _ (fun cs hyp vs G1 H1 g1 w=>by
  obtain⟨f,as,e,k⟩:=hyp;subst e;obtain⟨v,rfl,w1⟩:=vws1 w;obtain⟨a,xs,rfl,hq,rs⟩:=JP (zn w1);exact⟨a,rfl,⟨xs,g1.sub.seq hq⟩,k _ G1 H1 g1 (zjd hq rs)⟩) q⟩⟩
end
variable[LamW]
def TupI(K:Ybf)(a:Addr)(ns:List Int):Prop:=∃ (o:Obj) (its:Array Value) (n:Nat),K.lookup a=some o/\o.cls=.type "tuple"/\o.data=.seq its n/\its.size<=sizeLine/\Vals (ns.map V.int) its.toList
section
variable{X:Cx}{H0:Hp}{e:Expr}{pos:Pos}{x:Str}
def k3f(d:D):TE3:=fun _ Q=>Q (.sh false d)
theorem g3t{ns:List Int}(hg:Gl X x)(hm:∃ a,X.mg x=some (.ref a)/\TupI X.K a ns)(hd:#[24]:=by decide):PE3 X H0 (.Name x pos) (k3f (.tuple (ns.map .int))):=by
 obtain⟨a,hm,ht⟩:=hm;exact⟨fun ρ Q Q' h q=>h _ q,PE.imp (zgo (v:=.ref a) hg hm rfl hd) fun σ H Q=>el5 fun G0 ρ G F q=>q (.ref a) G H (Gr.refl F.sub) (.sh ⟨.tup (.inr ht) (zcj ns),fun z=>by cases z⟩)⟩
end
variable[LamW]
section
variable{K:Ybf}{H0 G0:Hp}{ρ : Env3}{σ : L2.St}{G H:Hp}
theorem JL(F:#[18]){i:Nat}{ps:List Addr}{ms:List (List D)}(h:ρ[i]?=some (some (.tr ps ms))):∃ l,σ[i]?=some (some (.ref l))/\Tr K H0 G H l ps ms:=by
 obtain⟨v,h1,h2⟩:=F.slot i _ h;cases h2 with
 | tr t=>exact⟨_,h1,t⟩
theorem Tr.ix{l:Addr}{ps:List Addr}{ms:List (List D)}(t:Tr K H0 G H l ps ms){n:Int}{m:List D}(h:atI ms n=some m):∃ a p vs,ixN ms.length n=some a/\ms[a]?=some m/\ps[a]?=some p/\atI (ps.map V.ref) n=some (.ref p)/\H p=some (.lst vs)/\G p=none/\Rfs K H0 G true vs m:=by
 unfold atI at *;rw [YaR,t.len];cases e:ixN ms.length n with
 | none=>rw [e] at h;cases h
 | some a=>
  rw [e] at h;have h':ms[a]?=some m:=h;have ha:a<ps.length:=by rw [t.len];exact(Ya8.mp h').1
  have hp:ps[a]?=some ps[a]:=YaQ ha;obtain⟨vs,h1,h2,h3⟩:=t.item a _ m hp h';exact⟨a,ps[a],vs,rfl,h',hp,by rw [Option.bind_some,Ya0,hp];rfl,h1,h2,h3⟩
theorem Tr.change{l:Addr}{ps:List Addr}{ms:List (List D)}(t:Tr K H0 G H l ps ms){a:Nat}{p:Addr}{vs:List V}{m:List D}(hp:ps[a]?=some p)(r:Rfs K H0 G true vs m):Tr K H0 G (upd H p (.lst vs)) l ps (ms.set a m):=by
 have hpm:p∈ps:=Yah hp;have hn:=YaB.mp t.nd;have hlp:l≠p:=fun z=>by subst z;exact hn.1 hpm
 refine⟨by rw [zc hlp];exact t.top,t.topG,t.nd,by rw [YaN];exact t.len,fun k q m' h1 h2=>?_⟩
 rcases zJ h2 with ⟨rfl,e,_⟩|⟨n,e⟩
 . rw [hp] at h1;cases h1
   rw [e];exact⟨vs,zf,((t.at hpm).choose_spec.choose_spec).2.1,r⟩
 . obtain⟨us,a1,a2,a3⟩:=t.item k q m' h1 e
   have hq:q≠p:=fun z=>by
    subst z;obtain⟨b1,c1⟩:=Ya8.mp h1;obtain⟨b2,c2⟩:=Ya8.mp hp;exact n ((WaL hn.2).mp (c2.trans c1.symm))
   exact⟨us,by rw [zc hq];exact a1,a2,a3⟩
theorem Fr3.chgT(F:#[18]){i:Nat}{l:Addr}{ps:List Addr}{ms:List (List D)}{a:Nat}{p:Addr}{vs:List V}{m:List D}(hi:ρ[i]?=some (some (.tr ps ms)))(hl:σ[i]?=some (some (.ref l)))(hp:ps[a]?=some p)(r:Rfs K H0 G true vs m):Fr3 K H0 G0 (ρ.set i (some (.tr ps (ms.set a m)))) σ G (upd H p (.lst vs)):=by
 obtain⟨l',hl',t⟩:=JL F hi;rw [hl] at hl';cases hl';exact F.chg hi hl (.inr (Yah hp)) (fun _ h=>h) (.tr (t.change hp r))
end
section
variable{X:Cx}{H0:Hp}{e k j:Expr}{pos:Pos}{x:Str}{i:Nat}
def ix2(i:Nat)(tk tj:TE3):TE3:=fun ρ Q=>∃ ps ms,ρ[i]?=some (some (.tr ps ms))/\tk ρ fun kc=>∃ n m,kc=.sh true (.int n)/\atI ms n=some m/\tj ρ fun jc=>∃ b d,jc=.sh true (.int b)/\atI m b=some d/\Q (.sh true d)
theorem at2{np kp:Pos}{tk tj:TE3}(hN:X.N[i]?=some x)(hv:Vis X.env.scope x)(hk:PE3 X H0 k tk)(hj:PE3 X H0 j tj)(hsk:J9 k)(hsj:J9 j)(hd:#[24]:=by decide)(hcd:#[20]:=by decide) :
 PE3 X H0 (.Subscript (.Subscript (.Name x np) k kp) j pos) (ix2 i tk tj):=by
 refine⟨fun ρ Q Q' h q=>?_,PE.imp (jM j8 (jM j8 (jx hN hv hd hcd) hk.ok hsk) hj.ok hsj) fun σ H Q=>el5 fun G0 ρ G F q=>?_⟩
 . obtain⟨ps,ms,hi,q⟩:=q
   refine⟨ps,ms,hi,hk.mono ρ _ _ (fun kc q=>?_) q⟩
   obtain⟨n,m,e1,e2,q⟩:=q;refine⟨n,m,e1,e2,hj.mono ρ _ _ (fun jc q=>?_) q⟩
   obtain⟨b,d,e3,e4,q⟩:=q;exact⟨b,d,e3,e4,h _ q⟩
 . obtain⟨ps,ms,hi,q⟩:=q
   obtain⟨l,hl,t⟩:=JL F hi;refine⟨.ref l,hl,G0,ρ,G,F,hk.mono ρ _ _ (fun kc q v1 G1 H1 g1 w1=>?_) q⟩
   obtain⟨n,m,e1,e2,q⟩:=q;subst e1;cases zB (zn w1).rd;have F1:=F.gr g1;obtain⟨l',hl',t1⟩:=JL F1 hi;rw [hl] at hl';cases hl';obtain⟨a,p,vs,h1,h2,h3,h4,h5,h6,h7⟩:=t1.ix e2;refine⟨l,_,n,.ref p,rfl,rfl,SqL.of t1.top,h4,G0,ρ,G1,F1,hj.mono ρ _ _ (fun jc q v2 G2 H2 g2 w2=>?_) q⟩
   obtain⟨b,d,e3,e4,q⟩:=q;subst e3;cases zB (zn w2).rd;obtain⟨v,hv,rv⟩:=ZR (h7.same g2.g) e4;exact⟨p,vs,b,v,rfl,rfl,SqL.of (g2.h.at h5),hv,q v G2 H2 (g1.trans g2) (.sh rv)⟩
def put2(i:Nat)(tk tj te:TE3):TS3:=fun A ρ=>∃ ps ms,ρ[i]?=some (some (.tr ps ms))/\te ρ fun c=>tk ρ fun kc=>∃ n m,kc=.sh true (.int n)/\atI ms n=some m/\tj ρ fun jc=>∃ b d a q,jc=.sh true (.int b)/\c=.sh true d/\ixN ms.length n=some a/\ixN m.length b=some q/\A.nx (ρ.set i (some (.tr ps (ms.set a (m.set q d)))))
theorem zdF{tk tj te:TE3}{np kp spos:Pos}(hN:X.N[i]?=some x)(hv:Vis X.env.scope x)(hk:PE3 X H0 k tk)(hj:PE3 X H0 j tj)(he:PE3 X H0 e te)(hsk:J9 k)(hd:#[24]:=by decide)(hcd:#[20]:=by decide)
 (hs:swapsWithSole [.Subscript (.Subscript (.Name x np) k kp) j spos] e pos.line X.env=pure false:=by rfl) (hw:swappedStores [.Subscript (.Subscript (.Name x np) k kp) j spos] e X.env=pure none:=by rfl)
 (h1:(assignEach [.Subscript (.Subscript (.Name x np) k kp) j spos] X.env).map (·.2)=[assign (.Subscript (.Subscript (.Name x np) k kp) j spos) X.env]:=by rfl)
 (ha:∀ v,assign (.Subscript (.Subscript (.Name x np) k kp) j spos) X.env v=(do
  let ov <-holding [v] (eval (.Subscript (.Name x np) k kp) X.env)
  let iv <-holding [v,ov] (eval j X.env)
  standAt spos
  holding [v,ov,iv] (setItem ov iv v)
  release [v,ov,iv] []):=by intro _;rfl):PS3 X H0 (.Assign [.Subscript (.Subscript (.Name x np) k kp) j spos] e pos) (put2 i tk tj te):=by
 refine PS.imp (zco he.ok (zfR (jM j8 (jx hN hv hd hcd) hk.ok hsk) hj.ok ZO ha) hs hw h1) fun B σ H hyp=>?_
 obtain⟨G0,A,ρ,G,F,⟨ps,ms,hi,q⟩,L⟩:=hyp;obtain⟨l,hl,t⟩:=JL F hi;refine⟨G0,ρ,G,F,he.mono ρ _ _ (fun c q v G1 H1 g1 w1=>?_) q⟩
 have F1:=F.gr g1;refine⟨.ref l,hl,G0,ρ,G1,F1,hk.mono ρ _ _ (fun kc q v2 G2 H2 g2 w2=>?_) q⟩
 obtain⟨n,m,e1,e2,q⟩:=q;subst e1;cases zB (zn w2).rd;have F2:=F1.gr g2;obtain⟨l',hl',t2⟩:=JL F2 hi;rw [hl] at hl';cases hl';obtain⟨a,p,vs,k1,k2,k3,k4,k5,k6,k7⟩:=t2.ix e2;refine⟨l,_,n,.ref p,rfl,rfl,SqL.of t2.top,k4,G0,ρ,G2,F2,hj.mono ρ _ _ (fun jc q v3 G3 H3 g3 w3=>?_) q⟩
 obtain⟨b,d,a',z,e3,e4,e5,e6,q⟩:=q;subst e3 e4;cases zB (zn w3).rd;rw [k1] at e5;cases e5;refine⟨p,vs,b,z,rfl,rfl,g3.h.at k5,by rw [k7.length];exact e6,L.nx _ _ _ _ ((F2.gr g3).chgT hi hl k3 ((k7.same g3.g).set ((zn w1).same (g2.g.trans g3.g)) z)) q⟩
def app2(i:Nat)(tk te:TE3):TS3:=fun A ρ=>∃ ps ms,ρ[i]?=some (some (.tr ps ms))/\tk ρ fun kc=>∃ n m a,kc=.sh true (.int n)/\atI ms n=some m/\ixN ms.length n=some a/\m.length<sizeLine/\te ρ fun c=>∃ d,c=.sh true d/\A.nx (ρ.set i (some (.tr ps (ms.set a (m++[d])))))
theorem zhp{tk te:TE3}{np kp apos cpos:Pos}(hN:X.N[i]?=some x)(hv:Vis X.env.scope x)(hk:PE3 X H0 k tk)(he:PE3 X H0 e te)(hsk:J9 k)(hd:#[24]:=by decide)(hcd:#[20]:=by decide)
 (hb:attributeBase (.Subscript (.Name x np) k kp) "append" X.env (eval (.Subscript (.Name x np) k kp) X.env)=eval (.Subscript (.Name x np) k kp) X.env:=by rfl)
 (hf:((backTo cpos (starEach [e] X.env)).all (fun x=>!x.1)&&(backToKw cpos (keywordEach [] X.env)).all (fun x=>x.1.isSome)&&decide ([e].length+([]:List Keyword).length+(if([]:List Keyword).isEmpty then 0 else 1)<30))=true:=by rfl)
 (hl:(apos.endLine==cpos.line)=true:=by rfl) (hs:starEach [e] X.env=(false,eval e X.env)::starEach [] X.env:=by rfl) (hp:(backTo cpos (starEach [] X.env)).any (·.1)=false:=by rfl)
 (hw:swapsWith (.Call (.Attribute (.Subscript (.Name x np) k kp) "append" apos) [e] [] cpos) none pos.line X.env=pure false:=by rfl):PS3 X H0 (.Expr (.Call (.Attribute (.Subscript (.Name x np) k kp) "append" apos) [e] [] cpos) pos) (app2 i tk te):=by
 refine PS.imp (jZ (zc4 (jM j8 (jx hN hv hd hcd) hk.ok hsk) (zm he.ok zK hs) hb hf hl hs hp) hw) fun B σ H hyp=>?_
 obtain⟨G0,A,ρ,G,F,⟨ps,ms,hi,q⟩,L⟩:=hyp;obtain⟨l,hl,t⟩:=JL F hi;refine⟨.ref l,hl,G0,ρ,G,F,hk.mono ρ _ _ (fun kc q v2 G2 H2 g2 w2=>?_) q⟩
 obtain⟨n,m,a',e1,e2,e5,e6,q⟩:=q;subst e1;cases zB (zn w2).rd;have F2:=F.gr g2;obtain⟨l',hl',t2⟩:=JL F2 hi;rw [hl] at hl';cases hl';obtain⟨a,p,vs,k1,k2,k3,k4,k5,k6,k7⟩:=t2.ix e2;rw [k1] at e5;cases e5;refine⟨l,_,n,.ref p,rfl,rfl,SqL.of t2.top,k4,zdm k5,G0,ρ,G2,F2,he.mono ρ _ _ (fun c q v G3 H3 g3 w3=>?_) q⟩
 obtain⟨d,e3,q⟩:=q;subst e3;exact⟨p,vs,v,rfl,rfl,g3.h.at k5,by rw [k7.length];exact e6,L.nx _ _ _ _ ((F2.gr g3).chgT hi hl k3 ((k7.same g3.g).snoc (zn w3))) q⟩
def za7(i:Nat)(ti:TI3)(m:List D):TS3:=fun A ρ=>ti ρ fun _ ds=>ds.length<=1000000/\∀ ps:List Addr,ps.length=ds.length->A.nx (ρ.set i (some (.tr ps (List.replicate ds.length m))))
theorem zcY(lo:Int)(n:Nat):(nums lo n).length=n:=by unfold nums;rw [YaR,YaG]
theorem zea{es:List Expr}{kn:Str}{kp lp:Pos}{iter:Expr}{scope:Scope}{spos pos':Pos}{ti:TI3}{te:TE}{vs:List V}{m:List D}(hN:X.N.Nodup)(hix:X.N[i]?=some x)(hx:Loc X.env.scope x)(tn fn:List Str)(js:List Nat)(hcalm:X.calm=true)(S:CompSc X.env.scope scope tn fn)(hj:js.map (fun j=>X.N[j]?)=fn.map some)
 (hi:PI3 X H0 (.Name kn kp) iter ti)
 (hb:∀ s H fp cl,PG #[16] (.Name kn kp) (zbQ 0)/\PE #[16] (.List es lp) te)
 (ht:∀ σ H Q,(∀ p,H p=none->Q (.ref p) (upd H p (.lst vs)))->te σ H Q) (hr:∀ G,RdVs X.K G vs m) (hsc:m.all zw=true)
 (hs:∀ x,foldedSetIterable iter X.env x=pure x:=by intro _;rfl)
 (hsw:swapsWith (.ListComp (.List es lp) [⟨.Name kn kp,iter,[],0⟩] scope pos) (some (.Name x pos')) spos.line X.env=pure true:=by rfl) (hf:#[19]:=by first|exact .inl rfl|exact .inr rfl|assumption) :
 PS3 X H0 (.Assign [.Name x pos'] (.ListComp (.List es lp) [⟨.Name kn kp,iter,[],0⟩] scope pos) spos) (za7 i ti m):=by
 refine PS.imp (zbX hN hix hx tn fn js hcalm S hj hi.ok (fun s H fp cl=>⟨(hb s H fp cl).1,zaM,(hb s H fp cl).2⟩) hs hsw hf) fun B σ H hyp=>?_
 obtain⟨G0,A,ρ,G,F,q,L⟩:=hyp;refine⟨G0,ρ,G,F,hi.mono ρ _ _ (fun fl ds q J G1 H1 g1 ok D hD=>?_) q⟩
 obtain⟨e2,q⟩:=q;generalize hn:ds.length=n at e2 q;have F1:=F.gr g1;have gD:G1 D=none:=g1.sub.free hD;refine⟨fun c r ys σ2 H2=>c<=n/\r=n - c/\zi H1 H2/\∃ ps:List Addr,ys=ps.map V.ref/\ps.length=c/\H2 D=some (.lst ys)/\(D::ps).Nodup/\∀ p∈ps,H1 p=none/\H2 p=some (.lst vs),
  ⟨n,Wbl _,rfl,(zG hD _).x,[],rfl,rfl,zf,by simp,fun p hp=>by cases hp⟩,?_⟩
 rintro c r ys σ2 H2 ⟨hcn,rfl,s2,ps,rfl,hpl,hHD,hnd,hps⟩
 have sG:Sub G1 H2:=g1.sub.trans s2
 by_cases hlt:c<n
 . right
   have hc':c<ds.length:=by rw [hn];exact hlt
   have hd:ds[c]?=some ds[c]:=YaQ hc';obtain⟨hgo,hy⟩:=ok.go c _ G1 H2 hd (Same.refl _) sG;refine⟨hgo,fun x3 H3 y3=>?_⟩
   obtain⟨G3,g3,_⟩:=hy x3 H3 y3;show te _ H3 _;refine ht _ _ _ fun p hp=>?_
   have h3D:H3 D=some (.lst (ps.map V.ref)):=g3.h.at hHD;have pD:p≠D:=fun z=>by subst z;rw [hp] at h3D;cases h3D
   have p1:H1 p=none:=(s2.trans g3.h).free hp;refine⟨by rw [zc (Wbo pD)];exact h3D,?_,n - (c+1),#[0],#[0],rfl,?_,ps++[p],by rw [Ya2];rfl,by rw [YaS,hpl];rfl,zf,?_,?_⟩
   . rw [YaR,hpl]
     exact YaU (show c<1000001 by omega) #[1]
   . exact((s2.trans g3.h).trans (zG hp _).x).chg hD (by rw [zc (Wbo pD)];exact h3D) fun f z=>by cases z
   . rw [<-List.cons_append]
     refine WaA.mpr ⟨hnd,by simp,fun a ha b hb=>?_⟩
     cases Ya6.mp hb
     intro z;subst z
     rcases Wa4.mp ha with h|h
     . exact pD h
     . have:=g3.h.at (hps a h).2
       rw [hp] at this;cases this
   . intro b hb
     rcases Ya3.mp hb with h|h
     . have hbD:b≠D:=fun z=>by subst z;exact(YaB.mp hnd).1 h
       have hbp:b≠p:=fun z=>by
        subst z;have:=g3.h.at (hps b h).2;rw [hp] at this;cases this
       exact⟨(hps b h).1,by rw [zc hbD,zc hbp];exact g3.h.at (hps b h).2⟩
     . cases Ya6.mp h
       exact⟨p1,by rw [zc pD];exact zf⟩
 . left
   have ec:c=n:=Nat.le_antisymm hcn (Nat.not_lt.mp hlt);subst ec;refine⟨ok.stop c G1 H2 hn.symm (Same.refl _) sG,?_⟩;refine L.nx _ _ G1 H2 (F1.put s2 (.tr ⟨hHD,gD,hnd,by rw [hpl,Ybb],fun k p m' h1 h2=>?_⟩) fun a h=>?_) (q ps hpl)
   . have hm':m'=m:=by
      have:=Yah h2;exact Wai this
     subst hm';have hp:=Yah h1;exact⟨vs,(hps p hp).2,g1.sub.free (hps p hp).1,hr _,fun _=>zfl hsc (hr _)⟩
   . rcases h with h|h
     . cases h;exact hD
     . exact(hps a h).1
end
end L3
namespace L2
open PySem PySem.Spec PyProof.Rows
section
variable{κ : Type}[DecidableEq κ]
def valV(kvs:List (κ×V))(k:κ):Option V:=(kvs.find? fun kv=>decide (kv.1=k)).map (·.2)
def putK(kvs:List (κ×V))(k:κ)(v:V):List (κ×V):=
 if(kvs.any fun kv=>decide (kv.1=k))=true then kvs.map (fun kv=>if kv.1=k then(kv.1,v) else kv) else kvs++[(k,v)]
def zeL(kvs:List (κ×V))(k:κ):List (κ×V):=kvs.filter fun kv=>decide (kv.1≠k)
theorem zaZ{p:κ×V}{r:List (κ×V)}{k:κ}(e:p.1=k):valV (p::r) k=some p.2:=by simp [valV,List.find?_cons,e]
theorem zaY{p:κ×V}{r:List (κ×V)}{k:κ}(e:¬p.1=k):valV (p::r) k=valV r k:=by simp [valV,List.find?_cons,e]
theorem zd4(k:κ):∀ kvs:List (κ×V),(kvs.any fun kv=>decide (kv.1=k))=(valV kvs k).isSome
 | []=>rfl
 | p :: r => by
  rw [List.any_cons]
  by_cases e:p.1=k
  . simp only [zaZ e,decide_eq_true e,Wbf,Option.isSome_some]
  . rw [zaY e,decide_eq_false e,Wa6];exact zd4 k r
theorem zeW(kvs:List (κ×V))(k:κ)(v:V):(putK kvs k v).length<=kvs.length+1:=by
 unfold putK
 split
 . rw [YaR];omega
 . rw [YaS,List.length_cons,List.length_nil];omega
theorem RelO.isSome_eq{o:Option V}{u:Option Value}(r:RelO o u):o.isSome=u.isSome:=by
 cases o with
 | none => cases u with
  | none=>rfl
  | some _=>exact(show False from r).elim
 | some _ => cases u with
  | none=>exact(show False from r).elim
  | some _=>rfl
theorem RelO.getD{o:Option V}{u:Option Value}{d:V}{d':Value}(r:RelO o u)(rd:RelV d d'):RelV (o.getD d) (u.getD d'):=by
 cases o with
 | none => cases u with
  | none=>exact rd
  | some _=>exact(show False from r).elim
 | some _ => cases u with
  | none=>exact(show False from r).elim
  | some _=>exact r
theorem KV.val{kvs:List (κ×V)}{vs:List (κ×Value)}(r:KV kvs vs)(k:κ):RelO (valV kvs k) (valueAt vs k):=by
 unfold KV at r
 induction r with
 | nil=>exact True.intro
 | @cons p q ps qs h t ih=>
  obtain⟨h1,h2⟩:=h
  by_cases e:p.1=k
  . have e':q.1=k:=h1.symm.trans e
    have b:valueAt (q::qs) k=some q.2:=by simp [valueAt,List.find?_cons,e']
    rw [zaZ e,b];exact h2
  . have e':¬q.1=k:=fun z=>e (h1.trans z)
    have b:valueAt (q::qs) k=valueAt qs k:=by simp [valueAt,List.find?_cons,e']
    rw [zaY e,b];exact ih
theorem KV.any{kvs:List (κ×V)}{vs:List (κ×Value)}(r:KV kvs vs)(k:κ):(kvs.any fun kv=>decide (kv.1=k))=vs.any fun kv=>decide (kv.1=k):=by
 unfold KV at r
 induction r with
 | nil=>rfl
 | cons h t ih=>rw [List.any_cons,List.any_cons,ih,h.1]
theorem KV.repl{kvs:List (κ×V)}{vs:List (κ×Value)}(r:KV kvs vs)(k:κ){y:V}{u:Value}(ry:RelV y u) :
 KV (kvs.map fun kv=>if kv.1=k then(kv.1,y) else kv) (vs.map fun kv=>if kv.1=k then(kv.1,u) else kv):=by
 unfold KV at r ⊢
 induction r with
 | nil=>exact .nil
 | @cons p q ps qs h t ih=>
  rw [Ya1,Ya1];refine .cons ?_ ih;obtain⟨h1,h2⟩:=h
  by_cases e:p.1=k
  . rw [if_pos e,if_pos (h1.symm.trans e)];exact⟨h1,ry⟩
  . rw [if_neg e,if_neg (fun z=>e (h1.trans z))];exact⟨h1,h2⟩
theorem KV.put{kvs:List (κ×V)}{vs:List (κ×Value)}(r:KV kvs vs)(k:κ){y:V}{u:Value}(ry:RelV y u):KV (putK kvs k y) (stored vs k u):=by
 unfold putK stored;rw [r.any k]
 by_cases e:(vs.any fun kv=>decide (kv.1=k))=true
 . rw [if_pos e,if_pos e];exact r.repl k ry
 . rw [if_neg e,if_neg e];exact Paired.snoc r ⟨rfl,ry⟩
theorem KV.drop{kvs:List (κ×V)}{vs:List (κ×Value)}(r:KV kvs vs)(k:κ):KV (zeL kvs k) (without vs k):=by
 unfold KV at r ⊢;unfold zeL without
 induction r with
 | nil=>exact .nil
 | @cons p q ps qs h t ih=>
  obtain⟨h1,h2⟩:=h;rw [YaM,YaM]
  by_cases e:p.1=k
  . have a:¬decide (p.1≠k)=true:=by simp [e]
    have b:¬decide (q.1≠k)=true:=by simp [h1.symm.trans e]
    rw [if_neg a,if_neg b];exact ih
  . have e':¬q.1=k:=fun z=>e (h1.trans z)
    have a:decide (p.1≠k)=true:=by simp [e]
    have b:decide (q.1≠k)=true:=by simp [e']
    rw [if_pos a,if_pos b];exact .cons ⟨h1,h2⟩ ih
theorem KV.keys{kvs:List (κ×V)}{vs:List (κ×Value)}(r:KV kvs vs):kvs.map (·.1)=vs.map (·.1):=by
 unfold KV at r
 induction r with
 | nil=>rfl
 | cons h t ih=>rw [Ya1,Ya1,ih,h.1]
theorem KV.length{kvs:List (κ×V)}{vs:List (κ×Value)}(r:KV kvs vs):kvs.length=vs.length:=Wa3 r
end
theorem Zr{P:Program}{w:World}{k:Key}{u:Value}(r:RelV (kV k) u):(ja P w).is k u=true:=by
 cases k with
 | inl i=>obtain⟨t,e⟩:=(show ∃ t,u=Value.int i t from r);subst e;exact zjW P w i t
 | inr x=>obtain⟨t,e⟩:=(show ∃ t,u=Value.str x t from r);subst e;exact zgY P w x t
theorem ze0{P:Program}{w:World}:∀ {ks:List Key} {us:List Value},Vals (ks.map kV) us->ItemsAre (ja P w) ks us
 | [],_,r=>by rw [Wbe] at r;cases r;exact .nil
 | k :: ks, _, r => by
  rw [Ya1] at r;cases r with
  | cons h t=>exact .cons (Zr h) (ze0 t)
abbrev KT(H:Hp):List (List Key×V)->List (List Key×Addr×Value)->Prop:=Paired fun p q=>p.1=q.1/\H q.2.1=some (.tup (p.1.map kV))/\RelV p.2 q.2.2
theorem KT.val{H:Hp}{kvs:List (List Key×V)}{xs:List (List Key×Addr×Value)}(r:KT H kvs xs)(k:List Key):RelO (valV kvs k) ((atKey xs k).map (·.2)):=by
 induction r with
 | nil=>exact True.intro
 | @cons p q ps qs h t ih=>
  obtain⟨h1,_,h2⟩:=h
  by_cases e:p.1=k
  . have e':q.1=k:=h1.symm.trans e
    have b:atKey (q::qs) k=some q.2:=by simp [atKey,List.find?_cons,e']
    rw [zaZ e,b];exact h2
  . have e':¬q.1=k:=fun z=>e (h1.trans z)
    have b:atKey (q::qs) k=atKey qs k:=by simp [atKey,List.find?_cons,e']
    rw [zaY e,b];exact ih
theorem KT.repl{H:Hp}{kvs:List (List Key×V)}{xs:List (List Key×Addr×Value)}(r:KT H kvs xs)(k:List Key){y:V}{u:Value}(ry:RelV y u) :
 KT H (kvs.map fun kv=>if kv.1=k then(kv.1,y) else kv) (xs.map (putAt k u)):=by
 induction r with
 | nil=>exact .nil
 | @cons p q ps qs h t ih=>
  rw [Ya1,Ya1];refine .cons ?_ ih;obtain⟨h1,h2,h3⟩:=h;unfold putAt
  by_cases e:p.1=k
  . rw [if_pos e,if_pos (h1.symm.trans e)];exact⟨h1,h2,ry⟩
  . rw [if_neg e,if_neg (fun z=>e (h1.trans z))];exact⟨h1,h2,h3⟩
theorem KT.put{H:Hp}{kvs:List (List Key×V)}{xs:List (List Key×Addr×Value)}(r:KT H kvs xs)(k:List Key){b:Addr}{y:V}{u:Value}(hb:H b=some (.tup (k.map kV)))(ry:RelV y u) :
 KT H (putK kvs k y) (storedH xs k b u):=by
 have e:(kvs.any fun kv=>decide (kv.1=k))=(atKey xs k).isSome:=by
  rw [zd4,(r.val k).isSome_eq,WaC]
 unfold putK storedH;rw [e]
 by_cases q:(atKey xs k).isSome=true
 . rw [if_pos q,if_pos q];exact r.repl k ry
 . rw [if_neg q,if_neg q];exact Paired.snoc r ⟨rfl,hb,ry⟩
theorem KT.keeps{H H':Hp}{kvs:List (List Key×V)}{xs:List (List Key×Addr×Value)}(r:KT H kvs xs)(ht:∀ b ys,H b=some (.tup ys)->H' b=some (.tup ys)):KT H' kvs xs:=
 Paired.mapP r fun _ _ z=>⟨z.1,ht _ _ z.2.1,z.2.2⟩
section
variable{P:Program}{w:World}{H:Hp}{h:Heap}{a:Addr}
theorem zfZ{u:HO}(ok:HOk P w H h)(e:Rd H a u):zI P w H h a u:=e.ok ok
theorem J6{kvs:List (Key×V)}(ok:HOk P w H h)(e:Rd H a (.dK kvs)):kvs.length<=sizeLine/\(a==sysModules)=false/\∃ vs,KV kvs vs/\h.DictOf (ja P w) a vs:=
 show zI P w H h a (.dK kvs) from zfZ ok e
theorem zkD{kvs:List (Key×V)}(ok:HOk P w H h)(e:H a=some (.dK kvs)):kvs.length<=sizeLine/\(a==sysModules)=false/\∃ vs,KV kvs vs/\h.DictOf (ja P w) a vs:=J6 ok (.inl e)
theorem Zl{ks:List Key}(ok:HOk P w H h)(e:H a=some (.tup (ks.map kV))):(tupleKind (ja P w)).is h ks a:=by
 obtain⟨_,its,r,o,h1,h2,n,h3⟩:=(show zI P w H h a (.tup (ks.map kV)) from ok a _ e)
 exact⟨o,its.toArray,n,h1,h2,h3,by simpa using ze0 r⟩
theorem JZ{kvs:List (List Key×V)}(ok:HOk P w H h)(e:Rd H a (.dT kvs)):kvs.length<=sizeLine/\(a==sysModules)=false/\
 ∃ xs,KT H kvs xs/\h.DictOfH (tupleKind (ja P w)) a xs:=by
 obtain⟨z,y,xs,r,o,es,ep,h1,h2,h3,h4,h5⟩:=(show zI P w H h a (.dT kvs) from zfZ ok e)
 refine⟨z,y,xs,r,o,es,ep,h1,h2,h3,h4,fun x hx=>?_,h5⟩
 have all:∀ {l:List (List Key×V)} {m:List (List Key×Addr×Value)},KT H l m->∀ x∈m,(tupleKind (ja P w)).is h x.1 x.2.1:=by
  intro l m q
  induction q with
  | nil=>intro x hx;exact nomatch hx
  | @cons p q ps qs hq t ih=>
   intro x hx
   rcases Wa4.mp hx with e|hx
   . subst e
     exact Zl ok (by rw [<-hq.1];exact hq.2.1)
   . exact ih x hx
 exact all r x hx
theorem zkJ{kvs:List (List Key×V)}(ok:HOk P w H h)(e:H a=some (.dT kvs)):kvs.length<=sizeLine/\(a==sysModules)=false/\
 ∃ xs,KT H kvs xs/\h.DictOfH (tupleKind (ja P w)) a xs:=JZ ok (.inl e)
end
def DGet(H:Hp)(a:Addr)(y:V)(r:Option V):Prop:=
 (∃ kvs k,Rd H a (.dK kvs)/\y=kV k/\r=valV kvs k)\/∃ kvs k b,Rd H a (.dT kvs)/\y=.ref b/\H b=some (.tup (k.map kV))/\r=valV kvs k
def DPut(H:Hp)(a:Addr)(y v:V)(H':Hp):Prop:=
 (∃ kvs k,H a=some (.dK kvs)/\y=kV k/\kvs.length<sizeLine/\H'=upd H a (.dK (putK kvs k v)))\/
 ∃ kvs k b,H a=some (.dT kvs)/\y=.ref b/\H b=some (.tup (k.map kV))/\kvs.length<sizeLine/\H'=upd H a (.dT (putK kvs k v))
theorem DGet.k{H:Hp}{a:Addr}{kvs:List (Key×V)}{k:Key}(e:H a=some (.dK kvs)):DGet H a (kV k) (valV kvs k):=.inl ⟨kvs,k,.inl e,rfl,rfl⟩
theorem DGet.t{H:Hp}{a b:Addr}{kvs:List (List Key×V)}{k:List Key}(e:H a=some (.dT kvs))(eb:H b=some (.tup (k.map kV))):DGet H a (.ref b) (valV kvs k):=.inr ⟨kvs,k,b,.inl e,rfl,eb,rfl⟩
theorem DPut.k{H:Hp}{a:Addr}{kvs:List (Key×V)}{k:Key}{v:V}(e:H a=some (.dK kvs))(hl:kvs.length<sizeLine):DPut H a (kV k) v (upd H a (.dK (putK kvs k v))):=.inl ⟨kvs,k,e,rfl,hl,rfl⟩
theorem DPut.t{H:Hp}{a b:Addr}{kvs:List (List Key×V)}{k:List Key}{v:V}(e:H a=some (.dT kvs))(eb:H b=some (.tup (k.map kV)))(hl:kvs.length<sizeLine) :
 DPut H a (.ref b) v (upd H a (.dT (putK kvs k v))):=.inr ⟨kvs,k,b,e,rfl,eb,hl,rfl⟩
section
variable{X:Cx}{pins:List #[17]}{σ : St}{H:Hp}{s:Shared}{a:Addr}{y v:V}{u r:Value}{o:Option V}{A:Around}{E:#[13]}
theorem Inv.big(I:#[11]):sysModules<s.heap.objs.size:=by
 have h:mainGlobals<s.heap.objs.size:=(I.mod.glob.keeps I.bk).lt;exact Nat.lt_trans #[1] h
theorem zgs{Q:#[13]}(hu:A.units+1<cLine)(I:#[11])(g:DGet H a y (some v))(ry:RelV y u)(h:∀ w' s',Inv X pins σ H s'->RelV v w'->Q w' s') :
 wpAny #[12] A (getItem (.ref a) u) Q E s:=by
 rcases g with ⟨kvs,k,e,ey,l⟩|⟨kvs,k,b,e,ey,eb,l⟩
 . subst ey
   obtain⟨z,hd,vs,rel,dd⟩:=J6 I.hok e;obtain⟨w',hw,rw'⟩:=RelO.some_of (v:=v) (o:=valueAt vs k) (by rw [l];exact rel.val k)
   exact wpAny_getItem_of (Zr ry) dd.mapOf hw (h w' _ (I.tok _) rw')
 . subst ey
   cases(show u=Value.ref b from ry)
   obtain⟨z,hd,xs,rel,dd⟩:=JZ I.hok e;obtain⟨w',hw,rw'⟩:=RelO.some_of (v:=v) (o:=(atKey xs k).map (·.2)) (by rw [l];exact rel.val k)
   obtain⟨p,hp,hp2⟩:=YaJ.mp hw;refine wpAny_getItem_heap (tupleKind_room_in1 hu) (Zl I.hok eb) dd hp ?_;rw [hp2];exact h w' _ (I.tok _) rw'
theorem d_in{Q:#[13]}(hu:A.units+1<cLine)(I:#[11])(g:DGet H a y o)(ry:RelV y u)(h:∀ s',Inv X pins σ H s'->Q (.bool o.isSome) s') :
 wpAny #[12] A (compareOp .In u (.ref a)) Q E s:=by
 rcases g with ⟨kvs,k,e,ey,l⟩|⟨kvs,k,b,e,ey,eb,l⟩
 . subst ey
   obtain⟨z,hd,vs,rel,dd⟩:=J6 I.hok e;refine wpAny_in_of (Zr ry) hd dd.mapOf ?_;rw [<-(rel.val k).isSome_eq,<-l];exact h _ (I.tok _)
 . subst ey
   cases(show u=Value.ref b from ry)
   obtain⟨z,hd,xs,rel,dd⟩:=JZ I.hok e;refine wpAny_in_heap (tupleKind_room_in1 hu) (Zl I.hok eb) hd dd ?_;have q:=(rel.val k).isSome_eq;rw [WaC] at q;rw [<-q,<-l];exact h _ (I.tok _)
theorem zhK{Q:#[13]}(hu:A.units+1<cLine)(I:#[11])(g:DGet H a y o)(ry:RelV y u)(h:∀ s',Inv X pins σ H s'->Q (.bool (!o.isSome)) s') :
 wpAny #[12] A (compareOp .NotIn u (.ref a)) Q E s:=by
 rcases g with ⟨kvs,k,e,ey,l⟩|⟨kvs,k,b,e,ey,eb,l⟩
 . subst ey
   obtain⟨z,hd,vs,rel,dd⟩:=J6 I.hok e;refine wpAny_notIn_of (Zr ry) hd dd.mapOf ?_;rw [<-(rel.val k).isSome_eq,<-l];exact h _ (I.tok _)
 . subst ey
   cases(show u=Value.ref b from ry)
   obtain⟨z,hd,xs,rel,dd⟩:=JZ I.hok e;refine wpAny_notIn_heap (tupleKind_room_in1 hu) (Zl I.hok eb) hd dd ?_;have q:=(rel.val k).isSome_eq;rw [WaC] at q;rw [<-q,<-l];exact h _ (I.tok _)
theorem zeB{h':Heap}{t':Nat}{ob:HO}(I:#[11])(mu:Mut (H a))(hs:Heap.SameBut a s.heap h')(he:∃ q,h'.get? a=some q)(new:zI X.prog X.w (upd H a ob) h' a ob) :
 Inv X pins σ (upd H a ob) { s with heap:=h',toks:=t' }:=
 I.write (x:=a) (e:=a) mu (.inl rfl) (fun b q hb z=>(hs.2 b hb).trans z) he new
theorem zho{P:Program}{w:World}{H':Hp}{h':Heap}{kvs:List (Key×V)}{vs:List (Key×Value)}(z:kvs.length<=sizeLine)(hd:(a==sysModules)=false)(rel:KV kvs vs)(dd:h'.DictOf (ja P w) a vs) :
 zI P w H' h' a (.dK kvs):=⟨z,hd,vs,rel,dd⟩
theorem zhl{H':Hp}{Q:Unit->Shared->Prop}(hu:A.units+1<cLine)(I:#[11])(g:DPut H a y v H')(ry:RelV y u)(rv:RelV v r)(h:∀ s',Inv X pins σ H' s'->Q () s') :
 wpAny #[12] A (setItem (.ref a) u r) Q E s:=by
 rcases g with ⟨kvs,k,e,ey,l,eH⟩|⟨kvs,k,b,e,ey,eb,l,eH⟩
 . subst ey eH
   obtain⟨z,hd,vs,rel,dd⟩:=zkD I.hok e;have hz:vs.length<=sizeLine:=by rw [<-rel.length];exact z
   have hl:(putK kvs k v).length<=sizeLine:=by have:=zeW kvs k v;omega
   refine wpAny_setItem_pairs (hsz:=hz) (Zr ry) dd fun h' dd' hs=>h _ ?_
   have he:∃ q,h'.get? a=some q:=let ⟨q,_,_,hq,_⟩:=dd';⟨q,hq⟩;exact zeB I (by rw [e];exact True.intro) hs he (zho hl hd (rel.put k rv) dd')
 . subst ey eH
   cases(show u=Value.ref b from ry)
   obtain⟨z,hd,xs,rel,dd⟩:=zkJ I.hok e;have hz:xs.length<=sizeLine:=by rw [<-Wa3 rel];exact z
   have hl:(putK kvs k v).length<=sizeLine:=by have:=zeW kvs k v;omega
   refine wpAny_setItem_heap (hsz:=hz) (tupleKind_room_in1 hu) (Zl I.hok eb) dd fun h' dd' hs=>h _ ?_
   obtain⟨q,es,ep,hq,h2,h3,h4,_,h5⟩:=dd';refine zeB I (by rw [e];exact True.intro) hs ⟨q,hq⟩ ⟨hl,hd,_,(rel.put k eb rv).keeps fun c ys ec=>?_,q,es,ep,hq,h2,h3,h4,h5⟩
   rw [zc (zlf ec e (fun z=>nomatch z))]
   exact ec
end
section
variable{X:Cx}{pins:List #[17]}{σ : St}{H:Hp}{s:Shared}{a:Addr}{kvs:List (Key×V)}{k:Key}{u:Value}{A:Around}{E:#[13]}
end
def NoSl(i:Expr):Prop:=∀ ov iv,subscripted i false ov iv=operate [ov,iv] (getItem ov iv)
theorem zlt{prog:Program}{w:World}{A:Around}{E:#[13]}{s:Shared}{env:Env}{value slice:Expr}{pos:Pos}{T id:String}{Q:#[13]}
 (hl:typeLookup (.type T) "__getitem__" = pure (some (.builtin id))) (hs:NoSl slice)
 (h:wpAny (model prog w) A (eval value env) (fun o s₁=>wpAny (model prog w) A (eval slice env) (fun i s₂=>s₂.TypeIs o T/\wpAny (model prog w) A (getItem o i) Q E s₂) E s₁) E s) :
 wpAny (model prog w) A (eval (.Subscript value slice pos) env) Q E s:=by
 refine Subscript_ (wpAny_mono h (fun o s₁ h₁=>wpAny_mono h₁ (fun i s₂ h₂=>?_) fun _ _ x=>x) fun _ _ x=>x)
 obtain⟨hT,h₂⟩:=h₂;unfold subscriptTail;refine wpAny_bind ?_;rw [getitemInPython_of_ne hT.not_modules];refine wpAny_bind (wpAny_specialOf hT hl ?_);have fin:wpAny (model prog w) A (subscripted slice false o i) (fun r s₃=>wpAny (model prog w) A (letTemporaryGo value o r >>= fun _=>pure r) Q E s₃) E s₂:=by
  rw [hs o i];exact wpAny_operating (wpAny_mono h₂ (fun r s₃ h₃=>wpAny_bind (wpAny_letTemporaryGo (wpAny_pure h₃))) fun _ _ x=>x)
 first
  | exact wpAny_pure (wpAny_bind fin)
  | exact wpAny_bind (wpAny_pure (wpAny_bind fin))
  | exact wpAny_bind fin
theorem zhI{X:Cx}{pins:List #[17]}{σ : St}{H:Hp}{s:Shared}{a:Addr}{y:V}{o:Option V}(I:#[11])(g:DGet H a y o):s.TypeIs (.ref a) "dict":=by
 rcases g with ⟨kvs,k,e,_,_⟩|⟨kvs,k,b,e,_,_,_⟩
 . obtain⟨_,_,vs,_,dd⟩:=J6 I.hok e
   exact dd.typeIs
 . obtain⟨_,_,xs,_,dd⟩:=JZ I.hok e
   exact dd.typeIs
def zkd(td ty:TE):TE:=fun σ H Q=>td σ H fun x H1=>ty σ H1 fun y H2=>∃ a v,x=.ref a/\DGet H2 a y (some v)/\Q v H2
def tDIn(ty td:TE):TE:=fun σ H Q=>ty σ H fun y H1=>td σ H1 fun x H2=>∃ a o,x=.ref a/\DGet H2 a y o/\Q (.bl o.isSome) H2
def zlW(ty td:TE):TE:=fun σ H Q=>ty σ H fun y H1=>td σ H1 fun x H2=>∃ a o,x=.ref a/\DGet H2 a y o/\Q (.bl (!o.isSome)) H2
def zcx(td ty tv:TE):TS:=fun D σ H=>tv σ H fun v H1=>td σ H1 fun x H2=>ty σ H2 fun y H3=>∃ a H4,x=.ref a/\DPut H3 a y v H4/\D.nx σ H4
section
variable{X:Cx}{o i e value:Expr}{pos pos' tpos:Pos}{td ty tv:TE}
theorem j5(hu:X.A.units+1<cLine)(ho:PE X o td)(hi:PE X i ty)(hs:NoSl i):PE X (.Subscript o i pos) (zkd td ty):=by
 intro pins s σ H Q I h;refine zlt PySem.F.slot_dict_getitem.lookup hs (thn (ho pins s σ H _ I h) fun u s1 ⟨x,H1,I1,rx,q1⟩=>thn (hi pins s1 σ H1 _ I1 q1) fun iv s2 ⟨y,H2,I2,ry,a,v,ex,g,q2⟩=>?_)
 subst ex;obtain rfl:u=Value.ref a:=rx;exact⟨zhI I2 g,zgs hu I2 g ry fun w' s3 I3 rw'=>⟨v,H2,I3,rw',q2⟩⟩
theorem zgX(hu:X.A.units+1<cLine)(hi:PE X i ty)(ho:PE X o td):PC X .In i o (tDIn ty td):=by
 intro pins s σ H Q I h;refine thn (hi pins s σ H _ I h) fun iv s1 ⟨y,H1,I1,ry,q1⟩=>thn (ho pins s1 σ H1 _ I1 q1) fun u s2 ⟨x,H2,I2,rx,a,ov,ex,g,q2⟩=>?_
 subst ex;obtain rfl:u=Value.ref a:=rx;exact d_in hu I2 g ry fun s3 I3=>⟨.bl ov.isSome,H2,I3,rfl,q2⟩
theorem zbK(hu:X.A.units+1<cLine)(hi:PE X i ty)(ho:PE X o td):PC X .NotIn i o (zlW ty td):=by
 intro pins s σ H Q I h;refine thn (hi pins s σ H _ I h) fun iv s1 ⟨y,H1,I1,ry,q1⟩=>thn (ho pins s1 σ H1 _ I1 q1) fun u s2 ⟨x,H2,I2,rx,a,ov,ex,g,q2⟩=>?_
 subst ex;obtain rfl:u=Value.ref a:=rx;exact zhK hu I2 g ry fun s3 I3=>⟨.bl (!ov.isSome),H2,I3,rfl,q2⟩
theorem JC(hu:X.A.units+1<cLine)(ho:PE X o td)(hi:PE X i ty)(hv:PE X value tv)(hs:swapsWith value (some (.Subscript o i pos')) pos.line X.env=pure false) :
 PS X (.Assign [.Subscript o i pos'] value pos) (zcx td ty tv):=by
 intro pins s σ H D I h;refine wpAny_Assign_Subscript (thn (hv pins s σ H _ I h) fun r s1 ⟨v,H1,I1,rv,q1⟩=>thn (ho pins s1 σ H1 _ I1 q1) fun u s2 ⟨x,H2,I2,rx,q2⟩=>thn (hi pins s2 σ H2 _ I2 q2) fun iv s3 ⟨y,H3,I3,ry,a,H4,ex,g,q3⟩=>?_) hs
 subst ex;obtain rfl:u=Value.ref a:=rx;exact zhl hu I3 g ry rv fun s4 I4=>⟨σ,H4,I4,q3⟩
end
theorem zhQ{P:Program}{w:World}{H:Hp}(h:Heap)(hb:sysModules<h.objs.size):zI P w H (h.push { cls:=.type "dict", data:=.dict #[] }) h.objs.size (.dK []):=
 ⟨Wbl _,beq_eq_false_iff_ne.mpr (Wbo (Yaf hb)),[],.nil,Heap.DictOf.new h⟩
theorem zl4{P:Program}{w:World}{H:Hp}(h:Heap)(hb:sysModules<h.objs.size):zI P w H (h.push { cls:=.type "dict", data:=.dict #[] }) h.objs.size (.dT []):=
 ⟨Wbl _,beq_eq_false_iff_ne.mpr (Wbo (Yaf hb)),[],.nil,_,#[],0,Yan _ rfl,⟨rfl,rfl,rfl⟩,rfl,rfl,Wa2⟩
def tDNewK:TE:=fun _ H Q=>∀ p,H p=none->Q (.ref p) (upd H p (.dK []))
def tDNewT:TE:=fun _ H Q=>∀ p,H p=none->Q (.ref p) (upd H p (.dT []))
section
variable{X:Cx}{pos:Pos}
theorem JK:PE X (.Dict [] [] pos) tDNewK:=fun pins s σ H Q I h=>
 wpAny_Dict_empty ⟨.ref s.heap.objs.size,_,I.laid (a:=s.heap.objs.size) (o:=.dK []) (t':=s.toks) (fun _ _ q=>YaW _ q) (YaY _) (zhQ s.heap I.big),rfl,h _ (I.hok.fresh (YaY _))⟩
theorem zgA:PE X (.Dict [] [] pos) tDNewT:=fun pins s σ H Q I h=>
 wpAny_Dict_empty ⟨.ref s.heap.objs.size,_,I.laid (a:=s.heap.objs.size) (o:=.dT []) (t':=s.toks) (fun _ _ q=>YaW _ q) (YaY _) (zl4 s.heap I.big),rfl,h _ (I.hok.fresh (YaY _))⟩
end
end L2
namespace L3
open PySem PySem.Spec PyProof.Rows L2
variable[LamW]
def getT(ds:List (List Key×D))(k:List Key):Option D:=(ds.find? fun kv=>decide (kv.1=k)).map (·.2)
def putT(ds:List (List Key×D))(k:List Key)(d:D):List (List Key×D):=
 if(ds.any fun kv=>decide (kv.1=k))=true then ds.map (fun kv=>if kv.1=k then(kv.1,d) else kv) else ds++[(k,d)]
theorem Ju{k:List Key}{d:D}{ds:List (List Key×D)}:getT ((k,d)::ds) k=some d:=by simp [getT]
theorem Jd{k' k:List Key}{d:D}{ds:List (List Key×D)}(e:¬k'=k):getT ((k',d)::ds) k=getT ds k:=by simp [getT,List.find?_cons,e]
section
variable{K:Ybf}{H0 G0:Hp}{ρ : Env3}{σ : L2.St}{G H:Hp}
theorem Dr.get{kvs:List (List Key×V)}{ds:List (List Key×D)}(r:Dr K H0 G kvs ds){k:List Key}{d:D}(h:getT ds k=some d):∃ v,valV kvs k=some v/\Rf K H0 G true v d:=by
 induction r with
 | nil=>cases h
 | cons a b ih=>
  rename_i k' v' d' kvs' ds'
  by_cases e:k'=k
  . subst e
    rw [Ju] at h;cases h;exact⟨v',zaZ rfl,a⟩
  . rw [Jd e] at h
    obtain⟨v,h1,h2⟩:=ih h;exact⟨v,by rw [zaY e];exact h1,h2⟩
theorem Dr.some{kvs:List (List Key×V)}{ds:List (List Key×D)}(r:Dr K H0 G kvs ds)(k:List Key):(valV kvs k).isSome=(getT ds k).isSome:=by
 induction r with
 | nil=>rfl
 | cons a b ih=>
  rename_i k' v' d' kvs' ds'
  by_cases e:k'=k
  . subst e;rw [zaZ rfl,Ju];rfl
  . rw [zaY e,Jd e];exact ih
theorem Dr.any{kvs:List (List Key×V)}{ds:List (List Key×D)}(r:Dr K H0 G kvs ds)(k:List Key):(kvs.any fun kv=>decide (kv.1=k))=ds.any fun kv=>decide (kv.1=k):=by
 induction r with
 | nil=>rfl
 | cons a b ih=>rw [List.any_cons,List.any_cons,ih]
theorem Dr.snoc{kvs:List (List Key×V)}{ds:List (List Key×D)}(r:Dr K H0 G kvs ds){k:List Key}{v:V}{d:D}(a:Rf K H0 G true v d):Dr K H0 G (kvs++[(k,v)]) (ds++[(k,d)]):=by
 induction r with
 | nil=>exact .cons a .nil
 | cons a b ih=>exact .cons a ih
theorem Dr.repl{kvs:List (List Key×V)}{ds:List (List Key×D)}(r:Dr K H0 G kvs ds){k:List Key}{v:V}{d:D}(a:Rf K H0 G true v d):Dr K H0 G (kvs.map fun kv=>if kv.1=k then(kv.1,v) else kv) (ds.map fun kv=>if kv.1=k then(kv.1,d) else kv):=by
 induction r with
 | nil=>exact .nil
 | cons b c ih=>
  rename_i k' v' d' kvs' ds';rw [Ya1,Ya1]
  by_cases e:k'=k
  . rw [if_pos e,if_pos e];exact .cons a ih
  . rw [if_neg e,if_neg e];exact .cons b ih
theorem Dr.put{kvs:List (List Key×V)}{ds:List (List Key×D)}(r:Dr K H0 G kvs ds){k:List Key}{v:V}{d:D}(a:Rf K H0 G true v d):Dr K H0 G (putK kvs k v) (putT ds k d):=by
 unfold putK putT;rw [r.any]
 split
 . exact r.repl a
 . exact r.snoc a
theorem Dr.length{kvs:List (List Key×V)}{ds:List (List Key×D)}(r:Dr K H0 G kvs ds):kvs.length=ds.length:=by
 induction r with
 | nil=>rfl
 | cons a b ih=>rw [List.length_cons,List.length_cons,ih]
theorem zcy(F:#[18]){i:Nat}{ds:List (List Key×D)}(h:ρ[i]?=.some (.some (.dt ds))):∃ l kvs,σ[i]?=.some (.some (.ref l))/\H l=.some (.dT kvs)/\Dr K H0 G kvs ds/\G l=none:=by
 obtain⟨v,h1,h2⟩:=F.slot i _ h;cases h2 with
 | dt a b c=>exact⟨_,_,h1,a,b,c⟩
end
section
variable{X:Cx}{H0:Hp}{e a b:Expr}{pos:Pos}{x:Str}{i:Nat}
def zam(i:Nat):TS3:=fun A ρ=>A.nx (ρ.set i (some (.dt [])))
theorem zmb{pos' p:Pos}(hN:X.N.Nodup)(hi:X.N[i]?=some x)(hx:Loc X.env.scope x)(hs:swapsWith (.Dict [] [] p) (some (.Name x pos')) pos.line X.env=pure false:=by rfl)
 (hf:#[19]:=by first|exact .inl rfl|exact .inr rfl|assumption):PS3 X H0 (.Assign [.Name x pos'] (.Dict [] [] p) pos) (zam i):=PS.imp (jh hN hi hx zgA hs hf) fun B σ H=>el7 fun G0 A ρ G F q L=>
 fun p hp=>L.nx _ _ G _ (F.put (zG hp _).x (.dt zf .nil (F.sub.free hp)) fun a h=>by cases h;exact hp) q
abbrev kk(a b:Int):List Key:=[.inl a,.inl b]
def ZJ(i:Nat)(ta tb te:TE3):TS3:=fun A ρ=>∃ ds,ρ[i]?=some (some (.dt ds))/\te ρ fun c=>ta ρ fun ka=>tb ρ fun kb=>∃ d m n,c=.sh true d/\ka=.sh true (.int m)/\kb=.sh true (.int n)/\ds.length<sizeLine/\A.nx (ρ.set i (some (.dt (putT ds (kk m n) d))))
theorem zkl{ta tb te:TE3}{np tp spos:Pos}{k1}(hu:X.A.units+1<cLine)(hN:X.N[i]?=some x)(hv:Vis X.env.scope x)(ha:PE3 X H0 a ta)(hb:PE3 X H0 b tb)(he:PE3 X H0 e te)(hd:#[24]:=by decide)(hcd:#[20]:=by decide)
 (hs1:starEach [a,b] X.env=(false,eval a X.env)::starEach [b] X.env:=by rfl) (hs2:starEach [b] X.env=(false,eval b X.env)::starEach [] X.env:=by rfl)
 (hs:swapsWith e (some (.Subscript (.Name x np) (.Tuple [a,b] k1 tp) spos)) pos.line X.env=pure false:=by rfl):PS3 X H0 (.Assign [.Subscript (.Name x np) (.Tuple [a,b] k1 tp) spos] e pos) (ZJ i ta tb te):=by
 refine PS.imp (JC hu (jx hN hv hd hcd) (zbq (zm ha.ok (zm hb.ok zK hs2) hs1)) he.ok hs) fun B σ H hyp=>?_
 obtain⟨G0,A,ρ,G,F,⟨ds,hi,q⟩,L⟩:=hyp;refine⟨G0,ρ,G,F,he.mono ρ _ _ (fun c q1 v G1 H1 g1 w1=>?_) q⟩
 have F1:=F.gr g1;obtain⟨l,kvs,hl,_,_,_⟩:=zcy F1 hi;refine⟨.ref l,hl,G0,ρ,G1,F1,ha.mono ρ _ _ (fun ka q2 v2 G2 H2 g2 w2=>?_) q1⟩
 refine⟨G0,ρ,G2,F1.gr g2,hb.mono ρ _ _ (fun kb q3 v3 G3 H3 g3 w3=>?_) q2⟩
 obtain⟨d,m,n,e1,e2,e3,e4,q4⟩:=q3;subst e1 e2 e3;cases zB (zn w2).rd;cases zB (zn w3).rd;refine⟨show 2<=sizeLine by decide,fun p hp=>?_⟩
 have F3:=((F1.gr g2).gr g3).gr (Gr.apart (o:=.tup [.int m,.int n]) g3.sub hp);obtain⟨l',kvs',hl',k2,k3,k4⟩:=zcy F3 hi;rw [hl] at hl';cases hl';have rv:=(zn w1).same (g2.g.trans g3.g);exact⟨l,_,rfl,DPut.t (k:=kk m n) k2 zf (by rw [k3.length];exact e4),L.nx _ _ _ _ (F3.chg (c':=.dt (putT ds (kk m n) d)) hi hl rfl (fun _ h=>h) (.dt zf (k3.put rv) k4)) q4⟩
end
end L3
namespace PySem
open Sem (wp)
open AutoSeq1 (wpAny_loadPart')
section
variable{prog:Program}{w:World}{A:Around}{E:#[13]}{s:Shared}
end
end PySem
namespace L2
open PySem PySem.Spec PyProof.Rows
end L2
namespace L3
open PySem PySem.Spec PyProof.Rows L2
variable[LamW]
section
variable{X:Cx}{H0:Hp}{pos p:Pos}
end
variable[LamW]
section
variable{K:Ybf}{H0 G0 G G' H:Hp}{ρ : Env3}{σ : L2.St}
end
section
variable{X:Cx}{H0:Hp}{e:Expr}
end
end L3
namespace L2
open PySem PySem.Spec PyProof.Rows
section
variable{X:Cx}
end
end L2
namespace L3
open PySem PySem.Spec PyProof.Rows L2
variable[LamW]
section
variable{X:Cx}{H0:Hp}{e a b:Expr}{pos:Pos}
theorem Rfs.rep{K:Ybf}{H0 G:Hp}{f:Bool}{vs:List V}{ds:List D}(r:Rfs K H0 G f vs ds)(n:Nat):Rfs K H0 G f (List.replicate n vs).flatten (List.replicate n ds).flatten:=by
 induction n with
 | zero=>exact Rfs.nil
 | succ n ih=>
  rw [List.replicate_succ,List.replicate_succ,List.flatten_cons,List.flatten_cons];have:=Rfs.append r ih;rwa [Wa7] at this
end
end L3
namespace L2
open PySem PySem.Spec PyProof.Rows
section
variable{X:Cx}
theorem zgM:zO X (.type "int") (fun xs H Q=>∃ b:Bool,xs=[.bl b]/\Q (.int (if b then 1 else 0)) H):=by
 intro pins s σ H xs us Q I r h;obtain⟨b,rfl,q⟩:=h;obtain⟨u,rfl,hu⟩:=Jr r;cases hu;exact call_int_bool ⟨.int _,H,I.tok _,⟨_,rfl⟩,q⟩
end
end L2
namespace L3
open PySem PySem.Spec PyProof.Rows L2
variable[LamW]
section
variable{X:Cx}
def intB3:C3:=fun cs Q=>match cs with
 | [.sh _ (.bool b)]=>Q true (.int (if b then 1 else 0))
 | _=>False
theorem zkb:CallOk X (.type "int") intB3:=by
 refine⟨fun cs Q Q' h q=>?_,fun H0=>zO.imp zgM fun xs H Q=>el2 fun G cs s w q=>?_⟩
 . unfold intB3 at *;split at q
   . exact h _ _ q
   . exact q
 . unfold intB3 at q;split at q
   . obtain⟨v,rfl,w1⟩:=vws1 w
     have r:=(zn w1).rd;cases r;exact⟨_,rfl,q _ G H (Gr.refl s) (.sc rfl (.int _))⟩
   . exact q.elim
end
end L3
namespace L2
open PySem PySem.Spec PyProof.Rows
theorem zed{α β : Type}{F:α->β->Prop}:∀ {l:List α} {m:List β},Paired F l m->∀ {j:Nat} {a:α} {b:β},l[j]?=some a->m[j]?=some b->F a b
 | _,_,.nil,_,_,_,h,_=>by simp at h
 | _, _, .cons x r, 0, _, _, h, h' => by
  rw [List.getElem?_cons_zero] at h h';cases h;cases h';exact x
 | _, _, .cons x r, j + 1, _, _, h, h' => by
  rw [List.getElem?_cons_succ] at h h';exact zed r h h'
theorem zj6{X:Cx}{st:Stmt}{t:TS}(h:PS X st t):PS X st (fun B σ H=>∃ l kvs,H l=some (.dT kvs)/\∀ (o:Obj) (es:Array DictEntry) (ep:Nat) (as:List Addr),o.ExactDict->o.data=.dict es ep->es.toList.map (·.key)=as.map Value.ref->as.length=kvs.length->(∀ (j:Nat) (a:Addr) (k:List Key) (v:V),as[j]?=some a->kvs[j]?=some (k,v)->H a=some (.tup (k.map kV)))->t B σ (upd H l (.frz o (.dT kvs)))):=by
 intro pins s σ H B I hyp;obtain⟨l,kvs,hl,q⟩:=hyp;obtain⟨hz,hs,xs,hp,o,es,ep,ho,hx,he,hes,hnd⟩:=(show zI X.prog X.w H s.heap l (.dT kvs) from I.hok l _ hl)
 have hlen:kvs.length=xs.length:=Wa3 hp;have hat:∀ (j:Nat) (a:Addr) (k:List Key) (v:V),(xs.map (·.2.1))[j]?=some a->kvs[j]?=some (k,v)->H a=some (.tup (k.map kV)):=fun j a k v ha hk=>by
  rw [Ya0] at ha;cases e:xs[j]? with
  | none=>rw [e] at ha;cases ha
  | some y=>
   rw [e] at ha;cases ha;exact(zed hp hk e).2.1
 have I':Inv X pins σ (upd H l (.frz o (.dT kvs))) s:=by
  refine I.write (h':=s.heap) (t':=s.toks) (e:=l) (by rw [hl];exact True.intro) (.inl rfl) (fun _ _ _ e=>e) ⟨o,ho⟩ ⟨ho,hz,hs,xs,Paired.mapP hp fun p y ⟨h1,h2,h3⟩=>⟨h1,(zc #[96,hl,h2]).trans h2,h3⟩,o,es,ep,ho,hx,he,hes,hnd⟩
 refine h pins s σ _ B I' (q o es ep (xs.map (·.2.1)) hx he ?_ (by rw [YaR];exact hlen.symm) hat)
 rw [hes,YaD,YaD]
 rfl
structure M1(X:Cx)(o:Expr)(m:Str)(apos:Pos)(e:Expr)(cpos:Pos):Prop where
 base:attributeBase o m X.env (eval o X.env)=eval o X.env
 few:((backTo cpos (starEach [e] X.env)).all (fun x=>!x.1)&&(backToKw cpos (keywordEach [] X.env)).all (fun x=>x.1.isSome)
  && decide (([e]:List Expr).length+([]:List Keyword).length+(if([]:List Keyword).isEmpty then 0 else 1)<30))=true
 line:(apos.endLine==cpos.line)=true
 trees:backTo cpos (starEach [e] X.env)=[(false,eval e X.env)]
def IsD(H:Hp)(a:Addr):Prop:=(∃ kvs,Rd H a (.dK kvs))\/∃ kvs,Rd H a (.dT kvs)
theorem zhU{X:Cx}{pins:List #[17]}{σ : St}{H:Hp}{s:Shared}{a:Addr}(I:#[11])(d:IsD H a) :
 s.TypeIs (.ref a) "dict"/\(∀ b,Value.ref a=.ref b->∃ ob,s.heap.get? b=some ob/\ob.dict=none)/\(a==sysModules)=false:=by
 rcases d with ⟨kvs,e⟩|⟨kvs,e⟩
 . obtain⟨_,hd,vs,_,dd⟩:=J6 I.hok e
   refine⟨dd.typeIs,fun b q=>?_,hd⟩
   cases q;obtain⟨ob,_,_,h1,h2,_⟩:=dd
   exact⟨ob,h1,h2.2.1⟩
 . obtain⟨_,hd,xs,_,dd⟩:=JZ I.hok e
   refine⟨dd.typeIs,fun b q=>?_,hd⟩
   cases q;obtain⟨ob,_,_,h1,h2,_⟩:=dd
   exact⟨ob,h1,h2.2.1⟩
section
variable{X:Cx}{pins:List #[17]}{σ : St}{H:Hp}{s:Shared}{a:Addr}{y d:V}{u r:Value}{o:Option V}{A:Around}{E:#[13]}
theorem zkp{Q:#[13]}(hu:A.units+1<cLine)(I:#[11])(g:DGet H a y o)(ry:RelV y u)(h:∀ w' s',Inv X pins σ H s'->RelV (o.getD .non) w'->Q w' s') :
 wpAny #[12] A (call (.builtin "dict.get") [.ref a,u]) Q E s:=by
 rcases g with ⟨kvs,k,e,ey,l⟩|⟨kvs,k,b,e,ey,eb,l⟩
 . subst ey
   obtain⟨z,hd,vs,rel,dd⟩:=J6 I.hok e;refine call_meetsIn PySem.F.slot_dict_get dd.typeIs PySem.F.entry_dict_get (PySem.F.args_dict_get_2 _ _) (meets_dict_get (ja X.prog X.w) a (Zr ry) hd) ⟨_,dd.mapOf,h _ _ (I.tok _) ?_⟩;rw [l];exact(rel.val k).getD rfl
 . subst ey
   cases(show u=Value.ref b from ry)
   obtain⟨z,hd,xs,rel,dd⟩:=JZ I.hok e;refine call_meetsIn PySem.F.slot_dict_get dd.typeIs PySem.F.entry_dict_get (PySem.F.args_dict_get_2 _ _) (meetsH_dict_get (tupleKind (ja X.prog X.w)) a b hd) ⟨tupleKind_room_in1 hu,k,xs,Zl I.hok eb,dd,h _ _ (I.tok _) ?_⟩;rw [l];exact(rel.val k).getD rfl
end
def zjm(td ty:TE):TE:=fun σ H Q=>td σ H fun x H1=>∃ a,x=.ref a/\IsD H1 a/\ty σ H1 fun y H2=>∃ o,DGet H2 a y o/\Q (o.getD .non) H2
section
variable{X:Cx}{o e f:Expr}{apos cpos:Pos}{td ty tx:TE}
theorem zfM(hu:X.A.units+1<cLine)(ho:PE X o td)(he:PE X e ty)(m:M1 X o "get" apos e cpos):PE X (.Call (.Attribute o "get" apos) [e] [] cpos) (zjm td ty):=by
 intro pins s σ H Q I h;refine wpAny_Call_method m.base m.few m.line PySem.F.plainAttrs_dict PySem.F.slot_dict_get PySem.F.type_dict_get (thn (ho pins s σ H _ I h) fun u s1 ⟨x,H1,I1,rx,a,ex,d,q1⟩=>?_)
 subst ex;obtain rfl:u=Value.ref a:=rx;obtain⟨t1,t2,_⟩:=zhU I1 d;refine⟨t1,t2,?_⟩;rw [m.trees];refine Calls.callWith_builtin rfl (Calls.evalArgs_plain (Calls.spliced_cons (thn (he pins s1 σ H1 _ I1 q1) fun iv s2 ⟨y,H2,I2,ry,ov,g,q2⟩=>Calls.spliced_nil ?_)))
 exact zkp hu I2 g ry fun w' s3 I3 rw'=>⟨_,H2,I3,rw',q2⟩
end
end L2
namespace L3
open PySem PySem.Spec PyProof.Rows L2
variable[LamW]
section
variable{K:Ybf}{H0 G0:Hp}{ρ : Env3}{σ : L2.St}{G H:Hp}
theorem Fr3.frzD(F:#[18]){i:Nat}{ds:List (List Key×D)}{l:Addr}{kvs:List (List Key×V)}(hi:ρ[i]?=some (some (.dt ds)))(hv:σ[i]?=some (some (.ref l)))(hl:H l=some (.dT kvs))(r:Dr K H0 G kvs ds)(hG:G l=none){o:Obj}{es:Array DictEntry}{ep:Nat}{as:List Addr}(hx:o.ExactDict)(he:o.data=.dict es ep)(ha:es.toList.map (·.key)=as.map Value.ref)(hn:as.length=kvs.length)
 (hk:∀ (j:Nat) (a:Addr) (k:List Key) (v:V),as[j]?=some a->kvs[j]?=some (k,v)->H a=some (.tup (k.map kV))):∃ G',Same G G'/\Fr3 K H0 G0 (ρ.set i (some (.fd ds))) σ G' (upd H l (.frz o (.dT kvs))):=by
 have hat:∀ a∈as,∃ xs,H a=some (.tup xs):=fun a h=>by
  obtain⟨j,hj,e⟩:=Yam h;have hj':j<kvs.length:=#[0]
  exact⟨_,hk j a kvs[j].1 kvs[j].2 (by rw [YaQ hj,e]) (YaQ hj')⟩
 have hla:l∉as:=fun h=>by
  obtain⟨xs,e⟩:=hat l h;rw [hl] at e;cases e
 have h0:H0 l=none:=F.mine i _ _ l hi hv rfl;have e1:(fun b=>if b=l then some (.frz o (.dT kvs)) else if b∈as then H b else G b:Hp) l=some (.frz o (.dT kvs)):=if_pos rfl
 have e2:∀ b,b≠l->b∈as->(fun b=>if b=l then some (.frz o (.dT kvs)) else if b∈as then H b else G b:Hp) b=H b:=fun b n m=>by simp only [if_neg n,if_pos m]
 have e3:∀ b,b≠l->b∉as->(fun b=>if b=l then some (.frz o (.dT kvs)) else if b∈as then H b else G b:Hp) b=G b:=fun b n m=>by simp only [if_neg n,if_neg m]
 generalize (fun b=>if b=l then some (.frz o (.dT kvs)) else if b∈as then H b else G b:Hp)=G' at e1 e2 e3
 have gg:Same G G':=fun b u e=>by
  have nb:b≠l:=#[96,hG,e]
  by_cases m:b∈as
  . rw [e2 b nb m];exact F.sub.s b u e
  . rw [e3 b nb m];exact e
 refine⟨G',gg,F.keep.chg h0 hl (fun f z=>by cases z),⟨fun b u e=>?_,fun b f e=>?_⟩,fun b u e=>?_,F.g0.trans gg,fun j c2 e=>?_,fun j c2 v2 a e e' h=>?_,fun j k c1 c2 v1 v2 a q1 q2 q3 q4 h1 h2=>?_,by rw [YaN];exact F.len⟩
 . by_cases nb:b=l
   . subst nb;rw [e1] at e;rw [zf];exact e
   . rw [zc nb]
     by_cases m:b∈as
     . rw [e2 b nb m] at e;exact e
     . rw [e3 b nb m] at e;exact F.sub.s b u e
 . by_cases nb:b=l
   . subst nb;rw [e1] at e;cases e
   . by_cases m:b∈as
     . obtain⟨xs,z⟩:=hat b m
       rw [e2 b nb m,z] at e;cases e
     . rw [e3 b nb m] at e;exact F.sub.cl b f e
 . by_cases nb:b=l
   . subst nb;exact .inr (.inl h0)
   . by_cases m:b∈as
     . obtain⟨xs,z⟩:=hat b m
       rw [e2 b nb m,z] at e;exact .inr (.inr ⟨xs,(WaV e).symm⟩)
     . rw [e3 b nb m] at e;exact F.old b u e
 . rcases zJ e with ⟨rfl,q,_⟩|⟨n,q⟩
   . cases q
     refine⟨_,hv,.fd e1 (r.same gg) ⟨es,ep,as,hx,he,ha,hn,fun j a k v z1 z2=>?_⟩⟩
     have hm:a∈as:=Yah z1;rw [e2 a (fun z=>hla (z ▸ hm)) hm]
     exact hk j a k v z1 z2
   . obtain⟨v',h1,h2⟩:=F.slot j c2 q
     refine⟨v',h1,h2.turn gg (fun a C z=>?_) fun a h3=>?_⟩
     . rw [zc (fun y=>by rw [y,hl] at z;cases z)];exact z
     . have nb:a≠l:=fun z=>n (F.apart i j _ c2 _ v' a hi q hv h1 (by rw [z];rfl) h3)
       refine⟨zc nb,e3 a nb fun m=>?_⟩
       obtain⟨xs,z⟩:=hat a m;exact h2.ntup h3 xs z
 . rcases zJ e with ⟨rfl,q,_⟩|⟨n,q⟩
   . cases q;exact False.elim h
   . exact F.mine j c2 v2 a q e' h
 . rcases zJ q1 with ⟨rfl,q,_⟩|⟨n,q⟩
   . cases q;exact False.elim h1
   . rcases zJ q2 with ⟨rfl,q',_⟩|⟨n',q'⟩
     . cases q';exact False.elim h2
     . exact F.apart j k c1 c2 v1 v2 a q q' q3 q4 h1 h2
theorem zg3(F:#[18]){i:Nat}{ds:List (List Key×D)}(h:ρ[i]?=some (some (.fd ds))):∃ l o kvs,σ[i]?=some (some (.ref l))/\G l=some (.frz o (.dT kvs))/\Dr K H0 G kvs ds/\KAt G o kvs:=by
 obtain⟨v,h1,h2⟩:=F.slot i _ h;cases h2 with
 | fd a b c=>exact⟨_,_,_,h1,a,b,c⟩
theorem Dr.keys{kvs:List (List Key×V)}{ds:List (List Key×D)}(r:Dr K H0 G kvs ds):kvs.map (·.1)=ds.map (·.1):=by
 induction r with
 | nil=>rfl
 | cons a b ih=>rw [Ya1,Ya1,ih]
end
section
variable{X:Cx}{H0:Hp}{st:Stmt}{pos:Pos}{x:Str}{i:Nat}
def frzD(i:Nat)(t:TS3):TS3:=fun A ρ=>∃ ds,ρ[i]?=some (some (.dt ds))/\t A (ρ.set i (some (.fd ds)))
theorem zlU(i:Nat){t:TS3}(h:PS3 X H0 st t):PS3 X H0 st (frzD i t):=PS.imp (zj6 h) fun B σ H hyp=>by
 obtain⟨G0,A,ρ,G,F,⟨ds,hi,q⟩,L⟩:=hyp;obtain⟨l,kvs,hv,hl,r,hG⟩:=zcy F hi;refine⟨l,kvs,hl,fun o es ep as hx he ha hn hk=>?_⟩
 obtain⟨G',gg,F'⟩:=F.frzD hi hv hl r hG hx he ha hn hk;exact⟨G0,A,_,G',F',q,L⟩
end
section
variable{K:Ybf}{H0 G0:Hp}{ρ : Env3}{σ : L2.St}{G H:Hp}
end
section
variable{X:Cx}{H0:Hp}{pos:Pos}{x y:Str}{i j:Nat}
end
variable[LamW]
abbrev Tb:=List (Int×Int)
def dms:List Cl->List Addr
 | []=>[]
 | .dm a _::r=>a::dms r
 | .sh _ _::r=>dms r
 | .ow _ _::r=>dms r
 | .tr _ _::r=>dms r
 | .dt _::r=>dms r
 | .dk _::r=>dms r
 | .fd _::r=>dms r
 | .tk _::r=>dms r
 | .ex _::r=>dms r
def jv:Cl->Bool
 | .sh _ _=>true
 | .dm _ _=>true
 | .fd ds=>ds.all fun p=>zw p.2
 | .ow _ _=>false
 | .tr _ _=>false
 | .dt _=>false
 | .dk _=>false
 | .tk _=>false
 | .ex _=>false
def argC:Cl->Cl
 | .sh _ d=>.sh (zw d) d
 | .dm a ds=>.dm a ds
 | .fd ds=>.fd ds
 | .ow f ds=>.ow f ds
 | .tr a b=>.tr a b
 | .dt a=>.dt a
 | .dk a=>.dk a
 | .tk a=>.tk a
 | .ex a=>.ex a
def JM:Cl->Bool
 | .sh _ _=>true
 | .dt _=>true
 | .dm _ _=>false
 | .fd _=>false
 | .ow _ _=>false
 | .tr _ _=>false
 | .dk _=>false
 | .tk _=>false
 | .ex _=>false
theorem zdn(cs:List Cl):dms (cs.map argC)=dms cs:=by
 induction cs with
 | nil=>rfl
 | cons c r ih=>cases c<;>first|exact ih|exact congrArg (List.cons _) ih
theorem zci{cs:List Cl}{i:Nat}{a:Addr}{ds:Tb}(h:cs[i]?=some (.dm a ds)):a∈dms cs:=by
 induction cs generalizing i with
 | nil=>simp at h
 | cons c r ih=>
  cases i with
  | zero=>cases h;exact YaV
  | succ i=>
   have:=ih (i:=i) (by simpa using h)
   cases c<;>first|exact this|exact YaT _ this
theorem ziP{cs:List Cl}{i j:Nat}{a:Addr}{ds es:Tb}(nd:(dms cs).Nodup)(h:cs[i]?=some (.dm a ds))(h':cs[j]?=some (.dm a es)):i=j:=by
 induction cs generalizing i j with
 | nil=>simp at h
 | cons c r ih=>
  cases i with
  | zero=>
   cases h;cases j with
   | zero=>rfl
   | succ j=>exact absurd (zci (i:=j) (by simpa using h')) (YaB.mp nd).1
  | succ i=>
   cases j with
   | zero=>
    cases h';exact absurd (zci (i:=i) (by simpa using h)) (YaB.mp nd).1
   | succ j=>
    have nd':(dms r).Nodup:=by cases c<;>first|exact nd|exact(YaB.mp nd).2
    rw [ih nd' (i:=i) (j:=j) (by simpa using h) (by simpa using h')]
def bar(H:Hp)(as:List Addr):Hp:=fun b=>if b∈as then none else H b
theorem jK{H:Hp}{as:List Addr}{b:Addr}(h:b∈as):bar H as b=none:=if_pos h
theorem zX{H:Hp}{as:List Addr}{b:Addr}(h:b∉as):bar H as b=H b:=if_neg h
theorem Zx(H:Hp)(as:List Addr):Same (bar H as) H:=fun b o e=>by
 by_cases h:b∈as
 . rw [jK h] at e;cases e
 . rwa [zX h] at e
theorem zcE{H:Hp}{as:List Addr}{b:Addr}(h:bar H as b=none):b∈as\/H b=none:=by
 by_cases z:b∈as
 . exact .inl z
 . rw [zX z] at h;exact .inr h
def Bk(G H:Hp):List Addr->List Tb->Prop
 | [],[]=>True
 | a::as,m::ms=>(H a=some (.dK (encM m))/\G a=none)/\Bk G H as ms
 | _,_=>False
abbrev SpC:=List Cl->(Cl->List Tb->Prop)->Prop
def spC(K:Ybf)(sp:SpC):Sp:=fun vs H Q _=>∃ G cs,Sub G H/\Vws K (bar H (dms cs)) G H vs cs/\(dms cs).Nodup/\
 sp cs fun c ms=>∀ v G' H',Gr G (bar H (dms cs)) G' H'->Vw K (bar H (dms cs)) G' H' v c->(∀ a,Has c v a->H a=none)->Bk G' H' (dms cs) ms->JM c=true->Q v H'
structure DfC(P:Program)(w:World)(K:Ybf)(mg:#[15])(base:Heap)(k:Nat)(x:Str)(ps:List Str)(sp:SpC):Prop where
 mono:∀ cs (Q Q':Cl->List Tb->Prop),(∀ c ms,Q c ms->Q' c ms)->sp cs Q->sp cs Q'
 ok:Df P w K mg base k x ps (spC K sp)
def Jf(N:List Str)(cs:List Cl):Env3:=cs.map some++List.replicate (N.length - cs.length) none
def finM:List Nat->List Addr->Env3->(List Tb->Prop)->Prop
 | [],[],_,Q=>Q []
 | j::js,a::as,ρ,Q=>∃ m,ρ[j]?=some (some (.dm a m))/\finM js as ρ fun ms=>Q (m::ms)
 | _,_,_,_=>False
theorem Vws.length{K:Ybf}{H0 G H:Hp}{vs:List V}{cs:List Cl}(h:Vws K H0 G H vs cs):vs.length=cs.length:=zdN h
theorem Vws.get{K:Ybf}{H0 G H:Hp}{vs:List V}{cs:List Cl}(h:Vws K H0 G H vs cs){i:Nat}{c:Cl}(e:cs[i]?=some c):∃ v,vs[i]?=some v/\Vw K H0 G H v c:=by
 induction h generalizing i with
 | nil=>simp at e
 | cons a b ih=>
  cases i with
  | zero=>cases e;exact⟨_,rfl,a⟩
  | succ i=>exact ih (i:=i) (by simpa using e)
section
variable{K:Ybf}{H0 G0:Hp}{ρ : Env3}{σ : L2.St}{G H:Hp}
theorem jy(F:#[18]){i:Nat}{a:Addr}{ds:Tb}(h:ρ[i]?=some (some (.dm a ds))):σ[i]?=some (some (.ref a))/\H a=some (.dK (encM ds))/\G a=none:=by
 obtain⟨v,h1,h2⟩:=F.slot i _ h;cases h2 with
 | dm x y=>exact⟨h1,x,y⟩
theorem zb9(F:#[18]):∀ {js:List Nat} {as:List Addr} {R:List Tb->Prop},finM js as ρ R->(∃ ms,Bk G H as ms/\R ms)/\∀ a∈as,∃ (j:Nat) (m:Tb),ρ[j]?=some (some (Cl.dm a m))
 | [],[],R,h=>⟨⟨[],True.intro,h⟩,fun a z=>by cases z⟩
 | j :: js, a :: as, R, ⟨m, hj, h⟩ => by
  obtain⟨⟨ms,h1,h2⟩,h3⟩:=zb9 F h;refine⟨⟨m::ms,⟨(jy F hj).2,h1⟩,h2⟩,fun b hb=>?_⟩
  rcases Wa4.mp hb with e|hb
  . rw [e];exact⟨j,m,hj⟩
  . exact h3 b hb
 | [],_::_,_,h=>h.elim
 | _::_,[],_,h=>h.elim
end
theorem zhB{K:Ybf}{G H:Hp}{N:List Str}{vs:List V}{cs:List Cl}(s:Sub G H)(w:Vws K (bar H (dms cs)) G H vs cs)(nd:(dms cs).Nodup)(hd:∀ c∈cs,jv c=true):Fr3 K (bar H (dms cs)) G (Jf N cs) (start N vs) G H:=by
 have at3:∀ (i:Nat) c,(Jf N cs)[i]?=some (some c)->cs[i]?=some c:=fun i c e=>by
  unfold Jf at e
  by_cases hi:i<cs.length
  . rw [Yab (by simpa using hi),Ya0] at e
    cases q:cs[i]? with
    | none=>rw [q] at e;cases e
    | some d=>rw [q] at e;cases e;rfl
  . rw [Yae (by simpa using hi),Yad] at e
    split at e<;>cases e
 have own:∀ (i:Nat) c v a,cs[i]?=some c->Vw K (bar H (dms cs)) G H v c->Has c v a->∃ ds,c=.dm a ds:=fun i c v a e hw h=>by
  have:=hd c (Yah e);cases hw with
  | dm _ _=>cases h;exact⟨_,rfl⟩
  | sh _=>exact False.elim h
  | fd _ _ _=>exact False.elim h
  | _=>cases this
 have len:=w.length;have σat:∀ (i:Nat) c,cs[i]?=some c->∃ v,(start N vs)[i]?=some (some v)/\Vw K (bar H (dms cs)) G H v c:=fun i c e=>by
  obtain⟨v,hv,hw⟩:=w.get e;refine⟨v,?_,hw⟩;unfold L2.start;have hi:i<vs.length:=(Ya8.mp hv).1;rw [Yab (by simpa using hi),Ya0,hv];rfl
 refine⟨(Zx _ _).x,s,fun b o e=>.inl e,Same.refl _,fun i c e=>σat i c (at3 i c e),fun i c v a e e' h=>?_,fun i j c c' v v' a e e' z z' h h'=>?_,?_⟩
 . obtain⟨v',h1,hw⟩:=σat i c (at3 i c e)
   rw [e'] at h1;cases h1;obtain⟨ds,rfl⟩:=own i c v a (at3 i c e) hw h;exact jK (zci (at3 i _ e))
 . obtain⟨u,h1,hw⟩:=σat i c (at3 i c e)
   rw [z] at h1;cases h1;obtain⟨u',h1',hw'⟩:=σat j c' (at3 j c' e');rw [z'] at h1';cases h1';obtain⟨ds,rfl⟩:=own i c v a (at3 i c e) hw h;obtain⟨es,rfl⟩:=own j c' v' a (at3 j c' e') hw' h';exact ziP nd (at3 i _ e) (at3 j _ e')
 . unfold Jf L2.start;simp [len]
theorem fnC{P:Program}{w:World}{K:Ybf}{mg:#[15]}{base:Heap}{x qual:Str}{st:Stmt}{f:Addr}{fd:FuncData}{N ps:List Str}{k:Nat}{sp:SpC}(M:List Nat)(F:Fun K x qual st f fd)(S:FnScope N ps (zh st))(len:∀ cs Q,sp cs Q->cs.length=ps.length/\∀ c∈cs,jv c=true)
 (hbody:∀ (cdv:Value) (A:Around) (outer:List Env) (s:Shared) (H H0:Hp) (E:XK) (E3:Addr->Prop),(∀ C H',E3 C->zi H0 H'->E (.ref C) none H')->Room k (A.deeper (envOfC qual (zh st) s.heap.objs.size f cdv))->
  ∃ t,PSs3 (cxOf (CXR P w) P w K mg base N qual (zh st) f cdv A outer s H E) H0 (jI st) t/\∀ cs Q,sp cs Q->t { nx:=fun ρ=>finM M (dms cs) ρ (Q (.sh true .none)),rt:=fun _ _=>False,rm:=fun c ρ=>JM c=true/\finM M (dms cs) ρ (Q c) } (Jf N cs)):FnOk P w K mg base (CXR P w) (k+1) f fd ps (spC K sp):=by
 refine F.okR S (fun vs H Q E h=>?_) (fun cdv A outer s H vs Q E hr h=>?_)
 . obtain⟨G,cs,_,r,_,h⟩:=h
   rw [r.length];exact(len _ _ h).1
 . obtain⟨G,cs,sG,r,nd,h⟩:=h
   obtain⟨t,ht,hq⟩:=hbody cdv A outer s H (bar H (dms cs)) E (fun _=>False) (fun C H' e _=>e.elim) hr
   refine⟨_,ht,G,_,Jf N cs,G,zhB sG r nd (len _ _ h).2,hq cs _ h,⟨fun ρ σ G' H' F' q=>?_,fun f d v G' H' g rd q=>q.elim,fun _ _ _ _ _ q=>q.elim,fun _ _ _ _ _ q=>q.elim,fun c v ρ σ G' H' F' w' n' q=>?_⟩⟩
   . obtain⟨⟨ms,b,q⟩,_⟩:=zb9 F' q
     exact q .non G' H' F'.gr0 (.sh (.sc rfl .non)) (fun a z=>False.elim z) b rfl
   . obtain⟨hres,q⟩:=q
     obtain⟨⟨ms,b,q⟩,hh⟩:=zb9 F' q;refine q v G' H' F'.gr0 w' (fun a z=>?_) b hres
     obtain⟨n1,n2⟩:=n' a z
     rcases zcE n1 with y|y
     . obtain⟨j,m,hj⟩:=hh a y
       exact absurd rfl (n2 j _ _ hj (jy F' hj).1)
     . exact y
variable[LamW]
def holds(ρ : Env3):List Nat->List Addr->Prop
 | [],[]=>True
 | j::js,a::as=>(∃ m,ρ[j]?=some (some (.dm a m)))/\holds ρ js as
 | _,_=>False
def updM:List Nat->List Addr->List Tb->Env3->Env3
 | j::js,a::as,m::ms,ρ=>updM js as ms (ρ.set j (some (.dm a m)))
 | _,_,_,ρ=>ρ
section
variable{K:Ybf}{H0 G0:Hp}{ρ : Env3}{σ : L2.St}{G H G' H':Hp}
theorem Z1{ρ : Env3}:∀ {js:List Nat} {as:List Addr},holds ρ js as->∀ a∈as,∃ (j:Nat) (m:Tb),j∈js/\ρ[j]?=some (some (Cl.dm a m))
 | [],[],_,a,h=>by cases h
 | j :: js, a :: as, ⟨⟨m, hm⟩, h⟩, b, hb => by
  rcases Wa4.mp hb with e|hb
  . rw [e];exact⟨j,m,YaV,hm⟩
  . obtain⟨i,n,h1,h2⟩:=Z1 h b hb
    exact⟨i,n,YaT _ h1,h2⟩
 | [],_::_,h,_,_=>h.elim
 | _::_,[],h,_,_=>h.elim
theorem zeY(F:#[18]):∀ {js:List Nat} {as:List Addr},js.Nodup->holds ρ js as->as.Nodup
 | [],[],_,_=>Wa2
 | j :: js, a :: as, nd, ⟨⟨m, hm⟩, h⟩ => by
  obtain⟨n1,n2⟩:=YaB.mp nd;refine YaB.mpr ⟨fun z=>?_,zeY F n2 h⟩
  obtain⟨i,n,h1,h2⟩:=Z1 h a z;have e:=F.apart j i _ _ _ _ a hm h2 (jy F hm).1 (jy F h2).1 rfl rfl;exact n1 (e ▸ h1)
 | [],_::_,_,h=>h.elim
 | _::_,[],_,h=>h.elim
theorem zep{ρ : Env3}{j:Nat}{o:Option Cl}:∀ {js:List Nat} {as:List Addr},j∉js->holds ρ js as->holds (ρ.set j o) js as
 | [],[],_,_=>True.intro
 | i::js,a::as,n,⟨⟨m,hm⟩,h⟩=>⟨⟨m,by rw [Yac (show j≠i from fun z=>n (by rw [z];exact YaV))];exact hm⟩,zep (fun z=>n (YaT _ z)) h⟩
 | [],_::_,_,h=>h.elim
 | _::_,[],_,h=>h.elim
theorem zd7:∀ (js:List Nat) (as:List Addr) (ms:List Tb) (ρ : Env3),(updM js as ms ρ).length = ρ.length
 | [],_,_,_=>rfl
 | _::_,[],_,_=>rfl
 | _::_,_::_,[],_=>rfl
 | j::js,a::as,m::ms,ρ=>by show(updM js as ms (ρ.set j _)).length=_;rw [zd7,YaN]
theorem zb8{G' H':Hp}:∀ {js:List Nat} {as:List Addr} {ms:List Tb} {ρ : Env3},js.Nodup->holds ρ js as->Bk G' H' as ms->∀ (i:Nat) (c:Cl),(updM js as ms ρ)[i]?=some (some c)->
 (i∉js/\ρ[i]?=some (some c))\/∃ a m m0,c=.dm a m/\a∈as/\ρ[i]?=some (some (.dm a m0))/\H' a=some (.dK (encM m))/\G' a=none
 | [],[],[],ρ,_,_,_,i,c,e=>.inl ⟨by simp,e⟩
 | j :: js, a :: as, m :: ms, ρ, nd, ⟨⟨m0, hm⟩, h⟩, ⟨b0, b⟩, i, c, e => by
  obtain⟨n1,n2⟩:=YaB.mp nd
  rcases zb8 n2 (zep n1 h) b i c e with ⟨h1,h2⟩|⟨a',m',m0',h1,h2,h3,h4⟩
  . rcases zJ h2 with ⟨rfl,q,_⟩|⟨n,q⟩
    . cases q
      exact .inr ⟨a,m,m0,rfl,YaV,hm,b0⟩
    . exact .inl ⟨fun z=>by
       rcases Wa4.mp z with z|z
       . exact n z.symm
       . exact h1 z,q⟩
  . rcases zJ h3 with ⟨rfl,q,_⟩|⟨n,q⟩
    . cases q
      exact .inr ⟨a,m',m0,h1,YaV,hm,h4⟩
    . exact .inr ⟨a',m',m0',h1,YaT _ h2,q,h4⟩
 | [],_::_,_,_,_,h,_,_,_,_=>h.elim
 | _::_,[],_,_,_,h,_,_,_,_=>h.elim
 | _::_,_::_,[],_,_,_,b,_,_,_=>b.elim
 | [],[],_::_,_,_,_,b,_,_,_=>b.elim
theorem Fr3.called(F:#[18]){js:List Nat}{as:List Addr}{ms:List Tb}(nd:js.Nodup)(ho:holds ρ js as)(g:Gr G (bar H as) G' H')(b:Bk G' H' as ms):Fr3 K H0 G0 (updM js as ms ρ) σ G' H':=by
 have mem:∀ a∈as,H0 a=none/\∃ m:Tb,H a=some (.dK (encM m)):=fun a h=>by
  obtain⟨j,m,_,hj⟩:=Z1 ho a h;obtain⟨h1,h2,h3⟩:=jy F hj;exact⟨F.mine j _ _ a hj h1 rfl,m,h2⟩
 have key:=fun i c=>zb8 (ρ:=ρ) nd ho b i c
 have oth:∀ (i:Nat) (c:Cl) (v:V) (a:Addr),i∉js->ρ[i]?=some (some c)->σ[i]?=some (some v)->Has c v a->a∉as:=fun i c v a n e e' h z=>by
  obtain⟨j,m,hj,hm⟩:=Z1 ho a z;have:=F.apart i j _ _ _ _ a e hm e' (jy F hm).1 h rfl;exact n (this ▸ hj)
 have kp:zi H0 H':=fun c o e=>by
  have nc:c∉as:=fun z=>by rw [(mem c z).1] at e;cases e
  rcases F.keep c o e with z|⟨z,n,c',h1,h2⟩
  . exact g.h c o ((zX nc).trans z)
  . refine .inr ⟨z,n,Lk.same ⟨c',(zX nc).trans h1,(zX fun y=>?_).trans h2⟩ g.h⟩
    obtain⟨m,hm⟩:=(mem c' y).2;rw [hm] at h2;cases h2
 refine⟨kp,g.sub,fun c o e=>?_,F.g0.trans g.g,fun i c e=>?_,fun i c v a e e' h=>?_,fun i j c c' v v' a e1 e2 e3 e4 h1 h2=>?_,by rw [zd7];exact F.len⟩
 . rcases g.new c o e with q|q|q
   . exact F.old c o q
   . rcases zcE q with y|y
     . exact .inr (.inl (mem c y).1)
     . exact .inr (.inl (F.keep.free y))
   . exact .inr (.inr q)
 . rcases key i c e with ⟨n,q⟩|⟨a,m,m0,rfl,ha,q,h1,h2⟩
   . obtain⟨v,hv,hw⟩:=F.slot i c q
     refine⟨v,hv,hw.turn g.g (fun a C z=>?_) fun a h=>?_⟩
     . refine g.h.exc ((zX fun y=>?_).trans z)
       obtain⟨m,hm⟩:=(mem a y).2;rw [hm] at z;cases z
     . have na:=oth i c v a n q hv h
       obtain⟨⟨o,ho,no⟩,hG⟩:=hw.has h;have hb:bar H as a=some o:=(zX na).trans ho;refine⟨(g.h.at hb no).trans ho.symm,(g.hid hb hG no fun xs z=>?_).trans hG.symm⟩
       exact hw.ntup h xs ((zX na).symm.trans z)
   . exact⟨_,(jy F q).1,.dm h1 h2⟩
 . rcases key i c e with ⟨n,q⟩|⟨a',m,m0,rfl,ha,q,h1,h2⟩
   . exact F.mine i c v a q e' h
   . exact F.mine i _ v a q e' h
 . have up:∀ (i:Nat) (c:Cl) (v:V) (a:Addr),(updM js as ms ρ)[i]?=some (some c)->Has c v a->∃ c0,ρ[i]?=some (some c0)/\Has c0 v a:=fun i c v a e h=>by
    rcases key i c e with ⟨n,q⟩|⟨a',m,m0,rfl,ha,q,h1,h2⟩
    . exact⟨c,q,h⟩
    . exact⟨_,q,h⟩
   obtain⟨c1,q1,k1⟩:=up i c v a e1 h1;obtain⟨c2,q2,k2⟩:=up j c' v' a e2 h2;exact F.apart i j c1 c2 v v' a q1 q2 e3 e4 k1 k2
theorem ziI(F:#[18]){js:List Nat}{as:List Addr}{ms:List Tb}(nd:js.Nodup)(ho:holds ρ js as)(b:Bk G' H' as ms){i:Nat}{c:Cl}{v:V}{a:Addr}(e:(updM js as ms ρ)[i]?=some (some c))(e':σ[i]?=some (some v))(h:Has c v a):H a≠none:=by
 have:∃ c0,ρ[i]?=some (some c0)/\Has c0 v a:=by
  rcases zb8 (ρ:=ρ) nd ho b i c e with ⟨n,q⟩|⟨a',m,m0,rfl,ha,q,h1,h2⟩
  . exact⟨c,q,h⟩
  . exact⟨_,q,h⟩
 obtain⟨c0,q,k⟩:=this;obtain⟨⟨o,ho,_⟩,_⟩:=(F.vw q e').has k;rw [ho];intro z;cases z
theorem Fr3.putN(F:#[18]){i:Nat}{v:V}{c:Cl}(w:Vw K H0 G H v c)(h0:∀ a,Has c v a->H0 a=none)(hn:∀ (a:Addr) (j:Nat) (c':Cl) (v':V),Has c v a->ρ[j]?=some (some c')->σ[j]?=some (some v')->¬Has c' v' a):Fr3 K H0 G0 (ρ.set i (some c)) (σ.set i (some v)) G H:=by
 have key:∀ {k:Nat} {c':Cl},(ρ.set i (some c))[k]?=some (some c')->(k=i/\c'=c/\(σ.set i (some v))[k]?=some (some v))\/(k≠i/\ρ[k]?=some (some c')/\(σ.set i (some v))[k]? = σ[k]?):=fun {k c'} e=>by
  rcases zJ e with ⟨rfl,q,hl⟩|⟨n,q⟩
  . cases q
    exact .inl ⟨rfl,rfl,Yas (by rw [<-F.len];exact hl)⟩
  . exact .inr ⟨Wbo n,q,Yac n⟩
 refine⟨F.keep,F.sub,F.old,F.g0,fun k c' e=>?_,fun k c' v' a e e' h=>?_,fun k m c1 c2 v1 v2 a e1 e2 e3 e4 h1 h2=>?_,by rw [YaN,YaN];exact F.len⟩
 . rcases key e with ⟨rfl,rfl,q⟩|⟨n,q,z⟩
   . exact⟨v,q,w⟩
   . obtain⟨v',h1,h2⟩:=F.slot k c' q
     exact⟨v',by rw [z];exact h1,h2⟩
 . rcases key e with ⟨rfl,rfl,q⟩|⟨n,q,z⟩
   . rw [q] at e';cases e';exact h0 a h
   . rw [z] at e';exact F.mine k c' v' a q e' h
 . rcases key e1 with ⟨rfl,rfl,q⟩|⟨n,q,z⟩
   . rw [q] at e3;cases e3
     rcases key e2 with ⟨rfl,_,_⟩|⟨n,q',z⟩
     . rfl
     . rw [z] at e4;exact absurd h2 (hn a m c2 v2 h1 q' e4)
   . rw [z] at e3
     rcases key e2 with ⟨rfl,rfl,q'⟩|⟨n',q',z'⟩
     . rw [q'] at e4;cases e4;exact absurd h1 (hn a k c1 v1 h2 q e3)
     . rw [z'] at e4;exact F.apart k m c1 c2 v1 v2 a q q' e3 e4 h1 h2
theorem Fr3.forget(F:#[18])(i:Nat):Fr3 K H0 G0 (ρ.set i none) σ G H:=by
 have key:∀ {k:Nat} {c':Cl},(ρ.set i none)[k]?=some (some c')->k≠i/\ρ[k]?=some (some c'):=fun {k c'} e=>by
  rcases zJ e with ⟨rfl,q,hl⟩|⟨n,q⟩
  . cases q
  . exact⟨Wbo n,q⟩
 exact⟨F.keep,F.sub,F.old,F.g0,fun k c e=>F.slot k c (key e).2,fun k c v a e e' h=>F.mine k c v a (key e).2 e' h,fun k m c1 c2 v1 v2 a e1 e2 e3 e4 h1 h2=>F.apart k m c1 c2 v1 v2 a (key e1).2 (key e2).2 e3 e4 h1 h2,by rw [YaN];exact F.len⟩
theorem Dr.scal{H1:Hp}{kvs:List (List Key×V)}{ds:List (List Key×D)}(r:Dr K H0 G kvs ds)(h:(ds.all fun p=>zw p.2)=true):Dr K H1 G kvs ds:=by
 induction r with
 | nil=>exact .nil
 | cons a b ih=>
  rw [List.all_cons,Yak] at h;exact .cons (.sc h.1 a.rd) (ih h.2)
theorem Dr.older{H1:Hp}(hh:∀ a,H0 a=none->H1 a=none){kvs:List (List Key×V)}{ds:List (List Key×D)}(r:Dr K H0 G kvs ds):Dr K H1 G kvs ds:=by
 induction r with
 | nil=>exact .nil
 | cons a b ih=>exact .cons ⟨a.rd,fun hf=>jX (Same.refl _) (fun x _ _ z=>hh x z) (a.nw hf)⟩ ih
theorem Vw.arg{H1:Hp}{v:V}{c:Cl}(w:Vw K H0 G H v c)(h:jv c=true):Vw K H1 G H v (argC c):=by
 cases w with
 | sh r=>exact .sh ⟨r.rd,fun h=>ZQ h r.rd⟩
 | dm a b=>exact .dm a b
 | fd a b c=>exact .fd a (b.scal h) c
 | _=>cases h
theorem Vws.arg{H1:Hp}{vs:List V}{cs:List Cl}(w:Vws K H0 G H vs cs)(h:cs.all jv=true):Vws K H1 G H vs (cs.map argC):=by
 induction w with
 | nil=>exact .nil
 | cons a b ih=>
  rw [List.all_cons,Yak] at h;exact .cons (a.arg h.1) (ih h.2)
theorem Vw.res{H1:Hp}{v:V}{c:Cl}(w:Vw K H0 G H v c)(hh:∀ a,H0 a=none->H1 a=none)(h:JM c=true):Vw K H1 G H v c:=by
 cases w with
 | sh r=>exact .sh ⟨r.rd,fun hf=>jX (Same.refl _) (fun x _ _ z=>hh x z) (r.nw hf)⟩
 | dt a b c=>exact .dt a (b.older hh) c
 | _=>cases h
theorem zcG{sp:SpC}(mono:∀ cs (Q Q':Cl->List Tb->Prop),(∀ c ms,Q c ms->Q' c ms)->sp cs Q->sp cs Q')(F:#[18]){vs:List V}{cs:List Cl}(w:Vws K H0 G H vs cs){js:List Nat}(nd:js.Nodup)(ha:cs.all jv=true)(ho:holds ρ js (dms cs)){R:Cl->Env3->Prop}(h:sp (cs.map argC) fun c ms=>R c (updM js (dms cs) ms ρ)){Q:VK}{E:XK}
 (q:∀ c ρ' v G' H',Fr3 K H0 G0 ρ' σ G' H'->zi (bar H (dms cs)) H'->Gr G (bar H (dms cs)) G' H'->Vw K H0 G' H' v c->(∀ a,Has c v a->H0 a=none/\∀ (j:Nat) (c':Cl) (v':V),ρ'[j]?=some (some c')->σ[j]?=some (some v')->¬Has c' v' a)->R c ρ'->Q v H'):spC K sp vs H Q E:=by
 have hh:∀ a,bar H (dms cs) a=none->H0 a=none:=fun a z=>by
  rcases zcE z with y|y
  . obtain⟨j,m,_,hj⟩:=Z1 ho a y
    exact F.mine j _ _ a hj (jy F hj).1 rfl
  . exact F.keep.free y
 refine⟨G,cs.map argC,F.sub,by rw [zdn];exact w.arg ha,by rw [zdn];exact zeY F nd ho,mono _ _ _ (fun c ms k v G' H' g w' n' b hres=>?_) h⟩
 rw [zdn] at g w' b;refine q c _ v G' H' (F.called nd ho g b) g.h g (w'.res hh hres) (fun a z=>⟨F.keep.free (n' a z),fun j c' v' e e' y=>ziI F nd ho b e e' y (n' a z)⟩) k
end
section
variable{X:Cx}{H0:Hp}{e:Expr}{es:List Expr}{pos p:Pos}{x y:Str}{k:Nat}{ps:List Str}{sp:SpC}{E:XK}{t:TA3}
def Zv(sp:SpC)(t:TA3)(js:List Nat)(R:Cl->Env3->Prop)(ρ : Env3):Prop:=t ρ fun cs=>cs.all jv=true/\holds ρ js (dms cs)/\sp (cs.map argC) fun c ms=>R c (updM js (dms cs) ms ρ)
def zaG(i:Nat)(sp:SpC)(t:TA3)(js:List Nat):TS3:=fun A ρ=>Zv sp t js (fun c ρ'=>A.nx (ρ'.set i (some c))) ρ
theorem zc0{i:Nat}{pos' spos:Pos}(js:List Nat)(nd:js.Nodup)(hN:X.N.Nodup)(hi:X.N[i]?=some y)(hy:Loc X.env.scope y)(Gd:DfC X.prog X.w X.K X.mg X.base k x ps sp)(hr:Room k X.A)(hg:Gl X x)(hx:Passes (CXR X.prog X.w) X E)(ha:PA3 X H0 (e::es) t)(hdb:#[24]:=by decide)
 (he:#[14]:=by rfl) (hpl:(backTo pos (starEach es X.env)).any (·.1)=false:=by rfl) (hs:swapsWith #[23] (some (.Name y pos')) spos.line X.env=pure false:=by rfl)
 (hf:X.fn y=true\/X.env.scope.names.lookup y=some .local:=by first|exact .inl rfl|exact .inr rfl|assumption):PS3 X H0 (.Assign [.Name y pos'] #[23] spos) (zaG i sp t js):=
 PS.imp (jh hN hi hy (jG Gd.ok hr hg hx ha.ok hdb he hpl) hs hf) fun B σ H=>el7 fun G0 A ρ G F q L=>⟨G0,ρ,G,F,ha.mono ρ _ _ (fun cs hyp vs G1 H1 g1 w=>by
  obtain⟨h1,h2,h3⟩:=hyp;show spC X.K sp (vs++[]) H1 _ E;rw [Yao];exact zcG (R:=fun c ρ'=>A.nx (ρ'.set i (some c))) Gd.mono (F.gr g1) w nd h1 h2 h3 fun c ρ' v G' H' F' _ _ w' n' k=>L.nx _ _ G' H' (F'.putN w' (fun a z=>(n' a z).1) fun a j c' v' z=>(n' a z).2 j c' v') k) q⟩
def zae(sp:SpC)(t:TA3)(js:List Nat):TS3:=fun A ρ=>Zv sp t js (fun _ ρ'=>A.nx ρ') ρ
theorem zjF{spos:Pos}(js:List Nat)(nd:js.Nodup)(Gd:DfC X.prog X.w X.K X.mg X.base k x ps sp)(hr:Room k X.A)(hg:Gl X x)(hx:Passes (CXR X.prog X.w) X E)(ha:PA3 X H0 (e::es) t)(hdb:#[24]:=by decide)
 (he:#[14]:=by rfl) (hpl:(backTo pos (starEach es X.env)).any (·.1)=false:=by rfl) (hs:swapsWith #[23] none spos.line X.env=pure false:=by rfl):PS3 X H0 (.Expr #[23] spos) (zae sp t js):=
 PS.imp (jZ (jG Gd.ok hr hg hx ha.ok hdb he hpl) hs) fun B σ H=>el7 fun G0 A ρ G F q L=>⟨G0,ρ,G,F,ha.mono ρ _ _ (fun cs hyp vs G1 H1 g1 w=>by
  obtain⟨h1,h2,h3⟩:=hyp;show spC X.K sp (vs++[]) H1 _ E;rw [Yao];exact zcG (R:=fun _ ρ'=>A.nx ρ') Gd.mono (F.gr g1) w nd h1 h2 h3 fun c ρ' v G' H' F' _ _ w' n' k=>L.nx _ _ G' H' F' k) q⟩
def zaI(sp:SpC)(t:TA3):TE3:=fun ρ Q=>t ρ fun cs=>cs.all jv=true/\dms cs=[]/\sp (cs.map argC) fun c _=>∃ f d,c=.sh f d/\Q (.sh f d)
theorem dfX{E:XK}(Gd:DfC X.prog X.w X.K X.mg X.base k x ps sp)(hr:Room k X.A)(hg:Gl X x)(hx:Passes (CXR X.prog X.w) X E)(ha:PA3 X H0 (e::es) t)(hdb:#[24]:=by decide)
 (he:#[14]:=by rfl) (hpl:(backTo pos (starEach es X.env)).any (·.1)=false:=by rfl):PE3 X H0 #[23] (zaI sp t):=by
 refine⟨fun ρ Q Q' h q=>ha.mono ρ _ _ (fun cs ⟨a,b,q⟩=>⟨a,b,Gd.mono _ _ _ (fun c ms ⟨f,d,e,q⟩=>⟨f,d,e,h _ q⟩) q⟩) q,PE.imp (jG Gd.ok hr hg hx ha.ok hdb he hpl) fun σ H Q=>el5 fun G0 ρ G F q=>⟨G0,ρ,G,F,ha.mono ρ _ _ (fun cs hyp vs G1 H1 g1 w=>?_) q⟩⟩
 obtain⟨h1,h2,h3⟩:=hyp;show spC X.K sp (vs++[]) H1 Q E;rw [Yao];refine zcG (js:=[]) Gd.mono (F.gr g1) w Wa2 h1 (by rw [h2];exact True.intro) (R:=fun c _=>∃ f d,c=.sh f d/\∀ (v:V) (G' H':Hp),Gr G H G' H'->Vw X.K H0 G' H' v (.sh f d)->Q v H') h3 fun c ρ' v G' H' F' _ g' w' n' k=>?_
 obtain⟨f,d,rfl,k⟩:=k;rw [h2] at g';have e:bar H1 []=H1:=funext fun b=>zX (by simp)
 rw [e] at g';exact k v G' H' (g1.trans g') w'
def ZG(te:TE3):TS3:=fun A ρ=>te ρ fun c=>asS c fun f d=>A.rm (.sh f d) ρ
theorem zbo{te:TE3}(he:PE3 X H0 e te):PS3 X H0 (.Return (some e) pos) (ZG te):=PS.imp (JO he.ok) fun B σ H=>el7 fun G0 A ρ G F q L=>
 ⟨G0,ρ,G,F,he.mono ρ _ _ (fun c hyp v G' H' g w=>by
  obtain⟨f,d,hc,q⟩:=Jt hyp;subst hc;exact L.rm _ v ρ σ G' H' (F.gr g) w (fun a z=>False.elim z) q) q⟩
def Z9(i:Nat):TS3:=fun A ρ=>∃ ds,ρ[i]?=some (some (.dt ds))/\A.rm (.dt ds) (ρ.set i none)
theorem zhE{i:Nat}{np:Pos}(hN:X.N[i]?=some x)(hv:Vis X.env.scope x)(hd:#[24]:=by decide)(hcd:#[20]:=by decide):PS3 X H0 (.Return (some (.Name x np)) pos) (Z9 i):=PS.imp (JO (jx hN hv hd hcd)) fun B σ H hyp=>by
 obtain⟨G0,A,ρ,G,F,⟨ds,hi,q⟩,L⟩:=hyp;obtain⟨v,h1,h2⟩:=F.slot i _ hi;refine⟨v,h1,L.rm _ v _ σ G H (F.forget i) h2 (fun a z=>⟨F.mine i _ v a hi h1 z,fun j c' v' e e' y=>?_⟩) q⟩
 rcases zJ e with ⟨rfl,q,_⟩|⟨n,q⟩
 . cases q
 . exact n (F.apart i j _ _ _ _ a hi q h1 e' z y)
end
end L3
namespace L2
open PySem PySem.Spec PyProof.Rows L3
section
variable{X:Cx}
theorem zlr(hc:X.calm=true):zO X (.builtin "sorted") (fun xs H Q=>∃ (p:Addr) (ns:List Int),xs=[.ref p]/\SqL X.K H p (ns.map V.int)/\ns.length<64/\∀ ms:List Int,ms.Perm ns->ms.Pairwise (·<=·)->∀ l,H l=none->Q (.ref l) (upd H l (.lst (ms.map V.int)))):=by
 intro pins s σ H xs us Q I r h;obtain⟨p,ns,rfl,hq,hlt,q⟩:=h;obtain⟨u,rfl,ru⟩:=Jr r;cases(show u=Value.ref p from ru)
 obtain⟨its,rv,pl,_⟩:=I.list hq;have hI:=zbY rv;have hln:=hI.length;refine sorted_ints pl.isList hI (by rw [hln];exact hlt) fun out ms a1 a2 a3=>?_
 obtain⟨e,he⟩:=sortedAll_at s.heap its out;have hl2:=a2.length_eq;refine⟨.ref #[21],_,I.laid (t':=s.toks) (o:=.lst (ms.map V.int)) (fun b ob q=>sortedAll_old q) (Nat.le_succ _) ⟨?_,out.toList,e,zcL a1,he⟩,rfl,q ms a2 a3 _ (I.hok.fresh (Nat.le_succ _))⟩
 rw [YaR,hl2,sizeLine_eq];omega
end
end L2
namespace L3
open PySem PySem.Spec PyProof.Rows L2
variable[LamW]
def getM(ds:Tb)(k:Int):Option Int:=(ds.find? fun p=>decide (p.1=k)).map (·.2)
def putM(ds:Tb)(k v:Int):Tb:=if(ds.any fun p=>decide (p.1=k))=true then ds.map (fun p=>if p.1=k then(p.1,v) else p) else ds++[(k,v)]
def optI:Option Int->D
 | none=>.none
 | some i=>.int i
theorem zcQ(a k:Int):decide ((Sum.inl a:Key)=Sum.inl k)=decide (a=k):=by
 by_cases e:a=k
 . rw [e];simp
 . rw [decide_eq_false e,decide_eq_false fun z=>e (Sum.inl.inj z)]
theorem jt(ds:Tb)(k:Int):valV (encM ds) (Sum.inl k)=(getM ds k).map V.int:=by
 unfold valV getM encM
 induction ds with
 | nil=>rfl
 | cons p r ih=>
  rw [Ya1,List.find?_cons,List.find?_cons,zcQ]
  by_cases e:p.1=k
  . rw [decide_eq_true e];rfl
  . rw [decide_eq_false e];exact ih
theorem Ze(ds:Tb)(k v:Int):putK (encM ds) (Sum.inl k) (.int v)=encM (putM ds k v):=by
 have ha:((encM ds).any fun kv=>decide (kv.1=(Sum.inl k:Key)))=ds.any fun p=>decide (p.1=k):=by
  unfold encM;rw [List.any_map]
  congr 1
  funext p
  exact zcQ p.1 k
 unfold putK putM;rw [ha]
 split
 . unfold encM
   rw [YaD,YaD];refine Yat fun p _=>?_
   show(if(Sum.inl p.1:Key)=Sum.inl k then _ else _)=_
   by_cases e:p.1=k
   . rw [if_pos (by rw [e])]
     simp only [Function.comp,if_pos e]
   . rw [if_neg fun z=>e (Sum.inl.inj z)]
     simp only [Function.comp,if_neg e]
 . unfold encM
   rw [Ya2];rfl
theorem Zy(ds:Tb):(encM ds).length=ds.length:=YaR _
section
variable{X:Cx}{H0:Hp}{e a b:Expr}{pos:Pos}{x:Str}{i:Nat}
def zaE(i:Nat):TS3:=fun A ρ=>∀ a,A.nx (ρ.set i (some (.dm a [])))
theorem zcP{pos' p:Pos}(hN:X.N.Nodup)(hi:X.N[i]?=some x)(hx:Loc X.env.scope x)(hs:swapsWith (.Dict [] [] p) (some (.Name x pos')) pos.line X.env=pure false:=by rfl)
 (hf:#[19]:=by first|exact .inl rfl|exact .inr rfl|assumption):PS3 X H0 (.Assign [.Name x pos'] (.Dict [] [] p) pos) (zaE i):=PS.imp (jh hN hi hx JK hs hf) fun B σ H=>el7 fun G0 A ρ G F q L=>
 fun p hp=>L.nx _ _ G _ (F.put (zG hp _).x (.dm (ds:=[]) zf (F.sub.free hp)) fun a h=>by cases h;exact hp) (q p)
def zbc(i:Nat)(ta te:TE3):TS3:=fun A ρ=>∃ l ds,ρ[i]?=some (some (.dm l ds))/\te ρ fun c=>ta ρ fun ck=>asI ck fun k=>asI c fun v=>ds.length<sizeLine/\A.nx (ρ.set i (some (.dm l (putM ds k v))))
theorem zcB{ta te:TE3}{np spos:Pos}(hu:X.A.units+1<cLine)(hN:X.N[i]?=some x)(hv:Vis X.env.scope x)(ha:PE3 X H0 a ta)(he:PE3 X H0 e te)(hd:#[24]:=by decide)(hcd:#[20]:=by decide)
 (hs:swapsWith e (some (.Subscript (.Name x np) a spos)) pos.line X.env=pure false:=by rfl):PS3 X H0 (.Assign [.Subscript (.Name x np) a spos] e pos) (zbc i ta te):=by
 refine PS.imp (JC hu (jx hN hv hd hcd) ha.ok he.ok hs) fun B σ H hyp=>?_
 obtain⟨G0,A,ρ,G,F,⟨l,ds,hi,q⟩,L⟩:=hyp;refine⟨G0,ρ,G,F,he.mono ρ _ _ (fun c q1 v1 G1 H1 g1 w1=>?_) q⟩
 have F1:=F.gr g1;refine⟨.ref l,(jy F1 hi).1,G0,ρ,G1,F1,ha.mono ρ _ _ (fun ck q2 v2 G2 H2 g2 w2=>?_) q1⟩
 obtain⟨k,rfl,q3⟩:=jN q2;obtain⟨v,rfl,e4,q4⟩:=jN q3;cases zB (zn w1).rd;cases zB (zn w2).rd;have F2:=F1.gr g2;obtain⟨hl,k2,k4⟩:=jy F2 hi;exact⟨l,_,rfl,DPut.k (k:=Sum.inl k) k2 (by rw [Zy];exact e4),L.nx _ _ _ _ (F2.chg (c':=.dm l (putM ds k v)) hi hl rfl (fun _ h=>h) (.dm (by rw [zf,Ze]) k4)) q4⟩
def Z7(i:Nat)(ta:TE3):TE3:=fun ρ Q=>∃ l ds,ρ[i]?=some (some (.dm l ds))/\ta ρ fun c=>asI c fun k=>∃ v,getM ds k=some v/\Q (.sh true (.int v))
theorem zck{ta:TE3}{np:Pos}(hu:X.A.units+1<cLine)(hN:X.N[i]?=some x)(hv:Vis X.env.scope x)(ha:PE3 X H0 a ta)(hd:#[24]:=by decide)(hcd:#[20]:=by decide)(hs:NoSl a:=by exact fun _ _=>rfl):PE3 X H0 (.Subscript (.Name x np) a pos) (Z7 i ta):=by
 refine⟨fun ρ Q Q' h ⟨l,ds,hi,q⟩=>⟨l,ds,hi,ha.mono ρ _ _ (fun c q=>?_) q⟩,PE.imp (j5 hu (jx hN hv hd hcd) ha.ok hs) fun σ H Q=>el5 fun G0 ρ G F q=>?_⟩
 . obtain⟨k,rfl,v,e,q⟩:=jN q
   exact⟨v,e,h _ q⟩
 obtain⟨l,ds,hi,q⟩:=q;refine⟨.ref l,(jy F hi).1,G0,ρ,G,F,ha.mono ρ _ _ (fun c q2 v2 G2 H2 g2 w2=>?_) q⟩
 obtain⟨k,rfl,v,e,q⟩:=jN q2;cases zB (zn w2).rd;obtain⟨_,k2,_⟩:=jy (F.gr g2) hi;have g:=DGet.k (k:=Sum.inl k) k2;rw [jt,e] at g;exact⟨l,_,rfl,g,q _ G2 H2 g2 (.sh (.sc rfl (.int v)))⟩
def Z4(i:Nat)(ta:TE3):TE3:=fun ρ Q=>∃ l ds,ρ[i]?=some (some (.dm l ds))/\ta ρ fun c=>asI c fun k=>Q (.sh true (optI (getM ds k)))
theorem zjy{ta:TE3}{np apos cpos:Pos}(hu:X.A.units+1<cLine)(hN:X.N[i]?=some x)(hv:Vis X.env.scope x)(ha:PE3 X H0 a ta)(m:M1 X (.Name x np) "get" apos a cpos:=by exact⟨rfl,rfl,rfl,rfl⟩)(hd:#[24]:=by decide)(hcd:#[20]:=by decide):PE3 X H0 (.Call (.Attribute (.Name x np) "get" apos) [a] [] cpos) (Z4 i ta):=by
 refine⟨fun ρ Q Q' h ⟨l,ds,hi,q⟩=>⟨l,ds,hi,ha.mono ρ _ _ (fun c q=>?_) q⟩,PE.imp (zfM hu (jx hN hv hd hcd) ha.ok m) fun σ H Q=>el5 fun G0 ρ G F q=>?_⟩
 . obtain⟨k,rfl,q⟩:=jN q
   exact h _ q
 obtain⟨l,ds,hi,q⟩:=q;obtain⟨hl,h2,_⟩:=jy F hi;refine⟨.ref l,hl,l,rfl,.inl ⟨_,.inl h2⟩,G0,ρ,G,F,ha.mono ρ _ _ (fun c q2 v2 G2 H2 g2 w2=>?_) q⟩
 obtain⟨k,rfl,q⟩:=jN q2;cases zB (zn w2).rd;obtain⟨_,k2,_⟩:=jy (F.gr g2) hi;have g:=DGet.k (k:=Sum.inl k) k2;rw [jt] at g;refine⟨_,g,?_⟩;cases e:getM ds k with
 | none=>rw [e] at q;exact q _ G2 H2 g2 (.sh (.sc rfl .non))
 | some v=>rw [e] at q;exact q _ G2 H2 g2 (.sh (.sc rfl (.int v)))
def ZI(i:Nat)(ta:TE3):TE3:=fun ρ Q=>∃ l ds,ρ[i]?=some (some (.dm l ds))/\ta ρ fun c=>asI c fun k=>Q (.sh true (.bool (!(getM ds k).isSome)))
theorem zcT{ta:TE3}{np:Pos}(hu:X.A.units+1<cLine)(hN:X.N[i]?=some x)(hv:Vis X.env.scope x)(ha:PE3 X H0 a ta)(hm:behindInMarks .NotIn (.Name x np)=false:=by rfl)(hd:#[24]:=by decide)(hcd:#[20]:=by decide):PT3 X H0 (.Compare a [.NotIn] [.Name x np] pos) (tt3 (ZI i ta)):=by
 refine⟨zbR fun ρ Q Q' h q=>?_,PT.imp (Zw (zbK hu ha.ok (jx hN hv hd hcd)) hm) fun σ H Q=>el5 fun G0 ρ G F q=>?_⟩
 . obtain⟨l,ds,hi,q⟩:=q
   refine⟨l,ds,hi,ha.mono ρ _ _ (fun c q=>?_) q⟩
   obtain⟨k,rfl,q⟩:=jN q;exact h _ q
 obtain⟨l,ds,hi,q⟩:=q;refine⟨G0,ρ,G,F,ha.mono ρ _ _ (fun c q2 v2 G2 H2 g2 w2=>?_) q⟩
 obtain⟨k,rfl,q⟩:=jN q2;cases zB (zn w2).rd;obtain⟨hl,k2,_⟩:=jy (F.gr g2) hi;have g:=DGet.k (k:=Sum.inl k) k2;rw [jt] at g;exact⟨.ref l,hl,l,_,rfl,g,_,rfl,by rw [WaC];exact q _ _ g2⟩
def srtL(ta:TA3):TN3:=fun ρ Q=>ta ρ fun cs=>∃ c,cs=[c]/\c.dat=true/\∃ ns:List Int,c.d=.list (ns.map .int)/\ns.length<64/\∀ ms:List Int,ms.Perm ns->ms.Pairwise (·<=·)->Q true (ms.map PyData.int)
theorem zeh{K:Ybf}{G:Hp}:∀ {ns:List Int} {xs:List V},RdVs K G xs (ns.map PyData.int)->xs=ns.map V.int
 | [],_,.nil=>rfl
 | n :: r, _, .cons a t => by
  cases a;rw [zeh t];rfl
theorem zhD{K:Ybf}{H0 G:Hp}(ns:List Int):Rfs K H0 G true (ns.map V.int) (ns.map PyData.int):=by
 induction ns with
 | nil=>exact Rfs.nil
 | cons a r ih=>exact Rfs.cons (f:=true) (.sc rfl (.int a)) ih
theorem zlX{np:Pos}{ta:TA3}(hc:X.calm=true)(hg:Gl X "sorted")(hm:X.mg "sorted" = none)(ha:PA3 X H0 [a] ta)
 (he:starEach [a] X.env=(false,eval a X.env)::starEach [] X.env:=by rfl) (hpl:(backTo pos (starEach [] X.env)).any (·.1)=false:=by rfl):PN3 X H0 (.Call (.Name "sorted" np) [a] [] pos) (srtL ta):=by
 refine⟨fun ρ Q Q' h q=>ha.mono ρ _ _ (fun cs ⟨c,h0,h1,ns,h2,h3,q⟩=>⟨c,h0,h1,ns,h2,h3,fun ms a b=>h _ _ (q ms a b)⟩) q,PE.imp (JR (x:="sorted") (zlr hc) hg hm (show bootBuiltins "sorted" = some (.builtin "sorted") by rfl) ha.ok #[1] #[1] he hpl) fun σ H Q=>el5 fun G0 ρ G F q=>⟨G0,ρ,G,F,ha.mono ρ _ _ (fun cs hyp vs G1 H1 g1 w=>?_) q⟩⟩
 obtain⟨c,rfl,h1,ns,h2,h3,q⟩:=hyp;obtain⟨v,rfl,w1⟩:=vws1 w;obtain⟨l,us,rfl,hq,rs⟩:=JI w1 g1.sub h1 h2;cases zeh rs.rd;exact⟨l,ns,rfl,hq,h3,fun ms p1 p2 p hp=>q ms p1 p2 p _ G1 H1 g1 hp (zhD ms)⟩
def ninT3:R3:=fun a b Q=>a.dat=true/\b.dat=true/\asT b.d fun xs=>SeqAt.shaped a.d=true/\SeqAt.shaped (.tuple xs)=true/\Q true (.bool (!xs.any fun y=>PyData.eqv y a.d))
theorem zlp(hu:X.A.units+65<cLine):OpOk X (compareOp .NotIn) ninT3:=by
 refine⟨fun a b Q Q' h q=>?_,fun H0=>?_⟩
 . obtain⟨h1,h2,q⟩:=q
   obtain⟨xs,e,h3,h4,q⟩:=zby q;refine⟨h1,h2,?_⟩;rw [e];exact⟨h3,h4,h _ _ q⟩
 intro pins s σ H x y v u Q I rx ry hyp;obtain⟨G,a,b,sm,wa,wb,ha,hb,q⟩:=hyp;have ra:=wa.rd sm ha;have rb:=wb.rd sm hb;obtain⟨xs,e,s1,s2,q⟩:=zby q;rw [e] at rb;obtain⟨as,r1⟩:=ra.reads I rx;obtain⟨bs,r2⟩:=rb.reads I ry;exact SeqAt.notIn_tuple_reads r2 r1 (SeqAt.canLay_of_shaped s2) (SeqAt.canLay_of_shaped s1) (room_in_shaped s1 hu) ⟨.bl _,H,I,rfl,q _ G H (Gr.refl sm) (.sc rfl (.bl _))⟩
def zaN(i:Nat)(ta tb:TE3):TE3:=fun ρ Q=>∃ ds,ρ[i]?=some (some (.fd ds))/\ta ρ fun ka=>tb ρ fun kb=>asI ka fun m=>asI kb fun n=>Q (.sh true (.bool (!(getT ds (kk m n)).isSome)))
theorem zkf{ta tb:TE3}{np tp:Pos}{k1}(hu:X.A.units+1<cLine)(hN:X.N[i]?=some x)(hv:Vis X.env.scope x)(ha:PE3 X H0 a ta)(hb:PE3 X H0 b tb)(hm:behindInMarks .NotIn (.Name x np)=false:=by rfl)(hd:#[24]:=by decide)(hcd:#[20]:=by decide)
 (hs1:starEach [a,b] X.env=(false,eval a X.env)::starEach [b] X.env:=by rfl) (hs2:starEach [b] X.env=(false,eval b X.env)::starEach [] X.env:=by rfl) :
 PE3 X H0 (.Compare (.Tuple [a,b] k1 tp) [.NotIn] [.Name x np] pos) (zaN i ta tb):=by
 refine⟨fun ρ Q Q' h q=>?_,PE.imp (zhO (zbK hu (zbq (zm ha.ok (zm hb.ok zK hs2) hs1)) (jx hN hv hd hcd)) hm) fun σ H Q=>el5 fun G0 ρ G F q=>?_⟩
 . obtain⟨ds,hi,q⟩:=q
   refine⟨ds,hi,ha.mono ρ _ _ (fun ka q=>hb.mono ρ _ _ (fun kb q1=>?_) q) q⟩
   obtain⟨m,rfl,q2⟩:=jN q1;obtain⟨n,rfl,q3⟩:=jN q2;exact h _ q3
 obtain⟨ds,hi,q⟩:=q;refine⟨G0,ρ,G,F,ha.mono ρ _ _ (fun ka q2 v2 G2 H2 g2 w2=>?_) q⟩
 refine⟨G0,ρ,G2,F.gr g2,hb.mono ρ _ _ (fun kb q3 v3 G3 H3 g3 w3=>?_) q2⟩
 obtain⟨m,rfl,q⟩:=jN q3;obtain⟨n,rfl,q⟩:=jN q;cases zB (zn w2).rd;cases zB (zn w3).rd;refine⟨show 2<=sizeLine by decide,fun p hp=>?_⟩
 have g4:=Gr.apart (o:=.tup [.int m,.int n]) g3.sub hp;have F3:=((F.gr g2).gr g3).gr g4;obtain⟨l,o,kvs,h1,h2,h3,_⟩:=zg3 F3 hi;have g:DGet (upd H3 p (.tup [.int m,.int n])) l (.ref p) (valV kvs (kk m n)):=.inr ⟨kvs,kk m n,p,.inr ⟨o,F3.sub.s _ _ h2⟩,rfl,zf,rfl⟩;refine⟨.ref l,h1,l,_,rfl,g,?_⟩;rw [h3.some];exact q _ G3 _ ((g2.trans g3).trans g4) (.sh (.sc rfl (.bl _)))
end
variable[LamW]
section
variable{X:Cx}{H0:Hp}{e:Expr}{pos pos':Pos}{x:Str}{i j:Nat}{J:List Nat}{l:List Stmt}{u:Env3->D->TS3}{st:Stmt}
def drops(J:List Nat)(ρ : Env3):Env3:=J.foldl (fun ρ j=>ρ.set j none) ρ
theorem Fr3.drops{K:Ybf}{G0:Hp}{σ : L2.St}{G H:Hp}:∀ (J:List Nat) {ρ : Env3},Fr3 K H0 G0 ρ σ G H->Fr3 K H0 G0 (L3.drops J ρ) σ G H
 | [],_,F=>F
 | _::r,_,F=>Fr3.drops r (F.forget _)
variable{w:Env3->TS3}{jr:Nat}{y:Str}
end
end L3
namespace L2
open PySem PySem.Spec PyProof.Rows
theorem zeM{P:Program}{w:World}{k:Key}{u:Value}(h:(ja P w).is k u=true):RelV (kV k) u:=by
 rcases Ji h with ⟨i,t,rfl,rfl⟩|⟨x,t,rfl,rfl⟩
 . exact⟨t,rfl⟩
 . exact⟨t,rfl⟩
theorem zcf{α β : Type}{F:α->β->Prop}:∀ {l:List α} {m:List β},Paired F l m->∀ {j:Nat} {a:α},l[j]?=some a->∃ b,m[j]?=some b/\F a b
 | _,_,.nil,_,_,h=>by simp at h
 | _, _, .cons x r, 0, _, h => by
  rw [List.getElem?_cons_zero] at h;cases h;exact⟨_,rfl,x⟩
 | _, _, .cons x r, j + 1, _, h => by
  rw [List.getElem?_cons_succ] at h;obtain⟨b,h1,h2⟩:=zcf r h;exact⟨b,by rw [List.getElem?_cons_succ];exact h1,h2⟩
section
variable{X:Cx}{pins:List #[17]}{s:Shared}{σ : St}{H:Hp}
theorem Zk(I:#[11]){d:Addr}{o:Obj}{kvs:List (Key×V)}(h:H d=some (.frz o (.dK kvs))):∃ vs ep es,s.heap.get? d=some o/\o.ExactDict/\o.data=.dict es ep/\(d==sysModules)=false/\KV kvs vs/\s.heap.DictAt (ja X.prog X.w) d vs ep/\s.heap.DictOf (ja X.prog X.w) d vs:=by
 obtain⟨hd,_,hs,vs,hkv,o',es,ep,ho',hx,he,r⟩:=(show zI X.prog X.w H s.heap d (.frz o (.dK kvs)) from I.hok d _ h)
 have e:o'=o:=by rw [hd] at ho';exact(WaV ho').symm
 subst e;exact⟨vs,ep,es,hd,hx,he,hs,hkv,⟨o',es,hd,hx,he,r⟩,⟨o',es,ep,hd,hx,he,r⟩⟩
end
theorem zhF:entryFor table "dict_itemiterator.__iter__" = some Builtin.«dict_keyiterator.__iter__»:=
 entryFor_alias (id':="dict_keyiterator.__iter__") (by kernel_rfl) rfl #[3] (by kernel_rfl)
def Iti(d:Addr)(o:Obj)(kvs:List (Key×V)):It:=
 ⟨fun i H=>(∃ p,kvs[i]?=some p)/\H d=some (.frz o (.dK kvs)),
  fun i H x H'=>∃ a k v,H a=none/\x=.ref a/\kvs[i]?=some (k,v)/\H'=upd H a (.tup [kV k,v]),
  fun i H=>i=kvs.length/\H d=some (.frz o (.dK kvs))⟩
theorem zjZ{P:Program}{w:World}{K:Ybf}{elts:List Expr}{n:Nat}{pos:Pos}{d it:Addr}{o:Obj}{es0:Array DictEntry}{ep:Nat}{kvs:List (Key×V)}(he:o.data=.dict es0 ep):Turn P w K (.Tuple elts n pos) (Iti d o kvs) [it] it (fun i h=>∃ ok ov,IsItemIter h it d i kvs.length ep ok ov) where
 mem:=by simp
 obj:=fun i h st b hb=>by
  have e:b=it:=by simpa using hb
  subst e;obtain⟨ok,ov,st⟩:=st;exact⟨_,st,fun v z=>by cases(show Data.fields _=Data.cell v from z)⟩
 keep:=fun i h h' ⟨ok,ov,st⟩ k=>⟨ok,ov,k it (by simp) _ st⟩
 item:=by
  intro X hP hw hK hc i pins s σ H E I hf st hg;subst hP hw hK;obtain⟨⟨⟨k,x⟩,hx⟩,hH⟩:=hg;obtain⟨vs,ep',es,hd,hex,he',hs,hkv,hdict,_⟩:=Zk I hH;have eep:ep'=ep:=by rw [he] at he';cases he';rfl
  subst eep;have hl:kvs.length=vs.length:=Wa3 hkv;obtain⟨⟨k',u⟩,hu,hk,ru⟩:=zcf hkv hx;have hk:k=k':=hk;have ru:RelV x u:=ru;subst hk;obtain⟨ok,ov,st⟩:=st;rw [hl] at st;obtain⟨f0,f1,f2,f3,f4,f5⟩:=hf it (by simp)
  have hlt:it<s.heap.objs.size:=YaX st;refine wpAny_pyNext_items_item st hdict hu fun key h' hkey out tup sz kp=>⟨_,rfl,wpAny_letOwnedTupleGo_items (s:={ s with heap:=h' }) out fun h2 st2 sb=>?_⟩
  have I1:Inv X pins σ H { s with heap:=h2,toks:=s.toks }:=I.turned (fun b o hb e=>(sb.2 b hb).trans (kp b o hb e)) f0 f1 f3 f4 f5
  have hT:=YaY s.heap.objs.size;have hTn:H s.heap.objs.size=none:=I.hok.fresh hT;have ho2:=(sb.2 s.heap.objs.size (Wbd hlt)).trans tup;have I2:Inv X pins σ (upd H s.heap.objs.size (.tup [kV k,x])) { s with heap:=h2,toks:=s.toks }:=I1.track hTn (Ya5 I.sz hT) (Wbd (YaU I.lt hT)) (fun n c e z=>by
   obtain⟨vv,q⟩:=I.cell n c e;exact absurd (YaU q.lt (by rw [z];exact hT)) (Yap _)) (fun p hp z=>absurd (YaU (YaX (I.pin p hp).1) (by rw [z];exact hT)) (Yap _))
   ⟨by show 2<=sizeLine;decide,[key,u],.cons (zeM hkey) (.cons ru .nil),_,ho2,rfl,_,rfl⟩
  refine⟨.ref s.heap.objs.size,_,I2,rfl,⟨_,k,x,hTn,rfl,hx,rfl⟩,⟨key,u,by rw [hl];exact st2⟩,fun b hb=>?_⟩
  have e:b=it:=by simpa using hb
  subst e;rw [zc (Yaf hlt)];exact f0
 done:=by
  intro X hP hw hK hc i pins s σ H E I hf st hg;subst hP hw hK;obtain⟨hi,hH⟩:=hg;obtain⟨vs,ep',es,hd,hex,he',hs,hkv,hdict,_⟩:=Zk I hH;have eep:ep'=ep:=by rw [he] at he';cases he';rfl
  subst eep;have hl:kvs.length=vs.length:=Wa3 hkv;obtain⟨ok,ov,st⟩:=st;rw [hl] at st hi;obtain⟨f0,f1,f2,f3,f4,f5⟩:=hf it (by simp)
  exact wpAny_pyNext_items_end (I.ok.hd hc) st hdict (by rw [hi];exact Wao (YaY _)) fun h' eb=>⟨rfl,I.turned (t':=s.toks) (fun b o hb e=>eb b o hb e) f0 f1 f3 f4 f5⟩
 self:=fun A i s Q E ⟨ok,ov,st⟩ h=>by
  have ht:s.TypeIs (.ref it) "dict_itemiterator":=⟨_,st,rfl⟩;refine wpAny_pyIter_slot ht PySem.F.slot_dict_itemiterator_iter (wpAny_call_entry PySem.F.slot_dict_itemiterator_iter ht zhF ?_ (PySem.F.args_dict_itemiterator_iter_1 _));show wpAny _ _ (ret (.ref it)) _ _ s;exact wpAny_pure ⟨_,rfl,"dict_itemiterator", _,ht,PySem.F.slot_dict_itemiterator_next.lookup,h⟩
def zi0(tl:TE):TI:=fun σ H R=>tl σ H fun v H1=>∃ d o kvs,v=.ref d/\H1 d=some (.frz o (.dK kvs))/\R (Iti d o kvs) H1
theorem zjA{X:Cx}{elts:List Expr}{n:Nat}{tpos apos pos:Pos}{l:Expr}{tl:TE}(hl:PE X l tl)(hb:attributeBase l "items" X.env (eval l X.env)=eval l X.env:=by rfl)(hline:(apos.endLine==pos.line)=true:=by rfl):PI X (.Tuple elts n tpos) (.Call (.Attribute l "items" apos) [] [] pos) (zi0 tl):=by
 intro pins s σ H R I h;refine wpAny_Call_method (T:="dict") (id:="dict.items") hb rfl hline PySem.F.plainAttrs_dict PySem.F.slot_dict_items PySem.F.type_dict_items (wpAny_mono (hl pins s σ H _ I h) (fun v s1 q=>?_) fun _ _ z=>z)
 obtain⟨x,H1,I1,r1,d,o,kvs,rfl,hH,q⟩:=q;cases(show v=Value.ref d from r1)
 obtain⟨vs,ep,es,hd,hex,he,hs,hkv,hdict,hof⟩:=Zk I1 hH;have hl2:kvs.length=vs.length:=Wa3 hkv;refine⟨hof.typeIs,hof.mapOf.noDict,?_⟩;show wpAny _ _ (callWith pos (.builtin "dict.items") [.ref d] [] []) _ _ s1;refine method_meetsIn PySem.F.slot_dict_items PySem.F.entry_dict_items rfl (PyProof.Rows.evalArgs_none ⟨rfl,hof.typeIs,PySem.F.args_dict_items_1 _,_,meets_dict_items (ja X.prog X.w) d hs,⟨vs,hof⟩,?_⟩)
 have I2:Inv X pins σ H1 { s1 with heap:=s1.heap.push { cls:=.type "dict_items", data:=.fields #[.ref d] },toks:=s1.toks }:=I1.kept fun b o e=>YaW _ e
 refine wpAny_pyIter_items (knd:=ja X.prog X.w) (d:=d) (kvs:=vs) (ep:=ep) ⟨_,Yan _ rfl,rfl,rfl⟩ (hdict.push _) ?_
 have I3:=I2.kept (t':=s1.toks) (h':=(s1.heap.push { cls:=.type "dict_items", data:=.fields #[.ref d] }).push { cls:=.type "dict_itemiterator", data:=.fields #[.none,.bool false,.ref d,.int 0 0,.int vs.length 0,.int ep 0,.none,.none] }) fun b o e=>YaW _ e
 refine⟨(s1.heap.push { cls:=.type "dict_items", data:=.fields #[.ref d] }).objs.size,[(s1.heap.push { cls:=.type "dict_items", data:=.fields #[.ref d] }).objs.size],_,Iti d o kvs,H1,rfl,I3,zjZ he,⟨.none,.none,by rw [hl2];exact Yan _ rfl⟩,fun b hb=>?_,q⟩
 have e:b=(s1.heap.push { cls:=.type "dict_items", data:=.fields #[.ref d] }).objs.size:=by simpa using hb
 subst e;exact I2.fpOk (YaY _) (I2.hok.fresh (YaY _))
def Itk(d:Addr)(o:Obj)(kvs:List (Key×V)):It:=
 ⟨fun i H=>(∃ p,kvs[i]?=some p)/\H d=some (.frz o (.dK kvs)),
  fun i H x H'=>H'=H/\∃ k v,kvs[i]?=some (k,v)/\x=kV k,
  fun i H=>i=kvs.length/\H d=some (.frz o (.dK kvs))⟩
theorem zhG{P:Program}{w:World}{K:Ybf}{tg:Expr}{d it:Addr}{o:Obj}{es0:Array DictEntry}{ep:Nat}{kvs:List (Key×V)}(he:o.data=.dict es0 ep):Turn P w K tg (Itk d o kvs) [it] it (fun i h=>h.IsKeyIter it d i kvs.length ep) where
 mem:=by simp
 obj:=fun i h st b hb=>by
  have e:b=it:=by simpa using hb
  subst e;obtain⟨o,e,c,d⟩:=st;exact⟨o,e,fun v z=>by rw [d] at z;cases z⟩
 keep:=fun i h h' st k=>by
  obtain⟨o,e,c,d⟩:=st;exact⟨o,k it (by simp) o e,c,d⟩
 item:=by
  intro X hP hw hK hc i pins s σ H E I hf st hg;subst hP hw hK;obtain⟨⟨⟨k,x⟩,hx⟩,hH⟩:=hg;obtain⟨vs,ep',es,hd,hex,he',hs,hkv,hdict,_⟩:=Zk I hH;have eep:ep'=ep:=by rw [he] at he';cases he';rfl
  subst eep;have hl:kvs.length=vs.length:=Wa3 hkv;obtain⟨⟨k',u⟩,hu,hk,ru⟩:=zcf hkv hx;have hk:k=k':=hk;subst hk;rw [hl] at st;obtain⟨f0,f1,f2,f3,f4,f5⟩:=hf it (by simp)
  refine wpAny_pyNext_dict_item st hdict hu fun key h' hkey st' sb=>?_
  have I1:Inv X pins σ H { s with heap:=h',toks:=s.toks }:=I.turned (fun b o hb e=>(sb.2 b hb).trans e) f0 f1 f3 f4 f5
  exact⟨_,rfl,letGo_keyiter (s':={ s with heap:=h' }) st' ⟨kV k,H,I1,zeM hkey,⟨rfl,k,x,hx,rfl⟩,by rw [hl];exact st',fun b hb=>(hf b hb).1⟩⟩
 done:=by
  intro X hP hw hK hc i pins s σ H E I hf st hg;subst hP hw hK;obtain⟨hi,hH⟩:=hg;obtain⟨vs,ep',es,hd,hex,he',hs,hkv,hdict,_⟩:=Zk I hH;have eep:ep'=ep:=by rw [he] at he';cases he';rfl
  subst eep;have hl:kvs.length=vs.length:=Wa3 hkv;rw [hl] at st hi;obtain⟨f0,f1,f2,f3,f4,f5⟩:=hf it (by simp)
  exact wpAny_pyNext_dict_end (I.ok.hd hc) st hdict (by rw [hi];exact Wao (YaY _)) fun h' eb=>⟨rfl,I.turned (t':=s.toks) (fun b o hb e=>eb b o hb e) f0 f1 f3 f4 f5⟩
 self:=fun _ _ _ _ _ st h=>wpAny_pyIter_keyiter st h
def zg2(tl:TE):TI:=fun σ H R=>tl σ H fun v H1=>∃ d o kvs,v=.ref d/\H1 d=some (.frz o (.dK kvs))/\R (Itk d o kvs) H1
theorem zek{X:Cx}{tg l:Expr}{tl:TE}(hl:PE X l tl):PI X tg l (zg2 tl):=by
 intro pins s σ H R I h;refine thn (hl pins s σ H _ I h) fun v s1 ⟨x,H1,I1,r1,q1⟩=>?_
 obtain⟨d,o,kvs,rfl,hH,q⟩:=q1;cases(show v=Value.ref d from r1)
 obtain⟨vs,ep,es,hd,hex,he,hs,hkv,hdict,_⟩:=Zk I1 hH;have hl2:kvs.length=vs.length:=Wa3 hkv;refine wpAny_pyIter_dict hs hdict ?_;refine⟨s1.heap.objs.size,[s1.heap.objs.size],_,Itk d o kvs,H1,rfl,I1.kept (t':=s1.toks) fun b o e=>YaW _ e,zhG he,⟨_,Yan _ rfl,rfl,by rw [hl2];rfl⟩,fun b hb=>?_,q⟩
 have e:b=s1.heap.objs.size:=by simpa using hb
 subst e;exact I1.fpOk (YaY _) (I1.hok.fresh (YaY _))
theorem Inv.frzK{X:Cx}{pins:List #[17]}{s:Shared}{σ : St}{H:Hp}(I:#[11]){l:Addr}{kvs:List (Key×V)}(hl:H l=some (.dK kvs)):∃ o,Inv X pins σ (upd H l (.frz o (.dK kvs))) s:=by
 obtain⟨hz,hs,vs,hp,o,es,ep,ho,hx,r⟩:=(show zI X.prog X.w H s.heap l (.dK kvs) from I.hok l _ hl)
 exact⟨o,I.write (h':=s.heap) (t':=s.toks) (e:=l) (by rw [hl];exact True.intro) (.inl rfl) (fun _ _ _ e=>e) ⟨o,ho⟩ ⟨ho,hz,hs,vs,hp,o,es,ep,ho,hx,r⟩⟩
theorem Inv.thawK{X:Cx}{pins:List #[17]}{s:Shared}{σ : St}{H:Hp}(I:#[11]){l:Addr}{o:Obj}{kvs:List (Key×V)}(hl:H l=some (.frz o (.dK kvs)))(h0:∀ o u,X.H₀ l≠some (.frz o u)):Inv X pins σ (upd H l (.dK kvs)) s:=by
 obtain⟨ho,hz,hs,vs,hp,o',es,ep,ho',hx,r⟩:=(show zI X.prog X.w H s.heap l (.frz o (.dK kvs)) from I.hok l _ hl)
 have nn:∀ b,H b=none->b≠l:=fun b e z=>by rw [z,hl] at e;cases e
 refine⟨I.ok,I.os,I.bare,⟨I.base.keep,I.base.slot,fun b ob q n hx=>?_,I.base.there,fun b xs q=>?_,fun b ob u q=>?_,fun b ps q=>?_⟩,I.loc,I.cell,?_,fun x c e=>?_,fun p h=>?_,fun b u q=>?_,I.len⟩
 . have e:=I.base.free b ob q n hx;rw [zc (nn b e)];exact e
 . have e:=I.base.tups b xs q;rw [zc #[96,hl,e]];exact e
 . have e:=I.base.frzs b ob u q;rw [zc (fun z=>by rw [z] at q;exact h0 _ _ q)];exact e
 . obtain⟨m,e⟩:=I.base.tbls b ps q;exact⟨m,by rw [zc #[96,hl,e]];exact e⟩
 . rw [zc (nn _ I.free)];exact I.free
 . rw [zc (nn _ (I.freeC x c e))];exact I.freeC x c e
 . obtain⟨a1,a2,a3⟩:=I.pin p h
   exact⟨a1,by rw [zc (nn _ a2)];exact a2,a3⟩
 . by_cases hb:b=l
   . subst hb
     rw [zf] at q;cases q;exact⟨hz,hs,vs,hp,o',es,ep,ho',hx,r⟩
   . rw [zc hb] at q
     exact(I.hok b u q).stay (fun c v _ r=>r) (fun c r=>by rw [zc #[96,hl,r]];exact r) fun c xs r=>by rw [zc #[96,hl,r]];exact r
def ZM(X:Cx)(N:List Str)(qual:Str)(scope:Scope)(f:Addr)(cd:Value)(cl:List (Str×Addr))(A:Around)(s:Shared)(H:Hp):Cx where
 prog:=X.prog
 w:=X.w
 K:=X.K
 mg:=X.mg
 base:=X.base
 A:=A.deeper (PySem.W.envX qual scope s.heap.objs.size f cd cl)
 N:=N
 s₀:=s
 H₀:=H
 env:=PySem.W.envX qual scope s.heap.objs.size f cd cl
 outer:=X.stack
 stack:=PySem.W.envX qual scope s.heap.objs.size f cd cl::X.stack
 ex:=[]
 calm:=true
 fn:=fun _=>false
 pn:=[]
 xe:=fun _ _=>False
structure LamSc(sc:Scope)(x y:Str):Prop where
 kind:sc.kind=.function
 co:sc.isCoroutine=false
 gen:sc.isGenerator=false
 nocell:∀ z∈sc.names,z.2≠.cell
 par:sc.names.lookup x=some .local
 cap:sc.names.lookup y=some .free
 only:∀ z,sc.names.lookup z=some .free->z=y
theorem LamSc.of{sc:Scope}{x y:Str}(only:(sc.names.all fun p=>(p.2 != .free||p.1==y)&&p.2 != .cell)=true)(kind:sc.kind=.function)(co:sc.isCoroutine=false)(gen:sc.isGenerator=false)(par:sc.names.lookup x=some .local)(cap:sc.names.lookup y=some .free)(_:True):LamSc sc x y where
 kind:=kind
 co:=co
 gen:=gen
 nocell:=fun z hz e=>by
  have:=WaO.mp only z hz;rw [e] at this
  simp at this
 par:=par
 cap:=cap
 only:=fun z hz=>by
  have:=WaO.mp only _ (Waq hz)
  simp at this
  exact this
theorem zdR{α β : Type}[BEq α][LawfulBEq α]{l:List (α×β)}{a:α}{b:β}(h:l.lookup a=some b):(a,b)∈l:=by
 induction l with
 | nil=>cases h
 | cons p r ih=>
  obtain⟨c,d⟩:=p;rw [List.lookup_cons] at h;cases e:a==c with
  | true=>rw [e] at h;cases h;rw [eq_of_beq e];exact .head _
  | false=>rw [e] at h;exact .tail _ (ih h)
section
variable{X:Cx}{pins:List #[17]}{σ : St}{H:Hp}{s:Shared}{x y qual:Str}{sc:Scope}{f c:Addr}{cd:Value}{A:Around}{u tu:Value}{v tv:V}
theorem zi6(S:LamSc sc x y)(hxy:x≠y)(I:#[11])(hA:A.frames=some X.stack)(hh:A.handled=none)(ru:RelV v u)(rt:RelV tv tu)(hc:s.heap.IsCell c (some tu))(hcf:H c=none){h₁ : Heap}{tk:Nat}
 (hns:h₁.Ns s.heap.objs.size fun z=>[(x,u)].reverse.lookup z) (hk:∀ b o,s.heap.get? b=some o->h₁.get? b=some o) :
 Inv (ZM X [x,y] qual sc f cd [(y,c)] A s H) [] [some v,some tv] H { s with heap:=h₁,toks:=tk }:=by
 have hcs:c<s.heap.objs.size:=by obtain⟨o,e,_⟩:=hc;exact YaX e
 have hc1:h₁.IsCell c (some tu):=by obtain⟨o,e,d⟩:=hc;exact⟨o,hk _ _ e,d⟩
 have lk:∀ z c',([(y,c)]:List (Str×Addr)).lookup z=some c'->z=y/\c'=c:=fun z c' e=>by
  have:=zdR e
  simp at this
  exact this
 have noA:∀ b:Addr,b∉(ZM X [x,y] qual sc f cd [(y,c)] A s H).ex:=fun b z=>absurd (show b∈([]:List Addr) from z) (by simp)
 refine⟨⟨I.ok.mod,S.kind,rfl,rfl,YaY _,fun a b d h1 h2=>?_,fun a ha=>?_,fun a d hf _=>absurd (show false=true from hf) (by simp),fun _=>hh,Around.frames_deeper hA,.inr ⟨rfl,rfl⟩,fun b z=>absurd z (noA b),I.bs,Ya5 I.ok.bsz I.sz,fun b _ _=>noA b,fun b z=>absurd z (noA b),I.stack,I.stkFree⟩,
  rfl,I.bare,Un.kept hk,⟨_,hns,fun i z w h1 h2 h3=>?_⟩,fun a d h=>?_,I.hok.fresh (YaY _),fun a d h=>?_,fun p hp=>absurd (show p∈([]:List #[17]) from hp) (by simp),I.hok.kept hk,rfl⟩
 . rw [(lk _ _ h1).1,(lk _ _ h2).1]
 . have ha:sc.names.lookup a=some .cell\/sc.names.lookup a=some .free:=ha
   rcases ha with ha|ha
   . exact absurd rfl (S.nocell _ (zdR ha))
   . rw [S.only a ha];exact⟨c,by show List.lookup y [(y,c)]=_;simp⟩
 . have h1:([x,y]:List Str)[i]?=some z:=h1
   match i,h1,h2 with
   | 0,h1,h2=>
    cases h1;cases h2
    exact⟨u,ru,.inl ⟨S.par,by simp⟩⟩
   | 1,h1,h2=>
    cases h1;cases h2
    exact⟨tu,rt,.inr ⟨.inr S.cap,c,by show List.lookup y [(y,c)]=_;simp,hc1⟩⟩
   | i+2,h1,h2=>simp at h1
 . have:=(lk _ _ h).2;rw [this];exact⟨_,hc1⟩
 . have:=(lk _ _ h).2;rw [this];exact hcf
theorem zjN(S:LamSc sc x y)(hxy:x≠y)(I:#[11])(hA:A.frames=some X.stack)(hh:A.handled=none)(hroom:A.depth<recursionLimit)(ru:RelV v u)(rt:RelV tv tu)(hc:s.heap.IsCell c (some tu))(hcf:H c=none)
 {params:Arguments} {body:Expr} {name:Str} {pm ctv:Value} {cd':Addr} {t:TE} {Q:VK}
 (hf:s.heap.get? f=some (PySem.W.kla_obj name qual params body sc [(y,c)] pm cd' ctv)) (hcd:s.heap.CodeRec (.ref cd') qual)
 (hbind:bindArgs (PySem.W.kla_fn name qual params body sc [(y,c)] pm (.ref cd') ctv) ⟨[u],[]⟩=pure [(x,u)])
 (hb:PE (ZM X [x,y] qual sc f (.ref cd') [(y,c)] A s H) body t) (ht:t [some v,some tv] H Q) :
 wpAny #[12] A (call (.ref f) [u]) (fun r s'=>∃ v' H',Inv X pins σ H' s'/\Un (frs X.stack) [] H H' s.heap s'.heap/\RelV v' r/\Q v' H') (fun _ _=>False) s:=by
 refine wpAny_call (PySem.W.kla_callFunE hroom hf rfl S.co S.gen rfl hcd ?_)
 rw [hbind];refine wpAny_pure (wpAny_newFunctionEnv S.nocell (fun z hz=>?_) (fun h₁ hns hsb=>⟨I.nolimit.fresh _ hsb,?_⟩) S.kind)
 . obtain rfl:z=(x,u):=Ya6.mp hz
   exact S.par
 show codeAny _ _ (.expr body (PySem.W.envX qual sc s.heap.objs.size f (.ref cd') [(y,c)])) _ _
 have hk₁ : ∀ b o,s.heap.get? b=some o->h₁.get? b=some o:=fun b o e=>hsb.extBut b o (Yaf (YaX e)) (YaW _ e)
 have I1:=zi6 (cd:=.ref cd') (f:=f) (qual:=qual) (tk:=s.toks+[(x,u)].length) S hxy I hA hh ru rt hc hcf hns hk₁;refine PySem.W.kla_codeExpr (wpAny_mono (hb [] _ _ H Q I1 ht) (fun r s' hr=>?_) fun _ _ z=>z.elim)
 obtain⟨v',H',I2,r',q⟩:=hr;exact⟨v',H',I.call' I2.os I2.base I2.hok I2.bare (fun b z=>absurd (show b∈([]:List Addr) from z) (by simp)),I2.base,r',q⟩
end
variable[LamW]
def TabS(b:Bool)(P:Addr)(H:Hp):Prop:=match b with
 | true=>H P=some (tab0 P)
 | false=>Lk P H
def MvS(b:Bool)(P:Addr)(H H1:Hp):Prop:=match b with
 | true=>(∃ c',H c'=none/\H1=upd (upd H P (tabA P c' LamW.pos)) c' (jW c' LamW.q))/\(∀ C,tab0 P≠excO P C)/\∀ q,tab0 P≠jW P q
 | false=>H1=H
theorem TabS.at{b:Bool}{P:Addr}{H:Hp}(h:TabS b P H):∃ o,H P=some o:=by
 cases b with
 | true=>exact⟨_,h⟩
 | false=>
  obtain⟨_,h,_⟩:=h;exact⟨_,h⟩
theorem MvS.x{b:Bool}{P:Addr}{H H1:Hp}(l:TabS b P H)(m:MvS b P H H1):zi H H1:=by
 cases b with
 | true=>
  obtain⟨⟨c',hc,rfl⟩,n⟩:=m;have l:H P=some (tab0 P):=l;have ne:P≠c':=#[96,hc,l]
  intro a o e;have na:a≠c':=#[96,hc,e]
  by_cases h:a=P
  . subst h
    rw [l] at e;cases e;exact .inr ⟨rfl,n,c',by rw [zc ne,zf],zf⟩
  . exact .inl (by rw [zc na,zc h];exact e)
 | false=>
  cases(show H1=H from m)
  exact zi.refl _
theorem zl3{P:Addr}{h:Heap}(hp:h.get? P=some (PySem.W.tabObj #[])):(∀ C,tab0 P≠excO P C)/\∀ q,tab0 P≠jW P q:=by
 refine⟨fun C z=>?_,fun q z=>?_⟩
 . have e:(fun h:Heap=>h.get? P=some (PySem.W.tabObj #[]))=fun h=>∃ o vs,h.get? P=some o/\o.cls=.ref C/\o.data=.fields vs:=HO.ext.inj z
   have y:=(congrFun e h).mp hp;obtain⟨o,vs,h1,h2,_⟩:=y;rw [hp] at h1;cases h1;cases h2
 . have e:(fun h:Heap=>h.get? P=some (PySem.W.tabObj #[]))=fun h=>h.CodeRec (.ref P) q:=HO.ext.inj z
   have y:=(congrFun e h).mp hp;obtain⟨c2,oc,vs,t,e2,ho,hd,hv⟩:=y;cases e2;rw [hp] at ho;cases ho;cases hd;simp at hv
theorem zie{P:Program}{w:World}{H:Hp}{h:Heap}{c':Addr}{q:Str}(r:h.CodeRec (.ref c') q):zI P w H h c' (jW c' q):=by
 obtain⟨c2,oc,vs,t,e,ho,hd,hv⟩:=id r;cases e;exact⟨r,⟨oc,ho⟩,fun h1 h2 ⟨c2,oc,vs,t,e,ho,hd,hv⟩ k=>by cases e;exact⟨_,oc,vs,t,rfl,k _ ho,hd,hv⟩⟩
section
variable{X:Cx}{pins:List #[17]}{σ : St}{H:Hp}{s:Shared}{sc:Scope}{A:Around}{b:Bool}
theorem zhy(I:#[11]){P:Addr}{c0:Addr}{params:Arguments}{body:Expr}{pos:Pos}{clos:List (Str×Addr)}(hpos:pos=LamW.pos)(hqn:X.env.qual ++ "<lambda>" = LamW.q){Q:#[13]}{E:#[13]}
 (hP:TabS b P H) (hC:PySem.W.CodeHd X.base c0 P) (hcode:X.env.code=.ref c0) (hB:∃ bm o,X.mg "__builtins__" = some (.ref bm)/\bm≠builtinsNs/\bm≠mainGlobals/\X.base.get? bm=some o/\o.cls=.type "module"/\o.dict=some builtinsNs/\o.data=.plain)
 (hdef:defaultsOf params X.env=([],[])) (hcl:closureFor sc X.env=pure clos)
 (h:∀ f c' ctv s' H1,MvS b P H H1->H1 c'=some (jW c' (X.env.qual ++ "<lambda>"))->s.heap.objs.size<=f->
  Inv X (pins++[(f,PySem.W.kla_obj "<lambda>" (X.env.qual ++ "<lambda>") params body sc clos ((X.mg "__name__").getD .none) c' ctv)]) σ H1 s'->Q (.ref f) s') :
 wpAny #[12] A (eval (.Lambda params body sc pos) X.env) Q E s:=by
 have hPn:∃ o,H P=some o:=hP.at;have ne0:∀ b o,X.base.get? b=some o->b≠P:=fun b o e z=>by
  have:=(I.bs b o e).2;obtain⟨u,hu⟩:=hPn;rw [z,hu] at this;cases this
 have hg:=I.ok.mod.glob.keeps I.bk;have hgP:mainGlobals≠P:=by
  obtain⟨o,es,ep,e,_⟩:=I.ok.mod.glob;exact ne0 _ _ e
 obtain⟨bm,ob,b1,b2,b3,b4,b5⟩:=hB;cases b with
 | true=>
  have hP:H P=some (tab0 P):=hP;obtain⟨hp0,_,_⟩:=I.hok P _ hP;have hp0:s.heap.get? P=some (PySem.W.tabObj #[]):=hp0;refine PySem.W.kla_eval hdef (PySem.W.kla_makeFunction (mg:=X.mg) hcl I.ok.glob hg hcode (hC.keeps I.bk) hp0 trivial rfl hgP ⟨bm,ob,b1,b2,b3,ne0 _ _ b4,I.bk _ _ b4,b5⟩ fun c' ctv h' tk hx hge hlt hrec htb=>?_)
  have hk:∀ (o:Obj) b u,b≠P->s.heap.get? b=some u->(h'.push o).get? b=some u:=fun o b u hb e=>YaW _ (hx b u hb e)
  have hPlt:P<s.heap.objs.size:=YaX hp0;have hsz:s.heap.objs.size<=h'.objs.size:=Wbc (Was hge hlt);have htb2:∀ o:Obj,(h'.push o).get? P=some (PySem.W.tabObj #[rawInt pos.line,rawInt pos.col,.ref c']):=fun o=>YaW _ (by simpa using htb)
  have I1:Inv X pins σ (upd H P (tabA P c' pos)) { s with heap:=h'.push (PySem.W.kla_obj "<lambda>" (X.env.qual ++ "<lambda>") params body sc clos ((X.mg "__name__").getD .none) c' ctv),toks:=tk }:=
   I.write (by rw [hP];trivial) (.inl rfl) (fun b u hb e=>hk _ b u hb e) ⟨_,htb2 _⟩ ⟨⟨_,htb2 _,by simpa using TriplesOk_snoc pos.line pos.col (.ref c') [] trivial,by simpa using codeAmong_snoc (pos:=pos) (c:=.ref c') [] trivial rfl⟩,⟨_,htb2 _⟩,fun h1 h2 ⟨ps,e,r⟩ k=>⟨ps,k _ e,r⟩⟩
  have hcn:H c'=none:=I.hok.fresh hge;have hcn1:upd H P (tabA P c' pos) c'=none:=by rw [zc (Wbd (YaU hPlt hge))];exact hcn
  have I2:=I1.track (o:=jW c' (X.env.qual ++ "<lambda>")) hcn1 (Ya5 I.sz hge) (Wbd (YaU I.lt hge)) (fun z c e q=>by
   obtain⟨v,o,ho,_⟩:=I.cell z c e;exact absurd (YaU (YaX ho) hge) (by rw [q];exact Yap _))
   (fun p hp q=>absurd (YaU (YaX (I.pin p hp).1) hge) (by rw [q];exact Yap _)) (zie (by
    obtain⟨c2,oc,vs,t,e,ho,hd,hv⟩:=hrec;cases e;exact⟨_,oc,vs,t,rfl,YaW _ ho,hd,hv⟩))
  have hfn:upd (upd H P (tabA P c' pos)) c' (jW c' (X.env.qual ++ "<lambda>")) h'.objs.size=none:=by
   rw [zc (Wbd hlt),zc (Wbd (YaU hPlt hsz))];exact I.hok.fresh hsz
  refine h h'.objs.size c' ctv _ _ ⟨⟨c',hcn,by rw [hqn,hpos]⟩,zl3 hp0⟩ zf hsz (I2.pins_of fun p hp=>?_)
  rcases Ya3.mp hp with hp|hp
  . exact I2.pin p (Yaa _ hp)
  . obtain rfl:=Ya6.mp hp
    exact⟨Yan _ rfl,hfn,Wbd (YaU I.lt hsz),I.nofs hsz,fun v z=>by cases z⟩
 | false=>
  obtain⟨c',hP,hc'⟩:=hP;rw [<-hpos] at hP;rw [<-hqn] at hc';obtain⟨⟨ps,hp0,ht,hf⟩,_,_⟩:=I.hok P _ hP;refine PySem.W.kla_eval hdef (PySem.W.kla_makeFunctionHit (mg:=X.mg) hcl I.ok.glob hg hcode (hC.keeps I.bk) hp0 ht hf ⟨bm,ob,b1,b2,b3,ne0 _ _ b4,I.bk _ _ b4,b5⟩ fun ctv h' tk hk hsz=>?_)
  have I1:Inv X pins σ H { s with heap:=h'.push (PySem.W.kla_obj "<lambda>" (X.env.qual ++ "<lambda>") params body sc clos ((X.mg "__name__").getD .none) c' ctv),toks:=tk }:=I.kept (t':=tk) fun b o e=>YaW _ (hk b o e)
  refine h h'.objs.size c' ctv _ H rfl hc' hsz (I1.pins_of fun p hp=>?_)
  rcases Ya3.mp hp with hp|hp
  . exact I1.pin p (Yaa _ hp)
  . obtain rfl:=Ya6.mp hp
    exact⟨Yan _ rfl,I.hok.fresh hsz,Wbd (YaU I.lt hsz),I.nofs hsz,fun v z=>by cases z⟩
end
end L2
namespace L3
open PySem PySem.Spec PyProof.Rows L2
variable[LamW]
def BMod(mg:#[15])(base:Heap):Prop:=∃ bm o,mg "__builtins__" = some (.ref bm)/\bm≠builtinsNs/\bm≠mainGlobals/\base.get? bm=some o/\o.cls=.type "module"/\o.dict=some builtinsNs/\o.data=.plain
structure LamIn(X:Cx)(P c0 cy:Addr)(x y:Str)(it:Nat)(params:Arguments)(body:Expr)(sc:Scope):Prop where
 S:LamSc sc x y
 ne:x≠y
 ix:X.N[it]?=some y
 kd:X.env.kindOf y=some .cell
 lk:X.env.cells.lookup y=some cy
 hd:PySem.W.CodeHd X.base c0 P
 code:X.env.code=.ref c0
 bm:BMod X.mg X.base
 defs:defaultsOf params X.env=([],[])
 clos:closureFor sc X.env=pure [(y,cy)]
 bind:∀ pm cd ctv u,bindArgs (PySem.W.kla_fn "<lambda>" (X.env.qual ++ "<lambda>") params body sc [(y,cy)] pm cd ctv) ⟨[u],[]⟩=pure [(x,u)]
def spU(P:Addr)(K:Ybf)(sp:Sp3):Sp:=fun vs H Q E=>TabU P H/\spL K sp vs H Q E
structure DfU(tb:Addr)(P:Program)(w:World)(K:Ybf)(mg:#[15])(base:Heap)(k:Nat)(x:Str)(ps:List Str)(sp:Sp3):Prop where
 mono:∀ ds (Q Q':Bool->D->Prop) (E E':Addr->Prop),(∀ f d,Q f d->Q' f d)->(∀ d,E d->E' d)->sp ds Q E->sp ds Q' E'
 ok:Df P w K mg base k x ps (spU tb K sp)
theorem fnU{P:Program}{w:World}{K:Ybf}{mg:#[15]}{base:Heap}{x qual:Str}{st:Stmt}{f tb:Addr}{fd:FuncData}{N ps:List Str}{k:Nat}{sp:Sp3}{cv:Value->Prop}(F:Fun K x qual st f fd)(hcv:cv fd.code)(S:FnScope N ps (zh st))(len:∀ ds Q E,sp ds Q E->ds.length=ps.length)
 (hbody:∀ (cdv:Value) (A:Around) (outer:List Env) (s:Shared) (H:Hp) (E:XK) (E3:Addr->Prop),cv cdv->TabU tb H->(∀ C H',E3 C->zi H H'->E (.ref C) none H')->Room k (A.deeper (envOfC qual (zh st) s.heap.objs.size f cdv))->
  ∃ t,PSs3 (cxOf (CXR P w) P w K mg base N qual (zh st) f cdv A outer s H E) H (jI st) t/\∀ ds Q,sp ds Q E3->t { nx:=fun _=>Q true .none,rt:=Q } (jO N ds)):FnOk P w K mg base (CXR P w) (k+1) f fd ps (spU tb K sp):=by
 obtain⟨oc,od,kV,doc,pm,an,cdv,ct,osl,rfl,lk,hcd⟩:=F.ex;have hcv:cv cdv:=hcv;refine zbm lk hcd S (fun vs H Q E h=>?_) (fun A outer s H vs Q E hr h=>?_)
 . obtain⟨_,G,ds,_,r,h⟩:=h
   rw [r.length];exact len _ _ _ h
 . obtain⟨tu,G,ds,sG,r,h⟩:=h
   obtain⟨t,ht,hq⟩:=hbody cdv A outer s H E (fun C=>∀ H',zi H H'->E (.ref C) none H') hcv tu (fun C H' e z=>e H' z) hr
   exact⟨_,ht,G,_,jO N ds,G,zf0 sG r,hq ds _ h,⟨fun ρ σ G' H' F' q=>q .non G' H' F'.gr0 (.sc rfl .non),fun f d v G' H' g rd q=>q v G' H' g rd,fun _ _ _ _ _ q=>q.elim,fun _ _ _ _ _ q=>q.elim,fun _ _ _ _ _ _ _ _ _ q=>q.elim⟩⟩
end L3
namespace L2
open PySem PySem.Spec PyProof.Rows
section
variable{prog:Program}{w:World}{A:Around}{E:#[13]}{l q I S:Addr}{N:Nat}{Rv:Nat->Value->Prop}{R:Result->Shared->Prop}{Q:#[13]}
def Best(kf:Nat->Int)(n i:Nat):Prop:=∀ j,j<n->kf i<=kf j/\(j<i->kf i<kf j)
structure MinJ(prog:Program)(w:World)(A:Around)(l q:Addr)(N:Nat)(Rv:Nat->Value->Prop)(kf:Nat->Int)(I S:Addr)(J:Shared->Prop):Prop where
 list:∀ s,J s->∃ vs:List Value,vs.length=N/\s.heap.IsList l vs.toArray/\∀ i v,vs[i]?=some v->Rv i v
 own:∀ b s h' tk',J s->b=I\/b=S->(∀ c o,c≠b->s.heap.get? c=some o->h'.get? c=some o)->J { s with heap:=h',toks:=tk' }
 turn:∀ i v s,i<N->Rv i v->J s->(∃ o,s.heap.get? I=some o)->(∃ o,s.heap.get? S=some o)->
  wpAny (model prog w) A (call (.ref q) [v]) (fun x s'=>(∃ t,x=.int (kf i) t)/\J s'/\s'.heap.get? I=s.heap.get? I/\s'.heap.get? S=s.heap.get? S) (fun _ _=>False) s
theorem zlA{kf:Nat->Int}{J:Shared->Prop}(hh:A.handled=none)(hlI:l≠I)(hSI:S≠I)(M:MinJ prog w A.in1 l q N Rv kf I S J)(hR:∀ i v s,i<N->Rv i v->Best kf N i->J s->R (.ok (.ret v)) s) :
 ∀ (r j i:Nat) (s:Shared) (vb:Value) (tb:Tok) (c:Nat),N - (j+1)=r->j+1<=N->J s->s.heap.get? S=some (seqObj "list" #[vb,.int (kf i) tb] c)->s.heap.IsListIter I l (j+1)->Rv i vb->i<=j->Best kf (j+1) i->
  codeAny (model prog w) A (.builtin "min.loop" ⟨[.ref I,.ref q,.ref S],[]⟩) R s:=by
 have hname:(toString "min" ++ toString ".loop" : String) = "min.loop":=#[1]
 intro r
 induction r with
 | zero=>
  intro j i s vb tb c hr hj hJ hS hit hvb hij hbest;have hin:j+1=N:=#[0]
  obtain⟨vs,hvl,hl,hvr⟩:=M.list _ hJ;have W:=Walks.list (prog:=prog) (w:=w) (A:=A.in1) hh I l hlI vs.toArray;have hsz:vs.toArray.size=vs.length:=YaZ ..;refine codeAny_builtin Wam ?_;rw [Around.under_plainId Wan _];show wpAny _ A.in1 (seqItems? (.ref S) >>= _) _ _ _;refine wpAny_bind (wpAny_seqItems hS rfl ?_);show wpAny _ A.in1 (tryCatch (pyNext (.ref I)) _ >>= _) _ _ _
  refine wpAny_bind (wpAny_tryCatch (W.done _ _ _ ⟨by rw [hsz,hvl,<-hin];exact hit,hl⟩ fun h' tk' hk'=>?_))
  have J1:=M.own I s h' tk' hJ (.inl rfl) fun b o n e=>hk' b o (by simpa using n) e
  have s1:=Heap.SameBut.update h' S (Obj.mapSeq fun _=>(#[]:Array Value))
  show wpAny _ A.in1 (updateSeq S (fun _=>#[]) >>= _) _ _ _
  refine wpAny_bind ?_
  refine wpAny_updateSeq (hk' S _ (by simpa using hSI) hS) rfl (wpAny_bind (wpAny_letGo (wpAny_pure ?_)))
  exact hR i vb _ #[0] hvb (hin ▸ hbest) (M.own S _ _ _ J1 (.inr rfl) fun b o n e=>(s1.2 b n).trans e)
 | succ r ih=>
  intro j i s vb tb c hr hj hJ hS hit hvb hij hbest;have hlt:j+1<N:=#[0]
  obtain⟨vs,hvl,hl,hvr⟩:=M.list _ hJ;have W:=Walks.list (prog:=prog) (w:=w) (A:=A.in1) hh I l hlI vs.toArray;have hsz:vs.toArray.size=vs.length:=YaZ ..;refine codeAny_builtin Wam ?_;rw [Around.under_plainId Wan _];show wpAny _ A.in1 (seqItems? (.ref S) >>= _) _ _ _;refine wpAny_bind (wpAny_seqItems hS rfl ?_);show wpAny _ A.in1 (tryCatch (pyNext (.ref I)) _ >>= _) _ _ _
  refine wpAny_bind (wpAny_tryCatch (W.item (j+1) _ _ _ (by rw [hsz,hvl];exact hlt) ⟨hit,hl⟩ fun v h' tk' hP hst' hk'=>?_))
  have hv:Rv (j+1) v:=hvr _ _ (by simpa using hP)
  obtain⟨oI',hoI',hoc,hod⟩:=id hst'.1;have J1:=M.own I s h' tk' hJ (.inl rfl) fun b o n e=>hk' b o (by simpa using n) e
  have hS1:=hk' S _ (by simpa using hSI) hS
  show wpAny _ A.in1 (tryCatch (holding [v] (call (.ref q) [v])) _ >>= _) _ _ _
  refine wpAny_bind (wpAny_tryCatch (wpAny_holding (wpAny_mono (M.turn (j+1) v _ hlt hv J1 ⟨_,hoI'⟩ ⟨_,hS1⟩) (fun x s2 he=>?_) fun _ _ hF=>hF.elim)))
  obtain⟨⟨t2,rfl⟩,J2,eI,eS⟩:=he;have hI2:=eI.trans hoI';have hS2:=eS.trans hS1;show wpAny _ A.in1 (tryCatch (holding [v,.int (kf (j+1)) t2] (richCompare .Lt (.int (kf (j+1)) t2) (.int (kf i) tb) >>= _)) _ >>= _) _ _ _;refine wpAny_bind (wpAny_tryCatch (wpAny_holding (wpAny_bind (CmpOf.ints_lt (prog:=prog) (w:=w) (A:=A.in1) (P:=fun i v=>∃ t,v=.int (kf i) t) kf (fun i v h=>h) (j+1) i _ _ _ _ _ ⟨t2,rfl⟩ ⟨tb,rfl⟩ ?_))))
  refine wpAny_bind (wpAny_holding (wpAny_truthy_bool ?_))
  refine wpAny_bind (wpAny_letGo (wpAny_pure ?_))
  by_cases hb':kf (j+1)<kf i
  . have s1:=Heap.SameBut.update s2.heap S (Obj.mapSeq fun _=>#[v,.int (kf (j+1)) t2])
    obtain⟨c2,hc2⟩:∃ c2,(s2.heap.update S (Obj.mapSeq fun _=>#[v,.int (kf (j+1)) t2])).get? S=some (seqObj "list" #[v,.int (kf (j+1)) t2] c2):=⟨_,get?_update_seq hS2 fun _=>#[v,.int (kf (j+1)) t2]⟩
    simp only [hb',decide_true,if_true];refine wpAny_bind ?_;refine wpAny_updateSeq hS2 rfl (wpAny_bind (wpAny_letGo ?_));rw [hname];refine wpAny_pure ⟨plainId_quiet Wan _,ih (j+1) (j+1) _ v t2 c2 #[0] hlt (M.own S _ _ _ J2 (.inr rfl) fun b o n e=>(s1.2 b n).trans e) hc2 ⟨oI',(s1.2 I hSI.symm).trans hI2,hoc,hod⟩ hv (YaY _) fun j' hj'=>?_⟩
    by_cases e:j'=j+1
    . subst e
      exact⟨#[0],fun _=>by omega⟩
    . have hb1:=(hbest j' #[0]).1
      exact⟨#[0],fun _=>by omega⟩
  . simp only [hb',decide_false,Wat,if_false]
    refine wpAny_bind (wpAny_letGo ?_)
    rw [hname];refine wpAny_pure ⟨plainId_quiet Wan _,ih (j+1) i _ vb tb c #[0] hlt J2 hS2 ⟨oI',hI2,hoc,hod⟩ hvb #[0] fun j' hj'=>?_⟩
    by_cases e:j'=j+1
    . subst e
      exact⟨#[0],fun _=>by omega⟩
    . exact hbest j' #[0]
theorem zky{s:Shared}{kf:Nat->Int}{J:Addr->Addr->Shared->Prop}(hh:A.handled=none){vs0:List Value}(hl:s.heap.IsList l vs0.toArray)(hne:0<N)
 (M:∀ I S,s.heap.objs.size<=I->I<S->MinJ prog w A.in1 l q N Rv kf I S (J I S))
 (h0:∀ I S h',(∀ b o,s.heap.get? b=some o->h'.get? b=some o)->s.heap.objs.size<=I->I<S->J I S { s with heap:=h' })
 (hQ:∀ I S i v s',i<N->Rv i v->Best kf N i->J I S s'->Q v s') :
 wpAny (model prog w) A (call (.builtin "min") [.ref l] [(Str.ofString "key", .ref q)]) Q E s:=by
 have hname:(toString "min" ++ toString ".loop" : String) = "min.loop":=#[1]
 obtain⟨ol,hol,_⟩:=id hl;have hlI:l≠s.heap.objs.size:=Yaf (YaX hol);refine kmk_tree PySem.F.kind_min PySem.F.plain_min PySem.F.entry_min (kmk_min_key _ _) ?_;show wpAny _ A.in1 (Builtin.Builtins.bindParams "min" ["key", "default"] 0 ⟨[],[(Str.ofString "key", .ref q)]⟩ >>= _) _ _ s;refine wpAny_bind (wpAny_of_eq (show Builtin.Builtins.bindParams "min" ["key", "default"] 0 ⟨[],[(Str.ofString "key", .ref q)]⟩=pure [some (.ref q),none] from rfl) ?_)
 refine wpAny_bind (wpAny_pure ?_)
 refine wpAny_bind (wpAny_pyIter_list hl ?_)
 refine wpAny_bind (wpAny_newList ?_ (Wbl _))
 rw [hname];have hS:(s.heap.push { cls:=.type "list_iterator", data:=.fields #[.ref l,.int 0 0] }).objs.size=s.heap.objs.size+1:=size_push' ..;have hSI:(s.heap.push { cls:=.type "list_iterator", data:=.fields #[.ref l,.int 0 0] }).objs.size≠s.heap.objs.size:=by rw [hS];exact Wbd (WaM _)
 refine wpAny_pure ⟨plainId_quiet Wan _,?_⟩
 have M:=M s.heap.objs.size (s.heap.push { cls:=.type "list_iterator", data:=.fields #[.ref l,.int 0 0] }).objs.size (YaY _) (by rw [hS];exact WaM _)
 have J0:=h0 s.heap.objs.size (s.heap.push { cls:=.type "list_iterator", data:=.fields #[.ref l,.int 0 0] }).objs.size ((s.heap.push { cls:=.type "list_iterator", data:=.fields #[.ref l,.int 0 0] }).push (seqObj "list" #[] 0)) (fun b x e=>YaW _ (YaW _ e)) (YaY _) (by rw [hS];exact WaM _)
 have gI:((s.heap.push { cls:=.type "list_iterator", data:=.fields #[.ref l,.int 0 0] }).push (seqObj "list" #[] 0)).get? s.heap.objs.size=some { cls:=.type "list_iterator", data:=.fields #[.ref l,.int 0 0] }:=
  YaW _ (Yan _ rfl)
 have gS:((s.heap.push { cls:=.type "list_iterator", data:=.fields #[.ref l,.int 0 0] }).push (seqObj "list" #[] 0)).get? (s.heap.push { cls:=.type "list_iterator", data:=.fields #[.ref l,.int 0 0] }).objs.size=some (seqObj "list" #[] 0):=Yan _ rfl;generalize (s.heap.push { cls:=.type "list_iterator", data:=.fields #[.ref l,.int 0 0] }).objs.size=S at *;generalize (s.heap.push { cls:=.type "list_iterator", data:=.fields #[.ref l,.int 0 0] }).push (seqObj "list" #[] 0)=hp at *
 generalize hI:s.heap.objs.size=I at *;obtain⟨vs,hvl,hl,hvr⟩:=M.list _ J0;have W:=Walks.list (prog:=prog) (w:=w) (A:=A.in1) hh I l hlI vs.toArray;have hsz:vs.toArray.size=vs.length:=YaZ ..;refine codeAny_builtin Wam ?_;rw [Around.under_plainId Wan _];show wpAny _ A.in1 (seqItems? (.ref S) >>= _) _ _ _;refine wpAny_bind (wpAny_seqItems gS rfl ?_)
 show wpAny _ A.in1 (tryCatch (pyNext (.ref I)) _ >>= _) _ _ _
 refine wpAny_bind (wpAny_tryCatch (W.item 0 _ _ _ (by rw [hsz,hvl];exact hne) ⟨⟨_,gI,rfl,rfl⟩,hl⟩ fun v h' tk' hP hst' hk'=>?_))
 have hv:Rv 0 v:=hvr _ _ (by simpa using hP)
 obtain⟨oI',hoI',hoc,hod⟩:=id hst'.1;have J1:=M.own I _ h' tk' J0 (.inl rfl) fun b o n e=>hk' b o (by simpa using n) e
 have hS1:=hk' S _ (by simpa using hSI) gS
 show wpAny _ A.in1 (tryCatch (holding [v] (call (.ref q) [v])) _ >>= _) _ _ _
 refine wpAny_bind (wpAny_tryCatch (wpAny_holding (wpAny_mono (M.turn 0 v _ hne hv J1 ⟨_,hoI'⟩ ⟨_,hS1⟩) (fun x s2 he=>?_) fun _ _ hF=>hF.elim)))
 obtain⟨⟨t2,rfl⟩,J2,eI,eS⟩:=he;have hI2:=eI.trans hoI';have hS2:=eS.trans hS1;have s1:=Heap.SameBut.update s2.heap S (Obj.mapSeq fun _=>#[v,.int (kf 0) t2])
 obtain⟨c2,hc2⟩:∃ c2,(s2.heap.update S (Obj.mapSeq fun _=>#[v,.int (kf 0) t2])).get? S=some (seqObj "list" #[v,.int (kf 0) t2] c2):=⟨_,get?_update_seq hS2 fun _=>#[v,.int (kf 0) t2]⟩
 show wpAny _ A.in1 (updateSeq S (fun _=>#[v,.int (kf 0) t2]) >>= _) _ _ _
 refine wpAny_bind ?_
 refine wpAny_updateSeq hS2 rfl ?_
 rw [hname];refine wpAny_pure ⟨plainId_quiet Wan _,zlA hh hlI hSI M (fun i v s' a b c d=>hQ I S i v s' a b c d) _ 0 0 _ v t2 c2 rfl hne (M.own S _ _ _ J2 (.inr rfl) fun b o n e=>(s1.2 b n).trans e) hc2 ⟨oI',(s1.2 _ hSI.symm).trans hI2,hoc,hod⟩ hv (YaY _) fun j' hj'=>?_⟩
 have e:j'=0:=#[0]
 subst e;exact⟨#[0],fun h=>absurd h (Yap _)⟩
end
end L2
namespace L3
open PySem PySem.Spec PyProof.Rows L2
variable[LamW]
def rMin(P:Addr)(it:Nat)(tb:TE)(σ : L2.St)(Q:VK):V->Hp->Prop:=fun v H1=>TabU P H1/\∃ (l:Addr) (ns:List Int) (tv:V) (g:Int->Int),v=.ref l/\H1 l=some (.lst (ns.map .int))/\0<ns.length/\σ[it]?=some (some tv)/\
 (∀ n∈ns,∀ H2,zi H1 H2->tb [some (.int n),some tv] H2 fun v' H'=>v'=.int (g n)/\zi H2 H')/\∀ n H2,n∈ns->(∀ m∈ns,g n<=g m)->zi H1 H2->Q (.int n) H2
def zjU(P:Addr)(it:Nat)(tl tb:TE):TE:=fun σ H Q=>tl σ H (rMin P it tb σ Q)
def one1(r:V->Hp->Prop):List V->Hp->Prop:=fun vs H=>match vs with
 | [v]=>r v H
 | _=>False
section
variable{X:Cx}{P c0 cy:Addr}{x y:Str}{it k:Nat}{sc:Scope}{params:Arguments}{elt body:Expr}{gens:List Comprehension}{csc:Scope}{cp:Pos}{tl tb:TE}{np kp lp cpos:Pos}
theorem zkw(hpos:lp=LamW.pos)(hqn:X.env.qual ++ "<lambda>" = LamW.q)(L:LamIn X P c0 cy x y it params body sc)(hr:Room (k+2) X.A)(hl:PE X (.ListComp elt gens csc cp) tl)
 (hb:∀ f cd' s H',Room k (ZM X [x,y] (X.env.qual ++ "<lambda>") sc f cd' [(y,cy)] X.A.in1 s H').A->PE (ZM X [x,y] (X.env.qual ++ "<lambda>") sc f cd' [(y,cy)] X.A.in1 s H') body tb)
 (hg:Gl X "min") (hm:X.mg "min" = none):PE X (.Call (.Name "min" np) [.ListComp elt gens csc cp] [⟨some "key", .Lambda params body sc lp,kp⟩] cpos) (zjU P it tl tb):=by
 intro pins s σ H Q I hyp;refine wpAny_Call_Name_kw (JE I hg hm (show bootBuiltins "min" = some (.builtin "min") by rfl) ?_)
 refine callWith_kw ?_
 refine thn ((zm hl zK) cpos pins s σ H (one1 (rMin P it tb σ Q)) I hyp) fun us s1 h1=>?_
 obtain⟨vs,H1,I1,rv,e1⟩:=h1
 match vs,rv,e1 with
 | [],_,e1=>exact e1.elim
 | _::_::_,_,e1=>exact e1.elim
 | [v],rv,e1=>
 have e1:rMin P it tb σ Q v H1:=e1;obtain⟨tu,l,ns,tv,g,rfl,hl1,hne,htσ,hkey,cont⟩:=e1;obtain rfl:us=[.ref l]:=by
  cases rv with
  | cons a b=>cases b;cases a;rfl
 obtain⟨b,hPH⟩:∃ b,TabS b P H1:=tu.elim (fun h=>⟨true,h⟩) fun h=>⟨false,h⟩
 show wpAny _ _ (evalAll [do let v <-eval (.Lambda params body sc lp) X.env;standAt cpos;pure v]) _ _ s1
 refine wpAny_evalAll_cons (wpAny_bind (zhy I1 hpos hqn hPH L.hd L.code L.bm L.defs L.clos fun fa c' ctv s2 HM mv hcH hf I2=>wpAny_bind (wpAny_standAt (wpAny_pure (wpAny_evalAll_nil ?_)))))
 show wpAny _ _ (call (.builtin "min") [.ref l] [(Str.ofString "key", .ref fa)]) _ _ s2
 have mx:zi H1 HM:=MvS.x hPH mv;have hlM:HM l=some (.lst (ns.map .int)):=mx.at hl1;obtain⟨its,rV,hpl,hz⟩:=I2.list (SqL.of hlM);have hl2:its.length=ns.length:=by rw [<-rV.length,YaR]
 have nw:∀ b:Addr,s2.heap.objs.size<=b->X.s₀.heap.objs.size<=b/\b≠X.env.locals/\(∀ z c,X.env.cells.lookup z=some c->c≠b)/\(∀ p∈X.pn++(pins++[(fa,PySem.W.kla_obj "<lambda>" (X.env.qual ++ "<lambda>") params body sc [(y,cy)] ((X.mg "__name__").getD .none) c' ctv)]),p.1≠b)/\b∉frs X.stack:=fun b hb=>by
  refine⟨Ya5 I2.sz hb,Wbd (YaU I2.lt hb),fun z c e=>?_,fun p hp=>?_,fun z=>?_⟩
  . obtain⟨v,o,ho,_⟩:=I2.cell z c e
    exact Yaf (YaU (YaX ho) hb)
  . exact Yaf (YaU (YaX (I2.pin p hp).1) hb)
  . rcases Wa4.mp (I2.stkSub b z) with q|q
    . exact Wbd (YaU I2.lt hb) q
    . exact I2.nofs hb q
 have lst:∀ {H':Hp} {s':Shared} {pl:List #[17]},Inv X pl σ H' s'->zi HM H'->∃ vs:List Value,vs.length=ns.length/\s'.heap.IsList l vs.toArray/\∀ i v,vs[i]?=some v->RelV (.int (ns.getD i 0)) v:=fun I' sm=>by
  obtain⟨its',rV',hpl',_⟩:=I'.list (SqL.of (sm.at hlM));have hl3:its'.length=ns.length:=by rw [<-rV'.length,YaR]
  refine⟨its',hl3,hpl'.isList,fun i v hv=>?_⟩
  have hi:i<ns.length:=by rw [<-hl3];exact(Ya8.mp hv).1
  obtain⟨u,hu,ru⟩:=rV'.get (i:=i) (x:=.int ns[i]) (by rw [Ya0,YaQ hi];rfl)
  rw [hv] at hu;cases hu;rw [YaP,YaQ hi];exact ru
 refine zky (N:=ns.length) (Rv:=fun i v=>RelV (.int (ns.getD i 0)) v) (q:=fa) (kf:=fun i=>g (ns.getD i 0))
  (J:=fun D kS s'=>∃ H',Inv X (pins++[(fa,PySem.W.kla_obj "<lambda>" (X.env.qual ++ "<lambda>") params body sc [(y,cy)] ((X.mg "__name__").getD .none) c' ctv)]) σ H' s'/\zi HM H'/\H' D=none/\H' kS=none)
  hr.hd hpl.isList hne (fun D kS hD hlt=>?_) (fun D kS h' hk hD hlt=>?_) (fun D kS i v s' hi ru hbest hJ=>?_)
 . have hkS:s2.heap.objs.size<=kS:=Ya5 hD (Wbc hlt)
   refine⟨fun s' ⟨H',I',sm,_⟩=>lst I' sm,fun b s' h' tk' hJ hb sb=>?_,fun i v s' hi ru hJ hoD hoK=>?_⟩
   . obtain⟨H',I',sm,n1,n2⟩:=hJ
     have hbb:H' b=none/\s2.heap.objs.size<=b:=by
      rcases hb with rfl|rfl
      . exact⟨n1,hD⟩
      . exact⟨n2,hkS⟩
     obtain⟨w1,w2,w3,w4,_⟩:=nw b hbb.2;exact⟨H',I'.turned (t':=tk') (fun c o ne e=>sb c o ne e) hbb.1 w2 (.inr w1) w3 w4,sm,n1,n2⟩
   . obtain⟨H',I',sm,n1,n2⟩:=hJ
     obtain⟨oD,eD⟩:=hoD;obtain⟨oK,eK⟩:=hoK;have hnm:ns.getD i 0∈ns:=by rw [YaP,YaQ hi];exact Ya4 hi
     have ru:RelV (.int (ns.getD i 0)) v:=ru;obtain⟨m,hns,hloc⟩:=id I'.loc;obtain⟨tu,rt,lk⟩:=hloc it y tv L.ix htσ (.inr (.inl L.kd));have hcell:s'.heap.IsCell cy (some tu):=by
      rcases lk with ⟨z,_⟩|⟨_,c,hc,z⟩
      . rw [L.kd] at z;cases z
      . rw [L.lk] at hc;cases hc;exact z
     have hfo:=(I'.pin (fa,PySem.W.kla_obj "<lambda>" (X.env.qual ++ "<lambda>") params body sc [(y,cy)] ((X.mg "__name__").getD .none) c' ctv) (by simp)).1
     have hco:s'.heap.CodeRec (.ref c') (X.env.qual ++ "<lambda>"):=(I'.hok c' _ (sm.code hcH)).1;have hrm:Room (k+1) X.A.in1:=hr.in1;have pb:=hb fa (.ref c') s' H' (hrm.deeper _);refine wpAny_mono (zjN (A:=X.A.in1) L.S L.ne I' I'.ok.frames hrm.hd hrm.depth ru rt hcell (I'.freeC y cy L.lk) hfo hco (L.bind _ _ _ _) pb (hkey _ hnm H' (mx.trans sm))) (fun r s'' hr'=>?_) fun _ _ z=>z
     obtain⟨v',H'',I'',un,rv',rfl,hS⟩:=hr';obtain⟨t,rfl⟩:=rv';exact⟨⟨t,rfl⟩,⟨H'',I'',sm.trans hS,un.free D oD eD n1 (by simp),un.free kS oK eK n2 (by simp)⟩,(un.keep D oD eD n1 (nw D hD).2.2.2.2 (by simp)).trans eD.symm,(un.keep kS oK eK n2 (nw kS hkS).2.2.2.2 (by simp)).trans eK.symm⟩
 . exact⟨_,I2.kept (t':=s2.toks) hk,zi.refl _,I2.hok.fresh hD,I2.hok.fresh (Ya5 hD (Wbc hlt))⟩
 . obtain⟨H',I',sm,n1,n2⟩:=hJ
   have hnm:ns.getD i 0∈ns:=by rw [YaP,YaQ hi];exact Ya4 hi
   refine⟨.int (ns.getD i 0),H',I'.unpinned,ru,cont _ H' hnm (fun m hm=>?_) (mx.trans sm)⟩
   obtain⟨j,hj,rfl⟩:=List.mem_iff_getElem.mp hm;have:g (ns.getD i 0)<=g (ns.getD j 0):=(hbest j hj).1;rwa [show ns.getD j 0=ns[j] by rw [YaP,YaQ hj];rfl] at this
end
variable[LamW]
section
variable{X:Cx}{H0:Hp}{tb:Addr}{k:Nat}{x:Str}{ps:List Str}{sp:Sp3}{t:TA3}{e:Expr}{es:List Expr}{p pos pos':Pos}
theorem dfU{E:XK}{E3:Addr->Prop}(tu:TabU tb H0)(hE:∀ C H',E3 C->zi H0 H'->E (.ref C) none H')(Gd:DfU tb X.prog X.w X.K X.mg X.base k x ps sp)(hr:Room k X.A)(hg:Gl X x)(hx:Passes (CXR X.prog X.w) X E)(ha:PA3 X H0 (e::es) t)(hdb:#[24]:=by decide)
 (he:#[14]:=by rfl) (hpl:(backTo pos (starEach es X.env)).any (·.1)=false:=by rfl):PE3 X H0 #[23] (Zu sp E3 t):=by
 refine⟨fun ρ Q Q' h q=>ha.mono ρ _ _ (fun cs ⟨hd,q⟩=>⟨hd,Gd.mono _ _ _ _ _ (fun f d ⟨a,b⟩=>⟨a,h _ b⟩) (fun _ z=>z) q⟩) q,PE.imp (jG Gd.ok hr hg hx ha.ok hdb he hpl) fun σ H Q=>el5 fun G0 ρ G F q=>⟨G0,ρ,G,F,ha.mono ρ _ _ (fun cs ⟨hd,qc⟩ vs G1 H1 g1 w=>?_) q⟩⟩
 show spU tb X.K sp (vs++[]) H1 Q E
 rw [Yao];refine⟨tu.same (F.gr g1).keep,?_⟩;have kE:∀ C,E3 C->∀ H',zi H1 H'->E (.ref C) none H':=fun C c H' s=>hE C H' c ((F.gr g1).keep.trans s)
 cases hs:shs cs with
 | some ds=>
  refine⟨G1,cs.map Cl.d,g1.sub,by rw [zdl hs];exact(w.shs hs).rd,Gd.mono _ _ _ _ _ (fun f d ⟨_,k⟩ v G' H' g r=>k v G' H' (g1.trans g) (.sh ⟨r.rd,fun hf=>jX (Same.refl _) (fun _ _ _ z=>(F.gr g1).keep.free z) (r.nw hf)⟩)) kE qc⟩
 | none=>
  refine⟨cln H1,cs.map Cl.d,zf8 H1,rdvs_cln (w.rds g1.sub hd),Gd.mono _ _ _ _ _ (fun f d ⟨s,k⟩ v G' H' g r=>?_) kE qc⟩
  have sc:zw d=true:=s.resolve_left (by rw [hs];simp)
  exact k v G1 H' (g1.trans ⟨Same.refl _,g.h,g1.sub.trans g.h,fun _ _ e=>.inl e⟩) (.sh (.sc sc (zfB sc r.rd)))
end
theorem zg0{p:Program}{loose:List Str}{mean:ExcName->Option Value}{mg mb:#[15]}{h:Heap}(T:Top p loose mean mg mb h):BMod mg h:=by
 obtain⟨bm,ob,b1,b2,b3,b4,b5,b6⟩:=T.bmain;refine⟨bm,ob,b1,b2,fun q=>?_,b3,b4,b5,b6⟩
 obtain⟨o,es,ep,e,hd,_⟩:=T.g;rw [q,e] at b3;cases b3;rw [hd] at b6;cases b6
theorem zgB{K:Ybf}{x:Str}{f c0 tb:Addr}{oc oc':Value}{od od':Option Addr}{fd:FuncData}{sl sl':Array (Option Value)}{vs:Array Value}(a:PySem.W.nsIn K mainGlobals x=some (some (.ref f)))(l:K.lookup f=some ⟨oc,od,.func fd,sl⟩)(hc:fd.code=.ref c0)
 (q1:K.lookup c0=some ⟨oc',od',.fields vs,sl'⟩) (q2:vs[11]?=some (.ref tb)):PySem.W.tabIn K x=some (c0,tb):=by
 unfold PySem.W.tabIn;rw [a];dsimp only;rw [l];dsimp only;rw [hc];dsimp only;rw [q1];dsimp only;rw [q2]
theorem zjl{P:Program}{w:World}{K:Ybf}{mg mb:#[15]}{k:Nat}{fa a c0 tb:Addr}{fd:FuncData}{x:Str}{sp:Sp3}{s₁ : Shared}{vs:List Value}{ns:List Int}
 (KX:K.In s₁.heap) (hns:s₁.heap.Ns mainGlobals mg) (hb:s₁.heap.Ns builtinsNs mb) (hbb:∀ x:Str,x≠"__name__"->mb x=bootBuiltins x) (hlim:s₁.heap.NoLimit) (hg:s₁.gens = #[])
 (ha:s₁.heap.get? a=some { cls:=.type "list", data:=.seq vs.toArray }) (hi:IntsAre vs ns) (hl:ns.length<=sizeLine) (hr:Room k callerA)
 (ht:s₁.heap.get? tb=some (PySem.W.tabObj #[])) (hcd:PySem.W.CodeHd s₁.heap c0 tb) (hbm:BMod mg s₁.heap) (hKt:K.lookup tb=none)
 (F:∀ base:Heap,K.In base->BMod mg base->FnOk P w K mg base (CXR P w) k fa fd [x] (spU tb K sp)) (hbind:∀ (s:Shared) (u:Value),BindsTo s fd ⟨[u],[]⟩ [(x,u)])
 (hsp:∀ (Q:Bool->D->Prop) (E:Addr->Prop),(∀ f,Q f (.bool true))->sp [.list (ns.map .int)] Q E) :
 codeAny (model P w) callerA (.call (.ref fa) ⟨[.ref a],[]⟩) (fun r s'=>r=.ok (.ret (.bool true))/\OldK s₁.heap s'.heap/\s'.os=s₁.os/\AllBare s'.gens) s₁:=by
 have rv:=zcL hi;have lenV:=hi.length;have hat:a≠tb:=fun e=>by rw [e,ht] at ha;cases ha
 have core:∀ H:Hp,SqL K H a (ns.map V.int)->HOk P w H s₁.heap->(∀ b o,H b=some o->(b=tb/\o=tab0 tb)\/(b=a/\K.lookup a=none/\∃ ob xs,o=.frz ob (.lst xs)))->H tb=some (tab0 tb)->
  codeAny (model P w) callerA (.call (.ref fa) ⟨[.ref a],[]⟩) (fun r s'=>r=.ok (.ret (.bool true))/\OldK s₁.heap s'.heap/\s'.os=s₁.os/\AllBare s'.gens) s₁:=by
  intro H hS hok hO hT;have noD:∀ {b:Addr} {o:Obj},s₁.heap.get? b=some o->(∀ xs n,o.data≠.seq xs n)->o.cls≠.none->H b=none:=fun {b o} e d c=>by
   cases q:H b with
   | none=>rfl
   | some u=>
    rcases hO b u q with ⟨rfl,_⟩|⟨rfl,_⟩
    . rw [ht] at e;cases e;exact absurd rfl c
    . rw [ha] at e;cases e;exact absurd rfl (d _ _)
  have noA:∀ {b:Addr} {o:Obj} {es:Array DictEntry} {ep:Nat},s₁.heap.get? b=some o->o.data=.dict es ep->H b=none:=fun {b o es ep} e d=>by
   cases q:H b with
   | none=>rfl
   | some u=>
    rcases hO b u q with ⟨rfl,_⟩|⟨rfl,_⟩
    . rw [ht] at e;cases e;cases d
    . rw [ha] at e;cases e;cases d
  have base_of:∀ {b:Addr} {o:Obj},s₁.heap.get? b=some o->H b=none->(hidT s₁.heap H).get? b=some o:=fun e n=>zk3 e n
  have nsK:∀ {b:Addr} {m:#[15]},s₁.heap.Ns b m->(hidT s₁.heap H).Ns b m:=fun {b m} ⟨o,es,ep,e,d,r⟩=>⟨o,es,ep,base_of e (noA e d),d,r⟩
  have hKb:K.In (hidT s₁.heap H):=fun b o e=>base_of (KX b o e) (by
   cases q:H b with
   | none=>rfl
   | some u=>
    rcases hO b u q with ⟨rfl,_⟩|⟨rfl,h2,_⟩
    . rw [hKt] at e;cases e
    . rw [h2] at e;cases e)
  have hM:Mod K mg (hidT s₁.heap H):=⟨hKb,nsK hns,⟨mb,nsK hb,hbb⟩,let ⟨mc,h1,h2⟩:=hlim;⟨mc,nsK h1,h2⟩⟩;have hB:BMod mg (hidT s₁.heap H):=by
   obtain⟨bm,o,h1,h2,h3,h4,h5,h6,h7⟩:=hbm;exact⟨bm,o,h1,h2,h3,base_of h4 (noD h4 (fun xs n z=>by rw [h7] at z;cases z) (by rw [h5];nofun)),h5,h6,h7⟩
  have e0:Env0 P w K mg (hidT s₁.heap H) callerA [] s₁ H:=⟨rfl,hM,fun b o e=>ziQ e,Nat.le_of_eq (zk8 _ _),trivial,fun b hb=>absurd (show b∈([]:List Addr) from hb) (by simp),hok,.of_eq hg⟩
  have sG0:Same (fun b=>if b=tb then none else H b) H:=fun b o e=>by
   by_cases hb:b=tb
   . have e:(if b=tb then none else H b)=some o:=e
     rw [if_pos hb] at e;cases e
   . have e:(if b=tb then none else H b)=some o:=e
     rw [if_neg hb] at e;exact e
  have sG:Sub (fun b=>if b=tb then none else H b) H:=⟨sG0,fun b f e=>by
   rcases hO b _ (sG0 b _ e) with ⟨z,_⟩|⟨_,_,_,_,z⟩
   . have e:(if b=tb then none else H b)=some (HO.ext f):=e
     rw [if_pos z] at e;cases e
   . cases z⟩
  have hSG:SqL K (fun b=>if b=tb then none else H b) a (ns.map V.int):=by
   rcases hS with (h|⟨o,h⟩)|h
   . exact .inl (.inl ((if_neg hat).trans h))
   . exact .inl (.inr ⟨o,(if_neg hat).trans h⟩)
   . exact .inr h
  refine codeAny_mono ((F _ hKb hB).run callerA [] s₁ H ⟨[.ref a],[]⟩ [.ref a] [.ref a] (fun v H'=>v=.bl true/\TabU tb H') (fun _ _ _=>False) hr e0 (hbind s₁ (.ref a)) (.cons rfl .nil) ⟨.inl hT,fun b=>if b=tb then none else H b,[.list (ns.map .int)],sG,.cons (.lst hSG (zcj ns)) .nil,hsp _ _ fun f v G' H' g r=>⟨zec r.rd,(show TabU tb H from .inl hT).same g.h⟩⟩) fun r s' h=>?rs
  cases r with
  | error e=>
   obtain⟨_,_,_,_,_,hf⟩:=h;exact hf.elim
  | ok fl=>
   cases fl with
   | next=>exact False.elim h
   | brk=>exact False.elim h
   | cont=>exact False.elim h
   | ret u=>
    obtain⟨v,H',os,bare,un,hok',r',q⟩:=h;obtain⟨q',hT'⟩:v=.bl true/\TabU tb H':=q;subst q';obtain rfl:u=Value.bool true:=r';have keepB:∀ b o,b≠tb->s₁.heap.get? b=some o->s'.heap.get? b=some o:=fun b o hb e=>by
     cases q:H b with
     | none=>exact un.keep b o e q (by intro z;exact absurd (show b∈([]:List Addr) from z) (by simp)) (by simp)
     | some u=>
      rcases hO b u q with ⟨z,_⟩|⟨_,_,ob,xs,z⟩
      . exact absurd z hb
      . rw [z] at q
        have z2:=un.frzs b ob _ q;obtain⟨e1,_⟩:=hok b _ q;obtain⟨e2,_⟩:=hok' b _ z2;rw [e] at e1;cases e1;exact e2
    obtain⟨ps,ep⟩:∃ ps,s'.heap.get? tb=some (PySem.W.tabObj ps):=by
     rcases hT' with z|⟨c',z,_⟩
     . exact⟨#[],(hok' tb _ z).1⟩
     . obtain⟨⟨ps,ep,_⟩,_,_⟩:=hok' tb _ z
       exact⟨ps,ep⟩
    refine⟨rfl,⟨fun b o e=>?_,fun b o e=>?_⟩,os,bare⟩
    . by_cases hb:b=tb
      . subst hb
        rw [ht] at e;cases e;exact .inr (.inl ⟨(hcd.tab ht).isCodeTable,rfl,#[],ps,rfl,by rw [ep];simp⟩)
      . exact .inl (keepB b o hb e)
    . by_cases hb:b=tb
      . subst hb;exact⟨_,ep⟩
      . exact⟨o,keepB b o hb e⟩
 have tok:∀ (H:Hp),zI P w H s₁.heap tb (tab0 tb):=fun H=>⟨ht,⟨_,ht⟩,fun h1 h2 e k=>k _ e⟩
 cases hk:K.lookup a with
 | some o=>
  have e:=KX a o hk;rw [ha] at e;cases e;refine core (fun b=>if b=tb then some (tab0 tb) else none) (.inr ⟨_,vs.toArray,_,hk,rfl,rfl,rfl,by rw [YaZ,lenV];exact hl,by simpa using rv⟩) (fun b u z=>?_) (fun b o z=>?_) (if_pos rfl)
  . by_cases hb:b=tb
    . have z':=(if_pos hb).symm.trans z
      cases z';subst hb
      exact tok _
    . have z':=(if_neg hb).symm.trans z
      cases z'
  . by_cases hb:b=tb
    . have z':=(if_pos hb).symm.trans z
      cases z';exact .inl ⟨hb,rfl⟩
    . have z':=(if_neg hb).symm.trans z
      cases z'
 | none=>
  refine core (fun b=>if b=tb then some (tab0 tb) else if b=a then some (.frz { cls:=.type "list", data:=.seq vs.toArray } (.lst (ns.map V.int))) else none) (.inl (.inr ⟨{ cls:=.type "list", data:=.seq vs.toArray },(if_neg hat).trans (if_pos rfl)⟩)) (fun b u z=>?_) (fun b o z=>?_) (if_pos rfl)
  . by_cases hb:b=tb
    . have z':=(if_pos hb).symm.trans z
      cases z';subst hb
      exact tok _
    . have z1:=(if_neg hb).symm.trans z
      by_cases hb:b=a
      . have z':=(if_pos hb).symm.trans z1
        cases z';subst hb
        exact⟨ha,by rw [YaR];exact hl,vs,_,rv,ha⟩
      . have z':=(if_neg hb).symm.trans z1
        cases z'
  . by_cases hb:b=tb
    . have z':=(if_pos hb).symm.trans z
      cases z';exact .inl ⟨hb,rfl⟩
    . have z1:=(if_neg hb).symm.trans z
      by_cases hb:b=a
      . have z':=(if_pos hb).symm.trans z1
        cases z';exact .inr ⟨hb,hk,_,_,rfl⟩
      . have z':=(if_neg hb).symm.trans z1
        cases z'
theorem ziO{l:PySem.W.OpenLaw}{n k:Nat}{q:Program}{loose:List Str}{XP:(Str->Option Value)->Heap->Prop}{YP:World->Heap->Prop}{d dd:DefRec}{K:Params->Ybf}{sp:Sp3}{x dn:Str}
 (hn:l.most=some n) (hn2:n<=sizeLine) (hdf:d.params.defaults=[]) (hr:Room k callerA) (hY:∀ (w:World) (h:Heap),YP w h->(K w.params).In h) (hrec:(recsOf q).find? (fun e=>e.name==dn)=some dd)
 (F:∀ (w:World) (mg:#[15]) (fa:Addr) (h:Heap),(K w.params).In h->h.Ns mainGlobals mg->mg d.name=some (.ref fa)->
  ∃ (fd:FuncData) (c0 tb:Addr),(∀ (s:Shared) (u:Value),BindsTo s fd ⟨[u],[]⟩ [(x,u)])/\PySem.W.tabIn (K w.params) dn=some (c0,tb)/\(K w.params).lookup tb=none/\
   ∀ base:Heap,(K w.params).In base->BMod mg base->FnOk l.prog w (K w.params) mg base (CXR l.prog w) k fa fd [x] (spU tb (K w.params) sp))
 (hsp:∀ (ns:List Int),ns.length<=n->∀ (Q:Bool->D->Prop) (E:Addr->Prop),(∀ f,Q f (.bool true))->sp [.list (ns.map .int)] Q E) :
 PySem.W.WalkO q loose XP YP l.row.toRowW d [] (fun f vs=>PySem.call f vs):=by
 refine Att.attach_call hn hdf fun w s₀ s₁ mg mb fa o pm cd doc a vs ns G Y ho hd hcd hmg hobj hints hlen hg=>?_
 have KX:=hY w _ Y;obtain⟨fd,c0,tb,hb,htab,hKt,hF⟩:=F w mg fa _ KX G.T.g hmg;obtain⟨hc,ht⟩:=PySem.W.tab_of G.T KX hrec htab;exact zjl KX G.T.g G.T.b G.T.builtins G.T.nolimit hg hobj hints (Ya5 hlen hn2) hr ht hc (zg0 G.T) hKt hF hb (hsp ns hlen)
end L3
open PySem PySem.Spec PyProof.Rows L2
namespace Law
open PySem L2 L3
theorem zhu{α : Type}{us:List α}(h:us.length=1):∃ a0,us=[a0]:=match us,h with|[a0],_=>⟨a0,rfl⟩
theorem zaQ{α : Type}{us:List α}(h:us.length=2):∃ a0 a1,us=[a0,a1]:=match us,h with|[a0,a1],_=>⟨a0,a1,rfl⟩
theorem zaC{α : Type}{us:List α}(h:us.length=3):∃ a0 a1 a2,us=[a0,a1,a2]:=match us,h with|[a0,a1,a2],_=>⟨a0,a1,a2,rfl⟩
theorem zaa{α : Type}{us:List α}(h:us.length=4):∃ a0 a1 a2 a3,us=[a0,a1,a2,a3]:=match us,h with|[a0,a1,a2,a3],_=>⟨a0,a1,a2,a3,rfl⟩
theorem zct{α : Type}{us:List α}(h:us.length=5):∃ a0 a1 a2 a3 a4,us=[a0,a1,a2,a3,a4]:=match us,h with|[a0,a1,a2,a3,a4],_=>⟨a0,a1,a2,a3,a4,rfl⟩
def top(i:Nat):Stmt:=PySem.Challenge.pw_chairclans_k35_prices_of_a_mended_row.main.body.getD i (.Pass ⟨0,0,0,0⟩)
abbrev zcV:Stmt:=top 48
abbrev zfU:Stmt:=top 57
abbrev zfu:Stmt:=top 58
abbrev zfj:Stmt:=top 59
abbrev zga:Stmt:=top 60
abbrev zeK:Stmt:=top 61
abbrev zc5:Stmt:=top 62
abbrev zbt:Stmt:=top 65
abbrev zfk:Stmt:=top 63
abbrev zbJ:Stmt:=top 66
abbrev zfJ:Stmt:=top 67
abbrev zfH:Stmt:=top 25
abbrev zcs:Stmt:=top 26
abbrev zeD:Stmt:=top 27
abbrev zer:Stmt:=top 7
abbrev zd1:Stmt:=top 28
abbrev zfN:Stmt:=top 29
abbrev zc1:Stmt:=top 30
abbrev zbC:Stmt:=top 31
abbrev zeH:Stmt:=top 33
abbrev zez:Stmt:=top 34
abbrev zcO:Stmt:=top 35
abbrev zfW:Stmt:=top 36
abbrev ze6:Stmt:=top 18
abbrev zeV:Stmt:=top 19
abbrev zeg:Stmt:=top 20
abbrev zeN:Stmt:=top 38
abbrev zdt:Stmt:=top 39
abbrev ze3:Stmt:=top 45
abbrev zdk:Stmt:=top 40
abbrev zbA:Stmt:=top 41
abbrev zee:Stmt:=top 42
abbrev Z8:Stmt:=top 43
abbrev zcI:Stmt:=top 47
abbrev zdr:Stmt:=top 50
abbrev jT:Stmt:=top 51
abbrev zdy:Stmt:=top 52
abbrev zcc:Stmt:=top 53
abbrev ZZ:Stmt:=top 54
abbrev zf3:Stmt:=top 8
abbrev zfz:Stmt:=top 12
abbrev zfs:Stmt:=top 13
abbrev zdq:Stmt:=top 14
abbrev zdx:Stmt:=top 55
abbrev zfp:Stmt:=top 64
abbrev zcC:Stmt:=top 70
abbrev zgp:Stmt:=top 68
abbrev zfO:Stmt:=top 71
abbrev zft:Stmt:=top 69
abbrev zah:Stmt:=top 72
def mJ(s:Stmt):Stmt:=match s with
 | .ClassDef _ _ _ b _ _ _ _ _ _ _=>b.getD 0 (.Pass ⟨0,0,0,0⟩)
 | s=>s
abbrev Jl:Stmt:=mJ (top 49)
abbrev lamP:Pos:=⟨228,66,228,90⟩
abbrev lamQ:Str:=(envOfC "nearest" (zh jT) 0 0 .none).qual ++ "<lambda>"
instance:LamW:=⟨lamP,lamQ⟩
structure Cl where
 ClanError:Addr
 NoSpell:Addr
 NoRow:Addr
 NoBounds:Addr
 NoRule:Addr
 Market:Addr
 c0:Addr
 tb:Addr
def DA(K:Ybf)(mg:#[15])(x:Str)(st:Stmt):Prop:=∃ f fd,Fun K x x st f fd/\mg x=some (.ref f)
structure TxtD(K:Ybf)(mg:#[15]):Prop where
 d_first_price:DA K mg "first_price" zcV
 d_law_cell_at:DA K mg "_law_cell_at" zfU
 d_law_mixed:DA K mg "_law_mixed" zfu
 d_law_wide:DA K mg "_law_wide" zfj
 d_law_spells:DA K mg "_law_spells" zga
 d_law_long:DA K mg "_law_long" zeK
 d_law_quotas:DA K mg "_law_quotas" zc5
 d_law_row:DA K mg "_law_row" zbt
 d_law_ratio:DA K mg "_law_ratio" zfk
 d_law_limits:DA K mg "_law_limits" zbJ
 d_law_rules:DA K mg "_law_rules" zfJ
 d_check_weights:DA K mg "check_weights" zfH
 d_all_turns:DA K mg "all_turns" zcs
 d_check_spells:DA K mg "check_spells" zeD
 d_common_divisor:DA K mg "common_divisor" zer
 d_divisor_of_all:DA K mg "divisor_of_all" zd1
 d_least_bottom:DA K mg "least_bottom" zfN
 d_shares_over:DA K mg "shares_over" zc1
 d_quotas:DA K mg "quotas" zbC
 d_first_turn:DA K mg "first_turn" zeH
 d_window_of:DA K mg "window_of" zez
 d_windows_of_clan:DA K mg "windows_of_clan" zcO
 d_windows_within:DA K mg "windows_within" zfW
 d_check_turn:DA K mg "check_turn" ze6
 d_check_rules:DA K mg "check_rules" zeV
 d_forbidden:DA K mg "forbidden" zeg
 d_may_come:DA K mg "may_come" zeN
 d_choices_of_turns:DA K mg "choices_of_turns" zdt
 d_check_row:DA K mg "check_row" ze3
 d_choices_of_visits:DA K mg "choices_of_visits" zdk
 d_move_along:DA K mg "move_along" zbA
 d_settle:DA K mg "settle" zee
 d_place_visits:DA K mg "place_visits" Z8
 d_costs_of_turns:DA K mg "costs_of_turns" zcI
 d_look_from:DA K mg "look_from" zdr
 d_change_prices:DA K mg "change_prices" zdy
 d_serve:DA K mg "serve" zcc
 d_mend_visits:DA K mg "mend_visits" ZZ
 d_less:DA K mg "less" zf3
 d_check_bounds:DA K mg "check_bounds" zfz
 d_room_at_most:DA K mg "room_at_most" zfs
 d_rooms_of:DA K mg "rooms_of" zdq
 d_mended:DA K mg "mended" zdx
 d_law_whole:DA K mg "_law_whole" zfp
 d_law_numbers:DA K mg "_law_numbers" zcC
 d_law_lets:DA K mg "_law_lets" zgp
 d_law_fair:DA K mg "_law_fair" zfO
 d_law_windows:DA K mg "_law_windows" zft
 d_law:DA K mg "law" zah
 n_abs:mg "abs" = none
 n_bool:mg "bool" = none
 n_enumerate:mg "enumerate" = none
 n_int:mg "int" = none
 n_isinstance:mg "isinstance" = none
 n_len:mg "len" = none
 n_list:mg "list" = none
 n_max:mg "max" = none
 n_min:mg "min" = none
 n_range:mg "range" = none
 n_sorted:mg "sorted" = none
 n_sum:mg "sum" = none
 n_zip:mg "zip" = none
structure Txt(c:Law.Cl)(K:Ybf)(mg:#[15]):Prop extends TxtD K mg where
 d_nearest:DA K mg "nearest" jT
 x_nearest:∃ f fd,Fun K "nearest" "nearest" jT f fd/\mg "nearest" = some (.ref f)/\fd.code=.ref c.c0
 hdC:∀ h,K.In h->PySem.W.CodeHd h c.c0 c.tb
 tab:PySem.W.tabIn K "nearest" = some (c.c0,c.tb)
 nop:K.lookup c.tb=none
 m_ClanError:mg "ClanError" = some (.ref c.ClanError)
 m_NoSpell:mg "NoSpell" = some (.ref c.NoSpell)
 m_NoRow:mg "NoRow" = some (.ref c.NoRow)
 m_NoBounds:mg "NoBounds" = some (.ref c.NoBounds)
 m_NoRule:mg "NoRule" = some (.ref c.NoRule)
 m_Market:mg "Market" = some (.ref c.Market)
 x_init:∃ fi fdi,Fun K "__init__" "Market.__init__" Jl fi fdi/\Mk K c.Market fi
 cl_M:Cls K c.Market
 na_costs:zQ K c.Market "costs"
 na_turn_prices:zQ K c.Market "turn_prices"
 na_visit_prices:zQ K c.Market "visit_prices"
 na_taken:zQ K c.Market "taken"
 na_holders:zQ K c.Market "holders"
 e_NoSpell:PySem.W.excIn K c.NoSpell bmVE "ValueError.__new__" = true
 e_NoBounds:PySem.W.excIn K c.NoBounds bmVE "ValueError.__new__" = true
 e_NoRule:PySem.W.excIn K c.NoRule bmVE "ValueError.__new__" = true
 e_NoRow:PySem.W.excIn K c.NoRow bmVE "ValueError.__new__" = true
 m_LEAST_BOUND:∃ a,mg "LEAST_BOUND" = some (.ref a)/\TupI K a [0,1]
 m_MOST_BOUND:∃ a,mg "MOST_BOUND" = some (.ref a)/\TupI K a [10,1]
 m_FIXED:∃ t,mg "FIXED" = some (.str "fixed" t)
 m_BARRED:∃ t,mg "BARRED" = some (.str "barred" t)
 m_MOST_SPELLS:∃ t,mg "MOST_SPELLS" = some (.int 8 t)
 m_MOST_CLANS:∃ t,mg "MOST_CLANS" = some (.int 8 t)
 m_MOST_TURNS:∃ t,mg "MOST_TURNS" = some (.int 60 t)
theorem zdE{g l:Int}(hg:0<=g)(hl:0<l):Int.gcd l (g%l)=Int.gcd g l:=by
 obtain⟨m,rfl⟩:=Int.eq_ofNat_of_zero_le hg;obtain⟨n,rfl⟩:=Int.eq_ofNat_of_zero_le (Int.le_of_lt hl);rw [<-Int.natCast_emod,Int.gcd_natCast_natCast,Int.gcd_natCast_natCast,Nat.gcd_comm n,<-Nat.gcd_rec,Nat.gcd_comm]
theorem zdD{g:Int}(hg:0<=g):(Int.gcd g 0:Int)=g:=by
 rw [Int.gcd_zero_right];omega
theorem zgc(a b:Int):Int.gcd (if a<0 then -a else a) (if b<0 then -b else b)=Int.gcd a b:=by
 split<;>split<;>simp
def dR(a b:Int):D:=.tuple [.int (a/(Int.gcd a b:Int)),.int (b/(Int.gcd a b:Int))]
theorem zgr{a b:Int}(h:0<b):0<(Int.gcd a b:Int):=by
 have:0<Int.gcd a b:=Wab _ #[0]
 omega
theorem zhm{a b:Int}{k:Nat}(h:0<b)(hb:Bits k b):Bits k (Int.gcd a b:Int):=by
 refine hb.le ?_
 have:=Int.gcd_le_right a (show 0<b from h)
 omega
theorem zfc{x a b:Int}(h:0<b)(hb:Bits 9000 b):j4 x (Int.gcd a b:Int):=⟨zgr h,zhm h hb⟩
abbrev Spell:=Int×List Int
def dI(ns:List Int):D:=.list (ns.map .int)
def dS(s:Spell):D:=.tuple [.int s.1,dI s.2]
def dSs(l:List Spell):D:=.list (l.map dS)
def okW(ws:List Int):Prop:=(1<=ws.length/\ws.length<=8)/\(∀ w∈ws,0<=w/\w<10 ^ 30)/\ws.sum≠0
def tot(l:List Spell):Int:=(l.map (·.1)).sum
def many(l:List Spell):Nat:=(l.headD (0,[])).2.length
def okS(l:List Spell):Prop:=(1<=l.length/\l.length<=8)/\(∀ s∈l,1<=s.1/\okW s.2/\s.2.length=many l)/\tot l<=60
theorem p30:JY 10 30:=powB (k:=4) (by unfold Bits;decide) #[1] #[1]
theorem Za:∀ {ws:List Int},(∀ w∈ws,0<=w)->0<=ws.sum
 | [],_=>by simp
 | w :: ws, h => by
  rw [List.sum_cons];have:=Za (ws:=ws) fun x hx=>h x (YaT _ hx)
  have:=h w YaV
  omega
theorem zfA{B:Int}:∀ {ws:List Int},(∀ w∈ws,w<B)->ws.sum<=ws.length*B
 | [],_=>by simp
 | w :: ws, h => by
  rw [List.sum_cons,List.length_cons];have:=zfA (ws:=ws) fun x hx=>h x (YaT _ hx)
  have:=h w YaV;have e:((ws.length+1:Nat):Int)*B=ws.length*B+B:=by rw [Int.natCast_add,Int.add_mul];simp
  omega
theorem jS{ws:List Int}(h:okW ws):0<ws.sum:=by
 have:=Za fun w hw=>(h.2.1 w hw).1
 have:=h.2.2
 omega
theorem zkU{ws:List Int}(h:okW ws):ws.sum<=8*10 ^ 30:=by
 have h1:=zfA (B:=10 ^ 30) fun w hw=>(h.2.1 w hw).2
 have h2:(ws.length:Int)*10 ^ 30<=8*10 ^ 30:=Ybe (by have:=h.1.2;omega) #[1]
 omega
theorem zd5{x B:Int}{k:Nat}(h0:0<=x)(h:x<=B)(hB:B.natAbs<2 ^ k):Bits k x:=by
 unfold Bits
 omega
theorem Zm{ws:List Int}(h:okW ws):Bits 103 ws.sum:=zd5 (Int.le_of_lt (jS h)) (zkU h) #[1]
theorem zff{ws:List Int}(h:okW ws){w:Int}(hw:w∈ws):Bits 100 w:=zd5 (h.2.1 w hw).1 (Int.le_of_lt (h.2.1 w hw).2) #[1]
def gcdL(ws:List Int):Int:=ws.foldl (fun a b=>(Int.gcd a b:Int)) 0
def parts(ws:List Int):Int:=ws.sum/gcdL ws
def bot1(b:Int)(s:Spell):Int:=b*parts s.2/(Int.gcd b (parts s.2):Int)
def bot(l:List Spell):Int:=l.foldl bot1 1
theorem zce:∀ (ws:List Int) (a:Int),0<=a->0<=ws.foldl (fun a b=>(Int.gcd a b:Int)) a/\ws.foldl (fun a b=>(Int.gcd a b:Int)) a∣a/\∀ w∈ws,ws.foldl (fun a b=>(Int.gcd a b:Int)) a∣w
 | [],a,h=>⟨h,Int.dvd_refl _,fun w hw=>by cases hw⟩
 | w :: ws, a, h => by
  obtain⟨h1,h2,h3⟩:=zce ws (Int.gcd a w:Int) #[0]
  refine⟨h1,Wa8 h2 (WaP a w),fun x hx=>?_⟩
  rcases Wa4.mp hx with rfl|hx
  . exact Wa8 h2 (WaD a x)
  . exact h3 x hx
theorem zhZ(ws:List Int):0<=gcdL ws:=(zce ws 0 #[1]).1
theorem zf6{ws:List Int}{w:Int}(h:w∈ws):gcdL ws∣w:=(zce ws 0 #[1]).2.2 w h
theorem ze1{d:Int}:∀ {ws:List Int},(∀ w∈ws,d∣w)->d∣ws.sum
 | [],_=>by simp
 | w :: ws, h => by
  rw [List.sum_cons];exact Int.dvd_add (h w YaV) (ze1 fun x hx=>h x (YaT _ hx))
theorem zcU(ws:List Int):gcdL ws∣ws.sum:=ze1 fun w hw=>zf6 hw
theorem zdu{ws:List Int}(h:okW ws):0<gcdL ws:=by
 have h1:=zhZ ws;have h2:=jS h;have h3:=zcU ws
 by_cases e:gcdL ws=0
 . rw [e] at h3
   have:=Int.zero_dvd.mp h3
   omega
 . omega
theorem zha{ws:List Int}(h:okW ws):gcdL ws<=ws.sum:=Int.le_of_dvd (jS h) (zcU ws)
theorem zcK{ws:List Int}:parts ws*gcdL ws=ws.sum:=Yaw (zcU ws)
theorem JU{ws:List Int}(h:okW ws):0<parts ws:=by
 have h1:=zdu h;have h2:=jS h;have h3:=zcK (ws:=ws)
 by_cases e:0<parts ws
 . exact e
 . have:parts ws*gcdL ws<=0:=Waa #[0] #[0]
   omega
theorem zjn{ws:List Int}(h:okW ws):parts ws<=ws.sum:=Int.ediv_le_self _ (Int.le_of_lt (jS h))
theorem zc3{ws:List Int}(h:okW ws):Bits 103 (parts ws):=(Zm h).le (by have:=JU h;have:=zjn h;omega)
theorem zcu{b p:Int}(h:0<p):(0:Int)<(Int.gcd b p:Int):=by
 have:=Wab b (show p≠0 by omega)
 omega
theorem ziv{b p:Int}(h:0<p):(Int.gcd b p:Int)<=p:=Int.le_of_dvd h (WaD b p)
theorem zdS{b:Int}{s:Spell}(hb:0<b)(h:okW s.2):0<bot1 b s:=by
 have h1:=JU h;have h2:=zcu (b:=b) h1;have h3:(Int.gcd b (parts s.2):Int)∣b*parts s.2:=Wa8 (WaP _ _) (WaE _ _);have h4:=Yaw h3;have h5:0<b*parts s.2:=Int.mul_pos hb h1;unfold bot1
 by_cases e:0<b*parts s.2/(Int.gcd b (parts s.2):Int)
 . exact e
 . have:b*parts s.2/(Int.gcd b (parts s.2):Int)*(Int.gcd b (parts s.2):Int)<=0:=Waa #[0] #[0]
   omega
theorem zgw{b:Int}{s:Spell}{k:Nat}(hb:0<b)(hk:Bits k b)(h:okW s.2):Bits (k+103) (bot1 b s):=(hk.mul (zc3 h)).le (by
 have h5:0<b*parts s.2:=Int.mul_pos hb (JU h);have h6:=zdS hb h;have h7:bot1 b s<=b*parts s.2:=Int.ediv_le_self _ (Int.le_of_lt h5)
 omega)
theorem zbV:∀ (l:List Spell) (b:Int) (k:Nat),(∀ s∈l,okW s.2)->0<b->Bits k b->0<l.foldl bot1 b/\Bits (k+103*l.length) (l.foldl bot1 b)
 | [],b,k,_,h,h'=>⟨h,by simpa using h'⟩
 | s :: l, b, k, hs, h, h' => by
  have hw:=hs s YaV;have:=zbV l (bot1 b s) (k+103) (fun x hx=>hs x (YaT _ hx)) (zdS h hw) (zgw h h' hw)
  refine⟨this.1,this.2.mono ?_⟩
  rw [List.length_cons];omega
theorem zbn{l:List Spell}(h:okS l):0<bot l:=(zbV l 1 1 (fun s hs=>(h.2.1 s hs).2.1) #[1] (by unfold Bits;decide)).1
theorem zfa{l:List Spell}(h:okS l):Bits 900 (bot l):=(zbV l 1 1 (fun s hs=>(h.2.1 s hs).2.1) #[1] (by unfold Bits;decide)).2.mono (by have:=h.1.2;omega)
def shares(b:Int)(ws:List Int):List Int:=ws.map fun w=>w*b/ws.sum
def addL(xs ys:List Int):List Int:=(xs.zip ys).map fun p=>p.1+p.2
def zA(sh:List Int)(p:List Int×List #[22]):List Int×List #[22]:=(addL p.1 sh,p.2++[addL p.1 sh])
def rep{α : Type}(f:α->α):Nat->α->α
 | 0,x=>x
 | n+1,x=>rep f n (f x)
def runQ(b:Int)(l:List Spell)(p:List Int×List #[22]):List Int×List #[22]:=l.foldl (fun p s=>rep (zA (shares b s.2)) s.1.toNat p) p
def zeros(l:List Spell):List Int:=List.replicate (many l) 0
def quo(l:List Spell):List #[22]:=(runQ (bot l) l (zeros l,[zeros l])).2
theorem ZY(sh:List Int):∀ n p,(rep (zA sh) n p).2.length=p.2.length+n
 | 0,p=>rfl
 | n+1,p=>by rw [rep,ZY sh n];simp [zA];omega
theorem jV{l:List Spell}(h:∀ s∈l,1<=s.1):0<=tot l:=Za fun w hw=>by
 obtain⟨s,hs,rfl⟩:=Ya7.mp hw;have:=h s hs;omega
theorem zdT{l:List Spell}(h:∀ s∈l,1<=s.1){s:Spell}(hs:s∈l):s.1<=tot l:=by
 unfold tot
 induction l with
 | nil=>cases hs
 | cons a l ih=>
  rw [Ya1,List.sum_cons];have h1:0<=(l.map (·.1)).sum:=jV fun x hx=>h x (YaT _ hx)
  have h2:=h a YaV
  rcases Wa4.mp hs with rfl|hs
  . omega
  . have:=ih (fun x hx=>h x (YaT _ hx)) hs
    omega
theorem zab{l:List Spell}(h:okS l):((quo l).length:Int)=tot l+1:=by
 have key:∀ (l:List Spell) (b:Int) (p:List Int×List #[22]),(∀ s∈l,1<=s.1)->((runQ b l p).2.length:Int)=p.2.length+tot l:=by
  intro l
  induction l with
  | nil=>intro b p _;simp [runQ,tot]
  | cons s l ih=>
   intro b p hs;have h1:=hs s YaV;have:=ih b (rep (zA (shares b s.2)) s.1.toNat p) fun x hx=>hs x (YaT _ hx)
   show((runQ b l (rep (zA (shares b s.2)) s.1.toNat p)).2.length:Int)=_
   rw [this,ZY];unfold tot;rw [Ya1,List.sum_cons]
   omega
 have:=key l (bot l) (zeros l,[zeros l]) fun s hs=>(h.2.1 s hs).1
 unfold quo;rw [this];simp;omega
theorem zjw{α β : Type}(e:α->β)(xs:List α)(lo hi:Option Int):cut (xs.map e) lo hi=(cut xs lo hi).map e:=by
 unfold cut;rw [YaR,List.map_take,List.map_drop]
theorem zc6:∀ (xs:List Int) (x:Int),(xs.foldl (fun a b=>if b > a then b else a) x∈x::xs)/\x<=xs.foldl (fun a b=>if b > a then b else a) x/\∀ w∈xs,w<=xs.foldl (fun a b=>if b > a then b else a) x
 | [],x=>⟨by simp,Wbm _,fun w h=>by cases h⟩
 | y :: ys, x => by
  rw [List.foldl_cons]
  by_cases h:y > x
  . rw [if_pos h]
    obtain⟨h1,h2,h3⟩:=zc6 ys y;exact⟨YaT _ h1,#[0],fun w hw=>by
     rcases Wa4.mp hw with rfl|hw
     . exact h2
     . exact h3 w hw⟩
  . rw [if_neg h]
    obtain⟨h1,h2,h3⟩:=zc6 ys x;refine⟨?_,h2,fun w hw=>?_⟩
    . rcases Wa4.mp h1 with z|z
      . rw [z];exact YaV
      . exact YaT _ (YaT _ z)
    . rcases Wa4.mp hw with rfl|hw
      . omega
      . exact h3 w hw
theorem zei{ws:List Int}(h:ws≠[]):maxL ws∈ws:=by
 cases ws with
 | nil=>exact absurd rfl h
 | cons x xs=>exact(zc6 xs x).1
theorem zi8{b:Int}{s:Spell}(h:okW s.2):parts s.2∣bot1 b s:=by
 unfold bot1;rw [Wbg,Int.mul_ediv_assoc _ (WaP b (parts s.2))];exact WaE _ _
theorem zhv{b:Int}{s:Spell}:b∣bot1 b s:=by
 unfold bot1;rw [Int.mul_ediv_assoc _ (WaD b (parts s.2))];exact WaE _ _
theorem zbw{a b:List Int}(h:a.length=b.length):(addL a b).length=a.length:=by unfold addL;rw [YaR,List.length_zip];omega
theorem zcN(b:Int)(ws:List Int):(shares b ws).length=ws.length:=YaR ..
theorem zdV:∀ (l:List Spell) (b:Int),b∣l.foldl bot1 b
 | [],b=>Int.dvd_refl b
 | s::l,b=>Wa8 zhv (zdV l (bot1 b s))
theorem zfb:∀ (l:List Spell) (b:Int),(∀ s∈l,okW s.2)->∀ s∈l,parts s.2∣l.foldl bot1 b
 | [],b,_,s,h=>by cases h
 | a :: l, b, hok, s, h => by
  rcases Wa4.mp h with rfl|h
  . exact Wa8 (zi8 (hok s YaV)) (zdV l _)
  . exact zfb l _ (fun x hx=>hok x (YaT _ hx)) s h
theorem zfQ{b w:Int}{ws:List Int}(h:okW ws)(hd:parts ws∣b)(hw:w∈ws):w*b/ws.sum*ws.sum=w*b:=by
 apply Yaw
 obtain⟨k,rfl⟩:=hd;obtain⟨j,hj⟩:=zf6 hw;have hp:=zcK (ws:=ws);refine⟨j*k,?_⟩;rw [<-hp,hj];simp only [Wa9,Wbg,WaF]
theorem zia{b b':Int}{ws:List Int}(h:okW ws)(hd:parts ws∣b)(hd':parts ws∣b'):(shares b ws).map (· * b')=(shares b' ws).map (· * b):=by
 unfold shares;rw [YaD,YaD]
 apply Yat
 intro w hw;simp only [Function.comp];have h1:=zfQ h hd hw;have h2:=zfQ h hd' hw;have hs:=jS h
 apply Int.eq_of_mul_eq_mul_right (show ws.sum≠0 by omega)
 generalize w*b/ws.sum=x at h1;generalize w*b'/ws.sum=y at h2;have e1:x*b'*ws.sum=x*ws.sum*b':=by simp only [Wa9,Wbg,WaF]
 have e2:y*b*ws.sum=y*ws.sum*b:=by simp only [Wa9,Wbg,WaF]
 rw [e1,e2,h1,h2];simp only [Wa9,Wbg,WaF]
def JQ(b b':Int)(p p':List Int×List #[22]):Prop:=p.1.map (· * b')=p'.1.map (· * b)/\p.2.map (List.map (· * b'))=p'.2.map (List.map (· * b))
theorem zgf(c:Int)(a d:List Int):(addL a d).map (· * c)=addL (a.map (· * c)) (d.map (· * c)):=by
 unfold addL;rw [List.zip_map,YaD,YaD]
 apply Yat
 intro p _;simp only [Function.comp,Prod.map,Int.add_mul]
theorem zkx{b b':Int}{sh sh':List Int}(hs:sh.map (· * b')=sh'.map (· * b)){p p':List Int×List #[22]}(h:JQ b b' p p'):JQ b b' (zA sh p) (zA sh' p'):=by
 have e:(addL p.1 sh).map (· * b')=(addL p'.1 sh').map (· * b):=by rw [zgf,zgf,h.1,hs]
 refine⟨e,?_⟩
 show(p.2++[addL p.1 sh]).map _=(p'.2++[addL p'.1 sh']).map _
 rw [Ya2,Ya2,h.2,Ya1,Ya1,e];rfl
theorem zdJ{b b':Int}{sh sh':List Int}(hs:sh.map (· * b')=sh'.map (· * b)):∀ (n:Nat) {p p':List Int×List #[22]},JQ b b' p p'->JQ b b' (rep (zA sh) n p) (rep (zA sh') n p')
 | 0,_,_,h=>h
 | n+1,_,_,h=>zdJ hs n (zkx hs h)
theorem zgd{b b':Int}:∀ (l:List Spell),(∀ s∈l,okW s.2/\parts s.2∣b/\parts s.2∣b')->∀ {p p':List Int×List #[22]},JQ b b' p p'->JQ b b' (runQ b l p) (runQ b' l p')
 | [],_,_,_,h=>h
 | s :: l, hs, p, p', h => by
  obtain⟨h1,h2,h3⟩:=hs s YaV;exact zgd l (fun x hx=>hs x (YaT _ hx)) (zdJ (zia h1 h2 h3) s.1.toNat h)
def zq(l:List Spell):Int:=l.foldl (fun b s=>b*s.2.sum) 1
def quoB(b:Int)(l:List Spell):List #[22]:=(runQ b l (zeros l,[zeros l])).2
theorem zew:∀ (l:List Spell) (b:Int),b∣l.foldl (fun b s=>b*s.2.sum) b
 | [],b=>Int.dvd_refl b
 | s::l,b=>Wa8 (WaE b s.2.sum) (zew l _)
theorem ze4{l:List Spell}{s:Spell}(h:s∈l):s.2.sum∣zq l:=by
 have:∀ (l:List Spell) (b:Int),s∈l->s.2.sum∣l.foldl (fun b s=>b*s.2.sum) b:=by
  intro l
  induction l with
  | nil=>intro b h;cases h
  | cons a l ih=>
   intro b h
   rcases Wa4.mp h with rfl|h
   . exact Wa8 (Int.dvd_mul_left b s.2.sum) (zew l _)
   . exact ih _ h
 exact this l 1 h
theorem zbj:∀ (l:List Spell) (b:Int) (k:Nat),(∀ s∈l,okW s.2)->0<b->Bits k b->0<l.foldl (fun b s=>b*s.2.sum) b/\Bits (k+103*l.length) (l.foldl (fun b s=>b*s.2.sum) b)
 | [],b,k,_,h,hb=>⟨h,hb.mono (by simp)⟩
 | s :: l, b, k, hs, h, hb => by
  have h1:=hs s YaV;have:=zbj l (b*s.2.sum) (k+103) (fun t ht=>hs t (YaT _ ht)) (Int.mul_pos h (jS h1)) (hb.mul (Zm h1))
  exact⟨this.1,this.2.mono (by rw [List.length_cons];omega)⟩
theorem za5{l:List Spell}(h:okS l):0<zq l:=(zbj l 1 1 (fun s hs=>(h.2.1 s hs).2.1) #[1] (by unfold Bits;decide)).1
theorem zbl{l:List Spell}(h:okS l):Bits 900 (zq l):=(zbj l 1 1 (fun s hs=>(h.2.1 s hs).2.1) #[1] (by unfold Bits;decide)).2.mono (by have:=h.1.2;omega)
theorem zjo(ws:List Int):parts ws∣ws.sum:=⟨gcdL ws,zcK.symm⟩
theorem zhb{l:List Spell}(h:okS l):(quo l).map (List.map (· * zq l))=(quoB (zq l) l).map (List.map (· * bot l)):=by
 have:=zgd (b:=bot l) (b':=zq l) l (fun s hs=>⟨(h.2.1 s hs).2.1,zfb l 1 (fun t ht=>(h.2.1 t ht).2.1) s hs,Wa8 (zjo s.2) (ze4 hs)⟩) (p:=(zeros l,[zeros l])) (p':=(zeros l,[zeros l])) ?_
 . exact this.2
 . unfold JQ zeros;simp
theorem zkt(b:Int):∀ (l:List Spell) (p:List Int×List #[22]),(∀ s∈l,1<=s.1)->((runQ b l p).2.length:Int)=p.2.length+tot l:=by
 intro l
 induction l with
 | nil=>intro p _;simp [runQ,tot]
 | cons s l ih=>
  intro p hs;have h1:=hs s YaV;have:=ih (rep (zA (shares b s.2)) s.1.toNat p) fun x hx=>hs x (YaT _ hx)
  show((runQ b l (rep (zA (shares b s.2)) s.1.toNat p)).2.length:Int)=_
  rw [this,ZY];unfold tot;rw [Ya1,List.sum_cons]
  omega
theorem zbF{l:List Spell}(h:okS l)(b:Int):((quoB b l).length:Int)=tot l+1:=by
 unfold quoB;rw [zkt b l _ fun s hs=>(h.2.1 s hs).1]
 simp;omega
def Jx(n:Nat)(p:List Int×List #[22]):Prop:=p.1.length=n/\∀ r∈p.2,r.length=n
theorem zfm{n:Nat}{sh:List Int}(hs:sh.length=n):∀ (k:Nat) (p:List Int×List #[22]),Jx n p->Jx n (rep (zA sh) k p)
 | 0,p,h=>h
 | k + 1, p, h => zfm hs k _ (by
  have e:(addL p.1 sh).length=n:=by rw [zbw (by rw [h.1,hs]),h.1]
  refine⟨e,fun r hr=>?_⟩
  rcases Ya3.mp hr with z|z
  . exact h.2 r z
  . rw [Ya6.mp z];exact e)
theorem zej{n:Nat}(b:Int):∀ (l:List Spell) (p:List Int×List #[22]),(∀ s∈l,s.2.length=n)->Jx n p->Jx n (runQ b l p)
 | [],p,_,h=>h
 | s::l,p,hs,h=>zej b l _ (fun t ht=>hs t (YaT _ ht)) (zfm (by rw [zcN];exact hs s YaV) _ _ h)
theorem zcS{l:List Spell}(h:okS l){b:Int}{r:List Int}(hr:r∈quoB b l):r.length=many l:=
 (zej b l (zeros l,[zeros l]) (fun s hs=>(h.2.1 s hs).2.2) ⟨by unfold zeros;simp,fun r hr=>by rw [Ya6.mp hr];unfold zeros;simp⟩).2 r hr
theorem JS{l:List Spell}(h:okS l):1<=many l/\many l<=8:=by
 cases l with
 | nil=>have:=h.1.1;simp at this
 | cons a r=>exact(h.2.1 a YaV).2.1.1
theorem zlF(b:Int):∀ (l:List Spell) (p:List Int×List #[22]) (x:List Int) (r:List #[22]),p.2=x::r->∃ r',(runQ b l p).2=x::r':=by
 have hrep:∀ (sh:List Int) (k:Nat) (p:List Int×List #[22]) (x:List Int) (r:List #[22]),p.2=x::r->∃ r',(rep (zA sh) k p).2=x::r':=by
  intro sh k
  induction k with
  | zero=>intro p x r h;exact⟨r,h⟩
  | succ k ih=>intro p x r h;exact ih (zA sh p) x (r++[addL p.1 sh]) (by show p.2++[_]=_;rw [h];rfl)
 intro l
 induction l with
 | nil=>intro p x r h;exact⟨r,h⟩
 | cons s l ih=>
  intro p x r h;obtain⟨r',h'⟩:=hrep (shares b s.2) s.1.toNat p x r h;exact ih _ x r' h'
theorem zkF(b:Int)(l:List Spell):∃ r,quoB b l=zeros l::r:=zlF b l _ _ [] rfl
def Far(S:List Int)(n:Int):Prop:=0<=n/\(∀ x∈S,x<=n/\-x<=n)/\(n=0\/n∈S\/-n∈S)
theorem Far.le{S:List Int}{n m:Int}(h:Far S n)(h':Far S m):n<=m:=by
 rcases h.2.2 with z|z|z
 . rw [z];exact h'.1
 . exact(h'.2.1 n z).1
 . have:=(h'.2.1 (-n) z).2;omega
theorem Far.uniq{S:List Int}{n m:Int}(h:Far S n)(h':Far S m):n=m:=Int.le_antisymm (h.le h') (h'.le h)
theorem Far.nil:Far [] 0:=⟨#[1],fun x h=>absurd h (by simp),.inl rfl⟩
theorem zeO{a b:Int}(h:0<b):0<b/(Int.gcd a b:Int)/\Int.gcd (a/(Int.gcd a b:Int)) (b/(Int.gcd a b:Int))=1/\a/(Int.gcd a b:Int)*(Int.gcd a b:Int)=a/\b/(Int.gcd a b:Int)*(Int.gcd a b:Int)=b:=by
 have hg:0<Int.gcd a b:=Wab _ #[0]
 have h1:(Int.gcd a b:Int)∣a:=WaP a b;have h2:(Int.gcd a b:Int)∣b:=WaD a b;exact⟨Int.ediv_pos_of_pos_of_dvd h #[0] h2,Int.gcd_ediv_gcd_ediv_gcd hg,Yaw h1,Yaw h2⟩
def Zq(n:Nat)(T:Nat)(row:List Int):Prop:=row.length=T/\∀ c∈row,0<=c/\c<(n:Int)
theorem zhi{ws:List Int}(h:∀ w∈ws,0<=w)(h1:(1:Int)∈ws):ws.sum≠0:=by
 induction ws with
 | nil=>cases h1
 | cons a r ih=>
  rw [List.sum_cons];have h2:=Za (ws:=r) fun w hw=>h w (YaT _ hw)
  have h3:=h a YaV
  rcases Wa4.mp h1 with rfl|h1
  . omega
  . have:=ih (fun w hw=>h w (YaT _ hw)) h1
    omega
theorem zlI{l:List Spell}{B:Int}(h:∀ s∈l,s.1<=B):tot l<=l.length*B:=by
 unfold tot
 induction l with
 | nil=>simp
 | cons a r ih=>
  have h1:=h a YaV;have h2:=ih fun s hs=>h s (YaT _ hs)
  rw [Ya1,List.sum_cons,List.length_cons,Int.natCast_succ,Int.add_mul]
  omega
theorem ziC(l:List Spell)(s:Spell):zq (l++[s])=zq l*s.2.sum:=by unfold zq;rw [WaB];rfl
theorem zeE{α : Type}(f:α->α):∀ (n:Nat) (x:α),rep f (n+1) x=f (rep f n x)
 | 0,x=>rfl
 | n+1,x=>by show rep f (n+1) (f x)=f (rep f n (f x));exact zeE f n (f x)
theorem zfF{α : Type}(xs:List α)(x:α):atI (xs++[x]) (-1)=some x:=by
 unfold atI ixN;rw [if_neg #[1],if_pos (by rw [YaS];simp;omega),YaS]
 have:(-1+((xs.length+[x].length:Nat):Int)).toNat=xs.length:=#[6]
 rw [this]
 simp
theorem zdg{xs:List Int}{i:Nat}(h:i<xs.length):atI (xs.map PyData.int) (0+(i:Int))=some (PyData.int xs[i]):=by
 rw [Wbh];have:(xs.map PyData.int)[i]?=some (PyData.int xs[i]):=by rw [Ya0,YaQ h];rfl
 exact z8 this
theorem c64:JY 10 64:=powB (k:=4) (by unfold Bits;decide) #[1] #[1]
abbrev Rat2:=Int×Int
def dQ(r:Rat2):D:=.tuple [.int r.1,.int r.2]
def dP(p:Rat2×Rat2):D:=.tuple [dQ p.1,dQ p.2]
def dPs(l:List (Rat2×Rat2)):D:=.list (l.map dP)
def okQ(r:Rat2):Prop:=0<r.2/\Bits 1200 r.1/\Bits 1200 r.2
def inQ(r:Rat2):Prop:=0<=r.1/\r.1<=10*r.2
def okB(n:Nat)(l:List (Rat2×Rat2)):Prop:=l.length=n/\∀ p∈l,inQ p.1/\inQ p.2
def zF(b:Int)(r:Rat2):Int:=r.1*b/r.2
theorem J4{rows:List #[22]}{i:Nat}(h:i<rows.length):atI (rows.map dI) (i:Int)=some (PyData.list (rows[i].map PyData.int)):=by
 have:(rows.map dI)[i]?=some (PyData.list (rows[i].map PyData.int)):=by rw [Ya0,YaQ h];rfl
 exact z8 this
theorem jJ{xs:List Int}{i:Int}(h0:0<=i)(h:i<xs.length):atI (xs.map PyData.int) i=some (PyData.int (xs.getD i.toNat 0)):=by
 obtain⟨x,h1,_,h2⟩:=zbM (xs:=xs) h0 h;rw [Zt,h1,YaP,h2];rfl
def jP(p:Int×Int):D:=.tuple [.int p.1,.int p.2]
def jm(b:Int)(l:List (Rat2×Rat2)):List (Int×Int):=l.map fun p=>(zF b p.1,zF b p.2)
theorem zhH{ws:List Int}(h:∀ w∈ws,0<=w){w:Int}(hw:w∈ws):w<=ws.sum:=by
 induction ws with
 | nil=>cases hw
 | cons a r ih=>
  rw [List.sum_cons];have h2:=Za (ws:=r) fun w hw=>h w (YaT _ hw)
  have h3:=h a YaV
  rcases Wa4.mp hw with rfl|hw
  . omega
  . have:=ih (fun w hw=>h w (YaT _ hw)) hw
    omega
theorem zhz{b:Int}{ws:List Int}(h:okW ws)(hb:0<=b){x:Int}(hx:x∈shares b ws):x<=b:=by
 unfold shares at hx;obtain⟨w,hw,rfl⟩:=Ya7.mp hx;have h1:=zhH (fun w hw=>(h.2.1 w hw).1) hw
 refine Wap (jS h) ?_
 rw [Wbg w b];exact Int.mul_le_mul_of_nonneg_left h1 hb
def leP(b:Int)(p:List Int×List #[22]):Prop:=1<=p.2.length/\(∀ x∈p.1,x<=((p.2.length:Int) - 1)*b)/\∀ r∈p.2,∀ x∈r,x<=((p.2.length:Int) - 1)*b
theorem zlx{b:Int}{sh:List Int}(hb:0<=b)(hs:∀ x∈sh,x<=b){p:List Int×List #[22]}(h:leP b p):leP b (zA sh p):=by
 obtain⟨h1,h2,h3⟩:=h;have e:(((zA sh p).2.length:Nat):Int) - 1=p.2.length:=by show(((p.2++[_]).length:Nat):Int) - 1=_;rw [YaS];simp
 have hm:((p.2.length:Int) - 1)*b+b=(p.2.length:Int)*b:=by rw [Wbn,Int.one_mul];omega
 have ha:∀ x∈addL p.1 sh,x<=(p.2.length:Int)*b:=fun x hx=>by
  unfold addL at hx;obtain⟨q,hq,rfl⟩:=Ya7.mp hx;obtain⟨q1,q2⟩:=WaW (a:=q.1) (b:=q.2) hq;have:=h2 _ q1;have:=hs _ q2
  omega
 refine⟨by show 1<=(p.2++[_]).length;rw [YaS];simp,by rw [e];exact ha,fun r hr x hx=>?_⟩
 rw [e]
 rcases Ya3.mp hr with z|z
 . have:=h3 r z x hx;omega
 . rw [Ya6.mp z] at hx;exact ha x hx
theorem ze5{b:Int}{sh:List Int}(hb:0<=b)(hs:∀ x∈sh,x<=b):∀ (n:Nat) {p:List Int×List #[22]},leP b p->leP b (rep (zA sh) n p)
 | 0,_,h=>h
 | n+1,_,h=>ze5 hb hs n (zlx hb hs h)
theorem zdI{b:Int}(hb:0<=b):∀ (l:List Spell) {p:List Int×List #[22]},(∀ s∈l,okW s.2)->leP b p->leP b (runQ b l p)
 | [],_,_,h=>h
 | s::l,p,hl,h=>zdI hb l (p:=rep (zA (shares b s.2)) s.1.toNat p) (fun t ht=>hl t (YaT _ ht)) (ze5 hb (fun x hx=>zhz (hl s YaV) hb hx) _ h)
theorem zbD{l:List Spell}(h:okS l){b:Int}(hb:0<b):∀ r∈quoB b l,∀ x∈r,x<=tot l*b:=fun r hr x hx=>by
 have:=zdI (b:=b) #[0] l (p:=(zeros l,[zeros l])) (fun s hs=>(h.2.1 s hs).2.1) ⟨by simp,fun x hx=>by
  have:x=0:=Wai hx;rw [this];simp,fun r hr x hx=>by
  rw [Ya6.mp hr] at hx;have:x=0:=Wai hx;rw [this];simp⟩
 have h2:=this.2.2 r hr x hx;have h3:=zbF h b;unfold quoB at h3;have e:(((runQ b l (zeros l,[zeros l])).2.length:Nat):Int) - 1=tot l:=#[0]
 rw [e] at h2;exact h2
def nnP(p:List Int×List #[22]):Prop:=(∀ x∈p.1,0<=x)/\∀ r∈p.2,∀ x∈r,0<=x
theorem zkW{sh:List Int}(hs:∀ x∈sh,0<=x){p:List Int×List #[22]}(h:nnP p):nnP (zA sh p):=by
 have ha:∀ x∈addL p.1 sh,0<=x:=fun x hx=>by
  unfold addL at hx;obtain⟨q,hq,rfl⟩:=Ya7.mp hx;obtain⟨q1,q2⟩:=WaW (a:=q.1) (b:=q.2) hq;have:=h.1 _ q1;have:=hs _ q2
  omega
 refine⟨ha,fun r hr x hx=>?_⟩
 rcases Ya3.mp hr with z|z
 . exact h.2 r z x hx
 . rw [Ya6.mp z] at hx;exact ha x hx
theorem zdB{sh:List Int}(hs:∀ x∈sh,0<=x):∀ (n:Nat) {p:List Int×List #[22]},nnP p->nnP (rep (zA sh) n p)
 | 0,_,h=>h
 | n+1,_,h=>zdB hs n (zkW hs h)
theorem zgj{b:Int}(hb:0<=b):∀ (l:List Spell) {p:List Int×List #[22]},(∀ s∈l,okW s.2)->nnP p->nnP (runQ b l p)
 | [],_,_,h=>h
 | s :: l, p, hl, h => zgj hb l (p := rep (zA (shares b s.2)) s.1.toNat p) (fun t ht => hl t (YaT _ ht)) (zdB (fun x hx => by
  unfold shares at hx;obtain⟨w,hw,rfl⟩:=Ya7.mp hx;have hok:=hl s YaV;exact WaY (YaK (hok.2.1 w hw).1 hb) (by have:=jS hok;omega)) _ h)
theorem ziS{l:List Spell}(h:okS l){b:Int}(hb:0<=b):∀ r∈quoB b l,∀ x∈r,0<=x:=
 (zgj hb l (p:=(zeros l,[zeros l])) (fun s hs=>(h.2.1 s hs).2.1) ⟨fun x hx=>by rw [Wai hx];decide,fun r hr x hx=>by
  rw [Ya6.mp hr] at hx;rw [Wai hx];decide⟩).2
theorem zdz{g:TG3}{tb:TS3}{A:Ends3}{f:Bool}{enc:Nat->D}{n:Nat}(P:Nat->Env3->Prop)(s:∀ k ρ,k<n->P k ρ->∀ W:Env3->Prop,(∀ ρ',P (k+1) ρ'->W ρ')->g f (enc k) ρ fun ρ'=>tb { A with nx:=W,ct:=W,bk:=A.nx } ρ')(e:∀ ρ,P n ρ->A.nx ρ){ρ : Env3}(h:P 0 ρ):forL g tb A f ((List.range n).map enc) ρ:=by
 refine jL enc (List.range n) (fun done ρ=>P done.length ρ) (fun done x rest ρ hd hp W hW=>?_) (fun ρ hp=>e ρ (by rw [YaG] at hp;exact hp)) h
 have hx:x=done.length:=by
  have h1:(List.range n)[done.length]?=some x:=by rw [hd];simp
  have h2:done.length<n:=by have:=congrArg List.length hd;simp at this;omega
  rw [Yax h2] at h1;exact(WaV h1).symm
 subst hx;have h2:done.length<n:=by have:=congrArg List.length hd;simp at this;omega
 exact s done.length ρ h2 hp W fun ρ' hp'=>hW ρ' (by rw [YaS];exact hp')
def JD(p:Nat->Bool):Nat->Nat->Nat
 | i,0=>i
 | i,m+1=>if p i=true then i else JD p (i+1) m
def zu(n:Nat)(p:Nat->Bool):Nat:=JD p 1 (n - 1)
theorem zl9(p:Nat->Bool):∀ (m i:Nat),i<=JD p i m/\JD p i m<=i+m/\(∀ t,i<=t->t<JD p i m->p t=false)/\(JD p i m<i+m->p (JD p i m)=true):=by
 intro m
 induction m with
 | zero=>intro i;exact⟨YaY _,YaY _,fun t h1 h2=>absurd h2 (by show ¬t<i;omega),fun h=>absurd h (by show ¬i<i+0;omega)⟩
 | succ m ih=>
  intro i;unfold JD
  by_cases h:p i=true
  . rw [if_pos h];exact⟨YaY _,#[0],fun t h1 h2=>absurd h2 #[0],fun _=>h⟩
  . rw [if_neg h]
    obtain⟨a1,a2,a3,a4⟩:=ih (i+1);refine⟨#[0],#[0],fun t h1 h2=>?_,fun hh=>a4 #[0]⟩
    by_cases e:t=i
    . subst e;simpa using h
    . exact a3 t #[0] h2
theorem Jh{n:Nat}(hn:1<=n)(p:Nat->Bool):1<=zu n p/\zu n p<=n/\(∀ t,1<=t->t<zu n p->p t=false)/\(zu n p<n->p (zu n p)=true):=by
 obtain⟨a1,a2,a3,a4⟩:=zl9 p (n - 1) 1;exact⟨a1,by unfold zu;omega,a3,fun h=>a4 (by unfold zu at h;omega)⟩
theorem J5{n:Nat}(hn:1<=n){p:Nat->Bool}{r:Nat}(h1:1<=r)(h2:r<=n)(h3:∀ t,1<=t->t<r->p t=false)(h4:r<n->p r=true):zu n p=r:=by
 obtain⟨a1,a2,a3,a4⟩:=Jh hn p
 rcases Nat.lt_trichotomy (zu n p) r with z|z|z
 . have:=h3 _ a1 z;rw [a4 #[0]] at this;cases this
 . exact z
 . have:=a3 _ h1 z;rw [h4 #[0]] at this;cases this
theorem zf2{n:Nat}(hn:1<=n){p q:Nat->Bool}(h:∀ t,1<=t->t<n->p t=q t):zu n p=zu n q:=by
 obtain⟨a1,a2,a3,a4⟩:=Jh hn q;exact J5 hn a1 a2 (fun t h1 h2=>by rw [h t h1 #[0]];exact a3 t h1 h2) fun hh=>by rw [h _ a1 hh];exact a4 hh
abbrev Win:=Int×Int×Int×Option Int
def dO:Option Int->D
 | none=>.none
 | some i=>.int i
theorem zlY(f:Bool)(o:Option Int):isNone (Cl.sh f (dO o))=o.isNone:=by cases o<;>rfl
def dW(w:Win):D:=.tuple [.int w.1,.int w.2.1,.int w.2.2.1,dO w.2.2.2]
def winP(n:Nat)(e l:Nat->Bool):Int×Option Int:=(zu n e,if zu n l=n then none else some (zu n l:Nat))
def jl(n:Nat)(w:Int×Option Int):Prop:=w.1<n\/w.2≠none
def IsW(n:Nat)(k:Int)(W:Int->Int×Option Int):Int->List Win->Prop
 | j,[]=>¬jl n (W j)
 | j,w::r=>jl n (W j)/\w=(k,j,(W j).1,(W j).2)/\IsW n k W (j+1) r
theorem IsW.uniq{n:Nat}{k:Int}{W W':Int->Int×Option Int}:∀ {ws ws':List Win} {j:Int},(∀ i,j<=i->W i=W' i)->IsW n k W j ws->IsW n k W' j ws'->ws=ws'
 | [],[],_,_,_,_=>rfl
 | [], w :: r, j, e, h, h' => by
  have h1:¬jl n (W j):=h;have h2:=h'.1;rw [<-e j (Wbm j)] at h2;exact absurd h2 h1
 | w :: r, [], j, e, h, h' => by
  have h1:¬jl n (W' j):=h';have h2:=h.1;rw [e j (Wbm j)] at h2;exact absurd h2 h1
 | w :: r, w' :: r', j, e, h, h' => by
  have e1:=h.2.1;have e2:=h'.2.1;rw [<-e j (Wbm j)] at e2;rw [e1,e2,IsW.uniq (fun i hi=>e i #[0]) h.2.2 h'.2.2]
theorem IsW.len{n:Nat}{k:Int}{W:Int->Int×Option Int}{M:Int}(hM:∀ i,jl n (W i)->i<=M):∀ {ws:List Win} {j:Int},IsW n k W j ws->j<=M+1->(ws.length:Int)<=M+1 - j
 | [],j,_,hj=>by simp;omega
 | w :: r, j, h, hj => by
  have h1:=hM j h.1;have:=IsW.len hM h.2.2 #[0]
  rw [List.length_cons];omega
def zg(q:List #[22])(k:Nat):List Int:=q.map fun r=>r.getD k 0
def winB(b:Int)(path:List Int)(room:Int×Int)(j:Int):Int×Option Int:=winP path.length (fun t=>decide (j*b - room.2<=path.getD t 0)) (fun t=>decide ((j - 1)*b+room.1+1<=path.getD t 0))
theorem zdf{b:Int}{path:List Int}{room:Int×Int}{M:Int}(hb:0<b)(h1:1<=path.length)(hp:∀ t,path.getD t 0+room.2<=M*b)(hr:0<=room.2)(hr1:0<=room.1)(j:Int)(h:jl path.length (winB b path room j)):j<=M+1:=by
 have key:∀ x:Int,x*b<=M*b+b->x<=M+1:=fun x hx=>by
  have:x*b<=(M+1)*b:=by rw [Int.add_mul,Int.one_mul];exact hx
  exact YaF this hb
 rcases h with h|h
 . obtain⟨_,_,_,a4⟩:=Jh h1 (fun t=>decide (j*b - room.2<=path.getD t 0))
   have := of_decide_eq_true (a4 (by have : ((zu path.length fun t => decide (j * b - room.2 <= path.getD t 0) : Nat) : Int) < path.length := h
                                     omega))
   have h2:=hp (zu path.length fun t=>decide (j*b - room.2<=path.getD t 0))
   exact key j #[0]
 . obtain⟨_,a2,_,a4⟩:=Jh h1 (fun t=>decide ((j - 1)*b+room.1+1<=path.getD t 0))
   have hne:zu path.length (fun t=>decide ((j - 1)*b+room.1+1<=path.getD t 0))≠path.length:=fun z=>h (if_pos z)
   have:=of_decide_eq_true (a4 #[0])
   have h2:=hp (zu path.length fun t=>decide ((j - 1)*b+room.1+1<=path.getD t 0))
   have h3:(j - 1)*b=j*b - b:=by rw [Wbn,Int.one_mul]
   exact key j #[0]
def mxO(a y:Int):Int:=if a<y then y else a
def mx(ld:Nat->Nat->Int)(k:Nat):Nat->Int×Int
 | 0=>(0,0)
 | t+1=>(mxO (mx ld k t).1 (-(ld t k)),mxO (mx ld k t).2 (ld t k))
def pr2(p:Int×Int):List D:=[.int p.1,.int p.2]
theorem zfX{α β : Type}(f:α->β){xs:List α}{i:Nat}(h:i<xs.length):atI (xs.map f) (0+(i:Int))=some (f xs[i]):=by
 rw [Wbh];exact z8 (by rw [Ya0,YaQ h];rfl)
theorem zmc{α : Type}(f:Nat->α)(n i:Nat)(v:α):((List.range n).map f).set i v=(List.range n).map fun k=>if k=i then v else f k:=by
 refine List.ext_getElem (by simp) fun k h1 h2=>?_
 rw [List.getElem_set]
 by_cases e:i=k
 . subst e;simp
 . rw [if_neg e];simp [Wbo e]
theorem IsW.mem{n:Nat}{k:Int}{W:Int->Int×Option Int}{w:Win}:∀ {ws:List Win} {j:Int},IsW n k W j ws->w∈ws->∃ i,j<=i/\w=(k,i,(W i).1,(W i).2)
 | [],j,_,hw=>by cases hw
 | v :: r, j, h, hw => by
  rcases Wa4.mp hw with z|z
  . exact⟨j,Wbm _,by rw [z];exact h.2.1⟩
  . obtain⟨i,a,b⟩:=IsW.mem h.2.2 z
    exact⟨i,#[0],b⟩
theorem zl6{W:List (List Win)}{w:Win}(h:w∈W.flatten):∃ k,k<W.length/\w∈W.getD k []:=by
 obtain⟨l,hl,hw⟩:=List.mem_flatten.mp h;obtain⟨k,hk,e⟩:=Yam hl;refine⟨k,hk,?_⟩;rw [YaP,YaQ hk];show w∈W[k];rw [e];exact hw
theorem zgQ{W:List (List Win)}{w:Win}{k:Nat}(hk:k<W.length)(h:w∈W.getD k []):w∈W.flatten:=by
 rw [YaP,YaQ hk] at h;exact List.mem_flatten.mpr ⟨W[k],Ya4 hk,h⟩
def tk(p:Nat->Bool)(t:Nat):List Nat:=(List.range t).filter p
theorem IsW.at{n:Nat}{k:Int}{W:Int->Int×Option Int}:∀ {ws:List Win} {j:Int} {i:Nat},IsW n k W j ws->i<ws.length->ws[i]?=some (k,j+i,(W (j+i)).1,(W (j+i)).2)
 | [],j,i,_,h=>by simp at h
 | v :: r, j, 0, h, _ => by
  rw [h.2.1];show some _=some _;rw [show j+((0:Nat):Int)=j by omega]
 | v :: r, j, i + 1, h, hi => by
  have:=IsW.at (i:=i) h.2.2 (by simpa using hi)
  rw [List.getElem?_cons_succ,this,show j+1+(i:Int)=j+((i+1:Nat):Int) by omega]
def moP(n:Nat)(p:List Int×List #[22]):Prop:=p.1.length=n/\∀ k,(∀ i j,i<=j->j<p.2.length->(p.2.getD i []).getD k 0<=(p.2.getD j []).getD k 0)/\∀ i,i<p.2.length->(p.2.getD i []).getD k 0<=p.1.getD k 0
theorem zht{a sh:List Int}(hl:sh.length=a.length)(hs:∀ x∈sh,0<=x)(k:Nat):a.getD k 0<=(addL a sh).getD k 0:=by
 have hal:(addL a sh).length=a.length:=zbw hl.symm
 by_cases hk:k<a.length
 . have hz:(a.zip sh)[k]?=some (a[k],sh[k]'(by omega)):=List.getElem?_zip_eq_some.mpr ⟨YaQ hk,YaQ #[0]⟩
   have h1:(addL a sh).getD k 0=a[k]+sh[k]'(by omega):=by
    unfold addL;rw [YaP,Ya0,hz];rfl
   have h2:a.getD k 0=a[k]:=by rw [YaP,YaQ hk];rfl
   have h3:=hs _ (Ya4 (show k<sh.length by omega))
   rw [h1,h2];omega
 . have h1:a.getD k 0=0:=by rw [YaP,Wao #[0]];rfl
   have h2:(addL a sh).getD k 0=0:=by rw [YaP,Wao #[0]];rfl
   omega
theorem zhx{α : Type}{l:List α}{x d:α}{i:Nat}:(l++[x]).getD i d=if i<l.length then l.getD i d else if i=l.length then x else d:=by
 rw [YaP,YaP]
 by_cases h:i<l.length
 . rw [if_pos h,Yab h]
 . rw [if_neg h,Yae #[0]]
   by_cases e:i=l.length
   . subst e;simp
   . rw [if_neg e,Wao #[6]];rfl
theorem zkR{n:Nat}{sh:List Int}(hl:sh.length=n)(hs:∀ x∈sh,0<=x){p:List Int×List #[22]}(h:moP n p):moP n (zA sh p):=by
 have ha:=zht (a:=p.1) (by rw [hl,h.1]) hs
 refine⟨by show(addL p.1 sh).length=n;rw [zbw (by rw [hl,h.1]),h.1],fun k=>?_⟩
 obtain⟨h1,h2⟩:=h.2 k;have hlen:(zA sh p).2.length=p.2.length+1:=by show(p.2++[_]).length=_;rw [YaS];rfl
 have hget:∀ i,i<=p.2.length->((zA sh p).2.getD i []).getD k 0=if i<p.2.length then(p.2.getD i []).getD k 0 else(addL p.1 sh).getD k 0:=fun i hi=>by
  show((p.2++[addL p.1 sh]).getD i []).getD k 0=_
  rw [zhx]
  by_cases z:i<p.2.length
  . rw [if_pos z,if_pos z]
  . rw [if_neg z,if_neg z,if_pos #[0]]
 have hk:=ha k;refine⟨fun i j hij hj=>?_,fun i hi=>?_⟩
 . rw [hlen] at hj
   rw [hget i #[0],hget j #[0]]
   by_cases z:j<p.2.length
   . rw [if_pos z,if_pos #[0]];exact h1 i j hij z
   . rw [if_neg z]
     by_cases y:i<p.2.length
     . rw [if_pos y];have:=h2 i y;omega
     . rw [if_neg y];exact Wbm _
 . rw [hlen] at hi
   rw [hget i #[0]]
   show _<=(addL p.1 sh).getD k 0
   by_cases y:i<p.2.length
   . rw [if_pos y];have:=h2 i y;omega
   . rw [if_neg y];exact Wbm _
theorem zf7{n:Nat}{sh:List Int}(hl:sh.length=n)(hs:∀ x∈sh,0<=x):∀ (m:Nat) {p:List Int×List #[22]},moP n p->moP n (rep (zA sh) m p)
 | 0,_,h=>h
 | m+1,_,h=>zf7 hl hs m (zkR hl hs h)
theorem zev{n:Nat}{b:Int}(hb:0<=b):∀ (l:List Spell) {p:List Int×List #[22]},(∀ s∈l,okW s.2/\s.2.length=n)->moP n p->moP n (runQ b l p)
 | [],_,_,h=>h
 | s :: l, p, hl, h => zev hb l (p := rep (zA (shares b s.2)) s.1.toNat p) (fun t ht => hl t (YaT _ ht)) (zf7 (by rw [zcN]; exact (hl s YaV).2) (fun x hx => by
  unfold shares at hx;obtain⟨w,hw,rfl⟩:=Ya7.mp hx;have hok:=(hl s YaV).1;exact WaY (YaK (hok.2.1 w hw).1 hb) (by have:=jS hok;omega)) _ h)
theorem zeI(q:List #[22])(k s:Nat):(zg q k).getD s 0=(q.getD s []).getD k 0:=by
 unfold zg;simp only [YaP,Ya0];cases q[s]? <;> simp
theorem zhg{l:List Spell}(h:okS l){b:Int}(hb:0<=b)(k s t:Nat)(hst:s<=t)(ht:t<(quoB b l).length):(zg (quoB b l) k).getD s 0<=(zg (quoB b l) k).getD t 0:=by
 have h0:∀ i,(([zeros l]:List #[22]).getD i []).getD k 0=0:=fun i=>by
  cases i with
  | zero=>
   show(zeros l).getD k 0=0
   unfold zeros;rw [YaP,Yad]
   split<;>rfl
  | succ i=>simp
 have hm:=zev hb l (n:=many l) (p:=(zeros l,[zeros l])) (fun s hs=>⟨(h.2.1 s hs).2.1,(h.2.1 s hs).2.2⟩) ⟨by unfold zeros;simp,fun k=>⟨fun i j _ hj=>?_,fun i hi=>?_⟩⟩
 . rw [zeI,zeI]
   exact(hm.2 k).1 s t hst ht
 . have e1:j=0:=by simpa using hj
   have e2:i=0:=#[0]
   subst e1 e2;exact Wbm _
 . have e2:i=0:=by simpa using hi
   subst e2;exact Wbm _
theorem IsW.cnt{n:Nat}{k:Int}{F:Int->Int×Option Int}{N:Int}:∀ {ws:List Win} {j:Int},IsW n k F j ws->(ws.filter fun w=>decide (w.2.1<=N)).length=min ws.length (N+1 - j).toNat
 | [],j,_=>by simp
 | v :: r, j, h => by
  have ih:=IsW.cnt (N:=N) h.2.2;have e:v.2.1=j:=by rw [h.2.1]
  rw [YaM,e]
  by_cases z:j<=N
  . rw [decide_eq_true z,if_pos rfl,List.length_cons,List.length_cons,ih];omega
  . rw [decide_eq_false z,if_neg #[1],ih,List.length_cons];omega
def lowQ(a b:Int):Rat2:=(a/(Int.gcd a b:Int),b/(Int.gcd a b:Int))
theorem zjD{a b:Int}(hb:0<b)(ha:Bits 1100 a)(hB:Bits 1100 b):okQ (lowQ a b):=by
 obtain⟨l1,_,_,_⟩:=zeO (a:=a) hb;exact⟨l1,(ha.le (Yay _ _)).mono #[1],(hB.le (Yay _ _)).mono #[1]⟩
theorem zlK{a b:Int}(hb:0<b)(h0:0<=a)(h1:a<=10*b):inQ (lowQ a b):=by
 obtain⟨l1,l2,l3,l4⟩:=zeO (a:=a) hb;have hg:=zgr (a:=a) hb;refine⟨WaY h0 #[0],?_⟩
 show a/(Int.gcd a b:Int)<=10*(b/(Int.gcd a b:Int))
 generalize (Int.gcd a b:Int)=g at *;generalize a/g=x at *;generalize b/g=y at *;refine YaF (a:=g) ?_ hg;rw [Wa9,l3,l4];exact h1
theorem zbO{α : Type}[DecidableEq α]:∀ {L M:List α},L.Nodup->(∀ x∈L,x∈M)->L.length<=M.length
 | [],_,_,_=>Wbl _
 | a :: L, M, nd, h => by
  have ha:=h a YaV;have:=zbO (L:=L) (M:=M.erase a) (YaB.mp nd).2 fun x hx=>by
   have hne:x≠a:=fun e=>(YaB.mp nd).1 (e ▸ hx)
   exact(List.mem_erase_of_ne hne).mpr (h x (YaT _ hx))
  rw [List.length_erase_of_mem ha] at this;have h1:0<M.length:=List.length_pos_of_mem ha;rw [List.length_cons];omega
def cnt(row:List Int)(c:Int):Int:=((row.filter fun x=>decide (x=c)).length:Int)
def zfL(t:Int):Option Int->Prop
 | none=>True
 | some x=>t<=x
def IsWs(l:List Spell)(bs:List (Rat2×Rat2))(W:List (List Win)):Prop:=W.length=many l/\∀ k,k<many l->IsW (quo l).length k (winB (bot l) (zg (quo l) k) ((jm (bot l) bs).getD k (0,0))) 1 (W.getD k [])
theorem IsWs.get{l:List Spell}{bs:List (Rat2×Rat2)}{W:List (List Win)}(h:IsWs l bs W){w:Win}(hw:w∈W.flatten):∃ k,k<many l/\∃ i:Nat,i<(W.getD k []).length/\w=((k:Int),1+(i:Int),(winB (bot l) (zg (quo l) k) ((jm (bot l) bs).getD k (0,0)) (1+(i:Int))).1,(winB (bot l) (zg (quo l) k) ((jm (bot l) bs).getD k (0,0)) (1+(i:Int))).2):=by
 obtain⟨k,hk,hw⟩:=zl6 hw;rw [h.1] at hk;obtain⟨i,hi,e⟩:=Yam hw;have:=(h.2 k hk).at hi;rw [YaQ hi,e] at this;exact⟨k,hk,i,hi,WaV this⟩
theorem IsWs.has{l:List Spell}{bs:List (Rat2×Rat2)}{W:List (List Win)}(h:IsWs l bs W){k i:Nat}(hk:k<many l)(hi:i<(W.getD k []).length):((k:Int),1+(i:Int),(winB (bot l) (zg (quo l) k) ((jm (bot l) bs).getD k (0,0)) (1+(i:Int))).1,(winB (bot l) (zg (quo l) k) ((jm (bot l) bs).getD k (0,0)) (1+(i:Int))).2)∈W.flatten:=
 zgQ (by rw [h.1];exact hk) (Yah ((h.2 k hk).at hi))
theorem IsWs.uniq{l:List Spell}{bs:List (Rat2×Rat2)}{W W':List (List Win)}(h:IsWs l bs W)(h':IsWs l bs W'):W=W':=by
 refine List.ext_getElem (by rw [h.1,h'.1]) fun k h1 h2=>?_
 have hk:k<many l:=by rw [<-h.1];exact h1
 have:=IsW.uniq #[4] (h.2 k hk) (h'.2 k hk)
 rw [YaP,YaP,YaQ h1,YaQ h2] at this;exact this
theorem zf1{α : Type}{c:Nat}:∀ {L:List (List α)},(∀ l∈L,l.length<=c)->L.flatten.length<=L.length*c
 | [],_=>by simp
 | a :: r, h => by
  have:=zf1 (L:=r) fun l hl=>h l (YaT _ hl)
  have:=h a YaV;rw [List.flatten_cons,YaS,List.length_cons,Nat.add_mul,Nat.one_mul]
  omega
theorem IsWs.small{l:List Spell}(hok:okS l){bs:List (Rat2×Rat2)}(hB:okB (many l) bs)(ho:∀ p∈bs,okQ p.1/\okQ p.2){W:List (List Win)}(h:IsWs l bs W):W.flatten.length<1000:=by
 have hql:=zab hok;have htn:=jV fun s hs=>(hok.2.1 s hs).1
 have hbp:=zbn hok;have hm:=JS hok;have key:∀ ws∈W,ws.length<=71:=fun ws hws=>by
  obtain⟨k,hk,e⟩:=Yam hws;have hk':k<many l:=by rw [<-h.1];exact hk
  have hIs:=h.2 k hk';have e2:W.getD k []=ws:=by rw [YaP,YaQ hk];exact e
  rw [e2] at hIs;have hkb:k<bs.length:=by rw [hB.1];exact hk'
  have er:(jm (bot l) bs).getD k (0,0)=(zF (bot l) bs[k].1,zF (bot l) bs[k].2):=by
   rw [YaP];unfold jm;rw [Ya0,YaQ hkb];rfl
  have z:=hB.2 bs[k] (Ya4 hkb);have y:=ho bs[k] (Ya4 hkb);have r1:0<=zF (bot l) bs[k].1:=WaY (YaK z.1.1 #[0]) (by have:=y.1.1;omega)
  have r2:0<=zF (bot l) bs[k].2:=WaY (YaK z.2.1 #[0]) (by have:=y.2.1;omega)
  have r3:zF (bot l) bs[k].2<=10*bot l:=by
   refine Wap y.2.1 ?_
   have h1:bs[k].2.1*bot l<=10*bs[k].2.2*bot l:=Ybe z.2.2 #[0]
   have e1:10*bs[k].2.2*bot l=10*bot l*bs[k].2.2:=by ac_rfl
   omega
  have hp:∀ t,(zg (quo l) k).getD t 0+zF (bot l) bs[k].2<=70*bot l:=fun t=>by
   have:(zg (quo l) k).getD t 0<=60*bot l:=by
    rw [YaP];cases ht:(zg (quo l) k)[t]? with
    | none=>show(0:Int)<=_;omega
    | some x=>
     show x<=_
     unfold zg at ht;rw [Ya0] at ht;obtain⟨r,hr,rfl⟩:=YaJ.mp ht;rw [YaP];cases hx:r[k]? with
     | none=>show(0:Int)<=_;omega
     | some x=>
      have h1:=zbD hok hbp r (Yah hr) x (Yah hx);have h2:tot l*bot l<=60*bot l:=Ybe hok.2.2 #[0]
      show x<=_
      omega
   omega
  have hpl:(zg (quo l) k).length=(quo l).length:=by unfold zg;rw [YaR]
  rw [er] at hIs;have:=IsW.len (M:=71) (fun i hi=>zdf (room:=(zF (bot l) bs[k].1,zF (bot l) bs[k].2)) hbp (by rw [hpl];omega) hp r2 r1 i (by rw [hpl];exact hi)) hIs #[1]
  omega
 have:=zf1 key;have h2:W.length*71<=8*71:=Nat.mul_le_mul_right _ (by rw [h.1];exact hm.2)
 omega
theorem atI2{α : Type}{x y z:α}{xs:List α}:atI (x::y::z::xs) 2=some z:=z8 (j:=2) rfl
theorem atI3{α : Type}{x y z w:α}{xs:List α}:atI (x::y::z::w::xs) 3=some w:=z8 (j:=3) rfl
theorem hu65{A:Around}{k:Nat}(hr:Room k A):A.units+65<cLine:=by have:=hr.un;omega
abbrev Rule:=Str×Int×Int
def dRl(r:Rule):D:=.tuple [.str r.1,.int r.2.1,.int r.2.2]
def dRs(rs:List Rule):D:=.list (rs.map dRl)
def okRl(T n:Int)(r:Rule):Prop:=(r.1 = "fixed"\/r.1 = "barred")/\(1<=r.2.1/\r.2.1<=T)/\0<=r.2.2/\r.2.2<n
def okRs(T n:Int)(rs:List Rule):Prop:=∀ r∈rs,okRl T n r
def txtR(rs:List Rule):Prop:=∀ r∈rs,SeqAt.shaped (.str r.1)=true
theorem zV(t:Tb)(k v k':Int):getM (putM t k v) k'=if k=k' then some v else getM t k':=by
 unfold putM
 split
 . rename_i h
   induction t with
   | nil=>cases h
   | cons p r ih=>
    unfold getM at ih ⊢;rw [Ya1,List.find?_cons,List.find?_cons]
    by_cases e:p.1=k
    . rw [if_pos e]
      by_cases e':k=k'
      . subst e'
        simp [e]
      . have e2:¬p.1=k':=fun z=>e' (e.symm.trans z)
        simp only [e2,decide_false]
        by_cases hr:(r.any fun p=>decide (p.1=k))=true
        . exact ih hr
        . rw [if_neg e']
          have hm:r.map (fun p=>if p.1=k then(p.1,v) else p)=r:=by
           refine(Yat fun p hp=>?_).trans (List.map_id r)
           have:¬p.1=k:=fun z=>hr (WaQ.mpr ⟨p,hp,decide_eq_true z⟩)
           rw [if_neg this];rfl
          rw [hm]
    . rw [if_neg e]
      rw [List.any_cons,decide_eq_false e,Wa6] at h
      by_cases e':p.1=k'
      . have e2:¬k=k':=fun z=>e (e'.trans z.symm)
        simp [e',e2]
      . simp only [e',decide_false]
        exact ih h
 . rename_i h
   unfold getM;rw [List.find?_append]
   by_cases e:k=k'
   . subst e
     have:t.find? (fun p=>decide (p.1=k))=none:=Wau.mpr fun p hp z=>h (WaQ.mpr ⟨p,hp,z⟩)
     rw [this];simp
   . rw [if_neg e]
     have:([(k,v)]:Tb).find? (fun p=>decide (p.1=k'))=none:=by simp [e]
     rw [this,Option.or_none]
theorem JJ{t:Tb}{k v:Int}(h:getM t k=some v):(k,v)∈t:=by
 unfold getM at h;cases e:t.find? (fun p=>decide (p.1=k)) with
 | none=>rw [e] at h;cases h
 | some r=>
  rw [e] at h;have h1:=List.mem_of_find?_eq_some e;have h2:=List.find?_some e;have h3:r.1=k:=of_decide_eq_true h2;have h4:r.2=v:=WaV h;rw [<-h3,<-h4];exact h1
def InR(x:Int)(A:Nat):Prop:=0<=x/\x<(A:Int)
theorem Zs{L:List Int}{A:Nat}(nd:L.Nodup)(h:∀ x∈L,InR x A):L.length<=A:=by
 have:=zbO (M:=(List.range A).map fun i:Nat=>(i:Int)) nd fun x hx=>by
  obtain⟨h0,h1⟩:=h x hx;exact Ya7.mpr ⟨x.toNat,Yba.mpr #[0],#[0]⟩
 simpa using this
structure TbOk(t:Tb)(A B:Nat):Prop where
 nd:(t.map (·.1)).Nodup
 inn:∀ p∈t,InR p.1 A/\InR p.2 B
theorem TbOk.nil(A B:Nat):TbOk [] A B:=⟨Wa2,fun p h=>by cases h⟩
theorem TbOk.len{t:Tb}{A B:Nat}(h:TbOk t A B):t.length<=A:=by
 have:=Zs h.nd fun x hx=>by
  obtain⟨p,hp,rfl⟩:=Ya7.mp hx;exact(h.inn p hp).1
 simpa using this
theorem TbOk.get{t:Tb}{A B:Nat}(h:TbOk t A B){k v:Int}(e:getM t k=some v):InR k A/\InR v B:=h.inn _ (JJ e)
theorem zlj(t:Tb)(k v:Int):(putM t k v).map (·.1)=if k∈t.map (·.1) then t.map (·.1) else t.map (·.1)++[k]:=by
 have ha:((t.any fun p=>decide (p.1=k))=true)↔k∈t.map (·.1):=by
  rw [WaQ,Ya7];exact⟨fun⟨p,h1,h2⟩=>⟨p,h1,of_decide_eq_true h2⟩,fun⟨p,h1,h2⟩=>⟨p,h1,decide_eq_true h2⟩⟩
 unfold putM
 by_cases h:k∈t.map (·.1)
 . rw [if_pos (ha.mpr h),if_pos h,YaD]
   refine Yat fun p _=>?_
   show(if p.1=k then(p.1,v) else p).1=p.1
   split<;>rfl
 . rw [if_neg (fun z=>h (ha.mp z)),if_neg h,Ya2];rfl
theorem TbOk.put{t:Tb}{A B:Nat}(h:TbOk t A B){k v:Int}(hk:InR k A)(hv:InR v B):TbOk (putM t k v) A B:=by
 refine⟨?_,fun p hp=>?_⟩
 . rw [zlj]
   split
   . exact h.nd
   . rename_i n
     exact WaA.mpr ⟨h.nd,by simp,fun a ha b hb z=>n (by rw [Ya6.mp hb] at z;rw [<-z];exact ha)⟩
 . unfold putM at hp
   split at hp
   . obtain⟨q,hq,rfl⟩:=Ya7.mp hp
     have:=h.inn q hq
     split
     . exact⟨this.1,hv⟩
     . exact this
   . rcases Ya3.mp hp with z|z
     . exact h.inn p z
     . rw [Ya6.mp z];exact⟨hk,hv⟩
theorem ziu{t:Tb}{k v:Int}(h:getM t k=none):(putM t k v).length=t.length+1:=by
 unfold putM;rw [if_neg,YaS]
 . rfl
 . intro z
   obtain⟨p,hp,e⟩:=WaQ.mp z;have e:p.1=k:=of_decide_eq_true e;unfold getM at h;have:(t.find? fun p=>decide (p.1=k)).isSome=true:=List.find?_isSome.mpr ⟨p,hp,decide_eq_true e⟩
   cases y:t.find? (fun p=>decide (p.1=k)) with
   | none=>rw [y] at this;cases this
   | some r=>rw [y] at h;cases h
def Mat(t h:Tb):Prop:=∀ s c,getM t s=some c↔getM h c=some s
def MatB(t h:Tb)(c:Int):Prop:=(∀ s x,x≠c->(getM t s=some x↔getM h x=some s))/\∀ s,getM t s≠some c
theorem MatB.step{t h:Tb}{c s:Int}(m:MatB t h c):(getM t s=none->Mat (putM t s c) (putM h c s))/\∀ c',getM t s=some c'->MatB (putM t s c) (putM h c s) c':=by
 obtain⟨m1,m2⟩:=m
 constructor
 . intro e s' x
   rw [zV,zV]
   by_cases hx:c=x
   . subst hx
     rw [if_pos rfl]
     by_cases hs:s=s'
     . subst hs;rw [if_pos rfl];simp
     . rw [if_neg hs]
       exact⟨fun z=>absurd z (m2 s'),fun z=>absurd (WaV z) hs⟩
   . rw [if_neg hx]
     by_cases hs:s=s'
     . subst hs
       rw [if_pos rfl];refine⟨fun z=>absurd (WaV z) hx,fun z=>?_⟩
       have:=(m1 s x (Wbo hx)).mpr z;rw [e] at this;cases this
     . rw [if_neg hs];exact m1 s' x (Wbo hx)
 . intro c' e
   have hc:c'≠c:=fun z=>m2 s (z ▸ e)
   refine⟨fun s' x hx'=>?_,fun s' z=>?_⟩
   . rw [zV,zV]
     by_cases hx:c=x
     . subst hx
       rw [if_pos rfl]
       by_cases hs:s=s'
       . subst hs;rw [if_pos rfl];simp
       . rw [if_neg hs]
         exact⟨fun z=>absurd z (m2 s'),fun z=>absurd (WaV z) hs⟩
     . rw [if_neg hx]
       by_cases hs:s=s'
       . subst hs
         rw [if_pos rfl];refine⟨fun z=>absurd (WaV z) hx,fun z=>?_⟩
         have:=(m1 s x (Wbo hx)).mpr z;rw [e] at this;exact absurd (WaV this).symm hx'
       . rw [if_neg hs];exact m1 s' x (Wbo hx)
   . rw [zV] at z
     by_cases hs:s=s'
     . rw [if_pos hs] at z
       exact hc (WaV z).symm
     . rw [if_neg hs] at z
       have z1:=(m1 s' c' hc).mp z;rw [(m1 s c' hc).mp e] at z1;exact hs (WaV z1)
structure Way(Ed:Int->Int->Prop)(ca t:Tb)(r:Int->Nat)(start:Int)(A B:Nat):Prop where
 inn:∀ c s,getM ca c=some s->InR s A/\InR c B
 ed:∀ c s,getM ca c=some s->Ed s c
 back:∀ c s c',getM ca c=some s->getM t s=some c'->∃ s',getM ca c'=some s'/\r s'<r s
 first:∀ c s,getM ca c=some s->getM t s=none->s=start
structure Moved(Ed:Int->Int->Prop)(t h t' h':Tb)(start:Int)(A B:Nat):Prop where
 ed:∀ s c,getM t' s=some c->Ed s c
 mat:Mat t' h'
 ot:TbOk t' A B
 oh:TbOk h' B A
 dt:∀ s,(getM t' s).isSome=true↔(getM t s).isSome=true\/s=start
 dh:∀ c,(getM h c).isSome=true->(getM h' c).isSome=true
structure OnWay(Ed:Int->Int->Prop)(ca t0 h0 t h:Tb)(r:Int->Nat)(c:Int)(A B m:Nat):Prop where
 ed:∀ s c,getM t s=some c->Ed s c
 mat:MatB t h c
 ot:TbOk t A B
 oh:TbOk h B A
 came:∃ s,getM ca c=some s/\r s=m
 same:∀ s,r s<=m->getM t s=getM t0 s
 dt:∀ s,(getM t s).isSome=true↔(getM t0 s).isSome=true
 dh:∀ c,(getM h0 c).isSome=true->(getM h c).isSome=true
theorem OnWay.step{Ed:Int->Int->Prop}{ca t0 h0 t h:Tb}{r:Int->Nat}{c start:Int}{A B m:Nat}(w:Way Ed ca t0 r start A B)(o:OnWay Ed ca t0 h0 t h r c A B m){s:Int}(hs:getM ca c=some s):(getM t s=none->Moved Ed t0 h0 (putM t s c) (putM h c s) start A B)/\∀ c',getM t s=some c'->∃ m',m'<m/\OnWay Ed ca t0 h0 (putM t s c) (putM h c s) r c' A B m':=by
 have ed':∀ s' c',getM (putM t s c) s'=some c'->Ed s' c':=fun s' c' e=>by
  rw [zV] at e
  split at e
  . rename_i z
    rw [<-WaV e,<-z];exact w.ed c s hs
  . exact o.ed s' c' e
 obtain⟨i1,i2⟩:=w.inn c s hs;have hrm:r s=m:=by
  obtain⟨s',e,h⟩:=o.came;rw [hs] at e;rw [WaV e];exact h
 have ts:getM t s=getM t0 s:=o.same s #[0]
 have dh':∀ x,(getM h0 x).isSome=true->(getM (putM h c s) x).isSome=true:=fun x hx=>by
  rw [zV]
  split
  . rfl
  . exact o.dh x hx
 constructor
 . intro e
   have e0:s=start:=w.first c s hs (ts ▸ e);refine⟨ed',(o.mat.step).1 e,o.ot.put i1 i2,o.oh.put i2 i1,fun x=>?_,dh'⟩
   rw [zV]
   by_cases hx:s=x
   . rw [if_pos hx];exact⟨fun _=>.inr (hx.symm.trans e0),fun _=>rfl⟩
   . rw [if_neg hx,o.dt x]
     exact⟨.inl,fun z=>z.elim id fun y=>absurd (e0.trans y.symm) hx⟩
 . intro c' e
   obtain⟨s',h1,h2⟩:=w.back c s c' hs (ts ▸ e);refine⟨r s',#[0],ed',(o.mat.step).2 c' e,o.ot.put i1 i2,o.oh.put i2 i1,⟨s',h1,rfl⟩,fun x hx=>?_,fun x=>?_,dh'⟩
   . have:s≠x:=fun z=>by rw [<-z] at hx;omega
     rw [zV,if_neg this];exact o.same x #[0]
   . rw [zV]
     by_cases hx:s=x
     . rw [if_pos hx,<-hx,<-ts,e]
       exact⟨fun _=>rfl,fun _=>rfl⟩
     . rw [if_neg hx];exact o.dt x
structure Rea(Ed:Int->Int->Prop)(start:Int)(t h ca:Tb)(R:List Int)(A B:Nat):Prop where
 ed:∀ c s,getM ca c=some s->Ed s c
 nd:R.Nodup
 hd:R[0]?=some start
 inn:∀ x∈R,InR x A
 oc:TbOk ca B A
 len:R.length=ca.length+1
 from_:∀ c s,getM ca c=some s->s∈R
 by_:∀ (i:Nat) (x:Int),R[i]?=some x->i=0\/∃ c s,∃ j:Nat,getM t x=some c/\getM ca c=some s/\R[j]?=some s/\j<i
theorem Rea.start{Ed:Int->Int->Prop}{start:Int}{t h:Tb}{A B:Nat}(hs:InR start A):Rea Ed start t h [] [start] A B:=by
 refine⟨fun c s e=>(by cases e),by simp,rfl,fun x hx=>by rw [Ya6.mp hx];exact hs,TbOk.nil B A,rfl,fun c s e=>(by cases e),fun i x e=>?_⟩
 cases i with
 | zero=>exact .inl rfl
 | succ i=>simp at e
theorem Rea.more{Ed:Int->Int->Prop}{start:Int}{t h ca:Tb}{R:List Int}{A B:Nat}(r:Rea Ed start t h ca R A B)(m:Mat t h)(h0:getM t start=none){c s x:Int}(hs:s∈R)(he:Ed s c)(hc:InR c B)(hn:getM ca c=none)(hx:getM h c=some x)(oh:TbOk h B A):Rea Ed start t h (putM ca c s) (R++[x]) A B:=by
 have tx:getM t x=some c:=(m x c).mpr hx;have ix:InR x A:=(oh.get hx).2;have keep:∀ d,d≠c->getM (putM ca c s) d=getM ca d:=fun d hd=>by rw [zV,if_neg (Wbo hd)]
 have nx:x∉R:=fun z=>by
  obtain⟨i,hi,e⟩:=Yam z;have e:R[i]?=some x:=by rw [YaQ hi,e]
  rcases r.by_ i x e with y|⟨d,s',j,g1,g2,_⟩
  . subst y
    rw [r.hd] at e;rw [<-WaV e,h0] at tx;cases tx
  . rw [tx] at g1
    rw [<-WaV g1,hn] at g2;cases g2
 refine⟨fun d s' e=>?_,WaA.mpr ⟨r.nd,by simp,fun a ha b hb z=>nx (by rw [Ya6.mp hb] at z;rw [<-z];exact ha)⟩,?_,fun y hy=>?_,r.oc.put hc (r.inn s hs),?_,fun d s' e=>?_,fun i y e=>?_⟩
 . rw [zV] at e
   split at e
   . rename_i z
     rw [<-WaV e,<-z];exact he
   . exact r.ed d s' e
 . rw [Yab (by have:=r.len;omega)];exact r.hd
 . rcases Ya3.mp hy with z|z
   . exact r.inn y z
   . rw [Ya6.mp z];exact ix
 . rw [ziu hn,YaS,r.len];rfl
 . rw [zV] at e
   split at e
   . exact Yai _ (by rw [<-WaV e];exact hs)
   . exact Yai _ (r.from_ d s' e)
 . by_cases hi:i<R.length
   . rw [Yab hi] at e
     rcases r.by_ i y e with z|⟨d,s',j,g1,g2,g3,g4⟩
     . exact .inl z
     . refine .inr ⟨d,s',j,g1,?_,?_,g4⟩
       . rw [keep d fun z=>by rw [z,hn] at g2;cases g2];exact g2
       . rw [Yab #[0]];exact g3
   . have hi':i=R.length:=by
      have:=(Ya8.mp e).1;rw [YaS,List.length_singleton] at this
      omega
     subst hi';rw [Yae (YaY _),Wbi] at e;have e:x=y:=WaV e;subst e;obtain⟨j,hj,ej⟩:=Yam hs;refine .inr ⟨c,s,j,tx,by rw [zV,if_pos rfl],?_,hj⟩
     rw [Yab hj,YaQ hj,ej]
theorem Rea.seen{Ed:Int->Int->Prop}{start:Int}{t h ca:Tb}{R:List Int}{A B:Nat}(r:Rea Ed start t h ca R A B)(h0:getM t start=none){c s:Int}(hs:s∈R)(he:Ed s c)(hc:InR c B)(hn:getM ca c=none):Way Ed (putM ca c s) t (fun x=>R.idxOf x) start A B:=by
 have inR:∀ d s',getM (putM ca c s) d=some s'->s'∈R/\InR d B:=fun d s' e=>by
  rw [zV] at e
  split at e
  . rename_i z
    rw [<-WaV e,<-z];exact⟨hs,hc⟩
  . exact⟨r.from_ d s' e,(r.oc.get e).1⟩
 have ix:∀ (i:Nat) x,R[i]?=some x->R.idxOf x=i:=fun i x e=>by
  obtain⟨hi,e⟩:=Ya8.mp e;rw [<-e];exact r.nd.idxOf_getElem i hi
 have at_:∀ x∈R,getM t x≠none->∃ d s' j,getM t x=some d/\getM ca d=some s'/\R[j]?=some s'/\j<R.idxOf x:=fun x hx hne=>by
  obtain⟨i,hi,e⟩:=Yam hx;have e:R[i]?=some x:=by rw [YaQ hi,e]
  rcases r.by_ i x e with y|⟨d,s',j,g1,g2,g3,g4⟩
  . subst y
    rw [r.hd] at e;rw [<-WaV e] at hne;exact absurd h0 hne
  . exact⟨d,s',j,g1,g2,g3,by rw [ix i x e];exact g4⟩
 refine⟨fun d s' e=>⟨r.inn s' (inR d s' e).1,(inR d s' e).2⟩,fun d s' e=>?_,fun d s' c' e e'=>?_,fun d s' e e'=>?_⟩
 . rw [zV] at e
   split at e
   . rename_i z
     rw [<-WaV e,<-z];exact he
   . exact r.ed d s' e
 . obtain⟨d',s'',j,g1,g2,g3,g4⟩:=at_ s' (inR d s' e).1 (by rw [e'];simp)
   rw [e'] at g1;rw [<-WaV g1] at g2;refine⟨s'',?_,?_⟩
   . rw [zV,if_neg fun z=>by rw [<-z,hn] at g2;cases g2];exact g2
   . show R.idxOf s''<R.idxOf s'
     rw [ix j s'' g3];exact g4
 . rcases Classical.em (s'=start) with z|z
   . exact z
   . exfalso
     obtain⟨i,hi,ei⟩:=Yam (inR d s' e).1;have ei:R[i]?=some s':=by rw [YaQ hi,ei]
     rcases r.by_ i s' ei with y|⟨d',s'',j,g1,_⟩
     . subst y
       rw [r.hd] at ei;exact z (WaV ei).symm
     . rw [e'] at g1;cases g1
theorem Mat.free{t h:Tb}(m:Mat t h){c:Int}(e:getM h c=none):MatB t h c:=⟨fun s x _=>m s x,fun s z=>by rw [(m s c).mp z] at e;cases e⟩
theorem zbs{t:Tb}{k:Int}(h:(getM t k).isSome=true):k∈t.map (·.1):=by
 obtain⟨v,hv⟩:=Wah.mp h;exact Ya7.mpr ⟨(k,v),JJ hv,rfl⟩
theorem zex(k j:List Key)(d:D):∀ ds:List (List Key×D),getT (ds.map fun kv=>if kv.1=k then(kv.1,d) else kv) j=if j=k then(if(ds.any fun kv=>decide (kv.1=k))=true then some d else none) else getT ds j
 | []=>by split<;>rfl
 | (k', d') :: ds => by
  have ih:=zex k j d ds;rw [Ya1,List.any_cons]
  by_cases e:k'=k
  . rw [if_pos e]
    by_cases ej:j=k
    . rw [if_pos ej]
      have:(k'=j):=e.trans ej.symm;subst this;rw [Ju]
      simp [e]
    . rw [if_neg ej,Jd (fun z=>ej (z.symm.trans e)),Jd (fun z=>ej (z.symm.trans e)),ih,if_neg ej]
  . rw [if_neg e]
    by_cases ej:j=k
    . rw [if_pos ej] at ih ⊢
      rw [Jd (fun z=>e (z.trans ej)),ih,decide_eq_false e,Wa6]
    . rw [if_neg ej] at ih ⊢
      by_cases e2:k'=j
      . subst e2;rw [Ju,Ju]
      . rw [Jd e2,Jd e2,ih]
theorem zdP(k j:List Key)(d:D):∀ ds:List (List Key×D),(ds.any fun kv=>decide (kv.1=k))=false->getT (ds++[(k,d)]) j=if j=k then some d else getT ds j
 | [], _ => by
  by_cases ej:j=k
  . subst ej;rw [if_pos rfl];exact Ju
  . rw [if_neg ej,List.nil_append,Jd (fun z=>ej z.symm)]
 | (k', d') :: ds, h => by
  rw [List.any_cons,Bool.or_eq_false_iff] at h;have ih:=zdP k j d ds h.2;have e:¬k'=k:=of_decide_eq_false h.1;rw [List.cons_append]
  by_cases e2:k'=j
  . subst e2;rw [Ju,Ju,if_neg e]
  . rw [Jd e2,Jd e2,ih]
theorem zgx(ds:List (List Key×D))(k j:List Key)(d:D):getT (putT ds k d) j=if j=k then some d else getT ds j:=by
 unfold putT
 split
 . rename_i h;rw [zex,if_pos h]
 . rename_i h;exact zdP k j d ds (Bool.eq_false_iff.mpr h)
theorem zkq{g:TG3}{f:Bool}{d:D}{ρ : Env3}{P:Env3->Prop}(h:∀ N:Env3->Prop,(∀ ρ',P ρ'->N ρ')->g f d ρ N):g f d ρ P:=h P fun _ z=>z
theorem Mat.symm{t h:Tb}(m:Mat t h):Mat h t:=fun s c=>(m c s).symm
theorem zhY{ds:List (List Key×D)}{k:List Key}{d:D}(h:(ds.all fun p=>zw p.2)=true)(hd:zw d=true):((putT ds k d).all fun p=>zw p.2)=true:=by
 rw [WaO] at h ⊢;intro p hp;unfold putT at hp
 split at hp
 . obtain⟨q,hq,rfl⟩:=Ya7.mp hp
   split
   . exact hd
   . exact h q hq
 . rcases Ya3.mp hp with z|z
   . exact h p z
   . rw [Ya6.mp z];exact hd
theorem zjx(ds:List (List Key×D))(k:List Key)(d:D):(putT ds k d).length<=ds.length+1:=by
 unfold putT
 split
 . rw [YaR];omega
 . rw [YaS];simp
theorem zkM:SeqAt.shaped (.tuple [.str "fixed", .str "barred"])=true:=#[3]
theorem zeF(x:Str):((([PyData.str "fixed", PyData.str "barred"]:List D).any fun y=>PyData.eqv y (.str x))=false)↔¬(x = "fixed"\/x = "barred"):=by
 have e:∀ a:Str,PyData.eqv (.str a) (.str x)=decide (x=a):=fun a=>by
  by_cases h:x=a
  . subst h;simp [PyData.eqv]
  . rw [decide_eq_false h]
    have:¬a=x:=fun z=>h z.symm
    simp [PyData.eqv,this]
 rw [List.any_cons,List.any_cons,List.any_nil,Wa5,e,e]
 by_cases h1:x = "fixed"
 . simp [h1]
 . by_cases h2:x = "barred"
   . simp [h2]
   . simp [h1,h2]
theorem zeb(V:List Win):jQ (V.map dW)=(List.range V.length).map fun i=>PyData.tuple [PyData.int (i:Nat),dW (V.getD i (0,0,0,none))]:=by
 unfold jQ;rw [YaR];refine Yat fun i hi=>?_
 have hi:=Yba.mp hi;rw [YaP,Ya0,YaP,YaQ hi];rfl
theorem zjC(ch:List #[22]):jQ (ch.map dI)=(List.range ch.length).map fun i=>PyData.tuple [PyData.int (i:Nat),dI (ch.getD i [])]:=by
 unfold jQ;rw [YaR];refine Yat fun i hi=>?_
 have hi:=Yba.mp hi;rw [YaP,Ya0,YaP,YaQ hi];rfl
theorem JG{α : Type}{L:List α}{i:Nat}{d:α}(h:i<L.length):L.getD i d∈L:=by
 rw [YaP,YaQ h];exact Ya4 _
theorem zbr{α : Type}{L:List α}{x:Int}{d:α}(h:InR x L.length):atI L x=some (L.getD x.toNat d)/\L.getD x.toNat d∈L:=by
 have hx:x.toNat<L.length:=by have:=h.1;have:=h.2;omega
 refine⟨?_,JG hx⟩
 have:=z8 (xs:=L) (j:=x.toNat) (YaQ hx);rw [show((x.toNat:Nat):Int)=x by have:=h.1;omega] at this
 rw [this,YaP,YaQ hx];rfl
def Jm(rs:List Rule)(t k:Int):Prop:=∃ r∈rs,r.2.1=t/\(k=r.2.2↔r.1 = "barred")
def Je(rs:List Rule)(n:Nat)(ds:List (List Key×D)):Prop:=∀ t k:Int,0<=k->k<(n:Int)->((getT ds (kk t k)).isSome=true↔Jm rs t k)
theorem Je.nil(n:Nat):Je [] n []:=fun t k _ _=>⟨fun z=>(by cases z),fun⟨r,h,_⟩=>(by cases h)⟩
def Jg(rs:List Rule)(r:Rule)(n j:Nat)(ds:List (List Key×D)):Prop:=∀ t k:Int,0<=k->k<(n:Int)->((getT ds (kk t k)).isSome=true↔Jm rs t k\/(k<(j:Int)/\r.2.1=t/\(k=r.2.2↔r.1 = "barred")))
theorem Je.part{rs:List Rule}{r:Rule}{n:Nat}{ds:List (List Key×D)}(h:Je rs n ds):Jg rs r n 0 ds:=fun t k h0 h1=>by
 rw [h t k h0 h1];exact⟨.inl,fun z=>z.elim id fun y=>absurd y.1 #[0]⟩
theorem Jg.whole{rs:List Rule}{r:Rule}{n:Nat}{ds:List (List Key×D)}(h:Jg rs r n n ds):Je (rs++[r]) n ds:=fun t k h0 h1=>by
 rw [h t k h0 h1]
 constructor
 . rintro(⟨x,hx,e⟩|⟨_,e⟩)
   . exact⟨x,Yai _ hx,e⟩
   . exact⟨r,by simp,e⟩
 . rintro⟨x,hx,e⟩
   rcases Ya3.mp hx with z|z
   . exact .inl ⟨x,z,e⟩
   . rw [Ya6.mp z] at e;exact .inr ⟨h1,e⟩
theorem zh1{a b c d:Int}(h:kk a b=kk c d):a=c/\b=d:=by
 unfold kk at h
 injection h with h1 h2
 injection h2 with h2 _
 exact⟨Sum.inl.inj h1,Sum.inl.inj h2⟩
theorem zem(a b:Bool):(PyData.eqv (.bool a) (.bool b)=true)↔a=b:=by cases a<;>cases b<;>decide +kernel
theorem Jg.put{rs:List Rule}{r:Rule}{n j:Nat}{ds:List (List Key×D)}(h:Jg rs r n j ds)(e:PyData.eqv (.bool (decide (0+(j:Int)=r.2.2))) (.bool (decide (r.1 = "barred")))=true):Jg rs r n (j+1) (putT ds (kk r.2.1 (0+(j:Int))) (.bool true)):=fun t k h0 h1=>by
 have e':(j:Int)=r.2.2↔r.1 = "barred":=by
  have:=(zem _ _).mp e;rw [Wbh] at this;rw [decide_eq_decide] at this;exact this
 rw [zgx,Wbh]
 by_cases z:kk t k=kk r.2.1 (j:Int)
 . rw [if_pos z]
   obtain⟨z1,z2⟩:=zh1 z;subst z2;exact⟨fun _=>.inr ⟨#[0],z1.symm,e'⟩,fun _=>rfl⟩
 . rw [if_neg z,h t k h0 h1]
   constructor
   . rintro(y|⟨y1,y2⟩)
     . exact .inl y
     . exact .inr ⟨#[0],y2⟩
   . rintro(y|⟨y1,y2,y3⟩)
     . exact .inl y
     . refine .inr ⟨?_,y2,y3⟩
       have:k≠(j:Int):=fun w=>z (by rw [w,y2])
       omega
theorem Jg.skip{rs:List Rule}{r:Rule}{n j:Nat}{ds:List (List Key×D)}(h:Jg rs r n j ds)(e:¬PyData.eqv (.bool (decide (0+(j:Int)=r.2.2))) (.bool (decide (r.1 = "barred")))=true):Jg rs r n (j+1) ds:=fun t k h0 h1=>by
 have e':¬((j:Int)=r.2.2↔r.1 = "barred"):=fun w=>e ((zem _ _).mpr (by rw [Wbh,decide_eq_decide];exact w))
 rw [h t k h0 h1]
 constructor
 . rintro(y|⟨y1,y2⟩)
   . exact .inl y
   . exact .inr ⟨#[0],y2⟩
 . rintro(y|⟨y1,y2,y3⟩)
   . exact .inl y
   . refine .inr ⟨?_,y2,y3⟩
     have:k≠(j:Int):=fun w=>e' (w ▸ y3)
     omega
def mayD(ds:List (List Key×D))(v:Win)(t:Int):Bool:=if t<v.2.2.1 then false else match v.2.2.2 with
 | none=>!(getT ds (kk t v.1)).isSome
 | some x=>if x<t then false else !(getT ds (kk t v.1)).isSome
def mayP(rs:List Rule)(v:Win)(t:Int):Prop:=v.2.2.1<=t/\zfL t v.2.2.2/\¬Jm rs t v.1
theorem zlB{rs:List Rule}{n:Nat}{ds:List (List Key×D)}(hF:Je rs n ds){v:Win}(hv:InR v.1 n){t:Int}:mayD ds v t=true↔mayP rs v t:=by
 have hf:=hF t v.1 hv.1 hv.2;have e2:((!(getT ds (kk t v.1)).isSome)=true)↔¬Jm rs t v.1:=by
  rw [<-hf];cases(getT ds (kk t v.1)).isSome<;>simp
 unfold mayD mayP
 by_cases h1:t<v.2.2.1
 . rw [if_pos h1]
   exact⟨fun z=>(by cases z),fun z=>absurd z.1 #[0]⟩
 . rw [if_neg h1]
   cases hl:v.2.2.2 with
   | none=>exact e2.trans ⟨fun z=>⟨#[0],True.intro,z⟩,fun z=>z.2.2⟩
   | some x=>
    dsimp only
    by_cases h2:x<t
    . rw [if_pos h2]
      exact⟨fun z=>(by cases z),fun z=>absurd (show t<=x from z.2.1) #[0]⟩
    . rw [if_neg h2]
      exact e2.trans ⟨fun z=>⟨#[0],show t<=x by omega,z⟩,fun z=>z.2.2⟩
def ChOk(rs:List Rule)(V:List Win)(ch:List #[22]):Prop:=∀ k,k<ch.length->∀ i,i<V.length->(((i:Nat):Int)∈ch.getD k []↔mayP rs (V.getD i (0,0,0,none)) ((k:Int)+1))
theorem ChOk.snoc{rs:List Rule}{V:List Win}{ch:List #[22]}(h:ChOk rs V ch){row:List Int}(hr:∀ i,i<V.length->(((i:Nat):Int)∈row↔mayP rs (V.getD i (0,0,0,none)) ((ch.length:Int)+1))):ChOk rs V (ch++[row]):=fun k hk i hi=>by
 rw [YaS,List.length_singleton] at hk;rw [YaP]
 by_cases e:k<ch.length
 . rw [Yab e,<-YaP];exact h k e i hi
 . have:k=ch.length:=#[0]
   subst this;rw [Yae (YaY _),Wbi];exact hr i hi
def TvOk(m:Nat)(ch:List #[22])(k:Nat)(done:List Int)(tv:List #[22]):Prop:=∀ i,i<m->∀ j:Nat,((j:Int)∈tv.getD i []↔(j<k/\(i:Int)∈ch.getD j [])\/(j=k/\(i:Int)∈done))
theorem TvOk.nil(m:Nat)(ch:List #[22]):TvOk m ch 0 [] (List.replicate m []):=fun i hi j=>by
 rw [YaP,Yad,if_pos hi];exact⟨fun z=>(by cases z),fun z=>z.elim (fun y=>absurd y.1 (Nat.not_lt_zero _)) fun y=>(by cases y.2)⟩
theorem TvOk.step{m:Nat}{ch:List #[22]}{k:Nat}{done:List Int}{tv:List #[22]}(h:TvOk m ch k done tv){x:Int}(hx:InR x tv.length)(hl:tv.length=m):TvOk m ch k (done++[x]) (tv.set x.toNat (tv.getD x.toNat []++[(k:Int)])):=fun i hi j=>by
 have hxl:x.toNat<tv.length:=by have:=hx.1;have:=hx.2;omega
 have hx0:=hx.1;rw [YaP,List.getElem?_set]
 by_cases e:x.toNat=i
 . subst e
   rw [if_pos rfl,if_pos hxl];show(j:Int)∈tv.getD x.toNat []++[(k:Int)]↔_;rw [Ya3,h x.toNat hi j,Ya6]
   constructor
   . rintro((y|y)|y)
     . exact .inl y
     . exact .inr ⟨y.1,Yai _ y.2⟩
     . exact .inr ⟨#[0],by rw [show((x.toNat:Nat):Int)=x by omega];simp⟩
   . rintro(y|⟨y1,y2⟩)
     . exact .inl (.inl y)
     . exact .inr #[0]
 . rw [if_neg e,<-YaP,h i hi j]
   constructor
   . rintro(y|y)
     . exact .inl y
     . exact .inr ⟨y.1,Yai _ y.2⟩
   . rintro(y|⟨y1,y2⟩)
     . exact .inl y
     . rcases Ya3.mp y2 with z|z
       . exact .inr ⟨y1,z⟩
       . have:=Ya6.mp z;omega
theorem TvOk.whole{m:Nat}{ch:List #[22]}{k:Nat}{row:List Int}{tv:List #[22]}(h:TvOk m ch k row tv)(e:ch.getD k []=row):TvOk m ch (k+1) [] tv:=fun i hi j=>by
 rw [h i hi j]
 constructor
 . rintro(y|⟨y1,y2⟩)
   . exact .inl ⟨#[0],y.2⟩
   . subst y1;exact .inl ⟨#[0],by rw [e];exact y2⟩
 . rintro(⟨y1,y2⟩|y)
   . by_cases z:j<k
     . exact .inl ⟨z,y2⟩
     . have:j=k:=#[0]
       subst this;exact .inr ⟨rfl,by rw [<-e];exact y2⟩
   . cases y.2
theorem TvOk.fin{m:Nat}{ch:List #[22]}{tv:List #[22]}(h:TvOk m ch ch.length [] tv):∀ i,i<m->∀ j,j<ch.length->((j:Int)∈tv.getD i []↔(i:Int)∈ch.getD j []):=fun i hi j hj=>by
 rw [h i hi j];exact⟨fun z=>z.elim (·.2) fun y=>(by cases y.2),fun z=>.inl ⟨hj,z⟩⟩
theorem zb7{c:TT3}{ρ : Env3}{P R:Prop}(h:∀ Y N:Prop,(P->Y)->(R->N)->c ρ fun k=>if k=true then Y else N):c ρ fun k=>if k=true then P else R:=h P R id id
def z4:Win:=(0,0,0,none)
def zkS(V:List Win)(ch:List #[22])(d:D):Prop:=(∃ f:Nat->Nat,(∀ k,k<ch.length->f k<V.length/\((f k:Nat):Int)∈ch.getD k [])/\(∀ i j,i<ch.length->j<ch.length->f i=f j->i=j)/\(∀ i,i<V.length->(V.getD i z4).2.2.2≠none->∃ k,k<ch.length/\f k=i)/\∃ x,d=.tuple [.str "row", x])\/∃ (s:Str) (x:D),(s = "visits"\/s = "turns")/\d=.tuple [.str s,x]
theorem zh3{l:List Nat}(h:l.Nodup):(l.map fun i:Nat=>(i:Int)).Nodup:=by
 rw [Wad,WaG];exact(Wad.mp h).imp fun {a b} hab e=>hab #[0]
theorem zch{V:List Win}{ch:List #[22]}{t h:Tb}(hm:Mat t h)(hh:TbOk h ch.length V.length)(hhe:∀ s c,getM h s=some c->c∈ch.getD s.toNat [])(hdu:∀ i,i<V.length->(V.getD i z4).2.2.2≠none->(getM t (i:Int)).isSome=true)(hd:∀ k:Int,0<=k->k<(ch.length:Int)->(getM h k).isSome=true) :
 (∀ k,k<ch.length->((getM h (0+(k:Int))).getD 0).toNat<V.length/\((((getM h (0+(k:Int))).getD 0).toNat:Nat):Int)∈ch.getD k [])/\(∀ i j,i<ch.length->j<ch.length->((getM h (0+(i:Int))).getD 0).toNat=((getM h (0+(j:Int))).getD 0).toNat->i=j)/\(∀ i,i<V.length->(V.getD i z4).2.2.2≠none->∃ k,k<ch.length/\((getM h (0+(k:Int))).getD 0).toNat=i)/\
 PyData.tuple [.str "row", .list ([]++(List.range ch.length).map fun i:Nat=>.int (V.getD ((getM h (0+(i:Int))).getD 0).toNat (0,0,0,none)).1)]=PyData.tuple [.str "row", .list ((List.range ch.length).map fun k:Nat=>.int (V.getD ((getM h (0+(k:Int))).getD 0).toNat z4).1)]:=by
 have key:∀ k,k<ch.length->∃ y,getM h (0+(k:Int))=some y/\InR y V.length:=fun k hk=>by
  obtain⟨y,hy⟩:=Wah.mp (hd (0+(k:Int)) #[0] #[0])
  exact⟨y,hy,(hh.get hy).2⟩
 refine⟨fun k hk=>?_,fun i j hi hj e=>?_,fun i hi hdi=>?_,rfl⟩
 . obtain⟨y,hy,y0,y1⟩:=key k hk
   rw [hy];show y.toNat<_/\((y.toNat:Nat):Int)∈_;have:=hhe _ _ hy;rw [show(0+(k:Int)).toNat=k by omega] at this
   exact⟨#[0],by rw [show((y.toNat:Nat):Int)=y by omega];exact this⟩
 . obtain⟨y,hy,y0,y1⟩:=key i hi
   obtain⟨z,hz,z0,z1⟩:=key j hj;rw [hy,hz] at e;have e:y.toNat=z.toNat:=e;have e2:y=z:=#[0]
   subst e2;have a1:=(hm y _).mpr hy;rw [(hm y _).mpr hz] at a1;have:=WaV a1
   omega
 . obtain⟨c,hc⟩:=Wah.mp (hdu i hi hdi)
   have h1:=(hm _ _).mp hc;obtain⟨c0,c1⟩:=(hh.get h1).1;refine⟨c.toNat,#[0],?_⟩
   rw [show(0+((c.toNat:Nat):Int))=c by omega,h1]
   show(i:Int).toNat=i
   omega
theorem ziD:SeqAt.shaped (.str "fixed")=true:=#[3]
theorem zeo:SeqAt.shaped (.str "barred")=true:=#[3]
theorem zjG{l:List Spell}(h:okS l):1<=tot l:=by
 obtain⟨⟨h1,_⟩,h2,_⟩:=h;cases l with
 | nil=>simp at h1
 | cons a r=>
  have:=zdT (fun t ht=>(h2 t ht).1) (YaV (a:=a) (l:=r))
  have:=(h2 a YaV).1
  omega
theorem zdb:("fixed" : Str)≠"barred":=#[3]
theorem zlG{l:List Spell}(hok:okS l):∀ r∈quoB (zq l) l,r.length=many l/\∀ x∈r,Bits 1000 x:=fun r hr=>⟨zcS hok hr,fun x hx=>by
 have hpp:=za5 hok;have h1:=zbD hok hpp r hr x hx;have h2:=ziS hok #[0] r hr x hx
 have h3:tot l*zq l<=60*zq l:=Ybe hok.2.2 #[0]
 exact(((Bits.lit (x:=60) 64).mul (zbl hok)).le (y:=x) #[0]).mono #[1]⟩
structure Mend(Ch:Int->Int->Prop)(c:Int->Int->Int)(p0:Int->Int)(A B s:Nat)(tp vp:Int->Int)(t h:Tb):Prop where
 mat:Mat t h
 ot:TbOk t A B
 oh:TbOk h B A
 dom:∀ x,(getM t x).isSome=true↔0<=x/\x<(s:Int)
 ed:∀ x v,getM t x=some v->Ch x v/\tp x+vp v=c x v
 low:∀ x v,0<=x->x<(s:Int)->Ch x v->tp x+vp v<=c x v
 free:∀ v,getM h v=none->vp v=p0 v
 zero:∀ x,(s:Int)<=x->tp x=0
 top:∀ v,vp v<=p0 v
def Lab(h far:Tb)(start:Int)(done:List Int)(r g:Int):Prop:=(r=start/\g=0)\/∃ u∈done,getM h u=some r/\getM far u=some g
structure Sea(Ch:Int->Int->Prop)(c:Int->Int->Int)(tp vp:Int->Int)(h:Tb)(start:Int)(far came:Tb)(done:List Int):Prop where
 nd:done.Nodup
 held:∀ u∈done,(getM h u).isSome=true/\(getM far u).isSome=true
 all:∀ r g v,Lab h far start done r g->Ch r v->∃ x,getM far v=some x/\x<=g+c r v - tp r - vp v
 one:∀ v x,getM far v=some x->∃ r g,getM came v=some r/\Lab h far start done r g/\Ch r v/\x=g+c r v - tp r - vp v
 ord:∀ (i:Nat) v,done[i]?=some v->∃ r,getM came v=some r/\(r=start\/∃ (j:Nat) (u:Int),j<i/\done[j]?=some u/\getM h u=some r)
 least:∀ u∈done,∀ v,v∉done->∀ x y,getM far u=some x->getM far v=some y->x<=y
def Looked(Ch:Int->Int->Prop)(c:Int->Int->Int)(tp vp:Int->Int)(r g:Int)(far came far' came':Tb):Prop:=∀ v,
 (¬Ch r v->getM far' v=getM far v/\getM came' v=getM came v)/\
 (Ch r v->(∃ x,getM far v=some x/\x<=g+c r v - tp r - vp v/\getM far' v=some x/\getM came' v=getM came v)\/
  ((∀ x,getM far v=some x->g+c r v - tp r - vp v<x)/\getM far' v=some (g+c r v - tp r - vp v)/\getM came' v=some r))
section
variable{Ch:Int->Int->Prop}{c:Int->Int->Int}{p0:Int->Int}{A B s:Nat}{tp vp:Int->Int}{t h far came far' came':Tb}{start:Int}{done:List Int}
theorem Sea.begin_(hl:Looked Ch c tp vp start 0 [] [] far came):Sea Ch c tp vp h start far came []:=by
 refine⟨Wa2,fun u hu=>(by cases hu),fun r g v hr hc=>?_,fun v x e=>?_,fun i v e=>(by simp at e),fun u hu=>(by cases hu)⟩
 . rcases hr with ⟨rfl,rfl⟩|⟨u,hu,_⟩
   . rcases(hl v).2 hc with ⟨x,e,_⟩|⟨_,e,_⟩
     . cases e
     . exact⟨_,e,Wbm _⟩
   . cases hu
 . by_cases hc:Ch start v
   . rcases(hl v).2 hc with ⟨x,e',_⟩|⟨_,e1,e2⟩
     . cases e'
     . rw [e] at e1
       exact⟨start,0,e2,.inl ⟨rfl,rfl⟩,hc,WaV e1⟩
   . rw [((hl v).1 hc).1] at e;cases e
theorem Sea.next(S:Sea Ch c tp vp h start far came done)(M:Mend Ch c p0 A B s tp vp t h){u g r:Int}(hu:u∉done)(hg:getM far u=some g)(hmin:∀ v,v∉done->∀ y,getM far v=some y->g<=y)(hr:getM h u=some r)
 (hl:Looked Ch c tp vp r g far came far' came'):Sea Ch c tp vp h start far' came' (done++[u]):=by
 have tr:getM t r=some u:=(M.mat r u).mpr hr;have hrs:0<=r/\r<(s:Int):=(M.dom r).mp (by rw [tr];rfl)
 have low:∀ v,Ch r v->g<=g+c r v - tp r - vp v:=fun v hc=>by have:=M.low r v hrs.1 hrs.2 hc;omega
 have hle:∀ w∈done++[u],∀ x,getM far w=some x->x<=g:=fun w hw x e=>by
  rcases Ya3.mp hw with z|z
  . exact S.least w z u hu x g e hg
  . rw [Ya6.mp z,hg] at e;rw [WaV e];exact Wbm _
 have has:∀ w∈done++[u],∃ x,getM far w=some x:=fun w hw=>by
  rcases Ya3.mp hw with z|z
  . exact Wah.mp (S.held w z).2
  . rw [Ya6.mp z];exact⟨g,hg⟩
 have same:∀ w∈done++[u],getM far' w=getM far w/\getM came' w=getM came w:=fun w hw=>by
  by_cases hc:Ch r w
  . rcases(hl w).2 hc with ⟨x,e1,_,e3,e4⟩|⟨e1,_,_⟩
    . exact⟨e3.trans e1.symm,e4⟩
    . obtain⟨x,e⟩:=has w hw
      have h1:=e1 x e;have h2:=hle w hw x e;have h3:=low w hc
      omega
  . exact(hl w).1 hc
 have lab:∀ r' g',Lab h far start done r' g'->Lab h far' start (done++[u]) r' g':=fun r' g' z=>by
  rcases z with z|⟨w,hw,h1,h2⟩
  . exact .inl z
  . exact .inr ⟨w,Yai _ hw,h1,by rw [(same w (Yai _ hw)).1];exact h2⟩
 have labu:Lab h far' start (done++[u]) r g:=.inr ⟨u,by simp,hr,by rw [(same u (by simp)).1];exact hg⟩
 refine⟨WaA.mpr ⟨S.nd,by simp,fun a ha b hb e=>hu (by rw [Ya6.mp hb] at e;rw [<-e];exact ha)⟩,fun w hw=>?_,fun r' g' v hr' hc=>?_,fun v x e=>?_,fun i v e=>?_,fun w hw v hv x y e1 e2=>?_⟩
 . rw [(same w hw).1]
   rcases Ya3.mp hw with z|z
   . exact S.held w z
   . rw [Ya6.mp z,hr,hg];exact⟨rfl,rfl⟩
 . have old:Lab h far start done r' g'->∃ x,getM far' v=some x/\x<=g'+c r' v - tp r' - vp v:=fun z=>by
    obtain⟨x,e1,e2⟩:=S.all r' g' v z hc
    by_cases hc':Ch r v
    . rcases(hl v).2 hc' with ⟨x',e3,_,e4,_⟩|⟨e3,e4,_⟩
      . rw [e1] at e3;rw [<-WaV e3] at e4;exact⟨x,e4,e2⟩
      . have:=e3 x e1;exact⟨_,e4,#[0]⟩
    . exact⟨x,by rw [((hl v).1 hc').1];exact e1,e2⟩
   rcases hr' with z|⟨w,hw,h1,h2⟩
   . exact old (.inl z)
   . rw [(same w hw).1] at h2
     rcases Ya3.mp hw with z|z
     . exact old (.inr ⟨w,z,h1,h2⟩)
     . rw [Ya6.mp z] at h1 h2
       rw [hr] at h1;rw [hg] at h2;have h1:=WaV h1;have h2:=WaV h2;subst h1 h2
       rcases(hl v).2 hc with ⟨x,_,e2,e3,_⟩|⟨_,e3,_⟩
       . exact⟨x,e3,e2⟩
       . exact⟨_,e3,Wbm _⟩
 . have keep:getM far' v=getM far v->getM came' v=getM came v->∃ r g,getM came' v=some r/\Lab h far' start (done++[u]) r g/\Ch r v/\x=g+c r v - tp r - vp v:=fun e1 e2=>by
    obtain⟨r0,g0,a1,a2,a3,a4⟩:=S.one v x (e1 ▸ e);exact⟨r0,g0,e2.trans a1,lab _ _ a2,a3,a4⟩
   by_cases hc:Ch r v
   . rcases(hl v).2 hc with ⟨x',e1,_,e3,e4⟩|⟨_,e3,e4⟩
     . exact keep (e3.trans e1.symm) e4
     . rw [e] at e3
       exact⟨r,g,e4,labu,hc,WaV e3⟩
   . exact keep ((hl v).1 hc).1 ((hl v).1 hc).2
 . by_cases hi:i<done.length
   . rw [Yab hi] at e
     have hv:=Yah e;obtain⟨r0,a1,a2⟩:=S.ord i v e;refine⟨r0,by rw [(same v (Yai _ hv)).2];exact a1,?_⟩
     rcases a2 with a2|⟨j,w,b1,b2,b3⟩
     . exact .inl a2
     . exact .inr ⟨j,w,b1,by rw [Yab #[0]];exact b2,b3⟩
   . have hi':i=done.length:=by
      have:=(Ya8.mp e).1;rw [YaS,List.length_singleton] at this
      omega
     subst hi';rw [Yae (YaY _),Wbi] at e;have e:u=v:=WaV e;subst e;obtain⟨r0,g0,a1,a2,_,_⟩:=S.one u g hg;refine⟨r0,by rw [(same u (by simp)).2];exact a1,?_⟩
     rcases a2 with ⟨a2,_⟩|⟨w,b1,b2,_⟩
     . exact .inl a2
     . obtain⟨j,hj,ej⟩:=Yam b1
       exact .inr ⟨j,w,hj,by rw [Yab hj,YaQ hj,ej],b2⟩
 . rw [(same w hw).1] at e1
   have h1:=hle w hw x e1;have hv':v∉done:=fun z=>hv (Yai _ z)
   by_cases hc:Ch r v
   . rcases(hl v).2 hc with ⟨x',e3,_,e4,_⟩|⟨_,e4,_⟩
     . rw [e2] at e4
       rw [<-WaV e4] at e3;have:=hmin v hv' y e3
       omega
     . rw [e2] at e4
       have:=WaV e4;have:=low v hc
       omega
   . rw [((hl v).1 hc).1] at e2
     have:=hmin v hv' y e2
     omega
structure WayP(P:Int->Prop)(Ed:Int->Int->Prop)(ca t:Tb)(r:Int->Nat)(start:Int)(A B:Nat):Prop where
 inn:∀ c s,P c->getM ca c=some s->InR s A/\InR c B
 ed:∀ c s,P c->getM ca c=some s->Ed s c
 back:∀ c s c',P c->getM ca c=some s->getM t s=some c'->P c'/\∃ s',getM ca c'=some s'/\r s'<r s
 first:∀ c s,P c->getM ca c=some s->getM t s=none->s=start
structure Paid(h far:Tb)(start:Int)(done:List Int)(whole:Int)(tp vp tp' vp':Int->Int):Prop where
 st:tp' start=tp start+whole
 re:∀ u∈done,∀ r y,getM h u=some r->getM far u=some y->tp' r=tp r+(whole - y)/\vp' u=vp u - (whole - y)
 to:∀ x,x≠start->(∀ u∈done,getM h u≠some x)->tp' x=tp x
 vo:∀ v,v∉done->vp' v=vp v
theorem Paid.lab{whole:Int}{tp' vp':Int->Int}(p:Paid h far start done whole tp vp tp' vp'){r g:Int}(l:Lab h far start done r g):tp' r=tp r+(whole - g):=by
 rcases l with ⟨rfl,rfl⟩|⟨u,hu,h1,h2⟩
 . rw [p.st];omega
 . exact(p.re u hu r g h1 h2).1
theorem Sea.open_(S:Sea Ch c tp vp h start far came done)(M:Mend Ch c p0 A B s tp vp t h)(hst:InR start A)(h0:getM t start=none){f:Int->Int}(hf:∀ x,InR x A->Ch x (f x))(inj:∀ x y,InR x A->InR y A->f x=f y->x=y):∃ v x,v∉done/\getM far v=some x:=by
 refine Waf fun hno=>?_
 have hin:∀ v x,getM far v=some x->v∈done:=fun v x e=>Waf fun z=>hno ⟨v,x,z,e⟩
 have hh:∀ u∈done,getM h u=some ((getM h u).getD 0):=fun u hu=>by
  obtain⟨r,e⟩:=Wah.mp (S.held u hu).1;rw [e];rfl
 have ht:∀ u∈done,getM t ((getM h u).getD 0)=some u:=fun u hu=>(M.mat _ u).mpr (hh u hu)
 have hR:∀ r∈start::done.map (fun u=>(getM h u).getD 0),InR r A/\∃ g,Lab h far start done r g:=fun r hr=>by
  rcases Wa4.mp hr with rfl|hr
  . exact⟨hst,0,.inl ⟨rfl,rfl⟩⟩
  . obtain⟨u,hu,rfl⟩:=Ya7.mp hr
    obtain⟨x,e⟩:=Wah.mp (S.held u hu).2;exact⟨(M.oh.get (hh u hu)).2,x,.inr ⟨u,hu,hh u hu,e⟩⟩
 have nd:(start::done.map (fun u=>(getM h u).getD 0)).Nodup:=by
  refine YaB.mpr ⟨fun z=>?_,?_⟩
  . obtain⟨u,hu,e⟩:=Ya7.mp z
    have:=ht u hu;rw [e,h0] at this;cases this
  . rw [Wad,WaG]
    refine(Wad.mp S.nd).imp_of_mem fun {a b} ha hb hab e=>hab ?_
    have h1:=ht a ha;rw [e,ht b hb] at h1;exact(WaV h1).symm
 have nd2:((start::done.map (fun u=>(getM h u).getD 0)).map f).Nodup:=by
  rw [Wad,WaG];exact(Wad.mp nd).imp_of_mem fun {a b} ha hb hab e=>hab (inj a b (hR a ha).1 (hR b hb).1 e)
 have:=zbO nd2 (M:=done) fun y hy=>by
  obtain⟨r,hr,rfl⟩:=Ya7.mp hy;obtain⟨h1,g,h2⟩:=hR r hr;obtain⟨x,e,_⟩:=S.all r g (f r) h2 (hf r h1);exact hin _ x e
 rw [YaR,List.length_cons,YaR] at this
 omega
theorem Mend.next(M:Mend Ch c p0 A B s tp vp t h)(S:Sea Ch c tp vp h (s:Int) far came done){v whole:Int}(hv:v∉done)(hw:getM far v=some whole)(hmin:∀ u,u∉done->∀ y,getM far u=some y->whole<=y){tp' vp':Int->Int}(p:Paid h far (s:Int) done whole tp vp tp' vp'){t' h':Tb}(mv:Moved (fun x v=>Ch x v/\tp' x+vp' v=c x v) t h t' h' (s:Int) A B):Mend Ch c p0 A B (s+1) tp' vp' t' h':=by
 have hdn:∀ u∈done,∃ r y,getM h u=some r/\getM far u=some y/\y<=whole/\0<=r/\r<(s:Int):=fun u hu=>by
  obtain⟨r,e1⟩:=Wah.mp (S.held u hu).1;obtain⟨y,e2⟩:=Wah.mp (S.held u hu).2;have:=(M.dom r).mp (by rw [(M.mat r u).mpr e1];rfl)
  exact⟨r,y,e1,e2,S.least u hu v hv y whole e2 hw,this.1,this.2⟩
 have hle:∀ u,vp' u<=vp u:=fun u=>by
  by_cases hu:u∈done
  . obtain⟨r,y,e1,e2,e3,_⟩:=hdn u hu
    rw [(p.re u hu r y e1 e2).2];omega
  . rw [p.vo u hu];exact Wbm _
 refine⟨mv.mat,mv.ot,mv.oh,fun x=>?_,mv.ed,fun x u x0 x1 hc=>?_,fun u hu=>?_,fun x hx=>?_,fun u=>?_⟩
 . rw [mv.dt,M.dom];omega
 . rcases Classical.em (∃ g,Lab h far (s:Int) done x g) with ⟨g,l⟩|nl
   . obtain⟨y,e1,e2⟩:=S.all x g u l hc
     rw [p.lab l]
     by_cases hu:u∈done
     . obtain⟨r,y',a1,a2,_⟩:=hdn u hu
       rw [e1] at a2;rw [(p.re u hu r y a1 e1).2];omega
     . rw [p.vo u hu]
       have:=hmin u hu y e1
       omega
   . have hx:x≠(s:Int):=fun z=>nl ⟨0,.inl ⟨z,rfl⟩⟩
     have:tp' x=tp x:=p.to x hx fun w hw' e=>by
      obtain⟨r,y,_,a2,_⟩:=hdn w hw';exact nl ⟨y,.inr ⟨w,hw',e,a2⟩⟩
     have h1:=M.low x u x0 #[0] hc
     have h2:=hle u
     omega
 . have h1:getM h u=none:=by
    cases e:getM h u with
    | none=>rfl
    | some r=>have:=mv.dh u (by rw [e];rfl);rw [hu] at this;cases this
   rw [p.vo u fun z=>by have:=(S.held u z).1;rw [h1] at this;cases this]
   exact M.free u h1
 . rw [p.to x #[0] fun w hw' e=>by
    obtain⟨r,y,a1,_,_,_,a3⟩:=hdn w hw';rw [e] at a1;have:=WaV a1
    omega]
   exact M.zero x #[0]
 . exact Int.le_trans (hle u) (M.top u)
theorem Sea.way(S:Sea Ch c tp vp h start far came done)(M:Mend Ch c p0 A B s tp vp t h)(hst:InR start A)(h0:getM t start=none)(hCh:∀ x v,Ch x v->InR v B){v whole:Int}(hv:v∉done)(hw:getM far v=some whole){tp' vp':Int->Int}(p:Paid h far start done whole tp vp tp' vp') :
 WayP (fun u=>u∈done\/u=v) (fun x v=>Ch x v/\tp' x+vp' v=c x v) came t (fun x=>if x=start then 0 else(done.map fun u=>(getM h u).getD 0).idxOf x+1) start A B/\∃ r,getM came v=some r:=by
 have hh:∀ u∈done,getM h u=some ((getM h u).getD 0):=fun u hu=>by
  obtain⟨r,e⟩:=Wah.mp (S.held u hu).1;rw [e];rfl
 have ht:∀ u∈done,getM t ((getM h u).getD 0)=some u:=fun u hu=>(M.mat _ u).mpr (hh u hu)
 have hfar:∀ u,u∈done\/u=v->∃ y,getM far u=some y:=fun u hu=>by
  rcases hu with hu|rfl
  . exact Wah.mp (S.held u hu).2
  . exact⟨whole,hw⟩
 have ndm:(done.map fun u=>(getM h u).getD 0).Nodup:=by
  rw [Wad,WaG];refine(Wad.mp S.nd).imp_of_mem fun {a b} ha hb hab e=>hab ?_
  have h1:=ht a ha;rw [e,ht b hb] at h1;exact(WaV h1).symm
 have rk:∀ (j:Nat) (u:Int),done[j]?=some u->(if(getM h u).getD 0=start then 0 else(done.map fun u=>(getM h u).getD 0).idxOf ((getM h u).getD 0)+1)=j+1:=fun j u e=>by
  have hu:=Yah e;rw [if_neg fun z=>by have:=ht u hu;rw [z,h0] at this;cases this]
  obtain⟨hj,ej⟩:=Ya8.mp e;have hj':j<(done.map fun u=>(getM h u).getD 0).length:=by rw [YaR];exact hj
  have:=ndm.idxOf_getElem j hj';rw [List.getElem_map,ej] at this;rw [this]
 have src:∀ u r,u∈done\/u=v->getM came u=some r->r=start\/∃ (j:Nat) (w:Int),done[j]?=some w/\getM h w=some r:=fun u r hu e=>by
  obtain⟨y,hy⟩:=hfar u hu;obtain⟨r',g,a1,a2,_⟩:=S.one u y hy;rw [e] at a1;rw [WaV a1]
  rcases a2 with ⟨z,_⟩|⟨w,b1,b2,_⟩
  . exact .inl z
  . obtain⟨j,hj,ej⟩:=Yam b1
    exact .inr ⟨j,w,by rw [YaQ hj,ej],b2⟩
 refine⟨⟨fun u r hu e=>?_,fun u r hu e=>?_,fun u r u' hu e e'=>?_,fun u r hu e e'=>?_⟩,?_⟩
 . obtain⟨y,hy⟩:=hfar u hu
   obtain⟨r',g,a1,a2,a3,_⟩:=S.one u y hy;rw [e] at a1;refine⟨?_,hCh _ _ a3⟩
   rcases src u r hu e with z|⟨j,w,_,b2⟩
   . rw [z];exact hst
   . exact(M.oh.get b2).2
 . obtain⟨y,hy⟩:=hfar u hu
   obtain⟨r',g,a1,a2,a3,a4⟩:=S.one u y hy;rw [e] at a1;rw [<-WaV a1] at a2 a3 a4;refine⟨a3,?_⟩;rw [p.lab a2]
   rcases hu with hu|rfl
   . rw [(p.re u hu _ y (hh u hu) hy).2];omega
   . rw [p.vo u hv]
     rw [hw] at hy;have:=WaV hy
     omega
 . rcases src u r hu e with z|⟨j,w,b1,b2⟩
   . rw [z,h0] at e';cases e'
   . have hw':=Yah b1
     have hwr:(getM h w).getD 0=r:=by rw [b2];rfl
     have:u'=w:=by
      have:=ht w hw';rw [hwr,e'] at this;exact WaV this
     subst this;obtain⟨r',c1,c2⟩:=S.ord j u' b1;refine⟨.inl hw',r',c1,?_⟩;have e1:=rk j u' b1;rw [hwr] at e1;show(if r'=start then 0 else _)<(if r=start then 0 else _)
     rw [e1]
     rcases c2 with z|⟨i,x,d1,d2,d3⟩
     . rw [if_pos z];omega
     . have e2:=rk i x d2
       rw [show(getM h x).getD 0=r' by rw [d3];rfl] at e2
       rw [e2];omega
 . rcases src u r hu e with z|⟨j,w,b1,b2⟩
   . exact z
   . rw [(M.mat r w).mpr b2] at e';cases e'
 . obtain⟨r,g,a1,_⟩:=S.one v whole hw
   exact⟨r,a1⟩
end
def sumF(n:Nat)(F:Int->Int):Int:=((List.range n).map fun i:Nat=>F (i:Int)).sum
theorem zg5{l m:List Int}(h:l.Perm m):l.sum=m.sum:=by
 induction h with
 | nil=>rfl
 | cons x _ ih=>rw [List.sum_cons,List.sum_cons,ih]
 | swap x y l=>rw [List.sum_cons,List.sum_cons,List.sum_cons,List.sum_cons];omega
 | trans _ _ h1 h2=>exact h1.trans h2
theorem zb5{α : Type}{f g:α->Int}:∀ {l:List α},(∀ x∈l,f x<=g x)->(l.map f).sum<=(l.map g).sum
 | [],_=>Wbm _
 | x :: r, h => by
  have h1:=h x YaV;have h2:=zb5 (l:=r) fun y hy=>h y (YaT _ hy)
  rw [Ya1,Ya1,List.sum_cons,List.sum_cons];omega
theorem zeG{α : Type}{f g:α->Int}:∀ {l:List α},(l.map fun x=>f x+g x).sum=(l.map f).sum+(l.map g).sum
 | []=>rfl
 | x :: r => by
  have:=zeG (f:=f) (g:=g) (l:=r);rw [Ya1,Ya1,Ya1,List.sum_cons,List.sum_cons,List.sum_cons];omega
theorem zcJ{α : Type}{f:α->Int}:∀ {l:List α},(∀ x∈l,f x=0)->(l.map f).sum=0
 | [],_=>rfl
 | x::r,h=>by rw [Ya1,List.sum_cons,h x YaV,zcJ fun y hy=>h y (YaT _ hy)];rfl
theorem zd8{α : Type}{f:α->Int}:∀ {l:List α},(∀ x∈l,f x<=1)->(l.map f).sum<=(l.length:Int)
 | [],_=>Wbm _
 | x :: r, h => by
  have h1:=h x YaV;have h2:=zd8 (l:=r) fun y hy=>h y (YaT _ hy)
  rw [Ya1,List.sum_cons,List.length_cons];omega
theorem zcd{α : Type}{f:α->Int}:∀ {l:List α},(∀ x∈l,0<=f x)->0<=(l.map f).sum/\∀ x∈l,f x<=(l.map f).sum
 | [],_=>⟨Wbm _,fun x h=>by cases h⟩
 | x :: r, h => by
  have h1:=h x YaV;obtain⟨h2,h3⟩:=zcd (l:=r) fun y hy=>h y (YaT _ hy)
  rw [Ya1,List.sum_cons];refine⟨#[0],fun y hy=>?_⟩
  rcases Wa4.mp hy with z|z
  . rw [z];omega
  . have:=h3 y z;omega
theorem zd3{A B:Nat}{g:Int->Int}(hg:∀ x,InR x A->InR (g x) B)(inj:∀ x y,InR x A->InR y A->g x=g y->x=y)(F:Int->Int):∃ L:List Nat,sumF B F=sumF A (fun x=>F (g x))+(L.map fun i:Nat=>F (i:Int)).sum/\∀ i,i∈L↔i<B/\∀ x,InR x A->g x≠(i:Int):=by
 have ri:∀ i:Nat,i<A->InR (i:Int) A:=fun i hi=>⟨#[0],#[0]⟩
 have dc:∀ i:Nat,Decidable (∀ x,InR x A->g x≠(i:Int)):=fun _=>Classical.propDecidable _
 have nd:((List.range A).map fun i:Nat=>(g (i:Int)).toNat).Nodup:=by
  rw [Wad,WaG];refine(Wad.mp WaR).imp_of_mem fun {a b} ha hb hab e=>hab ?_
  have ha:=ri a (Yba.mp ha);have hb:=ri b (Yba.mp hb);obtain⟨a0,a1⟩:=hg _ ha;obtain⟨b0,b1⟩:=hg _ hb;have:=inj _ _ ha hb #[0]
  omega
 have key:(List.range B).Perm (((List.range A).map fun i:Nat=>(g (i:Int)).toNat)++(List.range B).filter fun i:Nat=>decide (∀ x,InR x A->g x≠(i:Int))):=by
  refine(List.perm_ext_iff_of_nodup WaR (WaA.mpr ⟨nd,WaR.filter _,fun a ha b hb e=>?_⟩)).mpr fun i=>?_
  . obtain⟨k,hk,rfl⟩:=Ya7.mp ha
    have hk:=ri k (Yba.mp hk);have h1:=of_decide_eq_true (Ya9.mp hb).2;obtain⟨a0,a1⟩:=hg _ hk;exact h1 _ hk #[0]
  . rw [Ya3,Ya7,Ya9,Yba]
    constructor
    . intro hi
      rcases Classical.em (∃ x,InR x A/\g x=(i:Int)) with ⟨x,hx,e⟩|hno
      . obtain⟨x0,x1⟩:=hx
        exact .inl ⟨x.toNat,Yba.mpr #[0],by rw [show((x.toNat:Nat):Int)=x by omega,e];omega⟩
      . exact .inr ⟨hi,decide_eq_true fun x hx e=>hno ⟨x,hx,e⟩⟩
    . rintro(⟨k,hk,rfl⟩|⟨hi,_⟩)
      . obtain⟨a0,a1⟩:=hg _ (ri k (Yba.mp hk));omega
      . exact hi
 refine⟨(List.range B).filter fun i:Nat=>decide (∀ x,InR x A->g x≠(i:Int)),?_,fun i=>?_⟩
 . unfold sumF
   rw [zg5 (key.map fun i:Nat=>F (i:Int)),Ya2,WaZ,YaD]
   congr 2
   refine Yat fun k hk=>?_
   obtain⟨a0,a1⟩:=hg _ (ri k (Yba.mp hk));show F (((g (k:Int)).toNat:Nat):Int)=_;rw [show(((g (k:Int)).toNat:Nat):Int)=g (k:Int) by omega]
 . rw [Ya9,Yba,decide_eq_true_eq]
theorem Mend.fair{Ch:Int->Int->Prop}{c:Int->Int->Int}{p0:Int->Int}{A B:Nat}{tp vp:Int->Int}{t h:Tb}(M:Mend Ch c p0 A B A tp vp t h)(hc:∀ x v,0<=c x v/\c x v<=1){due:Int->Prop}(hp:∀ v,(due v->p0 v=(A:Int)+1)/\(¬due v->p0 v=0))
 (hCh:∀ x v,Ch x v->InR v B) {f:Int->Int} (hf:∀ x,InR x A->Ch x (f x)) (inj:∀ x y,InR x A->InR y A->f x=f y->x=y) (cov:∀ v,InR v B->due v->∃ x,InR x A/\f x=v) :
 (∀ v,InR v B->due v->(getM h v).isSome=true)/\sumF A tp+sumF B vp=sumF A (fun x=>c x ((getM t x).getD 0))/\sumF A (fun x=>c x ((getM t x).getD 0))<=sumF A (fun x=>c x (f x)):=by
 have ht:∀ x,InR x A->getM t x=some ((getM t x).getD 0):=fun x hx=>by
  obtain⟨v,e⟩:=Wah.mp ((M.dom x).mpr hx);rw [e];rfl
 have rng:∀ {F G:Int->Int},(∀ x,InR x A->F x<=G x)->sumF A F<=sumF A G:=fun {F G} hFG=>zb5 fun i hi=>hFG _ ⟨#[0],by have:=Yba.mp hi;omega⟩
 have add:∀ {F G:Int->Int},sumF A (fun x=>F x+G x)=sumF A F+sumF A G:=zeG
 have hb:∀ i:Nat,i<B->InR (i:Int) B:=fun i hi=>⟨#[0],#[0]⟩
 have nn:∀ v,0<=p0 v:=fun v=>by
  rcases Classical.em (due v) with z|z
  . rw [(hp v).1 z];omega
  . rw [(hp v).2 z];exact Wbm _
 obtain⟨L1,e1,m1⟩:=zd3 (A:=A) (B:=B) (g:=fun x=>(getM t x).getD 0) (fun x hx=>(M.ot.get (ht x hx)).2) (fun x y hx hy e=>by
  have h1:=(M.mat _ _).mp (ht x hx);have h2:=(M.mat _ _).mp (ht y hy);have e:(getM t x).getD 0=(getM t y).getD 0:=e;rw [e,h2] at h1;exact(WaV h1).symm) vp
 obtain⟨L2,e2,m2⟩:=zd3 (A:=A) (B:=B) (g:=f) (fun x hx=>hCh _ _ (hf x hx)) inj vp
 have hL1:∀ i∈L1,getM h (i:Int)=none:=fun i hi=>by
  cases e:getM h (i:Int) with
  | none=>rfl
  | some x=>
   have hx:=(M.oh.get e).2;have:=(M.mat x (i:Int)).mpr e;exact absurd (by rw [this];rfl) (((m1 i).mp hi).2 x hx)
 have s1:(L1.map fun i:Nat=>vp (i:Int)).sum=(L1.map fun i:Nat=>p0 (i:Int)).sum:=by
  congr 1
  exact Yat fun i hi=>M.free _ (hL1 i hi)
 have s2:(L2.map fun i:Nat=>vp (i:Int)).sum<=0:=by
  have:(L2.map fun i:Nat=>vp (i:Int)).sum<=(L2.map fun _:Nat=>(0:Int)).sum:=zb5 fun i hi=>by
   obtain⟨h1,h2⟩:=(m2 i).mp hi;have h3:=M.top (i:Int);rw [(hp (i:Int)).2 fun z=>by obtain⟨x,hx,e⟩:=cov _ (hb i h1) z;exact h2 x hx e] at h3
   exact h3
  rw [zcJ (f:=fun _:Nat=>(0:Int)) fun _ _=>rfl] at this
  exact this
 have t1:sumF A tp+sumF A (fun x=>vp ((getM t x).getD 0))=sumF A (fun x=>c x ((getM t x).getD 0)):=by
  rw [<-add];refine Int.le_antisymm (rng fun x hx=>?_) (rng fun x hx=>?_)
  . exact Int.le_of_eq (M.ed x _ (ht x hx)).2
  . exact Int.le_of_eq (M.ed x _ (ht x hx)).2.symm
 have t2:sumF A tp+sumF A (fun x=>vp (f x))<=sumF A (fun x=>c x (f x)):=by
  rw [<-add];exact rng fun x hx=>M.low x _ hx.1 hx.2 (hf x hx)
 have t3:sumF A (fun x=>c x (f x))<=(A:Int):=by
  have:=zd8 (l:=List.range A) (f:=fun i:Nat=>c (i:Int) (f (i:Int))) fun i _=>(hc _ _).2
  rw [YaG] at this;exact this
 have t4:0<=sumF A (fun x=>c x ((getM t x).getD 0)):=(zcd (l:=List.range A) (f:=fun i:Nat=>c (i:Int) ((getM t (i:Int)).getD 0)) fun i _=>(hc _ _).1).1
 obtain⟨p1,p2⟩:=zcd (l:=L1) (f:=fun i:Nat=>p0 (i:Int)) fun i _=>nn _
 have hdue:∀ v,InR v B->due v->(getM h v).isSome=true:=fun v hv hd=>by
  cases e:getM h v with
  | some _=>rfl
  | none=>
   exfalso
   obtain⟨v0,v1⟩:=hv;have hm:v.toNat∈L1:=(m1 _).mpr ⟨#[0],fun x hx z=>by
    have:=(M.mat x _).mp (ht x hx);rw [show(((v.toNat:Nat):Int))=v by omega] at z
    have z:(getM t x).getD 0=v:=z;rw [z,e] at this;cases this⟩
   have:=p2 _ hm;rw [show(((v.toNat:Nat):Int))=v by omega,(hp v).1 hd] at this
   rw [e1,s1] at e2
   omega
 have s3:(L1.map fun i:Nat=>p0 (i:Int)).sum=0:=zcJ fun i hi=>(hp _).2 fun z=>by
  have:=hdue _ (hb i ((m1 i).mp hi).1) z;rw [hL1 i hi] at this;cases this
 refine⟨hdue,?_,?_⟩
 . rw [e1,s1,s3];omega
 . rw [e1,s1,s3] at e2;omega
section
open PySem.Spec PyProof.Rows
structure MkD where
 dx:Addr
 aC:Addr
 aT:Addr
 aV:Addr
 aK:Addr
 aH:Addr
 dcs:List Addr
 cs:List Tb
 tp:List Int
 vp:List Int
 tk:Tb
 hd:Tb
def mfs(M:MkD):List (Str×V):=[("costs", .ref M.aC),("turn_prices", .ref M.aT),("visit_prices", .ref M.aV),("taken", .ref M.aK),("holders", .ref M.aH)]
structure Mkt(C:Addr)(H:Hp)(m:Addr)(M:MkD):Prop where
 ins:H m=some (.ins C M.dx (mfs M))
 own:H M.dx=some (.own m)
 lc:H M.aC=some (.lst (M.dcs.map .ref))
 len:M.dcs.length=M.cs.length
 dc:∀ (i:Nat) d,M.dcs[i]?=some d->∃ o,H d=some (.frz o (.dK (encM (M.cs.getD i []))))
 lt:H M.aT=some (.lst (M.tp.map .int))
 lv:H M.aV=some (.lst (M.vp.map .int))
 dk:H M.aK=some (.dK (encM M.tk))
 dh:H M.aH=some (.dK (encM M.hd))
theorem Mkt.keep{C:Addr}{H H':Hp}{m:Addr}{M:MkD}(k:Mkt C H m M)(s:∀ b o,H b=some o->(∀ f,o≠.ext f)->H' b=some o):Mkt C H' m M where
 ins:=s _ _ k.ins #[95]
 own:=s _ _ k.own #[95]
 lc:=s _ _ k.lc #[95]
 len:=k.len
 dc:=fun i d e=>let ⟨o,h⟩:=k.dc i d e;⟨o,s _ _ h #[95]⟩
 lt:=s _ _ k.lt #[95]
 lv:=s _ _ k.lv #[95]
 dk:=s _ _ k.dk #[95]
 dh:=s _ _ k.dh #[95]
def zC(L:Int->Int->Int)(t:Int)(fc:Tb×Tb)(p:Int×Int):Tb×Tb:=
 match getM fc.1 p.1 with
 | none=>(putM fc.1 p.1 (L p.1 p.2),putM fc.2 p.1 t)
 | some x=>if L p.1 p.2<x then(putM fc.1 p.1 (L p.1 p.2),putM fc.2 p.1 t) else fc
theorem zbz(L:Int->Int->Int)(t:Int):∀ (l:Tb) (fc:Tb×Tb),(l.foldl (zC L t) fc).1.length<=fc.1.length+l.length/\(l.foldl (zC L t) fc).2.length<=fc.2.length+l.length
 | [],fc=>⟨YaY _,YaY _⟩
 | p :: r, fc => by
  have h:=zbz L t r (zC L t fc p);have h1:(zC L t fc p).1.length<=fc.1.length+1/\(zC L t fc p).2.length<=fc.2.length+1:=by
   have pl:∀ (d:Tb) (k v:Int),(putM d k v).length<=d.length+1:=fun d k v=>by
    unfold putM;split
    . rw [YaR];omega
    . rw [YaS];exact YaY _
   unfold zC
   split
   . exact⟨pl _ _ _,pl _ _ _⟩
   . split
     . exact⟨pl _ _ _,pl _ _ _⟩
     . exact⟨Nat.le_succ _,Nat.le_succ _⟩
  rw [List.foldl_cons,List.length_cons]
  omega
def zH(M:MkD)(t g:Int)(v x:Int):Int:=g+x - M.tp.getD t.toNat 0 - M.vp.getD v.toNat 0
section
variable{P:Program}{w:World}{K:Ybf}{mg:#[15]}{base:Heap}{C:Addr}
def zcm(C:Addr):Sp:=fun vs H Q E=>∃ m t g f c M far came,vs=[.ref m,.int t,.int g,.ref f,.ref c]/\Mkt C H m M/\0<=t/\t<(M.cs.length:Int)/\t<(M.tp.length:Int)/\(∀ p∈M.cs.getD t.toNat [],InR p.1 M.vp.length)/\
 H f=some (.dK (encM far))/\H c=some (.dK (encM came))/\f≠c/\far.length+(M.cs.getD t.toNat []).length<sizeLine/\came.length+(M.cs.getD t.toNat []).length<sizeLine/\
 ∀ H',zi (bar H [f,c]) H'->H' f=some (.dK (encM ((M.cs.getD t.toNat []).foldl (zC (zH M t g) t) (far,came)).1))->H' c=some (.dK (encM ((M.cs.getD t.toNat []).foldl (zC (zH M t g) t) (far,came)).2))->Q .non H'
theorem zll(cl:Cls K C)(n1:zQ K C "costs")(n2:zQ K C "turn_prices")(n3:zQ K C "visit_prices"){f:Addr}{fd:FuncData}(F:Fun K "look_from" "look_from" zdr f fd):FnOk P w K mg base (CXR P w) 1 f fd ["market", "turn", "gone", "far", "came"] (zcm C):=by
 have S:FnScope ["market", "turn", "gone", "far", "came", "visit", "cost", "length"] ["market", "turn", "gone", "far", "came"] (zh zdr):=#[10]
 refine F.okR S (fun vs H Q E h=>?_) (fun cdv A outer s H vs Q E hr h=>?_)
 . obtain⟨_,_,_,_,_,_,_,_,rfl,_⟩:=h;rfl
 have hu:=z9 hr;refine⟨_,jk (Zd WaH rfl (zjA (jM j8 (jF (pv 0) rfl) (pv 1) #[4])) (zbH rfl (JH (jp (i:=5) S.nd rfl (.inl rfl)) (JH (jp (i:=6) S.nd rfl (.inl rfl)) zb1)))
  (zM (jh (i:=7) S.nd rfl (.inl rfl) (Jw ZH (Jw ZH (Jw zc2 (pv 2) (pv 6)) (jM j8 (jF (pv 0) rfl) (pv 1) #[4])) (jM j8 (jF (pv 0) rfl) (pv 5) #[4])))
   (jk (zdU (PW.pt (zdW (Zw (zbK hu (pv 5) (pv 3))) (zdY (zbG zen (pv 7) (j5 hu (pv 3) (pv 5) #[4]) (nomark _))))) (zM (JC hu (pv 3) (pv 5) (pv 7) rfl) (jk (JC hu (pv 4) (pv 5) (pv 1) rfl))) zeP)))),?_⟩
 obtain⟨m,t,g,fa,ca,M,far,came,rfl,hM,t0,t1,t2,hrng,hf,hc,hne,hl1,hl2,q⟩:=h;have htn:t.toNat<M.dcs.length:=by rw [hM.len];omega
 obtain⟨o,ho⟩:=hM.dc t.toNat M.dcs[t.toNat] (YaQ htn);have hat:atI (M.dcs.map V.ref) t=some (.ref M.dcs[t.toNat]):=by
  have:=z8 (xs:=M.dcs.map V.ref) (j:=t.toNat) (v:=.ref M.dcs[t.toNat]) (by rw [Ya0,YaQ htn];rfl)
  rwa [show((t.toNat:Nat):Int)=t by omega] at this
 have htt:atI (M.tp.map V.int) t=some (.int (M.tp.getD t.toNat 0)):=by
  have:=z8 (xs:=M.tp.map V.int) (j:=t.toNat) (v:=.int (M.tp.getD t.toNat 0)) (by rw [Ya0,YaQ (show t.toNat<M.tp.length by omega),YaP,YaQ (show t.toNat<M.tp.length by omega)];rfl)
  rwa [show((t.toNat:Nat):Int)=t by omega] at this
 refine⟨.ref m,rfl,m,C,M.dx,mfs M,.ref M.aC,rfl,hM.ins,cl,n1,rfl,.int t,rfl,M.aC,_,t,.ref M.dcs[t.toNat],rfl,rfl,SqL.of hM.lc,hat,M.dcs[t.toNat],o,_,rfl,ho,?_⟩
 generalize hits:M.cs.getD t.toNat []=its at *;refine⟨fun i n σ' H'=>i<=its.length/\n=its.length - i/\(∃ t5 t6 t7,σ'=[some (.ref m),some (.int t),some (.int g),some (.ref fa),some (.ref ca),t5,t6,t7])/\zi (bar H [fa,ca]) H'/\H' fa=some (.dK (encM ((its.take i).foldl (zC (zH M t g) t) (far,came)).1))/\H' ca=some (.dK (encM ((its.take i).foldl (zC (zH M t g) t) (far,came)).2)),
  ⟨_,Wbl _,rfl,⟨none,none,none,rfl⟩,(Zx _ _).x,hf,hc⟩,?_⟩
 rintro i n σ' H' ⟨hi,rfl,⟨t5,t6,t7,rfl⟩,hs,h1,h2⟩
 have kp:∀ b ob,H b=some ob->(∀ kv,ob≠.dK kv)->(∀ x,ob≠.ext x)->H' b=some ob:=fun b ob e n1 n2=>by
  refine hs.at ((zX fun z=>?_).trans e) n2
  rcases Wa4.mp z with z|z
  . rw [z,hf] at e;exact n1 _ (WaV e).symm
  . rw [Ya6.mp z,hc] at e;exact n1 _ (WaV e).symm
 have hd:H' M.dcs[t.toNat]=some (.frz o (.dK (encM its))):=kp _ _ ho (by intro kv z;cases z) (by intro x z;cases z)
 by_cases hlt:i<its.length
 . have hx:(L3.encM its)[i]?=some (Sum.inl its[i].1,.int its[i].2):=by unfold L3.encM;rw [Ya0,YaQ hlt];rfl
   refine .inr ⟨⟨⟨_,hx⟩,hd⟩,fun σ2 H2=>(∃ t5 t6 t7,σ2=[some (.ref m),some (.int t),some (.int g),some (.ref fa),some (.ref ca),t5,t6,t7])/\zi (bar H [fa,ca]) H2/\H2 fa=some (.dK (encM ((its.take (i+1)).foldl (zC (zH M t g) t) (far,came)).1))/\H2 ca=some (.dK (encM ((its.take (i+1)).foldl (zC (zH M t g) t) (far,came)).2)),fun σ2 H2 z=>⟨its.length - (i+1),#[0],hlt,rfl,z⟩,?_⟩
   rintro x H3 ⟨a,k,v,hn,rfl,hk,rfl⟩
   rw [hx] at hk;cases hk;have hpm:its[i]∈its:=Ya4 hlt;have htk:its.take (i+1)=its.take i++[its[i]]:=by rw [WaI,YaQ hlt];rfl
   rw [htk,WaB];have hle:(its.take i).length=i:=by rw [WaN];omega
   have hlen:=zbz (zH M t g) t (its.take i) (far,came);generalize (its.take i).foldl (zC (zH M t g) t) (far,came)=fc at h1 h2 hlen;obtain⟨F1,C1⟩:=fc;rw [hle] at hlen;have hF1:F1.length<sizeLine:=Was hlen.1 (by show far.length+i<_;omega)
   have hC1:C1.length<sizeLine:=Was hlen.2 (by show came.length+i<_;omega)
   generalize its[i]=p at hpm;obtain⟨v,x⟩:=p;obtain⟨v0,v1⟩:=hrng _ hpm;have v0:0<=v:=v0;have v1:v<(M.vp.length:Int):=v1;have hvv:atI (M.vp.map V.int) v=some (.int (M.vp.getD v.toNat 0)):=by
    have:=z8 (xs:=M.vp.map V.int) (j:=v.toNat) (v:=.int (M.vp.getD v.toNat 0)) (by rw [Ya0,YaQ (show v.toNat<M.vp.length by omega),YaP,YaQ (show v.toNat<M.vp.length by omega)];rfl)
    rwa [show((v.toNat:Nat):Int)=v by omega] at this
   have up:∀ b ob,H' b=some ob->upd H' a (.tup [kV (Sum.inl v),.int x]) b=some ob:=fun b ob e=>by rw [zc #[96,hn,e]];exact e
   have ins3:=up _ _ (kp _ _ hM.ins (by intro kv z;cases z) (by intro x z;cases z))
   have lt3:=up _ _ (kp _ _ hM.lt (by intro kv z;cases z) (by intro x z;cases z))
   have lv3:=up _ _ (kp _ _ hM.lv (by intro kv z;cases z) (by intro x z;cases z))
   have f3:=up _ _ h1;have c3:=up _ _ h2;have hs3:=hs.trans (zG hn (.tup [kV (Sum.inl v),.int x])).x;have bf:bar H [fa,ca] fa=none:=jK (by simp)
   have bc:bar H [fa,ca] ca=none:=jK (by simp)
   have hG:SqT K (upd H' a (.tup [kV (Sum.inl v),.int x])) a [.int v,.int x]:=SqT.of zf;generalize upd H' a (.tup [kV (Sum.inl v),.int x])=H3 at *;refine⟨a,[.int v,.int x],rfl,hG,rfl,_,_,rfl,_,_,rfl,rfl,?_⟩;refine⟨.int g,rfl,.int x,rfl,g,x,rfl,rfl,.ref m,rfl,m,C,M.dx,mfs M,.ref M.aT,rfl,ins3,cl,n2,rfl,.int t,rfl,M.aT,_,t,_,rfl,rfl,SqL.of lt3,htt,_,_,rfl,rfl,.ref m,rfl,m,C,M.dx,mfs M,.ref M.aV,rfl,ins3,cl,n3,rfl,.int v,rfl,M.aV,_,v,_,rfl,rfl,SqL.of lv3,hvv,_,_,rfl,rfl,?_⟩
   have put:∀ (N:Prop),((∃ t5 t6 t7,([some (V.ref m),some (.int t),some (.int g),some (.ref fa),some (.ref ca),some (.int v),some (.int x),some (.int (g+x - M.tp.getD t.toNat 0 - M.vp.getD v.toNat 0))]:List (Option V))=[some (.ref m),some (.int t),some (.int g),some (.ref fa),some (.ref ca),t5,t6,t7])/\zi (bar H [fa,ca]) (upd (upd H3 fa (.dK (L3.encM (putM F1 v (zH M t g v x))))) ca (.dK (L3.encM (putM C1 v t))))/\upd (upd H3 fa (.dK (L3.encM (putM F1 v (zH M t g v x))))) ca (.dK (L3.encM (putM C1 v t))) fa=some (.dK (L3.encM (putM F1 v (zH M t g v x))))/\upd (upd H3 fa (.dK (L3.encM (putM F1 v (zH M t g v x))))) ca (.dK (L3.encM (putM C1 v t))) ca=some (.dK (L3.encM (putM C1 v t)))->N)->N:=fun N k=>k ⟨⟨_,_,_,rfl⟩,(hs3.chg bf f3 #[95]).chg bc ((zc hne.symm).trans c3) #[95],(zc hne).trans zf,zf⟩
   refine⟨.int v,rfl,.ref fa,rfl,fa,_,rfl,DGet.k (k:=Sum.inl v) f3,_,rfl,?_⟩
   rw [jt];have go:zC (zH M t g) t (F1,C1) (v,x)=(putM F1 v (zH M t g v x),putM C1 v t)->∀ D:L2.Ends,D.nx=(fun σ2 H2=>(∃ t5 t6 t7,σ2=[some (V.ref m),some (.int t),some (.int g),some (.ref fa),some (.ref ca),t5,t6,t7])/\zi (bar H [fa,ca]) H2/\H2 fa=some (.dK (L3.encM (zC (zH M t g) t (F1,C1) (v,x)).1))/\H2 ca=some (.dK (L3.encM (zC (zH M t g) t (F1,C1) (v,x)).2)))->
    tSeq (zcx (tVar 3) (tVar 5) (tVar 7)) (zcx (tVar 4) (tVar 5) (tVar 1)) D [some (V.ref m),some (.int t),some (.int g),some (.ref fa),some (.ref ca),some (.int v),some (.int x),some (.int (g+x - M.tp.getD t.toNat 0 - M.vp.getD v.toNat 0))] H3:=fun e D hD=>by
    refine⟨.int _,rfl,.ref fa,rfl,.int v,rfl,fa,_,rfl,DPut.k (k:=Sum.inl v) f3 (by rw [Zy];exact hF1),?_⟩
    refine⟨.int t,rfl,.ref ca,rfl,.int v,rfl,ca,_,rfl,DPut.k (k:=Sum.inl v) ((zc hne.symm).trans c3) (by rw [Zy];exact hC1),?_⟩
    rw [hD,Ze,Ze,e];exact put _ id
   have no:zC (zH M t g) t (F1,C1) (v,x)=(F1,C1)->(∃ t5 t6 t7,([some (V.ref m),some (.int t),some (.int g),some (.ref fa),some (.ref ca),some (.int v),some (.int x),some (.int (g+x - M.tp.getD t.toNat 0 - M.vp.getD v.toNat 0))]:List (Option V))=[some (.ref m),some (.int t),some (.int g),some (.ref fa),some (.ref ca),t5,t6,t7])/\zi (bar H [fa,ca]) H3/\H3 fa=some (.dK (L3.encM (zC (zH M t g) t (F1,C1) (v,x)).1))/\H3 ca=some (.dK (L3.encM (zC (zH M t g) t (F1,C1) (v,x)).2)):=fun e=>by
    rw [e];exact⟨⟨_,_,_,rfl⟩,hs3,f3,c3⟩
   cases hg:getM F1 v with
   | none=>exact go (by unfold zC;dsimp only;rw [hg]) _ rfl
   | some y=>
    refine⟨.int _,rfl,.ref fa,rfl,.int v,rfl,fa,.int y,rfl,by have:=DGet.k (k:=Sum.inl v) f3;rw [jt,hg] at this;exact this,_,_,rfl,rfl,_,rfl,?_⟩
    by_cases hy:zH M t g v x<y
    . show if decide (zH M t g v x<y)=true then _ else _
      rw [if_pos (decide_eq_true hy)];exact go (by unfold zC;dsimp only;rw [hg];dsimp only;rw [if_pos hy]) _ rfl
    . show if decide (zH M t g v x<y)=true then _ else _
      rw [if_neg (by rw [decide_eq_false hy];decide)]
      exact no (by unfold zC;dsimp only;rw [hg];dsimp only;rw [if_neg hy])
 . have e:i=its.length:=#[0]
   subst e;rw [YaH] at h1 h2;refine .inl ⟨⟨by unfold L3.encM;rw [YaR],hd⟩,q H' hs h1 h2⟩
end
section
variable{P:Program}{w:World}{K:Ybf}{mg:#[15]}{base:Heap}{C:Addr}
theorem zdi{X:Cx}{st:Stmt}{t:TS}(h:PS X st t):PS X st (fun B σ H=>∃ l kvs,H l=some (.dK kvs)/\∀ o,t B σ (upd H l (.frz o (.dK kvs)))):=fun pins s σ H B I hyp=>by
 obtain⟨l,kvs,hl,q⟩:=hyp;obtain⟨o,I'⟩:=I.frzK hl;exact h pins s σ _ B I' (q o)
def pay1(far hd:Tb)(w:Int)(p:List Int×List Int)(k:Int):List Int×List Int:=
 (p.1.set ((getM hd k).getD 0).toNat (p.1.getD ((getM hd k).getD 0).toNat 0+(w - (getM far k).getD 0)),p.2.set k.toNat (p.2.getD k.toNat 0 - (w - (getM far k).getD 0)))
theorem zcq(far hd:Tb)(w:Int):∀ (ks:List Int) (p:List Int×List Int),(ks.foldl (pay1 far hd w) p).1.length=p.1.length/\(ks.foldl (pay1 far hd w) p).2.length=p.2.length
 | [],p=>⟨rfl,rfl⟩
 | k :: r, p => by
  have:=zcq far hd w r (pay1 far hd w p k);rw [List.foldl_cons,this.1,this.2];exact⟨YaN,YaN⟩
theorem zcv{xs:List Int}{k:Int}(h:InR k xs.length):atI (xs.map V.int) k=some (.int (xs.getD k.toNat 0)):=by
 obtain⟨h0,h1⟩:=h;have:=z8 (xs:=xs.map V.int) (j:=k.toNat) (v:=.int (xs.getD k.toNat 0)) (by rw [Ya0,YaQ (show k.toNat<xs.length by omega),YaP,YaQ (show k.toNat<xs.length by omega)];rfl)
 rwa [show((k.toNat:Nat):Int)=k by omega] at this
def encK(ks:List Int):List (Key×V):=ks.map fun k=>(Sum.inl k,V.bl true)
def zdv(C:Addr):Sp:=fun vs H Q E=>∃ m s w f d M far ks,vs=[.ref m,.int s,.int w,.ref f,.ref d]/\Mkt C H m M/\InR s M.tp.length/\H f=some (.dK (encM far))/\H d=some (.dK (encK ks))/\(∀ k∈ks,InR k M.vp.length/\∃ r y,getM M.hd k=some r/\getM far k=some y/\InR r M.tp.length)/\M.aT≠M.aV/\d≠f/\d≠M.aH/\
 ∀ H',zi (bar H [M.aT,M.aV,d]) H'->H' M.aT=some (.lst ((ks.foldl (pay1 far M.hd w) (M.tp.set s.toNat (M.tp.getD s.toNat 0+w),M.vp)).1.map .int))->H' M.aV=some (.lst ((ks.foldl (pay1 far M.hd w) (M.tp.set s.toNat (M.tp.getD s.toNat 0+w),M.vp)).2.map .int))->Q .non H'
theorem zjf(cl:Cls K C)(n2:zQ K C "turn_prices")(n3:zQ K C "visit_prices")(n4:zQ K C "holders"){f:Addr}{fd:FuncData}(F:Fun K "change_prices" "change_prices" zdy f fd):FnOk P w K mg base (CXR P w) 1 f fd ["market", "start", "whole", "far", "done"] (zdv C):=by
 have S:FnScope ["market", "start", "whole", "far", "done", "visit"] ["market", "start", "whole", "far", "done"] (zh zdy):=#[10]
 refine F.okR S (fun vs H Q E h=>?_) (fun cdv A outer s H vs Q E hr h=>?_)
 . obtain⟨_,_,_,_,_,_,_,_,rfl,_⟩:=h;rfl
 have hu:=z9 hr;refine⟨_,zM (zdj (jF (pv 0) rfl) (pv 1) zcH (pv 2) zcX ZO) (jk (zdi (Zd WaH rfl (zek (pv 4)) (jp (i:=5) S.nd rfl (.inl rfl))
  (zM (zdj (jF (pv 0) rfl) (j5 hu (jF (pv 0) rfl) (pv 5) #[4]) zcH (Jw ZH (pv 2) (j5 hu (pv 3) (pv 5) #[4])) zcX ZO)
   (jk (zdj (jF (pv 0) rfl) (pv 5) zcH (Jw ZH (pv 2) (j5 hu (pv 3) (pv 5) #[4])) zil ZO)))))),?_⟩
 obtain⟨m,s,w,fa,d,M,far,ks,rfl,hM,hs0,hf,hd,hk,nTV,ndf,ndH,q⟩:=h;have nTd:M.aT≠d:=fun z=>by have:=hM.lt;rw [z,hd] at this;cases this
 have nVd:M.aV≠d:=fun z=>by have:=hM.lv;rw [z,hd] at this;cases this
 refine⟨.ref m,rfl,m,C,M.dx,mfs M,.ref M.aT,rfl,hM.ins,cl,n2,rfl,.int s,rfl,M.aT,_,s,_,rfl,rfl,hs0.1,SqL.of hM.lt,zcv hs0,.int w,rfl,_,_,rfl,rfl,M.aT,_,s,s.toNat,rfl,rfl,hM.lt,Jz hs0.1 (by rw [YaR];exact hs0.2),d,_,(zc nTd.symm).trans hd,fun o=>?_⟩
 have hb:bar H [M.aT,M.aV,d] M.aT=none:=jK (by simp)
 have hb2:bar H [M.aT,M.aV,d] M.aV=none:=jK (by simp)
 have hb3:bar H [M.aT,M.aV,d] d=none:=jK (by simp)
 refine⟨.ref d,rfl,d,o,_,rfl,zf,fun i n σ' H'=>i<=ks.length/\n=ks.length - i/\(∃ t5,σ'=[some (.ref m),some (.int s),some (.int w),some (.ref fa),some (.ref d),t5])/\zi (bar H [M.aT,M.aV,d]) H'/\H' d=some (.frz o (.dK (encK ks)))/\H' M.aT=some (.lst (((ks.take i).foldl (pay1 far M.hd w) (M.tp.set s.toNat (M.tp.getD s.toNat 0+w),M.vp)).1.map .int))/\H' M.aV=some (.lst (((ks.take i).foldl (pay1 far M.hd w) (M.tp.set s.toNat (M.tp.getD s.toNat 0+w),M.vp)).2.map .int)),
  ⟨_,Wbl _,rfl,⟨none,rfl⟩,((Zx _ _).x.chg hb hM.lt #[95]).chg hb3 ((zc nTd.symm).trans hd) #[95],zf,?_,?_⟩,?_⟩
 . rw [zc nTd,zf,List.take_zero,List.foldl_nil,Wbj]
 . rw [zc nVd,zc nTV.symm];exact hM.lv
 rintro i n σ' H' ⟨hi,rfl,⟨t5,rfl⟩,hs,h0,h1,h2⟩
 have kp:∀ b ob,H b=some ob->b≠M.aT->b≠M.aV->b≠d->(∀ x,ob≠.ext x)->H' b=some ob:=fun b ob e e1 e2 e3 n2=>hs.at ((zX fun z=>by
  rcases Wa4.mp z with z|z
  . exact e1 z
  . rcases Wa4.mp z with z|z
    . exact e2 z
    . exact e3 (Ya6.mp z)).trans e) n2
 by_cases hlt:i<ks.length
 . have hx:(encK ks)[i]?=some (Sum.inl ks[i],.bl true):=by unfold encK;rw [Ya0,YaQ hlt];rfl
   refine .inr ⟨⟨⟨_,hx⟩,h0⟩,fun σ' H'=>(∃ t5,σ'=[some (.ref m),some (.int s),some (.int w),some (.ref fa),some (.ref d),t5])/\zi (bar H [M.aT,M.aV,d]) H'/\H' d=some (.frz o (.dK (encK ks)))/\H' M.aT=some (.lst (((ks.take (i+1)).foldl (pay1 far M.hd w) (M.tp.set s.toNat (M.tp.getD s.toNat 0+w),M.vp)).1.map .int))/\H' M.aV=some (.lst (((ks.take (i+1)).foldl (pay1 far M.hd w) (M.tp.set s.toNat (M.tp.getD s.toNat 0+w),M.vp)).2.map .int)),fun σ2 H2 z=>⟨ks.length - (i+1),#[0],hlt,rfl,z⟩,?_⟩
   rintro x H3 ⟨e3,k,v,hk',rfl⟩
   have e3:=e3.symm;subst e3;rw [hx] at hk';cases hk';have hpm:ks[i]∈ks:=Ya4 hlt;have htk:ks.take (i+1)=ks.take i++[ks[i]]:=by rw [WaI,YaQ hlt];rfl
   rw [htk,WaB];have hlen:=zcq far M.hd w (ks.take i) (M.tp.set s.toNat (M.tp.getD s.toNat 0+w),M.vp);generalize (ks.take i).foldl (pay1 far M.hd w) (M.tp.set s.toNat (M.tp.getD s.toNat 0+w),M.vp)=fc at h1 h2 hlen;obtain⟨T1,V1⟩:=fc;rw [YaN] at hlen;generalize ks[i]=k at hpm;obtain⟨hkV,r,y,hr1,hr2,hrT⟩:=hk _ hpm;have hrT:InR r T1.length:=by rw [show T1.length=_ from hlen.1];exact hrT
   have hkV:InR k V1.length:=by rw [show V1.length=_ from hlen.2];exact hkV
   have nm:∀ {b:Addr} {ob:HO},H b=some ob->(∀ l,ob≠.lst l)->b≠M.aT/\b≠M.aV:=fun {b ob} e n=>⟨fun z=>by rw [z,hM.lt] at e;exact n _ (WaV e).symm,fun z=>by rw [z,hM.lv] at e;exact n _ (WaV e).symm⟩
   have ins3:H' m=_:=kp _ _ hM.ins (nm hM.ins #[95]).1 (nm hM.ins #[95]).2 (fun z=>by have:=hM.ins;rw [z,hd] at this;cases this) (by intro x z;cases z)
   have f3:=kp _ _ hf (nm hf #[95]).1 (nm hf #[95]).2 ndf.symm (by intro x z;cases z)
   have hh3:=kp _ _ hM.dh (nm hM.dh #[95]).1 (nm hM.dh #[95]).2 ndH.symm (by intro x z;cases z)
   have nmT:=(nm hM.ins #[95]).1
   have nfT:=(nm hf #[95]).1
   have g1:∀ {G:Hp},G fa=some (.dK (encM far))->DGet G fa (.int k) (some (.int y)):=fun e=>by have:=DGet.k (k:=Sum.inl k) e;rwa [jt,hr2] at this
   have g2:∀ {G:Hp},G M.aH=some (.dK (encM M.hd))->DGet G M.aH (.int k) (some (.int r)):=fun e=>by have:=DGet.k (k:=Sum.inl k) e;rwa [jt,hr1] at this
   refine⟨.ref m,rfl,m,C,M.dx,mfs M,.ref M.aT,rfl,ins3,cl,n2,rfl,.ref m,rfl,m,C,M.dx,mfs M,.ref M.aH,rfl,ins3,cl,n4,rfl,.int k,rfl,M.aH,_,rfl,g2 hh3,M.aT,_,r,_,rfl,rfl,hrT.1,SqL.of h1,zcv hrT,.int w,rfl,.ref fa,rfl,.int k,rfl,fa,_,rfl,g1 f3,_,_,rfl,rfl,_,_,rfl,rfl,M.aT,_,r,r.toNat,rfl,rfl,h1,Jz hrT.1 (by rw [YaR];exact hrT.2),?_⟩
   refine⟨.ref m,rfl,m,C,M.dx,mfs M,.ref M.aV,rfl,(zc nmT).trans ins3,cl,n3,rfl,.int k,rfl,M.aV,_,k,_,rfl,rfl,hkV.1,SqL.of ((zc nTV.symm).trans h2),zcv hkV,.int w,rfl,.ref fa,rfl,.int k,rfl,fa,_,rfl,g1 ((zc nfT).trans f3),_,_,rfl,rfl,_,_,rfl,rfl,M.aV,_,k,k.toNat,rfl,rfl,(zc nTV.symm).trans h2,Jz hkV.1 (by rw [YaR];exact hkV.2),?_⟩
   refine⟨⟨_,rfl⟩,(hs.chg hb h1 #[95]).chg hb2 ((zc nTV.symm).trans h2) #[95],?_,?_,?_⟩
   . rw [zc nVd.symm,zc nTd.symm];exact h0
   . rw [zc nTV,zf,List.foldl_cons,List.foldl_nil]
     unfold pay1;rw [hr1,hr2,Wbj];rfl
   . rw [zf,List.foldl_cons,List.foldl_nil]
     unfold pay1;rw [hr2,Wbj];rfl
 . have e:i=ks.length:=#[0]
   subst e;rw [YaH] at h1 h2;exact .inl ⟨⟨by unfold encK;rw [YaR],h0⟩,q H' hs h1 h2⟩
end
section
variable{P:Program}{w:World}{K:Ybf}{mg:#[15]}{base:Heap}{C:Addr}
def zgt(X:Cx)(t:TE):TE:=fun σ H Q=>t σ H fun v H1=>∃ l o kvs,H1 l=some (.frz o (.dK kvs))/\(∀ o u,X.H₀ l≠some (.frz o u))/\Q v (upd H1 l (.dK kvs))
theorem zj9{X:Cx}{e:Expr}{t:TE}(h:PE X e t):PE X e (zgt X t):=fun pins s σ H Q I hyp=>
 wpAny_mono (h pins s σ H _ I hyp) (fun v s1 ⟨x,H1,I1,r1,l,o,kvs,hl,h0,q⟩=>⟨x,_,I1.thawK hl h0,r1,q⟩) fun _ _ z=>z
theorem zgW{ks:List Int}{k:Int}:(valV (encK ks) (Sum.inl k)).isSome=decide (k∈ks):=by
 unfold valV encK
 induction ks with
 | nil=>rfl
 | cons p r ih=>
  rw [Ya1,List.find?_cons,zcQ]
  by_cases e:p=k
  . rw [decide_eq_true e,e,decide_eq_true (YaV)];rfl
  . rw [decide_eq_false e,show decide (k∈p::r)=decide (k∈r) by simp [Wbo e]];exact ih
theorem zaj{t:Tb}{k:Int}(h:k∈t.map (·.1)):∃ y,getM t k=some y:=by
 unfold getM;cases e:t.find? (fun p=>decide (p.1=k)) with
 | some p=>exact⟨p.2,rfl⟩
 | none=>
  obtain⟨p,hp,rfl⟩:=Ya7.mp h;have:=Wau.mp e p hp
  simp at this
def sel(ks:List Int)(t:Tb):List Int:=(t.map (·.1)).filter fun k=>!decide (k∈ks)
theorem zba{ks:List Int}{t:Tb}{k:Int}:k∈sel ks t↔k∈t.map (·.1)/\k∉ks:=by unfold sel;rw [Ya9];simp
def zdp(tb:Addr):Sp:=fun vs H Q E=>∃ f d far ks,vs=[.ref f,.ref d]/\TabU tb H/\H f=some (.dK (encM far))/\H d=some (.dK (encK ks))/\f≠d/\far.length<sizeLine/\(∃ v y,getM far v=some y/\v∉ks)/\
 ∀ v y H',getM far v=some y->v∉ks->(∀ u z,getM far u=some z->u∉ks->y<=z)->zi H H'->Q (.int v) H'
theorem zhX(hpos:lamP=LamW.pos)(hqn:lamQ=LamW.q){c0 tb:Addr}(hC:PySem.W.CodeHd base c0 tb)(hB:BMod mg base)(hm:mg "min" = none){f:Addr}{fd:FuncData}(F:Fun K "nearest" "nearest" jT f fd)(hcd:fd.code=.ref c0):FnOk P w K mg base (CXR P w) 4 f fd ["far", "done"] (zdp tb):=by
 have S:FnScope ["far", "done"] ["far", "done"] (zh jT):=#[10]
 obtain⟨oc,od,kV,doc,pm,an,cdv,ct,osl,rfl,lk,hcd'⟩:=F.ex;have hcd:cdv=.ref c0:=hcd;subst hcd;refine zbm lk hcd' S (fun vs H Q E h=>?_) (fun A outer s H vs Q E hr h=>?_)
 . obtain⟨_,_,_,_,rfl,_⟩:=h;rfl
 have hu:=z9 hr;refine⟨_,jk (zdi (JO (zj9 (zkw (it:=0) (k:=1) hpos hqn ⟨.of #[3] rfl rfl rfl rfl rfl trivial,#[1],rfl,rfl,rfl,hC,rfl,hB,rfl,rfl,fun _ _ _ _=>rfl⟩ #[7]
  (Z0 ["visit"] ["done"] [1] rfl (zY (osc:=zh jT) #[3]) rfl (zek (pv 0)) (fun s H fp cl=>⟨jp (i:=0) (show((["visit"]:List PySem.Str)++(["done"]:List PySem.Str)).Nodup by decide) rfl (.inl rfl),zdo (Zw (zbK hu (pv 0) (pv 1))),pv 0⟩))
  (fun f cd' s H' hr=>j5 (z9 hr) (pv 1) (pv 0) #[4]) rfl hm)))),?_⟩
 obtain⟨fa,d,far,ks,rfl,tu,hf,hd,hne,hlen,⟨v0,y0,hv0,hv0k⟩,q⟩:=h;refine⟨fa,_,hf,fun o=>⟨.ref fa,rfl,fa,o,_,rfl,zf,fun D hD=>?_⟩⟩
 have nDf:D≠fa:=#[96,zf,hD]
 have hD:H D=none:=by rwa [zc nDf] at hD
 have ndD:d≠D:=#[96,hD,hd]
 refine⟨fun i m ys σ1 H2=>i<=far.length/\m=far.length - i/\(∃ t0,σ1=[t0,some (.ref d)])/\ys=(sel ks (far.take i)).map .int/\H2 D=some (.lst ys)/\H2 fa=some (.frz o (.dK (encM far)))/\∀ b,b≠D->b≠fa->H2 b=H b,
  ⟨_,Wbl _,rfl,⟨none,rfl⟩,rfl,zf,(zc nDf.symm).trans zf,fun b b1 b2=>by rw [zc b1,zc b2]⟩,?_⟩
 rintro i m ys σ1 H2 ⟨hi,rfl,⟨t0,rfl⟩,rfl,h1,h2,h3⟩
 by_cases hlt:i<far.length
 . have hx:(L3.encM far)[i]?=some (Sum.inl far[i].1,.int far[i].2):=by unfold L3.encM;rw [Ya0,YaQ hlt];rfl
   refine .inr ⟨⟨⟨_,hx⟩,h2⟩,?_⟩
   rintro x H3 ⟨e3,k,v,hk',rfl⟩
   have e3:=e3.symm;subst e3;rw [hx] at hk';cases hk';have htk:far.take (i+1)=far.take i++[far[i]]:=by rw [WaI,YaQ hlt];rfl
   have hd2:=(h3 d ndD hne.symm).trans hd;have hse:sel ks (far.take (i+1))=sel ks (far.take i)++if far[i].1∈ks then [] else [far[i].1]:=by
    unfold sel;rw [htk,Ya2,List.filter_append]
    by_cases e:far[i].1∈ks
    . rw [if_pos e];simp [e]
    . rw [if_neg e];simp [e]
   generalize far[i].1=k at hse;refine⟨.int k,rfl,.ref d,rfl,d,_,rfl,DGet.k (k:=Sum.inl k) hd2,_,rfl,?_⟩;rw [zgW]
   by_cases hk:k∈ks
   . rw [decide_eq_true hk]
     show if(!true)=true then _ else _
     rw [if_neg #[1]]
     rw [if_pos hk,Yao] at hse;exact⟨far.length - (i+1),#[0],hlt,rfl,⟨_,rfl⟩,by rw [hse],h1,h2,h3⟩
   . rw [decide_eq_false hk]
     show if(!false)=true then _ else _
     rw [if_pos #[1]]
     rw [if_neg hk] at hse;refine⟨.int k,rfl,h1,?_,far.length - (i+1),#[0],hlt,rfl,⟨_,rfl⟩,by rw [hse,Ya2];rfl,zf,(zc nDf.symm).trans h2,fun b b1 b2=>by rw [zc b1];exact h3 b b1 b2⟩
     unfold sel;rw [YaR];refine Was (List.length_filter_le _ _) ?_;rw [YaR,WaN]
     omega
 . have e:i=far.length:=#[0]
   subst e;rw [YaH] at h1;have unc:∀ b ob,H b=some ob->b≠fa->H2 b=some ob:=fun b ob e n=>(h3 b #[96,hD,e] n).trans e
   have next:∀ b x,H b=some (.ext x)->b≠fa:=fun b x e z=>by rw [z,hf] at e;cases e
   refine .inl ⟨⟨by unfold L3.encM;rw [YaR],h2⟩,?_,D,sel ks far,.ref fa,fun n=>(getM far n).getD 0,rfl,h1,?_,rfl,fun n hn H3 sm=>?_,fun n H3 hn hmin sm=>?_⟩
   . rcases tu with tu|⟨c',a1,a2⟩
     . exact .inl (unc _ _ tu (next _ _ tu))
     . exact .inr ⟨c',unc _ _ a1 (next _ _ a1),unc _ _ a2 (next _ _ a2)⟩
   . exact List.length_pos_of_mem (zba.mpr ⟨zbs (by rw [hv0];rfl),hv0k⟩)
   . obtain⟨y,hy⟩:=zaj (zba.mp hn).1
     refine⟨.ref fa,rfl,.int n,rfl,fa,.int y,rfl,.inl ⟨L3.encM far,Sum.inl n,.inr ⟨o,sm.at h2⟩,rfl,by rw [jt,hy];rfl⟩,by show V.int y=V.int ((getM far n).getD 0);rw [hy];rfl,zi.refl _⟩
   . obtain⟨y,hy⟩:=zaj (zba.mp hn).1
     have hfa:=sm.at h2;refine⟨fa,o,_,hfa,fun o u z=>(by have z:H fa=_:=z;rw [hf] at z;cases z),q n y _ hy (zba.mp hn).2 (fun u z hz hu=>?_) fun b ob e=>?_⟩
     . have:(getM far n).getD 0<=(getM far u).getD 0:=hmin u (zba.mpr ⟨zbs (by rw [hz];rfl),hu⟩)
       rwa [hy,hz] at this
     . by_cases hb:b=fa
       . subst hb
         rw [hf] at e;cases e;exact .inl zf
       . rw [zc hb]
         rcases sm b ob (unc b ob e hb) with z|⟨z1,z2,c',z3,z4⟩
         . exact .inl z
         . refine .inr ⟨z1,z2,c',by rw [zc hb];exact z3,?_⟩
           rw [zc #[96,hfa,z4]]
           exact z4
end
theorem WayP.way{P:Int->Prop}{Ed:Int->Int->Prop}{ca t:Tb}{r:Int->Nat}{start:Int}{A B:Nat}(w:WayP P Ed ca t r start A B):∃ ca',(∀ c s,getM ca' c=some s↔P c/\getM ca c=some s)/\Way Ed ca' t r start A B:=by
 have dc:∀ c,Decidable (P c):=fun _=>Classical.propDecidable _
 have key:∀ c s,getM (ca.filter fun p=>decide (P p.1)) c=some s↔P c/\getM ca c=some s:=fun c s=>by
  unfold getM;rw [List.find?_filter]
  by_cases hc:P c
  . rw [show(fun a:Int×Int=>decide (decide (P a.1)=true/\decide (a.1=c)=true))=fun a=>decide (a.1=c) from funext fun a=>by
     by_cases e:a.1=c
     . rw [e];simp [hc]
     . simp [e]]
    exact⟨fun z=>⟨hc,z⟩,fun z=>z.2⟩
  . rw [show(fun a:Int×Int=>decide (decide (P a.1)=true/\decide (a.1=c)=true))=fun _=>false from funext fun a=>by
     by_cases e:a.1=c
     . rw [e];simp [hc]
     . simp [e]]
    refine⟨fun z=>?_,fun z=>absurd z.1 hc⟩
    rw [Wau.mpr (by simp)] at z
    cases z
 refine⟨_,key,fun c s e=>?_,fun c s e=>?_,fun c s c' e e'=>?_,fun c s e e'=>?_⟩
 . obtain⟨h1,h2⟩:=(key c s).mp e;exact w.inn c s h1 h2
 . obtain⟨h1,h2⟩:=(key c s).mp e;exact w.ed c s h1 h2
 . obtain⟨h1,h2⟩:=(key c s).mp e
   obtain⟨h3,s',h4,h5⟩:=w.back c s c' h1 h2 e';exact⟨s',(key c' s').mpr ⟨h3,h4⟩,h5⟩
 . obtain⟨h1,h2⟩:=(key c s).mp e;exact w.first c s h1 h2 e'
section
variable{P:Program}{w:World}{K:Ybf}{mg:#[15]}{base:Heap}{C:Addr}
def spMove:Sp:=fun vs H Q E=>∃ (x:Int) (a1 a2 a3:Addr) (ca ca' t h:Tb) (Ed:Int->Int->Prop) (r:Int->Nat) (start:Int) (A B m:Nat),vs=[.int x,.ref a1,.ref a2,.ref a3]/\(∀ c s,getM ca' c=some s->getM ca c=some s)/\Way Ed ca' t r start A B/\OnWay Ed ca' t h t h r x A B m/\A<=2000/\B<=2000/\
 H a1=some (.dK (encM ca))/\H a2=some (.dK (encM t))/\H a3=some (.dK (encM h))/\a1≠a2/\a1≠a3/\a2≠a3/\
 ∀ t' h' H',Moved Ed t h t' h' start A B->zi (bar H [a2,a3]) H'->H' a2=some (.dK (encM t'))->H' a3=some (.dK (encM h'))->Q .non H'
theorem zj7{f:Addr}{fd:FuncData}(F:Fun K "move_along" "move_along" zbA f fd):FnOk P w K mg base (CXR P w) 1 f fd ["choice", "came", "taken", "holders"] spMove:=by
 have S:FnScope ["choice", "came", "taken", "holders", "taker", "former"] ["choice", "came", "taken", "holders"] (zh zbA):=#[10]
 refine F.okR S (fun vs H Q E h=>?_) (fun cdv A outer s H vs Q E hr h=>?_)
 . obtain⟨_,_,_,_,_,_,_,_,_,_,_,_,_,_,rfl,_⟩:=h;rfl
 have hu:=z9 hr;refine⟨_,jk (zcz WaH (Zw (zkL (pv 0))) (zM (jh (i:=4) S.nd rfl (.inl rfl) (j5 hu (pv 1) (pv 0) #[4]))
  (zM (jh (i:=5) S.nd rfl (.inl rfl) (zfM hu (pv 2) (pv 4) ⟨rfl,rfl,rfl,rfl⟩)) (zM (JC hu (pv 2) (pv 4) (pv 0) rfl) (zM (JC hu (pv 3) (pv 0) (pv 4) rfl)
   (jk (jh (i:=0) S.nd rfl (.inl rfl) (pv 5)))))))),?_⟩
 obtain⟨x,a1,a2,a3,ca,ca',t,h,Ed,r,start,A',B',m,rfl,hsub,hw,ho,hA,hB,h1,h2,h3,n12,n13,n23,q⟩:=h;have b2:bar H [a2,a3] a2=none:=jK (by simp)
 have b3:bar H [a2,a3] a3=none:=jK (by simp)
 refine⟨fun k σ' H'=>((∃ (x:Int) (t' h':Tb) (t4 t5:Option V) (j:Nat),σ'=[some (.int x),some (.ref a1),some (.ref a2),some (.ref a3),t4,t5]/\OnWay Ed ca' t h t' h' r x A' B' j/\k=j+1/\H' a2=some (.dK (encM t'))/\H' a3=some (.dK (encM h')))\/∃ (t' h':Tb) (t4 t5:Option V),σ'=[some .non,some (.ref a1),some (.ref a2),some (.ref a3),t4,t5]/\Moved Ed t h t' h' start A' B'/\H' a2=some (.dK (encM t'))/\H' a3=some (.dK (encM h')))/\zi (bar H [a2,a3]) H',
  ⟨m+1,.inl ⟨x,t,h,none,none,m,rfl,ho,rfl,h2,h3⟩,(Zx _ _).x⟩,?_⟩
 rintro k σ' H' ⟨⟨x,t',h',t4,t5,j,rfl,ho,rfl,g2,g3⟩|⟨t',h',t4,t5,rfl,hm,g2,g3⟩,hs⟩
 . obtain⟨s,hs',_⟩:=ho.came
   obtain⟨st1,st2⟩:=ho.step hw hs';have l1:=ho.ot.len;have l2:=ho.oh.len;have g1:H' a1=some (.dK (encM ca)):=hs.at ((zX (by simp [n12,n13])).trans h1)
   refine⟨.int x,rfl,_,rfl,?_⟩
   show if(!decide (V.int x=V.non))=true then _ else _
   rw [if_pos (by rw [decide_eq_false (by intro z;cases z)];rfl)]
   refine⟨_,fun σ' H' z=>z,?_⟩
   refine⟨.ref a1,rfl,.int x,rfl,a1,.int s,rfl,by have:=DGet.k (k:=Sum.inl x) g1;rwa [jt,hsub _ _ hs'] at this,?_⟩
   refine⟨.ref a2,rfl,a2,rfl,.inl ⟨_,.inl g2⟩,.int s,rfl,_,DGet.k (k:=Sum.inl s) g2,?_⟩
   refine⟨.int x,rfl,.ref a2,rfl,.int s,rfl,a2,_,rfl,DPut.k (k:=Sum.inl s) g2 (by rw [Zy];exact YaU (show _<1000000 by omega) #[1]),?_⟩
   refine⟨.int s,rfl,.ref a3,rfl,.int x,rfl,a3,_,rfl,DPut.k (k:=Sum.inl x) ((zc n23.symm).trans g3) (by rw [Zy];exact YaU (show _<1000000 by omega) #[1]),?_⟩
   rw [Ze,Ze,jt];have hs2:zi (bar H [a2,a3]) (upd (upd H' a2 (.dK (L3.encM (putM t' s x)))) a3 (.dK (L3.encM (putM h' x s)))):=(hs.chg b2 g2 #[95]).chg b3 ((zc n23.symm).trans g3) #[95]
   have e2:upd (upd H' a2 (.dK (L3.encM (putM t' s x)))) a3 (.dK (L3.encM (putM h' x s))) a2=some (.dK (L3.encM (putM t' s x))):=(zc n23).trans zf;cases e:getM t' s with
   | none=>exact⟨.non,rfl,0,#[0],.inr ⟨_,_,_,_,rfl,st1 e,e2,zf⟩,hs2⟩
   | some c'=>
    obtain⟨m',hm',o'⟩:=st2 c' e;exact⟨.int c',rfl,m'+1,#[0],.inl ⟨c',_,_,_,_,m',rfl,o',rfl,e2,zf⟩,hs2⟩
 . refine⟨.non,rfl,_,rfl,?_⟩
   show if(!decide (V.non=V.non))=true then _ else _
   rw [if_neg (by rw [decide_eq_true rfl];decide)]
   exact q t' h' H' hm hs g2 g3
end
def at0(l:List Int)(x:Int):Int:=if 0<=x then l.getD x.toNat 0 else 0
theorem Js{l:List Int}{i x a:Int}(h:InR i l.length):at0 (l.set i.toNat a) x=if x=i then a else at0 l x:=by
 obtain⟨h0,h1⟩:=h;unfold at0
 by_cases hx:0<=x
 . rw [if_pos hx,if_pos hx,YaP,YaP,List.getElem?_set]
   by_cases e:x=i
   . rw [if_pos e,if_pos #[0],if_pos #[0]];rfl
   . rw [if_neg e,if_neg #[0]]
 . rw [if_neg hx,if_neg #[0],if_neg hx]
theorem zfC{L:Int->Int->Int}{t:Int}{fc:Tb×Tb}{p:Int×Int}{v:Int}(h:v≠p.1):getM (zC L t fc p).1 v=getM fc.1 v/\getM (zC L t fc p).2 v=getM fc.2 v:=by
 have e:∀ (d:Tb) (y:Int),getM (putM d p.1 y) v=getM d v:=fun d y=>by rw [zV,if_neg (Wbo h)]
 unfold zC
 split
 . exact⟨e _ _,e _ _⟩
 . split
   . exact⟨e _ _,e _ _⟩
   . exact⟨rfl,rfl⟩
theorem zfI(L:Int->Int->Int)(t:Int):∀ (its:Tb) (fc:Tb×Tb),(its.map (·.1)).Nodup->∀ v,
 (v∉its.map (·.1)->getM (its.foldl (zC L t) fc).1 v=getM fc.1 v/\getM (its.foldl (zC L t) fc).2 v=getM fc.2 v)/\
 ∀ x,(v,x)∈its->(∃ y,getM fc.1 v=some y/\y<=L v x/\getM (its.foldl (zC L t) fc).1 v=some y/\getM (its.foldl (zC L t) fc).2 v=getM fc.2 v)\/
  ((∀ y,getM fc.1 v=some y->L v x<y)/\getM (its.foldl (zC L t) fc).1 v=some (L v x)/\getM (its.foldl (zC L t) fc).2 v=some t)
 | [],fc,_,v=>⟨fun _=>⟨rfl,rfl⟩,fun x h=>by cases h⟩
 | p :: r, fc, nd, v => by
  rw [Ya1,YaB] at nd;obtain⟨n1,n2⟩:=nd;have ih:=zfI L t r (zC L t fc p) n2 v;rw [List.foldl_cons];refine⟨fun hv=>?_,fun x hx=>?_⟩
  . rw [Ya1,Wa4,not_or] at hv
    obtain⟨i1,i2⟩:=ih.1 hv.2;obtain⟨l1,l2⟩:=zfC (L:=L) (t:=t) (fc:=fc) hv.1;exact⟨i1.trans l1,i2.trans l2⟩
  . by_cases hv:v=p.1
    . have hvr:v∉r.map (·.1):=hv ▸ n1
      obtain⟨i1,i2⟩:=ih.1 hvr;have hxp:x=p.2:=by
       rcases Wa4.mp hx with e|e
       . exact congrArg Prod.snd e
       . exact absurd (Ya7.mpr ⟨_,e,rfl⟩) hvr
      rw [i1,i2];have hv:=hv.symm;obtain⟨k,z⟩:=p;have hv:k=v:=hv;have hxp:x=z:=hxp;subst hv hxp;unfold zC;dsimp only;cases e:getM fc.1 k with
      | none=>exact .inr ⟨fun y hy=>(by cases hy),by rw [zV,if_pos rfl],by rw [zV,if_pos rfl]⟩
      | some y=>
       by_cases hy:L k x<y
       . dsimp only
         rw [if_pos hy];exact .inr ⟨fun y' e'=>by rw [<-WaV e'];exact hy,by rw [zV,if_pos rfl],by rw [zV,if_pos rfl]⟩
       . dsimp only
         rw [if_neg hy];exact .inl ⟨y,rfl,#[0],e,rfl⟩
    . obtain⟨l1,l2⟩:=zfC (L:=L) (t:=t) (fc:=fc) (p:=p) hv
      have:=ih.2 x (by
       rcases Wa4.mp hx with e|e
       . exact absurd (congrArg Prod.fst e) hv
       . exact e)
      rw [l1,l2] at this;exact this
def ChM(M:MkD)(x v:Int):Prop:=InR x M.cs.length/\(getM (M.cs.getD x.toNat []) v).isSome=true
def cM(M:MkD)(x v:Int):Int:=(getM (M.cs.getD x.toNat []) v).getD 0
theorem looked{M:MkD}{t g:Int}{far came:Tb}(ht:InR t M.cs.length)(nd:((M.cs.getD t.toNat []).map (·.1)).Nodup)(h0:∀ v,ChM M t v->0<=v):Looked (ChM M) (cM M) (at0 M.tp) (at0 M.vp) t g far came ((M.cs.getD t.toNat []).foldl (zC (zH M t g) t) (far,came)).1 ((M.cs.getD t.toNat []).foldl (zC (zH M t g) t) (far,came)).2:=fun v=>by
 have h:=zfI (zH M t g) t (M.cs.getD t.toNat []) (far,came) nd v;refine⟨fun hn=>h.1 fun hm=>hn ⟨ht,?_⟩,fun hc=>?_⟩
 . obtain⟨y,e⟩:=zaj hm;rw [e];rfl
 . obtain⟨x,e⟩:=Wah.mp hc.2
   have hv:=h0 v hc;have:=h.2 x (JJ e);have el:zH M t g v x=g+cM M t v - at0 M.tp t - at0 M.vp v:=by unfold zH cM at0;rw [e,if_pos ht.1,if_pos hv];rfl
   rw [el] at this;exact this
theorem zge(far hd:Tb)(w:Int):∀ (ks:List Int) (T V:List Int),ks.Nodup->(∀ k∈ks,InR k V.length/\∃ r y,getM hd k=some r/\getM far k=some y/\InR r T.length)->(∀ k∈ks,∀ l∈ks,getM hd k=getM hd l->k=l)->
 (∀ u∈ks,∀ r y,getM hd u=some r->getM far u=some y->at0 (ks.foldl (pay1 far hd w) (T,V)).1 r=at0 T r+(w - y)/\at0 (ks.foldl (pay1 far hd w) (T,V)).2 u=at0 V u - (w - y))/\
 (∀ x,(∀ u∈ks,getM hd u≠some x)->at0 (ks.foldl (pay1 far hd w) (T,V)).1 x=at0 T x)/\∀ v,v∉ks->at0 (ks.foldl (pay1 far hd w) (T,V)).2 v=at0 V v
 | [],T,V,_,_,_=>⟨fun u hu=>(by cases hu),fun _ _=>rfl,fun _ _=>rfl⟩
 | k :: ks, T, V, nd, hk, inj => by
  rw [YaB] at nd;obtain⟨hkV,r,y,e1,e2,hrT⟩:=hk k YaV;have ep:pay1 far hd w (T,V) k=(T.set r.toNat (at0 T r+(w - y)),V.set k.toNat (at0 V k - (w - y))):=by
   unfold pay1 at0;rw [e1,e2,if_pos hrT.1,if_pos hkV.1];rfl
  rw [List.foldl_cons,ep];obtain⟨i1,i2,i3⟩:=zge far hd w ks (T.set r.toNat (at0 T r+(w - y))) (V.set k.toNat (at0 V k - (w - y))) nd.2 (fun l hl=>by rw [YaN,YaN];exact hk l (YaT _ hl)) (fun a ha b hb=>inj a (YaT _ ha) b (YaT _ hb))
  have oth:∀ u∈ks,getM hd u≠some r:=fun u hu z=>by
   have:=inj u (YaT _ hu) k YaV (z.trans e1.symm);exact nd.1 (this ▸ hu)
  refine⟨fun u hu r' y' a1 a2=>?_,fun x hx=>?_,fun v hv=>?_⟩
  . rcases Wa4.mp hu with z|z
    . subst z
      rw [e1] at a1;rw [e2] at a2;cases a1;cases a2;rw [i2 r oth,i3 u nd.1,Js hrT,Js hkV,if_pos rfl,if_pos rfl];exact⟨rfl,rfl⟩
    . obtain⟨j1,j2⟩:=i1 u z r' y' a1 a2
      rw [j1,j2,Js hrT,Js hkV,if_neg (fun q=>oth u z (by rw [<-q];exact a1)),if_neg (fun q:u=k=>nd.1 (q ▸ z))]
      exact⟨rfl,rfl⟩
  . rw [i2 x fun u hu=>hx u (YaT _ hu),Js hrT,if_neg fun q=>hx k YaV (by rw [q];exact e1)]
  . rw [Wa4,not_or] at hv
    rw [i3 v hv.2,Js hkV,if_neg hv.1]
theorem paid{far hd:Tb}{w s:Int}{ks T V:List Int}(nd:ks.Nodup)(hs:InR s T.length)(hk:∀ k∈ks,InR k V.length/\∃ r y,getM hd k=some r/\getM far k=some y/\InR r T.length)(inj:∀ k∈ks,∀ l∈ks,getM hd k=getM hd l->k=l)(hn:∀ k∈ks,getM hd k≠some s) :
 Paid hd far s ks w (at0 T) (at0 V) (at0 (ks.foldl (pay1 far hd w) (T.set s.toNat (T.getD s.toNat 0+w),V)).1) (at0 (ks.foldl (pay1 far hd w) (T.set s.toNat (T.getD s.toNat 0+w),V)).2):=by
 obtain⟨i1,i2,i3⟩:=zge far hd w ks (T.set s.toNat (T.getD s.toNat 0+w)) V nd (fun l hl=>by rw [YaN];exact hk l hl) inj
 refine⟨?_,fun u hu r y a1 a2=>?_,fun x hx hu=>?_,i3⟩
 . rw [i2 s hn,Js hs,if_pos rfl]
   unfold at0;rw [if_pos hs.1]
 . obtain⟨j1,j2⟩:=i1 u hu r y a1 a2
   rw [j1,j2,Js hs,if_neg fun q=>hn u hu (by rw [<-q];exact a1)]
   exact⟨rfl,rfl⟩
 . rw [i2 x hu,Js hs,if_neg hx]
theorem zi.via{H H1 H2:Hp}{as:List Addr}(s1:zi H H1)(n0:∀ a∈as,H a=none)(n1:∀ a∈as,∃ o,H1 a=some o/\∀ f,o≠.ext f)(s2:zi (bar H1 as) H2):zi H H2:=by
 refine zi.trans (fun b o e=>?_) s2
 have hb:b∉as:=fun z=>by rw [n0 b z] at e;cases e
 rw [zX hb]
 rcases s1 b o e with z|⟨z1,z2,c',z3,z4⟩
 . exact .inl z
 . refine .inr ⟨z1,z2,c',by rw [zX hb];exact z3,?_⟩
   rw [zX fun z=>by obtain⟨o',e',n⟩:=n1 c' z;rw [z4] at e';exact n _ (WaV e').symm]
   exact z4
theorem zku{ks:List Int}{k:Int}(h:k∉ks):putK (encK ks) (Sum.inl k) (.bl true)=encK (ks++[k]):=by
 have:((encK ks).any fun kv=>decide (kv.1=Sum.inl k))=false:=by
  rw [List.any_eq_false];intro kv hkv;obtain⟨l,hl,rfl⟩:=Ya7.mp hkv;intro z;have z:=of_decide_eq_true z;exact h (by cases z;exact hl)
 unfold putK;rw [this,if_neg #[1]]
 unfold encK;rw [Ya2];rfl
theorem zkY{ks:List Int}:(encK ks).length=ks.length:=by unfold encK;rw [YaR]
section
variable{Ch:Int->Int->Prop}{c:Int->Int->Int}{p0:Int->Int}{A B s:Nat}{tp vp:Int->Int}{t h far came:Tb}{start:Int}{done:List Int}
theorem Sea.len(S:Sea Ch c tp vp h start far came done)(M:Mend Ch c p0 A B s tp vp t h):done.length<=A:=by
 have hh:∀ u∈done,getM t ((getM h u).getD 0)=some u:=fun u hu=>by
  obtain⟨r,e⟩:=Wah.mp (S.held u hu).1;rw [e];exact(M.mat _ u).mpr e
 have nd:(done.map fun u=>(getM h u).getD 0).Nodup:=by
  rw [Wad,WaG];refine(Wad.mp S.nd).imp_of_mem fun {a b} ha hb hab e=>hab ?_
  have h1:=hh a ha;rw [e,hh b hb] at h1;exact(WaV h1).symm
 have:=zbO nd (M:=t.map (·.1)) fun x hx=>by
  obtain⟨u,hu,rfl⟩:=Ya7.mp hx;exact zbs (by rw [hh u hu];rfl)
 rw [YaR,YaR] at this;exact Ya5 this M.ot.len
theorem Mend.still(M:Mend Ch c p0 A B s tp vp t h)(S:Sea Ch c tp vp h start far came done)(h0:getM t start=none){whole:Int}{tp' vp':Int->Int}(p:Paid h far start done whole tp vp tp' vp'):∀ x v,getM t x=some v->Ch x v/\tp' x+vp' v=c x v:=fun x v e=>by
 obtain⟨e1,e2⟩:=M.ed x v e;refine⟨e1,?_⟩;have hx:=(M.mat x v).mp e
 by_cases hv:v∈done
 . obtain⟨y,hy⟩:=Wah.mp (S.held v hv).2
   obtain⟨a1,a2⟩:=p.re v hv x y hx hy;rw [a1,a2];omega
 . rw [p.vo v hv,p.to x #[96,h0,e] fun u hu z=>?_]
   . exact e2
   . have:=(M.mat x u).mpr z
     rw [e] at this;exact hv (by rw [WaV this];exact hu)
end
structure Sep(M:MkD):Prop where
 ct:M.aC≠M.aT
 cv:M.aC≠M.aV
 tv:M.aT≠M.aV
 kh:M.aK≠M.aH
structure Fits(M:MkD)(A B:Nat):Prop where
 cl:M.cs.length=A
 tl:M.tp.length=A
 vl:M.vp.length=B
 nd:∀ its∈M.cs,(its.map (·.1)).Nodup
 inn:∀ its∈M.cs,∀ p∈its,InR p.1 B
 hA:A<=60
 hB:B<=2000
section
variable{P:Program}{w:World}{K:Ybf}{mg:#[15]}{base:Heap}{C:Addr}
def zc7(C tb:Addr):Sp:=fun vs H Q E=>∃ (m:Addr) (s A B:Nat) (M:MkD) (p0 f:Int->Int),vs=[.ref m,.int (s:Int)]/\TabU tb H/\Mkt C H m M/\Sep M/\Fits M A B/\s<A/\Mend (ChM M) (cM M) p0 A B s (at0 M.tp) (at0 M.vp) M.tk M.hd/\(∀ x,InR x A->ChM M x (f x))/\(∀ x y,InR x A->InR y A->f x=f y->x=y)/\
 ∀ tp' vp' tk' hd' H',tp'.length=A->vp'.length=B->Mend (ChM M) (cM M) p0 A B (s+1) (at0 tp') (at0 vp') tk' hd'->zi (bar H [M.aT,M.aV,M.aK,M.aH]) H'->Mkt C H' m { M with tp:=tp',vp:=vp',tk:=tk',hd:=hd' }->Q .non H'
theorem zjc{tb:Addr}(cl:Cls K C)(n5:zQ K C "taken")(n4:zQ K C "holders")(GL:Df P w K mg base 1 "look_from" ["market", "turn", "gone", "far", "came"] (zcm C))(GN:Df P w K mg base 4 "nearest" ["far", "done"] (zdp tb))(GP:Df P w K mg base 1 "change_prices" ["market", "start", "whole", "far", "done"] (zdv C))(GM:Df P w K mg base 1 "move_along" ["choice", "came", "taken", "holders"] spMove)
 {f:Addr} {fd:FuncData} (F:Fun K "serve" "serve" zcc f fd):FnOk P w K mg base (CXR P w) 5 f fd ["market", "start"] (zc7 C tb):=by
 have S:FnScope ["market", "start", "far", "came", "done", "visit"] ["market", "start"] (zh zcc):=#[10]
 refine F.okR S (fun vs H Q E h=>?_) (fun cdv A outer s H vs Q E hr h=>?_)
 . obtain⟨_,_,_,_,_,_,_,rfl,_⟩:=h;rfl
 have hu:=z9 hr;refine⟨_,zM (jh (i:=2) S.nd rfl (.inl rfl) JK) (zM (jh (i:=3) S.nd rfl (.inl rfl) JK) (zM (jh (i:=4) S.nd rfl (.inl rfl) JK)
  (zM (jZ (jG GL #[7] rfl jC (zm (pv 0) (zm (pv 1) (zm jR (zm (pv 2) (zm (pv 3) zK))))))) (zM (jh (i:=5) S.nd rfl (.inl rfl) (jG GN #[7] rfl jC (zm (pv 2) (zm (pv 4) zK))))
  (zM (zcz WaH (Zw (zgX hu (pv 5) (jF (pv 0) rfl)))
   (zM (JC hu (pv 4) (pv 5) zeU rfl) (zM (jZ (jG GL #[7] rfl jC (zm (pv 0) (zm (j5 hu (jF (pv 0) rfl) (pv 5) #[4]) (zm (j5 hu (pv 2) (pv 5) #[4]) (zm (pv 2) (zm (pv 3) zK)))))))
    (jk (jh (i:=5) S.nd rfl (.inl rfl) (jG GN #[7] rfl jC (zm (pv 2) (zm (pv 4) zK))))))))
  (zM (jZ (jG GP #[7] rfl jC (zm (pv 0) (zm (pv 1) (zm (j5 hu (pv 2) (pv 5) #[4]) (zm (pv 2) (zm (pv 4) zK)))))))
   (jk (jZ (jG GM #[7] rfl jC (zm (pv 5) (zm (pv 3) (zm (jF (pv 0) rfl) (zm (jF (pv 0) rfl) zK))))))))))))),?_⟩
 obtain⟨m,n,A',B',M,p0,g,rfl,tu,hM,sep,fit,hs,hMe,hg,ginj,q⟩:=h;have hst:InR (n:Int) A':=⟨#[0],#[0]⟩
 have h0:getM M.tk (n:Int)=none:=by
  cases e:getM M.tk (n:Int) with
  | none=>rfl
  | some v=>have:=(hMe.dom n).mp (by rw [e];rfl);omega
 have row:∀ r,InR r A'->M.cs.getD r.toNat []∈M.cs:=fun r hr=>by
  obtain⟨r0,r1⟩:=hr;have:=fit.cl;rw [YaP,YaQ (show r.toNat<M.cs.length by omega)]
  exact Ya4 _
 have rlen:∀ r,InR r A'->(M.cs.getD r.toNat []).length<=B':=fun r hr=>by
  have:=Zs (fit.nd _ (row r hr)) fun x hx=>by
   obtain⟨p,hp,rfl⟩:=Ya7.mp hx;exact fit.inn _ (row r hr) p hp
  rwa [YaR] at this
 have hCh:∀ x v,ChM M x v->InR v B':=fun x v hc=>by
  obtain⟨y,e⟩:=Wah.mp hc.2;exact fit.inn _ (row x (fit.cl ▸ hc.1)) _ (JJ e)
 have lkd:∀ r wh far came,InR r A'->Looked (ChM M) (cM M) (at0 M.tp) (at0 M.vp) r wh far came ((M.cs.getD r.toNat []).foldl (zC (zH M r wh) r) (far,came)).1 ((M.cs.getD r.toNat []).foldl (zC (zH M r wh) r) (far,came)).2:=fun r wh far came hr=>looked (fit.cl ▸ hr) (fit.nd _ (row r hr)) fun v hc=>(hCh r v hc).1
 have big:∀ {x:Nat},x<=200000->x<sizeLine:=fun {x} hx=>Was hx #[1]
 refine fun fa hfa ca hca da hda=>?_
 have ncf:ca≠fa:=#[96,zf,hca]
 have ndc:da≠ca:=#[96,zf,hda]
 have ndf:da≠fa:=fun z=>by rw [z,zc ncf.symm,zf] at hda;cases hda
 have s3:=((zG hfa (.dK [])).trans ((zG hca (.dK [])).trans (zG hda (.dK [])))).x;have f3:upd (upd (upd H fa (.dK [])) ca (.dK [])) da (.dK []) fa=some (.dK (encM [])):=by rw [zc ndf.symm,zc ncf.symm,zf];rfl
 have c3:upd (upd (upd H fa (.dK [])) ca (.dK [])) da (.dK []) ca=some (.dK (encM [])):=by rw [zc ndc.symm,zf];rfl
 have d3:upd (upd (upd H fa (.dK [])) ca (.dK [])) da (.dK []) da=some (.dK (encK [])):=zf;rw [zc ncf] at hca;rw [zc ndc,zc ndf] at hda;generalize upd (upd (upd H fa (.dK [])) ca (.dK [])) da (.dK [])=H3 at *;have mk:∀ {H':Hp},zi H H'->Mkt C H' m M:=fun sx=>hM.keep fun b o e nx=>sx.at e nx
 have hpos:∀ r,InR r A'->0<=r/\r<(M.cs.length:Int)/\r<(M.tp.length:Int)/\∀ p∈M.cs.getD r.toNat [],InR p.1 M.vp.length:=fun r hr=>⟨hr.1,by rw [fit.cl];exact hr.2,by rw [fit.tl];exact hr.2,fun p hp=>by rw [fit.vl];exact fit.inn _ (row r hr) p hp⟩
 obtain⟨p1,p2,p3,p4⟩:=hpos n hst;have hB:=fit.hB;have hA:=fit.hA;have viaX:∀ {H1 H2:Hp} {x y:HO},zi H H1->H1 fa=some x->(∀ f,x≠.ext f)->H1 ca=some y->(∀ f,y≠.ext f)->zi (bar H1 [fa,ca]) H2->zi H H2:=fun sx e1 n1 e2 n2 s2=>zi.via sx (fun a ha=>by
  rcases Wa4.mp ha with z|z
  . rw [z];exact hfa
  . rw [Ya6.mp z];exact hca) (fun a ha=>by
  rcases Wa4.mp ha with z|z
  . rw [z];exact⟨_,e1,n1⟩
  . rw [Ya6.mp z];exact⟨_,e2,n2⟩) s2
 refine⟨.ref m,rfl,.int n,rfl,.ref fa,rfl,.ref ca,rfl,m,n,0,fa,ca,M,[],[],rfl,mk s3,p1,p2,p3,p4,f3,c3,ncf.symm,?_,?_,fun H4 s4 f4 c4=>?_⟩
 . have:=rlen n hst;exact big (by simp only [List.length_nil];omega)
 . have:=rlen n hst;exact big (by simp only [List.length_nil];omega)
 have d4:H4 da=some (.dK (encK [])):=s4.at ((zX (by simp [ndf,ndc])).trans d3)
 have s4:=viaX s3 f3 #[95] c3 #[95] s4
 have S0:=Sea.begin_ (h:=M.hd) (lkd n 0 [] [] hst);have l0:=zbz (zH M n 0) n (M.cs.getD (n:Int).toNat []) ([],[]);have r0:=rlen n hst;generalize (M.cs.getD (n:Int).toNat []).foldl (zC (zH M n 0) n) ([],[])=fc at *;obtain⟨far,came⟩:=fc;simp only [List.length_nil,Nat.zero_add] at l0;obtain⟨v0,x0,hv0,hx0⟩:=S0.open_ hMe hst h0 hg ginj;refine⟨.ref fa,rfl,.ref da,rfl,fa,da,far,[],rfl,tu.same s4,f4,d4,ndf.symm,big (by have:=l0.1;omega),⟨v0,x0,hx0,hv0⟩,fun v wh H5 hv hvd hmin s5=>?_⟩
 refine⟨fun k σ' H'=>∃ (far came:Tb) (done:List Int) (v wh:Int),σ'=[some (.ref m),some (.int n),some (.ref fa),some (.ref ca),some (.ref da),some (.int v)]/\k=A'+1 - done.length/\Sea (ChM M) (cM M) (at0 M.tp) (at0 M.vp) M.hd n far came done/\v∉done/\getM far v=some wh/\(∀ u z,getM far u=some z->u∉done->wh<=z)/\far.length<=(done.length+1)*B'/\came.length<=(done.length+1)*B'/\zi H H'/\H' fa=some (.dK (encM far))/\H' ca=some (.dK (encM came))/\H' da=some (.dK (encK done)),
  ⟨_,far,came,[],v,wh,rfl,rfl,S0,hvd,hv,hmin,by have:=l0.1;simp only [List.length_nil];omega,by have:=l0.2;simp only [List.length_nil];omega,s4.trans s5,s5.at f4,s5.at c4,s5.at d4⟩,?_⟩
 clear S0 l0 r0 hv0 hx0 hmin hv hvd s5 f4 c4 d4 s4 f3 c3 d3 s3
 rintro k σ' H5 ⟨far,came,done,v,wh,rfl,rfl,Se,hvd,hv,hmin,lf,lc,s5,f5,c5,d5⟩
 have M5:=mk s5;have dlen:=Se.len hMe;have dB:(done.length+1)*B'<=61*B':=Nat.mul_le_mul_right _ #[0]
 have dg:DGet H5 fa (.int v) (some (.int wh)):=by have:=DGet.k (k:=Sum.inl v) f5;rwa [jt,hv] at this
 refine⟨.int v,rfl,.ref m,rfl,m,C,M.dx,mfs M,.ref M.aH,rfl,M5.ins,cl,n4,rfl,M.aH,_,rfl,DGet.k (k:=Sum.inl v) M5.dh,_,rfl,?_⟩
 rw [jt];cases hr:getM M.hd v with
 | some r=>
  show if true=true then _ else _
  rw [if_pos rfl];have hrA:InR r A':=(hMe.oh.get hr).2;refine⟨_,fun σ' H' z=>z,?_⟩
  refine⟨.ref da,rfl,.int v,rfl,da,_,rfl,DPut.k (k:=Sum.inl v) d5 (by rw [zkY];exact big #[0]),?_⟩
  rw [zku hvd];have s6:=s5.chg (o:=.dK (encK (done++[v]))) hda d5 #[95]
  have f6:upd H5 da (.dK (encK (done++[v]))) fa=some (.dK (encM far)):=(zc ndf.symm).trans f5;have c6:upd H5 da (.dK (encK (done++[v]))) ca=some (.dK (encM came)):=(zc ndc.symm).trans c5;have d6:upd H5 da (.dK (encK (done++[v]))) da=some (.dK (encK (done++[v]))):=zf;generalize upd H5 da (.dK (encK (done++[v])))=H6 at *;have M6:=mk s6;have dg6:DGet H6 fa (.int v) (some (.int wh)):=by have:=DGet.k (k:=Sum.inl v) f6;rwa [jt,hv] at this
  have dh6:DGet H6 M.aH (.int v) (some (.int r)):=by have:=DGet.k (k:=Sum.inl v) M6.dh;rwa [jt,hr] at this
  obtain⟨p1,p2,p3,p4⟩:=hpos r hrA;have rl:=rlen r hrA;refine⟨.ref m,rfl,.ref m,rfl,m,C,M.dx,mfs M,.ref M.aH,rfl,M6.ins,cl,n4,rfl,.int v,rfl,M.aH,.int r,rfl,dh6,.ref fa,rfl,.int v,rfl,fa,.int wh,rfl,dg6,.ref fa,rfl,.ref ca,rfl,m,r,wh,fa,ca,M,far,came,rfl,M6,p1,p2,p3,p4,f6,c6,ncf.symm,big #[0],big #[0],fun H7 s7 f7 c7=>?_⟩
  have d7:H7 da=some (.dK (encK (done++[v]))):=s7.at ((zX (by simp [ndf,ndc])).trans d6)
  have s7:=viaX s6 f6 #[95] c6 #[95] s7
  have S1:=Se.next hMe hvd hv (fun u hu y e=>hmin u y e hu) hr (lkd r wh far came hrA)
  have l1:=zbz (zH M r wh) r (M.cs.getD r.toNat []) (far,came);generalize (M.cs.getD r.toNat []).foldl (zC (zH M r wh) r) (far,came)=fc at *;obtain⟨far',came'⟩:=fc;obtain⟨l1,l2⟩:=l1;have l1:far'.length<=far.length+(M.cs.getD r.toNat []).length:=l1;have l2:came'.length<=came.length+(M.cs.getD r.toNat []).length:=l2;have dl2:=S1.len hMe;rw [YaS,List.length_singleton] at dl2
  have ms:(done.length+1+1)*B'=(done.length+1)*B'+B':=Nat.succ_mul _ _;obtain⟨v1,x1,hv1,hx1⟩:=S1.open_ hMe hst h0 hg ginj;refine⟨.ref fa,rfl,.ref da,rfl,fa,da,far',done++[v],rfl,tu.same s7,f7,d7,ndf.symm,big #[0],⟨v1,x1,hx1,hv1⟩,fun v2 wh2 H8 hv2 hvd2 hmin2 s8=>?_⟩
  refine⟨A'+1 - (done++[v]).length,by rw [YaS,List.length_singleton];omega,far',came',done++[v],v2,wh2,rfl,rfl,S1,hvd2,hv2,hmin2,?_,?_,s7.trans s8,s8.at f7,s8.at c7,s8.at d7⟩
  . rw [YaS,List.length_singleton];omega
  . rw [YaS,List.length_singleton];omega
 | none=>
  show if false=true then _ else _
  rw [if_neg #[1]]
  have hk:∀ k∈done,InR k M.vp.length/\∃ r y,getM M.hd k=some r/\getM far k=some y/\InR r M.tp.length:=fun k hk=>by
   obtain⟨r,e1⟩:=Wah.mp (Se.held k hk).1;obtain⟨y,e2⟩:=Wah.mp (Se.held k hk).2;rw [fit.vl,fit.tl];exact⟨(hMe.oh.get e1).1,r,y,e1,e2,(hMe.oh.get e1).2⟩
  have hstT:InR (n:Int) M.tp.length:=by rw [fit.tl];exact hst
  have pd:=paid (w:=wh) Se.nd hstT hk (fun k hk' l hl e=>by
   obtain⟨_,r,y,e1,_⟩:=hk k hk';have h1:=(hMe.mat r k).mpr e1;have h2:=(hMe.mat r l).mpr (e ▸ e1);rw [h1] at h2;exact WaV h2) (fun k _ e=>by
   have:=(hMe.mat _ k).mpr e;rw [h0] at this;cases this)
  have pl:=zcq far M.hd wh done (M.tp.set (n:Int).toNat (M.tp.getD (n:Int).toNat 0+wh),M.vp);have naF:∀ {a:Addr} {o:HO},H a=some o->a≠fa/\a≠ca/\a≠da:=fun e=>⟨fun z=>(by rw [z,hfa] at e;cases e),fun z=>(by rw [z,hca] at e;cases e),fun z=>(by rw [z,hda] at e;cases e)⟩
  refine⟨.ref m,rfl,.int n,rfl,.ref fa,rfl,.int v,rfl,fa,.int wh,rfl,dg,.ref fa,rfl,.ref da,rfl,m,n,wh,fa,da,M,far,done,rfl,M5,hstT,f5,d5,hk,sep.tv,ndf,(naF hM.dh).2.2.symm,fun H6 s6 t6 v6=>?_⟩
  generalize done.foldl (pay1 far M.hd wh) (M.tp.set (n:Int).toNat (M.tp.getD (n:Int).toNat 0+wh),M.vp)=fc at *;obtain⟨T',V'⟩:=fc;obtain⟨pl1,pl2⟩:=pl;have pl1:T'.length=A':=by rw [show T'.length=_ from pl1,YaN,fit.tl]
  have pl2:V'.length=B':=(show V'.length=_ from pl2).trans fit.vl
  obtain⟨wp,r0,hr0⟩:=Se.way hMe hst h0 hCh hvd hv pd;obtain⟨ca',hca',wy⟩:=wp.way;have kp6:∀ {b:Addr} {o:HO},H5 b=some o->(∀ f,o≠.ext f)->b≠M.aT->b≠M.aV->b≠da->H6 b=some o:=fun e nx e1 e2 e3=>s6.at ((zX (by simp [e1,e2,e3])).trans e) nx
  have nT:∀ {b:Addr} {o:HO},H b=some o->(∀ l,o≠.lst l)->b≠M.aT/\b≠M.aV:=fun e nl=>⟨fun z=>by rw [z,hM.lt] at e;exact nl _ (WaV e).symm,fun z=>by rw [z,hM.lv] at e;exact nl _ (WaV e).symm⟩
  have nD:∀ {b:Addr} {o:HO},H b=some o->(∀ l,o≠.dK l)->b≠M.aK/\b≠M.aH:=fun e nl=>⟨fun z=>by rw [z,hM.dk] at e;exact nl _ (WaV e).symm,fun z=>by rw [z,hM.dh] at e;exact nl _ (WaV e).symm⟩
  have ins6:H6 m=some (.ins C M.dx (mfs M)):=kp6 M5.ins #[95] (nT hM.ins #[95]).1 (nT hM.ins #[95]).2 (naF hM.ins).2.2
  have k6:H6 M.aK=some (.dK (encM M.tk)):=kp6 M5.dk #[95] (nT hM.dk #[95]).1 (nT hM.dk #[95]).2 (naF hM.dk).2.2
  have h6:H6 M.aH=some (.dK (encM M.hd)):=kp6 M5.dh #[95] (nT hM.dh #[95]).1 (nT hM.dh #[95]).2 (naF hM.dh).2.2
  have c6:H6 ca=some (.dK (encM came)):=kp6 c5 #[95] (naF hM.lt).2.1.symm (naF hM.lv).2.1.symm ndc.symm
  have nKT:=nT hM.dk #[95]
  have nHT:=nT hM.dh #[95]
  refine⟨.int v,rfl,.ref ca,rfl,.ref m,rfl,m,C,M.dx,mfs M,.ref M.aK,rfl,ins6,cl,n5,rfl,.ref m,rfl,m,C,M.dx,mfs M,.ref M.aH,rfl,ins6,cl,n4,rfl,v,ca,M.aK,M.aH,came,ca',M.tk,M.hd,_,_,n,A',B',_,rfl,fun c s e=>((hca' c s).mp e).2,wy,
   ⟨hMe.still Se h0 pd,⟨fun s x _=>hMe.mat s x,fun s e=>by have:=(hMe.mat s v).mp e;rw [hr] at this;cases this⟩,hMe.ot,hMe.oh,⟨r0,(hca' v r0).mpr ⟨.inr rfl,hr0⟩,rfl⟩,fun _ _=>rfl,fun _=>Iff.rfl,fun _ z=>z⟩,#[0],hB,c6,k6,h6,(naF hM.dk).2.1.symm,(naF hM.dh).2.1.symm,sep.kh,fun t' h' H7 mv s7 k7 h7=>?_⟩
  have bn:∀ {a:Addr} {L:List Addr},H a=none->bar H L a=none:=fun {a L} e=>by unfold bar;split<;>first|rfl|exact e
  have sF6:zi (bar H [M.aT,M.aV,M.aK,M.aH]) H6:=zi.via ((Zx _ _).x.trans s5) (fun a ha=>by
   rcases Wa4.mp ha with z|z
   . exact jK (by rw [z];simp)
   . rcases Wa4.mp z with z|z
     . exact jK (by rw [z];simp)
     . rw [Ya6.mp z];exact bn hda) (fun a ha=>by
   rcases Wa4.mp ha with z|z
   . rw [z];exact⟨_,M5.lt,#[95]⟩
   . rcases Wa4.mp z with z|z
     . rw [z];exact⟨_,M5.lv,#[95]⟩
     . rw [Ya6.mp z];exact⟨_,d5,#[95]⟩) s6
  have sF:zi (bar H [M.aT,M.aV,M.aK,M.aH]) H7:=zi.via sF6 (fun a ha=>jK (by
   rcases Wa4.mp ha with z|z
   . rw [z];simp
   . rw [Ya6.mp z];simp)) (fun a ha=>by
   rcases Wa4.mp ha with z|z
   . rw [z];exact⟨_,k6,#[95]⟩
   . rw [Ya6.mp z];exact⟨_,h6,#[95]⟩) s7
  have kp7:∀ {b:Addr} {o:HO},H b=some o->(∀ f,o≠.ext f)->b≠M.aT->b≠M.aV->b≠M.aK->b≠M.aH->H7 b=some o:=fun e nx e1 e2 e3 e4=>sF.at ((zX (by simp [e1,e2,e3,e4])).trans e) nx
  have kp8:∀ {b:Addr} {o:HO},H b=some o->(∀ f,o≠.ext f)->(∀ l,o≠.lst l)->(∀ l,o≠.dK l)->H7 b=some o:=fun e nx nl nd=>kp7 e nx (nT e nl).1 (nT e nl).2 (nD e nd).1 (nD e nd).2
  refine q T' V' t' h' H7 pl1 pl2 (hMe.next Se hvd hv (fun u hu y e=>hmin u y e hu) pd mv) sF ⟨?_,?_,?_,hM.len,fun i d e=>?_,?_,?_,k7,h7⟩
  . exact kp8 hM.ins #[95] #[95] #[95]
  . exact kp8 hM.own #[95] #[95] #[95]
  . have:=nD hM.lc #[95]
    exact kp7 hM.lc #[95] sep.ct sep.cv this.1 this.2
  . obtain⟨o,ho⟩:=hM.dc i d e
    exact⟨o,kp8 ho #[95] #[95] #[95]⟩
  . exact s7.at ((zX (by simp [nKT.1.symm,nHT.1.symm])).trans t6)
  . exact s7.at ((zX (by simp [nKT.2.symm,nHT.2.symm])).trans v6)
end
def cst1(V:List Win)(clan p:Int):Int:=if(V.getD p.toNat (0,0,0,none)).1=clan then 0 else 1
def zT(V:List Win)(clan:Int)(pl:List Int):Tb:=pl.map fun p=>(p,cst1 V clan p)
def csOf(V:List Win)(row:List Int)(ch:List #[22]):List Tb:=List.zipWith (zT V) row ch
section
variable{P:Program}{w:World}{K:Ybf}{mg:#[15]}{base:Heap}{C:Addr}
theorem zbk{G:Hp}:∀ {xs:List V} {l:List Int},RdVs K G xs (l.map .int)->xs=l.map .int
 | [],[],_=>rfl
 | [],_::_,h=>by cases h
 | _::_,[],h=>by cases h
 | x :: xs, n :: l, h => by
  cases h with
  | cons a b=>cases a;rw [zbk b];rfl
theorem zmg{t:Tb}{k v:Int}(h:getM t k=none):putM t k v=t++[(k,v)]:=by
 unfold putM;rw [if_neg];intro z;obtain⟨p,hp,e⟩:=WaQ.mp z;unfold getM at h;rw [Option.map_eq_none_iff,Wau] at h;exact h p hp e
theorem zic{l:List Int}(nd:l.Nodup){j:Nat}(hj:j<l.length):l[j]∉l.take j:=fun hm=>by
 obtain⟨k,hk,e⟩:=Yam hm;rw [List.getElem_take] at e;rw [WaN] at hk;have:=(WaL nd).mp e
 omega
def zde(K:Ybf):Sp:=fun vs H Q E=>∃ (v c r:Addr) (G:Hp) (V:List Win) (ch:List #[22]) (row:List Int),vs=[.ref v,.ref c,.ref r]/\Sub G H/\RdV K G (.ref v) (.list (V.map dW))/\RdV K G (.ref c) (.list (ch.map dI))/\RdV K G (.ref r) (dI row)/\row.length=ch.length/\ch.length<=60/\(∀ pl∈ch,pl.Nodup/\pl.length<=2000/\∀ x∈pl,InR x V.length)/\
 ∀ (aC:Addr) (dcs:List Addr) H',zi H H'->H aC=none->H' aC=some (.lst (dcs.map .ref))->dcs.length=ch.length->(∀ (i:Nat) d,dcs[i]?=some d->∃ o,H' d=some (.frz o (.dK (encM ((csOf V row ch).getD i [])))))->Q (.ref aC) H'
theorem zks(hz:mg "zip" = none){f:Addr}{fd:FuncData}(F:Fun K "costs_of_turns" "costs_of_turns" zcI f fd):FnOk P w K mg base (CXR P w) 1 f fd ["visits", "choices", "row"] (zde K):=by
 have S:FnScope ["visits", "choices", "row", "found", "clan", "places", "costs", "place"] ["visits", "choices", "row"] (zh zcI):=#[10]
 refine F.okR S (fun vs H Q E h=>?_) (fun cdv A outer s H vs Q E hr h=>?_)
 . obtain⟨_,_,_,_,_,_,_,rfl,_⟩:=h;rfl
 have hu:=z9 hr;refine⟨_,zM (jh (i:=3) S.nd rfl (.inl rfl) (zbT zK)) (zM (Zd WaH rfl (zcD rfl hz (zm (pv 2) (zm (pv 1) zK))) (zbH rfl (JH (jp (i:=4) S.nd rfl (.inl rfl)) (JH (jp (i:=5) S.nd rfl (.inl rfl)) zb1)))
  (zM (jh (i:=6) S.nd rfl (.inl rfl) JK) (zM (Zd WaH rfl (zbv (pv 5)) (jp (i:=7) S.nd rfl (.inl rfl))
   (jk (JC hu (pv 6) (pv 7) (zgk (zbG zfo (jM zbW (jM j8 (pv 0) (pv 7) #[4]) jR #[4]) (pv 4) (nomark _)) jR jR) rfl)))
   (jk (zdi (jZ (zc4 (pv 3) (zm (pv 6) zK)))))))) (jk (JO (pv 3)))),?_⟩
 obtain⟨v,c,r,G,U,ch,row,rfl,sG,rv,rc,rr,hl,h60,hpl,q⟩:=h;obtain⟨xv,qv,rvs⟩:∃ xs,SqL K G v xs/\RdVs K G xs (U.map dW):=by cases rv with|lst a b=>exact⟨_,a,b⟩
 obtain⟨xc,qc,rcs⟩:∃ xs,SqL K G c xs/\RdVs K G xs (ch.map dI):=by cases rc with|lst a b=>exact⟨_,a,b⟩
 obtain⟨xr,qr,rrs⟩:∃ xs,SqL K G r xs/\RdVs K G xs (row.map .int):=by cases rr with|lst a b=>exact⟨_,a,b⟩
 have rrs:=zbk rrs;subst rrs;refine⟨Wbl _,fun aC hC=>?_⟩
 have s1:=(zG hC (.lst [])).x;refine⟨.ref r,rfl,.ref c,rfl,r,c,rfl,⟨_,(sG.trans s1).seq qr⟩,⟨_,(sG.trans s1).seq qc⟩,fun i n σ' H'=>i<=ch.length/\n=ch.length - i/\(∃ t4 t5 t6 t7,σ'=[some (.ref v),some (.ref c),some (.ref r),some (.ref aC),t4,t5,t6,t7])/\zi H H'/\∃ dcs:List Addr,H' aC=some (.lst (dcs.map .ref))/\dcs.length=i/\∀ (j:Nat) d,dcs[j]?=some d->∃ o,H' d=some (.frz o (.dK (encM ((csOf U row ch).getD j [])))),
  ⟨_,Wbl _,rfl,⟨none,none,none,none,rfl⟩,s1,[],zf,rfl,fun j d e=>by simp at e⟩,?_⟩
 rintro i n σ' H' ⟨hi,rfl,⟨t4,t5,t6,t7,rfl⟩,s',dcs,hdl,hdn,hdc⟩
 have g':=sG.trans s'
 by_cases hlt:i<ch.length
 . have hir:i<row.length:=#[0]
   obtain⟨y,hy,ry⟩:=rcs.get (i:=i) (d:=dI ch[i]) (by rw [Ya0,YaQ hlt];rfl)
   obtain⟨pa,zs,rfl,qz,rz⟩:∃ pa zs,y=.ref pa/\SqL K G pa zs/\RdVs K G zs (ch[i].map .int):=by
    unfold dI at ry;cases ry with
    | lst a b=>exact⟨_,_,rfl,a,b⟩
   have rz:=zbk rz;subst rz;have hxr:(row.map V.int)[i]?=some (.int row[i]):=by rw [Ya0,YaQ hir];rfl
   obtain⟨nd,pl2,hin⟩:=hpl _ (Ya4 hlt);have hcs:(csOf U row ch).getD i []=zT U row[i] ch[i]:=by
    unfold csOf;rw [YaP,List.getElem?_zipWith,YaQ hir,YaQ hlt];rfl
   generalize ch[i]=pl at *;generalize row[i]=clan at *;refine .inr ⟨⟨_,_,_,_,g'.seq qr,g'.seq qc,hxr,hy⟩,fun σ' H'=>(∃ t4 t5 t6 t7,σ'=[some (.ref v),some (.ref c),some (.ref r),some (.ref aC),t4,t5,t6,t7])/\zi H H'/\∃ dcs:List Addr,H' aC=some (.lst (dcs.map .ref))/\dcs.length=i+1/\∀ (j:Nat) d,dcs[j]?=some d->∃ o,H' d=some (.frz o (.dK (encM ((csOf U row ch).getD j [])))),fun σ2 H2 z=>⟨ch.length - (i+1),#[0],hlt,rfl,z⟩,?_⟩
   rintro x H3 ⟨p,x',y',hp,rfl,rfl,hall⟩
   obtain⟨e1,e2⟩:=hall _ _ (g'.seq qr) (g'.seq qc);rw [hxr] at e1;rw [hy] at e2;cases e1;cases e2;refine⟨p,[.int clan,.ref pa],rfl,SqT.of zf,rfl,_,_,rfl,_,_,rfl,rfl,?_⟩;refine fun dd hdd=>?_
   have hpd:dd≠p:=#[96,zf,hdd]
   have hdd':H' dd=none:=by rwa [zc hpd] at hdd
   have s4:=s'.trans ((zG hp (.tup [.int clan,.ref pa])).trans (zG hdd (.dK []))).x;have u4:∀ b o,H' b=some o->upd (upd H' p (.tup [.int clan,.ref pa])) dd (.dK []) b=some o:=fun b o e=>by
    rw [zc (fun z=>by rw [z,hdd'] at e;cases e),zc #[96,hp,e]];exact e
   have hd4:upd (upd H' p (.tup [.int clan,.ref pa])) dd (.dK [])=upd (upd H' p (.tup [.int clan,.ref pa])) dd (.dK (encM (zT U clan []))):=rfl;have n0:H dd=none:=s'.free hdd';have aCd:aC≠dd:=fun z=>by rw [z,hdd'] at hdl;cases hdl
   generalize hH4:upd (upd H' p (.tup [.int clan,.ref pa])) dd (.dK [])=H4 at *;have h4:H4 dd=some (.dK []):=by rw [<-hH4];exact zf
   have sU:∀ o,zi H (upd H4 dd o):=fun o=>s4.chg n0 h4 #[95]
   refine⟨.ref pa,rfl,pa,rfl,⟨_,(sG.trans s4).seq qz⟩,fun j m σ2 H2=>j<=pl.length/\m=pl.length - j/\(∃ t7,σ2=[some (.ref v),some (.ref c),some (.ref r),some (.ref aC),some (.int clan),some (.ref pa),some (.ref dd),t7])/\H2=upd H4 dd (.dK (encM (zT U clan (pl.take j)))),
    ⟨_,Wbl _,rfl,⟨_,rfl⟩,by rw [<-hH4,Zc];rfl⟩,?_⟩
   rintro j m σ2 H2 ⟨hj,rfl,⟨t7',rfl⟩,rfl⟩
   have g2:=sG.trans (sU (.dK (encM (zT U clan (pl.take j)))))
   by_cases hjl:j<pl.length
   . have hzj:(pl.map V.int)[j]?=some (.int pl[j]):=by rw [Ya0,YaQ hjl];rfl
     refine .inr ⟨⟨_,_,g2.seq qz,hzj⟩,fun σ2 H2=>(∃ t7,σ2=[some (.ref v),some (.ref c),some (.ref r),some (.ref aC),some (.int clan),some (.ref pa),some (.ref dd),t7])/\H2=upd H4 dd (.dK (encM (zT U clan (pl.take (j+1))))),fun σ2 H2 z=>⟨pl.length - (j+1),#[0],hjl,rfl,z⟩,?_⟩
     rintro x H5 ⟨e5,hall⟩
     have e5:=e5.symm;subst e5;have e:=hall _ (g2.seq qz);rw [hzj] at e;cases e;have hIn:=hin _ (Ya4 hjl);have htk:pl.take (j+1)=pl.take j++[pl[j]]:=by rw [WaI,YaQ hjl];rfl
     have hnew:getM (zT U clan (pl.take j)) pl[j]=none:=by
      cases e:getM (zT U clan (pl.take j)) pl[j] with
      | none=>rfl
      | some z=>
       have:=zbs (t:=zT U clan (pl.take j)) (k:=pl[j]) (by rw [e];rfl)
       unfold zT at this;rw [YaD] at this;obtain⟨k,hk,ek⟩:=Ya7.mp this;have ek:k=pl[j]:=ek;exact absurd (ek ▸ hk) (zic nd hjl)
     have hlen:(zT U clan (pl.take j)).length<sizeLine:=by
      unfold zT;rw [YaR,WaN];exact Was (show _<=2000 by omega) #[1]
     have hfin:putM (zT U clan (pl.take j)) pl[j] (cst1 U clan pl[j])=zT U clan (pl.take (j+1)):=by
      rw [zmg hnew,htk];unfold zT;rw [Ya2];rfl
     have hcd:(U.map dW)[pl[j].toNat]?=some (dW (U.getD pl[j].toNat (0,0,0,none))):=by
      obtain⟨i0,i1⟩:=hIn;rw [Ya0,YaP,YaQ (show pl[j].toNat<U.length by omega)];rfl
     have hcst:cst1 U clan pl[j]=if(U.getD pl[j].toNat (0,0,0,none)).1=clan then 0 else 1:=rfl
     generalize pl[j]=k at *;generalize U.getD k.toNat (0,0,0,none)=wn at *;obtain⟨wv,hwv,rw'⟩:=rvs.get hcd;obtain⟨wa,ws,rfl,qw,rws⟩:∃ wa ws,wv=.ref wa/\SqT K G wa ws/\RdVs K G ws [.int wn.1,.int wn.2.1,.int wn.2.2.1,dO wn.2.2.2]:=by
      unfold dW at rw';cases rw' with
      | tup a b=>exact⟨_,_,rfl,a,b⟩
     obtain⟨ws',rfl⟩:∃ ws',ws=.int wn.1::ws':=by
      cases rws with
      | cons a b=>cases a;exact⟨_,rfl⟩
     have hat:atI xv k=some (.ref wa):=by
      have:=z8 (xs:=xv) (j:=k.toNat) (v:=.ref wa) hwv;rwa [show((k.toNat:Nat):Int)=k from War hIn.1] at this
     refine⟨.ref v,rfl,.int k,rfl,v,xv,k,.ref wa,rfl,rfl,g2.seq qv,hat,wa,_,0,.int wn.1,rfl,rfl,g2.tup qw,z8 (j:=0) rfl,.int clan,rfl,rfl,_,rfl,?_⟩
     have go:∀ x,x=cst1 U clan k->∃ y,([some (V.ref v),some (.ref c),some (.ref r),some (.ref aC),some (.int clan),some (.ref pa),some (.ref dd),some (.int k)]:L2.St)[6]?=some (some y)/\∃ z,([some (V.ref v),some (.ref c),some (.ref r),some (.ref aC),some (.int clan),some (.ref pa),some (.ref dd),some (.int k)]:L2.St)[7]?=some (some z)/\∃ a H6,y=.ref a/\DPut (upd H4 dd (.dK (encM (zT U clan (pl.take j))))) a z (.int x) H6/\(∃ t7,([some (V.ref v),some (.ref c),some (.ref r),some (.ref aC),some (.int clan),some (.ref pa),some (.ref dd),some (.int k)]:L2.St)=[some (.ref v),some (.ref c),some (.ref r),some (.ref aC),some (.int clan),some (.ref pa),some (.ref dd),t7])/\H6=upd H4 dd (.dK (encM (zT U clan (pl.take (j+1))))):=fun x hx=>
      ⟨.ref dd,rfl,.int k,rfl,dd,_,rfl,DPut.k (k:=Sum.inl k) zf (by rw [Zy];exact hlen),⟨_,rfl⟩,by rw [Ze,Zc,hx,hfin]⟩
     show if decide (V.int wn.1=V.int clan)=true then _ else _
     by_cases hcl:wn.1=clan
     . rw [if_pos (by rw [hcl];exact decide_eq_true rfl)]
       exact go 0 (by rw [hcst,if_pos hcl])
     . rw [if_neg (fun z=>hcl (by have z:=of_decide_eq_true z;cases z;rfl))]
       exact go 1 (by rw [hcst,if_neg hcl])
   . have e:j=pl.length:=#[0]
     subst e;rw [YaH] at g2 ⊢;refine .inl ⟨⟨_,g2.seq qz,by rw [YaR];exact YaY _⟩,dd,_,zf,fun o=>?_⟩
     rw [Zc];have haC:upd H4 dd (.frz o (.dK (encM (zT U clan pl)))) aC=some (.lst (dcs.map .ref)):=(zc aCd).trans (u4 _ _ hdl);refine⟨.ref aC,rfl,.inl ⟨rfl,_,SqL.of haC⟩,.ref dd,rfl,aC,_,.ref dd,rfl,rfl,haC,by rw [YaR,hdn];exact Was (show _<=60 by omega) #[1],⟨_,_,_,_,rfl⟩,(sU _).chg hC haC #[95],dcs++[dd],by rw [zf,Ya2];rfl,by rw [YaS,hdn];rfl,fun j d e=>?_⟩
     by_cases hjl:j<dcs.length
     . rw [Yab hjl] at e
       obtain⟨o',ho⟩:=hdc j d e;refine⟨o',?_⟩;rw [zc #[96,hdl,ho],zc (fun z=>by rw [z,hdd'] at ho;cases ho)]
       exact u4 _ _ ho
     . have hj':j=i:=by
        have:=(Ya8.mp e).1;rw [YaS,List.length_singleton] at this
        omega
       subst hj';rw [<-hdn,Yae (YaY _),Wbi] at e;have e:dd=d:=WaV e;subst e;rw [hcs];exact⟨o,by rw [zc aCd.symm];exact zf⟩
 . have e:i=ch.length:=#[0]
   subst e;have lx:xc.length=ch.length:=by rw [rcs.length,YaR]
   exact .inl ⟨⟨_,_,g'.seq qr,g'.seq qc,by rw [YaR,lx,hl,Nat.min_self]⟩,.ref aC,rfl,q aC dcs H' s' hC hdl hdn hdc⟩
end
section
variable{P:Program}{w:World}{K:Ybf}{mg:#[15]}{base:Heap}{C:Addr}
def zW(n:Int)(wn:Win):Int:=if wn.2.2.2=none then 0 else n+1
def zcp(K:Ybf):Sp:=fun vs H Q E=>∃ (wa:Addr) (n:Int) (G:Hp) (wn:Win),vs=[.ref wa,.int n]/\Sub G H/\RdV K G (.ref wa) (dW wn)/\Q (.int (zW n wn)) H
theorem zhV{f:Addr}{fd:FuncData}(F:Fun K "first_price" "first_price" zcV f fd):FnOk P w K mg base (CXR P w) 1 f fd ["visit", "turns"] (zcp K):=by
 have S:FnScope ["visit", "turns"] ["visit", "turns"] (zh zcV):=#[10]
 refine F.okR S (fun vs H Q E h=>?_) (fun cdv A outer s H vs Q E hr h=>?_)
 . obtain⟨_,_,_,_,rfl,_⟩:=h;rfl
 refine⟨_,jk (JO (zgk (Zw (zj5 (jM zbW (pv 0) jR #[4]))) jR (Jw zc2 (pv 1) jR))),?_⟩
 obtain⟨wa,n,G,wn,rfl,sG,r,q⟩:=h;obtain⟨c,a,b,o⟩:=wn;unfold dW at r;cases r with
 | tup qt rs=>
  cases rs with
  | cons r1 rs=>
   cases rs with
   | cons r2 rs=>
    cases rs with
    | cons r3 rs=>
     cases rs with
     | @cons x4 _ _ _ r4 rs=>
      refine⟨.ref wa,rfl,wa,_,3,x4,rfl,rfl,sG.tup qt,z8 (j:=3) rfl,_,rfl,?_⟩
      cases o with
      | none=>
       cases r4;exact q
      | some k=>
       cases r4;exact⟨.int n,rfl,n,1,rfl,rfl,q⟩
def zbh(K:Ybf):List V->Hp->VK->Prop:=fun xs H Q=>∃ p ys,xs=[V.ref p]/\(SqL K H p ys\/SqT K H p ys)/\Q (V.int ys.length) H
def zeC(K:Ybf)(C:Addr):Sp:=fun vs H Q E=>∃ (m dx v aC:Addr) (G:Hp) (U:List Win) (dcs:List Addr),vs=[.ref m,.ref v,.ref aC]/\H m=some (.ins C dx [])/\Sub G (bar H [m])/\RdV K G (.ref v) (.list (U.map dW))/\H aC=some (.lst (dcs.map .ref))/\dcs.length<=60/\U.length<=2000/\
 ∀ (aT aV aK aH:Addr) H',zi (bar H [m]) H'->H aT=none->H aV=none->H aK=none->H aH=none->aT≠aV->aK≠aH->
  H' m=some (.ins C dx [("costs", .ref aC),("turn_prices", .ref aT),("visit_prices", .ref aV),("taken", .ref aK),("holders", .ref aH)])->
  H' aT=some (.lst ((List.replicate dcs.length (0:Int)).map .int))->H' aV=some (.lst ((U.map (zW dcs.length)).map .int))->H' aK=some (.dK [])->H' aH=some (.dK [])->Q .non H'
theorem zjP(cl:Cls K C)(n1:zQ K C "costs")(n2:zQ K C "turn_prices")(n3:zQ K C "visit_prices")(n5:zQ K C "taken")(n4:zQ K C "holders")(hlen:mg "len" = none)(GF:Df P w K mg base 1 "first_price" ["visit", "turns"] (zcp K)){f:Addr}{fd:FuncData}(F:Fun K "__init__" "Market.__init__" Jl f fd):FnOk P w K mg base (CXR P w) 2 f fd ["self", "visits", "costs"] (zeC K C):=by
 have S:FnScope ["self", "visits", "costs"] ["self", "visits", "costs"] (zh Jl):=#[10]
 refine F.okR S (fun vs H Q E h=>?_) (fun cdv A outer s H vs Q E hr h=>?_)
 . obtain⟨_,_,_,_,_,_,_,rfl,_⟩:=h;rfl
 refine⟨_,zM (ZX (pv 0) (pv 2) rfl) (zM (ZX (pv 0) (Z0 ["turn"] [] [] rfl (zY (osc:=zh Jl) #[3]) rfl (zbv (pv 2)) (fun s H fp cl=>⟨jp (i:=0) (show((["turn"]:List PySem.Str)++([]:List PySem.Str)).Nodup by decide) rfl (.inl rfl),zaM,jR⟩)) rfl)
  (zM (ZX (pv 0) (Z0 ["visit"] ["costs"] [2] rfl (zY (osc:=zh Jl) #[3]) rfl (zbv (pv 1)) (fun s H fp cl=>⟨jp (i:=0) (show((["visit"]:List PySem.Str)++(["costs"]:List PySem.Str)).Nodup by decide) rfl (.inl rfl),zaM,jG GF hr rfl jC (zm (pv 0) (zm (JR (r:=zbh K) ZB rfl hlen zz (zm (pv 1) zK)) zK))⟩)) rfl)
   (zM (ZX (pv 0) JK rfl) (jk (ZX (pv 0) JK rfl))))),?_⟩
 obtain⟨m,dx,v,aC,G,U,dcs,rfl,hm,sG,rv,hC,h60,h2k,q⟩:=h;obtain⟨xv,qv,rvs⟩:∃ xs,SqL K G v xs/\RdVs K G xs (U.map dW):=by cases rv with|lst a b=>exact⟨_,a,b⟩
 have bm:bar H [m] m=none:=jK (by simp)
 have nCm:aC≠m:=#[96,hm,hC]
 have sL:=(Zx H [m]).x;have nx:∀ {o:HO},(∀ l,o≠.ext l)->∀ f,o≠.ext f:=fun h=>h
 refine⟨.ref aC,rfl,.ref m,rfl,m,C,dx,[],rfl,hm,cl,n1,by simp,?_⟩
 have s1:=sL.chg (o:=.ins C dx (putF "costs" (.ref aC) [])) bm hm #[95]
 have m1:upd H m (.ins C dx (putF "costs" (.ref aC) [])) m=some (.ins C dx [("costs", .ref aC)]):=zf;have c1:upd H m (.ins C dx (putF "costs" (.ref aC) [])) aC=some (.lst (dcs.map .ref)):=(zc nCm).trans hC;have f1:∀ b,upd H m (.ins C dx (putF "costs" (.ref aC) [])) b=none->H b=none:=fun b e=>by
  by_cases z:b=m
  . rw [z,zf] at e;cases e
  . rwa [zc z] at e
 generalize upd H m (.ins C dx (putF "costs" (.ref aC) []))=H1 at *;refine⟨.ref aC,rfl,aC,rfl,⟨_,SqL.of c1⟩,fun aT hT=>⟨fun i k ys σ1 H2=>i<=dcs.length/\k=dcs.length - i/\(∃ t0,σ1=[t0])/\ys=(List.replicate i (0:Int)).map .int/\H2=upd H1 aT (.lst ys),⟨_,Wbl _,rfl,⟨none,rfl⟩,rfl,rfl⟩,?_⟩⟩
 rintro i k ys σ1 H2 ⟨hi,rfl,⟨t0,rfl⟩,rfl,rfl⟩
 have nTC:aC≠aT:=#[96,hT,c1]
 have nTm:m≠aT:=#[96,hT,m1]
 have c2:∀ o,upd H1 aT o aC=some (.lst (dcs.map .ref)):=fun o=>(zc nTC).trans c1
 by_cases hlt:i<dcs.length
 . refine .inr ⟨⟨_,.ref dcs[i],SqL.of (c2 _),by rw [Ya0,YaQ hlt];rfl⟩,?_⟩
   rintro x H3 ⟨e3,_⟩
   have e3:=e3.symm;subst e3;have e:(List.replicate i (0:Int)).map V.int++[.int 0]=(List.replicate (i+1) (0:Int)).map V.int:=by rw [List.replicate_succ',Ya2];rfl
   refine⟨zf,by rw [YaR,Ybb];exact Was (show _<=60 by omega) #[1],dcs.length - (i+1),#[0],hlt,rfl,⟨_,rfl⟩,e,Zc⟩
 have e:i=dcs.length:=#[0]
 subst e;clear hi hlt;refine .inl ⟨⟨_,SqL.of (c2 _),by rw [YaR];exact YaY _⟩,?_⟩
 have hT0:=f1 _ hT;have s2:=s1.trans (zG hT (.lst ((List.replicate dcs.length (0:Int)).map .int))).x;have m2:upd H1 aT (.lst ((List.replicate dcs.length (0:Int)).map .int)) m=some (.ins C dx [("costs", .ref aC)]):=(zc nTm).trans m1;have t2:upd H1 aT (.lst ((List.replicate dcs.length (0:Int)).map .int)) aT=some (.lst ((List.replicate dcs.length (0:Int)).map .int)):=zf;have c2:=c2 (.lst ((List.replicate dcs.length (0:Int)).map .int))
 have f2:∀ b,upd H1 aT (.lst ((List.replicate dcs.length (0:Int)).map .int)) b=none->H b=none:=fun b e=>by
  by_cases z:b=aT
  . rw [z,zf] at e;cases e
  . rw [zc z] at e;exact f1 b e
 generalize upd H1 aT (.lst ((List.replicate dcs.length (0:Int)).map .int))=H2 at *;refine⟨.ref m,rfl,m,C,dx,_,rfl,m2,cl,n2,by simp,?_⟩
 have s3:=s2.chg (o:=.ins C dx [("costs", .ref aC),("turn_prices", .ref aT)]) bm m2 #[95]
 show tSeq _ _ _ _ (upd H2 m #[25])
 have m3:upd H2 m #[25] m=some #[25]:=zf;have c3:upd H2 m #[25] aC=some (.lst (dcs.map .ref)):=(zc nCm).trans c2;have t3:upd H2 m #[25] aT=some (.lst ((List.replicate dcs.length (0:Int)).map .int)):=(zc nTm.symm).trans t2
 have f3:∀ b,upd H2 m #[25] b=none->H b=none:=fun b e=>by
  by_cases z:b=m
  . rw [z,zf] at e;cases e
  . rw [zc z] at e;exact f2 b e
 generalize upd H2 m #[25]=H3 at *;refine⟨.ref v,rfl,v,rfl,⟨_,(sG.trans s3).seq qv⟩,fun aV hV=>⟨fun i k ys σ1 H4=>i<=U.length/\k=U.length - i/\(∃ t0,σ1=[t0,some (.ref aC)])/\ys=((U.take i).map (zW dcs.length)).map .int/\H4=upd H3 aV (.lst ys),⟨_,Wbl _,rfl,⟨none,rfl⟩,rfl,rfl⟩,?_⟩⟩
 rintro i k ys σ1 H4 ⟨hi,rfl,⟨t0,rfl⟩,rfl,rfl⟩
 have nVC:aC≠aV:=#[96,hV,c3]
 have nVm:m≠aV:=#[96,hV,m3]
 have nTV:aT≠aV:=#[96,hV,t3]
 have s4:∀ o,zi (bar H [m]) (upd H3 aV o):=fun o=>s3.trans (zG hV o).x
 have lx:xv.length=U.length:=by rw [rvs.length,YaR]
 by_cases hlt:i<U.length
 . obtain⟨y,hy,ry⟩:=rvs.get (i:=i) (d:=dW U[i]) (by rw [Ya0,YaQ hlt];rfl)
   obtain⟨wa,rfl⟩:∃ wa,y=.ref wa:=by
    have r2:=ry;unfold dW at r2;cases r2 with
    | tup a b=>exact⟨_,rfl⟩
   refine .inr ⟨⟨_,_,(sG.trans (s4 _)).seq qv,hy⟩,?_⟩
   rintro x H5 ⟨e3,hall⟩
   have e3:=e3.symm;subst e3;have e:=hall _ ((sG.trans (s4 _)).seq qv);rw [hy] at e;cases e;have htk:((U.take i).map (zW dcs.length)).map V.int++[.int (zW dcs.length U[i])]=((U.take (i+1)).map (zW dcs.length)).map V.int:=by rw [WaI,YaQ hlt,Ya2,Ya2];rfl
   refine⟨.ref wa,rfl,.ref aC,rfl,aC,_,rfl,.inl (SqL.of ((zc nVC).trans c3)),wa,_,G,U[i],rfl,sG.trans (s4 _),ry,?_⟩
   rw [show(dcs.map V.ref).length=dcs.length from YaR ..]
   refine⟨zf,?_,U.length - (i+1),#[0],hlt,rfl,⟨_,rfl⟩,htk,Zc⟩
   rw [YaR,YaR,WaN];exact Was (show _<=2000 by omega) #[1]
 have e:i=U.length:=#[0]
 subst e;clear hi hlt;rw [YaH];refine .inl ⟨⟨_,(sG.trans (s4 _)).seq qv,by rw [lx];exact YaY _⟩,?_⟩
 have hV0:=f3 _ hV;have s4:=s4 (.lst ((U.map (zW dcs.length)).map .int));have m4:upd H3 aV (.lst ((U.map (zW dcs.length)).map .int)) m=some #[25]:=(zc nVm).trans m3;have t4:upd H3 aV (.lst ((U.map (zW dcs.length)).map .int)) aT=some (.lst ((List.replicate dcs.length (0:Int)).map .int)):=(zc nTV).trans t3;have v4:upd H3 aV (.lst ((U.map (zW dcs.length)).map .int)) aV=some (.lst ((U.map (zW dcs.length)).map .int)):=zf
 have f4:∀ b,upd H3 aV (.lst ((U.map (zW dcs.length)).map .int)) b=none->H b=none:=fun b e=>by
  by_cases z:b=aV
  . rw [z,zf] at e;cases e
  . rw [zc z] at e;exact f3 b e
 generalize upd H3 aV (.lst ((U.map (zW dcs.length)).map .int))=H4 at *;refine⟨.ref m,rfl,m,C,dx,_,rfl,m4,cl,n3,by simp,fun aK hK=>⟨.ref m,rfl,m,C,dx,[("costs", .ref aC),("turn_prices", .ref aT),("visit_prices", .ref aV)],rfl,?_,cl,n5,by simp,fun aH hH=>⟨.ref m,rfl,m,C,dx,[("costs", .ref aC),("turn_prices", .ref aT),("visit_prices", .ref aV),("taken", .ref aK)],rfl,?_,cl,n4,by simp,?_⟩⟩⟩
 all_goals
  have nKm:aK≠m:=#[96,zf,hK]
  have hK':H4 aK=none:=by rwa [zc nKm] at hK
 . exact(zc nKm.symm).trans zf
 all_goals
  have nHm:aH≠m:=#[96,zf,hH]
  have nHK:aH≠aK:=fun z=>by rw [z,zc nKm,zf] at hH;cases hH
  have hH':H4 aH=none:=by rwa [zc nHm,zc nHK,zc nHm] at hH
 . exact(zc nHm.symm).trans zf
 have nTK:aT≠aK:=fun z=>by rw [z,hK'] at t4;cases t4
 have nTH:aT≠aH:=fun z=>by rw [z,hH'] at t4;cases t4
 have nVK:aV≠aK:=fun z=>by rw [z,hK'] at v4;cases v4
 have nVH:aV≠aH:=fun z=>by rw [z,hH'] at v4;cases v4
 have s5:=s4.chg (o:=.ins C dx (putF "visit_prices" (.ref aV) [("costs", .ref aC),("turn_prices", .ref aT)])) bm m4 #[95]
 have s6:=s5.trans (zG hK (.dK [])).x;have s7:=s6.chg (o:=.ins C dx (putF "taken" (.ref aK) [("costs", .ref aC),("turn_prices", .ref aT),("visit_prices", .ref aV)])) bm ((zc nKm.symm).trans zf) #[95]
 have s8:=s7.trans (zG hH (.dK [])).x;have s9:=s8.chg (o:=.ins C dx (putF "holders" (.ref aH) [("costs", .ref aC),("turn_prices", .ref aT),("visit_prices", .ref aV),("taken", .ref aK)])) bm ((zc nHm.symm).trans zf) #[95]
 refine q aT aV aK aH _ s9 hT0 hV0 (f4 _ hK') (f4 _ hH') nTV nHK.symm zf ?_ ?_ ?_ ?_
 . rw [zc nTm.symm,zc nTH,zc nTm.symm,zc nTK,zc nTm.symm];exact t4
 . rw [zc nVm.symm,zc nVH,zc nVm.symm,zc nVK,zc nVm.symm];exact v4
 . rw [zc nKm,zc nHK.symm,zc nKm,zf]
 . rw [zc nHm,zf]
end
def Mk0(cs:List Tb):MkD:=⟨0,0,0,0,0,0,[],cs,[],[],[],[]⟩
def zU(U:List Win)(tk:Tb)(A:Nat):List Int:=(List.range A).map fun i:Nat=>(U.getD ((getM tk (i:Int)).getD 0).toNat (0,0,0,none)).1
def z5(new row:List Int):List Int:=((new.zip row).filter fun p=>!decide (p.1=p.2)).map (·.1)
def Zb:Sp3:=fun ds Q E=>∃ (U:List Win) (ch:List #[22]) (row:List Int) (f:Int->Int),ds=[.list (U.map dW),.list (ch.map dI),dI row]/\row.length=ch.length/\ch.length<=60/\U.length<=2000/\(∀ pl∈ch,pl.Nodup/\pl.length<=2000/\∀ x∈pl,InR x U.length)/\(∀ x,InR x ch.length->f x∈ch.getD x.toNat [])/\(∀ x y,InR x ch.length->InR y ch.length->f x=f y->x=y)/\
 ∀ (tk hd:Tb) (tp vp:List Int),tp.length=ch.length->vp.length=U.length->Mend (ChM (Mk0 (csOf U row ch))) (cM (Mk0 (csOf U row ch))) (at0 (U.map (zW ch.length))) ch.length U.length ch.length (at0 tp) (at0 vp) tk hd->
  Q true (.tuple [.str "row", dI (zU U tk ch.length),.int (z5 (zU U tk ch.length) row).length,dI tp,dI vp])
section
variable{P:Program}{w:World}{K:Ybf}{mg:#[15]}{base:Heap}{C:Addr}
theorem zgR{X:Cx}{e:Expr}{f:Str}{pos:Pos}{ta:TE}(K:Ybf)(he:PE X e ta)(hb:attributeBase e f X.env (eval e X.env)=eval e X.env)(hK:X.K=K:=by rfl):PE X (.Attribute e f pos) (tFld K ta f):=hK ▸ jF he hb
theorem zgZ{X:Cx}{es:List Expr}{k:Nat}{pos:Pos}{t:TGs}(K:Ybf)(n:Nat)(hc:X.calm=true)(h:PGs X es t)(hn:(assignEach es X.env).length=n:=by rfl)(hst:(assignEach es X.env).findIdx? (·.1)=none:=by rfl)(hK:X.K=K:=by rfl):PG X (.Tuple es k pos) (gTup K n t):=hK ▸ zbH hc h hn hst
theorem zar{U:List Win}{row:List Int}{ch:List #[22]}(h:row.length=ch.length):(csOf U row ch).length=ch.length:=by unfold csOf;rw [List.length_zipWith,h,Nat.min_self]
theorem ZC{U:List Win}{row:List Int}{ch:List #[22]}(h:row.length=ch.length){i:Nat}(hi:i<ch.length):(csOf U row ch).getD i []=zT U (row.getD i 0) (ch.getD i []):=by
 unfold csOf;have hr:i<row.length:=#[0]
 rw [YaP,YaP,YaP,List.getElem?_zipWith,YaQ hr,YaQ hi];rfl
theorem zfS{U:List Win}{row:List Int}{ch:List #[22]}(h:row.length=ch.length){its:Tb}(hm:its∈csOf U row ch):∃ pl∈ch,its.map (·.1)=pl:=by
 obtain⟨i,hi,e⟩:=Yam hm;rw [zar h] at hi;have e2:(csOf U row ch).getD i []=its:=by rw [YaP,YaQ (by rw [zar h];exact hi),e];rfl
 rw [ZC h hi] at e2;refine⟨ch.getD i [],by rw [YaP,YaQ hi];exact Ya4 hi,?_⟩
 rw [<-e2];unfold zT;rw [YaD];exact List.map_id' _
theorem Mend.zero0{Ch:Int->Int->Prop}{c:Int->Int->Int}{l:List Int}{A B n:Nat}:Mend Ch c (at0 l) A B 0 (at0 (List.replicate n 0)) (at0 l) [] [] where
 mat:=fun s c=>⟨fun e=>(by cases e),fun e=>(by cases e)⟩
 ot:=TbOk.nil _ _
 oh:=TbOk.nil _ _
 dom:=fun x=>⟨fun e=>(by cases e),fun e=>#[0]⟩
 ed:=fun x v e=>by cases e
 low:=fun x v h1 h2=>by omega
 free:=fun _ _=>rfl
 zero:=fun x _=>by
  unfold at0
  split
  . rw [YaP,Yad];split<;>rfl
  . rfl
 top:=fun _=>Wbm _
theorem zb2{K:Ybf}{H0 G:Hp}:∀ {l:List Int},RdNs K H0 G (l.map .int) (l.map .int)
 | []=>.nil
 | n::l=>.cons (.int n) zb2
theorem ziK{tb fi:Addr}{fdi:FuncData}(cl:Cls K C)(n2:zQ K C "turn_prices")(n3:zQ K C "visit_prices")(n5:zQ K C "taken")(hlen:mg "len" = none)(hrg:mg "range" = none)(hz:mg "zip" = none)(hC:mg "Market" = some (.ref C))(MK:Mk K C fi)(FI:FnOk P w K mg base (CXR P w) 2 fi fdi ["self", "visits", "costs"] (zeC K C))(BI:Binds K fdi ["self", "visits", "costs"] [])
 (GC:Df P w K mg base 1 "costs_of_turns" ["visits", "choices", "row"] (zde K)) (GS:Df P w K mg base 5 "serve" ["market", "start"] (zc7 C tb))
 {f:Addr} {fd:FuncData} (F:Fun K "mend_visits" "mend_visits" ZZ f fd):FnOk P w K mg base (CXR P w) 6 f fd ["visits", "choices", "row"] (spU tb K Zb):=by
 have S:FnScope ["visits", "choices", "row", "market", "turn", "new", "changes"] ["visits", "choices", "row"] (zh ZZ):=#[10]
 refine F.okR S (fun vs H Q E h=>?_) (fun cdv A outer s H vs Q E hr h=>?_)
 . obtain⟨_,_,_,_,r,_,_,_,_,rfl,_⟩:=h;exact r.length
 have hu:=z9 hr;refine⟨_,zM (jh (i:=3) S.nd rfl (.inr rfl) (zl5 MK FI #[7] rfl hC BI .nil jC (zm (pv 0) (zm (jG GC #[7] rfl jC (zm (pv 0) (zm (pv 1) (zm (pv 2) zK)))) zK))))
  (zM (Zd WaH rfl (zc9 rfl hrg (zm (JR (r:=zbh K) ZB rfl hlen zz (zm (pv 2) zK)) zK)) (jp (i:=4) S.nd rfl (.inl rfl)) (jk (jZ (jG GS #[7] rfl jC (zm (pv 3) (zm (pv 4) zK))))))
  (zM (by exact zbX (i:=5) S.nd rfl (.inl rfl) ["turn"] ["visits", "market"] [0,3] rfl (zY (osc:=zh ZZ) #[3]) rfl (zc9 rfl hrg (zm (JR (r:=zbh K) ZB rfl hlen zz (zm (pv 2) zK)) zK)) (fun s H fp cl=>⟨jp (i:=0) (show((["turn"]:List PySem.Str)++(["visits", "market"]:List PySem.Str)).Nodup by decide) rfl (.inl rfl),zaM,jM (r:=rIxT K) zbW (jM (r:=rIxL K) j8 (pv 1) (j5 hu (zgR K (pv 2) rfl) (pv 0) #[4]) #[4]) jR #[4]⟩))
  (zM (jh (i:=6) S.nd rfl (.inl rfl) (JR (r:=zbh K) ZB rfl hlen zz (zm (by exact Z0 ["clan", "former"] [] [] rfl (zY (osc:=zh ZZ) #[3]) rfl (zcD rfl hz (zm (pv 5) (zm (pv 2) zK))) (fun s H fp cl=>⟨zgZ K 2 rfl (JH (jp (i:=0) (show((["clan", "former"]:List PySem.Str)++([]:List PySem.Str)).Nodup by decide) rfl (.inl rfl)) (JH (jp (i:=1) (show((["clan", "former"]:List PySem.Str)++([]:List PySem.Str)).Nodup by decide) rfl (.inl rfl)) zb1)),zdo (zbG zeq (pv 0) (pv 1) (nomark _)),pv 0⟩)) zK)))
   (jk (JO (zbq (zm zeQ (zm (pv 5) (zm (pv 6) (zm (jF (pv 3) rfl) (zm (jF (pv 3) rfl) zK))))))))))),?_⟩
 obtain⟨tu,G,ds,sG,rds,U,ch,row,g,rfl,hl,h60,h2k,hpl,hg,ginj,q⟩:=h;obtain⟨v,c,r,rfl,rv,rc,rr⟩:∃ v c r,vs=[.ref v,.ref c,.ref r]/\RdV K G (.ref v) (.list (U.map dW))/\RdV K G (.ref c) (.list (ch.map dI))/\RdV K G (.ref r) (dI row):=by
  cases rds with
  | cons a rds=>
   cases rds with
   | cons b rds=>
    cases rds with
    | cons d rds=>
     cases rds;have a2:=a
     have b2:=b;have d2:=d;unfold dI at d2;cases a2 with
     | lst _ _=>
      cases b2 with
      | lst _ _=>
       cases d2 with
       | lst _ _=>exact⟨_,_,_,rfl,a,b,d⟩
 obtain⟨xv,qv,rvs⟩:∃ xs,SqL K G v xs/\RdVs K G xs (U.map dW):=by cases rv with|lst a b=>exact⟨_,a,b⟩
 obtain⟨xr,qr,rrs⟩:∃ xs,SqL K G r xs/\RdVs K G xs (row.map .int):=by cases rr with|lst a b=>exact⟨_,a,b⟩
 have rrs:=zbk rrs;subst rrs;refine⟨.ref v,rfl,.ref v,rfl,.ref c,rfl,.ref r,rfl,v,c,r,G,U,ch,row,rfl,sG,rv,rc,rr,hl,h60,hpl,fun aC dcs H1 s1 hC0 hC1 hdl hdc m dx hm0 hdx0 ndx=>?_⟩
 have g1:=sG.trans s1;have up:∀ b o,H1 b=some o->bar (upd (upd H1 dx (.own m)) m (.ins C dx [])) [m] b=some o:=fun b o e=>by
  have nm:b≠m:=#[96,hm0,e]
  rw [zX (by simp [nm]),zc nm,zc #[96,hdx0,e]];exact e
 have nCm:aC≠m:=#[96,hm0,hC1]
 have nCd:aC≠dx:=#[96,hdx0,hC1]
 have C1:upd (upd H1 dx (.own m)) m (.ins C dx []) aC=some (.lst (dcs.map .ref)):=by rw [zc nCm,zc nCd];exact hC1
 have fr1:∀ b,upd (upd H1 dx (.own m)) m (.ins C dx []) b=none->H1 b=none:=fun b e=>by
  by_cases z:b=m
  . rw [z];exact hm0
  . rw [zc z] at e
    by_cases y:b=dx
    . rw [y];exact hdx0
    . rwa [zc y] at e
 refine⟨m,dx,v,aC,G,U,dcs,rfl,zf,⟨fun b o e=>up b o (g1.s b o e),g1.cl⟩,rv,C1,#[0],h2k,fun aT aV aK aH H2 s2 hT0 hV0 hK0 hH0 nTV nKH m2 t2 v2 k2 h2=>⟨rfl,?_⟩⟩
 have s12:zi H1 H2:=(show Same H1 _ from up).x.trans s2
 have own2:H2 dx=some (.own m):=s2.at ((zX (by simp [ndx])).trans ((zc ndx).trans zf))
 have hT:H aT=none:=s1.free (fr1 _ hT0);have hV:H aV=none:=s1.free (fr1 _ hV0);have hK:H aK=none:=s1.free (fr1 _ hK0);have hH:H aH=none:=s1.free (fr1 _ hH0);have nCT:aC≠aT:=#[96,hT0,C1]
 have nCV:aC≠aV:=#[96,hV0,C1]
 have C2:H2 aC=some (.lst (dcs.map .ref)):=s12.at hC1;have s02:=s1.trans s12;rw [hdl] at t2 v2;have mk2:Mkt C H2 m ⟨dx,aC,aT,aV,aK,aH,dcs,csOf U row ch,List.replicate ch.length 0,U.map (zW ch.length),[],[]⟩:=⟨m2,own2,C2,by rw [zar hl];exact hdl,fun i d e=>let ⟨o,ho⟩:=hdc i d e;⟨o,s12.at ho⟩,t2,v2,k2,h2⟩
 have clen:=zar (U:=U) hl;have hCh:∀ x,InR x ch.length->ChM (Mk0 (csOf U row ch)) x (g x):=fun x hx=>by
  obtain⟨x0,x1⟩:=hx;refine⟨by show InR x (csOf U row ch).length;rw [clen];exact⟨x0,x1⟩,?_⟩
  show(getM ((csOf U row ch).getD x.toNat []) (g x)).isSome=true
  rw [ZC hl #[0]]
  obtain⟨y,e⟩:=zaj (t:=zT U (row.getD x.toNat 0) (ch.getD x.toNat [])) (k:=g x) (by
   unfold zT;rw [YaD];exact Ya7.mpr ⟨g x,hg x ⟨x0,x1⟩,rfl⟩)
  rw [e];rfl
 have hjn:(((row.map V.int).length:Nat):Int).toNat=ch.length:=by rw [Int.toNat_natCast,YaR,hl]
 have hj1:-(2 ^ 62)<=(((row.map V.int).length:Nat):Int):=#[0]
 have hj2:(((row.map V.int).length:Nat):Int)<2 ^ 62:=by rw [YaR,hl];omega
 refine⟨.ref r,rfl,r,_,rfl,.inl ((sG.trans s02).seq qr),_,rfl,hj1,hj2,?_⟩
 rw [hjn];refine⟨fun i k σ' H'=>i<=ch.length/\k=ch.length - i/\(∃ t4,σ'=[some (.ref v),some (.ref c),some (.ref r),some (.ref m),t4,none,none])/\zi H H'/\∃ (tp vp:List Int) (tk hd:Tb),tp.length=ch.length/\vp.length=U.length/\Mkt C H' m ⟨dx,aC,aT,aV,aK,aH,dcs,csOf U row ch,tp,vp,tk,hd⟩/\Mend (ChM (Mk0 (csOf U row ch))) (cM (Mk0 (csOf U row ch))) (at0 (U.map (zW ch.length))) ch.length U.length i (at0 tp) (at0 vp) tk hd,
  ⟨_,Wbl _,rfl,⟨none,rfl⟩,s02,_,_,_,_,Ybb,YaR ..,mk2,Mend.zero0⟩,?_⟩
 rintro i k σ' H3 ⟨hi,rfl,⟨t4,rfl⟩,s3,tp,vp,tk,hd,l1,l2,mk3,me3⟩
 by_cases hlt:i<ch.length
 . refine .inr ⟨hlt,fun σ' H'=>(∃ t4,σ'=[some (.ref v),some (.ref c),some (.ref r),some (.ref m),t4,none,none])/\zi H H'/\∃ (tp vp:List Int) (tk hd:Tb),tp.length=ch.length/\vp.length=U.length/\Mkt C H' m ⟨dx,aC,aT,aV,aK,aH,dcs,csOf U row ch,tp,vp,tk,hd⟩/\Mend (ChM (Mk0 (csOf U row ch))) (cM (Mk0 (csOf U row ch))) (at0 (U.map (zW ch.length))) ch.length U.length (i+1) (at0 tp) (at0 vp) tk hd,fun σ2 H2 z=>⟨ch.length - (i+1),#[0],hlt,rfl,z⟩,?_⟩
   rintro x H4 ⟨e4,ex⟩
   rw [Wbh] at ex;have e4:=e4.symm;subst ex e4;refine⟨.ref m,rfl,.int i,rfl,m,i,ch.length,U.length,⟨dx,aC,aT,aV,aK,aH,dcs,csOf U row ch,tp,vp,tk,hd⟩,_,g,rfl,tu.same s3,mk3,⟨nCT,nCV,nTV,nKH⟩,⟨clen,l1,l2,fun its h=>?_,fun its h p hp=>?_,h60,h2k⟩,hlt,me3,hCh,ginj,fun tp' vp' tk' hd' H5 a1 a2 a3 a4 a5=>⟨⟨_,rfl⟩,zi.via s3 (fun a ha=>?_) (fun a ha=>?_) a4,tp',vp',tk',hd',a1,a2,a5,a3⟩⟩
   . obtain⟨pl,h1,h2⟩:=zfS hl h
     rw [h2];exact(hpl pl h1).1
   . obtain⟨pl,h1,h2⟩:=zfS hl h
     exact(hpl pl h1).2.2 _ (by rw [<-h2];exact Ya7.mpr ⟨p,hp,rfl⟩)
   . simp only [Wa4,WaS,or_false] at ha
     rcases ha with rfl|rfl|rfl|rfl
     . exact hT
     . exact hV
     . exact hK
     . exact hH
   . simp only [Wa4,WaS,or_false] at ha
     rcases ha with rfl|rfl|rfl|rfl
     . exact⟨_,mk3.lt,#[95]⟩
     . exact⟨_,mk3.lv,#[95]⟩
     . exact⟨_,mk3.dk,#[95]⟩
     . exact⟨_,mk3.dh,#[95]⟩
 have e:i=ch.length:=#[0]
 subst e;clear hi hlt;refine .inl ⟨YaY _,.ref r,rfl,r,_,rfl,.inl ((sG.trans s3).seq qr),_,rfl,hj1,hj2,fun D hD=>?_⟩
 rw [hjn];have hD0:=s3.free hD;have s4:∀ o,zi H (upd H3 D o):=fun o=>s3.trans (zG hD o).x
 have u4:∀ {b:Addr} {o o':HO},H3 b=some o'->upd H3 D o b=some o':=fun {b o o'} e=>(zc #[96,hD,e]).trans e
 refine⟨fun i k ys σ1 H4=>i<=ch.length/\k=ch.length - i/\(∃ t0,σ1=[t0,some (.ref v),some (.ref m)])/\ys=(zU U tk i).map .int/\H4=upd H3 D (.lst ys),⟨_,Wbl _,rfl,⟨none,rfl⟩,rfl,rfl⟩,?_⟩
 rintro i k ys σ1 H4 ⟨hi,rfl,⟨t0,rfl⟩,rfl,rfl⟩
 have nlen:∀ i,(zU U tk i).length=i:=fun i=>by unfold zU;rw [YaR,YaG]
 by_cases hlt:i<ch.length
 . refine .inr ⟨hlt,?_⟩
   rintro x H5 ⟨e5,ex⟩
   rw [Wbh] at ex;have e5:=e5.symm;subst ex e5;obtain⟨kx,hkx⟩:=Wah.mp ((me3.dom i).mpr ⟨#[0],#[0]⟩)
   obtain⟨k0,k1⟩:=(me3.ot.get hkx).2;have hcd:(U.map dW)[kx.toNat]?=some (dW (U.getD kx.toNat (0,0,0,none))):=by rw [Ya0,YaP,YaQ (show kx.toNat<U.length by omega)];rfl
   have hnx:zU U tk (i+1)=zU U tk i++[(U.getD kx.toNat (0,0,0,none)).1]:=by
    unfold zU;rw [List.range_succ,Ya2,List.map_singleton,hkx];rfl
   generalize U.getD kx.toNat (0,0,0,none)=wn at *;obtain⟨wv,hwv,rw'⟩:=rvs.get hcd;obtain⟨wa,ws,rfl,qw,rws⟩:∃ wa ws,wv=.ref wa/\SqT K G wa ws/\RdVs K G ws [.int wn.1,.int wn.2.1,.int wn.2.2.1,dO wn.2.2.2]:=by
    unfold dW at rw';cases rw' with
    | tup a b=>exact⟨_,_,rfl,a,b⟩
   obtain⟨ws',rfl⟩:∃ ws',ws=.int wn.1::ws':=by
    cases rws with
    | cons a b=>cases a;exact⟨_,rfl⟩
   have hat:atI xv kx=some (.ref wa):=by
    have:=z8 (xs:=xv) (j:=kx.toNat) (v:=.ref wa) hwv;rwa [show((kx.toNat:Nat):Int)=kx from War k0] at this
   refine⟨.ref v,rfl,.ref m,rfl,m,C,dx,_,.ref aK,rfl,u4 mk3.ins,cl,n5,rfl,.int i,rfl,aK,.int kx,rfl,?_,v,xv,kx,.ref wa,rfl,rfl,(sG.trans (s4 _)).seq qv,hat,wa,_,0,.int wn.1,rfl,rfl,(sG.trans (s4 _)).tup qw,z8 (j:=0) rfl,zf,?_,ch.length - (i+1),#[0],hlt,rfl,⟨_,rfl⟩,by rw [hnx,Ya2];rfl,Zc⟩
   . have:=DGet.k (k:=Sum.inl (i:Int)) (u4 (o:=.lst ((zU U tk i).map .int)) mk3.dk)
     rwa [jt,show getM _ (i:Int)=some kx from hkx] at this
   . rw [YaR,nlen]
     exact Was (show _<=60 by omega) #[1]
 have e:i=ch.length:=#[0]
 subst e;clear hi hlt;refine .inl ⟨YaY _,?_⟩;have nl:=nlen ch.length;have s4:=s4 (.lst ((zU U tk ch.length).map .int));have D4:upd H3 D (.lst ((zU U tk ch.length).map .int)) D=some (.lst ((zU U tk ch.length).map .int)):=zf;have m4:=u4 (o:=.lst ((zU U tk ch.length).map .int)) mk3.ins;have t4':=u4 (o:=.lst ((zU U tk ch.length).map .int)) mk3.lt;have v4':=u4 (o:=.lst ((zU U tk ch.length).map .int)) mk3.lv
 generalize upd H3 D (.lst ((zU U tk ch.length).map .int))=H4 at *;generalize hnew:zU U tk ch.length=new at *;refine⟨.ref D,rfl,.ref r,rfl,D,r,rfl,⟨_,SqL.of D4⟩,⟨_,(sG.trans s4).seq qr⟩,fun D2 hD2=>?_⟩
 have nDD:D≠D2:=#[96,hD2,D4]
 refine⟨fun i k ys σ1 H5=>i<=ch.length/\k=ch.length - i/\(∃ t0 t1,σ1=[t0,t1])/\ys=(z5 (new.take i) (row.take i)).map .int/\H5 D2=some (.lst ys)/\zi H4 H5,⟨_,Wbl _,rfl,⟨none,none,rfl⟩,rfl,zf,(zG hD2 _).x⟩,?_⟩
 rintro i k ys σ1 H5 ⟨hi,rfl,⟨t0,t1,rfl⟩,rfl,hD5,s5⟩
 have q1:SqL K H5 D (new.map .int):=SqL.of (s5.at D4);have q2:SqL K H5 r (row.map .int):=(sG.trans (s4.trans s5)).seq qr
 by_cases hlt:i<ch.length
 . have h1:(new.map V.int)[i]?=some (.int new[i]):=by rw [Ya0,YaQ #[0]];rfl
   have h2:(row.map V.int)[i]?=some (.int row[i]):=by rw [Ya0,YaQ #[0]];rfl
   have hch:z5 (new.take (i+1)) (row.take (i+1))=z5 (new.take i) (row.take i)++if new[i]=row[i] then [] else [new[i]]:=by
    unfold z5;rw [WaI,WaI,YaQ (show i<new.length by omega),YaQ (show i<row.length by omega)]
    rw [show(some new[i]).toList=[new[i]] from rfl,show(some row[i]).toList=[row[i]] from rfl,List.zip_append (by rw [WaN,WaN];omega),List.filter_append,Ya2]
    by_cases e:new[i]=row[i]
    . rw [if_pos e];simp [e]
    . rw [if_neg e];simp [e]
   have hcl:(z5 (new.take i) (row.take i)).length<sizeLine:=by
    unfold z5;rw [YaR];refine Was (Ya5 (List.length_filter_le _ _) ?_) (show 60<sizeLine by decide)
    rw [List.length_zip,WaN,WaN];omega
   generalize new[i]=a at *;generalize row[i]=b at *;refine .inr ⟨⟨_,_,_,_,q1,q2,h1,h2⟩,?_⟩
   rintro x H6 ⟨p,x',y',hp,rfl,rfl,hall⟩
   obtain⟨e1,e2⟩:=hall _ _ q1 q2;rw [h1] at e1;rw [h2] at e2;cases e1;cases e2;have s6:=s5.trans (zG hp (.tup [.int a,.int b])).x;have D6:upd H5 p (.tup [.int a,.int b]) D2=some (.lst ((z5 (new.take i) (row.take i)).map .int)):=(zc #[96,hp,hD5]).trans hD5
   refine⟨p,[.int a,.int b],rfl,SqT.of zf,rfl,_,_,rfl,_,_,rfl,rfl,.int a,rfl,.int b,rfl,rfl,_,rfl,?_⟩
   show if(!decide (V.int a=V.int b))=true then _ else _
   by_cases e:a=b
   . rw [if_pos e,Yao] at hch
     rw [if_neg (by rw [e,decide_eq_true rfl];decide)]
     exact⟨ch.length - (i+1),#[0],hlt,rfl,⟨_,_,rfl⟩,by rw [hch],D6,s6⟩
   . rw [if_neg e] at hch
     rw [if_pos (by rw [decide_eq_false (fun z=>e (by cases z;rfl))];rfl)]
     exact⟨.int a,rfl,D6,by rw [YaR];exact hcl,ch.length - (i+1),#[0],hlt,rfl,⟨_,_,rfl⟩,by rw [hch,Ya2];rfl,zf,s6.chg hD2 D6 #[95]⟩
 have e:i=ch.length:=#[0]
 subst e;clear hi hlt;rw [show new.take ch.length=new by rw [<-nl];exact YaH,show row.take ch.length=row by rw [<-hl];exact YaH] at hD5
 rw [show new.take ch.length=new by rw [<-nl];exact YaH,show row.take ch.length=row by rw [<-hl];exact YaH]
 refine .inl ⟨⟨_,_,q1,q2,by rw [YaR,YaR,nl,hl,Nat.min_self]⟩,D2,_,rfl,.inl (SqL.of hD5),?_⟩
 rw [YaR];have s05:=s4.trans s5;refine⟨.ref D,rfl,.int _,rfl,.ref m,rfl,m,C,dx,_,.ref aT,rfl,s5.at m4,cl,n2,rfl,.ref m,rfl,m,C,dx,_,.ref aV,rfl,s5.at m4,cl,n3,rfl,by show 5<=sizeLine;decide,fun p hp=>?_⟩
 have hp0:=s05.free hp;have s6:=s05.trans (zG hp (.tup [.str "row", .ref D,.int ((z5 new row).length:Nat),.ref aT,.ref aV])).x;have u6:∀ {b:Addr} {o o':HO},H5 b=some o'->upd H5 p o b=some o':=fun {b o o'} e=>(zc #[96,hp,e]).trans e
 have D6:=u6 (o:=.tup [.str "row", .ref D,.int ((z5 new row).length:Nat),.ref aT,.ref aV]) (s5.at D4);have T6:=u6 (o:=.tup [.str "row", .ref D,.int ((z5 new row).length:Nat),.ref aT,.ref aV]) (s5.at t4');have V6:=u6 (o:=.tup [.str "row", .ref D,.int ((z5 new row).length:Nat),.ref aT,.ref aV]) (s5.at v4');have P6:upd H5 p (.tup [.str "row", .ref D,.int ((z5 new row).length:Nat),.ref aT,.ref aV]) p=some (.tup [.str "row", .ref D,.int ((z5 new row).length:Nat),.ref aT,.ref aV]):=zf
 show Q (.ref p) (upd H5 p (.tup [.str "row", .ref D,.int ((z5 new row).length:Nat),.ref aT,.ref aV]))
 generalize upd H5 p (.tup [.str "row", .ref D,.int ((z5 new row).length:Nat),.ref aT,.ref aV])=H6 at *;have g6:=sG.trans s6;have hin:∀ b∈[D,aT,aV,p],H b=none:=fun b hb=>by
  simp only [Wa4,WaS,or_false] at hb
  rcases hb with rfl|rfl|rfl|rfl
  . exact hD0
  . exact hT
  . exact hV
  . exact hp0
 refine q tk hd tp vp l1 l2 me3 (.ref p) (fun b=>if b∈[D,aT,aV,p] then H6 b else G b) H6 ⟨fun b o e=>?_,s6,⟨fun b o e=>?_,fun b x e=>?_⟩,fun b o e=>?_⟩ ?_
 . show(if b∈[D,aT,aV,p] then H6 b else G b)=some o
   rw [if_neg fun z=>by have:=hin b z;rw [sG.s b o e] at this;cases this];exact e
 . have e:(if b∈[D,aT,aV,p] then H6 b else G b)=some o:=e
   split at e
   . exact e
   . exact g6.s b o e
 . have e2:(if b∈[D,aT,aV,p] then H6 b else G b)=some (.ext x):=e
   clear e
   by_cases hb:b∈[D,aT,aV,p]
   . rw [if_pos hb] at e2
     simp only [Wa4,WaS,or_false] at hb
     rcases hb with rfl|rfl|rfl|rfl
     . rw [D6] at e2;cases e2
     . rw [T6] at e2;cases e2
     . rw [V6] at e2;cases e2
     . rw [P6] at e2;cases e2
   . rw [if_neg hb] at e2
     exact sG.cl b x e2
 . have e:(if b∈[D,aT,aV,p] then H6 b else G b)=some o:=e
   split at e
   . rename_i hb;exact .inr (.inl (hin b hb))
   . exact .inl e
 . have ap:∀ {b:Addr} {o:HO},b∈[D,aT,aV,p]->H6 b=some o->(if b∈[D,aT,aV,p] then H6 b else G b)=some o:=fun hb e=>by rw [if_pos hb];exact e
   have nw:RdN K H (fun b=>if b∈[D,aT,aV,p] then H6 b else G b) (.ref p) (.tuple [.str "row", dI new,.int (z5 new row).length,dI tp,dI vp]):=.tup (ap (by simp) P6) (.cons (.str _) (.cons (.lst (ap (by simp) D6) hD0 zb2) (.cons (.int _) (.cons (.lst (ap (by simp) T6) hT zb2) (.cons (.lst (ap (by simp) V6) hV zb2) .nil)))))
   rw [hnew];exact⟨zcZ nw,fun _=>nw⟩
end
end
def zgm(U:List Win)(ch:List #[22])(row:List Int)(d:D):Prop:=
 (∃ (s:Str) (x:D),(s = "visits"\/s = "turns")/\d=.tuple [.str s,x])\/
 ∃ (f:Nat->Nat) (tk hd:Tb) (tp vp:List Int),(∀ k,k<ch.length->f k<U.length/\((f k:Nat):Int)∈ch.getD k [])/\(∀ i j,i<ch.length->j<ch.length->f i=f j->i=j)/\(∀ i,i<U.length->(U.getD i z4).2.2.2≠none->∃ k,k<ch.length/\f k=i)/\tp.length=ch.length/\vp.length=U.length/\
  Mend (ChM (Mk0 (csOf U row ch))) (cM (Mk0 (csOf U row ch))) (at0 (U.map (zW ch.length))) ch.length U.length ch.length (at0 tp) (at0 vp) tk hd/\
  d=.tuple [.str "row", dI (zU U tk ch.length),.int (z5 (zU U tk ch.length) row).length,dI tp,dI vp]
def lE(b:Int)(rows:List #[22])(row:List Int)(cc:Int)(own:Bool)(n:Nat)(hd:List Int)(ps:List Addr)(g:Nat->Int×Int)(r:Env3):Env3:=[#[5,b],some (.sh false (.list (rows.map dI))),some (.sh false (.list (row.map PyData.int))),#[5,cc],some (.sh true (.bool own)),#[5,n],some (.ow true (hd.map PyData.int)),some (.tr ps ((List.range n).map fun k=>pr2 (g k)))]++r
def j7(B:Int)(path:List Int)(above:Rat2)(j:Int)(t:Nat):Bool:=decide ((j*B - path.getD t 0)*above.2<=above.1*B)
def jn(B:Int)(path:List Int)(below:Rat2)(j:Int)(t:Nat):Bool:=decide ((path.getD t 0 - j*B+B)*below.2 > below.1*B)
def winL(B:Int)(path:List Int)(p:Rat2×Rat2)(j:Int):Int×Option Int:=winP path.length (j7 B path p.2 j) (jn B path p.1 j)
theorem zkK{b x j:Int}{r:Rat2}(hr:0<r.2):j*b - zF b r<=x↔(j*b - x)*r.2<=r.1*b:=by
 unfold zF
 constructor
 . intro h
   exact(Int.le_ediv_iff_mul_le hr).mp #[0]
 . intro h
   have:=(Int.le_ediv_iff_mul_le hr).mpr h
   omega
theorem zg8{b x j:Int}{r:Rat2}(hr:0<r.2):(j - 1)*b+zF b r+1<=x↔(x - j*b+b)*r.2 > r.1*b:=by
 unfold zF;have e:(j - 1)*b=j*b - b:=by rw [Wbn,Int.one_mul]
 rw [e]
 constructor
 . intro h
   exact(Int.ediv_lt_iff_lt_mul hr).mp #[0]
 . intro h
   have:=(Int.ediv_lt_iff_lt_mul hr).mpr h
   omega
theorem cross{b c x y:Int}(hb:0<b)(hc:0<c)(e:x*c=y*b)(j u v:Int):((j*b - x)*u<=v*b↔(j*c - y)*u<=v*c)/\((x - j*b+b)*u > v*b↔(y - j*c+c)*u > v*c):=by
 have e1:(j*b - x)*u*c=(j*c - y)*u*b:=by
  rw [Wbn,Wbn,Wbn,Wbn];have:x*u*c=y*u*b:=by rw [Int.mul_right_comm,e,Int.mul_right_comm]
  rw [this]
  congr 1
  ac_rfl
 have e2:(x - j*b+b)*u*c=(y - j*c+c)*u*b:=by
  have h1:(x - j*b+b)*u*c=b*u*c - (j*b - x)*u*c:=by
   rw [<-Wbn,<-Wbn];congr 2;omega
  have h2:(y - j*c+c)*u*b=c*u*b - (j*c - y)*u*b:=by
   rw [<-Wbn,<-Wbn];congr 2;omega
  rw [h1,h2,e1]
  congr 1
  ac_rfl
 have e3:v*b*c=v*c*b:=by ac_rfl
 constructor
 . constructor
   . intro h
     have:=Ybe h (show 0<=c by omega)
     rw [e1,e3] at this;exact YaF this hb
   . intro h
     have:=Ybe h (show 0<=b by omega)
     rw [<-e1,<-e3] at this;exact YaF this hc
 . constructor
   . intro h
     have:=Int.mul_lt_mul_of_pos_right h hc;rw [e2,e3] at this;exact Int.lt_of_mul_lt_mul_right this #[0]
   . intro h
     have:=Int.mul_lt_mul_of_pos_right h hb;rw [<-e2,<-e3] at this;exact Int.lt_of_mul_lt_mul_right this #[0]
theorem zd0{b c:Int}{q q':List #[22]}(e:q.map (List.map (· * c))=q'.map (List.map (· * b)))(k t:Nat):(zg q k).getD t 0*c=(zg q' k).getD t 0*b:=by
 have h:=congrArg (fun z=>((z.getD t []).getD k 0)) e
 unfold zg;simp only [YaP,Ya0] at h ⊢;cases h1:q[t]? <;> cases h2:q'[t]? <;> simp [h1,h2] at h ⊢
 . rename_i r
   cases h3:r[k]? <;> simp [h3] at h ⊢
   exact h
 . rename_i r
   cases h3:r[k]? <;> simp [h3] at h ⊢
   exact h
 . rename_i r r'
   cases h3:r[k]? <;> cases h4:r'[k]? <;> simp [h3,h4] at h ⊢ <;> exact h
theorem zkr{b c:Int}{q q':List #[22]}(hb:0<b)(hc:0<c)(e:q.map (List.map (· * c))=q'.map (List.map (· * b)))(hl:q.length=q'.length)(h1:1<=q.length){p:Rat2×Rat2}(hp:okQ p.1/\okQ p.2)(k:Nat)(j:Int):winB b (zg q k) (zF b p.1,zF b p.2) j=winL c (zg q' k) p j:=by
 have l1:(zg q k).length=q.length:=by unfold zg;rw [YaR]
 have l2:(zg q' k).length=q.length:=by unfold zg;rw [YaR,hl]
 unfold winB winL winP;rw [l1,l2];have f1:zu q.length (fun t=>decide (j*b - (zF b p.1,zF b p.2).2<=(zg q k).getD t 0))=zu q.length (j7 c (zg q' k) p.2 j):=zf2 h1 fun t _ _=>by
  unfold j7;rw [decide_eq_decide];exact(zkK hp.2.1).trans (cross hb hc (zd0 e k t) j _ _).1
 have f2:zu q.length (fun t=>decide ((j - 1)*b+(zF b p.1,zF b p.2).1+1<=(zg q k).getD t 0))=zu q.length (jn c (zg q' k) p.1 j):=zf2 h1 fun t _ _=>by
  unfold jn;rw [decide_eq_decide];exact(zg8 hp.1.1).trans (cross hb hc (zd0 e k t) j _ _).2
 rw [f1,f2]
theorem zg4(l:List Spell)(b:Int)(k:Nat):(zg (quoB b l) k).getD 0 0=0:=by
 obtain⟨r,hr⟩:=zkF b l;unfold zg;rw [hr];unfold zeros;simp only [Ya1,List.getD_cons_zero,YaP,Yad]
 split<;>rfl
theorem zkC{l:List Spell}(hok:okS l){bs:List (Rat2×Rat2)}(hB:okB (many l) bs)(ho:∀ p∈bs,okQ p.1/\okQ p.2){W:List (List Win)}(h:IsWs l bs W):∀ ws∈W,(ws.length:Int)<=tot l+11:=by
 have hql:=zab hok;have htn:=jV fun s hs=>(hok.2.1 s hs).1
 have hbp:=zbn hok;have hm:=JS hok;intro ws hws;obtain⟨k,hk,e⟩:=Yam hws;have hk':k<many l:=by rw [<-h.1];exact hk
 have hIs:=h.2 k hk';have e2:W.getD k []=ws:=by rw [YaP,YaQ hk];exact e
 rw [e2] at hIs;have hkb:k<bs.length:=by rw [hB.1];exact hk'
 have er:(jm (bot l) bs).getD k (0,0)=(zF (bot l) bs[k].1,zF (bot l) bs[k].2):=by
  rw [YaP];unfold jm;rw [Ya0,YaQ hkb];rfl
 have z:=hB.2 bs[k] (Ya4 hkb);have y:=ho bs[k] (Ya4 hkb);have r1:0<=zF (bot l) bs[k].1:=WaY (YaK z.1.1 #[0]) (by have:=y.1.1;omega)
 have r2:0<=zF (bot l) bs[k].2:=WaY (YaK z.2.1 #[0]) (by have:=y.2.1;omega)
 have r3:zF (bot l) bs[k].2<=10*bot l:=by
  refine Wap y.2.1 ?_
  have h1:bs[k].2.1*bot l<=10*bs[k].2.2*bot l:=Ybe z.2.2 #[0]
  have e1:10*bs[k].2.2*bot l=10*bot l*bs[k].2.2:=by ac_rfl
  omega
 have htb:0<=tot l*bot l:=YaK htn #[0]
 have eM:(tot l+10)*bot l=tot l*bot l+10*bot l:=Int.add_mul ..;have hp:∀ t,(zg (quo l) k).getD t 0+zF (bot l) bs[k].2<=(tot l+10)*bot l:=fun t=>by
  have:(zg (quo l) k).getD t 0<=tot l*bot l:=by
   rw [YaP];cases ht:(zg (quo l) k)[t]? with
   | none=>show(0:Int)<=_;omega
   | some x=>
    show x<=_
    unfold zg at ht;rw [Ya0] at ht;obtain⟨r,hr,rfl⟩:=YaJ.mp ht;rw [YaP];cases hx:r[k]? with
    | none=>show(0:Int)<=_;omega
    | some x=>
     have h1:=zbD hok hbp r (Yah hr) x (Yah hx);show x<=_
     omega
  omega
 have hpl:(zg (quo l) k).length=(quo l).length:=by unfold zg;rw [YaR]
 rw [er] at hIs;have:=IsW.len (M:=tot l+10+1) (fun i hi=>zdf (room:=(zF (bot l) bs[k].1,zF (bot l) bs[k].2)) hbp (by rw [hpl];omega) hp r2 r1 i (by rw [hpl];exact hi)) hIs #[0]
 omega
def wE(B:Int)(qs:List #[22])(bs:List (Rat2×Rat2))(T':Nat)(m:List D)(r:Env3):Env3:=#[5,B]::some (.sh false (.list (qs.map dI)))::some (.sh false (.list (bs.map dP)))::#[5,T']::some (.ow true m)::r
def wF(B:Int)(qs:List #[22])(bs:List (Rat2×Rat2))(T':Nat)(m:List D)(k:Nat)(p:Rat2×Rat2)(j:Int)(r:Env3):Env3:=wE B qs bs T' m (#[5,(k:Int)]::some (.sh false (dQ p.1))::some (.sh false (dQ p.2))::#[5,j]::r)
theorem ze2{n:Nat}(hn:1<=n){p:Nat->Bool}:zu n p<n↔∃ t,1<=t/\t<n/\p t=true:=by
 obtain⟨a1,a2,a3,a4⟩:=Jh hn p;refine⟨fun h=>⟨_,a1,h,a4 h⟩,fun⟨t,t1,t2,t3⟩=>?_⟩
 rcases Nat.lt_or_ge (zu n p) n with z|z
 . exact z
 . have:=a3 t t1 #[0];rw [t3] at this;cases this
theorem zh8{n:Nat}(hn:1<=n){e l:Nat->Bool}:jl n (winP n e l)↔(∃ t,1<=t/\t<n/\e t=true)\/∃ t,1<=t/\t<n/\l t=true:=by
 unfold jl winP;rw [<-ze2 hn,<-ze2 hn];have:=(Jh hn l).2.1
 constructor
 . rintro(h|h)
   . left
     have h:((zu n e:Nat):Int)<n:=h
     omega
   . right
     rcases Nat.lt_or_ge (zu n l) n with z|z
     . exact z
     . exact absurd (if_pos #[0]) h
 . rintro(h|h)
   . left;show((zu n e:Nat):Int)<n;omega
   . right;show(if zu n l=n then none else some ((zu n l:Nat):Int))≠none;rw [if_neg #[0]];nofun
theorem zjI{c:Int}{path:List Int}{p:Rat2×Rat2}(hc:0<c)(h1:1<=path.length)(hp:okQ p.1/\okQ p.2){i j:Int}(hij:i<=j)(h:jl path.length (winL c path p j)):jl path.length (winL c path p i):=by
 unfold winL at h ⊢;rw [zh8 h1] at h ⊢;have hm:i*c<=j*c:=Ybe hij #[0]
 rcases h with ⟨t,t1,t2,t3⟩|⟨t,t1,t2,t3⟩
 . refine .inl ⟨t,t1,t2,?_⟩
   unfold j7 at t3 ⊢;have t3:=of_decide_eq_true t3;have:=Ybe (show i*c - path.getD t 0<=j*c - path.getD t 0 by omega) (show 0<=p.2.2 by have:=hp.2.1;omega)
   exact decide_eq_true #[0]
 . refine .inr ⟨t,t1,t2,?_⟩
   unfold jn at t3 ⊢;have t3:=of_decide_eq_true t3;have:=Ybe (show path.getD t 0 - j*c+c<=path.getD t 0 - i*c+c by omega) (show 0<=p.1.2 by have:=hp.1.1;omega)
   exact decide_eq_true #[0]
theorem IsW.each{n:Nat}{k:Int}{W:Int->Int×Option Int}:∀ {ws:List Win} {j:Int},IsW n k W j ws->(∀ i,i<ws.length->jl n (W (j+(i:Nat)))/\ws.getD i z4=(k,j+(i:Nat),(W (j+(i:Nat))).1,(W (j+(i:Nat))).2))/\¬jl n (W (j+(ws.length:Nat)))
 | [],j,h=>⟨fun i hi=>absurd hi (Nat.not_lt_zero _),by rw [List.length_nil,show j+((0:Nat):Int)=j by omega];exact h⟩
 | w :: r, j, h => by
  obtain⟨a,b⟩:=IsW.each h.2.2;refine⟨fun i hi=>?_,by rw [List.length_cons,show j+((r.length+1:Nat):Int)=j+1+(r.length:Nat) by omega];exact b⟩
  cases i with
  | zero=>
   rw [show j+((0:Nat):Int)=j by omega]
   exact⟨h.1,h.2.1⟩
  | succ i=>
   rw [show j+((i+1:Nat):Int)=j+1+(i:Nat) by omega,List.getD_cons_succ]
   exact a i (by rw [List.length_cons] at hi;omega)
theorem IsW.step{c:Int}{path:List Int}{p:Rat2×Rat2}(hc:0<c)(h1:1<=path.length)(hp:okQ p.1/\okQ p.2){k:Int}{ws:List Win}(h:IsW path.length k (winL c path p) 1 ws)(i:Nat):(jl path.length (winL c path p (1+(i:Int)))->ws.take (i+1)=ws.take i++[(k,1+(i:Int),(winL c path p (1+(i:Int))).1,(winL c path p (1+(i:Int))).2)])/\(¬jl path.length (winL c path p (1+(i:Int)))->ws.take (i+1)=ws.take i):=by
 obtain⟨a,b⟩:=h.each
 constructor
 . intro z
   have hi:i<ws.length:=by
    rcases Nat.lt_or_ge i ws.length with y|y
    . exact y
    . exact absurd (zjI hc h1 hp #[0] z) b
   obtain⟨a1,a2⟩:=a i hi;rw [WaI,YaQ hi,<-a2,YaP,YaQ hi]
   rfl
 . intro z
   have hi:ws.length<=i:=by
    rcases Nat.lt_or_ge i ws.length with y|y
    . exact absurd (a i y).1 z
    . exact y
   rw [Wal #[0],Wal #[0]]
theorem zi3{c:Int}(hc:0<c){path:List Int}(h0:path.getD 0 0=0){r:Rat2}(hr:0<r.2)(hi:inQ r){j:Int}(hj:1<=j):jn c path r j 0=false:=by
 unfold jn;rw [h0,decide_eq_false_iff_not];have h1:(0 - j*c+c)*r.2<=0:=by
  have:(0 - j*c+c)<=0:=by
   have h2:1*c<=j*c:=Ybe #[0] #[0]
   omega
  exact Waa this #[0]
 have h2:0<=r.1*c:=YaK hi.1 #[0]
 omega
theorem zla{l:List Spell}(hok:okS l){bs:List (Rat2×Rat2)}(hB:okB (many l) bs)(ho:∀ p∈bs,okQ p.1/\okQ p.2){W:List (List Win)}(h:IsWs l bs W){k:Nat}(hk:k<many l):IsW (zg (quoB (zq l) l) k).length k (winL (zq l) (zg (quoB (zq l) l) k) (bs.getD k ((0,1),(0,1)))) 1 (W.getD k []):=by
 have hkb:k<bs.length:=by rw [hB.1];exact hk
 have hql:=zab hok;have hqb:=zbF hok (zq l);have htn:=jV fun s hs=>(hok.2.1 s hs).1
 have er:(jm (bot l) bs).getD k (0,0)=(zF (bot l) (bs.getD k ((0,1),(0,1))).1,zF (bot l) (bs.getD k ((0,1),(0,1))).2):=by
  rw [YaP,YaP];unfold jm;rw [Ya0,YaQ hkb];rfl
 have hm:bs.getD k ((0,1),(0,1))∈bs:=JG hkb;have hl:(zg (quoB (zq l) l) k).length=(quo l).length:=by unfold zg;rw [YaR];omega
 have:=h.2 k hk;rw [er] at this;rw [hl];have e:winB (bot l) (zg (quo l) k) (zF (bot l) (bs.getD k ((0,1),(0,1))).1,zF (bot l) (bs.getD k ((0,1),(0,1))).2)=winL (zq l) (zg (quoB (zq l) l) k) (bs.getD k ((0,1),(0,1))):=funext fun j=>zkr (zbn hok) (za5 hok) (zhb hok) #[0] #[0] (ho _ hm) k j
 rw [e] at this;exact this
theorem zg7{ρ : Env3}{X Y:Prop}(h:X):tt3 (k3 (.bool true)) ρ (fun k=>if k=true then X else Y):=by
 show if true=true then X else Y
 rw [if_pos rfl];exact h
def fE(new:List Int)(chg:Int)(tp vp:List Int)(U:List Win)(rs:List Rule)(row:List Int)(r:Env3):Env3:=[some (.sh false (.tuple [.str "row", .list (new.map .int),.int chg,.list (tp.map .int),.list (vp.map .int)])),some (.sh false (.list (U.map dW))),some (.sh false (.list (rs.map dRl))),some (.sh false (.list (row.map .int)))]++r
theorem zdC{n:Nat}{k:Int}{e l:Int->Nat->Bool}(hn:1<=n):∀ {ws:List Win} {j:Int},IsW n k (fun j=>winP n (e j) (l j)) j ws->∀ v∈ws,(1<=v.2.2.1/\v.2.2.1<=n)/\∀ x,v.2.2.2=some x->0<=x/\x<n
 | [],_,_,v,hv=>by cases hv
 | w :: r, j, ⟨_, h2, h3⟩, v, hv => by
  rcases Wa4.mp hv with rfl|hv
  . rw [h2]
    obtain⟨a,a',_⟩:=Jh (n:=n) hn (e j);have b:=(Jh (n:=n) hn (l j)).2.1;refine⟨⟨by show(1:Int)<=((zu n (e j):Nat):Int);omega,by show((zu n (e j):Nat):Int)<=_;omega⟩,fun x hx=>?_⟩
    have hx:(if zu n (l j)=n then none else some ((zu n (l j):Nat):Int))=some x:=hx
    by_cases z:zu n (l j)=n
    . rw [if_pos z] at hx;cases hx
    . rw [if_neg z] at hx
      have:=WaV hx
      omega
  . exact zdC hn h3 v hv
theorem zhL{l:List Spell}(hok:okS l){bs:List (Rat2×Rat2)}{W:List (List Win)}(h:IsWs l bs W):∀ v∈W.flatten,(1<=v.2.2.1/\v.2.2.1<=100)/\∀ x,v.2.2.2=some x->0<=x/\x<=tot l:=fun v hv=>by
 have h60:=hok.2.2;have hql:=zab hok;have htn:=jV fun s hs=>(hok.2.1 s hs).1
 obtain⟨ws,hws,hv⟩:=List.mem_flatten.mp hv;obtain⟨k,hk,rfl⟩:=Yam hws;have hI:=h.2 k (by rw [<-h.1];exact hk)
 rw [show W.getD k []=W[k] by rw [YaP,YaQ hk];rfl] at hI
 have hl:(zg (quo l) k).length=(quo l).length:=by unfold zg;rw [YaR]
 unfold winB at hI;rw [hl] at hI;obtain⟨a,b⟩:=zdC #[0] hI v hv
 exact⟨#[0],fun x hx=>by have:=b x hx;omega⟩
theorem ziY{U:List Win}{clan:Int}{pl:List Int}{v:Int}(h:v∈pl):getM (zT U clan pl) v=some (cst1 U clan v):=by
 obtain⟨y,e⟩:=zaj (t:=zT U clan pl) (k:=v) (by unfold zT;rw [YaD];exact Ya7.mpr ⟨v,h,rfl⟩)
 obtain⟨p,_,hp⟩:=Ya7.mp (JJ e)
 injection hp with h1 h2
 rw [e,<-h2,h1]
theorem zfw{l:List Int}:sumF l.length (at0 l)=l.sum:=by
 unfold sumF
 congr 1
 refine List.ext_getElem (by simp) fun i h1 h2=>?_
 rw [List.getElem_map,List.getElem_range];unfold at0;rw [if_pos #[0],Int.toNat_natCast,YaP,YaQ h2];rfl
theorem zes:∀ {new row:List Int},new.length=row.length->((z5 new row).length:Int)=((List.range new.length).map fun i=>if new.getD i 0=row.getD i 0 then(0:Int) else 1).sum
 | [],[],_=>rfl
 | a :: new, b :: row, h => by
  have ih:=zes (new:=new) (row:=row) (by simpa using h)
  rw [List.length_cons,List.range_succ_eq_map,Ya1,YaD,List.sum_cons];show _=(if a=b then(0:Int) else 1)+((List.range new.length).map fun i=>if new.getD i 0=row.getD i 0 then(0:Int) else 1).sum
  rw [<-ih];unfold z5;rw [List.zip_cons_cons,YaM]
  by_cases e:a=b
  . rw [if_pos e,if_neg (by simp [e])];omega
  . rw [if_neg e,if_pos (by simp [e]),Ya1,List.length_cons];omega
theorem zim{U:List Win}{ch:List #[22]}{row:List Int}{rs:List Rule}(hl:row.length=ch.length)(hch:ChOk rs U ch)(hin:∀ pl∈ch,∀ x∈pl,InR x U.length){f:Nat->Nat}{tk hd:Tb}{tp vp:List Int}(h1:∀ k,k<ch.length->f k<U.length/\((f k:Nat):Int)∈ch.getD k [])(h2:∀ i j,i<ch.length->j<ch.length->f i=f j->i=j)(h3:∀ i,i<U.length->(U.getD i z4).2.2.2≠none->∃ k,k<ch.length/\f k=i)(l1:tp.length=ch.length)(l2:vp.length=U.length)
 (M:Mend (ChM (Mk0 (csOf U row ch))) (cM (Mk0 (csOf U row ch))) (at0 (U.map (zW ch.length))) ch.length U.length ch.length (at0 tp) (at0 vp) tk hd) :
 (∀ i,i<U.length->(U.getD i z4).2.2.2=none->vp.getD i 0<=0)/\(∀ i,i<U.length->∀ t,t<row.length->mayP rs (U.getD i z4) ((t:Int)+1)->tp.getD t 0+vp.getD i 0<=if row.getD t 0=(U.getD i z4).1 then 0 else 1)/\tp.sum+vp.sum=((z5 (zU U tk ch.length) row).length:Nat):=by
 have clen:=zar (U:=U) hl;have a0:∀ (l:List Int) (i:Nat),at0 l (i:Int)=l.getD i 0:=fun l i=>by unfold at0;rw [if_pos #[0],Int.toNat_natCast]
 have pr:∀ i,i<U.length->at0 (U.map (zW ch.length)) (i:Int)=zW ch.length (U.getD i z4):=fun i hi=>by
  rw [a0,YaP,Ya0,YaP,YaQ hi];rfl
 have chm:∀ (x v:Int),ChM (Mk0 (csOf U row ch)) x v->InR x ch.length/\v∈ch.getD x.toNat []:=fun x v hc=>by
  have hx:InR x ch.length:=by have:=hc.1;rwa [show(Mk0 (csOf U row ch)).cs.length=ch.length from clen] at this
  refine⟨hx,?_⟩
  obtain⟨y,e⟩:=Wah.mp hc.2;have e:getM ((csOf U row ch).getD x.toNat []) v=some y:=e;rw [ZC hl (by have:=hx.1;have:=hx.2;omega)] at e
  obtain⟨p,hp,e2⟩:=Ya7.mp (JJ e)
  injection e2 with e3
  rw [<-e3];exact hp
 have mch:∀ (t:Nat) (v:Int),t<ch.length->v∈ch.getD t []->ChM (Mk0 (csOf U row ch)) t v/\cM (Mk0 (csOf U row ch)) t v=cst1 U (row.getD t 0) v:=fun t v ht hv=>by
  have e:getM ((csOf U row ch).getD ((t:Int)).toNat []) v=some (cst1 U (row.getD t 0) v):=by
   rw [Int.toNat_natCast,ZC hl ht,ziY hv]
  refine⟨⟨⟨#[0],by show(t:Int)<(csOf U row ch).length;rw [clen];omega⟩,?_⟩,?_⟩
  . show(getM ((csOf U row ch).getD ((t:Int)).toNat []) v).isSome=true
    rw [e];rfl
  . show(getM ((csOf U row ch).getD ((t:Int)).toNat []) v).getD 0=_
    rw [e];rfl
 refine⟨fun i hi hn=>?_,fun i hi t ht hm=>?_,?_⟩
 . have:=M.top (i:Int)
   rw [a0,pr i hi] at this;unfold zW at this;rwa [if_pos hn] at this
 . rw [hl] at ht
   obtain⟨m1,m2⟩:=mch t i ht ((hch t ht i hi).mpr hm);have:=M.low t i #[0] #[0] m1
   rw [m2,a0,a0] at this;refine Int.le_trans this ?_;unfold cst1;rw [Int.toNat_natCast]
   by_cases e:row.getD t 0=(U.getD i z4).1
   . rw [if_pos e,if_pos (show(U.getD i (0,0,0,none)).1=row.getD t 0 from e.symm)];exact Wbm _
   . rw [if_neg e];split<;>decide
 . have F:=M.fair (fun x v=>?_) (due:=fun v=>InR v U.length/\(U.getD v.toNat z4).2.2.2≠none) (fun v=>?_) (fun x v hc=>?_) (f:=fun x=>((f x.toNat:Nat):Int)) (fun x hx=>?_) (fun x y hx hy e=>?_) (fun v hv hd=>?_)
   . have F2:=F.2.1
     rw [<-l1,zfw,l1,<-l2,zfw] at F2;rw [F2];have nl:(zU U tk ch.length).length=ch.length:=by unfold zU;rw [YaR,YaG]
     rw [zes (by rw [nl,hl]),nl]
     unfold sumF
     congr 1
     refine Yat fun i hi=>?_
     have hi:=Yba.mp hi;obtain⟨v,e⟩:=Wah.mp ((M.dom i).mpr ⟨#[0],#[0]⟩)
     show cM (Mk0 (csOf U row ch)) i ((getM tk i).getD 0)=_
     rw [e];obtain⟨c1,c2⟩:=chm _ _ (M.ed _ _ e).1;rw [Int.toNat_natCast] at c2;rw [Option.getD_some,(mch i v hi c2).2];have en:(zU U tk ch.length).getD i 0=(U.getD v.toNat (0,0,0,none)).1:=by
      unfold zU;rw [YaP,Ya0,Yax hi];show(U.getD ((getM tk (i:Int)).getD 0).toNat (0,0,0,none)).1=_;rw [e];rfl
     rw [en];rfl
   . show 0<=(getM ((csOf U row ch).getD x.toNat []) v).getD 0/\(getM ((csOf U row ch).getD x.toNat []) v).getD 0<=1
     cases e:getM ((csOf U row ch).getD x.toNat []) v with
     | none=>exact⟨#[1],#[1]⟩
     | some y=>
      have hm:=JJ e
      by_cases hx:x.toNat<ch.length
      . rw [ZC hl hx] at hm
        obtain⟨p,_,e2⟩:=Ya7.mp hm
        injection e2 with e3 e4
        show 0<=y/\y<=1
        rw [<-e4];unfold cst1;split<;>exact⟨#[1],#[1]⟩
      . rw [YaP,Wao #[0]] at hm;cases hm
   . by_cases hv:InR v U.length
     . have:=pr v.toNat (by have:=hv.1;have:=hv.2;omega)
       rw [show((v.toNat:Nat):Int)=v from War hv.1] at this
       rw [this];unfold zW;exact⟨fun h=>if_neg h.2,fun h=>if_pos (Waf fun z=>h ⟨hv,z⟩)⟩
     . refine⟨fun h=>absurd h.1 hv,fun _=>?_⟩
       unfold at0
       by_cases h0:0<=v
       . rw [if_pos h0,YaP,Wao];rfl
         rw [YaR];have:¬v<(U.length:Int):=fun z=>hv ⟨h0,z⟩
         omega
       . rw [if_neg h0]
   . obtain⟨c1,c2⟩:=chm _ _ hc
     refine hin _ ?_ v c2
     obtain⟨x0,x1⟩:=c1;rw [YaP,YaQ (show x.toNat<ch.length by omega)];exact Ya4 _
   . obtain⟨x0,x1⟩:=hx
     have:=(mch x.toNat _ #[0] (h1 x.toNat #[0]).2).1
     rwa [show((x.toNat:Nat):Int)=x from War x0] at this
   . obtain⟨x0,x1⟩:=hx
     obtain⟨y0,y1⟩:=hy;have:=h2 _ _ #[0] #[0] (Int.ofNat.inj e)
     omega
   . obtain⟨k,hk,e⟩:=h3 v.toNat (by have:=hv.1;have:=hv.2;omega) hd.2
     refine⟨k,⟨#[0],#[0]⟩,?_⟩
     show((f ((k:Int)).toNat:Nat):Int)=v
     rw [Int.toNat_natCast,e];exact War hv.1
section
variable{P:Program}{w:World}{c:Law.Cl}{K:Ybf}{mg:#[15]}{base:Heap}
def za4:Sp3:=fun ds Q E=>∃ ns k,ds=[dI ns,.int k]/\0<=k/\∀ v:Int,Q true (.int v)
def zaF:Sp3:=fun ds Q E=>∃ cc k,ds=[.int cc,.int k]/\0<=k/\k<100000/\∀ v:Int,Q true (.int v)
def zas:Sp3:=fun ds Q E=>∃ cc k,ds=[.int cc,.int k]/\0<=k/\k<100000/\∀ v:Int,Q true (.int v)
def zal:Sp3:=fun ds Q E=>∃ ns m,ds=[dI ns,.int m]/\4<=m/\m<=60/\∀ l,okS l->(∀ s∈l,∀ w∈s.2,w<10 ^ 6)->Q true (dSs l)
def zaX:Sp3:=fun ds Q E=>∃ ns m,ds=[dI ns,.int m]/\4<=m/\m<=60/\∀ l,okS l->Q true (dSs l)
def zai:Sp3:=fun ds Q E=>∃ l,ds=[dSs l]/\okS l/\Q true (.tuple [.int (zq l),.list ((quoB (zq l) l).map dI)])
def za9:Sp3:=fun ds Q E=>∃ (b:Int) (rows:List #[22]) (cc:Int) (n:Nat),ds=[.int b,.list (rows.map dI),.int cc]/\1<=n/\n<=8/\1<=rows.length/\rows.length<=61/\(∀ r∈rows,r.length=n)/\∀ row:List Int,row.length+1=rows.length->(∀ c∈row,0<=c/\c<n)->Q true (dI row)
def Z3:Sp3:=fun ds Q E=>∃ a b,ds=[.int a,.int b]/\0<b/\Bits 9000 b/\Q true (dR a b)
def zad:Sp3:=fun ds Q E=>∃ (b:Int) (rows:List #[22]) (row:List Int) (cc:Int) (own:Bool) (n:Nat),ds=[.int b,.list (rows.map dI),dI row,.int cc,.bool own]/\0<b/\Bits 900 b/\1<=n/\n<=8/\rows.length<=61/\row.length+1=rows.length/\(∀ r∈rows,r.length=n)/\(∀ c∈row,0<=c/\c<n)/\∀ bs,okB n bs->(∀ p∈bs,okQ p.1/\okQ p.2)->Q true (dPs bs)
def zaH:Sp3:=fun ds Q E=>∃ (T n cc:Int),ds=[.int T,.int n,.int cc]/\1<=T/\T<=60/\1<=n/\n<=8/\∀ rs:List Rule,okRs T n rs->txtR rs->rs.length<=8->Q true (dRs rs)
def ZT(c:Law.Cl):Sp3:=fun ds Q E=>∃ ws,ds=[dI ws]/\(okW ws->Q true .none)/\(¬okW ws->E c.NoSpell)
def zbd:Sp3:=fun ds Q E=>∃ l,ds=[dSs l]/\l.length<=1000/\Q true (.int (tot l))
def zax(c:Law.Cl):Sp3:=fun ds Q E=>∃ l,ds=[dSs l]/\(okS l->Q true .none)/\(¬okS l->E c.NoSpell)
def za1:Sp3:=fun ds Q _=>∃ a b,ds=[.int a,.int b]/\Q true (.int (Int.gcd a b))
def ZW:Sp3:=fun ds Q E=>∃ ws,ds=[dI ws]/\Q true (.int (gcdL ws))
def zaB:Sp3:=fun ds Q E=>∃ l,ds=[dSs l]/\okS l/\Q true (.int (bot l))
def zaf:Sp3:=fun ds Q E=>∃ b ws,ds=[.int b,dI ws]/\okW ws/\Bits 2000 b/\Q true (dI (shares b ws))
def ZN(c:Law.Cl):Sp3:=fun ds Q E=>∃ l,ds=[dSs l]/\(okS l->Q true (.tuple [.int (bot l),.list ((quo l).map dI)]))/\(¬okS l->E c.NoSpell)
def zay:Sp3:=fun ds Q E=>∃ (path:List Int) (w:Int),ds=[dI path,.int w]/\path.length<=61/\1<=path.length/\Q true (.int (zu path.length fun t=>decide (w<=path.getD t 0)))
def zaT:Sp3:=fun ds Q E=>∃ (b:Int) (path:List Int) (j:Int) (room:Int×Int),ds=[.int b,dI path,.int j,jP room]/\path.length<=61/\1<=path.length/\Bits 2000 b/\Bits 64 j/\Q true (.tuple [.int (winB b path room j).1,dO (winB b path room j).2])
def zaD:Sp3:=fun ds Q E=>∃ (b:Int) (q:List #[22]) (k:Nat) (room:Int×Int) (n:Nat),ds=[.tuple [.int b,.list (q.map dI)],.int k,jP room]/\0<b/\Bits 2000 b/\k<n/\q.length<=61/\1<=q.length/\(∀ r∈q,r.length=n)/\(∀ r∈q,r.getD k 0+room.2<=80*b)/\0<=room.1/\0<=room.2/\room.2<=80*b/\∀ ws,IsW q.length k (winB b (zg q k) room) 1 ws->ws.length<=200->Q true (.list (ws.map dW))
def Z2:Sp3:=fun ds Q E=>∃ (b:Int) (q:List #[22]) (rooms:List (Int×Int)) (n:Nat),ds=[.tuple [.int b,.list (q.map dI)],.list (rooms.map jP)]/\0<b/\Bits 2000 b/\rooms.length=n/\n<=8/\q.length<=61/\1<=q.length/\(∀ r∈q,r.length=n)/\(∀ r∈q,∀ x∈r,x<=60*b)/\(∀ p∈rooms,0<=p.1/\0<=p.2/\p.2<=20*b)/\∀ W:List (List Win),W.length=n->(∀ k,k<n->IsW q.length k (winB b (zg q k) (rooms.getD k (0,0))) 1 (W.getD k []))->W.flatten.length<=2000->Q true (.list (W.flatten.map dW))
def za6(c:Law.Cl):Sp3:=fun ds Q E=>∃ t T:Int,ds=[.int t,.int T]/\(1<=t/\t<=T->Q true .none)/\(¬(1<=t/\t<=T)->E c.NoRule)
def zac(c:Law.Cl):Sp3:=fun ds Q E=>∃ (rs:List Rule) (T n:Int),ds=[dRs rs,.int T,.int n]/\txtR rs/\(okRs T n rs->Q true .none)/\(¬okRs T n rs->E c.NoRule)
def ZS:SpC:=fun cs Q=>∃ (rs:List Rule) (n:Nat),cs=[.sh false (dRs rs),.sh true (.int n)]/\n<=8/\rs.length<=1000/\∀ ds,(ds.all fun p=>zw p.2)=true->Je rs n ds->Q (.dt ds) []
def zaJ:SpC:=fun cs Q=>∃ (v:Win) (t:Int) (ds:List (List Key×D)),cs=[.sh false (dW v),.sh true (.int t),.fd ds]/\(ds.all fun p=>zw p.2)=true/\Q (.sh true (.bool (mayD ds v t))) []
def zaw(c:Law.Cl):Sp3:=fun ds Q E=>∃ (b:Int) (q:List #[22]) (V:List Win) (rs:List Rule) (n T:Nat),ds=[.tuple [.int b,.list (q.map dI)],.list (V.map dW),dRs rs]/\q.length=T+1/\T<=60/\(∀ r∈q,r.length=n)/\n<=8/\V.length<=2000/\(∀ v∈V,InR v.1 n)/\rs.length<=1000/\txtR rs/\(okRs T n rs->∀ ch:List #[22],ch.length=T->(∀ row∈ch,row.length<=2000/\row.Nodup/\∀ x∈row,InR x V.length)->ChOk rs V ch->Q true (.list (ch.map dI)))/\(¬okRs T n rs->E c.NoRule)
def zaK(c:Law.Cl):Sp3:=fun ds Q E=>∃ (row:List Int) (T n:Nat),ds=[dI row,.int T,.int n]/\(Zq n T row->Q true .none)/\(¬Zq n T row->E c.NoRow)
def Z5:Sp3:=fun ds Q E=>∃ (V:List Win) (ch:List #[22]),ds=[.list (V.map dW),.list (ch.map dI)]/\V.length<=2000/\ch.length<=60/\(∀ row∈ch,row.length<=2000/\∀ x∈row,InR x V.length)/\∀ tv:List #[22],tv.length=V.length->(∀ row∈tv,∀ x∈row,InR x ch.length)->(∀ i,i<V.length->∀ j,j<ch.length->((j:Int)∈tv.getD i []↔(i:Int)∈ch.getD j []))->Q true (.list (tv.map dI))
def zak:SpC:=fun cs Q=>∃ (x:Int) (a1 a2 a3:Addr) (ca t h:Tb) (r:Int->Nat) (start:Int) (A B m:Nat) (Ed:Int->Int->Prop),cs=[.sh true (.int x),.dm a1 ca,.dm a2 t,.dm a3 h]/\Way Ed ca t r start A B/\OnWay Ed ca t h t h r x A B m/\A<=2000/\B<=2000/\∀ t' h',Moved Ed t h t' h' start A B->Q (.sh true .none) [ca,t',h']
def zaS:SpC:=fun cs Q=>∃ (start:Int) (ch:List #[22]) (a2 a3:Addr) (t h:Tb) (A B:Nat),cs=[.sh true (.int start),.sh false (.list (ch.map dI)),.dm a2 t,.dm a3 h]/\ch.length=A/\A<=2000/\B<=2000/\(A<=62\/B<=62)/\InR start A/\(∀ row∈ch,∀ x∈row,InR x B)/\Mat t h/\TbOk t A B/\TbOk h B A/\getM t start=none/\(∀ s c,getM t s=some c->c∈ch.getD s.toNat [])/\(∀ t' h',Moved (fun s c=>c∈ch.getD s.toNat []) t h t' h' start A B->Q (.sh true (.list [])) [t',h'])/\∀ rs:List Int,rs≠[]->rs.length<64->(∀ x∈rs,InR x A)->Q (.sh true (dI rs)) [t,h]
def ZV:Sp3:=fun ds Q E=>∃ (V:List Win) (ch:List #[22]),ds=[.list (V.map dW),.list (ch.map dI)]/\V.length<=2000/\ch.length<=60/\(∀ row∈ch,row.length<=2000/\∀ x∈row,InR x V.length)/\∀ d,zkS V ch d->Q true d
def zaq:Sp3:=fun ds Q E=>∃ a b:Rat2,ds=[dQ a,dQ b]/\okQ a/\okQ b/\Q true (.bool (decide (a.1*b.2<b.1*a.2)))
def zat(c:Law.Cl):Sp3:=fun ds Q E=>∃ (l:List (Rat2×Rat2)) (n:Nat),ds=[dPs l,.int n]/\(∀ p∈l,okQ p.1/\okQ p.2)/\(okB n l->Q true .none)/\(¬okB n l->E c.NoBounds)
def zaW:Sp3:=fun ds Q E=>∃ (b:Int) (r:Rat2),ds=[.int b,dQ r]/\Bits 2000 b/\okQ r/\Q true (.int (zF b r))
def zaR(c:Law.Cl):Sp3:=fun ds Q E=>∃ (b:Int) (q:List #[22]) (l:List (Rat2×Rat2)) (n:Nat),ds=[.tuple [.int b,.list (q.map dI)],dPs l]/\Bits 2000 b/\1<=q.length/\(∀ r∈q,r.length=n)/\n<=8/\l.length<=1000/\(∀ p∈l,okQ p.1/\okQ p.2)/\(okB n l->Q true (.list ((jm b l).map jP)))/\(¬okB n l->E c.NoBounds)
def Zf(c:Law.Cl):Sp3:=fun ds Q E=>∃ (l:List Spell) (bs:List (Rat2×Rat2)) (rs:List Rule) (row:List Int),ds=[dSs l,dPs bs,dRs rs,dI row]/\bs.length<=1000/\(∀ p∈bs,okQ p.1/\okQ p.2)/\rs.length<=1000/\txtR rs/\row.length<=1000/\(okS l->okB (many l) bs->okRs (tot l) (many l) rs->Zq (many l) (tot l).toNat row->∀ W:List (List Win),IsWs l bs W->∀ ch:List #[22],ch.length=(tot l).toNat->(∀ pl∈ch,∀ x∈pl,InR x W.flatten.length)->ChOk rs W.flatten ch->∀ d,zgm W.flatten ch row d->Q true d)/\(¬okS l->E c.NoSpell)/\(okS l->¬okB (many l) bs->E c.NoBounds)/\(okS l->okB (many l) bs->¬okRs (tot l) (many l) rs->E c.NoRule)/\(okS l->okB (many l) bs->okRs (tot l) (many l) rs->¬Zq (many l) (tot l).toNat row->E c.NoRow)
def zbe:Sp3:=fun ds Q E=>∃ i,ds=[.int i]/\Q true (.bool true)
def zav:Sp3:=fun ds Q E=>∃ xs:List Int,ds=[dI xs,.int xs.length]/\xs.length<=2000/\Q true (.bool true)
def Z6:Sp3:=fun ds Q E=>∃ (rs:List Rule) (t c:Int),ds=[dRs rs,.int t,.int c]/\txtR rs/\(∀ r∈rs,r.1 = "fixed"\/r.1 = "barred")/\∀ b:Bool,(b=true↔¬Jm rs t c)->Q true (.bool b)
def Zz:Sp3:=fun ds Q E=>∃ (new tp vp row:List Int) (chg:Int) (U:List Win) (rs:List Rule),ds=[.tuple [.str "row", dI new,.int chg,dI tp,dI vp],.list (U.map dW),dRs rs,dI row]/\U.length<=2000/\row.length<=60/\tp.length=row.length/\vp.length=U.length/\txtR rs/\(∀ r∈rs,r.1 = "fixed"\/r.1 = "barred")/\(∀ v∈U,(1<=v.2.2.1/\v.2.2.1<=100)/\∀ x,v.2.2.2=some x->0<=x/\x<=row.length)/\(∀ i,i<U.length->(U.getD i z4).2.2.2=none->vp.getD i 0<=0)/\(∀ i,i<U.length->∀ t,t<row.length->mayP rs (U.getD i z4) ((t:Int)+1)->tp.getD t 0+vp.getD i 0<=if row.getD t 0=(U.getD i z4).1 then 0 else 1)/\tp.sum+vp.sum=chg/\Q true (.bool true)
def zag:Sp3:=fun ds Q E=>∃ (l:List Spell) (bs:List (Rat2×Rat2)) (W:List (List Win)),ds=[.int (zq l),.list ((quoB (zq l) l).map dI),dPs bs]/\okS l/\okB (many l) bs/\(∀ p∈bs,okQ p.1/\okQ p.2)/\IsWs l bs W/\Q true (.list (W.flatten.map dW))
def JV:Sp3:=fun ds Q E=>∃ ns,ds=[dI ns]/\ns.length<=63/\Q true (.bool true)
section
variable(c:Law.Cl)(P:Program)(w:World)(K:Ybf)(mg:#[15])(base:Heap)
abbrev dd_law_cell_at:=Df3 P w K mg base 1 "_law_cell_at" ["_law_script", "_law_k"] za4
abbrev dd_law_mixed:=Df3 P w K mg base 1 "_law_mixed" ["_law_cell", "_law_k"] zaF
abbrev dd_law_wide:=Df3 P w K mg base 2 "_law_wide" ["_law_cell", "_law_k"] zas
abbrev dd_law_spells:=Df3 P w K mg base 3 "_law_spells" ["_law_script", "_law_most"] zal
abbrev dd_law_long:=Df3 P w K mg base 4 "_law_long" ["_law_script", "_law_most"] zaX
abbrev dd_law_quotas:=Df3 P w K mg base 1 "_law_quotas" ["_law_spells_here"] zai
abbrev dd_law_row:=Df3 P w K mg base 3 "_law_row" ["_law_bottom", "_law_rows", "_law_cell"] za9
abbrev dd_law_ratio:=Df3 P w K mg base 1 "_law_ratio" ["_law_top", "_law_bottom"] Z3
abbrev dd_law_limits:=Df3 P w K mg base 3 "_law_limits" ["_law_bottom", "_law_rows", "_law_row_here", "_law_cell", "_law_own"] zad
abbrev dd_law_rules:=Df3 P w K mg base 3 "_law_rules" ["_law_turns", "_law_clans", "_law_cell"] zaH
abbrev dd_check_weights:=Df3 P w K mg base 1 "check_weights" ["weights"] (ZT c)
abbrev dd_all_turns:=Df3 P w K mg base 1 "all_turns" ["spells"] zbd
abbrev dd_check_spells:=Df3 P w K mg base 2 "check_spells" ["spells"] (zax c)
abbrev dd_common_divisor:=Df3 P w K mg base 1 "common_divisor" ["one", "other"] za1
abbrev dd_divisor_of_all:=Df3 P w K mg base 2 "divisor_of_all" ["weights"] ZW
abbrev dd_least_bottom:=Df3 P w K mg base 3 "least_bottom" ["spells"] zaB
abbrev dd_shares_over:=Df3 P w K mg base 1 "shares_over" ["bottom", "weights"] zaf
abbrev dd_quotas:=Df3 P w K mg base 4 "quotas" ["spells"] (ZN c)
abbrev dd_first_turn:=Df3 P w K mg base 1 "first_turn" ["path", "wanted"] zay
abbrev dd_window_of:=Df3 P w K mg base 2 "window_of" ["bottom", "path", "j", "room"] zaT
abbrev dd_windows_of_clan:=Df3 P w K mg base 3 "windows_of_clan" ["told", "clan", "room"] zaD
abbrev dd_windows_within:=Df3 P w K mg base 4 "windows_within" ["told", "rooms"] Z2
abbrev dd_check_turn:=Df3 P w K mg base 1 "check_turn" ["turn", "turns"] (za6 c)
abbrev dd_check_rules:=Df3 P w K mg base 2 "check_rules" ["rules", "turns", "clans"] (zac c)
abbrev dd_forbidden:=DfC P w K mg base 1 "forbidden" ["rules", "clans"] ZS
abbrev dd_may_come:=DfC P w K mg base 1 "may_come" ["visit", "turn", "barred"] zaJ
abbrev dd_choices_of_turns:=Df3 P w K mg base 3 "choices_of_turns" ["told", "visits", "rules"] (zaw c)
abbrev dd_check_row:=Df3 P w K mg base 1 "check_row" ["row", "turns", "clans"] (zaK c)
abbrev dd_choices_of_visits:=Df3 P w K mg base 1 "choices_of_visits" ["visits", "choices"] Z5
abbrev dd_move_along:=DfC P w K mg base 1 "move_along" ["choice", "came", "taken", "holders"] zak
abbrev dd_settle:=DfC P w K mg base 2 "settle" ["start", "choices", "taken", "holders"] zaS
abbrev dd_place_visits:=Df3 P w K mg base 3 "place_visits" ["visits", "choices"] ZV
abbrev dd_mend_visits:=DfU c.tb P w K mg base 6 "mend_visits" ["visits", "choices", "row"] Zb
abbrev dd_less:=Df3 P w K mg base 1 "less" ["one", "other"] zaq
abbrev dd_check_bounds:=Df3 P w K mg base 2 "check_bounds" ["bounds", "clans"] (zat c)
abbrev dd_room_at_most:=Df3 P w K mg base 1 "room_at_most" ["bottom", "bound"] zaW
abbrev dd_rooms_of:=Df3 P w K mg base 3 "rooms_of" ["told", "bounds"] (zaR c)
abbrev dd_mended:=DfU c.tb P w K mg base 7 "mended" ["spells", "bounds", "rules", "row"] (Zf c)
abbrev dd_law_whole:=Df3 P w K mg base 1 "_law_whole" ["_law_found"] zbe
abbrev dd_law_numbers:=Df3 P w K mg base 2 "_law_numbers" ["_law_found", "_law_count"] zav
abbrev dd_law_lets:=Df3 P w K mg base 1 "_law_lets" ["_law_rules_here", "_law_t", "_law_clan"] Z6
abbrev dd_law_fair:=Df3 P w K mg base 3 "_law_fair" ["_law_found", "_law_visits", "_law_rules_here", "_law_row_here"] Zz
abbrev dd_law_windows:=Df3 P w K mg base 1 "_law_windows" ["_law_bottom", "_law_rows", "_law_bounds"] zag
end
local macro_rules | `(tactic| walk_at $w:str)=>do
 let ws:=w.getString.splitOn " "
 if ws.head? == some "o" then return (<-`(tactic| first|exact Or.inl rfl|exact Or.inr rfl|exact Or.inr (Or.inl rfl)|exact Or.inr (Or.inr rfl)))
 if ws.head? == some "s" then return (<-`(tactic| refine zk fun $(mI `N) $(mI `hN)=>?_))
 if ws.head? == some "n" then return (<-`(tactic| (refine $(mI `hN) _ ?_;clear $(mI `hN) $(mI `N))))
 if ws.head? == some "t" then return (<-`(tactic| (clear $(mI `hN) $(mI `N);refine zk fun $(mI `N) $(mI `hN)=>?_)))
 if ws.head? == some "u" then return (<-`(tactic| (refine $(mI `hN) _ ?_;clear $(mI `hN) $(mI `N);refine zk fun $(mI `N) $(mI `hN)=>?_)))
 if ws.head? == some "q" then return (<-`(tactic| (refine zk fun $(mI `N) $(mI `hN)=>?_;walk_at "rd")))
 if ws.head? == some "v" then return (<-`(tactic| (refine $(mI `hN) _ ?_;clear $(mI `hN) $(mI `N);refine zk fun $(mI `N) $(mI `hN)=>?_;walk_at "rd")))
 if ws.head? == some "w" then return (<-`(tactic| (clear $(mI `hN) $(mI `N);refine zk fun $(mI `N) $(mI `hN)=>?_;walk_at "rd")))
 if ws.head? == some "l" then return (<-`(tactic| first|(obtain⟨_,$(mI `rfl):ident,_⟩:=$(mI `h);rfl)|(obtain⟨_,_,$(mI `rfl):ident,_⟩:=$(mI `h);rfl)|(obtain⟨_,_,_,$(mI `rfl):ident,_⟩:=$(mI `h);rfl)|(obtain⟨_,_,_,_,$(mI `rfl):ident,_⟩:=$(mI `h);rfl)|(obtain⟨_,_,_,_,_,$(mI `rfl):ident,_⟩:=$(mI `h);rfl)|(obtain⟨_,_,_,_,_,_,$(mI `rfl):ident,_⟩:=$(mI `h);rfl)))
 if ws.head? == some "d" then return (<-`(tactic| refine⟨fun $(mI `ds) $(mI `Q) $(mI `Q') $(mI `E) $(mI `E') $(mI `hQ) $(mI `hE) $(mI `h)=>?_,⟨$(mI `f),$(mI `fd),fn3 $(mI `F) $(mI `S) (fun $(mI `ds) $(mI `Q) $(mI `E) $(mI `h)=>?_) (fun $(mI `cdv) $(mI `A) $(mI `outer) $(mI `s) $(mI `H) $(mI `E) $(mI `E3) $(mI `hE) $(mI `hr)=>?_),$(mI `F.binds) fun _ _ _ _ _ _ us hl=>by first|(obtain⟨_,$(mI `rfl):ident⟩:=zhu hl;rfl)|(obtain⟨_,_,$(mI `rfl):ident⟩:=zaQ hl;rfl)|(obtain⟨_,_,_,$(mI `rfl):ident⟩:=zaC hl;rfl)|(obtain⟨_,_,_,_,$(mI `rfl):ident⟩:=zaa hl;rfl)|(obtain⟨_,_,_,_,_,$(mI `rfl):ident⟩:=zct hl;rfl),$(mI `F.kp),$(mI `hm)⟩⟩))
 if ws.head? == some "m" then return (<-`(tactic| (revert $(mI `h);repeat' (first|exact fun h=>h|exact $(mI `hQ) _ _|exact $(mI `hE) _|refine Exists.imp fun _=>?_|refine And.imp ?_ ?_|refine forall_imp fun _=>?_))))
 if ws.head? == some "g" then return (<-`(tactic| ((try dsimp only [wE,wF,lE,fE,gn3,List.cons_append,List.nil_append,List.set_cons_zero,List.set_cons_succ,zw,Wa6,Wbf]);try simp only [wE,wF,lE,fE,gn3,List.cons_append,List.nil_append,List.set_cons_zero,List.set_cons_succ,zw,Wbk])))
 unless ws.head? == some "rd" do Lean.Macro.throwUnsupported
 let ds <-("seq3,next3,set3,own3,ret3,ifS3,tt3,o3,u3,v3,atV,asS,asB,asD,optP,asT,asLd,asL,atO,Zo,nilP,asId,asI,k3,nw3,add3,int3,int0,neg3,eq3,ne3,eqOk,eqv3,isN3,notN3,isNone,ix3,ixD,zap,nil3,Zu,cb3,len3,lenD,abs3,max23,min23,sum3,max3,and3,or3,not3,zaU,ZD,ch3,tup3,lst3,za0,catN,slL3,zaP,ZK,L2.isD,za8,asg3,gn3,zaV,ZE,gnil3,app3,put3,frzS,frz,frz1,for3,itL,itT,itZ,rg1,rg2,Jy,true3,cst3,ZU,brk3,jO,shs,Cl.d,Cl.dat,Cl.f,zbS,zw,Option.map_some,Option.map_none,Option.isSome_some,Option.isSome_none,Option.join_some,Option.join_none,List.all_cons,List.all_nil,Bool.true_and,Wa6,Wbf,Ya1,Wbe,List.length_cons,List.length_nil,Nat.reduceAdd,Nat.reduceSub,List.replicate,List.cons_append,List.nil_append,List.getElem?_cons_zero,List.getElem?_cons_succ,List.set_cons_zero,List.set_cons_succ,Bool.not_true,Bool.not_false,par3,aug3,idx3,ext3,itE,k3f,za7,put2,app2,ix2,zam,ZJ,intB3,frzD,dms,jv,argC,JM,Jf,finM,holds,updM,Zv,zaG,zae,zaI,ZG,Z9,zaE,zbc,Z7,Z4,ZI,srtL,ninT3,zaN,List.foldl_cons,List.foldl_nil,za4,zaF,zas,zal,zaX,zai,za9,Z3,zad,zaH,ZT,zbd,zax,za1,ZW,zaB,zaf,ZN,zay,zaT,zaD,Z2,za6,zac,ZS,zaJ,zaw,zaK,Z5,zak,zaS,ZV,zaq,zat,zaW,zaR,Zf,zbe,zav,Z6,Zz,zag,JV,dSs,dS,dI,zw,dQ,dP,dPs,jP,dW,dRs,dRl,Zb,wE,wF,lE,fE".splitOn ",").toArray.mapM fun s=>`(Lean.Parser.Tactic.simpLemma| $(Lean.mkIdent s.toName):term)
 let rs <-(("Wba,Wa7,Wa5,Wbk,Wbi,Yao,Waz,Cl.sh.injEq,Cl.ow.injEq,WaT,WaJ,WaU,WaK,Wav,List.cons.injEq,reduceCtorEq,and_assoc,and_true,true_and,and_self,exists_eq_left,exists_eq_left',exists_eq',exists_eq_right,exists_eq_right',exists_and_left,exists_const,exists_false,false_and,and_false,or_false,false_or,or_true,true_or,decide_true,decide_false,decide_eq_true_eq,Wat,Waw,if_true,if_false,ite_true,ite_false,Wax,decide_eq_false_iff_not,eq_self_iff_true,not_true_eq_false,not_false_eq_true,sz0,sz1,sz2,sz3,sz4,Cl.tr.injEq,Cl.dt.injEq,Cl.fd.injEq,Cl.dm.injEq,atI0,atI1,atI2,atI3".splitOn ",")++ws.tail).toArray.mapM fun s=>`(Lean.Parser.Tactic.simpLemma| $(Lean.mkIdent s.toName):term)
 let ls:=ds++rs
 `(tactic| ((try dsimp only [$ds:simpLemma,*]);try simp (config:={ maxSteps:=2000000 }) only [$ls:simpLemma,*]))
theorem zdd(T:Txt c K mg):#[8,dd_law_cell_at]:=by
 obtain⟨f,fd,F,hm⟩:=T.d_law_cell_at;have S:FnScope ["_law_script", "_law_k"] ["_law_script", "_law_k"] (zh zfU):=#[10]
 walk_at "d"
 . walk_at "m"
 . walk_at "l"
 refine⟨_,(zd (s_if (zr Jb (n3 1) (zp zD rfl T.n_len zz (za (n3 0) zb)) (nomark _)) (ze (zt (op3 zS (at3 (n3 0) (n3 1) #[4]) (op3 Jv i3 i3)))) zx)
  (ze (zt i3))),fun ds Q h=>?_⟩
 obtain⟨ns,k,rfl,hk,q⟩:=h
 walk_at "rd"
 rw [YaR]
 by_cases h:k<ns.length
 . rw [if_pos h]
   obtain⟨x,h1,_⟩:=zbM (xs:=ns) hk h;refine⟨.int x,by rw [Zt,h1];rfl,c64,?_⟩
   exact⟨#[1],q _⟩
 . rw [if_neg h]
   exact q _
theorem zgU(T:Txt c K mg):#[8,dd_law_mixed]:=by
 obtain⟨f,fd,F,hm⟩:=T.d_law_mixed;have S:FnScope ["_law_cell", "_law_k", "_law_one"] ["_law_cell", "_law_k"] (zh zfu):=#[10]
 walk_at "d"
 . walk_at "m"
 . walk_at "l"
 refine⟨_,(zd (#[9,zj,2] (op3 zS (op3 z6 (op3 zP (op3 zS (n3 0) (op3 Jv i3 i3)) (op3 z6 i3 (op3 zP (n3 1) i3))) i3) (op3 Jv i3 i3)))
  (ze (zt (op3 zS (op3 zN (op3 z6 (n3 2) (n3 2)) (op3 Jv i3 i3)) (op3 Jv i3 i3))))),fun ds Q h=>?_⟩
 obtain⟨cc,k,rfl,h0,h1,q⟩:=h
 walk_at "rd"
 have cp:∀ n:Int,0<=n->n<=100->JY 10 n:=fun n h h'=>powB (k:=4) (by unfold Bits;decide) h #[0]
 have hk:Bits 64 (k+1):=by unfold Bits;omega
 have b1:Bits 128 (cc%10 ^ Int.toNat 18):=(Bits.emod (Bits.lit 64) #[1] _).mono #[1]
 have b2:=(Bits.lit (x:=1442695040888963407) 64).mul hk;have b3:=b1.add b2;generalize cc%10 ^ Int.toNat 18+1442695040888963407*(k+1)=y at b3 ⊢;have b4:Bits 130 (y*6364136223846793005%10 ^ Int.toNat 37):=Bits.emod (by unfold Bits;decide) #[1] _
 generalize y*6364136223846793005%10 ^ Int.toNat 37=z at b4 ⊢;exact⟨cp 18 #[1] #[1],#[1],(Bits.lit (x:=1442695040888963407) 64).mulOk hk #[1],b3.mulOk (Bits.lit 64) #[1],cp 37 #[1] #[1],#[1],b4.mulOk b4 #[1],cp 17 #[1] #[1],divP,cp 56 #[1] #[1],#[1],q _⟩
theorem ZP(T:Txt c K mg):#[8,dd_law_wide]:=by
 have zmz:#[8,dd_law_mixed]:=zgU T;obtain⟨f,fd,F,hm⟩:=T.d_law_wide;have S:FnScope ["_law_cell", "_law_k"] ["_law_cell", "_law_k"] (zh zfj):=#[10]
 walk_at "d"
 . walk_at "m"
 . walk_at "l"
 refine⟨_,(zd (s_if (zr Jb (n3 0) (op3 Jv i3 i3) (nomark _)) (ze (zt (df3 hE zmz #[7] rfl zo (za (n3 0) (za (n3 1) zb))))) zx)
  (ze (zt (n3 0)))),fun ds Q h=>?_⟩
 obtain⟨cc,k,rfl,h0,h1,q⟩:=h
 walk_at "rd"
 refine⟨powB (k:=4) (by unfold Bits;decide) #[1] #[1],ite2 (fun _=>⟨h0,h1,q⟩) fun _=>q _⟩
theorem zgV(T:Txt c K mg):#[8,dd_law_spells]:=by
 have zmu:#[8,dd_law_cell_at]:=zdd T;have zmH:#[8,dd_law_wide]:=ZP T;obtain⟨f,fd,F,hm⟩:=T.d_law_spells;have S:FnScope ["_law_script", "_law_most", "_law_first", "_law_clans", "_law_count", "_law_spells_here", "_law_k", "_law_cell", "_law_length", "_law_size", "_law_weights", "_law_i"] ["_law_script", "_law_most"] (zh zga):=#[10]
 walk_at "d"
 . walk_at "m"
 . walk_at "l"
 refine⟨_,(zd (#[9,zj,2] (df3 hE zmu #[7] rfl zo (za (n3 0) (za i3 zb))))
  (zd (#[9,zj,3] (op3 zP i3 (op3 zS (n3 2) i3)))
  (zd (#[9,zj,4] (op3 zP i3 (op3 zS (op3 zN (n3 2) i3) i3)))
  (zd (#[9,jo,5] (jd zb))
  (zd (zE WaH rfl (jj rfl T.n_range (za (n3 4) zb)) #[9,zl,6] (zd (#[9,zj,7] (df3 hE zmH #[7] rfl zo (za (df3 hE zmu #[7] rfl zo (za (n3 0) (za (op3 zP i3 (n3 6)) zb))) (za (op3 zP (op3 zS (n3 2) i3) (op3 z6 i3 (n3 6))) zb))))
   (zd (#[9,zj,8] (op3 zP i3 (op3 zS (n3 7) (op3 zN (n3 1) (n3 4)))))
   (zd (#[9,zj,7] (op3 zN (n3 7) (op3 zN (n3 1) (n3 4))))
   (zd (#[9,zj,9] (at3 (new3 (jd (za i3 (za i3 (za i3 (za (op3 Jv i3 i3) zb)))))) (op3 zS (n3 7) i3) #[4]))
   (zd (#[9,zj,7] (op3 zN (n3 7) i3))
   (zd (#[9,jo,10] (jd zb))
   (zd (zE WaH rfl (jj rfl T.n_range (za (n3 3) zb)) #[9,zl,11] (zd (jH (i:=10) rfl #[2] (op3 zS (n3 7) (n3 9)))
    (ze (#[9,zj,7] (op3 zN (n3 7) (n3 9))))))
   (zd (s_if (zr (jg hr.units) (zp (Jk rfl) rfl T.n_sum Jo (za (n3 10) zb)) i3 (nomark _)) (ze (zao (i:=10) rfl #[2] (op3 zS (n3 7) (n3 3)) i3)) zx)
   (ze (jA [10] (jH (i:=5) rfl #[2] (z7 (za (n3 8) (za (n3 10) zb)))))))))))))))
  (ze (jA [5] (zt (n3 5))))))))),fun ds Q h=>?_⟩
 obtain⟨ns,m,rfl,h4,h60,q⟩:=h
 walk_at "rd"
 refine⟨ns,rfl,#[1],fun v=>⟨#[1],divP,#[1],#[0],#[0],?_⟩⟩
 obtain⟨n,hn⟩:∃ n:Nat,1+v%8=(n:Int):=⟨(1+v%8).toNat,#[0]⟩
 obtain⟨cn,hcn⟩:∃ n:Nat,1+v/8%4=(n:Int):=⟨(1+v/8%4).toNat,#[0]⟩
 have hn8:1<=n/\n<=8:=#[0]
 have hc4:1<=cn/\cn<=4:=#[0]
 rw [hn,hcn,Int.toNat_natCast];have hmul:(cn:Int)*(m/cn)<=m:=Int.mul_ediv_self_le #[0]
 have hper:1<=m/(cn:Int):=Int.le_ediv_of_mul_le #[0] #[0]
 have hper2:m/(cn:Int)<=60:=Int.le_trans (Int.ediv_le_self _ #[0]) h60
 have dcn:j4 m (cn:Int):=⟨#[0],Bits.lit (x:=(cn:Int)) 9000 #[0]⟩
 generalize hp:m/(cn:Int)=per at hmul hper hper2;have c6:JY 10 6:=powB (k:=4) (by unfold Bits;decide) #[1] #[1]
 refine ji (fun k ρ=>∃ (l:List Spell) (t1 t2 t3 t4 t5 t6:Option L3.Cl),ρ = [some (.sh false (.list (ns.map .int))),#[5,m],#[5,v],#[5,n],#[5,cn],some (.ow true (l.map dS)),t1,t2,t3,t4,t5,t6]/\l.length=k/\∀ s∈l,1<=s.1/\s.1<=per/\okW s.2/\s.2.length=n/\∀ w∈s.2,w<10 ^ 6) ?_ ?_ ⟨[],none,none,none,none,none,none,rfl,rfl,fun s h=>by cases h⟩
 . rintro k ρ hk ⟨l,t1,t2,t3,t4,t5,t6,rfl,hl,hs⟩ W hW
   walk_at "rd"
   rw [hp];refine⟨ns,rfl,#[0],fun v1=>⟨#[1],(Bits.lit (x:=64) 64).mulOk (Bits.lit (x:=0+(k:Int)) 64 #[0]) #[1],#[0],#[0],fun v2=>⟨dcn,#[0],dcn,⟨#[0],Bits.lit (x:=per) 9000 #[0]⟩,c6,#[1],?_⟩⟩⟩
   obtain⟨d,hd,hm,_⟩:=zbM (xs:=[PyData.int 3,PyData.int 11,PyData.int 2,PyData.int (10 ^ Int.toNat 6)]) (i:=v2/per%4) #[0] (by show v2/per%4<4;omega)
   obtain⟨sz',rfl,hs2,hs30⟩:∃ z,d=PyData.int z/\2<=z/\z<=10 ^ 6:=by
    simp only [Wa4,WaS,or_false] at hm
    rcases hm with rfl|rfl|rfl|rfl<;>exact⟨_,rfl,#[1],#[1]⟩
   refine⟨_,hd,?_⟩
   walk_at "rd"
   refine⟨divP,#[0],#[0],?_⟩
   have hsb:Bits 9000 sz':=Bits.lit (x:=sz') 9000 #[0]
   have hlen0:=Ybc v2 (show per≠0 by omega)
   have hlen1:=Ybd v2 (show 0<per by omega)
   rw [Int.toNat_natCast];refine ji (fun j ρ=>∃ (ws:List Int) (c':Int) (t:Option L3.Cl),ρ = [some (.sh false (.list (ns.map .int))),#[5,m],#[5,v],#[5,n],#[5,cn],some (.ow true (l.map dS)),#[5,0+k],#[5,c'],#[5,1+v2%per],#[5,sz'],some (.ow true (ws.map .int)),t]/\ws.length=j/\∀ w∈ws,0<=w/\w<10 ^ 6) ?_ ?_ ⟨[],_,t6,rfl,rfl,fun _ h=>by cases h⟩
   . rintro j ρ hj ⟨ws,c',t,rfl,hl',hw⟩ W' hW'
     walk_at "rd"
     rw [YaR];refine⟨#[0],YaU (show _<1000000 by omega) #[1],⟨#[0],hsb⟩,hW' _ ⟨ws++[c'%sz'],_,_,by rw [Ya2];rfl,by simp [hl'],fun w hw'=>?_⟩⟩
     rcases Ya3.mp hw' with z|z
     . exact hw w z
     . rw [Ya6.mp z]
       have:=Ybc c' (show sz'≠0 by omega)
       have:=Ybd c' (show 0<sz' by omega)
       exact⟨#[0],#[0]⟩
   . rintro ρ ⟨ws,c',t,rfl,hl',hw⟩
     have e6:(10:Int) ^ 6<=10 ^ 30:=#[1]
     have fin:∀ ws':List Int,ws'.length=n->(∀ w∈ws',0<=w/\w<10 ^ 6)->ws'.sum≠0->∀ t t7,W [some (.sh false (.list (ns.map .int))),#[5,m],#[5,v],#[5,n],#[5,cn],some (.ow true (l.map dS++[.tuple [.int (1+v2%per),.list (ws'.map .int)]])),#[5,0+k],#[5,c'],#[5,1+v2%per],#[5,sz'],t7,t]:=fun ws' h1 h2 h3 t t7=>hW _ ⟨l++[(1+v2%per,ws')],_,_,_,_,_,_,by rw [Ya2];rfl,by simp [hl],fun s hs'=>by
      rcases Ya3.mp hs' with z|z
      . exact hs s z
      . rw [Ya6.mp z]
        exact⟨by show 1<=1+v2%per;omega,by show 1+v2%per<=per;omega,⟨by show 1<=ws'.length/\ws'.length<=8;omega,fun w hw=>⟨(h2 w hw).1,by have:=(h2 w hw).2;omega⟩,h3⟩,h1,fun w hw=>(h2 w hw).2⟩⟩
     walk_at "rd"
     refine⟨ws,j6 _,?_⟩
     by_cases hz:ws.sum=0
     . rw [if_pos hz]
       have m0:=Ybc c' (show(n:Int)≠0 by omega)
       have m1:=Ybd c' (show 0<(n:Int) by omega)
       have hi:ixN (ws.map PyData.int).length (c'%n)=some (c'%n).toNat:=by
        rw [YaR];exact Jz m0 #[0]
       have e:(ws.map PyData.int).set (c'%n).toNat (PyData.int 1)=(ws.set (c'%n).toNat 1).map PyData.int:=by rw [Wbj]
       have hw':∀ w∈ws.set (c'%n).toNat 1,0<=w/\w<10 ^ 6:=fun w h=>by
        rcases Wag h with z|z
        . exact hw w z
        . subst z;exact⟨#[1],#[1]⟩
       refine⟨#[0],_,hi,?_⟩
       rw [e];exact⟨YaU (show _<1000000 by rw [YaR];omega) #[1],fin _ (by rw [YaN];exact hl') hw' (zhi (fun w h=>(hw' w h).1) (List.mem_set #[0] 1)) _ _⟩
     . rw [if_neg hz]
       exact⟨YaU (show _<1000000 by rw [YaR];omega) #[1],fin ws hl' hw hz _ _⟩
 . rintro ρ ⟨l,t1,t2,t3,t4,t5,t6,rfl,hl,hs⟩
   walk_at "rd"
   have hmany:∀ s∈l,s.2.length=many l:=fun s hs'=>by
    cases l with
    | nil=>cases hs'
    | cons a r=>exact(hs s hs').2.2.2.1.trans (hs a YaV).2.2.2.1.symm
   refine q l ⟨#[0],fun s hs'=>⟨(hs s hs').1,(hs s hs').2.2.1,hmany s hs'⟩,?_⟩ fun s hs'=>(hs s hs').2.2.2.2
   have:=zlI (l:=l) (B:=per) fun s hs'=>(hs s hs').2.1
   have h2:(l.length:Int)*per<=cn*per:=by rw [hl];exact Wbm _
   omega
theorem zgD(T:Txt c K mg):#[8,dd_law_long]:=by
 have zmF:#[8,dd_law_spells]:=zgV T;have zmH:#[8,dd_law_wide]:=ZP T;have zmu:#[8,dd_law_cell_at]:=zdd T;obtain⟨f,fd,F,hm⟩:=T.d_law_long;have S:FnScope ["_law_script", "_law_most", "_law_spells_here", "_law_length", "_law_weights"] ["_law_script", "_law_most"] (zh zeK):=#[10]
 walk_at "d"
 . walk_at "m"
 . walk_at "l"
 refine⟨_,(zd (s_if (zr (Jj hr.units) (op3 zS (op3 zN (df3 hE zmH #[7] rfl zo (za (df3 hE zmu #[7] rfl zo (za (n3 0) (za i3 zb))) (za i3 zb))) i3) i3) i3 (nomark _)) (ze (zt (df3 hE zmF #[7] rfl zo (za (n3 0) (za (n3 1) zb))))) zx)
  (zd (#[9,jo,2] (jd zb))
  (zd (zE WaH rfl (zR (df3 hE zmF #[7] rfl zo (za (n3 0) (za i3 zb)))) (jf (n:=2) rfl (zy #[9,zl,3] (zy #[9,zl,4] jb))) (ze (jH (i:=2) rfl #[2] (z7 (za (n3 3) (za (new3 (cat3 (new3 (jd (za (op3 zP (at3 (n3 4) i3 #[4]) i3) zb))) (new3 (zhh (n3 4) (zfd i3) (zfd i3))))) zb))))))
  (ze (jA [2] (zt (n3 2))))))),fun ds Q h=>?_⟩
 obtain⟨ns,m,rfl,h4,h60,q⟩:=h
 walk_at "rd"
 refine⟨ns,rfl,#[1],fun _=>⟨#[1],#[1],fun v=>⟨divP,#[1],ite2 (fun _=>⟨ns,rfl,h4,h60,fun l hl _=>q l hl⟩) fun _=>⟨ns,rfl,#[1],#[1],fun l hok hlt=>?_⟩⟩⟩⟩
 refine jL dS l (fun done ρ=>∃ (l':List Spell) (t u:Option L3.Cl),ρ = [some (.sh false (.list (ns.map .int))),#[5,m],some (.ow true (l'.map dS)),t,u]/\l'=done.map fun s=>(s.1,(s.2.getD 0 0+1)::(s.2.drop 1).take 1)) ?_ ?_ ⟨[],none,none,rfl,rfl⟩
 . rintro done s rest ρ hd ⟨l',t,u,rfl,hl'⟩ W hW
   have hs:s∈l:=by rw [hd];simp
   obtain⟨hs1,hsok,hsn⟩:=hok.2.1 s hs;have hg:=jJ (xs:=s.2) (i:=0) #[1] (by have:=hsok.1.1;omega)
   rw [show(0:Int).toNat=0 from rfl] at hg
   have hdl:done.length<=8:=by have:=hok.1.2;rw [hd,YaS] at this;omega
   walk_at "rd hg"
   have hcut:cut (s.2.map PyData.int) (some 1) (some 2)=((s.2.drop 1).take 1).map PyData.int:=by
    rw [zjw]
    congr 1
    have hl1:=hsok.1.1;unfold cut;have e1:HT.sIx s.2.length 0 (some 1)=1:=by
     have:=HT.sIx_nat s.2.length 0 1;rw [show((1:Nat):Int)=1 from rfl] at this
     rw [this];omega
    have e2:HT.sIx s.2.length s.2.length (some 2)=min 2 s.2.length:=by
     have:=HT.sIx_nat s.2.length s.2.length 2;rw [show((2:Nat):Int)=2 from rfl] at this
     rw [this]
    rw [e1,e2]
    by_cases h2:2<=s.2.length
    . rw [Nat.min_eq_left h2]
    . have e3:s.2.length=1:=#[0]
      rw [e3];have:s.2.drop 1=[]:=List.drop_eq_nil_of_le #[0]
      rw [this];rfl
   rw [hcut];refine⟨sz (by rw [YaR,WaN];omega),YaU (show _<1000 by rw [YaR,hl',YaR];omega) #[1],hW _ ⟨l'++[(s.1,(s.2.getD 0 0+1)::(s.2.drop 1).take 1)],_,_,by rw [Ya2];rfl,by rw [hl',Ya2];rfl⟩⟩
 . rintro ρ ⟨l',t,u,rfl,hl'⟩
   walk_at "rd"
   refine q l' ?_
   have hm:∀ s∈l,((s.2.getD 0 0+1)::(s.2.drop 1).take 1).length=1+min 1 (many l - 1):=fun s hs=>by
    have:=(hok.2.1 s hs).2.2;rw [List.length_cons,WaN,List.length_drop,this];omega
   have hmany:many l'=1+min 1 (many l - 1):=by
    cases l with
    | nil=>have:=hok.1.1;simp at this
    | cons a r=>rw [hl'];exact hm a YaV
   have hmk:=JS hok;refine⟨by rw [hl',YaR];exact hok.1,fun s hs=>?_,?_⟩
   . rw [hl'] at hs
     obtain⟨s0,hs0,rfl⟩:=Ya7.mp hs;obtain⟨a1,a2,a3⟩:=hok.2.1 s0 hs0;have hmem:s0.2.getD 0 0∈s0.2:=by
      rw [YaP,YaQ (by have:=a2.1.1;omega)];exact Ya4 _
     have h0:=a2.2.1 _ hmem;refine⟨a1,⟨by rw [hm s0 hs0];omega,fun w hw=>?_,?_⟩,by rw [hmany];exact hm s0 hs0⟩
     . rcases Wa4.mp hw with z|z
       . subst z
         have h6:=hlt s0 hs0 _ hmem
         omega
       . exact a2.2.1 w (List.mem_of_mem_drop (List.mem_of_mem_take z))
     . rw [List.sum_cons]
       have:=Za (ws:=(s0.2.drop 1).take 1) fun w hw=>(a2.2.1 w (List.mem_of_mem_drop (List.mem_of_mem_take hw))).1
       omega
   . have:tot l'=tot l:=by
      unfold tot;rw [hl',YaD];rfl
     rw [this];exact hok.2.2
theorem zkg(T:Txt c K mg):#[8,dd_law_quotas]:=by
 obtain⟨f,fd,F,hm⟩:=T.d_law_quotas;have S:FnScope ["_law_spells_here", "_law_bottom", "_law_length", "_law_weights", "_law_rows", "_law_turn", "_law_row_here", "_law_k", "_law_share"] ["_law_spells_here"] (zh zc5):=#[10]
 walk_at "d"
 . walk_at "m"
 . walk_at "l"
 refine⟨_,(zd (#[9,zj,1] i3)
  (zd (zE WaH rfl (zR (n3 0)) (jf (n:=2) rfl (zy #[9,zl,2] (zy #[9,zl,3] jb))) (ze (#[9,zj,1] (op3 z6 (n3 1) (zp (Jk rfl) rfl T.n_sum Jo (za (n3 3) zb))))))
  (zd (#[9,jo,4] (jd (za (new3 (jU ["_law_weight"] [] [] rfl (zY (osc:=zh zc5) #[3]) rfl (zR (at3 (at3 (n3 0) i3 #[4]) i3 #[4])) (fun H0 s H fp cl=>⟨(zl (i:=0) (show((["_law_weight"]:List PySem.Str)++([]:List PySem.Str)).Nodup by decide) rfl #[2]),jD,i3⟩))) zb)))
  (zd (zE WaH rfl (zR (n3 0)) (jf (n:=2) rfl (zy #[9,zl,2] (zy #[9,zl,3] jb))) (ze (zE WaH rfl (jj rfl T.n_range (za (n3 2) zb)) #[9,zl,5] (zd (#[9,jo,6] (jd zb))
   (zd (zE WaH rfl (jj rfl T.n_range (za (zp zD rfl T.n_len zz (za (n3 3) zb)) zb)) #[9,zl,7] (zd (#[9,zj,8] (op3 z6 (at3 (n3 3) (n3 7) #[4]) (op3 zN (n3 1) (zp (Jk rfl) rfl T.n_sum Jo (za (n3 3) zb)))))
    (ze (jH (i:=6) rfl #[2] (op3 zP (at3 (at3 (n3 4) (un3 ziL i3) #[4]) (n3 7) #[4]) (n3 8))))))
   (ze (jA [6] (jH (i:=4) rfl #[2] (n3 6)))))))))
  (ze (jA [4] (zt (z7 (za (n3 1) (za (n3 4) zb)))))))))),fun ds Q h=>?_⟩
 obtain⟨l,rfl,hok,q⟩:=h;have hm:=JS hok;have hB:=za5 hok;have hBb:=zbl hok;have hl0:l≠[]:=fun z=>by have:=hok.1.1;rw [z] at this;simp at this
 have hd0:atI (l.map dS) 0=some (dS (l.headD (0,[]))):=by
  cases l with
  | nil=>exact absurd rfl hl0
  | cons a r=>exact atI0
 walk_at "rd"
 refine jL dS l (fun done ρ=>∃ t u,ρ = [some (.sh false (.list (l.map dS))),#[5,zq done],t,u,none,none,none,none,none]) ?_ ?_ ⟨none,none,rfl⟩
 . rintro done s rest ρ hd ⟨t,u,rfl⟩ W hW
   have hs:s∈l:=by rw [hd];simp
   have hsok:=(hok.2.1 s hs).2.1;have hpd:=zbj done 1 1 (fun t ht=>(hok.2.1 t (by rw [hd];exact Yai _ ht)).2.1) #[1] (by unfold Bits;decide)
   have hdl:done.length<=8:=by have:=hok.1.2;rw [hd,YaS] at this;omega
   walk_at "rd"
   refine⟨s.2,j6 _,(hpd.2.mono (k:=900) #[0]).mulOk (Zm hsok) #[1],?_⟩
   rw [<-ziC];exact hW _ ⟨_,_,rfl⟩
 rintro ρ ⟨t,u,rfl⟩
 walk_at "rd hd0 atI1 YaR"
 refine⟨sz (by have:=hm.2;unfold many at this;omega),?_⟩
 refine ju PyData.int (fun _=>.int 0) (fun ρ=>∃ t,ρ = [t]) (l.headD (0,[])).2 ?_ _ _ _ _ ⟨none,rfl⟩ ?_
 . rintro w hw ρ fa acc K ⟨t,rfl⟩ k
   walk_at "rd"
   exact k _ ⟨_,rfl⟩
 have hz:(l.headD (0,[])).2.map (fun _=>PyData.int 0)=(zeros l).map .int:=by
  unfold zeros many;rw [Yaz,Wa0]
 rw [List.nil_append,hz];have hz0:Jx (many l) (zeros l,[zeros l]):=⟨by unfold zeros;simp,fun r hr=>by rw [Ya6.mp hr];unfold zeros;simp⟩
 refine jL dS l (fun done ρ=>∃ t1 t2 t3 t4 t5 t6 r,ρ = [some (.sh false (.list (l.map dS))),#[5,zq l],t1,t2,some (.ow true ((runQ (zq l) done (zeros l,[zeros l])).2.map dI)),t3,t4,t5,t6]/\Jx (many l) (runQ (zq l) done (zeros l,[zeros l]))/\(runQ (zq l) done (zeros l,[zeros l])).2=r++[(runQ (zq l) done (zeros l,[zeros l])).1]/\((runQ (zq l) done (zeros l,[zeros l])).2.length:Int)=1+tot done) ?_ ?_ ⟨_,_,none,none,none,none,[],rfl,hz0,rfl,rfl⟩
 . rintro done s rest ρ hd ⟨t1,t2,t3,t4,t5,t6,r,rfl,hlp,hlast,hlen⟩ W hW
   have hs:s∈l:=by rw [hd];simp
   obtain⟨hs1,hsok,hsn⟩:=hok.2.1 s hs;have hsl:s.2.length=many l:=hsn;have h1t:∀ s∈l,1<=s.1:=fun s hs=>(hok.2.1 s hs).1
   have hdt:tot done+s.1<=60:=by
    have h60:=hok.2.2;have e:tot l=tot done+(s.1+tot rest):=by unfold tot;rw [hd,Ya2,WaZ,Ya1,List.sum_cons]
    have:0<=tot rest:=jV fun s hs=>h1t s (by rw [hd];exact Yaa _ (YaT _ hs))
    omega
   have hdv:s.2.sum∣zq l:=ze4 hs;have hsp:=jS hsok;generalize hp:runQ (zq l) done (zeros l,[zeros l])=p at hlp hlast hlen;have er:runQ (zq l) (done++[s]) (zeros l,[zeros l])=rep (zA (shares (zq l) s.2)) s.1.toNat p:=by
    unfold runQ at hp ⊢;rw [WaB,hp];rfl
   have et:tot (done++[s])=tot done+s.1:=by unfold tot;rw [Ya2,WaZ];simp
   rw [er,et] at hW;have hsx:∀ i (hi:i<s.2.length),s.2[i]*(zq l/s.2.sum)=(shares (zq l) s.2).getD i 0:=fun i hi=>by
    unfold shares;rw [YaP,Ya0,YaQ hi];show _=s.2[i]*zq l/s.2.sum;rw [Int.mul_ediv_assoc _ hdv]
   have hshl:(shares (zq l) s.2).length=many l:=by rw [zcN];exact hsl
   generalize shares (zq l) s.2=sh at hW hsx hshl er
   walk_at "rd"
   refine⟨#[0],#[0],?_⟩
   refine ji (fun j ρ=>∃ t3 t4 t5 t6 r,ρ = [some (.sh false (.list (l.map dS))),#[5,zq l],#[5,s.1],some (.sh false (.list (s.2.map .int))),some (.ow true ((rep (zA sh) j p).2.map dI)),t3,t4,t5,t6]/\Jx (many l) (rep (zA sh) j p)/\(rep (zA sh) j p).2=r++[(rep (zA sh) j p).1]/\((rep (zA sh) j p).2.length:Int)=1+tot done+j) ?_ ?_ ⟨_,_,_,_,r,rfl,hlp,hlast,by show(p.2.length:Int)=_;omega⟩
   . rintro j ρ hj ⟨y3,y4,y5,y6,r,rfl,hlp',hlast',hlen'⟩ W' hW'
     rw [zeE] at hW';generalize rep (zA sh) j p=pj at hlp' hlast' hlen' hW';have hadl:(addL pj.1 sh).length=many l:=by rw [zbw (by rw [hlp'.1,hshl]),hlp'.1]
     have hla:atI (pj.2.map dI) (-1)=some (PyData.list (pj.1.map PyData.int)):=by
      rw [hlast',Ya2,Ya1,Wbe,zfF];rfl
     walk_at "rd"
     rw [YaR,hsl];refine⟨#[0],#[0],?_⟩
     rw [Int.toNat_natCast];refine ji (fun i ρ=>∃ t5 t6,ρ = [some (.sh false (.list (l.map dS))),#[5,zq l],#[5,s.1],some (.sh false (.list (s.2.map .int))),some (.ow true (pj.2.map dI)),#[5,0+j],some (.ow true (((addL pj.1 sh).take i).map .int)),t5,t6]) ?_ ?_ ⟨_,_,rfl⟩
     . rintro i ρ hi ⟨v5,v6,rfl⟩ W2 hW2
       have hi1:i<s.2.length:=by rw [hsl];exact hi
       have hi2:i<pj.1.length:=by rw [hlp'.1];exact hi
       have hi3:i<sh.length:=by rw [hshl];exact hi
       have hw:atI (s.2.map PyData.int) (0+(i:Int))=some (PyData.int s.2[i]):=zdg hi1;have hq:atI (pj.1.map PyData.int) (0+(i:Int))=some (PyData.int pj.1[i]):=zdg hi2;have htk:(addL pj.1 sh).take (i+1)=(addL pj.1 sh).take i++[pj.1[i]+sh.getD i 0]:=by
        rw [List.take_succ_eq_append_getElem (by rw [hadl];exact hi)]
        congr 2
        unfold addL
        simp [hi3]
       rw [htk,Ya2] at hW2;have hbs:Bits 900 (zq l/s.2.sum):=hBb.le (Yay _ _)
       walk_at "rd hw hla hq"
       refine⟨s.2,j6 _,⟨hsp,(Zm hsok).mono #[1]⟩,(zff hsok (Ya4 hi1)).mulOk hbs #[1],YaU (show _<1000000 by rw [YaR,WaN];omega) #[1],?_⟩
       rw [hsx i hi1];exact hW2 _ ⟨_,_,rfl⟩
     . rintro ρ ⟨v5,v6,rfl⟩
       walk_at "rd"
       refine⟨YaU (show _<1000000 by rw [YaR];omega) #[1],?_⟩
       rw [Wal (by rw [hadl];exact YaY _)]
       have hl2:Jx (many l) (zA sh pj):=⟨hadl,fun r hr=>by
        rcases Ya3.mp hr with z|z
        . exact hlp'.2 r z
        . rw [Ya6.mp z];exact hadl⟩
       exact hW' _ ⟨_,_,_,_,pj.2,by show _=[_,_,_,_,some (Cl.ow true ((pj.2++[addL pj.1 sh]).map dI)),_,_,_,_];rw [Ya2];rfl,hl2,rfl,by show((pj.2++[_]).length:Int)=_;rw [YaS];simp;omega⟩
   . rintro ρ ⟨y3,y4,y5,y6,r,rfl,hlp',hlast',hlen'⟩
     exact hW _ ⟨_,_,_,_,_,_,r,rfl,hlp',hlast',#[0]⟩
 . rintro ρ ⟨t1,t2,t3,t4,t5,t6,r,rfl,hlp,hlast,hlen⟩
   walk_at "rd"
   exact q
theorem zhM(T:Txt c K mg):#[8,dd_law_row]:=by
 have zmH:#[8,dd_law_wide]:=ZP T;obtain⟨f,fd,F,hm⟩:=T.d_law_row;have S:FnScope ["_law_bottom", "_law_rows", "_law_cell", "_law_way", "_law_clans", "_law_had", "_law_row_here", "_law_t", "_law_behind", "_law_clan"] ["_law_bottom", "_law_rows", "_law_cell"] (zh zbt):=#[10]
 walk_at "d"
 . walk_at "m"
 . walk_at "l"
 refine⟨_,(zd (#[9,zj,2] (df3 hE zmH #[7] rfl zo (za (n3 2) (za i3 zb))))
  (zd (#[9,zj,3] (op3 zS (n3 2) i3))
  (zd (#[9,zj,2] (op3 zN (n3 2) i3))
  (zd (#[9,zj,4] (zp zD rfl T.n_len zz (za (at3 (n3 1) i3 #[4]) zb)))
  (zd (#[9,jo,5] (jU ["_law_k"] [] [] rfl (zY (osc:=zh zbt) #[3]) rfl (jj rfl T.n_range (za (n3 4) zb)) (fun H0 s H fp cl=>⟨(zl (i:=0) (show((["_law_k"]:List PySem.Str)++([]:List PySem.Str)).Nodup by decide) rfl #[2]),jD,i3⟩)))
  (zd (#[9,jo,6] (jd zb))
  (zd (zE WaH rfl (zbb rfl T.n_range (za i3 (za (zp zD rfl T.n_len zz (za (n3 1) zb)) zb))) #[9,zl,7] (zd (#[9,ZA,8] ["_law_k"] ["_law_rows", "_law_t", "_law_had"] [1,7,5] rfl (zY (osc:=zh zbt) #[3]) rfl (jj rfl T.n_range (za (n3 4) zb)) (fun H0 s H fp cl=>⟨(zl (i:=0) (show((["_law_k"]:List PySem.Str)++(["_law_rows", "_law_t", "_law_had"]:List PySem.Str)).Nodup by decide) rfl #[2]),jD,(op3 jE (at3 (at3 (n3 1) (n3 2) #[4]) (n3 0) #[4]) (at3 (n3 3) (n3 0) #[4]))⟩))
   (zd (#[9,zj,9] (zjj (n3 8) (zp (zi2 rfl) rfl T.n_max zb6 (za (n3 8) zb))))
   (zd (s_if (zr (jg hr.units) (n3 3) i3 (nomark _)) (zd (#[9,zj,9] (op3 zS (n3 2) (n3 4)))
    (ze (#[9,zj,2] (op3 zN (n3 2) (n3 4))))) zx)
   (zd (s_if (zr (jg hr.units) (n3 3) i3 (nomark _)) (zd (s_if (zr (jg hr.units) (op3 zS (n3 2) i3) i3 (nomark _)) (ze (#[9,zj,9] (op3 zS (op3 zP (n3 9) i3) (n3 4)))) zx)
    (ze (#[9,zj,2] (op3 zN (n3 2) i3)))) zx)
   (zd (zao (i:=5) rfl #[2] (n3 9) (op3 zP (at3 (n3 5) (n3 9) #[4]) (n3 0)))
   (ze (jH (i:=6) rfl #[2] (n3 9)))))))))
  (ze (jA [6] (zt (n3 6))))))))))),fun ds Q h=>?_⟩
 obtain⟨b,rows,cc,n,rfl,h1,h8,hr1,hr61,hrn,q⟩:=h;have hmax:∀ i (hi:i<rows.length),rows[i].length=n:=fun i hi=>hrn _ (Ya4 hi)
 have hd0:atI (rows.map dI) 0=some (PyData.list (rows[0].map PyData.int)):=J4 (i:=0) #[0]
 have h0n:=hmax 0 #[0]
 walk_at "rd hd0 YaR h0n"
 refine⟨#[1],#[1],fun v=>⟨#[1],divP,#[0],#[0],sz (by unfold nums;simp;omega),?_⟩⟩
 rw [Int.toNat_natCast];unfold nums;refine ju (fun i:Nat=>PyData.int (0+(i:Nat))) (fun _=>PyData.int 0) (fun ρ=>∃ t,ρ = [t]) (List.range n) ?_ _ _ _ _ ⟨none,rfl⟩ ?_
 . rintro i hi ρ fa acc K ⟨t,rfl⟩ k
   walk_at "rd"
   exact k _ ⟨_,rfl⟩
 have hz:[]++(List.range n).map (fun _=>PyData.int 0)=(List.replicate n (0:Int)).map PyData.int:=by
  rw [List.nil_append,Wa0,YaG,Yaz]
 rw [hz];refine⟨#[1],#[1],#[0],#[0],?_⟩
 have e1:((rows.length:Int) - 1).toNat=rows.length - 1:=#[0]
 rw [e1];refine ji (lo:=1) (fun k ρ=>∃ (had row:List Int) (c':Int) (t u w:Option L3.Cl),ρ = [#[5,b],some (.sh false (.list (rows.map dI))),#[5,c'],#[5,v%3],#[5,n],some (.ow true (had.map PyData.int)),some (.ow true (row.map PyData.int)),t,u,w]/\had.length=n/\row.length=k/\∀ c∈row,0<=c/\c<(n:Int)) ?_ ?_ ⟨_,[],_,none,none,none,rfl,by simp,rfl,fun c h=>by cases h⟩
 . rintro k ρ hk ⟨had,row,c',t,u,w,rfl,hhad,hrow,hall⟩ W hW
   have hk1:k+1<rows.length:=#[0]
   have hrk:atI (rows.map dI) (1+(k:Int))=some (PyData.list (rows[k+1].map PyData.int)):=by
    rw [show(1+(k:Int))=((k+1:Nat):Int) by omega];exact J4 hk1
   have hrl:=hmax (k+1) hk1;have dn:∀ z:Int,j4 z (n:Int):=fun z=>⟨#[0],Bits.lit (x:=(n:Int)) 9000 #[0]⟩
   walk_at "g"
   refine zZ (fun ρ'=>∃ bh:List Int,ρ'=[#[5,b],some (.sh false (.list (rows.map dI))),#[5,c'],#[5,v%3],#[5,n],some (.ow true (had.map PyData.int)),some (.ow true (row.map PyData.int)),#[5,1+k],some (.sh true (.list (bh.map .int))),w]/\bh.length=n) (fun N hN=>?_) ?_
   . walk_at "rd"
     refine⟨#[0],#[0],sz (by unfold nums;simp;omega),?_⟩
     rw [Int.toNat_natCast];unfold nums;refine ju (fun i:Nat=>PyData.int (0+(i:Nat))) (fun i=>PyData.int (rows[k+1].getD i 0 - had.getD i 0)) (fun ρ=>∃ t,ρ = [t,some (.sh false (.list (rows.map dI))),#[5,1+k],some (.ow true (had.map .int))]) (List.range n) ?_ _ _ _ _ ⟨none,rfl⟩ ?_
     . rintro i hi ρ fa acc K ⟨t,rfl⟩ kk
       have hi':=Yba.mp hi;have ha:=jJ (xs:=rows[k+1]) (i:=0+(i:Int)) #[0] #[0]
       have hb:=jJ (xs:=had) (i:=0+(i:Int)) #[0] #[0]
       rw [show(0+(i:Int)).toNat=i by omega] at ha hb
       walk_at "rd hrk ha hb"
       exact kk _ ⟨_,rfl⟩
     . refine hN _ ⟨(List.range n).map fun i=>rows[k+1].getD i 0 - had.getD i 0,?_,by simp⟩
       rw [List.nil_append,YaD];rfl
   rintro ρ ⟨bh,rfl,hbh⟩
   have hbne:bh≠[]:=fun z=>by rw [z] at hbh;simp at hbh;omega
   refine zZ (fun ρ'=>∃ cl:Int,ρ'=[#[5,b],some (.sh false (.list (rows.map dI))),#[5,c'],#[5,v%3],#[5,n],some (.ow true (had.map PyData.int)),some (.ow true (row.map PyData.int)),#[5,1+k],some (.sh true (.list (bh.map .int))),#[5,cl]]/\0<=cl/\cl<n) (fun N hN=>?_) ?_
   . walk_at "rd"
     refine⟨bh,j6 _,bh,j6 _,hbne,zei hbne,hN _ ⟨_,rfl,#[0],?_⟩⟩
     have:=List.idxOf_lt_length_iff.mpr (zei hbne)
     omega
   rintro ρ ⟨cl,rfl,hcl⟩
   refine zZ (fun ρ'=>∃ c2 cl:Int,ρ'=[#[5,b],some (.sh false (.list (rows.map dI))),#[5,c2],#[5,v%3],#[5,n],some (.ow true (had.map PyData.int)),some (.ow true (row.map PyData.int)),#[5,1+k],some (.sh true (.list (bh.map .int))),#[5,cl]]/\0<=cl/\cl<n) (fun N hN=>?_) ?_
   . walk_at "rd"
     refine ite2 (fun _=>⟨#[0],dn _,hN _ ⟨_,_,rfl,Ybc _ #[0],Ybd _ #[0]⟩⟩) fun _=>hN _ ⟨_,_,rfl,hcl⟩
   clear hcl
   rintro ρ ⟨c2,cl,rfl,hcl⟩
   refine zZ (fun ρ'=>∃ c2 cl:Int,ρ'=[#[5,b],some (.sh false (.list (rows.map dI))),#[5,c2],#[5,v%3],#[5,n],some (.ow true (had.map PyData.int)),some (.ow true (row.map PyData.int)),#[5,1+k],some (.sh true (.list (bh.map .int))),#[5,cl]]/\0<=cl/\cl<n) (fun N hN=>?_) ?_
   . walk_at "rd"
     refine ite2 (fun _=>⟨#[1],ite2 (fun _=>⟨#[0],divP,hN _ ⟨_,_,rfl,Ybc _ #[0],Ybd _ #[0]⟩⟩) fun _=>⟨divP,hN _ ⟨_,_,rfl,hcl⟩⟩⟩) fun _=>hN _ ⟨_,_,rfl,hcl⟩
   clear hcl
   rintro ρ ⟨c2,cl,rfl,hcl⟩
   have hg:=jJ (xs:=had) (i:=cl) hcl.1 #[0]
   have hix:ixN (had.map PyData.int).length cl=some cl.toNat:=by rw [YaR];exact Jz hcl.1 #[0]
   walk_at "rd hg hix"
   refine⟨YaU (show _<1000000 by rw [YaR];omega) #[1],hW _ ⟨had.set cl.toNat (had.getD cl.toNat 0+b),row++[cl],_,_,_,_,by rw [Wbj,Ya2];rfl,by rw [YaN];exact hhad,by simp [hrow],fun x hx=>?_⟩⟩
   rcases Ya3.mp hx with z|z
   . exact hall x z
   . rw [Ya6.mp z];exact hcl
 . rintro ρ ⟨had,row,c',t,u,w,rfl,hhad,hrow,hall⟩
   walk_at "rd"
   exact q row #[0] hall
theorem zhS(T:Txt c K mg):#[8,dd_law_ratio]:=by
 obtain⟨f,fd,F,hm⟩:=T.d_law_ratio;have S:FnScope ["_law_top", "_law_bottom", "_law_one", "_law_other"] ["_law_top", "_law_bottom"] (zh zfk):=#[10]
 walk_at "d"
 . walk_at "m"
 . walk_at "l"
 refine⟨_,(zd (#[9,zj,2] (zp zdh rfl T.n_abs zcg (za (n3 0) zb)))
  (zd (#[9,zj,3] (n3 1))
  (zd (JB WaH (zr jY (n3 3) i3 (nomark _)) (ze (zl8 (i:=2) (j:=3) rfl S.nd rfl rfl #[1] rfl rfl (za (n3 3) (za (op3 zS (n3 2) (n3 3)) zb)))))
  (ze (zt (z7 (za (op3 zN (n3 0) (n3 2)) (za (op3 zN (n3 1) (n3 2)) zb)))))))),fun ds Q h=>?_⟩
 obtain⟨a,b,rfl,hb,hB,q⟩:=h
 walk_at "rd"
 refine⟨_,Jn (fun n ρ=>∃ g l,ρ = [#[5,a],#[5,b],#[5,g],#[5,l]]/\0<=g/\0<=l/\Int.gcd g l=Int.gcd a b/\n=l.toNat) ?_ _ _ ⟨_,_,rfl,by split<;>omega,#[0],?_,rfl⟩⟩
 . rintro n ρ ⟨g,l,rfl,hg,hl,hG,rfl⟩ W hW
   walk_at "rd"
   by_cases h0:0<l
   . rw [if_pos h0]
     have h1:=Ybc g (show l≠0 by omega)
     have h2:=Ybd g h0;exact⟨h0,hW (g%l).toNat _ #[0] ⟨l,g%l,rfl,hl,h1,(zdE hg h0).trans hG,rfl⟩⟩
   . rw [if_neg h0]
     have hz:l=0:=#[0]
     subst hz;have e:g=(Int.gcd a b:Int):=by rw [<-hG,zdD hg]
     subst e;exact⟨zfc hb hB,zfc hb hB,q⟩
 . have:=zgc a b
   rw [if_neg (show ¬b<0 by omega)] at this
   exact this
theorem zjH(T:Txt c K mg):#[8,dd_law_limits]:=by
 have zmH:#[8,dd_law_wide]:=ZP T;have zmC:#[8,dd_law_ratio]:=zhS T;obtain⟨f,fd,F,hm⟩:=T.d_law_limits;have S:FnScope ["_law_bottom", "_law_rows", "_law_row_here", "_law_cell", "_law_own", "_law_clans", "_law_had", "_law_most", "_law_t", "_law_k", "_law_bounds", "_law_pair", "_law_side", "_law_under"] ["_law_bottom", "_law_rows", "_law_row_here", "_law_cell", "_law_own"] (zh zbJ):=#[10]
 walk_at "d"
 . walk_at "m"
 . walk_at "l"
 refine⟨_,(zd (#[9,zj,5] (zp zD rfl T.n_len zz (za (at3 (n3 1) i3 #[4]) zb)))
  (zd (#[9,zh4,6] ["_law_k"] [] [] rfl (zY (osc:=zh zbJ) #[3]) rfl (jj rfl T.n_range (za (n3 5) zb)) (fun H0 s H fp cl=>⟨(zl (i:=0) (show((["_law_k"]:List PySem.Str)++([]:List PySem.Str)).Nodup by decide) rfl #[2]),jD,i3⟩))
  (zd (#[9,zea,7] ["_law_k"] [] [] rfl (zY (osc:=zh zbJ) #[3]) rfl (jj rfl T.n_range (za (n3 5) zb)) (fun s H fp cl=>⟨jp (i:=0) (show((["_law_k"]:List PySem.Str)++([]:List PySem.Str)).Nodup by decide) rfl #[2] (by first|exact .inl rfl|exact .inr rfl),zbT (zm jR (zm jR zK))⟩) (fun σ H Q h=>⟨show 2<=sizeLine by decide,h⟩) (fun G=>(RdVs.cons (RdV.int 0) (RdVs.cons (RdV.int 0) RdVs.nil))) rfl)
  (zd (zE WaH rfl (zbb rfl T.n_range (za i3 (za (zp zD rfl T.n_len zz (za (n3 1) zb)) zb))) #[9,zl,8] (zd (zao (i:=6) rfl #[2] (at3 (n3 2) (op3 jE (n3 8) i3) #[4]) (op3 zP (at3 (n3 6) (at3 (n3 2) (op3 jE (n3 8) i3) #[4]) #[4]) (n3 0)))
   (ze (zE WaH rfl (jj rfl T.n_range (za (n3 5) zb)) #[9,zl,9] (zd (zdF (i:=7) rfl #[2] (n3 9) i3 (zp (ze7 rfl) rfl T.n_max zb6 (za (at2 (i:=7) rfl #[2] (n3 9) i3 #[4] #[4]) (za (op3 jE (at3 (at3 (n3 1) (n3 8) #[4]) (n3 9) #[4]) (at3 (n3 6) (n3 9) #[4])) zb))) #[4])
    (ze (zdF (i:=7) rfl #[2] (n3 9) i3 (zp (ze7 rfl) rfl T.n_max zb6 (za (at2 (i:=7) rfl #[2] (n3 9) i3 #[4] #[4]) (za (op3 jE (at3 (n3 6) (n3 9) #[4]) (at3 (at3 (n3 1) (n3 8) #[4]) (n3 9) #[4])) zb))) #[4])))))))
  (zd (#[9,jo,10] (jd zb))
  (zd (#[9,zj,3] (df3 hE zmH #[7] rfl zo (za (n3 3) (za i3 zb))))
  (zd (zE WaH rfl (jj rfl T.n_range (za (n3 5) zb)) #[9,zl,9] (zd (#[9,jo,11] (jd (za (z7 (za i3 (za i3 zb))) (za (z7 (za i3 (za i3 zb))) zb))))
   (zd (zE WaH rfl (jj rfl T.n_range (za i3 zb)) #[9,zl,12] (zd (#[9,zj,13] (op3 zP i3 (op3 zS (op3 zN (n3 3) i3) i3)))
    (zd (s_if (pw3 (Zn (zr (jg hr.units) (op3 zS (n3 3) i3) i3 (nomark _)) (Zh (val3 (n3 4))))) (ze (zao (i:=11) rfl #[2] (n3 12) (df3 hE zmC #[7] rfl zo (za (zp (zhe rfl) rfl T.n_min zg6 (za (at2 (i:=7) rfl #[2] (n3 9) (n3 12) #[4] #[4]) (za (op3 z6 i3 (n3 0)) zb))) (za (n3 0) zb))))) zx)
    (zd (s_if (pw3 (JX (zr (jg hr.units) (op3 zS (n3 3) i3) i3 (nomark _)) (J3 (Jc (val3 (n3 4)))))) (ze (zao (i:=11) rfl #[2] (n3 12) (df3 hE zmC #[7] rfl zo (za (op3 zS (op3 zN (n3 3) i3) (op3 z6 i3 (n3 13))) (za (n3 13) zb))))) zx)
    (ze (#[9,zj,3] (op3 zN (op3 zN (n3 3) i3) (op3 z6 i3 (n3 13)))))))))
   (ze (jH (i:=10) rfl #[2] (z7 (za (at3 (n3 11) i3 #[4]) (za (at3 (n3 11) i3 #[4]) zb))))))))
  (ze (jA [10] (zt (n3 10))))))))))),fun ds Q h=>?_⟩
 obtain⟨b,rows,row,cc,own,n,rfl,hb0,hbb,h1,h8,hr61,hrl,hrn,hc,q⟩:=h;have hmax:∀ i (hi:i<rows.length),rows[i].length=n:=fun i hi=>hrn _ (Ya4 hi)
 have hd0:atI (rows.map dI) 0=some (PyData.list (rows[0].map PyData.int)):=J4 (i:=0) #[0]
 have h0n:=hmax 0 #[0]
 walk_at "s"
 walk_at "rd hd0 YaR h0n"
 walk_at "v"
 refine⟨#[0],#[0],sz (by unfold nums;simp;omega),?_⟩
 rw [Int.toNat_natCast];unfold nums;refine ju (fun i:Nat=>PyData.int (0+(i:Nat))) (fun _=>PyData.int 0) (fun ρ=>∃ t,ρ = [t]) (List.range n) ?_ _ _ _ _ ⟨none,rfl⟩ ?_
 . rintro i hi ρ fa acc K ⟨t,rfl⟩ k
   walk_at "rd"
   exact k _ ⟨_,rfl⟩
 have hz:[]++(List.range n).map (fun _=>PyData.int 0)=(List.replicate n (0:Int)).map PyData.int:=by
  rw [List.nil_append,Yaz,Wa0,YaG]
 rw [hz];walk_at "v"
 refine⟨#[0],#[0],by rw [zcY];omega,fun ps hps=>hN _ ?_⟩
 clear hN N;rw [zcY,Int.toNat_natCast];have hm0:List.replicate n [PyData.int 0,PyData.int 0]=(List.range n).map fun _=>pr2 (0,0):=by
  rw [Wa0,YaG];rfl
 rw [hm0];have e1:((rows.length:Int) - 1).toNat=row.length:=#[0]
 refine zZ (fun ρ=>∃ (g:Nat->Int×Int) (hd:List Int) (t8 t9:Option L3.Cl),ρ = lE b rows row cc own n hd ps g [t8,t9,none,none,none,none]/\hd.length=n/\∀ k,0<=(g k).1/\0<=(g k).2) (fun N hN=>?_) ?_
 . walk_at "rd"
   rw [YaR,e1];refine⟨#[1],#[1],#[0],#[0],?_⟩
   refine ji (lo:=1) (fun t ρ=>∃ (g:Nat->Int×Int) (hd:List Int) (t8 t9:Option L3.Cl),ρ = lE b rows row cc own n hd ps g [t8,t9,none,none,none,none]/\hd.length=n/\∀ k,0<=(g k).1/\0<=(g k).2) ?_ (fun ρ h=>hN ρ h) ⟨fun _=>(0,0),List.replicate n 0,none,none,rfl,Ybb ..,fun _=>⟨Wbm _,Wbm _⟩⟩
   rintro t ρ ht ⟨g,hd,t8,t9,rfl,hhl,hg⟩ W hW
   have hk1:t+1<rows.length:=#[0]
   have hck:=hc row[t] (Ya4 ht);have hrk:atI (row.map PyData.int) (1+(t:Int) - 1)=some (PyData.int row[t]):=by
    rw [show 1+(t:Int) - 1=0+(t:Int) by omega];exact zdg ht
   have hrr:atI (rows.map dI) (1+(t:Int))=some (PyData.list (rows[t+1].map PyData.int)):=by
    rw [show(1+(t:Int))=((t+1:Nat):Int) by omega];exact J4 hk1
   have hrl:=hmax (t+1) hk1;have hga:=jJ (xs:=hd) (i:=row[t]) hck.1 #[0]
   have hix:ixN (hd.map PyData.int).length row[t]=some row[t].toNat:=by rw [YaR];exact Jz hck.1 #[0]
   obtain⟨hd',hset,hl'⟩:∃ hd':List Int,(hd.map PyData.int).set row[t].toNat (PyData.int (hd.getD row[t].toNat 0+b))=hd'.map PyData.int/\hd'.length=n:=⟨hd.set row[t].toNat (hd.getD row[t].toNat 0+b),by rw [Wbj],by rw [YaN,hhl]⟩
   walk_at "g"
   walk_at "s"
   walk_at "rd hrk hga hix hset"
   walk_at "n"
   walk_at "rd"
   refine⟨#[0],#[0],?_⟩
   rw [Int.toNat_natCast];refine ji (fun i ρ=>∃ (g:Nat->Int×Int) (t9:Option L3.Cl),ρ = lE b rows row cc own n hd' ps g [#[5,1+t],t9,none,none,none,none]/\∀ k,0<=(g k).1/\0<=(g k).2) ?_ ?_ ⟨g,_,rfl,hg⟩
   . rintro i ρ hi ⟨g,t9,rfl,hg⟩ W' hW'
     have ha:=jJ (xs:=rows[t+1]) (i:=0+(i:Int)) #[0] #[0]
     have hb:=jJ (xs:=hd') (i:=0+(i:Int)) #[0] #[0]
     rw [show(0+(i:Int)).toNat=i by omega] at ha hb
     generalize hd'.getD i 0=hv at hb;generalize rows[t+1].getD i 0=rv at ha;have hixn:∀ {α : Type} (f:Nat->α),ixN ((List.range n).map f).length (0+(i:Int))=some i:=fun f=>by
      rw [YaR,YaG,Jz #[0] #[0]];congr 1;omega
     have hat:∀ {α : Type} (f:Nat->α),atI ((List.range n).map f) (0+(i:Int))=some (f i):=fun f=>by
      rw [zfX f (xs:=List.range n) (by rw [YaG];exact hi),List.getElem_range]
     have p0:∀ p:Int×Int,atI (pr2 p) 0=some (PyData.int p.1):=fun _=>rfl
     have p1:∀ p:Int×Int,atI (pr2 p) 1=some (PyData.int p.2):=fun _=>rfl
     have x0:∀ p:Int×Int,ixN (pr2 p).length 0=some 0:=fun _=>rfl
     have x1:∀ p:Int×Int,ixN (pr2 p).length 1=some 1:=fun _=>rfl
     have s0:∀ (p:Int×Int) (y:Int),(pr2 p).set 0 (PyData.int y)=pr2 (y,p.2):=fun _ _=>rfl
     have s1:∀ (p:Int×Int) (y:Int),(pr2 p).set 1 (PyData.int y)=pr2 (p.1,y):=fun _ _=>rfl
     have hms:∀ (g:Nat->Int×Int) (p:Int×Int),((List.range n).map fun k=>pr2 (g k)).set i (pr2 p)=(List.range n).map fun k=>pr2 (if k=i then p else g k):=fun g p=>by
      rw [zmc]
      congr 1
      funext k
      split<;>rfl
     walk_at "g"
     refine zZ (fun ρ'=>∃ g2:Nat->Int×Int,ρ'=lE b rows row cc own n hd' ps g2 [#[5,1+t],#[5,0+i],none,none,none,none]/\∀ k,0<=(g2 k).1/\0<=(g2 k).2) (fun N hN=>?_) ?_
     . walk_at "rd hrr ha hb hixn hat p0 p1 x0 x1 s0 s1 hms"
       refine hN _ ⟨_,rfl,fun k=>?_⟩
       have:=hg i
       split
       . exact⟨by dsimp only;split<;>omega,this.2⟩
       . exact hg k
     rintro ρ ⟨g2,rfl,hg2⟩
     walk_at "rd hrr ha hb hixn hat p0 p1 x0 x1 s0 s1 hms"
     refine hW' _ ⟨_,_,rfl,fun k=>?_⟩
     have:=hg2 i
     split
     . exact⟨this.1,by dsimp only;split<;>omega⟩
     . exact hg2 k
   . rintro ρ ⟨g,t9,rfl,hg⟩
     exact hW _ ⟨g,hd',_,_,rfl,hl',hg⟩
 rintro ρ ⟨g,hd,t8,t9,rfl,hhl,hg⟩
 walk_at "q"
 walk_at "v"
 refine⟨#[1],#[1],fun v=>hN _ ?_⟩
 clear hN N
 walk_at "rd"
 refine⟨#[0],#[0],?_⟩
 rw [Int.toNat_natCast];refine ji (fun k ρ=>∃ (bs:List (Rat2×Rat2)) (c':Int) (t9 t11 t12 t13:Option L3.Cl),ρ = lE b rows row c' own n hd ps g [t8,t9,some (.ow true (bs.map dP)),t11,t12,t13]/\bs.length=k/\∀ p∈bs,(okQ p.1/\okQ p.2)/\inQ p.1/\inQ p.2) ?_ ?_ ⟨[],_,_,none,none,none,rfl,rfl,fun p h=>by cases h⟩
 . rintro k ρ hk ⟨bs,c',t9,t11,t12,t13,rfl,hbl,hall⟩ W hW
   walk_at "g"
   walk_at "q"
   walk_at "n";have qi:∀ x y:Int,0<y->0<=x->x<=10*y->Bits 1000 y->okQ (lowQ x y)/\inQ (lowQ x y):=fun x y h h0 h1 hb=>⟨zjD h ((((Bits.lit (x:=10) 64).mul hb).le #[0]).mono #[1]) (hb.mono #[1]),zlK h h0 h1⟩
   refine zZ (fun ρ'=>∃ (r0 r1:Rat2) (c':Int) (t12 t13:Option L3.Cl),ρ'=lE b rows row c' own n hd ps g [t8,#[5,0+k],some (.ow true (bs.map dP)),some (.ow true [dQ r0,dQ r1]),t12,t13]/\(okQ r0/\inQ r0)/\okQ r1/\inQ r1) (fun N hN=>?_) ?_
   . walk_at "rd"
     refine⟨#[1],#[1],?_⟩
     rw [show(2:Int).toNat=2 from rfl]
     refine ji (fun i ρ=>∃ (r0 r1:Rat2) (c':Int) (t12 t13:Option L3.Cl),ρ = lE b rows row c' own n hd ps g [t8,#[5,0+k],some (.ow true (bs.map dP)),some (.ow true [dQ r0,dQ r1]),t12,t13]/\(okQ r0/\inQ r0)/\okQ r1/\inQ r1) ?_ (fun ρ h=>hN ρ h) ⟨(1,1),(1,1),_,_,_,rfl,⟨⟨#[1],Bits.lit (x:=1) 1200,Bits.lit (x:=1) 1200⟩,#[1],#[1]⟩,⟨#[1],Bits.lit (x:=1) 1200,Bits.lit (x:=1) 1200⟩,#[1],#[1]⟩
     rintro i ρ hi ⟨r0,r1,c',t12,t13,rfl,hr0,hr1⟩ W' hW'
     have hat:∀ {α : Type} (f:Nat->α),atI ((List.range n).map f) (0+(k:Int))=some (f k):=fun f=>by
      rw [zfX f (xs:=List.range n) (by rw [YaG];exact hk),List.getElem_range]
     obtain⟨m,hm0,hm⟩:∃ m:Int,0<=m/\atI (pr2 (g k)) (0+(i:Int))=some (PyData.int m):=by
      rcases(show i=0\/i=1 by omega) with rfl|rfl
      . exact⟨_,(hg k).1,rfl⟩
      . exact⟨_,(hg k).2,rfl⟩
     have put:∀ r,okQ r/\inQ r->∀ r0 r1,(okQ r0/\inQ r0)/\okQ r1/\inQ r1->∃ j,ixN ([dQ r0,dQ r1]:List D).length (0+(i:Int))=some j/\∃ s0 s1,([dQ r0,dQ r1]:List D).set j (dQ r)=[dQ s0,dQ s1]/\(okQ s0/\inQ s0)/\okQ s1/\inQ s1:=fun r hr r0 r1 ⟨h0,h1⟩=>by
      rcases(show i=0\/i=1 by omega) with rfl|rfl
      . exact⟨0,rfl,r,r1,rfl,hr,h1⟩
      . exact⟨1,rfl,r0,r,rfl,h0,hr⟩
     walk_at "g"
     have hu:1<=1+c'/3%6/\1+c'/3%6<=6:=#[0]
     walk_at "q"
     refine⟨divP,#[1],hN _ ?_⟩
     clear hN N;generalize 1+c'/3%6=ud at hu ⊢;have hmu:IntMulOk 2 ud:=(Bits.lit (x:=2) 64).mulOk (Bits.lit (x:=ud) 64 #[0]) #[1]
     have fin:∀ (r0 r1:Rat2),(okQ r0/\inQ r0)/\okQ r1/\inQ r1->W' (lE b rows row ((c'/18/(2*ud))) own n hd ps g [t8,#[5,0+k],some (.ow true (bs.map dP)),some (.ow true [dQ r0,dQ r1]),#[5,0+i],#[5,ud]]):=fun r0 r1 h=>hW' _ ⟨r0,r1,_,_,_,rfl,h⟩
     clear hW';refine zZ (fun ρ'=>∃ (r0 r1:Rat2),ρ'=lE b rows row c' own n hd ps g [t8,#[5,0+k],some (.ow true (bs.map dP)),some (.ow true [dQ r0,dQ r1]),#[5,0+i],#[5,ud]]/\(okQ r0/\inQ r0)/\okQ r1/\inQ r1) (fun N hN=>?_) ?_
     . walk_at "rd hat hm"
       obtain⟨j,hj,s0,s1,hs,h⟩:=put _ (qi (if 10*b<m then 10*b else m) b hb0 (by split<;>omega) (by split<;>omega) (hbb.mono #[1])) r0 r1 ⟨hr0,hr1⟩
       have y:=hN _ ⟨s0,s1,rfl,h⟩;rw [<-hs] at y;exact⟨#[1],ite2 (fun _=>⟨(Bits.lit (x:=10) 64).mulOk hbb #[1],hb0,hbb.mono #[1],j,hj,y⟩) fun _=>ite2 (fun _=>⟨(Bits.lit (x:=10) 64).mulOk hbb #[1],hb0,hbb.mono #[1],j,hj,y⟩) fun _=>hN _ ⟨r0,r1,rfl,hr0,hr1⟩⟩
     clear hr0 hr1 r0 r1
     rintro ρ ⟨r0,r1,rfl,hr0,hr1⟩
     walk_at "rd"
     have e0:=Ybc (c'/18) (show 2*ud≠0 by omega)
     have e1:=Ybd (c'/18) (show 0<2*ud by omega)
     obtain⟨j,hj,s0,s1,hs,h⟩:=put _ (qi (c'/18%(2*ud)) ud #[0] e0 #[0] (Bits.lit (x:=ud) 1000 #[0])) r0 r1 ⟨hr0,hr1⟩
     have y:=fin s0 s1 h;rw [<-hs] at y;have y2:=fin r0 r1 ⟨hr0,hr1⟩;have dd:j4 (c'/18) (2*ud):=⟨#[0],Bits.lit (x:=2*ud) 9000 #[0]⟩
     exact⟨#[1],ite2 (fun _=>ite2 (fun _=>⟨divP,hmu,#[0],#[0],Bits.lit (x:=ud) 9000 #[0],j,hj,divP,hmu,dd,y⟩) fun _=>⟨divP,hmu,dd,y2⟩) fun _=>⟨divP,hmu,dd,y2⟩⟩
   rintro ρ ⟨r0,r1,c',t12,t13,rfl,hr0,hr1⟩
   walk_at "rd atI0 atI1 YaR"
   refine⟨YaU (show _<1000 by omega) #[1],hW _ ⟨bs++[(r0,r1)],_,_,_,_,_,by rw [Ya2];rfl,by simp [hbl],fun p hp=>?_⟩⟩
   rcases Ya3.mp hp with z|z
   . exact hall p z
   . rw [Ya6.mp z];exact⟨⟨hr0.1,hr1.1⟩,hr0.2,hr1.2⟩
 . rintro ρ ⟨bs,c',t9,t11,t12,t13,rfl,hbl,hall⟩
   walk_at "rd"
   exact q bs ⟨hbl,fun p hp=>(hall p hp).2⟩ fun p hp=>(hall p hp).1
theorem ziG(T:Txt c K mg):#[8,dd_law_rules]:=by
 have zmH:#[8,dd_law_wide]:=ZP T;obtain⟨f,fd,F,hm⟩:=T.d_law_rules;have S:FnScope ["_law_turns", "_law_clans", "_law_cell", "_law_rules_here", "_law_count", "_law_k", "_law_word"] ["_law_turns", "_law_clans", "_law_cell"] (zh zfJ):=#[10]
 walk_at "d"
 . walk_at "m"
 . walk_at "l"
 refine⟨_,(zd (#[9,jo,3] (jd zb))
  (zd (#[9,zj,2] (df3 hE zmH #[7] rfl zo (za (n3 2) (za i3 zb))))
  (zd (#[9,zj,4] (op3 zS (n3 2) i3))
  (zd (#[9,zj,2] (op3 zN (n3 2) i3))
  (zd (zE WaH rfl (jj rfl T.n_range (za (n3 4) zb)) #[9,zl,5] (zd (#[9,zj,6] (at3 (new3 (jd (za s3 (za s3 (za s3 zb))))) (op3 zS (n3 2) i3) #[4]))
   (zd (jH (i:=3) rfl #[2] (z7 (za (n3 6) (za (op3 zP i3 (op3 zS (op3 zN (n3 2) i3) (n3 0))) (za (op3 zS (op3 zN (op3 zN (n3 2) i3) (n3 0)) (n3 1)) zb)))))
   (ze (#[9,zj,2] (op3 zN (op3 zN (op3 zN (n3 2) i3) (n3 0)) (n3 1)))))))
  (ze (jA [3] (zt (n3 3))))))))),fun ds Q h=>?_⟩
 obtain⟨T',n,cc,rfl,hT1,hT2,hn1,hn2,q⟩:=h;walk_at "q"
 walk_at "v"
 refine⟨#[1],#[1],fun v=>hN _ ?_⟩
 walk_at "w"
 refine⟨#[1],hN _ ?_⟩
 clear hN N;have hc8:0<=v%8/\v%8<8:=#[0]
 generalize v%8=cn at hc8 ⊢;walk_at "q"
 refine⟨divP,hN _ ?_⟩
 clear hN N
 walk_at "rd"
 refine⟨#[0],#[0],?_⟩
 refine ji (fun k ρ=>∃ (rs:List Rule) (c':Int) (t5 t6:Option L3.Cl),ρ = [#[5,T'],#[5,n],#[5,c'],some (.ow true (rs.map dRl)),#[5,cn],t5,t6]/\okRs T' n rs/\txtR rs/\rs.length=k) ?_ ?_ ⟨[],_,none,none,rfl,fun r h=>(by cases h),fun r h=>(by cases h),rfl⟩
 . rintro k ρ hk ⟨rs,x,t5,t6,rfl,hok,htx,hl⟩ W hW
   walk_at "g"
   obtain⟨d,hd,hm,_⟩:=zbM (xs:=[PyData.str "barred", PyData.str "fixed", PyData.str "barred"]) (i:=x%3) #[0] (by show x%3<3;omega)
   obtain⟨w,rfl,hw,hs⟩:∃ z:Str,d=PyData.str z/\(z = "fixed"\/z = "barred")/\SeqAt.shaped (.str z)=true:=by
    simp only [Wa4,WaS,or_false] at hm
    rcases hm with rfl|rfl|rfl
    . exact⟨_,rfl,.inr rfl,zeo⟩
    . exact⟨_,rfl,.inl rfl,ziD⟩
    . exact⟨_,rfl,.inr rfl,zeo⟩
   walk_at "q"
   refine⟨#[1],_,hd,hN _ ?_⟩
   clear hN N hd hm;have e1:=Ybc (x/3) (show T'≠0 by omega)
   have e2:=Ybd (x/3) (show 0<T' by omega)
   have e3:=Ybc (x/3/T') (show n≠0 by omega)
   have e4:=Ybd (x/3/T') (show 0<n by omega)
   walk_at "rd YaR"
   have dT:j4 (x/3) T':=⟨#[0],Bits.lit (x:=T') 9000 #[0]⟩
   have dn:j4 (x/3/T') n:=⟨#[0],Bits.lit (x:=n) 9000 #[0]⟩
   refine⟨divP,#[0],divP,dT,#[0],YaU (show _<1000 by omega) #[1],divP,dT,dn,hW _ ⟨rs++[(w,1+x/3%T',x/3/T'%n)],_,_,_,by rw [Ya2];rfl,fun r hr=>?_,fun r hr=>?_,by simp [hl]⟩⟩
   . rcases Ya3.mp hr with z|z
     . exact hok r z
     . rw [Ya6.mp z]
       exact⟨hw,⟨by show 1<=1+x/3%T';omega,by show 1+x/3%T'<=T';omega⟩,e3,e4⟩
   . rcases Ya3.mp hr with z|z
     . exact htx r z
     . rw [Ya6.mp z];exact hs
 rintro ρ ⟨rs,c',t5,t6,rfl,hok,htx,hl⟩
 walk_at "rd"
 exact q rs hok htx #[0]
theorem zjX(T:Txt c K mg):#[8,dd_check_weights c]:=by
 obtain⟨f,fd,F,hm⟩:=T.d_check_weights;have S:FnScope ["weights", "weight"] ["weights"] (zh zfH):=#[10]
 walk_at "d"
 . walk_at "m"
 . walk_at "l"
 refine⟨_,(zd (s_if (Jc (za2 j0 j0 i3 (zp zD rfl T.n_len zz (za (n3 0) zb)) (g3i rfl T.m_MOST_CLANS))) (ze (jw hE jq rfl rfl T.m_NoSpell T.e_NoSpell (za s3 zb))) zx)
  (zd (zE WaH rfl (zR (n3 0)) #[9,zl,1] (zd (s_if (zr Jb (n3 1) i3 (nomark _)) (ze (jw hE jq rfl rfl T.m_NoSpell T.e_NoSpell (za s3 zb))) zx)
   (ze (s_if (zr zdM (n3 1) (op3 Jv i3 i3) (nomark _)) (ze (jw hE jq rfl rfl T.m_NoSpell T.e_NoSpell (za s3 zb))) zx))))
  (ze (s_if (zr (jg hr.units) (zp (Jk rfl) rfl T.n_sum Jo (za (n3 0) zb)) i3 (nomark _)) (ze (jw hE jq rfl rfl T.m_NoSpell T.e_NoSpell (za s3 zb))) zx)))),fun ds Q h=>?_⟩
 obtain⟨ws,rfl,q,hE'⟩:=h
 walk_at "rd"
 simp only [YaR]
 by_cases h1:1<=(ws.length:Int)
 case neg=>rw [if_neg h1];exact hE' fun z=>h1 (by have:=z.1.1;omega)
 rw [if_pos h1]
 by_cases h2:(ws.length:Int)<=8
 case neg=>rw [if_pos h2];exact hE' fun z=>h2 (by have:=z.1.2;omega)
 rw [if_neg (fun z=>z h2)]
 refine Zj (fun ds ρ=>∃ rest t,ds=rest.map PyData.int/\ρ = [some (.sh false (.list (ws.map .int))),t]/\(∀ w∈rest,w∈ws)/\∀ w∈ws,w∈rest\/(0<=w/\w<10 ^ 30)) ?_ ?_ _ _ ⟨ws,none,rfl,rfl,fun _ h=>h,fun _ h=>.inl h⟩
 . rintro d ds ρ ⟨rest,t,e,rfl,hin,hall⟩ W hW
   cases rest with
   | nil=>cases e
   | cons w rest=>
    cases e;have hw:=hin w YaV
    walk_at "rd"
    by_cases h3:w<0
    . rw [if_pos h3];exact hE' fun z=>by have:=(z.2.1 w hw).1;omega
    rw [if_neg h3];refine⟨p30,?_⟩
    by_cases h4:(10:Int) ^ Int.toNat 30<=w
    . rw [if_pos h4];exact hE' fun z=>by have:=(z.2.1 w hw).2;exact absurd h4 (by have e:(10:Int) ^ Int.toNat 30=10 ^ 30:=rfl;omega)
    rw [if_neg h4];refine hW _ ⟨rest,_,rfl,rfl,fun x hx=>hin x (YaT _ hx),fun x hx=>?_⟩
    rcases hall x hx with z|z
    . rcases Wa4.mp z with rfl|z
      . exact .inr ⟨#[0],by have e:(10:Int) ^ Int.toNat 30=10 ^ 30:=rfl;omega⟩
      . exact .inl z
    . exact .inr z
 . rintro ρ ⟨rest,t,e,rfl,hin,hall⟩
   cases rest with
   | cons _ _=>cases e
   | nil=>
    walk_at "rd"
    refine⟨ws,j6 ws,?_⟩
    by_cases h3:ws.sum=0
    . rw [if_pos h3];exact hE' fun z=>z.2.2 h3
    . rw [if_neg h3]
      exact q ⟨⟨#[0],#[0]⟩,fun w hw=>(hall w hw).resolve_left (by simp),h3⟩
theorem zij(T:Txt c K mg):#[8,dd_all_turns]:=by
 obtain⟨f,fd,F,hm⟩:=T.d_all_turns;have S:FnScope ["spells"] ["spells"] (zh zcs):=#[10]
 walk_at "d"
 . walk_at "m"
 . walk_at "l"
 refine⟨_,(ze (zt (zp (Jk rfl) rfl T.n_sum Jo (za (new3 (jU ["spell"] [] [] rfl (zY (osc:=zh zcs) #[3]) rfl (zR (n3 0)) (fun H0 s H fp cl=>⟨(zl (i:=0) (show((["spell"]:List PySem.Str)++([]:List PySem.Str)).Nodup by decide) rfl #[2]),jD,(at3 (n3 0) i3 #[4])⟩))) zb)))),fun ds Q h=>?_⟩
 obtain⟨l,rfl,hz,q⟩:=h
 walk_at "rd"
 rw [YaR];refine⟨sz #[0],?_⟩
 refine ju (f:=false) dS (fun s=>.int s.1) (fun ρ=>∃ t,ρ = [t]) l ?_ _ _ _ _ ⟨none,rfl⟩ ?_
 . rintro s hs ρ fa acc K ⟨t,rfl⟩ k
   simp only [seq3,next3,set3,own3,ret3,ifS3,tt3,o3,u3,v3,atV,asS,asB,asD,optP,asT,asLd,asL,atO,Zo,nilP,asId,asI,k3,nw3,add3,int3,int0,neg3,eq3,ne3,eqOk,eqv3,isN3,notN3,isNone,ix3,ixD,zap,nil3,Zu,cb3,len3,lenD,abs3,max23,min23,sum3,max3,and3,or3,not3,zaU,ZD,ch3,tup3,lst3,za0,catN,slL3,zaP,ZK,L2.isD,za8,asg3,gn3,zaV,ZE,gnil3,app3,put3,frzS,frz,frz1,for3,itL,itT,itZ,rg1,rg2,Jy,true3,cst3,ZU,brk3,jO,shs,Cl.d,Cl.dat,Cl.f,zbS,zw,Option.map_some,Option.map_none,Option.isSome_some,Option.isSome_none,Option.join_some,Option.join_none,List.all_cons,List.all_nil,Wba,Bool.true_and,Wa7,Wa5,Wa6,Wbk,Wbf,Ya1,Wbe,List.length_cons,List.length_nil,Nat.reduceAdd,Nat.reduceSub,Wbi,List.replicate,List.cons_append,List.nil_append,Yao,List.getElem?_cons_zero,List.getElem?_cons_succ,List.set_cons_zero,List.set_cons_succ,Waz,Cl.sh.injEq,Cl.ow.injEq,WaT,WaJ,WaU,WaK,Wav,List.cons.injEq,reduceCtorEq,and_assoc,and_true,true_and,and_self,exists_eq_left,exists_eq_left',exists_eq',exists_eq_right,exists_eq_right',exists_and_left,exists_const,exists_false,false_and,and_false,or_false,false_or,or_true,true_or,decide_true,decide_false,decide_eq_true_eq,Bool.not_true,Bool.not_false,Wat,Waw,if_true,if_false,ite_true,ite_false,Wax,decide_eq_false_iff_not,eq_self_iff_true,not_true_eq_false,not_false_eq_true,sz0,sz1,sz2,sz3,sz4,par3,aug3,idx3,ext3,itE,k3f,za7,put2,app2,ix2,Cl.tr.injEq,zam,ZJ,Cl.dt.injEq,intB3,frzD,Cl.fd.injEq,dms,jv,argC,JM,Jf,finM,Cl.dm.injEq,holds,updM,Zv,zaG,zae,zaI,ZG,Z9,zaE,zbc,Z7,Z4,ZI,srtL,ninT3,zaN,List.foldl_cons,List.foldl_nil,za4,zaF,zas,zal,zaX,zai,za9,Z3,zad,zaH,ZT,zbd,zax,za1,ZW,zaB,zaf,ZN,zay,zaT,zaD,Z2,za6,zac,ZS,zaJ,zaw,zaK,Z5,zak,zaS,ZV,zaq,zat,zaW,zaR,Zf,zbe,zav,Z6,Zz,zag,JV,dSs,dS,dI,zw,dQ,dP,dPs,jP,dW,atI0,atI1,atI2,atI3,dRs,dRl,Zb,wE,wF,lE,fE,atI0]
   exact k _ ⟨_,rfl⟩
 . walk_at "rd"
   refine⟨l.map (fun s:Spell=>s.1),?_,q⟩
   rw [<-j6 (l.map (fun s:Spell=>s.1)),YaD]
   rfl
theorem zi5(T:Txt c K mg):#[8,dd_check_spells c]:=by
 have zmn:#[8,dd_check_weights c]:=zjX T;have zmh:#[8,dd_all_turns]:=zij T;obtain⟨f,fd,F,hm⟩:=T.d_check_spells;have S:FnScope ["spells", "turns", "weights"] ["spells"] (zh zeD):=#[10]
 walk_at "d"
 . walk_at "m"
 . walk_at "l"
 refine⟨_,(zd (s_if (Jc (za2 j0 j0 i3 (zp zD rfl T.n_len zz (za (n3 0) zb)) (g3i rfl T.m_MOST_SPELLS))) (ze (jw hE jq rfl rfl T.m_NoSpell T.e_NoSpell (za s3 zb))) zx)
  (zd (zE WaH rfl (zR (n3 0)) (jf (n:=2) rfl (zy #[9,zl,1] (zy #[9,zl,2] jb))) (zd (s_if (zr Jb (n3 1) i3 (nomark _)) (ze (jw hE jq rfl rfl T.m_NoSpell T.e_NoSpell (za s3 zb))) zx)
   (zd (Zp (df3 hE zmn #[7] rfl zo (za (n3 2) zb)))
   (ze (s_if (zr (Jj hr.units) (zp zD rfl T.n_len zz (za (n3 2) zb)) (zp zD rfl T.n_len zz (za (at3 (at3 (n3 0) i3 #[4]) i3 #[4]) zb)) (nomark _)) (ze (jw hE jq rfl rfl T.m_NoSpell T.e_NoSpell (za s3 zb))) zx)))))
  (ze (s_if (zr jY (df3 hE zmh #[7] rfl zo (za (n3 0) zb)) (g3i rfl T.m_MOST_TURNS) (nomark _)) (ze (jw hE jq rfl rfl T.m_NoSpell T.e_NoSpell (za s3 zb))) zx)))),fun ds Q h=>?_⟩
 obtain⟨l,rfl,q,hE'⟩:=h
 walk_at "rd"
 simp only [YaR]
 by_cases h1:1<=(l.length:Int)
 case neg=>rw [if_neg h1];exact hE' fun z=>h1 (by have:=z.1.1;omega)
 rw [if_pos h1]
 by_cases h2:(l.length:Int)<=8
 case neg=>rw [if_pos h2];exact hE' fun z=>h2 (by have:=z.1.2;omega)
 rw [if_neg (fun z=>z h2)]
 have hd0:atI (l.map dS) 0=some (dS (l.headD (0,[]))):=by
  cases l with
  | nil=>simp at h1
  | cons a r=>exact atI0
 refine Zj (fun ds ρ=>∃ rest t u,ds=rest.map dS/\ρ = [some (.sh false (.list (l.map dS))),t,u]/\(∀ w∈rest,w∈l)/\∀ w∈l,w∈rest\/(1<=w.1/\okW w.2/\w.2.length=many l)) ?_ ?_ _ _ ⟨l,none,none,rfl,rfl,fun _ h=>h,fun _ h=>.inl h⟩
 . rintro d ds ρ ⟨rest,t,u,e,rfl,hin,hall⟩ W hW
   cases rest with
   | nil=>cases e
   | cons w rest=>
    cases e;have hw:=hin w YaV
    walk_at "rd"
    by_cases h3:w.1<1
    . rw [if_pos h3];exact hE' fun z=>by have:=(z.2.1 w hw).1;omega
    rw [if_neg h3];refine⟨w.2,rfl,fun hok=>?_,fun hno=>hE' fun z=>hno (z.2.1 w hw).2.1⟩
    simp only [seq3,next3,set3,own3,ret3,ifS3,tt3,o3,u3,v3,atV,asS,asB,asD,optP,asT,asLd,asL,atO,Zo,nilP,asId,asI,k3,nw3,add3,int3,int0,neg3,eq3,ne3,eqOk,eqv3,isN3,notN3,isNone,ix3,ixD,zap,nil3,Zu,cb3,len3,lenD,abs3,max23,min23,sum3,max3,and3,or3,not3,zaU,ZD,ch3,tup3,lst3,za0,catN,slL3,zaP,ZK,L2.isD,za8,asg3,gn3,zaV,ZE,gnil3,app3,put3,frzS,frz,frz1,for3,itL,itT,itZ,rg1,rg2,Jy,true3,cst3,ZU,brk3,jO,shs,Cl.d,Cl.dat,Cl.f,zbS,zw,Option.map_some,Option.map_none,Option.isSome_some,Option.isSome_none,Option.join_some,Option.join_none,List.all_cons,List.all_nil,Wba,Bool.true_and,Wa7,Wa5,Wa6,Wbk,Wbf,Ya1,Wbe,List.length_cons,List.length_nil,Nat.reduceAdd,Nat.reduceSub,Wbi,List.replicate,List.cons_append,List.nil_append,Yao,List.getElem?_cons_zero,List.getElem?_cons_succ,List.set_cons_zero,List.set_cons_succ,Waz,Cl.sh.injEq,Cl.ow.injEq,WaT,WaJ,WaU,WaK,Wav,List.cons.injEq,reduceCtorEq,and_assoc,and_true,true_and,and_self,exists_eq_left,exists_eq_left',exists_eq',exists_eq_right,exists_eq_right',exists_and_left,exists_const,exists_false,false_and,and_false,or_false,false_or,or_true,true_or,decide_true,decide_false,decide_eq_true_eq,Bool.not_true,Bool.not_false,Wat,Waw,if_true,if_false,ite_true,ite_false,Wax,decide_eq_false_iff_not,eq_self_iff_true,not_true_eq_false,not_false_eq_true,sz0,sz1,sz2,sz3,sz4,par3,aug3,idx3,ext3,itE,k3f,za7,put2,app2,ix2,Cl.tr.injEq,zam,ZJ,Cl.dt.injEq,intB3,frzD,Cl.fd.injEq,dms,jv,argC,JM,Jf,finM,Cl.dm.injEq,holds,updM,Zv,zaG,zae,zaI,ZG,Z9,zaE,zbc,Z7,Z4,ZI,srtL,ninT3,zaN,List.foldl_cons,List.foldl_nil,za4,zaF,zas,zal,zaX,zai,za9,Z3,zad,zaH,ZT,zbd,zax,za1,ZW,zaB,zaf,ZN,zay,zaT,zaD,Z2,za6,zac,ZS,zaJ,zaw,zaK,Z5,zak,zaS,ZV,zaq,zat,zaW,zaR,Zf,zbe,zav,Z6,Zz,zag,JV,dSs,dS,dI,zw,dQ,dP,dPs,jP,dW,atI0,atI1,atI2,atI3,dRs,dRl,Zb,wE,wF,lE,fE,atI0,atI1,hd0,YaR]
    by_cases h4:(w.2.length:Int)=(l.headD (0,[])).2.length
    . rw [if_neg (fun z=>z h4)]
      refine hW _ ⟨rest,_,_,rfl,rfl,fun x hx=>hin x (YaT _ hx),fun x hx=>?_⟩
      rcases hall x hx with z|z
      . rcases Wa4.mp z with rfl|z
        . exact .inr ⟨#[0],hok,by unfold many;omega⟩
        . exact .inl z
      . exact .inr z
    . rw [if_pos h4]
      exact hE' fun z=>h4 (by have:=(z.2.1 w hw).2.2;unfold many at this;omega)
 . rintro ρ ⟨rest,t,u,e,rfl,hin,hall⟩
   cases rest with
   | cons _ _=>cases e
   | nil=>
    walk_at "rd"
    refine⟨l,rfl,#[0],?_⟩
    by_cases h3:60<tot l
    . rw [if_pos h3];exact hE' fun z=>by have:=z.2.2;omega
    . rw [if_neg h3]
      exact q ⟨⟨#[0],#[0]⟩,fun w hw=>(hall w hw).resolve_left (by simp),#[0]⟩
theorem zgq(T:Txt c K mg):#[8,dd_common_divisor]:=by
 obtain⟨f,fd,F,hm⟩:=T.d_common_divisor;have S:FnScope ["one", "other", "greater", "lesser", "rest"] ["one", "other"] (zh zer):=#[10]
 walk_at "d"
 . walk_at "m"
 . walk_at "l"
 refine⟨_,(zd (#[9,zj,2] (zp zdh rfl T.n_abs zcg (za (n3 0) zb)))
  (zd (#[9,zj,3] (zp zdh rfl T.n_abs zcg (za (n3 1) zb)))
  (zd (JB WaH (zr (Jj hr.units) (n3 3) i3 (nomark _)) (zd (#[9,zj,4] (op3 zS (n3 2) (n3 3)))
   (zd (#[9,zj,2] (n3 3))
   (ze (#[9,zj,3] (n3 4))))))
  (ze (zt (n3 2)))))),fun ds Q h=>?_⟩
 obtain⟨a,b,rfl,q⟩:=h
 walk_at "rd"
 refine⟨_,Jn (fun n ρ=>∃ g l r,ρ = [#[5,a],#[5,b],#[5,g],#[5,l],r]/\0<=g/\0<=l/\Int.gcd g l=Int.gcd a b/\n=l.toNat) ?_ _ _ ⟨_,_,_,rfl,by split<;>omega,by split<;>omega,zgc a b,rfl⟩⟩
 rintro n ρ ⟨g,l,r,rfl,hg,hl,hG,rfl⟩ W hW
 walk_at "rd"
 by_cases h0:l=0
 . rw [if_neg (fun z=>z h0)]
   subst h0;rw [<-hG,zdD hg] at q;exact q
 . rw [if_pos h0]
   have hp:0<l:=#[0]
   have h1:=Ybc g h0;have h2:=Ybd g hp;exact⟨hp,hW (g%l).toNat _ #[0] ⟨l,g%l,_,rfl,hl,h1,(zdE hg hp).trans hG,rfl⟩⟩
theorem zih(T:Txt c K mg):#[8,dd_divisor_of_all]:=by
 have zmq:#[8,dd_common_divisor]:=zgq T;obtain⟨f,fd,F,hm⟩:=T.d_divisor_of_all;have S:FnScope ["weights", "divisor", "weight"] ["weights"] (zh zd1):=#[10]
 walk_at "d"
 . walk_at "m"
 . walk_at "l"
 refine⟨_,(zd (#[9,zj,1] i3)
  (zd (zE WaH rfl (zR (n3 0)) #[9,zl,2] (ze (#[9,zj,1] (df3 hE zmq #[7] rfl zo (za (n3 1) (za (n3 2) zb))))))
  (ze (zt (n3 1))))),fun ds Q h=>?_⟩
 obtain⟨ws,rfl,q⟩:=h
 walk_at "rd"
 refine Zj (fun ds ρ=>∃ done rest t,ds=rest.map PyData.int/\ws=done++rest/\ρ = [some (.sh false (.list (ws.map .int))),#[5,gcdL done],t]) ?_ ?_ _ _ ⟨[],ws,none,rfl,rfl,rfl⟩
 . rintro d ds ρ ⟨done,rest,t,e,hws,rfl⟩ W hW
   cases rest with
   | nil=>cases e
   | cons w rest=>
    cases e
    walk_at "rd"
    exact hW _ ⟨done++[w],rest,_,rfl,by rw [hws,Yag];rfl,by unfold gcdL;rw [WaB];rfl⟩
 . rintro ρ ⟨done,rest,t,e,hws,rfl⟩
   cases rest with
   | cons _ _=>cases e
   | nil=>
    walk_at "rd"
    rw [Yao] at hws;subst hws;exact q
theorem zg9(T:Txt c K mg):#[8,dd_least_bottom]:=by
 have zmr:#[8,dd_divisor_of_all]:=zih T;have zmq:#[8,dd_common_divisor]:=zgq T;obtain⟨f,fd,F,hm⟩:=T.d_least_bottom;have S:FnScope ["spells", "bottom", "spell", "parts"] ["spells"] (zh zfN):=#[10]
 walk_at "d"
 . walk_at "m"
 . walk_at "l"
 refine⟨_,(zd (#[9,zj,1] i3)
  (zd (zE WaH rfl (zR (n3 0)) #[9,zl,2] (zd (#[9,zj,3] (op3 zN (zp (Jk rfl) rfl T.n_sum Jo (za (at3 (n3 2) i3 #[4]) zb)) (df3 hE zmr #[7] rfl zo (za (at3 (n3 2) i3 #[4]) zb))))
   (ze (#[9,zj,1] (op3 zN (op3 z6 (n3 1) (n3 3)) (df3 hE zmq #[7] rfl zo (za (n3 1) (za (n3 3) zb))))))))
  (ze (zt (n3 1))))),fun ds Q h=>?_⟩
 obtain⟨l,rfl,hok,q⟩:=h
 walk_at "rd"
 refine Zj (fun ds ρ=>∃ done rest t u,ds=rest.map dS/\l=done++rest/\ρ = [some (.sh false (.list (l.map dS))),#[5,bot done],t,u]) ?_ ?_ _ _ ⟨[],l,none,none,rfl,rfl,rfl⟩
 . rintro d ds ρ ⟨done,rest,t,u,e,hl,rfl⟩ W hW
   cases rest with
   | nil=>cases e
   | cons w rest=>
    cases e;have hw:w∈l:=by rw [hl];simp
    have hwok:=(hok.2.1 w hw).2.1;have hdone:0<bot done/\Bits (1+103*done.length) (bot done):=zbV done 1 1 (fun s hs=>(hok.2.1 s (by rw [hl];exact Yai _ hs)).2.1) #[1] (by unfold Bits;decide)
    have hlen:done.length<=8:=by have:=hok.1.2;rw [hl,YaS] at this;omega
    have hb:Bits 900 (bot done):=hdone.2.mono #[0]
    simp only [seq3,next3,set3,own3,ret3,ifS3,tt3,o3,u3,v3,atV,asS,asB,asD,optP,asT,asLd,asL,atO,Zo,nilP,asId,asI,k3,nw3,add3,int3,int0,neg3,eq3,ne3,eqOk,eqv3,isN3,notN3,isNone,ix3,ixD,zap,nil3,Zu,cb3,len3,lenD,abs3,max23,min23,sum3,max3,and3,or3,not3,zaU,ZD,ch3,tup3,lst3,za0,catN,slL3,zaP,ZK,L2.isD,za8,asg3,gn3,zaV,ZE,gnil3,app3,put3,frzS,frz,frz1,for3,itL,itT,itZ,rg1,rg2,Jy,true3,cst3,ZU,brk3,jO,shs,Cl.d,Cl.dat,Cl.f,zbS,zw,Option.map_some,Option.map_none,Option.isSome_some,Option.isSome_none,Option.join_some,Option.join_none,List.all_cons,List.all_nil,Wba,Bool.true_and,Wa7,Wa5,Wa6,Wbk,Wbf,Ya1,Wbe,List.length_cons,List.length_nil,Nat.reduceAdd,Nat.reduceSub,Wbi,List.replicate,List.cons_append,List.nil_append,Yao,List.getElem?_cons_zero,List.getElem?_cons_succ,List.set_cons_zero,List.set_cons_succ,Waz,Cl.sh.injEq,Cl.ow.injEq,WaT,WaJ,WaU,WaK,Wav,List.cons.injEq,reduceCtorEq,and_assoc,and_true,true_and,and_self,exists_eq_left,exists_eq_left',exists_eq',exists_eq_right,exists_eq_right',exists_and_left,exists_const,exists_false,false_and,and_false,or_false,false_or,or_true,true_or,decide_true,decide_false,decide_eq_true_eq,Bool.not_true,Bool.not_false,Wat,Waw,if_true,if_false,ite_true,ite_false,Wax,decide_eq_false_iff_not,eq_self_iff_true,not_true_eq_false,not_false_eq_true,sz0,sz1,sz2,sz3,sz4,par3,aug3,idx3,ext3,itE,k3f,za7,put2,app2,ix2,Cl.tr.injEq,zam,ZJ,Cl.dt.injEq,intB3,frzD,Cl.fd.injEq,dms,jv,argC,JM,Jf,finM,Cl.dm.injEq,holds,updM,Zv,zaG,zae,zaI,ZG,Z9,zaE,zbc,Z7,Z4,ZI,srtL,ninT3,zaN,List.foldl_cons,List.foldl_nil,za4,zaF,zas,zal,zaX,zai,za9,Z3,zad,zaH,ZT,zbd,zax,za1,ZW,zaB,zaf,ZN,zay,zaT,zaD,Z2,za6,zac,ZS,zaJ,zaw,zaK,Z5,zak,zaS,ZV,zaq,zat,zaW,zaR,Zf,zbe,zav,Z6,Zz,zag,JV,dSs,dS,dI,zw,dQ,dP,dPs,jP,dW,atI0,atI1,atI2,atI3,dRs,dRl,Zb,wE,wF,lE,fE,atI0,atI1]
    refine⟨w.2,j6 _,w.2,rfl,⟨zdu hwok,((Zm hwok).le (by have:=zha hwok;have:=zdu hwok;omega)).mono #[1]⟩,?_⟩
    have hgb:Bits 9000 (Int.gcd (bot done) (parts w.2):Int):=((zc3 hwok).le (by have:=ziv (b:=bot done) (JU hwok);have:=zcu (b:=bot done) (JU hwok);have:=JU hwok;omega)).mono #[1]
    refine⟨hb.mulOk (zc3 hwok) #[1],⟨zcu (JU hwok),hgb⟩,?_⟩
    exact hW _ ⟨done++[w],rest,_,_,rfl,by rw [hl,Yag];rfl,by unfold bot;rw [WaB];rfl⟩
 . rintro ρ ⟨done,rest,t,u,e,hl,rfl⟩
   cases rest with
   | cons _ _=>cases e
   | nil=>
    walk_at "rd"
    rw [Yao] at hl;subst hl;exact q
theorem zi1(T:Txt c K mg):#[8,dd_shares_over]:=by
 obtain⟨f,fd,F,hm⟩:=T.d_shares_over;have S:FnScope ["bottom", "weights", "total"] ["bottom", "weights"] (zh zc1):=#[10]
 walk_at "d"
 . walk_at "m"
 . walk_at "l"
 refine⟨_,(zd (#[9,zj,2] (zp (Jk rfl) rfl T.n_sum Jo (za (n3 1) zb)))
  (ze (zt (new3 (jU ["weight"] ["bottom", "total"] [0,2] rfl (zY (osc:=zh zc1) #[3]) rfl (zR (n3 1)) (fun H0 s H fp cl=>⟨(zl (i:=0) (show((["weight"]:List PySem.Str)++(["bottom", "total"]:List PySem.Str)).Nodup by decide) rfl #[2]),jD,(op3 zN (op3 z6 (n3 0) (n3 1)) (n3 2))⟩)))))),fun ds Q h=>?_⟩
 obtain⟨b,ws,rfl,hok,hb,q⟩:=h
 walk_at "rd"
 refine⟨ws,j6 _,?_⟩
 refine⟨sz (by rw [YaR];have:=hok.1.2;omega),?_⟩
 refine ju (f:=false) PyData.int (fun w=>.int (w*b/ws.sum)) (fun ρ=>∃ t,ρ = [t,#[5,b],#[5,ws.sum]]) ws ?_ _ _ _ _ ⟨none,rfl⟩ ?_
 . rintro w hw ρ fa acc K ⟨t,rfl⟩ k
   have h1:IntMulOk w b:=(zff hok hw).mulOk hb #[1]
   have h2:j4 (w*b) ws.sum:=⟨jS hok,(Zm hok).mono #[1]⟩
   show IntMulOk w b/\j4 (w*b) ws.sum/\K (fa&&true) (acc++[.int (w*b/ws.sum)]) [#[5,w],#[5,b],#[5,ws.sum]]
   rw [Wba];exact⟨h1,h2,k _ ⟨_,rfl⟩⟩
 . unfold dI shares at q
   rw [YaD] at q;exact q
theorem zmd(T:Txt c K mg):#[8,dd_quotas c]:=by
 have zml:#[8,dd_check_spells c]:=zi5 T;have zmJ:#[8,dd_least_bottom]:=zg9 T;have zmU:#[8,dd_shares_over]:=zi1 T;obtain⟨f,fd,F,hm⟩:=T.d_quotas;have S:FnScope ["spells", "bottom", "latest", "told", "turns", "weights", "shares", "turn"] ["spells"] (zh zbC):=#[10]
 walk_at "d"
 . walk_at "m"
 . walk_at "l"
 refine⟨_,(zd (Zp (df3 hE zml #[7] rfl zo (za (n3 0) zb)))
  (zd (#[9,zj,1] (df3 hE zmJ #[7] rfl zo (za (n3 0) zb)))
  (zd (#[9,ZA,2] ["weight"] [] [] rfl (zY (osc:=zh zbC) #[3]) rfl (zR (at3 (at3 (n3 0) i3 #[4]) i3 #[4])) (fun H0 s H fp cl=>⟨(zl (i:=0) (show((["weight"]:List PySem.Str)++([]:List PySem.Str)).Nodup by decide) rfl #[2]),jD,i3⟩))
  (zd (#[9,jo,3] (jd (za (n3 2) zb)))
  (zd (zE WaH rfl (zR (n3 0)) (jf (n:=2) rfl (zy #[9,zl,4] (zy #[9,zl,5] jb))) (zd (#[9,zj,6] (df3 hE zmU #[7] rfl zo (za (n3 1) (za (n3 5) zb))))
   (ze (zE WaH rfl (jj rfl T.n_range (za (n3 4) zb)) #[9,zl,7] (zd (#[9,ZA,2] ["quota", "share"] [] [] rfl (zY (osc:=zh zbC) #[3]) rfl (zjg rfl T.n_zip (za (n3 2) (za (n3 6) zb))) (fun H0 s H fp cl=>⟨(jf (n:=2) rfl (zy (zl (i:=0) (show((["quota", "share"]:List PySem.Str)++([]:List PySem.Str)).Nodup by decide) rfl #[2]) (zy (zl (i:=1) (show((["quota", "share"]:List PySem.Str)++([]:List PySem.Str)).Nodup by decide) rfl #[2]) jb))),jD,(op3 zP (n3 0) (n3 1))⟩))
    (ze (jH (i:=3) rfl #[2] (n3 2))))))))
  (ze (jA [3] (zt (z7 (za (n3 1) (za (n3 3) zb))))))))))),fun ds Q h=>?_⟩
 obtain⟨l,rfl,q,hE'⟩:=h;walk_at "q"
 refine⟨l,rfl,fun hok=>hN _ ?_,hE'⟩
 clear hN N;have hl0:l≠[]:=fun z=>by have:=hok.1.1;rw [z] at this;simp at this
 have hd0:atI (l.map dS) 0=some (dS (l.headD (0,[]))):=by
  cases l with
  | nil=>exact absurd rfl hl0
  | cons a r=>exact atI0
 have hmany:many l<=8:=by
  cases l with
  | nil=>exact absurd rfl hl0
  | cons a r=>exact(hok.2.1 a YaV).2.1.1.2
 walk_at "q"
 refine⟨l,rfl,hok,hN _ ?_⟩
 walk_at "t"
 walk_at "rd hd0 atI1 YaR"
 refine⟨sz (by unfold many at hmany;omega),?_⟩
 refine ju PyData.int (fun _=>.int 0) (fun ρ=>∃ t,ρ = [t]) (l.headD (0,[])).2 ?_ _ _ _ _ ⟨none,rfl⟩ ?_
 . rintro w hw ρ fa acc K ⟨t,rfl⟩ k
   walk_at "rd"
   exact k _ ⟨_,rfl⟩
 have hz:(l.headD (0,[])).2.map (fun _=>PyData.int 0)=(zeros l).map .int:=by
  unfold zeros many;rw [Yaz,Wa0]
 rw [List.nil_append,hz];walk_at "v"
 walk_at "n"
 walk_at "rd"
 refine Zj (fun ds ρ=>∃ done rest t u v w,ds=rest.map dS/\l=done++rest/\ρ = [some (.sh false (.list (l.map dS))),#[5,bot l],some (.sh true (dI (runQ (bot l) done (zeros l,[zeros l])).1)),some (.ow true ((runQ (bot l) done (zeros l,[zeros l])).2.map dI)),t,u,v,w]/\(runQ (bot l) done (zeros l,[zeros l])).2.length<=1+(tot done).toNat) ?_ ?_ _ _ ⟨[],l,none,none,none,none,rfl,rfl,rfl,by simp [runQ]⟩
 . rintro d ds ρ ⟨done,rest,t,u,v,w',e,hl,rfl,hlen⟩ W hW
   cases rest with
   | nil=>cases e
   | cons w rest=>
    cases e;have hw:w∈l:=by rw [hl];simp
    have hwok:=(hok.2.1 w hw).2.1;have h1t:∀ s∈l,1<=s.1:=fun s hs=>(hok.2.1 s hs).1
    have hwt:=zdT h1t hw;have hw1:=h1t w hw;have hdt:tot done<=60 - w.1:=by
     have h60:=hok.2.2;have e:tot l=tot done+(w.1+tot rest):=by unfold tot;rw [hl,Ya2,WaZ,Ya1,List.sum_cons]
     have:0<=tot rest:=jV fun s hs=>h1t s (by rw [hl];exact Yaa _ (YaT _ hs))
     omega
    have hd0':0<=tot done:=jV fun s hs=>h1t s (by rw [hl];exact Yai _ hs)
    walk_at "rd"
    refine⟨w.2,rfl,hwok,(zfa hok).mono #[1],#[0],by have:=hok.2.2;omega,?_⟩
    generalize hp:runQ (bot l) done (zeros l,[zeros l])=p at hlen ⊢;refine ji (fun k ρ=>∃ t,ρ = [some (.sh false (.list (l.map dS))),#[5,bot l],some (.sh true (dI (rep (zA (shares (bot l) w.2)) k p).1)),some (.ow true ((rep (zA (shares (bot l) w.2)) k p).2.map dI)),#[5,w.1],some (.sh false (dI w.2)),some (.sh true (dI (shares (bot l) w.2))),t]) ?_ ?_ ⟨w',rfl⟩
    . rintro k ρ hk ⟨t,rfl⟩ W' hW'
      have hr:∀ k p,rep (zA (shares (bot l) w.2)) (k+1) p=zA (shares (bot l) w.2) (rep (zA (shares (bot l) w.2)) k p):=fun k=>by
       induction k with
       | zero=>intro p;rfl
       | succ k ih=>intro p;rw [rep,ih];rfl
      have hlk:=ZY (shares (bot l) w.2) k p
      walk_at "rd"
      rw [zfP,YaR];refine⟨sz (by rw [List.length_zip];unfold shares;rw [YaR];have:=hwok.1.2;omega),?_⟩
      refine ju _ (fun p=>.int (p.1+p.2)) (fun ρ=>∃ t u,ρ = [t,u]) _ ?_ _ _ _ _ ⟨none,none,rfl⟩ ?_
      . rintro x hx ρ fa acc K ⟨t,u,rfl⟩ k
        walk_at "rd"
        exact k _ ⟨_,_,rfl⟩
      . walk_at "rd"
        rw [YaR];refine⟨YaU (show _<1000000 by omega) #[1],hW' _ ⟨?w,?h⟩⟩
        case h=>
        rw [hr];unfold zA addL dI;simp only [Ya2,Ya1,Wbe,YaD,List.nil_append]
        rfl
    . rintro ρ ⟨t,rfl⟩
      have er:runQ (bot l) (done++[w]) (zeros l,[zeros l])=rep (zA (shares (bot l) w.2)) w.1.toNat p:=by
       unfold runQ at hp ⊢;rw [WaB,hp];rfl
      have et:tot (done++[w])=tot done+w.1:=by unfold tot;rw [Ya2,WaZ];simp
      refine hW _ ⟨done++[w],rest,#[5,w.1],some (.sh false (dI w.2)),some (.sh true (dI (shares (bot l) w.2))),t,rfl,by rw [hl,Yag];rfl,by rw [er],?_⟩
      rw [er,ZY,et];omega
 . rintro ρ ⟨done,rest,t,u,v,w,e,hl,rfl,hlen⟩
   cases rest with
   | cons _ _=>cases e
   | nil=>
    walk_at "rd"
    rw [Yao] at hl;subst hl;exact q hok
theorem zlc(T:Txt c K mg):#[8,dd_first_turn]:=by
 obtain⟨f,fd,F,hm⟩:=T.d_first_turn;have S:FnScope ["path", "wanted", "turn"] ["path", "wanted"] (zh zeH):=#[10]
 walk_at "d"
 . walk_at "m"
 . walk_at "l"
 refine⟨_,(zd (zE WaH rfl (zbb rfl T.n_range (za i3 (za (zp zD rfl T.n_len zz (za (n3 0) zb)) zb))) #[9,zl,2] (ze (s_if (zr zdM (at3 (n3 0) (n3 2) #[4]) (n3 1) (nomark _)) (ze (zt (n3 2))) zx)))
  (ze (zt (zp zD rfl T.n_len zz (za (n3 0) zb))))),fun ds Q h=>?_⟩
 obtain⟨path,x,rfl,h61,h1,q⟩:=h
 walk_at "rd"
 rw [YaR];refine⟨#[1],#[1],#[0],#[0],?_⟩
 have e1:((path.length:Int) - 1).toNat=path.length - 1:=#[0]
 rw [e1];refine ji (lo:=1) (fun k ρ=>∃ t,ρ = [some (.sh false (.list (path.map .int))),#[5,x],t]/\∀ i,1<=i->i<1+k->¬x<=path.getD i 0) ?_ ?_ ⟨none,rfl,fun i h1 h2=>absurd h2 #[0]⟩
 . rintro k ρ hk ⟨t,rfl,hno⟩ W hW
   have hg:=jJ (xs:=path) (i:=1+(k:Int)) #[0] #[0]
   rw [show(1+(k:Int)).toNat=1+k by omega] at hg
   walk_at "rd hg"
   by_cases h:x<=path.getD (1+k) 0
   . rw [if_pos h]
     have:zu path.length (fun t=>decide (x<=path.getD t 0))=1+k:=J5 h1 #[0] #[0] (fun t a b=>decide_eq_false (hno t a b)) fun _=>decide_eq_true h
     rw [this] at q;have e:((1+k:Nat):Int)=1+(k:Int):=#[0]
     rw [e] at q;exact q
   . rw [if_neg h]
     refine hW _ ⟨_,rfl,fun i a b=>?_⟩
     by_cases e:i=1+k
     . rw [e];exact h
     . exact hno i a #[0]
 . rintro ρ ⟨t,rfl,hno⟩
   walk_at "rd"
   rw [YaR];have:zu path.length (fun t=>decide (x<=path.getD t 0))=path.length:=J5 h1 h1 (YaY _) (fun t a b=>decide_eq_false (hno t a #[0])) fun z=>absurd z #[0]
   rw [this] at q;exact q
theorem zlE(T:Txt c K mg):#[8,dd_window_of]:=by
 have zms:#[8,dd_first_turn]:=zlc T;obtain⟨f,fd,F,hm⟩:=T.d_window_of;have S:FnScope ["bottom", "path", "j", "room", "opens", "last"] ["bottom", "path", "j", "room"] (zh zez):=#[10]
 walk_at "d"
 . walk_at "m"
 . walk_at "l"
 refine⟨_,(zd (#[9,zj,4] (df3 hE zms #[7] rfl zo (za (n3 1) (za (op3 jE (op3 z6 (n3 2) (n3 0)) (at3 (n3 3) i3 #[4])) zb))))
  (zd (#[9,zj,5] (df3 hE zms #[7] rfl zo (za (n3 1) (za (op3 zP (op3 zP (op3 z6 (op3 jE (n3 2) i3) (n3 0)) (at3 (n3 3) i3 #[4])) i3) zb))))
  (zd (s_if (zr (jg hr.units) (n3 5) (zp zD rfl T.n_len zz (za (n3 1) zb)) (nomark _)) (ze (zt (z7 (za (n3 4) (za non3 zb))))) zx)
  (ze (zt (z7 (za (n3 4) (za (n3 5) zb)))))))),fun ds Q h=>?_⟩
 obtain⟨b,path,j,room,rfl,h61,h1,hb,hj,q⟩:=h
 walk_at "rd atI0 atI1"
 have hj1:Bits 65 (j - 1):=hj.sub (Bits.lit (x:=1) 64);refine⟨hj.mulOk hb #[1],path,rfl,h61,h1,hj1.mulOk hb #[1],path,rfl,h61,h1,?_⟩
 rw [YaR];unfold winB winP at q;dsimp only at q
 by_cases h:zu path.length (fun t=>decide ((j - 1)*b+room.1+1<=path.getD t 0))=path.length
 . rw [if_pos (by rw [h])]
   rw [if_pos h] at q;exact q
 . rw [if_neg (fun z=>h #[0])]
   rw [if_neg h] at q;exact q
theorem ziZ(T:Txt c K mg):#[8,dd_windows_of_clan]:=by
 have zmV:#[8,dd_window_of]:=zlE T;obtain⟨f,fd,F,hm⟩:=T.d_windows_of_clan;have S:FnScope ["told", "clan", "room", "path", "found", "j", "window"] ["told", "clan", "room"] (zh zcO):=#[10]
 walk_at "d"
 . walk_at "m"
 . walk_at "l"
 refine⟨_,(zd (#[9,ZA,3] ["latest"] ["clan"] [1] rfl (zY (osc:=zh zcO) #[3]) rfl (zR (at3 (n3 0) i3 #[4])) (fun H0 s H fp cl=>⟨(zl (i:=0) (show((["latest"]:List PySem.Str)++(["clan"]:List PySem.Str)).Nodup by decide) rfl #[2]),jD,(at3 (n3 0) (n3 1) #[4])⟩))
  (zd (#[9,jo,4] (jd zb))
  (zd (#[9,zj,5] i3)
  (zd (#[9,zj,6] (df3 hE zmV #[7] rfl zo (za (at3 (n3 0) i3 #[4]) (za (n3 3) (za (n3 5) (za (n3 2) zb))))))
  (zd (JB WaH (pw3 (Zn (zr Jb (at3 (n3 6) i3 #[4]) (zp zD rfl T.n_len zz (za (n3 3) zb)) (nomark _)) (Zh (zr zbp (at3 (n3 6) i3 #[4]) non3 (nomark _))))) (zd (jH (i:=4) rfl #[2] (z7 (za (n3 1) (za (n3 5) (za (at3 (n3 6) i3 #[4]) (za (at3 (n3 6) i3 #[4]) zb))))))
   (zd (#[9,zdH,5] i3)
   (ze (#[9,zj,6] (df3 hE zmV #[7] rfl zo (za (at3 (n3 0) i3 #[4]) (za (n3 3) (za (n3 5) (za (n3 2) zb))))))))))
  (ze (jA [4] (zt (n3 4))))))))),fun ds Q h=>?_⟩
 obtain⟨b,qs,k,room,n,rfl,hb0,hb,hk,h61,h1,hqn,hbd,hr0,hr1,hr80,q⟩:=h;walk_at "s"
 walk_at "rd atI0 atI1"
 refine⟨sz (by rw [YaR];omega),?_⟩
 refine ju dI (fun r=>PyData.int (r.getD k 0)) (fun ρ=>∃ t,ρ = [t,#[5,k]]) qs ?_ _ _ _ _ ⟨none,rfl⟩ ?_
 . rintro r hr ρ fa acc K ⟨t,rfl⟩ kk
   have hg:=jJ (xs:=r) (i:=(k:Int)) #[0] (by rw [hqn r hr];omega)
   rw [Int.toNat_natCast] at hg
   walk_at "rd hg"
   exact kk _ ⟨_,rfl⟩
 have hcol:[]++qs.map (fun r=>PyData.int (r.getD k 0))=(zg qs k).map PyData.int:=by unfold zg;rw [List.nil_append,YaD];rfl
 rw [hcol];walk_at "n";have hcl:(zg qs k).length=qs.length:=by unfold zg;rw [YaR]
 have hcb:∀ t,(zg qs k).getD t 0+room.2<=80*b:=fun t=>by
  unfold zg;rw [YaP,Ya0];cases ht:qs[t]? with
  | none=>
   show 0+room.2<=80*b
   omega
  | some r=>exact hbd r (Yah ht)
 have hM:∀ j,jl qs.length (winB b (zg qs k) room j)->j<=81:=fun j h=>zdf (M:=80) hb0 #[0] hcb hr1 hr0 j (by rw [hcl];exact h)
 walk_at "q"
 walk_at "v"
 walk_at "u"
 walk_at "rd atI0 atI1"
 refine⟨zg qs k,rfl,room,rfl,rfl,#[0],#[0],hb,Bits.lit (x:=1) 64,hN _ ?_⟩
 clear hN N
 walk_at "rd"
 refine⟨_,Jn (fun m ρ=>∃ (ws:List Win) (j:Int),ρ = [some (.sh false (.tuple [.int b,.list (qs.map dI)])),#[5,k],some (.sh false (.tuple [.int room.1,.int room.2])),some (.sh true (.list ((zg qs k).map .int))),some (.ow true (ws.map dW)),#[5,j],some (.sh true (.tuple [.int (winB b (zg qs k) room j).1,dO (winB b (zg qs k) room j).2]))]/\1<=j/\j<=82/\(ws.length:Int)=j - 1/\(∀ us,IsW qs.length k (winB b (zg qs k) room) j us->IsW qs.length k (winB b (zg qs k) room) 1 (ws++us))/\m=(82 - j).toNat) ?_ _ _ ⟨[],1,rfl,#[1],#[1],rfl,fun us h=>h,rfl⟩⟩
 rintro m ρ ⟨ws,j,rfl,hj1,hj2,hlen,hpre,rfl⟩ W hW
 walk_at "rd atI0 atI1"
 rw [YaR,hcl];have step:jl qs.length (winB b (zg qs k) room j)->W [some (.sh false (.tuple [.int b,.list (qs.map dI)])),#[5,k],some (.sh false (.tuple [.int room.1,.int room.2])),some (.sh true (.list ((zg qs k).map .int))),some (.ow true (ws.map dW++[.tuple [.int k,.int j,.int (winB b (zg qs k) room j).1,dO (winB b (zg qs k) room j).2]])),#[5,j+1],some (.sh true (.tuple [.int (winB b (zg qs k) room (j+1)).1,dO (winB b (zg qs k) room (j+1)).2]))]:=fun ht=>by
  have hj:=hM j ht;refine hW (82 - (j+1)).toNat _ #[0] ⟨ws++[((k:Int),j,(winB b (zg qs k) room j).1,(winB b (zg qs k) room j).2)],j+1,by rw [Ya2];rfl,#[0],#[0],by rw [YaS];simp;omega,fun us h=>?_,rfl⟩
  have:=hpre (((k:Int),j,(winB b (zg qs k) room j).1,(winB b (zg qs k) room j).2)::us) ⟨ht,rfl,h⟩
  simpa using this
 have hsz:(List.map dW ws).length<sizeLine:=YaU (show _<1000 by rw [YaR];omega) #[1]
 have hbj:Bits 64 (j+1):=Bits.lit (x:=j+1) 64 #[0]
 by_cases ho:(winB b (zg qs k) room j).1<(qs.length:Int)
 . rw [if_pos ho]
   exact⟨hsz,_,rfl,room,rfl,rfl,#[0],#[0],hb,hbj,step (.inl ho)⟩
 . rw [if_neg ho]
   change if isNone (Cl.sh true (dO (winB b (zg qs k) room j).2))=false then _ else _
   rw [zlY]
   by_cases hs:(winB b (zg qs k) room j).2=none
   . rw [if_neg (by rw [hs];decide)]
     have:=hpre [] (fun z=>z.elim ho fun y=>y hs)
     rw [Yao] at this;exact q ws this #[0]
   . rw [if_pos (by cases h:(winB b (zg qs k) room j).2 with|none=>exact absurd h hs|some i=>rfl)]
     exact⟨hsz,_,rfl,room,rfl,rfl,#[0],#[0],hb,hbj,step (.inr hs)⟩
theorem ziz(T:Txt c K mg):#[8,dd_windows_within]:=by
 have zmW:#[8,dd_windows_of_clan]:=ziZ T;obtain⟨f,fd,F,hm⟩:=T.d_windows_within;have S:FnScope ["told", "rooms", "found", "clan", "room"] ["told", "rooms"] (zh zfW):=#[10]
 walk_at "d"
 . walk_at "m"
 . walk_at "l"
 refine⟨_,(zd (#[9,jo,2] (jd zb))
  (zd (zE WaH rfl (zbP rfl T.n_enumerate (za (n3 1) zb)) (jf (n:=2) rfl (zy #[9,zl,3] (zy #[9,zl,4] jb))) (ze (zjS (i:=2) rfl #[2] (df3 hE zmW #[7] rfl zo (za (n3 0) (za (n3 3) (za (n3 4) zb)))))))
  (ze (jA [2] (zt (n3 2)))))),fun ds Q h=>?_⟩
 obtain⟨b,qs,rooms,n,rfl,hb0,hb,hrl,hn8,h61,h1,hqn,hq60,hrm,q⟩:=h
 walk_at "rd"
 have he:jQ (rooms.map jP)=(List.range n).map fun i=>PyData.tuple [PyData.int (i:Nat),jP (rooms.getD i (0,0))]:=by
  unfold jQ;rw [YaR,hrl]
  apply Yat
  intro i hi;have:=Yba.mp hi;rw [YaP,Ya0,YaP,YaQ #[0]];rfl
 rw [he];refine zdz (fun k ρ=>∃ (W:List (List Win)) (t u:Option L3.Cl),ρ = [some (.sh false (.tuple [.int b,.list (qs.map dI)])),some (.sh false (.list (rooms.map jP))),some (.ow true (W.flatten.map dW)),t,u]/\W.length=k/\(∀ i,i<k->IsW qs.length i (winB b (zg qs i) (rooms.getD i (0,0))) 1 (W.getD i []))/\W.flatten.length<=200*k) ?_ ?_ ⟨[],none,none,rfl,rfl,fun i h=>absurd h #[0],by simp⟩
 . rintro k ρ hk ⟨W,t,u,rfl,hWl,hWi,hWf⟩ W' hW'
   have hrk:=hrm (rooms.getD k (0,0)) (by rw [YaP,YaQ #[0]];exact Ya4 _)
   have hbd:∀ r∈qs,r.getD k 0+(rooms.getD k (0,0)).2<=80*b:=fun r hr=>by
    have h1:=hq60 r hr (r.getD k 0) (by
     rw [YaP,YaQ (by rw [hqn r hr];exact hk)];exact Ya4 _)
    omega
   walk_at "rd"
   refine⟨qs,rfl,k,rfl,rooms.getD k (0,0),rfl,rfl,hb0,hb,n,hk,h61,h1,hqn,hbd,hrk.1,hrk.2.1,#[0],fun ws hws hwl=>⟨sz (by rw [YaR,YaR];omega),?_⟩⟩
   have ef:(W++[ws]).flatten=W.flatten++ws:=by rw [List.flatten_append];simp
   rw [<-Ya2,<-ef];refine hW' _ ⟨W++[ws],_,_,rfl,by simp [hWl],fun i hi=>?_,by rw [ef,YaS];omega⟩
   by_cases e:i=k
   . subst e
     have g1:(W++[ws]).getD i []=ws:=by rw [<-hWl];simp
     rw [g1];exact hws
   . have g2:(W++[ws]).getD i []=W.getD i []:=by
      have hlt:i<W.length:=#[0]
      simp [Yab hlt]
     rw [g2];exact hWi i #[0]
 . rintro ρ ⟨W,t,u,rfl,hWl,hWi,hWf⟩
   walk_at "rd"
   exact q W hWl hWi #[0]
theorem ziN(T:Txt c K mg):#[8,dd_check_turn c]:=by
 obtain⟨f,fd,F,hm⟩:=T.d_check_turn;have S:FnScope ["turn", "turns"] ["turn", "turns"] (zh ze6):=#[10]
 walk_at "d"
 . walk_at "m"
 . walk_at "l"
 refine⟨_,(ze (s_if (Jc (za2 j0 j0 i3 (n3 0) (n3 1))) (ze (jw hE jq rfl rfl T.m_NoRule T.e_NoRule (za s3 zb))) zx)),fun ds Q h=>?_⟩
 obtain⟨t,T',rfl,q,hE'⟩:=h
 walk_at "rd"
 by_cases h1:1<=t
 . rw [if_pos h1]
   exact ite2 (fun z=>hE' fun y=>z y.2) fun z=>q ⟨h1,Decidable.not_not.mp z⟩
 . rw [if_neg h1]
   exact hE' fun y=>h1 y.1
theorem ziV(T:Txt c K mg):#[8,dd_check_rules c]:=by
 have zmm:#[8,dd_check_turn c]:=ziN T;obtain⟨f,fd,F,hm⟩:=T.d_check_rules;have S:FnScope ["rules", "turns", "clans", "word", "turn", "clan"] ["rules", "turns", "clans"] (zh zeV):=#[10]
 walk_at "d"
 . walk_at "m"
 . walk_at "l"
 refine⟨_,(ze (zE WaH rfl (zR (n3 0)) (jf (n:=3) rfl (zy #[9,zl,3] (zy #[9,zl,4] (zy #[9,zl,5] jb)))) (zd (s_if (zr (zlp (hu65 hr)) (n3 3) (z7 (za (g3s rfl T.m_FIXED) (za (g3s rfl T.m_BARRED) zb))) (by with_unfolding_all rfl)) (ze (jw hE jq rfl rfl T.m_NoRule T.e_NoRule (za s3 zb))) zx)
  (zd (Zp (df3 hE zmm #[7] rfl zo (za (n3 4) (za (n3 1) zb))))
  (ze (s_if (Jc (za2 j0 Jb i3 (n3 5) (n3 2))) (ze (jw hE jq rfl rfl T.m_NoRule T.e_NoRule (za s3 zb))) zx)))))),fun ds Q h=>?_⟩
 obtain⟨rs,T',n,rfl,htx,q,hE'⟩:=h
 walk_at "rd"
 refine jL dRl rs (fun done ρ=>∃ t3 t4 t5:Option L3.Cl,ρ = [some (.sh false (.list (rs.map dRl))),#[5,T'],#[5,n],t3,t4,t5]/\okRs T' n done) ?_ ?_ ⟨none,none,none,rfl,fun r h=>by cases h⟩
 . rintro done r rest ρ hd ⟨t3,t4,t5,rfl,hok⟩ W hW
   have hr:r∈rs:=by rw [hd];simp
   walk_at "rd"
   refine⟨htx r hr,zkM,ite2 (fun z=>hE' fun y=>(zeF _).mp z (y r hr).1) fun z=>⟨fun h1=>?_,fun h1=>hE' fun y=>h1 (y r hr).2.1⟩⟩
   by_cases h2:0<=r.2.2
   . rw [if_pos h2]
     refine ite2 (fun h3=>hE' fun y=>h3 (y r hr).2.2.2) fun h3=>hW _ ⟨_,_,_,rfl,fun x hx=>?_⟩
     rcases Ya3.mp hx with y|y
     . exact hok x y
     . rw [Ya6.mp y]
       exact⟨Decidable.not_not.mp fun y=>z ((zeF _).mpr y),h1,h2,Decidable.not_not.mp h3⟩
   . rw [if_neg h2]
     exact hE' fun y=>h2 (y r hr).2.2.1
 . rintro ρ ⟨t3,t4,t5,rfl,hok⟩
   exact q hok
theorem zkZ(T:Txt c K mg):#[8,dd_forbidden]:=by
 obtain⟨f,fd,F,hm⟩:=T.d_forbidden;have S:FnScope ["rules", "clans", "found", "word", "turn", "clan", "other"] ["rules", "clans"] (zh zeg):=#[10]
 refine⟨fun ds Q Q' hQ h=>?_,⟨f,fd,fnC [] F S (fun ds Q h=>?_) (fun cdv A outer s H H0 E E3 hE hr=>?_),F.binds fun _ _ _ _ _ _ us hl=>by obtain⟨_,_,rfl⟩:=zaQ hl;rfl,F.kp,hm⟩⟩
 . walk_at "m"
 . obtain⟨_,_,rfl,_⟩:=h;exact⟨rfl,by simp [jv]⟩
 refine⟨_,(zd #[9,zmb,2]
  (zd (zE WaH rfl (zR (n3 0)) (jf (n:=3) rfl (zy #[9,zl,3] (zy #[9,zl,4] (zy #[9,zl,5] jb)))) (ze (zE WaH rfl (jj rfl T.n_range (za (n3 1) zb)) #[9,zl,6] (ze (s_if (zr (jg hr.units) (cmp3 (jg hr.units) (n3 6) (n3 5) (nomark _)) (cmp3 (jg hr.units) (n3 3) (g3s rfl T.m_BARRED) (nomark _)) (nomark _)) (ze (zkl (i:=2) (z9 hr) rfl #[2] (n3 4) (n3 6) b3)) zx)))))
  (ze (zhE (i:=2) rfl #[2])))),fun ds Q h=>?_⟩
 obtain⟨rs,n,rfl,h8,hl,q⟩:=h;walk_at "q"
 walk_at "n";refine zZ (fun ρ=>∃ (ds:List (List Key×D)) (t3 t4 t5 t6:Option L3.Cl),ρ = [some (.sh false (.list (rs.map dRl))),#[5,n],some (.dt ds),t3,t4,t5,t6]/\(ds.all fun p=>zw p.2)=true/\Je rs n ds) (fun N hN=>?_) ?_
 . walk_at "rd"
   refine jL dRl rs (fun done ρ=>∃ (ds:List (List Key×D)) (t3 t4 t5 t6:Option L3.Cl),ρ = [some (.sh false (.list (rs.map dRl))),#[5,n],some (.dt ds),t3,t4,t5,t6]/\(ds.all fun p=>zw p.2)=true/\ds.length<=8*done.length/\Je done n ds) ?_ (fun ρ ⟨ds,t3,t4,t5,t6,e,h1,_,h2⟩=>hN _ ⟨ds,t3,t4,t5,t6,e,h1,h2⟩) ⟨[],none,none,none,none,rfl,rfl,Wbl _,Je.nil n⟩
   rintro done r rest ρ hd ⟨ds,t3,t4,t5,t6,rfl,hs,hdl,hF⟩ W hW
   have hdn:done.length<rs.length:=by rw [hd,YaS,List.length_cons];omega
   walk_at "rd"
   refine⟨#[0],#[0],?_⟩
   rw [Int.toNat_natCast];refine ji (fun j ρ=>∃ (ds:List (List Key×D)) (t6:Option L3.Cl),ρ = [some (.sh false (.list (rs.map dRl))),#[5,n],some (.dt ds),some (.sh true (.str r.1)),#[5,r.2.1],#[5,r.2.2],t6]/\(ds.all fun p=>zw p.2)=true/\ds.length<=8*done.length+j/\Jg done r n j ds) ?_ ?_ ⟨ds,_,rfl,hs,hdl,hF.part⟩
   . rintro j ρ hj ⟨ds,t6,rfl,hs,hdl,hP⟩ V hV
     walk_at "rd"
     refine⟨by rfl,by rfl,ite2 (fun e=>⟨YaU (show _<1000000 by omega) #[1],hV _ ⟨_,_,rfl,zhY hs rfl,?_,hP.put e⟩⟩) fun e=>hV _ ⟨_,_,rfl,hs,#[0],hP.skip e⟩⟩
     have:=zjx ds (kk r.2.1 (0+(j:Int))) (.bool true)
     omega
   . rintro ρ ⟨ds,t6,rfl,hs,hdl,hP⟩
     refine hW _ ⟨ds,_,_,_,_,rfl,hs,?_,hP.whole⟩
     rw [YaS,List.length_singleton]
     omega
 rintro ρ ⟨ds,t3,t4,t5,t6,rfl,hs,hF⟩
 walk_at "rd"
 exact q ds hs hF
theorem zkH(T:Txt c K mg):#[8,dd_may_come]:=by
 obtain⟨f,fd,F,hm⟩:=T.d_may_come;have S:FnScope ["visit", "turn", "barred"] ["visit", "turn", "barred"] (zh zeN):=#[10]
 refine⟨fun ds Q Q' hQ h=>?_,⟨f,fd,fnC [] F S (fun ds Q h=>?_) (fun cdv A outer s H H0 E E3 hE hr=>?_),F.binds fun _ _ _ _ _ _ us hl=>by obtain⟨_,_,_,rfl⟩:=zaC hl;rfl,F.kp,hm⟩⟩
 . walk_at "m"
 . obtain⟨_,_,_,rfl,hs,_⟩:=h;exact⟨rfl,by simpa [jv] using hs⟩
 refine⟨_,(zd (s_if (pw3 (Zn (zr Jb (n3 1) (at3 (n3 0) i3 #[4]) (nomark _)) (Zh (pw3 (JX (zr zbp (at3 (n3 0) i3 #[4]) non3 (nomark _)) (J3 (zr jY (n3 1) (at3 (n3 0) i3 #[4]) (nomark _)))))))) (ze (zbo b3)) zx)
  (ze (zbo (zkf (i:=2) (z9 hr) rfl #[2] (n3 1) (at3 (n3 0) i3 #[4]))))),fun ds Q h=>?_⟩
 obtain⟨⟨vc,vj,vo,vl⟩,t,ds,rfl,hs,q⟩:=h;unfold mayD at q;dsimp only at q;cases vl with
 | none=>
  walk_at "rd dO"
  refine ite2 (fun e=>?_) fun e=>?_
  . rw [if_pos e] at q;exact q
  . rw [if_neg e] at q;exact q
 | some x=>
  walk_at "rd dO"
  refine ite2 (fun e=>?_) fun e=>?_
  . rw [if_pos e] at q;exact q
  . rw [if_neg e] at q
    dsimp only at q;refine ite2 (fun e=>?_) fun e=>?_
    . rw [if_pos e] at q;exact q
    . rw [if_neg e] at q;exact q
theorem zj8(T:Txt c K mg):#[8,dd_choices_of_turns c]:=by
 have zmk:#[8,dd_check_rules c]:=ziV T;have zmt:#[8,dd_forbidden]:=zkZ T;have zmL:#[8,dd_may_come]:=zkH T;obtain⟨f,fd,F,hm⟩:=T.d_choices_of_turns;have S:FnScope ["told", "visits", "rules", "turns", "clans", "barred", "found", "turn"] ["told", "visits", "rules"] (zh zdt):=#[10]
 walk_at "d"
 . walk_at "m"
 . walk_at "l"
 refine⟨_,(zd (#[9,zj,3] (op3 jE (zp zD rfl T.n_len zz (za (at3 (n3 0) i3 #[4]) zb)) i3))
  (zd (#[9,zj,4] (zp zD rfl T.n_len zz (za (at3 (at3 (n3 0) i3 #[4]) i3 #[4]) zb)))
  (zd (Zp (df3 hE zmk #[7] rfl zo (za (n3 2) (za (n3 3) (za (n3 4) zb)))))
  (zd (zc0 (i:=5) [] #[1] S.nd rfl #[2] zmt #[7] rfl zo (za (n3 2) (za (n3 4) zb)))
  (zd (#[9,jo,6] (jd zb))
  (zd (zlU 5 (zE WaH rfl (zbb rfl T.n_range (za i3 (za (op3 zP (n3 3) i3) zb))) #[9,zl,7] (ze (jH (i:=6) rfl #[2] (new3 (jU ["place", "visit"] ["turn", "barred"] [7,5] rfl (zY (osc:=zh zdt) #[3]) rfl (zbP rfl T.n_enumerate (za (n3 1) zb)) (fun H0 s H fp cl=>⟨(jf (n:=2) rfl (zy (zl (i:=0) (show((["place", "visit"]:List PySem.Str)++(["turn", "barred"]:List PySem.Str)).Nodup by decide) rfl #[2]) (zy (zl (i:=1) (show((["place", "visit"]:List PySem.Str)++(["turn", "barred"]:List PySem.Str)).Nodup by decide) rfl #[2]) jb))),(zel (val3 (dfX (E:=fun _ _ _=>False) zmL #[7] rfl jC (za (n3 1) (za (n3 2) (za (n3 3) zb)))))),(n3 0)⟩)))))))
  (ze (jA [6] (zt (n3 6)))))))))),fun ds Q h=>?_⟩
 obtain⟨b,qs,V,rs,n,T',rfl,hq,hT,hn,h8,hV,hVc,hrl,htx,q,hE'⟩:=h;have hd0:atI (qs.map dI) 0=some (PyData.list ((qs[0]'(by omega)).map PyData.int)):=J4 (i:=0) #[0]
 have h0n:(qs[0]'(by omega)).length=n:=hn _ (Ya4 _)
 have et:((qs.length:Int) - 1)=(T':Int):=#[0]
 walk_at "s"
 walk_at "rd YaR et"
 walk_at "u"
 walk_at "rd hd0 YaR h0n"
 walk_at "v"
 refine⟨rs,rfl,htx,fun hok=>hN _ ?_,hE'⟩
 walk_at "w"
 refine⟨rs,rfl,n,rfl,h8,hrl,fun ds hds hF=>hN _ ?_⟩
 walk_at "w"
 walk_at "n";refine zZ (fun ρ=>∃ (ch:List #[22]) (t7:Option L3.Cl), ρ = [some (.sh false (.tuple [.int b,.list (qs.map dI)])),some (.sh false (.list (V.map dW))),some (.sh false (.list (rs.map dRl))),#[5,T'],#[5,n],some (.fd ds),some (.ow true (ch.map dI)),t7]/\ch.length=T'/\(∀ row∈ch,row.length<=2000/\row.Nodup/\∀ x∈row,InR x V.length)/\ChOk rs V ch) (fun N hN=>?_) ?_
 . walk_at "rd"
   refine⟨#[1],#[1],#[0],#[0],?_⟩
   rw [show((T':Int)+1 - 1).toNat=T' by omega]
   refine ji (fun k ρ=>∃ (ch:List #[22]) (t7:Option L3.Cl), ρ = [some (.sh false (.tuple [.int b,.list (qs.map dI)])),some (.sh false (.list (V.map dW))),some (.sh false (.list (rs.map dRl))),#[5,T'],#[5,n],some (.fd ds),some (.ow true (ch.map dI)),t7]/\ch.length=k/\(∀ row∈ch,row.length<=2000/\row.Nodup/\∀ x∈row,InR x V.length)/\ChOk rs V ch) ?_ (fun ρ h=>hN ρ h) ⟨[],_,rfl,rfl,fun row h=>(by cases h),fun k h=>absurd h (Nat.not_lt_zero _)⟩
   rintro k ρ hk ⟨ch,t7,rfl,hcl,hrow,hch⟩ W hW
   walk_at "rd"
   rw [zeb];refine⟨sz (by rw [YaR,YaG];omega),?_⟩
   refine zc8 (fun i:Nat=>PyData.tuple [PyData.int (i:Nat),dW (V.getD i (0,0,0,none))]) (fun i:Nat=>PyData.int (i:Nat)) (fun i:Nat=>mayD ds (V.getD i (0,0,0,none)) (1+(k:Int))) (fun ρ=>∃ t0 t1,ρ = [t0,t1,#[5,(1+(k:Int))],some (.fd ds)]) (List.range V.length) ?_ _ _ _ _ ⟨none,none,rfl⟩ ?_
   . rintro i hi ρ fa acc K ⟨t0,t1,rfl⟩ k1
     walk_at "rd"
     refine⟨hds,V.getD i (0,0,0,none),rfl,rfl,rfl,rfl,hds,?_⟩
     by_cases e:mayD ds (V.getD i (0,0,0,none)) (1+(k:Int))=true
     . rw [if_pos e] at k1
       rw [if_pos e];exact k1 _ ⟨_,_,rfl⟩
     . rw [if_neg e] at k1
       rw [if_neg e];exact k1 _ ⟨_,_,rfl⟩
   . have hm:((List.range V.length).filter fun i:Nat=>mayD ds (V.getD i (0,0,0,none)) (1+(k:Int))).map (fun i:Nat=>PyData.int (i:Nat))=(((List.range V.length).filter fun i:Nat=>mayD ds (V.getD i (0,0,0,none)) (1+(k:Int))).map fun i:Nat=>(i:Int)).map PyData.int:=by rw [YaD];rfl
     have hyl:=List.length_filter_le (fun i:Nat=>mayD ds (V.getD i (0,0,0,none)) (1+(k:Int))) (List.range V.length)
     rw [YaG] at hyl;rw [List.nil_append,hm];refine⟨YaU (show _<1000 by rw [YaR];omega) #[1],hW _ ⟨ch++[((List.range V.length).filter fun i:Nat=>mayD ds (V.getD i (0,0,0,none)) (1+(k:Int))).map fun i:Nat=>(i:Int)],_,by rw [Ya2];rfl,by simp [hcl],fun row hr=>?_,?_⟩⟩
     rcases Ya3.mp hr with z|z
     . exact hrow row z
     . rw [Ya6.mp z]
       refine⟨by rw [YaR];omega,zh3 (WaR.filter _),fun x hx=>?_⟩
       obtain⟨i,hi,rfl⟩:=Ya7.mp hx;have:=Yba.mp (Ya9.mp hi).1;exact⟨#[0],#[0]⟩
     . refine hch.snoc fun i hi=>?_
       rw [hcl,<-zlB hF (hVc _ (JG hi)),show(((k:Nat):Int)+1)=1+(k:Int) by omega]
       constructor
       . intro z
         obtain⟨j,hj,e⟩:=Ya7.mp z;have:j=i:=#[0]
         subst this;exact(Ya9.mp hj).2
       . intro z
         exact Ya7.mpr ⟨i,Ya9.mpr ⟨Yba.mpr hi,z⟩,rfl⟩
 rintro ρ ⟨ch,t7,rfl,hcl,hrow,hch⟩
 walk_at "rd"
 exact q hok ch hcl hrow hch
theorem zjr(T:Txt c K mg):#[8,dd_check_row c]:=by
 obtain⟨f,fd,F,hm⟩:=T.d_check_row;have S:FnScope ["row", "turns", "clans", "clan"] ["row", "turns", "clans"] (zh ze3):=#[10]
 walk_at "d"
 . walk_at "m"
 . walk_at "l"
 refine⟨_,(zd (s_if (zr (Jj hr.units) (zp zD rfl T.n_len zz (za (n3 0) zb)) (n3 1) (nomark _)) (ze (jw hE jq rfl rfl T.m_NoRow T.e_NoRow (za s3 zb))) zx)
  (ze (zE WaH rfl (zR (n3 0)) #[9,zl,3] (ze (s_if (Jc (za2 j0 Jb i3 (n3 3) (n3 2))) (ze (jw hE jq rfl rfl T.m_NoRow T.e_NoRow (za s3 zb))) zx))))),fun ds Q h=>?_⟩
 obtain⟨row,T',n,rfl,q,hE'⟩:=h
 walk_at "rd"
 rw [YaR]
 by_cases h1:(row.length:Int)=T'
 case neg=>rw [if_pos h1];exact hE' fun z=>h1 (by rw [z.1])
 rw [if_neg (fun z=>z h1)]
 refine jL PyData.int row (fun done ρ=>∃ t,ρ = [some (.sh false (.list (row.map .int))),#[5,T'],#[5,n],t]/\∀ x∈done,0<=x/\x<(n:Int)) ?_ ?_ ⟨none,rfl,fun x h=>by cases h⟩
 . rintro done x rest ρ hd ⟨t,rfl,hall⟩ W hW
   have hx:x∈row:=by rw [hd];simp
   walk_at "rd"
   by_cases h2:0<=x
   case neg=>rw [if_neg h2];exact hE' fun z=>h2 (z.2 x hx).1
   rw [if_pos h2]
   by_cases h3:x<(n:Int)
   case neg=>rw [if_pos h3];exact hE' fun z=>h3 (z.2 x hx).2
   rw [if_neg (fun z=>z h3)]
   exact hW _ ⟨_,rfl,fun y hy=>by
    rcases Ya3.mp hy with z|z
    . exact hall y z
    . rw [Ya6.mp z];exact⟨h2,h3⟩⟩
 . rintro ρ ⟨t,rfl,hall⟩
   exact q ⟨#[0],hall⟩
theorem zkG(T:Txt c K mg):#[8,dd_choices_of_visits]:=by
 obtain⟨f,fd,F,hm⟩:=T.d_choices_of_visits;have S:FnScope ["visits", "choices", "found", "turn", "places", "place"] ["visits", "choices"] (zh zdk):=#[10]
 walk_at "d"
 . walk_at "m"
 . walk_at "l"
 refine⟨_,(zd (#[9,zea,2] ["visit"] [] [] rfl (zY (osc:=zh zdk) #[3]) rfl (zR (n3 0)) (fun s H fp cl=>⟨jp (i:=0) (show((["visit"]:List PySem.Str)++([]:List PySem.Str)).Nodup by decide) rfl #[2] (by first|exact .inl rfl|exact .inr rfl),zbT zK⟩) (fun σ H Q h=>⟨show 0<=sizeLine by decide,h⟩) (fun G=>RdVs.nil) rfl)
  (zd (zE WaH rfl (zbP rfl T.n_enumerate (za (n3 1) zb)) (jf (n:=2) rfl (zy #[9,zl,3] (zy #[9,zl,4] jb))) (ze (zE WaH rfl (zR (n3 4)) #[9,zl,5] (ze (zhp (i:=2) rfl #[2] (n3 5) (n3 3) #[4])))))
  (ze (jA [2] (zt (n3 2)))))),fun ds Q h=>?_⟩
 obtain⟨V,ch,rfl,hV,hT,hrow,q⟩:=h;walk_at "s"
 walk_at "rd YaR"
 refine⟨#[0],fun ps hps=>hN _ ?_⟩
 clear hN N;have e0:List.replicate V.length ([]:List D)=(List.replicate V.length ([]:List Int)).map fun r=>r.map PyData.int:=by rw [Yaz];rfl
 rw [e0];refine zZ (fun ρ=>∃ (tv:List #[22]) (t3 t4 t5:Option L3.Cl),ρ = [some (.sh false (.list (V.map dW))),some (.sh false (.list (ch.map dI))),some (.tr ps (tv.map fun r=>r.map PyData.int)),t3,t4,t5]/\tv.length=V.length/\(∀ row∈tv,∀ x∈row,InR x ch.length)/\TvOk V.length ch ch.length [] tv) (fun N hN=>?_) ?_
 . walk_at "rd"
   rw [zjC];refine zdz (fun k ρ=>∃ (tv:List #[22]) (t3 t4 t5:Option L3.Cl),ρ = [some (.sh false (.list (V.map dW))),some (.sh false (.list (ch.map dI))),some (.tr ps (tv.map fun r=>r.map PyData.int)),t3,t4,t5]/\tv.length=V.length/\(∀ row∈tv,∀ x∈row,InR x ch.length)/\(∀ row∈tv,row.length<=2000*k)/\TvOk V.length ch k [] tv) ?_ (fun ρ ⟨tv,t3,t4,t5,e,h1,h2,_,h3⟩=>hN ρ ⟨tv,t3,t4,t5,e,h1,h2,h3⟩) ⟨List.replicate V.length [],none,none,none,rfl,by simp,fun row h x hx=>(by rw [Wai h] at hx;cases hx),fun row h=>(by rw [Wai h];exact Wbl _),TvOk.nil _ _⟩
   rintro k ρ hk ⟨tv,t3,t4,t5,rfl,hl,hin,hlen,htv⟩ W hW
   obtain⟨r1,r2⟩:=hrow (ch.getD k []) (JG hk);generalize hrw:ch.getD k []=row at r1 r2
   walk_at "rd"
   refine jL PyData.int row (fun done ρ=>∃ (tv:List #[22]) (t5:Option L3.Cl),ρ = [some (.sh false (.list (V.map dW))),some (.sh false (.list (ch.map dI))),some (.tr ps (tv.map fun r=>r.map PyData.int)),#[5,(k:Int)],some (.sh false (.list (row.map .int))),t5]/\tv.length=V.length/\(∀ row∈tv,∀ x∈row,InR x ch.length)/\(∀ row∈tv,row.length<=2000*k+done.length)/\TvOk V.length ch k done tv) ?_ ?_ ⟨tv,_,rfl,hl,hin,hlen,htv⟩
   . rintro done x rest ρ hd ⟨tv,t5,rfl,hl,hin,hlen,htv⟩ V' hV'
     have hx:InR x tv.length:=by rw [hl];exact r2 x (by rw [hd];simp)
     have hdn:done.length<row.length:=by rw [hd,YaS,List.length_cons];omega
     obtain⟨a1,a2⟩:=zbr (d:=[]) hx;have a3:=hin _ a2;have a4:=hlen _ a2;generalize hrv:tv.getD x.toNat []=rw_ at a1 a2 a3 a4;have b1:atI (tv.map fun r=>r.map PyData.int) x=some (rw_.map PyData.int):=by rw [Zt,a1];rfl
     have b2:ixN (tv.map fun r=>r.map PyData.int).length x=some x.toNat:=Jz hx.1 (by rw [YaR];exact hx.2)
     walk_at "rd"
     refine⟨_,b1,_,b2,YaU (show _<1000000 by rw [YaR];omega) #[1],hV' _ ⟨tv.set x.toNat (rw_++[(k:Int)]),_,by rw [Wbj,Ya2];rfl,by rw [YaN];exact hl,fun r hr y hy=>?_,fun r hr=>?_,hrv ▸ htv.step hx hl⟩⟩
     . rcases Wag hr with z|z
       . exact hin r z y hy
       . rw [z] at hy
         rcases Ya3.mp hy with w|w
         . exact a3 y w
         . rw [Ya6.mp w];exact⟨#[0],#[0]⟩
     . rw [YaS,List.length_singleton]
       rcases Wag hr with z|z
       . have:=hlen r z;omega
       . rw [z,YaS,List.length_singleton];omega
   . rintro ρ ⟨tv,t5,rfl,hl,hin,hlen,htv⟩
     exact hW _ ⟨tv,_,_,_,rfl,hl,hin,fun r hr=>(by have:=hlen r hr;omega),htv.whole hrw⟩
 rintro ρ ⟨tv,t3,t4,t5,rfl,hl,hin,htv⟩
 walk_at "rd"
 have:=q tv hl hin htv.fin;rw [YaD];exact this
theorem zlJ(T:Txt c K mg):#[8,dd_move_along]:=by
 obtain⟨f,fd,F,hm⟩:=T.d_move_along;have S:FnScope ["choice", "came", "taken", "holders", "taker", "former"] ["choice", "came", "taken", "holders"] (zh zbA):=#[10]
 refine⟨fun ds Q Q' hQ h=>?_,⟨f,fd,fnC [1,2,3] F S (fun ds Q h=>?_) (fun cdv A outer s H H0 E E3 hE hr=>?_),F.binds fun _ _ _ _ _ _ us hl=>by obtain⟨_,_,_,_,rfl⟩:=zaa hl;rfl,F.kp,hm⟩⟩
 . walk_at "m"
 . obtain⟨_,_,_,_,_,_,_,_,_,_,_,_,_,rfl,_⟩:=h;exact⟨rfl,by simp [jv]⟩
 refine⟨_,(ze (JB WaH (zr zbp (n3 0) non3 (nomark _)) (zd (#[9,zj,4] (zck (i:=1) (z9 hr) rfl #[2] (n3 0)))
  (zd (#[9,zj,5] (zjy (i:=2) (z9 hr) rfl #[2] (n3 4)))
  (zd (zcB (i:=2) (z9 hr) rfl #[2] (n3 4) (n3 0))
  (zd (zcB (i:=3) (z9 hr) rfl #[2] (n3 0) (n3 4))
  (ze (#[9,zj,0] (n3 5))))))))),fun ds Q h=>?_⟩
 obtain⟨x,a1,a2,a3,ca,t,h,r,start,A',B',m,Ed,rfl,hw,ho,hA,hB,q⟩:=h
 walk_at "rd"
 refine⟨_,Jn (fun k ρ=>(∃ (x:Int) (t' h':Tb) (t4 t5:Option L3.Cl) (j:Nat),ρ = [#[5,x],some (.dm a1 ca),some (.dm a2 t'),some (.dm a3 h'),t4,t5]/\OnWay Ed ca t h t' h' r x A' B' j/\k=j+1)\/∃ (t' h':Tb) (t4 t5:Option L3.Cl),ρ = [some (.sh true .none),some (.dm a1 ca),some (.dm a2 t'),some (.dm a3 h'),t4,t5]/\Moved Ed t h t' h' start A' B') ?_ _ _ (.inl ⟨x,t,h,_,_,m,rfl,ho,rfl⟩)⟩
 rintro k ρ (⟨x,t',h',t4,t5,j,rfl,ho,rfl⟩|⟨t',h',t4,t5,rfl,hm⟩) W hW
 . obtain⟨s,hs,_⟩:=ho.came
   obtain⟨st1,st2⟩:=ho.step hw hs;have l1:=ho.ot.len;have l2:=ho.oh.len;refine zb7 fun Y N' hY hN'=>?_
   walk_at "rd"
   refine hY ?_
   clear hY hN' Y N';walk_at "s"
   walk_at "rd hs"
   walk_at "v"
   walk_at "v"
   refine⟨YaU (show _<1000000 by omega) #[1],hN _ ?_⟩
   walk_at "w"
   refine⟨YaU (show _<1000000 by omega) #[1],hN _ ?_⟩
   clear hN N;cases e:getM t' s with
   | none=>
    walk_at "rd optI"
    exact hW 0 _ #[0] (.inr ⟨_,_,_,_,rfl,st1 e⟩)
   | some c'=>
    obtain⟨m',hm',o'⟩:=st2 c' e
    walk_at "rd optI"
    exact hW (m'+1) _ #[0] (.inl ⟨c',_,_,_,_,m',rfl,o',rfl⟩)
 . refine zb7 fun Y N' hY hN'=>?_
   walk_at "rd"
   refine hN' ?_
   walk_at "rd"
   exact q t' h' hm
theorem zk2(T:Txt c K mg):#[8,dd_settle]:=by
 have zmO:#[8,dd_move_along]:=zlJ T;obtain⟨f,fd,F,hm⟩:=T.d_settle;have S:FnScope ["start", "choices", "taken", "holders", "reached", "came", "place", "seeker", "choice"] ["start", "choices", "taken", "holders"] (zh zee):=#[10]
 refine⟨fun ds Q Q' hQ h=>?_,⟨f,fd,fnC [2,3] F S (fun ds Q h=>?_) (fun cdv A outer s H H0 E E3 hE hr=>?_),F.binds fun _ _ _ _ _ _ us hl=>by obtain⟨_,_,_,_,rfl⟩:=zaa hl;rfl,F.kp,hm⟩⟩
 . walk_at "m"
 . obtain⟨_,_,_,_,_,_,_,_,rfl,_⟩:=h;exact⟨rfl,by simp [jv]⟩
 refine⟨_,(zd (#[9,jo,4] (jd (za (n3 0) zb)))
  (zd #[9,zcP,5]
  (zd (#[9,zj,6] i3)
  (zd (JB WaH (zr Jb (n3 6) (zp zD rfl T.n_len zz (za (n3 4) zb)) (nomark _)) (zd (#[9,zj,7] (at3 (n3 4) (n3 6) #[4]))
   (zd (zE WaH rfl (zR (at3 (n3 1) (n3 7) #[4])) #[9,zl,8] (ze (s_if (zcT (i:=5) (z9 hr) rfl #[2] (n3 8)) (zd (zcB (i:=5) (z9 hr) rfl #[2] (n3 8) (n3 7))
    (zd (s_if (zcT (i:=3) (z9 hr) rfl #[2] (n3 8)) (zd (zjF [5,2,3] #[1] zmO #[7] rfl zo (za (n3 8) (za (n3 5) (za (n3 2) (za (n3 3) zb)))))
     (ze (zbo (new3 (jd zb))))) zx)
    (ze (jH (i:=4) rfl #[2] (zck (i:=3) (z9 hr) rfl #[2] (n3 8)))))) zx)))
   (ze (#[9,zdH,6] i3)))))
  (ze (zbo (new3 (zlX rfl rfl T.n_sorted (za (n3 4) zb))))))))),fun ds Q h=>?_⟩
 obtain⟨start,ch,a2,a3,t,h,A',B',rfl,hch,hA,hB,h62,hst,hrow,hm,ht,hh,h0,hte,q1,q2⟩:=h;generalize hEd:(fun s c:Int=>c∈ch.getD s.toNat [])=Ed at q1
 have hte:∀ s c,getM t s=some c->Ed s c:=fun s c e=>by rw [<-hEd];exact hte s c e
 walk_at "q"
 walk_at "v"
 refine fun ac=>hN _ ?_
 walk_at "w"
 walk_at "n";refine zZ (fun ρ=>∃ (R:List Int) (ca:Tb) (p:Nat) (t7 t8:Option L3.Cl),ρ = [#[5,start],some (.sh false (.list (ch.map dI))),some (.dm a2 t),some (.dm a3 h),some (.ow true (R.map .int)),some (.dm ac ca),#[5,(p:Int)],t7,t8]/\Rea Ed start t h ca R A' B') (fun N hN=>?_) ?_
 . walk_at "rd"
   refine⟨_,Jn (fun k ρ=>∃ (R:List Int) (ca:Tb) (p:Nat) (t7 t8:Option L3.Cl),ρ = [#[5,start],some (.sh false (.list (ch.map dI))),some (.dm a2 t),some (.dm a3 h),some (.ow true (R.map .int)),some (.dm ac ca),#[5,(p:Int)],t7,t8]/\Rea Ed start t h ca R A' B'/\p<=R.length/\k=A' - p) ?_ _ _ ⟨[start],[],0,_,_,rfl,Rea.start hst,Wbl _,rfl⟩⟩
   rintro k ρ ⟨R,ca,p,t7,t8,rfl,hR,hp,rfl⟩ W hW
   have hRA:=Zs hR.nd hR.inn;refine zb7 fun Y N' hY hN'=>?_
   walk_at "rd YaR"
   refine ite2 (fun hlt=>hY ?_) fun hge=>hN' (hN _ ⟨R,ca,p,t7,t8,rfl,hR⟩)
   clear hY hN' Y N';have hlt:p<R.length:=#[0]
   have hsk:atI (R.map PyData.int) (p:Int)=some (PyData.int (R[p]'hlt)):=z8 (by rw [Ya0,YaQ hlt];rfl)
   have hsR:R[p]'hlt∈R:=Ya4 _;have hpR:R[p]?=some (R[p]'hlt):=YaQ hlt;generalize R[p]'hlt=s at hsk hsR hpR;refine zk fun N1 hN1=>?_
   walk_at "rd hsk"
   refine hN1 _ ?_
   clear hN1 N1;obtain⟨r1,r2⟩:=zbr (L:=ch) (d:=[]) (hch ▸ hR.inn s hsR);have r1':atI (ch.map dI) s=some (.list ((ch.getD s.toNat []).map .int)):=by rw [Zt,r1];rfl
   have r3:=hrow _ r2;have hes:∀ c,c∈ch.getD s.toNat []->Ed s c:=fun c hc=>by rw [<-hEd];exact hc
   generalize hrw:ch.getD s.toNat []=row at r1' r3 hes;refine zZ (fun ρ=>∃ (R:List Int) (ca:Tb) (t8:Option L3.Cl),ρ = [#[5,start],some (.sh false (.list (ch.map dI))),some (.dm a2 t),some (.dm a3 h),some (.ow true (R.map .int)),some (.dm ac ca),#[5,(p:Int)],#[5,s],t8]/\Rea Ed start t h ca R A' B'/\R[p]?=some s) (fun N1 hN1=>?_) ?_
   . walk_at "rd r1'"
     refine jL PyData.int row (fun done ρ=>∃ (R:List Int) (ca:Tb) (t8:Option L3.Cl),ρ = [#[5,start],some (.sh false (.list (ch.map dI))),some (.dm a2 t),some (.dm a3 h),some (.ow true (R.map .int)),some (.dm ac ca),#[5,(p:Int)],#[5,s],t8]/\Rea Ed start t h ca R A' B'/\R[p]?=some s) ?_ (fun ρ h=>hN1 ρ h) ⟨R,ca,_,rfl,hR,hpR⟩
     clear hR hRA hp hlt hsk hsR hpR
     rintro done x rest ρ hd ⟨R,ca,t8,rfl,hR,hpR⟩ V hV
     have hsR:s∈R:=Yah hpR;have hlt:p<R.length:=(Ya8.mp hpR).1;have hex:Ed s x:=hes x (by rw [hd];simp)
     have hx:InR x B':=r3 x (by rw [hd];simp)
     have hRA:=Zs hR.nd hR.inn;have hcl:=hR.oc.len
     walk_at "g"
     refine zbI fun Y N' hY hN'=>?_
     walk_at "rd"
     refine ite2 (fun hn=>hY ?_) fun hn=>hN' (by walk_at "rd";exact hV _ ⟨R,ca,_,rfl,hR,hpR⟩)
     clear hY hN' Y N';have hn:getM ca x=none:=by cases e:getM ca x with|none=>rfl|some _=>rw [e] at hn;cases hn
     refine zk fun N2 hN2=>?_
     walk_at "rd"
     refine⟨YaU (show _<1000000 by omega) #[1],hN2 _ ?_⟩
     clear hN2 N2;refine zk fun N2 hN2=>?_
     refine zbI fun Y N' hY hN'=>?_
     walk_at "rd"
     refine ite2 (fun hf=>hY ?_) fun hf=>hN' ?_
     . clear hY hN' Y N' hN2
       have hf:getM h x=none:=by cases e:getM h x with|none=>rfl|some _=>rw [e] at hf;cases hf
       have hway:=hR.seen h0 hsR hex hx hn;refine zk fun N3 hN3=>?_
       walk_at "rd"
       refine⟨fun y=>R.idxOf y,start,A',B',R.idxOf s,Ed,hway,⟨hte,hm.free hf,ht,hh,⟨s,by rw [zV,if_pos rfl],rfl⟩,fun _ _=>rfl,fun _=>Iff.rfl,fun _ z=>z⟩,hA,hB,fun t' h' hmv=>hN3 _ ?_⟩
       walk_at "rd"
       exact q1 t' h' hmv
     . have hf:∃ y,getM h x=some y:=by cases e:getM h x with|none=>rw [e] at hf;exact absurd rfl hf|some y=>exact⟨y,rfl⟩
       obtain⟨y,hy⟩:=hf
       walk_at "rd"
       refine hN2 _ ?_
       clear hY hN' Y N' hN2 N2
       walk_at "rd hy YaR"
       refine⟨YaU (show _<1000000 by omega) #[1],hV _ ⟨R++[y],putM ca x s,_,by rw [Ya2];rfl,hR.more hm h0 hsR hex hx hn hy hh,by rw [Yab hlt];exact hpR⟩⟩
   rintro ρ ⟨R',ca',t8',rfl,hR',hpR'⟩
   have hRA':=Zs hR'.nd hR'.inn;have hlt':p<R'.length:=(Ya8.mp hpR').1
   walk_at "rd"
   refine hW (A' - (p+1)) _ #[0] ⟨R',ca',p+1,_,_,rfl,hR',#[0],rfl⟩
 rintro ρ ⟨R,ca,p,t7,t8,rfl,hR⟩
 have hRA:=Zs hR.nd hR.inn;have hcl:=hR.oc.len;have hln:=hR.len
 walk_at "rd"
 refine⟨R,rfl,#[0],fun ms p hpw=>?_⟩
 have hml:=p.length_eq;exact q2 ms (fun z=>by have:=p.mem_iff.mpr (Yah hR.hd);rw [z] at this;cases this) #[0] fun x hx=>hR.inn x (p.mem_iff.mp hx)
theorem zii(T:Txt c K mg):#[8,dd_place_visits]:=by
 have zmp:#[8,dd_choices_of_visits]:=zkG T;have zmT:#[8,dd_settle]:=zk2 T;obtain⟨f,fd,F,hm⟩:=T.d_place_visits;have S:FnScope ["visits", "choices", "turn_of_visit", "visit_of_turn", "turns_for", "place", "visit", "stuck", "turn"] ["visits", "choices"] (zh Z8):=#[10]
 walk_at "d"
 . walk_at "m"
 . walk_at "l"
 refine⟨_,(zd #[9,zcP,2]
  (zd #[9,zcP,3]
  (zd (#[9,zj,4] (df3 hE zmp #[7] rfl zo (za (n3 0) (za (n3 1) zb))))
  (zd (zE WaH rfl (zbP rfl T.n_enumerate (za (n3 0) zb)) (jf (n:=2) rfl (zy #[9,zl,5] (zy #[9,zl,6] jb))) (ze (s_if (zr zbp (at3 (n3 6) i3 #[4]) non3 (nomark _)) (zd (zc0 (i:=7) [2,3] #[1] S.nd rfl #[2] zmT #[7] rfl zo (za (n3 5) (za (n3 4) (za (n3 2) (za (n3 3) zb)))))
   (ze (s_if (zr jY (zp zD rfl T.n_len zz (za (n3 7) zb)) i3 (nomark _)) (ze (zt (z7 (za s3 (za (new3 (jU ["other"] ["visits"] [0] rfl (zY (osc:=zh Z8) #[3]) rfl (zR (n3 7)) (fun H0 s H fp cl=>⟨(zl (i:=0) (show((["other"]:List PySem.Str)++(["visits"]:List PySem.Str)).Nodup by decide) rfl #[2]),jD,(z7 (za (at3 (at3 (n3 1) (n3 0) #[4]) i3 #[4]) (za (at3 (at3 (n3 1) (n3 0) #[4]) i3 #[4]) zb)))⟩))) zb))))) zx))) zx)))
  (zd (zE WaH rfl (jj rfl T.n_range (za (zp zD rfl T.n_len zz (za (n3 1) zb)) zb)) #[9,zl,8] (ze (s_if (zcT (i:=3) (z9 hr) rfl #[2] (n3 8)) (zd (zc0 (i:=7) [3,2] #[1] S.nd rfl #[2] zmT #[7] rfl zo (za (n3 8) (za (n3 1) (za (n3 3) (za (n3 2) zb)))))
   (ze (s_if (zr jY (zp zD rfl T.n_len zz (za (n3 7) zb)) i3 (nomark _)) (ze (zt (z7 (za s3 (za (new3 (jU ["other"] [] [] rfl (zY (osc:=zh Z8) #[3]) rfl (zR (n3 7)) (fun H0 s H fp cl=>⟨(zl (i:=0) (show((["other"]:List PySem.Str)++([]:List PySem.Str)).Nodup by decide) rfl #[2]),jD,(op3 zP (n3 0) i3)⟩))) zb))))) zx))) zx)))
  (ze (zt (z7 (za s3 (za (new3 (jU ["turn"] ["visits", "visit_of_turn"] [0,3] rfl (zY (osc:=zh Z8) #[3]) rfl (jj rfl T.n_range (za (zp zD rfl T.n_len zz (za (n3 1) zb)) zb)) (fun H0 s H fp cl=>⟨(zl (i:=0) (show((["turn"]:List PySem.Str)++(["visits", "visit_of_turn"]:List PySem.Str)).Nodup by decide) rfl #[2]),jD,(at3 (at3 (n3 1) (zck (i:=2) (z9 hr) rfl #[2] (n3 0)) #[4]) i3 #[4])⟩))) zb)))))))))),fun ds Q h=>?_⟩
 obtain⟨V,ch,rfl,hV,hT,hrow,q⟩:=h;walk_at "q"
 refine fun a2=>hN _ ?_
 walk_at "w"
 refine fun a3=>hN _ ?_
 walk_at "w"
 refine⟨V,rfl,ch,rfl,hV,hT,hrow,fun tv hvl htv htc=>hN _ ?_⟩
 clear hN N;refine zZ (fun ρ=>∃ (t h:Tb) (t5 t6 t7:Option L3.Cl),ρ = [some (.sh false (.list (V.map dW))),some (.sh false (.list (ch.map dI))),some (.dm a2 t),some (.dm a3 h),some (.sh true (.list (tv.map dI))),t5,t6,t7,none]/\Mat t h/\TbOk t V.length ch.length/\TbOk h ch.length V.length/\(∀ s c,getM t s=some c->c∈tv.getD s.toNat [])/\∀ i,i<V.length->(V.getD i z4).2.2.2≠none->(getM t (i:Int)).isSome=true) (fun N hN=>?_) ?_
 . walk_at "rd"
   rw [zeb];refine zdz (fun k ρ=>∃ (t h:Tb) (t5 t6 t7:Option L3.Cl),ρ = [some (.sh false (.list (V.map dW))),some (.sh false (.list (ch.map dI))),some (.dm a2 t),some (.dm a3 h),some (.sh true (.list (tv.map dI))),t5,t6,t7,none]/\Mat t h/\TbOk t V.length ch.length/\TbOk h ch.length V.length/\(∀ s,(getM t s).isSome=true->s<(k:Int))/\(∀ s c,getM t s=some c->c∈tv.getD s.toNat [])/\∀ i,i<k->(V.getD i z4).2.2.2≠none->(getM t (i:Int)).isSome=true) ?_ (fun ρ ⟨t,h,t5,t6,t7,e,h1,h2,h3,_,h4,h5⟩=>hN ρ ⟨t,h,t5,t6,t7,e,h1,h2,h3,h4,h5⟩) ⟨[],[],none,none,none,rfl,fun s c=>⟨fun z=>(by cases z),fun z=>(by cases z)⟩,TbOk.nil _ _,TbOk.nil _ _,fun s z=>(by cases z),fun s c z=>(by cases z),fun i hi=>absurd hi (Nat.not_lt_zero _)⟩
   rintro k ρ hk ⟨t,h,t5,t6,t7,rfl,hm,ht,hh,hd,hte,hdu⟩ W hW
   have hvk:V.getD k z4=V.getD k (0,0,0,none):=rfl;generalize V.getD k (0,0,0,none)=v at hvk;obtain⟨vc,vj,vo,vl⟩:=v;have h0:getM t (k:Int)=none:=by
    cases e:getM t (k:Int) with
    | none=>rfl
    | some y=>have:=hd (k:Int) (by rw [e];rfl);omega
   have up:∀ s,(getM t s).isSome=true->s<((k+1:Nat):Int):=fun s z=>by have:=hd s z;omega
   refine zkq fun N1 hN1=>?_
   walk_at "rd"
   refine hN1 _ ?_
   clear hN1 N1;refine zbI fun Y N' hY hN'=>?_
   have no:vl=none->N':=fun hvl0=>hN' (by
    walk_at "rd"
    refine hW _ ⟨t,h,_,_,_,rfl,hm,ht,hh,up,hte,fun i hi hdi=>?_⟩
    by_cases e:i=k
    . rw [e,hvk,hvl0] at hdi;exact absurd rfl hdi
    . exact hdu i #[0] hdi)
   have yes:vl≠none->Y:=fun hvl0=>by
    refine hY ?_
    clear hY hN' no;refine zk fun N1 hN1=>?_
    walk_at "rd"
    rw [<-hvl] at ht hh;refine⟨tv,rfl,#[0],ch.length,#[0],.inr #[0],⟨#[0],#[0]⟩,htv,hm,ht,hh,h0,hte,fun t' h' hmv=>hN1 _ ?_,fun rs hz h64 hrs=>hN1 _ ?_⟩
    . clear hN1 N1
      walk_at "rd"
      rw [if_neg #[1]]
      refine hW _ ⟨t',h',_,_,_,rfl,hmv.mat,hvl ▸ hmv.ot,hvl ▸ hmv.oh,fun s z=>?_,hmv.ed,fun i hi hdi=>(hmv.dt _).mpr ?_⟩
      . rcases(hmv.dt s).mp z with y|y
        . exact up s y
        . omega
      . by_cases e:i=k
        . exact .inr (by rw [e])
        . exact .inl (hdu i #[0] hdi)
    . clear hN1 N1
      have hz:=List.length_pos_iff.mpr hz
      walk_at "rd YaR"
      rw [if_pos #[0]]
      refine⟨sz #[0],?_⟩
      refine ju PyData.int (fun x=>.tuple [.int (V.getD x.toNat (0,0,0,none)).1,.int (V.getD x.toNat (0,0,0,none)).2.1]) (fun ρ=>∃ t,ρ = [t,some (.sh false (.list (V.map dW)))]) rs ?_ _ _ _ _ ⟨none,rfl⟩ (q _ (.inr ⟨_,_,.inl rfl,rfl⟩))
      rintro x hx ρ fa acc K ⟨t,rfl⟩ kk
      have hat:atI (V.map dW) x=some (dW (V.getD x.toNat (0,0,0,none))):=by rw [Zt,(zbr (d:=(0,0,0,none)) (hvl ▸ hrs x hx)).1];rfl
      walk_at "rd hat"
      exact kk _ ⟨_,rfl⟩
   clear hY hN';cases vl with
   | none=>walk_at "rd dO";exact no rfl
   | some e=>walk_at "rd dO";exact yes (by nofun)
 rintro ρ ⟨t,h,t5,t6,t7,rfl,hm,ht,hh,hte,hdu⟩
 refine zZ (fun ρ=>∃ (t h:Tb) (t5 t6 t7 t8:Option L3.Cl),ρ = [some (.sh false (.list (V.map dW))),some (.sh false (.list (ch.map dI))),some (.dm a2 t),some (.dm a3 h),some (.sh true (.list (tv.map dI))),t5,t6,t7,t8]/\Mat t h/\TbOk h ch.length V.length/\(∀ s c,getM h s=some c->c∈ch.getD s.toNat [])/\(∀ i,i<V.length->(V.getD i z4).2.2.2≠none->(getM t (i:Int)).isSome=true)/\∀ k:Int,0<=k->k<(ch.length:Int)->(getM h k).isSome=true) (fun N hN=>?_) ?_
 . have hhe:∀ s c,getM h s=some c->c∈ch.getD s.toNat []:=fun s c e=>by
    have h1:=hte c s ((hm c s).mpr e);obtain⟨⟨i1,i2⟩,j1,j2⟩:=hh.get e;have:=(htc c.toNat #[0] s.toNat #[0]).mp (by rw [show((s.toNat:Nat):Int)=s by omega];exact h1)
    rwa [show((c.toNat:Nat):Int)=c by omega] at this
   walk_at "rd YaR"
   refine⟨#[0],#[0],?_⟩
   rw [Int.toNat_natCast];refine ji (fun k ρ=>∃ (t h:Tb) (t5 t6 t7 t8:Option L3.Cl),ρ = [some (.sh false (.list (V.map dW))),some (.sh false (.list (ch.map dI))),some (.dm a2 t),some (.dm a3 h),some (.sh true (.list (tv.map dI))),t5,t6,t7,t8]/\Mat t h/\TbOk t V.length ch.length/\TbOk h ch.length V.length/\(∀ s c,getM h s=some c->c∈ch.getD s.toNat [])/\(∀ i,i<V.length->(V.getD i z4).2.2.2≠none->(getM t (i:Int)).isSome=true)/\∀ i:Int,0<=i->i<(k:Int)->(getM h i).isSome=true) ?_ (fun ρ ⟨t,h,t5,t6,t7,t8,e,h1,h2,h3,h4,h5,h6⟩=>hN ρ ⟨t,h,t5,t6,t7,t8,e,h1,h3,h4,h5,h6⟩) ⟨t,h,_,_,_,_,rfl,hm,ht,hh,hhe,hdu,fun i h0 h1=>absurd h1 #[0]⟩
   clear hm ht hh hte hdu hhe t h t5 t6 t7
   rintro k ρ hk ⟨t,h,t5,t6,t7,t8,rfl,hm,ht,hh,hhe,hdu,hd⟩ W hW
   walk_at "g"
   refine zbI fun Y N' hY hN'=>?_
   walk_at "rd"
   refine ite2 (fun hn=>hY ?_) fun hn=>hN' ?_
   . have h0:getM h (0+(k:Int))=none:=by cases e:getM h (0+(k:Int)) with|none=>rfl|some _=>rw [e] at hn;cases hn
     refine zk fun N1 hN1=>?_
     walk_at "rd"
     refine⟨ch,rfl,#[0],V.length,#[0],.inl #[0],⟨#[0],#[0]⟩,fun row hr=>(hrow row hr).2,hm.symm,hh,ht,h0,hhe,fun h' t' hmv=>hN1 _ ?_,fun rs hz h64 hrs=>hN1 _ ?_⟩
     . clear hN1 N1
       walk_at "rd"
       rw [if_neg #[1]]
       refine hW _ ⟨t',h',_,_,_,_,rfl,hmv.mat.symm,hmv.oh,hmv.ot,hmv.ed,fun i hi hdi=>hmv.dh _ (hdu i hi hdi),fun i i0 i1=>(hmv.dt i).mpr ?_⟩
       by_cases e:i=(k:Int)
       . exact .inr #[0]
       . exact .inl (hd i i0 #[0])
     . clear hN1 N1
       have hz:=List.length_pos_iff.mpr hz
       walk_at "rd YaR"
       rw [if_pos #[0]]
       refine⟨sz #[0],?_⟩
       refine ju PyData.int (fun x=>.int (x+1)) (fun ρ=>∃ t,ρ = [t]) rs ?_ _ _ _ _ ⟨none,rfl⟩ (q _ (.inr ⟨_,_,.inr rfl,rfl⟩))
       rintro x hx ρ fa acc K ⟨t,rfl⟩ kk
       walk_at "rd"
       exact kk _ ⟨_,rfl⟩
   . walk_at "rd"
     refine hW _ ⟨t,h,_,_,_,_,rfl,hm,ht,hh,hhe,hdu,fun i i0 i1=>?_⟩
     by_cases e:i=(k:Int)
     . rw [e]
       rw [Wbh] at hn;cases z:getM h (k:Int) with|none=>rw [z] at hn;exact absurd rfl hn|some _=>rfl
     . exact hd i i0 #[0]
 clear hm ht hh hte hdu t h t5 t6 t7
 rintro ρ ⟨t,h,t5,t6,t7,t8,rfl,hm,hh,hhe,hdu,hd⟩
 walk_at "rd YaR"
 rw [Int.toNat_natCast];refine⟨#[0],#[0],sz (by rw [zcY];omega),?_⟩
 refine ju (fun i:Nat=>PyData.int (0+(i:Nat))) (fun i:Nat=>.int (V.getD ((getM h (0+(i:Int))).getD 0).toNat (0,0,0,none)).1) (fun ρ=>∃ t,ρ = [t,some (.sh false (.list (V.map dW))),some (.dm a3 h)]) (List.range ch.length) ?_ _ _ _ _ ⟨none,rfl⟩ (q _ (.inl ⟨fun k=>((getM h (0+(k:Int))).getD 0).toNat,(zch hm hh hhe hdu hd).1,(zch hm hh hhe hdu hd).2.1,(zch hm hh hhe hdu hd).2.2.1,_,rfl⟩))
 rintro i hi ρ fa acc K ⟨t,rfl⟩ kk
 have hi:=Yba.mp hi;obtain⟨y,hy⟩:=Wah.mp (hd (0+(i:Int)) #[0] #[0])
 rw [hy] at kk;have hat:atI (V.map dW) y=some (dW (V.getD y.toNat (0,0,0,none))):=by rw [Zt,(zbr (d:=(0,0,0,none)) (hh.get hy).2).1];rfl
 walk_at "rd hy hat"
 exact kk _ ⟨_,rfl⟩
theorem zhj(T:Txt c K mg)(hB:BMod mg base)(kb:K.In base):#[8,dd_mend_visits c]:=by
 have hC:=T.hdC base kb;obtain⟨f1,d1,F1,h1⟩:=T.d_look_from;have GL:Df P w K mg base 1 "look_from" ["market", "turn", "gone", "far", "came"] (zcm c.Market):=⟨f1,d1,zll T.cl_M T.na_costs T.na_turn_prices T.na_visit_prices F1,F1.binds fun _ _ _ _ _ _ us hl=>by obtain⟨_,_,_,_,_,rfl⟩:=zct hl;rfl,F1.kp,h1⟩
 obtain⟨f2,d2,F2,h2,hcd⟩:=T.x_nearest;have GN:Df P w K mg base 4 "nearest" ["far", "done"] (zdp c.tb):=⟨f2,d2,zhX rfl rfl hC hB T.n_min F2 hcd,F2.binds fun _ _ _ _ _ _ us hl=>by obtain⟨_,_,rfl⟩:=zaQ hl;rfl,F2.kp,h2⟩
 obtain⟨f3,d3,F3,h3⟩:=T.d_change_prices;have GP:Df P w K mg base 1 "change_prices" ["market", "start", "whole", "far", "done"] (zdv c.Market):=⟨f3,d3,zjf T.cl_M T.na_turn_prices T.na_visit_prices T.na_holders F3,F3.binds fun _ _ _ _ _ _ us hl=>by obtain⟨_,_,_,_,_,rfl⟩:=zct hl;rfl,F3.kp,h3⟩
 obtain⟨f4,d4,F4,h4⟩:=T.d_move_along;have GM:Df P w K mg base 1 "move_along" ["choice", "came", "taken", "holders"] spMove:=⟨f4,d4,zj7 F4,F4.binds fun _ _ _ _ _ _ us hl=>by obtain⟨_,_,_,_,rfl⟩:=zaa hl;rfl,F4.kp,h4⟩
 obtain⟨f5,d5,F5,h5⟩:=T.d_serve;have GS:Df P w K mg base 5 "serve" ["market", "start"] (zc7 c.Market c.tb):=⟨f5,d5,zjc T.cl_M T.na_taken T.na_holders GL GN GP GM F5,F5.binds fun _ _ _ _ _ _ us hl=>by obtain⟨_,_,rfl⟩:=zaQ hl;rfl,F5.kp,h5⟩
 obtain⟨f6,d6,F6,h6⟩:=T.d_costs_of_turns;have GC:Df P w K mg base 1 "costs_of_turns" ["visits", "choices", "row"] (zde K):=⟨f6,d6,zks T.n_zip F6,F6.binds fun _ _ _ _ _ _ us hl=>by obtain⟨_,_,_,rfl⟩:=zaC hl;rfl,F6.kp,h6⟩
 obtain⟨f7,d7,F7,h7⟩:=T.d_first_price;have GF:Df P w K mg base 1 "first_price" ["visit", "turns"] (zcp K):=⟨f7,d7,zhV F7,F7.binds fun _ _ _ _ _ _ us hl=>by obtain⟨_,_,rfl⟩:=zaQ hl;rfl,F7.kp,h7⟩
 obtain⟨fi,di,FI,MK⟩:=T.x_init;obtain⟨f8,d8,F8,h8⟩:=T.d_mend_visits;refine⟨fun ds Q Q' E E' hQ hE h=>?_,⟨f8,d8,ziK T.cl_M T.na_turn_prices T.na_visit_prices T.na_taken T.n_len T.n_range T.n_zip T.m_Market MK (zjP T.cl_M T.na_costs T.na_turn_prices T.na_visit_prices T.na_taken T.na_holders T.n_len GF FI) (FI.binds fun _ _ _ _ _ _ us hl=>by obtain⟨_,_,_,rfl⟩:=zaC hl;rfl) GC GS F8,F8.binds fun _ _ _ _ _ _ us hl=>by obtain⟨_,_,_,rfl⟩:=zaC hl;rfl,F8.kp,h8⟩⟩
 obtain⟨U,ch,row,f,e,x1,x2,x3,x4,x5,x6,h⟩:=h;exact⟨U,ch,row,f,e,x1,x2,x3,x4,x5,x6,fun a b d g i j k=>hQ _ _ (h a b d g i j k)⟩
theorem zkE(T:Txt c K mg):#[8,dd_less]:=by
 obtain⟨f,fd,F,hm⟩:=T.d_less;have S:FnScope ["one", "other"] ["one", "other"] (zh zf3):=#[10]
 walk_at "d"
 . walk_at "m"
 . walk_at "l"
 refine⟨_,(ze (zt (cmp3 Jb (op3 z6 (at3 (n3 0) i3 #[4]) (at3 (n3 1) i3 #[4])) (op3 z6 (at3 (n3 1) i3 #[4]) (at3 (n3 0) i3 #[4])) (nomark _)))),fun ds Q h=>?_⟩
 obtain⟨a,b,rfl,ha,hb,q⟩:=h
 walk_at "rd atI0 atI1"
 exact⟨ha.2.1.mulOk hb.2.2 #[1],hb.2.1.mulOk ha.2.2 #[1],q⟩
theorem zkm(T:Txt c K mg):#[8,dd_check_bounds c]:=by
 have zmK:#[8,dd_less]:=zkE T;obtain⟨f,fd,F,hm⟩:=T.d_check_bounds;have S:FnScope ["bounds", "clans", "below", "above", "bound"] ["bounds", "clans"] (zh zfz):=#[10]
 walk_at "d"
 . walk_at "m"
 . walk_at "l"
 refine⟨_,(zd (s_if (zr (Jj hr.units) (zp zD rfl T.n_len zz (za (n3 0) zb)) (n3 1) (nomark _)) (ze (jw hE jq rfl rfl T.m_NoBounds T.e_NoBounds (za s3 zb))) zx)
  (ze (zE WaH rfl (zR (n3 0)) (jf (n:=2) rfl (zy #[9,zl,2] (zy #[9,zl,3] jb))) (ze (zE WaH rfl (zh7 (z7 (za (n3 2) (za (n3 3) zb)))) #[9,zl,4] (ze (s_if (pw3 (Zn (val3 (df3 hE zmK #[7] rfl zo (za (n3 4) (za (g3t rfl T.m_LEAST_BOUND) zb)))) (Zh (val3 (df3 hE zmK #[7] rfl zo (za (g3t rfl T.m_MOST_BOUND) (za (n3 4) zb))))))) (ze (jw hE jq rfl rfl T.m_NoBounds T.e_NoBounds (za s3 zb))) zx))))))),fun ds Q h=>?_⟩
 obtain⟨l,n,rfl,hq,q,hE'⟩:=h
 walk_at "rd"
 rw [YaR]
 by_cases h1:(l.length:Int)=n
 case neg=>rw [if_pos h1];exact hE' fun z=>h1 (by rw [z.1])
 rw [if_neg (fun z=>z h1)]
 refine jL dP l (fun done ρ=>∃ t u v,ρ = [some (.sh false (.list (l.map dP))),#[5,n],t,u,v]/\∀ p∈done,inQ p.1/\inQ p.2) ?_ ?_ ⟨none,none,none,rfl,fun x h=>by cases h⟩
 . rintro done x rest ρ hd ⟨t,u,v,rfl,hall⟩ W hW
   have hx:x∈l:=by rw [hd];simp
   obtain⟨hx1,hx2⟩:=hq x hx
   walk_at "rd"
   refine jL dQ [x.1,x.2] (fun done' ρ=>∃ v,ρ = [some (.sh false (.list (l.map dP))),#[5,n],some (.sh false (dQ x.1)),some (.sh false (dQ x.2)),v]/\∀ r∈done',inQ r) ?_ ?_ ⟨_,rfl,fun x h=>by cases h⟩
   . rintro done' r rest' ρ hd' ⟨v,rfl,hall'⟩ W' hW'
     have hr:okQ r:=by
      have:r∈[x.1,x.2]:=by rw [hd'];simp
      rcases Wa4.mp this with z|z
      . rw [z];exact hx1
      . rw [Ya6.mp z];exact hx2
     have hrb:inQ r\/¬okB n l:=by
      by_cases z:inQ r
      . exact .inl z
      . right
        intro y;have:r∈[x.1,x.2]:=by rw [hd'];simp
        rcases Wa4.mp this with w|w
        . rw [w] at z;exact z (y.2 x hx).1
        . rw [Ya6.mp w] at z;exact z (y.2 x hx).2
     have o01:okQ (0,1):=⟨#[1],Bits.lit (x:=0) 1200,Bits.lit (x:=1) 1200⟩
     have o10:okQ (10,1):=⟨#[1],Bits.lit (x:=10) 1200,Bits.lit (x:=1) 1200⟩
     walk_at "rd"
     refine⟨r,rfl,rfl,(0,1),rfl,rfl,hr,o01,ite2 (fun h=>hE' (hrb.elim (fun z=>absurd h (by have:=z.1;show ¬r.1*1<0*r.2;omega)) id)) fun h=>⟨(10,1),rfl,rfl,r,rfl,rfl,o10,hr,ite2 (fun h2=>hE' (hrb.elim (fun z=>absurd h2 (by have:=z.2;show ¬10*r.2<r.1*1;omega)) id)) fun h2=>hW' _ ⟨_,rfl,fun y hy=>?_⟩⟩⟩
     rcases Ya3.mp hy with z|z
     . exact hall' y z
     . rw [Ya6.mp z]
       have e1:¬r.1*1<0*r.2:=h;have e2:¬10*r.2<r.1*1:=h2;exact⟨#[0],#[0]⟩
   . rintro ρ ⟨v,rfl,hall'⟩
     exact hW _ ⟨_,_,_,rfl,fun p hp=>by
      rcases Ya3.mp hp with z|z
      . exact hall p z
      . rw [Ya6.mp z];exact⟨hall' _ (by simp),hall' _ (by simp)⟩⟩
 . rintro ρ ⟨t,u,v,rfl,hall⟩
   exact q ⟨#[0],hall⟩
theorem zh9(T:Txt c K mg):#[8,dd_room_at_most]:=by
 obtain⟨f,fd,F,hm⟩:=T.d_room_at_most;have S:FnScope ["bottom", "bound"] ["bottom", "bound"] (zh zfs):=#[10]
 walk_at "d"
 . walk_at "m"
 . walk_at "l"
 refine⟨_,(ze (zt (op3 zN (op3 z6 (at3 (n3 1) i3 #[4]) (n3 0)) (at3 (n3 1) i3 #[4])))),fun ds Q h=>?_⟩
 obtain⟨b,r,rfl,hb,hr,q⟩:=h
 walk_at "rd atI0 atI1"
 exact⟨hr.2.1.mulOk hb #[1],⟨hr.1,hr.2.2.mono #[1]⟩,q⟩
theorem zko(T:Txt c K mg):#[8,dd_rooms_of c]:=by
 have zmi:#[8,dd_check_bounds c]:=zkm T;have zmR:#[8,dd_room_at_most]:=zh9 T;obtain⟨f,fd,F,hm⟩:=T.d_rooms_of;have S:FnScope ["told", "bounds", "bottom"] ["told", "bounds"] (zh zdq):=#[10]
 walk_at "d"
 . walk_at "m"
 . walk_at "l"
 refine⟨_,(zd (#[9,zj,2] (at3 (n3 0) i3 #[4]))
  (zd (Zp (df3 hE zmi #[7] rfl zo (za (n3 1) (za (zp zD rfl T.n_len zz (za (at3 (at3 (n3 0) i3 #[4]) i3 #[4]) zb)) zb))))
  (ze (zt (new3 (jU ["below", "above"] ["bottom"] [2] rfl (zY (osc:=zh zdq) #[3]) rfl (zR (n3 1)) (fun H0 s H fp cl=>⟨(jf (n:=2) rfl (zy (zl (i:=0) (show((["below", "above"]:List PySem.Str)++(["bottom"]:List PySem.Str)).Nodup by decide) rfl #[2]) (zy (zl (i:=1) (show((["below", "above"]:List PySem.Str)++(["bottom"]:List PySem.Str)).Nodup by decide) rfl #[2]) jb))),jD,(z7 (za (df3 (E:=fun _ _ _=>False) (E3:=fun _=>False) (fun _ _ z _=>z) zmR #[7] rfl jC (za (n3 2) (za (n3 0) zb))) (za (df3 (E:=fun _ _ _=>False) (E3:=fun _=>False) (fun _ _ z _=>z) zmR #[7] rfl jC (za (n3 2) (za (n3 1) zb))) zb)))⟩))))))),fun ds Q h=>?_⟩
 obtain⟨b,qs,l,n,rfl,hb,hq1,hqn,hn8,hl,hq,q,hE'⟩:=h;have hd0:atI (qs.map dI) 0=some (PyData.list (qs[0].map PyData.int)):=J4 (i:=0) #[0]
 have h0n:=hqn qs[0] (Ya4 #[0])
 walk_at "s"
 walk_at "rd atI0"
 walk_at "u"
 walk_at "rd atI1 hd0 YaR h0n"
 refine⟨l,rfl,n,rfl,hq,fun hok=>hN _ ?_,hE'⟩
 clear hN N
 walk_at "rd YaR"
 refine⟨sz #[0],?_⟩
 refine ju dP (fun p=>jP (zF b p.1,zF b p.2)) (fun ρ=>∃ t u,ρ = [t,u,#[5,b]]) l ?_ _ _ _ _ ⟨none,none,rfl⟩ ?_
 . rintro p hp ρ fa acc K ⟨t,u,rfl⟩ kk
   obtain⟨hp1,hp2⟩:=hq p hp
   walk_at "rd"
   exact⟨p.1,rfl,rfl,hb,hp1,p.2,rfl,rfl,hb,hp2,kk _ ⟨_,_,rfl⟩⟩
 . have:=q hok
   unfold jm at this;rw [YaD] at this;exact this
theorem zkB:FnScope ["spells", "bounds", "rules", "row", "told", "visits", "choices", "found"] ["spells", "bounds", "rules", "row"] (zh zdx):=#[10]
theorem zk4(T:Txt c K mg)(zmQ:#[8,dd_quotas c])(zmX:#[8,dd_windows_within])(zmo:#[8,dd_choices_of_turns c])(zmj:#[8,dd_check_row c])(zmP:#[8,dd_place_visits])(zmM:#[8,dd_mend_visits c])(zmS:#[8,dd_rooms_of c]){f:Addr}{fd:FuncData}(F:Fun K "mended" "mended" zdx f fd):FnOk P w K mg base (CXR P w) 7 f fd ["spells", "bounds", "rules", "row"] (spU c.tb K (Zf c)):=by
 have S:=zkB;refine fnU (cv:=fun v=>True) F trivial S (fun ds Q E h=>?_) (fun cdv A outer s H E E3 hcv tu hE hr=>?_)
 . walk_at "l"
 refine⟨_,(zd (#[9,zj,4] (df3 hE zmQ #[7] rfl zo (za (n3 0) zb)))
  (zd (#[9,zj,5] (df3 hE zmX #[7] rfl zo (za (n3 4) (za (df3 hE zmS #[7] rfl zo (za (n3 4) (za (n3 1) zb))) zb))))
  (zd (#[9,zj,6] (df3 hE zmo #[7] rfl zo (za (n3 4) (za (n3 5) (za (n3 2) zb)))))
  (zd (Zp (df3 hE zmj #[7] rfl zo (za (n3 3) (za (zp zD rfl T.n_len zz (za (n3 6) zb)) (za (zp zD rfl T.n_len zz (za (n3 1) zb)) zb)))))
  (zd (#[9,zj,7] (df3 hE zmP #[7] rfl zo (za (n3 5) (za (n3 6) zb))))
  (zd (s_if (zr (Jj hr.units) (at3 (n3 7) i3 #[4]) s3 (nomark _)) (ze (zt (n3 7))) zx)
  (ze (zt (dfU tu hE zmM #[7] rfl zo (za (n3 5) (za (n3 6) (za (n3 3) zb)))))))))))),fun ds Q h=>?_⟩
 obtain⟨l,bs,rs,row,rfl,hbl,ho,hrl,htx,hrw,q,hE1,hE2,hE3,hE4⟩:=h;walk_at "q"
 refine⟨l,rfl,fun hok=>hN _ ?_,hE1⟩
 clear hN N;have hm:=JS hok;have hbp:=zbn hok;have hql:=zab hok;have htn:=jV fun s hs=>(hok.2.1 s hs).1
 have h60:=hok.2.2;have hqr:∀ r∈quo l,r.length=many l:=fun r hr=>zcS hok (b:=bot l) hr
 have hb2:Bits 2000 (bot l):=(zfa hok).mono #[1]
 walk_at "q"
 refine⟨quo l,rfl,bs,rfl,hb2,#[0],many l,hqr,hm.2,#[0],ho,fun hB=>?_,fun z=>hE2 hok z⟩
 have hrl':(jm (bot l) bs).length=many l:=by unfold jm;rw [YaR];exact hB.1
 refine⟨quo l,rfl,jm (bot l) bs,rfl,hbp,hb2,#[0],#[0],#[0],fun r hr=>by rw [hrl'];exact hqr r hr,fun r hr x hx=>?_,fun p hp=>?_,fun W w1 w2 w3=>hN _ ?_⟩
 . have h1:=zbD hok hbp r hr x hx
   have h2:tot l*bot l<=60*bot l:=Ybe h60 #[0]
   omega
 . unfold jm at hp
   obtain⟨z,hz,rfl⟩:=Ya7.mp hp;obtain⟨z1,z2⟩:=hB.2 z hz;obtain⟨y1,y2⟩:=ho z hz;refine⟨WaY (YaK z1.1 #[0]) (by have:=y1.1;omega),WaY (YaK z2.1 #[0]) (by have:=y2.1;omega),?_⟩
   refine Wap y2.1 ?_
   have h1:z.2.1*bot l<=10*z.2.2*bot l:=Ybe z2.2 #[0]
   have h2:0<=z.2.2*bot l:=YaK (by have:=y2.1;omega) #[0]
   have e1:10*z.2.2*bot l=10*(z.2.2*bot l):=Wa9 _ _ _;have e2:20*bot l*z.2.2=20*(z.2.2*bot l):=by rw [Wa9,Wbg (bot l)]
   omega
 clear hN N;have hW:IsWs l bs W:=⟨by rw [<-hrl'];exact w1,fun k hk=>w2 k (by rw [hrl'];exact hk)⟩
 clear w1 w2;have hVc:∀ v∈W.flatten,InR v.1 (many l):=fun v hv=>by
  obtain⟨k,hk,i,_,rfl⟩:=hW.get hv;exact⟨by show(0:Int)<=(k:Int);omega,by show(k:Int)<_;omega⟩
 have eT:(((tot l).toNat:Nat):Int)=tot l:=#[0]
 walk_at "q"
 refine⟨quo l,rfl,W.flatten,rfl,rs,rfl,many l,(tot l).toNat,#[0],#[0],hqr,hm.2,w3,hVc,hrl,htx,fun hR ch hc1 hc2 hc3=>hN _ ?_,fun hR=>hE3 hok hB fun z=>hR (by rw [eT];exact z)⟩
 clear hN N;have hR':okRs (tot l) (many l) rs:=by rw [<-eT];exact hR
 walk_at "s"
 walk_at "rd YaR"
 refine⟨row,rfl,ch.length,rfl,bs.length,rfl,fun hok4=>hN _ ?_,fun z=>hE4 hok hB hR' fun y=>z (by rw [hc1,hB.1];exact y)⟩
 clear hN N;have hrow:Zq (many l) (tot l).toNat row:=by rw [<-hc1,<-hB.1];exact hok4
 have q:=q hok hB hR' hrow W hW ch hc1 (fun pl hp=>(hc2 pl hp).2.2) hc3
 walk_at "q"
 refine⟨W.flatten,rfl,ch,rfl,w3,#[0],fun pl hp=>⟨(hc2 pl hp).1,(hc2 pl hp).2.2⟩,fun d hd=>hN _ ?_⟩
 clear hN N
 rcases hd with ⟨f,h1,h2,h3,x,rfl⟩|⟨s,x,hs,rfl⟩
 . walk_at "rd"
   refine⟨W.flatten,rfl,ch,rfl,row,rfl,by rw [hrow.1,hc1],#[0],w3,fun pl hp=>⟨(hc2 pl hp).2.1,(hc2 pl hp).1,(hc2 pl hp).2.2⟩,fun x=>((f x.toNat:Nat):Int),fun x hx=>(h1 x.toNat (by obtain⟨a,b⟩:=hx;omega)).2,fun x y hx hy e=>?_,fun tk hd tp vp a1 a2 a3=>q _ (.inr ⟨f,tk,hd,tp,vp,h1,h2,h3,a1,a2,a3,rfl⟩)⟩
   obtain⟨x0,x1⟩:=hx;obtain⟨y0,y1⟩:=hy;have:=h2 _ _ #[0] #[0] (Int.ofNat.inj e)
   omega
 . walk_at "rd"
   rw [if_pos (by rcases hs with rfl|rfl<;>decide)]
   exact q _ (.inl ⟨s,x,hs,rfl⟩)
theorem zhk(T:Txt c K mg)(zmQ:#[8,dd_quotas c])(zmX:#[8,dd_windows_within])(zmo:#[8,dd_choices_of_turns c])(zmj:#[8,dd_check_row c])(zmP:#[8,dd_place_visits])(zmM:#[8,dd_mend_visits c])(zmS:#[8,dd_rooms_of c]):#[8,dd_mended c]:=by
 obtain⟨f,fd,F,hm⟩:=T.d_mended;have hb:=F.binds (ps:=["spells", "bounds", "rules", "row"]) fun _ _ _ _ _ _ us hl=>by obtain⟨_,_,_,_,rfl⟩:=zaa hl;rfl
 refine⟨fun ds Q Q' E E' hQ hE h=>?_,⟨f,fd,zk4 T zmQ zmX zmo zmj zmP zmM zmS F,hb,F.kp,hm⟩⟩
 walk_at "m"
theorem zl2(T:Txt c K mg):#[8,dd_law_whole]:=by
 obtain⟨f,fd,F,hm⟩:=T.d_law_whole;have S:FnScope ["_law_found"] ["_law_found"] (zh zfp):=#[10]
 walk_at "d"
 . walk_at "m"
 . walk_at "l"
 refine⟨_,(ze (zt (zfe (zdA rfl T.n_isinstance rfl rfl T.n_int zgn (n3 0)) (one3 (zhf (zdA rfl T.n_isinstance rfl rfl T.n_bool ziy (n3 0))))))),fun ds Q h=>?_⟩
 obtain⟨i,rfl,q⟩:=h
 walk_at "rd"
 exact⟨false,by simp,q⟩
theorem zjO(T:Txt c K mg):#[8,dd_law_numbers]:=by
 have zmG:#[8,dd_law_whole]:=zl2 T;obtain⟨f,fd,F,hm⟩:=T.d_law_numbers;have S:FnScope ["_law_found", "_law_count"] ["_law_found", "_law_count"] (zh zcC):=#[10]
 walk_at "d"
 . walk_at "m"
 . walk_at "l"
 refine⟨_,(zd (s_if (pw3 (Zn (Jc (val3 (zdA rfl T.n_isinstance rfl rfl T.n_list zan (n3 0)))) (Zh (zr (Jj hr.units) (zp zD rfl T.n_len zz (za (n3 0) zb)) (n3 1) (nomark _))))) (ze (zt b3)) zx)
  (ze (zt (cmp3 (jg hr.units) (zp zD rfl T.n_len zz (za (new3 (jU ["_law_one"] [] [] rfl (zY (osc:=zh zcC) #[3]) rfl (zR (n3 0)) (fun H0 s H fp cl=>⟨(zl (i:=0) (show((["_law_one"]:List PySem.Str)++([]:List PySem.Str)).Nodup by decide) rfl #[2]),(zel (Jc (val3 (df3 (E:=fun _ _ _=>False) (E3:=fun _=>False) (fun _ _ z _=>z) zmG #[7] rfl jC (za (n3 0) zb))))),(n3 0)⟩))) zb)) i3 (nomark _))))),fun ds Q h=>?_⟩
 obtain⟨xs,rfl,hl,q⟩:=h;walk_at "s"
 walk_at "rd YaR"
 walk_at "n"
 walk_at "rd YaR"
 refine⟨sz #[0],?_⟩
 refine zc8 PyData.int PyData.int (fun _=>false) (fun ρ=>∃ t,ρ = [t]) xs ?_ _ _ _ _ ⟨none,rfl⟩ ?_
 . rintro x hx ρ fa acc K ⟨t,rfl⟩ k
   walk_at "rd"
   exact k _ ⟨_,rfl⟩
 . rw [List.filter_eq_nil_iff.mpr fun _ _ z=>by cases z]
   exact q
theorem zlQ(T:Txt c K mg):#[8,dd_law_lets]:=by
 obtain⟨f,fd,F,hm⟩:=T.d_law_lets;have S:FnScope ["_law_rules_here", "_law_t", "_law_clan", "_law_word", "_law_turn", "_law_who"] ["_law_rules_here", "_law_t", "_law_clan"] (zh zgp):=#[10]
 walk_at "d"
 . walk_at "m"
 . walk_at "l"
 refine⟨_,(zd (zE WaH rfl (zR (n3 0)) (jf (n:=3) rfl (zy #[9,zl,3] (zy #[9,zl,4] (zy #[9,zl,5] jb)))) (ze (s_if (pw3 (JX (zr (jg hr.units) (n3 4) (n3 1) (nomark _)) (J3 (zr (Jj hr.units) (cmp3 (jg hr.units) (n3 3) s3 (nomark _)) (cmp3 (jg hr.units) (n3 5) (n3 2) (nomark _)) (nomark _))))) (ze (zt b3)) zx)))
  (ze (zt b3))),fun ds Q h=>?_⟩
 obtain⟨rs,t,c,rfl,htx,hw,q⟩:=h;refine zZ (fun ρ=>(∃ t3 t4 t5:Option L3.Cl,ρ = [some (.sh false (.list (rs.map dRl))),#[5,t],#[5,c],t3,t4,t5])/\¬Jm rs t c) (fun N hN=>?_) ?_
 . walk_at "rd"
   refine jL dRl rs (fun done ρ=>(∃ t3 t4 t5:Option L3.Cl,ρ = [some (.sh false (.list (rs.map dRl))),#[5,t],#[5,c],t3,t4,t5])/\¬Jm done t c) ?_ (fun ρ h=>hN ρ h) ⟨⟨none,none,none,rfl⟩,fun⟨r,h,_⟩=>by cases h⟩
   rintro done r rest ρ hd ⟨⟨t3,t4,t5,rfl⟩,hf⟩ V hV
   have hr:r∈rs:=by rw [hd];simp
   have hwr:=hw r hr;have no:¬(r.2.1=t/\(c=r.2.2↔r.1 = "barred"))->¬Jm (done++[r]) t c:=fun h ⟨x,hx,e⟩=>by
    rcases Ya3.mp hx with z|z
    . exact hf ⟨x,z,e⟩
    . rw [Ya6.mp z] at e;exact h e
   have yes:r.2.1=t/\(c=r.2.2↔r.1 = "barred")->Q true (.bool false):=fun h=>q false ⟨fun z=>(by cases z),fun z=>absurd ⟨r,hr,h⟩ z⟩
   have go:¬(r.2.1=t/\(c=r.2.2↔r.1 = "barred"))->V [some (.sh false (.list (rs.map dRl))),#[5,t],#[5,c],some (.sh true (.str r.1)),#[5,r.2.1],#[5,r.2.2]]:=fun h=>hV _ ⟨⟨_,_,_,rfl⟩,no h⟩
   have ev:∀ a b:Bool,PyData.eqv (.bool a) (.bool b)=(a==b):=#[3]
   have sb:∀ b:Bool,SeqAt.shaped (.bool b)=true:=#[3]
   have bw:(c=r.2.2↔r.1 = "barred")↔((decide (r.1 = "fixed")==decide (r.2.2=c))=false):=by
    rcases hwr with w|w
    . rw [decide_eq_true w]
      by_cases z:r.2.2=c
      . rw [decide_eq_true z];exact⟨fun h=>absurd (w.symm.trans (h.mp z.symm)) zdb,fun h=>by cases h⟩
      . rw [decide_eq_false z];exact⟨fun _=>rfl,fun _=>⟨fun y=>absurd y.symm z,fun y=>absurd (w.symm.trans y) zdb⟩⟩
    . rw [decide_eq_false fun y=>zdb (y.symm.trans w)]
      by_cases z:r.2.2=c
      . rw [decide_eq_true z];exact⟨fun _=>rfl,fun _=>⟨fun _=>w,fun _=>z.symm⟩⟩
      . rw [decide_eq_false z];exact⟨fun h=>absurd (h.mpr w).symm z,fun h=>by cases h⟩
   walk_at "rd"
   rw [ev];exact ite2 (fun e=>⟨sb _,sb _,ite2 (fun z=>yes ⟨e,bw.mpr z⟩) fun z=>go fun h=>z (bw.mp h.2)⟩) fun e=>go fun h=>e h.1
 . rintro ρ ⟨⟨t3,t4,t5,rfl⟩,hf⟩
   walk_at "rd"
   exact q true ⟨fun _=>hf,fun _=>rfl⟩
theorem zjp(T:Txt c K mg):#[8,dd_law_fair]:=by
 have zmA:#[8,dd_law_numbers]:=zjO T;have zmw:#[8,dd_law_lets]:=zlQ T;obtain⟨f,fd,F,hm⟩:=T.d_law_fair;have S:FnScope ["_law_found", "_law_visits", "_law_rules_here", "_law_row_here", "_law_k", "_law_clan", "_law_number", "_law_opens", "_law_last", "_law_end", "_law_t", "_law_both"] ["_law_found", "_law_visits", "_law_rules_here", "_law_row_here"] (zh zfO):=#[10]
 walk_at "d"
 . walk_at "m"
 . obtain⟨_,_,_,_,_,_,_,rfl,_⟩:=h;rfl
 refine⟨_,(zd (s_if (pw3 (Zn (Jc (val3 (df3 hE zmA #[7] rfl zo (za (at3 (n3 0) i3 #[4]) (za (zp zD rfl T.n_len zz (za (n3 3) zb)) zb))))) (Zh (Jc (val3 (df3 hE zmA #[7] rfl zo (za (at3 (n3 0) i3 #[4]) (za (zp zD rfl T.n_len zz (za (n3 1) zb)) zb)))))))) (ze (zt b3)) zx)
  (zd (zE WaH rfl (jj rfl T.n_range (za (zp zD rfl T.n_len zz (za (n3 1) zb)) zb)) #[9,zl,4] (zd (zcl (at3 (n3 1) (n3 4) #[4]) (jf (n:=4) rfl (zy #[9,zl,5] (zy #[9,zl,6] (zy #[9,zl,7] (zy #[9,zl,8] jb))))))
   (zd (#[9,zj,9] (n3 8))
   (zd (s_if (zr zlk (n3 8) non3 (nomark _)) (zd (#[9,zj,9] (zp zD rfl T.n_len zz (za (n3 3) zb)))
    (ze (s_if (zr jY (at3 (at3 (n3 0) i3 #[4]) (n3 4) #[4]) i3 (nomark _)) (ze (zt b3)) zx))) zx)
   (ze (zE WaH rfl (zbb rfl T.n_range (za (n3 7) (za (op3 zP (n3 9) i3) zb))) #[9,zl,10] (zd (#[9,zj,11] (op3 zP (at3 (at3 (n3 0) i3 #[4]) (op3 jE (n3 10) i3) #[4]) (at3 (at3 (n3 0) i3 #[4]) (n3 4) #[4])))
    (ze (s_if (pw3 (JX (val3 (df3 hE zmw #[7] rfl zo (za (n3 2) (za (n3 10) (za (n3 5) zb))))) (J3 (zr jY (n3 11) (zjh zkb rfl T.n_int zgn (za (cmp3 (Jj hr.units) (at3 (n3 3) (op3 jE (n3 10) i3) #[4]) (n3 5) (nomark _)) zb)) (nomark _))))) (ze (zt b3)) zx)))))))))
  (ze (zt (cmp3 (jg hr.units) (op3 zP (zp (Jk rfl) rfl T.n_sum Jo (za (at3 (n3 0) i3 #[4]) zb)) (zp (Jk rfl) rfl T.n_sum Jo (za (at3 (n3 0) i3 #[4]) zb))) (at3 (n3 0) i3 #[4]) (nomark _)))))),fun ds Q h=>?_⟩
 obtain⟨new,tp,vp,row,chg,U,rs,rfl,hU,hr,l1,l2,htx,hw,hrg,hn,hm,hs,q⟩:=h;have a3:∀ {α : Type} {x y z u v:α},atI [x,y,z,u,v] 3=some u:=rfl;have a4:∀ {α : Type} {x y z u v:α},atI [x,y,z,u,v] 4=some v:=rfl;walk_at "s"
 walk_at "rd YaR a3 a4"
 refine⟨tp,rfl,#[0],#[0],vp,rfl,#[0],#[0],hN _ ?_⟩
 clear hN N;refine zZ (fun ρ=>∃ t4 t5 t6 t7 t8 t9 t10 t11:Option L3.Cl,ρ = fE new chg tp vp U rs row [t4,t5,t6,t7,t8,t9,t10,t11]) (fun N hN=>?_) ?_
 . walk_at "rd YaR"
   refine⟨#[0],#[0],?_⟩
   rw [Int.toNat_natCast];refine ji (fun k ρ=>∃ t4 t5 t6 t7 t8 t9 t10 t11:Option L3.Cl,ρ = fE new chg tp vp U rs row [t4,t5,t6,t7,t8,t9,t10,t11]) ?_ (fun ρ h=>hN ρ h) ⟨none,none,none,none,none,none,none,none,rfl⟩
   rintro k ρ hk ⟨t4,t5,t6,t7,t8,t9,t10,t11,rfl⟩ W hW
   have hat:atI (U.map dW) (0+(k:Int))=some (dW (U.getD k z4)):=by
    rw [Wbh];refine z8 ?_;rw [Ya0,YaQ hk,YaP,YaQ hk];rfl
   have hv:=hrg _ (JG (d:=z4) hk);have hnk:=hn k hk;have hmk:=hm k hk;have hvp:atI (vp.map PyData.int) (0+(k:Int))=some (PyData.int (vp.getD k 0)):=by
    have:=jJ (xs:=vp) (i:=0+(k:Int)) #[0] #[0]
    rwa [show(0+(k:Int)).toNat=k by omega] at this
   generalize U.getD k z4=v at hat hv hnk hmk;generalize vp.getD k 0=vk at hvp hnk hmk;obtain⟨vc,vj,vo,vl⟩:=v;refine zZ (fun ρ=>ρ = fE new chg tp vp U rs row [#[5,(0+(k:Int))],#[5,vc],#[5,vj],#[5,vo],some (.sh true (dO vl)),t9,t10,t11]) (fun N hN=>?_) ?_
   . cases vl<;>(walk_at "rd hat dO";exact hN _ rfl)
   rintro ρ rfl
   walk_at "q"
   walk_at "n";refine zZ (fun ρ=>∃ e:Int,ρ = fE new chg tp vp U rs row [#[5,(0+(k:Int))],#[5,vc],#[5,vj],#[5,vo],some (.sh true (dO vl)),#[5,e],t10,t11]/\(0<=e/\e<=row.length)/\∀ t,t<=e->zfL t vl) (fun N hN=>?_) ?_
   . cases vl with
     | none=>
      have hnk:=hnk rfl
      walk_at "rd dO a4 hvp YaR"
      rw [if_neg #[0]]
      exact hN _ ⟨_,rfl,⟨#[0],#[0]⟩,fun _ _=>trivial⟩
     | some x=>
      walk_at "rd dO"
      exact hN _ ⟨x,rfl,hv.2 x rfl,fun _ z=>z⟩
   rintro ρ ⟨e,rfl,he,hlo⟩
   have hv1:1<=vo/\vo<=100:=hv.1
   walk_at "rd"
   refine⟨#[0],#[0],#[0],#[0],?_⟩
   refine ji (lo:=vo) (fun i ρ=>∃ t10 t11:Option L3.Cl,ρ = fE new chg tp vp U rs row [#[5,(0+(k:Int))],#[5,vc],#[5,vj],#[5,vo],some (.sh true (dO vl)),#[5,e],t10,t11]) ?_ (fun ρ ⟨t10,t11,h⟩=>hW _ ⟨_,_,_,_,_,_,_,_,h⟩) ⟨_,_,rfl⟩
   rintro i ρ hi ⟨s10,s11,rfl⟩ Y hY
   walk_at "g"
   obtain⟨t',ht'⟩:∃ t':Nat,vo+(i:Int)=(t':Int)+1:=⟨(vo+(i:Int) - 1).toNat,#[0]⟩
   have htr:t'<row.length:=#[0]
   rw [ht'];have x1:atI (tp.map PyData.int) ((t':Int)+1 - 1)=some (PyData.int (tp.getD t' 0)):=by
    have:=jJ (xs:=tp) (i:=(t':Int)+1 - 1) #[0] #[0]
    rwa [show((t':Int)+1 - 1).toNat=t' by omega] at this
   have x2:atI (row.map PyData.int) ((t':Int)+1 - 1)=some (PyData.int (row.getD t' 0)):=by
    have:=jJ (xs:=row) (i:=(t':Int)+1 - 1) #[0] #[0]
    rwa [show((t':Int)+1 - 1).toNat=t' by omega] at this
   have hf:¬Jm rs ((t':Int)+1) vc->tp.getD t' 0+vk<=if row.getD t' 0=vc then 0 else 1:=fun z=>hmk t' htr ⟨by show vo<=_;omega,hlo _ #[0],z⟩
   walk_at "s"
   walk_at "rd a3 a4 x1 hvp"
   walk_at "n"
   walk_at "rd x2"
   refine⟨rs,rfl,htx,hw,fun b hb=>ite2 (fun z=>?_) fun _=>hY _ ⟨_,_,rfl⟩⟩
   have hle:=hf (hb.mp z);rw [if_neg (show ¬(if ¬row.getD t' 0=vc then(1:Int) else 0)<tp.getD t' 0+vk by
    by_cases y:row.getD t' 0=vc
    . rw [if_pos y] at hle;rw [if_neg fun u=>u y];omega
    . rw [if_neg y] at hle;rw [if_pos y];omega)]
   exact hY _ ⟨_,_,rfl⟩
 rintro ρ ⟨t4,t5,t6,t7,t8,t9,t10,t11,rfl⟩
 have a2:∀ {α : Type} {x y z u v:α},atI [x,y,z,u,v] 2=some z:=rfl
 walk_at "rd a2 a3 a4"
 refine⟨tp,j6 tp,vp,j6 vp,?_⟩
 rw [hs,decide_eq_true rfl];exact q
theorem zlN(T:Txt c K mg):#[8,dd_law_windows]:=by
 obtain⟨f,fd,F,hm⟩:=T.d_law_windows;have S:FnScope ["_law_bottom", "_law_rows", "_law_bounds", "_law_turns", "_law_visits", "_law_k", "_law_below", "_law_above", "_law_j", "_law_opens", "_law_wide_here", "_law_now", "_law_last", "_law_had"] ["_law_bottom", "_law_rows", "_law_bounds"] (zh zft):=#[10]
 walk_at "d"
 . walk_at "m"
 . walk_at "l"
 refine⟨_,(zd (#[9,zj,3] (op3 jE (zp zD rfl T.n_len zz (za (n3 1) zb)) i3))
  (zd (#[9,jo,4] (jd zb))
  (zd (zE WaH rfl (jj rfl T.n_range (za (zp zD rfl T.n_len zz (za (n3 2) zb)) zb)) #[9,zl,5] (zd (zcl (at3 (n3 2) (n3 5) #[4]) (jf (n:=2) rfl (zy #[9,zl,6] (zy #[9,zl,7] jb))))
   (zd (#[9,zj,8] i3)
   (ze (JB WaH (val3 b3) (zd (#[9,zj,9] i3)
    (zd (#[9,zj,10] (op3 z6 (at3 (n3 7) i3 #[4]) (n3 0)))
    (zd (#[9,zj,11] (op3 z6 (n3 8) (n3 0)))
    (zd (JB WaH (pw3 (JX (zr j0 (n3 9) (n3 3) (nomark _)) (J3 (zr jY (op3 z6 (op3 jE (n3 11) (at3 (at3 (n3 1) (n3 9) #[4]) (n3 5) #[4])) (at3 (n3 7) i3 #[4])) (n3 10) (nomark _))))) (ze (#[9,zj,9] (op3 zP (n3 9) i3))))
    (zd (#[9,zj,12] i3)
    (zd (#[9,zj,10] (op3 z6 (at3 (n3 6) i3 #[4]) (n3 0)))
    (zd (#[9,zj,13] (op3 jE (op3 z6 (n3 8) (n3 0)) (n3 0)))
    (zd (JB WaH (pw3 (JX (zr j0 (n3 12) (n3 3) (nomark _)) (J3 (zr j0 (op3 z6 (op3 jE (at3 (at3 (n3 1) (n3 12) #[4]) (n3 5) #[4]) (n3 13)) (at3 (n3 6) i3 #[4])) (n3 10) (nomark _))))) (ze (#[9,zj,12] (op3 zP (n3 12) i3))))
    (zd (s_if (pw3 (JX (zr jY (n3 9) (n3 3) (nomark _)) (J3 (zr jY (n3 12) (n3 3) (nomark _))))) (ze zja) zx)
    (zd (s_if (zr jY (n3 12) (n3 3) (nomark _)) (ze (#[9,zj,12] non3)) zx)
    (zd (jH (i:=4) rfl #[2] (z7 (za (n3 5) (za (n3 8) (za (n3 9) (za (n3 12) zb))))))
    (ze (#[9,zj,8] (op3 zP (n3 8) i3)))))))))))))))))))
  (ze (jA [4] (zt (n3 4))))))),fun ds Q h=>?_⟩
 obtain⟨l,bs,W,rfl,hok,hB,ho,hW,q⟩:=h;have hm:=JS hok;have htn:=jV fun s hs=>(hok.2.1 s hs).1
 have h60:=hok.2.2;have hql:=zbF hok (zq l);have hpp:=za5 hok;have hpb:=zbl hok;have hqb:=zlG hok;have hsm:=hW.small hok hB ho;have hIs:=fun k hk=>zla hok hB ho hW (k:=k) hk
 have hmon:=fun k s t=>zhg hok (b:=zq l) #[0] k s t
 have hz:=zg4 l (zq l);have h71:=zkC hok hB ho hW;have hWl:=hW.1;have hbl:=hB.1;generalize zq l=B at *;generalize quoB B l=qs at *;obtain⟨T',hT⟩:∃ T':Nat,T'+1=qs.length:=⟨qs.length - 1,#[0]⟩
 have eT:(qs.length:Int) - 1=(T':Int):=#[0]
 have hT60:T'<=60:=#[0]
 have hcl:∀ k,(zg qs k).length=T'+1:=fun k=>by unfold zg;rw [YaR];omega
 have hcol:∀ k t (ht:t<qs.length),(zg qs k).getD t 0=qs[t].getD k 0:=fun k t ht=>by
  unfold zg;rw [YaP,Ya0,YaQ ht];rfl
 walk_at "s"
 walk_at "rd YaR"
 rw [eT];walk_at "v"
 walk_at "n"
 walk_at "rd YaR"
 refine⟨#[0],#[0],?_⟩
 rw [Int.toNat_natCast];refine ji (fun k ρ=>∃ t5 t6 t7 t8 t9 t10 t11 t12 t13:Option L3.Cl,ρ = (wE B qs bs T' (((W.take k).flatten).map dW) [t5,t6,t7,t8,t9,t10,t11,t12,t13])) ?_ ?_ ⟨none,none,none,none,none,none,none,none,none,rfl⟩
 . rintro k ρ hk ⟨t5,t6,t7,t8,t9,t10,t11,t12,t13,rfl⟩ Z hZ
   have hkm:k<many l:=#[0]
   have hpm:bs.getD k ((0,1),(0,1))∈bs:=JG hk;have hat:atI (bs.map dP) (k:Int)=some (dP (bs.getD k ((0,1),(0,1)))):=by
    refine z8 ?_
    rw [Ya0,YaQ hk,YaP,YaQ hk];rfl
   have hI:=hIs k hkm;have hp:=ho _ hpm;have hi:=hB.2 _ hpm;have hzk:=hz k;have hmk:=hmon k;generalize bs.getD k ((0,1),(0,1))=p at hat hI hp hi;simp only [wE,gn3,List.set_cons_zero,List.set_cons_succ,zw,Wbk,Wbh];walk_at "s"
   walk_at "rd hat"
   refine hN _ ?_
   clear hN N hat;walk_at "q"
   walk_at "n";have h71:=h71 _ (JG (d:=[]) (show k<W.length by omega))
   refine⟨_,Jn (fun m ρ=>∃ (i:Nat) (j:Int) (t9 t10 t11 t12 t13:Option L3.Cl),ρ = (wF B qs bs T' (((W.take k).flatten++(W.getD k []).take i).map dW) k p j [t9,t10,t11,t12,t13])/\j=1+(i:Int)/\i<=(W.getD k []).length/\m=(W.getD k []).length - i) ?_ _ _ ⟨0,1,t9,t10,t11,t12,t13,by rw [List.take_zero,Yao];rfl,rfl,Wbl _,rfl⟩⟩
   clear t5 t6 t7 t8 t9 t10 t11 t12 t13
   rintro m ρ ⟨i,j,t9,t10,t11,t12,t13,rfl,hj,hi',rfl⟩ V hV
   obtain⟨st1,st2⟩:=hI.step hpp (by rw [hcl];omega) hp i
   rw [hcl,<-hj] at st1 st2;have bj:Bits 64 j:=Bits.lit (x:=j) 64 #[0]
   have hj1:1<=j:=#[0]
   have jB:=bj.mul hpb;have hx:∀ t,t<qs.length->atI (qs.map dI) (t:Int)=some (PyData.list ((qs.getD t []).map PyData.int))/\atI ((qs.getD t []).map PyData.int) (k:Int)=some (PyData.int ((zg qs k).getD t 0))/\Bits 1000 ((zg qs k).getD t 0):=fun t ht=>by
    have hq:=hqb _ (Ya4 ht);have e:qs.getD t []=qs[t]:=by rw [YaP,YaQ ht];rfl
    have hx:=jJ (xs:=qs[t]) (i:=(k:Int)) #[0] #[0]
    rw [Int.toNat_natCast] at hx;rw [e,hcol k t ht];refine⟨J4 ht,hx,?_⟩;refine hq.2 _ ?_;rw [YaP,YaQ #[0]];exact Ya4 _
   refine zg7 ?_
   walk_at "q"
   walk_at "u"
   walk_at "rd atI0"
   refine⟨hp.2.2.1.mulOk hpb #[1],hN _ ?_⟩
   walk_at "w"
   refine⟨bj.mulOk hpb #[1],hN _ ?_⟩
   clear hN N;refine zZ (fun ρ'=>ρ'=(wF B qs bs T' (((W.take k).flatten++(W.getD k []).take i).map dW) k p j [#[5,((zu (T'+1) (j7 B (zg qs k) p.2 j):Nat):Int)],#[5,p.2.1*B],#[5,j*B],t12,t13])) (fun N hN=>?_) ?_
   . refine⟨_,Jn (fun m ρ=>∃ o:Nat,ρ = (wF B qs bs T' (((W.take k).flatten++(W.getD k []).take i).map dW) k p j [#[5,((o:Int))],#[5,p.2.1*B],#[5,j*B],t12,t13])/\1<=o/\o<=T'+1/\(∀ t,1<=t->t<o->j7 B (zg qs k) p.2 j t=false)/\m=T'+1 - o) ?_ _ _ ⟨1,rfl,#[1],#[0],fun t h1 h2=>absurd h2 #[0],rfl⟩⟩
     rintro m ρ ⟨o,rfl,ho1,ho2,hno,rfl⟩ W1 hW1
     by_cases hoT:o<T'+1
     . obtain⟨x1,x2,x3⟩:=hx o #[0]
       walk_at "rd x1 x2 atI1"
       rw [if_pos (show(o:Int)<=(T':Int) by omega)]
       refine⟨((jB.mono (by decide:64+900<=1000)).sub x3).mulOk hp.2.2.2 #[1],ite2 (fun h=>hW1 (T'+1 - (o+1)) _ #[0] ⟨o+1,by rw [Int.natCast_succ];rfl,#[0],#[0],fun t h1 h2=>?_,rfl⟩) fun h=>hN _ ?_⟩
       . by_cases e:t=o
         . rw [e];exact decide_eq_false #[0]
         . exact hno t h1 #[0]
       . rw [J5 (n:=T'+1) (r:=o) #[0] ho1 #[0] hno fun _=>decide_eq_true #[0]];rfl
     . walk_at "rd"
       rw [if_neg (show ¬(o:Int)<=(T':Int) by omega)]
       refine hN _ ?_
       rw [J5 (n:=T'+1) (r:=o) #[0] ho1 #[0] hno fun z=>absurd z hoT];rfl
   rintro ρ rfl
   walk_at "q"
   walk_at "u"
   walk_at "rd atI0"
   refine⟨hp.1.2.1.mulOk hpb #[1],hN _ ?_⟩
   walk_at "w"
   refine⟨bj.mulOk hpb #[1],hN _ ?_⟩
   clear hN N;have l0:=zi3 hpp hzk hp.1.1 hi.1 hj1;have hll:∀ t,jn B (zg qs k) p.1 j t=decide (((zg qs k).getD t 0 - (j*B - B))*p.1.2 > p.1.1*B):=fun t=>by
    unfold jn;rw [show(zg qs k).getD t 0 - j*B+B=(zg qs k).getD t 0 - (j*B - B) by omega]
   refine zZ (fun ρ'=>ρ'=(wF B qs bs T' (((W.take k).flatten++(W.getD k []).take i).map dW) k p j [#[5,((zu (T'+1) (j7 B (zg qs k) p.2 j):Nat):Int)],#[5,p.1.1*B],#[5,j*B],#[5,((zu (T'+1) (jn B (zg qs k) p.1 j):Nat):Int)],#[5,j*B - B]])) (fun N hN=>?_) ?_
   . refine⟨_,Jn (fun m ρ=>∃ o:Nat,ρ = (wF B qs bs T' (((W.take k).flatten++(W.getD k []).take i).map dW) k p j [#[5,((zu (T'+1) (j7 B (zg qs k) p.2 j):Nat):Int)],#[5,p.1.1*B],#[5,j*B],#[5,((o:Int))],#[5,j*B - B]])/\o<=T'+1/\(∀ t,t<o->jn B (zg qs k) p.1 j t=false)/\m=T'+1 - o) ?_ _ _ ⟨0,rfl,#[0],fun t h2=>absurd h2 #[0],rfl⟩⟩
     rintro m ρ ⟨o,rfl,ho2,hno,rfl⟩ W1 hW1
     have h0:∀ (h:jn B (zg qs k) p.1 j o=true),1<=o:=fun h=>by
      rcases Nat.eq_zero_or_pos o with z|z
      . rw [z,l0] at h;cases h
      . exact z
     by_cases hoT:o<T'+1
     . obtain⟨x1,x2,x3⟩:=hx o #[0]
       walk_at "rd x1 x2 atI1"
       rw [if_pos (show(o:Int)<=(T':Int) by omega)]
       refine⟨((x3.mono (by decide:1000<=1001)).sub ((jB.mono (by decide:64+900<=1000)).sub (hpb.mono #[1]))).mulOk hp.1.2.2 #[1],ite2 (fun h=>hW1 (T'+1 - (o+1)) _ #[0] ⟨o+1,by rw [Int.natCast_succ];rfl,#[0],fun t h2=>?_,rfl⟩) fun h=>hN _ ?_⟩
       . by_cases e:t=o
         . rw [e,hll];exact decide_eq_false #[0]
         . exact hno t #[0]
       . have hl:jn B (zg qs k) p.1 j o=true:=by rw [hll];exact decide_eq_true #[0]
         rw [J5 (n:=T'+1) (r:=o) #[0] (h0 hl) #[0] (fun t _ h=>hno t h) fun _=>hl];rfl
     . walk_at "rd"
       rw [if_neg (show ¬(o:Int)<=(T':Int) by omega)]
       refine hN _ ?_
       rw [J5 (n:=T'+1) (r:=o) #[0] #[0] #[0] (fun t _ h=>hno t h) fun z=>absurd z hoT];rfl
   rintro ρ rfl
   have e1:winL B (zg qs k) p j=(((zu (T'+1) (j7 B (zg qs k) p.2 j):Nat):Int),if zu (T'+1) (jn B (zg qs k) p.1 j)=T'+1 then none else some ((zu (T'+1) (jn B (zg qs k) p.1 j):Nat):Int)):=by unfold winL winP;rw [hcl]
   have f1:=(Jh (n:=T'+1) #[0] (j7 B (zg qs k) p.2 j)).2.1
   have f2:=(Jh (n:=T'+1) #[0] (jn B (zg qs k) p.1 j)).2.1
   rw [e1] at st1 st2;generalize zu (T'+1) (j7 B (zg qs k) p.2 j)=fe at f1 st1 st2 ⊢;generalize zu (T'+1) (jn B (zg qs k) p.1 j)=fl at f2 st1 st2 ⊢
   by_cases hnil:fe=T'+1/\fl=T'+1
   . have:=congrArg List.length (st2 (by
      rw [hnil.1,hnil.2,if_pos rfl]
      rintro(z|z)
      . have:((T'+1:Nat):Int)<((T'+1:Nat):Int):=z
        omega
      . exact z rfl))
     rw [WaN,WaN] at this;walk_at "q"
     rw [if_pos #[0],if_pos #[0]]
     have hkl:k<W.length:=#[0]
     have e:W.getD k []=W[k]:=by rw [YaP,YaQ hkl];rfl
     have e2:(W.take k).flatten++(W.getD k []).take i=(W.take (k+1)).flatten:=by
      rw [Wal (l:=W.getD k []) #[0],e,WaI (l:=W),YaQ hkl,List.flatten_append]
      show _=_++[W[k]].flatten
      rw [List.flatten_singleton]
     rw [e2];exact hZ _ ⟨_,_,_,_,_,_,_,_,_,rfl⟩
   have ht:jl (T'+1) (((fe:Nat):Int),if fl=T'+1 then none else some ((fl:Nat):Int)):=by
    by_cases z:fe=T'+1
    . exact .inr (by rw [if_neg fun y=>hnil ⟨z,y⟩];simp)
    . exact .inl (by show((fe:Nat):Int)<((T'+1:Nat):Int);omega)
   have st:=st1 ht;have hln:=congrArg List.length st;rw [YaS,WaN,WaN,List.length_singleton] at hln;have hsl:(((W.take k).flatten++(W.getD k []).take i).map dW).length<sizeLine:=YaU (show _<1000 by
    rw [YaR,YaS];have e:W.flatten=(W.take k).flatten++(W.getD k []++(W.drop (k+1)).flatten):=by
     rw [<-List.flatten_cons,<-List.flatten_append,YaP,YaQ #[0]]
     show _=(W.take k++W[k]::W.drop (k+1)).flatten
     rw [<-Wae,List.take_append_drop]
    have:=congrArg List.length e;rw [YaS,YaS] at this;have:=List.length_take_le' i (W.getD k [])
    omega) #[1]
   have fin:V (wF B qs bs T' (((W.take k).flatten++(W.getD k []).take i).map dW++[.tuple [.int (k:Int),.int j,.int (fe:Int),dO (if fl=T'+1 then none else some ((fl:Nat):Int))]]) k p (j+1) [#[5,(fe:Int)],#[5,p.1.1*B],#[5,j*B],some (.sh true (dO (if fl=T'+1 then none else some ((fl:Nat):Int)))),#[5,j*B - B]]):=hV ((W.getD k []).length - (i+1)) _ #[0] ⟨i+1,j+1,_,_,_,_,_,by rw [st,<-Yag,Ya2 (l₁:=(W.take k).flatten++(W.getD k []).take i)];rfl,#[0],#[0],rfl⟩
   walk_at "s"
   have g:N (wF B qs bs T' (((W.take k).flatten++(W.getD k []).take i).map dW) k p j [#[5,((fe:Int))],#[5,p.1.1*B],#[5,j*B],#[5,((fl:Int))],#[5,j*B - B]]):=by
    walk_at "n"
    by_cases hla:fl=T'+1
    . rw [if_pos hla] at fin
      walk_at "q"
      rw [if_pos #[0]]
      walk_at "n"
      walk_at "rd"
      exact⟨hsl,fin⟩
    . rw [if_neg hla] at fin
      walk_at "q"
      rw [if_neg #[0]]
      walk_at "n"
      walk_at "rd"
      exact⟨hsl,fin⟩
   walk_at "rd"
   exact ite2 (fun z=>by rw [if_neg (show ¬(T':Int)<(fl:Int) by omega)];exact g) fun _=>g
 . rintro ρ ⟨t5,t6,t7,t8,t9,t10,t11,t12,t13,rfl⟩
   walk_at "rd"
   rw [Wal #[0]]
   exact q
theorem ziT:FnScope ["_law_script", "_law_spells_here", "_law_bottom", "_law_rows", "_law_row_here", "_law_other", "_law_bounds", "_law_rules_here", "_law_handed", "_law_found"] ["_law_script"] (zh zah):=#[10]
theorem zis(T:Txt c K mg)(zmy:#[8,dd_law_long])(zmB:#[8,dd_law_quotas])(zmD:#[8,dd_law_row])(zmx:#[8,dd_law_limits])(zmE:#[8,dd_law_rules])(zmN:#[8,dd_mended c])(zmu:#[8,dd_law_cell_at])(zmv:#[8,dd_law_fair])(zmI:#[8,dd_law_windows]){f:Addr}{fd:FuncData}(F:Fun K "law" "law" zah f fd):FnOk P w K mg base (CXR P w) 8 f fd ["_law_script"] (spU c.tb K JV):=by
 have S:=ziT;refine fnU (cv:=fun v=>True) F trivial S (fun ds Q E h=>?_) (fun cdv A outer s H E E3 hcv tu hE hr=>?_)
 . walk_at "l"
 refine⟨_,(zd (#[9,zj,1] (df3 hE zmy #[7] rfl zo (za (n3 0) (za i3 zb))))
  (zd (zcl (df3 hE zmB #[7] rfl zo (za (n3 1) zb)) (jf (n:=2) rfl (zy #[9,zl,2] (zy #[9,zl,3] jb))))
  (zd (#[9,zj,4] (df3 hE zmD #[7] rfl zo (za (n3 2) (za (n3 3) (za (op3 zP (df3 hE zmu #[7] rfl zo (za (n3 0) (za i3 zb))) i3) zb)))))
  (zd (#[9,zj,5] (df3 hE zmD #[7] rfl zo (za (n3 2) (za (n3 3) (za (op3 zP (df3 hE zmu #[7] rfl zo (za (n3 0) (za i3 zb))) i3) zb)))))
  (zd (#[9,zj,6] (df3 hE zmx #[7] rfl zo (za (n3 2) (za (n3 3) (za (n3 5) (za (op3 zP (df3 hE zmu #[7] rfl zo (za (n3 0) (za i3 zb))) i3) (za b3 zb)))))))
  (zd (#[9,zj,7] (df3 hE zmE #[7] rfl zo (za (zp zD rfl T.n_len zz (za (n3 4) zb)) (za (zp zD rfl T.n_len zz (za (n3 6) zb)) (za (df3 hE zmu #[7] rfl zo (za (n3 0) (za i3 zb))) zb)))))
  (zd (#[9,ZA,8] ["_law_length", "_law_weights"] [] [] rfl (zY (osc:=zh zah) #[3]) rfl (zR (n3 1)) (fun H0 s H fp cl=>⟨(jf (n:=2) rfl (zy (zl (i:=0) (show((["_law_length", "_law_weights"]:List PySem.Str)++([]:List PySem.Str)).Nodup by decide) rfl #[2]) (zy (zl (i:=1) (show((["_law_length", "_law_weights"]:List PySem.Str)++([]:List PySem.Str)).Nodup by decide) rfl #[2]) jb))),jD,(z7 (za (n3 0) (za (new3 (zbL rfl T.n_list zan (za (n3 1) zb))) zb)))⟩))
  (zd (#[9,zj,9] (dfU tu hE zmN #[7] rfl zo (za (n3 8) (za (new3 (zbL rfl T.n_list zan (za (n3 6) zb))) (za (new3 (zbL rfl T.n_list zan (za (n3 7) zb))) (za (new3 (zbL rfl T.n_list zan (za (n3 4) zb))) zb))))))
  (zd (s_if (zr (Jj hr.units) (at3 (n3 9) i3 #[4]) s3 (nomark _)) (ze (zt (cmp3 (jg hr.units) (zp zD rfl T.n_len zz (za (n3 9) zb)) i3 (nomark _)))) zx)
  (ze (zt (zfe (cmp3 (jg hr.units) (zp zD rfl T.n_len zz (za (n3 9) zb)) i3 (nomark _)) (one3 (df3 hE zmv #[7] rfl zo (za (n3 9) (za (df3 hE zmI #[7] rfl zo (za (n3 2) (za (n3 3) (za (n3 6) zb)))) (za (n3 7) (za (n3 4) zb)))))))))))))))))),fun ds Q h=>?_⟩
 obtain⟨ns,rfl,h63,q⟩:=h;walk_at "q"
 refine⟨ns,rfl,#[1],#[1],fun l hok=>hN _ ?_⟩
 clear hN N;have hm:=JS hok;have htn:=jV fun s hs=>(hok.2.1 s hs).1
 have h60:=hok.2.2;have hql:=zbF hok (zq l);have hqr:∀ r∈quoB (zq l) l,r.length=many l:=fun r hr=>zcS hok hr
 have ht1:=zjG hok;walk_at "q"
 refine⟨l,rfl,hok,hN _ ?_⟩
 walk_at "w"
 refine⟨ns,rfl,#[1],fun v=>⟨quoB (zq l) l,rfl,many l,hm.1,hm.2,#[0],#[0],hqr,fun row hrow hall=>hN _ ?_⟩⟩
 clear hN N;have hokr:Zq (many l) (tot l).toNat row:=⟨#[0],hall⟩
 walk_at "q"
 refine⟨ns,rfl,#[1],fun v=>⟨quoB (zq l) l,rfl,many l,hm.1,hm.2,#[0],#[0],hqr,fun oth hoth hall2=>hN _ ?_⟩⟩
 walk_at "w"
 refine⟨ns,rfl,#[1],fun v6=>⟨quoB (zq l) l,rfl,oth,rfl,za5 hok,zbl hok,many l,hm.1,hm.2,#[0],#[0],hqr,hall2,fun bs hB ho=>hN _ ?_⟩⟩
 clear hN N hall2 hoth hqr;have hbl:=hB.1;walk_at "s"
 walk_at "rd YaR"
 refine⟨ns,rfl,#[1],fun v7=>⟨#[0],#[0],#[0],#[0],fun rs hrs htx hrl=>hN _ ?_⟩⟩
 clear hN N;rw [show(row.length:Int)=tot l by omega,hbl] at hrs
 walk_at "q"
 refine⟨sz (by rw [YaR];have:=hok.1;omega),?_⟩
 refine ju dS dS (fun ρ=>∃ t u,ρ = [t,u]) l ?_ _ _ _ _ ⟨none,none,rfl⟩ ?_
 . rintro s hs ρ fa acc K ⟨t,u,rfl⟩ kk
   walk_at "rd"
   exact kk _ ⟨_,_,rfl⟩
 rw [List.nil_append];walk_at "n";refine zZ (fun ρ=>∃ (W:List (List Win)) (ch:List #[22]) (d:D),ρ = [some (.sh false (.list (ns.map .int))),some (.sh true (.list (l.map dS))),#[5,zq l],some (.sh true (.list ((quoB (zq l) l).map dI))),some (.sh true (.list (row.map .int))),some (.sh true (.list (oth.map .int))),some (.sh true (.list (bs.map dP))),some (.sh true (.list (rs.map dRl))),some (.sh true (.list (l.map dS))),some (.sh true d)]/\IsWs l bs W/\ch.length=(tot l).toNat/\(∀ pl∈ch,∀ x∈pl,InR x W.flatten.length)/\ChOk rs W.flatten ch/\zgm W.flatten ch row d) (fun N hN=>?_) ?_
 . walk_at "rd"
   exact⟨l,rfl,bs,rfl,rs,rfl,row,rfl,#[0],ho,#[0],htx,#[0],fun _ _ _ _ W hW ch h1 h2 h3 d hd=>hN _ ⟨W,ch,d,rfl,hW,h1,h2,h3,hd⟩,fun z=>absurd hok z,fun _ z=>absurd hB z,fun _ _ z=>absurd hrs z,fun _ _ _ z=>absurd hokr z⟩
 rintro ρ ⟨W,ch,d,rfl,hW,hcl,hin,hch,hd⟩
 rcases hd with ⟨s,x,hs,rfl⟩|⟨f,tk,hd',tp,vp,h1,h2,h3,l1,l2,me,rfl⟩
 . walk_at "rd"
   rw [if_pos (by rcases hs with rfl|rfl<;>decide)]
   exact q
 have hrl':row.length=ch.length:=by rw [hokr.1,hcl]
 obtain⟨f1,f2,f3⟩:=zim hrl' hch hin h1 h2 h3 l1 l2 me;have hsm:=hW.small hok hB ho;generalize zU W.flatten tk ch.length=new at f3;generalize z5 new row=cg at f3;walk_at "q"
 walk_at "n"
 walk_at "rd"
 refine⟨l,rfl,rfl,bs,rfl,hok,hB,ho,W,hW,new,rfl,tp,rfl,vp,rfl,row,W.flatten,rfl,rs,rfl,rfl,#[0],#[0],#[0],l2,htx,fun r hr=>(hrs r hr).1,fun v hv=>?_,f1,f2,f3,q⟩
 obtain⟨a,b⟩:=zhL hok hW v hv;exact⟨a.1,a.2,fun x hx=>by have:=b x hx;omega⟩
end
theorem ziX{K:Ybf}{h:Heap}{mg:#[15]}(X:K.In h)(G:h.Ns mainGlobals mg){x:Str}{st:Stmt}{f:Addr}{od an:Option Addr}{sl:Array (Option Value)}{oc kV dc pm ct cd:Value}(a:PySem.W.nsIn K mainGlobals x=some (some (.ref f)))(l:K.lookup f=some ⟨oc,od,.func (PySem.W.fnOf x x (JF st) (jI st) (zh st) .none kV dc pm an cd ct),sl⟩)(c:PySem.W.codeIn K cd x=true)(k:PySem.W.keepIn K (.ref f)=true):DA K mg x st:=⟨f,_,zbB (st:=st) l c k,Wbb X G a⟩
theorem zgF{K:Ybf}{h:Heap}{mg:#[15]}(X:K.In h)(G:h.Ns mainGlobals mg)
 {cx0 tbx:Addr} {odx:Option Addr} {vsx:Array Value} {slx:Array (Option Value)} {flx:Str} {tx1 tx2 tx3:Tok} {ix1 ix2:Int} {bx:Bool}
 {f35:Addr}
 {od35 an35:Option Addr}
 {sl35:Array (Option Value)}
 {oc35 kV35 dc35 pm35 ct35:Value}
 {c_ClanError:Addr}
 {c_NoSpell:Addr}
 {c_NoRow:Addr}
 {c_NoBounds:Addr}
 {c_NoRule:Addr}
 {c_Market:Addr}
 {fI:Addr} {odI anI:Option Addr} {slI:Array (Option Value)} {ocI kVI dcI pmI ctI cdI:Value}
 {t_LEAST_BOUND:Addr} {od_LEAST_BOUND:Option Addr} {n_LEAST_BOUND:Nat} {sl_LEAST_BOUND:Array (Option Value)} {u0_LEAST_BOUND u1_LEAST_BOUND:Tok}
 {t_MOST_BOUND:Addr} {od_MOST_BOUND:Option Addr} {n_MOST_BOUND:Nat} {sl_MOST_BOUND:Array (Option Value)} {u0_MOST_BOUND u1_MOST_BOUND:Tok}
 {t_FIXED:Tok}
 {t_BARRED:Tok}
 {t_MOST_SPELLS:Tok}
 {t_MOST_CLANS:Tok}
 {t_MOST_TURNS:Tok}
 (D:TxtD K mg)
 (a35:PySem.W.nsIn K mainGlobals "nearest" = some (some (.ref f35)))
 (l35:K.lookup f35=some ⟨oc35,od35,.func (PySem.W.fnOf "nearest" "nearest" (JF jT) (jI jT) (zh jT) .none kV35 dc35 pm35 an35 (.ref cx0) ct35),sl35⟩)
 (c35:PySem.W.codeIn K (.ref cx0) "nearest" = true)
 (k35:PySem.W.keepIn K (.ref f35)=true)
 (q1:K.lookup cx0=some ⟨.type "code", odx,.fields vsx,slx⟩)
 (q2:vsx[11]?=some (.ref tbx))
 (q3:vsx.getD 11 .none=.ref tbx)
 (q4:vsx.getD 18 .none=.str flx tx1)
 (q5:vsx.getD 7 .none=.int ix1 tx2)
 (q6:vsx.getD 9 .none=.bool bx)
 (q7:vsx.getD 10 .none=.int ix2 tx3)
 (q8:cx0≠tbx)
 (q9:K.lookup tbx=none)
 (m_ClanError:PySem.W.nsIn K mainGlobals "ClanError" = some (some (.ref c_ClanError)))
 (m_NoSpell:PySem.W.nsIn K mainGlobals "NoSpell" = some (some (.ref c_NoSpell)))
 (m_NoRow:PySem.W.nsIn K mainGlobals "NoRow" = some (some (.ref c_NoRow)))
 (m_NoBounds:PySem.W.nsIn K mainGlobals "NoBounds" = some (some (.ref c_NoBounds)))
 (m_NoRule:PySem.W.nsIn K mainGlobals "NoRule" = some (some (.ref c_NoRule)))
 (m_Market:PySem.W.nsIn K mainGlobals "Market" = some (some (.ref c_Market)))
 (mI2:PySem.W.findIn K (.ref c_Market) "__init__" = some (some (.ref fI)))
 (lI:K.lookup fI=some ⟨ocI,odI,.func (PySem.W.fnOf "__init__" "Market.__init__" (JF Jl) (jI Jl) (zh Jl) .none kVI dcI pmI anI cdI ctI),slI⟩)
 (cI:PySem.W.codeIn K cdI "Market.__init__" = true)
 (kI:PySem.W.keepIn K (.ref fI)=true)
 (mI1:PySem.W.makesIn K c_Market=true)
 (mI3:PySem.W.isFn K (.ref fI)=true)
 (mI4:PySem.W.keepIn K (.ref c_Market)=true)
 (cI1:PySem.W.plainGet K c_Market Str.empty=true)
 (cI2:PySem.W.hasDictIn K c_Market=true)
 (cI3:PySem.W.plainOver K c_Market=true)
 (cI4:PySem.W.findIn K (.ref c_Market) "__setattr__" = some (some (.builtin "object.__setattr__")))
 (nI_costs:PySem.W.findIn K (.ref c_Market) "costs" = some none)
 (nI_turn_prices:PySem.W.findIn K (.ref c_Market) "turn_prices" = some none)
 (nI_visit_prices:PySem.W.findIn K (.ref c_Market) "visit_prices" = some none)
 (nI_taken:PySem.W.findIn K (.ref c_Market) "taken" = some none)
 (nI_holders:PySem.W.findIn K (.ref c_Market) "holders" = some none)
 (e_NoSpell:PySem.W.excIn K c_NoSpell [.type "ValueError", .type "Exception", .type "BaseException", .type "object"] "ValueError.__new__" = true)
 (e_NoBounds:PySem.W.excIn K c_NoBounds [.type "ValueError", .type "Exception", .type "BaseException", .type "object"] "ValueError.__new__" = true)
 (e_NoRule:PySem.W.excIn K c_NoRule [.type "ValueError", .type "Exception", .type "BaseException", .type "object"] "ValueError.__new__" = true)
 (e_NoRow:PySem.W.excIn K c_NoRow [.type "ValueError", .type "Exception", .type "BaseException", .type "object"] "ValueError.__new__" = true)
 (m_LEAST_BOUND:PySem.W.nsIn K mainGlobals "LEAST_BOUND" = some (some (.ref t_LEAST_BOUND)))
 (q_LEAST_BOUND:K.lookup t_LEAST_BOUND=some ⟨.type "tuple", od_LEAST_BOUND,.seq #[.int 0 u0_LEAST_BOUND,.int 1 u1_LEAST_BOUND] n_LEAST_BOUND,sl_LEAST_BOUND⟩)
 (m_MOST_BOUND:PySem.W.nsIn K mainGlobals "MOST_BOUND" = some (some (.ref t_MOST_BOUND)))
 (q_MOST_BOUND:K.lookup t_MOST_BOUND=some ⟨.type "tuple", od_MOST_BOUND,.seq #[.int 10 u0_MOST_BOUND,.int 1 u1_MOST_BOUND] n_MOST_BOUND,sl_MOST_BOUND⟩)
 (m_FIXED:PySem.W.nsIn K mainGlobals "FIXED" = some (some (.str "fixed" t_FIXED)))
 (m_BARRED:PySem.W.nsIn K mainGlobals "BARRED" = some (some (.str "barred" t_BARRED)))
 (m_MOST_SPELLS:PySem.W.nsIn K mainGlobals "MOST_SPELLS" = some (some (.int 8 t_MOST_SPELLS)))
 (m_MOST_CLANS:PySem.W.nsIn K mainGlobals "MOST_CLANS" = some (some (.int 8 t_MOST_CLANS)))
 (m_MOST_TURNS:PySem.W.nsIn K mainGlobals "MOST_TURNS" = some (some (.int 60 t_MOST_TURNS))):∃ c:Law.Cl,Txt c K mg:=
 ⟨⟨c_ClanError,c_NoSpell,c_NoRow,c_NoBounds,c_NoRule,c_Market,cx0,tbx⟩,{
  toTxtD:=D,
  d_nearest:=⟨f35,_,zbB (st:=jT) l35 c35 k35,Wbb X G a35⟩,
  x_nearest:=⟨f35,_,zbB (st:=jT) l35 c35 k35,Wbb X G a35,rfl⟩,
  hdC:=fun h kh=>⟨_,vsx,flx,tx1,ix1,tx2,bx,ix2,tx3,kh _ _ q1,rfl,rfl,q2,q3,q4,q5,q6,q7,q8⟩,
  tab:=zgB a35 l35 rfl q1 q2,
  nop:=q9,
  m_ClanError:=Wbb X G m_ClanError,
  m_NoSpell:=Wbb X G m_NoSpell,
  m_NoRow:=Wbb X G m_NoRow,
  m_NoBounds:=Wbb X G m_NoBounds,
  m_NoRule:=Wbb X G m_NoRule,
  m_Market:=Wbb X G m_Market,
  x_init:=⟨fI,_,zbB (st:=Jl) lI cI kI,⟨mI1,mI2,mI3,mI4⟩⟩,
  cl_M:=⟨cI1,cI2,cI3,cI4⟩,
  na_costs:=nI_costs,
  na_turn_prices:=nI_turn_prices,
  na_visit_prices:=nI_visit_prices,
  na_taken:=nI_taken,
  na_holders:=nI_holders,
  e_NoSpell:=e_NoSpell,
  e_NoBounds:=e_NoBounds,
  e_NoRule:=e_NoRule,
  e_NoRow:=e_NoRow,
  m_LEAST_BOUND:=⟨_,Wbb X G m_LEAST_BOUND,_,_,_,q_LEAST_BOUND,rfl,rfl,by show(2:Nat)<=sizeLine;decide,(.cons ⟨_,rfl⟩ (.cons ⟨_,rfl⟩ .nil))⟩,
  m_MOST_BOUND:=⟨_,Wbb X G m_MOST_BOUND,_,_,_,q_MOST_BOUND,rfl,rfl,by show(2:Nat)<=sizeLine;decide,(.cons ⟨_,rfl⟩ (.cons ⟨_,rfl⟩ .nil))⟩,
  m_FIXED:=⟨_,Wbb X G m_FIXED⟩,
  m_BARRED:=⟨_,Wbb X G m_BARRED⟩,
  m_MOST_SPELLS:=⟨_,Wbb X G m_MOST_SPELLS⟩,
  m_MOST_CLANS:=⟨_,Wbb X G m_MOST_CLANS⟩,
  m_MOST_TURNS:=⟨_,Wbb X G m_MOST_TURNS⟩ }⟩
section
variable{P:Program}{w:World}{c:Law.Cl}{K:Ybf}{mg:#[15]}{base:Heap}
theorem zgJ(T:Txt c K mg)(hB:BMod mg base)(kb:K.In base):#[8,dd_mend_visits c]:=zhj T hB kb
theorem zig(T:Txt c K mg)(hB:BMod mg base)(kb:K.In base):#[8,dd_mended c]:=zhk T (zmd T) (ziz T) (zj8 T) (zjr T) (zii T) (zgJ T hB kb) (zko T)
theorem zkj(T:Txt c K mg)(hB:BMod mg base)(kb:K.In base){f:Addr}{fd:FuncData}(F:Fun K "law" "law" zah f fd):FnOk P w K mg base (CXR P w) 8 f fd ["_law_script"] (spU c.tb K JV):=zis T (zgD T) (zkg T) (zhM T) (zjH T) (ziG T) (zig T hB kb) (zdd T) (zjp T) (zlN T) F
end
theorem walk{l:PySem.W.OpenLaw}{q:Program}{loose:List Str}{XP:(Str->Option Value)->Heap->Prop}{YP:World->Heap->Prop}{d dd:DefRec}{K:Params->Ybf}(hn:l.most=some 63)(hdf:d.params.defaults=[])(hdn:d.name = "law")
 (hrec:(recsOf q).find? (fun e=>e.name==("nearest" : Str))=some dd) (hY:∀ (w:World) (h:Heap),YP w h->(K w.params).In h)
 (F:∀ (w:World) (mg:#[15]) (h:Heap),(K w.params).In h->h.Ns mainGlobals mg->∃ c,Txt c (K w.params) mg) :
 PySem.W.WalkO q loose XP YP l.row.toRowW d [] (fun f vs=>PySem.call f vs):=by
 refine L3.ziO (n:=63) (k:=8) (x:="_law_script") (sp:=JV) hn #[1] hdf ⟨rfl,#[1],#[1]⟩ hY hrec (fun w mg fa h KX G hmg=>?_) (fun ns hl Q E hQ=>⟨ns,rfl,hl,hQ _⟩)
 obtain⟨c,T⟩:=F w mg h KX G;obtain⟨f,fd,Fn,hm⟩:=T.d_law;rw [hdn,hm] at hmg;cases hmg;have Fn':=Fn;obtain⟨oc,od,kV,doc,pm,an,cdv,ct,osl,rfl,lk,hcd⟩:=Fn.ex;exact⟨_,c.c0,c.tb,fun s u=>.of_eq rfl,T.tab,T.nop,fun base kb hB=>zkj T hB kb Fn'⟩
end Law
namespace PySem.W.Fast
def tw10000423556045047613:=0
def tw10015263834231513475:=0
def tw10045472553385641116:=0
def tw1005605239352142476:=0
def tw10074960015784954400:=0
def tw1008829241660125849:=0
def tw10109516164103918364:=0
def tw10111680397561840833:=0
def tw10158852935690268238:=0
def tw10197581101962284110:=0
def tw10231280288345321978:=0
def tw10233327520621299428:=0
def tw10236078571746833055:=0
def tw10321226738581404770:=0
def tw10403684906358512601:=0
def tw10459945286125906044:=0
def tw10469527315756922939:=0
def tw1055225172268864043:=0
def tw10721438912845570675:=0
def tw10738292133832065175:=0
def tw10813325504737448120:=0
def tw11018002012597429517:=0
def tw11123443858311919252:=0
def tw1112609273468563740:=0
def tw11231236033073536592:=0
def tw11264012209694730527:=0
def tw11378697242265770229:=0
def tw11438990776278804027:=0
def tw11461545802384431902:=0
def tw11487915482576398301:=0
def tw11646035573477735756:=0
def tw11694454290956023575:=0
def tw11787041625054719838:=0
def tw11869086375103358468:=0
def tw11881080051259513026:=0
def tw11891855642098024681:=0
def tw11969178868289246833:=0
def tw12002557738545846944:=0
def tw12160351465704045859:=0
def tw12232907853906162075:=0
def tw12316504025025500493:=0
def tw12429904030247849424:=0
def tw12529076613395194022:=0
def tw12569123211818939926:=0
def tw12620623451110027641:=0
def tw12798407385548509297:=0
def tw12843864031304002647:=0
def tw13039003981250567763:=0
def tw13071095590440182011:=0
def tw13089960945990843351:=0
def tw13117963367887685427:=0
def tw13119914155395121973:=0
def tw13170898254628205871:=0
def tw1317932858576210691:=0
def tw13186799238155225662:=0
def tw13215175289682369873:=0
def tw13250720081016411056:=0
def tw1332094921760461666:=0
def tw1334228319890081763:=0
def tw13391274842245419979:=0
def tw13440094664442636920:=0
def tw13515106191283164401:=0
def tw13569777648755437538:=0
def tw13582921694739951620:=0
def tw1364365995668255895:=0
def tw13660442400181075812:=0
def tw13747972975059649899:=0
def tw13768853109496573798:=0
def tw13954572950823384895:=0
def tw1396851323500222178:=0
def tw13974061806537523789:=0
def tw14028371863517675642:=0
def tw14163263358040931443:=0
def tw14259892434352799093:=0
def tw14290609992099410849:=0
def tw14304059784165792238:=0
def tw14307545065894415113:=0
def tw14445951790067591155:=0
def tw14609619689469405030:=0
def tw14661091189879625144:=0
def tw1478009173103023256:=0
def tw14800366492237482762:=0
def tw14869077482458261702:=0
def tw14910699719365056437:=0
def tw15035391388445512097:=0
def tw15043645672289184880:=0
def tw15179897851973493638:=0
def tw15218853880045952965:=0
def tw15230809381632857367:=0
def tw15382387545684810923:=0
def tw15387456681505448386:=0
def tw1540416504698963403:=0
def tw15427819536652424237:=0
def tw15450274008786618876:=0
def tw1546778802620652055:=0
def tw15516269335679310225:=0
def tw15562991390388795944:=0
def tw15570607394939831381:=0
def tw15615894320724016621:=0
def tw15663424317343166699:=0
def tw15714901955952368346:=0
def tw15716471315699062878:=0
def tw15764315202386186014:=0
def tw15769122537474169567:=0
def tw15816830528632494863:=0
def tw15855251993974679644:=0
def tw1595426728581113655:=0
def tw15968525210492251482:=0
def tw16007130331956329485:=0
def tw16049978405239330418:=0
def tw16050572909638433079:=0
def tw16060263151610137660:=0
def tw16135369839433551853:=0
def tw16146443461997008819:=0
def tw16205388771075692975:=0
def tw16272487705988299331:=0
def tw16321744932920755704:=0
def tw16388098721315108386:=0
def tw1647317459659195602:=0
def tw16591547431065162650:=0
def tw16769022476717820075:=0
def tw16847089219894242933:=0
def tw16889041943054153563:=0
def tw16981375678007372206:=0
def tw17051117195660924242:=0
def tw17194256848450699255:=0
def tw17239858985335632512:=0
def tw17262809555585091008:=0
def tw1728445328831958265:=0
def tw17526796511930567977:=0
def tw17572967697345799597:=0
def tw1760837733769132886:=0
def tw17682879389287060080:=0
def tw17764794265148785101:=0
def tw17769629699097031998:=0
def tw17970354114935311194:=0
def tw17976132887440665949:=0
def tw1814872885769570388:=0
def tw18161818124117968821:=0
def tw18178185057235280824:=0
def tw18297741515596398374:=0
def tw18320874916836619998:=0
def tw1868315460950341701:=0
def tw1942868970725720769:=0
def tw1970476926880448174:=0
def tw1991937851472466166:=0
def tw2065644836140149846:=0
def tw2142469155332815721:=0
def tw215218861635946824:=0
def tw2231091467856299241:=0
def tw2251245758169645918:=0
def tw2312504337356280915:=0
def tw2331696159411606155:=0
def tw2341125204263350295:=0
def tw2384224402595291396:=0
def tw2397939751263425705:=0
def tw2432886533931396052:=0
def tw2447308209092789859:=0
def tw2452556046561462484:=0
def tw246148064269703000:=0
def tw2488320817822078035:=0
def tw2499820448675387497:=0
def tw25290881617514818:=0
def tw2529804957917023526:=0
def tw2538940374183485894:=0
def tw2559036532025057393:=0
def tw2654202178269075350:=0
def tw26879514079358367:=0
def tw2704758552032788779:=0
def tw2705882856394356066:=0
def tw2823109658987917149:=0
def tw2863817262030582743:=0
def tw2872133405281719733:=0
def tw2911140370139092995:=0
def tw306271946731812543:=0
def tw306313735894340696:=0
def tw3108745989818318106:=0
def tw3127671019989681373:=0
def tw3241343499440363144:=0
def tw3261999165847675112:=0
def tw3310602860718342838:=0
def tw3318742548248963651:=0
def tw3462313252681320459:=0
def tw3488503672227157107:=0
def tw3699493836671743882:=0
def tw3730375274603152402:=0
def tw3752023016942015564:=0
def tw3839691072919508213:=0
def tw3857431299060326495:=0
def tw3902584473142930136:=0
def tw3951240123734988238:=0
def tw404118543915539549:=0
def tw4088375927798570141:=0
def tw4104721128040354271:=0
def tw4190951429172659435:=0
def tw4212490382597808510:=0
def tw4222642978276558208:=0
def tw4239901075590155740:=0
def tw4244465505205963193:=0
def tw4351382384572157227:=0
def tw4376994680733824773:=0
def tw4488777327145046628:=0
def tw4559658857480241307:=0
def tw4560982406677197275:=0
def tw4565121723140749085:=0
def tw4662244128558486570:=0
def tw4726712014964567237:=0
def tw4734679909102152701:=0
def tw4778076982995374766:=0
def tw5007546987263941880:=0
def tw5080193841917125732:=0
def tw5157853473628069321:=0
def tw5193786220878468324:=0
def tw5215036488333366587:=0
def tw5270057194305365092:=0
def tw5290423429355136114:=0
def tw5294383296692486698:=0
def tw5342438127871796908:=0
def tw5407542031296163379:=0
def tw5490274225100517788:=0
def tw5586543724744928163:=0
def tw5638120424995566392:=0
def tw5649957599190365459:=0
def tw566720817866434077:=0
def tw5807773463102782155:=0
def tw5992749967271675536:=0
def tw600683887778077959:=0
def tw6011671117117251055:=0
def tw6090462502538754254:=0
def tw6143151177693857145:=0
def tw6157356357580597592:=0
def tw617677066154125528:=0
def tw6265922651622716475:=0
def tw6281582825415173522:=0
def tw6414304657799319453:=0
def tw6456788745733443819:=0
def tw6493317231367913822:=0
def tw6531535980633558850:=0
def tw6579422238632102644:=0
def tw6618070717484594488:=0
def tw6773786362803108778:=0
def tw6825576825106547556:=0
def tw6830850943356524873:=0
def tw689831556810649747:=0
def tw6972724541698712153:=0
def tw7025211796796088449:=0
def tw7073230422077299681:=0
def tw7190456683235625514:=0
def tw7228355425216809496:=0
def tw7240550781347021623:=0
def tw7259257766312580231:=0
def tw7287775475803327728:=0
def tw749011274815173146:=0
def tw7563579286800931547:=0
def tw7631256786269597282:=0
def tw7899693860521226841:=0
def tw7924307987310998807:=0
def tw7934600180437824149:=0
def tw7950766060069599535:=0
def tw8067012944435864059:=0
def tw8091025608897325198:=0
def tw812840606650055347:=0
def tw814765082260382074:=0
def tw8280382081315184102:=0
def tw8429697497070668004:=0
def tw8444671150362734382:=0
def tw8623367474815107957:=0
def tw8630544826791935540:=0
def tw8702221351790930405:=0
def tw8732384713652792817:=0
def tw8732967572800811732:=0
def tw87733772225964691:=0
def tw8838802056478947756:=0
def tw8840888011530207510:=0
def tw8930887774598774731:=0
def tw8946991191500409348:=0
def tw895551851499657629:=0
def tw8980641380119798938:=0
def tw9017752683585019805:=0
def tw9048322487322407563:=0
def tw9136106500222477355:=0
def tw9175489479628747373:=0
def tw9215917826909825321:=0
def tw9245386945090748125:=0
def tw9250036190448877658:=0
def tw9252747831662823008:=0
def tw9261949146861255909:=0
def tw9346835969555152715:=0
def tw9379718246705571974:=0
def tw9419789995549404997:=0
def tw9519992465673112552:=0
def tw9598880114162927651:=0
def tw9632406916246296233:=0
def tw9667727477752487970:=0
def tw9751032177957690559:=0
def tw9753355937200540870:=0
def tw9767607145625060530:=0
def tw9903888925215420208:=0
def tw9915020362293313122:=0
def tw9927125045437031468:=0
end PySem.W.Fast
theorem PySem.W.Fast.te17876566221164171670:True:=trivial
abbrev PySem.W.Fast.tw8955856132042535642:PySem.Program:=PySem.Challenge.pw_chairclans_k35_prices_of_a_mended_row
theorem PySem.W.Fast.te8955856132042535642:PySem.Challenge.pw_chairclans_k35_prices_of_a_mended_row=PySem.W.Fast.tw8955856132042535642:=rfl
open PySem PySem.W PyProof.Rows
set_option maxRecDepth 100000 in
set_option maxHeartbeats 0 in
theorem PySem.Challenge.cw_chairclans_k35_prices_of_a_mended_row_holds : PySem.Challenge.rw_chairclans_k35_prices_of_a_mended_row.Holds := by
 w_on;o_law;k_head;(case hw=>w_witness2)
 k_fill
 refine Law.walk (l:=PySem.Challenge.rw_chairclans_k35_prices_of_a_mended_row) rfl rfl rfl rfl (fun w h Y=>PySem.W.km_in_of Y) ?F
 case F=>
  intro w mg h KX G;refine' Law.zgF KX G ?D ?a35 ?l35 ?c35 ?k35 ?q1 ?q2 ?q3 ?q4 ?q5 ?q6 ?q7 ?q8 ?q9 ?m_ClanError ?m_NoSpell ?m_NoRow ?m_NoBounds ?m_NoRule ?m_Market ?mI2 ?lI ?cI ?kI ?mI1 ?mI3 ?mI4 ?cI1 ?cI2 ?cI3 ?cI4 ?nI_costs ?nI_turn_prices ?nI_visit_prices ?nI_taken ?nI_holders ?e_NoSpell ?e_NoBounds ?e_NoRule ?e_NoRow ?m_LEAST_BOUND ?q_LEAST_BOUND ?m_MOST_BOUND ?q_MOST_BOUND ?m_FIXED ?m_BARRED ?m_MOST_SPELLS ?m_MOST_CLANS ?m_MOST_TURNS
  (case D=>constructor<;>first|(refine' Law.ziX KX G ?a ?l ?c ?k;(case a|l|c|k=>k_is))|exact PySem.W.mg_none_of KX G (by k_is))
  (case a35|l35|c35|k35|q1=>k_is)
  (case q2|q3|q4|q5|q6|q7=>rfl)
  (case q8=>decide)
  (case q9=>kernel_rfl)
  (case m_ClanError|m_NoSpell|m_NoRow|m_NoBounds|m_NoRule|m_Market|mI2|lI|cI|kI|mI1|mI3|mI4|cI1|cI2|cI3|cI4|nI_costs|nI_turn_prices|nI_visit_prices|nI_taken|nI_holders=>k_is)
  (case e_NoSpell|e_NoBounds|e_NoRule|e_NoRow=>k_exc)
  (case m_LEAST_BOUND|q_LEAST_BOUND|m_MOST_BOUND|q_MOST_BOUND|m_FIXED|m_BARRED|m_MOST_SPELLS|m_MOST_CLANS|m_MOST_TURNS=>k_is)