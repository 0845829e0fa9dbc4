import PyProof.Rows.All
import Wide.All
import OpenK.AllK
import Wide.FinOn
import Lean
import PyProof.EqAt
import PyProof.EqKinds
import PyProof.TupleCall
import PySem.Challenge.RW_chairclans_k38_mended_refused
set_option maxHeartbeats 4000000
set_option maxHeartbeats 4000000
set_option compiler.extract_closed false
def mI:=Lean.mkIdent
local macro_rules | `(tactic| omega)=>`(tactic| first | lia | omega +splitDisjunctions | (dsimp only;omega +splitDisjunctions))
local macro_rules|`(#[9,$f,$i])=>`($f (i:=$i) $(mI `S.nd) rfl (by walk_at "o"))|`(#[7])=>`($(mI `hr.mono) (by decide))|`(#[10])=>`(⟨rfl,rfl,rfl,by decide +kernel,rfl,by decide +kernel,by decide +kernel⟩)
local macro_rules|`(#[0])=>`(by omega)|`(#[1])=>`(by decide)|`(#[2])=>`(by walk_at "o")|`(#[3])=>`(by decide +kernel)|`(#[4])=>`(fun _ _=>rfl)|`(#[5,$x])=>`(some (.sh true (.int $x)))|`(#[6])=>`(by simp;omega)|`(#[8,$x])=>`($x $(mI `P) $(mI `w) $(mI `K) $(mI `mg) $(mI `base))
local macro_rules|`(#[11])=>`($(mI `Inv) $(mI `X) $(mI `pins) $(mI `σ) $(mI `H) $(mI `s))
local macro_rules|`(#[12])=>`(($(mI `model) $(mI `X.prog) $(mI `X.w)))
local macro_rules|`(#[13])=>`($(mI `starEach) ($(mI `e) ::$(mI `es)) $(mI `X.env)=($(mI `false),$(mI `eval) $(mI `e) $(mI `X.env)) ::$(mI `starEach) $(mI `es) $(mI `X.env))
local macro_rules|`(#[14])=>`($(mI `Value)->$(mI `Shared)->Prop)
local macro_rules|`(#[15])=>`($(mI `Str)->$(mI `Option) $(mI `Value))
local macro_rules|`(#[16])=>`((.Call (.Name $(mI `x) $(mI `p)) ($(mI `e) ::$(mI `es)) [] $(mI `pos)))
local macro_rules|`(#[17])=>`(($(mI `X.comp) $(mI `scope) ($(mI `tn)++$(mI `fn)) $(mI `s) $(mI `H) $(mI `fp) $(mI `cl)))
local macro_rules|`(#[18])=>`(($(mI `Addr)×$(mI `Obj)))
local macro_rules|`(#[19])=>`($(mI `X.fn) $(mI `x)=$(mI `true)\/$(mI `X.env.scope.names.lookup) $(mI `x)=$(mI `some) .local)
local macro_rules|`(#[20])=>`(($(mI `x)==("__classdict__" : $(mI `Str)))=$(mI `false))
local macro_rules|`(#[21])=>`(($(mI `s.heap.objs.size)+1))
local macro_rules|`(#[22])=>`($(mI `Fr3) $(mI `K) $(mI `H0) $(mI `G0) $(mI `ρ) $(mI `σ) $(mI `G) $(mI `H))
local macro_rules|`(#[23])=>`(($(mI `x)==("__debug__" : $(mI `Str)))=$(mI `false))
local macro_rules|`(#[24])=>`(([$(mI `c.Known),$(mI `c.NoClan),$(mI `c.NoDistance),$(mI `c.NoLine),$(mI `c.NoName),$(mI `c.NoNumber),$(mI `c.NoRatio),$(mI `c.NoText),$(mI `c.TooLong),$(mI `c.TooMany)].map $(mI `Value.ref)))
local macro_rules|`(#[25])=>`((.ins $(mI `C) $(mI `dx) [("costs", .ref $(mI `aC)),("turn_prices", .ref $(mI `aT))]))
local macro_rules|`(#[95])=>`(by intro _ z;cases z)|`(#[96,$h,$e:ident])=>`(fun z=>by rw [z,$h:term] at $e:ident;cases $e:ident)
noncomputable section
abbrev Waa:=@Int.gcd_pos_of_ne_zero_right
abbrev Wab:=@PyProof.Rows.callWith_type1
abbrev Wac:=@List.nodup_iff_pairwise_ne
abbrev Wad:=@List.mem_or_eq_of_mem_set
abbrev Wae:=@Option.isSome_iff_exists
abbrev Waf:=@List.idxOf_lt_length_iff
abbrev Wag:=@List.eq_of_mem_replicate
abbrev Wah:=@PySem.F.plainAttrs_list
abbrev Wai:=@PySem.F.slot_list_index
abbrev Waj:=@PySem.W.cellsFrom_some
abbrev Wak:=@List.take_of_length_le
abbrev Wal:=@PySem.F.entry_min_loop
abbrev Wam:=@PySem.F.plain_min_loop
abbrev Wan:=@List.getElem?_eq_none
abbrev Wao:=@PySem.W.looks_findIn
abbrev Wap:=@PySem.mem_of_lookup
abbrev Waq:=@Nat.lt_of_le_of_lt
abbrev War:=@Bool.false_eq_true
abbrev Was:=@List.find?_eq_none
abbrev Wat:=@PySem.PyData.tuple.injEq
abbrev Wau:=@Bool.true_eq_false
abbrev Wav:=@Bool.not_eq_true'
abbrev Waw:=@Option.some.injEq
abbrev Wax:=@List.nodup_append
abbrev Waz:=@List.foldl_append
abbrev WaA:=@Option.isSome_map
abbrev WaB:=@List.pairwise_map
abbrev WaC:=@PySem.PassesOwn.leaving
abbrev WaD:=@List.take_add_one
abbrev WaE:=@PySem.PyData.bool.injEq
abbrev WaF:=@PySem.PyData.list.injEq
abbrev WaG:=@List.getElem_inj
abbrev WaH:=@Nat.lt_succ_self
abbrev WaI:=@List.length_take
abbrev WaJ:=@PySem.W.Looks.at
abbrev WaK:=@List.all_eq_true
abbrev WaL:=@List.any_eq_true
abbrev WaM:=@List.not_mem_nil
abbrev WaN:=@PySem.PyData.int.injEq
abbrev WaO:=@PySem.PyData.str.injEq
abbrev WaP:=@Option.some.inj
abbrev WaQ:=@List.map_const'
abbrev WaR:=@PySem.Heap.size_push
abbrev WaS:=@List.nodup_nil
abbrev WaT:=@PySem.Paired.length
abbrev WaU:=@List.mem_cons
abbrev WaV:=@Bool.or_false
abbrev WaW:=@Bool.true_and
abbrev WaX:=@Bool.false_or
abbrev WaY:=@Bool.and_self
abbrev WaZ:=@Int.dvd_trans
abbrev Wa0:=@Bool.and_true
abbrev Wa1:=@PySem.W.mg_of
abbrev Wa2:=@Nat.le_of_lt
abbrev Wa3:=@Nat.ne_of_gt
abbrev Wa4:=@List.map_nil
abbrev Wa5:=@Bool.true_or
abbrev Wa6:=@Int.zero_add
abbrev Wa7:=@Nat.sub_self
abbrev Wa8:=@List.map_set
abbrev Wa9:=@Nat.zero_le
abbrev Wba:=@Int.le_refl
abbrev Wbb:=@Ne.symm
abbrev Yaa:=@List.mem_append_right
abbrev Yab:=@List.getElem?_append_left
abbrev Yac:=@List.getElem?_set_ne
abbrev Yad:=@List.getElem?_replicate
abbrev Yae:=@List.getElem?_append_right
abbrev Yaf:=@Nat.ne_of_lt
abbrev Yag:=@List.append_assoc
abbrev Yah:=@List.mem_of_getElem?
abbrev Yai:=@List.mem_append_left
abbrev Yak:=@Bool.and_eq_true
abbrev Yal:=@Bool.false_ne_true
abbrev Yam:=@List.getElem_of_mem
abbrev Yan:=@PySem.Heap.get?_push_size
abbrev Yao:=@List.append_nil
abbrev Yap:=@Nat.lt_irrefl
abbrev Yas:=@List.getElem?_set_self
abbrev Yat:=@List.map_congr_left
abbrev Yaw:=@Int.ediv_mul_cancel
abbrev Yay:=@Int.natAbs_ediv_le_natAbs
abbrev Yaz:=@List.map_replicate
abbrev YaB:=@List.nodup_cons
abbrev YaD:=@List.map_map
abbrev YaG:=@List.length_range
abbrev YaH:=@List.take_length
abbrev YaN:=@List.length_set
abbrev YaP:=@List.getD_eq_getElem?_getD
abbrev YaQ:=@List.getElem?_eq_getElem
abbrev YaR:=@List.length_map
abbrev YaS:=@List.length_append
abbrev YaT:=@List.mem_cons_of_mem
abbrev YaU:=@Nat.lt_of_lt_of_le
abbrev YaV:=@List.mem_cons_self
abbrev YaW:=@PySem.Heap.get?_push_of_some
abbrev YaX:=@PySem.Heap.lt_size
abbrev YaY:=@Nat.le_refl
abbrev YaZ:=@List.size_toArray
abbrev Ya0:=@List.getElem?_map
abbrev Ya1:=@List.map_cons
abbrev Ya2:=@List.map_append
abbrev Ya3:=@List.mem_append
abbrev Ya4:=@List.getElem_mem
abbrev Ya5:=@Nat.le_trans
abbrev Ya6:=@List.mem_singleton
abbrev Ya7:=@List.mem_map
abbrev Ya8:=@List.getElem?_eq_some_iff
abbrev Yba:=@List.mem_range
abbrev Ybb:=@List.length_replicate
abbrev Ybc:=@Int.emod_nonneg
abbrev Ybd:=@Int.emod_lt_of_pos
abbrev Ybe:=@Int.mul_le_mul_of_nonneg_right
abbrev Ybf:=PySem.W.Frag
section
set_option Elab.async false
set_option linter.all false
set_option maxRecDepth 100000
namespace L2
open PySem PySem.Spec PyProof.Rows
abbrev Key:=Sum Int Str
def Zj:Key->Value->Bool
 | .inl k,v=>Value.isInt k v
 | .inr x,v=>Value.isStrOf x v
def keyH(w:World):Key->Int
 | .inl k=>hashInt k
 | .inr x=>hashStr w x
theorem j5:∀ {k:Key} {v:Value},Zj k v=true->(∃ i t,k=Sum.inl i/\v=Value.int i t)\/(∃ x t,k=Sum.inr x/\v=Value.str x t)
 | .inl i, v, h => by
  obtain⟨t,e⟩:=Value.isInt_shape (k:=i) (v:=v) h;exact .inl ⟨i,t,rfl,e⟩
 | .inr x, v, h => by
  obtain⟨t,e⟩:=Value.isStrOf_shape (x:=x) (v:=v) h;exact .inr ⟨x,t,rfl,e⟩
theorem zhA(i:Int)(t:Tok):Zj (.inl i) (.int i t)=true:=by simp [Zj,Value.isInt]
theorem zgd(x:Str)(t:Tok):Zj (.inr x) (.str x t)=true:=by simp [Zj,Value.isStrOf]
theorem zj9(a b:Int):decide ((Sum.inl a:Key)=Sum.inl b)=(a==b):=by
 by_cases e:a=b
 . subst e;simp
 . have h:¬(Sum.inl a:Key)=Sum.inl b:=fun q=>e (Sum.inl.inj q)
   rw [decide_eq_false h];exact(beq_eq_false_iff_ne.mpr e).symm
theorem zj4(a b:Str):decide ((Sum.inr a:Key)=Sum.inr b)=decide (a=b):=by
 by_cases e:a=b
 . subst e;simp
 . have h:¬(Sum.inr a:Key)=Sum.inr b:=fun q=>e (Sum.inr.inj q)
   rw [decide_eq_false h,decide_eq_false e]
theorem zjN(a:Int)(b:Str):decide ((Sum.inl a:Key)=Sum.inr b)=false:=decide_eq_false (fun q=>nomatch q)
theorem zh0(a:Str)(b:Int):decide ((Sum.inr a:Key)=Sum.inl b)=false:=decide_eq_false (fun q=>nomatch q)
def z8(prog:Program)(w:World):PySem.KeyKind prog w Key where
 is:=Zj
 hash:=keyH w
 inj:=fun v a b ha hb=>by
  rcases j5 ha with ⟨i,t,rfl,rfl⟩|⟨x,t,rfl,rfl⟩
  . rcases j5 hb with ⟨j,u,rfl,e⟩|⟨y,u,rfl,e⟩
    . injection e with e1 _;rw [e1]
    . exact nomatch e
  . rcases j5 hb with ⟨j,u,rfl,e⟩|⟨y,u,rfl,e⟩
    . exact nomatch e
    . injection e with e1 _;rw [e1]
 byValue:=fun k v h=>by
  rcases j5 h with ⟨i,t,rfl,rfl⟩|⟨x,t,rfl,rfl⟩<;>rfl
 pyHash:=fun hv h=>by
  rcases j5 hv with ⟨i,t,rfl,rfl⟩|⟨x,t,rfl,rfl⟩
  . exact wpAny_pyHash_int h
  . exact wpAny_pyHash_str h
 eqBool:=fun hu hv h=>by
  rcases j5 hu with ⟨i,t,rfl,rfl⟩|⟨x,t,rfl,rfl⟩
  . rcases j5 hv with ⟨j,u,rfl,rfl⟩|⟨y,u,rfl,rfl⟩
    . rw [zj9] at h;exact wpAny_eqBool_int h
    . rw [zjN] at h;exact SeqAt.EqAt.int_str i t y u _ _ _ _ h
  . rcases j5 hv with ⟨j,u,rfl,rfl⟩|⟨y,u,rfl,rfl⟩
    . rw [zh0] at h;exact SeqAt.EqAt.str_int x t j u _ _ _ _ h
    . rw [zj4] at h;exact wpAny_eqBool_str h
 «strs»:=fun k x t v h=>by
  rcases j5 h with ⟨i,u,rfl,e⟩|⟨y,u,rfl,e⟩
  . exact nomatch e
  . injection e with e1 _
    subst e1;cases v<;>rfl
theorem zkV(prog:Program)(w:World)(i:Int)(t:Tok):(z8 prog w).is (.inl i) (.int i t)=true:=zhA i t
theorem ziW(prog:Program)(w:World)(x:Str)(t:Tok):(z8 prog w).is (.inr x) (.str x t)=true:=zgd x t
inductive V where
 | non|bl (b:Bool)|int (i:Int)|str (x:Str)|byt (b:Array UInt8)|flt (b:UInt64)|ref (a:Addr)|ty (n:String)
 deriving DecidableEq
def RelV:V->Value->Prop
 | .non,u=>u=Value.none
 | .bl b,u=>u=Value.bool b
 | .int i,u=>∃ t,u=Value.int i t
 | .str x,u=>∃ t,u=Value.str x t
 | .byt b,u=>∃ t,u=Value.bytes b t
 | .flt b,u=>∃ t,u=Value.float b t
 | .ref a,u=>u=Value.ref a
 | .ty n,u=>u=Value.type n
abbrev Vals:List V->List Value->Prop:=Paired RelV
theorem Vals.length{xs:List V}{us:List Value}(r:Vals xs us):xs.length=us.length:=WaT r
theorem Vals.get:∀ {xs:List V} {us:List Value} {i:Nat} {x:V},Vals xs us->xs[i]?=some x->∃ u,us[i]?=some u/\RelV x u
 | _,_,_,_,.nil,e=>by simp at e
 | _,_,0,_,.cons r _,e=>by simp at e;subst e;exact⟨_,rfl,r⟩
 | _, _, i + 1, x, .cons _ t, e => by
  obtain⟨u,h1,h2⟩:=Vals.get (i:=i) (x:=x) t (by simpa using e)
  exact⟨u,by simpa using h1,h2⟩
theorem Vals.set{x:V}{u:Value}(r:RelV x u):∀ {xs:List V} {us:List Value} (i:Nat),Vals xs us->Vals (xs.set i x) (us.set i u)
 | _,_,_,.nil=>.nil
 | _,_,0,.cons _ t=>.cons r t
 | _,_,i+1,.cons q t=>.cons q (Vals.set r i t)
theorem Vals.append:∀ {xs ys:List V} {us ws:List Value},Vals xs us->Vals ys ws->Vals (xs++ys) (us++ws)
 | _,_,_,_,.nil,s=>s
 | _,_,_,_,.cons r t,s=>.cons r (Vals.append t s)
theorem Vals.take:∀ {xs:List V} {us:List Value} (n:Nat),Vals xs us->Vals (xs.take n) (us.take n)
 | _,_,0,_=>.nil
 | _,_,_+1,.nil=>.nil
 | _,_,n+1,.cons r t=>.cons r (Vals.take n t)
theorem Vals.drop:∀ {xs:List V} {us:List Value} (n:Nat),Vals xs us->Vals (xs.drop n) (us.drop n)
 | _,_,0,r=>r
 | _,_,_+1,.nil=>.nil
 | _,_,n+1,.cons _ t=>Vals.drop n t
def RelO:Option V->Option Value->Prop
 | some v,some u=>RelV v u
 | none,none=>True
 | _,_=>False
def KV{κ : Type}:List (κ×V)->List (κ×Value)->Prop:=Paired fun(p:κ×V) (q:κ×Value)=>p.1=q.1/\RelV p.2 q.2
def kV:Key->V
 | .inl i=>.int i
 | .inr x=>.str x
inductive HO where
 | lst (xs:List V)
 | tup (xs:List V)
 | dK (kvs:List (Key×V))|dT (kvs:List (List Key×V))
 | set (S:Int->Bool) (n:Nat)
 | ins (C dx:Addr) (fs:List (Str×V))
 | own (x:Addr)
 | xd (fs:List (Str×V))
 | met (f x:Addr)
 | rng (lo hi:Int)
 | frz (o:Obj) (u:HO)
 | tbl (ps:Array Value)
 | ext (φ : Heap->Prop)
abbrev Hp:=Addr->Option HO
def upd(H:Hp)(a:Addr)(o:HO):Hp:=fun b=>if b=a then some o else H b
theorem zf{H:Hp}{a:Addr}{o:HO}:upd H a o a=some o:=by unfold upd;rw [if_pos rfl]
theorem zd{H:Hp}{a b:Addr}{o:HO}(h:b≠a):upd H a o b=H b:=by unfold upd;rw [if_neg h]
theorem Zm{H:Hp}{a:Addr}{o u:HO}:upd (upd H a o) a u=upd H a u:=by
 funext b;unfold upd;split<;>rfl
theorem zjm{H:Hp}{a b:Addr}{o u:HO}(h:H a=some o)(h':H b=some u)(d:o≠u):a≠b:=by
 intro e;subst e;rw [h] at h';exact d (WaP h')
theorem zY{H:Hp}{a b:Addr}{o:HO}(h:H a=some o)(h':H b=none):a≠b:=by
 intro e;subst e;rw [h] at h';cases h'
section
variable(P:Program)(w:World)
def zJ(H:Hp)(h:Heap)(a:Addr):HO->Prop
 | .lst xs=>xs.length<=sizeLine/\∃ (its:List Value) (n:Nat),Vals xs its/\h.get? a=some { cls:=.type "list", data:=.seq its.toArray n }
 | .tup xs=>xs.length<=sizeLine/\∃ its:List Value,Vals xs its/\IsTup h a its.toArray
 | .dK kvs=>kvs.length<=sizeLine/\(a==sysModules)=false/\∃ vs,KV kvs vs/\h.DictOf (z8 P w) a vs
 | .dT kvs => kvs.length <= sizeLine /\ (a == sysModules) = false /\ ∃ xs : List (List Key × Addr × Value),
  Paired (fun(p:List Key×V) (q:List Key×Addr×Value)=>p.1=q.1/\H q.2.1=some (.tup (p.1.map kV))/\RelV p.2 q.2.2) kvs xs/\
  ∃ o es ep,h.get? a=some o/\o.ExactDict/\o.data=.dict es ep/\es.toList=xs.map (entryOfKey (tupleKind (z8 P w)))/\(xs.map (·.1)).Nodup
 | .set S n=>h.SetOf (intKind P w) a S n
 | .ins C dx fs => H dx = some (.own a) /\ fs.length <= 1000 /\ dx ≠ a /\ h.get? a = some (PySem.W.instObj C dx) /\
  ∃ mA,h.Ns1 dx mA/\(∀ f,RelO (fs.lookup f) (mA f))/\PySem.Within mA (fs.map (·.1))
 | .own _=>∃ o,h.get? a=some o
 | .xd fs=>∃ mA,h.Ns1 a mA/\∀ f,RelO (fs.lookup f) (mA f)
 | .rng lo hi=>∃ t u v,h.get? a=some { cls:=.type "range", data:=.fields #[.int lo t,.int hi u,.int 1 v] }
 | .frz o u=>h.get? a=some o/\zJ H h a u
 | .tbl ps=>h.get? a=some { cls:=.none,data:=.fields ps }
 | .met f x=>h.get? a=some (PySem.W.methodObj (.ref f) (.ref x))
 | .ext φ=>φ h/\(∃ o,h.get? a=some o)/\∀ h1 h2:Heap,φ h1->(∀ o,h1.get? a=some o->h2.get? a=some o)->φ h2
def HOk(H:Hp)(h:Heap):Prop:=∀ a o,H a=some o->zJ P w H h a o
end
section
variable{P:Program}{w:World}{H H':Hp}{h h':Heap}{a:Addr}{o:HO}
theorem zJ.lt(x:zJ P w H h a o):a<h.objs.size:=by
 cases o with
 | lst xs=>obtain⟨_,_,_,_,e⟩:=x;exact YaX e
 | tup xs=>obtain⟨_,_,_,p⟩:=x;exact p.lt
 | dK kvs=>obtain⟨_,_,_,_,o,_,_,e,_⟩:=x;exact YaX e
 | dT kvs=>obtain⟨_,_,_,_,o,_,_,e,_⟩:=x;exact YaX e
 | set S n=>obtain⟨o,_,_,_,e,_⟩:=x;exact YaX e
 | ins C dx fs=>obtain⟨_,_,_,e,_⟩:=x;exact YaX e
 | own y=>obtain⟨_,e⟩:=x;exact YaX e
 | xd fs=>obtain⟨_,⟨_,_,_,e,_⟩,_⟩:=x;exact YaX e
 | rng lo hi=>obtain⟨_,_,_,e⟩:=x;exact YaX e
 | frz ob u=>obtain⟨e,_⟩:=x;exact YaX e
 | tbl ps=>exact YaX (show h.get? a=some _ from x)
 | met f y=>exact YaX (show h.get? a=some _ from x)
 | ext φ=>obtain⟨_,⟨_,e⟩,_⟩:=x;exact YaX e
theorem Paired.mapP{α β : Type}{F G:α->β->Prop}:∀ {l₁ : List α} {l₂ : List β},Paired F l₁ l₂->(∀ a b,F a b->G a b)->Paired G l₁ l₂
 | _,_,.nil,_=>.nil
 | _,_,.cons r t,f=>.cons (f _ _ r) (Paired.mapP t f)
theorem zJ.stay(x:zJ P w H h a o)(k:∀ b u,(b=a\/H b=some (.own a))->h.get? b=some u->h'.get? b=some u)
 (ho:∀ b,H b=some (.own a)->H' b=some (.own a)) (ht:∀ b xs,H b=some (.tup xs)->H' b=some (.tup xs)):zJ P w H' h' a o:=by
 induction o with
 | lst xs=>obtain⟨z,its,n,r,e⟩:=x;exact⟨z,its,n,r,k _ _ (.inl rfl) e⟩
 | tup xs=>obtain⟨z,its,r,ob,e,c⟩:=x;exact⟨z,its,r,ob,k _ _ (.inl rfl) e,c⟩
 | dK kvs=>obtain⟨z,y,vs,r,ob,es,ep,e,c⟩:=x;exact⟨z,y,vs,r,ob,es,ep,k _ _ (.inl rfl) e,c⟩
 | dT kvs=>
  obtain⟨z,y,xs,r,ob,es,ep,e,c⟩:=x;exact⟨z,y,xs,Paired.mapP r fun p q z=>⟨z.1,ht _ _ z.2.1,z.2.2⟩,ob,es,ep,k _ _ (.inl rfl) e,c⟩
 | set S n=>obtain⟨ob,es,ep,t,e,c⟩:=x;exact⟨ob,es,ep,t,k _ _ (.inl rfl) e,c⟩
 | ins C dx fs=>
  obtain⟨d,z,ne,e,mA,⟨od,es,ep,e2,c⟩,r⟩:=x;exact⟨ho _ d,z,ne,k _ _ (.inl rfl) e,mA,⟨od,es,ep,k _ _ (.inr d) e2,c⟩,r⟩
 | own y=>obtain⟨ob,e⟩:=x;exact⟨ob,k _ _ (.inl rfl) e⟩
 | xd fs=>obtain⟨mA,⟨od,es,ep,e,c⟩,r⟩:=x;exact⟨mA,⟨od,es,ep,k _ _ (.inl rfl) e,c⟩,r⟩
 | rng lo hi=>obtain⟨t,u,v,e⟩:=x;exact⟨t,u,v,k _ _ (.inl rfl) e⟩
 | frz ob u ih=>obtain⟨e,q⟩:=x;exact⟨k _ _ (.inl rfl) e,ih q⟩
 | tbl ps=>
  have e:h.get? a=some { cls:=.none,data:=.fields ps }:=x;show h'.get? a=some { cls:=.none,data:=.fields ps };exact k a _ (.inl rfl) e
 | met f y=>
  have e:h.get? a=some (PySem.W.methodObj (.ref f) (.ref y)):=x;show h'.get? a=some (PySem.W.methodObj (.ref f) (.ref y));exact k a _ (.inl rfl) e
 | ext φ=>obtain⟨p,⟨o,e⟩,st⟩:=x;exact⟨st _ _ p fun o q=>k _ _ (.inl rfl) q,⟨o,k _ _ (.inl rfl) e⟩,st⟩
theorem HOk.lt(x:HOk P w H h)(e:H a=some o):a<h.objs.size:=(x a o e).lt
theorem HOk.fresh(x:HOk P w H h)(e:h.objs.size<=a):H a=none:=by
 cases q:H a with
 | none=>rfl
 | some u=>exact absurd (YaU (x.lt q) e) (Yap _)
theorem HOk.kept(x:HOk P w H h)(k:∀ b u,h.get? b=some u->h'.get? b=some u):HOk P w H h':=fun a o e=>
 (x a o e).stay (fun b u _ q=>k b u q) (fun _ q=>q) fun _ _ q=>q
theorem HOk.laid(x:HOk P w H h)(k:∀ b u,h.get? b=some u->h'.get? b=some u)(hp:h.objs.size<=a)(new:zJ P w (upd H a o) h' a o):HOk P w (upd H a o) h':=fun b u e=>by
 have hn:=x.fresh hp
 by_cases hb:b=a
 . subst hb;rw [zf] at e;cases e;exact new
 . rw [zd hb] at e
   exact(x b u e).stay (fun c v _ q=>k c v q) (fun c q=>by rw [zd (zY q hn)];exact q) fun c xs q=>by rw [zd (zY q hn)];exact q
end
def Rd(H:Hp)(a:Addr)(u:HO):Prop:=H a=some u\/∃ o,H a=some (.frz o u)
theorem Rd.ok{P:Program}{w:World}{H:Hp}{h:Heap}{a:Addr}{u:HO}(r:Rd H a u)(x:HOk P w H h):zJ P w H h a u:=by
 rcases r with r|⟨o,r⟩
 . exact x a u r
 . obtain⟨_,q⟩:=x a _ r
   exact q
def Mut:Option HO->Prop
 | some (.lst _)=>True
 | some (.dK _)=>True
 | some (.dT _)=>True
 | some (.set _ _)=>True
 | some (.ins _ _ _)=>True
 | some (.ext _)=>True
 | _=>False
section
variable{P:Program}{w:World}{H:Hp}{h h':Heap}{x e:Addr}{o':HO}
theorem HOk.write(ok:HOk P w H h)(mu:Mut (H x))(he:e=x\/H e=some (.own x))(k:∀ b u,b≠e->h.get? b=some u->h'.get? b=some u)(heo:∃ u,h'.get? e=some u)
 (new:zJ P w (upd H x o') h' x o'):HOk P w (upd H x o') h':=fun b u q=>by
 have nown:∀ c y,H c=some (.own y)->c≠x:=fun c y r z=>by subst z;rw [r] at mu;exact mu
 have ntup:∀ c xs,H c=some (.tup xs)->c≠x:=fun c xs r z=>by subst z;rw [r] at mu;exact mu
 by_cases hb:b=x
 . subst hb;rw [zf] at q;cases q;exact new
 . rw [zd hb] at q
   by_cases hbe:b=e
   . have q':H b=some (.own x):=by
      rcases he with z|z
      . exact absurd (hbe.trans z) hb
      . rw [hbe];exact z
     rw [q] at q';cases q';obtain⟨v,hv⟩:=heo;exact⟨v,by rw [hbe];exact hv⟩
   . refine(ok b u q).stay (fun c v hc r=>k c v ?_ r) (fun c r=>by rw [zd (nown c b r)];exact r) fun c xs r=>by rw [zd (ntup c xs r)];exact r
     rcases hc with rfl|hc
     . exact hbe
     . rintro rfl
       rcases he with z|z
       . exact nown c b hc z
       . rw [hc] at z;cases z;exact hb rfl
end
structure Un(fs ex:List Addr)(H H':Hp)(h h':Heap):Prop where
 keep:∀ b o,h.get? b=some o->H b=none->b∉fs->b∉ex->h'.get? b=some o
 slot:∀ b o,h.get? b=some o->H b=none->b∈fs->b∉ex->∃ sl,h'.get? b=some { o with slots:=sl }
 free:∀ b o,h.get? b=some o->H b=none->b∉ex->H' b=none
 there:∀ b o,h.get? b=some o->b∉ex->∃ o',h'.get? b=some o'
 tups:∀ b xs,H b=some (.tup xs)->H' b=some (.tup xs)
 frzs:∀ b o u,H b=some (.frz o u)->H' b=some (.frz o u)
 tbls:∀ b ps,H b=some (.tbl ps)->∃ more,H' b=some (.tbl (ps++more))
section
variable{fs fs' ex ex':List Addr}{H H1 H2:Hp}{h h1 h2 h':Heap}{a x e:Addr}{o:HO}
theorem Un.any(u:Un fs ex H H1 h h1){b:Addr}{ob:Obj}(q:h.get? b=some ob)(n:H b=none)(hx:b∉ex):∃ sl,h1.get? b=some { ob with slots:=sl }:=by
 by_cases hb:b∈fs
 . exact u.slot b ob q n hb hx
 . exact⟨ob.slots,u.keep b ob q n hb hx⟩
theorem Un.kept(k:∀ b u,h.get? b=some u->h'.get? b=some u):Un fs ex H H h h':=
 ⟨fun b ob q _ _ _=>k b ob q,fun b ob q _ _ _=>⟨ob.slots,k b ob q⟩,fun _ _ _ n _=>n,fun b ob q _=>⟨ob,k b ob q⟩,fun _ _ q=>q,fun _ _ _ q=>q,fun _ ps q=>⟨#[],by rw [q];simp⟩⟩
theorem Un.refl:Un fs ex H H h h:=Un.kept fun _ _ q=>q
theorem Un.laid(k:∀ b u,h.get? b=some u->h'.get? b=some u)(hp:h.objs.size<=a)(hn:H a=none):Un fs ex H (upd H a o) h h' where
 keep:=fun b u q _ _ _=>k b u q
 slot:=fun b u q _ _ _=>⟨u.slots,k b u q⟩
 free:=fun b u q n _=>by rw [zd (Yaf (YaU (YaX q) hp))];exact n
 there:=fun b u q _=>⟨u,k b u q⟩
 tups:=fun b xs q=>by rw [zd (zY q hn)];exact q
 frzs:=fun b u xs q=>by rw [zd (zY q hn)];exact q
 tbls:=fun b ps q=>⟨#[],by rw [zd (zY q hn),q];simp⟩
theorem Un.write(mu:Mut (H x))(he:e=x\/H e=some (.own x))(k:∀ b u,b≠e->h.get? b=some u->h'.get? b=some u)(heo:∃ u,h'.get? e=some u):Un fs ex H (upd H x o) h h':=by
 have hx:∀ b,H b=none->b≠x:=fun b n z=>by subst z;rw [n] at mu;exact mu
 have hb:∀ b,H b=none->b≠e:=fun b n z=>by
  subst z
  rcases he with r|r
  . exact hx b n r
  . rw [n] at r;cases r
 have hm:∀ b u,H b=some u->¬Mut (some u)->b≠x:=fun b u q nm z=>by subst z;rw [q] at mu;exact nm mu
 refine⟨fun b u q n _ _=>k b u (hb b n) q,fun b u q n _ _=>⟨u.slots,k b u (hb b n) q⟩,fun b u q n _=>by rw [zd (hx b n)];exact n,fun b u q _=>?_,
  fun b xs q=>by rw [zd (hm b _ q fun z=>z)];exact q,fun b u xs q=>by rw [zd (hm b _ q fun z=>z)];exact q,fun b ps q=>⟨#[],by rw [zd (hm b _ q fun z=>z),q];simp⟩⟩
 by_cases hbe:b=e
 . subst hbe;exact heo
 . exact⟨u,k b u hbe q⟩
end
def trk(h:Heap)(H:Hp):List Addr:=(List.range h.objs.size).filter fun a=>(H a).isSome
def hidT(h:Heap)(H:Hp):Heap:=PySem.W.hideAll h (trk h H)
theorem zgB(h:Heap)(H:Hp):(hidT h H).objs.size=h.objs.size:=PySem.W.hideAll_size _ _
theorem zhj{h:Heap}{H:Hp}{b:Addr}{o:Obj}(e:h.get? b=some o)(n:H b=none):(hidT h H).get? b=some o:=
 PySem.W.hideAll_get _ e fun hm=>by
  have q:(H b).isSome=true:=(List.mem_filter.mp hm).2;rw [n] at q;simp at q
theorem zjc{h:Heap}{H:Hp}{b:Addr}{o:Obj}(e:(hidT h H).get? b=some o):h.get? b=some o/\H b=none:=by
 have e':h.get? b=some o:=PySem.W.of_hideAll (trk h H) e;refine⟨e',?_⟩;cases q:H b with
 | none=>rfl
 | some x=>
  have hm:b∈trk h H:=List.mem_filter.mpr ⟨Yba.mpr (YaX e'),by simp [q]⟩
  have z:(hidT h H).get? b=none:=PySem.W.hideAll_none (trk h H) hm;rw [z] at e;cases e
def zgA(g h:Heap)(L:Addr):List #[18]:=(List.range h.objs.size).filterMap fun a=>if a=L\/(g.get? a).isSome=true then none else(h.get? a).map fun o=>(a,o)
def rest(g h:Heap)(L d:Addr):List #[18]:=(zgA g h L).filter fun p=>decide (p.1≠d)
structure Mod(K:Ybf)(mg:#[15])(base:Heap):Prop where
 kin:K.In base
 glob:base.Ns mainGlobals mg
 blt:∃ mb,base.Ns builtinsNs mb/\∀ x:Str,x≠"__name__"->mb x=bootBuiltins x
 nolimit:base.NoLimit
structure Cx where
 prog:Program
 w:World
 K:Ybf
 mg:Str->Option Value
 base:Heap
 A:Around
 N:List Str
 s₀ : Shared
 H₀ : Hp
 env:Env
 outer:List Env
 stack:List Env
 ex:List Addr
 fn:Str->Bool
 calm:Bool
 pn:List #[18]
 xe:Value->Shared->Prop
def frs(l:List Env):List Addr:=l.filterMap (·.frame)
abbrev Cx.fs(X:Cx):List Addr:=frs X.outer
def Vis(sc:Scope)(x:Str):Prop:=sc.names.lookup x=some .local\/sc.names.lookup x=some .cell\/sc.names.lookup x=some .free
def Loc(sc:Scope)(x:Str):Prop:=sc.names.lookup x=some .local\/sc.names.lookup x=some .cell
def Look(env:Env)(h:Heap)(m:#[15])(x:Str)(u:Value):Prop:=
 (env.kindOf x=some .local/\m x=some u)\/((env.kindOf x=some .cell\/env.kindOf x=some .free)/\∃ c,env.cells.lookup x=some c/\h.IsCell c (some u))
structure Cx.Ok(X:Cx):Prop where
 mod:Mod X.K X.mg X.base
 kind:X.env.scope.kind=.function
 glob:X.env.globals=mainGlobals
 blt:X.env.builtins=builtinsNs
 above:X.s₀.heap.objs.size<=X.env.locals
 inj:∀ x y c,X.env.cells.lookup x=some c->X.env.cells.lookup y=some c->x=y
 has:∀ x,(X.env.kindOf x=some .cell\/X.env.kindOf x=some .free)->∃ c,X.env.cells.lookup x=some c
 cab:∀ x c,X.fn x=true->X.env.cells.lookup x=some c->X.s₀.heap.objs.size<=c
 hd:X.calm=true->X.A.handled=none
 frames:X.A.frames=some X.stack
 stk:X.stack=X.outer\/(X.stack=X.env::X.outer/\X.env.frame=some X.env.locals)
 exf:∀ b∈X.ex,b≠X.env.locals/\∀ x c,X.env.cells.lookup x=some c->c≠b
 bs:∀ b o,X.base.get? b=some o->X.s₀.heap.get? b=some o/\X.H₀ b=none
 bsz:X.base.objs.size<=X.s₀.heap.objs.size
 noex:∀ b o,X.base.get? b=some o->b∉X.ex
 exfs:∀ b∈X.ex,b∉X.fs
 funs:X.s₀.heap.FunFrames X.base X.outer
 frf:∀ b∈X.fs,X.H₀ b=none
structure Inv(X:Cx)(pins:List #[18])(σ : List (Option V))(H:Hp)(s:Shared):Prop where
 ok:X.Ok
 os:s.os=X.s₀.os
 bare:AllBare s.gens
 base:Un X.fs X.ex X.H₀ H X.s₀.heap s.heap
 loc:∃ m,s.heap.Ns X.env.locals m/\∀ (i:Nat) (x:Str) (v:V),X.N[i]?=some x->σ[i]?=some (some v)->Vis X.env.scope x->∃ u,RelV v u/\Look X.env s.heap m x u
 cell:∀ x c,X.env.cells.lookup x=some c->∃ v,s.heap.IsCell c v
 free:H X.env.locals=none
 freeC:∀ x c,X.env.cells.lookup x=some c->H c=none
 pin:∀ p∈X.pn++pins,s.heap.get? p.1=some p.2/\H p.1=none/\p.1≠X.env.locals/\p.1∉X.fs/\∀ v,p.2.data≠.cell v
 hok:HOk X.prog X.w H s.heap
 len:σ.length=X.N.length
section
variable{X:Cx}{pins:List #[18]}{σ : List (Option V)}{H H':Hp}{s:Shared}{h':Heap}
theorem Cx.Ok.nofr(ok:X.Ok){b:Addr}{o:Obj}(e:X.base.get? b=some o):b∉X.fs:=fun hb=>by
 have:=(ok.funs.mem hb).1;rw [e] at this;cases this
theorem Inv.bs(I:#[11]):∀ b o,X.base.get? b=some o->s.heap.get? b=some o/\H b=none:=fun b o e=>
 ⟨I.base.keep b o (I.ok.bs b o e).1 (I.ok.bs b o e).2 (I.ok.nofr e) (I.ok.noex b o e),I.base.free b o (I.ok.bs b o e).1 (I.ok.bs b o e).2 (I.ok.noex b o e)⟩
theorem Inv.bk(I:#[11]):∀ b o,X.base.get? b=some o->s.heap.get? b=some o:=fun b o e=>(I.bs b o e).1
theorem Inv.mod(I:#[11]):Mod X.K X.mg X.base:=I.ok.mod
theorem Inv.kIn(I:#[11]):X.K.In s.heap:=I.ok.mod.kin.keeps I.bk
theorem Inv.nolimit(I:#[11]):s.heap.NoLimit:=I.ok.mod.nolimit.keeps I.bk
theorem Inv.lt(I:#[11]):X.env.locals<s.heap.objs.size:=let ⟨_,hn,_⟩:=I.loc;hn.lt
theorem Inv.sz(I:#[11]):X.s₀.heap.objs.size<=s.heap.objs.size:=Ya5 I.ok.above (Wa2 I.lt)
theorem Inv.nofs(I:#[11]){a:Addr}(h:s.heap.objs.size<=a):a∉X.fs:=fun hb=>by
 obtain⟨_,o,ho,_⟩:=I.ok.funs.mem hb;exact absurd (YaU (YaX ho) (Ya5 I.sz h)) (Yap _)
theorem Inv.cne(I:#[11]):∀ x c,X.env.cells.lookup x=some c->c≠X.env.locals:=fun x c e z=>by
 obtain⟨v,o,ho,hd⟩:=I.cell x c e;obtain⟨m,⟨o',es,ep,ho',hd',_⟩,_⟩:=I.loc;rw [z,ho'] at ho;cases ho;rw [hd'] at hd;cases hd
theorem Inv.funs(I:#[11]):s.heap.FunFrames X.base X.outer:=by
 have all:∀ (l:List Env),(∀ b∈frs l,b∈X.fs)->X.s₀.heap.FunFrames X.base l->s.heap.FunFrames X.base l:=by
  intro l
  induction l with
  | nil=>intro _ _;trivial
  | cons env r ih=>
   intro hs hl;obtain⟨hk,⟨L,o,hf,hn,ho,hd⟩,hr⟩:=hl;have hL:L∈X.fs:=hs L (by unfold frs;rw [List.filterMap_cons,hf];exact YaV)
   obtain⟨sl,e⟩:=I.base.slot L o ho (I.ok.frf L hL) hL fun z=>I.ok.exfs L z hL
   exact⟨hk,⟨L,_,hf,hn,e,hd⟩,ih (fun b hb=>hs b (by unfold frs;rw [List.filterMap_cons,hf];exact YaT _ hb)) hr⟩
 exact all X.outer (fun _ hb=>hb) I.ok.funs
theorem Inv.stack(I:#[11]):s.heap.FunFrames X.base X.stack:=by
 rcases I.ok.stk with e|⟨e,hf⟩
 . rw [e];exact I.funs
 . rw [e]
   obtain⟨m,hn,_⟩:=I.loc;refine .cons (by rw [I.ok.kind];decide) hf hn ?_ I.funs
   exact Heap.get?_none_of_le (Ya5 I.ok.bsz I.ok.above)
theorem Inv.stkSub(I:#[11]):∀ b∈frs X.stack,b∈X.env.locals::X.fs:=fun b hb=>by
 rcases I.ok.stk with e|⟨e,hf⟩
 . rw [e] at hb;exact YaT _ hb
 . rw [e] at hb
   unfold frs at hb;rw [List.filterMap_cons,hf] at hb;exact hb
theorem Inv.stkFree(I:#[11]):∀ b∈frs X.stack,H b=none:=fun b hb=>by
 rcases WaU.mp (I.stkSub b hb) with e|hb
 . rw [e];exact I.free
 . obtain⟨_,o,ho,_⟩:=I.ok.funs.mem hb
   exact I.base.free b o ho (I.ok.frf b hb) fun z=>I.ok.exfs b z hb
theorem Inv.step{g':Array GenState}{t':Nat}{d':Drawn}{ch:List Addr}(I:#[11])
 (hch:∀ b∈ch,(b∈X.ex\/X.s₀.heap.objs.size<=b)/\b≠X.env.locals/\(∀ x c,X.env.cells.lookup x=some c->c≠b)/\∀ p∈X.pn++pins,p.1≠b)
 (keep:∀ b o,b≠X.env.locals->b∉X.fs->b∉ch->s.heap.get? b=some o->H b=none->h'.get? b=some o)
 (slot:∀ b o,b≠X.env.locals->b∈X.fs->b∉ch->s.heap.get? b=some o->H b=none->∃ sl,h'.get? b=some { o with slots:=sl }) (free:∀ b o,b∉ch->s.heap.get? b=some o->H b=none->H' b=none)
 (there:∀ b o,b∉ch->s.heap.get? b=some o->∃ o',h'.get? b=some o')
 (tups:∀ b xs,H b=some (.tup xs)->H' b=some (.tup xs)) (frzs:∀ b o u,H b=some (.frz o u)->H' b=some (.frz o u)) (tbls:∀ b ps,H b=some (.tbl ps)->∃ more,H' b=some (.tbl (ps++more)))
 (ns:∀ m,s.heap.Ns X.env.locals m->h'.Ns X.env.locals m) (hok:HOk X.prog X.w H' h') (hg:AllBare g') :
 Inv X pins σ H' { s with heap:=h',gens:=g',drawn:=d',toks:=t' }:=by
 have neL:∀ b o,X.s₀.heap.get? b=some o->b≠X.env.locals:=fun b o e=>Yaf (YaU (YaX e) I.ok.above)
 have neC:∀ b o,X.s₀.heap.get? b=some o->b∉X.ex->b∉ch:=fun b o e hx hb=>by
  rcases(hch b hb).1 with z|z
  . exact hx z
  . exact absurd (YaU (YaX e) z) (Yap _)
 have cellK:∀ x c,X.env.cells.lookup x=some c->∀ v,s.heap.IsCell c v->h'.IsCell c v:=fun x c e v ⟨o,ho,hd⟩=>by
  have nch:c∉ch:=fun z=>(hch c z).2.2.1 x c e rfl
  by_cases hc:c∈X.fs
  . obtain⟨sl,q⟩:=slot c o (I.cne x c e) hc nch ho (I.freeC x c e)
    exact⟨_,q,hd⟩
  . exact⟨o,keep c o (I.cne x c e) hc nch ho (I.freeC x c e),hd⟩
 refine⟨I.ok,I.os,hg,⟨fun b o e n hb hx=>?_,fun b o e n hb hx=>?_,fun b o e n hx=>?_,fun b o e hx=>?_,fun b xs e=>tups b xs (I.base.tups b xs e),fun b o xs e=>frzs b o xs (I.base.frzs b o xs e),fun b ps e=>?_⟩,?_,fun x c e=>?_,?_,fun x c e=>?_,fun p hp=>?_,hok,I.len⟩
 . exact keep b o (neL b o e) hb (neC b o e hx) (I.base.keep b o e n hb hx) (I.base.free b o e n hx)
 . obtain⟨sl,e1⟩:=I.base.slot b o e n hb hx
   obtain⟨sl',e2⟩:=slot b _ (neL b o e) hb (neC b o e hx) e1 (I.base.free b o e n hx);exact⟨sl',e2⟩
 . obtain⟨o',e1⟩:=I.base.there b o e hx
   exact free b o' (neC b o e hx) e1 (I.base.free b o e n hx)
 . obtain⟨o',e1⟩:=I.base.there b o e hx
   exact there b o' (neC b o e hx) e1
 . obtain⟨m1,e1⟩:=I.base.tbls b ps e
   obtain⟨m2,e2⟩:=tbls b _ e1;exact⟨m1++m2,by rw [e2,Array.append_assoc]⟩
 . obtain⟨m,hn,hl⟩:=I.loc
   refine⟨m,ns m hn,fun i x v e1 e2 e3=>?_⟩
   obtain⟨u,r,l⟩:=hl i x v e1 e2 e3;refine⟨u,r,?_⟩
   rcases l with l|⟨k,c,e,z⟩
   . exact .inl l
   . exact .inr ⟨k,c,e,cellK x c e _ z⟩
 . obtain⟨v,z⟩:=I.cell x c e
   exact⟨v,cellK x c e v z⟩
 . obtain⟨m,⟨o,_,_,ho,_⟩,_⟩:=I.loc
   exact free _ o (fun z=>(hch _ z).2.1 rfl) ho I.free
 . obtain⟨v,o,ho,hd⟩:=I.cell x c e
   exact free c o (fun z=>(hch c z).2.2.1 x c e rfl) ho (I.freeC x c e)
 . obtain⟨e,n,ne,nf,d⟩:=I.pin p hp
   have nch:p.1∉ch:=fun z=>(hch p.1 z).2.2.2 p hp rfl
   exact⟨keep p.1 p.2 ne nf nch e n,free p.1 p.2 nch e n,ne,nf,d⟩
theorem Inv.un{t':Nat}(I:#[11])(u:Un X.fs [] H H' s.heap h')(hok:HOk X.prog X.w H' h'):Inv X pins σ H' { s with heap:=h',toks:=t' }:=by
 obtain⟨m,⟨o,es,ep,ho,r⟩,_⟩:=id I.loc;obtain⟨sl,hL⟩:=u.any ho I.free (by simp)
 exact I.step (g':=s.gens) (d':=s.drawn) (ch:=[]) (fun _ z=>nomatch z) (fun b o _ hb _ e n=>u.keep b o e n hb (by simp)) (fun b o _ hb _ e n=>u.slot b o e n hb (by simp)) (fun b o _ e n=>u.free b o e n (by simp)) (fun b o _ e=>u.there b o e (by simp)) u.tups u.frzs u.tbls (fun m' hm=>by
  obtain⟨o',es',ep',ho',r'⟩:=hm;rw [ho] at ho';cases ho';exact⟨_,es',ep',hL,r'⟩) hok I.bare
theorem Inv.call{g':Array GenState}{t':Nat}{d':Drawn}{ch:List Addr}(I:#[11])(u:Un (frs X.stack) ch H H' s.heap h')(hok:HOk X.prog X.w H' h')(hg:AllBare g')
 (hch:∀ b∈ch,(b∈X.ex\/X.s₀.heap.objs.size<=b)/\b≠X.env.locals/\(∀ x c,X.env.cells.lookup x=some c->c≠b)/\∀ p∈X.pn++pins,p.1≠b) :
 Inv X pins σ H' { s with heap:=h',gens:=g',drawn:=d',toks:=t' }:=by
 obtain⟨m,⟨o,es,ep,ho,r⟩,_⟩:=id I.loc;obtain⟨sl,hL⟩:=u.any ho I.free fun z=>(hch _ z).2.1 rfl
 exact I.step (ch:=ch) hch (fun b o hL hb hc e n=>u.keep b o e n (fun z=>(WaU.mp (I.stkSub b z)).elim hL hb) hc) (fun b o _ _ hc e n=>u.any e n hc) (fun b o hc e n=>u.free b o e n hc) (fun b o hc e=>u.there b o e hc) u.tups u.frzs u.tbls (fun m' hm=>by
  obtain⟨o',es',ep',ho',r'⟩:=hm;rw [ho] at ho';cases ho';exact⟨_,es',ep',hL,r'⟩) hok hg
theorem Inv.turned{t':Nat}{it:Addr}(I:#[11])(k:∀ b o,b≠it->s.heap.get? b=some o->h'.get? b=some o)(hn:H it=none)(hL:it≠X.env.locals)
 (h1:it∈X.ex\/X.s₀.heap.objs.size<=it) (h2:∀ x c,X.env.cells.lookup x=some c->c≠it) (h3:∀ p∈X.pn++pins,p.1≠it):Inv X pins σ H { s with heap:=h',toks:=t' }:=by
 have nit:∀ b u,H b=some u->b≠it:=fun b u e z=>by rw [z,hn] at e;cases e
 refine I.step (g':=s.gens) (d':=s.drawn) (ch:=[it]) (fun b hb=>?_) (fun b o _ _ hc e _=>k b o (fun z=>hc (by simp [z])) e) (fun b o _ _ hc e _=>⟨o.slots,k b o (fun z=>hc (by simp [z])) e⟩) (fun _ _ _ _ n=>n)
  (fun b o hc e=>⟨o,k b o (fun z=>hc (by simp [z])) e⟩) (fun _ _ e=>e) (fun _ _ _ e=>e) (fun b ps e=>⟨#[],by rw [e];simp⟩) (fun m hm=>?_) (fun b u e=>?_) I.bare
 . have e:b=it:=by simpa using hb
   subst e;exact⟨h1,hL,h2,h3⟩
 . obtain⟨o,es,ep,ho,r⟩:=hm
   exact⟨o,es,ep,k _ o (Wbb hL) ho,r⟩
 . refine(I.hok b u e).stay (fun c v hc q=>k c v ?_ q) (fun _ q=>q) fun _ _ q=>q
   rcases hc with z|z
   . rw [z];exact nit b u e
   . exact nit c _ z
theorem Inv.tok(I:#[11])(t:Nat):Inv X pins σ H { s with toks:=t }:=I.un (h':=s.heap) (t':=t) Un.refl I.hok
theorem Inv.kept{t':Nat}(I:#[11])(k:∀ b u,s.heap.get? b=some u->h'.get? b=some u):Inv X pins σ H { s with heap:=h',toks:=t' }:=I.un (Un.kept k) (I.hok.kept k)
theorem Inv.laid{a:Addr}{o:HO}{t':Nat}(I:#[11])(k:∀ b u,s.heap.get? b=some u->h'.get? b=some u)(hp:s.heap.objs.size<=a)(new:zJ X.prog X.w (upd H a o) h' a o) :
 Inv X pins σ (upd H a o) { s with heap:=h',toks:=t' }:=I.un (Un.laid k hp (I.hok.fresh hp)) (I.hok.laid k hp new)
theorem Inv.write{x e:Addr}{o:HO}{t':Nat}(I:#[11])(mu:Mut (H x))(he:e=x\/H e=some (.own x))(k:∀ b u,b≠e->s.heap.get? b=some u->h'.get? b=some u)(heo:∃ u,h'.get? e=some u)
 (new:zJ X.prog X.w (upd H x o) h' x o):Inv X pins σ (upd H x o) { s with heap:=h',toks:=t' }:=I.un (Un.write mu he k heo) (I.hok.write mu he k heo new)
theorem Inv.pins_of{pins':List #[18]}(I:#[11])(h:∀ p∈pins',s.heap.get? p.1=some p.2/\H p.1=none/\p.1≠X.env.locals/\p.1∉X.fs/\∀ v,p.2.data≠.cell v):Inv X pins' σ H s:=
 ⟨I.ok,I.os,I.bare,I.base,I.loc,I.cell,I.free,I.freeC,fun p hp=>(Ya3.mp hp).elim (fun z=>I.pin p (Yai _ z)) (h p),I.hok,I.len⟩
theorem zbZ{N:List Str}(hN:N.Nodup){i j:Nat}{x:Str}(a:N[i]?=some x)(b:N[j]?=some x):i=j:=by
 obtain⟨h1,e1⟩:=Ya8.mp a;obtain⟨h2,e2⟩:=Ya8.mp b;exact(WaG hN).mp (e1.trans e2.symm)
theorem zdR{M:Model}{A:Around}{E:#[14]}{i:Nat}{x:Str}{v:V}{u:Value}{Q:Unit->Shared->Prop}(I:#[11])(hN:X.N.Nodup)(hi:X.N[i]?=some x)(hx:Loc X.env.scope x)(r:RelV v u)
 (h:∀ s',Inv X pins (σ.set i (some v)) H s'->(∃ a,Heap.SameBut a s.heap s'.heap/\(a=X.env.locals\/X.env.cells.lookup x=some a))->Q () s') (hf:#[19]:=by first|exact .inl rfl|exact .inr rfl|assumption):wpAny M A (storeName X.env x u) Q E s:=by
 obtain⟨m,hn,hl⟩:=id I.loc;have hcls:(X.env.scope.kind==.class||(X.env.scope.kind==.module&&X.env.locals != X.env.globals))=false:=by rw [I.ok.kind];rfl
 have hiσ : i < σ.length:=by rw [I.len];exact(Ya8.mp hi).1
 have cne:=I.cne;have tracked:∀ {a:Addr} {h':Heap},(∃ o,s.heap.get? a=some o/\H a=none)->Heap.SameBut a s.heap h'->HOk X.prog X.w H h':=fun {a h'} ha hs b ob e=>by
  obtain⟨_,_,hfree⟩:=ha;refine(I.hok b ob e).stay (fun c w' hc q=>(hs.2 c ?_).trans q) (fun _ q=>q) fun _ _ q=>q
  rintro rfl
  rcases hc with rfl|hc
  . rw [hfree] at e;cases e
  . rw [hfree] at hc;cases hc
 rcases hx with hk|hk
 . refine wpAny_storeName_local hk hn (fun h' hn' hs=>?_) hcls
   obtain⟨oL,_,_,hoL,_⟩:=id hn;refine h _ ⟨I.ok,I.os,I.bare,⟨fun b o e n hb hx=>?_,fun b o e n hb hx=>?_,I.base.free,fun b o e hx=>?_,I.base.tups,I.base.frzs,I.base.tbls⟩,⟨_,hn',fun j y v' e1 e2 e3=>?_⟩,fun y c e=>?_,I.free,I.freeC,fun p hp=>?_,tracked ⟨oL,hoL,I.free⟩ hs,by simpa using I.len⟩ ⟨_,hs,.inl rfl⟩
   . exact(hs.2 b (Yaf (YaU (YaX e) I.ok.above))).trans (I.base.keep b o e n hb hx)
   . obtain⟨sl,e1⟩:=I.base.slot b o e n hb hx
     exact⟨sl,(hs.2 b (Yaf (YaU (YaX e) I.ok.above))).trans e1⟩
   . obtain⟨o',e1⟩:=I.base.there b o e hx
     exact⟨o',(hs.2 b (Yaf (YaU (YaX e) I.ok.above))).trans e1⟩
   . by_cases hj:j=i
     . subst hj
       rw [hi] at e1;cases e1;rw [Yas hiσ] at e2;cases e2;exact⟨u,r,.inl ⟨hk,by simp⟩⟩
     . rw [Yac (Wbb hj)] at e2
       obtain⟨u',r',q⟩:=hl j y v' e1 e2 e3;refine⟨u',r',?_⟩
       rcases q with ⟨k,e⟩|⟨k,c,e,z⟩
       . refine .inl ⟨k,?_⟩
         have:y≠x:=fun e=>hj (zbZ hN e1 (e ▸ hi))
         simp [this,e]
       . exact .inr ⟨k,c,e,z.sameBut hs (cne y c e)⟩
   . obtain⟨w',z⟩:=I.cell y c e
     exact⟨w',z.sameBut hs (cne y c e)⟩
   . obtain⟨e,n,ne,nf,d⟩:=I.pin p hp
     exact⟨(hs.2 p.1 ne).trans e,n,ne,nf,d⟩
 . have hfn:X.fn x=true:=by
    rcases hf with z|z
    . exact z
    . rw [z] at hk;cases hk
   obtain⟨c,hc⟩:=I.ok.has x (.inl hk);obtain⟨w',z⟩:=I.cell x c hc;refine wpAny_storeName_cell I.ok.kind hk hc z (fun h' hc' hs=>?_)
   obtain⟨oc,hoc,hocd⟩:=id z;refine h { s with heap:=h' } ⟨I.ok,I.os,I.bare,⟨fun b o e n hb hx=>?_,fun b o e n hb hx=>?_,I.base.free,fun b o e hx=>?_,I.base.tups,I.base.frzs,I.base.tbls⟩,⟨m,hn.sameBut hs (Wbb (cne x c hc)),fun j y v' e1 e2 e3=>?_⟩,fun y c' e=>?_,I.free,I.freeC,fun p hp=>?_,tracked ⟨oc,hoc,I.freeC x c hc⟩ hs,by simpa using I.len⟩ ⟨c,hs,.inr hc⟩
   . exact(hs.2 b (Yaf (YaU (YaX e) (I.ok.cab x c hfn hc)))).trans (I.base.keep b o e n hb hx)
   . obtain⟨sl,e1⟩:=I.base.slot b o e n hb hx
     exact⟨sl,(hs.2 b (Yaf (YaU (YaX e) (I.ok.cab x c hfn hc)))).trans e1⟩
   . obtain⟨o',e1⟩:=I.base.there b o e hx
     exact⟨o',(hs.2 b (Yaf (YaU (YaX e) (I.ok.cab x c hfn hc)))).trans e1⟩
   . by_cases hj:j=i
     . subst hj
       rw [hi] at e1;cases e1;rw [Yas hiσ] at e2;cases e2;exact⟨u,r,.inr ⟨.inl hk,c,hc,hc'⟩⟩
     . rw [Yac (Wbb hj)] at e2
       obtain⟨u',r',q⟩:=hl j y v' e1 e2 e3;refine⟨u',r',?_⟩
       rcases q with q|⟨k,c',e,z'⟩
       . exact .inl q
       . refine .inr ⟨k,c',e,z'.sameBut hs ?_⟩
         rintro rfl
         exact hj (zbZ hN e1 (I.ok.inj _ _ _ e hc ▸ hi))
   . by_cases hcc:c'=c
     . subst hcc;exact⟨_,hc'⟩
     . obtain⟨w2,z2⟩:=I.cell y c' e
       exact⟨w2,z2.sameBut hs hcc⟩
   . obtain⟨e,n,ne,nf,d⟩:=I.pin p hp
     refine⟨(hs.2 p.1 ?_).trans e,n,ne,nf,d⟩
     intro q;rw [q,hoc] at e;have q':oc=p.2:=WaP e;exact d w' (by rw [<-q'];exact hocd)
theorem JW{M:Model}{A:Around}{E:#[14]}{i:Nat}{x:Str}{v:V}{u:Value}{Q:Unit->Shared->Prop}(I:#[11])(hN:X.N.Nodup)(hi:X.N[i]?=some x)(hx:Loc X.env.scope x)(r:RelV v u)
 (h:∀ s',Inv X pins (σ.set i (some v)) H s'->Q () s') (hf:#[19]:=by first|exact .inl rfl|exact .inr rfl|assumption):wpAny M A (storeName X.env x u) Q E s:=
 zdR I hN hi hx r (fun s' I' _=>h s' I') hf
theorem Inv.call'{s':Shared}{ch:List Addr}(I:#[11])(ho:s'.os=s.os)(u:Un (frs X.stack) ch H H' s.heap s'.heap)(hok:HOk X.prog X.w H' s'.heap)(hg:AllBare s'.gens)
 (hch:∀ b∈ch,(b∈X.ex\/X.s₀.heap.objs.size<=b)/\b≠X.env.locals/\(∀ x c,X.env.cells.lookup x=some c->c≠b)/\∀ p∈X.pn++pins,p.1≠b):Inv X pins σ H' s':=by
 obtain⟨h',g',d',t',o'⟩:=s';have e:o'=s.os:=ho;subst e;exact I.call (g':=g') (t':=t') (d':=d') u hok hg hch
end
abbrev XK:=Value->Option Addr->Hp->Prop
abbrev St:=List (Option V)
abbrev VK:=V->Hp->Prop
abbrev TE:=St->Hp->VK->Prop
abbrev TT:=St->Hp->(Bool->Hp->Prop)->Prop
abbrev TA:=St->Hp->(List V->Hp->Prop)->Prop
structure Ends where
 nx:St->Hp->Prop
 rt:VK
 bk:St->Hp->Prop:=fun _ _=>False
 ct:St->Hp->Prop:=fun _ _=>False
abbrev TS:=Ends->St->Hp->Prop
def EP(X:Cx)(pins:List #[18])(σ : St)(Q:VK)(u:Value)(s':Shared):Prop:=∃ v H',Inv X pins σ H' s'/\RelV v u/\Q v H'
def TP(X:Cx)(pins:List #[18])(σ : St)(Q:Bool->Hp->Prop)(b:Bool)(s':Shared):Prop:=∃ H',Inv X pins σ H' s'/\Q b H'
def AP(X:Cx)(pins:List #[18])(σ : St)(Q:List V->Hp->Prop)(us:List Value)(s':Shared):Prop:=∃ vs H',Inv X pins σ H' s'/\Vals vs us/\Q vs H'
def SP(X:Cx)(pins:List #[18])(D:Ends)(f:Flow)(s':Shared):Prop:=
 match f with
 | .next=>∃ σ' H',Inv X pins σ' H' s'/\D.nx σ' H'
 | .brk=>∃ σ' H',Inv X pins σ' H' s'/\D.bk σ' H'
 | .cont=>∃ σ' H',Inv X pins σ' H' s'/\D.ct σ' H'
 | .ret u=>∃ v σ' H',Inv X pins σ' H' s'/\RelV v u/\D.rt v H'
def PE(X:Cx)(e:Expr)(t:TE):Prop:=
 ∀ (pins:List #[18]) (s:Shared) (σ : St) (H:Hp) (Q:VK),Inv X pins σ H s->t σ H Q->wpAny #[12] X.A (eval e X.env) (EP X pins σ Q) X.xe s
def PT(X:Cx)(e:Expr)(t:TT):Prop:=
 ∀ (pins:List #[18]) (s:Shared) (σ : St) (H:Hp) (Q:Bool->Hp->Prop),Inv X pins σ H s->t σ H Q->wpAny #[12] X.A (isTrue e X.env (eval e X.env)) (TP X pins σ Q) X.xe s
def PW(X:Cx)(e:Expr)(t:TT):Prop:=
 ∀ (whole:Sem Value) (pins:List #[18]) (s:Shared) (σ : St) (H:Hp) (Q:Bool->Hp->Prop),Inv X pins σ H s->t σ H Q->wpAny #[12] X.A (isTrue e X.env whole) (TP X pins σ Q) X.xe s
theorem PW.pt{X:Cx}{e:Expr}{t:TT}(h:PW X e t):PT X e t:=h _
def PA(X:Cx)(es:List Expr)(t:TA):Prop:=
 ∀ (pos:Pos) (pins:List #[18]) (s:Shared) (σ : St) (H:Hp) (Q:List V->Hp->Prop),Inv X pins σ H s->t σ H Q->wpAny #[12] X.A (spliced (backTo pos (starEach es X.env))) (AP X pins σ Q) X.xe s
def PS(X:Cx)(st:Stmt)(t:TS):Prop:=
 ∀ (pins:List #[18]) (s:Shared) (σ : St) (H:Hp) (D:Ends),Inv X pins σ H s->t D σ H->wpAny #[12] X.A (exec st X.env) (SP X pins D) X.xe s
def PSs(X:Cx)(st:List Stmt)(t:TS):Prop:=
 ∀ (pins:List #[18]) (s:Shared) (σ : St) (H:Hp) (D:Ends),Inv X pins σ H s->t D σ H->wpAny #[12] X.A (execs st X.env) (SP X pins D) X.xe s
theorem thn{α : Type}{t:Sem α}{Q Q':α->Shared->Prop}{M:Model}{A:Around}{E:#[14]}{s:Shared}(h:wpAny M A t Q E s)(hQ:∀ a s,Q a s->Q' a s):wpAny M A t Q' E s:=wpAny_mono h hQ fun _ _ x=>x
section
variable{X:Cx}
def tVar(i:Nat):TE:=fun σ H Q=>∃ v,σ[i]?=some (some v)/\Q v H
def tC(v:V):TE:=fun _ H Q=>Q v H
theorem jw{i:Nat}{x:Str}{pos:Pos}(hN:X.N[i]?=some x)(hv:Vis X.env.scope x)(hd:#[23]:=by decide)(hcd:#[20]:=by decide):PE X (.Name x pos) (tVar i):=by
 intro pins s σ H Q I h;obtain⟨v,e,h⟩:=h;obtain⟨m,hn,hl⟩:=I.loc;obtain⟨u,r,l⟩:=hl i x v hN e hv;have fin:EP X pins σ Q u s:=⟨v,H,I,r,h⟩
 rcases l with ⟨hk,hm⟩|⟨hk,c,hc,hcell⟩
 . exact wpAny_Name (wpAny_loadName_local I.ok.kind hk hn hm fin) hd
 . rcases hk with hk|hk
   . exact wpAny_Name (wpAny_loadName_cell I.ok.kind hk hc hcell fin) hd
   . exact wpAny_Name (wpAny_loadName_free I.ok.kind hk hc hcell fin hcd) hd
theorem jO{i j pos}:PE X (.Constant (.int i) j pos) (tC (.int i)):=fun _ _ _ H _ I h=>wpAny_Constant_int ⟨.int i,H,I.tok _,⟨_,rfl⟩,h⟩
theorem zeX{b j pos}:PE X (.Constant (.bool b) j pos) (tC (.bl b)):=fun _ _ _ H _ I h=>Constant_bool ⟨.bl b,H,I,rfl,h⟩
theorem ziH{j pos}:PE X (.Constant .none j pos) (tC .non):=fun _ _ _ H _ I h=>Constant_none ⟨.non,H,I,rfl,h⟩
theorem zfy{x j pos}:PE X (.Constant (.str x) j pos) (tC (.str x)):=fun _ _ _ H _ I h=>Calls.Constant_str ⟨.str x,H,I.tok _,⟨_,rfl⟩,h⟩
def Gl(X:Cx)(x:Str):Prop:=X.env.kindOf x=some .globalImplicit
theorem Zf{E:#[14]}{pins:List #[18]}{s:Shared}{σ : St}{H:Hp}{x:Str}{u:Value}{pos:Pos}{Q:#[14]}(I:#[11])(hg:Gl X x)(hm:X.mg x=some u)(h:Q u s)
 (hd:#[23]:=by decide):wpAny #[12] X.A (eval (.Name x pos) X.env) Q E s:=
 Calls.Name_function_global I.ok.kind hg (Calls.loadGlobal_global (by rw [I.ok.glob];exact I.mod.glob.keeps I.bk) hm h) hd
theorem JA{E:#[14]}{pins:List #[18]}{s:Shared}{σ : St}{H:Hp}{x:Str}{u:Value}{pos:Pos}{Q:#[14]}(I:#[11])(hg:Gl X x)(hm:X.mg x=none)(hv:bootBuiltins x=some u)(h:Q u s)
 (hn:x≠"__name__":=by decide) (hd:#[23]:=by decide):wpAny #[12] X.A (eval (.Name x pos) X.env) Q E s:=by
 obtain⟨mb,h1,h2⟩:=I.mod.blt;exact Calls.Name_function_global I.ok.kind hg (Calls.loadGlobal_builtin (by rw [I.ok.glob];exact I.mod.glob.keeps I.bk) hm (by rw [I.ok.blt];exact h1.keeps I.bk) ((h2 x hn).trans hv) h) hd
theorem zbQ{x:Str}{v:V}{u:Value}{pos:Pos}(hg:Gl X x)(hm:X.mg x=some u)(r:RelV v u)(hd:#[23]:=by decide):PE X (.Name x pos) (tC v):=
 fun _ _ _ H _ I h=>Zf I hg hm ⟨v,H,I,r,h⟩ hd
theorem zg9{x:Str}{v:V}{u:Value}{pos:Pos}(hg:Gl X x)(hm:X.mg x=none)(hv:bootBuiltins x=some u)(r:RelV v u)(hn:x≠"__name__":=by decide)(hd:#[23]:=by decide):PE X (.Name x pos) (tC v):=
 fun _ _ _ H _ I h=>JA I hg hm hv ⟨v,H,I,r,h⟩ hn hd
variable{a b:Expr}{ta tb:TE}{pos:Pos}
def PC(X:Cx)(op:CmpOp)(a b:Expr)(t:TE):Prop:=
 ∀ (pins:List #[18]) (s:Shared) (σ : St) (H:Hp) (Q:VK),Inv X pins σ H s->t σ H Q->
  wpAny #[12] X.A (eval a X.env) (fun v s₁=>wpAny #[12] X.A (eval b X.env) (fun u s₂=>wpAny #[12] X.A (compareOp op v u) (EP X pins σ Q) X.xe s₂) X.xe s₁) X.xe s
theorem nobehind(b:Expr){op:CmpOp}(h:op≠.In)(h2:op≠.NotIn):behindInMarks op b=false:=by
 have e1:(op==CmpOp.In)=false:=by cases op<;>first|rfl|exact absurd rfl h
 have e2:(op==CmpOp.NotIn)=false:=by cases op<;>first|rfl|exact absurd rfl h2
 cases b<;>simp [behindInMarks,e1,e2]
def tIsN(ta:TE):TE:=fun σ H Q=>ta σ H fun x H1=>Q (.bl (decide (x=.non))) H1
def zgU(ta:TE):TE:=fun σ H Q=>ta σ H fun x H1=>Q (.bl (!decide (x=.non))) H1
theorem RelV.none_iff{x:V}{v:Value}(r:RelV x v):(v==Value.none)=decide (x=.non):=by
 cases x with
 | non=>cases r;rfl
 | bl _=>cases r;rfl
 | int _=>obtain⟨t,rfl⟩:=r;rfl
 | str _=>obtain⟨t,rfl⟩:=r;rfl
 | byt _=>obtain⟨t,rfl⟩:=r;rfl
 | flt _=>obtain⟨t,rfl⟩:=r;rfl
 | ref _=>cases r;rfl
 | ty _=>cases r;rfl
theorem zgr{j pos'}(ha:PE X a ta):PC X .Is a (.Constant .none j pos') (tIsN ta):=by
 intro pins s σ H Q I h;refine thn (ha pins s σ H _ I h) fun v s1 ⟨x,H1,I1,r1,q1⟩=>?_
 exact Constant_none (is_none_gen ⟨.bl _,H1,I1,by rw [r1.none_iff];rfl,q1⟩)
theorem zlu{j pos'}(ha:PE X a ta):PC X .IsNot a (.Constant .none j pos') (zgU ta):=by
 intro pins s σ H Q I h;refine thn (ha pins s σ H _ I h) fun v s1 ⟨x,H1,I1,r1,q1⟩=>?_
 exact Constant_none (isnot_none_gen ⟨.bl _,H1,I1,by rw [r1.none_iff];rfl,q1⟩)
def tB(t:TE):TT:=fun σ H Q=>t σ H fun x H1=>∃ c,x=.bl c/\Q c H1
theorem ziv{op:CmpOp}{t:TE}(h:PC X op a b t)(h1:behindInMarks op b=false:=by first|exact nobehind _ #[1] (by decide)|rfl):PE X (.Compare a [op] [b] pos) t:=fun pins s σ H Q I hw=>wpAny_Compare1 (h pins s σ H Q I hw) h1
theorem Zk{op:CmpOp}{t:TE}(h:PC X op a b t)(h1:behindInMarks op b=false:=by first|exact nobehind _ #[1] (by decide)|rfl):PT X (.Compare a [op] [b] pos) (tB t):=by
 intro pins s σ H Q I hw;refine wpAny_isTrue_Compare1 (thn (h pins s σ H _ I hw) fun v s1 h1=>thn h1 fun u s2 h2=>thn h2 fun c s3 ⟨x,H1,I1,r1,q1⟩=>?_) h1
 obtain⟨d,rfl,q⟩:=q1;cases r1;exact wpAny_truthy_bool ⟨H1,I1,q⟩
theorem zjD{e:Expr}{t:TE}(h:PE X e t)(he:∀ whole,isTrue e X.env whole=(do let v <-whole;standAt e.pos;holding [v] (truthy v)):=by intro _;rfl):PT X e (tB t):=by
 intro pins s σ H Q I hw;refine isTrue_plain (thn (h pins s σ H _ I hw) fun v s1 ⟨x,H1,I1,r1,q1⟩=>?_) (he _)
 obtain⟨d,rfl,q⟩:=q1;cases r1;exact wpAny_truthy_bool ⟨H1,I1,q⟩
variable{tA tB':TT}{rest:List Expr}
def tAnd(t u:TT):TT:=fun σ H Q=>t σ H fun c H1=>if c=true then u σ H1 Q else Q false H1
def tOr(t u:TT):TT:=fun σ H Q=>t σ H fun c H1=>if c=true then Q true H1 else u σ H1 Q
def tNot(t:TT):TT:=fun σ H Q=>t σ H fun c H1=>Q (!c) H1
theorem zlq(ha:PT X a tA):PW X (.BoolOp .And [a] pos) tA:=by
 intro wh pins s σ H Q I h;refine isTrue_and (thn (ha pins s σ H Q I h) fun c s1 e=>?_)
 cases c with
 | true=>exact isTrue_and_nil e
 | false=>exact e
theorem zd4(ha:PT X a tA):PW X (.BoolOp .Or [a] pos) tA:=by
 intro wh pins s σ H Q I h;refine isTrue_or (thn (ha pins s σ H Q I h) fun c s1 e=>?_)
 cases c with
 | false=>exact isTrue_or_nil e
 | true=>exact e
theorem zlk(ha:PT X a tA)(hb:PW X (.BoolOp .And (b::rest) pos) tB'):PW X (.BoolOp .And (a::b::rest) pos) (tAnd tA tB'):=by
 intro wh pins s σ H Q I h;refine isTrue_and (thn (ha pins s σ H _ I h) fun c s1 ⟨H1,I1,q1⟩=>?_)
 cases c with
 | true=>exact hb wh pins s1 σ H1 Q I1 q1
 | false=>exact⟨H1,I1,q1⟩
theorem zd5(ha:PT X a tA)(hb:PW X (.BoolOp .Or (b::rest) pos) tB'):PW X (.BoolOp .Or (a::b::rest) pos) (tOr tA tB'):=by
 intro wh pins s σ H Q I h;refine isTrue_or (thn (ha pins s σ H _ I h) fun c s1 ⟨H1,I1,q1⟩=>?_)
 cases c with
 | true=>exact⟨H1,I1,q1⟩
 | false=>exact hb wh pins s1 σ H1 Q I1 q1
theorem zlo(ha:PT X a tA):PT X (.UnaryOp .Not a pos) (tNot tA):=by
 intro pins s σ H Q I h;exact isTrue_not (ha pins s σ H (fun c H1=>Q (!c) H1) I h)
def tIf(t:TT)(ta tb:TE):TE:=fun σ H Q=>t σ H fun c H1=>if c=true then ta σ H1 Q else tb σ H1 Q
theorem zfi{c:Expr}(hc:PT X c tA)(ha:PE X a ta)(hb:PE X b tb):PE X (.IfExp c a b pos) (tIf tA ta tb):=by
 intro pins s σ H Q I h;refine wpAny_IfExp (thn (hc pins s σ H _ I h) fun d s1 ⟨H1,I1,q1⟩=>?_)
 cases d with
 | true=>exact ha pins s1 σ H1 Q I1 q1
 | false=>exact hb pins s1 σ H1 Q I1 q1
end
def SqL(K:Ybf)(H:Hp)(a:Addr)(xs:List V):Prop:=
 Rd H a (.lst xs)\/
  ∃ (o:Obj) (its:Array Value) (n:Nat),K.lookup a=some o/\o.cls=.type "list"/\o.dict=none/\o.data=.seq its n/\its.size<=sizeLine/\Vals xs its.toList
def SqT(K:Ybf)(H:Hp)(a:Addr)(xs:List V):Prop:=
 Rd H a (.tup xs)\/
  ∃ (o:Obj) (its:Array Value) (n:Nat),K.lookup a=some o/\o.cls=.type "tuple"/\o.data=.seq its n/\its.size<=sizeLine/\Vals xs its.toList
def absV:Value->Option V
 | .none=>some .non
 | .bool b=>some (.bl b)
 | .int i _=>some (.int i)
 | .str x _=>some (.str x)
 | .bytes b _=>some (.byt b)
 | .float b _=>some (.flt b)
 | .ref a=>some (.ref a)
 | .type n=>some (.ty n)
 | _=>none
theorem RelV.abs{x:V}{u:Value}(r:RelV x u):absV u=some x:=by
 cases x with
 | non=>cases r;rfl
 | bl _=>cases r;rfl
 | int _=>obtain⟨t,rfl⟩:=r;rfl
 | str _=>obtain⟨t,rfl⟩:=r;rfl
 | byt _=>obtain⟨t,rfl⟩:=r;rfl
 | flt _=>obtain⟨t,rfl⟩:=r;rfl
 | ref _=>cases r;rfl
 | ty _=>cases r;rfl
theorem RelV.inj{x y:V}{u:Value}(r:RelV x u)(q:RelV y u):x=y:=WaP (r.abs.symm.trans q.abs)
theorem Vals.inj:∀ {xs ys:List V} {us:List Value},Vals xs us->Vals ys us->xs=ys
 | _,_,_,.nil,.nil=>rfl
 | _,_,_,.cons r t,.cons r' t'=>by rw [r.inj r',Vals.inj t t']
section
variable{X:Cx}{pins:List #[18]}{σ : St}{H:Hp}{s:Shared}{a:Addr}{xs ys:List V}
theorem SqL.of{K:Ybf}(h:H a=some (.lst xs)):SqL K H a xs:=.inl (.inl h)
theorem SqT.of{K:Ybf}(h:H a=some (.tup xs)):SqT K H a xs:=.inl (.inl h)
theorem Inv.list(I:#[11])(h:SqL X.K H a xs):∃ its:List Value,Vals xs its/\PlainL s.heap a its.toArray/\xs.length<=sizeLine:=by
 rcases h with h|⟨o,its,n,hk,hc,hd,hs,hz,r⟩
 . obtain⟨z,its,n,r,e⟩:=h.ok I.hok
   exact⟨its,r,⟨_,n,e,rfl,rfl,rfl⟩,z⟩
 . refine⟨its.toList,r,⟨o,n,I.kIn a o hk,hc,hd,by simpa using hs⟩,?_⟩
   have e:=r.length;simp only [Array.length_toList] at e
   omega
theorem Inv.tuple(I:#[11])(h:SqT X.K H a xs):∃ its:List Value,Vals xs its/\IsTup s.heap a its.toArray/\xs.length<=sizeLine:=by
 rcases h with h|⟨o,its,n,hk,hc,hs,hz,r⟩
 . obtain⟨z,its,r,p⟩:=h.ok I.hok
   exact⟨its,r,p,z⟩
 . refine⟨its.toList,r,⟨o,I.kIn a o hk,hc,n,by simpa using hs⟩,?_⟩
   have e:=r.length;simp only [Array.length_toList] at e
   omega
theorem Inv.list_inj(I:#[11])(h:SqL X.K H a xs)(h':SqL X.K H a ys):xs=ys:=by
 obtain⟨its,r,⟨o,n,e,_,_,d⟩,_⟩:=I.list h;obtain⟨its',r',⟨o',n',e',_,_,d'⟩,_⟩:=I.list h';rw [e] at e';cases e';rw [d] at d'
 injection d' with d1 _
 have:its=its':=by simpa using congrArg Array.toList d1
 subst this;exact r.inj r'
theorem Inv.tuple_inj(I:#[11])(h:SqT X.K H a xs)(h':SqT X.K H a ys):xs=ys:=by
 obtain⟨its,r,⟨o,e,_,n,d⟩,_⟩:=I.tuple h;obtain⟨its',r',⟨o',e',_,n',d'⟩,_⟩:=I.tuple h';rw [e] at e';cases e';rw [d] at d'
 injection d' with d1 _
 have:its=its':=by simpa using congrArg Array.toList d1
 subst this;exact r.inj r'
end
abbrev Cx.wish(X:Cx)(E:#[14]):Cx:={ X with xe:=E }
abbrev Cx.nox(X:Cx):Cx:=X.wish fun _ _=>False
theorem Cx.Ok.wish{X:Cx}(ok:X.Ok)(E:#[14]):(X.wish E).Ok:=
 ⟨ok.mod,ok.kind,ok.glob,ok.blt,ok.above,ok.inj,ok.has,ok.cab,ok.hd,ok.frames,ok.stk,ok.exf,ok.bs,ok.bsz,ok.noex,ok.exfs,ok.funs,ok.frf⟩
theorem Cx.Ok.unwish{X:Cx}{E:#[14]}(ok:(X.wish E).Ok):X.Ok:=
 ⟨ok.mod,ok.kind,ok.glob,ok.blt,ok.above,ok.inj,ok.has,ok.cab,ok.hd,ok.frames,ok.stk,ok.exf,ok.bs,ok.bsz,ok.noex,ok.exfs,ok.funs,ok.frf⟩
section
variable{X:Cx}{pins:List #[18]}{σ : St}{H:Hp}{s:Shared}{E:#[14]}
theorem Inv.wish(I:#[11])(E:#[14]):Inv (X.wish E) pins σ H s:=⟨I.ok.wish E,I.os,I.bare,I.base,I.loc,I.cell,I.free,I.freeC,I.pin,I.hok,I.len⟩
theorem Inv.unwish(I:Inv (X.wish E) pins σ H s):Inv X pins σ H s:=⟨I.ok.unwish,I.os,I.bare,I.base,I.loc,I.cell,I.free,I.freeC,I.pin,I.hok,I.len⟩
end
section
variable{X:Cx}{st:Stmt}{rest:List Stmt}{t u:TS}{e:Expr}{te:TE}{pos:Pos}
def tNext:TS:=fun D σ H=>D.nx σ H
def tSeq(t u:TS):TS:=fun D σ H=>t { D with nx:=u D } σ H
theorem zfu:PSs X [] tNext:=fun _ _ σ H _ I h=>wpAny_execs_nil ⟨σ,H,I,h⟩
theorem zP(h1:PS X st t)(h2:PSs X rest u):PSs X (st::rest) (tSeq t u):=by
 intro pins s σ H D I h;refine wpAny_execs_cons (thn (h1 pins s σ H { D with nx:=u D } I h) fun f s1 q=>?_)
 cases f with
 | next=>
  obtain⟨σ',H',I',q⟩:=q;exact h2 pins s1 σ' H' D I' q
 | ret v=>exact q
 | brk=>exact q
 | cont=>exact q
theorem jf(h1:PS X st t):PSs X [st] t:=by
 intro pins s σ H D I h;refine wpAny_execs_cons (thn (h1 pins s σ H D I h) fun f s1 q=>?_)
 cases f with
 | next=>exact wpAny_execs_nil q
 | ret v=>exact q
 | brk=>exact q
 | cont=>exact q
theorem Inv.quiet{pins:List #[18]}{σ : St}{H:Hp}{s:Shared}(I:#[11]):interactive X.env=false:=by simp [interactive,I.ok.kind]
def ziY(te:TE):TS:=fun D σ H=>te σ H fun _ H1=>D.nx σ H1
theorem jT(he:PE X e te)(hs:swapsWith e none pos.line X.env=pure false:=by rfl):PS X (.Expr e pos) (ziY te):=by
 intro pins s σ H D I h;exact wpAny_Expr_any (thn (he pins s σ H _ I h) fun v s1 ⟨x,H1,I1,r1,q1⟩=>⟨σ,H1,I1,q1⟩) I.quiet hs
def tRet(te:TE):TS:=fun D σ H=>te σ H D.rt
theorem JU(he:PE X e te):PS X (.Return (some e) pos) (tRet te):=by
 intro pins s σ H D I h;exact wpAny_Return_some (thn (he pins s σ H _ I h) fun v s1 ⟨x,H1,I1,r1,q1⟩=>⟨x,σ,H1,I1,r1,q1⟩)
def tIfS(c:TT)(t u:TS):TS:=fun D σ H=>c σ H fun b H1=>if b=true then t D σ H1 else u D σ H1
theorem zdS{c:Expr}{a b:List Stmt}{tc:TT}(hc:PT X c tc)(ha:PSs X a t)(hb:PSs X b u):PS X (.If c a b pos) (tIfS tc t u):=by
 intro pins s σ H D I h;refine wpAny_If (thn (hc pins s σ H _ I h) fun d s1 ⟨H1,I1,q1⟩=>?_)
 cases d with
 | true=>exact ha pins s1 σ H1 D I1 q1
 | false=>exact hb pins s1 σ H1 D I1 q1
end
abbrev TG:=V->St->Hp->(St->Hp->Prop)->Prop
abbrev TGs:=List V->St->Hp->(St->Hp->Prop)->Prop
def PG(X:Cx)(target:Expr)(t:TG):Prop:=
 ∀ (pins:List #[18]) (s:Shared) (σ : St) (H:Hp) (v:V) (u:Value) (Q:St->Hp->Prop),Inv X pins σ H s->RelV v u->t v σ H Q->
  wpAny #[12] X.A (assign target X.env u) (fun _ s'=>∃ σ' H',Inv X pins σ' H' s'/\Q σ' H') X.xe s
def PGs(X:Cx)(ts:List Expr)(t:TGs):Prop:=
 ∀ (pins:List #[18]) (s:Shared) (σ : St) (H:Hp) (vs:List V) (us:List Value) (Q:St->Hp->Prop),Inv X pins σ H s->Vals vs us->t vs σ H Q->
  wpAny #[12] X.A (assignInOrder ((assignEach ts X.env).map (·.2)) us) (fun _ s'=>∃ σ' H',Inv X pins σ' H' s'/\Q σ' H') X.xe s
abbrev TSet:=V->V->V->Hp->(Hp->Prop)->Prop
def PSet(X:Cx)(t:TSet):Prop:=
 ∀ (pins:List #[18]) (s:Shared) (σ : St) (H:Hp) (o i v:V) (ov iv u:Value) (Q:Hp->Prop),Inv X pins σ H s->RelV o ov->RelV i iv->RelV v u->t o i v H Q->
  wpAny #[12] X.A (setItem ov iv u) (fun _ s'=>∃ H',Inv X pins σ H' s'/\Q H') X.xe s
abbrev TIp:=V->V->Hp->VK->Prop
def PIp(X:Cx)(op:Operator)(t:TIp):Prop:=
 ∀ (pins:List #[18]) (s:Shared) (σ : St) (H:Hp) (x y:V) (v u:Value) (Q:VK),Inv X pins σ H s->RelV x v->RelV y u->t x y H Q->
  wpAny #[12] X.A (inplaceOp op v u) (EP X pins σ Q) X.xe s
section
variable{X:Cx}{pos:Pos}
def zbv(i:Nat):TG:=fun v σ H Q=>Q (σ.set i (some v)) H
theorem jp{i:Nat}{x:Str}(hN:X.N.Nodup)(hi:X.N[i]?=some x)(hx:Loc X.env.scope x)(hf:#[19]:=by first|exact .inl rfl|exact .inr rfl|assumption):PG X (.Name x pos) (zbv i):=by
 intro pins s σ H v u Q I r h;exact wpAny_assign_Name (JW I hN hi hx r (fun s' I'=>⟨_,H,I',h⟩) hf)
def gNil:TGs:=fun vs σ H Q=>vs=[]/\Q σ H
def zkW(t:TG)(u:TGs):TGs:=fun vs σ H Q=>∃ v r,vs=v::r/\t v σ H fun σ' H'=>u r σ' H' Q
theorem zbU:PGs X [] gNil:=by
 intro pins s σ H vs us Q I r h;obtain⟨e,h⟩:=h;subst e;cases r;exact assignInOrder_nil ⟨σ,H,I,h⟩
theorem JG{e:Expr}{es:List Expr}{t:TG}{u:TGs}(h1:PG X e t)(h2:PGs X es u)
 (hs:(assignEach (e::es) X.env).map (·.2)=assign e X.env::(assignEach es X.env).map (·.2):=by rfl):PGs X (e::es) (zkW t u):=by
 intro pins s σ H vs us Q I r h;obtain⟨v,vr,e1,h⟩:=h;subst e1;cases r with
 | cons r rr=>
  rw [hs];refine assignInOrder_cons (thn (h1 pins s σ H _ _ _ I r h) fun _ s1 ⟨σ1,H1,I1,q1⟩=>?_)
  exact h2 pins s1 σ1 H1 _ _ Q I1 rr q1
def gTup(K:Ybf)(n:Nat)(t:TGs):TG:=fun v σ H Q=>∃ a xs,v=.ref a/\SqT K H a xs/\xs.length=n/\t xs σ H Q
theorem zbK{es:List Expr}{k:Nat}{t:TGs}{n:Nat}(hc:X.calm=true)(h:PGs X es t)
 (hn:(assignEach es X.env).length=n:=by rfl) (hst:(assignEach es X.env).findIdx? (·.1)=none:=by rfl):PG X (.Tuple es k pos) (gTup X.K n t):=by
 intro pins s σ H v u Q I r hw;obtain⟨a,xs,e1,hq,hl,hw⟩:=hw;subst e1;cases r;obtain⟨its,rv,ht,hz⟩:=I.tuple hq;refine assign_Tuple_tuple (I.ok.hd hc) ht (by simp [hn,<-hl,rv.length]) hst fun h' hx=>?_
 have I1:Inv X pins σ H { s with heap:=h' }:=I.kept (t':=s.toks) fun b o e=>hx b o (Yaf (YaX e)) e
 exact h pins _ σ H xs _ Q I1 (by simpa using rv) hw
def gSub(to ti:TE)(t:TSet):TG:=fun v σ H Q=>to σ H fun o H1=>ti σ H1 fun i H2=>t o i v H2 fun H3=>Q σ H3
theorem zfe{o i:Expr}{to ti:TE}{t:TSet}(ho:PE X o to)(hi:PE X i ti)(hs:PSet X t)
 (ha:∀ v,assign (.Subscript o i pos) X.env v=(do
  let ov <-holding [v] (eval o X.env)
  let iv <-holding [v,ov] (eval i X.env)
  standAt pos
  holding [v,ov,iv] (setItem ov iv v)
  release [v,ov,iv] []):=by intro _;rfl):PG X (.Subscript o i pos) (gSub to ti t):=by
 intro pins s σ H v u Q I r h;rw [ha];refine wpAny_bind (wpAny_holding (thn (ho pins s σ H _ I h) fun ov s1 ⟨x,H1,I1,r1,q1⟩=>?_))
 refine wpAny_bind (wpAny_holding (thn (hi pins s1 σ H1 _ I1 q1) fun iv s2 ⟨y,H2,I2,r2,q2⟩=>?_))
 refine wpAny_bind (wpAny_standAt (wpAny_bind (wpAny_holding (thn (hs pins s2 σ H2 x y v ov iv u _ I2 r1 r2 r q2) fun _ s3 ⟨H3,I3,q3⟩=>?_))))
 exact wpAny_release ⟨σ,H3,I3,q3⟩
def tAsg(te:TE)(g:TG):TS:=fun D σ H=>te σ H fun x H1=>g x σ H1 D.nx
theorem zcZ{tg e:Expr}{te:TE}{g:TG}(he:PE X e te)(hg:PG X tg g)(hs:swapsWithSole [tg] e pos.line X.env=pure false:=by rfl)(hw:swappedStores [tg] e X.env=pure none:=by rfl)
 (h1:(assignEach [tg] X.env).map (·.2)=[assign tg X.env]:=by rfl):PS X (.Assign [tg] e pos) (tAsg te g):=by
 intro pins s σ H D I h;refine wpAny_Assign_stores (thn (he pins s σ H _ I h) fun v s1 ⟨x,H1,I1,r1,q1⟩=>?_) hs hw
 rw [h1];exact thn (hg pins s1 σ H1 x v _ I1 r1 q1) fun _ s2 q=>q
theorem ji{i:Nat}{x:Str}{e:Expr}{te:TE}{pos':Pos}(hN:X.N.Nodup)(hi:X.N[i]?=some x)(hx:Loc X.env.scope x)(he:PE X e te)(hs:swapsWith e (some (.Name x pos')) pos.line X.env=pure false:=by rfl)(hf:#[19]:=by first|exact .inl rfl|exact .inr rfl|assumption) :
 PS X (.Assign [.Name x pos'] e pos) (tAsg te (zbv i)):=by
 intro pins s σ H D I h;refine wpAny_Assign_Name (thn (he pins s σ H _ I h) fun v s1 ⟨y,H1,I1,r1,q1⟩=>?_) hs
 exact JW I1 hN hi hx r1 (fun s2 I2=>⟨_,H1,I2,q1⟩) hf
def tPar(i j:Nat)(ta:TA):TS:=fun D σ H=>ta σ H fun vs H1=>∃ v w,vs=[v,w]/\D.nx ((σ.set i (some v)).set j (some w)) H1
theorem zg1{i j:Nat}{x y:Str}{a b:Expr}{ta:TA}{px py pt:Pos}{kt k2 pt2}(hc:X.calm=true)(hN:X.N.Nodup)(hi:X.N[i]?=some x)(hj:X.N[j]?=some y)(hij:i≠j)
 (hx:X.env.scope.names.lookup x=some .local) (hy:X.env.scope.names.lookup y=some .local) (ha:PA X [a,b] ta)
 (hw:swappedStores [.Tuple [.Name x px,.Name y py] kt pt] (.Tuple [a,b] k2 pt2) X.env=pure (some [x,y]))
 (hs:swapsWithSole [.Tuple [.Name x px,.Name y py] kt pt] (.Tuple [a,b] k2 pt2) pos.line X.env=pure false:=by rfl) :
 PS X (.Assign [.Tuple [.Name x px,.Name y py] kt pt] (.Tuple [a,b] k2 pt2) pos) (tPar i j ta):=by
 intro pins s σ H D I h;rw [exec_Assign_arm];refine wpAny_bind (wpAny_standAt ?_);rw [hs];refine wpAny_bind (wpAny_pure ?_);rw [if_neg #[1]]
 refine wpAny_bind (Tuple_ (thn (ha _ pins s σ H _ I h) fun us s1 ⟨vs,H1,I1,r1,q1⟩=>?_))
 obtain⟨v,w,e1,q1⟩:=q1;subst e1;obtain⟨u1,u2,rfl,rv,rw'⟩:∃ u1 u2,us=[u1,u2]/\RelV v u1/\RelV w u2:=by
  cases r1 with
  | cons p q=>
   cases q with
   | cons p' q'=>
    cases q';exact⟨_,_,rfl,p,p'⟩
 refine wpAny_newObj_type ?_ (by show 2<=sizeLine;decide)
 have I2:Inv X pins σ H1 { s1 with heap:=s1.heap.push { cls:=.type "tuple", data:=.seq [u1,u2].toArray } }:=I1.kept (t':=s1.toks) fun b o e=>YaW _ e
 rw [hw];refine wpAny_bind (wpAny_pure ?_);show wpAny #[12] X.A (do rule "assign.swapped-stores";let items <-unpackItems (.ref s1.heap.objs.size) 2 none;assignInOrder [fun v=>bindName X.env y v,fun v=>bindName X.env x v] items.reverse;pure Flow.next) _ _ _
 refine wpAny_bind (wpAny_rule (wpAny_bind (unpackItems_tuple (items:=#[u1,u2]) (I.ok.hd hc) (IsTup.new s1.heap _) fun h' hx'=>?_)))
 have I3:=I2.kept (h':=h') (t':=s1.toks) fun b o e=>hx' b o (Yaf (YaX e)) e
 show wpAny _ _ (assignInOrder [fun v=>bindName X.env y v,fun v=>bindName X.env x v] [u2,u1] >>= fun _=>pure Flow.next) _ _ _
 refine wpAny_bind (assignInOrder_cons (wpAny_bindName (JW I3 hN hj (.inl hy) rw' (fun s2 I4=>?_) (.inr hy))))
 refine assignInOrder_cons (wpAny_bindName (JW I4 hN hi (.inl hx) rv (fun s3 I5=>assignInOrder_nil (wpAny_pure ?_)) (.inr hx)))
 rw [List.set_comm _ _ (Wbb hij)] at I5;exact⟨_,H1,I5,q1⟩
def tAug(i:Nat)(te:TE)(ti:TIp):TS:=fun D σ H=>∃ x,σ[i]?=some (some x)/\te σ H fun y H1=>ti x y H1 fun z H2=>D.nx (σ.set i (some z)) H2
theorem zjw{i:Nat}{x:Str}{e:Expr}{te:TE}{op:Operator}{ti:TIp}{pos':Pos}(hN:X.N.Nodup)(hi:X.N[i]?=some x)(hx:Loc X.env.scope x)(he:PE X e te)(ho:PIp X op ti)(hf:#[19]:=by first|exact .inl rfl|exact .inr rfl|assumption) :
 PS X (.AugAssign (.Name x pos') op e pos) (tAug i te ti):=by
 intro pins s σ H D I h;obtain⟨v,e1,h⟩:=h;obtain⟨m,hn,hl⟩:=I.loc;have vis:Vis X.env.scope x:=by rcases hx with k|k;exact .inl k;exact .inr (.inl k)
 obtain⟨u,r,l⟩:=hl i x v hi e1 vis;refine wpAny_AugAssign_Name ?_;have go:wpAny #[12] X.A (eval e X.env) (fun w s₂=>wpAny #[12] X.A (inplaceOp op u w) (fun r s₃=>wpAny #[12] X.A (storeName X.env x r) (fun _=>SP X pins D .next) X.xe s₃) X.xe s₂) X.xe s:=by
  refine thn (he pins s σ H _ I h) fun w s1 ⟨y,H1,I1,r1,q1⟩=>?_
  refine thn (ho pins s1 σ H1 v y u w _ I1 r r1 q1) fun z s2 ⟨zv,H2,I2,r2,q2⟩=>?_
  exact JW I2 hN hi hx r2 (fun s3 I3=>⟨_,H2,I3,q2⟩) hf
 rcases l with ⟨hk,hm⟩|⟨hk,c,hc,hcell⟩
 . exact wpAny_loadName_local I.ok.kind hk hn hm go
 . rcases hk with hk|hk
   . exact wpAny_loadName_cell I.ok.kind hk hc hcell go
   . rcases hx with k|k
     . have:X.env.scope.names.lookup x=some .free:=hk
       rw [k] at this;cases this
     . have:X.env.scope.names.lookup x=some .free:=hk
       rw [k] at this;cases this
def zij(to ti te:TE)(tget:V->V->Hp->VK->Prop)(tip:TIp)(tset:TSet):TS:=fun D σ H=>to σ H fun o H1=>ti σ H1 fun i H2=>tget o i H2 fun x H3=>te σ H3 fun y H4=>tip x y H4 fun z H5=>tset o i z H5 fun H6=>D.nx σ H6
def PGet(X:Cx)(t:V->V->Hp->VK->Prop):Prop:=
 ∀ (pins:List #[18]) (s:Shared) (σ : St) (H:Hp) (o i:V) (ov iv:Value) (Q:VK),Inv X pins σ H s->RelV o ov->RelV i iv->t o i H Q->
  wpAny #[12] X.A (getItem ov iv) (EP X pins σ Q) X.xe s
theorem zdn{o i e:Expr}{to ti te:TE}{tget:V->V->Hp->VK->Prop}{tip:TIp}{tset:TSet}{op:Operator}{tpos:Pos}(ho:PE X o to)(hi:PE X i ti)(hg:PGet X tget)(he:PE X e te)(hp:PIp X op tip)(hs:PSet X tset)
 (ha:∀ ov iv new,augStore i ov iv new=(do holding [new,ov,iv] (setItem ov iv new);release [new,ov,iv] [];pure .next):=by intros;rfl):PS X (.AugAssign (.Subscript o i tpos) op e pos) (zij to ti te tget tip tset):=by
 intro pins s σ H D I h;refine wpAny_AugAssign_SubscriptAny (thn (ho pins s σ H _ I h) fun ov s1 ⟨x1,H1,I1,r1,q1⟩=>?_) ha
 refine thn (hi pins s1 σ H1 _ I1 q1) fun iv s2 ⟨x2,H2,I2,r2,q2⟩=>?_
 refine thn (hg pins s2 σ H2 x1 x2 ov iv _ I2 r1 r2 q2) fun old s3 ⟨x3,H3,I3,r3,q3⟩=>?_
 refine thn (he pins s3 σ H3 _ I3 q3) fun v s4 ⟨x4,H4,I4,r4,q4⟩=>?_
 refine thn (hp pins s4 σ H4 x3 x4 old v _ I4 r3 r4 q4) fun new s5 ⟨x5,H5,I5,r5,q5⟩=>?_
 exact thn (hs pins s5 σ H5 x1 x2 x5 ov iv new _ I5 r1 r2 r5 q5) fun _ s6 ⟨H6,I6,q6⟩=>⟨σ,H6,I6,q6⟩
def ipI(f:Int->Int->Int):TIp:=fun x y H Q=>∃ i j,x=.int i/\y=.int j/\Q (.int (f i j)) H
theorem zdy:PIp X .Add (ipI fun i j=>i+j):=by
 intro pins s σ H x y v u Q I r1 r2 h;obtain⟨i,j,e1,e2,q⟩:=h;subst e1;subst e2;obtain⟨t,rfl⟩:=r1;obtain⟨t',rfl⟩:=r2;exact iadd_int ⟨.int _,H,I.tok _,⟨_,rfl⟩,q⟩
theorem zjV:PIp X .Sub (ipI fun i j=>i - j):=by
 intro pins s σ H x y v u Q I r1 r2 h;obtain⟨i,j,e1,e2,q⟩:=h;subst e1;subst e2;obtain⟨t,rfl⟩:=r1;obtain⟨t',rfl⟩:=r2;exact isub_int ⟨.int _,H,I.tok _,⟨_,rfl⟩,q⟩
end
section
variable{X:Cx}{pos:Pos}
def zez(c:TT)(tb:TS):TS:=fun D σ H=>∃ W:Nat->St->Hp->Prop,(∃ m,W m σ H)/\∀ m σ H,W m σ H->
 c σ H fun b H1=>if b=true then ∃ N:St->Hp->Prop,(∀ σ' H',N σ' H'->∃ m',m'<m/\W m' σ' H')/\tb { D with nx:=N,ct:=N,bk:=D.nx } σ H1 else D.nx σ H1
theorem zdp{c:Expr}{body:List Stmt}{tc:TT}{tb:TS}(hp:PassesOwn #[12] X.A X.env X.xe)(hc:PT X c tc)(hb:PSs X body tb):PS X (.While c body [] pos) (zez tc tb):=by
 intro pins s σ H D I h;obtain⟨W,⟨m0,w0⟩,turn⟩:=h;refine wpAny_While (codeAny_whileLoop (fun n s'=>∃ σ' H',Inv X pins σ' H' s'/\W n σ' H') ?_ m0 ⟨σ,H,I,w0⟩)
 rintro n s1 ⟨σ1,H1,I1,w1⟩
 refine wpAny_passesOwn hp (thn (hc pins s1 σ1 H1 _ I1 (turn n σ1 H1 w1)) fun b s2 ⟨H2,I2,q2⟩=>?_)
 cases b with
 | true=>
  obtain⟨N,hN,q2⟩:=q2;rw [if_pos rfl];refine wpAny_passesOwn hp (thn (hb pins s2 σ1 H2 _ I2 q2) fun f s3 q3=>?_)
  cases f with
  | next=>
   obtain⟨σ3,H3,I3,n3⟩:=q3;obtain⟨m',hm,w3⟩:=hN σ3 H3 n3;exact⟨m',hm,σ3,H3,I3,w3⟩
  | cont=>
   obtain⟨σ3,H3,I3,n3⟩:=q3;obtain⟨m',hm,w3⟩:=hN σ3 H3 n3;exact⟨m',hm,σ3,H3,I3,w3⟩
  | brk=>exact q3
  | ret v=>exact q3
 | false=>
  rw [if_neg Yal];exact wpAny_execs_nil ⟨σ1,H2,I2,q2⟩
end
structure It where
 go:Nat->Hp->Prop
 yld:Nat->Hp->V->Hp->Prop
 stop:Nat->Hp->Prop
def FpOk(X:Cx)(pins:List #[18])(H:Hp)(b:Addr):Prop:=
 H b=none/\b≠X.env.locals/\b∉X.fs/\(b∈X.ex\/X.s₀.heap.objs.size<=b)/\(∀ x c,X.env.cells.lookup x=some c->c≠b)/\∀ p∈X.pn++pins,p.1≠b
theorem Inv.fpOk{X:Cx}{pins:List #[18]}{σ : St}{H H':Hp}{s:Shared}{b:Addr}(I:#[11])(hb:s.heap.objs.size<=b)(hn:H' b=none):FpOk X pins H' b:=by
 refine⟨hn,Wa3 (YaU I.lt hb),I.nofs hb,.inr (Ya5 I.sz hb),fun x c e z=>?_,fun p hp z=>?_⟩
 . obtain⟨v,q⟩:=I.cell x c e
   exact absurd (YaU q.lt (by rw [z];exact hb)) (Yap _)
 . exact absurd (YaU (YaX (I.pin p hp).1) (by rw [z];exact hb)) (Yap _)
structure Turn(P:Program)(w:World)(K:Ybf)(tg:Expr)(J:It)(fp:List Addr)(it:Addr)(tn:Nat->Heap->Prop):Prop where
 mem:it∈fp
 obj:∀ i h,tn i h->∀ b∈fp,∃ o,h.get? b=some o/\∀ v,o.data≠.cell v
 keep:∀ i h h',tn i h->(∀ b∈fp,∀ o,h.get? b=some o->h'.get? b=some o)->tn i h'
 item:∀ (X:Cx),X.prog=P->X.w=w->X.K=K->X.calm=true->∀ (i:Nat) (pins:List #[18]) (s:Shared) (σ : St) (H:Hp) (E:#[14]),Inv X pins σ H s->(∀ b∈fp,FpOk X pins H b)->tn i s.heap->J.go i H->
  wpAny (model P w) X.A (pyNext (.ref it)) (fun r s1=>∃ u,r=some u/\
   wpAny (model P w) X.A (letOwnedTupleGo tg (.ref it) u) (fun _ s2=>∃ x H',Inv X pins σ H' s2/\RelV x u/\J.yld i H x H'/\tn (i+1) s2.heap/\∀ b∈fp,H' b=none) E s1) E s
 done:∀ (X:Cx),X.prog=P->X.w=w->X.K=K->X.calm=true->∀ (i:Nat) (pins:List #[18]) (s:Shared) (σ : St) (H:Hp) (E:#[14]),Inv X pins σ H s->(∀ b∈fp,FpOk X pins H b)->tn i s.heap->J.stop i H->
  wpAny (model P w) X.A (pyNext (.ref it)) (fun r s1=>r=none/\Inv X pins σ H s1) E s
 self:∀ (A:Around) (i:Nat) (s:Shared) (Q:#[14]) (E:#[14]),tn i s.heap->Q (.ref it) s->wpAny (model P w) A (pyIter (.ref it)) Q E s
abbrev TI:=St->Hp->(It->Hp->Prop)->Prop
def PIE(X:Cx)(pins:List #[18])(σ : St)(tg:Expr)(R:It->Hp->Prop)(itv:Value)(s2:Shared):Prop:=
 ∃ (it:Addr) (fp:List Addr) (tn:Nat->Heap->Prop) (J:It) (H':Hp),itv=.ref it/\Inv X pins σ H' s2/\Turn X.prog X.w X.K tg J fp it tn/\tn 0 s2.heap/\(∀ b∈fp,FpOk X pins H' b)/\R J H'
def PI(X:Cx)(tg iter:Expr)(wi:TI):Prop:=
 ∀ (pins:List #[18]) (s:Shared) (σ : St) (H:Hp) (R:It->Hp->Prop),Inv X pins σ H s->wi σ H R->
  wpAny #[12] X.A (eval iter X.env) (fun v s1=>wpAny #[12] X.A (pyIter v) (PIE X pins σ tg R) X.xe s1) X.xe s
theorem zcU{M:Model}{A:Around}{E:#[14]}{s:Shared}{tg:Expr}{it:Addr}{u:Value}{o:Obj}{n:String}{vs:Array Value}{Q:Unit->Shared->Prop}(ho:s.heap.get? it=some o)(hc:o.cls=.type n)(hd:o.data=.fields vs)
 (hn:["enumerate", "zip", "dict_itemiterator", "dict_reverseitemiterator", "odict_iterator", "itertools.zip_longest", "itertools.pairwise"].contains n=false) (hQ:Q () s):wpAny M A (letOwnedTupleGo tg (.ref it) u) Q E s:=by
 unfold letOwnedTupleGo;cases tg<;>first
  | exact wpAny_pure hQ
  | (cases u <;> first
   | exact wpAny_pure hQ
   | (refine wpAny_bind (wpAny_load ho ?_)
      rw [hc,hd];show wpAny M A (if(["enumerate", "zip", "dict_itemiterator", "dict_reverseitemiterator", "odict_iterator", "itertools.zip_longest", "itertools.pairwise"].contains n&&vs[0]? == some (rawInt _))=true then _ else _) Q E s
      rw [if_neg (by intro h;rw [hn,Bool.false_and] at h;cases h)]
      exact wpAny_pure hQ))
def Itl(K:Ybf)(a:Addr):It:=
 ⟨fun i H=>∃ xs x,SqL K H a xs/\xs[i]?=some x,fun i H x H'=>H'=H/\∀ xs,SqL K H a xs->xs[i]?=some x,fun i H=>∃ xs,SqL K H a xs/\xs.length<=i⟩
def Itt(K:Ybf)(a:Addr):It:=
 ⟨fun i H=>∃ xs x,SqT K H a xs/\xs[i]?=some x,fun i H x H'=>H'=H/\∀ xs,SqT K H a xs->xs[i]?=some x,fun i H=>∃ xs,SqT K H a xs/\xs.length<=i⟩
def Itr(lo:Int)(n:Nat):It:=⟨fun i _=>i<n,fun i H x H'=>H'=H/\x=.int (lo+i),fun i _=>n<=i⟩
theorem ziX{P:Program}{w:World}{K:Ybf}{tg:Expr}(a it:Addr):Turn P w K tg (Itl K a) [it] it (fun i h=>h.IsListIter it a i) where
 mem:=by simp
 obj:=fun i h st b hb=>by
  have e:b=it:=by simpa using hb
  subst e;obtain⟨o,e,c,d⟩:=st;exact⟨o,e,fun v z=>by rw [d] at z;cases z⟩
 keep:=fun i h h' st k=>st.at fun o e=>k it (by simp) o e
 item:=by
  intro X hP hw hK hc i pins s σ H E I hf st hg;subst hP hw hK;obtain⟨xs,x,hq,hx⟩:=hg;obtain⟨its,rv,p,hz⟩:=I.list hq;obtain⟨u,hu,ru⟩:=rv.get hx;obtain⟨f0,f1,f2,f3,f4,f5⟩:=hf it (by simp)
  refine wpAny_pyNext_list_item st p.isList (x:=u) (by simpa using hu) fun h' st' sb=>?_
  have I1:Inv X pins σ H { s with heap:=h' }:=I.turned (t':=s.toks) (fun b o hb e=>(sb.2 b hb).trans e) f0 f1 f3 f4 f5
  obtain⟨o,e,c,d⟩:=id st';exact⟨u,rfl,zcU (s:={ s with heap:=h' }) e c d #[1] ⟨x,H,I1,ru,⟨rfl,fun ys hy=>by rw [I.list_inj hy hq];exact hx⟩,st',fun b hb=>(hf b hb).1⟩⟩
 done:=by
  intro X hP hw hK hc i pins s σ H E I hf st hg;subst hP hw hK;obtain⟨xs,hq,hx⟩:=hg;obtain⟨its,rv,p,hz⟩:=I.list hq;obtain⟨f0,f1,f2,f3,f4,f5⟩:=hf it (by simp)
  have hl:=rv.length;exact wpAny_pyNext_list_end (I.ok.hd hc) st p.isList #[6] fun h' eb=>⟨rfl,I.turned (t':=s.toks) (fun b o hb e=>eb b o hb e) f0 f1 f3 f4 f5⟩
 self:=fun _ _ _ _ _ st h=>wpAny_pyIter_listiter st h
theorem zji{P:Program}{w:World}{K:Ybf}{tg:Expr}(a it:Addr):Turn P w K tg (Itt K a) [it] it (fun i h=>h.IsTupleIter it a i) where
 mem:=by simp
 obj:=fun i h st b hb=>by
  have e:b=it:=by simpa using hb
  subst e;obtain⟨o,e,c,d⟩:=st;exact⟨o,e,fun v z=>by rw [d] at z;cases z⟩
 keep:=fun i h h' st k=>st.at fun o e=>k it (by simp) o e
 item:=by
  intro X hP hw hK hc i pins s σ H E I hf st hg;subst hP hw hK;obtain⟨xs,x,hq,hx⟩:=hg;obtain⟨its,rv,p,hz⟩:=I.tuple hq;obtain⟨u,hu,ru⟩:=rv.get hx;obtain⟨f0,f1,f2,f3,f4,f5⟩:=hf it (by simp)
  refine wpAny_pyNext_tuple_item st (show s.heap.IsTuple a its.toArray from p) (x:=u) (by simpa using hu) fun h' st' sb=>?_
  have I1:Inv X pins σ H { s with heap:=h' }:=I.turned (t':=s.toks) (fun b o hb e=>(sb.2 b hb).trans e) f0 f1 f3 f4 f5
  obtain⟨o,e,c,d⟩:=id st';exact⟨u,rfl,zcU (s:={ s with heap:=h' }) e c d #[1] ⟨x,H,I1,ru,⟨rfl,fun ys hy=>by rw [I.tuple_inj hy hq];exact hx⟩,st',fun b hb=>(hf b hb).1⟩⟩
 done:=by
  intro X hP hw hK hc i pins s σ H E I hf st hg;subst hP hw hK;obtain⟨xs,hq,hx⟩:=hg;obtain⟨its,rv,p,hz⟩:=I.tuple hq;obtain⟨f0,f1,f2,f3,f4,f5⟩:=hf it (by simp)
  have hl:=rv.length;exact wpAny_pyNext_tuple_end (I.ok.hd hc) st (show s.heap.IsTuple a its.toArray from p) #[6] fun h' eb=>⟨rfl,I.turned (t':=s.toks) (fun b o hb e=>eb b o hb e) f0 f1 f3 f4 f5⟩
 self:=fun _ _ _ _ _ st h=>wpAny_pyIter_tupleiter st h
theorem zj0{P:Program}{w:World}{K:Ybf}{tg:Expr}(it:Addr)(lo:Int)(n:Nat):Turn P w K tg (Itr lo n) [it] it (fun i h=>IsRangeIter h it (lo+(i:Nat)*1) ((n:Int) - (i:Nat)) 1) where
 mem:=by simp
 obj:=fun i h st b hb=>by
  have e:b=it:=by simpa using hb
  subst e;exact⟨_,st,fun v z=>by
   have z':Data.fields _=Data.cell v:=z;cases z'⟩
 keep:=fun i h h' st k=>k it (by simp) _ st
 item:=by
  intro X hP hw hK hc i pins s σ H E I hf st hg;subst hP hw hK;obtain⟨f0,f1,f2,f3,f4,f5⟩:=hf it (by simp)
  have W:=Walks.range (prog:=X.prog) (w:=X.w) (I.ok.hd hc) it lo 1 n;refine W.item i s _ _ hg st fun v h' tk hv st' kk=>?_
  obtain⟨t,rfl⟩:=hv;have I1:Inv X pins σ H { s with heap:=h',toks:=tk }:=I.turned (fun b o hb e=>kk b o (by simpa using hb) e) f0 f1 f3 f4 f5
  refine⟨_,rfl,zcU (s:={ s with heap:=h',toks:=tk }) (n:="range_iterator") st' rfl rfl #[1] ⟨.int (lo+i),H,I1,⟨t,?_⟩,⟨rfl,rfl⟩,st',fun b hb=>(hf b hb).1⟩⟩
  rw [Int.mul_one]
 done:=by
  intro X hP hw hK hc i pins s σ H E I hf st hg;subst hP hw hK;obtain⟨f0,f1,f2,f3,f4,f5⟩:=hf it (by simp)
  exact wpAny_pyNext_range_end (I.ok.hd hc) st (by have:n<=i:=hg;omega) fun h' eb=>⟨rfl,I.turned (t':=s.toks) (fun b o hb e=>eb b o hb e) f0 f1 f3 f4 f5⟩
 self:=fun _ _ _ _ _ st h=>wpAny_pyIter_rangeiter st h
section
variable{X:Cx}{tg:Expr}
def zf9(K:Ybf)(tl:TE):TI:=fun σ H R=>tl σ H fun x H1=>∃ a,x=.ref a/\(∃ xs,SqL K H1 a xs)/\R (Itl K a) H1
def iTup(K:Ybf)(tl:TE):TI:=fun σ H R=>tl σ H fun x H1=>∃ a,x=.ref a/\(∃ xs,SqT K H1 a xs)/\R (Itt K a) H1
theorem zbC{l:Expr}{tl:TE}(hl:PE X l tl):PI X tg l (zf9 X.K tl):=by
 intro pins s σ H R I h;refine thn (hl pins s σ H _ I h) fun v s1 ⟨x,H1,I1,r1,q1⟩=>?_
 obtain⟨a,e,⟨xs,hq⟩,q⟩:=q1;subst e;cases r1;obtain⟨its,rv,p,hz⟩:=I1.list hq;refine wpAny_pyIter_list p.isList ?_;refine⟨s1.heap.objs.size,[s1.heap.objs.size],_,_,H1,rfl,I1.kept (t':=s1.toks) fun b o e=>YaW _ e,ziX a _,⟨_,Yan _ rfl,rfl,rfl⟩,fun b hb=>?_,q⟩
 have e:b=s1.heap.objs.size:=by simpa using hb
 subst e;exact I1.fpOk (YaY _) (I1.hok.fresh (YaY _))
theorem zhC{l:Expr}{tl:TE}(hl:PE X l tl):PI X tg l (iTup X.K tl):=by
 intro pins s σ H R I h;refine thn (hl pins s σ H _ I h) fun v s1 ⟨x,H1,I1,r1,q1⟩=>?_
 obtain⟨a,e,⟨xs,hq⟩,q⟩:=q1;subst e;cases r1;obtain⟨its,rv,p,hz⟩:=I1.tuple hq;refine wpAny_pyIter_tuple (show s1.heap.IsTuple a its.toArray from p) ?_
 refine⟨s1.heap.objs.size,[s1.heap.objs.size],_,_,H1,rfl,I1.kept (t':=s1.toks) fun b o e=>YaW _ e,zji a _,⟨_,Yan _ rfl,rfl,rfl⟩,fun b hb=>?_,q⟩
 have e:b=s1.heap.objs.size:=by simpa using hb
 subst e;exact I1.fpOk (YaY _) (I1.hok.fresh (YaY _))
theorem zeh{pins:List #[18]}{σ : St}{H:Hp}{s:Shared}{R:It->Hp->Prop}{E:#[14]}{lo hi:Int}{t u v:Tok}{tk:Nat}(I:#[11])(h1:-(2 ^ 62)<=lo)(h2:lo<2 ^ 62)(h3:-(2 ^ 62)<=hi)(h4:hi<2 ^ 62)
 (q:R (Itr lo (hi - lo).toNat) H):wpAny #[12] X.A (pyIter (.ref s.heap.objs.size)) (PIE X pins σ tg R) E { s with heap:=s.heap.push { cls:=.type "range", data:=.fields #[.int lo t,.int hi u,.int 1 v] },toks:=tk }:=by
 refine wpAny_pyIter_range (IsRange.new ..) (small_one h1 h2 h3 h4) ?_
 have I1:Inv X pins σ H { s with heap:=s.heap.push { cls:=.type "range", data:=.fields #[.int lo t,.int hi u,.int 1 v] },toks:=tk }:=I.kept fun b o e=>YaW _ e
 refine⟨(s.heap.push { cls:=.type "range", data:=.fields #[.int lo t,.int hi u,.int 1 v] }).objs.size,[(s.heap.push { cls:=.type "range", data:=.fields #[.int lo t,.int hi u,.int 1 v] }).objs.size],_,_,H,rfl,
  I1.kept (t':=tk) fun b o e=>YaW _ e,zj0 _ lo (hi - lo).toNat,?_,fun b hb=>?_,q⟩
 . have e1:lo+((0:Nat):Int)*1=lo:=by simp
   have e2:(((hi - lo).toNat:Nat):Int) - ((0:Nat):Int)=Builtin.Range.rangeSize lo hi 1:=by rw [rangeSize_one];split<;>omega
   show IsRangeIter _ _ (lo+((0:Nat):Int)*1) ((((hi - lo).toNat:Nat):Int) - ((0:Nat):Int)) 1
   rw [e1,e2];exact Yan _ rfl
 . have e:b=(s.heap.push { cls:=.type "range", data:=.fields #[.int lo t,.int hi u,.int 1 v] }).objs.size:=by simpa using hb
   subst e;exact I1.fpOk (YaY _) (I1.hok.fresh (YaY _))
def zil(ta:TA):TI:=fun σ H R=>ta σ H fun vs H1=>∃ j:Int,vs=[.int j]/\-(2 ^ 62)<=j/\j<2 ^ 62/\R (Itr 0 j.toNat) H1
def zh3(ta:TA):TI:=fun σ H R=>ta σ H fun vs H1=>∃ i j:Int,vs=[.int i,.int j]/\(-(2 ^ 62)<=i/\i<2 ^ 62/\-(2 ^ 62)<=j/\j<2 ^ 62)/\R (Itr i (j - i).toNat) H1
theorem zcx{a:Expr}{ta:TA}{p pos:Pos}(hg:Gl X "range")(hm:X.mg "range" = none)(ha:PA X [a] ta)(hs:starEach [a] X.env=[(false,eval a X.env)]:=by rfl):PI X tg (.Call (.Name "range" p) [a] [] pos) (zil ta):=by
 intro pins s σ H R I h;refine Call_ (JA I hg hm boot_range (Wab (thn (ha pos pins s σ H _ I h) fun us s1 ⟨vs,H1,I1,r1,q1⟩=>?_) hs rfl))
 obtain⟨j,e,q1,q2,q⟩:=q1;subst e;cases r1 with
 | cons r rr=>
  cases rr;obtain⟨t,rfl⟩:=r
  exact call_range_1 (zeh I1 #[0] #[0] q1 q2 (by simpa using q))
theorem zk2{a b:Expr}{ta:TA}{p pos:Pos}(hg:Gl X "range")(hm:X.mg "range" = none)(ha:PA X [a,b] ta)(hs:starEach [a,b] X.env=[(false,eval a X.env),(false,eval b X.env)]:=by rfl)(hs2:starEach [b] X.env=[(false,eval b X.env)]:=by rfl) :
 PI X tg (.Call (.Name "range" p) [a,b] [] pos) (zh3 ta):=by
 intro pins s σ H R I h;refine Call_ (JA I hg hm boot_range (Wab (thn (ha pos pins s σ H _ I h) fun us s1 ⟨vs,H1,I1,r1,q1⟩=>?_) (by rw [hs,hs2]) (by rw [hs2];rfl)))
 obtain⟨i,j,e,⟨q1,q2,q3,q4⟩,q⟩:=q1;subst e;cases r1 with
 | cons r rr=>
  cases rr with
  | cons r' rr=>
   cases rr;obtain⟨t,rfl⟩:=r
   obtain⟨t',rfl⟩:=r';exact call_range_2 (zeh I1 q1 q2 q3 q4 q)
def tFor(wi:TI)(g:TG)(tb:TS):TS:=fun D σ H=>wi σ H fun J H1=>∃ W:Nat->Nat->St->Hp->Prop,(∃ m,W 0 m σ H1)/\∀ i m σ H,W i m σ H->
 (J.stop i H/\D.nx σ H)\/(J.go i H/\∃ N:St->Hp->Prop,(∀ σ' H',N σ' H'->∃ m',m'<m/\W (i+1) m' σ' H')/\∀ x H',J.yld i H x H'->g x σ H' fun σ2 H2=>tb { D with nx:=N,ct:=N,bk:=D.nx } σ2 H2)
def Z1(fp:List Addr)(h:Heap):List #[18]:=fp.filterMap fun b=>(h.get? b).map fun o=>(b,o)
theorem zbL{fp:List Addr}{h:Heap}{b:Addr}{o:Obj}(hb:b∈fp)(e:h.get? b=some o):(b,o)∈Z1 fp h:=List.mem_filterMap.mpr ⟨b,hb,by rw [e];rfl⟩
theorem zgs{fp:List Addr}{h:Heap}{p:Addr×Obj}(hp:p∈Z1 fp h):p.1∈fp/\h.get? p.1=some p.2:=by
 obtain⟨b,hb,e⟩:=List.mem_filterMap.mp hp;cases q:h.get? b with
 | none=>rw [q] at e;cases e
 | some o=>
  rw [q] at e;have e':(b,o)=p:=WaP e;subst e';exact⟨hb,q⟩
theorem Inv.pinned{pins:List #[18]}{σ : St}{H:Hp}{s:Shared}{fp:List Addr}(I:#[11])(hf:∀ b∈fp,FpOk X pins H b)(ho:∀ b∈fp,∃ o,s.heap.get? b=some o/\∀ v,o.data≠.cell v):Inv X (pins++Z1 fp s.heap) σ H s:=
 I.pins_of fun p hp=>(Ya3.mp hp).elim (fun z=>I.pin p (Yaa _ z)) fun z=>by
  obtain⟨hb,e⟩:=zgs z;obtain⟨f0,f1,f2,_⟩:=hf p.1 hb;obtain⟨o,e',d⟩:=ho p.1 hb;rw [e] at e';cases e';exact⟨e,f0,f1,f2,d⟩
theorem Inv.unpinned{pins pl:List #[18]}{σ : St}{H:Hp}{s:Shared}(I:Inv X (pins++pl) σ H s):Inv X pins σ H s:=I.pins_of fun p hp=>I.pin p (Yaa _ (Yai _ hp))
theorem Zl{iter:Expr}{body:List Stmt}{wi:TI}{g:TG}{tb:TS}{pos:Pos}(hp:PassesOwn #[12] X.A X.env X.xe)(hc:X.calm=true)(hi:PI X tg iter wi)(hg:PG X tg g)(hb:PSs X body tb)
 (hs:∀ x,foldedSetIterable iter X.env x=pure x:=by intro _;rfl):PS X (.For tg iter body [] pos) (tFor wi g tb):=by
 intro pins s σ H D I h;refine wpAny_For (thn (hi pins s σ H _ I h) fun v s1 h1=>thn h1 fun itv s2 h2=>?_) hs
 obtain⟨it,fp,tn,J,H2,e,I2,T,st2,f2,W,⟨m0,w0⟩,turn⟩:=h2;subst e;have stat:∀ {H':Hp},(∀ b∈fp,H' b=none)->∀ b∈fp,FpOk X pins H' b:=fun hn b hb=>⟨hn b hb,(f2 b hb).2⟩
 refine codeAny_forLoop_any (fun n s'=>∃ i σ' H',Inv X pins σ' H' s'/\tn i s'.heap/\(∀ b∈fp,H' b=none)/\W i n σ' H') ?_ m0 ⟨0,σ,H2,I2,st2,fun b hb=>(f2 b hb).1,w0⟩
 rintro n s3 ⟨i,σ3,H3,I3,st3,fr3,w3⟩
 rcases turn i n σ3 H3 w3 with ⟨stop,qn⟩|⟨go,N,hN,step⟩
 . refine wpAny_passesOwn hp (thn (T.done X rfl rfl rfl hc i pins s3 σ3 H3 X.xe I3 (stat fr3) st3 stop) fun r s4 ⟨hr,I4⟩=>?_)
   subst hr;exact wpAny_execs_nil ⟨σ3,H3,I4,qn⟩
 . refine wpAny_passesOwn hp (thn (T.item X rfl rfl rfl hc i pins s3 σ3 H3 X.xe I3 (stat fr3) st3 go) fun r s4 ⟨u,hr,h4⟩=>?_)
   subst hr;refine wpAny_passesOwn hp (thn h4 fun _ s5 ⟨x,H5,I5,r5,y5,st5,fr5⟩=>?_)
   have I5':=I5.pinned (stat fr5) (T.obj _ _ st5);refine wpAny_passesOwn hp (thn (hg _ s5 σ3 H5 x u _ I5' r5 (step x H5 y5)) fun _ s6 ⟨σ6,H6,I6,q6⟩=>?_)
   refine wpAny_passesOwn hp (thn (hb _ s6 σ6 H6 _ I6 q6) fun f s7 q7=>?_)
   have again:∀ {σ7:St} {H7:Hp},Inv X (pins++Z1 fp s5.heap) σ7 H7 s7->N σ7 H7->∃ m,m<n/\∃ i σ' H',Inv X pins σ' H' s7/\tn i s7.heap/\(∀ b∈fp,H' b=none)/\W i m σ' H':=fun {σ7 H7} I7 n7=>by
    obtain⟨m',hm,w7⟩:=hN σ7 H7 n7;refine⟨m',hm,i+1,σ7,H7,I7.unpinned,T.keep _ _ _ st5 fun b hb o e=>(I7.pin (b,o) (Yaa _ (Yaa _ (zbL hb e)))).1,fun b hb=>?_,w7⟩
    obtain⟨o,e,d⟩:=T.obj _ _ st5 b hb;exact(I7.pin (b,o) (Yaa _ (Yaa _ (zbL hb e)))).2.1
   cases f with
   | next=>obtain⟨σ7,H7,I7,n7⟩:=q7;exact again I7 n7
   | cont=>obtain⟨σ7,H7,I7,n7⟩:=q7;exact again I7 n7
   | brk=>obtain⟨σ7,H7,I7,q7⟩:=q7;exact⟨σ7,H7,I7.unpinned,q7⟩
   | ret v=>obtain⟨x7,σ7,H7,I7,r7,q7⟩:=q7;exact⟨x7,σ7,H7,I7.unpinned,r7,q7⟩
end
theorem jR{K:Ybf}{a:Addr}{xs:List V}{g:TG}{tb:TS}{D:Ends}{σ : St}{H:Hp}(Pv:Nat->St->Hp->Prop)(h0:Pv 0 σ H)(hl:∀ i σ H,i<=xs.length->Pv i σ H->SqL K H a xs)
 (hs:∀ i x σ H,xs[i]?=some x->Pv i σ H->g x σ H fun σ2 H2=>tb { D with nx:=Pv (i+1),ct:=Pv (i+1),bk:=D.nx } σ2 H2) (hd:∀ σ H,Pv xs.length σ H->D.nx σ H) :
 ∃ W:Nat->Nat->St->Hp->Prop,(∃ m,W 0 m σ H)/\∀ i m σ H,W i m σ H->
  ((Itl K a).stop i H/\D.nx σ H)\/((Itl K a).go i H/\∃ N:St->Hp->Prop,(∀ σ' H',N σ' H'->∃ m',m'<m/\W (i+1) m' σ' H')/\∀ x H',(Itl K a).yld i H x H'->g x σ H' fun σ2 H2=>tb { D with nx:=N,ct:=N,bk:=D.nx } σ2 H2):=by
 refine⟨fun i m σ H=>m=xs.length - i/\i<=xs.length/\Pv i σ H,⟨xs.length,by simp,Wa9 _,h0⟩,?_⟩
 rintro i m σ H ⟨rfl,hi,p⟩
 have q:=hl i σ H hi p
 by_cases hlt:i<xs.length
 . refine .inr ⟨⟨xs,xs[i],q,by simp [hlt]⟩,Pv (i+1),fun σ' H' p'=>⟨xs.length - (i+1),#[0],rfl,hlt,p'⟩,fun x H' y=>?_⟩
   obtain⟨e,y⟩:=y;subst e;exact hs i x σ _ (y xs q) p
 . have e:i=xs.length:=#[0]
   subst e;exact .inl ⟨⟨xs,q,YaY _⟩,hd σ H p⟩
theorem Zi{c:TT}{tb:TS}{D:Ends}{σ : St}{H:Hp}(Pv:St->Hp->Prop)(μ : St->Hp->Nat)(h0:Pv σ H)
 (hs:∀ σ H,Pv σ H->c σ H fun b H1=>if b=true then tb { D with nx:=fun σ' H'=>Pv σ' H'/\μ σ' H' < μ σ H,ct:=fun σ' H'=>Pv σ' H'/\μ σ' H' < μ σ H,bk:=D.nx } σ H1 else D.nx σ H1)
 (mono:∀ σ H Q Q',(∀ b H1,Q b H1->Q' b H1)->c σ H Q->c σ H Q'):zez c tb D σ H:=by
 refine⟨fun m σ H=>m = μ σ H/\Pv σ H,⟨_,rfl,h0⟩,?_⟩
 rintro m σ H ⟨rfl,p⟩
 refine mono σ H _ _ (fun b H1 q=>?_) (hs σ H p)
 cases b with
 | true=>exact⟨_,fun σ' H' ⟨p',l⟩=>⟨_,l,rfl,p'⟩,q⟩
 | false=>exact q
abbrev R2:=V->V->Hp->VK->Prop
def OpR(X:Cx)(f:Value->Value->Sem Value)(r:R2):Prop:=
 ∀ (pins:List #[18]) (s:Shared) (σ : St) (H:Hp) (x y:V) (v u:Value) (Q:VK),Inv X pins σ H s->RelV x v->RelV y u->r x y H Q->
  wpAny #[12] X.A (f v u) (EP X pins σ Q) X.xe s
def UnR(X:Cx)(f:Value->Sem Value)(r:V->Hp->VK->Prop):Prop:=
 ∀ (pins:List #[18]) (s:Shared) (σ : St) (H:Hp) (x:V) (v:Value) (Q:VK),Inv X pins σ H s->RelV x v->r x H Q->
  wpAny #[12] X.A (f v) (EP X pins σ Q) X.xe s
def zQ(X:Cx)(f:Value)(r:List V->Hp->VK->Prop):Prop:=
 ∀ (pins:List #[18]) (s:Shared) (σ : St) (H:Hp) (xs:List V) (us:List Value) (Q:VK),Inv X pins σ H s->Vals xs us->r xs H Q->
  wpAny #[12] X.A (call f us) (EP X pins σ Q) X.xe s
def tOp(r:R2)(ta tb:TE):TE:=fun σ H Q=>ta σ H fun x H1=>tb σ H1 fun y H2=>r x y H2 Q
def tUn(r:V->Hp->VK->Prop)(ta:TE):TE:=fun σ H Q=>ta σ H fun x H1=>r x H1 Q
def rI(C:Int->Int->Prop)(g:Int->Int->V):R2:=fun x y H Q=>∃ i j,x=.int i/\y=.int j/\C i j/\Q (g i j) H
def rI0(g:Int->Int->V):R2:=fun x y H Q=>∃ i j,x=.int i/\y=.int j/\Q (g i j) H
def rU(g:Int->V):V->Hp->VK->Prop:=fun x H Q=>∃ i,x=.int i/\Q (g i) H
section
variable{X:Cx}{a b c:Expr}{ta tb tc:TE}{pos:Pos}
theorem binT(ha:PE X a ta)(hb:PE X b tb){pins:List #[18]}{s:Shared}{σ : St}{H:Hp}{R:V->V->Hp->Prop}(I:#[11])
 (h:ta σ H fun x H1=>tb σ H1 fun y H2=>R x y H2) {Q:#[14]} {f:Value->Value->Sem Value}
 (hf:∀ v u s2 x y H2,Inv X pins σ H2 s2->RelV x v->RelV y u->R x y H2->wpAny #[12] X.A (f v u) Q X.xe s2) :
 wpAny #[12] X.A (eval a X.env) (fun v s₁=>wpAny #[12] X.A (eval b X.env) (fun u s₂=>wpAny #[12] X.A (f v u) Q X.xe s₂) X.xe s₁) X.xe s:=by
 refine thn (ha pins s σ H _ I h) fun v s1 ⟨x,H1,I1,r1,q1⟩=>?_
 refine thn (hb pins s1 σ H1 _ I1 q1) fun u s2 ⟨y,H2,I2,r2,q2⟩=>?_
 exact hf v u s2 x y H2 I2 r1 r2 q2
theorem Ji{op:Operator}{r:R2}(ho:OpR X (binaryOp op) r)(ha:PE X a ta)(hb:PE X b tb):PE X (.BinOp a op b pos) (tOp r ta tb):=by
 intro pins s σ H Q I h;exact wpAny_BinOp (binT ha hb I h fun v u s2 x y H2 I2 rx ry q=>ho pins s2 σ H2 x y v u Q I2 rx ry q)
theorem zjj{op:UnaryOp}{r:V->Hp->VK->Prop}(ho:UnR X (unaryOp op) r)(ha:PE X a ta):PE X (.UnaryOp op a pos) (tUn r ta):=by
 intro pins s σ H Q I h;exact UnaryOp_ (thn (ha pins s σ H _ I h) fun v s1 ⟨x,H1,I1,r1,q1⟩=>ho pins s1 σ H1 x v Q I1 r1 q1)
theorem opI{f:Value->Value->Sem Value}{C:Int->Int->Prop}{g:Int->Int->Int}
 (rule:∀ (i j:Int) (t u:Tok) (s:Shared) (Q:#[14]) (E:#[14]),C i j->Q (.int (g i j) s.toks) { s with toks:=s.toks+1 }->wpAny #[12] X.A (f (.int i t) (.int j u)) Q E s) :
 OpR X f (rI C fun i j=>.int (g i j)):=by
 intro pins s σ H x y v u Q I rx ry h;obtain⟨i,j,rfl,rfl,hc,q⟩:=h;obtain⟨t,rfl⟩:=rx;obtain⟨t',rfl⟩:=ry;exact rule i j t t' s _ _ hc ⟨.int (g i j),H,I.tok _,⟨_,rfl⟩,q⟩
theorem opI0{f:Value->Value->Sem Value}{g:Int->Int->Int}
 (rule:∀ (i j:Int) (t u:Tok) (s:Shared) (Q:#[14]) (E:#[14]),Q (.int (g i j) s.toks) { s with toks:=s.toks+1 }->wpAny #[12] X.A (f (.int i t) (.int j u)) Q E s) :
 OpR X f (rI0 fun i j=>.int (g i j)):=by
 intro pins s σ H x y v u Q I rx ry h;obtain⟨i,j,rfl,rfl,q⟩:=h;obtain⟨t,rfl⟩:=rx;obtain⟨t',rfl⟩:=ry;exact rule i j t t' s _ _ ⟨.int (g i j),H,I.tok _,⟨_,rfl⟩,q⟩
theorem opB0{f:Value->Value->Sem Value}{g:Int->Int->Bool}
 (rule:∀ (i j:Int) (t u:Tok) (s:Shared) (Q:#[14]) (E:#[14]),Q (.bool (g i j)) s->wpAny #[12] X.A (f (.int i t) (.int j u)) Q E s) :
 OpR X f (rI0 fun i j=>.bl (g i j)):=by
 intro pins s σ H x y v u Q I rx ry h;obtain⟨i,j,rfl,rfl,q⟩:=h;obtain⟨t,rfl⟩:=rx;obtain⟨t',rfl⟩:=ry;exact rule i j t t' s _ _ ⟨.bl (g i j),H,I,rfl,q⟩
theorem zcY:OpR X (binaryOp .Add) (rI0 fun i j=>.int (i+j)):=opI0 fun _ _ _ _ _ _ _ q=>add_int q
theorem zaC:OpR X (binaryOp .Sub) (rI0 fun i j=>.int (i - j)):=opI0 fun _ _ _ _ _ _ _ q=>sub_int q
theorem zgE:OpR X (binaryOp .Mod) (rI (fun _ j=>0<j) fun i j=>.int (i%j)):=opI fun i j _ _ _ _ _ hc q=>by
 have h1:(0:Int)<j:=hc;exact mod_int' #[0] (by rw [Int.fmod_eq_emod_of_nonneg i #[0]];exact q)
theorem unI{f:Value->Sem Value}{g:Int->Int}
 (rule:∀ (i:Int) (t:Tok) (s:Shared) (Q:#[14]) (E:#[14]),Q (.int (g i) s.toks) { s with toks:=s.toks+1 }->wpAny #[12] X.A (f (.int i t)) Q E s) :
 UnR X f (rU fun i=>.int (g i)):=by
 intro pins s σ H x v Q I rx h;obtain⟨i,rfl,q⟩:=h;obtain⟨t,rfl⟩:=rx;exact rule i t s _ _ ⟨.int (g i),H,I.tok _,⟨_,rfl⟩,q⟩
theorem zjf:UnR X (unaryOp .USub) (rU fun i=>.int (-i)):=unI fun _ _ _ _ _ q=>neg_int q
end
def scal:V->V->Bool
 | .non,.non=>true|.non,.int _=>true|.int _,.non=>true|.non,.bl _=>true|.bl _,.non=>true|.non,.str _=>true|.str _,.non=>true
 | .int _,.int _=>true|.bl _,.bl _=>true|.str _,.str _=>true|.byt _,.byt _=>true
 | .int _,.str _=>true|.str _,.int _=>true|.bl _,.str _=>true|.str _,.bl _=>true
 | _,_=>false
def rEq:R2:=fun x y H Q=>scal x y=true/\Q (.bl (decide (x=y))) H
def rNe:R2:=fun x y H Q=>scal x y=true/\Q (.bl (!decide (x=y))) H
theorem zee{i j:Int}:decide (V.int i=V.int j)=(i==j):=by
 rw [Bool.eq_iff_iff]
 simp
theorem zf0{i j:Bool}:decide (V.bl i=V.bl j)=(i==j):=by
 rw [Bool.eq_iff_iff]
 simp
theorem zec{i j:Str}:decide (V.str i=V.str j)=(i==j):=by
 rw [Bool.eq_iff_iff]
 simp
theorem zeQ{i j:Array UInt8}:decide (V.byt i=V.byt j)=(i.toList==j.toList):=by
 rw [Bool.eq_iff_iff];cases i;cases j
 simp
section
variable{X:Cx}{a b c:Expr}{ta tb tc:TE}{pos:Pos}
theorem zN{pins:List #[18]}{σ : St}{H:Hp}{s:Shared}{Q:VK}{k k':Bool}(I:#[11])(q:Q (.bl k) H)(e:k=k'):EP X pins σ Q (.bool k') s:=by
 subst e;exact⟨.bl k,H,I,rfl,q⟩
theorem zdL:OpR X (compareOp .Eq) rEq:=by
 intro pins s σ H x y v u Q I rx ry h;obtain⟨hs,q⟩:=h;cases x with
 | non=>
  cases rx;cases y with
  | non=>cases ry;exact PySem.EqNone.eq_none_none (zN I q (by simp))
  | bl j=>cases ry;exact PySem.EqNone.eq_none_bool (zN I q (by simp))
  | int j=>obtain⟨t',rfl⟩:=ry;exact PySem.EqNone.eq_none_int (zN I q (by simp))
  | str j=>obtain⟨t',rfl⟩:=ry;exact PySem.EqNone.eq_none_str (zN I q (by simp))
  | _=>exact absurd (show false=true from hs) Yal
 | bl i=>
  cases rx;cases y with
  | non=>cases ry;exact PySem.EqNone.eq_bool_none (zN I q (by simp))
  | bl j=>cases ry;exact eq_bool (zN I q zf0)
  | str j=>obtain⟨t',rfl⟩:=ry;exact PySem.EqMixed.eq_bool_str (zN I q (by simp))
  | _=>exact absurd (show false=true from hs) Yal
 | int i=>
  obtain⟨t,rfl⟩:=rx;cases y with
  | non=>cases ry;exact PySem.EqNone.eq_int_none (zN I q (by simp))
  | int j=>obtain⟨t',rfl⟩:=ry;exact eq_int (zN I q zee)
  | str j=>obtain⟨t',rfl⟩:=ry;exact PySem.EqMixed.eq_int_str (zN I q (by simp))
  | _=>exact absurd (show false=true from hs) Yal
 | str i=>
  obtain⟨t,rfl⟩:=rx;cases y with
  | non=>cases ry;exact PySem.EqNone.eq_str_none (zN I q (by simp))
  | bl j=>cases ry;exact PySem.EqMixed.eq_str_bool (zN I q (by simp))
  | int j=>obtain⟨t',rfl⟩:=ry;exact PySem.EqMixed.eq_str_int (zN I q (by simp))
  | str j=>obtain⟨t',rfl⟩:=ry;exact eq_str (zN I q zec)
  | _=>exact absurd (show false=true from hs) Yal
 | byt i=>
  obtain⟨t,rfl⟩:=rx;cases y with
  | byt j=>obtain⟨t',rfl⟩:=ry;exact PySem.W.eq_bytes (zN I q zeQ)
  | _=>exact absurd (show false=true from hs) Yal
 | _=>cases y<;>exact absurd (show false=true from hs) Yal
theorem zeL:OpR X (compareOp .NotEq) rNe:=by
 intro pins s σ H x y v u Q I rx ry h;obtain⟨hs,q⟩:=h;cases x with
 | non=>
  cases rx;cases y with
  | non=>cases ry;exact PySem.EqNone.ne_none_none (zN I q (by simp))
  | bl j=>cases ry;exact PySem.EqNone.ne_none_bool (zN I q (by simp))
  | int j=>obtain⟨t',rfl⟩:=ry;exact PySem.EqNone.ne_none_int (zN I q (by simp))
  | str j=>obtain⟨t',rfl⟩:=ry;exact PySem.EqNone.ne_none_str (zN I q (by simp))
  | _=>exact absurd (show false=true from hs) Yal
 | bl i=>
  cases rx;cases y with
  | non=>cases ry;exact PySem.EqNone.ne_bool_none (zN I q (by simp))
  | bl j=>cases ry;exact ne_bool (zN I q (congrArg not zf0))
  | str j=>obtain⟨t',rfl⟩:=ry;exact PySem.EqMixed.ne_bool_str (zN I q (by simp))
  | _=>exact absurd (show false=true from hs) Yal
 | int i=>
  obtain⟨t,rfl⟩:=rx;cases y with
  | non=>cases ry;exact PySem.EqNone.ne_int_none (zN I q (by simp))
  | int j=>obtain⟨t',rfl⟩:=ry;exact ne_int (zN I q (congrArg not zee))
  | str j=>obtain⟨t',rfl⟩:=ry;exact PySem.EqMixed.ne_int_str (zN I q (by simp))
  | _=>exact absurd (show false=true from hs) Yal
 | str i=>
  obtain⟨t,rfl⟩:=rx;cases y with
  | non=>cases ry;exact PySem.EqNone.ne_str_none (zN I q (by simp))
  | bl j=>cases ry;exact PySem.EqMixed.ne_str_bool (zN I q (by simp))
  | int j=>obtain⟨t',rfl⟩:=ry;exact PySem.EqMixed.ne_str_int (zN I q (by simp))
  | str j=>obtain⟨t',rfl⟩:=ry;exact ne_str (zN I q (congrArg not zec))
  | _=>exact absurd (show false=true from hs) Yal
 | byt i=>
  obtain⟨t,rfl⟩:=rx;cases y with
  | byt j=>obtain⟨t',rfl⟩:=ry;exact PySem.W.ne_bytes (zN I q (congrArg not zeQ))
  | _=>exact absurd (show false=true from hs) Yal
 | _=>cases y<;>exact absurd (show false=true from hs) Yal
theorem zeo:OpR X (compareOp .Lt) (rI0 fun i j=>.bl (decide (i<j))):=opB0 fun _ _ _ _ _ _ _ q=>lt_int q
theorem zgc:OpR X (compareOp .LtE) (rI0 fun i j=>.bl (decide (i<=j))):=opB0 fun _ _ _ _ _ _ _ q=>le_int q
theorem zkq:OpR X (compareOp .Gt) (rI0 fun i j=>.bl (decide (j<i))):=opB0 fun _ _ _ _ _ _ _ q=>gt_int q
theorem zj3:OpR X (compareOp .GtE) (rI0 fun i j=>.bl (decide (j<=i))):=opB0 fun _ _ _ _ _ _ _ q=>ge_int q
theorem zhD:OpR X (compareOp .IsNot) (fun x y H Q=>y=.non/\Q (.bl (!decide (x=.non))) H):=by
 intro pins s σ H x y v u Q I rx ry h;obtain⟨rfl,q⟩:=h;cases ry;refine isnot_none_gen (zN I q ?_);cases x<;>first
  | (cases rx;rfl)
  | (obtain⟨t,rfl⟩:=rx;rfl)
theorem OpR.or{f:Value->Value->Sem Value}{r r':R2}(h:OpR X f r)(h':OpR X f r'):OpR X f (fun x y H Q=>r x y H Q\/r' x y H Q):=by
 intro pins s σ H x y v u Q I rx ry q
 rcases q with q|q
 . exact h pins s σ H x y v u Q I rx ry q
 . exact h' pins s σ H x y v u Q I rx ry q
theorem nomark(b:Expr){op:CmpOp}(h:op≠.In:=by decide)(h2:op≠.NotIn:=by decide):behindInMarks op b=false:=by
 have e1:(op==CmpOp.In)=false:=by cases op<;>first|rfl|exact absurd rfl h
 have e2:(op==CmpOp.NotIn)=false:=by cases op<;>first|rfl|exact absurd rfl h2
 cases b<;>simp [behindInMarks,e1,e2]
theorem zlR{op:CmpOp}{r:R2}(ho:OpR X (compareOp op) r)(ha:PE X a ta)(hb:PE X b tb)(hm:behindInMarks op b=false):PE X (.Compare a [op] [b] pos) (tOp r ta tb):=by
 intro pins s σ H Q I h;exact wpAny_Compare1 (binT ha hb I h fun v u s2 x y H2 I2 rx ry q=>ho pins s2 σ H2 x y v u Q I2 rx ry q) hm
def za3(t:TE):TT:=fun σ H Q=>t σ H fun x H'=>∃ k,x=.bl k/\Q k H'
theorem zbF{op:CmpOp}{r:R2}(ho:OpR X (compareOp op) r)(ha:PE X a ta)(hb:PE X b tb)(hm:behindInMarks op b=false):PT X (.Compare a [op] [b] pos) (za3 (tOp r ta tb)):=by
 intro pins s σ H Q I h;refine wpAny_isTrue_Compare1 (thn (ha pins s σ H _ I h) fun v s1 ⟨x,H1,I1,r1,q1⟩=>thn (hb pins s1 σ H1 _ I1 q1) fun u s2 ⟨y,H2,I2,r2,q2⟩=>
  thn (ho pins s2 σ H2 x y v u _ I2 r1 r2 q2) fun c s3 ⟨z,H3,I3,r3,k,e,q3⟩=>?_) hm
 subst e;cases r3;exact wpAny_truthy_bool ⟨H3,I3,q3⟩
def zfn(r r':R2)(ta tb tc:TE):TE:=fun σ H Q=>ta σ H fun x H1=>tb σ H1 fun y H2=>r x y H2 fun z H3=>∃ k,z=.bl k/\
 (if k=true then tc σ H3 fun w' H4=>r' y w' H4 Q else Q (.bl false) H3)
theorem zgh{op op':CmpOp}{r r':R2}(ho:OpR X (compareOp op) r)(ho':OpR X (compareOp op') r')(ha:PE X a ta)(hb:PE X b tb)(hc:PE X c tc)
 (hm:lastMarks [op,op'] [b,c]=false:=by with_unfolding_all rfl):PT X (.Compare a [op,op'] [b,c] pos) (za3 (zfn r r' ta tb tc)):=by
 intro pins s σ H Q I h;refine isTrue_chain (thn (ha pins s σ H _ I h) fun v s1 ⟨x,H1,I1,r1,q1⟩=>test_link (thn (hb pins s1 σ H1 _ I1 q1) fun u s2 ⟨y,H2,I2,r2,q2⟩=>
  thn (ho pins s2 σ H2 x y v u _ I2 r1 r2 q2) fun d s3 ⟨z,H3,I3,r3,k,e,q3⟩=>?_)) hm
 subst e;cases r3;refine wpAny_truthy_bool ?_;cases k with
 | false=>
  obtain⟨k',e',q'⟩:=q3;cases e';exact ite_ff ⟨H3,I3,q'⟩
 | true=>
  refine ite_tt (test_last (thn (hc pins s3 σ H3 _ I3 q3) fun w' s4 ⟨z',H4,I4,r4,q4⟩=>thn (ho' pins s4 σ H4 y z' u w' _ I4 r2 r4 q4) fun d' s5 ⟨z2,H5,I5,r5,k2,e2,q5⟩=>?_))
  subst e2;cases r5;exact wpAny_truthy_bool ⟨H5,I5,q5⟩
theorem Je:(sizeLine:Nat)<2 ^ 63:=by rw [sizeLine_eq];decide
theorem zhe:OpR X (binaryOp .Add) (fun x y H Q=>∃ i j,x=.str i/\y=.str j/\i.length+j.length<=sizeLine/\Q (.str (i++j)) H):=by
 intro pins s σ H x y v u Q I rx ry h;obtain⟨i,j,rfl,rfl,hz,q⟩:=h;obtain⟨t,rfl⟩:=rx;obtain⟨t',rfl⟩:=ry;exact add_str (fun t' tk=>⟨.str (i++j),H,I.tok _,⟨_,rfl⟩,q⟩) hz
theorem Jn{x:V}{us:List Value}(r:Vals [x] us):∃ u,us=[u]/\RelV x u:=by
 cases r with
 | cons r1 r2=>cases r2;exact⟨_,rfl,r1⟩
theorem J6{x y:V}{us:List Value}(r:Vals [x,y] us):∃ u w',us=[u,w']/\RelV x u/\RelV y w':=by
 cases r with
 | cons r1 r2=>
  cases r2 with
  | cons r3 r4=>cases r4;exact⟨_,_,rfl,r1,r3⟩
theorem zi1:zQ X (.builtin "abs") (fun xs H Q=>∃ i,xs=[.int i]/\Q (.int (if i<0 then -i else i)) H):=by
 intro pins s σ H xs us Q I r h;obtain⟨i,rfl,q⟩:=h;obtain⟨u,rfl,t,rfl⟩:=Jn r;exact call_abs_int fun u tk=>⟨.int (if i<0 then -i else i),H,I.tok _,⟨_,rfl⟩,q⟩
theorem ziR(hc:X.calm=true):zQ X (.builtin "max") (fun xs H Q=>∃ i j,xs=[.int i,.int j]/\Q (.int (if j > i then j else i)) H):=by
 intro pins s σ H xs us Q I r h;obtain⟨i,j,rfl,q⟩:=h;obtain⟨u,w',rfl,⟨t,rfl⟩,⟨t',rfl⟩⟩:=J6 r;refine max_two_ints (I.ok.hd hc) fun h' tk k=>⟨_,H,I.kept k,?_,q⟩
 by_cases hj:j > i
 . rw [if_pos hj,if_pos hj];exact⟨_,rfl⟩
 . rw [if_neg hj,if_neg hj];exact⟨_,rfl⟩
theorem zlJ(hc:X.calm=true):zQ X (.builtin "min") (fun xs H Q=>∃ i j,xs=[.int i,.int j]/\Q (.int (if j<i then j else i)) H):=by
 intro pins s σ H xs us Q I r h;obtain⟨i,j,rfl,q⟩:=h;obtain⟨u,w',rfl,⟨t,rfl⟩,⟨t',rfl⟩⟩:=J6 r;refine min_two_ints (I.ok.hd hc) fun h' tk k=>⟨_,H,I.kept k,?_,q⟩
 by_cases hj:j<i
 . rw [if_pos hj,if_pos hj];exact⟨_,rfl⟩
 . rw [if_neg hj,if_neg hj];exact⟨_,rfl⟩
end
structure ObjM(h:Heap)(x dx C:Addr)(mA:#[15]):Prop where
 obj:h.get? x=some (PySem.W.instObj C dx)
 ns:h.Ns1 dx mA
 ne:dx≠x
theorem zj5{h:Heap}{dx:Addr}{mA:#[15]}(n:h.Ns1 dx mA):∃ od,h.get? dx=some od/\∀ name,PySem.W.lookIn name od=some (mA name):=by
 obtain⟨o,es,ep,ho,hd,hk,_,hm⟩:=n;refine⟨o,ho,fun name=>?_⟩
 have e:=hm name;unfold nsFind findBy at e;rw [<-Array.find?_toList] at e;unfold PySem.W.lookIn;rw [hd];dsimp only
 split
 . rename_i y q
   rw [q] at e;exact congrArg some e
 . rename_i q
   rw [q] at e;have a:es.toList.any (·.refKey)=false:=by
    rw [List.any_eq_false];intro y hy;obtain⟨z,t,hkey⟩:=hk y (Array.mem_toList_iff.mp hy)
    simp [DictEntry.refKey,hkey]
   have a':¬es.toList.any (·.refKey)=true:=by rw [a];exact Yal
   rw [if_neg a'];exact congrArg some e
theorem ObjM.look{h:Heap}{x dx C:Addr}{mA:#[15]}(I:ObjM h x dx C mA):∃ od,PySem.W.InstAt h x (PySem.W.instObj C dx) C (some od)/\∀ name,PySem.W.lookIn name od=some (mA name):=
 let ⟨od,ho,hl⟩:=zj5 I.ns
 ⟨od,⟨I.obj,rfl,rfl,ho⟩,hl⟩
section
variable{prog:Program}{w:World}{A:Around}{E:#[14]}{s:Shared}{K:Ybf}{x dx C f:Addr}{mA:#[15]}{name:Str}{v:Value}
theorem zi2{expr:Bool}{Q:#[14]}(X:K.In s.heap)(I:ObjM s.heap x dx C mA)(hg:PySem.W.plainGet K C name=true)(hh:PySem.W.hasDictIn K C=true)
 (ha:PySem.W.findIn K (.ref C) name=some none) (hv:mA name=some v) (hv':PySem.W.handedIn v=true) (h:Q v { s with toks:=s.toks+1 }) :
 wpAny (model prog w) A (getAttr (.ref x) name expr) Q E s:=by
 obtain⟨od,J,hl⟩:=I.look;exact PySem.W.get_value X J (PySem.W.plainGet_of hg).1 (PySem.W.findObj_own hh ha rfl (by rw [hl,hv])) hv' h
theorem zjY{ns:List Str}{Q:Unit->Shared->Prop}(X:K.In s.heap)(I:ObjM s.heap x dx C mA)
 (hs:PySem.W.findIn K (.ref C) "__setattr__" = some (some (.builtin "object.__setattr__"))) (hp:PySem.W.plainOver K C=true) (ht:PySem.W.takerIn K C name=some none) (hh:PySem.W.hasDictIn K C=true)
 (hw:PySem.Within mA ns) (hsz:ns.length<=sizeLine)
 (h:∀ h',ObjM h' x dx C (fun y=>if y=name then some v else mA y)->Heap.SameBut dx s.heap h'->Q () { s with heap:=h',toks:=s.toks+2 }) :
 wpAny (model prog w) A (setAttr (.ref x) name v) Q E s:=by
 obtain⟨od,J,hl⟩:=I.look;refine PySem.W.set_plain X J hs (PySem.W.osa_open (s:={ s with toks:=s.toks+1 }) (r:=none) X J hp ht fun b=>?_)
 obtain⟨cd,hc,hd'⟩:=PySem.W.any_some hh;have hx:s.heap.get? x=some ⟨.ref C,some dx,.plain,#[]⟩:=I.obj;refine wpAny_bind (wpAny_pure (wpAny_bind (wpAny_bind (wpAny_loadPart hx (wpAny_bind (PySem.W.Looks.here (s:={ s with toks:=s.toks+1 }) (PySem.W.looks_clsIn X hc) ?_))))))
 rw [hd'];refine wpAny_pure (a:=some dx) (wpAny_bind (wpAny_pure (wpAny_bind ?_)));refine wpAny_nsSet1 (s:={ s with toks:=s.toks+1 }) I.ns fun h' hn2 hs2=>?_
 obtain⟨oD,esD,epD,hoD,hdD,hcD⟩:=hn2.count (PySem.Within.cons name v hw);refine wpAny_bind (wpAny_lookBehind hoD (by rw [hdD];exact pastItsLine_dict (Ya5 hcD (by rw [List.length_cons];omega))) ?_)
 exact wpAny_pure (h _ ⟨(hs2.2 _ (Wbb I.ne)).trans I.obj,hn2,I.ne⟩ hs2)
theorem zgW{R:Result->Shared->Prop}{vs:List Value}{kw:List (Str×Value)}(X:K.In s.heap)(hm:PySem.W.makesIn K C=true)
 (hi:PySem.W.findIn K (.ref C) "__init__" = some (some (.ref f))) (hf:PySem.W.typeIn K (.ref f)=some (.type "function"))
 (h:codeAny (model prog w) (A.under (.builtin "type.__call__" ⟨.ref C::vs,kw⟩)) (.call (.ref f) ⟨.ref #[21]::vs,kw⟩) (PySem.W.InitBack #[21] R)
  { s with heap:=(s.heap.push PySem.W.emptyDict).push (PySem.W.instObj C s.heap.objs.size) }) :
 codeAny (model prog w) A (.call (.ref C) ⟨vs,kw⟩) R s:=by
 obtain⟨hh,g,d,t,os⟩:=s;exact PySem.W.make_core (PySem.W.makes_of X hm) (Wao X hi) (fun self=>PySem.W.bind_fn X self hf) (.inl rfl) h
end
def putF(f:Str)(v:V):List (Str×V)->List (Str×V)
 | []=>[(f,v)]
 | (g,x)::r=>if g=f then(g,v)::r else(g,x)::putF f v r
theorem zd7(f g:Str)(v:V):∀ fs:List (Str×V),(putF f v fs).lookup g=if g=f then some v else fs.lookup g
 | [] => by
  show List.lookup g [(f,v)]=_
  by_cases h:g=f
  . have hb:(g==f)=true:=beq_iff_eq.mpr h
    simp only [List.lookup,hb,if_pos h]
  . have hb:(g==f)=false:=beq_eq_false_iff_ne.mpr h
    simp only [List.lookup,hb,if_neg h]
 | (k, x) :: r => by
  have ih:=zd7 f g v r;rw [show putF f v ((k,x)::r)=(if k=f then(k,v)::r else(k,x)::putF f v r) from rfl]
  by_cases hk:k=f
  . rw [if_pos hk]
    by_cases h:g=k
    . have hb:(g==k)=true:=beq_iff_eq.mpr h
      simp only [List.lookup,hb,if_pos (h.trans hk)]
    . have hb:(g==k)=false:=beq_eq_false_iff_ne.mpr h
      simp only [List.lookup,hb,if_neg (fun e:g=f=>h (e.trans hk.symm))]
  . rw [if_neg hk]
    by_cases h:g=k
    . have hb:(g==k)=true:=beq_iff_eq.mpr h
      simp only [List.lookup,hb,if_neg (fun e:g=f=>hk (h.symm.trans e))]
    . have hb:(g==k)=false:=beq_eq_false_iff_ne.mpr h
      simp only [List.lookup,hb];exact ih
theorem zb8(f:Str)(v:V):∀ fs:List (Str×V),f∈(putF f v fs).map (·.1)/\∀ g,g∈fs.map (·.1)->g∈(putF f v fs).map (·.1)
 | []=>⟨by simp [putF],fun g h=>by simp at h⟩
 | (k, x) :: r => by
  obtain⟨i1,i2⟩:=zb8 f v r;rw [show putF f v ((k,x)::r)=(if k=f then(k,v)::r else(k,x)::putF f v r) from rfl]
  by_cases hk:k=f
  . rw [if_pos hk]
    subst hk;exact⟨by simp,fun g h=>by simpa using h⟩
  . rw [if_neg hk]
    refine⟨?_,fun g h=>?_⟩
    . rw [Ya1]
      exact YaT _ i1
    . rw [Ya1] at h ⊢
      rcases WaU.mp h with e|e
      . exact WaU.mpr (.inl e)
      . exact YaT _ (i2 g e)
theorem zeb(f:Str)(v:V):∀ fs:List (Str×V),(putF f v fs).length<=fs.length+1
 | []=>by simp [putF]
 | (k, x) :: r => by
  have ih:=zeb f v r;rw [show putF f v ((k,x)::r)=(if k=f then(k,v)::r else(k,x)::putF f v r) from rfl]
  by_cases hk:k=f
  . rw [if_pos hk,List.length_cons,List.length_cons];omega
  . rw [if_neg hk,List.length_cons,List.length_cons];omega
theorem RelO.some_of{v:V}{o:Option Value}(r:RelO (some v) o):∃ u,o=some u/\RelV v u:=by
 cases o with
 | none=>exact(show False from r).elim
 | some u=>exact⟨u,rfl,r⟩
theorem zjX{v:V}{u:Value}(r:RelV v u):PySem.W.handedIn u=true:=by
 cases v with
 | non=>cases(show u=Value.none from r);rfl
 | bl b=>cases(show u=Value.bool b from r);rfl
 | int i=>obtain⟨t,e⟩:=(show ∃ t,u=Value.int i t from r);cases e;rfl
 | str x=>obtain⟨t,e⟩:=(show ∃ t,u=Value.str x t from r);cases e;rfl
 | byt b=>obtain⟨t,e⟩:=(show ∃ t,u=Value.bytes b t from r);cases e;rfl
 | flt b=>obtain⟨t,e⟩:=(show ∃ t,u=Value.float b t from r);cases e;rfl
 | ref a=>cases(show u=Value.ref a from r);rfl
 | ty n=>cases(show u=Value.type n from r);rfl
section
variable{P:Program}{w:World}{H H':Hp}{h h':Heap}{a C dx:Addr}{fs fs':List (Str×V)}
theorem ze6(hok:HOk P w H h)(e:H a=some (.ins C dx fs)):∃ mA,ObjM h a dx C mA/\(∀ f,RelO (fs.lookup f) (mA f))/\PySem.Within mA (fs.map (·.1))/\fs.length<=1000/\H dx=some (.own a):=by
 obtain⟨d,z,ne,ob,mA,n,r,q⟩:=(show zJ P w H h a (.ins C dx fs) from hok a _ e)
 exact⟨mA,⟨ob,n,ne⟩,r,q,z,d⟩
end
structure Cls(K:Ybf)(C:Addr):Prop where
 pg:PySem.W.plainGet K C Str.empty=true
 hd:PySem.W.hasDictIn K C=true
 po:PySem.W.plainOver K C=true
 sa:PySem.W.findIn K (.ref C) "__setattr__" = some (some (.builtin "object.__setattr__"))
theorem Cls.get{K:Ybf}{C:Addr}(c:Cls K C)(f:Str):PySem.W.plainGet K C f=true:=c.pg
def zR(K:Ybf)(C:Addr)(f:Str):Prop:=PySem.W.findIn K (.ref C) f=some none
theorem zR.taker{K:Ybf}{C:Addr}{f:Str}(n:zR K C f):PySem.W.takerIn K C f=some none:=by
 unfold PySem.W.takerIn;rw [show PySem.W.findIn K (.ref C) f=some none from n]
 rfl
section
variable{X:Cx}{pins:List #[18]}{σ : St}{H:Hp}{s:Shared}{a C dx:Addr}{fs:List (Str×V)}{f:Str}{v:V}{A:Around}{E:#[14]}
theorem zga{b:Bool}{Q:#[14]}(I:#[11])(e:H a=some (.ins C dx fs))(c:Cls X.K C)(n:zR X.K C f)(l:fs.lookup f=some v)
 (h:∀ u s',Inv X pins σ H s'->RelV v u->Q u s'):wpAny #[12] A (getAttr (.ref a) f b) Q E s:=by
 obtain⟨mA,O,r,_,_,_⟩:=ze6 I.hok e;obtain⟨u,hu,ru⟩:=RelO.some_of (v:=v) (o:=mA f) (by rw [<-l];exact r f)
 exact zi2 I.kIn O (c.get f) c.hd n hu (zjX ru) (h u _ (I.tok _) ru)
theorem zgx{y:V}{u:Value}{Q:Unit->Shared->Prop}(I:#[11])(e:H a=some (.ins C dx fs))(c:Cls X.K C)(n:zR X.K C f)(hl:fs.length<1000)(ry:RelV y u)
 (h:∀ s',Inv X pins σ (upd H a (.ins C dx (putF f y fs))) s'->Q () s'):wpAny #[12] A (setAttr (.ref a) f u) Q E s:=by
 obtain⟨mA,O,r,wi,_,ho⟩:=ze6 I.hok e;have hz:(fs.map (·.1)).length<=sizeLine:=by rw [YaR,sizeLine_eq];omega
 refine zjY I.kIn O c.sa c.po n.taker c.hd wi hz fun h' O' sb=>h _ ?_
 have hd:∃ o,h'.get? dx=some o:=let ⟨o,_,_,e',_⟩:=O'.ns;⟨o,e'⟩;refine I.write (x:=a) (e:=dx) (by rw [e];exact True.intro) (.inr ho) (fun b q hb z=>(sb.2 b hb).trans z) hd ?_
 refine⟨by rw [zd O.ne];exact ho,?_,O.ne,O'.obj,_,O'.ns,fun g=>?_,fun g hg=>?_⟩
 . have:=zeb f y fs;omega
 . show RelO ((putF f y fs).lookup g) (if g=f then some u else mA g)
   rw [zd7]
   by_cases q:g=f
   . rw [if_pos q,if_pos q];exact ry
   . rw [if_neg q,if_neg q];exact r g
 . by_cases q:g=f
   . rw [q];exact(zb8 f y fs).1
   . refine(zb8 f y fs).2 g (wi g fun z=>hg ?_)
     show(if g=f then some u else mA g)=none
     rw [if_neg q];exact z
theorem Inv.made(I:#[11]):Inv X pins σ (upd (upd H s.heap.objs.size (.own #[21])) #[21] (.ins C s.heap.objs.size []))
 { s with heap:=(s.heap.push PySem.W.emptyDict).push (PySem.W.instObj C s.heap.objs.size) }:=by
 have e1:(s.heap.push PySem.W.emptyDict).get? s.heap.objs.size=some PySem.W.emptyDict:=Yan s.heap rfl;have e2:((s.heap.push PySem.W.emptyDict).push (PySem.W.instObj C s.heap.objs.size)).get? #[21]=some (PySem.W.instObj C s.heap.objs.size):=by
  have:=Yan (s.heap.push PySem.W.emptyDict) (o:=PySem.W.instObj C s.heap.objs.size) rfl;rwa [WaR] at this
 have e3:(s.heap.push PySem.W.emptyDict).Ns s.heap.objs.size (fun _=>none):=⟨PySem.W.emptyDict,#[],_,e1,rfl,(fun e he=>absurd he (by simp)),fun _=>rfl⟩
 have I1:=I.laid (a:=s.heap.objs.size) (o:=.own #[21]) (h':=s.heap.push PySem.W.emptyDict) (t':=s.toks) (fun b u q=>YaW _ q) (YaY _) ⟨_,e1⟩
 refine I1.laid (a:=s.heap.objs.size+1) (o:=.ins C s.heap.objs.size []) (t':=s.toks) (fun b u q=>YaW _ q) (Nat.le_of_eq (WaR _ _)) ?_
 have ne:s.heap.objs.size≠s.heap.objs.size+1:=Yaf (WaH _);refine⟨by rw [zd ne,zf],Wa9 _,ne,e2,fun _=>none,(Heap.Ns1.of_empty e3).at fun o q=>YaW _ q,fun _=>True.intro,fun y hy=>absurd rfl hy⟩
theorem zl0{prog:Program}{w:World}{env:Env}{e:Expr}{f:Str}{pos:Pos}{s:Shared}{Q:#[14]}(hb:attributeBase e f env (eval e env)=eval e env)
 (h:wpAny (model prog w) A (eval e env) (fun o s₁=>wpAny (model prog w) A (getAttr o f true) Q E s₁) E s):wpAny (model prog w) A (eval (.Attribute e f pos) env) Q E s:=
 Attribute_any_ h (by rw [arm_eval_Attribute,hb])
end
def tFld(K:Ybf)(ta:TE)(f:Str):TE:=fun σ H Q=>ta σ H fun x H1=>∃ a C dx fs v,x=.ref a/\H1 a=some (.ins C dx fs)/\Cls K C/\zR K C f/\fs.lookup f=some v/\Q v H1
def sFld(K:Ybf)(ta tv:TE)(f:Str):TS:=fun D σ H=>tv σ H fun y H1=>ta σ H1 fun x H2=>∃ a C dx fs,x=.ref a/\H2 a=some (.ins C dx fs)/\Cls K C/\zR K C f/\fs.length<1000/\
 D.nx σ (upd H2 a (.ins C dx (putF f y fs)))
section
variable{X:Cx}{o e value:Expr}{f:Str}{pos pos' tpos:Pos}{ta tv:TE}
theorem jA(he:PE X e ta)(hb:attributeBase e f X.env (eval e X.env)=eval e X.env):PE X (.Attribute e f pos) (tFld X.K ta f):=by
 intro pins s σ H Q I h;refine zl0 hb (thn (he pins s σ H _ I h) fun u s1 ⟨x,H1,I1,rx,a,C,dx,fs,v,ex,ea,c,n,l,q⟩=>?_)
 subst ex;obtain rfl:u=Value.ref a:=rx;exact zga I1 ea c n l fun u' s2 I2 ru=>⟨v,H1,I2,ru,q⟩
theorem zaf(ha:PE X o ta)(hv:PE X value tv)(hs:swapsWith value (some (.Attribute o f pos')) pos.line X.env=pure false):PS X (.Assign [.Attribute o f pos'] value pos) (sFld X.K ta tv f):=by
 intro pins s σ H D I h;refine plainObj_wpAny_Assign_Attribute (thn (hv pins s σ H _ I h) fun u s1 ⟨y,H1,I1,ry,q⟩=>thn (ha pins s1 σ H1 _ I1 q) fun ov s2 ⟨x,H2,I2,rx,a,C,dx,fs,ex,ea,c,n,l,q2⟩=>?_) hs
 subst ex;obtain rfl:ov=Value.ref a:=rx;exact zgx I2 ea c n l ry fun s3 I3=>⟨σ,_,I3,q2⟩
end
section
variable{X:Cx}{pins:List #[18]}{σ : St}{H:Hp}{s:Shared}{A:Around}{E:#[14]}{Q:#[14]}{c:Value}{b:Bool}
end
structure Room(k:Nat)(A:Around):Prop where
 hd:A.handled=none
 dp:A.depth+3*k+5<recursionLimit
 un:A.units+16*k+200<cLine
theorem Room.mono{j k:Nat}{A:Around}(r:Room k A)(h:j<=k):Room j A:=⟨r.hd,by have:=r.dp;omega,by have:=r.un;omega⟩
theorem Room.deeper{k:Nat}{A:Around}(r:Room (k+1) A)(env:Env):Room k (A.deeper env):=
 ⟨r.hd,by have:=r.dp;show A.depth+1+3*k+5<_;omega,by have:=r.un;show A.units+3+16*k+200<_;omega⟩
theorem Room.in1{k:Nat}{A:Around}(r:Room (k+1) A):Room k A.in1:=
 ⟨r.hd,by have:=r.dp;show A.depth+3*k+5<_;omega,by have:=r.un;show A.units+1+16*k+200<_;omega⟩
theorem zgv{A:Around}{C:Addr}{us:List Value}{kw:List (Str×Value)}:(A.under (.builtin "type.__call__" ⟨.ref C::us,kw⟩)).depth=A.depth+1:=by
 first|rfl|simp [Around.under,Code.weight,Code.isCreation,Code.isGuard,Code.isCaller,Code.frames,Code.isFrame,guardIds]
theorem ziz{A:Around}{C:Addr}{us:List Value}{kw:List (Str×Value)}:(A.under (.builtin "type.__call__" ⟨.ref C::us,kw⟩)).units=A.units+1:=by
 first|rfl|simp [Around.under,Code.cUnits,Code.frames,Code.isFrame]
theorem Room.make{k:Nat}{A:Around}(r:Room (k+1) A)(C:Addr)(us:List Value)(kw:List (Str×Value)):Room k (A.under (.builtin "type.__call__" ⟨.ref C::us,kw⟩)):=
 ⟨r.hd,by have:=r.dp;rw [zgv];omega,by have:=r.un;rw [ziz];omega⟩
theorem Room.depth{k:Nat}{A:Around}(r:Room k A):A.depth<recursionLimit:=by have:=r.dp;omega
theorem Room.units{k:Nat}{A:Around}(r:Room k A):A.units+64<cLine:=by have:=r.un;omega
def tNil:TA:=fun _ H Q=>Q [] H
def zhT(ta:TE)(tr:TA):TA:=fun σ H Q=>ta σ H fun x H1=>tr σ H1 fun xs H2=>Q (x::xs) H2
section
variable{X:Cx}{e:Expr}{es:List Expr}{te:TE}{t:TA}{pos:Pos}
theorem zF:PA X [] tNil:=fun _ _ _ _ H Q I h=>Calls.spliced_nil ⟨[],H,I,.nil,h⟩
theorem zl(ha:PE X e te)(hr:PA X es t)(hs:#[13]:=by rfl):PA X (e::es) (zhT te t):=by
 intro pos pins s σ H Q I h;rw [hs];show wpAny _ _ (spliced ((false,eval e X.env)::backTo pos (starEach es X.env))) _ _ s;refine Calls.spliced_cons (thn (ha pins s σ H _ I h) fun u s1 ⟨x,H1,I1,r1,q1⟩=>?_)
 exact thn (hr pos pins s1 σ H1 _ I1 q1) fun us s2 ⟨xs,H2,I2,r2,q2⟩=>⟨x::xs,H2,I2,.cons r1 r2,q2⟩
def tTup(t:TA):TE:=fun σ H Q=>t σ H fun xs H1=>xs.length<=sizeLine/\∀ p,H1 p=none->Q (.ref p) (upd H1 p (.tup xs))
def tLst(t:TA):TE:=fun σ H Q=>t σ H fun xs H1=>xs.length<=sizeLine/\∀ p,H1 p=none->Q (.ref p) (upd H1 p (.lst xs))
theorem zaI{x1}(h:PA X es t):PE X (.Tuple es x1 pos) (tTup t):=by
 intro pins s σ H Q I hq;refine wpAny_Tuple_spliced (thn (h pos pins s σ H _ I hq) fun us s1 ⟨xs,H1,I1,r,z,q⟩=>⟨by rw [<-r.length];exact z,?_⟩)
 have hf:H1 s1.heap.objs.size=none:=I1.hok.fresh (YaY _);refine⟨.ref s1.heap.objs.size,upd H1 s1.heap.objs.size (.tup xs),I1.laid (t':=s1.toks) (fun b u e=>YaW _ e) (YaY _) ?_,rfl,q _ hf⟩
 exact⟨z,us,r,⟨_,Yan _ rfl,rfl,_,rfl⟩⟩
theorem zbX(h:PA X es t):PE X (.List es pos) (tLst t):=by
 intro pins s σ H Q I hq;refine wpAny_List_spliced (thn (h pos pins s σ H _ I hq) fun us s1 ⟨xs,H1,I1,r,z,q⟩=>⟨by rw [<-r.length];exact z,?_⟩)
 have hf:H1 s1.heap.objs.size=none:=I1.hok.fresh (YaY _);refine⟨.ref s1.heap.objs.size,upd H1 s1.heap.objs.size (.lst xs),I1.laid (t':=s1.toks) (fun b u e=>YaW _ e) (YaY _) ?_,rfl,q _ hf⟩
 exact⟨z,us,0,r,Yan _ rfl⟩
end
abbrev Sp:=List V->Hp->VK->XK->Prop
abbrev CXT:=List Env->Hp->Shared->XK->Value->Shared->Prop
structure Env0(P:Program)(w:World)(K:Ybf)(mg:#[15])(base:Heap)(A:Around)(outer:List Env)(s:Shared)(H:Hp):Prop where
 frames:A.frames=some outer
 mod:Mod K mg base
 bs:∀ b o,base.get? b=some o->s.heap.get? b=some o/\H b=none
 bsz:base.objs.size<=s.heap.objs.size
 funs:s.heap.FunFrames base outer
 frf:∀ b∈frs outer,H b=none
 hok:HOk P w H s.heap
 bare:AllBare s.gens
def CE(outer:List Env)(P:Program)(w:World)(H:Hp)(s:Shared)(Q:VK)(u:Value)(s':Shared):Prop:=
 ∃ v H',s'.os=s.os/\AllBare s'.gens/\Un (frs outer) [] H H' s.heap s'.heap/\HOk P w H' s'.heap/\RelV v u/\Q v H'
def CR(CX:CXT)(outer:List Env)(P:Program)(w:World)(H:Hp)(s:Shared)(Q:VK)(E:XK)(r:Result)(s':Shared):Prop:=
 match r with
 | .ok (.ret u)=>CE outer P w H s Q u s'
 | .ok _=>False
 | .error e=>CX outer H s E e s'
structure FnOk(P:Program)(w:World)(K:Ybf)(mg:#[15])(base:Heap)(CX:CXT)(k:Nat)(f:Addr)(fd:FuncData)(ps:List Str)(sp:Sp):Prop where
 len:∀ vs H Q E,sp vs H Q E->vs.length=ps.length
 run:∀ (A:Around) (outer:List Env) (s:Shared) (H:Hp) (args:Args) (us:List Value) (vs:List V) (Q:VK) (E:XK),Room k A->Env0 P w K mg base A outer s H->BindsTo s fd args (ps.zip us)->Vals vs us->sp vs H Q E->
  codeAny (model P w) A (.call (.ref f) args) (CR CX outer P w H s Q E) s
theorem Env0.make{P:Program}{w:World}{K:Ybf}{mg:#[15]}{base:Heap}{A:Around}{outer:List Env}{s:Shared}{H:Hp}(e:Env0 P w K mg base A outer s H)(C:Addr)(us:List Value)(kw:List (Str×Value)) :
 Env0 P w K mg base (A.under (.builtin "type.__call__" ⟨.ref C::us,kw⟩)) outer s H:=⟨by first|exact e.frames|(simpa [Around.under,Code.envs,Code.isFrame,pushEnvs] using e.frames),e.mod,e.bs,e.bsz,e.funs,e.frf,e.hok,e.bare⟩
section
variable{X:Cx}{pins:List #[18]}{σ : St}{H:Hp}{s s':Shared}
theorem Inv.env0(I:#[11]):Env0 X.prog X.w X.K X.mg X.base X.A X.stack s H:=
 ⟨I.ok.frames,I.ok.mod,I.bs,Ya5 I.ok.bsz I.sz,I.stack,I.stkFree,I.hok,I.bare⟩
theorem Inv.after{Q:VK}{u:Value}(I:#[11])(h:CE X.stack X.prog X.w H s Q u s'):EP X pins σ Q u s':=by
 obtain⟨v,H',os,bare,un,hok,r,q⟩:=h;obtain⟨hh,g,d,t,os'⟩:=s';obtain rfl:os'=s.os:=os;exact⟨v,H',I.call (h':=hh) (g':=g) (d':=d) (t':=t) (ch:=[]) un hok bare (fun b z=>absurd z (by simp)),r,q⟩
end
def zel(sp:Sp)(dvs:List V)(E:XK)(t:TA):TE:=fun σ H Q=>t σ H fun vs H1=>sp (vs++dvs) H1 Q E
def zkl(C:Addr)(sp:Sp)(dvs:List V)(E:XK)(t:TA):TE:=fun σ H Q=>t σ H fun vs H1=>∀ x dx,H1 x=none->H1 dx=none->dx≠x->
 sp (.ref x::(vs++dvs)) (upd (upd H1 dx (.own x)) x (.ins C dx [])) (fun v H2=>v=.non/\Q (.ref x) H2) E
def Binds(K:Ybf)(fd:FuncData)(ps:List Str)(ds:List Value):Prop:=
 ∀ (s:Shared) (us:List Value),K.In s.heap->(us++ds).length=ps.length->BindsTo s fd ⟨us,[]⟩ (ps.zip (us++ds))
theorem Binds.all{K:Ybf}{fd:FuncData}{ps:List Str}(h:∀ us:List Value,us.length=ps.length->bindArgs fd ⟨us,[]⟩=pure (ps.zip us)):Binds K fd ps []:=fun s us _ hl=>by
 rw [Yao] at hl ⊢;exact .of_eq (h us hl)
def Passes(CX:CXT)(X:Cx)(E:XK):Prop:=∀ (pins:List #[18]) (σ : St) (H:Hp) (s:Shared) (e:Value) (s':Shared),Inv X pins σ H s->CX X.stack H s E e s'->X.xe e s'
section
variable{X:Cx}{CX:CXT}{k:Nat}{f C:Addr}{fd:FuncData}{ps:List Str}{sp:Sp}{dvs:List V}{ds:List Value}{E:XK}{x m:Str}{p pos apos:Pos}{e o:Expr}{es:List Expr}{ta:TE}{t:TA}
theorem ziV{pins:List #[18]}{σ : St}{H:Hp}{s:Shared}{Q:VK}{us:List Value}{vs:List V}(F:FnOk X.prog X.w X.K X.mg X.base CX k f fd ps sp)(hr:Room k X.A)(hb:Binds X.K fd ps ds)(hd:Vals dvs ds)(hx:Passes CX X E)
 (I:#[11]) (r:Vals vs us) (h:sp (vs++dvs) H Q E):wpAny #[12] X.A (call (.ref f) us) (EP X pins σ Q) X.xe s:=by
 have r2:Vals (vs++dvs) (us++ds):=r.append hd;have hl:(us++ds).length=ps.length:=by rw [<-r2.length];exact F.len _ _ _ _ h
 refine wpAny_call (codeAny_mono (F.run X.A X.stack s H ⟨us,[]⟩ (us++ds) (vs++dvs) Q E hr I.env0 (hb s us I.kIn hl) r2 h) fun r s' hq=>?_)
 cases r with
 | error e=>exact hx pins σ H s e s' I hq
 | ok fl=>
  cases fl with
  | ret u=>exact I.after hq
  | next=>exact False.elim hq
  | brk=>exact False.elim hq
  | cont=>exact False.elim hq
theorem zli(F:FnOk X.prog X.w X.K X.mg X.base CX k f fd ps sp)(hr:Room k X.A)(hg:Gl X x)(hm:X.mg x=some (.ref f))(hk:PySem.W.keepIn X.K (.ref f)=true)(hb:Binds X.K fd ps ds)(hd:Vals dvs ds)(hx:Passes CX X E)
 (ha:PA X (e::es) t) (hdb:#[23]:=by decide) (he:#[13]:=by rfl) (hpl:(backTo pos (starEach es X.env)).any (·.1)=false:=by rfl) :
 PE X #[16] (zel sp dvs E t):=by
 intro pins s σ H Q I h;refine wpAny_Call_Name_kw (Zf I hg hm ?_ hdb);refine PySem.W.callWith_K (h₀:=X.base) I.ok.mod.kin hk (thn (ha pos pins s σ H _ I h) fun us s1 ⟨vs,H1,I1,r,q⟩=>⟨I1.kIn,?_⟩) he hpl
 exact ziV F hr hb hd hx I1 r q
structure Mk(K:Ybf)(C f:Addr):Prop where
 makes:PySem.W.makesIn K C=true
 init:PySem.W.findIn K (.ref C) "__init__" = some (some (.ref f))
 fn:PySem.W.isFn K (.ref f)=true
 kp:PySem.W.keepIn K (.ref C)=true
theorem zg6{pins:List #[18]}{σ : St}{H:Hp}{s:Shared}{Q:VK}{us:List Value}{vs:List V}(M:Mk X.K C f)(F:FnOk X.prog X.w X.K X.mg X.base CX k f fd ps sp)(hr:Room (k+1) X.A)(hb:Binds X.K fd ps ds)(hd:Vals dvs ds)
 (hx:Passes CX X E) (I:#[11]) (r:Vals vs us)
 (h:∀ x dx,H x=none->H dx=none->dx≠x->sp (.ref x::(vs++dvs)) (upd (upd H dx (.own x)) x (.ins C dx [])) (fun v H2=>v=.non/\Q (.ref x) H2) E) :
 wpAny #[12] X.A (call (.ref C) us) (EP X pins σ Q) X.xe s:=by
 have hq:=h #[21] s.heap.objs.size (I.hok.fresh (Nat.le_succ _)) (I.hok.fresh (YaY _)) (Yaf (WaH _));have I2:=Inv.made (C:=C) I;have r2:Vals (V.ref #[21]::(vs++dvs)) (Value.ref #[21]::(us++ds)):=.cons rfl (r.append hd);have hl:(Value.ref #[21]::us++ds).length=ps.length:=by
  have e:=r2.length;rw [F.len _ _ _ _ hq] at e;exact e.symm
 refine wpAny_call (zgW (f:=f) I.kIn M.makes M.init (beq_iff_eq.mp M.fn) (codeAny_mono (F.run _ X.stack _ _ ⟨Value.ref #[21]::us,[]⟩ (Value.ref #[21]::(us++ds)) _ _ E (hr.make C us [])
  (I2.env0.make C us []) (hb _ (Value.ref #[21]::us) I2.kIn hl) r2 hq) fun r s' hq'=>?_))
 cases r with
 | error e=>exact hx pins σ _ _ e s' I2 hq'
 | ok fl=>
  cases fl with
  | ret u=>
   obtain⟨v,H',I3,rv,ev,q3⟩:=I2.after hq';subst ev;exact⟨rv,⟨V.ref #[21],H',I3,rfl,q3⟩⟩
  | next=>exact False.elim hq'
  | brk=>exact False.elim hq'
  | cont=>exact False.elim hq'
theorem zj7(M:Mk X.K C f)(F:FnOk X.prog X.w X.K X.mg X.base CX k f fd ps sp)(hr:Room (k+1) X.A)(hg:Gl X x)(hm:X.mg x=some (.ref C))(hb:Binds X.K fd ps ds)(hd:Vals dvs ds)(hx:Passes CX X E)
 (ha:PA X (e::es) t) (hdb:#[23]:=by decide) (he:#[13]:=by rfl) (hpl:(backTo pos (starEach es X.env)).any (·.1)=false:=by rfl) :
 PE X #[16] (zkl C sp dvs E t):=by
 intro pins s σ H Q I h;refine wpAny_Call_Name_kw (Zf I hg hm ?_ hdb);refine PySem.W.callWith_K (h₀:=X.base) I.ok.mod.kin M.kp (thn (ha pos pins s σ H _ I h) fun us s1 ⟨vs,H1,I1,r,q⟩=>⟨I1.kIn,?_⟩) he hpl
 exact zg6 M F hr hb hd hx I1 r q
end
section
variable{X:Cx}{CX:CXT}{k:Nat}{f C:Addr}{fd:FuncData}{ps ks:List Str}{sp:Sp}{E:XK}{x m:Str}{p pos apos kpos:Pos}{e o:Expr}{es:List Expr}{kws:List Keyword}{te ta:TE}{t tk:TA}{nm:Option Str}
variable{g:List Value->List Value->List Value}{gV:List V->List V->List V}
end
structure FnScope(N P:List Str)(sc:Scope):Prop where
 kind:sc.kind=.function
 co:sc.isCoroutine=false
 gen:sc.isGenerator=false
 nd:N.Nodup
 pre:N.take P.length=P
 par:∀ x∈P,sc.names.lookup x=some .local\/sc.names.lookup x=some .cell
 nofree:∀ y∈sc.names,y.2≠.free
theorem zfW{kindOf:Str->Option NameKind}{x:Str}:∀ {binds:List (Str×Value)} {m:#[15]},(∀ v,(x,v)∉binds)->bindL kindOf binds m x=m x
 | [],_,_=>rfl
 | (n, v) :: r, m, h => by
  unfold bindL;rw [zfW fun w hw=>h w (YaT _ hw)]
  split
  . have:x≠n:=by rintro rfl;exact h v YaV
    simp [this]
  . rfl
theorem zdN{kindOf:Str->Option NameKind}{x:Str}:∀ {binds:List (Str×Value)} {m:#[15]},(∀ v,(x,v)∉binds)->bindC kindOf binds m x=m x
 | [],_,_=>rfl
 | (n, v) :: r, m, h => by
  unfold bindC;rw [zdN fun w hw=>h w (YaT _ hw)]
  split
  . rfl
  . have:x≠n:=by rintro rfl;exact h v YaV
    simp [this]
theorem zfS{kindOf:Str->Option NameKind}{x:Str}{v:Value}:∀ {P:List Str} {vs:List Value} {i:Nat} {m:#[15]},P.Nodup->P[i]?=some x->vs[i]?=some v->kindOf x=some .local->
 bindL kindOf (P.zip vs) m x=some v
 | [],_,_,_,_,h,_,_=>by simp at h
 | _::_,[],_,_,_,_,h,_=>by simp at h
 | p :: P, w :: vs, 0, m, nd, h1, h2, hk => by
  simp at h1 h2;subst h1;subst h2
  show bindL kindOf ((p,w)::P.zip vs) m p=_
  unfold bindL;rw [zfW fun v hv=>(YaB.mp nd).1 (List.of_mem_zip hv).1,if_pos hk]
  simp
 | p :: P, w :: vs, i + 1, m, nd, h1, h2, hk => by
  show bindL kindOf ((p,w)::P.zip vs) m x=_
  unfold bindL;exact zfS (i:=i) (YaB.mp nd).2 (by simpa using h1) (by simpa using h2) hk
theorem zfJ{kindOf:Str->Option NameKind}{x:Str}{v:Value}:∀ {P:List Str} {vs:List Value} {i:Nat} {m:#[15]},P.Nodup->P[i]?=some x->vs[i]?=some v->kindOf x≠some .local->
 bindC kindOf (P.zip vs) m x=some v
 | [],_,_,_,_,h,_,_=>by simp at h
 | _::_,[],_,_,_,_,h,_=>by simp at h
 | p :: P, w :: vs, 0, m, nd, h1, h2, hk => by
  simp at h1 h2;subst h1;subst h2
  show bindC kindOf ((p,w)::P.zip vs) m p=_
  unfold bindC;rw [zdN fun v hv=>(YaB.mp nd).1 (List.of_mem_zip hv).1,if_neg hk]
  simp
 | p :: P, w :: vs, i + 1, m, nd, h1, h2, hk => by
  show bindC kindOf ((p,w)::P.zip vs) m x=_
  unfold bindC;exact zfJ (i:=i) (YaB.mp nd).2 (by simpa using h1) (by simpa using h2) hk
def start(N:List Str)(vs:List V):St:=vs.map some++List.replicate (N.length - vs.length) none
def cxOf(CX:CXT)(P:Program)(w:World)(K:Ybf)(mg:#[15])(base:Heap)(N:List Str)(qual:Str)(scope:Scope)(f:Addr)(cd:Value)(A:Around)(outer:List Env)(s:Shared)(H:Hp)(E:XK):Cx where
 prog:=P
 w:=w
 K:=K
 mg:=mg
 base:=base
 A:=A.deeper (envOfC qual scope s.heap.objs.size f cd)
 N:=N
 s₀:=s
 H₀:=H
 env:=envOfC qual scope s.heap.objs.size f cd
 outer:=outer
 stack:=envOfC qual scope s.heap.objs.size f cd::outer
 ex:=[]
 calm:=true
 fn:=fun _=>true
 pn:=[]
 xe:=fun e s'=>wpAny (model P w) (A.deeper (envOfC qual scope s.heap.objs.size f cd)) (leaving (envOfC qual scope s.heap.objs.size f cd) e) (fun _ s''=>CX outer H s E e s'') (fun e' s''=>CX outer H s E e' s'') s'
theorem zfK{sc:Scope}{n:Nat}{x:Str}(h:sc.names.lookup x=some .cell):∃ c,(cellsFrom n sc.names []).lookup x=some c:=by
 have q:=Waj sc.names n [] (.inl h);exact Wae.mp q
theorem zhp{CX:CXT}{P:Program}{w:World}{K:Ybf}{mg:#[15]}{base:Heap}{N ps:List Str}{qual:Str}{scope:Scope}{f:Addr}{cd:Value}{A:Around}{outer:List Env}{s s1:Shared}{H:Hp}{E:XK}{us:List Value}{vs:List V}
 (S:FnScope N ps scope) (hd:A.handled=none) (e0:Env0 P w K mg base A outer s H) (hl:vs.length=ps.length) (r:Vals vs us)
 (x:InCallC s s.heap.objs.size (bindL (envOfC qual scope s.heap.objs.size f cd).kindOf (ps.zip us) fun _=>none) (cellsFrom #[21] scope.names []) (bindC (envOfC qual scope s.heap.objs.size f cd).kindOf (ps.zip us) fun _=>none) s1) :
 Inv (cxOf CX P w K mg base N qual scope f cd A outer s H E) [] (start N vs) H s1:=by
 have hpl:ps.length<=N.length:=by have:=congrArg List.length S.pre;rw [WaI] at this;omega
 obtain⟨h1,tk,rfl,hk⟩:=x.done;have noA:∀ b:Addr,b∉(cxOf CX P w K mg base N qual scope f cd A outer s H E).ex:=fun b z=>absurd (show b∈([]:List Addr) from z) (by simp)
 refine⟨⟨e0.mod,S.kind,rfl,rfl,YaY _,fun y z c h1 h2=>?_,fun y hy=>?_,fun y c _ h=>?_,fun _=>hd,Around.frames_deeper e0.frames,.inr ⟨rfl,rfl⟩,fun b z=>absurd z (noA b),e0.bs,e0.bsz,fun b _ _=>noA b,fun b z=>absurd z (noA b),e0.funs,e0.frf⟩,
  rfl,e0.bare,Un.kept hk,⟨_,x.toInCall.ns,fun i y v h1 h2 h3=>?_⟩,fun y c h=>⟨_,x.cell y c h⟩,e0.hok.fresh (YaY _),fun y c h=>?_,fun p hp=>absurd (show p∈([]:List #[18]) from hp) (by simp),e0.hok.kept hk,?_⟩
 . exact name_of_addr x.apart (Wap h1) (Wap h2)
 . have hy:scope.names.lookup y=some .cell\/scope.names.lookup y=some .free:=hy
   rcases hy with hy|hy
   . exact zfK hy
   . exact absurd rfl (S.nofree _ (Wap hy))
 . exact Wa2 (x.above y c (Wap h))
 . have hi:i<vs.length:=by
    unfold start at h2
    by_cases hi:i<vs.length
    . exact hi
    . rw [Yae (by simpa using hi)] at h2
      rw [Yad] at h2
      split at h2<;>cases h2
   have ha:vs[i]?=some v:=by
    unfold start at h2;rw [Yab (by simpa using hi),Ya0] at h2
    cases e:vs[i]? with
    | none=>rw [e] at h2;cases h2
    | some a=>rw [e] at h2;cases h2;rfl
   obtain⟨u,hu,rv⟩:=r.get ha;have hp:ps[i]?=some y:=by
    rw [<-S.pre,List.getElem?_take_of_lt #[0]];exact h1
   have ndP:ps.Nodup:=by rw [<-S.pre];exact S.nd.sublist (List.take_sublist _ _)
   refine⟨u,rv,?_⟩
   rcases S.par y (Yah hp) with k|k
   . exact .inl ⟨k,zfS ndP hp hu k⟩
   . obtain⟨c,e⟩:=zfK (n:=s.heap.objs.size+1) k
     refine .inr ⟨.inl k,c,e,?_⟩
     have q:=x.cell y c e;rw [zfJ ndP hp hu (by show scope.names.lookup y≠_;rw [k];decide)] at q
     exact q
 . exact e0.hok.fresh (Wa2 (x.above y c (Wap h)))
 . unfold start
   show _=N.length
   rw [YaS,YaR,Ybb]
   omega
theorem zbg{CX:CXT}{P:Program}{w:World}{K:Ybf}{mg:#[15]}{base:Heap}{k:Nat}{f:Addr}{name qual:Str}{params:Arguments}{body:List Stmt}{scope:Scope}{dV kV doc pm cdv ct oc:Value}{an od:Option Addr}
 {osl:Array (Option Value)} {N ps:List Str} {sp:Sp} (lk:K.lookup f=some ⟨oc,od,.func (PySem.W.fnOf name qual params body scope dV kV doc pm an cdv ct),osl⟩) (hcd:PySem.W.codeIn K cdv qual=true) (S:FnScope N ps scope)
 (len:∀ vs H Q E,sp vs H Q E->vs.length=ps.length)
 (hbody:∀ (A:Around) (outer:List Env) (s:Shared) (H:Hp) (vs:List V) (Q:VK) (E:XK),Room k (A.deeper (envOfC qual scope s.heap.objs.size f cdv))->sp vs H Q E->
  ∃ t,PSs (cxOf CX P w K mg base N qual scope f cdv A outer s H E) body t/\t { nx:=fun _ H'=>Q .non H',rt:=Q } (start N vs) H) :
 FnOk P w K mg base CX (k+1) f (PySem.W.fnOf name qual params body scope dV kV doc pm an cdv ct) ps sp:=by
 refine⟨len,fun A outer s H args us vs Q E hr e0 hb r hsp=>?_⟩
 have hl:=len _ _ _ _ hsp;have KX:K.In s.heap:=e0.mod.kin.keeps fun b o e=>(e0.bs b o e).1
 have lim:s.heap.NoLimit:=e0.mod.nolimit.keeps fun b o e=>(e0.bs b o e).1
 have hkind:∀ y∈ps.zip us,scope.names.lookup y.1=some .local\/(scope.names.lookup y.1=some .cell/\((cellsFrom #[21] scope.names []).lookup y.1).isSome=true):=fun⟨n,v⟩ hy=>by
  rcases S.par n (List.of_mem_zip hy).1 with q|q
  . exact .inl q
  . exact .inr ⟨q,Waj _ _ _ (.inl q)⟩
 refine codeAny_call_function hr.depth (KX _ _ lk) rfl S.co S.gen rfl (PySem.W.codeRec_of KX hcd) (hb _ _ _ _ ?_)
 refine wpAny_newFunctionEnv_cells S.kind hkind fun env he s1 x=>?_
 subst he;refine⟨lim.keeps x.toInCall.keep,codeAny_func ?_⟩;obtain⟨t,ht,hq⟩:=hbody A outer s H vs Q E (hr.deeper _) hsp;have I:Inv (cxOf CX P w K mg base N qual scope f cdv A outer s H E) [] (start N vs) H s1:=zhp S hr.hd e0 hl r x;refine wpAny_mono (ht [] s1 (start N vs) H _ I hq) (fun fl s' hs=>?_) fun e s' hs=>hs
 have fin:∀ {σ':St} {H':Hp} {v:V} {u:Value},Inv (cxOf CX P w K mg base N qual scope f cdv A outer s H E) [] σ' H' s'->RelV v u->Q v H'->CE outer P w H s Q u s':=
  fun {σ' H' v u} J rv q=>⟨v,H',J.os,J.bare,J.base,J.hok,rv,q⟩
 cases fl with
 | ret u=>
  obtain⟨v,σ',H',J,rv,q⟩:=hs;exact fin J rv q
 | next=>
  obtain⟨σ',H',J,q⟩:=hs;exact fin (v:=V.non) (u:=Value.none) J rfl q
 | brk=>
  obtain⟨_,_,_,q⟩:=hs;exact False.elim q
 | cont=>
  obtain⟨_,_,_,q⟩:=hs;exact False.elim q
section
variable{X:Cx}{x:Str}{p pos:Pos}{e:Expr}{es:List Expr}{t:TA}{id T:String}{r:List V->Hp->VK->Prop}
def tCB(r:List V->Hp->VK->Prop)(t:TA):TE:=fun σ H Q=>t σ H fun vs H1=>r vs H1 Q
theorem Jc(hc:zQ X (.builtin id) r)(hg:Gl X x)(hm:X.mg x=none)(hv:bootBuiltins x=some (.builtin id))(ha:PA X (e::es) t)(hn:x≠"__name__":=by decide)(hdb:#[23]:=by decide)
 (he:#[13]:=by rfl) (hpl:(backTo pos (starEach es X.env)).any (·.1)=false:=by rfl):PE X #[16] (tCB r t):=by
 intro pins s σ H Q I h;refine wpAny_Call_Name_kw (JA I hg hm hv ?_ hn hdb);exact PyProof.Rows.callWith_builtin1 (thn (ha pos pins s σ H _ I h) fun us s1 ⟨vs,H1,I1,r1,q1⟩=>hc pins s1 σ H1 vs us Q I1 r1 q1) he hpl
theorem zge(hc:zQ X (.type T) r)(hg:Gl X x)(hm:X.mg x=none)(hv:bootBuiltins x=some (.type T))(ha:PA X (e::es) t)(hn:x≠"__name__":=by decide)(hdb:#[23]:=by decide)
 (he:#[13]:=by rfl) (hpl:(backTo pos (starEach es X.env)).any (·.1)=false:=by rfl):PE X #[16] (tCB r t):=by
 intro pins s σ H Q I h;refine wpAny_Call_Name_kw (JA I hg hm hv ?_ hn hdb);exact Wab (thn (ha pos pins s σ H _ I h) fun us s1 ⟨vs,H1,I1,r1,q1⟩=>hc pins s1 σ H1 vs us Q I1 r1 q1) he hpl
end
end L2
namespace HT
open PySem PyProof.Rows
section
open PySem.SeqAt
open PySem.AutoSeq1 (wpAny_loadPart')
open PySem.MeetsSeq PySem.MeetsSeq2 PySem.MeetsSeq3
end
section
variable{prog:Program}{w:World}{A:Around}{E:#[14]}{s:Shared}
def sIx(n d:Nat):Option Int->Nat
 | none=>d
 | some v=>if v<0 then(v+(n:Int)).toNat else min v.toNat n
theorem sIx_none(n d:Nat):sIx n d none=d:=rfl
theorem sIx_nat(n d k:Nat):sIx n d (some (k:Int))=min k n:=by
 show(if(k:Int)<0 then((k:Int)+(n:Int)).toNat else min (k:Int).toNat n)=min k n
 rw [if_neg #[0],Int.toNat_natCast]
end
end HT
namespace L2
open PySem PySem.Spec PyProof.Rows
abbrev TO:=St->Hp->(Option Int->Hp->Prop)->Prop
def PO(X:Cx)(e:Option Expr)(t:TO):Prop:=
 ∀ (pins:List #[18]) (s:Shared) (σ : St) (H:Hp) (Q:Option Int->Hp->Prop),Inv X pins σ H s->t σ H Q->
  wpAny #[12] X.A (evalPart e X.env) (fun u s'=>∃ o H',Inv X pins σ H' s'/\IsPart u o/\Q o H') X.xe s
def tNoPart:TO:=fun _ H Q=>Q none H
def zla(t:TE):TO:=fun σ H Q=>t σ H fun x H1=>∃ i,x=.int i/\Q (some i) H1
theorem zbw{ns:List Int}:∀ {us:List Value},Vals (ns.map V.int) us->IntsAre us ns:=by
 induction ns with
 | nil=>intro us r;rw [Wa4] at r;cases r;exact .nil
 | cons n ns ih=>
  intro us r;rw [Ya1] at r;cases r with
  | cons r1 r2=>
   obtain⟨t,e⟩:=r1;subst e;exact .cons n t (ih r2)
section
variable{X:Cx}{e:Expr}{te:TE}{lo hi:Option Expr}{tl th:TO}{pos p2:Pos}
theorem ziT:PO X none tNoPart:=by
 intro pins s σ H Q I h;rw [evalPart_none];exact wpAny_pure ⟨none,H,I,.none,h⟩
theorem zjk(h:PE X e te):PO X (some e) (zla te):=by
 intro pins s σ H Q I hw;rw [evalPart_some];refine thn (h pins s σ H _ I hw) fun u s1 ⟨x,H1,I1,r1,q1⟩=>?_
 obtain⟨i,rfl,q⟩:=q1;obtain⟨t,rfl⟩:=r1;exact⟨some i,H1,I1,.int i t,q⟩
def SlR(X:Cx)(r:V->Option Int->Option Int->Hp->VK->Prop):Prop:=
 ∀ (pins:List #[18]) (s:Shared) (σ : St) (H:Hp) (x:V) (v vl vu:Value) (lo hi:Option Int) (sl:Addr) (Q:VK),Inv X pins σ H s->RelV x v->s.heap.IsSliceOf sl vl vu .none->IsPart vl lo->IsPart vu hi->r x lo hi H Q->
  ∃ T id,typeLookup (.type T) "__getitem__" = pure (some (.builtin id))/\s.TypeIs v T/\wpAny #[12] X.A (getItem v (.ref sl)) (EP X pins σ Q) X.xe s
def tSl(r:V->Option Int->Option Int->Hp->VK->Prop)(te:TE)(tl th:TO):TE:=fun σ H Q=>te σ H fun x H1=>tl σ H1 fun l H2=>th σ H2 fun u H3=>r x l u H3 Q
theorem zhS{r:V->Option Int->Option Int->Hp->VK->Prop}(hr:SlR X r)(he:PE X e te)(hl:PO X lo tl)(hu:PO X hi th):PE X (.Subscript e (.Slice lo hi none p2) pos) (tSl r te tl th):=by
 intro pins s σ H Q I h;refine Subscript_ (thn (he pins s σ H _ I h) fun v s1 ⟨x,H1,I1,r1,q1⟩=>?_)
 refine wpAny_Slice (thn (hl pins s1 σ H1 _ I1 q1) fun vl s2 ⟨l,H2,I2,pl,q2⟩=>thn (hu pins s2 σ H2 _ I2 q2) fun vu s3 ⟨u,H3,I3,pu,q3⟩=>?_)
 rw [evalPart_none];refine wpAny_pure ?_;have I4:Inv X pins σ H3 { s3 with heap:=s3.heap.push { cls:=.type "slice", data:=.fields #[vl,vu,.none] } }:=I3.kept (t':=s3.toks) fun b ob q=>YaW _ q
 obtain⟨T,id,hT,ht,hg⟩:=hr pins { s3 with heap:=s3.heap.push { cls:=.type "slice", data:=.fields #[vl,vu,.none] } } σ H3 x v vl vu l u s3.heap.objs.size Q I4 r1 (Heap.IsSliceOf.new ..) pl pu q3
 show wpAny #[12] X.A (subscriptTail e (.Slice lo hi none p2) v (.ref s3.heap.objs.size)) (EP X pins σ Q) X.xe { s3 with heap:=s3.heap.push { cls:=.type "slice", data:=.fields #[vl,vu,.none] } }
 exact tail_any (ops:=[.ref s3.heap.objs.size,v]) ht hT hg (by with_unfolding_all rfl)
def cutV(xs:List V)(lo hi:Option Int):List V:=(xs.drop (HT.sIx xs.length 0 lo)).take (HT.sIx xs.length xs.length hi - HT.sIx xs.length 0 lo)
theorem zgM(xs:List V)(lo hi:Option Int):(cutV xs lo hi).length<=xs.length:=by
 unfold cutV;rw [WaI,List.length_drop]
 omega
end
def ixN(n:Nat)(i:Int):Option Nat:=if 0<=i then(if i<n then some i.toNat else none) else if -(n:Int)<=i then some (i+n).toNat else none
def atI{α : Type}(xs:List α)(i:Int):Option α:=(ixN xs.length i).bind fun j=>xs[j]?
theorem zer{n:Nat}{i:Int}{j:Nat}(h:ixN n i=some j):seqIndex? i n=some j/\j<n/\-(n:Int)<=i/\i<n:=by
 unfold ixN at h
 by_cases h0:0<=i
 . rw [if_pos h0] at h
   by_cases h1:i<n
   . rw [if_pos h1] at h
     have e:i.toNat=j:=WaP h;exact⟨by rw [seqIndex_of h0 h1,e],#[0],#[0],h1⟩
   . rw [if_neg h1] at h;cases h
 . rw [if_neg h0] at h
   by_cases h1:-(n:Int)<=i
   . rw [if_pos h1] at h
     have e:(i+n).toNat=j:=WaP h;exact⟨by rw [seqIndex_neg #[0] h1,e],#[0],h1,#[0]⟩
   . rw [if_neg h1] at h;cases h
theorem zbp{α : Type}{xs:List α}{i:Int}{v:α}(h:atI xs i=some v):∃ j,seqIndex? i xs.length=some j/\xs[j]?=some v/\j<xs.length/\-(xs.length:Int)<=i/\i<xs.length:=by
 unfold atI at h;cases e:ixN xs.length i with
 | none=>rw [e] at h;cases h
 | some j=>
  rw [e] at h;obtain⟨h1,h2,h3,h4⟩:=zer e;exact⟨j,h1,h,h2,h3,h4⟩
theorem jd{α : Type}{xs:List α}{j:Nat}{v:α}(h:xs[j]?=some v):atI xs (j:Int)=some v:=by
 have hj:j<xs.length:=(Ya8.mp h).1;have e:ixN xs.length (j:Int)=some j:=by
  unfold ixN;rw [if_pos #[0],if_pos #[0]];simp
 unfold atI;rw [e];exact h
theorem zff{α : Type}(xs:List α)(v:α):atI (xs++[v]) (-1)=some v:=by
 have hl:(xs++[v]).length=xs.length+1:=by simp
 have e:ixN (xs++[v]).length (-1)=some xs.length:=by
  unfold ixN;rw [hl,if_neg #[1],if_pos #[0]]
  congr 1
  omega
 unfold atI;rw [e];show(xs++[v])[xs.length]?=some v
 simp
def Zs(b:Expr):Prop:=∀ o i,subscripted b false o i=operate [o,i] (getItem o i)
def IxR(X:Cx)(r:R2):Prop:=
 ∀ (value slice:Expr) (pins:List #[18]) (s:Shared) (σ : St) (H:Hp) (x y:V) (v u:Value) (Q:VK),Inv X pins σ H s->RelV x v->RelV y u->r x y H Q->
  subscripted slice false v u=operate [v,u] (getItem v u)->wpAny #[12] X.A (subscriptTail value slice v u) (EP X pins σ Q) X.xe s
def MtR(X:Cx)(id:String)(r:V->List V->Hp->VK->Prop):Prop:=
 ∀ (pins:List #[18]) (s:Shared) (σ : St) (H:Hp) (x:V) (xs:List V) (v:Value) (us:List Value) (Q:VK),Inv X pins σ H s->RelV x v->Vals xs us->r x xs H Q->
  wpAny #[12] X.A (call (.builtin id) (v::us)) (EP X pins σ Q) X.xe s
section
variable{X:Cx}{a b:Expr}{ta tb:TE}{pos:Pos}
theorem IxR.or{r r':R2}(h:IxR X r)(h':IxR X r'):IxR X (fun x y H Q=>r x y H Q\/r' x y H Q):=by
 intro value slice pins s σ H x y v u Q I rx ry q hs
 rcases q with q|q
 . exact h value slice pins s σ H x y v u Q I rx ry q hs
 . exact h' value slice pins s σ H x y v u Q I rx ry q hs
theorem jI{r:R2}(hr:IxR X r)(ha:PE X a ta)(hb:PE X b tb)(hs:Zs b):PE X (.Subscript a b pos) (tOp r ta tb):=by
 intro pins s σ H Q I h;exact Subscript_ (binT ha hb I h fun v u s2 x y H2 I2 rx ry q=>hr a b pins s2 σ H2 x y v u Q I2 rx ry q (hs _ _))
def rIxL(K:Ybf):R2:=fun x y H Q=>∃ p xs i v,x=.ref p/\y=.int i/\SqL K H p xs/\atI xs i=some v/\Q v H
def rIxT(K:Ybf):R2:=fun x y H Q=>∃ p xs i v,x=.ref p/\y=.int i/\SqT K H p xs/\atI xs i=some v/\Q v H
def rIxS:R2:=fun x y H Q=>∃ z i c,x=.str z/\y=.int i/\z.length<=sizeLine/\atI z.cps.toList i=some c/\Q (.str ⟨#[c]⟩) H
theorem Ja:IxR X (rIxL X.K):=by
 intro value slice pins s σ H x y v u Q I rx ry h hs;obtain⟨p,xs,i,z,rfl,rfl,hq,he,q⟩:=h;cases rx;obtain⟨t,rfl⟩:=ry;obtain⟨its,r,pl,hz⟩:=I.list hq;obtain⟨j,h1,h2,h3,h4,h5⟩:=zbp he;obtain⟨w,ew,rw'⟩:=r.get h2;have hl:=r.length;have hn:=Je;have fin:EP X pins σ Q w s:=⟨z,H,I,rw',q⟩
 by_cases h0:0<=i
 . have hj:i.toNat=j:=by
    rw [seqIndex_of h0 h5] at h1;exact WaP h1
   exact item_listR pl.isList h0 #[0] (by rw [hj];simpa using ew) fin hs
 . have hj:(i+(its.toArray.size:Int)).toNat=j:=by
    rw [seqIndex_neg #[0] h4] at h1
    rw [YaZ,<-hl];exact WaP h1
   exact subscriptTail_builtinR (x:=w) pl.isList.typeIs slot_list_getitem.lookup
    (wpAny_getItem_list_neg (Q:=fun r s'=>r=w/\EP X pins σ Q r s') pl.isList #[0] (by rw [YaZ]<;>omega) #[0] (by rw [hj];simpa using ew) ⟨rfl,fin⟩) hs
theorem zbG:IxR X (rIxT X.K):=by
 intro value slice pins s σ H x y v u Q I rx ry h hs;obtain⟨p,xs,i,z,rfl,rfl,hq,he,q⟩:=h;cases rx;obtain⟨t,rfl⟩:=ry;obtain⟨its,r,pl,hz⟩:=I.tuple hq;obtain⟨j,h1,h2,h3,h4,h5⟩:=zbp he;obtain⟨w,ew,rw'⟩:=r.get h2;have hl:=r.length;have hn:=Je;have fin:EP X pins σ Q w s:=⟨z,H,I,rw',q⟩;exact subscriptTail_builtinR (x:=w) pl.typeIs slot_tuple_getitem.lookup
  (getItem_tuple (j:=j) (Q:=fun r s'=>r=w/\EP X pins σ Q r s') pl #[0] #[0] (by rw [YaZ,<-hl];exact h1) (by simpa using ew) ⟨rfl,fin⟩) hs
theorem zgF:IxR X rIxS:=by
 intro value slice pins s σ H x y v u Q I rx ry h hs;obtain⟨z,i,c,rfl,rfl,hz,he,q⟩:=h;obtain⟨t,rfl⟩:=rx;obtain⟨t',rfl⟩:=ry;obtain⟨j,h1,h2,h3,h4,h5⟩:=zbp he;have hl:z.cps.toList.length=z.length:=by simp [Str.length]
 rw [hl] at h1 h4 h5;have hn:=Je;exact tail_any (typeIs_str s z t) slot_str_getitem.lookup (getItem_str (c:=c) (by
  have e1:decide (i < -(2 ^ 63:Int))=false:=decide_eq_false #[0]
  have e2:decide (i>=2 ^ 63)=false:=decide_eq_false #[0]
  rw [e1,e2,WaV]) (by rw [h1];simpa using h2) ⟨.str ⟨#[c]⟩,H,I.tok _,⟨_,rfl⟩,q⟩) hs
def rIx(K:Ybf):R2:=fun x y H Q=>rIxL K x y H Q\/rIxT K x y H Q\/rIxS x y H Q
theorem zhr:IxR X (rIx X.K):=Ja.or (zbG.or zgF)
theorem zgw(its:List Value)(n j:Nat)(u:Value):Obj.mapSeq (·.setIfInBounds j u) { cls:=.type "list", data:=.seq its.toArray n } = { cls:=.type "list", data:=.seq (its.set j u).toArray n }:=by
 simp [Obj.mapSeq]
theorem Inv.lst{pins:List #[18]}{σ : St}{H:Hp}{s:Shared}{p:Addr}{xs:List V}(I:#[11])(h:H p=some (.lst xs)) :
 ∃ (its:List Value) (n:Nat),Vals xs its/\s.heap.get? p=some { cls:=.type "list", data:=.seq its.toArray n }/\xs.length<=sizeLine:=by
 obtain⟨z,its,n,r,e⟩:=I.hok p _ h;exact⟨its,n,r,e,z⟩
theorem Inv.lstUpd{pins:List #[18]}{σ : St}{H:Hp}{s:Shared}{p:Addr}{xs ys:List V}{its its':List Value}{n n':Nat}{f:Obj->Obj}(I:#[11])(h:H p=some (.lst xs))
 (ho:s.heap.get? p=some { cls:=.type "list", data:=.seq its.toArray n }) (hf:f { cls:=.type "list", data:=.seq its.toArray n } = { cls:=.type "list", data:=.seq its'.toArray n' }) (r:Vals ys its') (hz:ys.length<=sizeLine) (t:Nat) :
 Inv X pins σ (upd H p (.lst ys)) { s with heap:=s.heap.update p f,toks:=t }:=by
 have e:(s.heap.update p f).get? p=some { cls:=.type "list", data:=.seq its'.toArray n' }:=by
  rw [Heap.get?_update_self f ho (by rw [hf]<;>rfl),hf]
 refine I.write (x:=p) (e:=p) (by rw [h];trivial) (.inl rfl) (fun b u hb q=>(Heap.get?_update_other _ _ (Wbb hb)).trans q) ⟨_,e⟩ ?_
 exact⟨hz,its',n',r,e⟩
def rSetL:V->V->V->Hp->(Hp->Prop)->Prop:=fun o i v H Q=>∃ p xs k j,o=.ref p/\i=.int k/\H p=some (.lst xs)/\ixN xs.length k=some j/\Q (upd H p (.lst (xs.set j v)))
theorem ZG:PSet X rSetL:=by
 intro pins s σ H o i v ov iv u Q I ro ri rv h;obtain⟨p,xs,k,j,rfl,rfl,hp,hj,q⟩:=h;cases ro;obtain⟨t,rfl⟩:=ri;obtain⟨its,n,r,ho,hz⟩:=I.lst hp;obtain⟨h1,h2,h3,h4⟩:=zer hj;have hl:=r.length;have hn:=Je;have I':Inv X pins σ (upd H p (.lst (xs.set j v))) { s with heap:=s.heap.update p (Obj.mapSeq (·.setIfInBounds j u)) }:=
  I.lstUpd hp ho (zgw its n j u) (r.set rv j) (by rw [YaN];exact hz) s.toks
 by_cases h0:0<=k
 . have hk:k.toNat=j:=by
    rw [seqIndex_of h0 h4] at h1;exact WaP h1
   exact PySem.W.ki_setAt ho h0 #[0] (by rw [YaZ,<-hl];exact h4) (by rw [hk];exact⟨_,I',q⟩)
 . have hk:(k+(its.toArray.size:Int)).toNat=j:=by
    rw [seqIndex_neg #[0] h3] at h1
    rw [YaZ,<-hl];exact WaP h1
   exact PySem.W.ki_setBack ho #[0] (by rw [YaZ,<-hl];exact h3) #[0] (by rw [hk];exact⟨_,I',q⟩)
theorem ziQ(lo hi:Option Int)(n:Nat):(sliceBounds lo hi none n).1=((HT.sIx n 0 lo:Nat):Int)/\(sliceBounds lo hi none n).2.1=((HT.sIx n n hi:Nat):Int)/\(sliceBounds lo hi none n).2.2=1:=by
 refine⟨?_,?_,rfl⟩
 . cases lo with
   | none=>simp [sliceBounds,HT.sIx]
   | some i=>
    simp only [sliceBounds,HT.sIx,Option.getD_none,show(1:Int) > 0 by decide,if_true]
    by_cases h:i<0
    . simp only [h,if_true]<;>omega
    . simp only [h,if_false]<;>omega
 . cases hi with
   | none=>simp [sliceBounds,HT.sIx]
   | some i=>
    simp only [sliceBounds,HT.sIx,Option.getD_none,show(1:Int) > 0 by decide,if_true]
    by_cases h:i<0
    . simp only [h,if_true]<;>omega
    . simp only [h,if_false]<;>omega
theorem zhb(its:List Value)(lo hi:Option Int):slicePick its.toArray lo hi none=((its.drop (HT.sIx its.length 0 lo)).take (HT.sIx its.length its.length hi - HT.sIx its.length 0 lo)).toArray:=by
 obtain⟨h1,h2,h3⟩:=ziQ lo hi its.toArray.size;unfold slicePick;rw [h1,h2,h3];simp only [sliceRange_one,pick_run,YaZ]<;>rfl
def rSlL(K:Ybf):V->Option Int->Option Int->Hp->VK->Prop:=fun x lo hi H Q=>∃ a xs,x=.ref a/\SqL K H a xs/\∀ p,H p=none->Q (.ref p) (upd H p (.lst (cutV xs lo hi)))
theorem zir:SlR X (rSlL X.K):=by
 intro pins s σ H x v vl vu lo hi sl Q I rx hs pl pu h;obtain⟨a,xs,rfl,hx,q⟩:=h;cases rx;obtain⟨its,r,ht,hz⟩:=I.list hx;have hlen:=r.length;refine⟨"list", _,slot_list_getitem.lookup,ht.isList.typeIs,?_⟩;refine wpAny_getItem_list_slice ht.isList hs pl pu .none (by simp) ?_ (by rw [YaZ]<;>omega)
 rw [zhb,<-hlen];refine⟨.ref s.heap.objs.size,_,I.laid (t':=s.toks) (o:=.lst (cutV xs lo hi)) (fun b ob q=>YaW _ q) (YaY _) ?_,rfl,q _ (I.hok.fresh (YaY _))⟩
 exact⟨Ya5 (zgM xs lo hi) hz,_,0,(r.drop (HT.sIx xs.length 0 lo)).take (HT.sIx xs.length xs.length hi - HT.sIx xs.length 0 lo),Yan _ rfl⟩
theorem ZH:zQ X (.builtin "len") (fun xs H Q=>∃ p ys,xs=[.ref p]/\(SqL X.K H p ys\/SqT X.K H p ys)/\Q (.int ys.length) H):=by
 intro pins s σ H xs us Q I r h;obtain⟨p,ys,rfl,hq,q⟩:=h;obtain⟨u,rfl,rx⟩:=Jn r;cases rx;have hn:=Je
 rcases hq with hq|hq
 . obtain⟨its,r',pl,hz⟩:=I.list hq
   have hlen:=r'.length;exact Calls.call_len_list pl.isList (by simp only [YaZ]<;>omega) ⟨.int ys.length,H,I.tok _,⟨s.toks+1,by rw [YaZ,hlen]⟩,q⟩
 . obtain⟨its,r',pl,hz⟩:=I.tuple hq
   have hlen:=r'.length;exact len_tuple pl (by simp only [YaZ]<;>omega) ⟨.int ys.length,H,I.tok _,⟨s.toks+1,by rw [YaZ,hlen]⟩,q⟩
theorem zkw:zQ X (.builtin "len") (fun xs H Q=>∃ z,xs=[.str z]/\z.length<=sizeLine/\Q (.int z.length) H):=by
 intro pins s σ H xs us Q I r h;obtain⟨z,rfl,hz,q⟩:=h;obtain⟨u,rfl,t,rfl⟩:=Jn r;have hn:=Je;exact len_str #[0] ⟨.int z.length,H,I.tok _,⟨_,rfl⟩,q⟩
theorem zQ.or{f:Value}{r r':List V->Hp->VK->Prop}(h:zQ X f r)(h':zQ X f r'):zQ X f (fun xs H Q=>r xs H Q\/r' xs H Q):=by
 intro pins s σ H xs us Q I rs q
 rcases q with q|q
 . exact h pins s σ H xs us Q I rs q
 . exact h' pins s σ H xs us Q I rs q
theorem zlr:zQ X (.type "list") (fun xs H Q=>∃ p ys,xs=[.ref p]/\(SqL X.K H p ys\/SqT X.K H p ys)/\∀ l,H l=none->Q (.ref l) (upd H l (.lst ys))):=by
 intro pins s σ H xs us Q I r h;obtain⟨p,ys,rfl,hq,q⟩:=h;obtain⟨u,rfl,rx⟩:=Jn r;cases rx;have fin:∀ (its:List Value),Vals ys its->ys.length<=sizeLine->∀ (h':Heap) (c':Nat),(∀ b o',s.heap.get? b=some o'->h'.get? b=some o')->
  h'.get? s.heap.objs.size=some { cls:=.type "list", dict:=none,data:=.seq its.toArray c',slots:=#[] }->EP X pins σ Q (.ref s.heap.objs.size) { s with heap:=h' }:=fun its r' hz h' c' kp e=>
  ⟨.ref s.heap.objs.size,_,I.laid (t':=s.toks) kp (YaY _) (show zJ X.prog X.w _ h' _ (.lst ys) from⟨hz,its,c',r',e⟩),rfl,q _ (I.hok.fresh (YaY _))⟩
 rcases hq with hq|hq
 . obtain⟨its,r',pl,hz⟩:=I.list hq
   have hlen:=r'.length;obtain⟨o,ho,hc,n,hd⟩:=pl.isList;exact call_list_seq p (.inl rfl) ho hc hd (fun h' c' kp e=>fin its r' hz h' c' kp e) (by simp only [YaZ]<;>omega)
 . obtain⟨its,r',pl,hz⟩:=I.tuple hq
   have hlen:=r'.length;obtain⟨o,ho,hc,n,hd⟩:=pl;exact call_list_seq p (.inr rfl) ho hc hd (fun h' c' kp e=>fin its r' hz h' c' kp e) (by simp only [YaZ]<;>omega)
def tyV(K:Ybf)(T:String)(x:V)(H:Hp):Prop:=match x with
 | .str _=>T = "str"
 | .int _=>T = "int"
 | .ref p => (T = "list" /\ ∃ xs, SqL K H p xs) \/ (T = "tuple" /\ ∃ o, K.lookup p = some o /\ o.cls = .type "tuple" /\ o.dict = none) \/
  (T = "dict"/\((∃ kvs,H p=some (.dK kvs))\/∃ kvs,H p=some (.dT kvs)))\/(T = "set"/\∃ S n,H p=some (.set S n))
 | _=>False
theorem zke{pins:List #[18]}{σ : St}{H:Hp}{s:Shared}{T:String}{x:V}{v:Value}(I:#[11])(r:RelV x v)(ty:tyV X.K T x H) :
 s.TypeIs v T/\∀ a,v=.ref a->∃ ob,s.heap.get? a=some ob/\ob.dict=none:=by
 cases x with
 | str z=>
  obtain⟨t,rfl⟩:=r;cases(show T = "str" from ty)
  exact⟨typeIs_str s z t,fun _ e=>nomatch e⟩
 | int i=>
  obtain⟨t,rfl⟩:=r;cases(show T = "int" from ty)
  exact⟨typeIs_int s i t,fun _ e=>nomatch e⟩
 | ref p=>
  cases r
  rcases ty with ⟨rfl,xs,hq⟩|⟨rfl,o,hk,hc,hd⟩|⟨rfl,hk⟩|⟨rfl,S,n,hk⟩
  . obtain⟨its,_,pl,_⟩:=I.list hq
    refine⟨pl.isList.typeIs,fun a e=>?_⟩
    cases e;obtain⟨o,n,e,c,hd,_⟩:=pl
    exact⟨o,e,hd⟩
  . refine⟨⟨o,I.kIn p o hk,hc⟩,fun a e=>?_⟩
    cases e;exact⟨o,I.kIn _ o hk,hd⟩
  . have z:∃ o,s.heap.get? p=some o/\o.ExactDict:=by
     rcases hk with ⟨kvs,hk⟩|⟨kvs,hk⟩
     . obtain⟨_,_,_,_,o,_,_,e,ex,_⟩:=I.hok p _ hk
       exact⟨o,e,ex⟩
     . obtain⟨_,_,_,_,o,_,_,e,ex,_⟩:=I.hok p _ hk
       exact⟨o,e,ex⟩
    obtain⟨o,e,ex⟩:=z;refine⟨⟨o,e,ex.1⟩,fun a e2=>?_⟩
    cases e2;exact⟨o,e,ex.2.1⟩
  . obtain⟨o,_,_,_,e,ex,_⟩:=I.hok p _ hk
    refine⟨⟨o,e,ex.1⟩,fun a e2=>?_⟩
    cases e2;exact⟨o,e,ex.2.1⟩
 | _=>exact False.elim ty
def tBM(K:Ybf)(T:String)(r:V->List V->Hp->VK->Prop)(to:TE)(t:TA):TE:=fun σ H Q=>to σ H fun x H1=>tyV K T x H1/\t σ H1 fun xs H2=>r x xs H2 Q
variable{o e:Expr}{es:List Expr}{to:TE}{t:TA}{name:Str}{apos cpos:Pos}{T id:String}{r:V->List V->Hp->VK->Prop}
theorem zaZ(pa:PlainAttrs T)(slot:Slot T name id)(hty:typeOf (.builtin id)=pure (.type "method_descriptor"))(hm:MtR X id r)(ho:PE X o to)(ha:PA X (e::es) t)
 (hbase:attributeBase o name X.env (eval o X.env)=eval o X.env:=by rfl)
 (hfew:((backTo cpos (starEach (e::es) X.env)).all (fun x=>!x.1)&&(backToKw cpos (keywordEach [] X.env)).all (fun x=>x.1.isSome)
  && decide ((e::es).length+([]:List Keyword).length+(if([]:List Keyword).isEmpty then 0 else 1)<30))=true:=by rfl)
 (hline:(apos.endLine==cpos.line)=true:=by rfl) (hs:#[13]:=by rfl) (hplain:(backTo cpos (starEach es X.env)).any (·.1)=false:=by rfl) :
 PE X (.Call (.Attribute o name apos) (e::es) [] cpos) (tBM X.K T r to t):=by
 intro pins s σ H Q I h;refine wpAny_Call_method_late hbase hfew hline rfl (thn (ho pins s σ H _ I h) fun v s1 ⟨x,H1,I1,r1,ty,q1⟩=>?_)
 obtain⟨h1,h2⟩:=zke I1 r1 ty;refine⟨T,id,pa,slot,hty,h1,h2,?_⟩;have hA:=ha cpos pins s1 σ H1 _ I1 q1;rw [hs] at hA ⊢;refine Calls.callWith_builtin (by show(false||(backTo cpos (starEach es X.env)).any (·.1))=false;rw [hplain]<;>rfl) (Calls.evalArgs_plain ?_)
 exact thn hA fun us s2 ⟨vs,H2,I2,r2,q2⟩=>hm pins s2 σ H2 x vs v us Q I2 r1 r2 q2
end
def MtM(X:Cx)(id:String)(r:V->List V->Hp->VK->Prop):Prop:=
 ∀ (pins:List #[18]) (s:Shared) (σ : St) (H:Hp) (x:V) (xs:List V) (v:Value) (us:List Value) (Q:VK),Inv X pins σ H s->RelV x v->Vals xs us->r x xs H Q->
  wpAny #[12] X.A (call (.builtin id) (v::us)) (EP X pins σ Q) X.xe s
theorem Vals.one:∀ {x:V} {us:List Value},Vals [x] us->∃ u,us=[u]/\RelV x u
 | _,_,.cons r .nil=>⟨_,rfl,r⟩
theorem Vals.rep{xs:List V}{us:List Value}(h:Vals xs us):∀ k:Nat,Vals (List.replicate k xs).flatten (List.replicate k us).flatten
 | 0=>.nil
 | k + 1 => by
  rw [List.replicate_succ,List.replicate_succ,List.flatten_cons,List.flatten_cons];exact Vals.append h (Vals.rep h k)
theorem zfm(its:List Value):∀ (k:Nat) (acc:List Value),
 List.foldl (fun x1 x2=>x1++x2) acc.toArray (List.replicate k its.toArray)=(acc++(List.replicate k its).flatten).toArray
 | 0,acc=>by simp
 | k + 1, acc => by
  have e:acc.toArray++its.toArray=(acc++its).toArray:=by simp
  have e2:(acc++its)++(List.replicate k its).flatten=acc++(List.replicate (k+1) its).flatten:=by
   rw [List.replicate_succ,List.flatten_cons,Yag]
  rw [<-e2,<-zfm its k (acc++its),<-e,List.replicate_succ,List.foldl_cons]
section
variable{X:Cx}{pins:List #[18]}{σ : St}{H:Hp}{s:Shared}{l b:Addr}{xs ys zs:List V}
theorem Inv.lset{its its':List Value}{n:Nat}{f:Array Value->Array Value}{t':Nat}(I:#[11])(hH:H l=some (.lst xs))
 (e:s.heap.get? l=some { cls:=.type "list", data:=.seq its.toArray n }) (hf:f its.toArray=its'.toArray) (hv:Vals ys its') (hz:ys.length<=sizeLine) :
 Inv X pins σ (upd H l (.lst ys)) { s with heap:=s.heap.update l (Obj.mapSeq f),toks:=t' }:=by
 have q:=PySem.IsL.update e f;rw [hf] at q;refine I.write (x:=l) (e:=l) (by rw [hH];exact trivial) (.inl rfl) (fun b' u hb hu=>(Heap.get?_update_other s.heap (Obj.mapSeq f) (Wbb hb)).trans hu) ⟨_,q⟩ ?_
 exact⟨hz,its',_,hv,q⟩
theorem Inv.lnew{its:List Value}{t':Nat}(I:#[11])(hv:Vals ys its)(hz:ys.length<=sizeLine) :
 Inv X pins σ (upd H s.heap.objs.size (.lst ys)) { s with heap:=s.heap.push { cls:=.type "list", data:=.seq its.toArray },toks:=t' }:=
 I.laid (fun _ _ q=>YaW _ q) (YaY _) ⟨hz,its,0,hv,Yan _ rfl⟩
theorem Inv.fresh(I:#[11]):H s.heap.objs.size=none:=I.hok.fresh (YaY _)
theorem Inv.lstM(I:#[11])(hH:H l=some (.lst xs)):xs.length<=sizeLine/\∃ (its:List Value) (n:Nat),Vals xs its/\xs.length=its.length/\s.heap.get? l=some { cls:=.type "list", data:=.seq its.toArray n }:=by
 obtain⟨z,its,n,r,e⟩:=I.hok l _ hH;exact⟨z,its,n,r,r.length,e⟩
theorem zf5{n:Nat}(h:n<=sizeLine):Builtin.List.listTooLong n=false:=by
 unfold Builtin.List.listTooLong;exact decide_eq_false #[0]
end
section
variable{X:Cx}
def rAppend:V->List V->Hp->VK->Prop:=fun x vs H Q=>∃ l xs y,x=.ref l/\vs=[y]/\H l=some (.lst xs)/\xs.length<sizeLine/\Q .non (upd H l (.lst (xs++[y])))
theorem zfd:MtM X "list.append" rAppend:=by
 intro pins s σ H x vs v us Q I rx rv h;obtain⟨l,xs,y,rfl,rfl,hH,hz,q⟩:=h;cases rx;obtain⟨u,rfl,ru⟩:=rv.one;obtain⟨z,its,n,r,hl,e⟩:=I.lstM hH;refine call_meets F.slot_list_append ⟨_,e,rfl⟩ F.entry_list_append (F.args_list_append_2 _ _) (PySem.list_append l its.toArray n u (by rw [YaZ];omega)) ⟨e,?_⟩
 refine⟨.non,_,I.lset (its':=its++[u]) hH e (by simp) (r.append (.cons ru .nil)) ?_,rfl,q⟩
 rw [YaS,List.length_singleton]
 omega
def rExtend:V->List V->Hp->VK->Prop:=fun x vs H Q=>∃ l b xs zs,x=.ref l/\vs=[.ref b]/\H l=some (.lst xs)/\H b=some (.lst zs)/\xs.length+zs.length<=sizeLine/\Q .non (upd H l (.lst (xs++zs)))
theorem zlQ:MtM X "list.extend" rExtend:=by
 intro pins s σ H x vs v us Q I rx rv h;obtain⟨l,b,xs,zs,rfl,rfl,hH,hB,hz,q⟩:=h;cases rx;obtain⟨u,rfl,ru⟩:=rv.one;cases ru;obtain⟨z,its,n,r,hl,e⟩:=I.lstM hH;obtain⟨z2,its2,n2,r2,hl2,e2⟩:=I.lstM hB;have hsz:its.toArray.size+its2.toArray.size<=sizeLine:=by rw [YaZ,YaZ];omega
 have hlong:¬(!its.toArray.isEmpty&&Builtin.List.listTooLong (its.toArray.size+its2.toArray.size))=true:=by
  rw [zf5 hsz,Bool.and_false];exact Yal
 refine call_meets F.slot_list_extend ⟨_,e,rfl⟩ F.entry_list_extend (F.args_list_extend_2 _ _)
  (AutoSeq1.list_extend_list_list_0 l its.toArray n b its2.toArray n2 hlong (by rw [YaZ];omega) #[0]) ⟨e,e2,?_⟩
 refine⟨.non,_,I.lset (its':=its++its2) hH e (by simp) (r.append r2) ?_,rfl,q⟩
 rw [YaS]
 omega
def rRep:R2:=fun x y H Q=>∃ l k xs,x=.ref l/\y=.int k/\H l=some (.lst xs)/\-(2 ^ 63)<=k/\k<2 ^ 63/\xs.length*k.toNat<=sizeLine/\
 ∀ p,H p=none->Q (.ref p) (upd H p (.lst (List.replicate k.toNat xs).flatten))
theorem zjt{α : Type}(xs:List α)(k:Nat):(List.replicate k xs).flatten.length=k*xs.length:=by
 induction k with
 | zero=>simp
 | succ k ih=>rw [List.replicate_succ,List.flatten_cons,YaS,ih,Nat.succ_mul,Nat.add_comm]
theorem ziU:OpR X (binaryOp .Mult) rRep:=by
 intro pins s σ H x y v u Q I rx ry h;obtain⟨l,k,xs,rfl,rfl,hH,h1,h2,hz,q⟩:=h;cases rx;obtain⟨t,rfl⟩:=ry;obtain⟨z,its,n,r,hl,e⟩:=I.lstM hH;have hlen:its.toArray.size*k.toNat<=sizeLine:=by rw [YaZ,<-hl];exact hz
 have hcap:¬its.toArray.size*k.toNat > (2 ^ 63 - 1)/8:=by
  have:(sizeLine:Nat)<=(2 ^ 63 - 1)/8:=#[1]
  omega
 have hfit:¬(!Builtin.List.listFitsIndex k)=true:=by
  rw [fitsIndex_both h1 h2];exact Yal
 have hlong:¬Builtin.List.listTooLong (its.toArray.size*k.toNat)=true:=by
  rw [zf5 hlen];exact Yal
 have hnew:List.foldl (fun x1 x2=>x1++x2) #[] (List.replicate (if its.toArray.isEmpty=true then 0 else k.toNat) its.toArray)=(List.replicate k.toNat its).flatten.toArray:=by
  have f0:∀ m:Nat,List.foldl (fun x1 x2=>x1++x2) #[] (List.replicate m its.toArray)=(List.replicate m its).flatten.toArray:=fun m=>by
   have:=zfm its m [];rw [List.nil_append] at this;exact this
  rw [f0];cases its with
  | nil=>simp
  | cons a r'=>rw [if_neg (by simp)]
 refine wpAny_binaryOp_repeat_ref (T:="list") (U:="int") #[1] ⟨_,e,rfl⟩ (fun s'=>typeIs_int s' k t) noFill_list_mul F.fills_int_mul F.slot_int_rmul repeat_list F.slot_int_index.lookup
  (call_meets F.slot_int_rmul (typeIs_int s k t) F.entry_int_rmul (F.args_int_rmul_2 _ _) (int___rmul___int_list k t l its.toArray n)
   ⟨e,rfl,⟨_,e,rfl⟩,call_meets F.slot_list_mul ⟨_,e,rfl⟩ F.entry_list_mul (F.args_list_mul_2 _ _) (AutoListH.list___mul___list_int_3 l its.toArray n k t hfit hcap hlong) ⟨e,?_⟩⟩)
 rw [hnew];exact⟨.ref _,_,I.lnew (t':=s.toks) (r.rep k.toNat) (by rw [zjt,Nat.mul_comm];exact hz),rfl,q _ I.fresh⟩
end
section
variable{prog:Program}{w:World}{A:Around}{E:#[14]}{s:Shared}
end
section
variable{X:Cx}
end
end L2
namespace Att
open PySem PySem.W PySem.Calls PyProof.Rows
theorem zlh{P:Params}{h:Heap}:∀ (ns:List Int) (vs:List Value),WellAll P h vs (ns.map WData.int)->IntsAre vs ns:=by
 intro ns
 induction ns with
 | nil=>
  intro vs w;rw [Wa4] at w;cases w;exact .nil
 | cons n ns ih=>
  intro vs w;rw [Ya1] at w;cases w with
  | cons a b=>
   cases a;exact .cons _ _ (ih _ b)
theorem zgT{l:OpenLaw}{n:Nat}(hn:l.most=some n){P:Params}{h:Heap}{args:List WData}{vals:List Value}
 (hpre:l.row.toRowW.claim.pre args=true) (hwl:WellAll P h vals args) :
 ∃ a vs ns,vals=[Value.ref a]/\args=[WData.list (ns.map WData.int)]/\h.get? a=some { cls:=.type "list", data:=.seq vs.toArray }/\IntsAre vs ns/\ns.length<=n:=by
 have hsh:WShape.hasAll [] args [.list .int]=true:=(pre_splitW hpre).1;have hc:l.pre.holds [] { args:=args }=true:=(pre_splitW hpre).2;obtain⟨d,r,rfl,h1,h2⟩:=hasAllW_cons hsh;obtain rfl:=hasAllW_nil h2;obtain⟨xs,rfl,h3⟩:=hasW_list h1;obtain⟨ns,rfl⟩:=items_int h3;have hlen:ns.length<=n:=by
  unfold OpenLaw.pre at hc;have h4:(WTm.not (.lt (.lit (.int (n:Int))) (.len (.arg 0)))).holds [] { args:=[.list (ns.map .int)] }=true:=by
   have h4:=(holds_andW hc).1;rw [hn] at h4;exact h4
  have h5:=condW_of h4 (w_not (w_lt w_lit (w_len_list (w_arg rfl))));rw [YaR] at h5;refine Nat.le_of_not_lt fun q=>?_
  have q':(n:Int)<((ns.length:Nat):Int):=#[0]
  first
   | (rw [decide_eq_true q'] at h5;exact absurd h5 #[1])
   | (simp at h5;omega)
 cases hwl with
 | cons w1 w2=>
  cases w2;cases w1 with
  | list ho hall=>exact⟨_,_,ns,rfl,rfl,ho,zlh ns _ hall,hlen⟩
theorem zhJ(l:OpenLaw)(args:List WData):l.row.toRowW.claim.post args (.bool true) args=true:=
 postW_of (r:=l.row.toRowW) (X:=(true==true))
  (show WShape.has [] (.bool true) .bool=true by first|rfl|decide|simp [WShape.has,WShape.arms,WShape.armsAll])
  (show(WTm.eq .res (.lit (.bool true))).value [] { args:=args,res:=some (.bool true),after:=args }=some (.bool (true==true)) from w_eq_bool (w_res rfl) w_lit) rfl
theorem attach_call{l:OpenLaw}{n:Nat}{q:Program}{loose:List Str}{XP:(Str->Option Value)->Heap->Prop}{YP:World->Heap->Prop}{d:DefRec}
 (hn:l.most=some n) (hdf:d.params.defaults=[])
 (call:∀ (w:World) (s₀ s₁ : Shared) (mg mb:#[15]) (fa:Addr) (o:Obj) (pm cd doc:Value) (a:Addr) (vs:List Value) (ns:List Int),
  Ground q loose [] XP w s₀ mg mb s₁.heap->YP w s₁.heap->
  s₁.heap.get? fa=some o->o.data=.func (docDef d.name d.params d.body d.scope pm cd doc)->s₁.heap.CodeRec cd d.name->mg d.name=some (.ref fa)->
  s₁.heap.get? a=some { cls:=.type "list", data:=.seq vs.toArray }->IntsAre vs ns->ns.length<=n->s₁.gens = #[]->
  codeAny (model l.prog w) callerA (.call (.ref fa) ⟨[.ref a],[]⟩) (fun r s'=>r=.ok (.ret (.bool true))/\OldK s₁.heap s'.heap/\s'.os=s₁.os/\AllBare s'.gens) s₁) :
 WalkO q loose XP YP l.row.toRowW d [] (fun f vs=>PySem.call f vs):=by
 intro w s₀ s₁ mg mb G Y fa o pm cd doc dV kV ho hd hcd hD hmg hg args vals as hpre hlay hrd hwl hlo;obtain rfl:dV=.none:=Dflts.none hD hdf;obtain rfl:kV=.none:=Dflts.noKw hD;obtain⟨a,vs,ns,rfl,rfl,hobj,hints,hlen⟩:=zgT hn hpre hwl;refine enter_call (codeAny_mono (call w s₀ s₁ mg mb fa o pm cd doc a vs ns G Y ho (fd_plain hd) hcd hmg hobj hints hlen hg) fun r s' hq=>?_)
 obtain⟨rfl,h2,h3,h4⟩:=hq;exact⟨.inl ⟨.bool true,.bool true,[],rfl,fun _=>rfl,.bool true,zhJ l _,fun _=>⟨List.Pairwise.nil,fun _ hm=>(nomatch hm)⟩⟩,h2,h3,h4⟩
section
variable{prog:Program}{w:World}{A:Around}{E:#[14]}{s:Shared}{K:Frag}
end
end Att
namespace L2
open PySem PySem.Spec PyProof.Rows
theorem zdo:∀ {vs:List Value} {ns:List Int},IntsAre vs ns->Vals (ns.map V.int) vs
 | _,_,.nil=>.nil
 | _,_,.cons n t h=>.cons ⟨t,rfl⟩ (zdo h)
def JE(s:Stmt):Arguments:=match s with
 | .FunctionDef _ a _ _ _ _ _ _ _ _=>a
 | _=>{ posonlyargs:=[],args:=[],vararg:=none,kwonlyargs:=[],kw_defaults:=[],kwarg:=none,defaults:=[] }
def jM(s:Stmt):List Stmt:=match s with
 | .FunctionDef _ _ b _ _ _ _ _ _ _=>b
 | _=>[]
def zg(s:Stmt):Scope:=match s with
 | .FunctionDef _ _ _ _ _ _ sc _ _ _=>sc
 | _=>{ kind:=.function,names:=[],isGenerator:=false,isCoroutine:=false }
structure Fun(K:Ybf)(x qual:Str)(st:Stmt)(f:Addr)(fd:FuncData):Prop where
 ex:∃ (oc:Value) (od:Option Addr) (kV doc pm:Value) (an:Option Addr) (cdv ct:Value) (osl:Array (Option Value)),
  fd=PySem.W.fnOf x qual (JE st) (jM st) (zg st) .none kV doc pm an cdv ct/\K.lookup f=some ⟨oc,od,.func fd,osl⟩/\PySem.W.codeIn K cdv qual=true
 kp:PySem.W.keepIn K (.ref f)=true
section
variable{P:Program}{w:World}{K:Ybf}{mg:#[15]}{base:Heap}
theorem Fun.binds{x qual:Str}{st:Stmt}{f:Addr}{fd:FuncData}{ps:List Str}(F:Fun K x qual st f fd)
 (h:∀ (kV doc pm:Value) (an:Option Addr) (cdv ct:Value) (us:List Value),us.length=ps.length->bindArgs (PySem.W.fnOf x qual (JE st) (jM st) (zg st) .none kV doc pm an cdv ct) ⟨us,[]⟩=pure (ps.zip us)):Binds K fd ps []:=by
 obtain⟨oc,od,kV,doc,pm,an,cdv,ct,osl,rfl,lk,hcd⟩:=F.ex;exact .all (h kV doc pm an cdv ct)
theorem zbz{x qual:Str}{st:Stmt}{f:Addr}{oc:Value}{od an:Option Addr}{osl:Array (Option Value)}{kV doc pm cdv ct:Value}(l:K.lookup f=some ⟨oc,od,.func (PySem.W.fnOf x qual (JE st) (jM st) (zg st) .none kV doc pm an cdv ct),osl⟩)
 (c:PySem.W.codeIn K cdv qual=true) (k:PySem.W.keepIn K (.ref f)=true):Fun K x qual st f (PySem.W.fnOf x qual (JE st) (jM st) (zg st) .none kV doc pm an cdv ct):=⟨⟨oc,od,kV,doc,pm,an,cdv,ct,osl,rfl,l,c⟩,k⟩
end
theorem ja{A:Around}{k:Nat}(hr:Room k A):A.units+1<cLine:=Waq (Nat.add_le_add_left (by decide:1<=64) _) hr.units
section
variable{X:Cx}
theorem pv(i:Nat){x:Str}{pos:Pos}(hN:X.N[i]?=some x:=by rfl)(hv:Vis X.env.scope x:=by first|exact Or.inl rfl|exact Or.inr (Or.inl rfl)|exact Or.inr (Or.inr rfl))(hd:#[23]:=by decide)
 (hcd:#[20]:=by decide):PE X (.Name x pos) (tVar i):=jw hN hv hd hcd
end
theorem ite2{c A B:Prop}[Decidable c](h1:c->A)(h2:¬c->B):if c then A else B:=by
 by_cases h:c
 . rw [if_pos h]
   exact h1 h
 . rw [if_neg h]
   exact h2 h
def Same(H H':Hp):Prop:=∀ b o,H b=some o->H' b=some o
theorem Same.refl(H:Hp):Same H H:=fun _ _ h=>h
theorem Same.trans{H H1 H2:Hp}(a:Same H H1)(b:Same H1 H2):Same H H2:=fun c o h=>b c o (a c o h)
theorem Same.free{H H':Hp}(e:Same H H'){l:Addr}(h:H' l=Option.none):H l=Option.none:=by
 cases q:H l with
 | none=>rfl
 | some o=>
  rw [e l o q] at h;cases h
theorem Same.seq{K:Ybf}{H H':Hp}{a:Addr}{xs:List V}(e:Same H H')(h:SqL K H a xs):SqL K H' a xs:=by
 rcases h with (h|⟨o,h⟩)|h
 . exact .inl (.inl (e _ _ h))
 . exact .inl (.inr ⟨o,e _ _ h⟩)
 . exact .inr h
end L2
end
set_option Elab.async false
set_option linter.all false
set_option maxRecDepth 100000
namespace L2
open PySem PySem.Spec PyProof.Rows
def Bits(k:Nat)(x:Int):Prop:=x.natAbs<2 ^ k
theorem Bits.mono{j k:Nat}{x:Int}(h:Bits j x)(hk:j<=k):Bits k x:=YaU h (Nat.pow_le_pow_right #[1] hk)
theorem Bits.mul{j k:Nat}{x y:Int}(h:Bits j x)(h':Bits k y):Bits (j+k) (x*y):=by
 unfold Bits at *;rw [Int.natAbs_mul,Nat.pow_add];exact Nat.mul_lt_mul'' h h'
theorem Bits.neg{k:Nat}{x:Int}(h:Bits k x):Bits k (-x):=by unfold Bits at *;rw [Int.natAbs_neg];exact h
theorem Bits.add{k:Nat}{x y:Int}(h:Bits k x)(h':Bits k y):Bits (k+1) (x+y):=by
 unfold Bits at *;have:=Int.natAbs_add_le x y;rw [Nat.pow_succ];omega
theorem Bits.sub{k:Nat}{x y:Int}(h:Bits k x)(h':Bits k y):Bits (k+1) (x - y):=by
 have:=h.add h'.neg;rwa [<-Int.sub_eq_add_neg] at this
theorem Bits.le{k:Nat}{x y:Int}(h:Bits k x)(hy:y.natAbs<=x.natAbs):Bits k y:=Waq hy h
theorem Bits.log2{k:Nat}{x:Int}(h:Bits k x)(hk:0<k):x.natAbs.log2<k:=by
 rcases Nat.eq_zero_or_pos x.natAbs with h0|hp
 . rw [h0];exact hk
 . exact(Nat.log2_lt (Wa3 hp)).mpr h
theorem Bits.bits{k:Nat}{x:Int}(h:Bits k x):Builtin.Int.intBits x<=k:=by
 unfold Builtin.Int.intBits
 split
 . exact Wa9 _
 . rename_i hx
   have hx':x.natAbs≠0:=by
    intro e;apply hx;rw [Int.natAbs_eq_zero.mp e];rfl
   exact(Nat.log2_lt hx').mpr h
theorem Bits.mulOk{j k:Nat}{x y:Int}(h:Bits j x)(h':Bits k y)(hk:j+k<=134217728):IntMulOk x y:=by
 unfold IntMulOk;have e1:=h.bits;have e2:=h'.bits;have e:Builtin.Int.intTooBig ((Builtin.Int.intBits x:Int)+(Builtin.Int.intBits y:Int))=false:=by
  unfold Builtin.Int.intTooBig;refine decide_eq_false ?_;have:(bitsLine:Nat)=134217728:=by unfold bitsLine;decide
  omega
 intro z;rw [Yak] at z;have z2:=z.2;rw [e] at z2;cases z2
section
variable{X:Cx}
theorem zkh:OpR X (binaryOp .Mult) (rI IntMulOk fun i j=>.int (i*j)):=opI fun _ _ _ _ _ _ _ hc q=>mul_int q hc
def JH(i j:Int):Prop:=0<=j/\(Builtin.Int.intBits i:Int)*j<=134217728
theorem zhP:OpR X (binaryOp .Pow) (rI JH fun i j=>.int (i ^ j.toNat)):=opI fun i j _ _ _ _ _ hc q=>by
 refine pow_int hc.1 ?_ q
 have e:((2:Int) ^ 27)=134217728:=#[1]
 rw [e];exact hc.2
end
theorem zJ.got{P:Program}{w:World}{H:Hp}{h:Heap}{a:Addr}{o:HO}(x:zJ P w H h a o):∃ ob,h.get? a=some ob:=by
 cases o with
 | lst xs=>obtain⟨_,_,_,_,e⟩:=x;exact⟨_,e⟩
 | tup xs=>obtain⟨_,_,_,ob,e,_⟩:=x;exact⟨_,e⟩
 | dK kvs=>obtain⟨_,_,_,_,o,_,_,e,_⟩:=x;exact⟨_,e⟩
 | dT kvs=>obtain⟨_,_,_,_,o,_,_,e,_⟩:=x;exact⟨_,e⟩
 | set S n=>obtain⟨o,_,_,_,e,_⟩:=x;exact⟨_,e⟩
 | ins C dx fs=>obtain⟨_,_,_,e,_⟩:=x;exact⟨_,e⟩
 | own y=>obtain⟨_,e⟩:=x;exact⟨_,e⟩
 | xd fs=>obtain⟨_,⟨_,_,_,e,_⟩,_⟩:=x;exact⟨_,e⟩
 | rng lo hi=>obtain⟨_,_,_,e⟩:=x;exact⟨_,e⟩
 | frz ob u=>obtain⟨e,_⟩:=x;exact⟨_,e⟩
 | tbl ps=>exact⟨_,(show h.get? a=some _ from x)⟩
 | met f y=>exact⟨_,(show h.get? a=some _ from x)⟩
 | ext φ=>obtain⟨_,⟨_,e⟩,_⟩:=x;exact⟨_,e⟩
theorem HOk.through{P:Program}{w:World}{H:Hp}{B h h':Heap}(x:HOk P w H h)(k:B.StaysIn h)(k':B.StaysIn h')(t:∀ b o,H b=some o->∃ o',B.get? b=some o'):HOk P w H h':=fun a o e=>
 (x a o e).stay (fun b u hb q=>by
  have hB:∃ ob,B.get? b=some ob:=by
   rcases hb with z|z
   . exact t b o (z ▸ e)
   . exact t b _ z
  obtain⟨ob,hob⟩:=hB;have e1:=k b ob hob;rw [q] at e1;cases e1;exact k' b _ hob) (fun _ q=>q) fun _ _ q=>q
theorem Un.through{fs:List Addr}{H H':Hp}{B h h1 h2:Heap}(un:Un fs [] H H' h h1)(cov:∀ b o,h.get? b=some o->b∉fs->∃ o',B.get? b=some o')(k:B.StaysIn h1)(k':B.StaysIn h2)
 (fr:∀ b∈fs,∀ o,h1.get? b=some o->∃ sl,h2.get? b=some { o with slots:=sl }):Un fs [] H H' h h2 where
 keep:=fun b o q n hb hx=>by
  obtain⟨o',ho⟩:=cov b o q hb;have e:=un.keep b o q n hb hx;have e1:=k b o' ho;rw [e] at e1;cases e1;exact k' b _ ho
 slot:=fun b o q n hb hx=>by
  obtain⟨sl,e⟩:=un.slot b o q n hb hx;obtain⟨sl',e'⟩:=fr b hb _ e;exact⟨sl',e'⟩
 free:=un.free
 there:=fun b o q hx=>by
  by_cases hb:b∈fs
  . obtain⟨o',e⟩:=un.there b o q hx
    obtain⟨sl,e'⟩:=fr b hb _ e;exact⟨_,e'⟩
  . obtain⟨o',ho⟩:=cov b o q hb
    exact⟨o',k' b _ ho⟩
 tups:=un.tups
 frzs:=un.frzs
 tbls:=un.tbls
structure Fly(P:Program)(w:World)(stack:List Env)(H:Hp)(s:Shared)(ea C:Addr)(H':Hp)(s':Shared):Prop where
 os:s'.os=s.os
 bare:AllBare s'.gens
 un:Un (frs stack) [] H H' s.heap s'.heap
 hok:HOk P w H' s'.heap
 fly:∃ B a0,Heap.FlyingW B stack ea (.ref C) a0 s'.heap/\(∀ b o,s.heap.get? b=some o->b∉frs stack->∃ o',B.get? b=some o')/\(∀ b o,H' b=some o->∃ o',B.get? b=some o')
def CXR(P:Program)(w:World):CXT:=fun outer H s E e s'=>∃ ea C H',e=.ref ea/\Fly P w outer H s ea C H' s'/\E (.ref C) none H'
theorem zcu{B h h':Heap}{l:List Env}(fr:h.FunFrames B l)(sm:h.UpToSlots h'):∀ b∈frs l,∀ o,h.get? b=some o->∃ sl,h'.get? b=some { o with slots:=sl }:=fun b hb o ho=>by
 obtain⟨_,o2,ho2,hd⟩:=fr.mem hb;rw [ho] at ho2;cases ho2;exact sm b o ho hd
section
variable{P:Program}{w:World}{K:Ybf}{mg:#[15]}{base:Heap}{N:List Str}{qual:Str}{scope:Scope}{f:Addr}{cd:Value}{A:Around}{outer:List Env}{s₀ : Shared}{H₀ : Hp}{E:XK}{CX:CXT}
theorem zek{pins:List #[18]}{σ : St}{H:Hp}{s:Shared}(I:Inv (cxOf CX P w K mg base N qual scope f cd A outer s₀ H₀ E) pins σ H s){b:Addr}{o:Obj}(q:s₀.heap.get? b=some o)(hb:b∉frs outer) :
 b∉frs (cxOf CX P w K mg base N qual scope f cd A outer s₀ H₀ E).stack:=fun z=>by
 rcases WaU.mp (I.stkSub b z) with e|e
 . have h1:=YaX q
   rw [show b=s₀.heap.objs.size from e] at h1
   exact Yap _ h1
 . exact hb e
theorem zfl{pins:List #[18]}{σ : St}{H:Hp}{s:Shared}(I:Inv (cxOf CX P w K mg base N qual scope f cd A outer s₀ H₀ E) pins σ H s){b:Addr}{o:Obj}(q:s₀.heap.get? b=some o):∃ o',s.heap.get? b=some o':=
 I.base.there b o q (fun z=>absurd (show b∈([]:List Addr) from z) (by simp))
theorem zq:Passes (CXR P w) (cxOf (CXR P w) P w K mg base N qual scope f cd A outer s₀ H₀ E) E:=by
 intro pins σ H s e s' I h;obtain⟨ea,C,H',rfl,F,q⟩:=h;obtain⟨B,a0,fl,cov,trk⟩:=F.fly;have J:=I.call' (ch:=[]) F.os F.un F.hok F.bare (fun b z=>absurd z (by simp))
 have cov':∀ b o,s₀.heap.get? b=some o->b∉frs outer->∃ o',B.get? b=some o':=fun b o z hb=>by
  obtain⟨o1,h1⟩:=zfl I z;exact cov b o1 h1 (zek I z hb)
 refine wpAny_leaves_onW (base:=B) (outer:=outer) (L:=s₀.heap.objs.size) I.ok.frames rfl fl fun h' fl' sm=>?_
 have fr:=zcu (fl.2.2.1).2.2 sm;exact⟨ea,C,H',rfl,⟨J.os,F.bare,J.base.through cov' fl.1 fl'.1 fr,F.hok.through fl.1 fl'.1 trk,B,a0,fl',cov',trk⟩,q⟩
def Flies(X:Cx)(E:XK):Prop:=∀ (pins:List #[18]) (σ : St) (H:Hp) (s:Shared) (e C:Addr) (vs:List Value) (h1:Heap),Inv X pins σ H s->Heap.MadeExcOf s.heap h1 e (.ref C) vs->E (.ref C) none H->X.xe (.ref e) { s with heap:=h1 }
theorem jq:Flies (cxOf (CXR P w) P w K mg base N qual scope f cd A outer s₀ H₀ E) E:=by
 intro pins σ H s e C vs h1 I M q;have kB:(PySem.W.hideAll s.heap (frs (cxOf (CXR P w) P w K mg base N qual scope f cd A outer s₀ H₀ E).stack)).StaysIn s.heap:=fun b o z=>PySem.W.of_hideAll _ z
 have trk:∀ b o,H b=some o->∃ o',(PySem.W.hideAll s.heap (frs (cxOf (CXR P w) P w K mg base N qual scope f cd A outer s₀ H₀ E).stack)).get? b=some o':=fun b o z=>by
  obtain⟨ob,hob⟩:=(I.hok b o z).got;exact⟨ob,PySem.W.hideAll_get _ hob fun hm=>by rw [I.stkFree b hm] at z;cases z⟩
 have cov:∀ b o,s₀.heap.get? b=some o->b∉frs outer->∃ o',(PySem.W.hideAll s.heap (frs (cxOf (CXR P w) P w K mg base N qual scope f cd A outer s₀ H₀ E).stack)).get? b=some o':=fun b o z hb=>by
  obtain⟨o1,h1⟩:=zfl I z;exact⟨o1,PySem.W.hideAll_get _ h1 (zek I z hb)⟩
 refine wpAny_leaves_madeW (base:=PySem.W.hideAll s.heap (frs (cxOf (CXR P w) P w K mg base N qual scope f cd A outer s₀ H₀ E).stack)) (h:=s.heap) (outer:=outer) (L:=s₀.heap.objs.size) I.ok.frames rfl kB
  (PySem.W.funFrames_hide I.stack fun env he b hb=>List.mem_filterMap.mpr ⟨env,he,hb⟩) M fun h' t fl tu bt sm=>?_
 have fr:∀ b∈frs outer,∀ o,s.heap.get? b=some o->∃ sl,h'.get? b=some { o with slots:=sl }:=fun b hb o ho=>by
  obtain⟨_,o2,ho2,hd⟩:=I.funs.mem hb;rw [ho] at ho2;cases ho2;exact sm b o (M.keeps b o ho) hd
 exact⟨e,C,H,rfl,⟨I.os,I.bare,I.base.through cov kB fl.1 fr,I.hok.through kB fl.1 trk,_,_,fl,cov,trk⟩,q⟩
end
def bmVE:List Value:=[.type "ValueError", .type "Exception", .type "BaseException", .type "object"]
theorem zig{K:Ybf}{h:Heap}{C:Addr}(X:K.In h)(q:PySem.W.excIn K C bmVE "ValueError.__new__" = true) :
 ∃ bm N nm qn bs hdct sn sub ab col dd k0 k1 k2 k3 k5 mN,h.get? C=some (excClassObj nm qn C N bs bm hdct sn sub ab col dd k0 k1 k2 k3 k5 "ValueError.__new__")/\h.Ns N mN/\mN "__init__" = none/\OwnTail h bmVE bm:=by
 unfold PySem.W.excIn at q
 split at q
 . rename_i dd cdx sl ho
   split at q
   . rename_i C' bm k0 k1 k2 k3 n k5 hm hs
     rw [Yak,Yak,Yak,Yak,Yak] at q;obtain⟨⟨⟨⟨⟨q1,q2⟩,q3⟩,q4⟩,q5⟩,q6⟩:=q;have e1:C'=C:=beq_iff_eq.mp q1;have e2:n = "ValueError.__new__":=beq_iff_eq.mp q2;have e6:=beq_iff_eq.mp q6;obtain⟨nm,bs,mro,ns,qn,hd,sn,sub,ab,col,del⟩:=cdx;obtain⟨l⟩:=sl;dsimp only at hm q3 q5 e6 hs;have e3:del=false:=by simpa using q3
     subst e1 e2 e3 hm hs;exact⟨bm,ns,nm,qn,bs,hd,sn,sub,ab,col,dd,k0,k1,k2,k3,k5,_,X _ _ ho,.of_isNs (PySem.W.isNs_of_in X q5),PySem.W.nsMap_none_of_in X q5 e6,PySem.W.tail_of_in X q4⟩
   . cases q
 . cases q
def zgC(C:Addr)(E:XK)(t:TA):TS:=fun _ σ H=>t σ H fun vs H1=>vs.length<=sizeLine/\E (.ref C) none H1
theorem zlV{X:Cx}{x:Str}{C:Addr}{e0:Expr}{t:TA}{E:XK}{np cpos pos:Pos}(hf:Flies X E)(hc:X.calm=true)(hg:Gl X x)(hm:X.mg x=some (.ref C))(hx:PySem.W.excIn X.K C bmVE "ValueError.__new__" = true)(ha:PA X [e0] t)
 (hdb:#[23]:=by decide) (hs:starEach [e0] X.env=[(false,eval e0 X.env)]:=by rfl):PS X (.Raise (some (.Call (.Name x np) [e0] [] cpos)) none pos) (zgC C E t):=by
 intro pins s σ H D I h;obtain⟨bm,Nn,nm,q,bs,hdct,sn,sub,ab,col,dd,k0,k1,k2,k3,k5,mN,hC,hN,hni,T⟩:=zig I.ok.mod.kin hx;refine wpAny_Raise_call_subT (C:=C) (nm:=nm) (q:=q) (N:=Nn) (bs:=bs) (bm:=bm) (hdct:=hdct) (sn:=sn) (sub:=sub) (ab:=ab) (col:=col) (dd:=dd) (k0:=k0) (k1:=k1) (k2:=k2) (k3:=k3) (k5:=k5)
  PySem.F.excBase_ValueError (mN:=mN) (T.hasType rfl) (I.ok.hd hc) (by rw [hs];rfl) hni (Zf I hg hm ⟨rfl,?_⟩ hdb)
 have h1:=ha cpos pins s σ H _ I h;rw [hs] at h1 ⊢;refine Calls.evalArgs_plain (wpAny_mono h1 (fun us s2 z=>?_) fun _ _ z=>z)
 obtain⟨vs,H1,I1,r,z,qE⟩:=z;exact⟨rfl,by show us.length<=sizeLine;rw [<-r.length];exact z,I1.bk _ _ hC,hN.keeps I1.bk,T.keeps I1.bk,fun h' e M=>hf pins σ H1 s2 e C us h' I1 M qE⟩
theorem Fun.okR{P:Program}{w:World}{K:Ybf}{mg:#[15]}{base:Heap}{x qual:Str}{st:Stmt}{f:Addr}{fd:FuncData}{N ps:List Str}{k:Nat}{sp:Sp}(F:Fun K x qual st f fd)(S:FnScope N ps (zg st))(len:∀ vs H Q E,sp vs H Q E->vs.length=ps.length)
 (hbody:∀ (cdv:Value) (A:Around) (outer:List Env) (s:Shared) (H:Hp) (vs:List V) (Q:VK) (E:XK),Room k (A.deeper (envOfC qual (zg st) s.heap.objs.size f cdv))->sp vs H Q E->
  ∃ t,PSs (cxOf (CXR P w) P w K mg base N qual (zg st) f cdv A outer s H E) (jM st) t/\t { nx:=fun _ H'=>Q .non H',rt:=Q } (start N vs) H):FnOk P w K mg base (CXR P w) (k+1) f fd ps sp:=by
 obtain⟨oc,od,kV,doc,pm,an,cdv,ct,osl,rfl,lk,hcd⟩:=F.ex;exact zbg lk hcd S len fun A outer s H vs Q E hr hsp=>hbody cdv A outer s H vs Q E hr hsp
abbrev TX:=Ends->(Addr->Hp->Prop)->St->Hp->Prop
def XE(X:Cx)(pins:List #[18])(σ : St)(E:Addr->Hp->Prop)(e:Value)(s':Shared):Prop:=
 ∃ ea C H1 s1 H',e=.ref ea/\Inv X pins σ H1 s1/\Fly X.prog X.w X.stack H1 s1 ea C H' s'/\E C H'
def PX(X:Cx)(st:List Stmt)(t:TX):Prop:=
 ∀ (pins:List #[18]) (s:Shared) (σ : St) (H:Hp) (D:Ends) (E:Addr->Hp->Prop),Inv X pins σ H s->t D E σ H->wpAny #[12] X.A (execs st X.env) (SP X pins D) (XE X pins σ E) s
def zen(sp:Sp)(t:TA):TX:=fun D E σ H=>t σ H fun vs H1=>sp vs H1 (fun _ H2=>D.nx σ H2) (fun c _ H2=>∃ C,c=.ref C/\E C H2)
theorem PA.nox{X:Cx}{es:List Expr}{t:TA}(h:PA X.nox es t)(pos:Pos){pins:List #[18]}{s:Shared}{σ : St}{H:Hp}{Q:List V->Hp->Prop}{E:#[14]}(I:#[11])(q:t σ H Q) :
 wpAny #[12] X.A (spliced (backTo pos (starEach es X.env))) (AP X pins σ Q) E s:=
 wpAny_mono (h pos pins s σ H Q (I.wish _) q) (fun us s1 ⟨vs,H1,I1,r,q1⟩=>⟨vs,H1,I1.unwish,r,q1⟩) fun _ _ z=>z.elim
theorem zhv{X:Cx}{k:Nat}{f:Addr}{fd:FuncData}{ps:List Str}{sp:Sp}{x:Str}{p pos pos':Pos}{e:Expr}{es:List Expr}{t:TA}(F:FnOk X.prog X.w X.K X.mg X.base (CXR X.prog X.w) k f fd ps sp)(hr:Room k X.A)(hg:Gl X x)
 (hm:X.mg x=some (.ref f)) (hk:PySem.W.keepIn X.K (.ref f)=true) (hb:Binds X.K fd ps []) (ha:PA X.nox (e::es) t) (hdb:#[23]:=by decide)
 (he:#[13]:=by rfl) (hpl:(backTo pos (starEach es X.env)).any (·.1)=false:=by rfl)
 (hs:swapsWith #[16] none pos'.line X.env=pure false:=by rfl):PX X [.Expr #[16] pos'] (zen sp t):=by
 intro pins s σ H D E I h;refine wpAny_execs_cons (wpAny_Expr_any (wpAny_Call_Name_kw (Zf I hg hm ?_ hdb)) I.quiet hs);refine PySem.W.callWith_K (h₀:=X.base) I.ok.mod.kin hk (wpAny_mono (PA.nox ha pos I h) (fun us s1 z=>?_) fun _ _ z=>z) he hpl
 obtain⟨vs,H1,I1,r,q⟩:=z;refine⟨I1.kIn,?_⟩;have hl:us.length=ps.length:=by rw [<-r.length];exact F.len _ _ _ _ q
 have hb1:BindsTo s1 fd ⟨us,[]⟩ (ps.zip us):=by
  have:=hb s1 us I1.kIn (by rw [Yao];exact hl)
  rwa [Yao] at this
 refine wpAny_call (codeAny_mono (F.run X.A X.stack s1 H1 ⟨us,[]⟩ us vs _ _ hr I1.env0 hb1 r q) fun r' s' hq=>?_)
 cases r' with
 | error e=>
  obtain⟨ea,C,H',rfl,F',C',e',hE⟩:=hq;cases e';exact⟨ea,C,H1,s1,H',rfl,I1,F',hE⟩
 | ok fl=>
  cases fl with
  | ret u=>
   obtain⟨v,H2,I2,_,q2⟩:=I1.after hq;exact wpAny_execs_nil ⟨σ,H2,I2,q2⟩
  | next=>exact False.elim hq
  | brk=>exact False.elim hq
  | cont=>exact False.elim hq
def excO(ea C:Addr):HO:=.ext fun h=>∃ o vs,h.get? ea=some o/\o.cls=.ref C/\o.data=.fields vs
abbrev Cx.inExc(X:Cx)(ea:Addr):Cx:={ X with A:=X.A.mark (some (.ref ea)),calm:=false,xe:=fun _ _=>False }
section
variable{X:Cx}{pins:List #[18]}{σ : St}{H:Hp}{s:Shared}
theorem Inv.exc(I:#[11])(ea:Addr):Inv (X.inExc ea) pins σ H s:=
 ⟨⟨I.ok.mod,I.ok.kind,I.ok.glob,I.ok.blt,I.ok.above,I.ok.inj,I.ok.has,I.ok.cab,(fun z=>absurd z Yal),I.ok.frames,I.ok.stk,I.ok.exf,I.ok.bs,I.ok.bsz,I.ok.noex,I.ok.exfs,I.ok.funs,I.ok.frf⟩,
  I.os,I.bare,I.base,I.loc,I.cell,I.free,I.freeC,I.pin,I.hok,I.len⟩
theorem Inv.unexc{ea:Addr}(I:Inv (X.inExc ea) pins σ H s)(ok:X.Ok):Inv X pins σ H s:=⟨ok,I.os,I.bare,I.base,I.loc,I.cell,I.free,I.freeC,I.pin,I.hok,I.len⟩
theorem zbm{M:Model}{A:Around}{E:#[14]}{i:Nat}{n:Str}{pos:Pos}{Q:Unit->Shared->Prop}(I:#[11])(hN:X.N.Nodup)(hi:X.N[i]?=some n)(hk:X.env.scope.names.lookup n=some .local)
 (h:∀ s',Inv X pins (σ.set i none) H s'->Q () s'):wpAny M A (do bindName X.env n .none;unbindBehindTheSuite X.env n pos) Q E s:=by
 obtain⟨m,hn,hl⟩:=id I.loc;refine wpAny_nameGoes_keeps hk hn (by rw [I.ok.kind];rfl) fun h' v hn' hs=>h _ ?_
 have old:∀ {b:Addr} {o:Obj},X.s₀.heap.get? b=some o->b≠X.env.locals:=fun e=>Yaf (YaU (YaX e) I.ok.above)
 refine⟨I.ok,I.os,I.bare,⟨fun b o e n hb hx=>(hs.2 b (old e)).trans (I.base.keep b o e n hb hx),fun b o e n hb hx=>?_,I.base.free,fun b o e hx=>?_,I.base.tups,I.base.frzs,I.base.tbls⟩,⟨_,hn',fun j y v' e1 e2 e3=>?_⟩,fun y c e=>?_,I.free,I.freeC,fun p hp=>?_,fun b ob e=>?_,by simpa using I.len⟩
 . obtain⟨sl,e1⟩:=I.base.slot b o e n hb hx
   exact⟨sl,(hs.2 b (old e)).trans e1⟩
 . obtain⟨o',e1⟩:=I.base.there b o e hx
   exact⟨o',(hs.2 b (old e)).trans e1⟩
 . by_cases hj:j=i
   . subst hj
     have hiσ : j < σ.length:=by rw [I.len];exact(Ya8.mp hi).1
     rw [Yas hiσ] at e2;cases e2
   . rw [Yac (Wbb hj)] at e2
     obtain⟨u',r',q⟩:=hl j y v' e1 e2 e3;refine⟨u',r',?_⟩
     rcases q with ⟨k,e⟩|⟨k,c,e,z⟩
     . refine .inl ⟨k,?_⟩
       have:y≠n:=fun e=>hj (zbZ hN e1 (e ▸ hi))
       simp [this,e]
     . exact .inr ⟨k,c,e,z.sameBut hs (I.cne y c e)⟩
 . obtain⟨w',z⟩:=I.cell y c e
   exact⟨w',z.sameBut hs (I.cne y c e)⟩
 . obtain⟨e,n,ne,nf,d⟩:=I.pin p hp
   exact⟨(hs.2 p.1 ne).trans e,n,ne,nf,d⟩
 . refine(I.hok b ob e).stay (fun c w' hc q=>(hs.2 c ?_).trans q) (fun _ q=>q) fun _ _ q=>q
   rintro rfl
   rcases hc with z|z
   . have:=I.free;rw [z,e] at this;cases this
   . have:=I.free;rw [z] at this;cases this
end
theorem HOk.track{P:Program}{w:World}{H:Hp}{h:Heap}{a:Addr}{o:HO}(x:HOk P w H h)(hn:H a=none)(new:zJ P w (upd H a o) h a o):HOk P w (upd H a o) h:=fun b u e=>by
 by_cases hb:b=a
 . subst hb;rw [zf] at e;cases e;exact new
 . rw [zd hb] at e
   exact(x b u e).stay (fun c v _ q=>q) (fun c q=>by rw [zd (zY q hn)];exact q) fun c xs q=>by rw [zd (zY q hn)];exact q
theorem Un.track{fs:List Addr}{H H':Hp}{h h':Heap}{a:Addr}{o:HO}(un:Un fs [] H H' h h')(hn:H' a=none)(ha:h.get? a=none):Un fs [] H (upd H' a o) h h' where
 keep:=un.keep
 slot:=un.slot
 free:=fun b ob q n hx=>by
  rw [zd (fun z=>by subst z;rw [q] at ha;cases ha)]
  exact un.free b ob q n hx
 there:=un.there
 tups:=fun b xs q=>by have e:=un.tups b xs q;rw [zd (zY e hn)];exact e
 frzs:=fun b ob u q=>by have e:=un.frzs b ob u q;rw [zd (zY e hn)];exact e
 tbls:=fun b ps q=>by obtain⟨m,e⟩:=un.tbls b ps q;exact⟨m,by rw [zd (zY e hn)];exact e⟩
def tTry(K:Ybf)(CC:Addr)(i:Nat)(tx:TX)(th:Addr->TS):TS:=fun D σ H=>tx D (fun C H1=>PySem.W.exmOne K (.ref C) (.ref CC)=some true/\∀ ea,H1 ea=none->
 th ea { nx:=fun σ' H'=>D.nx (σ'.set i none) H',rt:=D.rt,bk:=fun σ' H'=>D.bk (σ'.set i none) H',ct:=fun σ' H'=>D.ct (σ'.set i none) H' } (σ.set i (some (.ref ea))) (upd H1 ea (excO ea C))) σ H
theorem zjy{X:Cx}{rest:List ExceptHandler}{body:List Stmt}{b₀ : Stmt}{suite:List Stmt}{cx n:Str}{CC:Addr}{i:Nat}{np hpos pos:Pos}{tx:TX}{th:Addr->TS}(hst:X.stack=X.env::X.outer)(hfr:X.env.frame=some X.env.locals)(hN:X.N.Nodup)(hi:X.N[i]?=some n)
 (hk:X.env.scope.names.lookup n=some .local) (hg:Gl X cx) (hm:X.mg cx=some (.ref CC)) (hb:PX X body tx) (hh:∀ ea,PSs (X.inExc ea) (b₀ :: suite) (th ea)) (hdb:(cx==("__debug__" : Str))=false:=by decide) :
 PS X (.Try body (.ExceptHandler (some (.Name cx np)) (some n) (b₀ :: suite) hpos::rest) [] [] pos) (tTry X.K CC i tx th):=by
 intro pins s σ H D I h;refine wpAny_Try_except (wpAny_mono (hb pins s σ H D _ I h) (fun fl s1 q=>?_) fun e s' z=>?_)
 . cases fl with
   | next=>exact wpAny_execs_nil q
   | ret v=>exact q
   | brk=>exact q
   | cont=>exact q
 obtain⟨ea,C,H1,s1,H',rfl,I1,F,hx,hth⟩:=z;obtain⟨B,a0,fl,cov,trk⟩:=F.fly;have fr0:X.A.frames=some (X.env::X.outer):=by rw [<-hst];exact I.ok.frames
 have flx:Heap.FlyingW B (X.env::X.outer) ea (.ref C) a0 s'.heap:=hst ▸ fl;have hea:H' ea=none:=by
  cases q:H' ea with
  | none=>rfl
  | some o=>
   obtain⟨o',e⟩:=trk ea o q;have:=fl.2.1;rw [e] at this;cases this
 have hs1:s1.heap.get? ea=none:=by
  cases q:s1.heap.get? ea with
  | none=>rfl
  | some o=>
   exfalso
   by_cases hm:ea∈frs X.stack
   . obtain⟨_,o2,ho2,hd2⟩:=fl.2.2.1.mem hm
     obtain⟨oe,vs,T,oT,ts,he,_,hd,_⟩:=fl.2.2.2;rw [he] at ho2;cases ho2;exact hd2 _ hd
   . obtain⟨o',e⟩:=cov ea o q hm
     have:=fl.2.1;rw [e] at this;cases this
 refine wpAny_looks_onW fr0 hfr flx fun h4 held sm4=>?_
 refine wpAny_landsW held fun h5 fl5 sm5=>?_
 have un5:Un (frs X.stack) [] H1 H' s1.heap h5:=F.un.through cov fl.1 fl5.1 (zcu fl.2.2.1 (sm4.trans sm5));have I5:Inv X pins σ H' { s' with heap:=h5 }:=I1.call' (ch:=[]) F.os un5 (F.hok.through fl.1 fl5.1 trk) F.bare (fun b z=>absurd z (by simp))
 refine wpAny_handleBy_cons (codeAny_handlers_test (Zf (I5.exc ea) hg hm ?_ hdb)) (by intro q;cases q)
 have LT:PySem.W.Looks #[12] h5 (typeOf (.ref ea)) (.ref C):=by
  obtain⟨ob,hob,hc⟩:=fl5.there;rw [<-hc];exact(PySem.W.Looks.ld hob).andThen .now
 refine PySem.W.Looks.here (s:={ s' with heap:=h5 }) (PySem.W.exm_one I5.kIn LT hx) ?_
 refine codeAny_handlers_suite_as (lands_againW fl5 fun h6 fl6 sm6=>?_)
 have un6:Un (frs X.stack) [] H1 H' s1.heap h6:=F.un.through cov fl.1 fl6.1 (zcu fl.2.2.1 ((sm4.trans sm5).trans sm6));have hokx:HOk X.prog X.w (upd H' ea (excO ea C)) h6:=(F.hok.through fl.1 fl6.1 trk).track hea (by
  obtain⟨oe,vs,T,oT,ts,he,⟨hc,_⟩,hd,_⟩:=fl6.2.2.2;exact⟨⟨oe,vs,he,hc,hd⟩,⟨oe,he⟩,fun x1 x2 ⟨o,ws,y1,y2,y3⟩ kk=>⟨o,ws,kk o y1,y2,y3⟩⟩)
 have I6:Inv X pins σ (upd H' ea (excO ea C)) { s' with heap:=h6 }:=I1.call' (ch:=[]) F.os (un6.track hea hs1) hokx F.bare (fun b z=>absurd z (by simp))
 refine JW (X:=X.inExc ea) (i:=i) (x:=n) (v:=.ref ea) (I6.exc ea) hN hi (.inl hk) rfl (fun s7 I7=>?_) (.inr hk)
 refine wpAny_mono (hh ea pins s7 _ _ _ I7 (hth ea hea)) (fun f8 s8 q8=>?_) fun _ _ z=>z.elim
 show wpAny #[12] X.A (do bindName X.env n .none;unbindBehindTheSuite X.env n hpos) (fun _ s9=>SP X pins D f8 s9) X.xe s8
 cases f8 with
 | next=>obtain⟨σ8,H8,I8,q⟩:=q8;exact zbm (I8.unexc I.ok) hN hi hk fun s9 I9=>⟨_,_,I9,q⟩
 | brk=>obtain⟨σ8,H8,I8,q⟩:=q8;exact zbm (I8.unexc I.ok) hN hi hk fun s9 I9=>⟨_,_,I9,q⟩
 | cont=>obtain⟨σ8,H8,I8,q⟩:=q8;exact zbm (I8.unexc I.ok) hN hi hk fun s9 I9=>⟨_,_,I9,q⟩
 | ret u=>obtain⟨v,σ8,H8,I8,r,q⟩:=q8;exact zbm (I8.unexc I.ok) hN hi hk fun s9 I9=>⟨v,_,_,I9,r,q⟩
theorem zbx:bootBuiltins "list" = some (.type "list"):=#[3]
theorem zjB:bootBuiltins "zip" = some (.type "zip"):=#[3]
theorem zgm:bootBuiltins "ValueError" = some (.type "ValueError"):=#[3]
theorem zdx:bootBuiltins "isinstance" = some (.builtin "isinstance"):=#[3]
theorem zD:bootBuiltins "len" = some (.builtin "len"):=#[3]
theorem zdj:bootBuiltins "abs" = some (.builtin "abs"):=#[3]
theorem zcy:bootBuiltins "max" = some (.builtin "max"):=#[3]
theorem zh8:bootBuiltins "min" = some (.builtin "min"):=#[3]
theorem JI:bootBuiltins "sum" = some (.builtin "sum"):=#[3]
structure XAttr(K:Ybf)(C:Addr):Prop where
 ga:PySem.W.findIn K (.ref C) "__getattribute__" = some (some (.builtin "BaseException.__getattribute__"))
 gt:PySem.W.findIn K (.ref C) "__getattr__" = some none
 cl:PySem.W.findIn K (.ref C) "__class__" = some (some (.builtin "object.__class__"))
 ob:PySem.W.mroIn K C (.type "object")=some true
 be:PySem.W.mroIn K C (.type "BaseException")=some true
 ty:PySem.W.isClsIn K C=true
def XAt(ea C:Addr)(h:Heap):Prop:=∃ o vs,h.get? ea=some o/\o.cls=.ref C/\o.data=.fields vs
section
variable{prog:Program}{w:World}{A:Around}{E:#[14]}{s:Shared}{K:Ybf}{ea C:Addr}
theorem zca{M:Model}{h:Heap}(p:XAt ea C h):PySem.W.Looks M h (typeOf (.ref ea)) (.ref C):=by
 obtain⟨o,_,h1,h2,_⟩:=p;rw [<-h2];exact(PySem.W.Looks.ld h1).andThen .now
theorem zk3{R:Result->Shared->Prop}{tp:Value}(Y:XAttr K C)(X:K.In s.heap)(p:XAt ea C s.heap)(h:R (.ok (.ret (.ref C))) s) :
 codeAny (model prog w) A (.call (.builtin "getset_descriptor.__get__") ⟨[.builtin "object.__class__", .ref ea,tp],[]⟩) R s:=by
 obtain⟨hh,g,dr,t,os⟩:=s;have L0:=zca (M:=model prog w) p;have L1:=PySem.W.looks_mroIn (M:=model prog w) X Y.ob;refine codeAny_call_builtin PySem.W.KF.slot_gs.plain PySem.W.KF.entry_gs (PySem.W.KF.slot_gs.check _ _ _ _ _ _ _ _ PySem.W.KF.type_class (PySem.W.KF.args_gs _ _ _) ?_);unfold Builtin.«getset_descriptor.__get__» Builtin.Getset_descriptor.descrGet;rw [PySem.W.dga_obj];refine wpAny_bind (wpAny_pure ?_)
 unfold Builtin.Getset_descriptor.descrGetter Builtin.Getset_descriptor.descrCheckInstance Builtin.Getset_descriptor.descrNameAndClass isInstance;simp only [PySem.W.KF.owner_class]
 repeat lk
 refine⟨Code.quiet_builtin _ #[3],codeAny_builtin PySem.W.KF.entry_class ?_⟩
 unfold Builtin.«object.__class__» shownTypeOf
 repeat lk
 exact h
theorem zhd{M:Model}{nameV:Value}{Q:Unit->Shared->Prop}(Y:XAttr K C)(X:K.In s.heap)(p:XAt ea C s.heap)(hq:Q () s):wpAny M A (checkBuiltinCall "BaseException.__getattribute__" ⟨[.ref ea,nameV],[]⟩) Q E s:=by
 have hk:builtinKind "BaseException.__getattribute__" = some .slot:=#[3]
 have hsplit:splitId "BaseException.__getattribute__" = some ("BaseException", "__getattribute__"):=#[3]
 have ha:=F.args_bexc_ga (.ref ea) nameV;obtain⟨hh,g,d,t,os⟩:=s;have L0:=zca (M:=M) p;have L1:=PySem.W.looks_mroIn (M:=M) X Y.be;simp only [checkBuiltinCall,hk,hsplit];refine wpAny_bind ?_;unfold isInstance
 repeat (first|with_reducible refine WaJ L0 ?_|with_reducible refine WaJ L1 ?_|wp_step)
 exact hq
theorem zku{tk:Tok}{Q:Fin->Shared->Prop}(Y:XAttr K C)(X:K.In s.heap)(p:XAt ea C s.heap)(hq:Q (.done (.ret (.ref C))) s) :
 wpAny (model prog w) A (Builtin.«object.__getattribute__» ⟨[.ref ea,.str "__class__" tk],[]⟩) Q E s:=by
 have p':=p;obtain⟨o,vs,hx,hc,hd⟩:=p;obtain⟨h,g,d,t,os⟩:=s;have hT5:(⟨h,g,d,t,os⟩:Shared).TypeIs (.builtin "object.__class__") "getset_descriptor":=F.typeOf_object_class;have f5:=F.typeOf_object_class;have f6:=F.slot_gs_get.lookup;have f7:=F.slot_gs_set.lookup;have L1:=Wao (M:=model prog w) X Y.cl
 repeat (any_goals (first|assumption|(with_reducible refine wpAny_loadPart_at hx ?_;rw [hc])|with_reducible refine WaJ L1 ?_|wp_step))
 refine zk3 (s:=⟨h,g,d,t,os⟩) Y X p' ?_
 repeat (any_goals (first|assumption|wp_step))
theorem ziK{tk:Tok}{fill expr:Bool}{Q:#[14]}(Y:XAttr K C)(X:K.In s.heap)(p:XAt ea C s.heap)(hq:Q (.ref C) s) :
 wpAny (model prog w) A (getAttrBy (.ref ea) (.str "__class__" tk) fill expr) Q E s:=by
 have p':=p;obtain⟨o,vs,hx,hc,hd⟩:=p;obtain⟨h,g,d,t,os⟩:=s;have f3:=F.excAttr_ValueError.ga.bind (.ref ea);have hx0:(expr&&onTheHeap (Value.builtin "BaseException.__getattribute__"))=false:=by cases expr<;>rfl
 have hx2:(Value.builtin "BaseException.__getattribute__" == Value.builtin "object.__getattribute__")=false:=#[3]
 have hx1:(onTheHeap (Value.ref C)&&Value.builtin "BaseException.__getattribute__" == Value.builtin "object.__getattribute__")=false:=by rw [hx2];rfl
 have L1:=Wao (M:=model prog w) X Y.ga;have L2:=Wao (M:=model prog w) X Y.gt
 repeat (any_goals (first|assumption|(with_reducible refine wpAny_loadPart_at hx ?_;rw [hc])|with_reducible refine WaJ L1 ?_|with_reducible refine WaJ L2 ?_|wp_step))
 refine codeAny_call_builtin F.excAttr_ValueError.ga.plain F.entry_bexc_ga (zhd (s:=⟨h,g,d,t,os⟩) Y X p' (zku (s:=⟨h,g,d,t,os⟩) Y X p' ?_))
 repeat (any_goals (first|assumption|wp_step))
theorem zgX{Q:Option Value->Shared->Prop}(Y:XAttr K C)(X:K.In s.heap)(p:XAt ea C s.heap)(hq:Q (some (.ref C)) { s with toks:=s.toks+1 }):wpAny (model prog w) A (getAttr? (.ref ea) "__class__") Q E s:=by
 obtain⟨h,g,d,t,os⟩:=s;unfold getAttr? getAttrBy?
 repeat (any_goals (first|assumption|with_reducible apply ziK (s:=⟨h,g,d,t+1,os⟩) Y X p|wp_step))
theorem zc8(Y:XAttr K C):PySem.W.KitX K (.ref ea) (.ref C) (XAt ea C) where
 ty:=fun _ _ _ p=>zca p
 it:=fun M h X _=>by
  have e:=Y.ty;unfold PySem.W.isClsIn PySem.W.clsIn at e
  split at e
  . rename_i c' d' cd' sl' ho
    intro A' Q' E' s' k q;unfold isType loadHead;exact wpAny_bind (wpAny_loadPart (k _ _ (X _ _ ho)) (wpAny_pure q))
  . cases e
 ne:=fun h tp dd its n sl X htp=>by
  have e:=Y.ty;unfold PySem.W.isClsIn PySem.W.clsIn at e
  split at e
  . rename_i c' d' cd' sl' ho
    refine Bool.eq_false_iff.mpr fun q=>?_
    have e:C=tp:=Value.ref.inj (beq_iff_eq.mp q);subst e;have z:=(X _ _ ho).symm.trans htp;cases z
  . cases e
 ca:=fun X p k=>zgX Y X p k
end
section
variable{X:Cx}
theorem zcp{pins:List #[18]}{σ : St}{H:Hp}{s:Shared}{ea C:Addr}(I:#[11])(h:H ea=some (excO ea C)):XAt ea C s.heap:=by
 obtain⟨p,_⟩:=(show zJ X.prog X.w H s.heap ea (excO ea C) from I.hok ea _ h)
 exact p
def zkP(K:Ybf):List V->Hp->VK->Prop:=fun xs H Q=>∃ (ea C tp:Addr) (cs:List Addr) (b:Bool),xs=[.ref ea,.ref tp]/\H ea=some (excO ea C)/\XAttr K C/\H tp=some (.tup (cs.map V.ref))/\PySem.W.kitAny K (.ref C) (cs.map Value.ref)=some b/\Q (.bl b) H
theorem zfC:∀ {cs:List Addr} {us:List Value},Vals (cs.map V.ref) us->us=cs.map Value.ref
 | [],_,.nil=>rfl
 | a :: cs, _, .cons r t => by
  have e:=zfC (cs:=cs) t;rw [e];cases(show _=Value.ref a from r)
  rfl
theorem zhK:zQ X (.builtin "isinstance") (zkP X.K):=by
 intro pins s σ H xs us Q I r h;obtain⟨ea,C,tp,cs,b,rfl,h1,Y,h2,h3,q⟩:=h;obtain⟨u,c,rfl,rx,rc⟩:=J6 r;cases(show u=Value.ref ea from rx)
 cases(show c=Value.ref tp from rc)
 obtain⟨its,rv,⟨o,ho,hc,n,hd⟩,_⟩:=I.tuple (SqT.of h2);have e:=zfC rv;subst e;obtain⟨oc,od,dt,sl⟩:=o;dsimp only at hc hd;subst hc hd;exact PySem.W.kia_tup (zc8 Y) I.kIn (zcp I h1) ho h3 (fun z=>nomatch z) fun tk=>⟨.bl b,H,I.tok tk,rfl,q⟩
def zhZ(K:Ybf):List V->Hp->VK->Prop:=fun xs H Q=>∃ ea C D b,xs=[.ref ea,.ref D]/\H ea=some (excO ea C)/\XAttr K C/\PySem.W.kitOne K (.ref C) (.ref D)=some b/\Q (.bl b) H
theorem zha:zQ X (.builtin "isinstance") (zhZ X.K):=by
 intro pins s σ H xs us Q I r h;obtain⟨ea,C,D,b,rfl,h1,Y,h3,q⟩:=h;obtain⟨u,c,rfl,rx,rc⟩:=J6 r;cases(show u=Value.ref ea from rx)
 cases(show c=Value.ref D from rc)
 exact PySem.W.kia_one (zc8 Y) I.kIn (zcp I h1) h3 (fun z=>nomatch z) fun tk=>⟨.bl b,H,I.tok tk,rfl,q⟩
def zi8(K:Ybf):List V->Hp->VK->Prop:=fun xs H Q=>∃ ea C n b,xs=[.ref ea,.ty n]/\H ea=some (excO ea C)/\XAttr K C/\PySem.W.kitOne K (.ref C) (.type n)=some b/\Q (.bl b) H
theorem zlT:zQ X (.builtin "isinstance") (zi8 X.K):=by
 intro pins s σ H xs us Q I r h;obtain⟨ea,C,n,b,rfl,h1,Y,h3,q⟩:=h;obtain⟨u,c,rfl,rx,rc⟩:=J6 r;cases(show u=Value.ref ea from rx)
 cases(show c=Value.type n from rc)
 exact PySem.W.kia_one (zc8 Y) I.kIn (zcp I h1) h3 (fun z=>nomatch z) fun tk=>⟨.bl b,H,I.tok tk,rfl,q⟩
end
mutual
inductive RdV(K:Ybf)(H:Hp):V->PyData->Prop
 | non:RdV K H .non .none
 | bl (b):RdV K H (.bl b) (.bool b)
 | int (i):RdV K H (.int i) (.int i)
 | str (x):RdV K H (.str x) (.str x)
 | lst {a xs ds}:SqL K H a xs->RdVs K H xs ds->RdV K H (.ref a) (.list ds)
 | tup {a xs ds}:SqT K H a xs->RdVs K H xs ds->RdV K H (.ref a) (.tuple ds)
inductive RdVs(K:Ybf)(H:Hp):List V->List PyData->Prop
 | nil:RdVs K H [] []
 | cons {x xs d ds}:RdV K H x d->RdVs K H xs ds->RdVs K H (x::xs) (d::ds)
end
section
variable{X:Cx}{pins:List #[18]}{σ : St}{H:Hp}{s:Shared}
mutual
theorem RdV.reads(I:#[11]):∀ {x:V} {d:PyData} {u:Value},RdV X.K H x d->RelV x u->∃ as,Reads s.heap u d as
 | _,_,_,.non,r=>by cases r;exact⟨_,.none⟩
 | _,_,_,.bl b,r=>by cases r;exact⟨_,.bool b⟩
 | _,_,_,.int i,r=>by obtain⟨t,rfl⟩:=r;exact⟨_,.int i t⟩
 | _,_,_,.str x,r=>by obtain⟨t,rfl⟩:=r;exact⟨_,.str x t⟩
 | _, _, _, .lst hq hs, r => by
  cases r;obtain⟨its,rv,⟨o,n,ho,hc,_,hd⟩,_⟩:=I.list hq
  obtain⟨as,q⟩:=RdVs.reads I hs rv;exact⟨_,.list ho hc hd q⟩
 | _, _, _, .tup hq hs, r => by
  cases r;obtain⟨its,rv,⟨o,ho,hc,n,hd⟩,_⟩:=I.tuple hq
  obtain⟨as,q⟩:=RdVs.reads I hs rv;exact⟨_,.tuple ho hc hd q⟩
theorem RdVs.reads(I:#[11]):∀ {xs:List V} {ds:List PyData} {us:List Value},RdVs X.K H xs ds->Vals xs us->∃ as,ReadsAll s.heap us ds as
 | _,_,_,.nil,.nil=>⟨_,.nil⟩
 | _, _, _, .cons h hs, .cons r t => by
  obtain⟨as,q⟩:=RdV.reads I h r;obtain⟨bs,p⟩:=RdVs.reads I hs t;exact⟨_,.cons q p⟩
end
end
section
variable{X:Cx}
def rEqD(K:Ybf):R2:=fun x y H Q=>∃ d e,RdV K H x d/\RdV K H y e/\SeqAt.shaped d=true/\SeqAt.shaped e=true/\Q (.bl (PyData.eqv d e)) H
def rNeD(K:Ybf):R2:=fun x y H Q=>∃ d e,RdV K H x d/\RdV K H y e/\SeqAt.shaped d=true/\SeqAt.shaped e=true/\Q (.bl (!PyData.eqv d e)) H
theorem zlc(hu:X.A.units+64<cLine):OpR X (compareOp .Eq) (rEqD X.K):=by
 intro pins s σ H x y v u Q I rx ry h;obtain⟨d,e,h1,h2,s1,s2,q⟩:=h;obtain⟨as,r1⟩:=h1.reads I rx;obtain⟨bs,r2⟩:=h2.reads I ry;exact eq_dataH r1 r2 s1 s2 hu ⟨.bl _,H,I,rfl,q⟩
theorem zkm(hu:X.A.units+64<cLine):OpR X (compareOp .NotEq) (rNeD X.K):=by
 intro pins s σ H x y v u Q I rx ry h;obtain⟨d,e,h1,h2,s1,s2,q⟩:=h;obtain⟨as,r1⟩:=h1.reads I rx;obtain⟨bs,r2⟩:=h2.reads I ry;exact ne_dataH r1 r2 s1 s2 hu ⟨.bl _,H,I,rfl,q⟩
def jX(_ j:Int):Prop:=0<j/\Bits 9000 j
theorem zg8:OpR X (binaryOp .FloorDiv) (rI jX fun i j=>.int (i/j)):=opI fun i j _ _ _ _ _ hc q=>
 floordiv_int (by have:=hc.1;omega) (by rw [Int.fdiv_eq_ediv_of_nonneg i (by have:=hc.1;omega)];exact q) (.inl (PyProof.noPylong_of_log2 (hc.2.log2 #[1])))
end
def Df(P:Program)(w:World)(K:Ybf)(mg:#[15])(base:Heap)(k:Nat)(x:Str)(ps:List Str)(sp:Sp):Prop:=
 ∃ f fd,FnOk P w K mg base (CXR P w) k f fd ps sp/\Binds K fd ps []/\PySem.W.keepIn K (.ref f)=true/\mg x=some (.ref f)
section
variable{X:Cx}{k:Nat}{ps:List Str}{sp:Sp}{x:Str}{p pos pos':Pos}{e:Expr}{es:List Expr}{t:TA}{E:XK}
theorem jE(G:Df X.prog X.w X.K X.mg X.base k x ps sp)(hr:Room k X.A)(hg:Gl X x)(hx:Passes (CXR X.prog X.w) X E)(ha:PA X (e::es) t)(hdb:#[23]:=by decide)
 (he:#[13]:=by rfl) (hpl:(backTo pos (starEach es X.env)).any (·.1)=false:=by rfl):PE X #[16] (zel sp [] E t):=by
 obtain⟨f,fd,F,hb,hk,hm⟩:=G;exact zli F hr hg hm hk hb .nil hx ha hdb he hpl
theorem zjW(G:Df X.prog X.w X.K X.mg X.base k x ps sp)(hr:Room k X.A)(hg:Gl X x)(ha:PA X.nox (e::es) t)(hdb:#[23]:=by decide)
 (he:#[13]:=by rfl) (hpl:(backTo pos (starEach es X.env)).any (·.1)=false:=by rfl)
 (hs:swapsWith #[16] none pos'.line X.env=pure false:=by rfl):PX X [.Expr #[16] pos'] (zen sp t):=by
 obtain⟨f,fd,F,hb,hk,hm⟩:=G;exact zhv F hr hg hm hk hb ha hdb he hpl hs
end
section
variable{X:Cx}{o e:Expr}{to:TE}{t:TA}{apos pos:Pos}
theorem zdu(ho:PE X o to)(ha:PA X [e] t)(hb:attributeBase o "append" X.env (eval o X.env)=eval o X.env:=by rfl)
 (hf:((backTo pos (starEach [e] X.env)).all (fun x=>!x.1)&&(backToKw pos (keywordEach [] X.env)).all (fun x=>x.1.isSome)&&decide ([e].length+([]:List Keyword).length+(if([]:List Keyword).isEmpty then 0 else 1)<30))=true:=by rfl)
 (hl:(apos.endLine==pos.line)=true:=by rfl) (hs:starEach [e] X.env=(false,eval e X.env)::starEach [] X.env:=by rfl) (hp:(backTo pos (starEach [] X.env)).any (·.1)=false:=by rfl) :
 PE X (.Call (.Attribute o "append" apos) [e] [] pos) (tBM X.K "list" rAppend to t):=
 zaZ Wah PySem.F.slot_list_append PySem.F.type_list_append zfd ho ha hb hf hl hs hp
theorem zc6{K:Ybf}{H:Hp}{p:Addr}{xs:List V}(h:H p=some (.lst xs)):tyV K "list" (.ref p) H:=.inl ⟨rfl,_,SqL.of h⟩
end
section
variable{ta:TA}{tl:TE}{g:TG}{tb:TS}{D:Ends}{σ : St}{H:Hp}{K:Ybf}
end
theorem zG{H:Hp}{p:Addr}(h:H p=none)(o:HO):Same H (upd H p o):=fun b u q=>by rw [zd (zY q h)];exact q
theorem Same.tup{K:Ybf}{H H':Hp}{a:Addr}{xs:List V}(e:Same H H')(h:SqT K H a xs):SqT K H' a xs:=by
 rcases h with (h|⟨o,h⟩)|h
 . exact .inl (.inl (e _ _ h))
 . exact .inl (.inr ⟨o,e _ _ h⟩)
 . exact .inr h
section
variable{X:Cx}
end
theorem atI0{α : Type}{x:α}{xs:List α}:atI (x::xs) 0=some x:=jd (j:=0) rfl
theorem atI1{α : Type}{x y:α}{xs:List α}:atI (x::y::xs) 1=some y:=jd (j:=1) rfl
end L2
section
open PySem PySem.Spec PyProof.Rows L2
namespace L2
end L2
namespace L2
theorem Bits.emod{k:Nat}{m:Int}(hm:Bits k m)(h0:0<m)(x:Int):Bits k (x%m):=hm.le (by
 have h1:=Ybc x (by omega:m≠0)
 have h2:=Ybd x h0
 omega)
theorem Bits.lit{x:Int}(k:Nat)(h:x.natAbs<2 ^ 64:=by decide)(hk:64<=k:=by decide):Bits k x:=Bits.mono (j:=64) h hk
theorem divP{i j:Int}(h0:0<j:=by decide)(h:j.natAbs<2 ^ 64:=by decide):jX i j:=⟨h0,Bits.lit _ h #[1]⟩
theorem powB{i j:Int}{k:Nat}(h:Bits k i)(h0:0<=j)(hk:k*j.toNat<=134217728):JH i j:=⟨h0,by
 have e1:=h.bits;have e2:(Builtin.Int.intBits i:Int)*j<=(k:Int)*j:=Ybe #[0] h0
 have e3:(k:Int)*j=((k*j.toNat:Nat):Int):=by rw [Int.natCast_mul];congr 1;omega
 omega⟩
end L2
end
namespace L2
open PySem PySem.Spec PyProof.Rows
def zdB(osc scope:Scope)(tn fn:List Str):Bool:=
 decide (scope.kind=.function)&&scope.names.all (fun x=>!decide (x.2=.local)||decide (scope.names.lookup x.1=some .local)) &&
 scope.names.all (fun x=>!decide (x.2=.cell)||decide (scope.names.lookup x.1=some .cell)) &&
 scope.names.all (fun x=>!decide (x.2=.free)||decide (osc.names.lookup x.1=some .cell)||decide (osc.names.lookup x.1=some .free)) &&
 tn.all (fun x=>decide (scope.names.lookup x=some .local)||decide (scope.names.lookup x=some .cell)) &&
 fn.all (fun x=>decide (scope.names.lookup x=some .free))&&decide ((tn++fn).Nodup)
structure CompSc(osc scope:Scope)(tn fn:List Str):Prop where
 kind:scope.kind=.function
 loc:∀ x∈scope.names,x.2=.local->scope.names.lookup x.1=some .local
 cell:∀ x∈scope.names,x.2=.cell->scope.names.lookup x.1=some .cell
 free:∀ x∈scope.names,x.2=.free->osc.names.lookup x.1=some .cell\/osc.names.lookup x.1=some .free
 frees:∀ x∈fn,scope.names.lookup x=some .free
 nd:(tn++fn).Nodup
theorem zT{osc scope:Scope}{tn fn:List Str}(h:zdB osc scope tn fn=true):CompSc osc scope tn fn:=by
 unfold zdB at h;simp only [Yak,decide_eq_true_eq,WaK,Bool.or_eq_true,Wav,decide_eq_false_iff_not] at h;obtain⟨⟨⟨⟨⟨⟨h1,h2⟩,h3⟩,h4⟩,h5⟩,h6⟩,h7⟩:=h;refine⟨h1,fun x hx e=>(h2 x hx).resolve_left (fun n=>n e),fun x hx e=>(h3 x hx).resolve_left (fun n=>n e),fun x hx e=>?_,h6,h7⟩
 rcases h4 x hx with (n|q)|q
 . exact absurd e n
 . exact .inl q
 . exact .inr q
theorem zcR(env:Env):∀ (names:List (Str×NameKind)) (x:Str),
 (names.map fun(n,k)=>if(k==NameKind.free&&env.scope.kind==.function&&env.kindOf n==some .cell) then(n,NameKind.cell) else(n,k)).lookup x =
  (names.lookup x).map fun k=>if(k==NameKind.free&&env.scope.kind==.function&&env.kindOf x==some .cell) then NameKind.cell else k
 | [],x=>rfl
 | (n, k) :: r, x => by
  have ih:=zcR env r x;rw [Ya1]
  by_cases hx:x=n
  . subst hx
    show List.lookup x ((if(k==NameKind.free&&env.scope.kind==.function&&env.kindOf x==some .cell)=true then(x,NameKind.cell) else(x,k))::_)=_
    split
    . rename_i hc;rw [List.lookup_cons,List.lookup_cons];simp only [beq_self_eq_true,Option.map_some,if_pos hc]
    . rename_i hc;rw [List.lookup_cons,List.lookup_cons];simp only [beq_self_eq_true,Option.map_some,if_neg hc]
  . have hb:(x==n)=false:=beq_eq_false_iff_ne.mpr hx
    show List.lookup x ((if(k==NameKind.free&&env.scope.kind==.function&&env.kindOf n==some .cell)=true then(n,NameKind.cell) else(n,k))::_)=_
    split
    . simp only [List.lookup_cons,hb];exact ih
    . simp only [List.lookup_cons,hb];exact ih
theorem zfB{scope:Scope}{env:Env}{x:Str}{k:NameKind}(h:(relabel scope env).names.lookup x=some k):∃ k',scope.names.lookup x=some k'/\(k'=k\/(k'=.free/\k=.cell)):=by
 have e:=zcR env scope.names x;have h':(scope.names.map fun(n,k)=>if(k==NameKind.free&&env.scope.kind==.function&&env.kindOf n==some .cell) then(n,NameKind.cell) else(n,k)).lookup x=some k:=h
 rw [h'] at e;cases q:scope.names.lookup x with
 | none=>rw [q] at e;cases e
 | some k'=>
  rw [q] at e;have e':=WaP e;refine⟨k',rfl,?_⟩;dsimp only at e'
  split at e'
  . rename_i hc
    simp only [Yak,beq_iff_eq] at hc;exact .inr ⟨hc.1.1,e'⟩
  . exact .inl e'.symm
theorem zj8{scope:Scope}{env:Env}{x:Str}(h:scope.names.lookup x=some .free):(relabel scope env).names.lookup x=some .cell\/(relabel scope env).names.lookup x=some .free:=by
 have e:=zcR env scope.names x;rw [h] at e;have e':(relabel scope env).names.lookup x=some _:=e;rw [e']
 by_cases c:(NameKind.free==NameKind.free&&env.scope.kind==.function&&env.kindOf x==some .cell)=true
 . left;simp only [Waw];rw [if_pos c]
 . right;simp only [Waw];rw [if_neg c]
theorem JM:∀ (names:List (Str×NameKind)) (n:Nat) (acc:List (Str×Addr)),cellsFrom n names acc=cellsFrom n names []++acc
 | [],_,acc=>rfl
 | (x, k) :: r, n, acc => by
  unfold cellsFrom
  split
  . rw [JM r (n+1) ((x,n)::acc),JM r (n+1) [(x,n)],Yag];rfl
  . exact JM r n acc
theorem zdc:∀ (names:List (Str×NameKind)) (n:Nat) (x:Str) (c:Addr),(x,c)∈cellsFrom n names []->(x,NameKind.cell)∈names
 | [],_,_,_,h=>by cases h
 | (y, k) :: r, n, x, c, h => by
  unfold cellsFrom at h
  split at h
  . rename_i hk
    rw [JM] at h
    rcases Ya3.mp h with q|q
    . exact YaT _ (zdc r _ x c q)
    . cases Ya6.mp q
      have:k=.cell:=by simpa using hk
      subst this;exact YaV
  . exact YaT _ (zdc r _ x c h)
theorem ziJ{env:Env}{scope:Scope}(h:∀ x∈scope.names,x.2=.free->∃ c,env.cells.lookup x.1=some c) :
 ∃ cl,closureFor scope env=pure cl/\(∀ x c,cl.lookup x=some c->env.cells.lookup x=some c)/\∀ x,(x,NameKind.free)∈scope.names->∃ c,cl.lookup x=some c:=by
 have key:∀ (f:Str×NameKind->List (Str×Addr)->Sem (ForInStep (List (Str×Addr)))),(∀ n k cs,f (n,k) cs=if k==.free then(do let a <-cellOf env n;pure (ForInStep.yield ((n,a)::cs))) else pure (ForInStep.yield cs))->
  ∀ (names:List (Str×NameKind)) (acc:List (Str×Addr)),(∀ x∈names,x.2=.free->∃ c,env.cells.lookup x.1=some c)->(∀ x c,acc.lookup x=some c->env.cells.lookup x=some c)->
  ∃ cl,(forIn names acc f:Sem (List (Str×Addr)))=pure cl/\(∀ x c,cl.lookup x=some c->env.cells.lookup x=some c)/\
   (∀ x,(x,NameKind.free)∈names->∃ c,cl.lookup x=some c)/\∀ x,(∃ c,acc.lookup x=some c)->∃ c,cl.lookup x=some c:=by
  intro f hf names
  induction names with
  | nil=>intro acc _ ha;exact⟨acc,rfl,ha,fun x hx=>(by cases hx),fun x q=>q⟩
  | cons y r ih=>
   intro acc hn ha;obtain⟨n,k⟩:=y
   by_cases hk:k=.free
   . subst hk
     obtain⟨c,hc⟩:=hn (n,.free) YaV rfl;have hc':env.cells.lookup n=some c:=hc;obtain⟨cl,e1,e2,e3,e4⟩:=ih ((n,c)::acc) (fun x hx=>hn x (YaT _ hx)) (fun x c' q=>by
      rw [List.lookup_cons] at q
      by_cases hx:x=n
      . subst hx;simp at q;subst q;exact hc'
      . rw [beq_eq_false_iff_ne.mpr hx] at q;exact ha x c' q)
     refine⟨cl,?_,e2,fun x hx=>?_,fun x q=>e4 x ?_⟩
     . rw [List.forIn_cons,hf]
       have ec:cellOf env n=pure c:=by unfold cellOf;rw [hc']
       simp only [beq_self_eq_true,if_true,ec];exact e1
     . rcases WaU.mp hx with e|e
       . cases e;exact e4 n ⟨c,by simp [List.lookup_cons]⟩
       . exact e3 x e
     . obtain⟨c',q⟩:=q
       by_cases hx:x=n
       . subst hx;exact⟨c,by simp [List.lookup_cons]⟩
       . exact⟨c',by rw [List.lookup_cons,beq_eq_false_iff_ne.mpr hx];exact q⟩
   . obtain⟨cl,e1,e2,e3,e4⟩:=ih acc (fun x hx=>hn x (YaT _ hx)) ha
     refine⟨cl,?_,e2,fun x hx=>?_,e4⟩
     . rw [List.forIn_cons,hf]
       have:(k==NameKind.free)=false:=by simpa using hk
       simp only [this,War,if_false];exact e1
     . rcases WaU.mp hx with e|e
       . cases e;exact absurd rfl hk
       . exact e3 x e
 unfold closureFor;obtain⟨cl,e1,e2,e3,_⟩:=key (fun x r=>match x with|(name,kind)=>if kind==.free then(do let a <-cellOf env name;pure (ForInStep.yield ((name,a)::r))) else pure (ForInStep.yield r)) (fun _ _ _=>rfl) scope.names [] h (fun x c q=>by cases q)
 refine⟨cl,?_,e2,e3⟩
 have e:∀ (x:Sem (List (Str×Addr))),x=pure cl->(x >>= fun r=>pure r)=pure cl:=fun x q=>by rw [q];rfl
 exact e _ e1
def zh9(scope:Scope)(C:Addr)(cells:List (Str×Addr))(env:Env):Env:=
 { scope:=relabel scope env,locals:=C,globals:=env.globals,cells:=cells,qual:=env.qual,func:=none,code:=env.code,frame:=env.frame,builtins:=env.builtins }
def Cx.comp(X:Cx)(scope:Scope)(N:List Str)(s:Shared)(H:Hp)(fp:List Addr)(cl:List (Str×Addr)):Cx where
 prog:=X.prog
 w:=X.w
 K:=X.K
 mg:=X.mg
 base:=X.base
 A:=X.A
 N:=N
 s₀:=s
 H₀:=H
 env:=zh9 scope s.heap.objs.size (cellsFrom #[21] scope.names cl) X.env
 outer:=X.stack
 stack:=X.stack
 ex:=fp
 fn:=fun x=>decide (scope.names.lookup x=some .cell)
 calm:=X.calm
 pn:=[]
 xe:=fun _ _=>False
def cst(n:Nat)(js:List Nat)(σ : St):St:=List.replicate n none++js.map fun j=>(σ[j]?).join
theorem zit{X:Cx}{pins:List #[18]}{σ : St}{H:Hp}{s:Shared}{scope:Scope}{tn fn:List Str}{js:List Nat}{fp:List Addr}{cl:List (Str×Addr)}(I:#[11])(S:CompSc X.env.scope scope tn fn)
 (hj:js.map (fun j=>X.N[j]?)=fn.map some) (hfp:∀ b∈fp,FpOk X pins H b) (hlt:∀ b∈fp,b<s.heap.objs.size)
 (hcl:∀ x c,cl.lookup x=some c->X.env.cells.lookup x=some c) (hcl2:∀ x,(x,NameKind.free)∈scope.names->∃ c,cl.lookup x=some c) :
 Inv #[17] [] (cst tn.length js σ) H { s with heap:=pushCells (s.heap.push { cls:=.type "dict", data:=.dict #[] }) scope.names }:=by
 have hC:=cellsFrom_ok scope.names (s.heap.push { cls:=.type "dict", data:=.dict #[] }) #[21] [] ⟨fun _ _ hm=>(nomatch hm),List.Pairwise.nil⟩ (by rw [WaR];exact YaY _)
 rw [WaR] at hC;have keep:∀ b o,s.heap.get? b=some o->(pushCells (s.heap.push { cls:=.type "dict", data:=.dict #[] }) scope.names).get? b=some o:=fun b o e=>pushCells_keeps _ _ b o (YaW _ e)
 have look:∀ x c,(cellsFrom #[21] scope.names cl).lookup x=some c->((x,c)∈cellsFrom #[21] scope.names [])\/X.env.cells.lookup x=some c:=fun x c e=>by
  rw [JM,List.lookup_append] at e;cases q:(cellsFrom #[21] scope.names []).lookup x with
  | some c'=>rw [q] at e;cases e;exact .inl (Wap q)
  | none=>rw [q] at e;exact .inr (hcl x c e)
 have outerLt:∀ x c,X.env.cells.lookup x=some c->c<s.heap.objs.size:=fun x c e=>by
  obtain⟨v,q⟩:=I.cell x c e;exact q.lt
 have ownGe:∀ x c,(x,c)∈cellsFrom #[21] scope.names []->s.heap.objs.size+1<=c:=fun x c e=>(hC.empty x c e).2
 refine⟨⟨I.ok.mod,S.kind,I.ok.glob,I.ok.blt,YaY _,fun x y c h1 h2=>?_,fun x hx=>?_,fun x c h1 h2=>?_,I.ok.hd,I.ok.frames,.inl rfl,fun b hb=>⟨Yaf (hlt b hb),fun x c e=>?_⟩,fun b o e=>I.bs b o e,Ya5 I.ok.bsz I.sz,fun b o e hb=>?_,fun b hb hz=>?_,I.stack,I.stkFree⟩,
  rfl,I.bare,Un.kept keep,⟨fun _=>none,?_,fun i x v h1 h2 h3=>?_⟩,fun x c e=>?_,I.hok.fresh (YaY _),fun x c e=>?_,fun p hp=>?_,I.hok.kept keep,?_⟩
 . rcases look x c h1 with q|q<;>rcases look y c h2 with r|r
   . exact name_of_addr hC.apart q r
   . exact absurd (Nat.lt_trans (outerLt y c r) (ownGe x c q)) (Yap _)
   . exact absurd (Nat.lt_trans (outerLt x c q) (ownGe y c r)) (Yap _)
   . exact I.ok.inj x y c q r
 . have own:∀ k,scope.names.lookup x=some k->k=.cell\/k=.free->∃ c,(cellsFrom #[21] scope.names cl).lookup x=some c:=fun k hk hkk=>by
    refine Wae.mp (Waj _ _ _ ?_)
    rcases hkk with rfl|rfl
    . exact .inl hk
    . obtain⟨c,q⟩:=hcl2 x (Wap hk)
      exact .inr (by rw [q];rfl)
   rcases hx with hx|hx
   . obtain⟨k',e,q|q⟩:=zfB (scope:=scope) (env:=X.env) hx
     . subst q;exact own _ e (.inl rfl)
     . exact own _ e (.inr q.1)
   . obtain⟨k',e,q|q⟩:=zfB (scope:=scope) (env:=X.env) hx
     . subst q;exact own _ e (.inr rfl)
     . cases q.2
 . have hc:scope.names.lookup x=some .cell:=of_decide_eq_true h1
   rcases look x c h2 with q|q
   . exact Wa2 (ownGe x c q)
   . exfalso
     have h2':(cellsFrom #[21] scope.names cl).lookup x=some c:=h2;rw [JM,List.lookup_append] at h2';obtain⟨c',q'⟩:=Wae.mp (Waj scope.names #[21] [] (.inl hc));rw [q'] at h2';cases h2';exact absurd (Nat.lt_trans (outerLt x c q) (ownGe x c (Wap q'))) (Yap _)
 . rcases look x c e with q|q
   . intro z;subst z
     exact absurd (Nat.lt_trans (hlt c hb) (ownGe x c q)) (Yap _)
   . exact(hfp b hb).2.2.2.2.1 x c q
 . rcases(hfp b hb).2.2.2.1 with z|z
   . exact I.ok.noex b o e z
   . exact absurd (YaU (YaX (I.ok.bs b o e).1) z) (Yap _)
 . rcases WaU.mp (I.stkSub b hz) with z|z
   . exact(hfp b hb).2.1 z
   . exact(hfp b hb).2.2.1 z
 . exact(Heap.Ns.new s.heap (.type "dict")).keeps (pushCells_keeps _ _)
 . unfold cst at h2
   by_cases hi:i<tn.length
   . rw [Yab (by simpa using hi),Yad,if_pos hi] at h2
     cases h2
   . rw [Yae (by simpa using hi),Ybb,Ya0] at h2
     cases ej:js[i - tn.length]? with
     | none=>rw [ej] at h2;cases h2
     | some j=>
      rw [ej] at h2;have h2':(σ[j]?).join=some v:=WaP h2;have hσ : σ[j]?=some (some v):=by
       cases q:σ[j]? with
       | none=>rw [q] at h2';cases h2'
       | some o => rw [q] at h2'; cases o with
        | none=>cases h2'
        | some v'=>cases h2';rfl
      have h1':(tn++fn)[i]?=some x:=h1;rw [Yae #[0]] at h1'
      have hN:X.N[j]?=some x:=by
       have e:=congrArg (fun l=>l[i - tn.length]?) hj
       simp only [Ya0,ej,h1',Option.map_some] at e;exact WaP e
      have hfx:scope.names.lookup x=some .free:=S.frees x (Yah h1');obtain⟨m,hn,hl⟩:=I.loc;have ok:X.env.scope.names.lookup x=some .cell\/X.env.scope.names.lookup x=some .free:=S.free (x,.free) (Wap hfx) rfl;obtain⟨u,r,l⟩:=hl j x v hN hσ (by rcases ok with z|z;exact .inr (.inl z);exact .inr (.inr z))
      refine⟨u,r,.inr ⟨zj8 hfx,?_⟩⟩
      rcases l with ⟨k,_⟩|⟨_,c,ec,q⟩
      . have k':X.env.scope.names.lookup x=some .local:=k
        rcases ok with z|z<;>rw [z] at k'<;>cases k'
      . refine⟨c,?_,q.keeps keep⟩
        show(cellsFrom #[21] scope.names cl).lookup x=some c
        rw [JM,List.lookup_append];have e1:(cellsFrom #[21] scope.names []).lookup x=none:=by
         cases q1:(cellsFrom #[21] scope.names []).lookup x with
         | none=>rfl
         | some c1=>
          have e2:=S.cell (x,.cell) (zdc _ _ _ _ (Wap q1)) rfl;have e2':scope.names.lookup x=some .cell:=e2;rw [hfx] at e2';cases e2'
        obtain⟨c2,q2⟩:=hcl2 x (Wap hfx);have:=hcl x c2 q2;rw [ec] at this;cases this;rw [e1,q2];rfl
 . rcases look x c e with q|q
   . exact⟨_,(hC.empty x c q).1⟩
   . obtain⟨v,z⟩:=I.cell x c q
     exact⟨v,z.keeps keep⟩
 . rcases look x c e with q|q
   . exact I.hok.fresh (Wa2 (ownGe x c q))
   . exact I.freeC x c q
 . exact absurd (show p∈([]:List #[18]) from hp) (by simp)
 . unfold cst
   show _=(tn++fn).length
   have:js.length=fn.length:=by have:=congrArg List.length hj;simpa using this
   rw [YaS,Ybb,YaR,YaS,this]
section
variable{X:Cx}{pins:List #[18]}{σ : L2.St}{H:Hp}{s:Shared}{h':Heap}
theorem Inv.turnedL{t':Nat}{ch:List Addr}(I:#[11])(k:∀ b o,b∉ch->s.heap.get? b=some o->h'.get? b=some o)(hf:∀ b∈ch,FpOk X pins H b):Inv X pins σ H { s with heap:=h',toks:=t' }:=by
 have nit:∀ b u,H b=some u->b∉ch:=fun b u e z=>by have:=(hf b z).1;rw [e] at this;cases this
 refine I.step (g':=s.gens) (d':=s.drawn) (ch:=ch) (fun b hb=>⟨(hf b hb).2.2.2.1,(hf b hb).2.1,(hf b hb).2.2.2.2.1,(hf b hb).2.2.2.2.2⟩) (fun b o _ _ hc e _=>k b o hc e) (fun b o _ _ hc e _=>⟨o.slots,k b o hc e⟩) (fun _ _ _ _ n=>n)
  (fun b o hc e=>⟨o,k b o hc e⟩) (fun _ _ e=>e) (fun _ _ _ e=>e) (fun b ps e=>⟨#[],by rw [e];simp⟩) (fun m hm=>?_) (fun b u e=>?_) I.bare
 . obtain⟨o,es,ep,ho,r⟩:=hm
   exact⟨o,es,ep,k _ o (fun z=>(hf _ z).2.1 rfl) ho,r⟩
 . refine(I.hok b u e).stay (fun c v hc q=>k c v ?_ q) (fun _ q=>q) fun _ _ q=>q
   rcases hc with z|z
   . rw [z];exact nit b u e
   . exact nit c _ z
theorem Inv.track{a:Addr}{o:HO}(I:#[11])(hn:H a=none)(h0:X.s₀.heap.objs.size<=a)(hL:a≠X.env.locals)(hc:∀ x c,X.env.cells.lookup x=some c->c≠a)(hp:∀ p∈X.pn++pins,p.1≠a)(new:zJ X.prog X.w (upd H a o) s.heap a o):Inv X pins σ (upd H a o) s:=by
 have no0:∀ b ob,X.s₀.heap.get? b=some ob->b≠a:=fun b ob e=>Yaf (YaU (YaX e) h0)
 refine⟨I.ok,I.os,I.bare,⟨I.base.keep,I.base.slot,fun b ob q n hx=>?_,I.base.there,fun b xs q=>?_,fun b ob u q=>?_,fun b ps q=>?_⟩,I.loc,I.cell,?_,fun x c e=>?_,fun p h=>?_,I.hok.track hn new,I.len⟩
 . rw [zd (no0 b ob q)];exact I.base.free b ob q n hx
 . have e:=I.base.tups b xs q;rw [zd (zY e hn)];exact e
 . have e:=I.base.frzs b ob u q;rw [zd (zY e hn)];exact e
 . obtain⟨m,e⟩:=I.base.tbls b ps q;exact⟨m,by rw [zd (zY e hn)];exact e⟩
 . rw [zd (Wbb hL)];exact I.free
 . rw [zd (hc x c e)];exact I.freeC x c e
 . obtain⟨q1,q2,q3⟩:=I.pin p h
   exact⟨q1,by rw [zd (hp p h)];exact q2,q3⟩
end
def tTrue:TT:=fun _ H Q=>Q true H
def zbO(wi:TI)(g:TG)(tt:TT)(te:TE)(n:Nat)(js:List Nat):TE:=fun σ H Q=>wi σ H fun J H1=>∀ D,H1 D=none->∃ W:Nat->Nat->List V->St->Hp->Prop,(∃ m,W 0 m [] (cst n js σ) (upd H1 D (.lst [])))/\∀ i m ys σ1 H2,W i m ys σ1 H2->
 (J.stop i H2/\Q (.ref D) H2)\/(J.go i H2/\∀ x H3,J.yld i H2 x H3->g x σ1 H3 fun σ4 H4=>tt σ4 H4 fun b H5=>if b=true then te σ4 H5 fun y H6=>H6 D=some (.lst ys)/\ys.length<sizeLine/\∃ m',m'<m/\W (i+1) m' (ys++[y]) σ4 (upd H6 D (.lst (ys++[y]))) else ∃ m',m'<m/\W (i+1) m' ys σ4 H5)
def PTs(X:Cx)(ifs:List Expr)(t:TT):Prop:=
 ∀ (pins:List #[18]) (s:Shared) (σ : St) (H:Hp) (Q:Bool->Hp->Prop),Inv X pins σ H s->t σ H Q->
  wpAny #[12] X.A (forIn ifs true fun c r=>if r=true then do let ok <-isTrue c X.env (eval c X.env);pure (ForInStep.yield ok) else pure (ForInStep.yield r)) (TP X pins σ Q) X.xe s
theorem za4{X:Cx}:PTs X [] tTrue:=fun _ _ _ H _ I h=>wpAny_tests_nil ⟨H,I,h⟩
theorem zc0{X:Cx}{c:Expr}{t:TT}(h:PT X c t):PTs X [c] t:=fun pins s σ H Q I q=>wpAny_tests_one (h pins s σ H Q I q)
theorem zfq{X:Cx}{elt tg iter:Expr}{ifs:List Expr}{scope:Scope}{pos pos':Pos}{wi:TI}{g:TG}{tt:TT}{te:TE}{use:Option (Value->Sem Unit)}{Qc:#[14]}(tn fn:List Str)(js:List Nat)(hcalm:X.calm=true)(S:CompSc X.env.scope scope tn fn)(hj:js.map (fun j=>X.N[j]?)=fn.map some)(hi:PI X tg iter wi)
 (hb:∀ s H fp cl,PG #[17] tg g/\PTs #[17] ifs tt/\PE #[17] elt te)
 (hs:∀ x,foldedSetIterable iter X.env x=pure x) {pins:List #[18]} {s:Shared} {σ : L2.St} {H:Hp} {Q:VK} (I:#[11]) (h:zbO wi g tt te tn.length js σ H Q)
 (fin:∀ (D C:Addr) (s6:Shared) (H5:Hp) (m6:#[15]),s6.heap.Ns C m6->FpOk X pins H5 C->Inv X pins σ H5 s6->Q (.ref D) H5->compPost #[12] X.A X.xe use Qc (.ref D) C (.ok .next) s6) :
 wpAny #[12] X.A (comprehension (.ListComp elt [⟨tg,iter,ifs,0⟩] scope pos) scope X.env pos' (newList []) false (eval iter X.env) use) Qc X.xe s:=by
 obtain⟨cl,hclos,hcl,hcl2⟩:=ziJ (env:=X.env) (scope:=scope) (fun x hx e=>I.ok.has x.1 (S.free x hx e))
 refine wpAny_comprehension_free (use:=use) rfl hs hclos S.kind S.loc (thn (hi pins s σ H _ I h) fun v s1 h1=>thn h1 fun itv s2 h2=>?_)
 obtain⟨it,fp,tn',J,H2,e,I2,T,st2,f2,k⟩:=h2;subst e;have hD:H2 s2.heap.objs.size=none:=I2.fresh;obtain⟨W,⟨m0,w0⟩,turn⟩:=k _ hD;refine wpAny_newObj_type ?_;have I3:Inv X pins σ (upd H2 s2.heap.objs.size (.lst [])) { s2 with heap:=s2.heap.push { cls:=.type "list", data:=.seq ([]:List Value).toArray } }:=I2.lnew (t':=s2.toks) (ys:=[]) (its:=[]) .nil (Wa9 _)
 generalize hs3:({ s2 with heap:=s2.heap.push { cls:=.type "list", data:=.seq ([]:List Value).toArray } }:Shared)=s3 at I3
 have hs3':s3.heap.objs.size=s2.heap.objs.size+1:=by rw [<-hs3];exact WaR ..
 have up3:∀ b o,s2.heap.get? b=some o->s3.heap.get? b=some o:=fun b o e=>by rw [<-hs3];exact YaW _ e
 have flt:∀ b∈fp,b<s2.heap.objs.size:=fun b hb=>by
  obtain⟨o,e,_⟩:=T.obj _ _ st2 b hb;exact YaX e
 generalize hDn:s2.heap.objs.size=D at *;have f3:∀ b∈fp,FpOk X pins (upd H2 D (.lst [])) b:=fun b hb=>⟨by rw [zd (Yaf (flt b hb))];exact(f2 b hb).1,(f2 b hb).2⟩
 have flt3:∀ b∈fp,b<s3.heap.objs.size:=fun b hb=>by rw [hs3'];exact Nat.lt_succ_of_lt (flt b hb)
 have I4:=zit I3 S hj f3 flt3 hcl hcl2;have st4:tn' 0 (pushCells (s3.heap.push { cls:=.type "dict", data:=.dict #[] }) scope.names):=T.keep _ _ _ st2 fun b _ o e=>pushCells_keeps _ _ b o (YaW _ (up3 b o e))
 obtain⟨pg,pt,pe⟩:=hb s3 (upd H2 D (.lst [])) fp cl;generalize hX:X.comp scope (tn++fn) s3 (upd H2 D (.lst [])) fp cl=Y at I4 pg pt pe;have Yp:Y.prog=X.prog:=by rw [<-hX];rfl
 have Yw:Y.w=X.w:=by rw [<-hX];rfl
 have YK:Y.K=X.K:=by rw [<-hX];rfl
 have YA:Y.A=X.A:=by rw [<-hX];rfl
 have Yc:Y.calm=true:=by rw [<-hX];exact hcalm
 have Yxe:Y.xe=fun _ _=>False:=by rw [<-hX];rfl
 have Yex:Y.ex=fp:=by rw [<-hX];rfl
 have Yfs:Y.fs=frs X.stack:=by rw [<-hX];rfl
 have Ypn:Y.pn=[]:=by rw [<-hX];rfl
 have Ys:Y.s₀ = s3:=by rw [<-hX];rfl
 have YH:Y.H₀ = upd H2 D (.lst []):=by rw [<-hX];rfl
 have YC:Y.env.locals=s3.heap.objs.size:=by rw [<-hX];rfl
 have Yenv:({ scope:=relabel scope X.env,locals:=s3.heap.objs.size,globals:=X.env.globals,cells:=cellsFrom (s3.heap.objs.size+1) scope.names cl,qual:=X.env.qual,func:=none,code:=X.env.code,frame:=X.env.frame,builtins:=X.env.builtins }:Env)=Y.env:=by rw [<-hX];rfl
 have stat:∀ {H':Hp},(∀ b∈fp,H' b=none)->∀ b∈fp,FpOk Y [] H' b:=fun hn b hb=>by
  refine⟨hn b hb,?_,?_,.inl (by rw [Yex];exact hb),fun x c e=>(I4.ok.exf b (by rw [Yex];exact hb)).2 x c e,fun p hp=>?_⟩
  . rw [YC];exact Yaf (flt3 b hb)
  . exact I4.ok.exfs b (by rw [Yex];exact hb)
  . rw [Ypn] at hp;exact absurd (show p∈([]:List #[18]) from hp) (by simp)
 have loop:codeAny #[12] X.A (.compLoop (.ListComp elt [⟨tg,iter,ifs,0⟩] scope pos) 0 (.ref it) (.ref D) Y.env) (compPost #[12] X.A X.xe use Qc (.ref D) s3.heap.objs.size)
  { s3 with heap:=pushCells (s3.heap.push { cls:=.type "dict", data:=.dict #[] }) scope.names }:=by
  refine codeAny_loop rfl (fun n s'=>∃ i ys σ' H',Inv Y [] σ' H' s'/\tn' i s'.heap/\(∀ b∈fp,H' b=none)/\W i n ys σ' H') (fun n s5 hI=>?_) m0 ⟨0,[],_,_,I4,st4,fun b hb=>(f3 b hb).1,w0⟩
  obtain⟨i,ys,σ5,H5,I5,st5,fr5,w5⟩:=hI;show wpAny _ X.A ((compTurn (.ListComp elt [⟨tg,iter,ifs,0⟩] scope pos) 0 (.ref it) (.ref D) Y.env).onRaise (fun x=>do noteFrame x Y.env;theTreesLotGoes x)) _ _ s5
  refine wpAny_noted ?_
  rw [compTurn_list];refine wpAny_bind (wpAny_standAt (wpAny_bind ?_))
  rcases turn i n ys σ5 H5 w5 with ⟨stop,qn⟩|⟨go,step⟩
  . have d:=T.done Y Yp Yw YK Yc i [] s5 σ5 H5 (fun _ _=>False) I5 (stat fr5) st5 stop
    rw [YA] at d;refine wpAny_mono d (fun r s6 ⟨hr,I6⟩=>?_) fun _ _ z=>z.elim
    subst hr;refine wpAny_pure ?_;obtain⟨m6,ns6,_⟩:=I6.loc;rw [YC] at ns6;have hC:H5 s3.heap.objs.size=none:=by have:=I6.free;rwa [YC] at this
    have u6:=I6.base;rw [Yfs,Yex,YH,Ys] at u6;have os6:=I6.os;rw [Ys] at os6;have hok6:=I6.hok;rw [Yp,Yw] at hok6;have IX:Inv X pins σ H5 s6:=I3.call' (s':=s6) os6 u6 hok6 I6.bare (fun b hb=>⟨(f3 b hb).2.2.2.1,(f3 b hb).2.1,(f3 b hb).2.2.2.2.1,(f3 b hb).2.2.2.2.2⟩)
    exact fin D s3.heap.objs.size s6 H5 m6 ns6 (I3.fpOk (H':=H5) (YaY _) hC) IX qn
  . have d:=T.item Y Yp Yw YK Yc i [] s5 σ5 H5 (fun _ _=>False) I5 (stat fr5) st5 go
    rw [YA] at d;refine wpAny_mono d (fun r s6 ⟨u,hr,h6⟩=>?_) fun _ _ z=>z.elim
    subst hr;refine wpAny_bind (wpAny_mono h6 (fun _ s7 ⟨x,H7,I7,r7,y7,st7,fr7⟩=>?_) fun _ _ z=>z.elim)
    have I7':=I7.pinned (stat fr7) (T.obj _ _ st7);have a8:=pg _ s7 σ5 H7 x u _ I7' r7 (step x H7 y7);rw [YA,Yp,Yw,Yxe] at a8;refine wpAny_bind (wpAny_mono a8 (fun _ s8 ⟨σ8,H8,I8,q8⟩=>?_) fun _ _ z=>z.elim)
    have a9:=pt _ s8 σ8 H8 _ I8 q8;rw [YA,Yp,Yw,Yxe] at a9;have again:∀ {H':Hp} {s':Shared} {ys':List V} {m':Nat},m'<n->Inv Y ([]++Z1 fp s7.heap) σ8 H' s'->W (i+1) m' ys' σ8 H'->∃ m,m<n/\∃ i ys σ' H',Inv Y [] σ' H' s'/\tn' i s'.heap/\(∀ b∈fp,H' b=none)/\W i m ys σ' H':=fun {H' s' ys' m'} hm I' w'=>by
     refine⟨m',hm,i+1,ys',σ8,H',I'.unpinned,T.keep _ _ _ st7 fun b hb o e=>(I'.pin (b,o) (Yaa _ (Yaa _ (zbL hb e)))).1,fun b hb=>?_,w'⟩
     obtain⟨o,e,d⟩:=T.obj _ _ st7 b hb;exact(I'.pin (b,o) (Yaa _ (Yaa _ (zbL hb e)))).2.1
    refine wpAny_bind (wpAny_mono a9 (fun ok s9 ⟨H9,I9,q9⟩=>?_) fun _ _ z=>z.elim)
    cases ok with
    | false=>
     obtain⟨m',hm,w9⟩:=q9;exact wpAny_pure ⟨rfl,again hm I9 w9⟩
    | true=>
     have a10:=pe _ s9 σ8 H9 _ I9 q9;rw [YA,Yp,Yw,Yxe] at a10;refine wpAny_bind (wpAny_bind (wpAny_mono a10 (fun y10 s10 ⟨y,H10,I10,r10,e10,hz,m',hm,w10⟩=>?_) fun _ _ z=>z.elim))
     have a11:=zfd (X:=Y) _ s10 σ8 H10 (.ref D) [y] (.ref D) [y10] (fun _ H'=>H'=upd H10 D (.lst (ys++[y]))) I10 rfl (.cons r10 .nil) ⟨D,ys,y,rfl,rfl,e10,hz,rfl⟩
     rw [YA,Yp,Yw,Yxe] at a11;refine wpAny_bind (wpAny_mono a11 (fun _ s11 ⟨_,H11,I11,_,e11⟩=>?_) fun _ _ z=>z.elim)
     subst e11;exact wpAny_pure (wpAny_pure ⟨rfl,again hm I11 w10⟩)
 have env4:wpAny #[12] X.A (newFunctionEnv scope X.env.globals cl [] X.env.qual none .none (some X.env)) (fun cenv s₄=>
  codeAny #[12] X.A (.compStart (.ListComp elt [⟨tg,iter,ifs,0⟩] scope pos) 0 (.ref it) (.ref D) { cenv with scope:=relabel scope X.env }) (compPost #[12] X.A X.xe use Qc (.ref D) cenv.locals) s₄) X.xe s3:=by
  simp only [newFunctionEnv,Option.isSome_some,if_true];refine wpAny_bind (wpAny_alloc ?_);refine wpAny_bind (wpAny_layCells _ (fun name kind cells=>by cases hkc:kind==NameKind.cell<;>simp [hkc]) _ _ _ _ ?_)
  rw [List.forIn_nil];refine wpAny_bind (wpAny_pure (wpAny_pure ?_));rw [show({ s3 with heap:=s3.heap.push { cls:=.type "dict", data:=.dict #[] } }:Shared).heap.objs.size=s3.heap.objs.size+1 from WaR ..]
  dsimp only;rw [Yenv];exact codeAny_compStart_list loop (T.self _ 0 _ _ _ st4 loop)
 exact env4
theorem zaE{X:Cx}{elt tg iter:Expr}{ifs:List Expr}{scope:Scope}{pos:Pos}{wi:TI}{g:TG}{tt:TT}{te:TE}(tn fn:List Str)(js:List Nat)(hcalm:X.calm=true)(S:CompSc X.env.scope scope tn fn)(hj:js.map (fun j=>X.N[j]?)=fn.map some)(hi:PI X tg iter wi)
 (hb:∀ s H fp cl,PG #[17] tg g/\PTs #[17] ifs tt/\PE #[17] elt te)
 (hs:∀ x,foldedSetIterable iter X.env x=pure x:=by intro _;rfl) :
 PE X (.ListComp elt [⟨tg,iter,ifs,0⟩] scope pos) (zbO wi g tt te tn.length js):=by
 intro pins s σ H Q I h;rw [eval_ListComp];refine zfq (use:=none) tn fn js hcalm S hj hi hb hs I h fun D C s6 H5 m6 ns6 hC I6 q=>⟨m6,ns6,fun h' sb=>⟨.ref D,H5,?_,rfl,q⟩⟩
 exact I6.turnedL (t':=s6.toks) (ch:=[C]) (fun b o hb e=>sb.extBut b o (by simpa using hb) e) fun b hb=>by
  have e:b=C:=by simpa using hb
  subst e;exact hC
theorem zbl{X:Cx}{elt tg iter:Expr}{ifs:List Expr}{scope:Scope}{pos spos pos':Pos}{wi:TI}{g:TG}{tt:TT}{te:TE}{i:Nat}{x:Str}(hN:X.N.Nodup)(hix:X.N[i]?=some x)(hx:Loc X.env.scope x)(tn fn:List Str)(js:List Nat)(hcalm:X.calm=true)(S:CompSc X.env.scope scope tn fn)(hj:js.map (fun j=>X.N[j]?)=fn.map some)(hi:PI X tg iter wi)
 (hb:∀ s H fp cl,PG #[17] tg g/\PTs #[17] ifs tt/\PE #[17] elt te)
 (hs:∀ x,foldedSetIterable iter X.env x=pure x:=by intro _;rfl)
 (hsw:swapsWith (.ListComp elt [⟨tg,iter,ifs,0⟩] scope pos) (some (.Name x pos')) spos.line X.env=pure true:=by rfl) (hf:#[19]:=by first|exact .inl rfl|exact .inr rfl|assumption) :
 PS X (.Assign [.Name x pos'] (.ListComp elt [⟨tg,iter,ifs,0⟩] scope pos) spos) (tAsg (zbO wi g tt te tn.length js) (zbv i)):=by
 intro pins s σ H D I h;rw [exec_Assign_Name_used _ _ _ _ hsw];refine wpAny_bind (wpAny_standAt (wpAny_bind ?_));show wpAny _ X.A (do let _ <-comprehension (.ListComp elt [⟨tg,iter,ifs,0⟩] scope pos) scope X.env _ (newList []) false (eval iter X.env) (some (assign (.Name x pos') X.env))) _ _ s
 refine wpAny_bind (wpAny_mono (zfq (use:=some (assign (.Name x pos') X.env)) (Qc:=fun _ s'=>SP X pins D .next s') tn fn js hcalm S hj hi hb hs I h fun L C s6 H5 m6 ns6 hC I6 q=>?_) (fun _ s' hq=>wpAny_pure (wpAny_pure hq)) fun _ _ e=>e)
 show wpAny _ X.A (assign (.Name x pos') X.env (.ref L)) _ _ s6
 refine wpAny_assign_Name (zdR I6 hN hix hx (v:=.ref L) rfl (fun s7 I7 k7=>?_) hf)
 have kC:∃ m7,s7.heap.Ns C m7:=by
  obtain⟨a,sb,ha⟩:=k7;refine⟨m6,ns6.sameBut sb fun z=>?_⟩
  rcases ha with e|e
  . exact hC.2.1 (z.trans e)
  . exact hC.2.2.2.2.1 x a e z.symm
 obtain⟨m7,ns7⟩:=kC;refine⟨m7,ns7,fun h' sb=>⟨_,H5,I7.turnedL (t':=s7.toks) (ch:=[C]) (fun b o hb e=>sb.extBut b o (by simpa using hb) e) fun b hb=>?_,q⟩⟩
 have e:b=C:=by simpa using hb
 subst e;exact hC
theorem RdVs.length{K:Ybf}{H:Hp}{xs:List V}{ds:List PyData}(h:RdVs K H xs ds):xs.length=ds.length:=by
 induction xs generalizing ds with
 | nil=>cases h;rfl
 | cons x xs ih=>cases h with|cons a b=>rw [List.length_cons,List.length_cons,ih b]
theorem RdVs.get{K:Ybf}{H:Hp}{xs:List V}{ds:List PyData}{i:Nat}{d:PyData}(h:RdVs K H xs ds)(e:ds[i]?=some d):∃ x,xs[i]?=some x/\RdV K H x d:=by
 induction xs generalizing ds i with
 | nil=>cases h;simp at e
 | cons x xs ih=>
  cases h with
  | cons a b=>
   cases i with
   | zero=>cases e;exact⟨_,rfl,a⟩
   | succ i=>
    obtain⟨x,h1,h2⟩:=ih b (i:=i) (by simpa using e)
    exact⟨x,by simpa using h1,h2⟩
theorem RdVs.append{K:Ybf}{H:Hp}{xs ys:List V}{ds es:List PyData}(h:RdVs K H xs ds)(h':RdVs K H ys es):RdVs K H (xs++ys) (ds++es):=by
 induction xs generalizing ds with
 | nil=>cases h;exact h'
 | cons x xs ih=>cases h with|cons a b=>exact .cons a (ih b)
theorem RdVs.set{K:Ybf}{H:Hp}{x:V}{d:PyData}(h:RdV K H x d){xs:List V}{ds:List PyData}(i:Nat)(r:RdVs K H xs ds):RdVs K H (xs.set i x) (ds.set i d):=by
 induction xs generalizing ds i with
 | nil=>cases r;exact .nil
 | cons y xs ih=>
  cases r with
  | cons a b=>
   cases i with
   | zero=>exact .cons h b
   | succ i=>exact .cons a (ih i b)
theorem RdVs.take{K:Ybf}{H:Hp}{xs:List V}{ds:List PyData}(i:Nat)(r:RdVs K H xs ds):RdVs K H (xs.take i) (ds.take i):=by
 induction xs generalizing ds i with
 | nil=>cases r;rw [List.take_nil,List.take_nil];exact .nil
 | cons y xs ih=>
  cases r with
  | cons a b=>
   cases i with
   | zero=>exact .nil
   | succ i=>exact .cons a (ih i b)
theorem RdVs.drop{K:Ybf}{H:Hp}{xs:List V}{ds:List PyData}(i:Nat)(r:RdVs K H xs ds):RdVs K H (xs.drop i) (ds.drop i):=by
 induction xs generalizing ds i with
 | nil=>cases r;rw [List.drop_nil,List.drop_nil];exact .nil
 | cons y xs ih=>
  cases r with
  | cons a b=>
   cases i with
   | zero=>exact .cons a b
   | succ i=>exact ih i b
def tab0(P:Addr):HO:=.ext fun h=>h.get? P=some (PySem.W.tabObj #[])
def tabA(P c':Addr)(pos:Pos):HO:=.ext fun h=>∃ ps,h.get? P=some (PySem.W.tabObj ps)/\TriplesOk ps.toList/\codeAmong pos ps.toList=some (.ref c')
def jV(c':Addr)(q:Str):HO:=.ext fun h=>h.CodeRec (.ref c') q
class LamW where
 pos:Pos
 q:Str
def Lk[LamW](P:Addr)(H:Hp):Prop:=∃ c',H P=some (tabA P c' LamW.pos)/\H c'=some (jV c' LamW.q)
variable[LamW]
def zh(H H':Hp):Prop:=∀ b o,H b=some o->H' b=some o\/(o=tab0 b/\((∀ C,tab0 b≠excO b C)/\∀ q,tab0 b≠jV b q)/\Lk b H')
theorem Same.x{H H':Hp}(s:Same H H'):zh H H':=fun b o h=>.inl (s b o h)
theorem zh.refl(H:Hp):zh H H:=(Same.refl H).x
theorem zh.free{H H':Hp}(e:zh H H'){l:Addr}(h:H' l=none):H l=none:=by
 cases q:H l with
 | none=>rfl
 | some o=>
  rcases e l o q with z|⟨_,_,c',z,_⟩
  . rw [h] at z;cases z
  . rw [h] at z;cases z
theorem zh.at{H H':Hp}(e:zh H H'){b:Addr}{o:HO}(h:H b=some o)(n:∀ f,o≠.ext f:=by intro f z;cases z):H' b=some o:=by
 rcases e b o h with z|⟨z,_⟩
 . exact z
 . exact absurd z (n _)
theorem zh.exc{H H':Hp}(e:zh H H'){a C:Addr}(h:H a=some (excO a C)):H' a=some (excO a C):=by
 rcases e a _ h with z|⟨z,n,_⟩
 . exact z
 . exact absurd z.symm (n.1 C)
theorem zh.code{H H':Hp}(e:zh H H'){a:Addr}{q:Str}(h:H a=some (jV a q)):H' a=some (jV a q):=by
 rcases e a _ h with z|⟨z,n,_⟩
 . exact z
 . exact absurd z.symm (n.2 q)
theorem Lk.same{P:Addr}{H H':Hp}(l:Lk P H)(e:zh H H'):Lk P H':=by
 obtain⟨c',h1,h2⟩:=l
 rcases e P _ h1 with z|⟨_,_,z⟩
 . exact⟨c',z,e.code h2⟩
 . exact z
theorem zh.trans{H H1 H2:Hp}(a:zh H H1)(b:zh H1 H2):zh H H2:=fun c o h=>by
 rcases a c o h with z|⟨e,n,l⟩
 . exact b c o z
 . exact .inr ⟨e,n,l.same b⟩
def TabU(P:Addr)(H:Hp):Prop:=H P=some (tab0 P)\/Lk P H
theorem TabU.same{P:Addr}{H H':Hp}(t:TabU P H)(e:zh H H'):TabU P H':=by
 rcases t with h|h
 . rcases e P _ h with z|⟨_,_,l⟩
   . exact .inl z
   . exact .inr l
 . exact .inr (h.same e)
structure Sub(G H:Hp):Prop where
 s:Same G H
 cl:∀ a f,G a≠some (.ext f)
theorem Sub.free{G H:Hp}(e:Sub G H){l:Addr}(h:H l=none):G l=none:=e.s.free h
theorem Sub.seq{K:Ybf}{G H:Hp}{a:Addr}{xs:List V}(e:Sub G H)(h:SqL K G a xs):SqL K H a xs:=e.s.seq h
theorem Sub.tup{K:Ybf}{G H:Hp}{a:Addr}{xs:List V}(e:Sub G H)(h:SqT K G a xs):SqT K H a xs:=e.s.tup h
theorem Sub.trans{G H H':Hp}(e:Sub G H)(x:zh H H'):Sub G H':=⟨fun b o h=>x.at (e.s b o h) (fun f z=>by rw [z] at h;exact e.cl b f h),e.cl⟩
theorem Lk.upd{b D:Addr}{H:Hp}{o:HO}(l:Lk b H)(nb:b≠D)(hD:∀ f,H D≠some (.ext f)):Lk b (upd H D o):=by
 obtain⟨c',h1,h2⟩:=l;exact⟨c',by rw [zd nb];exact h1,by rw [zd (fun y=>by rw [y] at h2;exact hD _ h2)];exact h2⟩
theorem zh.chg{H0 H:Hp}{l:Addr}{o us:HO}(s:zh H0 H)(h0:H0 l=none)(hu:H l=some us)(hux:∀ f,us≠.ext f):zh H0 (upd H l o):=fun b u e=>by
 have nb:=zY e h0
 rcases s b u e with z|⟨z,n,c',h1,h2⟩
 . exact .inl (by rw [zd nb];exact z)
 . refine .inr ⟨z,n,c',by rw [zd nb];exact h1,?_⟩
   rw [zd (fun y=>by rw [y,hu] at h2;exact hux _ (WaP h2))];exact h2
theorem zh.seq{K:Ybf}{H H':Hp}{a:Addr}{xs:List V}(e:zh H H')(h:SqL K H a xs):SqL K H' a xs:=by
 rcases h with (h|⟨o,h⟩)|h
 . exact .inl (.inl (e.at h))
 . exact .inl (.inr ⟨o,e.at h⟩)
 . exact .inr h
theorem zh.tup{K:Ybf}{H H':Hp}{a:Addr}{xs:List V}(e:zh H H')(h:SqT K H a xs):SqT K H' a xs:=by
 rcases h with (h|⟨o,h⟩)|h
 . exact .inl (.inl (e.at h))
 . exact .inl (.inr ⟨o,e.at h⟩)
 . exact .inr h
def cln(H:Hp):Hp:=fun a=>match H a with
 | some (.ext _)=>none
 | o=>o
theorem zbI{H:Hp}{a:Addr}{o:HO}(h:H a=some o)(n:∀ f,o≠.ext f:=by intro f z;cases z):cln H a=some o:=by
 unfold cln;rw [h];cases o<;>first|rfl|exact absurd rfl (n _)
theorem zdd(H:Hp):Sub (cln H) H:=by
 refine⟨fun b o h=>?_,fun a f h=>?_⟩
 . unfold cln at h
   cases e:H b with
   | none=>rw [e] at h;cases h
   | some u=>rw [e] at h;cases u<;>first|exact h|cases h
 . unfold cln at h
   cases e:H a with
   | none=>rw [e] at h;cases h
   | some u=>rw [e] at h;cases u<;>cases h
end L2
namespace L3
open PySem PySem.Spec PyProof.Rows L2
variable[LamW]
abbrev D:=PyData
def keyD:Key->D
 | .inl i=>.int i
 | .inr x=>.str x
inductive Cl where
 | sh (f:Bool) (d:D)
 | ow (f:Bool) (ds:List D)
 | tr (ps:List Addr) (ms:List (List D))
 | dt (ds:List (List Key×D))
 | dk (ks:List Int)
 | fd (ds:List (List Key×D))
 | tk (k:List Key)
 | dm (a:Addr) (ds:List (Int×Int))
 | ex (C:Addr)
def Cl.d:Cl->D
 | .sh _ d=>d
 | .ow _ ds=>.list ds
 | .tr _ _=>.none
 | .dt _=>.none
 | .dk _=>.none
 | .fd _=>.none
 | .tk k=>.tuple (k.map keyD)
 | .dm _ _=>.none
 | .ex _=>.none
def Cl.f:Cl->Bool
 | .sh f _=>f
 | .ow f _=>f
 | .tr _ _=>false
 | .dt _=>false
 | .dk _=>false
 | .fd _=>false
 | .tk _=>true
 | .dm _ _=>false
 | .ex _=>false
def zw:D->Bool
 | .int _=>true|.bool _=>true|.str _=>true|.none=>true|_=>false
abbrev Env3:=List (Option Cl)
structure Gr(G H G' H':Hp):Prop where
 g:Same G G'
 h:zh H H'
 sub:Sub G' H'
 new:∀ b o,G' b=some o->G b=some o\/H b=none\/∃ xs,o=.tup xs
theorem Gr.refl{G H:Hp}(s:Sub G H):Gr G H G H:=⟨Same.refl _,zh.refl _,s,fun _ _ e=>.inl e⟩
theorem Gr.trans{G H G1 H1 G2 H2:Hp}(a:Gr G H G1 H1)(b:Gr G1 H1 G2 H2):Gr G H G2 H2:=
 ⟨a.g.trans b.g,a.h.trans b.h,b.sub,fun c o e=>by
  rcases b.new c o e with q|q|q
  . exact a.new c o q
  . exact .inr (.inl (a.h.free q))
  . exact .inr (.inr q)⟩
theorem Gr.put{G H:Hp}{p:Addr}{o:HO}(s:Sub G H)(hp:H p=none)(ho:∀ f,o≠.ext f:=by intro f z;cases z):Gr G H (upd G p o) (upd H p o):=
 ⟨zG (s.free hp) o,(zG hp o).x,⟨fun b u e=>by
  by_cases hb:b=p
  . subst hb;rw [zf] at e ⊢;exact e
  . rw [zd hb] at e ⊢;exact s.s b u e,fun b f e=>by
  by_cases hb:b=p
  . subst hb;rw [zf] at e;exact ho f (WaP e)
  . rw [zd hb] at e;exact s.cl b f e⟩,fun b u e=>by
  by_cases hb:b=p
  . subst hb;exact .inr (.inl hp)
  . rw [zd hb] at e;exact .inl e⟩
theorem Gr.apart{G H:Hp}{p:Addr}{o:HO}(s:Sub G H)(hp:H p=none):Gr G H G (upd H p o):=
 ⟨Same.refl _,(zG hp o).x,s.trans (zG hp o).x,fun _ _ e=>.inl e⟩
mutual
theorem Zc{K:Ybf}{H H':Hp}(e:Same H H'):∀ {x:V} {d:D},RdV K H x d->RdV K H' x d
 | _,_,.non=>.non
 | _,_,.bl b=>.bl b
 | _,_,.int i=>.int i
 | _,_,.str x=>.str x
 | _,_,.lst q r=>.lst (e.seq q) (rdvs_same e r)
 | _,_,.tup q r=>.tup (e.tup q) (rdvs_same e r)
theorem rdvs_same{K:Ybf}{H H':Hp}(e:Same H H'):∀ {xs:List V} {ds:List D},RdVs K H xs ds->RdVs K H' xs ds
 | _,_,.nil=>.nil
 | _,_,.cons a b=>.cons (Zc e a) (rdvs_same e b)
end
theorem zhs{K:Ybf}{H:Hp}{a:Addr}{xs:List V}(h:SqL K H a xs):SqL K (cln H) a xs:=by
 rcases h with (h|⟨o,h⟩)|h
 . exact .inl (.inl (zbI h))
 . exact .inl (.inr ⟨o,zbI h⟩)
 . exact .inr h
theorem zgL{K:Ybf}{H:Hp}{a:Addr}{xs:List V}(h:SqT K H a xs):SqT K (cln H) a xs:=by
 rcases h with (h|⟨o,h⟩)|h
 . exact .inl (.inl (zbI h))
 . exact .inl (.inr ⟨o,zbI h⟩)
 . exact .inr h
mutual
theorem ziu{K:Ybf}{H:Hp}:∀ {x:V} {d:D},RdV K H x d->RdV K (cln H) x d
 | _,_,.non=>.non
 | _,_,.bl b=>.bl b
 | _,_,.int i=>.int i
 | _,_,.str x=>.str x
 | _,_,.lst q r=>.lst (zhs q) (rdvs_cln r)
 | _,_,.tup q r=>.tup (zgL q) (rdvs_cln r)
theorem rdvs_cln{K:Ybf}{H:Hp}:∀ {xs:List V} {ds:List D},RdVs K H xs ds->RdVs K (cln H) xs ds
 | _,_,.nil=>.nil
 | _,_,.cons a b=>.cons (ziu a) (rdvs_cln b)
end
mutual
inductive RdN(K:Ybf)(H0 G:Hp):V->D->Prop
 | non:RdN K H0 G .non .none
 | bl (b):RdN K H0 G (.bl b) (.bool b)
 | int (i):RdN K H0 G (.int i) (.int i)
 | str (x):RdN K H0 G (.str x) (.str x)
 | lst {a xs ds}:G a=some (.lst xs)->H0 a=none->RdNs K H0 G xs ds->RdN K H0 G (.ref a) (.list ds)
 | tup {a xs ds}:G a=some (.tup xs)->RdNs K H0 G xs ds->RdN K H0 G (.ref a) (.tuple ds)
inductive RdNs(K:Ybf)(H0 G:Hp):List V->List D->Prop
 | nil:RdNs K H0 G [] []
 | cons {x xs d ds}:RdN K H0 G x d->RdNs K H0 G xs ds->RdNs K H0 G (x::xs) (d::ds)
end
mutual
theorem zcJ{K:Ybf}{H0 G:Hp}:∀ {x:V} {d:D},RdN K H0 G x d->RdV K G x d
 | _,_,.non=>.non
 | _,_,.bl b=>.bl b
 | _,_,.int i=>.int i
 | _,_,.str x=>.str x
 | _,_,.lst q _ r=>.lst (SqL.of q) (rdns_rd r)
 | _,_,.tup q r=>.tup (SqT.of q) (rdns_rd r)
theorem rdns_rd{K:Ybf}{H0 G:Hp}:∀ {xs:List V} {ds:List D},RdNs K H0 G xs ds->RdVs K G xs ds
 | _,_,.nil=>.nil
 | _,_,.cons a b=>.cons (zcJ a) (rdns_rd b)
end
mutual
theorem j0{K:Ybf}{H0 H1 G G':Hp}(e:Same G G')(h:∀ a o,G a=some o->H0 a=none->H1 a=none):∀ {x:V} {d:D},RdN K H0 G x d->RdN K H1 G' x d
 | _,_,.non=>.non
 | _,_,.bl b=>.bl b
 | _,_,.int i=>.int i
 | _,_,.str x=>.str x
 | _,_,.lst q n r=>.lst (e _ _ q) (h _ _ q n) (rdns_mono e h r)
 | _,_,.tup q r=>.tup (e _ _ q) (rdns_mono e h r)
theorem rdns_mono{K:Ybf}{H0 H1 G G':Hp}(e:Same G G')(h:∀ a o,G a=some o->H0 a=none->H1 a=none):∀ {xs:List V} {ds:List D},RdNs K H0 G xs ds->RdNs K H1 G' xs ds
 | _,_,.nil=>.nil
 | _,_,.cons a b=>.cons (j0 e h a) (rdns_mono e h b)
end
theorem zaX{K:Ybf}{H0 G:Hp}{v:V}{d:D}(h:zw d=true)(r:RdV K G v d):RdN K H0 G v d:=by
 cases r with
 | non=>exact .non
 | bl b=>exact .bl b
 | int i=>exact .int i
 | str s=>exact .str s
 | lst _ _=>cases h
 | tup _ _=>cases h
structure Rf(K:Ybf)(H0 G:Hp)(f:Bool)(v:V)(d:D):Prop where
 rd:RdV K G v d
 nw:f=true->RdN K H0 G v d
structure Rfs(K:Ybf)(H0 G:Hp)(f:Bool)(v:List V)(d:List D):Prop where
 rd:RdVs K G v d
 nw:f=true->RdNs K H0 G v d
theorem Rf.same{K:Ybf}{H0 G G':Hp}{f:Bool}{v:V}{d:D}(r:Rf K H0 G f v d)(e:Same G G'):Rf K H0 G' f v d:=⟨Zc e r.rd,fun h=>j0 e (fun _ _ _ n=>n) (r.nw h)⟩
theorem Rfs.same{K:Ybf}{H0 G G':Hp}{f:Bool}{v:List V}{d:List D}(r:Rfs K H0 G f v d)(e:Same G G'):Rfs K H0 G' f v d:=⟨rdvs_same e r.rd,fun h=>rdns_mono e (fun _ _ _ n=>n) (r.nw h)⟩
theorem Rf.sc{K:Ybf}{H0 G:Hp}{f:Bool}{v:V}{d:D}(h:zw d=true)(r:RdV K G v d):Rf K H0 G f v d:=⟨r,fun _=>zaX h r⟩
theorem Rf.or{K:Ybf}{H0 G:Hp}{f:Bool}{v:V}{d:D}(r:Rf K H0 G f v d):Rf K H0 G (f||zw d) v d:=⟨r.rd,fun h=>by
 cases f with
 | true=>exact r.nw rfl
 | false=>exact zaX (by simpa using h) r.rd⟩
theorem Rfs.nil{K:Ybf}{H0 G:Hp}{f:Bool}:Rfs K H0 G f [] []:=⟨.nil,fun _=>.nil⟩
theorem Rfs.cons{K:Ybf}{H0 G:Hp}{f g:Bool}{v:V}{d:D}{vs:List V}{ds:List D}(r:Rf K H0 G f v d)(rs:Rfs K H0 G g vs ds):Rfs K H0 G (f&&g) (v::vs) (d::ds):=⟨.cons r.rd rs.rd,fun h=>by
 rw [Yak] at h;exact .cons (r.nw h.1) (rs.nw h.2)⟩
theorem zlL{K:Ybf}{H0 H:Hp}{xs:List V}{ds:List D}{i:Nat}{x:V}{d:D}(r:RdNs K H0 H xs ds)(e:xs[i]?=some x)(e':ds[i]?=some d):RdN K H0 H x d:=by
 induction xs generalizing ds i with
 | nil=>simp at e
 | cons y xs ih=>
  cases r with
  | cons a b=>
   cases i with
   | zero=>cases e;cases e';exact a
   | succ i=>exact ih b (i:=i) (by simpa using e) (by simpa using e')
theorem Rfs.get{K:Ybf}{H0 G:Hp}{f:Bool}{vs:List V}{ds:List D}{i:Nat}{d:D}(r:Rfs K H0 G f vs ds)(h:ds[i]?=some d):∃ v,vs[i]?=some v/\Rf K H0 G f v d:=by
 obtain⟨v,h1,h2⟩:=r.rd.get h;exact⟨v,h1,h2,fun hf=>zlL (r.nw hf) h1 h⟩
theorem zf8{K:Ybf}{H0 G:Hp}{vs:List V}{ds:List D}(h:ds.all zw=true)(r:RdVs K G vs ds):RdNs K H0 G vs ds:=by
 induction vs generalizing ds with
 | nil=>cases r;exact .nil
 | cons v vs ih=>
  cases r with
  | cons a b=>
   rw [List.all_cons,Yak] at h;exact .cons (zaX h.1 a) (ih h.2 b)
theorem Rfs.or{K:Ybf}{H0 G:Hp}{f:Bool}{vs:List V}{ds:List D}(r:Rfs K H0 G f vs ds):Rfs K H0 G (f||ds.all zw) vs ds:=⟨r.rd,fun h=>by
 cases f with
 | true=>exact r.nw rfl
 | false=>exact zf8 (by simpa using h) r.rd⟩
theorem zbD(ws:List Int):(ws.map PyData.int).all zw=true:=by
 rw [List.all_map];exact WaK.mpr fun _ _=>rfl
theorem Rfs.length{K:Ybf}{H0 G:Hp}{f:Bool}{vs:List V}{ds:List D}(r:Rfs K H0 G f vs ds):vs.length=ds.length:=r.rd.length
theorem zcA{K:Ybf}{H0 H:Hp}{xs ys:List V}{ds es:List D}(h:RdNs K H0 H xs ds)(h':RdNs K H0 H ys es):RdNs K H0 H (xs++ys) (ds++es):=by
 induction xs generalizing ds with
 | nil=>cases h;exact h'
 | cons x xs ih=>cases h with|cons a b=>exact .cons a (ih b)
theorem zkr{K:Ybf}{H0 H:Hp}{x:V}{d:D}(h:RdN K H0 H x d){xs:List V}{ds:List D}(i:Nat)(r:RdNs K H0 H xs ds):RdNs K H0 H (xs.set i x) (ds.set i d):=by
 induction xs generalizing ds i with
 | nil=>cases r;exact .nil
 | cons y xs ih=>
  cases r with
  | cons a b=>
   cases i with
   | zero=>exact .cons h b
   | succ i=>exact .cons a (ih i b)
theorem zkY{K:Ybf}{H0 H:Hp}{xs:List V}{ds:List D}(i:Nat)(r:RdNs K H0 H xs ds):RdNs K H0 H (xs.take i) (ds.take i):=by
 induction xs generalizing ds i with
 | nil=>cases r;rw [List.take_nil,List.take_nil];exact .nil
 | cons y xs ih=>
  cases r with
  | cons a b=>
   cases i with
   | zero=>exact .nil
   | succ i=>exact .cons a (ih i b)
theorem zkt{K:Ybf}{H0 H:Hp}{xs:List V}{ds:List D}(i:Nat)(r:RdNs K H0 H xs ds):RdNs K H0 H (xs.drop i) (ds.drop i):=by
 induction xs generalizing ds i with
 | nil=>cases r;rw [List.drop_nil,List.drop_nil];exact .nil
 | cons y xs ih=>
  cases r with
  | cons a b=>
   cases i with
   | zero=>exact .cons a b
   | succ i=>exact ih i b
theorem zkb{K:Ybf}{H0 H:Hp}{xs:List V}{ds:List D}(i:Nat)(r:RdNs K H0 H xs ds):RdNs K H0 H (xs.eraseIdx i) (ds.eraseIdx i):=by
 induction xs generalizing ds i with
 | nil=>cases r;exact .nil
 | cons y xs ih=>
  cases r with
  | cons a b=>
   cases i with
   | zero=>exact b
   | succ i=>exact .cons a (ih i b)
theorem Rfs.snoc{K:Ybf}{H0 G:Hp}{f g:Bool}{v:V}{d:D}{vs:List V}{ds:List D}(rs:Rfs K H0 G g vs ds)(r:Rf K H0 G f v d):Rfs K H0 G (g&&f) (vs++[v]) (ds++[d]):=⟨rs.rd.append (.cons r.rd .nil),fun h=>by
 rw [Yak] at h;exact zcA (rs.nw h.1) (.cons (r.nw h.2) .nil)⟩
theorem Rfs.append{K:Ybf}{H0 G:Hp}{f g:Bool}{us:List V}{es:List D}{vs:List V}{ds:List D}(rs:Rfs K H0 G g vs ds)(r:Rfs K H0 G f us es):Rfs K H0 G (g&&f) (vs++us) (ds++es):=⟨rs.rd.append r.rd,fun h=>by
 rw [Yak] at h;exact zcA (rs.nw h.1) (r.nw h.2)⟩
theorem Rfs.set{K:Ybf}{H0 G:Hp}{f g:Bool}{v:V}{d:D}{vs:List V}{ds:List D}(rs:Rfs K H0 G g vs ds)(r:Rf K H0 G f v d)(i:Nat):Rfs K H0 G (g&&f) (vs.set i v) (ds.set i d):=⟨rs.rd.set r.rd i,fun h=>by
 rw [Yak] at h;exact zkr (r.nw h.2) i (rs.nw h.1)⟩
theorem Rfs.take{K:Ybf}{H0 G:Hp}{g:Bool}{vs:List V}{ds:List D}(rs:Rfs K H0 G g vs ds)(i:Nat):Rfs K H0 G g (vs.take i) (ds.take i):=⟨rs.rd.take i,fun h=>zkY i (rs.nw h)⟩
theorem Rfs.drop{K:Ybf}{H0 G:Hp}{g:Bool}{vs:List V}{ds:List D}(rs:Rfs K H0 G g vs ds)(i:Nat):Rfs K H0 G g (vs.drop i) (ds.drop i):=⟨rs.rd.drop i,fun h=>zkt i (rs.nw h)⟩
structure Tr(K:Ybf)(H0 G H:Hp)(l:Addr)(ps:List Addr)(ms:List (List D)):Prop where
 top:H l=some (.lst (ps.map V.ref))
 topG:G l=none
 nd:(l::ps).Nodup
 len:ps.length=ms.length
 item:∀ (k:Nat) (p:Addr) (m:List D),ps[k]?=some p->ms[k]?=some m->∃ vs,H p=some (.lst vs)/\G p=none/\Rfs K H0 G true vs m
inductive Dr(K:Ybf)(H0 G:Hp):List (List Key×V)->List (List Key×D)->Prop
 | nil:Dr K H0 G [] []
 | cons {k v d kvs ds}:Rf K H0 G true v d->Dr K H0 G kvs ds->Dr K H0 G ((k,v)::kvs) ((k,d)::ds)
theorem Dr.same{K:Ybf}{H0 G G':Hp}{kvs:List (List Key×V)}{ds:List (List Key×D)}(r:Dr K H0 G kvs ds)(e:Same G G'):Dr K H0 G' kvs ds:=by
 induction r with
 | nil=>exact .nil
 | cons a b ih=>exact .cons (a.same e) ih
def KAt(G:Hp)(o:Obj)(kvs:List (List Key×V)):Prop:=∃ (es:Array DictEntry) (ep:Nat) (as:List Addr),o.ExactDict/\o.data=.dict es ep/\es.toList.map (·.key)=as.map Value.ref/\as.length=kvs.length/\∀ (j:Nat) (a:Addr) (k:List Key) (v:V),as[j]?=some a->kvs[j]?=some (k,v)->G a=some (.tup (k.map kV))
theorem KAt.same{G G':Hp}{o:Obj}{kvs:List (List Key×V)}(h:KAt G o kvs)(g:Same G G'):KAt G' o kvs:=by
 obtain⟨es,ep,as,h0,h1,h2,h3,h4⟩:=h;exact⟨es,ep,as,h0,h1,h2,h3,fun j a k v e1 e2=>g _ _ (h4 j a k v e1 e2)⟩
def encM(ds:List (Int×Int)):List (Key×V):=ds.map fun p=>(Sum.inl p.1,V.int p.2)
inductive Vw(K:Ybf)(H0 G H:Hp):V->Cl->Prop
 | sh {v f d}:Rf K H0 G f v d->Vw K H0 G H v (.sh f d)
 | ow {l vs f ds}:H l=some (.lst vs)->Rfs K H0 G f vs ds->G l=none->Vw K H0 G H (.ref l) (.ow f ds)
 | tr {l ps ms}:Tr K H0 G H l ps ms->Vw K H0 G H (.ref l) (.tr ps ms)
 | dt {l kvs ds}:H l=some (.dT kvs)->Dr K H0 G kvs ds->G l=none->Vw K H0 G H (.ref l) (.dt ds)
 | dk {l ks}:H l=some (.dK (ks.map fun k=>(Sum.inl k,V.bl true)))->G l=none->Vw K H0 G H (.ref l) (.dk ks)
 | fd {l o kvs ds}:G l=some (.frz o (.dT kvs))->Dr K H0 G kvs ds->KAt G o kvs->Vw K H0 G H (.ref l) (.fd ds)
 | tk {b k}:G b=some (.tup (k.map kV))->Vw K H0 G H (.ref b) (.tk k)
 | dm {a ds}:H a=some (.dK (encM ds))->G a=none->Vw K H0 G H (.ref a) (.dm a ds)
 | ex {l C}:H l=some (excO l C)->Vw K H0 G H (.ref l) (.ex C)
def Cl.dat:Cl->Bool
 | .ex _=>false
 | .tr _ _=>false
 | .dt _=>false
 | .dk _=>false
 | .fd _=>false
 | .dm _ _=>false
 | _=>true
def Has:Cl->V->Addr->Prop
 | .ow _ _,v,a=>v=.ref a
 | .tr ps _,v,a=>v=.ref a\/a∈ps
 | .dt _,v,a=>v=.ref a
 | .dk _,v,a=>v=.ref a
 | .dm _ _,v,a=>v=.ref a
 | _,_,_=>False
theorem Tr.at{K:Ybf}{H0 G H:Hp}{l:Addr}{ps:List Addr}{ms:List (List D)}(t:Tr K H0 G H l ps ms){p:Addr}(h:p∈ps):∃ m vs,H p=some (.lst vs)/\G p=none/\Rfs K H0 G true vs m:=by
 obtain⟨k,hk,e⟩:=Yam h;have hk':k<ms.length:=by rw [<-t.len];exact hk
 obtain⟨vs,h1⟩:=t.item k p ms[k] (by rw [<-e];exact YaQ hk) (YaQ hk')
 exact⟨_,vs,h1⟩
theorem Vw.has{K:Ybf}{H0 G H:Hp}{v:V}{c:Cl}{a:Addr}(w:Vw K H0 G H v c)(h:Has c v a):(∃ o,H a=some o/\∀ f,o≠.ext f)/\G a=none:=by
 cases w with
 | sh r=>exact False.elim h
 | ex e=>exact False.elim h
 | fd _ _ _=>exact False.elim h
 | tk _=>exact False.elim h
 | ow e r n=>cases h;exact⟨⟨_,e,fun C z=>by cases z⟩,n⟩
 | dt e r n=>cases h;exact⟨⟨_,e,fun C z=>by cases z⟩,n⟩
 | dk e n=>cases h;exact⟨⟨_,e,fun C z=>by cases z⟩,n⟩
 | dm e n=>cases h;exact⟨⟨_,e,fun C z=>by cases z⟩,n⟩
 | tr t=>
  rcases h with h|h
  . cases h;exact⟨⟨_,t.top,fun C z=>by cases z⟩,t.topG⟩
  . obtain⟨m,vs,h1,h2,_⟩:=t.at h
    exact⟨⟨_,h1,fun C z=>by cases z⟩,h2⟩
theorem Vw.turn{K:Ybf}{H0 G H G' H':Hp}{v:V}{c:Cl}(w:Vw K H0 G H v c)(g:Same G G')(hx:∀ a C,H a=some (excO a C)->H' a=some (excO a C))(hh:∀ a,Has c v a->H' a=H a/\G' a=G a):Vw K H0 G' H' v c:=by
 cases w with
 | sh r=>exact .sh (r.same g)
 | ex h=>exact .ex (hx _ _ h)
 | fd h r k=>exact .fd (g _ _ h) (r.same g) (k.same g)
 | tk h=>exact .tk (g _ _ h)
 | ow h r n=>
  obtain⟨h1,h2⟩:=hh _ rfl;exact .ow (h1.trans h) (r.same g) (h2.trans n)
 | dt h r n=>
  obtain⟨h1,h2⟩:=hh _ rfl;exact .dt (h1.trans h) (r.same g) (h2.trans n)
 | dk h n=>
  obtain⟨h1,h2⟩:=hh _ rfl;exact .dk (h1.trans h) (h2.trans n)
 | dm h n=>
  obtain⟨h1,h2⟩:=hh _ rfl;exact .dm (h1.trans h) (h2.trans n)
 | tr t=>
  obtain⟨h1,h2⟩:=hh _ (.inl rfl);refine .tr ⟨h1.trans t.top,h2.trans t.topG,t.nd,t.len,fun k p m hp hm=>?_⟩
  obtain⟨vs,q1,q2,q3⟩:=t.item k p m hp hm;obtain⟨h3,h4⟩:=hh p (.inr (Yah hp));exact⟨vs,h3.trans q1,h4.trans q2,q3.same g⟩
theorem Vw.ntup{K:Ybf}{H0 G H:Hp}{v:V}{c:Cl}{a:Addr}(w:Vw K H0 G H v c)(h:Has c v a):∀ xs,H a≠some (.tup xs):=by
 cases w with
 | sh r=>exact False.elim h
 | ex e=>exact False.elim h
 | fd _ _ _=>exact False.elim h
 | tk _=>exact False.elim h
 | ow e r n=>cases h;intro xs z;rw [e] at z;cases z
 | dt e r n=>cases h;intro xs z;rw [e] at z;cases z
 | dk e n=>cases h;intro xs z;rw [e] at z;cases z
 | dm e n=>cases h;intro xs z;rw [e] at z;cases z
 | tr t=>
  rcases h with h|h
  . cases h;intro xs z;rw [t.top] at z;cases z
  . obtain⟨m,vs,h1,h2,_⟩:=t.at h
    intro xs z;rw [h1] at z;cases z
theorem Gr.hid{G H G' H':Hp}(g:Gr G H G' H'){l:Addr}{o:HO}(h:H l=some o)(n:G l=none)(hx:∀ f,o≠.ext f)(ht:∀ xs,H l≠some (.tup xs)):G' l=none:=by
 cases e:G' l with
 | none=>rfl
 | some o=>
  rcases g.new _ _ e with q|q|⟨xs,q⟩
  . rw [n] at q;cases q
  . rw [h] at q;cases q
  . have:=g.sub.s _ _ e
    rw [g.h.at h hx,q] at this;exact absurd (h.trans this) (ht xs)
theorem Vw.gr{K:Ybf}{H0 G H G' H':Hp}{v:V}{c:Cl}(w:Vw K H0 G H v c)(g:Gr G H G' H'):Vw K H0 G' H' v c:=
 w.turn g.g (fun a C e=>g.h.exc e) fun a h=>by
  obtain⟨⟨o,e,no⟩,n⟩:=w.has h;exact⟨(g.h.at e no).trans e.symm,(g.hid e n no (w.ntup h)).trans n.symm⟩
theorem zas{K:Ybf}{G:Hp}:∀ k:List Key,RdVs K G (k.map kV) (k.map keyD)
 | []=>.nil
 | .inl i::r=>.cons (.int i) (zas r)
 | .inr x::r=>.cons (.str x) (zas r)
theorem zbJ{K:Ybf}{H0 G:Hp}:∀ k:List Key,RdNs K H0 G (k.map kV) (k.map keyD)
 | []=>.nil
 | .inl i::r=>.cons (.int i) (zbJ r)
 | .inr x::r=>.cons (.str x) (zbJ r)
theorem Vw.rd{K:Ybf}{H0 G H:Hp}{v:V}{c:Cl}(w:Vw K H0 G H v c)(s:Sub G H)(hc:c.dat=true):RdV K H v c.d:=by
 cases w with
 | sh r=>exact Zc s.s r.rd
 | ow h r n=>exact .lst (SqL.of h) (rdvs_same s.s r.rd)
 | tr t=>cases hc
 | dt _ _ _=>cases hc
 | dk _ _=>cases hc
 | fd _ _ _=>cases hc
 | tk h=>exact .tup (SqT.of (s.s _ _ h)) (zas _)
 | dm _ _=>cases hc
 | ex h=>cases hc
inductive Vws(K:Ybf)(H0 G H:Hp):List V->List Cl->Prop
 | nil:Vws K H0 G H [] []
 | cons {v c vs cs}:Vw K H0 G H v c->Vws K H0 G H vs cs->Vws K H0 G H (v::vs) (c::cs)
def shs:List Cl->Option (Bool×List D)
 | []=>some (true,[])
 | .sh f d::r=>(shs r).map fun p=>((f&&p.1),d::p.2)
 | .ow _ _::_=>none
 | .tr _ _::_=>none
 | .dt _::_=>none
 | .dk _::_=>none
 | .fd _::_=>none
 | .tk _::_=>none
 | .dm _ _::_=>none
 | .ex _::_=>none
theorem Vws.shs{K:Ybf}{H0 G H:Hp}{vs:List V}{cs:List Cl}{p:Bool×List D}(h:Vws K H0 G H vs cs)(e:shs cs=some p):Rfs K H0 G p.1 vs p.2:=by
 induction h generalizing p with
 | nil=>cases e;exact .nil
 | cons a b ih=>
  cases a with
  | sh r=>
   unfold L3.shs at e;rename_i cs' f d;cases q:L3.shs cs' with
   | none=>rw [q] at e;cases e
   | some ds=>rw [q] at e;cases e;exact .cons r (ih q)
  | ow _ _ _=>cases e
  | tr _=>cases e
  | dt _ _ _=>cases e
  | dk _ _=>cases e
  | fd _ _ _=>cases e
  | tk _=>cases e
  | dm _ _=>cases e
  | ex _=>cases e
theorem Vws.rds{K:Ybf}{H0 G H:Hp}(s:Sub G H){vs:List V}{cs:List Cl}(h:Vws K H0 G H vs cs)(hd:cs.all Cl.dat=true):RdVs K H vs (cs.map Cl.d):=by
 induction h with
 | nil=>exact .nil
 | cons a b ih=>
  rw [List.all_cons,Yak] at hd;exact .cons (a.rd s hd.1) (ih hd.2)
structure Fr3(K:Ybf)(H0 G0:Hp)(ρ : Env3)(σ : L2.St)(G H:Hp):Prop where
 keep:zh H0 H
 sub:Sub G H
 old:∀ b o,G b=some o->G0 b=some o\/H0 b=none\/∃ xs,o=.tup xs
 g0:Same G0 G
 slot:∀ (i:Nat) (c:Cl),ρ[i]?=some (some c)->∃ v,σ[i]?=some (some v)/\Vw K H0 G H v c
 mine:∀ (i:Nat) (c:Cl) (v:V) (a:Addr),ρ[i]?=some (some c)->σ[i]?=some (some v)->Has c v a->H0 a=none
 apart:∀ (i j:Nat) (c c':Cl) (v v':V) (a:Addr),ρ[i]?=some (some c)->ρ[j]?=some (some c')->σ[i]?=some (some v)->σ[j]?=some (some v')->Has c v a->Has c' v' a->i=j
 len:ρ.length = σ.length
section
variable{K:Ybf}{H0 G0:Hp}{ρ : Env3}{σ : L2.St}{G H G' H':Hp}
theorem Fr3.gr(F:#[22])(g:Gr G H G' H'):Fr3 K H0 G0 ρ σ G' H' where
 keep:=F.keep.trans g.h
 sub:=g.sub
 old:=fun b o e=>by
  rcases g.new b o e with q|q|q
  . exact F.old b o q
  . exact .inr (.inl (F.keep.free q))
  . exact .inr (.inr q)
 g0:=F.g0.trans g.g
 slot:=fun i c e=>by
  obtain⟨v,h1,h2⟩:=F.slot i c e;exact⟨v,h1,h2.gr g⟩
 mine:=F.mine
 apart:=F.apart
 len:=F.len
theorem zL{α : Type}{l:List α}{i j:Nat}{x y:α}(h:(l.set i x)[j]?=some y):(i=j/\y=x/\i<l.length)\/(i≠j/\l[j]?=some y):=by
 by_cases e:i=j
 . subst e
   rw [List.getElem?_set_self'] at h;cases q:l[i]? with
   | none=>rw [q] at h;cases h
   | some z=>
    rw [q] at h;cases h;exact .inl ⟨rfl,rfl,(Ya8.mp q).1⟩
 . rw [Yac e] at h
   exact .inr ⟨e,h⟩
theorem Fr3.vw(F:#[22]){i:Nat}{c:Cl}{v:V}(h:ρ[i]?=some (some c))(h':σ[i]?=some (some v)):Vw K H0 G H v c:=by
 obtain⟨u,h1,h2⟩:=F.slot i c h;rw [h'] at h1;cases h1;exact h2
theorem Fr3.put(F:#[22]){i:Nat}{v:V}{c:Cl}(s:zh H H')(w:Vw K H0 G H' v c)(hn:∀ a,Has c v a->H a=none):Fr3 K H0 G0 (ρ.set i (some c)) (σ.set i (some v)) G H':=by
 have F':=F.gr (G':=G) (H':=H') ⟨Same.refl _,s,F.sub.trans s,fun _ _ e=>.inl e⟩
 have ne:∀ (j:Nat) (c':Cl) (v':V) (a:Addr),ρ[j]?=some (some c')->σ[j]?=some (some v')->Has c' v' a->Has c v a->False:=fun j c' v' a e e' h h'=>by
  obtain⟨⟨o,q,_⟩,_⟩:=(F.vw e e').has h;rw [hn a h'] at q;cases q
 exact {
  keep:=F'.keep
  sub:=F'.sub
  old:=F'.old
  g0:=F'.g0
  slot:=fun j c' e=>by
   rcases zL e with ⟨rfl,q,hl⟩|⟨n,q⟩
   . cases q
     exact⟨v,by rw [Yas (by rw [<-F.len];exact hl)],w⟩
   . obtain⟨v',h1,h2⟩:=F'.slot j c' q
     exact⟨v',by rw [Yac n];exact h1,h2⟩
  mine:=fun j c' v' a e e' h=>by
   rcases zL e with ⟨rfl,q,hl⟩|⟨n,q⟩
   . cases q
     rw [Yas (by rw [<-F.len];exact hl)] at e'
     cases e';exact F.keep.free (hn a h)
   . rw [Yac n] at e'
     exact F.mine j c' v' a q e' h
  apart:=fun j k c1 c2 v1 v2 a e1 e2 e3 e4 h1 h2=>by
   rcases zL e1 with ⟨rfl,q,hl⟩|⟨n,q⟩
   . rcases zL e2 with ⟨rfl,q',hl'⟩|⟨n',q'⟩
     . rfl
     . cases q
       rw [Yas (by rw [<-F.len];exact hl)] at e3
       cases e3;rw [Yac n'] at e4
       exact(ne k c2 v2 a q' e4 h2 h1).elim
   . rcases zL e2 with ⟨rfl,q',hl'⟩|⟨n',q'⟩
     . cases q'
       rw [Yas (by rw [<-F.len];exact hl')] at e4
       cases e4;rw [Yac n] at e3
       exact(ne j c1 v1 a q e3 h1 h2).elim
     . rw [Yac n] at e3
       rw [Yac n'] at e4;exact F.apart j k c1 c2 v1 v2 a q q' e3 e4 h1 h2
  len:=by rw [YaN,YaN];exact F.len }
theorem Fr3.set(F:#[22]){i:Nat}{v:V}{f:Bool}{d:D}(r:Rf K H0 G f v d):Fr3 K H0 G0 (ρ.set i (some (.sh f d))) (σ.set i (some v)) G H:=F.put (zh.refl _) (.sh r) fun _ h=>False.elim h
theorem Fr3.own(F:#[22]){i:Nat}{l:Addr}{vs:List V}{f:Bool}{ds:List D}(r:Rfs K H0 G f vs ds)(hl:H l=none):Fr3 K H0 G0 (ρ.set i (some (.ow f ds))) (σ.set i (some (.ref l))) G (upd H l (.lst vs)):=
 F.put (zG hl _).x (.ow zf r (F.sub.free hl)) fun a h=>by cases h;exact hl
theorem Fr3.chg(F:#[22]){i:Nat}{l:Addr}{o:HO}{c c':Cl}{v:V}(hi:ρ[i]?=some (some c))(hv:σ[i]?=some (some v))(hl:Has c v l)(hc:∀ a,Has c' v a->Has c v a)(w:Vw K H0 G (upd H l o) v c'):Fr3 K H0 G0 (ρ.set i (some c')) σ G (upd H l o):=by
 have h0:H0 l=none:=F.mine i c v l hi hv hl;obtain⟨⟨us,hu,hux⟩,gl⟩:=(F.vw hi hv).has hl;refine⟨F.keep.chg h0 hu hux,⟨fun b o e=>by rw [zd (zY e gl)];exact F.sub.s b o e,F.sub.cl⟩,F.old,F.g0,fun j c2 e=>?_,fun j c2 v2 a e e' h=>?_,fun j k c1 c2 v1 v2 a e1 e2 e3 e4 h1 h2=>?_,by rw [YaN];exact F.len⟩
 . rcases zL e with ⟨rfl,q,_⟩|⟨n,q⟩
   . cases q
     exact⟨v,hv,w⟩
   . obtain⟨v',h1,h2⟩:=F.slot j c2 q
     refine⟨v',h1,h2.turn (Same.refl _) (fun a C e=>?_) fun a h=>⟨?_,rfl⟩⟩
     . rw [zd (fun z=>by subst z;rw [hu] at e;exact hux _ (WaP e))];exact e
     . rw [zd (fun z=>by subst z;exact n (F.apart i j c c2 v v' a hi q hv h1 hl h))]
 . rcases zL e with ⟨rfl,q,_⟩|⟨n,q⟩
   . cases q
     rw [hv] at e';cases e';exact F.mine i c v a hi hv (hc a h)
   . exact F.mine j c2 v2 a q e' h
 . rcases zL e1 with ⟨rfl,q,_⟩|⟨n,q⟩
   . rcases zL e2 with ⟨rfl,q',_⟩|⟨n',q'⟩
     . rfl
     . cases q
       rw [hv] at e3;cases e3;exact F.apart i k c c2 v v2 a hi q' hv e4 (hc a h1) h2
   . rcases zL e2 with ⟨rfl,q',_⟩|⟨n',q'⟩
     . cases q'
       rw [hv] at e4;cases e4;exact F.apart j i c1 c v1 v a q hi e3 hv h1 (hc a h2)
     . exact F.apart j k c1 c2 v1 v2 a q q' e3 e4 h1 h2
theorem Fr3.change(F:#[22]){i:Nat}{l:Addr}{vs:List V}{f f':Bool}{ds es:List D}(hi:ρ[i]?=some (some (.ow f ds)))(hl:σ[i]?=some (some (.ref l)))(r:Rfs K H0 G f' vs es):Fr3 K H0 G0 (ρ.set i (some (.ow f' es))) σ G (upd H l (.lst vs)):=
 F.chg hi hl rfl (fun _ h=>h) (.ow zf r ((F.vw hi hl).has rfl).2)
theorem Fr3.still(F:#[22]){i:Nat}{c:Cl}{v:V}{f:Bool}{d:D}(hi:ρ[i]?=some (some c))(hv:σ[i]?=some (some v))(r:∀ G',Same G G'->(∀ a,Has c v a->G' a=H a/\H0 a=none)->Rf K H0 G' f v d):∃ G',Same G G'/\Fr3 K H0 G0 (ρ.set i (some (.sh f d))) σ G' H:=by
 have hd:∀ b,Decidable (Has c v b):=fun b=>Classical.propDecidable _
 have w:=F.vw hi hv;have e1:∀ b,Has c v b->(fun b=>if Has c v b then H b else G b) b=H b:=fun b h=>if_pos h
 have e2:∀ b,¬Has c v b->(fun b=>if Has c v b then H b else G b) b=G b:=fun b h=>if_neg h
 generalize (fun b=>if Has c v b then H b else G b)=G' at e1 e2
 have gg:Same G G':=fun b o e=>by
  rw [e2 b (fun h=>by rw [(w.has h).2] at e;cases e)];exact e
 refine⟨G',gg,F.keep,⟨fun b o e=>?_,fun b f e=>?_⟩,fun b o e=>?_,F.g0.trans gg,fun j c2 e=>?_,fun j c2 v2 a e e' h=>?_,fun j k c1 c2 v1 v2 a q1 q2 q3 q4 h1 h2=>?_,by rw [YaN];exact F.len⟩
 . by_cases h:Has c v b
   . rw [e1 b h] at e;exact e
   . rw [e2 b h] at e;exact F.sub.s b o e
 . by_cases h:Has c v b
   . rw [e1 b h] at e
     obtain⟨⟨u,hu,hn⟩,_⟩:=w.has h;rw [hu] at e;exact hn f (WaP e)
   . rw [e2 b h] at e;exact F.sub.cl b f e
 . by_cases h:Has c v b
   . exact .inr (.inl (F.mine i c v b hi hv h))
   . rw [e2 b h] at e;exact F.old b o e
 . rcases zL e with ⟨rfl,q,_⟩|⟨n,q⟩
   . cases q
     exact⟨v,hv,.sh (r G' gg fun a h=>⟨e1 a h,F.mine i c v a hi hv h⟩)⟩
   . obtain⟨v',h1,h2⟩:=F.slot j c2 q
     exact⟨v',h1,h2.turn gg (fun _ _ e=>e) fun a h=>⟨rfl,e2 a fun h'=>n (F.apart i j c c2 v v' a hi q hv h1 h' h)⟩⟩
 . rcases zL e with ⟨rfl,q,_⟩|⟨n,q⟩
   . cases q;exact False.elim h
   . exact F.mine j c2 v2 a q e' h
 . rcases zL q1 with ⟨rfl,q,_⟩|⟨n,q⟩
   . cases q;exact False.elim h1
   . rcases zL q2 with ⟨rfl,q',_⟩|⟨n',q'⟩
     . cases q';exact False.elim h2
     . exact F.apart j k c1 c2 v1 v2 a q q' q3 q4 h1 h2
theorem Fr3.freeze(F:#[22]){i:Nat}{f:Bool}{ds:List D}(hi:ρ[i]?=some (some (.ow f ds))):∃ G',Same G G'/\Fr3 K H0 G0 (ρ.set i (some (.sh f (.list ds)))) σ G' H:=by
 obtain⟨v,hv,w⟩:=F.slot i _ hi;refine F.still hi hv fun G' gg q=>?_
 cases w with
 | ow h r n=>
  obtain⟨q1,q2⟩:=q _ rfl;rw [h] at q1;exact⟨.lst (SqL.of q1) (rdvs_same gg r.rd),fun hf=>.lst q1 q2 (rdns_mono gg (fun _ _ _ z=>z) (r.nw hf))⟩
theorem zkF{ps:List Addr}{ms:List (List D)}(hl:ps.length=ms.length)(h:∀ (k:Nat) (p:Addr) (m:List D),ps[k]?=some p->ms[k]?=some m->RdN K H0 G (.ref p) (.list m)):RdNs K H0 G (ps.map V.ref) (ms.map PyData.list):=by
 induction ps generalizing ms with
 | nil => cases ms with
  | nil=>exact .nil
  | cons m ms=>cases hl
 | cons p ps ih => cases ms with
  | nil=>cases hl
  | cons m ms=>exact .cons (h 0 p m rfl rfl) (ih (Nat.succ.inj hl) fun k q n h1 h2=>h (k+1) q n (by simpa using h1) (by simpa using h2))
theorem Fr3.freezeT(F:#[22]){i:Nat}{ps:List Addr}{ms:List (List D)}(hi:ρ[i]?=some (some (.tr ps ms))):∃ G',Same G G'/\Fr3 K H0 G0 (ρ.set i (some (.sh true (.list (ms.map PyData.list))))) σ G' H:=by
 obtain⟨v,hv,w⟩:=F.slot i _ hi;refine F.still hi hv fun G' gg q=>?_
 cases w with
 | tr t=>
  obtain⟨q1,q2⟩:=q _ (.inl rfl);have n:RdN K H0 G' (.ref _) (.list (ms.map PyData.list)):=.lst (q1.trans t.top) q2 (zkF t.len fun k p m h1 h2=>by
   obtain⟨vs,a,b,c⟩:=t.item k p m h1 h2;obtain⟨q3,q4⟩:=q p (.inr (Yah h1));exact .lst (q3.trans a) q4 (rdns_mono gg (fun _ _ _ z=>z) (c.nw rfl)))
  exact⟨zcJ n,fun _=>n⟩
theorem Fr3.rebase(F:#[22]):Fr3 K H0 G ρ σ G H:=⟨F.keep,F.sub,fun _ _ e=>.inl e,Same.refl _,F.slot,F.mine,F.apart,F.len⟩
theorem Fr3.back{ρ1:Env3}{σ1:L2.St}{G1 H1:Hp}(F:Fr3 K H0 G1 ρ σ G H)(B:Fr3 K H0 G0 ρ1 σ1 G1 H1):Fr3 K H0 G0 ρ σ G H:=
 ⟨F.keep,F.sub,fun b o e=>(F.old b o e).elim (fun q=>B.old b o q) .inr,B.g0.trans F.g0,F.slot,F.mine,F.apart,F.len⟩
theorem Fr3.gr0(F:#[22]):Gr G0 H0 G H:=⟨F.g0,F.keep,F.sub,F.old⟩
theorem Gr.back{ρ1:Env3}{σ1:L2.St}{G1 H1:Hp}(g:Gr G1 H0 G H)(B:Fr3 K H0 G0 ρ1 σ1 G1 H1):Gr G0 H0 G H:=
 ⟨B.g0.trans g.g,g.h,g.sub,fun b o e=>(g.new b o e).elim (fun q=>B.old b o q) .inr⟩
end
variable[LamW]
theorem el5{α β γ : Type}{P R:α->β->γ->Prop}{C:Prop}(f:∀ a b c,P a b c->R a b c->C)(h:∃ a b c,P a b c/\R a b c):C:=by
 obtain⟨a,b,c,x,y⟩:=h;exact f a b c x y
theorem el7{α β γ δ : Type}{P R S:α->β->γ->δ->Prop}{C:Prop}(f:∀ a b c d,P a b c d->R a b c d->S a b c d->C)(h:∃ a b c d,P a b c d/\R a b c d/\S a b c d):C:=by
 obtain⟨a,b,c,d,x,y,z⟩:=h;exact f a b c d x y z
theorem el2{α β : Type}{P R S:α->β->Prop}{C:Prop}(f:∀ a b,P a b->R a b->S a b->C)(h:∃ a b,P a b/\R a b/\S a b):C:=by
 obtain⟨a,b,x,y,z⟩:=h;exact f a b x y z
theorem el3{α β γ : Type}{P R S T:α->β->γ->Prop}{C:Prop}(f:∀ a b c,P a b c->R a b c->S a b c->T a b c->C)(h:∃ a b c,P a b c/\R a b c/\S a b c/\T a b c):C:=by
 obtain⟨a,b,c,x,y,z,w⟩:=h;exact f a b c x y z w
abbrev TE3:=Env3->(Cl->Prop)->Prop
abbrev TT3:=Env3->(Bool->Prop)->Prop
abbrev TA3:=Env3->(List Cl->Prop)->Prop
abbrev TN3:=Env3->(Bool->List D->Prop)->Prop
structure Ends3 where
 nx:Env3->Prop
 rt:Bool->D->Prop
 bk:Env3->Prop:=fun _=>False
 ct:Env3->Prop:=fun _=>False
 rm:Cl->Env3->Prop:=fun _ _=>False
abbrev TS3:=Ends3->Env3->Prop
def jD(K:Ybf)(H0:Hp)(t:TE3):TE:=fun σ H Q=>∃ G0 ρ G,Fr3 K H0 G0 ρ σ G H/\t ρ fun c=>∀ v G' H',Gr G H G' H'->Vw K H0 G' H' v c->Q v H'
def zeJ(K:Ybf)(H0:Hp)(t:TN3):TE:=fun σ H Q=>∃ G0 ρ G,Fr3 K H0 G0 ρ σ G H/\t ρ fun f ds=>∀ l vs G' H',Gr G H G' H'->H' l=none->Rfs K H0 G' f vs ds->Q (.ref l) (upd H' l (.lst vs))
def Jd(K:Ybf)(H0:Hp)(t:TT3):TT:=fun σ H Q=>∃ G0 ρ G,Fr3 K H0 G0 ρ σ G H/\t ρ fun b=>∀ G' H',Gr G H G' H'->Q b H'
def zh6(K:Ybf)(H0:Hp)(t:TA3):TA:=fun σ H Q=>∃ G0 ρ G,Fr3 K H0 G0 ρ σ G H/\t ρ fun cs=>∀ vs G' H',Gr G H G' H'->Vws K H0 G' H' vs cs->Q vs H'
structure LD(K:Ybf)(H0 G0:Hp)(A:Ends3)(B:Ends):Prop where
 nx:∀ ρ σ G H,Fr3 K H0 G0 ρ σ G H->A.nx ρ->B.nx σ H
 rt:∀ f d v G H,Gr G0 H0 G H->Rf K H0 G f v d->A.rt f d->B.rt v H
 bk:∀ ρ σ G H,Fr3 K H0 G0 ρ σ G H->A.bk ρ->B.bk σ H
 ct:∀ ρ σ G H,Fr3 K H0 G0 ρ σ G H->A.ct ρ->B.ct σ H
 rm:∀ c v ρ σ G H,Fr3 K H0 G0 ρ σ G H->Vw K H0 G H v c->(∀ a,Has c v a->H0 a=none/\∀ (j:Nat) (c':Cl) (v':V),ρ[j]?=some (some c')->σ[j]?=some (some v')->¬Has c' v' a)->A.rm c ρ->B.rt v H
def zcj(K:Ybf)(H0:Hp)(t:TS3):TS:=fun B σ H=>∃ G0 A ρ G,Fr3 K H0 G0 ρ σ G H/\t A ρ/\LD K H0 G0 A B
structure PE3(X:Cx)(H0:Hp)(e:Expr)(t:TE3):Prop where
 mono:∀ ρ (Q Q':Cl->Prop),(∀ c,Q c->Q' c)->t ρ Q->t ρ Q'
 ok:PE X e (jD X.K H0 t)
structure PN3(X:Cx)(H0:Hp)(e:Expr)(t:TN3):Prop where
 mono:∀ ρ (Q Q':Bool->List D->Prop),(∀ f c,Q f c->Q' f c)->t ρ Q->t ρ Q'
 ok:PE X e (zeJ X.K H0 t)
structure PT3(X:Cx)(H0:Hp)(e:Expr)(t:TT3):Prop where
 mono:∀ ρ (Q Q':Bool->Prop),(∀ c,Q c->Q' c)->t ρ Q->t ρ Q'
 ok:PT X e (Jd X.K H0 t)
structure PW3(X:Cx)(H0:Hp)(e:Expr)(t:TT3):Prop where
 mono:∀ ρ (Q Q':Bool->Prop),(∀ c,Q c->Q' c)->t ρ Q->t ρ Q'
 ok:PW X e (Jd X.K H0 t)
structure PA3(X:Cx)(H0:Hp)(es:List Expr)(t:TA3):Prop where
 mono:∀ ρ (Q Q':List Cl->Prop),(∀ c,Q c->Q' c)->t ρ Q->t ρ Q'
 ok:PA X es (zh6 X.K H0 t)
def PS3(X:Cx)(H0:Hp)(st:Stmt)(t:TS3):Prop:=PS X st (zcj X.K H0 t)
def PSs3(X:Cx)(H0:Hp)(st:List Stmt)(t:TS3):Prop:=PSs X st (zcj X.K H0 t)
theorem PE.imp{X:Cx}{e:Expr}{t t':TE}(h:PE X e t)(i:∀ σ H Q,t' σ H Q->t σ H Q):PE X e t':=fun pins s σ H Q I q=>h pins s σ H Q I (i _ _ _ q)
theorem PT.imp{X:Cx}{e:Expr}{t t':TT}(h:PT X e t)(i:∀ σ H Q,t' σ H Q->t σ H Q):PT X e t':=fun pins s σ H Q I q=>h pins s σ H Q I (i _ _ _ q)
theorem PW.imp{X:Cx}{e:Expr}{t t':TT}(h:PW X e t)(i:∀ σ H Q,t' σ H Q->t σ H Q):PW X e t':=fun wh pins s σ H Q I q=>h wh pins s σ H Q I (i _ _ _ q)
theorem PA.imp{X:Cx}{e:List Expr}{t t':TA}(h:PA X e t)(i:∀ σ H Q,t' σ H Q->t σ H Q):PA X e t':=fun pos pins s σ H Q I q=>h pos pins s σ H Q I (i _ _ _ q)
theorem PS.imp{X:Cx}{e:Stmt}{t t':TS}(h:PS X e t)(i:∀ B σ H,t' B σ H->t B σ H):PS X e t':=fun pins s σ H B I q=>h pins s σ H B I (i _ _ _ q)
theorem PSs.imp{X:Cx}{e:List Stmt}{t t':TS}(h:PSs X e t)(i:∀ B σ H,t' B σ H->t B σ H):PSs X e t':=fun pins s σ H B I q=>h pins s σ H B I (i _ _ _ q)
section
variable{X:Cx}{H0:Hp}{e a b c:Expr}{pos:Pos}
def atV(o:Option (Option Cl))(P:Cl->Prop):Prop:=match o with
 | some (some c)=>P c
 | _=>False
theorem zfA{o:Option (Option Cl)}{P:Cl->Prop}(h:atV o P):∃ c,o=some (some c)/\P c:=by
 cases o with
 | none=>exact False.elim h
 | some x => cases x with
  | none=>exact False.elim h
  | some c=>exact⟨c,rfl,h⟩
def asS(c:Cl)(P:Bool->D->Prop):Prop:=match c with
 | .sh f d=>P f d
 | _=>False
theorem Jr{c:Cl}{P:Bool->D->Prop}(h:asS c P):∃ f d,c=.sh f d/\P f d:=by
 cases c with
 | sh f d=>exact⟨f,d,rfl,h⟩
 | _=>exact False.elim h
def asD(d:D)(P:Bool->Prop):Prop:=match d with
 | .bool k=>P k
 | _=>False
def asB(c:Cl)(P:Bool->Prop):Prop:=match c with
 | .sh true d=>asD d P
 | _=>False
theorem zem{c:Cl}{P:Bool->Prop}(h:asB c P):∃ k,c=.sh true (.bool k)/\P k:=by
 cases c with
 | sh f d => cases f with
  | true => cases d with
   | bool k=>exact⟨k,rfl,h⟩
   | _=>exact False.elim h
  | false=>exact False.elim h
 | _=>exact False.elim h
def optP{α : Type}(o:Option α)(P:α->Prop):Prop:=match o with
 | some a=>P a
 | none=>False
theorem zbS{α : Type}{o:Option α}{P:α->Prop}(h:optP o P):∃ a,o=some a/\P a:=by
 cases o with
 | none=>exact False.elim h
 | some a=>exact⟨a,rfl,h⟩
def asT(d:D)(P:List D->Prop):Prop:=match d with
 | .tuple ds=>P ds
 | _=>False
theorem zbN{d:D}{P:List D->Prop}(h:asT d P):∃ ds,d=.tuple ds/\P ds:=by
 cases d with
 | tuple ds=>exact⟨ds,rfl,h⟩
 | _=>exact False.elim h
def asLd(d:D)(P:List D->Prop):Prop:=match d with
 | .list ds=>P ds
 | _=>False
def asL(c:Cl)(P:Bool->List D->Prop):Prop:=match c with
 | .sh f d=>asLd d (P f)
 | _=>False
theorem zfF{c:Cl}{P:Bool->List D->Prop}(h:asL c P):∃ f ds,c=.sh f (.list ds)/\P f ds:=by
 cases c with
 | sh f d => cases d with
  | list ds=>exact⟨f,ds,rfl,h⟩
  | _=>exact False.elim h
 | _=>exact False.elim h
def atO(o:Option (Option Cl))(P:Bool->List D->Prop):Prop:=match o with
 | some (some (.ow f ds))=>P f ds
 | _=>False
theorem zeF{o:Option (Option Cl)}{P:Bool->List D->Prop}(h:atO o P):∃ f ds,o=some (some (.ow f ds))/\P f ds:=by
 cases o with
 | none=>exact False.elim h
 | some x => cases x with
  | none=>exact False.elim h
  | some c => cases c with
   | ow f ds=>exact⟨f,ds,rfl,h⟩
   | _=>exact False.elim h
def Zb{α : Type}(l:List α)(P:α->List α->Prop):Prop:=match l with
 | d::r=>P d r
 | []=>False
theorem zdI{α : Type}{l:List α}{P:α->List α->Prop}(h:Zb l P):∃ d r,l=d::r/\P d r:=by
 cases l with
 | nil=>exact False.elim h
 | cons d r=>exact⟨d,r,rfl,h⟩
def nilP{α : Type}(l:List α)(P:Prop):Prop:=match l with
 | []=>P
 | _::_=>False
theorem zeP{α : Type}{l:List α}{P:Prop}(h:nilP l P):l=[]/\P:=by
 cases l with
 | nil=>exact⟨rfl,h⟩
 | cons d r=>exact False.elim h
def asId(d:D)(P:Int->Prop):Prop:=match d with
 | .int i=>P i
 | _=>False
def asI(c:Cl)(P:Int->Prop):Prop:=match c with
 | .sh true d=>asId d P
 | _=>False
theorem jy{c:Cl}{P:Int->Prop}(h:asI c P):∃ k,c=.sh true (.int k)/\P k:=by
 cases c with
 | sh f d => cases f with
  | true => cases d with
   | int k=>exact⟨k,rfl,h⟩
   | _=>exact False.elim h
  | false=>exact False.elim h
 | _=>exact False.elim h
def v3(i:Nat):TE3:=fun ρ Q=>atV ρ[i]? Q
def k3(d:D):TE3:=fun _ Q=>Q (.sh true d)
theorem n3(i:Nat){x:Str}(hN:X.N[i]?=some x:=by rfl)(hv:Vis X.env.scope x:=by first|exact Or.inl rfl|exact Or.inr (Or.inl rfl)|exact Or.inr (Or.inr rfl))(hd:#[23]:=by decide)(hcd:#[20]:=by decide) :
 PE3 X H0 (.Name x pos) (v3 i):=by
 refine⟨fun ρ Q Q' h q=>?_,PE.imp (jw hN hv hd hcd) fun σ H Q=>el5 fun G0 ρ G F q=>?_⟩
 . obtain⟨c,e,q⟩:=zfA q
   show atV ρ[i]? Q'
   rw [e];exact h c q
 obtain⟨c,e,q⟩:=zfA q;obtain⟨v,h1,h2⟩:=F.slot i c e;exact⟨v,h1,q v G H (Gr.refl F.sub) h2⟩
theorem Z7{v:V}{d:D}(h:PE X e (tC v))(r:∀ G,RdV X.K G v d)(hs:zw d=true):PE3 X H0 e (k3 d):=
 ⟨fun ρ Q Q' h q=>h _ q,PE.imp h fun σ H Q=>el5 fun G0 ρ G F q=>q v G H (Gr.refl F.sub) (.sh (.sc hs (r G)))⟩
theorem i3{i j pos}:PE3 X H0 (.Constant (.int i) j pos) (k3 (.int i)):=Z7 jO (fun _=>.int i) rfl
theorem b3{i j pos}:PE3 X H0 (.Constant (.bool i) j pos) (k3 (.bool i)):=Z7 zeX (fun _=>.bl i) rfl
theorem non3{j pos}:PE3 X H0 (.Constant .none j pos) (k3 .none):=Z7 ziH (fun _=>.non) rfl
theorem s3{i j pos}:PE3 X H0 (.Constant (.str i) j pos) (k3 (.str i)):=Z7 zfy (fun _=>.str i) rfl
theorem g3{x:Str}{v:V}{u:Value}{d:D}(hg:Gl X x)(hm:X.mg x=some u)(r:RelV v u)(rd:∀ G,RdV X.K G v d)(hs:zw d=true)(hd:#[23]:=by decide):PE3 X H0 (.Name x pos) (k3 d):=Z7 (zbQ hg hm r hd) rd hs
def nw3(t:TN3):TE3:=fun ρ Q=>t ρ fun f ds=>Q (.sh f (.list ds))
theorem new3{t:TN3}(h:PN3 X H0 e t):PE3 X H0 e (nw3 t):=
 ⟨fun ρ Q Q' hq q=>h.mono ρ _ _ (fun f ds=>hq _) q,PE.imp h.ok fun σ H Q=>el5 fun G0 ρ G F q=>⟨G0,ρ,G,F,h.mono ρ _ _ (fun f ds k l vs G' H' g hl r=>
  k (.ref l) (upd G' l (.lst vs)) (upd H' l (.lst vs)) (g.trans (Gr.put g.sub hl)) (.sh ⟨.lst (SqL.of zf) (rdvs_same (zG (g.sub.free hl) _) r.rd),fun hf=>.lst zf ((F.keep.trans g.h).free hl) (rdns_mono (zG (g.sub.free hl) _) (fun _ _ _ z=>z) (r.nw hf))⟩)) q⟩⟩
abbrev R3:=Cl->Cl->(Bool->D->Prop)->Prop
def zaV(K:Ybf)(H0:Hp)(r:R3):R2:=fun x y H Q=>∃ G a b,Sub G H/\Vw K H0 G H x a/\Vw K H0 G H y b/\r a b fun f d=>∀ v G' H',Gr G H G' H'->Rf K H0 G' f v d->Q v H'
structure OpOk(X:Cx)(f:Value->Value->Sem Value)(r:R3):Prop where
 mono:∀ a b (Q Q':Bool->D->Prop),(∀ f c,Q f c->Q' f c)->r a b Q->r a b Q'
 ok:∀ H0,OpR X f (zaV X.K H0 r)
theorem OpR.imp{f:Value->Value->Sem Value}{r r':R2}(h:OpR X f r)(i:∀ x y H Q,r' x y H Q->r x y H Q):OpR X f r':=fun pins s σ H x y v u Q I rx ry q=>h pins s σ H x y v u Q I rx ry (i _ _ _ _ q)
def o3(r:R3)(ta tb:TE3):TE3:=fun ρ Q=>ta ρ fun a=>tb ρ fun b=>r a b fun f d=>Q (.sh f d)
theorem Z4{r:R3}{ta tb:TE3}(hr:∀ a b (Q Q':Bool->D->Prop),(∀ f c,Q f c->Q' f c)->r a b Q->r a b Q')(ha:∀ ρ (Q Q':Cl->Prop),(∀ c,Q c->Q' c)->ta ρ Q->ta ρ Q')(hb:∀ ρ (Q Q':Cl->Prop),(∀ c,Q c->Q' c)->tb ρ Q->tb ρ Q') :
 ∀ ρ (Q Q':Cl->Prop),(∀ c,Q c->Q' c)->o3 r ta tb ρ Q->o3 r ta tb ρ Q':=fun ρ Q Q' h q=>ha ρ _ _ (fun a=>hb ρ _ _ fun b=>hr a b _ _ fun f d=>h _) q
theorem zbe{r:R3}{ta tb:TE3}(hr:∀ a b (Q Q':Bool->D->Prop),(∀ f c,Q f c->Q' f c)->r a b Q->r a b Q')(ha:∀ ρ (Q Q':Cl->Prop),(∀ c,Q c->Q' c)->ta ρ Q->ta ρ Q')(hb:∀ ρ (Q Q':Cl->Prop),(∀ c,Q c->Q' c)->tb ρ Q->tb ρ Q'){K:Ybf} :
 ∀ σ H Q,jD K H0 (o3 r ta tb) σ H Q->tOp (zaV K H0 r) (jD K H0 ta) (jD K H0 tb) σ H Q:=fun σ H Q=>el5 fun G0 ρ G F q=>
 ⟨G0,ρ,G,F,ha ρ _ _ (fun a qa v1 G1 H1 g1 w1=>⟨G0,ρ,G1,F.gr g1,hb ρ _ _ (fun b qb v2 G2 H2 g2 w2=>⟨G2,a,b,g2.sub,w1.gr g2,w2,hr a b _ _ (fun f d k v G' H' g r=>k v G' H' ((g1.trans g2).trans g) (.sh r)) qb⟩) qa⟩) q⟩
theorem op3{op:Operator}{r:R3}{ta tb:TE3}(ho:OpOk X (binaryOp op) r)(ha:PE3 X H0 a ta)(hb:PE3 X H0 b tb):PE3 X H0 (.BinOp a op b pos) (o3 r ta tb):=
 ⟨Z4 ho.mono ha.mono hb.mono,PE.imp (Ji (ho.ok H0) ha.ok hb.ok) (zbe ho.mono ha.mono hb.mono)⟩
theorem cmp3{op:CmpOp}{r:R3}{ta tb:TE3}(ho:OpOk X (compareOp op) r)(ha:PE3 X H0 a ta)(hb:PE3 X H0 b tb)(hm:behindInMarks op b=false):PE3 X H0 (.Compare a [op] [b] pos) (o3 r ta tb):=
 ⟨Z4 ho.mono ha.mono hb.mono,PE.imp (zlR (ho.ok H0) ha.ok hb.ok hm) (zbe ho.mono ha.mono hb.mono)⟩
def tt3(t:TE3):TT3:=fun ρ Q=>t ρ fun c=>asB c Q
theorem zck{K:Ybf}{H0 G H:Hp}{v:V}{f k:Bool}(w:Vw K H0 G H v (.sh f (.bool k))):v=.bl k:=by
 cases w with
 | sh r=>cases r.rd;rfl
theorem zcI{t:TE3}{K:Ybf}(ht:∀ ρ (Q Q':Cl->Prop),(∀ c,Q c->Q' c)->t ρ Q->t ρ Q'):∀ σ H Q,Jd K H0 (tt3 t) σ H Q->za3 (jD K H0 t) σ H Q:=fun σ H Q=>el5 fun G0 ρ G F q=>
 ⟨G0,ρ,G,F,ht ρ _ _ (fun c q v G' H' g w=>by obtain⟨k,e,q⟩:=zem q;subst e;exact⟨k,zck w,q G' H' g⟩) q⟩
theorem zbi{t:TE3}(ht:∀ ρ (Q Q':Cl->Prop),(∀ c,Q c->Q' c)->t ρ Q->t ρ Q'):∀ ρ (Q Q':Bool->Prop),(∀ c,Q c->Q' c)->tt3 t ρ Q->tt3 t ρ Q':=fun ρ Q Q' h q=>ht ρ _ _ (fun c q=>by obtain⟨k,e,q⟩:=zem q;subst e;exact h k q) q
theorem zf2{t t':TE}(h:∀ σ H Q,t' σ H Q->t σ H Q):∀ σ H Q,za3 t' σ H Q->za3 t σ H Q:=fun σ H Q q=>h _ _ _ q
theorem zr{op:CmpOp}{r:R3}{ta tb:TE3}(ho:OpOk X (compareOp op) r)(ha:PE3 X H0 a ta)(hb:PE3 X H0 b tb)(hm:behindInMarks op b=false):PT3 X H0 (.Compare a [op] [b] pos) (tt3 (o3 r ta tb)):=
 ⟨zbi (Z4 ho.mono ha.mono hb.mono),PT.imp (zbF (ho.ok H0) ha.ok hb.ok hm) fun σ H Q q=>zf2 (zbe ho.mono ha.mono hb.mono) σ H Q (zcI (Z4 ho.mono ha.mono hb.mono) σ H Q q)⟩
def ch3(r r':R3)(ta tb tc:TE3):TE3:=fun ρ Q=>ta ρ fun x=>tb ρ fun y=>r x y fun _ z=>∃ k,z=.bool k/\if k=true then tc ρ fun w=>r' y w fun f d=>Q (.sh f d) else Q (.sh true (.bool false))
theorem zdk{K:Ybf}{G:Hp}{v:V}{k:Bool}(w:RdV K G v (.bool k)):v=.bl k:=by cases w;rfl
theorem zdX{r r':R3}{ta tb tc:TE3}(hr:∀ a b (Q Q':Bool->D->Prop),(∀ f c,Q f c->Q' f c)->r a b Q->r a b Q')(hr':∀ a b (Q Q':Bool->D->Prop),(∀ f c,Q f c->Q' f c)->r' a b Q->r' a b Q')(ha:∀ ρ (Q Q':Cl->Prop),(∀ c,Q c->Q' c)->ta ρ Q->ta ρ Q')(hb:∀ ρ (Q Q':Cl->Prop),(∀ c,Q c->Q' c)->tb ρ Q->tb ρ Q')
 (hc:∀ ρ (Q Q':Cl->Prop),(∀ c,Q c->Q' c)->tc ρ Q->tc ρ Q'):∀ ρ (Q Q':Cl->Prop),(∀ c,Q c->Q' c)->ch3 r r' ta tb tc ρ Q->ch3 r r' ta tb tc ρ Q':=fun ρ Q Q' h q=>ha ρ _ _ (fun x=>hb ρ _ _ fun y=>hr x y _ _ fun _ z ⟨k,e,q⟩=>⟨k,e,by
 cases k with
 | true=>exact hc ρ _ _ (fun w=>hr' y w _ _ fun f d=>h _) q
 | false=>exact h _ q⟩) q
theorem ziw{r r':R3}{ta tb tc:TE3}(hr:∀ a b (Q Q':Bool->D->Prop),(∀ f c,Q f c->Q' f c)->r a b Q->r a b Q')(hr':∀ a b (Q Q':Bool->D->Prop),(∀ f c,Q f c->Q' f c)->r' a b Q->r' a b Q')(ha:∀ ρ (Q Q':Cl->Prop),(∀ c,Q c->Q' c)->ta ρ Q->ta ρ Q')(hb:∀ ρ (Q Q':Cl->Prop),(∀ c,Q c->Q' c)->tb ρ Q->tb ρ Q')
 (hc:∀ ρ (Q Q':Cl->Prop),(∀ c,Q c->Q' c)->tc ρ Q->tc ρ Q') {K:Ybf}:∀ σ H Q,jD K H0 (ch3 r r' ta tb tc) σ H Q->zfn (zaV K H0 r) (zaV K H0 r') (jD K H0 ta) (jD K H0 tb) (jD K H0 tc) σ H Q:=fun σ H Q=>el5 fun G0 ρ G F q=>
 ⟨G0,ρ,G,F,ha ρ _ _ (fun x qx v1 G1 H1 g1 w1=>⟨G0,ρ,G1,F.gr g1,hb ρ _ _ (fun y qy v2 G2 H2 g2 w2=>⟨G2,x,y,g2.sub,w1.gr g2,w2,hr x y _ _ (fun _ z hyp v3 G3 H3 g3 r3=>by
  obtain⟨k,e,q⟩:=hyp;subst e;refine⟨k,zdk r3.rd,?_⟩;cases k with
  | false=>exact q _ G3 H3 ((g1.trans g2).trans g3) (.sh (.sc rfl (.bl false)))
  | true=>exact⟨G0,ρ,G3,F.gr ((g1.trans g2).trans g3),hc ρ _ _ (fun w qw v4 G4 H4 g4 w4=>⟨G4,y,w,g4.sub,(w2.gr g3).gr g4,w4,hr' y w _ _ (fun f d k v G' H' g r=>k v G' H' ((((g1.trans g2).trans g3).trans g4).trans g) (.sh r)) qw⟩) q⟩) qy⟩) qx⟩) q⟩
theorem zab{op op':CmpOp}{r r':R3}{ta tb tc:TE3}(ho:OpOk X (compareOp op) r)(ho':OpOk X (compareOp op') r')(ha:PE3 X H0 a ta)(hb:PE3 X H0 b tb)(hc:PE3 X H0 c tc)(hm:lastMarks [op,op'] [b,c]=false:=by with_unfolding_all rfl) :
 PT3 X H0 (.Compare a [op,op'] [b,c] pos) (tt3 (ch3 r r' ta tb tc)):=
 ⟨zbi (zdX ho.mono ho'.mono ha.mono hb.mono hc.mono),PT.imp (zgh (ho.ok H0) (ho'.ok H0) ha.ok hb.ok hc.ok hm) fun σ H Q q=>zf2 (ziw ho.mono ho'.mono ha.mono hb.mono hc.mono) σ H Q (zcI (zdX ho.mono ho'.mono ha.mono hb.mono hc.mono) σ H Q q)⟩
abbrev U3:=Cl->(Bool->D->Prop)->Prop
def zlm(K:Ybf)(H0:Hp)(r:U3):V->Hp->VK->Prop:=fun x H Q=>∃ G a,Sub G H/\Vw K H0 G H x a/\r a fun f d=>∀ v G' H',Gr G H G' H'->Rf K H0 G' f v d->Q v H'
structure UnOk(X:Cx)(f:Value->Sem Value)(r:U3):Prop where
 mono:∀ a (Q Q':Bool->D->Prop),(∀ f c,Q f c->Q' f c)->r a Q->r a Q'
 ok:∀ H0,UnR X f (zlm X.K H0 r)
def u3(r:U3)(ta:TE3):TE3:=fun ρ Q=>ta ρ fun a=>r a fun f d=>Q (.sh f d)
theorem un3{op:UnaryOp}{r:U3}{ta:TE3}(ho:UnOk X (unaryOp op) r)(ha:PE3 X H0 a ta):PE3 X H0 (.UnaryOp op a pos) (u3 r ta):=
 ⟨fun ρ Q Q' h q=>ha.mono ρ _ _ (fun a=>ho.mono a _ _ fun f d=>h _) q,PE.imp (zjj (ho.ok H0) ha.ok) fun σ H Q=>el5 fun G0 ρ G F q=>
  ⟨G0,ρ,G,F,ha.mono ρ _ _ (fun a qa v1 G1 H1 g1 w1=>⟨G1,a,g1.sub,w1,ho.mono a _ _ (fun f d k v G' H' g r=>k v G' H' (g1.trans g) (.sh r)) qa⟩) q⟩⟩
theorem val3{t:TE3}(h:PE3 X H0 e t)(he:∀ whole,isTrue e X.env whole=(do let v <-whole;standAt e.pos;holding [v] (truthy v)):=by intro _;rfl):PT3 X H0 e (tt3 t):=
 ⟨zbi h.mono,PT.imp (zjD h.ok he) (zcI h.mono)⟩
def and3(t u:TT3):TT3:=fun ρ Q=>t ρ fun k=>if k=true then u ρ Q else Q false
def or3(t u:TT3):TT3:=fun ρ Q=>t ρ fun k=>if k=true then Q true else u ρ Q
def not3(t:TT3):TT3:=fun ρ Q=>t ρ fun k=>Q (!k)
theorem JF{t:TT3}(h:PT3 X H0 a t):PT3 X H0 (.UnaryOp .Not a pos) (not3 t):=
 ⟨fun ρ Q Q' hq q=>h.mono ρ _ _ (fun k=>hq _) q,PT.imp (zlo h.ok) fun σ H Q=>el5 fun G0 ρ G F q=>⟨G0,ρ,G,F,q⟩⟩
theorem zfv{t:TT3}(h:PT3 X H0 a t):PW3 X H0 (.BoolOp .And [a] pos) t:=⟨h.mono,zlq h.ok⟩
theorem Z2{t:TT3}(h:PT3 X H0 a t):PW3 X H0 (.BoolOp .Or [a] pos) t:=⟨h.mono,zd4 h.ok⟩
theorem zdO{rest:List Expr}{t u:TT3}(h:PT3 X H0 a t)(h':PW3 X H0 (.BoolOp .And (b::rest) pos) u):PW3 X H0 (.BoolOp .And (a::b::rest) pos) (and3 t u):=
 ⟨fun ρ Q Q' hq q=>h.mono ρ _ _ (fun k=>by cases k;exact hq _;exact h'.mono ρ _ _ hq) q,PW.imp (zlk h.ok h'.ok) fun σ H Q=>el5 fun G0 ρ G F q=>⟨G0,ρ,G,F,h.mono ρ _ _ (fun k qk G1 H1 g1=>by
  cases k with
  | false=>exact qk G1 H1 g1
  | true=>exact⟨G0,ρ,G1,F.gr g1,h'.mono ρ _ _ (fun k q G2 H2 g2=>q G2 H2 (g1.trans g2)) qk⟩) q⟩⟩
theorem ZL{rest:List Expr}{t u:TT3}(h:PT3 X H0 a t)(h':PW3 X H0 (.BoolOp .Or (b::rest) pos) u):PW3 X H0 (.BoolOp .Or (a::b::rest) pos) (or3 t u):=
 ⟨fun ρ Q Q' hq q=>h.mono ρ _ _ (fun k=>by cases k;exact h'.mono ρ _ _ hq;exact hq _) q,PW.imp (zd5 h.ok h'.ok) fun σ H Q=>el5 fun G0 ρ G F q=>⟨G0,ρ,G,F,h.mono ρ _ _ (fun k qk G1 H1 g1=>by
  cases k with
  | true=>exact qk G1 H1 g1
  | false=>exact⟨G0,ρ,G1,F.gr g1,h'.mono ρ _ _ (fun k q G2 H2 g2=>q G2 H2 (g1.trans g2)) qk⟩) q⟩⟩
theorem pw3{t:TT3}(h:PW3 X H0 e t):PT3 X H0 e t:=⟨h.mono,h.ok.pt⟩
def nil3:TA3:=fun _ Q=>Q []
def zaj(ta:TE3)(tr:TA3):TA3:=fun ρ Q=>ta ρ fun c=>tr ρ fun cs=>Q (c::cs)
theorem zb:PA3 X H0 [] nil3:=⟨fun ρ Q Q' h q=>h _ q,PA.imp zF fun σ H Q=>el5 fun G0 ρ G F q=>q [] G H (Gr.refl F.sub) .nil⟩
theorem za{es:List Expr}{ta:TE3}{tr:TA3}(ha:PE3 X H0 e ta)(hr:PA3 X H0 es tr)(hs:#[13]:=by rfl):PA3 X H0 (e::es) (zaj ta tr):=
 ⟨fun ρ Q Q' h q=>ha.mono ρ _ _ (fun c=>hr.mono ρ _ _ fun cs=>h _) q,PA.imp (zl ha.ok hr.ok hs) fun σ H Q=>el5 fun G0 ρ G F q=>
  ⟨G0,ρ,G,F,ha.mono ρ _ _ (fun c qc v G1 H1 g1 w1=>⟨G0,ρ,G1,F.gr g1,hr.mono ρ _ _ (fun cs k vs G2 H2 g2 w2=>k (v::vs) G2 H2 (g1.trans g2) (.cons (w1.gr g2) w2)) qc⟩) q⟩⟩
def tup3(t:TA3):TE3:=fun ρ Q=>t ρ fun cs=>optP (shs cs) fun p=>p.2.length<=sizeLine/\Q (.sh p.1 (.tuple p.2))
theorem zx{es:List Expr}{t:TA3}{x1}(h:PA3 X H0 es t):PE3 X H0 (.Tuple es x1 pos) (tup3 t):=
 ⟨fun ρ Q Q' hq q=>h.mono ρ _ _ (fun cs q=>by obtain⟨ds,e,z,q⟩:=zbS q;rw [e];exact⟨z,hq _ q⟩) q,PE.imp (zaI h.ok) fun σ H Q=>el5 fun G0 ρ G F q=>⟨G0,ρ,G,F,h.mono ρ _ _ (fun cs hyp vs G1 H1 g1 w=>by
  obtain⟨ds,e,z,k⟩:=zbS hyp;have r:=w.shs e;refine⟨by rw [r.length];exact z,fun p hp=>k (.ref p) (upd G1 p (.tup vs)) (upd H1 p (.tup vs)) (g1.trans (Gr.put g1.sub hp)) (.sh ⟨.tup (SqT.of zf) (rdvs_same (zG (g1.sub.free hp) _) r.rd),fun hf=>.tup zf (rdns_mono (zG (g1.sub.free hp) _) (fun _ _ _ z=>z) (r.nw hf))⟩)⟩) q⟩⟩
def lst3(t:TA3):TN3:=fun ρ Q=>t ρ fun cs=>optP (shs cs) fun p=>p.2.length<=sizeLine/\Q p.1 p.2
theorem zy{es:List Expr}{t:TA3}(h:PA3 X H0 es t):PN3 X H0 (.List es pos) (lst3 t):=
 ⟨fun ρ Q Q' hq q=>h.mono ρ _ _ (fun cs q=>by obtain⟨ds,e,z,q⟩:=zbS q;rw [e];exact⟨z,hq _ _ q⟩) q,PE.imp (zbX h.ok) fun σ H Q=>el5 fun G0 ρ G F q=>⟨G0,ρ,G,F,h.mono ρ _ _ (fun cs hyp vs G1 H1 g1 w=>by
  obtain⟨ds,e,z,k⟩:=zbS hyp;have r:=w.shs e;exact⟨by rw [r.length];exact z,fun p hp=>k p vs G1 H1 g1 hp r⟩) q⟩⟩
abbrev C3:=List Cl->(Bool->D->Prop)->Prop
def zjo(K:Ybf)(H0:Hp)(r:C3):List V->Hp->VK->Prop:=fun xs H Q=>∃ G cs,Sub G H/\Vws K H0 G H xs cs/\r cs fun f d=>∀ v G' H',Gr G H G' H'->Rf K H0 G' f v d->Q v H'
structure CallOk(X:Cx)(f:Value)(r:C3):Prop where
 mono:∀ cs (Q Q':Bool->D->Prop),(∀ f c,Q f c->Q' f c)->r cs Q->r cs Q'
 ok:∀ H0,zQ X f (zjo X.K H0 r)
theorem zQ.imp{f:Value}{r r':List V->Hp->VK->Prop}(h:zQ X f r)(i:∀ xs H Q,r' xs H Q->r xs H Q):zQ X f r':=fun pins s σ H xs us Q I rv q=>h pins s σ H xs us Q I rv (i _ _ _ q)
def cb3(r:C3)(t:TA3):TE3:=fun ρ Q=>t ρ fun cs=>r cs fun f d=>Q (.sh f d)
variable{x:Str}{p:Pos}{es:List Expr}{id T:String}
theorem zu{r:C3}{t:TA3}(hc:CallOk X (.builtin id) r)(hg:Gl X x)(hm:X.mg x=none)(hv:bootBuiltins x=some (.builtin id))(ha:PA3 X H0 (e::es) t)(hn:x≠"__name__":=by decide)(hdb:#[23]:=by decide)
 (he:#[13]:=by rfl) (hpl:(backTo pos (starEach es X.env)).any (·.1)=false:=by rfl):PE3 X H0 #[16] (cb3 r t):=
 ⟨fun ρ Q Q' h q=>ha.mono ρ _ _ (fun cs=>hc.mono cs _ _ fun f d=>h _) q,PE.imp (Jc (hc.ok H0) hg hm hv ha.ok hn hdb he hpl) fun σ H Q=>el5 fun G0 ρ G F q=>⟨G0,ρ,G,F,ha.mono ρ _ _ (fun cs qc vs G1 H1 g1 w=>⟨G1,cs,g1.sub,w,hc.mono cs _ _ (fun f d k v G' H' g r=>k v G' H' (g1.trans g) (.sh r)) qc⟩) q⟩⟩
abbrev Sp3:=List D->(Bool->D->Prop)->(Addr->Prop)->Prop
def spL(K:Ybf)(sp:Sp3):Sp:=fun vs H Q E=>∃ G ds,Sub G H/\RdVs K G vs ds/\sp ds (fun f d=>∀ v G' H',Gr G H G' H'->Rf K H G' f v d->Q v H') fun C=>∀ H',zh H H'->E (.ref C) none H'
theorem zfZ{K:Ybf}{G G':Hp}{v:V}{d:D}(h:zw d=true)(r:RdV K G v d):RdV K G' v d:=by
 cases r with
 | non=>exact .non
 | bl b=>exact .bl b
 | int i=>exact .int i
 | str s=>exact .str s
 | lst _ _=>cases h
 | tup _ _=>cases h
structure Df3(P:Program)(w:World)(K:Ybf)(mg:#[15])(base:Heap)(k:Nat)(x:Str)(ps:List Str)(sp:Sp3):Prop where
 mono:∀ ds (Q Q':Bool->D->Prop) (E E':Addr->Prop),(∀ f d,Q f d->Q' f d)->(∀ d,E d->E' d)->sp ds Q E->sp ds Q' E'
 ok:Df P w K mg base k x ps (spL K sp)
def Zn(sp:Sp3)(E:Addr->Prop)(t:TA3):TE3:=fun ρ Q=>t ρ fun cs=>cs.all Cl.dat=true/\sp (cs.map Cl.d) (fun f d=>((shs cs).isSome=true\/zw d=true)/\Q (.sh f d)) E
theorem zdm:∀ {cs:List Cl} {p:Bool×List D},shs cs=some p->cs.map Cl.d=p.2
 | [],_,e=>by cases e;rfl
 | .sh _ d :: r, ds, e => by
  unfold shs at e;cases q:shs r with
  | none=>rw [q] at e;cases e
  | some es=>rw [q] at e;cases e;rw [Ya1,zdm q];rfl
 | .ow _ _::r,_,e=>by cases e
 | .tr _ _::r,_,e=>by cases e
 | .dt _::r,_,e=>by cases e
 | .dk _::r,_,e=>by cases e
 | .fd _::r,_,e=>by cases e
 | .tk _::r,_,e=>by cases e
 | .dm _ _::r,_,e=>by cases e
 | .ex _::r,_,e=>by cases e
theorem df3{k:Nat}{ps:List Str}{sp:Sp3}{E:XK}{E3:Addr->Prop}{t:TA3}(hE:∀ C H',E3 C->zh H0 H'->E (.ref C) none H')(Gd:Df3 X.prog X.w X.K X.mg X.base k x ps sp)(hr:Room k X.A)(hg:Gl X x)(hx:Passes (CXR X.prog X.w) X E)(ha:PA3 X H0 (e::es) t)(hdb:#[23]:=by decide)
 (he:#[13]:=by rfl) (hpl:(backTo pos (starEach es X.env)).any (·.1)=false:=by rfl):PE3 X H0 #[16] (Zn sp E3 t):=by
 refine⟨fun ρ Q Q' h q=>ha.mono ρ _ _ (fun cs ⟨hd,q⟩=>⟨hd,Gd.mono _ _ _ _ _ (fun f d ⟨a,b⟩=>⟨a,h _ b⟩) (fun _ z=>z) q⟩) q,PE.imp (jE Gd.ok hr hg hx ha.ok hdb he hpl) fun σ H Q=>el5 fun G0 ρ G F q=>⟨G0,ρ,G,F,ha.mono ρ _ _ (fun cs ⟨hd,qc⟩ vs G1 H1 g1 w=>?_) q⟩⟩
 show spL X.K sp (vs++[]) H1 Q E
 rw [Yao];have kE:∀ C,E3 C->∀ H',zh H1 H'->E (.ref C) none H':=fun C c H' s=>hE C H' c ((F.gr g1).keep.trans s)
 cases hs:shs cs with
 | some ds=>
  refine⟨G1,cs.map Cl.d,g1.sub,by rw [zdm hs];exact(w.shs hs).rd,Gd.mono _ _ _ _ _ (fun f d ⟨_,k⟩ v G' H' g r=>k v G' H' (g1.trans g) (.sh ⟨r.rd,fun hf=>j0 (Same.refl _) (fun _ _ _ z=>(F.gr g1).keep.free z) (r.nw hf)⟩)) kE qc⟩
 | none=>
  refine⟨cln H1,cs.map Cl.d,zdd H1,rdvs_cln (w.rds g1.sub hd),Gd.mono _ _ _ _ _ (fun f d ⟨s,k⟩ v G' H' g r=>?_) kE qc⟩
  have sc:zw d=true:=s.resolve_left (by rw [hs];simp)
  exact k v G1 H' (g1.trans ⟨Same.refl _,g.h,g1.sub.trans g.h,fun _ _ e=>.inl e⟩) (.sh (.sc sc (zfZ sc r.rd)))
end
variable[LamW]
theorem zjF{K:Ybf}{G:Hp}{vs:List V}{d:D}{ds:List D}(r:RdVs K G vs (d::ds)):∃ v us,vs=v::us/\RdV K G v d/\RdVs K G us ds:=by
 cases r with
 | cons a b=>exact⟨_,_,rfl,a,b⟩
theorem zhq{K:Ybf}{G:Hp}{v:V}{ds:List D}(r:RdV K G v (.tuple ds)):∃ a xs,v=.ref a/\SqT K G a xs/\RdVs K G xs ds:=by
 cases r with
 | tup a b=>exact⟨_,_,rfl,a,b⟩
theorem zic{K:Ybf}{G:Hp}{v:V}{ds:List D}(r:RdV K G v (.list ds)):∃ a xs,v=.ref a/\SqL K G a xs/\RdVs K G xs ds:=by
 cases r with
 | lst a b=>exact⟨_,_,rfl,a,b⟩
theorem zm{K:Ybf}{H0 G H:Hp}{v:V}{f:Bool}{d:D}(w:Vw K H0 G H v (.sh f d)):Rf K H0 G f v d:=by
 cases w with
 | sh r=>exact r
theorem zib{K:Ybf}{H0 G:Hp}{f:Bool}{vs:List V}{d:D}{ds:List D}(r:Rfs K H0 G f vs (d::ds)):∃ v us,vs=v::us/\Rf K H0 G f v d/\Rfs K H0 G f us ds:=by
 obtain⟨v,us,rfl,a,b⟩:=zjF r.rd;exact⟨v,us,rfl,⟨a,fun h=>by cases r.nw h with|cons x y=>exact x⟩,⟨b,fun h=>by cases r.nw h with|cons x y=>exact y⟩⟩
theorem za8{K:Ybf}{H0 G:Hp}{f:Bool}{v:V}{ds:List D}(r:Rf K H0 G f v (.tuple ds)):∃ a xs,v=.ref a/\SqT K G a xs/\Rfs K H0 G f xs ds:=by
 cases f with
 | false=>
  obtain⟨a,xs,rfl,h,rs⟩:=zhq r.rd;exact⟨a,xs,rfl,h,rs,fun h=>by cases h⟩
 | true=>
  have n:=r.nw rfl;cases n with
  | tup h rs=>exact⟨_,_,rfl,SqT.of h,rdns_rd rs,fun _=>rs⟩
theorem JN{K:Ybf}{H0 G:Hp}{f:Bool}{v:V}{ds:List D}(r:Rf K H0 G f v (.list ds)):∃ a xs,v=.ref a/\SqL K G a xs/\Rfs K H0 G f xs ds:=by
 cases f with
 | false=>
  obtain⟨a,xs,rfl,h,rs⟩:=zic r.rd;exact⟨a,xs,rfl,h,rs,fun h=>by cases h⟩
 | true=>
  have n:=r.nw rfl;cases n with
  | lst h _ rs=>exact⟨_,_,rfl,SqL.of h,rdns_rd rs,fun _=>rs⟩
section
variable{X:Cx}{H0:Hp}{e a b c:Expr}{pos:Pos}{st:Stmt}{rest:List Stmt}
def next3:TS3:=fun A ρ=>A.nx ρ
def seq3(t u:TS3):TS3:=fun A ρ=>t { A with nx:=u A } ρ
theorem zo:PSs3 X H0 [] next3:=PSs.imp zfu fun B σ H=>el7 fun G0 A ρ G F q L=>L.nx ρ σ G H F q
theorem zc{t u:TS3}(h1:PS3 X H0 st t)(h2:PSs3 X H0 rest u):PSs3 X H0 (st::rest) (seq3 t u):=PSs.imp (zP h1 h2) fun B σ H=>el7 fun G0 A ρ G F q L=>
 ⟨G0,{ A with nx:=u A },ρ,G,F,q,⟨fun ρ' σ' G' H' F' q'=>⟨G0,A,ρ',G',F',q',L⟩,L.rt,L.bk,L.ct,L.rm⟩⟩
theorem ze{t:TS3}(h1:PS3 X H0 st t):PSs3 X H0 [st] t:=jf h1
def zak(te:TE3):TS3:=fun A ρ=>te ρ fun _=>A.nx ρ
theorem J4{te:TE3}(he:PE3 X H0 e te)(hs:swapsWith e none pos.line X.env=pure false:=by rfl):PS3 X H0 (.Expr e pos) (zak te):=PS.imp (jT he.ok hs) fun B σ H=>el7 fun G0 A ρ G F q L=>
 ⟨G0,ρ,G,F,he.mono ρ _ _ (fun c q v G' H' g w=>L.nx ρ σ G' H' (F.gr g) q) q⟩
def ret3(te:TE3):TS3:=fun A ρ=>te ρ fun c=>asS c A.rt
theorem zn{te:TE3}(he:PE3 X H0 e te):PS3 X H0 (.Return (some e) pos) (ret3 te):=PS.imp (JU he.ok) fun B σ H=>el7 fun G0 A ρ G F q L=>
 ⟨G0,ρ,G,F,he.mono ρ _ _ (fun c hyp v G' H' g w=>by
  obtain⟨f,d,hc,q⟩:=Jr hyp;subst hc;exact L.rt f d v G' H' (F.gr g).gr0 (zm w) q) q⟩
def ifS3(t:TT3)(u v:TS3):TS3:=fun A ρ=>t ρ fun k=>if k=true then u A ρ else v A ρ
theorem s_if{xs ys:List Stmt}{t:TT3}{u v:TS3}(hc:PT3 X H0 c t)(ha:PSs3 X H0 xs u)(hb:PSs3 X H0 ys v):PS3 X H0 (.If c xs ys pos) (ifS3 t u v):=PS.imp (zdS hc.ok ha hb) fun B σ H=>el7 fun G0 A ρ G F q L=>
 ⟨G0,ρ,G,F,hc.mono ρ _ _ (fun k q G' H' g=>by
  cases k with
  | true=>exact⟨G0,A,ρ,G',F.gr g,q,L⟩
  | false=>exact⟨G0,A,ρ,G',F.gr g,q,L⟩) q⟩
def set3(i:Nat)(te:TE3):TS3:=fun A ρ=>te ρ fun c=>asS c fun f d=>A.nx (ρ.set i (some (.sh f d)))
theorem zj{i:Nat}{x:Str}{te:TE3}{pos':Pos}(hN:X.N.Nodup)(hi:X.N[i]?=some x)(hx:Loc X.env.scope x)(he:PE3 X H0 e te)(hs:swapsWith e (some (.Name x pos')) pos.line X.env=pure false:=by rfl)
 (hf:#[19]:=by first|exact .inl rfl|exact .inr rfl|assumption):PS3 X H0 (.Assign [.Name x pos'] e pos) (set3 i te):=PS.imp (ji hN hi hx he.ok hs hf) fun B σ H=>el7 fun G0 A ρ G F q L=>
 ⟨G0,ρ,G,F,he.mono ρ _ _ (fun c hyp v G' H' g w=>by
  obtain⟨f,d,hc,q⟩:=Jr hyp;subst hc;exact L.nx _ _ G' H' ((F.gr g).set (zm w)) q) q⟩
def own3(i:Nat)(tn:TN3):TS3:=fun A ρ=>tn ρ fun f ds=>A.nx (ρ.set i (some (.ow f ds)))
theorem jB{i:Nat}{x:Str}{tn:TN3}{pos':Pos}(hN:X.N.Nodup)(hi:X.N[i]?=some x)(hx:Loc X.env.scope x)(he:PN3 X H0 e tn)(hs:swapsWith e (some (.Name x pos')) pos.line X.env=pure false:=by rfl)
 (hf:#[19]:=by first|exact .inl rfl|exact .inr rfl|assumption):PS3 X H0 (.Assign [.Name x pos'] e pos) (own3 i tn):=PS.imp (ji hN hi hx he.ok hs hf) fun B σ H=>el7 fun G0 A ρ G F q L=>
 ⟨G0,ρ,G,F,he.mono ρ _ _ (fun f ds q l vs G' H' g hl r=>L.nx _ _ G' _ ((F.gr g).own r hl) q) q⟩
abbrev TG3:=Bool->D->Env3->(Env3->Prop)->Prop
abbrev TGs3:=Bool->List D->Env3->(Env3->Prop)->Prop
def Zp(K:Ybf)(H0:Hp)(g:TG3):TG:=fun v σ H Q=>∃ G0 ρ G f d,Fr3 K H0 G0 ρ σ G H/\Rf K H0 G f v d/\g f d ρ fun ρ'=>∀ σ' G' H',Fr3 K H0 G0 ρ' σ' G' H'->Same G G'->Gr G H G' H'->Q σ' H'
def zk9(K:Ybf)(H0:Hp)(g:TGs3):TGs:=fun vs σ H Q=>∃ G0 ρ G f ds,Fr3 K H0 G0 ρ σ G H/\Rfs K H0 G f vs ds/\g f ds ρ fun ρ'=>∀ σ' G' H',Fr3 K H0 G0 ρ' σ' G' H'->Same G G'->Gr G H G' H'->Q σ' H'
structure PG3(X:Cx)(H0:Hp)(tg:Expr)(g:TG3):Prop where
 mono:∀ f d ρ (Q Q':Env3->Prop),(∀ c,Q c->Q' c)->g f d ρ Q->g f d ρ Q'
 ok:PG X tg (Zp X.K H0 g)
structure PGs3(X:Cx)(H0:Hp)(tg:List Expr)(g:TGs3):Prop where
 mono:∀ f d ρ (Q Q':Env3->Prop),(∀ c,Q c->Q' c)->g f d ρ Q->g f d ρ Q'
 ok:PGs X tg (zk9 X.K H0 g)
theorem PG.imp{tg:Expr}{t t':TG}(h:PG X tg t)(i:∀ v σ H Q,t' v σ H Q->t v σ H Q):PG X tg t':=fun pins s σ H v u Q I r q=>h pins s σ H v u Q I r (i _ _ _ _ q)
theorem PGs.imp{tg:List Expr}{t t':TGs}(h:PGs X tg t)(i:∀ v σ H Q,t' v σ H Q->t v σ H Q):PGs X tg t':=fun pins s σ H v u Q I r q=>h pins s σ H v u Q I r (i _ _ _ _ q)
def gn3(i:Nat):TG3:=fun f d ρ Q=>Q (ρ.set i (some (.sh (f||zw d) d)))
theorem zk{i:Nat}{x:Str}(hN:X.N.Nodup)(hi:X.N[i]?=some x)(hx:Loc X.env.scope x)(hf:#[19]:=by first|exact .inl rfl|exact .inr rfl|assumption):PG3 X H0 (.Name x pos) (gn3 i):=
 ⟨fun f d ρ Q Q' h q=>h _ q,PG.imp (jp hN hi hx hf) fun v σ H Q ⟨G0,ρ,G,f,d,F,r,q⟩=>q _ G H (F.set r.or) (Same.refl _) (Gr.refl F.sub)⟩
def gnil3:TGs3:=fun _ ds ρ Q=>nilP ds (Q ρ)
def za7(t:TG3)(u:TGs3):TGs3:=fun f ds ρ Q=>Zb ds fun d r=>t f d ρ fun ρ'=>u f r ρ' Q
theorem je:PGs3 X H0 [] gnil3:=
 ⟨fun f d ρ Q Q' h q=>by obtain⟨e,q⟩:=zeP q;subst e;exact h _ q,PGs.imp zbU fun vs σ H Q hyp=>by
  obtain⟨G0,ρ,G,f,ds,F,r,q⟩:=hyp;obtain⟨e,q⟩:=zeP q;subst e;cases r.rd;exact⟨rfl,q σ G H F (Same.refl _) (Gr.refl F.sub)⟩⟩
theorem zA{es:List Expr}{t:TG3}{u:TGs3}(h1:PG3 X H0 e t)(h2:PGs3 X H0 es u)(hs:(assignEach (e::es) X.env).map (·.2)=assign e X.env::(assignEach es X.env).map (·.2):=by rfl):PGs3 X H0 (e::es) (za7 t u):=
 ⟨fun f d ρ Q Q' h q=>by obtain⟨x,r,e,q⟩:=zdI q;subst e;exact h1.mono f x ρ _ _ (fun ρ'=>h2.mono f r ρ' _ _ h) q,PGs.imp (JG h1.ok h2.ok hs) fun vs σ H Q hyp=>by
  obtain⟨G0,ρ,G,f,ds,F,r,q⟩:=hyp;obtain⟨x,y,e,q⟩:=zdI q;subst e;obtain⟨v,us,rfl,r1,r2⟩:=zib r;exact⟨v,us,rfl,G0,ρ,G,f,x,F,r1,h1.mono f x ρ _ _ (fun ρ' q σ1 G1 H1 F1 s1 g1=>⟨G0,ρ',G1,f,y,F1,r2.same s1,h2.mono f y ρ' _ _ (fun ρ2 q σ2 G2 H2 F2 s2 g2=>q σ2 G2 H2 F2 (s1.trans s2) (g1.trans g2)) q⟩) q⟩⟩
def za2(n:Nat)(t:TGs3):TG3:=fun f d ρ Q=>asT d fun ds=>ds.length=n/\t f ds ρ Q
theorem jb{es:List Expr}{k:Nat}{t:TGs3}{n:Nat}(hc:X.calm=true)(h:PGs3 X H0 es t)(hn:(assignEach es X.env).length=n:=by rfl)(hst:(assignEach es X.env).findIdx? (·.1)=none:=by rfl):PG3 X H0 (.Tuple es k pos) (za2 n t):=
 ⟨fun f d ρ Q Q' hq q=>by obtain⟨ds,e,l,q'⟩:=zbN q;subst e;exact⟨l,h.mono f ds ρ _ _ hq q'⟩,PG.imp (zbK hc h.ok hn hst) fun v σ H Q hyp=>by
  obtain⟨G0,ρ,G,f,d,F,r,q⟩:=hyp;obtain⟨ds,e,l,q'⟩:=zbN q;subst e;obtain⟨a,xs,rfl,hq,rs⟩:=za8 r;exact⟨a,xs,rfl,F.sub.tup hq,by rw [rs.length];exact l,G0,ρ,G,f,ds,F,rs,q'⟩⟩
def asg3(te:TE3)(g:TG3):TS3:=fun A ρ=>te ρ fun c=>asS c fun f d=>g f d ρ A.nx
theorem zcw{tg:Expr}{te:TE3}{g:TG3}(he:PE3 X H0 e te)(hg:PG3 X H0 tg g)(hs:swapsWithSole [tg] e pos.line X.env=pure false:=by rfl)(hw:swappedStores [tg] e X.env=pure none:=by rfl)
 (h1:(assignEach [tg] X.env).map (·.2)=[assign tg X.env]:=by rfl):PS3 X H0 (.Assign [tg] e pos) (asg3 te g):=PS.imp (zcZ he.ok hg.ok hs hw h1) fun B σ H=>el7 fun G0 A ρ G F q L=>
 ⟨G0,ρ,G,F,he.mono ρ _ _ (fun c hyp v G' H' g' w=>by
  obtain⟨f,d,hc,q⟩:=Jr hyp;subst hc;exact⟨G0,ρ,G',f,d,F.gr g',zm w,hg.mono f d ρ _ _ (fun ρ2 q σ2 G2 H2 F2 _ _=>L.nx ρ2 σ2 G2 H2 F2 q) q⟩) q⟩
theorem zcd{K:Ybf}{G0:Hp}{ρ : Env3}{σ : L2.St}{G H:Hp}{i:Nat}{f:Bool}{ds:List D}(F:#[22])(h:ρ[i]?=some (some (.ow f ds))):∃ l vs,σ[i]?=some (some (.ref l))/\H l=some (.lst vs)/\Rfs K H0 G f vs ds:=by
 obtain⟨v,h1,h2⟩:=F.slot i _ h;cases h2 with
 | ow hh r n=>exact⟨_,_,h1,hh,r⟩
def app3(i:Nat)(te:TE3):TS3:=fun A ρ=>atO ρ[i]? fun f ds=>te ρ fun c=>asS c fun g d=>ds.length<sizeLine/\A.nx (ρ.set i (some (.ow (f&&g) (ds++[d]))))
theorem jZ{i:Nat}{te:TE3}{x:Str}{np apos cpos:Pos}(hN:X.N[i]?=some x)(hv:Vis X.env.scope x)(he:PE3 X H0 e te)(hd:#[23]:=by decide)(hcd:#[20]:=by decide)
 (hb:attributeBase (.Name x np) "append" X.env (eval (.Name x np) X.env)=eval (.Name x np) X.env:=by rfl)
 (hf:((backTo cpos (starEach [e] X.env)).all (fun x=>!x.1)&&(backToKw cpos (keywordEach [] X.env)).all (fun x=>x.1.isSome)&&decide ([e].length+([]:List Keyword).length+(if([]:List Keyword).isEmpty then 0 else 1)<30))=true:=by rfl)
 (hl:(apos.endLine==cpos.line)=true:=by rfl) (hs:starEach [e] X.env=(false,eval e X.env)::starEach [] X.env:=by rfl) (hp:(backTo cpos (starEach [] X.env)).any (·.1)=false:=by rfl)
 (hw:swapsWith (.Call (.Attribute (.Name x np) "append" apos) [e] [] cpos) none pos.line X.env=pure false:=by rfl):PS3 X H0 (.Expr (.Call (.Attribute (.Name x np) "append" apos) [e] [] cpos) pos) (app3 i te):=by
 refine PS.imp (jT (zdu (jw hN hv hd hcd) (zl he.ok zF hs) hb hf hl hs hp) hw) fun B σ H hyp=>?_
 obtain⟨G0,A,ρ,G,F,q,L⟩:=hyp;obtain⟨f,ds,hi,q⟩:=zeF q;obtain⟨l,vs,h1,h2,r⟩:=zcd F hi;refine⟨.ref l,h1,zc6 h2,G0,ρ,G,F,he.mono ρ _ _ (fun c q v G' H' g w=>?_) q⟩
 obtain⟨f',d,hc,hz,q'⟩:=Jr q;subst hc;exact⟨l,vs,v,rfl,rfl,g.h.at h2,by rw [r.length];exact hz,L.nx _ _ _ _ ((F.gr g).change hi h1 ((r.same g.g).snoc (zm w))) q'⟩
def put3(i:Nat)(tk te:TE3):TS3:=fun A ρ=>atO ρ[i]? fun f ds=>te ρ fun c=>tk ρ fun k=>asS c fun g d=>asI k fun n=>∃ j,ixN ds.length n=some j/\A.nx (ρ.set i (some (.ow (f&&g) (ds.set j d))))
theorem Zy{i:Nat}{tk te:TE3}{x:Str}{np spos:Pos}{k:Expr}(hN:X.N[i]?=some x)(hv:Vis X.env.scope x)(hk:PE3 X H0 k tk)(he:PE3 X H0 e te)(hd:#[23]:=by decide)(hcd:#[20]:=by decide)
 (hs:swapsWithSole [.Subscript (.Name x np) k spos] e pos.line X.env=pure false:=by rfl) (hw:swappedStores [.Subscript (.Name x np) k spos] e X.env=pure none:=by rfl)
 (h1:(assignEach [.Subscript (.Name x np) k spos] X.env).map (·.2)=[assign (.Subscript (.Name x np) k spos) X.env]:=by rfl)
 (ha:∀ v,assign (.Subscript (.Name x np) k spos) X.env v=(do
  let ov <-holding [v] (eval (.Name x np) X.env)
  let iv <-holding [v,ov] (eval k X.env)
  standAt spos
  holding [v,ov,iv] (setItem ov iv v)
  release [v,ov,iv] []):=by intro _;rfl):PS3 X H0 (.Assign [.Subscript (.Name x np) k spos] e pos) (put3 i tk te):=by
 refine PS.imp (zcZ he.ok (zfe (jw hN hv hd hcd) hk.ok ZG ha) hs hw h1) fun B σ H hyp=>?_
 obtain⟨G0,A,ρ,G,F,q,L⟩:=hyp;obtain⟨f,ds,hi,q⟩:=zeF q;refine⟨G0,ρ,G,F,he.mono ρ _ _ (fun c qc v G1 H1 g1 w1=>?_) q⟩
 obtain⟨l,vs,h1,h2,r⟩:=zcd F hi;refine⟨.ref l,h1,G0,ρ,G1,F.gr g1,hk.mono ρ _ _ (fun kc q kv G2 H2 g2 w2=>?_) qc⟩
 obtain⟨f',d,hc,q1⟩:=Jr q;obtain⟨n,hn,j,hj,q'⟩:=jy q1;subst hc hn;have rk:=(zm w2).rd;cases rk;refine⟨l,vs,n,j,rfl,rfl,g2.h.at (g1.h.at h2),by rw [r.length];exact hj,L.nx _ _ _ _ (((F.gr g1).gr g2).change hi h1 ((r.same (g1.g.trans g2.g)).set ((zm w1).same g2.g) j)) q'⟩
def frz1(i:Nat)(ρ : Env3):Env3:=match ρ[i]? with
 | some (some (.ow f ds))=>ρ.set i (some (.sh f (.list ds)))
 | some (some (.tr _ ms))=>ρ.set i (some (.sh true (.list (ms.map PyData.list))))
 | _=>ρ
def frz:List Nat->Env3->Env3
 | [],ρ=>ρ
 | i::r,ρ=>frz r (frz1 i ρ)
theorem Fr3.frz1{K:Ybf}{G0:Hp}{ρ : Env3}{σ : L2.St}{G H:Hp}(F:#[22])(i:Nat):∃ G',Same G G'/\Fr3 K H0 G0 (L3.frz1 i ρ) σ G' H:=by
 unfold L3.frz1
 split
 . rename_i f ds h;exact F.freeze h
 . rename_i ps ms h;exact F.freezeT h
 . exact⟨G,Same.refl _,F⟩
theorem Fr3.frz{K:Ybf}{G0:Hp}{σ : L2.St}{H:Hp}:∀ (is:List Nat) {ρ : Env3} {G:Hp},Fr3 K H0 G0 ρ σ G H->∃ G',Same G G'/\Fr3 K H0 G0 (L3.frz is ρ) σ G' H
 | [],ρ,G,F=>⟨G,Same.refl _,F⟩
 | i :: r, ρ, G, F => by
  obtain⟨G1,s1,F1⟩:=F.frz1 i;obtain⟨G2,s2,F2⟩:=Fr3.frz r F1;exact⟨G2,s1.trans s2,F2⟩
def frzS(is:List Nat)(t:TS3):TS3:=fun A ρ=>t A (frz is ρ)
theorem jP(is:List Nat){t:TS3}(h:PS3 X H0 st t):PS3 X H0 st (frzS is t):=PS.imp h fun B σ H=>el7 fun G0 A ρ G F q L=>by
 obtain⟨G',s',F'⟩:=F.frz is;exact⟨G0,A,frz is ρ,G',F',q,L⟩
def whN(c:TT3)(tb:TS3)(A:Ends3):Nat->Env3->Prop
 | 0,_=>False
 | n+1,ρ=>c ρ fun k=>if k=true then tb { A with nx:=whN c tb A n,ct:=whN c tb A n,bk:=A.nx } ρ else A.nx ρ
def ziF(c:TT3)(tb:TS3):TS3:=fun A ρ=>∃ n,whN c tb A n ρ
theorem zaS{body:List Stmt}{tc:TT3}{tb:TS3}(hp:PassesOwn #[12] X.A X.env X.xe)(hc:PT3 X H0 c tc)(hb:PSs3 X H0 body tb):PS3 X H0 (.While c body [] pos) (ziF tc tb):=PS.imp (zdp hp hc.ok hb) fun B σ H hyp=>by
 obtain⟨G0,A,ρ,G,F,⟨n,q⟩,L⟩:=hyp;refine⟨fun m σ' H'=>∃ ρ' G',Fr3 X.K H0 G0 ρ' σ' G' H'/\whN tc tb A m ρ',⟨n,ρ,G,F,q⟩,?_⟩
 rintro m σ' H' ⟨ρ',G',F',q'⟩
 cases m with
 | zero=>exact q'.elim
 | succ m=>
  refine⟨G0,ρ',G',F',hc.mono ρ' _ _ (fun k q G2 H2 g=>?_) q'⟩
  cases k with
  | false=>exact L.nx ρ' σ' G2 H2 (F'.gr g) q
  | true=>
   exact⟨fun σ3 H3=>∃ ρ3 G3,Fr3 X.K H0 G0 ρ3 σ3 G3 H3/\whN tc tb A m ρ3,fun σ3 H3 h3=>⟨m,WaH _,h3⟩,
    G0,_,ρ',G2,F'.gr g,q,⟨fun ρ4 σ4 G4 H4 F4 q4=>⟨ρ4,G4,F4,q4⟩,L.rt,L.nx,fun ρ4 σ4 G4 H4 F4 q4=>⟨ρ4,G4,F4,q4⟩,L.rm⟩⟩
structure ItOk(K:Ybf)(H0:Hp)(J:It)(fl:Bool)(ds:List D)(Gs:Hp):Prop where
 go:∀ (i:Nat) d G H,ds[i]?=some d->Same Gs G->Sub G H->J.go i H/\∀ x H',J.yld i H x H'->∃ G',Gr G H G' H'/\Rf K H0 G' fl x d
 stop:∀ (i:Nat) G H,i=ds.length->Same Gs G->Sub G H->J.stop i H
abbrev TI3:=Env3->(Bool->List D->Prop)->Prop
def ZT(K:Ybf)(H0:Hp)(t:TI3):TI:=fun σ H R=>∃ G0 ρ G,Fr3 K H0 G0 ρ σ G H/\t ρ fun f ds=>∀ J G' H',Gr G H G' H'->ItOk K H0 J f ds G'->R J H'
structure PI3(X:Cx)(H0:Hp)(tg iter:Expr)(t:TI3):Prop where
 mono:∀ ρ (Q Q':Bool->List D->Prop),(∀ f c,Q f c->Q' f c)->t ρ Q->t ρ Q'
 ok:PI X tg iter (ZT X.K H0 t)
def forL(g:TG3)(tb:TS3)(A:Ends3)(f:Bool):List D->Env3->Prop
 | [],ρ=>A.nx ρ
 | d::ds,ρ=>g f d ρ fun ρ'=>tb { A with nx:=forL g tb A f ds,ct:=forL g tb A f ds,bk:=A.nx } ρ'
def for3(ti:TI3)(g:TG3)(tb:TS3):TS3:=fun A ρ=>ti ρ fun f ds=>forL g tb A f ds ρ
theorem zM{tg iter:Expr}{body:List Stmt}{ti:TI3}{g:TG3}{tb:TS3}(hp:PassesOwn #[12] X.A X.env X.xe)(hc:X.calm=true)(hi:PI3 X H0 tg iter ti)(hg:PG3 X H0 tg g)(hb:PSs3 X H0 body tb)
 (hs:∀ x,foldedSetIterable iter X.env x=pure x:=by intro _;rfl):PS3 X H0 (.For tg iter body [] pos) (for3 ti g tb):=PS.imp (Zl hp hc hi.ok hg.ok hb hs) fun B σ H=>el7 fun G0 A ρ G F q L=>by
 refine⟨G0,ρ,G,F,hi.mono ρ _ _ (fun f ds k J G1 H1 g1 ok=>?_) q⟩
 have B1:Fr3 X.K H0 G0 ρ σ G1 H1:=F.gr g1;refine⟨fun i m σ' H'=>i<=ds.length/\m=ds.length - i/\∃ ρ' G',Fr3 X.K H0 G1 ρ' σ' G' H'/\forL g tb A f (ds.drop i) ρ',⟨ds.length,Wa9 _,rfl,ρ,G1,B1.rebase,k⟩,?_⟩
 rintro i m σ' H' ⟨hil,rfl,ρ',G',F',k'⟩
 by_cases hlt:i<ds.length
 . right
   have hd:ds[i]?=some ds[i]:=YaQ hlt;obtain⟨hgo,hy⟩:=ok.go i _ G' H' hd F'.g0 F'.sub;rw [List.drop_eq_getElem_cons hlt] at k';refine⟨hgo,fun σ2 H2=>∃ ρ2 G2,Fr3 X.K H0 G1 ρ2 σ2 G2 H2/\forL g tb A f (ds.drop (i+1)) ρ2,fun σ2 H2 h2=>⟨_,Nat.sub_lt_sub_left hlt (WaH _),Nat.succ_le_of_lt hlt,rfl,h2⟩,fun x H2 y=>?_⟩
   obtain⟨G2,g2,r2⟩:=hy x H2 y;refine⟨G1,ρ',G2,f,_,F'.gr g2,r2,hg.mono f _ ρ' _ _ (fun ρ3 q3 σ3 G3 H3 F3 _ _=>⟨G1,_,ρ3,G3,F3,q3,?_⟩) k'⟩
   exact⟨fun ρ4 σ4 G4 H4 F4 q4=>⟨ρ4,G4,F4,q4⟩,fun f d v G4 H4 g4 r4 q4=>L.rt f d v G4 H4 (g4.back B1) r4 q4,fun ρ4 σ4 G4 H4 F4 q4=>L.nx ρ4 σ4 G4 H4 (F4.back B1) q4,fun ρ4 σ4 G4 H4 F4 q4=>⟨ρ4,G4,F4,q4⟩,fun c v ρ4 σ4 G4 H4 F4 w4 n4 q4=>L.rm c v ρ4 σ4 G4 H4 (F4.back B1) w4 n4 q4⟩
 . left
   have e:i=ds.length:=Nat.le_antisymm hil (Nat.not_lt.mp hlt);rw [e,List.drop_length] at k';exact⟨ok.stop i G' H' e F'.g0 F'.sub,L.nx ρ' σ' G' H' (F'.back B1) k'⟩
theorem PI.imp{tg iter:Expr}{t t':TI}(h:PI X tg iter t)(i:∀ σ H R,t' σ H R->t σ H R):PI X tg iter t':=fun pins s σ H R I q=>h pins s σ H R I (i _ _ _ q)
def itL(te:TE3):TI3:=fun ρ Q=>te ρ fun c=>asL c Q
def itT(te:TE3):TI3:=fun ρ Q=>te ρ fun c=>∃ f ds,c=.sh f (.tuple ds)/\Q f ds
theorem zi6{K:Ybf}{H0 G:Hp}{a:Addr}{xs:List V}{f:Bool}{ds:List D}(hq:SqL K G a xs)(r:Rfs K H0 G f xs ds):ItOk K H0 (Itl K a) f ds G where
 go:=fun i d G' H hd s1 s2=>by
  obtain⟨x,hx,rx⟩:=r.get hd;refine⟨⟨xs,x,(s1.trans s2.s).seq hq,hx⟩,fun y H' ⟨e,hy⟩=>?_⟩
  subst e;have:=hy xs ((s1.trans s2.s).seq hq);rw [hx] at this;cases this;exact⟨G',Gr.refl s2,rx.same s1⟩
 stop:=fun i G' H hl s1 s2=>⟨xs,(s1.trans s2.s).seq hq,by rw [r.length,hl];exact YaY _⟩
theorem zlC{K:Ybf}{H0 G:Hp}{a:Addr}{xs:List V}{f:Bool}{ds:List D}(hq:SqT K G a xs)(r:Rfs K H0 G f xs ds):ItOk K H0 (Itt K a) f ds G where
 go:=fun i d G' H hd s1 s2=>by
  obtain⟨x,hx,rx⟩:=r.get hd;refine⟨⟨xs,x,(s1.trans s2.s).tup hq,hx⟩,fun y H' ⟨e,hy⟩=>?_⟩
  subst e;have:=hy xs ((s1.trans s2.s).tup hq);rw [hx] at this;cases this;exact⟨G',Gr.refl s2,rx.same s1⟩
 stop:=fun i G' H hl s1 s2=>⟨xs,(s1.trans s2.s).tup hq,by rw [r.length,hl];exact YaY _⟩
theorem zU{tg iter:Expr}{te:TE3}(h:PE3 X H0 iter te):PI3 X H0 tg iter (itL te):=
 ⟨fun ρ Q Q' hq q=>h.mono ρ _ _ (fun c q=>by obtain⟨f,ds,e,q⟩:=zfF q;subst e;exact hq _ _ q) q,PI.imp (zbC h.ok) fun σ H R=>el5 fun G0 ρ G F q=>⟨G0,ρ,G,F,h.mono ρ _ _ (fun c hyp v G' H' g w=>by
  obtain⟨f,ds,e,k⟩:=zfF hyp;subst e;obtain⟨a,xs,rfl,hq,rs⟩:=JN (zm w);exact⟨a,rfl,⟨xs,g.sub.seq hq⟩,k _ G' H' g (zi6 hq rs)⟩) q⟩⟩
theorem zkA{tg iter:Expr}{te:TE3}(h:PE3 X H0 iter te):PI3 X H0 tg iter (itT te):=
 ⟨fun ρ Q Q' hq q=>h.mono ρ _ _ (fun c ⟨f,ds,e,q⟩=>⟨f,ds,e,hq _ _ q⟩) q,PI.imp (zhC h.ok) fun σ H R=>el5 fun G0 ρ G F q=>⟨G0,ρ,G,F,h.mono ρ _ _ (fun c hyp v G' H' g w=>by
  obtain⟨f,ds,e,k⟩:=hyp;subst e;obtain⟨a,xs,rfl,hq,rs⟩:=za8 (zm w);exact⟨a,rfl,⟨xs,g.sub.tup hq⟩,k _ G' H' g (zlC hq rs)⟩) q⟩⟩
def nums(lo:Int)(n:Nat):List D:=(List.range n).map fun i=>.int (lo+(i:Nat))
theorem zd8{K:Ybf}{H0 G:Hp}{lo:Int}{n:Nat}:ItOk K H0 (Itr lo n) true (nums lo n) G where
 go:=fun i d G' H hd s1 s2=>by
  unfold nums at hd;rw [Ya0] at hd
  by_cases hi:i<n
  . rw [List.getElem?_range hi] at hd
    cases hd;exact⟨hi,fun x H' ⟨e1,e2⟩=>by subst e1 e2;exact⟨G',Gr.refl s2,.sc rfl (.int _)⟩⟩
  . rw [Wan (by simpa using hi)] at hd;cases hd
 stop:=fun i G' H hl s1 s2=>by unfold nums at hl;show n<=i;simp at hl;omega
theorem zz{K:Ybf}{G:Hp}{v:V}{i:Int}(r:RdV K G v (.int i)):v=.int i:=by cases r;rfl
theorem vws1{K:Ybf}{H0 G H:Hp}{vs:List V}{c:Cl}(w:Vws K H0 G H vs [c]):∃ v,vs=[v]/\Vw K H0 G H v c:=by
 cases w with
 | cons a b=>cases b;exact⟨_,rfl,a⟩
theorem vws2{K:Ybf}{H0 G H:Hp}{vs:List V}{c d:Cl}(w:Vws K H0 G H vs [c,d]):∃ v u,vs=[v,u]/\Vw K H0 G H v c/\Vw K H0 G H u d:=by
 cases w with
 | cons a b=>obtain⟨u,rfl,h⟩:=vws1 b;exact⟨_,_,rfl,a,h⟩
def rg1(t:TA3):TI3:=fun ρ Q=>t ρ fun cs=>∃ j,cs=[.sh true (.int j)]/\(-(2 ^ 62)<=j/\j<2 ^ 62)/\Q true (nums 0 j.toNat)
def rg2(t:TA3):TI3:=fun ρ Q=>t ρ fun cs=>∃ i j,cs=[.sh true (.int i),.sh true (.int j)]/\(-(2 ^ 62)<=i/\i<2 ^ 62/\-(2 ^ 62)<=j/\j<2 ^ 62)/\Q true (nums i (j - i).toNat)
theorem jj{tg a:Expr}{t:TA3}{p:Pos}(hg:Gl X "range")(hm:X.mg "range" = none)(ha:PA3 X H0 [a] t)(hs:starEach [a] X.env=[(false,eval a X.env)]:=by rfl):PI3 X H0 tg (.Call (.Name "range" p) [a] [] pos) (rg1 t):=
 ⟨fun ρ Q Q' hq q=>ha.mono ρ _ _ (fun c ⟨j,e,b,q⟩=>⟨j,e,b,hq _ _ q⟩) q,PI.imp (zcx hg hm ha.ok hs) fun σ H R=>el5 fun G0 ρ G F q=>⟨G0,ρ,G,F,ha.mono ρ _ _ (fun c hyp vs G' H' g w=>by
  obtain⟨j,e,b,k⟩:=hyp;subst e;obtain⟨v,rfl,w1⟩:=vws1 w;cases zz (zm w1).rd;exact⟨j,rfl,b.1,b.2,k _ G' H' g zd8⟩) q⟩⟩
theorem zbM{tg a b:Expr}{t:TA3}{p:Pos}(hg:Gl X "range")(hm:X.mg "range" = none)(ha:PA3 X H0 [a,b] t)(hs:starEach [a,b] X.env=[(false,eval a X.env),(false,eval b X.env)]:=by rfl)(hs2:starEach [b] X.env=[(false,eval b X.env)]:=by rfl):PI3 X H0 tg (.Call (.Name "range" p) [a,b] [] pos) (rg2 t):=
 ⟨fun ρ Q Q' hq q=>ha.mono ρ _ _ (fun c ⟨i,j,e,b,q⟩=>⟨i,j,e,b,hq _ _ q⟩) q,PI.imp (zk2 hg hm ha.ok hs hs2) fun σ H R=>el5 fun G0 ρ G F q=>⟨G0,ρ,G,F,ha.mono ρ _ _ (fun c hyp vs G' H' g w=>by
  obtain⟨i,j,e,b,k⟩:=hyp;subst e;obtain⟨v,u,rfl,w1,w2⟩:=vws2 w;cases zz (zm w1).rd;cases zz (zm w2).rd;exact⟨i,j,rfl,b,k _ G' H' g zd8⟩) q⟩⟩
end
variable[LamW]
def cst3(n:Nat)(js:List Nat)(ρ : Env3):Env3:=List.replicate n none++js.map fun j=>(ρ[j]?).join
def er(D:Addr)(H:Hp):Hp:=fun b=>if b=D then none else H b
theorem Zr{D:Addr}{H:Hp}:er D H D=none:=by unfold er;rw [if_pos rfl]
theorem j9{D b:Addr}{H:Hp}(h:b≠D):er D H b=H b:=by unfold er;rw [if_neg h]
theorem zlz{D b:Addr}{H:Hp}{o:HO}(h:er D H b=some o):b≠D/\H b=some o:=by
 by_cases e:b=D
 . subst e;rw [Zr] at h;cases h
 . rw [j9 e] at h;exact⟨e,h⟩
theorem zk1{D:Addr}{H:Hp}{o:HO}(h:H D=some o):upd (er D H) D o=H:=by
 funext b
 by_cases e:b=D
 . subst e;rw [zf,h]
 . rw [zd e,j9 e]
theorem Gr.er{D:Addr}{G H G' H':Hp}(g:Gr G H G' H')(hD:G' D=none)(hx:∀ f,H' D≠some (.ext f)):Gr G (er D H) G' (er D H') where
 g:=g.g
 h:=fun b o e=>by
  obtain⟨n,e⟩:=zlz e;rw [j9 n]
  rcases g.h b o e with z|⟨z,y,c',h1,h2⟩
  . exact .inl z
  . exact .inr ⟨z,y,c',by rw [j9 n];exact h1,by rw [j9 (fun w=>by rw [w] at h2;exact hx _ h2)];exact h2⟩
 sub:=⟨fun b o e=>by
  rw [j9 (zY e hD)];exact g.sub.s b o e,g.sub.cl⟩
 new:=fun b o e=>by
  rcases g.new b o e with q|q|q
  . exact .inl q
  . by_cases hb:b=D
    . subst hb;exact .inr (.inl Zr)
    . exact .inr (.inl (by rw [j9 hb];exact q))
  . exact .inr (.inr q)
theorem JP{α : Type}{n i:Nat}{js:List Nat}{l:List (Option α)}{x:α}(h:(List.replicate n none++js.map fun j=>(l[j]?).join)[i]?=some (some x)):∃ j,n<=i/\js[i - n]?=some j/\l[j]?=some (some x):=by
 by_cases hi:i<n
 . rw [Yab (by simpa using hi),Yad,if_pos hi] at h
   cases h
 . rw [Yae (by simpa using hi),Ybb,Ya0] at h
   cases ej:js[i - n]? with
   | none=>rw [ej] at h;cases h
   | some j=>
    rw [ej] at h;have h':(l[j]?).join=some x:=WaP h;refine⟨j,Nat.not_lt.mp hi,rfl,?_⟩;cases q:l[j]? with
    | none=>rw [q] at h';cases h'
    | some o => rw [q] at h'; cases o with
     | none=>cases h'
     | some v=>cases h';rfl
theorem zhG{α : Type}{n i j:Nat}{js:List Nat}{l:List (Option α)}{x:α}(hi:n<=i)(hj:js[i - n]?=some j)(h:l[j]?=some (some x)):(List.replicate n none++js.map fun j=>(l[j]?).join)[i]?=some (some x):=by
 rw [Yae (by simpa using hi),Ybb,Ya0,hj]
 simp [h]
theorem Rf.asideU{K:Ybf}{H0 G:Hp}{A:Addr}{ys:List V}{f:Bool}{v:V}{d:D}(r:Rf K H0 G f v d)(hA:G A=none):Rf K (upd H0 A (.lst ys)) G f v d:=⟨r.rd,fun h=>j0 (Same.refl _) (fun a o e n=>by rw [zd (zY e hA)];exact n) (r.nw h)⟩
theorem Rf.asideD{K:Ybf}{H0 G:Hp}{A:Addr}{ys:List V}{f:Bool}{v:V}{d:D}(r:Rf K (upd H0 A (.lst ys)) G f v d):Rf K H0 G f v d:=⟨r.rd,fun h=>j0 (Same.refl _) (fun a o e n=>by
 have ha:a≠A:=fun z=>by subst z;rw [zf] at n;cases n
 rw [zd ha] at n;exact n) (r.nw h)⟩
theorem Rf.aside{K:Ybf}{H0 G:Hp}{A:Addr}{ys zs:List V}{f:Bool}{v:V}{d:D}(r:Rf K (upd H0 A (.lst ys)) G f v d)(hA:G A=none):Rf K (upd H0 A (.lst zs)) G f v d:=r.asideD.asideU hA
theorem Rfs.asideU{K:Ybf}{H0 G:Hp}{A:Addr}{ys:List V}{f:Bool}{v:List V}{d:List D}(r:Rfs K H0 G f v d)(hA:G A=none):Rfs K (upd H0 A (.lst ys)) G f v d:=⟨r.rd,fun h=>rdns_mono (Same.refl _) (fun a o e n=>by rw [zd (zY e hA)];exact n) (r.nw h)⟩
theorem Rfs.aside{K:Ybf}{H0 G:Hp}{A:Addr}{ys zs:List V}{f:Bool}{v:List V}{d:List D}(r:Rfs K (upd H0 A (.lst ys)) G f v d)(hA:G A=none):Rfs K (upd H0 A (.lst zs)) G f v d:=⟨r.rd,fun h=>rdns_mono (Same.refl _) (fun a o e n=>by
 rw [zd (zY e hA)] at n ⊢;exact n) (r.nw h)⟩
theorem Dr.asideU{K:Ybf}{H0 G:Hp}{A:Addr}{ys:List V}{kvs:List (List Key×V)}{ds:List (List Key×PyData)}(r:Dr K H0 G kvs ds)(hA:G A=none):Dr K (upd H0 A (.lst ys)) G kvs ds:=by
 induction r with
 | nil=>exact .nil
 | cons a b ih=>exact .cons (a.asideU hA) ih
theorem Dr.aside{K:Ybf}{H0 G:Hp}{A:Addr}{ys zs:List V}{kvs:List (List Key×V)}{ds:List (List Key×PyData)}(r:Dr K (upd H0 A (.lst ys)) G kvs ds)(hA:G A=none):Dr K (upd H0 A (.lst zs)) G kvs ds:=by
 induction r with
 | nil=>exact .nil
 | cons a b ih=>exact .cons (a.aside hA) ih
theorem Vw.rebase{K:Ybf}{H0 G H:Hp}{A:Addr}{v:V}{c:Cl}(w:Vw K H0 G (upd H A (.lst [])) v c)(s:Sub G H)(hA:H A=none):Vw K (upd H0 A (.lst [])) G (upd H A (.lst [])) v c:=by
 have gA:G A=none:=s.free hA;cases w with
 | sh r=>exact .sh (r.asideU gA)
 | ow h r n=>exact .ow h (r.asideU gA) n
 | tr t=>
  refine .tr ⟨t.top,t.topG,t.nd,t.len,fun k p m h1 h2=>?_⟩
  obtain⟨vs,a,b,c⟩:=t.item k p m h1 h2;exact⟨vs,a,b,c.asideU gA⟩
 | dt h r n=>exact .dt h (r.asideU gA) n
 | dk h n=>exact .dk h n
 | fd h r k=>exact .fd h (r.asideU gA) k
 | tk h=>exact .tk h
 | dm h n=>exact .dm h n
 | ex h=>exact .ex h
section
variable{K:Ybf}{H0 G0:Hp}{ρ : Env3}{σ : L2.St}{G H:Hp}{D:Addr}
theorem Fr3.comp(F:#[22])(n:Nat){js:List Nat}(hj:js.Nodup)(hD:H D=none):Fr3 K (upd H0 D (.lst [])) G (cst3 n js ρ) (cst n js σ) G (upd H D (.lst [])) where
 keep:=fun b o e=>by
  by_cases hb:b=D
  . subst hb;rw [zf] at e ⊢;exact .inl e
  . rw [zd hb] at e ⊢
    rcases F.keep b o e with z|⟨z,y,l⟩
    . exact .inl z
    . exact .inr ⟨z,y,l.same (zG hD _).x⟩
 sub:=F.sub.trans (zG hD _).x
 old:=fun b o e=>.inl e
 g0:=Same.refl _
 slot:=fun i c e=>by
  obtain⟨j,h1,h2,h3⟩:=JP e;obtain⟨v,h4,h5⟩:=F.slot j c h3;exact⟨v,zhG h1 h2 h4,(h5.gr (Gr.apart F.sub hD)).rebase F.sub hD⟩
 mine:=fun i c v a e e' h=>by
  obtain⟨j,h1,h2,h3⟩:=JP e;obtain⟨j',h1',h2',h3'⟩:=JP e';rw [h2] at h2';cases h2';obtain⟨⟨o,q,_⟩,_⟩:=(F.vw h3 h3').has h;rw [zd (zY q hD)];exact F.mine j c v a h3 h3' h
 apart:=fun i k c1 c2 v1 v2 a e1 e2 e3 e4 q1 q2=>by
  obtain⟨j,h1,h2,h3⟩:=JP e1;obtain⟨j',h1',h2',h3'⟩:=JP e2;obtain⟨j2,h4,h5,h6⟩:=JP e3;obtain⟨j3,h7,h8,h9⟩:=JP e4;rw [h2] at h5;cases h5;rw [h2'] at h8;cases h8;have e:=F.apart j j' c1 c2 v1 v2 a h3 h3' h6 h9 q1 q2;subst e;have ei:i - n=k - n:=by
   obtain⟨a1,b1⟩:=Ya8.mp h2;obtain⟨a2,b2⟩:=Ya8.mp h2';exact(WaG hj).mp (b1.trans b2.symm)
  omega
 len:=by unfold cst3 cst;simp
theorem Fr3.aside{ys zs:List V}(F:Fr3 K (upd H0 D (.lst ys)) G0 ρ σ G H)(hG0:G0 D=none):Fr3 K (upd H0 D (.lst zs)) G0 ρ σ G (upd H D (.lst zs)):=by
 have hD:H D=some (.lst ys):=F.keep.at (b:=D) zf;have hG:G D=none:=by
  cases e:G D with
  | none=>rfl
  | some o=>
   rcases F.old D o e with q|q|⟨xs,q⟩
   . rw [hG0] at q;cases q
   . rw [zf] at q;cases q
   . have:=F.sub.s _ _ e;rw [hD,q] at this;cases this
 refine⟨fun b o e=>?_,⟨fun b o e=>by rw [zd (zY e hG)];exact F.sub.s b o e,F.sub.cl⟩,fun b o e=>?_,F.g0,fun i c e=>?_,fun i c v a e e' h=>?_,F.apart,F.len⟩
 . by_cases hb:b=D
   . subst hb;rw [zf] at e ⊢;exact .inl e
   . rw [zd hb] at e ⊢
     rcases F.keep b o (by rw [zd hb];exact e) with z|⟨z,y,l⟩
     . exact .inl z
     . exact .inr ⟨z,y,l.upd hb fun f q=>by rw [hD] at q;cases q⟩
 . rcases F.old b o e with q|q|q
   . exact .inl q
   . by_cases hb:b=D
     . subst hb;rw [zf] at q;cases q
     . rw [zd hb] at q;exact .inr (.inl (by rw [zd hb];exact q))
   . exact .inr (.inr q)
 . obtain⟨v,h1,h2⟩:=F.slot i c e
   refine⟨v,h1,?_⟩
   cases h2 with
   | sh r=>exact .sh (r.aside hG)
   | ow h r n=>
    rename_i l vs f ds;have hl:l≠D:=fun z=>by
     subst z;have:=F.mine i _ _ l e h1 rfl;rw [zf] at this;cases this
    exact .ow (by rw [zd hl];exact h) (r.aside hG) n
   | dt h r n=>
    rename_i l kvs ds;have hl:l≠D:=fun z=>by
     subst z;have:=F.mine i _ _ l e h1 rfl;rw [zf] at this;cases this
    exact .dt (by rw [zd hl];exact h) (r.aside hG) n
   | dk h n=>
    rename_i l ks;have hl:l≠D:=fun z=>by
     subst z;have:=F.mine i _ _ l e h1 rfl;rw [zf] at this;cases this
    exact .dk (by rw [zd hl];exact h) n
   | fd h r k=>exact .fd h (r.aside hG) k
   | tk h=>exact .tk h
   | dm h n=>
    rename_i l ks;have hl:l≠D:=fun z=>by
     subst z;have:=F.mine i _ _ l e h1 rfl;rw [zf] at this;cases this
    exact .dm (by rw [zd hl];exact h) n
   | tr t=>
    rename_i l ps ms;have hl:∀ a,Has (.tr ps ms) (.ref l) a->a≠D:=fun a ha z=>by
     subst z;have:=F.mine i _ _ a e h1 ha;rw [zf] at this;cases this
    refine .tr ⟨by rw [zd (hl l (.inl rfl))];exact t.top,t.topG,t.nd,t.len,fun k p m h1 h2=>?_⟩
    obtain⟨vs,a,b,c⟩:=t.item k p m h1 h2;exact⟨vs,by rw [zd (hl p (.inr (Yah h1)))];exact a,b,c.aside hG⟩
   | ex h=>
    rename_i l C;have hl:l≠D:=fun z=>by subst z;rw [hD] at h;cases h
    exact .ex (by rw [zd hl];exact h)
 . have q:=F.mine i c v a e e' h
   have hl:a≠D:=fun z=>by subst z;rw [zf] at q;cases q
   rw [zd hl] at q ⊢;exact q
theorem Fr3.atD{ys:List V}(F:Fr3 K (upd H0 D (.lst ys)) G0 ρ σ G H)(hG0:G0 D=none):G D=none/\H D=some (.lst ys):=by
 refine⟨?_,F.keep.at (b:=D) zf⟩
 cases e:G D with
 | none=>rfl
 | some o=>
  rcases F.old D o e with q|q|⟨xs,q⟩
  . rw [hG0] at q;cases q
  . rw [zf] at q;cases q
  . have h1:=F.sub.s _ _ e
    have h2:=F.keep.at (b:=D) zf;rw [h2,q] at h1;cases h1
end
section
variable{X:Cx}{H0:Hp}{pos:Pos}
structure PTs3(X:Cx)(H0:Hp)(es:List Expr)(t:TT3):Prop where
 mono:∀ ρ (Q Q':Bool->Prop),(∀ c,Q c->Q' c)->t ρ Q->t ρ Q'
 ok:PTs X es (Jd X.K H0 t)
def true3:TT3:=fun _ Q=>Q true
theorem jh:PTs3 X H0 [] true3:=⟨fun ρ Q Q' h q=>h _ q,fun pins s σ H Q I=>el5 fun G0 ρ G F q=>za4 pins s σ H Q I (q G H (Gr.refl F.sub))⟩
theorem zjQ{c:Expr}{t:TT3}(h:PT3 X H0 c t):PTs3 X H0 [c] t:=⟨h.mono,zc0 h.ok⟩
def jJ(g:TG3)(tt:TT3)(te:TE3)(f:Bool):List D->Bool->List D->Env3->(Bool->List D->Prop)->Prop
 | [],fa,acc,_,Q=>Q fa acc
 | d::ds,fa,acc,ρ,Q=>g f d ρ fun ρ'=>tt ρ' fun k=>if k=true then te ρ' fun c=>asS c fun fy y=>jJ g tt te f ds (fa&&fy) (acc++[y]) ρ' Q else jJ g tt te f ds fa acc ρ' Q
def Jq(ti:TI3)(g:TG3)(tt:TT3)(te:TE3)(n:Nat)(js:List Nat):TN3:=fun ρ Q=>ti ρ fun f ds=>ds.length<=sizeLine/\jJ g tt te f ds true [] (cst3 n js ρ) Q
theorem zcS{g:TG3}{tt:TT3}{te:TE3}(hg:∀ f d ρ (Q Q':Env3->Prop),(∀ c,Q c->Q' c)->g f d ρ Q->g f d ρ Q')(ht:∀ ρ (Q Q':Bool->Prop),(∀ c,Q c->Q' c)->tt ρ Q->tt ρ Q')(he:∀ ρ (Q Q':Cl->Prop),(∀ c,Q c->Q' c)->te ρ Q->te ρ Q')
 {f:Bool} {Q Q':Bool->List D->Prop} (h:∀ f c,Q f c->Q' f c):∀ ds fa acc ρ,jJ g tt te f ds fa acc ρ Q->jJ g tt te f ds fa acc ρ Q'
 | [],fa,acc,ρ,q=>h _ _ q
 | d :: ds, fa, acc, ρ, q => hg f d ρ _ _ (fun ρ' => ht ρ' _ _ fun k => by
  cases k with
  | true=>exact he ρ' _ _ fun c q=>by obtain⟨fy,y,e,q⟩:=Jr q;subst e;exact zcS hg ht he h ds _ _ ρ' q
  | false=>exact zcS hg ht he h ds fa acc ρ') q
theorem zdh{tn fn N:List Str}{js:List Nat}(nd:(tn++fn).Nodup)(hj:js.map (fun j=>N[j]?)=fn.map some):js.Nodup:=by
 have h1:(fn.map some).Nodup:=by
  have:=(Wax.mp nd).2.1;exact List.Pairwise.map some (fun a b h e=>h (WaP e)) this
 rw [<-hj] at h1;exact List.Pairwise.of_map _ (fun a b h e=>h (by rw [e])) h1
theorem zc4{elt tg:Expr}{ifs:List Expr}{scope:Scope}{N:List Str}{g:TG3}{tt:TT3}{te:TE3}
 (hb:∀ H0 s H fp cl,PG3 (X.comp scope N s H fp cl) H0 tg g/\PTs3 (X.comp scope N s H fp cl) H0 ifs tt/\PE3 (X.comp scope N s H fp cl) H0 elt te):∀ s H fp cl,PG (X.comp scope N s H fp cl) tg (fun v σ H Q=>∃ H0,Zp X.K H0 g v σ H Q)/\PTs (X.comp scope N s H fp cl) ifs (fun σ H Q=>∃ H0,Jd X.K H0 tt σ H Q)/\PE (X.comp scope N s H fp cl) elt (fun σ H Q=>∃ H0,jD X.K H0 te σ H Q):=fun s H fp cl=>
 ⟨fun pins s' σ H' v u Q I r ⟨h0,q⟩=>(hb h0 s H fp cl).1.ok pins s' σ H' v u Q I r q,fun pins s' σ H' Q I ⟨h0,q⟩=>(hb h0 s H fp cl).2.1.ok pins s' σ H' Q I q,fun pins s' σ H' Q I ⟨h0,q⟩=>(hb h0 s H fp cl).2.2.ok pins s' σ H' Q I q⟩
theorem zcG{Y Y' Y'':Cx}{h1 h2 h3:Hp}{elt tg iter:Expr}{ifs:List Expr}{ti:TI3}{g:TG3}{tt:TT3}{te:TE3}{n:Nat}{js:List Nat}(hjn:js.Nodup)(hi:PI3 X H0 tg iter ti)(m1:PG3 Y h1 tg g)(m2:PTs3 Y' h2 ifs tt)(m3:PE3 Y'' h3 elt te) :
 ∀ σ H Q,zeJ X.K H0 (Jq ti g tt te n js) σ H Q->zbO (ZT X.K H0 ti) (fun v σ H Q=>∃ H0,Zp X.K H0 g v σ H Q) (fun σ H Q=>∃ H0,Jd X.K H0 tt σ H Q) (fun σ H Q=>∃ H0,jD X.K H0 te σ H Q) n js σ H Q:=by
 rintro σ H Q ⟨G0,ρ,G,F,q⟩
 refine⟨G0,ρ,G,F,hi.mono ρ _ _ (fun fl ds ⟨hz,k⟩ J G1 H1 g1 ok A hA=>?_) q⟩
 have F1:=F.gr g1;have gA:G1 A=none:=g1.sub.free hA;have h0A:H0 A=none:=F1.keep.free hA;refine⟨fun i m ys σ2 H2=>i<=ds.length/\m=ds.length - i/\ys.length<=i/\∃ ρ2 G2 fe es,Fr3 X.K (upd H0 A (.lst ys)) G1 ρ2 σ2 G2 H2/\Rfs X.K H0 G2 fe ys es/\Gr G1 H1 G2 (er A H2)/\jJ g tt te fl (ds.drop i) fe es ρ2 (fun f ds=>∀ l vs G' H',Gr G H G' H'->H' l=none->Rfs X.K H0 G' f vs ds->Q (.ref l) (upd H' l (.lst vs))),
  ⟨ds.length,Wa9 _,rfl,YaY _,cst3 n js ρ,G1,true,[],F1.comp n hjn hA,.nil,?_,k⟩,?_⟩
 . have e:er A (upd H1 A (.lst []))=H1:=by
    funext b
    by_cases hb:b=A
    . subst hb;rw [Zr,hA]
    . rw [j9 hb,zd hb]
   rw [e];exact Gr.refl g1.sub
 rintro i m ys σ2 H2 ⟨hil,rfl,hyl,ρ2,G2,fe,es,F2,r2,g2,k2⟩
 obtain⟨hG2,hH2⟩:=F2.atD gA
 by_cases hlt:i<ds.length
 . right
   have hd:ds[i]?=some ds[i]:=YaQ hlt;obtain⟨hgo,hy⟩:=ok.go i _ G2 H2 hd F2.g0 F2.sub;rw [List.drop_eq_getElem_cons hlt] at k2;refine⟨hgo,fun x H3 y=>?_⟩
   obtain⟨G3,g3,r3⟩:=hy x H3 y;have F3:=F2.gr g3;refine⟨upd H0 A (.lst ys),G1,ρ2,G3,fl,_,F3,r3.asideU (F3.atD gA).1,m1.mono fl _ ρ2 _ _ (fun ρ4 q4 σ4 G4 H4 F4 s4 g4=>?_) k2⟩
   refine⟨upd H0 A (.lst ys),G1,ρ4,G4,F4,m2.mono ρ4 _ _ (fun b q5 G5 H5 g5=>?_) q4⟩
   have F5:=F4.gr g5;have gg5:=(g3.trans g4).trans g5;cases b with
   | true=>
    refine⟨upd H0 A (.lst ys),G1,ρ4,G5,F5,m3.mono ρ4 _ _ (fun c q6 v G6 H6 g6 w6=>?_) q5⟩
    obtain⟨fy,y,hc,q6⟩:=Jr q6;subst hc;have F6:=F5.gr g6;obtain⟨hG6,hH6⟩:=F6.atD gA;have gg6:=gg5.trans g6;refine⟨hH6,YaU (Waq hyl hlt) hz,ds.length - (i+1),Nat.sub_lt_sub_left hlt (WaH _),Nat.succ_le_of_lt hlt,rfl,by rw [YaS,List.length_singleton];omega,ρ4,G6,_,es++[y],F6.aside gA,(r2.same gg6.g).snoc ((zm w6).asideD),?_,q6⟩
    have e:er A (upd H6 A (.lst (ys++[v])))=er A H6:=by
     funext b
     by_cases hb:b=A
     . subst hb;rw [Zr,Zr]
     . rw [j9 hb,j9 hb,zd hb]
    rw [e];exact g2.trans (gg6.er hG6 fun f z=>by rw [hH6] at z;cases z)
   | false=>
    obtain⟨hG5,hH5⟩:=F5.atD gA;exact⟨ds.length - (i+1),Nat.sub_lt_sub_left hlt (WaH _),Nat.succ_le_of_lt hlt,rfl,Nat.le_succ_of_le hyl,ρ4,G5,fe,es,F5,r2.same gg5.g,g2.trans (gg5.er hG5 fun f z=>by rw [hH5] at z;cases z),q5⟩
 . left
   have e:i=ds.length:=Nat.le_antisymm hil (Nat.not_lt.mp hlt);rw [e,List.drop_length] at k2;refine⟨ok.stop i G2 H2 e F2.g0 F2.sub,?_⟩;have k3:=k2 A ys G2 (er A H2) (g1.trans g2) Zr r2;rw [zk1 hH2] at k3;exact k3
theorem jo{elt tg iter:Expr}{ifs:List Expr}{scope:Scope}{ti:TI3}{g:TG3}{tt:TT3}{te:TE3}(tn fn:List Str)(js:List Nat)(hcalm:X.calm=true)(S:CompSc X.env.scope scope tn fn)(hj:js.map (fun j=>X.N[j]?)=fn.map some)(hi:PI3 X H0 tg iter ti)
 (hb:∀ H0 s H fp cl,PG3 #[17] H0 tg g/\PTs3 #[17] H0 ifs tt/\PE3 #[17] H0 elt te)
 (hs:∀ x,foldedSetIterable iter X.env x=pure x:=by intro _;rfl):PN3 X H0 (.ListComp elt [⟨tg,iter,ifs,0⟩] scope pos) (Jq ti g tt te tn.length js):=by
 obtain⟨m1,m2,m3⟩:=hb H0 X.s₀ X.H₀ [] [];have hjn:=zdh S.nd hj;refine⟨fun ρ Q Q' h q=>hi.mono ρ _ _ (fun f ds ⟨z,q⟩=>⟨z,zcS m1.mono m2.mono m3.mono h ds _ _ _ q⟩) q,?_⟩
 exact PE.imp (zaE (wi:=ZT X.K H0 ti) (g:=fun v σ H Q=>∃ H0,Zp X.K H0 g v σ H Q) (tt:=fun σ H Q=>∃ H0,Jd X.K H0 tt σ H Q) (te:=fun σ H Q=>∃ H0,jD X.K H0 te σ H Q) tn fn js hcalm S hj hi.ok (zc4 hb) hs) (zcG hjn hi m1 m2 m3)
theorem zin{elt tg iter:Expr}{ifs:List Expr}{scope:Scope}{spos pos':Pos}{i:Nat}{x:Str}{ti:TI3}{g:TG3}{tt:TT3}{te:TE3}(hN:X.N.Nodup)(hix:X.N[i]?=some x)(hx:Loc X.env.scope x)(tn fn:List Str)(js:List Nat)(hcalm:X.calm=true)(S:CompSc X.env.scope scope tn fn)(hj:js.map (fun j=>X.N[j]?)=fn.map some)(hi:PI3 X H0 tg iter ti)
 (hb:∀ H0 s H fp cl,PG3 #[17] H0 tg g/\PTs3 #[17] H0 ifs tt/\PE3 #[17] H0 elt te)
 (hs:∀ x,foldedSetIterable iter X.env x=pure x:=by intro _;rfl)
 (hsw:swapsWith (.ListComp elt [⟨tg,iter,ifs,0⟩] scope pos) (some (.Name x pos')) spos.line X.env=pure true:=by rfl) (hf:#[19]:=by first|exact .inl rfl|exact .inr rfl|assumption) :
 PS3 X H0 (.Assign [.Name x pos'] (.ListComp elt [⟨tg,iter,ifs,0⟩] scope pos) spos) (own3 i (Jq ti g tt te tn.length js)):=by
 obtain⟨m1,m2,m3⟩:=hb H0 X.s₀ X.H₀ [] [];have hjn:=zdh S.nd hj;have pn:=jo (pos:=pos) tn fn js hcalm S hj hi hb hs;refine PS.imp (zbl hN hix hx (wi:=ZT X.K H0 ti) (g:=fun v σ H Q=>∃ H0,Zp X.K H0 g v σ H Q) (tt:=fun σ H Q=>∃ H0,Jd X.K H0 tt σ H Q) (te:=fun σ H Q=>∃ H0,jD X.K H0 te σ H Q) tn fn js hcalm S hj hi.ok (zc4 hb) hs hsw hf) fun B σ H=>el7 fun G0 A ρ G F q L=>?_
 exact zcG hjn hi m1 m2 m3 σ H _ ⟨G0,ρ,G,F,pn.mono ρ _ _ (fun f ds q l vs G' H' g hl r=>L.nx _ _ G' _ ((F.gr g).own r hl) q) q⟩
theorem zbo{elt tg iter:Expr}{ifs:List Expr}{scope:Scope}{spos pos':Pos}{i:Nat}{x:Str}{ti:TI3}{g:TG3}{tt:TT3}{te:TE3}(hN:X.N.Nodup)(hix:X.N[i]?=some x)(hx:Loc X.env.scope x)(tn fn:List Str)(js:List Nat)(hcalm:X.calm=true)(S:CompSc X.env.scope scope tn fn)(hj:js.map (fun j=>X.N[j]?)=fn.map some)(hi:PI3 X H0 tg iter ti)
 (hb:∀ H0 s H fp cl,PG3 #[17] H0 tg g/\PTs3 #[17] H0 ifs tt/\PE3 #[17] H0 elt te)
 (hs:∀ x,foldedSetIterable iter X.env x=pure x:=by intro _;rfl)
 (hsw:swapsWith (.ListComp elt [⟨tg,iter,ifs,0⟩] scope pos) (some (.Name x pos')) spos.line X.env=pure true:=by rfl) (hf:#[19]:=by first|exact .inl rfl|exact .inr rfl|assumption) :
 PS3 X H0 (.Assign [.Name x pos'] (.ListComp elt [⟨tg,iter,ifs,0⟩] scope pos) spos) (set3 i (nw3 (Jq ti g tt te tn.length js))):=by
 obtain⟨m1,m2,m3⟩:=hb H0 X.s₀ X.H₀ [] [];have hjn:=zdh S.nd hj;have pn:=jo (pos:=pos) tn fn js hcalm S hj hi hb hs;refine PS.imp (zbl hN hix hx (wi:=ZT X.K H0 ti) (g:=fun v σ H Q=>∃ H0,Zp X.K H0 g v σ H Q) (tt:=fun σ H Q=>∃ H0,Jd X.K H0 tt σ H Q) (te:=fun σ H Q=>∃ H0,jD X.K H0 te σ H Q) tn fn js hcalm S hj hi.ok (zc4 hb) hs hsw hf) fun B σ H=>el7 fun G0 A ρ G F q L=>?_
 refine zcG hjn hi m1 m2 m3 σ H _ ⟨G0,ρ,G,F,pn.mono ρ _ _ (fun f ds q l vs G' H' g hl r=>?_) q⟩
 refine L.nx _ _ (upd G' l (.lst vs)) _ ((F.gr (g.trans (Gr.put g.sub hl))).set ?_) q
 exact⟨.lst (SqL.of zf) (rdvs_same (zG (g.sub.free hl) _) r.rd),fun hf=>.lst zf ((F.keep.trans g.h).free hl) (rdns_mono (zG (g.sub.free hl) _) (fun _ _ _ z=>z) (r.nw hf))⟩
end
def jK(N:List Str)(ds:List D):Env3:=ds.map (fun d=>some (.sh (zw d) d))++List.replicate (N.length - ds.length) none
theorem zev{K:Ybf}{G H:Hp}{N:List Str}{vs:List V}{ds:List D}(s:Sub G H)(r:RdVs K G vs ds):Fr3 K H G (jK N ds) (start N vs) G H:=by
 have at3:∀ (i:Nat) c,(jK N ds)[i]?=some (some c)->∃ d,ds[i]?=some d/\c=.sh (zw d) d:=fun i c e=>by
  unfold jK at e
  by_cases hi:i<ds.length
  . rw [Yab (by simpa using hi),Ya0] at e
    cases q:ds[i]? with
    | none=>rw [q] at e;cases e
    | some d=>rw [q] at e;cases e;exact⟨d,rfl,rfl⟩
  . rw [Yae (by simpa using hi),Yad] at e
    split at e<;>cases e
 refine⟨zh.refl _,s,fun b o e=>.inl e,Same.refl _,fun i c e=>?_,fun i c v a e _ h=>?_,fun i j c c' v v' a e _ _ _ h _=>?_,?_⟩
 . obtain⟨d,hd,rfl⟩:=at3 i c e
   obtain⟨x,hx,rx⟩:=r.get hd;refine⟨x,?_,.sh ⟨rx,fun h=>zaX h rx⟩⟩
   unfold L2.start;have hi:i<vs.length:=(Ya8.mp hx).1;rw [Yab (by simpa using hi),Ya0,hx];rfl
 . obtain⟨d,hd,z⟩:=at3 i _ e;subst z;exact False.elim h
 . obtain⟨d,hd,z⟩:=at3 i _ e;subst z;exact False.elim h
 . unfold jK L2.start;simp [r.length]
theorem fn3{P:Program}{w:World}{K:Ybf}{mg:#[15]}{base:Heap}{x qual:Str}{st:Stmt}{f:Addr}{fd:FuncData}{N ps:List Str}{k:Nat}{sp:Sp3}(F:Fun K x qual st f fd)(S:FnScope N ps (zg st))(len:∀ ds Q E,sp ds Q E->ds.length=ps.length)
 (hbody:∀ (cdv:Value) (A:Around) (outer:List Env) (s:Shared) (H:Hp) (E:XK) (E3:Addr->Prop),(∀ C H',E3 C->zh H H'->E (.ref C) none H')->Room k (A.deeper (envOfC qual (zg st) s.heap.objs.size f cdv))->
  ∃ t,PSs3 (cxOf (CXR P w) P w K mg base N qual (zg st) f cdv A outer s H E) H (jM st) t/\∀ ds Q,sp ds Q E3->t { nx:=fun _=>Q true .none,rt:=Q } (jK N ds)):FnOk P w K mg base (CXR P w) (k+1) f fd ps (spL K sp):=by
 refine F.okR S (fun vs H Q E h=>?_) (fun cdv A outer s H vs Q E hr h=>?_)
 . obtain⟨G,ds,_,r,h⟩:=h
   rw [r.length];exact len _ _ _ h
 . obtain⟨G,ds,sG,r,h⟩:=h
   obtain⟨t,ht,hq⟩:=hbody cdv A outer s H E (fun C=>∀ H',zh H H'->E (.ref C) none H') (fun C H' e z=>e H' z) hr
   refine⟨_,ht,G,_,jK N ds,G,zev sG r,hq ds _ h,⟨fun ρ σ G' H' F' q=>q .non G' H' F'.gr0 (.sc rfl .non),fun f d v G' H' g rd q=>q v G' H' g rd,fun _ _ _ _ _ q=>q.elim,fun _ _ _ _ _ q=>q.elim,fun _ _ _ _ _ _ _ _ _ q=>q.elim⟩⟩
def zah(C:Addr)(E:Addr->Prop)(t:TA3):TS3:=fun _ ρ=>t ρ fun cs=>cs.length<=sizeLine/\E C
theorem ze3{K:Ybf}{H0 G H:Hp}{vs:List V}{cs:List Cl}(h:Vws K H0 G H vs cs):vs.length=cs.length:=by
 induction h with
 | nil=>rfl
 | cons _ _ ih=>rw [List.length_cons,List.length_cons,ih]
theorem ju{X:Cx}{H0:Hp}{x:Str}{C:Addr}{e0:Expr}{t:TA3}{E:XK}{E3:Addr->Prop}{np cpos pos:Pos}(hE:∀ C H',E3 C->zh H0 H'->E (.ref C) none H')(hf:Flies X E)(hc:X.calm=true)(hg:Gl X x)(hm:X.mg x=some (.ref C))(hx:PySem.W.excIn X.K C bmVE "ValueError.__new__" = true)(ha:PA3 X H0 [e0] t)
 (hdb:#[23]:=by decide) (hs:starEach [e0] X.env=[(false,eval e0 X.env)]:=by rfl):PS3 X H0 (.Raise (some (.Call (.Name x np) [e0] [] cpos)) none pos) (zah C E3 t):=
 PS.imp (zlV hf hc hg hm hx ha.ok hdb hs) fun B σ H=>el7 fun G0 A ρ G F q L=>⟨G0,ρ,G,F,ha.mono ρ _ _ (fun cs ⟨z,e⟩ vs G' H' g w=>⟨by rw [ze3 w];exact z,hE C H' e (F.gr g).keep⟩) q⟩
variable[LamW]
theorem JO{K:Ybf}{G:Hp}{v:V}{i:Str}(r:RdV K G v (.str i)):v=.str i:=by cases r;rfl
theorem zho{K:Ybf}{G:Hp}{v:V}(r:RdV K G v .none):v=.non:=by cases r;rfl
section
variable{X:Cx}
def add3:R3:=fun a b Q=>match a,b with
 | .sh _ (.int i),.sh _ (.int j)=>Q true (.int (i+j))
 | .sh _ (.str x),.sh _ (.str y)=>x.length+y.length<=sizeLine/\Q true (.str (x++y))
 | _,_=>False
def int3(C:Int->Int->Prop)(g:Int->Int->D):R3:=fun a b Q=>match a,b with
 | .sh _ (.int i),.sh _ (.int j)=>C i j/\Q true (g i j)
 | _,_=>False
def int0(g:Int->Int->D):R3:=fun a b Q=>match a,b with
 | .sh _ (.int i),.sh _ (.int j)=>Q true (g i j)
 | _,_=>False
theorem zC:OpOk X (binaryOp .Add) add3:=by
 refine⟨fun a b Q Q' h q=>?_,fun H0=>OpR.imp (zcY.or zhe) fun x y H Q=>el3 fun G a b s wa wb q=>?_⟩
 . unfold add3 at *;split at q
   . exact h _ _ q
   . exact⟨q.1,h _ _ q.2⟩
   . exact q
 . unfold add3 at q;split at q
   . cases zz (zm wa).rd;cases zz (zm wb).rd
     exact .inl ⟨_,_,rfl,rfl,q _ G H (Gr.refl s) (.sc rfl (.int _))⟩
   . cases JO (zm wa).rd;cases JO (zm wb).rd
     exact .inr ⟨_,_,rfl,rfl,q.1,q.2 _ G H (Gr.refl s) (.sc rfl (.str _))⟩
   . exact q.elim
theorem opI3{f:Value->Value->Sem Value}{C:Int->Int->Prop}{g:Int->Int->Int}(h:OpR X f (rI C fun i j=>.int (g i j))):OpOk X f (int3 C fun i j=>.int (g i j)):=by
 refine⟨fun a b Q Q' h q=>?_,fun H0=>OpR.imp h fun x y H Q=>el3 fun G a b s wa wb q=>?_⟩
 . unfold int3 at *;split at q
   . exact⟨q.1,h _ _ q.2⟩
   . exact q
 . unfold int3 at q;split at q
   . cases zz (zm wa).rd;cases zz (zm wb).rd
     exact⟨_,_,rfl,rfl,q.1,q.2 _ G H (Gr.refl s) (.sc rfl (.int _))⟩
   . exact q.elim
theorem zjI{f:Value->Value->Sem Value}{g:Int->Int->Int}(h:OpR X f (rI0 fun i j=>.int (g i j))):OpOk X f (int0 fun i j=>.int (g i j)):=by
 refine⟨fun a b Q Q' h q=>?_,fun H0=>OpR.imp h fun x y H Q=>el3 fun G a b s wa wb q=>?_⟩
 . unfold int0 at *;split at q
   . exact h _ _ q
   . exact q
 . unfold int0 at q;split at q
   . cases zz (zm wa).rd;cases zz (zm wb).rd
     exact⟨_,_,rfl,rfl,q _ G H (Gr.refl s) (.sc rfl (.int _))⟩
   . exact q.elim
theorem zbB{f:Value->Value->Sem Value}{g:Int->Int->Bool}(h:OpR X f (rI0 fun i j=>.bl (g i j))):OpOk X f (int0 fun i j=>.bool (g i j)):=by
 refine⟨fun a b Q Q' h q=>?_,fun H0=>OpR.imp h fun x y H Q=>el3 fun G a b s wa wb q=>?_⟩
 . unfold int0 at *;split at q
   . exact h _ _ q
   . exact q
 . unfold int0 at q;split at q
   . cases zz (zm wa).rd;cases zz (zm wb).rd
     exact⟨_,_,rfl,rfl,q _ G H (Gr.refl s) (.sc rfl (.bl _))⟩
   . exact q.elim
theorem jC:OpOk X (binaryOp .Sub) (int0 fun i j=>.int (i - j)):=zjI zaC
theorem jn:OpOk X (binaryOp .Mult) (int3 IntMulOk fun i j=>.int (i*j)):=opI3 zkh
theorem zt:OpOk X (binaryOp .FloorDiv) (int3 jX fun i j=>.int (i/j)):=opI3 zg8
theorem zp:OpOk X (binaryOp .Mod) (int3 (fun _ j=>0<j) fun i j=>.int (i%j)):=opI3 zgE
theorem jF:OpOk X (binaryOp .Pow) (int3 JH fun i j=>.int (i ^ j.toNat)):=opI3 zhP
theorem Jb:OpOk X (compareOp .Lt) (int0 fun i j=>.bool (decide (i<j))):=zbB zeo
theorem Jp:OpOk X (compareOp .LtE) (int0 fun i j=>.bool (decide (i<=j))):=zbB zgc
theorem Z9:OpOk X (compareOp .Gt) (int0 fun i j=>.bool (decide (j<i))):=zbB zkq
theorem zfG:OpOk X (compareOp .GtE) (int0 fun i j=>.bool (decide (j<=i))):=zbB zj3
def neg3:U3:=fun a Q=>match a with
 | .sh _ (.int i)=>Q true (.int (-i))
 | _=>False
theorem UnR.imp{f:Value->Sem Value}{r r':V->Hp->VK->Prop}(h:UnR X f r)(i:∀ x H Q,r' x H Q->r x H Q):UnR X f r':=fun pins s σ H x v Q I rx q=>h pins s σ H x v Q I rx (i _ _ _ q)
theorem Jh:UnOk X (unaryOp .USub) neg3:=by
 refine⟨fun a Q Q' h q=>?_,fun H0=>UnR.imp zjf fun x H Q ⟨G,a,s,wa,q⟩=>?_⟩
 . unfold neg3 at *;split at q
   . exact h _ _ q
   . exact q
 . unfold neg3 at q;split at q
   . cases zz (zm wa).rd
     exact⟨_,rfl,q _ G H (Gr.refl s) (.sc rfl (.int _))⟩
   . exact q.elim
def eqOk:D->D->Prop
 | .str _,.str _=>True
 | .int _,.int _=>True
 | d,e=>SeqAt.shaped d=true/\SeqAt.shaped e=true
def eqv3:D->D->Bool
 | .str x,.str y=>decide (x=y)
 | .int x,.int y=>decide (x=y)
 | d,e=>PyData.eqv d e
def eq3:R3:=fun a b Q=>a.dat=true/\b.dat=true/\eqOk a.d b.d/\Q true (.bool (eqv3 a.d b.d))
def ne3:R3:=fun a b Q=>a.dat=true/\b.dat=true/\eqOk a.d b.d/\Q true (.bool (!eqv3 a.d b.d))
theorem zfR{d e:D}:(∃ x y,d=.str x/\e=.str y/\eqv3 d e=decide (V.str x=V.str y))\/(∃ x y,d=.int x/\e=.int y/\eqv3 d e=decide (V.int x=V.int y))\/(eqv3 d e=PyData.eqv d e/\(eqOk d e->SeqAt.shaped d=true/\SeqAt.shaped e=true)):=by
 cases d<;>cases e<;>first
  | exact .inr (.inr ⟨rfl,fun h=>h⟩)
  | exact .inl ⟨_,_,rfl,rfl,by simp [eqv3]⟩
  | exact .inr (.inl ⟨_,_,rfl,rfl,by simp [eqv3]⟩)
theorem zO(hu:X.A.units+64<cLine):OpOk X (compareOp .Eq) eq3:=by
 refine⟨fun a b Q Q' h ⟨x,y,z,q⟩=>⟨x,y,z,h _ _ q⟩,fun H0=>OpR.imp (zdL.or (zlc hu)) fun x y H Q ⟨G,a,b,s,wa,wb,ha,hb,ho,q⟩=>?_⟩
 have ra:=wa.rd s ha;have rb:=wb.rd s hb
 rcases zfR (d:=a.d) (e:=b.d) with ⟨i,j,e1,e2,e3⟩|⟨i,j,e1,e2,e3⟩|⟨e3,hs⟩
 . rw [e1] at ra;rw [e2] at rb
   cases JO ra;cases JO rb
   exact .inl ⟨rfl,by rw [<-e3];exact q _ G H (Gr.refl s) (.sc rfl (.bl _))⟩
 . rw [e1] at ra;rw [e2] at rb
   cases zz ra;cases zz rb
   exact .inl ⟨rfl,by rw [<-e3];exact q _ G H (Gr.refl s) (.sc rfl (.bl _))⟩
 . exact .inr ⟨_,_,ra,rb,(hs ho).1,(hs ho).2,by rw [<-e3];exact q _ G H (Gr.refl s) (.sc rfl (.bl _))⟩
theorem JK(hu:X.A.units+64<cLine):OpOk X (compareOp .NotEq) ne3:=by
 refine⟨fun a b Q Q' h ⟨x,y,z,q⟩=>⟨x,y,z,h _ _ q⟩,fun H0=>OpR.imp (zeL.or (zkm hu)) fun x y H Q ⟨G,a,b,s,wa,wb,ha,hb,ho,q⟩=>?_⟩
 have ra:=wa.rd s ha;have rb:=wb.rd s hb
 rcases zfR (d:=a.d) (e:=b.d) with ⟨i,j,e1,e2,e3⟩|⟨i,j,e1,e2,e3⟩|⟨e3,hs⟩
 . rw [e1] at ra;rw [e2] at rb
   cases JO ra;cases JO rb
   exact .inl ⟨rfl,by rw [<-e3];exact q _ G H (Gr.refl s) (.sc rfl (.bl _))⟩
 . rw [e1] at ra;rw [e2] at rb
   cases zz ra;cases zz rb
   exact .inl ⟨rfl,by rw [<-e3];exact q _ G H (Gr.refl s) (.sc rfl (.bl _))⟩
 . exact .inr ⟨_,_,ra,rb,(hs ho).1,(hs ho).2,by rw [<-e3];exact q _ G H (Gr.refl s) (.sc rfl (.bl _))⟩
def isNone:Cl->Bool
 | .sh _ .none=>true
 | _=>false
theorem zi9{K:Ybf}{H0 G H:Hp}{v:V}{c:Cl}(w:Vw K H0 G H v c):decide (v=.non)=isNone c:=by
 cases w with
 | sh r=>cases r.rd<;>simp [isNone]
 | ow _ _ _=>simp [isNone]
 | tr _=>simp [isNone]
 | dt _ _ _=>simp [isNone]
 | dk _ _=>simp [isNone]
 | fd _ _ _=>simp [isNone]
 | tk _=>simp [isNone]
 | dm _ _=>simp [isNone]
 | ex _=>simp [isNone]
def notN3:R3:=fun a b Q=>b=.sh true .none/\Q true (.bool (!isNone a))
theorem zbP:OpOk X (compareOp .IsNot) notN3:=⟨fun a b Q Q' h ⟨e,q⟩=>⟨e,h _ _ q⟩,fun H0=>OpR.imp zhD fun x y H Q hyp=>by
 obtain⟨G,a,b,s,wa,wb,e,q⟩:=hyp;subst e;exact⟨zho (zm wb).rd,by rw [zi9 wa];exact q _ G H (Gr.refl s) (.sc rfl (.bl _))⟩⟩
def ixD:D->Int->Option D
 | .list ds,i=>atI ds i
 | .tuple ds,i=>atI ds i
 | .str z,i=>if z.length<=sizeLine then(atI z.cps.toList i).map fun c=>.str ⟨#[c]⟩ else none
 | _,_=>none
def ix3:R3:=fun a b Q=>match b with
 | .sh _ (.int i)=>a.dat=true/\∃ d,ixD a.d i=some d/\Q (a.f||zw d) d
 | _=>False
theorem ZU{K:Ybf}{H0 G:Hp}{f:Bool}{vs:List V}{ds:List D}{i:Int}{d:D}(r:Rfs K H0 G f vs ds)(h:atI ds i=some d):∃ v,atI vs i=some v/\Rf K H0 G f v d:=by
 unfold atI at *;rw [r.length];cases e:ixN ds.length i with
 | none=>rw [e] at h;cases h
 | some j=>
  rw [e] at h;obtain⟨x,hx,rx⟩:=r.get (i:=j) (show ds[j]?=some d from h)
  exact⟨x,hx,rx⟩
theorem IxR.imp{r r':R2}(h:IxR X r)(i:∀ x y H Q,r' x y H Q->r x y H Q):IxR X r':=fun e f pins s σ H x y v u Q I rx ry q z=>h e f pins s σ H x y v u Q I rx ry (i _ _ _ _ q) z
theorem zlP(H0:Hp):IxR X (zaV X.K H0 ix3):=IxR.imp zhr fun x y H Q=>el3 fun G a b s wa wb q=>by
 unfold ix3 at q;split at q
 . obtain⟨ha,d,hd,q⟩:=q
   rename_i i;cases zz (zm wb).rd;cases wa with
   | @sh v0 f d0 r=>
    cases d0 with
    | list ds=>
     obtain⟨a,xs,rfl,hq,rs⟩:=JN r;obtain⟨v,hv,rv⟩:=ZU rs (show atI ds i=some d from hd)
     exact .inl ⟨_,_,_,v,rfl,rfl,s.seq hq,hv,q v G H (Gr.refl s) rv.or⟩
    | tuple ds=>
     obtain⟨a,xs,rfl,hq,rs⟩:=za8 r;obtain⟨v,hv,rv⟩:=ZU rs (show atI ds i=some d from hd)
     exact .inr (.inl ⟨_,_,_,v,rfl,rfl,s.tup hq,hv,q v G H (Gr.refl s) rv.or⟩)
    | str z=>
     cases JO r.rd
     have hd':(if z.length<=sizeLine then(atI z.cps.toList i).map fun c=>PyData.str ⟨#[c]⟩ else none)=some d:=hd
     split at hd'
     . rename_i hz
       cases e:atI z.cps.toList i with
       | none=>rw [e] at hd';cases hd'
       | some c=>
        rw [e] at hd';cases hd';exact .inr (.inr ⟨z,i,c,rfl,rfl,hz,e,q _ G H (Gr.refl s) (.sc rfl (.str _))⟩)
     . cases hd'
    | _=>cases hd
   | ow h rs n=>
    obtain⟨v,hv,rv⟩:=ZU rs (show atI _ i=some d from hd)
    exact .inl ⟨_,_,_,v,rfl,rfl,SqL.of h,hv,q v G H (Gr.refl s) rv.or⟩
   | tr h=>cases ha
   | dt _ _ _=>cases ha
   | dk _ _=>cases ha
   | fd _ _ _=>cases ha
   | tk h=>
    obtain⟨v,hv,rv⟩:=ZU (⟨zas _,fun _=>zbJ _⟩:Rfs _ _ _ true _ _) (show atI _ i=some d from hd)
    exact .inr (.inl ⟨_,_,_,v,rfl,rfl,s.tup (SqT.of h),hv,q v G H (Gr.refl s) rv.or⟩)
   | dm _ _=>cases ha
   | ex h=>cases ha
 . exact q.elim
theorem zeg:∀ a b (Q Q':Bool->D->Prop),(∀ f c,Q f c->Q' f c)->ix3 a b Q->ix3 a b Q':=fun a b Q Q' h q=>by
 unfold ix3 at *;split at q
 . obtain⟨x,d,e,q⟩:=q;exact⟨x,d,e,h _ _ q⟩
 . exact q
theorem at3{H0:Hp}{a b:Expr}{pos:Pos}{ta tb:TE3}(ha:PE3 X H0 a ta)(hb:PE3 X H0 b tb)(hs:Zs b):PE3 X H0 (.Subscript a b pos) (o3 ix3 ta tb):=
 ⟨Z4 zeg ha.mono hb.mono,PE.imp (jI (zlP H0) ha.ok hb.ok hs) (zbe zeg ha.mono hb.mono)⟩
abbrev TO3:=Env3->(Option Int->Prop)->Prop
def zif(K:Ybf)(H0:Hp)(t:TO3):TO:=fun σ H Q=>∃ G0 ρ G,Fr3 K H0 G0 ρ σ G H/\t ρ fun o=>∀ G' H',Gr G H G' H'->Q o H'
structure PO3(X:Cx)(H0:Hp)(e:Option Expr)(t:TO3):Prop where
 mono:∀ ρ (Q Q':Option Int->Prop),(∀ c,Q c->Q' c)->t ρ Q->t ρ Q'
 ok:PO X e (zif X.K H0 t)
theorem PO.imp{e:Option Expr}{t t':TO}(h:PO X e t)(i:∀ σ H Q,t' σ H Q->t σ H Q):PO X e t':=fun pins s σ H Q I q=>h pins s σ H Q I (i _ _ _ q)
def no3:TO3:=fun _ Q=>Q none
def ZC(t:TE3):TO3:=fun ρ Q=>t ρ fun c=>∃ i,c=.sh true (.int i)/\Q (some i)
variable{H0:Hp}{pos p2:Pos}
theorem zX:PO3 X H0 none no3:=⟨fun ρ Q Q' h q=>h _ q,PO.imp ziT fun σ H Q=>el5 fun G0 ρ G F q=>q G H (Gr.refl F.sub)⟩
theorem zW{e:Expr}{t:TE3}(h:PE3 X H0 e t):PO3 X H0 (some e) (ZC t):=⟨fun ρ Q Q' hq q=>h.mono ρ _ _ (fun c ⟨i,e,q⟩=>⟨i,e,hq _ q⟩) q,PO.imp (zjk h.ok) fun σ H Q=>el5 fun G0 ρ G F q=>⟨G0,ρ,G,F,h.mono ρ _ _ (fun c hyp v G' H' g w=>by
 obtain⟨i,e,q⟩:=hyp;subst e;exact⟨i,zz (zm w).rd,q G' H' g⟩) q⟩⟩
def cut{α : Type}(xs:List α)(lo hi:Option Int):List α:=(xs.drop (HT.sIx xs.length 0 lo)).take (HT.sIx xs.length xs.length hi - HT.sIx xs.length 0 lo)
def slL3(te:TE3)(tl th:TO3):TN3:=fun ρ Q=>te ρ fun c=>tl ρ fun l=>th ρ fun u=>match c with
 | .sh f (.list ds)=>Q (f||ds.all zw) (cut ds l u)
 | .ow f ds=>Q (f||ds.all zw) (cut ds l u)
 | _=>False
theorem zfD{K:Ybf}{H0 G:Hp}{f:Bool}{vs:List V}{ds:List D}(r:Rfs K H0 G f vs ds)(lo hi:Option Int):Rfs K H0 G f (cutV vs lo hi) (cut ds lo hi):=by
 unfold cutV cut;rw [r.length];exact(r.drop _).take _
theorem zV{e:Expr}{lo hi:Option Expr}{te:TE3}{tl th:TO3}(he:PE3 X H0 e te)(hl:PO3 X H0 lo tl)(hh:PO3 X H0 hi th):PN3 X H0 (.Subscript e (.Slice lo hi none p2) pos) (slL3 te tl th):=by
 refine⟨fun ρ Q Q' h q=>he.mono ρ _ _ (fun c=>hl.mono ρ _ _ fun l=>hh.mono ρ _ _ fun u q=>?_) q,PE.imp (zhS zir he.ok hl.ok hh.ok) fun σ H Q=>el5 fun G0 ρ G F q=>?_⟩
 . split at q
   . exact h _ _ q
   . exact h _ _ q
   . exact q
 . refine⟨G0,ρ,G,F,he.mono ρ _ _ (fun c qc v G1 H1 g1 w1=>⟨G0,ρ,G1,F.gr g1,hl.mono ρ _ _ (fun l ql G2 H2 g2=>⟨G0,ρ,G2,F.gr (g1.trans g2),hh.mono ρ _ _ (fun u qu G3 H3 g3=>?_) ql⟩) qc⟩) q⟩
   have w3:=(w1.gr g2).gr g3;have gg:=(g1.trans g2).trans g3
   split at qu
   . obtain⟨a,xs,rfl,hq,rs⟩:=JN (zm w3)
     exact⟨a,xs,rfl,g3.sub.seq hq,fun p hp=>qu p _ G3 H3 gg hp (zfD rs.or _ _)⟩
   . cases w3 with
     | ow h rs n=>exact⟨_,_,rfl,SqL.of h,fun p hp=>qu p _ G3 H3 gg hp (zfD rs.or _ _)⟩
   . exact qu.elim
def lenD:D->Option Nat
 | .list ds=>some ds.length
 | .tuple ds=>some ds.length
 | .str z=>if z.length<=sizeLine then some z.length else none
 | _=>none
def len3:C3:=fun cs Q=>match cs with
 | [c]=>c.dat=true/\∃ n,lenD c.d=some n/\Q true (.int n)
 | _=>False
theorem zI:CallOk X (.builtin "len") len3:=by
 refine⟨fun cs Q Q' h q=>?_,fun H0=>zQ.imp (zQ.or ZH zkw) fun xs H Q=>el2 fun G cs s w q=>?_⟩
 . unfold len3 at *;split at q
   . obtain⟨a,n,e,q⟩:=q;exact⟨a,n,e,h _ _ q⟩
   . exact q
 . unfold len3 at q;split at q
   . obtain⟨v,rfl,w1⟩:=vws1 w
     obtain⟨ha,n,hn,q⟩:=q;have r:=w1.rd s ha;generalize e:Cl.d _=d at r hn;cases r with
     | lst hq rs=>cases hn;exact .inl ⟨_,_,rfl,.inl hq,by rw [rs.length];exact q _ G H (Gr.refl s) (.sc rfl (.int _))⟩
     | tup hq rs=>cases hn;exact .inl ⟨_,_,rfl,.inr hq,by rw [rs.length];exact q _ G H (Gr.refl s) (.sc rfl (.int _))⟩
     | str z=>
      have hn':(if z.length<=sizeLine then some z.length else none)=some n:=hn
      split at hn'
      . rename_i hz;cases hn';exact .inr ⟨z,rfl,hz,q _ G H (Gr.refl s) (.sc rfl (.int _))⟩
      . cases hn'
     | _=>cases hn
   . exact q.elim
def abs3:C3:=fun cs Q=>match cs with
 | [.sh _ (.int i)]=>Q true (.int (if i<0 then -i else i))
 | _=>False
theorem zcB:CallOk X (.builtin "abs") abs3:=by
 refine⟨fun cs Q Q' h q=>?_,fun H0=>zQ.imp zi1 fun xs H Q=>el2 fun G cs s w q=>?_⟩
 . unfold abs3 at *;split at q
   . exact h _ _ q
   . exact q
 . unfold abs3 at q;split at q
   . obtain⟨v,rfl,w1⟩:=vws1 w
     cases zz (zm w1).rd
     exact⟨_,rfl,q _ G H (Gr.refl s) (.sc rfl (.int _))⟩
   . exact q.elim
def max23:C3:=fun cs Q=>match cs with
 | [.sh _ (.int i),.sh _ (.int j)]=>Q true (.int (if j > i then j else i))
 | _=>False
theorem zdV(hc:X.calm=true):CallOk X (.builtin "max") max23:=by
 refine⟨fun cs Q Q' h q=>?_,fun H0=>zQ.imp (ziR hc) fun xs H Q=>el2 fun G cs s w q=>?_⟩
 . unfold max23 at *;split at q
   . exact h _ _ q
   . exact q
 . unfold max23 at q;split at q
   . obtain⟨v,u,rfl,w1,w2⟩:=vws2 w
     cases zz (zm w1).rd;cases zz (zm w2).rd
     exact⟨_,_,rfl,q _ G H (Gr.refl s) (.sc rfl (.int _))⟩
   . exact q.elim
def min23:C3:=fun cs Q=>match cs with
 | [.sh _ (.int i),.sh _ (.int j)]=>Q true (.int (if j<i then j else i))
 | _=>False
theorem zhE(hc:X.calm=true):CallOk X (.builtin "min") min23:=by
 refine⟨fun cs Q Q' h q=>?_,fun H0=>zQ.imp (zlJ hc) fun xs H Q=>el2 fun G cs s w q=>?_⟩
 . unfold min23 at *;split at q
   . exact h _ _ q
   . exact q
 . unfold min23 at q;split at q
   . obtain⟨v,u,rfl,w1,w2⟩:=vws2 w
     cases zz (zm w1).rd;cases zz (zm w2).rd
     exact⟨_,_,rfl,q _ G H (Gr.refl s) (.sc rfl (.int _))⟩
   . exact q.elim
end
end L3
namespace L2
open PySem PySem.Spec PyProof.Rows
def Itz(K:Ybf)(a b:Addr):It:=
 ⟨fun i H=>∃ xs ys x y,SqL K H a xs/\SqL K H b ys/\xs[i]?=some x/\ys[i]?=some y,
  fun i H v H'=>∃ p x y,H p=none/\v=.ref p/\H'=upd H p (.tup [x,y])/\∀ xs ys,SqL K H a xs->SqL K H b ys->xs[i]?=some x/\ys[i]?=some y,
  fun i H=>∃ xs ys,SqL K H a xs/\SqL K H b ys/\i=min xs.length ys.length⟩
theorem zi5{P:Program}{w:World}{K:Ybf}{elts:List Expr}{k:Nat}{pos:Pos}{z TI TO i1 i2 l1 l2:Addr}(D:ZipApart z TI TO i1 i2 l1 l2) :
 Turn P w K (.Tuple elts k pos) (Itz K l1 l2) [z,TI,TO,i1,i2] z (fun i h=>IsZip h z TI TO .none/\IsPair h TI (.ref i1) (.ref i2)/\(∃ a b,IsPair h TO a b)/\h.IsListIter i1 l1 i/\h.IsListIter i2 l2 i) where
 mem:=by simp
 obj:=fun i h hyp c hc=>by
  obtain⟨hz,hTI,⟨a,b,hTO⟩,⟨o1,e1,c1,d1⟩,⟨o2,e2,c2,d2⟩⟩:=hyp;have hc':c=z\/c=TI\/c=TO\/c=i1\/c=i2:=by simpa using hc
  rcases hc' with rfl|rfl|rfl|rfl|rfl
  . exact⟨_,hz,fun v z=>by cases(show Data.fields _=Data.cell v from z)⟩
  . exact⟨_,hTI,fun v z=>by cases(show Data.seq _ _=Data.cell v from z)⟩
  . exact⟨_,hTO,fun v z=>by cases(show Data.seq _ _=Data.cell v from z)⟩
  . exact⟨o1,e1,fun v z=>by rw [d1] at z;cases z⟩
  . exact⟨o2,e2,fun v z=>by rw [d2] at z;cases z⟩
 keep:=fun i h h' ⟨hz,hTI,⟨a,b,hTO⟩,h1,h2⟩ kk=>
  ⟨kk z (by simp) _ hz,kk TI (by simp) _ hTI,⟨a,b,kk TO (by simp) _ hTO⟩,h1.at fun o e=>kk i1 (by simp) o e,h2.at fun o e=>kk i2 (by simp) o e⟩
 item:=by
  intro X hP hw hK hc i pins s σ H E I hf st hg;subst hP hw hK;obtain⟨xs,ys,x,y,q1,q2,hx,hy⟩:=hg;obtain⟨its1,r1,p1,_⟩:=I.list q1;obtain⟨its2,r2,p2,_⟩:=I.list q2;obtain⟨u,hu,ru⟩:=r1.get hx;obtain⟨v,hv,rv⟩:=r2.get hy;have W:=WalksT.zip2 (prog:=X.prog) (w:=X.w) (I.ok.hd hc) z TI TO i1 i2 l1 l2 D its1.toArray its2.toArray;have hi:i<min its1.toArray.size its2.toArray.size:=by
   have a1:=(Ya8.mp hu).1;have a2:=(Ya8.mp hv).1;simp only [YaZ];omega
  obtain⟨hz,hTI,hTO,h1,h2⟩:=st;have olt:∀ b∈[z,TI,TO,i1,i2],b<s.heap.objs.size:=fun b hb=>by
   obtain⟨a,b',hTO'⟩:=hTO;have hc':b=z\/b=TI\/b=TO\/b=i1\/b=i2:=by simpa using hb
   rcases hc' with rfl|rfl|rfl|rfl|rfl
   . exact YaX hz
   . exact YaX hTI
   . exact YaX hTO'
   . obtain⟨_,e,_⟩:=h1;exact YaX e
   . obtain⟨_,e,_⟩:=h2;exact YaX e
  refine W.item i s _ _ hi ⟨hz,hTI,hTO,h1,h2,p1.isList,p2.isList⟩ fun T vals h1' tk hv' hT hTup mid kp=>?_
  obtain⟨u',v',hu',hv'',e⟩:=hv';subst e;have eu:u'=u:=by
   have:its1[i]?=some u':=by simpa using hu'
   rw [hu] at this;cases this;rfl
  have ev:v'=v:=by
   have:its2[i]?=some v':=by simpa using hv''
   rw [hv] at this;cases this;rfl
  subst eu ev;refine⟨_,rfl,W.go elts k pos i T _ _ _ mid fun h2' st2 kp2=>?_⟩
  have sub:∀ b∈[z,TO,i1,i2],b∈[z,TI,TO,i1,i2]:=fun b hb=>by
   have hc':b=z\/b=TO\/b=i1\/b=i2:=by simpa using hb
   rcases hc' with rfl|rfl|rfl|rfl<;>simp
  have I1:Inv X pins σ H { s with heap:=h2',toks:=tk }:=I.turnedL (ch:=[z,TO,i1,i2]) (fun b o hb e=>kp2 b o hb (kp b o hb e)) fun b hb=>hf b (sub b hb)
  have hTn:H T=none:=I.hok.fresh hT;obtain⟨o,ho,oc,on,od⟩:=hTup;have ho2:=kp2 T o (W.apart i T _ mid) ho;have I2:Inv X pins σ (upd H T (.tup [x,y])) { s with heap:=h2',toks:=tk }:=I1.track hTn (Ya5 I.sz hT) (Wa3 (YaU I.lt hT)) (fun n c e z=>by
   obtain⟨vv,q⟩:=I.cell n c e;exact absurd (YaU q.lt (by rw [z];exact hT)) (Yap _)) (fun p hp z=>absurd (YaU (YaX (I.pin p hp).1) (by rw [z];exact hT)) (Yap _))
   ⟨by show 2<=sizeLine;decide,[u',v'],.cons ru (.cons rv .nil),o,ho2,oc,on,od⟩
  refine⟨.ref T,_,I2,rfl,⟨T,x,y,hTn,rfl,rfl,fun xs' ys' z1 z2=>?_⟩,⟨st2.1,st2.2.1,st2.2.2.1,st2.2.2.2.1,st2.2.2.2.2.1⟩,fun b hb=>?_⟩
  . rw [I.list_inj z1 q1,I.list_inj z2 q2];exact⟨hx,hy⟩
  . rw [zd (Yaf (YaU (olt b hb) hT))];exact(hf b hb).1
 done:=by
  intro X hP hw hK hc i pins s σ H E I hf st hg;subst hP hw hK;obtain⟨xs,ys,q1,q2,hi⟩:=hg;obtain⟨its1,r1,p1,_⟩:=I.list q1;obtain⟨its2,r2,p2,_⟩:=I.list q2;have W:=WalksT.zip2 (prog:=X.prog) (w:=X.w) (I.ok.hd hc) z TI TO i1 i2 l1 l2 D its1.toArray its2.toArray;obtain⟨hz,hTI,hTO,h1,h2⟩:=st;have ei:i=min its1.toArray.size its2.toArray.size:=by simp only [YaZ];rw [<-r1.length,<-r2.length];exact hi
  subst ei;refine W.done s _ _ ⟨hz,hTI,hTO,h1,h2,p1.isList,p2.isList⟩ fun h' tk kp=>⟨rfl,?_⟩
  exact I.turnedL (ch:=[z,TO,i1,i2]) kp fun b hb=>hf b (by
   have hc':b=z\/b=TO\/b=i1\/b=i2:=by simpa using hb
   rcases hc' with rfl|rfl|rfl|rfl<;>simp)
 self:=fun _ _ _ _ _ st h=>wpAny_pyIter_zip st.1 h
def iZip(K:Ybf)(ta:TA):TI:=fun σ H R=>ta σ H fun vs H1=>∃ a b,vs=[.ref a,.ref b]/\(∃ xs,SqL K H1 a xs)/\(∃ ys,SqL K H1 b ys)/\R (Itz K a b) H1
theorem zcF{X:Cx}{elts:List Expr}{k:Nat}{tpos:Pos}{a b:Expr}{ta:TA}{p pos:Pos}(hg:Gl X "zip")(hm:X.mg "zip" = none)(ha:PA X [a,b] ta)(hs:starEach [a,b] X.env=[(false,eval a X.env),(false,eval b X.env)]:=by rfl)
 (hs2:starEach [b] X.env=[(false,eval b X.env)]:=by rfl):PI X (.Tuple elts k tpos) (.Call (.Name "zip" p) [a,b] [] pos) (iZip X.K ta):=by
 intro pins s σ H R I h;refine Call_ (JA I hg hm zjB (Wab (thn (ha pos pins s σ H _ I h) fun us s1 ⟨vs,H1,I1,r1,q1⟩=>?_) (by rw [hs,hs2]) (by rw [hs2];rfl)))
 obtain⟨l1,l2,e,⟨xs,hx⟩,⟨ys,hy⟩,q⟩:=q1;subst e;obtain⟨u,v,rfl,ru,rv⟩:=J6 r1;cases(show u=Value.ref l1 from ru)
 cases(show v=Value.ref l2 from rv)
 obtain⟨its1,_,p1,_⟩:=I1.list hx;obtain⟨its2,_,p2,_⟩:=I1.list hy;have lt1:l1<s1.heap.objs.size:=by obtain⟨o,e,_⟩:=p1.isList;exact YaX e
 have lt2:l2<s1.heap.objs.size:=by obtain⟨o,e,_⟩:=p2.isList;exact YaX e
 refine call_zip_2 p1.isList p2.isList fun h' hz hTI hTO hi1 hi2 hsz kp=>wpAny_pyIter_zip hz ?_
 have I2:Inv X pins σ H1 { s1 with heap:=h' }:=I1.kept (t':=s1.toks) kp
 have D:ZipApart (s1.heap.objs.size+4) (s1.heap.objs.size+2) (s1.heap.objs.size+3) s1.heap.objs.size (s1.heap.objs.size+1) l1 l2:=PySem.W.ktu_apart _ _ _ lt1 lt2;refine⟨_,[s1.heap.objs.size+4,s1.heap.objs.size+2,s1.heap.objs.size+3,s1.heap.objs.size,s1.heap.objs.size+1],_,Itz X.K l1 l2,H1,rfl,I2,zi5 D,⟨hz,hTI,⟨_,_,hTO⟩,hi1,hi2⟩,fun b hb=>?_,q⟩
 have hb':s1.heap.objs.size<=b:=by
  have hc':b=s1.heap.objs.size+4\/b=s1.heap.objs.size+2\/b=s1.heap.objs.size+3\/b=s1.heap.objs.size\/b=s1.heap.objs.size+1:=by simpa using hb
  rcases hc' with rfl|rfl|rfl|rfl|rfl<;>first|exact YaY _|exact Nat.le_add_right _ _
 have f:=I1.fpOk (H':=H1) hb' (I1.hok.fresh hb');exact⟨f.1,f.2.1,f.2.2.1,f.2.2.2.1,f.2.2.2.2.1,f.2.2.2.2.2⟩
section
variable{X:Cx}
theorem zdP{us:List Value}{ns:List Int}(h:IntsAre us ns):∃ xs:Array (Int×Tok),us.toArray=intItems xs/\xs.toList.map (·.1)=ns:=by
 obtain⟨xs,e⟩:=h.allInts.items;refine⟨xs,e,?_⟩;have e1:=h.numsOf;have e2:us=xs.toList.map fun p=>Value.int p.1 p.2:=by
  have:=congrArg Array.toList e
  simpa [intItems] using this
 rw [e2,numsOf_map] at e1;exact e1
theorem zkL(hc:X.calm=true):zQ X (.builtin "sum") (fun xs H Q=>∃ (p:Addr) (ns:List Int),xs=[.ref p]/\SqL X.K H p (ns.map V.int)/\Q (.int ns.sum) H):=by
 intro pins s σ H xs us Q I r h;obtain⟨p,ns,rfl,hq,q⟩:=h;obtain⟨u,rfl,ru⟩:=Jn r;cases(show u=Value.ref p from ru)
 obtain⟨its,rv,pl,_⟩:=I.list hq;obtain⟨ys,e1,e2⟩:=zdP (zbw rv);have hl:=pl.isList;rw [e1] at hl;refine sum_intListG (I.ok.hd hc) hl fun h' tk t' kp=>⟨.int ns.sum,H,I.kept (t':=tk) kp,⟨t',?_⟩,q⟩
 rw [preSum_eq,Wak (by simp),e2]
def maxL:List Int->Int
 | []=>0
 | x::xs=>xs.foldl (fun a b=>if b > a then b else a) x
theorem zln{α β : Type}(f:β->α->β)(b:β)(l:List α)(a:α):(l++[a]).foldl f b=f (l.foldl f b) a:=by rw [Waz];rfl
theorem zeA(ns:List Int):∀ n,n<ns.length->ns.getD (argBest (fun i j=>decide (ns.getD i 0 > ns.getD j 0)) n) 0=maxL (ns.take (n+1))
 | 0, h => by
  cases ns with
  | nil=>simp at h
  | cons x xs=>simp [argBest,maxL]
 | n + 1, h => by
  have ih:=zeA ns n #[0]
  have et:ns.take (n+1+1)=ns.take (n+1)++[ns.getD (n+1) 0]:=by
   rw [List.take_succ_eq_append_getElem h,YaP,YaQ h];rfl
  rw [et];cases q:ns.take (n+1) with
  | nil=>
   have:=congrArg List.length q;rw [WaI,List.length_nil] at this;omega
  | cons x xs=>
   rw [q] at ih;have e1:maxL (x::xs++[ns.getD (n+1) 0])=if ns.getD (n+1) 0 > maxL (x::xs) then ns.getD (n+1) 0 else maxL (x::xs):=by
    show(xs++[ns.getD (n+1) 0]).foldl _ x=_
    rw [zln];rfl
   rw [e1,<-ih];show ns.getD (if decide (ns.getD (n+1) 0 > ns.getD (argBest (fun i j=>decide (ns.getD i 0 > ns.getD j 0)) n) 0)=true then n+1 else argBest (fun i j=>decide (ns.getD i 0 > ns.getD j 0)) n) 0=_
   by_cases hc:ns.getD (n+1) 0 > ns.getD (argBest (fun i j=>decide (ns.getD i 0 > ns.getD j 0)) n) 0
   . rw [if_pos (decide_eq_true hc),if_pos hc]
   . rw [if_neg (by simpa using hc),if_neg hc]
theorem zfX{xs:Array (Int×Tok)}{ns:List Int}(e:xs.toList.map (·.1)=ns):numAt xs=fun i=>ns.getD i 0:=by
 funext i
 subst e;unfold numAt;rw [YaP,Ya0,Array.getElem?_toList]
theorem zjp(hc:X.calm=true):zQ X (.builtin "max") (fun xs H Q=>∃ (p:Addr) (ns:List Int),xs=[.ref p]/\ns≠[]/\SqL X.K H p (ns.map V.int)/\Q (.int (maxL ns)) H):=by
 intro pins s σ H xs us Q I r h;obtain⟨p,ns,rfl,hn,hq,q⟩:=h;obtain⟨u,rfl,ru⟩:=Jn r;cases(show u=Value.ref p from ru)
 obtain⟨its,rv,pl,_⟩:=I.list hq;obtain⟨ys,e1,e2⟩:=zdP (zbw rv);have hl:=pl.isList;rw [e1] at hl;have hs:ys.size=ns.length:=by rw [<-e2,YaR];simp
 have hp:0<ns.length:=List.length_pos_iff.mpr hn;refine max_intList (I.ok.hd hc) hl #[0] fun v h' tk hv kp=>?_
 rw [zfX e2,hs] at hv;have hb:=zeA ns (ns.length - 1) #[0]
 rw [show ns.length - 1+1=ns.length by omega,YaH] at hb
 generalize argBest (fun i j=>decide (ns.getD i 0 > ns.getD j 0)) (ns.length - 1)=k at hv hb
 have hv':∃ a t,v=.int a t/\ns.getD k 0=a:=by
  unfold intItems at hv;rw [Array.getElem?_map] at hv;cases ek:ys[k]? with
  | none=>rw [ek] at hv;cases hv
  | some pr=>
   rw [ek] at hv;cases hv;refine⟨_,_,rfl,?_⟩;have:=congrFun (zfX e2) k;rw [<-this];unfold numAt;rw [ek];rfl
 obtain⟨a,t,rfl,ea⟩:=hv';exact⟨.int (maxL ns),H,I.kept (t':=tk) kp,⟨t,by rw [<-hb,ea]⟩,q⟩
end
section
variable{X:Cx}
end
end L2
namespace L3
open PySem PySem.Spec PyProof.Rows L2
variable[LamW]
section
variable{X:Cx}{H0:Hp}{pos p:Pos}{e:Expr}
def Jf:List D->Option (List Int)
 | []=>some []
 | .int i::r=>(Jf r).map (i :: ·)
 | _::_=>none
def Zu:List D->Option (List Bool)
 | []=>some []
 | .bool i::r=>(Zu r).map (i :: ·)
 | _::_=>none
theorem Jm(ns:List Int):Jf (ns.map .int)=some ns:=by
 induction ns with
 | nil=>rfl
 | cons a r ih=>simp [Jf,ih]
theorem zb6{K:Ybf}{G:Hp}{vs:List V}{ds:List D}{ns:List Int}(r:RdVs K G vs ds)(e:Jf ds=some ns):vs=ns.map V.int:=by
 induction vs generalizing ds ns with
 | nil=>cases r;cases e;rfl
 | cons v vs ih=>
  cases r with
  | @cons _ _ d ds a b=>
   cases d with
   | int i=>
    have e':(Jf ds).map (i :: ·)=some ns:=e;cases q:Jf ds with
    | none=>rw [q] at e';cases e'
    | some ms=>
     rw [q] at e';cases e';rw [Ya1,ih b q,zz a]
   | _=>cases e
theorem zeS{K:Ybf}{G:Hp}{vs:List V}{ds:List D}{ns:List Bool}(r:RdVs K G vs ds)(e:Zu ds=some ns):vs=ns.map V.bl:=by
 induction vs generalizing ds ns with
 | nil=>cases r;cases e;rfl
 | cons v vs ih=>
  cases r with
  | @cons _ _ d ds a b=>
   cases d with
   | bool i=>
    have e':(Zu ds).map (i :: ·)=some ns:=e;cases q:Zu ds with
    | none=>rw [q] at e';cases e'
    | some ms=>
     rw [q] at e';cases e';rw [Ya1,ih b q,zdk a]
   | _=>cases e
theorem Jg{K:Ybf}{H0 G H:Hp}{v:V}{c:Cl}{ds:List D}(w:Vw K H0 G H v c)(s:Sub G H)(hd:c.dat=true)(h:c.d=.list ds):∃ a vs,v=.ref a/\SqL K H a vs/\Rfs K H0 G c.f vs ds:=by
 cases w with
 | sh r=>
  have h':_=PyData.list ds:=h;subst h';obtain⟨a,xs,rfl,hq,rs⟩:=JN r;exact⟨a,xs,rfl,s.seq hq,rs⟩
 | ow hh r n=>cases h;exact⟨_,_,rfl,SqL.of hh,r⟩
 | tr hh=>cases hd
 | dt _ _ _=>cases hd
 | dk _ _=>cases hd
 | fd _ _ _=>cases hd
 | tk _=>cases h
 | dm _ _=>cases hd
 | ex hh=>cases hd
def sum3:C3:=fun cs Q=>match cs with
 | [c]=>c.dat=true/\∃ ds ns,c.d=.list ds/\Jf ds=some ns/\Q true (.int ns.sum)
 | _=>False
theorem JD(hc:X.calm=true):CallOk X (.builtin "sum") sum3:=by
 refine⟨fun cs Q Q' h q=>?_,fun H0=>zQ.imp (zkL hc) fun xs H Q=>el2 fun G cs s w q=>?_⟩
 . unfold sum3 at *;split at q
   . obtain⟨a,ds,ns,h1,h2,q⟩:=q;exact⟨a,ds,ns,h1,h2,h _ _ q⟩
   . exact q
 . unfold sum3 at q;split at q
   . obtain⟨v,rfl,w1⟩:=vws1 w
     obtain⟨a,ds,ns,h1,h2,q⟩:=q;obtain⟨l,vs,rfl,hq,rs⟩:=Jg w1 s a h1;cases zb6 rs.rd h2;exact⟨l,ns,rfl,hq,q _ G H (Gr.refl s) (.sc rfl (.int _))⟩
   . exact q.elim
def max3:C3:=fun cs Q=>match cs with
 | [c]=>c.dat=true/\∃ ds ns,c.d=.list ds/\Jf ds=some ns/\ns≠[]/\Q true (.int (maxL ns))
 | _=>False
theorem zjC(hc:X.calm=true):CallOk X (.builtin "max") max3:=by
 refine⟨fun cs Q Q' h q=>?_,fun H0=>zQ.imp (zjp hc) fun xs H Q=>el2 fun G cs s w q=>?_⟩
 . unfold max3 at *;split at q
   . obtain⟨a,ds,ns,h1,h2,h3,q⟩:=q;exact⟨a,ds,ns,h1,h2,h3,h _ _ q⟩
   . exact q
 . unfold max3 at q;split at q
   . obtain⟨v,rfl,w1⟩:=vws1 w
     obtain⟨a,ds,ns,h1,h2,h3,q⟩:=q;obtain⟨l,vs,rfl,hq,rs⟩:=Jg w1 s a h1;cases zb6 rs.rd h2;exact⟨l,ns,rfl,h3,hq,q _ G H (Gr.refl s) (.sc rfl (.int _))⟩
   . exact q.elim
def ZO(t:TA3):TN3:=fun ρ Q=>t ρ fun cs=>∃ c ds,cs=[c]/\c.dat=true/\(c.d=.list ds\/c.d=.tuple ds)/\Q (c.f||ds.all zw) ds
theorem zba{x:Str}{es:List Expr}{t:TA3}(hg:Gl X x)(hm:X.mg x=none)(hv:bootBuiltins x=some (.type "list"))(ha:PA3 X H0 (e::es) t)(hn:x≠"__name__":=by decide)(hdb:#[23]:=by decide)
 (he:#[13]:=by rfl) (hpl:(backTo pos (starEach es X.env)).any (·.1)=false:=by rfl):PN3 X H0 #[16] (ZO t):=
 ⟨fun ρ Q Q' h q=>ha.mono ρ _ _ (fun cs ⟨c,ds,a,b,d,q⟩=>⟨c,ds,a,b,d,h _ _ q⟩) q,PE.imp (zge zlr hg hm hv ha.ok hn hdb he hpl) fun σ H Q=>el5 fun G0 ρ G F q=>⟨G0,ρ,G,F,ha.mono ρ _ _ (fun cs hyp vs G1 H1 g1 w=>by
  obtain⟨c,ds,a,b,d,k⟩:=hyp;subst a;obtain⟨v,rfl,w1⟩:=vws1 w
  rcases d with d|d
  . obtain⟨l,us,rfl,hq,rs⟩:=Jg w1 g1.sub b d
    exact⟨l,us,rfl,.inl hq,fun l' hl=>k l' us G1 H1 g1 hl rs.or⟩
  . cases w1 with
    | sh r=>
     have d':_=PyData.tuple ds:=d;subst d';obtain⟨l,us,rfl,hq,rs⟩:=za8 r;exact⟨l,us,rfl,.inr (g1.sub.tup hq),fun l' hl=>k l' us G1 H1 g1 hl rs.or⟩
    | ow _ _ _=>cases d
    | tr _=>cases d
    | dt _ _ _=>cases d
    | dk _ _=>cases d
    | fd _ _ _=>cases d
    | tk h=>
     cases d;exact⟨_,_,rfl,.inr (g1.sub.tup (SqT.of h)),fun l' hl=>k l' _ G1 H1 g1 hl (⟨zas _,fun _=>zbJ _⟩:Rfs _ _ _ true _ _).or⟩
    | dm _ _=>cases b
    | ex _=>cases b) q⟩⟩
def catN(ta tb:TE3):TN3:=fun ρ Q=>ta ρ fun a=>tb ρ fun b=>∃ ds es,a.dat=true/\b.dat=true/\a.d=.list ds/\b.d=.list es/\ds.length+es.length<=sizeLine/\Q ((a.f||ds.all zw)&&(b.f||es.all zw)) (ds++es)
theorem zgQ:OpR X (binaryOp .Add) (fun x y H Q=>∃ l b xs zs,x=.ref l/\y=.ref b/\SqL X.K H l xs/\SqL X.K H b zs/\xs.length+zs.length<=sizeLine/\∀ p,H p=none->Q (.ref p) (upd H p (.lst (xs++zs)))):=by
 intro pins s σ H x y v u Q I rx ry h;obtain⟨l,b,xs,zs,rfl,rfl,hl,hb,hz,k⟩:=h;cases rx;cases ry;obtain⟨its,rv,pl,_⟩:=I.list hl;obtain⟨its',rv',pl',_⟩:=I.list hb;obtain⟨⟨cls,dd,data,sl⟩,ho,hc,n,hd⟩:=pl.isList;obtain⟨⟨cls2,dd2,data2,sl2⟩,ho2,hc2,n2,hd2⟩:=pl'.isList;simp only at hc hd hc2 hd2;subst hc hd hc2 hd2;have e:its.toArray++its'.toArray=(its++its').toArray:=by simp
 refine concat_meets ⟨_,ho,rfl⟩ ⟨_,ho2,rfl⟩ noFill_list_add seq_list_add PySem.F.slot_list_add PySem.F.entry_list_add (PySem.F.args_list_add_2 _ _) (list_addW l b its.toArray its'.toArray n n2 dd dd2 sl sl2 (by rw [YaZ,YaZ,<-rv.length,<-rv'.length];exact hz)) ⟨ho,ho2,?_⟩
 rw [e];exact⟨.ref _,_,I.lnew (t':=s.toks) (rv.append rv') (by rw [YaS];exact hz),rfl,k _ I.fresh⟩
theorem cat3{a b:Expr}{ta tb:TE3}(ha:PE3 X H0 a ta)(hb:PE3 X H0 b tb):PN3 X H0 (.BinOp a .Add b pos) (catN ta tb):=
 ⟨fun ρ Q Q' h q=>ha.mono ρ _ _ (fun a=>hb.mono ρ _ _ fun b ⟨ds,es,h1,h2,h3,h4,h5,q⟩=>⟨ds,es,h1,h2,h3,h4,h5,h _ _ q⟩) q,PE.imp (Ji zgQ ha.ok hb.ok) fun σ H Q=>el5 fun G0 ρ G F q=>⟨G0,ρ,G,F,ha.mono ρ _ _ (fun a qa v1 G1 H1 g1 w1=>⟨G0,ρ,G1,F.gr g1,hb.mono ρ _ _ (fun b hyp v2 G2 H2 g2 w2=>by
  obtain⟨ds,es,h1,h2,h3,h4,h5,k⟩:=hyp;obtain⟨l,us,rfl,hq,rs⟩:=Jg (w1.gr g2) g2.sub h1 h3;obtain⟨m,us',rfl,hq',rs'⟩:=Jg w2 g2.sub h2 h4;exact⟨l,m,us,us',rfl,rfl,hq,hq',by rw [rs.length,rs'.length];exact h5,fun p hp=>k p _ G2 H2 (g1.trans g2) hp (rs.or.append rs'.or)⟩) qa⟩) q⟩⟩
def zipD:List D->List D->List D
 | a::as,b::bs=>.tuple [a,b]::zipD as bs
 | _,_=>[]
theorem zed:∀ as bs,(zipD as bs).length=min as.length bs.length
 | [],_=>by simp [zipD]
 | _::_,[]=>by simp [zipD]
 | a::as,b::bs=>by simp [zipD,zed as bs,Nat.succ_min_succ]
theorem zd3:∀ {as bs:List D} {i:Nat} {d:D},(zipD as bs)[i]?=some d->∃ a b,d=.tuple [a,b]/\as[i]?=some a/\bs[i]?=some b
 | [],_,i,d,h=>by simp [zipD] at h
 | _::_,[],i,d,h=>by simp [zipD] at h
 | a::as,b::bs,0,d,h=>by cases h;exact⟨a,b,rfl,rfl,rfl⟩
 | a :: as, b :: bs, i + 1, d, h => by
  obtain⟨x,y,h1,h2,h3⟩:=zd3 (i:=i) (show(zipD as bs)[i]?=some d from h)
  exact⟨x,y,h1,h2,h3⟩
def itZ(t:TA3):TI3:=fun ρ Q=>t ρ fun cs=>∃ f g as bs,cs=[.sh f (.list as),.sh g (.list bs)]/\Q (f&&g) (zipD as bs)
theorem zj1{K:Ybf}{H0 G:Hp}{a b:Addr}{xs ys:List V}{f g:Bool}{as bs:List D}(h1:SqL K G a xs)(r1:Rfs K H0 G f xs as)(h2:SqL K G b ys)(r2:Rfs K H0 G g ys bs):ItOk K H0 (Itz K a b) (f&&g) (zipD as bs) G where
 go:=fun i d G' H hd s1 s2=>by
  obtain⟨p,q,rfl,hp,hq⟩:=zd3 hd;obtain⟨x,hx,rx⟩:=r1.get hp;obtain⟨y,hy,ry⟩:=r2.get hq;have ss:=s1.trans s2.s;refine⟨⟨xs,ys,x,y,ss.seq h1,ss.seq h2,hx,hy⟩,fun v H' ⟨l,x',y',hl,e1,e2,hh⟩=>?_⟩
  subst e1 e2;obtain⟨z1,z2⟩:=hh xs ys (ss.seq h1) (ss.seq h2);rw [hx] at z1;rw [hy] at z2;cases z1;cases z2;have gl:=zG (s2.free hl) (.tup [x,y]);exact⟨upd G' l (.tup [x,y]),Gr.put s2 hl,⟨.tup (SqT.of zf) (.cons (Zc (s1.trans gl) rx.rd) (.cons (Zc (s1.trans gl) ry.rd) .nil)),fun hf=>by
   rw [Yak] at hf;exact .tup zf (.cons (j0 (s1.trans gl) (fun _ _ _ z=>z) (rx.nw hf.1)) (.cons (j0 (s1.trans gl) (fun _ _ _ z=>z) (ry.nw hf.2)) .nil))⟩⟩
 stop:=fun i G' H hl s1 s2=>⟨xs,ys,(s1.trans s2.s).seq h1,(s1.trans s2.s).seq h2,by rw [hl,zed,r1.length,r2.length]⟩
theorem zjg{elts:List Expr}{k:Nat}{tpos:Pos}{a b:Expr}{t:TA3}(hg:Gl X "zip")(hm:X.mg "zip" = none)(ha:PA3 X H0 [a,b] t)(hs:starEach [a,b] X.env=[(false,eval a X.env),(false,eval b X.env)]:=by rfl)
 (hs2:starEach [b] X.env=[(false,eval b X.env)]:=by rfl):PI3 X H0 (.Tuple elts k tpos) (.Call (.Name "zip" p) [a,b] [] pos) (itZ t):=
 ⟨fun ρ Q Q' h q=>ha.mono ρ _ _ (fun cs ⟨f,g,as,bs,e,q⟩=>⟨f,g,as,bs,e,h _ _ q⟩) q,PI.imp (zcF hg hm ha.ok hs hs2) fun σ H R=>el5 fun G0 ρ G F q=>⟨G0,ρ,G,F,ha.mono ρ _ _ (fun cs hyp vs G' H' g w=>by
  obtain⟨fl,fm,as,bs,e,k⟩:=hyp;subst e;obtain⟨v,u,rfl,w1,w2⟩:=vws2 w;obtain⟨x,xs,rfl,hx,rx⟩:=JN (zm w1);obtain⟨y,ys,rfl,hy,ry⟩:=JN (zm w2);exact⟨x,y,rfl,⟨xs,g.sub.seq hx⟩,⟨ys,g.sub.seq hy⟩,k _ G' H' g (zj1 hx rx hy ry)⟩) q⟩⟩
end
variable[LamW]
section
variable{K:Ybf}{H0 G0:Hp}{ρ : Env3}{σ : L2.St}{G H:Hp}
theorem Fr3.exc(F:#[22]){i:Nat}{a C:Addr}(h:H a=some (excO a C)):Fr3 K H0 G0 (ρ.set i (some (.ex C))) (σ.set i (some (.ref a))) G H:=F.put (zh.refl _) (.ex h) fun _ h=>False.elim h
theorem Fr3.gone(F:#[22]){i:Nat}:Fr3 K H0 G0 (ρ.set i none) (σ.set i none) G H where
 keep:=F.keep
 sub:=F.sub
 old:=F.old
 g0:=F.g0
 slot:=fun j c e=>by
  rcases zL e with ⟨rfl,q,hl⟩|⟨n,q⟩
  . cases q
  . obtain⟨v',h1,h2⟩:=F.slot j c q
    exact⟨v',by rw [Yac n];exact h1,h2⟩
 mine:=fun j c v a e e' h=>by
  rcases zL e with ⟨rfl,q,hl⟩|⟨n,q⟩
  . cases q
  . rw [Yac n] at e'
    exact F.mine j c v a q e' h
 apart:=fun j k c1 c2 v1 v2 a e1 e2 e3 e4 h1 h2=>by
  rcases zL e1 with ⟨rfl,q,hl⟩|⟨n,q⟩
  . cases q
  . rcases zL e2 with ⟨rfl,q',hl⟩|⟨n',q'⟩
    . cases q'
    . rw [Yac n] at e3
      rw [Yac n'] at e4;exact F.apart j k c1 c2 v1 v2 a q q' e3 e4 h1 h2
 len:=by rw [YaN,YaN];exact F.len
end
abbrev TX3:=Ends3->(Addr->Prop)->Env3->Prop
def zlt(K:Ybf)(H0:Hp)(t:TX3):TX:=fun B E σ H=>∃ G0 A E3 ρ G,Fr3 K H0 G0 ρ σ G H/\t A E3 ρ/\LD K H0 G0 A B/\∀ C H',E3 C->zh H H'->E C H'
def PX3(X:Cx)(H0:Hp)(st:List Stmt)(t:TX3):Prop:=PX X st (zlt X.K H0 t)
theorem PX.imp{X:Cx}{e:List Stmt}{t t':TX}(h:PX X e t)(i:∀ B E σ H,t' B E σ H->t B E σ H):PX X e t':=fun pins s σ H B E I q=>h pins s σ H B E I (i _ _ _ _ q)
section
variable{X:Cx}{H0:Hp}{pos pos' p:Pos}{e:Expr}{es:List Expr}{x:Str}
def zaA(sp:Sp3)(ta:TA3):TX3:=fun A E ρ=>ta ρ fun cs=>cs.all Cl.dat=true/\sp (cs.map Cl.d) (fun _ _=>A.nx ρ) E
def try3(K:Ybf)(CC:Addr)(i:Nat)(tx:TX3)(th:TS3):TS3:=fun A ρ=>tx A (fun C=>PySem.W.exmOne K (.ref C) (.ref CC)=some true/\
 th { nx:=fun ρ'=>A.nx (ρ'.set i none),rt:=A.rt,bk:=fun ρ'=>A.bk (ρ'.set i none),ct:=fun ρ'=>A.ct (ρ'.set i none),rm:=fun _ _=>False } (ρ.set i (some (.ex C)))) ρ
theorem ziq{rest:List ExceptHandler}{body:List Stmt}{b₀ : Stmt}{suite:List Stmt}{cx n:Str}{CC:Addr}{i:Nat}{np hpos:Pos}{tx:TX3}{th:TS3}(hst:X.stack=X.env::X.outer)(hfr:X.env.frame=some X.env.locals)(hN:X.N.Nodup)(hi:X.N[i]?=some n)
 (hk:X.env.scope.names.lookup n=some .local) (hg:Gl X cx) (hm:X.mg cx=some (.ref CC)) (hb:PX3 X H0 body tx) (hh:∀ ea,PSs3 (X.inExc ea) H0 (b₀ :: suite) th) (hdb:(cx==("__debug__" : Str))=false:=by decide) :
 PS3 X H0 (.Try body (.ExceptHandler (some (.Name cx np)) (some n) (b₀ :: suite) hpos::rest) [] [] pos) (try3 X.K CC i tx th):=
 PS.imp (zjy (th:=fun ea=>zcj X.K H0 th) hst hfr hN hi hk hg hm hb hh hdb) fun B σ H=>el7 fun G0 A ρ G F q L=>
  ⟨G0,A,_,ρ,G,F,q,L,fun C H1 ⟨hx,hth⟩ s1=>⟨hx,fun ea hea=>by
   have g1:Gr G H G H1:=⟨Same.refl _,s1,F.sub.trans s1,fun _ _ e=>.inl e⟩
   have g2:Gr G H1 G (upd H1 ea (excO ea C)):=Gr.apart g1.sub hea;exact⟨G0,_,ρ.set i (some (.ex C)),G,((F.gr g1).gr g2).exc zf,hth,⟨fun ρ' σ' G' H' F' q'=>L.nx _ _ _ _ F'.gone q',L.rt,fun ρ' σ' G' H' F' q'=>L.bk _ _ _ _ F'.gone q',fun ρ' σ' G' H' F' q'=>L.ct _ _ _ _ F'.gone q',fun _ _ _ _ _ _ _ _ _ q=>q.elim⟩⟩⟩⟩
def isxr(K:Ybf)(A:Addr)(te:TE3):TE3:=fun ρ Q=>te ρ fun c=>∃ C b,c=.ex C/\XAttr K C/\PySem.W.kitOne K (.ref C) (.ref A)=some b/\Q (.sh true (.bool b))
def isxy(K:Ybf)(n:String)(te:TE3):TE3:=fun ρ Q=>te ρ fun c=>∃ C b,c=.ex C/\XAttr K C/\PySem.W.kitOne K (.ref C) (.type n)=some b/\Q (.sh true (.bool b))
def isxt(K:Ybf)(As:List Addr)(te:TE3):TE3:=fun ρ Q=>te ρ fun c=>∃ C b,c=.ex C/\XAttr K C/\PySem.W.kitAny K (.ref C) (As.map Value.ref)=some b/\Q (.sh true (.bool b))
theorem zcK{K:Ybf}{H0 G H:Hp}{v:V}{C:Addr}(w:Vw K H0 G H v (.ex C)):∃ a,v=.ref a/\H a=some (excO a C):=by
 cases w with
 | ex h=>exact⟨_,rfl,h⟩
theorem zbY{nf:Str}{K':Ybf}(hK:X.K=K'){A:Addr}{p2:Pos}{te:TE3}(hg:Gl X nf)(hm:X.mg nf=none)(hnf:nf = "isinstance")(hg2:Gl X x)(hm2:X.mg x=some (.ref A))(he:PE3 X H0 e te)
 (h1:starEach [e,.Name x p2] X.env=(false,eval e X.env)::starEach [.Name x p2] X.env:=by rfl) (h2:starEach [.Name x p2] X.env=(false,eval (.Name x p2) X.env)::starEach [] X.env:=by rfl)
 (hpl:(backTo pos (starEach [.Name x p2] X.env)).any (·.1)=false:=by rfl) (hdx:#[23]:=by decide):PE3 X H0 (.Call (.Name nf p) [e,.Name x p2] [] pos) (isxr K' A te):=by
 subst hK;subst hnf;exact⟨fun ρ Q Q' h q=>he.mono ρ _ _ (fun c ⟨C,b,a,d,f,q⟩=>⟨C,b,a,d,f,h _ q⟩) q,PE.imp (Jc (x:="isinstance") zha hg hm zdx (zl he.ok (zl (zbQ (v:=.ref A) hg2 hm2 rfl hdx) zF h2) h1) #[1] #[1] h1 hpl) fun σ H Q=>el5 fun G0 ρ G F q=>⟨G0,ρ,G,F,he.mono ρ _ _ (fun c hyp v G1 H1 g1 w=>by
  obtain⟨C,b,hc,Y,hk,k⟩:=hyp;subst hc;obtain⟨a,rfl,ha⟩:=zcK w;exact⟨a,C,A,b,rfl,ha,Y,hk,k _ G1 H1 g1 (.sh (.sc rfl (.bl b)))⟩) q⟩⟩
theorem zlM{nf:Str}{K':Ybf}(hK:X.K=K'){n:String}{p2:Pos}{te:TE3}(hg:Gl X nf)(hm:X.mg nf=none)(hnf:nf = "isinstance")(hg2:Gl X x)(hm2:X.mg x=none)(hv:bootBuiltins x=some (.type n))(he:PE3 X H0 e te)(hn:x≠"__name__":=by decide)
 (h1:starEach [e,.Name x p2] X.env=(false,eval e X.env)::starEach [.Name x p2] X.env:=by rfl) (h2:starEach [.Name x p2] X.env=(false,eval (.Name x p2) X.env)::starEach [] X.env:=by rfl)
 (hpl:(backTo pos (starEach [.Name x p2] X.env)).any (·.1)=false:=by rfl) (hdx:#[23]:=by decide):PE3 X H0 (.Call (.Name nf p) [e,.Name x p2] [] pos) (isxy K' n te):=by
 subst hK;subst hnf;exact⟨fun ρ Q Q' h q=>he.mono ρ _ _ (fun c ⟨C,b,a,d,f,q⟩=>⟨C,b,a,d,f,h _ q⟩) q,PE.imp (Jc (x:="isinstance") zlT hg hm zdx (zl he.ok (zl (zg9 (v:=.ty n) hg2 hm2 hv rfl hn hdx) zF h2) h1) #[1] #[1] h1 hpl) fun σ H Q=>el5 fun G0 ρ G F q=>⟨G0,ρ,G,F,he.mono ρ _ _ (fun c hyp v G1 H1 g1 w=>by
  obtain⟨C,b,hc,Y,hk,k⟩:=hyp;subst hc;obtain⟨a,rfl,ha⟩:=zcK w;exact⟨a,C,n,b,rfl,ha,Y,hk,k _ G1 H1 g1 (.sh (.sc rfl (.bl b)))⟩) q⟩⟩
def PCl(X:Cx)(es:List Expr)(As:List Addr):Prop:=PA X es (fun _ H Q=>Q (As.map V.ref) H)
theorem zkS:PCl X [] []:=fun pos pins s σ H Q I h=>zF pos pins s σ H Q I h
theorem j8{A:Addr}{As:List Addr}{p2:Pos}(hg:Gl X x)(hm:X.mg x=some (.ref A))(h:PCl X es As)(hs:starEach (.Name x p2::es) X.env=(false,eval (.Name x p2) X.env)::starEach es X.env:=by rfl)(hdx:#[23]:=by decide):PCl X (.Name x p2::es) (A::As):=
 fun pos pins s σ H Q I q=>zl (zbQ (v:=.ref A) hg hm rfl hdx) h hs pos pins s σ H Q I q
theorem zid{nf:Str}{K':Ybf}(hK:X.K=K'){As:List Addr}{p2:Pos}{k2}{te:TE3}(hg:Gl X nf)(hm:X.mg nf=none)(hnf:nf = "isinstance")(hcl:PCl X es As)(hlen:As.length<=sizeLine)(he:PE3 X H0 e te)
 (h1:starEach [e,.Tuple es k2 p2] X.env=(false,eval e X.env)::starEach [.Tuple es k2 p2] X.env:=by rfl) (h2:starEach [.Tuple es k2 p2] X.env=(false,eval (.Tuple es k2 p2) X.env)::starEach [] X.env:=by rfl)
 (hpl:(backTo pos (starEach [.Tuple es k2 p2] X.env)).any (·.1)=false:=by rfl):PE3 X H0 (.Call (.Name nf p) [e,.Tuple es k2 p2] [] pos) (isxt K' As te):=by
 subst hK;subst hnf;exact⟨fun ρ Q Q' h q=>he.mono ρ _ _ (fun c ⟨C,b,a,d,f,q⟩=>⟨C,b,a,d,f,h _ q⟩) q,PE.imp (Jc (x:="isinstance") zhK hg hm zdx (zl he.ok (zl (zaI hcl) zF h2) h1) #[1] #[1] h1 hpl) fun σ H Q=>el5 fun G0 ρ G F q=>⟨G0,ρ,G,F,he.mono ρ _ _ (fun c hyp v G1 H1 g1 w=>by
  obtain⟨C,b,hc,Y,hk,k⟩:=hyp;subst hc;obtain⟨a,rfl,ha⟩:=zcK w;refine⟨by rw [YaR];exact hlen,fun tp htp=>⟨a,C,tp,As,b,rfl,?_,Y,zf,hk,k _ G1 _ (g1.trans (Gr.apart g1.sub htp)) (.sh (.sc rfl (.bl b)))⟩⟩
  rw [zd (zY ha htp)];exact ha) q⟩⟩
end
variable[LamW]
theorem jG{P:Program}{w:World}{X:Cx}:Passes (CXR P w) X (fun _ _ _=>False):=fun _ _ _ _ _ _ _ ⟨_,_,_,_,_,h⟩=>h.elim
section
variable{X:Cx}{H0:Hp}{pos:Pos}{x:Str}
theorem g3i{i:Int}(hg:Gl X x)(hm:∃ t,X.mg x=some (.int i t))(hd:#[23]:=by decide):PE3 X H0 (.Name x pos) (k3 (.int i)):=by
 obtain⟨t,hm⟩:=hm;exact g3 (v:=.int i) hg hm ⟨t,rfl⟩ (fun _=>.int i) rfl hd
theorem g3s{i:Str}(hg:Gl X x)(hm:∃ t,X.mg x=some (.str i t))(hd:#[23]:=by decide):PE3 X H0 (.Name x pos) (k3 (.str i)):=by
 obtain⟨t,hm⟩:=hm;exact g3 (v:=.str i) hg hm ⟨t,rfl⟩ (fun _=>.str i) rfl hd
end
theorem sz{n:Nat}(h:n<=1000000):n<=sizeLine:=Ya5 h #[1]
theorem sz0:(0<=sizeLine)=True:=eq_true #[1]
theorem sz1:(1<=sizeLine)=True:=eq_true #[1]
theorem sz2:(2<=sizeLine)=True:=eq_true #[1]
theorem sz3:(3<=sizeLine)=True:=eq_true #[1]
theorem sz4:(4<=sizeLine)=True:=eq_true #[1]
theorem sz5:(5<=sizeLine)=True:=eq_true #[1]
theorem sz8:(8<=sizeLine)=True:=eq_true #[1]
theorem zcM{K:Ybf}{H:Hp}:∀ ns:List Int,RdVs K H (ns.map V.int) (ns.map PyData.int)
 | []=>.nil
 | a::r=>.cons (.int a) (zcM r)
theorem Ze{g:TG3}{tb:TS3}{A:Ends3}{f:Bool}(P:List D->Env3->Prop)(s:∀ d ds ρ,P (d::ds) ρ->∀ W:Env3->Prop,(∀ ρ',P ds ρ'->W ρ')->g f d ρ fun ρ'=>tb { A with nx:=W,ct:=W,bk:=A.nx } ρ')(e:∀ ρ,P [] ρ->A.nx ρ):∀ ds ρ,P ds ρ->forL g tb A f ds ρ
 | [],ρ,h=>e ρ h
 | d::ds,ρ,h=>s d ds ρ h _ fun ρ' p=>Ze P s e ds ρ' p
theorem zi{a b:TS3}{A:Ends3}{ρ : Env3}(h:∀ N:Env3->Prop,(∀ ρ',b A ρ'->N ρ')->a { A with nx:=N } ρ):seq3 a b A ρ:=h (b A) fun _ z=>z
theorem z7{a b:TS3}{A:Ends3}{ρ : Env3}(M:Env3->Prop)(h1:∀ N:Env3->Prop,(∀ ρ',M ρ'->N ρ')->a { A with nx:=N } ρ)(h2:∀ ρ',M ρ'->b A ρ'):seq3 a b A ρ:=h1 (b A) h2
theorem ZR{c:TT3}{t u:TS3}{A:Ends3}{ρ : Env3}(h:∀ Y N:Prop,(t A ρ->Y)->(u A ρ->N)->c ρ fun k=>if k=true then Y else N):ifS3 c t u A ρ:=h (t A ρ) (u A ρ) id id
theorem Zi{c:TT3}{tb:TS3}{A:Ends3}(P:Nat->Env3->Prop)(h:∀ n ρ,P n ρ->∀ W:Env3->Prop,(∀ m ρ',m<n->P m ρ'->W ρ')->c ρ fun k=>if k=true then tb { A with nx:=W,ct:=W,bk:=A.nx } ρ else A.nx ρ):∀ n ρ,P n ρ->whN c tb A (n+1) ρ
 | n, ρ, p => by
  have key:∀ k m ρ,m<=k->P m ρ->whN c tb A (k+1) ρ:=by
   intro k
   induction k with
   | zero=>intro m ρ hm p;exact h m ρ p _ (fun m' ρ' hlt _=>absurd hlt #[0])
   | succ k ih=>intro m ρ hm p;exact h m ρ p _ (fun m' ρ' hlt p'=>ih m' ρ' #[0] p')
  exact key n n ρ (YaY _) p
variable[LamW]
theorem jg{α : Type}{g:TG3}{tt:TT3}{te:TE3}{f:Bool}(enc out:α->D)(R:Env3->Prop):∀ (xs:List α),(∀ x∈xs,∀ ρ fa acc (K:Bool->List D->Env3->Prop),R ρ->(∀ ρ',R ρ'->K fa (acc++[out x]) ρ')->
 g f (enc x) ρ fun ρ'=>tt ρ' fun k=>if k=true then te ρ' fun c=>asS c fun fy y=>K (fa&&fy) (acc++[y]) ρ' else K fa acc ρ')->∀ fa acc ρ (Q:Bool->List D->Prop),R ρ->Q fa (acc++xs.map out)->jJ g tt te f (xs.map enc) fa acc ρ Q
 | [],_,fa,acc,ρ,Q,_,q=>by show Q fa acc;simpa using q
 | x::xs,s,fa,acc,ρ,Q,hR,q=>s x YaV ρ fa acc (fun fa acc ρ'=>jJ g tt te f (xs.map enc) fa acc ρ' Q) hR fun ρ' hR'=>
  jg enc out R xs (fun y hy=>s y (YaT _ hy)) fa (acc++[out x]) ρ' Q hR' (by rw [Yag];exact q)
theorem zfx{α β : Type}(e1:α->D)(e2:β->D):∀ (xs:List α) (ys:List β),zipD (xs.map e1) (ys.map e2)=(xs.zip ys).map fun p=>.tuple [e1 p.1,e2 p.2]
 | [],_=>by simp [zipD]
 | _::_,[]=>by simp [zipD]
 | x::xs,y::ys=>by simp [zipD,zfx e1 e2 xs ys]
theorem j4{α β : Type}(e:α->β)(xs:List α)(i:Int):atI (xs.map e) i=(atI xs i).map e:=by
 unfold atI;rw [YaR];cases ixN xs.length i with
 | none=>rfl
 | some j=>simp
end L3
namespace L3
theorem zgP(lo:Int)(n:Nat):nums lo (n+1)=.int lo::nums (lo+1) n:=by
 unfold nums;rw [List.range_succ_eq_map,Ya1,YaD]
 congr 1
 . simp
 . apply Yat
   intro i _;simp only [Function.comp]
   congr 1
   omega
theorem jx{g:TG3}{tb:TS3}{A:Ends3}{f:Bool}{lo:Int}{n:Nat}(P:Nat->Env3->Prop)(s:∀ k ρ,k<n->P k ρ->∀ W:Env3->Prop,(∀ ρ',P (k+1) ρ'->W ρ')->g f (.int (lo+k)) ρ fun ρ'=>tb { A with nx:=W,ct:=W,bk:=A.nx } ρ')(e:∀ ρ,P n ρ->A.nx ρ){ρ : Env3}(h:P 0 ρ):forL g tb A f (nums lo n) ρ:=by
 have key:∀ m k ρ,k+m=n->P k ρ->forL g tb A f (nums (lo+k) m) ρ:=by
  intro m
  induction m with
  | zero => intro k ρ hk p; have : k = n := by omega
            subst this;exact e ρ p
  | succ m ih=>
   intro k ρ hk p;rw [zgP];refine s k ρ #[0] p _ fun ρ' p'=>?_
   have:=ih (k+1) ρ' #[0] p'
   rw [show lo+((k+1:Nat):Int)=lo+k+1 by omega] at this
   exact this
 have:=key n 0 ρ #[0] h
 simpa using this
theorem jR{α : Type}{g:TG3}{tb:TS3}{A:Ends3}{f:Bool}(enc:α->D)(l:List α)(P:List α->Env3->Prop)(s:∀ done x rest ρ,l=done++x::rest->P done ρ->∀ W:Env3->Prop,(∀ ρ',P (done++[x]) ρ'->W ρ')->g f (enc x) ρ fun ρ'=>tb { A with nx:=W,ct:=W,bk:=A.nx } ρ')(e:∀ ρ,P l ρ->A.nx ρ){ρ : Env3}(h:P [] ρ):forL g tb A f (l.map enc) ρ:=by
 have key:∀ rest done ρ,l=done++rest->P done ρ->forL g tb A f (rest.map enc) ρ:=by
  intro rest
  induction rest with
  | nil=>intro done ρ hl p;rw [Yao] at hl;subst hl;exact e ρ p
  | cons x rest ih=>
   intro done ρ hl p;exact s done x rest ρ hl p _ fun ρ' p'=>ih (done++[x]) ρ' (by rw [hl,Yag];rfl) p'
 exact key l [] ρ rfl h
end L3
namespace L3
open PySem L2
mutual
theorem zdW:∀ {d:D},PyData.canLay0 d=true->PyData.eqv d d=true
 | .none,_=>by simp [PyData.eqv]
 | .bool b,_=>by simp [PyData.eqv]
 | .int i,_=>by simp [PyData.eqv]
 | .str x,_=>by simp [PyData.eqv]
 | .list xs, h => by
  have h':PyData.canLayAll0 xs=true:=by simpa [PyData.canLay0] using h
  simpa [PyData.eqv] using eqvAll_refl h'
 | .tuple xs, h => by
  have h':PyData.canLayAll0 xs=true:=by simpa [PyData.canLay0] using h
  simpa [PyData.eqv] using eqvAll_refl h'
 | .dict _,h=>by simp [PyData.canLay0] at h
theorem eqvAll_refl:∀ {ds:List D},PyData.canLayAll0 ds=true->PyData.eqvAll ds ds=true
 | [],_=>by simp [PyData.eqvAll]
 | d :: ds, h => by
  have h':PyData.canLay0 d=true/\PyData.canLayAll0 ds=true:=by simpa [PyData.canLayAll0] using h
  simp [PyData.eqvAll,zdW h'.1,eqvAll_refl h'.2]
end
def Plain(n:Nat)(d:D):Prop:=PyData.canLay0 d=true/\PyData.depth d<=n
theorem Plain.shaped{n:Nat}{d:D}(h:Plain n d)(hn:n<=64):SeqAt.shaped d=true:=by
 unfold SeqAt.shaped;rw [h.1,WaW];exact decide_eq_true (Ya5 h.2 hn)
theorem Plain.int(i:Int):Plain 0 (.int i):=⟨by simp [PyData.canLay0],by simp [PyData.depth]⟩
theorem zds{n:Nat}:∀ {ds:List D},(∀ d∈ds,Plain n d)->PyData.canLayAll0 ds=true/\PyData.depthAll ds<=n
 | [],_=>by simp [PyData.canLayAll0,PyData.depthAll]
 | d :: ds, h => by
  obtain⟨h1,h2⟩:=h d YaV;obtain⟨h3,h4⟩:=zds (ds:=ds) fun x hx=>h x (YaT _ hx)
  simp [PyData.canLayAll0,PyData.depthAll,h1,h3]
  omega
theorem Plain.list{n:Nat}{ds:List D}(h:∀ d∈ds,Plain n d):Plain (n+1) (.list ds):=by
 obtain⟨h1,h2⟩:=zds h;exact⟨by simp [PyData.canLay0,h1],by simp [PyData.depth,h2]⟩
theorem Plain.tuple{n:Nat}{ds:List D}(h:∀ d∈ds,Plain n d):Plain (n+1) (.tuple ds):=by
 obtain⟨h1,h2⟩:=zds h;exact⟨by simp [PyData.canLay0,h1],by simp [PyData.depth,h2]⟩
theorem Plain.mono{m n:Nat}{d:D}(h:Plain m d)(hn:m<=n):Plain n d:=⟨h.1,Ya5 h.2 hn⟩
theorem Jy{α : Type}{xs:List α}{i:Int}(h0:0<=i)(h:i<xs.length):∃ x,atI xs i=some x/\x∈xs/\xs[i.toNat]?=some x:=by
 have hk:i.toNat<xs.length:=#[0]
 refine⟨xs[i.toNat],?_,Ya4 hk,YaQ hk⟩
 have:=jd (xs:=xs) (j:=i.toNat) (YaQ hk);rwa [show((i.toNat:Nat):Int)=i by omega] at this
theorem Jv{n:Nat}{i:Int}(h0:0<=i)(h:i<n):ixN n i=some i.toNat:=by
 unfold ixN;rw [if_pos h0,if_pos h]
end L3
namespace L2
open PySem PySem.Spec PyProof.Rows
section
variable{X:Cx}
end
end L2
namespace L3
open PySem PySem.Spec PyProof.Rows L2
variable[LamW]
section
variable{X:Cx}{H0:Hp}{e:Expr}{pos p:Pos}
end
variable[LamW]
section
variable{K:Ybf}{H0 G0:Hp}{ρ : Env3}{σ : L2.St}{G H G' H':Hp}
end
section
variable{X:Cx}{H0:Hp}{e:Expr}{es:List Expr}{pos p:Pos}{x:Str}
end
section
variable{X:Cx}
end
end L3
namespace L2
open PySem PySem.Spec PyProof.Rows
section
variable{X:Cx}
def zgO(K:Ybf):V->V->Hp->VK->Prop:=fun x y H Q=>∃ p xs i v,x=.ref p/\y=.int i/\0<=i/\SqL K H p xs/\atI xs i=some v/\Q v H
theorem zdl:PGet X (zgO X.K):=by
 intro pins s σ H x y v u Q I rx ry h;obtain⟨p,xs,i,z,rfl,rfl,h0,hq,he,q⟩:=h;cases rx;obtain⟨t,rfl⟩:=ry;obtain⟨its,r,pl,hz⟩:=I.list hq;obtain⟨j,h1,h2,h3,h4,h5⟩:=zbp he;obtain⟨w,ew,rw'⟩:=r.get h2;have hl:=r.length;have hn:=Je;have hj:i.toNat=j:=by
  rw [seqIndex_of h0 h5] at h1;exact WaP h1
 exact wpAny_getItem_list pl.isList h0 #[0] (by rw [hj];simpa using ew) ⟨z,H,I,rw',q⟩
def zjn(K:Ybf):V->List V->Hp->VK->Prop:=fun x vs H Q=>∃ (p:Addr) (ns:List Int) (n:Int),x=.ref p/\vs=[.int n]/\SqL K H p (ns.map V.int)/\n∈ns/\Q (.int (ns.idxOf n:Nat)) H
theorem zgD:MtM X "list.index" (zjn X.K):=by
 intro pins s σ H x vs v us Q I rx rv h;obtain⟨p,ns,n,rfl,rfl,hq,hk,q⟩:=h;cases rx;obtain⟨u,rfl,t,rfl⟩:=rv.one;obtain⟨its,r,pl,hz⟩:=I.list hq;have hi:=zbw r;obtain⟨⟨cls,dd,data,sl⟩,ho,hc,n',hd⟩:=pl.isList;simp only at hc hd;subst hc hd;have hlen:=hi.length;have hj:ns.idxOf n<ns.length:=Waf.mpr hk;have hn:=Je;rw [YaR] at hz;refine call_meets Wai ⟨_,ho,rfl⟩ PySem.F.entry_list_index (PySem.F.args_list_index_2 _ _)
  (SeqAt.list_indexAt p its.toArray n' dd sl (.int n t) (isInt n) (ns.idxOf n) (by simpa [hlen] using hj) #[0] ?_ ?_) ⟨ho,fun y hy=>(eq_isInt n t hi y (by simpa using hy)).at _ _,⟨.int _,H,I.tok _,⟨_,rfl⟩,q⟩⟩
 . show isInt n its[ns.idxOf n]=true
   rw [isInt_at n hi _ #[0] hj]
   simpa using List.getElem_idxOf hj
 . intro j hjs hlt
   show isInt n its[j]=false
   rw [isInt_at n hi j (by simpa using hjs) #[0]]
   exact ne_of_lt_idxOf hlt _
end
end L2
namespace L3
open PySem PySem.Spec PyProof.Rows L2
variable[LamW]
section
variable{X:Cx}{H0:Hp}{e:Expr}{pos:Pos}
def aug3(i:Nat)(te:TE3):TS3:=fun A ρ=>∃ f n,ρ[i]?=some (some (.sh f (.int n)))/\te ρ fun c=>∃ g m,c=.sh g (.int m)/\A.nx (ρ.set i (#[5,n+m]))
theorem zf7{i:Nat}{x:Str}{te:TE3}{pos':Pos}(hN:X.N.Nodup)(hi:X.N[i]?=some x)(hx:Loc X.env.scope x)(he:PE3 X H0 e te)
 (hf:#[19]:=by first|exact .inl rfl|exact .inr rfl|assumption):PS3 X H0 (.AugAssign (.Name x pos') .Add e pos) (aug3 i te):=
 PS.imp (zjw hN hi hx he.ok zdy hf) fun B σ H hyp=>by
  obtain⟨G0,A,ρ,G,F,⟨f,n,h,q⟩,L⟩:=hyp;obtain⟨v,h1,h2⟩:=F.slot i _ h;have r:=zz (zm h2).rd;subst r;refine⟨_,h1,G0,ρ,G,F,he.mono ρ _ _ (fun c ⟨g,m,hc,q⟩ v G1 H1 g1 w=>?_) q⟩
  subst hc;have r:=zz (zm w).rd;subst r;exact⟨n,m,rfl,rfl,L.nx _ _ _ _ ((F.gr g1).set (.sc rfl (.int _))) q⟩
def par3(i j:Nat)(t:TA3):TS3:=fun A ρ=>t ρ fun cs=>∃ f a g b,cs=[.sh f a,.sh g b]/\A.nx ((ρ.set i (some (.sh f a))).set j (some (.sh g b)))
theorem zjZ{i j:Nat}{x y:Str}{a b:Expr}{ta:TA3}{px py pt:Pos}{kt k2 pt2}(hc:X.calm=true)(hN:X.N.Nodup)(hi:X.N[i]?=some x)(hj:X.N[j]?=some y)(hij:i≠j)
 (hx:X.env.scope.names.lookup x=some .local) (hy:X.env.scope.names.lookup y=some .local) (ha:PA3 X H0 [a,b] ta)
 (hw:swappedStores [.Tuple [.Name x px,.Name y py] kt pt] (.Tuple [a,b] k2 pt2) X.env=pure (some [x,y]):=by rfl)
 (hs:swapsWithSole [.Tuple [.Name x px,.Name y py] kt pt] (.Tuple [a,b] k2 pt2) pos.line X.env=pure false:=by rfl) :
 PS3 X H0 (.Assign [.Tuple [.Name x px,.Name y py] kt pt] (.Tuple [a,b] k2 pt2) pos) (par3 i j ta):=
 PS.imp (zg1 hc hN hi hj hij hx hy ha.ok hw hs) fun B σ H=>el7 fun G0 A ρ G F q L=>⟨G0,ρ,G,F,ha.mono ρ _ _ (fun cs hyp vs G1 H1 g1 w=>by
  obtain⟨f,a,g,b,hcs,q⟩:=hyp;subst hcs;obtain⟨v,u,rfl,w1,w2⟩:=vws2 w;exact⟨v,u,rfl,L.nx _ _ _ _ (((F.gr g1).set (zm w1)).set (zm w2)) q⟩) q⟩
def idx3(to te:TE3):TE3:=fun ρ Q=>to ρ fun c=>∃ ds ns,c.dat=true/\c.d=.list ds/\Jf ds=some ns/\te ρ fun c2=>∃ g n,c2=.sh g (.int n)/\n∈ns/\Q (.sh true (.int (ns.idxOf n:Nat)))
theorem zhH{o:Expr}{apos:Pos}{to te:TE3}(ho:PE3 X H0 o to)(he:PE3 X H0 e te)(hb:attributeBase o "index" X.env (eval o X.env)=eval o X.env:=by rfl)
 (hf:((backTo pos (starEach [e] X.env)).all (fun x=>!x.1)&&(backToKw pos (keywordEach [] X.env)).all (fun x=>x.1.isSome)&&decide ([e].length+([]:List Keyword).length+(if([]:List Keyword).isEmpty then 0 else 1)<30))=true:=by rfl)
 (hl:(apos.endLine==pos.line)=true:=by rfl) (hs:starEach [e] X.env=(false,eval e X.env)::starEach [] X.env:=by rfl) (hp:(backTo pos (starEach [] X.env)).any (·.1)=false:=by rfl) :
 PE3 X H0 (.Call (.Attribute o "index" apos) [e] [] pos) (idx3 to te):=by
 refine⟨fun ρ Q Q' h q=>ho.mono ρ _ _ (fun c ⟨ds,ns,a,b,d,q⟩=>⟨ds,ns,a,b,d,he.mono ρ _ _ (fun c2 ⟨g,n,x,y,q⟩=>⟨g,n,x,y,h _ q⟩) q⟩) q,PE.imp (zaZ Wah Wai PySem.F.type_list_index zgD ho.ok (zl he.ok zF hs) hb hf hl hs hp) fun σ H Q=>el5 fun G0 ρ G F q=>⟨G0,ρ,G,F,ho.mono ρ _ _ (fun c hc0 v G1 H1 g1 w=>?_) q⟩⟩
 obtain⟨ds,ns,hd,hc,hu,q⟩:=hc0;obtain⟨a,vs,rfl,hq,rs⟩:=Jg w g1.sub hd hc;refine⟨.inl ⟨rfl,_,hq⟩,G0,ρ,G1,F.gr g1,he.mono ρ _ _ (fun c2 hc1 v2 G2 H2 g2 w2=>?_) q⟩
 obtain⟨g,n,rfl,hn,q⟩:=hc1;have r:=zz (zm w2).rd;subst r;have hvs:=zb6 rs.rd hu;subst hvs;exact⟨a,ns,n,rfl,rfl,g2.h.seq hq,hn,q _ G2 H2 (g1.trans g2) (.sh (.sc rfl (.int _)))⟩
def ext3(i:Nat)(te:TE3):TS3:=fun A ρ=>∃ f ds,ρ[i]?=some (some (.ow f ds))/\te ρ fun c=>∃ es,c=.sh true (.list es)/\ds.length+es.length<=sizeLine/\A.nx (ρ.set i (some (.ow f (ds++es))))
theorem zg5{i:Nat}{te:TE3}{x:Str}{np apos cpos:Pos}(hN:X.N[i]?=some x)(hv:Vis X.env.scope x)(he:PE3 X H0 e te)(hd:#[23]:=by decide)(hcd:#[20]:=by decide)
 (hb:attributeBase (.Name x np) "extend" X.env (eval (.Name x np) X.env)=eval (.Name x np) X.env:=by rfl)
 (hf:((backTo cpos (starEach [e] X.env)).all (fun x=>!x.1)&&(backToKw cpos (keywordEach [] X.env)).all (fun x=>x.1.isSome)&&decide ([e].length+([]:List Keyword).length+(if([]:List Keyword).isEmpty then 0 else 1)<30))=true:=by rfl)
 (hl:(apos.endLine==cpos.line)=true:=by rfl) (hs:starEach [e] X.env=(false,eval e X.env)::starEach [] X.env:=by rfl) (hp:(backTo cpos (starEach [] X.env)).any (·.1)=false:=by rfl)
 (hw:swapsWith (.Call (.Attribute (.Name x np) "extend" apos) [e] [] cpos) none pos.line X.env=pure false:=by rfl):PS3 X H0 (.Expr (.Call (.Attribute (.Name x np) "extend" apos) [e] [] cpos) pos) (ext3 i te):=by
 refine PS.imp (jT (zaZ Wah PySem.F.slot_list_extend PySem.F.type_list_extend zlQ (jw hN hv hd hcd) (zl he.ok zF hs) hb hf hl hs hp) hw) fun B σ H hyp=>?_
 obtain⟨G0,A,ρ,G,F,⟨f,ds,hi,q⟩,L⟩:=hyp;obtain⟨l,vs,h1,h2,r⟩:=zcd F hi;refine⟨.ref l,h1,zc6 h2,G0,ρ,G,F,he.mono ρ _ _ (fun c ⟨es,hc,hz,q⟩ v G' H' g w=>?_) q⟩
 subst hc;have rw':=zm w;have rn:=rw'.nw rfl;cases rn with
 | lst hG hn rs=>
  rename_i b xs;have ra:Rfs X.K H0 G' f (vs++xs) (ds++es):=⟨((r.same g.g).rd).append (rdns_rd rs),fun hf=>zcA ((r.same g.g).nw hf) rs⟩
  exact⟨l,b,vs,xs,rfl,rfl,g.h.at h2,g.sub.s _ _ hG,by rw [r.length,(rdns_rd rs).length];exact hz,L.nx _ _ _ _ ((F.gr g).change hi h1 ra) q⟩
end
end L3
namespace L2
open PySem PySem.Spec PyProof.Rows
theorem zjh:bootBuiltins "enumerate" = some (.type "enumerate"):=by with_unfolding_all rfl
def Ite(K:Ybf)(a:Addr):It:=
 ⟨fun i H=>∃ xs x,SqL K H a xs/\xs[i]?=some x,
  fun i H v H'=>∃ p x,H p=none/\v=.ref p/\H'=upd H p (.tup [.int i,x])/\∀ xs,SqL K H a xs->xs[i]?=some x,
  fun i H=>∃ xs,SqL K H a xs/\i=xs.length⟩
theorem zlO{P:Program}{w:World}{K:Ybf}{elts:List Expr}{k:Nat}{pos:Pos}{e it l:Addr}(hei:e≠it)(hle:l≠e)(hli:l≠it) :
 Turn P w K (.Tuple elts k pos) (Ite K l) [e,it] e (fun i h=>(∃ old,IsEnum h e it i old)/\h.IsListIter it l i) where
 mem:=by simp
 obj:=fun i h hyp c hc=>by
  obtain⟨⟨old,he⟩,⟨o1,e1,c1,d1⟩⟩:=hyp;have hc':c=e\/c=it:=by simpa using hc
  rcases hc' with rfl|rfl
  . exact⟨_,he,fun v z=>by cases(show Data.fields _=Data.cell v from z)⟩
  . exact⟨o1,e1,fun v z=>by rw [d1] at z;cases z⟩
 keep:=fun i h h' ⟨⟨old,he⟩,h1⟩ kk=>⟨⟨old,kk e (by simp) _ he⟩,h1.at fun o e=>kk it (by simp) o e⟩
 item:=by
  intro X hP hw hK hc i pins s σ H E I hf st hg;subst hP hw hK;obtain⟨xs,x,q1,hx⟩:=hg;obtain⟨its1,r1,p1,_⟩:=I.list q1;obtain⟨u,hu,ru⟩:=r1.get hx;have W:=WalksT.enumerate (prog:=X.prog) (w:=X.w) (A:=X.A) (I.ok.hd hc) e it l hei hle hli its1.toArray;have hi:i<its1.toArray.size:=by
   have a1:=(Ya8.mp hu).1;simp only [YaZ];omega
  obtain⟨he,h1⟩:=st;have olt:∀ b∈[e,it],b<s.heap.objs.size:=fun b hb=>by
   obtain⟨old,he'⟩:=he;have hc':b=e\/b=it:=by simpa using hb
   rcases hc' with rfl|rfl
   . exact YaX he'
   . obtain⟨_,e,_⟩:=h1;exact YaX e
  refine W.item i s _ _ hi ⟨he,h1,p1.isList⟩ fun T vals h1' tk hv' hT hTup mid kp=>?_
  obtain⟨t',u',hu',e'⟩:=hv';subst e';have eu:u'=u:=by
   have:its1[i]?=some u':=by simpa using hu'
   rw [hu] at this;cases this;rfl
  subst eu;refine⟨_,rfl,W.go elts k pos i T _ _ _ mid fun h2' st2 kp2=>?_⟩
  have I1:Inv X pins σ H { s with heap:=h2',toks:=tk }:=I.turnedL (ch:=[e,it]) (fun b o hb e=>kp2 b o hb (kp b o hb e)) fun b hb=>hf b hb
  have hTn:H T=none:=I.hok.fresh hT;obtain⟨o,ho,oc,on,od⟩:=hTup;have ho2:=kp2 T o (W.apart i T _ mid) ho;have I2:Inv X pins σ (upd H T (.tup [.int i,x])) { s with heap:=h2',toks:=tk }:=I1.track hTn (Ya5 I.sz hT) (Wa3 (YaU I.lt hT)) (fun n c e z=>by
   obtain⟨vv,q⟩:=I.cell n c e;exact absurd (YaU q.lt (by rw [z];exact hT)) (Yap _)) (fun p hp z=>absurd (YaU (YaX (I.pin p hp).1) (by rw [z];exact hT)) (Yap _))
   ⟨by show 2<=sizeLine;decide,[.int i t',u'],.cons ⟨t',rfl⟩ (.cons ru .nil),o,ho2,oc,on,od⟩
  refine⟨.ref T,_,I2,rfl,⟨T,x,hTn,rfl,rfl,fun xs' z1=>?_⟩,⟨st2.1,st2.2.1⟩,fun b hb=>?_⟩
  . rw [I.list_inj z1 q1];exact hx
  . rw [zd (Yaf (YaU (olt b hb) hT))];exact(hf b hb).1
 done:=by
  intro X hP hw hK hc i pins s σ H E I hf st hg;subst hP hw hK;obtain⟨xs,q1,hi⟩:=hg;obtain⟨its1,r1,p1,_⟩:=I.list q1;have W:=WalksT.enumerate (prog:=X.prog) (w:=X.w) (A:=X.A) (I.ok.hd hc) e it l hei hle hli its1.toArray;obtain⟨he,h1⟩:=st;have ei:i=its1.toArray.size:=by simp only [YaZ];rw [<-r1.length];exact hi
  subst ei;refine W.done s _ _ ⟨he,h1,p1.isList⟩ fun h' tk kp=>⟨rfl,?_⟩
  exact I.turnedL (ch:=[e,it]) kp fun b hb=>hf b hb
 self:=fun _ _ _ _ _ st h=>by obtain⟨⟨old,he⟩,_⟩:=st;exact wpAny_pyIter_enum he h
def zgN(K:Ybf)(ta:TA):TI:=fun σ H R=>ta σ H fun vs H1=>∃ a,vs=[.ref a]/\(∃ xs,SqL K H1 a xs)/\R (Ite K a) H1
theorem zkO{X:Cx}{elts:List Expr}{k:Nat}{tpos:Pos}{a:Expr}{ta:TA}{p pos:Pos}(hg:Gl X "enumerate")(hm:X.mg "enumerate" = none)(ha:PA X [a] ta)(hs:starEach [a] X.env=[(false,eval a X.env)]:=by rfl):PI X (.Tuple elts k tpos) (.Call (.Name "enumerate" p) [a] [] pos) (zgN X.K ta):=by
 intro pins s σ H R I h;refine Call_ (JA I hg hm zjh (Wab (thn (ha pos pins s σ H _ I h) fun us s1 ⟨vs,H1,I1,r1,q1⟩=>?_) (by rw [hs];rfl) rfl))
 obtain⟨l1,e,⟨xs,hx⟩,q⟩:=q1;subst e;obtain⟨u,rfl,ru⟩:=Jn r1;cases(show u=Value.ref l1 from ru)
 obtain⟨its1,_,p1,_⟩:=I1.list hx;have lt1:l1<s1.heap.objs.size:=by obtain⟨o,e,_⟩:=p1.isList;exact YaX e
 refine call_enumerate_list p1.isList fun h' he hi1 hsz kp=>wpAny_pyIter_enum he ?_
 have I2:Inv X pins σ H1 { s1 with heap:=h' }:=I1.kept (t':=s1.toks) kp
 refine⟨_,[s1.heap.objs.size+1,s1.heap.objs.size],_,Ite X.K l1,H1,rfl,I2,zlO (Nat.succ_ne_self _) (Yaf (Nat.lt_succ_of_lt lt1)) (Yaf lt1),⟨⟨_,he⟩,hi1⟩,fun b hb=>?_,q⟩
 have hb':s1.heap.objs.size<=b:=by
  have hc':b=s1.heap.objs.size+1\/b=s1.heap.objs.size:=by simpa using hb
  rcases hc' with rfl|rfl<;>omega
 have f:=I1.fpOk (H':=H1) hb' (I1.hok.fresh hb');exact⟨f.1,f.2.1,f.2.2.1,f.2.2.2.1,f.2.2.2.2.1,f.2.2.2.2.2⟩
end L2
namespace L3
open PySem PySem.Spec PyProof.Rows L2
variable[LamW]
section
variable{X:Cx}{H0:Hp}{pos p:Pos}
def jN(ds:List D):List D:=(List.range ds.length).map fun i=>.tuple [.int (i:Nat),ds.getD i .none]
theorem zhl(ds:List D):(jN ds).length=ds.length:=by unfold jN;simp
theorem zjl{ds:List D}{i:Nat}{d:D}(h:(jN ds)[i]?=some d):∃ a,d=.tuple [.int (i:Nat),a]/\ds[i]?=some a:=by
 unfold jN at h;rw [Ya0] at h
 by_cases hi:i<ds.length
 . rw [List.getElem?_range hi] at h
   cases h;exact⟨ds[i],by simp [hi],YaQ hi⟩
 . rw [Wan #[6]] at h;cases h
def itE(t:TA3):TI3:=fun ρ Q=>t ρ fun cs=>∃ f as,cs=[.sh f (.list as)]/\Q f (jN as)
theorem zlv{K:Ybf}{H0 G:Hp}{a:Addr}{xs:List V}{f:Bool}{as:List D}(h1:SqL K G a xs)(r1:Rfs K H0 G f xs as):ItOk K H0 (Ite K a) f (jN as) G where
 go:=fun i d G' H hd s1 s2=>by
  obtain⟨q,rfl,hq⟩:=zjl hd;obtain⟨x,hx,rx⟩:=r1.get hq;have ss:=s1.trans s2.s;refine⟨⟨xs,x,ss.seq h1,hx⟩,fun v H' ⟨l,x',hl,e1,e2,hh⟩=>?_⟩
  subst e1 e2;have z1:=hh xs (ss.seq h1);rw [hx] at z1;cases z1;have gl:=zG (s2.free hl) (.tup [.int i,x]);exact⟨upd G' l (.tup [.int i,x]),Gr.put s2 hl,⟨.tup (SqT.of zf) (.cons (.int _) (.cons (Zc (s1.trans gl) rx.rd) .nil)),fun hf=>
   .tup zf (.cons (.int _) (.cons (j0 (s1.trans gl) (fun _ _ _ z=>z) (rx.nw hf)) .nil))⟩⟩
 stop:=fun i G' H hl s1 s2=>⟨xs,(s1.trans s2.s).seq h1,by rw [hl,zhl,r1.length]⟩
theorem zbr{elts:List Expr}{k:Nat}{tpos:Pos}{a:Expr}{t:TA3}(hg:Gl X "enumerate")(hm:X.mg "enumerate" = none)(ha:PA3 X H0 [a] t)(hs:starEach [a] X.env=[(false,eval a X.env)]:=by rfl):PI3 X H0 (.Tuple elts k tpos) (.Call (.Name "enumerate" p) [a] [] pos) (itE t):=
 ⟨fun ρ Q Q' h q=>ha.mono ρ _ _ (fun cs ⟨f,as,e,q⟩=>⟨f,as,e,h _ _ q⟩) q,PI.imp (zkO hg hm ha.ok hs) fun σ H R=>el5 fun G0 ρ G F q=>⟨G0,ρ,G,F,ha.mono ρ _ _ (fun cs hyp vs G1 H1 g1 w=>by
  obtain⟨f,as,e,k⟩:=hyp;subst e;obtain⟨v,rfl,w1⟩:=vws1 w;obtain⟨a,xs,rfl,hq,rs⟩:=JN (zm w1);exact⟨a,rfl,⟨xs,g1.sub.seq hq⟩,k _ G1 H1 g1 (zlv hq rs)⟩) q⟩⟩
end
variable[LamW]
def TupI(K:Ybf)(a:Addr)(ns:List Int):Prop:=∃ (o:Obj) (its:Array Value) (n:Nat),K.lookup a=some o/\o.cls=.type "tuple"/\o.data=.seq its n/\its.size<=sizeLine/\Vals (ns.map V.int) its.toList
section
variable{X:Cx}{H0:Hp}{e:Expr}{pos:Pos}{x:Str}
def k3f(d:D):TE3:=fun _ Q=>Q (.sh false d)
theorem g3t{ns:List Int}(hg:Gl X x)(hm:∃ a,X.mg x=some (.ref a)/\TupI X.K a ns)(hd:#[23]:=by decide):PE3 X H0 (.Name x pos) (k3f (.tuple (ns.map .int))):=by
 obtain⟨a,hm,ht⟩:=hm;exact⟨fun ρ Q Q' h q=>h _ q,PE.imp (zbQ (v:=.ref a) hg hm rfl hd) fun σ H Q=>el5 fun G0 ρ G F q=>q (.ref a) G H (Gr.refl F.sub) (.sh ⟨.tup (.inr ht) (zcM ns),fun z=>by cases z⟩)⟩
end
variable[LamW]
section
variable{K:Ybf}{H0 G0:Hp}{ρ : Env3}{σ : L2.St}{G H:Hp}
theorem JR(F:#[22]){i:Nat}{ps:List Addr}{ms:List (List D)}(h:ρ[i]?=some (some (.tr ps ms))):∃ l,σ[i]?=some (some (.ref l))/\Tr K H0 G H l ps ms:=by
 obtain⟨v,h1,h2⟩:=F.slot i _ h;cases h2 with
 | tr t=>exact⟨_,h1,t⟩
theorem Tr.ix{l:Addr}{ps:List Addr}{ms:List (List D)}(t:Tr K H0 G H l ps ms){n:Int}{m:List D}(h:atI ms n=some m):∃ a p vs,ixN ms.length n=some a/\ms[a]?=some m/\ps[a]?=some p/\atI (ps.map V.ref) n=some (.ref p)/\H p=some (.lst vs)/\G p=none/\Rfs K H0 G true vs m:=by
 unfold atI at *;rw [YaR,t.len];cases e:ixN ms.length n with
 | none=>rw [e] at h;cases h
 | some a=>
  rw [e] at h;have h':ms[a]?=some m:=h;have ha:a<ps.length:=by rw [t.len];exact(Ya8.mp h').1
  have hp:ps[a]?=some ps[a]:=YaQ ha;obtain⟨vs,h1,h2,h3⟩:=t.item a _ m hp h';exact⟨a,ps[a],vs,rfl,h',hp,by rw [Option.bind_some,Ya0,hp];rfl,h1,h2,h3⟩
theorem Tr.change{l:Addr}{ps:List Addr}{ms:List (List D)}(t:Tr K H0 G H l ps ms){a:Nat}{p:Addr}{vs:List V}{m:List D}(hp:ps[a]?=some p)(r:Rfs K H0 G true vs m):Tr K H0 G (upd H p (.lst vs)) l ps (ms.set a m):=by
 have hpm:p∈ps:=Yah hp;have hn:=YaB.mp t.nd;have hlp:l≠p:=fun z=>by subst z;exact hn.1 hpm
 refine⟨by rw [zd hlp];exact t.top,t.topG,t.nd,by rw [YaN];exact t.len,fun k q m' h1 h2=>?_⟩
 rcases zL h2 with ⟨rfl,e,_⟩|⟨n,e⟩
 . rw [hp] at h1;cases h1
   rw [e];exact⟨vs,zf,((t.at hpm).choose_spec.choose_spec).2.1,r⟩
 . obtain⟨us,a1,a2,a3⟩:=t.item k q m' h1 e
   have hq:q≠p:=fun z=>by
    subst z;obtain⟨b1,c1⟩:=Ya8.mp h1;obtain⟨b2,c2⟩:=Ya8.mp hp;exact n ((WaG hn.2).mp (c2.trans c1.symm))
   exact⟨us,by rw [zd hq];exact a1,a2,a3⟩
theorem Fr3.chgT(F:#[22]){i:Nat}{l:Addr}{ps:List Addr}{ms:List (List D)}{a:Nat}{p:Addr}{vs:List V}{m:List D}(hi:ρ[i]?=some (some (.tr ps ms)))(hl:σ[i]?=some (some (.ref l)))(hp:ps[a]?=some p)(r:Rfs K H0 G true vs m):Fr3 K H0 G0 (ρ.set i (some (.tr ps (ms.set a m)))) σ G (upd H p (.lst vs)):=by
 obtain⟨l',hl',t⟩:=JR F hi;rw [hl] at hl';cases hl';exact F.chg hi hl (.inr (Yah hp)) (fun _ h=>h) (.tr (t.change hp r))
end
section
variable{X:Cx}{H0:Hp}{e k j:Expr}{pos:Pos}{x:Str}{i:Nat}
def ix2(i:Nat)(tk tj:TE3):TE3:=fun ρ Q=>∃ ps ms,ρ[i]?=some (some (.tr ps ms))/\tk ρ fun kc=>∃ n m,kc=.sh true (.int n)/\atI ms n=some m/\tj ρ fun jc=>∃ b d,jc=.sh true (.int b)/\atI m b=some d/\Q (.sh true d)
theorem at2{np kp:Pos}{tk tj:TE3}(hN:X.N[i]?=some x)(hv:Vis X.env.scope x)(hk:PE3 X H0 k tk)(hj:PE3 X H0 j tj)(hsk:Zs k)(hsj:Zs j)(hd:#[23]:=by decide)(hcd:#[20]:=by decide) :
 PE3 X H0 (.Subscript (.Subscript (.Name x np) k kp) j pos) (ix2 i tk tj):=by
 refine⟨fun ρ Q Q' h q=>?_,PE.imp (jI Ja (jI Ja (jw hN hv hd hcd) hk.ok hsk) hj.ok hsj) fun σ H Q=>el5 fun G0 ρ G F q=>?_⟩
 . obtain⟨ps,ms,hi,q⟩:=q
   refine⟨ps,ms,hi,hk.mono ρ _ _ (fun kc q=>?_) q⟩
   obtain⟨n,m,e1,e2,q⟩:=q;refine⟨n,m,e1,e2,hj.mono ρ _ _ (fun jc q=>?_) q⟩
   obtain⟨b,d,e3,e4,q⟩:=q;exact⟨b,d,e3,e4,h _ q⟩
 . obtain⟨ps,ms,hi,q⟩:=q
   obtain⟨l,hl,t⟩:=JR F hi;refine⟨.ref l,hl,G0,ρ,G,F,hk.mono ρ _ _ (fun kc q v1 G1 H1 g1 w1=>?_) q⟩
   obtain⟨n,m,e1,e2,q⟩:=q;subst e1;cases zz (zm w1).rd;have F1:=F.gr g1;obtain⟨l',hl',t1⟩:=JR F1 hi;rw [hl] at hl';cases hl';obtain⟨a,p,vs,h1,h2,h3,h4,h5,h6,h7⟩:=t1.ix e2;refine⟨l,_,n,.ref p,rfl,rfl,SqL.of t1.top,h4,G0,ρ,G1,F1,hj.mono ρ _ _ (fun jc q v2 G2 H2 g2 w2=>?_) q⟩
   obtain⟨b,d,e3,e4,q⟩:=q;subst e3;cases zz (zm w2).rd;obtain⟨v,hv,rv⟩:=ZU (h7.same g2.g) e4;exact⟨p,vs,b,v,rfl,rfl,SqL.of (g2.h.at h5),hv,q v G2 H2 (g1.trans g2) (.sh rv)⟩
def put2(i:Nat)(tk tj te:TE3):TS3:=fun A ρ=>∃ ps ms,ρ[i]?=some (some (.tr ps ms))/\te ρ fun c=>tk ρ fun kc=>∃ n m,kc=.sh true (.int n)/\atI ms n=some m/\tj ρ fun jc=>∃ b d a q,jc=.sh true (.int b)/\c=.sh true d/\ixN ms.length n=some a/\ixN m.length b=some q/\A.nx (ρ.set i (some (.tr ps (ms.set a (m.set q d)))))
theorem zdJ{tk tj te:TE3}{np kp spos:Pos}(hN:X.N[i]?=some x)(hv:Vis X.env.scope x)(hk:PE3 X H0 k tk)(hj:PE3 X H0 j tj)(he:PE3 X H0 e te)(hsk:Zs k)(hd:#[23]:=by decide)(hcd:#[20]:=by decide)
 (hs:swapsWithSole [.Subscript (.Subscript (.Name x np) k kp) j spos] e pos.line X.env=pure false:=by rfl) (hw:swappedStores [.Subscript (.Subscript (.Name x np) k kp) j spos] e X.env=pure none:=by rfl)
 (h1:(assignEach [.Subscript (.Subscript (.Name x np) k kp) j spos] X.env).map (·.2)=[assign (.Subscript (.Subscript (.Name x np) k kp) j spos) X.env]:=by rfl)
 (ha:∀ v,assign (.Subscript (.Subscript (.Name x np) k kp) j spos) X.env v=(do
  let ov <-holding [v] (eval (.Subscript (.Name x np) k kp) X.env)
  let iv <-holding [v,ov] (eval j X.env)
  standAt spos
  holding [v,ov,iv] (setItem ov iv v)
  release [v,ov,iv] []):=by intro _;rfl):PS3 X H0 (.Assign [.Subscript (.Subscript (.Name x np) k kp) j spos] e pos) (put2 i tk tj te):=by
 refine PS.imp (zcZ he.ok (zfe (jI Ja (jw hN hv hd hcd) hk.ok hsk) hj.ok ZG ha) hs hw h1) fun B σ H hyp=>?_
 obtain⟨G0,A,ρ,G,F,⟨ps,ms,hi,q⟩,L⟩:=hyp;obtain⟨l,hl,t⟩:=JR F hi;refine⟨G0,ρ,G,F,he.mono ρ _ _ (fun c q v G1 H1 g1 w1=>?_) q⟩
 have F1:=F.gr g1;refine⟨.ref l,hl,G0,ρ,G1,F1,hk.mono ρ _ _ (fun kc q v2 G2 H2 g2 w2=>?_) q⟩
 obtain⟨n,m,e1,e2,q⟩:=q;subst e1;cases zz (zm w2).rd;have F2:=F1.gr g2;obtain⟨l',hl',t2⟩:=JR F2 hi;rw [hl] at hl';cases hl';obtain⟨a,p,vs,k1,k2,k3,k4,k5,k6,k7⟩:=t2.ix e2;refine⟨l,_,n,.ref p,rfl,rfl,SqL.of t2.top,k4,G0,ρ,G2,F2,hj.mono ρ _ _ (fun jc q v3 G3 H3 g3 w3=>?_) q⟩
 obtain⟨b,d,a',z,e3,e4,e5,e6,q⟩:=q;subst e3 e4;cases zz (zm w3).rd;rw [k1] at e5;cases e5;refine⟨p,vs,b,z,rfl,rfl,g3.h.at k5,by rw [k7.length];exact e6,L.nx _ _ _ _ ((F2.gr g3).chgT hi hl k3 ((k7.same g3.g).set ((zm w1).same (g2.g.trans g3.g)) z)) q⟩
def app2(i:Nat)(tk te:TE3):TS3:=fun A ρ=>∃ ps ms,ρ[i]?=some (some (.tr ps ms))/\tk ρ fun kc=>∃ n m a,kc=.sh true (.int n)/\atI ms n=some m/\ixN ms.length n=some a/\m.length<sizeLine/\te ρ fun c=>∃ d,c=.sh true d/\A.nx (ρ.set i (some (.tr ps (ms.set a (m++[d])))))
theorem zlg{tk te:TE3}{np kp apos cpos:Pos}(hN:X.N[i]?=some x)(hv:Vis X.env.scope x)(hk:PE3 X H0 k tk)(he:PE3 X H0 e te)(hsk:Zs k)(hd:#[23]:=by decide)(hcd:#[20]:=by decide)
 (hb:attributeBase (.Subscript (.Name x np) k kp) "append" X.env (eval (.Subscript (.Name x np) k kp) X.env)=eval (.Subscript (.Name x np) k kp) X.env:=by rfl)
 (hf:((backTo cpos (starEach [e] X.env)).all (fun x=>!x.1)&&(backToKw cpos (keywordEach [] X.env)).all (fun x=>x.1.isSome)&&decide ([e].length+([]:List Keyword).length+(if([]:List Keyword).isEmpty then 0 else 1)<30))=true:=by rfl)
 (hl:(apos.endLine==cpos.line)=true:=by rfl) (hs:starEach [e] X.env=(false,eval e X.env)::starEach [] X.env:=by rfl) (hp:(backTo cpos (starEach [] X.env)).any (·.1)=false:=by rfl)
 (hw:swapsWith (.Call (.Attribute (.Subscript (.Name x np) k kp) "append" apos) [e] [] cpos) none pos.line X.env=pure false:=by rfl):PS3 X H0 (.Expr (.Call (.Attribute (.Subscript (.Name x np) k kp) "append" apos) [e] [] cpos) pos) (app2 i tk te):=by
 refine PS.imp (jT (zdu (jI Ja (jw hN hv hd hcd) hk.ok hsk) (zl he.ok zF hs) hb hf hl hs hp) hw) fun B σ H hyp=>?_
 obtain⟨G0,A,ρ,G,F,⟨ps,ms,hi,q⟩,L⟩:=hyp;obtain⟨l,hl,t⟩:=JR F hi;refine⟨.ref l,hl,G0,ρ,G,F,hk.mono ρ _ _ (fun kc q v2 G2 H2 g2 w2=>?_) q⟩
 obtain⟨n,m,a',e1,e2,e5,e6,q⟩:=q;subst e1;cases zz (zm w2).rd;have F2:=F.gr g2;obtain⟨l',hl',t2⟩:=JR F2 hi;rw [hl] at hl';cases hl';obtain⟨a,p,vs,k1,k2,k3,k4,k5,k6,k7⟩:=t2.ix e2;rw [k1] at e5;cases e5;refine⟨l,_,n,.ref p,rfl,rfl,SqL.of t2.top,k4,zc6 k5,G0,ρ,G2,F2,he.mono ρ _ _ (fun c q v G3 H3 g3 w3=>?_) q⟩
 obtain⟨d,e3,q⟩:=q;subst e3;exact⟨p,vs,v,rfl,rfl,g3.h.at k5,by rw [k7.length];exact e6,L.nx _ _ _ _ ((F2.gr g3).chgT hi hl k3 ((k7.same g3.g).snoc (zm w3))) q⟩
def ZD(i:Nat)(ti:TI3)(m:List D):TS3:=fun A ρ=>ti ρ fun _ ds=>ds.length<=1000000/\∀ ps:List Addr,ps.length=ds.length->A.nx (ρ.set i (some (.tr ps (List.replicate ds.length m))))
theorem zc2(lo:Int)(n:Nat):(nums lo n).length=n:=by unfold nums;rw [YaR,YaG]
theorem ze5{es:List Expr}{kn:Str}{kp lp:Pos}{iter:Expr}{scope:Scope}{spos pos':Pos}{ti:TI3}{te:TE}{vs:List V}{m:List D}(hN:X.N.Nodup)(hix:X.N[i]?=some x)(hx:Loc X.env.scope x)(tn fn:List Str)(js:List Nat)(hcalm:X.calm=true)(S:CompSc X.env.scope scope tn fn)(hj:js.map (fun j=>X.N[j]?)=fn.map some)
 (hi:PI3 X H0 (.Name kn kp) iter ti)
 (hb:∀ s H fp cl,PG #[17] (.Name kn kp) (zbv 0)/\PE #[17] (.List es lp) te)
 (ht:∀ σ H Q,(∀ p,H p=none->Q (.ref p) (upd H p (.lst vs)))->te σ H Q) (hr:∀ G,RdVs X.K G vs m) (hsc:m.all zw=true)
 (hs:∀ x,foldedSetIterable iter X.env x=pure x:=by intro _;rfl)
 (hsw:swapsWith (.ListComp (.List es lp) [⟨.Name kn kp,iter,[],0⟩] scope pos) (some (.Name x pos')) spos.line X.env=pure true:=by rfl) (hf:#[19]:=by first|exact .inl rfl|exact .inr rfl|assumption) :
 PS3 X H0 (.Assign [.Name x pos'] (.ListComp (.List es lp) [⟨.Name kn kp,iter,[],0⟩] scope pos) spos) (ZD i ti m):=by
 refine PS.imp (zbl hN hix hx tn fn js hcalm S hj hi.ok (fun s H fp cl=>⟨(hb s H fp cl).1,za4,(hb s H fp cl).2⟩) hs hsw hf) fun B σ H hyp=>?_
 obtain⟨G0,A,ρ,G,F,q,L⟩:=hyp;refine⟨G0,ρ,G,F,hi.mono ρ _ _ (fun fl ds q J G1 H1 g1 ok D hD=>?_) q⟩
 obtain⟨e2,q⟩:=q;generalize hn:ds.length=n at e2 q;have F1:=F.gr g1;have gD:G1 D=none:=g1.sub.free hD;refine⟨fun c r ys σ2 H2=>c<=n/\r=n - c/\zh H1 H2/\∃ ps:List Addr,ys=ps.map V.ref/\ps.length=c/\H2 D=some (.lst ys)/\(D::ps).Nodup/\∀ p∈ps,H1 p=none/\H2 p=some (.lst vs),
  ⟨n,Wa9 _,rfl,(zG hD _).x,[],rfl,rfl,zf,by simp,fun p hp=>by cases hp⟩,?_⟩
 rintro c r ys σ2 H2 ⟨hcn,rfl,s2,ps,rfl,hpl,hHD,hnd,hps⟩
 have sG:Sub G1 H2:=g1.sub.trans s2
 by_cases hlt:c<n
 . right
   have hc':c<ds.length:=by rw [hn];exact hlt
   have hd:ds[c]?=some ds[c]:=YaQ hc';obtain⟨hgo,hy⟩:=ok.go c _ G1 H2 hd (Same.refl _) sG;refine⟨hgo,fun x3 H3 y3=>?_⟩
   obtain⟨G3,g3,_⟩:=hy x3 H3 y3;show te _ H3 _;refine ht _ _ _ fun p hp=>?_
   have h3D:H3 D=some (.lst (ps.map V.ref)):=g3.h.at hHD;have pD:p≠D:=fun z=>by subst z;rw [hp] at h3D;cases h3D
   have p1:H1 p=none:=(s2.trans g3.h).free hp;refine⟨by rw [zd (Wbb pD)];exact h3D,?_,n - (c+1),#[0],#[0],rfl,?_,ps++[p],by rw [Ya2];rfl,by rw [YaS,hpl];rfl,zf,?_,?_⟩
   . rw [YaR,hpl]
     exact YaU (show c<1000001 by omega) #[1]
   . exact((s2.trans g3.h).trans (zG hp _).x).chg hD (by rw [zd (Wbb pD)];exact h3D) fun f z=>by cases z
   . rw [<-List.cons_append]
     refine Wax.mpr ⟨hnd,by simp,fun a ha b hb=>?_⟩
     cases Ya6.mp hb
     intro z;subst z
     rcases WaU.mp ha with h|h
     . exact pD h
     . have:=g3.h.at (hps a h).2
       rw [hp] at this;cases this
   . intro b hb
     rcases Ya3.mp hb with h|h
     . have hbD:b≠D:=fun z=>by subst z;exact(YaB.mp hnd).1 h
       have hbp:b≠p:=fun z=>by
        subst z;have:=g3.h.at (hps b h).2;rw [hp] at this;cases this
       exact⟨(hps b h).1,by rw [zd hbD,zd hbp];exact g3.h.at (hps b h).2⟩
     . cases Ya6.mp h
       exact⟨p1,by rw [zd pD];exact zf⟩
 . left
   have ec:c=n:=Nat.le_antisymm hcn (Nat.not_lt.mp hlt);subst ec;refine⟨ok.stop c G1 H2 hn.symm (Same.refl _) sG,?_⟩;refine L.nx _ _ G1 H2 (F1.put s2 (.tr ⟨hHD,gD,hnd,by rw [hpl,Ybb],fun k p m' h1 h2=>?_⟩) fun a h=>?_) (q ps hpl)
   . have hm':m'=m:=by
      have:=Yah h2;exact Wag this
     subst hm';have hp:=Yah h1;exact⟨vs,(hps p hp).2,g1.sub.free (hps p hp).1,hr _,fun _=>zf8 hsc (hr _)⟩
   . rcases h with h|h
     . cases h;exact hD
     . exact(hps a h).1
end
end L3
namespace L2
open PySem PySem.Spec PyProof.Rows
section
variable{κ : Type}[DecidableEq κ]
def valV(kvs:List (κ×V))(k:κ):Option V:=(kvs.find? fun kv=>decide (kv.1=k)).map (·.2)
def putK(kvs:List (κ×V))(k:κ)(v:V):List (κ×V):=
 if(kvs.any fun kv=>decide (kv.1=k))=true then kvs.map (fun kv=>if kv.1=k then(kv.1,v) else kv) else kvs++[(k,v)]
def zfT(kvs:List (κ×V))(k:κ):List (κ×V):=kvs.filter fun kv=>decide (kv.1≠k)
theorem ZA{p:κ×V}{r:List (κ×V)}{k:κ}(e:p.1=k):valV (p::r) k=some p.2:=by simp [valV,List.find?_cons,e]
theorem Z0{p:κ×V}{r:List (κ×V)}{k:κ}(e:¬p.1=k):valV (p::r) k=valV r k:=by simp [valV,List.find?_cons,e]
theorem zeN(k:κ):∀ kvs:List (κ×V),(kvs.any fun kv=>decide (kv.1=k))=(valV kvs k).isSome
 | []=>rfl
 | p :: r => by
  rw [List.any_cons]
  by_cases e:p.1=k
  . simp only [ZA e,decide_eq_true e,Wa5,Option.isSome_some]
  . rw [Z0 e,decide_eq_false e,WaX];exact zeN k r
theorem zfN(kvs:List (κ×V))(k:κ)(v:V):(putK kvs k v).length<=kvs.length+1:=by
 unfold putK
 split
 . rw [YaR];omega
 . rw [YaS,List.length_cons,List.length_nil];omega
theorem RelO.isSome_eq{o:Option V}{u:Option Value}(r:RelO o u):o.isSome=u.isSome:=by
 cases o with
 | none => cases u with
  | none=>rfl
  | some _=>exact(show False from r).elim
 | some _ => cases u with
  | none=>exact(show False from r).elim
  | some _=>rfl
theorem RelO.getD{o:Option V}{u:Option Value}{d:V}{d':Value}(r:RelO o u)(rd:RelV d d'):RelV (o.getD d) (u.getD d'):=by
 cases o with
 | none => cases u with
  | none=>exact rd
  | some _=>exact(show False from r).elim
 | some _ => cases u with
  | none=>exact(show False from r).elim
  | some _=>exact r
theorem KV.val{kvs:List (κ×V)}{vs:List (κ×Value)}(r:KV kvs vs)(k:κ):RelO (valV kvs k) (valueAt vs k):=by
 unfold KV at r
 induction r with
 | nil=>exact True.intro
 | @cons p q ps qs h t ih=>
  obtain⟨h1,h2⟩:=h
  by_cases e:p.1=k
  . have e':q.1=k:=h1.symm.trans e
    have b:valueAt (q::qs) k=some q.2:=by simp [valueAt,List.find?_cons,e']
    rw [ZA e,b];exact h2
  . have e':¬q.1=k:=fun z=>e (h1.trans z)
    have b:valueAt (q::qs) k=valueAt qs k:=by simp [valueAt,List.find?_cons,e']
    rw [Z0 e,b];exact ih
theorem KV.any{kvs:List (κ×V)}{vs:List (κ×Value)}(r:KV kvs vs)(k:κ):(kvs.any fun kv=>decide (kv.1=k))=vs.any fun kv=>decide (kv.1=k):=by
 unfold KV at r
 induction r with
 | nil=>rfl
 | cons h t ih=>rw [List.any_cons,List.any_cons,ih,h.1]
theorem KV.repl{kvs:List (κ×V)}{vs:List (κ×Value)}(r:KV kvs vs)(k:κ){y:V}{u:Value}(ry:RelV y u) :
 KV (kvs.map fun kv=>if kv.1=k then(kv.1,y) else kv) (vs.map fun kv=>if kv.1=k then(kv.1,u) else kv):=by
 unfold KV at r ⊢
 induction r with
 | nil=>exact .nil
 | @cons p q ps qs h t ih=>
  rw [Ya1,Ya1];refine .cons ?_ ih;obtain⟨h1,h2⟩:=h
  by_cases e:p.1=k
  . rw [if_pos e,if_pos (h1.symm.trans e)];exact⟨h1,ry⟩
  . rw [if_neg e,if_neg (fun z=>e (h1.trans z))];exact⟨h1,h2⟩
theorem KV.put{kvs:List (κ×V)}{vs:List (κ×Value)}(r:KV kvs vs)(k:κ){y:V}{u:Value}(ry:RelV y u):KV (putK kvs k y) (stored vs k u):=by
 unfold putK stored;rw [r.any k]
 by_cases e:(vs.any fun kv=>decide (kv.1=k))=true
 . rw [if_pos e,if_pos e];exact r.repl k ry
 . rw [if_neg e,if_neg e];exact Paired.snoc r ⟨rfl,ry⟩
theorem KV.length{kvs:List (κ×V)}{vs:List (κ×Value)}(r:KV kvs vs):kvs.length=vs.length:=WaT r
end
theorem JZ{P:Program}{w:World}{k:Key}{u:Value}(r:RelV (kV k) u):(z8 P w).is k u=true:=by
 cases k with
 | inl i=>obtain⟨t,e⟩:=(show ∃ t,u=Value.int i t from r);subst e;exact zkV P w i t
 | inr x=>obtain⟨t,e⟩:=(show ∃ t,u=Value.str x t from r);subst e;exact ziW P w x t
theorem zei{P:Program}{w:World}:∀ {ks:List Key} {us:List Value},Vals (ks.map kV) us->ItemsAre (z8 P w) ks us
 | [],_,r=>by rw [Wa4] at r;cases r;exact .nil
 | k :: ks, _, r => by
  rw [Ya1] at r;cases r with
  | cons h t=>exact .cons (JZ h) (zei t)
abbrev KT(H:Hp):List (List Key×V)->List (List Key×Addr×Value)->Prop:=Paired fun p q=>p.1=q.1/\H q.2.1=some (.tup (p.1.map kV))/\RelV p.2 q.2.2
theorem KT.val{H:Hp}{kvs:List (List Key×V)}{xs:List (List Key×Addr×Value)}(r:KT H kvs xs)(k:List Key):RelO (valV kvs k) ((atKey xs k).map (·.2)):=by
 induction r with
 | nil=>exact True.intro
 | @cons p q ps qs h t ih=>
  obtain⟨h1,_,h2⟩:=h
  by_cases e:p.1=k
  . have e':q.1=k:=h1.symm.trans e
    have b:atKey (q::qs) k=some q.2:=by simp [atKey,List.find?_cons,e']
    rw [ZA e,b];exact h2
  . have e':¬q.1=k:=fun z=>e (h1.trans z)
    have b:atKey (q::qs) k=atKey qs k:=by simp [atKey,List.find?_cons,e']
    rw [Z0 e,b];exact ih
theorem KT.repl{H:Hp}{kvs:List (List Key×V)}{xs:List (List Key×Addr×Value)}(r:KT H kvs xs)(k:List Key){y:V}{u:Value}(ry:RelV y u) :
 KT H (kvs.map fun kv=>if kv.1=k then(kv.1,y) else kv) (xs.map (putAt k u)):=by
 induction r with
 | nil=>exact .nil
 | @cons p q ps qs h t ih=>
  rw [Ya1,Ya1];refine .cons ?_ ih;obtain⟨h1,h2,h3⟩:=h;unfold putAt
  by_cases e:p.1=k
  . rw [if_pos e,if_pos (h1.symm.trans e)];exact⟨h1,h2,ry⟩
  . rw [if_neg e,if_neg (fun z=>e (h1.trans z))];exact⟨h1,h2,h3⟩
theorem KT.put{H:Hp}{kvs:List (List Key×V)}{xs:List (List Key×Addr×Value)}(r:KT H kvs xs)(k:List Key){b:Addr}{y:V}{u:Value}(hb:H b=some (.tup (k.map kV)))(ry:RelV y u) :
 KT H (putK kvs k y) (storedH xs k b u):=by
 have e:(kvs.any fun kv=>decide (kv.1=k))=(atKey xs k).isSome:=by
  rw [zeN,(r.val k).isSome_eq,WaA]
 unfold putK storedH;rw [e]
 by_cases q:(atKey xs k).isSome=true
 . rw [if_pos q,if_pos q];exact r.repl k ry
 . rw [if_neg q,if_neg q];exact Paired.snoc r ⟨rfl,hb,ry⟩
theorem KT.keeps{H H':Hp}{kvs:List (List Key×V)}{xs:List (List Key×Addr×Value)}(r:KT H kvs xs)(ht:∀ b ys,H b=some (.tup ys)->H' b=some (.tup ys)):KT H' kvs xs:=
 Paired.mapP r fun _ _ z=>⟨z.1,ht _ _ z.2.1,z.2.2⟩
section
variable{P:Program}{w:World}{H:Hp}{h:Heap}{a:Addr}
theorem zeV{u:HO}(ok:HOk P w H h)(e:Rd H a u):zJ P w H h a u:=e.ok ok
theorem JT{kvs:List (Key×V)}(ok:HOk P w H h)(e:Rd H a (.dK kvs)):kvs.length<=sizeLine/\(a==sysModules)=false/\∃ vs,KV kvs vs/\h.DictOf (z8 P w) a vs:=
 show zJ P w H h a (.dK kvs) from zeV ok e
theorem ziN{kvs:List (Key×V)}(ok:HOk P w H h)(e:H a=some (.dK kvs)):kvs.length<=sizeLine/\(a==sysModules)=false/\∃ vs,KV kvs vs/\h.DictOf (z8 P w) a vs:=JT ok (.inl e)
theorem J8{ks:List Key}(ok:HOk P w H h)(e:H a=some (.tup (ks.map kV))):(tupleKind (z8 P w)).is h ks a:=by
 obtain⟨_,its,r,o,h1,h2,n,h3⟩:=(show zJ P w H h a (.tup (ks.map kV)) from ok a _ e)
 exact⟨o,its.toArray,n,h1,h2,h3,by simpa using zei r⟩
theorem JJ{kvs:List (List Key×V)}(ok:HOk P w H h)(e:Rd H a (.dT kvs)):kvs.length<=sizeLine/\(a==sysModules)=false/\
 ∃ xs,KT H kvs xs/\h.DictOfH (tupleKind (z8 P w)) a xs:=by
 obtain⟨z,y,xs,r,o,es,ep,h1,h2,h3,h4,h5⟩:=(show zJ P w H h a (.dT kvs) from zeV ok e)
 refine⟨z,y,xs,r,o,es,ep,h1,h2,h3,h4,fun x hx=>?_,h5⟩
 have all:∀ {l:List (List Key×V)} {m:List (List Key×Addr×Value)},KT H l m->∀ x∈m,(tupleKind (z8 P w)).is h x.1 x.2.1:=by
  intro l m q
  induction q with
  | nil=>intro x hx;exact nomatch hx
  | @cons p q ps qs hq t ih=>
   intro x hx
   rcases WaU.mp hx with e|hx
   . subst e
     exact J8 ok (by rw [<-hq.1];exact hq.2.1)
   . exact ih x hx
 exact all r x hx
theorem zhV{kvs:List (List Key×V)}(ok:HOk P w H h)(e:H a=some (.dT kvs)):kvs.length<=sizeLine/\(a==sysModules)=false/\
 ∃ xs,KT H kvs xs/\h.DictOfH (tupleKind (z8 P w)) a xs:=JJ ok (.inl e)
end
def DGet(H:Hp)(a:Addr)(y:V)(r:Option V):Prop:=
 (∃ kvs k,Rd H a (.dK kvs)/\y=kV k/\r=valV kvs k)\/∃ kvs k b,Rd H a (.dT kvs)/\y=.ref b/\H b=some (.tup (k.map kV))/\r=valV kvs k
def DPut(H:Hp)(a:Addr)(y v:V)(H':Hp):Prop:=
 (∃ kvs k,H a=some (.dK kvs)/\y=kV k/\kvs.length<sizeLine/\H'=upd H a (.dK (putK kvs k v)))\/
 ∃ kvs k b,H a=some (.dT kvs)/\y=.ref b/\H b=some (.tup (k.map kV))/\kvs.length<sizeLine/\H'=upd H a (.dT (putK kvs k v))
theorem DGet.k{H:Hp}{a:Addr}{kvs:List (Key×V)}{k:Key}(e:H a=some (.dK kvs)):DGet H a (kV k) (valV kvs k):=.inl ⟨kvs,k,.inl e,rfl,rfl⟩
theorem DPut.k{H:Hp}{a:Addr}{kvs:List (Key×V)}{k:Key}{v:V}(e:H a=some (.dK kvs))(hl:kvs.length<sizeLine):DPut H a (kV k) v (upd H a (.dK (putK kvs k v))):=.inl ⟨kvs,k,e,rfl,hl,rfl⟩
theorem DPut.t{H:Hp}{a b:Addr}{kvs:List (List Key×V)}{k:List Key}{v:V}(e:H a=some (.dT kvs))(eb:H b=some (.tup (k.map kV)))(hl:kvs.length<sizeLine) :
 DPut H a (.ref b) v (upd H a (.dT (putK kvs k v))):=.inr ⟨kvs,k,b,e,rfl,eb,hl,rfl⟩
section
variable{X:Cx}{pins:List #[18]}{σ : St}{H:Hp}{s:Shared}{a:Addr}{y v:V}{u r:Value}{o:Option V}{A:Around}{E:#[14]}
theorem Inv.big(I:#[11]):sysModules<s.heap.objs.size:=by
 have h:mainGlobals<s.heap.objs.size:=(I.mod.glob.keeps I.bk).lt;exact Nat.lt_trans #[1] h
theorem zk0{Q:#[14]}(hu:A.units+1<cLine)(I:#[11])(g:DGet H a y (some v))(ry:RelV y u)(h:∀ w' s',Inv X pins σ H s'->RelV v w'->Q w' s') :
 wpAny #[12] A (getItem (.ref a) u) Q E s:=by
 rcases g with ⟨kvs,k,e,ey,l⟩|⟨kvs,k,b,e,ey,eb,l⟩
 . subst ey
   obtain⟨z,hd,vs,rel,dd⟩:=JT I.hok e;obtain⟨w',hw,rw'⟩:=RelO.some_of (v:=v) (o:=valueAt vs k) (by rw [l];exact rel.val k)
   exact wpAny_getItem_of (JZ ry) dd.mapOf hw (h w' _ (I.tok _) rw')
 . subst ey
   cases(show u=Value.ref b from ry)
   obtain⟨z,hd,xs,rel,dd⟩:=JJ I.hok e;obtain⟨w',hw,rw'⟩:=RelO.some_of (v:=v) (o:=(atKey xs k).map (·.2)) (by rw [l];exact rel.val k)
   obtain⟨p,hp,hp2⟩:=Option.map_eq_some_iff.mp hw;refine wpAny_getItem_heap (tupleKind_room_in1 hu) (J8 I.hok eb) dd hp ?_;rw [hp2];exact h w' _ (I.tok _) rw'
theorem d_in{Q:#[14]}(hu:A.units+1<cLine)(I:#[11])(g:DGet H a y o)(ry:RelV y u)(h:∀ s',Inv X pins σ H s'->Q (.bool o.isSome) s') :
 wpAny #[12] A (compareOp .In u (.ref a)) Q E s:=by
 rcases g with ⟨kvs,k,e,ey,l⟩|⟨kvs,k,b,e,ey,eb,l⟩
 . subst ey
   obtain⟨z,hd,vs,rel,dd⟩:=JT I.hok e;refine wpAny_in_of (JZ ry) hd dd.mapOf ?_;rw [<-(rel.val k).isSome_eq,<-l];exact h _ (I.tok _)
 . subst ey
   cases(show u=Value.ref b from ry)
   obtain⟨z,hd,xs,rel,dd⟩:=JJ I.hok e;refine wpAny_in_heap (tupleKind_room_in1 hu) (J8 I.hok eb) hd dd ?_;have q:=(rel.val k).isSome_eq;rw [WaA] at q;rw [<-q,<-l];exact h _ (I.tok _)
theorem zgk{Q:#[14]}(hu:A.units+1<cLine)(I:#[11])(g:DGet H a y o)(ry:RelV y u)(h:∀ s',Inv X pins σ H s'->Q (.bool (!o.isSome)) s') :
 wpAny #[12] A (compareOp .NotIn u (.ref a)) Q E s:=by
 rcases g with ⟨kvs,k,e,ey,l⟩|⟨kvs,k,b,e,ey,eb,l⟩
 . subst ey
   obtain⟨z,hd,vs,rel,dd⟩:=JT I.hok e;refine wpAny_notIn_of (JZ ry) hd dd.mapOf ?_;rw [<-(rel.val k).isSome_eq,<-l];exact h _ (I.tok _)
 . subst ey
   cases(show u=Value.ref b from ry)
   obtain⟨z,hd,xs,rel,dd⟩:=JJ I.hok e;refine wpAny_notIn_heap (tupleKind_room_in1 hu) (J8 I.hok eb) hd dd ?_;have q:=(rel.val k).isSome_eq;rw [WaA] at q;rw [<-q,<-l];exact h _ (I.tok _)
theorem ze1{h':Heap}{t':Nat}{ob:HO}(I:#[11])(mu:Mut (H a))(hs:Heap.SameBut a s.heap h')(he:∃ q,h'.get? a=some q)(new:zJ X.prog X.w (upd H a ob) h' a ob) :
 Inv X pins σ (upd H a ob) { s with heap:=h',toks:=t' }:=
 I.write (x:=a) (e:=a) mu (.inl rfl) (fun b q hb z=>(hs.2 b hb).trans z) he new
theorem zkD{P:Program}{w:World}{H':Hp}{h':Heap}{kvs:List (Key×V)}{vs:List (Key×Value)}(z:kvs.length<=sizeLine)(hd:(a==sysModules)=false)(rel:KV kvs vs)(dd:h'.DictOf (z8 P w) a vs) :
 zJ P w H' h' a (.dK kvs):=⟨z,hd,vs,rel,dd⟩
theorem zlw{H':Hp}{Q:Unit->Shared->Prop}(hu:A.units+1<cLine)(I:#[11])(g:DPut H a y v H')(ry:RelV y u)(rv:RelV v r)(h:∀ s',Inv X pins σ H' s'->Q () s') :
 wpAny #[12] A (setItem (.ref a) u r) Q E s:=by
 rcases g with ⟨kvs,k,e,ey,l,eH⟩|⟨kvs,k,b,e,ey,eb,l,eH⟩
 . subst ey eH
   obtain⟨z,hd,vs,rel,dd⟩:=ziN I.hok e;have hz:vs.length<=sizeLine:=by rw [<-rel.length];exact z
   have hl:(putK kvs k v).length<=sizeLine:=by have:=zfN kvs k v;omega
   refine wpAny_setItem_pairs (hsz:=hz) (JZ ry) dd fun h' dd' hs=>h _ ?_
   have he:∃ q,h'.get? a=some q:=let ⟨q,_,_,hq,_⟩:=dd';⟨q,hq⟩;exact ze1 I (by rw [e];exact True.intro) hs he (zkD hl hd (rel.put k rv) dd')
 . subst ey eH
   cases(show u=Value.ref b from ry)
   obtain⟨z,hd,xs,rel,dd⟩:=zhV I.hok e;have hz:xs.length<=sizeLine:=by rw [<-WaT rel];exact z
   have hl:(putK kvs k v).length<=sizeLine:=by have:=zfN kvs k v;omega
   refine wpAny_setItem_heap (hsz:=hz) (tupleKind_room_in1 hu) (J8 I.hok eb) dd fun h' dd' hs=>h _ ?_
   obtain⟨q,es,ep,hq,h2,h3,h4,_,h5⟩:=dd';refine ze1 I (by rw [e];exact True.intro) hs ⟨q,hq⟩ ⟨hl,hd,_,(rel.put k eb rv).keeps fun c ys ec=>?_,q,es,ep,hq,h2,h3,h4,h5⟩
   rw [zd (zjm ec e (fun z=>nomatch z))]
   exact ec
end
section
variable{X:Cx}{pins:List #[18]}{σ : St}{H:Hp}{s:Shared}{a:Addr}{kvs:List (Key×V)}{k:Key}{u:Value}{A:Around}{E:#[14]}
end
def NoSl(i:Expr):Prop:=∀ ov iv,subscripted i false ov iv=operate [ov,iv] (getItem ov iv)
theorem zly{prog:Program}{w:World}{A:Around}{E:#[14]}{s:Shared}{env:Env}{value slice:Expr}{pos:Pos}{T id:String}{Q:#[14]}
 (hl:typeLookup (.type T) "__getitem__" = pure (some (.builtin id))) (hs:NoSl slice)
 (h:wpAny (model prog w) A (eval value env) (fun o s₁=>wpAny (model prog w) A (eval slice env) (fun i s₂=>s₂.TypeIs o T/\wpAny (model prog w) A (getItem o i) Q E s₂) E s₁) E s) :
 wpAny (model prog w) A (eval (.Subscript value slice pos) env) Q E s:=by
 refine Subscript_ (wpAny_mono h (fun o s₁ h₁=>wpAny_mono h₁ (fun i s₂ h₂=>?_) fun _ _ x=>x) fun _ _ x=>x)
 obtain⟨hT,h₂⟩:=h₂;unfold subscriptTail;refine wpAny_bind ?_;rw [getitemInPython_of_ne hT.not_modules];refine wpAny_bind (wpAny_specialOf hT hl ?_);have fin:wpAny (model prog w) A (subscripted slice false o i) (fun r s₃=>wpAny (model prog w) A (letTemporaryGo value o r >>= fun _=>pure r) Q E s₃) E s₂:=by
  rw [hs o i];exact wpAny_operating (wpAny_mono h₂ (fun r s₃ h₃=>wpAny_bind (wpAny_letTemporaryGo (wpAny_pure h₃))) fun _ _ x=>x)
 first
  | exact wpAny_pure (wpAny_bind fin)
  | exact wpAny_bind (wpAny_pure (wpAny_bind fin))
  | exact wpAny_bind fin
theorem zjS{X:Cx}{pins:List #[18]}{σ : St}{H:Hp}{s:Shared}{a:Addr}{y:V}{o:Option V}(I:#[11])(g:DGet H a y o):s.TypeIs (.ref a) "dict":=by
 rcases g with ⟨kvs,k,e,_,_⟩|⟨kvs,k,b,e,_,_,_⟩
 . obtain⟨_,_,vs,_,dd⟩:=JT I.hok e
   exact dd.typeIs
 . obtain⟨_,_,xs,_,dd⟩:=JJ I.hok e
   exact dd.typeIs
def zg4(td ty:TE):TE:=fun σ H Q=>td σ H fun x H1=>ty σ H1 fun y H2=>∃ a v,x=.ref a/\DGet H2 a y (some v)/\Q v H2
def tDIn(ty td:TE):TE:=fun σ H Q=>ty σ H fun y H1=>td σ H1 fun x H2=>∃ a o,x=.ref a/\DGet H2 a y o/\Q (.bl o.isSome) H2
def zjP(ty td:TE):TE:=fun σ H Q=>ty σ H fun y H1=>td σ H1 fun x H2=>∃ a o,x=.ref a/\DGet H2 a y o/\Q (.bl (!o.isSome)) H2
def zcW(td ty tv:TE):TS:=fun D σ H=>tv σ H fun v H1=>td σ H1 fun x H2=>ty σ H2 fun y H3=>∃ a H4,x=.ref a/\DPut H3 a y v H4/\D.nx σ H4
section
variable{X:Cx}{o i e value:Expr}{pos pos' tpos:Pos}{td ty tv:TE}
theorem jU(hu:X.A.units+1<cLine)(ho:PE X o td)(hi:PE X i ty)(hs:NoSl i):PE X (.Subscript o i pos) (zg4 td ty):=by
 intro pins s σ H Q I h;refine zly PySem.F.slot_dict_getitem.lookup hs (thn (ho pins s σ H _ I h) fun u s1 ⟨x,H1,I1,rx,q1⟩=>thn (hi pins s1 σ H1 _ I1 q1) fun iv s2 ⟨y,H2,I2,ry,a,v,ex,g,q2⟩=>?_)
 subst ex;obtain rfl:u=Value.ref a:=rx;exact⟨zjS I2 g,zk0 hu I2 g ry fun w' s3 I3 rw'=>⟨v,H2,I3,rw',q2⟩⟩
theorem zgZ(hu:X.A.units+1<cLine)(hi:PE X i ty)(ho:PE X o td):PC X .In i o (tDIn ty td):=by
 intro pins s σ H Q I h;refine thn (hi pins s σ H _ I h) fun iv s1 ⟨y,H1,I1,ry,q1⟩=>thn (ho pins s1 σ H1 _ I1 q1) fun u s2 ⟨x,H2,I2,rx,a,ov,ex,g,q2⟩=>?_
 subst ex;obtain rfl:u=Value.ref a:=rx;exact d_in hu I2 g ry fun s3 I3=>⟨.bl ov.isSome,H2,I3,rfl,q2⟩
theorem zbT(hu:X.A.units+1<cLine)(hi:PE X i ty)(ho:PE X o td):PC X .NotIn i o (zjP ty td):=by
 intro pins s σ H Q I h;refine thn (hi pins s σ H _ I h) fun iv s1 ⟨y,H1,I1,ry,q1⟩=>thn (ho pins s1 σ H1 _ I1 q1) fun u s2 ⟨x,H2,I2,rx,a,ov,ex,g,q2⟩=>?_
 subst ex;obtain rfl:u=Value.ref a:=rx;exact zgk hu I2 g ry fun s3 I3=>⟨.bl (!ov.isSome),H2,I3,rfl,q2⟩
theorem Jw(hu:X.A.units+1<cLine)(ho:PE X o td)(hi:PE X i ty)(hv:PE X value tv)(hs:swapsWith value (some (.Subscript o i pos')) pos.line X.env=pure false) :
 PS X (.Assign [.Subscript o i pos'] value pos) (zcW td ty tv):=by
 intro pins s σ H D I h;refine wpAny_Assign_Subscript (thn (hv pins s σ H _ I h) fun r s1 ⟨v,H1,I1,rv,q1⟩=>thn (ho pins s1 σ H1 _ I1 q1) fun u s2 ⟨x,H2,I2,rx,q2⟩=>thn (hi pins s2 σ H2 _ I2 q2) fun iv s3 ⟨y,H3,I3,ry,a,H4,ex,g,q3⟩=>?_) hs
 subst ex;obtain rfl:u=Value.ref a:=rx;exact zlw hu I3 g ry rv fun s4 I4=>⟨σ,H4,I4,q3⟩
end
theorem zgb{P:Program}{w:World}{H:Hp}(h:Heap)(hb:sysModules<h.objs.size):zJ P w H (h.push { cls:=.type "dict", data:=.dict #[] }) h.objs.size (.dK []):=
 ⟨Wa9 _,beq_eq_false_iff_ne.mpr (Wbb (Yaf hb)),[],.nil,Heap.DictOf.new h⟩
theorem zis{P:Program}{w:World}{H:Hp}(h:Heap)(hb:sysModules<h.objs.size):zJ P w H (h.push { cls:=.type "dict", data:=.dict #[] }) h.objs.size (.dT []):=
 ⟨Wa9 _,beq_eq_false_iff_ne.mpr (Wbb (Yaf hb)),[],.nil,_,#[],0,Yan _ rfl,⟨rfl,rfl,rfl⟩,rfl,rfl,WaS⟩
def tDNewK:TE:=fun _ H Q=>∀ p,H p=none->Q (.ref p) (upd H p (.dK []))
def tDNewT:TE:=fun _ H Q=>∀ p,H p=none->Q (.ref p) (upd H p (.dT []))
section
variable{X:Cx}{pos:Pos}
theorem JB:PE X (.Dict [] [] pos) tDNewK:=fun pins s σ H Q I h=>
 wpAny_Dict_empty ⟨.ref s.heap.objs.size,_,I.laid (a:=s.heap.objs.size) (o:=.dK []) (t':=s.toks) (fun _ _ q=>YaW _ q) (YaY _) (zgb s.heap I.big),rfl,h _ (I.hok.fresh (YaY _))⟩
theorem zhu:PE X (.Dict [] [] pos) tDNewT:=fun pins s σ H Q I h=>
 wpAny_Dict_empty ⟨.ref s.heap.objs.size,_,I.laid (a:=s.heap.objs.size) (o:=.dT []) (t':=s.toks) (fun _ _ q=>YaW _ q) (YaY _) (zis s.heap I.big),rfl,h _ (I.hok.fresh (YaY _))⟩
end
end L2
namespace L3
open PySem PySem.Spec PyProof.Rows L2
variable[LamW]
def getT(ds:List (List Key×D))(k:List Key):Option D:=(ds.find? fun kv=>decide (kv.1=k)).map (·.2)
def putT(ds:List (List Key×D))(k:List Key)(d:D):List (List Key×D):=
 if(ds.any fun kv=>decide (kv.1=k))=true then ds.map (fun kv=>if kv.1=k then(kv.1,d) else kv) else ds++[(k,d)]
theorem Jz{k:List Key}{d:D}{ds:List (List Key×D)}:getT ((k,d)::ds) k=some d:=by simp [getT]
theorem j7{k' k:List Key}{d:D}{ds:List (List Key×D)}(e:¬k'=k):getT ((k',d)::ds) k=getT ds k:=by simp [getT,List.find?_cons,e]
section
variable{K:Ybf}{H0 G0:Hp}{ρ : Env3}{σ : L2.St}{G H:Hp}
theorem Dr.some{kvs:List (List Key×V)}{ds:List (List Key×D)}(r:Dr K H0 G kvs ds)(k:List Key):(valV kvs k).isSome=(getT ds k).isSome:=by
 induction r with
 | nil=>rfl
 | cons a b ih=>
  rename_i k' v' d' kvs' ds'
  by_cases e:k'=k
  . subst e;rw [ZA rfl,Jz];rfl
  . rw [Z0 e,j7 e];exact ih
theorem Dr.any{kvs:List (List Key×V)}{ds:List (List Key×D)}(r:Dr K H0 G kvs ds)(k:List Key):(kvs.any fun kv=>decide (kv.1=k))=ds.any fun kv=>decide (kv.1=k):=by
 induction r with
 | nil=>rfl
 | cons a b ih=>rw [List.any_cons,List.any_cons,ih]
theorem Dr.snoc{kvs:List (List Key×V)}{ds:List (List Key×D)}(r:Dr K H0 G kvs ds){k:List Key}{v:V}{d:D}(a:Rf K H0 G true v d):Dr K H0 G (kvs++[(k,v)]) (ds++[(k,d)]):=by
 induction r with
 | nil=>exact .cons a .nil
 | cons a b ih=>exact .cons a ih
theorem Dr.repl{kvs:List (List Key×V)}{ds:List (List Key×D)}(r:Dr K H0 G kvs ds){k:List Key}{v:V}{d:D}(a:Rf K H0 G true v d):Dr K H0 G (kvs.map fun kv=>if kv.1=k then(kv.1,v) else kv) (ds.map fun kv=>if kv.1=k then(kv.1,d) else kv):=by
 induction r with
 | nil=>exact .nil
 | cons b c ih=>
  rename_i k' v' d' kvs' ds';rw [Ya1,Ya1]
  by_cases e:k'=k
  . rw [if_pos e,if_pos e];exact .cons a ih
  . rw [if_neg e,if_neg e];exact .cons b ih
theorem Dr.put{kvs:List (List Key×V)}{ds:List (List Key×D)}(r:Dr K H0 G kvs ds){k:List Key}{v:V}{d:D}(a:Rf K H0 G true v d):Dr K H0 G (putK kvs k v) (putT ds k d):=by
 unfold putK putT;rw [r.any]
 split
 . exact r.repl a
 . exact r.snoc a
theorem Dr.length{kvs:List (List Key×V)}{ds:List (List Key×D)}(r:Dr K H0 G kvs ds):kvs.length=ds.length:=by
 induction r with
 | nil=>rfl
 | cons a b ih=>rw [List.length_cons,List.length_cons,ih]
theorem zb3(F:#[22]){i:Nat}{ds:List (List Key×D)}(h:ρ[i]?=.some (.some (.dt ds))):∃ l kvs,σ[i]?=.some (.some (.ref l))/\H l=.some (.dT kvs)/\Dr K H0 G kvs ds/\G l=none:=by
 obtain⟨v,h1,h2⟩:=F.slot i _ h;cases h2 with
 | dt a b c=>exact⟨_,_,h1,a,b,c⟩
end
section
variable{X:Cx}{H0:Hp}{e a b:Expr}{pos:Pos}{x:Str}{i:Nat}
def za6(i:Nat):TS3:=fun A ρ=>A.nx (ρ.set i (some (.dt [])))
theorem zkv{pos' p:Pos}(hN:X.N.Nodup)(hi:X.N[i]?=some x)(hx:Loc X.env.scope x)(hs:swapsWith (.Dict [] [] p) (some (.Name x pos')) pos.line X.env=pure false:=by rfl)
 (hf:#[19]:=by first|exact .inl rfl|exact .inr rfl|assumption):PS3 X H0 (.Assign [.Name x pos'] (.Dict [] [] p) pos) (za6 i):=PS.imp (ji hN hi hx zhu hs hf) fun B σ H=>el7 fun G0 A ρ G F q L=>
 fun p hp=>L.nx _ _ G _ (F.put (zG hp _).x (.dt zf .nil (F.sub.free hp)) fun a h=>by cases h;exact hp) q
abbrev kk(a b:Int):List Key:=[.inl a,.inl b]
def zaq(i:Nat)(ta tb te:TE3):TS3:=fun A ρ=>∃ ds,ρ[i]?=some (some (.dt ds))/\te ρ fun c=>ta ρ fun ka=>tb ρ fun kb=>∃ d m n,c=.sh true d/\ka=.sh true (.int m)/\kb=.sh true (.int n)/\ds.length<sizeLine/\A.nx (ρ.set i (some (.dt (putT ds (kk m n) d))))
theorem zik{ta tb te:TE3}{np tp spos:Pos}{k1}(hu:X.A.units+1<cLine)(hN:X.N[i]?=some x)(hv:Vis X.env.scope x)(ha:PE3 X H0 a ta)(hb:PE3 X H0 b tb)(he:PE3 X H0 e te)(hd:#[23]:=by decide)(hcd:#[20]:=by decide)
 (hs1:starEach [a,b] X.env=(false,eval a X.env)::starEach [b] X.env:=by rfl) (hs2:starEach [b] X.env=(false,eval b X.env)::starEach [] X.env:=by rfl)
 (hs:swapsWith e (some (.Subscript (.Name x np) (.Tuple [a,b] k1 tp) spos)) pos.line X.env=pure false:=by rfl):PS3 X H0 (.Assign [.Subscript (.Name x np) (.Tuple [a,b] k1 tp) spos] e pos) (zaq i ta tb te):=by
 refine PS.imp (Jw hu (jw hN hv hd hcd) (zaI (zl ha.ok (zl hb.ok zF hs2) hs1)) he.ok hs) fun B σ H hyp=>?_
 obtain⟨G0,A,ρ,G,F,⟨ds,hi,q⟩,L⟩:=hyp;refine⟨G0,ρ,G,F,he.mono ρ _ _ (fun c q1 v G1 H1 g1 w1=>?_) q⟩
 have F1:=F.gr g1;obtain⟨l,kvs,hl,_,_,_⟩:=zb3 F1 hi;refine⟨.ref l,hl,G0,ρ,G1,F1,ha.mono ρ _ _ (fun ka q2 v2 G2 H2 g2 w2=>?_) q1⟩
 refine⟨G0,ρ,G2,F1.gr g2,hb.mono ρ _ _ (fun kb q3 v3 G3 H3 g3 w3=>?_) q2⟩
 obtain⟨d,m,n,e1,e2,e3,e4,q4⟩:=q3;subst e1 e2 e3;cases zz (zm w2).rd;cases zz (zm w3).rd;refine⟨show 2<=sizeLine by decide,fun p hp=>?_⟩
 have F3:=((F1.gr g2).gr g3).gr (Gr.apart (o:=.tup [.int m,.int n]) g3.sub hp);obtain⟨l',kvs',hl',k2,k3,k4⟩:=zb3 F3 hi;rw [hl] at hl';cases hl';have rv:=(zm w1).same (g2.g.trans g3.g);exact⟨l,_,rfl,DPut.t (k:=kk m n) k2 zf (by rw [k3.length];exact e4),L.nx _ _ _ _ (F3.chg (c':=.dt (putT ds (kk m n) d)) hi hl rfl (fun _ h=>h) (.dt zf (k3.put rv) k4)) q4⟩
end
end L3
namespace PySem
open Sem (wp)
open AutoSeq1 (wpAny_loadPart')
section
variable{prog:Program}{w:World}{A:Around}{E:#[14]}{s:Shared}
end
end PySem
namespace L2
open PySem PySem.Spec PyProof.Rows
end L2
namespace L3
open PySem PySem.Spec PyProof.Rows L2
variable[LamW]
section
variable{X:Cx}{H0:Hp}{pos p:Pos}
end
variable[LamW]
section
variable{K:Ybf}{H0 G0 G G' H:Hp}{ρ : Env3}{σ : L2.St}
end
section
variable{X:Cx}{H0:Hp}{e:Expr}
end
end L3
namespace L2
open PySem PySem.Spec PyProof.Rows
section
variable{X:Cx}
theorem zcE:∀ {bs:List Bool} {its:List Value},Vals (bs.map V.bl) its->its=bs.map Value.bool
 | [],_,.nil=>rfl
 | b :: bs, _, .cons r t => by
  have e:_=Value.bool b:=r;rw [e,zcE t];rfl
theorem eqB{A:Around}{s:Shared}{k:Bool}{bs:List Bool}{y:Value}(h:y∈bs.map Value.bool):SeqAt.EqAt A s y (.bool k) (isBoolOf k y):=by
 obtain⟨b,_,rfl⟩:=Ya7.mp h;exact SeqAt.EqAt.bool_bool b k
def zje(K:Ybf):V->List V->Hp->VK->Prop:=fun x vs H Q=>∃ (p:Addr) (bs:List Bool),x=.ref p/\vs=[.bl true]/\SqL K H p (bs.map V.bl)/\true∈bs/\Q (.int (bs.idxOf true:Nat)) H
def zgn(K:Ybf):V->List V->Hp->VK->Prop:=fun x vs H Q=>∃ (p:Addr) (bs:List Bool),x=.ref p/\vs=[.bl true]/\SqL K H p (bs.map V.bl)/\Q (.int (bs.countP id:Nat)) H
theorem zhz:MtM X "list.index" (zje X.K):=by
 intro pins s σ H x vs v us Q I rx rv h;obtain⟨p,bs,rfl,rfl,hq,hk,q⟩:=h;cases rx;obtain⟨u,rfl,e⟩:=rv.one;cases e;obtain⟨its,r,pl,hz⟩:=I.list hq;cases zcE r;obtain⟨⟨cls,dd,data,sl⟩,ho,hc,n',hd⟩:=pl.isList;simp only at hc hd;subst hc hd;have hj:bs.idxOf true<bs.length:=Waf.mpr hk;have hn:=Je;rw [YaR] at hz;refine call_meets Wai ⟨_,ho,rfl⟩ PySem.F.entry_list_index (PySem.F.args_list_index_2 _ _)
  (SeqAt.list_indexAt p (bs.map Value.bool).toArray n' dd sl (.bool true) (isBoolOf true) (bs.idxOf true) (by simpa using hj) #[0] ?_ ?_) ⟨ho,fun y hy=>eqB (by simpa using hy),⟨.int _,H,I.tok _,⟨_,rfl⟩,q⟩⟩
 . simpa [isBoolOf] using List.getElem_idxOf hj
 . intro j hjs hlt
   have hj':j<bs.length:=by simpa using hjs
   have:(bs[j]==true)=false:=List.not_of_lt_findIdx (p:=(· == true)) (xs:=bs) hlt
   simpa [isBoolOf] using this
theorem zkU:MtM X "list.count" (zgn X.K):=by
 intro pins s σ H x vs v us Q I rx rv h;obtain⟨p,bs,rfl,rfl,hq,q⟩:=h;cases rx;obtain⟨u,rfl,e⟩:=rv.one;cases e;obtain⟨its,r,pl,hz⟩:=I.list hq;cases zcE r;obtain⟨⟨cls,dd,data,sl⟩,ho,hc,n',hd⟩:=pl.isList;simp only at hc hd;subst hc hd;have e:(bs.map Value.bool).countP (isBoolOf true)=bs.countP id:=by
  rw [List.countP_map];congr 1;funext b;cases b<;>rfl
 refine call_meets PySem.F.slot_list_count ⟨_,ho,rfl⟩ PySem.F.entry_list_count (PySem.F.args_list_count_2 _ _)
  (SeqAt.list_countAt p (bs.map Value.bool).toArray n' dd sl (.bool true) (isBoolOf true)) ⟨ho,fun y hy=>eqB (by simpa using hy),?_⟩
 rw [show(bs.map Value.bool).toArray.toList=bs.map Value.bool from rfl,e]
 exact⟨.int _,H,I.tok _,⟨_,rfl⟩,q⟩
end
end L2
namespace L3
open PySem PySem.Spec PyProof.Rows L2
variable[LamW]
section
variable{X:Cx}{H0:Hp}{e a b:Expr}{pos:Pos}
def repN(ta:TN3)(tb:TE3):TN3:=fun ρ Q=>ta ρ fun f ds=>tb ρ fun c=>asI c fun k=>(-(2 ^ 63)<=k/\k<2 ^ 63)/\ds.length*k.toNat<=sizeLine/\Q f (List.replicate k.toNat ds).flatten
theorem Rfs.rep{K:Ybf}{H0 G:Hp}{f:Bool}{vs:List V}{ds:List D}(r:Rfs K H0 G f vs ds)(n:Nat):Rfs K H0 G f (List.replicate n vs).flatten (List.replicate n ds).flatten:=by
 induction n with
 | zero=>exact Rfs.nil
 | succ n ih=>
  rw [List.replicate_succ,List.replicate_succ,List.flatten_cons,List.flatten_cons];have:=Rfs.append r ih;rwa [WaY] at this
theorem rep3{ta:TN3}{tb:TE3}(ha:PN3 X H0 a ta)(hb:PE3 X H0 b tb):PN3 X H0 (.BinOp a .Mult b pos) (repN ta tb):=
 ⟨fun ρ Q Q' h q=>ha.mono ρ _ _ (fun f ds=>hb.mono ρ _ _ fun c q=>by obtain⟨k,rfl,h1,h2,q⟩:=jy q;exact⟨h1,h2,h _ _ q⟩) q,
  PE.imp (Ji ziU ha.ok hb.ok) fun σ H Q=>el5 fun G0 ρ G F q=>⟨G0,ρ,G,F,ha.mono ρ _ _ (fun f ds qa l vs G1 H1 g1 hl r=>⟨G0,ρ,upd G1 l (.lst vs),F.gr (g1.trans (Gr.put g1.sub hl)),hb.mono ρ _ _ (fun c hyp v2 G2 H2 g2 w2=>by
   obtain⟨k,rfl,⟨h1,h2⟩,h3,q⟩:=jy hyp;have e:=zz (zm w2).rd;subst e;refine⟨l,k,vs,rfl,rfl,g2.h.at zf,h1,h2,by rw [r.length];exact h3,fun p hp=>q p _ G2 H2 ((g1.trans (Gr.put g1.sub hl)).trans g2) hp (((r.same (zG (g1.sub.free hl) _)).same g2.g).rep _)⟩) qa⟩) q⟩⟩
theorem zfL{α : Type}{g:TG3}{tt:TT3}{te:TE3}{f:Bool}(enc out:α->D)(R:Env3->Prop):∀ (xs:List α),(∀ x∈xs,∀ ρ fa acc (K:Bool->List D->Env3->Prop),R ρ->(∀ fb ρ',R ρ'->K fb (acc++[out x]) ρ')->
 g f (enc x) ρ fun ρ'=>tt ρ' fun k=>if k=true then te ρ' fun c=>asS c fun fy y=>K (fa&&fy) (acc++[y]) ρ' else K fa acc ρ')->∀ fa acc ρ (Q:Bool->List D->Prop),R ρ->(∀ fb,Q fb (acc++xs.map out))->jJ g tt te f (xs.map enc) fa acc ρ Q
 | [],_,fa,acc,ρ,Q,_,q=>by show Q fa acc;simpa using q fa
 | x::xs,s,fa,acc,ρ,Q,hR,q=>s x YaV ρ fa acc (fun fa acc ρ'=>jJ g tt te f (xs.map enc) fa acc ρ' Q) hR fun fb ρ' hR'=>
  zfL enc out R xs (fun y hy=>s y (YaT _ hy)) fb (acc++[out x]) ρ' Q hR' (by intro fb;rw [Yag];exact q fb)
def zaO(to te:TE3):TE3:=fun ρ Q=>to ρ fun c=>∃ ds bs,c.dat=true/\c.d=.list ds/\Zu ds=some bs/\te ρ fun c2=>∃ g,c2=.sh g (.bool true)/\true∈bs/\Q (.sh true (.int (bs.idxOf true:Nat)))
def ZW(to te:TE3):TE3:=fun ρ Q=>to ρ fun c=>∃ ds bs,c.dat=true/\c.d=.list ds/\Zu ds=some bs/\te ρ fun c2=>∃ g,c2=.sh g (.bool true)/\Q (.sh true (.int (bs.countP id:Nat)))
theorem zgI{o:Expr}{apos:Pos}{to te:TE3}(ho:PE3 X H0 o to)(he:PE3 X H0 e te)(hb:attributeBase o "index" X.env (eval o X.env)=eval o X.env:=by rfl)
 (hf:((backTo pos (starEach [e] X.env)).all (fun x=>!x.1)&&(backToKw pos (keywordEach [] X.env)).all (fun x=>x.1.isSome)&&decide ([e].length+([]:List Keyword).length+(if([]:List Keyword).isEmpty then 0 else 1)<30))=true:=by rfl)
 (hl:(apos.endLine==pos.line)=true:=by rfl) (hs:starEach [e] X.env=(false,eval e X.env)::starEach [] X.env:=by rfl) (hp:(backTo pos (starEach [] X.env)).any (·.1)=false:=by rfl) :
 PE3 X H0 (.Call (.Attribute o "index" apos) [e] [] pos) (zaO to te):=by
 refine⟨fun ρ Q Q' h q=>ho.mono ρ _ _ (fun c ⟨ds,ns,a,b,d,q⟩=>⟨ds,ns,a,b,d,he.mono ρ _ _ (fun c2 ⟨g,x,y,q⟩=>⟨g,x,y,h _ q⟩) q⟩) q,PE.imp (zaZ Wah Wai PySem.F.type_list_index zhz ho.ok (zl he.ok zF hs) hb hf hl hs hp) fun σ H Q=>el5 fun G0 ρ G F q=>⟨G0,ρ,G,F,ho.mono ρ _ _ (fun c hc0 v G1 H1 g1 w=>?_) q⟩⟩
 obtain⟨ds,ns,hd,hc,hu,q⟩:=hc0;obtain⟨a,vs,rfl,hq,rs⟩:=Jg w g1.sub hd hc;refine⟨.inl ⟨rfl,_,hq⟩,G0,ρ,G1,F.gr g1,he.mono ρ _ _ (fun c2 hc1 v2 G2 H2 g2 w2=>?_) q⟩
 obtain⟨g,rfl,hn,q⟩:=hc1;have r:=zck w2;subst r;have hvs:=zeS rs.rd hu;subst hvs;exact⟨a,ns,rfl,rfl,g2.h.seq hq,hn,q _ G2 H2 (g1.trans g2) (.sh (.sc rfl (.int _)))⟩
theorem zhF{o:Expr}{apos:Pos}{to te:TE3}(ho:PE3 X H0 o to)(he:PE3 X H0 e te)(hb:attributeBase o "count" X.env (eval o X.env)=eval o X.env:=by rfl)
 (hf:((backTo pos (starEach [e] X.env)).all (fun x=>!x.1)&&(backToKw pos (keywordEach [] X.env)).all (fun x=>x.1.isSome)&&decide ([e].length+([]:List Keyword).length+(if([]:List Keyword).isEmpty then 0 else 1)<30))=true:=by rfl)
 (hl:(apos.endLine==pos.line)=true:=by rfl) (hs:starEach [e] X.env=(false,eval e X.env)::starEach [] X.env:=by rfl) (hp:(backTo pos (starEach [] X.env)).any (·.1)=false:=by rfl) :
 PE3 X H0 (.Call (.Attribute o "count" apos) [e] [] pos) (ZW to te):=by
 refine⟨fun ρ Q Q' h q=>ho.mono ρ _ _ (fun c ⟨ds,ns,a,b,d,q⟩=>⟨ds,ns,a,b,d,he.mono ρ _ _ (fun c2 ⟨g,x,q⟩=>⟨g,x,h _ q⟩) q⟩) q,PE.imp (zaZ Wah PySem.F.slot_list_count PySem.F.type_list_count zkU ho.ok (zl he.ok zF hs) hb hf hl hs hp) fun σ H Q=>el5 fun G0 ρ G F q=>⟨G0,ρ,G,F,ho.mono ρ _ _ (fun c hc0 v G1 H1 g1 w=>?_) q⟩⟩
 obtain⟨ds,ns,hd,hc,hu,q⟩:=hc0;obtain⟨a,vs,rfl,hq,rs⟩:=Jg w g1.sub hd hc;refine⟨.inl ⟨rfl,_,hq⟩,G0,ρ,G1,F.gr g1,he.mono ρ _ _ (fun c2 hc1 v2 G2 H2 g2 w2=>?_) q⟩
 obtain⟨g,rfl,q⟩:=hc1;have r:=zck w2;subst r;have hvs:=zeS rs.rd hu;subst hvs;exact⟨a,ns,rfl,rfl,g2.h.seq hq,q _ G2 H2 (g1.trans g2) (.sh (.sc rfl (.int _)))⟩
end
end L3
namespace L2
open PySem PySem.Spec PyProof.Rows
theorem zd0{α β : Type}{F:α->β->Prop}:∀ {l:List α} {m:List β},Paired F l m->∀ {j:Nat} {a:α} {b:β},l[j]?=some a->m[j]?=some b->F a b
 | _,_,.nil,_,_,_,h,_=>by simp at h
 | _, _, .cons x r, 0, _, _, h, h' => by
  rw [List.getElem?_cons_zero] at h h';cases h;cases h';exact x
 | _, _, .cons x r, j + 1, _, _, h, h' => by
  rw [List.getElem?_cons_succ] at h h';exact zd0 r h h'
theorem zh5{X:Cx}{st:Stmt}{t:TS}(h:PS X st t):PS X st (fun B σ H=>∃ l kvs,H l=some (.dT kvs)/\∀ (o:Obj) (es:Array DictEntry) (ep:Nat) (as:List Addr),o.ExactDict->o.data=.dict es ep->es.toList.map (·.key)=as.map Value.ref->as.length=kvs.length->(∀ (j:Nat) (a:Addr) (k:List Key) (v:V),as[j]?=some a->kvs[j]?=some (k,v)->H a=some (.tup (k.map kV)))->t B σ (upd H l (.frz o (.dT kvs)))):=by
 intro pins s σ H B I hyp;obtain⟨l,kvs,hl,q⟩:=hyp;obtain⟨hz,hs,xs,hp,o,es,ep,ho,hx,he,hes,hnd⟩:=(show zJ X.prog X.w H s.heap l (.dT kvs) from I.hok l _ hl)
 have hlen:kvs.length=xs.length:=WaT hp;have hat:∀ (j:Nat) (a:Addr) (k:List Key) (v:V),(xs.map (·.2.1))[j]?=some a->kvs[j]?=some (k,v)->H a=some (.tup (k.map kV)):=fun j a k v ha hk=>by
  rw [Ya0] at ha;cases e:xs[j]? with
  | none=>rw [e] at ha;cases ha
  | some y=>
   rw [e] at ha;cases ha;exact(zd0 hp hk e).2.1
 have I':Inv X pins σ (upd H l (.frz o (.dT kvs))) s:=by
  refine I.write (h':=s.heap) (t':=s.toks) (e:=l) (by rw [hl];exact True.intro) (.inl rfl) (fun _ _ _ e=>e) ⟨o,ho⟩ ⟨ho,hz,hs,xs,Paired.mapP hp fun p y ⟨h1,h2,h3⟩=>⟨h1,(zd #[96,hl,h2]).trans h2,h3⟩,o,es,ep,ho,hx,he,hes,hnd⟩
 refine h pins s σ _ B I' (q o es ep (xs.map (·.2.1)) hx he ?_ (by rw [YaR];exact hlen.symm) hat)
 rw [hes,YaD,YaD]
 rfl
structure M1(X:Cx)(o:Expr)(m:Str)(apos:Pos)(e:Expr)(cpos:Pos):Prop where
 base:attributeBase o m X.env (eval o X.env)=eval o X.env
 few:((backTo cpos (starEach [e] X.env)).all (fun x=>!x.1)&&(backToKw cpos (keywordEach [] X.env)).all (fun x=>x.1.isSome)
  && decide (([e]:List Expr).length+([]:List Keyword).length+(if([]:List Keyword).isEmpty then 0 else 1)<30))=true
 line:(apos.endLine==cpos.line)=true
 trees:backTo cpos (starEach [e] X.env)=[(false,eval e X.env)]
def IsD(H:Hp)(a:Addr):Prop:=(∃ kvs,Rd H a (.dK kvs))\/∃ kvs,Rd H a (.dT kvs)
theorem zgy{X:Cx}{pins:List #[18]}{σ : St}{H:Hp}{s:Shared}{a:Addr}(I:#[11])(d:IsD H a) :
 s.TypeIs (.ref a) "dict"/\(∀ b,Value.ref a=.ref b->∃ ob,s.heap.get? b=some ob/\ob.dict=none)/\(a==sysModules)=false:=by
 rcases d with ⟨kvs,e⟩|⟨kvs,e⟩
 . obtain⟨_,hd,vs,_,dd⟩:=JT I.hok e
   refine⟨dd.typeIs,fun b q=>?_,hd⟩
   cases q;obtain⟨ob,_,_,h1,h2,_⟩:=dd
   exact⟨ob,h1,h2.2.1⟩
 . obtain⟨_,hd,xs,_,dd⟩:=JJ I.hok e
   refine⟨dd.typeIs,fun b q=>?_,hd⟩
   cases q;obtain⟨ob,_,_,h1,h2,_⟩:=dd
   exact⟨ob,h1,h2.2.1⟩
section
variable{X:Cx}{pins:List #[18]}{σ : St}{H:Hp}{s:Shared}{a:Addr}{y d:V}{u r:Value}{o:Option V}{A:Around}{E:#[14]}
theorem zjO{Q:#[14]}(hu:A.units+1<cLine)(I:#[11])(g:DGet H a y o)(ry:RelV y u)(h:∀ w' s',Inv X pins σ H s'->RelV (o.getD .non) w'->Q w' s') :
 wpAny #[12] A (call (.builtin "dict.get") [.ref a,u]) Q E s:=by
 rcases g with ⟨kvs,k,e,ey,l⟩|⟨kvs,k,b,e,ey,eb,l⟩
 . subst ey
   obtain⟨z,hd,vs,rel,dd⟩:=JT I.hok e;refine call_meetsIn PySem.F.slot_dict_get dd.typeIs PySem.F.entry_dict_get (PySem.F.args_dict_get_2 _ _) (meets_dict_get (z8 X.prog X.w) a (JZ ry) hd) ⟨_,dd.mapOf,h _ _ (I.tok _) ?_⟩;rw [l];exact(rel.val k).getD rfl
 . subst ey
   cases(show u=Value.ref b from ry)
   obtain⟨z,hd,xs,rel,dd⟩:=JJ I.hok e;refine call_meetsIn PySem.F.slot_dict_get dd.typeIs PySem.F.entry_dict_get (PySem.F.args_dict_get_2 _ _) (meetsH_dict_get (tupleKind (z8 X.prog X.w)) a b hd) ⟨tupleKind_room_in1 hu,k,xs,J8 I.hok eb,dd,h _ _ (I.tok _) ?_⟩;rw [l];exact(rel.val k).getD rfl
end
def zjK(td ty:TE):TE:=fun σ H Q=>td σ H fun x H1=>∃ a,x=.ref a/\IsD H1 a/\ty σ H1 fun y H2=>∃ o,DGet H2 a y o/\Q (o.getD .non) H2
section
variable{X:Cx}{o e f:Expr}{apos cpos:Pos}{td ty tx:TE}
theorem ze2(hu:X.A.units+1<cLine)(ho:PE X o td)(he:PE X e ty)(m:M1 X o "get" apos e cpos):PE X (.Call (.Attribute o "get" apos) [e] [] cpos) (zjK td ty):=by
 intro pins s σ H Q I h;refine wpAny_Call_method m.base m.few m.line PySem.F.plainAttrs_dict PySem.F.slot_dict_get PySem.F.type_dict_get (thn (ho pins s σ H _ I h) fun u s1 ⟨x,H1,I1,rx,a,ex,d,q1⟩=>?_)
 subst ex;obtain rfl:u=Value.ref a:=rx;obtain⟨t1,t2,_⟩:=zgy I1 d;refine⟨t1,t2,?_⟩;rw [m.trees];refine Calls.callWith_builtin rfl (Calls.evalArgs_plain (Calls.spliced_cons (thn (he pins s1 σ H1 _ I1 q1) fun iv s2 ⟨y,H2,I2,ry,ov,g,q2⟩=>Calls.spliced_nil ?_)))
 exact zjO hu I2 g ry fun w' s3 I3 rw'=>⟨_,H2,I3,rw',q2⟩
end
end L2
namespace L3
open PySem PySem.Spec PyProof.Rows L2
variable[LamW]
section
variable{K:Ybf}{H0 G0:Hp}{ρ : Env3}{σ : L2.St}{G H:Hp}
theorem Fr3.frzD(F:#[22]){i:Nat}{ds:List (List Key×D)}{l:Addr}{kvs:List (List Key×V)}(hi:ρ[i]?=some (some (.dt ds)))(hv:σ[i]?=some (some (.ref l)))(hl:H l=some (.dT kvs))(r:Dr K H0 G kvs ds)(hG:G l=none){o:Obj}{es:Array DictEntry}{ep:Nat}{as:List Addr}(hx:o.ExactDict)(he:o.data=.dict es ep)(ha:es.toList.map (·.key)=as.map Value.ref)(hn:as.length=kvs.length)
 (hk:∀ (j:Nat) (a:Addr) (k:List Key) (v:V),as[j]?=some a->kvs[j]?=some (k,v)->H a=some (.tup (k.map kV))):∃ G',Same G G'/\Fr3 K H0 G0 (ρ.set i (some (.fd ds))) σ G' (upd H l (.frz o (.dT kvs))):=by
 have hat:∀ a∈as,∃ xs,H a=some (.tup xs):=fun a h=>by
  obtain⟨j,hj,e⟩:=Yam h;have hj':j<kvs.length:=#[0]
  exact⟨_,hk j a kvs[j].1 kvs[j].2 (by rw [YaQ hj,e]) (YaQ hj')⟩
 have hla:l∉as:=fun h=>by
  obtain⟨xs,e⟩:=hat l h;rw [hl] at e;cases e
 have h0:H0 l=none:=F.mine i _ _ l hi hv rfl;have e1:(fun b=>if b=l then some (.frz o (.dT kvs)) else if b∈as then H b else G b:Hp) l=some (.frz o (.dT kvs)):=if_pos rfl
 have e2:∀ b,b≠l->b∈as->(fun b=>if b=l then some (.frz o (.dT kvs)) else if b∈as then H b else G b:Hp) b=H b:=fun b n m=>by simp only [if_neg n,if_pos m]
 have e3:∀ b,b≠l->b∉as->(fun b=>if b=l then some (.frz o (.dT kvs)) else if b∈as then H b else G b:Hp) b=G b:=fun b n m=>by simp only [if_neg n,if_neg m]
 generalize (fun b=>if b=l then some (.frz o (.dT kvs)) else if b∈as then H b else G b:Hp)=G' at e1 e2 e3
 have gg:Same G G':=fun b u e=>by
  have nb:b≠l:=#[96,hG,e]
  by_cases m:b∈as
  . rw [e2 b nb m];exact F.sub.s b u e
  . rw [e3 b nb m];exact e
 refine⟨G',gg,F.keep.chg h0 hl (fun f z=>by cases z),⟨fun b u e=>?_,fun b f e=>?_⟩,fun b u e=>?_,F.g0.trans gg,fun j c2 e=>?_,fun j c2 v2 a e e' h=>?_,fun j k c1 c2 v1 v2 a q1 q2 q3 q4 h1 h2=>?_,by rw [YaN];exact F.len⟩
 . by_cases nb:b=l
   . subst nb;rw [e1] at e;rw [zf];exact e
   . rw [zd nb]
     by_cases m:b∈as
     . rw [e2 b nb m] at e;exact e
     . rw [e3 b nb m] at e;exact F.sub.s b u e
 . by_cases nb:b=l
   . subst nb;rw [e1] at e;cases e
   . by_cases m:b∈as
     . obtain⟨xs,z⟩:=hat b m
       rw [e2 b nb m,z] at e;cases e
     . rw [e3 b nb m] at e;exact F.sub.cl b f e
 . by_cases nb:b=l
   . subst nb;exact .inr (.inl h0)
   . by_cases m:b∈as
     . obtain⟨xs,z⟩:=hat b m
       rw [e2 b nb m,z] at e;exact .inr (.inr ⟨xs,(WaP e).symm⟩)
     . rw [e3 b nb m] at e;exact F.old b u e
 . rcases zL e with ⟨rfl,q,_⟩|⟨n,q⟩
   . cases q
     refine⟨_,hv,.fd e1 (r.same gg) ⟨es,ep,as,hx,he,ha,hn,fun j a k v z1 z2=>?_⟩⟩
     have hm:a∈as:=Yah z1;rw [e2 a (fun z=>hla (z ▸ hm)) hm]
     exact hk j a k v z1 z2
   . obtain⟨v',h1,h2⟩:=F.slot j c2 q
     refine⟨v',h1,h2.turn gg (fun a C z=>?_) fun a h3=>?_⟩
     . rw [zd (fun y=>by rw [y,hl] at z;cases z)];exact z
     . have nb:a≠l:=fun z=>n (F.apart i j _ c2 _ v' a hi q hv h1 (by rw [z];rfl) h3)
       refine⟨zd nb,e3 a nb fun m=>?_⟩
       obtain⟨xs,z⟩:=hat a m;exact h2.ntup h3 xs z
 . rcases zL e with ⟨rfl,q,_⟩|⟨n,q⟩
   . cases q;exact False.elim h
   . exact F.mine j c2 v2 a q e' h
 . rcases zL q1 with ⟨rfl,q,_⟩|⟨n,q⟩
   . cases q;exact False.elim h1
   . rcases zL q2 with ⟨rfl,q',_⟩|⟨n',q'⟩
     . cases q';exact False.elim h2
     . exact F.apart j k c1 c2 v1 v2 a q q' q3 q4 h1 h2
theorem zhy(F:#[22]){i:Nat}{ds:List (List Key×D)}(h:ρ[i]?=some (some (.fd ds))):∃ l o kvs,σ[i]?=some (some (.ref l))/\G l=some (.frz o (.dT kvs))/\Dr K H0 G kvs ds/\KAt G o kvs:=by
 obtain⟨v,h1,h2⟩:=F.slot i _ h;cases h2 with
 | fd a b c=>exact⟨_,_,_,h1,a,b,c⟩
end
section
variable{X:Cx}{H0:Hp}{st:Stmt}{pos:Pos}{x:Str}{i:Nat}
def frzD(i:Nat)(t:TS3):TS3:=fun A ρ=>∃ ds,ρ[i]?=some (some (.dt ds))/\t A (ρ.set i (some (.fd ds)))
theorem zlS(i:Nat){t:TS3}(h:PS3 X H0 st t):PS3 X H0 st (frzD i t):=PS.imp (zh5 h) fun B σ H hyp=>by
 obtain⟨G0,A,ρ,G,F,⟨ds,hi,q⟩,L⟩:=hyp;obtain⟨l,kvs,hv,hl,r,hG⟩:=zb3 F hi;refine⟨l,kvs,hl,fun o es ep as hx he ha hn hk=>?_⟩
 obtain⟨G',gg,F'⟩:=F.frzD hi hv hl r hG hx he ha hn hk;exact⟨G0,A,_,G',F',q,L⟩
end
section
variable{K:Ybf}{H0 G0:Hp}{ρ : Env3}{σ : L2.St}{G H:Hp}
end
section
variable{X:Cx}{H0:Hp}{pos:Pos}{x y:Str}{i j:Nat}
end
variable[LamW]
abbrev Tb:=List (Int×Int)
def dms:List Cl->List Addr
 | []=>[]
 | .dm a _::r=>a::dms r
 | .sh _ _::r=>dms r
 | .ow _ _::r=>dms r
 | .tr _ _::r=>dms r
 | .dt _::r=>dms r
 | .dk _::r=>dms r
 | .fd _::r=>dms r
 | .tk _::r=>dms r
 | .ex _::r=>dms r
def jt:Cl->Bool
 | .sh _ _=>true
 | .dm _ _=>true
 | .fd ds=>ds.all fun p=>zw p.2
 | .ow _ _=>false
 | .tr _ _=>false
 | .dt _=>false
 | .dk _=>false
 | .tk _=>false
 | .ex _=>false
def argC:Cl->Cl
 | .sh _ d=>.sh (zw d) d
 | .dm a ds=>.dm a ds
 | .fd ds=>.fd ds
 | .ow f ds=>.ow f ds
 | .tr a b=>.tr a b
 | .dt a=>.dt a
 | .dk a=>.dk a
 | .tk a=>.tk a
 | .ex a=>.ex a
def JS:Cl->Bool
 | .sh _ _=>true
 | .dt _=>true
 | .dm _ _=>false
 | .fd _=>false
 | .ow _ _=>false
 | .tr _ _=>false
 | .dk _=>false
 | .tk _=>false
 | .ex _=>false
theorem zb1(cs:List Cl):dms (cs.map argC)=dms cs:=by
 induction cs with
 | nil=>rfl
 | cons c r ih=>cases c<;>first|exact ih|exact congrArg (List.cons _) ih
theorem zcH{cs:List Cl}{i:Nat}{a:Addr}{ds:Tb}(h:cs[i]?=some (.dm a ds)):a∈dms cs:=by
 induction cs generalizing i with
 | nil=>simp at h
 | cons c r ih=>
  cases i with
  | zero=>cases h;exact YaV
  | succ i=>
   have:=ih (i:=i) (by simpa using h)
   cases c<;>first|exact this|exact YaT _ this
theorem zlx{cs:List Cl}{i j:Nat}{a:Addr}{ds es:Tb}(nd:(dms cs).Nodup)(h:cs[i]?=some (.dm a ds))(h':cs[j]?=some (.dm a es)):i=j:=by
 induction cs generalizing i j with
 | nil=>simp at h
 | cons c r ih=>
  cases i with
  | zero=>
   cases h;cases j with
   | zero=>rfl
   | succ j=>exact absurd (zcH (i:=j) (by simpa using h')) (YaB.mp nd).1
  | succ i=>
   cases j with
   | zero=>
    cases h';exact absurd (zcH (i:=i) (by simpa using h)) (YaB.mp nd).1
   | succ j=>
    have nd':(dms r).Nodup:=by cases c<;>first|exact nd|exact(YaB.mp nd).2
    rw [ih nd' (i:=i) (j:=j) (by simpa using h) (by simpa using h')]
def bar(H:Hp)(as:List Addr):Hp:=fun b=>if b∈as then none else H b
theorem jH{H:Hp}{as:List Addr}{b:Addr}(h:b∈as):bar H as b=none:=if_pos h
theorem z5{H:Hp}{as:List Addr}{b:Addr}(h:b∉as):bar H as b=H b:=if_neg h
theorem J9(H:Hp)(as:List Addr):Same (bar H as) H:=fun b o e=>by
 by_cases h:b∈as
 . rw [jH h] at e;cases e
 . rwa [z5 h] at e
theorem zda{H:Hp}{as:List Addr}{b:Addr}(h:bar H as b=none):b∈as\/H b=none:=by
 by_cases z:b∈as
 . exact .inl z
 . rw [z5 z] at h;exact .inr h
def Bk(G H:Hp):List Addr->List Tb->Prop
 | [],[]=>True
 | a::as,m::ms=>(H a=some (.dK (encM m))/\G a=none)/\Bk G H as ms
 | _,_=>False
abbrev SpC:=List Cl->(Cl->List Tb->Prop)->Prop
def spC(K:Ybf)(sp:SpC):Sp:=fun vs H Q _=>∃ G cs,Sub G H/\Vws K (bar H (dms cs)) G H vs cs/\(dms cs).Nodup/\
 sp cs fun c ms=>∀ v G' H',Gr G (bar H (dms cs)) G' H'->Vw K (bar H (dms cs)) G' H' v c->(∀ a,Has c v a->H a=none)->Bk G' H' (dms cs) ms->JS c=true->Q v H'
structure DfC(P:Program)(w:World)(K:Ybf)(mg:#[15])(base:Heap)(k:Nat)(x:Str)(ps:List Str)(sp:SpC):Prop where
 mono:∀ cs (Q Q':Cl->List Tb->Prop),(∀ c ms,Q c ms->Q' c ms)->sp cs Q->sp cs Q'
 ok:Df P w K mg base k x ps (spC K sp)
def j6(N:List Str)(cs:List Cl):Env3:=cs.map some++List.replicate (N.length - cs.length) none
def finM:List Nat->List Addr->Env3->(List Tb->Prop)->Prop
 | [],[],_,Q=>Q []
 | j::js,a::as,ρ,Q=>∃ m,ρ[j]?=some (some (.dm a m))/\finM js as ρ fun ms=>Q (m::ms)
 | _,_,_,_=>False
theorem Vws.length{K:Ybf}{H0 G H:Hp}{vs:List V}{cs:List Cl}(h:Vws K H0 G H vs cs):vs.length=cs.length:=ze3 h
theorem Vws.get{K:Ybf}{H0 G H:Hp}{vs:List V}{cs:List Cl}(h:Vws K H0 G H vs cs){i:Nat}{c:Cl}(e:cs[i]?=some c):∃ v,vs[i]?=some v/\Vw K H0 G H v c:=by
 induction h generalizing i with
 | nil=>simp at e
 | cons a b ih=>
  cases i with
  | zero=>cases e;exact⟨_,rfl,a⟩
  | succ i=>exact ih (i:=i) (by simpa using e)
section
variable{K:Ybf}{H0 G0:Hp}{ρ : Env3}{σ : L2.St}{G H:Hp}
theorem jv(F:#[22]){i:Nat}{a:Addr}{ds:Tb}(h:ρ[i]?=some (some (.dm a ds))):σ[i]?=some (some (.ref a))/\H a=some (.dK (encM ds))/\G a=none:=by
 obtain⟨v,h1,h2⟩:=F.slot i _ h;cases h2 with
 | dm x y=>exact⟨h1,x,y⟩
theorem zcs(F:#[22]):∀ {js:List Nat} {as:List Addr} {R:List Tb->Prop},finM js as ρ R->(∃ ms,Bk G H as ms/\R ms)/\∀ a∈as,∃ (j:Nat) (m:Tb),ρ[j]?=some (some (Cl.dm a m))
 | [],[],R,h=>⟨⟨[],True.intro,h⟩,fun a z=>by cases z⟩
 | j :: js, a :: as, R, ⟨m, hj, h⟩ => by
  obtain⟨⟨ms,h1,h2⟩,h3⟩:=zcs F h;refine⟨⟨m::ms,⟨(jv F hj).2,h1⟩,h2⟩,fun b hb=>?_⟩
  rcases WaU.mp hb with e|hb
  . rw [e];exact⟨j,m,hj⟩
  . exact h3 b hb
 | [],_::_,_,h=>h.elim
 | _::_,[],_,h=>h.elim
end
theorem zgq{K:Ybf}{G H:Hp}{N:List Str}{vs:List V}{cs:List Cl}(s:Sub G H)(w:Vws K (bar H (dms cs)) G H vs cs)(nd:(dms cs).Nodup)(hd:∀ c∈cs,jt c=true):Fr3 K (bar H (dms cs)) G (j6 N cs) (start N vs) G H:=by
 have at3:∀ (i:Nat) c,(j6 N cs)[i]?=some (some c)->cs[i]?=some c:=fun i c e=>by
  unfold j6 at e
  by_cases hi:i<cs.length
  . rw [Yab (by simpa using hi),Ya0] at e
    cases q:cs[i]? with
    | none=>rw [q] at e;cases e
    | some d=>rw [q] at e;cases e;rfl
  . rw [Yae (by simpa using hi),Yad] at e
    split at e<;>cases e
 have own:∀ (i:Nat) c v a,cs[i]?=some c->Vw K (bar H (dms cs)) G H v c->Has c v a->∃ ds,c=.dm a ds:=fun i c v a e hw h=>by
  have:=hd c (Yah e);cases hw with
  | dm _ _=>cases h;exact⟨_,rfl⟩
  | sh _=>exact False.elim h
  | fd _ _ _=>exact False.elim h
  | _=>cases this
 have len:=w.length;have σat:∀ (i:Nat) c,cs[i]?=some c->∃ v,(start N vs)[i]?=some (some v)/\Vw K (bar H (dms cs)) G H v c:=fun i c e=>by
  obtain⟨v,hv,hw⟩:=w.get e;refine⟨v,?_,hw⟩;unfold L2.start;have hi:i<vs.length:=(Ya8.mp hv).1;rw [Yab (by simpa using hi),Ya0,hv];rfl
 refine⟨(J9 _ _).x,s,fun b o e=>.inl e,Same.refl _,fun i c e=>σat i c (at3 i c e),fun i c v a e e' h=>?_,fun i j c c' v v' a e e' z z' h h'=>?_,?_⟩
 . obtain⟨v',h1,hw⟩:=σat i c (at3 i c e)
   rw [e'] at h1;cases h1;obtain⟨ds,rfl⟩:=own i c v a (at3 i c e) hw h;exact jH (zcH (at3 i _ e))
 . obtain⟨u,h1,hw⟩:=σat i c (at3 i c e)
   rw [z] at h1;cases h1;obtain⟨u',h1',hw'⟩:=σat j c' (at3 j c' e');rw [z'] at h1';cases h1';obtain⟨ds,rfl⟩:=own i c v a (at3 i c e) hw h;obtain⟨es,rfl⟩:=own j c' v' a (at3 j c' e') hw' h';exact zlx nd (at3 i _ e) (at3 j _ e')
 . unfold j6 L2.start;simp [len]
theorem fnC{P:Program}{w:World}{K:Ybf}{mg:#[15]}{base:Heap}{x qual:Str}{st:Stmt}{f:Addr}{fd:FuncData}{N ps:List Str}{k:Nat}{sp:SpC}(M:List Nat)(F:Fun K x qual st f fd)(S:FnScope N ps (zg st))(len:∀ cs Q,sp cs Q->cs.length=ps.length/\∀ c∈cs,jt c=true)
 (hbody:∀ (cdv:Value) (A:Around) (outer:List Env) (s:Shared) (H H0:Hp) (E:XK) (E3:Addr->Prop),(∀ C H',E3 C->zh H0 H'->E (.ref C) none H')->Room k (A.deeper (envOfC qual (zg st) s.heap.objs.size f cdv))->
  ∃ t,PSs3 (cxOf (CXR P w) P w K mg base N qual (zg st) f cdv A outer s H E) H0 (jM st) t/\∀ cs Q,sp cs Q->t { nx:=fun ρ=>finM M (dms cs) ρ (Q (.sh true .none)),rt:=fun _ _=>False,rm:=fun c ρ=>JS c=true/\finM M (dms cs) ρ (Q c) } (j6 N cs)):FnOk P w K mg base (CXR P w) (k+1) f fd ps (spC K sp):=by
 refine F.okR S (fun vs H Q E h=>?_) (fun cdv A outer s H vs Q E hr h=>?_)
 . obtain⟨G,cs,_,r,_,h⟩:=h
   rw [r.length];exact(len _ _ h).1
 . obtain⟨G,cs,sG,r,nd,h⟩:=h
   obtain⟨t,ht,hq⟩:=hbody cdv A outer s H (bar H (dms cs)) E (fun _=>False) (fun C H' e _=>e.elim) hr
   refine⟨_,ht,G,_,j6 N cs,G,zgq sG r nd (len _ _ h).2,hq cs _ h,⟨fun ρ σ G' H' F' q=>?_,fun f d v G' H' g rd q=>q.elim,fun _ _ _ _ _ q=>q.elim,fun _ _ _ _ _ q=>q.elim,fun c v ρ σ G' H' F' w' n' q=>?_⟩⟩
   . obtain⟨⟨ms,b,q⟩,_⟩:=zcs F' q
     exact q .non G' H' F'.gr0 (.sh (.sc rfl .non)) (fun a z=>False.elim z) b rfl
   . obtain⟨hres,q⟩:=q
     obtain⟨⟨ms,b,q⟩,hh⟩:=zcs F' q;refine q v G' H' F'.gr0 w' (fun a z=>?_) b hres
     obtain⟨n1,n2⟩:=n' a z
     rcases zda n1 with y|y
     . obtain⟨j,m,hj⟩:=hh a y
       exact absurd rfl (n2 j _ _ hj (jv F' hj).1)
     . exact y
variable[LamW]
def holds(ρ : Env3):List Nat->List Addr->Prop
 | [],[]=>True
 | j::js,a::as=>(∃ m,ρ[j]?=some (some (.dm a m)))/\holds ρ js as
 | _,_=>False
def updM:List Nat->List Addr->List Tb->Env3->Env3
 | j::js,a::as,m::ms,ρ=>updM js as ms (ρ.set j (some (.dm a m)))
 | _,_,_,ρ=>ρ
section
variable{K:Ybf}{H0 G0:Hp}{ρ : Env3}{σ : L2.St}{G H G' H':Hp}
theorem zal{ρ : Env3}:∀ {js:List Nat} {as:List Addr},holds ρ js as->∀ a∈as,∃ (j:Nat) (m:Tb),j∈js/\ρ[j]?=some (some (Cl.dm a m))
 | [],[],_,a,h=>by cases h
 | j :: js, a :: as, ⟨⟨m, hm⟩, h⟩, b, hb => by
  rcases WaU.mp hb with e|hb
  . rw [e];exact⟨j,m,YaV,hm⟩
  . obtain⟨i,n,h1,h2⟩:=zal h b hb
    exact⟨i,n,YaT _ h1,h2⟩
 | [],_::_,h,_,_=>h.elim
 | _::_,[],h,_,_=>h.elim
theorem zfa(F:#[22]):∀ {js:List Nat} {as:List Addr},js.Nodup->holds ρ js as->as.Nodup
 | [],[],_,_=>WaS
 | j :: js, a :: as, nd, ⟨⟨m, hm⟩, h⟩ => by
  obtain⟨n1,n2⟩:=YaB.mp nd;refine YaB.mpr ⟨fun z=>?_,zfa F n2 h⟩
  obtain⟨i,n,h1,h2⟩:=zal h a z;have e:=F.apart j i _ _ _ _ a hm h2 (jv F hm).1 (jv F h2).1 rfl rfl;exact n1 (e ▸ h1)
 | [],_::_,_,h=>h.elim
 | _::_,[],_,h=>h.elim
theorem zea{ρ : Env3}{j:Nat}{o:Option Cl}:∀ {js:List Nat} {as:List Addr},j∉js->holds ρ js as->holds (ρ.set j o) js as
 | [],[],_,_=>True.intro
 | i::js,a::as,n,⟨⟨m,hm⟩,h⟩=>⟨⟨m,by rw [Yac (show j≠i from fun z=>n (by rw [z];exact YaV))];exact hm⟩,zea (fun z=>n (YaT _ z)) h⟩
 | [],_::_,_,h=>h.elim
 | _::_,[],_,h=>h.elim
theorem zfz:∀ (js:List Nat) (as:List Addr) (ms:List Tb) (ρ : Env3),(updM js as ms ρ).length = ρ.length
 | [],_,_,_=>rfl
 | _::_,[],_,_=>rfl
 | _::_,_::_,[],_=>rfl
 | j::js,a::as,m::ms,ρ=>by show(updM js as ms (ρ.set j _)).length=_;rw [zfz,YaN]
theorem zcm{G' H':Hp}:∀ {js:List Nat} {as:List Addr} {ms:List Tb} {ρ : Env3},js.Nodup->holds ρ js as->Bk G' H' as ms->∀ (i:Nat) (c:Cl),(updM js as ms ρ)[i]?=some (some c)->
 (i∉js/\ρ[i]?=some (some c))\/∃ a m m0,c=.dm a m/\a∈as/\ρ[i]?=some (some (.dm a m0))/\H' a=some (.dK (encM m))/\G' a=none
 | [],[],[],ρ,_,_,_,i,c,e=>.inl ⟨by simp,e⟩
 | j :: js, a :: as, m :: ms, ρ, nd, ⟨⟨m0, hm⟩, h⟩, ⟨b0, b⟩, i, c, e => by
  obtain⟨n1,n2⟩:=YaB.mp nd
  rcases zcm n2 (zea n1 h) b i c e with ⟨h1,h2⟩|⟨a',m',m0',h1,h2,h3,h4⟩
  . rcases zL h2 with ⟨rfl,q,_⟩|⟨n,q⟩
    . cases q
      exact .inr ⟨a,m,m0,rfl,YaV,hm,b0⟩
    . exact .inl ⟨fun z=>by
       rcases WaU.mp z with z|z
       . exact n z.symm
       . exact h1 z,q⟩
  . rcases zL h3 with ⟨rfl,q,_⟩|⟨n,q⟩
    . cases q
      exact .inr ⟨a,m',m0,h1,YaV,hm,h4⟩
    . exact .inr ⟨a',m',m0',h1,YaT _ h2,q,h4⟩
 | [],_::_,_,_,_,h,_,_,_,_=>h.elim
 | _::_,[],_,_,_,h,_,_,_,_=>h.elim
 | _::_,_::_,[],_,_,_,b,_,_,_=>b.elim
 | [],[],_::_,_,_,_,b,_,_,_=>b.elim
theorem Fr3.called(F:#[22]){js:List Nat}{as:List Addr}{ms:List Tb}(nd:js.Nodup)(ho:holds ρ js as)(g:Gr G (bar H as) G' H')(b:Bk G' H' as ms):Fr3 K H0 G0 (updM js as ms ρ) σ G' H':=by
 have mem:∀ a∈as,H0 a=none/\∃ m:Tb,H a=some (.dK (encM m)):=fun a h=>by
  obtain⟨j,m,_,hj⟩:=zal ho a h;obtain⟨h1,h2,h3⟩:=jv F hj;exact⟨F.mine j _ _ a hj h1 rfl,m,h2⟩
 have key:=fun i c=>zcm (ρ:=ρ) nd ho b i c
 have oth:∀ (i:Nat) (c:Cl) (v:V) (a:Addr),i∉js->ρ[i]?=some (some c)->σ[i]?=some (some v)->Has c v a->a∉as:=fun i c v a n e e' h z=>by
  obtain⟨j,m,hj,hm⟩:=zal ho a z;have:=F.apart i j _ _ _ _ a e hm e' (jv F hm).1 h rfl;exact n (this ▸ hj)
 have kp:zh H0 H':=fun c o e=>by
  have nc:c∉as:=fun z=>by rw [(mem c z).1] at e;cases e
  rcases F.keep c o e with z|⟨z,n,c',h1,h2⟩
  . exact g.h c o ((z5 nc).trans z)
  . refine .inr ⟨z,n,Lk.same ⟨c',(z5 nc).trans h1,(z5 fun y=>?_).trans h2⟩ g.h⟩
    obtain⟨m,hm⟩:=(mem c' y).2;rw [hm] at h2;cases h2
 refine⟨kp,g.sub,fun c o e=>?_,F.g0.trans g.g,fun i c e=>?_,fun i c v a e e' h=>?_,fun i j c c' v v' a e1 e2 e3 e4 h1 h2=>?_,by rw [zfz];exact F.len⟩
 . rcases g.new c o e with q|q|q
   . exact F.old c o q
   . rcases zda q with y|y
     . exact .inr (.inl (mem c y).1)
     . exact .inr (.inl (F.keep.free y))
   . exact .inr (.inr q)
 . rcases key i c e with ⟨n,q⟩|⟨a,m,m0,rfl,ha,q,h1,h2⟩
   . obtain⟨v,hv,hw⟩:=F.slot i c q
     refine⟨v,hv,hw.turn g.g (fun a C z=>?_) fun a h=>?_⟩
     . refine g.h.exc ((z5 fun y=>?_).trans z)
       obtain⟨m,hm⟩:=(mem a y).2;rw [hm] at z;cases z
     . have na:=oth i c v a n q hv h
       obtain⟨⟨o,ho,no⟩,hG⟩:=hw.has h;have hb:bar H as a=some o:=(z5 na).trans ho;refine⟨(g.h.at hb no).trans ho.symm,(g.hid hb hG no fun xs z=>?_).trans hG.symm⟩
       exact hw.ntup h xs ((z5 na).symm.trans z)
   . exact⟨_,(jv F q).1,.dm h1 h2⟩
 . rcases key i c e with ⟨n,q⟩|⟨a',m,m0,rfl,ha,q,h1,h2⟩
   . exact F.mine i c v a q e' h
   . exact F.mine i _ v a q e' h
 . have up:∀ (i:Nat) (c:Cl) (v:V) (a:Addr),(updM js as ms ρ)[i]?=some (some c)->Has c v a->∃ c0,ρ[i]?=some (some c0)/\Has c0 v a:=fun i c v a e h=>by
    rcases key i c e with ⟨n,q⟩|⟨a',m,m0,rfl,ha,q,h1,h2⟩
    . exact⟨c,q,h⟩
    . exact⟨_,q,h⟩
   obtain⟨c1,q1,k1⟩:=up i c v a e1 h1;obtain⟨c2,q2,k2⟩:=up j c' v' a e2 h2;exact F.apart i j c1 c2 v v' a q1 q2 e3 e4 k1 k2
theorem zhx(F:#[22]){js:List Nat}{as:List Addr}{ms:List Tb}(nd:js.Nodup)(ho:holds ρ js as)(b:Bk G' H' as ms){i:Nat}{c:Cl}{v:V}{a:Addr}(e:(updM js as ms ρ)[i]?=some (some c))(e':σ[i]?=some (some v))(h:Has c v a):H a≠none:=by
 have:∃ c0,ρ[i]?=some (some c0)/\Has c0 v a:=by
  rcases zcm (ρ:=ρ) nd ho b i c e with ⟨n,q⟩|⟨a',m,m0,rfl,ha,q,h1,h2⟩
  . exact⟨c,q,h⟩
  . exact⟨_,q,h⟩
 obtain⟨c0,q,k⟩:=this;obtain⟨⟨o,ho,_⟩,_⟩:=(F.vw q e').has k;rw [ho];intro z;cases z
theorem Fr3.putN(F:#[22]){i:Nat}{v:V}{c:Cl}(w:Vw K H0 G H v c)(h0:∀ a,Has c v a->H0 a=none)(hn:∀ (a:Addr) (j:Nat) (c':Cl) (v':V),Has c v a->ρ[j]?=some (some c')->σ[j]?=some (some v')->¬Has c' v' a):Fr3 K H0 G0 (ρ.set i (some c)) (σ.set i (some v)) G H:=by
 have key:∀ {k:Nat} {c':Cl},(ρ.set i (some c))[k]?=some (some c')->(k=i/\c'=c/\(σ.set i (some v))[k]?=some (some v))\/(k≠i/\ρ[k]?=some (some c')/\(σ.set i (some v))[k]? = σ[k]?):=fun {k c'} e=>by
  rcases zL e with ⟨rfl,q,hl⟩|⟨n,q⟩
  . cases q
    exact .inl ⟨rfl,rfl,Yas (by rw [<-F.len];exact hl)⟩
  . exact .inr ⟨Wbb n,q,Yac n⟩
 refine⟨F.keep,F.sub,F.old,F.g0,fun k c' e=>?_,fun k c' v' a e e' h=>?_,fun k m c1 c2 v1 v2 a e1 e2 e3 e4 h1 h2=>?_,by rw [YaN,YaN];exact F.len⟩
 . rcases key e with ⟨rfl,rfl,q⟩|⟨n,q,z⟩
   . exact⟨v,q,w⟩
   . obtain⟨v',h1,h2⟩:=F.slot k c' q
     exact⟨v',by rw [z];exact h1,h2⟩
 . rcases key e with ⟨rfl,rfl,q⟩|⟨n,q,z⟩
   . rw [q] at e';cases e';exact h0 a h
   . rw [z] at e';exact F.mine k c' v' a q e' h
 . rcases key e1 with ⟨rfl,rfl,q⟩|⟨n,q,z⟩
   . rw [q] at e3;cases e3
     rcases key e2 with ⟨rfl,_,_⟩|⟨n,q',z⟩
     . rfl
     . rw [z] at e4;exact absurd h2 (hn a m c2 v2 h1 q' e4)
   . rw [z] at e3
     rcases key e2 with ⟨rfl,rfl,q'⟩|⟨n',q',z'⟩
     . rw [q'] at e4;cases e4;exact absurd h1 (hn a k c1 v1 h2 q e3)
     . rw [z'] at e4;exact F.apart k m c1 c2 v1 v2 a q q' e3 e4 h1 h2
theorem Fr3.forget(F:#[22])(i:Nat):Fr3 K H0 G0 (ρ.set i none) σ G H:=by
 have key:∀ {k:Nat} {c':Cl},(ρ.set i none)[k]?=some (some c')->k≠i/\ρ[k]?=some (some c'):=fun {k c'} e=>by
  rcases zL e with ⟨rfl,q,hl⟩|⟨n,q⟩
  . cases q
  . exact⟨Wbb n,q⟩
 exact⟨F.keep,F.sub,F.old,F.g0,fun k c e=>F.slot k c (key e).2,fun k c v a e e' h=>F.mine k c v a (key e).2 e' h,fun k m c1 c2 v1 v2 a e1 e2 e3 e4 h1 h2=>F.apart k m c1 c2 v1 v2 a (key e1).2 (key e2).2 e3 e4 h1 h2,by rw [YaN];exact F.len⟩
theorem Dr.scal{H1:Hp}{kvs:List (List Key×V)}{ds:List (List Key×D)}(r:Dr K H0 G kvs ds)(h:(ds.all fun p=>zw p.2)=true):Dr K H1 G kvs ds:=by
 induction r with
 | nil=>exact .nil
 | cons a b ih=>
  rw [List.all_cons,Yak] at h;exact .cons (.sc h.1 a.rd) (ih h.2)
theorem Dr.older{H1:Hp}(hh:∀ a,H0 a=none->H1 a=none){kvs:List (List Key×V)}{ds:List (List Key×D)}(r:Dr K H0 G kvs ds):Dr K H1 G kvs ds:=by
 induction r with
 | nil=>exact .nil
 | cons a b ih=>exact .cons ⟨a.rd,fun hf=>j0 (Same.refl _) (fun x _ _ z=>hh x z) (a.nw hf)⟩ ih
theorem Vw.arg{H1:Hp}{v:V}{c:Cl}(w:Vw K H0 G H v c)(h:jt c=true):Vw K H1 G H v (argC c):=by
 cases w with
 | sh r=>exact .sh ⟨r.rd,fun h=>zaX h r.rd⟩
 | dm a b=>exact .dm a b
 | fd a b c=>exact .fd a (b.scal h) c
 | _=>cases h
theorem Vws.arg{H1:Hp}{vs:List V}{cs:List Cl}(w:Vws K H0 G H vs cs)(h:cs.all jt=true):Vws K H1 G H vs (cs.map argC):=by
 induction w with
 | nil=>exact .nil
 | cons a b ih=>
  rw [List.all_cons,Yak] at h;exact .cons (a.arg h.1) (ih h.2)
theorem Vw.res{H1:Hp}{v:V}{c:Cl}(w:Vw K H0 G H v c)(hh:∀ a,H0 a=none->H1 a=none)(h:JS c=true):Vw K H1 G H v c:=by
 cases w with
 | sh r=>exact .sh ⟨r.rd,fun hf=>j0 (Same.refl _) (fun x _ _ z=>hh x z) (r.nw hf)⟩
 | dt a b c=>exact .dt a (b.older hh) c
 | _=>cases h
theorem zdq{sp:SpC}(mono:∀ cs (Q Q':Cl->List Tb->Prop),(∀ c ms,Q c ms->Q' c ms)->sp cs Q->sp cs Q')(F:#[22]){vs:List V}{cs:List Cl}(w:Vws K H0 G H vs cs){js:List Nat}(nd:js.Nodup)(ha:cs.all jt=true)(ho:holds ρ js (dms cs)){R:Cl->Env3->Prop}(h:sp (cs.map argC) fun c ms=>R c (updM js (dms cs) ms ρ)){Q:VK}{E:XK}
 (q:∀ c ρ' v G' H',Fr3 K H0 G0 ρ' σ G' H'->zh (bar H (dms cs)) H'->Gr G (bar H (dms cs)) G' H'->Vw K H0 G' H' v c->(∀ a,Has c v a->H0 a=none/\∀ (j:Nat) (c':Cl) (v':V),ρ'[j]?=some (some c')->σ[j]?=some (some v')->¬Has c' v' a)->R c ρ'->Q v H'):spC K sp vs H Q E:=by
 have hh:∀ a,bar H (dms cs) a=none->H0 a=none:=fun a z=>by
  rcases zda z with y|y
  . obtain⟨j,m,_,hj⟩:=zal ho a y
    exact F.mine j _ _ a hj (jv F hj).1 rfl
  . exact F.keep.free y
 refine⟨G,cs.map argC,F.sub,by rw [zb1];exact w.arg ha,by rw [zb1];exact zfa F nd ho,mono _ _ _ (fun c ms k v G' H' g w' n' b hres=>?_) h⟩
 rw [zb1] at g w' b;refine q c _ v G' H' (F.called nd ho g b) g.h g (w'.res hh hres) (fun a z=>⟨F.keep.free (n' a z),fun j c' v' e e' y=>zhx F nd ho b e e' y (n' a z)⟩) k
end
section
variable{X:Cx}{H0:Hp}{e:Expr}{es:List Expr}{pos p:Pos}{x y:Str}{k:Nat}{ps:List Str}{sp:SpC}{E:XK}{t:TA3}
def J7(sp:SpC)(t:TA3)(js:List Nat)(R:Cl->Env3->Prop)(ρ : Env3):Prop:=t ρ fun cs=>cs.all jt=true/\holds ρ js (dms cs)/\sp (cs.map argC) fun c ms=>R c (updM js (dms cs) ms ρ)
def ZN(i:Nat)(sp:SpC)(t:TA3)(js:List Nat):TS3:=fun A ρ=>J7 sp t js (fun c ρ'=>A.nx (ρ'.set i (some c))) ρ
theorem zdi{i:Nat}{pos' spos:Pos}(js:List Nat)(nd:js.Nodup)(hN:X.N.Nodup)(hi:X.N[i]?=some y)(hy:Loc X.env.scope y)(Gd:DfC X.prog X.w X.K X.mg X.base k x ps sp)(hr:Room k X.A)(hg:Gl X x)(hx:Passes (CXR X.prog X.w) X E)(ha:PA3 X H0 (e::es) t)(hdb:#[23]:=by decide)
 (he:#[13]:=by rfl) (hpl:(backTo pos (starEach es X.env)).any (·.1)=false:=by rfl) (hs:swapsWith #[16] (some (.Name y pos')) spos.line X.env=pure false:=by rfl)
 (hf:X.fn y=true\/X.env.scope.names.lookup y=some .local:=by first|exact .inl rfl|exact .inr rfl|assumption):PS3 X H0 (.Assign [.Name y pos'] #[16] spos) (ZN i sp t js):=
 PS.imp (ji hN hi hy (jE Gd.ok hr hg hx ha.ok hdb he hpl) hs hf) fun B σ H=>el7 fun G0 A ρ G F q L=>⟨G0,ρ,G,F,ha.mono ρ _ _ (fun cs hyp vs G1 H1 g1 w=>by
  obtain⟨h1,h2,h3⟩:=hyp;show spC X.K sp (vs++[]) H1 _ E;rw [Yao];exact zdq (R:=fun c ρ'=>A.nx (ρ'.set i (some c))) Gd.mono (F.gr g1) w nd h1 h2 h3 fun c ρ' v G' H' F' _ _ w' n' k=>L.nx _ _ G' H' (F'.putN w' (fun a z=>(n' a z).1) fun a j c' v' z=>(n' a z).2 j c' v') k) q⟩
def Zz(sp:SpC)(t:TA3)(js:List Nat):TS3:=fun A ρ=>J7 sp t js (fun _ ρ'=>A.nx ρ') ρ
theorem zjs{spos:Pos}(js:List Nat)(nd:js.Nodup)(Gd:DfC X.prog X.w X.K X.mg X.base k x ps sp)(hr:Room k X.A)(hg:Gl X x)(hx:Passes (CXR X.prog X.w) X E)(ha:PA3 X H0 (e::es) t)(hdb:#[23]:=by decide)
 (he:#[13]:=by rfl) (hpl:(backTo pos (starEach es X.env)).any (·.1)=false:=by rfl) (hs:swapsWith #[16] none spos.line X.env=pure false:=by rfl):PS3 X H0 (.Expr #[16] spos) (Zz sp t js):=
 PS.imp (jT (jE Gd.ok hr hg hx ha.ok hdb he hpl) hs) fun B σ H=>el7 fun G0 A ρ G F q L=>⟨G0,ρ,G,F,ha.mono ρ _ _ (fun cs hyp vs G1 H1 g1 w=>by
  obtain⟨h1,h2,h3⟩:=hyp;show spC X.K sp (vs++[]) H1 _ E;rw [Yao];exact zdq (R:=fun _ ρ'=>A.nx ρ') Gd.mono (F.gr g1) w nd h1 h2 h3 fun c ρ' v G' H' F' _ _ w' n' k=>L.nx _ _ G' H' F' k) q⟩
def zau(sp:SpC)(t:TA3):TE3:=fun ρ Q=>t ρ fun cs=>cs.all jt=true/\dms cs=[]/\sp (cs.map argC) fun c _=>∃ f d,c=.sh f d/\Q (.sh f d)
theorem dfX{E:XK}(Gd:DfC X.prog X.w X.K X.mg X.base k x ps sp)(hr:Room k X.A)(hg:Gl X x)(hx:Passes (CXR X.prog X.w) X E)(ha:PA3 X H0 (e::es) t)(hdb:#[23]:=by decide)
 (he:#[13]:=by rfl) (hpl:(backTo pos (starEach es X.env)).any (·.1)=false:=by rfl):PE3 X H0 #[16] (zau sp t):=by
 refine⟨fun ρ Q Q' h q=>ha.mono ρ _ _ (fun cs ⟨a,b,q⟩=>⟨a,b,Gd.mono _ _ _ (fun c ms ⟨f,d,e,q⟩=>⟨f,d,e,h _ q⟩) q⟩) q,PE.imp (jE Gd.ok hr hg hx ha.ok hdb he hpl) fun σ H Q=>el5 fun G0 ρ G F q=>⟨G0,ρ,G,F,ha.mono ρ _ _ (fun cs hyp vs G1 H1 g1 w=>?_) q⟩⟩
 obtain⟨h1,h2,h3⟩:=hyp;show spC X.K sp (vs++[]) H1 Q E;rw [Yao];refine zdq (js:=[]) Gd.mono (F.gr g1) w WaS h1 (by rw [h2];exact True.intro) (R:=fun c _=>∃ f d,c=.sh f d/\∀ (v:V) (G' H':Hp),Gr G H G' H'->Vw X.K H0 G' H' v (.sh f d)->Q v H') h3 fun c ρ' v G' H' F' _ g' w' n' k=>?_
 obtain⟨f,d,rfl,k⟩:=k;rw [h2] at g';have e:bar H1 []=H1:=funext fun b=>z5 (by simp)
 rw [e] at g';exact k v G' H' (g1.trans g') w'
def zam(te:TE3):TS3:=fun A ρ=>te ρ fun c=>asS c fun f d=>A.rm (.sh f d) ρ
theorem zbs{te:TE3}(he:PE3 X H0 e te):PS3 X H0 (.Return (some e) pos) (zam te):=PS.imp (JU he.ok) fun B σ H=>el7 fun G0 A ρ G F q L=>
 ⟨G0,ρ,G,F,he.mono ρ _ _ (fun c hyp v G' H' g w=>by
  obtain⟨f,d,hc,q⟩:=Jr hyp;subst hc;exact L.rm _ v ρ σ G' H' (F.gr g) w (fun a z=>False.elim z) q) q⟩
def zaT(i:Nat):TS3:=fun A ρ=>∃ ds,ρ[i]?=some (some (.dt ds))/\A.rm (.dt ds) (ρ.set i none)
theorem zlp{i:Nat}{np:Pos}(hN:X.N[i]?=some x)(hv:Vis X.env.scope x)(hd:#[23]:=by decide)(hcd:#[20]:=by decide):PS3 X H0 (.Return (some (.Name x np)) pos) (zaT i):=PS.imp (JU (jw hN hv hd hcd)) fun B σ H hyp=>by
 obtain⟨G0,A,ρ,G,F,⟨ds,hi,q⟩,L⟩:=hyp;obtain⟨v,h1,h2⟩:=F.slot i _ hi;refine⟨v,h1,L.rm _ v _ σ G H (F.forget i) h2 (fun a z=>⟨F.mine i _ v a hi h1 z,fun j c' v' e e' y=>?_⟩) q⟩
 rcases zL e with ⟨rfl,q,_⟩|⟨n,q⟩
 . cases q
 . exact n (F.apart i j _ _ _ _ a hi q h1 e' z y)
end
end L3
namespace L2
open PySem PySem.Spec PyProof.Rows L3
section
variable{X:Cx}
theorem zg3(hc:X.calm=true):zQ X (.builtin "sorted") (fun xs H Q=>∃ (p:Addr) (ns:List Int),xs=[.ref p]/\SqL X.K H p (ns.map V.int)/\ns.length<64/\∀ ms:List Int,ms.Perm ns->ms.Pairwise (·<=·)->∀ l,H l=none->Q (.ref l) (upd H l (.lst (ms.map V.int)))):=by
 intro pins s σ H xs us Q I r h;obtain⟨p,ns,rfl,hq,hlt,q⟩:=h;obtain⟨u,rfl,ru⟩:=Jn r;cases(show u=Value.ref p from ru)
 obtain⟨its,rv,pl,_⟩:=I.list hq;have hI:=zbw rv;have hln:=hI.length;refine sorted_ints pl.isList hI (by rw [hln];exact hlt) fun out ms a1 a2 a3=>?_
 obtain⟨e,he⟩:=sortedAll_at s.heap its out;have hl2:=a2.length_eq;refine⟨.ref #[21],_,I.laid (t':=s.toks) (o:=.lst (ms.map V.int)) (fun b ob q=>sortedAll_old q) (Nat.le_succ _) ⟨?_,out.toList,e,zdo a1,he⟩,rfl,q ms a2 a3 _ (I.hok.fresh (Nat.le_succ _))⟩
 rw [YaR,hl2,sizeLine_eq];omega
end
end L2
namespace L3
open PySem PySem.Spec PyProof.Rows L2
variable[LamW]
def getM(ds:Tb)(k:Int):Option Int:=(ds.find? fun p=>decide (p.1=k)).map (·.2)
def putM(ds:Tb)(k v:Int):Tb:=if(ds.any fun p=>decide (p.1=k))=true then ds.map (fun p=>if p.1=k then(p.1,v) else p) else ds++[(k,v)]
def optI:Option Int->D
 | none=>.none
 | some i=>.int i
theorem zcQ(a k:Int):decide ((Sum.inl a:Key)=Sum.inl k)=decide (a=k):=by
 by_cases e:a=k
 . rw [e];simp
 . rw [decide_eq_false e,decide_eq_false fun z=>e (Sum.inl.inj z)]
theorem jz(ds:Tb)(k:Int):valV (encM ds) (Sum.inl k)=(getM ds k).map V.int:=by
 unfold valV getM encM
 induction ds with
 | nil=>rfl
 | cons p r ih=>
  rw [Ya1,List.find?_cons,List.find?_cons,zcQ]
  by_cases e:p.1=k
  . rw [decide_eq_true e];rfl
  . rw [decide_eq_false e];exact ih
theorem Zd(ds:Tb)(k v:Int):putK (encM ds) (Sum.inl k) (.int v)=encM (putM ds k v):=by
 have ha:((encM ds).any fun kv=>decide (kv.1=(Sum.inl k:Key)))=ds.any fun p=>decide (p.1=k):=by
  unfold encM;rw [List.any_map]
  congr 1
  funext p
  exact zcQ p.1 k
 unfold putK putM;rw [ha]
 split
 . unfold encM
   rw [YaD,YaD];refine Yat fun p _=>?_
   show(if(Sum.inl p.1:Key)=Sum.inl k then _ else _)=_
   by_cases e:p.1=k
   . rw [if_pos (by rw [e])]
     simp only [Function.comp,if_pos e]
   . rw [if_neg fun z=>e (Sum.inl.inj z)]
     simp only [Function.comp,if_neg e]
 . unfold encM
   rw [Ya2];rfl
theorem J5(ds:Tb):(encM ds).length=ds.length:=YaR _
section
variable{X:Cx}{H0:Hp}{e a b:Expr}{pos:Pos}{x:Str}{i:Nat}
def ZI(i:Nat):TS3:=fun A ρ=>∀ a,A.nx (ρ.set i (some (.dm a [])))
theorem zdw{pos' p:Pos}(hN:X.N.Nodup)(hi:X.N[i]?=some x)(hx:Loc X.env.scope x)(hs:swapsWith (.Dict [] [] p) (some (.Name x pos')) pos.line X.env=pure false:=by rfl)
 (hf:#[19]:=by first|exact .inl rfl|exact .inr rfl|assumption):PS3 X H0 (.Assign [.Name x pos'] (.Dict [] [] p) pos) (ZI i):=PS.imp (ji hN hi hx JB hs hf) fun B σ H=>el7 fun G0 A ρ G F q L=>
 fun p hp=>L.nx _ _ G _ (F.put (zG hp _).x (.dm (ds:=[]) zf (F.sub.free hp)) fun a h=>by cases h;exact hp) (q p)
def zaG(i:Nat)(ta te:TE3):TS3:=fun A ρ=>∃ l ds,ρ[i]?=some (some (.dm l ds))/\te ρ fun c=>ta ρ fun ck=>asI ck fun k=>asI c fun v=>ds.length<sizeLine/\A.nx (ρ.set i (some (.dm l (putM ds k v))))
theorem zcb{ta te:TE3}{np spos:Pos}(hu:X.A.units+1<cLine)(hN:X.N[i]?=some x)(hv:Vis X.env.scope x)(ha:PE3 X H0 a ta)(he:PE3 X H0 e te)(hd:#[23]:=by decide)(hcd:#[20]:=by decide)
 (hs:swapsWith e (some (.Subscript (.Name x np) a spos)) pos.line X.env=pure false:=by rfl):PS3 X H0 (.Assign [.Subscript (.Name x np) a spos] e pos) (zaG i ta te):=by
 refine PS.imp (Jw hu (jw hN hv hd hcd) ha.ok he.ok hs) fun B σ H hyp=>?_
 obtain⟨G0,A,ρ,G,F,⟨l,ds,hi,q⟩,L⟩:=hyp;refine⟨G0,ρ,G,F,he.mono ρ _ _ (fun c q1 v1 G1 H1 g1 w1=>?_) q⟩
 have F1:=F.gr g1;refine⟨.ref l,(jv F1 hi).1,G0,ρ,G1,F1,ha.mono ρ _ _ (fun ck q2 v2 G2 H2 g2 w2=>?_) q1⟩
 obtain⟨k,rfl,q3⟩:=jy q2;obtain⟨v,rfl,e4,q4⟩:=jy q3;cases zz (zm w1).rd;cases zz (zm w2).rd;have F2:=F1.gr g2;obtain⟨hl,k2,k4⟩:=jv F2 hi;exact⟨l,_,rfl,DPut.k (k:=Sum.inl k) k2 (by rw [J5];exact e4),L.nx _ _ _ _ (F2.chg (c':=.dm l (putM ds k v)) hi hl rfl (fun _ h=>h) (.dm (by rw [zf,Zd]) k4)) q4⟩
def za1(i:Nat)(ta:TE3):TE3:=fun ρ Q=>∃ l ds,ρ[i]?=some (some (.dm l ds))/\ta ρ fun c=>asI c fun k=>∃ v,getM ds k=some v/\Q (.sh true (.int v))
theorem zb5{ta:TE3}{np:Pos}(hu:X.A.units+1<cLine)(hN:X.N[i]?=some x)(hv:Vis X.env.scope x)(ha:PE3 X H0 a ta)(hd:#[23]:=by decide)(hcd:#[20]:=by decide)(hs:NoSl a:=by exact fun _ _=>rfl):PE3 X H0 (.Subscript (.Name x np) a pos) (za1 i ta):=by
 refine⟨fun ρ Q Q' h ⟨l,ds,hi,q⟩=>⟨l,ds,hi,ha.mono ρ _ _ (fun c q=>?_) q⟩,PE.imp (jU hu (jw hN hv hd hcd) ha.ok hs) fun σ H Q=>el5 fun G0 ρ G F q=>?_⟩
 . obtain⟨k,rfl,v,e,q⟩:=jy q
   exact⟨v,e,h _ q⟩
 obtain⟨l,ds,hi,q⟩:=q;refine⟨.ref l,(jv F hi).1,G0,ρ,G,F,ha.mono ρ _ _ (fun c q2 v2 G2 H2 g2 w2=>?_) q⟩
 obtain⟨k,rfl,v,e,q⟩:=jy q2;cases zz (zm w2).rd;obtain⟨_,k2,_⟩:=jv (F.gr g2) hi;have g:=DGet.k (k:=Sum.inl k) k2;rw [jz,e] at g;exact⟨l,_,rfl,g,q _ G2 H2 g2 (.sh (.sc rfl (.int v)))⟩
def zaD(i:Nat)(ta:TE3):TE3:=fun ρ Q=>∃ l ds,ρ[i]?=some (some (.dm l ds))/\ta ρ fun c=>asI c fun k=>Q (.sh true (optI (getM ds k)))
theorem zie{ta:TE3}{np apos cpos:Pos}(hu:X.A.units+1<cLine)(hN:X.N[i]?=some x)(hv:Vis X.env.scope x)(ha:PE3 X H0 a ta)(m:M1 X (.Name x np) "get" apos a cpos:=by exact⟨rfl,rfl,rfl,rfl⟩)(hd:#[23]:=by decide)(hcd:#[20]:=by decide):PE3 X H0 (.Call (.Attribute (.Name x np) "get" apos) [a] [] cpos) (zaD i ta):=by
 refine⟨fun ρ Q Q' h ⟨l,ds,hi,q⟩=>⟨l,ds,hi,ha.mono ρ _ _ (fun c q=>?_) q⟩,PE.imp (ze2 hu (jw hN hv hd hcd) ha.ok m) fun σ H Q=>el5 fun G0 ρ G F q=>?_⟩
 . obtain⟨k,rfl,q⟩:=jy q
   exact h _ q
 obtain⟨l,ds,hi,q⟩:=q;obtain⟨hl,h2,_⟩:=jv F hi;refine⟨.ref l,hl,l,rfl,.inl ⟨_,.inl h2⟩,G0,ρ,G,F,ha.mono ρ _ _ (fun c q2 v2 G2 H2 g2 w2=>?_) q⟩
 obtain⟨k,rfl,q⟩:=jy q2;cases zz (zm w2).rd;obtain⟨_,k2,_⟩:=jv (F.gr g2) hi;have g:=DGet.k (k:=Sum.inl k) k2;rw [jz] at g;refine⟨_,g,?_⟩;cases e:getM ds k with
 | none=>rw [e] at q;exact q _ G2 H2 g2 (.sh (.sc rfl .non))
 | some v=>rw [e] at q;exact q _ G2 H2 g2 (.sh (.sc rfl (.int v)))
def zar(i:Nat)(ta:TE3):TE3:=fun ρ Q=>∃ l ds,ρ[i]?=some (some (.dm l ds))/\ta ρ fun c=>asI c fun k=>Q (.sh true (.bool (!(getM ds k).isSome)))
theorem zco{ta:TE3}{np:Pos}(hu:X.A.units+1<cLine)(hN:X.N[i]?=some x)(hv:Vis X.env.scope x)(ha:PE3 X H0 a ta)(hm:behindInMarks .NotIn (.Name x np)=false:=by rfl)(hd:#[23]:=by decide)(hcd:#[20]:=by decide):PT3 X H0 (.Compare a [.NotIn] [.Name x np] pos) (tt3 (zar i ta)):=by
 refine⟨zbi fun ρ Q Q' h q=>?_,PT.imp (Zk (zbT hu ha.ok (jw hN hv hd hcd)) hm) fun σ H Q=>el5 fun G0 ρ G F q=>?_⟩
 . obtain⟨l,ds,hi,q⟩:=q
   refine⟨l,ds,hi,ha.mono ρ _ _ (fun c q=>?_) q⟩
   obtain⟨k,rfl,q⟩:=jy q;exact h _ q
 obtain⟨l,ds,hi,q⟩:=q;refine⟨G0,ρ,G,F,ha.mono ρ _ _ (fun c q2 v2 G2 H2 g2 w2=>?_) q⟩
 obtain⟨k,rfl,q⟩:=jy q2;cases zz (zm w2).rd;obtain⟨hl,k2,_⟩:=jv (F.gr g2) hi;have g:=DGet.k (k:=Sum.inl k) k2;rw [jz] at g;exact⟨.ref l,hl,l,_,rfl,g,_,rfl,by rw [WaA];exact q _ _ g2⟩
def srtL(ta:TA3):TN3:=fun ρ Q=>ta ρ fun cs=>∃ c,cs=[c]/\c.dat=true/\∃ ns:List Int,c.d=.list (ns.map .int)/\ns.length<64/\∀ ms:List Int,ms.Perm ns->ms.Pairwise (·<=·)->Q true (ms.map PyData.int)
theorem zdQ{K:Ybf}{G:Hp}:∀ {ns:List Int} {xs:List V},RdVs K G xs (ns.map PyData.int)->xs=ns.map V.int
 | [],_,.nil=>rfl
 | n :: r, _, .cons a t => by
  cases a;rw [zdQ t];rfl
theorem zhk{K:Ybf}{H0 G:Hp}(ns:List Int):Rfs K H0 G true (ns.map V.int) (ns.map PyData.int):=by
 induction ns with
 | nil=>exact Rfs.nil
 | cons a r ih=>exact Rfs.cons (f:=true) (.sc rfl (.int a)) ih
theorem zkB{np:Pos}{ta:TA3}(hc:X.calm=true)(hg:Gl X "sorted")(hm:X.mg "sorted" = none)(ha:PA3 X H0 [a] ta)
 (he:starEach [a] X.env=(false,eval a X.env)::starEach [] X.env:=by rfl) (hpl:(backTo pos (starEach [] X.env)).any (·.1)=false:=by rfl):PN3 X H0 (.Call (.Name "sorted" np) [a] [] pos) (srtL ta):=by
 refine⟨fun ρ Q Q' h q=>ha.mono ρ _ _ (fun cs ⟨c,h0,h1,ns,h2,h3,q⟩=>⟨c,h0,h1,ns,h2,h3,fun ms a b=>h _ _ (q ms a b)⟩) q,PE.imp (Jc (x:="sorted") (zg3 hc) hg hm (show bootBuiltins "sorted" = some (.builtin "sorted") by rfl) ha.ok #[1] #[1] he hpl) fun σ H Q=>el5 fun G0 ρ G F q=>⟨G0,ρ,G,F,ha.mono ρ _ _ (fun cs hyp vs G1 H1 g1 w=>?_) q⟩⟩
 obtain⟨c,rfl,h1,ns,h2,h3,q⟩:=hyp;obtain⟨v,rfl,w1⟩:=vws1 w;obtain⟨l,us,rfl,hq,rs⟩:=Jg w1 g1.sub h1 h2;cases zdQ rs.rd;exact⟨l,ns,rfl,hq,h3,fun ms p1 p2 p hp=>q ms p1 p2 p _ G1 H1 g1 hp (zhk ms)⟩
def ninT3:R3:=fun a b Q=>a.dat=true/\b.dat=true/\asT b.d fun xs=>SeqAt.shaped a.d=true/\SeqAt.shaped (.tuple xs)=true/\Q true (.bool (!xs.any fun y=>PyData.eqv y a.d))
theorem ziO(hu:X.A.units+65<cLine):OpOk X (compareOp .NotIn) ninT3:=by
 refine⟨fun a b Q Q' h q=>?_,fun H0=>?_⟩
 . obtain⟨h1,h2,q⟩:=q
   obtain⟨xs,e,h3,h4,q⟩:=zbN q;refine⟨h1,h2,?_⟩;rw [e];exact⟨h3,h4,h _ _ q⟩
 intro pins s σ H x y v u Q I rx ry hyp;obtain⟨G,a,b,sm,wa,wb,ha,hb,q⟩:=hyp;have ra:=wa.rd sm ha;have rb:=wb.rd sm hb;obtain⟨xs,e,s1,s2,q⟩:=zbN q;rw [e] at rb;obtain⟨as,r1⟩:=ra.reads I rx;obtain⟨bs,r2⟩:=rb.reads I ry;exact SeqAt.notIn_tuple_reads r2 r1 (SeqAt.canLay_of_shaped s2) (SeqAt.canLay_of_shaped s1) (room_in_shaped s1 hu) ⟨.bl _,H,I,rfl,q _ G H (Gr.refl sm) (.sc rfl (.bl _))⟩
def ZQ(i:Nat)(ta tb:TE3):TE3:=fun ρ Q=>∃ ds,ρ[i]?=some (some (.fd ds))/\ta ρ fun ka=>tb ρ fun kb=>asI ka fun m=>asI kb fun n=>Q (.sh true (.bool (!(getT ds (kk m n)).isSome)))
theorem zhh{ta tb:TE3}{np tp:Pos}{k1}(hu:X.A.units+1<cLine)(hN:X.N[i]?=some x)(hv:Vis X.env.scope x)(ha:PE3 X H0 a ta)(hb:PE3 X H0 b tb)(hm:behindInMarks .NotIn (.Name x np)=false:=by rfl)(hd:#[23]:=by decide)(hcd:#[20]:=by decide)
 (hs1:starEach [a,b] X.env=(false,eval a X.env)::starEach [b] X.env:=by rfl) (hs2:starEach [b] X.env=(false,eval b X.env)::starEach [] X.env:=by rfl) :
 PE3 X H0 (.Compare (.Tuple [a,b] k1 tp) [.NotIn] [.Name x np] pos) (ZQ i ta tb):=by
 refine⟨fun ρ Q Q' h q=>?_,PE.imp (ziv (zbT hu (zaI (zl ha.ok (zl hb.ok zF hs2) hs1)) (jw hN hv hd hcd)) hm) fun σ H Q=>el5 fun G0 ρ G F q=>?_⟩
 . obtain⟨ds,hi,q⟩:=q
   refine⟨ds,hi,ha.mono ρ _ _ (fun ka q=>hb.mono ρ _ _ (fun kb q1=>?_) q) q⟩
   obtain⟨m,rfl,q2⟩:=jy q1;obtain⟨n,rfl,q3⟩:=jy q2;exact h _ q3
 obtain⟨ds,hi,q⟩:=q;refine⟨G0,ρ,G,F,ha.mono ρ _ _ (fun ka q2 v2 G2 H2 g2 w2=>?_) q⟩
 refine⟨G0,ρ,G2,F.gr g2,hb.mono ρ _ _ (fun kb q3 v3 G3 H3 g3 w3=>?_) q2⟩
 obtain⟨m,rfl,q⟩:=jy q3;obtain⟨n,rfl,q⟩:=jy q;cases zz (zm w2).rd;cases zz (zm w3).rd;refine⟨show 2<=sizeLine by decide,fun p hp=>?_⟩
 have g4:=Gr.apart (o:=.tup [.int m,.int n]) g3.sub hp;have F3:=((F.gr g2).gr g3).gr g4;obtain⟨l,o,kvs,h1,h2,h3,_⟩:=zhy F3 hi;have g:DGet (upd H3 p (.tup [.int m,.int n])) l (.ref p) (valV kvs (kk m n)):=.inr ⟨kvs,kk m n,p,.inr ⟨o,F3.sub.s _ _ h2⟩,rfl,zf,rfl⟩;refine⟨.ref l,h1,l,_,rfl,g,?_⟩;rw [h3.some];exact q _ G3 _ ((g2.trans g3).trans g4) (.sh (.sc rfl (.bl _)))
end
variable[LamW]
section
variable{X:Cx}{H0:Hp}{e:Expr}{pos pos':Pos}{x:Str}{i j:Nat}{J:List Nat}{l:List Stmt}{u:Env3->D->TS3}{st:Stmt}
variable{w:Env3->TS3}{jr:Nat}{y:Str}
end
end L3
namespace L2
open PySem PySem.Spec PyProof.Rows
theorem zdC{P:Program}{w:World}{k:Key}{u:Value}(h:(z8 P w).is k u=true):RelV (kV k) u:=by
 rcases j5 h with ⟨i,t,rfl,rfl⟩|⟨x,t,rfl,rfl⟩
 . exact⟨t,rfl⟩
 . exact⟨t,rfl⟩
theorem zct{α β : Type}{F:α->β->Prop}:∀ {l:List α} {m:List β},Paired F l m->∀ {j:Nat} {a:α},l[j]?=some a->∃ b,m[j]?=some b/\F a b
 | _,_,.nil,_,_,h=>by simp at h
 | _, _, .cons x r, 0, _, h => by
  rw [List.getElem?_cons_zero] at h;cases h;exact⟨_,rfl,x⟩
 | _, _, .cons x r, j + 1, _, h => by
  rw [List.getElem?_cons_succ] at h;obtain⟨b,h1,h2⟩:=zct r h;exact⟨b,by rw [List.getElem?_cons_succ];exact h1,h2⟩
section
variable{X:Cx}{pins:List #[18]}{s:Shared}{σ : St}{H:Hp}
theorem JX(I:#[11]){d:Addr}{o:Obj}{kvs:List (Key×V)}(h:H d=some (.frz o (.dK kvs))):∃ vs ep es,s.heap.get? d=some o/\o.ExactDict/\o.data=.dict es ep/\(d==sysModules)=false/\KV kvs vs/\s.heap.DictAt (z8 X.prog X.w) d vs ep/\s.heap.DictOf (z8 X.prog X.w) d vs:=by
 obtain⟨hd,_,hs,vs,hkv,o',es,ep,ho',hx,he,r⟩:=(show zJ X.prog X.w H s.heap d (.frz o (.dK kvs)) from I.hok d _ h)
 have e:o'=o:=by rw [hd] at ho';exact(WaP ho').symm
 subst e;exact⟨vs,ep,es,hd,hx,he,hs,hkv,⟨o',es,hd,hx,he,r⟩,⟨o',es,ep,hd,hx,he,r⟩⟩
end
theorem zhU:entryFor table "dict_itemiterator.__iter__" = some Builtin.«dict_keyiterator.__iter__»:=
 entryFor_alias (id':="dict_keyiterator.__iter__") (by kernel_rfl) rfl #[3] (by kernel_rfl)
def Iti(d:Addr)(o:Obj)(kvs:List (Key×V)):It:=
 ⟨fun i H=>(∃ p,kvs[i]?=some p)/\H d=some (.frz o (.dK kvs)),
  fun i H x H'=>∃ a k v,H a=none/\x=.ref a/\kvs[i]?=some (k,v)/\H'=upd H a (.tup [kV k,v]),
  fun i H=>i=kvs.length/\H d=some (.frz o (.dK kvs))⟩
theorem zjT{P:Program}{w:World}{K:Ybf}{elts:List Expr}{n:Nat}{pos:Pos}{d it:Addr}{o:Obj}{es0:Array DictEntry}{ep:Nat}{kvs:List (Key×V)}(he:o.data=.dict es0 ep):Turn P w K (.Tuple elts n pos) (Iti d o kvs) [it] it (fun i h=>∃ ok ov,IsItemIter h it d i kvs.length ep ok ov) where
 mem:=by simp
 obj:=fun i h st b hb=>by
  have e:b=it:=by simpa using hb
  subst e;obtain⟨ok,ov,st⟩:=st;exact⟨_,st,fun v z=>by cases(show Data.fields _=Data.cell v from z)⟩
 keep:=fun i h h' ⟨ok,ov,st⟩ k=>⟨ok,ov,k it (by simp) _ st⟩
 item:=by
  intro X hP hw hK hc i pins s σ H E I hf st hg;subst hP hw hK;obtain⟨⟨⟨k,x⟩,hx⟩,hH⟩:=hg;obtain⟨vs,ep',es,hd,hex,he',hs,hkv,hdict,_⟩:=JX I hH;have eep:ep'=ep:=by rw [he] at he';cases he';rfl
  subst eep;have hl:kvs.length=vs.length:=WaT hkv;obtain⟨⟨k',u⟩,hu,hk,ru⟩:=zct hkv hx;have hk:k=k':=hk;have ru:RelV x u:=ru;subst hk;obtain⟨ok,ov,st⟩:=st;rw [hl] at st;obtain⟨f0,f1,f2,f3,f4,f5⟩:=hf it (by simp)
  have hlt:it<s.heap.objs.size:=YaX st;refine wpAny_pyNext_items_item st hdict hu fun key h' hkey out tup sz kp=>⟨_,rfl,wpAny_letOwnedTupleGo_items (s:={ s with heap:=h' }) out fun h2 st2 sb=>?_⟩
  have I1:Inv X pins σ H { s with heap:=h2,toks:=s.toks }:=I.turned (fun b o hb e=>(sb.2 b hb).trans (kp b o hb e)) f0 f1 f3 f4 f5
  have hT:=YaY s.heap.objs.size;have hTn:H s.heap.objs.size=none:=I.hok.fresh hT;have ho2:=(sb.2 s.heap.objs.size (Wa3 hlt)).trans tup;have I2:Inv X pins σ (upd H s.heap.objs.size (.tup [kV k,x])) { s with heap:=h2,toks:=s.toks }:=I1.track hTn (Ya5 I.sz hT) (Wa3 (YaU I.lt hT)) (fun n c e z=>by
   obtain⟨vv,q⟩:=I.cell n c e;exact absurd (YaU q.lt (by rw [z];exact hT)) (Yap _)) (fun p hp z=>absurd (YaU (YaX (I.pin p hp).1) (by rw [z];exact hT)) (Yap _))
   ⟨by show 2<=sizeLine;decide,[key,u],.cons (zdC hkey) (.cons ru .nil),_,ho2,rfl,_,rfl⟩
  refine⟨.ref s.heap.objs.size,_,I2,rfl,⟨_,k,x,hTn,rfl,hx,rfl⟩,⟨key,u,by rw [hl];exact st2⟩,fun b hb=>?_⟩
  have e:b=it:=by simpa using hb
  subst e;rw [zd (Yaf hlt)];exact f0
 done:=by
  intro X hP hw hK hc i pins s σ H E I hf st hg;subst hP hw hK;obtain⟨hi,hH⟩:=hg;obtain⟨vs,ep',es,hd,hex,he',hs,hkv,hdict,_⟩:=JX I hH;have eep:ep'=ep:=by rw [he] at he';cases he';rfl
  subst eep;have hl:kvs.length=vs.length:=WaT hkv;obtain⟨ok,ov,st⟩:=st;rw [hl] at st hi;obtain⟨f0,f1,f2,f3,f4,f5⟩:=hf it (by simp)
  exact wpAny_pyNext_items_end (I.ok.hd hc) st hdict (by rw [hi];exact Wan (YaY _)) fun h' eb=>⟨rfl,I.turned (t':=s.toks) (fun b o hb e=>eb b o hb e) f0 f1 f3 f4 f5⟩
 self:=fun A i s Q E ⟨ok,ov,st⟩ h=>by
  have ht:s.TypeIs (.ref it) "dict_itemiterator":=⟨_,st,rfl⟩;refine wpAny_pyIter_slot ht PySem.F.slot_dict_itemiterator_iter (wpAny_call_entry PySem.F.slot_dict_itemiterator_iter ht zhU ?_ (PySem.F.args_dict_itemiterator_iter_1 _));show wpAny _ _ (ret (.ref it)) _ _ s;exact wpAny_pure ⟨_,rfl,"dict_itemiterator", _,ht,PySem.F.slot_dict_itemiterator_next.lookup,h⟩
def zjE(tl:TE):TI:=fun σ H R=>tl σ H fun v H1=>∃ d o kvs,v=.ref d/\H1 d=some (.frz o (.dK kvs))/\R (Iti d o kvs) H1
theorem zim{X:Cx}{elts:List Expr}{n:Nat}{tpos apos pos:Pos}{l:Expr}{tl:TE}(hl:PE X l tl)(hb:attributeBase l "items" X.env (eval l X.env)=eval l X.env:=by rfl)(hline:(apos.endLine==pos.line)=true:=by rfl):PI X (.Tuple elts n tpos) (.Call (.Attribute l "items" apos) [] [] pos) (zjE tl):=by
 intro pins s σ H R I h;refine wpAny_Call_method (T:="dict") (id:="dict.items") hb rfl hline PySem.F.plainAttrs_dict PySem.F.slot_dict_items PySem.F.type_dict_items (wpAny_mono (hl pins s σ H _ I h) (fun v s1 q=>?_) fun _ _ z=>z)
 obtain⟨x,H1,I1,r1,d,o,kvs,rfl,hH,q⟩:=q;cases(show v=Value.ref d from r1)
 obtain⟨vs,ep,es,hd,hex,he,hs,hkv,hdict,hof⟩:=JX I1 hH;have hl2:kvs.length=vs.length:=WaT hkv;refine⟨hof.typeIs,hof.mapOf.noDict,?_⟩;show wpAny _ _ (callWith pos (.builtin "dict.items") [.ref d] [] []) _ _ s1;refine method_meetsIn PySem.F.slot_dict_items PySem.F.entry_dict_items rfl (PyProof.Rows.evalArgs_none ⟨rfl,hof.typeIs,PySem.F.args_dict_items_1 _,_,meets_dict_items (z8 X.prog X.w) d hs,⟨vs,hof⟩,?_⟩)
 have I2:Inv X pins σ H1 { s1 with heap:=s1.heap.push { cls:=.type "dict_items", data:=.fields #[.ref d] },toks:=s1.toks }:=I1.kept fun b o e=>YaW _ e
 refine wpAny_pyIter_items (knd:=z8 X.prog X.w) (d:=d) (kvs:=vs) (ep:=ep) ⟨_,Yan _ rfl,rfl,rfl⟩ (hdict.push _) ?_
 have I3:=I2.kept (t':=s1.toks) (h':=(s1.heap.push { cls:=.type "dict_items", data:=.fields #[.ref d] }).push { cls:=.type "dict_itemiterator", data:=.fields #[.none,.bool false,.ref d,.int 0 0,.int vs.length 0,.int ep 0,.none,.none] }) fun b o e=>YaW _ e
 refine⟨(s1.heap.push { cls:=.type "dict_items", data:=.fields #[.ref d] }).objs.size,[(s1.heap.push { cls:=.type "dict_items", data:=.fields #[.ref d] }).objs.size],_,Iti d o kvs,H1,rfl,I3,zjT he,⟨.none,.none,by rw [hl2];exact Yan _ rfl⟩,fun b hb=>?_,q⟩
 have e:b=(s1.heap.push { cls:=.type "dict_items", data:=.fields #[.ref d] }).objs.size:=by simpa using hb
 subst e;exact I2.fpOk (YaY _) (I2.hok.fresh (YaY _))
def Itk(d:Addr)(o:Obj)(kvs:List (Key×V)):It:=
 ⟨fun i H=>(∃ p,kvs[i]?=some p)/\H d=some (.frz o (.dK kvs)),
  fun i H x H'=>H'=H/\∃ k v,kvs[i]?=some (k,v)/\x=kV k,
  fun i H=>i=kvs.length/\H d=some (.frz o (.dK kvs))⟩
theorem zg7{P:Program}{w:World}{K:Ybf}{tg:Expr}{d it:Addr}{o:Obj}{es0:Array DictEntry}{ep:Nat}{kvs:List (Key×V)}(he:o.data=.dict es0 ep):Turn P w K tg (Itk d o kvs) [it] it (fun i h=>h.IsKeyIter it d i kvs.length ep) where
 mem:=by simp
 obj:=fun i h st b hb=>by
  have e:b=it:=by simpa using hb
  subst e;obtain⟨o,e,c,d⟩:=st;exact⟨o,e,fun v z=>by rw [d] at z;cases z⟩
 keep:=fun i h h' st k=>by
  obtain⟨o,e,c,d⟩:=st;exact⟨o,k it (by simp) o e,c,d⟩
 item:=by
  intro X hP hw hK hc i pins s σ H E I hf st hg;subst hP hw hK;obtain⟨⟨⟨k,x⟩,hx⟩,hH⟩:=hg;obtain⟨vs,ep',es,hd,hex,he',hs,hkv,hdict,_⟩:=JX I hH;have eep:ep'=ep:=by rw [he] at he';cases he';rfl
  subst eep;have hl:kvs.length=vs.length:=WaT hkv;obtain⟨⟨k',u⟩,hu,hk,ru⟩:=zct hkv hx;have hk:k=k':=hk;subst hk;rw [hl] at st;obtain⟨f0,f1,f2,f3,f4,f5⟩:=hf it (by simp)
  refine wpAny_pyNext_dict_item st hdict hu fun key h' hkey st' sb=>?_
  have I1:Inv X pins σ H { s with heap:=h',toks:=s.toks }:=I.turned (fun b o hb e=>(sb.2 b hb).trans e) f0 f1 f3 f4 f5
  exact⟨_,rfl,letGo_keyiter (s':={ s with heap:=h' }) st' ⟨kV k,H,I1,zdC hkey,⟨rfl,k,x,hx,rfl⟩,by rw [hl];exact st',fun b hb=>(hf b hb).1⟩⟩
 done:=by
  intro X hP hw hK hc i pins s σ H E I hf st hg;subst hP hw hK;obtain⟨hi,hH⟩:=hg;obtain⟨vs,ep',es,hd,hex,he',hs,hkv,hdict,_⟩:=JX I hH;have eep:ep'=ep:=by rw [he] at he';cases he';rfl
  subst eep;have hl:kvs.length=vs.length:=WaT hkv;rw [hl] at st hi;obtain⟨f0,f1,f2,f3,f4,f5⟩:=hf it (by simp)
  exact wpAny_pyNext_dict_end (I.ok.hd hc) st hdict (by rw [hi];exact Wan (YaY _)) fun h' eb=>⟨rfl,I.turned (t':=s.toks) (fun b o hb e=>eb b o hb e) f0 f1 f3 f4 f5⟩
 self:=fun _ _ _ _ _ st h=>wpAny_pyIter_keyiter st h
def zjz(tl:TE):TI:=fun σ H R=>tl σ H fun v H1=>∃ d o kvs,v=.ref d/\H1 d=some (.frz o (.dK kvs))/\R (Itk d o kvs) H1
theorem zdG{X:Cx}{tg l:Expr}{tl:TE}(hl:PE X l tl):PI X tg l (zjz tl):=by
 intro pins s σ H R I h;refine thn (hl pins s σ H _ I h) fun v s1 ⟨x,H1,I1,r1,q1⟩=>?_
 obtain⟨d,o,kvs,rfl,hH,q⟩:=q1;cases(show v=Value.ref d from r1)
 obtain⟨vs,ep,es,hd,hex,he,hs,hkv,hdict,_⟩:=JX I1 hH;have hl2:kvs.length=vs.length:=WaT hkv;refine wpAny_pyIter_dict hs hdict ?_;refine⟨s1.heap.objs.size,[s1.heap.objs.size],_,Itk d o kvs,H1,rfl,I1.kept (t':=s1.toks) fun b o e=>YaW _ e,zg7 he,⟨_,Yan _ rfl,rfl,by rw [hl2];rfl⟩,fun b hb=>?_,q⟩
 have e:b=s1.heap.objs.size:=by simpa using hb
 subst e;exact I1.fpOk (YaY _) (I1.hok.fresh (YaY _))
theorem Inv.frzK{X:Cx}{pins:List #[18]}{s:Shared}{σ : St}{H:Hp}(I:#[11]){l:Addr}{kvs:List (Key×V)}(hl:H l=some (.dK kvs)):∃ o,Inv X pins σ (upd H l (.frz o (.dK kvs))) s:=by
 obtain⟨hz,hs,vs,hp,o,es,ep,ho,hx,r⟩:=(show zJ X.prog X.w H s.heap l (.dK kvs) from I.hok l _ hl)
 exact⟨o,I.write (h':=s.heap) (t':=s.toks) (e:=l) (by rw [hl];exact True.intro) (.inl rfl) (fun _ _ _ e=>e) ⟨o,ho⟩ ⟨ho,hz,hs,vs,hp,o,es,ep,ho,hx,r⟩⟩
theorem Inv.thawK{X:Cx}{pins:List #[18]}{s:Shared}{σ : St}{H:Hp}(I:#[11]){l:Addr}{o:Obj}{kvs:List (Key×V)}(hl:H l=some (.frz o (.dK kvs)))(h0:∀ o u,X.H₀ l≠some (.frz o u)):Inv X pins σ (upd H l (.dK kvs)) s:=by
 obtain⟨ho,hz,hs,vs,hp,o',es,ep,ho',hx,r⟩:=(show zJ X.prog X.w H s.heap l (.frz o (.dK kvs)) from I.hok l _ hl)
 have nn:∀ b,H b=none->b≠l:=fun b e z=>by rw [z,hl] at e;cases e
 refine⟨I.ok,I.os,I.bare,⟨I.base.keep,I.base.slot,fun b ob q n hx=>?_,I.base.there,fun b xs q=>?_,fun b ob u q=>?_,fun b ps q=>?_⟩,I.loc,I.cell,?_,fun x c e=>?_,fun p h=>?_,fun b u q=>?_,I.len⟩
 . have e:=I.base.free b ob q n hx;rw [zd (nn b e)];exact e
 . have e:=I.base.tups b xs q;rw [zd #[96,hl,e]];exact e
 . have e:=I.base.frzs b ob u q;rw [zd (fun z=>by rw [z] at q;exact h0 _ _ q)];exact e
 . obtain⟨m,e⟩:=I.base.tbls b ps q;exact⟨m,by rw [zd #[96,hl,e]];exact e⟩
 . rw [zd (nn _ I.free)];exact I.free
 . rw [zd (nn _ (I.freeC x c e))];exact I.freeC x c e
 . obtain⟨a1,a2,a3⟩:=I.pin p h
   exact⟨a1,by rw [zd (nn _ a2)];exact a2,a3⟩
 . by_cases hb:b=l
   . subst hb
     rw [zf] at q;cases q;exact⟨hz,hs,vs,hp,o',es,ep,ho',hx,r⟩
   . rw [zd hb] at q
     exact(I.hok b u q).stay (fun c v _ r=>r) (fun c r=>by rw [zd #[96,hl,r]];exact r) fun c xs r=>by rw [zd #[96,hl,r]];exact r
def zae(X:Cx)(N:List Str)(qual:Str)(scope:Scope)(f:Addr)(cd:Value)(cl:List (Str×Addr))(A:Around)(s:Shared)(H:Hp):Cx where
 prog:=X.prog
 w:=X.w
 K:=X.K
 mg:=X.mg
 base:=X.base
 A:=A.deeper (PySem.W.envX qual scope s.heap.objs.size f cd cl)
 N:=N
 s₀:=s
 H₀:=H
 env:=PySem.W.envX qual scope s.heap.objs.size f cd cl
 outer:=X.stack
 stack:=PySem.W.envX qual scope s.heap.objs.size f cd cl::X.stack
 ex:=[]
 calm:=true
 fn:=fun _=>false
 pn:=[]
 xe:=fun _ _=>False
structure LamSc(sc:Scope)(x y:Str):Prop where
 kind:sc.kind=.function
 co:sc.isCoroutine=false
 gen:sc.isGenerator=false
 nocell:∀ z∈sc.names,z.2≠.cell
 par:sc.names.lookup x=some .local
 cap:sc.names.lookup y=some .free
 only:∀ z,sc.names.lookup z=some .free->z=y
theorem LamSc.of{sc:Scope}{x y:Str}(only:(sc.names.all fun p=>(p.2 != .free||p.1==y)&&p.2 != .cell)=true)(kind:sc.kind=.function)(co:sc.isCoroutine=false)(gen:sc.isGenerator=false)(par:sc.names.lookup x=some .local)(cap:sc.names.lookup y=some .free)(_:True):LamSc sc x y where
 kind:=kind
 co:=co
 gen:=gen
 nocell:=fun z hz e=>by
  have:=WaK.mp only z hz;rw [e] at this
  simp at this
 par:=par
 cap:=cap
 only:=fun z hz=>by
  have:=WaK.mp only _ (Wap hz)
  simp at this
  exact this
theorem ze9{α β : Type}[BEq α][LawfulBEq α]{l:List (α×β)}{a:α}{b:β}(h:l.lookup a=some b):(a,b)∈l:=by
 induction l with
 | nil=>cases h
 | cons p r ih=>
  obtain⟨c,d⟩:=p;rw [List.lookup_cons] at h;cases e:a==c with
  | true=>rw [e] at h;cases h;rw [eq_of_beq e];exact .head _
  | false=>rw [e] at h;exact .tail _ (ih h)
section
variable{X:Cx}{pins:List #[18]}{σ : St}{H:Hp}{s:Shared}{x y qual:Str}{sc:Scope}{f c:Addr}{cd:Value}{A:Around}{u tu:Value}{v tv:V}
theorem zgp(S:LamSc sc x y)(hxy:x≠y)(I:#[11])(hA:A.frames=some X.stack)(hh:A.handled=none)(ru:RelV v u)(rt:RelV tv tu)(hc:s.heap.IsCell c (some tu))(hcf:H c=none){h₁ : Heap}{tk:Nat}
 (hns:h₁.Ns s.heap.objs.size fun z=>[(x,u)].reverse.lookup z) (hk:∀ b o,s.heap.get? b=some o->h₁.get? b=some o) :
 Inv (zae X [x,y] qual sc f cd [(y,c)] A s H) [] [some v,some tv] H { s with heap:=h₁,toks:=tk }:=by
 have hcs:c<s.heap.objs.size:=by obtain⟨o,e,_⟩:=hc;exact YaX e
 have hc1:h₁.IsCell c (some tu):=by obtain⟨o,e,d⟩:=hc;exact⟨o,hk _ _ e,d⟩
 have lk:∀ z c',([(y,c)]:List (Str×Addr)).lookup z=some c'->z=y/\c'=c:=fun z c' e=>by
  have:=ze9 e
  simp at this
  exact this
 have noA:∀ b:Addr,b∉(zae X [x,y] qual sc f cd [(y,c)] A s H).ex:=fun b z=>absurd (show b∈([]:List Addr) from z) (by simp)
 refine⟨⟨I.ok.mod,S.kind,rfl,rfl,YaY _,fun a b d h1 h2=>?_,fun a ha=>?_,fun a d hf _=>absurd (show false=true from hf) (by simp),fun _=>hh,Around.frames_deeper hA,.inr ⟨rfl,rfl⟩,fun b z=>absurd z (noA b),I.bs,Ya5 I.ok.bsz I.sz,fun b _ _=>noA b,fun b z=>absurd z (noA b),I.stack,I.stkFree⟩,
  rfl,I.bare,Un.kept hk,⟨_,hns,fun i z w h1 h2 h3=>?_⟩,fun a d h=>?_,I.hok.fresh (YaY _),fun a d h=>?_,fun p hp=>absurd (show p∈([]:List #[18]) from hp) (by simp),I.hok.kept hk,rfl⟩
 . rw [(lk _ _ h1).1,(lk _ _ h2).1]
 . have ha:sc.names.lookup a=some .cell\/sc.names.lookup a=some .free:=ha
   rcases ha with ha|ha
   . exact absurd rfl (S.nocell _ (ze9 ha))
   . rw [S.only a ha];exact⟨c,by show List.lookup y [(y,c)]=_;simp⟩
 . have h1:([x,y]:List Str)[i]?=some z:=h1
   match i,h1,h2 with
   | 0,h1,h2=>
    cases h1;cases h2
    exact⟨u,ru,.inl ⟨S.par,by simp⟩⟩
   | 1,h1,h2=>
    cases h1;cases h2
    exact⟨tu,rt,.inr ⟨.inr S.cap,c,by show List.lookup y [(y,c)]=_;simp,hc1⟩⟩
   | i+2,h1,h2=>simp at h1
 . have:=(lk _ _ h).2;rw [this];exact⟨_,hc1⟩
 . have:=(lk _ _ h).2;rw [this];exact hcf
theorem ziD(S:LamSc sc x y)(hxy:x≠y)(I:#[11])(hA:A.frames=some X.stack)(hh:A.handled=none)(hroom:A.depth<recursionLimit)(ru:RelV v u)(rt:RelV tv tu)(hc:s.heap.IsCell c (some tu))(hcf:H c=none)
 {params:Arguments} {body:Expr} {name:Str} {pm ctv:Value} {cd':Addr} {t:TE} {Q:VK}
 (hf:s.heap.get? f=some (PySem.W.kla_obj name qual params body sc [(y,c)] pm cd' ctv)) (hcd:s.heap.CodeRec (.ref cd') qual)
 (hbind:bindArgs (PySem.W.kla_fn name qual params body sc [(y,c)] pm (.ref cd') ctv) ⟨[u],[]⟩=pure [(x,u)])
 (hb:PE (zae X [x,y] qual sc f (.ref cd') [(y,c)] A s H) body t) (ht:t [some v,some tv] H Q) :
 wpAny #[12] A (call (.ref f) [u]) (fun r s'=>∃ v' H',Inv X pins σ H' s'/\Un (frs X.stack) [] H H' s.heap s'.heap/\RelV v' r/\Q v' H') (fun _ _=>False) s:=by
 refine wpAny_call (PySem.W.kla_callFunE hroom hf rfl S.co S.gen rfl hcd ?_)
 rw [hbind];refine wpAny_pure (wpAny_newFunctionEnv S.nocell (fun z hz=>?_) (fun h₁ hns hsb=>⟨I.nolimit.fresh _ hsb,?_⟩) S.kind)
 . obtain rfl:z=(x,u):=Ya6.mp hz
   exact S.par
 show codeAny _ _ (.expr body (PySem.W.envX qual sc s.heap.objs.size f (.ref cd') [(y,c)])) _ _
 have hk₁ : ∀ b o,s.heap.get? b=some o->h₁.get? b=some o:=fun b o e=>hsb.extBut b o (Yaf (YaX e)) (YaW _ e)
 have I1:=zgp (cd:=.ref cd') (f:=f) (qual:=qual) (tk:=s.toks+[(x,u)].length) S hxy I hA hh ru rt hc hcf hns hk₁;refine PySem.W.kla_codeExpr (wpAny_mono (hb [] _ _ H Q I1 ht) (fun r s' hr=>?_) fun _ _ z=>z.elim)
 obtain⟨v',H',I2,r',q⟩:=hr;exact⟨v',H',I.call' I2.os I2.base I2.hok I2.bare (fun b z=>absurd (show b∈([]:List Addr) from z) (by simp)),I2.base,r',q⟩
end
variable[LamW]
def TabS(b:Bool)(P:Addr)(H:Hp):Prop:=match b with
 | true=>H P=some (tab0 P)
 | false=>Lk P H
def MvS(b:Bool)(P:Addr)(H H1:Hp):Prop:=match b with
 | true=>(∃ c',H c'=none/\H1=upd (upd H P (tabA P c' LamW.pos)) c' (jV c' LamW.q))/\(∀ C,tab0 P≠excO P C)/\∀ q,tab0 P≠jV P q
 | false=>H1=H
theorem TabS.at{b:Bool}{P:Addr}{H:Hp}(h:TabS b P H):∃ o,H P=some o:=by
 cases b with
 | true=>exact⟨_,h⟩
 | false=>
  obtain⟨_,h,_⟩:=h;exact⟨_,h⟩
theorem MvS.x{b:Bool}{P:Addr}{H H1:Hp}(l:TabS b P H)(m:MvS b P H H1):zh H H1:=by
 cases b with
 | true=>
  obtain⟨⟨c',hc,rfl⟩,n⟩:=m;have l:H P=some (tab0 P):=l;have ne:P≠c':=#[96,hc,l]
  intro a o e;have na:a≠c':=#[96,hc,e]
  by_cases h:a=P
  . subst h
    rw [l] at e;cases e;exact .inr ⟨rfl,n,c',by rw [zd ne,zf],zf⟩
  . exact .inl (by rw [zd na,zd h];exact e)
 | false=>
  cases(show H1=H from m)
  exact zh.refl _
theorem zkk{P:Addr}{h:Heap}(hp:h.get? P=some (PySem.W.tabObj #[])):(∀ C,tab0 P≠excO P C)/\∀ q,tab0 P≠jV P q:=by
 refine⟨fun C z=>?_,fun q z=>?_⟩
 . have e:(fun h:Heap=>h.get? P=some (PySem.W.tabObj #[]))=fun h=>∃ o vs,h.get? P=some o/\o.cls=.ref C/\o.data=.fields vs:=HO.ext.inj z
   have y:=(congrFun e h).mp hp;obtain⟨o,vs,h1,h2,_⟩:=y;rw [hp] at h1;cases h1;cases h2
 . have e:(fun h:Heap=>h.get? P=some (PySem.W.tabObj #[]))=fun h=>h.CodeRec (.ref P) q:=HO.ext.inj z
   have y:=(congrFun e h).mp hp;obtain⟨c2,oc,vs,t,e2,ho,hd,hv⟩:=y;cases e2;rw [hp] at ho;cases ho;cases hd;simp at hv
theorem zht{P:Program}{w:World}{H:Hp}{h:Heap}{c':Addr}{q:Str}(r:h.CodeRec (.ref c') q):zJ P w H h c' (jV c' q):=by
 obtain⟨c2,oc,vs,t,e,ho,hd,hv⟩:=id r;cases e;exact⟨r,⟨oc,ho⟩,fun h1 h2 ⟨c2,oc,vs,t,e,ho,hd,hv⟩ k=>by cases e;exact⟨_,oc,vs,t,rfl,k _ ho,hd,hv⟩⟩
section
variable{X:Cx}{pins:List #[18]}{σ : St}{H:Hp}{s:Shared}{sc:Scope}{A:Around}{b:Bool}
theorem zgg(I:#[11]){P:Addr}{c0:Addr}{params:Arguments}{body:Expr}{pos:Pos}{clos:List (Str×Addr)}(hpos:pos=LamW.pos)(hqn:X.env.qual ++ "<lambda>" = LamW.q){Q:#[14]}{E:#[14]}
 (hP:TabS b P H) (hC:PySem.W.CodeHd X.base c0 P) (hcode:X.env.code=.ref c0) (hB:∃ bm o,X.mg "__builtins__" = some (.ref bm)/\bm≠builtinsNs/\bm≠mainGlobals/\X.base.get? bm=some o/\o.cls=.type "module"/\o.dict=some builtinsNs/\o.data=.plain)
 (hdef:defaultsOf params X.env=([],[])) (hcl:closureFor sc X.env=pure clos)
 (h:∀ f c' ctv s' H1,MvS b P H H1->H1 c'=some (jV c' (X.env.qual ++ "<lambda>"))->s.heap.objs.size<=f->
  Inv X (pins++[(f,PySem.W.kla_obj "<lambda>" (X.env.qual ++ "<lambda>") params body sc clos ((X.mg "__name__").getD .none) c' ctv)]) σ H1 s'->Q (.ref f) s') :
 wpAny #[12] A (eval (.Lambda params body sc pos) X.env) Q E s:=by
 have hPn:∃ o,H P=some o:=hP.at;have ne0:∀ b o,X.base.get? b=some o->b≠P:=fun b o e z=>by
  have:=(I.bs b o e).2;obtain⟨u,hu⟩:=hPn;rw [z,hu] at this;cases this
 have hg:=I.ok.mod.glob.keeps I.bk;have hgP:mainGlobals≠P:=by
  obtain⟨o,es,ep,e,_⟩:=I.ok.mod.glob;exact ne0 _ _ e
 obtain⟨bm,ob,b1,b2,b3,b4,b5⟩:=hB;cases b with
 | true=>
  have hP:H P=some (tab0 P):=hP;obtain⟨hp0,_,_⟩:=I.hok P _ hP;have hp0:s.heap.get? P=some (PySem.W.tabObj #[]):=hp0;refine PySem.W.kla_eval hdef (PySem.W.kla_makeFunction (mg:=X.mg) hcl I.ok.glob hg hcode (hC.keeps I.bk) hp0 trivial rfl hgP ⟨bm,ob,b1,b2,b3,ne0 _ _ b4,I.bk _ _ b4,b5⟩ fun c' ctv h' tk hx hge hlt hrec htb=>?_)
  have hk:∀ (o:Obj) b u,b≠P->s.heap.get? b=some u->(h'.push o).get? b=some u:=fun o b u hb e=>YaW _ (hx b u hb e)
  have hPlt:P<s.heap.objs.size:=YaX hp0;have hsz:s.heap.objs.size<=h'.objs.size:=Wa2 (Waq hge hlt);have htb2:∀ o:Obj,(h'.push o).get? P=some (PySem.W.tabObj #[rawInt pos.line,rawInt pos.col,.ref c']):=fun o=>YaW _ (by simpa using htb)
  have I1:Inv X pins σ (upd H P (tabA P c' pos)) { s with heap:=h'.push (PySem.W.kla_obj "<lambda>" (X.env.qual ++ "<lambda>") params body sc clos ((X.mg "__name__").getD .none) c' ctv),toks:=tk }:=
   I.write (by rw [hP];trivial) (.inl rfl) (fun b u hb e=>hk _ b u hb e) ⟨_,htb2 _⟩ ⟨⟨_,htb2 _,by simpa using TriplesOk_snoc pos.line pos.col (.ref c') [] trivial,by simpa using codeAmong_snoc (pos:=pos) (c:=.ref c') [] trivial rfl⟩,⟨_,htb2 _⟩,fun h1 h2 ⟨ps,e,r⟩ k=>⟨ps,k _ e,r⟩⟩
  have hcn:H c'=none:=I.hok.fresh hge;have hcn1:upd H P (tabA P c' pos) c'=none:=by rw [zd (Wa3 (YaU hPlt hge))];exact hcn
  have I2:=I1.track (o:=jV c' (X.env.qual ++ "<lambda>")) hcn1 (Ya5 I.sz hge) (Wa3 (YaU I.lt hge)) (fun z c e q=>by
   obtain⟨v,o,ho,_⟩:=I.cell z c e;exact absurd (YaU (YaX ho) hge) (by rw [q];exact Yap _))
   (fun p hp q=>absurd (YaU (YaX (I.pin p hp).1) hge) (by rw [q];exact Yap _)) (zht (by
    obtain⟨c2,oc,vs,t,e,ho,hd,hv⟩:=hrec;cases e;exact⟨_,oc,vs,t,rfl,YaW _ ho,hd,hv⟩))
  have hfn:upd (upd H P (tabA P c' pos)) c' (jV c' (X.env.qual ++ "<lambda>")) h'.objs.size=none:=by
   rw [zd (Wa3 hlt),zd (Wa3 (YaU hPlt hsz))];exact I.hok.fresh hsz
  refine h h'.objs.size c' ctv _ _ ⟨⟨c',hcn,by rw [hqn,hpos]⟩,zkk hp0⟩ zf hsz (I2.pins_of fun p hp=>?_)
  rcases Ya3.mp hp with hp|hp
  . exact I2.pin p (Yaa _ hp)
  . obtain rfl:=Ya6.mp hp
    exact⟨Yan _ rfl,hfn,Wa3 (YaU I.lt hsz),I.nofs hsz,fun v z=>by cases z⟩
 | false=>
  obtain⟨c',hP,hc'⟩:=hP;rw [<-hpos] at hP;rw [<-hqn] at hc';obtain⟨⟨ps,hp0,ht,hf⟩,_,_⟩:=I.hok P _ hP;refine PySem.W.kla_eval hdef (PySem.W.kla_makeFunctionHit (mg:=X.mg) hcl I.ok.glob hg hcode (hC.keeps I.bk) hp0 ht hf ⟨bm,ob,b1,b2,b3,ne0 _ _ b4,I.bk _ _ b4,b5⟩ fun ctv h' tk hk hsz=>?_)
  have I1:Inv X pins σ H { s with heap:=h'.push (PySem.W.kla_obj "<lambda>" (X.env.qual ++ "<lambda>") params body sc clos ((X.mg "__name__").getD .none) c' ctv),toks:=tk }:=I.kept (t':=tk) fun b o e=>YaW _ (hk b o e)
  refine h h'.objs.size c' ctv _ H rfl hc' hsz (I1.pins_of fun p hp=>?_)
  rcases Ya3.mp hp with hp|hp
  . exact I1.pin p (Yaa _ hp)
  . obtain rfl:=Ya6.mp hp
    exact⟨Yan _ rfl,I.hok.fresh hsz,Wa3 (YaU I.lt hsz),I.nofs hsz,fun v z=>by cases z⟩
end
end L2
namespace L3
open PySem PySem.Spec PyProof.Rows L2
variable[LamW]
def BMod(mg:#[15])(base:Heap):Prop:=∃ bm o,mg "__builtins__" = some (.ref bm)/\bm≠builtinsNs/\bm≠mainGlobals/\base.get? bm=some o/\o.cls=.type "module"/\o.dict=some builtinsNs/\o.data=.plain
structure LamIn(X:Cx)(P c0 cy:Addr)(x y:Str)(it:Nat)(params:Arguments)(body:Expr)(sc:Scope):Prop where
 S:LamSc sc x y
 ne:x≠y
 ix:X.N[it]?=some y
 kd:X.env.kindOf y=some .cell
 lk:X.env.cells.lookup y=some cy
 hd:PySem.W.CodeHd X.base c0 P
 code:X.env.code=.ref c0
 bm:BMod X.mg X.base
 defs:defaultsOf params X.env=([],[])
 clos:closureFor sc X.env=pure [(y,cy)]
 bind:∀ pm cd ctv u,bindArgs (PySem.W.kla_fn "<lambda>" (X.env.qual ++ "<lambda>") params body sc [(y,cy)] pm cd ctv) ⟨[u],[]⟩=pure [(x,u)]
def spU(P:Addr)(K:Ybf)(sp:Sp3):Sp:=fun vs H Q E=>TabU P H/\spL K sp vs H Q E
structure DfU(tb:Addr)(P:Program)(w:World)(K:Ybf)(mg:#[15])(base:Heap)(k:Nat)(x:Str)(ps:List Str)(sp:Sp3):Prop where
 mono:∀ ds (Q Q':Bool->D->Prop) (E E':Addr->Prop),(∀ f d,Q f d->Q' f d)->(∀ d,E d->E' d)->sp ds Q E->sp ds Q' E'
 ok:Df P w K mg base k x ps (spU tb K sp)
theorem fnU{P:Program}{w:World}{K:Ybf}{mg:#[15]}{base:Heap}{x qual:Str}{st:Stmt}{f tb:Addr}{fd:FuncData}{N ps:List Str}{k:Nat}{sp:Sp3}{cv:Value->Prop}(F:Fun K x qual st f fd)(hcv:cv fd.code)(S:FnScope N ps (zg st))(len:∀ ds Q E,sp ds Q E->ds.length=ps.length)
 (hbody:∀ (cdv:Value) (A:Around) (outer:List Env) (s:Shared) (H:Hp) (E:XK) (E3:Addr->Prop),cv cdv->TabU tb H->(∀ C H',E3 C->zh H H'->E (.ref C) none H')->Room k (A.deeper (envOfC qual (zg st) s.heap.objs.size f cdv))->
  ∃ t,PSs3 (cxOf (CXR P w) P w K mg base N qual (zg st) f cdv A outer s H E) H (jM st) t/\∀ ds Q,sp ds Q E3->t { nx:=fun _=>Q true .none,rt:=Q } (jK N ds)):FnOk P w K mg base (CXR P w) (k+1) f fd ps (spU tb K sp):=by
 obtain⟨oc,od,kV,doc,pm,an,cdv,ct,osl,rfl,lk,hcd⟩:=F.ex;have hcv:cv cdv:=hcv;refine zbg lk hcd S (fun vs H Q E h=>?_) (fun A outer s H vs Q E hr h=>?_)
 . obtain⟨_,G,ds,_,r,h⟩:=h
   rw [r.length];exact len _ _ _ h
 . obtain⟨tu,G,ds,sG,r,h⟩:=h
   obtain⟨t,ht,hq⟩:=hbody cdv A outer s H E (fun C=>∀ H',zh H H'->E (.ref C) none H') hcv tu (fun C H' e z=>e H' z) hr
   exact⟨_,ht,G,_,jK N ds,G,zev sG r,hq ds _ h,⟨fun ρ σ G' H' F' q=>q .non G' H' F'.gr0 (.sc rfl .non),fun f d v G' H' g rd q=>q v G' H' g rd,fun _ _ _ _ _ q=>q.elim,fun _ _ _ _ _ q=>q.elim,fun _ _ _ _ _ _ _ _ _ q=>q.elim⟩⟩
end L3
namespace L2
open PySem PySem.Spec PyProof.Rows
section
variable{prog:Program}{w:World}{A:Around}{E:#[14]}{l q I S:Addr}{N:Nat}{Rv:Nat->Value->Prop}{R:Result->Shared->Prop}{Q:#[14]}
def Best(kf:Nat->Int)(n i:Nat):Prop:=∀ j,j<n->kf i<=kf j/\(j<i->kf i<kf j)
structure MinJ(prog:Program)(w:World)(A:Around)(l q:Addr)(N:Nat)(Rv:Nat->Value->Prop)(kf:Nat->Int)(I S:Addr)(J:Shared->Prop):Prop where
 list:∀ s,J s->∃ vs:List Value,vs.length=N/\s.heap.IsList l vs.toArray/\∀ i v,vs[i]?=some v->Rv i v
 own:∀ b s h' tk',J s->b=I\/b=S->(∀ c o,c≠b->s.heap.get? c=some o->h'.get? c=some o)->J { s with heap:=h',toks:=tk' }
 turn:∀ i v s,i<N->Rv i v->J s->(∃ o,s.heap.get? I=some o)->(∃ o,s.heap.get? S=some o)->
  wpAny (model prog w) A (call (.ref q) [v]) (fun x s'=>(∃ t,x=.int (kf i) t)/\J s'/\s'.heap.get? I=s.heap.get? I/\s'.heap.get? S=s.heap.get? S) (fun _ _=>False) s
theorem zkG{kf:Nat->Int}{J:Shared->Prop}(hh:A.handled=none)(hlI:l≠I)(hSI:S≠I)(M:MinJ prog w A.in1 l q N Rv kf I S J)(hR:∀ i v s,i<N->Rv i v->Best kf N i->J s->R (.ok (.ret v)) s) :
 ∀ (r j i:Nat) (s:Shared) (vb:Value) (tb:Tok) (c:Nat),N - (j+1)=r->j+1<=N->J s->s.heap.get? S=some (seqObj "list" #[vb,.int (kf i) tb] c)->s.heap.IsListIter I l (j+1)->Rv i vb->i<=j->Best kf (j+1) i->
  codeAny (model prog w) A (.builtin "min.loop" ⟨[.ref I,.ref q,.ref S],[]⟩) R s:=by
 have hname:(toString "min" ++ toString ".loop" : String) = "min.loop":=#[1]
 intro r
 induction r with
 | zero=>
  intro j i s vb tb c hr hj hJ hS hit hvb hij hbest;have hin:j+1=N:=#[0]
  obtain⟨vs,hvl,hl,hvr⟩:=M.list _ hJ;have W:=Walks.list (prog:=prog) (w:=w) (A:=A.in1) hh I l hlI vs.toArray;have hsz:vs.toArray.size=vs.length:=YaZ ..;refine codeAny_builtin Wal ?_;rw [Around.under_plainId Wam _];show wpAny _ A.in1 (seqItems? (.ref S) >>= _) _ _ _;refine wpAny_bind (wpAny_seqItems hS rfl ?_);show wpAny _ A.in1 (tryCatch (pyNext (.ref I)) _ >>= _) _ _ _
  refine wpAny_bind (wpAny_tryCatch (W.done _ _ _ ⟨by rw [hsz,hvl,<-hin];exact hit,hl⟩ fun h' tk' hk'=>?_))
  have J1:=M.own I s h' tk' hJ (.inl rfl) fun b o n e=>hk' b o (by simpa using n) e
  have s1:=Heap.SameBut.update h' S (Obj.mapSeq fun _=>(#[]:Array Value))
  show wpAny _ A.in1 (updateSeq S (fun _=>#[]) >>= _) _ _ _
  refine wpAny_bind ?_
  refine wpAny_updateSeq (hk' S _ (by simpa using hSI) hS) rfl (wpAny_bind (wpAny_letGo (wpAny_pure ?_)))
  exact hR i vb _ #[0] hvb (hin ▸ hbest) (M.own S _ _ _ J1 (.inr rfl) fun b o n e=>(s1.2 b n).trans e)
 | succ r ih=>
  intro j i s vb tb c hr hj hJ hS hit hvb hij hbest;have hlt:j+1<N:=#[0]
  obtain⟨vs,hvl,hl,hvr⟩:=M.list _ hJ;have W:=Walks.list (prog:=prog) (w:=w) (A:=A.in1) hh I l hlI vs.toArray;have hsz:vs.toArray.size=vs.length:=YaZ ..;refine codeAny_builtin Wal ?_;rw [Around.under_plainId Wam _];show wpAny _ A.in1 (seqItems? (.ref S) >>= _) _ _ _;refine wpAny_bind (wpAny_seqItems hS rfl ?_);show wpAny _ A.in1 (tryCatch (pyNext (.ref I)) _ >>= _) _ _ _
  refine wpAny_bind (wpAny_tryCatch (W.item (j+1) _ _ _ (by rw [hsz,hvl];exact hlt) ⟨hit,hl⟩ fun v h' tk' hP hst' hk'=>?_))
  have hv:Rv (j+1) v:=hvr _ _ (by simpa using hP)
  obtain⟨oI',hoI',hoc,hod⟩:=id hst'.1;have J1:=M.own I s h' tk' hJ (.inl rfl) fun b o n e=>hk' b o (by simpa using n) e
  have hS1:=hk' S _ (by simpa using hSI) hS
  show wpAny _ A.in1 (tryCatch (holding [v] (call (.ref q) [v])) _ >>= _) _ _ _
  refine wpAny_bind (wpAny_tryCatch (wpAny_holding (wpAny_mono (M.turn (j+1) v _ hlt hv J1 ⟨_,hoI'⟩ ⟨_,hS1⟩) (fun x s2 he=>?_) fun _ _ hF=>hF.elim)))
  obtain⟨⟨t2,rfl⟩,J2,eI,eS⟩:=he;have hI2:=eI.trans hoI';have hS2:=eS.trans hS1;show wpAny _ A.in1 (tryCatch (holding [v,.int (kf (j+1)) t2] (richCompare .Lt (.int (kf (j+1)) t2) (.int (kf i) tb) >>= _)) _ >>= _) _ _ _;refine wpAny_bind (wpAny_tryCatch (wpAny_holding (wpAny_bind (CmpOf.ints_lt (prog:=prog) (w:=w) (A:=A.in1) (P:=fun i v=>∃ t,v=.int (kf i) t) kf (fun i v h=>h) (j+1) i _ _ _ _ _ ⟨t2,rfl⟩ ⟨tb,rfl⟩ ?_))))
  refine wpAny_bind (wpAny_holding (wpAny_truthy_bool ?_))
  refine wpAny_bind (wpAny_letGo (wpAny_pure ?_))
  by_cases hb':kf (j+1)<kf i
  . have s1:=Heap.SameBut.update s2.heap S (Obj.mapSeq fun _=>#[v,.int (kf (j+1)) t2])
    obtain⟨c2,hc2⟩:∃ c2,(s2.heap.update S (Obj.mapSeq fun _=>#[v,.int (kf (j+1)) t2])).get? S=some (seqObj "list" #[v,.int (kf (j+1)) t2] c2):=⟨_,get?_update_seq hS2 fun _=>#[v,.int (kf (j+1)) t2]⟩
    simp only [hb',decide_true,if_true];refine wpAny_bind ?_;refine wpAny_updateSeq hS2 rfl (wpAny_bind (wpAny_letGo ?_));rw [hname];refine wpAny_pure ⟨plainId_quiet Wam _,ih (j+1) (j+1) _ v t2 c2 #[0] hlt (M.own S _ _ _ J2 (.inr rfl) fun b o n e=>(s1.2 b n).trans e) hc2 ⟨oI',(s1.2 I hSI.symm).trans hI2,hoc,hod⟩ hv (YaY _) fun j' hj'=>?_⟩
    by_cases e:j'=j+1
    . subst e
      exact⟨#[0],fun _=>by omega⟩
    . have hb1:=(hbest j' #[0]).1
      exact⟨#[0],fun _=>by omega⟩
  . simp only [hb',decide_false,War,if_false]
    refine wpAny_bind (wpAny_letGo ?_)
    rw [hname];refine wpAny_pure ⟨plainId_quiet Wam _,ih (j+1) i _ vb tb c #[0] hlt J2 hS2 ⟨oI',hI2,hoc,hod⟩ hvb #[0] fun j' hj'=>?_⟩
    by_cases e:j'=j+1
    . subst e
      exact⟨#[0],fun _=>by omega⟩
    . exact hbest j' #[0]
theorem zgH{s:Shared}{kf:Nat->Int}{J:Addr->Addr->Shared->Prop}(hh:A.handled=none){vs0:List Value}(hl:s.heap.IsList l vs0.toArray)(hne:0<N)
 (M:∀ I S,s.heap.objs.size<=I->I<S->MinJ prog w A.in1 l q N Rv kf I S (J I S))
 (h0:∀ I S h',(∀ b o,s.heap.get? b=some o->h'.get? b=some o)->s.heap.objs.size<=I->I<S->J I S { s with heap:=h' })
 (hQ:∀ I S i v s',i<N->Rv i v->Best kf N i->J I S s'->Q v s') :
 wpAny (model prog w) A (call (.builtin "min") [.ref l] [(Str.ofString "key", .ref q)]) Q E s:=by
 have hname:(toString "min" ++ toString ".loop" : String) = "min.loop":=#[1]
 obtain⟨ol,hol,_⟩:=id hl;have hlI:l≠s.heap.objs.size:=Yaf (YaX hol);refine kmk_tree PySem.F.kind_min PySem.F.plain_min PySem.F.entry_min (kmk_min_key _ _) ?_;show wpAny _ A.in1 (Builtin.Builtins.bindParams "min" ["key", "default"] 0 ⟨[],[(Str.ofString "key", .ref q)]⟩ >>= _) _ _ s;refine wpAny_bind (wpAny_of_eq (show Builtin.Builtins.bindParams "min" ["key", "default"] 0 ⟨[],[(Str.ofString "key", .ref q)]⟩=pure [some (.ref q),none] from rfl) ?_)
 refine wpAny_bind (wpAny_pure ?_)
 refine wpAny_bind (wpAny_pyIter_list hl ?_)
 refine wpAny_bind (wpAny_newList ?_ (Wa9 _))
 rw [hname];have hS:(s.heap.push { cls:=.type "list_iterator", data:=.fields #[.ref l,.int 0 0] }).objs.size=s.heap.objs.size+1:=size_push' ..;have hSI:(s.heap.push { cls:=.type "list_iterator", data:=.fields #[.ref l,.int 0 0] }).objs.size≠s.heap.objs.size:=by rw [hS];exact Wa3 (WaH _)
 refine wpAny_pure ⟨plainId_quiet Wam _,?_⟩
 have M:=M s.heap.objs.size (s.heap.push { cls:=.type "list_iterator", data:=.fields #[.ref l,.int 0 0] }).objs.size (YaY _) (by rw [hS];exact WaH _)
 have J0:=h0 s.heap.objs.size (s.heap.push { cls:=.type "list_iterator", data:=.fields #[.ref l,.int 0 0] }).objs.size ((s.heap.push { cls:=.type "list_iterator", data:=.fields #[.ref l,.int 0 0] }).push (seqObj "list" #[] 0)) (fun b x e=>YaW _ (YaW _ e)) (YaY _) (by rw [hS];exact WaH _)
 have gI:((s.heap.push { cls:=.type "list_iterator", data:=.fields #[.ref l,.int 0 0] }).push (seqObj "list" #[] 0)).get? s.heap.objs.size=some { cls:=.type "list_iterator", data:=.fields #[.ref l,.int 0 0] }:=
  YaW _ (Yan _ rfl)
 have gS:((s.heap.push { cls:=.type "list_iterator", data:=.fields #[.ref l,.int 0 0] }).push (seqObj "list" #[] 0)).get? (s.heap.push { cls:=.type "list_iterator", data:=.fields #[.ref l,.int 0 0] }).objs.size=some (seqObj "list" #[] 0):=Yan _ rfl;generalize (s.heap.push { cls:=.type "list_iterator", data:=.fields #[.ref l,.int 0 0] }).objs.size=S at *;generalize (s.heap.push { cls:=.type "list_iterator", data:=.fields #[.ref l,.int 0 0] }).push (seqObj "list" #[] 0)=hp at *
 generalize hI:s.heap.objs.size=I at *;obtain⟨vs,hvl,hl,hvr⟩:=M.list _ J0;have W:=Walks.list (prog:=prog) (w:=w) (A:=A.in1) hh I l hlI vs.toArray;have hsz:vs.toArray.size=vs.length:=YaZ ..;refine codeAny_builtin Wal ?_;rw [Around.under_plainId Wam _];show wpAny _ A.in1 (seqItems? (.ref S) >>= _) _ _ _;refine wpAny_bind (wpAny_seqItems gS rfl ?_)
 show wpAny _ A.in1 (tryCatch (pyNext (.ref I)) _ >>= _) _ _ _
 refine wpAny_bind (wpAny_tryCatch (W.item 0 _ _ _ (by rw [hsz,hvl];exact hne) ⟨⟨_,gI,rfl,rfl⟩,hl⟩ fun v h' tk' hP hst' hk'=>?_))
 have hv:Rv 0 v:=hvr _ _ (by simpa using hP)
 obtain⟨oI',hoI',hoc,hod⟩:=id hst'.1;have J1:=M.own I _ h' tk' J0 (.inl rfl) fun b o n e=>hk' b o (by simpa using n) e
 have hS1:=hk' S _ (by simpa using hSI) gS
 show wpAny _ A.in1 (tryCatch (holding [v] (call (.ref q) [v])) _ >>= _) _ _ _
 refine wpAny_bind (wpAny_tryCatch (wpAny_holding (wpAny_mono (M.turn 0 v _ hne hv J1 ⟨_,hoI'⟩ ⟨_,hS1⟩) (fun x s2 he=>?_) fun _ _ hF=>hF.elim)))
 obtain⟨⟨t2,rfl⟩,J2,eI,eS⟩:=he;have hI2:=eI.trans hoI';have hS2:=eS.trans hS1;have s1:=Heap.SameBut.update s2.heap S (Obj.mapSeq fun _=>#[v,.int (kf 0) t2])
 obtain⟨c2,hc2⟩:∃ c2,(s2.heap.update S (Obj.mapSeq fun _=>#[v,.int (kf 0) t2])).get? S=some (seqObj "list" #[v,.int (kf 0) t2] c2):=⟨_,get?_update_seq hS2 fun _=>#[v,.int (kf 0) t2]⟩
 show wpAny _ A.in1 (updateSeq S (fun _=>#[v,.int (kf 0) t2]) >>= _) _ _ _
 refine wpAny_bind ?_
 refine wpAny_updateSeq hS2 rfl ?_
 rw [hname];refine wpAny_pure ⟨plainId_quiet Wam _,zkG hh hlI hSI M (fun i v s' a b c d=>hQ I S i v s' a b c d) _ 0 0 _ v t2 c2 rfl hne (M.own S _ _ _ J2 (.inr rfl) fun b o n e=>(s1.2 b n).trans e) hc2 ⟨oI',(s1.2 _ hSI.symm).trans hI2,hoc,hod⟩ hv (YaY _) fun j' hj'=>?_⟩
 have e:j'=0:=#[0]
 subst e;exact⟨#[0],fun h=>absurd h (Yap _)⟩
end
end L2
namespace L3
open PySem PySem.Spec PyProof.Rows L2
variable[LamW]
def rMin(P:Addr)(it:Nat)(tb:TE)(σ : L2.St)(Q:VK):V->Hp->Prop:=fun v H1=>TabU P H1/\∃ (l:Addr) (ns:List Int) (tv:V) (g:Int->Int),v=.ref l/\H1 l=some (.lst (ns.map .int))/\0<ns.length/\σ[it]?=some (some tv)/\
 (∀ n∈ns,∀ H2,zh H1 H2->tb [some (.int n),some tv] H2 fun v' H'=>v'=.int (g n)/\zh H2 H')/\∀ n H2,n∈ns->(∀ m∈ns,g n<=g m)->zh H1 H2->Q (.int n) H2
def zhB(P:Addr)(it:Nat)(tl tb:TE):TE:=fun σ H Q=>tl σ H (rMin P it tb σ Q)
def one1(r:V->Hp->Prop):List V->Hp->Prop:=fun vs H=>match vs with
 | [v]=>r v H
 | _=>False
section
variable{X:Cx}{P c0 cy:Addr}{x y:Str}{it k:Nat}{sc:Scope}{params:Arguments}{elt body:Expr}{gens:List Comprehension}{csc:Scope}{cp:Pos}{tl tb:TE}{np kp lp cpos:Pos}
theorem zjq(hpos:lp=LamW.pos)(hqn:X.env.qual ++ "<lambda>" = LamW.q)(L:LamIn X P c0 cy x y it params body sc)(hr:Room (k+2) X.A)(hl:PE X (.ListComp elt gens csc cp) tl)
 (hb:∀ f cd' s H',Room k (zae X [x,y] (X.env.qual ++ "<lambda>") sc f cd' [(y,cy)] X.A.in1 s H').A->PE (zae X [x,y] (X.env.qual ++ "<lambda>") sc f cd' [(y,cy)] X.A.in1 s H') body tb)
 (hg:Gl X "min") (hm:X.mg "min" = none):PE X (.Call (.Name "min" np) [.ListComp elt gens csc cp] [⟨some "key", .Lambda params body sc lp,kp⟩] cpos) (zhB P it tl tb):=by
 intro pins s σ H Q I hyp;refine wpAny_Call_Name_kw (JA I hg hm (show bootBuiltins "min" = some (.builtin "min") by rfl) ?_)
 refine callWith_kw ?_
 refine thn ((zl hl zF) cpos pins s σ H (one1 (rMin P it tb σ Q)) I hyp) fun us s1 h1=>?_
 obtain⟨vs,H1,I1,rv,e1⟩:=h1
 match vs,rv,e1 with
 | [],_,e1=>exact e1.elim
 | _::_::_,_,e1=>exact e1.elim
 | [v],rv,e1=>
 have e1:rMin P it tb σ Q v H1:=e1;obtain⟨tu,l,ns,tv,g,rfl,hl1,hne,htσ,hkey,cont⟩:=e1;obtain rfl:us=[.ref l]:=by
  cases rv with
  | cons a b=>cases b;cases a;rfl
 obtain⟨b,hPH⟩:∃ b,TabS b P H1:=tu.elim (fun h=>⟨true,h⟩) fun h=>⟨false,h⟩
 show wpAny _ _ (evalAll [do let v <-eval (.Lambda params body sc lp) X.env;standAt cpos;pure v]) _ _ s1
 refine wpAny_evalAll_cons (wpAny_bind (zgg I1 hpos hqn hPH L.hd L.code L.bm L.defs L.clos fun fa c' ctv s2 HM mv hcH hf I2=>wpAny_bind (wpAny_standAt (wpAny_pure (wpAny_evalAll_nil ?_)))))
 show wpAny _ _ (call (.builtin "min") [.ref l] [(Str.ofString "key", .ref fa)]) _ _ s2
 have mx:zh H1 HM:=MvS.x hPH mv;have hlM:HM l=some (.lst (ns.map .int)):=mx.at hl1;obtain⟨its,rV,hpl,hz⟩:=I2.list (SqL.of hlM);have hl2:its.length=ns.length:=by rw [<-rV.length,YaR]
 have nw:∀ b:Addr,s2.heap.objs.size<=b->X.s₀.heap.objs.size<=b/\b≠X.env.locals/\(∀ z c,X.env.cells.lookup z=some c->c≠b)/\(∀ p∈X.pn++(pins++[(fa,PySem.W.kla_obj "<lambda>" (X.env.qual ++ "<lambda>") params body sc [(y,cy)] ((X.mg "__name__").getD .none) c' ctv)]),p.1≠b)/\b∉frs X.stack:=fun b hb=>by
  refine⟨Ya5 I2.sz hb,Wa3 (YaU I2.lt hb),fun z c e=>?_,fun p hp=>?_,fun z=>?_⟩
  . obtain⟨v,o,ho,_⟩:=I2.cell z c e
    exact Yaf (YaU (YaX ho) hb)
  . exact Yaf (YaU (YaX (I2.pin p hp).1) hb)
  . rcases WaU.mp (I2.stkSub b z) with q|q
    . exact Wa3 (YaU I2.lt hb) q
    . exact I2.nofs hb q
 have lst:∀ {H':Hp} {s':Shared} {pl:List #[18]},Inv X pl σ H' s'->zh HM H'->∃ vs:List Value,vs.length=ns.length/\s'.heap.IsList l vs.toArray/\∀ i v,vs[i]?=some v->RelV (.int (ns.getD i 0)) v:=fun I' sm=>by
  obtain⟨its',rV',hpl',_⟩:=I'.list (SqL.of (sm.at hlM));have hl3:its'.length=ns.length:=by rw [<-rV'.length,YaR]
  refine⟨its',hl3,hpl'.isList,fun i v hv=>?_⟩
  have hi:i<ns.length:=by rw [<-hl3];exact(Ya8.mp hv).1
  obtain⟨u,hu,ru⟩:=rV'.get (i:=i) (x:=.int ns[i]) (by rw [Ya0,YaQ hi];rfl)
  rw [hv] at hu;cases hu;rw [YaP,YaQ hi];exact ru
 refine zgH (N:=ns.length) (Rv:=fun i v=>RelV (.int (ns.getD i 0)) v) (q:=fa) (kf:=fun i=>g (ns.getD i 0))
  (J:=fun D kS s'=>∃ H',Inv X (pins++[(fa,PySem.W.kla_obj "<lambda>" (X.env.qual ++ "<lambda>") params body sc [(y,cy)] ((X.mg "__name__").getD .none) c' ctv)]) σ H' s'/\zh HM H'/\H' D=none/\H' kS=none)
  hr.hd hpl.isList hne (fun D kS hD hlt=>?_) (fun D kS h' hk hD hlt=>?_) (fun D kS i v s' hi ru hbest hJ=>?_)
 . have hkS:s2.heap.objs.size<=kS:=Ya5 hD (Wa2 hlt)
   refine⟨fun s' ⟨H',I',sm,_⟩=>lst I' sm,fun b s' h' tk' hJ hb sb=>?_,fun i v s' hi ru hJ hoD hoK=>?_⟩
   . obtain⟨H',I',sm,n1,n2⟩:=hJ
     have hbb:H' b=none/\s2.heap.objs.size<=b:=by
      rcases hb with rfl|rfl
      . exact⟨n1,hD⟩
      . exact⟨n2,hkS⟩
     obtain⟨w1,w2,w3,w4,_⟩:=nw b hbb.2;exact⟨H',I'.turned (t':=tk') (fun c o ne e=>sb c o ne e) hbb.1 w2 (.inr w1) w3 w4,sm,n1,n2⟩
   . obtain⟨H',I',sm,n1,n2⟩:=hJ
     obtain⟨oD,eD⟩:=hoD;obtain⟨oK,eK⟩:=hoK;have hnm:ns.getD i 0∈ns:=by rw [YaP,YaQ hi];exact Ya4 hi
     have ru:RelV (.int (ns.getD i 0)) v:=ru;obtain⟨m,hns,hloc⟩:=id I'.loc;obtain⟨tu,rt,lk⟩:=hloc it y tv L.ix htσ (.inr (.inl L.kd));have hcell:s'.heap.IsCell cy (some tu):=by
      rcases lk with ⟨z,_⟩|⟨_,c,hc,z⟩
      . rw [L.kd] at z;cases z
      . rw [L.lk] at hc;cases hc;exact z
     have hfo:=(I'.pin (fa,PySem.W.kla_obj "<lambda>" (X.env.qual ++ "<lambda>") params body sc [(y,cy)] ((X.mg "__name__").getD .none) c' ctv) (by simp)).1
     have hco:s'.heap.CodeRec (.ref c') (X.env.qual ++ "<lambda>"):=(I'.hok c' _ (sm.code hcH)).1;have hrm:Room (k+1) X.A.in1:=hr.in1;have pb:=hb fa (.ref c') s' H' (hrm.deeper _);refine wpAny_mono (ziD (A:=X.A.in1) L.S L.ne I' I'.ok.frames hrm.hd hrm.depth ru rt hcell (I'.freeC y cy L.lk) hfo hco (L.bind _ _ _ _) pb (hkey _ hnm H' (mx.trans sm))) (fun r s'' hr'=>?_) fun _ _ z=>z
     obtain⟨v',H'',I'',un,rv',rfl,hS⟩:=hr';obtain⟨t,rfl⟩:=rv';exact⟨⟨t,rfl⟩,⟨H'',I'',sm.trans hS,un.free D oD eD n1 (by simp),un.free kS oK eK n2 (by simp)⟩,(un.keep D oD eD n1 (nw D hD).2.2.2.2 (by simp)).trans eD.symm,(un.keep kS oK eK n2 (nw kS hkS).2.2.2.2 (by simp)).trans eK.symm⟩
 . exact⟨_,I2.kept (t':=s2.toks) hk,zh.refl _,I2.hok.fresh hD,I2.hok.fresh (Ya5 hD (Wa2 hlt))⟩
 . obtain⟨H',I',sm,n1,n2⟩:=hJ
   have hnm:ns.getD i 0∈ns:=by rw [YaP,YaQ hi];exact Ya4 hi
   refine⟨.int (ns.getD i 0),H',I'.unpinned,ru,cont _ H' hnm (fun m hm=>?_) (mx.trans sm)⟩
   obtain⟨j,hj,rfl⟩:=List.mem_iff_getElem.mp hm;have:g (ns.getD i 0)<=g (ns.getD j 0):=(hbest j hj).1;rwa [show ns.getD j 0=ns[j] by rw [YaP,YaQ hj];rfl] at this
end
variable[LamW]
section
variable{X:Cx}{H0:Hp}{tb:Addr}{k:Nat}{x:Str}{ps:List Str}{sp:Sp3}{t:TA3}{e:Expr}{es:List Expr}{p pos pos':Pos}
theorem dfU{E:XK}{E3:Addr->Prop}(tu:TabU tb H0)(hE:∀ C H',E3 C->zh H0 H'->E (.ref C) none H')(Gd:DfU tb X.prog X.w X.K X.mg X.base k x ps sp)(hr:Room k X.A)(hg:Gl X x)(hx:Passes (CXR X.prog X.w) X E)(ha:PA3 X H0 (e::es) t)(hdb:#[23]:=by decide)
 (he:#[13]:=by rfl) (hpl:(backTo pos (starEach es X.env)).any (·.1)=false:=by rfl):PE3 X H0 #[16] (Zn sp E3 t):=by
 refine⟨fun ρ Q Q' h q=>ha.mono ρ _ _ (fun cs ⟨hd,q⟩=>⟨hd,Gd.mono _ _ _ _ _ (fun f d ⟨a,b⟩=>⟨a,h _ b⟩) (fun _ z=>z) q⟩) q,PE.imp (jE Gd.ok hr hg hx ha.ok hdb he hpl) fun σ H Q=>el5 fun G0 ρ G F q=>⟨G0,ρ,G,F,ha.mono ρ _ _ (fun cs ⟨hd,qc⟩ vs G1 H1 g1 w=>?_) q⟩⟩
 show spU tb X.K sp (vs++[]) H1 Q E
 rw [Yao];refine⟨tu.same (F.gr g1).keep,?_⟩;have kE:∀ C,E3 C->∀ H',zh H1 H'->E (.ref C) none H':=fun C c H' s=>hE C H' c ((F.gr g1).keep.trans s)
 cases hs:shs cs with
 | some ds=>
  refine⟨G1,cs.map Cl.d,g1.sub,by rw [zdm hs];exact(w.shs hs).rd,Gd.mono _ _ _ _ _ (fun f d ⟨_,k⟩ v G' H' g r=>k v G' H' (g1.trans g) (.sh ⟨r.rd,fun hf=>j0 (Same.refl _) (fun _ _ _ z=>(F.gr g1).keep.free z) (r.nw hf)⟩)) kE qc⟩
 | none=>
  refine⟨cln H1,cs.map Cl.d,zdd H1,rdvs_cln (w.rds g1.sub hd),Gd.mono _ _ _ _ _ (fun f d ⟨s,k⟩ v G' H' g r=>?_) kE qc⟩
  have sc:zw d=true:=s.resolve_left (by rw [hs];simp)
  exact k v G1 H' (g1.trans ⟨Same.refl _,g.h,g1.sub.trans g.h,fun _ _ e=>.inl e⟩) (.sh (.sc sc (zfZ sc r.rd)))
theorem zjR(tu:TabU tb H0)(Gd:DfU tb X.prog X.w X.K X.mg X.base k x ps sp)(hr:Room k X.A)(hg:Gl X x)(ha:PA3 X.nox H0 (e::es) t)(hdb:#[23]:=by decide)
 (he:#[13]:=by rfl) (hpl:(backTo pos (starEach es X.env)).any (·.1)=false:=by rfl)
 (hs:swapsWith #[16] none pos'.line X.env=pure false:=by rfl):PX3 X H0 [.Expr #[16] pos'] (zaA sp t):=
 PX.imp (zjW Gd.ok hr hg ha.ok hdb he hpl hs) fun B E σ H ⟨G0,A,E3,ρ,G,F,q,L,hE⟩=>⟨G0,ρ,G,F,ha.mono ρ _ _ (fun cs ⟨hd,qc⟩ vs G1 H1 g1 w=>⟨tu.same (F.gr g1).keep,cln H1,cs.map Cl.d,zdd H1,rdvs_cln (w.rds g1.sub hd),
  Gd.mono _ _ _ _ _ (fun f d k v G' H' g r=>L.nx ρ σ G1 H' ((F.gr g1).gr ⟨Same.refl _,g.h,g1.sub.trans g.h,fun _ _ e=>.inl e⟩) k) (fun C c H' s=>⟨C,rfl,hE C H' c (g1.h.trans s)⟩) qc⟩) q⟩
end
theorem zlE{p:Program}{loose:List Str}{mean:ExcName->Option Value}{mg mb:#[15]}{h:Heap}(T:Top p loose mean mg mb h):BMod mg h:=by
 obtain⟨bm,ob,b1,b2,b3,b4,b5,b6⟩:=T.bmain;refine⟨bm,ob,b1,b2,fun q=>?_,b3,b4,b5,b6⟩
 obtain⟨o,es,ep,e,hd,_⟩:=T.g;rw [q,e] at b3;cases b3;rw [hd] at b6;cases b6
theorem zky{K:Ybf}{x:Str}{f c0 tb:Addr}{oc oc':Value}{od od':Option Addr}{fd:FuncData}{sl sl':Array (Option Value)}{vs:Array Value}(a:PySem.W.nsIn K mainGlobals x=some (some (.ref f)))(l:K.lookup f=some ⟨oc,od,.func fd,sl⟩)(hc:fd.code=.ref c0)
 (q1:K.lookup c0=some ⟨oc',od',.fields vs,sl'⟩) (q2:vs[11]?=some (.ref tb)):PySem.W.tabIn K x=some (c0,tb):=by
 unfold PySem.W.tabIn;rw [a];dsimp only;rw [l];dsimp only;rw [hc];dsimp only;rw [q1];dsimp only;rw [q2]
theorem zhY{P:Program}{w:World}{K:Ybf}{mg mb:#[15]}{k:Nat}{fa a c0 tb:Addr}{fd:FuncData}{x:Str}{sp:Sp3}{s₁ : Shared}{vs:List Value}{ns:List Int}
 (KX:K.In s₁.heap) (hns:s₁.heap.Ns mainGlobals mg) (hb:s₁.heap.Ns builtinsNs mb) (hbb:∀ x:Str,x≠"__name__"->mb x=bootBuiltins x) (hlim:s₁.heap.NoLimit) (hg:s₁.gens = #[])
 (ha:s₁.heap.get? a=some { cls:=.type "list", data:=.seq vs.toArray }) (hi:IntsAre vs ns) (hl:ns.length<=sizeLine) (hr:Room k callerA)
 (ht:s₁.heap.get? tb=some (PySem.W.tabObj #[])) (hcd:PySem.W.CodeHd s₁.heap c0 tb) (hbm:BMod mg s₁.heap) (hKt:K.lookup tb=none)
 (F:∀ base:Heap,K.In base->BMod mg base->FnOk P w K mg base (CXR P w) k fa fd [x] (spU tb K sp)) (hbind:∀ (s:Shared) (u:Value),BindsTo s fd ⟨[u],[]⟩ [(x,u)])
 (hsp:∀ (Q:Bool->D->Prop) (E:Addr->Prop),(∀ f,Q f (.bool true))->sp [.list (ns.map .int)] Q E) :
 codeAny (model P w) callerA (.call (.ref fa) ⟨[.ref a],[]⟩) (fun r s'=>r=.ok (.ret (.bool true))/\OldK s₁.heap s'.heap/\s'.os=s₁.os/\AllBare s'.gens) s₁:=by
 have rv:=zdo hi;have lenV:=hi.length;have hat:a≠tb:=fun e=>by rw [e,ht] at ha;cases ha
 have core:∀ H:Hp,SqL K H a (ns.map V.int)->HOk P w H s₁.heap->(∀ b o,H b=some o->(b=tb/\o=tab0 tb)\/(b=a/\K.lookup a=none/\∃ ob xs,o=.frz ob (.lst xs)))->H tb=some (tab0 tb)->
  codeAny (model P w) callerA (.call (.ref fa) ⟨[.ref a],[]⟩) (fun r s'=>r=.ok (.ret (.bool true))/\OldK s₁.heap s'.heap/\s'.os=s₁.os/\AllBare s'.gens) s₁:=by
  intro H hS hok hO hT;have noD:∀ {b:Addr} {o:Obj},s₁.heap.get? b=some o->(∀ xs n,o.data≠.seq xs n)->o.cls≠.none->H b=none:=fun {b o} e d c=>by
   cases q:H b with
   | none=>rfl
   | some u=>
    rcases hO b u q with ⟨rfl,_⟩|⟨rfl,_⟩
    . rw [ht] at e;cases e;exact absurd rfl c
    . rw [ha] at e;cases e;exact absurd rfl (d _ _)
  have noA:∀ {b:Addr} {o:Obj} {es:Array DictEntry} {ep:Nat},s₁.heap.get? b=some o->o.data=.dict es ep->H b=none:=fun {b o es ep} e d=>by
   cases q:H b with
   | none=>rfl
   | some u=>
    rcases hO b u q with ⟨rfl,_⟩|⟨rfl,_⟩
    . rw [ht] at e;cases e;cases d
    . rw [ha] at e;cases e;cases d
  have base_of:∀ {b:Addr} {o:Obj},s₁.heap.get? b=some o->H b=none->(hidT s₁.heap H).get? b=some o:=fun e n=>zhj e n
  have nsK:∀ {b:Addr} {m:#[15]},s₁.heap.Ns b m->(hidT s₁.heap H).Ns b m:=fun {b m} ⟨o,es,ep,e,d,r⟩=>⟨o,es,ep,base_of e (noA e d),d,r⟩
  have hKb:K.In (hidT s₁.heap H):=fun b o e=>base_of (KX b o e) (by
   cases q:H b with
   | none=>rfl
   | some u=>
    rcases hO b u q with ⟨rfl,_⟩|⟨rfl,h2,_⟩
    . rw [hKt] at e;cases e
    . rw [h2] at e;cases e)
  have hM:Mod K mg (hidT s₁.heap H):=⟨hKb,nsK hns,⟨mb,nsK hb,hbb⟩,let ⟨mc,h1,h2⟩:=hlim;⟨mc,nsK h1,h2⟩⟩;have hB:BMod mg (hidT s₁.heap H):=by
   obtain⟨bm,o,h1,h2,h3,h4,h5,h6,h7⟩:=hbm;exact⟨bm,o,h1,h2,h3,base_of h4 (noD h4 (fun xs n z=>by rw [h7] at z;cases z) (by rw [h5];nofun)),h5,h6,h7⟩
  have e0:Env0 P w K mg (hidT s₁.heap H) callerA [] s₁ H:=⟨rfl,hM,fun b o e=>zjc e,Nat.le_of_eq (zgB _ _),trivial,fun b hb=>absurd (show b∈([]:List Addr) from hb) (by simp),hok,.of_eq hg⟩
  have sG0:Same (fun b=>if b=tb then none else H b) H:=fun b o e=>by
   by_cases hb:b=tb
   . have e:(if b=tb then none else H b)=some o:=e
     rw [if_pos hb] at e;cases e
   . have e:(if b=tb then none else H b)=some o:=e
     rw [if_neg hb] at e;exact e
  have sG:Sub (fun b=>if b=tb then none else H b) H:=⟨sG0,fun b f e=>by
   rcases hO b _ (sG0 b _ e) with ⟨z,_⟩|⟨_,_,_,_,z⟩
   . have e:(if b=tb then none else H b)=some (HO.ext f):=e
     rw [if_pos z] at e;cases e
   . cases z⟩
  have hSG:SqL K (fun b=>if b=tb then none else H b) a (ns.map V.int):=by
   rcases hS with (h|⟨o,h⟩)|h
   . exact .inl (.inl ((if_neg hat).trans h))
   . exact .inl (.inr ⟨o,(if_neg hat).trans h⟩)
   . exact .inr h
  refine codeAny_mono ((F _ hKb hB).run callerA [] s₁ H ⟨[.ref a],[]⟩ [.ref a] [.ref a] (fun v H'=>v=.bl true/\TabU tb H') (fun _ _ _=>False) hr e0 (hbind s₁ (.ref a)) (.cons rfl .nil) ⟨.inl hT,fun b=>if b=tb then none else H b,[.list (ns.map .int)],sG,.cons (.lst hSG (zcM ns)) .nil,hsp _ _ fun f v G' H' g r=>⟨zdk r.rd,(show TabU tb H from .inl hT).same g.h⟩⟩) fun r s' h=>?rs
  cases r with
  | error e=>
   obtain⟨_,_,_,_,_,hf⟩:=h;exact hf.elim
  | ok fl=>
   cases fl with
   | next=>exact False.elim h
   | brk=>exact False.elim h
   | cont=>exact False.elim h
   | ret u=>
    obtain⟨v,H',os,bare,un,hok',r',q⟩:=h;obtain⟨q',hT'⟩:v=.bl true/\TabU tb H':=q;subst q';obtain rfl:u=Value.bool true:=r';have keepB:∀ b o,b≠tb->s₁.heap.get? b=some o->s'.heap.get? b=some o:=fun b o hb e=>by
     cases q:H b with
     | none=>exact un.keep b o e q (by intro z;exact absurd (show b∈([]:List Addr) from z) (by simp)) (by simp)
     | some u=>
      rcases hO b u q with ⟨z,_⟩|⟨_,_,ob,xs,z⟩
      . exact absurd z hb
      . rw [z] at q
        have z2:=un.frzs b ob _ q;obtain⟨e1,_⟩:=hok b _ q;obtain⟨e2,_⟩:=hok' b _ z2;rw [e] at e1;cases e1;exact e2
    obtain⟨ps,ep⟩:∃ ps,s'.heap.get? tb=some (PySem.W.tabObj ps):=by
     rcases hT' with z|⟨c',z,_⟩
     . exact⟨#[],(hok' tb _ z).1⟩
     . obtain⟨⟨ps,ep,_⟩,_,_⟩:=hok' tb _ z
       exact⟨ps,ep⟩
    refine⟨rfl,⟨fun b o e=>?_,fun b o e=>?_⟩,os,bare⟩
    . by_cases hb:b=tb
      . subst hb
        rw [ht] at e;cases e;exact .inr (.inl ⟨(hcd.tab ht).isCodeTable,rfl,#[],ps,rfl,by rw [ep];simp⟩)
      . exact .inl (keepB b o hb e)
    . by_cases hb:b=tb
      . subst hb;exact⟨_,ep⟩
      . exact⟨o,keepB b o hb e⟩
 have tok:∀ (H:Hp),zJ P w H s₁.heap tb (tab0 tb):=fun H=>⟨ht,⟨_,ht⟩,fun h1 h2 e k=>k _ e⟩
 cases hk:K.lookup a with
 | some o=>
  have e:=KX a o hk;rw [ha] at e;cases e;refine core (fun b=>if b=tb then some (tab0 tb) else none) (.inr ⟨_,vs.toArray,_,hk,rfl,rfl,rfl,by rw [YaZ,lenV];exact hl,by simpa using rv⟩) (fun b u z=>?_) (fun b o z=>?_) (if_pos rfl)
  . by_cases hb:b=tb
    . have z':=(if_pos hb).symm.trans z
      cases z';subst hb
      exact tok _
    . have z':=(if_neg hb).symm.trans z
      cases z'
  . by_cases hb:b=tb
    . have z':=(if_pos hb).symm.trans z
      cases z';exact .inl ⟨hb,rfl⟩
    . have z':=(if_neg hb).symm.trans z
      cases z'
 | none=>
  refine core (fun b=>if b=tb then some (tab0 tb) else if b=a then some (.frz { cls:=.type "list", data:=.seq vs.toArray } (.lst (ns.map V.int))) else none) (.inl (.inr ⟨{ cls:=.type "list", data:=.seq vs.toArray },(if_neg hat).trans (if_pos rfl)⟩)) (fun b u z=>?_) (fun b o z=>?_) (if_pos rfl)
  . by_cases hb:b=tb
    . have z':=(if_pos hb).symm.trans z
      cases z';subst hb
      exact tok _
    . have z1:=(if_neg hb).symm.trans z
      by_cases hb:b=a
      . have z':=(if_pos hb).symm.trans z1
        cases z';subst hb
        exact⟨ha,by rw [YaR];exact hl,vs,_,rv,ha⟩
      . have z':=(if_neg hb).symm.trans z1
        cases z'
  . by_cases hb:b=tb
    . have z':=(if_pos hb).symm.trans z
      cases z';exact .inl ⟨hb,rfl⟩
    . have z1:=(if_neg hb).symm.trans z
      by_cases hb:b=a
      . have z':=(if_pos hb).symm.trans z1
        cases z';exact .inr ⟨hb,hk,_,_,rfl⟩
      . have z':=(if_neg hb).symm.trans z1
        cases z'
theorem zkC{l:PySem.W.OpenLaw}{n k:Nat}{q:Program}{loose:List Str}{XP:(Str->Option Value)->Heap->Prop}{YP:World->Heap->Prop}{d dd:DefRec}{K:Params->Ybf}{sp:Sp3}{x dn:Str}
 (hn:l.most=some n) (hn2:n<=sizeLine) (hdf:d.params.defaults=[]) (hr:Room k callerA) (hY:∀ (w:World) (h:Heap),YP w h->(K w.params).In h) (hrec:(recsOf q).find? (fun e=>e.name==dn)=some dd)
 (F:∀ (w:World) (mg:#[15]) (fa:Addr) (h:Heap),(K w.params).In h->h.Ns mainGlobals mg->mg d.name=some (.ref fa)->
  ∃ (fd:FuncData) (c0 tb:Addr),(∀ (s:Shared) (u:Value),BindsTo s fd ⟨[u],[]⟩ [(x,u)])/\PySem.W.tabIn (K w.params) dn=some (c0,tb)/\(K w.params).lookup tb=none/\
   ∀ base:Heap,(K w.params).In base->BMod mg base->FnOk l.prog w (K w.params) mg base (CXR l.prog w) k fa fd [x] (spU tb (K w.params) sp))
 (hsp:∀ (ns:List Int),ns.length<=n->∀ (Q:Bool->D->Prop) (E:Addr->Prop),(∀ f,Q f (.bool true))->sp [.list (ns.map .int)] Q E) :
 PySem.W.WalkO q loose XP YP l.row.toRowW d [] (fun f vs=>PySem.call f vs):=by
 refine Att.attach_call hn hdf fun w s₀ s₁ mg mb fa o pm cd doc a vs ns G Y ho hd hcd hmg hobj hints hlen hg=>?_
 have KX:=hY w _ Y;obtain⟨fd,c0,tb,hb,htab,hKt,hF⟩:=F w mg fa _ KX G.T.g hmg;obtain⟨hc,ht⟩:=PySem.W.tab_of G.T KX hrec htab;exact zhY KX G.T.g G.T.b G.T.builtins G.T.nolimit hg hobj hints (Ya5 hlen hn2) hr ht hc (zlE G.T) hKt hF hb (hsp ns hlen)
end L3
open PySem PySem.Spec PyProof.Rows L2
namespace Law
open PySem L2 L3
theorem zjr{α : Type}{us:List α}(h:us.length=1):∃ a0,us=[a0]:=match us,h with|[a0],_=>⟨a0,rfl⟩
theorem ZK{α : Type}{us:List α}(h:us.length=2):∃ a0 a1,us=[a0,a1]:=match us,h with|[a0,a1],_=>⟨a0,a1,rfl⟩
theorem ZZ{α : Type}{us:List α}(h:us.length=3):∃ a0 a1 a2,us=[a0,a1,a2]:=match us,h with|[a0,a1,a2],_=>⟨a0,a1,a2,rfl⟩
theorem Za{α : Type}{us:List α}(h:us.length=4):∃ a0 a1 a2 a3,us=[a0,a1,a2,a3]:=match us,h with|[a0,a1,a2,a3],_=>⟨a0,a1,a2,a3,rfl⟩
theorem zdz{α : Type}{us:List α}(h:us.length=5):∃ a0 a1 a2 a3 a4,us=[a0,a1,a2,a3,a4]:=match us,h with|[a0,a1,a2,a3,a4],_=>⟨a0,a1,a2,a3,a4,rfl⟩
def top(i:Nat):Stmt:=PySem.Challenge.pw_chairclans_k38_mended_refused.main.body.getD i (.Pass ⟨0,0,0,0⟩)
abbrev zcC:Stmt:=top 58
abbrev zeM:Stmt:=top 67
abbrev zd1:Stmt:=top 68
abbrev zdF:Stmt:=top 69
abbrev zfp:Stmt:=top 70
abbrev zcg:Stmt:=top 71
abbrev zbq:Stmt:=top 74
abbrev zf3:Stmt:=top 72
abbrev zby:Stmt:=top 75
abbrev zdY:Stmt:=top 76
abbrev zdZ:Stmt:=top 81
abbrev zfk:Stmt:=top 80
abbrev zeI:Stmt:=top 79
abbrev J3:Stmt:=top 78
abbrev zeq:Stmt:=top 35
abbrev zc1:Stmt:=top 36
abbrev zfV:Stmt:=top 37
abbrev zdT:Stmt:=top 17
abbrev ze0:Stmt:=top 38
abbrev zdU:Stmt:=top 39
abbrev zb7:Stmt:=top 40
abbrev zbh:Stmt:=top 41
abbrev zeZ:Stmt:=top 43
abbrev zf6:Stmt:=top 44
abbrev zcn:Stmt:=top 45
abbrev zef:Stmt:=top 46
abbrev zfQ:Stmt:=top 28
abbrev zfI:Stmt:=top 29
abbrev zeT:Stmt:=top 30
abbrev zdH:Stmt:=top 48
abbrev zcq:Stmt:=top 49
abbrev zet:Stmt:=top 55
abbrev zdv:Stmt:=top 50
abbrev zbA:Stmt:=top 51
abbrev zfj:Stmt:=top 52
abbrev zac:Stmt:=top 53
abbrev zc7:Stmt:=top 57
abbrev zdf:Stmt:=top 60
abbrev jQ:Stmt:=top 61
abbrev zc9:Stmt:=top 62
abbrev zce:Stmt:=top 63
abbrev ZP:Stmt:=top 64
abbrev zfo:Stmt:=top 18
abbrev zfw:Stmt:=top 22
abbrev zd6:Stmt:=top 23
abbrev zcT:Stmt:=top 24
abbrev zc5:Stmt:=top 65
abbrev zcP:Stmt:=top 82
abbrev zan:Stmt:=top 83
def zgS(s:Stmt):Stmt:=match s with
 | .ClassDef _ _ _ b _ _ _ _ _ _ _=>b.getD 0 (.Pass ⟨0,0,0,0⟩)
 | s=>s
abbrev Jk:Stmt:=zgS (top 59)
abbrev lamP:Pos:=⟨248,66,248,90⟩
abbrev lamQ:Str:=(envOfC "nearest" (zg jQ) 0 0 .none).qual ++ "<lambda>"
instance:LamW:=⟨lamP,lamQ⟩
structure Cl where
 ClanError:Addr
 NoRatio:Addr
 NoText:Addr
 NoSpell:Addr
 NoRow:Addr
 NoBounds:Addr
 NoDistance:Addr
 NoClan:Addr
 TooLong:Addr
 NoRule:Addr
 NoLine:Addr
 NoNumber:Addr
 NoName:Addr
 Known:Addr
 TooMany:Addr
 Market:Addr
 c0:Addr
 tb:Addr
def DA(K:Ybf)(mg:#[15])(x:Str)(st:Stmt):Prop:=∃ f fd,Fun K x x st f fd/\mg x=some (.ref f)
structure TxtD(K:Ybf)(mg:#[15]):Prop where
 d_first_price:DA K mg "first_price" zcC
 d_law_cell_at:DA K mg "_law_cell_at" zeM
 d_law_mixed:DA K mg "_law_mixed" zd1
 d_law_wide:DA K mg "_law_wide" zdF
 d_law_spells:DA K mg "_law_spells" zfp
 d_law_quotas:DA K mg "_law_quotas" zcg
 d_law_row:DA K mg "_law_row" zbq
 d_law_ratio:DA K mg "_law_ratio" zf3
 d_law_limits:DA K mg "_law_limits" zby
 d_law_rules:DA K mg "_law_rules" zdY
 d_law_no_row:DA K mg "_law_no_row" zdZ
 d_law_no_rule:DA K mg "_law_no_rule" zfk
 d_law_no_bounds:DA K mg "_law_no_bounds" zeI
 d_law_no_spells:DA K mg "_law_no_spells" J3
 d_check_weights:DA K mg "check_weights" zeq
 d_all_turns:DA K mg "all_turns" zc1
 d_check_spells:DA K mg "check_spells" zfV
 d_common_divisor:DA K mg "common_divisor" zdT
 d_divisor_of_all:DA K mg "divisor_of_all" ze0
 d_least_bottom:DA K mg "least_bottom" zdU
 d_shares_over:DA K mg "shares_over" zb7
 d_quotas:DA K mg "quotas" zbh
 d_first_turn:DA K mg "first_turn" zeZ
 d_window_of:DA K mg "window_of" zf6
 d_windows_of_clan:DA K mg "windows_of_clan" zcn
 d_windows_within:DA K mg "windows_within" zef
 d_check_turn:DA K mg "check_turn" zfQ
 d_check_rules:DA K mg "check_rules" zfI
 d_forbidden:DA K mg "forbidden" zeT
 d_may_come:DA K mg "may_come" zdH
 d_choices_of_turns:DA K mg "choices_of_turns" zcq
 d_check_row:DA K mg "check_row" zet
 d_choices_of_visits:DA K mg "choices_of_visits" zdv
 d_move_along:DA K mg "move_along" zbA
 d_settle:DA K mg "settle" zfj
 d_place_visits:DA K mg "place_visits" zac
 d_costs_of_turns:DA K mg "costs_of_turns" zc7
 d_look_from:DA K mg "look_from" zdf
 d_change_prices:DA K mg "change_prices" zc9
 d_serve:DA K mg "serve" zce
 d_mend_visits:DA K mg "mend_visits" ZP
 d_less:DA K mg "less" zfo
 d_check_bounds:DA K mg "check_bounds" zfw
 d_room_at_most:DA K mg "room_at_most" zd6
 d_rooms_of:DA K mg "rooms_of" zcT
 d_mended:DA K mg "mended" zc5
 d_law_answer:DA K mg "_law_answer" zcP
 d_law:DA K mg "law" zan
 n_ValueError:mg "ValueError" = none
 n_abs:mg "abs" = none
 n_enumerate:mg "enumerate" = none
 n_isinstance:mg "isinstance" = none
 n_len:mg "len" = none
 n_list:mg "list" = none
 n_max:mg "max" = none
 n_min:mg "min" = none
 n_range:mg "range" = none
 n_sorted:mg "sorted" = none
 n_sum:mg "sum" = none
 n_zip:mg "zip" = none
structure Txt(c:Law.Cl)(K:Ybf)(mg:#[15]):Prop extends TxtD K mg where
 d_nearest:DA K mg "nearest" jQ
 x_nearest:∃ f fd,Fun K "nearest" "nearest" jQ f fd/\mg "nearest" = some (.ref f)/\fd.code=.ref c.c0
 hdC:∀ h,K.In h->PySem.W.CodeHd h c.c0 c.tb
 tab:PySem.W.tabIn K "nearest" = some (c.c0,c.tb)
 nop:K.lookup c.tb=none
 m_ClanError:mg "ClanError" = some (.ref c.ClanError)
 m_NoRatio:mg "NoRatio" = some (.ref c.NoRatio)
 m_NoText:mg "NoText" = some (.ref c.NoText)
 m_NoSpell:mg "NoSpell" = some (.ref c.NoSpell)
 m_NoRow:mg "NoRow" = some (.ref c.NoRow)
 m_NoBounds:mg "NoBounds" = some (.ref c.NoBounds)
 m_NoDistance:mg "NoDistance" = some (.ref c.NoDistance)
 m_NoClan:mg "NoClan" = some (.ref c.NoClan)
 m_TooLong:mg "TooLong" = some (.ref c.TooLong)
 m_NoRule:mg "NoRule" = some (.ref c.NoRule)
 m_NoLine:mg "NoLine" = some (.ref c.NoLine)
 m_NoNumber:mg "NoNumber" = some (.ref c.NoNumber)
 m_NoName:mg "NoName" = some (.ref c.NoName)
 m_Known:mg "Known" = some (.ref c.Known)
 m_TooMany:mg "TooMany" = some (.ref c.TooMany)
 m_Market:mg "Market" = some (.ref c.Market)
 x_init:∃ fi fdi,Fun K "__init__" "Market.__init__" Jk fi fdi/\Mk K c.Market fi
 cl_M:Cls K c.Market
 na_costs:zR K c.Market "costs"
 na_turn_prices:zR K c.Market "turn_prices"
 na_visit_prices:zR K c.Market "visit_prices"
 na_taken:zR K c.Market "taken"
 na_holders:zR K c.Market "holders"
 e_NoSpell:PySem.W.excIn K c.NoSpell bmVE "ValueError.__new__" = true
 e_NoBounds:PySem.W.excIn K c.NoBounds bmVE "ValueError.__new__" = true
 e_NoRule:PySem.W.excIn K c.NoRule bmVE "ValueError.__new__" = true
 e_NoRow:PySem.W.excIn K c.NoRow bmVE "ValueError.__new__" = true
 k_NoSpell:XAttr K c.NoSpell/\PySem.W.exmOne K (.ref c.NoSpell) (.ref c.ClanError)=some true/\PySem.W.kitAny K (.ref c.NoSpell) #[24]=some false/\PySem.W.kitOne K (.ref c.NoSpell) (.ref c.NoSpell)=some true/\PySem.W.kitOne K (.ref c.NoSpell) (.ref c.NoBounds)=some false/\PySem.W.kitOne K (.ref c.NoSpell) (.ref c.NoRule)=some false/\PySem.W.kitOne K (.ref c.NoSpell) (.ref c.NoRow)=some false/\PySem.W.kitOne K (.ref c.NoSpell) (.type "ValueError")=some true
 k_NoBounds:XAttr K c.NoBounds/\PySem.W.exmOne K (.ref c.NoBounds) (.ref c.ClanError)=some true/\PySem.W.kitAny K (.ref c.NoBounds) #[24]=some false/\PySem.W.kitOne K (.ref c.NoBounds) (.ref c.NoSpell)=some false/\PySem.W.kitOne K (.ref c.NoBounds) (.ref c.NoBounds)=some true/\PySem.W.kitOne K (.ref c.NoBounds) (.ref c.NoRule)=some false/\PySem.W.kitOne K (.ref c.NoBounds) (.ref c.NoRow)=some false/\PySem.W.kitOne K (.ref c.NoBounds) (.type "ValueError")=some true
 k_NoRule:XAttr K c.NoRule/\PySem.W.exmOne K (.ref c.NoRule) (.ref c.ClanError)=some true/\PySem.W.kitAny K (.ref c.NoRule) #[24]=some false/\PySem.W.kitOne K (.ref c.NoRule) (.ref c.NoSpell)=some false/\PySem.W.kitOne K (.ref c.NoRule) (.ref c.NoBounds)=some false/\PySem.W.kitOne K (.ref c.NoRule) (.ref c.NoRule)=some true/\PySem.W.kitOne K (.ref c.NoRule) (.ref c.NoRow)=some false/\PySem.W.kitOne K (.ref c.NoRule) (.type "ValueError")=some true
 k_NoRow:XAttr K c.NoRow/\PySem.W.exmOne K (.ref c.NoRow) (.ref c.ClanError)=some true/\PySem.W.kitAny K (.ref c.NoRow) #[24]=some false/\PySem.W.kitOne K (.ref c.NoRow) (.ref c.NoSpell)=some false/\PySem.W.kitOne K (.ref c.NoRow) (.ref c.NoBounds)=some false/\PySem.W.kitOne K (.ref c.NoRow) (.ref c.NoRule)=some false/\PySem.W.kitOne K (.ref c.NoRow) (.ref c.NoRow)=some true/\PySem.W.kitOne K (.ref c.NoRow) (.type "ValueError")=some true
 m_LEAST_BOUND:∃ a,mg "LEAST_BOUND" = some (.ref a)/\TupI K a [0,1]
 m_MOST_BOUND:∃ a,mg "MOST_BOUND" = some (.ref a)/\TupI K a [10,1]
 m_FIXED:∃ t,mg "FIXED" = some (.str "fixed" t)
 m_BARRED:∃ t,mg "BARRED" = some (.str "barred" t)
 m_MOST_SPELLS:∃ t,mg "MOST_SPELLS" = some (.int 8 t)
 m_MOST_CLANS:∃ t,mg "MOST_CLANS" = some (.int 8 t)
 m_MOST_TURNS:∃ t,mg "MOST_TURNS" = some (.int 60 t)
theorem zex{g l:Int}(hg:0<=g)(hl:0<l):Int.gcd l (g%l)=Int.gcd g l:=by
 obtain⟨m,rfl⟩:=Int.eq_ofNat_of_zero_le hg;obtain⟨n,rfl⟩:=Int.eq_ofNat_of_zero_le (Int.le_of_lt hl);rw [<-Int.natCast_emod,Int.gcd_natCast_natCast,Int.gcd_natCast_natCast,Nat.gcd_comm n,<-Nat.gcd_rec,Nat.gcd_comm]
theorem zew{g:Int}(hg:0<=g):(Int.gcd g 0:Int)=g:=by
 rw [Int.gcd_zero_right];omega
theorem zfH(a b:Int):Int.gcd (if a<0 then -a else a) (if b<0 then -b else b)=Int.gcd a b:=by
 split<;>split<;>simp
def dR(a b:Int):D:=.tuple [.int (a/(Int.gcd a b:Int)),.int (b/(Int.gcd a b:Int))]
theorem zfE{a b:Int}(h:0<b):0<(Int.gcd a b:Int):=by
 have:0<Int.gcd a b:=Waa _ #[0]
 omega
theorem zh7{a b:Int}{k:Nat}(h:0<b)(hb:Bits k b):Bits k (Int.gcd a b:Int):=by
 refine hb.le ?_
 have:=Int.gcd_le_right a (show 0<b from h)
 omega
theorem zej{x a b:Int}(h:0<b)(hb:Bits 9000 b):jX x (Int.gcd a b:Int):=⟨zfE h,zh7 h hb⟩
abbrev Spell:=Int×List Int
def dI(ns:List Int):D:=.list (ns.map .int)
def dS(s:Spell):D:=.tuple [.int s.1,dI s.2]
def dSs(l:List Spell):D:=.list (l.map dS)
def okW(ws:List Int):Prop:=(1<=ws.length/\ws.length<=8)/\(∀ w∈ws,0<=w/\w<10 ^ 30)/\ws.sum≠0
def tot(l:List Spell):Int:=(l.map (·.1)).sum
def many(l:List Spell):Nat:=(l.headD (0,[])).2.length
def okS(l:List Spell):Prop:=(1<=l.length/\l.length<=8)/\(∀ s∈l,1<=s.1/\okW s.2/\s.2.length=many l)/\tot l<=60
theorem p30:JH 10 30:=powB (k:=4) (by unfold Bits;decide) #[1] #[1]
theorem ZS:∀ {ws:List Int},(∀ w∈ws,0<=w)->0<=ws.sum
 | [],_=>by simp
 | w :: ws, h => by
  rw [List.sum_cons];have:=ZS (ws:=ws) fun x hx=>h x (YaT _ hx)
  have:=h w YaV
  omega
theorem zdE{B:Int}:∀ {ws:List Int},(∀ w∈ws,w<B)->ws.sum<=ws.length*B
 | [],_=>by simp
 | w :: ws, h => by
  rw [List.sum_cons,List.length_cons];have:=zdE (ws:=ws) fun x hx=>h x (YaT _ hx)
  have:=h w YaV;have e:((ws.length+1:Nat):Int)*B=ws.length*B+B:=by rw [Int.natCast_add,Int.add_mul];simp
  omega
theorem Jj{ws:List Int}(h:okW ws):0<ws.sum:=by
 have:=ZS fun w hw=>(h.2.1 w hw).1
 have:=h.2.2
 omega
theorem ziM{ws:List Int}(h:okW ws):ws.sum<=8*10 ^ 30:=by
 have h1:=zdE (B:=10 ^ 30) fun w hw=>(h.2.1 w hw).2
 have h2:(ws.length:Int)*10 ^ 30<=8*10 ^ 30:=Ybe (by have:=h.1.2;omega) #[1]
 omega
theorem zf4{x B:Int}{k:Nat}(h0:0<=x)(h:x<=B)(hB:B.natAbs<2 ^ k):Bits k x:=by
 unfold Bits
 omega
theorem Zo{ws:List Int}(h:okW ws):Bits 103 ws.sum:=zf4 (Int.le_of_lt (Jj h)) (ziM h) #[1]
theorem zes{ws:List Int}(h:okW ws){w:Int}(hw:w∈ws):Bits 100 w:=zf4 (h.2.1 w hw).1 (Int.le_of_lt (h.2.1 w hw).2) #[1]
def gcdL(ws:List Int):Int:=ws.foldl (fun a b=>(Int.gcd a b:Int)) 0
def parts(ws:List Int):Int:=ws.sum/gcdL ws
def bot1(b:Int)(s:Spell):Int:=b*parts s.2/(Int.gcd b (parts s.2):Int)
def bot(l:List Spell):Int:=l.foldl bot1 1
theorem zch:∀ (ws:List Int) (a:Int),0<=a->0<=ws.foldl (fun a b=>(Int.gcd a b:Int)) a/\ws.foldl (fun a b=>(Int.gcd a b:Int)) a∣a/\∀ w∈ws,ws.foldl (fun a b=>(Int.gcd a b:Int)) a∣w
 | [],a,h=>⟨h,Int.dvd_refl _,fun w hw=>by cases hw⟩
 | w :: ws, a, h => by
  obtain⟨h1,h2,h3⟩:=zch ws (Int.gcd a w:Int) #[0]
  refine⟨h1,WaZ h2 (Int.gcd_dvd_left a w),fun x hx=>?_⟩
  rcases WaU.mp hx with rfl|hx
  . exact WaZ h2 (Int.gcd_dvd_right a x)
  . exact h3 x hx
theorem zgt(ws:List Int):0<=gcdL ws:=(zch ws 0 #[1]).1
theorem ziC{ws:List Int}{w:Int}(h:w∈ws):gcdL ws∣w:=(zch ws 0 #[1]).2.2 w h
theorem zeH{d:Int}:∀ {ws:List Int},(∀ w∈ws,d∣w)->d∣ws.sum
 | [],_=>by simp
 | w :: ws, h => by
  rw [List.sum_cons];exact Int.dvd_add (h w YaV) (zeH fun x hx=>h x (YaT _ hx))
theorem zcD(ws:List Int):gcdL ws∣ws.sum:=zeH fun w hw=>ziC hw
theorem zb4{ws:List Int}(h:okW ws):0<gcdL ws:=by
 have h1:=zgt ws;have h2:=Jj h;have h3:=zcD ws
 by_cases e:gcdL ws=0
 . rw [e] at h3
   have:=Int.zero_dvd.mp h3
   omega
 . omega
theorem zh1{ws:List Int}(h:okW ws):gcdL ws<=ws.sum:=Int.le_of_dvd (Jj h) (zcD ws)
theorem zgY{ws:List Int}:parts ws*gcdL ws=ws.sum:=Yaw (zcD ws)
theorem JL{ws:List Int}(h:okW ws):0<parts ws:=by
 have h1:=zb4 h;have h2:=Jj h;have h3:=zgY (ws:=ws)
 by_cases e:0<parts ws
 . exact e
 . have:parts ws*gcdL ws<=0:=Int.mul_nonpos_of_nonpos_of_nonneg #[0] #[0]
   omega
theorem zi4{ws:List Int}(h:okW ws):parts ws<=ws.sum:=Int.ediv_le_self _ (Int.le_of_lt (Jj h))
theorem zcl{ws:List Int}(h:okW ws):Bits 103 (parts ws):=(Zo h).le (by have:=JL h;have:=zi4 h;omega)
theorem zb9{b p:Int}(h:0<p):(0:Int)<(Int.gcd b p:Int):=by
 have:=Waa b (show p≠0 by omega)
 omega
theorem zkd{b p:Int}(h:0<p):(Int.gcd b p:Int)<=p:=Int.le_of_dvd h (Int.gcd_dvd_right b p)
theorem zft{b:Int}{s:Spell}(hb:0<b)(h:okW s.2):0<bot1 b s:=by
 have h1:=JL h;have h2:=zb9 (b:=b) h1;have h3:(Int.gcd b (parts s.2):Int)∣b*parts s.2:=WaZ (Int.gcd_dvd_left _ _) (Int.dvd_mul_right _ _);have h4:=Yaw h3;have h5:0<b*parts s.2:=Int.mul_pos hb h1;unfold bot1
 by_cases e:0<b*parts s.2/(Int.gcd b (parts s.2):Int)
 . exact e
 . have:b*parts s.2/(Int.gcd b (parts s.2):Int)*(Int.gcd b (parts s.2):Int)<=0:=Int.mul_nonpos_of_nonpos_of_nonneg #[0] #[0]
   omega
theorem ziP{b:Int}{s:Spell}{k:Nat}(hb:0<b)(hk:Bits k b)(h:okW s.2):Bits (k+103) (bot1 b s):=(hk.mul (zcl h)).le (by
 have h5:0<b*parts s.2:=Int.mul_pos hb (JL h);have h6:=zft hb h;have h7:bot1 b s<=b*parts s.2:=Int.ediv_le_self _ (Int.le_of_lt h5)
 omega)
theorem zbu:∀ (l:List Spell) (b:Int) (k:Nat),(∀ s∈l,okW s.2)->0<b->Bits k b->0<l.foldl bot1 b/\Bits (k+103*l.length) (l.foldl bot1 b)
 | [],b,k,_,h,h'=>⟨h,by simpa using h'⟩
 | s :: l, b, k, hs, h, h' => by
  have hw:=hs s YaV;have:=zbu l (bot1 b s) (k+103) (fun x hx=>hs x (YaT _ hx)) (zft h hw) (ziP h h' hw)
  refine⟨this.1,this.2.mono ?_⟩
  rw [List.length_cons];omega
theorem zhi{l:List Spell}(h:okS l):0<bot l:=(zbu l 1 1 (fun s hs=>(h.2.1 s hs).2.1) #[1] (by unfold Bits;decide)).1
theorem zeU{l:List Spell}(h:okS l):Bits 900 (bot l):=(zbu l 1 1 (fun s hs=>(h.2.1 s hs).2.1) #[1] (by unfold Bits;decide)).2.mono (by have:=h.1.2;omega)
def shares(b:Int)(ws:List Int):List Int:=ws.map fun w=>w*b/ws.sum
def addL(xs ys:List Int):List Int:=(xs.zip ys).map fun p=>p.1+p.2
def zS(sh:List Int)(p:List Int×List (List Int)):List Int×List (List Int):=(addL p.1 sh,p.2++[addL p.1 sh])
def rep{α : Type}(f:α->α):Nat->α->α
 | 0,x=>x
 | n+1,x=>rep f n (f x)
def runQ(b:Int)(l:List Spell)(p:List Int×List (List Int)):List Int×List (List Int):=l.foldl (fun p s=>rep (zS (shares b s.2)) s.1.toNat p) p
def zeros(l:List Spell):List Int:=List.replicate (many l) 0
def quo(l:List Spell):List (List Int):=(runQ (bot l) l (zeros l,[zeros l])).2
theorem Z8(sh:List Int):∀ n p,(rep (zS sh) n p).2.length=p.2.length+n
 | 0,p=>rfl
 | n+1,p=>by rw [rep,Z8 sh n];simp [zS];omega
theorem JY{l:List Spell}(h:∀ s∈l,1<=s.1):0<=tot l:=ZS fun w hw=>by
 obtain⟨s,hs,rfl⟩:=Ya7.mp hw;have:=h s hs;omega
theorem zdb{l:List Spell}(h:∀ s∈l,1<=s.1){s:Spell}(hs:s∈l):s.1<=tot l:=by
 unfold tot
 induction l with
 | nil=>cases hs
 | cons a l ih=>
  rw [Ya1,List.sum_cons];have h1:0<=(l.map (·.1)).sum:=JY fun x hx=>h x (YaT _ hx)
  have h2:=h a YaV
  rcases WaU.mp hs with rfl|hs
  . omega
  . have:=ih (fun x hx=>h x (YaT _ hx)) hs
    omega
theorem zlb{l:List Spell}(h:okS l):((quo l).length:Int)=tot l+1:=by
 have key:∀ (l:List Spell) (b:Int) (p:List Int×List (List Int)),(∀ s∈l,1<=s.1)->((runQ b l p).2.length:Int)=p.2.length+tot l:=by
  intro l
  induction l with
  | nil=>intro b p _;simp [runQ,tot]
  | cons s l ih=>
   intro b p hs;have h1:=hs s YaV;have:=ih b (rep (zS (shares b s.2)) s.1.toNat p) fun x hx=>hs x (YaT _ hx)
   show((runQ b l (rep (zS (shares b s.2)) s.1.toNat p)).2.length:Int)=_
   rw [this,Z8];unfold tot;rw [Ya1,List.sum_cons]
   omega
 have:=key l (bot l) (zeros l,[zeros l]) fun s hs=>(h.2.1 s hs).1
 unfold quo;rw [this];simp;omega
theorem jY{α β : Type}(e:α->β)(xs:List α)(lo hi:Option Int):cut (xs.map e) lo hi=(cut xs lo hi).map e:=by
 unfold cut;rw [YaR,List.map_take,List.map_drop]
theorem zbf{α : Type}(xs:List α){i:Int}(h:0<=i)(h':i<=xs.length):cut xs none (some i)=xs.take i.toNat:=by
 unfold cut;have e:HT.sIx xs.length xs.length (some i)=i.toNat:=by
  have:=HT.sIx_nat xs.length xs.length i.toNat;rw [show((i.toNat:Nat):Int)=i by omega] at this
  rw [this];omega
 rw [e];simp [HT.sIx_none]
theorem JV{α : Type}(xs:List α){i:Int}(h:0<=i)(h':i<=xs.length):cut xs (some i) none=xs.drop i.toNat:=by
 unfold cut;have e:HT.sIx xs.length 0 (some i)=i.toNat:=by
  have:=HT.sIx_nat xs.length 0 i.toNat;rw [show((i.toNat:Nat):Int)=i by omega] at this
  rw [this];omega
 rw [e,HT.sIx_none]
 apply Wak
 rw [List.length_drop];omega
theorem zbj(ws:List Int):(ws.map PyData.int).all zw=true:=by
 rw [WaK];intro x hx;obtain⟨i,_,rfl⟩:=Ya7.mp hx;rfl
theorem zdA:∀ (xs:List Int) (x:Int),(xs.foldl (fun a b=>if b > a then b else a) x∈x::xs)/\x<=xs.foldl (fun a b=>if b > a then b else a) x/\∀ w∈xs,w<=xs.foldl (fun a b=>if b > a then b else a) x
 | [],x=>⟨by simp,Wba _,fun w h=>by cases h⟩
 | y :: ys, x => by
  rw [List.foldl_cons]
  by_cases h:y > x
  . rw [if_pos h]
    obtain⟨h1,h2,h3⟩:=zdA ys y;exact⟨YaT _ h1,#[0],fun w hw=>by
     rcases WaU.mp hw with rfl|hw
     . exact h2
     . exact h3 w hw⟩
  . rw [if_neg h]
    obtain⟨h1,h2,h3⟩:=zdA ys x;refine⟨?_,h2,fun w hw=>?_⟩
    . rcases WaU.mp h1 with z|z
      . rw [z];exact YaV
      . exact YaT _ (YaT _ z)
    . rcases WaU.mp hw with rfl|hw
      . omega
      . exact h3 w hw
theorem ze8{ws:List Int}(h:ws≠[]):maxL ws∈ws:=by
 cases ws with
 | nil=>exact absurd rfl h
 | cons x xs=>exact(zdA xs x).1
theorem zep{a b:List Int}(h:a.length=b.length):(addL a b).length=a.length:=by unfold addL;rw [YaR,List.length_zip];omega
theorem zfM(b:Int)(ws:List Int):(shares b ws).length=ws.length:=YaR ..
def zE(l:List Spell):Int:=l.foldl (fun b s=>b*s.2.sum) 1
def quoB(b:Int)(l:List Spell):List (List Int):=(runQ b l (zeros l,[zeros l])).2
theorem zeW:∀ (l:List Spell) (b:Int),b∣l.foldl (fun b s=>b*s.2.sum) b
 | [],b=>Int.dvd_refl b
 | s::l,b=>WaZ (Int.dvd_mul_right b s.2.sum) (zeW l _)
theorem zgl{l:List Spell}{s:Spell}(h:s∈l):s.2.sum∣zE l:=by
 have:∀ (l:List Spell) (b:Int),s∈l->s.2.sum∣l.foldl (fun b s=>b*s.2.sum) b:=by
  intro l
  induction l with
  | nil=>intro b h;cases h
  | cons a l ih=>
   intro b h
   rcases WaU.mp h with rfl|h
   . exact WaZ (Int.dvd_mul_left b s.2.sum) (zeW l _)
   . exact ih _ h
 exact this l 1 h
theorem zbn:∀ (l:List Spell) (b:Int) (k:Nat),(∀ s∈l,okW s.2)->0<b->Bits k b->0<l.foldl (fun b s=>b*s.2.sum) b/\Bits (k+103*l.length) (l.foldl (fun b s=>b*s.2.sum) b)
 | [],b,k,_,h,hb=>⟨h,hb.mono (by simp)⟩
 | s :: l, b, k, hs, h, hb => by
  have h1:=hs s YaV;have:=zbn l (b*s.2.sum) (k+103) (fun t ht=>hs t (YaT _ ht)) (Int.mul_pos h (Jj h1)) (hb.mul (Zo h1))
  exact⟨this.1,this.2.mono (by rw [List.length_cons];omega)⟩
theorem zfh{l:List Spell}(h:okS l):0<zE l:=(zbn l 1 1 (fun s hs=>(h.2.1 s hs).2.1) #[1] (by unfold Bits;decide)).1
theorem zf1{l:List Spell}(h:okS l):Bits 900 (zE l):=(zbn l 1 1 (fun s hs=>(h.2.1 s hs).2.1) #[1] (by unfold Bits;decide)).2.mono (by have:=h.1.2;omega)
theorem zhX(b:Int):∀ (l:List Spell) (p:List Int×List (List Int)),(∀ s∈l,1<=s.1)->((runQ b l p).2.length:Int)=p.2.length+tot l:=by
 intro l
 induction l with
 | nil=>intro p _;simp [runQ,tot]
 | cons s l ih=>
  intro p hs;have h1:=hs s YaV;have:=ih (rep (zS (shares b s.2)) s.1.toNat p) fun x hx=>hs x (YaT _ hx)
  show((runQ b l (rep (zS (shares b s.2)) s.1.toNat p)).2.length:Int)=_
  rw [this,Z8];unfold tot;rw [Ya1,List.sum_cons]
  omega
theorem zeY{l:List Spell}(h:okS l)(b:Int):((quoB b l).length:Int)=tot l+1:=by
 unfold quoB;rw [zhX b l _ fun s hs=>(h.2.1 s hs).1]
 simp;omega
def Jt(n:Nat)(p:List Int×List (List Int)):Prop:=p.1.length=n/\∀ r∈p.2,r.length=n
theorem zfU{n:Nat}{sh:List Int}(hs:sh.length=n):∀ (k:Nat) (p:List Int×List (List Int)),Jt n p->Jt n (rep (zS sh) k p)
 | 0,p,h=>h
 | k + 1, p, h => zfU hs k _ (by
  have e:(addL p.1 sh).length=n:=by rw [zep (by rw [h.1,hs]),h.1]
  refine⟨e,fun r hr=>?_⟩
  rcases Ya3.mp hr with z|z
  . exact h.2 r z
  . rw [Ya6.mp z];exact e)
theorem ze4{n:Nat}(b:Int):∀ (l:List Spell) (p:List Int×List (List Int)),(∀ s∈l,s.2.length=n)->Jt n p->Jt n (runQ b l p)
 | [],p,_,h=>h
 | s::l,p,hs,h=>ze4 b l _ (fun t ht=>hs t (YaT _ ht)) (zfU (by rw [zfM];exact hs s YaV) _ _ h)
theorem zeD{l:List Spell}(h:okS l){b:Int}{r:List Int}(hr:r∈quoB b l):r.length=many l:=
 (ze4 b l (zeros l,[zeros l]) (fun s hs=>(h.2.1 s hs).2.2) ⟨by unfold zeros;simp,fun r hr=>by rw [Ya6.mp hr];unfold zeros;simp⟩).2 r hr
theorem zb2{l:List Spell}(h:okS l):1<=many l/\many l<=8:=by
 cases l with
 | nil=>have:=h.1.1;simp at this
 | cons a r=>exact(h.2.1 a YaV).2.1.1
theorem zey{a b:Int}(h:0<b):0<b/(Int.gcd a b:Int)/\Int.gcd (a/(Int.gcd a b:Int)) (b/(Int.gcd a b:Int))=1/\a/(Int.gcd a b:Int)*(Int.gcd a b:Int)=a/\b/(Int.gcd a b:Int)*(Int.gcd a b:Int)=b:=by
 have hg:0<Int.gcd a b:=Waa _ #[0]
 have h1:(Int.gcd a b:Int)∣a:=Int.gcd_dvd_left a b;have h2:(Int.gcd a b:Int)∣b:=Int.gcd_dvd_right a b;exact⟨Int.ediv_pos_of_pos_of_dvd h #[0] h2,Int.gcd_ediv_gcd_ediv_gcd hg,Yaw h1,Yaw h2⟩
def jW(n:Nat)(T:Nat)(row:List Int):Prop:=row.length=T/\∀ c∈row,0<=c/\c<(n:Int)
theorem ziy{ws:List Int}(h:∀ w∈ws,0<=w)(h1:(1:Int)∈ws):ws.sum≠0:=by
 induction ws with
 | nil=>cases h1
 | cons a r ih=>
  rw [List.sum_cons];have h2:=ZS (ws:=r) fun w hw=>h w (YaT _ hw)
  have h3:=h a YaV
  rcases WaU.mp h1 with rfl|h1
  . omega
  . have:=ih (fun w hw=>h w (YaT _ hw)) h1
    omega
theorem zhQ{l:List Spell}{B:Int}(h:∀ s∈l,s.1<=B):tot l<=l.length*B:=by
 unfold tot
 induction l with
 | nil=>simp
 | cons a r ih=>
  have h1:=h a YaV;have h2:=ih fun s hs=>h s (YaT _ hs)
  rw [Ya1,List.sum_cons,List.length_cons,Int.natCast_succ,Int.add_mul]
  omega
theorem zjb(l:List Spell)(s:Spell):zE (l++[s])=zE l*s.2.sum:=by unfold zE;rw [Waz];rfl
theorem zeE{α : Type}(f:α->α):∀ (n:Nat) (x:α),rep f (n+1) x=f (rep f n x)
 | 0,x=>rfl
 | n+1,x=>by show rep f (n+1) (f x)=f (rep f n (f x));exact zeE f n (f x)
theorem zff{α : Type}(xs:List α)(x:α):atI (xs++[x]) (-1)=some x:=by
 unfold atI ixN;rw [if_neg #[1],if_pos (by rw [YaS];simp;omega),YaS]
 have:(-1+((xs.length+[x].length:Nat):Int)).toNat=xs.length:=#[6]
 rw [this]
 simp
theorem zcV{xs:List Int}{i:Nat}(h:i<xs.length):atI (xs.map PyData.int) (0+(i:Int))=some (PyData.int xs[i]):=by
 rw [Wa6];have:(xs.map PyData.int)[i]?=some (PyData.int xs[i]):=by rw [Ya0,YaQ h];rfl
 exact jd this
theorem c64:JH 10 64:=powB (k:=4) (by unfold Bits;decide) #[1] #[1]
abbrev Rat2:=Int×Int
def dQ(r:Rat2):D:=.tuple [.int r.1,.int r.2]
def dP(p:Rat2×Rat2):D:=.tuple [dQ p.1,dQ p.2]
def dPs(l:List (Rat2×Rat2)):D:=.list (l.map dP)
def okQ(r:Rat2):Prop:=0<r.2/\Bits 1200 r.1/\Bits 1200 r.2
def inQ(r:Rat2):Prop:=0<=r.1/\r.1<=10*r.2
def okB(n:Nat)(l:List (Rat2×Rat2)):Prop:=l.length=n/\∀ p∈l,inQ p.1/\inQ p.2
def ZB(b:Int)(r:Rat2):Int:=r.1*b/r.2
theorem JQ{rows:List (List Int)}{i:Nat}(h:i<rows.length):atI (rows.map dI) (i:Int)=some (PyData.list (rows[i].map PyData.int)):=by
 have:(rows.map dI)[i]?=some (PyData.list (rows[i].map PyData.int)):=by rw [Ya0,YaQ h];rfl
 exact jd this
theorem Js{xs:List Int}{i:Int}(h0:0<=i)(h:i<xs.length):atI (xs.map PyData.int) i=some (PyData.int (xs.getD i.toNat 0)):=by
 obtain⟨x,h1,_,h2⟩:=Jy (xs:=xs) h0 h;rw [j4,h1,YaP,h2];rfl
def jL(p:Int×Int):D:=.tuple [.int p.1,.int p.2]
def jS(b:Int)(l:List (Rat2×Rat2)):List (Int×Int):=l.map fun p=>(ZB b p.1,ZB b p.2)
theorem zld{ws:List Int}(h:∀ w∈ws,0<=w){w:Int}(hw:w∈ws):w<=ws.sum:=by
 induction ws with
 | nil=>cases hw
 | cons a r ih=>
  rw [List.sum_cons];have h2:=ZS (ws:=r) fun w hw=>h w (YaT _ hw)
  have h3:=h a YaV
  rcases WaU.mp hw with rfl|hw
  . omega
  . have:=ih (fun w hw=>h w (YaT _ hw)) hw
    omega
theorem zkQ{b:Int}{ws:List Int}(h:okW ws)(hb:0<=b){x:Int}(hx:x∈shares b ws):x<=b:=by
 unfold shares at hx;obtain⟨w,hw,rfl⟩:=Ya7.mp hx;have h1:=zld (fun w hw=>(h.2.1 w hw).1) hw
 refine Int.ediv_le_of_le_mul (Jj h) ?_
 rw [Int.mul_comm w b];exact Int.mul_le_mul_of_nonneg_left h1 hb
def leP(b:Int)(p:List Int×List (List Int)):Prop:=1<=p.2.length/\(∀ x∈p.1,x<=((p.2.length:Int) - 1)*b)/\∀ r∈p.2,∀ x∈r,x<=((p.2.length:Int) - 1)*b
theorem zjH{b:Int}{sh:List Int}(hb:0<=b)(hs:∀ x∈sh,x<=b){p:List Int×List (List Int)}(h:leP b p):leP b (zS sh p):=by
 obtain⟨h1,h2,h3⟩:=h;have e:(((zS sh p).2.length:Nat):Int) - 1=p.2.length:=by show(((p.2++[_]).length:Nat):Int) - 1=_;rw [YaS];simp
 have hm:((p.2.length:Int) - 1)*b+b=(p.2.length:Int)*b:=by rw [Int.sub_mul,Int.one_mul];omega
 have ha:∀ x∈addL p.1 sh,x<=(p.2.length:Int)*b:=fun x hx=>by
  unfold addL at hx;obtain⟨q,hq,rfl⟩:=Ya7.mp hx;obtain⟨q1,q2⟩:=List.of_mem_zip (a:=q.1) (b:=q.2) hq;have:=h2 _ q1;have:=hs _ q2
  omega
 refine⟨by show 1<=(p.2++[_]).length;rw [YaS];simp,by rw [e];exact ha,fun r hr x hx=>?_⟩
 rw [e]
 rcases Ya3.mp hr with z|z
 . have:=h3 r z x hx;omega
 . rw [Ya6.mp z] at hx;exact ha x hx
theorem zeG{b:Int}{sh:List Int}(hb:0<=b)(hs:∀ x∈sh,x<=b):∀ (n:Nat) {p:List Int×List (List Int)},leP b p->leP b (rep (zS sh) n p)
 | 0,_,h=>h
 | n+1,_,h=>zeG hb hs n (zjH hb hs h)
theorem zeC{b:Int}(hb:0<=b):∀ (l:List Spell) {p:List Int×List (List Int)},(∀ s∈l,okW s.2)->leP b p->leP b (runQ b l p)
 | [],_,_,h=>h
 | s::l,p,hl,h=>zeC hb l (p:=rep (zS (shares b s.2)) s.1.toNat p) (fun t ht=>hl t (YaT _ ht)) (zeG hb (fun x hx=>zkQ (hl s YaV) hb hx) _ h)
theorem zlW{l:List Spell}(h:okS l){b:Int}(hb:0<b):∀ r∈quoB b l,∀ x∈r,x<=tot l*b:=fun r hr x hx=>by
 have:=zeC (b:=b) #[0] l (p:=(zeros l,[zeros l])) (fun s hs=>(h.2.1 s hs).2.1) ⟨by simp,fun x hx=>by
  have:x=0:=Wag hx;rw [this];simp,fun r hr x hx=>by
  rw [Ya6.mp hr] at hx;have:x=0:=Wag hx;rw [this];simp⟩
 have h2:=this.2.2 r hr x hx;have h3:=zeY h b;unfold quoB at h3;have e:(((runQ b l (zeros l,[zeros l])).2.length:Nat):Int) - 1=tot l:=#[0]
 rw [e] at h2;exact h2
theorem zcf{g:TG3}{tb:TS3}{A:Ends3}{f:Bool}{enc:Nat->D}{n:Nat}(P:Nat->Env3->Prop)(s:∀ k ρ,k<n->P k ρ->∀ W:Env3->Prop,(∀ ρ',P (k+1) ρ'->W ρ')->g f (enc k) ρ fun ρ'=>tb { A with nx:=W,ct:=W,bk:=A.nx } ρ')(e:∀ ρ,P n ρ->A.nx ρ){ρ : Env3}(h:P 0 ρ):forL g tb A f ((List.range n).map enc) ρ:=by
 refine jR enc (List.range n) (fun done ρ=>P done.length ρ) (fun done x rest ρ hd hp W hW=>?_) (fun ρ hp=>e ρ (by rw [YaG] at hp;exact hp)) h
 have hx:x=done.length:=by
  have h1:(List.range n)[done.length]?=some x:=by rw [hd];simp
  have h2:done.length<n:=by have:=congrArg List.length hd;simp at this;omega
  rw [List.getElem?_range h2] at h1;exact(WaP h1).symm
 subst hx;have h2:done.length<n:=by have:=congrArg List.length hd;simp at this;omega
 exact s done.length ρ h2 hp W fun ρ' hp'=>hW ρ' (by rw [YaS];exact hp')
def Jo(p:Nat->Bool):Nat->Nat->Nat
 | i,0=>i
 | i,m+1=>if p i=true then i else Jo p (i+1) m
def z9(n:Nat)(p:Nat->Bool):Nat:=Jo p 1 (n - 1)
theorem zkI(p:Nat->Bool):∀ (m i:Nat),i<=Jo p i m/\Jo p i m<=i+m/\(∀ t,i<=t->t<Jo p i m->p t=false)/\(Jo p i m<i+m->p (Jo p i m)=true):=by
 intro m
 induction m with
 | zero=>intro i;exact⟨YaY _,YaY _,fun t h1 h2=>absurd h2 (by show ¬t<i;omega),fun h=>absurd h (by show ¬i<i+0;omega)⟩
 | succ m ih=>
  intro i;unfold Jo
  by_cases h:p i=true
  . rw [if_pos h];exact⟨YaY _,#[0],fun t h1 h2=>absurd h2 #[0],fun _=>h⟩
  . rw [if_neg h]
    obtain⟨a1,a2,a3,a4⟩:=ih (i+1);refine⟨#[0],#[0],fun t h1 h2=>?_,fun hh=>a4 #[0]⟩
    by_cases e:t=i
    . subst e;simpa using h
    . exact a3 t #[0] h2
theorem zdt{n:Nat}(hn:1<=n)(p:Nat->Bool):1<=z9 n p/\z9 n p<=n/\(∀ t,1<=t->t<z9 n p->p t=false)/\(z9 n p<n->p (z9 n p)=true):=by
 obtain⟨a1,a2,a3,a4⟩:=zkI p (n - 1) 1;exact⟨a1,by unfold z9;omega,a3,fun h=>a4 (by unfold z9 at h;omega)⟩
theorem zdK{n:Nat}(hn:1<=n){p:Nat->Bool}{r:Nat}(h1:1<=r)(h2:r<=n)(h3:∀ t,1<=t->t<r->p t=false)(h4:r<n->p r=true):z9 n p=r:=by
 obtain⟨a1,a2,a3,a4⟩:=zdt hn p
 rcases Nat.lt_trichotomy (z9 n p) r with z|z|z
 . have:=h3 _ a1 z;rw [a4 #[0]] at this;cases this
 . exact z
 . have:=a3 _ h1 z;rw [h4 #[0]] at this;cases this
abbrev Win:=Int×Int×Int×Option Int
def dO:Option Int->D
 | none=>.none
 | some i=>.int i
theorem zkR(f:Bool)(o:Option Int):isNone (Cl.sh f (dO o))=o.isNone:=by cases o<;>rfl
def dW(w:Win):D:=.tuple [.int w.1,.int w.2.1,.int w.2.2.1,dO w.2.2.2]
def winP(n:Nat)(e l:Nat->Bool):Int×Option Int:=(z9 n e,if z9 n l=n then none else some (z9 n l:Nat))
def Jx(n:Nat)(w:Int×Option Int):Prop:=w.1<n\/w.2≠none
def IsW(n:Nat)(k:Int)(W:Int->Int×Option Int):Int->List Win->Prop
 | j,[]=>¬Jx n (W j)
 | j,w::r=>Jx n (W j)/\w=(k,j,(W j).1,(W j).2)/\IsW n k W (j+1) r
def zH(q:List (List Int))(k:Nat):List Int:=q.map fun r=>r.getD k 0
def winB(b:Int)(path:List Int)(room:Int×Int)(j:Int):Int×Option Int:=winP path.length (fun t=>decide (j*b - room.2<=path.getD t 0)) (fun t=>decide ((j - 1)*b+room.1+1<=path.getD t 0))
theorem zkg{b:Int}{path:List Int}{room:Int×Int}{M:Int}(hb:0<b)(h1:1<=path.length)(hp:∀ t,path.getD t 0+room.2<=M*b)(hr:0<=room.2)(hr1:0<=room.1)(j:Int)(h:Jx path.length (winB b path room j)):j<=M+1:=by
 have key:∀ x:Int,x*b<=M*b+b->x<=M+1:=fun x hx=>by
  have:x*b<=(M+1)*b:=by rw [Int.add_mul,Int.one_mul];exact hx
  exact Int.le_of_mul_le_mul_right this hb
 rcases h with h|h
 . obtain⟨_,_,_,a4⟩:=zdt h1 (fun t=>decide (j*b - room.2<=path.getD t 0))
   have := of_decide_eq_true (a4 (by have : ((z9 path.length fun t => decide (j * b - room.2 <= path.getD t 0) : Nat) : Int) < path.length := h
                                     omega))
   have h2:=hp (z9 path.length fun t=>decide (j*b - room.2<=path.getD t 0))
   exact key j #[0]
 . obtain⟨_,a2,_,a4⟩:=zdt h1 (fun t=>decide ((j - 1)*b+room.1+1<=path.getD t 0))
   have hne:z9 path.length (fun t=>decide ((j - 1)*b+room.1+1<=path.getD t 0))≠path.length:=fun z=>h (if_pos z)
   have:=of_decide_eq_true (a4 #[0])
   have h2:=hp (z9 path.length fun t=>decide ((j - 1)*b+room.1+1<=path.getD t 0))
   have h3:(j - 1)*b=j*b - b:=by rw [Int.sub_mul,Int.one_mul]
   exact key j #[0]
def mxO(a y:Int):Int:=if a<y then y else a
def mx(ld:Nat->Nat->Int)(k:Nat):Nat->Int×Int
 | 0=>(0,0)
 | t+1=>(mxO (mx ld k t).1 (-(ld t k)),mxO (mx ld k t).2 (ld t k))
def pr2(p:Int×Int):List D:=[.int p.1,.int p.2]
theorem zdD{α β : Type}(f:α->β){xs:List α}{i:Nat}(h:i<xs.length):atI (xs.map f) (0+(i:Int))=some (f xs[i]):=by
 rw [Wa6];exact jd (by rw [Ya0,YaQ h];rfl)
theorem zls{α : Type}(f:Nat->α)(n i:Nat)(v:α):((List.range n).map f).set i v=(List.range n).map fun k=>if k=i then v else f k:=by
 refine List.ext_getElem (by simp) fun k h1 h2=>?_
 rw [List.getElem_set]
 by_cases e:i=k
 . subst e;simp
 . rw [if_neg e];simp [Wbb e]
theorem zii{W:List (List Win)}{w:Win}(h:w∈W.flatten):∃ k,k<W.length/\w∈W.getD k []:=by
 obtain⟨l,hl,hw⟩:=List.mem_flatten.mp h;obtain⟨k,hk,e⟩:=Yam hl;refine⟨k,hk,?_⟩;rw [YaP,YaQ hk];show w∈W[k];rw [e];exact hw
theorem zio{W:List (List Win)}{w:Win}{k:Nat}(hk:k<W.length)(h:w∈W.getD k []):w∈W.flatten:=by
 rw [YaP,YaQ hk] at h;exact List.mem_flatten.mpr ⟨W[k],Ya4 hk,h⟩
def tk(p:Nat->Bool)(t:Nat):List Nat:=(List.range t).filter p
theorem zeu(ns:List Int):Plain 1 (dI ns):=Plain.list fun d hd=>by
 obtain⟨i,_,rfl⟩:=Ya7.mp hd;exact Plain.int i
theorem zka(s:Spell):Plain 2 (dS s):=Plain.tuple fun d hd=>by
 rcases WaU.mp hd with rfl|hd
 . exact(Plain.int _).mono #[1]
 . rw [Ya6.mp hd];exact zeu _
theorem zkJ(l:List Spell):Plain 3 (dSs l):=Plain.list fun d hd=>by
 obtain⟨s,_,rfl⟩:=Ya7.mp hd;exact zka s
def lowQ(a b:Int):Rat2:=(a/(Int.gcd a b:Int),b/(Int.gcd a b:Int))
theorem zhL{a b:Int}(hb:0<b)(ha:Bits 1100 a)(hB:Bits 1100 b):okQ (lowQ a b):=by
 obtain⟨l1,_,_,_⟩:=zey (a:=a) hb;exact⟨l1,(ha.le (Yay _ _)).mono #[1],(hB.le (Yay _ _)).mono #[1]⟩
theorem zgV{a b:Int}(hb:0<b)(h0:0<=a)(h1:a<=10*b):inQ (lowQ a b):=by
 obtain⟨l1,l2,l3,l4⟩:=zey (a:=a) hb;have hg:=zfE (a:=a) hb;refine⟨Int.ediv_nonneg h0 #[0],?_⟩
 show a/(Int.gcd a b:Int)<=10*(b/(Int.gcd a b:Int))
 generalize (Int.gcd a b:Int)=g at *;generalize a/g=x at *;generalize b/g=y at *;refine Int.le_of_mul_le_mul_right (a:=g) ?_ hg;rw [Int.mul_assoc,l3,l4];exact h1
theorem zbH{α : Type}[DecidableEq α]:∀ {L M:List α},L.Nodup->(∀ x∈L,x∈M)->L.length<=M.length
 | [],_,_,_=>Wa9 _
 | a :: L, M, nd, h => by
  have ha:=h a YaV;have:=zbH (L:=L) (M:=M.erase a) (YaB.mp nd).2 fun x hx=>by
   have hne:x≠a:=fun e=>(YaB.mp nd).1 (e ▸ hx)
   exact(List.mem_erase_of_ne hne).mpr (h x (YaT _ hx))
  rw [List.length_erase_of_mem ha] at this;have h1:0<M.length:=List.length_pos_of_mem ha;rw [List.length_cons];omega
def zlD(t:Int):Option Int->Prop
 | none=>True
 | some x=>t<=x
theorem atI2{α : Type}{x y z:α}{xs:List α}:atI (x::y::z::xs) 2=some z:=jd (j:=2) rfl
theorem atI3{α : Type}{x y z w:α}{xs:List α}:atI (x::y::z::w::xs) 3=some w:=jd (j:=3) rfl
theorem hu65{A:Around}{k:Nat}(hr:Room k A):A.units+65<cLine:=by have:=hr.un;omega
abbrev Rule:=Str×Int×Int
def dRl(r:Rule):D:=.tuple [.str r.1,.int r.2.1,.int r.2.2]
def dRs(rs:List Rule):D:=.list (rs.map dRl)
def okRl(T n:Int)(r:Rule):Prop:=(r.1 = "fixed"\/r.1 = "barred")/\(1<=r.2.1/\r.2.1<=T)/\0<=r.2.2/\r.2.2<n
def okRs(T n:Int)(rs:List Rule):Prop:=∀ r∈rs,okRl T n r
def txtR(rs:List Rule):Prop:=∀ r∈rs,SeqAt.shaped (.str r.1)=true
theorem zZ(t:Tb)(k v k':Int):getM (putM t k v) k'=if k=k' then some v else getM t k':=by
 unfold putM
 split
 . rename_i h
   induction t with
   | nil=>cases h
   | cons p r ih=>
    unfold getM at ih ⊢;rw [Ya1,List.find?_cons,List.find?_cons]
    by_cases e:p.1=k
    . rw [if_pos e]
      by_cases e':k=k'
      . subst e'
        simp [e]
      . have e2:¬p.1=k':=fun z=>e' (e.symm.trans z)
        simp only [e2,decide_false]
        by_cases hr:(r.any fun p=>decide (p.1=k))=true
        . exact ih hr
        . rw [if_neg e']
          have hm:r.map (fun p=>if p.1=k then(p.1,v) else p)=r:=by
           refine(Yat fun p hp=>?_).trans (List.map_id r)
           have:¬p.1=k:=fun z=>hr (WaL.mpr ⟨p,hp,decide_eq_true z⟩)
           rw [if_neg this];rfl
          rw [hm]
    . rw [if_neg e]
      rw [List.any_cons,decide_eq_false e,WaX] at h
      by_cases e':p.1=k'
      . have e2:¬k=k':=fun z=>e (e'.trans z.symm)
        simp [e',e2]
      . simp only [e',decide_false]
        exact ih h
 . rename_i h
   unfold getM;rw [List.find?_append]
   by_cases e:k=k'
   . subst e
     have:t.find? (fun p=>decide (p.1=k))=none:=Was.mpr fun p hp z=>h (WaL.mpr ⟨p,hp,z⟩)
     rw [this];simp
   . rw [if_neg e]
     have:([(k,v)]:Tb).find? (fun p=>decide (p.1=k'))=none:=by simp [e]
     rw [this,Option.or_none]
theorem zbE{t:Tb}{k v:Int}(h:getM t k=some v):(k,v)∈t:=by
 unfold getM at h;cases e:t.find? (fun p=>decide (p.1=k)) with
 | none=>rw [e] at h;cases h
 | some r=>
  rw [e] at h;have h1:=List.mem_of_find?_eq_some e;have h2:=List.find?_some e;have h3:r.1=k:=of_decide_eq_true h2;have h4:r.2=v:=WaP h;rw [<-h3,<-h4];exact h1
def InR(x:Int)(A:Nat):Prop:=0<=x/\x<(A:Int)
theorem Zg{L:List Int}{A:Nat}(nd:L.Nodup)(h:∀ x∈L,InR x A):L.length<=A:=by
 have:=zbH (M:=(List.range A).map fun i:Nat=>(i:Int)) nd fun x hx=>by
  obtain⟨h0,h1⟩:=h x hx;exact Ya7.mpr ⟨x.toNat,Yba.mpr #[0],#[0]⟩
 simpa using this
structure TbOk(t:Tb)(A B:Nat):Prop where
 nd:(t.map (·.1)).Nodup
 inn:∀ p∈t,InR p.1 A/\InR p.2 B
theorem TbOk.nil(A B:Nat):TbOk [] A B:=⟨WaS,fun p h=>by cases h⟩
theorem TbOk.len{t:Tb}{A B:Nat}(h:TbOk t A B):t.length<=A:=by
 have:=Zg h.nd fun x hx=>by
  obtain⟨p,hp,rfl⟩:=Ya7.mp hx;exact(h.inn p hp).1
 simpa using this
theorem TbOk.get{t:Tb}{A B:Nat}(h:TbOk t A B){k v:Int}(e:getM t k=some v):InR k A/\InR v B:=h.inn _ (zbE e)
theorem zhw(t:Tb)(k v:Int):(putM t k v).map (·.1)=if k∈t.map (·.1) then t.map (·.1) else t.map (·.1)++[k]:=by
 have ha:((t.any fun p=>decide (p.1=k))=true)↔k∈t.map (·.1):=by
  rw [WaL,Ya7];exact⟨fun⟨p,h1,h2⟩=>⟨p,h1,of_decide_eq_true h2⟩,fun⟨p,h1,h2⟩=>⟨p,h1,decide_eq_true h2⟩⟩
 unfold putM
 by_cases h:k∈t.map (·.1)
 . rw [if_pos (ha.mpr h),if_pos h,YaD]
   refine Yat fun p _=>?_
   show(if p.1=k then(p.1,v) else p).1=p.1
   split<;>rfl
 . rw [if_neg (fun z=>h (ha.mp z)),if_neg h,Ya2];rfl
theorem TbOk.put{t:Tb}{A B:Nat}(h:TbOk t A B){k v:Int}(hk:InR k A)(hv:InR v B):TbOk (putM t k v) A B:=by
 refine⟨?_,fun p hp=>?_⟩
 . rw [zhw]
   split
   . exact h.nd
   . rename_i n
     exact Wax.mpr ⟨h.nd,by simp,fun a ha b hb z=>n (by rw [Ya6.mp hb] at z;rw [<-z];exact ha)⟩
 . unfold putM at hp
   split at hp
   . obtain⟨q,hq,rfl⟩:=Ya7.mp hp
     have:=h.inn q hq
     split
     . exact⟨this.1,hv⟩
     . exact this
   . rcases Ya3.mp hp with z|z
     . exact h.inn p z
     . rw [Ya6.mp z];exact⟨hk,hv⟩
theorem ziZ{t:Tb}{k v:Int}(h:getM t k=none):(putM t k v).length=t.length+1:=by
 unfold putM;rw [if_neg,YaS]
 . rfl
 . intro z
   obtain⟨p,hp,e⟩:=WaL.mp z;have e:p.1=k:=of_decide_eq_true e;unfold getM at h;have:(t.find? fun p=>decide (p.1=k)).isSome=true:=List.find?_isSome.mpr ⟨p,hp,decide_eq_true e⟩
   cases y:t.find? (fun p=>decide (p.1=k)) with
   | none=>rw [y] at this;cases this
   | some r=>rw [y] at h;cases h
def Mat(t h:Tb):Prop:=∀ s c,getM t s=some c↔getM h c=some s
def MatB(t h:Tb)(c:Int):Prop:=(∀ s x,x≠c->(getM t s=some x↔getM h x=some s))/\∀ s,getM t s≠some c
theorem MatB.step{t h:Tb}{c s:Int}(m:MatB t h c):(getM t s=none->Mat (putM t s c) (putM h c s))/\∀ c',getM t s=some c'->MatB (putM t s c) (putM h c s) c':=by
 obtain⟨m1,m2⟩:=m
 constructor
 . intro e s' x
   rw [zZ,zZ]
   by_cases hx:c=x
   . subst hx
     rw [if_pos rfl]
     by_cases hs:s=s'
     . subst hs;rw [if_pos rfl];simp
     . rw [if_neg hs]
       exact⟨fun z=>absurd z (m2 s'),fun z=>absurd (WaP z) hs⟩
   . rw [if_neg hx]
     by_cases hs:s=s'
     . subst hs
       rw [if_pos rfl];refine⟨fun z=>absurd (WaP z) hx,fun z=>?_⟩
       have:=(m1 s x (Wbb hx)).mpr z;rw [e] at this;cases this
     . rw [if_neg hs];exact m1 s' x (Wbb hx)
 . intro c' e
   have hc:c'≠c:=fun z=>m2 s (z ▸ e)
   refine⟨fun s' x hx'=>?_,fun s' z=>?_⟩
   . rw [zZ,zZ]
     by_cases hx:c=x
     . subst hx
       rw [if_pos rfl]
       by_cases hs:s=s'
       . subst hs;rw [if_pos rfl];simp
       . rw [if_neg hs]
         exact⟨fun z=>absurd z (m2 s'),fun z=>absurd (WaP z) hs⟩
     . rw [if_neg hx]
       by_cases hs:s=s'
       . subst hs
         rw [if_pos rfl];refine⟨fun z=>absurd (WaP z) hx,fun z=>?_⟩
         have:=(m1 s x (Wbb hx)).mpr z;rw [e] at this;exact absurd (WaP this).symm hx'
       . rw [if_neg hs];exact m1 s' x (Wbb hx)
   . rw [zZ] at z
     by_cases hs:s=s'
     . rw [if_pos hs] at z
       exact hc (WaP z).symm
     . rw [if_neg hs] at z
       have z1:=(m1 s' c' hc).mp z;rw [(m1 s c' hc).mp e] at z1;exact hs (WaP z1)
structure Way(Ed:Int->Int->Prop)(ca t:Tb)(r:Int->Nat)(start:Int)(A B:Nat):Prop where
 inn:∀ c s,getM ca c=some s->InR s A/\InR c B
 ed:∀ c s,getM ca c=some s->Ed s c
 back:∀ c s c',getM ca c=some s->getM t s=some c'->∃ s',getM ca c'=some s'/\r s'<r s
 first:∀ c s,getM ca c=some s->getM t s=none->s=start
structure Moved(Ed:Int->Int->Prop)(t h t' h':Tb)(start:Int)(A B:Nat):Prop where
 ed:∀ s c,getM t' s=some c->Ed s c
 mat:Mat t' h'
 ot:TbOk t' A B
 oh:TbOk h' B A
 dt:∀ s,(getM t' s).isSome=true↔(getM t s).isSome=true\/s=start
 dh:∀ c,(getM h c).isSome=true->(getM h' c).isSome=true
structure OnWay(Ed:Int->Int->Prop)(ca t0 h0 t h:Tb)(r:Int->Nat)(c:Int)(A B m:Nat):Prop where
 ed:∀ s c,getM t s=some c->Ed s c
 mat:MatB t h c
 ot:TbOk t A B
 oh:TbOk h B A
 came:∃ s,getM ca c=some s/\r s=m
 same:∀ s,r s<=m->getM t s=getM t0 s
 dt:∀ s,(getM t s).isSome=true↔(getM t0 s).isSome=true
 dh:∀ c,(getM h0 c).isSome=true->(getM h c).isSome=true
theorem OnWay.step{Ed:Int->Int->Prop}{ca t0 h0 t h:Tb}{r:Int->Nat}{c start:Int}{A B m:Nat}(w:Way Ed ca t0 r start A B)(o:OnWay Ed ca t0 h0 t h r c A B m){s:Int}(hs:getM ca c=some s):(getM t s=none->Moved Ed t0 h0 (putM t s c) (putM h c s) start A B)/\∀ c',getM t s=some c'->∃ m',m'<m/\OnWay Ed ca t0 h0 (putM t s c) (putM h c s) r c' A B m':=by
 have ed':∀ s' c',getM (putM t s c) s'=some c'->Ed s' c':=fun s' c' e=>by
  rw [zZ] at e
  split at e
  . rename_i z
    rw [<-WaP e,<-z];exact w.ed c s hs
  . exact o.ed s' c' e
 obtain⟨i1,i2⟩:=w.inn c s hs;have hrm:r s=m:=by
  obtain⟨s',e,h⟩:=o.came;rw [hs] at e;rw [WaP e];exact h
 have ts:getM t s=getM t0 s:=o.same s #[0]
 have dh':∀ x,(getM h0 x).isSome=true->(getM (putM h c s) x).isSome=true:=fun x hx=>by
  rw [zZ]
  split
  . rfl
  . exact o.dh x hx
 constructor
 . intro e
   have e0:s=start:=w.first c s hs (ts ▸ e);refine⟨ed',(o.mat.step).1 e,o.ot.put i1 i2,o.oh.put i2 i1,fun x=>?_,dh'⟩
   rw [zZ]
   by_cases hx:s=x
   . rw [if_pos hx];exact⟨fun _=>.inr (hx.symm.trans e0),fun _=>rfl⟩
   . rw [if_neg hx,o.dt x]
     exact⟨.inl,fun z=>z.elim id fun y=>absurd (e0.trans y.symm) hx⟩
 . intro c' e
   obtain⟨s',h1,h2⟩:=w.back c s c' hs (ts ▸ e);refine⟨r s',#[0],ed',(o.mat.step).2 c' e,o.ot.put i1 i2,o.oh.put i2 i1,⟨s',h1,rfl⟩,fun x hx=>?_,fun x=>?_,dh'⟩
   . have:s≠x:=fun z=>by rw [<-z] at hx;omega
     rw [zZ,if_neg this];exact o.same x #[0]
   . rw [zZ]
     by_cases hx:s=x
     . rw [if_pos hx,<-hx,<-ts,e]
       exact⟨fun _=>rfl,fun _=>rfl⟩
     . rw [if_neg hx];exact o.dt x
structure Rea(Ed:Int->Int->Prop)(start:Int)(t h ca:Tb)(R:List Int)(A B:Nat):Prop where
 ed:∀ c s,getM ca c=some s->Ed s c
 nd:R.Nodup
 hd:R[0]?=some start
 inn:∀ x∈R,InR x A
 oc:TbOk ca B A
 len:R.length=ca.length+1
 from_:∀ c s,getM ca c=some s->s∈R
 by_:∀ (i:Nat) (x:Int),R[i]?=some x->i=0\/∃ c s,∃ j:Nat,getM t x=some c/\getM ca c=some s/\R[j]?=some s/\j<i
theorem Rea.start{Ed:Int->Int->Prop}{start:Int}{t h:Tb}{A B:Nat}(hs:InR start A):Rea Ed start t h [] [start] A B:=by
 refine⟨fun c s e=>(by cases e),by simp,rfl,fun x hx=>by rw [Ya6.mp hx];exact hs,TbOk.nil B A,rfl,fun c s e=>(by cases e),fun i x e=>?_⟩
 cases i with
 | zero=>exact .inl rfl
 | succ i=>simp at e
theorem Rea.more{Ed:Int->Int->Prop}{start:Int}{t h ca:Tb}{R:List Int}{A B:Nat}(r:Rea Ed start t h ca R A B)(m:Mat t h)(h0:getM t start=none){c s x:Int}(hs:s∈R)(he:Ed s c)(hc:InR c B)(hn:getM ca c=none)(hx:getM h c=some x)(oh:TbOk h B A):Rea Ed start t h (putM ca c s) (R++[x]) A B:=by
 have tx:getM t x=some c:=(m x c).mpr hx;have ix:InR x A:=(oh.get hx).2;have keep:∀ d,d≠c->getM (putM ca c s) d=getM ca d:=fun d hd=>by rw [zZ,if_neg (Wbb hd)]
 have nx:x∉R:=fun z=>by
  obtain⟨i,hi,e⟩:=Yam z;have e:R[i]?=some x:=by rw [YaQ hi,e]
  rcases r.by_ i x e with y|⟨d,s',j,g1,g2,_⟩
  . subst y
    rw [r.hd] at e;rw [<-WaP e,h0] at tx;cases tx
  . rw [tx] at g1
    rw [<-WaP g1,hn] at g2;cases g2
 refine⟨fun d s' e=>?_,Wax.mpr ⟨r.nd,by simp,fun a ha b hb z=>nx (by rw [Ya6.mp hb] at z;rw [<-z];exact ha)⟩,?_,fun y hy=>?_,r.oc.put hc (r.inn s hs),?_,fun d s' e=>?_,fun i y e=>?_⟩
 . rw [zZ] at e
   split at e
   . rename_i z
     rw [<-WaP e,<-z];exact he
   . exact r.ed d s' e
 . rw [Yab (by have:=r.len;omega)];exact r.hd
 . rcases Ya3.mp hy with z|z
   . exact r.inn y z
   . rw [Ya6.mp z];exact ix
 . rw [ziZ hn,YaS,r.len];rfl
 . rw [zZ] at e
   split at e
   . exact Yai _ (by rw [<-WaP e];exact hs)
   . exact Yai _ (r.from_ d s' e)
 . by_cases hi:i<R.length
   . rw [Yab hi] at e
     rcases r.by_ i y e with z|⟨d,s',j,g1,g2,g3,g4⟩
     . exact .inl z
     . refine .inr ⟨d,s',j,g1,?_,?_,g4⟩
       . rw [keep d fun z=>by rw [z,hn] at g2;cases g2];exact g2
       . rw [Yab #[0]];exact g3
   . have hi':i=R.length:=by
      have:=(Ya8.mp e).1;rw [YaS,List.length_singleton] at this
      omega
     subst hi';rw [Yae (YaY _),Wa7] at e;have e:x=y:=WaP e;subst e;obtain⟨j,hj,ej⟩:=Yam hs;refine .inr ⟨c,s,j,tx,by rw [zZ,if_pos rfl],?_,hj⟩
     rw [Yab hj,YaQ hj,ej]
theorem Rea.seen{Ed:Int->Int->Prop}{start:Int}{t h ca:Tb}{R:List Int}{A B:Nat}(r:Rea Ed start t h ca R A B)(h0:getM t start=none){c s:Int}(hs:s∈R)(he:Ed s c)(hc:InR c B)(hn:getM ca c=none):Way Ed (putM ca c s) t (fun x=>R.idxOf x) start A B:=by
 have inR:∀ d s',getM (putM ca c s) d=some s'->s'∈R/\InR d B:=fun d s' e=>by
  rw [zZ] at e
  split at e
  . rename_i z
    rw [<-WaP e,<-z];exact⟨hs,hc⟩
  . exact⟨r.from_ d s' e,(r.oc.get e).1⟩
 have ix:∀ (i:Nat) x,R[i]?=some x->R.idxOf x=i:=fun i x e=>by
  obtain⟨hi,e⟩:=Ya8.mp e;rw [<-e];exact r.nd.idxOf_getElem i hi
 have at_:∀ x∈R,getM t x≠none->∃ d s' j,getM t x=some d/\getM ca d=some s'/\R[j]?=some s'/\j<R.idxOf x:=fun x hx hne=>by
  obtain⟨i,hi,e⟩:=Yam hx;have e:R[i]?=some x:=by rw [YaQ hi,e]
  rcases r.by_ i x e with y|⟨d,s',j,g1,g2,g3,g4⟩
  . subst y
    rw [r.hd] at e;rw [<-WaP e] at hne;exact absurd h0 hne
  . exact⟨d,s',j,g1,g2,g3,by rw [ix i x e];exact g4⟩
 refine⟨fun d s' e=>⟨r.inn s' (inR d s' e).1,(inR d s' e).2⟩,fun d s' e=>?_,fun d s' c' e e'=>?_,fun d s' e e'=>?_⟩
 . rw [zZ] at e
   split at e
   . rename_i z
     rw [<-WaP e,<-z];exact he
   . exact r.ed d s' e
 . obtain⟨d',s'',j,g1,g2,g3,g4⟩:=at_ s' (inR d s' e).1 (by rw [e'];simp)
   rw [e'] at g1;rw [<-WaP g1] at g2;refine⟨s'',?_,?_⟩
   . rw [zZ,if_neg fun z=>by rw [<-z,hn] at g2;cases g2];exact g2
   . show R.idxOf s''<R.idxOf s'
     rw [ix j s'' g3];exact g4
 . rcases Classical.em (s'=start) with z|z
   . exact z
   . exfalso
     obtain⟨i,hi,ei⟩:=Yam (inR d s' e).1;have ei:R[i]?=some s':=by rw [YaQ hi,ei]
     rcases r.by_ i s' ei with y|⟨d',s'',j,g1,_⟩
     . subst y
       rw [r.hd] at ei;exact z (WaP ei).symm
     . rw [e'] at g1;cases g1
theorem Mat.free{t h:Tb}(m:Mat t h){c:Int}(e:getM h c=none):MatB t h c:=⟨fun s x _=>m s x,fun s z=>by rw [(m s c).mp z] at e;cases e⟩
theorem zbc{t:Tb}{k:Int}(h:(getM t k).isSome=true):k∈t.map (·.1):=by
 obtain⟨v,hv⟩:=Wae.mp h;exact Ya7.mpr ⟨(k,v),zbE hv,rfl⟩
theorem zfY(k j:List Key)(d:D):∀ ds:List (List Key×D),getT (ds.map fun kv=>if kv.1=k then(kv.1,d) else kv) j=if j=k then(if(ds.any fun kv=>decide (kv.1=k))=true then some d else none) else getT ds j
 | []=>by split<;>rfl
 | (k', d') :: ds => by
  have ih:=zfY k j d ds;rw [Ya1,List.any_cons]
  by_cases e:k'=k
  . rw [if_pos e]
    by_cases ej:j=k
    . rw [if_pos ej]
      have:(k'=j):=e.trans ej.symm;subst this;rw [Jz]
      simp [e]
    . rw [if_neg ej,j7 (fun z=>ej (z.symm.trans e)),j7 (fun z=>ej (z.symm.trans e)),ih,if_neg ej]
  . rw [if_neg e]
    by_cases ej:j=k
    . rw [if_pos ej] at ih ⊢
      rw [j7 (fun z=>e (z.trans ej)),ih,decide_eq_false e,WaX]
    . rw [if_neg ej] at ih ⊢
      by_cases e2:k'=j
      . subst e2;rw [Jz,Jz]
      . rw [j7 e2,j7 e2,ih]
theorem zeB(k j:List Key)(d:D):∀ ds:List (List Key×D),(ds.any fun kv=>decide (kv.1=k))=false->getT (ds++[(k,d)]) j=if j=k then some d else getT ds j
 | [], _ => by
  by_cases ej:j=k
  . subst ej;rw [if_pos rfl];exact Jz
  . rw [if_neg ej,List.nil_append,j7 (fun z=>ej z.symm)]
 | (k', d') :: ds, h => by
  rw [List.any_cons,Bool.or_eq_false_iff] at h;have ih:=zeB k j d ds h.2;have e:¬k'=k:=of_decide_eq_false h.1;rw [List.cons_append]
  by_cases e2:k'=j
  . subst e2;rw [Jz,Jz,if_neg e]
  . rw [j7 e2,j7 e2,ih]
theorem ziE(ds:List (List Key×D))(k j:List Key)(d:D):getT (putT ds k d) j=if j=k then some d else getT ds j:=by
 unfold putT
 split
 . rename_i h;rw [zfY,if_pos h]
 . rename_i h;exact zeB k j d ds (Bool.eq_false_iff.mpr h)
theorem zcN{α : Type}{g:TG3}{tt:TT3}{te:TE3}{f:Bool}(enc out:α->D)(R:Env3->Prop):∀ (xs:List α),(∀ x∈xs,∀ ρ fa acc (K:Bool->List D->Env3->Prop),R ρ->(∀ ρ',R ρ'->K fa (acc++[out x]) ρ')->(∀ ρ',R ρ'->K fa acc ρ')->
 g f (enc x) ρ fun ρ'=>tt ρ' fun k=>if k=true then te ρ' fun c=>asS c fun fy y=>K (fa&&fy) (acc++[y]) ρ' else K fa acc ρ')->∀ fa acc ρ (Q:Bool->List D->Prop),R ρ->(∀ ys:List α,ys.Sublist xs->Q fa (acc++ys.map out))->jJ g tt te f (xs.map enc) fa acc ρ Q
 | [], _, fa, acc, ρ, Q, _, q => by
  have:=q [] (List.Sublist.refl _);rw [Wa4,Yao] at this;exact this
 | x :: xs, s, fa, acc, ρ, Q, hR, q => s x YaV ρ fa acc (fun fa acc ρ' => jJ g tt te f (xs.map enc) fa acc ρ' Q) hR
  (fun ρ' hR'=>zcN enc out R xs (fun y hy=>s y (YaT _ hy)) fa (acc++[out x]) ρ' Q hR' fun ys hys=>by
   have:=q (x::ys) (hys.cons₂ x);rw [Yag];exact this)
  fun ρ' hR'=>zcN enc out R xs (fun y hy=>s y (YaT _ hy)) fa acc ρ' Q hR' fun ys hys=>q ys (hys.cons x)
theorem zgf{g:TG3}{f:Bool}{d:D}{ρ : Env3}{P:Env3->Prop}(h:∀ N:Env3->Prop,(∀ ρ',P ρ'->N ρ')->g f d ρ N):g f d ρ P:=h P fun _ z=>z
theorem Mat.symm{t h:Tb}(m:Mat t h):Mat h t:=fun s c=>(m c s).symm
theorem zju{ds:List (List Key×D)}{k:List Key}{d:D}(h:(ds.all fun p=>zw p.2)=true)(hd:zw d=true):((putT ds k d).all fun p=>zw p.2)=true:=by
 rw [WaK] at h ⊢;intro p hp;unfold putT at hp
 split at hp
 . obtain⟨q,hq,rfl⟩:=Ya7.mp hp
   split
   . exact hd
   . exact h q hq
 . rcases Ya3.mp hp with z|z
   . exact h p z
   . rw [Ya6.mp z];exact hd
theorem zkn(ds:List (List Key×D))(k:List Key)(d:D):(putT ds k d).length<=ds.length+1:=by
 unfold putT
 split
 . rw [YaR];omega
 . rw [YaS];simp
theorem zhR:SeqAt.shaped (.tuple [.str "fixed", .str "barred"])=true:=#[3]
theorem ze7(x:Str):((([PyData.str "fixed", PyData.str "barred"]:List D).any fun y=>PyData.eqv y (.str x))=false)↔¬(x = "fixed"\/x = "barred"):=by
 have e:∀ a:Str,PyData.eqv (.str a) (.str x)=decide (x=a):=fun a=>by
  by_cases h:x=a
  . subst h;simp [PyData.eqv]
  . rw [decide_eq_false h]
    have:¬a=x:=fun z=>h z.symm
    simp [PyData.eqv,this]
 rw [List.any_cons,List.any_cons,List.any_nil,WaV,e,e]
 by_cases h1:x = "fixed"
 . simp [h1]
 . by_cases h2:x = "barred"
   . simp [h2]
   . simp [h1,h2]
theorem zd9(V:List Win):jN (V.map dW)=(List.range V.length).map fun i=>PyData.tuple [PyData.int (i:Nat),dW (V.getD i (0,0,0,none))]:=by
 unfold jN;rw [YaR];refine Yat fun i hi=>?_
 have hi:=Yba.mp hi;rw [YaP,Ya0,YaP,YaQ hi];rfl
theorem zkE(ch:List (List Int)):jN (ch.map dI)=(List.range ch.length).map fun i=>PyData.tuple [PyData.int (i:Nat),dI (ch.getD i [])]:=by
 unfold jN;rw [YaR];refine Yat fun i hi=>?_
 have hi:=Yba.mp hi;rw [YaP,Ya0,YaP,YaQ hi];rfl
theorem zeR{α : Type}{L:List α}{i:Nat}{d:α}(h:i<L.length):L.getD i d∈L:=by
 rw [YaP,YaQ h];exact Ya4 _
theorem zbt{α : Type}{L:List α}{x:Int}{d:α}(h:InR x L.length):atI L x=some (L.getD x.toNat d)/\L.getD x.toNat d∈L:=by
 have hx:x.toNat<L.length:=by have:=h.1;have:=h.2;omega
 refine⟨?_,zeR hx⟩
 have:=jd (xs:=L) (j:=x.toNat) (YaQ hx);rw [show((x.toNat:Nat):Int)=x by have:=h.1;omega] at this
 rw [this,YaP,YaQ hx];rfl
def zcr(rs:List Rule)(t k:Int):Prop:=∃ r∈rs,r.2.1=t/\(k=r.2.2↔r.1 = "barred")
def zdg(rs:List Rule)(n:Nat)(ds:List (List Key×D)):Prop:=∀ t k:Int,0<=k->k<(n:Int)->((getT ds (kk t k)).isSome=true↔zcr rs t k)
theorem zdg.nil(n:Nat):zdg [] n []:=fun t k _ _=>⟨fun z=>(by cases z),fun⟨r,h,_⟩=>(by cases h)⟩
def Ju(rs:List Rule)(r:Rule)(n j:Nat)(ds:List (List Key×D)):Prop:=∀ t k:Int,0<=k->k<(n:Int)->((getT ds (kk t k)).isSome=true↔zcr rs t k\/(k<(j:Int)/\r.2.1=t/\(k=r.2.2↔r.1 = "barred")))
theorem Ju.whole{rs:List Rule}{r:Rule}{n:Nat}{ds:List (List Key×D)}(h:Ju rs r n n ds):zdg (rs++[r]) n ds:=fun t k h0 h1=>by
 rw [h t k h0 h1]
 constructor
 . rintro(⟨x,hx,e⟩|⟨_,e⟩)
   . exact⟨x,Yai _ hx,e⟩
   . exact⟨r,by simp,e⟩
 . rintro⟨x,hx,e⟩
   rcases Ya3.mp hx with z|z
   . exact .inl ⟨x,z,e⟩
   . rw [Ya6.mp z] at e;exact .inr ⟨h1,e⟩
theorem zg2{a b c d:Int}(h:kk a b=kk c d):a=c/\b=d:=by
 unfold kk at h
 injection h with h1 h2
 injection h2 with h2 _
 exact⟨Sum.inl.inj h1,Sum.inl.inj h2⟩
theorem zfP(a b:Bool):(PyData.eqv (.bool a) (.bool b)=true)↔a=b:=by cases a<;>cases b<;>decide +kernel
theorem Ju.put{rs:List Rule}{r:Rule}{n j:Nat}{ds:List (List Key×D)}(h:Ju rs r n j ds)(e:PyData.eqv (.bool (decide (0+(j:Int)=r.2.2))) (.bool (decide (r.1 = "barred")))=true):Ju rs r n (j+1) (putT ds (kk r.2.1 (0+(j:Int))) (.bool true)):=fun t k h0 h1=>by
 have e':(j:Int)=r.2.2↔r.1 = "barred":=by
  have:=(zfP _ _).mp e;rw [Wa6] at this;rw [decide_eq_decide] at this;exact this
 rw [ziE,Wa6]
 by_cases z:kk t k=kk r.2.1 (j:Int)
 . rw [if_pos z]
   obtain⟨z1,z2⟩:=zg2 z;subst z2;exact⟨fun _=>.inr ⟨#[0],z1.symm,e'⟩,fun _=>rfl⟩
 . rw [if_neg z,h t k h0 h1]
   constructor
   . rintro(y|⟨y1,y2⟩)
     . exact .inl y
     . exact .inr ⟨#[0],y2⟩
   . rintro(y|⟨y1,y2,y3⟩)
     . exact .inl y
     . refine .inr ⟨?_,y2,y3⟩
       have:k≠(j:Int):=fun w=>z (by rw [w,y2])
       omega
theorem Ju.skip{rs:List Rule}{r:Rule}{n j:Nat}{ds:List (List Key×D)}(h:Ju rs r n j ds)(e:¬PyData.eqv (.bool (decide (0+(j:Int)=r.2.2))) (.bool (decide (r.1 = "barred")))=true):Ju rs r n (j+1) ds:=fun t k h0 h1=>by
 have e':¬((j:Int)=r.2.2↔r.1 = "barred"):=fun w=>e ((zfP _ _).mpr (by rw [Wa6,decide_eq_decide];exact w))
 rw [h t k h0 h1]
 constructor
 . rintro(y|⟨y1,y2⟩)
   . exact .inl y
   . exact .inr ⟨#[0],y2⟩
 . rintro(y|⟨y1,y2,y3⟩)
   . exact .inl y
   . refine .inr ⟨?_,y2,y3⟩
     have:k≠(j:Int):=fun w=>e' (w ▸ y3)
     omega
def TvOk(m:Nat)(ch:List (List Int))(k:Nat)(done:List Int)(tv:List (List Int)):Prop:=∀ i,i<m->∀ j:Nat,((j:Int)∈tv.getD i []↔(j<k/\(i:Int)∈ch.getD j [])\/(j=k/\(i:Int)∈done))
theorem TvOk.nil(m:Nat)(ch:List (List Int)):TvOk m ch 0 [] (List.replicate m []):=fun i hi j=>by
 rw [YaP,Yad,if_pos hi];exact⟨fun z=>(by cases z),fun z=>z.elim (fun y=>absurd y.1 (Nat.not_lt_zero _)) fun y=>(by cases y.2)⟩
theorem TvOk.step{m:Nat}{ch:List (List Int)}{k:Nat}{done:List Int}{tv:List (List Int)}(h:TvOk m ch k done tv){x:Int}(hx:InR x tv.length)(hl:tv.length=m):TvOk m ch k (done++[x]) (tv.set x.toNat (tv.getD x.toNat []++[(k:Int)])):=fun i hi j=>by
 have hxl:x.toNat<tv.length:=by have:=hx.1;have:=hx.2;omega
 have hx0:=hx.1;rw [YaP,List.getElem?_set]
 by_cases e:x.toNat=i
 . subst e
   rw [if_pos rfl,if_pos hxl];show(j:Int)∈tv.getD x.toNat []++[(k:Int)]↔_;rw [Ya3,h x.toNat hi j,Ya6]
   constructor
   . rintro((y|y)|y)
     . exact .inl y
     . exact .inr ⟨y.1,Yai _ y.2⟩
     . exact .inr ⟨#[0],by rw [show((x.toNat:Nat):Int)=x by omega];simp⟩
   . rintro(y|⟨y1,y2⟩)
     . exact .inl (.inl y)
     . exact .inr #[0]
 . rw [if_neg e,<-YaP,h i hi j]
   constructor
   . rintro(y|y)
     . exact .inl y
     . exact .inr ⟨y.1,Yai _ y.2⟩
   . rintro(y|⟨y1,y2⟩)
     . exact .inl y
     . rcases Ya3.mp y2 with z|z
       . exact .inr ⟨y1,z⟩
       . have:=Ya6.mp z;omega
theorem TvOk.whole{m:Nat}{ch:List (List Int)}{k:Nat}{row:List Int}{tv:List (List Int)}(h:TvOk m ch k row tv)(e:ch.getD k []=row):TvOk m ch (k+1) [] tv:=fun i hi j=>by
 rw [h i hi j]
 constructor
 . rintro(y|⟨y1,y2⟩)
   . exact .inl ⟨#[0],y.2⟩
   . subst y1;exact .inl ⟨#[0],by rw [e];exact y2⟩
 . rintro(⟨y1,y2⟩|y)
   . by_cases z:j<k
     . exact .inl ⟨z,y2⟩
     . have:j=k:=#[0]
       subst this;exact .inr ⟨rfl,by rw [<-e];exact y2⟩
   . cases y.2
theorem TvOk.fin{m:Nat}{ch:List (List Int)}{tv:List (List Int)}(h:TvOk m ch ch.length [] tv):∀ i,i<m->∀ j,j<ch.length->((j:Int)∈tv.getD i []↔(i:Int)∈ch.getD j []):=fun i hi j hj=>by
 rw [h i hi j];exact⟨fun z=>z.elim (·.2) fun y=>(by cases y.2),fun z=>.inl ⟨hj,z⟩⟩
theorem zde{c:TT3}{ρ : Env3}{P R:Prop}(h:∀ Y N:Prop,(P->Y)->(R->N)->c ρ fun k=>if k=true then Y else N):c ρ fun k=>if k=true then P else R:=h P R id id
def z4:Win:=(0,0,0,none)
def zhN(V:List Win)(ch:List (List Int))(d:D):Prop:=(∃ f:Nat->Nat,(∀ k,k<ch.length->f k<V.length/\((f k:Nat):Int)∈ch.getD k [])/\(∀ i j,i<ch.length->j<ch.length->f i=f j->i=j)/\∃ x,d=.tuple [.str "row", x])\/∃ (s:Str) (x:D),(s = "visits"\/s = "turns")/\d=.tuple [.str s,x]
theorem zkK{l:List Nat}(h:l.Nodup):(l.map fun i:Nat=>(i:Int)).Nodup:=by
 rw [Wac,WaB];exact(Wac.mp h).imp fun {a b} hab e=>hab #[0]
theorem zfs{V:List Win}{ch:List (List Int)}{t h:Tb}(hm:Mat t h)(hh:TbOk h ch.length V.length)(hhe:∀ s c,getM h s=some c->c∈ch.getD s.toNat [])(hd:∀ k:Int,0<=k->k<(ch.length:Int)->(getM h k).isSome=true) :
 (∀ k,k<ch.length->((getM h (0+(k:Int))).getD 0).toNat<V.length/\((((getM h (0+(k:Int))).getD 0).toNat:Nat):Int)∈ch.getD k [])/\(∀ i j,i<ch.length->j<ch.length->((getM h (0+(i:Int))).getD 0).toNat=((getM h (0+(j:Int))).getD 0).toNat->i=j):=by
 have key:∀ k,k<ch.length->∃ y,getM h (0+(k:Int))=some y/\InR y V.length:=fun k hk=>by
  obtain⟨y,hy⟩:=Wae.mp (hd (0+(k:Int)) #[0] #[0])
  exact⟨y,hy,(hh.get hy).2⟩
 refine⟨fun k hk=>?_,fun i j hi hj e=>?_⟩
 . obtain⟨y,hy,y0,y1⟩:=key k hk
   rw [hy];show y.toNat<_/\((y.toNat:Nat):Int)∈_;have:=hhe _ _ hy;rw [show(0+(k:Int)).toNat=k by omega] at this
   exact⟨#[0],by rw [show((y.toNat:Nat):Int)=y by omega];exact this⟩
 . obtain⟨y,hy,y0,y1⟩:=key i hi
   obtain⟨z,hz,z0,z1⟩:=key j hj;rw [hy,hz] at e;have e:y.toNat=z.toNat:=e;have e2:y=z:=#[0]
   subst e2;have a1:=(hm y _).mpr hy;rw [(hm y _).mpr hz] at a1;have:=WaP a1
   omega
theorem zgu{α : Type}(m:List α)(x:α)(at_:Int):x∈m.take at_.toNat++[x]++m.drop (at_+1).toNat:=by simp
theorem zi3{l:List Spell}{at_:Int}{Q:Bool->D->Prop}(hsz:∀ n:Nat,n<=1000->n<=sizeLine)(hat0:0<=at_)(hl:l.length<=8)(q:∀ f l',¬okS l'->l'.length<=100->Q f (dSs l')):∀ (m:List Spell) (x:Spell),m.length<=9->at_<m.length->¬okS (m.take at_.toNat++[x]++m.drop (at_+1).toNat)->(cut (m.map dS) none (some at_)).length+1<=sizeLine/\(cut (m.map dS) none (some at_)++[dS x]).length+(cut (m.map dS) (some (at_+1)) none).length<=sizeLine/\∀ f,Q f (PyData.list (cut (m.map dS) none (some at_)++[dS x]++cut (m.map dS) (some (at_+1)) none)):=fun m x hm9 hm hno=>by
 rw [jY,jY,zbf m hat0 #[0],JV m #[0] #[0]]
 refine⟨hsz _ #[6],hsz _ #[6],fun f=>?_⟩
 have:=q f _ hno #[6]
 simpa [dSs,Ya2] using this
theorem zh4(ws:List Int):(ws.map fun _=>(0:Int)).sum=0:=by
 induction ws with
 | nil=>rfl
 | cons a r ih=>rw [Ya1,List.sum_cons,ih];rfl
theorem zi0{l:List Spell}{s:Spell}(hs:s∈l)(h:¬(1<=s.1/\okW s.2)):¬okS l:=fun z=>h ⟨(z.2.1 s hs).1,(z.2.1 s hs).2.1⟩
theorem zkj{l:List Spell}{s t:Spell}(hs:s∈l)(ht:t∈l)(h:s.2.length≠t.2.length):¬okS l:=fun z=>h ((z.2.1 s hs).2.2.trans (z.2.1 t ht).2.2.symm)
theorem zeK(r:Rat2):Plain 1 (dQ r):=Plain.tuple fun d hd=>by
 rcases WaU.mp hd with rfl|hd
 . exact Plain.int _
 . rw [Ya6.mp hd];exact Plain.int _
theorem zko(p:Rat2×Rat2):Plain 2 (dP p):=Plain.tuple fun d hd=>by
 rcases WaU.mp hd with rfl|hd
 . exact zeK _
 . rw [Ya6.mp hd];exact zeK _
theorem zkf(l:List (Rat2×Rat2)):Plain 3 (dPs l):=Plain.list fun d hd=>by
 obtain⟨s,_,rfl⟩:=Ya7.mp hd;exact zko s
theorem zcO:SeqAt.shaped (.str "fixed")=true:=#[3]
theorem ZX:SeqAt.shaped (.str "barred")=true:=#[3]
theorem zlZ{rs:List Rule}(h:txtR rs):Plain 3 (.list (rs.map dRl)):=(Plain.list (n:=1) fun d hd=>by
 obtain⟨r,hr,rfl⟩:=Ya7.mp hd;refine Plain.tuple (n:=0) fun x hx=>?_
 rcases WaU.mp hx with rfl|hx
 . have:=h r hr
   unfold SeqAt.shaped at this;rw [Yak] at this;exact⟨this.1,by simp [PyData.depth]⟩
 . rcases WaU.mp hx with rfl|hx
   . exact Plain.int _
   . rw [Ya6.mp hx];exact Plain.int _).mono #[1]
theorem zlA{l:List Spell}(h:okS l):1<=tot l:=by
 obtain⟨⟨h1,_⟩,h2,_⟩:=h;cases l with
 | nil=>simp at h1
 | cons a r=>
  have:=zdb (fun t ht=>(h2 t ht).1) (YaV (a:=a) (l:=r))
  have:=(h2 a YaV).1
  omega
structure Mend(Ch:Int->Int->Prop)(c:Int->Int->Int)(p0:Int->Int)(A B s:Nat)(tp vp:Int->Int)(t h:Tb):Prop where
 mat:Mat t h
 ot:TbOk t A B
 oh:TbOk h B A
 dom:∀ x,(getM t x).isSome=true↔0<=x/\x<(s:Int)
 ed:∀ x v,getM t x=some v->Ch x v/\tp x+vp v=c x v
 low:∀ x v,0<=x->x<(s:Int)->Ch x v->tp x+vp v<=c x v
 free:∀ v,getM h v=none->vp v=p0 v
 zero:∀ x,(s:Int)<=x->tp x=0
 top:∀ v,vp v<=p0 v
def Lab(h far:Tb)(start:Int)(done:List Int)(r g:Int):Prop:=(r=start/\g=0)\/∃ u∈done,getM h u=some r/\getM far u=some g
structure Sea(Ch:Int->Int->Prop)(c:Int->Int->Int)(tp vp:Int->Int)(h:Tb)(start:Int)(far came:Tb)(done:List Int):Prop where
 nd:done.Nodup
 held:∀ u∈done,(getM h u).isSome=true/\(getM far u).isSome=true
 all:∀ r g v,Lab h far start done r g->Ch r v->∃ x,getM far v=some x/\x<=g+c r v - tp r - vp v
 one:∀ v x,getM far v=some x->∃ r g,getM came v=some r/\Lab h far start done r g/\Ch r v/\x=g+c r v - tp r - vp v
 ord:∀ (i:Nat) v,done[i]?=some v->∃ r,getM came v=some r/\(r=start\/∃ (j:Nat) (u:Int),j<i/\done[j]?=some u/\getM h u=some r)
 least:∀ u∈done,∀ v,v∉done->∀ x y,getM far u=some x->getM far v=some y->x<=y
def Looked(Ch:Int->Int->Prop)(c:Int->Int->Int)(tp vp:Int->Int)(r g:Int)(far came far' came':Tb):Prop:=∀ v,
 (¬Ch r v->getM far' v=getM far v/\getM came' v=getM came v)/\
 (Ch r v->(∃ x,getM far v=some x/\x<=g+c r v - tp r - vp v/\getM far' v=some x/\getM came' v=getM came v)\/
  ((∀ x,getM far v=some x->g+c r v - tp r - vp v<x)/\getM far' v=some (g+c r v - tp r - vp v)/\getM came' v=some r))
section
variable{Ch:Int->Int->Prop}{c:Int->Int->Int}{p0:Int->Int}{A B s:Nat}{tp vp:Int->Int}{t h far came far' came':Tb}{start:Int}{done:List Int}
theorem Sea.begin_(hl:Looked Ch c tp vp start 0 [] [] far came):Sea Ch c tp vp h start far came []:=by
 refine⟨WaS,fun u hu=>(by cases hu),fun r g v hr hc=>?_,fun v x e=>?_,fun i v e=>(by simp at e),fun u hu=>(by cases hu)⟩
 . rcases hr with ⟨rfl,rfl⟩|⟨u,hu,_⟩
   . rcases(hl v).2 hc with ⟨x,e,_⟩|⟨_,e,_⟩
     . cases e
     . exact⟨_,e,Wba _⟩
   . cases hu
 . by_cases hc:Ch start v
   . rcases(hl v).2 hc with ⟨x,e',_⟩|⟨_,e1,e2⟩
     . cases e'
     . rw [e] at e1
       exact⟨start,0,e2,.inl ⟨rfl,rfl⟩,hc,WaP e1⟩
   . rw [((hl v).1 hc).1] at e;cases e
theorem Sea.next(S:Sea Ch c tp vp h start far came done)(M:Mend Ch c p0 A B s tp vp t h){u g r:Int}(hu:u∉done)(hg:getM far u=some g)(hmin:∀ v,v∉done->∀ y,getM far v=some y->g<=y)(hr:getM h u=some r)
 (hl:Looked Ch c tp vp r g far came far' came'):Sea Ch c tp vp h start far' came' (done++[u]):=by
 have tr:getM t r=some u:=(M.mat r u).mpr hr;have hrs:0<=r/\r<(s:Int):=(M.dom r).mp (by rw [tr];rfl)
 have low:∀ v,Ch r v->g<=g+c r v - tp r - vp v:=fun v hc=>by have:=M.low r v hrs.1 hrs.2 hc;omega
 have hle:∀ w∈done++[u],∀ x,getM far w=some x->x<=g:=fun w hw x e=>by
  rcases Ya3.mp hw with z|z
  . exact S.least w z u hu x g e hg
  . rw [Ya6.mp z,hg] at e;rw [WaP e];exact Wba _
 have has:∀ w∈done++[u],∃ x,getM far w=some x:=fun w hw=>by
  rcases Ya3.mp hw with z|z
  . exact Wae.mp (S.held w z).2
  . rw [Ya6.mp z];exact⟨g,hg⟩
 have same:∀ w∈done++[u],getM far' w=getM far w/\getM came' w=getM came w:=fun w hw=>by
  by_cases hc:Ch r w
  . rcases(hl w).2 hc with ⟨x,e1,_,e3,e4⟩|⟨e1,_,_⟩
    . exact⟨e3.trans e1.symm,e4⟩
    . obtain⟨x,e⟩:=has w hw
      have h1:=e1 x e;have h2:=hle w hw x e;have h3:=low w hc
      omega
  . exact(hl w).1 hc
 have lab:∀ r' g',Lab h far start done r' g'->Lab h far' start (done++[u]) r' g':=fun r' g' z=>by
  rcases z with z|⟨w,hw,h1,h2⟩
  . exact .inl z
  . exact .inr ⟨w,Yai _ hw,h1,by rw [(same w (Yai _ hw)).1];exact h2⟩
 have labu:Lab h far' start (done++[u]) r g:=.inr ⟨u,by simp,hr,by rw [(same u (by simp)).1];exact hg⟩
 refine⟨Wax.mpr ⟨S.nd,by simp,fun a ha b hb e=>hu (by rw [Ya6.mp hb] at e;rw [<-e];exact ha)⟩,fun w hw=>?_,fun r' g' v hr' hc=>?_,fun v x e=>?_,fun i v e=>?_,fun w hw v hv x y e1 e2=>?_⟩
 . rw [(same w hw).1]
   rcases Ya3.mp hw with z|z
   . exact S.held w z
   . rw [Ya6.mp z,hr,hg];exact⟨rfl,rfl⟩
 . have old:Lab h far start done r' g'->∃ x,getM far' v=some x/\x<=g'+c r' v - tp r' - vp v:=fun z=>by
    obtain⟨x,e1,e2⟩:=S.all r' g' v z hc
    by_cases hc':Ch r v
    . rcases(hl v).2 hc' with ⟨x',e3,_,e4,_⟩|⟨e3,e4,_⟩
      . rw [e1] at e3;rw [<-WaP e3] at e4;exact⟨x,e4,e2⟩
      . have:=e3 x e1;exact⟨_,e4,#[0]⟩
    . exact⟨x,by rw [((hl v).1 hc').1];exact e1,e2⟩
   rcases hr' with z|⟨w,hw,h1,h2⟩
   . exact old (.inl z)
   . rw [(same w hw).1] at h2
     rcases Ya3.mp hw with z|z
     . exact old (.inr ⟨w,z,h1,h2⟩)
     . rw [Ya6.mp z] at h1 h2
       rw [hr] at h1;rw [hg] at h2;have h1:=WaP h1;have h2:=WaP h2;subst h1 h2
       rcases(hl v).2 hc with ⟨x,_,e2,e3,_⟩|⟨_,e3,_⟩
       . exact⟨x,e3,e2⟩
       . exact⟨_,e3,Wba _⟩
 . have keep:getM far' v=getM far v->getM came' v=getM came v->∃ r g,getM came' v=some r/\Lab h far' start (done++[u]) r g/\Ch r v/\x=g+c r v - tp r - vp v:=fun e1 e2=>by
    obtain⟨r0,g0,a1,a2,a3,a4⟩:=S.one v x (e1 ▸ e);exact⟨r0,g0,e2.trans a1,lab _ _ a2,a3,a4⟩
   by_cases hc:Ch r v
   . rcases(hl v).2 hc with ⟨x',e1,_,e3,e4⟩|⟨_,e3,e4⟩
     . exact keep (e3.trans e1.symm) e4
     . rw [e] at e3
       exact⟨r,g,e4,labu,hc,WaP e3⟩
   . exact keep ((hl v).1 hc).1 ((hl v).1 hc).2
 . by_cases hi:i<done.length
   . rw [Yab hi] at e
     have hv:=Yah e;obtain⟨r0,a1,a2⟩:=S.ord i v e;refine⟨r0,by rw [(same v (Yai _ hv)).2];exact a1,?_⟩
     rcases a2 with a2|⟨j,w,b1,b2,b3⟩
     . exact .inl a2
     . exact .inr ⟨j,w,b1,by rw [Yab #[0]];exact b2,b3⟩
   . have hi':i=done.length:=by
      have:=(Ya8.mp e).1;rw [YaS,List.length_singleton] at this
      omega
     subst hi';rw [Yae (YaY _),Wa7] at e;have e:u=v:=WaP e;subst e;obtain⟨r0,g0,a1,a2,_,_⟩:=S.one u g hg;refine⟨r0,by rw [(same u (by simp)).2];exact a1,?_⟩
     rcases a2 with ⟨a2,_⟩|⟨w,b1,b2,_⟩
     . exact .inl a2
     . obtain⟨j,hj,ej⟩:=Yam b1
       exact .inr ⟨j,w,hj,by rw [Yab hj,YaQ hj,ej],b2⟩
 . rw [(same w hw).1] at e1
   have h1:=hle w hw x e1;have hv':v∉done:=fun z=>hv (Yai _ z)
   by_cases hc:Ch r v
   . rcases(hl v).2 hc with ⟨x',e3,_,e4,_⟩|⟨_,e4,_⟩
     . rw [e2] at e4
       rw [<-WaP e4] at e3;have:=hmin v hv' y e3
       omega
     . rw [e2] at e4
       have:=WaP e4;have:=low v hc
       omega
   . rw [((hl v).1 hc).1] at e2
     have:=hmin v hv' y e2
     omega
structure WayP(P:Int->Prop)(Ed:Int->Int->Prop)(ca t:Tb)(r:Int->Nat)(start:Int)(A B:Nat):Prop where
 inn:∀ c s,P c->getM ca c=some s->InR s A/\InR c B
 ed:∀ c s,P c->getM ca c=some s->Ed s c
 back:∀ c s c',P c->getM ca c=some s->getM t s=some c'->P c'/\∃ s',getM ca c'=some s'/\r s'<r s
 first:∀ c s,P c->getM ca c=some s->getM t s=none->s=start
structure Paid(h far:Tb)(start:Int)(done:List Int)(whole:Int)(tp vp tp' vp':Int->Int):Prop where
 st:tp' start=tp start+whole
 re:∀ u∈done,∀ r y,getM h u=some r->getM far u=some y->tp' r=tp r+(whole - y)/\vp' u=vp u - (whole - y)
 to:∀ x,x≠start->(∀ u∈done,getM h u≠some x)->tp' x=tp x
 vo:∀ v,v∉done->vp' v=vp v
theorem Paid.lab{whole:Int}{tp' vp':Int->Int}(p:Paid h far start done whole tp vp tp' vp'){r g:Int}(l:Lab h far start done r g):tp' r=tp r+(whole - g):=by
 rcases l with ⟨rfl,rfl⟩|⟨u,hu,h1,h2⟩
 . rw [p.st];omega
 . exact(p.re u hu r g h1 h2).1
theorem Sea.open_(S:Sea Ch c tp vp h start far came done)(M:Mend Ch c p0 A B s tp vp t h)(hst:InR start A)(h0:getM t start=none){f:Int->Int}(hf:∀ x,InR x A->Ch x (f x))(inj:∀ x y,InR x A->InR y A->f x=f y->x=y):∃ v x,v∉done/\getM far v=some x:=by
 refine Classical.byContradiction fun hno=>?_
 have hin:∀ v x,getM far v=some x->v∈done:=fun v x e=>Classical.byContradiction fun z=>hno ⟨v,x,z,e⟩
 have hh:∀ u∈done,getM h u=some ((getM h u).getD 0):=fun u hu=>by
  obtain⟨r,e⟩:=Wae.mp (S.held u hu).1;rw [e];rfl
 have ht:∀ u∈done,getM t ((getM h u).getD 0)=some u:=fun u hu=>(M.mat _ u).mpr (hh u hu)
 have hR:∀ r∈start::done.map (fun u=>(getM h u).getD 0),InR r A/\∃ g,Lab h far start done r g:=fun r hr=>by
  rcases WaU.mp hr with rfl|hr
  . exact⟨hst,0,.inl ⟨rfl,rfl⟩⟩
  . obtain⟨u,hu,rfl⟩:=Ya7.mp hr
    obtain⟨x,e⟩:=Wae.mp (S.held u hu).2;exact⟨(M.oh.get (hh u hu)).2,x,.inr ⟨u,hu,hh u hu,e⟩⟩
 have nd:(start::done.map (fun u=>(getM h u).getD 0)).Nodup:=by
  refine YaB.mpr ⟨fun z=>?_,?_⟩
  . obtain⟨u,hu,e⟩:=Ya7.mp z
    have:=ht u hu;rw [e,h0] at this;cases this
  . rw [Wac,WaB]
    refine(Wac.mp S.nd).imp_of_mem fun {a b} ha hb hab e=>hab ?_
    have h1:=ht a ha;rw [e,ht b hb] at h1;exact(WaP h1).symm
 have nd2:((start::done.map (fun u=>(getM h u).getD 0)).map f).Nodup:=by
  rw [Wac,WaB];exact(Wac.mp nd).imp_of_mem fun {a b} ha hb hab e=>hab (inj a b (hR a ha).1 (hR b hb).1 e)
 have:=zbH nd2 (M:=done) fun y hy=>by
  obtain⟨r,hr,rfl⟩:=Ya7.mp hy;obtain⟨h1,g,h2⟩:=hR r hr;obtain⟨x,e,_⟩:=S.all r g (f r) h2 (hf r h1);exact hin _ x e
 rw [YaR,List.length_cons,YaR] at this
 omega
theorem Mend.next(M:Mend Ch c p0 A B s tp vp t h)(S:Sea Ch c tp vp h (s:Int) far came done){v whole:Int}(hv:v∉done)(hw:getM far v=some whole)(hmin:∀ u,u∉done->∀ y,getM far u=some y->whole<=y){tp' vp':Int->Int}(p:Paid h far (s:Int) done whole tp vp tp' vp'){t' h':Tb}(mv:Moved (fun x v=>Ch x v/\tp' x+vp' v=c x v) t h t' h' (s:Int) A B):Mend Ch c p0 A B (s+1) tp' vp' t' h':=by
 have hdn:∀ u∈done,∃ r y,getM h u=some r/\getM far u=some y/\y<=whole/\0<=r/\r<(s:Int):=fun u hu=>by
  obtain⟨r,e1⟩:=Wae.mp (S.held u hu).1;obtain⟨y,e2⟩:=Wae.mp (S.held u hu).2;have:=(M.dom r).mp (by rw [(M.mat r u).mpr e1];rfl)
  exact⟨r,y,e1,e2,S.least u hu v hv y whole e2 hw,this.1,this.2⟩
 have hle:∀ u,vp' u<=vp u:=fun u=>by
  by_cases hu:u∈done
  . obtain⟨r,y,e1,e2,e3,_⟩:=hdn u hu
    rw [(p.re u hu r y e1 e2).2];omega
  . rw [p.vo u hu];exact Wba _
 refine⟨mv.mat,mv.ot,mv.oh,fun x=>?_,mv.ed,fun x u x0 x1 hc=>?_,fun u hu=>?_,fun x hx=>?_,fun u=>?_⟩
 . rw [mv.dt,M.dom];omega
 . rcases Classical.em (∃ g,Lab h far (s:Int) done x g) with ⟨g,l⟩|nl
   . obtain⟨y,e1,e2⟩:=S.all x g u l hc
     rw [p.lab l]
     by_cases hu:u∈done
     . obtain⟨r,y',a1,a2,_⟩:=hdn u hu
       rw [e1] at a2;rw [(p.re u hu r y a1 e1).2];omega
     . rw [p.vo u hu]
       have:=hmin u hu y e1
       omega
   . have hx:x≠(s:Int):=fun z=>nl ⟨0,.inl ⟨z,rfl⟩⟩
     have:tp' x=tp x:=p.to x hx fun w hw' e=>by
      obtain⟨r,y,_,a2,_⟩:=hdn w hw';exact nl ⟨y,.inr ⟨w,hw',e,a2⟩⟩
     have h1:=M.low x u x0 #[0] hc
     have h2:=hle u
     omega
 . have h1:getM h u=none:=by
    cases e:getM h u with
    | none=>rfl
    | some r=>have:=mv.dh u (by rw [e];rfl);rw [hu] at this;cases this
   rw [p.vo u fun z=>by have:=(S.held u z).1;rw [h1] at this;cases this]
   exact M.free u h1
 . rw [p.to x #[0] fun w hw' e=>by
    obtain⟨r,y,a1,_,_,_,a3⟩:=hdn w hw';rw [e] at a1;have:=WaP a1
    omega]
   exact M.zero x #[0]
 . exact Int.le_trans (hle u) (M.top u)
theorem Sea.way(S:Sea Ch c tp vp h start far came done)(M:Mend Ch c p0 A B s tp vp t h)(hst:InR start A)(h0:getM t start=none)(hCh:∀ x v,Ch x v->InR v B){v whole:Int}(hv:v∉done)(hw:getM far v=some whole){tp' vp':Int->Int}(p:Paid h far start done whole tp vp tp' vp') :
 WayP (fun u=>u∈done\/u=v) (fun x v=>Ch x v/\tp' x+vp' v=c x v) came t (fun x=>if x=start then 0 else(done.map fun u=>(getM h u).getD 0).idxOf x+1) start A B/\∃ r,getM came v=some r:=by
 have hh:∀ u∈done,getM h u=some ((getM h u).getD 0):=fun u hu=>by
  obtain⟨r,e⟩:=Wae.mp (S.held u hu).1;rw [e];rfl
 have ht:∀ u∈done,getM t ((getM h u).getD 0)=some u:=fun u hu=>(M.mat _ u).mpr (hh u hu)
 have hfar:∀ u,u∈done\/u=v->∃ y,getM far u=some y:=fun u hu=>by
  rcases hu with hu|rfl
  . exact Wae.mp (S.held u hu).2
  . exact⟨whole,hw⟩
 have ndm:(done.map fun u=>(getM h u).getD 0).Nodup:=by
  rw [Wac,WaB];refine(Wac.mp S.nd).imp_of_mem fun {a b} ha hb hab e=>hab ?_
  have h1:=ht a ha;rw [e,ht b hb] at h1;exact(WaP h1).symm
 have rk:∀ (j:Nat) (u:Int),done[j]?=some u->(if(getM h u).getD 0=start then 0 else(done.map fun u=>(getM h u).getD 0).idxOf ((getM h u).getD 0)+1)=j+1:=fun j u e=>by
  have hu:=Yah e;rw [if_neg fun z=>by have:=ht u hu;rw [z,h0] at this;cases this]
  obtain⟨hj,ej⟩:=Ya8.mp e;have hj':j<(done.map fun u=>(getM h u).getD 0).length:=by rw [YaR];exact hj
  have:=ndm.idxOf_getElem j hj';rw [List.getElem_map,ej] at this;rw [this]
 have src:∀ u r,u∈done\/u=v->getM came u=some r->r=start\/∃ (j:Nat) (w:Int),done[j]?=some w/\getM h w=some r:=fun u r hu e=>by
  obtain⟨y,hy⟩:=hfar u hu;obtain⟨r',g,a1,a2,_⟩:=S.one u y hy;rw [e] at a1;rw [WaP a1]
  rcases a2 with ⟨z,_⟩|⟨w,b1,b2,_⟩
  . exact .inl z
  . obtain⟨j,hj,ej⟩:=Yam b1
    exact .inr ⟨j,w,by rw [YaQ hj,ej],b2⟩
 refine⟨⟨fun u r hu e=>?_,fun u r hu e=>?_,fun u r u' hu e e'=>?_,fun u r hu e e'=>?_⟩,?_⟩
 . obtain⟨y,hy⟩:=hfar u hu
   obtain⟨r',g,a1,a2,a3,_⟩:=S.one u y hy;rw [e] at a1;refine⟨?_,hCh _ _ a3⟩
   rcases src u r hu e with z|⟨j,w,_,b2⟩
   . rw [z];exact hst
   . exact(M.oh.get b2).2
 . obtain⟨y,hy⟩:=hfar u hu
   obtain⟨r',g,a1,a2,a3,a4⟩:=S.one u y hy;rw [e] at a1;rw [<-WaP a1] at a2 a3 a4;refine⟨a3,?_⟩;rw [p.lab a2]
   rcases hu with hu|rfl
   . rw [(p.re u hu _ y (hh u hu) hy).2];omega
   . rw [p.vo u hv]
     rw [hw] at hy;have:=WaP hy
     omega
 . rcases src u r hu e with z|⟨j,w,b1,b2⟩
   . rw [z,h0] at e';cases e'
   . have hw':=Yah b1
     have hwr:(getM h w).getD 0=r:=by rw [b2];rfl
     have:u'=w:=by
      have:=ht w hw';rw [hwr,e'] at this;exact WaP this
     subst this;obtain⟨r',c1,c2⟩:=S.ord j u' b1;refine⟨.inl hw',r',c1,?_⟩;have e1:=rk j u' b1;rw [hwr] at e1;show(if r'=start then 0 else _)<(if r=start then 0 else _)
     rw [e1]
     rcases c2 with z|⟨i,x,d1,d2,d3⟩
     . rw [if_pos z];omega
     . have e2:=rk i x d2
       rw [show(getM h x).getD 0=r' by rw [d3];rfl] at e2
       rw [e2];omega
 . rcases src u r hu e with z|⟨j,w,b1,b2⟩
   . exact z
   . rw [(M.mat r w).mpr b2] at e';cases e'
 . obtain⟨r,g,a1,_⟩:=S.one v whole hw
   exact⟨r,a1⟩
end
section
open PySem.Spec PyProof.Rows
structure MkD where
 dx:Addr
 aC:Addr
 aT:Addr
 aV:Addr
 aK:Addr
 aH:Addr
 dcs:List Addr
 cs:List Tb
 tp:List Int
 vp:List Int
 tk:Tb
 hd:Tb
def mfs(M:MkD):List (Str×V):=[("costs", .ref M.aC),("turn_prices", .ref M.aT),("visit_prices", .ref M.aV),("taken", .ref M.aK),("holders", .ref M.aH)]
structure Mkt(C:Addr)(H:Hp)(m:Addr)(M:MkD):Prop where
 ins:H m=some (.ins C M.dx (mfs M))
 own:H M.dx=some (.own m)
 lc:H M.aC=some (.lst (M.dcs.map .ref))
 len:M.dcs.length=M.cs.length
 dc:∀ (i:Nat) d,M.dcs[i]?=some d->∃ o,H d=some (.frz o (.dK (encM (M.cs.getD i []))))
 lt:H M.aT=some (.lst (M.tp.map .int))
 lv:H M.aV=some (.lst (M.vp.map .int))
 dk:H M.aK=some (.dK (encM M.tk))
 dh:H M.aH=some (.dK (encM M.hd))
theorem Mkt.keep{C:Addr}{H H':Hp}{m:Addr}{M:MkD}(k:Mkt C H m M)(s:∀ b o,H b=some o->(∀ f,o≠.ext f)->H' b=some o):Mkt C H' m M where
 ins:=s _ _ k.ins #[95]
 own:=s _ _ k.own #[95]
 lc:=s _ _ k.lc #[95]
 len:=k.len
 dc:=fun i d e=>let ⟨o,h⟩:=k.dc i d e;⟨o,s _ _ h #[95]⟩
 lt:=s _ _ k.lt #[95]
 lv:=s _ _ k.lv #[95]
 dk:=s _ _ k.dk #[95]
 dh:=s _ _ k.dh #[95]
def zB(L:Int->Int->Int)(t:Int)(fc:Tb×Tb)(p:Int×Int):Tb×Tb:=
 match getM fc.1 p.1 with
 | none=>(putM fc.1 p.1 (L p.1 p.2),putM fc.2 p.1 t)
 | some x=>if L p.1 p.2<x then(putM fc.1 p.1 (L p.1 p.2),putM fc.2 p.1 t) else fc
theorem zbb(L:Int->Int->Int)(t:Int):∀ (l:Tb) (fc:Tb×Tb),(l.foldl (zB L t) fc).1.length<=fc.1.length+l.length/\(l.foldl (zB L t) fc).2.length<=fc.2.length+l.length
 | [],fc=>⟨YaY _,YaY _⟩
 | p :: r, fc => by
  have h:=zbb L t r (zB L t fc p);have h1:(zB L t fc p).1.length<=fc.1.length+1/\(zB L t fc p).2.length<=fc.2.length+1:=by
   have pl:∀ (d:Tb) (k v:Int),(putM d k v).length<=d.length+1:=fun d k v=>by
    unfold putM;split
    . rw [YaR];omega
    . rw [YaS];exact YaY _
   unfold zB
   split
   . exact⟨pl _ _ _,pl _ _ _⟩
   . split
     . exact⟨pl _ _ _,pl _ _ _⟩
     . exact⟨Nat.le_succ _,Nat.le_succ _⟩
  rw [List.foldl_cons,List.length_cons]
  omega
def zK(M:MkD)(t g:Int)(v x:Int):Int:=g+x - M.tp.getD t.toNat 0 - M.vp.getD v.toNat 0
section
variable{P:Program}{w:World}{K:Ybf}{mg:#[15]}{base:Heap}{C:Addr}
def zcX(C:Addr):Sp:=fun vs H Q E=>∃ m t g f c M far came,vs=[.ref m,.int t,.int g,.ref f,.ref c]/\Mkt C H m M/\0<=t/\t<(M.cs.length:Int)/\t<(M.tp.length:Int)/\(∀ p∈M.cs.getD t.toNat [],InR p.1 M.vp.length)/\
 H f=some (.dK (encM far))/\H c=some (.dK (encM came))/\f≠c/\far.length+(M.cs.getD t.toNat []).length<sizeLine/\came.length+(M.cs.getD t.toNat []).length<sizeLine/\
 ∀ H',zh (bar H [f,c]) H'->H' f=some (.dK (encM ((M.cs.getD t.toNat []).foldl (zB (zK M t g) t) (far,came)).1))->H' c=some (.dK (encM ((M.cs.getD t.toNat []).foldl (zB (zK M t g) t) (far,came)).2))->Q .non H'
theorem zjM(cl:Cls K C)(n1:zR K C "costs")(n2:zR K C "turn_prices")(n3:zR K C "visit_prices"){f:Addr}{fd:FuncData}(F:Fun K "look_from" "look_from" zdf f fd):FnOk P w K mg base (CXR P w) 1 f fd ["market", "turn", "gone", "far", "came"] (zcX C):=by
 have S:FnScope ["market", "turn", "gone", "far", "came", "visit", "cost", "length"] ["market", "turn", "gone", "far", "came"] (zg zdf):=#[10]
 refine F.okR S (fun vs H Q E h=>?_) (fun cdv A outer s H vs Q E hr h=>?_)
 . obtain⟨_,_,_,_,_,_,_,_,rfl,_⟩:=h;rfl
 have hu:=ja hr;refine⟨_,jf (Zl WaC rfl (zim (jI Ja (jA (pv 0) rfl) (pv 1) #[4])) (zbK rfl (JG (jp (i:=5) S.nd rfl (.inl rfl)) (JG (jp (i:=6) S.nd rfl (.inl rfl)) zbU)))
  (zP (ji (i:=7) S.nd rfl (.inl rfl) (Ji zaC (Ji zaC (Ji zcY (pv 2) (pv 6)) (jI Ja (jA (pv 0) rfl) (pv 1) #[4])) (jI Ja (jA (pv 0) rfl) (pv 5) #[4])))
   (jf (zdS (PW.pt (zd5 (Zk (zbT hu (pv 5) (pv 3))) (zd4 (zbF zeo (pv 7) (jU hu (pv 3) (pv 5) #[4]) (nomark _))))) (zP (Jw hu (pv 3) (pv 5) (pv 7) rfl) (jf (Jw hu (pv 4) (pv 5) (pv 1) rfl))) zfu)))),?_⟩
 obtain⟨m,t,g,fa,ca,M,far,came,rfl,hM,t0,t1,t2,hrng,hf,hc,hne,hl1,hl2,q⟩:=h;have htn:t.toNat<M.dcs.length:=by rw [hM.len];omega
 obtain⟨o,ho⟩:=hM.dc t.toNat M.dcs[t.toNat] (YaQ htn);have hat:atI (M.dcs.map V.ref) t=some (.ref M.dcs[t.toNat]):=by
  have:=jd (xs:=M.dcs.map V.ref) (j:=t.toNat) (v:=.ref M.dcs[t.toNat]) (by rw [Ya0,YaQ htn];rfl)
  rwa [show((t.toNat:Nat):Int)=t by omega] at this
 have htt:atI (M.tp.map V.int) t=some (.int (M.tp.getD t.toNat 0)):=by
  have:=jd (xs:=M.tp.map V.int) (j:=t.toNat) (v:=.int (M.tp.getD t.toNat 0)) (by rw [Ya0,YaQ (show t.toNat<M.tp.length by omega),YaP,YaQ (show t.toNat<M.tp.length by omega)];rfl)
  rwa [show((t.toNat:Nat):Int)=t by omega] at this
 refine⟨.ref m,rfl,m,C,M.dx,mfs M,.ref M.aC,rfl,hM.ins,cl,n1,rfl,.int t,rfl,M.aC,_,t,.ref M.dcs[t.toNat],rfl,rfl,SqL.of hM.lc,hat,M.dcs[t.toNat],o,_,rfl,ho,?_⟩
 generalize hits:M.cs.getD t.toNat []=its at *;refine⟨fun i n σ' H'=>i<=its.length/\n=its.length - i/\(∃ t5 t6 t7,σ'=[some (.ref m),some (.int t),some (.int g),some (.ref fa),some (.ref ca),t5,t6,t7])/\zh (bar H [fa,ca]) H'/\H' fa=some (.dK (encM ((its.take i).foldl (zB (zK M t g) t) (far,came)).1))/\H' ca=some (.dK (encM ((its.take i).foldl (zB (zK M t g) t) (far,came)).2)),
  ⟨_,Wa9 _,rfl,⟨none,none,none,rfl⟩,(J9 _ _).x,hf,hc⟩,?_⟩
 rintro i n σ' H' ⟨hi,rfl,⟨t5,t6,t7,rfl⟩,hs,h1,h2⟩
 have kp:∀ b ob,H b=some ob->(∀ kv,ob≠.dK kv)->(∀ x,ob≠.ext x)->H' b=some ob:=fun b ob e n1 n2=>by
  refine hs.at ((z5 fun z=>?_).trans e) n2
  rcases WaU.mp z with z|z
  . rw [z,hf] at e;exact n1 _ (WaP e).symm
  . rw [Ya6.mp z,hc] at e;exact n1 _ (WaP e).symm
 have hd:H' M.dcs[t.toNat]=some (.frz o (.dK (encM its))):=kp _ _ ho (by intro kv z;cases z) (by intro x z;cases z)
 by_cases hlt:i<its.length
 . have hx:(L3.encM its)[i]?=some (Sum.inl its[i].1,.int its[i].2):=by unfold L3.encM;rw [Ya0,YaQ hlt];rfl
   refine .inr ⟨⟨⟨_,hx⟩,hd⟩,fun σ2 H2=>(∃ t5 t6 t7,σ2=[some (.ref m),some (.int t),some (.int g),some (.ref fa),some (.ref ca),t5,t6,t7])/\zh (bar H [fa,ca]) H2/\H2 fa=some (.dK (encM ((its.take (i+1)).foldl (zB (zK M t g) t) (far,came)).1))/\H2 ca=some (.dK (encM ((its.take (i+1)).foldl (zB (zK M t g) t) (far,came)).2)),fun σ2 H2 z=>⟨its.length - (i+1),#[0],hlt,rfl,z⟩,?_⟩
   rintro x H3 ⟨a,k,v,hn,rfl,hk,rfl⟩
   rw [hx] at hk;cases hk;have hpm:its[i]∈its:=Ya4 hlt;have htk:its.take (i+1)=its.take i++[its[i]]:=by rw [WaD,YaQ hlt];rfl
   rw [htk,Waz];have hle:(its.take i).length=i:=by rw [WaI];omega
   have hlen:=zbb (zK M t g) t (its.take i) (far,came);generalize (its.take i).foldl (zB (zK M t g) t) (far,came)=fc at h1 h2 hlen;obtain⟨F1,C1⟩:=fc;rw [hle] at hlen;have hF1:F1.length<sizeLine:=Waq hlen.1 (by show far.length+i<_;omega)
   have hC1:C1.length<sizeLine:=Waq hlen.2 (by show came.length+i<_;omega)
   generalize its[i]=p at hpm;obtain⟨v,x⟩:=p;obtain⟨v0,v1⟩:=hrng _ hpm;have v0:0<=v:=v0;have v1:v<(M.vp.length:Int):=v1;have hvv:atI (M.vp.map V.int) v=some (.int (M.vp.getD v.toNat 0)):=by
    have:=jd (xs:=M.vp.map V.int) (j:=v.toNat) (v:=.int (M.vp.getD v.toNat 0)) (by rw [Ya0,YaQ (show v.toNat<M.vp.length by omega),YaP,YaQ (show v.toNat<M.vp.length by omega)];rfl)
    rwa [show((v.toNat:Nat):Int)=v by omega] at this
   have up:∀ b ob,H' b=some ob->upd H' a (.tup [kV (Sum.inl v),.int x]) b=some ob:=fun b ob e=>by rw [zd #[96,hn,e]];exact e
   have ins3:=up _ _ (kp _ _ hM.ins (by intro kv z;cases z) (by intro x z;cases z))
   have lt3:=up _ _ (kp _ _ hM.lt (by intro kv z;cases z) (by intro x z;cases z))
   have lv3:=up _ _ (kp _ _ hM.lv (by intro kv z;cases z) (by intro x z;cases z))
   have f3:=up _ _ h1;have c3:=up _ _ h2;have hs3:=hs.trans (zG hn (.tup [kV (Sum.inl v),.int x])).x;have bf:bar H [fa,ca] fa=none:=jH (by simp)
   have bc:bar H [fa,ca] ca=none:=jH (by simp)
   have hG:SqT K (upd H' a (.tup [kV (Sum.inl v),.int x])) a [.int v,.int x]:=SqT.of zf;generalize upd H' a (.tup [kV (Sum.inl v),.int x])=H3 at *;refine⟨a,[.int v,.int x],rfl,hG,rfl,_,_,rfl,_,_,rfl,rfl,?_⟩;refine⟨.int g,rfl,.int x,rfl,g,x,rfl,rfl,.ref m,rfl,m,C,M.dx,mfs M,.ref M.aT,rfl,ins3,cl,n2,rfl,.int t,rfl,M.aT,_,t,_,rfl,rfl,SqL.of lt3,htt,_,_,rfl,rfl,.ref m,rfl,m,C,M.dx,mfs M,.ref M.aV,rfl,ins3,cl,n3,rfl,.int v,rfl,M.aV,_,v,_,rfl,rfl,SqL.of lv3,hvv,_,_,rfl,rfl,?_⟩
   have put:∀ (N:Prop),((∃ t5 t6 t7,([some (V.ref m),some (.int t),some (.int g),some (.ref fa),some (.ref ca),some (.int v),some (.int x),some (.int (g+x - M.tp.getD t.toNat 0 - M.vp.getD v.toNat 0))]:List (Option V))=[some (.ref m),some (.int t),some (.int g),some (.ref fa),some (.ref ca),t5,t6,t7])/\zh (bar H [fa,ca]) (upd (upd H3 fa (.dK (L3.encM (putM F1 v (zK M t g v x))))) ca (.dK (L3.encM (putM C1 v t))))/\upd (upd H3 fa (.dK (L3.encM (putM F1 v (zK M t g v x))))) ca (.dK (L3.encM (putM C1 v t))) fa=some (.dK (L3.encM (putM F1 v (zK M t g v x))))/\upd (upd H3 fa (.dK (L3.encM (putM F1 v (zK M t g v x))))) ca (.dK (L3.encM (putM C1 v t))) ca=some (.dK (L3.encM (putM C1 v t)))->N)->N:=fun N k=>k ⟨⟨_,_,_,rfl⟩,(hs3.chg bf f3 #[95]).chg bc ((zd hne.symm).trans c3) #[95],(zd hne).trans zf,zf⟩
   refine⟨.int v,rfl,.ref fa,rfl,fa,_,rfl,DGet.k (k:=Sum.inl v) f3,_,rfl,?_⟩
   rw [jz];have go:zB (zK M t g) t (F1,C1) (v,x)=(putM F1 v (zK M t g v x),putM C1 v t)->∀ D:L2.Ends,D.nx=(fun σ2 H2=>(∃ t5 t6 t7,σ2=[some (V.ref m),some (.int t),some (.int g),some (.ref fa),some (.ref ca),t5,t6,t7])/\zh (bar H [fa,ca]) H2/\H2 fa=some (.dK (L3.encM (zB (zK M t g) t (F1,C1) (v,x)).1))/\H2 ca=some (.dK (L3.encM (zB (zK M t g) t (F1,C1) (v,x)).2)))->
    tSeq (zcW (tVar 3) (tVar 5) (tVar 7)) (zcW (tVar 4) (tVar 5) (tVar 1)) D [some (V.ref m),some (.int t),some (.int g),some (.ref fa),some (.ref ca),some (.int v),some (.int x),some (.int (g+x - M.tp.getD t.toNat 0 - M.vp.getD v.toNat 0))] H3:=fun e D hD=>by
    refine⟨.int _,rfl,.ref fa,rfl,.int v,rfl,fa,_,rfl,DPut.k (k:=Sum.inl v) f3 (by rw [J5];exact hF1),?_⟩
    refine⟨.int t,rfl,.ref ca,rfl,.int v,rfl,ca,_,rfl,DPut.k (k:=Sum.inl v) ((zd hne.symm).trans c3) (by rw [J5];exact hC1),?_⟩
    rw [hD,Zd,Zd,e];exact put _ id
   have no:zB (zK M t g) t (F1,C1) (v,x)=(F1,C1)->(∃ t5 t6 t7,([some (V.ref m),some (.int t),some (.int g),some (.ref fa),some (.ref ca),some (.int v),some (.int x),some (.int (g+x - M.tp.getD t.toNat 0 - M.vp.getD v.toNat 0))]:List (Option V))=[some (.ref m),some (.int t),some (.int g),some (.ref fa),some (.ref ca),t5,t6,t7])/\zh (bar H [fa,ca]) H3/\H3 fa=some (.dK (L3.encM (zB (zK M t g) t (F1,C1) (v,x)).1))/\H3 ca=some (.dK (L3.encM (zB (zK M t g) t (F1,C1) (v,x)).2)):=fun e=>by
    rw [e];exact⟨⟨_,_,_,rfl⟩,hs3,f3,c3⟩
   cases hg:getM F1 v with
   | none=>exact go (by unfold zB;dsimp only;rw [hg]) _ rfl
   | some y=>
    refine⟨.int _,rfl,.ref fa,rfl,.int v,rfl,fa,.int y,rfl,by have:=DGet.k (k:=Sum.inl v) f3;rw [jz,hg] at this;exact this,_,_,rfl,rfl,_,rfl,?_⟩
    by_cases hy:zK M t g v x<y
    . show if decide (zK M t g v x<y)=true then _ else _
      rw [if_pos (decide_eq_true hy)];exact go (by unfold zB;dsimp only;rw [hg];dsimp only;rw [if_pos hy]) _ rfl
    . show if decide (zK M t g v x<y)=true then _ else _
      rw [if_neg (by rw [decide_eq_false hy];decide)]
      exact no (by unfold zB;dsimp only;rw [hg];dsimp only;rw [if_neg hy])
 . have e:i=its.length:=#[0]
   subst e;rw [YaH] at h1 h2;refine .inl ⟨⟨by unfold L3.encM;rw [YaR],hd⟩,q H' hs h1 h2⟩
end
section
variable{P:Program}{w:World}{K:Ybf}{mg:#[15]}{base:Heap}{C:Addr}
theorem zci{X:Cx}{st:Stmt}{t:TS}(h:PS X st t):PS X st (fun B σ H=>∃ l kvs,H l=some (.dK kvs)/\∀ o,t B σ (upd H l (.frz o (.dK kvs)))):=fun pins s σ H B I hyp=>by
 obtain⟨l,kvs,hl,q⟩:=hyp;obtain⟨o,I'⟩:=I.frzK hl;exact h pins s σ _ B I' (q o)
def pay1(far hd:Tb)(w:Int)(p:List Int×List Int)(k:Int):List Int×List Int:=
 (p.1.set ((getM hd k).getD 0).toNat (p.1.getD ((getM hd k).getD 0).toNat 0+(w - (getM far k).getD 0)),p.2.set k.toNat (p.2.getD k.toNat 0 - (w - (getM far k).getD 0)))
theorem zcz(far hd:Tb)(w:Int):∀ (ks:List Int) (p:List Int×List Int),(ks.foldl (pay1 far hd w) p).1.length=p.1.length/\(ks.foldl (pay1 far hd w) p).2.length=p.2.length
 | [],p=>⟨rfl,rfl⟩
 | k :: r, p => by
  have:=zcz far hd w r (pay1 far hd w p k);rw [List.foldl_cons,this.1,this.2];exact⟨YaN,YaN⟩
theorem zc3{xs:List Int}{k:Int}(h:InR k xs.length):atI (xs.map V.int) k=some (.int (xs.getD k.toNat 0)):=by
 obtain⟨h0,h1⟩:=h;have:=jd (xs:=xs.map V.int) (j:=k.toNat) (v:=.int (xs.getD k.toNat 0)) (by rw [Ya0,YaQ (show k.toNat<xs.length by omega),YaP,YaQ (show k.toNat<xs.length by omega)];rfl)
 rwa [show((k.toNat:Nat):Int)=k by omega] at this
def encK(ks:List Int):List (Key×V):=ks.map fun k=>(Sum.inl k,V.bl true)
def zdr(C:Addr):Sp:=fun vs H Q E=>∃ m s w f d M far ks,vs=[.ref m,.int s,.int w,.ref f,.ref d]/\Mkt C H m M/\InR s M.tp.length/\H f=some (.dK (encM far))/\H d=some (.dK (encK ks))/\(∀ k∈ks,InR k M.vp.length/\∃ r y,getM M.hd k=some r/\getM far k=some y/\InR r M.tp.length)/\M.aT≠M.aV/\d≠f/\d≠M.aH/\
 ∀ H',zh (bar H [M.aT,M.aV,d]) H'->H' M.aT=some (.lst ((ks.foldl (pay1 far M.hd w) (M.tp.set s.toNat (M.tp.getD s.toNat 0+w),M.vp)).1.map .int))->H' M.aV=some (.lst ((ks.foldl (pay1 far M.hd w) (M.tp.set s.toNat (M.tp.getD s.toNat 0+w),M.vp)).2.map .int))->Q .non H'
theorem zk6(cl:Cls K C)(n2:zR K C "turn_prices")(n3:zR K C "visit_prices")(n4:zR K C "holders"){f:Addr}{fd:FuncData}(F:Fun K "change_prices" "change_prices" zc9 f fd):FnOk P w K mg base (CXR P w) 1 f fd ["market", "start", "whole", "far", "done"] (zdr C):=by
 have S:FnScope ["market", "start", "whole", "far", "done", "visit"] ["market", "start", "whole", "far", "done"] (zg zc9):=#[10]
 refine F.okR S (fun vs H Q E h=>?_) (fun cdv A outer s H vs Q E hr h=>?_)
 . obtain⟨_,_,_,_,_,_,_,_,rfl,_⟩:=h;rfl
 have hu:=ja hr;refine⟨_,zP (zdn (jA (pv 0) rfl) (pv 1) zdl (pv 2) zdy ZG) (jf (zci (Zl WaC rfl (zdG (pv 4)) (jp (i:=5) S.nd rfl (.inl rfl))
  (zP (zdn (jA (pv 0) rfl) (jU hu (jA (pv 0) rfl) (pv 5) #[4]) zdl (Ji zaC (pv 2) (jU hu (pv 3) (pv 5) #[4])) zdy ZG)
   (jf (zdn (jA (pv 0) rfl) (pv 5) zdl (Ji zaC (pv 2) (jU hu (pv 3) (pv 5) #[4])) zjV ZG)))))),?_⟩
 obtain⟨m,s,w,fa,d,M,far,ks,rfl,hM,hs0,hf,hd,hk,nTV,ndf,ndH,q⟩:=h;have nTd:M.aT≠d:=fun z=>by have:=hM.lt;rw [z,hd] at this;cases this
 have nVd:M.aV≠d:=fun z=>by have:=hM.lv;rw [z,hd] at this;cases this
 refine⟨.ref m,rfl,m,C,M.dx,mfs M,.ref M.aT,rfl,hM.ins,cl,n2,rfl,.int s,rfl,M.aT,_,s,_,rfl,rfl,hs0.1,SqL.of hM.lt,zc3 hs0,.int w,rfl,_,_,rfl,rfl,M.aT,_,s,s.toNat,rfl,rfl,hM.lt,Jv hs0.1 (by rw [YaR];exact hs0.2),d,_,(zd nTd.symm).trans hd,fun o=>?_⟩
 have hb:bar H [M.aT,M.aV,d] M.aT=none:=jH (by simp)
 have hb2:bar H [M.aT,M.aV,d] M.aV=none:=jH (by simp)
 have hb3:bar H [M.aT,M.aV,d] d=none:=jH (by simp)
 refine⟨.ref d,rfl,d,o,_,rfl,zf,fun i n σ' H'=>i<=ks.length/\n=ks.length - i/\(∃ t5,σ'=[some (.ref m),some (.int s),some (.int w),some (.ref fa),some (.ref d),t5])/\zh (bar H [M.aT,M.aV,d]) H'/\H' d=some (.frz o (.dK (encK ks)))/\H' M.aT=some (.lst (((ks.take i).foldl (pay1 far M.hd w) (M.tp.set s.toNat (M.tp.getD s.toNat 0+w),M.vp)).1.map .int))/\H' M.aV=some (.lst (((ks.take i).foldl (pay1 far M.hd w) (M.tp.set s.toNat (M.tp.getD s.toNat 0+w),M.vp)).2.map .int)),
  ⟨_,Wa9 _,rfl,⟨none,rfl⟩,((J9 _ _).x.chg hb hM.lt #[95]).chg hb3 ((zd nTd.symm).trans hd) #[95],zf,?_,?_⟩,?_⟩
 . rw [zd nTd,zf,List.take_zero,List.foldl_nil,Wa8]
 . rw [zd nVd,zd nTV.symm];exact hM.lv
 rintro i n σ' H' ⟨hi,rfl,⟨t5,rfl⟩,hs,h0,h1,h2⟩
 have kp:∀ b ob,H b=some ob->b≠M.aT->b≠M.aV->b≠d->(∀ x,ob≠.ext x)->H' b=some ob:=fun b ob e e1 e2 e3 n2=>hs.at ((z5 fun z=>by
  rcases WaU.mp z with z|z
  . exact e1 z
  . rcases WaU.mp z with z|z
    . exact e2 z
    . exact e3 (Ya6.mp z)).trans e) n2
 by_cases hlt:i<ks.length
 . have hx:(encK ks)[i]?=some (Sum.inl ks[i],.bl true):=by unfold encK;rw [Ya0,YaQ hlt];rfl
   refine .inr ⟨⟨⟨_,hx⟩,h0⟩,fun σ' H'=>(∃ t5,σ'=[some (.ref m),some (.int s),some (.int w),some (.ref fa),some (.ref d),t5])/\zh (bar H [M.aT,M.aV,d]) H'/\H' d=some (.frz o (.dK (encK ks)))/\H' M.aT=some (.lst (((ks.take (i+1)).foldl (pay1 far M.hd w) (M.tp.set s.toNat (M.tp.getD s.toNat 0+w),M.vp)).1.map .int))/\H' M.aV=some (.lst (((ks.take (i+1)).foldl (pay1 far M.hd w) (M.tp.set s.toNat (M.tp.getD s.toNat 0+w),M.vp)).2.map .int)),fun σ2 H2 z=>⟨ks.length - (i+1),#[0],hlt,rfl,z⟩,?_⟩
   rintro x H3 ⟨e3,k,v,hk',rfl⟩
   have e3:=e3.symm;subst e3;rw [hx] at hk';cases hk';have hpm:ks[i]∈ks:=Ya4 hlt;have htk:ks.take (i+1)=ks.take i++[ks[i]]:=by rw [WaD,YaQ hlt];rfl
   rw [htk,Waz];have hlen:=zcz far M.hd w (ks.take i) (M.tp.set s.toNat (M.tp.getD s.toNat 0+w),M.vp);generalize (ks.take i).foldl (pay1 far M.hd w) (M.tp.set s.toNat (M.tp.getD s.toNat 0+w),M.vp)=fc at h1 h2 hlen;obtain⟨T1,V1⟩:=fc;rw [YaN] at hlen;generalize ks[i]=k at hpm;obtain⟨hkV,r,y,hr1,hr2,hrT⟩:=hk _ hpm;have hrT:InR r T1.length:=by rw [show T1.length=_ from hlen.1];exact hrT
   have hkV:InR k V1.length:=by rw [show V1.length=_ from hlen.2];exact hkV
   have nm:∀ {b:Addr} {ob:HO},H b=some ob->(∀ l,ob≠.lst l)->b≠M.aT/\b≠M.aV:=fun {b ob} e n=>⟨fun z=>by rw [z,hM.lt] at e;exact n _ (WaP e).symm,fun z=>by rw [z,hM.lv] at e;exact n _ (WaP e).symm⟩
   have ins3:H' m=_:=kp _ _ hM.ins (nm hM.ins #[95]).1 (nm hM.ins #[95]).2 (fun z=>by have:=hM.ins;rw [z,hd] at this;cases this) (by intro x z;cases z)
   have f3:=kp _ _ hf (nm hf #[95]).1 (nm hf #[95]).2 ndf.symm (by intro x z;cases z)
   have hh3:=kp _ _ hM.dh (nm hM.dh #[95]).1 (nm hM.dh #[95]).2 ndH.symm (by intro x z;cases z)
   have nmT:=(nm hM.ins #[95]).1
   have nfT:=(nm hf #[95]).1
   have g1:∀ {G:Hp},G fa=some (.dK (encM far))->DGet G fa (.int k) (some (.int y)):=fun e=>by have:=DGet.k (k:=Sum.inl k) e;rwa [jz,hr2] at this
   have g2:∀ {G:Hp},G M.aH=some (.dK (encM M.hd))->DGet G M.aH (.int k) (some (.int r)):=fun e=>by have:=DGet.k (k:=Sum.inl k) e;rwa [jz,hr1] at this
   refine⟨.ref m,rfl,m,C,M.dx,mfs M,.ref M.aT,rfl,ins3,cl,n2,rfl,.ref m,rfl,m,C,M.dx,mfs M,.ref M.aH,rfl,ins3,cl,n4,rfl,.int k,rfl,M.aH,_,rfl,g2 hh3,M.aT,_,r,_,rfl,rfl,hrT.1,SqL.of h1,zc3 hrT,.int w,rfl,.ref fa,rfl,.int k,rfl,fa,_,rfl,g1 f3,_,_,rfl,rfl,_,_,rfl,rfl,M.aT,_,r,r.toNat,rfl,rfl,h1,Jv hrT.1 (by rw [YaR];exact hrT.2),?_⟩
   refine⟨.ref m,rfl,m,C,M.dx,mfs M,.ref M.aV,rfl,(zd nmT).trans ins3,cl,n3,rfl,.int k,rfl,M.aV,_,k,_,rfl,rfl,hkV.1,SqL.of ((zd nTV.symm).trans h2),zc3 hkV,.int w,rfl,.ref fa,rfl,.int k,rfl,fa,_,rfl,g1 ((zd nfT).trans f3),_,_,rfl,rfl,_,_,rfl,rfl,M.aV,_,k,k.toNat,rfl,rfl,(zd nTV.symm).trans h2,Jv hkV.1 (by rw [YaR];exact hkV.2),?_⟩
   refine⟨⟨_,rfl⟩,(hs.chg hb h1 #[95]).chg hb2 ((zd nTV.symm).trans h2) #[95],?_,?_,?_⟩
   . rw [zd nVd.symm,zd nTd.symm];exact h0
   . rw [zd nTV,zf,List.foldl_cons,List.foldl_nil]
     unfold pay1;rw [hr1,hr2,Wa8];rfl
   . rw [zf,List.foldl_cons,List.foldl_nil]
     unfold pay1;rw [hr2,Wa8];rfl
 . have e:i=ks.length:=#[0]
   subst e;rw [YaH] at h1 h2;exact .inl ⟨⟨by unfold encK;rw [YaR],h0⟩,q H' hs h1 h2⟩
end
section
variable{P:Program}{w:World}{K:Ybf}{mg:#[15]}{base:Heap}{C:Addr}
def zlF(X:Cx)(t:TE):TE:=fun σ H Q=>t σ H fun v H1=>∃ l o kvs,H1 l=some (.frz o (.dK kvs))/\(∀ o u,X.H₀ l≠some (.frz o u))/\Q v (upd H1 l (.dK kvs))
theorem zkZ{X:Cx}{e:Expr}{t:TE}(h:PE X e t):PE X e (zlF X t):=fun pins s σ H Q I hyp=>
 wpAny_mono (h pins s σ H _ I hyp) (fun v s1 ⟨x,H1,I1,r1,l,o,kvs,hl,h0,q⟩=>⟨x,_,I1.thawK hl h0,r1,q⟩) fun _ _ z=>z
theorem zjJ{ks:List Int}{k:Int}:(valV (encK ks) (Sum.inl k)).isSome=decide (k∈ks):=by
 unfold valV encK
 induction ks with
 | nil=>rfl
 | cons p r ih=>
  rw [Ya1,List.find?_cons,zcQ]
  by_cases e:p=k
  . rw [decide_eq_true e,e,decide_eq_true (YaV)];rfl
  . rw [decide_eq_false e,show decide (k∈p::r)=decide (k∈r) by simp [Wbb e]];exact ih
theorem zbd{t:Tb}{k:Int}(h:k∈t.map (·.1)):∃ y,getM t k=some y:=by
 unfold getM;cases e:t.find? (fun p=>decide (p.1=k)) with
 | some p=>exact⟨p.2,rfl⟩
 | none=>
  obtain⟨p,hp,rfl⟩:=Ya7.mp h;have:=Was.mp e p hp
  simp at this
def sel(ks:List Int)(t:Tb):List Int:=(t.map (·.1)).filter fun k=>!decide (k∈ks)
theorem ZY{ks:List Int}{t:Tb}{k:Int}:k∈sel ks t↔k∈t.map (·.1)/\k∉ks:=by unfold sel;rw [List.mem_filter];simp
def zb0(tb:Addr):Sp:=fun vs H Q E=>∃ f d far ks,vs=[.ref f,.ref d]/\TabU tb H/\H f=some (.dK (encM far))/\H d=some (.dK (encK ks))/\f≠d/\far.length<sizeLine/\(∃ v y,getM far v=some y/\v∉ks)/\
 ∀ v y H',getM far v=some y->v∉ks->(∀ u z,getM far u=some z->u∉ks->y<=z)->zh H H'->Q (.int v) H'
theorem zlK(hpos:lamP=LamW.pos)(hqn:lamQ=LamW.q){c0 tb:Addr}(hC:PySem.W.CodeHd base c0 tb)(hB:BMod mg base)(hm:mg "min" = none){f:Addr}{fd:FuncData}(F:Fun K "nearest" "nearest" jQ f fd)(hcd:fd.code=.ref c0):FnOk P w K mg base (CXR P w) 4 f fd ["far", "done"] (zb0 tb):=by
 have S:FnScope ["far", "done"] ["far", "done"] (zg jQ):=#[10]
 obtain⟨oc,od,kV,doc,pm,an,cdv,ct,osl,rfl,lk,hcd'⟩:=F.ex;have hcd:cdv=.ref c0:=hcd;subst hcd;refine zbg lk hcd' S (fun vs H Q E h=>?_) (fun A outer s H vs Q E hr h=>?_)
 . obtain⟨_,_,_,_,rfl,_⟩:=h;rfl
 have hu:=ja hr;refine⟨_,jf (zci (JU (zkZ (zjq (it:=0) (k:=1) hpos hqn ⟨.of #[3] rfl rfl rfl rfl rfl trivial,#[1],rfl,rfl,rfl,hC,rfl,hB,rfl,rfl,fun _ _ _ _=>rfl⟩ #[7]
  (zaE ["visit"] ["done"] [1] rfl (zT (osc:=zg jQ) #[3]) rfl (zdG (pv 0)) (fun s H fp cl=>⟨jp (i:=0) (show((["visit"]:List PySem.Str)++(["done"]:List PySem.Str)).Nodup by decide) rfl (.inl rfl),zc0 (Zk (zbT hu (pv 0) (pv 1))),pv 0⟩))
  (fun f cd' s H' hr=>jU (ja hr) (pv 1) (pv 0) #[4]) rfl hm)))),?_⟩
 obtain⟨fa,d,far,ks,rfl,tu,hf,hd,hne,hlen,⟨v0,y0,hv0,hv0k⟩,q⟩:=h;refine⟨fa,_,hf,fun o=>⟨.ref fa,rfl,fa,o,_,rfl,zf,fun D hD=>?_⟩⟩
 have nDf:D≠fa:=#[96,zf,hD]
 have hD:H D=none:=by rwa [zd nDf] at hD
 have ndD:d≠D:=#[96,hD,hd]
 refine⟨fun i m ys σ1 H2=>i<=far.length/\m=far.length - i/\(∃ t0,σ1=[t0,some (.ref d)])/\ys=(sel ks (far.take i)).map .int/\H2 D=some (.lst ys)/\H2 fa=some (.frz o (.dK (encM far)))/\∀ b,b≠D->b≠fa->H2 b=H b,
  ⟨_,Wa9 _,rfl,⟨none,rfl⟩,rfl,zf,(zd nDf.symm).trans zf,fun b b1 b2=>by rw [zd b1,zd b2]⟩,?_⟩
 rintro i m ys σ1 H2 ⟨hi,rfl,⟨t0,rfl⟩,rfl,h1,h2,h3⟩
 by_cases hlt:i<far.length
 . have hx:(L3.encM far)[i]?=some (Sum.inl far[i].1,.int far[i].2):=by unfold L3.encM;rw [Ya0,YaQ hlt];rfl
   refine .inr ⟨⟨⟨_,hx⟩,h2⟩,?_⟩
   rintro x H3 ⟨e3,k,v,hk',rfl⟩
   have e3:=e3.symm;subst e3;rw [hx] at hk';cases hk';have htk:far.take (i+1)=far.take i++[far[i]]:=by rw [WaD,YaQ hlt];rfl
   have hd2:=(h3 d ndD hne.symm).trans hd;have hse:sel ks (far.take (i+1))=sel ks (far.take i)++if far[i].1∈ks then [] else [far[i].1]:=by
    unfold sel;rw [htk,Ya2,List.filter_append]
    by_cases e:far[i].1∈ks
    . rw [if_pos e];simp [e]
    . rw [if_neg e];simp [e]
   generalize far[i].1=k at hse;refine⟨.int k,rfl,.ref d,rfl,d,_,rfl,DGet.k (k:=Sum.inl k) hd2,_,rfl,?_⟩;rw [zjJ]
   by_cases hk:k∈ks
   . rw [decide_eq_true hk]
     show if(!true)=true then _ else _
     rw [if_neg #[1]]
     rw [if_pos hk,Yao] at hse;exact⟨far.length - (i+1),#[0],hlt,rfl,⟨_,rfl⟩,by rw [hse],h1,h2,h3⟩
   . rw [decide_eq_false hk]
     show if(!false)=true then _ else _
     rw [if_pos #[1]]
     rw [if_neg hk] at hse;refine⟨.int k,rfl,h1,?_,far.length - (i+1),#[0],hlt,rfl,⟨_,rfl⟩,by rw [hse,Ya2];rfl,zf,(zd nDf.symm).trans h2,fun b b1 b2=>by rw [zd b1];exact h3 b b1 b2⟩
     unfold sel;rw [YaR];refine Waq (List.length_filter_le _ _) ?_;rw [YaR,WaI]
     omega
 . have e:i=far.length:=#[0]
   subst e;rw [YaH] at h1;have unc:∀ b ob,H b=some ob->b≠fa->H2 b=some ob:=fun b ob e n=>(h3 b #[96,hD,e] n).trans e
   have next:∀ b x,H b=some (.ext x)->b≠fa:=fun b x e z=>by rw [z,hf] at e;cases e
   refine .inl ⟨⟨by unfold L3.encM;rw [YaR],h2⟩,?_,D,sel ks far,.ref fa,fun n=>(getM far n).getD 0,rfl,h1,?_,rfl,fun n hn H3 sm=>?_,fun n H3 hn hmin sm=>?_⟩
   . rcases tu with tu|⟨c',a1,a2⟩
     . exact .inl (unc _ _ tu (next _ _ tu))
     . exact .inr ⟨c',unc _ _ a1 (next _ _ a1),unc _ _ a2 (next _ _ a2)⟩
   . exact List.length_pos_of_mem (ZY.mpr ⟨zbc (by rw [hv0];rfl),hv0k⟩)
   . obtain⟨y,hy⟩:=zbd (ZY.mp hn).1
     refine⟨.ref fa,rfl,.int n,rfl,fa,.int y,rfl,.inl ⟨L3.encM far,Sum.inl n,.inr ⟨o,sm.at h2⟩,rfl,by rw [jz,hy];rfl⟩,by show V.int y=V.int ((getM far n).getD 0);rw [hy];rfl,zh.refl _⟩
   . obtain⟨y,hy⟩:=zbd (ZY.mp hn).1
     have hfa:=sm.at h2;refine⟨fa,o,_,hfa,fun o u z=>(by have z:H fa=_:=z;rw [hf] at z;cases z),q n y _ hy (ZY.mp hn).2 (fun u z hz hu=>?_) fun b ob e=>?_⟩
     . have:(getM far n).getD 0<=(getM far u).getD 0:=hmin u (ZY.mpr ⟨zbc (by rw [hz];rfl),hu⟩)
       rwa [hy,hz] at this
     . by_cases hb:b=fa
       . subst hb
         rw [hf] at e;cases e;exact .inl zf
       . rw [zd hb]
         rcases sm b ob (unc b ob e hb) with z|⟨z1,z2,c',z3,z4⟩
         . exact .inl z
         . refine .inr ⟨z1,z2,c',by rw [zd hb];exact z3,?_⟩
           rw [zd #[96,hfa,z4]]
           exact z4
end
theorem WayP.way{P:Int->Prop}{Ed:Int->Int->Prop}{ca t:Tb}{r:Int->Nat}{start:Int}{A B:Nat}(w:WayP P Ed ca t r start A B):∃ ca',(∀ c s,getM ca' c=some s↔P c/\getM ca c=some s)/\Way Ed ca' t r start A B:=by
 have dc:∀ c,Decidable (P c):=fun _=>Classical.propDecidable _
 have key:∀ c s,getM (ca.filter fun p=>decide (P p.1)) c=some s↔P c/\getM ca c=some s:=fun c s=>by
  unfold getM;rw [List.find?_filter]
  by_cases hc:P c
  . rw [show(fun a:Int×Int=>decide (decide (P a.1)=true/\decide (a.1=c)=true))=fun a=>decide (a.1=c) from funext fun a=>by
     by_cases e:a.1=c
     . rw [e];simp [hc]
     . simp [e]]
    exact⟨fun z=>⟨hc,z⟩,fun z=>z.2⟩
  . rw [show(fun a:Int×Int=>decide (decide (P a.1)=true/\decide (a.1=c)=true))=fun _=>false from funext fun a=>by
     by_cases e:a.1=c
     . rw [e];simp [hc]
     . simp [e]]
    refine⟨fun z=>?_,fun z=>absurd z.1 hc⟩
    rw [Was.mpr (by simp)] at z
    cases z
 refine⟨_,key,fun c s e=>?_,fun c s e=>?_,fun c s c' e e'=>?_,fun c s e e'=>?_⟩
 . obtain⟨h1,h2⟩:=(key c s).mp e;exact w.inn c s h1 h2
 . obtain⟨h1,h2⟩:=(key c s).mp e;exact w.ed c s h1 h2
 . obtain⟨h1,h2⟩:=(key c s).mp e
   obtain⟨h3,s',h4,h5⟩:=w.back c s c' h1 h2 e';exact⟨s',(key c' s').mpr ⟨h3,h4⟩,h5⟩
 . obtain⟨h1,h2⟩:=(key c s).mp e;exact w.first c s h1 h2 e'
section
variable{P:Program}{w:World}{K:Ybf}{mg:#[15]}{base:Heap}{C:Addr}
def spMove:Sp:=fun vs H Q E=>∃ (x:Int) (a1 a2 a3:Addr) (ca ca' t h:Tb) (Ed:Int->Int->Prop) (r:Int->Nat) (start:Int) (A B m:Nat),vs=[.int x,.ref a1,.ref a2,.ref a3]/\(∀ c s,getM ca' c=some s->getM ca c=some s)/\Way Ed ca' t r start A B/\OnWay Ed ca' t h t h r x A B m/\A<=2000/\B<=2000/\
 H a1=some (.dK (encM ca))/\H a2=some (.dK (encM t))/\H a3=some (.dK (encM h))/\a1≠a2/\a1≠a3/\a2≠a3/\
 ∀ t' h' H',Moved Ed t h t' h' start A B->zh (bar H [a2,a3]) H'->H' a2=some (.dK (encM t'))->H' a3=some (.dK (encM h'))->Q .non H'
theorem zkN{f:Addr}{fd:FuncData}(F:Fun K "move_along" "move_along" zbA f fd):FnOk P w K mg base (CXR P w) 1 f fd ["choice", "came", "taken", "holders"] spMove:=by
 have S:FnScope ["choice", "came", "taken", "holders", "taker", "former"] ["choice", "came", "taken", "holders"] (zg zbA):=#[10]
 refine F.okR S (fun vs H Q E h=>?_) (fun cdv A outer s H vs Q E hr h=>?_)
 . obtain⟨_,_,_,_,_,_,_,_,_,_,_,_,_,_,rfl,_⟩:=h;rfl
 have hu:=ja hr;refine⟨_,jf (zdp WaC (Zk (zlu (pv 0))) (zP (ji (i:=4) S.nd rfl (.inl rfl) (jU hu (pv 1) (pv 0) #[4]))
  (zP (ji (i:=5) S.nd rfl (.inl rfl) (ze2 hu (pv 2) (pv 4) ⟨rfl,rfl,rfl,rfl⟩)) (zP (Jw hu (pv 2) (pv 4) (pv 0) rfl) (zP (Jw hu (pv 3) (pv 0) (pv 4) rfl)
   (jf (ji (i:=0) S.nd rfl (.inl rfl) (pv 5)))))))),?_⟩
 obtain⟨x,a1,a2,a3,ca,ca',t,h,Ed,r,start,A',B',m,rfl,hsub,hw,ho,hA,hB,h1,h2,h3,n12,n13,n23,q⟩:=h;have b2:bar H [a2,a3] a2=none:=jH (by simp)
 have b3:bar H [a2,a3] a3=none:=jH (by simp)
 refine⟨fun k σ' H'=>((∃ (x:Int) (t' h':Tb) (t4 t5:Option V) (j:Nat),σ'=[some (.int x),some (.ref a1),some (.ref a2),some (.ref a3),t4,t5]/\OnWay Ed ca' t h t' h' r x A' B' j/\k=j+1/\H' a2=some (.dK (encM t'))/\H' a3=some (.dK (encM h')))\/∃ (t' h':Tb) (t4 t5:Option V),σ'=[some .non,some (.ref a1),some (.ref a2),some (.ref a3),t4,t5]/\Moved Ed t h t' h' start A' B'/\H' a2=some (.dK (encM t'))/\H' a3=some (.dK (encM h')))/\zh (bar H [a2,a3]) H',
  ⟨m+1,.inl ⟨x,t,h,none,none,m,rfl,ho,rfl,h2,h3⟩,(J9 _ _).x⟩,?_⟩
 rintro k σ' H' ⟨⟨x,t',h',t4,t5,j,rfl,ho,rfl,g2,g3⟩|⟨t',h',t4,t5,rfl,hm,g2,g3⟩,hs⟩
 . obtain⟨s,hs',_⟩:=ho.came
   obtain⟨st1,st2⟩:=ho.step hw hs';have l1:=ho.ot.len;have l2:=ho.oh.len;have g1:H' a1=some (.dK (encM ca)):=hs.at ((z5 (by simp [n12,n13])).trans h1)
   refine⟨.int x,rfl,_,rfl,?_⟩
   show if(!decide (V.int x=V.non))=true then _ else _
   rw [if_pos (by rw [decide_eq_false (by intro z;cases z)];rfl)]
   refine⟨_,fun σ' H' z=>z,?_⟩
   refine⟨.ref a1,rfl,.int x,rfl,a1,.int s,rfl,by have:=DGet.k (k:=Sum.inl x) g1;rwa [jz,hsub _ _ hs'] at this,?_⟩
   refine⟨.ref a2,rfl,a2,rfl,.inl ⟨_,.inl g2⟩,.int s,rfl,_,DGet.k (k:=Sum.inl s) g2,?_⟩
   refine⟨.int x,rfl,.ref a2,rfl,.int s,rfl,a2,_,rfl,DPut.k (k:=Sum.inl s) g2 (by rw [J5];exact YaU (show _<1000000 by omega) #[1]),?_⟩
   refine⟨.int s,rfl,.ref a3,rfl,.int x,rfl,a3,_,rfl,DPut.k (k:=Sum.inl x) ((zd n23.symm).trans g3) (by rw [J5];exact YaU (show _<1000000 by omega) #[1]),?_⟩
   rw [Zd,Zd,jz];have hs2:zh (bar H [a2,a3]) (upd (upd H' a2 (.dK (L3.encM (putM t' s x)))) a3 (.dK (L3.encM (putM h' x s)))):=(hs.chg b2 g2 #[95]).chg b3 ((zd n23.symm).trans g3) #[95]
   have e2:upd (upd H' a2 (.dK (L3.encM (putM t' s x)))) a3 (.dK (L3.encM (putM h' x s))) a2=some (.dK (L3.encM (putM t' s x))):=(zd n23).trans zf;cases e:getM t' s with
   | none=>exact⟨.non,rfl,0,#[0],.inr ⟨_,_,_,_,rfl,st1 e,e2,zf⟩,hs2⟩
   | some c'=>
    obtain⟨m',hm',o'⟩:=st2 c' e;exact⟨.int c',rfl,m'+1,#[0],.inl ⟨c',_,_,_,_,m',rfl,o',rfl,e2,zf⟩,hs2⟩
 . refine⟨.non,rfl,_,rfl,?_⟩
   show if(!decide (V.non=V.non))=true then _ else _
   rw [if_neg (by rw [decide_eq_true rfl];decide)]
   exact q t' h' H' hm hs g2 g3
end
def at0(l:List Int)(x:Int):Int:=if 0<=x then l.getD x.toNat 0 else 0
theorem Jl{l:List Int}{i x a:Int}(h:InR i l.length):at0 (l.set i.toNat a) x=if x=i then a else at0 l x:=by
 obtain⟨h0,h1⟩:=h;unfold at0
 by_cases hx:0<=x
 . rw [if_pos hx,if_pos hx,YaP,YaP,List.getElem?_set]
   by_cases e:x=i
   . rw [if_pos e,if_pos #[0],if_pos #[0]];rfl
   . rw [if_neg e,if_neg #[0]]
 . rw [if_neg hx,if_neg #[0],if_neg hx]
theorem zfr{L:Int->Int->Int}{t:Int}{fc:Tb×Tb}{p:Int×Int}{v:Int}(h:v≠p.1):getM (zB L t fc p).1 v=getM fc.1 v/\getM (zB L t fc p).2 v=getM fc.2 v:=by
 have e:∀ (d:Tb) (y:Int),getM (putM d p.1 y) v=getM d v:=fun d y=>by rw [zZ,if_neg (Wbb h)]
 unfold zB
 split
 . exact⟨e _ _,e _ _⟩
 . split
   . exact⟨e _ _,e _ _⟩
   . exact⟨rfl,rfl⟩
theorem zeO(L:Int->Int->Int)(t:Int):∀ (its:Tb) (fc:Tb×Tb),(its.map (·.1)).Nodup->∀ v,
 (v∉its.map (·.1)->getM (its.foldl (zB L t) fc).1 v=getM fc.1 v/\getM (its.foldl (zB L t) fc).2 v=getM fc.2 v)/\
 ∀ x,(v,x)∈its->(∃ y,getM fc.1 v=some y/\y<=L v x/\getM (its.foldl (zB L t) fc).1 v=some y/\getM (its.foldl (zB L t) fc).2 v=getM fc.2 v)\/
  ((∀ y,getM fc.1 v=some y->L v x<y)/\getM (its.foldl (zB L t) fc).1 v=some (L v x)/\getM (its.foldl (zB L t) fc).2 v=some t)
 | [],fc,_,v=>⟨fun _=>⟨rfl,rfl⟩,fun x h=>by cases h⟩
 | p :: r, fc, nd, v => by
  rw [Ya1,YaB] at nd;obtain⟨n1,n2⟩:=nd;have ih:=zeO L t r (zB L t fc p) n2 v;rw [List.foldl_cons];refine⟨fun hv=>?_,fun x hx=>?_⟩
  . rw [Ya1,WaU,not_or] at hv
    obtain⟨i1,i2⟩:=ih.1 hv.2;obtain⟨l1,l2⟩:=zfr (L:=L) (t:=t) (fc:=fc) hv.1;exact⟨i1.trans l1,i2.trans l2⟩
  . by_cases hv:v=p.1
    . have hvr:v∉r.map (·.1):=hv ▸ n1
      obtain⟨i1,i2⟩:=ih.1 hvr;have hxp:x=p.2:=by
       rcases WaU.mp hx with e|e
       . exact congrArg Prod.snd e
       . exact absurd (Ya7.mpr ⟨_,e,rfl⟩) hvr
      rw [i1,i2];have hv:=hv.symm;obtain⟨k,z⟩:=p;have hv:k=v:=hv;have hxp:x=z:=hxp;subst hv hxp;unfold zB;dsimp only;cases e:getM fc.1 k with
      | none=>exact .inr ⟨fun y hy=>(by cases hy),by rw [zZ,if_pos rfl],by rw [zZ,if_pos rfl]⟩
      | some y=>
       by_cases hy:L k x<y
       . dsimp only
         rw [if_pos hy];exact .inr ⟨fun y' e'=>by rw [<-WaP e'];exact hy,by rw [zZ,if_pos rfl],by rw [zZ,if_pos rfl]⟩
       . dsimp only
         rw [if_neg hy];exact .inl ⟨y,rfl,#[0],e,rfl⟩
    . obtain⟨l1,l2⟩:=zfr (L:=L) (t:=t) (fc:=fc) (p:=p) hv
      have:=ih.2 x (by
       rcases WaU.mp hx with e|e
       . exact absurd (congrArg Prod.fst e) hv
       . exact e)
      rw [l1,l2] at this;exact this
def ChM(M:MkD)(x v:Int):Prop:=InR x M.cs.length/\(getM (M.cs.getD x.toNat []) v).isSome=true
def cM(M:MkD)(x v:Int):Int:=(getM (M.cs.getD x.toNat []) v).getD 0
theorem looked{M:MkD}{t g:Int}{far came:Tb}(ht:InR t M.cs.length)(nd:((M.cs.getD t.toNat []).map (·.1)).Nodup)(h0:∀ v,ChM M t v->0<=v):Looked (ChM M) (cM M) (at0 M.tp) (at0 M.vp) t g far came ((M.cs.getD t.toNat []).foldl (zB (zK M t g) t) (far,came)).1 ((M.cs.getD t.toNat []).foldl (zB (zK M t g) t) (far,came)).2:=fun v=>by
 have h:=zeO (zK M t g) t (M.cs.getD t.toNat []) (far,came) nd v;refine⟨fun hn=>h.1 fun hm=>hn ⟨ht,?_⟩,fun hc=>?_⟩
 . obtain⟨y,e⟩:=zbd hm;rw [e];rfl
 . obtain⟨x,e⟩:=Wae.mp hc.2
   have hv:=h0 v hc;have:=h.2 x (zbE e);have el:zK M t g v x=g+cM M t v - at0 M.tp t - at0 M.vp v:=by unfold zK cM at0;rw [e,if_pos ht.1,if_pos hv];rfl
   rw [el] at this;exact this
theorem zfc(far hd:Tb)(w:Int):∀ (ks:List Int) (T V:List Int),ks.Nodup->(∀ k∈ks,InR k V.length/\∃ r y,getM hd k=some r/\getM far k=some y/\InR r T.length)->(∀ k∈ks,∀ l∈ks,getM hd k=getM hd l->k=l)->
 (∀ u∈ks,∀ r y,getM hd u=some r->getM far u=some y->at0 (ks.foldl (pay1 far hd w) (T,V)).1 r=at0 T r+(w - y)/\at0 (ks.foldl (pay1 far hd w) (T,V)).2 u=at0 V u - (w - y))/\
 (∀ x,(∀ u∈ks,getM hd u≠some x)->at0 (ks.foldl (pay1 far hd w) (T,V)).1 x=at0 T x)/\∀ v,v∉ks->at0 (ks.foldl (pay1 far hd w) (T,V)).2 v=at0 V v
 | [],T,V,_,_,_=>⟨fun u hu=>(by cases hu),fun _ _=>rfl,fun _ _=>rfl⟩
 | k :: ks, T, V, nd, hk, inj => by
  rw [YaB] at nd;obtain⟨hkV,r,y,e1,e2,hrT⟩:=hk k YaV;have ep:pay1 far hd w (T,V) k=(T.set r.toNat (at0 T r+(w - y)),V.set k.toNat (at0 V k - (w - y))):=by
   unfold pay1 at0;rw [e1,e2,if_pos hrT.1,if_pos hkV.1];rfl
  rw [List.foldl_cons,ep];obtain⟨i1,i2,i3⟩:=zfc far hd w ks (T.set r.toNat (at0 T r+(w - y))) (V.set k.toNat (at0 V k - (w - y))) nd.2 (fun l hl=>by rw [YaN,YaN];exact hk l (YaT _ hl)) (fun a ha b hb=>inj a (YaT _ ha) b (YaT _ hb))
  have oth:∀ u∈ks,getM hd u≠some r:=fun u hu z=>by
   have:=inj u (YaT _ hu) k YaV (z.trans e1.symm);exact nd.1 (this ▸ hu)
  refine⟨fun u hu r' y' a1 a2=>?_,fun x hx=>?_,fun v hv=>?_⟩
  . rcases WaU.mp hu with z|z
    . subst z
      rw [e1] at a1;rw [e2] at a2;cases a1;cases a2;rw [i2 r oth,i3 u nd.1,Jl hrT,Jl hkV,if_pos rfl,if_pos rfl];exact⟨rfl,rfl⟩
    . obtain⟨j1,j2⟩:=i1 u z r' y' a1 a2
      rw [j1,j2,Jl hrT,Jl hkV,if_neg (fun q=>oth u z (by rw [<-q];exact a1)),if_neg (fun q:u=k=>nd.1 (q ▸ z))]
      exact⟨rfl,rfl⟩
  . rw [i2 x fun u hu=>hx u (YaT _ hu),Jl hrT,if_neg fun q=>hx k YaV (by rw [q];exact e1)]
  . rw [WaU,not_or] at hv
    rw [i3 v hv.2,Jl hkV,if_neg hv.1]
theorem paid{far hd:Tb}{w s:Int}{ks T V:List Int}(nd:ks.Nodup)(hs:InR s T.length)(hk:∀ k∈ks,InR k V.length/\∃ r y,getM hd k=some r/\getM far k=some y/\InR r T.length)(inj:∀ k∈ks,∀ l∈ks,getM hd k=getM hd l->k=l)(hn:∀ k∈ks,getM hd k≠some s) :
 Paid hd far s ks w (at0 T) (at0 V) (at0 (ks.foldl (pay1 far hd w) (T.set s.toNat (T.getD s.toNat 0+w),V)).1) (at0 (ks.foldl (pay1 far hd w) (T.set s.toNat (T.getD s.toNat 0+w),V)).2):=by
 obtain⟨i1,i2,i3⟩:=zfc far hd w ks (T.set s.toNat (T.getD s.toNat 0+w)) V nd (fun l hl=>by rw [YaN];exact hk l hl) inj
 refine⟨?_,fun u hu r y a1 a2=>?_,fun x hx hu=>?_,i3⟩
 . rw [i2 s hn,Jl hs,if_pos rfl]
   unfold at0;rw [if_pos hs.1]
 . obtain⟨j1,j2⟩:=i1 u hu r y a1 a2
   rw [j1,j2,Jl hs,if_neg fun q=>hn u hu (by rw [<-q];exact a1)]
   exact⟨rfl,rfl⟩
 . rw [i2 x hu,Jl hs,if_neg hx]
theorem zh.via{H H1 H2:Hp}{as:List Addr}(s1:zh H H1)(n0:∀ a∈as,H a=none)(n1:∀ a∈as,∃ o,H1 a=some o/\∀ f,o≠.ext f)(s2:zh (bar H1 as) H2):zh H H2:=by
 refine zh.trans (fun b o e=>?_) s2
 have hb:b∉as:=fun z=>by rw [n0 b z] at e;cases e
 rw [z5 hb]
 rcases s1 b o e with z|⟨z1,z2,c',z3,z4⟩
 . exact .inl z
 . refine .inr ⟨z1,z2,c',by rw [z5 hb];exact z3,?_⟩
   rw [z5 fun z=>by obtain⟨o',e',n⟩:=n1 c' z;rw [z4] at e';exact n _ (WaP e').symm]
   exact z4
theorem zjG{ks:List Int}{k:Int}(h:k∉ks):putK (encK ks) (Sum.inl k) (.bl true)=encK (ks++[k]):=by
 have:((encK ks).any fun kv=>decide (kv.1=Sum.inl k))=false:=by
  rw [List.any_eq_false];intro kv hkv;obtain⟨l,hl,rfl⟩:=Ya7.mp hkv;intro z;have z:=of_decide_eq_true z;exact h (by cases z;exact hl)
 unfold putK;rw [this,if_neg #[1]]
 unfold encK;rw [Ya2];rfl
theorem zg0{ks:List Int}:(encK ks).length=ks.length:=by unfold encK;rw [YaR]
section
variable{Ch:Int->Int->Prop}{c:Int->Int->Int}{p0:Int->Int}{A B s:Nat}{tp vp:Int->Int}{t h far came:Tb}{start:Int}{done:List Int}
theorem Sea.len(S:Sea Ch c tp vp h start far came done)(M:Mend Ch c p0 A B s tp vp t h):done.length<=A:=by
 have hh:∀ u∈done,getM t ((getM h u).getD 0)=some u:=fun u hu=>by
  obtain⟨r,e⟩:=Wae.mp (S.held u hu).1;rw [e];exact(M.mat _ u).mpr e
 have nd:(done.map fun u=>(getM h u).getD 0).Nodup:=by
  rw [Wac,WaB];refine(Wac.mp S.nd).imp_of_mem fun {a b} ha hb hab e=>hab ?_
  have h1:=hh a ha;rw [e,hh b hb] at h1;exact(WaP h1).symm
 have:=zbH nd (M:=t.map (·.1)) fun x hx=>by
  obtain⟨u,hu,rfl⟩:=Ya7.mp hx;exact zbc (by rw [hh u hu];rfl)
 rw [YaR,YaR] at this;exact Ya5 this M.ot.len
theorem Mend.still(M:Mend Ch c p0 A B s tp vp t h)(S:Sea Ch c tp vp h start far came done)(h0:getM t start=none){whole:Int}{tp' vp':Int->Int}(p:Paid h far start done whole tp vp tp' vp'):∀ x v,getM t x=some v->Ch x v/\tp' x+vp' v=c x v:=fun x v e=>by
 obtain⟨e1,e2⟩:=M.ed x v e;refine⟨e1,?_⟩;have hx:=(M.mat x v).mp e
 by_cases hv:v∈done
 . obtain⟨y,hy⟩:=Wae.mp (S.held v hv).2
   obtain⟨a1,a2⟩:=p.re v hv x y hx hy;rw [a1,a2];omega
 . rw [p.vo v hv,p.to x #[96,h0,e] fun u hu z=>?_]
   . exact e2
   . have:=(M.mat x u).mpr z
     rw [e] at this;exact hv (by rw [WaP this];exact hu)
end
structure Sep(M:MkD):Prop where
 ct:M.aC≠M.aT
 cv:M.aC≠M.aV
 tv:M.aT≠M.aV
 kh:M.aK≠M.aH
structure Fits(M:MkD)(A B:Nat):Prop where
 cl:M.cs.length=A
 tl:M.tp.length=A
 vl:M.vp.length=B
 nd:∀ its∈M.cs,(its.map (·.1)).Nodup
 inn:∀ its∈M.cs,∀ p∈its,InR p.1 B
 hA:A<=60
 hB:B<=2000
section
variable{P:Program}{w:World}{K:Ybf}{mg:#[15]}{base:Heap}{C:Addr}
def zcL(C tb:Addr):Sp:=fun vs H Q E=>∃ (m:Addr) (s A B:Nat) (M:MkD) (p0 f:Int->Int),vs=[.ref m,.int (s:Int)]/\TabU tb H/\Mkt C H m M/\Sep M/\Fits M A B/\s<A/\Mend (ChM M) (cM M) p0 A B s (at0 M.tp) (at0 M.vp) M.tk M.hd/\(∀ x,InR x A->ChM M x (f x))/\(∀ x y,InR x A->InR y A->f x=f y->x=y)/\
 ∀ tp' vp' tk' hd' H',tp'.length=A->vp'.length=B->Mend (ChM M) (cM M) p0 A B (s+1) (at0 tp') (at0 vp') tk' hd'->zh (bar H [M.aT,M.aV,M.aK,M.aH]) H'->Mkt C H' m { M with tp:=tp',vp:=vp',tk:=tk',hd:=hd' }->Q .non H'
theorem zlU{tb:Addr}(cl:Cls K C)(n5:zR K C "taken")(n4:zR K C "holders")(GL:Df P w K mg base 1 "look_from" ["market", "turn", "gone", "far", "came"] (zcX C))(GN:Df P w K mg base 4 "nearest" ["far", "done"] (zb0 tb))(GP:Df P w K mg base 1 "change_prices" ["market", "start", "whole", "far", "done"] (zdr C))(GM:Df P w K mg base 1 "move_along" ["choice", "came", "taken", "holders"] spMove)
 {f:Addr} {fd:FuncData} (F:Fun K "serve" "serve" zce f fd):FnOk P w K mg base (CXR P w) 5 f fd ["market", "start"] (zcL C tb):=by
 have S:FnScope ["market", "start", "far", "came", "done", "visit"] ["market", "start"] (zg zce):=#[10]
 refine F.okR S (fun vs H Q E h=>?_) (fun cdv A outer s H vs Q E hr h=>?_)
 . obtain⟨_,_,_,_,_,_,_,rfl,_⟩:=h;rfl
 have hu:=ja hr;refine⟨_,zP (ji (i:=2) S.nd rfl (.inl rfl) JB) (zP (ji (i:=3) S.nd rfl (.inl rfl) JB) (zP (ji (i:=4) S.nd rfl (.inl rfl) JB)
  (zP (jT (jE GL #[7] rfl jG (zl (pv 0) (zl (pv 1) (zl jO (zl (pv 2) (zl (pv 3) zF))))))) (zP (ji (i:=5) S.nd rfl (.inl rfl) (jE GN #[7] rfl jG (zl (pv 2) (zl (pv 4) zF))))
  (zP (zdp WaC (Zk (zgZ hu (pv 5) (jA (pv 0) rfl)))
   (zP (Jw hu (pv 4) (pv 5) zeX rfl) (zP (jT (jE GL #[7] rfl jG (zl (pv 0) (zl (jU hu (jA (pv 0) rfl) (pv 5) #[4]) (zl (jU hu (pv 2) (pv 5) #[4]) (zl (pv 2) (zl (pv 3) zF)))))))
    (jf (ji (i:=5) S.nd rfl (.inl rfl) (jE GN #[7] rfl jG (zl (pv 2) (zl (pv 4) zF))))))))
  (zP (jT (jE GP #[7] rfl jG (zl (pv 0) (zl (pv 1) (zl (jU hu (pv 2) (pv 5) #[4]) (zl (pv 2) (zl (pv 4) zF)))))))
   (jf (jT (jE GM #[7] rfl jG (zl (pv 5) (zl (pv 3) (zl (jA (pv 0) rfl) (zl (jA (pv 0) rfl) zF))))))))))))),?_⟩
 obtain⟨m,n,A',B',M,p0,g,rfl,tu,hM,sep,fit,hs,hMe,hg,ginj,q⟩:=h;have hst:InR (n:Int) A':=⟨#[0],#[0]⟩
 have h0:getM M.tk (n:Int)=none:=by
  cases e:getM M.tk (n:Int) with
  | none=>rfl
  | some v=>have:=(hMe.dom n).mp (by rw [e];rfl);omega
 have row:∀ r,InR r A'->M.cs.getD r.toNat []∈M.cs:=fun r hr=>by
  obtain⟨r0,r1⟩:=hr;have:=fit.cl;rw [YaP,YaQ (show r.toNat<M.cs.length by omega)]
  exact Ya4 _
 have rlen:∀ r,InR r A'->(M.cs.getD r.toNat []).length<=B':=fun r hr=>by
  have:=Zg (fit.nd _ (row r hr)) fun x hx=>by
   obtain⟨p,hp,rfl⟩:=Ya7.mp hx;exact fit.inn _ (row r hr) p hp
  rwa [YaR] at this
 have hCh:∀ x v,ChM M x v->InR v B':=fun x v hc=>by
  obtain⟨y,e⟩:=Wae.mp hc.2;exact fit.inn _ (row x (fit.cl ▸ hc.1)) _ (zbE e)
 have lkd:∀ r wh far came,InR r A'->Looked (ChM M) (cM M) (at0 M.tp) (at0 M.vp) r wh far came ((M.cs.getD r.toNat []).foldl (zB (zK M r wh) r) (far,came)).1 ((M.cs.getD r.toNat []).foldl (zB (zK M r wh) r) (far,came)).2:=fun r wh far came hr=>looked (fit.cl ▸ hr) (fit.nd _ (row r hr)) fun v hc=>(hCh r v hc).1
 have big:∀ {x:Nat},x<=200000->x<sizeLine:=fun {x} hx=>Waq hx #[1]
 refine fun fa hfa ca hca da hda=>?_
 have ncf:ca≠fa:=#[96,zf,hca]
 have ndc:da≠ca:=#[96,zf,hda]
 have ndf:da≠fa:=fun z=>by rw [z,zd ncf.symm,zf] at hda;cases hda
 have s3:=((zG hfa (.dK [])).trans ((zG hca (.dK [])).trans (zG hda (.dK [])))).x;have f3:upd (upd (upd H fa (.dK [])) ca (.dK [])) da (.dK []) fa=some (.dK (encM [])):=by rw [zd ndf.symm,zd ncf.symm,zf];rfl
 have c3:upd (upd (upd H fa (.dK [])) ca (.dK [])) da (.dK []) ca=some (.dK (encM [])):=by rw [zd ndc.symm,zf];rfl
 have d3:upd (upd (upd H fa (.dK [])) ca (.dK [])) da (.dK []) da=some (.dK (encK [])):=zf;rw [zd ncf] at hca;rw [zd ndc,zd ndf] at hda;generalize upd (upd (upd H fa (.dK [])) ca (.dK [])) da (.dK [])=H3 at *;have mk:∀ {H':Hp},zh H H'->Mkt C H' m M:=fun sx=>hM.keep fun b o e nx=>sx.at e nx
 have hpos:∀ r,InR r A'->0<=r/\r<(M.cs.length:Int)/\r<(M.tp.length:Int)/\∀ p∈M.cs.getD r.toNat [],InR p.1 M.vp.length:=fun r hr=>⟨hr.1,by rw [fit.cl];exact hr.2,by rw [fit.tl];exact hr.2,fun p hp=>by rw [fit.vl];exact fit.inn _ (row r hr) p hp⟩
 obtain⟨p1,p2,p3,p4⟩:=hpos n hst;have hB:=fit.hB;have hA:=fit.hA;have viaX:∀ {H1 H2:Hp} {x y:HO},zh H H1->H1 fa=some x->(∀ f,x≠.ext f)->H1 ca=some y->(∀ f,y≠.ext f)->zh (bar H1 [fa,ca]) H2->zh H H2:=fun sx e1 n1 e2 n2 s2=>zh.via sx (fun a ha=>by
  rcases WaU.mp ha with z|z
  . rw [z];exact hfa
  . rw [Ya6.mp z];exact hca) (fun a ha=>by
  rcases WaU.mp ha with z|z
  . rw [z];exact⟨_,e1,n1⟩
  . rw [Ya6.mp z];exact⟨_,e2,n2⟩) s2
 refine⟨.ref m,rfl,.int n,rfl,.ref fa,rfl,.ref ca,rfl,m,n,0,fa,ca,M,[],[],rfl,mk s3,p1,p2,p3,p4,f3,c3,ncf.symm,?_,?_,fun H4 s4 f4 c4=>?_⟩
 . have:=rlen n hst;exact big (by simp only [List.length_nil];omega)
 . have:=rlen n hst;exact big (by simp only [List.length_nil];omega)
 have d4:H4 da=some (.dK (encK [])):=s4.at ((z5 (by simp [ndf,ndc])).trans d3)
 have s4:=viaX s3 f3 #[95] c3 #[95] s4
 have S0:=Sea.begin_ (h:=M.hd) (lkd n 0 [] [] hst);have l0:=zbb (zK M n 0) n (M.cs.getD (n:Int).toNat []) ([],[]);have r0:=rlen n hst;generalize (M.cs.getD (n:Int).toNat []).foldl (zB (zK M n 0) n) ([],[])=fc at *;obtain⟨far,came⟩:=fc;simp only [List.length_nil,Nat.zero_add] at l0;obtain⟨v0,x0,hv0,hx0⟩:=S0.open_ hMe hst h0 hg ginj;refine⟨.ref fa,rfl,.ref da,rfl,fa,da,far,[],rfl,tu.same s4,f4,d4,ndf.symm,big (by have:=l0.1;omega),⟨v0,x0,hx0,hv0⟩,fun v wh H5 hv hvd hmin s5=>?_⟩
 refine⟨fun k σ' H'=>∃ (far came:Tb) (done:List Int) (v wh:Int),σ'=[some (.ref m),some (.int n),some (.ref fa),some (.ref ca),some (.ref da),some (.int v)]/\k=A'+1 - done.length/\Sea (ChM M) (cM M) (at0 M.tp) (at0 M.vp) M.hd n far came done/\v∉done/\getM far v=some wh/\(∀ u z,getM far u=some z->u∉done->wh<=z)/\far.length<=(done.length+1)*B'/\came.length<=(done.length+1)*B'/\zh H H'/\H' fa=some (.dK (encM far))/\H' ca=some (.dK (encM came))/\H' da=some (.dK (encK done)),
  ⟨_,far,came,[],v,wh,rfl,rfl,S0,hvd,hv,hmin,by have:=l0.1;simp only [List.length_nil];omega,by have:=l0.2;simp only [List.length_nil];omega,s4.trans s5,s5.at f4,s5.at c4,s5.at d4⟩,?_⟩
 clear S0 l0 r0 hv0 hx0 hmin hv hvd s5 f4 c4 d4 s4 f3 c3 d3 s3
 rintro k σ' H5 ⟨far,came,done,v,wh,rfl,rfl,Se,hvd,hv,hmin,lf,lc,s5,f5,c5,d5⟩
 have M5:=mk s5;have dlen:=Se.len hMe;have dB:(done.length+1)*B'<=61*B':=Nat.mul_le_mul_right _ #[0]
 have dg:DGet H5 fa (.int v) (some (.int wh)):=by have:=DGet.k (k:=Sum.inl v) f5;rwa [jz,hv] at this
 refine⟨.int v,rfl,.ref m,rfl,m,C,M.dx,mfs M,.ref M.aH,rfl,M5.ins,cl,n4,rfl,M.aH,_,rfl,DGet.k (k:=Sum.inl v) M5.dh,_,rfl,?_⟩
 rw [jz];cases hr:getM M.hd v with
 | some r=>
  show if true=true then _ else _
  rw [if_pos rfl];have hrA:InR r A':=(hMe.oh.get hr).2;refine⟨_,fun σ' H' z=>z,?_⟩
  refine⟨.ref da,rfl,.int v,rfl,da,_,rfl,DPut.k (k:=Sum.inl v) d5 (by rw [zg0];exact big #[0]),?_⟩
  rw [zjG hvd];have s6:=s5.chg (o:=.dK (encK (done++[v]))) hda d5 #[95]
  have f6:upd H5 da (.dK (encK (done++[v]))) fa=some (.dK (encM far)):=(zd ndf.symm).trans f5;have c6:upd H5 da (.dK (encK (done++[v]))) ca=some (.dK (encM came)):=(zd ndc.symm).trans c5;have d6:upd H5 da (.dK (encK (done++[v]))) da=some (.dK (encK (done++[v]))):=zf;generalize upd H5 da (.dK (encK (done++[v])))=H6 at *;have M6:=mk s6;have dg6:DGet H6 fa (.int v) (some (.int wh)):=by have:=DGet.k (k:=Sum.inl v) f6;rwa [jz,hv] at this
  have dh6:DGet H6 M.aH (.int v) (some (.int r)):=by have:=DGet.k (k:=Sum.inl v) M6.dh;rwa [jz,hr] at this
  obtain⟨p1,p2,p3,p4⟩:=hpos r hrA;have rl:=rlen r hrA;refine⟨.ref m,rfl,.ref m,rfl,m,C,M.dx,mfs M,.ref M.aH,rfl,M6.ins,cl,n4,rfl,.int v,rfl,M.aH,.int r,rfl,dh6,.ref fa,rfl,.int v,rfl,fa,.int wh,rfl,dg6,.ref fa,rfl,.ref ca,rfl,m,r,wh,fa,ca,M,far,came,rfl,M6,p1,p2,p3,p4,f6,c6,ncf.symm,big #[0],big #[0],fun H7 s7 f7 c7=>?_⟩
  have d7:H7 da=some (.dK (encK (done++[v]))):=s7.at ((z5 (by simp [ndf,ndc])).trans d6)
  have s7:=viaX s6 f6 #[95] c6 #[95] s7
  have S1:=Se.next hMe hvd hv (fun u hu y e=>hmin u y e hu) hr (lkd r wh far came hrA)
  have l1:=zbb (zK M r wh) r (M.cs.getD r.toNat []) (far,came);generalize (M.cs.getD r.toNat []).foldl (zB (zK M r wh) r) (far,came)=fc at *;obtain⟨far',came'⟩:=fc;obtain⟨l1,l2⟩:=l1;have l1:far'.length<=far.length+(M.cs.getD r.toNat []).length:=l1;have l2:came'.length<=came.length+(M.cs.getD r.toNat []).length:=l2;have dl2:=S1.len hMe;rw [YaS,List.length_singleton] at dl2
  have ms:(done.length+1+1)*B'=(done.length+1)*B'+B':=Nat.succ_mul _ _;obtain⟨v1,x1,hv1,hx1⟩:=S1.open_ hMe hst h0 hg ginj;refine⟨.ref fa,rfl,.ref da,rfl,fa,da,far',done++[v],rfl,tu.same s7,f7,d7,ndf.symm,big #[0],⟨v1,x1,hx1,hv1⟩,fun v2 wh2 H8 hv2 hvd2 hmin2 s8=>?_⟩
  refine⟨A'+1 - (done++[v]).length,by rw [YaS,List.length_singleton];omega,far',came',done++[v],v2,wh2,rfl,rfl,S1,hvd2,hv2,hmin2,?_,?_,s7.trans s8,s8.at f7,s8.at c7,s8.at d7⟩
  . rw [YaS,List.length_singleton];omega
  . rw [YaS,List.length_singleton];omega
 | none=>
  show if false=true then _ else _
  rw [if_neg #[1]]
  have hk:∀ k∈done,InR k M.vp.length/\∃ r y,getM M.hd k=some r/\getM far k=some y/\InR r M.tp.length:=fun k hk=>by
   obtain⟨r,e1⟩:=Wae.mp (Se.held k hk).1;obtain⟨y,e2⟩:=Wae.mp (Se.held k hk).2;rw [fit.vl,fit.tl];exact⟨(hMe.oh.get e1).1,r,y,e1,e2,(hMe.oh.get e1).2⟩
  have hstT:InR (n:Int) M.tp.length:=by rw [fit.tl];exact hst
  have pd:=paid (w:=wh) Se.nd hstT hk (fun k hk' l hl e=>by
   obtain⟨_,r,y,e1,_⟩:=hk k hk';have h1:=(hMe.mat r k).mpr e1;have h2:=(hMe.mat r l).mpr (e ▸ e1);rw [h1] at h2;exact WaP h2) (fun k _ e=>by
   have:=(hMe.mat _ k).mpr e;rw [h0] at this;cases this)
  have pl:=zcz far M.hd wh done (M.tp.set (n:Int).toNat (M.tp.getD (n:Int).toNat 0+wh),M.vp);have naF:∀ {a:Addr} {o:HO},H a=some o->a≠fa/\a≠ca/\a≠da:=fun e=>⟨fun z=>(by rw [z,hfa] at e;cases e),fun z=>(by rw [z,hca] at e;cases e),fun z=>(by rw [z,hda] at e;cases e)⟩
  refine⟨.ref m,rfl,.int n,rfl,.ref fa,rfl,.int v,rfl,fa,.int wh,rfl,dg,.ref fa,rfl,.ref da,rfl,m,n,wh,fa,da,M,far,done,rfl,M5,hstT,f5,d5,hk,sep.tv,ndf,(naF hM.dh).2.2.symm,fun H6 s6 t6 v6=>?_⟩
  generalize done.foldl (pay1 far M.hd wh) (M.tp.set (n:Int).toNat (M.tp.getD (n:Int).toNat 0+wh),M.vp)=fc at *;obtain⟨T',V'⟩:=fc;obtain⟨pl1,pl2⟩:=pl;have pl1:T'.length=A':=by rw [show T'.length=_ from pl1,YaN,fit.tl]
  have pl2:V'.length=B':=(show V'.length=_ from pl2).trans fit.vl
  obtain⟨wp,r0,hr0⟩:=Se.way hMe hst h0 hCh hvd hv pd;obtain⟨ca',hca',wy⟩:=wp.way;have kp6:∀ {b:Addr} {o:HO},H5 b=some o->(∀ f,o≠.ext f)->b≠M.aT->b≠M.aV->b≠da->H6 b=some o:=fun e nx e1 e2 e3=>s6.at ((z5 (by simp [e1,e2,e3])).trans e) nx
  have nT:∀ {b:Addr} {o:HO},H b=some o->(∀ l,o≠.lst l)->b≠M.aT/\b≠M.aV:=fun e nl=>⟨fun z=>by rw [z,hM.lt] at e;exact nl _ (WaP e).symm,fun z=>by rw [z,hM.lv] at e;exact nl _ (WaP e).symm⟩
  have nD:∀ {b:Addr} {o:HO},H b=some o->(∀ l,o≠.dK l)->b≠M.aK/\b≠M.aH:=fun e nl=>⟨fun z=>by rw [z,hM.dk] at e;exact nl _ (WaP e).symm,fun z=>by rw [z,hM.dh] at e;exact nl _ (WaP e).symm⟩
  have ins6:H6 m=some (.ins C M.dx (mfs M)):=kp6 M5.ins #[95] (nT hM.ins #[95]).1 (nT hM.ins #[95]).2 (naF hM.ins).2.2
  have k6:H6 M.aK=some (.dK (encM M.tk)):=kp6 M5.dk #[95] (nT hM.dk #[95]).1 (nT hM.dk #[95]).2 (naF hM.dk).2.2
  have h6:H6 M.aH=some (.dK (encM M.hd)):=kp6 M5.dh #[95] (nT hM.dh #[95]).1 (nT hM.dh #[95]).2 (naF hM.dh).2.2
  have c6:H6 ca=some (.dK (encM came)):=kp6 c5 #[95] (naF hM.lt).2.1.symm (naF hM.lv).2.1.symm ndc.symm
  have nKT:=nT hM.dk #[95]
  have nHT:=nT hM.dh #[95]
  refine⟨.int v,rfl,.ref ca,rfl,.ref m,rfl,m,C,M.dx,mfs M,.ref M.aK,rfl,ins6,cl,n5,rfl,.ref m,rfl,m,C,M.dx,mfs M,.ref M.aH,rfl,ins6,cl,n4,rfl,v,ca,M.aK,M.aH,came,ca',M.tk,M.hd,_,_,n,A',B',_,rfl,fun c s e=>((hca' c s).mp e).2,wy,
   ⟨hMe.still Se h0 pd,⟨fun s x _=>hMe.mat s x,fun s e=>by have:=(hMe.mat s v).mp e;rw [hr] at this;cases this⟩,hMe.ot,hMe.oh,⟨r0,(hca' v r0).mpr ⟨.inr rfl,hr0⟩,rfl⟩,fun _ _=>rfl,fun _=>Iff.rfl,fun _ z=>z⟩,#[0],hB,c6,k6,h6,(naF hM.dk).2.1.symm,(naF hM.dh).2.1.symm,sep.kh,fun t' h' H7 mv s7 k7 h7=>?_⟩
  have bn:∀ {a:Addr} {L:List Addr},H a=none->bar H L a=none:=fun {a L} e=>by unfold bar;split<;>first|rfl|exact e
  have sF6:zh (bar H [M.aT,M.aV,M.aK,M.aH]) H6:=zh.via ((J9 _ _).x.trans s5) (fun a ha=>by
   rcases WaU.mp ha with z|z
   . exact jH (by rw [z];simp)
   . rcases WaU.mp z with z|z
     . exact jH (by rw [z];simp)
     . rw [Ya6.mp z];exact bn hda) (fun a ha=>by
   rcases WaU.mp ha with z|z
   . rw [z];exact⟨_,M5.lt,#[95]⟩
   . rcases WaU.mp z with z|z
     . rw [z];exact⟨_,M5.lv,#[95]⟩
     . rw [Ya6.mp z];exact⟨_,d5,#[95]⟩) s6
  have sF:zh (bar H [M.aT,M.aV,M.aK,M.aH]) H7:=zh.via sF6 (fun a ha=>jH (by
   rcases WaU.mp ha with z|z
   . rw [z];simp
   . rw [Ya6.mp z];simp)) (fun a ha=>by
   rcases WaU.mp ha with z|z
   . rw [z];exact⟨_,k6,#[95]⟩
   . rw [Ya6.mp z];exact⟨_,h6,#[95]⟩) s7
  have kp7:∀ {b:Addr} {o:HO},H b=some o->(∀ f,o≠.ext f)->b≠M.aT->b≠M.aV->b≠M.aK->b≠M.aH->H7 b=some o:=fun e nx e1 e2 e3 e4=>sF.at ((z5 (by simp [e1,e2,e3,e4])).trans e) nx
  have kp8:∀ {b:Addr} {o:HO},H b=some o->(∀ f,o≠.ext f)->(∀ l,o≠.lst l)->(∀ l,o≠.dK l)->H7 b=some o:=fun e nx nl nd=>kp7 e nx (nT e nl).1 (nT e nl).2 (nD e nd).1 (nD e nd).2
  refine q T' V' t' h' H7 pl1 pl2 (hMe.next Se hvd hv (fun u hu y e=>hmin u y e hu) pd mv) sF ⟨?_,?_,?_,hM.len,fun i d e=>?_,?_,?_,k7,h7⟩
  . exact kp8 hM.ins #[95] #[95] #[95]
  . exact kp8 hM.own #[95] #[95] #[95]
  . have:=nD hM.lc #[95]
    exact kp7 hM.lc #[95] sep.ct sep.cv this.1 this.2
  . obtain⟨o,ho⟩:=hM.dc i d e
    exact⟨o,kp8 ho #[95] #[95] #[95]⟩
  . exact s7.at ((z5 (by simp [nKT.1.symm,nHT.1.symm])).trans t6)
  . exact s7.at ((z5 (by simp [nKT.2.symm,nHT.2.symm])).trans v6)
end
def cst1(V:List Win)(clan p:Int):Int:=if(V.getD p.toNat (0,0,0,none)).1=clan then 0 else 1
def z6(V:List Win)(clan:Int)(pl:List Int):Tb:=pl.map fun p=>(p,cst1 V clan p)
def csOf(V:List Win)(row:List Int)(ch:List (List Int)):List Tb:=List.zipWith (z6 V) row ch
section
variable{P:Program}{w:World}{K:Ybf}{mg:#[15]}{base:Heap}{C:Addr}
theorem za9{G:Hp}:∀ {xs:List V} {l:List Int},RdVs K G xs (l.map .int)->xs=l.map .int
 | [],[],_=>rfl
 | [],_::_,h=>by cases h
 | _::_,[],h=>by cases h
 | x :: xs, n :: l, h => by
  cases h with
  | cons a b=>cases a;rw [za9 b];rfl
theorem zlG{t:Tb}{k v:Int}(h:getM t k=none):putM t k v=t++[(k,v)]:=by
 unfold putM;rw [if_neg];intro z;obtain⟨p,hp,e⟩:=WaL.mp z;unfold getM at h;rw [Option.map_eq_none_iff,Was] at h;exact h p hp e
theorem zhc{l:List Int}(nd:l.Nodup){j:Nat}(hj:j<l.length):l[j]∉l.take j:=fun hm=>by
 obtain⟨k,hk,e⟩:=Yam hm;rw [List.getElem_take] at e;rw [WaI] at hk;have:=(WaG nd).mp e
 omega
def zcc(K:Ybf):Sp:=fun vs H Q E=>∃ (v c r:Addr) (G:Hp) (V:List Win) (ch:List (List Int)) (row:List Int),vs=[.ref v,.ref c,.ref r]/\Sub G H/\RdV K G (.ref v) (.list (V.map dW))/\RdV K G (.ref c) (.list (ch.map dI))/\RdV K G (.ref r) (dI row)/\row.length=ch.length/\ch.length<=60/\(∀ pl∈ch,pl.Nodup/\pl.length<=2000/\∀ x∈pl,InR x V.length)/\
 ∀ (aC:Addr) (dcs:List Addr) H',zh H H'->H aC=none->H' aC=some (.lst (dcs.map .ref))->dcs.length=ch.length->(∀ (i:Nat) d,dcs[i]?=some d->∃ o,H' d=some (.frz o (.dK (encM ((csOf V row ch).getD i [])))))->Q (.ref aC) H'
theorem zjU(hz:mg "zip" = none){f:Addr}{fd:FuncData}(F:Fun K "costs_of_turns" "costs_of_turns" zc7 f fd):FnOk P w K mg base (CXR P w) 1 f fd ["visits", "choices", "row"] (zcc K):=by
 have S:FnScope ["visits", "choices", "row", "found", "clan", "places", "costs", "place"] ["visits", "choices", "row"] (zg zc7):=#[10]
 refine F.okR S (fun vs H Q E h=>?_) (fun cdv A outer s H vs Q E hr h=>?_)
 . obtain⟨_,_,_,_,_,_,_,rfl,_⟩:=h;rfl
 have hu:=ja hr;refine⟨_,zP (ji (i:=3) S.nd rfl (.inl rfl) (zbX zF)) (zP (Zl WaC rfl (zcF rfl hz (zl (pv 2) (zl (pv 1) zF))) (zbK rfl (JG (jp (i:=4) S.nd rfl (.inl rfl)) (JG (jp (i:=5) S.nd rfl (.inl rfl)) zbU)))
  (zP (ji (i:=6) S.nd rfl (.inl rfl) JB) (zP (Zl WaC rfl (zbC (pv 5)) (jp (i:=7) S.nd rfl (.inl rfl))
   (jf (Jw hu (pv 6) (pv 7) (zfi (zbF zdL (jI zbG (jI Ja (pv 0) (pv 7) #[4]) jO #[4]) (pv 4) (nomark _)) jO jO) rfl)))
   (jf (zci (jT (zdu (pv 3) (zl (pv 6) zF)))))))) (jf (JU (pv 3)))),?_⟩
 obtain⟨v,c,r,G,U,ch,row,rfl,sG,rv,rc,rr,hl,h60,hpl,q⟩:=h;obtain⟨xv,qv,rvs⟩:∃ xs,SqL K G v xs/\RdVs K G xs (U.map dW):=by cases rv with|lst a b=>exact⟨_,a,b⟩
 obtain⟨xc,qc,rcs⟩:∃ xs,SqL K G c xs/\RdVs K G xs (ch.map dI):=by cases rc with|lst a b=>exact⟨_,a,b⟩
 obtain⟨xr,qr,rrs⟩:∃ xs,SqL K G r xs/\RdVs K G xs (row.map .int):=by cases rr with|lst a b=>exact⟨_,a,b⟩
 have rrs:=za9 rrs;subst rrs;refine⟨Wa9 _,fun aC hC=>?_⟩
 have s1:=(zG hC (.lst [])).x;refine⟨.ref r,rfl,.ref c,rfl,r,c,rfl,⟨_,(sG.trans s1).seq qr⟩,⟨_,(sG.trans s1).seq qc⟩,fun i n σ' H'=>i<=ch.length/\n=ch.length - i/\(∃ t4 t5 t6 t7,σ'=[some (.ref v),some (.ref c),some (.ref r),some (.ref aC),t4,t5,t6,t7])/\zh H H'/\∃ dcs:List Addr,H' aC=some (.lst (dcs.map .ref))/\dcs.length=i/\∀ (j:Nat) d,dcs[j]?=some d->∃ o,H' d=some (.frz o (.dK (encM ((csOf U row ch).getD j [])))),
  ⟨_,Wa9 _,rfl,⟨none,none,none,none,rfl⟩,s1,[],zf,rfl,fun j d e=>by simp at e⟩,?_⟩
 rintro i n σ' H' ⟨hi,rfl,⟨t4,t5,t6,t7,rfl⟩,s',dcs,hdl,hdn,hdc⟩
 have g':=sG.trans s'
 by_cases hlt:i<ch.length
 . have hir:i<row.length:=#[0]
   obtain⟨y,hy,ry⟩:=rcs.get (i:=i) (d:=dI ch[i]) (by rw [Ya0,YaQ hlt];rfl)
   obtain⟨pa,zs,rfl,qz,rz⟩:∃ pa zs,y=.ref pa/\SqL K G pa zs/\RdVs K G zs (ch[i].map .int):=by
    unfold dI at ry;cases ry with
    | lst a b=>exact⟨_,_,rfl,a,b⟩
   have rz:=za9 rz;subst rz;have hxr:(row.map V.int)[i]?=some (.int row[i]):=by rw [Ya0,YaQ hir];rfl
   obtain⟨nd,pl2,hin⟩:=hpl _ (Ya4 hlt);have hcs:(csOf U row ch).getD i []=z6 U row[i] ch[i]:=by
    unfold csOf;rw [YaP,List.getElem?_zipWith,YaQ hir,YaQ hlt];rfl
   generalize ch[i]=pl at *;generalize row[i]=clan at *;refine .inr ⟨⟨_,_,_,_,g'.seq qr,g'.seq qc,hxr,hy⟩,fun σ' H'=>(∃ t4 t5 t6 t7,σ'=[some (.ref v),some (.ref c),some (.ref r),some (.ref aC),t4,t5,t6,t7])/\zh H H'/\∃ dcs:List Addr,H' aC=some (.lst (dcs.map .ref))/\dcs.length=i+1/\∀ (j:Nat) d,dcs[j]?=some d->∃ o,H' d=some (.frz o (.dK (encM ((csOf U row ch).getD j [])))),fun σ2 H2 z=>⟨ch.length - (i+1),#[0],hlt,rfl,z⟩,?_⟩
   rintro x H3 ⟨p,x',y',hp,rfl,rfl,hall⟩
   obtain⟨e1,e2⟩:=hall _ _ (g'.seq qr) (g'.seq qc);rw [hxr] at e1;rw [hy] at e2;cases e1;cases e2;refine⟨p,[.int clan,.ref pa],rfl,SqT.of zf,rfl,_,_,rfl,_,_,rfl,rfl,?_⟩;refine fun dd hdd=>?_
   have hpd:dd≠p:=#[96,zf,hdd]
   have hdd':H' dd=none:=by rwa [zd hpd] at hdd
   have s4:=s'.trans ((zG hp (.tup [.int clan,.ref pa])).trans (zG hdd (.dK []))).x;have u4:∀ b o,H' b=some o->upd (upd H' p (.tup [.int clan,.ref pa])) dd (.dK []) b=some o:=fun b o e=>by
    rw [zd (fun z=>by rw [z,hdd'] at e;cases e),zd #[96,hp,e]];exact e
   have hd4:upd (upd H' p (.tup [.int clan,.ref pa])) dd (.dK [])=upd (upd H' p (.tup [.int clan,.ref pa])) dd (.dK (encM (z6 U clan []))):=rfl;have n0:H dd=none:=s'.free hdd';have aCd:aC≠dd:=fun z=>by rw [z,hdd'] at hdl;cases hdl
   generalize hH4:upd (upd H' p (.tup [.int clan,.ref pa])) dd (.dK [])=H4 at *;have h4:H4 dd=some (.dK []):=by rw [<-hH4];exact zf
   have sU:∀ o,zh H (upd H4 dd o):=fun o=>s4.chg n0 h4 #[95]
   refine⟨.ref pa,rfl,pa,rfl,⟨_,(sG.trans s4).seq qz⟩,fun j m σ2 H2=>j<=pl.length/\m=pl.length - j/\(∃ t7,σ2=[some (.ref v),some (.ref c),some (.ref r),some (.ref aC),some (.int clan),some (.ref pa),some (.ref dd),t7])/\H2=upd H4 dd (.dK (encM (z6 U clan (pl.take j)))),
    ⟨_,Wa9 _,rfl,⟨_,rfl⟩,by rw [<-hH4,Zm];rfl⟩,?_⟩
   rintro j m σ2 H2 ⟨hj,rfl,⟨t7',rfl⟩,rfl⟩
   have g2:=sG.trans (sU (.dK (encM (z6 U clan (pl.take j)))))
   by_cases hjl:j<pl.length
   . have hzj:(pl.map V.int)[j]?=some (.int pl[j]):=by rw [Ya0,YaQ hjl];rfl
     refine .inr ⟨⟨_,_,g2.seq qz,hzj⟩,fun σ2 H2=>(∃ t7,σ2=[some (.ref v),some (.ref c),some (.ref r),some (.ref aC),some (.int clan),some (.ref pa),some (.ref dd),t7])/\H2=upd H4 dd (.dK (encM (z6 U clan (pl.take (j+1))))),fun σ2 H2 z=>⟨pl.length - (j+1),#[0],hjl,rfl,z⟩,?_⟩
     rintro x H5 ⟨e5,hall⟩
     have e5:=e5.symm;subst e5;have e:=hall _ (g2.seq qz);rw [hzj] at e;cases e;have hIn:=hin _ (Ya4 hjl);have htk:pl.take (j+1)=pl.take j++[pl[j]]:=by rw [WaD,YaQ hjl];rfl
     have hnew:getM (z6 U clan (pl.take j)) pl[j]=none:=by
      cases e:getM (z6 U clan (pl.take j)) pl[j] with
      | none=>rfl
      | some z=>
       have:=zbc (t:=z6 U clan (pl.take j)) (k:=pl[j]) (by rw [e];rfl)
       unfold z6 at this;rw [YaD] at this;obtain⟨k,hk,ek⟩:=Ya7.mp this;have ek:k=pl[j]:=ek;exact absurd (ek ▸ hk) (zhc nd hjl)
     have hlen:(z6 U clan (pl.take j)).length<sizeLine:=by
      unfold z6;rw [YaR,WaI];exact Waq (show _<=2000 by omega) #[1]
     have hfin:putM (z6 U clan (pl.take j)) pl[j] (cst1 U clan pl[j])=z6 U clan (pl.take (j+1)):=by
      rw [zlG hnew,htk];unfold z6;rw [Ya2];rfl
     have hcd:(U.map dW)[pl[j].toNat]?=some (dW (U.getD pl[j].toNat (0,0,0,none))):=by
      obtain⟨i0,i1⟩:=hIn;rw [Ya0,YaP,YaQ (show pl[j].toNat<U.length by omega)];rfl
     have hcst:cst1 U clan pl[j]=if(U.getD pl[j].toNat (0,0,0,none)).1=clan then 0 else 1:=rfl
     generalize pl[j]=k at *;generalize U.getD k.toNat (0,0,0,none)=wn at *;obtain⟨wv,hwv,rw'⟩:=rvs.get hcd;obtain⟨wa,ws,rfl,qw,rws⟩:∃ wa ws,wv=.ref wa/\SqT K G wa ws/\RdVs K G ws [.int wn.1,.int wn.2.1,.int wn.2.2.1,dO wn.2.2.2]:=by
      unfold dW at rw';cases rw' with
      | tup a b=>exact⟨_,_,rfl,a,b⟩
     obtain⟨ws',rfl⟩:∃ ws',ws=.int wn.1::ws':=by
      cases rws with
      | cons a b=>cases a;exact⟨_,rfl⟩
     have hat:atI xv k=some (.ref wa):=by
      have:=jd (xs:=xv) (j:=k.toNat) (v:=.ref wa) hwv;rwa [show((k.toNat:Nat):Int)=k from Int.toNat_of_nonneg hIn.1] at this
     refine⟨.ref v,rfl,.int k,rfl,v,xv,k,.ref wa,rfl,rfl,g2.seq qv,hat,wa,_,0,.int wn.1,rfl,rfl,g2.tup qw,jd (j:=0) rfl,.int clan,rfl,rfl,_,rfl,?_⟩
     have go:∀ x,x=cst1 U clan k->∃ y,([some (V.ref v),some (.ref c),some (.ref r),some (.ref aC),some (.int clan),some (.ref pa),some (.ref dd),some (.int k)]:L2.St)[6]?=some (some y)/\∃ z,([some (V.ref v),some (.ref c),some (.ref r),some (.ref aC),some (.int clan),some (.ref pa),some (.ref dd),some (.int k)]:L2.St)[7]?=some (some z)/\∃ a H6,y=.ref a/\DPut (upd H4 dd (.dK (encM (z6 U clan (pl.take j))))) a z (.int x) H6/\(∃ t7,([some (V.ref v),some (.ref c),some (.ref r),some (.ref aC),some (.int clan),some (.ref pa),some (.ref dd),some (.int k)]:L2.St)=[some (.ref v),some (.ref c),some (.ref r),some (.ref aC),some (.int clan),some (.ref pa),some (.ref dd),t7])/\H6=upd H4 dd (.dK (encM (z6 U clan (pl.take (j+1))))):=fun x hx=>
      ⟨.ref dd,rfl,.int k,rfl,dd,_,rfl,DPut.k (k:=Sum.inl k) zf (by rw [J5];exact hlen),⟨_,rfl⟩,by rw [Zd,Zm,hx,hfin]⟩
     show if decide (V.int wn.1=V.int clan)=true then _ else _
     by_cases hcl:wn.1=clan
     . rw [if_pos (by rw [hcl];exact decide_eq_true rfl)]
       exact go 0 (by rw [hcst,if_pos hcl])
     . rw [if_neg (fun z=>hcl (by have z:=of_decide_eq_true z;cases z;rfl))]
       exact go 1 (by rw [hcst,if_neg hcl])
   . have e:j=pl.length:=#[0]
     subst e;rw [YaH] at g2 ⊢;refine .inl ⟨⟨_,g2.seq qz,by rw [YaR];exact YaY _⟩,dd,_,zf,fun o=>?_⟩
     rw [Zm];have haC:upd H4 dd (.frz o (.dK (encM (z6 U clan pl)))) aC=some (.lst (dcs.map .ref)):=(zd aCd).trans (u4 _ _ hdl);refine⟨.ref aC,rfl,.inl ⟨rfl,_,SqL.of haC⟩,.ref dd,rfl,aC,_,.ref dd,rfl,rfl,haC,by rw [YaR,hdn];exact Waq (show _<=60 by omega) #[1],⟨_,_,_,_,rfl⟩,(sU _).chg hC haC #[95],dcs++[dd],by rw [zf,Ya2];rfl,by rw [YaS,hdn];rfl,fun j d e=>?_⟩
     by_cases hjl:j<dcs.length
     . rw [Yab hjl] at e
       obtain⟨o',ho⟩:=hdc j d e;refine⟨o',?_⟩;rw [zd #[96,hdl,ho],zd (fun z=>by rw [z,hdd'] at ho;cases ho)]
       exact u4 _ _ ho
     . have hj':j=i:=by
        have:=(Ya8.mp e).1;rw [YaS,List.length_singleton] at this
        omega
       subst hj';rw [<-hdn,Yae (YaY _),Wa7] at e;have e:dd=d:=WaP e;subst e;rw [hcs];exact⟨o,by rw [zd aCd.symm];exact zf⟩
 . have e:i=ch.length:=#[0]
   subst e;have lx:xc.length=ch.length:=by rw [rcs.length,YaR]
   exact .inl ⟨⟨_,_,g'.seq qr,g'.seq qc,by rw [YaR,lx,hl,Nat.min_self]⟩,.ref aC,rfl,q aC dcs H' s' hC hdl hdn hdc⟩
end
section
variable{P:Program}{w:World}{K:Ybf}{mg:#[15]}{base:Heap}{C:Addr}
def jm(n:Int)(wn:Win):Int:=if wn.2.2.2=none then 0 else n+1
def zcv(K:Ybf):Sp:=fun vs H Q E=>∃ (wa:Addr) (n:Int) (G:Hp) (wn:Win),vs=[.ref wa,.int n]/\Sub G H/\RdV K G (.ref wa) (dW wn)/\Q (.int (jm n wn)) H
theorem zkT{f:Addr}{fd:FuncData}(F:Fun K "first_price" "first_price" zcC f fd):FnOk P w K mg base (CXR P w) 1 f fd ["visit", "turns"] (zcv K):=by
 have S:FnScope ["visit", "turns"] ["visit", "turns"] (zg zcC):=#[10]
 refine F.okR S (fun vs H Q E h=>?_) (fun cdv A outer s H vs Q E hr h=>?_)
 . obtain⟨_,_,_,_,rfl,_⟩:=h;rfl
 refine⟨_,jf (JU (zfi (Zk (zgr (jI zbG (pv 0) jO #[4]))) jO (Ji zcY (pv 1) jO))),?_⟩
 obtain⟨wa,n,G,wn,rfl,sG,r,q⟩:=h;obtain⟨c,a,b,o⟩:=wn;unfold dW at r;cases r with
 | tup qt rs=>
  cases rs with
  | cons r1 rs=>
   cases rs with
   | cons r2 rs=>
    cases rs with
    | cons r3 rs=>
     cases rs with
     | @cons x4 _ _ _ r4 rs=>
      refine⟨.ref wa,rfl,wa,_,3,x4,rfl,rfl,sG.tup qt,jd (j:=3) rfl,_,rfl,?_⟩
      cases o with
      | none=>
       cases r4;exact q
      | some k=>
       cases r4;exact⟨.int n,rfl,n,1,rfl,rfl,q⟩
def zbR(K:Ybf):List V->Hp->VK->Prop:=fun xs H Q=>∃ p ys,xs=[V.ref p]/\(SqL K H p ys\/SqT K H p ys)/\Q (V.int ys.length) H
def zd2(K:Ybf)(C:Addr):Sp:=fun vs H Q E=>∃ (m dx v aC:Addr) (G:Hp) (U:List Win) (dcs:List Addr),vs=[.ref m,.ref v,.ref aC]/\H m=some (.ins C dx [])/\Sub G (bar H [m])/\RdV K G (.ref v) (.list (U.map dW))/\H aC=some (.lst (dcs.map .ref))/\dcs.length<=60/\U.length<=2000/\
 ∀ (aT aV aK aH:Addr) H',zh (bar H [m]) H'->H aT=none->H aV=none->H aK=none->H aH=none->aT≠aV->aK≠aH->
  H' m=some (.ins C dx [("costs", .ref aC),("turn_prices", .ref aT),("visit_prices", .ref aV),("taken", .ref aK),("holders", .ref aH)])->
  H' aT=some (.lst ((List.replicate dcs.length (0:Int)).map .int))->H' aV=some (.lst ((U.map (jm dcs.length)).map .int))->H' aK=some (.dK [])->H' aH=some (.dK [])->Q .non H'
theorem zlH(cl:Cls K C)(n1:zR K C "costs")(n2:zR K C "turn_prices")(n3:zR K C "visit_prices")(n5:zR K C "taken")(n4:zR K C "holders")(hlen:mg "len" = none)(GF:Df P w K mg base 1 "first_price" ["visit", "turns"] (zcv K)){f:Addr}{fd:FuncData}(F:Fun K "__init__" "Market.__init__" Jk f fd):FnOk P w K mg base (CXR P w) 2 f fd ["self", "visits", "costs"] (zd2 K C):=by
 have S:FnScope ["self", "visits", "costs"] ["self", "visits", "costs"] (zg Jk):=#[10]
 refine F.okR S (fun vs H Q E h=>?_) (fun cdv A outer s H vs Q E hr h=>?_)
 . obtain⟨_,_,_,_,_,_,_,rfl,_⟩:=h;rfl
 refine⟨_,zP (zaf (pv 0) (pv 2) rfl) (zP (zaf (pv 0) (zaE ["turn"] [] [] rfl (zT (osc:=zg Jk) #[3]) rfl (zbC (pv 2)) (fun s H fp cl=>⟨jp (i:=0) (show((["turn"]:List PySem.Str)++([]:List PySem.Str)).Nodup by decide) rfl (.inl rfl),za4,jO⟩)) rfl)
  (zP (zaf (pv 0) (zaE ["visit"] ["costs"] [2] rfl (zT (osc:=zg Jk) #[3]) rfl (zbC (pv 1)) (fun s H fp cl=>⟨jp (i:=0) (show((["visit"]:List PySem.Str)++(["costs"]:List PySem.Str)).Nodup by decide) rfl (.inl rfl),za4,jE GF hr rfl jG (zl (pv 0) (zl (Jc (r:=zbR K) ZH rfl hlen zD (zl (pv 1) zF)) zF))⟩)) rfl)
   (zP (zaf (pv 0) JB rfl) (jf (zaf (pv 0) JB rfl))))),?_⟩
 obtain⟨m,dx,v,aC,G,U,dcs,rfl,hm,sG,rv,hC,h60,h2k,q⟩:=h;obtain⟨xv,qv,rvs⟩:∃ xs,SqL K G v xs/\RdVs K G xs (U.map dW):=by cases rv with|lst a b=>exact⟨_,a,b⟩
 have bm:bar H [m] m=none:=jH (by simp)
 have nCm:aC≠m:=#[96,hm,hC]
 have sL:=(J9 H [m]).x;have nx:∀ {o:HO},(∀ l,o≠.ext l)->∀ f,o≠.ext f:=fun h=>h
 refine⟨.ref aC,rfl,.ref m,rfl,m,C,dx,[],rfl,hm,cl,n1,by simp,?_⟩
 have s1:=sL.chg (o:=.ins C dx (putF "costs" (.ref aC) [])) bm hm #[95]
 have m1:upd H m (.ins C dx (putF "costs" (.ref aC) [])) m=some (.ins C dx [("costs", .ref aC)]):=zf;have c1:upd H m (.ins C dx (putF "costs" (.ref aC) [])) aC=some (.lst (dcs.map .ref)):=(zd nCm).trans hC;have f1:∀ b,upd H m (.ins C dx (putF "costs" (.ref aC) [])) b=none->H b=none:=fun b e=>by
  by_cases z:b=m
  . rw [z,zf] at e;cases e
  . rwa [zd z] at e
 generalize upd H m (.ins C dx (putF "costs" (.ref aC) []))=H1 at *;refine⟨.ref aC,rfl,aC,rfl,⟨_,SqL.of c1⟩,fun aT hT=>⟨fun i k ys σ1 H2=>i<=dcs.length/\k=dcs.length - i/\(∃ t0,σ1=[t0])/\ys=(List.replicate i (0:Int)).map .int/\H2=upd H1 aT (.lst ys),⟨_,Wa9 _,rfl,⟨none,rfl⟩,rfl,rfl⟩,?_⟩⟩
 rintro i k ys σ1 H2 ⟨hi,rfl,⟨t0,rfl⟩,rfl,rfl⟩
 have nTC:aC≠aT:=#[96,hT,c1]
 have nTm:m≠aT:=#[96,hT,m1]
 have c2:∀ o,upd H1 aT o aC=some (.lst (dcs.map .ref)):=fun o=>(zd nTC).trans c1
 by_cases hlt:i<dcs.length
 . refine .inr ⟨⟨_,.ref dcs[i],SqL.of (c2 _),by rw [Ya0,YaQ hlt];rfl⟩,?_⟩
   rintro x H3 ⟨e3,_⟩
   have e3:=e3.symm;subst e3;have e:(List.replicate i (0:Int)).map V.int++[.int 0]=(List.replicate (i+1) (0:Int)).map V.int:=by rw [List.replicate_succ',Ya2];rfl
   refine⟨zf,by rw [YaR,Ybb];exact Waq (show _<=60 by omega) #[1],dcs.length - (i+1),#[0],hlt,rfl,⟨_,rfl⟩,e,Zm⟩
 have e:i=dcs.length:=#[0]
 subst e;clear hi hlt;refine .inl ⟨⟨_,SqL.of (c2 _),by rw [YaR];exact YaY _⟩,?_⟩
 have hT0:=f1 _ hT;have s2:=s1.trans (zG hT (.lst ((List.replicate dcs.length (0:Int)).map .int))).x;have m2:upd H1 aT (.lst ((List.replicate dcs.length (0:Int)).map .int)) m=some (.ins C dx [("costs", .ref aC)]):=(zd nTm).trans m1;have t2:upd H1 aT (.lst ((List.replicate dcs.length (0:Int)).map .int)) aT=some (.lst ((List.replicate dcs.length (0:Int)).map .int)):=zf;have c2:=c2 (.lst ((List.replicate dcs.length (0:Int)).map .int))
 have f2:∀ b,upd H1 aT (.lst ((List.replicate dcs.length (0:Int)).map .int)) b=none->H b=none:=fun b e=>by
  by_cases z:b=aT
  . rw [z,zf] at e;cases e
  . rw [zd z] at e;exact f1 b e
 generalize upd H1 aT (.lst ((List.replicate dcs.length (0:Int)).map .int))=H2 at *;refine⟨.ref m,rfl,m,C,dx,_,rfl,m2,cl,n2,by simp,?_⟩
 have s3:=s2.chg (o:=.ins C dx [("costs", .ref aC),("turn_prices", .ref aT)]) bm m2 #[95]
 show tSeq _ _ _ _ (upd H2 m #[25])
 have m3:upd H2 m #[25] m=some #[25]:=zf;have c3:upd H2 m #[25] aC=some (.lst (dcs.map .ref)):=(zd nCm).trans c2;have t3:upd H2 m #[25] aT=some (.lst ((List.replicate dcs.length (0:Int)).map .int)):=(zd nTm.symm).trans t2
 have f3:∀ b,upd H2 m #[25] b=none->H b=none:=fun b e=>by
  by_cases z:b=m
  . rw [z,zf] at e;cases e
  . rw [zd z] at e;exact f2 b e
 generalize upd H2 m #[25]=H3 at *;refine⟨.ref v,rfl,v,rfl,⟨_,(sG.trans s3).seq qv⟩,fun aV hV=>⟨fun i k ys σ1 H4=>i<=U.length/\k=U.length - i/\(∃ t0,σ1=[t0,some (.ref aC)])/\ys=((U.take i).map (jm dcs.length)).map .int/\H4=upd H3 aV (.lst ys),⟨_,Wa9 _,rfl,⟨none,rfl⟩,rfl,rfl⟩,?_⟩⟩
 rintro i k ys σ1 H4 ⟨hi,rfl,⟨t0,rfl⟩,rfl,rfl⟩
 have nVC:aC≠aV:=#[96,hV,c3]
 have nVm:m≠aV:=#[96,hV,m3]
 have nTV:aT≠aV:=#[96,hV,t3]
 have s4:∀ o,zh (bar H [m]) (upd H3 aV o):=fun o=>s3.trans (zG hV o).x
 have lx:xv.length=U.length:=by rw [rvs.length,YaR]
 by_cases hlt:i<U.length
 . obtain⟨y,hy,ry⟩:=rvs.get (i:=i) (d:=dW U[i]) (by rw [Ya0,YaQ hlt];rfl)
   obtain⟨wa,rfl⟩:∃ wa,y=.ref wa:=by
    have r2:=ry;unfold dW at r2;cases r2 with
    | tup a b=>exact⟨_,rfl⟩
   refine .inr ⟨⟨_,_,(sG.trans (s4 _)).seq qv,hy⟩,?_⟩
   rintro x H5 ⟨e3,hall⟩
   have e3:=e3.symm;subst e3;have e:=hall _ ((sG.trans (s4 _)).seq qv);rw [hy] at e;cases e;have htk:((U.take i).map (jm dcs.length)).map V.int++[.int (jm dcs.length U[i])]=((U.take (i+1)).map (jm dcs.length)).map V.int:=by rw [WaD,YaQ hlt,Ya2,Ya2];rfl
   refine⟨.ref wa,rfl,.ref aC,rfl,aC,_,rfl,.inl (SqL.of ((zd nVC).trans c3)),wa,_,G,U[i],rfl,sG.trans (s4 _),ry,?_⟩
   rw [show(dcs.map V.ref).length=dcs.length from YaR ..]
   refine⟨zf,?_,U.length - (i+1),#[0],hlt,rfl,⟨_,rfl⟩,htk,Zm⟩
   rw [YaR,YaR,WaI];exact Waq (show _<=2000 by omega) #[1]
 have e:i=U.length:=#[0]
 subst e;clear hi hlt;rw [YaH];refine .inl ⟨⟨_,(sG.trans (s4 _)).seq qv,by rw [lx];exact YaY _⟩,?_⟩
 have hV0:=f3 _ hV;have s4:=s4 (.lst ((U.map (jm dcs.length)).map .int));have m4:upd H3 aV (.lst ((U.map (jm dcs.length)).map .int)) m=some #[25]:=(zd nVm).trans m3;have t4:upd H3 aV (.lst ((U.map (jm dcs.length)).map .int)) aT=some (.lst ((List.replicate dcs.length (0:Int)).map .int)):=(zd nTV).trans t3;have v4:upd H3 aV (.lst ((U.map (jm dcs.length)).map .int)) aV=some (.lst ((U.map (jm dcs.length)).map .int)):=zf
 have f4:∀ b,upd H3 aV (.lst ((U.map (jm dcs.length)).map .int)) b=none->H b=none:=fun b e=>by
  by_cases z:b=aV
  . rw [z,zf] at e;cases e
  . rw [zd z] at e;exact f3 b e
 generalize upd H3 aV (.lst ((U.map (jm dcs.length)).map .int))=H4 at *;refine⟨.ref m,rfl,m,C,dx,_,rfl,m4,cl,n3,by simp,fun aK hK=>⟨.ref m,rfl,m,C,dx,[("costs", .ref aC),("turn_prices", .ref aT),("visit_prices", .ref aV)],rfl,?_,cl,n5,by simp,fun aH hH=>⟨.ref m,rfl,m,C,dx,[("costs", .ref aC),("turn_prices", .ref aT),("visit_prices", .ref aV),("taken", .ref aK)],rfl,?_,cl,n4,by simp,?_⟩⟩⟩
 all_goals
  have nKm:aK≠m:=#[96,zf,hK]
  have hK':H4 aK=none:=by rwa [zd nKm] at hK
 . exact(zd nKm.symm).trans zf
 all_goals
  have nHm:aH≠m:=#[96,zf,hH]
  have nHK:aH≠aK:=fun z=>by rw [z,zd nKm,zf] at hH;cases hH
  have hH':H4 aH=none:=by rwa [zd nHm,zd nHK,zd nHm] at hH
 . exact(zd nHm.symm).trans zf
 have nTK:aT≠aK:=fun z=>by rw [z,hK'] at t4;cases t4
 have nTH:aT≠aH:=fun z=>by rw [z,hH'] at t4;cases t4
 have nVK:aV≠aK:=fun z=>by rw [z,hK'] at v4;cases v4
 have nVH:aV≠aH:=fun z=>by rw [z,hH'] at v4;cases v4
 have s5:=s4.chg (o:=.ins C dx (putF "visit_prices" (.ref aV) [("costs", .ref aC),("turn_prices", .ref aT)])) bm m4 #[95]
 have s6:=s5.trans (zG hK (.dK [])).x;have s7:=s6.chg (o:=.ins C dx (putF "taken" (.ref aK) [("costs", .ref aC),("turn_prices", .ref aT),("visit_prices", .ref aV)])) bm ((zd nKm.symm).trans zf) #[95]
 have s8:=s7.trans (zG hH (.dK [])).x;have s9:=s8.chg (o:=.ins C dx (putF "holders" (.ref aH) [("costs", .ref aC),("turn_prices", .ref aT),("visit_prices", .ref aV),("taken", .ref aK)])) bm ((zd nHm.symm).trans zf) #[95]
 refine q aT aV aK aH _ s9 hT0 hV0 (f4 _ hK') (f4 _ hH') nTV nHK.symm zf ?_ ?_ ?_ ?_
 . rw [zd nTm.symm,zd nTH,zd nTm.symm,zd nTK,zd nTm.symm];exact t4
 . rw [zd nVm.symm,zd nVH,zd nVm.symm,zd nVK,zd nVm.symm];exact v4
 . rw [zd nKm,zd nHK.symm,zd nKm,zf]
 . rw [zd nHm,zf]
end
def Mk0(cs:List Tb):MkD:=⟨0,0,0,0,0,0,[],cs,[],[],[],[]⟩
def jl(U:List Win)(tk:Tb)(A:Nat):List Int:=(List.range A).map fun i:Nat=>(U.getD ((getM tk (i:Int)).getD 0).toNat (0,0,0,none)).1
def jk(new row:List Int):List Int:=((new.zip row).filter fun p=>!decide (p.1=p.2)).map (·.1)
def Zq:Sp3:=fun ds Q E=>∃ (U:List Win) (ch:List (List Int)) (row:List Int) (f:Int->Int),ds=[.list (U.map dW),.list (ch.map dI),dI row]/\row.length=ch.length/\ch.length<=60/\U.length<=2000/\(∀ pl∈ch,pl.Nodup/\pl.length<=2000/\∀ x∈pl,InR x U.length)/\(∀ x,InR x ch.length->f x∈ch.getD x.toNat [])/\(∀ x y,InR x ch.length->InR y ch.length->f x=f y->x=y)/\
 ∀ (tk hd:Tb) (tp vp:List Int),tp.length=ch.length->vp.length=U.length->Mend (ChM (Mk0 (csOf U row ch))) (cM (Mk0 (csOf U row ch))) (at0 (U.map (jm ch.length))) ch.length U.length ch.length (at0 tp) (at0 vp) tk hd->
  Q true (.tuple [.str "row", dI (jl U tk ch.length),.int (jk (jl U tk ch.length) row).length,dI tp,dI vp])
section
variable{P:Program}{w:World}{K:Ybf}{mg:#[15]}{base:Heap}{C:Addr}
theorem zjA{X:Cx}{e:Expr}{f:Str}{pos:Pos}{ta:TE}(K:Ybf)(he:PE X e ta)(hb:attributeBase e f X.env (eval e X.env)=eval e X.env)(hK:X.K=K:=by rfl):PE X (.Attribute e f pos) (tFld K ta f):=hK ▸ jA he hb
theorem zhn{X:Cx}{es:List Expr}{k:Nat}{pos:Pos}{t:TGs}(K:Ybf)(n:Nat)(hc:X.calm=true)(h:PGs X es t)(hn:(assignEach es X.env).length=n:=by rfl)(hst:(assignEach es X.env).findIdx? (·.1)=none:=by rfl)(hK:X.K=K:=by rfl):PG X (.Tuple es k pos) (gTup K n t):=hK ▸ zbK hc h hn hst
theorem zbk{U:List Win}{row:List Int}{ch:List (List Int)}(h:row.length=ch.length):(csOf U row ch).length=ch.length:=by unfold csOf;rw [List.length_zipWith,h,Nat.min_self]
theorem zfb{U:List Win}{row:List Int}{ch:List (List Int)}(h:row.length=ch.length){i:Nat}(hi:i<ch.length):(csOf U row ch).getD i []=z6 U (row.getD i 0) (ch.getD i []):=by
 unfold csOf;have hr:i<row.length:=#[0]
 rw [YaP,YaP,YaP,List.getElem?_zipWith,YaQ hr,YaQ hi];rfl
theorem zfg{U:List Win}{row:List Int}{ch:List (List Int)}(h:row.length=ch.length){its:Tb}(hm:its∈csOf U row ch):∃ pl∈ch,its.map (·.1)=pl:=by
 obtain⟨i,hi,e⟩:=Yam hm;rw [zbk h] at hi;have e2:(csOf U row ch).getD i []=its:=by rw [YaP,YaQ (by rw [zbk h];exact hi),e];rfl
 rw [zfb h hi] at e2;refine⟨ch.getD i [],by rw [YaP,YaQ hi];exact Ya4 hi,?_⟩
 rw [<-e2];unfold z6;rw [YaD];exact List.map_id' _
theorem Mend.zero0{Ch:Int->Int->Prop}{c:Int->Int->Int}{l:List Int}{A B n:Nat}:Mend Ch c (at0 l) A B 0 (at0 (List.replicate n 0)) (at0 l) [] [] where
 mat:=fun s c=>⟨fun e=>(by cases e),fun e=>(by cases e)⟩
 ot:=TbOk.nil _ _
 oh:=TbOk.nil _ _
 dom:=fun x=>⟨fun e=>(by cases e),fun e=>#[0]⟩
 ed:=fun x v e=>by cases e
 low:=fun x v h1 h2=>by omega
 free:=fun _ _=>rfl
 zero:=fun x _=>by
  unfold at0
  split
  . rw [YaP,Yad];split<;>rfl
  . rfl
 top:=fun _=>Wba _
theorem zbV{K:Ybf}{H0 G:Hp}:∀ {l:List Int},RdNs K H0 G (l.map .int) (l.map .int)
 | []=>.nil
 | n::l=>.cons (.int n) zbV
theorem zgz{tb fi:Addr}{fdi:FuncData}(cl:Cls K C)(n2:zR K C "turn_prices")(n3:zR K C "visit_prices")(n5:zR K C "taken")(hlen:mg "len" = none)(hrg:mg "range" = none)(hz:mg "zip" = none)(hC:mg "Market" = some (.ref C))(MK:Mk K C fi)(FI:FnOk P w K mg base (CXR P w) 2 fi fdi ["self", "visits", "costs"] (zd2 K C))(BI:Binds K fdi ["self", "visits", "costs"] [])
 (GC:Df P w K mg base 1 "costs_of_turns" ["visits", "choices", "row"] (zcc K)) (GS:Df P w K mg base 5 "serve" ["market", "start"] (zcL C tb))
 {f:Addr} {fd:FuncData} (F:Fun K "mend_visits" "mend_visits" ZP f fd):FnOk P w K mg base (CXR P w) 6 f fd ["visits", "choices", "row"] (spU tb K Zq):=by
 have S:FnScope ["visits", "choices", "row", "market", "turn", "new", "changes"] ["visits", "choices", "row"] (zg ZP):=#[10]
 refine F.okR S (fun vs H Q E h=>?_) (fun cdv A outer s H vs Q E hr h=>?_)
 . obtain⟨_,_,_,_,r,_,_,_,_,rfl,_⟩:=h;exact r.length
 have hu:=ja hr;refine⟨_,zP (ji (i:=3) S.nd rfl (.inr rfl) (zj7 MK FI #[7] rfl hC BI .nil jG (zl (pv 0) (zl (jE GC #[7] rfl jG (zl (pv 0) (zl (pv 1) (zl (pv 2) zF)))) zF))))
  (zP (Zl WaC rfl (zcx rfl hrg (zl (Jc (r:=zbR K) ZH rfl hlen zD (zl (pv 2) zF)) zF)) (jp (i:=4) S.nd rfl (.inl rfl)) (jf (jT (jE GS #[7] rfl jG (zl (pv 3) (zl (pv 4) zF))))))
  (zP (by exact zbl (i:=5) S.nd rfl (.inl rfl) ["turn"] ["visits", "market"] [0,3] rfl (zT (osc:=zg ZP) #[3]) rfl (zcx rfl hrg (zl (Jc (r:=zbR K) ZH rfl hlen zD (zl (pv 2) zF)) zF)) (fun s H fp cl=>⟨jp (i:=0) (show((["turn"]:List PySem.Str)++(["visits", "market"]:List PySem.Str)).Nodup by decide) rfl (.inl rfl),za4,jI (r:=rIxT K) zbG (jI (r:=rIxL K) Ja (pv 1) (jU hu (zjA K (pv 2) rfl) (pv 0) #[4]) #[4]) jO #[4]⟩))
  (zP (ji (i:=6) S.nd rfl (.inl rfl) (Jc (r:=zbR K) ZH rfl hlen zD (zl (by exact zaE ["clan", "former"] [] [] rfl (zT (osc:=zg ZP) #[3]) rfl (zcF rfl hz (zl (pv 5) (zl (pv 2) zF))) (fun s H fp cl=>⟨zhn K 2 rfl (JG (jp (i:=0) (show((["clan", "former"]:List PySem.Str)++([]:List PySem.Str)).Nodup by decide) rfl (.inl rfl)) (JG (jp (i:=1) (show((["clan", "former"]:List PySem.Str)++([]:List PySem.Str)).Nodup by decide) rfl (.inl rfl)) zbU)),zc0 (zbF zeL (pv 0) (pv 1) (nomark _)),pv 0⟩)) zF)))
   (jf (JU (zaI (zl zfy (zl (pv 5) (zl (pv 6) (zl (jA (pv 3) rfl) (zl (jA (pv 3) rfl) zF))))))))))),?_⟩
 obtain⟨tu,G,ds,sG,rds,U,ch,row,g,rfl,hl,h60,h2k,hpl,hg,ginj,q⟩:=h;obtain⟨v,c,r,rfl,rv,rc,rr⟩:∃ v c r,vs=[.ref v,.ref c,.ref r]/\RdV K G (.ref v) (.list (U.map dW))/\RdV K G (.ref c) (.list (ch.map dI))/\RdV K G (.ref r) (dI row):=by
  cases rds with
  | cons a rds=>
   cases rds with
   | cons b rds=>
    cases rds with
    | cons d rds=>
     cases rds;have a2:=a
     have b2:=b;have d2:=d;unfold dI at d2;cases a2 with
     | lst _ _=>
      cases b2 with
      | lst _ _=>
       cases d2 with
       | lst _ _=>exact⟨_,_,_,rfl,a,b,d⟩
 obtain⟨xv,qv,rvs⟩:∃ xs,SqL K G v xs/\RdVs K G xs (U.map dW):=by cases rv with|lst a b=>exact⟨_,a,b⟩
 obtain⟨xr,qr,rrs⟩:∃ xs,SqL K G r xs/\RdVs K G xs (row.map .int):=by cases rr with|lst a b=>exact⟨_,a,b⟩
 have rrs:=za9 rrs;subst rrs;refine⟨.ref v,rfl,.ref v,rfl,.ref c,rfl,.ref r,rfl,v,c,r,G,U,ch,row,rfl,sG,rv,rc,rr,hl,h60,hpl,fun aC dcs H1 s1 hC0 hC1 hdl hdc m dx hm0 hdx0 ndx=>?_⟩
 have g1:=sG.trans s1;have up:∀ b o,H1 b=some o->bar (upd (upd H1 dx (.own m)) m (.ins C dx [])) [m] b=some o:=fun b o e=>by
  have nm:b≠m:=#[96,hm0,e]
  rw [z5 (by simp [nm]),zd nm,zd #[96,hdx0,e]];exact e
 have nCm:aC≠m:=#[96,hm0,hC1]
 have nCd:aC≠dx:=#[96,hdx0,hC1]
 have C1:upd (upd H1 dx (.own m)) m (.ins C dx []) aC=some (.lst (dcs.map .ref)):=by rw [zd nCm,zd nCd];exact hC1
 have fr1:∀ b,upd (upd H1 dx (.own m)) m (.ins C dx []) b=none->H1 b=none:=fun b e=>by
  by_cases z:b=m
  . rw [z];exact hm0
  . rw [zd z] at e
    by_cases y:b=dx
    . rw [y];exact hdx0
    . rwa [zd y] at e
 refine⟨m,dx,v,aC,G,U,dcs,rfl,zf,⟨fun b o e=>up b o (g1.s b o e),g1.cl⟩,rv,C1,#[0],h2k,fun aT aV aK aH H2 s2 hT0 hV0 hK0 hH0 nTV nKH m2 t2 v2 k2 h2=>⟨rfl,?_⟩⟩
 have s12:zh H1 H2:=(show Same H1 _ from up).x.trans s2
 have own2:H2 dx=some (.own m):=s2.at ((z5 (by simp [ndx])).trans ((zd ndx).trans zf))
 have hT:H aT=none:=s1.free (fr1 _ hT0);have hV:H aV=none:=s1.free (fr1 _ hV0);have hK:H aK=none:=s1.free (fr1 _ hK0);have hH:H aH=none:=s1.free (fr1 _ hH0);have nCT:aC≠aT:=#[96,hT0,C1]
 have nCV:aC≠aV:=#[96,hV0,C1]
 have C2:H2 aC=some (.lst (dcs.map .ref)):=s12.at hC1;have s02:=s1.trans s12;rw [hdl] at t2 v2;have mk2:Mkt C H2 m ⟨dx,aC,aT,aV,aK,aH,dcs,csOf U row ch,List.replicate ch.length 0,U.map (jm ch.length),[],[]⟩:=⟨m2,own2,C2,by rw [zbk hl];exact hdl,fun i d e=>let ⟨o,ho⟩:=hdc i d e;⟨o,s12.at ho⟩,t2,v2,k2,h2⟩
 have clen:=zbk (U:=U) hl;have hCh:∀ x,InR x ch.length->ChM (Mk0 (csOf U row ch)) x (g x):=fun x hx=>by
  obtain⟨x0,x1⟩:=hx;refine⟨by show InR x (csOf U row ch).length;rw [clen];exact⟨x0,x1⟩,?_⟩
  show(getM ((csOf U row ch).getD x.toNat []) (g x)).isSome=true
  rw [zfb hl #[0]]
  obtain⟨y,e⟩:=zbd (t:=z6 U (row.getD x.toNat 0) (ch.getD x.toNat [])) (k:=g x) (by
   unfold z6;rw [YaD];exact Ya7.mpr ⟨g x,hg x ⟨x0,x1⟩,rfl⟩)
  rw [e];rfl
 have hjn:(((row.map V.int).length:Nat):Int).toNat=ch.length:=by rw [Int.toNat_natCast,YaR,hl]
 have hj1:-(2 ^ 62)<=(((row.map V.int).length:Nat):Int):=#[0]
 have hj2:(((row.map V.int).length:Nat):Int)<2 ^ 62:=by rw [YaR,hl];omega
 refine⟨.ref r,rfl,r,_,rfl,.inl ((sG.trans s02).seq qr),_,rfl,hj1,hj2,?_⟩
 rw [hjn];refine⟨fun i k σ' H'=>i<=ch.length/\k=ch.length - i/\(∃ t4,σ'=[some (.ref v),some (.ref c),some (.ref r),some (.ref m),t4,none,none])/\zh H H'/\∃ (tp vp:List Int) (tk hd:Tb),tp.length=ch.length/\vp.length=U.length/\Mkt C H' m ⟨dx,aC,aT,aV,aK,aH,dcs,csOf U row ch,tp,vp,tk,hd⟩/\Mend (ChM (Mk0 (csOf U row ch))) (cM (Mk0 (csOf U row ch))) (at0 (U.map (jm ch.length))) ch.length U.length i (at0 tp) (at0 vp) tk hd,
  ⟨_,Wa9 _,rfl,⟨none,rfl⟩,s02,_,_,_,_,Ybb,YaR ..,mk2,Mend.zero0⟩,?_⟩
 rintro i k σ' H3 ⟨hi,rfl,⟨t4,rfl⟩,s3,tp,vp,tk,hd,l1,l2,mk3,me3⟩
 by_cases hlt:i<ch.length
 . refine .inr ⟨hlt,fun σ' H'=>(∃ t4,σ'=[some (.ref v),some (.ref c),some (.ref r),some (.ref m),t4,none,none])/\zh H H'/\∃ (tp vp:List Int) (tk hd:Tb),tp.length=ch.length/\vp.length=U.length/\Mkt C H' m ⟨dx,aC,aT,aV,aK,aH,dcs,csOf U row ch,tp,vp,tk,hd⟩/\Mend (ChM (Mk0 (csOf U row ch))) (cM (Mk0 (csOf U row ch))) (at0 (U.map (jm ch.length))) ch.length U.length (i+1) (at0 tp) (at0 vp) tk hd,fun σ2 H2 z=>⟨ch.length - (i+1),#[0],hlt,rfl,z⟩,?_⟩
   rintro x H4 ⟨e4,ex⟩
   rw [Wa6] at ex;have e4:=e4.symm;subst ex e4;refine⟨.ref m,rfl,.int i,rfl,m,i,ch.length,U.length,⟨dx,aC,aT,aV,aK,aH,dcs,csOf U row ch,tp,vp,tk,hd⟩,_,g,rfl,tu.same s3,mk3,⟨nCT,nCV,nTV,nKH⟩,⟨clen,l1,l2,fun its h=>?_,fun its h p hp=>?_,h60,h2k⟩,hlt,me3,hCh,ginj,fun tp' vp' tk' hd' H5 a1 a2 a3 a4 a5=>⟨⟨_,rfl⟩,zh.via s3 (fun a ha=>?_) (fun a ha=>?_) a4,tp',vp',tk',hd',a1,a2,a5,a3⟩⟩
   . obtain⟨pl,h1,h2⟩:=zfg hl h
     rw [h2];exact(hpl pl h1).1
   . obtain⟨pl,h1,h2⟩:=zfg hl h
     exact(hpl pl h1).2.2 _ (by rw [<-h2];exact Ya7.mpr ⟨p,hp,rfl⟩)
   . simp only [WaU,WaM,or_false] at ha
     rcases ha with rfl|rfl|rfl|rfl
     . exact hT
     . exact hV
     . exact hK
     . exact hH
   . simp only [WaU,WaM,or_false] at ha
     rcases ha with rfl|rfl|rfl|rfl
     . exact⟨_,mk3.lt,#[95]⟩
     . exact⟨_,mk3.lv,#[95]⟩
     . exact⟨_,mk3.dk,#[95]⟩
     . exact⟨_,mk3.dh,#[95]⟩
 have e:i=ch.length:=#[0]
 subst e;clear hi hlt;refine .inl ⟨YaY _,.ref r,rfl,r,_,rfl,.inl ((sG.trans s3).seq qr),_,rfl,hj1,hj2,fun D hD=>?_⟩
 rw [hjn];have hD0:=s3.free hD;have s4:∀ o,zh H (upd H3 D o):=fun o=>s3.trans (zG hD o).x
 have u4:∀ {b:Addr} {o o':HO},H3 b=some o'->upd H3 D o b=some o':=fun {b o o'} e=>(zd #[96,hD,e]).trans e
 refine⟨fun i k ys σ1 H4=>i<=ch.length/\k=ch.length - i/\(∃ t0,σ1=[t0,some (.ref v),some (.ref m)])/\ys=(jl U tk i).map .int/\H4=upd H3 D (.lst ys),⟨_,Wa9 _,rfl,⟨none,rfl⟩,rfl,rfl⟩,?_⟩
 rintro i k ys σ1 H4 ⟨hi,rfl,⟨t0,rfl⟩,rfl,rfl⟩
 have nlen:∀ i,(jl U tk i).length=i:=fun i=>by unfold jl;rw [YaR,YaG]
 by_cases hlt:i<ch.length
 . refine .inr ⟨hlt,?_⟩
   rintro x H5 ⟨e5,ex⟩
   rw [Wa6] at ex;have e5:=e5.symm;subst ex e5;obtain⟨kx,hkx⟩:=Wae.mp ((me3.dom i).mpr ⟨#[0],#[0]⟩)
   obtain⟨k0,k1⟩:=(me3.ot.get hkx).2;have hcd:(U.map dW)[kx.toNat]?=some (dW (U.getD kx.toNat (0,0,0,none))):=by rw [Ya0,YaP,YaQ (show kx.toNat<U.length by omega)];rfl
   have hnx:jl U tk (i+1)=jl U tk i++[(U.getD kx.toNat (0,0,0,none)).1]:=by
    unfold jl;rw [List.range_succ,Ya2,List.map_singleton,hkx];rfl
   generalize U.getD kx.toNat (0,0,0,none)=wn at *;obtain⟨wv,hwv,rw'⟩:=rvs.get hcd;obtain⟨wa,ws,rfl,qw,rws⟩:∃ wa ws,wv=.ref wa/\SqT K G wa ws/\RdVs K G ws [.int wn.1,.int wn.2.1,.int wn.2.2.1,dO wn.2.2.2]:=by
    unfold dW at rw';cases rw' with
    | tup a b=>exact⟨_,_,rfl,a,b⟩
   obtain⟨ws',rfl⟩:∃ ws',ws=.int wn.1::ws':=by
    cases rws with
    | cons a b=>cases a;exact⟨_,rfl⟩
   have hat:atI xv kx=some (.ref wa):=by
    have:=jd (xs:=xv) (j:=kx.toNat) (v:=.ref wa) hwv;rwa [show((kx.toNat:Nat):Int)=kx from Int.toNat_of_nonneg k0] at this
   refine⟨.ref v,rfl,.ref m,rfl,m,C,dx,_,.ref aK,rfl,u4 mk3.ins,cl,n5,rfl,.int i,rfl,aK,.int kx,rfl,?_,v,xv,kx,.ref wa,rfl,rfl,(sG.trans (s4 _)).seq qv,hat,wa,_,0,.int wn.1,rfl,rfl,(sG.trans (s4 _)).tup qw,jd (j:=0) rfl,zf,?_,ch.length - (i+1),#[0],hlt,rfl,⟨_,rfl⟩,by rw [hnx,Ya2];rfl,Zm⟩
   . have:=DGet.k (k:=Sum.inl (i:Int)) (u4 (o:=.lst ((jl U tk i).map .int)) mk3.dk)
     rwa [jz,show getM _ (i:Int)=some kx from hkx] at this
   . rw [YaR,nlen]
     exact Waq (show _<=60 by omega) #[1]
 have e:i=ch.length:=#[0]
 subst e;clear hi hlt;refine .inl ⟨YaY _,?_⟩;have nl:=nlen ch.length;have s4:=s4 (.lst ((jl U tk ch.length).map .int));have D4:upd H3 D (.lst ((jl U tk ch.length).map .int)) D=some (.lst ((jl U tk ch.length).map .int)):=zf;have m4:=u4 (o:=.lst ((jl U tk ch.length).map .int)) mk3.ins;have t4':=u4 (o:=.lst ((jl U tk ch.length).map .int)) mk3.lt;have v4':=u4 (o:=.lst ((jl U tk ch.length).map .int)) mk3.lv
 generalize upd H3 D (.lst ((jl U tk ch.length).map .int))=H4 at *;generalize hnew:jl U tk ch.length=new at *;refine⟨.ref D,rfl,.ref r,rfl,D,r,rfl,⟨_,SqL.of D4⟩,⟨_,(sG.trans s4).seq qr⟩,fun D2 hD2=>?_⟩
 have nDD:D≠D2:=#[96,hD2,D4]
 refine⟨fun i k ys σ1 H5=>i<=ch.length/\k=ch.length - i/\(∃ t0 t1,σ1=[t0,t1])/\ys=(jk (new.take i) (row.take i)).map .int/\H5 D2=some (.lst ys)/\zh H4 H5,⟨_,Wa9 _,rfl,⟨none,none,rfl⟩,rfl,zf,(zG hD2 _).x⟩,?_⟩
 rintro i k ys σ1 H5 ⟨hi,rfl,⟨t0,t1,rfl⟩,rfl,hD5,s5⟩
 have q1:SqL K H5 D (new.map .int):=SqL.of (s5.at D4);have q2:SqL K H5 r (row.map .int):=(sG.trans (s4.trans s5)).seq qr
 by_cases hlt:i<ch.length
 . have h1:(new.map V.int)[i]?=some (.int new[i]):=by rw [Ya0,YaQ #[0]];rfl
   have h2:(row.map V.int)[i]?=some (.int row[i]):=by rw [Ya0,YaQ #[0]];rfl
   have hch:jk (new.take (i+1)) (row.take (i+1))=jk (new.take i) (row.take i)++if new[i]=row[i] then [] else [new[i]]:=by
    unfold jk;rw [WaD,WaD,YaQ (show i<new.length by omega),YaQ (show i<row.length by omega)]
    rw [show(some new[i]).toList=[new[i]] from rfl,show(some row[i]).toList=[row[i]] from rfl,List.zip_append (by rw [WaI,WaI];omega),List.filter_append,Ya2]
    by_cases e:new[i]=row[i]
    . rw [if_pos e];simp [e]
    . rw [if_neg e];simp [e]
   have hcl:(jk (new.take i) (row.take i)).length<sizeLine:=by
    unfold jk;rw [YaR];refine Waq (Ya5 (List.length_filter_le _ _) ?_) (show 60<sizeLine by decide)
    rw [List.length_zip,WaI,WaI];omega
   generalize new[i]=a at *;generalize row[i]=b at *;refine .inr ⟨⟨_,_,_,_,q1,q2,h1,h2⟩,?_⟩
   rintro x H6 ⟨p,x',y',hp,rfl,rfl,hall⟩
   obtain⟨e1,e2⟩:=hall _ _ q1 q2;rw [h1] at e1;rw [h2] at e2;cases e1;cases e2;have s6:=s5.trans (zG hp (.tup [.int a,.int b])).x;have D6:upd H5 p (.tup [.int a,.int b]) D2=some (.lst ((jk (new.take i) (row.take i)).map .int)):=(zd #[96,hp,hD5]).trans hD5
   refine⟨p,[.int a,.int b],rfl,SqT.of zf,rfl,_,_,rfl,_,_,rfl,rfl,.int a,rfl,.int b,rfl,rfl,_,rfl,?_⟩
   show if(!decide (V.int a=V.int b))=true then _ else _
   by_cases e:a=b
   . rw [if_pos e,Yao] at hch
     rw [if_neg (by rw [e,decide_eq_true rfl];decide)]
     exact⟨ch.length - (i+1),#[0],hlt,rfl,⟨_,_,rfl⟩,by rw [hch],D6,s6⟩
   . rw [if_neg e] at hch
     rw [if_pos (by rw [decide_eq_false (fun z=>e (by cases z;rfl))];rfl)]
     exact⟨.int a,rfl,D6,by rw [YaR];exact hcl,ch.length - (i+1),#[0],hlt,rfl,⟨_,_,rfl⟩,by rw [hch,Ya2];rfl,zf,s6.chg hD2 D6 #[95]⟩
 have e:i=ch.length:=#[0]
 subst e;clear hi hlt;rw [show new.take ch.length=new by rw [<-nl];exact YaH,show row.take ch.length=row by rw [<-hl];exact YaH] at hD5
 rw [show new.take ch.length=new by rw [<-nl];exact YaH,show row.take ch.length=row by rw [<-hl];exact YaH]
 refine .inl ⟨⟨_,_,q1,q2,by rw [YaR,YaR,nl,hl,Nat.min_self]⟩,D2,_,rfl,.inl (SqL.of hD5),?_⟩
 rw [YaR];have s05:=s4.trans s5;refine⟨.ref D,rfl,.int _,rfl,.ref m,rfl,m,C,dx,_,.ref aT,rfl,s5.at m4,cl,n2,rfl,.ref m,rfl,m,C,dx,_,.ref aV,rfl,s5.at m4,cl,n3,rfl,by show 5<=sizeLine;decide,fun p hp=>?_⟩
 have hp0:=s05.free hp;have s6:=s05.trans (zG hp (.tup [.str "row", .ref D,.int ((jk new row).length:Nat),.ref aT,.ref aV])).x;have u6:∀ {b:Addr} {o o':HO},H5 b=some o'->upd H5 p o b=some o':=fun {b o o'} e=>(zd #[96,hp,e]).trans e
 have D6:=u6 (o:=.tup [.str "row", .ref D,.int ((jk new row).length:Nat),.ref aT,.ref aV]) (s5.at D4);have T6:=u6 (o:=.tup [.str "row", .ref D,.int ((jk new row).length:Nat),.ref aT,.ref aV]) (s5.at t4');have V6:=u6 (o:=.tup [.str "row", .ref D,.int ((jk new row).length:Nat),.ref aT,.ref aV]) (s5.at v4');have P6:upd H5 p (.tup [.str "row", .ref D,.int ((jk new row).length:Nat),.ref aT,.ref aV]) p=some (.tup [.str "row", .ref D,.int ((jk new row).length:Nat),.ref aT,.ref aV]):=zf
 show Q (.ref p) (upd H5 p (.tup [.str "row", .ref D,.int ((jk new row).length:Nat),.ref aT,.ref aV]))
 generalize upd H5 p (.tup [.str "row", .ref D,.int ((jk new row).length:Nat),.ref aT,.ref aV])=H6 at *;have g6:=sG.trans s6;have hin:∀ b∈[D,aT,aV,p],H b=none:=fun b hb=>by
  simp only [WaU,WaM,or_false] at hb
  rcases hb with rfl|rfl|rfl|rfl
  . exact hD0
  . exact hT
  . exact hV
  . exact hp0
 refine q tk hd tp vp l1 l2 me3 (.ref p) (fun b=>if b∈[D,aT,aV,p] then H6 b else G b) H6 ⟨fun b o e=>?_,s6,⟨fun b o e=>?_,fun b x e=>?_⟩,fun b o e=>?_⟩ ?_
 . show(if b∈[D,aT,aV,p] then H6 b else G b)=some o
   rw [if_neg fun z=>by have:=hin b z;rw [sG.s b o e] at this;cases this];exact e
 . have e:(if b∈[D,aT,aV,p] then H6 b else G b)=some o:=e
   split at e
   . exact e
   . exact g6.s b o e
 . have e2:(if b∈[D,aT,aV,p] then H6 b else G b)=some (.ext x):=e
   clear e
   by_cases hb:b∈[D,aT,aV,p]
   . rw [if_pos hb] at e2
     simp only [WaU,WaM,or_false] at hb
     rcases hb with rfl|rfl|rfl|rfl
     . rw [D6] at e2;cases e2
     . rw [T6] at e2;cases e2
     . rw [V6] at e2;cases e2
     . rw [P6] at e2;cases e2
   . rw [if_neg hb] at e2
     exact sG.cl b x e2
 . have e:(if b∈[D,aT,aV,p] then H6 b else G b)=some o:=e
   split at e
   . rename_i hb;exact .inr (.inl (hin b hb))
   . exact .inl e
 . have ap:∀ {b:Addr} {o:HO},b∈[D,aT,aV,p]->H6 b=some o->(if b∈[D,aT,aV,p] then H6 b else G b)=some o:=fun hb e=>by rw [if_pos hb];exact e
   have nw:RdN K H (fun b=>if b∈[D,aT,aV,p] then H6 b else G b) (.ref p) (.tuple [.str "row", dI new,.int (jk new row).length,dI tp,dI vp]):=.tup (ap (by simp) P6) (.cons (.str _) (.cons (.lst (ap (by simp) D6) hD0 zbV) (.cons (.int _) (.cons (.lst (ap (by simp) T6) hT zbV) (.cons (.lst (ap (by simp) V6) hV zbV) .nil)))))
   rw [hnew];exact⟨zcJ nw,fun _=>nw⟩
end
end
theorem zhm{K:Ybf}{CC:Addr}{i:Nat}{tx:TX3}{th:TS3}{A:Ends3}{ρ : Env3}(h:∀ E':Addr->Prop,(∀ C,(PySem.W.exmOne K (.ref C) (.ref CC)=some true/\th { nx:=fun ρ'=>A.nx (ρ'.set i none),rt:=A.rt,bk:=fun ρ'=>A.bk (ρ'.set i none),ct:=fun ρ'=>A.ct (ρ'.set i none) } (ρ.set i (some (.ex C))))->E' C)->tx A E' ρ):try3 K CC i tx th A ρ:=h _ fun _ z=>z
def lE(b:Int)(rows:List (List Int))(row:List Int)(cc:Int)(own:Bool)(n:Nat)(hd:List Int)(ps:List Addr)(g:Nat->Int×Int)(r:Env3):Env3:=[#[5,b],some (.sh false (.list (rows.map dI))),some (.sh false (.list (row.map PyData.int))),#[5,cc],some (.sh true (.bool own)),#[5,n],some (.ow true (hd.map PyData.int)),some (.tr ps ((List.range n).map fun k=>pr2 (g k)))]++r
abbrev eM(ns:List Int)(f1:Bool)(l:List Spell)(B:Int)(qs:List (List Int))(f4:Bool)(row:List Int)(n:Nat)(f6:Bool)(bs:List (Rat2×Rat2))(f7:Bool)(rs:List Rule)(wy cc:Int)(due:Str)(t11 t12:Option L3.Cl):Env3:=[some (.sh false (.list (ns.map .int))),some (.sh f1 (.list (l.map dS))),#[5,B],some (.sh true (.list (qs.map dI))),some (.sh f4 (.list (row.map .int))),#[5,n],some (.sh f6 (.list (bs.map dP))),some (.sh f7 (.list (rs.map dRl))),#[5,wy],#[5,cc],some (.sh true (.str due)),t11,t12,none]
theorem ziI{T n:Int}{rs:List Rule}{r:Rule}{i:Nat}(h:¬okRl T n r):¬okRs T n (rs.take i++[r]++rs.drop i):=fun z=>h (z r (by simp))
open Classical in
def ansM(l:List Spell)(bs:List (Rat2×Rat2))(rs:List Rule)(row:List Int):Str:=
 if ¬okS l then "spell" else if ¬okB (many l) bs then "bounds" else if ¬okRs (tot l) (many l) rs then "rule" else if ¬jW (many l) (tot l).toNat row then "row" else "ok"
theorem ziG{l l':List Spell}{bs:List (Rat2×Rat2)}{rs:List Rule}{row:List Int}{p0 p1 p2 p3:Prop}[Decidable p0][Decidable p1][Decidable p2][Decidable p3](hok:okS l)(h0:p0->¬okS l')(h0':¬p0->l'=l)(h1:okB (many l) bs↔¬p1)(h2:okRs (tot l) (many l) rs↔¬p2)(h3:jW (many l) (tot l).toNat row↔¬p3) :
 ansM l' bs rs row=if p0 then("spell" : Str) else if p1 then("bounds" : Str) else if p2 then("rule" : Str) else if p3 then("row" : Str) else("ok" : Str):=by
 unfold ansM
 by_cases z:p0
 . rw [if_pos (h0 z),if_pos z]
 . rw [h0' z,if_neg (fun y=>y hok),if_neg z]
   simp only [h1,h2,h3,Classical.not_not]
section
variable{P:Program}{w:World}{c:Law.Cl}{K:Ybf}{mg:#[15]}{base:Heap}
def zaF:Sp3:=fun ds Q E=>∃ ns k,ds=[dI ns,.int k]/\0<=k/\∀ v:Int,Q true (.int v)
def zaa:Sp3:=fun ds Q E=>∃ cc k,ds=[.int cc,.int k]/\0<=k/\k<100000/\∀ v:Int,Q true (.int v)
def Z3:Sp3:=fun ds Q E=>∃ cc k,ds=[.int cc,.int k]/\0<=k/\k<100000/\∀ v:Int,Q true (.int v)
def zat:Sp3:=fun ds Q E=>∃ ns m,ds=[dI ns,.int m]/\4<=m/\m<=60/\∀ l,okS l->(∀ s∈l,∀ w∈s.2,w<10 ^ 6)->Q true (dSs l)
def zay:Sp3:=fun ds Q E=>∃ l,ds=[dSs l]/\okS l/\Q true (.tuple [.int (zE l),.list ((quoB (zE l) l).map dI)])
def Z6:Sp3:=fun ds Q E=>∃ (b:Int) (rows:List (List Int)) (cc:Int) (n:Nat),ds=[.int b,.list (rows.map dI),.int cc]/\1<=n/\n<=8/\1<=rows.length/\rows.length<=61/\(∀ r∈rows,r.length=n)/\∀ row:List Int,row.length+1=rows.length->(∀ c∈row,0<=c/\c<n)->Q true (dI row)
def Zw:Sp3:=fun ds Q E=>∃ a b,ds=[.int a,.int b]/\0<b/\Bits 9000 b/\Q true (dR a b)
def Zx:Sp3:=fun ds Q E=>∃ (b:Int) (rows:List (List Int)) (row:List Int) (cc:Int) (own:Bool) (n:Nat),ds=[.int b,.list (rows.map dI),dI row,.int cc,.bool own]/\0<b/\Bits 900 b/\1<=n/\n<=8/\rows.length<=61/\row.length+1=rows.length/\(∀ r∈rows,r.length=n)/\(∀ c∈row,0<=c/\c<n)/\∀ bs,okB n bs->(∀ p∈bs,okQ p.1/\okQ p.2)->Q true (dPs bs)
def zaY:Sp3:=fun ds Q E=>∃ (T n cc:Int),ds=[.int T,.int n,.int cc]/\1<=T/\T<=60/\1<=n/\n<=8/\∀ rs:List Rule,okRs T n rs->txtR rs->rs.length<=8->Q true (dRs rs)
def za5:Sp3:=fun ds Q E=>∃ (row:List Int) (n t:Nat) (cc:Int),ds=[dI row,.int n,.int cc]/\jW n t row/\1<=t/\t<=60/\∀ f row',¬jW n t row'->row'.length<=100->Q f (dI row')
def ZM:Sp3:=fun ds Q E=>∃ (T n cc:Int),ds=[.int T,.int n,.int cc]/\1<=T/\1<=n/\∀ r:Rule,¬okRl T n r->SeqAt.shaped (.str r.1)=true->Q true (dRl r)
def zaL:Sp3:=fun ds Q E=>∃ (l:List (Rat2×Rat2)) (cc:Int) (n:Nat),ds=[dPs l,.int cc]/\okB n l/\1<=n/\n<=8/\(∀ p∈l,okQ p.1/\okQ p.2)/\∀ f l',¬okB n l'->(∀ p∈l',okQ p.1/\okQ p.2)->l'.length<=100->Q f (dPs l')
def zaW:Sp3:=fun ds Q E=>∃ l cc,ds=[dSs l,.int cc]/\okS l/\∀ f l',¬okS l'->l'.length<=100->Q f (dSs l')
def zaH(c:Law.Cl):Sp3:=fun ds Q E=>∃ ws,ds=[dI ws]/\(okW ws->Q true .none)/\(¬okW ws->E c.NoSpell)
def zaK:Sp3:=fun ds Q E=>∃ l,ds=[dSs l]/\l.length<=1000/\Q true (.int (tot l))
def zaz(c:Law.Cl):Sp3:=fun ds Q E=>∃ l,ds=[dSs l]/\(okS l->Q true .none)/\(¬okS l->E c.NoSpell)
def zaN:Sp3:=fun ds Q _=>∃ a b,ds=[.int a,.int b]/\Q true (.int (Int.gcd a b))
def zai:Sp3:=fun ds Q E=>∃ ws,ds=[dI ws]/\Q true (.int (gcdL ws))
def za0:Sp3:=fun ds Q E=>∃ l,ds=[dSs l]/\okS l/\Q true (.int (bot l))
def zag:Sp3:=fun ds Q E=>∃ b ws,ds=[.int b,dI ws]/\okW ws/\Bits 2000 b/\Q true (dI (shares b ws))
def ZV(c:Law.Cl):Sp3:=fun ds Q E=>∃ l,ds=[dSs l]/\(okS l->Q true (.tuple [.int (bot l),.list ((quo l).map dI)]))/\(¬okS l->E c.NoSpell)
def zaB:Sp3:=fun ds Q E=>∃ (path:List Int) (w:Int),ds=[dI path,.int w]/\path.length<=61/\1<=path.length/\Q true (.int (z9 path.length fun t=>decide (w<=path.getD t 0)))
def ZE:Sp3:=fun ds Q E=>∃ (b:Int) (path:List Int) (j:Int) (room:Int×Int),ds=[.int b,dI path,.int j,jL room]/\path.length<=61/\1<=path.length/\Bits 2000 b/\Bits 64 j/\Q true (.tuple [.int (winB b path room j).1,dO (winB b path room j).2])
def zax:Sp3:=fun ds Q E=>∃ (b:Int) (q:List (List Int)) (k:Nat) (room:Int×Int) (n:Nat),ds=[.tuple [.int b,.list (q.map dI)],.int k,jL room]/\0<b/\Bits 2000 b/\k<n/\q.length<=61/\1<=q.length/\(∀ r∈q,r.length=n)/\(∀ r∈q,r.getD k 0+room.2<=80*b)/\0<=room.1/\0<=room.2/\room.2<=80*b/\∀ ws,IsW q.length k (winB b (zH q k) room) 1 ws->ws.length<=200->Q true (.list (ws.map dW))
def zao:Sp3:=fun ds Q E=>∃ (b:Int) (q:List (List Int)) (rooms:List (Int×Int)) (n:Nat),ds=[.tuple [.int b,.list (q.map dI)],.list (rooms.map jL)]/\0<b/\Bits 2000 b/\rooms.length=n/\n<=8/\q.length<=61/\1<=q.length/\(∀ r∈q,r.length=n)/\(∀ r∈q,∀ x∈r,x<=60*b)/\(∀ p∈rooms,0<=p.1/\0<=p.2/\p.2<=20*b)/\∀ W:List (List Win),W.length=n->(∀ k,k<n->IsW q.length k (winB b (zH q k) (rooms.getD k (0,0))) 1 (W.getD k []))->W.flatten.length<=2000->Q true (.list (W.flatten.map dW))
def zaJ(c:Law.Cl):Sp3:=fun ds Q E=>∃ t T:Int,ds=[.int t,.int T]/\(1<=t/\t<=T->Q true .none)/\(¬(1<=t/\t<=T)->E c.NoRule)
def zaR(c:Law.Cl):Sp3:=fun ds Q E=>∃ (rs:List Rule) (T n:Int),ds=[dRs rs,.int T,.int n]/\txtR rs/\(okRs T n rs->Q true .none)/\(¬okRs T n rs->E c.NoRule)
def ZF:SpC:=fun cs Q=>∃ (rs:List Rule) (n:Nat),cs=[.sh false (dRs rs),.sh true (.int n)]/\n<=8/\rs.length<=1000/\∀ ds,(ds.all fun p=>zw p.2)=true->Q (.dt ds) []
def zad:SpC:=fun cs Q=>∃ (v:Win) (t:Int) (ds:List (List Key×D)),cs=[.sh false (dW v),.sh true (.int t),.fd ds]/\(ds.all fun p=>zw p.2)=true/\∀ b,Q (.sh true (.bool b)) []
def zaw(c:Law.Cl):Sp3:=fun ds Q E=>∃ (b:Int) (q:List (List Int)) (V:List Win) (rs:List Rule) (n T:Nat),ds=[.tuple [.int b,.list (q.map dI)],.list (V.map dW),dRs rs]/\q.length=T+1/\T<=60/\(∀ r∈q,r.length=n)/\n<=8/\V.length<=2000/\rs.length<=1000/\txtR rs/\(okRs T n rs->∀ ch:List (List Int),ch.length=T->(∀ row∈ch,row.length<=2000/\row.Nodup/\∀ x∈row,InR x V.length)->Q true (.list (ch.map dI)))/\(¬okRs T n rs->E c.NoRule)
def zaP(c:Law.Cl):Sp3:=fun ds Q E=>∃ (row:List Int) (T n:Nat),ds=[dI row,.int T,.int n]/\(jW n T row->Q true .none)/\(¬jW n T row->E c.NoRow)
def zaQ:Sp3:=fun ds Q E=>∃ (V:List Win) (ch:List (List Int)),ds=[.list (V.map dW),.list (ch.map dI)]/\V.length<=2000/\ch.length<=60/\(∀ row∈ch,row.length<=2000/\∀ x∈row,InR x V.length)/\∀ tv:List (List Int),tv.length=V.length->(∀ row∈tv,∀ x∈row,InR x ch.length)->(∀ i,i<V.length->∀ j,j<ch.length->((j:Int)∈tv.getD i []↔(i:Int)∈ch.getD j []))->Q true (.list (tv.map dI))
def ZJ:SpC:=fun cs Q=>∃ (x:Int) (a1 a2 a3:Addr) (ca t h:Tb) (r:Int->Nat) (start:Int) (A B m:Nat) (Ed:Int->Int->Prop),cs=[.sh true (.int x),.dm a1 ca,.dm a2 t,.dm a3 h]/\Way Ed ca t r start A B/\OnWay Ed ca t h t h r x A B m/\A<=2000/\B<=2000/\∀ t' h',Moved Ed t h t' h' start A B->Q (.sh true .none) [ca,t',h']
def zaM:SpC:=fun cs Q=>∃ (start:Int) (ch:List (List Int)) (a2 a3:Addr) (t h:Tb) (A B:Nat),cs=[.sh true (.int start),.sh false (.list (ch.map dI)),.dm a2 t,.dm a3 h]/\ch.length=A/\A<=2000/\B<=2000/\(A<=62\/B<=62)/\InR start A/\(∀ row∈ch,∀ x∈row,InR x B)/\Mat t h/\TbOk t A B/\TbOk h B A/\getM t start=none/\(∀ s c,getM t s=some c->c∈ch.getD s.toNat [])/\(∀ t' h',Moved (fun s c=>c∈ch.getD s.toNat []) t h t' h' start A B->Q (.sh true (.list [])) [t',h'])/\∀ rs:List Int,rs≠[]->rs.length<64->(∀ x∈rs,InR x A)->Q (.sh true (dI rs)) [t,h]
def Z5:Sp3:=fun ds Q E=>∃ (V:List Win) (ch:List (List Int)),ds=[.list (V.map dW),.list (ch.map dI)]/\V.length<=2000/\ch.length<=60/\(∀ row∈ch,row.length<=2000/\∀ x∈row,InR x V.length)/\∀ d,zhN V ch d->Q true d
def zav:Sp3:=fun ds Q E=>∃ a b:Rat2,ds=[dQ a,dQ b]/\okQ a/\okQ b/\Q true (.bool (decide (a.1*b.2<b.1*a.2)))
def Zv(c:Law.Cl):Sp3:=fun ds Q E=>∃ (l:List (Rat2×Rat2)) (n:Nat),ds=[dPs l,.int n]/\(∀ p∈l,okQ p.1/\okQ p.2)/\(okB n l->Q true .none)/\(¬okB n l->E c.NoBounds)
def zap:Sp3:=fun ds Q E=>∃ (b:Int) (r:Rat2),ds=[.int b,dQ r]/\Bits 2000 b/\okQ r/\Q true (.int (ZB b r))
def zaU(c:Law.Cl):Sp3:=fun ds Q E=>∃ (b:Int) (q:List (List Int)) (l:List (Rat2×Rat2)) (n:Nat),ds=[.tuple [.int b,.list (q.map dI)],dPs l]/\Bits 2000 b/\1<=q.length/\(∀ r∈q,r.length=n)/\n<=8/\l.length<=1000/\(∀ p∈l,okQ p.1/\okQ p.2)/\(okB n l->Q true (.list ((jS b l).map jL)))/\(¬okB n l->E c.NoBounds)
def Zt(c:Law.Cl):Sp3:=fun ds Q E=>∃ (l:List Spell) (bs:List (Rat2×Rat2)) (rs:List Rule) (row:List Int),ds=[dSs l,dPs bs,dRs rs,dI row]/\bs.length<=1000/\(∀ p∈bs,okQ p.1/\okQ p.2)/\rs.length<=1000/\txtR rs/\row.length<=1000/\(okS l->okB (many l) bs->okRs (tot l) (many l) rs->jW (many l) (tot l).toNat row->∀ d,Q true d)/\(¬okS l->E c.NoSpell)/\(okS l->¬okB (many l) bs->E c.NoBounds)/\(okS l->okB (many l) bs->¬okRs (tot l) (many l) rs->E c.NoRule)/\(okS l->okB (many l) bs->okRs (tot l) (many l) rs->¬jW (many l) (tot l).toNat row->E c.NoRow)
def Zh:Sp3:=fun ds Q E=>∃ (l:List Spell) (bs:List (Rat2×Rat2)) (rs:List Rule) (row:List Int),ds=[dSs l,dPs bs,dRs rs,dI row]/\bs.length<=1000/\(∀ p∈bs,okQ p.1/\okQ p.2)/\rs.length<=1000/\txtR rs/\row.length<=1000/\Q true (.str (ansM l bs rs row))
def JC:Sp3:=fun ds Q E=>∃ ns,ds=[dI ns]/\ns.length<=63/\Q true (.bool true)
section
variable(c:Law.Cl)(P:Program)(w:World)(K:Ybf)(mg:#[15])(base:Heap)
abbrev dd_law_cell_at:=Df3 P w K mg base 1 "_law_cell_at" ["_law_script", "_law_k"] zaF
abbrev dd_law_mixed:=Df3 P w K mg base 1 "_law_mixed" ["_law_cell", "_law_k"] zaa
abbrev dd_law_wide:=Df3 P w K mg base 2 "_law_wide" ["_law_cell", "_law_k"] Z3
abbrev dd_law_spells:=Df3 P w K mg base 3 "_law_spells" ["_law_script", "_law_most"] zat
abbrev dd_law_quotas:=Df3 P w K mg base 1 "_law_quotas" ["_law_spells_here"] zay
abbrev dd_law_row:=Df3 P w K mg base 3 "_law_row" ["_law_bottom", "_law_rows", "_law_cell"] Z6
abbrev dd_law_ratio:=Df3 P w K mg base 1 "_law_ratio" ["_law_top", "_law_bottom"] Zw
abbrev dd_law_limits:=Df3 P w K mg base 3 "_law_limits" ["_law_bottom", "_law_rows", "_law_row_here", "_law_cell", "_law_own"] Zx
abbrev dd_law_rules:=Df3 P w K mg base 3 "_law_rules" ["_law_turns", "_law_clans", "_law_cell"] zaY
abbrev dd_law_no_row:=Df3 P w K mg base 1 "_law_no_row" ["_law_row_here", "_law_clans", "_law_cell"] za5
abbrev dd_law_no_rule:=Df3 P w K mg base 1 "_law_no_rule" ["_law_turns", "_law_clans", "_law_cell"] ZM
abbrev dd_law_no_bounds:=Df3 P w K mg base 1 "_law_no_bounds" ["_law_bounds", "_law_cell"] zaL
abbrev dd_law_no_spells:=Df3 P w K mg base 1 "_law_no_spells" ["_law_spells_here", "_law_cell"] zaW
abbrev dd_check_weights:=Df3 P w K mg base 1 "check_weights" ["weights"] (zaH c)
abbrev dd_all_turns:=Df3 P w K mg base 1 "all_turns" ["spells"] zaK
abbrev dd_check_spells:=Df3 P w K mg base 2 "check_spells" ["spells"] (zaz c)
abbrev dd_common_divisor:=Df3 P w K mg base 1 "common_divisor" ["one", "other"] zaN
abbrev dd_divisor_of_all:=Df3 P w K mg base 2 "divisor_of_all" ["weights"] zai
abbrev dd_least_bottom:=Df3 P w K mg base 3 "least_bottom" ["spells"] za0
abbrev dd_shares_over:=Df3 P w K mg base 1 "shares_over" ["bottom", "weights"] zag
abbrev dd_quotas:=Df3 P w K mg base 4 "quotas" ["spells"] (ZV c)
abbrev dd_first_turn:=Df3 P w K mg base 1 "first_turn" ["path", "wanted"] zaB
abbrev dd_window_of:=Df3 P w K mg base 2 "window_of" ["bottom", "path", "j", "room"] ZE
abbrev dd_windows_of_clan:=Df3 P w K mg base 3 "windows_of_clan" ["told", "clan", "room"] zax
abbrev dd_windows_within:=Df3 P w K mg base 4 "windows_within" ["told", "rooms"] zao
abbrev dd_check_turn:=Df3 P w K mg base 1 "check_turn" ["turn", "turns"] (zaJ c)
abbrev dd_check_rules:=Df3 P w K mg base 2 "check_rules" ["rules", "turns", "clans"] (zaR c)
abbrev dd_forbidden:=DfC P w K mg base 1 "forbidden" ["rules", "clans"] ZF
abbrev dd_may_come:=DfC P w K mg base 1 "may_come" ["visit", "turn", "barred"] zad
abbrev dd_choices_of_turns:=Df3 P w K mg base 3 "choices_of_turns" ["told", "visits", "rules"] (zaw c)
abbrev dd_check_row:=Df3 P w K mg base 1 "check_row" ["row", "turns", "clans"] (zaP c)
abbrev dd_choices_of_visits:=Df3 P w K mg base 1 "choices_of_visits" ["visits", "choices"] zaQ
abbrev dd_move_along:=DfC P w K mg base 1 "move_along" ["choice", "came", "taken", "holders"] ZJ
abbrev dd_settle:=DfC P w K mg base 2 "settle" ["start", "choices", "taken", "holders"] zaM
abbrev dd_place_visits:=Df3 P w K mg base 3 "place_visits" ["visits", "choices"] Z5
abbrev dd_mend_visits:=DfU c.tb P w K mg base 6 "mend_visits" ["visits", "choices", "row"] Zq
abbrev dd_less:=Df3 P w K mg base 1 "less" ["one", "other"] zav
abbrev dd_check_bounds:=Df3 P w K mg base 2 "check_bounds" ["bounds", "clans"] (Zv c)
abbrev dd_room_at_most:=Df3 P w K mg base 1 "room_at_most" ["bottom", "bound"] zap
abbrev dd_rooms_of:=Df3 P w K mg base 3 "rooms_of" ["told", "bounds"] (zaU c)
abbrev dd_mended:=DfU c.tb P w K mg base 7 "mended" ["spells", "bounds", "rules", "row"] (Zt c)
abbrev dd_law_answer:=DfU c.tb P w K mg base 8 "_law_answer" ["_law_spells_here", "_law_bounds", "_law_rules_here", "_law_row_here"] Zh
end
local macro_rules | `(tactic| walk_at $w:str)=>do
 let ws:=w.getString.splitOn " "
 if ws.head? == some "o" then return (<-`(tactic| first|exact Or.inl rfl|exact Or.inr rfl|exact Or.inr (Or.inl rfl)|exact Or.inr (Or.inr rfl)))
 if ws.head? == some "s" then return (<-`(tactic| refine zi fun $(mI `N) $(mI `hN)=>?_))
 if ws.head? == some "n" then return (<-`(tactic| (refine $(mI `hN) _ ?_;clear $(mI `hN) $(mI `N))))
 if ws.head? == some "t" then return (<-`(tactic| (clear $(mI `hN) $(mI `N);refine zi fun $(mI `N) $(mI `hN)=>?_)))
 if ws.head? == some "u" then return (<-`(tactic| (refine $(mI `hN) _ ?_;clear $(mI `hN) $(mI `N);refine zi fun $(mI `N) $(mI `hN)=>?_)))
 if ws.head? == some "q" then return (<-`(tactic| (refine zi fun $(mI `N) $(mI `hN)=>?_;walk_at "rd")))
 if ws.head? == some "v" then return (<-`(tactic| (refine $(mI `hN) _ ?_;clear $(mI `hN) $(mI `N);refine zi fun $(mI `N) $(mI `hN)=>?_;walk_at "rd")))
 if ws.head? == some "w" then return (<-`(tactic| (clear $(mI `hN) $(mI `N);refine zi fun $(mI `N) $(mI `hN)=>?_;walk_at "rd")))
 if ws.head? == some "l" then return (<-`(tactic| first|(obtain⟨_,$(mI `rfl):ident,_⟩:=$(mI `h);rfl)|(obtain⟨_,_,$(mI `rfl):ident,_⟩:=$(mI `h);rfl)|(obtain⟨_,_,_,$(mI `rfl):ident,_⟩:=$(mI `h);rfl)|(obtain⟨_,_,_,_,$(mI `rfl):ident,_⟩:=$(mI `h);rfl)|(obtain⟨_,_,_,_,_,$(mI `rfl):ident,_⟩:=$(mI `h);rfl)|(obtain⟨_,_,_,_,_,_,$(mI `rfl):ident,_⟩:=$(mI `h);rfl)))
 if ws.head? == some "d" then return (<-`(tactic| refine⟨fun $(mI `ds) $(mI `Q) $(mI `Q') $(mI `E) $(mI `E') $(mI `hQ) $(mI `hE) $(mI `h)=>?_,⟨$(mI `f),$(mI `fd),fn3 $(mI `F) $(mI `S) (fun $(mI `ds) $(mI `Q) $(mI `E) $(mI `h)=>?_) (fun $(mI `cdv) $(mI `A) $(mI `outer) $(mI `s) $(mI `H) $(mI `E) $(mI `E3) $(mI `hE) $(mI `hr)=>?_),$(mI `F.binds) fun _ _ _ _ _ _ us hl=>by first|(obtain⟨_,$(mI `rfl):ident⟩:=zjr hl;rfl)|(obtain⟨_,_,$(mI `rfl):ident⟩:=ZK hl;rfl)|(obtain⟨_,_,_,$(mI `rfl):ident⟩:=ZZ hl;rfl)|(obtain⟨_,_,_,_,$(mI `rfl):ident⟩:=Za hl;rfl)|(obtain⟨_,_,_,_,_,$(mI `rfl):ident⟩:=zdz hl;rfl),$(mI `F.kp),$(mI `hm)⟩⟩))
 if ws.head? == some "m" then return (<-`(tactic| (revert $(mI `h);repeat' (first|exact fun h=>h|exact $(mI `hQ) _ _|exact $(mI `hE) _|refine Exists.imp fun _=>?_|refine And.imp ?_ ?_|refine forall_imp fun _=>?_))))
 if ws.head? == some "g" then return (<-`(tactic| ((try dsimp only [lE,gn3,List.cons_append,List.nil_append,List.set_cons_zero,List.set_cons_succ,zw,WaX,Wa5]);try simp only [lE,gn3,List.cons_append,List.nil_append,List.set_cons_zero,List.set_cons_succ,zw,Bool.or_true])))
 unless ws.head? == some "rd" do Lean.Macro.throwUnsupported
 let ds <-("seq3,next3,set3,own3,ret3,ifS3,tt3,o3,u3,v3,atV,asS,asB,asD,optP,asT,asLd,asL,atO,Zb,nilP,asId,asI,k3,nw3,add3,int3,int0,neg3,eq3,ne3,eqOk,eqv3,notN3,isNone,ix3,ixD,zaj,nil3,Zn,cb3,len3,lenD,abs3,max23,min23,sum3,max3,and3,or3,not3,ch3,tup3,lst3,ZO,catN,slL3,no3,ZC,zak,asg3,gn3,za2,za7,gnil3,app3,put3,frzS,frz,frz1,for3,itL,itT,itZ,rg1,rg2,Jq,true3,cst3,zah,try3,zaA,isxr,isxy,isxt,jK,shs,Cl.d,Cl.dat,Cl.f,zbD,zw,Option.map_some,Option.map_none,Option.isSome_some,Option.isSome_none,Option.join_some,Option.join_none,List.all_cons,List.all_nil,WaW,WaX,Wa5,Ya1,Wa4,List.length_cons,List.length_nil,Nat.reduceAdd,Nat.reduceSub,List.replicate,List.cons_append,List.nil_append,List.getElem?_cons_zero,List.getElem?_cons_succ,List.set_cons_zero,List.set_cons_succ,Bool.not_true,Bool.not_false,par3,aug3,idx3,ext3,itE,k3f,ZD,put2,app2,ix2,za6,zaq,repN,zaO,ZW,frzD,dms,jt,argC,JS,j6,finM,holds,updM,J7,ZN,Zz,zau,zam,zaT,ZI,zaG,za1,zaD,zar,srtL,ninT3,ZQ,List.foldl_cons,List.foldl_nil,zaF,zaa,Z3,zat,zay,Z6,Zw,Zx,zaY,za5,ZM,zaL,zaW,zaH,zaK,zaz,zaN,zai,za0,zag,ZV,zaB,ZE,zax,zao,zaJ,zaR,ZF,zad,zaw,zaP,zaQ,ZJ,zaM,Z5,zav,Zv,zap,zaU,Zt,Zh,JC,dSs,dS,dI,zw,dQ,dP,dPs,jL,dW,dRs,dRl,Zq,eM,lE".splitOn ",").toArray.mapM fun s=>`(Lean.Parser.Tactic.simpLemma| $(Lean.mkIdent s.toName):term)
 let rs <-(("Wa0,WaY,WaV,Bool.or_true,Wa7,Yao,Waw,Cl.sh.injEq,Cl.ow.injEq,Cl.ex.injEq,WaN,WaE,WaO,WaF,Wat,List.cons.injEq,reduceCtorEq,and_assoc,and_true,true_and,and_self,exists_eq_left,exists_eq_left',exists_eq',exists_eq_right,exists_eq_right',exists_and_left,exists_const,exists_false,false_and,and_false,or_false,false_or,or_true,true_or,decide_true,decide_false,decide_eq_true_eq,War,Wau,if_true,if_false,ite_true,ite_false,Wav,decide_eq_false_iff_not,eq_self_iff_true,not_true_eq_false,not_false_eq_true,sz0,sz1,sz2,sz3,sz4,sz5,sz8,Cl.tr.injEq,Cl.dt.injEq,Cl.fd.injEq,Cl.dm.injEq,atI0,atI1,atI2,atI3".splitOn ",")++ws.tail).toArray.mapM fun s=>`(Lean.Parser.Tactic.simpLemma| $(Lean.mkIdent s.toName):term)
 let ls:=ds++rs
 `(tactic| ((try dsimp only [$ds:simpLemma,*]);try simp (config:={ maxSteps:=2000000 }) only [$ls:simpLemma,*]))
theorem zdM(T:Txt c K mg):#[8,dd_law_cell_at]:=by
 obtain⟨f,fd,F,hm⟩:=T.d_law_cell_at;have S:FnScope ["_law_script", "_law_k"] ["_law_script", "_law_k"] (zg zeM):=#[10]
 walk_at "d"
 . walk_at "m"
 . walk_at "l"
 refine⟨_,(zc (s_if (zr Jb (n3 1) (zu zI rfl T.n_len zD (za (n3 0) zb)) (nomark _)) (ze (zn (op3 zp (at3 (n3 0) (n3 1) #[4]) (op3 jF i3 i3)))) zo)
  (ze (zn i3))),fun ds Q h=>?_⟩
 obtain⟨ns,k,rfl,hk,q⟩:=h
 walk_at "rd"
 rw [YaR]
 by_cases h:k<ns.length
 . rw [if_pos h]
   obtain⟨x,h1,_⟩:=Jy (xs:=ns) hk h;refine⟨.int x,by rw [j4,h1];rfl,c64,?_⟩
   exact⟨#[1],q _⟩
 . rw [if_neg h]
   exact q _
theorem zlj(T:Txt c K mg):#[8,dd_law_mixed]:=by
 obtain⟨f,fd,F,hm⟩:=T.d_law_mixed;have S:FnScope ["_law_cell", "_law_k", "_law_one"] ["_law_cell", "_law_k"] (zg zd1):=#[10]
 walk_at "d"
 . walk_at "m"
 . walk_at "l"
 refine⟨_,(zc (#[9,zj,2] (op3 zp (op3 jn (op3 zC (op3 zp (n3 0) (op3 jF i3 i3)) (op3 jn i3 (op3 zC (n3 1) i3))) i3) (op3 jF i3 i3)))
  (ze (zn (op3 zp (op3 zt (op3 jn (n3 2) (n3 2)) (op3 jF i3 i3)) (op3 jF i3 i3))))),fun ds Q h=>?_⟩
 obtain⟨cc,k,rfl,h0,h1,q⟩:=h
 walk_at "rd"
 have cp:∀ n:Int,0<=n->n<=100->JH 10 n:=fun n h h'=>powB (k:=4) (by unfold Bits;decide) h #[0]
 have hk:Bits 64 (k+1):=by unfold Bits;omega
 have b1:Bits 128 (cc%10 ^ Int.toNat 18):=(Bits.emod (Bits.lit 64) #[1] _).mono #[1]
 have b2:=(Bits.lit (x:=1442695040888963407) 64).mul hk;have b3:=b1.add b2;generalize cc%10 ^ Int.toNat 18+1442695040888963407*(k+1)=y at b3 ⊢;have b4:Bits 130 (y*6364136223846793005%10 ^ Int.toNat 37):=Bits.emod (by unfold Bits;decide) #[1] _
 generalize y*6364136223846793005%10 ^ Int.toNat 37=z at b4 ⊢;exact⟨cp 18 #[1] #[1],#[1],(Bits.lit (x:=1442695040888963407) 64).mulOk hk #[1],b3.mulOk (Bits.lit 64) #[1],cp 37 #[1] #[1],#[1],b4.mulOk b4 #[1],cp 17 #[1] #[1],divP,cp 56 #[1] #[1],#[1],q _⟩
theorem zbW(T:Txt c K mg):#[8,dd_law_wide]:=by
 have zmh:#[8,dd_law_mixed]:=zlj T;obtain⟨f,fd,F,hm⟩:=T.d_law_wide;have S:FnScope ["_law_cell", "_law_k"] ["_law_cell", "_law_k"] (zg zdF):=#[10]
 walk_at "d"
 . walk_at "m"
 . walk_at "l"
 refine⟨_,(zc (s_if (zr Jb (n3 0) (op3 jF i3 i3) (nomark _)) (ze (zn (df3 hE zmh #[7] rfl zq (za (n3 0) (za (n3 1) zb))))) zo)
  (ze (zn (n3 0)))),fun ds Q h=>?_⟩
 obtain⟨cc,k,rfl,h0,h1,q⟩:=h
 walk_at "rd"
 refine⟨powB (k:=4) (by unfold Bits;decide) #[1] #[1],ite2 (fun _=>⟨h0,h1,q⟩) fun _=>q _⟩
theorem zlN(T:Txt c K mg):#[8,dd_law_spells]:=by
 have zmf:#[8,dd_law_cell_at]:=zdM T;have zmr:#[8,dd_law_wide]:=zbW T;obtain⟨f,fd,F,hm⟩:=T.d_law_spells;have S:FnScope ["_law_script", "_law_most", "_law_first", "_law_clans", "_law_count", "_law_spells_here", "_law_k", "_law_cell", "_law_length", "_law_size", "_law_weights", "_law_i"] ["_law_script", "_law_most"] (zg zfp):=#[10]
 walk_at "d"
 . walk_at "m"
 . walk_at "l"
 refine⟨_,(zc (#[9,zj,2] (df3 hE zmf #[7] rfl zq (za (n3 0) (za i3 zb))))
  (zc (#[9,zj,3] (op3 zC i3 (op3 zp (n3 2) i3)))
  (zc (#[9,zj,4] (op3 zC i3 (op3 zp (op3 zt (n3 2) i3) i3)))
  (zc (#[9,jB,5] (zy zb))
  (zc (zM WaC rfl (jj rfl T.n_range (za (n3 4) zb)) #[9,zk,6] (zc (#[9,zj,7] (df3 hE zmr #[7] rfl zq (za (df3 hE zmf #[7] rfl zq (za (n3 0) (za (op3 zC i3 (n3 6)) zb))) (za (op3 zC (op3 zp (n3 2) i3) (op3 jn i3 (n3 6))) zb))))
   (zc (#[9,zj,8] (op3 zC i3 (op3 zp (n3 7) (op3 zt (n3 1) (n3 4)))))
   (zc (#[9,zj,7] (op3 zt (n3 7) (op3 zt (n3 1) (n3 4))))
   (zc (#[9,zj,9] (at3 (new3 (zy (za i3 (za i3 (za i3 (za (op3 jF i3 i3) zb)))))) (op3 zp (n3 7) i3) #[4]))
   (zc (#[9,zj,7] (op3 zt (n3 7) i3))
   (zc (#[9,jB,10] (zy zb))
   (zc (zM WaC rfl (jj rfl T.n_range (za (n3 3) zb)) #[9,zk,11] (zc (jZ (i:=10) rfl #[2] (op3 zp (n3 7) (n3 9)))
    (ze (#[9,zj,7] (op3 zt (n3 7) (n3 9))))))
   (zc (s_if (zr (zO hr.units) (zu (JD rfl) rfl T.n_sum JI (za (n3 10) zb)) i3 (nomark _)) (ze (Zy (i:=10) rfl #[2] (op3 zp (n3 7) (n3 3)) i3)) zo)
   (ze (jP [10] (jZ (i:=5) rfl #[2] (zx (za (n3 8) (za (n3 10) zb)))))))))))))))
  (ze (jP [5] (zn (n3 5))))))))),fun ds Q h=>?_⟩
 obtain⟨ns,m,rfl,h4,h60,q⟩:=h
 walk_at "rd"
 refine⟨ns,rfl,#[1],fun v=>⟨#[1],divP,#[1],#[0],#[0],?_⟩⟩
 obtain⟨n,hn⟩:∃ n:Nat,1+v%8=(n:Int):=⟨(1+v%8).toNat,#[0]⟩
 obtain⟨cn,hcn⟩:∃ n:Nat,1+v/8%4=(n:Int):=⟨(1+v/8%4).toNat,#[0]⟩
 have hn8:1<=n/\n<=8:=#[0]
 have hc4:1<=cn/\cn<=4:=#[0]
 rw [hn,hcn,Int.toNat_natCast];have hmul:(cn:Int)*(m/cn)<=m:=Int.mul_ediv_self_le #[0]
 have hper:1<=m/(cn:Int):=Int.le_ediv_of_mul_le #[0] #[0]
 have hper2:m/(cn:Int)<=60:=Int.le_trans (Int.ediv_le_self _ #[0]) h60
 have dcn:jX m (cn:Int):=⟨#[0],Bits.lit (x:=(cn:Int)) 9000 #[0]⟩
 generalize hp:m/(cn:Int)=per at hmul hper hper2;have c6:JH 10 6:=powB (k:=4) (by unfold Bits;decide) #[1] #[1]
 refine jx (fun k ρ=>∃ (l:List Spell) (t1 t2 t3 t4 t5 t6:Option L3.Cl),ρ = [some (.sh false (.list (ns.map .int))),#[5,m],#[5,v],#[5,n],#[5,cn],some (.ow true (l.map dS)),t1,t2,t3,t4,t5,t6]/\l.length=k/\∀ s∈l,1<=s.1/\s.1<=per/\okW s.2/\s.2.length=n/\∀ w∈s.2,w<10 ^ 6) ?_ ?_ ⟨[],none,none,none,none,none,none,rfl,rfl,fun s h=>by cases h⟩
 . rintro k ρ hk ⟨l,t1,t2,t3,t4,t5,t6,rfl,hl,hs⟩ W hW
   walk_at "rd"
   rw [hp];refine⟨ns,rfl,#[0],fun v1=>⟨#[1],(Bits.lit (x:=64) 64).mulOk (Bits.lit (x:=0+(k:Int)) 64 #[0]) #[1],#[0],#[0],fun v2=>⟨dcn,#[0],dcn,⟨#[0],Bits.lit (x:=per) 9000 #[0]⟩,c6,#[1],?_⟩⟩⟩
   obtain⟨d,hd,hm,_⟩:=Jy (xs:=[PyData.int 3,PyData.int 11,PyData.int 2,PyData.int (10 ^ Int.toNat 6)]) (i:=v2/per%4) #[0] (by show v2/per%4<4;omega)
   obtain⟨sz',rfl,hs2,hs30⟩:∃ z,d=PyData.int z/\2<=z/\z<=10 ^ 6:=by
    simp only [WaU,WaM,or_false] at hm
    rcases hm with rfl|rfl|rfl|rfl<;>exact⟨_,rfl,#[1],#[1]⟩
   refine⟨_,hd,?_⟩
   walk_at "rd"
   refine⟨divP,#[0],#[0],?_⟩
   have hsb:Bits 9000 sz':=Bits.lit (x:=sz') 9000 #[0]
   have hlen0:=Ybc v2 (show per≠0 by omega)
   have hlen1:=Ybd v2 (show 0<per by omega)
   rw [Int.toNat_natCast];refine jx (fun j ρ=>∃ (ws:List Int) (c':Int) (t:Option L3.Cl),ρ = [some (.sh false (.list (ns.map .int))),#[5,m],#[5,v],#[5,n],#[5,cn],some (.ow true (l.map dS)),#[5,0+k],#[5,c'],#[5,1+v2%per],#[5,sz'],some (.ow true (ws.map .int)),t]/\ws.length=j/\∀ w∈ws,0<=w/\w<10 ^ 6) ?_ ?_ ⟨[],_,t6,rfl,rfl,fun _ h=>by cases h⟩
   . rintro j ρ hj ⟨ws,c',t,rfl,hl',hw⟩ W' hW'
     walk_at "rd"
     rw [YaR];refine⟨#[0],YaU (show _<1000000 by omega) #[1],⟨#[0],hsb⟩,hW' _ ⟨ws++[c'%sz'],_,_,by rw [Ya2];rfl,by simp [hl'],fun w hw'=>?_⟩⟩
     rcases Ya3.mp hw' with z|z
     . exact hw w z
     . rw [Ya6.mp z]
       have:=Ybc c' (show sz'≠0 by omega)
       have:=Ybd c' (show 0<sz' by omega)
       exact⟨#[0],#[0]⟩
   . rintro ρ ⟨ws,c',t,rfl,hl',hw⟩
     have e6:(10:Int) ^ 6<=10 ^ 30:=#[1]
     have fin:∀ ws':List Int,ws'.length=n->(∀ w∈ws',0<=w/\w<10 ^ 6)->ws'.sum≠0->∀ t t7,W [some (.sh false (.list (ns.map .int))),#[5,m],#[5,v],#[5,n],#[5,cn],some (.ow true (l.map dS++[.tuple [.int (1+v2%per),.list (ws'.map .int)]])),#[5,0+k],#[5,c'],#[5,1+v2%per],#[5,sz'],t7,t]:=fun ws' h1 h2 h3 t t7=>hW _ ⟨l++[(1+v2%per,ws')],_,_,_,_,_,_,by rw [Ya2];rfl,by simp [hl],fun s hs'=>by
      rcases Ya3.mp hs' with z|z
      . exact hs s z
      . rw [Ya6.mp z]
        exact⟨by show 1<=1+v2%per;omega,by show 1+v2%per<=per;omega,⟨by show 1<=ws'.length/\ws'.length<=8;omega,fun w hw=>⟨(h2 w hw).1,by have:=(h2 w hw).2;omega⟩,h3⟩,h1,fun w hw=>(h2 w hw).2⟩⟩
     walk_at "rd"
     refine⟨ws,Jm _,?_⟩
     by_cases hz:ws.sum=0
     . rw [if_pos hz]
       have m0:=Ybc c' (show(n:Int)≠0 by omega)
       have m1:=Ybd c' (show 0<(n:Int) by omega)
       have hi:ixN (ws.map PyData.int).length (c'%n)=some (c'%n).toNat:=by
        rw [YaR];exact Jv m0 #[0]
       have e:(ws.map PyData.int).set (c'%n).toNat (PyData.int 1)=(ws.set (c'%n).toNat 1).map PyData.int:=by rw [Wa8]
       have hw':∀ w∈ws.set (c'%n).toNat 1,0<=w/\w<10 ^ 6:=fun w h=>by
        rcases Wad h with z|z
        . exact hw w z
        . subst z;exact⟨#[1],#[1]⟩
       refine⟨#[0],_,hi,?_⟩
       rw [e];exact⟨YaU (show _<1000000 by rw [YaR];omega) #[1],fin _ (by rw [YaN];exact hl') hw' (ziy (fun w h=>(hw' w h).1) (List.mem_set #[0] 1)) _ _⟩
     . rw [if_neg hz]
       exact⟨YaU (show _<1000000 by rw [YaR];omega) #[1],fin ws hl' hw hz _ _⟩
 . rintro ρ ⟨l,t1,t2,t3,t4,t5,t6,rfl,hl,hs⟩
   walk_at "rd"
   have hmany:∀ s∈l,s.2.length=many l:=fun s hs'=>by
    cases l with
    | nil=>cases hs'
    | cons a r=>exact(hs s hs').2.2.2.1.trans (hs a YaV).2.2.2.1.symm
   refine q l ⟨#[0],fun s hs'=>⟨(hs s hs').1,(hs s hs').2.2.1,hmany s hs'⟩,?_⟩ fun s hs'=>(hs s hs').2.2.2.2
   have:=zhQ (l:=l) (B:=per) fun s hs'=>(hs s hs').2.1
   have h2:(l.length:Int)*per<=cn*per:=by rw [hl];exact Wba _
   omega
theorem zkM(T:Txt c K mg):#[8,dd_law_quotas]:=by
 obtain⟨f,fd,F,hm⟩:=T.d_law_quotas;have S:FnScope ["_law_spells_here", "_law_bottom", "_law_length", "_law_weights", "_law_rows", "_law_turn", "_law_row_here", "_law_k", "_law_share"] ["_law_spells_here"] (zg zcg):=#[10]
 walk_at "d"
 . walk_at "m"
 . walk_at "l"
 refine⟨_,(zc (#[9,zj,1] i3)
  (zc (zM WaC rfl (zU (n3 0)) (jb (n:=2) rfl (zA #[9,zk,2] (zA #[9,zk,3] je))) (ze (#[9,zj,1] (op3 jn (n3 1) (zu (JD rfl) rfl T.n_sum JI (za (n3 3) zb))))))
  (zc (#[9,jB,4] (zy (za (new3 (jo ["_law_weight"] [] [] rfl (zT (osc:=zg zcg) #[3]) rfl (zU (at3 (at3 (n3 0) i3 #[4]) i3 #[4])) (fun H0 s H fp cl=>⟨(zk (i:=0) (show((["_law_weight"]:List PySem.Str)++([]:List PySem.Str)).Nodup by decide) rfl #[2]),jh,i3⟩))) zb)))
  (zc (zM WaC rfl (zU (n3 0)) (jb (n:=2) rfl (zA #[9,zk,2] (zA #[9,zk,3] je))) (ze (zM WaC rfl (jj rfl T.n_range (za (n3 2) zb)) #[9,zk,5] (zc (#[9,jB,6] (zy zb))
   (zc (zM WaC rfl (jj rfl T.n_range (za (zu zI rfl T.n_len zD (za (n3 3) zb)) zb)) #[9,zk,7] (zc (#[9,zj,8] (op3 jn (at3 (n3 3) (n3 7) #[4]) (op3 zt (n3 1) (zu (JD rfl) rfl T.n_sum JI (za (n3 3) zb)))))
    (ze (jZ (i:=6) rfl #[2] (op3 zC (at3 (at3 (n3 4) (un3 Jh i3) #[4]) (n3 7) #[4]) (n3 8))))))
   (ze (jP [6] (jZ (i:=4) rfl #[2] (n3 6)))))))))
  (ze (jP [4] (zn (zx (za (n3 1) (za (n3 4) zb)))))))))),fun ds Q h=>?_⟩
 obtain⟨l,rfl,hok,q⟩:=h;have hm:=zb2 hok;have hB:=zfh hok;have hBb:=zf1 hok;have hl0:l≠[]:=fun z=>by have:=hok.1.1;rw [z] at this;simp at this
 have hd0:atI (l.map dS) 0=some (dS (l.headD (0,[]))):=by
  cases l with
  | nil=>exact absurd rfl hl0
  | cons a r=>exact atI0
 walk_at "rd"
 refine jR dS l (fun done ρ=>∃ t u,ρ = [some (.sh false (.list (l.map dS))),#[5,zE done],t,u,none,none,none,none,none]) ?_ ?_ ⟨none,none,rfl⟩
 . rintro done s rest ρ hd ⟨t,u,rfl⟩ W hW
   have hs:s∈l:=by rw [hd];simp
   have hsok:=(hok.2.1 s hs).2.1;have hpd:=zbn done 1 1 (fun t ht=>(hok.2.1 t (by rw [hd];exact Yai _ ht)).2.1) #[1] (by unfold Bits;decide)
   have hdl:done.length<=8:=by have:=hok.1.2;rw [hd,YaS] at this;omega
   walk_at "rd"
   refine⟨s.2,Jm _,(hpd.2.mono (k:=900) #[0]).mulOk (Zo hsok) #[1],?_⟩
   rw [<-zjb];exact hW _ ⟨_,_,rfl⟩
 rintro ρ ⟨t,u,rfl⟩
 walk_at "rd hd0 atI1 YaR"
 refine⟨sz (by have:=hm.2;unfold many at this;omega),?_⟩
 refine jg PyData.int (fun _=>.int 0) (fun ρ=>∃ t,ρ = [t]) (l.headD (0,[])).2 ?_ _ _ _ _ ⟨none,rfl⟩ ?_
 . rintro w hw ρ fa acc K ⟨t,rfl⟩ k
   walk_at "rd"
   exact k _ ⟨_,rfl⟩
 have hz:(l.headD (0,[])).2.map (fun _=>PyData.int 0)=(zeros l).map .int:=by
  unfold zeros many;rw [Yaz,WaQ]
 rw [List.nil_append,hz];have hz0:Jt (many l) (zeros l,[zeros l]):=⟨by unfold zeros;simp,fun r hr=>by rw [Ya6.mp hr];unfold zeros;simp⟩
 refine jR dS l (fun done ρ=>∃ t1 t2 t3 t4 t5 t6 r,ρ = [some (.sh false (.list (l.map dS))),#[5,zE l],t1,t2,some (.ow true ((runQ (zE l) done (zeros l,[zeros l])).2.map dI)),t3,t4,t5,t6]/\Jt (many l) (runQ (zE l) done (zeros l,[zeros l]))/\(runQ (zE l) done (zeros l,[zeros l])).2=r++[(runQ (zE l) done (zeros l,[zeros l])).1]/\((runQ (zE l) done (zeros l,[zeros l])).2.length:Int)=1+tot done) ?_ ?_ ⟨_,_,none,none,none,none,[],rfl,hz0,rfl,rfl⟩
 . rintro done s rest ρ hd ⟨t1,t2,t3,t4,t5,t6,r,rfl,hlp,hlast,hlen⟩ W hW
   have hs:s∈l:=by rw [hd];simp
   obtain⟨hs1,hsok,hsn⟩:=hok.2.1 s hs;have hsl:s.2.length=many l:=hsn;have h1t:∀ s∈l,1<=s.1:=fun s hs=>(hok.2.1 s hs).1
   have hdt:tot done+s.1<=60:=by
    have h60:=hok.2.2;have e:tot l=tot done+(s.1+tot rest):=by unfold tot;rw [hd,Ya2,List.sum_append,Ya1,List.sum_cons]
    have:0<=tot rest:=JY fun s hs=>h1t s (by rw [hd];exact Yaa _ (YaT _ hs))
    omega
   have hdv:s.2.sum∣zE l:=zgl hs;have hsp:=Jj hsok;generalize hp:runQ (zE l) done (zeros l,[zeros l])=p at hlp hlast hlen;have er:runQ (zE l) (done++[s]) (zeros l,[zeros l])=rep (zS (shares (zE l) s.2)) s.1.toNat p:=by
    unfold runQ at hp ⊢;rw [Waz,hp];rfl
   have et:tot (done++[s])=tot done+s.1:=by unfold tot;rw [Ya2,List.sum_append];simp
   rw [er,et] at hW;have hsx:∀ i (hi:i<s.2.length),s.2[i]*(zE l/s.2.sum)=(shares (zE l) s.2).getD i 0:=fun i hi=>by
    unfold shares;rw [YaP,Ya0,YaQ hi];show _=s.2[i]*zE l/s.2.sum;rw [Int.mul_ediv_assoc _ hdv]
   have hshl:(shares (zE l) s.2).length=many l:=by rw [zfM];exact hsl
   generalize shares (zE l) s.2=sh at hW hsx hshl er
   walk_at "rd"
   refine⟨#[0],#[0],?_⟩
   refine jx (fun j ρ=>∃ t3 t4 t5 t6 r,ρ = [some (.sh false (.list (l.map dS))),#[5,zE l],#[5,s.1],some (.sh false (.list (s.2.map .int))),some (.ow true ((rep (zS sh) j p).2.map dI)),t3,t4,t5,t6]/\Jt (many l) (rep (zS sh) j p)/\(rep (zS sh) j p).2=r++[(rep (zS sh) j p).1]/\((rep (zS sh) j p).2.length:Int)=1+tot done+j) ?_ ?_ ⟨_,_,_,_,r,rfl,hlp,hlast,by show(p.2.length:Int)=_;omega⟩
   . rintro j ρ hj ⟨y3,y4,y5,y6,r,rfl,hlp',hlast',hlen'⟩ W' hW'
     rw [zeE] at hW';generalize rep (zS sh) j p=pj at hlp' hlast' hlen' hW';have hadl:(addL pj.1 sh).length=many l:=by rw [zep (by rw [hlp'.1,hshl]),hlp'.1]
     have hla:atI (pj.2.map dI) (-1)=some (PyData.list (pj.1.map PyData.int)):=by
      rw [hlast',Ya2,Ya1,Wa4,zff];rfl
     walk_at "rd"
     rw [YaR,hsl];refine⟨#[0],#[0],?_⟩
     rw [Int.toNat_natCast];refine jx (fun i ρ=>∃ t5 t6,ρ = [some (.sh false (.list (l.map dS))),#[5,zE l],#[5,s.1],some (.sh false (.list (s.2.map .int))),some (.ow true (pj.2.map dI)),#[5,0+j],some (.ow true (((addL pj.1 sh).take i).map .int)),t5,t6]) ?_ ?_ ⟨_,_,rfl⟩
     . rintro i ρ hi ⟨v5,v6,rfl⟩ W2 hW2
       have hi1:i<s.2.length:=by rw [hsl];exact hi
       have hi2:i<pj.1.length:=by rw [hlp'.1];exact hi
       have hi3:i<sh.length:=by rw [hshl];exact hi
       have hw:atI (s.2.map PyData.int) (0+(i:Int))=some (PyData.int s.2[i]):=zcV hi1;have hq:atI (pj.1.map PyData.int) (0+(i:Int))=some (PyData.int pj.1[i]):=zcV hi2;have htk:(addL pj.1 sh).take (i+1)=(addL pj.1 sh).take i++[pj.1[i]+sh.getD i 0]:=by
        rw [List.take_succ_eq_append_getElem (by rw [hadl];exact hi)]
        congr 2
        unfold addL
        simp [hi3]
       rw [htk,Ya2] at hW2;have hbs:Bits 900 (zE l/s.2.sum):=hBb.le (Yay _ _)
       walk_at "rd hw hla hq"
       refine⟨s.2,Jm _,⟨hsp,(Zo hsok).mono #[1]⟩,(zes hsok (Ya4 hi1)).mulOk hbs #[1],YaU (show _<1000000 by rw [YaR,WaI];omega) #[1],?_⟩
       rw [hsx i hi1];exact hW2 _ ⟨_,_,rfl⟩
     . rintro ρ ⟨v5,v6,rfl⟩
       walk_at "rd"
       refine⟨YaU (show _<1000000 by rw [YaR];omega) #[1],?_⟩
       rw [Wak (by rw [hadl];exact YaY _)]
       have hl2:Jt (many l) (zS sh pj):=⟨hadl,fun r hr=>by
        rcases Ya3.mp hr with z|z
        . exact hlp'.2 r z
        . rw [Ya6.mp z];exact hadl⟩
       exact hW' _ ⟨_,_,_,_,pj.2,by show _=[_,_,_,_,some (Cl.ow true ((pj.2++[addL pj.1 sh]).map dI)),_,_,_,_];rw [Ya2];rfl,hl2,rfl,by show((pj.2++[_]).length:Int)=_;rw [YaS];simp;omega⟩
   . rintro ρ ⟨y3,y4,y5,y6,r,rfl,hlp',hlast',hlen'⟩
     exact hW _ ⟨_,_,_,_,_,_,r,rfl,hlp',hlast',#[0]⟩
 . rintro ρ ⟨t1,t2,t3,t4,t5,t6,r,rfl,hlp,hlast,hlen⟩
   walk_at "rd"
   exact q
theorem zgo(T:Txt c K mg):#[8,dd_law_row]:=by
 have zmr:#[8,dd_law_wide]:=zbW T;obtain⟨f,fd,F,hm⟩:=T.d_law_row;have S:FnScope ["_law_bottom", "_law_rows", "_law_cell", "_law_way", "_law_clans", "_law_had", "_law_row_here", "_law_t", "_law_behind", "_law_clan"] ["_law_bottom", "_law_rows", "_law_cell"] (zg zbq):=#[10]
 walk_at "d"
 . walk_at "m"
 . walk_at "l"
 refine⟨_,(zc (#[9,zj,2] (df3 hE zmr #[7] rfl zq (za (n3 2) (za i3 zb))))
  (zc (#[9,zj,3] (op3 zp (n3 2) i3))
  (zc (#[9,zj,2] (op3 zt (n3 2) i3))
  (zc (#[9,zj,4] (zu zI rfl T.n_len zD (za (at3 (n3 1) i3 #[4]) zb)))
  (zc (#[9,jB,5] (jo ["_law_k"] [] [] rfl (zT (osc:=zg zbq) #[3]) rfl (jj rfl T.n_range (za (n3 4) zb)) (fun H0 s H fp cl=>⟨(zk (i:=0) (show((["_law_k"]:List PySem.Str)++([]:List PySem.Str)).Nodup by decide) rfl #[2]),jh,i3⟩)))
  (zc (#[9,jB,6] (zy zb))
  (zc (zM WaC rfl (zbM rfl T.n_range (za i3 (za (zu zI rfl T.n_len zD (za (n3 1) zb)) zb))) #[9,zk,7] (zc (#[9,zbo,8] ["_law_k"] ["_law_rows", "_law_t", "_law_had"] [1,7,5] rfl (zT (osc:=zg zbq) #[3]) rfl (jj rfl T.n_range (za (n3 4) zb)) (fun H0 s H fp cl=>⟨(zk (i:=0) (show((["_law_k"]:List PySem.Str)++(["_law_rows", "_law_t", "_law_had"]:List PySem.Str)).Nodup by decide) rfl #[2]),jh,(op3 jC (at3 (at3 (n3 1) (n3 2) #[4]) (n3 0) #[4]) (at3 (n3 3) (n3 0) #[4]))⟩))
   (zc (#[9,zj,9] (zhH (n3 8) (zu (zjC rfl) rfl T.n_max zcy (za (n3 8) zb))))
   (zc (s_if (zr (zO hr.units) (n3 3) i3 (nomark _)) (zc (#[9,zj,9] (op3 zp (n3 2) (n3 4)))
    (ze (#[9,zj,2] (op3 zt (n3 2) (n3 4))))) zo)
   (zc (s_if (zr (zO hr.units) (n3 3) i3 (nomark _)) (zc (s_if (zr (zO hr.units) (op3 zp (n3 2) i3) i3 (nomark _)) (ze (#[9,zj,9] (op3 zp (op3 zC (n3 9) i3) (n3 4)))) zo)
    (ze (#[9,zj,2] (op3 zt (n3 2) i3)))) zo)
   (zc (Zy (i:=5) rfl #[2] (n3 9) (op3 zC (at3 (n3 5) (n3 9) #[4]) (n3 0)))
   (ze (jZ (i:=6) rfl #[2] (n3 9)))))))))
  (ze (jP [6] (zn (n3 6))))))))))),fun ds Q h=>?_⟩
 obtain⟨b,rows,cc,n,rfl,h1,h8,hr1,hr61,hrn,q⟩:=h;have hmax:∀ i (hi:i<rows.length),rows[i].length=n:=fun i hi=>hrn _ (Ya4 hi)
 have hd0:atI (rows.map dI) 0=some (PyData.list (rows[0].map PyData.int)):=JQ (i:=0) #[0]
 have h0n:=hmax 0 #[0]
 walk_at "rd hd0 YaR h0n"
 refine⟨#[1],#[1],fun v=>⟨#[1],divP,#[0],#[0],sz (by unfold nums;simp;omega),?_⟩⟩
 rw [Int.toNat_natCast];unfold nums;refine jg (fun i:Nat=>PyData.int (0+(i:Nat))) (fun _=>PyData.int 0) (fun ρ=>∃ t,ρ = [t]) (List.range n) ?_ _ _ _ _ ⟨none,rfl⟩ ?_
 . rintro i hi ρ fa acc K ⟨t,rfl⟩ k
   walk_at "rd"
   exact k _ ⟨_,rfl⟩
 have hz:[]++(List.range n).map (fun _=>PyData.int 0)=(List.replicate n (0:Int)).map PyData.int:=by
  rw [List.nil_append,WaQ,YaG,Yaz]
 rw [hz];refine⟨#[1],#[1],#[0],#[0],?_⟩
 have e1:((rows.length:Int) - 1).toNat=rows.length - 1:=#[0]
 rw [e1];refine jx (lo:=1) (fun k ρ=>∃ (had row:List Int) (c':Int) (t u w:Option L3.Cl),ρ = [#[5,b],some (.sh false (.list (rows.map dI))),#[5,c'],#[5,v%3],#[5,n],some (.ow true (had.map PyData.int)),some (.ow true (row.map PyData.int)),t,u,w]/\had.length=n/\row.length=k/\∀ c∈row,0<=c/\c<(n:Int)) ?_ ?_ ⟨_,[],_,none,none,none,rfl,by simp,rfl,fun c h=>by cases h⟩
 . rintro k ρ hk ⟨had,row,c',t,u,w,rfl,hhad,hrow,hall⟩ W hW
   have hk1:k+1<rows.length:=#[0]
   have hrk:atI (rows.map dI) (1+(k:Int))=some (PyData.list (rows[k+1].map PyData.int)):=by
    rw [show(1+(k:Int))=((k+1:Nat):Int) by omega];exact JQ hk1
   have hrl:=hmax (k+1) hk1;have dn:∀ z:Int,jX z (n:Int):=fun z=>⟨#[0],Bits.lit (x:=(n:Int)) 9000 #[0]⟩
   walk_at "g"
   refine z7 (fun ρ'=>∃ bh:List Int,ρ'=[#[5,b],some (.sh false (.list (rows.map dI))),#[5,c'],#[5,v%3],#[5,n],some (.ow true (had.map PyData.int)),some (.ow true (row.map PyData.int)),#[5,1+k],some (.sh true (.list (bh.map .int))),w]/\bh.length=n) (fun N hN=>?_) ?_
   . walk_at "rd"
     refine⟨#[0],#[0],sz (by unfold nums;simp;omega),?_⟩
     rw [Int.toNat_natCast];unfold nums;refine jg (fun i:Nat=>PyData.int (0+(i:Nat))) (fun i=>PyData.int (rows[k+1].getD i 0 - had.getD i 0)) (fun ρ=>∃ t,ρ = [t,some (.sh false (.list (rows.map dI))),#[5,1+k],some (.ow true (had.map .int))]) (List.range n) ?_ _ _ _ _ ⟨none,rfl⟩ ?_
     . rintro i hi ρ fa acc K ⟨t,rfl⟩ kk
       have hi':=Yba.mp hi;have ha:=Js (xs:=rows[k+1]) (i:=0+(i:Int)) #[0] #[0]
       have hb:=Js (xs:=had) (i:=0+(i:Int)) #[0] #[0]
       rw [show(0+(i:Int)).toNat=i by omega] at ha hb
       walk_at "rd hrk ha hb"
       exact kk _ ⟨_,rfl⟩
     . refine hN _ ⟨(List.range n).map fun i=>rows[k+1].getD i 0 - had.getD i 0,?_,by simp⟩
       rw [List.nil_append,YaD];rfl
   rintro ρ ⟨bh,rfl,hbh⟩
   have hbne:bh≠[]:=fun z=>by rw [z] at hbh;simp at hbh;omega
   refine z7 (fun ρ'=>∃ cl:Int,ρ'=[#[5,b],some (.sh false (.list (rows.map dI))),#[5,c'],#[5,v%3],#[5,n],some (.ow true (had.map PyData.int)),some (.ow true (row.map PyData.int)),#[5,1+k],some (.sh true (.list (bh.map .int))),#[5,cl]]/\0<=cl/\cl<n) (fun N hN=>?_) ?_
   . walk_at "rd"
     refine⟨bh,Jm _,bh,Jm _,hbne,ze8 hbne,hN _ ⟨_,rfl,#[0],?_⟩⟩
     have:=Waf.mpr (ze8 hbne)
     omega
   rintro ρ ⟨cl,rfl,hcl⟩
   refine z7 (fun ρ'=>∃ c2 cl:Int,ρ'=[#[5,b],some (.sh false (.list (rows.map dI))),#[5,c2],#[5,v%3],#[5,n],some (.ow true (had.map PyData.int)),some (.ow true (row.map PyData.int)),#[5,1+k],some (.sh true (.list (bh.map .int))),#[5,cl]]/\0<=cl/\cl<n) (fun N hN=>?_) ?_
   . walk_at "rd"
     refine ite2 (fun _=>⟨#[0],dn _,hN _ ⟨_,_,rfl,Ybc _ #[0],Ybd _ #[0]⟩⟩) fun _=>hN _ ⟨_,_,rfl,hcl⟩
   clear hcl
   rintro ρ ⟨c2,cl,rfl,hcl⟩
   refine z7 (fun ρ'=>∃ c2 cl:Int,ρ'=[#[5,b],some (.sh false (.list (rows.map dI))),#[5,c2],#[5,v%3],#[5,n],some (.ow true (had.map PyData.int)),some (.ow true (row.map PyData.int)),#[5,1+k],some (.sh true (.list (bh.map .int))),#[5,cl]]/\0<=cl/\cl<n) (fun N hN=>?_) ?_
   . walk_at "rd"
     refine ite2 (fun _=>⟨#[1],ite2 (fun _=>⟨#[0],divP,hN _ ⟨_,_,rfl,Ybc _ #[0],Ybd _ #[0]⟩⟩) fun _=>⟨divP,hN _ ⟨_,_,rfl,hcl⟩⟩⟩) fun _=>hN _ ⟨_,_,rfl,hcl⟩
   clear hcl
   rintro ρ ⟨c2,cl,rfl,hcl⟩
   have hg:=Js (xs:=had) (i:=cl) hcl.1 #[0]
   have hix:ixN (had.map PyData.int).length cl=some cl.toNat:=by rw [YaR];exact Jv hcl.1 #[0]
   walk_at "rd hg hix"
   refine⟨YaU (show _<1000000 by rw [YaR];omega) #[1],hW _ ⟨had.set cl.toNat (had.getD cl.toNat 0+b),row++[cl],_,_,_,_,by rw [Wa8,Ya2];rfl,by rw [YaN];exact hhad,by simp [hrow],fun x hx=>?_⟩⟩
   rcases Ya3.mp hx with z|z
   . exact hall x z
   . rw [Ya6.mp z];exact hcl
 . rintro ρ ⟨had,row,c',t,u,w,rfl,hhad,hrow,hall⟩
   walk_at "rd"
   exact q row #[0] hall
theorem ziB(T:Txt c K mg):#[8,dd_law_ratio]:=by
 obtain⟨f,fd,F,hm⟩:=T.d_law_ratio;have S:FnScope ["_law_top", "_law_bottom", "_law_one", "_law_other"] ["_law_top", "_law_bottom"] (zg zf3):=#[10]
 walk_at "d"
 . walk_at "m"
 . walk_at "l"
 refine⟨_,(zc (#[9,zj,2] (zu zcB rfl T.n_abs zdj (za (n3 0) zb)))
  (zc (#[9,zj,3] (n3 1))
  (zc (zaS WaC (zr Z9 (n3 3) i3 (nomark _)) (ze (zjZ (i:=2) (j:=3) rfl S.nd rfl rfl #[1] rfl rfl (za (n3 3) (za (op3 zp (n3 2) (n3 3)) zb)))))
  (ze (zn (zx (za (op3 zt (n3 0) (n3 2)) (za (op3 zt (n3 1) (n3 2)) zb)))))))),fun ds Q h=>?_⟩
 obtain⟨a,b,rfl,hb,hB,q⟩:=h
 walk_at "rd"
 refine⟨_,Zi (fun n ρ=>∃ g l,ρ = [#[5,a],#[5,b],#[5,g],#[5,l]]/\0<=g/\0<=l/\Int.gcd g l=Int.gcd a b/\n=l.toNat) ?_ _ _ ⟨_,_,rfl,by split<;>omega,#[0],?_,rfl⟩⟩
 . rintro n ρ ⟨g,l,rfl,hg,hl,hG,rfl⟩ W hW
   walk_at "rd"
   by_cases h0:0<l
   . rw [if_pos h0]
     have h1:=Ybc g (show l≠0 by omega)
     have h2:=Ybd g h0;exact⟨h0,hW (g%l).toNat _ #[0] ⟨l,g%l,rfl,hl,h1,(zex hg h0).trans hG,rfl⟩⟩
   . rw [if_neg h0]
     have hz:l=0:=#[0]
     subst hz;have e:g=(Int.gcd a b:Int):=by rw [<-hG,zew hg]
     subst e;exact⟨zej hb hB,zej hb hB,q⟩
 . have:=zfH a b
   rw [if_neg (show ¬b<0 by omega)] at this
   exact this
theorem zh2(T:Txt c K mg):#[8,dd_law_limits]:=by
 have zmr:#[8,dd_law_wide]:=zbW T;have zmn:#[8,dd_law_ratio]:=ziB T;obtain⟨f,fd,F,hm⟩:=T.d_law_limits;have S:FnScope ["_law_bottom", "_law_rows", "_law_row_here", "_law_cell", "_law_own", "_law_clans", "_law_had", "_law_most", "_law_t", "_law_k", "_law_bounds", "_law_pair", "_law_side", "_law_under"] ["_law_bottom", "_law_rows", "_law_row_here", "_law_cell", "_law_own"] (zg zby):=#[10]
 walk_at "d"
 . walk_at "m"
 . walk_at "l"
 refine⟨_,(zc (#[9,zj,5] (zu zI rfl T.n_len zD (za (at3 (n3 1) i3 #[4]) zb)))
  (zc (#[9,zin,6] ["_law_k"] [] [] rfl (zT (osc:=zg zby) #[3]) rfl (jj rfl T.n_range (za (n3 5) zb)) (fun H0 s H fp cl=>⟨(zk (i:=0) (show((["_law_k"]:List PySem.Str)++([]:List PySem.Str)).Nodup by decide) rfl #[2]),jh,i3⟩))
  (zc (#[9,ze5,7] ["_law_k"] [] [] rfl (zT (osc:=zg zby) #[3]) rfl (jj rfl T.n_range (za (n3 5) zb)) (fun s H fp cl=>⟨jp (i:=0) (show((["_law_k"]:List PySem.Str)++([]:List PySem.Str)).Nodup by decide) rfl #[2] (by first|exact .inl rfl|exact .inr rfl),zbX (zl jO (zl jO zF))⟩) (fun σ H Q h=>⟨show 2<=sizeLine by decide,h⟩) (fun G=>(RdVs.cons (RdV.int 0) (RdVs.cons (RdV.int 0) RdVs.nil))) rfl)
  (zc (zM WaC rfl (zbM rfl T.n_range (za i3 (za (zu zI rfl T.n_len zD (za (n3 1) zb)) zb))) #[9,zk,8] (zc (Zy (i:=6) rfl #[2] (at3 (n3 2) (op3 jC (n3 8) i3) #[4]) (op3 zC (at3 (n3 6) (at3 (n3 2) (op3 jC (n3 8) i3) #[4]) #[4]) (n3 0)))
   (ze (zM WaC rfl (jj rfl T.n_range (za (n3 5) zb)) #[9,zk,9] (zc (zdJ (i:=7) rfl #[2] (n3 9) i3 (zu (zdV rfl) rfl T.n_max zcy (za (at2 (i:=7) rfl #[2] (n3 9) i3 #[4] #[4]) (za (op3 jC (at3 (at3 (n3 1) (n3 8) #[4]) (n3 9) #[4]) (at3 (n3 6) (n3 9) #[4])) zb))) #[4])
    (ze (zdJ (i:=7) rfl #[2] (n3 9) i3 (zu (zdV rfl) rfl T.n_max zcy (za (at2 (i:=7) rfl #[2] (n3 9) i3 #[4] #[4]) (za (op3 jC (at3 (n3 6) (n3 9) #[4]) (at3 (at3 (n3 1) (n3 8) #[4]) (n3 9) #[4])) zb))) #[4])))))))
  (zc (#[9,jB,10] (zy zb))
  (zc (#[9,zj,3] (df3 hE zmr #[7] rfl zq (za (n3 3) (za i3 zb))))
  (zc (zM WaC rfl (jj rfl T.n_range (za (n3 5) zb)) #[9,zk,9] (zc (#[9,jB,11] (zy (za (zx (za i3 (za i3 zb))) (za (zx (za i3 (za i3 zb))) zb))))
   (zc (zM WaC rfl (jj rfl T.n_range (za i3 zb)) #[9,zk,12] (zc (#[9,zj,13] (op3 zC i3 (op3 zp (op3 zt (n3 3) i3) i3)))
    (zc (s_if (pw3 (ZL (zr (zO hr.units) (op3 zp (n3 3) i3) i3 (nomark _)) (Z2 (val3 (n3 4))))) (ze (Zy (i:=11) rfl #[2] (n3 12) (df3 hE zmn #[7] rfl zq (za (zu (zhE rfl) rfl T.n_min zh8 (za (at2 (i:=7) rfl #[2] (n3 9) (n3 12) #[4] #[4]) (za (op3 jn i3 (n3 0)) zb))) (za (n3 0) zb))))) zo)
    (zc (s_if (pw3 (zdO (zr (zO hr.units) (op3 zp (n3 3) i3) i3 (nomark _)) (zfv (JF (val3 (n3 4)))))) (ze (Zy (i:=11) rfl #[2] (n3 12) (df3 hE zmn #[7] rfl zq (za (op3 zp (op3 zt (n3 3) i3) (op3 jn i3 (n3 13))) (za (n3 13) zb))))) zo)
    (ze (#[9,zj,3] (op3 zt (op3 zt (n3 3) i3) (op3 jn i3 (n3 13)))))))))
   (ze (jZ (i:=10) rfl #[2] (zx (za (at3 (n3 11) i3 #[4]) (za (at3 (n3 11) i3 #[4]) zb))))))))
  (ze (jP [10] (zn (n3 10))))))))))),fun ds Q h=>?_⟩
 obtain⟨b,rows,row,cc,own,n,rfl,hb0,hbb,h1,h8,hr61,hrl,hrn,hc,q⟩:=h;have hmax:∀ i (hi:i<rows.length),rows[i].length=n:=fun i hi=>hrn _ (Ya4 hi)
 have hd0:atI (rows.map dI) 0=some (PyData.list (rows[0].map PyData.int)):=JQ (i:=0) #[0]
 have h0n:=hmax 0 #[0]
 walk_at "s"
 walk_at "rd hd0 YaR h0n"
 walk_at "v"
 refine⟨#[0],#[0],sz (by unfold nums;simp;omega),?_⟩
 rw [Int.toNat_natCast];unfold nums;refine jg (fun i:Nat=>PyData.int (0+(i:Nat))) (fun _=>PyData.int 0) (fun ρ=>∃ t,ρ = [t]) (List.range n) ?_ _ _ _ _ ⟨none,rfl⟩ ?_
 . rintro i hi ρ fa acc K ⟨t,rfl⟩ k
   walk_at "rd"
   exact k _ ⟨_,rfl⟩
 have hz:[]++(List.range n).map (fun _=>PyData.int 0)=(List.replicate n (0:Int)).map PyData.int:=by
  rw [List.nil_append,Yaz,WaQ,YaG]
 rw [hz];walk_at "v"
 refine⟨#[0],#[0],by rw [zc2];omega,fun ps hps=>hN _ ?_⟩
 clear hN N;rw [zc2,Int.toNat_natCast];have hm0:List.replicate n [PyData.int 0,PyData.int 0]=(List.range n).map fun _=>pr2 (0,0):=by
  rw [WaQ,YaG];rfl
 rw [hm0];have e1:((rows.length:Int) - 1).toNat=row.length:=#[0]
 refine z7 (fun ρ=>∃ (g:Nat->Int×Int) (hd:List Int) (t8 t9:Option L3.Cl),ρ = lE b rows row cc own n hd ps g [t8,t9,none,none,none,none]/\hd.length=n/\∀ k,0<=(g k).1/\0<=(g k).2) (fun N hN=>?_) ?_
 . walk_at "rd"
   rw [YaR,e1];refine⟨#[1],#[1],#[0],#[0],?_⟩
   refine jx (lo:=1) (fun t ρ=>∃ (g:Nat->Int×Int) (hd:List Int) (t8 t9:Option L3.Cl),ρ = lE b rows row cc own n hd ps g [t8,t9,none,none,none,none]/\hd.length=n/\∀ k,0<=(g k).1/\0<=(g k).2) ?_ (fun ρ h=>hN ρ h) ⟨fun _=>(0,0),List.replicate n 0,none,none,rfl,Ybb ..,fun _=>⟨Wba _,Wba _⟩⟩
   rintro t ρ ht ⟨g,hd,t8,t9,rfl,hhl,hg⟩ W hW
   have hk1:t+1<rows.length:=#[0]
   have hck:=hc row[t] (Ya4 ht);have hrk:atI (row.map PyData.int) (1+(t:Int) - 1)=some (PyData.int row[t]):=by
    rw [show 1+(t:Int) - 1=0+(t:Int) by omega];exact zcV ht
   have hrr:atI (rows.map dI) (1+(t:Int))=some (PyData.list (rows[t+1].map PyData.int)):=by
    rw [show(1+(t:Int))=((t+1:Nat):Int) by omega];exact JQ hk1
   have hrl:=hmax (t+1) hk1;have hga:=Js (xs:=hd) (i:=row[t]) hck.1 #[0]
   have hix:ixN (hd.map PyData.int).length row[t]=some row[t].toNat:=by rw [YaR];exact Jv hck.1 #[0]
   obtain⟨hd',hset,hl'⟩:∃ hd':List Int,(hd.map PyData.int).set row[t].toNat (PyData.int (hd.getD row[t].toNat 0+b))=hd'.map PyData.int/\hd'.length=n:=⟨hd.set row[t].toNat (hd.getD row[t].toNat 0+b),by rw [Wa8],by rw [YaN,hhl]⟩
   walk_at "g"
   walk_at "s"
   walk_at "rd hrk hga hix hset"
   walk_at "n"
   walk_at "rd"
   refine⟨#[0],#[0],?_⟩
   rw [Int.toNat_natCast];refine jx (fun i ρ=>∃ (g:Nat->Int×Int) (t9:Option L3.Cl),ρ = lE b rows row cc own n hd' ps g [#[5,1+t],t9,none,none,none,none]/\∀ k,0<=(g k).1/\0<=(g k).2) ?_ ?_ ⟨g,_,rfl,hg⟩
   . rintro i ρ hi ⟨g,t9,rfl,hg⟩ W' hW'
     have ha:=Js (xs:=rows[t+1]) (i:=0+(i:Int)) #[0] #[0]
     have hb:=Js (xs:=hd') (i:=0+(i:Int)) #[0] #[0]
     rw [show(0+(i:Int)).toNat=i by omega] at ha hb
     generalize hd'.getD i 0=hv at hb;generalize rows[t+1].getD i 0=rv at ha;have hixn:∀ {α : Type} (f:Nat->α),ixN ((List.range n).map f).length (0+(i:Int))=some i:=fun f=>by
      rw [YaR,YaG,Jv #[0] #[0]];congr 1;omega
     have hat:∀ {α : Type} (f:Nat->α),atI ((List.range n).map f) (0+(i:Int))=some (f i):=fun f=>by
      rw [zdD f (xs:=List.range n) (by rw [YaG];exact hi),List.getElem_range]
     have p0:∀ p:Int×Int,atI (pr2 p) 0=some (PyData.int p.1):=fun _=>rfl
     have p1:∀ p:Int×Int,atI (pr2 p) 1=some (PyData.int p.2):=fun _=>rfl
     have x0:∀ p:Int×Int,ixN (pr2 p).length 0=some 0:=fun _=>rfl
     have x1:∀ p:Int×Int,ixN (pr2 p).length 1=some 1:=fun _=>rfl
     have s0:∀ (p:Int×Int) (y:Int),(pr2 p).set 0 (PyData.int y)=pr2 (y,p.2):=fun _ _=>rfl
     have s1:∀ (p:Int×Int) (y:Int),(pr2 p).set 1 (PyData.int y)=pr2 (p.1,y):=fun _ _=>rfl
     have hms:∀ (g:Nat->Int×Int) (p:Int×Int),((List.range n).map fun k=>pr2 (g k)).set i (pr2 p)=(List.range n).map fun k=>pr2 (if k=i then p else g k):=fun g p=>by
      rw [zls]
      congr 1
      funext k
      split<;>rfl
     walk_at "g"
     refine z7 (fun ρ'=>∃ g2:Nat->Int×Int,ρ'=lE b rows row cc own n hd' ps g2 [#[5,1+t],#[5,0+i],none,none,none,none]/\∀ k,0<=(g2 k).1/\0<=(g2 k).2) (fun N hN=>?_) ?_
     . walk_at "rd hrr ha hb hixn hat p0 p1 x0 x1 s0 s1 hms"
       refine hN _ ⟨_,rfl,fun k=>?_⟩
       have:=hg i
       split
       . exact⟨by dsimp only;split<;>omega,this.2⟩
       . exact hg k
     rintro ρ ⟨g2,rfl,hg2⟩
     walk_at "rd hrr ha hb hixn hat p0 p1 x0 x1 s0 s1 hms"
     refine hW' _ ⟨_,_,rfl,fun k=>?_⟩
     have:=hg2 i
     split
     . exact⟨this.1,by dsimp only;split<;>omega⟩
     . exact hg2 k
   . rintro ρ ⟨g,t9,rfl,hg⟩
     exact hW _ ⟨g,hd',_,_,rfl,hl',hg⟩
 rintro ρ ⟨g,hd,t8,t9,rfl,hhl,hg⟩
 walk_at "q"
 walk_at "v"
 refine⟨#[1],#[1],fun v=>hN _ ?_⟩
 clear hN N
 walk_at "rd"
 refine⟨#[0],#[0],?_⟩
 rw [Int.toNat_natCast];refine jx (fun k ρ=>∃ (bs:List (Rat2×Rat2)) (c':Int) (t9 t11 t12 t13:Option L3.Cl),ρ = lE b rows row c' own n hd ps g [t8,t9,some (.ow true (bs.map dP)),t11,t12,t13]/\bs.length=k/\∀ p∈bs,(okQ p.1/\okQ p.2)/\inQ p.1/\inQ p.2) ?_ ?_ ⟨[],_,_,none,none,none,rfl,rfl,fun p h=>by cases h⟩
 . rintro k ρ hk ⟨bs,c',t9,t11,t12,t13,rfl,hbl,hall⟩ W hW
   walk_at "g"
   walk_at "q"
   walk_at "n";have qi:∀ x y:Int,0<y->0<=x->x<=10*y->Bits 1000 y->okQ (lowQ x y)/\inQ (lowQ x y):=fun x y h h0 h1 hb=>⟨zhL h ((((Bits.lit (x:=10) 64).mul hb).le #[0]).mono #[1]) (hb.mono #[1]),zgV h h0 h1⟩
   refine z7 (fun ρ'=>∃ (r0 r1:Rat2) (c':Int) (t12 t13:Option L3.Cl),ρ'=lE b rows row c' own n hd ps g [t8,#[5,0+k],some (.ow true (bs.map dP)),some (.ow true [dQ r0,dQ r1]),t12,t13]/\(okQ r0/\inQ r0)/\okQ r1/\inQ r1) (fun N hN=>?_) ?_
   . walk_at "rd"
     refine⟨#[1],#[1],?_⟩
     rw [show(2:Int).toNat=2 from rfl]
     refine jx (fun i ρ=>∃ (r0 r1:Rat2) (c':Int) (t12 t13:Option L3.Cl),ρ = lE b rows row c' own n hd ps g [t8,#[5,0+k],some (.ow true (bs.map dP)),some (.ow true [dQ r0,dQ r1]),t12,t13]/\(okQ r0/\inQ r0)/\okQ r1/\inQ r1) ?_ (fun ρ h=>hN ρ h) ⟨(1,1),(1,1),_,_,_,rfl,⟨⟨#[1],Bits.lit (x:=1) 1200,Bits.lit (x:=1) 1200⟩,#[1],#[1]⟩,⟨#[1],Bits.lit (x:=1) 1200,Bits.lit (x:=1) 1200⟩,#[1],#[1]⟩
     rintro i ρ hi ⟨r0,r1,c',t12,t13,rfl,hr0,hr1⟩ W' hW'
     have hat:∀ {α : Type} (f:Nat->α),atI ((List.range n).map f) (0+(k:Int))=some (f k):=fun f=>by
      rw [zdD f (xs:=List.range n) (by rw [YaG];exact hk),List.getElem_range]
     obtain⟨m,hm0,hm⟩:∃ m:Int,0<=m/\atI (pr2 (g k)) (0+(i:Int))=some (PyData.int m):=by
      rcases(show i=0\/i=1 by omega) with rfl|rfl
      . exact⟨_,(hg k).1,rfl⟩
      . exact⟨_,(hg k).2,rfl⟩
     have put:∀ r,okQ r/\inQ r->∀ r0 r1,(okQ r0/\inQ r0)/\okQ r1/\inQ r1->∃ j,ixN ([dQ r0,dQ r1]:List D).length (0+(i:Int))=some j/\∃ s0 s1,([dQ r0,dQ r1]:List D).set j (dQ r)=[dQ s0,dQ s1]/\(okQ s0/\inQ s0)/\okQ s1/\inQ s1:=fun r hr r0 r1 ⟨h0,h1⟩=>by
      rcases(show i=0\/i=1 by omega) with rfl|rfl
      . exact⟨0,rfl,r,r1,rfl,hr,h1⟩
      . exact⟨1,rfl,r0,r,rfl,h0,hr⟩
     walk_at "g"
     have hu:1<=1+c'/3%6/\1+c'/3%6<=6:=#[0]
     walk_at "q"
     refine⟨divP,#[1],hN _ ?_⟩
     clear hN N;generalize 1+c'/3%6=ud at hu ⊢;have hmu:IntMulOk 2 ud:=(Bits.lit (x:=2) 64).mulOk (Bits.lit (x:=ud) 64 #[0]) #[1]
     have fin:∀ (r0 r1:Rat2),(okQ r0/\inQ r0)/\okQ r1/\inQ r1->W' (lE b rows row ((c'/18/(2*ud))) own n hd ps g [t8,#[5,0+k],some (.ow true (bs.map dP)),some (.ow true [dQ r0,dQ r1]),#[5,0+i],#[5,ud]]):=fun r0 r1 h=>hW' _ ⟨r0,r1,_,_,_,rfl,h⟩
     clear hW';refine z7 (fun ρ'=>∃ (r0 r1:Rat2),ρ'=lE b rows row c' own n hd ps g [t8,#[5,0+k],some (.ow true (bs.map dP)),some (.ow true [dQ r0,dQ r1]),#[5,0+i],#[5,ud]]/\(okQ r0/\inQ r0)/\okQ r1/\inQ r1) (fun N hN=>?_) ?_
     . walk_at "rd hat hm"
       obtain⟨j,hj,s0,s1,hs,h⟩:=put _ (qi (if 10*b<m then 10*b else m) b hb0 (by split<;>omega) (by split<;>omega) (hbb.mono #[1])) r0 r1 ⟨hr0,hr1⟩
       have y:=hN _ ⟨s0,s1,rfl,h⟩;rw [<-hs] at y;exact⟨#[1],ite2 (fun _=>⟨(Bits.lit (x:=10) 64).mulOk hbb #[1],hb0,hbb.mono #[1],j,hj,y⟩) fun _=>ite2 (fun _=>⟨(Bits.lit (x:=10) 64).mulOk hbb #[1],hb0,hbb.mono #[1],j,hj,y⟩) fun _=>hN _ ⟨r0,r1,rfl,hr0,hr1⟩⟩
     clear hr0 hr1 r0 r1
     rintro ρ ⟨r0,r1,rfl,hr0,hr1⟩
     walk_at "rd"
     have e0:=Ybc (c'/18) (show 2*ud≠0 by omega)
     have e1:=Ybd (c'/18) (show 0<2*ud by omega)
     obtain⟨j,hj,s0,s1,hs,h⟩:=put _ (qi (c'/18%(2*ud)) ud #[0] e0 #[0] (Bits.lit (x:=ud) 1000 #[0])) r0 r1 ⟨hr0,hr1⟩
     have y:=fin s0 s1 h;rw [<-hs] at y;have y2:=fin r0 r1 ⟨hr0,hr1⟩;have dd:jX (c'/18) (2*ud):=⟨#[0],Bits.lit (x:=2*ud) 9000 #[0]⟩
     exact⟨#[1],ite2 (fun _=>ite2 (fun _=>⟨divP,hmu,#[0],#[0],Bits.lit (x:=ud) 9000 #[0],j,hj,divP,hmu,dd,y⟩) fun _=>⟨divP,hmu,dd,y2⟩) fun _=>⟨divP,hmu,dd,y2⟩⟩
   rintro ρ ⟨r0,r1,c',t12,t13,rfl,hr0,hr1⟩
   walk_at "rd atI0 atI1 YaR"
   refine⟨YaU (show _<1000 by omega) #[1],hW _ ⟨bs++[(r0,r1)],_,_,_,_,_,by rw [Ya2];rfl,by simp [hbl],fun p hp=>?_⟩⟩
   rcases Ya3.mp hp with z|z
   . exact hall p z
   . rw [Ya6.mp z];exact⟨⟨hr0.1,hr1.1⟩,hr0.2,hr1.2⟩
 . rintro ρ ⟨bs,c',t9,t11,t12,t13,rfl,hbl,hall⟩
   walk_at "rd"
   exact q bs ⟨hbl,fun p hp=>(hall p hp).2⟩ fun p hp=>(hall p hp).1
theorem zhM(T:Txt c K mg):#[8,dd_law_rules]:=by
 have zmr:#[8,dd_law_wide]:=zbW T;obtain⟨f,fd,F,hm⟩:=T.d_law_rules;have S:FnScope ["_law_turns", "_law_clans", "_law_cell", "_law_rules_here", "_law_count", "_law_k", "_law_word"] ["_law_turns", "_law_clans", "_law_cell"] (zg zdY):=#[10]
 walk_at "d"
 . walk_at "m"
 . walk_at "l"
 refine⟨_,(zc (#[9,jB,3] (zy zb))
  (zc (#[9,zj,2] (df3 hE zmr #[7] rfl zq (za (n3 2) (za i3 zb))))
  (zc (#[9,zj,4] (op3 zp (n3 2) i3))
  (zc (#[9,zj,2] (op3 zt (n3 2) i3))
  (zc (zM WaC rfl (jj rfl T.n_range (za (n3 4) zb)) #[9,zk,5] (zc (#[9,zj,6] (at3 (new3 (zy (za s3 (za s3 (za s3 zb))))) (op3 zp (n3 2) i3) #[4]))
   (zc (jZ (i:=3) rfl #[2] (zx (za (n3 6) (za (op3 zC i3 (op3 zp (op3 zt (n3 2) i3) (n3 0))) (za (op3 zp (op3 zt (op3 zt (n3 2) i3) (n3 0)) (n3 1)) zb)))))
   (ze (#[9,zj,2] (op3 zt (op3 zt (op3 zt (n3 2) i3) (n3 0)) (n3 1)))))))
  (ze (jP [3] (zn (n3 3))))))))),fun ds Q h=>?_⟩
 obtain⟨T',n,cc,rfl,hT1,hT2,hn1,hn2,q⟩:=h;walk_at "q"
 walk_at "v"
 refine⟨#[1],#[1],fun v=>hN _ ?_⟩
 walk_at "w"
 refine⟨#[1],hN _ ?_⟩
 clear hN N;have hc8:0<=v%8/\v%8<8:=#[0]
 generalize v%8=cn at hc8 ⊢;walk_at "q"
 refine⟨divP,hN _ ?_⟩
 clear hN N
 walk_at "rd"
 refine⟨#[0],#[0],?_⟩
 refine jx (fun k ρ=>∃ (rs:List Rule) (c':Int) (t5 t6:Option L3.Cl),ρ = [#[5,T'],#[5,n],#[5,c'],some (.ow true (rs.map dRl)),#[5,cn],t5,t6]/\okRs T' n rs/\txtR rs/\rs.length=k) ?_ ?_ ⟨[],_,none,none,rfl,fun r h=>(by cases h),fun r h=>(by cases h),rfl⟩
 . rintro k ρ hk ⟨rs,x,t5,t6,rfl,hok,htx,hl⟩ W hW
   walk_at "g"
   obtain⟨d,hd,hm,_⟩:=Jy (xs:=[PyData.str "barred", PyData.str "fixed", PyData.str "barred"]) (i:=x%3) #[0] (by show x%3<3;omega)
   obtain⟨w,rfl,hw,hs⟩:∃ z:Str,d=PyData.str z/\(z = "fixed"\/z = "barred")/\SeqAt.shaped (.str z)=true:=by
    simp only [WaU,WaM,or_false] at hm
    rcases hm with rfl|rfl|rfl
    . exact⟨_,rfl,.inr rfl,ZX⟩
    . exact⟨_,rfl,.inl rfl,zcO⟩
    . exact⟨_,rfl,.inr rfl,ZX⟩
   walk_at "q"
   refine⟨#[1],_,hd,hN _ ?_⟩
   clear hN N hd hm;have e1:=Ybc (x/3) (show T'≠0 by omega)
   have e2:=Ybd (x/3) (show 0<T' by omega)
   have e3:=Ybc (x/3/T') (show n≠0 by omega)
   have e4:=Ybd (x/3/T') (show 0<n by omega)
   walk_at "rd YaR"
   have dT:jX (x/3) T':=⟨#[0],Bits.lit (x:=T') 9000 #[0]⟩
   have dn:jX (x/3/T') n:=⟨#[0],Bits.lit (x:=n) 9000 #[0]⟩
   refine⟨divP,#[0],divP,dT,#[0],YaU (show _<1000 by omega) #[1],divP,dT,dn,hW _ ⟨rs++[(w,1+x/3%T',x/3/T'%n)],_,_,_,by rw [Ya2];rfl,fun r hr=>?_,fun r hr=>?_,by simp [hl]⟩⟩
   . rcases Ya3.mp hr with z|z
     . exact hok r z
     . rw [Ya6.mp z]
       exact⟨hw,⟨by show 1<=1+x/3%T';omega,by show 1+x/3%T'<=T';omega⟩,e3,e4⟩
   . rcases Ya3.mp hr with z|z
     . exact htx r z
     . rw [Ya6.mp z];exact hs
 rintro ρ ⟨rs,c',t5,t6,rfl,hok,htx,hl⟩
 walk_at "rd"
 exact q rs hok htx #[0]
theorem zhI(T:Txt c K mg):#[8,dd_law_no_row]:=by
 obtain⟨f,fd,F,hm⟩:=T.d_law_no_row;have S:FnScope ["_law_row_here", "_law_clans", "_law_cell", "_law_at", "_law_strange"] ["_law_row_here", "_law_clans", "_law_cell"] (zg zdZ):=#[10]
 walk_at "d"
 . walk_at "m"
 . walk_at "l"
 refine⟨_,(zc (#[9,zj,3] (op3 zp (op3 zt (n3 2) i3) (zu zI rfl T.n_len zD (za (n3 0) zb))))
  (zc (s_if (zr (zO hr.units) (op3 zp (n3 2) i3) i3 (nomark _)) (ze (zn (new3 (cat3 (new3 (zV (n3 0) zX (zW (n3 3)))) (new3 (zV (n3 0) (zW (op3 zC (n3 3) i3)) zX)))))) zo)
  (zc (s_if (zr (zO hr.units) (op3 zp (n3 2) i3) i3 (nomark _)) (ze (zn (new3 (cat3 (new3 (cat3 (new3 (zV (n3 0) zX (zW (n3 3)))) (new3 (zy (za (at3 (n3 0) (n3 3) #[4]) zb))))) (new3 (zV (n3 0) (zW (n3 3)) zX)))))) zo)
  (zc (#[9,zj,4] (at3 (new3 (zy (za (op3 jC (un3 Jh i3) (op3 zp (op3 zt (n3 2) i3) i3)) (za (op3 zC (n3 1) (op3 zp (op3 zt (n3 2) i3) (op3 jF i3 i3))) zb)))) (op3 zp (n3 2) i3) #[4]))
  (ze (zn (new3 (cat3 (new3 (cat3 (new3 (zV (n3 0) zX (zW (n3 3)))) (new3 (zy (za (n3 4) zb))))) (new3 (zV (n3 0) (zW (op3 zC (n3 3) i3)) zX)))))))))),fun ds Q h=>?_⟩
 obtain⟨row,n,t,cc,rfl,hok,h1,h60,q⟩:=h;have hl:=hok.1;have hat0:=Ybc (cc/4) (show(row.length:Int)≠0 by omega)
 have hat1:=Ybd (cc/4) (show 0<(row.length:Int) by omega)
 obtain⟨s,hs1,hs2,hs3⟩:=Jy hat0 hat1;have hs1':atI (List.map PyData.int row) (cc/4%(row.length:Int))=some (PyData.int s):=by rw [j4,hs1];rfl
 have hsz:∀ n:Nat,n<=1000->n<=sizeLine:=fun n h=>Ya5 h #[1]
 have hLM:(List.map PyData.int row).length=row.length:=YaR ..;have hc1:cut (List.map PyData.int row) none (some (cc/4%(row.length:Int)))=(row.take (cc/4%(row.length:Int)).toNat).map PyData.int:=by rw [jY,zbf row hat0 #[0]]
 have hc2:cut (List.map PyData.int row) (some (cc/4%(row.length:Int)+1)) none=(row.drop (cc/4%(row.length:Int)+1).toNat).map PyData.int:=by rw [jY,JV row #[0] #[0]]
 have hc3:cut (List.map PyData.int row) (some (cc/4%(row.length:Int))) none=(row.drop (cc/4%(row.length:Int)).toNat).map PyData.int:=by rw [jY,JV row #[0] #[0]]
 walk_at "s"
 walk_at "rd hLM"
 refine⟨divP,#[0],hN _ ?_⟩
 clear hN N;generalize cc/4%(row.length:Int)=at_ at *;have hm:∀ (a b:List Int) (x:Int),List.map PyData.int a++[PyData.int x]++List.map PyData.int b=(a++[x]++b).map PyData.int:=fun a b x=>by rw [Ya2,Ya2];rfl
 walk_at "s"
 walk_at "rd hc1 hc2 zbj hLM"
 refine⟨#[1],ite2 (fun e=>?_) fun e=>hN _ ?_⟩
 . refine⟨hsz _ #[6],?_⟩
   rw [<-Ya2];exact q _ _ (fun z=>by have:=z.1;simp at this;omega) #[6]
 walk_at "t"
 walk_at "rd hc1 hc3 hs1' zbj hLM"
 refine⟨#[1],ite2 (fun e=>?_) fun e=>hN _ ?_⟩
 . refine⟨hsz _ #[6],hsz _ #[6],?_⟩
   rw [hm];exact q _ _ (fun z=>by have:=z.1;simp at this;omega) #[6]
 clear hN N;refine z7 (fun ρ'=>∃ x:Int,ρ'=[some (.sh false (.list (row.map .int))),#[5,n],#[5,cc],#[5,at_],#[5,x]]/\¬(0<=x/\x<(n:Int))) (fun N hN=>?_) ?_
 . walk_at "rd"
   refine⟨divP,#[1],divP,powB (k:=4) (by unfold Bits;decide) #[1] #[1],#[1],#[1],?_⟩
   have e20:=Ybc (cc/256) (show(10 ^ Int.toNat 20:Int)≠0 by decide)
   rcases(show cc%2=0\/cc%2=1 by omega) with z|z
   . rw [z];exact⟨_,rfl,hN _ ⟨_,rfl,#[0]⟩⟩
   . rw [z];exact⟨_,rfl,hN _ ⟨_,rfl,#[0]⟩⟩
 rintro ρ ⟨x,rfl,hx⟩
 walk_at "rd hc1 hc2 zbj"
 refine⟨hsz _ #[6],hsz _ #[6],?_⟩
 rw [hm];exact q _ _ (fun z=>hx (z.2 x (by simp))) #[6]
theorem zll(T:Txt c K mg):#[8,dd_law_no_rule]:=by
 obtain⟨f,fd,F,hm⟩:=T.d_law_no_rule;have S:FnScope ["_law_turns", "_law_clans", "_law_cell", "_law_t", "_law_clan", "_law_far", "_law_strange"] ["_law_turns", "_law_clans", "_law_cell"] (zg zfk):=#[10]
 walk_at "d"
 . walk_at "m"
 . walk_at "l"
 refine⟨_,(zc (#[9,zj,3] (op3 zC i3 (op3 zp (op3 zt (n3 2) i3) (n3 0))))
  (zc (#[9,zj,4] (op3 zp (op3 zt (n3 2) i3) (n3 1)))
  (zc (#[9,zj,5] (op3 zp (op3 zt (n3 2) i3) (op3 jF i3 i3)))
  (zc (#[9,zj,6] (new3 (zy (za (zx (za s3 (za (n3 3) (za (n3 4) zb)))) (za (zx (za s3 (za (n3 3) (za (n3 4) zb)))) (za (zx (za s3 (za (n3 3) (za (n3 4) zb)))) (za (zx (za s3 (za i3 (za (n3 4) zb)))) (za (zx (za s3 (za (op3 jC (un3 Jh i3) (n3 5)) (za (n3 4) zb)))) zb))))))))
  (zc (#[9,zj,6] (new3 (cat3 (n3 6) (new3 (zy (za (zx (za s3 (za (op3 zC (op3 zC (n3 0) i3) (n3 5)) (za (n3 4) zb)))) (za (zx (za s3 (za (n3 3) (za (op3 jC (un3 Jh i3) (op3 zp (n3 5) i3)) zb)))) (za (zx (za s3 (za (n3 3) (za (op3 zC (n3 1) (n3 5)) zb)))) zb))))))))
  (ze (zn (at3 (n3 6) (op3 zp (n3 2) i3) #[4])))))))),fun ds Q h=>?_⟩
 obtain⟨T',n,cc,rfl,hT1,hn1,q⟩:=h;walk_at "q"
 refine⟨divP,#[0],hN _ ?_⟩
 walk_at "w"
 refine⟨divP,#[0],hN _ ?_⟩
 clear hN N;have hf0:=Ybc (cc/4000) (show(10 ^ Int.toNat 20:Int)≠0 by decide)
 walk_at "q"
 refine⟨divP,powB (k:=4) (by unfold Bits;decide) #[1] #[1],#[1],hN _ ?_⟩
 clear hN N;generalize cc/4000%10 ^ Int.toNat 20=far at hf0;generalize 1+cc/8%T'=tn;generalize cc/480%n=cl;walk_at "q"
 walk_at "n";refine z7 (fun ρ=>∃ rs:List Rule,ρ = [#[5,T'],#[5,n],#[5,cc],#[5,tn],#[5,cl],#[5,far],some (.sh true (.list (rs.map dRl)))]/\rs.length=8/\∀ r∈rs,¬okRl T' n r/\SeqAt.shaped (.str r.1)=true) (fun N hN=>?_) ?_
 . walk_at "rd"
   refine⟨#[1],hN _ ⟨[("fix", tn,cl),("Fixed", tn,cl),("", tn,cl),("barred", 0,cl),("fixed", -1 - far,cl),("barred", T'+1+far,cl),("fixed", tn,-1 - far%9),("barred", tn,n+far)],rfl,rfl,fun r hr=>?_⟩⟩
   simp only [WaU,WaM,or_false] at hr;have wd:∀ w:Str,SeqAt.shaped (.str w)=true->¬(w = "fixed"\/w = "barred")->∀ x y,¬okRl T' n (w,x,y)/\SeqAt.shaped (.str w)=true:=fun w h h' x y=>⟨fun z=>h' z.1,h⟩
   rcases hr with rfl|rfl|rfl|rfl|rfl|rfl|rfl|rfl
   . exact wd _ #[3] #[3] _ _
   . exact wd _ #[3] #[3] _ _
   . exact wd _ #[3] #[3] _ _
   . exact⟨fun z=>by have h:(1:Int)<=0:=z.2.1.1;omega,ZX⟩
   . exact⟨fun z=>by have h:1<=-1 - far:=z.2.1.1;omega,zcO⟩
   . exact⟨fun z=>by have h:T'+1+far<=T':=z.2.1.2;omega,ZX⟩
   . exact⟨fun z=>by have h:0<=-1 - far%9:=z.2.2.1;omega,zcO⟩
   . exact⟨fun z=>by have h:n+far<n:=z.2.2.2;omega,ZX⟩
 rintro ρ ⟨rs,rfl,h8,hall⟩
 obtain⟨r,hr1,hr2,_⟩:=Jy (xs:=rs) (i:=cc%8) #[0] #[0]
 have hr:atI (List.map dRl rs) (cc%8)=some (dRl r):=by rw [j4,hr1];rfl
 walk_at "rd hr"
 exact⟨#[1],q r (hall r hr2).1 (hall r hr2).2⟩
theorem zgj(T:Txt c K mg):#[8,dd_law_no_bounds]:=by
 obtain⟨f,fd,F,hm⟩:=T.d_law_no_bounds;have S:FnScope ["_law_bounds", "_law_cell", "_law_at", "_law_below", "_law_above"] ["_law_bounds", "_law_cell"] (zg zeI):=#[10]
 walk_at "d"
 . walk_at "m"
 . walk_at "l"
 refine⟨_,(zc (#[9,zj,2] (op3 zp (op3 zt (n3 1) i3) (zu zI rfl T.n_len zD (za (n3 0) zb))))
  (zc (zcw (at3 (n3 0) (n3 2) #[4]) (jb (n:=2) rfl (zA #[9,zk,3] (zA #[9,zk,4] je))))
  (zc (s_if (zr (zO hr.units) (op3 zp (n3 1) i3) i3 (nomark _)) (ze (zn (new3 (cat3 (new3 (zV (n3 0) zX (zW (n3 2)))) (new3 (zV (n3 0) (zW (op3 zC (n3 2) i3)) zX)))))) zo)
  (zc (s_if (zr (zO hr.units) (op3 zp (n3 1) i3) i3 (nomark _)) (ze (zn (new3 (cat3 (n3 0) (new3 (zy (za (at3 (n3 0) (n3 2) #[4]) zb))))))) zo)
  (zc (s_if (zr (zO hr.units) (op3 zp (n3 1) i3) i3 (nomark _)) (ze (zn (new3 (cat3 (new3 (cat3 (new3 (zV (n3 0) zX (zW (n3 2)))) (new3 (zy (za (at3 (new3 (zy (za (zx (za (n3 3) (za (zx (za (un3 Jh i3) (za i3 zb))) zb))) (za (zx (za (zx (za (un3 Jh i3) (za i3 zb))) (za (n3 4) zb))) zb)))) (op3 zp (op3 zt (n3 1) i3) i3) #[4]) zb))))) (new3 (zV (n3 0) (zW (op3 zC (n3 2) i3)) zX)))))) zo)
  (ze (zn (new3 (cat3 (new3 (cat3 (new3 (zV (n3 0) zX (zW (n3 2)))) (new3 (zy (za (at3 (new3 (zy (za (zx (za (zx (za i3 (za i3 zb))) (za (n3 4) zb))) (za (zx (za (n3 3) (za (zx (za (op3 zC i3 (op3 zp (op3 zt (n3 1) i3) i3)) (za i3 zb))) zb))) zb)))) (op3 zp (op3 zt (n3 1) i3) i3) #[4]) zb))))) (new3 (zV (n3 0) (zW (op3 zC (n3 2) i3)) zX))))))))))),fun ds Q h=>?_⟩
 obtain⟨l,cc,n,rfl,hok,h1,h8,ho,q⟩:=h;have hl:=hok.1;have hat0:=Ybc (cc/4) (show(l.length:Int)≠0 by omega)
 have hat1:=Ybd (cc/4) (show 0<(l.length:Int) by omega)
 obtain⟨s,hs1,hs2,hs3⟩:=Jy hat0 hat1;have hs1':atI (List.map dP l) (cc/4%(l.length:Int))=some (PyData.tuple [dQ s.1,dQ s.2]):=by rw [j4,hs1];rfl
 have hsz:∀ n:Nat,n<=1000->n<=sizeLine:=fun n h=>Ya5 h #[1]
 have hLM:(List.map dP l).length=l.length:=YaR ..;have hc1:cut (List.map dP l) none (some (cc/4%(l.length:Int)))=(l.take (cc/4%(l.length:Int)).toNat).map dP:=by rw [jY,zbf l hat0 #[0]]
 have hc2:cut (List.map dP l) (some (cc/4%(l.length:Int)+1)) none=(l.drop (cc/4%(l.length:Int)+1).toNat).map dP:=by rw [jY,JV l #[0] #[0]]
 obtain⟨s1,s2⟩:=ho s hs2;walk_at "s"
 walk_at "rd hLM"
 refine⟨divP,#[0],hN _ ?_⟩
 walk_at "t"
 walk_at "rd hs1'"
 walk_at "n";generalize cc/4%(l.length:Int)=at_ at *;have put:∀ p:Rat2×Rat2,okQ p.1->okQ p.2->¬(inQ p.1/\inQ p.2)->(List.map dP (l.take at_.toNat)).length+1<=sizeLine/\(List.map dP (l.take at_.toNat)++[dP p]).length+(List.map dP (l.drop (at_+1).toNat)).length<=sizeLine/\∀ f,Q f (PyData.list (List.map dP (l.take at_.toNat)++[dP p]++List.map dP (l.drop (at_+1).toNat))):=fun p p1 p2 hp=>by
  refine⟨hsz _ #[6],hsz _ #[6],fun f=>?_⟩
  have:=q f (l.take at_.toNat++[p]++l.drop (at_+1).toNat) (fun z=>hp (z.2 p (by simp))) (fun x hx=>by
   rcases Ya3.mp hx with hx|hx
   . rcases Ya3.mp hx with hx|hx
     . exact ho x (List.mem_of_mem_take hx)
     . rw [Ya6.mp hx];exact⟨p1,p2⟩
   . exact ho x (List.mem_of_mem_drop hx)) #[6]
  rw [dPs,Ya2,Ya2] at this;exact this
 have pt:∀ p:Rat2×Rat2,dP p=PyData.tuple [PyData.tuple [PyData.int p.1.1,PyData.int p.1.2],PyData.tuple [PyData.int p.2.1,PyData.int p.2.2]]:=fun _=>rfl
 have bb:∀ x y:Int,0<y->-(10 ^ 15)<=x->x<=10 ^ 15->y<=10 ^ 15->okQ (x,y):=fun x y h h1 h2 h3=>⟨h,Bits.lit (x:=x) 1200 #[0],Bits.lit (x:=y) 1200 #[0]⟩
 walk_at "s"
 walk_at "rd hc1 hc2 hLM"
 refine⟨#[1],ite2 (fun e=>?_) fun e=>hN _ ?_⟩
 . refine⟨hsz _ #[6],?_⟩
   rw [<-Ya2];exact q _ _ (fun z=>by have:=z.1;simp at this;omega) (fun x hx=>by
    rcases Ya3.mp hx with hx|hx
    . exact ho x (List.mem_of_mem_take hx)
    . exact ho x (List.mem_of_mem_drop hx)) #[6]
 walk_at "t"
 walk_at "rd hs1' hLM"
 refine⟨#[1],ite2 (fun e=>?_) fun e=>hN _ ?_⟩
 . refine⟨hsz _ #[0],?_⟩
   have:=q ((List.map dP l).all zw&&false) (l++[s]) (fun z=>by have:=z.1;simp at this;omega) (fun x hx=>by
    rcases Ya3.mp hx with hx|hx
    . exact ho x hx
    . rw [Ya6.mp hx];exact ho s hs2) #[6]
   rw [dPs,Ya2] at this;exact this
 walk_at "t"
 walk_at "rd hc1 hc2 atI0 atI1"
 refine⟨#[1],ite2 (fun e=>?_) fun e=>hN _ ?_⟩
 . refine⟨divP,#[1],?_⟩
   rcases(show cc/32%2=0\/cc/32%2=1 by omega) with z|z
   . obtain⟨m1,m2,m3⟩:=put (s.1,(-1,60)) s1 (bb _ _ #[1] #[1] #[1] #[1]) (fun z=>by have h:0<=(-1:Int):=z.2.1;omega)
     rw [z];exact⟨_,rfl,m1,m2,m3 _⟩
   . obtain⟨m1,m2,m3⟩:=put ((-3,1),s.2) (bb _ _ #[1] #[1] #[1] #[1]) s2 (fun z=>by have h:0<=(-3:Int):=z.1.1;omega)
     rw [z];exact⟨_,rfl,m1,m2,m3 _⟩
 clear hN N
 walk_at "rd hc1 hc2 atI0 atI1"
 refine⟨divP,#[1],divP,#[1],?_⟩
 rcases(show cc/32%2=0\/cc/32%2=1 by omega) with z|z
 . obtain⟨m1,m2,m3⟩:=put ((601,60),s.2) (bb _ _ #[1] #[1] #[1] #[1]) s2 (fun z=>by have h:(601:Int)<=10*60:=z.1.2;omega)
   rw [z];exact⟨_,rfl,m1,m2,m3 _⟩
 . obtain⟨m1,m2,m3⟩:=put (s.1,(11+cc/32%999,1)) s1 (bb _ _ #[1] #[0] #[0] #[1]) (fun z=>by have h:11+cc/32%999<=10*1:=z.2.2;omega)
   rw [z];exact⟨_,rfl,m1,m2,m3 _⟩
theorem zkc(T:Txt c K mg):#[8,dd_law_no_spells]:=by
 obtain⟨f,fd,F,hm⟩:=T.d_law_no_spells;have S:FnScope ["_law_spells_here", "_law_cell", "_law_at", "_law_length", "_law_weights", "_law_kind"] ["_law_spells_here", "_law_cell"] (zg J3):=#[10]
 walk_at "d"
 . walk_at "m"
 . walk_at "l"
 refine⟨_,(zc (#[9,zj,2] (op3 zp (op3 zt (n3 1) i3) (zu zI rfl T.n_len zD (za (n3 0) zb))))
  (zc (zcw (at3 (n3 0) (n3 2) #[4]) (jb (n:=2) rfl (zA #[9,zk,3] (zA #[9,zk,4] je))))
  (zc (#[9,zj,5] (op3 zp (n3 1) i3))
  (zc (s_if (zr (zO hr.units) (n3 5) i3 (nomark _)) (ze (zn (new3 (cat3 (new3 (cat3 (new3 (zV (n3 0) zX (zW (n3 2)))) (new3 (zy (za (zx (za (n3 3) (za (new3 (cat3 (new3 (zV (n3 4) (zW i3) zX)) (new3 (zy (za (op3 zC (op3 jF i3 i3) (op3 zp (op3 zt (n3 1) i3) (op3 jF i3 i3))) zb))))) zb))) zb))))) (new3 (zV (n3 0) (zW (op3 zC (n3 2) i3)) zX)))))) zo)
  (zc (s_if (zr (zO hr.units) (n3 5) i3 (nomark _)) (ze (zn (new3 (jo ["_law_length", "_law_weights"] [] [] rfl (zT (osc:=zg J3) #[3]) rfl (zU (n3 0)) (fun H0 s H fp cl=>⟨(jb (n:=2) rfl (zA (zk (i:=0) (show((["_law_length", "_law_weights"]:List PySem.Str)++([]:List PySem.Str)).Nodup by decide) rfl #[2]) (zA (zk (i:=1) (show((["_law_length", "_law_weights"]:List PySem.Str)++([]:List PySem.Str)).Nodup by decide) rfl #[2]) je))),jh,(zx (za (n3 0) (za (new3 (zy zb)) zb)))⟩))))) zo)
  (zc (s_if (zr (zO hr.units) (n3 5) i3 (nomark _)) (ze (zn (new3 (cat3 (new3 (cat3 (new3 (zV (n3 0) zX (zW (n3 2)))) (new3 (zy (za (zx (za (un3 Jh (op3 zp (op3 zt (n3 1) i3) i3)) (za (n3 4) zb))) zb))))) (new3 (zV (n3 0) (zW (op3 zC (n3 2) i3)) zX)))))) zo)
  (zc (s_if (zr (zO hr.units) (n3 5) i3 (nomark _)) (ze (zn (new3 (cat3 (new3 (cat3 (new3 (zV (n3 0) zX (zW (n3 2)))) (new3 (zy (za (zx (za (n3 3) (za (new3 (cat3 (new3 (zV (n3 4) zX (zW (un3 Jh i3)))) (new3 (zy (za (op3 jC (un3 Jh i3) (op3 zp (op3 zt (n3 1) i3) i3)) zb))))) zb))) zb))))) (new3 (zV (n3 0) (zW (op3 zC (n3 2) i3)) zX)))))) zo)
  (zc (s_if (zr (zO hr.units) (n3 5) i3 (nomark _)) (ze (zn (new3 (cat3 (new3 (cat3 (new3 (zV (n3 0) zX (zW (n3 2)))) (new3 (zy (za (zx (za (n3 3) (za (new3 (jo ["_law_one"] [] [] rfl (zT (osc:=zg J3) #[3]) rfl (zU (n3 4)) (fun H0 s H fp cl=>⟨(zk (i:=0) (show((["_law_one"]:List PySem.Str)++([]:List PySem.Str)).Nodup by decide) rfl #[2]),jh,i3⟩))) zb))) zb))))) (new3 (zV (n3 0) (zW (op3 zC (n3 2) i3)) zX)))))) zo)
  (zc (s_if (zr (zO hr.units) (n3 5) i3 (nomark _)) (ze (zn (new3 (cat3 (new3 (zy (za (zx (za i3 (za (new3 (cat3 (n3 4) (new3 (zy (za i3 zb))))) zb))) zb))) (n3 0))))) zo)
  (zc (s_if (zr (zO hr.units) (n3 5) i3 (nomark _)) (ze (zn (new3 (jo ["_law_length", "_law_weights"] [] [] rfl (zT (osc:=zg J3) #[3]) rfl (zU (n3 0)) (fun H0 s H fp cl=>⟨(jb (n:=2) rfl (zA (zk (i:=0) (show((["_law_length", "_law_weights"]:List PySem.Str)++([]:List PySem.Str)).Nodup by decide) rfl #[2]) (zA (zk (i:=1) (show((["_law_length", "_law_weights"]:List PySem.Str)++([]:List PySem.Str)).Nodup by decide) rfl #[2]) je))),jh,(zx (za (n3 0) (za (new3 (cat3 (n3 1) (new3 (rep3 (zy (za i3 zb)) (op3 jC i3 (zu zI rfl T.n_len zD (za (n3 1) zb))))))) zb)))⟩))))) zo)
  (zc (s_if (zr (zO hr.units) (n3 5) i3 (nomark _)) (ze (zn (new3 (cat3 (new3 (zy (za (zx (za (op3 zC i3 (op3 zp (op3 zt (n3 1) i3) (op3 jF i3 i3))) (za (n3 4) zb))) zb))) (n3 0))))) zo)
  (zc (s_if (zr (zO hr.units) (n3 5) i3 (nomark _)) (ze (zn (new3 (jo ["_law_k"] ["_law_weights"] [4] rfl (zT (osc:=zg J3) #[3]) rfl (jj rfl T.n_range (za (op3 zC i3 (op3 zp (op3 zt (n3 1) i3) i3)) zb)) (fun H0 s H fp cl=>⟨(zk (i:=0) (show((["_law_k"]:List PySem.Str)++(["_law_weights"]:List PySem.Str)).Nodup by decide) rfl #[2]),jh,(zx (za i3 (za (n3 1) zb)))⟩))))) zo)
  (ze (zn (new3 (zy zb)))))))))))))))),fun ds Q h=>?_⟩
 obtain⟨l,cc,rfl,hok,q⟩:=h;have hl:1<=l.length/\l.length<=8:=by have:=hok.1;omega
 have hat0:=Ybc (cc/10) (show(l.length:Int)≠0 by omega)
 have hat1:=Ybd (cc/10) (show 0<(l.length:Int) by omega)
 obtain⟨s,hs1,hs2,hs3⟩:=Jy hat0 hat1;have hs1':atI (List.map dS l) (cc/10%(l.length:Int))=some (PyData.tuple [PyData.int s.1,PyData.list (s.2.map PyData.int)]):=by rw [j4,hs1];rfl
 have hsz:∀ n:Nat,n<=1000->n<=sizeLine:=fun n h=>Ya5 h #[1]
 have hLM:(List.map dS l).length=l.length:=YaR ..;have hsok:=hok.2.1 s hs2;have hw:=hsok.2.1.1;have mk:=zi3 (l:=l) hsz hat0 hl.2 q;walk_at "s"
 walk_at "rd hLM"
 refine⟨divP,#[0],hN _ ?_⟩
 walk_at "t"
 walk_at "rd hs1' zbj"
 refine hN _ ?_
 clear hN N hs1';generalize cc/10%(l.length:Int)=at_ at *;walk_at "q"
 refine⟨#[1],hN _ ?_⟩
 clear hN N;generalize cc%10=kd;have b30:(10 ^ Int.toNat 30:Int)=10 ^ 30:=rfl;have put:∀ (t:Int) (ws:List Int),¬(1<=t/\okW ws)->(cut (List.map dS l) none (some at_)).length+1<=sizeLine/\(cut (List.map dS l) none (some at_)++[PyData.tuple [PyData.int t,PyData.list (ws.map PyData.int)]]).length+(cut (List.map dS l) (some (at_+1)) none).length<=sizeLine/\∀ f,Q f (PyData.list (cut (List.map dS l) none (some at_)++[PyData.tuple [PyData.int t,PyData.list (ws.map PyData.int)]]++cut (List.map dS l) (some (at_+1)) none)):=fun t ws h=>mk l (t,ws) #[0] #[0] (zi0 (zgu _ _ _) h)
 have hc3:cut (List.map PyData.int s.2) (some 1) none=(s.2.drop 1).map PyData.int:=by rw [jY,JV s.2 #[0] #[0]];rfl
 have hc4:cut (List.map PyData.int s.2) none (some (-1))=(s.2.take (s.2.length - 1)).map PyData.int:=by
  rw [jY];unfold cut;congr 1;rw [HT.sIx_none];simp [HT.sIx];omega
 have hws:∀ (ws:List Int) (x:Int),List.map PyData.int ws++[PyData.int x]=(ws++[x]).map PyData.int:=fun ws x=>by rw [Ya2];rfl
 have hwl:(List.map PyData.int s.2).length=s.2.length:=YaR ..;walk_at "s"
 walk_at "rd hc3 hws"
 refine ite2 (fun e=>?_) fun e=>hN _ ?_
 . obtain⟨m1,m2,m3⟩:=put s.1 (s.2.drop 1++[10 ^ Int.toNat 30+cc/64%10 ^ Int.toNat 30]) (fun z=>by
    have h1:=(z.2.2.1 _ (Yaa _ (Ya6.mpr rfl))).2;have h2:=Ybc (cc/64) (show(10 ^ Int.toNat 30:Int)≠0 by decide)
    omega)
   exact⟨p30,divP,p30,#[1],hsz _ #[6],m1,m2,m3 _⟩
 walk_at "t"
 walk_at "rd hLM"
 refine ite2 (fun e=>?_) fun e=>hN _ ?_
 . refine⟨hsz _ #[0],?_⟩
   refine jg dS (fun s=>dS (s.1,[])) (fun ρ=>∃ t u,ρ = [t,u]) l ?_ _ _ _ _ ⟨none,none,rfl⟩ ?_
   . rintro s hs ρ fa acc K ⟨t,u,rfl⟩ k
     walk_at "rd"
     exact k _ ⟨_,_,rfl⟩
   . have:=q true (l.map fun s=>(s.1,[])) (fun z=>by have:=(z.2.1 (s.1,[]) (Ya7.mpr ⟨s,hs2,rfl⟩)).2.1.1.1;simp at this) #[6]
     rw [dSs,YaD] at this;exact this
 walk_at "w"
 refine ite2 (fun e=>?_) fun e=>hN _ ?_
 . obtain⟨m1,m2,m3⟩:=put (-(cc/64%3)) s.2 (fun z=>by have h1:=z.1;omega)
   exact⟨divP,#[1],m1,m2,m3 _⟩
 walk_at "t"
 walk_at "rd hc4 hws"
 refine ite2 (fun e=>?_) fun e=>hN _ ?_
 . obtain⟨m1,m2,m3⟩:=put s.1 (s.2.take (s.2.length - 1)++[-1 - cc/64%9]) (fun z=>by
    have h1:=(z.2.2.1 _ (Yaa _ (Ya6.mpr rfl))).1
    omega)
   exact⟨divP,#[1],hsz _ #[6],m1,m2,m3 _⟩
 walk_at "t"
 walk_at "rd hwl"
 refine ite2 (fun e=>?_) fun e=>hN _ ?_
 . refine⟨hsz _ #[0],?_⟩
   refine jg PyData.int (fun _=>PyData.int 0) (fun ρ=>∃ t,ρ = [t]) s.2 ?_ _ _ _ _ ⟨none,rfl⟩ ?_
   . rintro s hs ρ fa acc K ⟨t,rfl⟩ k
     walk_at "rd"
     exact k _ ⟨_,rfl⟩
   . obtain⟨m1,m2,m3⟩:=put s.1 (s.2.map fun _=>0) (fun z=>z.2.2.2 (zh4 s.2))
     rw [YaD] at m2 m3;exact⟨m1,m2,m3 _⟩
 walk_at "t"
 walk_at "rd hws hLM hwl"
 refine ite2 (fun e=>?_) fun e=>hN _ ?_
 . refine⟨hsz _ #[0],hsz _ #[0],?_⟩
   exact q _ ((1,s.2++[1])::l) (zkj (YaT _ hs2) YaV (by simp)) #[6]
 walk_at "t"
 walk_at "rd hLM"
 refine ite2 (fun e=>?_) fun e=>hN _ ?_
 . refine⟨hsz _ #[0],?_⟩
   refine jg dS (fun s=>dS (s.1,s.2++List.replicate (9 - s.2.length) 1)) (fun ρ=>∃ t u,ρ = [t,u]) l ?_ _ _ _ _ ⟨none,none,rfl⟩ ?_
   . rintro s hs ρ fa acc K ⟨t,u,rfl⟩ k
     have h8:=(hok.2.1 s hs).2.1.1;have e9:(9 - (s.2.length:Int)).toNat=9 - s.2.length:=#[0]
     have er:(List.replicate (9 - s.2.length) [PyData.int 1]).flatten=(List.replicate (9 - s.2.length) (1:Int)).map PyData.int:=by
      generalize 9 - s.2.length=n
      induction n with
      | zero=>rfl
      | succ n ih=>rw [List.replicate_succ,List.flatten_cons,ih];rfl
     have hl':(List.map PyData.int s.2).length=s.2.length:=YaR ..
     walk_at "rd"
     rw [hl',e9,er,<-Ya2];exact⟨#[0],#[0],hsz _ #[0],hsz _ (by rw [YaR,Ybb];omega),k _ ⟨_,_,rfl⟩⟩
   . have:=q true (l.map fun s=>(s.1,s.2++List.replicate (9 - s.2.length) 1)) (fun z=>by
      have:=(z.2.1 _ (Ya7.mpr ⟨s,hs2,rfl⟩)).2.1.1.2;rw [YaS,Ybb] at this
      omega) #[6]
     rw [dSs,YaD] at this;exact this
 walk_at "t"
 walk_at "rd hLM"
 refine ite2 (fun e=>?_) fun e=>hN _ ?_
 . have h2:=Ybc (cc/64) (show(10 ^ Int.toNat 20:Int)≠0 by decide)
   refine⟨divP,powB (k:=4) (by unfold Bits;decide) #[1] #[1],#[1],hsz _ #[0],?_⟩
   exact q _ ((60+cc/64%10 ^ Int.toNat 20,s.2)::l) (fun z=>by
    have h3:=z.2.2;have h4:tot ((60+cc/64%10 ^ Int.toNat 20,s.2)::l)=(60+cc/64%10 ^ Int.toNat 20)+tot l:=rfl;have h5:=zdb (fun t ht=>(hok.2.1 t ht).1) hs2
    have h6:=hsok.1
    omega) #[6]
 walk_at "t"
 walk_at "rd hLM"
 refine ite2 (fun e=>?_) fun e=>hN _ ?_
 . refine⟨divP,#[1],#[0],#[0],hsz _ (by unfold nums;simp;omega),?_⟩
   refine zfL (fun i:Nat=>PyData.int (0+(i:Nat))) (fun _=>dS (1,s.2)) (fun ρ=>∃ t,ρ = [t,some (.sh false (PyData.list (s.2.map PyData.int)))]) (List.range (9+cc/64%3).toNat) ?_ _ _ _ _ ⟨none,rfl⟩ ?_
   . rintro i hi ρ fa acc K ⟨t,rfl⟩ k
     walk_at "rd"
     exact k _ _ ⟨_,rfl⟩
   . intro fb
     have:=q fb ((List.range (9+cc/64%3).toNat).map fun _=>(1,s.2)) (fun z=>by have:=z.1.2;simp at this;omega) #[6]
     rw [dSs,YaD] at this;exact this
 clear hN N
 walk_at "rd"
 exact q _ [] (fun z=>by have:=z.1.1;simp at this) (by simp)
theorem zk5(T:Txt c K mg):#[8,dd_check_weights c]:=by
 obtain⟨f,fd,F,hm⟩:=T.d_check_weights;have S:FnScope ["weights", "weight"] ["weights"] (zg zeq):=#[10]
 walk_at "d"
 . walk_at "m"
 . walk_at "l"
 refine⟨_,(zc (s_if (JF (zab Jp Jp i3 (zu zI rfl T.n_len zD (za (n3 0) zb)) (g3i rfl T.m_MOST_CLANS))) (ze (ju hE jq rfl rfl T.m_NoSpell T.e_NoSpell (za s3 zb))) zo)
  (zc (zM WaC rfl (zU (n3 0)) #[9,zk,1] (zc (s_if (zr Jb (n3 1) i3 (nomark _)) (ze (ju hE jq rfl rfl T.m_NoSpell T.e_NoSpell (za s3 zb))) zo)
   (ze (s_if (zr zfG (n3 1) (op3 jF i3 i3) (nomark _)) (ze (ju hE jq rfl rfl T.m_NoSpell T.e_NoSpell (za s3 zb))) zo))))
  (ze (s_if (zr (zO hr.units) (zu (JD rfl) rfl T.n_sum JI (za (n3 0) zb)) i3 (nomark _)) (ze (ju hE jq rfl rfl T.m_NoSpell T.e_NoSpell (za s3 zb))) zo)))),fun ds Q h=>?_⟩
 obtain⟨ws,rfl,q,hE'⟩:=h
 walk_at "rd"
 simp only [YaR]
 by_cases h1:1<=(ws.length:Int)
 case neg=>rw [if_neg h1];exact hE' fun z=>h1 (by have:=z.1.1;omega)
 rw [if_pos h1]
 by_cases h2:(ws.length:Int)<=8
 case neg=>rw [if_pos h2];exact hE' fun z=>h2 (by have:=z.1.2;omega)
 rw [if_neg (fun z=>z h2)]
 refine Ze (fun ds ρ=>∃ rest t,ds=rest.map PyData.int/\ρ = [some (.sh false (.list (ws.map .int))),t]/\(∀ w∈rest,w∈ws)/\∀ w∈ws,w∈rest\/(0<=w/\w<10 ^ 30)) ?_ ?_ _ _ ⟨ws,none,rfl,rfl,fun _ h=>h,fun _ h=>.inl h⟩
 . rintro d ds ρ ⟨rest,t,e,rfl,hin,hall⟩ W hW
   cases rest with
   | nil=>cases e
   | cons w rest=>
    cases e;have hw:=hin w YaV
    walk_at "rd"
    by_cases h3:w<0
    . rw [if_pos h3];exact hE' fun z=>by have:=(z.2.1 w hw).1;omega
    rw [if_neg h3];refine⟨p30,?_⟩
    by_cases h4:(10:Int) ^ Int.toNat 30<=w
    . rw [if_pos h4];exact hE' fun z=>by have:=(z.2.1 w hw).2;exact absurd h4 (by have e:(10:Int) ^ Int.toNat 30=10 ^ 30:=rfl;omega)
    rw [if_neg h4];refine hW _ ⟨rest,_,rfl,rfl,fun x hx=>hin x (YaT _ hx),fun x hx=>?_⟩
    rcases hall x hx with z|z
    . rcases WaU.mp z with rfl|z
      . exact .inr ⟨#[0],by have e:(10:Int) ^ Int.toNat 30=10 ^ 30:=rfl;omega⟩
      . exact .inl z
    . exact .inr z
 . rintro ρ ⟨rest,t,e,rfl,hin,hall⟩
   cases rest with
   | cons _ _=>cases e
   | nil=>
    walk_at "rd"
    refine⟨ws,Jm ws,?_⟩
    by_cases h3:ws.sum=0
    . rw [if_pos h3];exact hE' fun z=>z.2.2 h3
    . rw [if_neg h3]
      exact q ⟨⟨#[0],#[0]⟩,fun w hw=>(hall w hw).resolve_left (by simp),h3⟩
theorem zlI(T:Txt c K mg):#[8,dd_all_turns]:=by
 obtain⟨f,fd,F,hm⟩:=T.d_all_turns;have S:FnScope ["spells"] ["spells"] (zg zc1):=#[10]
 walk_at "d"
 . walk_at "m"
 . walk_at "l"
 refine⟨_,(ze (zn (zu (JD rfl) rfl T.n_sum JI (za (new3 (jo ["spell"] [] [] rfl (zT (osc:=zg zc1) #[3]) rfl (zU (n3 0)) (fun H0 s H fp cl=>⟨(zk (i:=0) (show((["spell"]:List PySem.Str)++([]:List PySem.Str)).Nodup by decide) rfl #[2]),jh,(at3 (n3 0) i3 #[4])⟩))) zb)))),fun ds Q h=>?_⟩
 obtain⟨l,rfl,hz,q⟩:=h
 walk_at "rd"
 rw [YaR];refine⟨sz #[0],?_⟩
 refine jg (f:=false) dS (fun s=>.int s.1) (fun ρ=>∃ t,ρ = [t]) l ?_ _ _ _ _ ⟨none,rfl⟩ ?_
 . rintro s hs ρ fa acc K ⟨t,rfl⟩ k
   simp only [seq3,next3,set3,own3,ret3,ifS3,tt3,o3,u3,v3,atV,asS,asB,asD,optP,asT,asLd,asL,atO,Zb,nilP,asId,asI,k3,nw3,add3,int3,int0,neg3,eq3,ne3,eqOk,eqv3,notN3,isNone,ix3,ixD,zaj,nil3,Zn,cb3,len3,lenD,abs3,max23,min23,sum3,max3,and3,or3,not3,ch3,tup3,lst3,ZO,catN,slL3,no3,ZC,zak,asg3,gn3,za2,za7,gnil3,app3,put3,frzS,frz,frz1,for3,itL,itT,itZ,rg1,rg2,Jq,true3,cst3,zah,try3,zaA,isxr,isxy,isxt,jK,shs,Cl.d,Cl.dat,Cl.f,zbD,zw,Option.map_some,Option.map_none,Option.isSome_some,Option.isSome_none,Option.join_some,Option.join_none,List.all_cons,List.all_nil,Wa0,WaW,WaY,WaV,WaX,Bool.or_true,Wa5,Ya1,Wa4,List.length_cons,List.length_nil,Nat.reduceAdd,Nat.reduceSub,Wa7,List.replicate,List.cons_append,List.nil_append,Yao,List.getElem?_cons_zero,List.getElem?_cons_succ,List.set_cons_zero,List.set_cons_succ,Waw,Cl.sh.injEq,Cl.ow.injEq,Cl.ex.injEq,WaN,WaE,WaO,WaF,Wat,List.cons.injEq,reduceCtorEq,and_assoc,and_true,true_and,and_self,exists_eq_left,exists_eq_left',exists_eq',exists_eq_right,exists_eq_right',exists_and_left,exists_const,exists_false,false_and,and_false,or_false,false_or,or_true,true_or,decide_true,decide_false,decide_eq_true_eq,Bool.not_true,Bool.not_false,War,Wau,if_true,if_false,ite_true,ite_false,Wav,decide_eq_false_iff_not,eq_self_iff_true,not_true_eq_false,not_false_eq_true,sz0,sz1,sz2,sz3,sz4,sz5,sz8,par3,aug3,idx3,ext3,itE,k3f,ZD,put2,app2,ix2,Cl.tr.injEq,za6,zaq,Cl.dt.injEq,repN,zaO,ZW,frzD,Cl.fd.injEq,dms,jt,argC,JS,j6,finM,Cl.dm.injEq,holds,updM,J7,ZN,Zz,zau,zam,zaT,ZI,zaG,za1,zaD,zar,srtL,ninT3,ZQ,List.foldl_cons,List.foldl_nil,zaF,zaa,Z3,zat,zay,Z6,Zw,Zx,zaY,za5,ZM,zaL,zaW,zaH,zaK,zaz,zaN,zai,za0,zag,ZV,zaB,ZE,zax,zao,zaJ,zaR,ZF,zad,zaw,zaP,zaQ,ZJ,zaM,Z5,zav,Zv,zap,zaU,Zt,Zh,JC,dSs,dS,dI,zw,dQ,dP,dPs,jL,dW,atI0,atI1,atI2,atI3,dRs,dRl,Zq,eM,lE,atI0]
   exact k _ ⟨_,rfl⟩
 . walk_at "rd"
   refine⟨l.map (fun s:Spell=>s.1),?_,q⟩
   rw [<-Jm (l.map (fun s:Spell=>s.1)),YaD]
   rfl
theorem zi7(T:Txt c K mg):#[8,dd_check_spells c]:=by
 have zl7:#[8,dd_check_weights c]:=zk5 T;have zl1:#[8,dd_all_turns]:=zlI T;obtain⟨f,fd,F,hm⟩:=T.d_check_spells;have S:FnScope ["spells", "turns", "weights"] ["spells"] (zg zfV):=#[10]
 walk_at "d"
 . walk_at "m"
 . walk_at "l"
 refine⟨_,(zc (s_if (JF (zab Jp Jp i3 (zu zI rfl T.n_len zD (za (n3 0) zb)) (g3i rfl T.m_MOST_SPELLS))) (ze (ju hE jq rfl rfl T.m_NoSpell T.e_NoSpell (za s3 zb))) zo)
  (zc (zM WaC rfl (zU (n3 0)) (jb (n:=2) rfl (zA #[9,zk,1] (zA #[9,zk,2] je))) (zc (s_if (zr Jb (n3 1) i3 (nomark _)) (ze (ju hE jq rfl rfl T.m_NoSpell T.e_NoSpell (za s3 zb))) zo)
   (zc (J4 (df3 hE zl7 #[7] rfl zq (za (n3 2) zb)))
   (ze (s_if (zr (JK hr.units) (zu zI rfl T.n_len zD (za (n3 2) zb)) (zu zI rfl T.n_len zD (za (at3 (at3 (n3 0) i3 #[4]) i3 #[4]) zb)) (nomark _)) (ze (ju hE jq rfl rfl T.m_NoSpell T.e_NoSpell (za s3 zb))) zo)))))
  (ze (s_if (zr Z9 (df3 hE zl1 #[7] rfl zq (za (n3 0) zb)) (g3i rfl T.m_MOST_TURNS) (nomark _)) (ze (ju hE jq rfl rfl T.m_NoSpell T.e_NoSpell (za s3 zb))) zo)))),fun ds Q h=>?_⟩
 obtain⟨l,rfl,q,hE'⟩:=h
 walk_at "rd"
 simp only [YaR]
 by_cases h1:1<=(l.length:Int)
 case neg=>rw [if_neg h1];exact hE' fun z=>h1 (by have:=z.1.1;omega)
 rw [if_pos h1]
 by_cases h2:(l.length:Int)<=8
 case neg=>rw [if_pos h2];exact hE' fun z=>h2 (by have:=z.1.2;omega)
 rw [if_neg (fun z=>z h2)]
 have hd0:atI (l.map dS) 0=some (dS (l.headD (0,[]))):=by
  cases l with
  | nil=>simp at h1
  | cons a r=>exact atI0
 refine Ze (fun ds ρ=>∃ rest t u,ds=rest.map dS/\ρ = [some (.sh false (.list (l.map dS))),t,u]/\(∀ w∈rest,w∈l)/\∀ w∈l,w∈rest\/(1<=w.1/\okW w.2/\w.2.length=many l)) ?_ ?_ _ _ ⟨l,none,none,rfl,rfl,fun _ h=>h,fun _ h=>.inl h⟩
 . rintro d ds ρ ⟨rest,t,u,e,rfl,hin,hall⟩ W hW
   cases rest with
   | nil=>cases e
   | cons w rest=>
    cases e;have hw:=hin w YaV
    walk_at "rd"
    by_cases h3:w.1<1
    . rw [if_pos h3];exact hE' fun z=>by have:=(z.2.1 w hw).1;omega
    rw [if_neg h3];refine⟨w.2,rfl,fun hok=>?_,fun hno=>hE' fun z=>hno (z.2.1 w hw).2.1⟩
    simp only [seq3,next3,set3,own3,ret3,ifS3,tt3,o3,u3,v3,atV,asS,asB,asD,optP,asT,asLd,asL,atO,Zb,nilP,asId,asI,k3,nw3,add3,int3,int0,neg3,eq3,ne3,eqOk,eqv3,notN3,isNone,ix3,ixD,zaj,nil3,Zn,cb3,len3,lenD,abs3,max23,min23,sum3,max3,and3,or3,not3,ch3,tup3,lst3,ZO,catN,slL3,no3,ZC,zak,asg3,gn3,za2,za7,gnil3,app3,put3,frzS,frz,frz1,for3,itL,itT,itZ,rg1,rg2,Jq,true3,cst3,zah,try3,zaA,isxr,isxy,isxt,jK,shs,Cl.d,Cl.dat,Cl.f,zbD,zw,Option.map_some,Option.map_none,Option.isSome_some,Option.isSome_none,Option.join_some,Option.join_none,List.all_cons,List.all_nil,Wa0,WaW,WaY,WaV,WaX,Bool.or_true,Wa5,Ya1,Wa4,List.length_cons,List.length_nil,Nat.reduceAdd,Nat.reduceSub,Wa7,List.replicate,List.cons_append,List.nil_append,Yao,List.getElem?_cons_zero,List.getElem?_cons_succ,List.set_cons_zero,List.set_cons_succ,Waw,Cl.sh.injEq,Cl.ow.injEq,Cl.ex.injEq,WaN,WaE,WaO,WaF,Wat,List.cons.injEq,reduceCtorEq,and_assoc,and_true,true_and,and_self,exists_eq_left,exists_eq_left',exists_eq',exists_eq_right,exists_eq_right',exists_and_left,exists_const,exists_false,false_and,and_false,or_false,false_or,or_true,true_or,decide_true,decide_false,decide_eq_true_eq,Bool.not_true,Bool.not_false,War,Wau,if_true,if_false,ite_true,ite_false,Wav,decide_eq_false_iff_not,eq_self_iff_true,not_true_eq_false,not_false_eq_true,sz0,sz1,sz2,sz3,sz4,sz5,sz8,par3,aug3,idx3,ext3,itE,k3f,ZD,put2,app2,ix2,Cl.tr.injEq,za6,zaq,Cl.dt.injEq,repN,zaO,ZW,frzD,Cl.fd.injEq,dms,jt,argC,JS,j6,finM,Cl.dm.injEq,holds,updM,J7,ZN,Zz,zau,zam,zaT,ZI,zaG,za1,zaD,zar,srtL,ninT3,ZQ,List.foldl_cons,List.foldl_nil,zaF,zaa,Z3,zat,zay,Z6,Zw,Zx,zaY,za5,ZM,zaL,zaW,zaH,zaK,zaz,zaN,zai,za0,zag,ZV,zaB,ZE,zax,zao,zaJ,zaR,ZF,zad,zaw,zaP,zaQ,ZJ,zaM,Z5,zav,Zv,zap,zaU,Zt,Zh,JC,dSs,dS,dI,zw,dQ,dP,dPs,jL,dW,atI0,atI1,atI2,atI3,dRs,dRl,Zq,eM,lE,atI0,atI1,hd0,YaR]
    by_cases h4:(w.2.length:Int)=(l.headD (0,[])).2.length
    . rw [if_neg (fun z=>z h4)]
      refine hW _ ⟨rest,_,_,rfl,rfl,fun x hx=>hin x (YaT _ hx),fun x hx=>?_⟩
      rcases hall x hx with z|z
      . rcases WaU.mp z with rfl|z
        . exact .inr ⟨#[0],hok,by unfold many;omega⟩
        . exact .inl z
      . exact .inr z
    . rw [if_pos h4]
      exact hE' fun z=>h4 (by have:=(z.2.1 w hw).2.2;unfold many at this;omega)
 . rintro ρ ⟨rest,t,u,e,rfl,hin,hall⟩
   cases rest with
   | cons _ _=>cases e
   | nil=>
    walk_at "rd"
    refine⟨l,rfl,#[0],?_⟩
    by_cases h3:60<tot l
    . rw [if_pos h3];exact hE' fun z=>by have:=z.2.2;omega
    . rw [if_neg h3]
      exact q ⟨⟨#[0],#[0]⟩,fun w hw=>(hall w hw).resolve_left (by simp),#[0]⟩
theorem zfO(T:Txt c K mg):#[8,dd_common_divisor]:=by
 obtain⟨f,fd,F,hm⟩:=T.d_common_divisor;have S:FnScope ["one", "other", "greater", "lesser", "rest"] ["one", "other"] (zg zdT):=#[10]
 walk_at "d"
 . walk_at "m"
 . walk_at "l"
 refine⟨_,(zc (#[9,zj,2] (zu zcB rfl T.n_abs zdj (za (n3 0) zb)))
  (zc (#[9,zj,3] (zu zcB rfl T.n_abs zdj (za (n3 1) zb)))
  (zc (zaS WaC (zr (JK hr.units) (n3 3) i3 (nomark _)) (zc (#[9,zj,4] (op3 zp (n3 2) (n3 3)))
   (zc (#[9,zj,2] (n3 3))
   (ze (#[9,zj,3] (n3 4))))))
  (ze (zn (n3 2)))))),fun ds Q h=>?_⟩
 obtain⟨a,b,rfl,q⟩:=h
 walk_at "rd"
 refine⟨_,Zi (fun n ρ=>∃ g l r,ρ = [#[5,a],#[5,b],#[5,g],#[5,l],r]/\0<=g/\0<=l/\Int.gcd g l=Int.gcd a b/\n=l.toNat) ?_ _ _ ⟨_,_,_,rfl,by split<;>omega,by split<;>omega,zfH a b,rfl⟩⟩
 rintro n ρ ⟨g,l,r,rfl,hg,hl,hG,rfl⟩ W hW
 walk_at "rd"
 by_cases h0:l=0
 . rw [if_neg (fun z=>z h0)]
   subst h0;rw [<-hG,zew hg] at q;exact q
 . rw [if_pos h0]
   have hp:0<l:=#[0]
   have h1:=Ybc g h0;have h2:=Ybd g hp;exact⟨hp,hW (g%l).toNat _ #[0] ⟨l,g%l,_,rfl,hl,h1,(zex hg hp).trans hG,rfl⟩⟩
theorem zkz(T:Txt c K mg):#[8,dd_divisor_of_all]:=by
 have zma:#[8,dd_common_divisor]:=zfO T;obtain⟨f,fd,F,hm⟩:=T.d_divisor_of_all;have S:FnScope ["weights", "divisor", "weight"] ["weights"] (zg ze0):=#[10]
 walk_at "d"
 . walk_at "m"
 . walk_at "l"
 refine⟨_,(zc (#[9,zj,1] i3)
  (zc (zM WaC rfl (zU (n3 0)) #[9,zk,2] (ze (#[9,zj,1] (df3 hE zma #[7] rfl zq (za (n3 1) (za (n3 2) zb))))))
  (ze (zn (n3 1))))),fun ds Q h=>?_⟩
 obtain⟨ws,rfl,q⟩:=h
 walk_at "rd"
 refine Ze (fun ds ρ=>∃ done rest t,ds=rest.map PyData.int/\ws=done++rest/\ρ = [some (.sh false (.list (ws.map .int))),#[5,gcdL done],t]) ?_ ?_ _ _ ⟨[],ws,none,rfl,rfl,rfl⟩
 . rintro d ds ρ ⟨done,rest,t,e,hws,rfl⟩ W hW
   cases rest with
   | nil=>cases e
   | cons w rest=>
    cases e
    walk_at "rd"
    exact hW _ ⟨done++[w],rest,_,rfl,by rw [hws,Yag];rfl,by unfold gcdL;rw [Waz];rfl⟩
 . rintro ρ ⟨done,rest,t,e,hws,rfl⟩
   cases rest with
   | cons _ _=>cases e
   | nil=>
    walk_at "rd"
    rw [Yao] at hws;subst hws;exact q
theorem zki(T:Txt c K mg):#[8,dd_least_bottom]:=by
 have zmb:#[8,dd_divisor_of_all]:=zkz T;have zma:#[8,dd_common_divisor]:=zfO T;obtain⟨f,fd,F,hm⟩:=T.d_least_bottom;have S:FnScope ["spells", "bottom", "spell", "parts"] ["spells"] (zg zdU):=#[10]
 walk_at "d"
 . walk_at "m"
 . walk_at "l"
 refine⟨_,(zc (#[9,zj,1] i3)
  (zc (zM WaC rfl (zU (n3 0)) #[9,zk,2] (zc (#[9,zj,3] (op3 zt (zu (JD rfl) rfl T.n_sum JI (za (at3 (n3 2) i3 #[4]) zb)) (df3 hE zmb #[7] rfl zq (za (at3 (n3 2) i3 #[4]) zb))))
   (ze (#[9,zj,1] (op3 zt (op3 jn (n3 1) (n3 3)) (df3 hE zma #[7] rfl zq (za (n3 1) (za (n3 3) zb))))))))
  (ze (zn (n3 1))))),fun ds Q h=>?_⟩
 obtain⟨l,rfl,hok,q⟩:=h
 walk_at "rd"
 refine Ze (fun ds ρ=>∃ done rest t u,ds=rest.map dS/\l=done++rest/\ρ = [some (.sh false (.list (l.map dS))),#[5,bot done],t,u]) ?_ ?_ _ _ ⟨[],l,none,none,rfl,rfl,rfl⟩
 . rintro d ds ρ ⟨done,rest,t,u,e,hl,rfl⟩ W hW
   cases rest with
   | nil=>cases e
   | cons w rest=>
    cases e;have hw:w∈l:=by rw [hl];simp
    have hwok:=(hok.2.1 w hw).2.1;have hdone:0<bot done/\Bits (1+103*done.length) (bot done):=zbu done 1 1 (fun s hs=>(hok.2.1 s (by rw [hl];exact Yai _ hs)).2.1) #[1] (by unfold Bits;decide)
    have hlen:done.length<=8:=by have:=hok.1.2;rw [hl,YaS] at this;omega
    have hb:Bits 900 (bot done):=hdone.2.mono #[0]
    simp only [seq3,next3,set3,own3,ret3,ifS3,tt3,o3,u3,v3,atV,asS,asB,asD,optP,asT,asLd,asL,atO,Zb,nilP,asId,asI,k3,nw3,add3,int3,int0,neg3,eq3,ne3,eqOk,eqv3,notN3,isNone,ix3,ixD,zaj,nil3,Zn,cb3,len3,lenD,abs3,max23,min23,sum3,max3,and3,or3,not3,ch3,tup3,lst3,ZO,catN,slL3,no3,ZC,zak,asg3,gn3,za2,za7,gnil3,app3,put3,frzS,frz,frz1,for3,itL,itT,itZ,rg1,rg2,Jq,true3,cst3,zah,try3,zaA,isxr,isxy,isxt,jK,shs,Cl.d,Cl.dat,Cl.f,zbD,zw,Option.map_some,Option.map_none,Option.isSome_some,Option.isSome_none,Option.join_some,Option.join_none,List.all_cons,List.all_nil,Wa0,WaW,WaY,WaV,WaX,Bool.or_true,Wa5,Ya1,Wa4,List.length_cons,List.length_nil,Nat.reduceAdd,Nat.reduceSub,Wa7,List.replicate,List.cons_append,List.nil_append,Yao,List.getElem?_cons_zero,List.getElem?_cons_succ,List.set_cons_zero,List.set_cons_succ,Waw,Cl.sh.injEq,Cl.ow.injEq,Cl.ex.injEq,WaN,WaE,WaO,WaF,Wat,List.cons.injEq,reduceCtorEq,and_assoc,and_true,true_and,and_self,exists_eq_left,exists_eq_left',exists_eq',exists_eq_right,exists_eq_right',exists_and_left,exists_const,exists_false,false_and,and_false,or_false,false_or,or_true,true_or,decide_true,decide_false,decide_eq_true_eq,Bool.not_true,Bool.not_false,War,Wau,if_true,if_false,ite_true,ite_false,Wav,decide_eq_false_iff_not,eq_self_iff_true,not_true_eq_false,not_false_eq_true,sz0,sz1,sz2,sz3,sz4,sz5,sz8,par3,aug3,idx3,ext3,itE,k3f,ZD,put2,app2,ix2,Cl.tr.injEq,za6,zaq,Cl.dt.injEq,repN,zaO,ZW,frzD,Cl.fd.injEq,dms,jt,argC,JS,j6,finM,Cl.dm.injEq,holds,updM,J7,ZN,Zz,zau,zam,zaT,ZI,zaG,za1,zaD,zar,srtL,ninT3,ZQ,List.foldl_cons,List.foldl_nil,zaF,zaa,Z3,zat,zay,Z6,Zw,Zx,zaY,za5,ZM,zaL,zaW,zaH,zaK,zaz,zaN,zai,za0,zag,ZV,zaB,ZE,zax,zao,zaJ,zaR,ZF,zad,zaw,zaP,zaQ,ZJ,zaM,Z5,zav,Zv,zap,zaU,Zt,Zh,JC,dSs,dS,dI,zw,dQ,dP,dPs,jL,dW,atI0,atI1,atI2,atI3,dRs,dRl,Zq,eM,lE,atI0,atI1]
    refine⟨w.2,Jm _,w.2,rfl,⟨zb4 hwok,((Zo hwok).le (by have:=zh1 hwok;have:=zb4 hwok;omega)).mono #[1]⟩,?_⟩
    have hgb:Bits 9000 (Int.gcd (bot done) (parts w.2):Int):=((zcl hwok).le (by have:=zkd (b:=bot done) (JL hwok);have:=zb9 (b:=bot done) (JL hwok);have:=JL hwok;omega)).mono #[1]
    refine⟨hb.mulOk (zcl hwok) #[1],⟨zb9 (JL hwok),hgb⟩,?_⟩
    exact hW _ ⟨done++[w],rest,_,_,rfl,by rw [hl,Yag];rfl,by unfold bot;rw [Waz];rfl⟩
 . rintro ρ ⟨done,rest,t,u,e,hl,rfl⟩
   cases rest with
   | cons _ _=>cases e
   | nil=>
    walk_at "rd"
    rw [Yao] at hl;subst hl;exact q
theorem zkp(T:Txt c K mg):#[8,dd_shares_over]:=by
 obtain⟨f,fd,F,hm⟩:=T.d_shares_over;have S:FnScope ["bottom", "weights", "total"] ["bottom", "weights"] (zg zb7):=#[10]
 walk_at "d"
 . walk_at "m"
 . walk_at "l"
 refine⟨_,(zc (#[9,zj,2] (zu (JD rfl) rfl T.n_sum JI (za (n3 1) zb)))
  (ze (zn (new3 (jo ["weight"] ["bottom", "total"] [0,2] rfl (zT (osc:=zg zb7) #[3]) rfl (zU (n3 1)) (fun H0 s H fp cl=>⟨(zk (i:=0) (show((["weight"]:List PySem.Str)++(["bottom", "total"]:List PySem.Str)).Nodup by decide) rfl #[2]),jh,(op3 zt (op3 jn (n3 0) (n3 1)) (n3 2))⟩)))))),fun ds Q h=>?_⟩
 obtain⟨b,ws,rfl,hok,hb,q⟩:=h
 walk_at "rd"
 refine⟨ws,Jm _,?_⟩
 refine⟨sz (by rw [YaR];have:=hok.1.2;omega),?_⟩
 refine jg (f:=false) PyData.int (fun w=>.int (w*b/ws.sum)) (fun ρ=>∃ t,ρ = [t,#[5,b],#[5,ws.sum]]) ws ?_ _ _ _ _ ⟨none,rfl⟩ ?_
 . rintro w hw ρ fa acc K ⟨t,rfl⟩ k
   have h1:IntMulOk w b:=(zes hok hw).mulOk hb #[1]
   have h2:jX (w*b) ws.sum:=⟨Jj hok,(Zo hok).mono #[1]⟩
   show IntMulOk w b/\jX (w*b) ws.sum/\K (fa&&true) (acc++[.int (w*b/ws.sum)]) [#[5,w],#[5,b],#[5,ws.sum]]
   rw [Wa0];exact⟨h1,h2,k _ ⟨_,rfl⟩⟩
 . unfold dI shares at q
   rw [YaD] at q;exact q
theorem zgJ(T:Txt c K mg):#[8,dd_quotas c]:=by
 have zl5:#[8,dd_check_spells c]:=zi7 T;have zms:#[8,dd_least_bottom]:=zki T;have zmD:#[8,dd_shares_over]:=zkp T;obtain⟨f,fd,F,hm⟩:=T.d_quotas;have S:FnScope ["spells", "bottom", "latest", "told", "turns", "weights", "shares", "turn"] ["spells"] (zg zbh):=#[10]
 walk_at "d"
 . walk_at "m"
 . walk_at "l"
 refine⟨_,(zc (J4 (df3 hE zl5 #[7] rfl zq (za (n3 0) zb)))
  (zc (#[9,zj,1] (df3 hE zms #[7] rfl zq (za (n3 0) zb)))
  (zc (#[9,zbo,2] ["weight"] [] [] rfl (zT (osc:=zg zbh) #[3]) rfl (zU (at3 (at3 (n3 0) i3 #[4]) i3 #[4])) (fun H0 s H fp cl=>⟨(zk (i:=0) (show((["weight"]:List PySem.Str)++([]:List PySem.Str)).Nodup by decide) rfl #[2]),jh,i3⟩))
  (zc (#[9,jB,3] (zy (za (n3 2) zb)))
  (zc (zM WaC rfl (zU (n3 0)) (jb (n:=2) rfl (zA #[9,zk,4] (zA #[9,zk,5] je))) (zc (#[9,zj,6] (df3 hE zmD #[7] rfl zq (za (n3 1) (za (n3 5) zb))))
   (ze (zM WaC rfl (jj rfl T.n_range (za (n3 4) zb)) #[9,zk,7] (zc (#[9,zbo,2] ["quota", "share"] [] [] rfl (zT (osc:=zg zbh) #[3]) rfl (zjg rfl T.n_zip (za (n3 2) (za (n3 6) zb))) (fun H0 s H fp cl=>⟨(jb (n:=2) rfl (zA (zk (i:=0) (show((["quota", "share"]:List PySem.Str)++([]:List PySem.Str)).Nodup by decide) rfl #[2]) (zA (zk (i:=1) (show((["quota", "share"]:List PySem.Str)++([]:List PySem.Str)).Nodup by decide) rfl #[2]) je))),jh,(op3 zC (n3 0) (n3 1))⟩))
    (ze (jZ (i:=3) rfl #[2] (n3 2))))))))
  (ze (jP [3] (zn (zx (za (n3 1) (za (n3 3) zb))))))))))),fun ds Q h=>?_⟩
 obtain⟨l,rfl,q,hE'⟩:=h;walk_at "q"
 refine⟨l,rfl,fun hok=>hN _ ?_,hE'⟩
 clear hN N;have hl0:l≠[]:=fun z=>by have:=hok.1.1;rw [z] at this;simp at this
 have hd0:atI (l.map dS) 0=some (dS (l.headD (0,[]))):=by
  cases l with
  | nil=>exact absurd rfl hl0
  | cons a r=>exact atI0
 have hmany:many l<=8:=by
  cases l with
  | nil=>exact absurd rfl hl0
  | cons a r=>exact(hok.2.1 a YaV).2.1.1.2
 walk_at "q"
 refine⟨l,rfl,hok,hN _ ?_⟩
 walk_at "t"
 walk_at "rd hd0 atI1 YaR"
 refine⟨sz (by unfold many at hmany;omega),?_⟩
 refine jg PyData.int (fun _=>.int 0) (fun ρ=>∃ t,ρ = [t]) (l.headD (0,[])).2 ?_ _ _ _ _ ⟨none,rfl⟩ ?_
 . rintro w hw ρ fa acc K ⟨t,rfl⟩ k
   walk_at "rd"
   exact k _ ⟨_,rfl⟩
 have hz:(l.headD (0,[])).2.map (fun _=>PyData.int 0)=(zeros l).map .int:=by
  unfold zeros many;rw [Yaz,WaQ]
 rw [List.nil_append,hz];walk_at "v"
 walk_at "n"
 walk_at "rd"
 refine Ze (fun ds ρ=>∃ done rest t u v w,ds=rest.map dS/\l=done++rest/\ρ = [some (.sh false (.list (l.map dS))),#[5,bot l],some (.sh true (dI (runQ (bot l) done (zeros l,[zeros l])).1)),some (.ow true ((runQ (bot l) done (zeros l,[zeros l])).2.map dI)),t,u,v,w]/\(runQ (bot l) done (zeros l,[zeros l])).2.length<=1+(tot done).toNat) ?_ ?_ _ _ ⟨[],l,none,none,none,none,rfl,rfl,rfl,by simp [runQ]⟩
 . rintro d ds ρ ⟨done,rest,t,u,v,w',e,hl,rfl,hlen⟩ W hW
   cases rest with
   | nil=>cases e
   | cons w rest=>
    cases e;have hw:w∈l:=by rw [hl];simp
    have hwok:=(hok.2.1 w hw).2.1;have h1t:∀ s∈l,1<=s.1:=fun s hs=>(hok.2.1 s hs).1
    have hwt:=zdb h1t hw;have hw1:=h1t w hw;have hdt:tot done<=60 - w.1:=by
     have h60:=hok.2.2;have e:tot l=tot done+(w.1+tot rest):=by unfold tot;rw [hl,Ya2,List.sum_append,Ya1,List.sum_cons]
     have:0<=tot rest:=JY fun s hs=>h1t s (by rw [hl];exact Yaa _ (YaT _ hs))
     omega
    have hd0':0<=tot done:=JY fun s hs=>h1t s (by rw [hl];exact Yai _ hs)
    walk_at "rd"
    refine⟨w.2,rfl,hwok,(zeU hok).mono #[1],#[0],by have:=hok.2.2;omega,?_⟩
    generalize hp:runQ (bot l) done (zeros l,[zeros l])=p at hlen ⊢;refine jx (fun k ρ=>∃ t,ρ = [some (.sh false (.list (l.map dS))),#[5,bot l],some (.sh true (dI (rep (zS (shares (bot l) w.2)) k p).1)),some (.ow true ((rep (zS (shares (bot l) w.2)) k p).2.map dI)),#[5,w.1],some (.sh false (dI w.2)),some (.sh true (dI (shares (bot l) w.2))),t]) ?_ ?_ ⟨w',rfl⟩
    . rintro k ρ hk ⟨t,rfl⟩ W' hW'
      have hr:∀ k p,rep (zS (shares (bot l) w.2)) (k+1) p=zS (shares (bot l) w.2) (rep (zS (shares (bot l) w.2)) k p):=fun k=>by
       induction k with
       | zero=>intro p;rfl
       | succ k ih=>intro p;rw [rep,ih];rfl
      have hlk:=Z8 (shares (bot l) w.2) k p
      walk_at "rd"
      rw [zfx,YaR];refine⟨sz (by rw [List.length_zip];unfold shares;rw [YaR];have:=hwok.1.2;omega),?_⟩
      refine jg _ (fun p=>.int (p.1+p.2)) (fun ρ=>∃ t u,ρ = [t,u]) _ ?_ _ _ _ _ ⟨none,none,rfl⟩ ?_
      . rintro x hx ρ fa acc K ⟨t,u,rfl⟩ k
        walk_at "rd"
        exact k _ ⟨_,_,rfl⟩
      . walk_at "rd"
        rw [YaR];refine⟨YaU (show _<1000000 by omega) #[1],hW' _ ⟨?w,?h⟩⟩
        case h=>
        rw [hr];unfold zS addL dI;simp only [Ya2,Ya1,Wa4,YaD,List.nil_append]
        rfl
    . rintro ρ ⟨t,rfl⟩
      have er:runQ (bot l) (done++[w]) (zeros l,[zeros l])=rep (zS (shares (bot l) w.2)) w.1.toNat p:=by
       unfold runQ at hp ⊢;rw [Waz,hp];rfl
      have et:tot (done++[w])=tot done+w.1:=by unfold tot;rw [Ya2,List.sum_append];simp
      refine hW _ ⟨done++[w],rest,#[5,w.1],some (.sh false (dI w.2)),some (.sh true (dI (shares (bot l) w.2))),t,rfl,by rw [hl,Yag];rfl,by rw [er],?_⟩
      rw [er,Z8,et];omega
 . rintro ρ ⟨done,rest,t,u,v,w,e,hl,rfl,hlen⟩
   cases rest with
   | cons _ _=>cases e
   | nil=>
    walk_at "rd"
    rw [Yao] at hl;subst hl;exact q hok
theorem zjx(T:Txt c K mg):#[8,dd_first_turn]:=by
 obtain⟨f,fd,F,hm⟩:=T.d_first_turn;have S:FnScope ["path", "wanted", "turn"] ["path", "wanted"] (zg zeZ):=#[10]
 walk_at "d"
 . walk_at "m"
 . walk_at "l"
 refine⟨_,(zc (zM WaC rfl (zbM rfl T.n_range (za i3 (za (zu zI rfl T.n_len zD (za (n3 0) zb)) zb))) #[9,zk,2] (ze (s_if (zr zfG (at3 (n3 0) (n3 2) #[4]) (n3 1) (nomark _)) (ze (zn (n3 2))) zo)))
  (ze (zn (zu zI rfl T.n_len zD (za (n3 0) zb))))),fun ds Q h=>?_⟩
 obtain⟨path,x,rfl,h61,h1,q⟩:=h
 walk_at "rd"
 rw [YaR];refine⟨#[1],#[1],#[0],#[0],?_⟩
 have e1:((path.length:Int) - 1).toNat=path.length - 1:=#[0]
 rw [e1];refine jx (lo:=1) (fun k ρ=>∃ t,ρ = [some (.sh false (.list (path.map .int))),#[5,x],t]/\∀ i,1<=i->i<1+k->¬x<=path.getD i 0) ?_ ?_ ⟨none,rfl,fun i h1 h2=>absurd h2 #[0]⟩
 . rintro k ρ hk ⟨t,rfl,hno⟩ W hW
   have hg:=Js (xs:=path) (i:=1+(k:Int)) #[0] #[0]
   rw [show(1+(k:Int)).toNat=1+k by omega] at hg
   walk_at "rd hg"
   by_cases h:x<=path.getD (1+k) 0
   . rw [if_pos h]
     have:z9 path.length (fun t=>decide (x<=path.getD t 0))=1+k:=zdK h1 #[0] #[0] (fun t a b=>decide_eq_false (hno t a b)) fun _=>decide_eq_true h
     rw [this] at q;have e:((1+k:Nat):Int)=1+(k:Int):=#[0]
     rw [e] at q;exact q
   . rw [if_neg h]
     refine hW _ ⟨_,rfl,fun i a b=>?_⟩
     by_cases e:i=1+k
     . rw [e];exact h
     . exact hno i a #[0]
 . rintro ρ ⟨t,rfl,hno⟩
   walk_at "rd"
   rw [YaR];have:z9 path.length (fun t=>decide (x<=path.getD t 0))=path.length:=zdK h1 h1 (YaY _) (fun t a b=>decide_eq_false (hno t a #[0])) fun z=>absurd z #[0]
   rw [this] at q;exact q
theorem zle(T:Txt c K mg):#[8,dd_window_of]:=by
 have zmc:#[8,dd_first_turn]:=zjx T;obtain⟨f,fd,F,hm⟩:=T.d_window_of;have S:FnScope ["bottom", "path", "j", "room", "opens", "last"] ["bottom", "path", "j", "room"] (zg zf6):=#[10]
 walk_at "d"
 . walk_at "m"
 . walk_at "l"
 refine⟨_,(zc (#[9,zj,4] (df3 hE zmc #[7] rfl zq (za (n3 1) (za (op3 jC (op3 jn (n3 2) (n3 0)) (at3 (n3 3) i3 #[4])) zb))))
  (zc (#[9,zj,5] (df3 hE zmc #[7] rfl zq (za (n3 1) (za (op3 zC (op3 zC (op3 jn (op3 jC (n3 2) i3) (n3 0)) (at3 (n3 3) i3 #[4])) i3) zb))))
  (zc (s_if (zr (zO hr.units) (n3 5) (zu zI rfl T.n_len zD (za (n3 1) zb)) (nomark _)) (ze (zn (zx (za (n3 4) (za non3 zb))))) zo)
  (ze (zn (zx (za (n3 4) (za (n3 5) zb)))))))),fun ds Q h=>?_⟩
 obtain⟨b,path,j,room,rfl,h61,h1,hb,hj,q⟩:=h
 walk_at "rd atI0 atI1"
 have hj1:Bits 65 (j - 1):=hj.sub (Bits.lit (x:=1) 64);refine⟨hj.mulOk hb #[1],path,rfl,h61,h1,hj1.mulOk hb #[1],path,rfl,h61,h1,?_⟩
 rw [YaR];unfold winB winP at q;dsimp only at q
 by_cases h:z9 path.length (fun t=>decide ((j - 1)*b+room.1+1<=path.getD t 0))=path.length
 . rw [if_pos (by rw [h])]
   rw [if_pos h] at q;exact q
 . rw [if_neg (fun z=>h #[0])]
   rw [if_neg h] at q;exact q
theorem zhg(T:Txt c K mg):#[8,dd_windows_of_clan]:=by
 have zmE:#[8,dd_window_of]:=zle T;obtain⟨f,fd,F,hm⟩:=T.d_windows_of_clan;have S:FnScope ["told", "clan", "room", "path", "found", "j", "window"] ["told", "clan", "room"] (zg zcn):=#[10]
 walk_at "d"
 . walk_at "m"
 . walk_at "l"
 refine⟨_,(zc (#[9,zbo,3] ["latest"] ["clan"] [1] rfl (zT (osc:=zg zcn) #[3]) rfl (zU (at3 (n3 0) i3 #[4])) (fun H0 s H fp cl=>⟨(zk (i:=0) (show((["latest"]:List PySem.Str)++(["clan"]:List PySem.Str)).Nodup by decide) rfl #[2]),jh,(at3 (n3 0) (n3 1) #[4])⟩))
  (zc (#[9,jB,4] (zy zb))
  (zc (#[9,zj,5] i3)
  (zc (#[9,zj,6] (df3 hE zmE #[7] rfl zq (za (at3 (n3 0) i3 #[4]) (za (n3 3) (za (n3 5) (za (n3 2) zb))))))
  (zc (zaS WaC (pw3 (ZL (zr Jb (at3 (n3 6) i3 #[4]) (zu zI rfl T.n_len zD (za (n3 3) zb)) (nomark _)) (Z2 (zr zbP (at3 (n3 6) i3 #[4]) non3 (nomark _))))) (zc (jZ (i:=4) rfl #[2] (zx (za (n3 1) (za (n3 5) (za (at3 (n3 6) i3 #[4]) (za (at3 (n3 6) i3 #[4]) zb))))))
   (zc (#[9,zf7,5] i3)
   (ze (#[9,zj,6] (df3 hE zmE #[7] rfl zq (za (at3 (n3 0) i3 #[4]) (za (n3 3) (za (n3 5) (za (n3 2) zb))))))))))
  (ze (jP [4] (zn (n3 4))))))))),fun ds Q h=>?_⟩
 obtain⟨b,qs,k,room,n,rfl,hb0,hb,hk,h61,h1,hqn,hbd,hr0,hr1,hr80,q⟩:=h;walk_at "s"
 walk_at "rd atI0 atI1"
 refine⟨sz (by rw [YaR];omega),?_⟩
 refine jg dI (fun r=>PyData.int (r.getD k 0)) (fun ρ=>∃ t,ρ = [t,#[5,k]]) qs ?_ _ _ _ _ ⟨none,rfl⟩ ?_
 . rintro r hr ρ fa acc K ⟨t,rfl⟩ kk
   have hg:=Js (xs:=r) (i:=(k:Int)) #[0] (by rw [hqn r hr];omega)
   rw [Int.toNat_natCast] at hg
   walk_at "rd hg"
   exact kk _ ⟨_,rfl⟩
 have hcol:[]++qs.map (fun r=>PyData.int (r.getD k 0))=(zH qs k).map PyData.int:=by unfold zH;rw [List.nil_append,YaD];rfl
 rw [hcol];walk_at "n";have hcl:(zH qs k).length=qs.length:=by unfold zH;rw [YaR]
 have hcb:∀ t,(zH qs k).getD t 0+room.2<=80*b:=fun t=>by
  unfold zH;rw [YaP,Ya0];cases ht:qs[t]? with
  | none=>
   show 0+room.2<=80*b
   omega
  | some r=>exact hbd r (Yah ht)
 have hM:∀ j,Jx qs.length (winB b (zH qs k) room j)->j<=81:=fun j h=>zkg (M:=80) hb0 #[0] hcb hr1 hr0 j (by rw [hcl];exact h)
 walk_at "q"
 walk_at "v"
 walk_at "u"
 walk_at "rd atI0 atI1"
 refine⟨zH qs k,rfl,room,rfl,rfl,#[0],#[0],hb,Bits.lit (x:=1) 64,hN _ ?_⟩
 clear hN N
 walk_at "rd"
 refine⟨_,Zi (fun m ρ=>∃ (ws:List Win) (j:Int),ρ = [some (.sh false (.tuple [.int b,.list (qs.map dI)])),#[5,k],some (.sh false (.tuple [.int room.1,.int room.2])),some (.sh true (.list ((zH qs k).map .int))),some (.ow true (ws.map dW)),#[5,j],some (.sh true (.tuple [.int (winB b (zH qs k) room j).1,dO (winB b (zH qs k) room j).2]))]/\1<=j/\j<=82/\(ws.length:Int)=j - 1/\(∀ us,IsW qs.length k (winB b (zH qs k) room) j us->IsW qs.length k (winB b (zH qs k) room) 1 (ws++us))/\m=(82 - j).toNat) ?_ _ _ ⟨[],1,rfl,#[1],#[1],rfl,fun us h=>h,rfl⟩⟩
 rintro m ρ ⟨ws,j,rfl,hj1,hj2,hlen,hpre,rfl⟩ W hW
 walk_at "rd atI0 atI1"
 rw [YaR,hcl];have step:Jx qs.length (winB b (zH qs k) room j)->W [some (.sh false (.tuple [.int b,.list (qs.map dI)])),#[5,k],some (.sh false (.tuple [.int room.1,.int room.2])),some (.sh true (.list ((zH qs k).map .int))),some (.ow true (ws.map dW++[.tuple [.int k,.int j,.int (winB b (zH qs k) room j).1,dO (winB b (zH qs k) room j).2]])),#[5,j+1],some (.sh true (.tuple [.int (winB b (zH qs k) room (j+1)).1,dO (winB b (zH qs k) room (j+1)).2]))]:=fun ht=>by
  have hj:=hM j ht;refine hW (82 - (j+1)).toNat _ #[0] ⟨ws++[((k:Int),j,(winB b (zH qs k) room j).1,(winB b (zH qs k) room j).2)],j+1,by rw [Ya2];rfl,#[0],#[0],by rw [YaS];simp;omega,fun us h=>?_,rfl⟩
  have:=hpre (((k:Int),j,(winB b (zH qs k) room j).1,(winB b (zH qs k) room j).2)::us) ⟨ht,rfl,h⟩
  simpa using this
 have hsz:(List.map dW ws).length<sizeLine:=YaU (show _<1000 by rw [YaR];omega) #[1]
 have hbj:Bits 64 (j+1):=Bits.lit (x:=j+1) 64 #[0]
 by_cases ho:(winB b (zH qs k) room j).1<(qs.length:Int)
 . rw [if_pos ho]
   exact⟨hsz,_,rfl,room,rfl,rfl,#[0],#[0],hb,hbj,step (.inl ho)⟩
 . rw [if_neg ho]
   change if isNone (Cl.sh true (dO (winB b (zH qs k) room j).2))=false then _ else _
   rw [zkR]
   by_cases hs:(winB b (zH qs k) room j).2=none
   . rw [if_neg (by rw [hs];decide)]
     have:=hpre [] (fun z=>z.elim ho fun y=>y hs)
     rw [Yao] at this;exact q ws this #[0]
   . rw [if_pos (by cases h:(winB b (zH qs k) room j).2 with|none=>exact absurd h hs|some i=>rfl)]
     exact⟨hsz,_,rfl,room,rfl,rfl,#[0],#[0],hb,hbj,step (.inr hs)⟩
theorem zlf(T:Txt c K mg):#[8,dd_windows_within]:=by
 have zmF:#[8,dd_windows_of_clan]:=zhg T;obtain⟨f,fd,F,hm⟩:=T.d_windows_within;have S:FnScope ["told", "rooms", "found", "clan", "room"] ["told", "rooms"] (zg zef):=#[10]
 walk_at "d"
 . walk_at "m"
 . walk_at "l"
 refine⟨_,(zc (#[9,jB,2] (zy zb))
  (zc (zM WaC rfl (zbr rfl T.n_enumerate (za (n3 1) zb)) (jb (n:=2) rfl (zA #[9,zk,3] (zA #[9,zk,4] je))) (ze (zg5 (i:=2) rfl #[2] (df3 hE zmF #[7] rfl zq (za (n3 0) (za (n3 3) (za (n3 4) zb)))))))
  (ze (jP [2] (zn (n3 2)))))),fun ds Q h=>?_⟩
 obtain⟨b,qs,rooms,n,rfl,hb0,hb,hrl,hn8,h61,h1,hqn,hq60,hrm,q⟩:=h
 walk_at "rd"
 have he:jN (rooms.map jL)=(List.range n).map fun i=>PyData.tuple [PyData.int (i:Nat),jL (rooms.getD i (0,0))]:=by
  unfold jN;rw [YaR,hrl]
  apply Yat
  intro i hi;have:=Yba.mp hi;rw [YaP,Ya0,YaP,YaQ #[0]];rfl
 rw [he];refine zcf (fun k ρ=>∃ (W:List (List Win)) (t u:Option L3.Cl),ρ = [some (.sh false (.tuple [.int b,.list (qs.map dI)])),some (.sh false (.list (rooms.map jL))),some (.ow true (W.flatten.map dW)),t,u]/\W.length=k/\(∀ i,i<k->IsW qs.length i (winB b (zH qs i) (rooms.getD i (0,0))) 1 (W.getD i []))/\W.flatten.length<=200*k) ?_ ?_ ⟨[],none,none,rfl,rfl,fun i h=>absurd h #[0],by simp⟩
 . rintro k ρ hk ⟨W,t,u,rfl,hWl,hWi,hWf⟩ W' hW'
   have hrk:=hrm (rooms.getD k (0,0)) (by rw [YaP,YaQ #[0]];exact Ya4 _)
   have hbd:∀ r∈qs,r.getD k 0+(rooms.getD k (0,0)).2<=80*b:=fun r hr=>by
    have h1:=hq60 r hr (r.getD k 0) (by
     rw [YaP,YaQ (by rw [hqn r hr];exact hk)];exact Ya4 _)
    omega
   walk_at "rd"
   refine⟨qs,rfl,k,rfl,rooms.getD k (0,0),rfl,rfl,hb0,hb,n,hk,h61,h1,hqn,hbd,hrk.1,hrk.2.1,#[0],fun ws hws hwl=>⟨sz (by rw [YaR,YaR];omega),?_⟩⟩
   have ef:(W++[ws]).flatten=W.flatten++ws:=by rw [List.flatten_append];simp
   rw [<-Ya2,<-ef];refine hW' _ ⟨W++[ws],_,_,rfl,by simp [hWl],fun i hi=>?_,by rw [ef,YaS];omega⟩
   by_cases e:i=k
   . subst e
     have g1:(W++[ws]).getD i []=ws:=by rw [<-hWl];simp
     rw [g1];exact hws
   . have g2:(W++[ws]).getD i []=W.getD i []:=by
      have hlt:i<W.length:=#[0]
      simp [Yab hlt]
     rw [g2];exact hWi i #[0]
 . rintro ρ ⟨W,t,u,rfl,hWl,hWi,hWf⟩
   walk_at "rd"
   exact q W hWl hWi #[0]
theorem zjv(T:Txt c K mg):#[8,dd_check_turn c]:=by
 obtain⟨f,fd,F,hm⟩:=T.d_check_turn;have S:FnScope ["turn", "turns"] ["turn", "turns"] (zg zfQ):=#[10]
 walk_at "d"
 . walk_at "m"
 . walk_at "l"
 refine⟨_,(ze (s_if (JF (zab Jp Jp i3 (n3 0) (n3 1))) (ze (ju hE jq rfl rfl T.m_NoRule T.e_NoRule (za s3 zb))) zo)),fun ds Q h=>?_⟩
 obtain⟨t,T',rfl,q,hE'⟩:=h
 walk_at "rd"
 by_cases h1:1<=t
 . rw [if_pos h1]
   exact ite2 (fun z=>hE' fun y=>z y.2) fun z=>q ⟨h1,Decidable.not_not.mp z⟩
 . rw [if_neg h1]
   exact hE' fun y=>h1 y.1
theorem zhO(T:Txt c K mg):#[8,dd_check_rules c]:=by
 have zl6:#[8,dd_check_turn c]:=zjv T;obtain⟨f,fd,F,hm⟩:=T.d_check_rules;have S:FnScope ["rules", "turns", "clans", "word", "turn", "clan"] ["rules", "turns", "clans"] (zg zfI):=#[10]
 walk_at "d"
 . walk_at "m"
 . walk_at "l"
 refine⟨_,(ze (zM WaC rfl (zU (n3 0)) (jb (n:=3) rfl (zA #[9,zk,3] (zA #[9,zk,4] (zA #[9,zk,5] je)))) (zc (s_if (zr (ziO (hu65 hr)) (n3 3) (zx (za (g3s rfl T.m_FIXED) (za (g3s rfl T.m_BARRED) zb))) (by with_unfolding_all rfl)) (ze (ju hE jq rfl rfl T.m_NoRule T.e_NoRule (za s3 zb))) zo)
  (zc (J4 (df3 hE zl6 #[7] rfl zq (za (n3 4) (za (n3 1) zb))))
  (ze (s_if (JF (zab Jp Jb i3 (n3 5) (n3 2))) (ze (ju hE jq rfl rfl T.m_NoRule T.e_NoRule (za s3 zb))) zo)))))),fun ds Q h=>?_⟩
 obtain⟨rs,T',n,rfl,htx,q,hE'⟩:=h
 walk_at "rd"
 refine jR dRl rs (fun done ρ=>∃ t3 t4 t5:Option L3.Cl,ρ = [some (.sh false (.list (rs.map dRl))),#[5,T'],#[5,n],t3,t4,t5]/\okRs T' n done) ?_ ?_ ⟨none,none,none,rfl,fun r h=>by cases h⟩
 . rintro done r rest ρ hd ⟨t3,t4,t5,rfl,hok⟩ W hW
   have hr:r∈rs:=by rw [hd];simp
   walk_at "rd"
   refine⟨htx r hr,zhR,ite2 (fun z=>hE' fun y=>(ze7 _).mp z (y r hr).1) fun z=>⟨fun h1=>?_,fun h1=>hE' fun y=>h1 (y r hr).2.1⟩⟩
   by_cases h2:0<=r.2.2
   . rw [if_pos h2]
     refine ite2 (fun h3=>hE' fun y=>h3 (y r hr).2.2.2) fun h3=>hW _ ⟨_,_,_,rfl,fun x hx=>?_⟩
     rcases Ya3.mp hx with y|y
     . exact hok x y
     . rw [Ya6.mp y]
       exact⟨Decidable.not_not.mp fun y=>z ((ze7 _).mpr y),h1,h2,Decidable.not_not.mp h3⟩
   . rw [if_neg h2]
     exact hE' fun y=>h2 (y r hr).2.2.1
 . rintro ρ ⟨t3,t4,t5,rfl,hok⟩
   exact q hok
theorem zk4(T:Txt c K mg):#[8,dd_forbidden]:=by
 obtain⟨f,fd,F,hm⟩:=T.d_forbidden;have S:FnScope ["rules", "clans", "found", "word", "turn", "clan", "other"] ["rules", "clans"] (zg zeT):=#[10]
 refine⟨fun ds Q Q' hQ h=>?_,⟨f,fd,fnC [] F S (fun ds Q h=>?_) (fun cdv A outer s H H0 E E3 hE hr=>?_),F.binds fun _ _ _ _ _ _ us hl=>by obtain⟨_,_,rfl⟩:=ZK hl;rfl,F.kp,hm⟩⟩
 . walk_at "m"
 . obtain⟨_,_,rfl,_⟩:=h;exact⟨rfl,by simp [jt]⟩
 refine⟨_,(zc #[9,zkv,2]
  (zc (zM WaC rfl (zU (n3 0)) (jb (n:=3) rfl (zA #[9,zk,3] (zA #[9,zk,4] (zA #[9,zk,5] je)))) (ze (zM WaC rfl (jj rfl T.n_range (za (n3 1) zb)) #[9,zk,6] (ze (s_if (zr (zO hr.units) (cmp3 (zO hr.units) (n3 6) (n3 5) (nomark _)) (cmp3 (zO hr.units) (n3 3) (g3s rfl T.m_BARRED) (nomark _)) (nomark _)) (ze (zik (i:=2) (ja hr) rfl #[2] (n3 4) (n3 6) b3)) zo)))))
  (ze (zlp (i:=2) rfl #[2])))),fun ds Q h=>?_⟩
 obtain⟨rs,n,rfl,h8,hl,q⟩:=h;walk_at "q"
 walk_at "n";refine z7 (fun ρ=>∃ (ds:List (List Key×D)) (t3 t4 t5 t6:Option L3.Cl),ρ = [some (.sh false (.list (rs.map dRl))),#[5,n],some (.dt ds),t3,t4,t5,t6]/\(ds.all fun p=>zw p.2)=true) (fun N hN=>?_) ?_
 . walk_at "rd"
   refine jR dRl rs (fun done ρ=>∃ (ds:List (List Key×D)) (t3 t4 t5 t6:Option L3.Cl),ρ = [some (.sh false (.list (rs.map dRl))),#[5,n],some (.dt ds),t3,t4,t5,t6]/\(ds.all fun p=>zw p.2)=true/\ds.length<=8*done.length) ?_ (fun ρ ⟨ds,t3,t4,t5,t6,e,h1,_⟩=>hN _ ⟨ds,t3,t4,t5,t6,e,h1⟩) ⟨[],none,none,none,none,rfl,rfl,Wa9 _⟩
   rintro done r rest ρ hd ⟨ds,t3,t4,t5,t6,rfl,hs,hdl⟩ W hW
   have hdn:done.length<rs.length:=by rw [hd,YaS,List.length_cons];omega
   walk_at "rd"
   refine⟨#[0],#[0],?_⟩
   rw [Int.toNat_natCast];refine jx (fun j ρ=>∃ (ds:List (List Key×D)) (t6:Option L3.Cl),ρ = [some (.sh false (.list (rs.map dRl))),#[5,n],some (.dt ds),some (.sh true (.str r.1)),#[5,r.2.1],#[5,r.2.2],t6]/\(ds.all fun p=>zw p.2)=true/\ds.length<=8*done.length+j) ?_ ?_ ⟨ds,_,rfl,hs,hdl⟩
   . rintro j ρ hj ⟨ds,t6,rfl,hs,hdl⟩ V hV
     walk_at "rd"
     refine⟨by rfl,by rfl,ite2 (fun _=>⟨YaU (show _<1000000 by omega) #[1],hV _ ⟨_,_,rfl,zju hs rfl,?_⟩⟩) fun _=>hV _ ⟨_,_,rfl,hs,#[0]⟩⟩
     have:=zkn ds (kk r.2.1 (0+(j:Int))) (.bool true)
     omega
   . rintro ρ ⟨ds,t6,rfl,hs,hdl⟩
     refine hW _ ⟨ds,_,_,_,_,rfl,hs,?_⟩
     rw [YaS,List.length_singleton]
     omega
 rintro ρ ⟨ds,t3,t4,t5,t6,rfl,hs⟩
 walk_at "rd"
 exact q ds hs
theorem zja(T:Txt c K mg):#[8,dd_may_come]:=by
 obtain⟨f,fd,F,hm⟩:=T.d_may_come;have S:FnScope ["visit", "turn", "barred"] ["visit", "turn", "barred"] (zg zdH):=#[10]
 refine⟨fun ds Q Q' hQ h=>?_,⟨f,fd,fnC [] F S (fun ds Q h=>?_) (fun cdv A outer s H H0 E E3 hE hr=>?_),F.binds fun _ _ _ _ _ _ us hl=>by obtain⟨_,_,_,rfl⟩:=ZZ hl;rfl,F.kp,hm⟩⟩
 . walk_at "m"
 . obtain⟨_,_,_,rfl,hs,_⟩:=h;exact⟨rfl,by simpa [jt] using hs⟩
 refine⟨_,(zc (s_if (pw3 (ZL (zr Jb (n3 1) (at3 (n3 0) i3 #[4]) (nomark _)) (Z2 (pw3 (zdO (zr zbP (at3 (n3 0) i3 #[4]) non3 (nomark _)) (zfv (zr Z9 (n3 1) (at3 (n3 0) i3 #[4]) (nomark _)))))))) (ze (zbs b3)) zo)
  (ze (zbs (zhh (i:=2) (ja hr) rfl #[2] (n3 1) (at3 (n3 0) i3 #[4]))))),fun ds Q h=>?_⟩
 obtain⟨⟨vc,vj,vo,vl⟩,t,ds,rfl,hs,q⟩:=h;cases vl with
 | none=>
  walk_at "rd dO"
  exact ite2 (fun _=>q _) fun _=>q _
 | some e=>
  walk_at "rd dO"
  exact ite2 (fun _=>q _) fun _=>ite2 (fun _=>q _) fun _=>q _
theorem zhf(T:Txt c K mg):#[8,dd_choices_of_turns c]:=by
 have zl4:#[8,dd_check_rules c]:=zhO T;have zmd:#[8,dd_forbidden]:=zk4 T;have zmu:#[8,dd_may_come]:=zja T;obtain⟨f,fd,F,hm⟩:=T.d_choices_of_turns;have S:FnScope ["told", "visits", "rules", "turns", "clans", "barred", "found", "turn"] ["told", "visits", "rules"] (zg zcq):=#[10]
 walk_at "d"
 . walk_at "m"
 . walk_at "l"
 refine⟨_,(zc (#[9,zj,3] (op3 jC (zu zI rfl T.n_len zD (za (at3 (n3 0) i3 #[4]) zb)) i3))
  (zc (#[9,zj,4] (zu zI rfl T.n_len zD (za (at3 (at3 (n3 0) i3 #[4]) i3 #[4]) zb)))
  (zc (J4 (df3 hE zl4 #[7] rfl zq (za (n3 2) (za (n3 3) (za (n3 4) zb)))))
  (zc (zdi (i:=5) [] #[1] S.nd rfl #[2] zmd #[7] rfl zq (za (n3 2) (za (n3 4) zb)))
  (zc (#[9,jB,6] (zy zb))
  (zc (zlS 5 (zM WaC rfl (zbM rfl T.n_range (za i3 (za (op3 zC (n3 3) i3) zb))) #[9,zk,7] (ze (jZ (i:=6) rfl #[2] (new3 (jo ["place", "visit"] ["turn", "barred"] [7,5] rfl (zT (osc:=zg zcq) #[3]) rfl (zbr rfl T.n_enumerate (za (n3 1) zb)) (fun H0 s H fp cl=>⟨(jb (n:=2) rfl (zA (zk (i:=0) (show((["place", "visit"]:List PySem.Str)++(["turn", "barred"]:List PySem.Str)).Nodup by decide) rfl #[2]) (zA (zk (i:=1) (show((["place", "visit"]:List PySem.Str)++(["turn", "barred"]:List PySem.Str)).Nodup by decide) rfl #[2]) je))),(zjQ (val3 (dfX (E:=fun _ _ _=>False) zmu #[7] rfl jG (za (n3 1) (za (n3 2) (za (n3 3) zb)))))),(n3 0)⟩)))))))
  (ze (jP [6] (zn (n3 6)))))))))),fun ds Q h=>?_⟩
 obtain⟨b,qs,V,rs,n,T',rfl,hq,hT,hn,h8,hV,hrl,htx,q,hE'⟩:=h;have hd0:atI (qs.map dI) 0=some (PyData.list ((qs[0]'(by omega)).map PyData.int)):=JQ (i:=0) #[0]
 have h0n:(qs[0]'(by omega)).length=n:=hn _ (Ya4 _)
 have et:((qs.length:Int) - 1)=(T':Int):=#[0]
 walk_at "s"
 walk_at "rd YaR et"
 walk_at "u"
 walk_at "rd hd0 YaR h0n"
 walk_at "v"
 refine⟨rs,rfl,htx,fun hok=>hN _ ?_,hE'⟩
 walk_at "w"
 refine⟨rs,rfl,n,rfl,h8,hrl,fun ds hds=>hN _ ?_⟩
 walk_at "w"
 walk_at "n";refine z7 (fun ρ=>∃ (ch:List (List Int)) (t7:Option L3.Cl), ρ = [some (.sh false (.tuple [.int b,.list (qs.map dI)])),some (.sh false (.list (V.map dW))),some (.sh false (.list (rs.map dRl))),#[5,T'],#[5,n],some (.fd ds),some (.ow true (ch.map dI)),t7]/\ch.length=T'/\∀ row∈ch,row.length<=2000/\row.Nodup/\∀ x∈row,InR x V.length) (fun N hN=>?_) ?_
 . walk_at "rd"
   refine⟨#[1],#[1],#[0],#[0],?_⟩
   rw [show((T':Int)+1 - 1).toNat=T' by omega]
   refine jx (fun k ρ=>∃ (ch:List (List Int)) (t7:Option L3.Cl), ρ = [some (.sh false (.tuple [.int b,.list (qs.map dI)])),some (.sh false (.list (V.map dW))),some (.sh false (.list (rs.map dRl))),#[5,T'],#[5,n],some (.fd ds),some (.ow true (ch.map dI)),t7]/\ch.length=k/\∀ row∈ch,row.length<=2000/\row.Nodup/\∀ x∈row,InR x V.length) ?_ (fun ρ h=>hN ρ h) ⟨[],_,rfl,rfl,fun row h=>by cases h⟩
   rintro k ρ hk ⟨ch,t7,rfl,hcl,hrow⟩ W hW
   walk_at "rd"
   rw [zd9];refine⟨sz (by rw [YaR,YaG];omega),?_⟩
   refine zcN (fun i:Nat=>PyData.tuple [PyData.int (i:Nat),dW (V.getD i (0,0,0,none))]) (fun i:Nat=>PyData.int (i:Nat)) (fun ρ=>∃ t0 t1,ρ = [t0,t1,#[5,(1+(k:Int))],some (.fd ds)]) (List.range V.length) ?_ _ _ _ _ ⟨none,none,rfl⟩ fun ys hys=>?_
   . rintro i hi ρ fa acc K ⟨t0,t1,rfl⟩ k1 k2
     walk_at "rd"
     exact⟨hds,_,rfl,rfl,rfl,rfl,hds,fun b=>ite2 (fun _=>k1 _ ⟨_,_,rfl⟩) fun _=>k2 _ ⟨_,_,rfl⟩⟩
   . have hm:ys.map (fun i:Nat=>PyData.int (i:Nat))=(ys.map fun i:Nat=>(i:Int)).map PyData.int:=by rw [YaD];rfl
     have hyl:=hys.length_le;rw [YaG] at hyl;rw [List.nil_append,hm];refine⟨YaU (show _<1000 by rw [YaR];omega) #[1],hW _ ⟨ch++[ys.map fun i:Nat=>(i:Int)],_,by rw [Ya2];rfl,by simp [hcl],fun row hr=>?_⟩⟩
     rcases Ya3.mp hr with z|z
     . exact hrow row z
     . rw [Ya6.mp z]
       refine⟨by rw [YaR];omega,zkK (hys.nodup List.nodup_range),fun x hx=>?_⟩
       obtain⟨i,hi,rfl⟩:=Ya7.mp hx;have:=Yba.mp (hys.subset hi);exact⟨#[0],#[0]⟩
 rintro ρ ⟨ch,t7,rfl,hcl,hrow⟩
 walk_at "rd"
 exact q hok ch hcl hrow
theorem zjd(T:Txt c K mg):#[8,dd_check_row c]:=by
 obtain⟨f,fd,F,hm⟩:=T.d_check_row;have S:FnScope ["row", "turns", "clans", "clan"] ["row", "turns", "clans"] (zg zet):=#[10]
 walk_at "d"
 . walk_at "m"
 . walk_at "l"
 refine⟨_,(zc (s_if (zr (JK hr.units) (zu zI rfl T.n_len zD (za (n3 0) zb)) (n3 1) (nomark _)) (ze (ju hE jq rfl rfl T.m_NoRow T.e_NoRow (za s3 zb))) zo)
  (ze (zM WaC rfl (zU (n3 0)) #[9,zk,3] (ze (s_if (JF (zab Jp Jb i3 (n3 3) (n3 2))) (ze (ju hE jq rfl rfl T.m_NoRow T.e_NoRow (za s3 zb))) zo))))),fun ds Q h=>?_⟩
 obtain⟨row,T',n,rfl,q,hE'⟩:=h
 walk_at "rd"
 rw [YaR]
 by_cases h1:(row.length:Int)=T'
 case neg=>rw [if_pos h1];exact hE' fun z=>h1 (by rw [z.1])
 rw [if_neg (fun z=>z h1)]
 refine jR PyData.int row (fun done ρ=>∃ t,ρ = [some (.sh false (.list (row.map .int))),#[5,T'],#[5,n],t]/\∀ x∈done,0<=x/\x<(n:Int)) ?_ ?_ ⟨none,rfl,fun x h=>by cases h⟩
 . rintro done x rest ρ hd ⟨t,rfl,hall⟩ W hW
   have hx:x∈row:=by rw [hd];simp
   walk_at "rd"
   by_cases h2:0<=x
   case neg=>rw [if_neg h2];exact hE' fun z=>h2 (z.2 x hx).1
   rw [if_pos h2]
   by_cases h3:x<(n:Int)
   case neg=>rw [if_pos h3];exact hE' fun z=>h3 (z.2 x hx).2
   rw [if_neg (fun z=>z h3)]
   exact hW _ ⟨_,rfl,fun y hy=>by
    rcases Ya3.mp hy with z|z
    . exact hall y z
    . rw [Ya6.mp z];exact⟨h2,h3⟩⟩
 . rintro ρ ⟨t,rfl,hall⟩
   exact q ⟨#[0],hall⟩
theorem zgR(T:Txt c K mg):#[8,dd_choices_of_visits]:=by
 obtain⟨f,fd,F,hm⟩:=T.d_choices_of_visits;have S:FnScope ["visits", "choices", "found", "turn", "places", "place"] ["visits", "choices"] (zg zdv):=#[10]
 walk_at "d"
 . walk_at "m"
 . walk_at "l"
 refine⟨_,(zc (#[9,ze5,2] ["visit"] [] [] rfl (zT (osc:=zg zdv) #[3]) rfl (zU (n3 0)) (fun s H fp cl=>⟨jp (i:=0) (show((["visit"]:List PySem.Str)++([]:List PySem.Str)).Nodup by decide) rfl #[2] (by first|exact .inl rfl|exact .inr rfl),zbX zF⟩) (fun σ H Q h=>⟨show 0<=sizeLine by decide,h⟩) (fun G=>RdVs.nil) rfl)
  (zc (zM WaC rfl (zbr rfl T.n_enumerate (za (n3 1) zb)) (jb (n:=2) rfl (zA #[9,zk,3] (zA #[9,zk,4] je))) (ze (zM WaC rfl (zU (n3 4)) #[9,zk,5] (ze (zlg (i:=2) rfl #[2] (n3 5) (n3 3) #[4])))))
  (ze (jP [2] (zn (n3 2)))))),fun ds Q h=>?_⟩
 obtain⟨V,ch,rfl,hV,hT,hrow,q⟩:=h;walk_at "s"
 walk_at "rd YaR"
 refine⟨#[0],fun ps hps=>hN _ ?_⟩
 clear hN N;have e0:List.replicate V.length ([]:List D)=(List.replicate V.length ([]:List Int)).map fun r=>r.map PyData.int:=by rw [Yaz];rfl
 rw [e0];refine z7 (fun ρ=>∃ (tv:List (List Int)) (t3 t4 t5:Option L3.Cl),ρ = [some (.sh false (.list (V.map dW))),some (.sh false (.list (ch.map dI))),some (.tr ps (tv.map fun r=>r.map PyData.int)),t3,t4,t5]/\tv.length=V.length/\(∀ row∈tv,∀ x∈row,InR x ch.length)/\TvOk V.length ch ch.length [] tv) (fun N hN=>?_) ?_
 . walk_at "rd"
   rw [zkE];refine zcf (fun k ρ=>∃ (tv:List (List Int)) (t3 t4 t5:Option L3.Cl),ρ = [some (.sh false (.list (V.map dW))),some (.sh false (.list (ch.map dI))),some (.tr ps (tv.map fun r=>r.map PyData.int)),t3,t4,t5]/\tv.length=V.length/\(∀ row∈tv,∀ x∈row,InR x ch.length)/\(∀ row∈tv,row.length<=2000*k)/\TvOk V.length ch k [] tv) ?_ (fun ρ ⟨tv,t3,t4,t5,e,h1,h2,_,h3⟩=>hN ρ ⟨tv,t3,t4,t5,e,h1,h2,h3⟩) ⟨List.replicate V.length [],none,none,none,rfl,by simp,fun row h x hx=>(by rw [Wag h] at hx;cases hx),fun row h=>(by rw [Wag h];exact Wa9 _),TvOk.nil _ _⟩
   rintro k ρ hk ⟨tv,t3,t4,t5,rfl,hl,hin,hlen,htv⟩ W hW
   obtain⟨r1,r2⟩:=hrow (ch.getD k []) (zeR hk);generalize hrw:ch.getD k []=row at r1 r2
   walk_at "rd"
   refine jR PyData.int row (fun done ρ=>∃ (tv:List (List Int)) (t5:Option L3.Cl),ρ = [some (.sh false (.list (V.map dW))),some (.sh false (.list (ch.map dI))),some (.tr ps (tv.map fun r=>r.map PyData.int)),#[5,(k:Int)],some (.sh false (.list (row.map .int))),t5]/\tv.length=V.length/\(∀ row∈tv,∀ x∈row,InR x ch.length)/\(∀ row∈tv,row.length<=2000*k+done.length)/\TvOk V.length ch k done tv) ?_ ?_ ⟨tv,_,rfl,hl,hin,hlen,htv⟩
   . rintro done x rest ρ hd ⟨tv,t5,rfl,hl,hin,hlen,htv⟩ V' hV'
     have hx:InR x tv.length:=by rw [hl];exact r2 x (by rw [hd];simp)
     have hdn:done.length<row.length:=by rw [hd,YaS,List.length_cons];omega
     obtain⟨a1,a2⟩:=zbt (d:=[]) hx;have a3:=hin _ a2;have a4:=hlen _ a2;generalize hrv:tv.getD x.toNat []=rw_ at a1 a2 a3 a4;have b1:atI (tv.map fun r=>r.map PyData.int) x=some (rw_.map PyData.int):=by rw [j4,a1];rfl
     have b2:ixN (tv.map fun r=>r.map PyData.int).length x=some x.toNat:=Jv hx.1 (by rw [YaR];exact hx.2)
     walk_at "rd"
     refine⟨_,b1,_,b2,YaU (show _<1000000 by rw [YaR];omega) #[1],hV' _ ⟨tv.set x.toNat (rw_++[(k:Int)]),_,by rw [Wa8,Ya2];rfl,by rw [YaN];exact hl,fun r hr y hy=>?_,fun r hr=>?_,hrv ▸ htv.step hx hl⟩⟩
     . rcases Wad hr with z|z
       . exact hin r z y hy
       . rw [z] at hy
         rcases Ya3.mp hy with w|w
         . exact a3 y w
         . rw [Ya6.mp w];exact⟨#[0],#[0]⟩
     . rw [YaS,List.length_singleton]
       rcases Wad hr with z|z
       . have:=hlen r z;omega
       . rw [z,YaS,List.length_singleton];omega
   . rintro ρ ⟨tv,t5,rfl,hl,hin,hlen,htv⟩
     exact hW _ ⟨tv,_,_,_,rfl,hl,hin,fun r hr=>(by have:=hlen r hr;omega),htv.whole hrw⟩
 rintro ρ ⟨tv,t3,t4,t5,rfl,hl,hin,htv⟩
 walk_at "rd"
 have:=q tv hl hin htv.fin;rw [YaD];exact this
theorem zj2(T:Txt c K mg):#[8,dd_move_along]:=by
 obtain⟨f,fd,F,hm⟩:=T.d_move_along;have S:FnScope ["choice", "came", "taken", "holders", "taker", "former"] ["choice", "came", "taken", "holders"] (zg zbA):=#[10]
 refine⟨fun ds Q Q' hQ h=>?_,⟨f,fd,fnC [1,2,3] F S (fun ds Q h=>?_) (fun cdv A outer s H H0 E E3 hE hr=>?_),F.binds fun _ _ _ _ _ _ us hl=>by obtain⟨_,_,_,_,rfl⟩:=Za hl;rfl,F.kp,hm⟩⟩
 . walk_at "m"
 . obtain⟨_,_,_,_,_,_,_,_,_,_,_,_,_,rfl,_⟩:=h;exact⟨rfl,by simp [jt]⟩
 refine⟨_,(ze (zaS WaC (zr zbP (n3 0) non3 (nomark _)) (zc (#[9,zj,4] (zb5 (i:=1) (ja hr) rfl #[2] (n3 0)))
  (zc (#[9,zj,5] (zie (i:=2) (ja hr) rfl #[2] (n3 4)))
  (zc (zcb (i:=2) (ja hr) rfl #[2] (n3 4) (n3 0))
  (zc (zcb (i:=3) (ja hr) rfl #[2] (n3 0) (n3 4))
  (ze (#[9,zj,0] (n3 5))))))))),fun ds Q h=>?_⟩
 obtain⟨x,a1,a2,a3,ca,t,h,r,start,A',B',m,Ed,rfl,hw,ho,hA,hB,q⟩:=h
 walk_at "rd"
 refine⟨_,Zi (fun k ρ=>(∃ (x:Int) (t' h':Tb) (t4 t5:Option L3.Cl) (j:Nat),ρ = [#[5,x],some (.dm a1 ca),some (.dm a2 t'),some (.dm a3 h'),t4,t5]/\OnWay Ed ca t h t' h' r x A' B' j/\k=j+1)\/∃ (t' h':Tb) (t4 t5:Option L3.Cl),ρ = [some (.sh true .none),some (.dm a1 ca),some (.dm a2 t'),some (.dm a3 h'),t4,t5]/\Moved Ed t h t' h' start A' B') ?_ _ _ (.inl ⟨x,t,h,_,_,m,rfl,ho,rfl⟩)⟩
 rintro k ρ (⟨x,t',h',t4,t5,j,rfl,ho,rfl⟩|⟨t',h',t4,t5,rfl,hm⟩) W hW
 . obtain⟨s,hs,_⟩:=ho.came
   obtain⟨st1,st2⟩:=ho.step hw hs;have l1:=ho.ot.len;have l2:=ho.oh.len;refine zde fun Y N' hY hN'=>?_
   walk_at "rd"
   refine hY ?_
   clear hY hN' Y N';walk_at "s"
   walk_at "rd hs"
   walk_at "v"
   walk_at "v"
   refine⟨YaU (show _<1000000 by omega) #[1],hN _ ?_⟩
   walk_at "w"
   refine⟨YaU (show _<1000000 by omega) #[1],hN _ ?_⟩
   clear hN N;cases e:getM t' s with
   | none=>
    walk_at "rd optI"
    exact hW 0 _ #[0] (.inr ⟨_,_,_,_,rfl,st1 e⟩)
   | some c'=>
    obtain⟨m',hm',o'⟩:=st2 c' e
    walk_at "rd optI"
    exact hW (m'+1) _ #[0] (.inl ⟨c',_,_,_,_,m',rfl,o',rfl⟩)
 . refine zde fun Y N' hY hN'=>?_
   walk_at "rd"
   refine hN' ?_
   walk_at "rd"
   exact q t' h' hm
theorem zhW(T:Txt c K mg):#[8,dd_settle]:=by
 have zmx:#[8,dd_move_along]:=zj2 T;obtain⟨f,fd,F,hm⟩:=T.d_settle;have S:FnScope ["start", "choices", "taken", "holders", "reached", "came", "place", "seeker", "choice"] ["start", "choices", "taken", "holders"] (zg zfj):=#[10]
 refine⟨fun ds Q Q' hQ h=>?_,⟨f,fd,fnC [2,3] F S (fun ds Q h=>?_) (fun cdv A outer s H H0 E E3 hE hr=>?_),F.binds fun _ _ _ _ _ _ us hl=>by obtain⟨_,_,_,_,rfl⟩:=Za hl;rfl,F.kp,hm⟩⟩
 . walk_at "m"
 . obtain⟨_,_,_,_,_,_,_,_,rfl,_⟩:=h;exact⟨rfl,by simp [jt]⟩
 refine⟨_,(zc (#[9,jB,4] (zy (za (n3 0) zb)))
  (zc #[9,zdw,5]
  (zc (#[9,zj,6] i3)
  (zc (zaS WaC (zr Jb (n3 6) (zu zI rfl T.n_len zD (za (n3 4) zb)) (nomark _)) (zc (#[9,zj,7] (at3 (n3 4) (n3 6) #[4]))
   (zc (zM WaC rfl (zU (at3 (n3 1) (n3 7) #[4])) #[9,zk,8] (ze (s_if (zco (i:=5) (ja hr) rfl #[2] (n3 8)) (zc (zcb (i:=5) (ja hr) rfl #[2] (n3 8) (n3 7))
    (zc (s_if (zco (i:=3) (ja hr) rfl #[2] (n3 8)) (zc (zjs [5,2,3] #[1] zmx #[7] rfl zq (za (n3 8) (za (n3 5) (za (n3 2) (za (n3 3) zb)))))
     (ze (zbs (new3 (zy zb))))) zo)
    (ze (jZ (i:=4) rfl #[2] (zb5 (i:=3) (ja hr) rfl #[2] (n3 8)))))) zo)))
   (ze (#[9,zf7,6] i3)))))
  (ze (zbs (new3 (zkB rfl rfl T.n_sorted (za (n3 4) zb))))))))),fun ds Q h=>?_⟩
 obtain⟨start,ch,a2,a3,t,h,A',B',rfl,hch,hA,hB,h62,hst,hrow,hm,ht,hh,h0,hte,q1,q2⟩:=h;generalize hEd:(fun s c:Int=>c∈ch.getD s.toNat [])=Ed at q1
 have hte:∀ s c,getM t s=some c->Ed s c:=fun s c e=>by rw [<-hEd];exact hte s c e
 walk_at "q"
 walk_at "v"
 refine fun ac=>hN _ ?_
 walk_at "w"
 walk_at "n";refine z7 (fun ρ=>∃ (R:List Int) (ca:Tb) (p:Nat) (t7 t8:Option L3.Cl),ρ = [#[5,start],some (.sh false (.list (ch.map dI))),some (.dm a2 t),some (.dm a3 h),some (.ow true (R.map .int)),some (.dm ac ca),#[5,(p:Int)],t7,t8]/\Rea Ed start t h ca R A' B') (fun N hN=>?_) ?_
 . walk_at "rd"
   refine⟨_,Zi (fun k ρ=>∃ (R:List Int) (ca:Tb) (p:Nat) (t7 t8:Option L3.Cl),ρ = [#[5,start],some (.sh false (.list (ch.map dI))),some (.dm a2 t),some (.dm a3 h),some (.ow true (R.map .int)),some (.dm ac ca),#[5,(p:Int)],t7,t8]/\Rea Ed start t h ca R A' B'/\p<=R.length/\k=A' - p) ?_ _ _ ⟨[start],[],0,_,_,rfl,Rea.start hst,Wa9 _,rfl⟩⟩
   rintro k ρ ⟨R,ca,p,t7,t8,rfl,hR,hp,rfl⟩ W hW
   have hRA:=Zg hR.nd hR.inn;refine zde fun Y N' hY hN'=>?_
   walk_at "rd YaR"
   refine ite2 (fun hlt=>hY ?_) fun hge=>hN' (hN _ ⟨R,ca,p,t7,t8,rfl,hR⟩)
   clear hY hN' Y N';have hlt:p<R.length:=#[0]
   have hsk:atI (R.map PyData.int) (p:Int)=some (PyData.int (R[p]'hlt)):=jd (by rw [Ya0,YaQ hlt];rfl)
   have hsR:R[p]'hlt∈R:=Ya4 _;have hpR:R[p]?=some (R[p]'hlt):=YaQ hlt;generalize R[p]'hlt=s at hsk hsR hpR;refine zi fun N1 hN1=>?_
   walk_at "rd hsk"
   refine hN1 _ ?_
   clear hN1 N1;obtain⟨r1,r2⟩:=zbt (L:=ch) (d:=[]) (hch ▸ hR.inn s hsR);have r1':atI (ch.map dI) s=some (.list ((ch.getD s.toNat []).map .int)):=by rw [j4,r1];rfl
   have r3:=hrow _ r2;have hes:∀ c,c∈ch.getD s.toNat []->Ed s c:=fun c hc=>by rw [<-hEd];exact hc
   generalize hrw:ch.getD s.toNat []=row at r1' r3 hes;refine z7 (fun ρ=>∃ (R:List Int) (ca:Tb) (t8:Option L3.Cl),ρ = [#[5,start],some (.sh false (.list (ch.map dI))),some (.dm a2 t),some (.dm a3 h),some (.ow true (R.map .int)),some (.dm ac ca),#[5,(p:Int)],#[5,s],t8]/\Rea Ed start t h ca R A' B'/\R[p]?=some s) (fun N1 hN1=>?_) ?_
   . walk_at "rd r1'"
     refine jR PyData.int row (fun done ρ=>∃ (R:List Int) (ca:Tb) (t8:Option L3.Cl),ρ = [#[5,start],some (.sh false (.list (ch.map dI))),some (.dm a2 t),some (.dm a3 h),some (.ow true (R.map .int)),some (.dm ac ca),#[5,(p:Int)],#[5,s],t8]/\Rea Ed start t h ca R A' B'/\R[p]?=some s) ?_ (fun ρ h=>hN1 ρ h) ⟨R,ca,_,rfl,hR,hpR⟩
     clear hR hRA hp hlt hsk hsR hpR
     rintro done x rest ρ hd ⟨R,ca,t8,rfl,hR,hpR⟩ V hV
     have hsR:s∈R:=Yah hpR;have hlt:p<R.length:=(Ya8.mp hpR).1;have hex:Ed s x:=hes x (by rw [hd];simp)
     have hx:InR x B':=r3 x (by rw [hd];simp)
     have hRA:=Zg hR.nd hR.inn;have hcl:=hR.oc.len
     walk_at "g"
     refine ZR fun Y N' hY hN'=>?_
     walk_at "rd"
     refine ite2 (fun hn=>hY ?_) fun hn=>hN' (by walk_at "rd";exact hV _ ⟨R,ca,_,rfl,hR,hpR⟩)
     clear hY hN' Y N';have hn:getM ca x=none:=by cases e:getM ca x with|none=>rfl|some _=>rw [e] at hn;cases hn
     refine zi fun N2 hN2=>?_
     walk_at "rd"
     refine⟨YaU (show _<1000000 by omega) #[1],hN2 _ ?_⟩
     clear hN2 N2;refine zi fun N2 hN2=>?_
     refine ZR fun Y N' hY hN'=>?_
     walk_at "rd"
     refine ite2 (fun hf=>hY ?_) fun hf=>hN' ?_
     . clear hY hN' Y N' hN2
       have hf:getM h x=none:=by cases e:getM h x with|none=>rfl|some _=>rw [e] at hf;cases hf
       have hway:=hR.seen h0 hsR hex hx hn;refine zi fun N3 hN3=>?_
       walk_at "rd"
       refine⟨fun y=>R.idxOf y,start,A',B',R.idxOf s,Ed,hway,⟨hte,hm.free hf,ht,hh,⟨s,by rw [zZ,if_pos rfl],rfl⟩,fun _ _=>rfl,fun _=>Iff.rfl,fun _ z=>z⟩,hA,hB,fun t' h' hmv=>hN3 _ ?_⟩
       walk_at "rd"
       exact q1 t' h' hmv
     . have hf:∃ y,getM h x=some y:=by cases e:getM h x with|none=>rw [e] at hf;exact absurd rfl hf|some y=>exact⟨y,rfl⟩
       obtain⟨y,hy⟩:=hf
       walk_at "rd"
       refine hN2 _ ?_
       clear hY hN' Y N' hN2 N2
       walk_at "rd hy YaR"
       refine⟨YaU (show _<1000000 by omega) #[1],hV _ ⟨R++[y],putM ca x s,_,by rw [Ya2];rfl,hR.more hm h0 hsR hex hx hn hy hh,by rw [Yab hlt];exact hpR⟩⟩
   rintro ρ ⟨R',ca',t8',rfl,hR',hpR'⟩
   have hRA':=Zg hR'.nd hR'.inn;have hlt':p<R'.length:=(Ya8.mp hpR').1
   walk_at "rd"
   refine hW (A' - (p+1)) _ #[0] ⟨R',ca',p+1,_,_,rfl,hR',#[0],rfl⟩
 rintro ρ ⟨R,ca,p,t7,t8,rfl,hR⟩
 have hRA:=Zg hR.nd hR.inn;have hcl:=hR.oc.len;have hln:=hR.len
 walk_at "rd"
 refine⟨R,rfl,#[0],fun ms p hpw=>?_⟩
 have hml:=p.length_eq;exact q2 ms (fun z=>by have:=p.mem_iff.mpr (Yah hR.hd);rw [z] at this;cases this) #[0] fun x hx=>hR.inn x (p.mem_iff.mp hx)
theorem zj6(T:Txt c K mg):#[8,dd_place_visits]:=by
 have zl9:#[8,dd_choices_of_visits]:=zgR T;have zmC:#[8,dd_settle]:=zhW T;obtain⟨f,fd,F,hm⟩:=T.d_place_visits;have S:FnScope ["visits", "choices", "turn_of_visit", "visit_of_turn", "turns_for", "place", "visit", "stuck", "turn"] ["visits", "choices"] (zg zac):=#[10]
 walk_at "d"
 . walk_at "m"
 . walk_at "l"
 refine⟨_,(zc #[9,zdw,2]
  (zc #[9,zdw,3]
  (zc (#[9,zj,4] (df3 hE zl9 #[7] rfl zq (za (n3 0) (za (n3 1) zb))))
  (zc (zM WaC rfl (zbr rfl T.n_enumerate (za (n3 0) zb)) (jb (n:=2) rfl (zA #[9,zk,5] (zA #[9,zk,6] je))) (ze (s_if (zr zbP (at3 (n3 6) i3 #[4]) non3 (nomark _)) (zc (zdi (i:=7) [2,3] #[1] S.nd rfl #[2] zmC #[7] rfl zq (za (n3 5) (za (n3 4) (za (n3 2) (za (n3 3) zb)))))
   (ze (s_if (zr Z9 (zu zI rfl T.n_len zD (za (n3 7) zb)) i3 (nomark _)) (ze (zn (zx (za s3 (za (new3 (jo ["other"] ["visits"] [0] rfl (zT (osc:=zg zac) #[3]) rfl (zU (n3 7)) (fun H0 s H fp cl=>⟨(zk (i:=0) (show((["other"]:List PySem.Str)++(["visits"]:List PySem.Str)).Nodup by decide) rfl #[2]),jh,(zx (za (at3 (at3 (n3 1) (n3 0) #[4]) i3 #[4]) (za (at3 (at3 (n3 1) (n3 0) #[4]) i3 #[4]) zb)))⟩))) zb))))) zo))) zo)))
  (zc (zM WaC rfl (jj rfl T.n_range (za (zu zI rfl T.n_len zD (za (n3 1) zb)) zb)) #[9,zk,8] (ze (s_if (zco (i:=3) (ja hr) rfl #[2] (n3 8)) (zc (zdi (i:=7) [3,2] #[1] S.nd rfl #[2] zmC #[7] rfl zq (za (n3 8) (za (n3 1) (za (n3 3) (za (n3 2) zb)))))
   (ze (s_if (zr Z9 (zu zI rfl T.n_len zD (za (n3 7) zb)) i3 (nomark _)) (ze (zn (zx (za s3 (za (new3 (jo ["other"] [] [] rfl (zT (osc:=zg zac) #[3]) rfl (zU (n3 7)) (fun H0 s H fp cl=>⟨(zk (i:=0) (show((["other"]:List PySem.Str)++([]:List PySem.Str)).Nodup by decide) rfl #[2]),jh,(op3 zC (n3 0) i3)⟩))) zb))))) zo))) zo)))
  (ze (zn (zx (za s3 (za (new3 (jo ["turn"] ["visits", "visit_of_turn"] [0,3] rfl (zT (osc:=zg zac) #[3]) rfl (jj rfl T.n_range (za (zu zI rfl T.n_len zD (za (n3 1) zb)) zb)) (fun H0 s H fp cl=>⟨(zk (i:=0) (show((["turn"]:List PySem.Str)++(["visits", "visit_of_turn"]:List PySem.Str)).Nodup by decide) rfl #[2]),jh,(at3 (at3 (n3 1) (zb5 (i:=2) (ja hr) rfl #[2] (n3 0)) #[4]) i3 #[4])⟩))) zb)))))))))),fun ds Q h=>?_⟩
 obtain⟨V,ch,rfl,hV,hT,hrow,q⟩:=h;walk_at "q"
 refine fun a2=>hN _ ?_
 walk_at "w"
 refine fun a3=>hN _ ?_
 walk_at "w"
 refine⟨V,rfl,ch,rfl,hV,hT,hrow,fun tv hvl htv htc=>hN _ ?_⟩
 clear hN N;refine z7 (fun ρ=>∃ (t h:Tb) (t5 t6 t7:Option L3.Cl),ρ = [some (.sh false (.list (V.map dW))),some (.sh false (.list (ch.map dI))),some (.dm a2 t),some (.dm a3 h),some (.sh true (.list (tv.map dI))),t5,t6,t7,none]/\Mat t h/\TbOk t V.length ch.length/\TbOk h ch.length V.length/\∀ s c,getM t s=some c->c∈tv.getD s.toNat []) (fun N hN=>?_) ?_
 . walk_at "rd"
   rw [zd9];refine zcf (fun k ρ=>∃ (t h:Tb) (t5 t6 t7:Option L3.Cl),ρ = [some (.sh false (.list (V.map dW))),some (.sh false (.list (ch.map dI))),some (.dm a2 t),some (.dm a3 h),some (.sh true (.list (tv.map dI))),t5,t6,t7,none]/\Mat t h/\TbOk t V.length ch.length/\TbOk h ch.length V.length/\(∀ s,(getM t s).isSome=true->s<(k:Int))/\∀ s c,getM t s=some c->c∈tv.getD s.toNat []) ?_ (fun ρ ⟨t,h,t5,t6,t7,e,h1,h2,h3,_,h4⟩=>hN ρ ⟨t,h,t5,t6,t7,e,h1,h2,h3,h4⟩) ⟨[],[],none,none,none,rfl,fun s c=>⟨fun z=>(by cases z),fun z=>(by cases z)⟩,TbOk.nil _ _,TbOk.nil _ _,fun s z=>(by cases z),fun s c z=>(by cases z)⟩
   rintro k ρ hk ⟨t,h,t5,t6,t7,rfl,hm,ht,hh,hd,hte⟩ W hW
   generalize V.getD k (0,0,0,none)=v;obtain⟨vc,vj,vo,vl⟩:=v;have h0:getM t (k:Int)=none:=by
    cases e:getM t (k:Int) with
    | none=>rfl
    | some y=>have:=hd (k:Int) (by rw [e];rfl);omega
   have up:∀ s,(getM t s).isSome=true->s<((k+1:Nat):Int):=fun s z=>by have:=hd s z;omega
   refine zgf fun N1 hN1=>?_
   walk_at "rd"
   refine hN1 _ ?_
   clear hN1 N1;refine ZR fun Y N' hY hN'=>?_
   have no:N':=hN' (by
    walk_at "rd"
    refine hW _ ⟨t,h,_,_,_,rfl,hm,ht,hh,up,hte⟩)
   have yes:Y:=by
    refine hY ?_
    clear hY hN' no;refine zi fun N1 hN1=>?_
    walk_at "rd"
    rw [<-hvl] at ht hh;refine⟨tv,rfl,#[0],ch.length,#[0],.inr #[0],⟨#[0],#[0]⟩,htv,hm,ht,hh,h0,hte,fun t' h' hmv=>hN1 _ ?_,fun rs hz h64 hrs=>hN1 _ ?_⟩
    . clear hN1 N1
      walk_at "rd"
      rw [if_neg #[1]]
      refine hW _ ⟨t',h',_,_,_,rfl,hmv.mat,hvl ▸ hmv.ot,hvl ▸ hmv.oh,fun s z=>?_,hmv.ed⟩
      rcases(hmv.dt s).mp z with y|y
      . exact up s y
      . omega
    . clear hN1 N1
      have hz:=List.length_pos_iff.mpr hz
      walk_at "rd YaR"
      rw [if_pos #[0]]
      refine⟨sz #[0],?_⟩
      refine jg PyData.int (fun x=>.tuple [.int (V.getD x.toNat (0,0,0,none)).1,.int (V.getD x.toNat (0,0,0,none)).2.1]) (fun ρ=>∃ t,ρ = [t,some (.sh false (.list (V.map dW)))]) rs ?_ _ _ _ _ ⟨none,rfl⟩ (q _ (.inr ⟨_,_,.inl rfl,rfl⟩))
      rintro x hx ρ fa acc K ⟨t,rfl⟩ kk
      have hat:atI (V.map dW) x=some (dW (V.getD x.toNat (0,0,0,none))):=by rw [j4,(zbt (d:=(0,0,0,none)) (hvl ▸ hrs x hx)).1];rfl
      walk_at "rd hat"
      exact kk _ ⟨_,rfl⟩
   clear hY hN';cases vl with
   | none=>walk_at "rd dO";exact no
   | some e=>walk_at "rd dO";exact yes
 rintro ρ ⟨t,h,t5,t6,t7,rfl,hm,ht,hh,hte⟩
 refine z7 (fun ρ=>∃ (t h:Tb) (t5 t6 t7 t8:Option L3.Cl),ρ = [some (.sh false (.list (V.map dW))),some (.sh false (.list (ch.map dI))),some (.dm a2 t),some (.dm a3 h),some (.sh true (.list (tv.map dI))),t5,t6,t7,t8]/\Mat t h/\TbOk h ch.length V.length/\(∀ s c,getM h s=some c->c∈ch.getD s.toNat [])/\∀ k:Int,0<=k->k<(ch.length:Int)->(getM h k).isSome=true) (fun N hN=>?_) ?_
 . have hhe:∀ s c,getM h s=some c->c∈ch.getD s.toNat []:=fun s c e=>by
    have h1:=hte c s ((hm c s).mpr e);obtain⟨⟨i1,i2⟩,j1,j2⟩:=hh.get e;have:=(htc c.toNat #[0] s.toNat #[0]).mp (by rw [show((s.toNat:Nat):Int)=s by omega];exact h1)
    rwa [show((c.toNat:Nat):Int)=c by omega] at this
   walk_at "rd YaR"
   refine⟨#[0],#[0],?_⟩
   rw [Int.toNat_natCast];refine jx (fun k ρ=>∃ (t h:Tb) (t5 t6 t7 t8:Option L3.Cl),ρ = [some (.sh false (.list (V.map dW))),some (.sh false (.list (ch.map dI))),some (.dm a2 t),some (.dm a3 h),some (.sh true (.list (tv.map dI))),t5,t6,t7,t8]/\Mat t h/\TbOk t V.length ch.length/\TbOk h ch.length V.length/\(∀ s c,getM h s=some c->c∈ch.getD s.toNat [])/\∀ i:Int,0<=i->i<(k:Int)->(getM h i).isSome=true) ?_ (fun ρ ⟨t,h,t5,t6,t7,t8,e,h1,h2,h3,h4,h6⟩=>hN ρ ⟨t,h,t5,t6,t7,t8,e,h1,h3,h4,h6⟩) ⟨t,h,_,_,_,_,rfl,hm,ht,hh,hhe,fun i h0 h1=>absurd h1 #[0]⟩
   clear hm ht hh hte hhe t h t5 t6 t7
   rintro k ρ hk ⟨t,h,t5,t6,t7,t8,rfl,hm,ht,hh,hhe,hd⟩ W hW
   walk_at "g"
   refine ZR fun Y N' hY hN'=>?_
   walk_at "rd"
   refine ite2 (fun hn=>hY ?_) fun hn=>hN' ?_
   . have h0:getM h (0+(k:Int))=none:=by cases e:getM h (0+(k:Int)) with|none=>rfl|some _=>rw [e] at hn;cases hn
     refine zi fun N1 hN1=>?_
     walk_at "rd"
     refine⟨ch,rfl,#[0],V.length,#[0],.inl #[0],⟨#[0],#[0]⟩,fun row hr=>(hrow row hr).2,hm.symm,hh,ht,h0,hhe,fun h' t' hmv=>hN1 _ ?_,fun rs hz h64 hrs=>hN1 _ ?_⟩
     . clear hN1 N1
       walk_at "rd"
       rw [if_neg #[1]]
       refine hW _ ⟨t',h',_,_,_,_,rfl,hmv.mat.symm,hmv.oh,hmv.ot,hmv.ed,fun i i0 i1=>(hmv.dt i).mpr ?_⟩
       by_cases e:i=(k:Int)
       . exact .inr #[0]
       . exact .inl (hd i i0 #[0])
     . clear hN1 N1
       have hz:=List.length_pos_iff.mpr hz
       walk_at "rd YaR"
       rw [if_pos #[0]]
       refine⟨sz #[0],?_⟩
       refine jg PyData.int (fun x=>.int (x+1)) (fun ρ=>∃ t,ρ = [t]) rs ?_ _ _ _ _ ⟨none,rfl⟩ (q _ (.inr ⟨_,_,.inr rfl,rfl⟩))
       rintro x hx ρ fa acc K ⟨t,rfl⟩ kk
       walk_at "rd"
       exact kk _ ⟨_,rfl⟩
   . walk_at "rd"
     refine hW _ ⟨t,h,_,_,_,_,rfl,hm,ht,hh,hhe,fun i i0 i1=>?_⟩
     by_cases e:i=(k:Int)
     . rw [e]
       rw [Wa6] at hn;cases z:getM h (k:Int) with|none=>rw [z] at hn;exact absurd rfl hn|some _=>rfl
     . exact hd i i0 #[0]
 clear hm ht hh hte t h t5 t6 t7
 rintro ρ ⟨t,h,t5,t6,t7,t8,rfl,hm,hh,hhe,hd⟩
 walk_at "rd YaR"
 rw [Int.toNat_natCast];refine⟨#[0],#[0],sz (by rw [zc2];omega),?_⟩
 refine jg (fun i:Nat=>PyData.int (0+(i:Nat))) (fun i:Nat=>.int (V.getD ((getM h (0+(i:Int))).getD 0).toNat (0,0,0,none)).1) (fun ρ=>∃ t,ρ = [t,some (.sh false (.list (V.map dW))),some (.dm a3 h)]) (List.range ch.length) ?_ _ _ _ _ ⟨none,rfl⟩ (q _ (.inl ⟨fun k=>((getM h (0+(k:Int))).getD 0).toNat,(zfs hm hh hhe hd).1,(zfs hm hh hhe hd).2,_,rfl⟩))
 rintro i hi ρ fa acc K ⟨t,rfl⟩ kk
 have hi:=Yba.mp hi;obtain⟨y,hy⟩:=Wae.mp (hd (0+(i:Int)) #[0] #[0])
 rw [hy] at kk;have hat:atI (V.map dW) y=some (dW (V.getD y.toNat (0,0,0,none))):=by rw [j4,(zbt (d:=(0,0,0,none)) (hh.get hy).2).1];rfl
 walk_at "rd hy hat"
 exact kk _ ⟨_,rfl⟩
theorem zlY(T:Txt c K mg)(hB:BMod mg base)(kb:K.In base):#[8,dd_mend_visits c]:=by
 have hC:=T.hdC base kb;obtain⟨f1,d1,F1,h1⟩:=T.d_look_from;have GL:Df P w K mg base 1 "look_from" ["market", "turn", "gone", "far", "came"] (zcX c.Market):=⟨f1,d1,zjM T.cl_M T.na_costs T.na_turn_prices T.na_visit_prices F1,F1.binds fun _ _ _ _ _ _ us hl=>by obtain⟨_,_,_,_,_,rfl⟩:=zdz hl;rfl,F1.kp,h1⟩
 obtain⟨f2,d2,F2,h2,hcd⟩:=T.x_nearest;have GN:Df P w K mg base 4 "nearest" ["far", "done"] (zb0 c.tb):=⟨f2,d2,zlK rfl rfl hC hB T.n_min F2 hcd,F2.binds fun _ _ _ _ _ _ us hl=>by obtain⟨_,_,rfl⟩:=ZK hl;rfl,F2.kp,h2⟩
 obtain⟨f3,d3,F3,h3⟩:=T.d_change_prices;have GP:Df P w K mg base 1 "change_prices" ["market", "start", "whole", "far", "done"] (zdr c.Market):=⟨f3,d3,zk6 T.cl_M T.na_turn_prices T.na_visit_prices T.na_holders F3,F3.binds fun _ _ _ _ _ _ us hl=>by obtain⟨_,_,_,_,_,rfl⟩:=zdz hl;rfl,F3.kp,h3⟩
 obtain⟨f4,d4,F4,h4⟩:=T.d_move_along;have GM:Df P w K mg base 1 "move_along" ["choice", "came", "taken", "holders"] spMove:=⟨f4,d4,zkN F4,F4.binds fun _ _ _ _ _ _ us hl=>by obtain⟨_,_,_,_,rfl⟩:=Za hl;rfl,F4.kp,h4⟩
 obtain⟨f5,d5,F5,h5⟩:=T.d_serve;have GS:Df P w K mg base 5 "serve" ["market", "start"] (zcL c.Market c.tb):=⟨f5,d5,zlU T.cl_M T.na_taken T.na_holders GL GN GP GM F5,F5.binds fun _ _ _ _ _ _ us hl=>by obtain⟨_,_,rfl⟩:=ZK hl;rfl,F5.kp,h5⟩
 obtain⟨f6,d6,F6,h6⟩:=T.d_costs_of_turns;have GC:Df P w K mg base 1 "costs_of_turns" ["visits", "choices", "row"] (zcc K):=⟨f6,d6,zjU T.n_zip F6,F6.binds fun _ _ _ _ _ _ us hl=>by obtain⟨_,_,_,rfl⟩:=ZZ hl;rfl,F6.kp,h6⟩
 obtain⟨f7,d7,F7,h7⟩:=T.d_first_price;have GF:Df P w K mg base 1 "first_price" ["visit", "turns"] (zcv K):=⟨f7,d7,zkT F7,F7.binds fun _ _ _ _ _ _ us hl=>by obtain⟨_,_,rfl⟩:=ZK hl;rfl,F7.kp,h7⟩
 obtain⟨fi,di,FI,MK⟩:=T.x_init;obtain⟨f8,d8,F8,h8⟩:=T.d_mend_visits;refine⟨fun ds Q Q' E E' hQ hE h=>?_,⟨f8,d8,zgz T.cl_M T.na_turn_prices T.na_visit_prices T.na_taken T.n_len T.n_range T.n_zip T.m_Market MK (zlH T.cl_M T.na_costs T.na_turn_prices T.na_visit_prices T.na_taken T.na_holders T.n_len GF FI) (FI.binds fun _ _ _ _ _ _ us hl=>by obtain⟨_,_,_,rfl⟩:=ZZ hl;rfl) GC GS F8,F8.binds fun _ _ _ _ _ _ us hl=>by obtain⟨_,_,_,rfl⟩:=ZZ hl;rfl,F8.kp,h8⟩⟩
 obtain⟨U,ch,row,f,e,x1,x2,x3,x4,x5,x6,h⟩:=h;exact⟨U,ch,row,f,e,x1,x2,x3,x4,x5,x6,fun a b d g i j k=>hQ _ _ (h a b d g i j k)⟩
theorem zix(T:Txt c K mg):#[8,dd_less]:=by
 obtain⟨f,fd,F,hm⟩:=T.d_less;have S:FnScope ["one", "other"] ["one", "other"] (zg zfo):=#[10]
 walk_at "d"
 . walk_at "m"
 . walk_at "l"
 refine⟨_,(ze (zn (cmp3 Jb (op3 jn (at3 (n3 0) i3 #[4]) (at3 (n3 1) i3 #[4])) (op3 jn (at3 (n3 1) i3 #[4]) (at3 (n3 0) i3 #[4])) (nomark _)))),fun ds Q h=>?_⟩
 obtain⟨a,b,rfl,ha,hb,q⟩:=h
 walk_at "rd atI0 atI1"
 exact⟨ha.2.1.mulOk hb.2.2 #[1],hb.2.1.mulOk ha.2.2 #[1],q⟩
theorem zkH(T:Txt c K mg):#[8,dd_check_bounds c]:=by
 have zmt:#[8,dd_less]:=zix T;obtain⟨f,fd,F,hm⟩:=T.d_check_bounds;have S:FnScope ["bounds", "clans", "below", "above", "bound"] ["bounds", "clans"] (zg zfw):=#[10]
 walk_at "d"
 . walk_at "m"
 . walk_at "l"
 refine⟨_,(zc (s_if (zr (JK hr.units) (zu zI rfl T.n_len zD (za (n3 0) zb)) (n3 1) (nomark _)) (ze (ju hE jq rfl rfl T.m_NoBounds T.e_NoBounds (za s3 zb))) zo)
  (ze (zM WaC rfl (zU (n3 0)) (jb (n:=2) rfl (zA #[9,zk,2] (zA #[9,zk,3] je))) (ze (zM WaC rfl (zkA (zx (za (n3 2) (za (n3 3) zb)))) #[9,zk,4] (ze (s_if (pw3 (ZL (val3 (df3 hE zmt #[7] rfl zq (za (n3 4) (za (g3t rfl T.m_LEAST_BOUND) zb)))) (Z2 (val3 (df3 hE zmt #[7] rfl zq (za (g3t rfl T.m_MOST_BOUND) (za (n3 4) zb))))))) (ze (ju hE jq rfl rfl T.m_NoBounds T.e_NoBounds (za s3 zb))) zo))))))),fun ds Q h=>?_⟩
 obtain⟨l,n,rfl,hq,q,hE'⟩:=h
 walk_at "rd"
 rw [YaR]
 by_cases h1:(l.length:Int)=n
 case neg=>rw [if_pos h1];exact hE' fun z=>h1 (by rw [z.1])
 rw [if_neg (fun z=>z h1)]
 refine jR dP l (fun done ρ=>∃ t u v,ρ = [some (.sh false (.list (l.map dP))),#[5,n],t,u,v]/\∀ p∈done,inQ p.1/\inQ p.2) ?_ ?_ ⟨none,none,none,rfl,fun x h=>by cases h⟩
 . rintro done x rest ρ hd ⟨t,u,v,rfl,hall⟩ W hW
   have hx:x∈l:=by rw [hd];simp
   obtain⟨hx1,hx2⟩:=hq x hx
   walk_at "rd"
   refine jR dQ [x.1,x.2] (fun done' ρ=>∃ v,ρ = [some (.sh false (.list (l.map dP))),#[5,n],some (.sh false (dQ x.1)),some (.sh false (dQ x.2)),v]/\∀ r∈done',inQ r) ?_ ?_ ⟨_,rfl,fun x h=>by cases h⟩
   . rintro done' r rest' ρ hd' ⟨v,rfl,hall'⟩ W' hW'
     have hr:okQ r:=by
      have:r∈[x.1,x.2]:=by rw [hd'];simp
      rcases WaU.mp this with z|z
      . rw [z];exact hx1
      . rw [Ya6.mp z];exact hx2
     have hrb:inQ r\/¬okB n l:=by
      by_cases z:inQ r
      . exact .inl z
      . right
        intro y;have:r∈[x.1,x.2]:=by rw [hd'];simp
        rcases WaU.mp this with w|w
        . rw [w] at z;exact z (y.2 x hx).1
        . rw [Ya6.mp w] at z;exact z (y.2 x hx).2
     have o01:okQ (0,1):=⟨#[1],Bits.lit (x:=0) 1200,Bits.lit (x:=1) 1200⟩
     have o10:okQ (10,1):=⟨#[1],Bits.lit (x:=10) 1200,Bits.lit (x:=1) 1200⟩
     walk_at "rd"
     refine⟨r,rfl,rfl,(0,1),rfl,rfl,hr,o01,ite2 (fun h=>hE' (hrb.elim (fun z=>absurd h (by have:=z.1;show ¬r.1*1<0*r.2;omega)) id)) fun h=>⟨(10,1),rfl,rfl,r,rfl,rfl,o10,hr,ite2 (fun h2=>hE' (hrb.elim (fun z=>absurd h2 (by have:=z.2;show ¬10*r.2<r.1*1;omega)) id)) fun h2=>hW' _ ⟨_,rfl,fun y hy=>?_⟩⟩⟩
     rcases Ya3.mp hy with z|z
     . exact hall' y z
     . rw [Ya6.mp z]
       have e1:¬r.1*1<0*r.2:=h;have e2:¬10*r.2<r.1*1:=h2;exact⟨#[0],#[0]⟩
   . rintro ρ ⟨v,rfl,hall'⟩
     exact hW _ ⟨_,_,_,rfl,fun p hp=>by
      rcases Ya3.mp hp with z|z
      . exact hall p z
      . rw [Ya6.mp z];exact⟨hall' _ (by simp),hall' _ (by simp)⟩⟩
 . rintro ρ ⟨t,u,v,rfl,hall⟩
   exact q ⟨#[0],hall⟩
theorem zk8(T:Txt c K mg):#[8,dd_room_at_most]:=by
 obtain⟨f,fd,F,hm⟩:=T.d_room_at_most;have S:FnScope ["bottom", "bound"] ["bottom", "bound"] (zg zd6):=#[10]
 walk_at "d"
 . walk_at "m"
 . walk_at "l"
 refine⟨_,(ze (zn (op3 zt (op3 jn (at3 (n3 1) i3 #[4]) (n3 0)) (at3 (n3 1) i3 #[4])))),fun ds Q h=>?_⟩
 obtain⟨b,r,rfl,hb,hr,q⟩:=h
 walk_at "rd atI0 atI1"
 exact⟨hr.2.1.mulOk hb #[1],⟨hr.1,hr.2.2.mono #[1]⟩,q⟩
theorem zih(T:Txt c K mg):#[8,dd_rooms_of c]:=by
 have zl2:#[8,dd_check_bounds c]:=zkH T;have zmA:#[8,dd_room_at_most]:=zk8 T;obtain⟨f,fd,F,hm⟩:=T.d_rooms_of;have S:FnScope ["told", "bounds", "bottom"] ["told", "bounds"] (zg zcT):=#[10]
 walk_at "d"
 . walk_at "m"
 . walk_at "l"
 refine⟨_,(zc (#[9,zj,2] (at3 (n3 0) i3 #[4]))
  (zc (J4 (df3 hE zl2 #[7] rfl zq (za (n3 1) (za (zu zI rfl T.n_len zD (za (at3 (at3 (n3 0) i3 #[4]) i3 #[4]) zb)) zb))))
  (ze (zn (new3 (jo ["below", "above"] ["bottom"] [2] rfl (zT (osc:=zg zcT) #[3]) rfl (zU (n3 1)) (fun H0 s H fp cl=>⟨(jb (n:=2) rfl (zA (zk (i:=0) (show((["below", "above"]:List PySem.Str)++(["bottom"]:List PySem.Str)).Nodup by decide) rfl #[2]) (zA (zk (i:=1) (show((["below", "above"]:List PySem.Str)++(["bottom"]:List PySem.Str)).Nodup by decide) rfl #[2]) je))),jh,(zx (za (df3 (E:=fun _ _ _=>False) (E3:=fun _=>False) (fun _ _ z _=>z) zmA #[7] rfl jG (za (n3 2) (za (n3 0) zb))) (za (df3 (E:=fun _ _ _=>False) (E3:=fun _=>False) (fun _ _ z _=>z) zmA #[7] rfl jG (za (n3 2) (za (n3 1) zb))) zb)))⟩))))))),fun ds Q h=>?_⟩
 obtain⟨b,qs,l,n,rfl,hb,hq1,hqn,hn8,hl,hq,q,hE'⟩:=h;have hd0:atI (qs.map dI) 0=some (PyData.list (qs[0].map PyData.int)):=JQ (i:=0) #[0]
 have h0n:=hqn qs[0] (Ya4 #[0])
 walk_at "s"
 walk_at "rd atI0"
 walk_at "u"
 walk_at "rd atI1 hd0 YaR h0n"
 refine⟨l,rfl,n,rfl,hq,fun hok=>hN _ ?_,hE'⟩
 clear hN N
 walk_at "rd YaR"
 refine⟨sz #[0],?_⟩
 refine jg dP (fun p=>jL (ZB b p.1,ZB b p.2)) (fun ρ=>∃ t u,ρ = [t,u,#[5,b]]) l ?_ _ _ _ _ ⟨none,none,rfl⟩ ?_
 . rintro p hp ρ fa acc K ⟨t,u,rfl⟩ kk
   obtain⟨hp1,hp2⟩:=hq p hp
   walk_at "rd"
   exact⟨p.1,rfl,rfl,hb,hp1,p.2,rfl,rfl,hb,hp2,kk _ ⟨_,_,rfl⟩⟩
 . have:=q hok
   unfold jS at this;rw [YaD] at this;exact this
theorem zkx:FnScope ["spells", "bounds", "rules", "row", "told", "visits", "choices", "found"] ["spells", "bounds", "rules", "row"] (zg zc5):=#[10]
theorem zgK(T:Txt c K mg)(zmz:#[8,dd_quotas c])(zmG:#[8,dd_windows_within])(zl8:#[8,dd_choices_of_turns c])(zl3:#[8,dd_check_row c])(zmy:#[8,dd_place_visits])(zmv:#[8,dd_mend_visits c])(zmB:#[8,dd_rooms_of c]){f:Addr}{fd:FuncData}(F:Fun K "mended" "mended" zc5 f fd):FnOk P w K mg base (CXR P w) 7 f fd ["spells", "bounds", "rules", "row"] (spU c.tb K (Zt c)):=by
 have S:=zkx;refine fnU (cv:=fun v=>True) F trivial S (fun ds Q E h=>?_) (fun cdv A outer s H E E3 hcv tu hE hr=>?_)
 . walk_at "l"
 refine⟨_,(zc (#[9,zj,4] (df3 hE zmz #[7] rfl zq (za (n3 0) zb)))
  (zc (#[9,zj,5] (df3 hE zmG #[7] rfl zq (za (n3 4) (za (df3 hE zmB #[7] rfl zq (za (n3 4) (za (n3 1) zb))) zb))))
  (zc (#[9,zj,6] (df3 hE zl8 #[7] rfl zq (za (n3 4) (za (n3 5) (za (n3 2) zb)))))
  (zc (J4 (df3 hE zl3 #[7] rfl zq (za (n3 3) (za (zu zI rfl T.n_len zD (za (n3 6) zb)) (za (zu zI rfl T.n_len zD (za (n3 1) zb)) zb)))))
  (zc (#[9,zj,7] (df3 hE zmy #[7] rfl zq (za (n3 5) (za (n3 6) zb))))
  (zc (s_if (zr (JK hr.units) (at3 (n3 7) i3 #[4]) s3 (nomark _)) (ze (zn (n3 7))) zo)
  (ze (zn (dfU tu hE zmv #[7] rfl zq (za (n3 5) (za (n3 6) (za (n3 3) zb)))))))))))),fun ds Q h=>?_⟩
 obtain⟨l,bs,rs,row,rfl,hbl,ho,hrl,htx,hrw,q,hE1,hE2,hE3,hE4⟩:=h;walk_at "q"
 refine⟨l,rfl,fun hok=>hN _ ?_,hE1⟩
 clear hN N;have hm:=zb2 hok;have hbp:=zhi hok;have hql:=zlb hok;have htn:=JY fun s hs=>(hok.2.1 s hs).1
 have h60:=hok.2.2;have hqr:∀ r∈quo l,r.length=many l:=fun r hr=>zeD hok (b:=bot l) hr
 have hb2:Bits 2000 (bot l):=(zeU hok).mono #[1]
 walk_at "q"
 refine⟨quo l,rfl,bs,rfl,hb2,#[0],many l,hqr,hm.2,#[0],ho,fun hB=>?_,fun z=>hE2 hok z⟩
 have hrl':(jS (bot l) bs).length=many l:=by unfold jS;rw [YaR];exact hB.1
 refine⟨quo l,rfl,jS (bot l) bs,rfl,hbp,hb2,#[0],#[0],#[0],fun r hr=>by rw [hrl'];exact hqr r hr,fun r hr x hx=>?_,fun p hp=>?_,fun W w1 w2 w3=>hN _ ?_⟩
 . have h1:=zlW hok hbp r hr x hx
   have h2:tot l*bot l<=60*bot l:=Ybe h60 #[0]
   omega
 . unfold jS at hp
   obtain⟨z,hz,rfl⟩:=Ya7.mp hp;obtain⟨z1,z2⟩:=hB.2 z hz;obtain⟨y1,y2⟩:=ho z hz;refine⟨Int.ediv_nonneg (Int.mul_nonneg z1.1 #[0]) (by have:=y1.1;omega),Int.ediv_nonneg (Int.mul_nonneg z2.1 #[0]) (by have:=y2.1;omega),?_⟩
   refine Int.ediv_le_of_le_mul y2.1 ?_
   have h1:z.2.1*bot l<=10*z.2.2*bot l:=Ybe z2.2 #[0]
   have h2:0<=z.2.2*bot l:=Int.mul_nonneg (by have:=y2.1;omega) #[0]
   have e1:10*z.2.2*bot l=10*(z.2.2*bot l):=Int.mul_assoc _ _ _;have e2:20*bot l*z.2.2=20*(z.2.2*bot l):=by rw [Int.mul_assoc,Int.mul_comm (bot l)]
   omega
 clear hN N w1 w2;have eT:(((tot l).toNat:Nat):Int)=tot l:=#[0]
 walk_at "q"
 refine⟨quo l,rfl,W.flatten,rfl,rs,rfl,many l,(tot l).toNat,#[0],#[0],hqr,hm.2,w3,hrl,htx,fun hR ch hc1 hc2=>hN _ ?_,fun hR=>hE3 hok hB fun z=>hR (by rw [eT];exact z)⟩
 clear hN N;have hR':okRs (tot l) (many l) rs:=by rw [<-eT];exact hR
 walk_at "s"
 walk_at "rd YaR"
 refine⟨row,rfl,ch.length,rfl,bs.length,rfl,fun hok4=>hN _ ?_,fun z=>hE4 hok hB hR' fun y=>z (by rw [hc1,hB.1];exact y)⟩
 clear hN N;have hrow:jW (many l) (tot l).toNat row:=by rw [<-hc1,<-hB.1];exact hok4
 have q:=q hok hB hR' hrow;walk_at "q"
 refine⟨W.flatten,rfl,ch,rfl,w3,#[0],fun pl hp=>⟨(hc2 pl hp).1,(hc2 pl hp).2.2⟩,fun d hd=>hN _ ?_⟩
 clear hN N
 rcases hd with ⟨f,h1,h2,x,rfl⟩|⟨s,x,hs,rfl⟩
 . walk_at "rd"
   refine⟨W.flatten,rfl,ch,rfl,row,rfl,by rw [hrow.1,hc1],#[0],w3,fun pl hp=>⟨(hc2 pl hp).2.1,(hc2 pl hp).1,(hc2 pl hp).2.2⟩,fun x=>((f x.toNat:Nat):Int),fun x hx=>(h1 x.toNat (by obtain⟨a,b⟩:=hx;omega)).2,fun x y hx hy e=>?_,fun tk hd tp vp a1 a2 a3=>q _⟩
   obtain⟨x0,x1⟩:=hx;obtain⟨y0,y1⟩:=hy;have:=h2 _ _ #[0] #[0] (Int.ofNat.inj e)
   omega
 . walk_at "rd"
   rw [if_pos (by rcases hs with rfl|rfl<;>decide)]
   exact q _
theorem ziA(T:Txt c K mg)(zmz:#[8,dd_quotas c])(zmG:#[8,dd_windows_within])(zl8:#[8,dd_choices_of_turns c])(zl3:#[8,dd_check_row c])(zmy:#[8,dd_place_visits])(zmv:#[8,dd_mend_visits c])(zmB:#[8,dd_rooms_of c]):#[8,dd_mended c]:=by
 obtain⟨f,fd,F,hm⟩:=T.d_mended;have hb:=F.binds (ps:=["spells", "bounds", "rules", "row"]) fun _ _ _ _ _ _ us hl=>by obtain⟨_,_,_,_,rfl⟩:=Za hl;rfl
 refine⟨fun ds Q Q' E E' hQ hE h=>?_,⟨f,fd,zgK T zmz zmG zl8 zl3 zmy zmv zmB F,hb,F.kp,hm⟩⟩
 walk_at "m"
theorem ziL:FnScope ["_law_spells_here", "_law_bounds", "_law_rules_here", "_law_row_here", "e", "_law_told"] ["_law_spells_here", "_law_bounds", "_law_rules_here", "_law_row_here"] (zg zcP):=#[10]
theorem ziS(T:Txt c K mg)(zmw:#[8,dd_mended c]){f:Addr}{fd:FuncData}(F:Fun K "_law_answer" "_law_answer" zcP f fd):FnOk P w K mg base (CXR P w) 8 f fd ["_law_spells_here", "_law_bounds", "_law_rules_here", "_law_row_here"] (spU c.tb K Zh):=by
 have S:=ziL;refine fnU (cv:=fun v=>True) F trivial S (fun ds Q E h=>?_) (fun cdv A outer s H E E3 hcv tu hE hr=>?_)
 . walk_at "l"
 refine⟨_,(zc (ziq (i:=4) rfl rfl S.nd rfl rfl rfl T.m_ClanError (zjR tu zmw #[7] rfl (za (n3 0) (za (n3 1) (za (n3 2) (za (n3 3) zb))))) (fun ea=>by exact(zc (s_if (val3 (zid (K':=K) rfl rfl T.n_isinstance rfl (j8 rfl T.m_Known (j8 rfl T.m_NoClan (j8 rfl T.m_NoDistance (j8 rfl T.m_NoLine (j8 rfl T.m_NoName (j8 rfl T.m_NoNumber (j8 rfl T.m_NoRatio (j8 rfl T.m_NoText (j8 rfl T.m_TooLong (j8 rfl T.m_TooMany zkS)))))))))) (sz (by simp)) (n3 4))) (ze (zn s3)) zo)
  (zc (#[9,zj,5] (new3 (zy (za (zbY (K':=K) rfl rfl T.n_isinstance rfl rfl T.m_NoSpell (n3 4)) (za (zbY (K':=K) rfl rfl T.n_isinstance rfl rfl T.m_NoBounds (n3 4)) (za (zbY (K':=K) rfl rfl T.n_isinstance rfl rfl T.m_NoRule (n3 4)) (za (zbY (K':=K) rfl rfl T.n_isinstance rfl rfl T.m_NoRow (n3 4)) zb)))))))
  (zc (s_if (pw3 (ZL (zr (JK hr.units) (zhF (n3 5) b3) i3 (nomark _)) (Z2 (JF (val3 (zlM (K':=K) rfl rfl T.n_isinstance rfl rfl T.n_ValueError zgm (n3 4))))))) (ze (zn s3)) zo)
  (ze (zn (at3 (new3 (zy (za s3 (za s3 (za s3 (za s3 zb)))))) (zgI (n3 5) b3) #[4]))))))))
  (ze (zn s3))),fun ds Q h=>?_⟩
 obtain⟨l,bs,rs,row,rfl,hbl,ho,hrl,htx,hrw,q⟩:=h;have an:∀ t,ansM l bs rs row=t->Q true (.str t):=fun t e=>e ▸ q
 walk_at "s"
 refine zhm fun E' hE'=>?_
 have hand:∀ (C:Addr) (a b d e:Bool) (t:Str),XAttr K C/\PySem.W.exmOne K (.ref C) (.ref c.ClanError)=some true/\PySem.W.kitAny K (.ref C) #[24]=some false/\PySem.W.kitOne K (.ref C) (.ref c.NoSpell)=some a/\PySem.W.kitOne K (.ref C) (.ref c.NoBounds)=some b/\PySem.W.kitOne K (.ref C) (.ref c.NoRule)=some d/\PySem.W.kitOne K (.ref C) (.ref c.NoRow)=some e/\PySem.W.kitOne K (.ref C) (.type "ValueError")=some true->[a,b,d,e].countP id=1->true∈[a,b,d,e]->atI [PyData.str "spell", PyData.str "bounds", PyData.str "rule", PyData.str "row"] ([a,b,d,e].idxOf true:Nat)=some (.str t)->Q true (.str t)->E' C:=fun C a b d e t ⟨x,hx,o,i1,i2,i3,i4,v⟩ hc hm hi qt=>hE' C ⟨hx,by
  walk_at "rd"
  refine⟨x,_,o,?_⟩
  rw [if_neg #[1]]
  refine⟨x,_,i1,x,_,i2,x,_,i3,x,_,i4,_,rfl,?_⟩
  rw [if_neg (fun z=>z (by rw [hc];rfl))]
  refine⟨x,_,v,?_⟩
  rw [if_neg #[1]]
  exact⟨_,rfl,hm,_,hi,qt⟩⟩
 have hn:∀ ρ,Q true (.str "ok")->N ρ:=fun ρ h=>hN ρ (by walk_at "rd";exact h)
 have hS:Q true (.str "spell")->E' c.NoSpell:=hand _ _ _ _ _ _ T.k_NoSpell rfl #[1] rfl
 have hB:Q true (.str "bounds")->E' c.NoBounds:=hand _ _ _ _ _ _ T.k_NoBounds rfl #[1] rfl
 have hR:Q true (.str "rule")->E' c.NoRule:=hand _ _ _ _ _ _ T.k_NoRule rfl #[1] rfl
 have hD:Q true (.str "row")->E' c.NoRow:=hand _ _ _ _ _ _ T.k_NoRow rfl #[1] rfl
 clear hand hE' hN
 walk_at "rd"
 exact⟨l,rfl,bs,rfl,rs,rfl,row,rfl,hbl,ho,hrl,htx,hrw,fun h1 h2 h3 h4 _=>hn _ (an _ (by simp [ansM,h1,h2,h3,h4])),fun h1=>hS (an _ (by simp [ansM,h1])),fun h1 h2=>hB (an _ (by simp [ansM,h1,h2])),fun h1 h2 h3=>hR (an _ (by simp [ansM,h1,h2,h3])),fun h1 h2 h3 h4=>hD (an _ (by simp [ansM,h1,h2,h3,h4]))⟩
theorem zia(T:Txt c K mg)(zmw:#[8,dd_mended c]):#[8,dd_law_answer c]:=by
 obtain⟨f,fd,F,hm⟩:=T.d_law_answer;have hb:=F.binds (ps:=["_law_spells_here", "_law_bounds", "_law_rules_here", "_law_row_here"]) fun _ _ _ _ _ _ us hl=>by obtain⟨_,_,_,_,rfl⟩:=Za hl;rfl
 refine⟨fun ds Q Q' E E' hQ hE h=>?_,⟨f,fd,ziS T zmw F,hb,F.kp,hm⟩⟩
 walk_at "m"
theorem zjL:FnScope ["_law_script", "_law_spells_here", "_law_bottom", "_law_rows", "_law_row_here", "_law_clans", "_law_bounds", "_law_rules_here", "_law_ways", "_law_cell", "_law_due", "_law_at", "_law_strange", "_law_handed"] ["_law_script"] (zg zan):=#[10]
theorem zgG(T:Txt c K mg)(zmq:#[8,dd_law_spells])(zmm:#[8,dd_law_quotas])(zmo:#[8,dd_law_row])(zmg:#[8,dd_law_limits])(zmp:#[8,dd_law_rules])(zmf:#[8,dd_law_cell_at])(zmj:#[8,dd_law_no_row])(zmk:#[8,dd_law_no_rule])(zmi:#[8,dd_law_no_bounds])(zml:#[8,dd_law_no_spells])(zme:#[8,dd_law_answer c]){f:Addr}{fd:FuncData}(F:Fun K "law" "law" zan f fd):FnOk P w K mg base (CXR P w) 9 f fd ["_law_script"] (spU c.tb K JC):=by
 have S:=zjL;refine fnU (cv:=fun v=>True) F trivial S (fun ds Q E h=>?_) (fun cdv A outer s H E E3 hcv tu hE hr=>?_)
 . walk_at "l"
 refine⟨_,(zc (#[9,zj,1] (df3 hE zmq #[7] rfl zq (za (n3 0) (za i3 zb))))
  (zc (zcw (df3 hE zmm #[7] rfl zq (za (n3 1) zb)) (jb (n:=2) rfl (zA #[9,zk,2] (zA #[9,zk,3] je))))
  (zc (#[9,zj,4] (df3 hE zmo #[7] rfl zq (za (n3 2) (za (n3 3) (za (op3 zC (df3 hE zmf #[7] rfl zq (za (n3 0) (za i3 zb))) i3) zb)))))
  (zc (#[9,zj,5] (zu zI rfl T.n_len zD (za (at3 (n3 3) i3 #[4]) zb)))
  (zc (#[9,zj,6] (df3 hE zmg #[7] rfl zq (za (n3 2) (za (n3 3) (za (n3 4) (za (df3 hE zmf #[7] rfl zq (za (n3 0) (za i3 zb))) (za b3 zb)))))))
  (zc (#[9,zj,7] (df3 hE zmp #[7] rfl zq (za (zu zI rfl T.n_len zD (za (n3 4) zb)) (za (n3 5) (za (df3 hE zmf #[7] rfl zq (za (n3 0) (za i3 zb))) zb)))))
  (zc (#[9,zj,8] (df3 hE zmf #[7] rfl zq (za (n3 0) (za i3 zb))))
  (zc (#[9,zj,9] (df3 hE zmf #[7] rfl zq (za (n3 0) (za i3 zb))))
  (zc (#[9,zj,10] s3)
  (zc (s_if (zr (zO hr.units) (op3 zp (n3 8) i3) i3 (nomark _)) (zc (#[9,zj,4] (df3 hE zmj #[7] rfl zq (za (n3 4) (za (n3 5) (za (n3 9) zb)))))
   (ze (#[9,zj,10] s3))) zo)
  (zc (s_if (zr (zO hr.units) (op3 zp (op3 zt (n3 8) i3) i3) i3 (nomark _)) (zc (#[9,zj,11] (op3 zp (n3 9) (op3 zC (zu zI rfl T.n_len zD (za (n3 7) zb)) i3)))
   (zc (#[9,zj,12] (df3 hE zmk #[7] rfl zq (za (op3 jC (zu zI rfl T.n_len zD (za (n3 3) zb)) i3) (za (n3 5) (za (op3 zt (n3 9) i3) zb)))))
   (zc (#[9,zj,7] (new3 (cat3 (new3 (cat3 (new3 (zV (n3 7) zX (zW (n3 11)))) (new3 (zy (za (n3 12) zb))))) (new3 (zV (n3 7) (zW (n3 11)) zX)))))
   (ze (#[9,zj,10] s3))))) zo)
  (zc (s_if (zr (zO hr.units) (op3 zp (op3 zt (n3 8) i3) i3) i3 (nomark _)) (zc (#[9,zj,6] (df3 hE zmi #[7] rfl zq (za (n3 6) (za (op3 zt (n3 9) i3) zb))))
   (ze (#[9,zj,10] s3))) zo)
  (zc (s_if (zr (zO hr.units) (op3 zp (op3 zt (n3 8) i3) i3) i3 (nomark _)) (zc (#[9,zj,1] (df3 hE zml #[7] rfl zq (za (n3 1) (za (op3 zt (n3 9) i3) zb))))
   (ze (#[9,zj,10] s3))) zo)
  (zc (#[9,zj,13] (new3 (zy (za (new3 (jo ["_law_length", "_law_weights"] [] [] rfl (zT (osc:=zg zan) #[3]) rfl (zU (n3 1)) (fun H0 s H fp cl=>⟨(jb (n:=2) rfl (zA (zk (i:=0) (show((["_law_length", "_law_weights"]:List PySem.Str)++([]:List PySem.Str)).Nodup by decide) rfl #[2]) (zA (zk (i:=1) (show((["_law_length", "_law_weights"]:List PySem.Str)++([]:List PySem.Str)).Nodup by decide) rfl #[2]) je))),jh,(zx (za (n3 0) (za (new3 (zba rfl T.n_list zbx (za (n3 1) zb))) zb)))⟩))) (za (new3 (zba rfl T.n_list zbx (za (n3 6) zb))) (za (new3 (zba rfl T.n_list zbx (za (n3 7) zb))) (za (new3 (zba rfl T.n_list zbx (za (n3 4) zb))) zb)))))))
  (zc (s_if (zr (JK hr.units) (dfU tu hE zme #[7] rfl zq (za (at3 (n3 13) i3 #[4]) (za (at3 (n3 13) i3 #[4]) (za (at3 (n3 13) i3 #[4]) (za (at3 (n3 13) i3 #[4]) zb))))) (n3 10) (nomark _)) (ze (zn b3)) zo)
  (ze (zn (cmp3 (zO hr.units) (n3 13) (new3 (zy (za (n3 1) (za (n3 6) (za (n3 7) (za (n3 4) zb)))))) (nomark _))))))))))))))))))),fun ds Q h=>?_⟩
 obtain⟨ns,rfl,h63,q⟩:=h;walk_at "q"
 refine⟨ns,rfl,#[1],#[1],fun l hok _=>hN _ ?_⟩
 clear hN N;have hm:=zb2 hok;have htn:=JY fun s hs=>(hok.2.1 s hs).1
 have h60:=hok.2.2;have hql:=zeY hok (zE l);have hqr:∀ r∈quoB (zE l) l,r.length=many l:=fun r hr=>zeD hok hr
 have ht1:=zlA hok;walk_at "q"
 refine⟨l,rfl,hok,hN _ ?_⟩
 walk_at "w"
 refine⟨ns,rfl,#[1],fun v=>⟨quoB (zE l) l,rfl,many l,hm.1,hm.2,#[0],#[0],hqr,fun row hrow hall=>hN _ ?_⟩⟩
 clear hN N;have hokr:jW (many l) (tot l).toNat row:=⟨#[0],hall⟩
 have hd0:atI ((quoB (zE l) l).map dI) 0=some (PyData.list (((quoB (zE l) l)[0]'(by omega)).map PyData.int)):=JQ (i:=0) #[0]
 have h0n:(List.map PyData.int ((quoB (zE l) l)[0]'(by omega))).length=many l:=by rw [YaR];exact hqr _ (Ya4 _)
 walk_at "s"
 walk_at "rd hd0 h0n"
 walk_at "v"
 refine⟨ns,rfl,#[1],fun v6=>⟨quoB (zE l) l,rfl,row,rfl,zfh hok,zf1 hok,many l,hm.1,hm.2,#[0],#[0],hqr,hall,fun bs hB ho=>hN _ ?_⟩⟩
 clear hN N hd0 h0n;walk_at "s"
 walk_at "rd YaR"
 refine⟨ns,rfl,#[1],fun v7=>⟨#[0],#[0],#[0],#[0],fun rs hrs htx hrl=>hN _ ?_⟩⟩
 clear hN N;rw [show(row.length:Int)=tot l by omega] at hrs
 have hqT:((quoB (zE l) l).length:Int) - 1=tot l:=#[0]
 generalize quoB (zE l) l=qs at hqT;generalize zE l=B;walk_at "q"
 refine⟨ns,rfl,#[1],fun wy=>hN _ ?_⟩
 walk_at "w"
 refine⟨ns,rfl,#[1],fun cc=>hN _ ?_⟩
 walk_at "w"
 refine hN _ ?_
 clear hN N hql hqr hrow;refine z7 (fun ρ=>∃ (f4:Bool) (row':List Int),ρ = eM ns true l B qs f4 row' (many l) true bs true rs wy cc (if wy%2=1 then "row" else "ok") none none/\(jW (many l) (tot l).toNat row'↔¬wy%2=1)/\row'.length<=100) (fun N hN=>?_) ?_
 . walk_at "rd"
   refine⟨#[1],ite2 (fun e=>⟨row,rfl,many l,rfl,(tot l).toNat,hokr,#[0],#[0],fun f r' h1 h2=>hN _ ⟨_,r',by rw [if_pos e],⟨fun z=>absurd z h1,fun z=>absurd e z⟩,h2⟩⟩) fun e=>hN _ ⟨_,row,by rw [if_neg e],⟨fun _=>e,fun _=>hokr⟩,by have:=hokr.1;omega⟩⟩
 clear hokr hall row
 rintro ρ ⟨f4,row,rfl,hR3,hr3⟩
 have hc:∀ i:Int,0<=i->i<=rs.length->cut (List.map dRl rs) none (some i)=(rs.take i.toNat).map dRl/\cut (List.map dRl rs) (some i) none=(rs.drop i.toNat).map dRl:=fun i h h'=>⟨by rw [jY,zbf rs h #[0]],by rw [jY,JV rs h #[0]]⟩
 have a0:=Ybc cc (show(rs.length:Int)+1≠0 by omega)
 have a1:=Ybd cc (show 0<(rs.length:Int)+1 by omega)
 obtain⟨c1,c2⟩:=hc _ a0 #[0]
 refine z7 (fun ρ=>∃ (f7:Bool) (rs':List Rule) (t11 t12:Option L3.Cl),ρ = eM ns true l B qs f4 row (many l) true bs f7 rs' wy cc (if wy/2%2=1 then "rule" else if wy%2=1 then "row" else "ok") t11 t12/\(okRs (tot l) (many l) rs'↔¬wy/2%2=1)/\txtR rs'/\rs'.length<=100) (fun N hN=>?_) ?_
 . refine ZR fun Y M hY hM=>?_
   walk_at "rd"
   refine⟨divP,#[1],ite2 (fun e=>hY ?_) fun e=>hM ?_⟩
   . refine zi fun N2 hN2=>?_
     walk_at "rd YaR"
     refine⟨#[0],hN2 _ ?_⟩
     clear hN2 N2;refine zi fun N2 hN2=>?_
     walk_at "rd YaR"
     refine⟨divP,#[0],#[0],fun r h1 h2=>hN2 _ ?_⟩
     clear hN2 N2
     walk_at "rd c1 c2"
     refine⟨sz #[6],sz #[6],hN _ ⟨_,rs.take (cc%((rs.length:Int)+1)).toNat++[r]++rs.drop (cc%((rs.length:Int)+1)).toNat,_,_,by rw [if_pos e];unfold eM;rw [Ya2,Ya2];rfl,⟨fun z=>absurd z (ziI (by rw [<-hqT];exact h1)),fun z=>absurd e z⟩,fun x hx=>?_,#[6]⟩⟩
     rcases Ya3.mp hx with hx|hx
     . rcases Ya3.mp hx with hx|hx
       . exact htx x (List.mem_of_mem_take hx)
       . rw [Ya6.mp hx];exact h2
     . exact htx x (List.mem_of_mem_drop hx)
   . walk_at "rd"
     exact hN _ ⟨_,rs,_,_,by rw [if_neg e],⟨fun _=>e,fun _=>hrs⟩,htx,#[0]⟩
 clear hc c1 c2 a0 a1 hrs htx hrl rs
 rintro ρ ⟨f7,rs,t11,t12,rfl,hR2,htx,hr2⟩
 refine z7 (fun ρ=>∃ (f6:Bool) (bs':List (Rat2×Rat2)),ρ = eM ns true l B qs f4 row (many l) f6 bs' f7 rs wy cc (if wy/4%2=1 then "bounds" else if wy/2%2=1 then "rule" else if wy%2=1 then "row" else "ok") t11 t12/\(okB (many l) bs'↔¬wy/4%2=1)/\(∀ p∈bs',okQ p.1/\okQ p.2)/\bs'.length<=100) (fun N hN=>?_) ?_
 . walk_at "rd"
   refine⟨divP,#[1],ite2 (fun e=>⟨divP,bs,rfl,many l,hB,hm.1,hm.2,ho,fun f b' h1 h2 h3=>hN _ ⟨_,b',by rw [if_pos e],⟨fun z=>absurd z h1,fun z=>absurd e z⟩,h2,h3⟩⟩) fun e=>hN _ ⟨_,bs,by rw [if_neg e],⟨fun _=>e,fun _=>hB⟩,ho,by have:=hB.1;omega⟩⟩
 clear hB ho bs
 rintro ρ ⟨f6,bs,rfl,hR1,ho,hr1⟩
 refine z7 (fun ρ=>∃ (f1:Bool) (l':List Spell),ρ = eM ns f1 l' B qs f4 row (many l) f6 bs f7 rs wy cc (if wy/8%2=1 then "spell" else if wy/4%2=1 then "bounds" else if wy/2%2=1 then "rule" else if wy%2=1 then "row" else "ok") t11 t12/\(wy/8%2=1->¬okS l')/\(¬wy/8%2=1->l'=l)/\l'.length<=100) (fun N hN=>?_) ?_
 . walk_at "rd"
   refine⟨divP,#[1],ite2 (fun e=>⟨divP,l,rfl,hok,fun f l' h1 h2=>hN _ ⟨_,l',by rw [if_pos e],fun _=>h1,fun z=>absurd e z,h2⟩⟩) fun e=>hN _ ⟨_,l,by rw [if_neg e],fun z=>absurd z e,fun _=>rfl,by have:=hok.1;omega⟩⟩
 rintro ρ ⟨f1,l',rfl,hS1,hS2,hl'⟩
 have an:=ziG hok hS1 hS2 hR1 hR2 hR3;generalize (if wy/8%2=1 then("spell" : Str) else if wy/4%2=1 then("bounds" : Str) else if wy/2%2=1 then("rule" : Str) else if wy%2=1 then("row" : Str) else("ok" : Str))=due at an ⊢
 subst an;clear hS1 hS2 hR1 hR2 hR3;walk_at "q"
 refine⟨sz (by rw [YaR];omega),?_⟩
 refine jg dS dS (fun ρ=>∃ t u,ρ = [t,u]) l' ?_ _ _ _ _ ⟨none,none,rfl⟩ ?_
 . rintro s hs ρ fa acc K ⟨t,u,rfl⟩ kk
   walk_at "rd"
   exact kk _ ⟨_,_,rfl⟩
 rw [List.nil_append];walk_at "n";have a2:∀ {α : Type} {x y z u:α},atI [x,y,z,u] 2=some z:=rfl;have a3:∀ {α : Type} {x y z u:α},atI [x,y,z,u] 3=some u:=rfl;walk_at "s"
 walk_at "rd atI0 atI1 a2 a3"
 refine⟨l',rfl,bs,rfl,rs,rfl,row,rfl,#[0],ho,#[0],htx,#[0],?_⟩
 rw [if_neg (fun z=>z rfl)]
 walk_at "n";have hph:Plain 4 (.list [.list (l'.map dS),.list (bs.map dP),.list (rs.map dRl),.list (row.map PyData.int)]):=Plain.list fun d hd=>by
  rcases WaU.mp hd with rfl|hd
  . exact zkJ l'
  . rcases WaU.mp hd with rfl|hd
    . exact zkf bs
    . rcases WaU.mp hd with rfl|hd
      . exact zlZ htx
      . rw [Ya6.mp hd];exact(zeu row).mono #[1]
 have hev:=zdW hph.1;have hsh:=hph.shaped #[1]
 walk_at "rd hev hsh"
 exact q
end
theorem zks{K:Ybf}{h:Heap}{mg:#[15]}(X:K.In h)(G:h.Ns mainGlobals mg){x:Str}{st:Stmt}{f:Addr}{od an:Option Addr}{sl:Array (Option Value)}{oc kV dc pm ct cd:Value}(a:PySem.W.nsIn K mainGlobals x=some (some (.ref f)))(l:K.lookup f=some ⟨oc,od,.func (PySem.W.fnOf x x (JE st) (jM st) (zg st) .none kV dc pm an cd ct),sl⟩)(c:PySem.W.codeIn K cd x=true)(k:PySem.W.keepIn K (.ref f)=true):DA K mg x st:=⟨f,_,zbz (st:=st) l c k,Wa1 X G a⟩
theorem zk7{K:Ybf}{h:Heap}{mg:#[15]}(X:K.In h)(G:h.Ns mainGlobals mg)
 {cx0 tbx:Addr} {odx:Option Addr} {vsx:Array Value} {slx:Array (Option Value)} {flx:Str} {tx1 tx2 tx3:Tok} {ix1 ix2:Int} {bx:Bool}
 {f38:Addr}
 {od38 an38:Option Addr}
 {sl38:Array (Option Value)}
 {oc38 kV38 dc38 pm38 ct38:Value}
 {c_ClanError:Addr}
 {c_NoRatio:Addr}
 {c_NoText:Addr}
 {c_NoSpell:Addr}
 {c_NoRow:Addr}
 {c_NoBounds:Addr}
 {c_NoDistance:Addr}
 {c_NoClan:Addr}
 {c_TooLong:Addr}
 {c_NoRule:Addr}
 {c_NoLine:Addr}
 {c_NoNumber:Addr}
 {c_NoName:Addr}
 {c_Known:Addr}
 {c_TooMany:Addr}
 {c_Market:Addr}
 {fI:Addr} {odI anI:Option Addr} {slI:Array (Option Value)} {ocI kVI dcI pmI ctI cdI:Value}
 {t_LEAST_BOUND:Addr} {od_LEAST_BOUND:Option Addr} {n_LEAST_BOUND:Nat} {sl_LEAST_BOUND:Array (Option Value)} {u0_LEAST_BOUND u1_LEAST_BOUND:Tok}
 {t_MOST_BOUND:Addr} {od_MOST_BOUND:Option Addr} {n_MOST_BOUND:Nat} {sl_MOST_BOUND:Array (Option Value)} {u0_MOST_BOUND u1_MOST_BOUND:Tok}
 {t_FIXED:Tok}
 {t_BARRED:Tok}
 {t_MOST_SPELLS:Tok}
 {t_MOST_CLANS:Tok}
 {t_MOST_TURNS:Tok}
 (D:TxtD K mg)
 (a38:PySem.W.nsIn K mainGlobals "nearest" = some (some (.ref f38)))
 (l38:K.lookup f38=some ⟨oc38,od38,.func (PySem.W.fnOf "nearest" "nearest" (JE jQ) (jM jQ) (zg jQ) .none kV38 dc38 pm38 an38 (.ref cx0) ct38),sl38⟩)
 (c38:PySem.W.codeIn K (.ref cx0) "nearest" = true)
 (k38:PySem.W.keepIn K (.ref f38)=true)
 (q1:K.lookup cx0=some ⟨.type "code", odx,.fields vsx,slx⟩)
 (q2:vsx[11]?=some (.ref tbx))
 (q3:vsx.getD 11 .none=.ref tbx)
 (q4:vsx.getD 18 .none=.str flx tx1)
 (q5:vsx.getD 7 .none=.int ix1 tx2)
 (q6:vsx.getD 9 .none=.bool bx)
 (q7:vsx.getD 10 .none=.int ix2 tx3)
 (q8:cx0≠tbx)
 (q9:K.lookup tbx=none)
 (m_ClanError:PySem.W.nsIn K mainGlobals "ClanError" = some (some (.ref c_ClanError)))
 (m_NoRatio:PySem.W.nsIn K mainGlobals "NoRatio" = some (some (.ref c_NoRatio)))
 (m_NoText:PySem.W.nsIn K mainGlobals "NoText" = some (some (.ref c_NoText)))
 (m_NoSpell:PySem.W.nsIn K mainGlobals "NoSpell" = some (some (.ref c_NoSpell)))
 (m_NoRow:PySem.W.nsIn K mainGlobals "NoRow" = some (some (.ref c_NoRow)))
 (m_NoBounds:PySem.W.nsIn K mainGlobals "NoBounds" = some (some (.ref c_NoBounds)))
 (m_NoDistance:PySem.W.nsIn K mainGlobals "NoDistance" = some (some (.ref c_NoDistance)))
 (m_NoClan:PySem.W.nsIn K mainGlobals "NoClan" = some (some (.ref c_NoClan)))
 (m_TooLong:PySem.W.nsIn K mainGlobals "TooLong" = some (some (.ref c_TooLong)))
 (m_NoRule:PySem.W.nsIn K mainGlobals "NoRule" = some (some (.ref c_NoRule)))
 (m_NoLine:PySem.W.nsIn K mainGlobals "NoLine" = some (some (.ref c_NoLine)))
 (m_NoNumber:PySem.W.nsIn K mainGlobals "NoNumber" = some (some (.ref c_NoNumber)))
 (m_NoName:PySem.W.nsIn K mainGlobals "NoName" = some (some (.ref c_NoName)))
 (m_Known:PySem.W.nsIn K mainGlobals "Known" = some (some (.ref c_Known)))
 (m_TooMany:PySem.W.nsIn K mainGlobals "TooMany" = some (some (.ref c_TooMany)))
 (m_Market:PySem.W.nsIn K mainGlobals "Market" = some (some (.ref c_Market)))
 (mI2:PySem.W.findIn K (.ref c_Market) "__init__" = some (some (.ref fI)))
 (lI:K.lookup fI=some ⟨ocI,odI,.func (PySem.W.fnOf "__init__" "Market.__init__" (JE Jk) (jM Jk) (zg Jk) .none kVI dcI pmI anI cdI ctI),slI⟩)
 (cI:PySem.W.codeIn K cdI "Market.__init__" = true)
 (kI:PySem.W.keepIn K (.ref fI)=true)
 (mI1:PySem.W.makesIn K c_Market=true)
 (mI3:PySem.W.isFn K (.ref fI)=true)
 (mI4:PySem.W.keepIn K (.ref c_Market)=true)
 (cI1:PySem.W.plainGet K c_Market Str.empty=true)
 (cI2:PySem.W.hasDictIn K c_Market=true)
 (cI3:PySem.W.plainOver K c_Market=true)
 (cI4:PySem.W.findIn K (.ref c_Market) "__setattr__" = some (some (.builtin "object.__setattr__")))
 (nI_costs:PySem.W.findIn K (.ref c_Market) "costs" = some none)
 (nI_turn_prices:PySem.W.findIn K (.ref c_Market) "turn_prices" = some none)
 (nI_visit_prices:PySem.W.findIn K (.ref c_Market) "visit_prices" = some none)
 (nI_taken:PySem.W.findIn K (.ref c_Market) "taken" = some none)
 (nI_holders:PySem.W.findIn K (.ref c_Market) "holders" = some none)
 (e_NoSpell:PySem.W.excIn K c_NoSpell [.type "ValueError", .type "Exception", .type "BaseException", .type "object"] "ValueError.__new__" = true)
 (e_NoBounds:PySem.W.excIn K c_NoBounds [.type "ValueError", .type "Exception", .type "BaseException", .type "object"] "ValueError.__new__" = true)
 (e_NoRule:PySem.W.excIn K c_NoRule [.type "ValueError", .type "Exception", .type "BaseException", .type "object"] "ValueError.__new__" = true)
 (e_NoRow:PySem.W.excIn K c_NoRow [.type "ValueError", .type "Exception", .type "BaseException", .type "object"] "ValueError.__new__" = true)
 (k_NoSpell:XAttr K c_NoSpell/\PySem.W.exmOne K (.ref c_NoSpell) (.ref c_ClanError)=some true/\PySem.W.kitAny K (.ref c_NoSpell) [.ref c_Known,.ref c_NoClan,.ref c_NoDistance,.ref c_NoLine,.ref c_NoName,.ref c_NoNumber,.ref c_NoRatio,.ref c_NoText,.ref c_TooLong,.ref c_TooMany]=some false/\PySem.W.kitOne K (.ref c_NoSpell) (.ref c_NoSpell)=some true/\PySem.W.kitOne K (.ref c_NoSpell) (.ref c_NoBounds)=some false/\PySem.W.kitOne K (.ref c_NoSpell) (.ref c_NoRule)=some false/\PySem.W.kitOne K (.ref c_NoSpell) (.ref c_NoRow)=some false/\PySem.W.kitOne K (.ref c_NoSpell) (.type "ValueError")=some true)
 (k_NoBounds:XAttr K c_NoBounds/\PySem.W.exmOne K (.ref c_NoBounds) (.ref c_ClanError)=some true/\PySem.W.kitAny K (.ref c_NoBounds) [.ref c_Known,.ref c_NoClan,.ref c_NoDistance,.ref c_NoLine,.ref c_NoName,.ref c_NoNumber,.ref c_NoRatio,.ref c_NoText,.ref c_TooLong,.ref c_TooMany]=some false/\PySem.W.kitOne K (.ref c_NoBounds) (.ref c_NoSpell)=some false/\PySem.W.kitOne K (.ref c_NoBounds) (.ref c_NoBounds)=some true/\PySem.W.kitOne K (.ref c_NoBounds) (.ref c_NoRule)=some false/\PySem.W.kitOne K (.ref c_NoBounds) (.ref c_NoRow)=some false/\PySem.W.kitOne K (.ref c_NoBounds) (.type "ValueError")=some true)
 (k_NoRule:XAttr K c_NoRule/\PySem.W.exmOne K (.ref c_NoRule) (.ref c_ClanError)=some true/\PySem.W.kitAny K (.ref c_NoRule) [.ref c_Known,.ref c_NoClan,.ref c_NoDistance,.ref c_NoLine,.ref c_NoName,.ref c_NoNumber,.ref c_NoRatio,.ref c_NoText,.ref c_TooLong,.ref c_TooMany]=some false/\PySem.W.kitOne K (.ref c_NoRule) (.ref c_NoSpell)=some false/\PySem.W.kitOne K (.ref c_NoRule) (.ref c_NoBounds)=some false/\PySem.W.kitOne K (.ref c_NoRule) (.ref c_NoRule)=some true/\PySem.W.kitOne K (.ref c_NoRule) (.ref c_NoRow)=some false/\PySem.W.kitOne K (.ref c_NoRule) (.type "ValueError")=some true)
 (k_NoRow:XAttr K c_NoRow/\PySem.W.exmOne K (.ref c_NoRow) (.ref c_ClanError)=some true/\PySem.W.kitAny K (.ref c_NoRow) [.ref c_Known,.ref c_NoClan,.ref c_NoDistance,.ref c_NoLine,.ref c_NoName,.ref c_NoNumber,.ref c_NoRatio,.ref c_NoText,.ref c_TooLong,.ref c_TooMany]=some false/\PySem.W.kitOne K (.ref c_NoRow) (.ref c_NoSpell)=some false/\PySem.W.kitOne K (.ref c_NoRow) (.ref c_NoBounds)=some false/\PySem.W.kitOne K (.ref c_NoRow) (.ref c_NoRule)=some false/\PySem.W.kitOne K (.ref c_NoRow) (.ref c_NoRow)=some true/\PySem.W.kitOne K (.ref c_NoRow) (.type "ValueError")=some true)
 (m_LEAST_BOUND:PySem.W.nsIn K mainGlobals "LEAST_BOUND" = some (some (.ref t_LEAST_BOUND)))
 (q_LEAST_BOUND:K.lookup t_LEAST_BOUND=some ⟨.type "tuple", od_LEAST_BOUND,.seq #[.int 0 u0_LEAST_BOUND,.int 1 u1_LEAST_BOUND] n_LEAST_BOUND,sl_LEAST_BOUND⟩)
 (m_MOST_BOUND:PySem.W.nsIn K mainGlobals "MOST_BOUND" = some (some (.ref t_MOST_BOUND)))
 (q_MOST_BOUND:K.lookup t_MOST_BOUND=some ⟨.type "tuple", od_MOST_BOUND,.seq #[.int 10 u0_MOST_BOUND,.int 1 u1_MOST_BOUND] n_MOST_BOUND,sl_MOST_BOUND⟩)
 (m_FIXED:PySem.W.nsIn K mainGlobals "FIXED" = some (some (.str "fixed" t_FIXED)))
 (m_BARRED:PySem.W.nsIn K mainGlobals "BARRED" = some (some (.str "barred" t_BARRED)))
 (m_MOST_SPELLS:PySem.W.nsIn K mainGlobals "MOST_SPELLS" = some (some (.int 8 t_MOST_SPELLS)))
 (m_MOST_CLANS:PySem.W.nsIn K mainGlobals "MOST_CLANS" = some (some (.int 8 t_MOST_CLANS)))
 (m_MOST_TURNS:PySem.W.nsIn K mainGlobals "MOST_TURNS" = some (some (.int 60 t_MOST_TURNS))):∃ c:Law.Cl,Txt c K mg:=
 ⟨⟨c_ClanError,c_NoRatio,c_NoText,c_NoSpell,c_NoRow,c_NoBounds,c_NoDistance,c_NoClan,c_TooLong,c_NoRule,c_NoLine,c_NoNumber,c_NoName,c_Known,c_TooMany,c_Market,cx0,tbx⟩,{
  toTxtD:=D,
  d_nearest:=⟨f38,_,zbz (st:=jQ) l38 c38 k38,Wa1 X G a38⟩,
  x_nearest:=⟨f38,_,zbz (st:=jQ) l38 c38 k38,Wa1 X G a38,rfl⟩,
  hdC:=fun h kh=>⟨_,vsx,flx,tx1,ix1,tx2,bx,ix2,tx3,kh _ _ q1,rfl,rfl,q2,q3,q4,q5,q6,q7,q8⟩,
  tab:=zky a38 l38 rfl q1 q2,
  nop:=q9,
  m_ClanError:=Wa1 X G m_ClanError,
  m_NoRatio:=Wa1 X G m_NoRatio,
  m_NoText:=Wa1 X G m_NoText,
  m_NoSpell:=Wa1 X G m_NoSpell,
  m_NoRow:=Wa1 X G m_NoRow,
  m_NoBounds:=Wa1 X G m_NoBounds,
  m_NoDistance:=Wa1 X G m_NoDistance,
  m_NoClan:=Wa1 X G m_NoClan,
  m_TooLong:=Wa1 X G m_TooLong,
  m_NoRule:=Wa1 X G m_NoRule,
  m_NoLine:=Wa1 X G m_NoLine,
  m_NoNumber:=Wa1 X G m_NoNumber,
  m_NoName:=Wa1 X G m_NoName,
  m_Known:=Wa1 X G m_Known,
  m_TooMany:=Wa1 X G m_TooMany,
  m_Market:=Wa1 X G m_Market,
  x_init:=⟨fI,_,zbz (st:=Jk) lI cI kI,⟨mI1,mI2,mI3,mI4⟩⟩,
  cl_M:=⟨cI1,cI2,cI3,cI4⟩,
  na_costs:=nI_costs,
  na_turn_prices:=nI_turn_prices,
  na_visit_prices:=nI_visit_prices,
  na_taken:=nI_taken,
  na_holders:=nI_holders,
  e_NoSpell:=e_NoSpell,
  e_NoBounds:=e_NoBounds,
  e_NoRule:=e_NoRule,
  e_NoRow:=e_NoRow,
  k_NoSpell:=k_NoSpell,
  k_NoBounds:=k_NoBounds,
  k_NoRule:=k_NoRule,
  k_NoRow:=k_NoRow,
  m_LEAST_BOUND:=⟨_,Wa1 X G m_LEAST_BOUND,_,_,_,q_LEAST_BOUND,rfl,rfl,by show(2:Nat)<=sizeLine;decide,(.cons ⟨_,rfl⟩ (.cons ⟨_,rfl⟩ .nil))⟩,
  m_MOST_BOUND:=⟨_,Wa1 X G m_MOST_BOUND,_,_,_,q_MOST_BOUND,rfl,rfl,by show(2:Nat)<=sizeLine;decide,(.cons ⟨_,rfl⟩ (.cons ⟨_,rfl⟩ .nil))⟩,
  m_FIXED:=⟨_,Wa1 X G m_FIXED⟩,
  m_BARRED:=⟨_,Wa1 X G m_BARRED⟩,
  m_MOST_SPELLS:=⟨_,Wa1 X G m_MOST_SPELLS⟩,
  m_MOST_CLANS:=⟨_,Wa1 X G m_MOST_CLANS⟩,
  m_MOST_TURNS:=⟨_,Wa1 X G m_MOST_TURNS⟩ }⟩
section
variable{P:Program}{w:World}{c:Law.Cl}{K:Ybf}{mg:#[15]}{base:Heap}
theorem zkX(T:Txt c K mg)(hB:BMod mg base)(kb:K.In base):#[8,dd_mend_visits c]:=zlY T hB kb
theorem zgi(T:Txt c K mg)(hB:BMod mg base)(kb:K.In base):#[8,dd_mended c]:=ziA T (zgJ T) (zlf T) (zhf T) (zjd T) (zj6 T) (zkX T hB kb) (zih T)
theorem zlB(T:Txt c K mg)(hB:BMod mg base)(kb:K.In base):#[8,dd_law_answer c]:=zia T (zgi T hB kb)
theorem zlX(T:Txt c K mg)(hB:BMod mg base)(kb:K.In base){f:Addr}{fd:FuncData}(F:Fun K "law" "law" zan f fd):FnOk P w K mg base (CXR P w) 9 f fd ["_law_script"] (spU c.tb K JC):=zgG T (zlN T) (zkM T) (zgo T) (zh2 T) (zhM T) (zdM T) (zhI T) (zll T) (zgj T) (zkc T) (zlB T hB kb) F
end
theorem walk{l:PySem.W.OpenLaw}{q:Program}{loose:List Str}{XP:(Str->Option Value)->Heap->Prop}{YP:World->Heap->Prop}{d dd:DefRec}{K:Params->Ybf}(hn:l.most=some 63)(hdf:d.params.defaults=[])(hdn:d.name = "law")
 (hrec:(recsOf q).find? (fun e=>e.name==("nearest" : Str))=some dd) (hY:∀ (w:World) (h:Heap),YP w h->(K w.params).In h)
 (F:∀ (w:World) (mg:#[15]) (h:Heap),(K w.params).In h->h.Ns mainGlobals mg->∃ c,Txt c (K w.params) mg) :
 PySem.W.WalkO q loose XP YP l.row.toRowW d [] (fun f vs=>PySem.call f vs):=by
 refine L3.zkC (n:=63) (k:=9) (x:="_law_script") (sp:=JC) hn #[1] hdf ⟨rfl,#[1],#[1]⟩ hY hrec (fun w mg fa h KX G hmg=>?_) (fun ns hl Q E hQ=>⟨ns,rfl,hl,hQ _⟩)
 obtain⟨c,T⟩:=F w mg h KX G;obtain⟨f,fd,Fn,hm⟩:=T.d_law;rw [hdn,hm] at hmg;cases hmg;have Fn':=Fn;obtain⟨oc,od,kV,doc,pm,an,cdv,ct,osl,rfl,lk,hcd⟩:=Fn.ex;exact⟨_,c.c0,c.tb,fun s u=>.of_eq rfl,T.tab,T.nop,fun base kb hB=>zlX T hB kb Fn'⟩
end Law
namespace PySem.W.Fast
def tw7805289504044350369:=0
def tw17431270566406051304:=0
def tw13389456174259076286:=0
def tw579093205643588394:=0
def tw9890795717084040241:=0
def tw9238087253676363456:=0
def tw2475304062153212483:=0
def tw14616292152077784348:=0
def tw12254582962144767720:=0
def tw12068860418068119893:=0
def tw12259986731432099401:=0
def tw9873843671998787347:=0
def tw3044452864233256270:=0
def tw3806251058137885235:=0
def tw6807874926718812301:=0
def tw17728416725030828758:=0
def tw3018199338693222533:=0
def tw10573303615636044455:=0
def tw15016263923508730897:=0
def tw11020859161837892527:=0
def tw13141545844743981908:=0
def tw10100386255540776380:=0
def tw16324871477177737800:=0
def tw4193500958426463689:=0
def tw10082679068511574260:=0
def tw496453784048205565:=0
def tw2042812654063470105:=0
def tw2322158138537949582:=0
def tw16543989065287964264:=0
def tw5929087933008952885:=0
def tw3249865134401189405:=0
def tw3772256948957159783:=0
def tw16104512095556094922:=0
def tw10043126439284713247:=0
def tw2934001557015223391:=0
def tw136779858507262744:=0
def tw13877230749411843514:=0
def tw14059855020471579042:=0
def tw14738196066208509842:=0
def tw8016485515545939426:=0
def tw11340275109359590846:=0
def tw7789070315258313477:=0
def tw751581250916174032:=0
def tw11027365513054224835:=0
def tw17757988143120592633:=0
def tw2143980558270645099:=0
def tw487253312626353725:=0
def tw6000213606806839986:=0
def tw15210859053918937094:=0
def tw782815966434072260:=0
def tw5605056494562513838:=0
def tw14602101966306211332:=0
def tw7142820723069736095:=0
def tw3266424883395959415:=0
def tw11003584323479711802:=0
def tw6999853891523978416:=0
def tw1874724480322004093:=0
def tw4033528094420670705:=0
def tw8573830003455891735:=0
def tw16818377871836758743:=0
def tw13055133283300370275:=0
def tw4078067760840364611:=0
def tw7992843110012101536:=0
def tw11580229717666506583:=0
def tw7359992086992260631:=0
def tw10761665083095906651:=0
def tw4604631758032932387:=0
def tw16678634122074224557:=0
def tw16482240937448575672:=0
def tw16540669815664332173:=0
def tw9686518308247174252:=0
def tw7772778312138698929:=0
def tw5935014809263422900:=0
def tw8665781107841604456:=0
def tw7784916229958421814:=0
def tw10993187756760932380:=0
def tw1451983914381268687:=0
def tw16376750991023381085:=0
def tw1047046246572211445:=0
def tw4715108854199951266:=0
def tw3753220765961605159:=0
def tw13902689971289433945:=0
def tw17078628045706366948:=0
def tw13370697967245128361:=0
def tw10356931132376975517:=0
def tw18387495373643829202:=0
def tw18385683260465518057:=0
def tw11574178208287906895:=0
def tw3403884553669577400:=0
def tw12571814213511381788:=0
def tw16912679462929976381:=0
def tw17897164946059258402:=0
def tw13823641187980138956:=0
def tw7211353488806715002:=0
def tw7927140858613102437:=0
def tw5666796273269687452:=0
def tw474204396372454340:=0
def tw2669529622660724543:=0
def tw12221017513966553346:=0
def tw16386063600639398701:=0
def tw11681894821585010703:=0
def tw16887257105891580851:=0
def tw6020442567539016699:=0
def tw1662109840050372481:=0
def tw17780624471828229319:=0
def tw17196972591742052177:=0
def tw16186968141269524799:=0
def tw12891783487683238091:=0
def tw18177799835303446472:=0
def tw11976865933132536836:=0
def tw9388414704218090775:=0
def tw3416828496842538811:=0
def tw5369134131910108638:=0
def tw18025392415696600785:=0
def tw3600712581386783029:=0
def tw10617864684197709848:=0
def tw12132066634581834934:=0
def tw9154370448641422223:=0
def tw5682109736732616733:=0
def tw16661121793536319101:=0
def tw5305290092891988537:=0
def tw16976773854504018122:=0
def tw11703473215184587459:=0
def tw12237311898239298113:=0
def tw12899099762986830804:=0
def tw6782879941163107919:=0
def tw9620398122074505594:=0
def tw8623904942364938070:=0
def tw3792892620551694804:=0
def tw9525844882545946729:=0
def tw6861296074442269820:=0
def tw7107725145692004464:=0
def tw9385486432063739542:=0
def tw9875237679581160880:=0
def tw11353402656323438345:=0
def tw12608230766010501480:=0
def tw6918782082804544472:=0
def tw5705529072690780905:=0
def tw13611721240184083908:=0
def tw848986179130528104:=0
def tw13161204991995330681:=0
def tw16722817579897797668:=0
def tw296438614675148409:=0
def tw2678215245819360066:=0
def tw9118348210761861580:=0
def tw8188856049857890578:=0
def tw13419716006000582172:=0
def tw12364851570412751357:=0
def tw13938793354367232268:=0
def tw12189529386449889203:=0
def tw15041944483931080733:=0
def tw8270070088144088299:=0
def tw11472625171199531217:=0
def tw16543120595193232741:=0
def tw7625947618756843067:=0
def tw17658863612098456404:=0
def tw12387634078361749086:=0
def tw7638549696470614216:=0
def tw15367746981461477393:=0
def tw14892320617087852:=0
def tw14715707649482647246:=0
def tw10028471486369133206:=0
def tw15771841307427385521:=0
def tw7718586371312914857:=0
def tw9529310572528042300:=0
def tw15084420835867979239:=0
def tw2501965494263488398:=0
def tw6830873242175293212:=0
def tw193190784099092703:=0
def tw15175233854089806993:=0
def tw13625726996262017822:=0
def tw13074014067605330227:=0
def tw14696001075228072700:=0
def tw9289323250596189884:=0
def tw10032857867459424794:=0
def tw1003625226110382621:=0
def tw10064250796827543883:=0
def tw1007326740260461568:=0
def tw10087948238145493701:=0
def tw10288914326943441806:=0
def tw10334022281331720380:=0
def tw10346961639923803881:=0
def tw10351008440632869347:=0
def tw10382215055627318608:=0
def tw10501457091695477403:=0
def tw10582689897221698887:=0
def tw10593166872137487780:=0
def tw10675224014327681181:=0
def tw10680469387515425998:=0
def tw10703789124187495213:=0
def tw10712276731141171681:=0
def tw1078523591403113747:=0
def tw10921236899979837603:=0
def tw10939459728427292659:=0
def tw10990689500997808905:=0
def tw11043366519715223884:=0
def tw11102480097703255294:=0
def tw11152656590787016577:=0
def tw11169333274505261008:=0
def tw11185866882109124381:=0
def tw11234259074792843175:=0
def tw11269279509263366712:=0
def tw11291961308358509187:=0
def tw11366162954057210732:=0
def tw11445295055360710482:=0
def tw11480547579183609671:=0
def tw1149809957080135186:=0
def tw11501462039899563456:=0
def tw11505394922305914327:=0
def tw11576303101228040285:=0
def tw115842343265585326:=0
def tw11697036549039486970:=0
def tw11778712490401779995:=0
def tw11864990025405151862:=0
def tw11901856631683834764:=0
def tw11955533927852749520:=0
def tw12016799786653313971:=0
def tw12019402421996944705:=0
def tw12098042932039594716:=0
def tw12132618236331731390:=0
def tw12152636918704041894:=0
def tw12197737036121327767:=0
def tw12216704112637476668:=0
def tw12262413365727085559:=0
def tw12278876163006037971:=0
def tw12317412892668454523:=0
def tw12334347585510422490:=0
def tw12420444501582497007:=0
def tw12442179610828764334:=0
def tw12455056902928420905:=0
def tw12581821054339359083:=0
def tw12585916832980922105:=0
def tw12676865811333274902:=0
def tw12827788171945338732:=0
def tw12882108732848252754:=0
def tw12885907842708745689:=0
def tw12978079341814539406:=0
def tw13051356657616993084:=0
def tw13093287060315834708:=0
def tw13100519064575555890:=0
def tw13138689569942202898:=0
def tw13215919218608402755:=0
def tw13229865522524121049:=0
def tw13277527241273159366:=0
def tw13469064583038414065:=0
def tw13492662602023710684:=0
def tw13505020226803919125:=0
def tw1350794570886058468:=0
def tw13509063369385348882:=0
def tw13523234336935605301:=0
def tw13532965523375439000:=0
def tw13578220812748279431:=0
def tw13636984537805928382:=0
def tw1365340911857574340:=0
def tw13666680768031780396:=0
def tw13706814618539681817:=0
def tw13748081089143195190:=0
def tw13827792859038620490:=0
def tw13830962296208780247:=0
def tw13918322047933231404:=0
def tw14016177788058723122:=0
def tw14022565003751410833:=0
def tw14033937219362872398:=0
def tw14047587251820774904:=0
def tw14048957044883864390:=0
def tw14141642630375548820:=0
def tw14154856316704365499:=0
def tw14211602271546916524:=0
def tw14217472770572625377:=0
def tw14281781772001300063:=0
def tw14290278469748678617:=0
def tw14375739065950272464:=0
def tw14390292855627271126:=0
def tw14392866863853056256:=0
def tw14437290756941859624:=0
def tw14533849214741511469:=0
def tw14536732468361372250:=0
def tw14568137065779960641:=0
def tw14612564708458851613:=0
def tw14678624561068668643:=0
def tw14694489364187769665:=0
def tw14720526623646667734:=0
def tw14742939828218291816:=0
def tw14745362820457917074:=0
def tw14747729817270234787:=0
def tw14811828497761988064:=0
def tw14914201553788944470:=0
def tw14953801609196328281:=0
def tw1499044718959680209:=0
def tw15053990229988901653:=0
def tw15063685160518910620:=0
def tw1509042827411549721:=0
def tw151197057105982414:=0
def tw15122157434944621262:=0
def tw1519294709508447673:=0
def tw15368979114999714274:=0
def tw15388177200790885468:=0
def tw15405508444269750813:=0
def tw15407919856542569420:=0
def tw15422074020567198351:=0
def tw15422313496375012750:=0
def tw1542996825142018709:=0
def tw15448222467712433313:=0
def tw15449204013792272710:=0
def tw15495875266834044389:=0
def tw15505113028959234180:=0
def tw15512469298277811038:=0
def tw15700439616022940032:=0
def tw15712758229198347830:=0
def tw15750987677918672328:=0
def tw15784859294552613681:=0
def tw15842241098162188345:=0
def tw15848288938423894134:=0
def tw1588869646743305240:=0
def tw15949305479106831223:=0
def tw15956225019349696830:=0
def tw16063170927040408272:=0
def tw16066912143932213630:=0
def tw16080157599208523095:=0
def tw16082505807591606796:=0
def tw16103151341159592582:=0
def tw16318112861271950158:=0
def tw16350953986399684681:=0
def tw16356804851652027980:=0
def tw16418385587678592795:=0
def tw16438946266819259519:=0
def tw1646270605413310302:=0
def tw16466968331557599402:=0
def tw16512220115537063455:=0
def tw16569305736533167655:=0
def tw16656954552155946213:=0
def tw16738574766748525452:=0
def tw16792571926351310003:=0
def tw16869950776811204113:=0
def tw16871742503803912432:=0
def tw16921635893960910680:=0
def tw16991814027086803350:=0
def tw17021311324949396328:=0
def tw17043198132562310281:=0
def tw17053590128502126615:=0
def tw17061048846326748394:=0
def tw17067863532019733032:=0
def tw17103273026627893143:=0
def tw17122231020282035129:=0
def tw17136816228663935500:=0
def tw17201882663417812636:=0
def tw1733336902595258263:=0
def tw17461543127224596214:=0
def tw1776119003860340445:=0
def tw17863162871621035799:=0
def tw17928642057704880868:=0
def tw17953880926830123224:=0
def tw17978445379795001092:=0
def tw17986972320512954440:=0
def tw18063987466323004326:=0
def tw18131650441098849386:=0
def tw18157757383468882077:=0
def tw18242901006380819839:=0
def tw18260808078028814726:=0
def tw18284188479748031665:=0
def tw18286804564519954100:=0
def tw18322382034498569087:=0
def tw18331384864502178381:=0
def tw18343199329945511161:=0
def tw18351180540006799060:=0
def tw18382571078045529836:=0
def tw18393765958721830961:=0
def tw18411453903405997339:=0
def tw18426021637965806260:=0
def tw185885768830373787:=0
def tw189817992596382129:=0
def tw1910592517962062138:=0
def tw1965898315200922748:=0
def tw1984133217852373057:=0
def tw1994948001977892777:=0
def tw2096529225142972696:=0
def tw2271112783841896930:=0
def tw2281975822740137441:=0
def tw2410777192751771331:=0
def tw2681698292014086609:=0
def tw2730787786389793976:=0
def tw2731141270665692717:=0
def tw2865471739399143062:=0
def tw2866427544534968731:=0
def tw2885443295743335218:=0
def tw3098902201162712883:=0
def tw3118480600106905799:=0
def tw3164556631225127311:=0
def tw3223066139880364805:=0
def tw3240457017304777602:=0
def tw325619278246495757:=0
def tw3288702615441799217:=0
def tw3393295999013213399:=0
def tw340121188092528023:=0
def tw345622399167661539:=0
def tw3472972442480232745:=0
def tw3501566344325288048:=0
def tw3502329739057119179:=0
def tw3772539427816794902:=0
def tw3824626631203758910:=0
def tw382871122456386975:=0
def tw3856739429681968666:=0
def tw3938264544331783720:=0
def tw39659096812627988:=0
def tw3969221331228074844:=0
def tw3973565594135511431:=0
def tw4053987521969468540:=0
def tw4055463964105757215:=0
def tw451400986912481112:=0
def tw4514091480594181111:=0
def tw4568393627247625976:=0
def tw4597964575198519974:=0
def tw4617573474657917963:=0
def tw4736454930718409141:=0
def tw4753826248453380926:=0
def tw477429137714484306:=0
def tw4782112246583687162:=0
def tw4795179949444572889:=0
def tw4921970602202709877:=0
def tw4928647176352635117:=0
def tw4943338129268565368:=0
def tw4982916145076206650:=0
def tw4992020580132647011:=0
def tw5008008111731533687:=0
def tw5089293778806039615:=0
def tw5107351748610819138:=0
def tw5111319795680120612:=0
def tw5130856374407909161:=0
def tw5136396469196804609:=0
def tw5259967012738883903:=0
def tw5319919615466827887:=0
def tw5328668442312660798:=0
def tw5364688585098955156:=0
def tw5477041655795684438:=0
def tw5501070751239674688:=0
def tw5523838068142227401:=0
def tw563810421366744598:=0
def tw568690495696526714:=0
def tw5704411489486987095:=0
def tw5710114771656074545:=0
def tw5720361899947589351:=0
def tw5743805268677812978:=0
def tw5832630123055258805:=0
def tw5833924047285198219:=0
def tw5913752383545656679:=0
def tw5931694686074126575:=0
def tw5987810976394639592:=0
def tw598863998554640323:=0
def tw604789498984986949:=0
def tw6055686019788945666:=0
def tw6057133001073390082:=0
def tw6081327479827361504:=0
def tw6085347558887637657:=0
def tw6188403899269013368:=0
def tw6227756804551691530:=0
def tw632712519878033198:=0
def tw6372136736948901372:=0
def tw639876261376096486:=0
def tw6413996685600196377:=0
def tw6423370046029313064:=0
def tw6466770148010173690:=0
def tw6472129671597678169:=0
def tw6546496444323859195:=0
def tw6564597973964902701:=0
def tw6573930177850793421:=0
def tw6596244563453537616:=0
def tw6606852550193745705:=0
def tw6634342929197817278:=0
def tw6712495136806661851:=0
def tw6753801561256805489:=0
def tw6766321458456088998:=0
def tw6780630915521663377:=0
def tw6799316178769473937:=0
def tw6809117519670977283:=0
def tw6817897100539436962:=0
def tw6865135442974432776:=0
def tw6965142644208279467:=0
def tw6977293929937784008:=0
def tw6991175901578281519:=0
def tw7052863699942206895:=0
def tw7078789510974133598:=0
def tw7242932215066443160:=0
def tw7257061773197344624:=0
def tw7258292499954390316:=0
def tw731536728558192160:=0
def tw7398075235787598817:=0
def tw7424499654126879093:=0
def tw7505634991562845748:=0
def tw7605396806139939431:=0
def tw7648762539095413457:=0
def tw7653022506926126603:=0
def tw7734513596915625207:=0
def tw7770794673948234091:=0
def tw7820488670017559450:=0
def tw7821060636794271961:=0
def tw7928782568152466048:=0
def tw8011703835326920258:=0
def tw803206100140962402:=0
def tw8171869735053649692:=0
def tw8239633859575375218:=0
def tw8250068462148472425:=0
def tw8267929166988456902:=0
def tw8279516229783430370:=0
def tw8286211784629858351:=0
def tw8306034680334599763:=0
def tw8317939054201108527:=0
def tw8354517570110846757:=0
def tw8364152721051007202:=0
def tw8527521726456628143:=0
def tw8540011379723440315:=0
def tw858883056324560609:=0
def tw8645067465488011552:=0
def tw8700123845930285246:=0
def tw8704520818243546067:=0
def tw8788243039742008839:=0
def tw8814343509942092638:=0
def tw8872863075570245472:=0
def tw9013786583719577309:=0
def tw905459309111947742:=0
def tw9056169061124300:=0
def tw9351823909852139081:=0
def tw9394703895733506181:=0
def tw9398320681307141256:=0
def tw9403982041242008711:=0
def tw941159462493038591:=0
def tw9413691801912093219:=0
def tw9535206775560782215:=0
def tw9561342903351102036:=0
def tw9599551896968803588:=0
def tw9637986253411228299:=0
def tw9659129050256738530:=0
def tw9709100128942644009:=0
def tw9720373199566403771:=0
def tw9757841876430145627:=0
def tw9771086287734485494:=0
def tw9788848738396282619:=0
def tw9791843984839541138:=0
def tw979382276690830082:=0
def tw987949375283966554:=0
def tw9888759810685529945:=0
def tw9906318586752594567:=0
def tw9908187659488088522:=0
def tw9918089160659601463:=0
def tw9983214469906355552:=0
end PySem.W.Fast
theorem PySem.W.Fast.te17233064822403376284:True:=trivial
abbrev PySem.W.Fast.tw8547664177377514186:PySem.Program:=PySem.Challenge.pw_chairclans_k38_mended_refused
theorem PySem.W.Fast.te8547664177377514186:PySem.Challenge.pw_chairclans_k38_mended_refused=PySem.W.Fast.tw8547664177377514186:=rfl
open PySem PySem.W PyProof.Rows
set_option maxRecDepth 100000 in
set_option maxHeartbeats 0 in
theorem PySem.Challenge.cw_chairclans_k38_mended_refused_holds : PySem.Challenge.rw_chairclans_k38_mended_refused.Holds := by
 w_on;o_law;k_head;(case hw=>w_witness2)
 k_fill
 refine Law.walk (l:=PySem.Challenge.rw_chairclans_k38_mended_refused) rfl rfl rfl rfl (fun w h Y=>PySem.W.km_in_of Y) ?F
 case F=>
  intro w mg h KX G;refine' Law.zk7 KX G ?D ?a38 ?l38 ?c38 ?k38 ?q1 ?q2 ?q3 ?q4 ?q5 ?q6 ?q7 ?q8 ?q9 ?m_ClanError ?m_NoRatio ?m_NoText ?m_NoSpell ?m_NoRow ?m_NoBounds ?m_NoDistance ?m_NoClan ?m_TooLong ?m_NoRule ?m_NoLine ?m_NoNumber ?m_NoName ?m_Known ?m_TooMany ?m_Market ?mI2 ?lI ?cI ?kI ?mI1 ?mI3 ?mI4 ?cI1 ?cI2 ?cI3 ?cI4 ?nI_costs ?nI_turn_prices ?nI_visit_prices ?nI_taken ?nI_holders ?e_NoSpell ?e_NoBounds ?e_NoRule ?e_NoRow ?k_NoSpell ?k_NoBounds ?k_NoRule ?k_NoRow ?m_LEAST_BOUND ?q_LEAST_BOUND ?m_MOST_BOUND ?q_MOST_BOUND ?m_FIXED ?m_BARRED ?m_MOST_SPELLS ?m_MOST_CLANS ?m_MOST_TURNS
  (case D=>constructor<;>first|(refine' Law.zks KX G ?a ?l ?c ?k;(case a|l|c|k=>k_is))|exact PySem.W.mg_none_of KX G (by k_is))
  (case a38|l38|c38|k38|q1=>k_is)
  (case q2|q3|q4|q5|q6|q7=>rfl)
  (case q8=>decide)
  (case q9=>kernel_rfl)
  (case m_ClanError|m_NoRatio|m_NoText|m_NoSpell|m_NoRow|m_NoBounds|m_NoDistance|m_NoClan|m_TooLong|m_NoRule|m_NoLine|m_NoNumber|m_NoName|m_Known|m_TooMany|m_Market|mI2|lI|cI|kI|mI1|mI3|mI4|cI1|cI2|cI3|cI4|nI_costs|nI_turn_prices|nI_visit_prices|nI_taken|nI_holders=>k_is)
  (case e_NoSpell|e_NoBounds|e_NoRule|e_NoRow=>k_exc)
  (case k_NoSpell|k_NoBounds|k_NoRule|k_NoRow=>exact⟨⟨by k_is,by k_is,by k_is,by k_is,by k_is,by k_is⟩,by kts_exm,by kit_is,by kit_is,by kit_is,by kit_is,by kit_is,by kit_is⟩)
  (case m_LEAST_BOUND|q_LEAST_BOUND|m_MOST_BOUND|q_MOST_BOUND|m_FIXED|m_BARRED|m_MOST_SPELLS|m_MOST_CLANS|m_MOST_TURNS=>k_is)